import PyProof.Rows.All
import Wide.All
import OpenK.AllK
import Wide.FinOn
import Lean
import PyProof.EqAt
import PyProof.EqKinds
import PyProof.TupleCall
import PyProof.CompFree
import KE.KIsAll
import PyProof.AttrMiss
import PyProof.IsiH_list
import KE.KDictOf
import PyProof.ConsumeWalk
import PyProof.Rows.SetFrom
import PyProof.NeKinds
import PyProof.AutoListH
import PyProof.EnumMake
import PyProof.EnumFor
import PyProof.EnumStmt
import PyProof.LayNew
import PyProof.Rows.EnumRows
import KE.KDictList
import KE.KItemsList
import PySem.Challenge.RW_homeward_k32_takes_draw_back
set_option linter.all false
set_option Elab.async false
def zA0:=@List.count_append
def zA1:=@Option.bind_eq_some_iff
def zA2:=@PySem.Heap.get?_push_of_some
def zA3:=@Nat.le_refl
def zA4:=@List.getElem?_eq_some_iff
def zA5:=@List.size_toArray
def zA6:=@List.mem_cons_of_mem
def zA7:=@PySem.Heap.lt_size
def zA8:=@Nat.lt_of_lt_of_le
def zA9:=@List.mem_append
def zAa:=@List.mem_cons_self
def zAb:=@of_decide_eq_true
def zAc:=@Nat.zero_add
def zAd:=@Nat.le_trans
def zAe:=@List.length_append
def zAf:=@List.length_map
def zAg:=@List.append_nil
def zAh:=@Option.map_eq_some_iff
def zAi:=@Bool.and_eq_true_iff
def zAj:=@Nat.ne_of_lt
def zAk:=@Bool.false_ne_true
def zAl:=@List.mem_singleton
def zAm:=@List.length_cons
def zAn:=@List.mem_cons
def zAo:=@List.count_cons
def zAp:=@List.mem_range
def zAq:=@decide_eq_true
def zAr:=@List.append_assoc
def zAs:=@List.take_of_length_le
def zAt:=@List.getElem?_append_left
def zAu:=@List.lookup_cons
def zAv:=@List.mem_append_right
def zAw:=@beq_self_eq_true
def zAx:=@List.map_cons
def zAy:=@PySem.Heap.get?_push_size
def zAz:=@List.forall_mem_cons
def zB0:=@List.mem_of_getElem?
def zB1:=@List.mem_filter
def zB2:=@Array.length_toList
def zB3:=@Array.toList_append
def zB4:=@List.length_range
def zB5:=@Nat.le_of_lt
def zB6:=@List.cons_merge_cons
def zB7:=@Option.isSome_iff_exists
def zB8:=@List.getElem?_map
def zB9:=@of_decide_eq_false
def zBa:=@List.take_append_drop
def zBb:=@List.mem_map
def zBc:=@List.map_append
def zBd:=@List.all_eq_true
def zBe:=@Bool.and_eq_true
def zBf:=@decide_eq_true_eq
def zBg:=@List.getElem?_set_ne
def zBh:=@PySem.Heap.get?_update_other
def zBi:=@List.nil_append
def zBj:=@decide_eq_false
def zBk:=@Nat.zero_le
def zBl:=@beq_iff_eq
def zBm:=@List.getElem?_eq_getElem
def zBn:=@Array.perm_iff_toList_perm
def zBo:=@List.forall_mem_append
def zBp:=@List.replicate_succ
def zBq:=@List.eraseIdx_eq_take_drop_succ
def zBr:=@List.nodup_append
def zBs:=@beq_eq_false_iff_ne
def zBt:=@PySem.Heap.get?_update_self
def zBu:=@List.not_mem_nil
def zBv:=@List.cons_append
def zBw:=@Nat.le_of_lt_succ
def zBx:=@List.find?_cons
def zBy:=@List.getElem?_set_self
def zBz:=@List.length_take
def zC0:=@Nat.le_of_not_lt
def zC1:=@Nat.succ_le_succ
def zC2:=@decide_eq_decide
def zC3:=@Nat.lt_irrefl
def zC4:=@Nat.lt_of_le_of_lt
def zC5:=@List.drop_eq_getElem_cons
def zC6:=@List.mem_append_left
def zC7:=@Int.emod_eq_of_lt
def zC8:=@List.flatten_cons
def zC9:=@List.pairwise_map
def zCa:=@Nat.lt_of_succ_lt
def zCb:=@Nat.not_lt_zero
def zCc:=@Nat.sub_le
def zCd:=@List.nodup_cons
def zCe:=@Nat.le_of_eq
def zCf:=@List.filterMap_cons
def zCg:=@Nat.mod_eq_of_lt
def zCh:=@Int.emod_lt_of_pos
def zCi:=@List.findIdx?_cons
def zCj:=@List.length_nil
def zCk:=@List.any_cons
set_option genSizeOf false
set_option genInjectivity false
set_option maxRecDepth 100000
noncomputable section
structure PySem.W.Fast where
 (tw11072389951879673436 tw14545884942550225447 tw6946785211390913714 tw16986925440079793288 tw810587261391607363 tw1537389004734618748 tw14815455888769521533 tw14368470624053628877 tw11937814070657570969 tw6373435305237172563 tw5739325046849661620 tw11803845249318693095 tw7394488647335354122 tw17108388885614225783 tw9910657454325029557 tw17672437829185149199 tw3208375447857883934 tw16073670248871275604 tw4592437079793536049 tw2788052443143134324 tw623174498072701089 tw2153680638839789289 tw13572809158314276462 tw8183082946296942513 tw11112889791057518019 tw5504955516186255975 tw4344628327986396820 tw12268022008489084303 tw5524848114405319138 tw7521351372452363704 tw16826865886256483451 tw14058707466666715628 tw12034531169717702915 tw14278135902482738209 tw5413888829323509874 tw8128766356894151210 tw15545773782065691357 tw3555425903010836148 tw6901536453512505117 tw3380414671039426583
 tw1946300988384241135 tw15448368268299239487 tw15908743438206647698 tw17676382731959153027 tw5733484992499598686 tw2896741156312426066 tw7647543501692143893 tw15920828592361917250 tw5027591734765000919 tw6733676023395173247 tw4715499891732324538 tw4238067230030223332 tw1369195542570822695 tw14537371136312832781 tw1243836503110365776 tw4857853992100540517 tw10690584699201372923 tw2333101378131258257 tw11126393491605134470 tw9369687945859711069 tw5977449191460535372 tw11702707088131363102 tw14485632632888946349 tw9932017704914978241 tw2507266961439799383 tw7517978721164981341 tw5207380225751448811 tw5754416064871417285 tw17185866483516010120 tw7195393059131876965 tw7355684587713710003 tw17562051128499199747 tw13809712392830404893 tw18209607934566489513 tw16751620342403174716 tw9997794690245222829 tw11159067333523668166 tw115680419337240328 tw10413660422520570060 tw601913735681666006
 tw11830191146650857260 tw17325197313435869739 tw11400889928980725061 tw8717062472006329948 tw11903722767665748054 tw15314887637363424232 tw4774709528215056824 tw15087147589213088235 tw4308746949236430991 tw18421208507078220010 tw90254337479108379 tw14446445680127892732 tw9791778509102713005 tw15478616079364112841 tw10219566271598468893 tw12813158619107767120 tw13203489791497401973 tw13557698981467951020 tw12703414560664320292 tw6868722349377459487 tw3342812748106243003 tw12317210447085056631 tw8450579772659977138 tw17557461124134060712 tw1577959167804959763 tw17074363837570544341 tw12193429645341659609 tw7208791166509863576 tw9843979174155365166 tw6801722219838575261 tw5439552878341936048 tw12622526602280355372 tw1959978887659752056 tw2331184259096928278 tw7497740871611116005 tw10063438752576996872 tw2561016280409372458 tw3753850065839683054 tw1097709681464827198 tw11284018326177030116
 tw13909547711079621312 tw11868922146182461419 tw7142242313849330395 tw5239982493017289341 tw4065471702668136704 tw11958698087812520128 tw6786235504581947438 tw687533056661689007 tw9251026139346537919 tw3642730430952801166 tw11833051811318837899 tw17443600795857593037 tw11588341821630991464 tw12495937125185202717 tw14203548210201651976 tw9929324485532476504 tw3402298203822528047 tw18138771563939875289 tw922835790405573366 tw15510484511291459928 tw12657558828587659816 tw13260682534423294700 tw4794435373545898234 tw5960199991854494466 tw5359051964846565443 tw5856157629758170190 tw18146313468266402714 tw10325025996209352224 tw1687634461042293025 tw9599088788293630145 tw11383619814585631286 tw7429559204426422633 tw14602996611406418341 tw13908440526562281658 tw7453771230860199628 tw17997447696979243207 tw10168717749755523522 tw13724231477787229920 tw11618385717602107077 tw10118100808354872828
 tw16524127311134656751 tw16027568449499982783 tw14951071885539772853 tw12593002617718529945 tw9048178790990616902 tw6568404816926321417 tw11732881377182728052 tw14233343424247900441 tw9954069493809385329 tw16303103070107938834 tw13053295399321652939 tw10467237841204928015 tw8516182424038489907 tw8396711403775770948 tw5202634253938380468 tw5136876052021430309 tw17460817476307338680 tw1690746520490150435 tw12303362350330796979 tw11244497225364360666 tw10366106137837082869 tw5415249380431894236 tw3957046460467547073 tw11324779363930333586 tw699533275045403142 tw2965933008002633317 tw494428444844367195 tw13207486590963211421 tw16125215380779911866 tw16558906943398901611 tw8647823709903241144 tw6316892260565913574 tw4520173572011566523 tw3780221072874678018 tw2509298651632419102 tw17785940124282563974 tw14367187605484254302 tw7568507128828864202 tw18360694043464767566 tw9432498915708566002
 tw13639230537169362797 tw1880900587047400503 tw4270113590048726421 tw4090290946728856525 tw3072114091420308294 tw2948685503834640740 tw12304909923515086286 tw3208963476125788796 tw12717478046666292010 tw14713495296588454123 tw5200455528681339594 tw3369182889283033342 tw18292974089351851124 tw5945151239241160771 tw2240262827545501041 tw16345316560849705391 tw17645839755805310901 tw8908160651668750 tw4005487993728071320 tw2001270518258749766 tw15703561715599655612 tw6045199361995263142 tw9753941614958141753 tw6780637536424339871 tw15666004147249059728 tw11713336276511509176 tw10789727742671749297 tw10487165850015411355 tw13912841611781777443 tw4608154869298925573 tw8991008171709238001 tw6988945584683901654 tw3415050153042303144 tw13427355086230164492 tw11205661371414950909 tw10857741424400437860 tw2495444741571512816 tw11601215007770041409 tw14266294983964658747 tw13084232956362359230
 tw4831925610389737840 tw9912406048138763679 tw8722095227699464407 tw8368242848547943117 tw657990031216620141 tw6288762518635116668 tw4407804267812384945 tw3778894611734406035 tw3510667146439998835 tw3205310670519846310 tw2502006343103593797 tw17410358403869642773 tw15772033068330620925 tw15703347886262402536 tw1566584484733665235 tw14755939033883435286 tw14636493392119362216 tw14278083478218505969 tw13698649404496883228 tw13091653864663278738 tw1303959759048848573 tw13018321952414912380 tw1298388643192287052 tw17821064896317285243 tw13802652900768492561 tw4963512950082300630:Nat)
abbrev N'(x:PySem.Str):Prop:=(x == ("__debug__" : PySem.Str))=false
abbrev γ:=PySem.Addr
abbrev V':=PySem.Value
abbrev δ:=PySem.Shared
abbrev ε:=PySem.FuncData
open PySem renaming wpAny_bind→G',wpAny_pure→Ld,starEach→Lf,sizeLine→Lg,compareOp→Lh,foldedSetIterable→Li,wpAny_holding→Lj,bootBuiltins→Ll,wpAny_truthy_bool→Lm,attributeBase→Ln,sizeLine_eq→Lp,mainGlobals→Lq,wpAny_loadPart_at→Lr,sysModules→Ls,keywordEach→Lu,wpAny_mono→Lv,wpAny_passesOwn→Lw,call_meets→Lx,assignEach→Ly,binaryOp→Lz,wpAny→L5,model→L6,Program→L7,Around→L8,World→L9,Expr→Ma,Stmt→Mb
open PyProof.Rows renaming wpS_bind→Mc,wpS_pure→Me,wpS_forRange→Mf,pendingOf→Mg,wpS_mono→Mh,failedOf→Mi,wpS_modify→Mj,arrOf→Ml,Keyed→Mm,SortSt→Mn,kindOf→Mo,setArr→Mp,setPending→Mq
open _root_.List renaming replicate→Mr,range→Ms,merge→Mt,lookup→Mu,length→Mv,take_sublist→Mw,take_add_one→Mx,map_map→Mz,length_drop→M3,take_length→M4,all_cons→M5,filter_cons_of_neg→M6,filter_cons_of_pos→M7,drop_of_length_le→M8,eraseIdx_sublist→M9,length_set→M',foldl→Na,range_succ→Nb,count_nil→Nc,drop_zero→Nd,map_take→Nf,perm_ext_iff_of_nodup→Ng,filter_congr→Nh,pairwise_iff_getElem→Ni,nodup_range→Nj,drop_length→Nk,sublist_append_left→Nl,of_mem_zip→Nm,length_singleton→Nn,set_append_right→No,drop_drop→Np,set_append_left→Nq,mem_of_mem_take→Nr,mergeSort_perm→Nt,map_nil→Nu,getD→Nv,contains_cons→Nw,set_set→Nx,filterMap_map→Ny,map_singleton→Nz,getElem_take→N0,getElem_drop→N1,getElem_inj→N2,countP_cons→N3,any_eq_true→N4,merge_right→N5,foldl_cons→N6,countP_map→N7,nodup_nil→N8,nil_merge→N9,take_take→Oa,take_zero→Ob,mapM_cons→Oc,filterMap→Oe,map_drop→Of,take_add→Og,any_map→Oh,all_map→Oi
open PySem.Value renaming ref→Oj,none→Ol,builtin→Om,int→On,bool→Oo,str→Op,type→Oq,notImplemented→Os,float→Ot,isStrOf→Ou,isInt→Ov,bytes→Ow
open And renaming imp_right→Ox
open Option.some renaming inj→Oy
open PySem.PassesOwn renaming leaving→Oz
open PySem.W renaming Frag→O0,kitOne→O1
open PySem.F renaming plainAttrs_list→O2,slot_list_append→O3,type_list_append→O4,slot_list_index→O5,type_list_index→O6,sub_tuple_dict→O7,slot_list_count→O8,slot_dict_get→O9,slot_dict_eq→Pa,slot_dict_ne→Pb,slot_tuple_eq_refl→Pc,slot_tuple_ne_refl→Pd,excAttr_ValueError→Pe,type_list_count→Pf,args_dict_get_3→Pg,entry_dict_get→Ph,sub_dict_tuple→Pi,args_dict_eq_2→Pj,args_dict_ne_2→Pk,slot_list_pop→Pm,slot_int_rmul→Pn,sub_dict_dict→Po,entry_dict_eq→Pq,entry_dict_ne→Ps,entry_bexc_ga→Pt,args_bexc_ga→Pu
open PySem.NameKind renaming free→Pw,cell→Px
open False renaming elim→Py
open Or renaming inr→Pz,inl→P0
namespace L2
open PySem PySem.Spec PyProof.Rows
variable{M:Model}{N:List Str}{base:Heap}{body:List Mb}{ch fp:List γ}{i n t':Nat}{kw:List (Str×V')}{mg:Str->Option V'}{op:CmpOp}{pl:Sem Bool}{us:List V'}
abbrev Key:=Sum Int Str
noncomputable def Gs:Key->V'->Bool
 | .inl k,v=>Ov k v
 | .inr x,v=>Ou x v
noncomputable def keyH(w:L9):Key->Int
 | .inl k=>hashInt k
 | .inr x=>hashStr w x
theorem qd3:∀{k:Key}{v:V'},Gs k v=true->(∃ i t,k=Sum.inl i/\v=On i t)∨(∃ x t,k=Sum.inr x/\v=Op x t)
 | .inl i,v,h=>by
   obtain⟨t,e⟩:=Value.isInt_shape (k:=i) (v:=v) h;exact .inl ⟨i,t,rfl,e⟩
 | .inr x,v,h=>by
   obtain⟨t,e⟩:=Value.isStrOf_shape (x:=x) (v:=v) h;exact .inr ⟨x,t,rfl,e⟩
theorem qan5(i:Int)(t:Tok):Gs (.inl i) (.int i t)=true:=by simp[Gs,Ov]
theorem qan4(x:Str)(t:Tok):Gs (.inr x) (.str x t)=true:=by simp[Gs,Ou]
theorem qaV3(a b:Int):decide ((Sum.inl a:Key)=Sum.inl b)=(a == b):=by
 by_cases e:a=b
 . subst e;simp
 have h:¬ (Sum.inl a:Key)=Sum.inl b:=λ q=>e (Sum.inl.inj q)
 rw[zBj h];exact(zBs.mpr e).symm
theorem qaV0(a b:Str):decide ((Sum.inr a:Key)=Sum.inr b)=decide (a=b):=by
 by_cases e:a=b
 . subst e;simp
 have h:¬ (Sum.inr a:Key)=Sum.inr b:=λ q=>e (Sum.inr.inj q)
 rw[zBj h,zBj e]
theorem qaV2(a:Int)(b:Str):decide ((Sum.inl a:Key)=Sum.inr b)=false:=zBj (λ q=>nomatch q)
theorem qaV1(a:Str)(b:Int):decide ((Sum.inr a:Key)=Sum.inl b)=false:=zBj (λ q=>nomatch q)
def qf9(prog:L7)(w:L9):PySem.KeyKind prog w Key where
 is:=Gs
 hash:=keyH w
 inj:=λ v a b g f=>by
   rcases qd3 g with⟨i,t,rfl,rfl⟩ | ⟨x,t,rfl,rfl⟩
   . rcases qd3 f with⟨j,u,rfl,e⟩ | ⟨y,u,rfl,e⟩
     . injection e with c _;rw[c]
     exact nomatch e
   rcases qd3 f with⟨j,u,rfl,e⟩ | ⟨y,u,rfl,e⟩
   . exact nomatch e
   injection e with c _;rw[c]
 byValue:=λ k v h=>by
   rcases qd3 h with⟨i,t,rfl,rfl⟩ | ⟨x,t,rfl,rfl⟩<;>rfl
 pyHash:=λ d h=>by
   rcases qd3 d with⟨i,t,rfl,rfl⟩ | ⟨x,t,rfl,rfl⟩
   . exact wpAny_pyHash_int h
   exact wpAny_pyHash_str h
 eqBool:=λ l d h=>by
   rcases qd3 l with⟨i,t,rfl,rfl⟩ | ⟨x,t,rfl,rfl⟩
   . rcases qd3 d with⟨j,u,rfl,rfl⟩ | ⟨y,u,rfl,rfl⟩
     . rw[qaV3] at h;exact wpAny_eqBool_int h
     rw[qaV2] at h;exact SeqAt.EqAt.int_str i t y u _ _ _ _ h
   rcases qd3 d with⟨j,u,rfl,rfl⟩ | ⟨y,u,rfl,rfl⟩
   . rw[qaV1] at h;exact SeqAt.EqAt.str_int x t j u _ _ _ _ h
   rw[qaV0] at h;exact wpAny_eqBool_str h
 «strs»:=λ k x t v h=>by
   rcases qd3 h with⟨i,u,rfl,e⟩ | ⟨y,u,rfl,e⟩
   . exact nomatch e
   injection e with c _
   subst c;cases v<;>rfl
theorem qY5(prog:L7)(w:L9)(i:Int)(t:Tok):(qf9 prog w).is (.inl i) (.int i t)=true:=qan5 i t
theorem qY4(prog:L7)(w:L9)(x:Str)(t:Tok):(qf9 prog w).is (.inr x) (.str x t)=true:=qan4 x t
inductive V where
 | non | bl (b:Bool) | int (i:Int) | str (x:Str) | byt (b:Array UInt8) | flt (b:UInt64) | ref (a:γ) | ty (n:String)
 deriving DecidableEq
def P8:V->V'->Prop
 | .non,u=>u=Ol
 | .bl b,u=>u=Oo b
 | .int i,u=>∃ t,u=On i t
 | .str x,u=>∃ t,u=Op x t
 | .byt b,u=>∃ t,u=Ow b t
 | .flt b,u=>∃ t,u=Ot b t
 | .ref a,u=>u=Oj a
 | .ty n,u=>u=Oq n
abbrev P9:List V->List V'->Prop:=Paired P8
theorem P9.length{xs:List V}(r:P9 xs us):xs.length=us.length:=Paired.length r
theorem P9.get:∀{xs:List V}{us:List V'}{i:Nat}{x:V},P9 xs us->xs[i]? = some x->∃ u,us[i]? = some u/\P8 x u
 | _,_,_,_,.nil,e=>by simp at e
 | _,_,0,_,.cons r _,e=>by simp at e;subst e;exact⟨_,rfl,r⟩
 | _,_,i+1,x,.cons _ t,e=>by
   obtain⟨u,a,b⟩:=P9.get (i:=i) (x:=x) t (by simpa using e);exact⟨u,by simpa using a,b⟩
theorem P9.set{x:V}{u:V'}(r:P8 x u):∀{xs:List V}{us:List V'}(i:Nat),P9 xs us->P9 (xs.set i x) (us.set i u)
 | _,_,_,.nil=>.nil
 | _,_,0,.cons _ t=>.cons r t
 | _,_,i+1,.cons q t=>.cons q (P9.set r i t)
theorem P9.append{xs ys:List V}{a:List V'}(h:P9 xs us)(s:P9 ys a):P9 (xs++ys) (us++a):=by
 induction h with
 | nil=>exact s
 | cons r t i=>exact .cons r i
theorem P9.take:∀{xs:List V}{us:List V'}(n:Nat),P9 xs us->P9 (xs.take n) (us.take n)
 | _,_,0,_=>.nil
 | _,_,_+1,.nil=>.nil
 | _,_,n+1,.cons r t=>.cons r (P9.take n t)
theorem P9.drop:∀{xs:List V}{us:List V'}(n:Nat),P9 xs us->P9 (xs.drop n) (us.drop n)
 | _,_,0,r=>r
 | _,_,_+1,.nil=>.nil
 | _,_,n+1,.cons _ t=>P9.drop n t
def RelO:Option V->Option V'->Prop
 | some v,some u=>P8 v u
 | none,none=>True
 | _,_=>False
def KV{a:Type}:List (a×V)->List (a×V')->Prop:=Paired λ(p:a×V)(q:a×V')=>p.1=q.1/\P8 p.2 q.2
noncomputable def kV:Key->V
 | .inl i=>.int i
 | .inr x=>.str x
inductive HO where
   | l (xs:List V)
   | q (xs:List V)
   | dK (kvs:List (Key×V)) | dT (kvs:List (List Key×V))
   | set (S:Int->Bool) (n:Nat)
   | ins (C dx:γ) (fs:List (Str×V))
   | own (x:γ)
   | xd (fs:List (Str×V))
   | met (f x:γ)
   | rng (lo hi:Int)
   | frz (o:Obj) (u:HO)
   | tbl (ps:Array V')
   | ext (φ:Heap->Prop)
noncomputable abbrev Hp:=γ->Option HO
noncomputable def upd(H:Hp)(a:γ)(o:HO):Hp:=λ b=>if b=a then some o else H b
theorem qb4{H:Hp}{a:γ}{o:HO}:upd H a o a=some o:=by unfold upd;rw[if_pos rfl]
theorem qb5{H:Hp}{a b:γ}{o:HO}(h:b≠a):upd H a o b=H b:=by unfold upd;rw[if_neg h]
theorem qaF3{H:Hp}{a:γ}{o u:HO}:upd (upd H a o) a u=upd H a u:=by
 funext b;unfold upd;split<;>rfl
theorem ne_of{H:Hp}{a b:γ}{o u:HO}(h:H a=some o)(h':H b=some u)(d:o≠u):a≠b:=by
 intro e;subst e;rw[h] at h';exact d (Oy h')
theorem qc0{H:Hp}{a b:γ}{o:HO}(h:H a=some o)(h':H b=none):a≠b:=by
 intro e;subst e;rw[h] at h';cases h'
section
variable(P:L7)(w:L9)
def ObjOk(H:Hp)(h:Heap)(a:γ):HO->Prop
 | .l xs=>xs.length<=Lg/\∃(its:List V')(n:Nat),P9 xs its/\h.get? a=some { cls:=.type "list",data:=.seq its.toArray n }
 | .q xs=>xs.length<=Lg/\∃ its:List V',P9 xs its/\IsTup h a its.toArray
 | .dK kvs=>kvs.length<=Lg/\(a == Ls)=false/\∃ vs,KV kvs vs/\h.DictOf (qf9 P w) a vs
 | .dT kvs=>kvs.length<=Lg/\(a == Ls)=false/\∃ xs:List (List Key×γ×V'),
     Paired (λ(p:List Key×V)(q:List Key×γ×V')=>p.1=q.1/\H q.2.1=some (.q (p.1.map kV))/\P8 p.2 q.2.2) kvs xs /\
     ∃ o es b,h.get? a=some o/\o.ExactDict/\o.data=.dict es b/\es.toList=xs.map (entryOfKey (tupleKind (qf9 P w)))/\(xs.map (·.1)).Nodup
 | .set S n=>h.SetOf (intKind P w) a S n
 | .ins C dx fs=>H dx=some (.own a)/\fs.length<=1000/\dx≠a/\h.get? a=some (W.instObj C dx) /\
     ∃ mA,h.Ns1 dx mA/\(∀ f,RelO (fs.lookup f) (mA f))/\PySem.Within mA (fs.map (·.1))
 | .own _=>∃ o,h.get? a=some o
 | .xd fs=>∃ mA,h.Ns1 a mA/\∀ f,RelO (fs.lookup f) (mA f)
 | .rng lo hi=>∃ t u v,h.get? a=some { cls:=.type "range",data:=.fields #[.int lo t,.int hi u,.int 1 v] }
 | .frz o u=>h.get? a=some o/\ObjOk H h a u
 | .tbl ps=>h.get? a=some { cls:=.none,data:=.fields ps }
 | .met f x=>h.get? a=some (W.methodObj (.ref f) (.ref x))
 | .ext φ=>φ h/\(∃ o,h.get? a=some o)/\∀ h1 h2:Heap,φ h1->(∀ o,h1.get? a=some o->h2.get? a=some o)->φ h2
def HOk(H:Hp)(h:Heap):Prop:=∀ a o,H a=some o->ObjOk P w H h a o
end
section
variable{P:L7}{w:L9}{H H':Hp}{h h':Heap}{a:γ}{o:HO}
theorem ObjOk.lt(x:ObjOk P w H h a o):a < h.objs.size:=by
 cases o with
 | l c=>obtain⟨_,_,_,_,e⟩:=x;exact zA7 e
 | q c=>obtain⟨_,_,_,p⟩:=x;exact p.lt
 | dK b=>obtain⟨_,_,_,_,o,_,_,e,_⟩:=x;exact zA7 e
 | dT b=>obtain⟨_,_,_,_,o,_,_,e,_⟩:=x;exact zA7 e
 | set S n=>obtain⟨o,_,_,_,e,_⟩:=x;exact zA7 e
 | ins C g d=>obtain⟨_,_,_,e,_⟩:=x;exact zA7 e
 | own y=>obtain⟨_,e⟩:=x;exact zA7 e
 | xd d=>obtain⟨_,⟨_,_,_,e,_⟩,_⟩:=x;exact zA7 e
 | rng i j=>obtain⟨_,_,_,e⟩:=x;exact zA7 e
 | frz k u=>obtain⟨e,_⟩:=x;exact zA7 e
 | tbl l=>exact zA7 (show h.get? a=some _ from x)
 | met f y=>exact zA7 (show h.get? a=some _ from x)
 | ext φ=>obtain⟨_,⟨_,e⟩,_⟩:=x;exact zA7 e
theorem Paired.mapP{α β:Type}{F G:α->β->Prop}{l:List α}{m:List β}(h:Paired F l m)(f:∀ a b,F a b->G a b):Paired G l m:=by
 induction h with
 | nil=>exact .nil
 | cons r t i=>exact .cons (f _ _ r) i
theorem ObjOk.stay(x:ObjOk P w H h a o)(k:∀ b u,(b=a∨H b=some (.own a))->h.get? b=some u->h'.get? b=some u)(E:∀ b,H b=some (.own a)->H' b=some (.own a))(F:∀ b xs,H b=some (.q xs)->H' b=some (.q xs)):ObjOk P w H' h' a o:=by
 induction o with
 | l xs=>obtain⟨z,l,n,r,e⟩:=x;exact⟨z,l,n,r,k _ _ (.inl rfl) e⟩
 | q xs=>obtain⟨z,l,r,g,e,c⟩:=x;exact⟨z,l,r,g,k _ _ (.inl rfl) e,c⟩
 | dK m=>obtain⟨z,y,G,r,g,i,j,e,c⟩:=x;exact⟨z,y,G,r,g,i,j,k _ _ (.inl rfl) e,c⟩
 | dT m =>
   obtain⟨z,y,xs,r,g,i,j,e,c⟩:=x;exact⟨z,y,xs,Paired.mapP r λ p q z=>⟨z.1,F _ _ z.2.1,z.2.2⟩,g,i,j,k _ _ (.inl rfl) e,c⟩
 | set S n=>obtain⟨g,i,j,t,e,c⟩:=x;exact⟨g,i,j,t,k _ _ (.inl rfl) e,c⟩
 | ins C L I =>
   obtain⟨d,z,J,e,s,⟨A,i,j,e2,c⟩,r⟩:=x;exact⟨E _ d,z,J,k _ _ (.inl rfl) e,s,⟨A,i,j,k _ _ (.inr d) e2,c⟩,r⟩
 | own y=>obtain⟨g,e⟩:=x;exact⟨g,k _ _ (.inl rfl) e⟩
 | xd I=>obtain⟨s,⟨A,i,j,e,c⟩,r⟩:=x;exact⟨s,⟨A,i,j,k _ _ (.inl rfl) e,c⟩,r⟩
 | rng M N=>obtain⟨t,u,v,e⟩:=x;exact⟨t,u,v,k _ _ (.inl rfl) e⟩
 | frz g u K=>obtain⟨e,q⟩:=x;exact⟨k _ _ (.inl rfl) e,K q⟩
 | tbl B =>
   have e:h.get? a=some { cls:=.none,data:=.fields B }:=x;show h'.get? a=some { cls:=.none,data:=.fields B };exact k a _ (.inl rfl) e
 | met f y =>
   have e:h.get? a=some (W.methodObj (.ref f) (.ref y)):=x;show h'.get? a=some (W.methodObj (.ref f) (.ref y));exact k a _ (.inl rfl) e
 | ext φ=>obtain⟨p,⟨o,e⟩,D⟩:=x;exact⟨D _ _ p λ o q=>k _ _ (.inl rfl) q,⟨o,k _ _ (.inl rfl) e⟩,D⟩
theorem HOk.lt(x:HOk P w H h)(e:H a=some o):a < h.objs.size:=(x a o e).lt
theorem HOk.fresh(x:HOk P w H h)(e:h.objs.size<=a):H a=none:=by
 cases q:H a with
 | none=>rfl
 | some u=>exact absurd (zA8 (x.lt q) e) (zC3 _)
theorem HOk.kept(x:HOk P w H h)(k:∀ b u,h.get? b=some u->h'.get? b=some u):HOk P w H h':=λ a o e =>
 (x a o e).stay (λ b u _ q=>k b u q) (λ _ q=>q) λ _ _ q=>q
theorem HOk.laid(x:HOk P w H h)(k:∀ b u,h.get? b=some u->h'.get? b=some u)(i:h.objs.size<=a)(d:ObjOk P w (upd H a o) h' a o):HOk P w (upd H a o) h':=λ b u e=>by
 have f:=x.fresh i;by_cases g:b=a
 . subst g;rw[qb4] at e;cases e;exact d
 rw[qb5 g] at e;exact(x b u e).stay (λ c v _ q=>k c v q) (λ c q=>by rw[qb5 (qc0 q f)];exact q) λ c j q=>by rw[qb5 (qc0 q f)];exact q
end
def Rd(H:Hp)(a:γ)(u:HO):Prop:=H a=some u∨∃ o,H a=some (.frz o u)
theorem Rd.ok{P:L7}{w:L9}{H:Hp}{h:Heap}{a:γ}{u:HO}(r:Rd H a u)(x:HOk P w H h):ObjOk P w H h a u:=by
 rcases r with r | ⟨o,r⟩
 . exact x a u r
 obtain⟨_,q⟩:=x a _ r;exact q
def Mut:Option HO->Prop
 | some (.l _)=>True
 | some (.dK _)=>True
 | some (.dT _)=>True
 | some (.set _ _)=>True
 | some (.ins _ _ _)=>True
 | some (.ext _)=>True
 | _=>False
section
variable{P:L7}{w:L9}{H:Hp}{h h':Heap}{x e:γ}{o':HO}
theorem HOk.write(o:HOk P w H h)(d:Mut (H x))(m:e=x∨H e=some (.own x))(k:∀ b u,b≠e->h.get? b=some u->h'.get? b=some u)(j:∃ u,h'.get? e=some u)(l:ObjOk P w (upd H x o') h' x o'):HOk P w (upd H x o') h':=λ b u q=>by
 have nown:∀ c y,H c=some (.own y)->c≠x:=λ c y r z=>by subst z;rw[r] at d;exact d
 have ntup:∀ c f,H c=some (.q f)->c≠x:=λ c f r z=>by subst z;rw[r] at d;exact d
 by_cases g:b=x
 . subst g;rw[qb4] at q;cases q;exact l
 rw[qb5 g] at q;by_cases a:b=e
 . have n:H b=some (.own x):=by
     rcases m with z | z
     . exact absurd (a.trans z) g
     rw[a];exact z
   rw[q] at n;cases n;obtain⟨v,p⟩:=j;exact⟨v,by rw[a];exact p⟩
 refine(o b u q).stay (λ c v i r=>k c v ?_ r) (λ c r=>by rw[qb5 (nown c b r)];exact r) λ c f r=>by rw[qb5 (ntup c f r)];exact r
 rcases i with rfl | i
 . exact a
 rintro rfl;rcases m with z | z
 . exact nown c b i z
 rw[i] at z;cases z;exact g rfl
end
structure Un(fs ex:List γ)(H H':Hp)(h h':Heap):Prop where
 keep:∀ b o,h.get? b=some o->H b=none->b∉fs->b∉ex->h'.get? b=some o
 slot:∀ b o,h.get? b=some o->H b=none->b∈fs->b∉ex->∃ sl,h'.get? b=some { o with slots:=sl }
 free:∀ b o,h.get? b=some o->H b=none->b∉ex->H' b=none
 there:∀ b o,h.get? b=some o->b∉ex->∃ o',h'.get? b=some o'
 tups:∀ b xs,H b=some (.q xs)->H' b=some (.q xs)
 frzs:∀ b o u,H b=some (.frz o u)->H' b=some (.frz o u)
 tbls:∀ b ps,H b=some (.tbl ps)->∃ more,H' b=some (.tbl (ps++more))
section
variable{fs s:List γ}{H v w:Hp}{h t y h':Heap}{a x e:γ}{o:HO}
theorem Un.any(u:Un fs s H v h t){b:γ}{ob:Obj}(q:h.get? b=some ob)(n:H b=none)(a:b∉s):∃ sl,t.get? b=some { ob with slots:=sl }:=by
 by_cases c:b∈fs
 . exact u.slot b ob q n c a
 exact⟨ob.slots,u.keep b ob q n c a⟩
theorem Un.trans(a:Un fs s H v h t)(b:Un fs s v w t y):Un fs s H w h y where
 keep:=λ c d q n g e=>b.keep c d (a.keep c d q n g e) (a.free c d q n e) g e
 slot:=λ c d q n g e=>by
   obtain⟨p,f⟩:=a.slot c d q n g e;obtain⟨j,e2⟩:=b.slot c _ f (a.free c d q n e) g e;exact⟨j,e2⟩
 free:=λ c d q n e=>by
   obtain⟨k,f⟩:=a.there c d q e;exact b.free c k f (a.free c d q n e) e
 there:=λ c d q e=>by
   obtain⟨k,f⟩:=a.there c d q e;exact b.there c k f e
 tups:=λ c i q=>b.tups c i (a.tups c i q)
 frzs:=λ c d i q=>b.frzs c d i (a.frzs c d i q)
 tbls:=λ c l q=>by
   obtain⟨m,f⟩:=a.tbls c l q;obtain⟨o,e2⟩:=b.tbls c _ f;exact⟨m++o,by rw[e2,Array.append_assoc]⟩
theorem Un.kept(k:∀ b u,h.get? b=some u->h'.get? b=some u):Un fs s H H h h' :=
 ⟨λ b a q _ _ _=>k b a q,λ b a q _ _ _=>⟨a.slots,k b a q⟩,λ _ _ _ n _=>n,λ b a q _=>⟨a,k b a q⟩,λ _ _ q=>q,λ _ _ _ q=>q,λ _ c q=>⟨#[],by rw[q];simp⟩⟩
theorem Un.refl:Un fs s H H h h:=Un.kept λ _ _ q=>q
theorem Un.laid(k:∀ b u,h.get? b=some u->h'.get? b=some u)(d:h.objs.size<=a)(c:H a=none):Un fs s H (upd H a o) h h' where
 keep:=λ b u q _ _ _=>k b u q
 slot:=λ b u q _ _ _=>⟨u.slots,k b u q⟩
 free:=λ b u q n _=>by rw[qb5 (zAj (zA8 (zA7 q) d))];exact n
 there:=λ b u q _=>⟨u,k b u q⟩
 tups:=λ b e q=>by rw[qb5 (qc0 q c)];exact q
 frzs:=λ b u e q=>by rw[qb5 (qc0 q c)];exact q
 tbls:=λ b f q=>⟨#[],by rw[qb5 (qc0 q c),q];simp⟩
theorem Un.write(c:Mut (H x))(j:e=x∨H e=some (.own x))(k:∀ b u,b≠e->h.get? b=some u->h'.get? b=some u)(d:∃ u,h'.get? e=some u):Un fs s H (upd H x o) h h':=by
 have g:∀ b,H b=none->b≠x:=λ b n z=>by subst z;rw[n] at c;exact c
 have i:∀ b,H b=none->b≠e:=λ b n z=>by
   subst z;rcases j with r | r
   . exact g b n r
   rw[n] at r;cases r
 have f:∀ b u,H b=some u->¬ Mut (some u)->b≠x:=λ b u q l z=>by subst z;rw[q] at c;exact l c
 refine⟨λ b u q n _ _=>k b u (i b n) q,λ b u q n _ _=>⟨u.slots,k b u (i b n) q⟩,λ b u q n _=>by rw[qb5 (g b n)];exact n,λ b u q _=>?_,
   λ b m q=>by rw[qb5 (f b _ q λ z=>z)];exact q,λ b u m q=>by rw[qb5 (f b _ q λ z=>z)];exact q,λ b p q=>⟨#[],by rw[qb5 (f b _ q λ z=>z),q];simp⟩⟩
 by_cases a:b=e
 . subst a;exact d
 exact⟨u,k b u a q⟩
end
noncomputable def trk(h:Heap)(H:Hp):List γ:=(Ms h.objs.size).filter λ a=>(H a).isSome
def G6(h:Heap)(H:Hp):Heap:=W.hideAll h (trk h H)
theorem qan7(h:Heap)(H:Hp):(G6 h H).objs.size=h.objs.size:=W.hideAll_size _ _
theorem qaC4{h:Heap}{H:Hp}{b:γ}{o:Obj}(e:h.get? b=some o)(n:H b=none):(G6 h H).get? b=some o :=
 W.hideAll_get _ e λ a=>by
   have q:(H b).isSome=true:=(zB1.mp a).2;rw[n] at q;simp at q
theorem qaL1{h:Heap}{H:Hp}{b:γ}{o:Obj}(e:(G6 h H).get? b=some o):h.get? b=some o/\H b=none:=by
 have a:h.get? b=some o:=W.of_hideAll (trk h H) e;refine⟨a,?_⟩;cases q:H b with
 | none=>rfl
 | some x =>
   have c:b∈trk h H:=zB1.mpr ⟨zAp.mpr (zA7 a),by simp[q]⟩;have z:(G6 h H).get? b=none:=W.hideAll_none (trk h H) c;rw[z] at e;cases e
structure Mod(K:O0)(mg:Str->Option V')(base:Heap):Prop where
 kin:K.In base
 glob:base.Ns Lq mg
 blt:∃ mb,base.Ns builtinsNs mb/\∀ x:Str,x ≠ "__name__" -> mb x=Ll x
 nolimit:base.NoLimit
structure Cx where
 prog:L7
 w:L9
 K:O0
 mg:Str->Option V'
 base:Heap
 A:L8
 N:List Str
 s₀:δ
 H₀:Hp
 env:Env
 outer:List Env
 stack:List Env
 ex:List γ
 fn:Str->Bool
 calm:Bool
 pn:List (γ×Obj)
 xe:V'->δ->Prop
noncomputable def frs(l:List Env):List γ:=l.filterMap (·.frame)
abbrev Cx.fs(X:Cx):List γ:=frs X.outer
def Vis(sc:Scope)(x:Str):Prop:=sc.names.lookup x=some .local∨sc.names.lookup x=some .cell∨sc.names.lookup x=some .free
def Loc(sc:Scope)(x:Str):Prop:=sc.names.lookup x=some .local∨sc.names.lookup x=some .cell
def Look(env:Env)(h:Heap)(m:Str->Option V')(x:Str)(u:V'):Prop :=
 (env.kindOf x=some .local/\m x=some u)∨((env.kindOf x=some .cell∨env.kindOf x=some .free)/\∃ c,env.cells.lookup x=some c/\h.IsCell c (some u))
structure Cx.Ok(X:Cx):Prop where
 mod:Mod X.K X.mg X.base
 kind:X.env.scope.kind=.function
 glob:X.env.globals=Lq
 blt:X.env.builtins=builtinsNs
 above:X.s₀.heap.objs.size<=X.env.locals
 inj:∀ x y c,X.env.cells.lookup x=some c->X.env.cells.lookup y=some c->x=y
 has:∀ x,(X.env.kindOf x=some .cell∨X.env.kindOf x=some .free)->∃ c,X.env.cells.lookup x=some c
 cab:∀ x c,X.fn x=true->X.env.cells.lookup x=some c->X.s₀.heap.objs.size<=c
 hd:X.calm=true->X.A.handled=none
 frames:X.A.frames=some X.stack
 stk:X.stack=X.outer∨(X.stack=X.env::X.outer/\X.env.frame=some X.env.locals)
 exf:∀ b∈X.ex,b≠X.env.locals/\∀ x c,X.env.cells.lookup x=some c->c≠b
 bs:∀ b o,X.base.get? b=some o->X.s₀.heap.get? b=some o/\X.H₀ b=none
 bsz:X.base.objs.size<=X.s₀.heap.objs.size
 noex:∀ b o,X.base.get? b=some o->b∉X.ex
 exfs:∀ b∈X.ex,b∉X.fs
 funs:X.s₀.heap.FunFrames X.base X.outer
 frf:∀ b∈X.fs,X.H₀ b=none
structure Qa(X:Cx)(Eo:List (γ×Obj))(a:List (Option V))(H:Hp)(s:δ):Prop where
 ok:X.Ok
 os:s.os=X.s₀.os
 bare:AllBare s.gens
 base:Un X.fs X.ex X.H₀ H X.s₀.heap s.heap
 loc:∃ m,s.heap.Ns X.env.locals m/\∀(i:Nat)(x:Str)(v:V),X.N[i]? = some x->a[i]? = some (some v)->Vis X.env.scope x->∃ u,P8 v u/\Look X.env s.heap m x u
 cell:∀ x c,X.env.cells.lookup x=some c->∃ v,s.heap.IsCell c v
 free:H X.env.locals=none
 freeC:∀ x c,X.env.cells.lookup x=some c->H c=none
 pin:∀ p∈X.pn++Eo,s.heap.get? p.1=some p.2/\H p.1=none/\p.1≠X.env.locals/\p.1∉X.fs/\∀ v,p.2.data≠.cell v
 hok:HOk X.prog X.w H s.heap
 len:a.length=X.N.length
section
variable{X:Cx}{Eo:List (γ×Obj)}{σ:List (Option V)}{H H':Hp}{s:δ}{h':Heap}
theorem Cx.Ok.nofr(a:X.Ok){b:γ}{o:Obj}(e:X.base.get? b=some o):b∉X.fs:=λ c=>by
 have:=(a.funs.mem c).1
 rw[e] at this;cases this
theorem Qa.bs(I:Qa X Eo σ H s):∀ b o,X.base.get? b=some o->s.heap.get? b=some o/\H b=none:=λ b o e =>
 ⟨I.base.keep b o (I.ok.bs b o e).1 (I.ok.bs b o e).2 (I.ok.nofr e) (I.ok.noex b o e),I.base.free b o (I.ok.bs b o e).1 (I.ok.bs b o e).2 (I.ok.noex b o e)⟩
theorem Qa.bk(I:Qa X Eo σ H s):∀ b o,X.base.get? b=some o->s.heap.get? b=some o:=λ b o e=>(I.bs b o e).1
theorem Qa.mod(I:Qa X Eo σ H s):Mod X.K X.mg X.base:=I.ok.mod
theorem Qa.kIn(I:Qa X Eo σ H s):X.K.In s.heap:=I.ok.mod.kin.keeps I.bk
theorem Qa.lt(I:Qa X Eo σ H s):X.env.locals < s.heap.objs.size:=let ⟨_,hn,_⟩:=I.loc;hn.lt
theorem Qa.sz(I:Qa X Eo σ H s):X.s₀.heap.objs.size<=s.heap.objs.size:=zAd I.ok.above (zB5 I.lt)
theorem Qa.nofs(I:Qa X Eo σ H s){a:γ}(h:s.heap.objs.size<=a):a∉X.fs:=λ b=>by
 obtain⟨_,o,c,_⟩:=I.ok.funs.mem b;exact absurd (zA8 (zA7 c) (zAd I.sz h)) (zC3 _)
theorem Qa.cne(I:Qa X Eo σ H s):∀ x c,X.env.cells.lookup x=some c->c≠X.env.locals:=λ x c e z=>by
 obtain⟨v,o,d,f⟩:=I.cell x c e;obtain⟨m,⟨g,h,i,a,b,_⟩,_⟩:=I.loc;rw[z,a] at d;cases d;rw[b] at f;cases f
theorem Qa.funs(I:Qa X Eo σ H s):s.heap.FunFrames X.base X.outer:=by
 have all:∀(l:List Env),(∀ b∈frs l,b∈X.fs)->X.s₀.heap.FunFrames X.base l->s.heap.FunFrames X.base l:=by
   intro l
   induction l with
   | nil=>intro _ _;trivial
   | cons g r h =>
     intro f i;obtain⟨j,⟨L,o,a,k,m,n⟩,p⟩:=i;have c:L∈X.fs:=f L (by unfold frs;rw[zCf,a];exact zAa);obtain⟨q,e⟩:=I.base.slot L o m (I.ok.frf L c) c λ z=>I.ok.exfs L z c
     exact⟨j,⟨L,_,a,k,e,n⟩,h (λ b d=>f b (by unfold frs;rw[zCf,a];exact zA6 _ d)) p⟩
 exact all X.outer (λ _ d=>d) I.ok.funs
theorem Qa.stack(I:Qa X Eo σ H s):s.heap.FunFrames X.base X.stack:=by
 rcases I.ok.stk with e | ⟨e,a⟩
 . rw[e];exact I.funs
 rw[e];obtain⟨m,b,_⟩:=I.loc;refine .cons (by rw[I.ok.kind];decide) a b ?_ I.funs;exact Heap.get?_none_of_le (zAd I.ok.bsz I.ok.above)
theorem Qa.stkSub(I:Qa X Eo σ H s):∀ b∈frs X.stack,b∈X.env.locals::X.fs:=λ b a=>by
 rcases I.ok.stk with e | ⟨e,c⟩
 . rw[e] at a;exact zA6 _ a
 rw[e] at a;unfold frs at a;rw[zCf,c] at a;exact a
theorem Qa.stkFree(I:Qa X Eo σ H s):∀ b∈frs X.stack,H b=none:=λ b a=>by
 rcases zAn.mp (I.stkSub b a) with e | a
 . rw[e];exact I.free
 obtain⟨_,o,c,_⟩:=I.ok.funs.mem a;exact I.base.free b o c (I.ok.frf b a) λ z=>I.ok.exfs b z a
theorem Qa.step{g':Array GenState}{d':Drawn}(I:Qa X Eo σ H s)(f:∀ b∈ch,(b∈X.ex∨X.s₀.heap.objs.size<=b)/\b≠X.env.locals/\(∀ x c,X.env.cells.lookup x=some c->c≠b)/\∀ p∈X.pn++Eo,p.1≠b)(keep:∀ b o,b≠X.env.locals->b∉X.fs->b∉ch->s.heap.get? b=some o->H b=none->h'.get? b=some o)(slot:∀ b o,b≠X.env.locals->b∈X.fs->b∉ch->s.heap.get? b=some o->H b=none->∃ sl,h'.get? b=some { o with slots:=sl })(free:∀ b o,b∉ch->s.heap.get? b=some o->H b=none->H' b=none)(there:∀ b o,b∉ch->s.heap.get? b=some o->∃ o',h'.get? b=some o')(tups:∀ b xs,H b=some (.q xs)->H' b=some (.q xs))(frzs:∀ b o u,H b=some (.frz o u)->H' b=some (.frz o u))(tbls:∀ b ps,H b=some (.tbl ps)->∃ more,H' b=some (.tbl (ps++more)))(ns:∀ m,s.heap.Ns X.env.locals m->h'.Ns X.env.locals m)(B:HOk X.prog X.w H' h')(J:AllBare g') :
   Qa X Eo σ H' { s with heap:=h',gens:=g',drawn:=d',toks:=t' }:=by
 have A:∀ b o,X.s₀.heap.get? b=some o->b≠X.env.locals:=λ b o e=>zAj (zA8 (zA7 e) I.ok.above)
 have h:∀ b o,X.s₀.heap.get? b=some o->b∉X.ex->b∉ch:=λ b o e a t=>by
   rcases (f b t).1 with z | z
   . exact a z
   exact absurd (zA8 (zA7 e) z) (zC3 _)
 have cellK:∀ x c,X.env.cells.lookup x=some c->∀ v,s.heap.IsCell c v->h'.IsCell c v:=λ x c e v ⟨o,y,C⟩=>by
   have g:c∉ch:=λ z=>(f c z).2.2.1 x c e rfl
   by_cases E:c∈X.fs
   . obtain⟨sl,q⟩:=slot c o (I.cne x c e) E g y (I.freeC x c e)
     exact⟨_,q,C⟩
   exact⟨o,keep c o (I.cne x c e) E g y (I.freeC x c e),C⟩
 refine⟨I.ok,I.os,J,⟨λ b o e n t a=>?_,λ b o e n t a=>?_,λ b o e n a=>?_,λ b o e a=>?_,λ b xs e=>tups b xs (I.base.tups b xs e),λ b o xs e=>frzs b o xs (I.base.frzs b o xs e),λ b ps e=>?_⟩,?_,λ x c e=>?_,?_,λ x c e=>?_,λ p F=>?_,B,I.len⟩
 . exact keep b o (A b o e) t (h b o e a) (I.base.keep b o e n t a) (I.base.free b o e n a)
 . obtain⟨sl,j⟩:=I.base.slot b o e n t a
   obtain⟨D,e2⟩:=slot b _ (A b o e) t (h b o e a) j (I.base.free b o e n a);exact⟨D,e2⟩
 . obtain⟨o',j⟩:=I.base.there b o e a
   exact free b o' (h b o e a) j (I.base.free b o e n a)
 . obtain⟨o',j⟩:=I.base.there b o e a
   exact there b o' (h b o e a) j
 . obtain⟨K,j⟩:=I.base.tbls b ps e
   obtain⟨L,e2⟩:=tbls b _ j;exact⟨K++L,by rw[e2,Array.append_assoc]⟩
 . obtain⟨m,M,N⟩:=I.loc
   refine⟨m,ns m M,λ i x v j e2 O=>?_⟩;obtain⟨u,r,l⟩:=N i x v j e2 O;refine⟨u,r,?_⟩;rcases l with l | ⟨k,c,e,z⟩
   . exact .inl l
   exact .inr ⟨k,c,e,cellK x c e _ z⟩
 . obtain⟨v,z⟩:=I.cell x c e
   exact⟨v,cellK x c e v z⟩
 . obtain⟨m,⟨o,_,_,y,_⟩,_⟩:=I.loc
   exact free _ o (λ z=>(f _ z).2.1 rfl) y I.free
 . obtain⟨v,o,y,C⟩:=I.cell x c e
   exact free c o (λ z=>(f c z).2.2.1 x c e rfl) y (I.freeC x c e)
 obtain⟨e,n,G,nf,d⟩:=I.pin p F;have g:p.1∉ch:=λ z=>(f p.1 z).2.2.2 p F rfl
 exact⟨keep p.1 p.2 G nf g e n,free p.1 p.2 g e n,G,nf,d⟩
theorem Qa.un(I:Qa X Eo σ H s)(u:Un X.fs [] H H' s.heap h')(c:HOk X.prog X.w H' h'):Qa X Eo σ H' { s with heap:=h',toks:=t' }:=by
 obtain⟨m,⟨o,l,p,h,r⟩,_⟩:=id I.loc;obtain⟨q,i⟩:=u.any h I.free (by simp);exact I.step (g':=s.gens) (d':=s.drawn) (ch:=[]) (λ _ z=>nomatch z) (λ b o _ d _ e n=>u.keep b o e n d (by simp)) (λ b o _ d _ e n=>u.slot b o e n d (by simp)) (λ b o _ e n=>u.free b o e n (by simp)) (λ b o _ e=>u.there b o e (by simp)) u.tups u.frzs u.tbls (λ t j=>by
   obtain⟨v,f,g,a,k⟩:=j;rw[h] at a;cases a;exact⟨_,f,g,i,k⟩) c I.bare
theorem Qa.call{g':Array GenState}{d':Drawn}(I:Qa X Eo σ H s)(u:Un (frs X.stack) ch H H' s.heap h')(g:HOk X.prog X.w H' h')(l:AllBare g')(d:∀ b∈ch,(b∈X.ex∨X.s₀.heap.objs.size<=b)/\b≠X.env.locals/\(∀ x c,X.env.cells.lookup x=some c->c≠b)/\∀ p∈X.pn++Eo,p.1≠b) :
   Qa X Eo σ H' { s with heap:=h',gens:=g',drawn:=d',toks:=t' }:=by
 obtain⟨m,⟨o,y,A,k,r⟩,_⟩:=id I.loc;obtain⟨B,h⟩:=u.any k I.free λ z=>(d _ z).2.1 rfl
 exact I.step (ch:=ch) d (λ b o h q a e n=>u.keep b o e n (λ z=>(zAn.mp (I.stkSub b z)).elim h q) a) (λ b o _ _ a e n=>u.any e n a) (λ b o a e n=>u.free b o e n a) (λ b o a e=>u.there b o e a) u.tups u.frzs u.tbls (λ C t=>by
   obtain⟨D,i,j,f,v⟩:=t;rw[k] at f;cases f;exact⟨_,i,j,h,v⟩) g l
theorem Qa.turned{it:γ}(I:Qa X Eo σ H s)(k:∀ b o,b≠it->s.heap.get? b=some o->h'.get? b=some o)(g:H it=none)(f:it≠X.env.locals)(h1:it∈X.ex∨X.s₀.heap.objs.size<=it)(h2:∀ x c,X.env.cells.lookup x=some c->c≠it)(h:∀ p∈X.pn++Eo,p.1≠it):Qa X Eo σ H { s with heap:=h',toks:=t' }:=by
 have d:∀ b u,H b=some u->b≠it:=λ b u e z=>by rw[z,g] at e;cases e
 refine I.step (g':=s.gens) (d':=s.drawn) (ch:=[it]) (λ b i=>?_) (λ b o _ _ a e _=>k b o (λ z=>a (by simp[z])) e) (λ b o _ _ a e _=>⟨o.slots,k b o (λ z=>a (by simp[z])) e⟩) (λ _ _ _ _ n=>n)
   (λ b o a e=>⟨o,k b o (λ z=>a (by simp[z])) e⟩) (λ _ _ e=>e) (λ _ _ _ e=>e) (λ b y e=>⟨#[],by rw[e];simp⟩) (λ m j=>?_) (λ b u e=>?_) I.bare
 . have e:b=it:=by simpa using i
   subst e;exact⟨h1,f,h2,h⟩
 . obtain⟨o,l,t,w,r⟩:=j
   exact⟨o,l,t,k _ o (Ne.symm f) w,r⟩
 refine(I.hok b u e).stay (λ c v a q=>k c v ?_ q) (λ _ q=>q) λ _ _ q=>q
 rcases a with z | z
 . rw[z];exact d b u e
 exact d c _ z
theorem Qa.tok(I:Qa X Eo σ H s)(t:Nat):Qa X Eo σ H { s with toks:=t }:=I.un (h':=s.heap) (t':=t) Un.refl I.hok
theorem Qa.kept(I:Qa X Eo σ H s)(k:∀ b u,s.heap.get? b=some u->h'.get? b=some u):Qa X Eo σ H { s with heap:=h',toks:=t' }:=I.un (Un.kept k) (I.hok.kept k)
theorem Qa.laid{a:γ}{o:HO}(I:Qa X Eo σ H s)(k:∀ b u,s.heap.get? b=some u->h'.get? b=some u)(c:s.heap.objs.size<=a)(d:ObjOk X.prog X.w (upd H a o) h' a o) :
   Qa X Eo σ (upd H a o) { s with heap:=h',toks:=t' }:=I.un (Un.laid k c (I.hok.fresh c)) (I.hok.laid k c d)
theorem Qa.write{x e:γ}{o:HO}(I:Qa X Eo σ H s)(d:Mut (H x))(f:e=x∨H e=some (.own x))(k:∀ b u,b≠e->s.heap.get? b=some u->h'.get? b=some u)(a:∃ u,h'.get? e=some u)(c:ObjOk X.prog X.w (upd H x o) h' x o):Qa X Eo σ (upd H x o) { s with heap:=h',toks:=t' }:=I.un (Un.write d f k a) (I.hok.write d f k a c)
theorem Qa.weak{σ':List (Option V)}(I:Qa X Eo σ H s)(a:σ'.length=σ.length)(w:∀(i:Nat) v,σ'[i]? = some (some v)->σ[i]? = some (some v)):Qa X Eo σ' H s :=
 ⟨I.ok,I.os,I.bare,I.base,let ⟨m,hn,hl'⟩:=I.loc;⟨m,hn,λ i x v b e2 c=>hl' i x v b (w i v e2) c⟩,I.cell,I.free,I.freeC,I.pin,I.hok,a.trans I.len⟩
theorem Qa.pins_of{pins':List (γ×Obj)}(I:Qa X Eo σ H s)(h:∀ p∈pins',s.heap.get? p.1=some p.2/\H p.1=none/\p.1≠X.env.locals/\p.1∉X.fs/\∀ v,p.2.data≠.cell v):Qa X pins' σ H s :=
 ⟨I.ok,I.os,I.bare,I.base,I.loc,I.cell,I.free,I.freeC,λ p a=>(zA9.mp a).elim (λ z=>I.pin p (zC6 _ z)) (h p),I.hok,I.len⟩
theorem qP0(c:N.Nodup){j:Nat}{x:Str}(a:N[i]? = some x)(b:N[j]? = some x):i=j:=by
 obtain⟨e,d⟩:=zA4.mp a;obtain⟨f,e2⟩:=zA4.mp b;exact(N2 c).mp (d.trans e2.symm)
theorem qak4{A:L8}{E:V'->δ->Prop}{x:Str}{v:V}{u:V'}{Q:Unit->δ->Prop}(I:Qa X Eo σ H s)(hN:X.N.Nodup)(hi:X.N[i]? = some x)(t:Loc X.env.scope x)(r:P8 v u)(h:∀ s',Qa X Eo (σ.set i (some v)) H s'->(∃ a,Heap.SameBut a s.heap s'.heap/\(a=X.env.locals∨X.env.cells.lookup x=some a))->Q () s')(hf:X.fn x=true∨X.env.scope.names.lookup x=some .local:=by first | exact .inl rfl | exact .inr rfl | assumption):L5 M A (storeName X.env x u) Q E s:=by
 obtain⟨m,W,hl⟩:=id I.loc;have K:(X.env.scope.kind == .class||(X.env.scope.kind == .module&&X.env.locals != X.env.globals))=false:=by rw[I.ok.kind];rfl
 have hiσ:i < σ.length:=by rw[I.len];exact(zA4.mp hi).1
 have C:=I.cne;have tracked:∀{a:γ}{J:Heap},(∃ o,s.heap.get? a=some o/\H a=none)->Heap.SameBut a s.heap J->HOk X.prog X.w H J:=λ{a J} ha f b ob e=>by
   obtain⟨_,_,hfree⟩:=ha;refine(I.hok b ob e).stay (λ c S l q=>(f.2 c ?_).trans q) (λ _ q=>q) λ _ _ q=>q
   rintro rfl;rcases l with rfl | l
   . rw[hfree] at e;cases e
   rw[hfree] at l;cases l
 rcases t with B | B
 . refine wpAny_storeName_local B W (λ J Y f=>?_) K
   obtain⟨oL,_,_,Z,_⟩:=id W;refine h _ ⟨I.ok,I.os,I.bare,⟨λ b o e n D t=>?_,λ b o e n D t=>?_,I.base.free,λ b o e t=>?_,I.base.tups,I.base.frzs,I.base.tbls⟩,⟨_,Y,λ j y v' g e2 e3=>?_⟩,λ y c e=>?_,I.free,I.freeC,λ p hp=>?_,tracked ⟨oL,Z,I.free⟩ f,by simpa using I.len⟩ ⟨_,f,.inl rfl⟩
   . exact(f.2 b (zAj (zA8 (zA7 e) I.ok.above))).trans (I.base.keep b o e n D t)
   . obtain⟨sl,g⟩:=I.base.slot b o e n D t
     exact⟨sl,(f.2 b (zAj (zA8 (zA7 e) I.ok.above))).trans g⟩
   . obtain⟨o',g⟩:=I.base.there b o e t
     exact⟨o',(f.2 b (zAj (zA8 (zA7 e) I.ok.above))).trans g⟩
   . by_cases F:j=i
     . subst F
       rw[hi] at g;cases g;rw[zBy hiσ] at e2;cases e2;exact⟨u,r,.inl ⟨B,by simp⟩⟩
     rw[zBg (Ne.symm F)] at e2;obtain⟨u',r',q⟩:=hl j y v' g e2 e3;refine⟨u',r',?_⟩;rcases q with⟨k,e⟩ | ⟨k,c,e,z⟩
     . refine .inl ⟨k,?_⟩
       have:y≠x:=λ e=>F (qP0 hN g (e ▸ hi))
       simp[this,e]
     exact .inr ⟨k,c,e,z.sameBut f (C y c e)⟩
   . obtain⟨S,z⟩:=I.cell y c e
     exact⟨S,z.sameBut f (C y c e)⟩
   obtain⟨e,n,T,nf,d⟩:=I.pin p hp;exact⟨(f.2 p.1 T).trans e,n,T,nf,d⟩
 have G:X.fn x=true:=by
   rcases hf with z | z
   . exact z
   rw[z] at B;cases B
 obtain⟨c,l⟩:=I.ok.has x (.inl B);obtain⟨S,z⟩:=I.cell x c l;refine wpAny_storeName_cell I.ok.kind B l z (λ J L f=>?_);obtain⟨oc,O,P⟩:=id z;refine h { s with heap:=J } ⟨I.ok,I.os,I.bare,⟨λ b o e n D t=>?_,λ b o e n D t=>?_,I.base.free,λ b o e t=>?_,I.base.tups,I.base.frzs,I.base.tbls⟩,⟨m,W.sameBut f (Ne.symm (C x c l)),λ j y v' g e2 e3=>?_⟩,λ y U e=>?_,I.free,I.freeC,λ p hp=>?_,tracked ⟨oc,O,I.freeC x c l⟩ f,by simpa using I.len⟩ ⟨c,f,.inr l⟩
 . exact(f.2 b (zAj (zA8 (zA7 e) (I.ok.cab x c G l)))).trans (I.base.keep b o e n D t)
 . obtain⟨sl,g⟩:=I.base.slot b o e n D t
   exact⟨sl,(f.2 b (zAj (zA8 (zA7 e) (I.ok.cab x c G l)))).trans g⟩
 . obtain⟨o',g⟩:=I.base.there b o e t
   exact⟨o',(f.2 b (zAj (zA8 (zA7 e) (I.ok.cab x c G l)))).trans g⟩
 . by_cases F:j=i
   . subst F
     rw[hi] at g;cases g;rw[zBy hiσ] at e2;cases e2;exact⟨u,r,.inr ⟨.inl B,c,l,L⟩⟩
   rw[zBg (Ne.symm F)] at e2;obtain⟨u',r',q⟩:=hl j y v' g e2 e3;refine⟨u',r',?_⟩;rcases q with q | ⟨k,U,e,z'⟩
   . exact .inl q
   refine .inr ⟨k,U,e,z'.sameBut f ?_⟩;rintro rfl;exact F (qP0 hN g (I.ok.inj _ _ _ e l ▸ hi))
 . by_cases R:U=c
   . subst R;exact⟨_,L⟩
   obtain⟨w2,z2⟩:=I.cell y U e;exact⟨w2,z2.sameBut f R⟩
 obtain⟨e,n,T,nf,d⟩:=I.pin p hp;refine⟨(f.2 p.1 ?_).trans e,n,T,nf,d⟩;intro q;rw[q,O] at e;have q':oc=p.2:=Oy e;exact d S (by rw[<- q'];exact P)
theorem qD2{A:L8}{E:V'->δ->Prop}{x:Str}{v:V}{u:V'}{Q:Unit->δ->Prop}(I:Qa X Eo σ H s)(a:X.N.Nodup)(hi:X.N[i]? = some x)(b:Loc X.env.scope x)(r:P8 v u)(h:∀ s',Qa X Eo (σ.set i (some v)) H s'->Q () s')(c:X.fn x=true∨X.env.scope.names.lookup x=some .local:=by first | exact .inl rfl | exact .inr rfl | assumption):L5 M A (storeName X.env x u) Q E s :=
 qak4 I a hi b r (λ s' I' _=>h s' I') c
theorem Qa.call'{s':δ}(I:Qa X Eo σ H s)(i:s'.os=s.os)(u:Un (frs X.stack) ch H H' s.heap s'.heap)(a:HOk X.prog X.w H' s'.heap)(j:AllBare s'.gens)(d:∀ b∈ch,(b∈X.ex∨X.s₀.heap.objs.size<=b)/\b≠X.env.locals/\(∀ x c,X.env.cells.lookup x=some c->c≠b)/\∀ p∈X.pn++Eo,p.1≠b):Qa X Eo σ H' s':=by
 obtain⟨l,f,g,h,k⟩:=s';have e:k=s.os:=i;subst e;exact I.call (g':=f) (t':=h) (d':=g) u a j d
end
abbrev XK:=V'->Option γ->Hp->Prop
abbrev St:=List (Option V)
abbrev VK:=V->Hp->Prop
abbrev TE:=St->Hp->VK->Prop
abbrev TT:=St->Hp->(Bool->Hp->Prop)->Prop
abbrev TA:=St->Hp->(List V->Hp->Prop)->Prop
structure Bw where
 nx:St->Hp->Prop
 rt:VK
 bk:St->Hp->Prop:=λ _ _=>False
 ct:St->Hp->Prop:=λ _ _=>False
abbrev TS:=Bw->St->Hp->Prop
def EP(X:Cx)(Eo:List (γ×Obj))(a:St)(Q:VK)(u:V')(s':δ):Prop:=∃ v H',Qa X Eo a H' s'/\P8 v u/\Q v H'
def TP(X:Cx)(Eo:List (γ×Obj))(a:St)(Q:Bool->Hp->Prop)(b:Bool)(s':δ):Prop:=∃ H',Qa X Eo a H' s'/\Q b H'
def AP(X:Cx)(Eo:List (γ×Obj))(a:St)(Q:List V->Hp->Prop)(us:List V')(s':δ):Prop:=∃ vs H',Qa X Eo a H' s'/\P9 vs us/\Q vs H'
def SP(X:Cx)(Eo:List (γ×Obj))(D:Bw)(f:Flow)(s':δ):Prop :=
 match f with
 | .next=>∃ a' H',Qa X Eo a' H' s'/\D.nx a' H'
 | .brk=>∃ a' H',Qa X Eo a' H' s'/\D.bk a' H'
 | .cont=>∃ a' H',Qa X Eo a' H' s'/\D.ct a' H'
 | .ret u=>∃ v a' H',Qa X Eo a' H' s'/\P8 v u/\D.rt v H'
def PE(X:Cx)(e:Ma)(t:TE):Prop :=
 ∀(Eo:List (γ×Obj))(s:δ)(a:St)(H:Hp)(Q:VK),Qa X Eo a H s->t a H Q->L5 (L6 X.prog X.w) X.A (eval e X.env) (EP X Eo a Q) X.xe s
def PT(X:Cx)(e:Ma)(t:TT):Prop :=
 ∀(Eo:List (γ×Obj))(s:δ)(a:St)(H:Hp)(Q:Bool->Hp->Prop),Qa X Eo a H s->t a H Q->L5 (L6 X.prog X.w) X.A (isTrue e X.env (eval e X.env)) (TP X Eo a Q) X.xe s
def PW(X:Cx)(e:Ma)(t:TT):Prop :=
 ∀(whole:Sem V')(Eo:List (γ×Obj))(s:δ)(a:St)(H:Hp)(Q:Bool->Hp->Prop),Qa X Eo a H s->t a H Q->L5 (L6 X.prog X.w) X.A (isTrue e X.env whole) (TP X Eo a Q) X.xe s
theorem PW.pt{X:Cx}{e:Ma}{t:TT}(h:PW X e t):PT X e t:=h _
def PA(X:Cx)(es:List Ma)(t:TA):Prop :=
 ∀(pos:Pos)(Eo:List (γ×Obj))(s:δ)(a:St)(H:Hp)(Q:List V->Hp->Prop),Qa X Eo a H s->t a H Q->L5 (L6 X.prog X.w) X.A (spliced (backTo pos (Lf es X.env))) (AP X Eo a Q) X.xe s
def PS(X:Cx)(st:Mb)(t:TS):Prop :=
 ∀(Eo:List (γ×Obj))(s:δ)(a:St)(H:Hp)(D:Bw),Qa X Eo a H s->t D a H->L5 (L6 X.prog X.w) X.A (exec st X.env) (SP X Eo D) X.xe s
def PSs(X:Cx)(st:List Mb)(t:TS):Prop :=
 ∀(Eo:List (γ×Obj))(s:δ)(a:St)(H:Hp)(D:Bw),Qa X Eo a H s->t D a H->L5 (L6 X.prog X.w) X.A (execs st X.env) (SP X Eo D) X.xe s
theorem thn{α:Type}{t:Sem α}{Q Q':α->δ->Prop}{A:L8}{E:V'->δ->Prop}{s:δ}(h:L5 M A t Q E s)(b:∀ a s,Q a s->Q' a s):L5 M A t Q' E s:=Lv h b λ _ _ x=>x
section
variable{X:Cx}
def G7(i:Nat):TE:=λ n H Q=>∃ v,n[i]? = some (some v)/\Q v H
def tC(v:V):TE:=λ _ H Q=>Q v H
theorem qs3{x:Str}{pos:Pos}(f:X.N[i]? = some x)(g:Vis X.env.scope x)(b:N' x:=by decide)(d:(x == ("__classdict__" : Str))=false:=by decide):PE X (.Name x pos) (G7 i):=by
 intro Eo s n H Q I h;obtain⟨v,e,h⟩:=h;obtain⟨m,j,k⟩:=I.loc;obtain⟨u,r,l⟩:=k i x v f e g;have fin:EP X Eo n Q u s:=⟨v,H,I,r,h⟩
 rcases l with⟨a,hm⟩ | ⟨a,c,hc,hcell⟩
 . exact wpAny_Name (wpAny_loadName_local I.ok.kind a j hm fin) b
 rcases a with a | a
 . exact wpAny_Name (wpAny_loadName_cell I.ok.kind a hc hcell fin) b
 exact wpAny_Name (wpAny_loadName_free I.ok.kind a hc hcell fin d) b
theorem qO2{i j pos}:PE X (.Constant (.int i) j pos) (tC (.int i)):=λ _ _ _ H _ I h=>wpAny_Constant_int ⟨.int i,H,I.tok _,⟨_,rfl⟩,h⟩
theorem pe_bl{b j pos}:PE X (.Constant (.bool b) j pos) (tC (.bl b)):=λ _ _ _ H _ I h=>Constant_bool ⟨.bl b,H,I,rfl,h⟩
theorem qaS9{j pos}:PE X (.Constant .none j pos) (tC .non):=λ _ _ _ H _ I h=>Constant_none ⟨.non,H,I,rfl,h⟩
theorem qaS6{x j pos}:PE X (.Constant (.str x) j pos) (tC (.str x)):=λ _ _ _ H _ I h=>Calls.Constant_str ⟨.str x,H,I.tok _,⟨_,rfl⟩,h⟩
def Gl(X:Cx)(x:Str):Prop:=X.env.kindOf x=some .globalImplicit
theorem qI8{E:V'->δ->Prop}{Eo:List (γ×Obj)}{s:δ}{n:St}{H:Hp}{x:Str}{u:V'}{pos:Pos}{Q:V'->δ->Prop}(I:Qa X Eo n H s)(a:Gl X x)(hm:X.mg x=some u)(h:Q u s)(b:N' x:=by decide):L5 (L6 X.prog X.w) X.A (eval (.Name x pos) X.env) Q E s :=
 Calls.Name_function_global I.ok.kind a (Calls.loadGlobal_global (by rw[I.ok.glob];exact I.mod.glob.keeps I.bk) hm h) b
theorem qaf3{E:V'->δ->Prop}{Eo:List (γ×Obj)}{s:δ}{n:St}{H:Hp}{x:Str}{u:V'}{pos:Pos}{Q:V'->δ->Prop}(I:Qa X Eo n H s)(a:Gl X x)(hm:X.mg x=none)(b:Ll x=some u)(h:Q u s)(c:x ≠ "__name__" := by decide)(d:N' x:=by decide):L5 (L6 X.prog X.w) X.A (eval (.Name x pos) X.env) Q E s:=by
 obtain⟨g,e,f⟩:=I.mod.blt;exact Calls.Name_function_global I.ok.kind a (Calls.loadGlobal_builtin (by rw[I.ok.glob];exact I.mod.glob.keeps I.bk) hm (by rw[I.ok.blt];exact e.keeps I.bk) ((f x c).trans b) h) d
theorem qac8{x:Str}{v:V}{u:V'}{pos:Pos}(a:Gl X x)(hm:X.mg x=some u)(r:P8 v u)(b:N' x:=by decide):PE X (.Name x pos) (tC v) :=
 λ _ _ _ H _ I h=>qI8 I a hm ⟨v,H,I,r,h⟩ b
theorem qaK0{x:Str}{v:V}{u:V'}{pos:Pos}(a:Gl X x)(hm:X.mg x=none)(b:Ll x=some u)(r:P8 v u)(c:x ≠ "__name__" := by decide)(d:N' x:=by decide):PE X (.Name x pos) (tC v) :=
 λ _ _ _ H _ I h=>qaf3 I a hm b ⟨v,H,I,r,h⟩ c d
variable{a b:Ma}{o tb:TE}{pos:Pos}
def tB(t:TE):TT:=λ n H Q=>t n H λ x H1=>∃ c,x=.bl c/\Q c H1
theorem qaH6{e:Ma}{t:TE}(h:PE X e t)(b:∀ whole,isTrue e X.env whole=(do let v <- whole;standAt e.pos;holding [v] (truthy v)):=by intro _;rfl):PT X e (tB t):=by
 intro Eo s n H Q I c;refine isTrue_plain (thn (h Eo s n H _ I c) λ v i a=>?_) (b _);obtain⟨x,H1,I1,f,g⟩:=a;obtain⟨d,rfl,q⟩:=g;cases f;exact Lm ⟨H1,I1,q⟩
variable{p tB':TT}{rest:List Ma}
def tAnd(t u:TT):TT:=λ n H Q=>t n H λ c H1=>if c=true then u n H1 Q else Q false H1
def tOr(t u:TT):TT:=λ n H Q=>t n H λ c H1=>if c=true then Q true H1 else u n H1 Q
def tNot(t:TT):TT:=λ n H Q=>t n H λ c H1=>Q (!c) H1
theorem qaH5(b:PT X a p):PW X (.BoolOp .And [a] pos) p:=by
 intro d Eo s n H Q I h;refine isTrue_and (thn (b Eo s n H Q I h) λ c f e=>?_);cases c with
 | true=>exact isTrue_and_nil e
 | false=>exact e
theorem qaR5(b:PT X a p):PW X (.BoolOp .Or [a] pos) p:=by
 intro d Eo s n H Q I h;refine isTrue_or (thn (b Eo s n H Q I h) λ c f e=>?_);cases c with
 | false=>exact isTrue_or_nil e
 | true=>exact e
theorem qaR6(f:PT X a p)(g:PW X (.BoolOp .And (b::rest) pos) tB'):PW X (.BoolOp .And (a::b::rest) pos) (tAnd p tB'):=by
 intro i Eo s n H Q I h;refine isTrue_and (thn (f Eo s n H _ I h) λ c j d=>?_);obtain⟨H1,I1,e⟩:=d;cases c with
 | true=>exact g i Eo j n H1 Q I1 e
 | false=>exact⟨H1,I1,e⟩
theorem pw_or(f:PT X a p)(g:PW X (.BoolOp .Or (b::rest) pos) tB'):PW X (.BoolOp .Or (a::b::rest) pos) (tOr p tB'):=by
 intro i Eo s n H Q I h;refine isTrue_or (thn (f Eo s n H _ I h) λ c j d=>?_);obtain⟨H1,I1,e⟩:=d;cases c with
 | true=>exact⟨H1,I1,e⟩
 | false=>exact g i Eo j n H1 Q I1 e
theorem qaR7(b:PT X a p):PT X (.UnaryOp .Not a pos) (tNot p):=by
 intro Eo s n H Q I h;exact isTrue_not (b Eo s n H (λ c H1=>Q (!c) H1) I h)
def tAndV(o tb:TE):TE:=λ n H Q=>o n H λ x H1=>∃ c,x=.bl c/\if c=true then tb n H1 Q else Q (.bl false) H1
def tOrV(o tb:TE):TE:=λ n H Q=>o n H λ x H1=>∃ c,x=.bl c/\if c=true then Q (.bl true) H1 else tb n H1 Q
def tNotV(o:TE):TE:=λ n H Q=>o n H λ x H1=>∃ c,x=.bl c/\Q (.bl (!c)) H1
theorem qaJ2{op}{t:TE}(h:PE X a t):PE X (.BoolOp op [a] pos) t:=λ Eo s n H Q I b=>BoolOp_one (h Eo s n H Q I b)
theorem qaK1(f:PE X a o)(g:PE X (.BoolOp .And (b::rest) pos) tb):PE X (.BoolOp .And (a::b::rest) pos) (tAndV o tb):=by
 intro Eo s n H Q I h;refine BoolOp_and (thn (f Eo s n H _ I h) λ v i e=>?_);obtain⟨x,H1,I1,j,d⟩:=e;obtain⟨c,rfl,d⟩:=d;cases j;refine Lm ?_;cases c with
 | true=>exact g Eo i n H1 Q I1 d
 | false=>exact⟨.bl false,H1,I1,rfl,d⟩
theorem pe_or(f:PE X a o)(g:PE X (.BoolOp .Or (b::rest) pos) tb):PE X (.BoolOp .Or (a::b::rest) pos) (tOrV o tb):=by
 intro Eo s n H Q I h;refine BoolOp_or (thn (f Eo s n H _ I h) λ v i e=>?_);obtain⟨x,H1,I1,j,d⟩:=e;obtain⟨c,rfl,d⟩:=d;cases j;refine Lm ?_;cases c with
 | false=>exact g Eo i n H1 Q I1 d
 | true=>exact⟨.bl true,H1,I1,rfl,d⟩
theorem qaS8(e:PE X a o):PE X (.UnaryOp .Not a pos) (tNotV o):=by
 intro Eo s n H Q I h;refine UnaryOp_ (thn (e Eo s n H _ I h) λ v g b=>?_);obtain⟨x,H1,I1,f,d⟩:=b;obtain⟨c,rfl,d⟩:=d;cases f;exact not_of (Lm ⟨.bl (!c),H1,I1,rfl,d⟩)
def tIf(t:TT)(o tb:TE):TE:=λ n H Q=>t n H λ c H1=>if c=true then o n H1 Q else tb n H1 Q
theorem qaz4{c:Ma}(i:PT X c p)(j:PE X a o)(k:PE X b tb):PE X (.IfExp c a b pos) (tIf p o tb):=by
 intro Eo s n H Q I h;refine wpAny_IfExp (thn (i Eo s n H _ I h) λ d f e=>?_);obtain⟨H1,I1,g⟩:=e;cases d with
 | true=>exact j Eo f n H1 Q I1 g
 | false=>exact k Eo f n H1 Q I1 g
end
def SqL(K:O0)(H:Hp)(a:γ)(xs:List V):Prop :=
 Rd H a (.l xs) ∨
   ∃(o:Obj)(its:Array V')(n:Nat),K.lookup a=some o/\o.cls=.type "list" /\ o.dict=none/\o.data=.seq its n/\its.size<=Lg/\P9 xs its.toList
def SqT(K:O0)(H:Hp)(a:γ)(xs:List V):Prop :=
 Rd H a (.q xs) ∨
   ∃(o:Obj)(its:Array V')(n:Nat),K.lookup a=some o/\o.cls=.type "tuple" /\ o.data=.seq its n/\its.size<=Lg/\P9 xs its.toList
noncomputable def absV:V'->Option V
 | .none=>some .non
 | .bool b=>some (.bl b)
 | .int i _=>some (.int i)
 | .str x _=>some (.str x)
 | .bytes b _=>some (.byt b)
 | .float b _=>some (.flt b)
 | .ref a=>some (.ref a)
 | .type n=>some (.ty n)
 | _=>none
theorem P8.abs{x:V}{u:V'}(r:P8 x u):absV u=some x:=by
 cases x with
 | non=>cases r;rfl
 | bl _=>cases r;rfl
 | int _=>obtain⟨t,rfl⟩:=r;rfl
 | str _=>obtain⟨t,rfl⟩:=r;rfl
 | byt _=>obtain⟨t,rfl⟩:=r;rfl
 | flt _=>obtain⟨t,rfl⟩:=r;rfl
 | ref _=>cases r;rfl
 | ty _=>cases r;rfl
theorem P8.inj{x y:V}{u:V'}(r:P8 x u)(q:P8 y u):x=y:=Oy (r.abs.symm.trans q.abs)
theorem P9.inj{xs ys:List V}(h:P9 xs us)(g:P9 ys us):xs=ys:=by
 induction h generalizing ys with
 | nil=>cases g;rfl
 | cons r t i=>cases g with | cons q u=>rw[r.inj q,i u]
section
variable{X:Cx}{q:List (γ×Obj)}{m:St}{H:Hp}{s:δ}{a:γ}{xs ys:List V}
theorem SqL.of{K:O0}(h:H a=some (.l xs)):SqL K H a xs:=.inl (.inl h)
theorem Qa.list(I:Qa X q m H s)(h:SqL X.K H a xs):∃ its:List V',P9 xs its/\PlainL s.heap a its.toArray/\xs.length<=Lg:=by
 rcases h with h | ⟨o,its,n,b,c,d,f,g,r⟩
 . obtain⟨z,its,n,r,e⟩:=h.ok I.hok
   exact⟨its,r,⟨_,n,e,rfl,rfl,rfl⟩,z⟩
 refine⟨its.toList,r,⟨o,n,I.kIn a o b,c,d,by simpa using f⟩,?_⟩;have e:=r.length;simp only[zB2] at e;lia
theorem Qa.tuple(I:Qa X q m H s)(h:SqT X.K H a xs):∃ its:List V',P9 xs its/\IsTup s.heap a its.toArray/\xs.length<=Lg:=by
 rcases h with h | ⟨o,its,n,b,c,d,f,r⟩
 . obtain⟨z,its,r,p⟩:=h.ok I.hok
   exact⟨its,r,p,z⟩
 refine⟨its.toList,r,⟨o,I.kIn a o b,c,n,by simpa using d⟩,?_⟩;have e:=r.length;simp only[zB2] at e;lia
theorem Qa.list_inj(I:Qa X q m H s)(h:SqL X.K H a xs)(h':SqL X.K H a ys):xs=ys:=by
 obtain⟨b,r,⟨o,n,e,_,_,d⟩,_⟩:=I.list h;obtain⟨its',g,⟨j,k,c,_,_,f⟩,_⟩:=I.list h';rw[e] at c;cases c;rw[d] at f;injection f with i _
 have:b=its':=by simpa using congrArg Array.toList i
 subst this;exact r.inj g
end
noncomputable abbrev Cx.wish(X:Cx)(E:V'->δ->Prop):Cx:={ X with xe:=E }
abbrev Cx.nox(X:Cx):Cx:=X.wish λ _ _=>False
theorem Cx.Ok.wish{X:Cx}(a:X.Ok)(E:V'->δ->Prop):(X.wish E).Ok :=
 ⟨a.mod,a.kind,a.glob,a.blt,a.above,a.inj,a.has,a.cab,a.hd,a.frames,a.stk,a.exf,a.bs,a.bsz,a.noex,a.exfs,a.funs,a.frf⟩
theorem Cx.Ok.unwish{X:Cx}{E:V'->δ->Prop}(a:(X.wish E).Ok):X.Ok :=
 ⟨a.mod,a.kind,a.glob,a.blt,a.above,a.inj,a.has,a.cab,a.hd,a.frames,a.stk,a.exf,a.bs,a.bsz,a.noex,a.exfs,a.funs,a.frf⟩
section
variable{X:Cx}{c:List (γ×Obj)}{b:St}{H:Hp}{s:δ}{E:V'->δ->Prop}
theorem Qa.wish(I:Qa X c b H s)(E:V'->δ->Prop):Qa (X.wish E) c b H s:=⟨I.ok.wish E,I.os,I.bare,I.base,I.loc,I.cell,I.free,I.freeC,I.pin,I.hok,I.len⟩
theorem Qa.unwish(I:Qa (X.wish E) c b H s):Qa X c b H s:=⟨I.ok.unwish,I.os,I.bare,I.base,I.loc,I.cell,I.free,I.freeC,I.pin,I.hok,I.len⟩
theorem SP.unwish{D:Bw}{f:Flow}{s':δ}(h:SP (X.wish E) c D f s'):SP X c D f s':=by
 cases f with
 | next=>obtain⟨b',H',I,q⟩:=h;exact⟨b',H',I.unwish,q⟩
 | brk=>obtain⟨b',H',I,q⟩:=h;exact⟨b',H',I.unwish,q⟩
 | cont=>obtain⟨b',H',I,q⟩:=h;exact⟨b',H',I.unwish,q⟩
 | ret u=>obtain⟨v,b',H',I,r,q⟩:=h;exact⟨v,b',H',I.unwish,r,q⟩
theorem PSs.nox{st:List Mb}{t:TS}(h:PSs X.nox st t):PSs X st t:=λ c s b H D I a =>
 Lv (h c s b H D (I.wish _) a) (λ _ _ q=>q.unwish) λ _ _ z=>Py z
end
section
variable{X:Cx}{n:Mb}{rest:List Mb}{t u:TS}{e:Ma}{te:TE}{m:Pos}
def tNext:TS:=λ D l H=>D.nx l H
def tSeq(t u:TS):TS:=λ D l H=>t { D with nx:=u D } l H
theorem qaH8:PSs X [] tNext:=λ _ _ l H _ I h=>wpAny_execs_nil ⟨l,H,I,h⟩
theorem qac3(h1:PS X n t)(h2:PSs X rest u):PSs X (n::rest) (tSeq t u):=by
 intro Eo s l H D I h;refine wpAny_execs_cons (thn (h1 Eo s l H { D with nx:=u D } I h) λ f a q=>?_);cases f with
 | next =>
   obtain⟨l',H',I',q⟩:=q;exact h2 Eo a l' H' D I' q
 | ret v=>exact q
 | brk=>exact q
 | cont=>exact q
theorem qac2(h1:PS X n t):PSs X [n] t:=by
 intro Eo s l H D I h;refine wpAny_execs_cons (thn (h1 Eo s l H D I h) λ f a q=>?_);cases f with
 | next=>exact wpAny_execs_nil q
 | ret v=>exact q
 | brk=>exact q
 | cont=>exact q
theorem Qa.quiet{Eo:List (γ×Obj)}{l:St}{H:Hp}{s:δ}(I:Qa X Eo l H s):interactive X.env=false:=by simp[interactive,I.ok.kind]
def tDrop(te:TE):TS:=λ D l H=>te l H λ _ H1=>D.nx l H1
theorem qaI1(a:PE X e te)(b:swapsWith e none m.line X.env=pure false:=by rfl):PS X (.Expr e m) (tDrop te):=by
 intro Eo s l H D I h;exact wpAny_Expr_any (thn (a Eo s l H _ I h) λ v d ⟨x,H1,I1,f,c⟩=>⟨l,H1,I1,c⟩) I.quiet b
def tRet(te:TE):TS:=λ D l H=>te l H D.rt
theorem qaI0(a:PE X e te):PS X (.Return (some e) m) (tRet te):=by
 intro Eo s l H D I h;exact wpAny_Return_some (thn (a Eo s l H _ I h) λ v d ⟨x,H1,I1,b,c⟩=>⟨x,l,H1,I1,b,c⟩)
def tIfS(c:TT)(t u:TS):TS:=λ D l H=>c l H λ b H1=>if b=true then t D l H1 else u D l H1
theorem ps_if{c:Ma}{a b:List Mb}{tc:TT}(i:PT X c tc)(j:PSs X a t)(k:PSs X b u):PS X (.If c a b m) (tIfS tc t u):=by
 intro Eo s l H D I h;refine wpAny_If (thn (i Eo s l H _ I h) λ d f e=>?_);obtain⟨H1,I1,g⟩:=e;cases d with
 | true=>exact j Eo f l H1 D I1 g
 | false=>exact k Eo f l H1 D I1 g
end
abbrev TG:=V->St->Hp->(St->Hp->Prop)->Prop
abbrev TGs:=List V->St->Hp->(St->Hp->Prop)->Prop
def PG(X:Cx)(target:Ma)(t:TG):Prop :=
 ∀(Eo:List (γ×Obj))(s:δ)(a:St)(H:Hp)(v:V)(u:V')(Q:St->Hp->Prop),Qa X Eo a H s->P8 v u->t v a H Q ->
   L5 (L6 X.prog X.w) X.A (assign target X.env u) (λ _ s'=>∃ a' H',Qa X Eo a' H' s'/\Q a' H') X.xe s
def PGs(X:Cx)(ts:List Ma)(t:TGs):Prop :=
 ∀(Eo:List (γ×Obj))(s:δ)(a:St)(H:Hp)(vs:List V)(us:List V')(Q:St->Hp->Prop),Qa X Eo a H s->P9 vs us->t vs a H Q ->
   L5 (L6 X.prog X.w) X.A (assignInOrder ((Ly ts X.env).map (·.2)) us) (λ _ s'=>∃ a' H',Qa X Eo a' H' s'/\Q a' H') X.xe s
abbrev Ju:=V->V->V->Hp->(Hp->Prop)->Prop
def PSet(X:Cx)(t:Ju):Prop :=
 ∀(Eo:List (γ×Obj))(s:δ)(a:St)(H:Hp)(o i v:V)(ov iv u:V')(Q:Hp->Prop),Qa X Eo a H s->P8 o ov->P8 i iv->P8 v u->t o i v H Q ->
   L5 (L6 X.prog X.w) X.A (setItem ov iv u) (λ _ s'=>∃ H',Qa X Eo a H' s'/\Q H') X.xe s
abbrev TIp:=V->V->Hp->VK->Prop
def PIp(X:Cx)(op:Operator)(t:TIp):Prop :=
 ∀(Eo:List (γ×Obj))(s:δ)(a:St)(H:Hp)(x y:V)(v u:V')(Q:VK),Qa X Eo a H s->P8 x v->P8 y u->t x y H Q ->
   L5 (L6 X.prog X.w) X.A (inplaceOp op v u) (EP X Eo a Q) X.xe s
section
variable{X:Cx}{pos:Pos}
def Gg(i:Nat):TG:=λ v R H Q=>Q (R.set i (some v)) H
theorem qas8{x:Str}(a:X.N.Nodup)(hi:X.N[i]? = some x)(b:Loc X.env.scope x)(c:X.fn x=true∨X.env.scope.names.lookup x=some .local:=by first | exact .inl rfl | exact .inr rfl | assumption):PG X (.Name x pos) (Gg i):=by
 intro Eo s R H v u Q I r h;exact wpAny_assign_Name (qD2 I a hi b r (λ d I'=>⟨_,H,I',h⟩) c)
def gNil:TGs:=λ vs R H Q=>vs=[]/\Q R H
def gCons(t:TG)(u:TGs):TGs:=λ vs R H Q=>∃ v r,vs=v::r/\t v R H λ R' H'=>u r R' H' Q
theorem qaI8:PGs X [] gNil:=by
 intro Eo s R H a b Q I r h;obtain⟨e,h⟩:=h;subst e;cases r;exact assignInOrder_nil ⟨R,H,I,h⟩
theorem qaz1{e:Ma}{es:List Ma}{t:TG}{u:TGs}(h1:PG X e t)(h2:PGs X es u)(b:(Ly (e::es) X.env).map (·.2)=assign e X.env::(Ly es X.env).map (·.2):=by rfl):PGs X (e::es) (gCons t u):=by
 intro Eo s R H i j Q I r h;obtain⟨v,k,c,h⟩:=h;subst c;cases r with
 | cons r d =>
   rw[b];refine assignInOrder_cons (thn (h1 Eo s R H _ _ _ I r h) λ _ f a=>?_);obtain⟨σ1,H1,I1,g⟩:=a;exact h2 Eo f σ1 H1 _ _ Q I1 d g
def gTup(K:O0)(n:Nat)(t:TGs):TG:=λ v R H Q=>∃ a xs,v=.ref a/\SqT K H a xs/\xs.length=n/\t xs R H Q
theorem qaS3{es:List Ma}{k:Nat}{t:TGs}(g:X.calm=true)(h:PGs X es t)(i:(Ly es X.env).length=n:=by rfl)(c:(Ly es X.env).findIdx? (·.1)=none:=by rfl):PG X (.Tuple es k pos) (gTup X.K n t):=by
 intro Eo s R H v u Q I r d;obtain⟨a,j,l,m,p,d⟩:=d;subst l;cases r;obtain⟨q,f,w,z⟩:=I.tuple m;refine assign_Tuple_tuple (I.ok.hd g) w (by simp[i,<- p,f.length]) c λ x y=>?_
 have I1:Qa X Eo R H { s with heap:=x }:=I.kept (t':=s.toks) λ b o e=>y b o (zAj (zA7 e)) e
 exact h Eo _ R H j _ Q I1 (by simpa using f) d
def gSub(to a:TE)(t:Ju):TG:=λ v R H Q=>to R H λ o H1=>a R H1 λ i H2=>t o i v H2 λ H3=>Q R H3
theorem qaS4{o i:Ma}{to b:TE}{t:Ju}(c:PE X o to)(hi:PE X i b)(d:PSet X t)(e:∀ v,assign (.Subscript o i pos) X.env v=(do
     let ov <- holding [v] (eval o X.env)
     let iv <- holding [v,ov] (eval i X.env)
     standAt pos
     holding [v,ov,iv] (setItem ov iv v)
     release [v,ov,iv] []):=by intro _;rfl):PG X (.Subscript o i pos) (gSub to b t):=by
 intro Eo s R H v u Q I r h;rw[e];refine G' (Lj (thn (c Eo s R H _ I h) λ ov f a=>?_));obtain⟨x,H1,I1,g,j⟩:=a;refine G' (Lj (thn (hi Eo f R H1 _ I1 j) λ iv k a=>?_));obtain⟨y,H2,I2,l,q2⟩:=a;refine G' (wpAny_standAt (G' (Lj (thn (d Eo k R H2 x y v ov iv u _ I2 g l r q2) λ _ n a=>?_))));obtain⟨H3,I3,m⟩:=a;exact wpAny_release ⟨R,H3,I3,m⟩
def Je(te:TE)(g:TG):TS:=λ D R H=>te R H λ x H1=>g x R H1 D.nx
theorem qaS0{tg e:Ma}{te:TE}{g:TG}(b:PE X e te)(c:PG X tg g)(d:swapsWithSole [tg] e pos.line X.env=pure false:=by rfl)(f:swappedStores [tg] e X.env=pure none:=by rfl)(h1:(Ly [tg] X.env).map (·.2)=[assign tg X.env]:=by rfl):PS X (.Assign [tg] e pos) (Je te g):=by
 intro Eo s R H D I h;refine wpAny_Assign_stores (thn (b Eo s R H _ I h) λ v i a=>?_) d f;obtain⟨x,H1,I1,j,k⟩:=a;rw[h1];exact thn (c Eo i R H1 x v _ I1 j k) λ _ l q=>q
theorem qaH9{x:Str}{e:Ma}{te:TE}{pos':Pos}(b:X.N.Nodup)(hi:X.N[i]? = some x)(c:Loc X.env.scope x)(d:PE X e te)(f:swapsWith e (some (.Name x pos')) pos.line X.env=pure false:=by rfl)(g:X.fn x=true∨X.env.scope.names.lookup x=some .local:=by first | exact .inl rfl | exact .inr rfl | assumption) :
   PS X (.Assign [.Name x pos'] e pos) (Je te (Gg i)):=by
 intro Eo s R H D I h;refine wpAny_Assign_Name (thn (d Eo s R H _ I h) λ v l a=>?_) f;obtain⟨y,H1,I1,j,k⟩:=a;exact qD2 I1 b hi c j (λ m I2=>⟨_,H1,I2,k⟩) g
def tAugS(to b te:TE)(tget:V->V->Hp->VK->Prop)(a:TIp)(tset:Ju):TS:=λ D R H=>to R H λ o H1=>b R H1 λ i H2=>tget o i H2 λ x H3=>te R H3 λ y H4=>a x y H4 λ z H5=>tset o i z H5 λ H6=>D.nx R H6
def PGet(X:Cx)(t:V->V->Hp->VK->Prop):Prop :=
 ∀(Eo:List (γ×Obj))(s:δ)(R:St)(H:Hp)(o i:V)(ov iv:V')(Q:VK),Qa X Eo R H s->P8 o ov->P8 i iv->t o i H Q ->
   L5 (L6 X.prog X.w) X.A (getItem ov iv) (EP X Eo R Q) X.xe s
theorem qaI3{o i e:Ma}{to j te:TE}{tget:V->V->Hp->VK->Prop}{f:TIp}{tset:Ju}{op:Operator}{tpos:Pos}(p:PE X o to)(hi:PE X i j)(q:PGet X tget)(r:PE X e te)(t:PIp X op f)(u:PSet X tset)(w:∀ c d b,augStore i c d b=(do holding [b,c,d] (setItem c d b);release [b,c,d] [];pure .next):=by intros;rfl):PS X (.AugAssign (.Subscript o i tpos) op e pos) (tAugS to j te tget f tset):=by
 intro Eo s R H D I h;refine wpAny_AugAssign_SubscriptAny (thn (p Eo s R H _ I h) λ c x a=>?_) w;obtain⟨k,H1,I1,l,y⟩:=a;refine thn (hi Eo x R H1 _ I1 y) λ d z a=>?_
 obtain⟨m,H2,I2,n,q2⟩:=a;refine thn (q Eo z R H2 k m c d _ I2 l n q2) λ g A a=>?_
 obtain⟨B,H3,I3,C,E⟩:=a;refine thn (r Eo A R H3 _ I3 E) λ v F a=>?_
 obtain⟨G,H4,I4,J,K⟩:=a;refine thn (t Eo F R H4 B G g v _ I4 C J K) λ b L a=>?_
 obtain⟨M,H5,I5,N,O⟩:=a;exact thn (u Eo L R H5 k m M c d b _ I5 l n N O) λ _ Q ⟨H6,I6,P⟩=>⟨R,H6,I6,P⟩
def ipI(f:Int->Int->Int):TIp:=λ x y H Q=>∃ i j,x=.int i/\y=.int j/\Q (.int (f i j)) H
theorem qaV7:PIp X .Add (ipI λ i j=>i+j):=by
 intro Eo s R H x y v u Q I a b h;obtain⟨i,j,c,e2,q⟩:=h;subst c;subst e2;obtain⟨t,rfl⟩:=a;obtain⟨d,rfl⟩:=b;exact iadd_int ⟨.int _,H,I.tok _,⟨_,rfl⟩,q⟩
end
section
variable{X:Cx}{B:Pos}
def qaQ9(c:TT)(tb:TS):TS:=λ D z H=>∃ W:Nat->St->Hp->Prop,(∃ m,W m z H)/\∀ m z H,W m z H ->
 c z H λ b H1=>if b=true then ∃ N:St->Hp->Prop,(∀ z' H',N z' H'->∃ a,a < m/\W a z' H')/\tb { D with nx:=N,ct:=N,bk:=D.nx } z H1 else D.nx z H1
theorem qay4{c:Ma}{tc:TT}{tb:TS}(k:PassesOwn (L6 X.prog X.w) X.A X.env X.xe)(m:PT X c tc)(o:PSs X body tb):PS X (.While c body [] B) (qaQ9 tc tb):=by
 intro Eo s z H D I h;obtain⟨W,⟨p,q⟩,turn⟩:=h;refine wpAny_While (codeAny_whileLoop (λ n r=>∃ z' H',Qa X Eo z' H' r/\W n z' H') ?_ p ⟨z,H,I,q⟩);rintro n t ⟨σ1,H1,I1,u⟩;refine Lw k (thn (m Eo t σ1 H1 _ I1 (turn n σ1 H1 u)) λ b x d=>?_);obtain⟨H2,I2,q2⟩:=d;cases b with
 | true =>
   obtain⟨N,l,q2⟩:=q2;rw[if_pos rfl];refine Lw k (thn (o Eo x σ1 H2 _ I2 q2) λ f y a=>?_);cases f with
   | next =>
     obtain⟨σ3,H3,I3,e⟩:=a;obtain⟨g,i,j⟩:=l σ3 H3 e;exact⟨g,i,σ3,H3,I3,j⟩
   | cont =>
     obtain⟨σ3,H3,I3,e⟩:=a;obtain⟨g,i,j⟩:=l σ3 H3 e;exact⟨g,i,σ3,H3,I3,j⟩
   | brk=>exact a
   | ret v=>exact a
 | false =>
   rw[if_neg zAk];exact wpAny_execs_nil ⟨σ1,H2,I2,q2⟩
end
structure It where
 go:Nat->Hp->Prop
 yld:Nat->Hp->V->Hp->Prop
 stop:Nat->Hp->Prop
def G8(X:Cx)(Eo:List (γ×Obj))(H:Hp)(b:γ):Prop :=
 H b=none/\b≠X.env.locals/\b∉X.fs/\(b∈X.ex∨X.s₀.heap.objs.size<=b)/\(∀ x c,X.env.cells.lookup x=some c->c≠b)/\∀ p∈X.pn++Eo,p.1≠b
theorem Qa.fpOk{X:Cx}{Eo:List (γ×Obj)}{g:St}{H H':Hp}{s:δ}{b:γ}(I:Qa X Eo g H s)(a:s.heap.objs.size<=b)(d:H' b=none):G8 X Eo H' b:=by
 refine⟨d,Nat.ne_of_gt (zA8 I.lt a),I.nofs a,.inr (zAd I.sz a),λ x c e z=>?_,λ p f z=>?_⟩
 . obtain⟨v,q⟩:=I.cell x c e
   exact absurd (zA8 q.lt (by rw[z];exact a)) (zC3 _)
 exact absurd (zA8 (zA7 (I.pin p f).1) (by rw[z];exact a)) (zC3 _)
structure Jv(P:L7)(w:L9)(K:O0)(tg:Ma)(J:It)(fp:List γ)(it:γ)(tn:Nat->Heap->Prop):Prop where
 mem:it∈fp
 obj:∀ i h,tn i h->∀ b∈fp,∃ o,h.get? b=some o/\∀ v,o.data≠.cell v
 keep:∀ i h h',tn i h->(∀ b∈fp,∀ o,h.get? b=some o->h'.get? b=some o)->tn i h'
 item:∀(X:Cx),X.prog=P->X.w=w->X.K=K->X.calm=true->∀(i:Nat)(Eo:List (γ×Obj))(s:δ)(a:St)(H:Hp)(E:V'->δ->Prop),Qa X Eo a H s->(∀ b∈fp,G8 X Eo H b)->tn i s.heap->J.go i H ->
   L5 (L6 P w) X.A (pyNext (.ref it)) (λ r s1=>∃ u,r=some u /\
     L5 (L6 P w) X.A (letOwnedTupleGo tg (.ref it) u) (λ _ s2=>∃ x H',Qa X Eo a H' s2/\P8 x u/\J.yld i H x H'/\tn (i+1) s2.heap/\∀ b∈fp,H' b=none) E s1) E s
 done:∀(X:Cx),X.prog=P->X.w=w->X.K=K->X.calm=true->∀(i:Nat)(Eo:List (γ×Obj))(s:δ)(a:St)(H:Hp)(E:V'->δ->Prop),Qa X Eo a H s->(∀ b∈fp,G8 X Eo H b)->tn i s.heap->J.stop i H ->
   L5 (L6 P w) X.A (pyNext (.ref it)) (λ r s1=>r=none/\Qa X Eo a H s1) E s
 self:∀(A:L8)(i:Nat)(s:δ)(Q:V'->δ->Prop)(E:V'->δ->Prop),tn i s.heap->Q (.ref it) s->L5 (L6 P w) A (pyIter (.ref it)) Q E s
abbrev TI:=St->Hp->(It->Hp->Prop)->Prop
def PIE(X:Cx)(Eo:List (γ×Obj))(c:St)(tg:Ma)(R:It->Hp->Prop)(a:V')(s2:δ):Prop :=
 ∃(it:γ)(fp:List γ)(tn:Nat->Heap->Prop)(J:It)(H':Hp),a=.ref it/\Qa X Eo c H' s2/\Jv X.prog X.w X.K tg J fp it tn/\tn 0 s2.heap/\(∀ b∈fp,G8 X Eo H' b)/\R J H'
def PI(X:Cx)(tg iter:Ma)(wi:TI):Prop :=
 ∀(Eo:List (γ×Obj))(s:δ)(b:St)(H:Hp)(R:It->Hp->Prop),Qa X Eo b H s->wi b H R ->
   L5 (L6 X.prog X.w) X.A (eval iter X.env) (λ v a=>L5 (L6 X.prog X.w) X.A (pyIter v) (PIE X Eo b tg R) X.xe a) X.xe s
theorem go_of{A:L8}{E:V'->δ->Prop}{s:δ}{tg:Ma}{it:γ}{u:V'}{o:Obj}{n:String}{vs:Array V'}{Q:Unit->δ->Prop}(b:s.heap.get? it=some o)(c:o.cls=.type n)(d:o.data=.fields vs)(e:["enumerate", "zip", "dict_itemiterator", "dict_reverseitemiterator", "odict_iterator", "itertools.zip_longest", "itertools.pairwise"].contains n=false)(a:Q () s):L5 M A (letOwnedTupleGo tg (.ref it) u) Q E s:=by
 unfold letOwnedTupleGo;cases tg<;>first
   | exact Ld a
   | (cases u<;>first
       | exact Ld a
       | (refine G' (wpAny_load b ?_)
          rw[c,d];show L5 M A (if (["enumerate", "zip", "dict_itemiterator", "dict_reverseitemiterator", "odict_iterator", "itertools.zip_longest", "itertools.pairwise"].contains n&&vs[0]? == some (rawInt _))=true then _ else _) Q E s;rw[if_neg (by intro h;rw[e,Bool.false_and] at h;cases h)];exact Ld a))
noncomputable def Itl(K:O0)(a:γ):It :=
 ⟨λ i H=>∃ xs x,SqL K H a xs/\xs[i]? = some x,λ i H x H'=>H'=H/\∀ xs,SqL K H a xs->xs[i]? = some x,λ i H=>∃ xs,SqL K H a xs/\xs.length<=i⟩
noncomputable def Itr(lo:Int)(n:Nat):It:=⟨λ i _=>i < n,λ i H x H'=>H'=H/\x=.int (lo+i),λ i _=>n<=i⟩
theorem qaj9{P:L7}{w:L9}{K:O0}{tg:Ma}(a it:γ):Jv P w K tg (Itl K a) [it] it (λ i h=>h.IsListIter it a i) where
 mem:=by simp
 obj:=λ i h f b g=>by
   have e:b=it:=by simpa using g
   subst e;obtain⟨o,e,c,d⟩:=f;exact⟨o,e,λ v z=>by rw[d] at z;cases z⟩
 keep:=λ i h l f k=>f.at λ o e=>k it (by simp) o e
 item:=by
   intro X q r t J i Eo s R H E I m f y;subst q r t;obtain⟨L,x,n,A⟩:=y;obtain⟨B,C,p,M⟩:=I.list n;obtain⟨u,N,O⟩:=C.get A;obtain⟨D,f1,f2,f3,F,G⟩:=m it (by simp);refine wpAny_pyNext_list_item f p.isList (x:=u) (by simpa using N) λ l j Q=>?_
   have I1:Qa X Eo R H { s with heap:=l }:=I.turned (t':=s.toks) (λ b o g e=>(Q.2 b g).trans e) D f1 f3 F G;obtain⟨o,e,c,d⟩:=id j;exact⟨u,rfl,go_of (s:={ s with heap:=l }) e c d (by decide) ⟨x,H,I1,O,⟨rfl,λ U S=>by rw[I.list_inj S n];exact A⟩,j,λ b g=>(m b g).1⟩⟩
 done:=by
   intro X q r t J i Eo s R H E I m f y;subst q r t;obtain⟨L,n,A⟩:=y;obtain⟨B,C,p,M⟩:=I.list n;obtain⟨D,f1,f2,f3,F,G⟩:=m it (by simp);have V:=C.length;exact wpAny_pyNext_list_end (I.ok.hd J) f p.isList (by simp;lia) λ l T=>⟨rfl,I.turned (t':=s.toks) (λ b o g e=>T b o g e) D f1 f3 F G⟩
 self:=λ _ _ _ _ _ f h=>wpAny_pyIter_listiter f h
theorem qZ6{P:L7}{w:L9}{K:O0}{tg:Ma}(it:γ)(lo:Int)(n:Nat):Jv P w K tg (Itr lo n) [it] it (λ i h=>IsRangeIter h it (lo+(i:Nat) * 1) ((n:Int) - (i:Nat)) 1) where
 mem:=by simp
 obj:=λ i h a b c=>by
   have e:b=it:=by simpa using c
   subst e;exact⟨_,a,λ v z=>by
     have A:Data.fields _=Data.cell v:=z;cases A⟩
 keep:=λ i h f a k=>k it (by simp) _ a
 item:=by
   intro X j l m p i Eo s F H E I g a q;subst j l m;obtain⟨r,f1,f2,f3,u,x⟩:=g it (by simp);have W:=Walks.range (prog:=X.prog) (w:=X.w) (I.ok.hd p) it lo 1 n;refine W.item i s _ _ q a λ v f y B d C=>?_
   obtain⟨t,rfl⟩:=B;have I1:Qa X Eo F H { s with heap:=f,toks:=y }:=I.turned (λ b o c e=>C b o (by simpa using c) e) r f1 f3 u x;refine⟨_,rfl,go_of (s:={ s with heap:=f,toks:=y }) (n := "range_iterator") d rfl rfl (by decide) ⟨.int (lo+i),H,I1,⟨t,?_⟩,⟨rfl,rfl⟩,d,λ b c=>(g b c).1⟩⟩;rw[Int.mul_one]
 done:=by
   intro X j l m p i Eo s F H E I g a q;subst j l m;obtain⟨r,f1,f2,f3,u,x⟩:=g it (by simp);exact wpAny_pyNext_range_end (I.ok.hd p) a (by have:n<=i:=q;lia) λ f D=>⟨rfl,I.turned (t':=s.toks) (λ b o c e=>D b o c e) r f1 f3 u x⟩
 self:=λ _ _ _ _ _ a h=>wpAny_pyIter_rangeiter a h
section
variable{X:Cx}{tg:Ma}
def Ik(K:O0)(tl:TE):TI:=λ σ H R=>tl σ H λ x H1=>∃ a,x=.ref a/\(∃ xs,SqL K H1 a xs)/\R (Itl K a) H1
theorem qx8{l:Ma}{tl:TE}(f:PE X l tl):PI X tg l (Ik X.K tl):=by
 intro Eo s σ H R I h;refine thn (f Eo s σ H _ I h) λ v c d=>?_
 obtain⟨x,H1,I1,g,i⟩:=d;obtain⟨a,e,⟨n,j⟩,q⟩:=i;subst e;cases g;obtain⟨k,r,p,t⟩:=I1.list j;refine wpAny_pyIter_list p.isList ?_;refine⟨c.heap.objs.size,[c.heap.objs.size],_,_,H1,rfl,I1.kept (t':=c.toks) λ b o e=>zA2 _ e,qaj9 a _,⟨_,zAy _ rfl,rfl,rfl⟩,λ b m=>?_,q⟩;have e:b=c.heap.objs.size:=by simpa using m
 subst e;exact I1.fpOk (zA3 _) (I1.hok.fresh (zA3 _))
theorem qay3{Eo:List (γ×Obj)}{σ:St}{H:Hp}{s:δ}{R:It->Hp->Prop}{E:V'->δ->Prop}{lo hi:Int}{t u v:Tok}{a:Nat}(I:Qa X Eo σ H s)(h1:-(2 ^ 62)<=lo)(h2:lo < 2 ^ 62)(c:-(2 ^ 62)<=hi)(d:hi < 2 ^ 62)(q:R (Itr lo (hi - lo).toNat) H):L5 (L6 X.prog X.w) X.A (pyIter (.ref s.heap.objs.size)) (PIE X Eo σ tg R) E { s with heap:=s.heap.push { cls:=.type "range",data:=.fields #[.int lo t,.int hi u,.int 1 v] },toks:=a }:=by
 refine wpAny_pyIter_range (IsRange.new ..) (small_one h1 h2 c d) ?_;have I1:Qa X Eo σ H { s with heap:=s.heap.push { cls:=.type "range",data:=.fields #[.int lo t,.int hi u,.int 1 v] },toks:=a }:=I.kept λ b o e=>zA2 _ e
 refine⟨(s.heap.push { cls:=.type "range",data:=.fields #[.int lo t,.int hi u,.int 1 v] }).objs.size,[(s.heap.push { cls:=.type "range",data:=.fields #[.int lo t,.int hi u,.int 1 v] }).objs.size],_,_,H,rfl,
   I1.kept (t':=a) λ b o e=>zA2 _ e,qZ6 _ lo (hi - lo).toNat,?_,λ b f=>?_,q⟩
 . have g:lo+((0:Nat):Int) * 1=lo:=by simp
   have e2:(((hi - lo).toNat:Nat):Int) - ((0:Nat):Int)=Builtin.Range.rangeSize lo hi 1:=by rw[rangeSize_one];split<;>lia
   show IsRangeIter _ _ (lo+((0:Nat):Int) * 1) ((((hi - lo).toNat:Nat):Int) - ((0:Nat):Int)) 1;rw[g,e2];exact zAy _ rfl
 have e:b=(s.heap.push { cls:=.type "range",data:=.fields #[.int lo t,.int hi u,.int 1 v] }).objs.size:=by simpa using f
 subst e;exact I1.fpOk (zA3 _) (I1.hok.fresh (zA3 _))
def iRng1(ta:TA):TI:=λ σ H R=>ta σ H λ vs H1=>∃ j:Int,vs=[.int j]/\-(2 ^ 62)<=j/\j < 2 ^ 62/\R (Itr 0 j.toNat) H1
theorem qS1{a:Ma}{ta:TA}{p pos:Pos}(d:Gl X "range")(hm:X.mg "range" = none)(f:PA X [a] ta)(g:Lf [a] X.env=[(false,eval a X.env)]:=by rfl):PI X tg (.Call (.Name "range" p) [a] [] pos) (iRng1 ta):=by
 intro Eo s σ H R I h;refine Call_ (qaf3 I d hm boot_range (PyProof.Rows.callWith_type1 (thn (f pos Eo s σ H _ I h) λ l m b=>?_) g rfl));obtain⟨n,H1,I1,i,c⟩:=b;obtain⟨j,e,c,q2,q⟩:=c;subst e;cases i with
 | cons r k =>
   cases k;obtain⟨t,rfl⟩:=r;exact call_range_1 (qay3 I1 (by lia) (by lia) c q2 (by simpa using q))
def tFor(wi:TI)(g:TG)(tb:TS):TS:=λ D σ H=>wi σ H λ J H1=>∃ W:Nat->Nat->St->Hp->Prop,(∃ m,W 0 m σ H1)/\∀ i m σ H,W i m σ H ->
 (J.stop i H/\D.nx σ H)∨(J.go i H/\∃ N:St->Hp->Prop,(∀ σ' H',N σ' H'->∃ a,a < m/\W (i+1) a σ' H')/\∀ x H',J.yld i H x H'->g x σ H' λ σ2 H2=>tb { D with nx:=N,ct:=N,bk:=D.nx } σ2 H2)
noncomputable def Jw(fp:List γ)(h:Heap):List (γ×Obj):=fp.filterMap λ b=>(h.get? b).map λ o=>(b,o)
theorem qp6{h:Heap}{b:γ}{o:Obj}(a:b∈fp)(e:h.get? b=some o):(b,o)∈Jw fp h:=List.mem_filterMap.mpr ⟨b,a,by rw[e];rfl⟩
theorem qam6{h:Heap}{p:γ×Obj}(a:p∈Jw fp h):p.1∈fp/\h.get? p.1=some p.2:=by
 obtain⟨b,c,e⟩:=List.mem_filterMap.mp a;cases q:h.get? b with
 | none=>rw[q] at e;cases e
 | some o =>
   rw[q] at e;have d:(b,o)=p:=Oy e;subst d;exact⟨c,q⟩
theorem Qa.pinned{Eo:List (γ×Obj)}{σ:St}{H:Hp}{s:δ}(I:Qa X Eo σ H s)(f:∀ b∈fp,G8 X Eo H b)(g:∀ b∈fp,∃ o,s.heap.get? b=some o/\∀ v,o.data≠.cell v):Qa X (Eo++Jw fp s.heap) σ H s :=
 I.pins_of λ p h=>(zA9.mp h).elim (λ z=>I.pin p (zAv _ z)) λ z=>by
   obtain⟨a,e⟩:=qam6 z;obtain⟨i,f1,f2,_⟩:=f p.1 a;obtain⟨o,c,d⟩:=g p.1 a;rw[e] at c;cases c;exact⟨e,i,f1,f2,d⟩
theorem Qa.unpinned{Eo pl:List (γ×Obj)}{σ:St}{H:Hp}{s:δ}(I:Qa X (Eo++pl) σ H s):Qa X Eo σ H s:=I.pins_of λ p a=>I.pin p (zAv _ (zC6 _ a))
theorem qay6{iter:Ma}{wi:TI}{g:TG}{tb:TS}{pos:Pos}(l:PassesOwn (L6 X.prog X.w) X.A X.env X.xe)(F:X.calm=true)(hi:PI X tg iter wi)(O:PG X tg g)(c:PSs X body tb)(P:∀ x,Li iter X.env x=pure x:=by intro _;rfl):PS X (.For tg iter body [] pos) (tFor wi g tb):=by
 intro Eo s σ H D I h;refine wpAny_For (thn (hi Eo s σ H _ I h) λ v s1 Q=>thn Q λ R s2 S=>?_) P;obtain⟨it,p,G,J,H2,e,I2,T,z,f2,W,⟨U,V⟩,turn⟩:=S;subst e;have stat:∀{H':Hp},(∀ b∈p,H' b=none)->∀ b∈p,G8 X Eo H' b:=λ Y b c=>⟨Y b c,(f2 b c).2⟩
 refine codeAny_forLoop_any (λ n K=>∃ i σ' H',Qa X Eo σ' H' K/\G i K.heap/\(∀ b∈p,H' b=none)/\W i n σ' H') ?_ U ⟨0,σ,H2,I2,z,λ b c=>(f2 b c).1,V⟩;rintro n L ⟨i,σ3,H3,I3,q,t,Z⟩;rcases turn i n σ3 H3 Z with⟨stop,qn⟩ | ⟨go,N,hN,step⟩
 . refine Lw l (thn (T.done X rfl rfl rfl F i Eo L σ3 H3 X.xe I3 (stat t) q stop) λ r s4 a=>?_)
   obtain⟨B,I4⟩:=a;subst B;exact wpAny_execs_nil ⟨σ3,H3,I4,qn⟩
 refine Lw l (thn (T.item X rfl rfl rfl F i Eo L σ3 H3 X.xe I3 (stat t) q go) λ r s4 a=>?_);obtain⟨u,B,h4⟩:=a;subst B;refine Lw l (thn h4 λ _ M a=>?_);obtain⟨x,H5,I5,r5,y5,k,C⟩:=a;have I5':=I5.pinned (stat C) (T.obj _ _ k);refine Lw l (thn (O _ M σ3 H5 x u _ I5' r5 (step x H5 y5)) λ _ s6 a=>?_);obtain⟨σ6,H6,I6,q6⟩:=a;refine Lw l (thn (c _ s6 σ6 H6 _ I6 q6) λ f E j=>?_);have again:∀{σ7:St}{H7:Hp},Qa X (Eo++Jw p M.heap) σ7 H7 E->N σ7 H7->∃ m,m < n/\∃ i σ' H',Qa X Eo σ' H' E/\G i E.heap/\(∀ b∈p,H' b=none)/\W i m σ' H':=λ{σ7 H7} I7 y=>by
   obtain⟨m',hm,w7⟩:=hN σ7 H7 y;refine⟨m',hm,i+1,σ7,H7,I7.unpinned,T.keep _ _ _ k λ b c o e=>(I7.pin (b,o) (zAv _ (zAv _ (qp6 c e)))).1,λ b c=>?_,w7⟩;obtain⟨o,e,d⟩:=T.obj _ _ k b c;exact(I7.pin (b,o) (zAv _ (zAv _ (qp6 c e)))).2.1
 cases f with
 | next=>obtain⟨σ7,H7,I7,y⟩:=j;exact again I7 y
 | cont=>obtain⟨σ7,H7,I7,y⟩:=j;exact again I7 y
 | brk=>obtain⟨σ7,H7,I7,j⟩:=j;exact⟨σ7,H7,I7.unpinned,j⟩
 | ret v=>obtain⟨x7,σ7,H7,I7,r7,j⟩:=j;exact⟨x7,σ7,H7,I7.unpinned,r7,j⟩
end
theorem qah0{K:O0}{a:γ}{xs:List V}{g:TG}{tb:TS}{D:Bw}{n:St}{H:Hp}(Pv:Nat->St->Hp->Prop)(d:Pv 0 n H)(f:∀ i n H,i<=xs.length->Pv i n H->SqL K H a xs)(h:∀ i x n H,xs[i]? = some x->Pv i n H->g x n H λ σ2 H2=>tb { D with nx:=Pv (i+1),ct:=Pv (i+1),bk:=D.nx } σ2 H2)(j:∀ n H,Pv xs.length n H->D.nx n H) :
   ∃ W:Nat->Nat->St->Hp->Prop,(∃ m,W 0 m n H)/\∀ i m n H,W i m n H ->
     ((Itl K a).stop i H/\D.nx n H)∨((Itl K a).go i H/\∃ N:St->Hp->Prop,(∀ n' H',N n' H'->∃ c,c < m/\W (i+1) c n' H')/\∀ x H',(Itl K a).yld i H x H'->g x n H' λ σ2 H2=>tb { D with nx:=N,ct:=N,bk:=D.nx } σ2 H2):=by
 refine⟨λ i m n H=>m=xs.length - i/\i<=xs.length/\Pv i n H,⟨xs.length,by simp,zBk _,d⟩,?_⟩;rintro i m n H ⟨rfl,k,p⟩;have q:=f i n H k p;by_cases b:i < xs.length
 . refine .inr ⟨⟨xs,xs[i],q,by simp[b]⟩,Pv (i+1),λ n' H' l=>⟨xs.length - (i+1),by lia,rfl,b,l⟩,λ x H' y=>?_⟩
   obtain⟨e,y⟩:=y;subst e;exact h i x n _ (y xs q) p
 have e:i=xs.length:=by lia
 subst e;exact .inl ⟨⟨xs,q,zA3 _⟩,j n H p⟩
theorem qao1{lo:Int}{g:TG}{tb:TS}{D:Bw}{k:St}{H:Hp}(Pv:Nat->St->Hp->Prop)(c:Pv 0 k H)(d:∀ i k H,i < n->Pv i k H->g (.int (lo+i)) k H λ σ2 H2=>tb { D with nx:=Pv (i+1),ct:=Pv (i+1),bk:=D.nx } σ2 H2)(f:∀ k H,Pv n k H->D.nx k H) :
   ∃ W:Nat->Nat->St->Hp->Prop,(∃ m,W 0 m k H)/\∀ i m k H,W i m k H ->
     ((Itr lo n).stop i H/\D.nx k H)∨((Itr lo n).go i H/\∃ N:St->Hp->Prop,(∀ k' H',N k' H'->∃ b,b < m/\W (i+1) b k' H')/\∀ x H',(Itr lo n).yld i H x H'->g x k H' λ σ2 H2=>tb { D with nx:=N,ct:=N,bk:=D.nx } σ2 H2):=by
 refine⟨λ i m k H=>m=n - i/\i<=n/\Pv i k H,⟨n,by simp,zBk _,c⟩,?_⟩;rintro i m k H ⟨rfl,j,p⟩;by_cases a:i < n
 . refine .inr ⟨a,Pv (i+1),λ k' H' h=>⟨n - (i+1),by lia,rfl,a,h⟩,λ x H' y=>?_⟩
   obtain⟨e,y⟩:=y;subst e y;exact d i k _ a p
 have e:i=n:=by lia
 subst e;exact .inl ⟨zA3 _,f k H p⟩
abbrev R2:=V->V->Hp->VK->Prop
def OpR(X:Cx)(f:V'->V'->Sem V')(r:R2):Prop :=
 ∀(Eo:List (γ×Obj))(s:δ)(a:St)(H:Hp)(x y:V)(v u:V')(Q:VK),Qa X Eo a H s->P8 x v->P8 y u->r x y H Q ->
   L5 (L6 X.prog X.w) X.A (f v u) (EP X Eo a Q) X.xe s
def UnR(X:Cx)(f:V'->Sem V')(r:V->Hp->VK->Prop):Prop :=
 ∀(Eo:List (γ×Obj))(s:δ)(a:St)(H:Hp)(x:V)(v:V')(Q:VK),Qa X Eo a H s->P8 x v->r x H Q ->
   L5 (L6 X.prog X.w) X.A (f v) (EP X Eo a Q) X.xe s
def CallR(X:Cx)(f:V')(r:List V->Hp->VK->Prop):Prop :=
 ∀(Eo:List (γ×Obj))(s:δ)(a:St)(H:Hp)(xs:List V)(us:List V')(Q:VK),Qa X Eo a H s->P9 xs us->r xs H Q ->
   L5 (L6 X.prog X.w) X.A (call f us) (EP X Eo a Q) X.xe s
def tOp(r:R2)(ta tb:TE):TE:=λ a H Q=>ta a H λ x H1=>tb a H1 λ y H2=>r x y H2 Q
def tUn(r:V->Hp->VK->Prop)(ta:TE):TE:=λ a H Q=>ta a H λ x H1=>r x H1 Q
def rI(C:Int->Int->Prop)(g:Int->Int->V):R2:=λ x y H Q=>∃ i j,x=.int i/\y=.int j/\C i j/\Q (g i j) H
def rI0(g:Int->Int->V):R2:=λ x y H Q=>∃ i j,x=.int i/\y=.int j/\Q (g i j) H
def rU(g:Int->V):V->Hp->VK->Prop:=λ x H Q=>∃ i,x=.int i/\Q (g i) H
section
variable{X:Cx}{a b:Ma}{n tb:TE}{o:Pos}
theorem binT(d:PE X a n)(e:PE X b tb){Eo:List (γ×Obj)}{s:δ}{m:St}{H:Hp}{R:V->V->Hp->Prop}(I:Qa X Eo m H s)(h:n m H λ x H1=>tb m H1 λ y H2=>R x y H2){Q:V'->δ->Prop}{f:V'->V'->Sem V'}(g:∀ v u s2 x y H2,Qa X Eo m H2 s2->P8 x v->P8 y u->R x y H2->L5 (L6 X.prog X.w) X.A (f v u) Q X.xe s2) :
   L5 (L6 X.prog X.w) X.A (eval a X.env) (λ v s₁=>L5 (L6 X.prog X.w) X.A (eval b X.env) (λ u s₂=>L5 (L6 X.prog X.w) X.A (f v u) Q X.xe s₂) X.xe s₁) X.xe s:=by
 refine thn (d Eo s m H _ I h) λ v i c=>?_
 obtain⟨x,H1,I1,j,k⟩:=c;refine thn (e Eo i m H1 _ I1 k) λ u s2 c=>?_
 obtain⟨y,H2,I2,l,q2⟩:=c;exact g v u s2 x y H2 I2 j l q2
theorem pe_op{op:Operator}{r:R2}(c:OpR X (Lz op) r)(d:PE X a n)(e:PE X b tb):PE X (.BinOp a op b o) (tOp r n tb):=by
 intro Eo s m H Q I h;exact wpAny_BinOp (binT d e I h λ v u f x y H2 I2 g i q=>c Eo f m H2 x y v u Q I2 g i q)
theorem pe_un{op:UnaryOp}{r:V->Hp->VK->Prop}(b:UnR X (unaryOp op) r)(c:PE X a n):PE X (.UnaryOp op a o) (tUn r n):=by
 intro Eo s m H Q I h;exact UnaryOp_ (thn (c Eo s m H _ I h) λ v d ⟨x,H1,I1,e,f⟩=>b Eo d m H1 x v Q I1 e f)
theorem opI{f:V'->V'->Sem V'}{C:Int->Int->Prop}{g:Int->Int->Int}(rule:∀(i j:Int)(t u:Tok)(s:δ)(Q:V'->δ->Prop)(E:V'->δ->Prop),C i j->Q (.int (g i j) s.toks) { s with toks:=s.toks+1 }->L5 (L6 X.prog X.w) X.A (f (.int i t) (.int j u)) Q E s) :
   OpR X f (rI C λ i j=>.int (g i j)):=by
 intro Eo s m H x y v u Q I a b h;obtain⟨i,j,rfl,rfl,c,q⟩:=h;obtain⟨t,rfl⟩:=a;obtain⟨d,rfl⟩:=b;exact rule i j t d s _ _ c ⟨.int (g i j),H,I.tok _,⟨_,rfl⟩,q⟩
theorem opI0{f:V'->V'->Sem V'}{g:Int->Int->Int}(rule:∀(i j:Int)(t u:Tok)(s:δ)(Q:V'->δ->Prop)(E:V'->δ->Prop),Q (.int (g i j) s.toks) { s with toks:=s.toks+1 }->L5 (L6 X.prog X.w) X.A (f (.int i t) (.int j u)) Q E s) :
   OpR X f (rI0 λ i j=>.int (g i j)):=by
 intro Eo s m H x y v u Q I a b h;obtain⟨i,j,rfl,rfl,q⟩:=h;obtain⟨t,rfl⟩:=a;obtain⟨c,rfl⟩:=b;exact rule i j t c s _ _ ⟨.int (g i j),H,I.tok _,⟨_,rfl⟩,q⟩
theorem opB0{f:V'->V'->Sem V'}{g:Int->Int->Bool}(rule:∀(i j:Int)(t u:Tok)(s:δ)(Q:V'->δ->Prop)(E:V'->δ->Prop),Q (.bool (g i j)) s->L5 (L6 X.prog X.w) X.A (f (.int i t) (.int j u)) Q E s) :
   OpR X f (rI0 λ i j=>.bl (g i j)):=by
 intro Eo s m H x y v u Q I a b h;obtain⟨i,j,rfl,rfl,q⟩:=h;obtain⟨t,rfl⟩:=a;obtain⟨c,rfl⟩:=b;exact rule i j t c s _ _ ⟨.bl (g i j),H,I,rfl,q⟩
def CPow(i j:Int):Prop:=0<=j/\j<=1000000/\i.natAbs < 2 ^ 64
def CMul(i j:Int):Prop:=(-(2 ^ 64) < i/\i < 2 ^ 64)∨(-(2 ^ 64) < j/\j < 2 ^ 64)
theorem CMul.ok{i j:Int}(h:CMul i j):IntMulOk i j:=by
 rcases h with⟨h1,h2⟩ | ⟨h1,h2⟩
 . exact .of_left (intBits_le_64 h1 h2)
 exact .of_right (intBits_le_64 h1 h2)
theorem qaU1:OpR X (Lz .Add) (rI0 λ i j=>.int (i+j)):=opI0 λ _ _ _ _ _ _ _ q=>add_int q
theorem qs5:OpR X (Lz .Sub) (rI0 λ i j=>.int (i - j)):=opI0 λ _ _ _ _ _ _ _ q=>sub_int q
theorem qaT5:OpR X (Lz .Mult) (rI CMul λ i j=>.int (i * j)):=opI λ _ _ _ _ _ _ _ a q=>mul_int q a.ok
theorem ql3:OpR X (Lz .Mod) (rI (λ _ j=>0 < j) λ i j=>.int (i % j)):=opI λ i j _ _ _ _ _ a q=>by
 have b:(0:Int) < j:=a;exact mod_int' (by lia) (by rw[Int.fmod_eq_emod_of_nonneg i (by lia)];exact q)
theorem qaT4:OpR X (Lz .Pow) (rI CPow λ i j=>.int (i ^ j.toNat)):=opI λ _ _ _ _ _ _ _ a q=>pow_int_small a.1 a.2.1 a.2.2 q
theorem unI{f:V'->Sem V'}{g:Int->Int}(rule:∀(i:Int)(t:Tok)(s:δ)(Q:V'->δ->Prop)(E:V'->δ->Prop),Q (.int (g i) s.toks) { s with toks:=s.toks+1 }->L5 (L6 X.prog X.w) X.A (f (.int i t)) Q E s) :
   UnR X f (rU λ i=>.int (g i)):=by
 intro Eo s m H x v Q I a h;obtain⟨i,rfl,q⟩:=h;obtain⟨t,rfl⟩:=a;exact rule i t s _ _ ⟨.int (g i),H,I.tok _,⟨_,rfl⟩,q⟩
theorem qaQ4:UnR X (unaryOp .USub) (rU λ i=>.int (-i)):=unI λ _ _ _ _ _ q=>neg_int q
end
section
variable{X:Cx}{a b c:Ma}{L tb N:TE}{M:Pos}
theorem qaO3{Eo:List (γ×Obj)}{K:St}{H:Hp}{s:δ}{Q:VK}{k a:Bool}(I:Qa X Eo K H s)(q:Q (.bl k) H)(e:k=a):EP X Eo K Q (.bool a) s:=by
 subst e;exact⟨.bl k,H,I,rfl,q⟩
theorem Jx:OpR X (Lh .Lt) (rI0 λ i j=>.bl (decide (i < j))):=opB0 λ _ _ _ _ _ _ _ q=>lt_int q
theorem op_le:OpR X (Lh .LtE) (rI0 λ i j=>.bl (decide (i<=j))):=opB0 λ _ _ _ _ _ _ _ q=>le_int q
theorem Er:OpR X (Lh .Gt) (rI0 λ i j=>.bl (decide (j < i))):=opB0 λ _ _ _ _ _ _ _ q=>gt_int q
theorem He:OpR X (Lh .GtE) (rI0 λ i j=>.bl (decide (j<=i))):=opB0 λ _ _ _ _ _ _ _ q=>ge_int q
theorem qaT6:OpR X (Lh .Is) (λ x y H Q=>y=.non/\Q (.bl (decide (x=.non))) H):=by
 intro Eo s K H x y v u Q I a b h;obtain⟨rfl,q⟩:=h;cases b;refine is_none_gen (qaO3 I q ?_);cases x<;>first
   | (cases a;rfl)
   | (obtain⟨t,rfl⟩:=a;rfl)
theorem qaK7:OpR X (Lh .IsNot) (λ x y H Q=>y=.non/\Q (.bl (!decide (x=.non))) H):=by
 intro Eo s K H x y v u Q I a b h;obtain⟨rfl,q⟩:=h;cases b;refine isnot_none_gen (qaO3 I q ?_);cases x<;>first
   | (cases a;rfl)
   | (obtain⟨t,rfl⟩:=a;rfl)
theorem OpR.or{f:V'->V'->Sem V'}{r a:R2}(h:OpR X f r)(h':OpR X f a):OpR X f (λ x y H Q=>r x y H Q∨a x y H Q):=by
 intro Eo s K H x y v u Q I b c q;rcases q with q | q
 . exact h Eo s K H x y v u Q I b c q
 exact h' Eo s K H x y v u Q I b c q
theorem qb2(b:Ma)(h:op≠.In:=by decide)(h2:op≠.NotIn:=by decide):behindInMarks op b=false:=by
 have a:(op == CmpOp.In)=false:=by cases op<;>first | rfl | exact absurd rfl h
 have e2:(op == CmpOp.NotIn)=false:=by cases op<;>first | rfl | exact absurd rfl h2
 cases b<;>simp[behindInMarks,a,e2]
theorem qaJ8{r:R2}(c:OpR X (Lh op) r)(d:PE X a L)(e:PE X b tb)(hm:behindInMarks op b=false):PE X (.Compare a [op] [b] M) (tOp r L tb):=by
 intro Eo s K H Q I h;exact wpAny_Compare1 (binT d e I h λ v u f x y H2 I2 g i q=>c Eo f K H2 x y v u Q I2 g i q) hm
def tTest(t:TE):TT:=λ K H Q=>t K H λ x H'=>∃ k,x=.bl k/\Q k H'
theorem qaH7{r:R2}(d:OpR X (Lh op) r)(f:PE X a L)(g:PE X b tb)(hm:behindInMarks op b=false):PT X (.Compare a [op] [b] M) (tTest (tOp r L tb)):=by
 intro Eo s K H Q I h;refine wpAny_isTrue_Compare1 (thn (f Eo s K H _ I h) λ v i ⟨x,H1,I1,j,l⟩=>thn (g Eo i K H1 _ I1 l) λ u m ⟨y,H2,I2,n,q2⟩ =>
   thn (d Eo m K H2 x y v u _ I2 j n q2) λ c q ⟨z,H3,I3,o,k,e,p⟩=>?_) hm
 subst e;cases o;exact Lm ⟨H3,I3,p⟩
def qaF9(r a:R2)(L tb N:TE):TE:=λ K H Q=>L K H λ x H1=>tb K H1 λ y H2=>r x y H2 λ z H3=>∃ k,z=.bl k /\
 (if k=true then N K H3 λ b H4=>a y b H4 Q else Q (.bl false) H3)
theorem qaz6{f:CmpOp}{r i:R2}(m:OpR X (Lh op) r)(g:OpR X (Lh f) i)(n:PE X a L)(o:PE X b tb)(p:PE X c N)(hm:lastMarks [op,f] [b,c]=false:=by with_unfolding_all rfl):PE X (.Compare a [op,f] [b,c] M) (qaF9 r i L tb N):=by
 intro Eo s K H Q I h;refine Compare_chain (thn (n Eo s K H _ I h) λ v q ⟨x,H1,I1,t,w⟩=>chain_link (thn (o Eo q K H1 _ I1 w) λ u A ⟨y,H2,I2,j,q2⟩ =>
   thn (m Eo A K H2 x y v u _ I2 t j q2) λ d B ⟨z,H3,I3,C,k,e,l⟩=>?_)) hm
 subst e;cases C;refine Lm ?_;cases k with
 | false=>exact ite_ff ⟨.bl false,H3,I3,rfl,l⟩
 | true=>exact ite_tt (chain_last (thn (p Eo B K H3 _ I3 l) λ D E ⟨F,H4,I4,G,J⟩=>g Eo E K H4 y F u D Q I4 j G J))
theorem qP5:(Lg:Nat) < 2 ^ 63:=by rw[Lp];decide
theorem qad4:OpR X (Lz .Add) (λ x y H Q=>∃ i j,x=.str i/\y=.str j/\i.length+j.length<=Lg/\Q (.str (i++j)) H):=by
 intro Eo s K H x y v u Q I a b h;obtain⟨i,j,rfl,rfl,c,q⟩:=h;obtain⟨t,rfl⟩:=a;obtain⟨d,rfl⟩:=b;exact add_str (λ d e=>⟨.str (i++j),H,I.tok _,⟨_,rfl⟩,q⟩) c
theorem B9{x:V}(r:P9 [x] us):∃ u,us=[u]/\P8 x u:=by
 cases r with
 | cons a b=>cases b;exact⟨_,rfl,a⟩
theorem Hf{x y:V}(r:P9 [x,y] us):∃ u a,us=[u,a]/\P8 x u/\P8 y a:=by
 cases r with
 | cons b c =>
   cases c with
   | cons d e=>cases e;exact⟨_,_,rfl,b,d⟩
theorem qaE5:CallR X (.builtin "abs") (λ xs H Q=>∃ i,xs=[.int i]/\Q (.int (if i < 0 then -i else i)) H):=by
 intro Eo s K H xs a Q I r h;obtain⟨i,rfl,q⟩:=h;obtain⟨u,rfl,t,rfl⟩:=B9 r;exact call_abs_int λ u b=>⟨.int (if i < 0 then -i else i),H,I.tok _,⟨_,rfl⟩,q⟩
theorem qV3(b:X.calm=true):CallR X (.builtin "max") (λ xs H Q=>∃ i j,xs=[.int i,.int j]/\Q (.int (if j > i then j else i)) H):=by
 intro Eo s K H xs c Q I r h;obtain⟨i,j,rfl,q⟩:=h;obtain⟨u,d,rfl,⟨t,rfl⟩,⟨e,rfl⟩⟩:=Hf r;refine max_two_ints (I.ok.hd b) λ f g k=>⟨_,H,I.kept k,?_,q⟩
 by_cases a:j > i
 . rw[if_pos a,if_pos a];exact⟨_,rfl⟩
 rw[if_neg a,if_neg a];exact⟨_,rfl⟩
theorem qG3(b:X.calm=true):CallR X (.builtin "min") (λ xs H Q=>∃ i j,xs=[.int i,.int j]/\Q (.int (if j < i then j else i)) H):=by
 intro Eo s K H xs c Q I r h;obtain⟨i,j,rfl,q⟩:=h;obtain⟨u,d,rfl,⟨t,rfl⟩,⟨e,rfl⟩⟩:=Hf r;refine min_two_ints (I.ok.hd b) λ f g k=>⟨_,H,I.kept k,?_,q⟩
 by_cases a:j < i
 . rw[if_pos a,if_pos a];exact⟨_,rfl⟩
 rw[if_neg a,if_neg a];exact⟨_,rfl⟩
theorem qaq5:CallR X (.type "int") (λ xs H Q=>(∃ i,xs=[.int i]/\Q (.int i) H)∨∃ k,xs=[.bl k]/\Q (.int (if k then 1 else 0)) H):=by
 intro Eo s K H xs b Q I r h;rcases h with⟨i,rfl,q⟩ | ⟨k,rfl,q⟩
 . obtain⟨u,rfl,t,rfl⟩:=B9 r
   exact call_int_int ⟨.int i,H,I,⟨_,rfl⟩,q⟩
 obtain⟨u,rfl,a⟩:=B9 r;cases a;exact call_int_bool ⟨.int (if k then 1 else 0),H,I.tok _,⟨_,rfl⟩,q⟩
end
structure ObjM(h:Heap)(x dx C:γ)(mA:Str->Option V'):Prop where
 obj:h.get? x=some (W.instObj C dx)
 ns:h.Ns1 dx mA
 ne:dx≠x
theorem qv4{h:Heap}{dx:γ}{mA:Str->Option V'}(n:h.Ns1 dx mA):∃ od,h.get? dx=some od/\∀ name,W.lookIn name od=some (mA name):=by
 obtain⟨o,c,l,d,f,g,_,i⟩:=n;refine⟨o,d,λ name=>?_⟩;have e:=i name;unfold nsFind findBy at e;rw[<- Array.find?_toList] at e;unfold W.lookIn;rw[f];dsimp only;split
 . rename_i y q
   rw[q] at e;exact congrArg some e
 rename_i q
 rw[q] at e;have a:c.toList.any (·.refKey)=false:=by
   rw[List.any_eq_false];intro y j;obtain⟨z,t,b⟩:=g y (Array.mem_toList_iff.mp j);simp[DictEntry.refKey,b]
 have k:¬ c.toList.any (·.refKey)=true:=by rw[a];exact zAk
 rw[if_neg k];exact congrArg some e
theorem ObjM.look{h:Heap}{x dx C:γ}{mA:Str->Option V'}(I:ObjM h x dx C mA):∃ od,W.InstAt h x (W.instObj C dx) C (some od)/\∀ name,W.lookIn name od=some (mA name) :=
 let ⟨od,ho,hl⟩:=qv4 I.ns
 ⟨od,⟨I.obj,rfl,rfl,ho⟩,hl⟩
section
variable{prog:L7}{w:L9}{A:L8}{E:V'->δ->Prop}{s:δ}{K:O0}{x H C f:γ}{F:Str->Option V'}{name:Str}{v:V'}
theorem qaN8{expr:Bool}{Q:V'->δ->Prop}(X:K.In s.heap)(I:ObjM s.heap x H C F)(b:W.plainGet K C name=true)(c:W.hasDictIn K C=true)(d:W.findIn K (.ref C) name=some none)(e:F name=some v)(a:W.handedIn v=true)(h:Q v { s with toks:=s.toks+1 }) :
   L5 (L6 prog w) A (getAttr (.ref x) name expr) Q E s:=by
 obtain⟨g,J,f⟩:=I.look;exact W.get_value X J (W.plainGet_of b).1 (W.findObj_own c d rfl (by rw[f,e])) a h
theorem qaC5{Q:V'×List V'->δ->Prop}(X:K.In s.heap)(I:ObjM s.heap x H C F)(a:W.plainGet K C name=true)(b:W.findIn K (.ref C) name=some (some (.ref f)))(c:W.isFn K (.ref f)=true)(d:F name=none)(h:Q (.ref f,[.ref x]) s) :
   L5 (L6 prog w) A (getMethod (.ref x) name pl) Q E s:=by
 obtain⟨e,J,g⟩:=I.look;exact W.method_fn X J (W.plainGet_of a).1 (W.plainGet_of a).2 b (zBl.mp c) (by show (W.lookIn name e).map (·.isSome)=some false;rw[g,d];rfl) h
theorem qaG5{ns:List Str}{Q:Unit->δ->Prop}(X:K.In s.heap)(I:ObjM s.heap x H C F)(j:W.findIn K (.ref C) "__setattr__" = some (some (.builtin "object.__setattr__")))(k:W.plainOver K C=true)(l:W.takerIn K C name=some none)(m:W.hasDictIn K C=true)(n:PySem.Within F ns)(hsz:ns.length<=Lg)(h:∀ h',ObjM h' x H C (λ y=>if y=name then some v else F y)->Heap.SameBut H s.heap h'->Q () { s with heap:=h',toks:=s.toks+2 }) :
   L5 (L6 prog w) A (setAttr (.ref x) name v) Q E s:=by
 obtain⟨u,J,z⟩:=I.look;refine W.set_plain X J j (W.osa_open (s:={ s with toks:=s.toks+1 }) (r:=none) X J k l λ b=>?_);obtain⟨B,o,e⟩:=W.any_some m;have p:s.heap.get? x=some ⟨.ref C,some H,.plain,#[]⟩:=I.obj;refine G' (Ld (G' (G' (wpAny_loadPart p (G' (W.Looks.here (s:={ s with toks:=s.toks+1 }) (W.looks_clsIn X o) ?_))))));rw[e];refine Ld (a:=some H) (G' (Ld (G' ?_)));refine wpAny_nsSet1 (s:={ s with toks:=s.toks+1 }) I.ns λ h' c d=>?_
 obtain⟨D,q,t,f,g,i⟩:=c.count (PySem.Within.cons name v n);refine G' (wpAny_lookBehind f (by rw[g];exact pastItsLine_dict (zAd i (by rw[zAm];lia))) ?_);exact Ld (h _ ⟨(d.2 _ (Ne.symm I.ne)).trans I.obj,c,I.ne⟩ d)
theorem qaB2{R:Result->δ->Prop}{vs:List V'}(X:K.In s.heap)(hm:W.makesIn K C=true)(hi:W.findIn K (.ref C) "__init__" = some (some (.ref f)))(a:W.typeIn K (.ref f)=some (.type "function"))(h:codeAny (L6 prog w) (A.under (.builtin "type.__call__" ⟨.ref C::vs,kw⟩)) (.call (.ref f) ⟨.ref (s.heap.objs.size+1)::vs,kw⟩) (W.InitBack (s.heap.objs.size+1) R)
     { s with heap:=(s.heap.push W.emptyDict).push (W.instObj C s.heap.objs.size) }) :
   codeAny (L6 prog w) A (.call (.ref C) ⟨vs,kw⟩) R s:=by
 obtain⟨b,g,d,t,c⟩:=s;exact W.make_core (W.makes_of X hm) (W.looks_findIn X hi) (λ self=>W.bind_fn X self a) (.inl rfl) h
end
noncomputable def Bn(f:Str)(v:V):List (Str×V)->List (Str×V)
 | []=>[(f,v)]
 | (g,x)::r=>if g=f then (g,v)::r else (g,x)::Bn f v r
theorem qs7(f g:Str)(v:V):∀ fs:List (Str×V),(Bn f v fs).lookup g=if g=f then some v else fs.lookup g
 | []=>by
   show Mu g [(f,v)]=_;by_cases h:g=f
   . have a:(g == f)=true:=zBl.mpr h
     simp only[Mu,a,if_pos h]
   have a:(g == f)=false:=zBs.mpr h;simp only[Mu,a,if_neg h]
 | (k,x)::r=>by
   have c:=qs7 f g v r;rw[show Bn f v ((k,x)::r)=(if k=f then (k,v)::r else (k,x)::Bn f v r) from rfl];by_cases b:k=f
   . rw[if_pos b]
     by_cases h:g=k
     . have a:(g == k)=true:=zBl.mpr h
       simp only[Mu,a,if_pos (h.trans b)]
     have a:(g == k)=false:=zBs.mpr h;simp only[Mu,a,if_neg (λ e:g=f=>h (e.trans b.symm))]
   rw[if_neg b];by_cases h:g=k
   . have a:(g == k)=true:=zBl.mpr h
     simp only[Mu,a,if_neg (λ e:g=f=>b (h.symm.trans e))]
   have a:(g == k)=false:=zBs.mpr h;simp only[Mu,a];exact c
theorem qq0(f:Str)(v:V):∀ fs:List (Str×V),f∈(Bn f v fs).map (·.1)/\∀ g,g∈fs.map (·.1)->g∈(Bn f v fs).map (·.1)
 | []=>⟨by simp[Bn],λ g h=>by simp at h⟩
 | (k,x)::r=>by
   obtain⟨b,c⟩:=qq0 f v r;rw[show Bn f v ((k,x)::r)=(if k=f then (k,v)::r else (k,x)::Bn f v r) from rfl];by_cases a:k=f
   . rw[if_pos a]
     subst a;exact⟨by simp,λ g h=>by simpa using h⟩
   rw[if_neg a];refine⟨?_,λ g h=>?_⟩
   . rw[zAx]
     exact zA6 _ b
   rw[zAx] at h ⊢;rcases zAn.mp h with e | e
   . exact zAn.mpr (.inl e)
   exact zA6 _ (c g e)
theorem qs8(f:Str)(v:V):∀ fs:List (Str×V),(Bn f v fs).length<=fs.length+1
 | []=>by simp[Bn]
 | (k,x)::r=>by
   have b:=qs8 f v r;rw[show Bn f v ((k,x)::r)=(if k=f then (k,v)::r else (k,x)::Bn f v r) from rfl];by_cases a:k=f
   . rw[if_pos a,zAm,zAm];lia
   rw[if_neg a,zAm,zAm];lia
theorem RelO.some_of{v:V}{o:Option V'}(r:RelO (some v) o):∃ u,o=some u/\P8 v u:=by
 cases o with
 | none=>exact(show False from r).elim
 | some u=>exact⟨u,rfl,r⟩
theorem RelO.none_of{o:Option V'}(r:RelO none o):o=none:=by
 cases o with
 | none=>rfl
 | some u=>exact(show False from r).elim
theorem qT3{v:V}{u:V'}(r:P8 v u):W.handedIn u=true:=by
 cases v with
 | non=>cases (show u=Ol from r);rfl
 | bl b=>cases (show u=Oo b from r);rfl
 | int i=>obtain⟨t,e⟩:=(show ∃ t,u=On i t from r);cases e;rfl
 | str x=>obtain⟨t,e⟩:=(show ∃ t,u=Op x t from r);cases e;rfl
 | byt b=>obtain⟨t,e⟩:=(show ∃ t,u=Ow b t from r);cases e;rfl
 | flt b=>obtain⟨t,e⟩:=(show ∃ t,u=Ot b t from r);cases e;rfl
 | ref a=>cases (show u=Oj a from r);rfl
 | ty n=>cases (show u=Oq n from r);rfl
section
variable{P:L7}{w:L9}{H:Hp}{h:Heap}{a C i:γ}{fs:List (Str×V)}
theorem qT0(b:HOk P w H h)(e:H a=some (.ins C i fs)):∃ mA,ObjM h a i C mA/\(∀ f,RelO (fs.lookup f) (mA f))/\PySem.Within mA (fs.map (·.1))/\fs.length<=1000/\H i=some (.own a):=by
 obtain⟨d,z,c,g,mA,n,r,q⟩:=(show ObjOk P w H h a (.ins C i fs) from b a _ e)
 exact⟨mA,⟨g,n,c⟩,r,q,z,d⟩
end
structure Cls(K:O0)(C:γ):Prop where
 pg:W.plainGet K C Str.empty=true
 hd:W.hasDictIn K C=true
 po:W.plainOver K C=true
 sa:W.findIn K (.ref C) "__setattr__" = some (some (.builtin "object.__setattr__"))
theorem Cls.get{K:O0}{C:γ}(c:Cls K C)(f:Str):W.plainGet K C f=true:=c.pg
def qd5(K:O0)(C:γ)(f:Str):Prop:=W.findIn K (.ref C) f=some none
theorem qd5.taker{K:O0}{C:γ}{f:Str}(n:qd5 K C f):W.takerIn K C f=some none:=by
 unfold W.takerIn;rw[show W.findIn K (.ref C) f=some none from n];rfl
structure Jy(K:O0)(C:γ)(m:Str)(f:γ):Prop where
 at_:W.findIn K (.ref C) m=some (some (.ref f))
 fn:W.isFn K (.ref f)=true
 kp:W.keepIn K (.ref f)=true
section
variable{X:Cx}{G:List (γ×Obj)}{F:St}{H:Hp}{s:δ}{a C J:γ}{fs:List (Str×V)}{f:Str}{v:V}{A:L8}{E:V'->δ->Prop}
theorem qag6{b:Bool}{Q:V'->δ->Prop}(I:Qa X G F H s)(e:H a=some (.ins C J fs))(c:Cls X.K C)(n:qd5 X.K C f)(l:fs.lookup f=some v)(h:∀ u s',Qa X G F H s'->P8 v u->Q u s'):L5 (L6 X.prog X.w) A (getAttr (.ref a) f b) Q E s:=by
 obtain⟨g,O,r,_,_,_⟩:=qT0 I.hok e;obtain⟨u,i,d⟩:=RelO.some_of (v:=v) (o:=g f) (by rw[<- l];exact r f);exact qaN8 I.kIn O (c.get f) c.hd n i (qT3 d) (h u _ (I.tok _) d)
theorem qJ6{m:Str}{g:γ}{Q:V'×List V'->δ->Prop}(I:Qa X G F H s)(e:H a=some (.ins C J fs))(c:Cls X.K C)(k:Jy X.K C m g)(l:fs.lookup m=none)(h:Q (.ref g,[.ref a]) s):L5 (L6 X.prog X.w) A (getMethod (.ref a) m pl) Q E s:=by
 obtain⟨b,O,r,_,_,_⟩:=qT0 I.hok e;have d:b m=none:=RelO.none_of (by rw[<- l];exact r m);exact qaC5 I.kIn O (c.get m) k.at_ k.fn d h
theorem qab0{y:V}{u:V'}{Q:Unit->δ->Prop}(I:Qa X G F H s)(e:H a=some (.ins C J fs))(c:Cls X.K C)(n:qd5 X.K C f)(D:fs.length < 1000)(k:P8 y u)(h:∀ s',Qa X G F (upd H a (.ins C J (Bn f y fs))) s'->Q () s'):L5 (L6 X.prog X.w) A (setAttr (.ref a) f u) Q E s:=by
 obtain⟨d,O,r,i,_,j⟩:=qT0 I.hok e;have l:(fs.map (·.1)).length<=Lg:=by rw[zAf,Lp];lia
 refine qaG5 I.kIn O c.sa c.po n.taker c.hd i l λ m O' p=>h _ ?_
 have t:∃ o,m.get? J=some o:=let ⟨o,_,_,e',_⟩:=O'.ns;⟨o,e'⟩
 refine I.write (x:=a) (e:=J) (by rw[e];exact True.intro) (.inr j) (λ b q v z=>(p.2 b v).trans z) t ?_;refine⟨by rw[qb5 O.ne];exact j,?_,O.ne,O'.obj,_,O'.ns,λ g=>?_,λ g B=>?_⟩
 . have:=qs8 f y fs;lia
 . show RelO ((Bn f y fs).lookup g) (if g=f then some u else d g)
   rw[qs7];by_cases q:g=f
   . rw[if_pos q,if_pos q];exact k
   rw[if_neg q,if_neg q];exact r g
 by_cases q:g=f
 . rw[q];exact(qq0 f y fs).1
 refine(qq0 f y fs).2 g (i g λ z=>B ?_);show (if g=f then some u else d g)=none;rw[if_neg q];exact z
theorem Qa.made(I:Qa X G F H s):Qa X G F (upd (upd H s.heap.objs.size (.own (s.heap.objs.size+1))) (s.heap.objs.size+1) (.ins C s.heap.objs.size []))
   { s with heap:=(s.heap.push W.emptyDict).push (W.instObj C s.heap.objs.size) }:=by
 have c:(s.heap.push W.emptyDict).get? s.heap.objs.size=some W.emptyDict:=zAy s.heap rfl;have e2:((s.heap.push W.emptyDict).push (W.instObj C s.heap.objs.size)).get? (s.heap.objs.size+1)=some (W.instObj C s.heap.objs.size):=by
   have:=zAy (s.heap.push W.emptyDict) (o:=W.instObj C s.heap.objs.size) rfl
   rwa[Heap.size_push] at this
 have f:(s.heap.push W.emptyDict).Ns s.heap.objs.size (λ _=>none):=⟨W.emptyDict,#[],_,c,rfl,(λ e g=>absurd g (by simp)),λ _=>rfl⟩
 have I1:=I.laid (a:=s.heap.objs.size) (o:=.own (s.heap.objs.size+1)) (h':=s.heap.push W.emptyDict) (t':=s.toks) (λ b u q=>zA2 _ q) (zA3 _) ⟨_,c⟩;refine I1.laid (a:=s.heap.objs.size+1) (o:=.ins C s.heap.objs.size []) (t':=s.toks) (λ b u q=>zA2 _ q) (zCe (Heap.size_push _ _)) ?_;have d:s.heap.objs.size≠s.heap.objs.size+1:=zAj (Nat.lt_succ_self _);refine⟨by rw[qb5 d,qb4],zBk _,d,e2,λ _=>none,(Heap.Ns1.of_empty f).at λ o q=>zA2 _ q,λ _=>True.intro,λ y h=>absurd rfl h⟩
theorem qav4{prog:L7}{w:L9}{env:Env}{e:Ma}{f:Str}{pos:Pos}{s:δ}{Q:V'->δ->Prop}(a:Ln e f env (eval e env)=eval e env)(h:L5 (L6 prog w) A (eval e env) (λ o s₁=>L5 (L6 prog w) A (getAttr o f true) Q E s₁) E s):L5 (L6 prog w) A (eval (.Attribute e f pos) env) Q E s :=
 Attribute_any_ h (by rw[arm_eval_Attribute,a])
end
def tFld(K:O0)(ta:TE)(f:Str):TE:=λ b H Q=>ta b H λ x H1=>∃ a C dx fs v,x=.ref a/\H1 a=some (.ins C dx fs)/\Cls K C/\qd5 K C f/\fs.lookup f=some v/\Q v H1
def sFld(K:O0)(ta tv:TE)(f:Str):TS:=λ D b H=>tv b H λ y H1=>ta b H1 λ x H2=>∃ a C dx fs,x=.ref a/\H2 a=some (.ins C dx fs)/\Cls K C/\qd5 K C f/\fs.length < 1000 /\
 D.nx b (upd H2 a (.ins C dx (Bn f y fs)))
section
variable{X:Cx}{o e B:Ma}{f:Str}{pos pos':Pos}{E tv:TE}
theorem qaJ6(d:PE X e E)(g:Ln e f X.env (eval e X.env)=eval e X.env):PE X (.Attribute e f pos) (tFld X.K E f):=by
 intro Eo s A H Q I h;refine qav4 g (thn (d Eo s A H _ I h) λ u o b=>?_);obtain⟨x,H1,I1,i,a,C,p,r,v,j,k,c,n,l,q⟩:=b;subst j;obtain rfl:u=Oj a:=i;exact qag6 I1 k c n l λ t w I2 m=>⟨v,H1,I2,m,q⟩
theorem qaR9(d:PE X o E)(e:PE X B tv)(g:swapsWith B (some (.Attribute o f pos')) pos.line X.env=pure false):PS X (.Assign [.Attribute o f pos'] B pos) (sFld X.K E tv f):=by
 intro Eo s A H D I h;refine plainObj_wpAny_Assign_Attribute (thn (e Eo s A H _ I h) λ u i b=>?_) g;obtain⟨y,H1,I1,j,q⟩:=b;refine thn (d Eo i A H1 _ I1 q) λ k t b=>?_
 obtain⟨x,H2,I2,m,a,C,v,w,p,r,c,n,l,q2⟩:=b;subst p;obtain rfl:k=Oj a:=m;exact qab0 I2 r c n l j λ z I3=>⟨A,_,I3,q2⟩
end
section
variable{X:Cx}{F:List (γ×Obj)}{D:St}{H:Hp}{s:δ}{A:L8}{E Q:V'->δ->Prop}{c:V'}{b:Bool}
inductive Fv(K:O0)(H:Hp):V->V'->Prop where
 | non:Fv K H .non (.type "NoneType")
 | bl (x:Bool):Fv K H (.bl x) (.type "bool")
 | int (i:Int):Fv K H (.int i) (.type "int")
 | str (x:Str):Fv K H (.str x) (.type "str")
 | flt (x:UInt64):Fv K H (.flt x) (.type "float")
 | l {a:γ} {xs:List V} (e:H a=some (.l xs)):Fv K H (.ref a) (.type "list")
 | frz {a:γ} {o:Obj} {xs:List V} (e:H a=some (.frz o (.l xs))):Fv K H (.ref a) (.type "list")
 | q {a:γ} {xs:List V} (e:H a=some (.q xs)):Fv K H (.ref a) (.type "tuple")
 | dK {a:γ} {kvs:List (Key×V)} (e:H a=some (.dK kvs)):Fv K H (.ref a) (.type "dict")
 | dT {a:γ} {kvs:List (List Key×V)} (e:H a=some (.dT kvs)):Fv K H (.ref a) (.type "dict")
 | ins {a C dx:γ} {fs:List (Str×V)} (e:H a=some (.ins C dx fs)) (cl:Cls K C) (ha:W.findIn K (.ref C) "__class__" = some (some (.builtin "object.__class__")))
     (hn:W.specialIn K (.builtin "object.__class__") "__get__" = some (some (.builtin "getset_descriptor.__get__"))) (htk:W.takesIn K (.builtin "object.__class__")=some true)
     (hm:W.mroIn K C (.type "object")=some true):Fv K H (.ref a) (.ref C)
theorem qF3{x:V}{u t:V'}(I:Qa X F D H s)(d:P8 x u)(ty:Fv X.K H x t)(e:O1 X.K t c=some b)(h:∀ k,Q (.bool b) { s with toks:=k }) :
   L5 (L6 X.prog X.w) A (call (.builtin "isinstance") [u,c]) Q E s:=by
 cases ty with
 | non=>cases (show u=Ol from d);exact W.kia_one W.kitx_none I.kIn True.intro e (λ z=>nomatch z) h
 | bl y=>cases (show u=Oo y from d);exact W.kia_one W.kitx_bool I.kIn True.intro e (λ z=>nomatch z) h
 | int i=>obtain⟨t,q⟩:=(show ∃ t,u=On i t from d);cases q;exact W.kia_one W.kitx_int I.kIn True.intro e (λ z=>nomatch z) h
 | str y=>obtain⟨t,q⟩:=(show ∃ t,u=Op y t from d);cases q;exact W.kia_one W.kitx_str I.kIn True.intro e (λ z=>nomatch z) h
 | flt y=>obtain⟨t,q⟩:=(show ∃ t,u=Ot y t from d);cases q;exact W.kia_one W.kitx_float I.kIn True.intro e (λ z=>nomatch z) h
 | @l a g ea =>
   cases (show u=Oj a from d);obtain⟨_,_,n,_,f⟩:=(show ObjOk X.prog X.w H s.heap a (.l g) from I.hok a _ ea)
   exact W.kia_one W.kitx_list I.kIn ⟨_,f,rfl⟩ e (λ z=>nomatch z) h
 | @frz a ob g ea =>
   cases (show u=Oj a from d);obtain⟨_,_,_,n,_,f⟩:=(show ObjOk X.prog X.w H s.heap a (.frz ob (.l g)) from I.hok a _ ea)
   exact W.kia_one W.kitx_list I.kIn ⟨_,f,rfl⟩ e (λ z=>nomatch z) h
 | @q a g ea =>
   cases (show u=Oj a from d);obtain⟨_,_,_,p⟩:=(show ObjOk X.prog X.w H s.heap a (.q g) from I.hok a _ ea)
   obtain⟨o,f,j,_⟩:=p;exact W.kia_one W.kitx_tuple I.kIn ⟨o,f,j⟩ e (λ z=>nomatch z) h
 | @dK a kvs ea =>
   cases (show u=Oj a from d);obtain⟨_,_,r,_,p⟩:=(show ObjOk X.prog X.w H s.heap a (.dK kvs) from I.hok a _ ea)
   obtain⟨o,l,m,f,j,_⟩:=p;exact W.kia_one W.kitx_dict I.kIn ⟨o,f,j.1⟩ e (λ z=>nomatch z) h
 | @dT a kvs ea =>
   cases (show u=Oj a from d);obtain⟨_,_,g,_,o,l,m,f,j,_⟩:=(show ObjOk X.prog X.w H s.heap a (.dT kvs) from I.hok a _ ea)
   exact W.kia_one W.kitx_dict I.kIn ⟨o,f,j.1⟩ e (λ z=>nomatch z) h
 | @ins a C dx fs ea cl ha hn htk hm =>
   cases (show u=Oj a from d);obtain⟨v,O,_⟩:=qT0 I.hok ea;obtain⟨B,J,_⟩:=O.look;exact W.kia_one (W.kitx_own (cl.get _) cl.hd ha hn htk hm) I.kIn J e (λ z=>nomatch z) h
end
structure Qd(cm:Bool)(k:Nat)(A:L8):Prop where
 hd:cm=true->A.handled=none
 dp:A.depth+3 * k+5 < recursionLimit
 un:A.units+16 * k+200 < cLine
abbrev Room:=Qd true
theorem Qd.mono{cm:Bool}{j k:Nat}{A:L8}(r:Qd cm k A)(h:j<=k):Qd cm j A:=⟨r.hd,by have:=r.dp;lia,by have:=r.un;lia⟩
theorem Qd.deeper{cm:Bool}{k:Nat}{A:L8}(r:Qd cm (k+1) A)(env:Env):Qd cm k (A.deeper env) :=
 ⟨r.hd,by have:=r.dp;show A.depth+1+3 * k+5 < _;lia,by have:=r.un;show A.units+3+16 * k+200 < _;lia⟩
theorem qaf0{A:L8}{C:γ}:(A.under (.builtin "type.__call__" ⟨.ref C::us,kw⟩)).depth=A.depth+1:=by
 first | rfl | simp[Around.under,Code.weight,Code.isCreation,Code.isGuard,Code.isCaller,Code.frames,Code.isFrame,guardIds]
theorem qae8{A:L8}{C:γ}:(A.under (.builtin "type.__call__" ⟨.ref C::us,kw⟩)).units=A.units+1:=by
 first | rfl | simp[Around.under,Code.cUnits,Code.frames,Code.isFrame]
theorem Qd.make{cm:Bool}{k:Nat}{A:L8}(r:Qd cm (k+1) A)(C:γ)(us:List V')(kw:List (Str×V')):Qd cm k (A.under (.builtin "type.__call__" ⟨.ref C::us,kw⟩)) :=
 ⟨r.hd,by have:=r.dp;rw[qaf0];lia,by have:=r.un;rw[qae8];lia⟩
theorem Qd.depth{cm:Bool}{k:Nat}{A:L8}(r:Qd cm k A):A.depth < recursionLimit:=by have:=r.dp;lia
theorem Qd.units{cm:Bool}{k:Nat}{A:L8}(r:Qd cm k A):A.units+64 < cLine:=by have:=r.un;lia
def tNil:TA:=λ _ H Q=>Q [] H
def tCons(ta:TE)(tr:TA):TA:=λ a H Q=>ta a H λ x H1=>tr a H1 λ xs H2=>Q (x::xs) H2
section
variable{X:Cx}{e:Ma}{v:List Ma}{te:TE}{t:TA}{o:Pos}
theorem qx9:PA X [] tNil:=λ _ _ _ _ H Q I h=>Calls.spliced_nil ⟨[],H,I,.nil,h⟩
theorem qf2(b:PE X e te)(c:PA X v t)(d:Lf (e::v) X.env=(false,eval e X.env)::Lf v X.env:=by rfl):PA X (e::v) (tCons te t):=by
 intro o Eo s n H Q I h;rw[d];show L5 _ _ (spliced ((false,eval e X.env)::backTo o (Lf v X.env))) _ _ s;refine Calls.spliced_cons (thn (b Eo s n H _ I h) λ u f a=>?_);obtain⟨x,H1,I1,g,i⟩:=a;exact thn (c o Eo f n H1 _ I1 i) λ l m ⟨j,H2,I2,k,q2⟩=>⟨x::j,H2,I2,.cons g k,q2⟩
def tTup(t:TA):TE:=λ n H Q=>t n H λ xs H1=>xs.length<=Lg/\∀ p,H1 p=none->Q (.ref p) (upd H1 p (.q xs))
def tLst(t:TA):TE:=λ n H Q=>t n H λ xs H1=>xs.length<=Lg/\∀ p,H1 p=none->Q (.ref p) (upd H1 p (.l xs))
theorem qaJ0{x1}(h:PA X v t):PE X (.Tuple v x1 o) (tTup t):=by
 intro Eo s n H Q I d;refine wpAny_Tuple_spliced (thn (h o Eo s n H _ I d) λ f a c=>?_);obtain⟨g,H1,I1,r,z,q⟩:=c;refine⟨by rw[<- r.length];exact z,?_⟩;have i:H1 a.heap.objs.size=none:=I1.hok.fresh (zA3 _);refine⟨.ref a.heap.objs.size,upd H1 a.heap.objs.size (.q g),I1.laid (t':=a.toks) (λ b u e=>zA2 _ e) (zA3 _) ?_,rfl,q _ i⟩;exact⟨z,f,r,⟨_,zAy _ rfl,rfl,_,rfl⟩⟩
theorem qaz3(h:PA X v t):PE X (.List v o) (tLst t):=by
 intro Eo s n H Q I d;refine wpAny_List_spliced (thn (h o Eo s n H _ I d) λ f a c=>?_);obtain⟨g,H1,I1,r,z,q⟩:=c;refine⟨by rw[<- r.length];exact z,?_⟩;have i:H1 a.heap.objs.size=none:=I1.hok.fresh (zA3 _);refine⟨.ref a.heap.objs.size,upd H1 a.heap.objs.size (.l g),I1.laid (t':=a.toks) (λ b u e=>zA2 _ e) (zA3 _) ?_,rfl,q _ i⟩;exact⟨z,f,0,r,zAy _ rfl⟩
end
abbrev Sp:=List V->Hp->VK->XK->Prop
abbrev CXT:=List Env->Hp->δ->XK->V'->δ->Prop
structure Env0(P:L7)(w:L9)(K:O0)(mg:Str->Option V')(base:Heap)(A:L8)(outer:List Env)(s:δ)(H:Hp):Prop where
 frames:A.frames=some outer
 mod:Mod K mg base
 bs:∀ b o,base.get? b=some o->s.heap.get? b=some o/\H b=none
 bsz:base.objs.size<=s.heap.objs.size
 funs:s.heap.FunFrames base outer
 frf:∀ b∈frs outer,H b=none
 hok:HOk P w H s.heap
 bare:AllBare s.gens
def CE(outer:List Env)(P:L7)(w:L9)(H:Hp)(s:δ)(Q:VK)(u:V')(s':δ):Prop :=
 ∃ v H',s'.os=s.os/\AllBare s'.gens/\Un (frs outer) [] H H' s.heap s'.heap/\HOk P w H' s'.heap/\P8 v u/\Q v H'
def CR(CX:CXT)(outer:List Env)(P:L7)(w:L9)(H:Hp)(s:δ)(Q:VK)(E:XK)(r:Result)(s':δ):Prop :=
 match r with
 | .ok (.ret u)=>CE outer P w H s Q u s'
 | .ok _=>False
 | .error e=>CX outer H s E e s'
structure Ez(cm:Bool)(P:L7)(w:L9)(K:O0)(mg:Str->Option V')(base:Heap)(CX:CXT)(k:Nat)(f:γ)(fd:ε)(ps:List Str)(sp:Sp):Prop where
 len:∀ vs H Q E,sp vs H Q E->vs.length=ps.length
 run:∀(A:L8)(outer:List Env)(s:δ)(H:Hp)(args:Args)(us:List V')(vs:List V)(Q:VK)(E:XK),Qd cm k A->Env0 P w K mg base A outer s H->BindsTo s fd args (ps.zip us)->P9 vs us->sp vs H Q E ->
   codeAny (L6 P w) A (.call (.ref f) args) (CR CX outer P w H s Q E) s
abbrev Ga:=Ez true
theorem Env0.make{P:L7}{w:L9}{K:O0}{A:L8}{outer:List Env}{s:δ}{H:Hp}(e:Env0 P w K mg base A outer s H)(C:γ)(us:List V')(kw:List (Str×V')) :
   Env0 P w K mg base (A.under (.builtin "type.__call__" ⟨.ref C::us,kw⟩)) outer s H:=⟨by first | exact e.frames | (simpa[Around.under,Code.envs,Code.isFrame,pushEnvs] using e.frames),e.mod,e.bs,e.bsz,e.funs,e.frf,e.hok,e.bare⟩
section
variable{X:Cx}{k:List (γ×Obj)}{j:St}{H:Hp}{s s':δ}
theorem Qa.env0(I:Qa X k j H s):Env0 X.prog X.w X.K X.mg X.base X.A X.stack s H :=
 ⟨I.ok.frames,I.ok.mod,I.bs,zAd I.ok.bsz I.sz,I.stack,I.stkFree,I.hok,I.bare⟩
theorem Qa.after{Q:VK}{u:V'}(I:Qa X k j H s)(h:CE X.stack X.prog X.w H s Q u s'):EP X k j Q u s':=by
 obtain⟨v,H',e,bare,f,a,r,q⟩:=h;obtain⟨i,g,d,t,c⟩:=s';obtain rfl:c=s.os:=e;exact⟨v,H',I.call (h':=i) (g':=g) (d':=d) (t':=t) (ch:=[]) f a bare (λ b z=>absurd z (by simp)),r,q⟩
end
def Jz(sp:Sp)(dvs:List V)(E:St->XK)(t:TA):TE:=λ a H Q=>t a H λ vs H1=>sp (vs++dvs) H1 Q (E a)
def J0(C:γ)(m:Str)(sp:Sp)(dvs:List V)(E:St->XK)(ta:TE)(t:TA):TE:=λ b H Q=>ta b H λ x H1=>∃ a dx fs,x=.ref a/\H1 a=some (.ins C dx fs)/\fs.lookup m=none /\
 t b H1 λ vs H2=>sp (x::(vs++dvs)) H2 Q (E b)
def tMake(C:γ)(sp:Sp)(dvs:List V)(E:St->XK)(t:TA):TE:=λ a H Q=>t a H λ vs H1=>∀ x dx,H1 x=none->H1 dx=none->dx≠x ->
 sp (.ref x::(vs++dvs)) (upd (upd H1 dx (.own x)) x (.ins C dx [])) (λ v H2=>v=.non/\Q (.ref x) H2) (E a)
def Binds(K:O0)(fd:ε)(ps:List Str)(ds:List V'):Prop :=
 ∀(s:δ)(us:List V'),K.In s.heap->(us++ds).length=ps.length->BindsTo s fd ⟨us,[]⟩ (ps.zip (us++ds))
theorem Binds.all{K:O0}{fd:ε}{ps:List Str}(h:∀ us:List V',us.length=ps.length->bindArgs fd ⟨us,[]⟩=pure (ps.zip us)):Binds K fd ps []:=λ s us _ a=>by
 rw[zAg] at a ⊢;exact .of_eq (h us a)
def qL2(CX:CXT)(X:Cx)(E:St->XK):Prop:=∀(Eo:List (γ×Obj))(a:St)(H:Hp)(s:δ)(e:V')(s':δ),Qa X Eo a H s->CX X.stack H s (E a) e s'->X.xe e s'
section
variable{X:Cx}{Y:Bool}{CX:CXT}{k:Nat}{f C:γ}{Z:ε}{ps:List Str}{sp:Sp}{dvs:List V}{ds:List V'}{E:St->XK}{x m:Str}{p S T:Pos}{e o:Ma}{U:List Ma}{ta:TE}{t:TA}
theorem qay0{Eo:List (γ×Obj)}{R:St}{H:Hp}{s:δ}{Q:VK}{vs:List V}(F:Ez Y X.prog X.w X.K X.mg X.base CX k f Z ps sp)(c:Qd Y k X.A)(d:Binds X.K Z ps ds)(g:P9 dvs ds)(i:qL2 CX X E)(I:Qa X Eo R H s)(r:P9 vs us)(h:sp (vs++dvs) H Q (E R)):L5 (L6 X.prog X.w) X.A (call (.ref f) us) (EP X Eo R Q) X.xe s:=by
 have b:P9 (vs++dvs) (us++ds):=r.append g;have j:(us++ds).length=ps.length:=by rw[<- b.length];exact F.len _ _ _ _ h
 refine wpAny_call (codeAny_mono (F.run X.A X.stack s H ⟨us,[]⟩ (us++ds) (vs++dvs) Q (E R) c I.env0 (d s us I.kIn j) b h) λ r l a=>?_);cases r with
 | error e=>exact i Eo R H s e l I a
 | ok m =>
   cases m with
   | ret u=>exact I.after a
   | next=>exact Py a
   | brk=>exact Py a
   | cont=>exact Py a
theorem qas9(F:Ez Y X.prog X.w X.K X.mg X.base CX k f Z ps sp)(d:Qd Y k X.A)(g:Gl X x)(hm:X.mg x=some (.ref f))(i:W.keepIn X.K (.ref f)=true)(j:Binds X.K Z ps ds)(l:P9 dvs ds)(m:qL2 CX X E)(n:PA X (e::U) t)(a:N' x:=by decide)(o:Lf (e::U) X.env=(false,eval e X.env)::Lf U X.env:=by rfl)(b:(backTo S (Lf U X.env)).any (·.1)=false:=by rfl) :
   PE X (.Call (.Name x p) (e::U) [] S) (Jz sp dvs E t):=by
 intro Eo s R H Q I h;refine wpAny_Call_Name_kw (qI8 I g hm ?_ a);refine W.callWith_K (h₀:=X.base) I.ok.mod.kin i (thn (n S Eo s R H _ I h) λ u v c=>?_) o b;obtain⟨y,H1,I1,r,q⟩:=c;refine⟨I1.kIn,?_⟩;exact qay0 F d j l m I1 r q
theorem qaJ3(n:PE X o ta)(c:Cls X.K C)(hm:Jy X.K C m f)(F:Ez Y X.prog X.w X.K X.mg X.base CX k f Z ps sp)(p:Qd Y k X.A)(v:Binds X.K Z ps ds)(y:P9 dvs ds)(z:qL2 CX X E)(B:PA X (e::U) t)(d:Lf (e::U) X.env=(false,eval e X.env)::Lf U X.env:=by rfl)(g:(backTo S (Lf U X.env)).any (·.1)=false:=by rfl)(D:eval (.Call (.Attribute o m T) (e::U) [] S) X.env=(do
     let ov <- eval o X.env
     standAt T.atName
     let (f,first) <- holding [ov] (getMethod ov m pl)
     callWith S f first (backTo S (Lf (e::U) X.env)) (backToKw S (Lu [] X.env))):=by rfl) :
   PE X (.Call (.Attribute o m T) (e::U) [] S) (J0 C m sp dvs E ta t):=by
 intro Eo s R H Q I h;refine W.methodCall_KW (pl:=pl) (thn (n Eo s R H _ I h) λ u G b=>?_) D;obtain⟨x,H1,I1,J,a,N,O,L,M,l,q⟩:=b;subst L;obtain rfl:u=Oj a:=J;refine qJ6 I1 M c hm l ?_;refine W.callWith_K (first:=[.ref a]) (h₀:=X.base) I.ok.mod.kin hm.kp (thn (B S Eo G R H1 _ I1 q) λ i P b=>?_) d g;obtain⟨j,H2,I2,r,q2⟩:=b;refine⟨I2.kIn,?_⟩;exact qay0 (us:=.ref a::i) (vs:=.ref a::j) F p v y z I2 (.cons rfl r) q2
theorem qaz2(d:PE X o ta)(c:Cls X.K C)(hm:Jy X.K C m f)(F:Ez Y X.prog X.w X.K X.mg X.base CX k f Z ps sp)(e:Qd Y k X.A)(g:Binds X.K Z ps ds)(i:P9 dvs ds)(j:qL2 CX X E)(n:eval (.Call (.Attribute o m T) [] [] S) X.env=(do
     let ov <- eval o X.env
     standAt T.atName
     let (f,first) <- holding [ov] (getMethod ov m pl)
     callWith S f first (backTo S (Lf [] X.env)) (backToKw S (Lu [] X.env))):=by rfl) :
   PE X (.Call (.Attribute o m T) [] [] S) (J0 C m sp dvs E ta tNil):=by
 intro Eo s R H Q I h;refine W.methodCall_KW (pl:=pl) (thn (d Eo s R H _ I h) λ u v b=>?_) n;obtain⟨x,H1,I1,p,a,y,z,r,t,l,q⟩:=b;subst r;obtain rfl:u=Oj a:=p;refine qJ6 I1 t c hm l ?_;exact W.callWith_K0 (first:=[.ref a]) I1.kIn hm.kp (qay0 (us:=[.ref a]) (vs:=[.ref a]) F e g i j I1 (.cons rfl .nil) q)
structure Mk(K:O0)(C f:γ):Prop where
 makes:W.makesIn K C=true
 init:W.findIn K (.ref C) "__init__" = some (some (.ref f))
 fn:W.isFn K (.ref f)=true
 kp:W.keepIn K (.ref C)=true
theorem qax9{Eo:List (γ×Obj)}{R:St}{H:Hp}{s:δ}{Q:VK}{vs:List V}(M:Mk X.K C f)(F:Ez Y X.prog X.w X.K X.mg X.base CX k f Z ps sp)(d:Qd Y (k+1) X.A)(g:Binds X.K Z ps ds)(i:P9 dvs ds)(j:qL2 CX X E)(I:Qa X Eo R H s)(r:P9 vs us)(h:∀ x dx,H x=none->H dx=none->dx≠x->sp (.ref x::(vs++dvs)) (upd (upd H dx (.own x)) x (.ins C dx [])) (λ v H2=>v=.non/\Q (.ref x) H2) (E R)) :
   L5 (L6 X.prog X.w) X.A (call (.ref C) us) (EP X Eo R Q) X.xe s:=by
 have b:=h (s.heap.objs.size+1) s.heap.objs.size (I.hok.fresh (Nat.le_succ _)) (I.hok.fresh (zA3 _)) (zAj (Nat.lt_succ_self _));have I2:=Qa.made (C:=C) I;have c:P9 (V.ref (s.heap.objs.size+1)::(vs++dvs)) (Oj (s.heap.objs.size+1)::(us++ds)):=.cons rfl (r.append i);have l:(Oj (s.heap.objs.size+1)::us++ds).length=ps.length:=by
   have e:=c.length;rw[F.len _ _ _ _ b] at e;exact e.symm
 refine wpAny_call (qaB2 (f:=f) I.kIn M.makes M.init (zBl.mp M.fn) (codeAny_mono (F.run _ X.stack _ _ ⟨Oj (s.heap.objs.size+1)::us,[]⟩ (Oj (s.heap.objs.size+1)::(us++ds)) _ _ (E R) (d.make C us [])
   (I2.env0.make C us []) (g _ (Oj (s.heap.objs.size+1)::us) I2.kIn l) c b) λ r m a=>?_))
 cases r with
 | error e=>exact j Eo R _ _ e m I2 a
 | ok n =>
   cases n with
   | ret u =>
     obtain⟨v,H',I3,o,p,q⟩:=I2.after a;subst p;exact⟨o,⟨V.ref (s.heap.objs.size+1),H',I3,rfl,q⟩⟩
   | next=>exact Py a
   | brk=>exact Py a
   | cont=>exact Py a
theorem qac7(M:Mk X.K C f)(F:Ez Y X.prog X.w X.K X.mg X.base CX k f Z ps sp)(d:Qd Y (k+1) X.A)(g:Gl X x)(hm:X.mg x=some (.ref C))(i:Binds X.K Z ps ds)(j:P9 dvs ds)(l:qL2 CX X E)(m:PA X (e::U) t)(a:N' x:=by decide)(n:Lf (e::U) X.env=(false,eval e X.env)::Lf U X.env:=by rfl)(b:(backTo S (Lf U X.env)).any (·.1)=false:=by rfl) :
   PE X (.Call (.Name x p) (e::U) [] S) (tMake C sp dvs E t):=by
 intro Eo s R H Q I h;refine wpAny_Call_Name_kw (qI8 I g hm ?_ a);refine W.callWith_K (h₀:=X.base) I.ok.mod.kin M.kp (thn (m S Eo s R H _ I h) λ o u c=>?_) n b;obtain⟨v,H1,I1,r,q⟩:=c;refine⟨I1.kIn,?_⟩;exact qax9 M F d i j l I1 r q
end
structure qa8(N P:List Str)(sc:Scope):Prop where
 kind:sc.kind=.function
 co:sc.isCoroutine=false
 gen:sc.isGenerator=false
 nd:N.Nodup
 pre:N.take P.length=P
 par:∀ x∈P,sc.names.lookup x=some .local∨sc.names.lookup x=some .cell
 nofree:∀ y∈sc.names,y.2≠.free
theorem qV7{Mo:Str->Option NameKind}{x:Str}:∀{binds:List (Str×V')}{m:Str->Option V'},(∀ v,(x,v)∉binds)->bindL Mo binds m x=m x
 | [],_,_=>rfl
 | (n,v)::r,m,h=>by
   unfold bindL;rw[qV7 λ w a=>h w (zA6 _ a)];split
   . have:x≠n:=by rintro rfl;exact h v zAa
     simp[this]
   rfl
theorem qV9{Mo:Str->Option NameKind}{x:Str}:∀{binds:List (Str×V')}{m:Str->Option V'},(∀ v,(x,v)∉binds)->bindC Mo binds m x=m x
 | [],_,_=>rfl
 | (n,v)::r,m,h=>by
   unfold bindC;rw[qV9 λ w a=>h w (zA6 _ a)];split
   . rfl
   have:x≠n:=by rintro rfl;exact h v zAa
   simp[this]
theorem qV8{Mo:Str->Option NameKind}{x:Str}{v:V'}:∀{P:List Str}{vs:List V'}{i:Nat}{m:Str->Option V'},P.Nodup->P[i]? = some x->vs[i]? = some v->Mo x=some .local ->
   bindL Mo (P.zip vs) m x=some v
 | [],_,_,_,_,h,_,_=>by simp at h
 | _::_,[],_,_,_,_,h,_=>by simp at h
 | p::P,w::vs,0,m,nd,h1,h2,hk=>by
   simp at h1 h2;subst h1;subst h2;show bindL Mo ((p,w)::P.zip vs) m p=_;unfold bindL;rw[qV7 λ v a=>(zCd.mp nd).1 (Nm a).1,if_pos hk];simp
 | p::P,w::vs,i+1,m,nd,h1,h2,hk=>by
   show bindL Mo ((p,w)::P.zip vs) m x=_;unfold bindL;exact qV8 (i:=i) (zCd.mp nd).2 (by simpa using h1) (by simpa using h2) hk
theorem qW0{Mo:Str->Option NameKind}{x:Str}{v:V'}:∀{P:List Str}{vs:List V'}{i:Nat}{m:Str->Option V'},P.Nodup->P[i]? = some x->vs[i]? = some v->Mo x≠some .local ->
   bindC Mo (P.zip vs) m x=some v
 | [],_,_,_,_,h,_,_=>by simp at h
 | _::_,[],_,_,_,_,h,_=>by simp at h
 | p::P,w::vs,0,m,nd,h1,h2,hk=>by
   simp at h1 h2;subst h1;subst h2;show bindC Mo ((p,w)::P.zip vs) m p=_;unfold bindC;rw[qV9 λ v a=>(zCd.mp nd).1 (Nm a).1,if_neg hk];simp
 | p::P,w::vs,i+1,m,nd,h1,h2,hk=>by
   show bindC Mo ((p,w)::P.zip vs) m x=_;unfold bindC;exact qW0 (i:=i) (zCd.mp nd).2 (by simpa using h1) (by simpa using h2) hk
noncomputable def start(N:List Str)(vs:List V):St:=vs.map some++Mr (N.length - vs.length) none
noncomputable def Fi(cm:Bool)(CX:CXT)(P:L7)(w:L9)(K:O0)(mg:Str->Option V')(base:Heap)(N:List Str)(qual:Str)(scope:Scope)(f:γ)(cd:V')(A:L8)(outer:List Env)(s:δ)(H:Hp)(E:XK):Cx where
 prog:=P
 w:=w
 K:=K
 mg:=mg
 base:=base
 A:=A.deeper (envOfC qual scope s.heap.objs.size f cd)
 N:=N
 s₀:=s
 H₀:=H
 env:=envOfC qual scope s.heap.objs.size f cd
 outer:=outer
 stack:=envOfC qual scope s.heap.objs.size f cd::outer
 ex:=[]
 calm:=cm
 fn:=λ _=>true
 pn:=[]
 xe:=λ e s'=>L5 (L6 P w) (A.deeper (envOfC qual scope s.heap.objs.size f cd)) (leaving (envOfC qual scope s.heap.objs.size f cd) e) (λ _ a=>CX outer H s E e a) (λ b a=>CX outer H s E b a) s'
theorem qai1{sc:Scope}{x:Str}(h:sc.names.lookup x=some .cell):∃ c,(cellsFrom n sc.names []).lookup x=some c:=by
 have q:=W.cellsFrom_some sc.names n [] (.inl h);exact zB7.mp q
theorem qan6{cm:Bool}{CX:CXT}{P:L7}{w:L9}{K:O0}{ps:List Str}{qual:Str}{scope:Scope}{f:γ}{cd:V'}{A:L8}{outer:List Env}{s C:δ}{H:Hp}{E:XK}{vs:List V}(S:qa8 N ps scope)(G:cm=true->A.handled=none)(g:Env0 P w K mg base A outer s H)(M:vs.length=ps.length)(r:P9 vs us)(x:InCallC s s.heap.objs.size (bindL (envOfC qual scope s.heap.objs.size f cd).kindOf (ps.zip us) λ _=>none) (cellsFrom (s.heap.objs.size+1) scope.names []) (bindC (envOfC qual scope s.heap.objs.size f cd).kindOf (ps.zip us) λ _=>none) C) :
   Qa (Fi cm CX P w K mg base N qual scope f cd A outer s H E) [] (start N vs) H C:=by
 have I:ps.length<=N.length:=by have:=congrArg Mv S.pre;rw[zBz] at this;lia
 obtain⟨t,O,rfl,D⟩:=x.done;have j:∀ b:γ,b∉(Fi cm CX P w K mg base N qual scope f cd A outer s H E).ex:=λ b z=>absurd (show b∈([]:List γ) from z) (by simp)
 refine⟨⟨g.mod,S.kind,rfl,rfl,zA3 _,λ y z c t d=>?_,λ y l=>?_,λ y c _ h=>?_,G,Around.frames_deeper g.frames,.inr ⟨rfl,rfl⟩,λ b z=>absurd z (j b),g.bs,g.bsz,λ b _ _=>j b,λ b z=>absurd z (j b),g.funs,g.frf⟩,
   rfl,g.bare,Un.kept D,⟨_,x.toInCall.ns,λ i y v t d Q=>?_⟩,λ y c h=>⟨_,x.cell y c h⟩,g.hok.fresh (zA3 _),λ y c h=>?_,λ p m=>absurd (show p∈([]:List (γ×Obj)) from m) (by simp),g.hok.kept D,?_⟩
 . exact name_of_addr x.apart (PySem.mem_of_lookup t) (PySem.mem_of_lookup d)
 . have l:scope.names.lookup y=some .cell∨scope.names.lookup y=some .free:=l
   rcases l with l | l
   . exact qai1 l
   exact absurd rfl (S.nofree _ (PySem.mem_of_lookup l))
 . exact zB5 (x.above y c (PySem.mem_of_lookup h))
 . have B:i < vs.length:=by
     unfold start at d;by_cases B:i < vs.length
     . exact B
     rw[List.getElem?_append_right (by simpa using B)] at d;rw[List.getElem?_replicate] at d;split at d<;>cases d
   have J:vs[i]? = some v:=by
     unfold start at d;rw[zAt (by simpa using B),zB8] at d;cases e:vs[i]? with
     | none=>rw[e] at d;cases d
     | some a=>rw[e] at d;cases d;rfl
   obtain⟨u,F,L⟩:=r.get J;have m:ps[i]? = some y:=by
     rw[<- S.pre,List.getElem?_take_of_lt (by lia)];exact t
   have o:ps.Nodup:=by rw[<- S.pre];exact S.nd.sublist (Mw _ _)
   refine⟨u,L,?_⟩;rcases S.par y (zB0 m) with k | k
   . exact .inl ⟨k,qV8 o m F k⟩
   obtain⟨c,e⟩:=qai1 (n:=s.heap.objs.size+1) k;refine .inr ⟨.inl k,c,e,?_⟩;have q:=x.cell y c e;rw[qW0 o m F (by show scope.names.lookup y≠_;rw[k];decide)] at q;exact q
 . exact g.hok.fresh (zB5 (x.above y c (PySem.mem_of_lookup h)))
 unfold start;show _=N.length;rw[zAe,zAf,List.length_replicate];lia
theorem J1{cm:Bool}{CX:CXT}{P:L7}{w:L9}{K:O0}{k:Nat}{f:γ}{name qual:Str}{params:Arguments}{scope:Scope}{B kV d C a D oc:V'}{F od:Option γ}{i:Array (Option V')}{ps:List Str}{sp:Sp}(L:K.lookup f=some ⟨oc,od,.func (W.fnOf name qual params body scope B kV d C F a D),i⟩)(j:W.codeIn K a qual=true)(S:qa8 N ps scope)(len:∀ vs H Q E,sp vs H Q E->vs.length=ps.length)(hbody:∀(A:L8)(outer:List Env)(s:δ)(H:Hp)(vs:List V)(Q:VK)(E:XK),Qd cm k (A.deeper (envOfC qual scope s.heap.objs.size f a))->sp vs H Q E ->
     ∃ t,PSs (Fi cm CX P w K mg base N qual scope f a A outer s H E) body t/\t { nx:=λ _ H'=>Q .non H',rt:=Q } (start N vs) H) :
   Ez cm P w K mg base CX (k+1) f (W.fnOf name qual params body scope B kV d C F a D) ps sp:=by
 refine⟨len,λ A outer s H args M vs Q E l g O r h=>?_⟩;have R:=len _ _ _ _ h;have KX:K.In s.heap:=g.mod.kin.keeps λ b o e=>(g.bs b o e).1
 have m:s.heap.NoLimit:=g.mod.nolimit.keeps λ b o e=>(g.bs b o e).1
 have hkind:∀ y∈ps.zip M,scope.names.lookup y.1=some .local∨(scope.names.lookup y.1=some .cell/\((cellsFrom (s.heap.objs.size+1) scope.names []).lookup y.1).isSome=true):=λ ⟨n,v⟩ T=>by
   rcases S.par n (Nm T).1 with q | q
   . exact .inl q
   exact .inr ⟨q,W.cellsFrom_some _ _ _ (.inl q)⟩
 refine codeAny_call_function l.depth (KX _ _ L) rfl S.co S.gen rfl (W.codeRec_of KX j) (O _ _ _ _ ?_);refine wpAny_newFunctionEnv_cells S.kind hkind λ U X G x=>?_
 subst X;refine⟨m.keeps x.toInCall.keep,codeAny_func ?_⟩;obtain⟨t,Y,Z⟩:=hbody A outer s H vs Q E (l.deeper _) h;have I:Qa (Fi cm CX P w K mg base N qual scope f a A outer s H E) [] (start N vs) H G:=qan6 S l.hd g R r x;refine Lv (Y [] G (start N vs) H _ I Z) (λ fl p c=>?_) λ e p c=>c
 have fin:∀{σ':St}{H':Hp}{v:V}{u:V'},Qa (Fi cm CX P w K mg base N qual scope f a A outer s H E) [] σ' H' p->P8 v u->Q v H'->CE outer P w H s Q u p :=
   λ{σ' H' v u} J z q=>⟨v,H',J.os,J.bare,J.base,J.hok,z,q⟩
 cases fl with
 | ret u =>
   obtain⟨v,σ',H',J,z,q⟩:=c;exact fin J z q
 | next =>
   obtain⟨σ',H',J,q⟩:=c;exact fin (v:=V.non) (u:=Ol) J rfl q
 | brk =>
   obtain⟨_,_,_,q⟩:=c;exact Py q
 | cont =>
   obtain⟨_,_,_,q⟩:=c;exact Py q
section
variable{X:Cx}{x:Str}{p u:Pos}{e:Ma}{v:List Ma}{t:TA}{w T:String}{r:List V->Hp->VK->Prop}
def tCB(r:List V->Hp->VK->Prop)(t:TA):TE:=λ q H Q=>t q H λ vs H1=>r vs H1 Q
theorem qaz7(c:CallR X (.builtin w) r)(d:Gl X x)(hm:X.mg x=none)(f:Ll x=some (.builtin w))(g:PA X (e::v) t)(i:x ≠ "__name__" := by decide)(a:N' x:=by decide)(j:Lf (e::v) X.env=(false,eval e X.env)::Lf v X.env:=by rfl)(b:(backTo u (Lf v X.env)).any (·.1)=false:=by rfl):PE X (.Call (.Name x p) (e::v) [] u) (tCB r t):=by
 intro Eo s q H Q I h;refine wpAny_Call_Name_kw (qaf3 I d hm f ?_ i a);exact PyProof.Rows.callWith_builtin1 (thn (g u Eo s q H _ I h) λ k l ⟨m,H1,I1,n,o⟩=>c Eo l q H1 m k Q I1 n o) j b
theorem qal9(c:CallR X (.type T) r)(d:Gl X x)(hm:X.mg x=none)(f:Ll x=some (.type T))(g:PA X (e::v) t)(i:x ≠ "__name__" := by decide)(a:N' x:=by decide)(j:Lf (e::v) X.env=(false,eval e X.env)::Lf v X.env:=by rfl)(b:(backTo u (Lf v X.env)).any (·.1)=false:=by rfl):PE X (.Call (.Name x p) (e::v) [] u) (tCB r t):=by
 intro Eo s q H Q I h;refine wpAny_Call_Name_kw (qaf3 I d hm f ?_ i a);exact PyProof.Rows.callWith_type1 (thn (g u Eo s q H _ I h) λ k l ⟨m,H1,I1,n,o⟩=>c Eo l q H1 m k Q I1 n o) j b
end
end L2
namespace HT
open PySem PyProof.Rows
section
noncomputable def sIx(n d:Nat):Option Int->Nat
 | none=>d
 | some v=>if v < 0 then (v+(n:Int)).toNat else min v.toNat n
theorem qab9(n d:Nat):sIx n d none=d:=rfl
theorem qar7(n d k:Nat):sIx n d (some (k:Int))=min k n:=by
 show (if (k:Int) < 0 then ((k:Int)+(n:Int)).toNat else min (k:Int).toNat n)=min k n;rw[if_neg (by lia),Int.toNat_natCast]
end
end HT
namespace L2
open PySem PySem.Spec PyProof.Rows
variable{its:List V'}{n:Nat}{x:V}{α:Type}
abbrev TO:=St->Hp->(Option Int->Hp->Prop)->Prop
def PO(X:Cx)(e:Option Ma)(t:TO):Prop :=
 ∀(Eo:List (γ×Obj))(s:δ)(a:St)(H:Hp)(Q:Option Int->Hp->Prop),Qa X Eo a H s->t a H Q ->
   L5 (L6 X.prog X.w) X.A (evalPart e X.env) (λ u s'=>∃ o H',Qa X Eo a H' s'/\IsPart u o/\Q o H') X.xe s
def qaF8:TO:=λ _ H Q=>Q none H
def tPart(t:TE):TO:=λ a H Q=>t a H λ x H1=>∃ i,x=.int i/\Q (some i) H1
theorem qag1{ns:List Int}:∀{us:List V'},P9 (ns.map V.int) us->IntsAre us ns:=by
 induction ns with
 | nil=>intro us r;rw[Nu] at r;cases r;exact .nil
 | cons n ns a =>
   intro us r;rw[zAx] at r;cases r with
   | cons b c =>
     obtain⟨t,e⟩:=b;subst e;exact .cons n t (a c)
section
variable{X:Cx}{e:Ma}{te:TE}{G J:Option Ma}{K L:TO}{M N:Pos}
theorem qas7:PO X none qaF8:=by
 intro Eo s E H Q I h;rw[evalPart_none];exact Ld ⟨none,H,I,.none,h⟩
theorem qas6(h:PE X e te):PO X (some e) (tPart te):=by
 intro Eo s E H Q I b;rw[evalPart_some];refine thn (h Eo s E H _ I b) λ u f a=>?_
 obtain⟨x,H1,I1,c,d⟩:=a;obtain⟨i,rfl,q⟩:=d;obtain⟨t,rfl⟩:=c;exact⟨some i,H1,I1,.int i t,q⟩
def SlR(X:Cx)(r:V->Option Int->Option Int->Hp->VK->Prop):Prop :=
 ∀(Eo:List (γ×Obj))(s:δ)(E:St)(H:Hp)(x:V)(v vl vu:V')(G J:Option Int)(sl:γ)(Q:VK),Qa X Eo E H s->P8 x v->s.heap.IsSliceOf sl vl vu .none->IsPart vl G->IsPart vu J->r x G J H Q ->
   ∃ T id,typeLookup (.type T) "__getitem__" = pure (some (.builtin id))/\s.TypeIs v T/\L5 (L6 X.prog X.w) X.A (getItem v (.ref sl)) (EP X Eo E Q) X.xe s
def tSl(r:V->Option Int->Option Int->Hp->VK->Prop)(te:TE)(K L:TO):TE:=λ E H Q=>te E H λ x H1=>K E H1 λ l H2=>L E H2 λ u H3=>r x l u H3 Q
theorem qac6{r:V->Option Int->Option Int->Hp->VK->Prop}(g:SlR X r)(i:PE X e te)(j:PO X G K)(k:PO X J L):PE X (.Subscript e (.Slice G J none N) M) (tSl r te K L):=by
 intro Eo s E H Q I h;refine Subscript_ (thn (i Eo s E H _ I h) λ v m a=>?_);obtain⟨x,H1,I1,n,o⟩:=a;refine wpAny_Slice (thn (j Eo m E H1 _ I1 o) λ d p a=>?_);obtain⟨l,H2,I2,t,q2⟩:=a;refine thn (k Eo p E H2 _ I2 q2) λ f c a=>?_
 obtain⟨u,H3,I3,y,z⟩:=a;rw[evalPart_none];refine Ld ?_;have I4:Qa X Eo E H3 { c with heap:=c.heap.push { cls:=.type "slice",data:=.fields #[d,f,.none] } }:=I3.kept (t':=c.toks) λ b F q=>zA2 _ q
 obtain⟨T,id,B,C,D⟩:=g Eo { c with heap:=c.heap.push { cls:=.type "slice",data:=.fields #[d,f,.none] } } E H3 x v d f l u c.heap.objs.size Q I4 n (Heap.IsSliceOf.new ..) t y z;show L5 (L6 X.prog X.w) X.A (subscriptTail e (.Slice G J none N) v (.ref c.heap.objs.size)) (EP X Eo E Q) X.xe { c with heap:=c.heap.push { cls:=.type "slice",data:=.fields #[d,f,.none] } };exact tail_any (ops:=[.ref c.heap.objs.size,v]) C B D (by with_unfolding_all rfl)
def Hg(xs:List V)(G J:Option Int):List V:=(xs.drop (HT.sIx xs.length 0 G)).take (HT.sIx xs.length xs.length J - HT.sIx xs.length 0 G)
theorem qZ1(xs:List V)(G J:Option Int):(Hg xs G J).length<=xs.length:=by
 unfold Hg;rw[zBz,M3];lia
end
noncomputable def ixN(n:Nat)(i:Int):Option Nat:=if 0<=i then (if i < n then some i.toNat else none) else if -(n:Int)<=i then some (i+n).toNat else none
def atI{α:Type}(xs:List α)(i:Int):Option α:=(ixN xs.length i).bind λ j=>xs[j]?
theorem qS8{i:Int}{j:Nat}(h:ixN n i=some j):seqIndex? i n=some j/\j < n/\-(n:Int)<=i/\i < n:=by
 unfold ixN at h;by_cases b:0<=i
 . rw[if_pos b] at h
   by_cases a:i < n
   . rw[if_pos a] at h
     have e:i.toNat=j:=Oy h;exact⟨by rw[seqIndex_of b a,e],by lia,by lia,a⟩
   rw[if_neg a] at h;cases h
 rw[if_neg b] at h;by_cases a:-(n:Int)<=i
 . rw[if_pos a] at h
   have e:(i+n).toNat=j:=Oy h;exact⟨by rw[seqIndex_neg (by lia) a,e],by lia,a,by lia⟩
 rw[if_neg a] at h;cases h
theorem qai7{xs:List α}{i:Int}{v:α}(h:atI xs i=some v):∃ j,seqIndex? i xs.length=some j/\xs[j]? = some v/\j < xs.length/\-(xs.length:Int)<=i/\i < xs.length:=by
 unfold atI at h;cases e:ixN xs.length i with
 | none=>rw[e] at h;cases h
 | some j =>
   rw[e] at h;obtain⟨a,b,c,d⟩:=qS8 e;exact⟨j,a,h,b,c,d⟩
theorem qai6{xs:List α}{j:Nat}{v:α}(h:xs[j]? = some v):atI xs (j:Int)=some v:=by
 have a:j < xs.length:=(zA4.mp h).1;have e:ixN xs.length (j:Int)=some j:=by
   unfold ixN;rw[if_pos (by lia),if_pos (by lia)];simp
 unfold atI;rw[e];exact h
theorem qaE6(xs:List α)(v:α):atI (xs++[v]) (-1)=some v:=by
 have a:(xs++[v]).length=xs.length+1:=by simp
 have e:ixN (xs++[v]).length (-1)=some xs.length:=by
   unfold ixN;rw[a,if_neg (by decide),if_pos (by lia)];congr 1;lia
 unfold atI;rw[e];show (xs++[v])[xs.length]? = some v;simp
def qW2(b:Ma):Prop:=∀ o i,subscripted b false o i=operate [o,i] (getItem o i)
def IxR(X:Cx)(r:R2):Prop :=
 ∀(value slice:Ma)(Eo:List (γ×Obj))(s:δ)(a:St)(H:Hp)(x y:V)(v u:V')(Q:VK),Qa X Eo a H s->P8 x v->P8 y u->r x y H Q ->
   subscripted slice false v u=operate [v,u] (getItem v u)->L5 (L6 X.prog X.w) X.A (subscriptTail value slice v u) (EP X Eo a Q) X.xe s
def MtR(X:Cx)(id:String)(r:V->List V->Hp->VK->Prop):Prop :=
 ∀(Eo:List (γ×Obj))(s:δ)(a:St)(H:Hp)(x:V)(xs:List V)(v:V')(us:List V')(Q:VK),Qa X Eo a H s->P8 x v->P9 xs us->r x xs H Q ->
   L5 (L6 X.prog X.w) X.A (call (.builtin id) (v::us)) (EP X Eo a Q) X.xe s
section
variable{X:Cx}{a b:Ma}{ta tb:TE}{pos:Pos}
theorem IxR.or{r a:R2}(h:IxR X r)(h':IxR X a):IxR X (λ x y H Q=>r x y H Q∨a x y H Q):=by
 intro value slice Eo s N H x y v u Q I b c q d;rcases q with q | q
 . exact h value slice Eo s N H x y v u Q I b c q d
 exact h' value slice Eo s N H x y v u Q I b c q d
theorem Ka{r:R2}(c:IxR X r)(d:PE X a ta)(e:PE X b tb)(f:qW2 b):PE X (.Subscript a b pos) (tOp r ta tb):=by
 intro Eo s N H Q I h;exact Subscript_ (binT d e I h λ v u g x y H2 I2 i j q=>c a b Eo g N H2 x y v u Q I2 i j q (f _ _))
def rIxL(K:O0):R2:=λ x y H Q=>∃ p xs i v,x=.ref p/\y=.int i/\SqL K H p xs/\atI xs i=some v/\Q v H
def rIxT(K:O0):R2:=λ x y H Q=>∃ p xs i v,x=.ref p/\y=.int i/\SqT K H p xs/\atI xs i=some v/\Q v H
def rIxS:R2:=λ x y H Q=>∃ z i c,x=.str z/\y=.int i/\z.length<=Lg/\atI z.cps.toList i=some c/\Q (.str ⟨#[c]⟩) H
theorem qaM9:IxR X (rIxL X.K):=by
 intro value slice Eo s N H x y v u Q I l m h f;obtain⟨p,F,i,z,rfl,rfl,n,o,q⟩:=h;cases l;obtain⟨t,rfl⟩:=m;obtain⟨b,r,c,G⟩:=I.list n;obtain⟨j,a,A,J,B,C⟩:=qai7 o;obtain⟨w,g,d⟩:=r.get A;have D:=r.length;have L:=qP5;have fin:EP X Eo N Q w s:=⟨z,H,I,d,q⟩
 by_cases k:0<=i
 . have e:i.toNat=j:=by
     rw[seqIndex_of k C] at a;exact Oy a
   exact item_listR c.isList k (by lia) (by rw[e];simpa using g) fin f
 have e:(i+(b.toArray.size:Int)).toNat=j:=by
   rw[seqIndex_neg (by lia) B] at a;rw[zA5,<- D];exact Oy a
 exact subscriptTail_builtinR (x:=w) c.isList.typeIs slot_list_getitem.lookup
   (wpAny_getItem_list_neg (Q:=λ r E=>r=w/\EP X Eo N Q r E) c.isList (by lia) (by rw[zA5]<;>lia) (by lia) (by rw[e];simpa using g) ⟨rfl,fin⟩) f
theorem qaV4:IxR X (rIxT X.K):=by
 intro value slice Eo s N H x y v u Q I c d h e;obtain⟨p,B,i,z,rfl,rfl,f,g,q⟩:=h;cases c;obtain⟨t,rfl⟩:=d;obtain⟨k,r,b,C⟩:=I.tuple f;obtain⟨j,l,m,D,E,F⟩:=qai7 g;obtain⟨w,n,a⟩:=r.get m;have o:=r.length;have G:=qP5;have fin:EP X Eo N Q w s:=⟨z,H,I,a,q⟩
 exact subscriptTail_builtinR (x:=w) b.typeIs slot_tuple_getitem.lookup
   (getItem_tuple (j:=j) (Q:=λ r A=>r=w/\EP X Eo N Q r A) b (by lia) (by lia) (by rw[zA5,<- o];exact l) (by simpa using n) ⟨rfl,fin⟩) e
theorem qaV5:IxR X rIxS:=by
 intro value slice Eo s N H x y v u Q I b d h e;obtain⟨z,i,c,rfl,rfl,o,f,q⟩:=h;obtain⟨t,rfl⟩:=b;obtain⟨p,rfl⟩:=d;obtain⟨j,a,g,r,k,l⟩:=qai7 f;have m:z.cps.toList.length=z.length:=by simp[Str.length]
 rw[m] at a k l;have w:=qP5;exact tail_any (typeIs_str s z t) slot_str_getitem.lookup (getItem_str (c:=c) (by
   have n:decide (i < -(2 ^ 63:Int))=false:=zBj (by lia);have e2:decide (i ≥ 2 ^ 63)=false:=zBj (by lia);rw[n,e2,Bool.or_false]) (by rw[a];simpa using g) ⟨.str ⟨#[c]⟩,H,I.tok _,⟨_,rfl⟩,q⟩) e
def rIx(K:O0):R2:=λ x y H Q=>rIxL K x y H Q∨rIxT K x y H Q∨rIxS x y H Q
theorem qb3:IxR X (rIx X.K):=qaM9.or (qaV4.or qaV5)
theorem qae7(its:List V')(n j:Nat)(u:V'):Obj.mapSeq (·.setIfInBounds j u) { cls:=.type "list",data:=.seq its.toArray n }={ cls:=.type "list",data:=.seq (its.set j u).toArray n }:=by
 simp[Obj.mapSeq]
theorem Qa.l{Eo:List (γ×Obj)}{N:St}{H:Hp}{s:δ}{p:γ}{xs:List V}(I:Qa X Eo N H s)(h:H p=some (.l xs)) :
   ∃(its:List V')(n:Nat),P9 xs its/\s.heap.get? p=some { cls:=.type "list",data:=.seq its.toArray n }/\xs.length<=Lg:=by
 obtain⟨z,its,n,r,e⟩:=I.hok p _ h;exact⟨its,n,r,e,z⟩
theorem Qa.lstUpd{Eo:List (γ×Obj)}{N:St}{H:Hp}{s:δ}{p:γ}{xs ys:List V}{its':List V'}{a:Nat}{f:Obj->Obj}(I:Qa X Eo N H s)(h:H p=some (.l xs))(d:s.heap.get? p=some { cls:=.type "list",data:=.seq its.toArray n })(c:f { cls:=.type "list",data:=.seq its.toArray n }={ cls:=.type "list",data:=.seq its'.toArray a })(r:P9 ys its')(g:ys.length<=Lg)(t:Nat) :
   Qa X Eo N (upd H p (.l ys)) { s with heap:=s.heap.update p f,toks:=t }:=by
 have e:(s.heap.update p f).get? p=some { cls:=.type "list",data:=.seq its'.toArray a }:=by
   rw[zBt f d (by rw[c]<;>rfl),c]
 refine I.write (x:=p) (e:=p) (by rw[h];trivial) (.inl rfl) (λ b u i q=>(zBh _ _ (Ne.symm i)).trans q) ⟨_,e⟩ ?_;exact⟨g,its',a,r,e⟩
def rSetL:V->V->V->Hp->(Hp->Prop)->Prop:=λ o i v H Q=>∃ p xs k j,o=.ref p/\i=.int k/\H p=some (.l xs)/\ixN xs.length k=some j/\Q (upd H p (.l (xs.set j v)))
theorem qab1:PSet X rSetL:=by
 intro Eo s N H o i v C D u Q I w x y h;obtain⟨p,z,k,j,rfl,rfl,f,A,q⟩:=h;cases w;obtain⟨t,rfl⟩:=x;obtain⟨a,n,r,c,B⟩:=I.l f;obtain⟨b,E,g,l⟩:=qS8 A;have d:=r.length;have F:=qP5;have I':Qa X Eo N (upd H p (.l (z.set j v))) { s with heap:=s.heap.update p (Obj.mapSeq (·.setIfInBounds j u)) } :=
   I.lstUpd f c (qae7 a n j u) (r.set y j) (by rw[M'];exact B) s.toks
 by_cases m:0<=k
 . have e:k.toNat=j:=by
     rw[seqIndex_of m l] at b;exact Oy b
   exact W.ki_setAt c m (by lia) (by rw[zA5,<- d];exact l) (by rw[e];exact⟨_,I',q⟩)
 have e:(k+(a.toArray.size:Int)).toNat=j:=by
   rw[seqIndex_neg (by lia) g] at b;rw[zA5,<- d];exact Oy b
 exact W.ki_setBack c (by lia) (by rw[zA5,<- d];exact g) (by lia) (by rw[e];exact⟨_,I',q⟩)
theorem qM7(lo hi:Option Int)(n:Nat):(sliceBounds lo hi none n).1=((HT.sIx n 0 lo:Nat):Int)/\(sliceBounds lo hi none n).2.1=((HT.sIx n n hi:Nat):Int)/\(sliceBounds lo hi none n).2.2=1:=by
 refine⟨?_,?_,rfl⟩
 . cases lo with
   | none=>simp[sliceBounds,HT.sIx]
   | some i =>
     simp only[sliceBounds,HT.sIx,Option.getD_none,show (1:Int) > 0 by decide,if_true];by_cases h:i < 0
     . simp only[h,if_true]<;>lia
     simp only[h,if_false]<;>lia
 cases hi with
 | none=>simp[sliceBounds,HT.sIx]
 | some i =>
   simp only[sliceBounds,HT.sIx,Option.getD_none,show (1:Int) > 0 by decide,if_true];by_cases h:i < 0
   . simp only[h,if_true]<;>lia
   simp only[h,if_false]<;>lia
theorem qG9(its:List V')(lo hi:Option Int):slicePick its.toArray lo hi none=((its.drop (HT.sIx its.length 0 lo)).take (HT.sIx its.length its.length hi - HT.sIx its.length 0 lo)).toArray:=by
 obtain⟨a,b,c⟩:=qM7 lo hi its.toArray.size;unfold slicePick;rw[a,b,c];simp only[sliceRange_one,pick_run,zA5]<;>rfl
def rSlL(K:O0):V->Option Int->Option Int->Hp->VK->Prop:=λ x lo hi H Q=>∃ a xs,x=.ref a/\SqL K H a xs/\∀ p,H p=none->Q (.ref p) (upd H p (.l (Hg xs lo hi)))
theorem qar4:SlR X (rSlL X.K):=by
 intro Eo s N H x v t u e f w Q I i j k l h;obtain⟨a,c,rfl,m,q⟩:=h;cases i;obtain⟨n,r,g,p⟩:=I.list m;have d:=r.length;refine⟨"list",_,slot_list_getitem.lookup,g.isList.typeIs,?_⟩;refine wpAny_getItem_list_slice g.isList j k l .none (by simp) ?_ (by rw[zA5]<;>lia);rw[qG9,<- d];refine⟨.ref s.heap.objs.size,_,I.laid (t':=s.toks) (o:=.l (Hg c e f)) (λ b y q=>zA2 _ q) (zA3 _) ?_,rfl,q _ (I.hok.fresh (zA3 _))⟩;exact⟨zAd (qZ1 c e f) p,_,0,(r.drop (HT.sIx c.length 0 e)).take (HT.sIx c.length c.length f - HT.sIx c.length 0 e),zAy _ rfl⟩
noncomputable def flatV:V->Bool
 | .non=>true
 | .bl _=>true
 | .int _=>true
 | .str _=>true
 | _=>false
noncomputable def eqV:V->V->Bool
 | .non,.non=>true
 | .bl a,.bl b=>a == b
 | .bl a,.int b=>(if a then 1 else 0) == b
 | .int a,.bl b=>a == (if b then 1 else 0)
 | .int a,.int b=>a == b
 | .str a,.str b=>a == b
 | _,_=>false
theorem qaO6{A:L8}{s:δ}{y:V}{u v:V'}(e:P8 y u)(c:P8 x v)(g:flatV y=true)(f:flatV x=true):SeqAt.EqAt A s u v (eqV y x):=by
 cases y with
 | non =>
   cases e;cases x with
   | non=>cases c;exact SeqAt.EqAt.same _
   | bl b=>cases c;exact SeqAt.EqAt.none_bool b
   | int b=>obtain⟨t,rfl⟩:=c;exact SeqAt.EqAt.none_int b t
   | str b=>obtain⟨t,rfl⟩:=c;exact SeqAt.EqAt.none_str b t
   | _=>exact absurd (show false=true from f) zAk
 | bl a =>
   cases e;cases x with
   | non=>cases c;exact SeqAt.EqAt.bool_none a
   | bl b=>cases c;exact SeqAt.EqAt.bool_bool a b
   | int b=>obtain⟨t,rfl⟩:=c;exact SeqAt.EqAt.bool_int a b t
   | str b=>obtain⟨t,rfl⟩:=c;exact SeqAt.EqAt.bool_str a b t
   | _=>exact absurd (show false=true from f) zAk
 | int a =>
   obtain⟨d,rfl⟩:=e;cases x with
   | non=>cases c;exact SeqAt.EqAt.int_none a d
   | bl b=>cases c;exact SeqAt.EqAt.int_bool a d b
   | int b=>obtain⟨t,rfl⟩:=c;exact SeqAt.EqAt.int_int a d b t
   | str b=>obtain⟨t,rfl⟩:=c;exact SeqAt.EqAt.int_str a d b t
   | _=>exact absurd (show false=true from f) zAk
 | str a =>
   obtain⟨d,rfl⟩:=e;cases x with
   | non=>cases c;exact SeqAt.EqAt.str_none a d
   | bl b=>cases c;exact SeqAt.EqAt.str_bool a d b
   | int b=>obtain⟨t,rfl⟩:=c;exact SeqAt.EqAt.str_int a d b t
   | str b=>obtain⟨t,rfl⟩:=c;exact SeqAt.EqAt.str_str a d b t
   | _=>exact absurd (show false=true from f) zAk
 | _=>exact absurd (show false=true from g) zAk
def eqU(x:V)(u:V'):Bool:=match u with
 | .none=>eqV .non x
 | .bool b=>eqV (.bl b) x
 | .int i _=>eqV (.int i) x
 | .str z _=>eqV (.str z) x
 | _=>false
theorem qap1{y:V}{u:V'}(r:P8 y u)(f:flatV y=true):eqU x u=eqV y x:=by
 cases y with
 | non=>cases r;rfl
 | bl b=>cases r;rfl
 | int i=>obtain⟨t,rfl⟩:=r;rfl
 | str z=>obtain⟨t,rfl⟩:=r;rfl
 | _=>exact absurd (show false=true from f) zAk
theorem qL0{x:V}:∀{xs:List V}{us:List V'},P9 xs us->xs.all flatV=true->us.any (eqU x)=xs.any λ y=>eqV y x
 | _,_,.nil,_=>rfl
 | y::xs,u::us,.cons r t,f=>by
   rw[M5,zBe] at f;rw[zCk,zCk,qap1 r f.1,qL0 t f.2]
theorem qo1{A:L8}{s:δ}{x:V}{v:V'}(b:P8 x v)(c:flatV x=true):∀{xs:List V}{us:List V'},P9 xs us->xs.all flatV=true->∀ u∈us,SeqAt.EqAt A s u v (eqU x u)
 | _,_,.nil,_=>λ u a=>by cases a
 | y::xs,u::us,.cons r t,f=>λ d a=>by
   rw[M5,zBe] at f;rcases zAn.mp a with rfl | a
   . rw[qap1 r f.1];exact qaO6 r b f.1 c
   exact qo1 b c t f.2 d a
def inV(x:V)(xs:List V):Bool:=xs.any λ y=>eqV y x
def rIn(K:O0)(neg:Bool):R2:=λ x y H Q=>∃ p xs,y=.ref p/\(SqL K H p xs∨SqT K H p xs)/\flatV x=true/\xs.all flatV=true/\Q (.bl (if neg then !inV x xs else inV x xs)) H
theorem qS2:OpR X (Lh .In) (rIn X.K false):=by
 intro Eo s N H x y v u Q I f i h;obtain⟨p,k,rfl,b,g,c,q⟩:=h;cases i;rcases b with b | b
 . obtain⟨a,r,d,j⟩:=I.list b
   refine SeqAt.in_listAt (eqU x) d.isList (λ w e=>qo1 f g r c w (by simpa using e)) ⟨.bl _,H,I,rfl,?_⟩;rw[show a.toArray.any (eqU x)=a.any (eqU x) by simp,qL0 r c];exact q
 obtain⟨a,r,d,j⟩:=I.tuple b;refine SeqAt.in_tupleAt (eqU x) d (λ w e=>qo1 f g r c w (by simpa using e)) ⟨.bl _,H,I,rfl,?_⟩;rw[show a.toArray.any (eqU x)=a.any (eqU x) by simp,qL0 r c];exact q
theorem qy2:OpR X (Lh .NotIn) (rIn X.K true):=by
 intro Eo s N H x y v u Q I f i h;obtain⟨p,k,rfl,b,g,c,q⟩:=h;cases i;rcases b with b | b
 . obtain⟨a,r,d,j⟩:=I.list b
   refine SeqAt.notIn_listAt (eqU x) d.isList (λ w e=>qo1 f g r c w (by simpa using e)) ⟨.bl _,H,I,rfl,?_⟩;rw[show a.toArray.any (eqU x)=a.any (eqU x) by simp,qL0 r c];exact q
 obtain⟨a,r,d,j⟩:=I.tuple b;refine SeqAt.notIn_tupleAt (eqU x) d (λ w e=>qo1 f g r c w (by simpa using e)) ⟨.bl _,H,I,rfl,?_⟩;rw[show a.toArray.any (eqU x)=a.any (eqU x) by simp,qL0 r c];exact q
theorem qQ7:CallR X (.builtin "len") (λ xs H Q=>∃ p ys,xs=[.ref p]/\(SqL X.K H p ys∨SqT X.K H p ys)/\Q (.int ys.length) H):=by
 intro Eo s N H xs i Q I r h;obtain⟨p,ys,rfl,b,q⟩:=h;obtain⟨u,rfl,f⟩:=B9 r;cases f;have j:=qP5;rcases b with b | b
 . obtain⟨c,d,e,g⟩:=I.list b
   have a:=d.length;exact Calls.call_len_list e.isList (by simp only[zA5]<;>lia) ⟨.int ys.length,H,I.tok _,⟨s.toks+1,by rw[zA5,a]⟩,q⟩
 obtain⟨c,d,e,g⟩:=I.tuple b;have a:=d.length;exact len_tuple e (by simp only[zA5]<;>lia) ⟨.int ys.length,H,I.tok _,⟨s.toks+1,by rw[zA5,a]⟩,q⟩
theorem qQ6:CallR X (.builtin "len") (λ xs H Q=>∃ z,xs=[.str z]/\z.length<=Lg/\Q (.int z.length) H):=by
 intro Eo s N H xs a Q I r h;obtain⟨z,rfl,b,q⟩:=h;obtain⟨u,rfl,t,rfl⟩:=B9 r;have c:=qP5;exact len_str (by lia) ⟨.int z.length,H,I.tok _,⟨_,rfl⟩,q⟩
theorem CallR.or{f:V'}{r a:List V->Hp->VK->Prop}(h:CallR X f r)(h':CallR X f a):CallR X f (λ xs H Q=>r xs H Q∨a xs H Q):=by
 intro Eo s N H xs b Q I c q;rcases q with q | q
 . exact h Eo s N H xs b Q I c q
 exact h' Eo s N H xs b Q I c q
theorem qj9:CallR X (.type "list") (λ xs H Q=>∃ p ys,xs=[.ref p]/\(SqL X.K H p ys∨SqT X.K H p ys)/\∀ l,H l=none->Q (.ref l) (upd H l (.l ys))):=by
 intro Eo s N H xs A Q I r h;obtain⟨p,ys,rfl,g,q⟩:=h;obtain⟨u,rfl,z⟩:=B9 r;cases z;have fin:∀(a:List V'),P9 ys a->ys.length<=Lg->∀(c:Heap)(d:Nat),(∀ b y,s.heap.get? b=some y->c.get? b=some y) ->
     c.get? s.heap.objs.size=some { cls:=.type "list",dict:=none,data:=.seq a.toArray d,slots:=#[] }->EP X Eo N Q (.ref s.heap.objs.size) { s with heap:=c }:=λ a f i c d j e =>
   ⟨.ref s.heap.objs.size,_,I.laid (t':=s.toks) j (zA3 _) (show ObjOk X.prog X.w _ c _ (.l ys) from⟨i,a,d,f,e⟩),rfl,q _ (I.hok.fresh (zA3 _))⟩
 rcases g with g | g
 . obtain⟨a,f,m,i⟩:=I.list g
   have k:=f.length;obtain⟨o,t,v,n,x⟩:=m.isList;exact call_list_seq p (.inl rfl) t v x (λ c d j e=>fin a f i c d j e) (by simp only[zA5]<;>lia)
 obtain⟨a,f,m,i⟩:=I.tuple g;have k:=f.length;obtain⟨o,t,v,n,x⟩:=m;exact call_list_seq p (.inr rfl) t v x (λ c d j e=>fin a f i c d j e) (by simp only[zA5]<;>lia)
def tyV(K:O0)(T:String)(x:V)(H:Hp):Prop:=match x with
 | .str _=>T = "str"
 | .int _=>T = "int"
 | .ref p=>(T = "list" /\ ∃ xs,SqL K H p xs)∨(T = "tuple" /\ ∃ o,K.lookup p=some o/\o.cls=.type "tuple" /\ o.dict=none) ∨
     (T = "dict" /\ ((∃ kvs,H p=some (.dK kvs))∨∃ kvs,H p=some (.dT kvs)))∨(T = "set" /\ ∃ S n,H p=some (.set S n))
 | _=>False
theorem qaQ5{Eo:List (γ×Obj)}{N:St}{H:Hp}{s:δ}{T:String}{v:V'}(I:Qa X Eo N H s)(r:P8 x v)(ty:tyV X.K T x H) :
   s.TypeIs v T/\∀ a,v=.ref a->∃ ob,s.heap.get? a=some ob/\ob.dict=none:=by
 cases x with
 | str z =>
   obtain⟨t,rfl⟩:=r;cases (show T = "str" from ty);exact⟨typeIs_str s z t,λ _ e=>nomatch e⟩
 | int i =>
   obtain⟨t,rfl⟩:=r;cases (show T = "int" from ty);exact⟨typeIs_int s i t,λ _ e=>nomatch e⟩
 | ref p =>
   cases r;rcases ty with⟨rfl,xs,hq⟩ | ⟨rfl,o,hk,hc,d⟩ | ⟨rfl,hk⟩ | ⟨rfl,S,n,hk⟩
   . obtain⟨g,_,f,_⟩:=I.list hq
     refine⟨f.isList.typeIs,λ a e=>?_⟩;cases e;obtain⟨o,n,e,c,d,_⟩:=f;exact⟨o,e,d⟩
   . refine⟨⟨o,I.kIn p o hk,hc⟩,λ a e=>?_⟩
     cases e;exact⟨o,I.kIn _ o hk,d⟩
   . have z:∃ o,s.heap.get? p=some o/\o.ExactDict:=by
       rcases hk with⟨kvs,hk⟩ | ⟨kvs,hk⟩
       . obtain⟨_,_,_,_,o,_,_,e,b,_⟩:=I.hok p _ hk
         exact⟨o,e,b⟩
       obtain⟨_,_,_,_,o,_,_,e,b,_⟩:=I.hok p _ hk;exact⟨o,e,b⟩
     obtain⟨o,e,b⟩:=z;refine⟨⟨o,e,b.1⟩,λ a e2=>?_⟩;cases e2;exact⟨o,e,b.2.1⟩
   obtain⟨o,_,_,_,e,b,_⟩:=I.hok p _ hk;refine⟨⟨o,e,b.1⟩,λ a e2=>?_⟩;cases e2;exact⟨o,e,b.2.1⟩
 | _=>exact Py ty
def tBM(K:O0)(T:String)(r:V->List V->Hp->VK->Prop)(Y:TE)(t:TA):TE:=λ N H Q=>Y N H λ x H1=>tyV K T x H1/\t N H1 λ xs H2=>r x xs H2 Q
variable{o e:Ma}{U:List Ma}{Y:TE}{t:TA}{name:Str}{R O:Pos}{T Z:String}{r:V->List V->Hp->VK->Prop}
theorem Kb(g:PlainAttrs T)(slot:Slot T name Z)(b:typeOf (.builtin Z)=pure (.type "method_descriptor"))(hm:MtR X Z r)(i:PE X o Y)(j:PA X (e::U) t)(hbase:Ln o name X.env (eval o X.env)=eval o X.env:=by rfl)(a:((backTo O (Lf (e::U) X.env)).all (λ x=>!x.1)&&(backToKw O (Lu [] X.env)).all (λ x=>x.1.isSome)
     && decide ((e::U).length+([]:List Keyword).length+(if ([]:List Keyword).isEmpty then 0 else 1) < 30))=true:=by rfl)(hline:(R.endLine == O.line)=true:=by rfl)(k:Lf (e::U) X.env=(false,eval e X.env)::Lf U X.env:=by rfl)(hplain:(backTo O (Lf U X.env)).any (·.1)=false:=by rfl) :
   PE X (.Call (.Attribute o name R) (e::U) [] O) (tBM X.K T r Y t):=by
 intro Eo s N H Q I h;refine wpAny_Call_method_late hbase a hline rfl (thn (i Eo s N H _ I h) λ v l c=>?_);obtain⟨x,H1,I1,d,ty,m⟩:=c;obtain⟨n,p⟩:=qaQ5 I1 d ty;refine⟨T,Z,g,slot,b,n,p,?_⟩;have f:=j O Eo l N H1 _ I1 m;rw[k] at f ⊢;refine Calls.callWith_builtin (by show (false||(backTo O (Lf U X.env)).any (·.1))=false;rw[hplain]<;>rfl) (Calls.evalArgs_plain ?_);exact thn f λ q u ⟨w,H2,I2,y,q2⟩=>hm Eo u N H2 x w v q Q I2 d y q2
/- xs.append(e),list.index on a module's tuple .. are MtR facts of 06m -/
end
def MtM(X:Cx)(id:String)(r:V->List V->Hp->VK->Prop):Prop :=
 ∀(Eo:List (γ×Obj))(s:δ)(a:St)(H:Hp)(x:V)(xs:List V)(v:V')(us:List V')(Q:VK),Qa X Eo a H s->P8 x v->P9 xs us->r x xs H Q ->
   L5 (L6 X.prog X.w) X.A (call (.builtin id) (v::us)) (EP X Eo a Q) X.xe s
theorem P9.one{us:List V'}(h:P9 [x] us):∃ u,us=[u]/\P8 x u:=by
 cases h with
 | cons r t=>cases t;exact⟨_,rfl,r⟩
theorem P9.two{y:V}{us:List V'}(h:P9 [x,y] us):∃ u v,us=[u,v]/\P8 x u/\P8 y v:=by
 cases h with
 | cons r t =>
   cases t with
   | cons q t=>cases t;exact⟨_,_,rfl,r,q⟩
theorem P9.eraseIdx:∀{xs:List V}{us:List V'}(i:Nat),P9 xs us->P9 (xs.eraseIdx i) (us.eraseIdx i)
 | _,_,_,.nil=>.nil
 | _,_,0,.cons _ t=>t
 | _,_,i+1,.cons r t=>.cons r (P9.eraseIdx i t)
theorem P9.rep{xs:List V}{us:List V'}(h:P9 xs us):∀ k:Nat,P9 (Mr k xs).flatten (Mr k us).flatten
 | 0=>.nil
 | k+1=>by
   rw[zBp,zBp,zC8,zC8];exact P9.append h (P9.rep h k)
theorem qS6{α:Type}:∀(l:List α)(i:Nat),(l.eraseIdx i).length<=l.length
 | [],_=>zA3 _
 | _::_,0=>Nat.le_succ _
 | _::r,i+1=>zC1 (qS6 r i)
theorem qT7(its:List V'):∀(k:Nat)(acc:List V'),
   Na (λ a b=>a++b) acc.toArray (Mr k its.toArray)=(acc++(Mr k its).flatten).toArray
 | 0,acc=>by simp
 | k+1,acc=>by
   have e:acc.toArray++its.toArray=(acc++its).toArray:=by simp
   have e2:(acc++its)++(Mr k its).flatten=acc++(Mr (k+1) its).flatten:=by
     rw[zBp,zC8,zAr]
   rw[<- e2,<- qT7 its k (acc++its),<- e,zBp,N6]
section
variable{X:Cx}{k:List (γ×Obj)}{j:St}{H:Hp}{s:δ}{l:γ}{xs ys:List V}
theorem Qa.lset{its':List V'}{f:Array V'->Array V'}{t':Nat}(I:Qa X k j H s)(a:H l=some (.l xs))(e:s.heap.get? l=some { cls:=.type "list",data:=.seq its.toArray n })(b:f its.toArray=its'.toArray)(c:P9 ys its')(d:ys.length<=Lg) :
   Qa X k j (upd H l (.l ys)) { s with heap:=s.heap.update l (Obj.mapSeq f),toks:=t' }:=by
 have q:=PySem.IsL.update e f;rw[b] at q;refine I.write (x:=l) (e:=l) (by rw[a];exact trivial) (.inl rfl) (λ i u g h=>(zBh s.heap (Obj.mapSeq f) (Ne.symm g)).trans h) ⟨_,q⟩ ?_;exact⟨d,its',_,c,q⟩
theorem Qa.lnew{t':Nat}(I:Qa X k j H s)(a:P9 ys its)(b:ys.length<=Lg) :
   Qa X k j (upd H s.heap.objs.size (.l ys)) { s with heap:=s.heap.push { cls:=.type "list",data:=.seq its.toArray },toks:=t' } :=
 I.laid (λ _ _ q=>zA2 _ q) (zA3 _) ⟨b,its,0,a,zAy _ rfl⟩
theorem Qa.fresh(I:Qa X k j H s):H s.heap.objs.size=none:=I.hok.fresh (zA3 _)
theorem Qa.lstM(I:Qa X k j H s)(a:H l=some (.l xs)):xs.length<=Lg/\∃(its:List V')(n:Nat),P9 xs its/\xs.length=its.length/\s.heap.get? l=some { cls:=.type "list",data:=.seq its.toArray n }:=by
 obtain⟨z,its,n,r,e⟩:=I.hok l _ a;exact⟨z,its,n,r,r.length,e⟩
theorem qaA5(h:n<=Lg):Builtin.List.listTooLong n=false:=by
 unfold Builtin.List.listTooLong;exact zBj (by lia)
end
section
variable{X:Cx}
def qas3:V->List V->Hp->VK->Prop:=λ x vs H Q=>∃ l xs y,x=.ref l/\vs=[y]/\H l=some (.l xs)/\xs.length < Lg/\Q .non (upd H l (.l (xs++[y])))
theorem qd2:MtM X "list.append" qas3:=by
 intro Eo s L H x g v i Q I c d h;obtain⟨l,j,y,rfl,rfl,b,k,q⟩:=h;cases c;obtain⟨u,rfl,f⟩:=d.one;obtain⟨z,a,n,r,m,e⟩:=I.lstM b;refine Lx O3 ⟨_,e,rfl⟩ F.entry_list_append (F.args_list_append_2 _ _) (PySem.list_append l a.toArray n u (by rw[zA5];lia)) ⟨e,?_⟩;refine⟨.non,_,I.lset (its':=a++[u]) b e (by simp) (r.append (.cons f .nil)) ?_,rfl,q⟩;rw[zAe,Nn];lia
def qaH1:V->List V->Hp->VK->Prop:=λ x vs H Q=>∃ l xs i k y,x=.ref l/\vs=[.int i]/\H l=some (.l xs)/\-(2 ^ 63)<=i/\i < 2 ^ 63/\seqIndex? i xs.length=some k/\xs[k]? = some y/\Q y (upd H l (.l (xs.eraseIdx k)))
theorem qaA9:MtM X "list.pop" qaH1:=by
 intro Eo s L H x D v E Q I d f h;obtain⟨l,g,i,k,y,rfl,rfl,c,j,m,o,p,q⟩:=h;cases d;obtain⟨u,rfl,A⟩:=f.one;obtain⟨t,rfl⟩:=A;obtain⟨z,a,n,r,B,e⟩:=I.lstM c;obtain⟨w,C,b⟩:=r.get p;refine Lx Pm ⟨_,e,rfl⟩ F.entry_list_pop (F.args_list_pop_2 _ _)
   (MeetsSeq.list_pop_at l a.toArray n i t k w (fitsIndex_both j m) (by rw[zA5,<- B];exact o) (by rw[<- Array.getElem?_toList];exact C) (by rw[zA5];lia)) ⟨e,?_⟩
 refine⟨y,_,I.lset (its':=a.eraseIdx k) c e ?_ (r.eraseIdx k) ?_,b,q⟩
 . show a.toArray.eraseIdxIfInBounds k=(a.eraseIdx k).toArray
   rw[List.eraseIdxIfInBounds_toArray]
 have:=qS6 g k
 lia
def rCat:R2:=λ x y H Q=>∃ l b xs a,x=.ref l/\y=.ref b/\H l=some (.l xs)/\H b=some (.l a)/\xs.length+a.length<=Lg/\∀ p,H p=none->Q (.ref p) (upd H p (.l (xs++a)))
theorem qaU0:OpR X (Lz .Add) rCat:=by
 intro Eo s L H x y v u Q I c d h;obtain⟨l,b,m,o,rfl,rfl,f,g,p,q⟩:=h;cases c;cases d;obtain⟨z,a,n,r,t,e⟩:=I.lstM f;obtain⟨w,its2,A,i,j,e2⟩:=I.lstM g;refine PySem.P.add_list e e2 ?_ (by rw[zA5,zA5];lia);have k:a.toArray++its2.toArray=(a++its2).toArray:=by simp
 rw[k];exact⟨.ref _,_,I.lnew (t':=s.toks) (r.append i) (by rw[zAe];lia),rfl,q _ I.fresh⟩
def rRep:R2:=λ x y H Q=>∃ l k xs,x=.ref l/\y=.int k/\H l=some (.l xs)/\-(2 ^ 63)<=k/\k < 2 ^ 63/\xs.length * k.toNat<=Lg /\
 ∀ p,H p=none->Q (.ref p) (upd H p (.l (Mr k.toNat xs).flatten))
theorem qaM2(xs:List α)(k:Nat):(Mr k xs).flatten.length=k * xs.length:=by
 induction k with
 | zero=>simp
 | succ k a=>rw[zBp,zC8,zAe,a,Nat.succ_mul,Nat.add_comm]
theorem qaT3:OpR X (Lz .Mult) rRep:=by
 intro Eo s L H x y v u Q I p w h;obtain⟨l,k,J,rfl,rfl,A,B,C,o,q⟩:=h;cases p;obtain⟨t,rfl⟩:=w;obtain⟨z,b,n,r,D,e⟩:=I.lstM A;have c:b.toArray.size * k.toNat<=Lg:=by rw[zA5,<- D];exact o
 have d:¬ b.toArray.size * k.toNat > (2 ^ 63 - 1) / 8:=by
   have:(Lg:Nat)<=(2 ^ 63 - 1) / 8:=by decide
   lia
 have f:¬ (!Builtin.List.listFitsIndex k)=true:=by
   rw[fitsIndex_both B C];exact zAk
 have hlong:¬ Builtin.List.listTooLong (b.toArray.size * k.toNat)=true:=by
   rw[qaA5 c];exact zAk
 have g:Na (λ i j=>i++j) #[] (Mr (if b.toArray.isEmpty=true then 0 else k.toNat) b.toArray)=(Mr k.toNat b).flatten.toArray:=by
   have E:∀ m:Nat,Na (λ i j=>i++j) #[] (Mr m b.toArray)=(Mr m b).flatten.toArray:=λ m=>by
     have:=qT7 b m []
     rw[zBi] at this;exact this
   rw[E];cases b with
   | nil=>simp
   | cons a K=>rw[if_neg (by simp)]
 refine wpAny_binaryOp_repeat_ref (T := "list") (U := "int") (by decide) ⟨_,e,rfl⟩ (λ G=>typeIs_int G k t) noFill_list_mul F.fills_int_mul Pn repeat_list F.slot_int_index.lookup
   (Lx Pn (typeIs_int s k t) F.entry_int_rmul (F.args_int_rmul_2 _ _) (int___rmul___int_list k t l b.toArray n)
     ⟨e,rfl,⟨_,e,rfl⟩,Lx F.slot_list_mul ⟨_,e,rfl⟩ F.entry_list_mul (F.args_list_mul_2 _ _) (AutoListH.list___mul___list_int_3 l b.toArray n k t f d hlong) ⟨e,?_⟩⟩)
 rw[g];exact⟨.ref _,_,I.lnew (t':=s.toks) (r.rep k.toNat) (by rw[qaM2,Nat.mul_comm];exact o),rfl,q _ I.fresh⟩
end
section
variable{f:Type}[DecidableEq f]
noncomputable def Gb(kvs:List (f×V))(k:f):Option V:=(kvs.find? λ a=>decide (a.1=k)).map (·.2)
noncomputable def putK(kvs:List (f×V))(k:f)(v:V):List (f×V) :=
 if (kvs.any λ a=>decide (a.1=k))=true then kvs.map (λ a=>if a.1=k then (a.1,v) else a) else kvs++[(k,v)]
theorem qL6{p:f×V}{r:List (f×V)}{k:f}(e:p.1=k):Gb (p::r) k=some p.2:=by simp[Gb,zBx,e]
theorem qL7{p:f×V}{r:List (f×V)}{k:f}(e:¬ p.1=k):Gb (p::r) k=Gb r k:=by simp[Gb,zBx,e]
theorem qY7(kvs:List (f×V))(k:f)(v:V):(putK kvs k v).length<=kvs.length+1:=by
 unfold putK;split
 . rw[zAf];lia
 rw[zAe,zAm,zCj];lia
theorem RelO.getD{o:Option V}{u:Option V'}{d:V}{d':V'}(r:RelO o u)(a:P8 d d'):P8 (o.getD d) (u.getD d'):=by
 cases o with
 | none=>cases u with
   | none=>exact a
   | some _=>exact(show False from r).elim
 | some _=>cases u with
   | none=>exact(show False from r).elim
   | some _=>exact r
theorem KV.val{kvs:List (f×V)}{vs:List (f×V')}(r:KV kvs vs)(k:f):RelO (Gb kvs k) (valueAt vs k):=by
 unfold KV at r
 induction r with
 | nil=>exact True.intro
 | @cons p q ps qs h t ih =>
   obtain⟨c,d⟩:=h;by_cases e:p.1=k
   . have a:q.1=k:=c.symm.trans e
     have b:valueAt (q::qs) k=some q.2:=by simp[valueAt,zBx,a]
     rw[qL6 e,b];exact d
   have a:¬ q.1=k:=λ z=>e (c.trans z)
   have b:valueAt (q::qs) k=valueAt qs k:=by simp[valueAt,zBx,a]
   rw[qL7 e,b];exact ih
theorem KV.any{kvs:List (f×V)}{vs:List (f×V')}(r:KV kvs vs)(k:f):(kvs.any λ a=>decide (a.1=k))=vs.any λ a=>decide (a.1=k):=by
 unfold KV at r
 induction r with
 | nil=>rfl
 | cons h t b=>rw[zCk,zCk,b,h.1]
theorem KV.repl{kvs:List (f×V)}{vs:List (f×V')}(r:KV kvs vs)(k:f){y:V}{u:V'}(c:P8 y u) :
   KV (kvs.map λ a=>if a.1=k then (a.1,y) else a) (vs.map λ a=>if a.1=k then (a.1,u) else a):=by
 unfold KV at r ⊢
 induction r with
 | nil=>exact .nil
 | @cons p q ps qs h t ih =>
   rw[zAx,zAx];refine .cons ?_ ih;obtain⟨b,d⟩:=h;by_cases e:p.1=k
   . rw[if_pos e,if_pos (b.symm.trans e)];exact⟨b,c⟩
   rw[if_neg e,if_neg (λ z=>e (b.trans z))];exact⟨b,d⟩
theorem KV.put{kvs:List (f×V)}{vs:List (f×V')}(r:KV kvs vs)(k:f){y:V}{u:V'}(a:P8 y u):KV (putK kvs k y) (stored vs k u):=by
 unfold putK stored;rw[r.any k];by_cases e:(vs.any λ b=>decide (b.1=k))=true
 . rw[if_pos e,if_pos e];exact r.repl k a
 rw[if_neg e,if_neg e];exact Paired.snoc r ⟨rfl,a⟩
theorem KV.length{kvs:List (f×V)}{vs:List (f×V')}(r:KV kvs vs):kvs.length=vs.length:=Paired.length r
end
theorem Kc{P:L7}{w:L9}{k:Key}{u:V'}(r:P8 (kV k) u):(qf9 P w).is k u=true:=by
 cases k with
 | inl i=>obtain⟨t,e⟩:=(show ∃ t,u=On i t from r);subst e;exact qY5 P w i t
 | inr x=>obtain⟨t,e⟩:=(show ∃ t,u=Op x t from r);subst e;exact qY4 P w x t
theorem qS9{P:L7}{w:L9}:∀{ks:List Key}{us:List V'},P9 (ks.map kV) us->ItemsAre (qf9 P w) ks us
 | [],_,r=>by rw[Nu] at r;cases r;exact .nil
 | k::ks,_,r=>by
   rw[zAx] at r;cases r with
   | cons h t=>exact .cons (Kc h) (qS9 t)
abbrev KT(H:Hp):List (List Key×V)->List (List Key×γ×V')->Prop:=Paired λ p q=>p.1=q.1/\H q.2.1=some (.q (p.1.map kV))/\P8 p.2 q.2.2
theorem KT.val{H:Hp}{kvs:List (List Key×V)}{xs:List (List Key×γ×V')}(r:KT H kvs xs)(k:List Key):RelO (Gb kvs k) ((atKey xs k).map (·.2)):=by
 induction r with
 | nil=>exact True.intro
 | @cons p q ps qs h t ih =>
   obtain⟨c,_,d⟩:=h;by_cases e:p.1=k
   . have a:q.1=k:=c.symm.trans e
     have b:atKey (q::qs) k=some q.2:=by simp[atKey,zBx,a]
     rw[qL6 e,b];exact d
   have a:¬ q.1=k:=λ z=>e (c.trans z)
   have b:atKey (q::qs) k=atKey qs k:=by simp[atKey,zBx,a]
   rw[qL7 e,b];exact ih
section
variable{P:L7}{w:L9}{H:Hp}{h:Heap}{a:γ}
theorem rd_of{u:HO}(b:HOk P w H h)(e:Rd H a u):ObjOk P w H h a u:=e.ok b
theorem Kd{kvs:List (Key×V)}(b:HOk P w H h)(e:Rd H a (.dK kvs)):kvs.length<=Lg/\(a == Ls)=false/\∃ vs,KV kvs vs/\h.DictOf (qf9 P w) a vs :=
 show ObjOk P w H h a (.dK kvs) from rd_of b e
theorem qaM8{ks:List Key}(c:HOk P w H h)(e:H a=some (.q (ks.map kV))):(tupleKind (qf9 P w)).is h ks a:=by
 obtain⟨_,b,r,o,d,f,n,g⟩:=(show ObjOk P w H h a (.q (ks.map kV)) from c a _ e)
 exact⟨o,b.toArray,n,d,f,g,by simpa using qS9 r⟩
theorem dt_rd{kvs:List (List Key×V)}(c:HOk P w H h)(e:Rd H a (.dT kvs)):kvs.length<=Lg/\(a == Ls)=false /\
   ∃ xs,KT H kvs xs/\h.DictOfH (tupleKind (qf9 P w)) a xs:=by
 obtain⟨z,y,xs,r,o,d,f,g,i,j,k,n⟩:=(show ObjOk P w H h a (.dT kvs) from rd_of c e)
 refine⟨z,y,xs,r,o,d,f,g,i,j,k,λ x b=>?_,n⟩;have all:∀{l:List (List Key×V)}{m:List (List Key×γ×V')},KT H l m->∀ x∈m,(tupleKind (qf9 P w)).is h x.1 x.2.1:=by
   intro l m q
   induction q with
   | nil=>intro x b;exact nomatch b
   | @cons p q ps qs hq t ih =>
     intro x b;rcases zAn.mp b with e | b
     . subst e
       exact qaM8 c (by rw[<- hq.1];exact hq.2.1)
     exact ih x b
 exact all r x b
end
def DGet(H:Hp)(a:γ)(y:V)(r:Option V):Prop :=
 (∃ kvs k,Rd H a (.dK kvs)/\y=kV k/\r=Gb kvs k)∨∃ kvs k b,Rd H a (.dT kvs)/\y=.ref b/\H b=some (.q (k.map kV))/\r=Gb kvs k
section
variable{X:Cx}{b:List (γ×Obj)}{a:St}{H:Hp}{s:δ}
theorem Qa.big(I:Qa X b a H s):Ls < s.heap.objs.size:=by
 have h:Lq < s.heap.objs.size:=(I.mod.glob.keeps I.bk).lt;exact Nat.lt_trans (by decide) h
end
section
variable{X:Cx}{i:List (γ×Obj)}{f:St}{H:Hp}{s:δ}{a:γ}{g:List (Key×V)}{A:L8}{E:V'->δ->Prop}
theorem d_len{Q:V'->δ->Prop}(I:Qa X i f H s)(e:Rd H a (.dK g))(h:∀ t s',Qa X i f H s'->Q (.int g.length t) s'):L5 (L6 X.prog X.w) A (call (.builtin "len") [.ref a]) Q E s:=by
 obtain⟨z,b,d,rel,c⟩:=Kd I.hok e;refine call_len_dict b c (by rw[<- rel.length];rw[Lp] at z;lia) ?_;rw[<- rel.length];exact h _ _ (I.tok _)
end
def qB0(kvs more:List (Key×V)):List (Key×V):=more.foldl (λ acc a=>putK acc a.1 a.2) kvs
theorem qt7:∀(more kvs:List (Key×V)),(qB0 kvs more).length<=kvs.length+more.length
 | [],kvs=>by show kvs.length<=kvs.length+0;lia
 | p::r,kvs=>by
   have a:=qt7 r (putK kvs p.1 p.2);have b:=qY7 kvs p.1 p.2;show (qB0 (putK kvs p.1 p.2) r).length<=_;rw[zAm];lia
structure M2(X:Cx)(o:Ma)(m:Str)(apos:Pos)(e f:Ma)(cpos:Pos):Prop where
 base:Ln o m X.env (eval o X.env)=eval o X.env
 few:((backTo cpos (Lf [e,f] X.env)).all (λ x=>!x.1)&&(backToKw cpos (Lu [] X.env)).all (λ x=>x.1.isSome)
   && decide (([e,f]:List Ma).length+([]:List Keyword).length+(if ([]:List Keyword).isEmpty then 0 else 1) < 30))=true
 line:(apos.endLine == cpos.line)=true
 trees:backTo cpos (Lf [e,f] X.env)=[(false,eval e X.env),(false,eval f X.env)]
def IsD(H:Hp)(a:γ):Prop:=(∃ kvs,Rd H a (.dK kvs))∨∃ kvs,Rd H a (.dT kvs)
theorem qaV6{X:Cx}{Eo:List (γ×Obj)}{k:St}{H:Hp}{s:δ}{a:γ}(I:Qa X Eo k H s)(d:IsD H a) :
   s.TypeIs (.ref a) "dict" /\ (∀ b,Oj a=.ref b->∃ ob,s.heap.get? b=some ob/\ob.dict=none)/\(a == Ls)=false:=by
 rcases d with⟨kvs,e⟩ | ⟨kvs,e⟩
 . obtain⟨_,f,i,_,c⟩:=Kd I.hok e
   refine⟨c.typeIs,λ b q=>?_,f⟩;cases q;obtain⟨ob,_,_,g,h,_⟩:=c;exact⟨ob,g,h.2.1⟩
 obtain⟨_,f,j,_,c⟩:=dt_rd I.hok e;refine⟨c.typeIs,λ b q=>?_,f⟩;cases q;obtain⟨ob,_,_,g,h,_⟩:=c;exact⟨ob,g,h.2.1⟩
section
variable{X:Cx}{v:List (γ×Obj)}{t:St}{H:Hp}{s:δ}{a:γ}{y d:V}{u r:V'}{o:Option V}{A:L8}{E:V'->δ->Prop}
theorem qaX1{Q:V'->δ->Prop}(n:A.units+1 < cLine)(I:Qa X v t H s)(g:DGet H a y o)(i:P8 y u)(j:P8 d r)(h:∀ m s',Qa X v t H s'->P8 (o.getD d) m->Q m s') :
   L5 (L6 X.prog X.w) A (call (.builtin "dict.get") [.ref a,u,r]) Q E s:=by
 rcases g with⟨kvs,k,e,ey,l⟩ | ⟨kvs,k,b,e,ey,eb,l⟩
 . subst ey
   obtain⟨z,f,q,rel,c⟩:=Kd I.hok e;refine call_meetsIn O9 c.typeIs Ph (Pg _ _ _) (meets_dict_get_default (qf9 X.prog X.w) a (Kc i) f r) ⟨_,c.mapOf,h _ _ (I.tok _) ?_⟩;rw[l];exact(rel.val k).getD j
 subst ey;cases (show u=Oj b from i);obtain⟨z,f,p,rel,c⟩:=dt_rd I.hok e;refine call_meetsIn O9 c.typeIs Ph (Pg _ _ _) (meetsH_dict_get_default (tupleKind (qf9 X.prog X.w)) a b f r) ⟨tupleKind_room_in1 n,k,p,qaM8 I.hok eb,c,h _ _ (I.tok _) ?_⟩;rw[l];exact(rel.val k).getD j
end
def qaR0(td ty tx:TE):TE:=λ b H Q=>td b H λ x H1=>∃ a,x=.ref a/\IsD H1 a/\ty b H1 λ y H2=>tx b H2 λ z H3=>∃ o,DGet H3 a y o/\Q (o.getD z) H3
section
variable{X:Cx}{o e f:Ma}{N M:Pos}{S O R:TE}
theorem qaz5(i:X.A.units+1 < cLine)(j:PE X o S)(k:PE X e O)(l:PE X f R)(m:M2 X o "get" N e f M):PE X (.Call (.Attribute o "get" N) [e,f] [] M) (qaR0 S O R):=by
 intro Eo s L H Q I h;refine wpAny_Call_method m.base m.few m.line F.plainAttrs_dict O9 F.type_dict_get (thn (j Eo s L H _ I h) λ u n b=>?_);obtain⟨x,H1,I1,p,a,q,d,r⟩:=b;subst q;obtain rfl:u=Oj a:=p;obtain⟨t1,t2,_⟩:=qaV6 I1 d;refine⟨t1,t2,?_⟩;rw[m.trees];refine Calls.callWith_builtin rfl (Calls.evalArgs_plain (Calls.spliced_cons (thn (k Eo n L H1 _ I1 r) λ C t ⟨y,H2,I2,v,q2⟩ =>
   Calls.spliced_cons (thn (l Eo t L H2 _ I2 q2) λ D E ⟨z,H3,I3,w,G,g,B⟩=>Calls.spliced_nil ?_))))
 exact qaX1 i I3 g v w λ J K I4 c=>⟨_,H3,I4,c,B⟩
end
end L2
namespace Att
open PySem PySem.W PySem.Calls PyProof.Rows
theorem qB5{P:Params}{h:Heap}:∀(ns:List Int)(vs:List V'),WellAll P h vs (ns.map WData.int)->IntsAre vs ns:=by
 intro ns
 induction ns with
 | nil =>
   intro vs w;rw[Nu] at w;cases w;exact .nil
 | cons n ns c =>
   intro vs w;rw[zAx] at w;cases w with
   | cons a b =>
     cases a;exact .cons _ _ (c _ b)
theorem qal3{l:OpenLaw}{n:Nat}(m:l.most=some n){P:Params}{h:Heap}{args:List WData}{vals:List V'}(b:l.row.toRowW.claim.pre args=true)(i:WellAll P h vals args) :
   ∃ a vs ns,vals=[Oj a]/\args=[WData.list (ns.map WData.int)]/\h.get? a=some { cls:=.type "list",data:=.seq vs.toArray }/\IntsAre vs ns/\ns.length<=n:=by
 have j:WShape.hasAll [] args [.list .int]=true:=(pre_splitW b).1;have k:l.pre.holds [] { args:=args }=true:=(pre_splitW b).2;obtain⟨d,r,rfl,o,p⟩:=hasAllW_cons j;obtain rfl:=hasAllW_nil p;obtain⟨x,rfl,s⟩:=hasW_list o;obtain⟨ns,rfl⟩:=items_int s;have c:ns.length<=n:=by
   unfold OpenLaw.pre at k;have f:(WTm.not (.lt (.lit (.int (n:Int))) (.len (.arg 0)))).holds [] { args:=[.list (ns.map .int)] }=true:=by
     have f:=(holds_andW k).1;rw[m] at f;exact f
   have g:=condW_of f (w_not (w_lt w_lit (w_len_list (w_arg rfl))));rw[zAf] at g;refine zC0 λ q=>?_
   have t:(n:Int) < ((ns.length:Nat):Int):=by lia
   first
     | (rw[zAq t] at g;exact absurd g (by decide))
     | (simp at g;lia)
 cases i with
 | cons u v =>
   cases v;cases u with
   | list w e=>exact⟨_,_,ns,rfl,rfl,w,qB5 ns _ e,c⟩
theorem qal8(l:OpenLaw)(args:List WData):l.row.toRowW.claim.post args (.bool true) args=true :=
 postW_of (r:=l.row.toRowW) (X:=(true == true))
   (show WShape.has [] (.bool true) .bool=true by first | rfl | decide | simp[WShape.has,WShape.arms,WShape.armsAll])
   (show (WTm.eq .res (.lit (.bool true))).value [] { args:=args,res:=some (.bool true),after:=args }=some (.bool (true == true)) from w_eq_bool (w_res rfl) w_lit) rfl
theorem qZ4{l:OpenLaw}{n:Nat}{q:L7}{loose:List Str}{XP:(Str->Option V')->Heap->Prop}{YP:L9->Heap->Prop}{d:DefRec}(u:l.most=some n)(h:d.params.defaults=[])(call:∀(w:L9)(s₀ s₁:δ)(mg i:Str->Option V')(fa:γ)(o:Obj)(j cd b:V')(a:γ)(vs:List V')(ns:List Int),
     Ground q loose [] XP w s₀ mg i s₁.heap->YP w s₁.heap ->
     s₁.heap.get? fa=some o->o.data=.func (docDef d.name d.params d.body d.scope j cd b)->s₁.heap.CodeRec cd d.name->mg d.name=some (.ref fa) ->
     s₁.heap.get? a=some { cls:=.type "list",data:=.seq vs.toArray }->IntsAre vs ns->ns.length<=n->s₁.gens = #[] ->
     codeAny (L6 l.prog w) callerA (.call (.ref fa) ⟨[.ref a],[]⟩) (λ r s'=>r=.ok (.ret (.bool true))/\OldK s₁.heap s'.heap/\s'.os=s₁.os/\AllBare s'.gens) s₁) :
   WalkO q loose XP YP l.row.toRowW d [] (λ f vs=>PySem.call f vs):=by
 intro w s₀ s₁ mg i G Y fa o j cd b v kV x y k s m z args vals I c t A p B;obtain rfl:v=.none:=Dflts.none s h;obtain rfl:kV=.none:=Dflts.noKw s;obtain⟨a,vs,ns,rfl,rfl,e,hints,g⟩:=qal3 u c p;refine enter_call (codeAny_mono (call w s₀ s₁ mg i fa o j cd b a vs ns G Y x (fd_plain y) k m e hints g z) λ r s' C=>?_);obtain⟨rfl,D,E,F⟩:=C;exact⟨.inl ⟨.bool true,.bool true,[],rfl,λ _=>rfl,.bool true,qal8 l _,λ _=>⟨List.Pairwise.nil,λ _ H=>(nomatch H)⟩⟩,D,E,F⟩
end Att
namespace L2
open PySem PySem.Spec PyProof.Rows
theorem qR2:∀{vs:List V'}{ns:List Int},IntsAre vs ns->P9 (ns.map V.int) vs
 | _,_,.nil=>.nil
 | _,_,.cons n t h=>.cons ⟨t,rfl⟩ (qR2 h)
def Only(H:Hp):Prop:=∀ b,H b=none∨∃ o xs,H b=some (.frz o (.l xs))
theorem qaB5{P:L7}{w:L9}{K:O0}{mg C:Str->Option V'}{CX:CXT}{k:Nat}{fa a:γ}{fd:ε}{x:Str}{sp:Sp}{s₁:δ}{vs:List V'}{ns:List Int}(KX:K.In s₁.heap)(g:s₁.heap.Ns Lq mg)(c:s₁.heap.Ns builtinsNs C)(D:∀ x:Str,x ≠ "__name__" -> C x=Ll x)(i:s₁.heap.NoLimit)(T:s₁.gens = #[])(B:s₁.heap.get? a=some { cls:=.type "list",data:=.seq vs.toArray })(hi:IntsAre vs ns)(M:ns.length<=Lg)(U:Room k callerA)(F:∀ base:Heap,K.In base->base.Ns Lq mg->Ga P w K mg base CX k fa fd [x] sp)(hbind:∀(s:δ)(u:V'),BindsTo s fd ⟨[u],[]⟩ [(x,u)])(E:∀ H:Hp,Only H->SqL K H a (ns.map V.int)->sp [.ref a] H (λ v _=>v=.bl true) λ _ _ _=>False)(G:∀ H e s',CX [] H s₁ (λ _ _ _=>False) e s'->False) :
   codeAny (L6 P w) callerA (.call (.ref fa) ⟨[.ref a],[]⟩) (λ r s'=>r=.ok (.ret (.bool true))/\OldK s₁.heap s'.heap/\s'.os=s₁.os/\AllBare s'.gens) s₁:=by
 have N:=qR2 hi;have lenV:=hi.length;have core:∀ H:Hp,Only H->SqL K H a (ns.map V.int)->HOk P w H s₁.heap->(∀ b,H b≠none->b=a)->(H a≠none->K.lookup a=none) ->
     codeAny (L6 P w) callerA (.call (.ref fa) ⟨[.ref a],[]⟩) (λ r s'=>r=.ok (.ret (.bool true))/\OldK s₁.heap s'.heap/\s'.os=s₁.os/\AllBare s'.gens) s₁:=by
   intro H O X j Q Y;have base_of:∀{b:γ}{o:Obj},s₁.heap.get? b=some o->H b=none->(G6 s₁.heap H).get? b=some o:=λ e n=>qaC4 e n
   have I:∀{b:γ}{o:Obj}{l:Array DictEntry}{p:Nat},s₁.heap.get? b=some o->o.data=.dict l p->H b=none:=λ{b o l p} e d=>by
     cases q:H b with
     | none=>rfl
     | some u =>
       have J:b=a:=Q b (by rw[q];simp);subst J;rw[B] at e;cases e;have Z:Data.seq vs.toArray _=Data.dict l p:=d;cases Z
   have f:∀{b:γ}{m:Str->Option V'},s₁.heap.Ns b m->(G6 s₁.heap H).Ns b m:=λ{b m} ⟨o,l,p,e,d,r⟩=>⟨o,l,p,base_of e (I e d),d,r⟩
   have t:K.In (G6 s₁.heap H):=λ b o e=>base_of (KX b o e) (by
     cases q:H b with
     | none=>rfl
     | some u =>
       have J:b=a:=Q b (by rw[q];simp);subst J;rw[Y (by rw[q];simp)] at e;cases e)
   have hM:Mod K mg (G6 s₁.heap H):=⟨t,f g,⟨C,f c,D⟩,let ⟨mc,h1,h2⟩:=i;⟨mc,f h1,h2⟩⟩
   have e0:Env0 P w K mg (G6 s₁.heap H) callerA [] s₁ H:=⟨rfl,hM,λ b o e=>qaL1 e,zCe (qan7 _ _),trivial,λ b c=>absurd (show b∈([]:List γ) from c) (by simp),j,.of_eq T⟩
   refine codeAny_mono ((F _ t (f g)).run callerA [] s₁ H ⟨[.ref a],[]⟩ [.ref a] [.ref a] _ _ U e0 (hbind s₁ (.ref a)) (.cons rfl .nil) (E H O X)) λ r s' h=>?_
   cases r with
   | error e=>exact(G H e s' h).elim
   | ok fl =>
     cases fl with
     | next=>exact Py h
     | brk=>exact Py h
     | cont=>exact Py h
     | ret u =>
       obtain⟨v,H',os,bare,R,y,r',q⟩:=h;have q':v=.bl true:=q;subst q';obtain rfl:u=Oo true:=r';refine⟨rfl,OldK.of_keep λ b o e=>?_,os,bare⟩;cases q:H b with
       | none=>exact R.keep b o e q (by intro z;exact absurd (show b∈([]:List γ) from z) (by simp)) (by simp)
       | some u =>
         rcases O b with z | ⟨ob,xs,z⟩
         . rw[q] at z;cases z
         have z2:=R.frzs b ob _ z;obtain⟨S,_⟩:=j b _ z;obtain⟨e2,_⟩:=y b _ z2;rw[e] at S;cases S;exact e2
 cases L:K.lookup a with
 | some o =>
   have e:=KX a o L;rw[B] at e;cases e;refine core (λ _=>none) (λ _=>.inl rfl) (.inr ⟨_,vs.toArray,_,L,rfl,rfl,rfl,by rw[zA5,lenV];exact M,by simpa using N⟩) (λ b u z=>by have A:(none:Option HO)=some u:=z;cases A) (λ b z=>absurd rfl z) λ z=>absurd rfl z
 | none =>
   refine core (λ b=>if b=a then some (.frz { cls:=.type "list",data:=.seq vs.toArray } (.l (ns.map V.int))) else none) (λ b=>?_) (.inl (.inr ⟨{ cls:=.type "list",data:=.seq vs.toArray },if_pos rfl⟩)) (λ b u z=>?_) (λ b z=>?_) λ _=>L
   . by_cases c:b=a
     . exact .inr ⟨_,_,if_pos c⟩
     exact .inl (if_neg c)
   . by_cases c:b=a
     . have A:=(if_pos c).symm.trans z
       cases A;subst c;exact⟨B,by rw[zAf];exact M,vs,_,N,B⟩
     have A:=(if_neg c).symm.trans z;cases A
   by_cases c:b=a
   . exact c
   exact absurd (if_neg c) z
theorem qaE9{l:W.OpenLaw}{n k:Nat}{q:L7}{loose:List Str}{XP:(Str->Option V')->Heap->Prop}{YP:L9->Heap->Prop}{d:DefRec}{K:Params->O0}{CX:L9->CXT}{sp:L9->Sp}{x:Str}(y:l.most=some n)(j:n<=Lg)(m:d.params.defaults=[])(z:Room k callerA)(A:∀(w:L9)(h:Heap),YP w h->(K w.params).In h)(F:∀(w:L9)(mg:Str->Option V')(fa:γ)(h:Heap),(K w.params).In h->h.Ns Lq mg->mg d.name=some (.ref fa) ->
     ∃ fd:ε,(∀(s:δ)(u:V'),BindsTo s fd ⟨[u],[]⟩ [(x,u)]) /\
       ∀ base:Heap,(K w.params).In base->base.Ns Lq mg->Ga l.prog w (K w.params) mg base (CX w) k fa fd [x] (sp w))(p:∀(w:L9)(H:Hp)(a:γ)(ns:List Int),ns.length<=n->Only H->SqL (K w.params) H a (ns.map V.int)->sp w [.ref a] H (λ v _=>v=.bl true) λ _ _ _=>False)(r:∀(w:L9)(H:Hp)(s:δ)(e:V')(s':δ),CX w [] H s (λ _ _ _=>False) e s'->False) :
   W.WalkO q loose XP YP l.row.toRowW d [] (λ f vs=>PySem.call f vs):=by
 refine Att.qZ4 y m λ w s₀ s₁ mg M fa o N O B a vs ns G Y P Q C t i hints c D=>?_
 have KX:=A w _ Y;obtain⟨fd,E,I⟩:=F w mg fa _ KX G.T.g t;exact qaB5 KX G.T.g G.T.b G.T.builtins G.T.nolimit D i hints (zAd c j) z I E (λ H J L=>p w H a ns c J L) λ H e s'=>r w H s₁ e s'
end L2
/- THE LAST THEOREM (shape;LID,My.* are yours):
  My.Adr: a structure of the addresses that your layer names (classes,functions);My.Txt K t: a structure (Prop) of the equations over K;
  My.txt_mk:{K} {implicit addresses ..} (e1:nsIn K Lq "law" = some (some (.ref f))) (e2:K.lookup f=some ⟨oc,od,.func (fnOf "law" "law" params body scope dV kV doc pm an cdv ct),sl⟩) (e3:codeIn K cdv "law" = true) .. : ∃ t,My.Txt K t
(the tactic k_is has no namespace: write k_is) -/
namespace L2
open PySem PySem.Spec PyProof.Rows
variable{f:γ}{qual x:Str}{st:Mb}
noncomputable def qi7(s:Mb)(j:Nat):Mb:=match s with
 | .ClassDef _ _ _ body _ _ _ _ _ _ _=>body.getD j (.Pass ⟨0,0,0,0⟩)
 | _=>.Pass ⟨0,0,0,0⟩
noncomputable def qe7(s:Mb):Arguments:=match s with
 | .FunctionDef _ a _ _ _ _ _ _ _ _=>a
 | _=>{ posonlyargs:=[],args:=[],vararg:=none,kwonlyargs:=[],kw_defaults:=[],kwarg:=none,defaults:=[] }
noncomputable def qc9(s:Mb):List Mb:=match s with
 | .FunctionDef _ _ b _ _ _ _ _ _ _=>b
 | _=>[]
noncomputable def qa3(s:Mb):Scope:=match s with
 | .FunctionDef _ _ _ _ _ _ sc _ _ _=>sc
 | _=>{ kind:=.function,names:=[],isGenerator:=false,isCoroutine:=false }
abbrev CX0:CXT:=λ _ _ _ _ _ _=>False
abbrev E0:XK:=λ _ _ _=>False
theorem pass0{X:Cx}:qL2 CX0 X (λ _=>E0):=λ _ _ _ _ _ _ _ h=>h.elim
structure Fun(K:O0)(x qual:Str)(st:Mb)(f:γ)(fd:ε):Prop where
 ex:∃(oc:V')(od:Option γ)(kV doc pm:V')(an:Option γ)(cdv ct:V')(osl:Array (Option V')),
   fd=W.fnOf x qual (qe7 st) (qc9 st) (qa3 st) .none kV doc pm an cdv ct/\K.lookup f=some ⟨oc,od,.func fd,osl⟩/\W.codeIn K cdv qual=true
 kp:W.keepIn K (.ref f)=true
section
variable{P:L7}{w:L9}{K:O0}{p:Str->Option V'}{base:Heap}
theorem Fun.ok{fd:ε}{N ps:List Str}{k:Nat}{sp:Sp}(F:Fun K x qual st f fd)(S:qa8 N ps (qa3 st))(len:∀ vs H Q E,sp vs H Q E->vs.length=ps.length)(hbody:∀(a:V')(A:L8)(outer:List Env)(s:δ)(H:Hp)(vs:List V)(Q:VK)(E:XK),Room k (A.deeper (envOfC qual (qa3 st) s.heap.objs.size f a))->sp vs H Q E ->
     ∃ t,PSs (Fi true CX0 P w K p base N qual (qa3 st) f a A outer s H E).nox (qc9 st) t/\t { nx:=λ _ H'=>Q .non H',rt:=Q } (start N vs) H):Ga P w K p base CX0 (k+1) f fd ps sp:=by
 obtain⟨j,l,kV,d,m,n,a,o,e,rfl,g,b⟩:=F.ex;refine J1 g b S len λ A outer s H vs Q E i c=>?_
 obtain⟨t,h,q⟩:=hbody a A outer s H vs Q E i c;exact⟨t,h.nox,q⟩
theorem Fun.binds{fd:ε}{ps:List Str}(F:Fun K x qual st f fd)(h:∀(kV a c:V')(d:Option γ)(b e:V')(us:List V'),us.length=ps.length->bindArgs (W.fnOf x qual (qe7 st) (qc9 st) (qa3 st) .none kV a c d b e) ⟨us,[]⟩=pure (ps.zip us)):Binds K fd ps []:=by
 obtain⟨j,k,kV,a,c,d,b,e,g,rfl,l,i⟩:=F.ex;exact .all (h kV a c d b e)
theorem qao0{oc:V'}{od e:Option γ}{d:Array (Option V')}{kV b g a h:V'}(l:K.lookup f=some ⟨oc,od,.func (W.fnOf x qual (qe7 st) (qc9 st) (qa3 st) .none kV b g e a h),d⟩)(c:W.codeIn K a qual=true)(k:W.keepIn K (.ref f)=true):Fun K x qual st f (W.fnOf x qual (qe7 st) (qc9 st) (qa3 st) .none kV b g e a h):=⟨⟨oc,od,kV,b,g,e,a,h,d,rfl,l,c⟩,k⟩
end
theorem hu_of{A:L8}{k:Nat}(a:Room k A):A.units+1 < cLine:=zC4 (Nat.add_le_add_left (by decide:1<=64) _) a.units
theorem qal2{n:Nat}(h:n<=1000):n < Lg:=zC4 h (by decide)
section
variable{X:Cx}
theorem pv(i:Nat){pos:Pos}(b:X.N[i]? = some x:=by rfl)(c:Vis X.env.scope x:=by first | exact P0 rfl | exact Pz (P0 rfl) | exact Pz (Pz rfl))(d:N' x:=by decide)(a:(x == ("__classdict__" : Str))=false:=by decide):PE X (.Name x pos) (G7 i):=qs3 b c d a
theorem qaq4:CallR X (.builtin "len") (λ xs H Q=>∃ a kvs,xs=[V.ref a]/\H a=some (.dK kvs)/\Q (.int kvs.length) H):=by
 intro Eo s f H xs d Q I r h;obtain⟨a,kvs,rfl,b,q⟩:=h;obtain⟨u,rfl,c⟩:=B9 r;cases c;exact d_len I (.inl b) λ t e I'=>⟨.int kvs.length,H,I',⟨t,rfl⟩,q⟩
end
def Same(H H':Hp):Prop:=∀ b o,H b=some o->H' b=some o
theorem Same.trans{H H1 H2:Hp}(a:Same H H1)(b:Same H1 H2):Same H H2:=λ c o h=>b c o (a c o h)
end L2
set_option maxHeartbeats 4000000
namespace L2
open PySem PySem.Spec PyProof.Rows
variable{H:Hp}{a:γ}{e:Ma}{es:List Ma}{i:Int}{p:Pos}{t:TA}{x:Str}{xs:List V}{α:Type}
theorem Jf{t:Sem α}{Q Q':α->δ->Prop}{M:Model}{A:L8}{E:V'->δ->Prop}{s:δ}(h:L5 M A t Q (λ _ _=>False) s)(b:∀ a s,Q a s->Q' a s):L5 M A t Q' E s :=
 Lv h b λ _ _ x=>x.elim
noncomputable def Gc(env:Env):List (Str×NameKind)->List (Str×γ)->List (Str×γ)
 | [],acc=>acc
 | (n,k)::r,acc=>Gc env r (if k == Pw then (n,(env.cells.lookup n).getD 0)::acc else acc)
theorem qz7{env:Env}:∀(l:List (Str×NameKind))(acc:List (Str×γ)),(∀ x∈l,x.2=Pw->∃ c,env.cells.lookup x.1=some c) ->
   (forIn l acc λ(x:Str×NameKind)(r:List (Str×γ)) =>
     (match x with
     | (name,kind)=>if (kind == Pw)=true then (do let c <- cellOf env name;pure (ForInStep.yield ((name,c)::r)):Sem (ForInStep (List (Str×γ)))) else pure (ForInStep.yield r)))=(pure (Gc env l acc):Sem _)
 | [],acc,_=>rfl
 | (n,k)::r,acc,h=>by
   rw[List.forIn_cons];by_cases a:(k == Pw)=true
   . obtain⟨c,b⟩:=h (n,k) zAa (by simpa using a)
     have b:env.cells.lookup n=some c:=b;dsimp only;rw[if_pos a];have e:cellOf env n=pure c:=by unfold cellOf;rw[b]
     rw[e];show (forIn r ((n,c)::acc) _:Sem _)=_;rw[qz7 r ((n,c)::acc) λ x d=>h x (zA6 _ d)];show _=(pure (Gc env r (if (k == Pw)=true then (n,(env.cells.lookup n).getD 0)::acc else acc)):Sem _)
     rw[if_pos a,b];rfl
   dsimp only;rw[if_neg a];show (forIn r acc _:Sem _)=_;rw[qz7 r acc λ x d=>h x (zA6 _ d)];show _=(pure (Gc env r (if (k == Pw)=true then (n,(env.cells.lookup n).getD 0)::acc else acc)):Sem _)
   rw[if_neg a]
theorem qK6{env:Env}{sc:Scope}(h:∀ x∈sc.names,x.2=Pw->∃ c,env.cells.lookup x.1=some c):closureFor sc env=pure (Gc env sc.names []):=by
 unfold closureFor;show (forIn sc.names [] _ >>= _)=_
 have:=qz7 (env:=env) sc.names [] h
 rw[show (forIn sc.names ([]:List (Str×γ)) _:Sem _)=pure (Gc env sc.names []) from this];rfl
theorem qah9{env:Env}:∀(l:List (Str×NameKind))(acc:List (Str×γ))(x:Str)(c:γ),(x,c)∈Gc env l acc->(x,c)∈acc∨((x,Pw)∈l/\c=(env.cells.lookup x).getD 0)
 | [],acc,x,c,h=>.inl h
 | (n,k)::r,acc,x,c,h=>by
   rcases qah9 r _ x c h with h | ⟨h,e⟩
   . by_cases a:(k == Pw)=true
     . rw[if_pos a] at h
       rcases zAn.mp h with h | h
       . cases h
         exact .inr ⟨by rw[show k=Pw by simpa using a];exact zAa,rfl⟩
       exact .inl h
     rw[if_neg a] at h;exact .inl h
   exact .inr ⟨zA6 _ h,e⟩
theorem qai0{env:Env}:∀(l:List (Str×NameKind))(acc:List (Str×γ))(x:Str),(∃ c,(x,c)∈acc)->∃ c,(x,c)∈Gc env l acc
 | [],acc,x,h=>h
 | (n,k)::r,acc,x,⟨c,h⟩=>qai0 r _ x ⟨c,by split;exact zA6 _ h;exact h⟩
theorem qQ5{env:Env}:∀(l:List (Str×NameKind))(acc:List (Str×γ))(x:Str),(x,Pw)∈l->∃ c,(x,c)∈Gc env l acc
 | [],acc,x,h=>by simp at h
 | (n,k)::r,acc,x,h=>by
   rcases zAn.mp h with h | h
   . cases h
     exact qai0 r _ _ ⟨_,by rw[if_pos (by rfl)];exact zAa⟩
   exact qQ5 r _ x h
theorem qy9{α:Type}:∀{l:List (Str×α)}{x:Str},(∃ c,(x,c)∈l)->∃ c,l.lookup x=some c
 | [],x,⟨c,h⟩=>by simp at h
 | (n,a)::r,x,⟨c,h⟩=>by
   cases b:x == n with
   | true=>exact⟨a,by simp only[zAu,b]⟩
   | false =>
     rcases zAn.mp h with h | h
     . cases h;simp at b
     obtain⟨d,e⟩:=qy9 ⟨c,h⟩;exact⟨d,by simp only[zAu,b];exact e⟩
noncomputable def Es(a:St)(src:List (Option Nat)):St:=src.map λ o=>match o with | none=>none | some j=>(a[j]?).getD none
noncomputable def qu9(X:Cx)(NY:List Str)(src:List (Option Nat))(sc:Scope):Bool :=
 (sc.kind == .function)&&(src.length == NY.length) &&
 (sc.names.all λ x=>x.2 != .cell&&(x.2 != .local||sc.names.lookup x.1 == some .local)&&(x.2 != .free||(X.env.scope.names.lookup x.1 == some .cell||X.env.scope.names.lookup x.1 == some .free))) &&
 ((NY.zip src).all λ p=>match p.2 with | none=>true | some j=>X.N[j]? == some p.1&&sc.names.lookup p.1 == some .free)
def qi8(X:Cx)(NY:List Str)(sc:Scope)(C:γ)(a:δ)(H0:Hp)(ex:List γ):Cx where
 prog:=X.prog
 w:=X.w
 K:=X.K
 mg:=X.mg
 base:=X.base
 A:=X.A
 N:=NY
 s₀:=a
 H₀:=H0
 env:=compEnvC sc (Gc X.env sc.names []) C X.env
 outer:=X.stack
 stack:=X.stack
 ex:=ex
 fn:=λ _=>false
 calm:=X.calm
 pn:=[]
 xe:=λ _ _=>False
def PFs(X:Cx)(ifs:List Ma)(t:TT):Prop :=
 ∀(Eo:List (γ×Obj))(s:δ)(b:St)(H:Hp)(Q:Bool->Hp->Prop),Qa X Eo b H s->t b H Q ->
   L5 (L6 X.prog X.w) X.A (forIn ifs true λ c r=>if r=true then do let a <- isTrue c X.env (eval c X.env);pure (ForInStep.yield a) else pure (ForInStep.yield r)) (TP X Eo b Q) X.xe s
def tYes:TT:=λ _ H Q=>Q true H
theorem qaI9{X:Cx}:PFs X [] tYes:=λ _ _ _ H _ I h=>wpAny_tests_nil ⟨H,I,h⟩
theorem qaS5{X:Cx}{c:Ma}{t:TT}(h:PT X c t):PFs X [c] t:=λ Eo s a H Q I q=>wpAny_tests_one (h Eo s a H Q I q)
theorem qo7{prog:L7}{w:L9}{A:L8}{R:Result->δ->Prop}{s:δ}{elt target iter:Ma}{ifs:List Ma}{scope:Scope}{pos:Pos}{it acc:V'}{env:Env}(I:Nat->δ->Prop)(turn:∀ n s,I n s->L5 (L6 prog w) A (pyNext it) (λ r s₁=>match r with
     | none=>R (.ok .next) s₁
     | some v=>L5 (L6 prog w) A (letOwnedTupleGo target it v) (λ _ s₁'=>L5 (L6 prog w) A (assign target env v) (λ _ s₂ =>
         L5 (L6 prog w) A (forIn ifs true λ c r=>if r=true then do let a <- isTrue c env (eval c env);pure (ForInStep.yield a) else pure (ForInStep.yield r)) (λ a s₃ =>
           if a=true then L5 (L6 prog w) A (eval elt env) (λ x s₄ =>
             L5 (L6 prog w) A (call (.builtin "list.append") [acc,x]) (λ _ s₅=>∃ m,m < n/\I m s₅) (λ _ _=>False) s₄) (λ _ _=>False) s₃
           else ∃ m,m < n/\I m s₃) (λ _ _=>False) s₂) (λ _ _=>False) s₁') (λ _ _=>False) s₁) (λ _ _=>False) s)(n:Nat)(h:I n s) :
   codeAny (L6 prog w) A (.compLoop (.ListComp elt [⟨target,iter,ifs,0⟩] scope pos) 0 it acc env) R s:=by
 refine codeAny_loop rfl I (λ n s b=>?_) n h;show L5 _ A ((compTurn (.ListComp elt [⟨target,iter,ifs,0⟩] scope pos) 0 it acc env).onRaise (λ x=>do noteFrame x env;theTreesLotGoes x)) _ _ s;refine wpAny_noted ?_;rw[compTurn_list];refine G' (wpAny_standAt (G' (Jf (turn n s b) λ r s₁ h₁=>?_)));cases r with
 | none=>exact Ld h₁
 | some v =>
   refine G' (Jf h₁ λ _ s₁' h₁'=>?_);refine G' (Jf h₁' λ _ s₂ h₂=>G' (Jf h₂ λ a s₃ h₃=>?_));cases a with
   | false=>exact Ld ⟨rfl,h₃⟩
   | true =>
     exact G' (G' (Jf h₃ λ x s₄ h₄=>G' (Jf h₄ λ _ s₅ h₅=>Ld (Ld ⟨rfl,h₅⟩))))
def qv7(J:It)(g:TG)(tf:TT)(te:TE)(D:γ)(R:Hp->Prop)(σ0:St)(H0:Hp):Prop :=
 ∃ W:Nat->Nat->St->Hp->Prop,(∃ m,W 0 m σ0 H0)/\∀ i m c H,W i m c H ->
   (J.stop i H/\R H)∨(J.go i H/\∃ N:St->Hp->Prop,(∀ c' H',N c' H'->∃ a,a < m/\W (i+1) a c' H')/\∀ x H',J.yld i H x H'->g x c H' λ σ2 H2=>tf σ2 H2 λ b H3 =>
     if b=true then te σ2 H3 λ v H4=>∃ xs,H4 D=some (.l xs)/\xs.length < Lg/\N σ2 (upd H4 D (.l (xs++[v]))) else N σ2 H3)
theorem qp8{env:Env}{x:Str}:∀{names:List (Str×NameKind)},(∀ y∈names,y.2≠.cell) ->
   ((names.map λ (n,k)=>if (k == Pw&&env.scope.kind == .function&&env.kindOf n == some .cell) then (n,Px) else (n,k)).lookup x=some .cell ∨
    (names.map λ (n,k)=>if (k == Pw&&env.scope.kind == .function&&env.kindOf n == some .cell) then (n,Px) else (n,k)).lookup x=some .free)->names.lookup x=some .free
 | [],_,h=>by simp at h
 | (n,k)::r,hc,h=>by
   have c:=@qp8 env x r λ y d=>hc y (zA6 _ d)
   have e:k≠.cell:=hc (n,k) zAa;simp only[zAx] at h;cases b:x == n with
   | true =>
     simp only[zAu,b];by_cases a:(k == Pw&&env.scope.kind == .function&&env.kindOf n == some .cell)=true
     . have:k=Pw:=by
         simp only[zBe,zBl] at a;exact a.1.1
       rw[this]
     rw[if_neg a] at h;simp only[zAu,b] at h;rcases h with h | h
     . exact absurd (Oy h) e
     exact h
   | false =>
     simp only[zAu,b];apply c;by_cases a:(k == Pw&&env.scope.kind == .function&&env.kindOf n == some .cell)=true
     . rw[if_pos a] at h
       simpa only[zAu,b] using h
     rw[if_neg a] at h;simpa only[zAu,b] using h
theorem qh4{env:Env}{x:Str}:∀{names:List (Str×NameKind)},names.lookup x=some .free ->
   ((names.map λ (n,k)=>if (k == Pw&&env.scope.kind == .function&&env.kindOf n == some .cell) then (n,Px) else (n,k)).lookup x=some .cell ∨
    (names.map λ (n,k)=>if (k == Pw&&env.scope.kind == .function&&env.kindOf n == some .cell) then (n,Px) else (n,k)).lookup x=some .free)
 | [],h=>by simp at h
 | (n,k)::r,h=>by
   have c:=@qh4 env x r;simp only[zAx];cases a:x == n with
   | true =>
     simp only[zAu,a] at h;have h:k=.free:=Oy h;by_cases b:(k == Pw&&env.scope.kind == .function&&env.kindOf n == some .cell)=true
     . rw[if_pos b];simp only[zAu,a];exact .inl trivial
     rw[if_neg b];simp only[zAu,a];rw[h];exact .inr rfl
   | false =>
     simp only[zAu,a] at h;by_cases b:(k == Pw&&env.scope.kind == .function&&env.kindOf n == some .cell)=true
     . rw[if_pos b];simp only[zAu,a];exact c h
     rw[if_neg b];simp only[zAu,a];exact c h
section
variable{X:Cx}{Eo:List (γ×Obj)}{σ:St}{H2:Hp}{s2:δ}{elt tg iter:Ma}{ifs:List Ma}{sc:Scope}{pos:Pos}{NY:List Str}{src:List (Option Nat)}{J:It}{fp:List γ}{it:γ}{tn:Nat->Heap->Prop}{g:TG}{tf:TT}{te:TE}
theorem qV1{R:γ->Hp->Prop}{E:V'->δ->Prop}{RR:V'->γ->Result->δ->Prop}(ck:qu9 X NY src sc=true)(hc:X.calm=true)(I2:Qa X Eo σ H2 s2)(T:Jv X.prog X.w X.K tg J fp it tn)(I:tn 0 s2.heap)(f2:∀ b∈fp,G8 X Eo H2 b)(hg:∀ C P H0,PG (qi8 X NY sc C P H0 fp) tg g)(hf:∀ C P H0,PFs (qi8 X NY sc C P H0 fp) ifs tf)(he:∀ C P H0,PE (qi8 X NY sc C P H0 fp) elt te)(rd:∀ D,H2 D=none->qv7 J g tf te D (R D) (Es σ src) (upd H2 D (.l [])))(fin:∀ D C H' s',Qa X Eo σ H' s'->R D H'->H' C=none->X.s₀.heap.objs.size<=C->C≠X.env.locals->(∀ x c,X.env.cells.lookup x=some c->c≠C)->(∀ p∈X.pn++Eo,p.1≠C)->C∉X.fs->(∃ m,s'.heap.Ns C m)->RR (.ref D) C (.ok .next) s') :
   L5 (L6 X.prog X.w) X.A (newList []) (λ acc s₃=>L5 (L6 X.prog X.w) X.A (newFunctionEnv sc X.env.globals (Gc X.env sc.names []) [] X.env.qual none .none (some X.env)) (λ cenv s₄ =>
     codeAny (L6 X.prog X.w) X.A (.compStart (.ListComp elt [⟨tg,iter,ifs,0⟩] sc pos) 0 (.ref it) acc { cenv with scope:=relabel sc X.env }) (RR acc cenv.locals) s₄) E s₃) E s2:=by
 unfold qu9 at ck;simp only[zBe,zBl,zBd] at ck;obtain⟨⟨⟨hkind,G⟩,Q⟩,S⟩:=ck;have hcell:∀ y∈sc.names,y.2≠.cell:=λ y U e=>by
   have:=(Q y U).1.1
   rw[e] at this;exact absurd this (by decide)
 have hfree:∀ y∈sc.names,y.2=.free->(X.env.kindOf y.1=some .cell∨X.env.kindOf y.1=some .free):=λ y U e=>by
   have:=(Q y U).2
   rw[e] at this;show X.env.scope.names.lookup y.1=some .cell∨X.env.scope.names.lookup y.1=some .free;simpa using this
 have clsub:∀ x c,(Gc X.env sc.names []).lookup x=some c->X.env.cells.lookup x=some c:=λ x c e=>by
   rcases qah9 _ _ x c (PySem.mem_of_lookup e) with h | ⟨h,q⟩
   . simp at h
   obtain⟨d,M⟩:=I2.ok.has x (hfree _ h rfl);rw[M] at q;rw[M,q];rfl
 refine wpAny_newObj_type (wpAny_newFunctionEnv hcell (by intro y U;simp at U) (λ h₁ hns₁ hsb₁=>?_) hkind);dsimp only at hns₁ hsb₁ ⊢;have I3:=I2.lnew (ys:=[]) (its:=[]) (t':=s2.toks) .nil (zBk _);have hD:H2 s2.heap.objs.size=none:=I2.fresh;generalize t:s2.heap.objs.size=D at hns₁ hsb₁ I3 hD ⊢;generalize V:s2.heap.push { cls:=.type "list",dict:=none,data:=.seq ([]:List V').toArray }=h3 at hns₁ hsb₁ I3 ⊢;have Z:h3.objs.size=D+1:=by rw[<- V,Heap.size_push,t]
 generalize s:h3.objs.size=C at hns₁ hsb₁ Z ⊢;have I3:Qa X Eo σ (upd H2 D (.l [])) { s2 with heap:=h3,toks:=s2.toks }:=I3;have B:∀ b o,h3.get? b=some o->h₁.get? b=some o:=λ b o e=>hsb₁.extBut b o (by rw[<- s];exact zAj (zA7 e)) (zA2 _ e)
 have a0:∀ b o,h3.get? b=some o->b≠C:=λ b o e=>by rw[<- s];exact zAj (zA7 e)
 have a1:X.env.locals≠C:=by rw[<- s];exact zAj I3.lt
 have b0:∀ x c,X.env.cells.lookup x=some c->c≠C:=λ x c e=>by
   obtain⟨v,o,F,_⟩:=I3.cell x c e;exact a0 c o F
 have a2:∀ b∈fp,b≠C:=λ b f=>by
   obtain⟨o,F,_⟩:=T.obj _ _ I b f
   have:=zA7 F
   rw[t] at this;exact zAj (Nat.lt_trans this (by rw[Z];exact Nat.lt_succ_self _))
 have b1:∀ b∈fp,b≠D:=λ b f=>by
   obtain⟨o,F,_⟩:=T.obj _ _ I b f
   have:=zA7 F
   rw[t] at this;exact zAj this
 have a3:∀ b o,s2.heap.get? b=some o->h3.get? b=some o:=λ b o e=>by rw[<- V];exact zA2 _ e
 have pinC:∀ p∈X.pn++Eo,p.1≠C:=λ p hp=>a0 _ _ (I3.pin p hp).1
 have a4:C∉X.fs:=by rw[<- s];exact I3.nofs (zA3 _)
 have b2:X.s₀.heap.objs.size<=C:=by rw[<- s];exact I3.sz
 have stkC:∀ b∈frs X.stack,b≠C:=λ b f e=>by
   rcases zAn.mp (I3.stkSub b f) with z | z
   . exact a1 (z.symm.trans e)
   exact a4 (e ▸ z)
 have HC:upd H2 D (.l []) C=none:=I3.hok.fresh (by show h3.objs.size<=C;exact zCe s);have a5:∀ b∈fp,b∉frs X.stack:=λ b f z=>by
   obtain⟨_,h1,h2,_⟩:=f2 b f;rcases zAn.mp (I2.stkSub b z) with q | q
   . exact h1 q
   exact h2 q
 let Y:Cx:=qi8 X NY sc C { s2 with heap:=h3 } (upd H2 D (.l [])) fp
 have a6:(Es σ src).length=NY.length:=by unfold Es;rw[zAf];exact G
 have IY:Qa Y [] (Es σ src) (upd H2 D (.l [])) { s2 with heap:=h₁,toks:=s2.toks+0 }:=by
   refine⟨⟨I2.ok.mod,hkind,I2.ok.glob,I2.ok.blt,(by show h3.objs.size<=C;exact zCe s),λ x y c h1 h2=>I2.ok.inj x y c (clsub x c h1) (clsub y c h2),λ x hx=>?_,λ _ _ z _=>(zAk z).elim,I2.ok.hd,I2.ok.frames,.inl rfl,λ b f=>⟨a2 b f,λ x c e=>(f2 b f).2.2.2.2.1 x c (clsub x c e)⟩,
     λ b o e=>?_,?_,λ b o e f=>?_,λ b f=>a5 b f,?_,λ b f=>?_⟩,rfl,I2.bare,Un.kept B,⟨_,hns₁,λ i x v e1 e2 e3=>?_⟩,λ x c e=>?_,HC,λ x c e=>I3.freeC x c (clsub x c e),λ p hp=>absurd (show p∈([]:List (γ×Obj)) from hp) (by simp),I3.hok.kept B,a6⟩
   . have hx:=qp8 hcell hx
     exact qy9 (qQ5 _ _ _ (PySem.mem_of_lookup hx))
   . exact I3.bs b o e
   . exact zAd I2.ok.bsz (zAd (zAd I2.sz (by rw[t];exact zA3 _)) (by show D<=h3.objs.size;lia))
   . rcases (f2 b f).2.2.2.1 with z | z
     . exact I2.ok.noex b o e z
     exact absurd (zA8 (zA7 (I2.ok.bs b o e).1) z) (zC3 _)
   . exact I3.stack
   . exact I3.stkFree b f
   . -- a captured name
     have hi:i < src.length:=by
       have:=(zA4.mp e2).1
       rw[a6,<- G] at this;exact this
     have e1:NY[i]? = some x:=e1;have es:src[i]? = some src[i]:=by simp[hi]
     have ep:(Es σ src)[i]? = some (match src[i] with | none=>none | some j=>(σ[j]?).getD none):=by
       unfold Es;rw[zB8,es];rfl
     rw[ep] at e2;cases hj:src[i] with
     | none=>rw[hj] at e2;cases e2
     | some j =>
       rw[hj] at e2;have e2:(σ[j]?).getD none=some v:=Oy e2;have ej:σ[j]? = some (some v):=by
         cases q:σ[j]? with
         | none=>rw[q] at e2;cases e2
         | some o=>rw[q] at e2;rw[show o=some v from e2]
       have hm:(x,some j)∈NY.zip src:=by
         have:(NY.zip src)[i]? = some (x,some j):=by
           rw[List.getElem?_zip_eq_some];exact⟨e1,by rw[es,hj]⟩
         exact zB0 this
       have q:=S _ hm;simp only[zBe,zBl] at q;obtain⟨qN,qf⟩:=q;have H:=hfree _ (PySem.mem_of_lookup qf) rfl;obtain⟨m,hn,hl⟩:=I3.loc;obtain⟨u,r,l⟩:=hl j x v qN ej (H.elim (λ z=>.inr (.inl z)) λ z=>.inr (.inr z));refine⟨u,r,.inr ⟨qh4 qf,?_⟩⟩;rcases l with⟨z,_⟩ | ⟨_,c,ec,o,F,M⟩
       . have H:X.env.kindOf x=some .cell∨X.env.kindOf x=some .free:=H
         rw[z] at H;rcases H with H | H<;>cases H
       obtain⟨c',a7⟩:=qy9 (qQ5 (env:=X.env) sc.names [] x (PySem.mem_of_lookup qf))
       have:=clsub x c' a7
       rw[ec] at this;cases this;exact⟨c,a7,o,B c o F,M⟩
   obtain⟨v,o,F,M⟩:=I3.cell x c (clsub x c e);exact⟨v,o,B c o F,M⟩
 have st₁:tn 0 h₁:=T.keep _ _ _ I λ b f o e=>B b o (a3 b o e)
 have stat:∀{H':Hp},(∀ b∈fp,H' b=none)->∀ b∈fp,G8 Y [] H' b:=λ hn b f=>by
   refine⟨hn b f,a2 b f,a5 b f,.inl f,λ x c e=>(f2 b f).2.2.2.2.1 x c (clsub x c e),λ p hp=>absurd (show p∈([]:List (γ×Obj)) from hp) (by simp)⟩
 have loop:codeAny (L6 X.prog X.w) X.A (.compLoop (.ListComp elt [⟨tg,iter,ifs,0⟩] sc pos) 0 (.ref it) (.ref D) Y.env) (RR (.ref D) C) { s2 with heap:=h₁,toks:=s2.toks+0 }:=by
   obtain⟨W,⟨m0,w0⟩,turn⟩:=rd D hD;refine qo7 (λ n s'=>∃ i σ' H',Qa Y [] σ' H' s'/\tn i s'.heap/\(∀ b∈fp,H' b=none)/\W i n σ' H') ?_ m0 ⟨0,_,_,IY,st₁,λ b f=>by rw[qb5 (b1 b f)];exact(f2 b f).1,w0⟩;rintro n s3 ⟨i,σ3,H3,J3,a8,a9,w3⟩;rcases turn i n σ3 H3 w3 with⟨stop,qn⟩ | ⟨go,N,hN,step⟩
   . refine thn (T.done Y rfl rfl rfl hc i [] s3 σ3 H3 _ J3 (stat a9) a8 stop) λ r s4 k=>?_
     obtain⟨hr,J4⟩:=k;subst hr;have b3:H3 C=none:=J4.free;refine fin D C H3 s4 ?_ qn b3 b2 (Ne.symm a1) b0 pinC a4 (let ⟨m,hn,_⟩:=J4.loc;⟨m,hn⟩);refine I2.call' (ch:=fp) J4.os ?_ J4.hok J4.bare λ b f=>?_
     . have u1:Un (frs X.stack) fp H2 (upd H2 D (.l [])) s2.heap h3:=Un.laid a3 (zCe t) hD
       exact u1.trans J4.base
     obtain⟨_,h1,_,b4,h4,h5⟩:=f2 b f;exact⟨b4,h1,h4,h5⟩
   refine thn (T.item Y rfl rfl rfl hc i [] s3 σ3 H3 _ J3 (stat a9) a8 go) λ r s4 k=>?_
   obtain⟨u,hr,h4⟩:=k;subst hr;refine thn h4 λ _ s5 k=>?_
   obtain⟨x,H5,J5,r5,y5,L,b5⟩:=k;have J5':=J5.pinned (stat b5) (T.obj _ _ L);have again:∀{σ7:St}{H7:Hp}{O:δ},Qa Y ([]++Jw fp s5.heap) σ7 H7 O->N σ7 H7->∃ m,m < n/\∃ i σ' H',Qa Y [] σ' H' O/\tn i O.heap/\(∀ b∈fp,H' b=none)/\W i m σ' H':=λ{σ7 H7 O} I7 n7=>by
     obtain⟨m',hm,w7⟩:=hN σ7 H7 n7;refine⟨m',hm,i+1,σ7,H7,I7.unpinned,T.keep _ _ _ L λ b f o e=>(I7.pin (b,o) (zAv _ (zAv _ (qp6 f e)))).1,λ b f=>?_,w7⟩;obtain⟨o,e,d⟩:=T.obj _ _ L b f;exact(I7.pin (b,o) (zAv _ (zAv _ (qp6 f e)))).2.1
   refine thn (hg C _ _ _ s5 σ3 H5 x u _ J5' r5 (step x H5 y5)) λ _ s6 k=>?_
   obtain⟨σ6,H6,J6,q6⟩:=k;refine thn (hf C _ _ _ s6 σ6 H6 _ J6 q6) λ ok O k=>?_
   obtain⟨H7,J7,q7⟩:=k;cases ok with
   | false=>exact again J7 (by simpa using q7)
   | true =>
     rw[if_pos rfl] at q7 ⊢;refine thn (he C _ _ _ O σ6 H7 _ J7 q7) λ y s8 k=>?_
     obtain⟨v,H8,J8,r8,xs,b6,b7,q8⟩:=k;refine thn (qd2 (X:=Y) _ s8 σ6 H8 (.ref D) [v] (.ref D) [y] (λ _ H'=>N σ6 H') J8 rfl (.cons r8 .nil) ⟨D,xs,v,rfl,rfl,b6,b7,q8⟩) λ _ s9 k=>?_
     obtain⟨_,H9,J9,_,q9⟩:=k;exact again J9 q9
 exact codeAny_compStart_list loop (T.self _ 0 _ _ _ st₁ loop)
end
def Fj(wi:TI)(src:List (Option Nat))(g:TG)(tf:TT)(te:TE):TE:=λ a H Q=>wi a H λ J H1=>∀ D,H1 D=none->qv7 J g tf te D (λ H'=>Q (.ref D) H') (Es a src) (upd H1 D (.l []))
section
variable{X:Cx}{elt tg iter:Ma}{ifs:List Ma}{sc:Scope}{pos:Pos}{NY:List Str}{src:List (Option Nat)}{wi:TI}{g:TG}{tf:TT}{te:TE}
theorem qK5(b:qu9 X NY src sc=true):sc.kind=.function/\(∀ y∈sc.names,y.2=.local->sc.names.lookup y.1=some .local)/\(∀ y∈sc.names,y.2=.free->(X.env.kindOf y.1=some .cell∨X.env.kindOf y.1=some .free)):=by
 unfold qu9 at b;simp only[zBe,zBl,zBd] at b;obtain⟨⟨⟨hkind,d⟩,a⟩,f⟩:=b;refine⟨hkind,λ y c e=>?_,λ y c e=>?_⟩
 . have:=(a y c).1.2
   rw[e] at this;simpa using this
 have:=(a y c).2
 rw[e] at this;show X.env.scope.names.lookup y.1=some .cell∨X.env.scope.names.lookup y.1=some .free;simpa using this
theorem qH6(NY:List Str)(src:List (Option Nat))(hi:PI X tg iter wi)(n:∀ C a H0 ex,PG (qi8 X NY sc C a H0 ex) tg g)(p:∀ C a H0 ex,PFs (qi8 X NY sc C a H0 ex) ifs tf)(r:∀ C a H0 ex,PE (qi8 X NY sc C a H0 ex) elt te)(t:X.calm=true:=by rfl)(l:qu9 X NY src sc=true:=by rfl)(u:∀ x,Li iter X.env x=pure x:=by intro _;rfl):PE X (.ListComp elt [⟨tg,iter,ifs,0⟩] sc pos) (Fj wi src g tf te):=by
 intro Eo s σ H Q I h;obtain⟨hkind,hnames,hfree⟩:=qK5 l;rw[eval_ListComp];refine wpAny_comprehension_free (use:=none) rfl u (qK6 λ x y e=>I.ok.has x.1 (hfree x y e)) hkind hnames ?_;refine thn (hi Eo s σ H _ I h) λ v O c=>thn c λ z P d=>?_
 obtain⟨B,f,S,J,H2,rfl,I2,T,i,f2,E⟩:=d;refine qV1 (R:=λ D H'=>Q (.ref D) H') (RR:=λ j C=>compPost (L6 X.prog X.w) X.A X.xe none (EP X Eo σ Q) j C) l t I2 T i f2 (λ C a H0=>n C a H0 f) (λ C a H0=>p C a H0 f) (λ C a H0=>r C a H0 f) E ?_;intro D C H' F I' q G c d K L U ⟨m,M⟩;refine⟨m,M,λ V k=>⟨.ref D,H',?_,rfl,q⟩⟩;exact I'.turned (t':=F.toks) (it:=C) (λ b o N e=>k.extBut b o N e) G d (.inr c) K L
theorem qas4(i:Nat){px spos:Pos}(NY:List Str)(src:List (Option Nat))(L:X.N.Nodup)(hi:PI X tg iter wi)(M:∀ C a H0 ex,PG (qi8 X NY sc C a H0 ex) tg g)(O:∀ C a H0 ex,PFs (qi8 X NY sc C a H0 ex) ifs tf)(P:∀ C a H0 ex,PE (qi8 X NY sc C a H0 ex) elt te)(k:X.N[i]? = some x:=by rfl)(l:Loc X.env.scope x:=by first | exact P0 rfl | exact Pz rfl)(S:X.calm=true:=by rfl)(F:qu9 X NY src sc=true:=by rfl)(n:swapsWith (.ListComp elt [⟨tg,iter,ifs,0⟩] sc pos) (some (.Name x px)) spos.line X.env=pure true:=by rfl)(U:∀ x,Li iter X.env x=pure x:=by intro _;rfl)(r:X.fn x=true∨X.env.scope.names.lookup x=some .local:=by first | exact .inl rfl | exact .inr rfl | assumption):PS X (.Assign [.Name x px] (.ListComp elt [⟨tg,iter,ifs,0⟩] sc pos) spos) (Je (Fj wi src g tf te) (Gg i)):=by
 intro Eo s σ H D I h;obtain⟨hkind,hnames,hfree⟩:=qK5 F;rw[exec_Assign_Name_used _ _ _ _ n];refine G' (wpAny_standAt (G' ?_));show L5 _ _ (do let _ <- comprehension (.ListComp elt [⟨tg,iter,ifs,0⟩] sc pos) sc X.env _ (newList []) false (eval iter X.env) (some (assign (.Name x px) X.env))) _ _ s;refine G' (Lv (wpAny_comprehension_free (use:=some (assign (.Name x px) X.env)) (Q:=λ _ c=>SP X Eo D .next c) rfl U (qK6 λ x l e=>I.ok.has x.1 (hfree x l e)) hkind hnames ?_) (λ _ c V=>Ld (Ld V)) λ _ _ e=>e);refine thn (hi Eo s σ H _ I h) λ v s1 t=>thn t λ W s2 j=>?_
 obtain⟨Y,u,tn,J,H2,rfl,I2,T,y,f2,Z⟩:=j;refine qV1 (R:=λ D' H'=>Gg i (.ref D') σ H' D.nx) (RR:=λ B C=>compPost (L6 X.prog X.w) X.A X.xe (some (assign (.Name x px) X.env)) (λ _ c=>SP X Eo D .next c) B C) F S I2 T y f2 (λ C a H0=>M C a H0 u) (λ C a H0=>O C a H0 u) (λ C a H0=>P C a H0 u) Z ?_;intro D' C H' c I' q G t j h3 h4 h5 ⟨m,hn⟩;obtain⟨o,es,ep,ho,K,hr⟩:=hn;have Ip:Qa X (Eo++[(C,o)]) σ H' c:=I'.pins_of λ p hp=>(zA9.mp hp).elim (λ z=>I'.pin p (zAv _ z)) λ z=>by
   have e:p=(C,o):=by simpa using z
   subst e;exact⟨ho,G,j,h5,λ v e=>by rw[K] at e;cases e⟩
 show L5 _ _ (assign (.Name x px) X.env (.ref D')) _ _ _;refine wpAny_assign_Name (qD2 (v:=.ref D') Ip L k l rfl (λ d I''=>?_) r);have f:d.heap.get? C=some o:=(I''.pin (C,o) (by simp)).1;refine⟨m,⟨o,es,ep,f,K,hr⟩,λ h' E=>⟨_,H',?_,q⟩⟩;exact I''.unpinned.turned (t':=d.toks) (it:=C) (λ b o hb e=>E.extBut b o hb e) G j (.inr t) h3 h4
end
theorem qV0{K:O0}{D:γ}{g:TG}{tf:TT}{te:TE}{R:Hp->Prop}{n:St}(Pv:Nat->St->Hp->Prop)(c:Pv 0 n H)(d:∀ i n H,i<=xs.length->Pv i n H->SqL K H a xs)(f:∀ i x n H,xs[i]? = some x->Pv i n H->g x n H λ σ2 H2=>tf σ2 H2 λ h H3=>if h=true then te σ2 H3 λ v H4=>∃ ys,H4 D=some (.l ys)/\ys.length < Lg/\Pv (i+1) σ2 (upd H4 D (.l (ys++[v]))) else Pv (i+1) σ2 H3)(j:∀ n H,Pv xs.length n H->R H) :
   qv7 (Itl K a) g tf te D R n H:=by
 refine⟨λ i m n H=>m=xs.length - i/\i<=xs.length/\Pv i n H,⟨xs.length,by simp,zBk _,c⟩,?_⟩;rintro i m n H ⟨rfl,k,p⟩;have q:=d i n H k p;by_cases b:i < xs.length
 . refine .inr ⟨⟨xs,xs[i],q,by simp[b]⟩,Pv (i+1),λ n' H' l=>⟨xs.length - (i+1),by lia,rfl,b,l⟩,λ x H' y=>?_⟩
   obtain⟨e,y⟩:=y;subst e;exact f i x n _ (y xs q) p
 have e:i=xs.length:=by lia
 subst e;exact .inl ⟨⟨xs,q,zA3 _⟩,j n H p⟩
theorem qah8{D:γ}{lo:Int}{n:Nat}{g:TG}{tf:TT}{te:TE}{R:Hp->Prop}{k:St}(Pv:Nat->St->Hp->Prop)(b:Pv 0 k H)(c:∀ i k H,i < n->Pv i k H->g (.int (lo+i)) k H λ σ2 H2=>tf σ2 H2 λ d H3=>if d=true then te σ2 H3 λ v H4=>∃ ys,H4 D=some (.l ys)/\ys.length < Lg/\Pv (i+1) σ2 (upd H4 D (.l (ys++[v]))) else Pv (i+1) σ2 H3)(f:∀ k H,Pv n k H->R H) :
   qv7 (Itr lo n) g tf te D R k H:=by
 refine⟨λ i m k H=>m=n - i/\i<=n/\Pv i k H,⟨n,by simp,zBk _,b⟩,?_⟩;rintro i m k H ⟨rfl,j,p⟩;by_cases a:i < n
 . refine .inr ⟨a,Pv (i+1),λ k' H' h=>⟨n - (i+1),by lia,rfl,a,h⟩,λ x H' y=>?_⟩
   obtain⟨e,y⟩:=y;subst e y;exact c i k _ a p
 have e:i=n:=by lia
 subst e;exact .inl ⟨zA3 _,f k H p⟩
section
variable{X:Cx}
theorem sset(i:Nat){te:TE}{pos pos':Pos}(a:X.N.Nodup)(b:PE X e te)(hi:X.N[i]? = some x:=by rfl)(c:Loc X.env.scope x:=by first | exact P0 rfl | exact Pz rfl)(d:swapsWith e (some (.Name x pos')) pos.line X.env=pure false:=by rfl)(f:X.fn x=true∨X.env.scope.names.lookup x=some .local:=by first | exact .inl rfl | exact .inr rfl | assumption):PS X (.Assign [.Name x pos'] e pos) (Je te (Gg i)):=qaH9 a hi c b d f
theorem gnm(i:Nat){pos:Pos}(a:X.N.Nodup)(hi:X.N[i]? = some x:=by rfl)(b:Loc X.env.scope x:=by first | exact P0 rfl | exact Pz rfl)(c:X.fn x=true∨X.env.scope.names.lookup x=some .local:=by first | exact .inl rfl | exact .inr rfl | assumption):PG X (.Name x pos) (Gg i):=qas8 a hi b c
def CDivB(_ j:Int):Prop:=0 < j/\j < 2 ^ 200
theorem qO4:OpR X (Lz .FloorDiv) (rI CDivB λ i j=>.int (i / j)):=opI λ i j _ _ _ _ _ a q=>by
 have c:(0:Int) < j:=a.1;have d:j < 2 ^ 200:=a.2;refine floordiv_int (by lia) (by rw[Int.fdiv_eq_ediv_of_nonneg i (by lia)];exact q) (.inl (PyProof.noPylong_of_log2 ?_));have b:j.natAbs < 2 ^ 200:=by lia
 have e:j.natAbs.log2 < 200:=(Nat.log2_lt (by lia)).mpr b;lia
theorem qaJ1{j:Int}(k:Int){a b:Nat}{q pos:Pos}(c:i ^ j.toNat=k:=by decide)(d:0<=j:=by decide)(h1:j<=1000000:=by decide)(h2:i.natAbs < 2 ^ 64:=by decide):PE X (.BinOp (.Constant (.int i) a p) .Pow (.Constant (.int j) b q) pos) (tC (.int k)):=by
 intro Eo s m H Q I h;refine(pe_op qaT4 qO2 qO2) Eo s m H Q I ⟨_,_,rfl,rfl,⟨d,h1,h2⟩,?_⟩;show Q (.int (i ^ j.toNat)) H;rw[c];exact h
theorem qaT7:OpR X (Lh .Is) (λ x y H Q=>∃ b c,x=.bl b/\y=.bl c/\Q (.bl (b == c)) H):=by
 intro Eo s m H x y v u Q I a d h;obtain⟨b,c,rfl,rfl,q⟩:=h;cases a;cases d;exact is_bool ⟨.bl _,H,I,rfl,q⟩
def Et(H:Hp):V->Option String
 | .non=>some "NoneType" | .bl _=>some "bool" | .int _=>some "int" | .str _=>some "str"
 | .ref a=>match H a with
   | some (.l _)=>some "list" | some (.q _)=>some "tuple" | some (.dK _)=>some "dict" | some (.frz _ (.l _))=>some "list"
   | _=>none
 | _=>none
noncomputable def Hh(t n:String):Bool:=t == n||(t == "bool" && n == "int")
theorem qaM6(K:O0){t n:String}(a:t∈["NoneType", "bool", "int", "str", "list", "tuple", "dict"])(b:n∈["bool", "int", "str", "list", "tuple", "dict"]):O1 K (.type t) (.type n)=some (Hh t n):=by
 simp only[zAn,zBu,or_false] at a b;rcases a with rfl | rfl | rfl | rfl | rfl | rfl | rfl<;>rcases b with rfl | rfl | rfl | rfl | rfl | rfl<;>rfl
theorem qaf6{K:O0}{x:V}{t:String}(h:Et H x=some t):Fv K H x (.type t)/\t∈["NoneType", "bool", "int", "str", "list", "tuple", "dict"]:=by
 cases x with
 | non=>cases h;exact⟨.non,by decide⟩
 | bl b=>cases h;exact⟨.bl b,by decide⟩
 | int b=>cases h;exact⟨.int b,by decide⟩
 | str b=>cases h;exact⟨.str b,by decide⟩
 | byt b=>cases h
 | flt b=>cases h
 | ty b=>cases h
 | ref a =>
   unfold Et at h;dsimp only at h;split at h
   . cases h;exact⟨.l (by assumption),by decide⟩
   . cases h;exact⟨.q (by assumption),by decide⟩
   . cases h;exact⟨.dK (by assumption),by decide⟩
   . cases h;exact⟨.frz (by assumption),by decide⟩
   cases h
def rIsi:List V->Hp->VK->Prop:=λ xs H Q=>∃ x n t,xs=[x,.ty n]/\Et H x=some t/\n∈["bool", "int", "str", "list", "tuple", "dict"]/\Q (.bl (Hh t n)) H
theorem qf8:CallR X (.builtin "isinstance") rIsi:=by
 intro Eo s m H g i Q I r h;obtain⟨x,n,t,rfl,b,c,q⟩:=h;obtain⟨u,j,rfl,d,a⟩:=Hf r;cases a;obtain⟨ty,e⟩:=qaf6 (K:=X.K) b;exact qF3 I d ty (qaM6 X.K e c) λ f=>⟨.bl _,H,I.tok f,rfl,q⟩
theorem qaJ9(n:String){pos:Pos}(hm:X.mg x=none)(a:Gl X x:=by rfl)(b:Ll x=some (.type n):=by rfl)(c:x ≠ "__name__" := by decide)(d:N' x:=by decide):PE X (.Name x pos) (tC (.ty n)):=qaK0 a hm b rfl c d
theorem qaJ5{n:Int}{t:Tok}{pos:Pos}(hm:X.mg x=some (.int n t))(a:Gl X x:=by rfl)(b:N' x:=by decide):PE X (.Name x pos) (tC (.int n)):=qac8 a hm ⟨t,rfl⟩ b
theorem cbi{id:String}{r:List V->Hp->VK->Prop}{pos:Pos}(c:CallR X (.builtin id) r)(hm:X.mg x=none)(d:PA X (e::es) t)(f:Gl X x:=by rfl)(g:Ll x=some (.builtin id):=by rfl)(h:x ≠ "__name__" := by decide)(a:N' x:=by decide)(i:Lf (e::es) X.env=(false,eval e X.env)::Lf es X.env:=by rfl)(b:(backTo pos (Lf es X.env)).any (·.1)=false:=by rfl):PE X (.Call (.Name x p) (e::es) [] pos) (tCB r t):=qaz7 c f hm g d h a i b
theorem cty{id:String}{r:List V->Hp->VK->Prop}{pos:Pos}(c:CallR X (.type id) r)(hm:X.mg x=none)(d:PA X (e::es) t)(f:Gl X x:=by rfl)(g:Ll x=some (.type id):=by rfl)(h:x ≠ "__name__" := by decide)(a:N' x:=by decide)(i:Lf (e::es) X.env=(false,eval e X.env)::Lf es X.env:=by rfl)(b:(backTo pos (Lf es X.env)).any (·.1)=false:=by rfl):PE X (.Call (.Name x p) (e::es) [] pos) (tCB r t):=qal9 c f hm g d h a i b
end
theorem ix{X:Cx}{a b:Ma}{ta tb:TE}{pos:Pos}{r:R2}(c:IxR X r)(d:PE X a ta)(e:PE X b tb)(f:qW2 b:=by exact λ _ _=>rfl):PE X (.Subscript a b pos) (tOp r ta tb):=Ka c d e f
def rGetL:V->V->Hp->VK->Prop:=λ o i H Q=>∃ p xs k v,o=.ref p/\i=.int k/\H p=some (.l xs)/\0<=k/\xs[k.toNat]? = some v/\Q v H
theorem qaC6{X:Cx}:PGet X rGetL:=by
 intro Eo s C H o i w y Q I c d h;obtain⟨p,z,k,v,rfl,rfl,e,f,b,q⟩:=h;cases c;obtain⟨t,rfl⟩:=d;obtain⟨a,n,r,g,A⟩:=I.l e;obtain⟨u,j,l⟩:=r.get b;have m:=(zA4.mp b).1;have B:=qP5;refine wpAny_getItem_list (items:=a.toArray) (x:=u) ⟨_,g,rfl,n,rfl⟩ f (by lia) (by simpa using j) ⟨v,H,I,l,q⟩
theorem qaY2{xs:List α}(b:0<=i)(h1:i < xs.length):∃ v,xs[i.toNat]? = some v/\atI xs i=some v:=by
 have a:i.toNat < xs.length:=by lia
 have e:(i.toNat:Int)=i:=by lia
 refine⟨xs[i.toNat],by simp[a],?_⟩
 have:=qai6 (xs:=xs) (j:=i.toNat) (v:=xs[i.toNat]) (by simp[a])
 rw[e] at this;exact this
theorem qK8{xs:List α}(a:0<=i)(h1:i < xs.length):∃ v,v∈xs/\atI xs i=some v:=by
 obtain⟨v,h,e⟩:=qaY2 a h1;exact⟨v,zB0 h,e⟩
theorem qaf4(h:H a=some (.l xs)):Et H (.ref a)=some "list" := by
 unfold Et;dsimp only;rw[h]
theorem qaB9(h:H a=some (.q xs)):Et H (.ref a)=some "tuple" := by
 unfold Et;dsimp only;rw[h]
theorem qat6{xs:List (Key×V)}(h:H a=some (.dK xs)):Et H (.ref a)=some "dict" := by
 unfold Et;dsimp only;rw[h]
theorem Same.new{q:γ}{u:HO}(h:H q=none):Same H (upd H q u):=λ b o e=>by rw[qb5 (qc0 e h)];exact e
structure Df(K:O0)(mg:Str->Option V')(x qual:Str)(st:Mb)(f:γ)(fd:ε)(ps:List Str):Prop where
 F:Fun K x qual st f fd
 b:Binds K fd ps []
 m:mg x=some (.ref f)
theorem dfmk{K:O0}{mg:Str->Option V'}{qual:Str}{st:Mb}{f:γ}{ps:List Str}{oc:V'}{od d:Option γ}{i:Array (Option V')}{kV b e a g:V'}(l:K.lookup f=some ⟨oc,od,.func (W.fnOf x qual (qe7 st) (qc9 st) (qa3 st) .none kV b e d a g),i⟩)(c:W.codeIn K a qual=true)(k:W.keepIn K (.ref f)=true)(m:mg x=some (.ref f))(h:∀(kV b e:V')(d:Option γ)(a g:V')(us:List V'),us.length=ps.length->bindArgs (W.fnOf x qual (qe7 st) (qc9 st) (qa3 st) .none kV b e d a g) ⟨us,[]⟩=pure (ps.zip us)) :
   Df K mg x qual st f (W.fnOf x qual (qe7 st) (qc9 st) (qa3 st) .none kV b e d a g) ps:=⟨qao0 l c k,(qao0 l c k).binds h,m⟩
theorem callD{X:Cx}{qual:Str}{st:Mb}{f:γ}{fd:ε}{ps:List Str}{k:Nat}{sp:Sp}{pos:Pos}(D:Df X.K X.mg x qual st f fd ps)(G:Ga X.prog X.w X.K X.mg X.base CX0 k f fd ps sp)(d:Room k X.A)(g:PA X (e::es) t)(h:Gl X x:=by rfl)(a:N' x:=by decide)(i:Lf (e::es) X.env=(false,eval e X.env)::Lf es X.env:=by rfl)(c:(backTo pos (Lf es X.env)).any (·.1)=false:=by rfl):PE X (.Call (.Name x p) (e::es) [] pos) (Jz sp [] (λ _=>E0) t) :=
 qas9 G d h D.m D.F.kp D.b .nil pass0 g a i c
end L2
namespace LB
open PySem PySem.Spec PyProof.Rows
theorem qP4:typeLookup (.type "list") "keys" = pure none:=by rw[typeLookup_type,builtinLookup_eq_fast];kernel_rfl
theorem qB3:typeLookup (.type "list") "__getattr__" = pure none:=by rw[typeLookup_type,builtinLookup_eq_fast];kernel_rfl
section
variable{prog:L7}{w:L9}{A:L8}{E:V'->δ->Prop}{h:Heap}{g:Array GenState}{d:Drawn}{t:Nat}{u:OsState}{a:γ}{its:Array V'}{n:Nat}
theorem qB4{b:Tok}{Q:PySem.Fin->δ->Prop}(c:h.get? a=some { cls:=.type "list",data:=.seq its n })(f:A.handled=none)(i:∀ h' b e,Heap.NewAttrErr h h' e (.ref a) "keys" -> E (.ref e) ⟨h',g,d,b,u⟩) :
   L5 (L6 prog w) A (Builtin.«object.__getattribute__» ⟨[.ref a,.str "keys" b],[]⟩) Q E ⟨h,g,d,t,u⟩:=by
 have j:(⟨h,g,d,t,u⟩:δ).TypeIs (.ref a) "list" := ⟨_,c,rfl⟩
 have k:=qP4
 repeat (any_goals (first | assumption | wp_step))
 refine wpAny_raiseAttrError f ?_ (attrMsg_fits (by decide +kernel) (by decide +kernel));exact i
theorem qF1{Q:Option V'->δ->Prop}(i:h.get? a=some { cls:=.type "list",data:=.seq its n })(k:A.handled=none)(l:∀ h' f,(∀ b o,h.get? b=some o->h'.get? b=some o)->Q none ⟨h',g,d,f,u⟩) :
   L5 (L6 prog w) A (getAttr? (.ref a) "keys") Q E ⟨h,g,d,t,u⟩:=by
 have j:∀ f,(⟨h,g,d,f,u⟩:δ).TypeIs (.ref a) "list" := λ _=>⟨_,i,rfl⟩
 have m:=j t;have f1:=sub_AttributeError;have f2:=F.slot_list_getattribute.lookup;have f3:=F.slot_list_getattribute.bind (.ref a);have p:=qB3;unfold getAttr? getAttrBy? getAttrBy
 repeat (any_goals (first | assumption | wp_step))
 refine codeAny_call_builtin F.slot_list_getattribute.plain F.entry_list_ga (F.slot_list_getattribute.check _ _ _ _ _ _ _ _ (j _) (F.args_list_getattribute_2 _ _) (qB4 i k λ h' f e c=>?_));obtain⟨q,r,s⟩:=c.there;show L5 _ _ (getattributeRaised _ _ _ _ _ _ _) _ _ _;unfold getattributeRaised
 repeat (any_goals (first | assumption | wp_step))
 exact l _ _ c.keeps
end
theorem qm9:entryFor table "dict.update.loop" = some Builtin.«dict.update.loop»:=entryFor_of_tree (by kernel_rfl)
theorem qf0:plainId "dict.update.loop" = true:=by decide +kernel
section
variable{prog:L7}{w:L9}{K:Type}[DecidableEq K]{knd:KeyKind prog w K}{A:L8}{R:Result->δ->Prop}
theorem qap5(U:A.handled=none){I ax d:γ}{items:Array V'}(y:ax≠I)(g:d≠I)(z:ax≠d):∀(rest:List (K×V'))(i:Nat)(ix:Int)(kvs:List (K×V'))(s:δ),
   (∀(j:Nat) a,rest[j]? = some a->∃ t key,items[i+j]? = some (.ref t)/\IsTup s.heap t #[key,a.2]/\knd.is a.1 key=true/\t≠I/\t≠d)->items.size=i+rest.length ->
   s.heap.IsListIter I ax i->s.heap.IsList ax items->s.heap.DictOf knd d kvs->kvs.length+rest.length<=Lg ->
   (∀ h' B,h'.DictOf knd d (rest.foldl (λ acc a=>stored acc a.1 a.2) kvs)->(∀ b o,b≠I->b≠d->s.heap.get? b=some o->h'.get? b=some o)->R (.ok (.ret .none)) { s with heap:=h',toks:=B }) ->
   codeAny (L6 prog w) A (.builtin "dict.update.loop" ⟨[.ref d,.ref I,rawInt ix,.none],[]⟩) R s:=by
 intro rest
 induction rest with
 | nil =>
   intro i ix kvs s C f h v D P E;refine codeAny_builtin qm9 ?_;rw[Around.under_plainId qf0 _];show L5 _ A.in1 (pyNext (.ref I) >>= _) _ _ s;refine G' (wpAny_pyNext_list_end U h v (by simp at f;simp[f]) λ h' Q=>?_);show L5 _ _ (Builtin.Dict.addKeywords d [] >>= _) _ _ _;refine G' (Ld (Ld ?_));have k:h'.DictOf knd d kvs:=by
     obtain⟨o,F,G,l,r⟩:=D;exact⟨o,F,G,Q d o g l,r⟩
   exact E h' s.toks k λ b o x _ e=>Q b o x e
 | cons a rest V =>
   intro i ix kvs s C f h v D P E;obtain⟨t,key,W,X,Y,Z,h5⟩:=C 0 a rfl;refine codeAny_builtin qm9 ?_;rw[Around.under_plainId qf0 _];show L5 _ A.in1 (pyNext (.ref I) >>= _) _ _ s;refine G' (wpAny_pyNext_list_item h v W λ h' m p=>?_);have H:IsTup h' t #[key,a.2]:=X.extBut p.extBut Z;obtain⟨o,l,J,n,L⟩:=H;refine G' (Lj ?_);refine G' (wpAny_tryCatch ?_);unfold Builtin.Dict.pairItems;refine G' (wpAny_typeOf (T := "tuple") ⟨o,l,J⟩ ?_);rw[if_pos (by decide)];refine G' (wpAny_seqItems l L (Ld ?_));dsimp only[Option.getD];have k:h'.DictOf knd d kvs:=by
     obtain⟨o,F,G,l,r⟩:=D;exact⟨o,F,G,p.extBut d o g l,r⟩
   simp only[zAm] at P f;show L5 _ _ (holding [key,a.2] (dictSet d key a.2)) _ _ _;refine Lj (wpAny_dictSet_pairs (hsz:=by lia) Y k λ a0 q c=>?_);refine Ld ⟨plainId_quiet qf0 _,?_⟩;have S:(stored kvs a.1 a.2).length<=kvs.length+1:=by
     unfold stored;split
     . rw[zAf];lia
     rw[zAe];simp
   refine V (i+1) (ix+1) (stored kvs a.1 a.2) _ (λ j M hj=>?_) (by lia) ?_ ?_ q (by lia) λ N B O k3=>?_
   . obtain⟨t',key',g1,g2,g3,g4,g5⟩:=C (j+1) M hj
     exact⟨t',key',by rw[show i+1+j=i+(j+1) by lia];exact g1,(g2.extBut p.extBut g4).extBut c.extBut g5,g3,g4,g5⟩
   . exact m.at λ o e=>c.extBut I o (Ne.symm g) e
   . exact(v.at λ o e=>p.extBut ax o y e).at λ o e=>c.extBut ax o z e
   exact E N B O λ b o x u e=>k3 b o x u (c.extBut b o u (p.extBut b o x e))
end
end LB
namespace L2
open PySem PySem.Spec PyProof.Rows
section
variable{X:Cx}
theorem KV.fold:∀{more:List (Key×V)}{a:List (Key×V')}{kvs:List (Key×V)}{vs:List (Key×V')},KV more a->KV kvs vs->KV (qB0 kvs more) (a.foldl (λ acc b=>stored acc b.1 b.2) vs):=by
 intro more a kvs vs r;unfold KV at r
 induction r generalizing kvs vs with
 | nil=>intro q;exact q
 | @cons p q _ _ h _ ih =>
   intro c;show KV (qB0 (putK kvs p.1 p.2) _) (Na _ (stored vs q.1 q.2) _);refine ih ?_;rw[<- h.1];exact c.put p.1 h.2
def qaw0(H:Hp)(ys:List V)(kvs:List (Key×V)):Prop:=Paired (λ y (a:Key×V)=>∃ t,y=.ref t/\H t=some (.q [kV a.1,a.2])) ys kvs
def qaH3:List V->Hp->VK->Prop:=λ xs H Q=>∃ a ys kvs,xs=[.ref a]/\H a=some (.l ys)/\qaw0 H ys kvs/\∀ p,H p=none->Q (.ref p) (upd H p (.dK (qB0 [] kvs)))
theorem qK7(hc:X.calm=true):CallR X (.type "dict") qaH3:=by
 intro Eo s σ H xs us Q I r h;obtain⟨a,ys,g,rfl,ha,N,q⟩:=h;obtain⟨u,rfl,ru⟩:=B9 r;cases ru;have hh:=I.ok.hd hc;obtain⟨z,f,n,rv,O,e⟩:=I.lstM ha;obtain⟨x,J,P⟩:∃ x:List (Key×V'),KV g x/\∀(j:Nat) k,x[j]? = some k->∃ t i,f[j]? = some (.ref t)/\IsTup s.heap t #[i,k.2]/\(qf9 X.prog X.w).is k.1 i=true:=by
   clear q e O n ha z
   induction N generalizing f with
   | nil=>exact⟨[],.nil,λ j k C=>by simp at C⟩
   | @cons y k ys g hy _ ih =>
     cases rv with
     | @cons _ u _ us' hu hr =>
       obtain⟨t,rfl,ht⟩:=hy;cases hu;obtain⟨_,its',rt,o,p,R,n,S⟩:=I.hok t _ ht;obtain⟨i,U,rfl,r1,r2⟩:=rt.two;obtain⟨x,J,P⟩:=ih _ hr;refine⟨(k.1,U)::x,.cons ⟨rfl,r2⟩ J,λ j V C=>?_⟩;cases j with
       | zero=>cases C;exact⟨t,i,rfl,⟨o,p,R,n,S⟩,Kc r1⟩
       | succ j=>exact P j V C
 have D:x.length=f.length:=by rw[<- O,<- Paired.length J,<- Paired.length N]
 have big:=I.big;obtain⟨c,gn,dr,W,Y⟩:=s;refine callType_codes (Q₁:=λ E s₁=>E=.ref c.objs.size/\s₁={ heap:=c.push { cls:=.type "dict",data:=.dict #[] },gens:=gn,drawn:=dr,toks:=W,os:=Y }) F.kt_called_dict (F.kt_typeCall_dict_1 _) F.entry_dict_init (kt_code_dict_new _ ⟨rfl,rfl⟩) ?_;rintro E s₁ ⟨rfl,rfl⟩;have l:(c.push { cls:=.type "dict",data:=.dict #[] }).DictOf (qf9 X.prog X.w) c.objs.size []:=Heap.DictOf.new c;have Z:(c.push { cls:=.type "dict",data:=.dict #[] }).get? a=some { cls:=.type "list",data:=.seq f.toArray n }:=zA2 _ e;have G:a < c.objs.size:=zA7 e;refine⟨l.typeIs,F.args_dict_init_2 _ _,?_⟩;unfold Builtin.«dict.__init__»;refine G' ?_;unfold Builtin.Dict.selfAndRest;refine G' (wpAny_notOrdered_dict l.typeIs ?_);show L5 _ _ (pure (c.objs.size,[Oj a])) _ _ _;refine Ld ?_;show L5 _ _ (Builtin.Dict.updateFrom "dict.__init__" c.objs.size (.ref a) [] .none) _ _ _;unfold Builtin.Dict.updateFrom;refine G' (wpAny_typeOf (T := "list") ⟨_,Z,rfl⟩ ?_);rw[if_pos (by decide)];refine G' (LB.qF1 Z hh λ B a2 K=>?_);rw[if_pos (by rfl)];have e1:B.get? a=some { cls:=.type "list",data:=.seq f.toArray n }:=K _ _ Z;have d1:B.DictOf (qf9 X.prog X.w) c.objs.size []:=by
   obtain⟨o,L,M,p,r⟩:=l;exact⟨o,L,M,K _ _ p,r⟩
 refine G' (wpAny_rule ?_);have hlist:B.IsList a f.toArray:=⟨_,e1,rfl,n,rfl⟩
 refine G' (wpAny_pyIter_list hlist ?_);have v:c.objs.size < B.objs.size:=by
   obtain⟨o,L,M,p,r⟩:=d1;exact zA7 p
 refine Ld ⟨plainId_quiet LB.qf0 _,?_⟩;refine LB.qap5 (knd:=qf9 X.prog X.w) (A:=X.A.in1) hh (I:=B.objs.size) (ax:=a) (d:=c.objs.size) (items:=f.toArray) (zAj (Nat.lt_trans G v)) (zAj v) (zAj G) x 0 0 [] _ (λ j k C=>?_) (by simp[D]) ?_ ?_ ?_ ?_ λ h2 a0 d2 k2=>?_
 . obtain⟨t,i,g1,g2,g3⟩:=P j k C
   obtain⟨o,p,r⟩:=g2;have m:=zA7 p;exact⟨t,i,by simpa using g1,⟨o,zA2 _ (K _ _ (zA2 _ p)),r⟩,g3,zAj (Nat.lt_trans m v),zAj m⟩
 . exact⟨_,zAy _ rfl,rfl,rfl⟩
 . exact⟨_,zA2 _ e1,rfl,n,rfl⟩
 . obtain⟨o,L,M,p,r⟩:=d1
   exact⟨o,L,M,zA2 _ p,r⟩
 . simp only[zCj,zAc];rw[D,<- O];exact z
 refine⟨rfl,?_⟩;have hf:H c.objs.size=none:=I.hok.fresh (zA3 _);have keep:∀ b o,c.get? b=some o->h2.get? b=some o:=λ b o eb=>by
   have m:=zA7 eb;exact k2 b o (zAj (Nat.lt_trans m v)) (zAj m) (zA2 _ (K _ _ (zA2 _ eb)))
 have rm:KV (qB0 [] g) (x.foldl (λ a1 k=>stored a1 k.1 k.2) []):=KV.fold J .nil;have hz:(qB0 [] g).length<=Lg:=by
   have B:=qt7 g [];have h2:=Paired.length N;simp only[zCj] at B;lia
 refine⟨.ref c.objs.size,_,I.laid (t':=a0) (o:=.dK (qB0 [] g)) keep (zA3 _) ?_,rfl,q _ hf⟩;exact⟨hz,zBs.mpr (Ne.symm (zAj big)),_,rm,d2⟩
end
section
variable{X:Cx}
theorem qV4(t:X.calm=true):CallR X (.builtin "all") (λ xs H Q=>∃(a:γ)(bs:List Bool),xs=[.ref a]/\SqL X.K H a (bs.map V.bl)/\Q (.bl (bs.all id)) H):=by
 intro Eo s L H xs E Q I r h;obtain⟨a,bs,rfl,w,q⟩:=h;obtain⟨u,rfl,k⟩:=B9 r;cases k;have y:=I.ok.hd t;obtain⟨d,l,m,F⟩:=I.list w;refine call_all_walk (wpAny_pyIter_list m.isList ?_);have n:a < s.heap.objs.size:=let ⟨o,ho,_⟩:=m.isList;zA7 ho
 refine⟨s.heap.objs.size,_,_,_,_,_,λ i=>bs.getD i false,rfl,Walks.list (A:=X.A.in1) y _ a (zAj n) d.toArray,⟨⟨_,zAy _ rfl,rfl,rfl⟩,?_⟩,?_,?_⟩
 . exact m.isList.at λ o e=>zA2 _ e
 . intro i v z Q1 E1 f g
   have f:d[i]? = some v:=by simpa using f
   have c:i < bs.length:=by
     have G:=(zA4.mp f).1;have j:=l.length;rw[zAf] at j;lia
   obtain⟨u,p,k⟩:=l.get (i:=i) (x:=.bl bs[i]) (by simp[c]);rw[f] at p;cases p;cases k;refine Lm ?_;have e:bs.getD i false=bs[i]:=by simp[Nv,c]
   have g:Q1 (bs.getD i false) z:=g;rw[e] at g;exact g
 intro J B C;have e:(Ms d.toArray.size).all (λ i=>bs.getD i false)=bs.all id:=by
   have j:=l.length;rw[zAf] at j;rw[zA5,<- j];rw[Bool.eq_iff_iff];simp only[zBd,zAp,id_eq];constructor
   . intro h b D
     obtain⟨i,c,rfl⟩:=List.mem_iff_getElem.mp D
     have:=h i c
     simpa[Nv,c] using this
   intro h i c
   have:=h bs[i] (List.getElem_mem c)
   simpa[Nv,c] using this
 rw[e];refine⟨.bl _,H,?_,rfl,q⟩;exact I.kept (t':=B) λ b o e=>C b o (by simp;exact zAj (zA7 e)) (zA2 _ e)
noncomputable def ql7(ns:List Int):Nat:=(firstMet (λ i=>ns.getD i 0) ns.length).length
def rSetI(K:O0):List V->Hp->VK->Prop:=λ xs H Q=>∃(a:γ)(ns:List Int),xs=[.ref a]/\SqL K H a (ns.map V.int)/\ns.length<=1000/\∀ p S,H p=none->Q (.ref p) (upd H p (.set S (ql7 ns)))
theorem qaq1(k:X.calm=true):CallR X (.type "set") (rSetI X.K):=by
 intro Eo s L H x y Q I r h;obtain⟨a,f,rfl,l,z,q⟩:=h;obtain⟨u,rfl,m⟩:=B9 r;cases m;have n:=I.ok.hd k;obtain⟨c,i,p,A⟩:=I.list l;have d:c.length=f.length:=by
   have:=i.length
   rw[zAf] at this;exact this.symm
 have t:IntsAre c f:=qag1 i;refine call_set_list (items:=c.toArray) n p.isList (by simpa using t) (by rw[zA5,d];show f.length+1 < 4096;lia) λ B v j w=>?_
 have g:c.toArray.size=f.length:=by rw[zA5,d]
 rw[g] at j;refine⟨.ref s.heap.objs.size,_,I.laid (t':=v) (o:=.set _ (ql7 f)) (λ b o e=>w b o (zA7 e) e) (zA3 _) j,rfl,q _ _ (I.hok.fresh (zA3 _))⟩
theorem qaq3:CallR X (.builtin "len") (λ xs H Q=>∃(a:γ)(S:Int->Bool)(n:Nat),xs=[.ref a]/\H a=some (.set S n)/\Q (.int n) H):=by
 intro Eo s L H xs l Q I r h;obtain⟨a,S,n,rfl,d,q⟩:=h;obtain⟨u,rfl,e⟩:=B9 r;cases e;obtain⟨o,f,m,t,g,b,i,_,_,c,j,k⟩:=I.hok a _ d;subst k;have c:f.size < 4096:=c;exact call_len_set g b i j (by lia) ⟨.int _,H,I.tok _,⟨_,rfl⟩,q⟩
end
theorem qQ3(ns:List Int):ql7 ns=ns.length↔ns.Nodup:=by
 have f:∀ i,i<=ns.length->(∀ k,k∈firstMet (λ i=>ns.getD i 0) i↔k∈ns.take i)/\((firstMet (λ i=>ns.getD i 0) i).length=i↔(ns.take i).Nodup):=by
   intro i
   induction i with
   | zero=>intro _;rw[firstMet_zero];simp
   | succ i m =>
     intro r;obtain⟨c,l⟩:=m (by lia);have n:=firstMet_length_le (λ i=>ns.getD i 0) i;have b:i < ns.length:=by lia
     have o:ns.take (i+1)=ns.take i++[ns[i]]:=by rw[Mx];simp[b]
     have p:ns.getD i 0=ns[i]:=by simp[Nv,b]
     rw[firstMet_succ,o,p];unfold step_dedup;by_cases d:ns[i]∈firstMet (λ i=>ns.getD i 0) i
     . have a:ns[i]∈ns.take i:=(c _).mp d
       have g:(firstMet (λ i=>ns.getD i 0) i).any (· == ns[i])=true:=List.any_eq_true.mpr ⟨_,d,by simp⟩;rw[if_pos g];refine⟨λ k=>?_,?_⟩
       . rw[c];simp only[zA9,zAl]
         exact⟨.inl,λ h=>h.elim id λ e=>by rw[e];exact a⟩
       constructor
       . intro h;lia
       intro h;rw[zBr] at h;exact absurd rfl (h.2.2 _ a _ (zAl.mpr rfl))
     have a:¬ ns[i]∈ns.take i:=λ h=>d ((c _).mpr h)
     have g:¬ (firstMet (λ i=>ns.getD i 0) i).any (· == ns[i])=true:=λ h=>by
       obtain⟨x,j,e⟩:=List.any_eq_true.mp h;exact d (by rw[<- (zBl.mp e)];exact j)
     rw[if_neg g];refine⟨λ k=>?_,?_⟩
     . simp only[zA9,zAl]
       rw[c]
     rw[zAe,zBr];simp only[Nn];constructor
     . intro h
       refine⟨l.mp (by lia),by simp,λ x j y q=>?_⟩;rw[zAl.mp q];exact λ e=>a (e ▸ j)
     intro h
     have:=l.mpr h.1
     lia
 have:=(f ns.length (zA3 _)).2
 rw[zAs (zA3 _)] at this;exact this
end L2
namespace LD
open PySem PySem.SeqAt MeetsSeq
open AutoSeq1 (wpAny_loadPart')
variable{b l:γ}{dd:Option γ}{n:Nat}{sl:Array (Option V')}
theorem qaD7(l b:γ)(es:Array DictEntry)(items2:Array V')(n e:Nat)(dd a:Option γ)(sl c:Array (Option V')) :
   Meets (Builtin.«dict.__eq__» ⟨[.ref l,.ref b],[]⟩) (λ _ R s=>s.heap.get? l=some { cls:=.type "dict",dict:=dd,data:=.dict es n,slots:=sl }/\s.heap.get? b=some { cls:=.type "tuple",dict:=a,data:=.seq items2 e,slots:=c }/\R (.ok (.ret .notImplemented)) s) :=
 .of_wp λ prog w A R s h=>by obtain⟨j,g,d,k,m⟩:=s;obtain⟨f,i,h⟩:=h;have f1:=O7;wp_walk using wpAny_loadPart' f,wpAny_loadPart' i;exact⟨_,rfl,h⟩
theorem qaw3(l b:γ)(es:Array DictEntry)(items2:Array V')(n e:Nat)(dd a:Option γ)(sl c:Array (Option V')) :
   Meets (Builtin.«tuple.__eq__» ⟨[.ref b,.ref l],[]⟩) (λ _ R s=>s.heap.get? l=some { cls:=.type "dict",dict:=dd,data:=.dict es n,slots:=sl }/\s.heap.get? b=some { cls:=.type "tuple",dict:=a,data:=.seq items2 e,slots:=c }/\R (.ok (.ret .notImplemented)) s) :=
 .of_wp λ prog w A R s h=>by obtain⟨j,g,d,k,m⟩:=s;obtain⟨f,i,h⟩:=h;have f1:=Pi;wp_walk using wpAny_loadPart' f,wpAny_loadPart' i;exact⟨_,rfl,h⟩
theorem qaA7(l b:γ)(es:Array DictEntry)(items2:Array V')(n e:Nat)(dd a:Option γ)(sl c:Array (Option V')) :
   Meets (Builtin.«dict.__ne__» ⟨[.ref l,.ref b],[]⟩) (λ _ R s=>s.heap.get? l=some { cls:=.type "dict",dict:=dd,data:=.dict es n,slots:=sl }/\s.heap.get? b=some { cls:=.type "tuple",dict:=a,data:=.seq items2 e,slots:=c }/\R (.ok (.ret .notImplemented)) s) :=
 .of_wp λ prog w A R s h=>by obtain⟨j,g,d,k,m⟩:=s;obtain⟨f,i,h⟩:=h;have f1:=O7;wp_walk using wpAny_loadPart' f,wpAny_loadPart' i;exact⟨_,rfl,h⟩
theorem qaw2(l b:γ)(es:Array DictEntry)(items2:Array V')(n e:Nat)(dd a:Option γ)(sl c:Array (Option V')) :
   Meets (Builtin.«tuple.__ne__» ⟨[.ref b,.ref l],[]⟩) (λ _ R s=>s.heap.get? l=some { cls:=.type "dict",dict:=dd,data:=.dict es n,slots:=sl }/\s.heap.get? b=some { cls:=.type "tuple",dict:=a,data:=.seq items2 e,slots:=c }/\R (.ok (.ret .notImplemented)) s) :=
 .of_wp λ prog w A R s h=>by obtain⟨j,g,d,k,m⟩:=s;obtain⟨f,i,h⟩:=h;have f1:=Pi;wp_walk using wpAny_loadPart' f,wpAny_loadPart' i;exact⟨_,rfl,h⟩
theorem for0{β:Type}{m:Type->Type}[Monad m](b:β)(f:Nat->β->m (ForInStep β)):forIn [:0] b f=(pure b:m β):=by
 simp
theorem same0{M:Model}{A:L8}{E:V'->δ->Prop}{s:δ}{Q:Bool->δ->Prop}{id:String}{e:Nat}{a:Option γ}{c:Array (Option V')}(h1:(l == Ls)=false)(h2:(b == Ls)=false)(d:s.heap.get? l=some { cls:=.type "dict",dict:=dd,data:=.dict #[] n,slots:=sl })(f:s.heap.get? b=some { cls:=.type "dict",dict:=a,data:=.dict #[] e,slots:=c })(h:Q true s):L5 M A (Builtin.Dict.samePairs id l b) Q E s:=by
 unfold Builtin.Dict.samePairs Builtin.Dict.showsAll;rw[if_neg (by rw[h1];decide),if_neg (by rw[h2];decide)];refine G' (Ld (G' (Ld ?_)));refine G' (wpAny_dictEntries d rfl ?_);refine G' (wpAny_dictEntries f rfl ?_);rw[if_neg (by decide)];refine G' (wpAny_dictEpoch d rfl ?_);have g:(#[]:Array DictEntry).size=0:=rfl;simp only[g];rw[for0];exact G' (Ld (Ld h))
theorem qaO5(l b:γ)(n i:Nat)(dd a:Option γ)(sl c:Array (Option V'))(h1:(l == Ls)=false)(h2:(b == Ls)=false) :
   Meets (Builtin.«dict.__eq__» ⟨[.ref l,.ref b],[]⟩) (λ _ R s=>s.heap.get? l=some { cls:=.type "dict",dict:=dd,data:=.dict #[] n,slots:=sl }/\s.heap.get? b=some { cls:=.type "dict",dict:=a,data:=.dict #[] i,slots:=c }/\R (.ok (.ret (.bool true))) s) :=
 .of_wp λ prog w A R s h=>by
   obtain⟨j,g,d,k,m⟩:=s;obtain⟨e,f,h⟩:=h;have f1:isSubtype (.type "dict") (.type "dict")=pure true:=Po
   wp_walk using wpAny_loadPart' e,wpAny_loadPart' f,same0 h1 h2 e f
   exact⟨_,rfl,h⟩
theorem qaL5(l b:γ)(n i:Nat)(dd a:Option γ)(sl c:Array (Option V'))(h1:(l == Ls)=false)(h2:(b == Ls)=false) :
   Meets (Builtin.«dict.__ne__» ⟨[.ref l,.ref b],[]⟩) (λ _ R s=>s.heap.get? l=some { cls:=.type "dict",dict:=dd,data:=.dict #[] n,slots:=sl }/\s.heap.get? b=some { cls:=.type "dict",dict:=a,data:=.dict #[] i,slots:=c }/\R (.ok (.ret (.bool false))) s) :=
 .of_wp λ prog w A R s h=>by
   obtain⟨j,g,d,k,m⟩:=s;obtain⟨e,f,h⟩:=h;have f1:isSubtype (.type "dict") (.type "dict")=pure true:=Po
   wp_walk using wpAny_loadPart' e,wpAny_loadPart' f,same0 h1 h2 e f
   exact⟨_,rfl,h⟩
section
variable{A:L8}{s:δ}
theorem qas2{f:Nat}{c:Option γ}{d:Array (Option V')}(h1:(l == Ls)=false)(h2:(b == Ls)=false)(e:s.heap.get? l=some { cls:=.type "dict",dict:=dd,data:=.dict #[] n,slots:=sl })(a:s.heap.get? b=some { cls:=.type "dict",dict:=c,data:=.dict #[] f,slots:=d })(g:A.units < cLine):RcAt A s (.ref l) (.ref b) true/\RcNeAt A s (.ref l) (.ref b) false :=
 ⟨λ prog w E Q h=>richCompare_meets_room (op:=.Eq) ⟨_,e,rfl⟩ ⟨_,a,rfl⟩ Pa Pq (Pj _ _) (qaO5 l b n f dd c sl d h1 h2) ⟨e,a,show Oo true≠Os/\Q (.bool true) s from⟨(λ x=>nomatch x),h⟩⟩ g,
  λ prog w E Q h=>richCompare_meets_room (op:=.NotEq) ⟨_,e,rfl⟩ ⟨_,a,rfl⟩ Pb Ps (Pk _ _) (qaL5 l b n f dd c sl d h1 h2) ⟨e,a,show Oo false≠Os/\Q (.bool false) s from⟨(λ x=>nomatch x),h⟩⟩ g⟩
theorem rc_dt{es:Array DictEntry}{items2:Array V'}(c:s.heap.get? l=some { cls:=.type "dict",dict:=dd,data:=.dict es n,slots:=sl })(r:s.heap.IsTuple b items2)(q:A.units < cLine):RcAt A s (.ref l) (.ref b) false/\RcNeAt A s (.ref l) (.ref b) true:=by
 obtain⟨⟨cls2,f,data2,g⟩,a,i,p,j⟩:=id r;simp only at i j;subst i j;have m:l≠b:=λ e=>by
   subst e;rw[c] at a
   have:=congrArg (λ o:Option Obj=>o.map (·.cls)) a
   simp at this
 exact⟨λ prog w E Q h=>rc_eq_decline_or (k:=false) ⟨_,c,rfl⟩ ⟨_,a,rfl⟩ (by decide) O7 Pa Pc
     (λ _ d=>Lx Pa ⟨_,c,rfl⟩ Pq (Pj _ _) (qaD7 l b es items2 n p dd f sl g) ⟨c,a,d⟩)
     (λ _ d=>Lx Pc ⟨_,a,rfl⟩ F.entry_tuple_eq (F.args_tuple_eq_2 _ _) (qaw3 l b es items2 n p dd f sl g) ⟨c,a,d⟩)
     (λ _ d=>wpAny_isSame_ref_other m c a (by simp) d) (.inr q) h,
   λ prog w E Q h=>rc_ne_decline_or (k:=false) ⟨_,c,rfl⟩ ⟨_,a,rfl⟩ (by decide) O7 Pb Pd
     (λ _ d=>Lx Pb ⟨_,c,rfl⟩ Ps (Pk _ _) (qaA7 l b es items2 n p dd f sl g) ⟨c,a,d⟩)
     (λ _ d=>Lx Pd ⟨_,a,rfl⟩ F.entry_tuple_ne (F.args_tuple_ne_2 _ _) (qaw2 l b es items2 n p dd f sl g) ⟨c,a,d⟩)
     (λ _ d=>wpAny_isSame_ref_other m c a (by simp) d) (.inr q) h⟩
end
end LD
namespace L2
open PySem PySem.Spec PyProof.Rows PySem.SeqAt
variable{A:L8}{a:γ}{xs:List V}
inductive EqD(H:Hp):Nat->V->V->Bool->Prop
 | flat {n:Nat} {x y:V} (hx:flatV x=true) (hy:flatV y=true):EqD H n x y (eqV x y)
 | same {n:Nat} (a:γ):EqD H n (.ref a) (.ref a) true
 | lsts {n:Nat} {a b:γ} {xs ys:List V} {e:Nat->Bool} (ne:a≠b) (ha:H a=some (.l xs)) (hb:H b=some (.l ys)) (hl:xs.length=ys.length) (he:∀ i x y,xs[i]? = some x->ys[i]? = some y->EqD H n x y (e i)):EqD H (n+1) (.ref a) (.ref b) ((Ms xs.length).all e)
 | lens {n:Nat} {a b:γ} {xs ys:List V} (ne:a≠b) (ha:H a=some (.l xs)) (hb:H b=some (.l ys)) (hl:xs.length≠ys.length):EqD H (n+1) (.ref a) (.ref b) false
 | tups {n:Nat} {a b:γ} {xs ys:List V} {e:Nat->Bool} (ne:a≠b) (ha:H a=some (.q xs)) (hb:H b=some (.q ys)) (he:∀ i x y,xs[i]? = some x->ys[i]? = some y->EqD H n x y (e i)):EqD H (n+1) (.ref a) (.ref b) ((Ms (min xs.length ys.length)).all e&&xs.length == ys.length)
 | dcts {n:Nat} {a b:γ} (ne:a≠b) (ha:H a=some (.dK [])) (hb:H b=some (.dK [])):EqD H n (.ref a) (.ref b) true
inductive RcD(H:Hp):V->V->Bool->Prop
 | flat {x y:V} (hx:flatV x=true) (hy:flatV y=true):RcD H x y (eqV x y)
 | lsts {a b:γ} {xs ys:List V} {e:Nat->Bool} (ha:H a=some (.l xs)) (hb:H b=some (.l ys)) (hl:xs.length=ys.length) (he:∀ i x y,xs[i]? = some x->ys[i]? = some y->EqD H 20 x y (e i)):RcD H (.ref a) (.ref b) ((Ms xs.length).all e)
 | lens {a b:γ} {xs ys:List V} (ha:H a=some (.l xs)) (hb:H b=some (.l ys)) (hl:xs.length≠ys.length):RcD H (.ref a) (.ref b) false
 | tups {a b:γ} {xs ys:List V} {e:Nat->Bool} (ha:H a=some (.q xs)) (hb:H b=some (.q ys)) (he:∀ i x y,xs[i]? = some x->ys[i]? = some y->EqD H 20 x y (e i)):RcD H (.ref a) (.ref b) ((Ms (min xs.length ys.length)).all e&&xs.length == ys.length)
 | lt {a b:γ} {xs ys:List V} (ha:H a=some (.l xs)) (hb:H b=some (.q ys)):RcD H (.ref a) (.ref b) false
 | tl {a b:γ} {xs ys:List V} (ha:H a=some (.q xs)) (hb:H b=some (.l ys)):RcD H (.ref a) (.ref b) false
 | lf {a:γ} {xs:List V} {y:V} (ha:H a=some (.l xs)) (hy:flatV y=true):RcD H (.ref a) y false
 | fl {a:γ} {xs:List V} {y:V} (ha:H a=some (.l xs)) (hy:flatV y=true):RcD H y (.ref a) false
 | tf {a:γ} {xs:List V} {y:V} (ha:H a=some (.q xs)) (hy:flatV y=true):RcD H (.ref a) y false
 | ft {a:γ} {xs:List V} {y:V} (ha:H a=some (.q xs)) (hy:flatV y=true):RcD H y (.ref a) false
 | dcts {a b:γ} (ha:H a=some (.dK [])) (hb:H b=some (.dK [])):RcD H (.ref a) (.ref b) true
 | dt {a b:γ} {kvs:List (Key×V)} {ys:List V} (ha:H a=some (.dK kvs)) (hb:H b=some (.q ys)):RcD H (.ref a) (.ref b) false
section
variable{X:Cx}{T:List (γ×Obj)}{S:St}{H:Hp}{s:δ}
theorem Qa.lstI(I:Qa X T S H s)(h:H a=some (.l xs)):∃ its:List V',P9 xs its/\s.heap.IsList a its.toArray:=by
 obtain⟨z,its,n,r,_,e⟩:=I.lstM h;exact⟨its,r,_,e,rfl,n,rfl⟩
theorem Qa.tupI(I:Qa X T S H s)(h:H a=some (.q xs)):∃ its:List V',P9 xs its/\s.heap.IsTuple a its.toArray:=by
 obtain⟨z,its,r,o,b,c,n,d⟩:=I.hok a _ h;exact⟨its,r,o,b,c,n,d⟩
theorem Qa.dK0(I:Qa X T S H s){kvs:List (Key×V)}(h:H a=some (.dK kvs)):(a == Ls)=false/\∃ es n,s.heap.get? a=some { cls:=.type "dict",dict:=none,data:=.dict es n,slots:=#[] }/\(kvs=[]->es = #[]):=by
 obtain⟨_,i,p,j,o,es,k,m,⟨b,c,d⟩,f,_,g,_⟩:=I.hok a _ h;obtain⟨q,r,t,u⟩:=o;simp only at b c d f;subst b c d f;refine⟨i,es,k,m,λ e=>?_⟩;subst e;cases j;have e:es.toList=[]:=by
   generalize es.toList=l at g;cases g;rfl
 exact Array.toList_eq_nil_iff.mp e
theorem qv0(A:L8):A.in1.units<=A.units+1:=zA3 _
theorem qR3{P:V->V->Nat->Prop}{e:Nat->Bool}{ys:List V}{its its2:List V'}(r:P9 xs its)(a:P9 ys its2)(k:∀ i x y u v,xs[i]? = some x->ys[i]? = some y->P8 x u->P8 y v->EqAt A s u v (e i)) :
   ∀ j (h1:j < its.toArray.size) (h2:j < its2.toArray.size),EqAt A s its.toArray[j] its2.toArray[j] (e j):=by
 intro j h1 h2;rw[zA5] at h1 h2;have h:=r.length;have l:=a.length;obtain⟨u,b,d⟩:=r.get (i:=j) (x:=xs[j]'(by lia)) (by simp);obtain⟨v,c,f⟩:=a.get (i:=j) (x:=ys[j]'(by lia)) (by simp);have g:its.toArray[j]=u:=by
   have:its[j]? = some its[j]:=by simp[h1]
   rw[this] at b;simpa using Oy b
 have e2:its2.toArray[j]=v:=by
   have:its2[j]? = some its2[j]:=by simp[h2]
   rw[this] at c;simpa using Oy c
 rw[g,e2];exact k j _ _ u v (by simp) (by simp) d f
theorem EqD.at(I:Qa X T S H s){n:Nat}{x y:V}{b:Bool}(h:EqD H n x y b):∀{A:L8}{u v:V'},P8 x u->P8 y v->A.units+n+1 < cLine->EqAt A s u v b:=by
 induction h with
 | flat w z=>intro A u v c d _;exact qaO6 c d w z
 | same a=>intro A u v c d _;cases c;cases d;exact EqAt.same _
 | @lsts n a b xs ys e ne ha hb hl he ih =>
   intro A u v c d k;cases c;cases d;obtain⟨f,r,p⟩:=I.lstI ha;obtain⟨its2,g,j⟩:=I.lstI hb;have B:f.toArray.size=its2.toArray.size:=by rw[zA5,zA5,<- r.length,<- g.length,hl]
   have q:=EqAt.of_refs ne (RcAt.lists (A:=A) p j B (by lia) (e:=e) (qR3 (P:=λ _ _ _=>True) r g λ i x y u v l e2 o t=>ih i x y l e2 o t (by have:=qv0 A;lia)));rw[zA5,<- r.length] at q;exact q
 | @lens n a b xs ys ne ha hb hl =>
   intro A u v c d k;cases c;cases d;obtain⟨f,r,p⟩:=I.lstI ha;obtain⟨its2,g,j⟩:=I.lstI hb;exact EqAt.of_refs ne (RcAt.lists_lengths p j (by rw[zA5,zA5,<- r.length,<- g.length];simpa using hl) (by lia))
 | @tups n a b xs ys e ne ha hb he ih =>
   intro A u v c d k;cases c;cases d;obtain⟨f,r,p⟩:=I.tupI ha;obtain⟨its2,g,j⟩:=I.tupI hb;have q:=EqAt.of_refs ne (RcAt.tuples (A:=A) p j (by lia) (e:=e) (qR3 (P:=λ _ _ _=>True) r g λ i x y u v l e2 o t=>ih i x y l e2 o t (by have:=qv0 A;lia)));rw[zA5,zA5,<- r.length,<- g.length] at q;exact q
 | @dcts n a b ne ha hb =>
   intro A u v c d k;cases c;cases d;obtain⟨C,L,m,D,E⟩:=I.dK0 ha;obtain⟨F,G,M,J,K⟩:=I.dK0 hb;cases E rfl;cases K rfl;exact EqAt.of_refs ne (LD.qas2 C F D J (by lia)).1
theorem RcD.at(I:Qa X T S H s){x y:V}{b:Bool}(h:RcD H x y b){u v:V'}(d:P8 x u)(c:P8 y v)(Q:A.units+60 < cLine):RcAt A s u v b/\RcNeAt A s u v (!b):=by
 cases h with
 | flat J o =>
   cases x with
   | non =>
     cases d;cases y with
     | non=>cases c;exact⟨RcAt.none_none,RcNeAt.none_none⟩
     | bl b=>cases c;exact⟨RcAt.none_bool b,RcNeAt.none_bool b⟩
     | int b=>obtain⟨t,rfl⟩:=c;exact⟨RcAt.none_int b t,RcNeAt.none_int b t⟩
     | str b=>obtain⟨t,rfl⟩:=c;exact⟨RcAt.none_str b t,RcNeAt.none_str b t⟩
     | _=>exact absurd (show false=true from o) zAk
   | bl a =>
     cases d;cases y with
     | non=>cases c;exact⟨RcAt.bool_none a,RcNeAt.bool_none a⟩
     | bl b=>cases c;exact⟨RcAt.bool_bool a b,RcNeAt.bool_bool a b⟩
     | int b=>obtain⟨t,rfl⟩:=c;exact⟨RcAt.bool_int a b t,RcNeAt.bool_int a b t⟩
     | str b=>obtain⟨t,rfl⟩:=c;exact⟨RcAt.bool_str a b t,RcNeAt.bool_str a b t⟩
     | _=>exact absurd (show false=true from o) zAk
   | int a =>
     obtain⟨j,rfl⟩:=d;cases y with
     | non=>cases c;exact⟨RcAt.int_none a j,RcNeAt.int_none a j⟩
     | bl b=>cases c;exact⟨RcAt.int_bool a j b,RcNeAt.int_bool a j b⟩
     | int b=>obtain⟨t,rfl⟩:=c;exact⟨RcAt.int_int a j b t,RcNeAt.int_int a j b t⟩
     | str b=>obtain⟨t,rfl⟩:=c;exact⟨RcAt.int_str a j b t,RcNeAt.int_str a j b t⟩
     | _=>exact absurd (show false=true from o) zAk
   | str a =>
     obtain⟨j,rfl⟩:=d;cases y with
     | non=>cases c;exact⟨RcAt.str_none a j,RcNeAt.str_none a j⟩
     | bl b=>cases c;exact⟨RcAt.str_bool a j b,RcNeAt.str_bool a j b⟩
     | int b=>obtain⟨t,rfl⟩:=c;exact⟨RcAt.str_int a j b t,RcNeAt.str_int a j b t⟩
     | str b=>obtain⟨t,rfl⟩:=c;exact⟨RcAt.str_str a j b t,RcNeAt.str_str a j b t⟩
     | _=>exact absurd (show false=true from o) zAk
   | _=>exact absurd (show false=true from J) zAk
 | @lsts a b xs ys e f n hl he =>
   cases d;cases c;obtain⟨g,r,p⟩:=I.lstI f;obtain⟨its2,q,l⟩:=I.lstI n;have w:g.toArray.size=its2.toArray.size:=by rw[zA5,zA5,<- r.length,<- q.length,hl]
   have k:=qR3 (P:=λ _ _ _=>True) (e:=e) (A:=A.in1) (s:=s) r q λ i x y u v B e2 C D=>(he i x y B e2).at I C D (by have:=qv0 A;lia)
   have z:=RcAt.lists p l w (by lia) k;have q2:=RcNeAt.lists p l w (by lia) k;rw[zA5,<- r.length] at z q2;exact⟨z,q2⟩
 | @lens a b xs ys f n hl =>
   cases d;cases c;obtain⟨g,r,p⟩:=I.lstI f;obtain⟨its2,q,l⟩:=I.lstI n;have w:(g.toArray.size != its2.toArray.size)=true:=by rw[zA5,zA5,<- r.length,<- q.length];simpa using hl
   exact⟨RcAt.lists_lengths p l w (by lia),RcNeAt.lists_lengths p l w (by lia)⟩
 | @tups a b xs ys e f n he =>
   cases d;cases c;obtain⟨g,r,p⟩:=I.tupI f;obtain⟨its2,q,l⟩:=I.tupI n;have k:=qR3 (P:=λ _ _ _=>True) (e:=e) (A:=A.in1) (s:=s) r q λ i x y u v B e2 C D=>(he i x y B e2).at I C D (by have:=qv0 A;lia)
   have z:=RcAt.tuples p l (by lia) k;have q2:=RcNeAt.tuples p l (by lia) k;rw[zA5,zA5,<- r.length,<- q.length] at z q2;exact⟨z,q2⟩
 | lt f n =>
   cases d;cases c;obtain⟨g,r,p⟩:=I.lstI f;obtain⟨its2,q,l⟩:=I.tupI n;exact⟨RcAt.list_tuple p l (by lia),RcNeAt.list_tuple p l (by lia)⟩
 | tl f n =>
   cases d;cases c;obtain⟨g,r,p⟩:=I.tupI f;obtain⟨its2,q,l⟩:=I.lstI n;exact⟨RcAt.tuple_list p l (by lia),RcNeAt.tuple_list p l (by lia)⟩
 | lf f o =>
   cases d;obtain⟨g,r,p⟩:=I.lstI f;cases y with
   | non=>cases c;exact⟨RcAt.list_none p (by lia),RcNeAt.list_none p (by lia)⟩
   | bl b=>cases c;exact⟨RcAt.list_bool b p (by lia),RcNeAt.list_bool b p (by lia)⟩
   | int b=>obtain⟨t,rfl⟩:=c;exact⟨RcAt.list_int b t p (by lia),RcNeAt.list_int b t p (by lia)⟩
   | str b=>obtain⟨t,rfl⟩:=c;exact⟨RcAt.list_str b t p (by lia),RcNeAt.list_str b t p (by lia)⟩
   | _=>exact absurd (show false=true from o) zAk
 | fl f o =>
   cases c;obtain⟨g,r,p⟩:=I.lstI f;cases x with
   | non=>cases d;exact⟨RcAt.none_list p (by lia),RcNeAt.none_list p (by lia)⟩
   | bl b=>cases d;exact⟨RcAt.bool_list b p (by lia),RcNeAt.bool_list b p (by lia)⟩
   | int b=>obtain⟨t,rfl⟩:=d;exact⟨RcAt.int_list b t p (by lia),RcNeAt.int_list b t p (by lia)⟩
   | str b=>obtain⟨t,rfl⟩:=d;exact⟨RcAt.str_list b t p (by lia),RcNeAt.str_list b t p (by lia)⟩
   | _=>exact absurd (show false=true from o) zAk
 | tf f o =>
   cases d;obtain⟨g,r,p⟩:=I.tupI f;cases y with
   | non=>cases c;exact⟨RcAt.tuple_none p (by lia),RcNeAt.tuple_none p (by lia)⟩
   | bl b=>cases c;exact⟨RcAt.tuple_bool b p (by lia),RcNeAt.tuple_bool b p (by lia)⟩
   | int b=>obtain⟨t,rfl⟩:=c;exact⟨RcAt.tuple_int b t p (by lia),RcNeAt.tuple_int b t p (by lia)⟩
   | str b=>obtain⟨t,rfl⟩:=c;exact⟨RcAt.tuple_str b t p (by lia),RcNeAt.tuple_str b t p (by lia)⟩
   | _=>exact absurd (show false=true from o) zAk
 | ft f o =>
   cases c;obtain⟨g,r,p⟩:=I.tupI f;cases x with
   | non=>cases d;exact⟨RcAt.none_tuple p (by lia),RcNeAt.none_tuple p (by lia)⟩
   | bl b=>cases d;exact⟨RcAt.bool_tuple b p (by lia),RcNeAt.bool_tuple b p (by lia)⟩
   | int b=>obtain⟨t,rfl⟩:=d;exact⟨RcAt.int_tuple b t p (by lia),RcNeAt.int_tuple b t p (by lia)⟩
   | str b=>obtain⟨t,rfl⟩:=d;exact⟨RcAt.str_tuple b t p (by lia),RcNeAt.str_tuple b t p (by lia)⟩
   | _=>exact absurd (show false=true from o) zAk
 | dcts f n =>
   cases d;cases c;obtain⟨F,K,m,E,G⟩:=I.dK0 f;obtain⟨L,M,R,N,O⟩:=I.dK0 n;cases G rfl;cases O rfl;exact LD.qas2 F L E N (by lia)
 | dt f n =>
   cases d;cases c;obtain⟨F,K,m,E,G⟩:=I.dK0 f;obtain⟨its2,q,l⟩:=I.tupI n;exact LD.rc_dt E l (by lia)
end
def rEqD:R2:=λ x y H Q=>∃ b,RcD H x y b/\Q (.bl b) H
def rNeD:R2:=λ x y H Q=>∃ b,RcD H x y b/\Q (.bl (!b)) H
theorem qi0{X:Cx}(e:X.A.units+64 < cLine):OpR X (Lh .Eq) rEqD:=by
 intro Eo s f H x y v u Q I a c ⟨b,d,q⟩;exact(d.at I a c (A:=X.A) (by lia)).1 X.prog X.w X.xe _ ⟨.bl b,H,I,rfl,q⟩
theorem qX6{X:Cx}(e:X.A.units+64 < cLine):OpR X (Lh .NotEq) rNeD:=by
 intro Eo s f H x y v u Q I a c ⟨b,d,q⟩;exact(d.at I a c (A:=X.A) (by lia)).2 X.prog X.w X.xe _ ⟨.bl (!b),H,I,rfl,q⟩
theorem qz4:∀{x:V},flatV x=true->eqV x x=true:=by
 intro x h;cases x with
 | non=>rfl
 | bl b=>exact zAw b
 | int b=>exact zAw b
 | str b=>exact zAw b
 | _=>exact absurd (show false=true from h) zAk
theorem Room.u64{k:Nat}(a:Room k A):A.units+64 < cLine:=a.units
end L2
namespace L2
open PySem PySem.Spec PyProof.Rows
variable{vs:Array V'}
structure Cl(K:O0)(mg:Str->Option V')(x:Str)(C:γ):Prop where
 cl:Cls K C
 m:mg x=some (.ref C)
structure Md(K:O0)(C:γ)(m qual:Str)(st:Mb)(f:γ)(fd:ε)(ps:List Str):Prop where
 F:Fun K m qual st f fd
 b:Binds K fd ps []
 me:Jy K C m f
 isf:W.isFn K (.ref f)=true
theorem mdmk{K:O0}{C:γ}{m qual:Str}{st:Mb}{f:γ}{ps:List Str}{oc:V'}{od e:Option γ}{n:Array (Option V')}{kV d g b j:V'}(l:K.lookup f=some ⟨oc,od,.func (W.fnOf m qual (qe7 st) (qc9 st) (qa3 st) .none kV d g e b j),n⟩)(c:W.codeIn K b qual=true)(k:W.keepIn K (.ref f)=true)(a:W.findIn K (.ref C) m=some (some (.ref f)))(i:W.isFn K (.ref f)=true)(h:∀(kV d g:V')(e:Option γ)(b j:V')(us:List V'),us.length=ps.length->bindArgs (W.fnOf m qual (qe7 st) (qc9 st) (qa3 st) .none kV d g e b j) ⟨us,[]⟩=pure (ps.zip us)) :
   Md K C m qual st f (W.fnOf m qual (qe7 st) (qc9 st) (qa3 st) .none kV d g e b j) ps:=⟨qao0 l c k,(qao0 l c k).binds h,⟨a,i,k⟩,i⟩
section
variable{M:Model}{A:L8}{E:V'->δ->Prop}{s:δ}
structure Left(h h':Heap)(f:List γ)(e T:γ)(oe:Obj)(old:Option V'):Prop where
 new:h.objs.size<=T
 keep:∀ b o,h.get? b=some o->b≠e->old≠some (.ref b)->b∉f->h'.get? b=some o
 slot:∀ b o,h.get? b=some o->b∈f->∃ sl,h'.get? b=some { o with slots:=sl }
 there:∀ b o,h.get? b=some o->∃ o',h'.get? b=some o'
 exc:∃ vs oT ts,h'.get? e=some { oe with data:=.fields vs }/\1 < vs.size/\vs[1]? = some (.ref T)/\T≠e/\h'.get? T=some oT/\oT.data=.fields ts/\ts[3]? = some .none
theorem qat2{o:Obj}(e:o.data=.fields vs)(g:Array V'->Array V'):Obj.mapFields g o={ o with data:=.fields (g vs) }:=by
 obtain⟨a,b,c,d⟩:=o;cases e;rfl
theorem qK3{base:Heap}{env:Env}{outer:List Env}{L e:γ}{oe:Obj}{c:V'}{P:Bool}{old:Option V'}{Q:Unit->δ->Prop}(m:A.frames=some (env::outer))(B:s.heap.FunFrames base (env::outer))(R:env.frame=some L)(l:s.heap.get? e=some oe)(g:oe.data=.fields vs)(hsz:1 < vs.size)(h:∀ h' T,Left s.heap h' ((env::outer).filterMap (·.frame)) e T oe old->Q () { s with heap:=h' }) :
   L5 M A (do let a <- frameOf env;let pl <- entryPlaceOf L P;let b <- EntryCells.newEntry c a .none (rawInt L) .none pl;setField (.ref e) 1 b)
     (λ _ s'=>L5 M A (setFlight (.ref e) none) Q E s') E s:=by
 have i:∀ b o n,s.heap.get? b=some o->o.data=.fields n->b∉(env::outer).filterMap (·.frame):=λ b o n p q2 q=>by
   obtain⟨_,W,C,S⟩:=B.mem q;rw[p] at C;cases C;exact S n q2
 refine G' (wpAny_frameOf_fun m B R λ g1 p=>?_);refine G' (wpAny_entryPlaceOf λ pl r=>?_);unfold EntryCells.newEntry newFields;refine G' (wpAny_newObj_type ?_ (r.sizeOk5 _ _ _ _ _));obtain⟨U,D,F⟩:=p;have G:g1.get? e=some oe:=(D e (i e oe vs l g)).trans l;generalize j:({ cls:=.type "traceback",dict:=none,data:=.fields ([c,.ref L,.none,rawInt L,.none]++(if pl.isEmpty then Mr 6 Ol else pl)).toArray }:Obj)=oT;have k:∃ t,oT.data=.fields t/\3 < t.size:=by
   refine⟨([c,.ref L,.none,rawInt L,.none]++(if pl.isEmpty then Mr 6 Ol else pl)).toArray,by rw[<- j],?_⟩;simp only[zA5,zAe,zAm,zCj];lia
 have nf:oT.isFreed=false:=by rw[<- j];rfl
 obtain⟨t,k,H⟩:=k;have e2:=zA2 (h:=g1) oT G;refine wpAny_setField e2 g hsz ?_;have u:g1.objs.size≠e:=Nat.ne_of_gt (zA7 G);have I:=Obj.data_mapFields g (·.setIfInBounds 1 (Oj g1.objs.size));have J:=zBt (Obj.mapFields (·.setIfInBounds 1 (Oj g1.objs.size))) e2 (Obj.isFreed_of_fields I);have K:((g1.push oT).update e (Obj.mapFields (·.setIfInBounds 1 (Oj g1.objs.size)))).get? g1.objs.size=some oT:=(zBh _ _ (Ne.symm u)).trans (zAy g1 nf);unfold setFlight;refine G' (wpAny_field J I (x:=.ref g1.objs.size) (by simp[hsz]) ?_);rw[if_pos (show (Oj g1.objs.size != Ol)=true from by simp)];refine wpAny_setField K k H (h _ g1.objs.size ?_);have keep:∀ b o,b≠e->g1.get? b=some o->(((g1.push oT).update e (Obj.mapFields (·.setIfInBounds 1 (Oj g1.objs.size)))).update g1.objs.size (Obj.mapFields (·.setIfInBounds 3 ((none:Option γ).elim Ol λ f=>rawInt f)))).get? b=some o:=λ b o v w=>by
   rw[zBh _ _ (Nat.ne_of_gt (zA7 w)),zBh _ _ (Ne.symm v)];exact zA2 _ w
 have N:(((g1.push oT).update e (Obj.mapFields (·.setIfInBounds 1 (Oj g1.objs.size)))).update g1.objs.size (Obj.mapFields (·.setIfInBounds 3 ((none:Option γ).elim Ol λ f=>rawInt f)))).get? e=some { oe with data:=.fields (vs.setIfInBounds 1 (Oj g1.objs.size)) }:=by
   rw[zBh _ _ u,J,qat2 g]
 refine⟨zCe U.symm,λ b o d v w V=>keep b o v ((D b V).trans d),λ b o d q=>?_,λ b o d=>?_,_,_,_,N,by simpa using hsz,by simp[hsz],u,zBt _ K (Obj.isFreed_of_fields (Obj.data_mapFields k _)),Obj.data_mapFields k _,by simp[H]⟩
 . obtain⟨O,y⟩:=F b o d
   refine⟨O,keep b _ (λ z=>?_) y⟩;subst z;rw[l] at d;cases d;exact i b _ vs l g q
 obtain⟨O,y⟩:=F b o d;by_cases z:b=e
 . subst z;exact⟨_,N⟩
 exact⟨_,keep b _ z y⟩
theorem qI7{base:Heap}{env:Env}{outer:List Env}{L e:γ}{oe:Obj}{Q:Unit->δ->Prop}(d:A.frames=some (env::outer))(p:s.heap.FunFrames base (env::outer))(r:env.frame=some L)(g:s.heap.get? e=some oe)(i:oe.data=.fields vs)(hsz:1 < vs.size)(B:vs[1]? = some .none∨∃ T j ts,vs[1]? = some (.ref T)/\T≠e/\s.heap.get? T=some j/\j.data=.fields ts/\ts[3]? = some .none)(h:∀ h' T,Left s.heap h' ((env::outer).filterMap (·.frame)) e T oe vs[1]? -> Q () { s with heap:=h' }) :
   L5 M A (noteFrame (.ref e) env) (λ _ s'=>L5 M A (setFlight (.ref e) none) Q E s') E s:=by
 unfold noteFrame;simp only[r];rcases B with k | ⟨T,j,ts,k,t,f,c,x⟩
 . refine G' (wpAny_field g i k ?_)
   rw[if_neg (by decide)];exact qK3 (old:=vs[1]?) d p r g i hsz h
 refine G' (wpAny_field g i k ?_);rw[if_pos (show (Oj T != Ol)=true from by simp)];refine G' (wpAny_field f c x ?_);rw[if_neg (show ¬ ((Ol == rawInt L)=true) from by simp[rawInt])];have C:=(Array.getElem?_eq_some_iff.mp x).1;refine G' (wpAny_setField f c C ?_);have other:∀ b,b≠T->(s.heap.update T (Obj.mapFields (·.setIfInBounds 3 Ol))).get? b=s.heap.get? b:=λ b a=>zBh _ _ (Ne.symm a)
 have D:∀ b∈(env::outer).filterMap (·.frame),b≠T:=λ b l z=>by
   obtain⟨_,K,m,n⟩:=p.mem l;subst z;rw[f] at m;cases m;exact n ts c
 have F:(s.heap.update T (Obj.mapFields (·.setIfInBounds 3 Ol))).get? T=some { j with data:=.fields (ts.setIfInBounds 3 .none) }:=by
   rw[zBt _ f (Obj.isFreed_of_fields (Obj.data_mapFields c _)),qat2 c]
 have v:(s.heap.update T (Obj.mapFields (·.setIfInBounds 3 Ol))).FunFrames base (env::outer):=p.of_keeps λ b o a w=>⟨o,(other b λ z=>by subst z;rw[f] at a;cases a;exact w ts c).trans a,rfl⟩
 refine qK3 (s:={ s with heap:=s.heap.update T (Obj.mapFields (·.setIfInBounds 3 Ol)) }) (old:=vs[1]?) d v r ((other e (Ne.symm t)).trans g) i hsz λ h' T' q=>h h' T' ?_
 obtain⟨G,q2,m,n,H⟩:=q;refine⟨by rwa[show (s.heap.update T (Obj.mapFields (·.setIfInBounds 3 Ol))).objs.size=s.heap.objs.size from Heap.size_update _ _ _] at G,λ b o a I y J=>?_,λ b o a l=>m b o ((other b (D b l)).trans a) l,λ b o a=>?_,H⟩
 . exact q2 b o ((other b λ z=>y (by rw[k,z])).trans a) I y J
 by_cases z:b=T
 . subst z;exact n _ _ F
 exact n b o ((other b z).trans a)
end
end L2
namespace L2
open PySem PySem.Spec PyProof.Rows Builtin Builtin.ObjectAttr
variable{ox:Obj}
noncomputable def Ke:List V'->Bool
 | .ref _::r=>Ke r
 | .type n::r=>Oq n::r == [.type "ValueError",.type "Exception",.type "BaseException",.type "object"]
 | _=>false
theorem qO3(self:V'):∀{l:List V'},Ke l=true->refuseLoop self "__setattr__" l=pure ():=by
 intro l
 induction l with
 | nil=>intro e;cases e
 | cons c r b =>
   intro e;cases c with
   | ref a=>rw[refuseLoop_ref];exact b e
   | type n=>rw[show (Oq n::r)=[.type "ValueError",.type "Exception",.type "BaseException",.type "object"] from zBl.mp e];exact F.store_ValueError.passes self
   | _=>cases e
structure Exc(K:O0)(C:γ):Prop where
 mro:(W.clsIn K C).any (λ cd=>Ke cd.mro)=true
 hd:W.hasDictIn K C=true
 kts:W.ktsIn K C "ValueError" = true
 sa:W.findIn K (.ref C) "__setattr__" = some (some (.builtin "object.__setattr__"))
 ga:W.findIn K (.ref C) "__getattribute__" = some (some (.builtin "BaseException.__getattribute__"))
 gt:W.findIn K (.ref C) "__getattr__" = some none
 be:W.mroIn K C (.type "BaseException")=some true
 ob:W.mroIn K C (.type "object")=some true
 ty:W.typeIn K (.ref C)=some (.type "type")
section
variable{prog:L7}{w:L9}{A:L8}{E:V'->δ->Prop}{s:δ}{K:O0}{x C:γ}{name:Str}{v:V'}
theorem qau6{R:Result->δ->Prop}{od:Option Obj}{a:Tok}(X:K.In s.heap)(I:W.InstAt s.heap x ox C od)(c:Exc K C)(b:W.findIn K (.ref C) name=some none)(h:L5 (L6 prog w) A.in1 (storeInOwnDict (.ref x) (.ref C) (.str name a) name v false)
     (λ fin s'=>match fin with | .done f=>R (.ok f) s' | .again c'=>c'.quiet=true/\codeAny (L6 prog w) A c' R s') (λ e s'=>R (.error e) s') s) :
   codeAny (L6 prog w) A (.call (.builtin "object.__setattr__") ⟨[.ref x,.str name a,v],[]⟩) R s:=by
 have SF:=F.store_object;obtain⟨d,g,i⟩:=W.any_some c.mro;have sub:W.Looks (L6 prog w) s.heap (isInstance (.ref x) (.type "object")) true:=I.type.andThen (W.looks_mroIn X c.ob);refine codeAny_call_builtin SF.slot.plain SF.entry (@W.check_slot (L6 prog w) _ _ s "object.__setattr__" "object" "__setattr__" (.ref x) [.str name a,v] [] _ SF.kind SF.split sub (SF.args (.ref x) (.str name a) v) ?_);have j:W.Looks (L6 prog w) s.heap (mroOf (.ref C)) d.mro:=(W.looks_clsIn X g).andThen .now;rw[W.osa_eq,refuse_eq];refine G' (G' (I.type.here (G' (j.here ?_))));rw[qO3 _ i];exact Ld (G' (I.type.here (G' ((W.looks_findIn X b).here (G' (Ld h))))))
theorem qaD3{Q:Unit->δ->Prop}{vs:Array V'}(X:K.In s.heap)(c:Exc K C)(i:s.heap.get? x=some ox)(a:ox.cls=.ref C)(d:ox.data=.fields vs)(f:ox.dict=none)(u:W.findIn K (.ref C) name=some none)(h:∀ h' j,h'.get? x=some { ox with dict:=some s.heap.objs.size }->h'.Ns1 s.heap.objs.size (λ y=>if y=name then some v else none)->(∀ b o,b≠x->s.heap.get? b=some o->h'.get? b=some o)->Q () { s with heap:=h',toks:=j }) :
   L5 (L6 prog w) A (setAttr (.ref x) name v) Q E s:=by
 obtain⟨M,z,B,g⟩:=ox;dsimp only at a d f;subst a d f;have I:W.InstAt s.heap x ⟨.ref C,none,.fields vs,g⟩ C none:=⟨i,rfl,rfl,True.intro⟩
 refine W.set_plain X I c.sa (qau6 (s:={ s with toks:=s.toks+1 }) X I c u ?_);obtain⟨N,D,k⟩:=W.any_some c.hd;refine G' (Ld (G' (G' (wpAny_loadPart i (G' (W.Looks.here (s:={ s with toks:=s.toks+1 }) (W.looks_clsIn X D) ?_))))));rw[k];have p:(s.heap.push { cls:=.type "dict",data:=.dict #[] }).get? x=some ⟨.ref C,none,.fields vs,g⟩:=zA2 _ i;have q:x≠s.heap.objs.size:=zAj (zA7 i);simp only[Bool.not_true,Bool.false_eq_true,if_false];rw[if_neg (by simp[typeHasDict])];refine G' (wpAny_alloc ?_);refine G' (wpAny_update p (Ld ?_));have gd:((s.heap.push { cls:=.type "dict",data:=.dict #[] }).update x λ o=>{ o with dict:=some s.heap.objs.size }).get? s.heap.objs.size=some { cls:=.type "dict",data:=.dict #[] } :=
   (Heap.get?_update_ne _ _ _ _ (Ne.symm q)).trans (Heap.get?_push_at rfl rfl)
 have F:((s.heap.push { cls:=.type "dict",data:=.dict #[] }).update x λ o=>{ o with dict:=some s.heap.objs.size }).Ns s.heap.objs.size (λ _=>none) :=
   ⟨_,#[],_,gd,rfl,λ e G=>absurd G (by simp),λ _=>rfl⟩
 show L5 _ _ (storeInDict s.heap.objs.size (.str name s.toks) name v) _ _ _;unfold storeInDict newKeyGuard;refine G' (Ld (G' (wpAny_nsSet1 (Heap.Ns1.of_empty F) λ h' r t=>?_)));obtain⟨O,H,J,l,m,n⟩:=r.count (Within.cons name v Within.nil);refine G' (wpAny_lookBehind l (by rw[m];exact pastItsLine_dict (zAd n (by rw[zAm,zCj,Lp];lia))) ?_);refine Ld (h h' _ ?_ r λ b o L e=>?_)
 . exact(t.2 x q).trans (zBt _ p rfl)
 exact(t.2 b (zAj (zA7 e))).trans ((Heap.get?_update_ne _ _ _ _ L).trans (zA2 _ e))
theorem qaD2{Q:Unit->δ->Prop}{vs:Array V'}{dx:γ}{mA:Str->Option V'}{ns:List Str}(X:K.In s.heap)(c:Exc K C)(q:s.heap.get? x=some ox)(d:ox.cls=.ref C)(f:ox.data=.fields vs)(g:ox.dict=some dx)(r:s.heap.Ns1 dx mA)(u:Within mA ns)(N:ns.length<=1000)(z:W.findIn K (.ref C) name=some none)(h:∀ h' i,h'.Ns1 dx (λ y=>if y=name then some v else mA y)->(∀ b o,b≠dx->s.heap.get? b=some o->h'.get? b=some o)->Q () { s with heap:=h',toks:=i }) :
   L5 (L6 prog w) A (setAttr (.ref x) name v) Q E s:=by
 obtain⟨O,B,D,j⟩:=ox;dsimp only at d f g;subst d f g;obtain⟨F,k,_⟩:=qv4 r;have I:W.InstAt s.heap x ⟨.ref C,some dx,.fields vs,j⟩ C (some F):=⟨q,rfl,rfl,k⟩
 refine W.set_plain X I c.sa (qau6 (s:={ s with toks:=s.toks+1 }) X I c z ?_);obtain⟨P,G,l⟩:=W.any_some c.hd;refine G' (Ld (G' (G' (wpAny_loadPart q (G' (W.Looks.here (s:={ s with toks:=s.toks+1 }) (W.looks_clsIn X G) ?_))))));rw[l];refine Ld (a:=some dx) (G' (Ld (G' ?_)));refine wpAny_nsSet1 (s:={ s with toks:=s.toks+1 }) r λ h' t H=>?_
 obtain⟨R,J,L,m,n,p⟩:=t.count (Within.cons name v u);refine G' (wpAny_lookBehind m (by rw[n];exact pastItsLine_dict (zAd p (by rw[zAm,Lp];lia))) ?_);exact Ld (h h' _ t λ b o M e=>(H.2 b M).trans e)
theorem qaO4{Q:V'->δ->Prop}{od:Obj}{expr:Bool}(X:K.In s.heap)(c:Exc K C)(I:W.InstAt s.heap x ox C (some od))(b:W.findObj K C (some od) name=some (.value v))(e:W.handedIn v=true)(h:∀ a,Q v { s with toks:=a }):L5 (L6 prog w) A (getAttr (.ref x) name expr) Q E s:=by
 have FB:=Pe;obtain⟨f,g,d,t,l⟩:=s;have L0:=I.type (M:=L6 prog w);have L1:=W.looks_findIn (M:=L6 prog w) X c.ga;have L2:=W.looks_findIn (M:=L6 prog w) X c.gt;have L3:=W.looks_find (M:=L6 prog w) X I b;have sub:W.Looks (L6 prog w) f (isInstance (.ref x) (.type "BaseException")) true:=L0.andThen (W.looks_mroIn X c.be);have i:builtinKind "BaseException.__getattribute__" = some .slot:=by decide +kernel
 have j:splitId "BaseException.__getattribute__" = some ("BaseException", "__getattribute__"):=by decide +kernel
 unfold getAttr getAttrBy;refine G' (wpAny_mkText (Lj (G' (L0.at (G' (L1.at ?_))))));dsimp only;have k:(Om "BaseException.__getattribute__" == Om "object.__getattribute__")=false:=by decide +kernel
 rw[k,Bool.and_false,if_neg zAk];unfold getAttrByItsOwn hookBefore;refine G' ?_;rw[if_pos (by rfl)];refine L2.at ?_;unfold callGetattribute boundAndCalled;rw[if_neg (by cases expr<;>decide)];refine G' (wpAny_attempt (Lj ?_));rw[FB.ga.bind (.ref x)];refine G' (Ld (wpAny_call ?_));refine codeAny_call_builtin FB.ga.plain Pt (@W.check_slot (L6 prog w) _ _ _ "BaseException.__getattribute__" "BaseException" "__getattribute__" (.ref x) [.str name t] [] _ i j sub (Pu (.ref x) (.str name t)) ?_);unfold Builtin.«object.__getattribute__»;refine G' (Ld (G' (Ld (G' (L0.at (G' (L3.at ?_)))))));refine Ld ?_;show L5 _ _ (handedOut v) _ _ _;rw[W.handedOut_of e];exact Ld (h _)
end
end L2
namespace L2
open PySem PySem.Spec PyProof.Rows
variable{Q:Unit->δ->Prop}{fr:Bool}{xe:V'->δ->Prop}
noncomputable abbrev mroVE:List V':=[.type "ValueError",.type "Exception",.type "BaseException",.type "object"]
def Hi(K:O0)(C:γ):Bool:=W.ktsIn K C "ValueError" && (K.lookup C).any λ o=>o.slots.toList[4]? == some (some (.builtin "ValueError.__new__"))&&(match o.data with
   | .cls cd=>W.tailIn K mroVE cd.mro.tail
   | _=>false)
theorem qah3{K:O0}{h:Heap}{C:γ}(X:K.In h)(q:Hi K C=true):∃ f g N bs d a i sub j b dd k l m p r,
   h.get? C=some (excClassObj f g C N bs d a i sub j b dd k l m p r "ValueError.__new__")/\OwnTail h mroVE d:=by
 unfold Hi at q;rw[zBe] at q;obtain⟨f,g,N,bs,d,a,i,sub,j,b,dd,k,l,m,p,r,n,s,_⟩:=W.kts_cls X q.1;have q2:=q.2;rw[Option.any_eq_true] at q2;obtain⟨o,t,q2⟩:=q2;have e:=(X _ _ t).symm.trans s;injection e with e
 subst e;rw[zBe] at q2;have c:some (some (Om n))=some (some (.builtin "ValueError.__new__")):=eq_of_beq q2.1;injection c with c
 injection c with c
 injection c with c
 subst c;exact⟨f,g,N,bs,d,a,i,sub,j,b,dd,k,l,m,p,r,s,W.tail_of_in X q2.2⟩
section
variable{prog:L7}{w:L9}{A:L8}{K:O0}{C R:γ}{h:Heap}{g:Array GenState}{d:Drawn}{t:Nat}{S:OsState}
theorem qao7{rest:List V'}{Q:Fin->δ->Prop}{E:V'->δ->Prop}(X:K.In h)(m:Hi K C=true)(hi:W.findIn K (.ref C) "__init__" = some (some (.ref R)))(i:W.typeIn K (.ref R)=some (.type "function"))(hrest:rest.length<=Lg)(j:L5 (L6 prog w) A (call (.ref R) (.ref (h.objs.size+1)::rest)) (λ r s'=>r=.none/\Q (.done (.ret (.ref (h.objs.size+1)))) s') E
     ⟨(h.push { cls:=.type "tuple",data:=.seq rest.toArray }).push { cls:=.ref C,data:=.fields #[.ref h.objs.size,.none,.none,.none,.bool false,.none] },g,d,t,S⟩) :
   L5 (L6 prog w) A (Builtin.«type.__call__» ⟨.ref C::rest,[]⟩) Q E ⟨h,g,d,t,S⟩:=by
 have F:=PySem.F.excBase_ValueError;obtain⟨v,x,N,y,k,f,B,sub,D,l,G,H,I,J,L,O,a,T⟩:=qah3 X m
 repeat (first | with_reducible refine Lr a ?_ | with_reducible refine wpAny_madeBy_exc a ?_ | wp_step)
 refine codeAny_call_builtin_code (Code.quiet_builtin _ F.quiet) (wpAny_check_new_subT F T a ?_);refine codeAny_exc_new_subT F T a ?_ hrest;show L5 _ _ _ _ _ _;have c:∀ b o,h.get? b=some o->((h.push { cls:=.type "tuple",data:=.seq rest.toArray }).push { cls:=.ref C,data:=.fields #[.ref h.objs.size,.none,.none,.none,.bool false,.none] }).get? b=some o:=λ b o e=>zA2 _ (zA2 _ e)
 have n:=c _ _ a;have p:((h.push { cls:=.type "tuple",data:=.seq rest.toArray }).push { cls:=.ref C,data:=.fields #[.ref h.objs.size,.none,.none,.none,.bool false,.none] }).get? (h.objs.size+1)=some { cls:=.ref C,data:=.fields #[.ref h.objs.size,.none,.none,.none,.bool false,.none] }:=by heap_get
 have q:(Oj C::k).contains (.ref C)=true:=by simp
 unfold isInstance
 repeat (first | with_reducible refine Lr p ?_ | (with_reducible refine wpAny_isSubtype_exc n ?_;rw[q]) | wp_step)
 show L5 _ _ (typeLookup (.ref C) _) _ _ _;have s:=(W.looks_findIn (M:=L6 prog w) X hi).keeps c;have u:=(W.bind_fn (M:=L6 prog w) X (.ref (h.objs.size+1)) i).keeps c;refine s.at (Lj (G' (u.at (G' (Lv j (λ r s' z=>?_) λ _ _ z=>z)))));obtain⟨rfl,z⟩:=z;exact Ld (Ld z)
theorem qaD4{rest:List V'}{Q E:V'->δ->Prop}(X:K.In h)(m:Hi K C=true)(hi:W.findIn K (.ref C) "__init__" = some (some (.ref R)))(c:W.typeIn K (.ref R)=some (.type "function"))(hrest:rest.length<=Lg)(e:L5 (L6 prog w) (A.under (.builtin "type.__call__" ⟨.ref C::rest,[]⟩)) (call (.ref R) (.ref (h.objs.size+1)::rest)) (λ r s'=>r=.none/\Q (.ref (h.objs.size+1)) s') E
     ⟨(h.push { cls:=.type "tuple",data:=.seq rest.toArray }).push { cls:=.ref C,data:=.fields #[.ref h.objs.size,.none,.none,.none,.bool false,.none] },g,d,t,S⟩) :
   L5 (L6 prog w) A (call (.ref C) rest) Q E ⟨h,g,d,t,S⟩:=by
 obtain⟨i,j,N,k,l,b,n,sub,o,f,p,q,s,u,v,x,a,T⟩:=qah3 X m;have f1:=tc_lookup;have f2:=tc_bind (.ref C);have y:(⟨h,g,d,t,S⟩:δ).TypeIs (.ref C) "type" := ⟨_,a,rfl⟩
 refine wpAny_call (codeAny_of_tree ?_);show L5 _ _ (callAny (.ref C) _) _ _ _
 repeat (any_goals (first | assumption | with_reducible refine Lr a ?_ | wp_step))
 refine⟨rfl,?_⟩;exact codeAny_call_builtin_at (Code.quiet_builtin _ (by decide +kernel)) entry_typeCall (wpAny_check_type_call_sub a (qao7 X m hi c hrest e))
end
section
variable{M:Model}{A:L8}{E:V'->δ->Prop}{s:δ}{env:Env}
theorem qac1{K:O0}{x:Sem V'}{Q:Flow->δ->Prop}(l:A.handled=none)(h:L5 M A x (λ v s₁=>∃ e oe vs C,v=.ref e/\K.In s₁.heap/\Exc K C/\s₁.heap.get? e=some oe/\oe.cls=.ref C/\oe.data=.fields vs/\vs[1]? = some .none/\E (.ref e) s₁) E s) :
   L5 M A (raiseStmt env (some x) none) Q E s:=by
 unfold raiseStmt;refine G' (Lv h (λ v s₁ q=>?_) λ _ _ x=>x);obtain⟨e,oe,vs,C,rfl,X,c,i,a,b,m,n⟩:=q;obtain⟨y,o,p,r⟩:=oe;dsimp only at a b;subst a b;obtain⟨z,B,N,D,t,j,F,sub,G,u,H,I,J,L,O,P,newId,k,w,_⟩:=W.kts_cls X c.kts;obtain⟨R,g,d,S,T⟩:=s₁;have f:(Oj C::t).contains (.type "BaseException")=true:=by rw[Nw,w,Bool.or_true]
 repeat (first | with_reducible refine Lr i ?_ | with_reducible refine Lr k ?_ | (with_reducible refine wpAny_isSubtype_exc k ?_;rw[f]) | with_reducible refine wpAny_field i rfl m ?_ | wp_step)
 exact wpAny_raiseNew_none l n
theorem qao9{K:O0}{e C D:γ}{oe:Obj}{b:Bool}{Q:Bool->δ->Prop}(X:K.In s.heap)(d:Exc K D)(k:s.heap.get? e=some oe)(a:oe.cls=.ref C)(hm:W.mroIn K C (.ref D)=some b)(h:Q b s) :
   L5 M A (excMatches (.ref e) (.ref D)) Q E s:=by
 obtain⟨o,p,N,q,l,i,r,sub,t,m,u,v,w,x,y,z,newId,j,n,_⟩:=W.kts_cls X d.kts;have L:=W.looks_mroIn (M:=M) X hm;obtain⟨B,g,F,G,H⟩:=s;have c:(Oj D::l).contains (.type "BaseException")=true:=by rw[Nw,n,Bool.or_true]
 have f:=tc_notTuple;unfold excMatches
 repeat (first | (with_reducible refine Lr k ?_;rw[a]) | with_reducible refine Lr j ?_ | (with_reducible refine wpAny_isSubtype_exc j ?_;rw[c]) | with_reducible refine L.at ?_ | wp_step)
 cases b<;>(wp_walk;exact h)
end
def Kf(e C:γ)(od:Option γ)(fr:Bool)(h:Heap):Prop:=∃ oe vs,h.get? e=some oe/\oe.cls=.ref C/\oe.dict=od/\oe.data=.fields vs/\1 < vs.size/\(fr=true->vs[1]? = some .none)
noncomputable abbrev Bk(e C:γ)(od:Option γ)(fr:Bool):HO:=.ext (Kf e C od fr)
def xdIs(d:γ)(fs:List (Str×V))(h:Heap):Prop:=∃ mA,h.Ns1 d mA/\(∀ f,RelO (fs.lookup f) (mA f))/\PySem.Within mA (fs.map (·.1))/\fs.length<=1000
abbrev XD(d:γ)(fs:List (Str×V)):HO:=.ext (xdIs d fs)
section
variable{P:L7}{w:L9}{H:Hp}{h:Heap}
theorem qao8{e C:γ}{od:Option γ}(q:Kf e C od fr h):ObjOk P w H h e (Bk e C od fr) :=
 ⟨q,let ⟨c,_,a,_⟩:=q;⟨c,a⟩,λ f g ⟨c,d,a,b⟩ k=>⟨c,d,k _ a,b⟩⟩
theorem xd_ok{d:γ}{fs:List (Str×V)}(q:xdIs d fs h):ObjOk P w H h d (XD d fs) :=
 ⟨q,let ⟨_,⟨o,_,_,a,_⟩,_⟩:=q;⟨o,a⟩,λ g i ⟨c,⟨o,e,f,a,r⟩,b⟩ k=>⟨c,⟨o,e,f,k _ a,r⟩,b⟩⟩
theorem qQ0{e C:γ}{od:Option γ}(a:HOk P w H h)(q:H e=some (Bk e C od fr)):Kf e C od fr h:=(a e _ q).1
theorem Ki{d:γ}{fs:List (Str×V)}(a:HOk P w H h)(q:H d=some (XD d fs)):xdIs d fs h:=(a d _ q).1
end
section
variable{X:Cx}{Eo:List (γ×Obj)}{σ:St}{H:Hp}{s:δ}{a C dx:γ}{fs:List (Str×V)}{f:Str}{v:V}{A:L8}{E:V'->δ->Prop}
theorem qaD6{y:V}{u:V'}(I:Qa X Eo σ H s)(e:H a=some (Bk a C none true))(c:Exc X.K C)(n:qd5 X.K C f)(J:P8 y u)(h:∀ dx s',H dx=none->dx≠a->Qa X Eo σ (upd (upd H dx (XD dx [(f,y)])) a (Bk a C (some dx) true)) s'->Q () s'):L5 (L6 X.prog X.w) A (setAttr (.ref a) f u) Q E s:=by
 obtain⟨W,L,v,x,M,B,N,O⟩:=qQ0 I.hok e;refine qaD3 I.kIn c v x B M n λ Y p D q2 m=>?_
 have P:a≠s.heap.objs.size:=zAj (zA7 v);have k:H s.heap.objs.size=none:=I.hok.fresh (zA3 _);have R:∀ b o,s.heap.get? b=some o->b≠s.heap.objs.size:=λ b o z=>zAj (zA7 z)
 refine h s.heap.objs.size _ k (Ne.symm P) (I.un (t':=p) ⟨λ b o z i _ _=>m b o (λ d=>?_) z,λ b o z i _ _=>⟨o.slots,m b o (λ d=>?_) z⟩,λ b o z i _=>?_,λ b o z _=>?_,λ b F z=>?_,λ b Z F z=>?_,λ b ps z=>?_⟩ λ b S z=>?_)
 . rw[d,e] at i;cases i
 . rw[d,e] at i;cases i
 . rw[qb5 (λ d=>by rw[d,e] at i;cases i),qb5 (R b o z)];exact i
 . by_cases d:b=a
   . rw[d];exact⟨_,D⟩
   exact⟨o,m b o d z⟩
 . rw[qb5 (λ d=>by rw[d,e] at z;cases z),qb5 (qc0 z k)];exact z
 . rw[qb5 (λ d=>by rw[d,e] at z;cases z),qb5 (qc0 z k)];exact z
 . exact⟨#[],by rw[qb5 (λ d=>by rw[d,e] at z;cases z),qb5 (qc0 z k)];simpa using z⟩
 by_cases q:b=a
 . subst q
   rw[qb4] at z;cases z;exact qao8 ⟨_,L,D,x,rfl,B,N,O⟩
 rw[qb5 q] at z;by_cases G:b=s.heap.objs.size
 . subst G
   rw[qb4] at z;cases z;refine xd_ok ⟨_,q2,λ g=>?_,λ g T=>?_,by simp⟩
   . show RelO (([(f,y)]:List (Str×V)).lookup g) (if g=f then some u else none)
     by_cases l:g=f
     . subst l;rw[if_pos rfl];simp only[Mu,zAw];exact J
     have:(g == f)=false:=zBs.mpr l
     simp[Mu,this,l,RelO]
   by_cases l:g=f
   . simp[l]
   exact absurd (by show (if g=f then some u else none)=none;rw[if_neg l]) T
 rw[qb5 G] at z;refine(I.hok b S z).stay (λ t U j r=>m t U ?_ r) (λ t r=>?_) λ t F r=>?_
 . rcases j with rfl | j
   . exact q
   intro d;rw[d,e] at j;cases j
 . rw[qb5 (λ d=>by rw[d,e] at r;cases r),qb5 (qc0 r k)];exact r
 rw[qb5 (λ d=>by rw[d,e] at r;cases r),qb5 (qc0 r k)];exact r
theorem qaD5{y:V}{u:V'}(I:Qa X Eo σ H s)(e:H a=some (Bk a C (some dx) true))(d:H dx=some (XD dx fs))(F:fs.length < 1000)(c:Exc X.K C)(n:qd5 X.K C f)(l:P8 y u)(h:∀ s',Qa X Eo σ (upd H dx (XD dx (Bn f y fs))) s'->Q () s'):L5 (L6 X.prog X.w) A (setAttr (.ref a) f u) Q E s:=by
 obtain⟨G,J,m,p,t,v,L,M⟩:=qQ0 I.hok e;obtain⟨i,B,r,j,_⟩:=Ki I.hok d;refine qaD2 I.kIn c m p v t B j (by rw[zAf];lia) n λ N b k q2=>h _ ?_
 refine I.write (x:=dx) (e:=dx) (t':=b) (by rw[d];exact True.intro) (.inl rfl) q2 (let ⟨o,_,_,z,_⟩:=k;⟨o,z⟩) (xd_ok ⟨_,k,λ g=>?_,λ g D=>?_,?_⟩)
 . show RelO ((Bn f y fs).lookup g) (if g=f then some u else i g)
   rw[qs7];by_cases q:g=f
   . rw[if_pos q,if_pos q];exact l
   rw[if_neg q,if_neg q];exact r g
 . by_cases q:g=f
   . rw[q];exact(qq0 f y fs).1
   refine(qq0 f y fs).2 g (j g λ z=>D ?_);show (if g=f then some u else i g)=none;rw[if_neg q];exact z
 have:=qs8 f y fs;lia
theorem qaO8{b:Bool}{Q:V'->δ->Prop}(I:Qa X Eo σ H s)(e:H a=some (Bk a C (some dx) fr))(p:H dx=some (XD dx fs))(c:Exc X.K C)(n:qd5 X.K C f)(l:fs.lookup f=some v)(h:∀ u s',Qa X Eo σ H s'->P8 v u->Q u s'):L5 (L6 X.prog X.w) A (getAttr (.ref a) f b) Q E s:=by
 obtain⟨q,t,x,i,j,k,_⟩:=qQ0 I.hok e;obtain⟨y,z,r,N,_⟩:=Ki I.hok p;obtain⟨u,B,m⟩:=RelO.some_of (v:=v) (o:=y f) (by rw[<- l];exact r f);obtain⟨D,F,d⟩:=qv4 z;obtain⟨O,G,L,g⟩:=q;dsimp only at i j k;subst i j k;have J:W.InstAt s.heap a ⟨.ref C,some dx,.fields t,g⟩ C (some D):=⟨x,rfl,rfl,F⟩
 exact qaO4 I.kIn c J (W.findObj_own c.hd n rfl (by rw[d,B])) (qT3 m) λ M=>h u _ (I.tok M) m
end
structure Fly(n:Nat)(H:Hp)(h:Heap)(a:γ):Prop where
 ge:n<=a
 tr:∃ C od,H a=some (Bk a C od false)
 ob:∃ oe vs,h.get? a=some oe/\oe.data=.fields vs/\1 < vs.size/\(vs[1]? = some .none∨∃ T oT ts,vs[1]? = some (.ref T)/\n<=T/\H T=none/\T≠a/\h.get? T=some oT/\oT.data=.fields ts/\ts[3]? = some .none)
theorem Fly.mono{m n:Nat}{H:Hp}{h:Heap}{a:γ}(F:Fly n H h a)(l:m<=n):Fly m H h a:=by
 obtain⟨b,c,d,e,f,g⟩:=F.ob;refine⟨zAd l F.ge,F.tr,b,c,d,e,f,?_⟩;rcases g with z | ⟨T,i,j,k,o,z⟩
 . exact .inl z
 exact .inr ⟨T,i,j,k,zAd l o,z⟩
def CX1(P:L7)(w:L9):CXT:=λ outer H s E e s'=>∃ a H',e=.ref a/\s'.os=s.os/\AllBare s'.gens/\Un (frs outer) [] H H' s.heap s'.heap/\HOk P w H' s'.heap/\Fly s.heap.objs.size H' s'.heap a/\E e none H'
structure Old(X:Cx)(Eo:List (γ×Obj))(n:Nat):Prop where
 st:X.s₀.heap.objs.size<=n
 loc:X.env.locals < n
 cell:∀ x c,X.env.cells.lookup x=some c->c < n
 pin:∀ p∈X.pn++Eo,p.1 < n
theorem Qa.old{X:Cx}{Eo:List (γ×Obj)}{b:St}{H:Hp}{s:δ}(I:Qa X Eo b H s):Old X Eo s.heap.objs.size :=
 ⟨I.sz,I.lt,λ x c e=>let ⟨_,_,z,_⟩:=I.cell x c e;zA7 z,λ p a=>zA7 (I.pin p a).1⟩
noncomputable def Hj:Option V'->List γ
 | some (.ref b)=>[b]
 | _=>[]
section
variable{X:Cx}{Eo:List (γ×Obj)}{σ:St}{H:Hp}{s:δ}{a T:γ}{n:Nat}{h':Heap}{oe:Obj}{vs:Array V'}
theorem Qa.left(I:Qa X Eo σ H s)(F:Fly n H s.heap a)(O:Old X Eo n)(m:s.heap.get? a=some oe)(N:oe.data=.fields vs)(L:Left s.heap h' (frs X.stack) a T oe vs[1]?) :
   Qa X Eo σ H { s with heap:=h' }/\Fly n H h' a:=by
 obtain⟨C,P,i⟩:=F.tr;obtain⟨t,y,D,q2,q3,E⟩:=F.ob;rw[m] at D;cases D;rw[N] at q2;cases q2;obtain⟨G,Q,R,J,e2,S,V,W,Y,Z⟩:=L.exc;have j:∀ b,vs[1]? = some (.ref b)->n<=b/\H b=none/\b≠a:=λ b z=>by
   rcases E with q | ⟨T',_,_,q,r1,r2,r3,_⟩
   . rw[q] at z;cases z
   rw[q] at z;cases z;exact⟨r1,r2,r3⟩
 have A:HOk X.prog X.w H h':=λ b u f=>by
   by_cases z:b=a
   . subst z
     rw[i] at f;cases f;obtain⟨t,y,p1,p2,p3,p4,p5,p6⟩:=qQ0 I.hok i;rw[m] at p1;cases p1;exact qao8 ⟨_,G,J,p2,p3,rfl,e2,λ z=>nomatch z⟩
   have K:∀ c,H c≠none->c∉frs X.stack:=λ c d hm=>d (I.stkFree c hm)
   refine(I.hok b u f).stay (λ c v d r=>L.keep c v r ?_ (λ h=>?_) ?_) (λ _ z=>z) λ _ _ z=>z
   . rcases d with rfl | d
     . exact z
     intro h;rw[h,i] at d;cases d
   . have:=(j c h).2.1
     rcases d with rfl | d
     . rw[this] at f;cases f
     rw[this] at d;cases d
   rcases d with rfl | d
   . exact K c (by rw[f];exact λ z=>nomatch z)
   exact K c (by rw[d];exact λ z=>nomatch z)
 refine⟨?_,F.ge,⟨C,P,i⟩,_,G,J,rfl,e2,.inr ⟨T,Q,R,S,zAd (zAd F.ge (zB5 (zA7 m))) L.new,I.hok.fresh L.new,V,W,Y,Z⟩⟩;have k:∀ b,b∈Hj vs[1]? ↔ vs[1]? = some (.ref b):=λ b=>by
   rcases E with q | ⟨T',_,_,q,_⟩
   . rw[q];simp[Hj]
   rw[q];simp[Hj,eq_comm]
 have U:Un (frs X.stack) (Hj vs[1]?) H H s.heap h':=by
   refine⟨λ b o z l B M=>L.keep b o z (λ h=>?_) (λ h=>M ((k b).mpr h)) B,λ b o z l B M=>L.slot b o z B,λ _ _ _ l _=>l,λ b o z _=>L.there b o z,λ _ _ z=>z,λ _ _ _ z=>z,λ b ps z=>⟨#[],by rw[z];simp⟩⟩;rw[h,i] at l;cases l
 exact I.call (g':=s.gens) (t':=s.toks) (d':=s.drawn) (ch:=Hj vs[1]?) U A I.bare λ b f=>by
   have g:=(j b ((k b).mp f)).1;refine⟨.inr (zAd O.st g),Nat.ne_of_gt (zA8 O.loc g),λ x c e=>zAj (zA8 (O.cell x c e) g),λ p hp=>zAj (zA8 (O.pin p hp) g)⟩
end
def Lands(X:Cx)(E:St->XK):Prop:=∀(Eo:List (γ×Obj))(b:St)(H:Hp)(s:δ)(a:γ)(n:Nat),Qa X Eo b H s->Fly n H s.heap a->Old X Eo n->E b (.ref a) none H->X.xe (.ref a) s
theorem Lands.passes{X:Cx}{E:St->XK}(h:Lands X E):qL2 (CX1 X.prog X.w) X E:=λ Eo g H s e b I q=>by
 obtain⟨a,H',rfl,c,d,u,f,F,q⟩:=q;exact h Eo g H' b a _ (I.call' (ch:=[]) c u f d λ _ z=>nomatch z) F I.old q
theorem qa1{cm:Bool}{P:L7}{w:L9}{K:O0}{mg:Str->Option V'}{base:Heap}{N:List Str}{qual:Str}{scope:Scope}{f:γ}{cd:V'}{A:L8}{outer:List Env}{s₀:δ}{H₀:Hp}{E:XK} :
   Lands (Fi cm (CX1 P w) P w K mg base N qual scope f cd A outer s₀ H₀ E) (λ _=>E):=λ Eo t H s a n I F O q=>by
 obtain⟨p,b,c,d,e,g⟩:=id F.ob;show L5 _ _ (leaving _ _) _ _ s;unfold leaving;refine G' (qI7 (base:=base) (vs:=b) I.ok.frames I.stack rfl c d e ?_ λ r T L=>?_)
 . rcases g with z | ⟨T,h,i,j,_,_,k,l,m,o⟩
   . exact .inl z
   exact .inr ⟨T,h,i,j,k,l,m,o⟩
 obtain⟨J,F'⟩:=I.left (T:=T) F O c d L;exact⟨a,H,rfl,J.os,J.bare,J.base,J.hok,F'.mono O.st,q⟩
section
variable{X:Cx}{o e B:Ma}{pos pos':Pos}{E tv:TE}{f:Str}
def sEF(K:O0)(E tv:TE)(f:Str):TS:=λ D A H=>tv A H λ y H1=>E A H1 λ x H2=>∃ a C,x=.ref a/\Exc K C/\qd5 K C f /\
 ((H2 a=some (Bk a C none true)/\∀ dx,H2 dx=none->dx≠a->D.nx A (upd (upd H2 dx (XD dx [(f,y)])) a (Bk a C (some dx) true)))
  ∨ ∃ dx fs,H2 a=some (Bk a C (some dx) true)/\H2 dx=some (XD dx fs)/\fs.length < 1000/\D.nx A (upd H2 dx (XD dx (Bn f y fs))))
theorem qaI2(g:PE X o E)(i:PE X B tv)(j:swapsWith B (some (.Attribute o f pos')) pos.line X.env=pure false:=by rfl):PS X (.Assign [.Attribute o f pos'] B pos) (sEF X.K E tv f):=by
 intro Eo s A H D I h;refine plainObj_wpAny_Assign_Attribute (thn (i Eo s A H _ I h) λ u k b=>?_) j;obtain⟨y,H1,I1,d,q⟩:=b;refine thn (g Eo k A H1 _ I1 q) λ l w b=>?_
 obtain⟨x,H2,I2,m,a,C,p,c,n,q2⟩:=b;subst p;obtain rfl:l=Oj a:=m;rcases q2 with⟨ea,q2⟩ | ⟨e,fs,ea,ed,hl,q2⟩
 . exact qaD6 I2 ea c n d λ e r t v I3=>⟨A,_,I3,q2 e t v⟩
 exact qaD5 I2 ea ed hl c n d λ r I3=>⟨A,_,I3,q2⟩
def tEF(K:O0)(E:TE)(f:Str):TE:=λ A H Q=>E A H λ x H1=>∃ a C dx fr fs v,x=.ref a/\H1 a=some (Bk a C (some dx) fr)/\H1 dx=some (XD dx fs)/\Exc K C/\qd5 K C f/\fs.lookup f=some v/\Q v H1
theorem qaJ7(d:PE X e E)(g:Ln e f X.env (eval e X.env)=eval e X.env:=by rfl):PE X (.Attribute e f pos) (tEF X.K E f):=by
 intro Eo s A H Q I h;refine qav4 g (thn (d Eo s A H _ I h) λ u p b=>?_);obtain⟨x,H1,I1,i,a,C,r,t,w,v,j,k,m,c,n,l,q⟩:=b;subst j;obtain rfl:u=Oj a:=i;exact qaO8 I1 k m c n l λ y z I2 o=>⟨v,H1,I2,o,q⟩
theorem qaJ4{x:Str}(C:γ){pos:Pos}(hm:X.mg x=some (.ref C))(a:Gl X x:=by rfl)(b:N' x:=by decide):PE X (.Name x pos) (tC (.ref C)):=qac8 a hm rfl b
end
structure MkE(K:O0)(C f:γ):Prop where
 exc:Exc K C
 mke:Hi K C=true
 init:W.findIn K (.ref C) "__init__" = some (some (.ref f))
 fn:W.isFn K (.ref f)=true
 kp:W.keepIn K (.ref C)=true
def qaR3(C:γ)(sp:Sp)(E:St->XK)(t:TA):TS:=λ D c H=>t c H λ vs H1=>vs.length<=1000/\∀ a,H1 a=none->sp (.ref a::vs) (upd H1 a (Bk a C none true)) (λ v H2=>v=.non/\∃ b,H2 a=some (Bk a C b true)/\E c (.ref a) none (upd H2 a (Bk a C b false))) E0
section
variable{X:Cx}{k:Nat}{f C:γ}{fd:ε}{ps:List Str}{sp:Sp}{E:St->XK}{x:Str}{np cpos pos:Pos}{e:Ma}{es:List Ma}{t:TA}
theorem qay5(M:MkE X.K C f)(F:Ga X.prog X.w X.K X.mg X.base CX0 k f fd ps sp)(J:Room (k+1) X.A)(hm:X.mg x=some (.ref C))(T:Binds X.K fd ps [])(U:Lands X E)(Y:PA X (e::es) t)(Z:Gl X x:=by rfl)(l:N' x:=by decide)(he:Lf (e::es) X.env=(false,eval e X.env)::Lf es X.env:=by rfl)(m:(backTo cpos (Lf es X.env)).any (·.1)=false:=by rfl) :
   PS X (.Raise (some (.Call (.Name x np) (e::es) [] cpos)) none pos) (qaR3 C sp E t):=by
 intro Eo s σ H D I h;rw[arm_exec_Raise];refine G' (wpAny_standAt (qac1 (K:=X.K) (J.hd rfl) ?_));refine G' (wpAny_Call_Name_kw (qI8 I Z hm ?_ l));refine W.callWith_K (h₀:=X.base) I.ok.mod.kin M.kp (thn (Y cpos Eo s σ H _ I h) λ d s1 n=>?_) he m;obtain⟨vs,H1,I1,r,hz,q⟩:=n;refine⟨I1.kIn,?_⟩;obtain⟨c,g1,d1,t1,o1⟩:=s1;show L5 _ _ (call (.ref C) d) _ _ _;refine qaD4 I1.kIn M.mke M.init (zBl.mp M.fn) (by rw[<- r.length,Lp];lia) ?_;have nz:H1 (c.objs.size+1)=none:=I1.hok.fresh (Nat.le_succ _);have L:=q (c.objs.size+1) nz;have I2:=I1.kept (h':=c.push { cls:=.type "tuple",data:=.seq d.toArray }) (t':=t1) λ b u z=>zA2 _ z
 have g2:((c.push { cls:=.type "tuple",data:=.seq d.toArray }).push { cls:=.ref C,data:=.fields #[.ref c.objs.size,.none,.none,.none,.bool false,.none] }).get? (c.objs.size+1)=some { cls:=.ref C,data:=.fields #[.ref c.objs.size,.none,.none,.none,.bool false,.none] }:=by heap_get
 have I3:=I2.laid (a:=c.objs.size+1) (o:=Bk (c.objs.size+1) C none true) (t':=t1) (h':=(c.push { cls:=.type "tuple",data:=.seq d.toArray }).push { cls:=.ref C,data:=.fields #[.ref c.objs.size,.none,.none,.none,.bool false,.none] })
   (λ b u z=>zA2 _ z) (zCe (Heap.size_push _ _)) (qao8 ⟨_,_,g2,rfl,rfl,rfl,by simp,λ _=>by simp⟩)
 have N:P9 (V.ref (c.objs.size+1)::vs) (Oj (c.objs.size+1)::d):=.cons rfl r;have p:((Oj (c.objs.size+1)::d)++[]).length=ps.length:=by rw[zAg,<- N.length];exact F.len _ _ _ _ L
 have g:=T _ (Oj (c.objs.size+1)::d) I3.kIn p;rw[zAg] at g;refine wpAny_call (codeAny_mono (F.run _ X.stack _ _ ⟨Oj (c.objs.size+1)::d,[]⟩ (Oj (c.objs.size+1)::d) _ _ E0 (J.make C d []) (I3.env0.make C d []) g N L) λ y i z=>?_);cases y with
 | error e=>exact z.elim
 | ok fl =>
   cases fl with
   | ret u =>
     obtain⟨v,H',I4,rv,ev,O,P,q4⟩:=I3.after z;subst ev;refine⟨rv,?_⟩;refine G' (wpAny_standAt (Ld ?_));obtain⟨j,B,p1,Q,p3,G,R,S⟩:=qQ0 I4.hok P;refine⟨c.objs.size+1,j,B,C,rfl,I4.kIn,M.exc,p1,Q,G,S rfl,?_⟩;have I5:Qa X Eo σ (upd H' (c.objs.size+1) (Bk (c.objs.size+1) C O false)) i :=
       I4.write (x:=c.objs.size+1) (e:=c.objs.size+1) (h':=i.heap) (t':=i.toks) (by rw[P];exact True.intro) (.inl rfl) (λ _ _ _ z=>z) ⟨j,p1⟩ (qao8 ⟨j,B,p1,Q,p3,G,R,λ z=>nomatch z⟩)
     exact U Eo σ _ i (c.objs.size+1) c.objs.size I5 ⟨Nat.le_succ _,⟨C,O,qb4⟩,j,B,p1,G,R,.inl (S rfl)⟩ I1.old q4
   | next=>exact Py z
   | brk=>exact Py z
   | cont=>exact Py z
end
noncomputable def Xt(X:Cx)(xe:V'->δ->Prop)(pn:List (γ×Obj)):Cx:={ X with xe:=xe,pn:=pn }
noncomputable def Xh(X:Cx)(a:γ):Cx:={ X with A:=X.A.mark (some (.ref a)),calm:=false,xe:=λ _ _=>False }
section
variable{X:Cx}{Eo:List (γ×Obj)}{σ:St}{H:Hp}{s:δ}{a:γ}{n:Nat}
theorem Cx.Ok.t{b:List (γ×Obj)}(a:X.Ok):(Xt X xe b).Ok :=
 ⟨a.mod,a.kind,a.glob,a.blt,a.above,a.inj,a.has,a.cab,a.hd,a.frames,a.stk,a.exf,a.bs,a.bsz,a.noex,a.exfs,a.funs,a.frf⟩
theorem Cx.Ok.h(b:X.Ok):(Xh X a).Ok :=
 ⟨b.mod,b.kind,b.glob,b.blt,b.above,b.inj,b.has,b.cab,λ z=>(by cases z),b.frames,b.stk,b.exf,b.bs,b.bsz,b.noex,b.exfs,b.funs,b.frf⟩
theorem Qa.t(I:Qa X Eo σ H s):Qa (Xt X xe (X.pn++Eo)) [] σ H s :=
 ⟨I.ok.t,I.os,I.bare,I.base,I.loc,I.cell,I.free,I.freeC,λ p a=>I.pin p (by rw[zAg] at a;exact a),I.hok,I.len⟩
theorem Qa.unt{pins':List (γ×Obj)}(a:X.Ok)(I:Qa (Xt X xe (X.pn++Eo)) pins' σ H s):Qa X Eo σ H s :=
 ⟨a,I.os,I.bare,I.base,I.loc,I.cell,I.free,I.freeC,λ p b=>I.pin p (zC6 _ b),I.hok,I.len⟩
theorem Qa.h(I:Qa X Eo σ H s):Qa (Xh X a) Eo σ H s:=⟨I.ok.h,I.os,I.bare,I.base,I.loc,I.cell,I.free,I.freeC,I.pin,I.hok,I.len⟩
theorem Qa.unh(b:X.Ok)(I:Qa (Xh X a) Eo σ H s):Qa X Eo σ H s:=⟨b,I.os,I.bare,I.base,I.loc,I.cell,I.free,I.freeC,I.pin,I.hok,I.len⟩
theorem qao3{M:Model}{A:L8}{E:V'->δ->Prop}(I:Qa X Eo σ H s)(F:Fly n H s.heap a)(O:Old X Eo n)(h:∀ s',Qa X Eo σ H s'->Fly n H s'.heap a->Q () s') :
   L5 M A (setFlight (.ref a) none) Q E s:=by
 obtain⟨v,w,g,i,y,B⟩:=F.ob;unfold setFlight;rcases B with z | ⟨T,J,K,l,d,m,r,t,j,C⟩
 . refine G' (wpAny_field g i z ?_)
   rw[if_neg (by decide)];exact Ld (h s I F)
 refine G' (wpAny_field g i l ?_);rw[if_pos (show (Oj T != Ol)=true from by simp)];have u:=(Array.getElem?_eq_some_iff.mp C).1;refine wpAny_setField t j u ?_;have other:∀ b,b≠T->(s.heap.update T (Obj.mapFields (·.setIfInBounds 3 ((none:Option γ).elim Ol λ f=>rawInt f)))).get? b=s.heap.get? b:=λ b k=>zBh _ _ (Ne.symm k)
 have D:=zBt (Obj.mapFields (·.setIfInBounds 3 ((none:Option γ).elim Ol λ f=>rawInt f))) t (Obj.isFreed_of_fields (Obj.data_mapFields j _));refine h _ (I.turned (it:=T) (t':=s.toks) (λ b o k q=>(other b k).trans q) m (Nat.ne_of_gt (zA8 O.loc d)) (.inr (zAd O.st d)) (λ x c e=>zAj (zA8 (O.cell x c e) d)) λ p G=>zAj (zA8 (O.pin p G) d)) ?_;exact⟨F.ge,F.tr,v,w,(other a (Ne.symm r)).trans g,i,y,.inr ⟨T,_,_,l,d,m,r,D,Obj.data_mapFields j _,by simp[u]⟩⟩
theorem qT4{M:Model}{A:L8}{E:V'->δ->Prop}{j:Nat}{x:Str}{pos:Pos}(I:Qa X Eo σ H s)(J:X.N.Nodup)(K:X.N[j]? = some x)(L:X.env.scope.names.lookup x=some .local)(h:∀ s',Qa X Eo (σ.set j none) H s'->Q () s'):L5 M A (do bindName X.env x .none;unbindBehindTheSuite X.env x pos) Q E s:=by
 obtain⟨m,C,O⟩:=id I.loc;have f:(X.env.scope.kind == .class||(X.env.scope.kind == .module&&X.env.locals != X.env.globals))=false:=by rw[I.ok.kind];rfl
 have g:=I.cne;refine wpAny_nameGoes_keeps L C f λ h' v u a=>?_
 obtain⟨oL,_,_,P,_⟩:=id C;have w:∀ b o,X.s₀.heap.get? b=some o->b≠X.env.locals:=λ b o e=>zAj (zA8 (zA7 e) I.ok.above)
 refine h _ ⟨I.ok,I.os,I.bare,⟨λ b o e n B l=>?_,λ b o e n B l=>?_,I.base.free,λ b o e l=>?_,I.base.tups,I.base.frzs,I.base.tbls⟩,⟨_,u,λ i y r D e2 R=>?_⟩,λ y c e=>?_,I.free,I.freeC,λ p S=>?_,λ b T e=>?_,by simpa using I.len⟩
 . exact(a.2 b (w b o e)).trans (I.base.keep b o e n B l)
 . obtain⟨U,q⟩:=I.base.slot b o e n B l
   exact⟨U,(a.2 b (w b o e)).trans q⟩
 . obtain⟨V,q⟩:=I.base.there b o e l
   exact⟨V,(a.2 b (w b o e)).trans q⟩
 . have F:i≠j:=λ z=>by
     subst z;by_cases W:i < σ.length
     . rw[zBy W] at e2;cases e2
     rw[List.getElem?_eq_none (by rw[M'];lia)] at e2;cases e2
   rw[zBg (Ne.symm F)] at e2;obtain⟨Y,Z,q⟩:=O i y r D e2 R;refine⟨Y,Z,?_⟩;rcases q with⟨k,e⟩ | ⟨k,c,e,z⟩
   . refine .inl ⟨k,?_⟩
     have:y≠x:=λ e=>F (qP0 J D (e ▸ K))
     simp[this,e]
   exact .inr ⟨k,c,e,z.sameBut a (g y c e)⟩
 . obtain⟨r,z⟩:=I.cell y c e
   exact⟨r,z.sameBut a (g y c e)⟩
 . obtain⟨e,n,G,nf,d⟩:=I.pin p S
   exact⟨(a.2 p.1 G).trans e,n,G,nf,d⟩
 refine(I.hok b T e).stay (λ c r t q=>(a.2 c ?_).trans q) (λ _ q=>q) λ _ _ q=>q
 rintro rfl;rcases t with rfl | t
 . rw[I.free] at e;cases e
 rw[I.free] at t;cases t
end
def PH(X:Cx)(b:List ExceptHandler)(t:γ->TS):Prop :=
 ∀(Eo:List (γ×Obj))(s:δ)(c:St)(H:Hp)(D:Bw)(a:γ)(n:Nat),Qa X Eo c H s->Fly n H s.heap a->Old X Eo n->t a D c H->L5 (L6 X.prog X.w) X.A (handleBy (.ref a) X.env b) (SP X Eo D) X.xe s
noncomputable def behind(j:Nat)(D:Bw):Bw:={ nx:=λ a H=>D.nx (a.set j none) H,rt:=D.rt,bk:=λ a H=>D.bk (a.set j none) H,ct:=λ a H=>D.ct (a.set j none) H }
section
variable{X:Cx}
theorem qaS1:PH X [] (λ _ _ _ _=>False):=λ _ _ _ _ _ _ _ _ _ _ h=>h.elim
def sTry(tb:(St->XK)->TS)(th:γ->TS):TS:=λ D Z H=>∃ E:St->XK,tb E D Z H/\∀ a Z' H',E Z' (.ref a) none H'->∃ Z'':St,Z''.length=Z'.length/\(∀(i:Nat)(v:V),Z''[i]? = some (some v)->Z'[i]? = some (some v))/\th a D Z'' H'
theorem qaR8{body:List Mb}{h₀:ExceptHandler}{c:List ExceptHandler}{pos:Pos}{tb:(St->XK)->TS}{th:γ->TS}(y:∀ E xe m,Lands (Xt X xe m) E->PSs (Xt X xe m) body (tb E))(B:PH X (h₀::c) th)(b:X.stack=X.env::X.outer:=by rfl)(d:X.env.frame=some X.env.locals:=by rfl):PS X (.Try body (h₀::c) [] [] pos) (sTry tb th):=by
 intro Eo s Z H D I ⟨E,C,q2⟩;refine wpAny_Try_except ?_
 let xe:V'->δ->Prop:=λ e s₁=>L5 (L6 X.prog X.w) X.A (noteFrame e X.env) (λ _ s₂=>L5 (L6 X.prog X.w) X.A (setFlight e none) (λ _ s₃=>L5 (L6 X.prog X.w) X.A (handleBy e X.env (h₀::c)) (SP X Eo D) X.xe s₃) X.xe s₂) X.xe s₁
 have G:Lands (Xt X xe (X.pn++Eo)) E:=λ pins' Z' H' g a n I' F O q=>by
   have J:Qa X Eo Z' H' g:=I'.unt I.ok;have O':Old X Eo n:=⟨O.st,O.loc,O.cell,λ p K=>O.pin p (zC6 _ K)⟩
   obtain⟨V,o,r,x,M,N⟩:=id F.ob;show L5 _ _ (noteFrame _ _) _ _ g;have h:X.A.frames=some (X.env::X.outer):=by rw[J.ok.frames,b]
   have i:g.heap.FunFrames X.base (X.env::X.outer):=by have:=J.stack;rwa[b] at this
   refine qI7 (base:=X.base) (vs:=o) h i d r x M ?_ λ W T L=>?_
   . rcases N with z | ⟨T,P,Q,j,_,_,k,l,R,S⟩
     . exact .inl z
     exact .inr ⟨T,P,Q,j,k,l,R,S⟩
   obtain⟨J2,F2⟩:=J.left (T:=T) F O' r x (by rw[b];exact L);obtain⟨Z'',j,k,l⟩:=q2 a Z' H' q;exact B Eo _ _ H' D a n (J2.weak j k) F2 O' l
 refine Lv (y E xe (X.pn++Eo) G [] s Z H D I.t C) (λ f Y z=>?_) λ _ _ z=>z
 cases f with
 | next=>obtain⟨Z',H',J,z⟩:=z;exact wpAny_execs_nil ⟨Z',H',J.unt I.ok,z⟩
 | brk=>obtain⟨Z',H',J,z⟩:=z;exact⟨Z',H',J.unt I.ok,z⟩
 | cont=>obtain⟨Z',H',J,z⟩:=z;exact⟨Z',H',J.unt I.ok,z⟩
 | ret u=>obtain⟨v,Z',H',J,U,z⟩:=z;exact⟨v,Z',H',J.unt I.ok,U,z⟩
end
end L2
namespace L2
open PySem PySem.Spec PyProof.Rows PySem.SeqAt
open PySem.AutoSeq1 (wpAny_loadPart')
theorem Fun.okX{P:L7}{w:L9}{K:O0}{mg:Str->Option V'}{base:Heap}{x qual:Str}{st:Mb}{f:γ}{fd:ε}{N ps:List Str}{k:Nat}{sp:Sp}(F:Fun K x qual st f fd)(S:qa8 N ps (qa3 st))(len:∀ vs H Q E,sp vs H Q E->vs.length=ps.length)(hbody:∀(a:V')(A:L8)(outer:List Env)(s:δ)(H:Hp)(vs:List V)(Q:VK)(E:XK),Room k (A.deeper (envOfC qual (qa3 st) s.heap.objs.size f a))->sp vs H Q E ->
     ∃ t,PSs (Fi true (CX1 P w) P w K mg base N qual (qa3 st) f a A outer s H E) (qc9 st) t/\t { nx:=λ _ H'=>Q .non H',rt:=Q } (start N vs) H):Ga P w K mg base (CX1 P w) (k+1) f fd ps sp:=by
 obtain⟨i,j,kV,d,l,m,a,n,e,rfl,g,b⟩:=F.ex;exact J1 g b S len λ A outer s H vs Q E h c=>hbody a A outer s H vs Q E h c
theorem qaB7(K:O0)(C:γ):O1 K (.ref C) (.ref C)=some true:=by
 unfold O1;rw[if_pos (zAw _)]
end L2
namespace L2
open PySem PySem.Spec PyProof.Rows
section
variable{X:Cx}{A:List (γ×Obj)}{y:St}{H:Hp}{s:δ}{h':Heap}
theorem Qa.turnedL{t':Nat}{ch:List γ}(I:Qa X A y H s)(k:∀ b o,b∉ch->s.heap.get? b=some o->h'.get? b=some o)(f:∀ b∈ch,G8 X A H b):Qa X A y H { s with heap:=h',toks:=t' }:=by
 have d:∀ b u,H b=some u->b∉ch:=λ b u e z=>by rw[(f b z).1] at e;cases e
 refine I.step (g':=s.gens) (d':=s.drawn) (ch:=ch) (λ b g=>?_) (λ b o _ _ a e _=>k b o a e) (λ b o _ _ a e _=>⟨o.slots,k b o a e⟩) (λ _ _ _ _ n=>n)
   (λ b o a e=>⟨o,k b o a e⟩) (λ _ _ e=>e) (λ _ _ _ e=>e) (λ b w e=>⟨#[],by rw[e];simp⟩) (λ m h=>?_) (λ b u e=>?_) I.bare
 . obtain⟨x,f1,f2,f3,i,j⟩:=f b g
   exact⟨f3,f1,i,j⟩
 . obtain⟨o,l,p,t,r⟩:=h
   exact⟨o,l,p,k _ o (λ z=>(f _ z).2.1 rfl) t,r⟩
 refine(I.hok b u e).stay (λ c v a q=>k c v ?_ q) (λ _ q=>q) λ _ _ q=>q
 rcases a with z | z
 . rw[z];exact d b u e
 exact d c _ z
end
def Ite(K:O0)(a:γ):It :=
 ⟨λ i H=>∃ xs x,SqL K H a xs/\xs[i]? = some x,λ i H x H'=>∃ t y,x=.ref t/\H t=none/\H'=upd H t (.q [.int (i:Int),y])/\∀ xs,SqL K H a xs->xs[i]? = some y,λ i H=>∃ xs,SqL K H a xs/\xs.length<=i⟩
theorem qak0{P:L7}{w:L9}{K:O0}{elts:List Ma}{x1:Nat}{pos:Pos}(a it e:γ)(m:e≠it):Jv P w K (.Tuple elts x1 pos) (Ite K a) [e,it] e (λ i h=>(∃ old,IsEnum h e it (i:Nat) old)/\h.IsListIter it a i) where
 mem:=by simp
 obj:=λ i h d b c=>by
   obtain⟨⟨old,f⟩,o,ho,B,hd⟩:=d;rcases zAn.mp c with rfl | c
   . exact⟨_,f,λ v z=>by
       have z':Data.fields _=Data.cell v:=z;cases z'⟩
   rw[zAl.mp c];exact⟨o,ho,λ v z=>by rw[hd] at z;cases z⟩
 keep:=λ i h Y d k=>by
   obtain⟨⟨old,f⟩,d⟩:=d;exact⟨⟨old,k e (by simp) _ f⟩,d.at λ o q=>k it (by simp) o q⟩
 item:=by
   intro X C D F B i Eo s W H E I n d G;subst C D F;obtain⟨xs,x,A,J⟩:=G;obtain⟨⟨old,f⟩,g⟩:=d;obtain⟨L,M,p,hz⟩:=I.list A;obtain⟨u,hu,ru⟩:=M.get J;have N:H s.heap.objs.size=none:=I.hok.fresh (zA3 _);obtain⟨oi,O,_⟩:=id g;have r:e < s.heap.objs.size:=zA7 f;have lt2:it < s.heap.objs.size:=zA7 O;refine wpAny_pyNext_enum_item f g p.isList (x:=u) (by simpa using hu) m λ Z Q t R a0 S=>?_
   refine⟨_,rfl,wpAny_letOwnedTupleGo_enum (s:={ s with heap:=Z,toks:=s.toks+1 }) Q λ T U j=>?_⟩
   replace j:Heap.SameBut e Z T:=j
   have I0:Qa X Eo W (upd H s.heap.objs.size (.q [.int (i:Int),x])) { s with heap:=s.heap.push { cls:=.type "tuple",data:=.seq #[.int i s.toks,u] },toks:=s.toks+1 } :=
     I.laid (λ b o q=>zA2 _ q) (zA3 _) ⟨by show 2<=Lg;decide,[.int i s.toks,u],.cons ⟨_,rfl⟩ (.cons ru .nil),⟨_,zAy _ rfl,rfl,_,rfl⟩⟩
   have I2:Qa X Eo W (upd H s.heap.objs.size (.q [.int (i:Int),x])) { s with heap:=T,toks:=s.toks+1 }:=by
     refine Qa.turnedL (s:={ s with heap:=s.heap.push { cls:=.type "tuple",data:=.seq #[.int i s.toks,u] },toks:=s.toks+1 }) (h':=T) (ch:=[e,it]) (t':=s.toks+1) I0 (λ b o c q=>?_) (λ b c=>?_)
     . have y:b≠e:=λ z=>c (by simp[z])
       have V:b≠it:=λ z=>c (by simp[z])
       refine j.extBut b o y ?_;rcases Heap.get?_push_cases (show (s.heap.push { cls:=.type "tuple",data:=.seq #[.int i s.toks,u] }).get? b=some o from q) with⟨rfl,rfl⟩ | q
       . exact R
       exact S b o y V q
     refine⟨?_,(n b c).2⟩;have l:b < s.heap.objs.size:=by
       rcases zAn.mp c with rfl | c
       . exact r
       rw[zAl.mp c];exact lt2
     rw[qb5 (zAj l)];exact(n b c).1
   refine⟨.ref s.heap.objs.size,_,I2,rfl,⟨_,x,rfl,N,rfl,λ ys hy=>by rw[I.list_inj hy A];exact J⟩,⟨⟨u,?_⟩,?_⟩,λ b c=>?_⟩
   . have:((i+1:Nat):Int)=(i:Int)+1:=by push_cast;rfl
     rw[this];exact U
   . exact t.extBut j.extBut (Ne.symm m)
   have l:b < s.heap.objs.size:=by
     rcases zAn.mp c with rfl | c
     . exact r
     rw[zAl.mp c];exact lt2
   rw[qb5 (zAj l)];exact(n b c).1
 done:=by
   intro X C D F B i Eo s W H E I n d G;subst C D F;obtain⟨xs,A,J⟩:=G;obtain⟨⟨old,f⟩,g⟩:=d;obtain⟨L,M,p,hz⟩:=I.list A;obtain⟨f0,f1,f2,f3,f4,f5⟩:=n it (by simp);have hl:=M.length;exact wpAny_pyNext_enum_end (I.ok.hd B) f g p.isList (by simp;lia) λ Y eb=>⟨rfl,I.turned (t':=s.toks) (λ b o c q=>eb b o c q) f0 f1 f3 f4 f5⟩
 self:=λ _ _ _ _ _ d h=>by
   obtain⟨⟨old,f⟩,_⟩:=d;exact wpAny_pyIter_enum f h
section
variable{X:Cx}
def iEnum(K:O0)(ta:TA):TI:=λ J H R=>ta J H λ vs H1=>∃ a,vs=[.ref a]/\(∃ xs,SqL K H1 a xs)/\R (Ite K a) H1
theorem qaI7{l:Ma}{ta:TA}{elts:List Ma}{j:Nat}{p pos tpos:Pos}(k:Gl X "enumerate")(hm:X.mg "enumerate" = none)(m:PA X [l] ta)(n:Lf [l] X.env=[(false,eval l X.env)]:=by rfl):PI X (.Tuple elts j tpos) (.Call (.Name "enumerate" p) [l] [] pos) (iEnum X.K ta):=by
 intro Eo s J H R I h;refine Call_ (qaf3 I k hm boot_enumerate (PyProof.Rows.callWith_type1 (thn (m pos Eo s J H _ I h) λ B c f=>?_) n rfl));obtain⟨C,H1,I1,o,t⟩:=f;obtain⟨a,e,⟨D,u⟩,q⟩:=t;subst e;cases o with
 | cons r v =>
   cases v;cases r;obtain⟨w,E,x,F⟩:=I1.list u;refine call_enumerate_list x.isList λ G i y z A=>?_
   refine wpAny_pyIter_enum i ?_;refine⟨c.heap.objs.size+1,[c.heap.objs.size+1,c.heap.objs.size],_,_,H1,rfl,I1.kept (t':=c.toks) A,qak0 a c.heap.objs.size (c.heap.objs.size+1) (Nat.succ_ne_self _),⟨⟨_,i⟩,y⟩,λ b g=>?_,q⟩;have d:c.heap.objs.size<=b:=by
     rcases zAn.mp g with rfl | g
     . exact Nat.le_succ _
     rw[zAl.mp g];exact zA3 _
   exact I1.fpOk d (I1.hok.fresh d)
end
section
variable{X:Cx}
def qaH2:V->List V->Hp->VK->Prop:=λ x vs H Q=>∃ l xs y j z,x=.ref l/\vs=[y]/\H l=some (.l xs)/\flatV y=true/\xs.all flatV=true/\xs[j]? = some z/\eqV z y=true/\(∀ m a,m < j->xs[m]? = some a->eqV a y=false)/\Q (.int (j:Nat)) H
theorem P9.getU{xs:List V}{us:List V'}(r:P9 xs us){j:Nat}{u:V'}(h:us[j]? = some u):∃ x,xs[j]? = some x/\P8 x u:=by
 have c:=r.length;have d:j < us.length:=(zA4.mp h).1;obtain⟨e,a,b⟩:=r.get (show xs[j]? = some xs[j] by simp);rw[h] at a;cases a;exact⟨_,by simp,b⟩
theorem qE8:MtM X "list.index" qaH2:=by
 intro Eo s S H x N v O Q I f C h;obtain⟨l,p,y,j,P,rfl,rfl,D,E,t,A,g,i,q⟩:=h;cases f;obtain⟨u,rfl,G⟩:=C.one;obtain⟨z,a,n,r,R,e⟩:=I.lstM D;have J:j < p.length:=(zA4.mp A).1;have B:=r.length;have small:((j:Nat):Int) < 2 ^ 63 - 1:=by
   have:Lg < 2 ^ 62:=by decide
   lia
 have eqAt:∀ m (d:m < a.toArray.size),∃ x,p[m]? = some x/\eqU y a.toArray[m]=eqV x y:=λ m d=>by
   have K:m < a.length:=by simpa using d
   obtain⟨x,b,f⟩:=r.getU (show a[m]? = some a[m] by simp);have L:flatV x=true:=zBd.mp t x (zB0 b);refine⟨x,b,?_⟩
   have:=qap1 (x:=y) f L
   simpa using this
 have c:j < a.toArray.size:=by simp;lia
 refine Lx O5 ⟨_,e,rfl⟩ F.entry_list_index (F.args_list_index_2 _ _) (SeqAt.list_indexAt l a.toArray n none #[] u (eqU y) j c small ?_ ?_) ⟨e,λ w M=>qo1 G E r t w (by simpa using M),⟨.int (j:Nat),H,I.tok _,⟨_,rfl⟩,q⟩⟩
 . obtain⟨x,b,k⟩:=eqAt j c
   rw[A] at b;cases b;rw[k];exact g
 intro m d o;obtain⟨x,b,k⟩:=eqAt m d;rw[k];exact i m x o b
def qaH4:V->List V->Hp->VK->Prop:=λ x vs H Q=>∃ l xs y,x=.ref l/\vs=[y]/\H l=some (.l xs)/\flatV y=true/\xs.all flatV=true/\Q (.int (xs.countP (λ z=>eqV z y):Nat)) H
theorem qU9{x:V}:∀{xs:List V}{us:List V'},P9 xs us->xs.all flatV=true->us.countP (eqU x)=xs.countP λ y=>eqV y x
 | _,_,.nil,_=>rfl
 | y::xs,u::us,.cons r t,f=>by
   rw[M5,zBe] at f;rw[N3,N3,qap1 r f.1,qU9 t f.2]
theorem qae3:MtM X "list.count" qaH4:=by
 intro Eo s S H x k v m Q I c d h;obtain⟨l,o,y,rfl,rfl,f,g,b,q⟩:=h;cases c;obtain⟨u,rfl,i⟩:=d.one;obtain⟨z,a,n,r,p,e⟩:=I.lstM f;refine Lx O8 ⟨_,e,rfl⟩ F.entry_list_count (F.args_list_count_2 _ _) (SeqAt.list_countAt l a.toArray n none #[] u (eqU y)) ⟨e,λ w j=>qo1 i g r b w (by simpa using j),⟨.int _,H,I.tok _,⟨_,rfl⟩,?_⟩⟩;rw[show a.toArray.toList.countP (eqU y)=a.countP (eqU y) by simp,qU9 r b];exact q
end
theorem qap8{K:O0}{a D:γ}{xs:List V}{g:TG}{tf:TT}{te:TE}{R:Hp->Prop}{u:St}{H:Hp}(Pv:Nat->St->Hp->Prop)(c:Pv 0 u H)(d:∀ i u H,i<=xs.length->Pv i u H->SqL K H a xs)(f:∀(i:Nat) x u H t,xs[i]? = some x->Pv i u H->H t=none->g (.ref t) u (upd H t (.q [.int (i:Int),x])) λ σ2 H2=>tf σ2 H2 λ h H3=>if h=true then te σ2 H3 λ v H4=>∃ ys,H4 D=some (.l ys)/\ys.length < Lg/\Pv (i+1) σ2 (upd H4 D (.l (ys++[v]))) else Pv (i+1) σ2 H3)(j:∀ u H,Pv xs.length u H->R H) :
   qv7 (Ite K a) g tf te D R u H:=by
 refine⟨λ i m u H=>m=xs.length - i/\i<=xs.length/\Pv i u H,⟨xs.length,by simp,zBk _,c⟩,?_⟩;rintro i m u H ⟨rfl,k,p⟩;have q:=d i u H k p;by_cases b:i < xs.length
 . refine .inr ⟨⟨xs,xs[i],q,by simp[b]⟩,Pv (i+1),λ u' H' l=>⟨xs.length - (i+1),by lia,rfl,b,l⟩,λ x H' y=>?_⟩
   obtain⟨t,n,e,o,r,s⟩:=y;subst e r;exact f i n u _ t (s xs q) p o
 have e:i=xs.length:=by lia
 subst e;exact .inl ⟨⟨xs,q,zA3 _⟩,j u H p⟩
end L2
namespace L2
open PySem PySem.Spec PyProof.Rows
noncomputable def qaB8:List String:=["NoneType", "bool", "int", "str", "list", "tuple", "dict"]
structure IsO(K:O0)(C:γ):Prop where
 ca:W.findIn K (.ref C) "__class__" = some (some (.builtin "object.__class__"))
 cn:W.specialIn K (.builtin "object.__class__") "__get__" = some (some (.builtin "getset_descriptor.__get__"))
 ct:W.takesIn K (.builtin "object.__class__")=some true
 cm:W.mroIn K C (.type "object")=some true
 kf:∀ t∈qaB8,O1 K (.type t) (.ref C)=some false
theorem kf_of{K:O0}{C:γ}(h1:O1 K (.type "NoneType") (.ref C)=some false)(h2:O1 K (.type "bool") (.ref C)=some false)(b:O1 K (.type "int") (.ref C)=some false)(c:O1 K (.type "str") (.ref C)=some false)(d:O1 K (.type "list") (.ref C)=some false)(e:O1 K (.type "tuple") (.ref C)=some false)(f:O1 K (.type "dict") (.ref C)=some false) :
   ∀ t∈qaB8,O1 K (.type t) (.ref C)=some false:=by
 intro t a;unfold qaB8 at a;simp only[zAn,zBu,or_false] at a;rcases a with rfl | rfl | rfl | rfl | rfl | rfl | rfl<;>assumption
section
variable{X:Cx}
def rIsO(C:γ):List V->Hp->VK->Prop:=λ xs H Q=>∃ x,xs=[x,.ref C]/\((∃ a dx fs,x=.ref a/\H a=some (.ins C dx fs)/\Q (.bl true) H)∨(∃ t,Et H x=some t/\Q (.bl false) H))
theorem qaE4{C:γ}(b:IsO X.K C)(g:Cls X.K C):CallR X (.builtin "isinstance") (rIsO C):=by
 intro Eo s m H j k Q I r h;obtain⟨x,rfl,h⟩:=h;obtain⟨u,l,rfl,f,c⟩:=Hf r;cases c;rcases h with⟨a,dx,fs,rfl,ha,q⟩ | ⟨t,hk,q⟩
 . have e:O1 X.K (.ref C) (.ref C)=some true:=by
     unfold O1;rw[if_pos (by simp)]
   exact qF3 I f (.ins ha g b.ca b.cn b.ct b.cm) e λ d=>⟨.bl true,H,I.tok d,rfl,q⟩
 obtain⟨ty,i⟩:=qaf6 (K:=X.K) hk;exact qF3 I f ty (b.kf t i) λ d=>⟨.bl false,H,I.tok d,rfl,q⟩
theorem qaS7{x:Str}(C:γ){pos:Pos}(hm:X.mg x=some (.ref C))(a:Gl X x:=by rfl)(b:N' x:=by decide):PE X (.Name x pos) (tC (.ref C)):=qac8 a hm rfl b
end
end L2
namespace Row
variable{a i j q s t:Nat}{g':Nat->Option Int}{x y:Int}
noncomputable def Aa(n h r:Nat):Nat:=if h<=r then r - h else r+n - h
noncomputable def prev(n r:Nat):Nat:=if r=0 then n - 1 else r - 1
noncomputable def next(n r:Nat):Nat:=if r+1=n then 0 else r+1
def ahead(n:Nat)(hm:Int->Nat)(r:Nat)(x y:Int):Prop:=Aa n (hm y) r < Aa n (hm x) r∨(Aa n (hm x) r=Aa n (hm y) r/\x < y)
theorem qt4{n:Nat}{hm:Int->Nat}{r:Nat}{z:Int}(h:ahead n hm r x y)(h':ahead n hm r y z):ahead n hm r x z:=by
 unfold ahead at *;lia
theorem qL1{n:Nat}{hm:Int->Nat}{r:Nat}(h:ahead n hm r x y)(h':ahead n hm r y x):False:=by
 unfold ahead at *;lia
theorem qaq8{n:Nat}{hm:Int->Nat}{r:Nat}(h:ahead n hm r x x):False:=qL1 h h
theorem qaq7{n:Nat}{hm:Int->Nat}{r:Nat}(h:x≠y)(h':¬ ahead n hm r x y):ahead n hm r y x:=by
 unfold ahead at *;lia
theorem qk1{n r:Nat}(h:r < n):next n r < n:=by unfold next;split<;>lia
theorem qi4{n r:Nat}(h:r < n):prev n r < n:=by unfold prev;split<;>lia
theorem qj5{n r:Nat}(h:r < n):prev n (next n r)=r:=by unfold prev next;split<;>split<;>lia
theorem qE7{n r:Nat}(h:r < n):next n (prev n r)=r:=by unfold prev next;split<;>split<;>lia
theorem qh6{n r:Nat}(h:r < n)(b:a < n):Aa n a r < n:=by unfold Aa;split<;>lia
theorem qi1{n r:Nat}(b:a < n)(h:r < n)(h':s < n)(e:Aa n a r=Aa n a s):r=s:=by
 unfold Aa at e;split at e<;>split at e<;>lia
theorem qb8{n r:Nat}(b:a < n)(h:r < n):Aa n a r=0↔r=a:=by unfold Aa;split<;>lia
theorem qd4{n r:Nat}(c:a < n)(h:r < n)(b:0 < Aa n a r):Aa n a (prev n r)=Aa n a r - 1:=by
 unfold Aa prev at *;split at b<;>split<;>split<;>lia
theorem qj7{n r:Nat}(c:a < n)(h:r < n)(b:Aa n a r+1 < n):Aa n a (next n r)=Aa n a r+1:=by
 unfold Aa next at *;split at b<;>split<;>split<;>lia
theorem nor(n s:Nat):(s+1=n/\next n s=0)∨(s+1≠n/\next n s=s+1):=by unfold next;split<;>lia
theorem por(n s:Nat):(s=0/\prev n s=n - 1)∨(s≠0/\prev n s=s - 1):=by unfold prev;split<;>lia
theorem dor(n a r:Nat):(a<=r/\Aa n a r+a=r)∨(r < a/\(a<=r+n->Aa n a r+a=r+n)):=by
 unfold Aa;split<;>lia
theorem Fa{n:Nat}(b:a < n)(hi:i < n)(c:s < n)(h:Aa n a i<=Aa n a s):Aa n a i+Aa n i s=Aa n a s:=by
 have d:=dor n a i;have e:=dor n a s;have f:=dor n i s;lia
theorem qZ0{n:Nat}(b:a < n)(c:s < n)(d:t < n)(h:Aa n a s < Aa n a t):Aa n t s+Aa n a t=n+Aa n a s:=by
 have e:=dor n a s;have f:=dor n a t;have g:=dor n t s;lia
theorem qaX0{n:Nat}(a:s < n):Aa n (next n s) s+1=n:=by
 have b:=dor n (next n s) s;have c:=nor n s;lia
theorem qap4{n b:Nat}(f:a < n)(c:b < n)(d:j < n)(hi:i < n)(h1:Aa n a i<=Aa n a j)(h2:Aa n a j<=Aa n b j):Aa n b i+(Aa n a j - Aa n a i)=Aa n b j:=by
 have g:=Fa f hi d h1;have h:=qh6 hi c;rcases Nat.lt_or_ge (Aa n b j) (Aa n b i) with e | e
 . have:=qZ0 c d hi e
   lia
 have:=Fa c hi d e
 lia
structure Ord(n:Nat)(hm:Int->Nat)(g:Nat->Option Int):Prop where
 home:∀ k,hm k < n
 inj:∀ i j k,i < n->j < n->g i=some k->g j=some k->i=j
 ord:∀ i k,i < n->g i=some k->0 < Aa n (hm k) i->∃ x,g (prev n i)=some x/\ahead n hm (prev n i) x k
def Jg(n:Nat)(hm:Int->Nat)(g:Nat->Option Int):Prop:=∃ i,i < n/\∀ k,g i=some k->hm k=i
theorem Ord.path{n:Nat}{hm:Int->Nat}{g:Nat->Option Int}(O:Ord n hm g):∀(m j i:Nat)(z:Int),j < n->i < n->g j=some z->Aa n (hm z) i+m+1=Aa n (hm z) j->∃ x,g i=some x/\ahead n hm i x z
 | 0,j,i,z,hj,hi,hz,e=>by
   have a:0 < Aa n (hm z) j:=by lia
   obtain⟨x,b,c⟩:=O.ord j z hj hz a
   have:=qd4 (O.home z) hj a
   have f:i=prev n j:=qi1 (O.home z) hi (qi4 hj) (by lia);rw[f];exact⟨x,b,c⟩
 | m+1,j,i,z,hj,hi,hz,e=>by
   have a:0 < Aa n (hm z) j:=by lia
   obtain⟨x,b,c⟩:=O.ord j z hj hz a;have o:=qd4 (O.home z) hj a;have d:=qi4 hj;have h:Aa n (hm z) (prev n j)<=Aa n (hm x) (prev n j):=by unfold ahead at c;lia
   have p:=qap4 (O.home z) (O.home x) d hi (by lia) h;obtain⟨y,k,l⟩:=O.path m (prev n j) i x d hi b (by lia);refine⟨y,k,qt4 l ?_⟩;unfold ahead at *;lia
theorem Ord.path'{n:Nat}{hm:Int->Nat}{g:Nat->Option Int}(O:Ord n hm g){z:Int}(a:j < n)(hi:i < n)(b:g j=some z)(h:Aa n (hm z) i < Aa n (hm z) j):∃ x,g i=some x/\ahead n hm i x z :=
 O.path (Aa n (hm z) j - Aa n (hm z) i - 1) j i z a hi b (by lia)
def Gp(n:Nat)(hm:Int->Nat)(g:Nat->Option Int)(s:Nat):Prop:=∀ j z,j < n->g j=some z->Aa n (hm z) j<=Aa n (hm z) s
theorem Ord.zero{n:Nat}{hm:Int->Nat}{g:Nat->Option Int}(O:Ord n hm g)(C:Jg n hm g):∃ s,s < n/\Gp n hm g s:=by
 obtain⟨i,b,h⟩:=C;have l:=qi4 b;refine⟨prev n i,l,λ j z c k=>zC0 λ m=>?_⟩;have a:=O.home z;by_cases d:Aa n (hm z) i=0
 . have e:=(qb8 a b).mp d
   have:=qh6 c a
   have e2:Aa n (hm z) (prev n i)=n - 1:=by
     unfold Aa prev at *
     split<;>split<;>lia
   lia
 have q:=qd4 a b (by lia);by_cases f:Aa n (hm z) i=Aa n (hm z) j
 . have e:i=j:=qi1 a b c f
   subst e
   have:=h z k
   rw[this,(qb8 b b).mpr rfl] at d;exact d rfl
 obtain⟨x,o,p⟩:=O.path' c b k (by lia);have e:=h x o
 have:Aa n (hm x) i=0:=(qb8 (O.home x) b).mpr e.symm
 unfold ahead at p;lia
theorem qU0{α:Type}[DecidableEq α](x:α):∀(S:List α),S.Nodup->S.length<=(S.filter (λ y=>decide (y≠x))).length+1
 | [],_=>by simp
 | a::S,h=>by
   have b:=zCd.mp h;by_cases e:a=x
   . subst e
     have:S.filter (λ y=>decide (y≠a))=S:=List.filter_eq_self.mpr λ y c=>by
       simp only[ne_eq,zBf];intro z;subst z;exact b.1 c
     rw[M6 (by simp),this];simp
   rw[M7 (by simpa using e)]
   have:=qU0 x S b.2
   simp only[zAm];lia
theorem qo5{α:Type}[DecidableEq α](x:α):∀(S:List α),x∈S->(S.filter (λ y=>decide (y≠x))).length+1<=S.length
 | [],h=>by simp at h
 | a::S,h=>by
   by_cases e:a=x
   . rw[M6 (by simp[e])]
     have:=List.length_filter_le (λ y=>decide (y≠x)) S
     simp only[zAm];lia
   rw[M7 (by simpa using e)]
   have:=qo5 x S (by rcases zAn.mp h with z | z;exact absurd z.symm e;exact z)
   simp only[zAm];lia
theorem qC0{g:Nat->Option Int}:∀(L:List Nat)(S:List Int),S.Nodup->(∀ k∈S,∃ i∈L,g i=some k)->S.length<=L.length
 | [],S,_,h=>by
   cases S with
   | nil=>simp
   | cons k _=>obtain⟨i,f,_⟩:=h k (by simp);simp at f
 | i::L,S,hn,h=>by
   cases d:g i with
   | none =>
     have:=qC0 L S hn λ k a=>by
       obtain⟨j,c,e⟩:=h k a;rcases zAn.mp c with z | z
       . rw[z,d] at e;cases e
       exact⟨j,z,e⟩
     simp only[zAm];lia
   | some x =>
     have m:=qC0 L (S.filter (λ y=>decide (y≠x))) (hn.filter _) λ k a=>by
       obtain⟨a,b⟩:=zB1.mp a;obtain⟨j,c,e⟩:=h k a;rcases zAn.mp c with z | z
       . rw[z,d] at e
         have l:x=k:=Oy e;rw[l] at b;simp at b
       exact⟨j,z,e⟩
     have n:=qU0 x S hn;simp only[zAm];lia
theorem qS0{g:Nat->Option Int}:∀(L:List Nat)(S:List Int),L.Nodup->(∀ i∈L,∃ k∈S,g i=some k)->(∀ i∈L,∀ j∈L,∀ k,g i=some k->g j=some k->i=j)->L.length<=S.length
 | [],S,_,_,_=>by simp
 | i::L,S,c,h,inj=>by
   obtain⟨x,f,l⟩:=h i (by simp);have c:=zCd.mp c;have p:=qS0 L (S.filter (λ y=>decide (y≠x))) c.2 (λ j d=>by
     obtain⟨k,m,e⟩:=h j (zA6 _ d);refine⟨k,zB1.mpr ⟨m,?_⟩,e⟩;simp only[ne_eq,zBf];intro z;subst z
     have:=inj i (by simp) j (zA6 _ d) k l e
     exact c.1 (this ▸ d)) λ a n b o=>inj a (zA6 _ n) b (zA6 _ o)
   have q:=qo5 x S f;simp only[zAm];lia
def Holds(n:Nat)(g:Nat->Option Int)(S:List Int):Prop:=S.Nodup/\∀ k,k∈S↔∃ i,i < n/\g i=some k
theorem qaj3{n:Nat}{hm:Int->Nat}{g:Nat->Option Int}{S:List Int}(O:Ord n hm g)(O':Ord n hm g')(C':Jg n hm g')(J:Holds n g S)(w:Holds n g' S)(p:s < n)(Z:Gp n hm g s):Gp n hm g' s:=by
 obtain⟨K,F,Z'⟩:=O'.zero C';intro j z B q;refine zC0 λ v=>?_
 have R:∀ m,(∃ t,t < n/\Aa n t s<=m/\Gp n hm g' t)->∃ t,t < n/\Gp n hm g' t/\∀ u,u < n->Aa n u s < Aa n t s->¬ Gp n hm g' u:=by
   intro m
   induction m with
   | zero =>
     rintro⟨t,l,T,q⟩;exact⟨t,l,q,λ u _ h=>absurd h (by lia)⟩
   | succ m U =>
     rintro⟨t,l,T,q⟩;by_cases L:∃ u,u < n/\Aa n u s<=m/\Gp n hm g' u
     . exact U L
     exact⟨t,l,q,λ u V h W=>L ⟨u,V,by lia,W⟩⟩
 obtain⟨t,l,Zt,near⟩:=R (Aa n K s) ⟨K,F,zA3 _,Z'⟩
 let d:Nat->Bool:=λ r=>decide (Aa n r s < Aa n t s)
 have arcOf:∀ r,d r=true↔Aa n r s < Aa n t s:=λ r=>decide_eq_true_iff
 have o:=O'.home z;have M:=Zt j z B q;have Dz:Aa n (hm z) s < Aa n t s:=by
   have G:=qZ0 o p l (zA8 v M);have e2:=qh6 l o;lia
 have Dj:¬ Aa n j s < Aa n t s:=by
   have G:=qZ0 o p l (zA8 v M);have e2:=qZ0 o p B v;lia
 have X:z∈S.filter (λ k=>d (hm k)):=zB1.mpr ⟨(w.2 z).mpr ⟨j,B,q⟩,(arcOf _).mpr Dz⟩;have p1:(S.filter (λ k=>d (hm k))).length<=((Ms n).filter d).length:=by
   refine qC0 (g:=g) _ _ (J.1.filter _) λ k H=>?_
   obtain⟨H,N⟩:=zB1.mp H;obtain⟨i,c,P⟩:=(J.2 k).mp H;have N:=(arcOf _).mp N;have Y:=Z i k c P;have f:=O.home k;refine⟨i,zB1.mpr ⟨zAp.mpr c,(arcOf _).mpr ?_⟩,P⟩;have G:=Fa f c p Y;lia
 have p2:((Ms n).filter d).length<=((S.filter (λ k=>d (hm k))).filter (λ y=>decide (y≠z))).length:=by
   refine qS0 (g:=g') _ _ (List.nodup_range.filter _) (λ i c=>?_) λ a ha b hb k=>O'.inj a b k (zAp.mp (zB1.mp ha).1) (zAp.mp (zB1.mp hb).1)
   obtain⟨c,C⟩:=zB1.mp c;have c:=zAp.mp c;have C:=(arcOf _).mp C;have nz:=near i c C;obtain⟨k,D⟩:∃ k,g' i=some k:=by
     cases e:g' i with
     | some k=>exact⟨k,rfl⟩
     | none =>
       refine absurd (λ j' y I hy=>zC0 λ A=>?_) nz;obtain⟨x,Q,_⟩:=O'.path' I c hy A;rw[e] at Q;cases Q
   have ki:=Zt i k c D;have f:=O'.home k;refine⟨k,zB1.mpr ⟨zB1.mpr ⟨(w.2 k).mpr ⟨i,c,D⟩,(arcOf _).mpr ?_⟩,?_⟩,D⟩
   . have l1:=qh6 l f
     rcases Nat.lt_or_ge (Aa n (hm k) s) (Aa n (hm k) t) with E | E
     . have:=qZ0 f p l E
       lia
     have G:=Fa f l p E;have e2:=Fa f c p (zAd ki E);lia
   simp only[ne_eq,zBf];intro e;subst e
   have:=O'.inj i j k c B D q
   subst this;exact Dj C
 have p3:=qo5 z _ X;lia
theorem qaj1{n:Nat}{hm:Int->Nat}{g:Nat->Option Int}{S:List Int}(O:Ord n hm g)(O':Ord n hm g')(z:Holds n g S)(l:Holds n g' S)(t:s < n)(Z:Gp n hm g s)(Z':Gp n hm g' s)(c:j < n)(A:∀ i,i < n->Aa n (next n s) i < Aa n (next n s) j->g i=g' i)(m:g j=some x):g' j=some x:=by
 have a:=qk1 t;have pos:∀{f:Nat->Option Int},Gp n hm f s->∀{i k},i < n->f i=some k->Aa n (next n s) (hm k)<=Aa n (next n s) i:=λ{f} Zf {i k} h D=>by
   have u:=Zf i k h D;have b:=O.home k;have P:=qaX0 t;have Q:=qh6 b a;have E:=Fa a b t (by lia);refine zC0 λ F=>?_
   have e2:=qZ0 a h b F;lia
 have o:∀{i k},i < n->Aa n (next n s) (hm k)<=Aa n (next n s) j->Aa n (next n s) j < Aa n (next n s) i->Aa n (hm k) j < Aa n (hm k) i:=λ{i k} h u G=>by
   have b:=O.home k;have E:=Fa a b c u;have e2:=Fa a b h (zAd u (zB5 G));lia
 obtain⟨p,d,q⟩:=(l.2 x).mp ((z.2 x).mpr ⟨j,c,m⟩);have H:=pos Z c m;by_cases I:Aa n (next n s) p < Aa n (next n s) j
 . have e:=A p d I
   rw[q] at e
   have:=O.inj p j x d c e m
   subst this;exact q
 by_cases J:Aa n (next n s) p=Aa n (next n s) j
 . have e:=qi1 a d c J
   subst e;exact q
 exfalso;obtain⟨y,v,B⟩:=O'.path' d c q (o d H (by lia));obtain⟨i,h,r⟩:=(z.2 y).mp ((l.2 y).mpr ⟨j,c,v⟩);have K:=pos Z' c v;by_cases L:Aa n (next n s) i < Aa n (next n s) j
 . have e:=A i h L
   rw[r] at e
   have:=O'.inj i j y h c e.symm v
   subst this;lia
 by_cases M:Aa n (next n s) i=Aa n (next n s) j
 . have e:=qi1 a h c M
   subst e;rw[m] at r;cases r;exact qaq8 B
 obtain⟨w,C,N⟩:=O.path' h c r (o h K (by lia));rw[m] at C;cases C;exact qL1 B N
theorem qaA1{n:Nat}{hm:Int->Nat}{g:Nat->Option Int}{S:List Int}(O:Ord n hm g)(O':Ord n hm g')(C:Jg n hm g)(C':Jg n hm g')(d:Holds n g S)(a:Holds n g' S):∀ j,j < n->g j=g' j:=by
 obtain⟨s,f,Z⟩:=O.zero C;have Z':=qaj3 O O' C' d a f Z;have main:∀ m j,j < n->Aa n (next n s) j < m->g j=g' j:=by
   intro m
   induction m with
   | zero=>intro j _ h;exact absurd h (by lia)
   | succ m l =>
     intro j c p;have b:∀ i,i < n->Aa n (next n s) i < Aa n (next n s) j->g i=g' i:=λ i k h=>l i k (by lia)
     cases e:g j with
     | some x=>exact(qaj1 O O' d a f Z Z' c b e).symm
     | none =>
       cases o:g' j with
       | none=>rfl
       | some y =>
         have:=qaj1 O' O a d f Z' Z c (λ i k h=>(b i k h).symm) o
         rw[e] at this;cases this
 exact λ j c=>main _ j c (Nat.lt_succ_self _)
noncomputable def set(g:Nat->Option Int)(r:Nat)(c:Int):Nat->Option Int:=λ j=>if j=r then some c else g j
theorem qb6{g:Nat->Option Int}{r:Nat}{c:Int}:set g r c r=some c:=by unfold set;rw[if_pos rfl]
theorem qd0{g:Nat->Option Int}{r:Nat}{c:Int}(h:j≠r):set g r c j=g j:=by unfold set;rw[if_neg h]
structure Walk(n:Nat)(wr:Bool)(hm:Int->Nat)(T:List Int)(k:Int)(e:Nat)(g:Nat->Option Int)(c:Int)(r:Nat):Prop where
 o:Ord n hm g
 nin:∀ i,i < n->g i≠some c
 hr:r < n
 pth:∀ j,j < n->Aa n (hm c) j < Aa n (hm c) r->∃ x,g j=some x/\ahead n hm j x c
 he:e < n
 ge:g e=none
 lim:Aa n (hm k) r<=Aa n (hm k) e
 all:∀ x,x∈T↔(x=c∨∃ i,i < n/\g i=some x)
 ln:wr=false->hm k<=e/\hm c<=r/\∀ i x,i < n->g i=some x->hm x<=i
section
variable{n:Nat}{wr:Bool}{hm:Int->Nat}{T:List Int}{k:Int}{e:Nat}{g:Nat->Option Int}{c:Int}{r:Nat}
theorem Walk.lt(W:Walk n wr hm T k e g c r)(a:g r=some y):Aa n (hm k) r < Aa n (hm k) e:=by
 have b:=W.lim
 have:r≠e:=λ z=>by have:=W.ge;rw[<- z,a] at this;cases this
 have d:Aa n (hm k) r≠Aa n (hm k) e:=λ z=>this (qi1 (W.o.home k) W.hr W.he z)
 lia
theorem Walk.nx(W:Walk n wr hm T k e g c r)(a:g r=some y):Aa n (hm k) (next n r)=Aa n (hm k) r+1:=by
 have b:=W.lt a;have d:=qh6 W.he (W.o.home k);exact qj7 (W.o.home k) W.hr (by lia)
theorem way(a:hm x < n)(c:j < n)(b:e < n)(d:g e=none)(f:∀ i,i < n->Aa n (hm x) i<=Aa n (hm x) j->∃ y,g i=some y):Aa n (hm x) j+1 < n:=by
 have k:=qh6 c a;have l:=qh6 b a;by_cases h:Aa n (hm x) e<=Aa n (hm x) j
 . obtain⟨y,q⟩:=f e b h
   rw[d] at q;cases q
 lia
theorem Walk.on(W:Walk n wr hm T k e g c r)(a:g r=some y)(h:¬ ahead n hm r c y):Walk n wr hm T k e g c (next n r):=by
 have v:=W.nx a;have A:=W.lt a;have b:=W.o.home c;have l:c≠y:=λ z=>W.nin r W.hr (by rw[z];exact a)
 have w:Aa n (hm c) r+1 < n:=way (g:=g) b W.hr W.he W.ge λ i d m=>by
   by_cases q:Aa n (hm c) i=Aa n (hm c) r
   . rw[qi1 b d W.hr q];exact⟨y,a⟩
   obtain⟨x,p,_⟩:=W.pth i d (by lia);exact⟨x,p⟩
 have B:=qj7 b W.hr w;refine⟨W.o,W.nin,qk1 W.hr,λ j f m=>?_,W.he,W.ge,by lia,W.all,λ s=>?_⟩
 . by_cases q:Aa n (hm c) j=Aa n (hm c) r
   . rw[qi1 b f W.hr q];exact⟨y,a,qaq7 l h⟩
   exact W.pth j f (by lia)
 obtain⟨t,C,u⟩:=W.ln s;refine⟨t,?_,u⟩;have D:=dor n (hm k) r;have E:=dor n (hm k) e;have F:=nor n r
 have:=W.hr
 have:=W.he
 have:=W.o.home k
 lia
theorem Walk.swap(W:Walk n wr hm T k e g c r)(l:g r=some y)(h:ahead n hm r c y):Walk n wr hm T k e (set g r c) y (next n r):=by
 have J:=W.nx l;have K:=W.lt l;have D:=W.o.home c;have m:=W.o.home y;have E:c≠y:=λ z=>W.nin r W.hr (by rw[z];exact l)
 have F:e≠r:=λ z=>by have:=W.ge;rw[z,l] at this;cases this
 have w:Aa n (hm y) r+1 < n:=way (g:=g) m W.hr W.he W.ge λ i f u=>by
   by_cases q:Aa n (hm y) i=Aa n (hm y) r
   . rw[qi1 m f W.hr q];exact⟨y,l⟩
   obtain⟨x,s,_⟩:=W.o.path' W.hr f l (by lia);exact⟨x,s⟩
 have L:=qj7 m W.hr w;refine⟨⟨W.o.home,λ i j x f t a p=>?_,λ i x f a u=>?_⟩,λ i f a=>?_,qk1 W.hr,λ j t u=>?_,W.he,by rw[qd0 F];exact W.ge,by lia,λ x=>?_,λ G=>?_⟩
 . by_cases b:i=r
   . by_cases e2:j=r
     . rw[b,e2]
     rw[b,qb6] at a;rw[qd0 e2] at p;cases a;exact absurd p (W.nin j t)
   rw[qd0 b] at a;by_cases e2:j=r
   . rw[e2,qb6] at p
     cases p;exact absurd a (W.nin i f)
   rw[qd0 e2] at p;exact W.o.inj i j x f t a p
 . have H:=qi4 f
   by_cases b:i=r
   . subst b
     rw[qb6] at a;cases a;have d:=qd4 D f u;obtain⟨x,s,A⟩:=W.pth (prev n i) H (by lia)
     have:prev n i≠i:=λ z=>by rw[z] at d;lia
     exact⟨x,by rw[qd0 this];exact s,A⟩
   rw[qd0 b] at a;obtain⟨z,v,B⟩:=W.o.ord i x f a u;by_cases e2:prev n i=r
   . rw[e2] at v B ⊢
     rw[l] at v;cases v;exact⟨c,qb6,qt4 h B⟩
   exact⟨z,by rw[qd0 e2];exact v,B⟩
 . by_cases b:i=r
   . rw[b,qb6] at a
     exact E (Oy a)
   rw[qd0 b] at a;exact b (W.o.inj i r y f W.hr a l)
 . by_cases q:Aa n (hm y) j=Aa n (hm y) r
   . rw[qi1 m t W.hr q];exact⟨c,qb6,h⟩
   obtain⟨x,s,A⟩:=W.o.path' W.hr t l (by lia)
   have:j≠r:=λ z=>q (by rw[z])
   exact⟨x,by rw[qd0 this];exact s,A⟩
 . rw[W.all x]
   constructor
   . rintro (z | ⟨i,f,a⟩)
     . exact .inr ⟨r,W.hr,by rw[z];exact qb6⟩
     by_cases b:i=r
     . rw[b,l] at a
       exact .inl (Oy a).symm
     exact .inr ⟨i,f,by rw[qd0 b];exact a⟩
   rintro (z | ⟨i,f,a⟩)
   . exact .inr ⟨r,W.hr,by rw[z];exact l⟩
   by_cases b:i=r
   . rw[b,qb6] at a
     exact .inl (Oy a).symm
   rw[qd0 b] at a;exact .inr ⟨i,f,a⟩
 obtain⟨I,M,C⟩:=W.ln G;have N:=C r y W.hr l;refine⟨I,?_,λ i x f a=>?_⟩
 . have O:=dor n (hm k) r
   have P:=dor n (hm k) e;have Q:=nor n r
   have:=W.hr
   have:=W.he
   have:=W.o.home k
   lia
 by_cases b:i=r
 . rw[b,qb6] at a
   cases a;lia
 rw[qd0 b] at a;exact C i x f a
structure Kept(n:Nat)(wr:Bool)(hm:Int->Nat)(g:Nat->Option Int)(S:List Int):Prop where
 o:Ord n hm g
 c:Jg n hm g
 h:Holds n g S
 ln:wr=false->∀ i x,i < n->g i=some x->hm x<=i
theorem Walk.done(W:Walk n wr hm T k e g c r)(v:T.Nodup)(q:g r=none):Kept n wr hm (set g r c) T:=by
 have w:=W.o.home c;have h:=qk1 W.hr;refine⟨⟨W.o.home,λ i j x f t a l=>?_,λ i x f a p=>?_⟩,⟨next n r,h,λ x u=>?_⟩,⟨v,λ x=>?_⟩,λ y=>?_⟩
 . by_cases b:i=r
   . by_cases e2:j=r
     . rw[b,e2]
     rw[b,qb6] at a;rw[qd0 e2] at l;cases a;exact absurd l (W.nin j t)
   rw[qd0 b] at a;by_cases e2:j=r
   . rw[e2,qb6] at l
     cases l;exact absurd a (W.nin i f)
   rw[qd0 e2] at l;exact W.o.inj i j x f t a l
 . have A:=qi4 f
   by_cases b:i=r
   . subst b
     rw[qb6] at a;cases a;have d:=qd4 w f p;obtain⟨x,s,B⟩:=W.pth (prev n i) A (by lia)
     have:prev n i≠i:=λ z=>by rw[z] at d;lia
     exact⟨x,by rw[qd0 this];exact s,B⟩
   rw[qd0 b] at a;obtain⟨z,m,C⟩:=W.o.ord i x f a p;by_cases e2:prev n i=r
   . rw[e2,q] at m;cases m
   exact⟨z,by rw[qd0 e2];exact m,C⟩
 . have s:=W.o.home x
   by_cases b:next n r=r
   . have:=nor n r
     have:=W.hr
     lia
   rw[qd0 b] at u;by_cases p:0 < Aa n (hm x) (next n r)
   . obtain⟨z,m,_⟩:=W.o.ord _ x h u p
     rw[qj5 W.hr,q] at m;cases m
   exact((qb8 s h).mp (by lia)).symm
 . rw[W.all x]
   constructor
   . rintro (z | ⟨i,f,a⟩)
     . exact⟨r,W.hr,by rw[z];exact qb6⟩
     exact⟨i,f,by rw[qd0 (λ z=>by rw[z,q] at a;cases a)];exact a⟩
   rintro⟨i,f,a⟩;by_cases b:i=r
   . rw[b,qb6] at a
     exact .inl (Oy a).symm
   rw[qd0 b] at a;exact .inr ⟨i,f,a⟩
 obtain⟨E,F,D⟩:=W.ln y;intro i x f a;by_cases b:i=r
 . rw[b,qb6] at a
   cases a;lia
 rw[qd0 b] at a;exact D i x f a
def Free(n:Nat)(wr:Bool)(hm:Int->Nat)(g:Nat->Option Int)(k:Int)(e:Nat):Prop:=e < n/\g e=none/\(wr=false->hm k<=e)
theorem Kept.start{S:List Int}(K:Kept n wr hm g S)(c:¬ k∈S)(F:Free n wr hm g k e):Walk n wr hm (S++[k]) k e g k (hm k):=by
 have a:=K.o.home k;have z:=(qb8 a a).mpr rfl;refine⟨K.o,λ i d f=>c ((K.h.2 k).mpr ⟨i,d,f⟩),a,λ j _ l=>by lia,F.1,F.2.1,by lia,λ x=>?_,λ b=>⟨F.2.2 b,zA3 _,K.ln b⟩⟩;rw[zA9,zAl,K.h.2 x];exact⟨Or.symm,Or.symm⟩
def Crowd(n:Nat)(wr:Bool)(hm:Int->Nat)(T:List Int)(q:Nat):Prop:=q < n/\if wr=true then q=0/\n < T.length else n - q < (T.filter (λ k=>decide (q<=hm k))).length
theorem qL8(h:i∈(Ms (n - q)).map (q + ·)):q<=i/\i < n:=by
 obtain⟨j,a,rfl⟩:=zBb.mp h
 have:=zAp.mp a
 lia
theorem qaB1(h:q<=i)(h':i < n):i∈(Ms (n - q)).map (q + ·):=zBb.mpr ⟨i - q,zAp.mpr (by lia),by lia⟩
theorem qaa3{m:Nat}:((Ms m).map (q + ·)).Nodup:=by
 rw[List.nodup_iff_pairwise_ne,zC9];exact(List.nodup_iff_pairwise_ne.mp Nj).imp λ h=>by lia
theorem Kept.no_crowd{S:List Int}(K:Kept n wr hm g S)(q:Nat):¬ Crowd n wr hm S q:=by
 rintro⟨d,h⟩;cases wr with
 | true =>
   rw[if_pos rfl] at h
   have:=qC0 (g:=g) (Ms n) S K.h.1 λ k a=>by
     obtain⟨i,b,c⟩:=(K.h.2 k).mp a;exact⟨i,zAp.mpr b,c⟩
   rw[zB4] at this;lia
 | false =>
   rw[if_neg (by decide)] at h
   have:=qC0 (g:=g) ((Ms (n - q)).map (q + ·)) (S.filter (λ k=>decide (q<=hm k))) (K.h.1.filter _) λ k a=>by
     obtain⟨a,d⟩:=zB1.mp a;obtain⟨i,b,c⟩:=(K.h.2 k).mp a
     have:=K.ln rfl i k b c
     have d:=zAb d;exact⟨i,qaB1 (by lia) b,c⟩
   rw[zAf,zB4] at this;lia
theorem Kept.crowd{S:List Int}(K:Kept n wr hm g S)(u:∀ e,¬ Free n wr hm g k e):∃ q,Crowd n wr hm (S++[k]) q:=by
 have v:=K.o.home k;have full:∀ e,e < n->(wr=false->hm k<=e)->∃ x,g e=some x:=λ e f s=>by
   cases h:g e with
   | some x=>exact⟨x,rfl⟩
   | none=>exact absurd ⟨f,h,s⟩ (u e)
 cases wr with
 | true =>
   refine⟨0,by lia,?_⟩;rw[if_pos rfl];refine⟨rfl,?_⟩
   have:=qS0 (g:=g) (Ms n) S Nj (λ i b=>by
     obtain⟨x,c⟩:=full i (zAp.mp b) (λ z=>by cases z);exact⟨x,(K.h.2 x).mpr ⟨i,zAp.mp b,c⟩,c⟩) λ i b j p x=>K.o.inj i j x (zAp.mp b) (zAp.mp p)
   rw[zB4] at this;rw[zAe];simp only[zAm,zCj];lia
 | false =>
   have w:∀ m,m<=hm k->(∀ e,m<=e->e < n->∃ x,g e=some x)->∃ q,q<=hm k/\(∀ e,q<=e->e < n->∃ x,g e=some x)/\(q=0∨g (q - 1)=none):=by
     intro m
     induction m with
     | zero=>exact λ d a=>⟨0,d,a,.inl rfl⟩
     | succ m A =>
       intro d a;cases h:g m with
       | none=>exact⟨m+1,d,a,.inr h⟩
       | some x =>
         refine A (by lia) λ e f r=>?_
         by_cases q:e=m
         . rw[q];exact⟨x,h⟩
         exact a e (by lia) r
   obtain⟨q,B,C,l⟩:=w (hm k) (zA3 _) λ e f r=>full e r λ _=>f
   refine⟨q,by lia,?_⟩;rw[if_neg (by decide)]
   have:=qS0 (g:=g) ((Ms (n - q)).map (q + ·)) (S.filter (λ k=>decide (q<=hm k))) qaa3 (λ i b=>by
     obtain⟨d,a⟩:=qL8 b;obtain⟨x,c⟩:=C i d a;refine⟨x,zB1.mpr ⟨(K.h.2 x).mpr ⟨i,a,c⟩,zAq ?_⟩,c⟩;have D:=K.o.home x;have s:=K.ln rfl i x a c;refine zC0 λ E=>?_
     rcases l with l | l
     . lia
     obtain⟨y,t,_⟩:=K.o.path' (i:=q - 1) a (by lia) c (by
       have G:=dor n (hm x) (q - 1);have H:=dor n (hm x) i
       lia)
     rw[l] at t;cases t) λ i b j p x=>K.o.inj i j x (qL8 b).2 (qL8 p).2
   rw[zAf,zB4] at this;have F:([k].filter (λ k=>decide (q<=hm k))).length=1:=by simp[B]
   rw[List.filter_append,zAe,F];lia
theorem Crowd.mono{S T:List Int}(h:Crowd n wr hm S q)(a:S.Sublist T):Crowd n wr hm T q:=by
 obtain⟨b,h⟩:=h;refine⟨b,?_⟩;cases wr with
 | true =>
   rw[if_pos rfl] at h ⊢
   have:=a.length_le
   exact⟨h.1,by lia⟩
 | false =>
   rw[if_neg (by decide)] at h ⊢
   have:=(a.filter (λ k=>decide (q<=hm k))).length_le
   lia
theorem Crowd.perm{S T:List Int}(h:Crowd n wr hm S q)(a:S.Perm T):Crowd n wr hm T q:=by
 obtain⟨b,h⟩:=h;refine⟨b,?_⟩;rw[<- a.length_eq,<- (a.filter _).length_eq];exact h
theorem Kept.none(a:0 < n)(b:∀ k,hm k < n):Kept n wr hm (λ _=>none) [] :=
 ⟨⟨b,(λ _ _ _ _ _ h=>by cases h),λ _ _ _ h=>by cases h⟩,⟨0,a,λ _ h=>by cases h⟩,⟨N8,λ k=>⟨λ h=>by simp at h,λ ⟨_,_,h⟩=>by cases h⟩⟩,λ _ _ _ _ h=>by cases h⟩
theorem Kept.same{S S':List Int}(K:Kept n wr hm g S)(K':Kept n wr hm g' S')(a:∀ k,k∈S↔k∈S'):∀ j,j < n->g j=g' j :=
 qaA1 K.o K'.o K.c K'.c K.h ⟨K.h.1,λ k=>(a k).trans (K'.h.2 k)⟩
end
noncomputable def rot(n s t:Nat):Nat:=if s+t < n then s+t else s+t - n
theorem qE0{n:Nat}(a:s < n)(b:t < n):rot n s t < n:=by unfold rot;split<;>lia
theorem qo6{n:Nat}(a:s < n)(b:t < n):Aa n s (rot n s t)=t:=by
 have d:=dor n s (rot n s t);unfold rot at d ⊢;split at d<;>split<;>lia
theorem qn9{n:Nat}(a:s < n)(hi:i < n):rot n s (Aa n s i)=i:=by
 have d:=dor n s i;unfold rot
 split<;>lia
theorem qar8{n:Nat}(a:s < n)(b:t < n):(s+t) % n=rot n s t:=by
 unfold rot;split
 . exact zCg (by assumption)
 rw[Nat.mod_eq_sub_mod (by lia)];exact zCg (by lia)
def Ah(n:Nat)(g:Nat->Option Int)(r J:Nat):Nat->Option Int:=λ i=>if Aa n r i < J then g (next n i) else if Aa n r i=J then none else g i
structure Sh(n:Nat)(hm:Int->Nat)(g:Nat->Option Int)(r J:Nat):Prop where
 hJ:J < n
 mv:∀ t,1<=t->t<=J->∃ x,g (rot n r t)=some x/\0 < Aa n (hm x) (rot n r t)
section
variable{n:Nat}{wr:Bool}{hm:Int->Nat}{g:Nat->Option Int}{r J:Nat}{k:Int}{S:List Int}
theorem qO1(a:r < n):rot n r 0=r:=by unfold rot;rw[if_pos (by lia)];rfl
theorem ql5(a:r < n)(b:t+1 < n):next n (rot n r t)=rot n r (t+1):=by
 unfold rot next
 split<;>split<;>split<;>lia
theorem ql4(a:r < n)(b:J+1=n):next n (rot n r J)=r:=by
 unfold rot next
 split<;>split<;>lia
theorem Sh.start(a:r < n):Sh n hm g r 0:=⟨by lia,λ t b c=>by lia⟩
theorem Sh.step(h:Sh n hm g r J)(a:J+1 < n)(b:g (rot n r (J+1))=some x)(c:0 < Aa n (hm x) (rot n r (J+1))):Sh n hm g r (J+1):=⟨a,λ t d f=>by
 by_cases e:t=J+1
 . subst e;exact⟨x,b,c⟩
 exact h.mv t d (by lia)⟩
theorem qk8(a:r < n)(hi:i < n):Ah n g r 0 i=if i=r then none else g i:=by
 unfold Ah;rw[if_neg (by lia)];by_cases e:i=r
 . rw[if_pos e,if_pos ((qb8 a hi).mpr e)]
 rw[if_neg e,if_neg λ z=>e ((qb8 a hi).mp z)]
theorem qw0(a:r < n)(b:J < n):Ah n g r J (rot n r J)=none:=by
 unfold Ah;rw[qo6 a b,if_neg (by lia),if_pos rfl]
theorem qi9(a:r < n)(b:J+1 < n):Ah n g r J (rot n r (J+1))=g (rot n r (J+1)):=by
 unfold Ah;rw[qo6 a b,if_neg (by lia),if_neg (by lia)]
theorem qr0(a:r < n)(b:0 < J):Ah n g r J r=g (next n r):=by
 unfold Ah;rw[(qb8 a a).mpr rfl,if_pos b]
theorem qH0(a:r < n)(d:J+1 < n)(hi:i < n):Ah n g r (J+1) i=if i=rot n r (J+1) then none else if i=rot n r J then g (rot n r (J+1)) else Ah n g r J i:=by
 have j:=qo6 a d;have e2:=qo6 a (show J < n by lia);by_cases b:i=rot n r (J+1)
 . rw[if_pos b,b];exact qw0 a d
 rw[if_neg b];have f:Aa n r i≠J+1:=λ z=>b (by rw[<- z,qn9 a hi])
 by_cases c:i=rot n r J
 . rw[if_pos c,c]
   unfold Ah;rw[e2,if_pos (by lia),ql5 a d]
 rw[if_neg c];have h:Aa n r i≠J:=λ z=>c (by rw[<- z,qn9 a hi])
 unfold Ah;by_cases e:Aa n r i < J
 . rw[if_pos e,if_pos (by lia)]
 rw[if_neg e,if_neg (by lia),if_neg f,if_neg h]
theorem Sh.round(h:Sh n hm g r J)(O:Ord n hm g)(C:Jg n hm g)(d:r < n)(j:g r=some k)(u:J+1=n)(l:g (next n r)=some x)(v:0 < J):Aa n (hm x) r=0:=by
 obtain⟨i,a,m⟩:=C;have f:i=r:=by
   by_cases e:i=r
   . exact e
   have w:=qh6 a d;have A:Aa n r i≠0:=λ z=>e ((qb8 d a).mp z)
   obtain⟨y,b,c⟩:=h.mv (Aa n r i) (by lia) (by lia);rw[qn9 d a] at b c
   have:=(qb8 (O.home y) a).mpr (m y b).symm
   lia
 subst f;have s:=(qb8 (O.home k) a).mpr (m k j).symm;have o:next n i=rot n i 1:=by
   have:=ql5 (t:=0) a (by lia)
   rwa[qO1 a] at this
 obtain⟨y,b,c⟩:=h.mv 1 (zA3 _) (by lia);rw[<- o,l] at b;cases b;rw[<- o] at c;obtain⟨z,p,q⟩:=O.ord (next n i) x (qk1 a) l c;rw[qj5 a,j] at p;cases p;rw[qj5 a] at q;unfold ahead at q;lia
def Stop(n:Nat)(wr:Bool)(hm:Int->Nat)(g:Nat->Option Int)(r J:Nat):Prop:=(wr=false/\rot n r J+1=n)∨∀ x,Ah n g r J (next n (rot n r J))=some x->Aa n (hm x) (next n (rot n r J))=0
theorem Kept.taken(K:Kept n wr hm g S)(m:r < n)(E:g r=some k)(h:Sh n hm g r J)(st:Stop n wr hm g r J):Kept n wr hm (Ah n g r J) (S.filter λ x=>decide (x≠k)):=by
 have N:=h.hJ;have O:=K.o;have F:∀ i x,i < n->Aa n r i < J->g (next n i)=some x->Aa n r (next n i)=Aa n r i+1/\0 < Aa n (hm x) (next n i)/\Aa n (hm x) i+1=Aa n (hm x) (next n i):=λ i x f H l=>by
   have e:=qj7 m f (by lia);obtain⟨y,u,C⟩:=h.mv (Aa n r i+1) (by lia) (by lia);rw[<- e,qn9 m (qk1 f)] at u C;rw[l] at u;cases u
   have:=qd4 (O.home x) (qk1 f) C
   rw[qj5 f] at this;exact⟨e,C,by lia⟩
 have w:∀ i x,i < n->Ah n g r J i=some x->(Aa n r i < J/\g (next n i)=some x)∨(J < Aa n r i/\g i=some x):=λ i x f l=>by
   unfold Ah at l;split at l
   . exact .inl ⟨by assumption,l⟩
   split at l
   . cases l
   exact .inr ⟨by lia,l⟩
 have A:∀ i x,i < n->Ah n g r J i=some x->∃ j,j < n/\g j=some x/\j≠r/\(j=next n i/\Aa n r i < J∨j=i/\J < Aa n r i):=λ i x f l=>by
   rcases w i x f l with⟨s,q⟩ | ⟨s,q⟩
   . refine⟨next n i,qk1 f,q,λ z=>?_,.inl ⟨rfl,s⟩⟩
     have e:=qj7 m f (by lia);rw[z,(qb8 m m).mpr rfl] at e;lia
   refine⟨i,f,q,λ z=>?_,.inr ⟨rfl,s⟩⟩;rw[z,(qb8 m m).mpr rfl] at s;lia
 refine⟨⟨O.home,λ i j x f t s q=>?_,λ i x f l H=>?_⟩,?_,⟨K.h.1.filter _,λ x=>?_⟩,λ I i x f l=>?_⟩
 . obtain⟨a,v,U,na,V⟩:=A i x f s
   obtain⟨b,L,W,nb,X⟩:=A j x t q
   have:=O.inj a b x v L U W
   subst this;rcases V with⟨D,P⟩ | ⟨D,P⟩<;>rcases X with⟨e2,Q⟩ | ⟨e2,Q⟩
   . have:=congrArg (prev n) (D.symm.trans e2)
     rwa[qj5 f,qj5 t] at this
   . have e:=qj7 m f (by lia)
     rw[<- D,e2] at e;lia
   . have e:=qj7 m t (by lia)
     rw[<- e2,D] at e;lia
   rw[<- D,<- e2]
 . rcases w i x f l with⟨s,q⟩ | ⟨s,q⟩
   . obtain⟨e,C,Y⟩:=F i x f s q
     obtain⟨y,u,v⟩:=O.ord (next n i) x (qk1 f) q C;rw[qj5 f] at u v;have G:0 < Aa n (hm y) i:=by unfold ahead at v;lia
     have D:=qd4 (O.home x) f H;have e2:=qd4 (O.home y) f G;have Z:=qi4 f;by_cases e0:Aa n r i=0
     . have:=(qb8 m f).mp e0
       subst this;have hlast:Aa n i (prev n i)=n - 1:=by have d:=dor n i (prev n i);have p:=por n i;lia
       by_cases M:J+1=n
       . have:=h.round O K.c f E M q (by lia)
         lia
       rw[E] at u;cases u;obtain⟨z,hz,L⟩:=O.ord i k f E G;refine⟨z,?_,?_⟩
       . unfold Ah
         rw[hlast,if_neg (by lia),if_neg (by lia)];exact hz
       refine qt4 L ?_;unfold ahead at v ⊢;lia
     have R:=qd4 m f (by lia);refine⟨y,?_,?_⟩
     . unfold Ah
       rw[R,if_pos (by lia),qE7 f];exact u
     unfold ahead at v ⊢;lia
   obtain⟨y,u,v⟩:=O.ord i x f q H;refine⟨y,?_,v⟩;have R:=qd4 m f (by lia);by_cases T:Aa n r (prev n i)=J
   . exfalso
     have ei:prev n i=rot n r J:=by rw[<- T,qn9 m (qi4 f)]
     have en:next n (rot n r J)=i:=by rw[<- ei,qE7 f]
     rcases st with⟨I,hl⟩ | st
     . have:i=0:=by have p:=nor n (rot n r J);lia
       subst this
       have:=K.ln I 0 x f q
       have d:=dor n (hm x) 0;lia
     rw[en] at st
     have:=st x l
     lia
   unfold Ah;rw[if_neg (by lia),if_neg T];exact u
 . exact⟨rot n r J,qE0 m N,λ x l=>by rw[qw0 m N] at l;cases l⟩
 . rw[zB1,K.h.2 x,zBf]
   constructor
   . rintro⟨⟨j,t,B⟩,ne⟩
     have jr:j≠r:=λ z=>ne (by rw[z,E] at B;exact(Oy B).symm)
     have d0:Aa n r j≠0:=λ z=>jr ((qb8 m t).mp z)
     by_cases H:Aa n r j<=J
     . have e:=qd4 m t (by lia)
       refine⟨prev n j,qi4 t,?_⟩;unfold Ah;rw[e,if_pos (by lia),qE7 t];exact B
     refine⟨j,t,?_⟩;unfold Ah;rw[if_neg (by lia),if_neg (by lia)];exact B
   rintro⟨i,f,l⟩;obtain⟨j,t,B,nj,_⟩:=A i x f l;refine⟨⟨j,t,B⟩,λ z=>?_⟩;subst z;exact nj (O.inj j r x t m B E)
 rcases w i x f l with⟨s,q⟩ | ⟨s,q⟩
 . obtain⟨e,C,Y⟩:=F i x f s q
   have:=K.ln I (next n i) x (qk1 f) q
   have nn:=nor n i;have P:=dor n (hm x) (next n i);have Q:=dor n (hm x) i;lia
 exact K.ln I i x f q
end
def Kj(hm:Int->Nat)(x y:Int):Prop:=hm x < hm y∨(hm x=hm y/\x < y)
structure Fill(n:Nat)(hm:Int->Nat)(g:Nat->Option Int)(S:List Int)(top:Nat):Prop where
 k:Kept n false hm g S
 free:∀ i,top<=i->i < n->g i=none
 last:0 < top->∃ x,g (top - 1)=some x/\x∈S
 le:top<=n
theorem Fill.start{n:Nat}{hm:Int->Nat}(a:0 < n)(b:∀ k,hm k < n):Fill n hm (λ _=>none) [] 0:=⟨Kept.none a b,λ _ _ _=>rfl,λ h=>absurd h (by lia),by lia⟩
section
variable{n:Nat}{hm:Int->Nat}{g:Nat->Option Int}{S:List Int}{top:Nat}{k:Int}
theorem Fill.put(F:Fill n hm g S top)(l:¬ k∈S)(C:∀ x∈S,Kj hm x k)(m:max top (hm k) < n):Fill n hm (set g (max top (hm k)) k) (S++[k]) (max top (hm k)+1):=by
 generalize J:max top (hm k)=r at m ⊢;have p:top<=r:=by lia
 have q:hm k<=r:=by lia
 have D:g r=none:=F.free r p m;have below:∀ i x,i < n->g i=some x->i < top:=λ i x b a=>by
   by_cases h:top<=i
   . rw[F.free i h b] at a;cases a
   lia
 have s:∀ i x,i < n->set g r k i=some x->hm x<=i:=λ i x b a=>by
   by_cases e:i=r
   . subst e;rw[qb6] at a;cases a;exact q
   rw[qd0 e] at a;exact F.k.ln rfl i x b a
 have mem:∀ i x,i < n->g i=some x->x∈S:=λ i x b a=>(F.k.h.2 x).mpr ⟨i,b,a⟩
 refine⟨⟨⟨F.k.o.home,λ i j x b z a d=>?_,λ i x b a t=>?_⟩,⟨0,by lia,λ x E=>?_⟩,⟨?_,λ x=>⟨λ c=>?_,λ ⟨i,b,a⟩=>?_⟩⟩,λ _ i x b a=>s i x b a⟩,λ i b G=>?_,λ _=>⟨k,by rw[Nat.add_sub_cancel,qb6],zAv _ (zAl.mpr rfl)⟩,by lia⟩
 . by_cases u:i=r
   . by_cases e2:j=r
     . rw[u,e2]
     subst u;rw[qb6] at a;cases a;rw[qd0 e2] at d;exact absurd (mem j _ z d) l
   rw[qd0 u] at a;by_cases e2:j=r
   . subst e2;rw[qb6] at d;cases d
     exact absurd (mem i _ b a) l
   rw[qd0 e2] at d;exact F.k.o.inj i j x b z a d
 . have c:=s i x b a
   have K:i≠0:=λ e=>by
     have:=(qb8 (F.k.o.home x) b).mpr (by lia)
     lia
   have A:prev n i=i - 1:=by rcases por n i with h | h<;>lia
   by_cases e:i=r
   . subst e
     rw[qb6] at a;cases a;have H:hm k < i:=by
       unfold Aa at t;split at t<;>lia
     have B:top=i:=by lia
     obtain⟨y,f,v⟩:=F.last (by lia);have w:hm y<=i - 1:=F.k.ln rfl (i - 1) y (by lia) (by rw[<- B];exact f);refine⟨y,by rw[A,qd0 (by lia),<- B];exact f,?_⟩;rw[A];unfold ahead Aa;rw[if_pos (by lia),if_pos w];rcases C y v with h | h
     . exact .inl (by lia)
     exact .inr ⟨by lia,h.2⟩
   rw[qd0 e] at a;have L:=below i x b a;obtain⟨y,f,I⟩:=F.k.o.ord i x b a t;exact⟨y,by rw[qd0 (by lia)];exact f,I⟩
 . have:=s 0 x (by lia) E
   lia
 . refine zBr.mpr ⟨F.k.h.1,(by simp),λ x c y v e=>?_⟩
   rw[zAl.mp v] at e;exact l (e ▸ c)
 . rcases zA9.mp c with c | c
   . obtain⟨i,b,a⟩:=(F.k.h.2 x).mp c
     exact⟨i,b,by rw[qd0 λ e=>by rw[e,D] at a;cases a];exact a⟩
   rw[zAl.mp c];exact⟨r,m,qb6⟩
 . by_cases e:i=r
   . subst e;rw[qb6] at a;cases a
     exact zAv _ (zAl.mpr rfl)
   rw[qd0 e] at a;exact zC6 _ (mem i x b a)
 rw[qd0 (by lia)];exact F.free i (by lia) G
theorem Fill.room(F:Fill n hm g S top)(i:∀ x∈S,Kj hm x k)(j:∀ q,¬ Crowd n false hm (S++[k]) q):max top (hm k) < n:=by
 have u:=F.k.o.home k;have l:=F.le;by_cases h:top < n
 . lia
 have v:top=n:=by lia
 obtain⟨q,c⟩:=F.k.crowd (k:=k) λ e ⟨m,b,a⟩=>by
   have a:=a rfl;obtain⟨y,d,p⟩:=F.last (by lia);have f:=F.k.ln rfl (top - 1) y (by lia) d;have r:hm y<=hm k:=by rcases i y p with h | h<;>lia
   by_cases s:e=top - 1
   . rw[s,d] at b;cases b
   obtain⟨x,t,_⟩:=F.k.o.path' (by lia) m d (show Aa n (hm y) e < Aa n (hm y) (top - 1) by unfold Aa;rw[if_pos (by lia),if_pos f];lia);rw[t] at b;cases b
 exact absurd c (j q)
end
noncomputable def Gq(hm:Int->Nat)(T:List Int)(r:Nat):Nat:=(T.filter λ k=>decide (hm k=r)).length
noncomputable def Gd(hm:Int->Nat)(T:List Int)(q r:Nat):Nat:=(T.filter λ k=>decide (q<=hm k/\hm k < r)).length
theorem qV2{hm:Int->Nat}{q r:Nat}(h:q<=r):∀ T:List Int,Gd hm T q (r+1)=Gd hm T q r+Gq hm T r
 | []=>rfl
 | k::T=>by
   have a:=qV2 (hm:=hm) h T;unfold Gd Gq at a ⊢;simp only[List.filter_cons,zBf]
   split<;>split<;>split<;>(try simp only[zAm])<;>lia
theorem qaq0{hm:Int->Nat}{r:Nat}(T:List Int):Gd hm T r r=0:=by
 unfold Gd;rw[List.length_eq_zero_iff,List.filter_eq_nil_iff];intro k _ h
 have:=zAb h
 lia
section
variable{n:Nat}{hm:Int->Nat}{g:Nat->Option Int}{S:List Int}{k:Int}
theorem Kept.len{wr:Bool}(KP:Kept n wr hm g S):S.length<=n:=by
 have:=qC0 (g:=g) (Ms n) S KP.h.1 λ k a=>by
   obtain⟨i,b,e⟩:=(KP.h.2 k).mp a;exact⟨i,zAp.mpr b,e⟩
 rwa[zB4] at this
end
noncomputable def onC(c:Nat->Nat):Nat->Int
 | 0=>0
 | r+1=>if onC c r+(c r:Int) - 1 > 0 then onC c r+(c r:Int) - 1 else 0
noncomputable def sumC(c:Nat->Nat)(q:Nat):Nat->Nat
 | 0=>0
 | m+1=>sumC c q m+c (q+m)
section
variable{c:Nat->Nat}
theorem qH8:∀ r:Nat,0<=onC c r
 | 0=>Int.le_refl _
 | r+1=>by unfold onC;split<;>lia
theorem qaA3{q:Nat}:∀ m:Nat,(sumC c q m:Int) - (m:Int)<=onC c (q+m)
 | 0=>by have:=qH8 (c:=c) q;show ((0:Nat):Int) - _<=_;rw[Nat.add_zero];lia
 | m+1=>by
   have:=qaA3 (q:=q) m
   show ((sumC c q m+c (q+m):Nat):Int) - _<=onC c (q+m+1);unfold onC
   split<;>lia
theorem qaA4:∀ r:Nat,onC c r=0∨∃ q m,q+m=r/\0 < m/\onC c r=(sumC c q m:Int) - (m:Int)
 | 0=>.inl rfl
 | r+1=>by
   by_cases h:onC c r+(c r:Int) - 1 > 0
   . right
     have e:onC c (r+1)=onC c r+(c r:Int) - 1:=if_pos h;rcases qaA4 r with b | ⟨q,m,a,d,f⟩
     . exact⟨r,1,rfl,by lia,by rw[e];show _=((0+c (r+0):Nat):Int) - _;rw[Nat.add_zero];lia⟩
     exact⟨q,m+1,by lia,by lia,by rw[e];show _=((sumC c q m+c (q+m):Nat):Int) - _;rw[a];lia⟩
   exact .inl (if_neg h)
theorem qaa4{q m:Nat}:∀ l:Nat,sumC c q (m+l)=sumC c q m+sumC c (q+m) l
 | 0=>rfl
 | l+1=>by
   show sumC c q (m+l)+c (q+(m+l))=sumC c q m+(sumC c (q+m) l+c (q+m+l))
   rw[qaa4 l,show q+(m+l)=q+m+l by lia];lia
end
section
variable{n b:Nat}{hm:Int->Nat}{T:List Int}
def cR(n:Nat)(hm:Int->Nat)(T:List Int):Nat->Nat:=λ t=>Gq hm T (t % n)
theorem qaX6:cR n hm T (n+t)=cR n hm T t:=by unfold cR;rw[Nat.add_mod_left]
theorem qar3{q:Nat}:∀ m,sumC (cR n hm T) (n+q) m=sumC (cR n hm T) q m
 | 0=>rfl
 | m+1=>by
   show sumC _ (n+q) m+cR n hm T (n+q+m)=_;rw[qar3 m,Nat.add_assoc,qaX6];rfl
theorem qD1{s q:Nat}(a:b < n)(c:s % n=b)(d:∀ k,hm k < n):∀ m,q+m<=n->sumC (cR n hm T) (s+q) m=Gd (λ k=>Aa n b (hm k)) T q (q+m)
 | 0,_=>by rw[Nat.add_zero,qaq0];rfl
 | m+1,h=>by
   show sumC _ (s+q) m+cR n hm T (s+q+m)=_;rw[qD1 a c d m (by lia),show q+(m+1)=q+m+1 by lia,qV2 (by lia)];congr 1;unfold cR Gq;congr 1;refine Nh λ k _=>zC2.mpr ?_
   have e:(s+q+m) % n=rot n b (q+m):=by rw[Nat.add_assoc,Nat.add_mod,c,zCg (show q+m < n by lia),qar8 a (by lia)]
   rw[e];constructor
   . intro z;show Aa n b (hm k)=_;rw[z,qo6 a (by lia)]
   intro z;rw[<- show Aa n b (hm k)=_ from z,qn9 a (d k)]
theorem qaE1(a:∀ k,hm k < n):Gd hm T 0 n=T.length:=by
 unfold Gd;rw[List.filter_eq_self.mpr λ k _=>zAq ⟨zBk _,a k⟩]
theorem qaG2(a:0 < n)(c:∀ k,hm k < n):sumC (cR n hm T) 0 n=T.length:=by
 have:=qD1 (T:=T) (s:=0) (q:=0) (b:=0) a (Nat.zero_mod n) c n (by lia)
 rw[Nat.add_zero,zAc] at this;rw[this];refine(qaE1 (hm:=λ k=>Aa n 0 (hm k)) λ k=>qh6 (c k) a)
theorem qam1(f:0 < n)(a:∀ k,hm k < n):0 < onC (cR n hm T) n↔∃ q,Crowd n false hm T q:=by
 have e:∀ q,q<=n->sumC (cR n hm T) q (n - q)=(T.filter λ k=>decide (q<=hm k)).length:=λ q d=>by
   have:=qD1 (T:=T) (s:=0) (q:=q) (b:=0) f (Nat.zero_mod n) a (n - q) (by lia)
   rw[zAc,show q+(n - q)=n by lia] at this;rw[this];unfold Gd;congr 2;exact funext λ k=>zC2.mpr (by have:=a k;have i:Aa n 0 (hm k)=hm k:=if_pos (zBk _);dsimp only;lia)
 constructor
 . intro h
   rcases qaA4 (c:=cR n hm T) n with j | ⟨q,m,d,g,l⟩
   . lia
   refine⟨q,by lia,?_⟩;rw[if_neg (by decide),<- e q (by lia),show n - q=m by lia];lia
 rintro⟨q,d,h⟩;rw[if_neg (by decide),<- e q (by lia)] at h
 have:=qaA3 (c:=cR n hm T) (q:=q) (n - q)
 rw[show q+(n - q)=n by lia] at this;lia
theorem qaA2(i:0 < n)(j:∀ k,hm k < n)(w:T.length<=n):∃ r,r < n/\onC (cR n hm T) (n+r+1)=0:=by
 by_cases h:∃ r,r < n/\onC (cR n hm T) (n+r+1)=0
 . exact h
 exfalso;have pos:∀ r,r < n->0 < onC (cR n hm T) (n+r+1):=λ r g=>by
   have:=qH8 (c:=cR n hm T) (n+r+1)
   have:onC (cR n hm T) (n+r+1)≠0:=λ e=>h ⟨r,g,e⟩
   lia
 have a:∀ r,r<=n->onC (cR n hm T) (n+r)=onC (cR n hm T) n+(sumC (cR n hm T) n r:Int) - (r:Int):=λ r=>by
   induction r with
   | zero=>intro _;show _=_+((0:Nat):Int) - _;rw[Nat.add_zero];lia
   | succ r l =>
     intro g;have d:=pos r (by lia);have x:=l (by lia);have e:onC (cR n hm T) (n+r+1)=if onC (cR n hm T) (n+r)+(cR n hm T (n+r):Int) - 1 > 0 then onC (cR n hm T) (n+r)+(cR n hm T (n+r):Int) - 1 else 0:=rfl
     show onC (cR n hm T) (n+r+1)=_+((sumC (cR n hm T) n r+cR n hm T (n+r):Nat):Int) - _;rw[e] at d ⊢;split at d
     . rw[if_pos (by assumption)];lia
     lia
 have sa:=qaG2 (T:=T) i j;have b:∀ m,sumC (cR n hm T) n m=sumC (cR n hm T) 0 m:=λ m=>qar3 (q:=0) m
 have e2:=a n (zA3 _);have o:=pos (n - 1) (by lia);rw[show n+(n - 1)+1=n+n by lia] at o;rw[b] at e2;rcases qaA4 (c:=cR n hm T) n with y | ⟨q,m,p,s,d⟩
 . lia
 have t:=a q (by lia);rw[b] at t;have u:=qaa4 (c:=cR n hm T) (q:=0) (m:=q) m;rw[zAc,p] at u;by_cases f:q=0
 . subst f
   have:sumC (cR n hm T) 0 0=0:=rfl
   lia
 have v:=pos (q - 1) (by lia);rw[show n+(q - 1)+1=n+q by lia] at v;lia
theorem qI2{r:Nat}(f:r < n)(a:∀ k,hm k < n)(d:onC (cR n hm T) (n+r+1)=0):∀ q,¬ Crowd n false (λ k=>Aa n ((r+1) % n) (hm k)) T q:=by
 rintro q ⟨h,c⟩;have b:(r+1) % n < n:=Nat.mod_lt _ (by lia);rw[if_neg (by decide)] at c;have e:=qD1 (T:=T) (s:=r+1) (q:=q) b rfl a (n - q) (by lia);have g:=qaA3 (c:=cR n hm T) (q:=r+1+q) (n - q);rw[show r+1+q+(n - q)=n+r+1 by lia,d,e,show q+(n - q)=n by lia] at g;have e2:Gd (λ k=>Aa n ((r+1) % n) (hm k)) T q n=(T.filter λ k=>decide (q<=Aa n ((r+1) % n) (hm k))).length:=by
   unfold Gd;congr 2;exact funext λ k=>zC2.mpr (by have:=qh6 (a k) b;dsimp only;lia)
 have c:=e2 ▸ c;generalize Gd _ T q n=m at *
 lia
theorem Kept.turn{g:Nat->Option Int}{S:List Int}(c:b < n)(p:∀ k,hm k < n)(K:Kept n false (λ k=>Aa n b (hm k)) g S):Kept n true hm (λ i=>g (Aa n b i)) S:=by
 have f:∀ i,i < n->Aa n b i < n:=λ i a=>qh6 a c
 have l:∀ i x,i < n->g (Aa n b i)=some x->Aa n b (hm x)+Aa n (hm x) i=Aa n b i:=λ i x a d=>Fa c (p x) a (K.ln rfl _ x (f i a) d)
 refine⟨⟨p,λ i j x a m d u=>qi1 c a m (K.o.inj _ _ x (f i a) (f j m) d u),λ i x a d v=>?_⟩,⟨b,c,λ x w=>?_⟩,⟨K.h.1,λ x=>⟨λ A=>?_,λ ⟨i,a,d⟩=>(K.h.2 x).mpr ⟨_,f i a,d⟩⟩⟩,λ h=>nomatch h⟩
 . have f1:=l i x a d
   have q:=K.ln rfl _ x (f i a) d;have B:Aa n (Aa n b (hm x)) (Aa n b i)=Aa n (hm x) i:=by
     unfold Aa at q ⊢;rw[if_pos q];unfold Aa at f1;lia
   obtain⟨y,r,s⟩:=K.o.ord _ x (f i a) d (by rw[B];exact v);have C:prev n (Aa n b i)=Aa n b (prev n i):=by
     rw[qd4 c a (by lia)];rcases por n (Aa n b i) with h | h<;>lia
   rw[C] at r s;have t:=qi4 a;have f2:=l (prev n i) y t r;have D:=K.ln rfl _ y (f _ t) r;have f3:Aa n b (hm x)+Aa n (hm x) (prev n i)=Aa n b (prev n i):=Fa c (p x) t (by rw[qd4 c a (by lia)];lia);refine⟨y,r,?_⟩;have E:Aa n (Aa n b (hm y)) (Aa n b (prev n i))=Aa n (hm y) (prev n i):=by
     have:Aa n (Aa n b (hm y)) (Aa n b (prev n i))=Aa n b (prev n i) - Aa n b (hm y):=if_pos D
     lia
   have F:Aa n (Aa n b (hm x)) (Aa n b (prev n i))=Aa n (hm x) (prev n i):=by
     have:Aa n (Aa n b (hm x)) (Aa n b (prev n i))=Aa n b (prev n i) - Aa n b (hm x):=if_pos (by lia)
     lia
   unfold ahead at s ⊢;rwa[E,F] at s
 . have q:=K.ln rfl _ x (f b c) w
   have z:Aa n b b=0:=(qb8 c c).mpr rfl;rw[z] at q;exact(qb8 c (p x)).mp (by lia)
 obtain⟨j,m,e⟩:=(K.h.2 x).mp A;exact⟨rot n b j,qE0 c m,by show g (Aa n b (rot n b j))=_;rw[qo6 c m];exact e⟩
end
theorem Kept.of_perm{n:Nat}{wr:Bool}{hm:Int->Nat}{g:Nat->Option Int}{S T:List Int}(K:Kept n wr hm g S)(p:S.Perm T):Kept n wr hm g T:=⟨K.1,K.2,⟨p.nodup_iff.mp K.h.1,λ k=>p.mem_iff.symm.trans (K.h.2 k)⟩,K.4⟩
theorem Il{n:Nat}:Aa n 0 i=i:=if_pos (zBk _)
theorem qaB0{n:Nat}(b:a < n)(c:s<=n):((a:Int) - (s:Int)) % (n:Int)=(Aa n (s % n) a:Nat):=by
 by_cases e:s=n
 . subst e
   rw[Nat.mod_self,Il,Int.sub_emod_right];exact zC7 (by lia) (by lia)
 rw[zCg (show s < n by lia)];unfold Aa;split
 . rw[zC7 (by lia) (by lia)];lia
 rw[<- Int.add_emod_right,zC7 (by lia) (by lia)];lia
end Row
namespace My
open PySem L2
noncomputable def bagL(x y z:Int)(L:γ):HO:=.l [.int x,.int y,.int z,.ref L]
structure BagAt(H:Hp)(p:γ)(x y z:Int)(L:γ)(ns:List Int):Prop where
 at_:H p=some (bagL x y z L)
 li:H L=some (.l (ns.map V.int))
 x0:0<=x
 y0:0<=y
 y1:y < 2147483647
 z0:0<=z
 nn:∀ n∈ns,0<=n
def Bag(H:Hp)(p L:γ):Prop:=∃ x y z ns,BagAt H p x y z L ns
theorem qaY0{L:γ}{x y z:Int}{ns:List Int}:HO.l (ns.map V.int)≠bagL x y z L:=by
 intro e;have e:ns.map V.int=[.int x,.int y,.int z,.ref L]:=by injection e
 have e:=congrArg (·[3]?) e;rw[zB8] at e;cases h:ns[3]? <;> rw[h] at e<;>cases e
theorem BagAt.ne{H:Hp}{p L:γ}{x y z:Int}{ns:List Int}(B:BagAt H p x y z L ns):L≠p:=ne_of B.li B.at_ qaY0
def qaR2(K:O0):Sp:=λ vs H Q _=>∃(l:γ)(ns:List Int),vs=[.ref l]/\SqL K H l (ns.map V.int)/\ns.length<=63 /\
 ∀ p L H',H p=none->H L=none->Same H H'->Bag H' p L->Q (.ref p) H'
def Im(K:O0):Sp:=λ vs H Q _=>∃(l:γ)(ns:List Int),vs=[.ref l]/\SqL K H l (ns.map V.int)/\ns.length<=63/\∀ H',Q (.bl true) H'
abbrev Pr:=List (Int×Int)
def An(n:Int):Prop:=0<=n/\n<=1000000000000000000
structure Kk(ps:Pr):Prop where
 len:ps.length<=64
 nd:(ps.map (·.1)).Nodup
 nums:∀ p∈ps,An p.1/\An p.2
noncomputable def qc2(n:Int)(ps:Pr)(k:Int):Int:=((ps.lookup k).getD k) % n
def A4(n:Int)(wr:Bool)(ps:Pr)(k r:Int):Option Int :=
 if wr then some ((r - qc2 n ps k) % n) else if 0<=r - qc2 n ps k then some (r - qc2 n ps k) else none
def qk4(n:Int)(wr:Bool)(ps:Pr)(r a other:Int):Bool :=
 match A4 n wr ps a r,A4 n wr ps other r with
 | none,_=>false
 | some _,none=>true
 | some x,some y=>decide (y < x)||(decide (x=y)&&decide (a < other))
theorem qag4{n:Int}(h:1<=n)(ps:Pr)(k:Int):0<=qc2 n ps k/\qc2 n ps k < n:=⟨Int.emod_nonneg _ (by lia),zCh _ (by lia)⟩
theorem qaC1(k:Int)(ks:List Int):inV (.int k) (ks.map V.int)=decide (k∈ks):=by
 unfold inV;rw[Oh,Bool.eq_iff_iff,N4,zBf];constructor
 . rintro⟨x,a,e⟩
   have e:(x == k)=true:=e;rw[<- zBl.mp e];exact a
 intro h;exact⟨k,h,zAw k⟩
end My
namespace My
open PySem L2
open Row
variable{n:Int}{ps:Pr}{r:Nat}
def P1(n:Int)(ps:Pr)(k:Int):Nat:=(qc2 n ps k).toNat
theorem Fb(h:1<=n)(k:Int):P1 n ps k < n.toNat:=by
 have:=qag4 h ps k
 unfold P1;lia
theorem qJ4(h:1<=n)(k:Int):((P1 n ps k:Nat):Int)=qc2 n ps k:=by
 have:=qag4 h ps k
 unfold P1;lia
theorem qap3(a:1<=n){h:Nat}(b:h < n.toNat)(c:r < n.toNat):((r:Int) - (h:Int)) % n=(Aa n.toNat h r:Nat):=by
 rcases dor n.toNat h r with⟨h1,h2⟩ | ⟨h1,h2⟩
 . rw[zC7 (by lia) (by lia)];lia
 have e:((r:Int) - (h:Int)) % n=((r:Int) - (h:Int)+n) % n:=by rw[Int.add_emod_right]
 rw[e,zC7 (by lia) (by lia)]
 have:=h2 (by lia)
 lia
theorem qC9{wr:Bool}{k:Int}(a:1<=n)(c:r < n.toNat)(d:wr=false->P1 n ps k<=r):A4 n wr ps k (r:Int)=some ((Aa n.toNat (P1 n ps k) r:Nat):Int):=by
 have e:=Fb (ps:=ps) a k;have b:=qJ4 (ps:=ps) a k;unfold A4;cases wr with
 | true=>rw[if_pos rfl,<- b,qap3 a e c]
 | false =>
   have:=d rfl
   rw[if_neg (by decide),if_pos (by lia),<- b]
   have:=dor n.toNat (P1 n ps k) r
   congr 1;lia
theorem qG4{wr:Bool}{x y:Int}(a:1<=n)(b:r < n.toNat)(c:wr=false->P1 n ps x<=r)(d:wr=false->P1 n ps y<=r):qk4 n wr ps (r:Int) x y=true↔ahead n.toNat (P1 n ps) r x y:=by
 unfold qk4 ahead;rw[qC9 a b c,qC9 a b d];show (decide _||(decide _&&decide _))=true↔_;simp only[Bool.or_eq_true,zBe,zBf];lia
theorem qae0(a:1<=n)(b:r < n.toNat):((r:Int)+1) % n=(Row.next n.toNat r:Nat):=by
 rcases nor n.toNat r with⟨h,e⟩ | ⟨h,e⟩
 . rw[e,show ((r:Int)+1)=n by lia];simp
 rw[e,zC7 (by lia) (by lia)];rfl
end My
namespace LV
open PySem L2
variable{Ao:List γ}{N:List Str}{P:List V'->Prop}{Q:VK}{base:Heap}{cd:Ma}{cm z:Bool}{i j n:Nat}{kvs:List (Key×V)}{lo:Int}{mg:Str->Option V'}{op:CmpOp}{v w:V}{vs:List V}{α:Type}{a':St}
inductive D where
 | non | bl (b:Bool) | int (i:Int) | str (x:Str) | ty (n:String) | adr (a:γ)
 | q (ds:List D) | l (z:Bool) (ds:List D) | dct (z:Bool) (kvs:List (Key×D)) | ins (z:Bool) (C:γ) (fs:List (Str×D))
 | scr (ns:List Int)
 | exn (C:γ) (fs:List (Str×D))
 | hole (v:V) | u
mutual
def D.imm:D->Bool
 | .q ds=>D.imms ds
 | .l z _=>z
 | .dct z _=>z
 | .ins z _ _=>z
 | _=>true
def D.imms:List D->Bool
 | []=>true
 | d::r=>d.imm&&D.imms r
end
mutual
def D.fz:D->D
 | .q ds=>.q (D.fzs ds)
 | .l _ ds=>.l true (D.fzs ds)
 | .dct _ kvs=>.dct true (D.fzk kvs)
 | .ins _ C fs=>.ins true C (D.fzf fs)
 | .exn C fs=>.exn C (D.fzf fs)
 | .non=>.non | .bl b=>.bl b | .int i=>.int i | .str x=>.str x | .ty n=>.ty n | .adr a=>.adr a | .scr ns=>.scr ns | .hole v=>.hole v | .u=>.u
def D.fzs:List D->List D
 | []=>[]
 | d::r=>d.fz::D.fzs r
def D.fzk:List (Key×D)->List (Key×D)
 | []=>[]
 | (k,d)::r=>(k,d.fz)::D.fzk r
def D.fzf:List (Str×D)->List (Str×D)
 | []=>[]
 | (k,d)::r=>(k,d.fz)::D.fzf r
end
mutual
inductive P'(F:γ->Prop)(H:Hp):V->D->List γ->Prop
 | non:P' F H .non .non []
 | bl (b:Bool):P' F H (.bl b) (.bl b) []
 | int (i:Int):P' F H (.int i) (.int i) []
 | str (x:Str):P' F H (.str x) (.str x) []
 | ty (n:String):P' F H (.ty n) (.ty n) []
 | adr (a:γ):P' F H (.ref a) (.adr a) []
 | q {a:γ} {vs:List V} {ds:List D} {A:List γ} (h:H a=some (.q vs)) (r:P3 F H vs ds A):P' F H (.ref a) (.q ds) A
 | l {a:γ} {vs:List V} {ds:List D} {A:List γ} (h:H a=some (.l vs)) (r:P3 F H vs ds A):P' F H (.ref a) (.l false ds) (a::A)
 | lstZ {a:γ} {vs:List V} {ds:List D} (h:H a=some (.l vs)) (f:F a) (r:P3 F H vs ds []):P' F H (.ref a) (.l true ds) []
 | dct {a:γ} {kvs:List (Key×V)} {kds:List (Key×D)} {A:List γ} (h:H a=some (.dK kvs)) (e:kvs.map (·.1)=kds.map (·.1)) (r:P3 F H (kvs.map (·.2)) (kds.map (·.2)) A):P' F H (.ref a) (.dct false kds) (a::A)
 | dctZ {a:γ} {kvs:List (Key×V)} {kds:List (Key×D)} (h:H a=some (.dK kvs)) (f:F a) (e:kvs.map (·.1)=kds.map (·.1)) (r:P3 F H (kvs.map (·.2)) (kds.map (·.2)) []):P' F H (.ref a) (.dct true kds) []
 | ins {a C dx:γ} {fvs:List (Str×V)} {fds:List (Str×D)} {A:List γ} (h:H a=some (.ins C dx fvs)) (e:fvs.map (·.1)=fds.map (·.1)) (r:P3 F H (fvs.map (·.2)) (fds.map (·.2)) A):P' F H (.ref a) (.ins false C fds) (a::A)
 | insZ {a C dx:γ} {fvs:List (Str×V)} {fds:List (Str×D)} (h:H a=some (.ins C dx fvs)) (f:F a) (e:fvs.map (·.1)=fds.map (·.1)) (r:P3 F H (fvs.map (·.2)) (fds.map (·.2)) []):P' F H (.ref a) (.ins true C fds) []
 | scr {a:γ} {o:Obj} {ns:List Int} (h:H a=some (.frz o (.l (ns.map V.int)))):P' F H (.ref a) (.scr ns) []
 | exn {a C dx:γ} {fvs:List (Str×V)} {fds:List (Str×D)} (h:H a=some (Bk a C (some dx) false)) (g:H dx=some (XD dx fvs)) (e:fvs.map (·.1)=fds.map (·.1)) (r:P3 F H (fvs.map (·.2)) (fds.map (·.2)) []):P' F H (.ref a) (.exn C fds) []
 | hole (v:V):P' F H v (.hole v) []
 | u (v:V):P' F H v .u []
inductive P3(F:γ->Prop)(H:Hp):List V->List D->List γ->Prop
 | nil:P3 F H [] [] []
 | cons {v:V} {d:D} {A:List γ} {vs:List V} {ds:List D} {B:List γ} (h:P' F H v d A) (t:P3 F H vs ds B):P3 F H (v::vs) (d::ds) (A++B)
end
noncomputable def Fk:HO->Bool
 | .l _=>true
 | .dK _=>true
 | .ins _ _ _=>true
 | _=>false
section
variable{F F':γ->Prop}{H H':Hp}
def Cel(H:Hp)(A:List γ):Prop:=∀ b∈A,∃ o,H b=some o/\Fk o=true
theorem Cel.cons{A:List γ}{a:γ}{o:HO}(e:H a=some o)(m:Fk o=true)(h:Cel H A):Cel H (a::A):=λ b c=>(zAn.mp c).elim (λ q=>q ▸ ⟨_,e,m⟩) (h b)
theorem Cel.app{A B:List γ}(h:Cel H A)(g:Cel H B):Cel H (A++B):=λ b a=>(zA9.mp a).elim (h b) (g b)
theorem P'.cells{v:V}{d:D}{A:List γ}(r:P' F H v d A):Cel H A:=by
 induction r using P'.rec (motive_2:=λ _ _ A _=>Cel H A) with
 | q e r i=>exact i
 | l e r i=>exact Cel.cons e rfl i
 | dct e _ r i=>exact Cel.cons e rfl i
 | ins e _ r i=>exact Cel.cons e rfl i
 | cons _ _ i j=>exact Cel.app i j
 | _=>nofun
theorem P3.cells{vs:List V}{ds:List D}{A:List γ}(r:P3 F H vs ds A):Cel H A:=by
 induction r using P3.rec (motive_1:=λ _ _ _ _=>True) with
 | cons h _ i j=>exact Cel.app h.cells j
 | nil=>nofun
 | _=>trivial
structure Kp(F:γ->Prop)(H:Hp)(W F':γ->Prop)(H':Hp):Prop where
 fr:∀ b o,H b=some o->¬ W b->H' b=some o
 wm:∀ b,W b->∃ o,H b=some o/\Fk o=true
 wf:∀ b,W b->¬ F b
 mF:∀ b,F b->F' b
theorem Kp.q{W:γ->Prop}(k:Kp F H W F' H'){a:γ}{vs:List V}(h:H a=some (.q vs)):H' a=some (.q vs):=by
 refine k.fr a _ h λ w=>?_
 obtain⟨o,e,m⟩:=k.wm a w;rw[h] at e;cases e;cases m
theorem Kp.imm{W:γ->Prop}(k:Kp F H W F' H'){a:γ}{o:HO}(h:H a=some o)(n:Fk o=false):H' a=some o:=by
 refine k.fr a _ h λ w=>?_
 obtain⟨o,e,m⟩:=k.wm a w;rw[h] at e;cases e;rw[n] at m;cases m
theorem Kp.frz{W:γ->Prop}(k:Kp F H W F' H'){a:γ}{o:Obj}{u:HO}(h:H a=some (.frz o u)):H' a=some (.frz o u):=by
 refine k.fr a _ h λ w=>?_
 obtain⟨o,e,m⟩:=k.wm a w;rw[h] at e;cases e;cases m
theorem P'.keep{W:γ->Prop}(k:Kp F H W F' H'){v:V}{d:D}{A:List γ}(r:P' F H v d A):(∀ b∈A,¬ W b)->P' F' H' v d A:=by
 induction r using P'.rec (motive_2:=λ a c A _=>(∀ b∈A,¬ W b)->P3 F' H' a c A) with
 | q e r i=>exact λ h=>.q (k.q e) (i h)
 | l e r i=>exact λ h=>.l (k.fr _ _ e (zAz.mp h).1) (i (zAz.mp h).2)
 | lstZ e f r i=>exact λ h=>.lstZ (k.fr _ _ e λ w=>k.wf _ w f) (k.mF _ f) (i h)
 | dct e q r i=>exact λ h=>.dct (k.fr _ _ e (zAz.mp h).1) q (i (zAz.mp h).2)
 | dctZ e f q r i=>exact λ h=>.dctZ (k.fr _ _ e λ w=>k.wf _ w f) (k.mF _ f) q (i h)
 | ins e q r i=>exact λ h=>.ins (k.fr _ _ e (zAz.mp h).1) q (i (zAz.mp h).2)
 | insZ e f q r i=>exact λ h=>.insZ (k.fr _ _ e λ w=>k.wf _ w f) (k.mF _ f) q (i h)
 | scr e=>exact λ _=>.scr (k.frz e)
 | exn e g q r i=>exact λ h=>.exn (k.imm e rfl) (k.imm g rfl) q (i h)
 | cons _ _ i j h=>exact P3.cons (i (zBo.mp h).1) (j (zBo.mp h).2)
 | nil=>constructor
 | _=>intro;constructor
theorem P3.keep{W:γ->Prop}(k:Kp F H W F' H'){vs:List V}{ds:List D}{A:List γ}(r:P3 F H vs ds A):(∀ b∈A,¬ W b)->P3 F' H' vs ds A:=by
 induction r using P3.rec (motive_1:=λ _ _ _ _=>True) with
 | nil=>exact λ _=>P3.nil
 | cons r _ i j=>exact λ h=>P3.cons (r.keep k (zBo.mp h).1) (j (zBo.mp h).2)
 | _=>trivial
theorem Kp.same(s:Same H H'):Kp F H (λ _=>False) F H':=⟨λ b o e _=>s b o e,λ _ w=>w.elim,λ _ w=>w.elim,λ _ f=>f⟩
theorem P'.same{d:D}{A:List γ}(r:P' F H v d A)(s:Same H H'):P' F H' v d A:=r.keep (Kp.same s) λ _ _=>id
theorem P3.same{ds:List D}{A:List γ}(r:P3 F H vs ds A)(s:Same H H'):P3 F H' vs ds A:=r.keep (Kp.same s) λ _ _=>id
theorem Kp.more(m:∀ b,F b->F' b):Kp F H (λ _=>False) F' H:=⟨λ b o e _=>e,λ _ w=>w.elim,λ _ w=>w.elim,m⟩
mutual
theorem P'.imm{v:V}{d:D}{A:List γ}(r:P' F H v d A)(h:d.imm=true):A=[]:=by
 cases r with
 | q e r=>exact r.imms h
 | l=>cases h
 | dct=>cases h
 | ins=>cases h
 | _=>rfl
theorem P3.imms{vs:List V}{ds:List D}{A:List γ}(r:P3 F H vs ds A)(h:D.imms ds=true):A=[]:=by
 cases r with
 | nil=>rfl
 | cons r t =>
   have h:=zAi.mp h;rw[r.imm h.1,t.imms h.2];rfl
end
theorem qT5(a:List (Key×D)):(D.fzk a).map (·.1)=a.map (·.1)/\(D.fzk a).map (·.2)=D.fzs (a.map (·.2)):=by
 induction a with
 | nil=>exact⟨rfl,rfl⟩
 | cons p r b=>obtain⟨k,d⟩:=p;simp only[D.fzk,D.fzs,zAx,b.1,b.2,and_self]
theorem qC7(a:List (Str×D)):(D.fzf a).map (·.1)=a.map (·.1)/\(D.fzf a).map (·.2)=D.fzs (a.map (·.2)):=by
 induction a with
 | nil=>exact⟨rfl,rfl⟩
 | cons p r b=>obtain⟨k,d⟩:=p;simp only[D.fzf,D.fzs,zAx,b.1,b.2,and_self]
theorem P'.fz{v:V}{d:D}{A:List γ}(r:P' F H v d A)(m:∀ b,F b->F' b):(∀ b∈A,F' b)->P' F' H v d.fz []:=by
 induction r using P'.rec (motive_2:=λ a c A _=>(∀ b∈A,F' b)->P3 F' H a (D.fzs c) []) with
 | q e r i=>exact λ h=>.q e (i h)
 | l e r i=>exact λ h=>.lstZ e (zAz.mp h).1 (i (zAz.mp h).2)
 | lstZ e f r i=>exact λ h=>.lstZ e (m _ f) (i h)
 | dct e q r i=>exact λ h=>.dctZ e (zAz.mp h).1 (q.trans (qT5 _).1.symm) ((qT5 _).2 ▸ i (zAz.mp h).2)
 | dctZ e f q r i=>exact λ h=>.dctZ e (m _ f) (q.trans (qT5 _).1.symm) ((qT5 _).2 ▸ i h)
 | ins e q r i=>exact λ h=>.insZ e (zAz.mp h).1 (q.trans (qC7 _).1.symm) ((qC7 _).2 ▸ i (zAz.mp h).2)
 | insZ e f q r i=>exact λ h=>.insZ e (m _ f) (q.trans (qC7 _).1.symm) ((qC7 _).2 ▸ i h)
 | scr e=>exact λ _=>.scr e
 | exn e g q r i=>exact λ h=>.exn e g (q.trans (qC7 _).1.symm) ((qC7 _).2 ▸ i h)
 | nil=>exact P3.nil
 | cons _ _ i j h=>exact P3.cons (A:=[]) (B:=[]) (i (zBo.mp h).1) (j (zBo.mp h).2)
 | _=>intro;constructor
end
theorem ec:∀{us:List V'},us.length=n+1->∃ a vs,us=a::vs/\vs.length=n
 | a::vs,h=>⟨a,vs,rfl,Nat.succ.inj h⟩
theorem ec0(h:P [])(us:List V')(e:us.length=0):P us:=List.length_eq_zero_iff.mp e ▸ h
theorem ec1(h:∀ x us,us.length=n->P (x::us))(us:List V')(e:us.length=n+1):P us:=by
 obtain⟨x,a,rfl,b⟩:=ec e;exact h x a b
theorem ec2(h:∀ us,us.length=n->P us)(us:List V')(e:us.length+1=n+1):P us:=h us (Nat.succ.inj e)
inductive Locs(F:γ->Prop)(H:Hp):List (Option V)->List D->List γ->Prop
 | nil:Locs F H [] [] []
 | no {a:List (Option V)} {ds:List D} {A:List γ} (t:Locs F H a ds A):Locs F H (none::a) (.u::ds) A
 | so {v:V} {d:D} {B:List γ} {a:List (Option V)} {ds:List D} {A:List γ} (h:P' F H v d B) (t:Locs F H a ds A):Locs F H (some v::a) (d::ds) (B++A)
section
variable{F F':γ->Prop}{H H':Hp}
theorem Locs.cells{n:List (Option V)}{ds:List D}{A:List γ}(r:Locs F H n ds A):∀ b∈A,∃ o,H b=some o/\Fk o=true:=by
 induction r with
 | nil=>intro b h;cases h
 | no t c=>exact c
 | so h t c =>
   intro b a;rcases zA9.mp a with a | a
   . exact h.cells b a
   exact c b a
theorem Locs.keep{W:γ->Prop}(k:Kp F H W F' H'){n:List (Option V)}{ds:List D}{A:List γ}(r:Locs F H n ds A):(∀ b∈A,¬ W b)->Locs F' H' n ds A:=by
 induction r with
 | nil=>exact λ _=>.nil
 | no t a=>exact λ h=>.no (a h)
 | so h t a=>exact λ q=>.so (h.keep k λ b c=>q b (zA9.mpr (.inl c))) (a λ b c=>q b (zA9.mpr (.inr c)))
theorem Locs.same{n:List (Option V)}{ds:List D}{A:List γ}(r:Locs F H n ds A)(s:Same H H'):Locs F H' n ds A:=r.keep (Kp.same s) λ _ _=>id
theorem Locs.len{n:List (Option V)}{ds:List D}{A:List γ}(r:Locs F H n ds A):n.length=ds.length:=by
 induction r with
 | nil=>rfl
 | no t a=>simp[a]
 | so h t a=>simp[a]
theorem Locs.append{n p:List (Option V)}{ds es:List D}{A B:List γ}(r:Locs F H n ds A)(t:Locs F H p es B):Locs F H (n++p) (ds++es) (A++B):=by
 induction r with
 | nil=>exact t
 | no _ a=>exact .no a
 | so h _ a=>rw[zAr];exact .so h a
inductive Iq(F:γ->Prop)(H:Hp):Option V->D->List γ->Prop
 | no:Iq F H none .u []
 | so {v:V} {d:D} {B:List γ} (h:P' F H v d B):Iq F H (some v) d B
theorem Locs.cons{o:Option V}{d:D}{B:List γ}{n:List (Option V)}{ds:List D}{A:List γ}(h:Iq F H o d B)(t:Locs F H n ds A):Locs F H (o::n) (d::ds) (B++A):=by
 cases h with
 | no=>exact .no t
 | so h=>exact .so h t
theorem Locs.split:∀{ds:List D}{n:List (Option V)}{A:List γ}{i:Nat}{d:D},Locs F H n ds A->ds[i]? = some d ->
   ∃ σ1 o σ2 ds1 a A1 B A2,n=σ1++o::σ2/\ds=ds1++d::a/\σ1.length=i/\ds1.length=i/\A=A1++(B++A2)/\Locs F H σ1 ds1 A1/\Iq F H o d B/\Locs F H σ2 a A2:=by
 intro ds
 induction ds with
 | nil=>intro n A i d _ h;simp at h
 | cons e r m =>
   intro n A i d L h;cases i with
   | zero =>
     have:e=d:=by simpa using h
     subst this;cases L with
     | no t=>exact⟨[],none,_,[],_,[],[],_,rfl,rfl,rfl,rfl,rfl,.nil,.no,t⟩
     | so q t=>exact⟨[],some _,_,[],_,[],_,_,rfl,rfl,rfl,rfl,rfl,.nil,.so q,t⟩
   | succ i =>
     have h:r[i]? = some d:=by simpa using h
     cases L with
     | no t =>
       obtain⟨σ1,o,σ2,ds1,a,A1,B,A2,b,e2,c,f,g,j,k,l⟩:=m t h;exact⟨none::σ1,o,σ2,_::ds1,a,A1,B,A2,by rw[b];rfl,by rw[e2];rfl,by simp[c],by simp[f],g,.no j,k,l⟩
     | @so v _ B0 _ _ A0 q t =>
       obtain⟨σ1,o,σ2,ds1,a,A1,B,A2,b,e2,c,f,g,j,k,l⟩:=m t h;exact⟨some v::σ1,o,σ2,_::ds1,a,B0++A1,B,A2,by rw[b];rfl,by rw[e2];rfl,by simp[c],by simp[f],by rw[g,zAr],.so q j,k,l⟩
end
theorem qp1{a b:List α}{x y:α}(h:a.length=i):(a++x::b).set i y=a++y::b:=by
 subst h;rw[No _ _ (zA3 _),Nat.sub_self];rfl
theorem qC6{a b:List α}{x:α}(h:a.length=i):(a++x::b)[i]? = some x:=by
 subst h;simp
structure Ok(F:γ->Prop)(H:Hp)(A:List γ):Prop where
 sep:∀ b,A.count b<=1
 fro:∀ b,F b->A.count b=0
 ex:∀ b,F b->∃ o,H b=some o
structure Qb(F:γ->Prop)(H:Hp)(A:List γ)(F':γ->Prop)(H':Hp)(A':List γ):Prop where
 fr:∀ b o,H b=some o->A.count b=0->H' b=some o
 sub:∀ b o,H b=some o->A.count b=0->A'.count b=0
 mono:∀ b,F b->F' b
 fnew:∀ b o,H b=some o->A.count b=0->F' b->F b
section
variable{F j l:γ->Prop}{H i k:Hp}{A A1 A2 T:List γ}
theorem Qb.refl:Qb F H A F H A:=⟨λ _ _ e _=>e,λ _ _ _ e=>e,λ _ f=>f,λ _ _ _ _ f=>f⟩
theorem Qb.trans(s:Qb F H A j i A1)(t:Qb j i A1 l k A2):Qb F H A l k A2 :=
 ⟨λ b o e q=>t.fr b o (s.fr b o e q) (s.sub b o e q),λ b o e q=>t.sub b o (s.fr b o e q) (s.sub b o e q),λ b f=>t.mono b (s.mono b f),λ b o e q f=>s.fnew b o e q (t.fnew b o (s.fr b o e q) (s.sub b o e q) f)⟩
theorem Qb.same(s:Same H i):Qb F H A F i A:=⟨λ b o e _=>s b o e,λ _ _ _ e=>e,λ _ f=>f,λ _ _ _ _ f=>f⟩
theorem qa9{b:γ}{A:List γ}:b∈A↔A.count b≠0:=by
 rw[<- List.count_pos_iff];lia
theorem Qb.kp(s:Qb F H A j i A1)(o:Ok F H A)(c:∀ b∈A,∃ o,H b=some o/\Fk o=true):Kp F H (λ b=>A.count b≠0) j i :=
 ⟨λ b u e w=>s.fr b u e (by lia),λ b w=>c b (qa9.mpr w),λ b w f=>w (o.fro b f),s.mono⟩
theorem Ok.left(o:Ok F H (T++A)):Ok F H T:=⟨λ b=>by have:=o.sep b;rw[zA0] at this;lia,λ b f=>by have:=o.fro b f;rw[zA0] at this;lia,o.ex⟩
theorem Ok.right(o:Ok F H (T++A)):Ok F H A:=⟨λ b=>by have:=o.sep b;rw[zA0] at this;lia,λ b f=>by have:=o.fro b f;rw[zA0] at this;lia,o.ex⟩
theorem Ok.count(o:Ok F H A)(h:∀ b,A1.count b<=A.count b):Ok F H A1:=⟨λ b=>zAd (h b) (o.sep b),λ b f=>by have:=o.fro b f;have:=h b;lia,o.ex⟩
theorem Qb.frame(s:Qb F H A j i A1)(o:Ok F H (T++A))(c:∀ b∈T,∃ o,H b=some o/\Fk o=true)(d:Ok j i A1):Ok j i (T++A1)/\Qb F H (T++A) j i (T++A1):=by
 have a:∀ b,T.count b≠0->∃ u,H b=some u/\A.count b=0:=λ b h=>by
   obtain⟨u,e,_⟩:=c b (qa9.mpr h)
   have:=o.sep b
   rw[zA0] at this;exact⟨u,e,by lia⟩
 refine⟨⟨λ b=>?_,λ b f=>?_,d.ex⟩,λ b u e q=>?_,λ b u e q=>?_,s.mono,λ b u e q f=>?_⟩
 . rw[zA0]
   by_cases h:T.count b=0
   . have:=d.sep b;lia
   obtain⟨u,e,q⟩:=a b h;have g:=s.sub b u e q
   have:=o.sep b
   rw[zA0] at this;lia
 . rw[zA0,d.fro b f]
   by_cases h:T.count b=0
   . lia
   obtain⟨u,e,q⟩:=a b h
   have:=o.fro b (s.fnew b u e q f)
   rw[zA0] at this;lia
 . rw[zA0] at q;exact s.fr b u e (by lia)
 . rw[zA0] at q ⊢;have:=s.sub b u e (by lia);lia
 rw[zA0] at q;exact s.fnew b u e (by lia) f
theorem Qb.count(s:Qb F H A j i A1)(h:∀ b,A2.count b<=A1.count b):Qb F H A j i A2:=⟨s.fr,λ b o e q=>by have:=s.sub b o e q;have:=h b;lia,s.mono,s.fnew⟩
theorem Qb.pre(s:Qb F H A j i A1)(h:∀ b,A.count b=A2.count b):Qb F H A2 j i A1:=⟨λ b o e q=>s.fr b o e (by rw[h];exact q),λ b o e q=>s.sub b o e (by rw[h];exact q),s.mono,λ b o e q f=>s.fnew b o e (by rw[h];exact q) f⟩
end
structure New(H:Hp)(B:List γ):Prop where
 one:∀ b,B.count b<=1
 new:∀ b o,H b=some o->B.count b=0
section
variable{F:γ->Prop}{H H':Hp}{A B:List γ}
theorem New.nil:New H []:=⟨λ b=>by simp,λ b o _=>by simp⟩
theorem New.ok(n:New H B)(o:Ok F H A)(c:∀ b∈A,∃ o,H b=some o/\Fk o=true)(s:Same H H'):Ok F H' (B++A):=by
 refine⟨λ b=>?_,λ b f=>?_,λ b f=>?_⟩
 . rw[zA0]
   have a:=n.one b;have d:=o.sep b;by_cases h:A.count b=0
   . lia
   obtain⟨u,e,_⟩:=c b (qa9.mpr h)
   have:=n.new b u e
   lia
 . rw[zA0,o.fro b f]
   obtain⟨u,e⟩:=o.ex b f;rw[n.new b u e]
 obtain⟨u,e⟩:=o.ex b f;exact⟨u,s b u e⟩
theorem New.append{H1:Hp}{B1:List γ}(n:New H B)(s:Same H H1)(c:∀ b∈B,∃ o,H1 b=some o/\Fk o=true)(a:New H1 B1):New H (B++B1):=by
 refine⟨λ b=>?_,λ b o e=>?_⟩
 . rw[zA0]
   have d:=n.one b;have f:=a.one b;by_cases h:B.count b=0
   . lia
   obtain⟨u,e,_⟩:=c b (qa9.mpr h)
   have:=a.new b u e
   lia
 rw[zA0,n.new b o e,a.new b o (s b o e)]
theorem Ok.same(o:Ok F H A)(s:Same H H'):Ok F H' A:=⟨o.sep,o.fro,λ b f=>let ⟨u,e⟩:=o.ex b f;⟨u,s b u e⟩⟩
theorem New.stp(n:New H B)(s:Same H H'):Qb F H A F H' (B++A):=⟨λ b o e _=>s b o e,λ b o e q=>by rw[zA0,n.new b o e,q],λ _ f=>f,λ _ _ _ _ f=>f⟩
end
structure Exn where
 C:γ
 fs:List (Str×D)
def RepX(F:γ->Prop)(H:Hp)(e:γ)(x:Exn):Prop :=
 ∃ b,H e=some (Bk e x.C b false)/\(x.fs=[]∨∃ dx a,b=some dx/\H dx=some (XD dx a)/\a.map (·.1)=x.fs.map (·.1)/\P3 F H (a.map (·.2)) (x.fs.map (·.2)) [])
abbrev Ds:=List D
abbrev DK:=D->Ds->Prop
abbrev XKd:=Exn->Ds->Prop
abbrev VT:=Ds->DK->XKd->Prop
abbrev VTT:=Ds->(Bool->Ds->Prop)->XKd->Prop
abbrev VTA:=Ds->(Ds->Ds->Prop)->XKd->Prop
abbrev FV:=Ds->Option D
structure Vc where
 E:St->XK
 W:Nat->Bool
 av:List (Option V)
 gv:List (Option V)
structure Qc(c:Vc)(F:γ->Prop)(H:Hp)(a:St)(ds:Ds)(A:List γ):Prop where
 loc:Locs F H (a++c.gv) ds A
 ok:Ok F H A
 len:c.av.length=(a++c.gv).length
 ag:∀ i,c.W i=true->(a++c.gv)[i]? = c.av[i]?
theorem Qc.same{c:Vc}{F:γ->Prop}{H H':Hp}{a:St}{ds:Ds}{A:List γ}(S:Qc c F H a ds A)(s:Same H H'):Qc c F H' a ds A:=⟨S.loc.same s,S.ok.same s,S.len,S.ag⟩
def Xc(c:Vc)(xe:XKd)(F:γ->Prop)(H:Hp)(A:List γ):Prop :=
 ∀ x a b' e H' F' A',xe x a->RepX F' H' e x->Qc c F' H' b' a A'->Qb F H A F' H' A'->c.E b' (.ref e) none H'
theorem Xc.step{c:Vc}{xe:XKd}{F F1:γ->Prop}{H H1:Hp}{A A1:List γ}(x:Xc c xe F H A)(s:Qb F H A F1 H1 A1):Xc c xe F1 H1 A1:=λ y a b' e H' F' A' h r S t=>x y a b' e H' F' A' h r S (s.trans t)
def kE(c:Vc)(b:St)(F:γ->Prop)(H:Hp)(A:List γ)(Q:VK):DK:=λ d a=>∀ v H' F' T A',P' F' H' v d T->Qc c F' H' b a A'->Ok F' H' (T++A')->Qb F H A F' H' (T++A')->Q v H'
inductive LiftE(c:Vc)(t:VT)(a:St)(H:Hp)(Q:VK):Prop
 | mk (F:γ->Prop) (ds:Ds) (A:List γ) (xe:XKd) (S:Qc c F H a ds A) (x:Xc c xe F H A) (q:t ds (kE c a F H A Q) xe):LiftE c t a H Q
def Bi(c:Vc)(t:VT):TE:=LiftE c t
inductive LiftV(c:Vc)(own:Bool)(f:FV)(a:St)(H:Hp)(Q:VK):Prop
 | mk (F:γ->Prop) (ds:Ds) (A:List γ) (d:D) (S:Qc c F H a ds A) (e:f ds=some d) (q:∀ v H' B,P' F H' v d B->Same H H'->(own=true->New H B)->Q v H'):LiftV c own f a H Q
def liftV(c:Vc)(own:Bool)(f:FV):TE:=LiftV c own f
inductive qaQ0(c:Vc)(own:Bool)(f:Ds->Option Ds)(a:St)(H:Hp)(Q:List V->Hp->Prop):Prop
 | mk (F:γ->Prop) (ds:Ds) (A:List γ) (xs:Ds) (S:Qc c F H a ds A) (e:f ds=some xs) (q:∀ vs H' B,P3 F H' vs xs B->Same H H'->(own=true->New H B)->Q vs H'):qaQ0 c own f a H Q
def qaM0(c:Vc)(own:Bool)(f:Ds->Option Ds):TA:=qaQ0 c own f
inductive qaQ2(c:Vc)(t:VTA)(a:St)(H:Hp)(Q:List V->Hp->Prop):Prop
 | mk (F:γ->Prop) (ds:Ds) (A:List γ) (xe:XKd) (S:Qc c F H a ds A) (x:Xc c xe F H A) (q:t ds (λ xs ds'=>∀ vs H' F' T A',P3 F' H' vs xs T->Qc c F' H' a ds' A'->Qb F H A F' H' A'->Q vs H') xe):qaQ2 c t a H Q
def qaB4(c:Vc)(t:VTA):TA:=qaQ2 c t
inductive LiftT(c:Vc)(t:VTT)(a:St)(H:Hp)(Q:Bool->Hp->Prop):Prop
 | mk (F:γ->Prop) (ds:Ds) (A:List γ) (xe:XKd) (S:Qc c F H a ds A) (x:Xc c xe F H A) (q:t ds (λ b ds'=>∀ H' F' A',Qc c F' H' a ds' A'->Qb F H A F' H' A'->Q b H') xe):LiftT c t a H Q
def Fc(c:Vc)(t:VTT):TT:=LiftT c t
structure VE(c:Vc)(X:Cx)(e:Ma)(t:VT):Prop where
 h:PE X e (Bi c t)
 m:∀ ds (Q Q':DK) (xe xe':XKd),(∀ d ds',Q d ds'->Q' d ds')->(∀ x ds',xe x ds'->xe' x ds')->t ds Q xe->t ds Q' xe'
structure VV(c:Vc)(X:Cx)(e:Ma)(own:Bool)(f:FV):Prop where
 h:PE X e (liftV c own f)
structure VVs(c:Vc)(X:Cx)(es:List Ma)(own:Bool)(f:Ds->Option Ds):Prop where
 h:PA X es (qaM0 c own f)
structure VOs(c:Vc)(X:Cx)(es:List Ma)(t:VTA):Prop where
 h:PA X es (qaB4 c t)
 m:∀ ds (Q Q':Ds->Ds->Prop) (xe xe':XKd),(∀ d ds',Q d ds'->Q' d ds')->(∀ x ds',xe x ds'->xe' x ds')->t ds Q xe->t ds Q' xe'
structure VTe(c:Vc)(X:Cx)(e:Ma)(t:VTT):Prop where
 h:PT X e (Fc c t)
 m:∀ ds (Q Q':Bool->Ds->Prop) (xe xe':XKd),(∀ d ds',Q d ds'->Q' d ds')->(∀ x ds',xe x ds'->xe' x ds')->t ds Q xe->t ds Q' xe'
theorem PE.mono{X:Cx}{e:Ma}{t t':TE}(h:PE X e t)(i:∀ a H Q,t' a H Q->t a H Q):PE X e t':=λ Eo s a H Q I q=>h Eo s a H Q I (i a H Q q)
theorem PT.mono{X:Cx}{e:Ma}{t t':TT}(h:PT X e t)(i:∀ a H Q,t' a H Q->t a H Q):PT X e t':=λ Eo s a H Q I q=>h Eo s a H Q I (i a H Q q)
theorem PW.mono{X:Cx}{e:Ma}{t t':TT}(h:PW X e t)(i:∀ a H Q,t' a H Q->t a H Q):PW X e t':=λ w Eo s a H Q I q=>h w Eo s a H Q I (i a H Q q)
theorem PA.mono{X:Cx}{es:List Ma}{t t':TA}(h:PA X es t)(i:∀ a H Q,t' a H Q->t a H Q):PA X es t':=λ p Eo s a H Q I q=>h p Eo s a H Q I (i a H Q q)
theorem PS.mono{X:Cx}{st:Mb}{t t':TS}(h:PS X st t)(i:∀ D a H,t' D a H->t D a H):PS X st t':=λ Eo s a H D I q=>h Eo s a H D I (i D a H q)
theorem PSs.mono{X:Cx}{st:List Mb}{t t':TS}(h:PSs X st t)(i:∀ D a H,t' D a H->t D a H):PSs X st t':=λ Eo s a H D I q=>h Eo s a H D I (i D a H q)
def orF{α:Type}(o:Option α)(k:α->Prop):Prop:=match o with | some a=>k a | none=>False
theorem qa5{o:Option α}{k b:α->Prop}(h:∀ a,k a->b a):orF o k->orF o b:=by
 cases o with
 | none=>exact id
 | some a=>exact h a
theorem qa7{o:Option α}{k:α->Prop}:orF o k↔∃ a,o=some a/\k a:=by
 cases o with
 | none=>exact⟨λ h=>h.elim,λ ⟨_,e,_⟩=>by cases e⟩
 | some a=>exact⟨λ h=>⟨a,rfl,h⟩,λ ⟨b,e,h⟩=>by cases e;exact h⟩
section
variable{c:Vc}{X:Cx}{e:Ma}{F:γ->Prop}{H H':Hp}{t:St}{ds:Ds}{A:List γ}
theorem Qc.new{B:List γ}(S:Qc c F H t ds A)(n:New H B)(s:Same H H'):Ok F H' (B++A):=n.ok S.ok S.loc.cells s
def Eu(f:FV):VT:=λ ds Q _=>orF (f ds) λ d=>Q d ds
def Fd(f:FV):VT:=λ ds Q _=>orF (f ds) λ d=>d.imm=true/\Q d ds
theorem qa4{f:FV}(h:VV c X e true f):VE c X e (Eu f):=by
 refine⟨PE.mono h.h λ t H Q a=>?_,λ b Q Q' g i j _=>qa5 λ d=>j d b⟩;obtain⟨F,b,A,g,S,x,q⟩:=a;obtain⟨d,e,q⟩:=qa7.mp q;exact⟨F,b,A,d,S,e,λ v H' B r s n=>q v H' F B A r (S.same s) (S.new (n rfl) s) ((n rfl).stp s)⟩
theorem qb7{own:Bool}{f:FV}(h:VV c X e own f):VE c X e (Fd f):=by
 refine⟨PE.mono h.h λ t H Q a=>?_,λ b Q Q' g i j _=>qa5 λ d=>Ox (j d b)⟩;obtain⟨F,b,A,g,S,x,q⟩:=a;obtain⟨d,e,k,q⟩:=qa7.mp q;refine⟨F,b,A,d,S,e,λ v H' B r s _=>?_⟩
 have:=r.imm k
 subst this;exact q v H' F [] A r (S.same s) (S.ok.same s) (.same s)
theorem Hk{d:D}(h:PE X e (tC v))(r:∀ F H,P' F H v d []):VV c X e true (λ _=>some d) :=
 ⟨PE.mono h λ t H Q ⟨F,a,A,b,S,e,q⟩=>by cases e;exact q v H [] (r F H) (λ _ _ z=>z) λ _=>New.nil⟩
noncomputable def D.known:D->Bool
 | .u=>false
 | .hole _=>false
 | _=>true
def rdN(i:Nat):FV:=λ ds=>match ds[i]? with
 | some d=>if d.known=true then some d else none
 | none=>none
theorem ql1{d:D}:rdN i ds=some d↔ds[i]? = some d/\d.known=true:=by
 unfold rdN;cases h:ds[i]? with
 | none=>simp
 | some x =>
   dsimp only;split
   . rename_i hk;constructor
     . intro e;cases e;exact⟨rfl,hk⟩
     rintro⟨e,_⟩;exact e
   rename_i hk;constructor
   . intro e;cases e
   rintro⟨e,a⟩;cases e;exact absurd a hk
theorem Qc.at{d:D}(S:Qc c F H t ds A)(hi:i < t.length)(h:ds[i]? = some d)(a:d.known=true):∃ v B,t[i]? = some (some v)/\P' F H v d B/\∀ b,B.count b<=A.count b:=by
 obtain⟨σ1,o,σ2,e,f,A1,B,A2,g,e2,j,m,k,n,l,p⟩:=S.loc.split h;cases l with
 | no=>cases a
 | @so v _ _ r =>
   refine⟨v,B,?_,r,λ b=>by rw[k];simp only[zA0];lia⟩
   have:(t++c.gv)[i]? = some (some v):=by rw[g];exact qC6 j
   rwa[zAt hi] at this
theorem qaF0{x:Str}{pos:Pos}(h:PE X (.Name x pos) (G7 i))(hi:∀ Eo t H s,Qa X Eo t H s->i < t.length):VV c X (.Name x pos) false (rdN i):=by
 refine⟨λ Eo s t H Q I a=>?_⟩;obtain⟨F,g,A,d,S,e,q⟩:=a;refine h Eo s t H Q I ?_;obtain⟨e,b⟩:=ql1.mp e;obtain⟨v,B,f,r,_⟩:=S.at (hi Eo t H s I) e b;exact⟨v,f,q v H B r (λ _ _ z=>z) λ z=>by cases z⟩
theorem qp7{X:Cx}{x:Str}(a:X.N[i]? = some x):∀ Eo t H s,Qa X Eo t H s->i < t.length:=λ Eo t H s I=>by
 rw[I.len];exact(zA4.mp a).1
end
def Sub(H:Hp)(B B':List γ):Prop:=∀ b,B'.count b<=B.count b∨(B'.count b<=1/\H b=none)
theorem Sub.new{H H1:Hp}{B B':List γ}(s:Sub H1 B B')(n:New H B)(q:Same H H1):New H B':=by
 refine⟨λ b=>?_,λ b o e=>?_⟩
 . rcases s b with h | ⟨h,_⟩
   . have:=n.one b;lia
   exact h
 rcases s b with h | ⟨_,h⟩
 . have:=n.new b o e;lia
 rw[q b o e] at h;cases h
def OpS(nw:Bool)(r:List V->Hp->VK->Prop)(g:Ds->Option D):Prop:=∀ F H vs xs B d (Q:VK),P3 F H vs xs B->g xs=some d ->
 (∀ v H' B',P' F H' v d B'->Same H H'->(if nw=true then New H B' else Sub H B B')->Q v H')->r vs H Q
def A8(nw:Bool)(r:R2)(g:D->D->Option D):Prop:=∀ F H v w x y B d (Q:VK),P3 F H [v,w] [x,y] B->g x y=some d ->
 (∀ v H' B',P' F H' v d B'->Same H H'->(if nw=true then New H B' else Sub H B B')->Q v H')->r v w H Q
noncomputable def f2(g:D->D->Option D)(fa fb:FV):FV:=λ ds=>(fa ds).bind λ x=>(fb ds).bind λ y=>g x y
theorem qaD0{g:D->D->Option D}{fa fb:FV}{ds:Ds}{d:D}:f2 g fa fb ds=some d↔∃ x y,fa ds=some x/\fb ds=some y/\g x y=some d:=by
 unfold f2;cases a:fa ds with
 | none=>simp
 | some x=>cases b:fb ds with
   | none=>simp
   | some y=>simp
noncomputable def f1(g:D->Option D)(fa:FV):FV:=λ ds=>(fa ds).bind g
theorem qaD1{g:D->Option D}{fa:FV}{ds:Ds}{d:D}:f1 g fa ds=some d↔∃ x,fa ds=some x/\g x=some d:=by
 unfold f1;cases a:fa ds with
 | none=>simp
 | some x=>simp
theorem G9{F:γ->Prop}{H:Hp}{d e:D}{A B:List γ}(r:P' F H v d A)(s:P' F H w e B):P3 F H [v,w] [d,e] (A++(B++[])):=.cons r (.cons s .nil)
section
variable{c:Vc}{X:Cx}{a b:Ma}{U W nw:Bool}{fa fb:FV}{r:R2}{g:D->D->Option D}{O tb:VT}
theorem op_vv(h:A8 nw r g):∀ N H Q,liftV c (nw||(U&&W)) (f2 g fa fb) N H Q->tOp r (liftV c U fa) (liftV c W fb) N H Q:=by
 rintro N H Q ⟨F,k,A,d,S,e,q⟩;obtain⟨x,y,m,n,p⟩:=qaD0.mp e;refine⟨F,k,A,x,S,m,λ v H1 B1 l a s=>⟨F,k,A,y,S.same a,n,λ w H2 B2 t i z=>?_⟩⟩;refine h F H2 v w x y _ d Q (G9 (l.same i) t) p λ u H3 B3 B C f=>?_
 refine q u H3 B3 B ((a.trans i).trans C) λ j=>?_
 cases nw with
 | true=>rw[if_pos rfl] at f;exact⟨f.one,λ b o e=>f.new b o (i b o (a b o e))⟩
 | false =>
   rw[if_neg (by decide)] at f;have j:=zAi.mp j
   have:=(s j.1).append a l.cells (z j.2)
   exact f.new (by rw[zAg];exact this) (a.trans i)
def t2(g:D->D->Option D)(O tb:VT):VT:=λ ds Q xe=>O ds (λ x ds1=>tb ds1 (λ y a=>orF (g x y) λ d=>Q d a) xe) xe
theorem qar1(j:VE c X a O)(k:VE c X b tb):∀ ds (Q Q':DK) (xe f:XKd),(∀ d e,Q d e->Q' d e)->(∀ x e,xe x e->f x e)->t2 g O tb ds Q xe->t2 g O tb ds Q' f :=
 λ ds Q Q' xe f l i=>j.m _ _ _ _ _ (λ d n=>k.m _ _ _ _ _ (λ d h=>qa5 λ z=>l z h) i) i
theorem op_ee(s:VE c X a O)(i:VE c X b tb)(h:A8 true r g):∀ N H Q,Bi c (t2 g O tb) N H Q->tOp r (Bi c O) (Bi c tb) N H Q:=by
 rintro N H Q ⟨F,t,A,o,S,x,q⟩;refine⟨F,t,A,o,S,x,s.m _ _ _ _ _ (λ p j q v H1 F1 T A1 y S1 B C=>?_) (λ _ _ z=>z) q⟩;have e:Qb F H A F1 H1 A1:=C.count λ b=>by rw[zA0];lia
 refine⟨F1,j,A1,o,S1,x.step e,i.m _ _ _ _ _ (λ D E q w H2 F2 T2 A2 G S2 L I=>?_) (λ _ _ z=>z) q⟩;obtain⟨d,J,q⟩:=qa7.mp q;have f:Qb F1 H1 A1 F2 H2 A2:=I.count λ b=>by rw[zA0];lia
 have k:P' F2 H2 v p T:=y.keep (f.kp S1.ok S1.loc.cells) λ b i M=>by
   have:=B.sep b
   rw[zA0] at this
   have:=qa9.mp i
   lia
 refine h F2 H2 v w p D _ d Q (G9 k G) J λ u H3 B3 K l n=>?_
 rw[if_pos rfl] at n;exact q u H3 F2 B3 A2 K (S2.same l) (S2.new n l) ((e.trans f).trans (n.stp l))
def t2v(g:D->D->Option D)(O:VT)(fb:FV):VT:=λ ds Q xe=>O ds (λ x ds1=>orF ((fb ds1).bind (g x)) λ d=>Q d ds1) xe
theorem qaw7(h:VE c X a O):∀ ds (Q Q':DK) (xe e:XKd),(∀ d b,Q d b->Q' d b)->(∀ x b,xe x b->e x b)->t2v g O fb ds Q xe->t2v g O fb ds Q' e :=
 λ ds Q Q' xe e i j=>h.m _ _ _ _ _ (λ d f=>qa5 λ z=>i z f) j
theorem op_ev(s:VE c X a O)(h:A8 true r g):∀ N H Q,Bi c (t2v g O fb) N H Q->tOp r (Bi c O) (liftV c W fb) N H Q:=by
 rintro N H Q ⟨F,t,A,B,S,x,q⟩;refine⟨F,t,A,B,S,x,s.m _ _ _ _ _ (λ C j q v H1 F1 T A1 D S1 L E=>?_) (λ _ _ z=>z) q⟩;have k:Qb F H A F1 H1 A1:=E.count λ b=>by rw[zA0];lia
 obtain⟨d,l,q⟩:=qa7.mp q;obtain⟨y,G,l⟩:=zA1.mp l;refine⟨F1,j,A1,y,S1,G,λ w H2 B2 I n _=>?_⟩;refine h F1 H2 v w C y _ d Q (G9 (D.same n) I) l λ u H3 B3 J K p=>?_
 rw[if_pos rfl] at p;have f:=n.trans K;have i:New H1 B3:=⟨p.one,λ b o e=>p.new b o (n b o e)⟩
 exact q u H3 F1 B3 A1 J (S1.same f) (S1.new i f) (k.trans (i.stp f))
def OpS1(nw:Bool)(r:V->Hp->VK->Prop)(g:D->Option D):Prop:=∀ F H v x B d (Q:VK),P' F H v x B->g x=some d ->
 (∀ v H' B',P' F H' v d B'->Same H H'->(if nw=true then New H B' else Sub H B B')->Q v H')->r v H Q
def t1(g:D->Option D)(O:VT):VT:=λ ds Q xe=>O ds (λ x ds1=>orF (g x) λ d=>Q d ds1) xe
variable{R:V->Hp->VK->Prop}{g1:D->Option D}
theorem op_v(h:OpS1 nw R g1):∀ N H Q,liftV c (nw||U) (f1 g1 fa) N H Q->liftV c U fa N H (λ x H1=>R x H1 Q):=by
 rintro N H Q ⟨F,g,A,d,S,e,q⟩;obtain⟨x,i,j⟩:=qaD1.mp e;refine⟨F,g,A,x,S,i,λ v H1 B1 R f k=>?_⟩;refine h F H1 v x _ d Q R j λ u H3 B3 l m a=>?_
 refine q u H3 B3 l (f.trans m) λ n=>?_
 cases nw with
 | true=>rw[if_pos rfl] at a;exact⟨a.one,λ b o e=>a.new b o (f b o e)⟩
 | false=>rw[if_neg (by decide)] at a;exact a.new (k n) f
end
theorem qS7{F F1:γ->Prop}{H H1 H3:Hp}{A A1 T B:List γ}(d:Ok F1 H1 (T++A1))(c:Qb F H A F1 H1 (T++A1))(j:∀ b∈A1,∃ o,H1 b=some o/\Fk o=true)(i:Same H1 H3)(g:Sub H1 T B):Ok F1 H3 (B++A1)/\Qb F H A F1 H3 (B++A1):=by
 refine⟨⟨λ b=>?_,λ b f=>?_,λ b f=>let ⟨u,e⟩:=d.ex b f;⟨u,i b u e⟩⟩,λ b o e q=>i b o (c.fr b o e q),λ b o e q=>?_,c.mono,c.fnew⟩
 . have:=d.sep b
   rw[zA0] at this ⊢;rcases g b with h | ⟨h,a⟩
   . lia
   by_cases k:A1.count b=0
   . lia
   obtain⟨o,e,_⟩:=j b (qa9.mpr k);rw[e] at a;cases a
 . have:=d.fro b f
   rw[zA0] at this ⊢;rcases g b with h | ⟨h,a⟩
   . lia
   obtain⟨o,e⟩:=d.ex b f;rw[e] at a;cases a
 have:=c.sub b o e q
 rw[zA0] at this ⊢;rcases g b with h | ⟨h,a⟩
 . lia
 rw[c.fr b o e q] at a;cases a
section
variable{c:Vc}{X:Cx}{a b:Ma}{Y Z nw:Bool}{fa fb:FV}{r:R2}{g:D->D->Option D}{U tb:VT}
theorem qaT9(D:VE c X a U)(e:VE c X b tb)(h:A8 false r g):∀ R H Q,Bi c (t2 g U tb) R H Q->tOp r (Bi c U) (Bi c tb) R H Q:=by
 rintro R H Q ⟨F,E,A,l,S,x,q⟩;refine⟨F,E,A,l,S,x,D.m _ _ _ _ _ (λ n f q v H1 F1 T A1 o S1 p s=>?_) (λ _ _ z=>z) q⟩;have i:Qb F H A F1 H1 A1:=s.count λ b=>by rw[zA0];lia
 refine⟨F1,f,A1,l,S1,x.step i,e.m _ _ _ _ _ (λ G I q w H2 F2 T2 A2 J S2 K t=>?_) (λ _ _ z=>z) q⟩;obtain⟨d,L,q⟩:=qa7.mp q;have j:P' F2 H2 v n T:=o.keep (t.kp S1.ok S1.loc.cells) λ b e P=>by
   have:=p.sep b
   rw[zA0] at this
   have:=qa9.mp e
   lia
 obtain⟨y,B⟩:=t.frame p o.cells K;refine h F2 H2 v w n G _ d Q (G9 j J) L λ u H3 B3 M C k=>?_
 rw[if_neg (by decide)] at k;rw[<- zAr] at y B;obtain⟨N,O⟩:=qS7 y (s.trans B) S2.loc.cells C (by rw[zAg] at k;exact k);exact q u H3 F2 B3 A2 M (S2.same C) N O
def Kl(g:D->D->Option D)(U:VT)(fb:FV):VT:=λ ds Q xe=>U ds (λ x ds1=>orF (fb ds1) λ y=>y.imm=true/\orF (g x y) λ d=>Q d ds1) xe
theorem qak3(h:VE c X a U):∀ ds (Q Q':DK) (xe e:XKd),(∀ d b,Q d b->Q' d b)->(∀ x b,xe x b->e x b)->Kl g U fb ds Q xe->Kl g U fb ds Q' e :=
 λ ds Q Q' xe e i j=>h.m _ _ _ _ _ (λ d f=>qa5 λ y=>Ox (qa5 λ z=>i z f)) j
theorem qaT8(p:VE c X a U)(h:A8 false r g):∀ R H Q,Bi c (Kl g U fb) R H Q->tOp r (Bi c U) (liftV c Z fb) R H Q:=by
 rintro R H Q ⟨F,s,A,t,S,x,q⟩;refine⟨F,s,A,t,S,x,p.m _ _ _ _ _ (λ B i q v H1 F1 T A1 C S1 D E=>?_) (λ _ _ z=>z) q⟩;obtain⟨y,G,I,q⟩:=qa7.mp q;obtain⟨d,J,q⟩:=qa7.mp q;refine⟨F1,i,A1,y,S1,G,λ w H2 B2 k j _=>?_⟩
 have:=k.imm I
 subst this;refine h F1 H2 v w B y _ d Q (G9 (C.same j) k) J λ u H3 B3 K L l=>?_
 rw[if_neg (by decide),zAg,zAg] at l;have f:=j.trans L;have M:Sub H1 T B3:=λ b=>(l b).imp id λ ⟨N,n⟩=>⟨N,by
   cases e:H1 b with
   | none=>rfl
   | some o=>rw[j b o e] at n;cases n⟩
 obtain⟨O,P⟩:=qS7 D E S1.loc.cells f M;exact q u H3 F1 B3 A1 K (S1.same f) O P
theorem qa6:VVs c X [] true (λ _=>some []):=⟨PA.mono qx9 λ R H Q ⟨F,a,A,b,S,e,q⟩=>by cases e;exact q [] H [] .nil (λ _ _ z=>z) λ _=>New.nil⟩
noncomputable def Bc(fa:FV)(fr:Ds->Option Ds):Ds->Option Ds:=λ ds=>(fa ds).bind λ x=>(fr ds).bind λ xs=>some (x::xs)
theorem qao6{fa:FV}{fr:Ds->Option Ds}{ds xs:Ds}:Bc fa fr ds=some xs↔∃ x r,fa ds=some x/\fr ds=some r/\xs=x::r:=by
 unfold Bc;cases a:fa ds with
 | none=>simp
 | some x=>cases b:fr ds with
   | none=>simp
   | some y=>simp[eq_comm]
theorem qa2{e:Ma}{es:List Ma}{own:Bool}{fr:Ds->Option Ds}(j:VV c X e Y fa)(k:VVs c X es own fr)(l:Lf (e::es) X.env=(false,eval e X.env)::Lf es X.env):VVs c X (e::es) (Y&&own) (Bc fa fr):=by
 refine⟨PA.mono (qf2 j.h k.h l) λ R H Q b=>?_⟩;obtain⟨F,f,A,t,S,e,q⟩:=b;obtain⟨x,r,m,e2,rfl⟩:=qao6.mp e;refine⟨F,f,A,x,S,m,λ v H1 B1 g d n=>⟨F,f,A,r,S.same d,e2,λ o H2 B2 p i s=>?_⟩⟩;refine q (v::o) H2 (B1++B2) (.cons (g.same i) p) (d.trans i) λ a=>?_
 have a:=zAi.mp a;exact(n a.1).append d g.cells (s a.2)
variable{rc:List V->Hp->VK->Prop}{W:Ds->Option D}
theorem qaK6{own:Bool}{f:Ds->Option Ds}(h:OpS nw rc W):∀ R H Q,liftV c (nw||own) (λ ds=>(f ds).bind W) R H Q->tCB rc (qaM0 c own f) R H Q:=by
 rintro R H Q ⟨F,ds,A,d,S,e,q⟩;obtain⟨i,j,e2⟩:=zA1.mp e;refine⟨F,ds,A,i,S,j,λ k H1 B1 l g m=>h F H1 k i B1 d Q l e2 λ u H3 B3 n p a=>q u H3 B3 n (g.trans p) λ r=>?_⟩;cases nw with
 | true=>rw[if_pos rfl] at a;exact⟨a.one,λ b o e=>a.new b o (g b o e)⟩
 | false=>rw[if_neg (by decide)] at a;exact a.new (m r) g
def tcO(W:Ds->Option D)(t:VTA):VT:=λ ds Q xe=>t ds (λ xs ds1=>orF (W xs) λ d=>Q d ds1) xe
theorem qaw5{es:List Ma}{t:VTA}(f:VOs c X es t):∀ ds (Q Q':DK) (xe b:XKd),(∀ d a,Q d a->Q' d a)->(∀ x a,xe x a->b x a)->tcO W t ds Q xe->tcO W t ds Q' b :=
 λ ds Q Q' xe b g h=>f.m _ _ _ _ _ (λ d e=>qa5 λ z=>g z e) h
theorem opc_o{es:List Ma}{t:VTA}(e:VOs c X es t)(h:OpS true rc W):∀ R H Q,Bi c (tcO W t) R H Q->tCB rc (qaB4 c t) R H Q:=by
 rintro R H Q ⟨F,f,A,g,S,x,q⟩;refine⟨F,f,A,g,S,x,e.m _ _ _ _ _ (λ i j q k H1 F1 T A1 l S1 n=>?_) (λ _ _ z=>z) q⟩;obtain⟨d,o,q⟩:=qa7.mp q;refine h F1 H1 k i T d Q l o λ u H3 B3 p a b=>?_
 rw[if_pos rfl] at b;exact q u H3 F1 B3 A1 p (S1.same a) (S1.new b a) (n.trans (b.stp a))
end
def D.kids:D->List D
 | .q ds=>ds
 | .l false ds=>ds
 | .dct false kvs=>kvs.map (·.2)
 | .ins false _ fs=>fs.map (·.2)
 | _=>[]
noncomputable def Jh{a:Type}:List (a×D)->Nat->D->List (a×D)
 | [],_,_=>[]
 | (k,_)::r,0,x=>(k,x)::r
 | p::r,n+1,x=>p::Jh r n x
theorem qM9{c:Type}:∀(l:List (c×D))(n:Nat)(x:D),(Jh l n x).map (·.1)=l.map (·.1)/\(Jh l n x).map (·.2)=(l.map (·.2)).set n x
 | [],_,_=>⟨rfl,rfl⟩
 | (k,_)::r,0,x=>⟨rfl,rfl⟩
 | p::r,n+1,x=>by
   obtain⟨a,b⟩:=qM9 r n x;simp only[Jh,zAx,a,b,List.set_cons_succ,and_self]
def D.setK:D->Nat->D->D
 | .q ds,n,x=>.q (ds.set n x)
 | .l z ds,n,x=>.l z (ds.set n x)
 | .dct z kvs,n,x=>.dct z (Jh kvs n x)
 | .ins z C fs,n,x=>.ins z C (Jh fs n x)
 | d,_,_=>d
def Lnk(H:Hp)(u:V)(n:Nat)(w:V):Prop:=∃ a,u=.ref a /\
 ((∃ vs,H a=some (.q vs)/\vs[n]? = some w)∨(∃ vs,H a=some (.l vs)/\vs[n]? = some w)∨(∃ kvs,H a=some (.dK kvs)/\(kvs.map (·.2))[n]? = some w)∨∃ C dx fs,H a=some (.ins C dx fs)/\(fs.map (·.2))[n]? = some w)
section
variable{F F':γ->Prop}{H H':Hp}
theorem P3.split:∀{ds:List D}{vs:List V}{A:List γ}{i:Nat}{d:D},P3 F H vs ds A->ds[i]? = some d ->
   ∃ b v c ds1 a A1 B A2,vs=b++v::c/\ds=ds1++d::a/\b.length=i/\ds1.length=i/\A=A1++(B++A2)/\P3 F H b ds1 A1/\P' F H v d B/\P3 F H c a A2:=by
 intro ds
 induction ds with
 | nil=>intro K A i d _ h;simp at h
 | cons e r f =>
   intro K A i d L h;cases i with
   | zero =>
     have:e=d:=by simpa using h
     subst this;cases L with
     | cons q t=>exact⟨[],_,_,[],_,[],_,_,rfl,rfl,rfl,rfl,rfl,.nil,q,t⟩
   | succ i =>
     have h:r[i]? = some d:=by simpa using h
     cases L with
     | @cons v _ B0 _ _ A0 q t =>
       obtain⟨σ1,o,σ2,ds1,a,A1,B,A2,g,e2,j,k,l,m,n,p⟩:=f t h;exact⟨v::σ1,o,σ2,_::ds1,a,B0++A1,B,A2,by rw[g];rfl,by rw[e2];rfl,by simp[j],by simp[k],by rw[l,zAr],.cons q m,n,p⟩
theorem P3.append{a:List V}{ds es:List D}{A B:List γ}(r:P3 F H vs ds A)(t:P3 F H a es B):P3 F H (vs++a) (ds++es) (A++B):=by
 induction vs generalizing ds A with
 | nil=>cases r;exact t
 | cons v vs b =>
   cases r with
   | cons h c=>rw[zAr];exact .cons h (b c)
theorem P3.kid{ds:List D}{A:List γ}{d:D}(r:P3 F H vs ds A)(h:ds[n]? = some d):∃(w:V)(B C:List γ),vs[n]? = some w/\P' F H w d B/\(∀ b,A.count b=B.count b+C.count b) /\
   ∀{F':γ->Prop}{H':Hp}{W:γ->Prop}(d':D)(B':List γ),Kp F H W F' H'->(∀ b∈C,¬ W b)->P' F' H' w d' B'->∃ A':List γ,P3 F' H' vs (ds.set n d') A'/\∀ b,A'.count b=B'.count b+C.count b:=by
 obtain⟨f,v,g,i,j,A1,B,A2,c,e2,l,m,o,p,q,s⟩:=r.split h;refine⟨v,B,A1++A2,by rw[c];exact qC6 l,q,λ b=>by rw[o];simp only[zA0];lia,λ{F' H' W} d' B' k e t=>⟨A1++(B'++A2),?_,λ b=>by simp only[zA0];lia⟩⟩;rw[c,e2,qp1 m];exact(p.keep k λ b a=>e b (zA9.mpr (.inl a))).append (.cons t (s.keep k λ b a=>e b (zA9.mpr (.inr a))))
theorem P'.kid{p:V}{d0 d:D}{A:List γ}(r:P' F H p d0 A)(h:d0.kids[n]? = some d):∃(w:V)(B C:List γ),Lnk H p n w/\P' F H w d B/\(∀ b,A.count b=B.count b+C.count b) /\
   ∀{F':γ->Prop}{H':Hp}{W:γ->Prop}(d':D)(B':List γ),Kp F H W F' H'->(∀ b∈C,¬ W b)->P' F' H' w d' B'->∃ A':List γ,P' F' H' p (d0.setK n d') A'/\∀ b,A'.count b=B'.count b+C.count b:=by
 cases r with
 | @q a vs ds _ e r =>
   obtain⟨w,B,C,f,g,i,j⟩:=r.kid (n:=n) h;refine⟨w,B,C,⟨a,rfl,.inl ⟨vs,e,f⟩⟩,g,i,λ{F' H' W} d' B' k c l=>?_⟩;obtain⟨A',m,q2⟩:=j d' B' k c l;exact⟨A',.q (k.q e) m,q2⟩
 | @l a vs ds A e r =>
   obtain⟨w,B,C,f,g,i,j⟩:=r.kid (n:=n) h;refine⟨w,B,a::C,⟨a,rfl,.inr (.inl ⟨vs,e,f⟩)⟩,g,λ b=>by rw[zAo,zAo,i];lia,λ{F' H' W} d' B' k c l=>?_⟩;obtain⟨A',m,q2⟩:=j d' B' k (λ b o=>c b (zA6 _ o)) l;exact⟨a::A',.l (k.fr a _ e (c a zAa)) m,λ b=>by rw[zAo,zAo,q2];lia⟩
 | @dct a kvs kds A e q r =>
   obtain⟨w,B,C,f,g,i,j⟩:=r.kid (n:=n) h;refine⟨w,B,a::C,⟨a,rfl,.inr (.inr (.inl ⟨kvs,e,f⟩))⟩,g,λ b=>by rw[zAo,zAo,i];lia,λ{F' H' W} d' B' k c l=>?_⟩;obtain⟨A',m,q2⟩:=j d' B' k (λ b o=>c b (zA6 _ o)) l;obtain⟨s,t⟩:=qM9 kds n d';exact⟨a::A',.dct (k.fr a _ e (c a zAa)) (q.trans s.symm) (by rw[t];exact m),λ b=>by rw[zAo,zAo,q2];lia⟩
 | @ins a C0 dx fvs fds A e q r =>
   obtain⟨w,B,C,f,g,i,j⟩:=r.kid (n:=n) h;refine⟨w,B,a::C,⟨a,rfl,.inr (.inr (.inr ⟨C0,dx,fvs,e,f⟩))⟩,g,λ b=>by rw[zAo,zAo,i];lia,λ{F' H' W} d' B' k c l=>?_⟩;obtain⟨A',m,q2⟩:=j d' B' k (λ b o=>c b (zA6 _ o)) l;obtain⟨s,t⟩:=qM9 fds n d';exact⟨a::A',.ins (k.fr a _ e (c a zAa)) (q.trans s.symm) (by rw[t];exact m),λ b=>by rw[zAo,zAo,q2];lia⟩
 | _=>cases (show (none:Option D)=some _ from h)
def D.getP:D->List Nat->Option D
 | d,[]=>some d
 | d,n::p=>match d.kids[n]? with
   | some e=>e.getP p
   | none=>none
def D.setP:D->List Nat->D->D
 | _,[],x=>x
 | d,n::p,x=>match d.kids[n]? with
   | some e=>d.setK n (e.setP p x)
   | none=>d
def Walk(H:Hp):V->List Nat->V->Prop
 | u,[],w=>u=w
 | u,n::p,w=>∃ v,Lnk H u n v/\Walk H v p w
theorem P'.path:∀{p:List Nat}{a:V}{d0 d:D}{A:List γ},P' F H a d0 A->d0.getP p=some d->∃(w:V)(B C:List γ),Walk H a p w/\P' F H w d B/\(∀ b,A.count b=B.count b+C.count b) /\
   ∀{F':γ->Prop}{H':Hp}{W:γ->Prop}(d':D)(B':List γ),Kp F H W F' H'->(∀ b∈C,¬ W b)->P' F' H' w d' B'->∃ A':List γ,P' F' H' a (d0.setP p d') A'/\∀ b,A'.count b=B'.count b+C.count b:=by
 intro p
 induction p with
 | nil =>
   intro a d0 d A r h;cases h;exact⟨a,A,[],rfl,r,λ b=>by simp,λ{F' H' W} d' B' k f g=>⟨B',g,λ b=>by simp⟩⟩
 | cons n p j =>
   intro a d0 d A r h;unfold D.getP at h;cases c:d0.kids[n]? with
   | none=>rw[c] at h;cases h
   | some e =>
     rw[c] at h;obtain⟨l,B1,C1,m,o,q,s⟩:=r.kid c;obtain⟨w,B,C,t,u,v,x⟩:=j o h;refine⟨w,B,C++C1,⟨l,m,t⟩,u,λ b=>by rw[q,v,zA0];lia,λ{F' H' W} d' B' k f g=>?_⟩;obtain⟨A1,y,q2⟩:=x d' B' k (λ b i=>f b (zA9.mpr (.inl i))) g;obtain⟨A2,z,E⟩:=s (e.setP p d') A1 k (λ b i=>f b (zA9.mpr (.inr i))) y;refine⟨A2,?_,λ b=>by rw[E,q2,zA0];lia⟩;unfold D.setP;rw[c];exact z
def Ba(ds:Ds)(i:Nat)(p:List Nat):Option D:=match ds[i]? with
 | some d=>d.getP p
 | none=>none
def Bj(ds:Ds)(i:Nat)(p:List Nat)(x:D):Ds:=match ds[i]? with
 | some d=>ds.set i (d.setP p x)
 | none=>ds
theorem qag8{p:List Nat}{d:D}(h:D.getP .u p=some d):p=[]/\d=.u:=by
 cases p with
 | nil=>cases h;exact⟨rfl,rfl⟩
 | cons n p=>cases (show (none:Option D)=some _ from h)
theorem Locs.place{K:List (Option V)}{ds:Ds}{A:List γ}{p:List Nat}{d:D}(L:Locs F H K ds A)(h:Ba ds i p=some d)(g:d≠.u):∃(u w:V)(B C:List γ),K[i]? = some (some u)/\Walk H u p w/\P' F H w d B/\(∀ b,A.count b=B.count b+C.count b) /\
   ∀{F':γ->Prop}{H':Hp}{W:γ->Prop}(d':D)(B':List γ),Kp F H W F' H'->(∀ b∈C,¬ W b)->P' F' H' w d' B'->∃ A':List γ,Locs F' H' K (Bj ds i p d') A'/\∀ b,A'.count b=B'.count b+C.count b:=by
 unfold Ba at h;cases c:ds[i]? with
 | none=>rw[c] at h;cases h
 | some J =>
   rw[c] at h;obtain⟨σ1,o,σ2,j,l,A1,B0,A2,f,e2,m,n,q,s,t,v⟩:=L.split c;cases t with
   | no=>exact absurd (qag8 h).2 g
   | @so u _ _ r =>
     obtain⟨w,B,C,x,y,z,E⟩:=r.path h;refine⟨u,w,B,A1++(C++A2),by rw[f];exact qC6 m,x,y,λ b=>by rw[q];simp only[zA0,z];lia,λ{F' H' W} d' B' k e G=>?_⟩;obtain⟨A',I,q2⟩:=E d' B' k (λ b a=>e b (zA9.mpr (.inr (zA9.mpr (.inl a))))) G;refine⟨A1++(A'++A2),?_,λ b=>by simp only[zA0,q2];lia⟩;unfold Bj;rw[c,f];dsimp only;rw[e2,qp1 n];exact(s.keep k λ b a=>e b (zA9.mpr (.inl a))).append (.so I (v.keep k λ b a=>e b (zA9.mpr (.inr (zA9.mpr (.inr a))))))
theorem Lnk.fn{u:V}(h:Lnk H u n v)(h':Lnk H u n w):v=w:=by
 obtain⟨a,rfl,h⟩:=h;obtain⟨b,e,h'⟩:=h';cases e;rcases h with⟨vs,e,h⟩ | ⟨vs,e,h⟩ | ⟨vs,e,h⟩ | ⟨C,dx,vs,e,h⟩<;>rcases h' with⟨vs',e',h'⟩ | ⟨vs',e',h'⟩ | ⟨vs',e',h'⟩ | ⟨C',dx',vs',e',h'⟩<;>rw[e] at e'<;>cases e'<;>rw[h] at h'<;>exact Oy h'
theorem Walk.fn:∀{p:List Nat}{u v w:V},Walk H u p v->Walk H u p w->v=w
 | [],_,_,_,h,h'=>h.symm.trans h'
 | n::p,_,_,_,⟨x,h1,h2⟩,⟨y,h3,h4⟩=>by
   cases h1.fn h3;exact Walk.fn h2 h4
theorem Lnk.same{u:V}(h:Lnk H u n v)(s:Same H H'):Lnk H' u n v:=by
 obtain⟨a,rfl,h⟩:=h;refine⟨a,rfl,?_⟩;rcases h with⟨vs,e,h⟩ | ⟨vs,e,h⟩ | ⟨vs,e,h⟩ | ⟨C,dx,vs,e,h⟩
 . exact .inl ⟨vs,s _ _ e,h⟩
 . exact .inr (.inl ⟨vs,s _ _ e,h⟩)
 . exact .inr (.inr (.inl ⟨vs,s _ _ e,h⟩))
 exact .inr (.inr (.inr ⟨C,dx,vs,s _ _ e,h⟩))
theorem Walk.same:∀{p:List Nat}{u v:V},Walk H u p v->Same H H'->Walk H' u p v
 | [],_,_,h,_=>h
 | n::p,_,_,⟨x,h1,h2⟩,s=>⟨x,h1.same s,h2.same s⟩
end
section
variable{c:Vc}{X:Cx}{b:Ma}{r:R2}{g:D->D->Option D}{tb:VT}
def t2n(g:D->D->Option D)(i:Nat)(tb:VT):VT:=λ ds Q xe=>(rdN i ds).isSome=true/\tb ds (λ y ds1=>orF ((rdN i ds1).bind λ x=>g x y) λ d=>Q d ds1) xe
theorem qaw8(h:VE c X b tb):∀ ds (Q Q':DK) (xe e:XKd),(∀ d a,Q d a->Q' d a)->(∀ x a,xe x a->e x a)->t2n g i tb ds Q xe->t2n g i tb ds Q' e :=
 λ ds Q Q' xe e j k=>Ox (h.m _ _ _ _ _ (λ d f=>qa5 λ z=>j z f) k)
theorem Qc.name{F:γ->Prop}{H:Hp}{O:St}{ds:Ds}{A:List γ}{d:D}(S:Qc c F H O ds A)(hi:i < O.length)(h:rdN i ds=some d):∃ v B,O[i]? = some (some v)/\P' F H v d B/\∀ b,B.count b<=A.count b :=
 let ⟨e,k⟩:=ql1.mp h
 S.at hi e k
theorem op_ne{O:St}{H:Hp}(o:VE c X b tb)(h:A8 true r g)(hi:i < O.length)(q:Bi c (t2n g i tb) O H Q):tOp r (G7 i) (Bi c tb) O H Q:=by
 obtain⟨F,p,A,s,S,x,t,q⟩:=q;obtain⟨L,e⟩:=zB7.mp t;obtain⟨v,B0,n,_,_⟩:=S.name hi e;refine⟨v,n,F,p,A,s,S,x,o.m _ _ _ _ _ (λ C D q w H1 F1 T A1 E S1 M G=>?_) (λ _ _ z=>z) q⟩;have f:Qb F H A F1 H1 A1:=G.count λ b=>by rw[zA0];lia
 obtain⟨d,j,q⟩:=qa7.mp q;obtain⟨y,I,j⟩:=zA1.mp j;obtain⟨N,B,a,J,_⟩:=S1.name hi I;rw[n] at a;cases a;refine h F1 H1 v w y C _ d Q (G9 J E) j λ u H3 B3 K k l=>?_
 rw[if_pos rfl] at l;exact q u H3 F1 B3 A1 K (S1.same k) (S1.new l k) (f.trans (l.stp k))
end
section
variable{F:γ->Prop}{H:Hp}{K:O0}
theorem P'.lst_inv{ds:List D}{B:List γ}(r:P' F H v (.l z ds) B):∃ a vs A,v=.ref a/\H a=some (.l vs)/\P3 F H vs ds A/\∀ b,A.count b<=B.count b:=by
 cases r with
 | l h r=>exact⟨_,_,_,rfl,h,r,λ b=>by rw[zAo];lia⟩
 | lstZ h f r=>exact⟨_,_,_,rfl,h,r,λ b=>zA3 _⟩
theorem P'.tup_inv{ds:List D}{B:List γ}(r:P' F H v (.q ds) B):∃ a vs,v=.ref a/\H a=some (.q vs)/\P3 F H vs ds B:=by
 cases r with
 | q h r=>exact⟨_,_,rfl,h,r⟩
theorem P'.dct_inv{c:List (Key×D)}{B:List γ}(r:P' F H v (.dct z c) B):∃ a kvs A,v=.ref a/\H a=some (.dK kvs)/\kvs.map (·.1)=c.map (·.1)/\P3 F H (kvs.map (·.2)) (c.map (·.2)) A/\∀ b,A.count b<=B.count b:=by
 cases r with
 | dct h e r=>exact⟨_,_,_,rfl,h,e,r,λ b=>by rw[zAo];lia⟩
 | dctZ h f e r=>exact⟨_,_,_,rfl,h,e,r,λ b=>zA3 _⟩
theorem P'.ins_inv{C:γ}{c:List (Str×D)}{B:List γ}(r:P' F H v (.ins z C c) B):∃ a dx d A,v=.ref a/\H a=some (.ins C dx d)/\d.map (·.1)=c.map (·.1)/\P3 F H (d.map (·.2)) (c.map (·.2)) A/\∀ b,A.count b<=B.count b:=by
 cases r with
 | ins h e r=>exact⟨_,_,_,_,rfl,h,e,r,λ b=>by rw[zAo];lia⟩
 | insZ h f e r=>exact⟨_,_,_,_,rfl,h,e,r,λ b=>zA3 _⟩
noncomputable def D.elems:D->Option Ds
 | .l _ ds=>some ds
 | .q ds=>some ds
 | _=>none
theorem P'.elems{d:D}{ds:Ds}{B:List γ}(r:P' F H v d B)(h:d.elems=some ds):∃ a vs A,v=.ref a/\(SqL K H a vs∨SqT K H a vs)/\P3 F H vs ds A/\∀ b,A.count b<=B.count b:=by
 cases d with
 | l z c=>cases h;obtain⟨a,vs,A,e,h,r,q⟩:=r.lst_inv;exact⟨a,vs,A,e,.inl (.inl (.inl h)),r,q⟩
 | q c=>cases h;obtain⟨a,vs,e,h,r⟩:=r.tup_inv;exact⟨a,vs,_,e,.inr (.inl (.inl h)),r,λ _=>zA3 _⟩
 | _=>cases h
theorem P3.len{ds:List D}{A:List γ}(r:P3 F H vs ds A):vs.length=ds.length:=by
 induction vs generalizing ds A with
 | nil=>cases r;rfl
 | cons v vs a=>cases r with | cons h t=>simp[a t]
theorem qg9{p:γ}(a:H p=none):New H [p]:=⟨λ b=>by rw[zAo];simp;split<;>lia,λ b o e=>by
 have:b≠p:=λ z=>by rw[z,a] at e;cases e
 simp[zAo,Ne.symm this]⟩
theorem qy7{p:γ}{ds:Ds}(a:H p=none)(r:P3 F H vs ds []):P' F (upd H p (.l vs)) (.ref p) (.l false ds) [p]:=.l qb4 (r.same (Same.new a))
theorem qae1{p:γ}{ds:Ds}{A:List γ}(a:H p=none)(r:P3 F H vs ds A):P' F (upd H p (.q vs)) (.ref p) (.q ds) A:=.q qb4 (r.same (Same.new a))
theorem P3.get{ds:List D}{A:List γ}{d:D}(r:P3 F H vs ds A)(h:ds[n]? = some d):∃ w B,vs[n]? = some w/\P' F H w d B/\∀ b,B.count b<=A.count b:=by
 obtain⟨w,B,C,a,c,e,_⟩:=r.kid h;exact⟨w,B,a,c,λ b=>by have:=e b;lia⟩
theorem P3.atI{ds:List D}{A:List γ}{i:Int}{d:D}(r:P3 F H vs ds A)(h:L2.atI ds i=some d):∃ w B,L2.atI vs i=some w/\P' F H w d B/\∀ b,B.count b<=A.count b:=by
 unfold L2.atI at h ⊢;rw[r.len];cases e:ixN ds.length i with
 | none=>rw[e] at h;cases h
 | some j =>
   rw[e] at h;exact r.get h
theorem P3.sub{ds:List D}{A:List γ}(r:P3 F H vs ds A)(n m:Nat):∃ B,P3 F H ((vs.drop n).take m) ((ds.drop n).take m) B/\∀ b,B.count b<=A.count b:=by
 induction n generalizing vs ds A with
 | zero =>
   induction m generalizing vs ds A with
   | zero=>exact⟨[],.nil,λ b=>by simp⟩
   | succ m a =>
     cases r with
     | nil=>exact⟨[],.nil,λ b=>by simp⟩
     | cons h t =>
       obtain⟨B,c,q2⟩:=a t;exact⟨_,.cons h (by simpa using c),λ b=>by simp only[zA0];have:=q2 b;lia⟩
 | succ n a =>
   cases r with
   | nil=>exact⟨[],by simpa using P3.nil,λ b=>by simp⟩
   | cons h t =>
     obtain⟨B,c,q2⟩:=a t;exact⟨B,by simpa using c,λ b=>by simp only[zA0];have:=q2 b;lia⟩
noncomputable def D.flat:D->Option V
 | .non=>some .non
 | .bl b=>some (.bl b)
 | .int i=>some (.int i)
 | .str x=>some (.str x)
 | _=>none
theorem P'.flat{d:D}{B:List γ}(r:P' F H v d B)(h:d.flat=some w):v=w/\flatV v=true:=by
 cases r<;>cases h<;>exact⟨rfl,rfl⟩
end
noncomputable def big:Nat:=1000000
theorem qi2:big<=Lg:=by decide
section
variable{F:γ->Prop}{H:Hp}
theorem P3.imms0{ds:Ds}{A:List γ}(r:P3 F H vs ds A)(h:D.imms ds=true):P3 F H vs ds []:=by
 have:=r.imms h
 subst this;exact r
theorem P3.rep{ds:Ds}(r:P3 F H vs ds []):∀ k:Nat,P3 F H (Mr k vs).flatten (Mr k ds).flatten []
 | 0=>.nil
 | k+1=>by
   rw[zBp,zBp,zC8,zC8];exact r.append (B:=[]) (r.rep k)
end
noncomputable def gd(p:Prop)[Decidable p](d:D):Option D:=if p then some d else none
theorem qt3{p:Prop}[Decidable p]{d e:D}(h:gd p d=some e):p/\d=e:=by
 unfold gd at h;split at h
 . rename_i hp;exact⟨hp,Oy h⟩
 cases h
theorem qo4{p:Prop}[Decidable p]{d:D}(h:p):gd p d=some d:=if_pos h
def Ji:D->D->Option D
 | .int i,.int j=>some (.int (i+j))
 | .str a,.str b=>gd (a.length+b.length<=big) (.str (a++b))
 | .l _ xs,.l _ ys=>gd (D.imms xs=true/\D.imms ys=true/\xs.length+ys.length<=big) (.l false (xs++ys))
 | _,_=>none
def rAddA:R2:=λ x y H Q=>rI0 (λ i j=>.int (i+j)) x y H Q∨(∃ i j,x=.str i/\y=.str j/\i.length+j.length<=Lg/\Q (.str (i++j)) H)∨rCat x y H Q
theorem qg7{X:Cx}:OpR X (Lz .Add) rAddA:=qaU1.or (qad4.or qaU0)
theorem qg6:A8 true rAddA Ji:=by
 intro F H v w x y B d Q r h q;cases r with | @cons _ _ A _ _ _ e t=>cases t with | @cons _ _ A2 _ _ _ f _ =>
 cases x with
 | int i =>
   cases y with
   | int j=>cases h;cases e;cases f;exact .inl ⟨i,j,rfl,rfl,q _ H [] (.int _) (λ _ _ z=>z) New.nil⟩
   | _=>cases h
 | str a =>
   cases y with
   | str b =>
     obtain⟨c,rfl⟩:=qt3 h;cases e;cases f;exact .inr (.inl ⟨a,b,rfl,rfl,zAd c qi2,q _ H [] (.str _) (λ _ _ z=>z) New.nil⟩)
   | _=>cases h
 | l z s =>
   cases y with
   | l u C =>
     obtain⟨c,rfl⟩:=qt3 h;obtain⟨a,l,_,rfl,m,k,_⟩:=e.lst_inv;obtain⟨b,n,_,rfl,o,q2,_⟩:=f.lst_inv;refine .inr (.inr ⟨a,b,l,n,rfl,rfl,m,o,by rw[k.len,q2.len];exact zAd c.2.2 qi2,λ p g=>?_⟩);exact q _ _ [p] (qy7 g ((k.imms0 c.1).append (q2.imms0 c.2.1))) (Same.new g) (qg9 g)
   | _=>cases h
 | _=>cases h
noncomputable def small(i:Int):Bool:=decide (-(2 ^ 64) < i)&&decide (i < 2 ^ 64)
theorem qR6{i:Int}(h:small i=true):-(2 ^ 64) < i/\i < 2 ^ 64:=by
 have:=zAi.mp h
 exact⟨zAb this.1,zAb this.2⟩
def Jj:D->D->Option D
 | .int i,.int j=>gd ((small i||small j)=true) (.int (i * j))
 | .l _ xs,.int k=>gd (D.imms xs=true/\xs.length * k.toNat<=big/\k < 1000000/\-1000000 < k) (.l false (Mr k.toNat xs).flatten)
 | _,_=>none
def rMulA:R2:=λ x y H Q=>rI CMul (λ i j=>.int (i * j)) x y H Q∨rRep x y H Q
theorem qy1{X:Cx}:OpR X (Lz .Mult) rMulA:=qaT5.or qaT3
theorem qy0:A8 true rMulA Jj:=by
 intro F H v w x y B d Q r h q;cases r with | @cons _ _ A _ _ _ e t=>cases t with | @cons _ _ A2 _ _ _ f _ =>
 cases x with
 | int i =>
   cases y with
   | int j =>
     obtain⟨b,rfl⟩:=qt3 h;cases e;cases f;refine .inl ⟨i,j,rfl,rfl,?_,q _ H [] (.int _) (λ _ _ z=>z) New.nil⟩;rcases Bool.or_eq_true_iff.mp b with h | h
     . exact .inl (qR6 h)
     exact .inr (qR6 h)
   | _=>cases h
 | l z n =>
   cases y with
   | int k =>
     obtain⟨b,rfl⟩:=qt3 h;obtain⟨a,l,_,rfl,m,g,_⟩:=e.lst_inv;cases f;refine .inr ⟨a,k,l,rfl,rfl,m,by lia,by lia,by rw[g.len];exact zAd b.2.1 qi2,λ p c=>?_⟩;exact q _ _ [p] (qy7 c ((g.imms0 b.1).rep _)) (Same.new c) (qg9 c)
   | _=>cases h
 | _=>cases h
def gI(p:Int->Int->Bool)(f:Int->Int->D):D->D->Option D
 | .int i,.int j=>gd (p i j=true) (f i j)
 | _,_=>none
theorem os_I{C:Int->Int->Prop}{p:Int->Int->Bool}{f:Int->Int->D}{fv:Int->Int->V}(a:∀ i j,p i j=true->C i j)(b:∀ F H i j,P' F H (fv i j) (f i j) []):A8 true (rI C fv) (gI p f):=by
 intro F H v w x y B d Q r h q;cases r with | @cons _ _ A _ _ _ c t=>cases t with | @cons _ _ A2 _ _ _ e _ =>
 cases x with
 | int i =>
   cases y with
   | int j =>
     obtain⟨g,rfl⟩:=qt3 h;cases c;cases e;exact⟨i,j,rfl,rfl,a i j g,q _ H [] (b F H i j) (λ _ _ z=>z) New.nil⟩
   | _=>cases h
 | _=>cases h
theorem Hl{f:Int->Int->D}{fv:Int->Int->V}(a:∀ F H i j,P' F H (fv i j) (f i j) []):A8 true (rI0 fv) (gI (λ _ _=>true) f):=by
 intro F H v w x y B d Q r h q;obtain⟨i,j,b,c,_,e⟩:=os_I (C:=λ _ _=>True) (fv:=fv) (λ _ _ _=>trivial) a F H v w x y B d Q r h q;exact⟨i,j,b,c,e⟩
def gSub:=gI (λ _ _=>true) λ i j=>.int (i - j)
def gDiv:=gI (λ _ j=>decide (0 < j)&&decide (j < 2 ^ 200)) λ i j=>.int (i / j)
def Jk:=gI (λ _ j=>decide (0 < j)) λ i j=>.int (i % j)
def gLt:=gI (λ _ _=>true) λ i j=>.bl (decide (i < j))
def gLe:=gI (λ _ _=>true) λ i j=>.bl (decide (i<=j))
def gGt:=gI (λ _ _=>true) λ i j=>.bl (decide (j < i))
def gGe:=gI (λ _ _=>true) λ i j=>.bl (decide (j<=i))
theorem qs4:A8 true (rI0 λ i j=>.int (i - j)) gSub:=Hl λ _ _ _ _=>.int _
theorem qaA0:A8 true (rI CDivB λ i j=>.int (i / j)) gDiv:=os_I (λ i j h=>by
 have:=zAi.mp h
 exact⟨zAb this.1,zAb this.2⟩) λ _ _ _ _=>.int _
theorem ql2:A8 true (rI (λ _ j=>0 < j) λ i j=>.int (i % j)) Jk:=os_I (λ i j h=>zAb h) λ _ _ _ _=>.int _
theorem Km:A8 true (rI0 λ i j=>.bl (decide (i < j))) gLt:=Hl λ _ _ _ _=>.bl _
theorem os_le:A8 true (rI0 λ i j=>.bl (decide (i<=j))) gLe:=Hl λ _ _ _ _=>.bl _
theorem Ev:A8 true (rI0 λ i j=>.bl (decide (j < i))) gGt:=Hl λ _ _ _ _=>.bl _
theorem Ir:A8 true (rI0 λ i j=>.bl (decide (j<=i))) gGe:=Hl λ _ _ _ _=>.bl _
noncomputable def D.isN:D->Option Bool
 | .non=>some true
 | .u=>none
 | .hole _=>none
 | _=>some false
theorem P'.isN{F:γ->Prop}{H:Hp}{d:D}{B:List γ}{b:Bool}(r:P' F H v d B)(h:d.isN=some b):decide (v=.non)=b:=by
 cases r<;>cases h<;>rfl
def gIs:D->D->Option D
 | x,.non=>x.isN.map .bl
 | .bl a,.bl b=>some (.bl (a == b))
 | _,_=>none
def rIs:R2:=λ x y H Q=>(y=.non/\Q (.bl (decide (x=.non))) H)∨(∃ b c,x=.bl b/\y=.bl c/\Q (.bl (b == c)) H)
theorem F5:A8 true rIs gIs:=by
 intro F H v w x y B d Q r h q;cases r with | @cons _ _ A _ _ _ c t=>cases t with | @cons _ _ A2 _ _ _ f _ =>
 cases y with
 | non =>
   cases f;have h:x.isN.map D.bl=some d:=by cases x<;>exact h
   cases e:x.isN with
   | none=>rw[e] at h;cases h
   | some b =>
     rw[e] at h;cases h;refine .inl ⟨rfl,?_⟩;rw[c.isN e];exact q _ H [] (.bl _) (λ _ _ z=>z) New.nil
 | bl b =>
   cases x with
   | bl a=>cases h;cases c;cases f;exact .inr ⟨a,b,rfl,rfl,q _ H [] (.bl _) (λ _ _ z=>z) New.nil⟩
   | _=>cases h
 | _=>cases x<;>cases h
theorem F6{X:Cx}:OpR X (Lh .Is) rIs:=qaT6.or qaT7
theorem qaK8{X:Cx}:OpR X (Lh .IsNot) (λ x y H Q=>∃ b c,x=.bl b/\y=.bl c/\Q (.bl (b != c)) H):=by
 intro Eo s f H x y v u Q I a d ⟨b,c,e,e2,q⟩;subst e;subst e2;cases a;cases d;exact PyProof.Rows.isnot_bool ⟨.bl (b != c),H,I,rfl,q⟩
def gIsn:D->D->Option D
 | x,.non=>x.isN.map λ b=>.bl (!b)
 | .bl a,.bl b=>some (.bl (a != b))
 | _,_=>none
def rIsn:R2:=λ x y H Q=>(y=.non/\Q (.bl (!decide (x=.non))) H)∨(∃ b c,x=.bl b/\y=.bl c/\Q (.bl (b != c)) H)
theorem qu4:A8 true rIsn gIsn:=by
 intro F H v w x y B d Q r h q;cases r with | @cons _ _ A _ _ _ c t=>cases t with | @cons _ _ A2 _ _ _ f _ =>
 cases y with
 | non =>
   cases f;have h:x.isN.map (λ b=>D.bl (!b))=some d:=by cases x<;>exact h
   cases e:x.isN with
   | none=>rw[e] at h;cases h
   | some b =>
     rw[e] at h;cases h;refine .inl ⟨rfl,?_⟩;rw[c.isN e];exact q _ H [] (.bl _) (λ _ _ z=>z) New.nil
 | bl b =>
   cases x with
   | bl a=>cases h;cases c;cases f;exact .inr ⟨a,b,rfl,rfl,q _ H [] (.bl _) (λ _ _ z=>z) New.nil⟩
   | _=>cases h
 | _=>cases x<;>cases h
theorem qp3{X:Cx}:OpR X (Lh .IsNot) rIsn:=qaK7.or qaK8
noncomputable def Ge(f:D->D->Option Bool):List D->List D->Option Bool
 | [],[]=>some true
 | x::xs,y::ys=>(f x y).bind λ a=>(Ge f xs ys).bind λ b=>some (a&&b)
 | _,_=>some false
def eqF(x y:D):Option Bool:=match x.flat,y.flat with
 | some v,some w=>some (eqV v w)
 | _,_=>none
noncomputable def D.d0:D->Bool
 | .dct _ []=>true
 | _=>false
def eqZ(x y:D):Option Bool:=if (x.d0&&y.d0)=true then some true else eqF x y
def eqN:Nat->D->D->Option Bool
 | n+1,.l _ xs,.l _ ys=>Ge (eqN n) xs ys
 | n+1,.q xs,.q ys=>Ge (eqN n) xs ys
 | _,x,y=>eqZ x y
theorem qz5{f:D->D->Option Bool}:∀{xs ys:List D}{b:Bool},Ge f xs ys=some b->∃ e:Nat->Bool,(∀ i x y,xs[i]? = some x->ys[i]? = some y->f x y=some (e i))/\b=((Ms (min xs.length ys.length)).all e&&xs.length == ys.length)
 | [],[],b,h=>by cases h;exact⟨λ _=>true,λ i x y h=>by simp at h,by simp⟩
 | [],y::ys,b,h=>by cases h;exact⟨λ _=>true,λ i x y h=>by simp at h,by simp⟩
 | x::xs,[],b,h=>by cases h;exact⟨λ _=>true,λ i x y _ h=>by simp at h,by simp⟩
 | x::xs,y::ys,b,h=>by
   obtain⟨a,k,h⟩:=zA1.mp h;obtain⟨o,l,h⟩:=zA1.mp h;cases h;obtain⟨e,m,q2⟩:=qz5 l;refine⟨λ i=>match i with | 0=>a | i+1=>e i,λ i c d g j=>?_,?_⟩
   . cases i with
     | zero =>
       have n:x=c:=by simpa using g
       have e2:y=d:=by simpa using j
       subst n;subst e2;exact k
     | succ i=>exact m i c d (by simpa using g) (by simpa using j)
   rw[q2,zAm,zAm,Nat.add_min_add_right,List.range_succ_eq_map,M5,Oi];show _=(_&&_&&_)
   have:(xs.length+1 == ys.length+1)=(xs.length == ys.length):=by
     by_cases h:xs.length=ys.length
     . simp[h]
     simp[h]
   rw[this,<- Bool.and_assoc];rfl
section
variable{F:γ->Prop}{H:Hp}
theorem P'.eqF{x y:D}{A B:List γ}{b:Bool}(r1:P' F H v x A)(c:P' F H w y B)(h:LV.eqF x y=some b):flatV v=true/\flatV w=true/\eqV v w=b:=by
 unfold LV.eqF at h;cases a:x.flat with
 | none=>rw[a] at h;cases h
 | some d =>
   cases e2:y.flat with
   | none=>rw[a,e2] at h;cases h
   | some e =>
     rw[a,e2] at h;obtain⟨rfl,f1⟩:=r1.flat a;obtain⟨rfl,f2⟩:=c.flat e2;exact⟨f1,f2,Oy h⟩
theorem P'.d0{x:D}{A:List γ}(r:P' F H v x A)(h:x.d0=true):∃ a,v=.ref a/\H a=some (.dK []):=by
 cases x with
 | dct z b =>
   cases b with
   | nil =>
     cases r with
     | dct e q _=>exact⟨_,rfl,by rw[e,List.map_eq_nil_iff.mp q]⟩
     | dctZ e _ q _=>exact⟨_,rfl,by rw[e,List.map_eq_nil_iff.mp q]⟩
   | cons=>cases h
 | _=>cases h
theorem P'.eqZ{x y:D}{A B:List γ}{b:Bool}(r1:P' F H v x A)(d:P' F H w y B)(h:LV.eqZ x y=some b):(flatV v=true/\flatV w=true/\eqV v w=b)∨(b=true/\∃ a c,v=.ref a/\w=.ref c/\H a=some (.dK [])/\H c=some (.dK [])):=by
 unfold LV.eqZ at h;split at h
 . rename_i hd
   obtain⟨e,f⟩:=zAi.mp hd;obtain⟨a,g,i⟩:=r1.d0 e;obtain⟨c,e2,q2⟩:=d.d0 f;cases h;exact .inr ⟨rfl,a,c,g,e2,i,q2⟩
 exact .inl (r1.eqF d h)
theorem qU4(n:Nat)(x y:D):(eqN (n+1) x y=LV.eqZ x y)∨(∃ z xs z' ys,x=.l z xs/\y=.l z' ys)∨∃ xs ys,x=.q xs/\y=.q ys:=by
 cases x with
 | l z xs=>cases y with
   | l z' ys=>exact .inr (.inl ⟨_,_,_,_,rfl,rfl⟩)
   | _=>exact .inl rfl
 | q xs=>cases y with
   | q ys=>exact .inr (.inr ⟨_,_,rfl,rfl⟩)
   | _=>exact .inl rfl
 | _=>exact .inl rfl
theorem qQ2(x y:D):eqN 0 x y=LV.eqZ x y:=by cases x<;>cases y<;>rfl
theorem qU5(f:∀{v:V}{x y:D}{A B:List γ}{b:Bool},P' F H v x A->P' F H v y B->eqN n x y=some b->b=true):∀{vs:List V}{xs ys:List D}{A B:List γ}{b:Bool},P3 F H vs xs A->P3 F H vs ys B->Ge (eqN n) xs ys=some b->b=true:=by
 intro vs
 induction vs with
 | nil=>intro xs ys A B b c d h;cases c;cases d;cases h;rfl
 | cons v vs e =>
   intro xs ys A B b c d h;cases c with | cons p1 t1=>cases d with | cons g t2 =>
   obtain⟨a,i,h⟩:=zA1.mp h;obtain⟨k,j,h⟩:=zA1.mp h;cases h;rw[f p1 g i,e t1 t2 j];rfl
theorem qah6:∀{n:Nat}{v:V}{x y:D}{A B:List γ}{b:Bool},P' F H v x A->P' F H v y B->eqN n x y=some b->b=true:=by
 intro n
 induction n with
 | zero =>
   intro v x y A B b c d h;rw[qQ2] at h;rcases c.eqZ d h with⟨f1,f2,rfl⟩ | ⟨rfl,_⟩
   . exact qz4 f1
   rfl
 | succ n k =>
   intro v x y A B b c d h;rcases qU4 n x y with e | ⟨z,l,q,m,rfl,rfl⟩ | ⟨l,m,rfl,rfl⟩
   . rw[e] at h
     rcases c.eqZ d h with⟨f1,f2,rfl⟩ | ⟨rfl,_⟩
     . exact qz4 f1
     rfl
   . obtain⟨a,o,_,rfl,g,i,_⟩:=c.lst_inv
     obtain⟨p,j,_,e,f,q2,_⟩:=d.lst_inv;cases e;rw[g] at f;cases f;exact qU5 k i q2 h
   obtain⟨a,o,rfl,g,i⟩:=c.tup_inv;obtain⟨p,j,e,f,q2⟩:=d.tup_inv;cases e;rw[g] at f;cases f;exact qU5 k i q2 h
theorem P3.getV{ds:List D}{A:List γ}(r:P3 F H vs ds A)(h:vs[n]? = some w):∃ d B,ds[n]? = some d/\P' F H w d B:=by
 have c:=r.len;have e:n < vs.length:=(zA4.mp h).1;obtain⟨f,B,a,b,_⟩:=r.get (n:=n) (d:=ds[n]'(by lia)) (by simp);rw[h] at a;cases a;exact⟨_,B,by simp,b⟩
theorem qU2{x y:D}{A B:List γ}{b:Bool}(r1:P' F H v x A)(d:P' F H w y B)(h:LV.eqZ x y=some b):EqD H n v w b:=by
 rcases r1.eqZ d h with⟨f1,f2,rfl⟩ | ⟨rfl,a,a',rfl,rfl,q1,q2⟩
 . exact .flat f1 f2
 by_cases c:a=a'
 . subst c;exact .same a
 exact .dcts c q1 q2
theorem qU3:∀{n:Nat}{v w:V}{x y:D}{A B:List γ}{b:Bool},P' F H v x A->P' F H w y B->eqN n x y=some b->EqD H n v w b:=by
 intro n
 induction n with
 | zero =>
   intro v w x y A B b c d h;rw[qQ2] at h;exact qU2 c d h
 | succ n I =>
   intro v w x y A B b c d h;rcases qU4 n x y with e | ⟨z,J,L,K,rfl,rfl⟩ | ⟨J,K,rfl,rfl⟩
   . rw[e] at h
     exact qU2 c d h
   . obtain⟨a,m,_,rfl,k,g,_⟩:=c.lst_inv
     obtain⟨o,r,_,rfl,l,q2,_⟩:=d.lst_inv;by_cases f:a=o
     . subst f
       cases qah6 (n:=n+1) c d h;exact .same a
     obtain⟨e,s,rfl⟩:=qz5 h;rw[<- g.len,<- q2.len];by_cases j:m.length=r.length
     . rw[j,Nat.min_self,zAw,Bool.and_true,<- j]
       refine .lsts f k l j λ i p q t e2=>?_
       obtain⟨x,_,u,C⟩:=g.getV t;obtain⟨y,_,E,G⟩:=q2.getV e2;exact I C G (s i x y u E)
     have:(m.length == r.length)=false:=by simpa using j
     rw[this,Bool.and_false];exact .lens f k l j
   obtain⟨a,m,rfl,k,g⟩:=c.tup_inv;obtain⟨o,r,rfl,l,q2⟩:=d.tup_inv;by_cases f:a=o
   . subst f
     cases qah6 (n:=n+1) c d h;exact .same a
   obtain⟨e,s,rfl⟩:=qz5 h;rw[<- g.len,<- q2.len];refine .tups f k l λ i p q t e2=>?_
   obtain⟨x,_,u,C⟩:=g.getV t;obtain⟨y,_,E,G⟩:=q2.getV e2;exact I C G (s i x y u E)
end
def eqT:D->D->Option Bool
 | .l _ xs,.l _ ys=>Ge (eqN 20) xs ys
 | .q xs,.q ys=>Ge (eqN 20) xs ys
 | .l _ _,.q _=>some false
 | .q _,.l _ _=>some false
 | .l _ _,y=>y.flat.map λ _=>false
 | .q _,y=>y.flat.map λ _=>false
 | x,.l _ _=>x.flat.map λ _=>false
 | .dct _ _,.q _=>some false
 | x,.q _=>x.flat.map λ _=>false
 | x,y=>eqZ x y
theorem P'.flatV{F:γ->Prop}{H:Hp}{d:D}{B:List γ}{b:Bool}(r:P' F H v d B)(h:(d.flat.map λ _=>false)=some b):L2.flatV v=true/\b=false:=by
 cases e:d.flat with
 | none=>rw[e] at h;cases h
 | some w=>rw[e] at h;cases h;exact⟨(r.flat e).2,rfl⟩
theorem P'.rc{F:γ->Prop}{H:Hp}{x y:D}{A B:List γ}{b:Bool}(r1:P' F H v x A)(d:P' F H w y B)(h:eqT x y=some b):RcD H v w b:=by
 have flat:LV.eqZ x y=some b->RcD H v w b:=λ h=>by
   rcases r1.eqZ d h with⟨f1,f2,rfl⟩ | ⟨rfl,a,k,rfl,rfl,l,q2⟩
   . exact .flat f1 f2
   exact .dcts l q2
 cases x with
 | l z G =>
   obtain⟨a,o,_,rfl,g,l,_⟩:=r1.lst_inv;cases y with
   | l J m =>
     obtain⟨k,j,_,rfl,c,q2,_⟩:=d.lst_inv;obtain⟨e,r,rfl⟩:=qz5 h;rw[<- l.len,<- q2.len];by_cases n:o.length=j.length
     . rw[n,Nat.min_self,zAw,Bool.and_true,<- n]
       refine .lsts g c n λ i p q s e2=>?_
       obtain⟨x,_,t,u⟩:=l.getV s;obtain⟨y,_,C,E⟩:=q2.getV e2;exact qU3 u E (r i x y t C)
     have:(o.length == j.length)=false:=by simpa using n
     rw[this,Bool.and_false];exact .lens g c n
   | q m=>obtain⟨k,j,rfl,c,q2⟩:=d.tup_inv;cases h;exact .lt g c
   | _=>obtain⟨f,rfl⟩:=d.flatV h;exact .lf g f
 | q G =>
   obtain⟨a,o,rfl,g,l⟩:=r1.tup_inv;cases y with
   | q m =>
     obtain⟨k,j,rfl,c,q2⟩:=d.tup_inv;obtain⟨e,r,rfl⟩:=qz5 h;rw[<- l.len,<- q2.len];refine .tups g c λ i p q s e2=>?_
     obtain⟨x,_,t,u⟩:=l.getV s;obtain⟨y,_,C,E⟩:=q2.getV e2;exact qU3 u E (r i x y t C)
   | l z m=>obtain⟨k,j,_,rfl,c,q2,_⟩:=d.lst_inv;cases h;exact .tl g c
   | _=>obtain⟨f,rfl⟩:=d.flatV h;exact .tf g f
 | dct z I =>
   cases y with
   | l z m=>cases h
   | q m =>
     obtain⟨k,j,rfl,c,q2⟩:=d.tup_inv;cases h;cases r1 with
     | dct e _ _=>exact .dt e c
     | dctZ e _ _ _=>exact .dt e c
   | _=>exact flat h
 | _ =>
   cases y with
   | l z m=>obtain⟨k,j,_,rfl,c,q2,_⟩:=d.lst_inv;obtain⟨f,rfl⟩:=r1.flatV h;exact .fl c f
   | q m=>obtain⟨k,j,rfl,c,q2⟩:=d.tup_inv;obtain⟨f,rfl⟩:=r1.flatV h;exact .ft c f
   | _=>exact flat h
def gEq(x y:D):Option D:=(eqT x y).map .bl
def gNe(x y:D):Option D:=(eqT x y).map λ b=>.bl (!b)
theorem Bf:A8 true rEqD gEq:=by
 intro F H v w x y B d Q r h q;cases r with | @cons _ _ A _ _ _ a t=>cases t with | @cons _ _ A2 _ _ _ c _ =>
 obtain⟨b,e,rfl⟩:=zAh.mp h;exact⟨b,a.rc c e,q _ H [] (.bl _) (λ _ _ z=>z) New.nil⟩
theorem Gu:A8 true rNeD gNe:=by
 intro F H v w x y B d Q r h q;cases r with | @cons _ _ A _ _ _ a t=>cases t with | @cons _ _ A2 _ _ _ c _ =>
 obtain⟨b,e,rfl⟩:=zAh.mp h;exact⟨b,a.rc c e,q _ H [] (.bl _) (λ _ _ z=>z) New.nil⟩
def flats:List D->Option (List V)
 | []=>some []
 | d::r=>d.flat.bind λ v=>(flats r).bind λ vs=>some (v::vs)
theorem P3.flats{F:γ->Prop}{H:Hp}:∀{vs a:List V}{ds:List D}{A:List γ},P3 F H vs ds A->LV.flats ds=some a->vs=a/\vs.all L2.flatV=true
 | _,_,_,_,.nil,h=>by cases h;exact⟨rfl,rfl⟩
 | _,_,_,_,.cons r t,h=>by
   obtain⟨v,b,h⟩:=zA1.mp h;obtain⟨vs,c,h⟩:=zA1.mp h;cases h;obtain⟨rfl,f⟩:=r.flat b;obtain⟨rfl,g⟩:=t.flats c;exact⟨rfl,by rw[M5,f,g];rfl⟩
def gInB(neg:Bool)(x y:D):Option D:=x.flat.bind λ v=>y.elems.bind λ ys=>(flats ys).bind λ a=>some (.bl (if neg then !inV v a else inV v a))
theorem Iu{K:O0}{neg:Bool}:A8 true (rIn K neg) (gInB neg):=by
 intro F H v w x y B d Q r h q;cases r with | @cons _ _ A _ _ _ b t=>cases t with | @cons _ _ A2 _ _ _ c _ =>
 obtain⟨n,e,h⟩:=zA1.mp h;obtain⟨o,i,h⟩:=zA1.mp h;obtain⟨p,j,h⟩:=zA1.mp h;cases h;obtain⟨rfl,f⟩:=b.flat e;obtain⟨a,k,A3,rfl,l,m,_⟩:=c.elems (K:=K) i;obtain⟨rfl,g⟩:=m.flats j;exact⟨a,k,rfl,l,f,g,q _ H [] (.bl _) (λ _ _ z=>z) New.nil⟩
def gIx(x y:D):Option D:=match y with
 | .int i=>x.elems.bind λ ys=>atI ys i
 | _=>none
theorem Ap{K:O0}:A8 false (rIx K) gIx:=by
 intro F H v w x y B d Q r h q;cases r with | @cons _ _ A _ _ _ l t=>cases t with | @cons _ _ A2 _ _ _ m _ =>
 cases y with
 | int i =>
   obtain⟨u,n,h⟩:=zA1.mp h;cases m;obtain⟨a,j,A3,rfl,c,o,p⟩:=l.elems (K:=K) n;obtain⟨f,B',k,g,s⟩:=o.atI h;have e:=q f H B' g (λ _ _ z=>z) (by
     rw[if_neg (by decide)];exact λ b=>.inl (by rw[zA0];have:=s b;have:=p b;lia))
   rcases c with c | c
   . exact .inl ⟨a,j,i,f,rfl,rfl,c,k,e⟩
   exact .inr (.inl ⟨a,j,i,f,rfl,rfl,c,k,e⟩)
 | _=>cases h
section
variable{F:γ->Prop}{H:Hp}
theorem P3.one_inv{x:D}{B:List γ}(r:P3 F H vs [x] B):∃ v,vs=[v]/\P' F H v x B:=by
 cases r with | cons h t=>cases t;exact⟨_,rfl,by rw[zAg];exact h⟩
theorem P3.two_inv{x y:D}{B:List γ}(r:P3 F H vs [x,y] B):∃ v w A C,vs=[v,w]/\P' F H v x A/\P' F H w y C/\∀ b,B.count b=A.count b+C.count b:=by
 cases r with | cons h t=>cases t with | cons a t=>cases t;exact⟨_,_,_,_,rfl,h,a,λ b=>by simp[zA0]⟩
end
noncomputable def fx1(g:D->Option D):Ds->Option D
 | [x]=>g x
 | _=>none
noncomputable def fx2(g:D->D->Option D):Ds->Option D
 | [x,y]=>g x y
 | _=>none
def CS1(nw:Bool)(r:List V->Hp->VK->Prop)(g:D->Option D):Prop:=∀ F H v x B d (Q:VK),P' F H v x B->g x=some d ->
 (∀ v H' B',P' F H' v d B'->Same H H'->(if nw=true then New H B' else Sub H B B')->Q v H')->r [v] H Q
theorem CS1.ops{nw:Bool}{r:List V->Hp->VK->Prop}{g:D->Option D}(h:CS1 nw r g):OpS nw r (fx1 g):=by
 intro F H c a B d Q r e q
 match a,e with
 | [x],e =>
   obtain⟨v,rfl,b⟩:=r.one_inv;exact h F H v x B d Q b e q
def Hw(x:D):Option D:=match x with
 | .str z=>gd (z.length<=big) (.int z.length)
 | .dct _ kvs=>some (.int kvs.length)
 | x=>x.elems.map λ ys=>.int ys.length
def Kn(K:O0):List V->Hp->VK->Prop:=λ xs H Q=>(∃ p ys,xs=[.ref p]/\(SqL K H p ys∨SqT K H p ys)/\Q (.int ys.length) H)∨(∃ z,xs=[.str z]/\z.length<=Lg/\Q (.int z.length) H)∨(∃ a kvs,xs=[V.ref a]/\H a=some (.dK kvs)/\Q (.int kvs.length) H)
theorem qq5{X:Cx}:CallR X (.builtin "len") (Kn X.K):=qQ7.or (qQ6.or qaq4)
theorem qq4{K:O0}:CS1 true (Kn K) Hw:=by
 intro F H v x B d Q r h q;have seq:∀ b,x.elems=some b->d=.int b.length->Kn K [v] H Q:=λ b e j=>by
   subst j;obtain⟨a,k,A,rfl,f,i,_⟩:=r.elems (K:=K) e;refine .inl ⟨a,k,rfl,f,?_⟩;rw[i.len];exact q _ H [] (.int _) (λ _ _ z=>z) New.nil
 cases x with
 | str z=>obtain⟨l,rfl⟩:=qt3 h;cases r;exact .inr (.inl ⟨z,rfl,zAd l qi2,q _ H [] (.int _) (λ _ _ z=>z) New.nil⟩)
 | dct z g =>
   cases h;obtain⟨a,c,A,rfl,f,e,i,_⟩:=r.dct_inv;refine .inr (.inr ⟨a,c,rfl,f,?_⟩)
   have:c.length=g.length:=by have:=congrArg Mv e;simpa using this
   rw[this];exact q _ H [] (.int _) (λ _ _ z=>z) New.nil
 | l z b=>cases h;exact seq b rfl rfl
 | q b=>cases h;exact seq b rfl rfl
 | _=>cases h
noncomputable def gInt:D->Option D
 | .int i=>some (.int i)
 | .bl b=>some (.int (if b then 1 else 0))
 | _=>none
theorem qaX4:CS1 true (λ xs H Q=>(∃ i,xs=[.int i]/\Q (.int i) H)∨∃ k,xs=[.bl k]/\Q (.int (if k then 1 else 0)) H) gInt:=by
 intro F H v x B d Q r h q;cases x with
 | int i=>cases h;cases r;exact .inl ⟨i,rfl,q _ H [] (.int _) (λ _ _ z=>z) New.nil⟩
 | bl i=>cases h;cases r;exact .inr ⟨i,rfl,q _ H [] (.int _) (λ _ _ z=>z) New.nil⟩
 | _=>cases h
def Ko(x:D):Option D:=x.elems.bind λ ys=>gd (D.imms ys=true) (.l false ys)
theorem qU7{K:O0}:CS1 true (λ xs H Q=>∃ p ys,xs=[.ref p]/\(SqL K H p ys∨SqT K H p ys)/\∀ l,H l=none->Q (.ref l) (upd H l (.l ys))) Ko:=by
 intro F H v x B d Q r h q;obtain⟨ys,e,h⟩:=zA1.mp h;obtain⟨c,rfl⟩:=qt3 h;obtain⟨a,f,A,rfl,g,i,_⟩:=r.elems (K:=K) e;exact⟨a,f,rfl,g,λ p b=>q _ _ [p] (qy7 b (i.imms0 c)) (Same.new b) (qg9 b)⟩
noncomputable def D.intO:D->Option Int
 | .int k=>some k
 | _=>none
def pairK:D->Option (Key×D)
 | .q [a,x]=>a.intO.bind λ k=>if x.imm=true then some (.inl k,x) else none
 | _=>none
def qX5:List D->Option (List (Key×D))
 | []=>some []
 | d::r=>(pairK d).bind λ p=>(qX5 r).bind λ ps=>some (p::ps)
noncomputable def Gh(kvs:List (Key×D))(k:Key)(v:D):List (Key×D) :=
 if (kvs.any λ a=>decide (a.1=k))=true then kvs.map (λ a=>if a.1=k then (a.1,v) else a) else kvs++[(k,v)]
def qt5(kvs more:List (Key×D)):List (Key×D):=more.foldl (λ acc a=>Gh acc a.1 a.2) kvs
abbrev KP(F:γ->Prop)(H:Hp)(kvs:List (Key×V))(a:List (Key×D)):Prop:=Paired (λ(p:Key×V)(q:Key×D)=>p.1=q.1/\P' F H p.2 q.2 []) kvs a
section
variable{F:γ->Prop}{H:Hp}
theorem KP.maps{b:List (Key×D)}(h:KP F H kvs b):kvs.map (·.1)=b.map (·.1)/\P3 F H (kvs.map (·.2)) (b.map (·.2)) []:=by
 induction h with
 | nil=>exact⟨rfl,.nil⟩
 | cons a _ c=>exact⟨by rw[zAx,zAx,a.1,c.1],.cons (A:=[]) (B:=[]) a.2 c.2⟩
theorem KP.any{b:List (Key×D)}(h:KP F H kvs b)(k:Key):(kvs.any λ c=>decide (c.1=k))=b.any λ c=>decide (c.1=k):=by
 induction h with
 | nil=>rfl
 | cons a _ d=>rw[zCk,zCk,a.1,d]
theorem KP.append{kvs':List (Key×V)}{b kds':List (Key×D)}(h:KP F H kvs b)(h':KP F H kvs' kds'):KP F H (kvs++kvs') (b++kds'):=by
 induction h with
 | nil=>exact h'
 | cons a _ c=>exact .cons a c
theorem KP.mapk{c:List (Key×D)}(h:KP F H kvs c){k:Key}{d:D}(r:P' F H v d []):KP F H (kvs.map λ b=>if b.1=k then (b.1,v) else b) (c.map λ b=>if b.1=k then (b.1,d) else b):=by
 induction h with
 | nil=>exact .nil
 | @cons p q _ _ a _ ih =>
   refine .cons ?_ ih;show (if p.1=k then (p.1,v) else p).1=(if q.1=k then (q.1,d) else q).1/\P' F H (if p.1=k then (p.1,v) else p).2 (if q.1=k then (q.1,d) else q).2 [];rw[<- a.1];split
   . exact⟨rfl,r⟩
   exact a
theorem KP.put{a:List (Key×D)}(h:KP F H kvs a){k:Key}{d:D}(r:P' F H v d []):KP F H (putK kvs k v) (Gh a k d):=by
 unfold putK Gh;rw[h.any k];split
 . exact h.mapk r
 exact h.append (.cons ⟨rfl,r⟩ .nil)
theorem KP.merge{more:List (Key×V)}{mored:List (Key×D)}(h:KP F H more mored):∀{kvs:List (Key×V)}{b:List (Key×D)},KP F H kvs b->KP F H (qB0 kvs more) (qt5 b mored):=by
 induction h with
 | nil=>exact λ h=>h
 | @cons p q _ _ a _ ih =>
   intro kvs b h
   have:=ih (h.put (k:=p.1) a.2)
   rw[a.1] at this;show KP F H (qB0 (putK kvs p.1 p.2) _) (qt5 (Gh b q.1 q.2) _);rw[a.1];exact this
theorem qaz8{ds:Ds}{A:List γ}{ps:List (Key×D)}(r:P3 F H vs ds A)(h:qX5 ds=some ps):∃ kvs,qaw0 H vs kvs/\KP F H kvs ps:=by
 induction ds generalizing vs A ps with
 | nil=>cases r;cases h;exact⟨[],.nil,.nil⟩
 | cons d ds l =>
   cases r with
   | cons m t =>
     obtain⟨p,b,h⟩:=zA1.mp h;obtain⟨ps,n,h⟩:=zA1.mp h;cases h;obtain⟨kvs,o,q2⟩:=l t n;unfold pairK at b;split at b
     . rename_i k x
       obtain⟨i,g,b⟩:=zA1.mp b;split at b
       . rename_i hm
         cases b;obtain⟨a,u,rfl,q,e⟩:=m.tup_inv;obtain⟨v,s,A1,A2,rfl,f,c,_⟩:=e.two_inv;cases k with
         | int j =>
           cases g;cases f
           have:=c.imm hm
           subst this;exact⟨(.inl i,s)::kvs,.cons ⟨a,rfl,q⟩ o,.cons ⟨rfl,c⟩ q2⟩
         | _=>cases g
       cases b
     cases b
theorem qaL4{p:γ}{a:List (Key×D)}(b:H p=none)(r:KP F H kvs a):P' F (upd H p (.dK kvs)) (.ref p) (.dct false a) [p]:=.dct qb4 r.maps.1 (r.maps.2.same (Same.new b))
end
def Iv(x:D):Option D:=match x with
 | .l _ ys=>(qX5 ys).map λ ps=>.dct false (qt5 [] ps)
 | _=>none
theorem qav0:CS1 true qaH3 Iv:=by
 intro F H v x B d Q r h q;cases x with
 | l z k =>
   obtain⟨l,e,rfl⟩:=zAh.mp h;obtain⟨a,f,A,rfl,g,i,_⟩:=r.lst_inv;obtain⟨b,j,q2⟩:=qaz8 i e;exact⟨a,f,b,rfl,g,j,λ p c=>q _ _ [p] (qaL4 c (q2.merge .nil)) (Same.new c) (qg9 c)⟩
 | _=>cases h
noncomputable def D.kind:D->Option String
 | .non=>some "NoneType" | .bl _=>some "bool" | .int _=>some "int" | .str _=>some "str" | .l _ _=>some "list" | .q _=>some "tuple" | .dct _ _=>some "dict"
 | _=>none
theorem P'.kind{F:γ->Prop}{H:Hp}{d:D}{B:List γ}{t:String}(r:P' F H v d B)(h:d.kind=some t):Et H v=some t:=by
 cases r with
 | q e _=>cases h;exact qaB9 e
 | l e _=>cases h;exact qaf4 e
 | lstZ e _ _=>cases h;exact qaf4 e
 | dct e _ _=>cases h;exact qat6 e
 | dctZ e _ _ _=>cases h;exact qat6 e
 | _=>cases h<;>rfl
noncomputable def Jl(n:String):Bool:=n == "bool" || n == "int" || n == "str" || n == "list" || n == "tuple" || n == "dict"
def gIsi(x y:D):Option D:=match y with
 | .ty n=>if Jl n=true then x.kind.map λ t=>.bl (Hh t n) else none
 | _=>none
def CS2(nw:Bool)(r:List V->Hp->VK->Prop)(g:D->D->Option D):Prop:=∀ F H v w x y A B d (Q:VK),P' F H v x A->P' F H w y B->g x y=some d ->
 (∀ v H' B',P' F H' v d B'->Same H H'->(if nw=true then New H B' else Sub H (A++B) B')->Q v H')->r [v,w] H Q
theorem CS2.ops{nw:Bool}{r:List V->Hp->VK->Prop}{g:D->D->Option D}(h:CS2 nw r g):OpS nw r (fx2 g):=by
 intro F H l c B d Q r e q
 match c,e with
 | [x,y],e =>
   obtain⟨v,w,A,C,rfl,f,i,j⟩:=r.two_inv;refine h F H v w x y A C d Q f i e λ u H' B' k s a=>q u H' B' k s ?_
   cases nw with
   | true=>exact a
   | false =>
     rw[if_neg (by decide)] at a ⊢;exact λ b=>(a b).imp (λ z=>by rw[zA0] at z;have:=j b;lia) id
theorem qu8:CS2 true rIsi gIsi:=by
 intro F H v w x y A B d Q b c e q;cases y with
 | ty n =>
   cases c;have e:(if Jl n=true then x.kind.map λ t=>D.bl (Hh t n) else none)=some d:=e;by_cases a:Jl n=true
   . rw[if_pos a] at e
     obtain⟨t,f,rfl⟩:=zAh.mp e;refine⟨v,n,t,rfl,b.kind f,?_,q _ H [] (.bl _) (λ _ _ z=>z) New.nil⟩;simp only[Jl,Bool.or_eq_true,zBl] at a;simp only[zAn,zBu,or_false];rcases a with ((((h | h) | h) | h) | h) | h
     . exact .inl h
     . exact .inr (.inl h)
     . exact .inr (.inr (.inl h))
     . exact .inr (.inr (.inr (.inl h)))
     . exact .inr (.inr (.inr (.inr (.inl h))))
     exact .inr (.inr (.inr (.inr (.inr h))))
   rw[if_neg a] at e;cases e
 | _=>cases e
def D.isC(C:γ)(x:D):Option D:=match x with
 | .ins _ C' _=>if C'=C then some (.bl true) else none
 | x=>x.kind.map λ _=>.bl false
def gIsO(C:γ)(x y:D):Option D:=match y with
 | .adr a=>if a=C then x.isC C else none
 | _=>none
theorem qaX3{C:γ}:CS2 true (rIsO C) (gIsO C):=by
 intro F H v w x y A B d Q f g e q;cases y with
 | adr a =>
   cases g;have e:(if a=C then x.isC C else none)=some d:=e;by_cases b:a=C
   . rw[if_pos b] at e
     subst b;have kind:(x.kind.map λ _=>D.bl false)=some d->rIsO a [v,.ref a] H Q:=λ e=>by
       obtain⟨t,i,rfl⟩:=zAh.mp e;exact⟨_,rfl,.inr ⟨t,f.kind i,q _ H [] (.bl _) (λ _ _ z=>z) New.nil⟩⟩
     cases x with
     | ins z C' k =>
       have e2:(if C'=a then some (D.bl true) else none)=some d:=e;by_cases b:C'=a
       . rw[if_pos b] at e2
         cases e2;subst b;obtain⟨p,j,c,_,rfl,h,_,_,_⟩:=f.ins_inv;exact⟨_,rfl,.inl ⟨p,j,c,rfl,h,q _ H [] (.bl _) (λ _ _ z=>z) New.nil⟩⟩
       rw[if_neg b] at e2;cases e2
     | _=>exact kind e
   rw[if_neg b] at e;cases e
 | _=>cases e
noncomputable def gMax2:D->D->Option D
 | .int i,.int j=>some (.int (if j > i then j else i))
 | _,_=>none
noncomputable def gMin2:D->D->Option D
 | .int i,.int j=>some (.int (if j < i then j else i))
 | _,_=>none
theorem qau9:CS2 true (λ xs H Q=>∃ i j,xs=[.int i,.int j]/\Q (.int (if j > i then j else i)) H) gMax2:=by
 intro F H v w x y A B d Q a b e q;cases x with
 | int i=>cases y with
   | int j=>cases e;cases a;cases b;exact⟨i,j,rfl,q _ H [] (.int _) (λ _ _ z=>z) New.nil⟩
   | _=>cases e
 | _=>cases e
theorem qah7:CS2 true (λ xs H Q=>∃ i j,xs=[.int i,.int j]/\Q (.int (if j < i then j else i)) H) gMin2:=by
 intro F H v w x y A B d Q a b e q;cases x with
 | int i=>cases y with
   | int j=>cases e;cases a;cases b;exact⟨i,j,rfl,q _ H [] (.int _) (λ _ _ z=>z) New.nil⟩
   | _=>cases e
 | _=>cases e
noncomputable def bools:List D->Option (List Bool)
 | []=>some []
 | .bl b::r=>(bools r).map λ bs=>b::bs
 | _=>none
theorem P3.bools{F:γ->Prop}{H:Hp}:∀{vs:List V}{ds:List D}{A:List γ}{bs:List Bool},P3 F H vs ds A->LV.bools ds=some bs->vs=bs.map V.bl:=by
 intro vs ds
 induction ds generalizing vs with
 | nil=>intro A bs r h;cases r;cases h;rfl
 | cons d ds a =>
   intro A bs r h;cases r with
   | cons c t =>
     cases d with
     | bl b =>
       obtain⟨e,f,rfl⟩:=zAh.mp h;cases c;rw[a t f];rfl
     | _=>cases h
def gAll(x:D):Option D:=match x with
 | .l _ ys=>(bools ys).map λ bs=>.bl (bs.all id)
 | _=>none
theorem qaO9{K:O0}:CS1 true (λ xs H Q=>∃(a:γ)(bs:List Bool),xs=[.ref a]/\SqL K H a (bs.map V.bl)/\Q (.bl (bs.all id)) H) gAll:=by
 intro F H v x B d Q r h q;cases x with
 | l z f =>
   obtain⟨bs,b,rfl⟩:=zAh.mp h;obtain⟨a,g,A,rfl,c,e,_⟩:=r.lst_inv;cases e.bools b;exact⟨a,bs,rfl,.inl (.inl c),q _ H [] (.bl _) (λ _ _ z=>z) New.nil⟩
 | _=>cases h
noncomputable def intsD:List D->Option (List Int)
 | []=>some []
 | .int i::r=>(intsD r).map λ is=>i::is
 | _=>none
theorem P3.intsD{F:γ->Prop}{H:Hp}:∀{vs:List V}{ds:List D}{A:List γ}{bs:List Int},P3 F H vs ds A->LV.intsD ds=some bs->vs=bs.map V.int:=by
 intro vs ds
 induction ds generalizing vs with
 | nil=>intro A bs r h;cases r;cases h;rfl
 | cons d ds a =>
   intro A bs r h;cases r with
   | cons c t =>
     cases d with
     | int b =>
       obtain⟨e,f,rfl⟩:=zAh.mp h;cases c;rw[a t f];rfl
     | _=>cases h
def Fw(xs:List D)(lo hi:Option Int):List D:=(xs.drop (HT.sIx xs.length 0 lo)).take (HT.sIx xs.length xs.length hi - HT.sIx xs.length 0 lo)
def gSl(x:D)(lo hi:Option Int):Option D:=match x with
 | .l _ ys=>gd (D.imms (Fw ys lo hi)=true) (.l false (Fw ys lo hi))
 | .scr ns=>some (.l false ((ns.drop (HT.sIx ns.length 0 lo)).take (HT.sIx ns.length ns.length hi - HT.sIx ns.length 0 lo) |>.map .int))
 | .q ys=>gd (D.imms (Fw ys lo hi)=true/\(Fw ys lo hi).length < ys.length) (.q (Fw ys lo hi))
 | _=>none
theorem qE3{F:γ->Prop}{H:Hp}:∀ ns:List Int,P3 F H (ns.map V.int) (ns.map D.int) []
 | []=>.nil
 | n::r=>.cons (A:=[]) (B:=[]) (.int n) (qE3 r)
theorem os_sl{K:O0}{F:γ->Prop}{H:Hp}{x d:D}{lo hi:Option Int}{B:List γ}(r:P' F H v x B)(h:gSl x lo hi=some d)(f:∀ ys,x≠.q ys)(q:∀ v H' B',P' F H' v d B'->Same H H'->New H B'->Q v H'):rSlL K v lo hi H Q:=by
 cases x with
 | l z ys =>
   obtain⟨g,rfl⟩:=qt3 h;obtain⟨a,i,A,rfl,j,c,_⟩:=r.lst_inv;refine⟨a,i,rfl,.inl (.inl j),λ p b=>q _ _ [p] (qy7 b ?_) (Same.new b) (qg9 b)⟩;obtain⟨B',k,l⟩:=c.sub (HT.sIx ys.length 0 lo) (HT.sIx ys.length ys.length hi - HT.sIx ys.length 0 lo);unfold Hg;rw[c.len];exact k.imms0 g
 | scr m =>
   cases h;cases r with
   | scr e =>
     refine⟨_,_,rfl,.inl (.inr ⟨_,e⟩),λ p b=>q _ _ [p] (qy7 b ?_) (Same.new b) (qg9 b)⟩;unfold Hg;rw[<- Of,<- Nf,zAf];exact qE3 _
 | q ys=>exact absurd rfl (f ys)
 | _=>cases h
def D.fld(C:γ)(f:Str):D->Option D
 | .ins _ C' fs=>if C'=C then fs.lookup f else none
 | _=>none
theorem qaf1{F:γ->Prop}{H:Hp}:∀{c:List (Str×V)}{a:List (Str×D)}{A:List γ}{f:Str}{d:D},c.map (·.1)=a.map (·.1)->P3 F H (c.map (·.2)) (a.map (·.2)) A->a.lookup f=some d->∃ v B,c.lookup f=some v/\P' F H v d B/\∀ b,B.count b<=A.count b:=by
 intro c
 induction c with
 | nil=>intro a A f d e r h;cases a with
   | nil=>cases h
   | cons _ _=>simp at e
 | cons p c i =>
   intro a A f d e r h;cases a with
   | nil=>simp at e
   | cons q a =>
     obtain⟨k,v⟩:=p;obtain⟨j,s⟩:=q;have l:k=j:=by simp at e;exact e.1
     have e2:c.map (·.1)=a.map (·.1):=by simp at e;simpa using e.2
     subst l;cases r with
     | @cons _ _ A1 _ _ A2 r1 t =>
       rw[zAu] at h ⊢;cases g:f == k with
       | true=>rw[g] at h;cases h;exact⟨v,A1,rfl,r1,λ b=>by rw[zA0];lia⟩
       | false =>
         rw[g] at h;obtain⟨w,B,m,n,o⟩:=i e2 t h;exact⟨w,B,m,n,λ b=>by rw[zA0];have:=o b;lia⟩
theorem qaT1{K:O0}{C:γ}{f:Str}(c:Cls K C)(n:qd5 K C f):OpS1 false (λ x H Q=>∃ a C dx fs v,x=.ref a/\H a=some (.ins C dx fs)/\Cls K C/\qd5 K C f/\fs.lookup f=some v/\Q v H) (D.fld C f):=by
 intro F H v x B d Q r h q;cases x with
 | ins z C' fs =>
   have i:(if C'=C then fs.lookup f else none)=some d:=h;by_cases j:C'=C
   . rw[if_pos j] at i
     subst j;obtain⟨a,dx,k,A,rfl,l,e,m,g⟩:=r.ins_inv;obtain⟨w,B',o,p,s⟩:=qaf1 e m i;refine⟨a,C',dx,k,w,rfl,l,c,n,o,q w H B' p (λ _ _ z=>z) ?_⟩;rw[if_neg (by decide)];exact λ b=>.inl (by have:=s b;have:=g b;lia)
   rw[if_neg j] at i;cases i
 | _=>cases h
noncomputable def D.key:D->Option Key
 | .int i=>some (.inl i)
 | .str x=>some (.inr x)
 | _=>none
noncomputable def Ex(a:List (Key×D))(k:Key):Option D:=(a.find? λ b=>decide (b.1=k)).map (·.2)
theorem P'.key{F:γ->Prop}{H:Hp}{x:D}{B:List γ}{k:Key}(r:P' F H v x B)(h:x.key=some k):v=kV k:=by
 cases r<;>cases h<;>rfl
theorem qaF2{F:γ->Prop}{H:Hp}:∀{kvs:List (Key×V)}{a:List (Key×D)}{A:List γ}(k:Key),kvs.map (·.1)=a.map (·.1)->P3 F H (kvs.map (·.2)) (a.map (·.2)) A ->
   (Ex a k=none/\Gb kvs k=none)∨∃ v d B,Ex a k=some d/\Gb kvs k=some v/\P' F H v d B/\∀ b,B.count b<=A.count b:=by
 intro kvs
 induction kvs with
 | nil=>intro a A k e r;cases a with
   | nil=>exact .inl ⟨rfl,rfl⟩
   | cons _ _=>simp at e
 | cons p kvs g =>
   intro a A k e r;cases a with
   | nil=>simp at e
   | cons q a =>
     obtain⟨c,v⟩:=p;obtain⟨i,d⟩:=q;have j:c=i:=by simp at e;exact e.1
     have e2:kvs.map (·.1)=a.map (·.1):=by simp at e;simpa using e.2
     subst j;cases r with
     | @cons _ _ A1 _ _ A2 r1 t =>
       by_cases f:c=k
       . exact .inr ⟨v,d,A1,by simp[Ex,f],qL6 f,r1,λ b=>by rw[zA0];lia⟩
       have l:Ex ((c,d)::a) k=Ex a k:=by simp[Ex,zBx,f]
       rw[l,qL7 (p:=(c,v)) f];rcases g k e2 t with h | ⟨w,m,B,n,o,s,u⟩
       . exact .inl h
       exact .inr ⟨w,m,B,n,o,s,λ b=>by rw[zA0];have:=u b;lia⟩
section
variable{c:Vc}{X:Cx}{a b e:Ma}{J G own nw:Bool}{fa fb f:FV}{r:R2}{g:D->D->Option D}{w tb t:VT}{pos:Pos}
theorem vnm(i:Nat){x:Str}(b:X.N[i]? = some x:=by rfl)(d:Vis X.env.scope x:=by first | exact P0 rfl | exact Pz (P0 rfl) | exact Pz (Pz rfl))(e:N' x:=by decide)(a:(x == ("__classdict__" : Str))=false:=by decide) :
   VV c X (.Name x pos) false (rdN i):=qaF0 (qs3 b d e a) (qp7 b)
noncomputable def kC(d:D):FV:=λ _=>some d
theorem Af{i:Int}:VV c X (.Constant (.int i) j pos) true (kC (.int i)):=Hk qO2 λ _ _=>.int _
theorem vbl{i:Bool}:VV c X (.Constant (.bool i) j pos) true (kC (.bl i)):=Hk pe_bl λ _ _=>.bl _
theorem A7:VV c X (.Constant .none j pos) true (kC .non):=Hk qaS9 λ _ _=>.non
theorem Bo{i:Str}:VV c X (.Constant (.str i) j pos) true (kC (.str i)):=Hk qaS6 λ _ _=>.str _
theorem vgi{x:Str}{n:Int}{k:Tok}(hm:X.mg x=some (.int n k))(a:Gl X x:=by rfl)(b:N' x:=by decide):VV c X (.Name x pos) true (kC (.int n)):=Hk (qaJ5 hm a b) λ _ _=>.int _
theorem vcls{x:Str}(C:γ)(hm:X.mg x=some (.ref C))(a:Gl X x:=by rfl)(b:N' x:=by decide):VV c X (.Name x pos) true (kC (.adr C)):=Hk (qaS7 C hm a b) λ _ _=>.adr _
theorem vty{x:Str}(n:String)(hm:X.mg x=none)(a:Gl X x:=by rfl)(b:Ll x=some (.type n):=by rfl)(d:x ≠ "__name__" := by decide)(e:N' x:=by decide):VV c X (.Name x pos) true (kC (.ty n)):=Hk (qaJ9 n hm a b d e) λ _ _=>.ty _
theorem vpow{i j:Int}(k:Int){m:Nat}{p q:Pos}(a:i ^ j.toNat=k:=by decide)(b:0<=j:=by decide)(h1:j<=1000000:=by decide)(h2:i.natAbs < 2 ^ 64:=by decide):VV c X (.BinOp (.Constant (.int i) m p) .Pow (.Constant (.int j) n q) pos) true (kC (.int k)):=Hk (qaJ1 k a b h1 h2) λ _ _=>.int _
def P2(X:Cx)(e a b:Ma)(r:R2):Prop:=∀ w tb,PE X a w->PE X b tb->PE X e (tOp r w tb)
def T2(X:Cx)(e a b:Ma)(r:R2):Prop:=∀ w tb,PE X a w->PE X b tb->PT X e (tTest (tOp r w tb))
theorem Am{op:Operator}(c:OpR X (Lz op) r):P2 X (.BinOp a op b pos) a b r:=λ _ _ d e=>pe_op c d e
theorem A6(c:OpR X (Lh op) r)(hm:behindInMarks op b=false):P2 X (.Compare a [op] [b] pos) a b r:=λ _ _ d e=>qaJ8 c d e hm
theorem As(c:OpR X (Lh op) r)(hm:behindInMarks op b=false):T2 X (.Compare a [op] [b] pos) a b r:=λ _ _ d e=>qaH7 c d e hm
theorem Av(c:IxR X r)(d:qW2 b:=by exact λ _ _=>rfl):P2 X (.Subscript a b pos) a b r:=λ _ _ e f=>Ka c e f d
theorem v2(p:P2 X e a b r)(h:A8 nw r g)(d:VV c X a J fa)(f:VV c X b G fb):VV c X e (nw||(J&&G)) (f2 g fa fb):=⟨PE.mono (p _ _ d.h f.h) (op_vv h)⟩
theorem e2(p:P2 X e a b r)(h:A8 true r g)(d:VE c X a w)(f:VE c X b tb):VE c X e (t2 g w tb):=⟨PE.mono (p _ _ d.h f.h) (op_ee d f h),qar1 d f⟩
theorem e2v(p:P2 X e a b r)(h:A8 true r g)(d:VE c X a w)(f:VV c X b G fb):VE c X e (t2v g w fb):=⟨PE.mono (p _ _ d.h f.h) (op_ev d h),qaw7 d⟩
theorem e2P(p:P2 X e a b r)(h:A8 false r g)(d:VE c X a w)(f:VE c X b tb):VE c X e (t2 g w tb):=⟨PE.mono (p _ _ d.h f.h) (qaT9 d f h),qar1 d f⟩
theorem e2vP(p:P2 X e a b r)(h:A8 false r g)(d:VE c X a w)(f:VV c X b G fb):VE c X e (Kl g w fb):=⟨PE.mono (p _ _ d.h f.h) (qaT8 d h),qak3 d⟩
theorem e2n(i:Nat){x:Str}{p0:Pos}(p:P2 X e (.Name x p0) b r)(h:A8 true r g)(a:VE c X b tb)(f:X.N[i]? = some x:=by rfl)(j:Vis X.env.scope x:=by first | exact P0 rfl | exact Pz (P0 rfl) | exact Pz (Pz rfl))(k:N' x:=by decide)(d:(x == ("__classdict__" : Str))=false:=by decide) :
   VE c X e (t2n g i tb):=⟨λ Eo s o H Q I q=>p _ _ (qs3 f j k d) a.h Eo s o H Q I (op_ne a h (qp7 f Eo o H s I) q),qaw8 a⟩
noncomputable def D.asB:D->Option Bool
 | .bl b=>some b
 | _=>none
theorem P'.asB{F:γ->Prop}{H:Hp}{d:D}{B:List γ}{k:Bool}(r:P' F H v d B)(h:d.asB=some k):v=.bl k:=by
 cases r<;>cases h<;>rfl
def ttV(f:FV):VTT:=λ ds Q _=>orF ((f ds).bind D.asB) λ b=>Q b ds
def ttE(t:VT):VTT:=λ ds Q xe=>t ds (λ d a=>orF d.asB λ b=>Q b a) xe
theorem qaF5:∀ o H Q,Fc c (ttV f) o H Q->liftV c own f o H (λ x H'=>∃ k,x=.bl k/\Q k H'):=by
 rintro o H Q ⟨F,a,A,h,S,x,q⟩;obtain⟨b,e,q⟩:=qa7.mp q;obtain⟨d,g,e2⟩:=zA1.mp e;exact⟨F,a,A,d,S,g,λ v H' B r s _=>⟨b,r.asB e2,q H' F A (S.same s) (.same s)⟩⟩
theorem qaF6(h:VE c X e t):∀ o H Q,Fc c (ttE t) o H Q->Bi c t o H (λ x H'=>∃ k,x=.bl k/\Q k H'):=by
 rintro o H Q ⟨F,a,A,f,S,x,q⟩;refine⟨F,a,A,f,S,x,h.m _ _ _ _ _ (λ d g q v H1 F1 T A1 i S1 l j=>?_) (λ _ _ z=>z) q⟩;obtain⟨b,e,q⟩:=qa7.mp q;exact⟨b,i.asB e,q H1 F1 A1 S1 (j.count λ b=>by rw[zA0];lia)⟩
theorem qZ9:∀ ds (Q Q':Bool->Ds->Prop) (xe b:XKd),(∀ d a,Q d a->Q' d a)->(∀ x a,xe x a->b x a)->ttV f ds Q xe->ttV f ds Q' b:=λ ds Q Q' xe b c _=>qa5 λ d=>c d ds
theorem qaa0(h:VE c X e t):∀ ds (Q Q':Bool->Ds->Prop) (xe b:XKd),(∀ d a,Q d a->Q' d a)->(∀ x a,xe x a->b x a)->ttE t ds Q xe->ttE t ds Q' b:=λ ds Q Q' xe b f g=>h.m _ _ _ _ _ (λ d a=>qa5 λ z=>f z a) g
theorem tv(h:VV c X e own f)(a:∀ whole,isTrue e X.env whole=(do let v <- whole;standAt e.pos;holding [v] (truthy v)):=by intro _;rfl):VTe c X e (ttV f):=⟨PT.mono (qaH6 h.h a) qaF5,qZ9⟩
theorem te(h:VE c X e t)(a:∀ whole,isTrue e X.env whole=(do let v <- whole;standAt e.pos;holding [v] (truthy v)):=by intro _;rfl):VTe c X e (ttE t):=⟨PT.mono (qaH6 h.h a) (qaF6 h),qaa0 h⟩
theorem q2(p:T2 X e a b r)(h:A8 nw r g)(d:VV c X a J fa)(f:VV c X b G fb):VTe c X e (ttV (f2 g fa fb)):=⟨PT.mono (p _ _ d.h f.h) λ o H Q q=>op_vv h o H _ (qaF5 o H Q q),qZ9⟩
theorem q2v(p:P2 X e a b r)(i:T2 X e a b r)(h:A8 true r g)(d:VE c X a w)(f:VV c X b G fb):VTe c X e (ttE (t2v g w fb)):=⟨PT.mono (i _ _ d.h f.h) λ o H Q q=>op_ev d h o H _ (qaF6 (e2v p h d f) o H Q q),qaa0 (e2v p h d f)⟩
variable{y E:VTT}{rest:List Ma}
def F7(t:VTT):VTT:=λ ds Q xe=>t ds (λ b a=>Q (!b) a) xe
theorem Bh(h:VTe c X a y):VTe c X (.UnaryOp .Not a pos) (F7 y):=by
 refine⟨PT.mono (qaR7 h.h) λ o H Q ⟨F,e,A,f,S,x,q⟩=>⟨F,e,A,f,S,x,q⟩,λ e Q Q' f g i j=>h.m _ _ _ _ _ (λ b d=>i _ d) j⟩
structure VTw(c:Vc)(X:Cx)(e:Ma)(t:VTT):Prop where
 h:PW X e (Fc c t)
 m:∀ ds (Q Q':Bool->Ds->Prop) (xe xe':XKd),(∀ d ds',Q d ds'->Q' d ds')->(∀ x ds',xe x ds'->xe' x ds')->t ds Q xe->t ds Q' xe'
theorem VTw.te(h:VTw c X e y):VTe c X e y:=⟨h.h.pt,h.m⟩
theorem Gv(h:VTe c X a y):VTw c X (.BoolOp .And [a] pos) y:=⟨qaH5 h.h,h.m⟩
theorem Hm(h:VTe c X a y):VTw c X (.BoolOp .Or [a] pos) y:=⟨qaR5 h.h,h.m⟩
def Iw(t u:VTT):VTT:=λ ds Q xe=>t ds (λ k ds1=>if k=true then u ds1 Q xe else Q false ds1) xe
def ttOr(t u:VTT):VTT:=λ ds Q xe=>t ds (λ k ds1=>if k=true then Q true ds1 else u ds1 Q xe) xe
theorem qS5{k:Bool->St->Hp->(Bool->Hp->Prop)->Prop}{K:Bool->Ds->(Bool->Ds->Prop)->XKd->Prop}(h:VTe c X a y)(i:∀(b:Bool) F ds A xe o H (Q:Bool->Hp->Prop),Qc c F H o ds A->Xc c xe F H A->K b ds (λ f e=>∀ H' F' A',Qc c F' H' o e A'->Qb F H A F' H' A'->Q f H') xe->k b o H Q)(hm:∀(b:Bool) ds (Q Q':Bool->Ds->Prop) (xe:XKd),(∀ d e,Q d e->Q' d e)->K b ds Q xe->K b ds Q' xe):∀ o H Q,Fc c (λ ds Q xe=>y ds (λ b ds1=>K b ds1 Q xe) xe) o H Q->Fc c y o H (λ b H1=>k b o H1 Q):=by
 rintro o H Q ⟨F,ds,A,xe,S,x,q⟩;refine⟨F,ds,A,xe,S,x,h.m _ _ _ _ _ (λ b ds1 q H1 F1 A1 S1 g=>?_) (λ _ _ z=>z) q⟩;exact i b F1 ds1 A1 xe o H1 Q S1 (x.step g) (hm b ds1 _ _ xe (λ f e q H' F' A' S' j=>q H' F' A' S' (g.trans j)) q)
theorem Jm(g:VTe c X a y)(i:VTw c X (.BoolOp .And (b::rest) pos) E):VTw c X (.BoolOp .And (a::b::rest) pos) (Iw y E):=by
 refine⟨PW.mono (qaR6 g.h i.h) ?_,λ d Q Q' e l f j=>g.m _ _ _ _ _ (λ k n q=>?_) j⟩
 . refine qS5 (k:=λ b o H Q=>if b=true then Fc c E o H Q else Q false H) (K:=λ b d Q e=>if b=true then E d Q e else Q false d) g ?_ ?_
   . intro b F d A e o H Q S x q
     cases b with
     | true=>rw[if_pos rfl] at q ⊢;exact⟨F,d,A,e,S,x,q⟩
     | false=>rw[if_neg (by decide)] at q ⊢;exact q H F A S Qb.refl
   intro b d Q Q' e f;cases b with
   | true=>rw[if_pos rfl,if_pos rfl];exact i.m _ _ _ _ _ f λ _ _ z=>z
   | false=>rw[if_neg (by decide),if_neg (by decide)];exact f _ _
 cases k with
 | true=>rw[if_pos rfl] at q ⊢;exact i.m _ _ _ _ _ f j q
 | false=>rw[if_neg (by decide)] at q ⊢;exact f _ _ q
theorem tor(g:VTe c X a y)(i:VTw c X (.BoolOp .Or (b::rest) pos) E):VTw c X (.BoolOp .Or (a::b::rest) pos) (ttOr y E):=by
 refine⟨PW.mono (pw_or g.h i.h) ?_,λ d Q Q' e l f j=>g.m _ _ _ _ _ (λ k n q=>?_) j⟩
 . refine qS5 (k:=λ b o H Q=>if b=true then Q true H else Fc c E o H Q) (K:=λ b d Q e=>if b=true then Q true d else E d Q e) g ?_ ?_
   . intro b F d A e o H Q S x q
     cases b with
     | false=>rw[if_neg (by decide)] at q ⊢;exact⟨F,d,A,e,S,x,q⟩
     | true=>rw[if_pos rfl] at q ⊢;exact q H F A S Qb.refl
   intro b d Q Q' e f;cases b with
   | false=>rw[if_neg (by decide),if_neg (by decide)];exact i.m _ _ _ _ _ f λ _ _ z=>z
   | true=>rw[if_pos rfl,if_pos rfl];exact f _ _
 cases k with
 | false=>rw[if_neg (by decide)] at q ⊢;exact i.m _ _ _ _ _ f j q
 | true=>rw[if_pos rfl] at q ⊢;exact f _ _ q
end
section
variable{c:Vc}{X:Cx}{a b e:Ma}{oa ob own nw:Bool}{fa fb f:FV}{ta tb t:VT}{Y:Pos}{rest:List Ma}
def tSeqE(ta:VT)(k:D->VT):VT:=λ ds Q xe=>ta ds (λ x ds1=>k x ds1 Q xe) xe
theorem qaB3{k:V->St->Hp->VK->Prop}{K:D->VT}(i:VE c X a ta)(hm:∀ x ds (Q Q':DK) (xe f:XKd),(∀ d e,Q d e->Q' d e)->(∀ x e,xe x e->f x e)->K x ds Q xe->K x ds Q' f)(j:∀ F H W v x T,P' F H v x T->∀ Q,(∃ ds A xe,Qc c F H W ds A/\Xc c xe F H A/\K x ds (λ d e=>∀ v H' F' T A',P' F' H' v d T->Qc c F' H' W e A'->Ok F' H' (T++A')->Qb F H A F' H' (T++A')->Q v H') xe)->k v W H Q) :
   ∀ W H Q,Bi c (tSeqE ta K) W H Q->Bi c ta W H (λ x H1=>k x W H1 Q):=by
 rintro W H Q ⟨F,ds,A,xe,S,x,q⟩;refine⟨F,ds,A,xe,S,x,i.m _ _ _ _ _ (λ d g q v H1 F1 T A1 l S1 p n=>?_) (λ _ _ z=>z) q⟩;have h:Qb F H A F1 H1 A1:=n.count λ b=>by rw[zA0];lia
 exact j F1 H1 W v d T l Q ⟨g,A1,xe,S1,x.step h,hm d g _ _ _ _ (λ t e q w H' F' T' A' r S' o s=>q w H' F' T' A' r S' o (h.trans s)) (λ _ _ z=>z) q⟩
def Ix(ta tb:VT):VT:=tSeqE ta λ x ds Q xe=>orF x.asB λ k=>if k=true then tb ds Q xe else Q (.bl false) ds
theorem qC5{k:Bool}{p q a b:Prop}(h1:p->a)(h2:q->b):(if k=true then p else q)->(if k=true then a else b):=by
 cases k with
 | true=>rw[if_pos rfl,if_pos rfl];exact h1
 | false=>rw[if_neg (by decide),if_neg (by decide)];exact h2
theorem qaj0(g:VE c X e tb):∀(x:D) ds (Q Q':DK) (xe b:XKd),(∀ d a,Q d a->Q' d a)->(∀ x a,xe x a->b x a)->(orF x.asB λ k=>if k=true then tb ds Q xe else Q (.bl false) ds)->(orF x.asB λ k=>if k=true then tb ds Q' b else Q' (.bl false) ds) :=
 λ x ds Q Q' xe b f h=>qa5 λ k=>qC5 (g.m _ _ _ _ _ f h) (f _ _)
theorem Hn{op:PySem.BoolOp}(h:VE c X a ta):VE c X (.BoolOp op [a] Y) ta:=⟨qaJ2 h.h,h.m⟩
theorem Fx(e:VE c X a ta)(f:VE c X (.BoolOp .And (b::rest) Y) tb):VE c X (.BoolOp .And (a::b::rest) Y) (Ix ta tb):=by
 refine⟨PE.mono (qaK1 e.h f.h) ?_,λ l Q Q' g i p n=>e.m _ _ _ _ _ (λ d j=>qaj0 f d j Q Q' g i p n) n⟩;refine qaB3 (k:=λ v W H Q=>∃ o,v=.bl o/\if o=true then Bi c tb W H Q else Q (.bl false) H) e (qaj0 f) ?_;rintro F H W v x T r Q ⟨l,A,g,S,s,q⟩;obtain⟨k,t,q⟩:=qa7.mp q;refine⟨k,r.asB t,?_⟩;cases k with
 | true=>rw[if_pos rfl] at q ⊢;exact⟨F,l,A,g,S,s,q⟩
 | false=>rw[if_neg (by decide)] at q ⊢;exact q _ H F [] A (.bl _) S S.ok Qb.refl
variable{qc:VTT}
def tIfE(qc:VTT)(ta tb:VT):VT:=λ ds Q xe=>qc ds (λ k ds1=>if k=true then ta ds1 Q xe else tb ds1 Q xe) xe
theorem eif(i:VTe c X cd qc)(j:VE c X a ta)(l:VE c X b tb):VE c X (.IfExp cd a b Y) (tIfE qc ta tb):=by
 refine⟨PE.mono (qaz4 i.h j.h l.h) ?_,λ t Q Q' f w u n=>i.m _ _ _ _ _ (λ k e=>qC5 (j.m _ _ _ _ _ u n) (l.m _ _ _ _ _ u n)) n⟩;rintro W H Q ⟨F,t,A,f,S,x,q⟩;refine⟨F,t,A,f,S,x,i.m _ _ _ _ _ (λ k e q H1 F1 A1 S1 g=>?_) (λ _ _ z=>z) q⟩;cases k with
 | true=>rw[if_pos rfl] at q ⊢;exact⟨F1,e,A1,f,S1,x.step g,j.m _ _ _ _ _ (λ d p q v H' F' T A' r S' o s=>q v H' F' T A' r S' o (g.trans s)) (λ _ _ z=>z) q⟩
 | false=>rw[if_neg (by decide)] at q ⊢;exact⟨F1,e,A1,f,S1,x.step g,l.m _ _ _ _ _ (λ d p q v H' F' T A' r S' o s=>q v H' F' T A' r S' o (g.trans s)) (λ _ _ z=>z) q⟩
def fAnd(fa fb:FV):FV:=λ ds=>(fa ds).bind λ x=>x.asB.bind λ k=>if k=true then fb ds else some (.bl false)
def fOr(fa fb:FV):FV:=λ ds=>(fa ds).bind λ x=>x.asB.bind λ k=>if k=true then some (.bl true) else fb ds
def fNot(fa:FV):FV:=λ ds=>(fa ds).bind λ x=>x.asB.map λ k=>.bl (!k)
theorem Kq{op:PySem.BoolOp}(h:VV c X a oa fa):VV c X (.BoolOp op [a] Y) oa fa:=⟨qaJ2 h.h⟩
theorem vand(m:VV c X a oa fa)(n:VV c X (.BoolOp .And (b::rest) Y) ob fb):VV c X (.BoolOp .And (a::b::rest) Y) ob (fAnd fa fb):=by
 refine⟨PE.mono (qaK1 m.h n.h) λ W H Q g=>?_⟩;obtain⟨F,i,A,d,S,e,q⟩:=g;obtain⟨x,p,e⟩:=zA1.mp e;obtain⟨k,r,e⟩:=zA1.mp e;refine⟨F,i,A,x,S,p,λ v H1 B1 s f y=>⟨k,s.asB r,?_⟩⟩;cases k with
 | true=>rw[if_pos rfl] at e ⊢;exact⟨F,i,A,d,S.same f,e,λ w H2 B2 t u j=>q w H2 B2 t (f.trans u) λ l=>⟨(j l).one,λ b o e=>(j l).new b o (f b o e)⟩⟩
 | false=>rw[if_neg (by decide)] at e ⊢;cases e;exact q _ H1 [] (.bl _) f λ _=>New.nil
theorem vor(m:VV c X a oa fa)(n:VV c X (.BoolOp .Or (b::rest) Y) ob fb):VV c X (.BoolOp .Or (a::b::rest) Y) ob (fOr fa fb):=by
 refine⟨PE.mono (pe_or m.h n.h) λ W H Q g=>?_⟩;obtain⟨F,i,A,d,S,e,q⟩:=g;obtain⟨x,p,e⟩:=zA1.mp e;obtain⟨k,r,e⟩:=zA1.mp e;refine⟨F,i,A,x,S,p,λ v H1 B1 s f y=>⟨k,s.asB r,?_⟩⟩;cases k with
 | false=>rw[if_neg (by decide)] at e ⊢;exact⟨F,i,A,d,S.same f,e,λ w H2 B2 t u j=>q w H2 B2 t (f.trans u) λ l=>⟨(j l).one,λ b o e=>(j l).new b o (f b o e)⟩⟩
 | true=>rw[if_pos rfl] at e ⊢;cases e;exact q _ H1 [] (.bl _) f λ _=>New.nil
theorem vnot(f:VV c X a oa fa):VV c X (.UnaryOp .Not a Y) true (fNot fa):=by
 refine⟨PE.mono (qaS8 f.h) λ W H Q b=>?_⟩;obtain⟨F,g,A,d,S,e,q⟩:=b;obtain⟨x,i,e⟩:=zA1.mp e;obtain⟨k,j,rfl⟩:=zAh.mp e;exact⟨F,g,A,x,S,i,λ v H1 B1 l m n=>⟨k,l.asB j,q _ H1 [] (.bl _) m λ _=>New.nil⟩⟩
noncomputable def gNeg:D->Option D
 | .int i=>some (.int (-i))
 | _=>none
theorem qaT0:OpS1 true (rU λ i=>.int (-i)) gNeg:=by
 intro F H v x B d Q r h q;cases x with
 | int i=>cases h;cases r;exact⟨i,rfl,q _ H [] (.int _) (λ _ _ z=>z) New.nil⟩
 | _=>cases h
theorem vneg(b:VV c X a oa fa):VV c X (.UnaryOp .USub a Y) true (f1 gNeg fa):=⟨PE.mono (pe_un qaQ4 b.h) (op_v (nw:=true) qaT0)⟩
theorem Bm{f:Str}{C:γ}{K:O0}(b:X.K=K)(d:VV c X a oa fa)(e:Cls K C)(n:qd5 K C f)(g:Ln a f X.env (eval a X.env)=eval a X.env:=by rfl):VV c X (.Attribute a f Y) oa (f1 (D.fld C f) fa):=by
 subst b;exact⟨PE.mono (qaJ6 d.h g) (op_v (nw:=false) (qaT1 e n))⟩
variable{rc:List V->Hp->VK->Prop}{gc:Ds->Option D}{x:Str}{p:Pos}{Z:List Ma}{fs:Ds->Option Ds}{tos:VTA}
def Bd(gc:Ds->Option D)(fs:Ds->Option Ds):FV:=λ ds=>(fs ds).bind gc
theorem vbi{id:String}(d:CallR X (.builtin id) rc)(h:OpS nw rc gc)(hm:X.mg x=none)(f:VVs c X (e::Z) own fs)(g:Gl X x:=by rfl)(i:Ll x=some (.builtin id):=by rfl)(j:x ≠ "__name__" := by decide)(a:N' x:=by decide)(k:Lf (e::Z) X.env=(false,eval e X.env)::Lf Z X.env:=by rfl)(b:((backTo Y (Lf Z X.env)).any λ x=>x.1)=false:=by rfl) :
   VV c X (.Call (.Name x p) (e::Z) [] Y) (nw||own) (Bd gc fs):=⟨PE.mono (cbi d hm f.h g i j a k b) (qaK6 h)⟩
theorem Hx{id:String}(d:CallR X (.type id) rc)(h:OpS nw rc gc)(hm:X.mg x=none)(f:VVs c X (e::Z) own fs)(g:Gl X x:=by rfl)(i:Ll x=some (.type id):=by rfl)(j:x ≠ "__name__" := by decide)(a:N' x:=by decide)(k:Lf (e::Z) X.env=(false,eval e X.env)::Lf Z X.env:=by rfl)(b:((backTo Y (Lf Z X.env)).any λ x=>x.1)=false:=by rfl) :
   VV c X (.Call (.Name x p) (e::Z) [] Y) (nw||own) (Bd gc fs):=⟨PE.mono (cty d hm f.h g i j a k b) (qaK6 h)⟩
theorem ebi{id:String}(f:CallR X (.builtin id) rc)(h:OpS true rc gc)(hm:X.mg x=none)(a:VOs c X (e::Z) tos)(g:Gl X x:=by rfl)(i:Ll x=some (.builtin id):=by rfl)(j:x ≠ "__name__" := by decide)(b:N' x:=by decide)(k:Lf (e::Z) X.env=(false,eval e X.env)::Lf Z X.env:=by rfl)(d:((backTo Y (Lf Z X.env)).any λ x=>x.1)=false:=by rfl) :
   VE c X (.Call (.Name x p) (e::Z) [] Y) (tcO gc tos):=⟨PE.mono (cbi f hm a.h g i j b k d) (opc_o a h),qaw5 a⟩
def gLst(xs:Ds):Option D:=gd (D.imms xs=true/\xs.length<=big) (.l false xs)
def gTup(xs:Ds):Option D:=gd (D.imms xs=true/\xs.length<=big) (.q xs)
theorem By(k:VVs c X Z own fs):VV c X (.List Z Y) true (Bd gLst fs):=by
 refine⟨PE.mono (qaz3 k.h) λ W H Q f=>?_⟩;obtain⟨F,l,A,d,S,e,q⟩:=f;obtain⟨m,n,e2⟩:=zA1.mp e;obtain⟨g,rfl⟩:=qt3 e2;refine⟨F,l,A,m,S,n,λ r H1 B1 i j s=>⟨by rw[i.len];exact zAd g.2 qi2,λ p a=>?_⟩⟩;exact q _ _ [p] (qy7 a (i.imms0 g.1)) (j.trans (Same.new a)) λ _=>⟨(qg9 a).one,λ b o e=>(qg9 a).new b o (j b o e)⟩
theorem Gf{k:Nat}(i:VVs c X Z own fs):VV c X (.Tuple Z k Y) true (Bd gTup fs):=by
 refine⟨PE.mono (qaJ0 i.h) λ W H Q a=>?_⟩;obtain⟨F,j,A,d,S,e,q⟩:=a;obtain⟨l,m,e2⟩:=zA1.mp e;obtain⟨b,rfl⟩:=qt3 e2;refine⟨F,j,A,l,S,m,λ o H1 B1 f n r=>⟨by rw[f.len];exact zAd b.2 qi2,λ p g=>?_⟩⟩;exact q _ _ [] (qae1 g (f.imms0 b.1)) (n.trans (Same.new g)) λ _=>New.nil
def FO:=Ds->Option (Option Int)
inductive qaQ1(c:Vc)(f:FO)(W:St)(H:Hp)(Q:Option Int->Hp->Prop):Prop
 | mk (F:γ->Prop) (ds:Ds) (A:List γ) (i:Option Int) (S:Qc c F H W ds A) (e:f ds=some i) (q:∀ H',Same H H'->Q i H'):qaQ1 c f W H Q
def qaU7(c:Vc)(f:FO):TO:=qaQ1 c f
structure VPO(c:Vc)(X:Cx)(e:Option Ma)(f:FO):Prop where
 h:PO X e (qaU7 c f)
theorem PO.mono{X:Cx}{e:Option Ma}{t t':TO}(h:PO X e t)(i:∀ W H Q,t' W H Q->t W H Q):PO X e t':=λ Eo s W H Q I q=>h Eo s W H Q I (i W H Q q)
noncomputable def foN:FO:=λ _=>some none
noncomputable def D.asI:D->Option Int
 | .int i=>some i
 | _=>none
theorem P'.asI{F:γ->Prop}{H:Hp}{d:D}{B:List γ}{k:Int}(r:P' F H v d B)(h:d.asI=some k):v=.int k:=by
 cases r<;>cases h<;>rfl
def foS(f:FV):FO:=λ ds=>(f ds).bind λ d=>d.asI.map some
theorem vpo_n:VPO c X none foN:=⟨PO.mono qas7 λ W H Q ⟨F,a,A,i,S,e,q⟩=>by cases e;exact q H λ _ _ z=>z⟩
theorem vpo_s(h:VV c X e own f):VPO c X (some e) (foS f):=by
 refine⟨PO.mono (qas6 h.h) λ W H Q a=>?_⟩;obtain⟨F,b,A,i,S,e,q⟩:=a;obtain⟨d,g,e2⟩:=zA1.mp e;obtain⟨j,k,rfl⟩:=zAh.mp e2;exact⟨F,b,A,d,S,g,λ v H' B r s _=>⟨j,r.asI k,q H' s⟩⟩
noncomputable def noT:D->Bool
 | .q _=>false
 | _=>true
def fsl(fa:FV)(lo hi:FO):FV:=λ ds=>(fa ds).bind λ x=>(lo ds).bind λ l=>(hi ds).bind λ h=>if noT x=true then gSl x l h else none
theorem vsl{lo hi:Option Ma}{fl n:FO}{p2:Pos}(s:VV c X a oa fa)(t:VPO c X lo fl)(u:VPO c X hi n):VV c X (.Subscript a (.Slice lo hi none p2) Y) true (fsl fa fl n):=by
 refine⟨PE.mono (qac6 qar4 s.h t.h u.h) λ W H Q g=>?_⟩;obtain⟨F,i,A,d,S,e,q⟩:=g;obtain⟨x,y,e⟩:=zA1.mp e;obtain⟨l,e2,e⟩:=zA1.mp e;obtain⟨h,B,e⟩:=zA1.mp e;by_cases j:noT x=true
 . rw[if_pos j] at e
   refine⟨F,i,A,x,S,y,λ v H1 B1 C k _=>⟨F,i,A,l,S.same k,e2,λ H2 m=>⟨F,i,A,h,(S.same k).same m,B,λ H3 p=>?_⟩⟩⟩;have f:=(k.trans m).trans p;refine os_sl ((C.same m).same p) e (λ G z=>by subst z;cases j) λ w H' B' D E r=>q w H' B' D (f.trans E) λ _=>⟨r.one,λ b o e=>r.new b o (f b o e)⟩
 rw[if_neg j] at e;cases e
def fget(fa a b:FV):FV:=λ ds=>(fa ds).bind λ x=>(a ds).bind λ y=>(b ds).bind λ z=>match x with
 | .dct _ kvs=>y.key.bind λ k=>gd (((Ex kvs k).getD z).imm=true) ((Ex kvs k).getD z)
 | _=>none
theorem vget{k z:Ma}{D E:Bool}{s t:FV}{apos cpos:Pos}(G:X.A.units+1 < cLine)(I:VV c X a oa fa)(J:VV c X k D s)(K:VV c X z E t)(m:M2 X a "get" apos k z cpos):VV c X (.Call (.Attribute a "get" apos) [k,z] [] cpos) true (fget fa s t):=by
 refine⟨PE.mono (qaz5 G I.h J.h K.h m) λ W H Q j=>?_⟩;obtain⟨F,l,A,d,S,e,q⟩:=j;obtain⟨x,L,e⟩:=zA1.mp e;obtain⟨y,e2,e⟩:=zA1.mp e;obtain⟨w,M,e⟩:=zA1.mp e;cases x with
 | dct z N =>
   obtain⟨n,O,e⟩:=zA1.mp e;obtain⟨g,rfl⟩:=qt3 e;refine⟨F,l,A,_,S,L,λ v H1 B1 P o _=>?_⟩;obtain⟨a,b,A2,rfl,B,R,T,_⟩:=P.dct_inv;refine⟨a,rfl,.inl ⟨b,.inl B⟩,F,l,A,y,S.same o,e2,λ u H2 B2 U i _=>⟨F,l,A,w,(S.same o).same i,M,λ V H3 B3 C p _=>?_⟩⟩;have r:=p _ _ (i _ _ B);refine⟨Gb b n,.inl ⟨b,n,.inl r,(U.key O),rfl⟩,?_⟩;have f:=(o.trans i).trans p;rcases qaF2 n R T with⟨n1,n2⟩ | ⟨vv,dd,BB,n1,n2,n3,n4⟩
   . rw[n1] at g q;rw[n2]
     have:=C.imm g
     subst this;exact q _ H3 [] C f λ _=>New.nil
   rw[n1] at g q;rw[n2]
   have:=n3.imm g
   subst this;exact q _ H3 [] ((n3.same i).same p) f λ _=>New.nil
 | _=>cases e
end
section
variable{c:Vc}{X:Cx}{a b e:Ma}{pos:Pos}{F F':γ->Prop}{H H':Hp}{σ:St}{ds:Ds}{A:List γ}
theorem Qc.put1{d:D}(S:Qc c F H σ ds A)(h:ds[i]? = some d)(e:d≠.u):∃(v:V)(B C:List γ),(σ++c.gv)[i]? = some (some v)/\P' F H v d B/\(∀ b,A.count b=B.count b+C.count b) /\
   ∀{F':γ->Prop}{H':Hp}{W:γ->Prop}(d':D)(B':List γ),Kp F H W F' H'->(∀ b∈C,¬ W b)->P' F' H' v d' B'->∃ A':List γ,Locs F' H' (σ++c.gv) (ds.set i d') A'/\∀ b,A'.count b=B'.count b+C.count b:=by
 have f:Ba ds i []=some d:=by unfold Ba;rw[h];rfl
 obtain⟨u,w,B,C,g,j,l,m,n⟩:=S.loc.place f e;cases j;refine⟨u,B,C,g,l,m,λ{F' H' W} d' B' k o r=>?_⟩;obtain⟨A',a,q2⟩:=n d' B' k o r;refine⟨A',?_,q2⟩;unfold Bj at a;rw[h] at a;exact a
theorem qt1{d:D}(h:d.known=true):d≠.u:=λ z=>by subst z;cases h
def tMv(i:Nat):VT:=λ ds Q _=>orF (rdN i ds) λ d=>Q d (ds.set i .u)
theorem emv(i:Nat){x:Str}(k:X.N[i]? = some x:=by rfl)(m:Vis X.env.scope x:=by first | exact P0 rfl | exact Pz (P0 rfl) | exact Pz (Pz rfl))(n:N' x:=by decide)(a:(x == ("__classdict__" : Str))=false:=by decide) :
   VE c X (.Name x pos) (tMv i):=by
 refine⟨λ Eo s σ H Q I g=>?_,λ p Q Q' r t u _=>qa5 λ d=>u _ _⟩;obtain⟨F,p,A,r,S,x,q⟩:=g;refine qs3 k m n a Eo s σ H Q I ?_;obtain⟨d,h,q⟩:=qa7.mp q;obtain⟨h,w⟩:=ql1.mp h;obtain⟨v,B,C,l,y,j,D⟩:=S.put1 h (qt1 w);have E:=qp7 k Eo σ H s I;rw[zAt E] at l;obtain⟨A',G,q2⟩:=D .u [] (Kp.same (λ _ _ z=>z)) (λ _ _ z=>z) (.u v);refine⟨v,l,q v H F B A' y ⟨G,S.ok.count λ b=>by rw[q2,j];simp,S.len,S.ag⟩ (S.ok.count λ b=>by rw[zA0,q2,j];simp) ?_⟩;exact⟨λ _ _ e _=>e,λ b o e z=>by rw[zA0,q2];have:=j b;simp;lia,λ _ f=>f,λ _ _ _ _ f=>f⟩
def tFz(i:Nat):VT:=λ ds Q _=>orF (rdN i ds) λ d=>Q d.fz (ds.set i d.fz)
theorem share{B C:List γ}(o:Ok F H A)(a:∀ b,A.count b=B.count b+C.count b)(d:∀ b∈B,∃ o,H b=some o/\Fk o=true){A':List γ}(c:∀ b,A'.count b=C.count b) :
   Ok (λ b=>F b∨b∈B) H A'/\Qb F H A (λ b=>F b∨b∈B) H A':=by
 refine⟨⟨λ b=>by rw[c];have:=o.sep b;have:=a b;lia,λ b f=>?_,λ b f=>?_⟩,λ _ _ e _=>e,λ b o e z=>by rw[c];have:=a b;lia,λ b f=>.inl f,λ b u e z f=>?_⟩
 . rw[c]
   rcases f with f | f
   . have:=o.fro b f;have:=a b;lia
   have:=qa9.mp f;have:=o.sep b;have:=a b;lia
 . rcases f with f | f
   . exact o.ex b f
   exact let ⟨u,e,_⟩:=d b f;⟨u,e⟩
 rcases f with f | f
 . exact f
 have:=qa9.mp f;have:=a b;lia
theorem efz(i:Nat){x:Str}(h:X.N[i]? = some x:=by rfl)(n:Vis X.env.scope x:=by first | exact P0 rfl | exact Pz (P0 rfl) | exact Pz (Pz rfl))(o:N' x:=by decide)(a:(x == ("__classdict__" : Str))=false:=by decide) :
   VE c X (.Name x pos) (tFz i):=by
 refine⟨λ Eo s σ H Q I e=>?_,λ p Q Q' r t u _=>qa5 λ d=>u _ _⟩;obtain⟨F,p,A,r,S,x,q⟩:=e;refine qs3 h n o a Eo s σ H Q I ?_;obtain⟨d,g,q⟩:=qa7.mp q;obtain⟨g,w⟩:=ql1.mp g;obtain⟨v,B,C,j,k,y,D⟩:=S.put1 g (qt1 w);have E:=qp7 h Eo σ H s I;rw[zAt E] at j;have l:=k.fz (F':=λ b=>F b∨b∈B) (λ b f=>.inl f) λ b G=>.inr G
 obtain⟨A',J,q2⟩:=D d.fz [] (Kp.more (H:=H) λ b f=>P0 f) (λ _ _ z=>z) l;obtain⟨m,K⟩:=share S.ok y k.cells (A':=A') (λ b=>by rw[q2];simp);exact⟨v,j,q v H _ [] A' l ⟨J,m,S.len,S.ag⟩ m K⟩
abbrev PF:=Ds->Option (Nat×List Nat)
inductive LiftP(c:Vc)(pf:PF)(σ:St)(H:Hp)(Q:VK):Prop
 | mk (F:γ->Prop) (ds:Ds) (A:List γ) (i:Nat) (p:List Nat) (d:D) (S:Qc c F H σ ds A) (e:pf ds=some (i,p)) (g:Ba ds i p=some d) (n:d≠.u) (q:∀ u w H',(σ++c.gv)[i]? = some (some u)->Walk H' u p w->Same H H'->Q w H'):LiftP c pf σ H Q
def Iy(c:Vc)(pf:PF):TE:=LiftP c pf
structure VP(c:Vc)(X:Cx)(e:Ma)(pf:PF):Prop where
 h:PE X e (Iy c pf)
theorem vpn(i:Nat){x:Str}(h:X.N[i]? = some x:=by rfl)(l:Vis X.env.scope x:=by first | exact P0 rfl | exact Pz (P0 rfl) | exact Pz (Pz rfl))(m:N' x:=by decide)(b:(x == ("__classdict__" : Str))=false:=by decide) :
   VP c X (.Name x pos) (λ _=>some (i,[])):=by
 refine⟨λ Eo s σ H Q I f=>?_⟩;obtain⟨F,t,A,j,p,d,S,e,n,g,q⟩:=f;refine qs3 h l m b Eo s σ H Q I ?_;cases e;obtain⟨u,w,B,C,k,o,v,y,D⟩:=S.loc.place n g;cases o;have r:=qp7 h Eo σ H s I;have a:=k;rw[zAt r] at a;exact⟨u,a,q u u H k rfl λ _ _ z=>z⟩
theorem qJ8:∀{p:List Nat}{d x:D}{q:List Nat},d.getP (p++q)=some x->∃ e,d.getP p=some e/\e.getP q=some x
 | [],d,x,q,h=>⟨d,rfl,h⟩
 | n::p,d,x,q,h=>by
   have h:D.getP d (n::(p++q))=some x:=h;unfold D.getP at h;cases a:d.kids[n]? with
   | none=>rw[a] at h;cases h
   | some y =>
     rw[a] at h;obtain⟨e,b,c⟩:=qJ8 (p:=p) h;exact⟨e,by unfold D.getP;rw[a];exact b,c⟩
theorem qJ9{p q:List Nat}{x:D}(h:Ba ds i (p++q)=some x):∃ e,Ba ds i p=some e/\e.getP q=some x:=by
 unfold Ba at h ⊢;cases a:ds[i]? with
 | none=>rw[a] at h;cases h
 | some d=>rw[a] at h;exact qJ8 h
theorem Walk.snoc:∀{p:List Nat}{u v w:V}{n:Nat},Walk H u p v->Lnk H v n w->Walk H u (p++[n]) w
 | [],_,_,w,n,h,l=>by cases h;exact⟨w,l,rfl⟩
 | m::p,_,_,_,_,⟨x,h1,h2⟩,l=>⟨x,h1,h2.snoc l⟩
theorem qaM7{d e:D}(h:d.getP [n]=some e):d≠.u:=λ z=>by subst z;cases (show (none:Option D)=some _ from h)
theorem Qc.place{p:List Nat}{d:D}{u:V}(S:Qc c F H σ ds A)(h:Ba ds i p=some d)(e:d≠.u)(f:(σ++c.gv)[i]? = some (some u))(g:Walk H u p w):∃(B C:List γ),P' F H w d B/\(∀ b,A.count b=B.count b+C.count b) /\
   ∀{F':γ->Prop}{H':Hp}{W:γ->Prop}(d':D)(B':List γ),Kp F H W F' H'->(∀ b∈C,¬ W b)->P' F' H' w d' B'->∃ A':List γ,Locs F' H' (σ++c.gv) (Bj ds i p d') A'/\∀ b,A'.count b=B'.count b+C.count b:=by
 obtain⟨n,o,B,C,a,j,k,l,m⟩:=S.loc.place h e;rw[f] at a;cases a;cases g.fn j;exact⟨B,C,k,l,m⟩
def D.fidx(C:γ)(f:Str):D->Option Nat
 | .ins _ C' fs=>if C'=C then fs.findIdx? (λ q=>f == q.1) else none
 | _=>none
theorem qC8{α:Type}:∀{fs:List (Str×α)}{f:Str}{n:Nat},fs.findIdx? (λ q=>f == q.1)=some n->∃ v,fs.lookup f=some v/\(fs.map (·.2))[n]? = some v
 | [],f,n,h=>by simp at h
 | (k,v)::r,f,n,h=>by
   rw[zCi] at h;rw[zAu];cases a:f == k with
   | true=>simp[a] at h;subst h;exact⟨v,rfl,rfl⟩
   | false =>
     simp[a] at h;obtain⟨m,b,rfl⟩:=h;obtain⟨w,c,d⟩:=qC8 (fs:=r) b;exact⟨w,c,by simpa using d⟩
theorem qT9{α β:Type}:∀{fs:List (Str×α)}{a:List (Str×β)}{f:Str},fs.map (·.1)=a.map (·.1)->fs.findIdx? (λ q=>f == q.1)=a.findIdx? (λ q=>f == q.1)
 | [],[],_,_=>rfl
 | [],_::_,_,h=>by simp at h
 | _::_,[],_,h=>by simp at h
 | (k,_)::r,(k',_)::r',f,h=>by
   have b:k=k':=by simp at h;exact h.1
   have c:r.map (·.1)=r'.map (·.1):=by simp at h;simpa using h.2
   subst b;rw[zCi,zCi,qT9 c]
def pfFld(C:γ)(f:Str)(pf:PF):PF:=λ ds=>(pf ds).bind λ q=>(Ba ds q.1 q.2).bind λ d=>(d.fidx C f).map λ n=>(q.1,q.2++[n])
theorem Ho{f:Str}{C:γ}{K:O0}{pf:PF}(G:X.K=K)(l:VP c X a pf)(I:Cls K C)(J:qd5 K C f)(L:Ln a f X.env (eval a X.env)=eval a X.env:=by rfl):VP c X (.Attribute a f pos) (pfFld C f pf):=by
 subst G;refine⟨PE.mono (qaJ6 l.h L) λ σ H Q m=>?_⟩;obtain⟨F,M,A,i,p,d,S,e,N,Z,q⟩:=m;obtain⟨⟨j,O⟩,P,e⟩:=zA1.mp e;obtain⟨t,e2,e⟩:=zA1.mp e;obtain⟨n,x,e⟩:=zAh.mp e;cases e;obtain⟨R,g1,g2⟩:=qJ9 N;rw[e2] at g1;cases g1;have b:=qaM7 g2;refine⟨F,M,A,j,O,t,S,P,e2,b,λ u w H' y D s=>?_⟩;obtain⟨B,C0,r,_,_⟩:=(S.same s).place e2 b y D;cases t with
 | ins z C' T =>
   have g:(if C'=C then T.findIdx? (λ q=>f == q.1) else none)=some n:=x;by_cases o:C'=C
   . rw[if_pos o] at g
     obtain⟨a,E,k,_,rfl,l,U,rs,_⟩:=r.ins_inv;rw[<- qT9 U] at g;obtain⟨v,V,Y⟩:=qC8 g;subst o;exact⟨a,C',E,k,v,rfl,l,I,J,V,q u v H' y (D.snoc ⟨a,rfl,.inr (.inr (.inr ⟨C',E,k,l,Y⟩))⟩) s⟩
   rw[if_neg o] at g;cases g
 | _=>cases x
def pfIx(pf:PF)(fb:FV):PF:=λ ds=>(pf ds).bind λ q=>(Ba ds q.1 q.2).bind λ d=>d.elems.bind λ ys=>(fb ds).bind λ y=>y.asI.bind λ k=>(ixN ys.length k).map λ n=>(q.1,q.2++[n])
theorem vpix{pf:PF}{ob:Bool}{fb:FV}(f:VP c X a pf)(N:VV c X b ob fb)(O:qW2 b:=by exact λ _ _=>rfl):VP c X (.Subscript a b pos) (pfIx pf fb):=by
 refine⟨PE.mono (Ka qb3 f.h N.h O) λ σ H Q C=>?_⟩;obtain⟨F,J,A,i,p,d,S,e,P,hd,q⟩:=C;obtain⟨⟨j,R⟩,T,e⟩:=zA1.mp e;obtain⟨K,e2,e⟩:=zA1.mp e;obtain⟨U,D,e⟩:=zA1.mp e;obtain⟨y,V,e⟩:=zA1.mp e;obtain⟨k,W,e⟩:=zA1.mp e;obtain⟨n,E,e⟩:=zAh.mp e;cases e;obtain⟨Y,g1,g2⟩:=qJ9 P;rw[e2] at g1;cases g1;have o:=qaM7 g2;refine⟨F,J,A,j,R,K,S,T,e2,o,λ u w H1 G Z s=>?_⟩;refine⟨F,J,A,y,S.same s,V,λ v2 H2 B2 r2 L _=>?_⟩;have g:=s.trans L;have l:=Z.same L;obtain⟨B,C0,r,_,_⟩:=(S.same g).place e2 o G l;cases r2.asI W;have M:n < U.length:=(qS8 E).2.1;cases K with
 | l z I =>
   cases D;obtain⟨a,m,A3,rfl,f,t,_⟩:=r.lst_inv;obtain⟨vn,v⟩:∃ x,m[n]? = some x:=⟨_,zBm (by rw[t.len];exact M)⟩
   refine .inl ⟨a,m,k,_,rfl,rfl,.inl (.inl f),?_,q u _ H2 G (l.snoc ⟨a,rfl,.inr (.inl ⟨m,f,v⟩)⟩) g⟩;unfold atI;rw[t.len,E];exact v
 | q I =>
   cases D;obtain⟨a,m,rfl,f,t⟩:=r.tup_inv;obtain⟨vn,v⟩:∃ x,m[n]? = some x:=⟨_,zBm (by rw[t.len];exact M)⟩
   refine .inr (.inl ⟨a,m,k,_,rfl,rfl,.inl (.inl f),?_,q u _ H2 G (l.snoc ⟨a,rfl,.inl ⟨m,f,v⟩⟩) g⟩);unfold atI;rw[t.len,E];exact v
 | _=>cases D
end
inductive Pl where
 | no
 | sl (i:Nat)
 | pl (i:Nat) (p:List Nat) (w:V)
abbrev VTB:=Ds->(Ds->List Pl->Ds->Prop)->XKd->Prop
inductive Gr(a:List (Option V)):List V->List Pl->Prop
 | nil:Gr a [] []
 | no {v:V} {vs:List V} {ps:List Pl} (t:Gr a vs ps):Gr a (v::vs) (.no::ps)
 | sl {v:V} {vs:List V} {ps:List Pl} {i:Nat} (h:a[i]? = some (some v)) (t:Gr a vs ps):Gr a (v::vs) (.sl i::ps)
 | so {v:V} {vs:List V} {ps:List Pl} {i:Nat} {p:List Nat} (t:Gr a vs ps):Gr a (v::vs) (.pl i p v::ps)
inductive LiftA(c:Vc)(t:VTB)(a:St)(H:Hp)(Q:List V->Hp->Prop):Prop
 | mk (F:γ->Prop) (ds:Ds) (A:List γ) (xe:XKd) (S:Qc c F H a ds A) (x:Xc c xe F H A) (q:t ds (λ xs pls ds'=>∀ vs H' F' T A',P3 F' H' vs xs T->Gr (a++c.gv) vs pls->Qc c F' H' a ds' A'->Ok F' H' (T++A')->Qb F H A F' H' (T++A')->Q vs H') xe):LiftA c t a H Q
def Gw(c:Vc)(t:VTB):TA:=LiftA c t
structure VAs(c:Vc)(X:Cx)(es:List Ma)(t:VTB):Prop where
 h:PA X es (Gw c t)
 m:∀ ds (Q Q':Ds->List Pl->Ds->Prop) (xe xe':XKd),(∀ d p ds',Q d p ds'->Q' d p ds')->(∀ x ds',xe x ds'->xe' x ds')->t ds Q xe->t ds Q' xe'
section
variable{c:Vc}{X:Cx}{e:Ma}{es:List Ma}{ta:VT}{tr:VTB}{pf:PF}{F F':γ->Prop}{H H':Hp}{σ:St}{ds:Ds}{A:List γ}
def A5:VTB:=λ ds Q _=>Q [] [] ds
theorem Ad:VAs c X [] A5:=⟨PA.mono qx9 λ σ H Q ⟨F,a,A,b,S,x,q⟩=>q [] H F [] A .nil .nil S S.ok Qb.refl,λ a Q Q' b d e _=>e _ _ _⟩
def tbV(ta:VT)(tr:VTB):VTB:=λ ds Q xe=>ta ds (λ x ds1=>tr ds1 (λ xs ps a=>Q (x::xs) (.no::ps) a) xe) xe
theorem vaV(f:VE c X e ta)(g:VAs c X es tr)(w:Lf (e::es) X.env=(false,eval e X.env)::Lf es X.env:=by rfl):VAs c X (e::es) (tbV ta tr):=by
 refine⟨PA.mono (qf2 f.h g.h w) λ σ H Q i=>?_,λ o Q Q' j y B p=>f.m _ _ _ _ _ (λ d a=>g.m _ _ _ _ _ (λ C D k=>B _ _ _) p) p⟩;obtain⟨F,o,A,j,S,x,q⟩:=i;refine⟨F,o,A,j,S,x,f.m _ _ _ _ _ (λ E a q v H1 F1 T A1 r S1 s t=>?_) (λ _ _ z=>z) q⟩;have l:Qb F H A F1 H1 A1:=t.count λ b=>by rw[zA0];lia
 refine⟨F1,a,A1,j,S1,x.step l,g.m _ _ _ _ _ (λ C D k q G H2 F2 T2 A2 I J S2 K u=>?_) (λ _ _ z=>z) q⟩;have n:P' F2 H2 v E T:=r.keep (u.kp S1.ok S1.loc.cells) λ b L O=>by
   have:=s.sep b
   rw[zA0] at this
   have:=qa9.mp L
   lia
 obtain⟨M,N⟩:=u.frame s r.cells K;exact q (v::G) H2 F2 (T++T2) A2 (.cons n I) (.no J) S2 (by rw[zAr];exact M) (by rw[zAr];exact t.trans N)
def tbB(pf:PF)(tr:VTB):VTB:=λ ds Q xe=>orF (pf ds) λ q=>orF (Ba ds q.1 q.2) λ d=>d.known=true/\∀ w,tr (Bj ds q.1 q.2 (.hole w)) (λ xs ps a=>Q (d::xs) (.pl q.1 q.2 w::ps) a) xe
theorem vaB(I:VP c X e pf)(a:VAs c X es tr)(J:Lf (e::es) X.env=(false,eval e X.env)::Lf es X.env:=by rfl):VAs c X (e::es) (tbB pf tr):=by
 refine⟨PA.mono (qf2 I.h a.h J) λ σ H Q g=>?_,λ j Q Q' v K L M=>qa5 λ z=>qa5 λ d=>Ox λ h w=>a.m _ _ _ _ _ (λ N O k=>L _ _ _) M (h w)⟩;obtain⟨F,j,A,v,S,x,q⟩:=g;obtain⟨⟨i,p⟩,P,q⟩:=qa7.mp q;obtain⟨d,e2,y,q⟩:=qa7.mp q;refine⟨F,j,A,i,p,d,S,P,e2,qt1 y,λ u w H1 R T s=>?_⟩;obtain⟨B,C,r,D,U⟩:=(S.same s).place e2 (qt1 y) R T;obtain⟨A1,V,q2⟩:=U (.hole w) [] (Kp.same (F:=F) λ _ _ z=>z) (λ _ _ z=>z) (.hole w);have l:Ok F H1 (B++A1):=(S.same s).ok.count λ b=>by rw[zA0,q2,D];simp
 have E:Qb F H A F H1 (B++A1):=⟨λ b o e _=>s b o e,λ b o e z=>by rw[zA0,q2];have:=D b;simp;lia,λ _ f=>f,λ _ _ _ _ f=>f⟩
 have S1:Qc c F H1 σ (Bj j i p (.hole w)) A1:=⟨V,l.right,S.len,S.ag⟩
 have n:Qb F H A F H1 A1:=E.count λ b=>by rw[zA0];lia
 refine⟨F,_,A1,v,S1,x.step n,a.m _ _ _ _ _ (λ N O k q W H2 F2 T2 A2 Y Z S2 o2 G=>?_) (λ _ _ z=>z) (q w)⟩;have t:P' F2 H2 w d B:=r.keep (G.kp S1.ok S1.loc.cells) λ b hb hc=>by
   have:=l.sep b
   rw[zA0] at this
   have:=qa9.mp hb
   lia
 obtain⟨o3,s3⟩:=G.frame l r.cells o2;exact q (w::W) H2 F2 (B++T2) A2 (.cons t Y) (.so Z) S2 (by rw[zAr];exact o3) (by rw[zAr];exact E.trans s3)
def tbN(i:Nat)(tr:VTB):VTB:=λ ds Q xe=>(rdN i ds).isSome=true/\tr ds (λ xs ps ds1=>orF (rdN i ds1) λ d=>Q (d::xs) (.sl i::ps) (ds1.set i .u)) xe
theorem vaN(i:Nat){x:Str}{p:Pos}(e:VAs c X es tr)(E:Lf (.Name x p::es) X.env=(false,eval (.Name x p) X.env)::Lf es X.env:=by rfl)(t:X.N[i]? = some x:=by rfl)(G:Vis X.env.scope x:=by first | exact P0 rfl | exact Pz (P0 rfl) | exact Pz (Pz rfl))(J:N' x:=by decide)(f:(x == ("__classdict__" : Str))=false:=by decide) :
   VAs c X (.Name x p::es) (tbN i tr):=by
 refine⟨λ pos Eo s σ H Q I g=>?_,λ u Q Q' w K L M=>Ox (e.m _ _ _ _ _ (λ O P j=>qa5 λ d=>L _ _ _) M)⟩;obtain⟨F,u,A,w,S,x,k,q⟩:=g;refine qf2 (qs3 t G J f) e.h E pos Eo s σ H Q I ?_;have y:=qp7 t Eo σ H s I;obtain⟨d0,R⟩:=zB7.mp k;obtain⟨v,B0,a,_,_⟩:=S.name y R;refine⟨v,a,F,u,A,w,S,x,e.m _ _ _ _ _ (λ O P j q T H2 F2 T2 A2 U V S2 D W=>?_) (λ _ _ z=>z) q⟩;obtain⟨d,l,q⟩:=qa7.mp q;obtain⟨l,Y⟩:=ql1.mp l;obtain⟨v',B,C,n,Z,h3,h4⟩:=S2.put1 l (qt1 Y);have o:=n;rw[zAt y,a] at n;cases n;obtain⟨A3,q1,q2⟩:=h4 .u [] (Kp.same (F:=F2) λ _ _ z=>z) (λ _ _ z=>z) (.u v);have r:∀ b,((B++T2)++A3).count b<=(T2++A2).count b:=λ b=>by simp only[zA0,q2,h3];simp;lia
 exact q (v::T) H2 F2 (B++T2) A3 (.cons Z U) (.sl o V) ⟨q1,(D.count r).right,S.len,S.ag⟩ (D.count r) (W.count r)
def Au:List Pl->Ds->Ds->Option Ds
 | [],_,ds=>some ds
 | .no::ps,_::ys,ds=>Au ps ys ds
 | .sl i::ps,y::ys,ds=>Au ps ys (ds.set i y)
 | .pl i p v::ps,y::ys,ds=>match Ba ds i p with
   | some (.hole w)=>if w=v then Au ps ys (Bj ds i p y) else none
   | _=>none
 | _::_,[],_=>none
theorem qD4{τ:List (Option V)}{ds:Ds}{C B:List γ}{y:D}(L:Locs F H τ ds C)(hi:τ[i]? = some (some v))(r:P' F H v y B):∃ A':List γ,Locs F H τ (ds.set i y) A'/\∀ b,A'.count b<=B.count b+C.count b:=by
 have s:=L.len;have g:i < τ.length:=(zA4.mp hi).1;obtain⟨d,h⟩:∃ d,ds[i]? = some d:=⟨_,zBm (by lia)⟩
 obtain⟨σ1,o,σ2,a,c,A1,B0,A2,e,e2,j,k,m,n,t,p⟩:=L.split h;have f:τ[i]? = some o:=by rw[e];exact qC6 j
 rw[hi] at f;cases f;have q:ds.set i y=a++y::c:=by
   have:=congrArg (λ l=>l.set i y) e2
   rw[this,qp1 k]
 exact⟨A1++(B++A2),by rw[e,q];exact n.append (.so r p),λ b=>by rw[m];simp only[zA0];lia⟩
theorem qt8{pls:List Pl}{ys ds a:Ds}{σ:List (Option V)}{B C:List γ}{more:List V}(e:Gr σ vs pls)(r:P3 F H (vs++more) ys B)(L:Locs F H σ ds C)(h:Au pls ys ds=some a):∃ A':List γ,Locs F H σ a A'/\∀ b,A'.count b<=B.count b+C.count b:=by
 induction e generalizing ys ds B C with
 | nil =>
   have h:some ds=some a:=by cases ys<;>exact h
   cases h;exact⟨C,L,λ b=>by lia⟩
 | no e c =>
   cases r with
   | @cons _ _ A1 _ _ B1 r1 t =>
     obtain⟨A',d,q2⟩:=c t L h;exact⟨A',d,λ b=>by rw[zA0];have:=q2 b;lia⟩
 | sl k e c =>
   cases r with
   | @cons _ _ A1 _ _ B1 r1 t =>
     obtain⟨A2,d,q2⟩:=qD4 L k r1;obtain⟨A',f,g⟩:=c t d h;exact⟨A',f,λ b=>by rw[zA0];have:=g b;have:=q2 b;lia⟩
 | @so v _ _ i p e c =>
   cases r with
   | @cons _ y A1 _ _ B1 r1 t =>
     unfold Au at h;split at h
     . rename_i w hg
       by_cases j:w=v
       . rw[if_pos j] at h
         subst j;obtain⟨u,o,B2,C2,q,s,l,m,n⟩:=L.place hg (by intro z;cases z);cases l;obtain⟨A2,d,q2⟩:=n y A1 (Kp.same (F:=F) λ _ _ z=>z) (λ _ _ z=>z) r1;obtain⟨A',f,g⟩:=c t d h;refine⟨A',f,λ b=>?_⟩
         have:=g b
         have:=q2 b
         have:=m b
         simp only[Nc,zA0] at *
         lia
       rw[if_neg j] at h;cases h
     cases h
abbrev VSp:=Ds->DK->XKd->Prop
inductive LiftF(s:VSp)(vs:List V)(H:Hp)(Q:VK)(E:XK):Prop
 | mk (F:γ->Prop) (ds:Ds) (A:List γ) (r:P3 F H vs ds A) (o:Ok F H A) (q:s ds (λ d ys=>∀ v H' F' T A',P' F' H' v d T->P3 F' H' vs ys A'->Ok F' H' (T++A')->Qb F H A F' H' (T++A')->Q v H')
   (λ x ys=>∀ e H' F' A',RepX F' H' e x->P3 F' H' vs ys A'->Ok F' H' A'->Qb F H A F' H' A'->E (.ref e) none H')):LiftF s vs H Q E
def Hq(s:VSp):Sp:=LiftF s
def Bz(s:VSp):Prop:=∀ ds (Q Q':DK) (xe xe':XKd),(∀ d a,Q d a->Q' d a)->(∀ x a,xe x a->xe' x a)->s ds Q xe->s ds Q' xe'
def qk5(s:VSp)(dv:Ds)(tr:VTB):VT:=λ ds Q xe=>tr ds (λ xs ps ds1=>s (xs++dv) (λ d ys=>orF (Au ps ys ds1) λ a=>Q d a) (λ x ys=>orF (Au ps ys ds1) λ a=>xe x a)) xe
theorem qaq2{s:VSp}{dv:Ds}(f:Bz s)(g:VAs c X es tr):∀ ds (Q Q':DK) (xe b:XKd),(∀ d a,Q d a->Q' d a)->(∀ x a,xe x a->b x a)->qk5 s dv tr ds Q xe->qk5 s dv tr ds Q' b :=
 λ ds Q Q' xe b h e=>g.m _ _ _ _ _ (λ k l i=>f _ _ _ _ _ (λ d j=>qa5 λ z=>h _ _) (λ x j=>qa5 λ z=>e _ _)) e
def Jn(dvs:List V)(dv:Ds):Prop:=∀ F H,P3 F H dvs dv []
theorem qz6:Jn [] []:=λ _ _=>.nil
theorem qap6:Jn [.non] [.non]:=λ _ _=>.cons (A:=[]) (B:=[]) .non .nil
theorem qaP1{s:VSp}{dvs:List V}{dv:Ds}(G:Jn dvs dv)(I:Bz s)(J:VAs c X es tr):∀ σ H Q,Bi c (qk5 s dv tr) σ H Q->Jz (Hq s) dvs c.E (Gw c tr) σ H Q:=by
 rintro σ H Q ⟨F,K,A,L,S,x,q⟩;refine⟨F,K,A,L,S,x,J.m _ _ _ _ _ (λ B U h q M H1 F1 T A1 N C S1 a D=>?_) (λ _ _ z=>z) q⟩;have rall:P3 F1 H1 (M++dvs) (B++dv) (T++[]):=N.append (G F1 H1);rw[zAg] at rall;refine⟨F1,B++dv,T,rall,a.left,I _ _ _ _ _ (λ d O q v H2 F2 T2 A2 P l n i=>?_) (λ y O q e H2 F2 A2 R l n i=>?_) q⟩
 . obtain⟨j,o,q⟩:=qa7.mp q
   have f:Ok F1 H1 (A1++T):=a.count λ b=>by simp only[zA0];lia
   obtain⟨p,r⟩:=i.frame f S1.loc.cells n;have L1:Locs F2 H2 (σ++c.gv) h A1:=S1.loc.keep (i.kp a.left rall.cells) λ b t g=>by
     have:=a.sep b
     rw[zA0] at this
     have:=qa9.mp t
     lia
   obtain⟨A3,u,q2⟩:=qt8 C l L1 o;have g:∀ b,(T2++A3).count b<=(A1++(T2++A2)).count b:=λ b=>by simp only[zA0];have:=q2 b;lia
   have k:Ok F2 H2 (T2++A3):=p.count g;have w:Qb F H A F2 H2 (T2++A3):=(D.trans (r.pre λ b=>by simp only[zA0];lia)).count g;exact q v H2 F2 T2 A3 P ⟨u,k.right,S.len,S.ag⟩ k w
 obtain⟨j,o,q⟩:=qa7.mp q;have f:Ok F1 H1 (A1++T):=a.count λ b=>by simp only[zA0];lia
 obtain⟨p,r⟩:=i.frame f S1.loc.cells n;have L1:Locs F2 H2 (σ++c.gv) h A1:=S1.loc.keep (i.kp a.left rall.cells) λ b t g=>by
   have:=a.sep b
   rw[zA0] at this
   have:=qa9.mp t
   lia
 obtain⟨A3,u,q2⟩:=qt8 C l L1 o;have g:∀ b,A3.count b<=(A1++A2).count b:=λ b=>by simp only[zA0];have:=q2 b;lia
 have k:Ok F2 H2 A3:=p.count g;have w:Qb F H A F2 H2 A3:=(D.trans (r.pre λ b=>by simp only[zA0];lia)).count g;exact x y j σ e H2 F2 A3 q R ⟨u,k,S.len,S.ag⟩ w
end
structure Gi(cm:Bool)(P:L7)(w:L9)(K:O0)(mg:Str->Option V')(base:Heap)(k:Nat)(f:γ)(fd:ε)(ps:List Str)(s:VSp):Prop where
 ok:Ez cm P w K mg base (CX1 P w) k f fd ps (Hq s)
 m:Bz s
abbrev VFn:=Gi true
section
variable{c:Vc}{X:Cx}{a e:Ma}{es:List Ma}{tr:VTB}{F F1:γ->Prop}{H H1:Hp}{σ:St}{ds ds1:Ds}{A A1 T:List γ}{pos p apos:Pos}{x qual m:Str}{st:Mb}{f C:γ}{fd:ε}{ps:List Str}{k:Nat}{s:VSp}{dvs:List V}{dv:Ds}
theorem Ak(D:Df X.K X.mg x qual st f fd ps)(G:Gi cm X.prog X.w X.K X.mg X.base k f fd ps s)(i:Lands X c.E)(j:Qd cm k X.A)(a:VAs c X (e::es) tr)(l:Gl X x:=by rfl)(d:N' x:=by decide)(n:Lf (e::es) X.env=(false,eval e X.env)::Lf es X.env:=by rfl)(g:(backTo pos (Lf es X.env)).any (·.1)=false:=by rfl):VE c X (.Call (.Name x p) (e::es) [] pos) (qk5 s [] tr) :=
 ⟨PE.mono (qas9 G.ok j l D.m D.F.kp D.b .nil i.passes a.h d n g) (qaP1 qz6 G.m a),qaq2 G.m a⟩
theorem qaP2{xs:Ds}{pls:List Pl}{xe:XKd}{K:DK}(B:Jn dvs dv)(C:Bz s)(S:Qc c F H σ ds A)(x:Xc c xe F H A)(r1:P3 F1 H1 vs xs T)(w:Gr (σ++c.gv) vs pls)(S1:Qc c F1 H1 σ ds1 A1)(f:Ok F1 H1 (T++A1))(z:Qb F H A F1 H1 (T++A1))(D:∀ d i,K d i->∀ v H' F' T A',P' F' H' v d T->Qc c F' H' σ i A'->Ok F' H' (T++A')->Qb F H A F' H' (T++A')->Q v H')(q:s (xs++dv) (λ d ys=>orF (Au pls ys ds1) λ a=>K d a) (λ x ys=>orF (Au pls ys ds1) λ a=>xe x a)):Hq s (vs++dvs) H1 Q (c.E σ):=by
 have rall:P3 F1 H1 (vs++dvs) (xs++dv) (T++[]):=r1.append (B F1 H1);rw[zAg] at rall;refine⟨F1,xs++dv,T,rall,f.left,C _ _ _ _ _ (λ d ys q v H2 F2 T2 A2 G l m j=>?_) (λ y ys q e H2 F2 A2 I l m j=>?_) q⟩
 . obtain⟨a,n,q⟩:=qa7.mp q
   have g:Ok F1 H1 (A1++T):=f.count λ b=>by simp only[zA0];lia
   obtain⟨o,p⟩:=j.frame g S1.loc.cells m;have L1:Locs F2 H2 (σ++c.gv) ds1 A1:=S1.loc.keep (j.kp f.left rall.cells) λ b r h=>by
     have:=f.sep b
     rw[zA0] at this
     have:=qa9.mp r
     lia
   obtain⟨A3,t,q2⟩:=qt8 w l L1 n;have h:∀ b,(T2++A3).count b<=(A1++(T2++A2)).count b:=λ b=>by simp only[zA0];have:=q2 b;lia
   have k:Ok F2 H2 (T2++A3):=o.count h;have u:Qb F H A F2 H2 (T2++A3):=(z.trans (p.pre λ b=>by simp only[zA0];lia)).count h;exact D d a q v H2 F2 T2 A3 G ⟨t,k.right,S.len,S.ag⟩ k u
 obtain⟨a,n,q⟩:=qa7.mp q;have g:Ok F1 H1 (A1++T):=f.count λ b=>by simp only[zA0];lia
 obtain⟨o,p⟩:=j.frame g S1.loc.cells m;have L1:Locs F2 H2 (σ++c.gv) ds1 A1:=S1.loc.keep (j.kp f.left rall.cells) λ b r h=>by
   have:=f.sep b
   rw[zA0] at this
   have:=qa9.mp r
   lia
 obtain⟨A3,t,q2⟩:=qt8 w l L1 n;have h:∀ b,A3.count b<=(A1++A2).count b:=λ b=>by simp only[zA0];have:=q2 b;lia
 have k:Ok F2 H2 A3:=o.count h;have u:Qb F H A F2 H2 A3:=(z.trans (p.pre λ b=>by simp only[zA0];lia)).count h;exact x y a σ e H2 F2 A3 q I ⟨t,k,S.len,S.ag⟩ u
def D.isM(C:γ)(m:Str):D->Bool
 | .ins _ C' fs=>decide (C'=C)&&(fs.lookup m).isNone
 | _=>false
theorem qC4{α β:Type}:∀{fs:List (Str×α)}{a:List (Str×β)}{f:Str},fs.map (·.1)=a.map (·.1)->(fs.lookup f).isNone=(a.lookup f).isNone
 | [],[],_,_=>rfl
 | [],_::_,_,h=>by simp at h
 | _::_,[],_,h=>by simp at h
 | (k,_)::r,(k',_)::r',f,h=>by
   have b:k=k':=by simp at h;exact h.1
   have c:r.map (·.1)=r'.map (·.1):=by simp at h;simpa using h.2
   subst b;rw[zAu,zAu];cases f == k with
   | true=>rfl
   | false=>exact qC4 c
theorem P'.isM{d:D}{B:List γ}(r:P' F H v d B)(h:d.isM C m=true):∃ a dx fs,v=.ref a/\H a=some (.ins C dx fs)/\fs.lookup m=none:=by
 cases d with
 | ins z C' f =>
   have h:=zAi.mp h;obtain⟨a,dx,b,A,rfl,g,e,i,_⟩:=r.ins_inv
   have:=zAb h.1
   subst this;refine⟨a,dx,b,rfl,g,?_⟩;have c:=h.2;rw[<- qC4 e] at c;exact Option.isNone_iff_eq_none.mp c
 | _=>cases h
def qz8(C:γ)(m:Str)(s:VSp)(dv:Ds)(i:Nat)(tr:VTB):VT:=λ ds Q xe=>(orF (rdN i ds) λ d=>d.isM C m=true)/\tr ds (λ xs ps ds1=>orF (rdN i ds1) λ d=>s (d::(xs++dv)) (λ r ys=>orF (Au (.sl i::ps) ys (ds1.set i .u)) λ a=>Q r a) (λ x ys=>orF (Au (.sl i::ps) ys (ds1.set i .u)) λ a=>xe x a)) xe
theorem qI4(f:Bz s)(g:VAs c X es tr):∀ ds (Q Q':DK) (xe b:XKd),(∀ d a,Q d a->Q' d a)->(∀ x a,xe x a->b x a)->qz8 C m s dv i tr ds Q xe->qz8 C m s dv i tr ds Q' b :=
 λ ds Q Q' xe b h e=>Ox (g.m _ _ _ _ _ (λ l n j=>qa5 λ d=>f _ _ _ _ _ (λ d k=>qa5 λ z=>h _ _) (λ x k=>qa5 λ z=>e _ _)) e)
theorem qae5{σ:St}{H:Hp}(w:Jn dvs dv)(y:Bz s)(D:VAs c X es tr)(hi:i < σ.length)(q:Bi c (qz8 C m s dv i tr) σ H Q):J0 C m (Hq s) dvs c.E (G7 i) (Gw c tr) σ H Q:=by
 obtain⟨F,G,A,I,S,x,f,q⟩:=q;obtain⟨Z,J,f⟩:=qa7.mp f;obtain⟨v,B0,e,K,_⟩:=S.name hi J;obtain⟨a,L,M,rfl,g,j⟩:=K.isM f;refine⟨.ref a,e,a,L,M,rfl,g,j,F,G,A,I,S,x,D.m _ _ _ _ _ (λ r ps N q t H2 F2 T2 A2 O P S2 u R=>?_) (λ _ _ z=>z) q⟩;obtain⟨d,k,q⟩:=qa7.mp q;obtain⟨k,l⟩:=ql1.mp k;obtain⟨v',B,C0,n,T,U,V⟩:=S2.put1 k (qt1 l);have o:=n;rw[zAt hi,e] at n;cases n;obtain⟨A3,W,q2⟩:=V .u [] (Kp.same (F:=F2) λ _ _ z=>z) (λ _ _ z=>z) (.u _);have p:∀ b,((B++T2)++A3).count b<=(T2++A2).count b:=λ b=>by simp only[zA0,q2,U];simp;lia
 exact qaP2 (vs:=.ref a::t) (xs:=d::r) w y S x (.cons T O) (.sl o P) ⟨W,(u.count p).right,S.len,S.ag⟩ (u.count p) (R.count p) (λ d Y h=>h) q
theorem qm5{pl:Sem Bool}(i:Nat){xn:Str}{p0:Pos}(D:Md X.K C m qual st f fd ps)(n:Cls X.K C)(G:Gi cm X.prog X.w X.K X.mg X.base k f fd ps s)(o:Lands X c.E)(p:Qd cm k X.A)(a:VAs c X (e::es) tr)(l:X.N[i]? = some xn:=by rfl)(r:Vis X.env.scope xn:=by first | exact P0 rfl | exact Pz (P0 rfl) | exact Pz (Pz rfl))(t:N' xn:=by decide)(d:(xn == ("__classdict__" : Str))=false:=by decide)(g:Lf (e::es) X.env=(false,eval e X.env)::Lf es X.env:=by rfl)(j:(backTo pos (Lf es X.env)).any (·.1)=false:=by rfl)(u:eval (.Call (.Attribute (.Name xn p0) m apos) (e::es) [] pos) X.env=(do
     let ov <- eval (.Name xn p0) X.env
     standAt apos.atName
     let (f,first) <- holding [ov] (getMethod ov m pl)
     callWith pos f first (backTo pos (Lf (e::es) X.env)) (backToKw pos (Lu [] X.env))):=by rfl):VE c X (.Call (.Attribute (.Name xn p0) m apos) (e::es) [] pos) (qz8 C m s [] i tr) :=
 ⟨λ Eo s σ H Q I q=>qaJ3 (qs3 l r t d) n D.me G.ok p D.b .nil o.passes a.h g j u Eo s σ H Q I (qae5 qz6 G.m a (qp7 l Eo σ H s I) q),qI4 G.m a⟩
theorem qn0{pl:Sem Bool}(i:Nat){xn:Str}{p0:Pos}(D:Md X.K C m qual st f fd ps)(j:Cls X.K C)(G:Gi cm X.prog X.w X.K X.mg X.base k f fd ps s)(l:Lands X c.E)(n:Qd cm k X.A)(g:X.N[i]? = some xn:=by rfl)(d:Vis X.env.scope xn:=by first | exact P0 rfl | exact Pz (P0 rfl) | exact Pz (Pz rfl))(o:N' xn:=by decide)(e:(xn == ("__classdict__" : Str))=false:=by decide)(p:eval (.Call (.Attribute (.Name xn p0) m apos) [] [] pos) X.env=(do
     let ov <- eval (.Name xn p0) X.env
     standAt apos.atName
     let (f,first) <- holding [ov] (getMethod ov m pl)
     callWith pos f first (backTo pos (Lf [] X.env)) (backToKw pos (Lu [] X.env))):=by rfl):VE c X (.Call (.Attribute (.Name xn p0) m apos) [] [] pos) (qz8 C m s [] i A5) :=
 ⟨λ Eo h σ H Q I q=>qaz2 (qs3 g d o e) j D.me G.ok n D.b .nil l.passes p Eo h σ H Q I (by
   obtain⟨v,d,a,r,t,u,x,y,F2,z,A2,B,S2,F,q2⟩:=qae5 (c:=c) (X:=X) qz6 G.m Ad (qp7 g Eo σ H h I) q;exact⟨v,d,a,r,t,u,x,y,q2 [] H F2 [] A2 .nil .nil S2 S2.ok Qb.refl⟩),qI4 (c:=c) G.m (X:=X) Ad⟩
def qL9(C:γ)(s:VSp)(dv:Ds)(tr:VTB):VT:=λ ds Q xe=>tr ds (λ xs ps ds1=>s (.ins false C []::(xs++dv)) (λ d ys=>d.isN=some true/\orF ys.head? λ self=>orF (Au ps ys.tail ds1) λ a=>Q self a) (λ x ys=>orF (Au ps ys.tail ds1) λ a=>xe x a)) xe
theorem qE9(f:Bz s)(g:VAs c X es tr):∀ ds (Q Q':DK) (xe b:XKd),(∀ d a,Q d a->Q' d a)->(∀ x a,xe x a->b x a)->qL9 C s dv tr ds Q xe->qL9 C s dv tr ds Q' b :=
 λ ds Q Q' xe b h e=>g.m _ _ _ _ _ (λ k l i=>f _ _ _ _ _ (λ d j=>Ox (qa5 λ z=>qa5 λ w=>h _ _)) (λ x j=>qa5 λ z=>e _ _)) e
theorem qae9(N:Jn dvs dv)(O:Bz s)(P:VAs c X es tr):∀ σ H Q,Bi c (qL9 C s dv tr) σ H Q->tMake C (Hq s) dvs c.E (Gw c tr) σ H Q:=by
 rintro σ H Q ⟨F,R,A,U,S,x,q⟩;refine⟨F,R,A,U,S,x,P.m _ _ _ _ _ (λ V ps h q W H1 F1 T A1 K L S1 Y Z=>?_) (λ _ _ z=>z) q⟩;intro y dy n o p;have same:Same H1 (upd (upd H1 dy (.own y)) y (.ins C dy [])):=(Same.new o).trans (Same.new (by rw[qb5 (Ne.symm p)];exact n));have rall:P3 F1 (upd (upd H1 dy (.own y)) y (.ins C dy [])) (.ref y::(W++dvs)) (.ins false C []::(V++dv)) ([y]++(T++[])) :=
   .cons (.ins qb4 rfl .nil) ((K.append (N F1 H1)).same same)
 rw[zAg] at rall;have i:Ok F1 (upd (upd H1 dy (.own y)) y (.ins C dy [])) ([y]++(T++A1)):=(qg9 n).ok Y (λ b a=>by
   rcases zA9.mp a with a | a
   . exact K.cells b a
   exact S1.loc.cells b a) same
 have r:Ok F1 (upd (upd H1 dy (.own y)) y (.ins C dy [])) ([y]++T):=i.count λ b=>by simp only[zA0];lia
 have M:Qb F H A F1 (upd (upd H1 dy (.own y)) y (.ins C dy [])) ([y]++(T++A1)):=Z.trans ((qg9 n).stp same);have S1':=S1.same same;refine⟨F1,_,[y]++T,rall,r,O _ _ _ _ _ (λ d ys q v H2 F2 T2 A2 r2 t u j=>?_) (λ ex ys q e H2 F2 A2 rx t u j=>?_) q⟩
 . obtain⟨hn,q⟩:=q
   have hv:v=.non:=by
     cases d with
     | non=>cases r2;rfl
     | _=>cases hn
   refine⟨hv,?_⟩;obtain⟨self,eh,q⟩:=qa7.mp q;obtain⟨k,w,B⟩:=qa7.mp q;have g:Ok F1 _ (A1++([y]++T)):=i.count λ b=>by simp only[zA0];lia
   obtain⟨D,G⟩:=j.frame g S1'.loc.cells u;have L1:Locs F2 H2 (σ++c.gv) h A1:=S1'.loc.keep (j.kp r rall.cells) λ b a f=>by
     have:=i.sep b
     simp only[zA0] at this f
     have:=qa9.mp a
     lia
   cases t with
   | @cons _ d0 Aself _ ys' B' rself rrest =>
     cases eh;obtain⟨A3,I,q2⟩:=qt8 L rrest L1 w;have f:∀ b,(Aself++A3).count b<=(A1++(T2++(Aself++B'))).count b:=λ b=>by simp only[zA0];have:=q2 b;lia
     have l:=D.count f;have J:Qb F H A F2 H2 (Aself++A3):=(M.trans (G.pre λ b=>by simp only[zA0];lia)).count f;exact B (.ref y) H2 F2 Aself A3 rself ⟨I,l.right,S.len,S.ag⟩ l J
 obtain⟨k,w,B⟩:=qa7.mp q;have g:Ok F1 _ (A1++([y]++T)):=i.count λ b=>by simp only[zA0];lia
 obtain⟨D,G⟩:=j.frame g S1'.loc.cells u;have L1:Locs F2 H2 (σ++c.gv) h A1:=S1'.loc.keep (j.kp r rall.cells) λ b a f=>by
   have:=i.sep b
   simp only[zA0] at this f
   have:=qa9.mp a
   lia
 cases t with
 | @cons _ d0 Aself _ ys' B' rself rrest =>
   obtain⟨A3,I,q2⟩:=qt8 L rrest L1 w;have f:∀ b,A3.count b<=(A1++(Aself++B')).count b:=λ b=>by simp only[zA0];have:=q2 b;lia
   have l:=D.count f;have J:Qb F H A F2 H2 A3:=(M.trans (G.pre λ b=>by simp only[zA0];lia)).count f;exact x ex k σ e H2 F2 A3 B rx ⟨I,l,S.len,S.ag⟩ J
theorem emake(i:Cl X.K X.mg x C)(M:Mk X.K C f)(D:Md X.K C m qual st f fd ps)(G:Gi cm X.prog X.w X.K X.mg X.base k f fd ps s)(j:Lands X c.E)(l:Qd cm (k+1) X.A)(a:VAs c X (e::es) tr)(n:Gl X x:=by rfl)(d:N' x:=by decide)(o:Lf (e::es) X.env=(false,eval e X.env)::Lf es X.env:=by rfl)(g:(backTo pos (Lf es X.env)).any (·.1)=false:=by rfl):VE c X (.Call (.Name x p) (e::es) [] pos) (qL9 C s [] tr) :=
 ⟨PE.mono (qac7 M G.ok l n i.m D.b .nil j.passes a.h d o g) (qae9 qz6 G.m a),qE9 G.m a⟩
theorem qaW8{ndv:List V'}(i:Cl X.K X.mg x C)(M:Mk X.K C f)(b:Binds X.K fd ps [.none])(G:Gi cm X.prog X.w X.K X.mg X.base k f fd ps s)(j:Lands X c.E)(l:Qd cm (k+1) X.A)(a:VAs c X (e::es) tr)(n:Gl X x:=by rfl)(d:N' x:=by decide)(o:Lf (e::es) X.env=(false,eval e X.env)::Lf es X.env:=by rfl)(g:(backTo pos (Lf es X.env)).any (·.1)=false:=by rfl):VE c X (.Call (.Name x p) (e::es) [] pos) (qL9 C s [.non] tr) :=
 ⟨PE.mono (qac7 M G.ok l n i.m b (dvs:=[.non]) (.cons rfl .nil) j.passes a.h d o g) (qae9 qap6 G.m a),qE9 G.m a⟩
def tLstV(tr:VTB):VT:=λ ds Q xe=>tr ds (λ xs ps ds1=>xs.length<=big/\Q (.l false xs) ds1) xe
def Hr(tr:VTB):VT:=λ ds Q xe=>tr ds (λ xs ps ds1=>xs.length<=big/\Q (.q xs) ds1) xe
theorem Hy(d:VAs c X es tr):VE c X (.List es pos) (tLstV tr):=by
 refine⟨PE.mono (qaz3 d.h) λ σ H Q e=>?_,λ j Q Q' k l n o=>d.m _ _ _ _ _ (λ p r f=>Ox (n _ _)) o⟩;obtain⟨F,j,A,k,S,x,q⟩:=e;refine⟨F,j,A,k,S,x,d.m _ _ _ _ _ (λ p r f q s H1 F1 T A1 g B S1 t v=>⟨by rw[g.len];exact zAd q.1 qi2,λ y i=>?_⟩) (λ _ _ z=>z) q⟩;have same:=Same.new (u:=.l s) i;have w:=(qg9 i).ok t (λ b a=>by
   rcases zA9.mp a with a | a
   . exact g.cells b a
   exact S1.loc.cells b a) same
 exact q.2 (.ref y) _ F1 (y::T) A1 (.l qb4 (g.same same)) (S1.same same) w (v.trans ((qg9 i).stp same))
theorem Ha(a:VAs c X es tr):VE c X (.Tuple es n pos) (Hr tr):=by
 refine⟨PE.mono (qaJ0 a.h) λ σ H Q b=>?_,λ e Q Q' f j k l=>a.m _ _ _ _ _ (λ o p d=>Ox (k _ _)) l⟩;obtain⟨F,e,A,f,S,x,q⟩:=b;refine⟨F,e,A,f,S,x,a.m _ _ _ _ _ (λ o p d q r H1 F1 T A1 g v S1 s t=>⟨by rw[g.len];exact zAd q.1 qi2,λ y i=>?_⟩) (λ _ _ z=>z) q⟩;have same:=Same.new (u:=.q r) i;exact q.2 (.ref y) _ F1 T A1 (qae1 i g) (S1.same same) (s.same same) (t.trans (.same same))
end
structure VEnds where
 nx:Ds->Prop
 rt:DK
 bk:Ds->Prop
 ct:Ds->Prop
 xe:XKd
abbrev VTS:=VEnds->Ds->Prop
structure VEnds.Le(e e':VEnds):Prop where
 nx:∀ ds,e.nx ds->e'.nx ds
 rt:∀ d ds,e.rt d ds->e'.rt d ds
 bk:∀ ds,e.bk ds->e'.bk ds
 ct:∀ ds,e.ct ds->e'.ct ds
 xe:∀ x ds,e.xe x ds->e'.xe x ds
structure Lk(c:Vc)(E:Bw)(F:γ->Prop)(H:Hp)(A:List γ)(e:VEnds):Prop where
 nx:∀ ds' a' H' F' A',e.nx ds'->Qc c F' H' a' ds' A'->Qb F H A F' H' A'->E.nx a' H'
 rt:∀ d ds' v a' H' F' T A',e.rt d ds'->P' F' H' v d T->Qc c F' H' a' ds' A'->Ok F' H' (T++A')->Qb F H A F' H' (T++A')->E.rt v H'
 bk:∀ ds' a' H' F' A',e.bk ds'->Qc c F' H' a' ds' A'->Qb F H A F' H' A'->E.bk a' H'
 ct:∀ ds' a' H' F' A',e.ct ds'->Qc c F' H' a' ds' A'->Qb F H A F' H' A'->E.ct a' H'
 xe:Xc c e.xe F H A
theorem Lk.step{c:Vc}{E:Bw}{F F1:γ->Prop}{H H1:Hp}{A A1:List γ}{e:VEnds}(l:Lk c E F H A e)(s:Qb F H A F1 H1 A1):Lk c E F1 H1 A1 e :=
 ⟨λ a b' H' F' A' h S t=>l.nx a b' H' F' A' h S (s.trans t),λ d a v b' H' F' T A' h r S o t=>l.rt d a v b' H' F' T A' h r S o (s.trans t),λ a b' H' F' A' h S t=>l.bk a b' H' F' A' h S (s.trans t),λ a b' H' F' A' h S t=>l.ct a b' H' F' A' h S (s.trans t),l.xe.step s⟩
inductive LiftS(c:Vc)(t:VTS)(E:Bw)(a:St)(H:Hp):Prop
 | mk (F:γ->Prop) (ds:Ds) (A:List γ) (e:VEnds) (S:Qc c F H a ds A) (l:Lk c E F H A e) (q:t e ds):LiftS c t E a H
def Fl(c:Vc)(t:VTS):TS:=LiftS c t
structure VS(c:Vc)(X:Cx)(st:Mb)(t:VTS):Prop where
 h:PS X st (Fl c t)
 m:∀(e e':VEnds) ds,e.Le e'->t e ds->t e' ds
structure VSs(c:Vc)(X:Cx)(st:List Mb)(t:VTS):Prop where
 h:PSs X st (Fl c t)
 m:∀(e e':VEnds) ds,e.Le e'->t e ds->t e' ds
section
variable{c:Vc}{X:Cx}{a b e:Ma}{J:Mb}{rest:List Mb}{t u:VTS}{te:VT}{pos:Pos}
def Ia:VTS:=λ e ds=>e.nx ds
def Ib(t u:VTS):VTS:=λ e ds=>t { e with nx:=u e } ds
theorem Ax:VSs c X [] Ia:=⟨PSs.mono qaH8 λ E G H ⟨F,a,A,e,S,l,q⟩=>l.nx a G H F A q S Qb.refl,λ e b a h=>h.nx a⟩
theorem Ab(h1:VS c X J t)(h2:VSs c X rest u):VSs c X (J::rest) (Ib t u):=by
 refine⟨PSs.mono (qac3 h1.h h2.h) λ E G H a=>?_,λ e f b h=>h1.m _ _ _ ⟨λ b=>h2.m _ _ _ h,h.rt,h.bk,h.ct,h.xe⟩⟩;obtain⟨F,b,A,e,S,l,q⟩:=a;exact⟨F,b,A,{ e with nx:=u e },S,⟨λ d G' H' F' A' q S' s=>⟨F',d,A',e,S',l.step s,q⟩,l.rt,l.bk,l.ct,l.xe⟩,q⟩
theorem Aj(h1:VS c X J t):VSs c X [J] t:=⟨qac2 h1.h,h1.m⟩
def Kr(te:VT):VTS:=λ e ds=>te ds e.rt e.xe
theorem Aq(h:VE c X e te):VS c X (.Return (some e) pos) (Kr te):=by
 refine⟨PS.mono (qaI0 h.h) λ E G H ⟨F,b,A,e,S,l,q⟩=>⟨F,b,A,e.xe,S,l.xe,h.m _ _ _ _ _ (λ d a q v H' F' T A' r S' o s=>l.rt d a v G H' F' T A' q r S' o s) (λ _ _ z=>z) q⟩,λ e g b f=>h.m _ _ _ _ _ f.rt f.xe⟩
def sExpr(te:VT):VTS:=λ e ds=>te ds (λ _ a=>e.nx a) e.xe
theorem Bq(h:VE c X e te)(i:swapsWith e none pos.line X.env=pure false:=by rfl):VS c X (.Expr e pos) (sExpr te):=by
 refine⟨PS.mono (qaI1 h.h i) λ E G H ⟨F,f,A,e,S,l,q⟩=>⟨F,f,A,e.xe,S,l.xe,h.m _ _ _ _ _ (λ d a q v H' F' T A' r S' o s=>l.nx a G H' F' A' q S' (s.count λ b=>by rw[zA0];lia)) (λ _ _ z=>z) q⟩,λ e j f g=>h.m _ _ _ _ _ (λ _=>g.nx) g.xe⟩
def sIf(qc:VTT)(t u:VTS):VTS:=λ e ds=>qc ds (λ k a=>if k=true then t e a else u e a) e.xe
theorem sif{x y:List Mb}{qc:VTT}(b:VTe c X cd qc)(g:VSs c X x t)(i:VSs c X y u):VS c X (.If cd x y pos) (sIf qc t u):=by
 refine⟨PS.mono (ps_if b.h g.h i.h) λ E G H d=>?_,λ e n j f=>b.m _ _ _ _ _ (λ k a=>qC5 (g.m _ _ _ f) (i.m _ _ _ f)) f.xe⟩;obtain⟨F,j,A,e,S,l,q⟩:=d;refine⟨F,j,A,e.xe,S,l.xe,b.m _ _ _ _ _ (λ k a q H' F' A' S' s=>?_) (λ _ _ z=>z) q⟩;cases k with
 | true=>rw[if_pos rfl] at q ⊢;exact⟨F',a,A',e,S',l.step s,q⟩
 | false=>rw[if_neg (by decide)] at q ⊢;exact⟨F',a,A',e,S',l.step s,q⟩
def qaR4:VTS:=λ _ _=>False
theorem qn5:VS c X J qaR4:=⟨λ _ _ _ _ _ _ ⟨_,_,_,_,_,_,q⟩=>q.elim,λ _ _ _ _ q=>q.elim⟩
abbrev VTG:=D->Ds->(Ds->Prop)->Prop
inductive LiftG(c:Vc)(g:VTG)(v:V)(G:St)(H:Hp)(Q:St->Hp->Prop):Prop
 | mk (F:γ->Prop) (ds:Ds) (A T:List γ) (d:D) (r:P' F H v d T) (S:Qc c F H G ds A) (o:Ok F H (T++A)) (q:g d ds (λ ds'=>∀ G' H' F' A',Qc c F' H' G' ds' A'->Qb F H (T++A) F' H' A'->Q G' H')):LiftG c g v G H Q
def Gx(c:Vc)(g:VTG):TG:=LiftG c g
structure VG(c:Vc)(X:Cx)(e:Ma)(g:VTG):Prop where
 h:PG X e (Gx c g)
 m:∀ d ds (Q Q':Ds->Prop),(∀ ds',Q ds'->Q' ds')->g d ds Q->g d ds Q'
theorem PG.mono{g g':TG}(h:PG X e g)(i:∀ v G H Q,g' v G H Q->g v G H Q):PG X e g':=λ Eo s G H v u Q I r q=>h Eo s G H v u Q I r (i v G H Q q)
theorem Qc.store{F:γ->Prop}{H:Hp}{G:St}{ds:Ds}{A T:List γ}{d:D}(S:Qc c F H G ds A)(m:c.W i=false)(hi:i < G.length)(r:P' F H v d T)(o:Ok F H (T++A)) :
   ∃ A',Qc c F H (G.set i (some v)) (ds.set i d) A'/\Qb F H (T++A) F H A':=by
 have n:=S.loc.len;rw[zAe] at n;obtain⟨σ1,x,σ2,e,f,A1,B,A2,p,e2,q,s,t,u,y,w⟩:=S.loc.split (i:=i) (d:=ds[i]'(by lia)) (by simp);have hσ:G.set i (some v)++c.gv=σ1++some v::σ2:=by
   rw[<- Nq _ _ hi,p,qp1 q]
 have g:ds.set i d=e++d::f:=by
   have:=congrArg (λ l=>l.set i d) e2
   rw[this,qp1 s]
 have a:∀ b,(A1++(T++A2)).count b<=(T++A).count b:=λ b=>by rw[t];simp only[zA0];lia
 refine⟨A1++(T++A2),⟨by rw[hσ,g];exact u.append (.so r w),o.count a,?_,λ j h=>?_⟩,Qb.refl.count a⟩
 . rw[S.len,zAe,zAe,M']
 have k:i≠j:=λ z=>by subst z;rw[m] at h;cases h
 rw[<- S.ag j h,<- Nq _ _ hi,zBg k]
def gNm(i:Nat):VTG:=λ d ds Q=>Q (ds.set i d)
theorem Be(i:Nat){x:Str}(b:X.N.Nodup)(e:c.W i=false:=by rfl)(hi:X.N[i]? = some x:=by rfl)(f:Loc X.env.scope x:=by first | exact P0 rfl | exact Pz rfl)(g:X.fn x=true∨X.env.scope.names.lookup x=some .local:=by first | exact .inl rfl | exact .inr rfl | assumption):VG c X (.Name x pos) (gNm i):=by
 refine⟨λ Eo s G H v h Q I j a=>?_,λ d k Q Q' l=>l _⟩;obtain⟨F,k,A,T,d,r,S,o,q⟩:=a;refine qas8 b hi f g Eo s G H v h Q I j ?_;obtain⟨A',S',m⟩:=S.store e (qp7 hi Eo G H s I) r o;exact q _ H F A' S' m
def Fm(te:VT)(g:VTG):VTS:=λ e ds=>te ds (λ d a=>g d a e.nx) e.xe
theorem qaY3{tg:Ma}{g:VTG}(h:VE c X e te)(f:VG c X tg g):∀ E G H,Fl c (Fm te g) E G H->Je (Bi c te) (Gx c g) E G H:=by
 rintro E G H ⟨F,i,A,j,S,l,q⟩;refine⟨F,i,A,j.xe,S,l.xe,h.m _ _ _ _ _ (λ d a q v H' F' T A' r S' o s=>?_) (λ _ _ z=>z) q⟩;exact⟨F',a,A',T,d,r,S',o,f.m _ _ _ _ (λ b q σ2 H2 F2 A2 S2 k=>l.nx b σ2 H2 F2 A2 q S2 (s.trans k)) q⟩
theorem qai8{tg:Ma}{g:VTG}(h:VE c X e te)(f:VG c X tg g):∀(en a:VEnds) ds,en.Le a->Fm te g en ds->Fm te g a ds:=λ en a ds b=>h.m _ _ _ _ _ (λ d i=>f.m _ _ _ _ b.nx) b.xe
theorem Fo{tg:Ma}{g:VTG}(h:VE c X e te)(a:VG c X tg g)(b:swapsWithSole [tg] e pos.line X.env=pure false:=by rfl)(d:swappedStores [tg] e X.env=pure none:=by rfl)(h1:(Ly [tg] X.env).map (·.2)=[assign tg X.env]:=by rfl):VS c X (.Assign [tg] e pos) (Fm te g) :=
 ⟨PS.mono (qaS0 h.h a.h b d h1) (qaY3 h a),qai8 h a⟩
theorem Al(i:Nat){x:Str}{pos':Pos}(a:X.N.Nodup)(h:VE c X e te)(b:c.W i=false:=by rfl)(hi:X.N[i]? = some x:=by rfl)(f:Loc X.env.scope x:=by first | exact P0 rfl | exact Pz rfl)(j:swapsWith e (some (.Name x pos')) pos.line X.env=pure false:=by rfl)(g:X.fn x=true∨X.env.scope.names.lookup x=some .local:=by first | exact .inl rfl | exact .inr rfl | assumption) :
   VS c X (.Assign [.Name x pos'] e pos) (Fm te (gNm i)):=by
 have k:VG c X (.Name x pos') (gNm i):=Be i a b hi f g;refine⟨λ Eo s G H E I q=>qaH9 a hi f h.h j g Eo s G H E I ?_,qai8 h k⟩;obtain⟨F,n,A,p,S,l,q⟩:=q;refine⟨F,n,A,p.xe,S,l.xe,h.m _ _ _ _ _ (λ d t q v H' F' T A' r S' o u=>?_) (λ _ _ z=>z) q⟩;obtain⟨A2,S2,w⟩:=S'.store b (qp7 hi Eo G H s I) r o;exact l.nx _ _ H' F' A2 q S2 (u.trans w)
abbrev Hb:=Ds->Ds->(Ds->Prop)->Prop
inductive qaQ3(c:Vc)(g:Hb)(vs:List V)(G:St)(H:Hp)(Q:St->Hp->Prop):Prop
 | mk (F:γ->Prop) (ds:Ds) (A T:List γ) (xs:Ds) (r:P3 F H vs xs T) (S:Qc c F H G ds A) (o:Ok F H (T++A)) (q:g xs ds (λ ds'=>∀ G' H' F' A',Qc c F' H' G' ds' A'->Qb F H (T++A) F' H' A'->Q G' H')):qaQ3 c g vs G H Q
def qaU8(c:Vc)(g:Hb):TGs:=qaQ3 c g
structure VGs(c:Vc)(X:Cx)(es:List Ma)(g:Hb):Prop where
 h:PGs X es (qaU8 c g)
 m:∀ xs ds (Q Q':Ds->Prop),(∀ ds',Q ds'->Q' ds')->g xs ds Q->g xs ds Q'
theorem PGs.mono{es:List Ma}{g g':TGs}(h:PGs X es g)(i:∀ v G H Q,g' v G H Q->g v G H Q):PGs X es g':=λ Eo s G H v u Q I r q=>h Eo s G H v u Q I r (i v G H Q q)
def gNilV:Hb:=λ xs ds Q=>match xs with | []=>Q ds | _=>False
def qaC8(g:VTG)(b:Hb):Hb:=λ xs ds Q=>match xs with | x::r=>g x ds λ a=>b r a Q | []=>False
theorem Iz:VGs c X [] gNilV:=by
 refine⟨PGs.mono qaI8 λ f G H Q a=>?_,λ b d Q Q' e q=>by cases b with | nil=>exact e _ q | cons _ _=>exact q.elim⟩;obtain⟨F,d,A,T,b,r,S,o,q⟩:=a;cases b with
 | nil=>cases r;exact⟨rfl,q G H F A S Qb.refl⟩
 | cons _ _=>exact q.elim
theorem qK0{tg:Ma}{es:List Ma}{g:VTG}{l:Hb}(h1:VG c X tg g)(h2:VGs c X es l)(s:(Ly (tg::es) X.env).map (·.2)=assign tg X.env::(Ly es X.env).map (·.2):=by rfl):VGs c X (tg::es) (qaC8 g l):=by
 refine⟨PGs.mono (qaz1 h1.h h2.h s) λ e G H Q ⟨F,n,A,T,d,r,S,o,q⟩=>?_,λ d n Q Q' t q=>by
   cases d with
   | nil=>exact q.elim
   | cons x r=>exact h1.m _ _ _ _ (λ u=>h2.m _ _ _ _ t) q⟩
 cases d with
 | nil=>exact q.elim
 | cons x d =>
   cases r with
   | @cons v _ T1 e _ T2 r1 rt =>
     refine⟨v,e,rfl,F,n,A,T1,x,r1,S,o.count λ b=>by simp only[zA0];lia,h1.m _ _ _ _ (λ f q σ1 H1 F1 A1 S1 p=>?_) q⟩;have i:Ok F H (T2++(T1++A)):=o.count λ b=>by simp only[zA0];lia
     obtain⟨w,y⟩:=p.frame i rt.cells S1.ok;have j:Ok F H (T1++A):=i.right;have k:P3 F1 H1 e d T2:=rt.keep (p.kp j λ b a=>by
       rcases zA9.mp a with a | a
       . exact r1.cells b a
       exact S.loc.cells b a) λ b a C=>by
       have:=i.sep b
       rw[zA0] at this
       have:=qa9.mp a
       lia
     exact⟨F1,f,A1,T2,d,k,S1,w,h2.m _ _ _ _ (λ z q σ2 H2 F2 A2 S2 B=>q σ2 H2 F2 A2 S2 ((y.pre λ b=>by simp only[zA0];lia).trans B)) q⟩
def gTupV(n:Nat)(a:Hb):VTG:=λ d ds Q=>match d with | .q xs=>xs.length=n/\a xs ds Q | _=>False
theorem I8{es:List Ma}{k:Nat}{e:Hb}(j:X.calm=true)(h:VGs c X es e)(l:(Ly es X.env).length=n:=by rfl)(b:(Ly es X.env).findIdx? (·.1)=none:=by rfl):VG c X (.Tuple es k pos) (gTupV n e):=by
 refine⟨PG.mono (qaS3 j h.h l b) λ v G H Q ⟨F,f,A,T,d,r,S,o,q⟩=>?_,λ d f Q Q' p q=>by
   cases d with
   | q g=>exact⟨q.1,h.m _ _ _ _ p q.2⟩
   | _=>exact q.elim⟩
 cases d with
 | q g =>
   obtain⟨a,s,rfl,t,i⟩:=r.tup_inv;exact⟨a,s,rfl,.inl (.inl t),by rw[i.len];exact q.1,F,f,A,T,g,i,S,o,q.2⟩
 | _=>exact q.elim
end
section
variable{c:Vc}{F:γ->Prop}{H:Hp}{X:St}{ds:Ds}{A T:List γ}
theorem qL3{a:γ}{o o':HO}(h:H a=some o)(hm:Fk o=true)(c:¬ F a):Kp F H (λ b=>b=a) F (upd H a o') :=
 ⟨λ b u e w=>by rw[qb5 w];exact e,λ b w=>by subst w;exact⟨o,h,hm⟩,λ b w=>by subst w;exact c,λ _ f=>f⟩
theorem P3.setAt{ys:List D}{Ael Tv:List γ}{d:D}(r:P3 F H vs ys Ael)(s:n < ys.length)(e:P' F H v d Tv):∃ B,P3 F H (vs.set n v) (ys.set n d) B/\∀ b,B.count b<=Ael.count b+Tv.count b:=by
 obtain⟨f,w,g,a,c,A1,B,A2,h,e2,j,k,m,o,t,p⟩:=r.split (i:=n) (d:=ys[n]) (by simp);have q:ys.set n d=a++d::c:=by
   have:=congrArg (λ l=>l.set n d) e2
   rw[this,qp1 k]
 rw[h,qp1 j,q];exact⟨A1++(Tv++A2),o.append (.cons e p),λ b=>by rw[m];simp only[zA0];lia⟩
theorem qB1{ys:List D}{B:List γ}(r:P' F H v (.l false ys) B):∃ a vs Ael,v=.ref a/\H a=some (.l vs)/\P3 F H vs ys Ael/\B=a::Ael:=by
 cases r with
 | l h r=>exact⟨_,_,_,rfl,h,r,rfl⟩
theorem ql9{p:List Nat}{ys:List D}{u:V}(S:Qc c F H X ds A)(h:Ba ds i p=some (.l false ys))(J:(X++c.gv)[i]? = some (some u))(K:Walk H u p w) :
   ∃(a:γ)(vs:List V)(Ael:List γ),w=.ref a/\H a=some (.l vs)/\P3 F H vs ys Ael /\
   ∀(g:List V)(m:List D)(B' R T:List γ),Ok F H (T++A)->P3 F H g m B'->(∀ b,B'.count b+R.count b<=Ael.count b+T.count b) ->
     (∃ A',Qc c F (upd H a (.l g)) X (Bj ds i p (.l false m)) A'/\Ok F (upd H a (.l g)) (R++A')/\Qb F H (T++A) F (upd H a (.l g)) (R++A'))/\∀ v d,P' F H v d R->P' F (upd H a (.l g)) v d R:=by
 obtain⟨B,C,r,L,M⟩:=S.place h (by intro z;cases z) J K;obtain⟨a,vs,Ael,rfl,y,N,rfl⟩:=qB1 r;refine⟨a,vs,Ael,rfl,y,N,λ g m B' R T q O E=>?_⟩;have n:∀ b,A.count b=(if b=a then 1 else 0)+Ael.count b+C.count b:=λ b=>by
   rw[L,zAo];by_cases j:b=a
   . subst j;simp;lia
   simp[j,Ne.symm j]
 have s:=n a;rw[if_pos rfl] at s;have sa:=q.sep a;rw[zA0] at sa;have P:=E a;have G:¬ F a:=λ f=>by have:=q.fro a f;rw[zA0] at this;lia
 have k:=qL3 (F:=F) (o':=.l g) y rfl G;have rep':P' F (upd H a (.l g)) (.ref a) (.l false m) (a::B'):=.l qb4 (O.keep k λ b j w=>by subst w;have:=qa9.mp j;lia);obtain⟨A',Q,q2⟩:=M _ _ k (λ b j w=>by subst w;have:=qa9.mp j;lia) rep';have t:∀ b,A'.count b=(if b=a then 1 else 0)+B'.count b+C.count b:=λ b=>by
   rw[q2,zAo];by_cases j:b=a
   . subst j;simp;lia
   simp[j,Ne.symm j]
 have l:∀ b,(R++A').count b<=(T++A).count b:=λ b=>by rw[zA0,zA0,t,n];have:=E b;lia
 have U:∀ b,F b->∃ o,upd H a (.l g) b=some o:=λ b f=>by
   obtain⟨x,e⟩:=q.ex b f;exact⟨x,by rw[qb5 (show b≠a from λ w=>G (w ▸ f))];exact e⟩
 have I:Ok F (upd H a (.l g)) (R++A'):=⟨λ b=>zAd (l b) (q.sep b),λ b f=>by have:=q.fro b f;have:=l b;lia,U⟩
 refine⟨⟨A',⟨Q,I.right,S.len,S.ag⟩,I,λ b u e z=>?_,λ b u e z=>by have:=l b;lia,λ _ f=>f,λ _ _ _ _ f=>f⟩,λ v d W=>W.keep k λ b j w=>by subst w;have:=qa9.mp j;lia⟩;rw[qb5 λ w=>?_]
 . exact e
 subst w;have:=n b;rw[if_pos rfl] at this;rw[zA0] at z;lia
def Jo(r:V->List V->Hp->VK->Prop)(g:Ds->Ds->Option (Ds×D)):Prop:=∀ F H a vs ys Ael f xs T c d (Q:VK),H a=some (.l vs)->P3 F H vs ys Ael->P3 F H f xs T->g ys xs=some (c,d) ->
 (∀ e v B' R,P3 F H e c B'->P' F H v d R->(∀ b,B'.count b+R.count b<=Ael.count b+T.count b)->Q v (upd H a (.l e)))->r (.ref a) f H Q
def Hs(ys xs:Ds):Option (Ds×D):=match xs with
 | [x]=>if ys.length < big then some (ys++[x],.non) else none
 | _=>none
theorem qu7:Jo qas3 Hs:=by
 intro F H a i c Ael m j T e d Q k r l h q
 match j,h with
 | [x],h =>
   obtain⟨w,rfl,f⟩:=l.one_inv;have h:(if c.length < big then some (c++[x],D.non) else none)=some (e,d):=h;by_cases g:c.length < big
   . rw[if_pos g] at h
     cases h;refine⟨a,i,w,rfl,rfl,k,by rw[r.len];exact zA8 g qi2,?_⟩;exact q _ .non (Ael++(T++[])) [] (r.append (.cons f .nil)) .non λ b=>by simp[zA0]
   rw[if_neg g] at h;cases h
end
section
variable{c:Vc}{X:Cx}{a b e o:Ma}{pf:PF}{tr:VTB}{es:List Ma}{r:V->List V->Hp->VK->Prop}{g:Ds->Ds->Option (Ds×D)}
noncomputable def D.own:D->Option Ds
 | .l false ys=>some ys
 | _=>none
theorem Ks{d:D}{ys:Ds}(h:d.own=some ys):d=.l false ys:=by
 cases d with
 | l z a=>cases z with
   | false=>cases h;rfl
   | true=>cases h
 | _=>cases h
def F8(g:Ds->Ds->Option (Ds×D))(i:Nat)(tr:VTB):VT:=λ ds Q xe=>((rdN i ds).bind D.own).isSome=true/\tr ds (λ xs _ ds1=>orF ((rdN i ds1).bind D.own) λ ys=>orF (g ys xs) λ z=>Q z.2 (ds1.set i (.l false z.1))) xe
theorem qF5{ds:Ds}{d:D}(h:ds[i]? = some d):Ba ds i []=some d:=by unfold Ba;rw[h];rfl
theorem qD5{ds:Ds}{d x:D}(h:ds[i]? = some d):Bj ds i [] x=ds.set i x:=by unfold Bj;rw[h];rfl
theorem qaL7{T:String}(t:T = "list"){σ:St}{H:Hp}(hm:Jo r g)(u:VAs c X es tr)(hi:i < σ.length)(q:Bi c (F8 g i tr) σ H Q):tBM X.K T r (G7 i) (Gw c tr) σ H Q:=by
 subst t;obtain⟨F,y,A,B,S,x,C,q⟩:=q;obtain⟨D,b⟩:=zB7.mp C;obtain⟨d0,E,f⟩:=zA1.mp b;cases Ks f;obtain⟨v,B0,o,G,_⟩:=S.name hi E;obtain⟨a,h,A0,rfl,j,_,_⟩:=G.lst_inv;refine⟨.ref a,o,.inl ⟨rfl,h,.inl (.inl j)⟩,F,y,A,B,S,x,u.m _ _ _ _ _ (λ I ps J q L H1 F1 T A1 M pk S1 N O=>?_) (λ _ _ z=>z) q⟩;obtain⟨P,U,q⟩:=qa7.mp q;obtain⟨d1,e2,V⟩:=zA1.mp U;cases Ks V;obtain⟨⟨e,d⟩,W,q⟩:=qa7.mp q;obtain⟨s,hk⟩:=ql1.mp e2;have Y:(σ++c.gv)[i]? = some (some (.ref a)):=by rw[zAt hi];exact o
 obtain⟨a2,k,Ael,Z,l,rs,wr⟩:=ql9 S1 (qF5 s) Y (p:=[]) (w:=.ref a) rfl;cases Z;refine hm F1 H1 a k P Ael L I T e d Q l rs M W λ n v B' R h1 h2 h3=>?_
 obtain⟨⟨A',S2,o2,s2⟩,kr⟩:=wr n e B' R T N h1 h3;rw[qD5 s] at S2;exact q v _ F1 R A' (kr v d h2) S2 o2 (O.trans s2)
theorem qam9(e:VAs c X es tr):∀ ds (Q Q':DK) (xe b:XKd),(∀ d a,Q d a->Q' d a)->(∀ x a,xe x a->b x a)->F8 g i tr ds Q xe->F8 g i tr ds Q' b :=
 λ ds Q Q' xe b f h=>Ox (e.m _ _ _ _ _ (λ k l j=>qa5 λ y=>qa5 λ z=>f _ _) h)
theorem qaj6{F F':γ->Prop}{H H':Hp}{W:γ->Prop}(k:Kp F H W F' H'):∀{p:List Nat}{f:V}{d0 d:D}{B:List γ}{w o:V},(∀ b∈B,¬ W b)->P' F H f d0 B->d0.getP p=some d->Walk H f p w->Walk H' f p o->o=w:=by
 intro p
 induction p with
 | nil=>intro f d0 d B w o _ _ _ h s;cases h;cases s;rfl
 | cons n p A =>
   intro f d0 d B w o g r i h s;unfold D.getP at i;cases j:d0.kids[n]? with
   | none=>rw[j] at i;cases i
   | some e =>
     rw[j] at i;obtain⟨x,E,G⟩:=h;obtain⟨L,t,u⟩:=s;obtain⟨y,B1,C1,z,I,J,_⟩:=r.kid j;obtain⟨M,B1',C1',l,_,_,_⟩:=(r.keep k g).kid j;cases E.fn z;cases t.fn l;have v:Lnk H' f n x:=by
       obtain⟨a,rfl,q⟩:=z;refine⟨a,rfl,?_⟩;cases r with
       | q c _ =>
         rcases q with⟨vs,e,h⟩ | ⟨vs,e,h⟩ | ⟨vs,e,h⟩ | ⟨C,dx,vs,e,h⟩
         . exact .inl ⟨vs,k.q e,h⟩
         . rw[c] at e;cases e
         . rw[c] at e;cases e
         rw[c] at e;cases e
       | l c _ =>
         have m:=k.fr _ _ c (g _ zAa);rcases q with⟨vs,e,h⟩ | ⟨vs,e,h⟩ | ⟨vs,e,h⟩ | ⟨C,dx,vs,e,h⟩
         . rw[c] at e;cases e
         . rw[c] at e;cases e;exact .inr (.inl ⟨_,m,h⟩)
         . rw[c] at e;cases e
         rw[c] at e;cases e
       | dct c _ _ =>
         have m:=k.fr _ _ c (g _ zAa);rcases q with⟨vs,e,h⟩ | ⟨vs,e,h⟩ | ⟨vs,e,h⟩ | ⟨C,dx,vs,e,h⟩
         . rw[c] at e;cases e
         . rw[c] at e;cases e
         . rw[c] at e;cases e;exact .inr (.inr (.inl ⟨_,m,h⟩))
         rw[c] at e;cases e
       | ins c _ _ =>
         have m:=k.fr _ _ c (g _ zAa);rcases q with⟨vs,e,h⟩ | ⟨vs,e,h⟩ | ⟨vs,e,h⟩ | ⟨C,dx,vs,e,h⟩
         . rw[c] at e;cases e
         . rw[c] at e;cases e
         . rw[c] at e;cases e
         rw[c] at e;cases e;exact .inr (.inr (.inr ⟨_,_,_,m,h⟩))
       | _=>cases (show (none:Option D)=some _ from j)
     cases v.fn l;exact A (B:=B1) (λ b K=>g b (qa9.mpr (by have:=J b;have:=qa9.mp K;lia))) I i G u
def Gy(g:Ds->Ds->Option (Ds×D))(pf:PF)(tr:VTB):VT:=λ ds Q xe=>orF (pf ds) λ q=>orF ((Ba ds q.1 q.2).bind D.own) λ ys=>orF ds[q.1]? λ a=>tr (ds.set q.1 .u) (λ xs _ ds1=>orF (g ys xs) λ z=>Q z.2 (Bj (ds1.set q.1 a) q.1 q.2 (.l false z.1))) xe
theorem qam8(e:VAs c X es tr):∀ ds (Q Q':DK) (xe b:XKd),(∀ d a,Q d a->Q' d a)->(∀ x a,xe x a->b x a)->Gy g pf tr ds Q xe->Gy g pf tr ds Q' b :=
 λ ds Q Q' xe b f h=>qa5 λ q=>qa5 λ j=>qa5 λ k=>e.m _ _ _ _ _ (λ l n i=>qa5 λ z=>f _ _) h
theorem qaL6(hm:Jo r g)(ha:VAs c X es tr):∀ σ H Q,Bi c (Gy g pf tr) σ H Q->tBM X.K "list" r (Iy c pf) (Gw c tr) σ H Q:=by
 rintro σ H Q ⟨F,Y,A,xe,S,x,q⟩;obtain⟨⟨i,p⟩,e1,q⟩:=qa7.mp q;obtain⟨n,e2,q⟩:=qa7.mp q;obtain⟨dl,h,e4⟩:=zA1.mp e2;cases Ks e4;obtain⟨I,l,q⟩:=qa7.mp q;refine⟨F,Y,A,i,p,_,S,e1,h,D.noConfusion,λ u w H1 s Z s0=>?_⟩;have S0:=S.same s0;obtain⟨a,L,Ael0,rfl,M,a0,_⟩:=ql9 S0 h s Z;refine⟨.inl ⟨rfl,L,.inl (.inl M)⟩,?_⟩;have N:I≠.u:=λ z=>by
   subst z;have j:=h;unfold Ba at j;rw[l] at j;cases (qag8 j).2
 obtain⟨u',B,C,h1,J,h3,h4⟩:=S0.put1 l N;rw[s] at h1;cases h1;obtain⟨A1,q1,q2⟩:=h4 .u [] (Kp.same (F:=F) λ _ _ z=>z) (λ _ _ z=>z) (.u u);have O:Ok F H1 (B++A1):=S0.ok.count λ b=>by rw[zA0,q2,h3];simp
 have s1:Qb F H A F H1 (B++A1):=⟨λ b o e _=>s0 b o e,λ b o e z=>by rw[zA0,q2];have:=h3 b;simp;lia,λ _ f=>f,λ _ _ _ _ f=>f⟩
 have S1:Qc c F H1 σ (Y.set i .u) A1:=⟨q1,O.right,S.len,S.ag⟩
 have P:Qb F H A F H1 A1:=s1.count λ b=>by rw[zA0];lia
 refine⟨F,_,A1,xe,S1,x.step P,ha.m _ _ _ _ _ (λ xs ps k q vs H2 F2 T2 A2 r2 pk S2 o2 s2=>?_) (λ _ _ z=>z) q⟩;obtain⟨⟨t,d⟩,e7,q⟩:=qa7.mp q;have kp:=s2.kp S1.ok S1.loc.cells;have hBout:∀ b∈B,¬ (A1.count b≠0):=λ b hb hc=>by
   have:=O.sep b
   rw[zA0] at this
   have:=qa9.mp hb
   lia
 have y:P' F2 H2 u I B:=J.keep kp hBout;obtain⟨o3,s3⟩:=s2.frame O J.cells o2;obtain⟨A3,k1,k2⟩:=qD4 S2.loc s y;have E:∀ b,A3.count b<=B.count b+A2.count b:=k2;have o4:Ok F2 H2 (T2++A3):=o3.count λ b=>by simp only[zA0];have:=E b;lia
 have s4:Qb F H A F2 H2 (T2++A3):=(s1.trans s3).count λ b=>by simp only[zA0];have:=E b;lia
 have S3:Qc c F2 H2 σ (k.set i I) A3:=⟨k1,o4.right,S.len,S.ag⟩
 have G:i < k.length:=by rw[<- S2.loc.len];exact(zA4.mp s).1
 have e8:Ba (k.set i I) i p=some (.l false n):=by
   unfold Ba at h ⊢;rw[l] at h;rw[zBy G];exact h
 have T:Walk H2 u p (.ref a):=by
   obtain⟨w',_,_,w1,_,_,_⟩:=J.path (p:=p) (d:=.l false n) (by unfold Ba at h;rw[l] at h;exact h);cases Z.fn w1;obtain⟨w2,_,_,w3,_,_,_⟩:=y.path (p:=p) (d:=.l false n) (by unfold Ba at h;rw[l] at h;exact h)
   have:w2=.ref a:=by
     refine qaj6 (d:=.l false n) kp hBout J ?_ w1 w3;unfold Ba at h;rw[l] at h;exact h
   rw[<- this];exact w3
 obtain⟨a2,U,Ael,ea,V,rs,wr⟩:=ql9 S3 e8 s T;cases ea;refine hm F2 H2 a U n Ael vs xs T2 t d Q V rs r2 e7 λ W v B' R z1 z2 z3=>?_
 obtain⟨⟨A',S4,o5,s5⟩,kr⟩:=wr W t B' R T2 o4 z1 z3;exact q v _ F2 R A' (kr v d z2) S4 o5 (s4.trans s5)
end
section
variable{c:Vc}{X:Cx}{a b e o:Ma}{pos cpos apos:Pos}{pf:PF}{tr:VTB}{es:List Ma}{fb:FV}{ob:Bool}{r:V->List V->Hp->VK->Prop}{g:Ds->Ds->Option (Ds×D)}{name:Str}{id:String}
theorem Fe(i:Nat){x:Str}{p0:Pos}(k:Jo r g)(l:PlainAttrs "list")(slot:Slot "list" name id)(b:typeOf (.builtin id)=pure (.type "method_descriptor"))(hm:MtM X id r)(d:VAs c X (e::es) tr)(j:X.N[i]? = some x:=by rfl)(m:Vis X.env.scope x:=by first | exact P0 rfl | exact Pz (P0 rfl) | exact Pz (Pz rfl))(n:N' x:=by decide)(f:(x == ("__classdict__" : Str))=false:=by decide)(hbase:Ln (.Name x p0) name X.env (eval (.Name x p0) X.env)=eval (.Name x p0) X.env:=by rfl)(a:((backTo cpos (Lf (e::es) X.env)).all (λ x=>!x.1)&&(backToKw cpos (Lu [] X.env)).all (λ x=>x.1.isSome)
     && decide ((e::es).length+([]:List Keyword).length+(if ([]:List Keyword).isEmpty then 0 else 1) < 30))=true:=by rfl)(hline:(apos.endLine == cpos.line)=true:=by rfl)(o:Lf (e::es) X.env=(false,eval e X.env)::Lf es X.env:=by rfl)(hplain:(backTo cpos (Lf es X.env)).any (·.1)=false:=by rfl) :
   VE c X (.Call (.Attribute (.Name x p0) name apos) (e::es) [] cpos) (F8 g i tr) :=
 ⟨λ Eo s σ H Q I q=>Kb l slot b hm (qs3 j m n f) d.h hbase a hline o hplain Eo s σ H Q I (qaL7 rfl k d (qp7 j Eo σ H s I) q),qam9 d⟩
theorem Kt(f:Jo r g)(i:PlainAttrs "list")(slot:Slot "list" name id)(b:typeOf (.builtin id)=pure (.type "method_descriptor"))(hm:MtM X id r)(j:VP c X o pf)(d:VAs c X (e::es) tr)(hbase:Ln o name X.env (eval o X.env)=eval o X.env:=by rfl)(a:((backTo cpos (Lf (e::es) X.env)).all (λ x=>!x.1)&&(backToKw cpos (Lu [] X.env)).all (λ x=>x.1.isSome)
     && decide ((e::es).length+([]:List Keyword).length+(if ([]:List Keyword).isEmpty then 0 else 1) < 30))=true:=by rfl)(hline:(apos.endLine == cpos.line)=true:=by rfl)(k:Lf (e::es) X.env=(false,eval e X.env)::Lf es X.env:=by rfl)(hplain:(backTo cpos (Lf es X.env)).any (·.1)=false:=by rfl) :
   VE c X (.Call (.Attribute o name apos) (e::es) [] cpos) (Gy g pf tr) :=
 ⟨PE.mono (Kb i slot b hm j.h d.h hbase a hline k hplain) (qaL6 f d),qam8 d⟩
def Gz(pf:PF)(fb:FV):VTG:=λ d ds Q=>orF (pf ds) λ q=>orF ((Ba ds q.1 q.2).bind D.own) λ ys=>orF ((fb ds).bind D.asI) λ k=>orF (ixN ys.length k) λ n=>Q (Bj ds q.1 q.2 (.l false (ys.set n d)))
theorem Ep(y:VP c X o pf)(hi:VV c X b ob fb)(f:∀ v,assign (.Subscript o b pos) X.env v=(do
     let ov <- holding [v] (eval o X.env)
     let iv <- holding [v,ov] (eval b X.env)
     standAt pos
     holding [v,ov,iv] (setItem ov iv v)
     release [v,ov,iv] []):=by intro _;rfl):VG c X (.Subscript o b pos) (Gz pf fb):=by
 refine⟨PG.mono (qaS4 y.h hi.h qab1 f) λ v σ H Q g=>?_,λ d j Q Q' z=>qa5 λ _=>qa5 λ _=>qa5 λ _=>qa5 λ _=>z _⟩;obtain⟨F,j,A,T,d,r,S,B,q⟩:=g;obtain⟨⟨i,p⟩,C,q⟩:=qa7.mp q;obtain⟨E,e2,q⟩:=qa7.mp q;obtain⟨Y,l,G⟩:=zA1.mp e2;cases Ks G;obtain⟨k,I,q⟩:=qa7.mp q;obtain⟨J,K,L⟩:=zA1.mp I;obtain⟨n,m,q⟩:=qa7.mp q;refine⟨F,j,A,i,p,_,S,C,l,D.noConfusion,λ u w H1 M N s=>⟨F,j,A,J,S.same s,K,λ Z H2 B2 O t _=>?_⟩⟩;have e:=s.trans t;have S2:=S.same e;cases O.asI L;obtain⟨a,P,Ael,rfl,f,x,wr⟩:=ql9 S2 l M (N.same t);have R:n < E.length:=(qS8 m).2.1;obtain⟨B',U,V⟩:=x.setAt R (r.same e);obtain⟨⟨A',S3,o3,W⟩,_⟩:=wr _ _ B' [] T (B.same e) U λ b=>by have:=V b;simp;lia
 exact⟨a,P,k,n,rfl,rfl,f,by rw[x.len];exact m,q σ _ F A' S3 ((Qb.same e).trans W)⟩
def sAugV(f:Int->Int->Int)(pf:PF)(fb a:FV):VTS:=λ e ds=>orF (pf ds) λ q=>orF ((Ba ds q.1 q.2).bind D.own) λ ys=>orF ((fb ds).bind D.asI) λ k=>0<=k/\orF ((ys[k.toNat]?).bind D.asI) λ x=>orF ((a ds).bind D.asI) λ y=>e.nx (Bj ds q.1 q.2 (.l false (ys.set k.toNat (.int (f x y)))))
theorem saug{op:Operator}{f:Int->Int->Int}{N:FV}{oe:Bool}{tpos:Pos}(V:VP c X o pf)(hi:VV c X b ob fb)(W:VV c X e oe N)(Y:PIp X op (ipI f))(Z:∀ n r d,augStore b n r d=(do holding [d,n,r] (setItem n r d);release [d,n,r] [];pure .next):=by intros;rfl):VS c X (.AugAssign (.Subscript o b tpos) op e pos) (sAugV f pf fb N):=by
 refine⟨PS.mono (qaI3 V.h hi.h qaC6 W.h Y qab1 Z) λ E σ H t=>?_,λ en a0 s hl=>qa5 λ _=>qa5 λ _=>qa5 λ _=>Ox (qa5 λ _=>qa5 λ _=>hl.nx _)⟩;obtain⟨F,s,A,en,S,l,q⟩:=t;obtain⟨⟨i,p⟩,e1,q⟩:=qa7.mp q;obtain⟨ys,e2,q⟩:=qa7.mp q;obtain⟨dl,v,e4⟩:=zA1.mp e2;cases Ks e4;obtain⟨k,e5,O,q⟩:=qa7.mp q;obtain⟨dk,e6,e7⟩:=zA1.mp e5;obtain⟨x,e8,q⟩:=qa7.mp q;obtain⟨dx,P,z⟩:=zA1.mp e8;obtain⟨y,B,q⟩:=qa7.mp q;obtain⟨dy,C,G⟩:=zA1.mp B;refine⟨F,s,A,i,p,_,S,e1,v,D.noConfusion,λ u w H1 Q R T=>⟨F,s,A,dk,S.same T,e6,λ vk H2 B2 r2 I _=>?_⟩⟩;have g:=T.trans I;cases r2.asI e7;obtain⟨a,vs,Ael,rfl,J,K,_⟩:=ql9 (S.same g) v Q (R.same I);obtain⟨vx,Bx,hx,rx,_⟩:=K.get P;cases rx.asI z;refine⟨a,vs,k,_,rfl,rfl,J,O,hx,F,s,A,dy,S.same g,C,λ vy H3 B3 r3 U _=>?_⟩;cases r3.asI G;have j:=g.trans U;have S3:=S.same j;obtain⟨a',L,Ael',ea,M,m,wr⟩:=ql9 S3 v Q ((R.same I).same U);cases ea;have hn:k.toNat < ys.length:=(zA4.mp P).1;obtain⟨B',r4,h4⟩:=m.setAt hn (.int (f x y));obtain⟨⟨A',S4,o4,s4⟩,_⟩:=wr _ _ B' [] [] S3.ok r4 λ b=>by have:=h4 b;simpa using this
 refine⟨x,y,rfl,rfl,a,L,k,k.toNat,rfl,rfl,M,?_,l.nx _ σ _ F A' q S4 ((Qb.same j).trans s4)⟩;rw[m.len];unfold ixN;rw[if_pos O,if_pos (by lia)]
noncomputable def Gj(f:Str)(d:D):List (Str×D)->List (Str×D)
 | []=>[(f,d)]
 | (g,x)::r=>if g=f then (g,d)::r else (g,x)::Gj f d r
end
section
variable{c:Vc}{X:Cx}{F:γ->Prop}{H:Hp}{W:St}{ds:Ds}{A T:List γ}{a b e o:Ma}{pos cpos apos:Pos}{te:VT}{pf:PF}{fa fb:FV}{oa ob:Bool}
theorem qR9:∀{a:List (Str×V)}{c:List (Str×D)}{B Tv:List γ}{f:Str}{v:V}{d:D},a.map (·.1)=c.map (·.1)->P3 F H (a.map (·.2)) (c.map (·.2)) B->P' F H v d Tv->(Bn f v a).map (·.1)=(Gj f d c).map (·.1)/\∃ B',P3 F H ((Bn f v a).map (·.2)) ((Gj f d c).map (·.2)) B'/\∀ b,B'.count b<=B.count b+Tv.count b
 | [],[],B,Tv,f,v,d,_,r,rv=>⟨rfl,Tv++[],.cons rv .nil,λ b=>by simp⟩
 | [],_::_,_,_,_,_,_,h,_,_=>by simp at h
 | _::_,[],_,_,_,_,_,h,_,_=>by simp at h
 | (k,w)::r,(k',x)::r',B,Tv,f,v,d,h,rs,rv=>by
   have i:k=k':=by simp at h;exact h.1
   have e:r.map (·.1)=r'.map (·.1):=by simp at h;simpa using h.2
   subst i;cases rs with
   | @cons _ _ B1 _ _ B2 q t =>
     by_cases g:k=f
     . simp only[Bn,Gj,if_pos g,zAx,e,true_and]
       exact⟨Tv++B2,.cons rv t,λ b=>by simp only[zA0];lia⟩
     obtain⟨j,B',l,m⟩:=qR9 (f:=f) e t rv;simp only[Bn,Gj,if_neg g,zAx,j,true_and];exact⟨B1++B',.cons q l,λ b=>by simp only[zA0];have:=m b;lia⟩
def D.ownI(C:γ):D->Option (List (Str×D))
 | .ins false C' fs=>if C'=C then some fs else none
 | _=>none
theorem qaK4{d:D}{C:γ}{fs:List (Str×D)}(h:d.ownI C=some fs):d=.ins false C fs:=by
 cases d with
 | ins z C' b=>cases z with
   | false =>
     have h:(if C'=C then some b else none)=some fs:=h;by_cases a:C'=C
     . rw[if_pos a] at h;cases h;rw[a]
     rw[if_neg a] at h;cases h
   | true=>cases h
 | _=>cases h
theorem qaK3{p:List Nat}{C:γ}{l:List (Str×D)}{u:V}(S:Qc c F H W ds A)(h:Ba ds i p=some (.ins false C l))(E:(W++c.gv)[i]? = some (some u))(G:Walk H u p w) :
   ∃(a dx:γ)(d:List (Str×V))(Ael:List γ),w=.ref a/\H a=some (.ins C dx d)/\d.map (·.1)=l.map (·.1)/\P3 F H (d.map (·.2)) (l.map (·.2)) Ael /\
   ∀(fvs':List (Str×V))(fds':List (Str×D))(B' T:List γ),Ok F H (T++A)->fvs'.map (·.1)=fds'.map (·.1)->P3 F H (fvs'.map (·.2)) (fds'.map (·.2)) B'->(∀ b,B'.count b<=Ael.count b+T.count b) ->
     ∃ A',Qc c F (upd H a (.ins C dx fvs')) W (Bj ds i p (.ins false C fds')) A'/\Qb F H (T++A) F (upd H a (.ins C dx fvs')) A':=by
 obtain⟨B,C0,r,I,J⟩:=S.place h D.noConfusion E G;cases r with
 | @ins a _ dx d _ Ael ha hk rs =>
 refine⟨a,dx,d,Ael,rfl,ha,hk,rs,λ fvs' fds' B' T n q K v=>?_⟩;have m:∀ b,A.count b=(if b=a then 1 else 0)+Ael.count b+C0.count b:=λ b=>by
   rw[I,zAo];by_cases g:b=a
   . subst g;simp;lia
   simp[g,Ne.symm g]
 have s:=m a;rw[if_pos rfl] at s;have sa:=n.sep a;rw[zA0] at sa;have L:=v a;have y:¬ F a:=λ f=>by have:=n.fro a f;rw[zA0] at this;lia
 have k:=qL3 (F:=F) (o':=.ins C dx fvs') ha rfl y;have rep':P' F (upd H a (.ins C dx fvs')) (.ref a) (.ins false C fds') (a::B'):=.ins qb4 q (K.keep k λ b g w=>by subst w;have:=qa9.mp g;lia);obtain⟨A',M,q2⟩:=J _ _ k (λ b g w=>by subst w;have:=qa9.mp g;lia) rep';have t:∀ b,A'.count b=(if b=a then 1 else 0)+B'.count b+C0.count b:=λ b=>by
   rw[q2,zAo];by_cases g:b=a
   . subst g;simp;lia
   simp[g,Ne.symm g]
 have j:∀ b,A'.count b<=(T++A).count b:=λ b=>by rw[zA0,t,m];have:=v b;lia
 have N:∀ b,F b->∃ o,upd H a (.ins C dx fvs') b=some o:=λ b f=>by
   obtain⟨x,e⟩:=n.ex b f;exact⟨x,by rw[qb5 (show b≠a from λ w=>y (w ▸ f))];exact e⟩
 refine⟨A',⟨M,⟨λ b=>zAd (j b) (n.sep b),λ b f=>by have:=n.fro b f;have:=j b;lia,N⟩,S.len,S.ag⟩,λ b u e z=>?_,λ b u e z=>by have:=j b;lia,λ _ f=>f,λ _ _ _ _ f=>f⟩;rw[qb5 λ w=>?_]
 . exact e
 subst w;have:=m b;rw[if_pos rfl] at this;rw[zA0] at z;lia
def sFldV(C:γ)(f:Str)(te:VT)(pf:PF):VTS:=λ e ds=>te ds (λ d ds1=>orF (pf ds1) λ q=>orF ((Ba ds1 q.1 q.2).bind (D.ownI C)) λ fs=>fs.length < 100/\e.nx (Bj ds1 q.1 q.2 (.ins false C (Gj f d fs)))) e.xe
theorem Ic{C:γ}{f:Str}{K:O0}{pos':Pos}(G:X.K=K)(I:VP c X o pf)(k:VE c X e te)(J:Cls K C)(L:qd5 K C f)(M:swapsWith e (some (.Attribute o f pos')) pos.line X.env=pure false:=by rfl):VS c X (.Assign [.Attribute o f pos'] e pos) (sFldV C f te pf):=by
 subst G;refine⟨PS.mono (qaR9 I.h k.h M) λ E W H n=>?_,λ s N t r=>k.m _ _ _ _ _ (λ d b=>qa5 λ _=>qa5 λ _=>Ox (r.nx _)) r.xe⟩;obtain⟨F,t,A,s,S,l,q⟩:=n;refine⟨F,t,A,s.xe,S,l.xe,k.m _ _ _ _ _ (λ d b q v H1 F1 T A1 O S1 P Q=>?_) (λ _ _ z=>z) q⟩;obtain⟨⟨i,p⟩,R,q⟩:=qa7.mp q;obtain⟨U,e2,r,q⟩:=qa7.mp q;obtain⟨dl,x,V⟩:=zA1.mp e2;cases qaK4 V;refine⟨F1,b,A1,i,p,_,S1,R,x,D.noConfusion,λ u w H2 Y Z j=>?_⟩;have S2:=S1.same j;obtain⟨a,dx,g,Ael,rfl,ha,y,rs,wr⟩:=qaK3 S2 x Y Z;have B:g.length=U.length:=by have:=congrArg Mv y;simpa using this
 refine⟨a,C,dx,g,rfl,ha,J,L,by lia,?_⟩;obtain⟨m1,B',m2,m3⟩:=qR9 (f:=f) y rs (O.same j);obtain⟨A',S3,s3⟩:=wr _ _ B' T (P.same j) m1 m2 m3;exact l.nx _ W _ F1 A' q S3 (Q.trans ((Qb.same j).trans s3))
def Fp(x:V):List V->Option Nat
 | []=>none
 | y::r=>if eqV y x=true then some 0 else (Fp x r).map (· + 1)
theorem qau2{x:V}:∀{xs:List V}{j:Nat},Fp x xs=some j->∃ z,xs[j]? = some z/\eqV z x=true/\∀ m z',m < j->xs[m]? = some z'->eqV z' x=false
 | [],j,h=>by cases h
 | y::r,j,h=>by
   unfold Fp at h;by_cases a:eqV y x=true
   . rw[if_pos a] at h;cases h
     exact⟨y,rfl,a,λ m z' c=>by lia⟩
   rw[if_neg a] at h;obtain⟨k,d,rfl⟩:=zAh.mp h;obtain⟨z,e,f,g⟩:=qau2 d;refine⟨z,by simpa using e,f,λ m z' c b=>?_⟩;cases m with
   | zero =>
     have:y=z':=by simpa using b
     subst this;simpa using a
   | succ m=>exact g m z' (by lia) (by simpa using b)
def Jp(x y:D):Option D:=match x with
 | .l _ ys=>y.flat.bind λ v=>(flats ys).bind λ a=>(Fp v a).map λ j=>.int (j:Nat)
 | _=>none
def Jq(x y:D):Option D:=match x with
 | .l _ ys=>y.flat.bind λ v=>(flats ys).bind λ a=>some (.int (a.countP (λ z=>eqV z v):Nat))
 | _=>none
def rL1(r:V->List V->Hp->VK->Prop):R2:=λ x y H Q=>r x [y] H Q
theorem qam0:A8 true (rL1 qaH2) Jp:=by
 intro F H v w x y B d Q r h q;cases r with | @cons _ _ A _ _ _ b t=>cases t with | @cons _ _ A2 _ _ _ c _ =>
 cases x with
 | l z s =>
   obtain⟨u,e,h⟩:=zA1.mp h;obtain⟨C,i,h⟩:=zA1.mp h;obtain⟨j,k,rfl⟩:=zAh.mp h;obtain⟨rfl,f⟩:=c.flat e;obtain⟨a,l,A3,rfl,m,n,_⟩:=b.lst_inv;obtain⟨rfl,g⟩:=n.flats i;obtain⟨z,o,q2,p⟩:=qau2 k;exact⟨a,l,w,j,z,rfl,rfl,m,f,g,o,q2,p,q _ H [] (.int _) (λ _ _ z=>z) New.nil⟩
 | _=>cases h
theorem qaK5:A8 true (rL1 qaH4) Jq:=by
 intro F H v w x y B d Q r h q;cases r with | @cons _ _ A _ _ _ b t=>cases t with | @cons _ _ A2 _ _ _ c _ =>
 cases x with
 | l z m =>
   obtain⟨n,e,h⟩:=zA1.mp h;obtain⟨o,i,h⟩:=zA1.mp h;cases h;obtain⟨rfl,f⟩:=c.flat e;obtain⟨a,j,A3,rfl,k,l,_⟩:=b.lst_inv;obtain⟨rfl,g⟩:=l.flats i;exact⟨a,j,w,rfl,rfl,k,f,g,q _ H [] (.int _) (λ _ _ z=>z) New.nil⟩
 | _=>cases h
theorem vbm{r:V->List V->Hp->VK->Prop}{g:D->D->Option D}{name:Str}{id:String}(C:A8 true (rL1 r) g)(E:PlainAttrs "list")(slot:Slot "list" name id)(i:typeOf (.builtin id)=pure (.type "method_descriptor"))(hm:MtM X id r)(G:VV c X o oa fa)(I:VV c X b ob fb)(J:∀ x y d,g x y=some d->∃ z ys,x=.l z ys)(hbase:Ln o name X.env (eval o X.env)=eval o X.env:=by rfl)(f:((backTo cpos (Lf [b] X.env)).all (λ x=>!x.1)&&(backToKw cpos (Lu [] X.env)).all (λ x=>x.1.isSome)
     && decide (([b]:List Ma).length+([]:List Keyword).length+(if ([]:List Keyword).isEmpty then 0 else 1) < 30))=true:=by rfl)(hline:(apos.endLine == cpos.line)=true:=by rfl)(n:Lf [b] X.env=(false,eval b X.env)::Lf [] X.env:=by rfl)(hplain:(backTo cpos (Lf [] X.env)).any (·.1)=false:=by rfl) :
   VV c X (.Call (.Attribute o name apos) [b] [] cpos) true (f2 g fa fb):=by
 refine⟨PE.mono (Kb E slot i hm G.h (qf2 I.h qx9 n) hbase f hline n hplain) λ W H Q j=>?_⟩;obtain⟨F,p,A,d,S,e,q⟩:=j;obtain⟨x,y,K,L,s⟩:=qaD0.mp e;obtain⟨z,ys,rfl⟩:=J x y d s;refine⟨F,p,A,_,S,K,λ v H1 B1 t k R=>?_⟩;obtain⟨a,M,A3,rfl,l,T,_⟩:=t.lst_inv;refine⟨.inl ⟨rfl,M,.inl (.inl l)⟩,F,p,A,y,S.same k,L,λ w H2 B2 N m U=>?_⟩;exact C F H2 _ w _ y _ d Q (G9 (t.same m) N) s λ u H3 B3 O P B=>q u H3 B3 O ((k.trans m).trans P) λ _=>⟨B.one,λ b o e=>B.new b o (m b o (k b o e))⟩
theorem qT2:∀ x y d,Jp x y=some d->∃ z ys,x=.l z ys:=λ x y d h=>by cases x with | l z ys=>exact⟨z,ys,rfl⟩ | _=>cases h
theorem qav1:∀ x y d,Jq x y=some d->∃ z ys,x=.l z ys:=λ x y d h=>by cases x with | l z ys=>exact⟨z,ys,rfl⟩ | _=>cases h
end
def Ey(g:VTG)(t:VTS)(e:VEnds):List D->Ds->Prop
 | [],ds=>e.nx ds
 | x::xs,ds=>g x ds λ ds1=>t { e with nx:=Ey g t e xs,ct:=Ey g t e xs,bk:=e.nx } ds1
def whN(qc:VTT)(t:VTS)(e:VEnds):Nat->Ds->Prop
 | 0,_=>False
 | n+1,ds=>qc ds (λ b ds1=>if b=true then t { e with nx:=whN qc t e n,ct:=whN qc t e n,bk:=e.nx } ds1 else e.nx ds1) e.xe
def qaG7(qc:VTT)(t:VTS):VTS:=λ e ds=>∃ n,whN qc t e n ds
section
variable{c:Vc}{X:Cx}{a b e tg:Ma}{body:List Mb}{g:VTG}{t:VTS}{te:VT}{qc:VTT}{pos:Pos}
theorem qq2(d:VG c X tg g)(e:VSs c X body t){en b:VEnds}(a:en.Le b):∀(xs:List D) ds,Ey g t en xs ds->Ey g t b xs ds
 | [],ds=>a.nx ds
 | x::xs,ds=>d.m _ _ _ _ λ f=>e.m _ _ _ ⟨qq2 d e a xs,a.rt,a.nx,qq2 d e a xs,a.xe⟩
theorem qL4{cd:Ma}(e:VTe c X cd qc)(f:VSs c X body t){en d:VEnds}(a:en.Le d):∀(n:Nat) ds,whN qc t en n ds->whN qc t d n ds
 | 0,ds=>id
 | n+1,ds=>e.m _ _ _ _ _ (λ b g=>qC5 (f.m _ _ _ ⟨qL4 e f a n,a.rt,a.nx,qL4 e f a n,a.xe⟩) (a.nx _)) a.xe
theorem qar2(r:PassesOwn (L6 X.prog X.w) X.A X.env X.xe)(g:VTe c X cd qc)(o:VSs c X body t):VS c X (.While cd body [] pos) (qaG7 qc t):=by
 refine⟨PS.mono (qay4 r g.h o.h) λ E σ H i=>?_,λ d s e u ⟨n,q⟩=>⟨n,qL4 g o u n e q⟩⟩;obtain⟨F,e,A,d,S,l,n,q⟩:=i;refine⟨λ m σ H=>∃ F e A,Qc c F H σ e A/\Lk c E F H A d/\whN qc t d m e,⟨n,F,e,A,S,l,q⟩,?_⟩;rintro m σ H ⟨F,e,A,S,l,q⟩;cases m with
 | zero=>exact q.elim
 | succ m =>
   refine⟨F,e,A,d.xe,S,l.xe,g.m _ _ _ _ _ (λ b j q H1 F1 A1 S1 p=>?_) (λ _ _ z=>z) q⟩;cases b with
   | false=>rw[if_neg (by decide)] at q ⊢;exact l.nx _ _ _ _ _ q S1 p
   | true =>
     rw[if_pos rfl] at q ⊢;have f:=l.step p;refine⟨λ σ' H'=>∃ F' a A',Qc c F' H' σ' a A'/\Lk c E F' H' A' d/\whN qc t d m a,λ σ' H' h=>⟨m,by lia,h⟩,F1,j,A1,{ d with nx:=whN qc t d m,ct:=whN qc t d m,bk:=d.nx },S1,⟨?_,f.rt,f.nx,?_,f.xe⟩,q⟩
     . exact λ a σ' H' F' A' q S' k=>⟨F',a,A',S',f.step k,q⟩
     exact λ a σ' H' F' A' q S' k=>⟨F',a,A',S',f.step k,q⟩
theorem qZ7{E:Bw}{en:VEnds}{F:γ->Prop}{H:Hp}{σ:St}{ds:Ds}{A:List γ}{x:V}{y:D}{N:St->Hp->Prop}{b:Ds->Prop}(i:VG c X tg g)(S:Qc c F H σ ds A)(l:Lk c E F H A en)(r:P' F H x y [])(h:∀ a σ' H' F' A',b a->Qc c F' H' σ' a A'->Qb F H A F' H' A'->N σ' H')(q:g y ds λ ds1=>t { en with nx:=b,ct:=b,bk:=en.nx } ds1) :
   Gx c g x σ H λ σ2 H2=>Fl c t { E with nx:=N,ct:=N,bk:=E.nx } σ2 H2:=by
 refine⟨F,ds,A,[],y,r,S,S.ok,i.m _ _ _ _ (λ ds1 q σ1 H1 F1 A1 S1 d=>?_) q⟩;have e:=l.step d;exact⟨F1,ds1,A1,{ en with nx:=b,ct:=b,bk:=en.nx },S1,⟨λ a σ' H' F' A' q S' f=>h a σ' H' F' A' q S' (Qb.trans d f),e.rt,e.nx,λ a σ' H' F' A' q S' f=>h a σ' H' F' A' q S' (Qb.trans d f),e.xe⟩,q⟩
noncomputable def D.lstOf:D->Option Ds
 | .l _ ys=>some ys
 | _=>none
theorem qy8{d:D}{ys:Ds}(h:d.lstOf=some ys):∃ z,d=.l z ys:=by
 cases d with
 | l z a=>cases h;exact⟨z,rfl⟩
 | _=>cases h
theorem qt2:∀{ys:List D}{i:Nat}{y:D},D.imms ys=true->ys[i]? = some y->y.imm=true
 | [],i,y,_,h=>by simp at h
 | d::r,0,y,hm,h=>by
   have:d=y:=by simpa using h
   subst this;exact(zAi.mp hm).1
 | d::r,i+1,y,hm,h=>qt2 (zAi.mp hm).2 (by simpa using h)
theorem qm0{xs:List α}{x:α}(h:xs[i]? = some x):xs.drop i=x::xs.drop (i+1):=by
 obtain⟨a,rfl⟩:=zA4.mp h;exact zC5 a
def sForL(te:VT)(g:VTG)(t:VTS):VTS:=λ e ds=>te ds (λ d ds1=>orF d.lstOf λ ys=>D.imms ys=true/\Ey g t e ys ds1) e.xe
theorem Ku(hp:PassesOwn (L6 X.prog X.w) X.A X.env X.xe)(hi:VE c X e te)(G:VG c X tg g)(Q:VSs c X body t)(R:X.calm=true:=by rfl)(I:∀ v,Li e X.env v=pure v:=by intro _;rfl):VS c X (.For tg e body [] pos) (sForL te g t):=by
 refine⟨PS.mono (qay6 hp R (qx8 hi.h) G.h Q.h I) λ E σ H J=>?_,λ s a0 k U=>hi.m _ _ _ _ _ (λ d n=>qa5 λ u=>Ox (qq2 G Q U u n)) U.xe⟩;obtain⟨F,k,A,s,S,l,q⟩:=J;refine⟨F,k,A,s.xe,S,l.xe,hi.m _ _ _ _ _ (λ d n q v H1 F1 T A1 V S1 o1 s1=>?_) (λ _ _ z=>z) q⟩;obtain⟨u,ey,hm,qf⟩:=qa7.mp q;obtain⟨z,rfl⟩:=qy8 ey;obtain⟨a,C,Ael,rfl,j,rs,_⟩:=V.lst_inv;have L:Qb F H A F1 H1 A1:=s1.count λ b=>by rw[zA0];lia
 refine⟨a,rfl,⟨C,.inl (.inl j)⟩,qah0 (K:=X.K) (a:=a) (xs:=C) (λ i σ H=>∃ F k A,Qc c F H σ k A/\Lk c E F H A s/\P' F H (.ref a) (.l z u) T/\H a=some (.l C)/\Ok F H (T++A)/\Ey g t s (u.drop i) k) ⟨F1,n,A1,S1,l.step L,V,j,o1,qf⟩ ?_ ?_ ?_⟩
 . rintro i σ H _ ⟨F,k,A,S,l,r,j,o,q⟩
   exact .inl (.inl j)
 . rintro i x σ H hx ⟨F,k,A,S,l,r,j,o,q⟩
   obtain⟨a',a1,Ael',ea,p,M,_⟩:=r.lst_inv;cases ea;rw[j] at p;cases p;obtain⟨y,B,W,Y⟩:=M.getV hx
   have:=Y.imm (qt2 hm W)
   subst this;rw[qm0 W] at q;refine qZ7 G S l Y (λ N σ' H' F' A' q' S' O=>?_) q;have D:=O.kp S.ok S.loc.cells;have Z:∀ b∈T,¬ (A.count b≠0):=λ b hb R=>by
     have:=o.sep b
     rw[zA0] at this
     have:=qa9.mp hb
     lia
   have r':=r.keep D Z;obtain⟨o',_⟩:=O.frame o r.cells S'.ok;have P:H' a=some (.l C):=by
     cases r with
     | l h _=>exact D.fr _ _ j (Z _ zAa)
     | lstZ h f _=>exact D.fr _ _ j λ w=>D.wf _ w f
   exact⟨F',N,A',S',l.step O,r',P,o',q'⟩
 rintro σ H ⟨F,k,A,S,l,r,j,o,q⟩;rw[rs.len,Nk] at q;exact l.nx _ _ _ _ _ q S Qb.refl
noncomputable def Bu(lo:Int)(n:Nat):List D:=(Ms n).map λ(i:Nat)=>.int (lo+(i:Int))
theorem qac0(h:i < n):(Bu lo n)[i]? = some (.int (lo+(i:Int))):=by
 unfold Bu;rw[zB8,List.getElem?_range h];rfl
theorem qas1(lo:Int)(n:Nat):(Bu lo n).length=n:=by simp[Bu]
noncomputable def Hc(i:Int):Bool:=decide (-(2 ^ 62)<=i)&&decide (i < 2 ^ 62)
theorem qae4{i:Int}(h:Hc i=true):-(2 ^ 62)<=i/\i < 2 ^ 62:=by
 have:=zAi.mp h
 exact⟨zAb this.1,zAb this.2⟩
theorem qaO1{E:Bw}{en:VEnds}{F:γ->Prop}{H:Hp}{σ:St}{ds:Ds}{A:List γ}(d:VG c X tg g)(S:Qc c F H σ ds A)(l:Lk c E F H A en)(q:Ey g t en (Bu lo n) ds) :
   ∃ W:Nat->Nat->St->Hp->Prop,(∃ m,W 0 m σ H)/\∀ i m σ H,W i m σ H ->
     ((Itr lo n).stop i H/\E.nx σ H)∨((Itr lo n).go i H/\∃ N:St->Hp->Prop,(∀ σ' H',N σ' H'->∃ b,b < m/\W (i+1) b σ' H')/\∀ x H',(Itr lo n).yld i H x H'->Gx c g x σ H' λ σ2 H2=>Fl c t { E with nx:=N,ct:=N,bk:=E.nx } σ2 H2):=by
 refine qao1 (λ i σ H=>∃ F ds A,Qc c F H σ ds A/\Lk c E F H A en/\Ey g t en ((Bu lo n).drop i) ds) ⟨F,ds,A,S,l,q⟩ ?_ ?_
 . rintro i σ H e ⟨F,ds,A,S,l,q⟩
   rw[qm0 (qac0 e)] at q;exact qZ7 d S l (.int _) (λ a σ' H' F' A' f S' h=>⟨F',a,A',S',l.step h,f⟩) q
 rintro σ H ⟨F,ds,A,S,l,q⟩;rw[M8 (by rw[qas1];exact zA3 _)] at q;exact l.nx _ _ _ _ _ q S Qb.refl
noncomputable def Kv:Ds->Option Int
 | [.int j]=>some j
 | _=>none
theorem qat0{xs:Ds}{j:Int}(h:Kv xs=some j):xs=[.int j]:=by
 unfold Kv at h;split at h
 . cases h;rfl
 cases h
def qal5(tr:VTA)(g:VTG)(t:VTS):VTS:=λ e ds=>tr ds (λ xs ds1=>orF (Kv xs) λ j=>Hc j=true/\Ey g t e (Bu 0 j.toNat) ds1) e.xe
theorem qM8{tr:VTA}{p cpos:Pos}(s:PassesOwn (L6 X.prog X.w) X.A X.env X.xe)(hm:X.mg "range" = none)(d:VOs c X [a] tr)(e:VG c X tg g)(k:VSs c X body t)(f:Gl X "range" := by rfl)(u:Lf [a] X.env=[(false,eval a X.env)]:=by rfl)(x:X.calm=true:=by rfl) :
   VS c X (.For tg (.Call (.Name "range" p) [a] [] cpos) body [] pos) (qal5 tr g t):=by
 refine⟨PS.mono (qay6 s x (qS1 f hm d.h u) e.h k.h) λ E σ H i=>?_,λ n y o r=>d.m _ _ _ _ _ (λ B b=>qa5 λ j=>Ox (qq2 e k r _ b)) r.xe⟩;obtain⟨F,o,A,n,S,l,q⟩:=i;refine⟨F,o,A,n.xe,S,l.xe,d.m _ _ _ _ _ (λ B b q K H1 F1 T A1 C S1 D=>?_) (λ _ _ z=>z) q⟩;obtain⟨j,G,hm,I⟩:=qa7.mp q;cases qat0 G;obtain⟨v,rfl,J⟩:=C.one_inv;cases J
 have:=qae4 hm
 exact⟨j,rfl,this.1,this.2,qaO1 e S1 (l.step D) I⟩
def tFzV(te:VT):VT:=λ ds Q xe=>te ds (λ d ds1=>Q d.fz ds1) xe
theorem efzV(h:VE c X e te):VE c X e (tFzV te):=by
 refine⟨PE.mono h.h λ σ H Q a=>?_,λ i Q Q' j n o p=>h.m _ _ _ _ _ (λ d g=>o _ _) p⟩;obtain⟨F,i,A,j,S,x,q⟩:=a;refine⟨F,i,A,j,S,x,h.m _ _ _ _ _ (λ d g q v H1 F1 T A1 k S1 r s=>?_) (λ _ _ z=>z) q⟩;have t:=k.fz (F':=λ b=>F1 b∨b∈T) (λ b f=>.inl f) λ b u=>.inr u
 obtain⟨l,w⟩:=share (A:=T++A1) (B:=T) (C:=A1) r (λ b=>by rw[zA0]) k.cells (A':=A1) (λ b=>rfl);have L:=S1.loc.keep (Kp.more (H:=H1) λ b f=>P0 (b:=b∈T) f) λ _ _ z=>z
 exact q v H1 _ [] A1 t ⟨L,l,S1.len,S1.ag⟩ l (s.trans w)
end
def bk1(i:Nat)(p:List Nat)(w:V)(d0:D)(ds:Ds):Option Ds:=Au [.pl i p w] [d0] ds
def I9(i:Nat)(p:List Nat)(w:V)(d0:D)(e:VEnds):VEnds where
 nx ds:=orF (bk1 i p w d0 ds) e.nx
 rt d ds:=orF (bk1 i p w d0 ds) (e.rt d)
 bk ds:=orF (bk1 i p w d0 ds) e.bk
 ct ds:=orF (bk1 i p w d0 ds) e.ct
 xe x ds:=orF (bk1 i p w d0 ds) (e.xe x)
section
variable{c:Vc}{X:Cx}{a b e tg o:Ma}{body:List Mb}{g:VTG}{t:VTS}{pos:Pos}{pf:PF}{F F1:γ->Prop}{H H1:Hp}{σ:St}{ds ds1:Ds}{A A1 B:List γ}{E:Bw}{en:VEnds}
theorem qp9{p:List Nat}{d0:D}{F':γ->Prop}{H':Hp}{a d:Ds}{A':List γ}(f:Ok F1 H1 (B++A1))(S1:Qc c F1 H1 σ ds1 A1)(r:P' F1 H1 w d0 B)(S':Qc c F' H' σ' a A')(s':Qb F1 H1 A1 F' H' A')(h:bk1 i p w d0 a=some d) :
   ∃ A2,Qc c F' H' σ' d A2/\Ok F' H' (B++A')/\Qb F1 H1 (B++A1) F' H' (B++A')/\∀ b,A2.count b<=B.count b+A'.count b:=by
 obtain⟨g,j⟩:=s'.frame f r.cells S'.ok;have k:P' F' H' w d0 B:=r.keep (s'.kp S1.ok S1.loc.cells) λ b l e=>by
   have:=f.sep b
   rw[zA0] at this
   have:=qa9.mp l
   lia
 obtain⟨A2,m,q2⟩:=qt8 (pls:=[.pl i p w]) (vs:=[w]) (more:=[]) (ys:=[d0]) (.so .nil) (.cons k .nil) S'.loc h;have e:∀ b,A2.count b<=B.count b+A'.count b:=λ b=>by have:=q2 b;simp only[zAg] at this;exact this
 exact⟨A2,⟨m,g.count λ b=>by rw[zA0];exact e b,S'.len,S'.ag⟩,g,j,e⟩
theorem Lk.lend{p:List Nat}{d0:D}(l:Lk c E F H A en)(k:Qb F H A F1 H1 (B++A1))(j:Ok F1 H1 (B++A1))(S1:Qc c F1 H1 σ ds1 A1)(r:P' F1 H1 w d0 B):Lk c E F1 H1 A1 (I9 i p w d0 en) where
 nx ds' σ' H' F' A' q S' s':=by
   obtain⟨a,f,q⟩:=qa7.mp q;obtain⟨A2,S2,n,h,g⟩:=qp9 j S1 r S' s' f;exact l.nx _ _ _ _ A2 q S2 ((k.trans h).count λ b=>by rw[zA0];exact g b)
 bk ds' σ' H' F' A' q S' s':=by
   obtain⟨a,f,q⟩:=qa7.mp q;obtain⟨A2,S2,n,h,g⟩:=qp9 j S1 r S' s' f;exact l.bk _ _ _ _ A2 q S2 ((k.trans h).count λ b=>by rw[zA0];exact g b)
 ct ds' σ' H' F' A' q S' s':=by
   obtain⟨a,f,q⟩:=qa7.mp q;obtain⟨A2,S2,n,h,g⟩:=qp9 j S1 r S' s' f;exact l.ct _ _ _ _ A2 q S2 ((k.trans h).count λ b=>by rw[zA0];exact g b)
 xe x ds' σ' e H' F' A' q rx S' s':=by
   obtain⟨a,f,q⟩:=qa7.mp q;obtain⟨A2,S2,n,h,g⟩:=qp9 j S1 r S' s' f;exact l.xe x a σ' e H' F' A2 q rx S2 ((k.trans h).count λ b=>by rw[zA0];exact g b)
 rt d ds' v σ' H' F' T A' q rv S' oT s':=by
   obtain⟨a,f,q⟩:=qa7.mp q;have o:Qb F1 H1 A1 F' H' A':=s'.count λ b=>by rw[zA0];lia
   obtain⟨A2,S2,n,h,g⟩:=qp9 j S1 r S' o f;obtain⟨s,t⟩:=s'.frame j r.cells oT;have m:∀ b,(T++A2).count b<=(B++(T++A')).count b:=λ b=>by simp only[zA0];have:=g b;lia
   exact l.rt d a v σ' H' F' T A2 q rv S2 (s.count m) ((k.trans t).count m)
theorem qaM1{p:List Nat}{d0:D}{en a:VEnds}(b:en.Le a):(I9 i p w d0 en).Le (I9 i p w d0 a) :=
 ⟨λ c=>qa5 b.nx,λ d c=>qa5 (b.rt d),λ c=>qa5 b.bk,λ c=>qa5 b.ct,λ x c=>qa5 (b.xe x)⟩
structure Held(F:γ->Prop)(H:Hp)(a:γ)(vs:List V)(z:Bool)(ys:Ds)(T A:List γ):Prop where
 r:P' F H (.ref a) (.l z ys) T
 h:H a=some (.l vs)
 o:Ok F H (T++A)
theorem Held.step{ys:Ds}{T:List γ}{a:γ}{F':γ->Prop}{H':Hp}{e:Ds}{A':List γ}(h:Held F H a vs z ys T A)(S:Qc c F H σ ds A)(S':Qc c F' H' σ' e A')(s':Qb F H A F' H' A'):Held F' H' a vs z ys T A':=by
 obtain⟨r,g,o⟩:=h;have d:=s'.kp S.ok S.loc.cells;have i:∀ b∈T,¬ (A.count b≠0):=λ b j k=>by
   have:=o.sep b
   rw[zA0] at this
   have:=qa9.mp j
   lia
 refine⟨r.keep d i,?_,(s'.frame o r.cells S'.ok).1⟩;cases r with
 | l h _=>exact d.fr _ _ g (i _ zAa)
 | lstZ h f _=>exact d.fr _ _ g λ w=>d.wf _ w f
theorem Held.get{ys:Ds}{T:List γ}{a:γ}{x:V}(h:Held F H a vs z ys T A)(hm:D.imms ys=true)(f:vs[i]? = some x):∃ y,ys[i]? = some y/\P' F H x y []:=by
 obtain⟨k,g,Ael',j,b,c,_⟩:=h.r.lst_inv;cases j
 have:=h.h
 rw[b] at this;cases this;obtain⟨y,B,d,e⟩:=c.getV f
 have:=e.imm (qt2 hm d)
 subst this;exact⟨y,d,e⟩
theorem Held.len{ys:Ds}{T:List γ}{a:γ}(h:Held F H a vs z ys T A):vs.length=ys.length:=by
 obtain⟨f,d,Ael',e,b,c,_⟩:=h.r.lst_inv;cases e
 have:=h.h
 rw[b] at this;cases this;exact c.len
theorem qP7{K:O0}{ys:Ds}{T:List γ}{a:γ}(j:VG c X tg g)(S:Qc c F H σ ds A)(l:Lk c E F H A en)(b:Held F H a vs z ys T A)(hm:D.imms ys=true)(q:Ey g t en ys ds) :
   ∃ W:Nat->Nat->St->Hp->Prop,(∃ m,W 0 m σ H)/\∀ i m σ H,W i m σ H ->
     ((Itl K a).stop i H/\E.nx σ H)∨((Itl K a).go i H/\∃ N:St->Hp->Prop,(∀ σ' H',N σ' H'->∃ e,e < m/\W (i+1) e σ' H')/\∀ x H',(Itl K a).yld i H x H'->Gx c g x σ H' λ σ2 H2=>Fl c t { E with nx:=N,ct:=N,bk:=E.nx } σ2 H2):=by
 refine qah0 (xs:=vs) (λ i σ H=>∃ F ds A,Qc c F H σ ds A/\Lk c E F H A en/\Held F H a vs z ys T A/\Ey g t en (ys.drop i) ds) ⟨F,ds,A,S,l,b,q⟩ ?_ ?_ ?_
 . rintro i σ H _ ⟨F,ds,A,S,l,b,q⟩
   exact .inl (.inl b.h)
 . rintro i x σ H k ⟨F,ds,A,S,l,b,q⟩
   obtain⟨y,n,o⟩:=b.get hm k;rw[qm0 n] at q;exact qZ7 j S l o (λ d σ' H' F' A' p S' f=>⟨F',d,A',S',l.step f,b.step S S' f,p⟩) q
 rintro σ H ⟨F,ds,A,S,l,b,q⟩;rw[b.len,Nk] at q;exact l.nx _ _ _ _ _ q S Qb.refl
def sForP(pf:PF)(g:VTG)(t:VTS):VTS:=λ e ds=>orF (pf ds) λ q=>orF (Ba ds q.1 q.2) λ d=>orF d.lstOf λ ys=>D.imms ys=true/\∀ w,Ey g t (I9 q.1 q.2 w d e) ys (Bj ds q.1 q.2 (.hole w))
theorem Ja(J:PassesOwn (L6 X.prog X.w) X.A X.env X.xe)(hi:VP c X o pf)(j:VG c X tg g)(y:VSs c X body t)(K:X.calm=true:=by rfl)(k:∀ v,Li o X.env v=pure v:=by intro _;rfl):VS c X (.For tg o body [] pos) (sForP pf g t):=by
 refine⟨PS.mono (qay6 J K (qx8 hi.h) j.h y.h k) λ E σ H m=>?_,λ L M n N=>qa5 λ q=>qa5 λ d=>qa5 λ O=>Ox λ h w=>qq2 j y (qaM1 N) _ _ (h w)⟩;obtain⟨F,n,A,L,S,l,q⟩:=m;obtain⟨⟨i,p⟩,P,q⟩:=qa7.mp q;obtain⟨d,e2,q⟩:=qa7.mp q;obtain⟨O,Q,R,q⟩:=qa7.mp q;obtain⟨z,rfl⟩:=qy8 Q;refine⟨F,n,A,i,p,_,S,P,e2,D.noConfusion,λ u w H1 T U s=>?_⟩;obtain⟨B,C,r,G,V⟩:=(S.same s).place e2 D.noConfusion T U;obtain⟨A1,W,q2⟩:=V (.hole w) [] (Kp.same (F:=F) λ _ _ z=>z) (λ _ _ z=>z) (.hole w);have x:Ok F H1 (B++A1):=(S.same s).ok.count λ b=>by rw[zA0,q2,G];simp
 have Y:Qb F H A F H1 (B++A1):=⟨λ b o e _=>s b o e,λ b o e z=>by rw[zA0,q2];have:=G b;simp;lia,λ _ f=>f,λ _ _ _ _ f=>f⟩
 have S1:Qc c F H1 σ (Bj n i p (.hole w)) A1:=⟨W,x.right,S.len,S.ag⟩
 obtain⟨a,Z,Ael,rfl,I,rs,_⟩:=r.lst_inv;exact⟨a,rfl,⟨Z,.inl (.inl I)⟩,qP7 j S1 (l.lend Y x S1 r) ⟨r,I,x⟩ R (q _)⟩
noncomputable def enD(ys:Ds):List D:=ys.zipIdx.map λ p=>.q [.int (p.2:Int),p.1]
theorem qaW7{ys:Ds}{y:D}(h:ys[i]? = some y):(enD ys)[i]? = some (.q [.int (i:Int),y]):=by
 unfold enD;rw[zB8,List.getElem?_zipIdx,h];simp
theorem qaD8(ys:Ds):(enD ys).length=ys.length:=by simp[enD]
end
noncomputable def fin(W:Nat->Bool):Nat->Ds->Ds->Ds
 | k,d::r,d'::r'=>(if W k=true then d' else d)::fin W (k+1) r r'
 | _,_,_=>[]
noncomputable def Ie(W:Nat->Bool):Nat->Ds->Bool
 | _,[]=>true
 | k,d::r=>(W k||d.imm)&&Ie W (k+1) r
def qap2(W:Nat->Bool)(ds:Ds)(Q:DK)(xe:XKd):VEnds where
 nx ds':=Q .non (fin W 0 ds ds')
 rt d ds':=Q d (fin W 0 ds ds')
 bk _:=False
 ct _:=False
 xe x ds':=xe x (fin W 0 ds ds')
section
variable{F F':γ->Prop}{H H':Hp}
theorem qaW3{W:Nat->Bool}{Wr:γ->Prop}(q:Kp F H Wr F' H'):∀{vs:List V}{ds:Ds}{A:List γ}{k:Nat}{w':List (Option V)}{a:Ds}{A':List γ},P3 F H vs ds A->Ie W k ds=true->Locs F' H' w' a A'->vs.length<=w'.length->(∀ i,i < vs.length->W (k+i)=true->w'[i]? = (vs.map some)[i]?) ->
   ∃ A2,P3 F' H' vs (fin W k ds a) A2/\∀ b,A2.count b<=A'.count b:=by
 intro vs
 induction vs with
 | nil =>
   intro ds A k w' a A' r g L n l;cases r;exact⟨[],by cases a<;>exact .nil,λ b=>by simp⟩
 | cons v vs s =>
   intro ds A k w' a A' r g L n l;cases r with
   | @cons _ d B _ ds B2 r1 t =>
     have g:=zAi.mp g;have step:∀{σ2:List (Option V)}{f:Ds}{A2:List γ}(o:Option V),w'=o::σ2->Locs F' H' σ2 f A2->∃ A3,P3 F' H' vs (fin W (k+1) ds f) A3/\∀ b,A3.count b<=A2.count b:=λ{σ2 f A2} o e L2=>by
       subst e;refine s t g.2 L2 (by simpa using n) λ i j c=>?_
       have:=l (i+1) (by simpa using j) (by rw[<- c];congr 1;lia)
       simpa using this
     cases L with
     | nil=>simp at n
     | no L2 =>
       obtain⟨A3,m,q2⟩:=step none rfl L2;by_cases c:W k=true
       . have:=l 0 (by simp) (by simpa using c)
         simp at this
       have j:d.imm=true:=by
         rcases Bool.or_eq_true_iff.mp g.1 with h | h
         . exact absurd h c
         exact h
       have:=r1.imm j
       subst this;refine⟨[]++A3,?_,λ b=>by simpa using q2 b⟩;show P3 F' H' (v::vs) ((if W k=true then _ else d)::_) _;rw[if_neg c];exact .cons (r1.keep q λ b p=>by cases p) m
     | @so v' d' B' σ2 f A2 rr L2 =>
       obtain⟨A3,m,q2⟩:=step (some v') rfl L2;by_cases c:W k=true
       . have:=l 0 (by simp) (by simpa using c)
         simp at this;subst this;refine⟨B'++A3,?_,λ b=>by simp only[zA0];have:=q2 b;lia⟩;show P3 F' H' (v'::vs) ((if W k=true then d' else d)::_) _;rw[if_pos c];exact .cons rr m
       have j:d.imm=true:=by
         rcases Bool.or_eq_true_iff.mp g.1 with h | h
         . exact absurd h c
         exact h
       have:=r1.imm j
       subst this;refine⟨[]++A3,?_,λ b=>by simp only[zBi,zA0];have:=q2 b;lia⟩;show P3 F' H' (v::vs) ((if W k=true then d' else d)::_) _;rw[if_neg c];exact .cons (r1.keep q λ b p=>by cases p) m
theorem P3.locs{ds:Ds}{A:List γ}(r:P3 F H vs ds A):Locs F H (vs.map some) ds A:=by
 induction vs generalizing ds A with
 | nil=>cases r;exact .nil
 | cons v vs a=>cases r with | cons h t=>exact .so h (a t)
theorem qF0:∀ n:Nat,Locs F H (Mr n none) (Mr n .u) []
 | 0=>.nil
 | n+1=>.no (qF0 n)
end
structure FunE(K:O0)(x qual:Str)(st:Mb)(f:γ)(fd:ε):Prop where
 ex:∃(oc:V')(od:Option γ)(dV kV doc pm:V')(an:Option γ)(cdv ct:V')(osl:Array (Option V')),
   fd=W.fnOf x qual (qe7 st) (qc9 st) (qa3 st) dV kV doc pm an cdv ct/\K.lookup f=some ⟨oc,od,.func fd,osl⟩/\W.codeIn K cdv qual=true
theorem FunE.of{K:O0}{x qual:Str}{st:Mb}{f:γ}{fd:ε}(F:Fun K x qual st f fd):FunE K x qual st f fd :=
 by obtain⟨g,h,kV,a,i,j,b,k,c,e,l,d⟩:=F.ex;exact⟨⟨g,h,.none,kV,a,i,j,b,k,c,e,l,d⟩⟩
theorem FunE.okX{P:L7}{w:L9}{K:O0}{x qual:Str}{st:Mb}{f:γ}{fd:ε}{ps:List Str}{k:Nat}{sp:Sp}(F:FunE K x qual st f fd)(S:qa8 N ps (qa3 st))(len:∀ vs H Q E,sp vs H Q E->vs.length=ps.length)(hbody:∀(a:V')(A:L8)(outer:List Env)(s:δ)(H:Hp)(vs:List V)(Q:VK)(E:XK),Qd cm k (A.deeper (PyProof.Rows.envOfC qual (qa3 st) s.heap.objs.size f a))->sp vs H Q E ->
     ∃ t,PSs (Fi cm (CX1 P w) P w K mg base N qual (qa3 st) f a A outer s H E) (qc9 st) t/\t { nx:=λ _ H'=>Q .non H',rt:=Q } (L2.start N vs) H):Ez cm P w K mg base (CX1 P w) (k+1) f fd ps sp:=by
 obtain⟨i,j,l,kV,d,m,n,a,o,e,rfl,g,b⟩:=F.ex;exact J1 g b S len λ A outer s H vs Q E h c=>hbody a A outer s H vs Q E h c
theorem VFn.mkE{P:L7}{w:L9}{K:O0}{x qual:Str}{st:Mb}{f:γ}{fd:ε}{ps:List Str}{k:Nat}{s:VSp}(Fu:FunE K x qual st f fd)(Sc:qa8 N ps (qa3 st))(W:Nat->Bool)(G:Bz s)(j:∀ ds Q xe,s ds Q xe->ds.length=ps.length)(n:∀ ds Q xe,s ds Q xe->Ie W 0 ds=true)(hbody:∀(g:V')(A:L8)(outer:List Env)(B:δ)(H:Hp)(E:XK)(av:List (Option V)),Qd cm k (A.deeper (PyProof.Rows.envOfC qual (qa3 st) B.heap.objs.size f g)) ->
     ∃ t,VSs ⟨λ _=>E,W,av,[]⟩ (Fi cm (CX1 P w) P w K mg base N qual (qa3 st) f g A outer B H E) (qc9 st) t/\∀ ds Q xe,s ds Q xe->t (qap2 W ds Q xe) (ds++Mr (N.length - ds.length) .u)) :
   Gi cm P w K mg base (k+1) f fd ps s:=by
 refine⟨Fu.okX Sc (λ l H Q E ⟨F,ds,A,r,o,h⟩=>by rw[r.len];exact j _ _ _ h) λ g Ar outer B H l Q E I C=>?_,G⟩;obtain⟨F,ds,A,r,o,h⟩:=C;obtain⟨t,J,L⟩:=hbody g Ar outer B H E (L2.start N l) I;have X:=j _ _ _ h;have M:=n _ _ _ h;have Y:ps.length<=N.length:=by have:=congrArg Mv Sc.pre;rw[zBz] at this;lia
 have L0:Locs F H (L2.start N l++[]) (ds++Mr (N.length - ds.length) .u) A:=by
   rw[zAg];unfold L2.start;rw[r.len]
   have:=r.locs.append (qF0 (F:=F) (H:=H) (N.length - ds.length))
   rwa[zAg] at this
 have S0:Qc ⟨λ _=>E,W,L2.start N l,[]⟩ F H (L2.start N l) (ds++Mr (N.length - ds.length) .u) A:=⟨L0,o,by simp,λ i _=>by simp⟩
 have m:∀{Z':St}{H':Hp}{F':γ->Prop}{a:Ds}{A' A2:List γ},Qc ⟨λ _=>E,W,L2.start N l,[]⟩ F' H' Z' a A'->Qb F H A F' H' A2->∃ A3,P3 F' H' l (fin W 0 ds a) A3/\∀ b,A3.count b<=A'.count b:=λ{Z' H' F' a A' A2} S' c=>by
   have hlen':=S'.len;simp only[zAg] at hlen';refine qaW3 (c.kp o r.cells) r M (by have:=S'.loc;simpa using this) ?_ λ i D O=>?_
   . rw[<- hlen'];unfold L2.start;simp
   have:=S'.ag i (by simpa using O)
   simp only[zAg] at this;rw[this];show (L2.start N l)[i]? = _;unfold L2.start;rw[zAt (by simpa using D)]
 refine⟨_,J.h,F,_,A,qap2 W ds _ _,S0,⟨?_,?_,λ _ _ _ _ _ z=>Py z,λ _ _ _ _ _ z=>Py z,?_⟩,L _ _ _ h⟩
 . intro a Z' H' F' A' q S' c
   obtain⟨A3,p,q2⟩:=m S' c;have u:∀ b,([]++A3).count b<=A'.count b:=λ b=>by simpa using q2 b
   exact q .non H' F' [] A3 .non p (S'.ok.count u) (c.count u)
 . intro d a v Z' H' F' T A' q R S' S c
   obtain⟨A3,p,q2⟩:=m S' c;have u:∀ b,(T++A3).count b<=(T++A').count b:=λ b=>by simp only[zA0];have:=q2 b;lia
   exact q v H' F' T A3 R p (S.count u) (c.count u)
 intro y a Z' e H' F' A' q U S' c;obtain⟨A3,p,q2⟩:=m S' c;exact q e H' F' A3 U p (S'.ok.count q2) (c.count q2)
theorem VFn.mk'{P:L7}{w:L9}{K:O0}{x qual:Str}{st:Mb}{f:γ}{fd:ε}{ps:List Str}{k:Nat}{s:VSp}(Fu:Fun K x qual st f fd)(Sc:qa8 N ps (qa3 st))(W:Nat->Bool)(e:Bz s)(a:∀ ds Q xe,s ds Q xe->ds.length=ps.length)(b:∀ ds Q xe,s ds Q xe->Ie W 0 ds=true)(hbody:∀(c:V')(A:L8)(outer:List Env)(d:δ)(H:Hp)(E:XK)(av:List (Option V)),Qd cm k (A.deeper (PyProof.Rows.envOfC qual (qa3 st) d.heap.objs.size f c)) ->
     ∃ t,VSs ⟨λ _=>E,W,av,[]⟩ (Fi cm (CX1 P w) P w K mg base N qual (qa3 st) f c A outer d H E) (qc9 st) t/\∀ ds Q xe,s ds Q xe->t (qap2 W ds Q xe) (ds++Mr (N.length - ds.length) .u)) :
   Gi cm P w K mg base (k+1) f fd ps s:=VFn.mkE (FunE.of Fu) Sc W e a b hbody
def Br:List (Option Nat)->Ds->Ds×Ds
 | [],ds=>([],ds)
 | none::r,ds=>(.u::(Br r ds).1,(Br r ds).2)
 | some j::r,ds=>((ds[j]?).getD .u::(Br r (ds.set j .u)).1,(Br r (ds.set j .u)).2)
def Gk:List (Option Nat)->Ds->Ds->Ds
 | none::r,_::i,o=>Gk r i o
 | some j::r,d::i,o=>Gk r i (o.set j d)
 | _,_,o=>o
def Fy(g:VTG)(qf:VTT)(te:VT)(K:Ds->Ds->Prop):List D->Ds->Ds->Prop
 | [],acc,a=>K acc a
 | x::xs,acc,a=>g x a λ ι1=>qf ι1 (λ b ι2=>if b=true then te ι2 (λ d ι3=>acc.length < big/\Fy g qf te K xs (acc++[d]) ι3) (λ _ _=>False) else Fy g qf te K xs acc ι2) (λ _ _=>False)
noncomputable def capW(src:List (Option Nat)):Nat->Bool:=λ i=>match src[i]? with | some (some _)=>true | _=>false
abbrev cIn(src:List (Option Nat))(av:List (Option V)):Vc:=⟨λ _ _ _ _=>False,capW src,av,[]⟩
structure VF(c:Vc)(X:Cx)(ifs:List Ma)(t:VTT):Prop where
 h:PFs X ifs (Fc c t)
 m:∀ ds (Q Q':Bool->Ds->Prop) (xe xe':XKd),(∀ d ds',Q d ds'->Q' d ds')->(∀ x ds',xe x ds'->xe' x ds')->t ds Q xe->t ds Q' xe'
def qYes:VTT:=λ ds Q _=>Q true ds
theorem G0{c:Vc}{X:Cx}:VF c X [] qYes:=⟨λ Eo s f H Q I ⟨F,a,A,b,S,x,q⟩=>qaI9 Eo s f H Q I (q H F A S Qb.refl),λ a Q Q' b d e _=>e _ _⟩
theorem Kw{c:Vc}{X:Cx}{e:Ma}{t:VTT}(h:VTe c X e t):VF c X [e] t:=⟨qaS5 h.h,h.m⟩
section
variable{F F':γ->Prop}{H H':Hp}
theorem qaa2:∀{src:List (Option Nat)}{J a:List (Option V)}{ds:Ds}{A:List γ},Locs F H (J++a) ds A->(∀ j,some j∈src->j < J.length) ->
   ∃ Ai Ao,Locs F H (Es J src) (Br src ds).1 Ai/\Locs F H (J++a) (Br src ds).2 Ao/\∀ b,A.count b=Ai.count b+Ao.count b
 | [],J,a,ds,A,L,_=>⟨[],A,.nil,L,λ b=>by simp⟩
 | none::r,J,a,ds,A,L,h=>by
   obtain⟨Ai,Ao,f,q2,g⟩:=qaa2 (src:=r) L λ j c=>h j (zA6 _ c)
   exact⟨Ai,Ao,.no f,q2,g⟩
 | some j::r,J,a,ds,A,L,h=>by
   have c:=h j zAa;have t:=L.len;rw[zAe] at t;obtain⟨z,e⟩:∃ d,ds[j]? = some d:=⟨_,zBm (by lia)⟩
   obtain⟨σ1,o,σ2,i,k,A1,B,A2,m,e2,u,w,x,n,p,q⟩:=L.split e;have s:(J++a)[j]? = some o:=by rw[m];exact qC6 u
   rw[zAt c] at s;have y:ds.set j .u=i++.u::k:=by
     have:=congrArg (λ l=>l.set j .u) e2
     rw[this,qp1 w]
   have L':Locs F H (J++a) (ds.set j .u) (A1++A2):=by
     rw[m,y];cases p with
     | no=>exact n.append (.no q)
     | @so v _ _ _=>exact n.append (.so (B:=[]) (.u v) q)
   obtain⟨Ai,Ao,f,q2,g⟩:=qaa2 (src:=r) L' λ j c=>h j (zA6 _ c)
   refine⟨B++Ai,Ao,?_,q2,λ b=>by rw[x];have:=g b;simp only[zA0] at *;lia⟩;show Locs F H (((J[j]?).getD none)::Es J r) ((ds[j]?).getD .u::_) _;rw[s,e];exact Locs.cons p f
theorem qJ5:∀{src:List (Option Nat)}{J c J':List (Option V)}{K o:Ds}{Ai Ao:List γ},Locs F H J' K Ai->Locs F H (J++c) o Ao->(∀ j,some j∈src->j < J.length)->(∀(i j:Nat),src[i]? = some (some j)->J'[i]? = some ((J[j]?).getD none))->J'.length=src.length ->
   ∃ A',Locs F H (J++c) (Gk src K o) A'/\∀ b,A'.count b<=Ai.count b+Ao.count b
 | [],J,c,J',K,o,Ai,Ao,L,Lo,_,_,_=>⟨Ao,by cases K<;>exact Lo,λ b=>by lia⟩
 | none::r,J,c,J',K,o,Ai,Ao,L,Lo,h,k,f=>by
   cases L with
   | nil=>simp at f
   | no L2 =>
     obtain⟨A',g,q2⟩:=qJ5 (src:=r) L2 Lo (λ j a=>h j (zA6 _ a)) (λ i j e=>by simpa using k (i+1) j (by simpa using e)) (by simpa using f);exact⟨A',g,q2⟩
   | so w L2 =>
     obtain⟨A',g,q2⟩:=qJ5 (src:=r) L2 Lo (λ j a=>h j (zA6 _ a)) (λ i j e=>by simpa using k (i+1) j (by simpa using e)) (by simpa using f);exact⟨A',g,λ b=>by rw[zA0];have:=q2 b;lia⟩
 | some j::r,J,c,J',K,o,Ai,Ao,L,Lo,h,k,f=>by
   have a:=h j zAa;have m:=Lo.len;rw[zAe] at m;obtain⟨G,n⟩:∃ d,o[j]? = some d:=⟨_,zBm (by lia)⟩
   obtain⟨σ1,p,σ2,q,s,A1,B,A2,t,e2,D,E,x,y,I,z⟩:=Lo.split n;have A:(J++c)[j]? = some p:=by rw[t];exact qC6 D
   rw[zAt a] at A;have u:=k 0 j rfl;rw[A] at u;have C:∀ d,o.set j d=q++d::s:=λ d=>by
     have:=congrArg (λ l=>l.set j d) e2
     rw[this,qp1 E]
   cases L with
   | nil=>simp at f
   | no L2 =>
     have:p=none:=by simpa using u.symm
     subst this;have Lo':Locs F H (J++c) (o.set j .u) (A1++A2):=by rw[t,C];exact y.append (.no z)
     obtain⟨A',g,q2⟩:=qJ5 (src:=r) L2 Lo' (λ j a=>h j (zA6 _ a)) (λ i j e=>by simpa using k (i+1) j (by simpa using e)) (by simpa using f);exact⟨A',g,λ b=>by rw[x];have:=q2 b;simp only[zA0] at *;lia⟩
   | @so v d Bv _ _ _ w L2 =>
     have:p=some v:=by simpa using u.symm
     subst this;have Lo':Locs F H (J++c) (o.set j d) (A1++(Bv++A2)):=by rw[t,C];exact y.append (.so w z)
     obtain⟨A',g,q2⟩:=qJ5 (src:=r) L2 Lo' (λ j a=>h j (zA6 _ a)) (λ i j e=>by simpa using k (i+1) j (by simpa using e)) (by simpa using f);exact⟨A',g,λ b=>by rw[x];have:=q2 b;simp only[zA0] at *;lia⟩
theorem qay9(J:St)(src:List (Option Nat)):(Es J src).length=src.length:=by simp[Es]
theorem qaz0{J:St}{src:List (Option Nat)}(h:src[i]? = some (some j)):(Es J src)[i]? = some ((J[j]?).getD none):=by
 unfold Es;rw[zB8,h];rfl
structure Jr(Pp:(γ->Prop)->Hp->Prop)(T:List γ):Prop where
 keep:∀{F F':γ->Prop}{H H':Hp}{W:γ->Prop},Kp F H W F' H'->(∀ b∈T,¬ W b)->Pp F H->Pp F' H'
 cells:∀{F:γ->Prop}{H:Hp},Pp F H->∀ b∈T,∃ o,H b=some o/\Fk o=true
end
section
variable{c:Vc}{F F':γ->Prop}{H H':Hp}{K:(γ->Prop)->Hp->Prop}{G:List (Option V)}{o:Ds}{I:γ}{J:Ds}{T A A' M:List γ}{E:St}{ds:Ds}
noncomputable def Tot(B T Ao A:List γ):List γ:=B++(T++(Ao++A))
theorem qv2(st:Jr K T){B:List γ}(r:P' F H (.ref I) (.l false J) B)(g:K F H)(L:Locs F H G o Ao)(h:Ok F H (Tot B T Ao A))(S:Qc c F H E ds A)(s:Qb F H A F' H' A')(o':Ok F' H' A') :
   P' F' H' (.ref I) (.l false J) B/\K F' H'/\Locs F' H' G o Ao/\Ok F' H' (Tot B T Ao A')/\Qb F H (Tot B T Ao A) F' H' (Tot B T Ao A'):=by
 unfold Tot at *
 have f:=s.kp S.ok S.loc.cells;have i:∀ b,(B++(T++(Ao++A))).count b=((B++(T++Ao))++A).count b:=λ b=>by simp only[zA0];lia
 have d:∀ b,b∈B∨b∈T∨b∈Ao->¬ (A.count b≠0):=λ b a j=>by
   have:=h.sep b
   simp only[zA0] at this;rcases a with a | a | a<;>have:=qa9.mp a<;>lia
 have k:∀ b∈B++(T++Ao),∃ o,H b=some o/\Fk o=true:=λ b a=>by
   rcases zA9.mp a with a | a
   . exact r.cells b a
   rcases zA9.mp a with a | a
   . exact st.cells g b a
   exact L.cells b a
 obtain⟨l,m⟩:=s.frame (T:=B++(T++Ao)) (h.count λ b=>by rw[i];exact zA3 _) k o';have e:∀ b,(B++(T++(Ao++A'))).count b=((B++(T++Ao))++A').count b:=λ b=>by simp only[zA0];lia
 exact⟨r.keep f λ b a=>d b (.inl a),st.keep f (λ b a=>d b (.inr (.inl a))) g,L.keep f λ b a=>d b (.inr (.inr a)),l.count λ b=>by rw[e];exact zA3 _,(m.pre λ b=>by rw[i]).count λ b=>by rw[e];exact zA3 _⟩
theorem qaz9(st:Jr K T){B:List γ}{d:D}(r:P' F H (.ref I) (.l false J) B)(p:K F H)(L:Locs F H G o Ao)(S:Qc c F H E ds A)(q:P' F H v d M)(h:Ok F H (Tot B T Ao (M++A))) :
   ∃ vs B',H I=some (.l vs)/\vs.length=J.length/\P' F (upd H I (.l (vs++[v]))) (.ref I) (.l false (J++[d])) B'/\K F (upd H I (.l (vs++[v])))/\Locs F (upd H I (.l (vs++[v]))) G o Ao/\Qc c F (upd H I (.l (vs++[v]))) E ds A/\Ok F (upd H I (.l (vs++[v]))) (Tot B' T Ao A)/\Qb F H (Tot B T Ao (M++A)) F (upd H I (.l (vs++[v]))) (Tot B' T Ao A):=by
 unfold Tot at *
 obtain⟨a,vs,Ael,s,j,l,rfl⟩:=qB1 r;cases s;have t:=h.sep I;simp only[zA0,zAo,zAw,if_true] at t;have m:¬ F I:=λ f=>by have:=h.fro I f;simp only[zA0,zAo,zAw,if_true] at this;lia
 have k:=qL3 (F:=F) (o':=.l (vs++[v])) j rfl m;have i:∀ X:List γ,X.count I=0->∀ b∈X,¬ b=I:=λ X y b C w=>by subst w;exact(qa9.mp C) y
 have g:∀ b,(I::(Ael++(M++[]))++(T++(Ao++A))).count b<=(I::Ael++(T++(Ao++(M++A)))).count b:=λ b=>by simp only[zA0,zAo,Nc];lia
 have n:∀ b,F b->∃ o,upd H I (.l (vs++[v])) b=some o:=λ b f=>by
   obtain⟨x,e⟩:=h.ex b f;exact⟨x,by rw[qb5 (show b≠I from λ w=>m (w ▸ f))];exact e⟩
 refine⟨vs,I::(Ael++(M++[])),j,l.len,?_,st.keep k (i T (by lia)) p,L.keep k (i Ao (by lia)),⟨S.loc.keep k (i A (by lia)),⟨S.ok.sep,S.ok.fro,n⟩,S.len,S.ag⟩,⟨λ b=>zAd (g b) (h.sep b),λ b f=>by have:=h.fro b f;have:=g b;lia,n⟩,λ b u e z=>?_,λ b u e z=>by have:=g b;lia,λ _ f=>f,λ _ _ _ _ f=>f⟩
 . exact .l qb4 ((l.append (.cons q .nil)).keep k (i _ (by simp only[zA0,Nc];lia)))
 rw[qb5 λ w=>?_]
 . exact e
 subst w;simp only[zA0,zAo,zAw,if_true] at z;lia
end
def qo3(src:List (Option Nat))(g:VTG):TG:=λ v a H Q=>∃ av,Gx (cIn src av) g v a H Q
def qo2(src:List (Option Nat))(q:VTT):TT:=λ a H Q=>∃ av,Fc (cIn src av) q a H Q
def Bp(src:List (Option Nat))(t:VT):TE:=λ a H Q=>∃ av,Bi (cIn src av) t a H Q
structure Blk(X:Cx)(NY:List Str)(sc:Scope)(src:List (Option Nat))(tg:Ma)(ifs:List Ma)(elt:Ma)(g:VTG)(qf:VTT)(te:VT):Prop where
 g:∀ av C s0 H0 ex,VG (cIn src av) (qi8 X NY sc C s0 H0 ex) tg g
 f:∀ av C s0 H0 ex,VF (cIn src av) (qi8 X NY sc C s0 H0 ex) ifs qf
 e:∀ av C s0 H0 ex,VE (cIn src av) (qi8 X NY sc C s0 H0 ex) elt te
 lt:∀ Eo a H s,Qa X Eo a H s->∀ j,some j∈src->j < a.length
section
variable{c:Vc}{X:Cx}{NY:List Str}{sc:Scope}{src:List (Option Nat)}{tg elt e:Ma}{ifs:List Ma}{g:VTG}{qf:VTT}{te:VT}
theorem Blk.pg(b:Blk X NY sc src tg ifs elt g qf te):∀ C a H0 ex,PG (qi8 X NY sc C a H0 ex) tg (qo3 src g):=λ C a H0 ex Eo s Y H v u Q I r ⟨c,q⟩=>(b.g c C a H0 ex).h Eo s Y H v u Q I r q
theorem Blk.pf(b:Blk X NY sc src tg ifs elt g qf te):∀ C a H0 ex,PFs (qi8 X NY sc C a H0 ex) ifs (qo2 src qf):=λ C a H0 ex Eo s Y H Q I ⟨c,q⟩=>(b.f c C a H0 ex).h Eo s Y H Q I q
theorem Blk.pe(b:Blk X NY sc src tg ifs elt g qf te):∀ C a H0 ex,PE (qi8 X NY sc C a H0 ex) elt (Bp src te):=λ C a H0 ex Eo s Y H Q I ⟨c,q⟩=>(b.e c C a H0 ex).h Eo s Y H Q I q
theorem Blk.gm(b:Blk X NY sc src tg ifs elt g qf te):∀ d ds (Q Q':Ds->Prop),(∀ a,Q a->Q' a)->g d ds Q->g d ds Q':=(b.g [] 0 {} (λ _=>none) []).m
theorem Blk.fm(b:Blk X NY sc src tg ifs elt g qf te):∀ ds (Q Q':Bool->Ds->Prop) (xe c:XKd),(∀ d a,Q d a->Q' d a)->(∀ x a,xe x a->c x a)->qf ds Q xe->qf ds Q' c:=(b.f [] 0 {} (λ _=>none) []).m
theorem Blk.em(b:Blk X NY sc src tg ifs elt g qf te):∀ ds (Q Q':DK) (xe c:XKd),(∀ d a,Q d a->Q' d a)->(∀ x a,xe x a->c x a)->te ds Q xe->te ds Q' c:=(b.e [] 0 {} (λ _=>none) []).m
theorem qj8(b:Blk X NY sc src tg ifs elt g qf te){K K':Ds->Ds->Prop}(h:∀ acc Z,K acc Z->K' acc Z):∀(xs:List D) acc Z,Fy g qf te K xs acc Z->Fy g qf te K' xs acc Z
 | [],acc,Z=>h acc Z
 | x::xs,acc,Z=>b.gm _ _ _ _ λ ι1=>b.fm _ _ _ _ _ (λ k ι2=>qC5 (b.em _ _ _ _ _ (λ d ι3=>Ox (qj8 b h xs _ _)) λ _ _ z=>z) (qj8 b h xs _ _)) λ _ _ z=>z
variable{F F0:γ->Prop}{H H0:Hp}{Pp:(γ->Prop)->Hp->Prop}{τ:List (Option V)}{o0:Ds}{Dd:γ}{acc:Ds}{T A A0:List γ}{Y:St}{ds Z:Ds}{av:List (Option V)}{K:Ds->Ds->Prop}
def Mid(src:List (Option Nat))(av:List (Option V))(Pp:(γ->Prop)->Hp->Prop)(T:List γ)(τ:List (Option V))(o0:Ds)(Dd:γ)(F0:γ->Prop)(H0:Hp)(A0:List γ)(g:VTG)(qf:VTT)(te:VT)(K:Ds->Ds->Prop)(xs:List D)(Y:St)(H:Hp):Prop :=
 ∃ F Z A acc B Ao,Qc (cIn src av) F H Y Z A/\P' F H (.ref Dd) (.l false acc) B/\Pp F H/\Locs F H τ o0 Ao/\Ok F H (Tot B T Ao A)/\Qb F0 H0 A0 F H (Tot B T Ao A)/\Fy g qf te K xs acc Z
theorem qG0(b:Blk X NY sc src tg ifs elt g qf te)(st:Jr Pp T){B:List γ}{x:V}{y:D}{xs:List D}(S:Qc (cIn src av) F H Y Z A)(r:P' F H (.ref Dd) (.l false acc) B)(t:Pp F H)(L:Locs F H τ o0 Ao)(u:Ok F H (Tot B T Ao A))(p:Qb F0 H0 A0 F H (Tot B T Ao A))(w:P' F H x y [])(q:Fy g qf te K (y::xs) acc Z) :
   qo3 src g x Y H λ σ2 H2=>qo2 src qf σ2 H2 λ h H3=>if h=true then Bp src te σ2 H3 λ v H4=>∃ ys,H4 Dd=some (.l ys)/\ys.length < Lg/\Mid src av Pp T τ o0 Dd F0 H0 A0 g qf te K xs σ2 (upd H4 Dd (.l (ys++[v]))) else Mid src av Pp T τ o0 Dd F0 H0 A0 g qf te K xs σ2 H3:=by
 have a:∀(F:γ->Prop)(H:Hp)(A:List γ),Xc (cIn src av) (λ _ _=>False) F H A:=λ F H A x C Y' e H' F' A' z=>z.elim
 refine⟨av,F,Z,A,[],y,w,S,S.ok,b.gm _ _ _ _ (λ ι1 q σ1 H1 F1 A1 S1 E=>?_) q⟩;obtain⟨G,i,L1,j,t1⟩:=qv2 st r t L u S (show Qb F H A F1 H1 A1 from E) S1.ok;refine⟨av,F1,ι1,A1,_,S1,a _ _ _,b.fm _ _ _ _ _ (λ k ι2 q H2 F2 A2 S2 I=>?_) (λ _ _ z=>z) q⟩;obtain⟨s,c,L2,f,t2⟩:=qv2 st G i L1 j S1 I S2.ok;cases k with
 | false =>
   rw[if_neg (by decide)] at q ⊢;exact⟨F2,ι2,A2,acc,B,Ao,S2,s,c,L2,f,(p.trans t1).trans t2,q⟩
 | true =>
   rw[if_pos rfl] at q ⊢;refine⟨av,F2,ι2,A2,_,S2,a _ _ _,b.em _ _ _ _ _ (λ d ι3 q v H3 F3 Tv A3 J S3 M N=>?_) (λ _ _ z=>z) q⟩;obtain⟨O,l,L3,m,P⟩:=qv2 st s c L2 f S2 N M;obtain⟨Q,B',R,e2,U,n,L4,S4,o,W⟩:=qaz9 st O l L3 S3 J m;exact⟨Q,R,by rw[e2];exact zA8 q.1 qi2,F3,ι3,A3,acc++[d],B',Ao,S4,U,n,L4,o,((p.trans t1).trans t2).trans (P.trans W),q.2⟩
theorem qG1{xs:List D}(f:∀ j,some j∈src->j < Y.length)(S:Qc c F H Y ds A)(n:Ok F H (T++A))(l:Pp F H)(st:Jr Pp T)(h:H Dd=none)(q:Fy g qf te K xs [] (Br src ds).1) :
   Mid src (Es Y src) Pp T (Y++c.gv) (Br src ds).2 Dd F H (T++A) g qf te K xs (Es Y src) (upd H Dd (.l [])):=by
 obtain⟨Ai,Ao,o,q2,p⟩:=qaa2 S.loc f;have a:=Same.new (u:=.l []) h;have r:=Kp.same (F:=F) a;have okN:Ok F (upd H Dd (.l [])) ([Dd]++(T++A)):=(qg9 h).ok n (λ b d=>by
   rcases zA9.mp d with d | d
   . exact st.cells l b d
   exact S.loc.cells b d) a
 have m:∀ b,(Tot [Dd] T Ao Ai).count b=([Dd]++(T++A)).count b:=λ b=>by unfold Tot;simp only[zA0,p];lia
 have e:Ok F (upd H Dd (.l [])) (Tot [Dd] T Ao Ai):=okN.count λ b=>by rw[m];exact zA3 _
 have k:Ok F (upd H Dd (.l [])) Ai:=e.count λ b=>by unfold Tot;simp only[zA0];lia
 refine⟨F,_,Ai,[],[Dd],Ao,⟨by rw[zAg];exact o.same a,k,by simp,λ i _=>by simp⟩,.l qb4 .nil,st.keep r (λ _ _=>id) l,q2.same a,e,((qg9 h).stp a).count λ b=>by rw[m];exact zA3 _,q⟩
theorem qG2{H':Hp}{Fz:γ->Prop}{Hz:Hp}{Az:List γ}(d:∀ j,some j∈src->j < Y.length)(S:Qc c Fz Hz Y ds Az)(m:Mid src (Es Y src) Pp T (Y++c.gv) o0 Dd F0 H0 A0 g qf te (λ acc Z'=>∀ v H' F' B A',P' F' H' v (.l false acc) B->Qc c F' H' Y (Gk src Z' o0) A'->Pp F' H'->Ok F' H' (B++(T++A'))->Qb F0 H0 A0 F' H' (B++(T++A'))->Q v H') [] Y' H'):Q (.ref Dd) H':=by
 obtain⟨F,Z,A,acc,B,Ao,S1,r,k,L,l,s,q⟩:=m;have a:=S1.len;simp only[zAg] at a;obtain⟨A',n,o⟩:=qJ5 (src:=src) (by have:=S1.loc;simpa using this) L d (λ i j e=>by
   have:=S1.ag i (by show capW src i=true;unfold capW;rw[e])
   simp only[zAg] at this;rw[this];exact qaz0 e) (by rw[<- a,qay9])
 have f:∀ b,(B++(T++A')).count b<=(Tot B T Ao A).count b:=λ b=>by unfold Tot;simp only[zA0];have:=o b;lia
 have h:=l.count f;exact q (.ref Dd) H' F B A' r ⟨n,h.right.right,S.len,S.ag⟩ k h (s.count f)
theorem qq7{a:γ}{ys:Ds}{T:List γ}:Jr (λ F H=>P' F H (.ref a) (.l z ys) T/\H a=some (.l vs)) T where
 keep:=λ{F F' H H' W} k h p=>by
   refine⟨p.1.keep k h,?_⟩;cases p.1 with
   | l _ _=>exact k.fr _ _ p.2 (h _ zAa)
   | lstZ _ f _=>exact k.fr _ _ p.2 λ w=>k.wf _ w f
 cells:=λ p=>p.1.cells
theorem qR5:Jr (λ _ _=>True) [] where
 keep:=λ _ _ p=>p
 cells:=λ _ b a=>by cases a
theorem qaN7{a:γ}{ys:Ds}{T:List γ}{x:V}(r:P' F H (.ref a) (.l z ys) T)(h:H a=some (.l vs))(hm:D.imms ys=true)(f:vs[i]? = some x):∃ y,ys[i]? = some y/\P' F H x y []:=by
 obtain⟨k,g,Ael',j,b,c,_⟩:=r.lst_inv;cases j;rw[h] at b;cases b;obtain⟨y,B,d,e⟩:=c.getV f
 have:=e.imm (qt2 hm d)
 subst this;exact⟨y,d,e⟩
theorem qaM4{a:γ}{ys:Ds}{T:List γ}(r:P' F H (.ref a) (.l z ys) T)(h:H a=some (.l vs)):vs.length=ys.length:=by
 obtain⟨f,d,Ael',e,b,c,_⟩:=r.lst_inv;cases e;rw[h] at b;cases b;exact c.len
theorem qL5{K':O0}{a:γ}{ys:Ds}{Q:Hp->Prop}(b:Blk X NY sc src tg ifs elt g qf te)(hm:D.imms ys=true)(m:Mid src av (λ F H=>P' F H (.ref a) (.l z ys) T/\H a=some (.l vs)) T τ o0 Dd F0 H0 A0 g qf te K ys Y' H)(f:∀ σ2 H2,Mid src av (λ F H=>P' F H (.ref a) (.l z ys) T/\H a=some (.l vs)) T τ o0 Dd F0 H0 A0 g qf te K [] σ2 H2->Q H2):qv7 (Itl K' a) (qo3 src g) (qo2 src qf) (Bp src te) Dd Q Y' H:=by
 obtain⟨_,_,_,_,_,_,_,_,c,_⟩:=id m;have d:=qaM4 c.1 c.2;refine qV0 (xs:=vs) (λ i Y H=>Mid src av (λ F H=>P' F H (.ref a) (.l z ys) T/\H a=some (.l vs)) T τ o0 Dd F0 H0 A0 g qf te K (ys.drop i) Y H) m ?_ ?_ ?_
 . rintro i Y H _ ⟨_,_,_,_,_,_,_,_,e,_⟩
   exact .inl (.inl e.2)
 . rintro i x Y H h ⟨F,Z,A,j,B,Ao,S1,r,e,L,k,s,q⟩
   obtain⟨y,l,n⟩:=qaN7 e.1 e.2 hm h;rw[qm0 l] at q;exact qG0 b qq7 S1 r e L k s n q
 intro Y H m;rw[d,Nk] at m;exact f _ _ m
theorem qaj7{K':O0}{a:γ}{ys:Ds}{Q:Hp->Prop}(b:Blk X NY sc src tg ifs elt g qf te)(hm:D.imms ys=true)(m:Mid src av (λ F H=>P' F H (.ref a) (.l z ys) T/\H a=some (.l vs)) T τ o0 Dd F0 H0 A0 g qf te K (enD ys) Y' H)(o:∀ σ2 H2,Mid src av (λ F H=>P' F H (.ref a) (.l z ys) T/\H a=some (.l vs)) T τ o0 Dd F0 H0 A0 g qf te K [] σ2 H2->Q H2):qv7 (Ite K' a) (qo3 src g) (qo2 src qf) (Bp src te) Dd Q Y' H:=by
 obtain⟨_,_,_,_,_,_,_,_,c,_⟩:=id m;have d:=qaM4 c.1 c.2;refine qap8 (xs:=vs) (λ i Y H=>Mid src av (λ F H=>P' F H (.ref a) (.l z ys) T/\H a=some (.l vs)) T τ o0 Dd F0 H0 A0 g qf te K ((enD ys).drop i) Y H) m ?_ ?_ ?_
 . rintro i Y H _ ⟨_,_,_,_,_,_,_,_,e,_⟩
   exact .inl (.inl e.2)
 . rintro i x Y H n p ⟨F,Z,A,t,B,Ao,S1,r,e,L,v,s,q⟩ f
   obtain⟨y,w,C⟩:=qaN7 e.1 e.2 hm p;rw[qm0 (qaW7 w)] at q;have h:=Same.new (u:=.q [.int (i:Int),x]) f;have j:P' F (upd H n (.q [.int (i:Int),x])) (.ref n) (.q [.int (i:Int),y]) []:=qae1 f (.cons (A:=[]) (B:=[]) (.int _) (.cons (A:=[]) (B:=[]) C .nil));obtain⟨E,k,L1,l,t1⟩:=qv2 qq7 r e L v S1 (Qb.same h) (S1.ok.same h);exact qG0 b qq7 (S1.same h) E k L1 l (s.trans t1) j q
 intro Y H m;rw[M8 (by rw[qaD8,d];exact zA3 _)] at m;exact o _ _ m
theorem qaw1{Q:Hp->Prop}(b:Blk X NY sc src tg ifs elt g qf te)(m:Mid src av (λ _ _=>True) [] τ o0 Dd F0 H0 A0 g qf te K (Bu lo n) Y' H)(a:∀ σ2 H2,Mid src av (λ _ _=>True) [] τ o0 Dd F0 H0 A0 g qf te K [] σ2 H2->Q H2):qv7 (Itr lo n) (qo3 src g) (qo2 src qf) (Bp src te) Dd Q Y' H:=by
 refine qah8 (λ i Y H=>Mid src av (λ _ _=>True) [] τ o0 Dd F0 H0 A0 g qf te K ((Bu lo n).drop i) Y H) m ?_ ?_
 . rintro i Y H c ⟨F,Z,A,d,B,Ao,S1,r,e,L,f,s,q⟩
   rw[qm0 (qac0 c)] at q;exact qG0 b qR5 S1 r e L f s (.int _) q
 intro Y H m;rw[M8 (by rw[qas1];exact zA3 _)] at m;exact a _ _ m
end
def Imp(c:Vc)(X:Cx)(t:VT)(tc:TE):Prop:=∀ Eo s a H Q,Qa X Eo a H s->Bi c t a H Q->tc a H Q
def G1(t:VT):Prop:=∀ ds (Q Q':DK) (xe xe':XKd),(∀ d a,Q d a->Q' d a)->(∀ x a,xe x a->xe' x a)->t ds Q xe->t ds Q' xe'
section
variable{c:Vc}{X:Cx}{NY:List Str}{sc:Scope}{src:List (Option Nat)}{tg elt e o:Ma}{ifs:List Ma}{g:VTG}{qf:VTT}{te t0:VT}{pf:PF}
theorem qaj8{tc:TE}{t:VT}(h:PE X e tc)(i:Imp c X t tc)(m:G1 t):VE c X e t:=⟨λ Eo s σ H Q I q=>h Eo s σ H Q I (i Eo s σ H Q I q),m⟩
theorem qaF1{tc:TE}{t:VT}{x:Str}{px spos:Pos}(h:PS X (.Assign [.Name x px] e spos) (Je tc (Gg i)))(j:Imp c X t tc)(m:G1 t)(k:c.W i=false)(hi:X.N[i]? = some x):VS c X (.Assign [.Name x px] e spos) (Fm t (gNm i)):=by
 refine⟨λ Eo s σ H E I q=>h Eo s σ H E I (j Eo s σ H _ I ?_),λ b n f g=>m _ _ _ _ _ (λ d a=>g.nx _) g.xe⟩;obtain⟨F,f,A,b,S,l,q⟩:=q;refine⟨F,f,A,b.xe,S,l.xe,m _ _ _ _ _ (λ d a q v H' F' T A' r S' o p=>?_) (λ _ _ z=>z) q⟩;obtain⟨A2,S2,u⟩:=S'.store k (qp7 hi Eo σ H s I) r o;exact l.nx _ _ H' F' A2 q S2 (p.trans u)
def G2(src:List (Option Nat))(g:VTG)(qf:VTT)(te:VT)(ys:List D):Ds->DK->Prop:=λ ds1 Q=>Fy g qf te (λ acc ι'=>Q (.l false acc) (Gk src ι' (Br src ds1).2)) ys [] (Br src ds1).1
theorem qG6(b:Blk X NY sc src tg ifs elt g qf te){ys:List D}{ds1:Ds}{Q Q':DK}(h:∀ d a,Q d a->Q' d a):G2 src g qf te ys ds1 Q->G2 src g qf te ys ds1 Q':=qj8 b (λ c ι=>h _ _) _ _ _
def tCL(src:List (Option Nat))(t0:VT)(g:VTG)(qf:VTT)(te:VT):VT:=λ ds Q xe=>t0 ds (λ d ds1=>orF d.lstOf λ ys=>D.imms ys=true/\G2 src g qf te ys ds1 Q) xe
theorem qaw6(b:Blk X NY sc src tg ifs elt g qf te)(hi:VE c X e t0):G1 (tCL src t0 g qf te):=λ j Q Q' k a f h=>hi.m _ _ _ _ _ (λ d i=>qa5 λ l=>Ox (qG6 b f)) h
theorem qaV9{K:O0}(b:Blk X NY sc src tg ifs elt g qf te)(hi:VE c X e t0):Imp c X (tCL src t0 g qf te) (Fj (Ik K (Bi c t0)) src (qo3 src g) (qo2 src qf) (Bp src te)):=by
 rintro Eo s σ H Q I ⟨F,k,A,l,S,x,q⟩;have f:=b.lt Eo σ H s I;refine⟨F,k,A,l,S,x,hi.m _ _ _ _ _ (λ d n q v H1 F1 T A1 i S1 o p=>?_) (λ _ _ z=>z) q⟩;obtain⟨E,t,u,h⟩:=qa7.mp q;obtain⟨z,rfl⟩:=qy8 t;obtain⟨a,w,Ael,rfl,j,G,_⟩:=i.lst_inv;refine⟨a,rfl,⟨w,.inl (.inl j)⟩,λ Dd y=>qL5 b u (qG1 f S1 o ⟨i,j⟩ qq7 y (qj8 b (λ C ι q v H' F' B A' r S' _ D s=>q v H' F' B A' r S' (D.count λ b=>by simp only[zA0];lia) ((p.trans s).count λ b=>by simp only[zA0];lia)) _ _ _ h)) λ σ2 H2 m=>qG2 f S1 m⟩
def tCPx(en:Ds->List D)(src:List (Option Nat))(pf:PF)(g:VTG)(qf:VTT)(te:VT):VT:=λ ds Q xe=>orF (pf ds) λ q=>orF (Ba ds q.1 q.2) λ d=>orF d.lstOf λ ys=>D.imms ys=true/\∀ w,Fy g qf te (λ acc ι'=>orF (bk1 q.1 q.2 w d (Gk src ι' (Br src (Bj ds q.1 q.2 (.hole w))).2)) λ a=>Q (.l false acc) a) (en ys) [] (Br src (Bj ds q.1 q.2 (.hole w))).1
theorem qak2{en:Ds->List D}(b:Blk X NY sc src tg ifs elt g qf te):G1 (tCPx en src pf g qf te):=λ f Q Q' i a c j=>qa5 λ q=>qa5 λ d=>qa5 λ k=>Ox λ h w=>qj8 b (λ e ι=>qa5 λ z=>c _ _) _ _ _ (h w)
theorem qaP0{K:O0}{en:Ds->List D}{wi:TI}{J:γ->It}(b:Blk X NY sc src tg ifs elt g qf te)(M:∀{a:γ}{vs:List V}{z:Bool}{ys:Ds}{T:List γ}{τ:List (Option V)}{o0:Ds}{Dd:γ}{F0:γ->Prop}{H0 H:Hp}{A0:List γ}{K0:Ds->Ds->Prop}{av:List (Option V)}{Q:Hp->Prop}{σ':St},D.imms ys=true->Mid src av (λ F H=>P' F H (.ref a) (.l z ys) T/\H a=some (.l vs)) T τ o0 Dd F0 H0 A0 g qf te K0 (en ys) σ' H ->
     (∀ σ2 H2,Mid src av (λ F H=>P' F H (.ref a) (.l z ys) T/\H a=some (.l vs)) T τ o0 Dd F0 H0 A0 g qf te K0 [] σ2 H2->Q H2)->qv7 (J a) (qo3 src g) (qo2 src qf) (Bp src te) Dd Q σ' H)(j:∀ σ H R,Iy c pf σ H (λ x H1=>∃ a,x=.ref a/\(∃ xs,SqL K H1 a xs)/\R (J a) H1)->wi σ H R):Imp c X (tCPx en src pf g qf te) (Fj wi src (qo3 src g) (qo2 src qf) (Bp src te)):=by
 rintro Eo s σ H Q I ⟨F,t,A,xe,S,x,q⟩;have h:=b.lt Eo σ H s I;refine j σ H _ ?_;obtain⟨⟨i,p⟩,N,q⟩:=qa7.mp q;obtain⟨d,e2,q⟩:=qa7.mp q;obtain⟨ys,O,P,q⟩:=qa7.mp q;obtain⟨z,rfl⟩:=qy8 O;refine⟨F,t,A,i,p,_,S,N,e2,D.noConfusion,λ u w H1 U k l=>?_⟩;obtain⟨B,C,r,y,Y⟩:=(S.same l).place e2 D.noConfusion U k;obtain⟨A1,Z,q2⟩:=Y (.hole w) [] (Kp.same (F:=F) λ _ _ z=>z) (λ _ _ z=>z) (.hole w);have E:Ok F H1 (B++A1):=(S.same l).ok.count λ b=>by rw[zA0,q2,y];simp
 have s1:Qb F H A F H1 (B++A1):=⟨λ b o e _=>l b o e,λ b o e z=>by rw[zA0,q2];have:=y b;simp;lia,λ _ f=>f,λ _ _ _ _ f=>f⟩
 have S1:Qc c F H1 σ (Bj t i p (.hole w)) A1:=⟨Z,E.right,S.len,S.ag⟩
 obtain⟨a,vs,Ael,rfl,G,rs,_⟩:=r.lst_inv;refine⟨a,rfl,⟨vs,.inl (.inl G)⟩,λ Dd hD=>M P (qG1 h S1 E ⟨r,G⟩ qq7 hD (qj8 b (λ a0 ι q v H' F' B' A' rv S' hp L s=>?_) _ _ _ (q (.ref a)))) λ σ2 H2 m=>qG2 h S1 m⟩;obtain⟨a1,eb,q⟩:=qa7.mp q;obtain⟨A2,k1,k2⟩:=qt8 (pls:=[.pl i p (.ref a)]) (vs:=[.ref a]) (more:=[]) (ys:=[.l z ys]) (.so .nil) (.cons hp.1 .nil) S'.loc eb;have n:∀ b,(B'++A2).count b<=(B'++(B++A')).count b:=λ b=>by have:=k2 b;simp only[zAg,zA0] at *;lia
 exact q v H' F' B' A2 rv ⟨k1,(L.count n).right,S.len,S.ag⟩ (L.count n) ((s1.trans s).count n)
theorem qaV8{K:O0}(b:Blk X NY sc src tg ifs elt g qf te):Imp c X (tCPx (λ ys=>ys) src pf g qf te) (Fj (Ik K (Iy c pf)) src (qo3 src g) (qo2 src qf) (Bp src te)) :=
 qaP0 (K:=K) (J:=Itl K) b (λ a m d=>qL5 b a m d) λ σ H R h=>h
def tCR1(src:List (Option Nat))(tr:VTA)(g:VTG)(qf:VTT)(te:VT):VT:=λ ds Q xe=>tr ds (λ xs ds1=>orF (Kv xs) λ j=>Hc j=true/\G2 src g qf te (Bu 0 j.toNat) ds1 Q) xe
theorem qak1{es:List Ma}{tr:VTA}(b:Blk X NY sc src tg ifs elt g qf te)(hi:VOs c X es tr):G1 (tCR1 src tr g qf te):=λ i Q Q' j a e f=>hi.m _ _ _ _ _ (λ d h=>qa5 λ k=>Ox (qG6 b e)) f
theorem qay1{F:γ->Prop}{H:Hp}{A:List γ}{F1:γ->Prop}{H1:Hp}{A1:List γ}{σ:St}{ds1:Ds}(b:Blk X NY sc src tg ifs elt g qf te)(a:∀ j,some j∈src->j < σ.length)(S1:Qc c F1 H1 σ ds1 A1)(f:Qb F H A F1 H1 A1)(q:G2 src g qf te (Bu lo n) ds1 (λ d e=>∀ v H' F' T A',P' F' H' v d T->Qc c F' H' σ e A'->Ok F' H' (T++A')->Qb F H A F' H' (T++A')->Q v H')):∀ Dd,H1 Dd=none->qv7 (Itr lo n) (qo3 src g) (qo2 src qf) (Bp src te) Dd (λ H'=>Q (.ref Dd) H') (Es σ src) (upd H1 Dd (.l [])):=λ Dd h =>
 qaw1 b (qG1 (T:=[]) a S1 S1.ok trivial qR5 h (qj8 b (λ i ι q v H' F' B A' r S' _ k s=>q v H' F' B A' r S' k (f.trans s)) _ _ _ q)) λ σ2 H2 m=>qG2 a S1 m
theorem qaN1{es:List Ma}{tr:VTA}(b:Blk X NY sc src tg ifs elt g qf te)(hi:VOs c X es tr):Imp c X (tCR1 src tr g qf te) (Fj (iRng1 (qaB4 c tr)) src (qo3 src g) (qo2 src qf) (Bp src te)):=by
 rintro Eo s σ H Q I ⟨F,e,A,f,S,x,q⟩;have a:=b.lt Eo σ H s I;refine⟨F,e,A,f,S,x,hi.m _ _ _ _ _ (λ p h q r H1 F1 T A1 i S1 k=>?_) (λ _ _ z=>z) q⟩;obtain⟨j,l,n,d⟩:=qa7.mp q;cases qat0 l;obtain⟨v,rfl,o⟩:=i.one_inv;cases o
 have:=qae4 n
 exact⟨j,rfl,this.1,this.2,qay1 b a S1 k d⟩
noncomputable def capOk(X:Cx)(src:List (Option Nat)):Bool:=src.all λ o=>match o with | none=>true | some j=>decide (j < X.N.length)
theorem blk(b:∀ av C a H0 ex,VG (cIn src av) (qi8 X NY sc C a H0 ex) tg g)(c:∀ av C a H0 ex,VF (cIn src av) (qi8 X NY sc C a H0 ex) ifs qf)(d:∀ av C a H0 ex,VE (cIn src av) (qi8 X NY sc C a H0 ex) elt te)(e:capOk X src=true:=by rfl):Blk X NY sc src tg ifs elt g qf te :=
 ⟨b,c,d,λ Eo σ H s I j f=>by
   have:=zBd.mp e _ f
   rw[I.len];exact zAb this⟩
end
theorem qt0{X:Cx}{NY:List Str}{sc:Scope}{C:γ}{a:δ}{H0:Hp}{ex:List γ}{src:List (Option Nat)}{av:List (Option V)}:Lands (qi8 X NY sc C a H0 ex) (cIn src av).E:=λ _ _ _ _ _ _ _ _ _ z=>z.elim
section
variable{c:Vc}{X:Cx}{NY:List Str}{v:Scope}{src:List (Option Nat)}{z t s a:Ma}{u:List Ma}{g:VTG}{A:VTT}{te C:VT}{w B y:Pos}{pf:PF}{x:Str}
theorem ecL(hi:VE c X s C)(bl:Blk X NY v src z u t g A te)(a:X.calm=true:=by rfl)(b:qu9 X NY src v=true:=by rfl)(d:∀ x,Li s X.env x=pure x:=by intro _;rfl):VE c X (.ListComp t [⟨z,s,u,0⟩] v w) (tCL src C g A te) :=
 qaj8 (qH6 NY src (qx8 hi.h) bl.pg bl.pf bl.pe a b d) (qaV9 bl hi) (qaw6 bl hi)
theorem ecP(hi:VP c X s pf)(bl:Blk X NY v src z u t g A te)(a:X.calm=true:=by rfl)(b:qu9 X NY src v=true:=by rfl)(d:∀ x,Li s X.env x=pure x:=by intro _;rfl):VE c X (.ListComp t [⟨z,s,u,0⟩] v w) (tCPx (λ ys=>ys) src pf g A te) :=
 qaj8 (qH6 NY src (qx8 hi.h) bl.pg bl.pf bl.pe a b d) (qaV8 bl) (qak2 bl)
theorem scR1{tr:VTA}{p cpos:Pos}(i:Nat)(l:X.N.Nodup)(hm:X.mg "range" = none)(d:VOs c X [a] tr)(bl:Blk X NY v src z u t g A te)(m:c.W i=false:=by rfl)(e:Gl X "range" := by rfl)(f:Lf [a] X.env=[(false,eval a X.env)]:=by rfl)(b:X.N[i]? = some x:=by rfl)(n:Loc X.env.scope x:=by first | exact P0 rfl | exact Pz rfl)(o:X.calm=true:=by rfl)(q:qu9 X NY src v=true:=by rfl)(j:swapsWith (.ListComp t [⟨z,.Call (.Name "range" p) [a] [] cpos,u,0⟩] v w) (some (.Name x B)) y.line X.env=pure true:=by rfl)(r:∀ x,Li (.Call (.Name "range" p) [a] [] cpos) X.env x=pure x:=by intro _;rfl)(k:X.fn x=true∨X.env.scope.names.lookup x=some .local:=by first | exact .inl rfl | exact .inr rfl | assumption):VS c X (.Assign [.Name x B] (.ListComp t [⟨z,.Call (.Name "range" p) [a] [] cpos,u,0⟩] v w) y) (Fm (tCR1 src tr g A te) (gNm i)) :=
 qaF1 (qas4 i NY src l (qS1 e hm d.h f) bl.pg bl.pf bl.pe b n o q j r k) (qaN1 bl d) (qak1 bl d) m b
end
section
variable{c:Vc}{X:Cx}{p:List Ma}{tb:VTB}
def Js(tb:VTB):VTA:=λ ds Q xe=>tb ds (λ xs _ ds1=>Q xs ds1) xe
theorem F4(h:VAs c X p tb):VOs c X p (Js tb):=⟨PA.mono h.h λ n H Q ⟨F,d,A,e,S,x,q⟩=>⟨F,d,A,e,S,x,h.m _ _ _ _ _ (λ f g a q i H' F' T A' r _ S' o s=>q i H' F' T A' r S' (s.count λ b=>by rw[zA0];lia)) (λ _ _ z=>z) q⟩,λ d Q Q' e j k l=>h.m _ _ _ _ _ (λ f g a=>k _ _) l⟩
end
structure Bg(x y z:Int)(ns:List Int):Prop where
 x0:0<=x
 y0:0<=y
 y1:y < 2147483647
 z0:0<=z
 nn:∀ n∈ns,0<=n
noncomputable def bagD(x y z:Int)(ns:List Int):D:=.l false [.int x,.int y,.int z,.l false (ns.map .int)]
def lawE:VEnds where
 nx _:=False
 rt d _:=d.asB=some true
 bk _:=False
 ct _:=False
 xe _ _:=False
theorem qan2{c:Vc}{X:Cx}{rest:List Mb}{t:VTS}{H:Hp}{E:Bw}{p L:γ}{x y z:Int}{ns:List Int}(e:c.av.length=2+n)(k:∀ i,c.W i=false)(a:c.gv=[])(l:H p=some (.l [.int x,.int y,.int z,.ref L]))(m:H L=some (.l (ns.map V.int)))(o:L≠p)(s:∀ H',E.rt (.bl true) H')(u:t lawE (.hole w::bagD x y z ns::Mr n .u)):Fl c t E (some w::some (.ref p)::Mr n none) H:=by
 have L0:Locs (λ _=>False) H (some w::some (.ref p)::Mr n none) (.hole w::bagD x y z ns::Mr n .u) ([]++((p::([]++([]++([]++((L::[])++[])))))++[])) :=
   .so (.hole w) (.so (.l l (.cons (.int x) (.cons (.int y) (.cons (.int z) (.cons (.l m (qE3 ns)) .nil))))) (qF0 n))
 refine⟨λ _=>False,_,_,lawE,⟨by rw[a,zAg];exact L0,⟨λ b=>?_,λ b f=>f.elim,λ b f=>f.elim⟩,by rw[a,e];simp;lia,λ i h=>by rw[k i] at h;cases h⟩,⟨λ _ _ _ _ _ z=>Py z,λ d A v B' H' F' T A' q r _ _ _=>by rw[r.asB q];exact s H',λ _ _ _ _ _ z=>Py z,λ _ _ _ _ _ z=>Py z,λ _ _ _ _ _ _ _ z=>Py z⟩,u⟩;simp only[zBi,zAg,zAo,Nc];by_cases g:p=b
 . subst g;simp[o]
 by_cases j:L=b
 . subst j;simp[g]
 simp[g,j]
section
variable{c:Vc}{b d e o:Ma}{oa Z oc:Bool}{fa fb Y:FV}
def f3(g g':D->D->Option D)(fa fb Y:FV):FV:=λ ds=>(fa ds).bind λ x=>(fb ds).bind λ y=>(g x y).bind λ z=>z.asB.bind λ k=>if k=true then (Y ds).bind λ u=>g' y u else some (.bl false)
theorem qaE2{r l:R2}{g g':D->D->Option D}(h:A8 true r g)(h':A8 true l g'):∀ X H Q,liftV c true (f3 g g' fa fb Y) X H Q->qaF9 r l (liftV c oa fa) (liftV c Z fb) (liftV c oc Y) X H Q:=by
 rintro X H Q ⟨F,f,A,d,S,e,q⟩;obtain⟨x,C,e⟩:=zA1.mp e;obtain⟨y,e2,e⟩:=zA1.mp e;obtain⟨z,E,e⟩:=zA1.mp e;obtain⟨k,G,e⟩:=zA1.mp e;refine⟨F,f,A,x,S,C,λ v H1 B1 I m T=>⟨F,f,A,y,S.same m,e2,λ w H2 B2 n p U=>?_⟩⟩;have i:=m.trans p;refine h F H2 v w x y _ z _ (G9 (I.same p) n) E λ u H3 B3 J s V=>⟨k,J.asB G,?_⟩
 have a:=i.trans s;cases k with
 | false=>rw[if_neg (by decide)] at e ⊢;cases e;exact q _ H3 [] (.bl _) a λ _=>New.nil
 | true =>
   rw[if_pos rfl] at e ⊢;obtain⟨t,K,L⟩:=zA1.mp e;refine⟨F,f,A,t,S.same a,K,λ M H4 B4 N j W=>?_⟩;refine h' F H4 w M y t _ d Q (G9 ((n.same s).same j) N) L λ O H5 B5 P R B=>q O H5 B5 P ((a.trans j).trans R) λ _=>⟨B.one,λ b o e=>B.new b o (j b o (a b o e))⟩
end
section
variable{c:Vc}{X:Cx}{a b d e:Ma}{N:Pos}{O T U:Bool}{fa fb R:FV}
theorem vch{e:CmpOp}{r i:R2}{g g':D->D->Option D}(j:OpR X (Lh op) r)(h:A8 true r g)(f:OpR X (Lh e) i)(h':A8 true i g')(k:VV c X a O fa)(l:VV c X b T fb)(m:VV c X d U R)(hm:lastMarks [op,e] [b,d]=false:=by with_unfolding_all rfl) :
   VV c X (.Compare a [op,e] [b,d] N) true (f3 g g' fa fb R):=⟨PE.mono (qaz6 j f k.h l.h m.h hm) (qaE2 h h')⟩
def Jb(x:D):Option D:=match x with
 | .l _ ys=>(intsD ys).bind λ ns=>gd (ns.length<=1000) (.int (ql7 ns))
 | _=>none
theorem vlenS{p p2 cpos:Pos}(g:X.mg "len" = none)(i:X.mg "set" = none)(o:VV c X a O fa)(j:Gl X "len" := by rfl)(k:Gl X "set" := by rfl)(r:X.calm=true:=by rfl)(n:Lf [a] X.env=(false,eval a X.env)::Lf [] X.env:=by rfl)(l:((backTo cpos (Lf [] X.env)).any λ x=>x.1)=false:=by rfl)(b:Lf [.Call (.Name "set" p2) [a] [] cpos] X.env=(false,eval (.Call (.Name "set" p2) [a] [] cpos) X.env)::Lf [] X.env:=by rfl)(f:((backTo N (Lf [] X.env)).any λ x=>x.1)=false:=by rfl) :
   VV c X (.Call (.Name "len" p) [.Call (.Name "set" p2) [a] [] cpos] [] N) true (f1 Jb fa):=by
 refine⟨PE.mono (cbi qaq3 g (qf2 (cty (qaq1 r) i (qf2 o.h qx9 n) k (by rfl) (by decide) (by decide) n l) qx9 b) j (by rfl) (by decide) (by decide) b f) λ M H Q m=>?_⟩;obtain⟨F,s,A,d,S,e,q⟩:=m;obtain⟨x,t,e2⟩:=qaD1.mp e;cases x with
 | l z J =>
   obtain⟨u,w,y⟩:=zA1.mp e2;obtain⟨B,rfl⟩:=qt3 y;refine⟨F,s,A,_,S,t,λ v H1 B1 C D K=>?_⟩;obtain⟨a,L,A2,rfl,E,G,_⟩:=C.lst_inv;cases G.intsD w;refine⟨a,u,rfl,.inl (.inl E),B,λ p St I=>⟨p,St,_,rfl,qb4,?_⟩⟩;exact q _ _ [] (.int _) (D.trans (Same.new I)) λ _=>New.nil
 | _=>cases e2
def B6(f:Ds->Option D):VSp:=λ ds Q _=>orF (f ds) λ d=>Q d ds
theorem qv3{f:Ds->Option D}:Bz (B6 f):=λ a Q Q' e b c _=>qa5 λ d=>c d a
noncomputable def wOf(l:List Bool)(i:Nat):Bool:=l.getD i false
end
section
variable{c:Vc}{X:Cx}{NY:List Str}{sc:Scope}{src:List (Option Nat)}{tg elt e o a b:Ma}{ifs:List Ma}{g:VTG}{qf:VTT}{te:VT}{pos px spos p0:Pos}{x xn:Str}
def Ig(en:Ds->List D)(src:List (Option Nat))(i:Nat)(g:VTG)(qf:VTT)(te:VT):VT:=λ ds Q xe=>orF (rdN i ds) λ d=>orF d.lstOf λ ys=>D.imms ys=true/\Fy g qf te (λ acc ι'=>Q (.l false acc) ((Gk src ι' (Br src (ds.set i .u)).2).set i d)) (en ys) [] (Br src (ds.set i .u)).1
theorem qD0{en:Ds->List D}(bl:Blk X NY sc src tg ifs elt g qf te):G1 (Ig en src i g qf te):=λ e Q Q' f a b h=>qa5 λ d=>qa5 λ j=>Ox (qj8 bl (λ c ι=>b _ _) _ _ _)
theorem qav2{K:O0}{en:Ds->List D}{wi:TI}{J:γ->It}(bl:Blk X NY sc src tg ifs elt g qf te)(E:X.N[i]? = some xn)(G:∀{a:γ}{vs:List V}{z:Bool}{ys:Ds}{T:List γ}{τ:List (Option V)}{o0:Ds}{Dd:γ}{F0:γ->Prop}{H0 H:Hp}{A0:List γ}{K0:Ds->Ds->Prop}{av:List (Option V)}{Q:Hp->Prop}{σ':St},D.imms ys=true->Mid src av (λ F H=>P' F H (.ref a) (.l z ys) T/\H a=some (.l vs)) T τ o0 Dd F0 H0 A0 g qf te K0 (en ys) σ' H ->
     (∀ σ2 H2,Mid src av (λ F H=>P' F H (.ref a) (.l z ys) T/\H a=some (.l vs)) T τ o0 Dd F0 H0 A0 g qf te K0 [] σ2 H2->Q H2)->qv7 (J a) (qo3 src g) (qo2 src qf) (Bp src te) Dd Q σ' H)(j:∀ σ H R,G7 i σ H (λ x H1=>∃ a,x=.ref a/\(∃ xs,SqL K H1 a xs)/\R (J a) H1)->wi σ H R):Imp c X (Ig en src i g qf te) (Fj wi src (qo3 src g) (qo2 src qf) (Bp src te)):=by
 rintro Eo s σ H Q I ⟨F,L,A,xe,S,x,q⟩;have h:=bl.lt Eo σ H s I;have M:=qp7 E Eo σ H s I;refine j σ H _ ?_;obtain⟨d,k,q⟩:=qa7.mp q;obtain⟨k,hk⟩:=ql1.mp k;obtain⟨ys,O,P,q⟩:=qa7.mp q;obtain⟨z,rfl⟩:=qy8 O;obtain⟨v,B,C,l,r,t,U⟩:=S.put1 k D.noConfusion;have n:=l;rw[zAt M] at l;obtain⟨A1,Y,q2⟩:=U .u [] (Kp.same (F:=F) λ _ _ z=>z) (λ _ _ z=>z) (.u v);have u:Ok F H (B++A1):=S.ok.count λ b=>by rw[zA0,q2,t];simp
 have Z:Qb F H A F H (B++A1):=⟨λ b o e _=>e,λ b o e z=>by rw[zA0,q2];have:=t b;simp;lia,λ _ f=>f,λ _ _ _ _ f=>f⟩
 have S1:Qc c F H σ (L.set i .u) A1:=⟨Y,u.right,S.len,S.ag⟩
 obtain⟨a,vs,Ael,rfl,w,rs,_⟩:=r.lst_inv;refine⟨.ref a,l,a,rfl,⟨vs,.inl (.inl w)⟩,λ Dd hD=>G P (qG1 h S1 u ⟨r,w⟩ qq7 hD (qj8 bl (λ a0 ι q v H' F' B' A' rv S' hp y s=>?_) _ _ _ q)) λ σ2 H2 m=>qG2 h S1 m⟩;obtain⟨A2,k1,k2⟩:=qD4 S'.loc n hp.1;have p:∀ b,(B'++A2).count b<=(B'++(B++A')).count b:=λ b=>by have:=k2 b;simp only[zA0] at *;lia
 exact q v H' F' B' A2 rv ⟨k1,(y.count p).right,S.len,S.ag⟩ (y.count p) ((Z.trans s).count p)
theorem qaN2{K:O0}(bl:Blk X NY sc src tg ifs elt g qf te)(a:X.N[i]? = some xn):Imp c X (Ig (λ ys=>ys) src i g qf te) (Fj (Ik K (G7 i)) src (qo3 src g) (qo2 src qf) (Bp src te)) :=
 qav2 (K:=K) (J:=Itl K) bl a (λ b m d=>qL5 bl b m d) λ σ H R h=>h
theorem qaN3{K:O0}(bl:Blk X NY sc src tg ifs elt g qf te)(b:X.N[i]? = some xn):Imp c X (Ig enD src i g qf te) (Fj (iEnum K (tCons (G7 i) tNil)) src (qo3 src g) (qo2 src qf) (Bp src te)) :=
 qav2 (K:=K) (J:=Ite K) bl b (λ d m f=>qaj7 bl d m f) λ σ H R ⟨v,h,a,e,j,k⟩=>⟨v,h,a,by rw[e],j,k⟩
theorem ecN(i:Nat)(bl:Blk X NY sc src tg ifs elt g qf te)(b:X.N[i]? = some xn:=by rfl)(d:Vis X.env.scope xn:=by first | exact P0 rfl | exact Pz (P0 rfl) | exact Pz (Pz rfl))(e:N' xn:=by decide)(a:(xn == ("__classdict__" : Str))=false:=by decide)(f:X.calm=true:=by rfl)(h:qu9 X NY src sc=true:=by rfl)(j:∀ x,Li (.Name xn p0) X.env x=pure x:=by intro _;rfl):VE c X (.ListComp elt [⟨tg,.Name xn p0,ifs,0⟩] sc pos) (Ig (λ ys=>ys) src i g qf te) :=
 qaj8 (qH6 NY src (qx8 (qs3 b d e a)) bl.pg bl.pf bl.pe f h j) (qaN2 bl b) (qD0 bl)
theorem ecEN(i:Nat){elts:List Ma}{e:Nat}{p cpos tpos:Pos}(hm:X.mg "enumerate" = none)(bl:Blk X NY sc src (.Tuple elts e tpos) ifs elt g qf te)(f:X.N[i]? = some xn:=by rfl)(h:Vis X.env.scope xn:=by first | exact P0 rfl | exact Pz (P0 rfl) | exact Pz (Pz rfl))(j:N' xn:=by decide)(b:(xn == ("__classdict__" : Str))=false:=by decide)(d:Gl X "enumerate" := by rfl)(a:Lf [.Name xn p0] X.env=[(false,eval (.Name xn p0) X.env)]:=by rfl)(k:X.calm=true:=by rfl)(l:qu9 X NY src sc=true:=by rfl)(m:∀ x,Li (.Call (.Name "enumerate" p) [.Name xn p0] [] cpos) X.env x=pure x:=by intro _;rfl):VE c X (.ListComp elt [⟨.Tuple elts e tpos,.Call (.Name "enumerate" p) [.Name xn p0] [] cpos,ifs,0⟩] sc pos) (Ig enD src i g qf te) :=
 qaj8 (qH6 NY src (qaI7 d hm (qf2 (qs3 f h j b) qx9 a) a) bl.pg bl.pf bl.pe k l m) (qaN3 bl f) (qD0 bl)
theorem scN(i j:Nat)(b:X.N.Nodup)(bl:Blk X NY sc src tg ifs elt g qf te)(k:c.W i=false:=by rfl)(h:X.N[j]? = some xn:=by rfl)(l:Vis X.env.scope xn:=by first | exact P0 rfl | exact Pz (P0 rfl) | exact Pz (Pz rfl))(m:N' xn:=by decide)(d:(xn == ("__classdict__" : Str))=false:=by decide)(a:X.N[i]? = some x:=by rfl)(n:Loc X.env.scope x:=by first | exact P0 rfl | exact Pz rfl)(o:X.calm=true:=by rfl)(p:qu9 X NY src sc=true:=by rfl)(e:swapsWith (.ListComp elt [⟨tg,.Name xn p0,ifs,0⟩] sc pos) (some (.Name x px)) spos.line X.env=pure true:=by rfl)(q:∀ x,Li (.Name xn p0) X.env x=pure x:=by intro _;rfl)(f:X.fn x=true∨X.env.scope.names.lookup x=some .local:=by first | exact .inl rfl | exact .inr rfl | assumption):VS c X (.Assign [.Name x px] (.ListComp elt [⟨tg,.Name xn p0,ifs,0⟩] sc pos) spos) (Fm (Ig (λ ys=>ys) src j g qf te) (gNm i)) :=
 qaF1 (qas4 i NY src b (qx8 (qs3 h l m d)) bl.pg bl.pf bl.pe a n o p e q f) (qaN2 bl h) (qD0 bl) k a
theorem qV6{d0:D}{ds:Ds}(h:ds[i]? = some (.hole w)):bk1 i [] w d0 ds=some (ds.set i d0):=by
 unfold bk1 Au;rw[qF5 h];simp only[if_true];unfold Au;rw[qD5 h]
theorem qq6{g:VTG}{qf:VTT}{te:VT}{K:Ds->Ds->Prop}(I:Ds->Prop)(f:D->Option D):∀(xs:List D)(acc ι:Ds),acc.length+xs.length < big->I ι->(∀ x∈xs,∀ ι acc,I ι->∀ R:Ds->Ds->Prop,(∀ ι',I ι'->R (acc++(f x).toList) ι')->acc.length < big->g x ι λ ι1=>qf ι1 (λ b ι2=>if b=true then te ι2 (λ d ι3=>acc.length < big/\R (acc++[d]) ι3) (λ _ _=>False) else R acc ι2) (λ _ _=>False))->(∀ ι',I ι'->K (acc++xs.filterMap f) ι')->Fy g qf te K xs acc ι
 | [],acc,ι,_,h,_,hK=>by
   have:=hK ι h
   rw[List.filterMap_nil,zAg] at this;exact this
 | x::xs,acc,ι,hl,h,hs,hK=>by
   refine hs x zAa ι acc h (λ a i=>Fy g qf te K xs a i) (λ ι' hι=>?_) (by simp at hl;lia);refine qq6 I f xs _ ι' ?_ hι (λ y e=>hs y (zA6 _ e)) λ ι2 j=>?_
   . cases c:f x with
     | none=>simp at hl ⊢;lia
     | some y=>simp at hl ⊢;lia
   have:=hK ι2 j
   rw[zCf] at this;cases c:f x with
   | none=>rw[c] at this;simpa using this
   | some y=>rw[c] at this;simpa using this
end
def spX1(C:γ)(fl:Str):Sp:=λ vs H Q _=>∃(e:γ)(v:V),vs=[.ref e,v]/\H e=some (Bk e C none true)/\∀ dx,H dx=none->dx≠e->Q .non (upd (upd H dx (XD dx [(fl,v)])) e (Bk e C (some dx) true))
section
variable{c:Vc}{X:Cx}{e:Ma}{te:VT}{pos cpos np:Pos}{k:Nat}{f C:γ}{fd:ε}{ps:List Str}{x fl:Str}
def qaG8(C:γ)(fl:Str)(te:VT):VTS:=λ e ds=>te ds (λ d a=>d.imm=true/\e.xe ⟨C,[(fl,d)]⟩ a) e.xe
theorem qaR1(M:MkE X.K C f)(Fn:Ga X.prog X.w X.K X.mg X.base CX0 k f fd ps (spX1 C fl))(N:Room (k+1) X.A)(hm:X.mg x=some (.ref C))(O:Binds X.K fd ps [])(P:Lands X c.E)(n:VE c X e te)(Q:Gl X x:=by rfl)(p:N' x:=by decide)(J:Lf [e] X.env=(false,eval e X.env)::Lf [] X.env:=by rfl)(t:(backTo cpos (Lf [] X.env)).any (·.1)=false:=by rfl) :
   VS c X (.Raise (some (.Call (.Name x np) [e] [] cpos)) none pos) (qaG8 C fl te):=by
 refine⟨PS.mono (qay5 M Fn N hm O P (qf2 n.h qx9 J) Q p J t) λ E σ H y=>?_,λ e Z L h=>n.m _ _ _ _ _ (λ d i z=>⟨z.1,h.xe _ _ z.2⟩) h.xe⟩;obtain⟨F,L,A,ends,S,l,q⟩:=y;refine⟨F,L,A,ends.xe,S,l.xe,n.m _ _ _ _ _ (λ d i ⟨R,q⟩ v H' F' T A' r S' o s=>?_) (λ _ _ z=>z) q⟩;refine⟨by show 1<=1000;decide,λ a U=>⟨a,v,rfl,qb4,λ g V D=>⟨rfl,some g,qb4,?_⟩⟩⟩;have W:H' g=none:=by rwa[qb5 D] at V
 obtain rfl:=r.imm R;have G:Same H' (upd (upd (upd (upd H' a (Bk a C none true)) g (XD g [(fl,v)])) a (Bk a C (some g) true)) a (Bk a C (some g) false)):=λ b u j=>by
   have I:b≠a:=λ z=>by rw[z,U] at j;cases j
   have Y:b≠g:=λ z=>by rw[z,W] at j;cases j
   rw[qb5 I,qb5 I,qb5 Y,qb5 I];exact j
 refine l.xe ⟨C,[(fl,d)]⟩ i σ a _ F' A' q ⟨some g,qb4,.inr ⟨g,[(fl,v)],rfl,?_,rfl,?_⟩⟩ (S'.same G) ((s.count λ b=>by rw[zA0];lia).trans (Qb.same G))
 . rw[qb5 D,qb5 D,qb4]
 exact .cons (A:=[]) (B:=[]) (r.same G) .nil
end
structure MdN(K:O0)(C:γ)(m qual:Str)(st:Mb)(f:γ)(fd:ε)(ps:List Str):Prop where
 F:FunE K m qual st f fd
 b:Binds K fd ps []
 bn:Binds K fd ps [.none]
 me:Jy K C m f
 isf:W.isFn K (.ref f)=true
section
variable{X:Cx}{c:Vc}
theorem qaW9{x m qual:Str}{C f:γ}{fd:ε}{st:Mb}{ps:List Str}{k:Nat}{s:VSp}{e:Ma}{es:List Ma}{tr:VTB}{p pos:Pos}(i:Cl X.K X.mg x C)(M:Mk X.K C f)(D:MdN X.K C m qual st f fd ps)(G:Gi cm X.prog X.w X.K X.mg X.base k f fd ps s)(j:Lands X c.E)(l:Qd cm (k+1) X.A)(a:VAs c X (e::es) tr)(n:Gl X x:=by rfl)(d:N' x:=by decide)(o:Lf (e::es) X.env=(false,eval e X.env)::Lf es X.env:=by rfl)(g:(backTo pos (Lf es X.env)).any (·.1)=false:=by rfl):VE c X (.Call (.Name x p) (e::es) [] pos) (qL9 C s [] tr) :=
 ⟨PE.mono (qac7 M G.ok l n i.m D.b .nil j.passes a.h d o g) (qae9 qz6 G.m a),qE9 G.m a⟩
end
theorem mdmkN{K:O0}{C:γ}{m qual:Str}{st:Mb}{f T:γ}{ps:List Str}{oc to:V'}{od td g:Option γ}{p q:Array (Option V')}{kV e h d j:V'}(l:K.lookup f=some ⟨oc,od,.func (W.fnOf m qual (qe7 st) (qc9 st) (qa3 st) (.ref T) kV e h g d j),p⟩)(c:W.codeIn K d qual=true)(k:W.keepIn K (.ref f)=true)(a:W.findIn K (.ref C) m=some (some (.ref f)))(i:W.isFn K (.ref f)=true)(t:K.lookup T=some ⟨to,td,.seq #[.none] n,q⟩)(b:∀(kV e h:V')(g:Option γ)(d j:V')(us:List V'),us.length=ps.length->∃ k,bindArgs (W.fnOf m qual (qe7 st) (qc9 st) (qa3 st) (.ref T) kV e h g d j) ⟨us,[]⟩=seqItems? (.ref T) >>= k/\k (some #[.none])=pure (ps.zip us))(v:∀(kV e h:V')(g:Option γ)(d j:V')(us:List V'),us.length+1=ps.length->∃ k,bindArgs (W.fnOf m qual (qe7 st) (qc9 st) (qa3 st) (.ref T) kV e h g d j) ⟨us,[]⟩=seqItems? (.ref T) >>= k/\k (some #[.none])=pure (ps.zip (us++[.none]))) :
   MdN K C m qual st f (W.fnOf m qual (qe7 st) (qc9 st) (qa3 st) (.ref T) kV e h g d j) ps :=
 ⟨⟨⟨_,_,_,_,_,_,_,_,_,_,rfl,l,c⟩⟩,λ s us X o=>(by
   rw[zAg] at o ⊢;obtain⟨k,r,u⟩:=b kV e h g d j us o;exact W.binds_K X rfl t rfl r u),λ s us X o=>(by
   obtain⟨k,r,u⟩:=v kV e h g d j us (by rw[zAe] at o;exact o);exact W.binds_K X rfl t rfl r u),⟨a,i,k⟩,i⟩
end LV
namespace L2
open PySem PySem.Spec PyProof.Rows
section
variable{prog:L7}{w:L9}{A:L8}{E:V'->δ->Prop}{s:δ}{K:O0}{x C:γ}
theorem qap0{Q:Option V'->δ->Prop}{ox:Obj}{a:Option Obj}(X:K.In s.heap)(c:Exc K C)(I:W.InstAt s.heap x ox C a)(e:W.findObj K C a "__class__" = some (.bind (.builtin "getset_descriptor.__get__") (.builtin "object.__class__")))(hm:W.mroIn K C (.type "object")=some true)(h:Q (some (.ref C)) { s with toks:=s.toks+1 }):L5 (L6 prog w) A (getAttr? (.ref x) "__class__") Q E s:=by
 have FB:=Pe;obtain⟨b,g,d,t,f⟩:=s;have L0:=I.type (M:=L6 prog w);have L1:=W.looks_findIn (M:=L6 prog w) X c.ga;have L2:=W.looks_findIn (M:=L6 prog w) X c.gt;have L3:=W.looks_find (M:=L6 prog w) X I e;have sub:W.Looks (L6 prog w) b (isInstance (.ref x) (.type "BaseException")) true:=L0.andThen (W.looks_mroIn X c.be);have i:builtinKind "BaseException.__getattribute__" = some .slot:=by decide +kernel
 have j:splitId "BaseException.__getattribute__" = some ("BaseException", "__getattribute__"):=by decide +kernel
 unfold getAttr? getAttrBy? getAttrBy;refine G' (wpAny_mkText (G' (wpAny_attempt (Lj (G' (L0.at (G' (L1.at ?_))))))));dsimp only;have k:(Om "BaseException.__getattribute__" == Om "object.__getattribute__")=false:=by decide +kernel
 rw[k,Bool.and_false,if_neg zAk];unfold getAttrByItsOwn hookBefore;refine G' ?_;rw[if_pos (by rfl)];refine L2.at ?_;unfold callGetattribute boundAndCalled;rw[if_neg (by decide)];refine G' (wpAny_attempt (Lj ?_));rw[FB.ga.bind (.ref x)];refine G' (Ld (wpAny_call ?_));refine codeAny_call_builtin FB.ga.plain Pt (@W.check_slot (L6 prog w) _ _ _ "BaseException.__getattribute__" "BaseException" "__getattribute__" (.ref x) [.str "__class__" t] [] _ i j sub (Pu (.ref x) (.str "__class__" t)) ?_);unfold Builtin.«object.__getattribute__»;refine G' (Ld (G' (Ld (G' (L0.at (G' (L3.at ?_)))))));dsimp only;show L5 _ _ (holding [Om "object.__class__"] (call (Om "getset_descriptor.__get__") [Om "object.__class__",.ref x,.ref C]) >>= ret) _ _ _;refine G' (Lj (wpAny_call (W.class_get (s:=⟨b,g,d,t+1,f⟩) (ox:=ox) (od:=a) X I hm ?_)));refine Ld ?_;exact W.handed_on rfl (Ld h)
end
structure IsX(K:O0)(C:γ):Prop where
 ex:Exc K C
 ca:W.findIn K (.ref C) "__class__" = some (some (.builtin "object.__class__"))
 cn:W.specialIn K (.builtin "object.__class__") "__get__" = some (some (.builtin "getset_descriptor.__get__"))
 ct:W.takesIn K (.builtin "object.__class__")=some true
theorem qaB6{K:O0}{x C:γ}{ox od:Obj}(i:IsX K C):W.KitX K (.ref x) (.ref C) (λ h=>W.InstAt h x ox C (some od)) where
 ty:=λ _ _ _ I=>I.type
 it:=λ _ _ X _=>by
   obtain⟨b,a,_⟩:=W.any_some i.ex.hd;unfold W.clsIn at a;split at a
   . rename_i c' d' cd' sl' ho
     intro A' Q' E' j k q;unfold isType loadHead;exact G' (wpAny_loadPart (k _ _ (X _ _ ho)) (Ld q))
   cases a
 ne:=λ h d l f n m X c=>by
   obtain⟨b,a,_⟩:=W.any_some i.ex.hd;refine Bool.eq_false_iff.mpr λ q=>?_
   have e:C=d:=Value.ref.inj (zBl.mp q);subst e;unfold W.clsIn at a;split at a
   . rename_i c' d' cd' sl' ho
     have z:=(X _ _ ho).symm.trans c;cases z
   cases a
 ca:=λ X I k=>qap0 X i.ex I (W.findObj_data (by obtain⟨o,g,_⟩:=W.any_some i.ex.hd;rw[g];rfl) i.ca i.cn i.ct) i.ex.ob k
def rIsX(K:O0):List V->Hp->VK->Prop:=λ xs H Q=>∃ a d u C dx fr fs b,xs=[.ref a,d]/\P8 d u/\(∀ c,P8 d c->c=u)/\H a=some (Bk a C (some dx) fr)/\H dx=some (XD dx fs)/\IsX K C/\O1 K (.ref C) u=some b/\Q (.bl b) H
theorem qaE3{X:Cx}:CallR X (.builtin "isinstance") (rIsX X.K):=by
 intro Eo s U H G L Q I r h;obtain⟨a,d,u,C,j,M,N,b,rfl,O,c,k,l,ix,m,q⟩:=h;obtain⟨n,P,rfl,o,p⟩:=Hf r;obtain rfl:n=Oj a:=o;obtain rfl:=c _ p;obtain⟨t,v,w,f,g,i,_⟩:=qQ0 I.hok k;obtain⟨R,x,r,S,_⟩:=Ki I.hok l;obtain⟨y,A,B⟩:=qv4 x;obtain⟨T,D,E,e⟩:=t;dsimp only at f g i;subst f g i;have J:W.InstAt s.heap a ⟨.ref C,some j,.fields v,e⟩ C (some y):=⟨w,rfl,rfl,A⟩
 exact W.kia_one (qaB6 ix) I.kIn J m (λ z=>nomatch z) λ F=>⟨.bl b,H,I.tok F,rfl,q⟩
end L2
namespace LV
open PySem L2
section
theorem qC3{F:γ->Prop}{H:Hp}{f:Str}{d:D}:∀(a:List (Str×V))(b:List (Str×D)),a.map (·.1)=b.map (·.1)->P3 F H (a.map (·.2)) (b.map (·.2)) []->b.lookup f=some d->∃ v,a.lookup f=some v/\P' F H v d []
 | [],[],_,_,h=>by cases h
 | [],_::_,e,_,_=>by cases e
 | _::_,[],e,_,_=>by cases e
 | (k,v)::a,(k',d')::b,e,r,h=>by
   have g:k=k':=(List.cons.inj e).1;subst g;have r:P3 F H (v::a.map (·.2)) (d'::b.map (·.2)) []:=r;generalize i:([]:List γ)=N at r;cases r with
   | @cons _ _ B _ _ B' h1 t =>
     obtain⟨rfl,rfl⟩:=List.append_eq_nil_iff.mp i.symm;rw[zAu] at h ⊢;cases c:f == k with
     | true =>
       rw[c] at h;cases h;exact⟨v,rfl,h1⟩
     | false =>
       rw[c] at h;exact qC3 a b (List.cons.inj e).2 t h
end
section
variable{F:γ->Prop}{H:Hp}
noncomputable def qan8(ys xs:Ds):Option (Ds×D):=match xs with
 | [.int i]=>if 0<=i/\i < 2 ^ 63 then (ys[i.toNat]?).map λ d=>(ys.eraseIdx i.toNat,d) else none
 | _=>none
theorem qah5{α:Type}{xs:List α}{x:α}:∀{ys:List α},(xs++x::ys).eraseIdx xs.length=xs++ys:=λ{ys}=>by
 rw[List.eraseIdx_append_of_length_le (zA3 _),Nat.sub_self];rfl
theorem qaA8:Jo qaH1 qan8:=by
 intro F H a g c Ael N x T j d Q y r z h q;cases x with
 | nil=>cases h
 | cons e l =>
 cases l with
 | cons=>cases e<;>cases h
 | nil =>
 cases e with
 | int i =>
   obtain⟨w,rfl,k⟩:=z.one_inv;cases k;have h:(if 0<=i/\i < 2 ^ 63 then (c[i.toNat]?).map λ d=>(c.eraseIdx i.toNat,d) else none)=some (j,d):=h;by_cases f:0<=i/\i < 2 ^ 63
   . rw[if_pos f] at h
     obtain⟨e,s,A⟩:=zAh.mp h;cases A;obtain⟨m,v,n,o,p,A1,B,A2,t,e2,u,C,D,E,G,I⟩:=r.split s;have J:i.toNat < c.length:=(zA4.mp s).1;have K:g[i.toNat]? = some v:=by rw[t,<- u,List.getElem?_append_right (zA3 _),Nat.sub_self];rfl
     refine⟨a,g,i,i.toNat,v,rfl,rfl,y,by lia,f.2,?_,K,?_⟩
     . rw[r.len]
       exact PySem.StrLaws.seqIndex_nonneg f.1 (by lia)
     have L:g.eraseIdx i.toNat=m++n:=by rw[<- u,t];exact qah5
     have M:c.eraseIdx i.toNat=o++p:=by rw[<- C,e2];exact qah5
     rw[L];exact q _ v (A1++A2) B (by rw[M];exact E.append I) G λ b=>by rw[D];simp only[zA0];lia
   rw[if_neg f] at h;cases h
 | _=>cases h
end
theorem rm{cm:Bool}{j k:Nat}{A:L8}(r:Qd cm k A)(h:j<=k:=by decide):Qd cm j A:=r.mono h
theorem VFn.mk2{cm:Bool}{P:L7}{w:L9}{K:O0}{mg:Str->Option V'}{base:Heap}{x qual:Str}{st:Mb}{f:γ}{fd:ε}{N ps:List Str}{k:Nat}{s:VSp}(Fu:Fun K x qual st f fd)(Sc:qa8 N ps (qa3 st))(W:Nat->Bool)(c:Bz s)(h:∀ ds Q xe,s ds Q xe->ds.length=ps.length/\Ie W 0 ds=true)(hbody:∀(a:V')(A:L8)(outer:List Env)(b:δ)(H:Hp)(E:XK)(av:List (Option V)),Qd cm k (A.deeper (PyProof.Rows.envOfC qual (qa3 st) b.heap.objs.size f a)) ->
     ∃ t,VSs ⟨λ _=>E,W,av,[]⟩ (Fi cm (CX1 P w) P w K mg base N qual (qa3 st) f a A outer b H E) (qc9 st) t/\∀ ds Q xe,s ds Q xe->t (qap2 W ds Q xe) (ds++Mr (N.length - ds.length) .u)) :
   Gi cm P w K mg base (k+1) f fd ps s:=VFn.mk' Fu Sc W c (λ ds Q xe z=>(h ds Q xe z).1) (λ ds Q xe z=>(h ds Q xe z).2) hbody
end LV
namespace S6
open PySem PyProof.Rows
variable{N bs q:Nat}{arr xs:Array Mm}{f:Nat->Mm}{key:Mm}{kf:V'->Int×Int}{l:Bool}{vs:List V'}
section
variable{f:Type}{le:f->f->Bool}
theorem mg_l{A2:List f}:∀{A1 Y:List f},(∀ a∈A1,∀ y∈Y,le a y=true)->Mt (A1++A2) Y le=A1++Mt A2 Y le
 | [],_,_=>rfl
 | x::A1,[],_=>by simp
 | x::A1,y::Y,h=>by
   rw[zBv,zB6,if_pos (h x (by simp) y (by simp)),mg_l λ a b=>h a (by simp[b])];rfl
theorem mg_r{B2:List f}:∀{B1 X:List f},(∀ b∈B1,∀ x∈X,le x b=false)->Mt X (B1++B2) le=B1++Mt X B2 le
 | [],_,_=>rfl
 | b::B1,[],_=>by simp
 | b::B1,x::X,h=>by
   rw[zBv,zB6,if_neg (by simp[h b (by simp) x (by simp)]),mg_r λ a c=>h a (by simp[c])];rfl
theorem Kx{A2:List f}:∀{A1 Y:List f},(∀ a∈A2,∀ y∈Y,le a y=false)->Mt (A1++A2) Y le=Mt A1 Y le++A2
 | [],Y,h=>by
   have:=mg_r (B2:=[]) (B1:=Y) (X:=A2) (le:=le) λ y c a b=>h a b y c
   simpa using this
 | x::A1,[],_=>by simp
 | x::A1,y::Y,h=>by
   rw[zBv,zB6,zB6];split
   . rw[Kx h];rfl
   rw[<- zBv,Kx λ a b z d=>h a b z (by simp[d])];rfl
theorem Jc{B2:List f}:∀{B1 X:List f},(∀ b∈B2,∀ x∈X,le x b=true)->Mt X (B1++B2) le=Mt X B1 le++B2
 | [],X,h=>by
   have:=mg_l (A2:=[]) (A1:=X) (Y:=B2) (le:=le) λ y d a c=>h a c y d
   simpa using this
 | b::B1,[],_=>by simp
 | b::B1,x::X,h=>by
   rw[zBv,zB6,zB6];split
   . rw[<- zBv,Jc λ a c z e=>h a c z (by simp[e])];rfl
   rw[Jc h];rfl
end
noncomputable def gal:Bool->Mm->Array Mm->Nat->Nat->Nat->StateT Mn Sem (Option Nat):=sortPriv% PySem.Builtin.gallop
def bey(l:Bool)(key:Mm)(arr:Array Mm)(i:Nat):StateT Mn Sem (Option Bool):=do
 let x <- elem' arr i
 if l then lt' x key else return (<- lt' key x).map (!·)
theorem qaW2(l:Bool)(key:Mm)(arr:Array Mm)(bs n g:Nat):gal l key arr bs n g=(do
 let mut p:=0
 let mut o:=1
 let mut u:=0
 let mut v:=0
 let some t <- bey l key arr (bs+g) | return none
 if t then
   let mo:=n - g
   for _ in [0:n] do
     if o ≥ mo then break
     let some c <- bey l key arr (bs+(g+o)) | return none
     if !c then break
     p:=o
     o:=2 * o+1
   u:=g+p+1
   v:=g+min o mo
 else
   let mo:=g+1
   for _ in [0:n] do
     if o ≥ mo then break
     let some c <- bey l key arr (bs+(g - o)) | return none
     if c then break
     p:=o
     o:=2 * o+1
   u:=g+1 - min o mo
   v:=g - p
 for _ in [0:n] do
   if u ≥ v then break
   let m:=u+(v - u) / 2
   let some c <- bey l key arr (bs+m) | return none
   if c then u:=m+1 else v:=m
 return some v):=rfl
section
variable{M:Model}{A:L8}{E:V'->δ->Prop}{s:δ}{l n o:Type}{Q:o->l->Prop}{m:l}
theorem gB{f:l->StateT l Sem o}(h:wpS M A E s (f m) Q m):wpS M A E s (get >>= f) Q m:=Mc (wpS_get h)
theorem rB{t:String}{f:Unit->StateT l Sem o}(h:wpS M A E s (f ()) Q m):wpS M A E s (liftM (rule t) >>= f) Q m:=Mc (wpS_lift (wpAny_rule ⟨rfl,h⟩))
theorem fB{a b:Nat}{f:Nat->n->StateT l Sem (ForInStep n)}{g:n->StateT l Sem o}{c:n}(I:Nat->n->l->Prop)(R:n->l->Prop)(h1:∀ F,f=F->∀ i c m,a<=i->i < b->I i c m->∀ K:ForInStep n->l->Prop,(∀ e d,R e d->K (.done e) d)->(∀ e d,I (i+1) e d->K (.yield e) d)->wpS M A E s (F i c) K m)(h2:∀ c m,I (max a b) c m->R c m)(j:I a c m)(k:∀ F,g=F->∀ c m,R c m->wpS M A E s (F c) Q m):wpS M A E s (forIn [a:b] c f >>= g) Q m :=
 Mc (Mh (Mf I (λ i c m x y z=>h1 f rfl i c m x y z _ (λ _ _ h=>h) λ _ _ h=>h) h2 j) (k g rfl))
end
structure Od(lt:Mm->Mm->Bool):Prop where
 as:∀ x y,lt x y=true->lt y x=false
 tr:∀ x y z,lt y x=false->lt z y=false->lt z x=false
def Cm(prog:L7)(w:L9)(A:L8)(s:δ)(kd:SortKind)(P:Mm->Prop)(lt:Mm->Mm->Bool):Prop :=
 ∀ x y,P x->P y->∀(E:V'->δ->Prop)(Q:Bool->δ->Prop),Q (lt x y) s->L5 (L6 prog w) A (keyLt' kd x.1 y.1) Q E s
section
variable{prog:L7}{w:L9}{A:L8}{E:V'->δ->Prop}{s:δ}{kd:SortKind}{P:Mm->Prop}{lt:Mm->Mm->Bool}{st:Mn}
theorem Od.ir(h:Od lt)(x:Mm):lt x x=false:=by
 cases e:lt x x with
 | false=>rfl
 | true=>rw[h.as x x e] at e;cases e
theorem wlt{x y:Mm}{Q:Option Bool->Mn->Prop}(a:Cm prog w A s kd P lt)(b:Mo st=kd)(c:P x)(d:P y)(h:Q (some (lt x y)) st):wpS (L6 prog w) A E s (lt' x y) Q st:=by
 rw[lt'_eq];refine gB ?_;rw[b];exact Mc (wpS_lift (wpAny_attempt (a x y c d _ _ ⟨rfl,Me h⟩)))
theorem wel{i:Nat}{p:Mm}{Q:Mm->Mn->Prop}(hi:arr[i]? = some p)(h:Q p st):wpS (L6 prog w) A E s (elem' arr i) Q st:=by
 rw[elem'_eq,hi];exact Me h
def B(lt:Mm->Mm->Bool)(l:Bool)(key x:Mm):Bool:=if l then lt x key else !lt key x
theorem wif{α:Type}{c:Prop}[Decidable c]{m n:StateT Mn Sem α}{Q:α->Mn->Prop}(h1:c->wpS (L6 prog w) A E s m Q st)(h2:¬ c->wpS (L6 prog w) A E s n Q st):wpS (L6 prog w) A E s (if c then m else n) Q st:=by
 by_cases h:c
 . rw[if_pos h];exact h1 h
 rw[if_neg h];exact h2 h
section
variable{u v n x i g o p:Nat}
theorem l2o(o:Nat):o+1<=2 * o+1:=by lia
theorem g1(c:¬ u ≥ v)(h:v - u<=n - x):u+(v - u) / 2 < v/\v - (u+(v - u) / 2+1)<=n - (x+1)/\u+(v - u) / 2 - u<=n - (x+1):=by
 have q:=Nat.div_lt_self (Nat.sub_pos_of_lt (Nat.lt_of_not_le c)) (zA3 2);generalize (v - u) / 2=m at *
 have t:=Nat.sub_le_sub_right h 1;exact⟨Nat.add_lt_of_lt_sub' q,zAd (Nat.sub_le_sub_left (zC1 (Nat.le_add_right u m)) v) t,by rw[Nat.add_sub_cancel_left];exact zAd (Nat.le_pred_of_lt q) t⟩
theorem g2(h:v - u<=n - max 0 n)(hi:i < v):i < u:=by lia
theorem g3(h:max 0 n+1<=o)(h':o < n - g):False:=by lia
theorem g8(h:max 0 n+1<=o)(a:g < n)(h':o < g+1):False:=by lia
theorem g4(h:p < o)(h':g+p < n):g+p+1<=g+min o (n - g)/\g+min o (n - g)<=n:=by lia
theorem g5(h:g+min o (n - g)<=i)(h':i < n):g+o<=i/\o < n - g:=by lia
theorem g6(h:p < o)(h':p<=g):g+1 - min o (g+1)<=g - p:=by lia
theorem g7(h:i < g+1 - min o (g+1)):i<=g - o/\o < g+1:=by
 by_cases c:o < g+1
 . rw[Nat.min_eq_left (zB5 c)] at h;exact⟨by lia,c⟩
 rw[Nat.min_eq_right (zC0 c),Nat.sub_self] at h;exact absurd h (zCb _)
end
theorem yB{β:Type}{x:Mm}{i:Nat}{f:Option Bool->StateT Mn Sem β}{Q:β->Mn->Prop}(a:Cm prog w A s kd P lt)(b:Mo st=kd)(hi:arr[i]? = some x)(c:P x)(d:P key)(h:B lt l key x=true->wpS (L6 prog w) A E s (f (some true)) Q st)(h':B lt l key x=false->wpS (L6 prog w) A E s (f (some false)) Q st):wpS (L6 prog w) A E s (bey l key arr i >>= f) Q st:=by
 have e:wpS (L6 prog w) A E s (f (some (B lt l key x))) Q st:=by cases e:B lt l key x with | true=>exact h e | false=>exact h' e
 refine Mc ?_;unfold bey;refine Mc (wel hi ?_);cases l with
 | true=>exact wlt a b c d e
 | false=>exact Mc (wlt a b d c (Me e))
theorem wgal{n g:Nat}{Q:Option Nat->Mn->Prop}(O:Cm prog w A s kd P lt)(R:Mo st=kd)(S:P key)(T:∀ i,i < n->arr[bs+i]? = some (f i))(U:∀ i,i < n->P (f i))(hm:∀ i j,i<=j->j < n->B lt l key (f j)=true->B lt l key (f i)=true)(J:g < n)(h:∀ k,k<=n->(∀ i,i < k->B lt l key (f i)=true)->(∀ i,k<=i->i < n->B lt l key (f i)=false)->Q (some k) st):wpS (L6 prog w) A E s (gal l key arr bs n g) Q st:=by
 have L:∀ i j,i<=j->j < n->B lt l key (f i)=false->B lt l key (f j)=false:=λ i j a b c=>by
   cases e:B lt l key (f j) with
   | false=>rfl
   | true=>rw[hm i j a b e] at c;cases c
 have fin:∀ u v,u<=v->v<=n->(∀ i,i < u->B lt l key (f i)=true)->(∀ i,v<=i->i < n->B lt l key (f i)=false) ->
    wpS (L6 prog w) A E s (do
      let mut u:=u
      let mut v:=v
      for _ in [0:n] do
       if u ≥ v then break
       let m:=u+(v - u) / 2
       let some c <- bey l key arr (bs+m) | return none
       if c then u:=m+1 else v:=m
      return some v) Q st:=by
   intro u v Z X a3 a4;refine fB (λ x c d=>d=st/\c.1=none/\c.2.1<=c.2.2/\c.2.2<=n/\c.2.2 - c.2.1<=n - x/\(∀ i,i < c.2.1->B lt l key (f i)=true)/\(∀ i,c.2.2<=i->i < n->B lt l key (f i)=false)) (λ c d=>d=st/\c.1=none/\c.2.2<=n/\(∀ i,i < c.2.2->B lt l key (f i)=true)/\(∀ i,c.2.2<=i->i < n->B lt l key (f i)=false)) ?_ ?_ ⟨rfl,rfl,Z,X,zAd (zCc v u) X,a3,a4⟩ ?_
   . rintro F z x ⟨_,u,v⟩ d - Y ⟨rfl,rfl,y,C,t,r,H⟩ K p q
     subst z;refine wif (λ c=>Me (p _ _ ⟨rfl,rfl,C,λ i I=>r i (zA8 I c),H⟩)) λ c=>?_
     have m:=g1 (u:=u) (v:=v) c t;have V:=zA8 m.1 C;exact yB O R (T _ V) (U _ V) S (λ G=>Me (q _ _ ⟨rfl,rfl,m.1,C,m.2.1,λ i I=>hm i _ (zBw I) V G,H⟩)) λ G=>Me (q _ _ ⟨rfl,rfl,Nat.le_add_right _ _,zB5 V,m.2.2,r,λ i D M=>L _ i D M G⟩)
   . exact λ c d ⟨N,D,y,C,t,r,H⟩=>⟨N,D,C,λ i I=>r i (g2 t I),H⟩
   rintro F z ⟨_,u,v⟩ d ⟨rfl,rfl,C,r,H⟩;subst z;exact Me (h v C r H)
 rw[qaW2];refine yB O R (T _ J) (U _ J) S (λ W=>wif (λ _=>?_) λ c=>absurd rfl c) λ W=>wif (λ c=>nomatch c) λ _=>?_
 . refine fB (λ x c d=>d=st/\c.1=none/\c.2.1 < c.2.2/\x+1<=c.2.2/\g+c.2.1 < n/\B lt l key (f (g+c.2.1))=true) (λ c d=>d=st/\c.1=none/\c.2.1 < c.2.2/\g+c.2.1 < n/\B lt l key (f (g+c.2.1))=true/\(c.2.2 < n - g->B lt l key (f (g+c.2.2))=false)) ?_ ?_ ⟨rfl,rfl,Nat.one_pos,zA3 _,J,W⟩ ?_
   . rintro F z x ⟨_,p,o⟩ d - Y ⟨rfl,rfl,y,C,t,r⟩ K u v
     subst z;refine wif (λ c=>Me (u _ _ ⟨rfl,rfl,y,t,r,λ h=>absurd h (Nat.not_lt_of_le c)⟩)) λ c=>?_
     have m:g+o < n:=Nat.add_lt_of_lt_sub' (Nat.lt_of_not_le c);exact yB O R (T _ m) (U _ m) S (λ G=>Me (v _ _ ⟨rfl,rfl,l2o o,zAd (zC1 C) (l2o o),m,G⟩)) λ G=>Me (u _ _ ⟨rfl,rfl,y,t,r,λ _=>G⟩)
   . exact λ c d ⟨N,D,y,C,t,r⟩=>⟨N,D,y,t,r,λ h=>(g3 C h).elim⟩
   rintro F z ⟨_,p,o⟩ d ⟨rfl,rfl,y,t,r,H⟩;subst z;exact fin (g+p+1) (g+min o (n - g)) (g4 y t).1 (g4 y t).2 (λ i I=>hm i _ (zBw I) t r) λ i D M=>L (g+o) i (g5 D M).1 M (H (g5 D M).2)
 refine fB (λ x c d=>d=st/\c.1=none/\c.2.1 < c.2.2/\x+1<=c.2.2/\c.2.1<=g/\B lt l key (f (g - c.2.1))=false) (λ c d=>d=st/\c.1=none/\c.2.1 < c.2.2/\c.2.1<=g/\B lt l key (f (g - c.2.1))=false/\(c.2.2 < g+1->B lt l key (f (g - c.2.2))=true)) ?_ ?_ ⟨rfl,rfl,Nat.one_pos,zA3 _,zBk _,W⟩ ?_
 . rintro F z x ⟨_,p,o⟩ d - Y ⟨rfl,rfl,y,C,t,r⟩ K u v
   subst z;have m:g - o < n:=zC4 (zCc g o) J;exact wif (λ c=>Me (u _ _ ⟨rfl,rfl,y,t,r,λ h=>absurd h (Nat.not_lt_of_le c)⟩)) λ c=>yB O R (T _ m) (U _ m) S (λ G=>Me (u _ _ ⟨rfl,rfl,y,t,r,λ _=>G⟩)) λ G=>Me (v _ _ ⟨rfl,rfl,l2o o,zAd (zC1 C) (l2o o),zBw (Nat.lt_of_not_le c),G⟩)
 . exact λ c d ⟨N,D,y,C,t,r⟩=>⟨N,D,y,t,r,λ h=>(g8 C J h).elim⟩
 rintro F z ⟨_,p,o⟩ d ⟨rfl,rfl,y,t,r,H⟩;subst z;exact fin (g+1 - min o (g+1)) (g - p) (g6 y t) (zAd (zCc g p) (zB5 J)) (λ i I=>hm i (g - o) (g7 I).1 (zC4 (zCc g o) J) (H (g7 I).2)) λ i D M=>L _ i D M r
end
noncomputable abbrev lee(lt:Mm->Mm->Bool):Mm->Mm->Bool:=λ x y=>!lt y x
section
variable{d:Type}{le:d->d->Bool}
theorem Ky{A2 Y:List d}{y:d}:∀{A1:List d},(∀ a∈A1,le a y=true)->Mt (A1++A2) (y::Y) le=A1++Mt A2 (y::Y) le
 | [],_=>rfl
 | x::A1,h=>by rw[zBv,zB6,if_pos (h x (by simp)),Ky λ a b=>h a (by simp[b])];rfl
theorem Kz{B2 X:List d}{x:d}:∀{B1:List d},(∀ b∈B1,le x b=false)->Mt (x::X) (B1++B2) le=B1++Mt (x::X) B2 le
 | [],_=>rfl
 | b::B1,h=>by rw[zBv,zB6,if_neg (by simp[h b (by simp)]),Kz λ a c=>h a (by simp[c])];rfl
end
noncomputable def att(a:Array Mm)(i:Nat):Mm:=a.getD i (Ol,Ol)
theorem qR0{a:Array Mm}{i:Nat}(h:i < a.size):a[i]? = some (att a i):=by simp[att,Array.getD,h]
theorem Fq{a:Array Mm}{i:Nat}(h:i < a.size):a.toList.drop i=att a i::a.toList.drop (i+1):=by
 rw[zC5 (by simpa using h)];simp[att,Array.getD,h]
def Srt(lt:Mm->Mm->Bool)(f:Nat->Mm)(n:Nat):Prop:=∀ i j,i<=j->j < n->lt (f j) (f i)=false
theorem Srt.drop{lt:Mm->Mm->Bool}{n k:Nat}(h:Srt lt f n):Srt lt (λ i=>f (k+i)) (n - k):=λ i j a b=>h _ _ (by lia) (by lia)
theorem qt6{a:Array Mm}{i k:Nat}{x:Mm}(h:x∈(a.toList.drop i).take k):∃ j,j < k/\i+j < a.size/\x=att a (i+j):=by
 obtain⟨j,b,e⟩:=List.mem_iff_getElem.mp h;rw[zBz,M3,zB2] at b;refine⟨j,by lia,by lia,?_⟩;rw[<- e,N0,N1];simp[att,Array.getD,show i+j < a.size by lia]
theorem qc8{a:Array Mm}{i j:Nat}:(a.extract i j).toList=(a.toList.drop i).take (j - i):=by simp[List.take_drop]
section
variable{prog:L7}{w:L9}{A:L8}{E:V'->δ->Prop}{s:δ}{kd:SortKind}{P:Mm->Prop}{lt:Mm->Mm->Bool}{st:Mn}
theorem wgs{n g:Nat}{Q:Option Nat->Mn->Prop}(b:Od lt)(m:Cm prog w A s kd P lt)(o:Mo st=kd)(p:P key)(x:bs+n<=arr.size)(q:∀ i,i < arr.size->P (att arr i))(r:Srt lt (λ i=>att arr (bs+i)) n)(t:g < n)(h:∀ k,k<=n->(∀ i,i < k->B lt l key (att arr (bs+i))=true)->(∀ i,k<=i->i < n->B lt l key (att arr (bs+i))=false)->Q (some k) st):wpS (L6 prog w) A E s (gal l key arr bs n g) Q st:=by
 refine wgal (f:=λ i=>att arr (bs+i)) m o p (λ i u=>qR0 (by lia)) (λ i u=>q _ (by lia)) (λ i j a v c=>?_) t h;have d:=r i j a v;cases l with
 | false =>
   have e:lt key (att arr (bs+j))=false:=by simpa[B] using c
   show (!lt key (att arr (bs+i)))=true;rw[b.tr _ _ _ d e];rfl
 | true =>
   show lt (att arr (bs+i)) key=true;cases e:lt (att arr (bs+i)) key with
   | true=>rfl
   | false=>have:=b.tr _ _ _ e d;rw[show lt (att arr (bs+j)) key=true from c] at this;cases this
def R(st a:Mn):Prop:=Mo a=Mo st/\Ml a=Ml st/\Mg a=Mg st/\Mi a=Mi st
noncomputable def mlo:Array Mm->Array Mm->StateT Mn Sem (Array Mm):=sortPriv% PySem.Builtin.mergeLo
noncomputable def smg:Nat->StateT Mn Sem Unit:=sortPriv% PySem.Builtin.setMinGallop
theorem qaU3(a b:Array Mm):mlo a b=(do
 rule "list.sort.merge-lo"
 let tt:=a.size+b.size
 let dn (o:Array Mm) (i j:Nat):=o++a.extract i a.size++b.extract j b.size
 let la (o:Array Mm) (i j:Nat):=o++b.extract j b.size++a.extract i a.size
 let mut o:Array Mm:=#[<- elem' b 0]
 let mut i:=0
 let mut j:=1
 if j == b.size then return dn o i j
 if i+1 == a.size then return la o i j
 let mut g:=gallopOf (<- get)
 for _ in [0:tt] do
   let mut x:=0
   let mut y:=0
   for _ in [0:tt] do
     let some t <- lt' (<- elem' b j) (<- elem' a i) | return dn o i j
     if t then
       o:=o.push (<- elem' b j);j:=j+1;y:=y+1;x:=0
       if j == b.size then return dn o i j
       if y ≥ g then break
     else
       o:=o.push (<- elem' a i);i:=i+1;x:=x+1;y:=0
       if i+1 == a.size then return la o i j
       if x ≥ g then break
   rule "list.sort.gallop"
   g:=g+1
   for _ in [0:tt] do
     if g > 1 then g:=g - 1
     smg g
     let some k <- gal false (<- elem' b j) a i (a.size - i) 0 | return dn o i j
     x:=k
     if k > 0 then
       o:=o++a.extract i (i+k);i:=i+k
       if i+1 == a.size then return la o i j
       if i == a.size then return dn o i j
     o:=o.push (<- elem' b j);j:=j+1
     if j == b.size then return dn o i j
     let some k <- gal true (<- elem' a i) b j (b.size - j) 0 | return dn o i j
     y:=k
     if k > 0 then
       o:=o++b.extract j (j+k);j:=j+k
       if j == b.size then return dn o i j
     o:=o.push (<- elem' a i);i:=i+1
     if i+1 == a.size then return la o i j
     if x < 7&&y < 7 then break
   g:=g+1
   smg g
 unsupported "internal:list.sort.merge-bound"):=rfl
def Eq2(lt:Mm->Mm->Bool)(a b o:Array Mm)(i j:Nat):Prop:=o.toList++Mt (a.toList.drop i) (b.toList.drop j) (lee lt)=Mt a.toList b.toList (lee lt)
variable{a b o:Array Mm}{i j k:Nat}
theorem Eq2.done(h:Eq2 lt a b o i j)(c:j=b.size∨i=a.size):(o++a.extract i a.size++b.extract j b.size).toList=Mt a.toList b.toList (lee lt):=by
 rw[<- h,zB3,zB3,qc8,qc8,zAr];congr 1;rw[zAs (by simp),zAs (by simp)];rcases c with rfl | rfl
 . rw[show b.toList.drop b.size=[] by simp,zAg,N5]
 rw[show a.toList.drop a.size=[] by simp,zBi,N9]
theorem Eq2.last(h:Eq2 lt a b o i j)(hi:i+1=a.size)(d:∀ n,n < b.size->lt (att b n) (att a i)=true):(o++b.extract j b.size++a.extract i a.size).toList=Mt a.toList b.toList (lee lt):=by
 rw[<- h,zB3,zB3,qc8,qc8,zAr];congr 1;rw[zAs (by simp),zAs (by simp),Fq (a:=a) (i:=i) (by lia),show a.toList.drop (i+1)=[] from List.drop_eq_nil_of_le (by simp;lia)]
 have:=Kz (le:=lee lt) (B2:=[]) (X:=[]) (x:=att a i) (B1:=b.toList.drop j) λ x c=>by
   rw[<- zAs (l:=b.toList.drop j) (zA3 _)] at c;obtain⟨n,_,e,rfl⟩:=qt6 c;simp[d _ e]
 rw[zAg] at this;rw[this];simp
theorem Eq2.pb(h:Eq2 lt a b o i j)(hi:i < a.size)(c:j < b.size)(d:lt (att b j) (att a i)=true):Eq2 lt a b (o.push (att b j)) i (j+1):=by
 unfold Eq2 at h ⊢;rw[<- h,Array.toList_push,zAr,Fq hi,Fq c,zB6,if_neg (by simp[d])];rfl
theorem Eq2.pa(h:Eq2 lt a b o i j)(hi:i < a.size)(c:j < b.size)(d:lt (att b j) (att a i)=false):Eq2 lt a b (o.push (att a i)) (i+1) j:=by
 unfold Eq2 at h ⊢;rw[<- h,Array.toList_push,zAr,Fq hi,Fq c,zB6,if_pos (by simp[d])];rfl
theorem Eq2.ga(h:Eq2 lt a b o i j)(c:j < b.size)(d:∀ n,n < k->i+n < a.size->lt (att b j) (att a (i+n))=false):Eq2 lt a b (o++a.extract i (i+k)) (i+k) j:=by
 unfold Eq2 at h ⊢;rw[<- h,zB3,qc8,zAr,show i+k - i=k by lia,Fq c];congr 1
 conv=>rhs;rw[<- zBa k (a.toList.drop i)]
 rw[Ky (le:=lee lt),Np];intro x e;obtain⟨n,f,g,rfl⟩:=qt6 e;simp[d n f g]
theorem Eq2.gb(h:Eq2 lt a b o i j)(hi:i < a.size)(c:∀ n,n < k->j+n < b.size->lt (att b (j+n)) (att a i)=true):Eq2 lt a b (o++b.extract j (j+k)) i (j+k):=by
 unfold Eq2 at h ⊢;rw[<- h,zB3,qc8,zAr,show j+k - j=k by lia,Fq hi];congr 1
 conv=>rhs;rw[<- zBa k (b.toList.drop j)]
 rw[Kz (le:=lee lt),Np];intro x d;obtain⟨n,e,f,rfl⟩:=qt6 d;simp[c n e f]
section
variable{β:Type}{Q:β->Mn->Prop}
theorem eB{f:Mm->StateT Mn Sem β}(hi:i < a.size)(h:wpS (L6 prog w) A E s (f (att a i)) Q st):wpS (L6 prog w) A E s (elem' a i >>= f) Q st:=Mc (wel (qR0 hi) h)
theorem lB{x y:Mm}{f:Option Bool->StateT Mn Sem β}(a:Cm prog w A s kd P lt)(b:Mo st=kd)(c:P x)(d:P y)(h:lt x y=true->wpS (L6 prog w) A E s (f (some true)) Q st)(h':lt x y=false->wpS (L6 prog w) A E s (f (some false)) Q st):wpS (L6 prog w) A E s (lt' x y >>= f) Q st:=Mc (wlt a b c d (by cases e:lt x y<;>simp_all))
theorem mB{g:Nat}{a:Mn}{f:Unit->StateT Mn Sem β}(c:R a st)(h:∀ b,R a b->wpS (L6 prog w) A E s (f ()) Q b):wpS (L6 prog w) A E s (smg g >>= f) Q st:=Mc (Mj (h _ c))
theorem sB{f:Option Nat->StateT Mn Sem β}(e:Od lt)(g:Cm prog w A s kd P lt)(j:Mo st=kd)(m:P key)(n:∀ i,i < arr.size->P (att arr i))(o:Srt lt (att arr) arr.size)(p:bs < arr.size)(h:∀ k,bs+k<=arr.size->(∀ i,i < k->B lt l key (att arr (bs+i))=true)->(bs+k < arr.size->B lt l key (att arr (bs+k))=false)->wpS (L6 prog w) A E s (f (some k)) Q st):wpS (L6 prog w) A E s (gal l key arr bs (arr.size - bs) 0 >>= f) Q st:=Mc (wgs e g j m (by lia) n o.drop (by lia) λ k a b c=>h k (by lia) b λ d=>c k (zA3 _) (by lia))
end
theorem ltn{x y:Nat}(h:¬ (x == y)=true)(h':x<=y):x < y:=Nat.lt_of_le_of_ne h' λ e=>h (zBl.mpr e)
theorem sa{x i j:Nat}(h:x<=i+j):x+1<=i+1+j:=Nat.succ_add i j ▸ zC1 h
theorem la{x i j k:Nat}(h:x<=i+j):x<=i+(j+k):=by lia
theorem lb{x i j k:Nat}(h:x<=i+j):x<=i+k+j:=by lia
theorem nt{b:Bool}(h:(!b)=true):b=false:=by simpa using h
theorem nf{b:Bool}(h:(!b)=false):b=true:=by simpa using h
theorem wmlo{Q:Array Mm->Mn->Prop}(hO:Od lt)(Y:Cm prog w A s kd P lt)(Z:Mo st=kd)(L:∀ n,n < a.size->P (att a n))(M:∀ n,n < b.size->P (att b n))(a0:Srt lt (att a) a.size)(a1:Srt lt (att b) b.size)(V:0 < a.size)(N:0 < b.size)(h0:lt (att b 0) (att a 0)=true)(hl:∀ n,n < b.size->lt (att b n) (att a (a.size - 1))=true)(h:∀ r f,R st f->r.toList=Mt a.toList b.toList (lee lt)->Q r f):wpS (L6 prog w) A E s (mlo a b) Q st:=by
 have H:∀ i,i+1=a.size->∀ n,n < b.size->lt (att b n) (att a i)=true:=λ i e n hn=>by rw[Nat.eq_sub_of_add_eq e];exact hl n hn
 have e1:Eq2 lt a b #[att b 0] 0 1:=Eq2.pb (o:=#[]) (i:=0) (j:=0) rfl V N h0;rw[qaU3];refine rB (eB N (wif (λ c=>Me (h _ st ⟨rfl,rfl,rfl,rfl⟩ (e1.done (.inl (eq_of_beq c))))) λ c1=>wif (λ c=>Me (h _ st ⟨rfl,rfl,rfl,rfl⟩ (e1.last (eq_of_beq c) (H 0 (eq_of_beq c))))) λ c2=>gB ?_))
 let D (c:Option (Array Mm)):Prop:=∃ r,c=some r/\r.toList=Mt a.toList b.toList (lee lt)
 let G (n:Nat) (o:Array Mm) (i j:Nat):Prop:=Eq2 lt a b o i j/\i+1 < a.size/\j < b.size/\n<=i+j
 refine fB (λ x c f=>R st f/\c.1=none/\G (x+1) c.2.1 c.2.2.1 c.2.2.2.1) (λ c f=>R st f/\D c.1) ?_ ?_ ⟨⟨rfl,rfl,rfl,rfl⟩,rfl,e1,ltn c2 V,ltn c1 N,zA3 _⟩ ?_
 . rintro F z x ⟨_,o,i,j,g⟩ O - hx ⟨W,rfl,g1,g2,g3,g4⟩ K p n
   subst z;refine fB (λ y c f=>R st f/\c.1=none/\G (x+1+y) c.2.1 c.2.2.1 c.2.2.2.1) (λ c f=>R st f/\(D c.1∨c.1=none/\G (x+2) c.2.1 c.2.2.1 c.2.2.2.1)) ?_ ?_ ⟨W,rfl,g1,g2,g3,g4⟩ ?_
   . rintro F z y ⟨_,o,i,j,_,_⟩ S - hy ⟨m,rfl,v,t,l,B⟩ K p n
     subst z;have I:=zCa t;have k6:=zAd (Nat.le_add_right (x+1) y) B;refine eB l (eB I (lB Y (m.1.trans Z) (M _ l) (L _ I) (λ hb=>?_) λ hb=>?_))
     . have e2:=v.pb I l hb
       exact eB l (wif (λ c=>Me (p _ _ ⟨m,.inl ⟨_,rfl,e2.done (.inl (eq_of_beq c))⟩⟩)) λ c=>wif (λ _=>Me (p _ _ ⟨m,.inr ⟨rfl,e2,t,ltn c l,zC1 k6⟩⟩)) λ _=>Me (n _ _ ⟨m,rfl,e2,t,ltn c l,zC1 B⟩))
     have e2:=v.pa I l hb;exact eB I (wif (λ c=>Me (p _ _ ⟨m,.inl ⟨_,rfl,e2.last (eq_of_beq c) (H _ (eq_of_beq c))⟩⟩)) λ c=>wif (λ _=>Me (p _ _ ⟨m,.inr ⟨rfl,e2,ltn c t,l,sa k6⟩⟩)) λ _=>Me (n _ _ ⟨m,rfl,e2,ltn c t,l,sa B⟩))
   . rintro c S ⟨m,k0,v,t,l,B⟩
     exact⟨m,.inr ⟨k0,v,t,l,by lia⟩⟩
   rintro F z ⟨c,c'⟩ S ⟨m,⟨r,rfl,e⟩ | ⟨e,v,t,l,B⟩⟩
   . subst z;exact Me (p _ _ ⟨m,r,rfl,e⟩)
   cases e;subst z;refine rB (fB (λ y c f=>R st f/\c.1=none/\G (x+2) c.2.1 c.2.2.1 c.2.2.2.1) (λ c f=>R st f/\(D c.1∨c.1=none/\G (x+2) c.2.1 c.2.2.1 c.2.2.2.1)) ?_ ?_ ⟨m,rfl,v,t,l,B⟩ ?_)
   . rintro F z y ⟨_,o,i,j,g,_,_⟩ a2 - hy ⟨r3,rfl,v,t,l,B⟩ K p n
     subst z;have I:=zCa t;dsimp -zeta only
     extract_lets +onlyGivenNames _ _ _ _ _ _ _ _ _ _ _ _ J
     suffices u:∀ g,wpS (L6 prog w) A E s (J () g) K a2 from wif (λ _=>u _) λ _=>u _
     intro g;dsimp +zetaDelta -zeta only;refine mB r3 λ T C=>eB l (sB hO Y (C.1.trans Z) (M _ l) L a0 I λ k q1 q2 q3=>?_)
     dsimp -zeta only
     extract_lets +onlyGivenNames _ J
     have ea:=v.ga (k:=k) l λ n h1 _=>nt (q2 n h1)
     suffices u:∀ o i,Eq2 lt a b o i j->i+1 < a.size->x+2<=i+j->lt (att b j) (att a i)=true->wpS (L6 prog w) A E s (J () o i) K T from wif (λ c=>wif (λ d=>Me (p _ _ ⟨C,.inl ⟨_,rfl,ea.last (eq_of_beq d) (H _ (eq_of_beq d))⟩⟩)) λ d=>wif (λ X=>Me (p _ _ ⟨C,.inl ⟨_,rfl,ea.done (.inr (eq_of_beq X))⟩⟩)) λ X=>u _ _ ea (ltn d (ltn X q1)) (lb B) (nf (q3 (ltn X q1)))) λ c=>by
       obtain rfl:=Nat.eq_zero_of_not_pos c;exact u _ _ v t B (nf (q3 I))
     intro o i e z1 zb z;dsimp +zetaDelta -zeta only;have U:=zCa z1;have e2:=e.pb U l z;refine eB l (wif (λ d=>Me (p _ _ ⟨C,.inl ⟨_,rfl,e2.done (.inl (eq_of_beq d))⟩⟩)) λ d=>?_);have z2:=ltn d l;refine eB U (sB hO Y (C.1.trans Z) (L _ U) M a1 z2 λ q p1 p2 p3=>?_);dsimp -zeta only
     extract_lets +onlyGivenNames _ _ J
     have eb:=e2.gb (k:=q) U λ n h1 h2=>p2 n h1
     suffices u:∀ o j,Eq2 lt a b o i j->j < b.size->x+2<=i+j->lt (att b j) (att a i)=false->wpS (L6 prog w) A E s (J () o j) K T from wif (λ c=>wif (λ d=>Me (p _ _ ⟨C,.inl ⟨_,rfl,eb.done (.inl (eq_of_beq d))⟩⟩)) λ d=>u _ _ eb (ltn d p1) (la (la zb)) (p3 (ltn d p1))) λ c=>by
       obtain rfl:=Nat.eq_zero_of_not_pos c;exact u _ _ e2 z2 (la zb) (p3 z2)
     intro o j e3 z3 zc z4;have z5:=e3.pa U z3 z4;refine eB U (wif (λ d=>Me (p _ _ ⟨C,.inl ⟨_,rfl,z5.last (eq_of_beq d) (H _ (eq_of_beq d))⟩⟩)) λ d=>?_);exact wif (λ _=>Me (p _ _ ⟨C,.inr ⟨rfl,z5,ltn d z1,z3,lb zc⟩⟩)) λ _=>Me (n _ _ ⟨C,rfl,z5,ltn d z1,z3,lb zc⟩)
   . exact λ _ _ z=>⟨z.1,.inr z.2⟩
   rintro F z ⟨c,c'⟩ S ⟨m,⟨r,rfl,e⟩ | ⟨e,v,t,l,B⟩⟩<;>subst z
   . exact Me (p _ _ ⟨m,r,rfl,e⟩)
   cases e;exact mB m λ T C=>Me (n _ _ ⟨C,rfl,v,t,l,B⟩)
 . rintro c O ⟨W,_,g1,g2,g3,g4⟩
   lia
 rintro F z ⟨c,c'⟩ O ⟨W,r,rfl,e⟩;subst z;exact Me (h r O W e)
end
section
variable{prog:L7}{w:L9}{A:L8}{E:V'->δ->Prop}{s:δ}{kd:SortKind}{P:Mm->Prop}{lt:Mm->Mm->Bool}{st:Mn}
noncomputable def mhi:Array Mm->Array Mm->StateT Mn Sem (Array Mm):=sortPriv% PySem.Builtin.mergeHi
theorem qaU4(a b:Array Mm):mhi a b=(do
 rule "list.sort.merge-hi"
 let tt:=a.size+b.size
 let dn (o:Array Mm) (i j:Nat):=a.extract 0 i++b.extract 0 j++o.reverse
 let fb (o:Array Mm) (i j:Nat):=b.extract 0 j++a.extract 0 i++o.reverse
 let mut i:=a.size - 1
 let mut j:=b.size
 let mut o:Array Mm:=#[<- elem' a i]
 if i == 0 then return dn o i j
 if j == 1 then return fb o i j
 let mut g:=gallopOf (<- get)
 for _ in [0:tt] do
   let mut x:=0
   let mut y:=0
   for _ in [0:tt] do
     let some t <- lt' (<- elem' b (j - 1)) (<- elem' a (i - 1)) | return dn o i j
     if t then
       i:=i - 1;o:=o.push (<- elem' a i);x:=x+1;y:=0
       if i == 0 then return dn o i j
       if x ≥ g then break
     else
       j:=j - 1;o:=o.push (<- elem' b j);y:=y+1;x:=0
       if j == 1 then return fb o i j
       if y ≥ g then break
   rule "list.sort.gallop"
   g:=g+1
   for _ in [0:tt] do
     if g > 1 then g:=g - 1
     smg g
     let some q <- gal false (<- elem' b (j - 1)) a 0 i (i - 1) | return dn o i j
     let k:=i - q
     x:=k
     if k > 0 then
       o:=o++(a.extract q i).reverse;i:=q
       if i == 0 then return dn o i j
     j:=j - 1;o:=o.push (<- elem' b j)
     if j == 1 then return fb o i j
     let some q <- gal true (<- elem' a (i - 1)) b 0 j (j - 1) | return dn o i j
     let k:=j - q
     y:=k
     if k > 0 then
       o:=o++(b.extract q j).reverse;j:=q
       if j == 1 then return fb o i j
       if j == 0 then return dn o i j
     i:=i - 1;o:=o.push (<- elem' a i)
     if i == 0 then return dn o i j
     if x < 7&&y < 7 then break
   g:=g+1
   smg g
 unsupported "internal:list.sort.merge-bound"):=rfl
def Eq3(lt:Mm->Mm->Bool)(a b o:Array Mm)(i j:Nat):Prop:=Mt (a.toList.take i) (b.toList.take j) (lee lt)++o.toList.reverse=Mt a.toList b.toList (lee lt)
variable{a b o:Array Mm}{i j k:Nat}
theorem K4{a:Array Mm}{k:Nat}{x:Mm}(h:x∈a.toList.take k):∃ j,j < k/\j < a.size/\x=att a j:=by
 obtain⟨j,b,c,e⟩:=qt6 (i:=0) (k:=k) (by simpa using h);exact⟨j,b,by lia,by rw[e,zAc]⟩
theorem qaa1{a:Array Mm}{i:Nat}(h:q<=i):a.toList.take i=a.toList.take q++(a.extract q i).toList:=by
 rw[qc8]
 conv=>lhs;rw[show i=q+(i - q) by lia,Og]
theorem ext1{a:Array Mm}{i:Nat}(h:0 < i)(hi:i<=a.size):(a.extract (i - 1) i).toList=[att a (i - 1)]:=by
 rw[qc8,Fq (by lia),show i - (i - 1)=1 by lia];rfl
theorem Eq3.done(h:Eq3 lt a b o i j)(c:i=0∨j=0):(a.extract 0 i++b.extract 0 j++o.reverse).toList=Mt a.toList b.toList (lee lt):=by
 rw[<- h,zB3,zB3,qc8,qc8,Array.toList_reverse];congr 1;rcases c with rfl | rfl
 . simp
 simp
theorem Eq3.first(h:Eq3 lt a b o i j)(c:j=1)(k:0 < b.size)(d:∀ n,n < a.size->lt (att b 0) (att a n)=true):(b.extract 0 j++a.extract 0 i++o.reverse).toList=Mt a.toList b.toList (lee lt):=by
 rw[<- h,zB3,zB3,qc8,qc8,Array.toList_reverse];congr 1;subst c
 have:=mg_r (le:=lee lt) (B2:=[]) (B1:=b.toList.take 1) (X:=a.toList.take i) λ y e x f=>by
   obtain⟨n,_,g,rfl⟩:=K4 f;obtain⟨m,l,p,rfl⟩:=K4 e;obtain rfl:m=0:=by lia
   simp[d _ g]
 rw[zAg] at this;rw[this];simp
theorem Eq3.ga(h:Eq3 lt a b o i j)(f:Od lt)(c:Srt lt (att b) b.size)(g:q<=i)(s:0 < j)(k:j<=b.size)(l:∀ n,q<=n->n < i->n < a.size->lt (att b (j - 1)) (att a n)=true) :
   Eq3 lt a b (o++(a.extract q i).reverse) q j:=by
 unfold Eq3 at h ⊢;rw[<- h,qaa1 g,Kx (le:=lee lt)]
 . simp
 intro x d y p;rw[qc8] at d;obtain⟨n,t,r,rfl⟩:=qt6 d;obtain⟨m,u,v,rfl⟩:=K4 p;have e:=l (q+n) (by lia) (by lia) r;show (!lt (att b m) (att a (q+n)))=false;cases e2:lt (att b m) (att a (q+n)) with
 | true=>rfl
 | false=>rw[f.tr _ _ _ e2 (c m (j - 1) (by lia) (by lia))] at e;cases e
theorem Eq3.gb(h:Eq3 lt a b o i j)(f:Od lt)(c:Srt lt (att a) a.size)(g:q<=j)(hi:0 < i)(k:i<=a.size)(l:∀ n,q<=n->n < j->n < b.size->lt (att b n) (att a (i - 1))=false) :
   Eq3 lt a b (o++(b.extract q j).reverse) i q:=by
 unfold Eq3 at h ⊢;rw[<- h,qaa1 g,Jc (le:=lee lt)]
 . simp
 intro y d x p;rw[qc8] at d;obtain⟨n,s,r,rfl⟩:=qt6 d;obtain⟨m,t,u,rfl⟩:=K4 p;have e:=l (q+n) (by lia) (by lia) r;show (!lt (att b (q+n)) (att a m))=true;rw[f.tr _ _ _ (c m (i - 1) (by lia) (by lia)) e];rfl
theorem Eq3.pa(h:Eq3 lt a b o i j)(f:Od lt)(c:Srt lt (att b) b.size)(hi:0 < i)(d:i<=a.size)(g:0 < j)(e:j<=b.size)(k:lt (att b (j - 1)) (att a (i - 1))=true):Eq3 lt a b (o.push (att a (i - 1))) (i - 1) j:=by
 have:=h.ga f c (q:=i - 1) (by lia) g e λ n l m _=>by rw[show n=i - 1 by lia];exact k
 rwa[show o++(a.extract (i - 1) i).reverse=o.push (att a (i - 1)) from Array.toList_inj.mp (by rw[zB3,Array.toList_reverse,ext1 hi d,Array.toList_push];rfl)] at this
theorem Eq3.pb(h:Eq3 lt a b o i j)(f:Od lt)(c:Srt lt (att a) a.size)(hi:0 < i)(d:i<=a.size)(g:0 < j)(e:j<=b.size)(k:lt (att b (j - 1)) (att a (i - 1))=false):Eq3 lt a b (o.push (att b (j - 1))) i (j - 1):=by
 have:=h.gb f c (q:=j - 1) (by lia) hi d λ n l m _=>by rw[show n=j - 1 by lia];exact k
 rwa[show o++(b.extract (j - 1) j).reverse=o.push (att b (j - 1)) from Array.toList_inj.mp (by rw[zB3,Array.toList_reverse,ext1 g e,Array.toList_push];rfl)] at this
theorem pz{x:Nat}(h:¬ (x == 0)=true):0 < x:=Nat.pos_of_ne_zero λ e=>h (zBl.mpr e)
theorem p1{x:Nat}(h:¬ (x == 1)=true)(h':0 < x):1 < x:=Nat.lt_of_le_of_ne h' λ e=>h (zBl.mpr e.symm)
theorem dy{x y i j:Nat}(h:x+y+i+j<=N):x+i+j<=N:=by lia
theorem lc{x i j:Nat}(h:x+i+j<=N)(h':q<=i):x+q+j<=N:=by lia
theorem ld{x i j:Nat}(h:x+i+j<=N)(h':q<=j):x+i+q<=N:=by lia
theorem mw{x i j:Nat}(h:x+i+j<=N)(h':0 < i):x+1+(i - 1)+j<=N:=by lia
theorem mv{x i j:Nat}(h:x+i+j<=N)(h':0 < j):x+1+i+(j - 1)<=N:=by lia
theorem sH{β:Type}{Q:β->Mn->Prop}{n:Nat}{f:Option Nat->StateT Mn Sem β}(e:Od lt)(g:Cm prog w A s kd P lt)(m:Mo st=kd)(o:P key)(p:∀ i,i < arr.size->P (att arr i))(r:Srt lt (att arr) arr.size)(t:0 < n)(u:n<=arr.size)(h:∀ q,q<=n->(0 < q->B lt l key (att arr (q - 1))=true)->(∀ i,q<=i->i < n->B lt l key (att arr i)=false)->wpS (L6 prog w) A E s (f (some q)) Q st):wpS (L6 prog w) A E s (gal l key arr 0 n (n - 1) >>= f) Q st :=
 Mc (wgs e g m o (by lia) p (λ i j a b=>r _ _ (by lia) (by lia)) (by lia) λ k a b c=>h k a (λ d=>zAc (k - 1) ▸ b _ (Nat.sub_one_lt_of_lt d)) λ i x y=>zAc i ▸ c i x y)
theorem wmhi{Q:Array Mm->Mn->Prop}(S:Od lt)(hC:Cm prog w A s kd P lt)(hk:Mo st=kd)(W:∀ n,n < a.size->P (att a n))(X:∀ n,n < b.size->P (att b n))(T:Srt lt (att a) a.size)(L:Srt lt (att b) b.size)(Y:0 < a.size)(B:0 < b.size)(h0:∀ n,n < a.size->lt (att b 0) (att a n)=true)(hl:lt (att b (b.size - 1)) (att a (a.size - 1))=true)(h:∀ r f,R st f->r.toList=Mt a.toList b.toList (lee lt)->Q r f):wpS (L6 prog w) A E s (mhi a b) Q st:=by
 have e1:Eq3 lt a b #[att a (a.size - 1)] (a.size - 1) b.size :=
   Eq3.pa (o:=#[]) (i:=a.size) (j:=b.size) (by unfold Eq3;rw[show a.toList.take a.size=a.toList from zAs (zCe zB2),show b.toList.take b.size=b.toList from zAs (zCe zB2)];simp) S L Y (zA3 _) B (zA3 _) hl
 rw[qaU4];refine rB (eB (Nat.sub_one_lt_of_lt Y) (wif (λ c=>Me (h _ st ⟨rfl,rfl,rfl,rfl⟩ (e1.done (.inl (eq_of_beq c))))) λ c1=>wif (λ c=>Me (h _ st ⟨rfl,rfl,rfl,rfl⟩ (e1.first (eq_of_beq c) B h0))) λ c2=>gB ?_))
 let D (c:Option (Array Mm)):Prop:=∃ r,c=some r/\r.toList=Mt a.toList b.toList (lee lt)
 let G (n:Nat) (o:Array Mm) (i j:Nat):Prop:=Eq3 lt a b o i j/\0 < i/\i<=a.size/\1 < j/\j<=b.size/\n+i+j<=a.size+b.size
 refine fB (λ x c f=>R st f/\c.1=none/\G (x+1) c.2.2.2.1 c.2.1 c.2.2.1) (λ c f=>R st f/\D c.1) ?_ ?_ ⟨⟨rfl,rfl,rfl,rfl⟩,rfl,e1,pz c1,zCc _ _,p1 c2 B,zA3 _,mw (x:=0) (by lia) Y⟩ ?_
 . rintro F z x ⟨_,i,j,o,g⟩ Z - hx ⟨r1,rfl,g1,g2,g3,g4,g5,g6⟩ K p n
   subst z;refine fB (λ y c f=>R st f/\c.1=none/\G (x+1+y) c.2.2.2.1 c.2.1 c.2.2.1) (λ c f=>R st f/\(D c.1∨c.1=none/\G (x+2) c.2.2.2.1 c.2.1 c.2.2.1)) ?_ ?_ ⟨r1,rfl,g1,g2,g3,g4,g5,g6⟩ ?_
   . rintro F z y ⟨_,i,j,o,_,_⟩ a0 - hy ⟨l,rfl,M,k,m,C,v,H⟩ K p n
     subst z;have U:=zCa C;have N:=Nat.sub_one_lt_of_le k m;have I:=Nat.sub_one_lt_of_le U v;refine eB I (eB N (lB hC (l.1.trans hk) (X _ I) (W _ N) (λ hb=>?_) λ hb=>?_))
     . have e2:=M.pa S L k m U v hb
       exact eB N (wif (λ c=>Me (p _ _ ⟨l,.inl ⟨_,rfl,e2.done (.inl (eq_of_beq c))⟩⟩)) λ c=>wif (λ _=>Me (p _ _ ⟨l,.inr ⟨rfl,e2,pz c,zB5 N,C,v,mw (dy H) k⟩⟩)) λ _=>Me (n _ _ ⟨l,rfl,e2,pz c,zB5 N,C,v,mw H k⟩))
     have e2:=M.pb S T k m U v hb;have y0:=Nat.sub_pos_of_lt C;exact eB I (wif (λ c=>Me (p _ _ ⟨l,.inl ⟨_,rfl,e2.first (eq_of_beq c) B h0⟩⟩)) λ c=>wif (λ _=>Me (p _ _ ⟨l,.inr ⟨rfl,e2,k,m,p1 c y0,zB5 I,mv (dy H) U⟩⟩)) λ _=>Me (n _ _ ⟨l,rfl,e2,k,m,p1 c y0,zB5 I,mv H U⟩))
   . rintro c a0 ⟨l,k0,M,k,m,C,v,H⟩
     exact⟨l,.inr ⟨k0,M,k,m,C,v,by lia⟩⟩
   rintro F z ⟨c,c'⟩ a0 ⟨l,⟨r,rfl,e⟩ | ⟨e,M,k,m,C,v,H⟩⟩
   . subst z;exact Me (p _ _ ⟨l,r,rfl,e⟩)
   cases e;subst z;refine rB (fB (λ y c f=>R st f/\c.1=none/\G (x+2) c.2.2.2.1 c.2.1 c.2.2.1) (λ c f=>R st f/\(D c.1∨c.1=none/\G (x+2) c.2.2.2.1 c.2.1 c.2.2.1)) ?_ ?_ ⟨l,rfl,M,k,m,C,v,H⟩ ?_)
   . rintro F z y ⟨_,i,j,o,g,_,_⟩ a2 - hy ⟨r3,rfl,M,k,m,C,v,H⟩ K p n
     subst z;have U:=zCa C;have I:=Nat.sub_one_lt_of_le U v;have y0:=Nat.sub_pos_of_lt C;dsimp -zeta only
     extract_lets +onlyGivenNames _ _ _ _ _ _ _ _ _ _ _ _ J
     suffices u:∀ g,wpS (L6 prog w) A E s (J () g) K a2 from wif (λ _=>u _) λ _=>u _
     intro g;dsimp +zetaDelta -zeta only;refine mB r3 λ a1 O=>eB I (sH S hC (O.1.trans hk) (X _ I) W T k m λ q V q2 q3=>?_)
     dsimp -zeta only
     extract_lets +onlyGivenNames _ _ J
     have ea:=M.ga S L V U v λ n h1 h2 _=>nf (q3 n h1 h2)
     suffices u:∀ i o,Eq3 lt a b o i j->0 < i->i<=a.size->x+2+i+j<=a.size+b.size->lt (att b (j - 1)) (att a (i - 1))=false->wpS (L6 prog w) A E s (J () i o) K a1 from wif (λ c=>wif (λ d=>Me (p _ _ ⟨O,.inl ⟨_,rfl,ea.done (.inl (eq_of_beq d))⟩⟩)) λ d=>u _ _ ea (pz d) (zAd V m) (lc H V) (nt (q2 (pz d)))) λ c=>by
       obtain rfl:=Nat.le_antisymm V (Nat.le_of_sub_eq_zero (Nat.eq_zero_of_not_pos c));exact u _ _ M k m H (nt (q2 k))
     intro i o e z1 z2 zb z;dsimp +zetaDelta -zeta only;have N:=Nat.sub_one_lt_of_le z1 z2;have e2:=e.pb S T z1 z2 U v z;refine eB I (wif (λ d=>Me (p _ _ ⟨O,.inl ⟨_,rfl,e2.first (eq_of_beq d) B h0⟩⟩)) λ d=>?_);refine eB N (sH S hC (O.1.trans hk) (W _ N) X L y0 (zB5 I) λ q V q2 q3=>?_);dsimp -zeta only
     extract_lets +onlyGivenNames _ _ _ J
     have eb:=e2.gb S T V z1 z2 λ n h1 h2 _=>q3 n h1 h2
     suffices u:∀ j o,Eq3 lt a b o i j->1 < j->j<=b.size->x+2+i+j<=a.size+b.size->lt (att b (j - 1)) (att a (i - 1))=true->wpS (L6 prog w) A E s (J () j o) K a1 from wif (λ c=>wif (λ d=>Me (p _ _ ⟨O,.inl ⟨_,rfl,eb.first (eq_of_beq d) B h0⟩⟩)) λ d=>wif (λ t=>Me (p _ _ ⟨O,.inl ⟨_,rfl,eb.done (.inr (eq_of_beq t))⟩⟩)) λ t=>u _ _ eb (p1 d (pz t)) (zAd V (zB5 I)) (ld (ld zb (zCc _ 1)) V) (q2 (pz t))) λ c=>by
       obtain rfl:=Nat.le_antisymm V (Nat.le_of_sub_eq_zero (Nat.eq_zero_of_not_pos c));exact u _ _ e2 (p1 d y0) (zB5 I) (ld zb (zCc _ 1)) (q2 y0)
     intro j o e3 y1 y2 y5 y4;have e4:=e3.pa S L z1 z2 (zCa y1) y2 y4;exact eB N (wif (λ d=>Me (p _ _ ⟨O,.inl ⟨_,rfl,e4.done (.inl (eq_of_beq d))⟩⟩)) λ d=>wif (λ _=>Me (p _ _ ⟨O,.inr ⟨rfl,e4,pz d,zB5 N,y1,y2,lc y5 (zCc _ 1)⟩⟩)) λ _=>Me (n _ _ ⟨O,rfl,e4,pz d,zB5 N,y1,y2,lc y5 (zCc _ 1)⟩))
   . exact λ _ _ z=>⟨z.1,.inr z.2⟩
   rintro F z ⟨c,c'⟩ a0 ⟨l,⟨r,rfl,e⟩ | ⟨e,M,k,m,C,v,H⟩⟩<;>subst z
   . exact Me (p _ _ ⟨l,r,rfl,e⟩)
   cases e;exact mB l λ a1 O=>Me (n _ _ ⟨O,rfl,M,k,m,C,v,H⟩)
 . rintro c Z ⟨r1,_,g1,g2,g3,g4,g5,g6⟩
   lia
 rintro F z ⟨c,c'⟩ Z ⟨r1,r,rfl,e⟩;subst z;exact Me (h r Z r1 e)
end
theorem qm1{ys:Array Mm}{i j:Nat}(h:xs[i]? = ys[j]?):att xs i=att ys j:=by
 have e:∀(a:Array Mm) k,att a k=(a[k]?).getD (Ol,Ol):=λ a k=>by simp[att,Array.getD_eq_getD_getElem?]
 rw[e,e,h]
theorem qai5{src d:Nat}(a:src < xs.size)(b:d<=src)(k:Nat) :
   att (bubble xs src d) k=if k=src - d then att xs src else if src - d < k/\k<=src then att xs (k - 1) else att xs k:=by
 have e:=getElem?_bubble a d b k;split at e
 . rw[if_pos (by assumption)];exact qm1 e
 rw[if_neg (by assumption)];split at e
 . rw[if_pos (by assumption)];exact qm1 e
 rw[if_neg (by assumption)];exact qm1 e
theorem qai4{i j:Nat}(a:j<=xs.size)(k:Nat) :
   att (mirror xs i j ((j - i) / 2)) k=if i<=k/\k < j then att xs (i+j - 1 - k) else att xs k:=by
 have e:=getElem?_mirror_all (i:=i) a k;split at e
 . rw[if_pos (by assumption)];exact qm1 e
 rw[if_neg (by assumption)];exact qm1 e
theorem qav5{a:Array Mm}{i:Nat}(h:i < a.size):att a i∈a.toList:=by simp[att,Array.getD,h]
theorem Srt.more{lt:Mm->Mm->Bool}{x:Nat}(h:Srt lt f x)(d:Od lt)(e:0 < x->lt (f x) (f (x - 1))=false):Srt lt f (x+1):=λ i j a b=>by
 by_cases c:j < x
 . exact h i j a c
 obtain rfl:j=x:=by lia
 by_cases q:i=j
 . rw[q];exact d.ir _
 exact d.tr _ _ _ (h i (j - 1) (by lia) (by lia)) (e (by lia))
structure Bt(a0:Array Mm)(lo:Nat)(st st':Mn):Prop where
 kd:Mo st'=Mo st
 fl:Mi st'=Mi st
 pd:Mg st'=Mg st
 pm:(Ml st').Perm a0
 pr:∀ i,i < lo->att (Ml st') i=att (Ml st) i
section
variable{prog:L7}{w:L9}{A:L8}{E:V'->δ->Prop}{s:δ}{kd:SortKind}{lt:Mm->Mm->Bool}{st X:Mn}{Z:Array Mm}{Y:Nat}
theorem Bt.sz(h:Bt Z Y st X):(Ml X).size=Z.size:=h.pm.size_eq
theorem Bt.mem(h:Bt Z Y st X){i:Nat}(hi:i < Z.size):att (Ml X) i∈Z.toList:=(zBn.mp h.pm).mem_iff.mp (qav5 (by rw[h.sz];exact hi))
theorem Bt.set(h:Bt Z Y st X)(b:xs.Perm (Ml X))(c:∀ i,i < Y->att xs i=att (Ml X) i):Bt Z Y st (Mp X xs) :=
 ⟨h.kd,h.fl,h.pd,b.trans h.pm,λ i a=>(c i a).trans (h.pr i a)⟩
abbrev Cn(prog:L7)(w:L9)(A:L8)(s:δ)(kd:SortKind)(Z:Array Mm)(lt:Mm->Mm->Bool):Prop:=Cm prog w A s kd (λ x=>x∈Z.toList) lt
theorem aB{β:Type}{i j:Nat}{Q:β->Mn->Prop}{f:Option Bool->StateT Mn Sem β}(b:Cn prog w A s kd Z lt)(c:Mo st=kd)(h:Bt Z Y st X)(hi:i < Z.size)(a:j < Z.size)(h':lt (att (Ml X) i) (att (Ml X) j)=true->wpS (L6 prog w) A E s (f (some true)) Q X)(d:lt (att (Ml X) i) (att (Ml X) j)=false->wpS (L6 prog w) A E s (f (some false)) Q X):wpS (L6 prog w) A E s (ltAt' i j >>= f) Q X:=by
 refine Mc ?_;rw[ltAt'_eq];refine gB (eB (by rw[h.sz];exact hi) (eB (by rw[h.sz];exact a) (wlt b (h.kd.trans c) (h.mem hi) (h.mem a) ?_)));cases e:lt (att (Ml X) i) (att (Ml X) j) with
 | true=>exact h' e
 | false=>exact d e
theorem wmv{p:Nat}{Q:Unit->Mn->Prop}(h:Q () (Mp X (bubble (Ml X) p (p - q)))):wpS (L6 prog w) A E s (moveDown' p q) Q X:=by
 rw[moveDown'_eq];exact Mj h
theorem qaP4{p i:Nat}(h:p < xs.size)(a:q<=p)(hi:i < q):att (bubble xs p (p - q)) i=att xs i:=by
 rw[qai5 h (zCc _ _),Nat.sub_sub_self a,if_neg (zAj hi),if_neg λ c=>Nat.lt_asymm hi c.1]
theorem qaX8{p:Nat}(h:p < xs.size)(a:q<=p):att (bubble xs p (p - q)) q=att xs p:=by
 rw[qai5 h (zCc _ _),Nat.sub_sub_self a,if_pos rfl]
theorem qaX7{p i:Nat}(h:p < xs.size)(a:q<=p)(h1:q<=i)(h2:i < p):att (bubble xs p (p - q)) (i+1)=att xs i:=by
 rw[qai5 h (zCc _ _),Nat.sub_sub_self a,if_neg (Nat.ne_of_gt (Nat.lt_succ_of_le h1)),if_pos ⟨Nat.lt_succ_of_le h1,h2⟩,Nat.add_sub_cancel]
theorem qaG3{F:Nat->Mm}{x:Mm}{l k:Nat}(e:Od lt)(c:l<=k)(s2:∀ i j,i<=j->j < k->lt (f j) (f i)=false)(g:∀ i,i < l->lt x (f i)=false)(n:∀ i,l<=i->i < k->lt (f i) x=false)(h1:∀ i,i < l->F i=f i)(h2:F l=x)(d:∀ i,l<=i->i < k->F (i+1)=f i)(i j:Nat)(a:i<=j)(o:j < k+1):lt (F j) (F i)=false:=by
 rcases Nat.lt_trichotomy j l with h | h | h
 . rw[h1 j h,h1 i (zC4 a h)]
   exact s2 i j a (zA8 h c)
 . subst h
   rw[h2];rcases Nat.lt_or_eq_of_le a with q | rfl
   . rw[h1 i q];exact g i q
   rw[h2];exact e.ir _
 cases j with
 | zero=>exact absurd h (zCb _)
 | succ m =>
   have b:=Nat.lt_of_succ_lt_succ o;rw[d m (zBw h) b];rcases Nat.lt_trichotomy i l with q | q | q
   . rw[h1 i q];exact s2 i m (zAd (zB5 q) (zBw h)) b
   . subst q;rw[h2];exact n m (zBw h) b
   cases i with
   | zero=>exact absurd q (zCb _)
   | succ p=>rw[d p (zBw q) (zC4 (Nat.le_of_succ_le_succ a) b)];exact s2 p m (Nat.le_of_succ_le_succ a) b
theorem wbin{n C:Nat}{Q:Bool->Mn->Prop}(D:Od lt)(J:Cn prog w A s kd Z lt)(L:Mo st=kd)(V:Y+n<=Z.size)(M:C<=n)(h1:1<=C)(N:Bt Z Y st X)(O:Srt lt (λ i=>att (Ml X) (Y+i)) C)(h:∀ e,Bt Z Y st e->Srt lt (λ i=>att (Ml e) (Y+i)) n->Q true e):wpS (L6 prog w) A E s (binarySort' Y n C) Q X:=by
 rw[binarySort'_eq];refine fB (λ k c e=>c=(none,())/\Bt Z Y st e/\Srt lt (λ i=>att (Ml e) (Y+i)) (min k n)) (λ c e=>c=(none,())/\Bt Z Y st e/\Srt lt (λ i=>att (Ml e) (Y+i)) n) ?_ ?_ ⟨rfl,N,λ i j a b=>O i j a (by lia)⟩ ?_
 . rintro F z k c f P R ⟨rfl,m,g⟩ K p q
   subst z;rw[show min k n=k by lia] at g;refine fB (λ x c e=>e=f/\∃ l r,c=(none,l,r)/\l<=r/\r<=k/\r - l<=k - x /\
       (∀ i,i < l->lt (att (Ml f) (Y+k)) (att (Ml f) (Y+i))=false)/\(∀ i,r<=i->i < k->lt (att (Ml f) (Y+i)) (att (Ml f) (Y+k))=false)) (λ c e=>e=f/\∃ l,c=(none,l,l)/\l<=k /\
       (∀ i,i < l->lt (att (Ml f) (Y+k)) (att (Ml f) (Y+i))=false)/\(∀ i,l<=i->i < k->lt (att (Ml f) (Y+i)) (att (Ml f) (Y+k))=false)) ?_ ?_ ⟨rfl,0,k,rfl,by lia,by lia,by lia,λ i t=>by lia,λ i h1 I=>by lia⟩ ?_
   . rintro F z x c o - W ⟨rfl,l,r,rfl,S,u,T,v,B⟩ K p q
     subst z;dsimp only;refine wif (λ d=>?_) λ d=>?_
     . obtain rfl:l=r:=by lia
       exact Me (p _ _ ⟨rfl,l,rfl,u,v,B⟩)
     exact aB J L m (by lia) (by lia) (λ G=>Me (q _ _ ⟨rfl,l,_,rfl,by lia,by lia,by lia,v,λ i h1 I=>D.tr _ _ _ (D.as _ _ G) (g _ _ h1 I)⟩)) λ G=>Me (q _ _ ⟨rfl,_,r,rfl,by lia,by lia,by lia,λ i h1=>D.tr _ _ _ (g i _ (by lia) (by lia)) G,B⟩)
   . rintro c o ⟨rfl,l,r,rfl,S,u,T,v,B⟩
     obtain rfl:l=r:=by lia
     exact⟨rfl,l,rfl,u,v,B⟩
   rintro F z c o ⟨rfl,l,rfl,u,v,B⟩;subst z;dsimp only;have z:Y+k < (Ml o).size:=by rw[m.sz];lia
   have y:=Nat.add_le_add_left u Y;refine Mc (wmv (Me (q _ _ ⟨rfl,m.set (bubble_perm _ _ _) λ i t=>?_,?_⟩)))
   . exact qaP4 z y (zA8 t (Nat.le_add_right _ _))
   rw[show min (k+1) n=k+1 by lia];exact qaG3 D u g v B (λ i t=>qaP4 z y (Nat.add_lt_add_left t Y)) (qaX8 z y) λ i t H=>qaX7 z y (Nat.add_le_add_left t Y) (Nat.add_lt_add_left H Y)
 . rintro c f ⟨U,m,g⟩
   rw[show min (max (max C 1) n) n=n by lia] at g;exact⟨U,m,g⟩
 rintro F z c f ⟨rfl,m,g⟩;subst z;exact Me (h f m g)
def Ds(lt:Mm->Mm->Bool)(Z:Array Mm):Prop:=Z.toList.Pairwise λ x y=>lt x y=true∨lt y x=true
theorem Ds.at(h:Ds lt Z)(b:Bt Z Y st X){i j:Nat}(c:i≠j)(hi:i < Z.size)(n:j < Z.size)(e:lt (att (Ml X) i) (att (Ml X) j)=false):lt (att (Ml X) j) (att (Ml X) i)=true:=by
 have d:(Ml X).toList.Pairwise λ x y=>lt x y=true∨lt y x=true:=((zBn.mp b.pm).pairwise_iff λ h=>h.symm).mpr h
 rw[Ni] at d;have g:∀ k,k < Z.size->∃ a,(Ml X).toList[k]'a=att (Ml X) k:=λ k a=>⟨by rw[zB2,b.sz];exact a,by simp[att,Array.getD,show k < (Ml X).size by rw[b.sz];exact a]⟩
 obtain⟨f,l⟩:=g i hi;obtain⟨m,e2⟩:=g j n;rcases Nat.lt_or_gt_of_ne c with q | q
 . have:=d i j f m q
   rw[l,e2,e] at this;simpa using this
 have:=d j i m f q
 rw[l,e2,e] at this;simpa using this
theorem wcnt{m:Nat}{Q:Option Nat->Mn->Prop}(v:Od lt)(D:Cn prog w A s kd Z lt)(M:Ds lt Z)(G:Mo st=kd)(T:Y+m<=Z.size)(h1:1<=m)(r:Bt Z Y st X)(h:∀ n f,Bt Z Y st f->1<=n->n<=m->Srt lt (λ i=>att (Ml f) (Y+i)) n->Q (some n) f):wpS (L6 prog w) A E s (countRun' Y m) Q X:=by
 rw[countRun'_eq];refine fB (λ x c f=>f=X/\c=(none,x)/\Srt lt (λ i=>att (Ml X) (Y+i)) x) (λ c f=>f=X/\∃ n,c=(none,n)/\1<=n/\n<=m/\Srt lt (λ i=>att (Ml X) (Y+i)) n/\(n=m∨lt (att (Ml X) (Y+n)) (att (Ml X) (Y+n - 1))=true)) ?_ ?_ ⟨rfl,rfl,λ i j a b=>by rw[show i=j by lia];exact v.ir _⟩ ?_
 . rintro F z x c g o N ⟨rfl,rfl,t⟩ K p q
   subst z;exact aB D G r (by lia) (by lia) (λ u=>Me (p _ _ ⟨rfl,x,rfl,o,by lia,t,.inr u⟩)) λ u=>Me (q _ _ ⟨rfl,rfl,t.more v λ _=>by rw[<- Nat.add_sub_assoc o];exact u⟩)
 . rintro c g ⟨rfl,rfl,t⟩
   rw[show max 1 m=m by lia] at t ⊢;exact⟨rfl,m,rfl,h1,zA3 _,t,.inl rfl⟩
 rintro F z c g ⟨rfl,n,rfl,J,L,t,d⟩;subst z;dsimp only;refine wif (λ _=>Me (h n g r J L t)) λ c=>?_
 have d:=d.resolve_left (by simpa using c);refine wif (λ P=>aB D G r (by lia) (by lia) (λ _=>Me (h n g r J L t)) λ e=>?_) λ P=>?_
 . rw[M.at r (by lia) (by lia) (by lia) (by rw[Nat.add_sub_assoc J];exact t 0 (n - 1) (by lia) (by lia))] at e;cases e
 obtain rfl:n=1:=by lia
 simp at c;refine rB ?_;have O:Od λ x y=>lt y x:=⟨λ x y q=>v.as _ _ q,λ x y z p q=>v.tr _ _ _ q p⟩
 refine fB (λ x c f=>f=g/\c=(none,x,0)/\Srt (λ x y=>lt y x) (λ i=>att (Ml g) (Y+i)) x) (λ c f=>f=g/\∃ n,c=(none,n,0)/\2<=n/\n<=m/\Srt (λ x y=>lt y x) (λ i=>att (Ml g) (Y+i)) n) ?_ ?_ ⟨rfl,rfl,?_⟩ ?_
 . rintro F z x c l o N ⟨rfl,rfl,B⟩ K p q
   subst z;exact aB D G r (by lia) (by lia) (λ u=>wif (λ _=>wif (λ c=>absurd c (zC3 0)) λ _=>Me (q _ _ ⟨rfl,rfl,B.more O λ _=>by rw[<- Nat.add_sub_assoc (by lia)];exact v.as _ _ u⟩)) λ c=>absurd rfl c) λ u=>aB D G r (by lia) (by lia) (λ _=>Me (p _ _ ⟨rfl,x,rfl,o,by lia,B⟩)) λ e=>by rw[M.at r (by lia) (by lia) (by lia) u] at e;cases e
 . rintro c l ⟨rfl,rfl,B⟩
   rw[show max (1+1) m=m by lia] at B ⊢;exact⟨rfl,m,rfl,by lia,zA3 _,B⟩
 . refine Srt.more (λ i j a b=>?_) O λ _=>v.as _ _ d
   obtain rfl:i=j:=by lia
   exact v.ir _
 rintro F z c l ⟨rfl,n,rfl,J,L,B⟩;subst z;refine wif (λ c=>absurd c (zC3 0)) λ _=>?_
 dsimp only;have z:Y+n<=(Ml l).size:=by rw[r.sz];lia
 have H:=r.set (mirror_perm (Ml l) Y (Y+n) ((Y+n - Y) / 2)) λ i U=>by rw[qai4 z,if_neg (by lia)]
 refine Mc (wpS_reverse ?_);refine fB (λ x c f=>f=Mp l (mirror (Ml l) Y (Y+n) ((Y+n - Y) / 2))/\c=(none,x)/\Srt lt (λ i=>att (Ml f) (Y+i)) x) (λ c f=>f=Mp l (mirror (Ml l) Y (Y+n) ((Y+n - Y) / 2))/\∃ k,c=(none,k)/\1<=k/\k<=m/\Srt lt (λ i=>att (Ml f) (Y+i)) k) ?_ ?_ ⟨rfl,rfl,λ i j a b=>?_⟩ ?_
 . rintro F z x c I o N ⟨rfl,rfl,C⟩ K p q
   subst z;exact aB D G H (by lia) (by lia) (λ _=>Me (p _ _ ⟨rfl,x,rfl,by lia,by lia,C⟩)) λ u=>Me (q _ _ ⟨rfl,rfl,C.more v λ _=>by rw[<- Nat.add_sub_assoc (by lia)];exact u⟩)
 . rintro c I ⟨rfl,rfl,C⟩
   rw[show max n m=m by lia] at C ⊢;exact⟨rfl,m,rfl,by lia,zA3 _,C⟩
 . show lt (att (mirror _ _ _ _) _) (att (mirror _ _ _ _) _)=false
   rw[qai4 z,qai4 z,if_pos (by lia),if_pos (by lia)]
   have:=B (n - 1 - j) (n - 1 - i) (by lia) (by lia)
   rw[show Y+(Y+n) - 1 - (Y+j)=Y+(n - 1 - j) by lia,show Y+(Y+n) - 1 - (Y+i)=Y+(n - 1 - i) by lia];exact this
 rintro F z c I ⟨rfl,k,rfl,R,S,C⟩;subst z;exact Me (h k _ H R S C)
end
theorem qaU5(i:Nat):mergeAt' i=(do
 let s <- get
 let (some (p,n,pw),some (q,m,_)):=((Mg s)[i]?,(Mg s)[i+1]?) | unsupported "internal:list.sort.pending"
 set (Mq s (((Mg s).setIfInBounds i (p,n+m,pw)).eraseIdxIfInBounds (i+1)))
 let some k <- gal false (<- elem' (Ml s) q) (Ml s) p n 0 | return false
 let (p,n):=(p+k,n - k)
 if n == 0 then return true
 let some m <- gal true (<- elem' (Ml s) (p+n - 1)) (Ml s) q m (m - 1) | return false
 if m == 0 then return true
 let x:=(Ml s).extract p q
 let y:=(Ml s).extract q (q+m)
 let r <- if n<=m then mlo x y else mhi x y
 modify λ s=>Mp s (r.toList.zipIdx.foldl (λ a (z,j)=>a.setIfInBounds (p+j) z) (Ml s))
 return (Mi (<- get)).isNone):=rfl
theorem wr{p:Nat}:∀(L:List Mm)(n:Nat)(a:Array Mm),p+n+L.length<=a.size ->
   ((L.zipIdx n).foldl (λ(a:Array Mm)(z:Mm×Nat)=>a.setIfInBounds (p+z.2) z.1) a).toList=a.toList.take (p+n)++L++a.toList.drop (p+n+L.length)
 | [],n,a,_=>by simp
 | x::L,n,a,h=>by
   rw[zAm] at h;rw[List.zipIdx_cons,N6,wr L (n+1) _ (by rw[Array.size_setIfInBounds];lia),Array.toList_setIfInBounds,<- Nat.add_assoc,zAm,
     List.drop_set_of_lt (by lia),List.take_set,Mx,show a.toList[p+n]?.toList=[att a (p+n)] from ?_,No _ _ (by simp;lia),show p+n+1+L.length=p+n+(L.length+1) by lia]
   . simp[show min (p+n) a.size=p+n by lia]
   rw[Array.getElem?_toList,qR0 (by lia)];rfl
theorem qav6{a:Array Mm}{i j n:Nat}(h:i+n < j)(b:j<=a.size):att (a.extract i j) n=att a (i+n) :=
 qm1 (by rw[Array.getElem?_extract];rw[if_pos (by lia)])
section
variable{prog:L7}{w:L9}{A:L8}{E:V'->δ->Prop}{s:δ}{kd:SortKind}{lt:Mm->Mm->Bool}{st:Mn}{a0:Array Mm}
theorem wset{a:Mn}{Q:PUnit->Mn->Prop}(h:Q ⟨⟩ a):wpS (L6 prog w) A E s (set a:StateT Mn Sem PUnit) Q st:=by
 unfold wpS;rw[StateT.run_set];exact Ld ⟨rfl,h⟩
theorem wmat{Q:Bool->Mn->Prop}{n m F pv:Nat}(G:Od lt)(I:Cn prog w A s kd a0 lt)(J:Mo st=kd)(K:Mi st=none)(Y:Mg st = #[(0,n,F),(n,m,pv)])(H:(Ml st).Perm a0)(Z:0 < n)(hm:0 < m)(hz:n+m=a0.size)(h1:Srt lt (att (Ml st)) n)(h2:Srt lt (λ i=>att (Ml st) (n+i)) m)(h:∀ u,Mi u=none->Mg u = #[(0,n+m,F)]->(Ml u).toList=Mt ((Ml st).toList.take n) ((Ml st).toList.drop n) (lee lt)->Q true u):wpS (L6 prog w) A E s (mergeAt' 0) Q st:=by
 have a1:(Ml st).size=n+m:=H.size_eq.trans hz.symm;have D:∀ i,i < (Ml st).size->att (Ml st) i∈a0.toList:=λ i C=>(zBn.mp H).mem_iff.mp (qav5 C)
 rw[qaU5];refine gB ?_;rw[Y];have ep:(#[(0,n,F),(n,m,pv)].setIfInBounds 0 (0,n+m,F)).eraseIdxIfInBounds (0+1) = #[(0,n+m,F)]:=by simp[Array.eraseIdxIfInBounds]
 refine Mc (wset ?_);rw[ep];refine eB (by lia) (Mc (wgs G I J (D _ (by lia)) (by lia) D (λ i j a b=>by dsimp only;rw[zAc,zAc];exact h1 i j a b) Z λ k S T N=>?_));simp only[zAc] at T N ⊢;have sD:(Ml st).toList.drop n=att (Ml st) n::(Ml st).toList.drop (n+1):=Fq (by lia);have O:Mt ((Ml st).toList.take n) ((Ml st).toList.drop n) (lee lt)=(Ml st).toList.take k++Mt (((Ml st).toList.drop k).take (n - k)) ((Ml st).toList.drop n) (lee lt):=by
   rw[<- List.drop_take,<- show ((Ml st).toList.take n).take k=(Ml st).toList.take k by rw[Oa,Nat.min_eq_left S]]
   conv=>lhs;rw[<- zBa k ((Ml st).toList.take n)]
   rw[sD,Ky (le:=lee lt)];intro x L;rw[Oa,Nat.min_eq_left S] at L;obtain⟨i,U,i2,rfl⟩:=K4 L;exact T i U
 refine wif (λ c=>Me (h _ K rfl ?_)) λ c=>?_
 . obtain rfl:k=n:=by simp at c;lia
   rw[O,Nat.sub_self,Ob,N9,zBa]
 have c:k < n:=by simp at c;lia
 rw[show k+(n - k) - 1=n - 1 by lia];refine eB (by lia) (Mc (wgs G I J (D _ (by lia)) (by lia) D h2 (by lia) λ v v1 v2 v3=>?_));have V:Mt (((Ml st).toList.drop k).take (n - k)) ((Ml st).toList.drop n) (lee lt)=Mt (((Ml st).toList.drop k).take (n - k)) (((Ml st).toList.drop n).take v) (lee lt)++(Ml st).toList.drop (n+v):=by
   conv=>lhs;rw[<- zBa v ((Ml st).toList.drop n)]
   rw[Np,Jc (le:=lee lt)];intro y W x L;obtain⟨i,U,i2,rfl⟩:=qt6 L;rw[<- zAs (l:=(Ml st).toList.drop (n+v)) (zA3 _)] at W;obtain⟨j,_,j2,rfl⟩:=qt6 W;have e1:=h1 (k+i) (n - 1) (by lia) (by lia);have e2:lt (att (Ml st) (n+(v+j))) (att (Ml st) (n - 1))=false:=v3 (v+j) (by lia) (by lia);rw[<- Nat.add_assoc] at e2;show (!lt _ _)=true;rw[G.tr _ _ _ e1 e2];rfl
 dsimp only;refine wif (λ c=>Me (h _ K rfl ?_)) λ d=>?_
 . obtain rfl:v=0:=by simpa using c
   rw[O,V,Ob,N5,Nat.add_zero,<- zAr,<- Og,show k+(n - k)=n by lia,zBa]
 have d:0 < v:=by simp at d;lia
 have P:((Ml st).extract k n).size=n - k:=by rw[Array.size_extract];lia
 have X:((Ml st).extract n (n+v)).size=v:=by rw[Array.size_extract];lia
 have g:∀ i,i < n - k->att ((Ml st).extract k n) i=att (Ml st) (k+i):=λ i C=>qav6 (by lia) (by lia)
 have o:∀ i,i < v->att ((Ml st).extract n (n+v)) i=att (Ml st) (n+i):=λ i C=>qav6 (by lia) (by lia)
 have post:∀(r:Array Mm)(f:Mn),R (Mq st #[(0,n+m,F)]) f ->
     r.toList=Mt ((Ml st).extract k n).toList ((Ml st).extract n (n+v)).toList (lee lt)->wpS (L6 prog w) A E s (do
       modify λ s=>Mp s (Na (λ(a:Array Mm)(x:Mm×Nat)=>match x with | (z,j)=>a.setIfInBounds (k+j) z) (Ml s) r.toList.zipIdx)
       let t <- get
       pure (Mi t).isNone) Q f:=by
   intro r f M e;have len:r.toList.length=n - k+v:=by rw[e,List.length_merge,zB2,zB2,P,X]
   refine Mc (Mj (gB ?_));show wpS _ _ _ _ (pure (Mi f).isNone) Q _;rw[M.2.2.2];show wpS _ _ _ _ (pure (Mi st).isNone) Q _;rw[K];refine Me (h _ (M.2.2.2.trans K) M.2.2.1 ?_);show (Na _ (Ml f) _).toList=_;rw[show Ml f=Ml st from M.2.1];have q:=wr (p:=k) r.toList 0 (Ml st) (by lia);rw[Nat.add_zero,len,show k+(n - k+v)=n+v by lia,e,qc8,qc8,show n+v - n=v by lia,zAr,<- V,<- O] at q;rw[e,qc8,qc8,show n+v - n=v by lia];exact q
 refine wif (λ _=>Mc (wmlo G I J (λ i C=>?_) (λ i C=>?_) (λ i j a b=>?_) (λ i j a b=>?_) (by lia) (by lia) ?_ (λ i C=>?_) post)) λ _=>Mc (wmhi G I J (λ i C=>?_) (λ i C=>?_) (λ i j a b=>?_) (λ i j a b=>?_) (by lia) (by lia) (λ i C=>?_) ?_ post)
 . rw[g i (by lia)];exact D _ (by lia)
 . rw[o i (by lia)];exact D _ (by lia)
 . rw[g i (by lia),g j (by lia)];exact h1 _ _ (by lia) (by lia)
 . rw[o i (by lia),o j (by lia)];exact h2 _ _ (by lia) (by lia)
 . rw[g 0 (by lia),o 0 (by lia)];simpa[B] using N k (zA3 _) c
 . rw[P,g _ (by lia),o i (by lia),show k+(n - k - 1)=n - 1 by lia];exact v2 i (by lia)
 . rw[g i (by lia)];exact D _ (by lia)
 . rw[o i (by lia)];exact D _ (by lia)
 . rw[g i (by lia),g j (by lia)];exact h1 _ _ (by lia) (by lia)
 . rw[o i (by lia),o j (by lia)];exact h2 _ _ (by lia) (by lia)
 . rw[g i (by lia),o 0 (by lia)];simpa[B] using N (k+i) (by lia) (by lia)
 rw[P,X,g _ (by lia),o _ (by lia),show k+(n - k - 1)=n - 1 by lia];exact v2 _ (by lia)
end
section
variable{prog:L7}{w:L9}{A:L8}{E:V'->δ->Prop}{s:δ}{kd:SortKind}{lt:Mm->Mm->Bool}{st:Mn}{a0:Array Mm}
theorem qax0{i n:Nat}(a:Srt lt (λ j=>att xs (i+j)) n)(f:i+n<=xs.size):((xs.toList.drop i).take n).Pairwise λ x y=>lee lt x y=true:=by
 rw[Ni];intro p q b c d;rw[zBz,M3,zB2] at b c;have e:∀ p (h:p < ((xs.toList.drop i).take n).length),((xs.toList.drop i).take n)[p]=att xs (i+p):=λ p h=>by
   rw[N0,N1];rw[zBz,M3,zB2] at h;simp[att,Array.getD,show i+p < xs.size by lia]
 rw[e,e];show (!lt _ _)=true;rw[a p q (by lia) (by lia)];rfl
def Ih(lt:Mm->Mm->Bool)(a0:Array Mm)(st:Mn):Prop:=(Ml st).toList.Perm a0.toList/\(Ml st).toList.Pairwise (λ x y=>lee lt x y=true)/\Mi st=none
structure One(lt:Mm->Mm->Bool)(kd:SortKind)(a0:Array Mm)(n:Nat)(st:Mn):Prop where
 pm:(Ml st).Perm a0
 k:Mo st=kd
 f:Mi st=none
 p:Mg st = #[(0,n,0)]
 s:Srt lt (att (Ml st)) n
structure Two(lt:Mm->Mm->Bool)(kd:SortKind)(a0:Array Mm)(n m pw:Nat)(st:Mn):Prop where
 pm:(Ml st).Perm a0
 k:Mo st=kd
 f:Mi st=none
 p:Mg st = #[(0,n,pw),(n,m,0)]
 s:Srt lt (att (Ml st)) n
 t:Srt lt (λ i=>att (Ml st) (n+i)) m
theorem One.fin{n:Nat}(h:One lt kd a0 n st)(c:n=a0.size):Ih lt a0 st:=by
 refine⟨zBn.mp h.pm,?_,h.f⟩
 have:=qax0 (i:=0) (n:=n) (xs:=Ml st) (λ i j a b=>by dsimp only;rw[zAc,zAc];exact h.s i j a b) (by rw[h.pm.size_eq];lia)
 rwa[Nd,zAs (by rw[zB2,h.pm.size_eq];lia)] at this
theorem wrun{Q:Unit->Mn->Prop}(D:Od lt)(J:Cn prog w A s kd a0 lt)(S:Ds lt a0)(N:Mo st=kd)(Y:Mi st=none)(O:Mg st = #[])(K:(Ml st).Perm a0)(F:a0.size=64)(h:∀ l,Ih lt a0 l->Q () l):wpS (L6 prog w) A E s sortRuns' Q st:=by
 rw[sortRuns'_eq];refine gB ?_;dsimp only;simp only[K.size_eq,F];have Z:minRun' 64 64 0=32:=rfl;rw[Z];refine Mc (Mh (Mf
   (I:=λ x c l=>(x=0/\c=(none,0)/\l=st)∨(x=1/\∃ n,c=(none,n)/\32<=n/\n<=64/\One lt kd a0 n l)∨(2<=x/\c=(none,64)/\∃ n m B,n+m=64/\0 < n/\0 < m/\Two lt kd a0 n m B l))
   (Q:=λ c l=>c=(none,64)/\(One lt kd a0 64 l∨∃ n m B,n+m=64/\0 < n/\0 < m/\Two lt kd a0 n m B l)) ?_ ?_ (.inl ⟨rfl,rfl,rfl⟩)) ?_)
 . rintro x c u - hx (⟨rfl,rfl,rfl⟩ | ⟨rfl,n,rfl,H,n2,o⟩ | ⟨x2,rfl,n,m,B,e,H,P,o⟩)
   . dsimp only
     refine wif (λ c=>absurd c (by lia)) λ _=>?_
     have R:Bt a0 0 u u:=⟨rfl,rfl,rfl,K,λ _ _=>rfl⟩
     refine Mc (wcnt D J S N (by lia) (by lia) R λ n r C H n2 L=>?_);have fin:∀ k g,Bt a0 0 u g->32<=k->k<=64->Srt lt (λ i=>att (Ml g) (0+i)) k->One lt kd a0 k (Mq g ((Mg g).push (0,k,0))):=λ k g v _ _ G =>
       ⟨v.pm,v.kd.trans N,v.fl.trans Y,by show (Mg g).push _=_;rw[v.pd,O];rfl,λ i j a b=>by have:=G i j a b;dsimp only at this;rwa[zAc,zAc] at this⟩
     refine wif (λ c=>?_) λ c=>?_
     . refine rB ?_
       refine Mc (wbin D J N (by lia) (by lia) H C L λ g v G=>?_);refine wif (λ c=>by cases c) λ _=>?_
       refine gB ?_;rw[show (Mg g).back? = none by rw[v.pd,O];rfl];exact Mc (Mj (Me (.inr (.inl ⟨rfl,_,rfl,by lia,by lia,fin _ g v (by lia) (by lia) G⟩))))
     refine gB ?_;rw[show (Mg r).back? = none by rw[C.pd,O];rfl];exact Mc (Mj (Me (.inr (.inl ⟨rfl,_,rfl,by lia,by lia,by rw[zAc];exact fin _ r C (by lia) (by lia) L⟩))))
   . dsimp only
     refine wif (λ c=>?_) λ c=>?_
     . obtain rfl:n=64:=by lia
       exact Me ⟨rfl,.inl o⟩
     have R:Bt a0 n u u:=⟨rfl,rfl,rfl,o.pm,λ _ _=>rfl⟩
     refine Mc (wcnt D J S o.k (by lia) (by lia) R λ k r C k1 k2 L=>?_);have T:∀ q g,Bt a0 n u g->q=64 - n->Srt lt (λ i=>att (Ml g) (n+i)) q->∀ B,Two lt kd a0 n q B (Mq (Mq g ((Mg g).modify ((Mg g).size - 1) λ x=>(x.fst,x.2.fst,B))) (((Mg g).modify ((Mg g).size - 1) λ x=>(x.fst,x.2.fst,B)).push (n,q,0))):=λ q g v hq G B =>
       ⟨v.pm,v.kd.trans o.k,v.fl.trans o.f,by show ((Mg g).modify _ _).push _=_;rw[v.pd,o.p];rfl,λ i j a b=>by show lt (att (Ml g) j) (att (Ml g) i)=false;rw[v.pr i (by lia),v.pr j b];exact o.s i j a b,G⟩
     have M:∀ g,Bt a0 n u g->(Mg g).back? = some (0,n,0)/\¬ (Mg g).size > 1:=λ g v=>by rw[v.pd,o.p];exact⟨rfl,zC3 1⟩
     refine wif (λ d=>?_) λ d=>?_
     . refine rB ?_
       refine Mc (wbin D J o.k (by lia) (by lia) k1 C L λ g v G=>?_);refine wif (λ c=>by cases c) λ _=>?_
       refine gB ?_;rw[(M g v).1];refine Mc (Mh (Mf (I:=λ x c l=>l=g/\c=(none,())) (Q:=λ c l=>l=g/\c=(none,())) ?_ (λ _ _ h=>h) ⟨rfl,rfl⟩) ?_)
       . rintro x c y - - ⟨rfl,rfl⟩
         refine gB ?_;rw[if_neg (M y v).2];exact Me ⟨rfl,rfl⟩
       rintro c y ⟨rfl,rfl⟩;exact Mc (Mj (Mc (Mj (Me (.inr (.inr ⟨zA3 2,by rw[show n+min (64 - n) 32=64 by lia],n,_,_,by lia,by lia,by lia,T _ y v (by lia) G _⟩))))))
     refine gB ?_;rw[(M r C).1];refine Mc (Mh (Mf (I:=λ x c l=>l=r/\c=(none,())) (Q:=λ c l=>l=r/\c=(none,())) ?_ (λ _ _ h=>h) ⟨rfl,rfl⟩) ?_)
     . rintro x c y - - ⟨rfl,rfl⟩
       refine gB ?_;rw[if_neg (M y C).2];exact Me ⟨rfl,rfl⟩
     rintro c y ⟨rfl,rfl⟩;exact Mc (Mj (Mc (Mj (Me (.inr (.inr ⟨zA3 2,by rw[show n+k=64 by lia],n,_,_,by lia,by lia,by lia,T _ y C (by lia) L _⟩))))))
   dsimp only;exact wif (λ _=>Me ⟨rfl,.inr ⟨n,m,B,e,H,P,o⟩⟩) λ c=>absurd (zA3 _) c
 . rintro c u (⟨U,_⟩ | ⟨U,_⟩ | ⟨x2,rfl,o⟩)
   . lia
   . lia
   exact⟨rfl,.inr o⟩
 rintro c u ⟨rfl,o⟩;dsimp only;refine Mc (Mh (Mf (I:=λ x c l=>c=(none,())/\(x=0/\l=u∨Ih lt a0 l/\(Mg l).size<=1)) (Q:=λ c l=>c=(none,())/\Ih lt a0 l) ?_ ?_ ⟨rfl,.inl ⟨rfl,rfl⟩⟩) ?_)
 . rintro x c r - - ⟨rfl,⟨rfl,rfl⟩ | ⟨f,z⟩⟩
   . refine gB ?_
     rcases o with o | ⟨n,m,B,e,H,P,o⟩
     . rw[if_pos (by rw[o.p];exact zA3 1)]
       exact Me ⟨rfl,o.fin F.symm⟩
     rw[o.p];refine wif (λ c=>absurd c (by simp)) λ _=>?_
     refine Mc (wmat D J o.k o.f o.p o.pm H P (by lia) o.s o.t λ g f3 p3 V=>?_);refine Me ⟨rfl,.inr ⟨⟨?_,?_,f3⟩,by rw[p3];exact zA3 1⟩⟩
     . rw[V]
       have q:=List.merge_perm_append (le:=lee lt) (xs:=(Ml r).toList.take n) (ys:=(Ml r).toList.drop n);rw[zBa] at q;exact q.trans (zBn.mp o.pm)
     rw[V];have sz:(Ml r).size=64:=o.pm.size_eq.trans F;refine List.pairwise_merge (λ a b c W X=>?_) (λ a b=>?_) _ _ ?_ ?_
     . simp only[Bool.not_eq_true',lee] at W X ⊢
       exact D.tr _ _ _ W X
     . cases q:lt b a with
       | false=>simp[lee,q]
       | true=>simp[lee,q,D.as _ _ q]
     . have:=qax0 (i:=0) (n:=n) (xs:=Ml r) (λ i j a b=>by dsimp only;rw[zAc,zAc];exact o.s i j a b) (by lia)
       rwa[Nd] at this
     have:=qax0 o.t (by lia)
     rwa[zAs (by rw[M3,zB2];lia)] at this
   refine gB ?_;rw[if_pos z];exact Me ⟨rfl,f⟩
 . rintro c r ⟨rfl,⟨U,_⟩ | ⟨f,z⟩⟩
   . lia
   exact⟨rfl,f⟩
 rintro c r ⟨rfl,f⟩;exact Me (h r f)
end
noncomputable def plt(p q:Int×Int):Bool:=decide (p.1 < q.1∨p.1=q.1/\p.2 < q.2)
def TP(h:Heap)(v:V')(p:Int×Int):Prop:=∃ b t u o n,v=.ref b/\h.get? b=some o/\o.cls=.type "tuple" /\ o.data=.seq #[.int p.1 t,.int p.2 u] n
section
variable{prog:L7}{w:L9}{A:L8}{E:V'->δ->Prop}{s:δ}{kd:SortKind}{lt:Mm->Mm->Bool}{S:Mn}{R:Array Mm}
theorem wrunS{Q:Unit->Mn->Prop}(B:Od lt)(C:Cn prog w A s kd R lt)(F:Ds lt R)(t:Mo S=kd)(G:Mi S=none)(u:Mg S = #[])(r:(Ml S).Perm R)(h2:2<=R.size)(v:R.size < 64)(h:∀ d,Ih lt R d->Q () d):wpS (L6 prog w) A E s sortRuns' Q S:=by
 rw[sortRuns'_eq];refine gB ?_;obtain⟨f,H⟩:∃ f,R.size=f+1:=⟨R.size - 1,by lia⟩
 have J:minRun' R.size R.size 0=R.size:=by
   conv=>lhs;rw[show minRun' R.size=minRun' (f+1) by rw[H]]
   rw[minRun'_succ,if_pos v];rfl
 dsimp only;simp only[r.size_eq,J];refine Mc (Mh (Mf
   (I:=λ x c d=>(x=0/\c=(none,0)/\d=S)∨(1<=x/\c=(none,R.size)/\One lt kd R R.size d))
   (Q:=λ c d=>c=(none,R.size)/\One lt kd R R.size d) ?_ ?_ (.inl ⟨rfl,rfl,rfl⟩)) ?_)
 . rintro x c l - N (⟨rfl,rfl,rfl⟩ | ⟨K,rfl,o⟩)
   . dsimp only
     refine wif (λ c=>absurd c (by lia)) λ _=>?_
     have L:Bt R 0 l l:=⟨rfl,rfl,rfl,r,λ _ _=>rfl⟩
     refine Mc (wcnt B C F t (by lia) (by lia) L λ n m y M O D=>?_);have fin:∀ k g,k=R.size->Bt R 0 l g->Srt lt (λ i=>att (Ml g) (0+i)) k->One lt kd R R.size (Mq g ((Mg g).push (0,k,0))):=λ k g e q z =>
       ⟨q.pm,q.kd.trans t,q.fl.trans G,by show (Mg g).push _=_;rw[q.pd,u,e];rfl,λ i j a b=>by have:=z i j a (by lia);dsimp only at this;rwa[zAc,zAc] at this⟩
     refine wif (λ c=>?_) λ c=>?_
     . refine rB ?_
       refine Mc (wbin B C t (by lia) (by lia) M y D λ g q z=>?_);refine wif (λ c=>by cases c) λ _=>?_
       refine gB ?_;rw[show (Mg g).back? = none by rw[q.pd,u];rfl];exact Mc (Mj (Me (.inr ⟨by lia,by rw[show 0+min (R.size - 0) R.size=R.size by lia],fin _ g (by lia) q z⟩)))
     refine gB ?_;rw[show (Mg m).back? = none by rw[y.pd,u];rfl];exact Mc (Mj (Me (.inr ⟨by lia,by rw[show 0+n=R.size by lia],fin _ m (by lia) y D⟩)))
   dsimp only;exact wif (λ _=>Me ⟨rfl,o⟩) λ c=>absurd (zA3 _) c
 . rintro c l (⟨P,_⟩ | ⟨K,rfl,o⟩)
   . lia
   exact⟨rfl,o⟩
 rintro c l ⟨rfl,o⟩;dsimp only;refine Mc (Mh (Mf (I:=λ x c d=>c=(none,())/\d=l) (Q:=λ c d=>c=(none,())/\d=l) ?_ (λ _ _ h=>h) ⟨rfl,rfl⟩) ?_)
 . rintro x c m - - ⟨rfl,rfl⟩
   refine gB ?_;rw[if_pos (by rw[o.p];exact zA3 1)];exact Me ⟨rfl,rfl⟩
 rintro c m ⟨rfl,rfl⟩;exact Me (h m (o.fin rfl))
theorem cmpP{x y:V'}{p q:Int×Int}{Q:Bool->δ->Prop}(f:TP s.heap x p)(g:TP s.heap y q)(h:Q (plt p q) s):L5 (L6 prog w) A (keyLt' (tuples' true) x y) Q E s:=by
 obtain⟨b,t,u,o,n,rfl,i,_,j⟩:=f;obtain⟨c,m,v,B,C,rfl,k,_,l⟩:=g;have z:∀ r:Bool,r=plt p q->Q r s:=λ r e=>e ▸ h
 refine W.kat_lt i j k l (W.kat_cons (wpAny_eqBool_int (W.kat_go (λ a=>W.kat_yes (W.kat_cons (wpAny_eqBool_int (W.kat_go (λ d=>W.kat_yes (W.kat_nil (z _ ?_))) λ d=>W.kat_no (W.kat_one _ _ (lt_int (z _ ?_))))))) λ a=>W.kat_no (oneLt_int (z _ ?_)))))
 . simp at a d;simp[plt,a,d]
 . simp at a d;simp[plt,a]
 simp at a;simp[plt,a]
theorem TP.keep{h h':Heap}{v:V'}{p:Int×Int}(t:TP h v p)(k:∀ b o,h.get? b=some o->o.cls=.type "tuple" -> h'.get? b=some o):TP h' v p:=by
 obtain⟨b,t,u,o,n,rfl,c,a,d⟩:=t;exact⟨b,t,u,o,n,rfl,k _ _ c a,a,d⟩
end
def kl(kf:V'->Int×Int)(x y:Mm):Bool:=plt (kf x.1) (kf y.1)
theorem kl_od(kf:V'->Int×Int):Od (kl kf) :=
 ⟨λ x y h=>by simp[kl,plt] at h ⊢;lia,λ x y z a b=>by simp[kl,plt] at a b ⊢;lia⟩
section
variable{prog:L7}{w:L9}{A:L8}{E:V'->δ->Prop}{s:δ}
theorem kl_ds(c:(vs.map kf).Nodup):Ds (kl kf) (pairsOf vs):=by
 unfold Ds;rw[pairsOf_toList,show vs.zip vs=vs.map λ v=>(v,v) by induction vs with | nil=>rfl | cons v vs d=>simp at c;rw[List.zip_cons_cons,d c.2];rfl,zC9];unfold List.Nodup at c;rw[zC9] at c;refine c.imp λ{a b} h=>?_
 have e:¬ ((kf a).1=(kf b).1/\(kf a).2=(kf b).2):=λ q=>h (Prod.ext q.1 q.2)
 simp only[kl,plt,zBf];lia
theorem qal1{a:γ}{n:Nat}{P:PySem.Fin->δ->Prop}{kd:SortKind}(g:s.heap.get? a=some (seqObj "list" vs.toArray n))(C:vs.length<=64)(k:(vs.map kf).Nodup)(D:∀ h',(∀ b o,s.heap.get? b=some o->o.cls=.type "tuple" -> h'.get? b=some o)->2<=vs.length ->
     (∀(Q':SortKind->δ->Prop),Q' kd { s with heap:=h' }->L5 (L6 prog w) A (keyKind' vs.toArray) Q' E { s with heap:=h' })/\Cm prog w A { s with heap:=h' } kd (λ x=>x.1∈vs) (kl kf))(h:∀ out:List V',out.Perm vs->(out.map kf).Pairwise (λ p q=>plt q p=false)->P (.done (.ret .none)) { s with heap:=sortedHeap s.heap a vs out.toArray }) :
   L5 (L6 prog w) A (Builtin.«list.sort» ⟨[.ref a],[]⟩) P E s:=by
 have F:vs.toArray.size=vs.length:=zA5;have la:a < s.heap.objs.size:=zA7 g;obtain⟨l,m⟩:∃ e,(s.heap.update a (Obj.mapSeq λ _=>#[])).get? a=some (seqObj "list" #[] e):=⟨_,get?_update_seq g λ _=>#[]⟩
 have r:(((s.heap.update a (Obj.mapSeq λ _=>#[])).push (seqObj "tuple" vs.toArray 0)).push (seqObj "list" #[] 0)).get? a=some (seqObj "list" #[] l):=zA2 _ (zA2 _ m);have G:∀ b o,s.heap.get? b=some o->o.cls=.type "tuple" -> (((s.heap.update a (Obj.mapSeq λ _=>#[])).push (seqObj "tuple" vs.toArray 0)).push (seqObj "list" #[] 0)).get? b=some o:=λ b o q H=>by
   have I:b≠a:=λ z=>by rw[z,g] at q;cases q;simp at H
   exact zA2 _ (zA2 _ (by rw[Heap.get?_update_ne _ _ _ _ I];exact q))
 rw[list_sort_plain];refine G' (listItems_at g rfl (G' (listUpdate_at g rfl (G' (seqEpoch_at m rfl (G' (wpAny_newTuple (G' (wpAny_newList (Lj ?_) (zBk _))) (by show vs.length<=_;rw[Lp];lia))))) (by rw[F,Lp];lia) (zBk _))));show L5 (L6 prog w) A _ P E { s with heap:=((s.heap.update a (Obj.mapSeq λ _=>#[])).push (seqObj "tuple" vs.toArray 0)).push (seqObj "list" #[] 0) };have last:∀ d:Mn,(Ml d).toList.Perm (pairsOf vs).toList->(Ml d).toList.Pairwise (λ x y=>lee (kl kf) x y=true)->Mi d=none ->
     P (.done (.ret .none)) { s with heap:=sortedHeap s.heap a vs ((Ml d).map (·.2)) }/\((Ml d).map (·.2)).size<=Lg+1:=λ d i J _=>by
   rw[pairsOf_toList] at i;have u:∀ p∈(Ml d).toList,p.1=p.2:=λ p K=>(mem_zip_self (i.mem_iff.mp K)).1
   have e2:((Ml d).map (·.2))=((Ml d).toList.map (·.2)).toArray:=Array.toList_inj.mp (by rw[Array.toList_map]);have pv:((Ml d).toList.map (·.2)).Perm vs:=by
     have:=i.map Prod.snd
     rwa[List.map_snd_zip (zA3 _)] at this
   rw[e2];refine⟨h _ pv ?_,by rw[zA5,pv.length_eq,Lp];lia⟩;rw[Mz,zC9];refine(List.Pairwise.and_mem.mp J).imp λ{x y} ⟨L,M,q⟩=>?_
   show plt (kf y.2) (kf x.2)=false;rw[<- u x L,<- u y M];simpa[lee,kl] using q
 have tail:∀ d:Mn,Ih (kl kf) (pairsOf vs) d->L5 (L6 prog w) A (do
     let t:=(<- seqEpoch a) != l
     Builtin.List.listUpdate (.ref a) λ _=>(Ml d).map (·.2)
     if let some e:=Mi d then rule "list.sort.comparison-raised";throw e
     if t then rule "list.sort.modified";raiseError "ValueError" "list modified during sort"
     ret .none) P E { s with heap:=((s.heap.update a (Obj.mapSeq λ _=>#[])).push (seqObj "tuple" vs.toArray 0)).push (seqObj "list" #[] 0) }:=λ d f=>by
   have z:=last d f.1 f.2.1 f.2.2;refine G' (seqEpoch_at r rfl (G' (listUpdate_at r rfl ?_ (zBk _) z.2)));rw[f.2.2];simp only[bne_self_eq_false,Bool.false_eq_true,if_false];exact Ld z.1
 by_cases c:vs.toArray.size < 2
 . rw[if_pos c,if_pos c]
   refine G' (Ld ?_);dsimp only;rw[StateT.run_pure];refine G' (Ld (tail (SortSt.mk' general' (vs.toArray.zip vs.toArray) #[] 7 none) ⟨List.Perm.refl _,?_,rfl⟩));show (pairsOf vs).toList.Pairwise _;rw[pairsOf_toList]
   match vs,c with
   | [],_=>exact .nil
   | [v],_=>simp
   | _::_::_,c=>simp at c;lia
 rw[if_neg c,if_neg c];obtain⟨N,O⟩:=D _ G (by lia);refine G' (N _ ?_);have B:Cn prog w A { s with heap:=((s.heap.update a (Obj.mapSeq λ _=>#[])).push (seqObj "tuple" vs.toArray 0)).push (seqObj "list" #[] 0) } kd (pairsOf vs) (kl kf):=λ x y Q R=>O x y (mem_zip_self (pairsOf_toList vs ▸ Q)).2 (mem_zip_self (pairsOf_toList vs ▸ R)).2
 have j:wpS (L6 prog w) A E { s with heap:=((s.heap.update a (Obj.mapSeq λ _=>#[])).push (seqObj "tuple" vs.toArray 0)).push (seqObj "list" #[] 0) } sortRuns' (λ _ d=>Ih (kl kf) (pairsOf vs) d) (SortSt.mk' kd (vs.toArray.zip vs.toArray) #[] 7 none):=by
   rcases Nat.lt_or_ge vs.length 64 with q | q
   . exact wrunS (kl_od kf) B (kl_ds k) rfl rfl rfl (Array.Perm.refl _) (by rw[pairsOf_size];lia) (by rw[pairsOf_size];exact q) λ _ f=>f
   exact wrun (kl_od kf) B (kl_ds k) rfl rfl rfl (Array.Perm.refl _) (by rw[pairsOf_size];lia) λ _ f=>f
 refine G' (Lv j ?_ λ _ _ e=>e);rintro⟨⟨⟩,d⟩ S ⟨rfl,f⟩;exact tail d f
theorem sorted6{l:γ}{Q:V'->δ->Prop}{kd:SortKind}(f:s.heap.IsList l vs.toArray)(a:vs.length<=64)(g:(vs.map kf).Nodup)(i:∀(A:L8)(E:V'->δ->Prop) h',(∀ b o,s.heap.get? b=some o->o.cls=.type "tuple" -> h'.get? b=some o)->2<=vs.length ->
     (∀(Q':SortKind->δ->Prop),Q' kd { s with heap:=h' }->L5 (L6 prog w) A (keyKind' vs.toArray) Q' E { s with heap:=h' })/\Cm prog w A { s with heap:=h' } kd (λ x=>x.1∈vs) (kl kf))(h:∀ out:List V',out.Perm vs->(out.map kf).Pairwise (λ p q=>plt q p=false)->Q (.ref (s.heap.objs.size+1)) { s with heap:=sortedAll s.heap vs out.toArray }) :
   L5 (L6 prog w) A (call (.builtin "sorted") [.ref l]) Q E s:=by
 refine Calls.call_function_entry kind_sorted plain_sorted entry_sorted (args_sorted1 _) ?_;unfold Builtin.«sorted»;refine G' (m:=checkCount "sorted" 1 1 _) (Ld (G' (collect_list f (G' (wpAny_newList ?_ (by rw[Lp];lia))) (by rw[Lp];lia))));have d:((s.heap.push (seqObj "list" #[] 0)).update s.heap.objs.size (Obj.mapSeq (·++vs.toArray))).objs.size=s.heap.objs.size+1:=by rw[Heap.size_update,size_push']
 have e:(((s.heap.push (seqObj "list" #[] 0)).update s.heap.objs.size (Obj.mapSeq (·++vs.toArray))).push (seqObj "list" vs.toArray 0)).get? (s.heap.objs.size+1)=some (seqObj "list" vs.toArray 0):=by
   rw[<- d];exact zAy _ rfl
 have j:∀ b o,s.heap.get? b=some o->(((s.heap.push (seqObj "list" #[] 0)).update s.heap.objs.size (Obj.mapSeq (·++vs.toArray))).push (seqObj "list" vs.toArray 0)).get? b=some o:=λ b o q =>
   zA2 _ (by rw[Heap.get?_update_ne _ _ _ _ (zAj (zA7 q))];exact zA2 _ q)
 show L5 _ _ _ _ _ { s with heap:=((s.heap.push (seqObj "list" #[] 0)).update s.heap.objs.size (Obj.mapSeq (·++vs.toArray))).push (seqObj "list" vs.toArray 0) };rw[d];refine G' (Lj (wpAny_call_entry slot_list_sort ⟨_,e,rfl⟩ entry_list_sort (qal1 e a g (λ h' k c=>i _ _ h' (λ b o q n=>k b o (j _ _ q) n) c) λ out r t=>⟨_,rfl,?_⟩) (args_list_sort _)));exact Ld ⟨_,rfl,h out r t⟩
end
end S6
namespace LV
open PySem L2 PyProof.Rows
variable{ps:List (Int×Int)}
abbrev Ew(ps:List (Int×Int)):List (Int×Int):=ps.mergeSort λ p q=>!S6.plt q p
def PrA(H:Hp)(v:V)(p:Int×Int):Prop:=∃ b,v=.ref b/\H b=some (.q [.int p.1,.int p.2])
noncomputable def kfh(h:Heap):V'->Int×Int
 | .ref b=>match h.get? b with
   | some o=>match o.data with
     | .seq xs _=>(numOf (xs.getD 0 .none),numOf (xs.getD 1 .none))
     | _=>(0,0)
   | none=>(0,0)
 | _=>(0,0)
theorem qaU9{h:Heap}{v:V'}{p:Int×Int}(t:S6.TP h v p):kfh h v=p:=by
 obtain⟨b,t,u,o,n,rfl,a,d,c⟩:=t;simp only[kfh,a,c];rfl
noncomputable def vOf:V'->V
 | .ref b=>.ref b
 | _=>.non
section
variable{X:Cx}{Eo:List (γ×Obj)}{σ:List (Option V)}{H:Hp}{s:δ}
theorem qaI5(I:Qa X Eo σ H s){vs:List V}{its:List V'}(r:P9 vs its)(t:Paired (PrA H) vs ps) :
   its.map (kfh s.heap)=ps/\∀ u∈its,S6.TP s.heap u (kfh s.heap u)/\∃ b,u=.ref b/\H b=some (.q [.int (kfh s.heap u).1,.int (kfh s.heap u).2]):=by
 induction t generalizing its with
 | nil=>cases r;exact⟨rfl,nofun⟩
 | @cons v p vs ps h t f =>
   cases r with
   | @cons _ u _ its ru rt =>
     obtain⟨b,rfl,c⟩:=h;cases ru;obtain⟨w,q,⟨o,g,i,n,j⟩,_⟩:=I.tuple (.inl (.inl c));have d:S6.TP s.heap (.ref b) p:=by
       obtain⟨x,y,rfl,⟨t1,rfl⟩,t2,rfl⟩:=P9.two q;exact⟨b,t1,t2,o,n,rfl,g,i,j⟩
     have e:=qaU9 d;obtain⟨k,l⟩:=f rt;refine⟨by rw[zAx,e,k],λ u a=>?_⟩;rcases zAn.mp a with rfl | a
     . rw[e];exact⟨d,b,rfl,c⟩
     exact l u a
theorem qas5{h:Heap}:∀{out:List V'},(∀ u∈out,∃ b,u=.ref b/\H b=some (.q [.int (kfh h u).1,.int (kfh h u).2]))->P9 (out.map vOf) out/\Paired (PrA H) (out.map vOf) (out.map (kfh h))
 | [],_=>⟨.nil,.nil⟩
 | u::out,k=>by
   obtain⟨b,rfl,c⟩:=k u zAa;have a:=qas5 (out:=out) λ v d=>k v (zA6 _ d)
   exact⟨.cons rfl a.1,.cons ⟨b,rfl,c⟩ a.2⟩
theorem qR4{h:Heap}{kf:V'->Int×Int}:∀{its:List V'},(∀ u∈its,S6.TP h u (kf u))->∃ fs,W.KatTups h its fs/\fs.length=its.length/\∀ f∈fs,∃ i t,f=On i t
 | [],_=>⟨[],trivial,rfl,nofun⟩
 | u::its,k=>by
   obtain⟨fs,f1,f2,f3⟩:=qR4 (its:=its) λ v c=>k v (zA6 _ c)
   obtain⟨b,t,w,o,n,rfl,d,e,g⟩:=k u zAa;refine⟨On _ t::fs,W.KatTups.cons d e g rfl f1,by rw[zAm,f2];rfl,λ f a=>?_⟩;rcases zAn.mp a with rfl | a
   . exact⟨_,_,rfl⟩
   exact f3 f a
theorem qaa8(ps:List (Int×Int)):(Ew ps).Pairwise λ p q=>S6.plt q p=false:=by
 refine(List.pairwise_mergeSort (λ a b c d e=>?_) (λ a b=>?_) ps).imp λ{a b} h=>by simpa using h
 . simp[S6.plt] at d e ⊢;lia
 simp[S6.plt];lia
theorem qax4{c:List (Int×Int)}(d:c.Perm ps)(e:c.Pairwise λ p q=>S6.plt q p=false):c=Ew ps:=by
 refine List.Perm.eq_of_pairwise (le:=λ p q=>S6.plt q p=false) (λ a b _ _ f g=>?_) e (qaa8 ps) (d.trans (Nt _ _).symm);simp[S6.plt] at f g;exact Prod.ext (by lia) (by lia)
def qaH0(K:O0):List V->Hp->VK->Prop:=λ xs H Q=>∃ a vs ps,xs=[.ref a]/\SqL K H a vs/\Paired (PrA H) vs ps/\ps.Nodup/\ps.length<=64/\∀ l b,H l=none->Paired (PrA H) b (Ew ps)->Q (.ref l) (upd H l (.l b))
theorem qai2:CallR X (.builtin "sorted") (qaH0 X.K):=by
 intro Eo s σ H V Y Q I r h;obtain⟨a,Z,B,rfl,C,t,D,hl,q⟩:=h;obtain⟨u,rfl,F⟩:=B9 r;cases F;obtain⟨f,G,J,hz⟩:=I.list C;obtain⟨j,g⟩:=qaI5 I G t;have L:f.length<=64:=by have:=congrArg Mv j;rw[zAf] at this;lia
 refine S6.sorted6 (kf:=kfh s.heap) (kd:=tuples' true) J.isList L (by rw[j];exact D) (λ A E h' k c=>⟨λ Q' l=>?_,λ x y M N E Q l=>?_⟩) λ d m O=>?_
 . obtain⟨fs,f1,f2,f3⟩:=qR4 λ u n=>(g u n).1.keep k
   refine W.kat_kind (T:=.type "int") f1 (by lia) (λ v P=>?_) rfl l;obtain⟨i,t,rfl⟩:=f3 v P;exact W.Looks.of_pure rfl
 . exact S6.cmpP ((g _ M).1.keep k) ((g _ N).1.keep k) l
 obtain⟨R,p⟩:=qas5 (H:=H) (h:=s.heap) (out:=d) λ u n=>(g u (m.mem_iff.mp n)).2
 obtain⟨e,S⟩:=sortedAll_at s.heap f d.toArray;have U:d.map (kfh s.heap)=Ew B:=qax4 (j ▸ m.map _) O;rw[U] at p;refine⟨.ref _,_,I.laid (t':=s.toks) (λ b o z=>sortedAll_old z) (Nat.le_succ _) (show ObjOk X.prog X.w _ _ _ (.l (d.map vOf)) from⟨?_,d,e,R,S⟩),rfl,q _ _ (I.hok.fresh (Nat.le_succ _)) p⟩;rw[zAf,m.length_eq,Lp];lia
noncomputable def Jt:D->Option (Int×Int)
 | .q [.int a,.int b]=>some (a,b)
 | _=>none
noncomputable def prD2(p:Int×Int):D:=.q [.int p.1,.int p.2]
def qau4(x:D):Option D:=match x with
 | .l _ ys=>(ys.mapM Jt).bind λ ps=>gd (ps.Nodup/\ps.length<=64) (.l false ((Ew ps).map prD2))
 | _=>none
theorem qac4:∀{ys:List D}{ps:List (Int×Int)},ys.mapM Jt=some ps->ys=ps.map prD2
 | [],ps,h=>by cases h;rfl
 | y::ys,ps,h=>by
   rw[Oc] at h;obtain⟨p,a,h⟩:=zA1.mp h;obtain⟨c,b,h⟩:=zA1.mp h;cases h;rw[zAx,qac4 b];congr 1;unfold Jt at a;split at a
   . cases a;rfl
   cases a
theorem qaI6{F:γ->Prop}{H:Hp}:∀{ps:List (Int×Int)}{vs:List V}{A:List γ},P3 F H vs (ps.map prD2) A->Paired (PrA H) vs ps
 | [],_,_,r=>by cases r;exact .nil
 | p::ps,_,_,r=>by
   cases r with
   | cons h t =>
     cases h with
     | q e r =>
       refine .cons ⟨_,rfl,?_⟩ (qaI6 t);cases r with
       | cons a t1 =>
         cases a;cases t1 with
         | cons b t2=>cases b;cases t2;exact e
theorem qay7{F:γ->Prop}{H:Hp}{a:List V}(t:Paired (PrA H) a ps):P3 F H a (ps.map prD2) []:=by
 induction t with
 | nil=>exact .nil
 | cons h t c =>
   obtain⟨b,rfl,d⟩:=h;exact .cons (A:=[]) (B:=[]) (.q d (.cons (A:=[]) (B:=[]) (.int _) (.cons (A:=[]) (B:=[]) (.int _) .nil))) c
theorem qaE0{K:O0}:CS1 true (qaH0 K) qau4:=by
 intro F H v x B d Q r h q;cases x with
 | l z n =>
   obtain⟨c,e,f⟩:=zA1.mp h;obtain⟨⟨g,i⟩,rfl⟩:=qt3 f;cases qac4 e;obtain⟨a,j,A,rfl,k,m,_⟩:=r.lst_inv;exact⟨a,j,c,rfl,.inl (.inl k),qaI6 m,g,i,λ l o b t=>q _ _ [l] (qy7 b (qay7 t)) (Same.new b) (qg9 b)⟩
 | _=>cases h
end
end LV
namespace LV
open PySem L2
mutual
def D.plain:D->Bool
 | .q ds=>D.plains ds
 | .l z ds=>!z&&D.plains ds
 | .non=>true | .bl _=>true | .int _=>true | .str _=>true
 | _=>false
def D.plains:List D->Bool
 | []=>true
 | d::r=>d.plain&&D.plains r
end
end LV
namespace LV
open PySem L2 PyProof.Rows
section
variable{c:Vc}{X:Cx}{e:Ma}{n tb:VT}{s:VSp}
def tOrT(n tb:VT):VT:=λ ds Q xe=>n ds Q xe∨tb ds Q xe
theorem eAlt(g:VE c X e n)(i:VE c X e tb):VE c X e (tOrT n tb):=by
 refine⟨λ Eo s l H Q I b=>?_,λ d Q Q' f k j a=>Or.imp (g.m _ _ _ _ _ j a) (i.m _ _ _ _ _ j a)⟩;obtain⟨F,d,A,f,S,a,q⟩:=b;rcases q with q | q
 . exact g.h Eo s l H Q I ⟨F,d,A,f,S,a,q⟩
 exact i.h Eo s l H Q I ⟨F,d,A,f,S,a,q⟩
end
end LV
namespace L2
open PySem PySem.Spec PyProof.Rows
def tHdM(M:γ->Option Bool)(j:Nat)(ts tr:γ->TS):γ->TS:=λ a D d H=>∃ C c b,H a=some (Bk a C c false)/\M C=some b /\
 if b=true then ts a (behind j D) (d.set j (some (.ref a))) H else tr a D d H
theorem Qd.u64{cm:Bool}{k:Nat}{A:L8}(a:Qd cm k A):A.units+64 < cLine:=a.units
theorem Qd.mark{cm:Bool}{k:Nat}{A:L8}(r:Qd cm k A)(v:Option V'):Qd false k (A.mark v):=⟨λ z=>(nomatch z),r.dp,r.un⟩
section
variable{X:Cx}
theorem hd_go{j:Nat}{y:Str}{pos:Pos}{b₀:Mb}{suite:List Mb}{rest:List ExceptHandler}{ts tr:γ->TS}{Eo:List (γ×Obj)}{s:δ}{B:St}{H:Hp}{D:Bw}{a:γ}{n:Nat}{b:Bool}(d:X.N.Nodup)(i:∀ a,PSs (Xh X a) (b₀::suite) (ts a))(k:PH X rest tr)(e:X.N[j]? = some y)(c:X.env.scope.names.lookup y=some .local)(I:Qa X Eo B H s)(F:Fly n H s.heap a)(O:Old X Eo n)(q:if b=true then ts a (behind j D) (B.set j (some (.ref a))) H else tr a D B H) :
   (match (Except.ok (if b then Flow.brk else Flow.next):Result) with
     | .ok .brk=>codeAny (L6 X.prog X.w) (X.A.mark (some (.ref a))) (.handlers (.ref a) [.ExceptHandler none (some y) (b₀::suite) pos] X.env) (λ r s₂=>match r with
         | .ok f=>L5 (L6 X.prog X.w) X.A (do bindName X.env y .none;unbindBehindTheSuite X.env y pos) (λ _ s₃=>SP X Eo D f s₃) X.xe s₂
         | .error x=>cameBackBy (L6 X.prog X.w) X.A X.env X.xe x s₂) s
     | .ok _=>L5 (L6 X.prog X.w) X.A (handleBy (.ref a) X.env rest) (SP X Eo D) X.xe s
     | .error x=>cameBackBy (L6 X.prog X.w) X.A X.env X.xe x s):=by
 cases b with
 | false =>
   simp only[Bool.false_eq_true,if_false] at q ⊢;exact k Eo s B H D a n I F O q
 | true =>
   simp only[if_true] at q ⊢;refine codeAny_handlers_suite_as (qao3 I F O λ o I1 F1=>?_);refine qD2 (X:=Xh X a) (v:=.ref a) I1.h d e (.inl c) rfl (λ l I2=>?_) (.inr c);refine Lv (i a Eo l (B.set j (some (.ref a))) H (behind j D) I2 q) (λ f p z=>?_) λ _ _ z=>z.elim
   cases f with
   | next=>obtain⟨B',H',J,z⟩:=z;exact qT4 (J.unh I.ok) d e c λ g J4=>⟨_,H',J4,z⟩
   | brk=>obtain⟨B',H',J,z⟩:=z;exact qT4 (J.unh I.ok) d e c λ g J4=>⟨_,H',J4,z⟩
   | cont=>obtain⟨B',H',J,z⟩:=z;exact qT4 (J.unh I.ok) d e c λ g J4=>⟨_,H',J4,z⟩
   | ret u=>obtain⟨v,B',H',J,m,z⟩:=z;exact qT4 (J.unh I.ok) d e c λ g J4=>⟨v,_,H',J4,m,z⟩
theorem qaS2(j:Nat){x y:Str}{C':γ}{np pos:Pos}{b₀:Mb}{suite:List Mb}{rest:List ExceptHandler}{ts tr:γ->TS}(d:X.N.Nodup)(c:Exc X.K C')(hm:X.mg x=some (.ref C'))(e:∀ a,PSs (Xh X a) (b₀::suite) (ts a))(f:PH X rest tr)(g:X.N[j]? = some y:=by rfl)(i:X.env.scope.names.lookup y=some .local:=by rfl)(k:Gl X x:=by rfl)(l:N' x:=by decide) :
   PH X (.ExceptHandler (some (.Name x np)) (some y) (b₀::suite) pos::rest) (tHdM (λ C=>W.mroIn X.K C (.ref C')) j ts tr):=by
 intro Eo s B H D a n I F O h;obtain⟨C,r,b,m,o,q⟩:=h;obtain⟨t,u,p1,p,_⟩:=qQ0 I.hok m;refine wpAny_handleBy_cons (codeAny_handlers_test (qI8 (X:=Xh X a) I.h k hm ?_ l)) (by intro z;cases z);exact qao9 I.kIn c p1 p o (hd_go d e f g i I F O q)
end
end L2
namespace LV
open PySem L2
variable{H:Hp}{x:Str}
abbrev VH:=Exn->VTS
inductive Jd(c:Vc)(t:VH)(a:γ)(E:Bw)(b:St)(H:Hp):Prop
 | mk (x:Exn) (F:γ->Prop) (ds:Ds) (A:List γ) (e:VEnds) (r:RepX F H a x) (S:Qc c F H b ds A) (l:Lk c E F H A e) (q:t x e ds):Jd c t a E b H
structure VHs(c:Vc)(X:Cx)(hs:List ExceptHandler)(t:VH):Prop where
 h:PH X hs (Jd c t)
 m:∀ x (e e':VEnds) ds,e.Le e'->t x e ds->t x e' ds
section
variable{c:Vc}{X:Cx}{Y Z:Pos}{j:Nat}{U:VTS}{R:VH}{V:Mb}{L:List Mb}{rest:List ExceptHandler}{y:Str}{M:γ->Option Bool}
theorem PH.mono{b:List ExceptHandler}{t t':γ->TS}(h:PH X b t)(i:∀ a D J H,t' a D J H->t a D J H):PH X b t':=λ Eo s J H D a n I F O q=>h Eo s J H D a n I F O (i a D J H q)
theorem vhnil:VHs c X [] (λ _ _ _=>False):=⟨PH.mono qaS1 λ _ _ _ _ ⟨_,_,_,_,_,_,_,_,q⟩=>q,λ _ _ _ _ _ z=>z⟩
noncomputable def G3(e:VEnds):VEnds:=⟨λ _=>False,e.rt,λ _=>False,λ _=>False,λ _ _=>False⟩
noncomputable abbrev cNo(c:Vc):Vc:={ c with E:=λ _ _ _ _=>False }
def hAs(M:γ->Option Bool)(j:Nat)(U:VTS)(R:VH):VH:=λ x e ds=>x.fs≠[]/\∃ b,M x.C=some b/\if b=true then U (G3 e) (ds.set j (.exn x.C x.fs)) else R x e ds
theorem RepX.rep{F:γ->Prop}{a:γ}{x:Exn}(r:RepX F H a x)(h:x.fs≠[]):P' F H (.ref a) (.exn x.C x.fs) []:=by
 obtain⟨g,e,q | ⟨i,b,rfl,c,d,f⟩⟩:=r
 . exact absurd q h
 exact .exn e c d f
theorem hAs_m{X':Cx}{st:List Mb}(f:VSs (cNo c) X' st U)(g:VHs c X rest R):∀ x (e a:VEnds) ds,e.Le a->hAs M j U R x e ds->hAs M j U R x a ds:=λ x e a ds d ⟨h,b,i,q⟩=>⟨h,b,i,qC5 (f.m (G3 e) (G3 a) _ ⟨λ _ z=>z,d.rt,λ _ z=>z,λ _ z=>z,λ _ _ z=>z⟩) (g.m x e a ds d) q⟩
theorem qaW1(k:c.W j=false){f:TS}(g:f=Fl (cNo c) U){a:γ}{D:Bw}{J:St}(m:j < J.length)(q:Jd c (hAs M j U R) a D J H):tHdM M j (λ _=>f) (Jd c R) a D J H:=by
 subst g;obtain⟨x,F,n,A,e,r,S,l,h,b,p,q⟩:=q;obtain⟨t,u,_⟩:=id r;refine⟨x.C,t,b,u,p,?_⟩;cases b with
 | false=>exact⟨x,F,n,A,e,r,S,l,q⟩
 | true =>
   obtain⟨A',S',w⟩:=S.store k m (r.rep h) (by simpa using S.ok);exact⟨F,_,A',G3 e,⟨S'.loc,S'.ok,S'.len,S'.ag⟩,⟨λ _ _ _ _ _ z=>z.elim,λ d i v J' H' F' T A2 q r S2 o s=>l.rt d i v J' H' F' T A2 q r ⟨S2.loc,S2.ok,S2.len,S2.ag⟩ o (w.trans s),λ _ _ _ _ _ z=>z.elim,λ _ _ _ _ _ z=>z.elim,λ _ _ _ _ _ _ _ z=>z.elim⟩,q⟩
theorem vhas(j:Nat){C':γ}(f:X.N.Nodup)(ex:Exc X.K C')(hm:X.mg x=some (.ref C'))(b:∀ a,VSs (cNo c) (Xh X a) (V::L) U)(d:VHs c X rest R)(g:c.W j=false:=by rfl)(e:X.N[j]? = some y:=by rfl)(i:X.env.scope.names.lookup y=some .local:=by rfl)(k:Gl X x:=by rfl)(l:N' x:=by decide) :
   VHs c X (.ExceptHandler (some (.Name x Z)) (some y) (V::L) Y::rest) (hAs (λ C=>W.mroIn X.K C (.ref C')) j U R) :=
 ⟨λ Eo s J H D a n I F O q=>qaS2 j f ex hm (λ a=>(b a).h) d.h e i k l Eo s J H D a n I F O (qaW1 g rfl (qp7 e Eo J H s I) q),hAs_m (b 0) d⟩
def sTryW(t:VTS)(th:VH):VTS:=λ e ds=>t { e with xe:=λ x a=>th x e a } ds
theorem stryW{body:List Mb}{h₀:ExceptHandler}{o:List ExceptHandler}{t:VTS}{th:VH}(p:∀ E xe f,Lands (Xt X xe f) E->VSs { c with E:=E } (Xt X xe f) body t)(s:VHs c X (h₀::o) th)(g:X.stack=X.env::X.outer:=by rfl)(i:X.env.frame=some X.env.locals:=by rfl):VS c X (.Try body (h₀::o) [] [] Y) (sTryW t th):=by
 refine⟨PS.mono (qaR8 (tb:=λ E=>Fl { c with E:=E } t) (λ E xe f w=>(p E xe f w).h) s.h g i) λ D J H j=>?_,λ e G u h=>(p (λ _ _ _ _=>False) (λ _ _=>True) [] λ _ _ _ _ _ _ _ _ _ z=>z.elim).m _ _ _ ⟨h.nx,h.rt,h.bk,h.ct,λ x b=>s.m x _ _ _ h⟩⟩;obtain⟨F,u,A,e,S,l,q⟩:=j;refine⟨λ J' y _ H'=>∃ x a b F' A',y=.ref a/\th x e b/\RepX F' H' a x/\Qc c F' H' J' b A'/\Qb F H A F' H' A',⟨F,u,A,_,⟨S.loc,S.ok,S.len,S.ag⟩,⟨?_,?_,?_,?_,?_⟩,q⟩,λ a J' H' ⟨x,I,b,F',A',B,C,k,S',n⟩=>?_⟩
 . exact λ b J' H' F' A' q S'=>l.nx b J' H' F' A' q ⟨S'.loc,S'.ok,S'.len,S'.ag⟩
 . exact λ d b v J' H' F' T A' q r S'=>l.rt d b v J' H' F' T A' q r ⟨S'.loc,S'.ok,S'.len,S'.ag⟩
 . exact λ b J' H' F' A' q S'=>l.bk b J' H' F' A' q ⟨S'.loc,S'.ok,S'.len,S'.ag⟩
 . exact λ b J' H' F' A' q S'=>l.ct b J' H' F' A' q ⟨S'.loc,S'.ok,S'.len,S'.ag⟩
 . exact λ x b J' a H' F' A' q k S' n=>⟨x,a,b,F',A',rfl,q,k,⟨S'.loc,S'.ok,S'.len,S'.ag⟩,n⟩
 cases B;exact⟨J',rfl,λ _ _ z=>z,x,F',b,A',e,k,S',l.step n,C⟩
end
section
variable{c:Vc}{X:Cx}{e e2:Ma}{W p:Pos}{own:Bool}{f:FV}
theorem P'.exn_inv{F:γ->Prop}{v:V}{C:γ}{fs:List (Str×D)}{B:List γ}(r:P' F H v (.exn C fs) B):∃ a dx b,v=.ref a/\B=[]/\H a=some (Bk a C (some dx) false)/\H dx=some (XD dx b)/\b.map (·.1)=fs.map (·.1)/\P3 F H (b.map (·.2)) (fs.map (·.2)) []:=by
 cases r with
 | exn h g e r=>exact⟨_,_,_,rfl,rfl,h,g,e,r⟩
def K5(K:O0)(f:FV)(u:V'):VT:=λ ds Q _=>orF (f ds) λ d=>∃ C fs b,d=.exn C fs/\IsX K C/\O1 K (.ref C) u=some b/\Q (.bl b) ds
theorem eisX{d:V}{u:V'}(hm:X.mg "isinstance" = none)(o:VV c X e own f)(t:PE X e2 (tC d))(w:P8 d u)(g:∀ l,P8 d l->l=u)(y:Gl X "isinstance" := by rfl)(h1:Lf [e,e2] X.env=(false,eval e X.env)::Lf [e2] X.env:=by rfl)(h2:Lf [e2] X.env=(false,eval e2 X.env)::Lf [] X.env:=by rfl)(i:((backTo W (Lf [e2] X.env)).any λ x=>x.1)=false:=by rfl) :
   VE c X (.Call (.Name "isinstance" p) [e,e2] [] W) (K5 X.K f u):=by
 refine⟨PE.mono (cbi qaE3 hm (qf2 o.h (qf2 t qx9 h2) h1) y rfl (by decide) (by decide) h1 i) λ U H Q j=>?_,λ m Q Q' z D E _=>qa5 λ d ⟨C,n,b,h1,h2,G,I⟩=>⟨C,n,b,h1,h2,G,E _ _ I⟩⟩;obtain⟨F,m,A,z,S,x,q⟩:=j;obtain⟨P,J,C,n,b,rfl,ix,L,q⟩:=qa7.mp q;refine⟨F,m,A,_,S,J,λ v H1 B r s _=>?_⟩;obtain⟨a,M,k,rfl,rfl,N,O,_⟩:=r.exn_inv;exact⟨a,d,u,C,M,false,k,b,rfl,w,g,N,O,ix,L,q _ _ F [] A (.bl b) (S.same s) (S.same s).ok (.same s)⟩
theorem Ff(C':γ){np:Pos}(hm:X.mg "isinstance" = none)(g:VV c X e own f)(h:X.mg x=some (.ref C'))(i:Gl X "isinstance" := by rfl)(a:Gl X x:=by rfl)(j:N' x:=by decide)(h1:Lf [e,.Name x np] X.env=(false,eval e X.env)::Lf [.Name x np] X.env:=by rfl)(h2:Lf [.Name x np] X.env=(false,eval (.Name x np) X.env)::Lf [] X.env:=by rfl)(b:((backTo W (Lf [.Name x np] X.env)).any λ x=>x.1)=false:=by rfl) :
   VE c X (.Call (.Name "isinstance" p) [e,.Name x np] [] W) (K5 X.K f (.ref C')):=eisX (d:=.ref C') hm g (qaJ4 C' h a j) rfl (λ _ z=>z) i h1 h2 b
theorem eisXt(n:String){np:Pos}(hm:X.mg "isinstance" = none)(h:VV c X e own f)(a:X.mg x=none)(i:Gl X "isinstance" := by rfl)(b:Gl X x:=by rfl)(j:Ll x=some (.type n):=by rfl)(k:x ≠ "__name__" := by decide)(l:N' x:=by decide)(h1:Lf [e,.Name x np] X.env=(false,eval e X.env)::Lf [.Name x np] X.env:=by rfl)(h2:Lf [.Name x np] X.env=(false,eval (.Name x np) X.env)::Lf [] X.env:=by rfl)(g:((backTo W (Lf [.Name x np] X.env)).any λ x=>x.1)=false:=by rfl) :
   VE c X (.Call (.Name "isinstance" p) [e,.Name x np] [] W) (K5 X.K f (.type n)):=eisX (d:=.ty n) hm h (qaJ9 n a b j k l) rfl (λ _ z=>z) i h1 h2 g
def tEFX(K:O0)(f:FV)(fl:Str):VT:=λ ds Q _=>orF (f ds) λ d=>∃ C fs v,d=.exn C fs/\Exc K C/\qd5 K C fl/\fs.lookup fl=some v/\Q v ds
theorem eefld{fl:Str}{K:O0}(k:X.K=K)(l:VV c X e own f)(m:Ln e fl X.env (eval e X.env)=eval e X.env:=by rfl):VE c X (.Attribute e fl W) (tEFX K f fl):=by
 subst k;refine⟨PE.mono (qaJ7 l.h m) λ U H Q g=>?_,λ j Q Q' o p t _=>qa5 λ d ⟨C,i,v,u,w,y,z,D⟩=>⟨C,i,v,u,w,y,z,t _ _ D⟩⟩;obtain⟨F,j,A,o,S,x,q⟩:=g;obtain⟨T,E,C,i,d,rfl,G,n,I,q⟩:=qa7.mp q;refine⟨F,j,A,_,S,E,λ v H1 B r s _=>?_⟩;obtain⟨a,J,b,rfl,rfl,L,M,N,O⟩:=r.exn_inv;obtain⟨v,P,R⟩:=qC3 b i N O I;exact⟨a,C,J,false,b,v,rfl,L,M,G,n,P,q _ _ F [] A R (S.same s) (S.same s).ok (.same s)⟩
theorem qat5{X':Cx}:Lands X' (cNo c).E:=λ _ _ _ _ _ _ _ _ _ z=>z.elim
end
end LV
namespace LV.My
open PySem L2 Row _root_.My
variable{J N i j l r:Nat}{Q:DK}{R:Ds->D->Prop}{S ks ns:List Int}{b:Bool}{d p v x y:D}{ds ys:Ds}{e:VEnds}{f fa fb:FV}{fs:List (Str×D)}{k:Int}{m:Str}{qc:VTT}{s:VSp}{t u:VTS}{ta tb te:VT}{tr:VTB}{xe:XKd}{α:Type}
noncomputable def _root_.LV.D.whole:D->Bool
 | .int _=>true
 | _=>false
noncomputable def _root_.LV.D.within(l m:Int):D->Bool
 | .int i=>decide (l<=i)&&decide (i<=m)
 | _=>false
def _root_.LV.D.num:D->Bool:=D.within 0 1000000000000000000
noncomputable def fx3(g:D->D->D->Option D):Ds->Option D
 | [x,y,z]=>g x y z
 | _=>none
theorem qaf2{g:D->Option D}(h:B6 (fx1 g) ds Q xe):ds.length=1:=by
 match ds,h with
 | [_],_=>rfl
theorem qaM5{g:D->D->D->Option D}(h:B6 (fx3 g) ds Q xe):ds.length=3:=by
 match ds,h with
 | [_,_,_],_=>rfl
theorem imm1{g:D->Option D}(h:B6 (fx1 g) ds Q xe):Ie (wOf [true]) 0 ds=true:=by
 match ds,h with
 | [_],_=>rfl
theorem imm3{g:D->D->D->Option D}(h:B6 (fx3 g) ds Q xe):Ie (wOf [true,true,true]) 0 ds=true:=by
 match ds,h with
 | [_,_,_],_=>rfl
theorem K6{g:D->Option D}(h:B6 (fx1 g) ds Q xe):∃ x d,ds=[x]/\g x=some d/\Q d [x]:=by
 match ds,h with
 | [x],h=>obtain⟨d,e,q⟩:=qa7.mp h;exact⟨x,d,rfl,e,q⟩
theorem pure3{g:D->D->D->Option D}(h:B6 (fx3 g) ds Q xe):∃ x y z d,ds=[x,y,z]/\g x y z=some d/\Q d [x,y,z]:=by
 match ds,h with
 | [x,y,z],h=>obtain⟨d,e,q⟩:=qa7.mp h;exact⟨x,y,z,d,rfl,e,q⟩
theorem ql6{t:String}(h:x.kind=some t):x.known=true:=by
 cases x<;>first | rfl | cases h
def Ay(P:Ds->D->Prop):VSp:=λ ds Q _=>∃ d,P ds d/\Q d ds
theorem qb1{P:Ds->D->Prop}:Bz (Ay P):=λ _ _ _ _ _ a _ ⟨d,p,q⟩=>⟨d,p,a _ _ q⟩
noncomputable def P7(ps:Pr):Ds:=ps.map λ p=>.q [.int p.1,.int p.2]
noncomputable def kvD(ps:Pr):List (Key×D):=ps.map λ p=>(.inl p.1,.int p.2)
def Ac(z:Bool)(C:γ)(n:Int)(wr:Bool)(ps:Pr):D:=.ins z C [("rooms",.int n),("wraps",.bl wr),("homes",.l z (P7 ps)),("home_numbers",.dct z (kvD ps))]
noncomputable def Fs:Option Int->D
 | none=>.non
 | some k=>.int k
def P5(n:Nat)(g:Nat->Option Int):Ds:=(Ms n).map λ i=>Fs (g i)
noncomputable def P4(ks:List Int):Ds:=ks.map .int
theorem qJ1:∀ ps:Pr,D.imms (P7 ps)=true
 | []=>rfl
 | p::r=>by show (D.imms [.int p.1,.int p.2]&&D.imms (P7 r))=true;rw[qJ1 r];rfl
theorem qk2:∀ ks:List Int,D.imms (P4 ks)=true
 | []=>rfl
 | k::r=>by show (true&&D.imms (P4 r))=true;rw[qk2 r];rfl
theorem qag2{α:Type}{f:α->D}(h:∀ a,(f a).imm=true):∀ l:List α,D.imms (l.map f)=true
 | []=>rfl
 | a::r=>by show ((f a).imm&&D.imms (r.map f))=true;rw[h a,qag2 h r];rfl
theorem qaN4(o:Option Int):(Fs o).imm=true:=by cases o<;>rfl
theorem qJ0(n:Nat)(g:Nat->Option Int):D.imms (P5 n g)=true:=qag2 (λ i=>qaN4 _) _
theorem qau0:∀ ks:List Int,intsD (P4 ks)=some ks
 | []=>rfl
 | k::r=>by show (intsD (P4 r)).map (λ is=>k::is)=some (k::r);rw[qau0 r];rfl
theorem qF7:∀ ks:List Int,flats (P4 ks)=some (ks.map V.int)
 | []=>rfl
 | k::r=>by show (Option.bind (some (V.int k)) λ v=>(flats (P4 r)).bind λ a=>some (v::a))=_;rw[qF7 r];rfl
theorem qh0(ks:List Int):(P4 ks).length=ks.length:=zAf _
theorem qz1(n:Nat)(g:Nat->Option Int):(P5 n g).length=n:=by simp[P5]
theorem qJ7{n:Nat}{g:Nat->Option Int}(h:i < n):(P5 n g)[i]? = some (Fs (g i)):=by
 unfold P5;rw[zB8,List.getElem?_range h];rfl
theorem qH1{n:Nat}{g:Nat->Option Int}{o:Option Int}:(P5 n g).set i (Fs o)=P5 n (λ j=>if j=i then o else g j):=by
 apply List.ext_getElem?;intro j;by_cases a:j < n
 . rw[qJ7 a]
   by_cases e:i=j
   . subst e
     rw[zBy (by rw[qz1];exact a),if_pos rfl]
   rw[zBg e,qJ7 a,if_neg (Ne.symm e)]
 rw[List.getElem?_eq_none (by rw[M',qz1];lia),List.getElem?_eq_none (by rw[qz1];lia)]
theorem qad0:∀ ps:Pr,qX5 (P7 ps)=some (kvD ps)
 | []=>rfl
 | p::r=>by
   show (Option.bind (some ((Sum.inl p.1:Key),D.int p.2)) λ q=>(qX5 (P7 r)).bind λ ps=>some (q::ps))=_;rw[qad0 r];rfl
theorem qal7{ps:Pr}{m:Int}(h:¬ k∈ps.map (·.1)):Gh (kvD ps) (.inl k) (.int m)=kvD (ps++[(k,m)]):=by
 unfold Gh;rw[if_neg]
 . unfold kvD;rw[zBc];rfl
 intro e;obtain⟨q,a,e⟩:=List.any_eq_true.mp e;obtain⟨r,b,rfl⟩:=zBb.mp a;have e:(Sum.inl r.1:Key)=Sum.inl k:=zAb e;exact h (zBb.mpr ⟨r,b,Sum.inl.inj e⟩)
theorem qS4:∀(a ps:Pr),((ps++a).map (·.1)).Nodup->qt5 (kvD ps) (kvD a)=kvD (ps++a)
 | [],ps,_=>by rw[zAg];rfl
 | q::a,ps,h=>by
   show qt5 (Gh (kvD ps) (.inl q.1) (.int q.2)) (kvD a)=_;have b:¬ q.1∈ps.map (·.1):=by
     rw[zBc,zAx,zBr] at h;exact λ z=>h.2.2 _ z _ zAa rfl
   rw[qal7 b,qS4 a (ps++[(q.1,q.2)]) (by rw[zAr];exact h),zAr];rfl
theorem qan0{ps:Pr}(h:(ps.map (·.1)).Nodup):qt5 [] (kvD ps)=kvD ps:=qS4 ps [] h
theorem qau8{z:Bool}{ps:Pr}(h:(ps.map (·.1)).Nodup):Iv (.l z (P7 ps))=some (.dct false (kvD ps)):=by
 show (qX5 (P7 ps)).map (λ ps=>D.dct false (qt5 [] ps))=_;rw[qad0];show some (D.dct false (qt5 [] (kvD ps)))=_;rw[qan0 h]
theorem qaq9(k:Int):∀ ps:Pr,Ex (kvD ps) (.inl k)=(ps.lookup k).map .int
 | []=>rfl
 | (p,m)::r=>by
   show Ex ((.inl p,.int m)::kvD r) _=_;by_cases e:p=k
   . subst e
     simp[Ex,zAu]
   have a:Ex ((.inl p,D.int m)::kvD r) (.inl k)=Ex (kvD r) (.inl k):=by simp[Ex,zBx,e]
   rw[a,qaq9 k r]
   have:(k == p)=false:=by simpa using λ z=>e z.symm
   simp only[zAu,this]
theorem qa0{o:Option α}{a:α}{k:α->Prop}(e:o=some a)(h:k a):orF o k:=by rw[e];exact h
theorem B7{p:Prop}[Decidable p]{a b:Prop}(h:p)(x:a):if p then a else b:=by rw[if_pos h];exact x
theorem Gm{p:Prop}[Decidable p]{a b:Prop}(h:¬ p)(x:b):if p then a else b:=by rw[if_neg h];exact x
theorem ite_b{p:Bool}{a b:Prop}(h1:p=true->a)(h2:p=false->b):if p=true then a else b:=by cases p with | true=>exact h1 rfl | false=>exact h2 rfl
noncomputable def Hd:Option Int->D
 | some f=>.int f
 | none=>.non
theorem K7(b:rdN i ds=some x)(h:s [x] (λ d ys=>orF (Au [.sl i] ys (ds.set i .u)) λ a=>Q d a) (λ e ys=>orF (Au [.sl i] ys (ds.set i .u)) λ a=>xe e a)):qk5 s [] (tbN i A5) ds Q xe :=
 ⟨by rw[b];rfl,by show orF (rdN i ds) _;rw[b];exact h⟩
theorem qE4{f:Ds->Option D}(e:f ds=some d)(q:Q d ds):B6 f ds Q xe:=qa0 e q
theorem qf6(e:R ds d)(q:Q d ds):Ay R ds Q xe:=⟨d,e,q⟩
theorem qc3{K:Ds->List Pl->Ds->Prop}(a:rdN i ds=some x)(h:tr ds (λ xs ps ds1=>orF (rdN i ds1) λ d=>K (d::xs) (.sl i::ps) (ds1.set i .u)) xe):tbN i tr ds K xe:=⟨by rw[a];rfl,h⟩
theorem qf1{K:Ds->List Pl->Ds->Prop}(b:f ds=some y)(h:tr ds (λ xs ps a=>K (y::xs) (.no::ps) a) xe):tbV (Eu f) tr ds K xe:=qa0 (k:=λ y=>tr ds (λ xs ps a=>K (y::xs) (.no::ps) a) xe) b h
theorem rd0{r:Ds}(h:d.known=true):rdN 0 (d::r)=some d:=ql1.mpr ⟨rfl,h⟩
theorem qah1{β:Type}(f:α->β)(l:List α):l.filterMap (λ a=>some (f a))=l.map f:=by simp
section
variable{z:Bool}{C:γ}{n:Int}{wr:Bool}{ps:Pr}
theorem qK1{f:Str}(h:fs.lookup f=some d):D.fld C f (.ins z C fs)=some d:=by
 show (if C=C then fs.lookup f else none)=some d;rw[if_pos rfl,h]
theorem qd9:D.fld C "rooms" (Ac z C n wr ps)=some (.int n):=qK1 (by rfl)
theorem qv5:D.fld C "wraps" (Ac z C n wr ps)=some (.bl wr):=qK1 (by rfl)
theorem qY8:D.fld C "home_numbers" (Ac z C n wr ps)=some (.dct z (kvD ps)):=qK1 (by rfl)
theorem qat9(h:fs.lookup m=none):(D.ins z C fs).isM C m=true:=by
 show (decide (C=C)&&(fs.lookup m).isNone)=true;rw[zAq rfl,h];rfl
theorem qf7(h:([("rooms",.int n),("wraps",.bl wr),("homes",.l z (P7 ps)),("home_numbers",.dct z (kvD ps))]:List (Str×D)).lookup m=none):(Ac z C n wr ps).isM C m=true:=qat9 h
theorem A9{g:D->Option D}(h:fa ds=some x)(h':g x=some y):f1 g fa ds=some y:=qaD1.mpr ⟨x,h,h'⟩
theorem Ae{g:D->D->Option D}(h:fa ds=some x)(h':fb ds=some y)(h2:g x y=some d):f2 g fa fb ds=some d:=qaD0.mpr ⟨x,y,h,h',h2⟩
theorem qj6:(D.ins false C fs).ownI C=some fs:=by
 show (if C=C then some fs else none)=some fs;rw[if_pos rfl]
end
theorem qI5{C:γ}(b:rdN i ds=some p)(hm:p.isM C m=true)(h:tr ds (λ xs ps ds1=>orF (rdN i ds1) λ d=>s (d::(xs++[])) (λ r ys=>orF (Au (.sl i::ps) ys (ds1.set i .u)) λ a=>Q r a) (λ x ys=>orF (Au (.sl i::ps) ys (ds1.set i .u)) λ a=>xe x a)) xe):qz8 C m s [] i tr ds Q xe:=⟨qa0 b hm,h⟩
theorem qH5{f:Ds->Option D}(a:rdN i ds=some x)(e:f [x]=some d)(b:Au [.sl i] [x] (ds.set i .u)=some ds)(q:Q d ds):qk5 (B6 f) [] (tbN i A5) ds Q xe:=K7 a (qE4 e (qa0 b q))
theorem qz0(c:rdN i ds=some x)(b:rdN j ds=some y)(a:rdN i (ds.set j .u)=some x)(r:R [x,y] d)(e:Au [.sl i,.sl j] [x,y] ((ds.set j .u).set i .u)=some ds)(q:Q d ds):qk5 (Ay R) [] (tbN i (tbN j A5)) ds Q xe :=
 qc3 c (qc3 b (qa0 b (qa0 a (qf6 r (qa0 e q)))))
theorem qY6{w:D}(e:rdN i ds=some x)(f:rdN j ds=some y)(c:rdN l ds=some w)(a:rdN j (ds.set l .u)=some y)(b:rdN i ((ds.set l .u).set j .u)=some x)(r:R [x,y,w] d)(g:Au [.sl i,.sl j,.sl l] [x,y,w] (((ds.set l .u).set j .u).set i .u)=some ds)(q:Q d ds):qk5 (Ay R) [] (tbN i (tbN j (tbN l A5))) ds Q xe :=
 qc3 e (qc3 f (qc3 c (qa0 c (qa0 a (qa0 b (qf6 r (qa0 g q)))))))
theorem qP3{C:γ}(c:rdN i ds=some p)(hm:p.isM C m=true)(b:rdN j ds=some x)(a:rdN i (ds.set j .u)=some p)(r:R [p,x] d)(e:Au [.sl i,.sl j] [p,x] ((ds.set j .u).set i .u)=some ds)(q:Q d ds):qz8 C m (Ay R) [] i (tbN j A5) ds Q xe :=
 qI5 c hm (qc3 b (qa0 b (qa0 a (qf6 r (qa0 e q)))))
theorem qan1{C:γ}(e:rdN i ds=some p)(hm:p.isM C m=true)(f:rdN j ds=some x)(c:rdN l ds=some y)(a:rdN j (ds.set l .u)=some x)(b:rdN i ((ds.set l .u).set j .u)=some p)(r:R [p,x,y] d)(g:Au [.sl i,.sl j,.sl l] [p,x,y] (((ds.set l .u).set j .u).set i .u)=some ds)(q:Q d ds):qz8 C m (Ay R) [] i (tbN j (tbN l A5)) ds Q xe :=
 qI5 e hm (qc3 f (qc3 c (qa0 c (qa0 a (qa0 b (qf6 r (qa0 g q)))))))
theorem G4{t:VT}{n:VTS}(h:∀(Q:DK)(xe:XKd),Q (.bl true) ds->t ds Q xe)(h2:u e ds):Ib (sIf (F7 (ttE t)) n Ia) u e ds:=h _ _ h2
theorem if_e{t:VT}{v:VTS}(h:∀(Q:DK)(xe:XKd),Q (.bl b) ds->t ds Q xe)(h1:b=true->u e ds)(h2:b=false->v e ds):sIf (ttE t) u v e ds:=h _ _ (by
 show if b=true then u e ds else v e ds
 exact ite_b h1 h2)
theorem if_v{v:VTS}(h:f ds=some (.bl b))(h1:b=true->u e ds)(h2:b=false->v e ds):sIf (ttV f) u v e ds:=by
 show orF ((f ds).bind D.asB) _;rw[h];exact ite_b h1 h2
theorem Gn{u v:VT}(h:f ds=some (.bl b))(h1:b=true->u ds Q xe)(h2:b=false->v ds Q xe):tIfE (ttV f) u v ds Q xe:=by
 show orF ((f ds).bind D.asB) _;rw[h];exact ite_b h1 h2
theorem qu6(e:f ds=some d)(q:Q d ds):Eu f ds Q xe:=qa0 e q
theorem qk6{w:VTS}(b:Bool)(h:f ds=some (.bl b))(h1:b=true->u { e with nx:=w e } ds)(h2:b=false->w e ds):Ib (sIf (ttV f) u Ia) w e ds:=if_v (u:=u) (v:=Ia) h h1 h2
theorem qf5{t:VT}(h:t ds e.rt e.xe):Kr t e ds:=h
theorem qk0(d:D)(h:f ds=some d)(q:e.rt d ds):Kr (Eu f) e ds:=qa0 h q
theorem At(a:Ds)(h:ds=a)(q:t e a):t e ds:=h ▸ q
theorem qag0{z:Bool}(h:rdN i ds=some (.l z ys)):Bd (fx2 gIsi) (Bc (rdN i) (Bc (kC (D.ty "list")) λ _=>some [])) ds=some (.bl true):=by
 unfold Bd Bc;rw[h];rfl
theorem qs9{z:Bool}(h:rdN i ds=some (.l z ys)):Bd (fx1 Hw) (Bc (rdN i) λ _=>some []) ds=some (.int (ys.length:Nat)):=by
 unfold Bd Bc;rw[h];rfl
theorem qh1{Q:Bool->Ds->Prop}(h:f ds=some (.bl b))(q:Q b ds):ttV f ds Q xe:=by
 show orF ((f ds).bind D.asB) _;rw[h];exact q
theorem qg0{Q:Bool->Ds->Prop}(h:f ds=some (.bl b))(q:Q (!b) ds):F7 (ttV f) ds Q xe:=qh1 (Q:=λ b ds=>Q (!b) ds) h q
theorem qh2{t u:VTT}{Q:Bool->Ds->Prop}(b c:Bool)(h1:∀ Q:Bool->Ds->Prop,Q b ds->t ds Q xe)(h2:b=false->∀ Q:Bool->Ds->Prop,Q c ds->u ds Q xe)(q:Q (b||c) ds):ttOr t u ds Q xe:=h1 _ (by
 cases b with
 | false=>exact h2 rfl _ q
 | true=>exact q)
theorem qn2{t u:VTT}{Q:Bool->Ds->Prop}(b c:Bool)(h1:∀ Q:Bool->Ds->Prop,Q b ds->t ds Q xe)(h2:b=true->∀ Q:Bool->Ds->Prop,Q c ds->u ds Q xe)(q:Q (b&&c) ds):Iw t u ds Q xe:=h1 _ (by
 cases b with
 | false=>exact q
 | true=>exact h2 rfl _ q)
theorem if_of(b:Bool)(h:∀ Q:Bool->Ds->Prop,Q b ds->qc ds Q e.xe)(h1:b=true->t e ds)(h2:b=false->u e ds):sIf qc t u e ds:=h _ (ite_b h1 h2)
theorem qe6{w:VTS}(b:Bool)(h:∀ Q:Bool->Ds->Prop,Q b ds->qc ds Q e.xe)(h1:b=true->t { e with nx:=w e } ds)(h2:b=false->w e ds):Ib (sIf qc t Ia) w e ds:=h _ (ite_b h1 h2)
theorem qag5{t:VT}{n:VTS}(h:∀(Q:DK)(xe:XKd),Q (.bl true) ds->t ds Q xe)(h2:e.nx ds):sIf (F7 (ttE t)) n Ia e ds:=h _ _ h2
theorem qaN6{n:VTS}(h:f ds=some (.bl true))(h2:u e ds):Ib (sIf (F7 (ttV f)) n Ia) u e ds:=qg0 (Q:=λ k a=>if k=true then n { e with nx:=u e } a else u e a) (xe:=e.xe) h h2
theorem qaC0{z:Bool}{C:γ}{n:Int}{wr:Bool}{ps:Pr}:gIsO C (Ac z C n wr ps) (.adr C)=some (.bl true):=by
 show (if C=C then (Ac z C n wr ps).isC C else none)=_;rw[if_pos rfl];show (if C=C then some (D.bl true) else none)=_;rw[if_pos rfl]
theorem qe1{g:VTG}{t:VTS}{e:VEnds}(I:Nat->Ds->Prop):∀(xs:List D)(i:Nat)(ds:Ds),I i ds->(∀(j:Nat)(x:D),xs[j]? = some x->∀ ds,I (i+j) ds->∀ K:Ds->Prop,(∀ a,I (i+j+1) a->K a)->g x ds λ ds1=>t { e with nx:=K,ct:=K,bk:=e.nx } ds1)->(∀ a,I (i+xs.length) a->e.nx a)->Ey g t e xs ds
 | [],_,ds,h,_,hn=>hn ds h
 | x::xs,i,ds,h,hs,hn=>hs 0 x rfl ds h _ λ a f=>qe1 I xs (i+1) a f (λ j y k b c K l=>hs (j+1) y k b (by rw[show i+(j+1)=i+1+j by lia];exact c) K λ d m=>l d (by rw[show i+1+j+1=i+(j+1)+1 by lia];exact m)) λ b c=>hn b (by rw[zAm,show i+(xs.length+1)=i+1+xs.length by lia];exact c)
theorem qP8{g:VTG}{n:Int}(h:f ds=some (.int n))(a:Hc n=true)(k:Ey g t e (Bu 0 n.toNat) ds):qal5 (Js (tbV (Fd f) A5)) g t e ds:=by
 show orF (f ds) _;rw[h];exact⟨rfl,a,k⟩
theorem qP2{n:Int}(a:0<=n)(h1:n<=1000):Hc n=true:=by
 unfold Hc;rw[zAq (by lia),zAq (by lia)];rfl
theorem qH4{m:Nat}(h:(Bu 0 m)[j]? = some x):j < m/\x=.int (j:Int):=by
 by_cases a:j < m
 . rw[qac0 a] at h
   cases h;exact⟨a,by rw[Int.zero_add]⟩
 rw[List.getElem?_eq_none (by unfold Bu;rw[zAf,zB4];lia)] at h;cases h
def G5(p:Int->Bool)(y:D):Option D:=y.asI.bind λ k=>if p k=true then some (.int k) else none
theorem qat7{p:Int->Bool}(h:p k=true):G5 p (.int k)=some (.int k):=if_pos h
theorem qat8{p:Int->Bool}(h:p k=false):G5 p (.int k)=none:=if_neg (by rw[h];decide)
theorem qP6(p:Int->Bool):∀ ks:List Int,(P4 ks).filterMap (G5 p)=P4 (ks.filter p)
 | []=>rfl
 | k::ks=>by
   show Oe (G5 p) (D.int k::P4 ks)=_;rw[zCf];cases h:p k with
   | true=>rw[qat7 h,M7 h];show D.int k::(P4 ks).filterMap (G5 p)=_;rw[qP6 p ks];rfl
   | false=>rw[qat8 h,M6 (by rw[h];decide),qP6 p ks]
theorem qaW4{a:Bool}(h1:fa ds=some (.bl a))(h2:fb ds=some (.bl b)):fOr fa fb ds=some (.bl (a||b)):=by
 unfold fOr;rw[h1,h2];cases a<;>rfl
theorem qah2{a:Bool}(h1:fa ds=some (.bl a))(h2:fb ds=some (.bl b)):fAnd fa fb ds=some (.bl (a&&b)):=by
 unfold fAnd;rw[h1,h2];cases a<;>rfl
theorem qb0(ds1:Ds)(h1:∀ K:Ds->Prop,K ds1->t { e with nx:=K } ds)(h2:u e ds1):Ib t u e ds:=h1 (u e) h2
theorem qc5(R:Ds->Prop)(h1:∀ K:Ds->Prop,(∀ ds1,R ds1->K ds1)->t { e with nx:=K } ds)(h2:∀ ds1,R ds1->u e ds1):Ib t u e ds:=h1 (u e) h2
theorem qZ5(I:Nat->Ds->Prop)(n:Nat)(h:I n ds)(c:∀ n ds,I n ds->∀ K:Ds->Prop,(∀ m a,m < n->I m a->K a)->qc ds (λ b ds1=>if b=true then t { e with nx:=K,ct:=K,bk:=e.nx } ds1 else e.nx ds1) e.xe):qaG7 qc t e ds:=by
 have d:∀ N n ds,n < N->I n ds->whN qc t e N ds:=by
   intro N
   induction N with
   | zero=>intro n ds h;exact absurd h (zCb _)
   | succ N f=>intro n ds i h;exact c n ds h _ λ m a j g=>f m a (by lia) g
 exact⟨n+1,d (n+1) n ds (Nat.lt_succ_self n) h⟩
theorem qZ2(f:rdN i ds=some x)(c:rdN j ds=some y)(b:rdN i (ds.set j .u)=some x)(h:s [x,y] (λ d ys=>orF (Au [.sl i,.sl j] ys ((ds.set j .u).set i .u)) λ a=>Q d a) (λ e ys=>orF (Au [.sl i,.sl j] ys ((ds.set j .u).set i .u)) λ a=>xe e a)):qk5 s [] (tbN i (tbN j A5)) ds Q xe :=
 qc3 f (qc3 c (qa0 c (qa0 b h)))
theorem qaP3{w:D}(g:rdN i ds=some x)(k:rdN j ds=some y)(f:rdN l ds=some w)(b:rdN j (ds.set l .u)=some y)(c:rdN i ((ds.set l .u).set j .u)=some x)(h:s [x,y,w] (λ d ys=>orF (Au [.sl i,.sl j,.sl l] ys (((ds.set l .u).set j .u).set i .u)) λ a=>Q d a) (λ e ys=>orF (Au [.sl i,.sl j,.sl l] ys (((ds.set l .u).set j .u).set i .u)) λ a=>xe e a)):qk5 s [] (tbN i (tbN j (tbN l A5))) ds Q xe :=
 qc3 g (qc3 k (qc3 f (qa0 f (qa0 b (qa0 c h)))))
theorem qaU6{C:γ}{k:Nat}{w:D}(f:rdN i ds=some p)(hm:p.isM C m=true)(g:rdN j ds=some x)(h:rdN l ds=some y)(e:rdN k ds=some w)(a:rdN l (ds.set k .u)=some y)(b:rdN j ((ds.set k .u).set l .u)=some x)(c:rdN i (((ds.set k .u).set l .u).set j .u)=some p)(r:R [p,x,y,w] d)(n:Au [.sl i,.sl j,.sl l,.sl k] [p,x,y,w] ((((ds.set k .u).set l .u).set j .u).set i .u)=some ds)(q:Q d ds):qz8 C m (Ay R) [] i (tbN j (tbN l (tbN k A5))) ds Q xe :=
 qI5 f hm (qc3 g (qc3 h (qc3 e (qa0 e (qa0 a (qa0 b (qa0 c (qf6 r (qa0 n q)))))))))
theorem qax5(h:ds[j]? = some d):ds.set j d=ds:=by
 obtain⟨a,e⟩:=zA4.mp h;rw[<- e];exact List.set_getElem_self a
theorem qg1(h:ds[i]? = some d)(a:d.known=true):rdN i ds=some d:=ql1.mpr ⟨h,a⟩
def Qe(ns:List Int)(b:D):Prop:=∃ x y z,b=bagD x y z ns/\Bg x y z ns
theorem Qe.known{b:D}(h:Qe ns b):b.known=true:=by obtain⟨x,y,z,rfl,_⟩:=h;rfl
def qM6:VSp:=λ ds Q _=>∃ b m ns,ds=[b,.int m]/\Qe ns b/\0 < m/\m < 2 ^ 200/\∀ v a,0<=v->v < m->Qe ns a->Q (.int v) [a,.int m]
theorem qd6{b:D}{m:Int}(d:ds[i]? = some b)(B:Qe ns b)(e:f ds=some (.int m))(g:0 < m)(h1:m < 2 ^ 200)(q:∀ v a,0<=v->v < m->Qe ns a->Q (.int v) (ds.set i a)):qk5 qM6 [] (tbN i (tbV (Eu f) A5)) ds Q xe:=by
 have c:=qg1 d B.known;refine qc3 c (qf1 e (qa0 c ⟨b,m,ns,rfl,B,g,h1,λ v a h j B'=>?_⟩));show Q (.int v) ((ds.set i .u).set i a);rw[Nx];exact q v a h j B'
theorem qv6{b:D}{m:Int}(f:ds[i]? = some b)(B:Qe ns b)(c:ds[j]? = some (.int m))(d:i≠j)(g:0 < m)(h1:m < 2 ^ 200)(q:∀ v a,0<=v->v < m->Qe ns a->Q (.int v) (ds.set i a)):qk5 qM6 [] (tbN i (tbN j A5)) ds Q xe:=by
 have h:=qg1 f B.known;have k:rdN j ds=some (.int m):=qg1 c rfl;have o:j < ds.length:=(zA4.mp c).1;refine qZ2 h k (qg1 (by rw[zBg (Ne.symm d)];exact f) B.known) ⟨b,m,ns,rfl,B,g,h1,λ v a l n B'=>?_⟩;show Q (.int v) ((((ds.set j .u).set i .u).set i a).set j (.int m));have e:(((ds.set j .u).set i .u).set i a).set j (.int m)=ds.set i a:=by
   rw[Nx,List.set_comm _ _ (Ne.symm d),Nx];exact qax5 (by rw[zBg d];exact c)
 rw[e];exact q v a l n B'
theorem K8{i j:Int}(h:small j=true):Jj (.int i) (.int j)=some (.int (i * j)):=qo4 (by rw[h,Bool.or_true])
theorem mulL{i j:Int}(h:small i=true):Jj (.int i) (.int j)=some (.int (i * j)):=qo4 (by rw[h,Bool.true_or])
theorem qaD9{i j:Int}(h:0 < j)(h1:j < 2 ^ 200):gDiv (.int i) (.int j)=some (.int (i / j)):=qo4 (by show (decide (0 < j)&&decide (j < 2 ^ 200))=true;rw[zAq h,zAq h1];rfl)
theorem Fh{x n:Int}(h:0 < n):Jk (.int x) (.int n)=some (.int (x % n)):=qo4 (zAq h)
theorem qaa9{i:Int}(h:-(2 ^ 64) < i)(h':i < 2 ^ 64):small i=true:=by unfold small;rw[zAq h,zAq h'];rfl
theorem Ft{z:Bool}{g:Nat->Option Int}(h:r < N):gIx (.l z (P5 N g)) (.int (r:Int))=some (Fs (g r)):=qai6 (qJ7 h)
theorem qF2{g:Nat->Option Int}(h:r < N):ixN (P5 N g).length (r:Int)=some r:=by
 rw[qz1];unfold ixN;simp[h]
theorem qw3{n:Nat}{g:Nat->Option Int}{c:Int}:(P5 n g).set i (.int c)=P5 n (Row.set g i c):=qH1 (o:=some c)
theorem qaA6(N:Nat):(Mr N [D.non]).flatten=P5 N (λ _=>none):=by
 unfold P5
 induction N with
 | zero=>rfl
 | succ N a=>rw[List.replicate_succ',List.flatten_append,a,Nb,zBc];rfl
theorem qP1{n:Int}(a:0<=n)(h1:n<=64):Jj (.l false [.non]) (.int n)=some (.l false (P5 n.toNat λ _=>none)):=by
 show gd _ _=_;rw[<- qaA6];exact qo4 ⟨rfl,by show 1 * n.toNat<=1000000;lia,by lia,by lia⟩
theorem ql8{g g':Nat->Option Int}(h:∀ i,i < N->g i=g' i):P5 N g=P5 N g':=by
 unfold P5;apply List.map_congr_left;intro i a;rw[h i (zAp.mp a)]
theorem qF6{g:VTG}{n:Int}(h:f ds=some (.int n))(a:Hc n=true)(k:Ey g t e (Bu 0 n.toNat) ds):qal5 (Js (tbV (Eu f) A5)) g t e ds:=by
 show orF (f ds) _;rw[h];exact⟨a,k⟩
theorem qao2{g:VTG}{n:Int}(h:rdN i ds=some (.int n))(a:Hc n=true)(k:Ey g t e (Bu 0 n.toNat) (ds.set i .u)):qal5 (Js (tbN i A5)) g t e ds:=by
 refine⟨by rw[h];rfl,?_⟩;exact qa0 h ⟨a,k⟩
theorem qad9{z:Bool}:gInB true (.int k) (.l z (P4 ks))=some (.bl (!decide (k∈ks))):=by
 show ((flats (P4 ks)).bind λ a=>some (D.bl (if true=true then !inV (.int k) a else inV (.int k) a)))=_;rw[qF7];show some (D.bl (!inV (.int k) (ks.map V.int)))=_;rw[qaC1]
theorem qI6(lo:Int)(n:Nat):(Bu lo n).length=n:=by unfold Bu;rw[zAf,zB4]
theorem qJ2(e:f ds=some d)(hi:d.imm=true)(q:Q d ds):Fd f ds Q xe:=qa0 (a:=d) (k:=λ(d:D)=>d.imm=true/\Q d ds) e ⟨hi,q⟩
theorem qw2(h:f ds=some d)(hi:d.imm=true)(q:e.nx (ds.set i d)):Fm (Fd f) (gNm i) e ds:=qJ2 (Q:=λ d a=>gNm i d a e.nx) h hi q
theorem qw1(h:f ds=some d)(q:e.nx (ds.set i d)):Fm (Eu f) (gNm i) e ds:=qu6 (Q:=λ d a=>gNm i d a e.nx) h q
theorem qau3{n:Nat}{K:Ds->Prop}(hi:ds[i]? = some (.l false ys))(b:fb ds=some (.int k))(c:ixN ys.length k=some n)(q:K (ds.set i (.l false (ys.set n d)))):Gz (λ _=>some (i,[])) fb d ds K:=by
 refine qa0 (a:=(i,([]:List Nat))) rfl ?_;refine qa0 (a:=ys) (by show (Ba ds i []).bind D.own=_;rw[qF5 hi];rfl) ?_;refine qa0 (a:=k) (by rw[b];rfl) ?_;refine qa0 c ?_;show K (Bj ds i [] (.l false (ys.set n d)));rw[qD5 hi];exact q
theorem qB7{n:Nat}(b:f ds=some d)(c:d.imm=true)(hi:ds[i]? = some (.l false ys))(g:fb ds=some (.int k))(h:ixN ys.length k=some n)(q:e.nx (ds.set i (.l false (ys.set n d)))):Fm (Fd f) (Gz (λ _=>some (i,[])) fb) e ds :=
 qJ2 (Q:=λ d a=>Gz (λ _=>some (i,[])) fb d a e.nx) b c (qau3 hi g h q)
theorem qB6{n:Nat}(b:f ds=some d)(hi:ds[i]? = some (.l false ys))(c:fb ds=some (.int k))(g:ixN ys.length k=some n)(q:e.nx (ds.set i (.l false (ys.set n d)))):Fm (Eu f) (Gz (λ _=>some (i,[])) fb) e ds :=
 qu6 (Q:=λ d a=>Gz (λ _=>some (i,[])) fb d a e.nx) b (qau3 hi c g q)
theorem qe3{K:Ds->List Pl->Ds->Prop}(c:f ds=some y)(hi:y.imm=true)(h:tr ds (λ xs ps a=>K (y::xs) (.no::ps) a) xe):tbV (Fd f) tr ds K xe:=qJ2 (Q:=λ y b=>tr b (λ xs ps a=>K (y::xs) (.no::ps) a) xe) c hi h
theorem qK9(hi:ds[i]? = some (.l false ys))(b:f ds=some d)(c:ys.length < big)(q:Q .non (ds.set i (.l false (ys++[d])))):F8 Hs i (tbV (Eu f) A5) ds Q xe:=by
 have e:(rdN i ds).bind D.own=some ys:=by rw[qg1 hi rfl];rfl
 refine⟨by rw[e];rfl,qf1 b ?_⟩;refine qa0 (k:=λ ys=>orF (Hs ys [d]) λ z=>Q z.2 (ds.set i (.l false z.1))) e ?_;exact qa0 (a:=(ys++[d],D.non)) (if_pos c) q
theorem qaP5(hi:ds[i]? = some (.l false ys))(b:ds[j]? = some d)(c:d.known=true)(f:i≠j)(g:ys.length < big)(q:Q .non ((ds.set j .u).set i (.l false (ys++[d])))):F8 Hs i (tbN j A5) ds Q xe:=by
 have e:(rdN i ds).bind D.own=some ys:=by rw[qg1 hi rfl];rfl
 have e2:(rdN i (ds.set j .u)).bind D.own=some ys:=by rw[qg1 (d:=.l false ys) (by rw[zBg (Ne.symm f)];exact hi) rfl];rfl
 refine⟨by rw[e];rfl,qc3 (qg1 b c) ?_⟩;refine qa0 (k:=λ d=>orF ((rdN i (ds.set j .u)).bind D.own) λ ys=>orF (Hs ys [d]) λ z=>Q z.2 ((ds.set j .u).set i (.l false z.1))) (qg1 b c) ?_;refine qa0 (k:=λ ys=>orF (Hs ys [d]) λ z=>Q z.2 ((ds.set j .u).set i (.l false z.1))) e2 ?_;exact qa0 (a:=(ys++[d],D.non)) (if_pos g) q
theorem qae2{g:Ds->Ds->Option (Ds×D)}{pf:PF}{p:List Nat}{d0:D}(h1:pf ds=some (i,p))(h2:(Ba ds i p).bind D.own=some ys)(a:ds[i]? = some d0)(h:tr (ds.set i .u) (λ xs _ ds1=>orF (g ys xs) λ z=>Q z.2 (Bj (ds1.set i d0) i p (.l false z.1))) xe):Gy g pf tr ds Q xe:=by
 unfold Gy;rw[h1];show orF ((Ba ds i p).bind D.own) _;rw[h2];show orF ds[i]? _;rw[a];exact h
theorem qaY1{f:Int->Int->Int}{b:FV}{x y:Int}(hi:ds[i]? = some (.l false ys))(c:fb ds=some (.int k))(d:0<=k)(g:ys[k.toNat]? = some (.int x))(h:b ds=some (.int y))(q:e.nx (ds.set i (.l false (ys.set k.toNat (.int (f x y)))))):sAugV f (λ _=>some (i,[])) fb b e ds:=by
 refine qa0 (a:=(i,([]:List Nat))) rfl ?_;refine qa0 (a:=ys) (by show (Ba ds i []).bind D.own=_;rw[qF5 hi];rfl) ?_;refine qa0 (a:=k) (by rw[c];rfl) ⟨d,?_⟩;refine qa0 (a:=x) (by rw[g];rfl) ?_;refine qa0 (a:=y) (by rw[h];rfl) ?_;show e.nx (Bj ds i [] _);rw[qD5 hi];exact q
theorem Go(b:Bool)(h:fa ds=some (.bl b))(h1:b=true->tb ds Q xe)(h2:b=false->Q (.bl false) ds):Ix (Eu fa) tb ds Q xe :=
 qu6 (xe:=xe) (Q:=λ x ds=>orF x.asB λ k=>if k=true then tb ds Q xe else Q (.bl false) ds) h (ite_b h1 h2)
theorem qq1{K:Ds->Prop}(h:K (ds.set i d)):gNm i d ds K:=h
theorem qc4{K:Ds->List Pl->Ds->Prop}(h:K [] [] ds):A5 ds K xe:=h
theorem qz3(h:te ds (λ _ a=>e.nx a) e.xe):sExpr te e ds:=h
theorem qF4{K:Ds->Prop}(h:K ((ds.set i x).set j y)):gTupV 2 (qaC8 (gNm i) (qaC8 (gNm j) gNilV)) (.q [x,y]) ds K:=⟨rfl,h⟩
theorem qaj4{Q:Bool->Ds->Prop}(h:Q true ds):qYes ds Q xe:=h
theorem qI9:P4 S++[.int k]=P4 (S++[k]):=by unfold P4;rw[zBc];rfl
theorem qaF4{a:VTB}{K:Ds->List Pl->Ds->Prop}(h:tr ds (λ xs _ ds1=>xs.length<=big/\a ds1 (λ ys c b=>K (.q xs::ys) (.no::c) b) xe) xe):tbV (Hr tr) a ds K xe:=h
theorem qi3{K:Ds->List Pl->Ds->Prop}(h:ta ds (λ x ds1=>tr ds1 (λ xs ps a=>K (x::xs) (.no::ps) a) xe) xe):tbV ta tr ds K xe:=h
theorem qar0(a:fa ds=some x)(b:fb ds=some y)(c:x.imm=true)(d:y.imm=true):Bd gTup (Bc fa (Bc fb λ _=>some [])) ds=some (.q [x,y]):=by
 unfold Bd Bc;rw[a,b];show gd (D.imms [x,y]=true/\[x,y].length<=big) (.q [x,y])=_;refine qo4 ⟨?_,by show 2<=1000000;decide⟩;show (x.imm&&(y.imm&&true))=true;rw[c,d];rfl
theorem qU6:Fw ys none (some (r:Int))=ys.take r:=by
 unfold Fw;have a:HT.sIx ys.length ys.length (some ((r:Nat):Int))=min r ys.length:=HT.qar7 _ _ r;rw[a,HT.qab9,Nd,Nat.sub_zero];by_cases h:r<=ys.length
 . rw[Nat.min_eq_left h]
 rw[Nat.min_eq_right (by lia),M4,zAs (by lia)]
theorem qaW6(h:y∈enD ys):∃ i v,y=.q [.int (i:Nat),v]/\ys[i]? = some v:=by
 obtain⟨⟨v,i⟩,a,rfl⟩:=zBb.mp h;exact⟨i,v,rfl,List.mem_zipIdx_iff_getElem?.mp a⟩
theorem qay2{g:Nat->Option Int}(h:d∈P5 N g):d=.non∨∃ k,d=.int k:=by
 unfold P5 at h;obtain⟨i,_,rfl⟩:=zBb.mp h;cases g i with
 | none=>exact .inl rfl
 | some k=>exact .inr ⟨k,rfl⟩
theorem qal6{g:D->D->Option D}{Q:Bool->Ds->Prop}(h:ta ds (λ x ds1=>orF ((fb ds1).bind (g x)) λ d=>orF d.asB λ b=>Q b ds1) xe):ttE (t2v g ta fb) ds Q xe:=h
theorem qk3(h:tr ds (λ xs ps ds1=>s (xs++[]) (λ d ys=>orF (Au ps ys ds1) λ a=>Q d a) (λ x ys=>orF (Au ps ys ds1) λ a=>xe x a)) xe):qk5 s [] tr ds Q xe:=h
theorem eq_rl:∀(l:Ds),(∀ d∈l,d=.non∨∃ k,d=.int k)->Ge (eqN 20) l l=some true
 | [],_=>rfl
 | d::l,h=>by
   have c:eqN 20 d d=some true:=by
     rcases h d zAa with rfl | ⟨k,rfl⟩
     . rfl
     show some (k == k)=_;rw[zAw]
   show ((eqN 20 d d).bind λ a=>(Ge (eqN 20) l l).bind λ b=>some (a&&b))=_;rw[c,eq_rl l λ x e=>h x (zA6 _ e)];rfl
theorem qan9{z z':Bool}{g g':Nat->Option Int}(h:∀ i,i < N->g i=g' i):gEq (.l z (P5 N g)) (.l z' (P5 N g'))=some (.bl true):=by
 rw[ql8 h];show (Ge (eqN 20) (P5 N g') (P5 N g')).map D.bl=_;rw[eq_rl _ λ _=>qay2];rfl
theorem qM0{g:D->D->Option D}(c:fa ds=some x)(h:tb ds (λ y a=>orF (g x y) λ d=>Q d a) xe):t2 g (Eu fa) tb ds Q xe:=qu6 (xe:=xe) (Q:=λ x b=>tb b (λ y a=>orF (g x y) λ d=>Q d a) xe) c h
theorem qt9{g:D->D->Option D}(h:ta ds (λ x ds1=>orF ((fb ds1).bind (g x)) λ d=>Q d ds1) xe):t2v g ta fb ds Q xe:=h
theorem qaG0{g:D->D->Option D}(h:ta ds (λ x ds1=>orF (fb ds1) λ y=>y.imm=true/\orF (g x y) λ d=>Q d ds1) xe):Kl g ta fb ds Q xe:=h
theorem qB1(h:tr ds (λ xs _ ds1=>xs.length<=big/\Q (.l false xs) ds1) xe):tLstV tr ds Q xe:=h
theorem qe5(h:te ds (λ d a=>e.nx (a.set i d)) e.xe):Fm te (gNm i) e ds:=h
theorem K9(h:ta ds (λ x ds1=>orF x.asB λ k=>if k=true then tb ds1 Q xe else Q (.bl false) ds1) xe):Ix ta tb ds Q xe:=h
theorem qat3{C:γ}(h:tr ds (λ xs ps ds1=>s (.ins false C []::(xs++[])) (λ d ys=>d.isN=some true/\orF ys.head? λ self=>orF (Au ps ys.tail ds1) λ a=>Q self a) (λ x ys=>orF (Au ps ys.tail ds1) λ a=>xe x a)) xe):qL9 C s [] tr ds Q xe:=h
theorem fz_to(h:te ds (λ d ds1=>Q d.fz ds1) xe):tFzV te ds Q xe:=h
def okN:Nat->D->Bool
 | n+1,.l _ xs=>xs.all (okN n)
 | n+1,.q xs=>xs.all (okN n)
 | _,x=>x.d0||x.flat.isSome
theorem qq3{f:D->D->Option Bool}:∀{xs:List D},(∀ x∈xs,f x x=some true)->Ge f xs xs=some true
 | [],_=>rfl
 | x::xs,h=>by
   show ((f x x).bind λ a=>(Ge f xs xs).bind λ b=>some (a&&b))=_;rw[h x zAa,qq3 λ y c=>h y (zA6 _ c)];rfl
theorem qQ1(h:(x.d0||x.flat.isSome)=true):eqZ x x=some true:=by
 unfold eqZ;split
 . rfl
 rename_i hn
 have a:x.d0=false:=by
   cases e:x.d0 with
   | false=>rfl
   | true=>rw[e] at hn;exact absurd rfl hn
 rw[a,Bool.false_or] at h;cases x with
 | non=>rfl
 | bl b=>show some (eqV (.bl b) (.bl b))=_;rw[qz4 rfl]
 | int i=>show some (eqV (.int i) (.int i))=_;rw[qz4 rfl]
 | str i=>show some (eqV (.str i) (.str i))=_;rw[qz4 rfl]
 | _=>cases h
theorem qF9:∀{n:Nat}{x:D},okN n x=true->eqN n x x=some true
 | 0,x,h=>by
   rw[qQ2];refine qQ1 ?_;cases x<;>exact h
 | n+1,x,h=>by
   cases x with
   | l z b=>exact qq3 λ y a=>qF9 (zBd.mp h y a)
   | q b=>exact qq3 λ y a=>qF9 (zBd.mp h y a)
   | _=>exact qQ1 h
theorem qaC7(h:okN 21 x=true):gNe x x=some (.bl false):=by
 have e:eqT x x=some true:=by
   cases x with
   | l z b=>exact qq3 λ y a=>qF9 (zBd.mp h y a)
   | q b=>exact qq3 λ y a=>qF9 (zBd.mp h y a)
   | _=>exact qQ1 h
 unfold gNe;rw[e];rfl
theorem qaX5{src:List (Option Nat)}{g:VTG}{qf:VTT}(h:tr ds (λ xs _ ds1=>orF (Kv xs) λ j=>Hc j=true/\G2 src g qf te (Bu 0 j.toNat) ds1 Q) xe):tCR1 src (Js tr) g qf te ds Q xe:=h
theorem qan3(h:(P4 ks)[i]? = some y):∃ z,ks[i]? = some z/\y=.int z:=by
 unfold P4 at h;rw[zB8] at h;cases e:ks[i]? with
 | none=>rw[e] at h;cases h
 | some z=>rw[e] at h;exact⟨z,rfl,(Oy h).symm⟩
theorem qk7(h:ks[i]? = some k):ks.take (i+1)=ks.take i++[k]:=by rw[Mx,h];rfl
theorem qy6(b:ks.Nodup)(h:ks[i]? = some k):¬ k∈ks.take i:=λ z=>by
 obtain⟨j,a⟩:=List.getElem?_of_mem z;rw[List.getElem?_take] at a;split at a
 . rename_i hlt
   obtain⟨d,c⟩:=zA4.mp h;obtain⟨e,e2⟩:=zA4.mp a
   have:=(N2 b).mp (e2.trans c.symm)
   lia
 cases a
theorem qag9:∀ ps:Pr,D.fzs (P7 ps)=P7 ps
 | []=>rfl
 | p::r=>congrArg (D.q [.int p.1,.int p.2]::·) (qag9 r)
theorem qaN9:∀ ps:Pr,D.fzk (kvD ps)=kvD ps
 | []=>rfl
 | p::r=>congrArg ((Sum.inl p.1,D.int p.2)::·) (qaN9 r)
theorem qaO0{z:Bool}{C:γ}{n:Int}{wr:Bool}{ps:Pr}:(Ac z C n wr ps).fz=Ac true C n wr ps:=by
 show D.ins true C [("rooms",.int n),("wraps",.bl wr),("homes",.l true (D.fzs (P7 ps))),("home_numbers",.dct true (D.fzk (kvD ps)))]=_;rw[qag9,qaN9];rfl
theorem qaX2{z:Bool}{T:List Int}{lo hi:FO}{l h:Option Int}(a:rdN i ds=some (.l z (P4 S)))(h1:lo ds=some l)(h2:hi ds=some h)(e:Fw (P4 S) l h=P4 T):fsl (rdN i) lo hi ds=some (.l false (P4 T)):=by
 unfold fsl;rw[a,Option.bind_some,h1,Option.bind_some,h2,Option.bind_some,if_pos (show noT (D.l z (P4 S))=true from rfl)];show gd (D.imms (Fw (P4 S) l h)=true) (D.l false (Fw (P4 S) l h))=_;rw[e];exact qo4 (qk2 T)
theorem qaP9{z z':Bool}{A B:List Int}(h:A.length+B.length<=1000):Ji (.l z (P4 A)) (.l z' (P4 B))=some (.l false (P4 (A++B))):=by
 show gd _ (D.l false (P4 A++P4 B))=_;rw[show P4 (A++B)=P4 A++P4 B from zBc];exact qo4 ⟨qk2 A,qk2 B,by rw[qh0,qh0];unfold big;lia⟩
theorem co_to{gc:Ds->Option D}(h:tr ds (λ xs _ ds1=>orF (gc xs) λ d=>Q d ds1) xe):tcO gc (Js tr) ds Q xe:=h
theorem qav3{g:VTG}{qf:VTT}{te:VT}{K:Ds->Ds->Prop}(I:Nat->Ds->Ds->Prop):∀(xs:Ds)(i:Nat)(acc l:Ds),I i acc l->(∀(j:Nat)(x:D),xs[j]? = some x->∀ acc l,I (i+j) acc l->∀ R:Ds->Ds->Prop,(∀ acc' l',I (i+j+1) acc' l'->R acc' l')->g x l λ ι1=>qf ι1 (λ b ι2=>if b=true then te ι2 (λ d ι3=>acc.length < big/\R (acc++[d]) ι3) (λ _ _=>False) else R acc ι2) (λ _ _=>False))->(∀ acc l,I (i+xs.length) acc l->K acc l)->Fy g qf te K xs acc l
 | [],_,acc,l,h,_,hn=>hn acc l h
 | x::xs,i,acc,l,h,hs,hn=>hs 0 x rfl acc l h _ λ acc' l' c=>qav3 I xs (i+1) acc' l' c (λ j y e acc2 ι2 a R f=>hs (j+1) y e acc2 ι2 (by rw[show i+(j+1)=i+1+j by lia];exact a) R λ acc3 ι3 k=>f acc3 ι3 (by rw[show i+1+j+1=i+(j+1)+1 by lia];exact k)) λ acc2 ι2 a=>hn acc2 ι2 (by rw[zAm,show i+(xs.length+1)=i+1+xs.length by lia];exact a)
theorem qR1{l m n:Int}(h1:l<=n)(h2:n<=m):(D.int n).within l m=true:=by
 show (decide (l<=n)&&decide (n<=m))=true;rw[zAq h1,zAq h2];rfl
theorem qQ8{p:List Nat}{w:V}{ps:List Pl}(h:Ba ds i p=some (.hole w)):Au (.pl i p w::ps) (y::ys) ds=Au ps ys (Bj ds i p y):=by
 show (match Ba ds i p with | some (.hole a)=>if a=w then Au ps ys (Bj ds i p y) else none | _=>none)=_;rw[h];exact if_pos rfl
theorem qB2{C:γ}(a:rdN i ds=some p)(hm:p.isM C m=true)(r:R [p] d)(b:Au [.sl i] [p] (ds.set i .u)=some ds)(q:Q d ds):qz8 C m (Ay R) [] i A5 ds Q xe :=
 qI5 a hm (qc4 (qa0 a (qf6 r (qa0 b q))))
theorem qZ8(h:tr ds (λ xs _ ds1=>xs.length<=big/\Q (.q xs) ds1) xe):Hr tr ds Q xe:=h
theorem qaG1{g:D->D->Option D}(h:ta ds (λ x ds1=>tb ds1 (λ y a=>orF (g x y) λ d=>Q d a) xe) xe):t2 g ta tb ds Q xe:=h
theorem qaQ8(h:rdN i ds=some d)(q:Q d.fz (ds.set i d.fz)):tFz i ds Q xe:=qa0 h q
def Ag(n:Int)(wr:Bool)(ps:Pr):D:=.q [.int n,.bl wr,.l true (P7 ps)]
theorem qav8(hi:ds[i]? = some (.l false ys))(b:f ds=some d)(c:d.imm=true)(g:ys.length < big)(q:Q .non (ds.set i (.l false (ys++[d])))):F8 Hs i (tbV (Fd f) A5) ds Q xe:=by
 have e:(rdN i ds).bind D.own=some ys:=by rw[qg1 hi rfl];rfl
 refine⟨by rw[e];rfl,qe3 b c ?_⟩;refine qa0 (k:=λ ys=>orF (Hs ys [d]) λ z=>Q z.2 (ds.set i (.l false z.1))) e ?_;exact qa0 (a:=(ys++[d],D.non)) (if_pos g) q
local macro_rules | `(tactic| walk_at "s")=>`(tactic| exact⟨rfl,rfl,rfl,by decide +kernel,rfl,by decide +kernel,by decide +kernel⟩)
local macro_rules | `(tactic| walk_at "m")=>`(tactic| (intro _ _ _ _ _ k l;repeat' first | exact id | exact k _ _ | exact l _ _ | refine Exists.imp λ _=>?_ | refine And.imp ?_ ?_ | refine Or.imp ?_ ?_ | refine forall_imp λ _=>?_))
local macro_rules | `(tactic| walk_at "l")=>`(tactic| (intro _ _ _ h;(repeat (first | refine Exists.elim h λ _ h=>?_ | refine And.elim (λ h _=>?_) h));rw[h];exact⟨rfl,rfl⟩))
theorem lt2:2<=big:=by show 2<=1000000;decide
theorem lt3:3<=big:=by show 3<=1000000;decide
theorem lt4:4<=big:=by show 4<=1000000;decide
noncomputable def top(i:Nat):Mb:=PySem.Challenge.pw_homeward_k32_takes_draw_back.main.body.getD i (.Pass ⟨0,0,0,0⟩)
abbrev qar6:Mb:=top 0
abbrev qh9:Mb:=qi7 (top 6) 0
abbrev qw9:Mb:=top 17
abbrev qf3:Mb:=top 18
abbrev qr8:Mb:=top 19
abbrev qn8:Mb:=top 20
abbrev qg4:Mb:=top 21
abbrev qj1:Mb:=top 22
abbrev qs1:Mb:=qi7 (top 23) 0
abbrev qj3:Mb:=qi7 (top 23) 2
abbrev qs2:Mb:=qi7 (top 23) 4
abbrev qx5:Mb:=qi7 (top 23) 5
abbrev qf4:Mb:=qi7 (top 23) 6
abbrev qn7:Mb:=top 25
abbrev qe0:Mb:=top 26
abbrev qw8:Mb:=top 27
abbrev qr7:Mb:=top 28
abbrev qx0:Mb:=top 29
abbrev qs0:Mb:=top 31
abbrev qj2:Mb:=top 32
abbrev qj0:Mb:=top 33
abbrev qx1:Mb:=top 34
abbrev qk9:Mb:=top 36
abbrev qh7:Mb:=top 37
abbrev qr9:Mb:=top 38
abbrev qx4:Mb:=qi7 (top 39) 0
abbrev qg5:Mb:=qi7 (top 39) 1
abbrev qh8:Mb:=qi7 (top 39) 2
abbrev qx3:Mb:=qi7 (top 39) 3
abbrev ql0:Mb:=qi7 (top 39) 4
abbrev qD8:Mb:=qi7 (top 39) 5
abbrev qx2:Mb:=qi7 (top 39) 6
abbrev qN6:Mb:=top 41
abbrev qax8:Mb:=top 42
abbrev qab5:Mb:=top 43
abbrev qab7:Mb:=top 44
abbrev qax7:Mb:=top 45
abbrev qx6:Mb:=top 46
abbrev qD9:Mb:=top 47
abbrev qj4:Mb:=top 48
abbrev qO0:Mb:=top 49
abbrev qx7:Mb:=top 50
abbrev qab6:Mb:=top 51
abbrev qN7:Mb:=top 52
abbrev qN9:Mb:=top 53
abbrev qab4:Mb:=top 54
abbrev qab8:Mb:=top 55
abbrev qN8:Mb:=top 56
abbrev Ht:Mb:=top 57
set_option genInjectivity false in
set_option genSizeOf false in
structure Adr where
 f0:γ
 d0:ε
 f1:γ
 d1:ε
 f2:γ
 d2:ε
 f3:γ
 d3:ε
 f4:γ
 d4:ε
 f5:γ
 d5:ε
 f6:γ
 d6:ε
 f7:γ
 d7:ε
 f8:γ
 d8:ε
 f9:γ
 d9:ε
 f10:γ
 d10:ε
 f11:γ
 d11:ε
 f12:γ
 d12:ε
 f13:γ
 d13:ε
 f14:γ
 d14:ε
 f15:γ
 d15:ε
 f16:γ
 d16:ε
 f17:γ
 d17:ε
 f18:γ
 d18:ε
 f19:γ
 d19:ε
 f20:γ
 d20:ε
 f21:γ
 d21:ε
 f22:γ
 d22:ε
 f23:γ
 d23:ε
 f24:γ
 d24:ε
 f25:γ
 d25:ε
 f26:γ
 d26:ε
 f27:γ
 d27:ε
 f28:γ
 d28:ε
 f29:γ
 d29:ε
 f30:γ
 d30:ε
 f31:γ
 d31:ε
 f32:γ
 d32:ε
 f33:γ
 d33:ε
 f34:γ
 d34:ε
 f35:γ
 d35:ε
 f36:γ
 d36:ε
 f37:γ
 d37:ε
 f38:γ
 d38:ε
 f39:γ
 d39:ε
 f40:γ
 d40:ε
 f41:γ
 d41:ε
 f42:γ
 d42:ε
 f43:γ
 d43:ε
 f44:γ
 d44:ε
 f45:γ
 d45:ε
 f46:γ
 d46:ε
 f47:γ
 d47:ε
 f48:γ
 d48:ε
 Cj:Tok
 Co:Tok
 Cp:Tok
 Ca:γ
 Cg:γ
 Cv:γ
 Dl:γ
 Dh:γ
 Dk:γ
 Cc:γ
 Dg:γ
 Db:γ
 De:γ
 Di:γ
 Dc:γ
 Cy:γ
structure Txt(K:O0)(mg:Str->Option V')(a:Adr):Prop where
 d0:Df K mg "_wall" "_wall" qar6 a.f0 a.d0 ["k"]
 d1:Md K a.Cc "__init__" "NotThere.__init__" qh9 a.f1 a.d1 ["self", "key"]
 d2:Df K mg "is_whole" "is_whole" qw9 a.f2 a.d2 ["thing"]
 d3:Df K mg "is_whole_within" "is_whole_within" qf3 a.f3 a.d3 ["thing", "least", "most"]
 d4:Df K mg "is_number" "is_number" qr8 a.f4 a.d4 ["thing"]
 d5:Df K mg "are_parted" "are_parted" qn8 a.f5 a.d5 ["numbers"]
 d6:Df K mg "is_number_pair" "is_number_pair" qg4 a.f6 a.d6 ["thing"]
 d7:Df K mg "is_home_list" "is_home_list" qj1 a.f7 a.d7 ["thing"]
 d8:Md K a.Ca "__init__" "Plan.__init__" qs1 a.f8 a.d8 ["self", "rooms", "wraps", "homes"]
 d9:Md K a.Ca "is_room" "Plan.is_room" qj3 a.f9 a.d9 ["self", "thing"]
 d10:Md K a.Ca "home" "Plan.home" qs2 a.f10 a.d10 ["self", "key"]
 d11:Md K a.Ca "far" "Plan.far" qx5 a.f11 a.d11 ["self", "key", "room"]
 d12:Md K a.Ca "goes_ahead" "Plan.goes_ahead" qf4 a.f12 a.d12 ["self", "room", "one", "other"]
 d13:Df K mg "room_ahead" "room_ahead" qn7 a.f13 a.d13 ["plan", "room"]
 d14:Df K mg "word_by_room_ahead" "word_by_room_ahead" qe0 a.f14 a.d14 ["plan", "rooms", "room"]
 d15:Df K mg "word_due" "word_due" qw8 a.f15 a.d15 ["plan", "rooms", "room"]
 d16:Df K mg "is_turned" "is_turned" qr7 a.f16 a.d16 ["plan", "rooms"]
 d17:Df K mg "fault_of" "fault_of" qx0 a.f17 a.d17 ["plan", "rooms"]
 d18:Df K mg "are_crowd" "are_crowd" qs0 a.f18 a.d18 ["plan", "keys", "room"]
 d19:Df K mg "crowded_room" "crowded_room" qj2 a.f19 a.d19 ["plan", "keys"]
 d20:Df K mg "refuse_crowd" "refuse_crowd" qj0 a.f20 a.d20 ["plan", "keys"]
 d21:Df K mg "bring_in" "bring_in" qx1 a.f21 a.d21 ["plan", "rooms", "key"]
 d22:Df K mg "room_behind" "room_behind" qk9 a.f22 a.d22 ["plan", "room"]
 d23:Df K mg "is_drawn_from" "is_drawn_from" qh7 a.f23 a.d23 ["plan", "rooms", "room"]
 d24:Df K mg "draw_back" "draw_back" qr9 a.f24 a.d24 ["plan", "rooms", "room"]
 d25:MdN K a.Cg "__init__" "Row.__init__" qx4 a.f25 a.d25 ["self", "plan", "rooms"]
 d26:Md K a.Cg "rooms_held" "Row.rooms_held" qg5 a.f26 a.d26 ["self"]
 d27:Md K a.Cg "keys_held" "Row.keys_held" qh8 a.f27 a.d27 ["self"]
 d28:Md K a.Cg "many" "Row.many" qx3 a.f28 a.d28 ["self"]
 d29:Md K a.Cg "room_of" "Row.room_of" ql0 a.f29 a.d29 ["self", "key"]
 d30:Md K a.Cg "put" "Row.put" qD8 a.f30 a.d30 ["self", "key"]
 d31:Md K a.Cg "take" "Row.take" qx2 a.f31 a.d31 ["self", "key"]
 d32:Df K mg "_law_whole" "_law_whole" qN6 a.f32 a.d32 ["_law_found"]
 d33:Df K mg "_law_bag" "_law_bag" qax8 a.f33 a.d33 ["_law_script"]
 d34:Df K mg "_law_take" "_law_take" qab5 a.f34 a.d34 ["_law_bag_here", "_law_many"]
 d35:Df K mg "_law_home" "_law_home" qab7 a.f35 a.d35 ["_law_plan", "_law_key"]
 d36:Df K mg "_law_far" "_law_far" qax7 a.f36 a.d36 ["_law_plan", "_law_key", "_law_room"]
 d37:Df K mg "_law_passing" "_law_passing" qx6 a.f37 a.d37 ["_law_plan", "_law_keys"]
 d38:Df K mg "_law_housed" "_law_housed" qD9 a.f38 a.d38 ["_law_plan", "_law_keys"]
 d39:Df K mg "_law_drawn_homes" "_law_drawn_homes" qj4 a.f39 a.d39 ["_law_bag_here", "_law_size", "_law_many"]
 d40:Df K mg "_law_drawn" "_law_drawn" qO0 a.f40 a.d40 ["_law_bag_here", "_law_most"]
 d41:Df K mg "_law_fitting" "_law_fitting" qx7 a.f41 a.d41 ["_law_plan", "_law_keys"]
 d42:Df K mg "_law_sort" "_law_sort" qab6 a.f42 a.d42 ["_law_e"]
 d43:Df K mg "_law_taken" "_law_taken" qN7 a.f43 a.d43 ["_law_plan", "_law_held", "_law_key"]
 d44:Df K mg "_law_pairs" "_law_pairs" qN9 a.f44 a.d44 ["_law_found"]
 d45:Df K mg "_law_told" "_law_told" qab4 a.f45 a.d45 ["_law_row", "_law_key"]
 d46:Df K mg "_law_gone" "_law_gone" qab8 a.f46 a.d46 ["_law_row", "_law_key"]
 d47:Df K mg "_law_right" "_law_right" qN8 a.f47 a.d47 ["_law_row", "_law_plan", "_law_left", "_law_key"]
 d48:Df K mg "law" "law" Ht a.f48 a.d48 ["_law_script"]
 Dm:mg "MOST_NUMBER" = some (.int 1000000000000000000 a.Cj)
 Dq:mg "MOST_ROOMS" = some (.int 64 a.Co)
 Dt:mg "MOST_HOMES" = some (.int 64 a.Cp)
 Dn:mg "ValueError" = none
 Em:mg "abs" = none
 Ek:mg "all" = none
 E3:mg "bool" = none
 Ee:mg "dict" = none
 Dw:mg "enumerate" = none
 E9:mg "int" = none
 Cb:mg "isinstance" = none
 Cq:mg "len" = none
 Cw:mg "list" = none
 El:mg "max" = none
 Ed:mg "min" = none
 Cr:mg "range" = none
 En:mg "set" = none
 E6:mg "sorted" = none
 Dp:mg "tuple" = none
 Cd:Cl K mg "Plan" a.Ca
 Eh:Mk K a.Ca a.f8
 Ce:qd5 K a.Ca "rooms"
 Ci:qd5 K a.Ca "wraps"
 Dr:qd5 K a.Ca "homes"
 Ck:qd5 K a.Ca "home_numbers"
 Ej:IsO K a.Ca
 Cf:Cl K mg "Row" a.Cg
 E7:Mk K a.Cg a.f25
 Cs:qd5 K a.Cg "plan"
 Ch:qd5 K a.Cg "held"
 D1:qd5 K a.Cg "done"
 Dv:mg "HomeError" = some (.ref a.Cv)
 Do:Exc K a.Cv
 Ef:mg "Wrong" = some (.ref a.Dl)
 E5:mg "NoRoom" = some (.ref a.Dh)
 Ei:mg "There" = some (.ref a.Dk)
 D2:mg "NotThere" = some (.ref a.Cc)
 Cu:Exc K a.Cc
 E2:O1 K (.ref a.Cc) (.type "ValueError")=some true
 Dy:MkE K a.Cc a.f1
 Ct:qd5 K a.Cc "key"
 Dx:IsX K a.Cc
 D8:O1 K (.ref a.Cc) (.ref a.Dl)=some false
 D3:O1 K (.ref a.Cc) (.ref a.Dh)=some false
 D9:O1 K (.ref a.Cc) (.ref a.Dk)=some false
 D5:O1 K (.ref a.Cc) (.ref a.Dg)=some false
 D7:O1 K (.ref a.Cc) (.ref a.Db)=some false
 D4:O1 K (.ref a.Cc) (.ref a.De)=some false
 Da:O1 K (.ref a.Cc) (.ref a.Di)=some false
 D6:O1 K (.ref a.Cc) (.ref a.Dc)=some false
 Cz:O1 K (.ref a.Cc) (.ref a.Cy)=some false
 Du:W.mroIn K a.Cc (.ref a.Cv)=some true
 D0:W.mroIn K a.Cc (.ref a.Cc)=some true
 Ea:mg "Unkept" = some (.ref a.Dg)
 Eb:mg "Unlike" = some (.ref a.Db)
 E8:mg "NoText" = some (.ref a.De)
 Eg:mg "NoRow" = some (.ref a.Di)
 Ec:mg "NoPlan" = some (.ref a.Dc)
 E4:mg "TooMany" = some (.ref a.Cy)
section
variable{P:L7}{w:L9}{K:O0}{mg:Str->Option V'}{base:Heap}{a:Adr}
theorem qX3:qa8 ["thing"] ["thing"] (qa3 qw9):=by walk_at "s"
def qW4:VSp:=B6 (fx1 λ x=>x.kind.map λ _=>.bl x.whole)
theorem qX8(T:Txt K mg a):VFn P w K mg base 1 a.f2 a.d2 ["thing"] qW4:=by
 refine VFn.mk' T.d2.F qX3 (wOf [true]) qv3 (λ _ _ _=>qaf2) (λ _ _ _=>imm1) (λ _ _ _ _ _ _ _ c=>⟨_,(Aj (Aq (qa4 (vand (vbi qf8 qu8.ops T.Cb (qa2 (vnm 0) (qa2 (vty "int" T.E9) qa6 rfl) rfl)) (Kq (vnot (vbi qf8 qu8.ops T.Cb (qa2 (vnm 0) (qa2 (vty "bool" T.E3) qa6 rfl) rfl)))))))),λ f Q g h=>?_⟩);obtain⟨x,d,rfl,e,q⟩:=K6 h;obtain⟨t,b,rfl⟩:=zAh.mp e;cases x<;>first | exact q | cases b
theorem qr2:qa8 ["thing", "least", "most"] ["thing", "least", "most"] (qa3 qf3):=by walk_at "s"
def qq8:VSp:=B6 (fx3 λ x l m=>x.kind.bind λ _=>l.asI.bind λ i=>m.asI.map λ j=>.bl (x.within i j))
theorem qe9(T:Txt K mg a):VFn P w K mg base 2 a.f3 a.d3 ["thing", "least", "most"] qq8:=by
 refine VFn.mk' T.d3.F qr2 (wOf [true,true,true]) qv3 (λ _ _ _=>qaM5) (λ _ _ _=>imm3) (λ _ _ _ _ _ _ _ b=>⟨_,(Aj (Aq (Fx (Ak T.d2 (qX8 T) qa1 (rm b) (vaN 0 Ad)) (Hn (qa4 (vch op_le os_le op_le os_le (vnm 1) (vnm 0) (vnm 2))))))),λ o Q p h=>?_⟩);obtain⟨x,l,m,d,rfl,e,q⟩:=pure3 h;obtain⟨t,c,e⟩:=zA1.mp e;obtain⟨i,f,e⟩:=zA1.mp e;obtain⟨j,g,rfl⟩:=zAh.mp e;cases l<;>cases f
 cases m<;>cases g
 cases x with
 | int n =>
   refine⟨rfl,?_⟩;show orF (f3 gLe gLe (rdN 1) (rdN 0) (rdN 2) [.int n,.int i,.int j]) _;have k:f3 gLe gLe (rdN 1) (rdN 0) (rdN 2) [.int n,.int i,.int j]=some (.bl (decide (i<=n)&&decide (n<=j))):=by
     show (if decide (i<=n)=true then some (D.bl (decide (n<=j))) else some (.bl false))=_;cases decide (i<=n)<;>rfl
   rw[k];exact q
 | _=>first | exact⟨rfl,q⟩ | cases c
theorem qH3:qa8 ["numbers"] ["numbers"] (qa3 qn8):=by walk_at "s"
def qG8:VSp:=Ay λ ds d=>∃ z ks,ds=[.l z (P4 ks)]/\ks.length<=1000/\d=.bl (decide ks.Nodup)
theorem qI0(T:Txt K mg a):VFn P w K mg base 1 a.f5 a.d5 ["numbers"] qG8:=by
 refine VFn.mk2 T.d5.F qH3 (wOf [true]) qb1 (by walk_at "l") (λ _ _ _ _ _ _ _ e=>⟨_,(Aj (Aq (qa4 (v2 (A6 (qi0 e.u64) (qb2 _)) Bf (vlenS T.Cq T.En (vnm 0)) (vbi qq5 qq4.ops T.Cq (qa2 (vnm 0) qa6 rfl)))))),λ j Q k h=>?_⟩);obtain⟨d,⟨z,b,rfl,f,rfl⟩,q⟩:=h;have g:f1 Jb (rdN 0) [.l z (P4 b)]=some (.int (ql7 b)):=by
   show ((intsD (P4 b)).bind λ c=>gd (c.length<=1000) (.int (ql7 c)))=_;rw[qau0];exact qo4 f
 have e2:f2 gEq (f1 Jb (rdN 0)) (Bd (fx1 Hw) (Bc (rdN 0) λ x=>some [])) [.l z (P4 b)]=some (.bl (decide b.Nodup)):=by
   show ((f1 Jb (rdN 0) [.l z (P4 b)]).bind λ x=>gEq x (.int (P4 b).length))=_;rw[g,qh0];show some (D.bl ((ql7 b:Int) == (b.length:Int)))=_
   have:=qQ3 b
   by_cases h:b.Nodup
   . rw[zAq h,this.mpr h,zAw]
   have i:¬ ((ql7 b:Int)=(b.length:Int)):=λ z=>h (this.mp (by exact_mod_cast z))
   rw[zBj h,beq_false_of_ne i]
 exact qa0 e2 q
theorem qN1:qa8 ["thing"] ["thing"] (qa3 qr8):=by walk_at "s"
def qn4:VSp:=B6 (fx1 λ x=>x.kind.map λ _=>.bl x.num)
theorem qc6(T:Txt K mg a):VFn P w K mg base 3 a.f4 a.d4 ["thing"] qn4:=by
 refine VFn.mk' T.d4.F qN1 (wOf [true]) qv3 (λ _ _ _=>qaf2) (λ _ _ _=>imm1) (λ _ _ _ _ _ _ _ b=>⟨_,(Aj (Aq (Ak T.d3 (qe9 T) qa1 (rm b) (vaN 0 (vaV (qa4 Af) (vaV (qa4 (vgi T.Dm)) Ad)))))),λ f Q g h=>?_⟩);obtain⟨x,d,rfl,e,q⟩:=K6 h;obtain⟨t,c,rfl⟩:=zAh.mp e;cases x<;>first | exact⟨rfl,q⟩ | cases c
theorem qu2:qa8 ["thing"] ["thing"] (qa3 qg4):=by walk_at "s"
def _root_.LV.D.pairB:D->Bool
 | .q [x,y]=>x.num&&y.num
 | _=>false
def _root_.LV.D.kinded:D->Bool
 | .q ds=>(ds.all λ d=>d.kind.isSome&&d.imm)&&decide (ds.length<=1000)
 | _=>true
def qu0:VSp:=B6 (fx1 λ x=>if x.kinded=true then x.kind.map λ _=>.bl x.pairB else none)
theorem qu5(T:Txt K mg a):VFn P w K mg base 4 a.f6 a.d6 ["thing"] qu0:=by
 refine VFn.mk' T.d6.F qu2 (wOf [true]) qv3 (λ _ _ _=>qaf2) (λ _ _ _=>imm1) (λ _ _ _ _ _ _ _ f=>⟨_,(Aj (Aq (Fx (qa4 (vbi qf8 qu8.ops T.Cb (qa2 (vnm 0) (qa2 (vty "tuple" T.Dp) qa6 rfl) rfl))) (Fx (qa4 (v2 (A6 (qi0 f.u64) (qb2 _)) Bf (vbi qq5 qq4.ops T.Cq (qa2 (vnm 0) qa6 rfl)) Af)) (Fx (Ak T.d4 (qc6 T) qa1 (rm f) (vaV (qb7 (v2 (Av qb3) Ap (vnm 0) Af)) Ad)) (Hn (Ak T.d4 (qc6 T) qa1 (rm f) (vaV (qb7 (v2 (Av qb3) Ap (vnm 0) Af)) Ad)))))))),λ b Q m h=>?_⟩);obtain⟨x,d,rfl,e,q⟩:=K6 h;cases x with
 | q b =>
   by_cases c:(D.q b).kinded=true
   . rw[if_pos c] at e
     cases e;have c:=zAi.mp c;have i:=zBd.mp c.1
     match b with
     | []=>exact q
     | [_]=>exact q
     | [x,y] =>
       have j:=zAi.mp (i x (by simp));have l:=zAi.mp (i y (by simp));obtain⟨t,n⟩:=zB7.mp j.1;obtain⟨u,o⟩:=zB7.mp l.1;refine⟨j.2,?_⟩;refine qa0 (a:=D.bl x.num) (by show (x.kind.map _)=_;rw[n];rfl) ?_;refine ite_b (λ g=>⟨l.2,qa0 (a:=D.bl y.num) (by show (y.kind.map _)=_;rw[o];rfl) ?_⟩) λ g=>?_
       . have:(D.q [x,y]).pairB=y.num:=by show (x.num&&y.num)=_;rw[g];rfl
         rw[this] at q;exact q
       have:(D.q [x,y]).pairB=false:=by show (x.num&&y.num)=_;rw[g];rfl
       rw[this] at q;exact q
     | x::y::z::r =>
       have e2:f2 gEq (Bd (fx1 Hw) (Bc (rdN 0) λ x=>some [])) (kC (D.int 2)) [.q (x::y::z::r)]=some (.bl false):=by
         show some (D.bl (((x::y::z::r).length:Int) == 2))=_
         have:(((x::y::z::r).length:Int) == 2)=false:=by
           have:((x::y::z::r).length:Int)≠2:=by simp;lia
           simpa using this
         rw[this]
       have:orF (f2 gEq (Bd (fx1 Hw) (Bc (rdN 0) λ x=>some [])) (kC (D.int 2)) [.q (x::y::z::r)]) (λ d=>orF d.asB λ k=>if k=true then Ix (qk5 qn4 [] (tbV (Fd (f2 gIx (rdN 0) (kC (D.int 0)))) A5)) (qk5 qn4 [] (tbV (Fd (f2 gIx (rdN 0) (kC (D.int 1)))) A5)) [.q (x::y::z::r)] (λ d b=>Q d (fin (wOf [true]) 0 [.q (x::y::z::r)] b)) (λ p b=>m p (fin (wOf [true]) 0 [.q (x::y::z::r)] b)) else Q (.bl false) [.q (x::y::z::r)]):=by
         rw[e2];exact q
       exact this
   rw[if_neg c] at e;cases e
 | _=>first | (cases e;exact q) | cases e
theorem qA4:qa8 ["thing"] ["thing"] (qa3 qj1):=by walk_at "s"
noncomputable def Ii:D->Option Int
 | .q (.int k::_)=>some k
 | _=>none
def _root_.LV.D.homesB:D->Bool
 | .l _ ys=>decide (ys.length<=64)&&(ys.all D.pairB&&decide (ys.filterMap Ii).Nodup)
 | _=>false
def _root_.LV.D.lstOk(p:D->Bool):D->Bool
 | .l _ ys=>D.imms ys&&ys.all p&&decide (ys.length<=1000)
 | x=>x.kind.isSome
def La(y:D):Bool:=y.kind.isSome&&y.kinded
theorem qaL2(h:x.num=true):∃ n,x=.int n/\An n:=by
 cases x with
 | int n =>
   have:=zAi.mp h
   exact⟨n,rfl,zAb this.1,zAb this.2⟩
 | _=>cases h
theorem qs6{n:Int}(h:An n):(D.int n).num=true:=by
 show (decide (0<=n)&&decide (n<=1000000000000000000))=true;rw[zAq h.1,zAq h.2];rfl
theorem qaK2(h:y.pairB=true):∃ k m,y=.q [.int k,.int m]/\An k/\An m:=by
 cases y with
 | q a =>
   match a,h with
   | [x,y],h =>
     have h:=zAi.mp h;obtain⟨k,rfl,b⟩:=qaL2 h.1;obtain⟨m,rfl,c⟩:=qaL2 h.2;exact⟨k,m,rfl,b,c⟩
 | _=>cases h
theorem qac4:∀{ys:Ds},ys.all D.pairB=true->∃ ps:Pr,ys=P7 ps/\∀ p∈ps,An p.1/\An p.2
 | [],_=>⟨[],rfl,λ p h=>by simp at h⟩
 | y::r,h=>by
   rw[M5,zBe] at h;obtain⟨k,m,rfl,b,c⟩:=qaK2 h.1;obtain⟨ps,rfl,d⟩:=qac4 h.2;refine⟨(k,m)::ps,rfl,λ p a=>?_⟩;rcases zAn.mp a with rfl | a
   . exact⟨b,c⟩
   exact d p a
theorem qaf7:∀ ps:Pr,(P7 ps).filterMap Ii=ps.map (·.1)
 | []=>rfl
 | p::r=>by show p.1::(P7 r).filterMap Ii=_;rw[qaf7 r];rfl
theorem qaP6:∀{ps:Pr},(∀ p∈ps,An p.1/\An p.2)->(P7 ps).all D.pairB=true
 | [],_=>rfl
 | p::r,h=>by
   show (((D.int p.1).num&&(D.int p.2).num)&&(P7 r).all D.pairB)=true;rw[qs6 (h p zAa).1,qs6 (h p zAa).2,qaP6 λ q a=>h q (zA6 _ a)];rfl
theorem qaP7:∀ ps:Pr,(P7 ps).all La=true
 | []=>rfl
 | p::r=>by show (true&&(P7 r).all La)=true;rw[qaP7 r];rfl
theorem qJ3{z:Bool}{ps:Pr}(h:Kk ps):(D.l z (P7 ps)).homesB=true/\(D.l z (P7 ps)).lstOk La=true:=by
 have a:(P7 ps).length<=64:=by simpa[P7] using h.len
 constructor
 . show (decide ((P7 ps).length<=64)&&((P7 ps).all D.pairB&&decide ((P7 ps).filterMap Ii).Nodup))=true
   rw[zAq a,qaP6 h.nums,qaf7,zAq h.nd];rfl
 show (D.imms (P7 ps)&&(P7 ps).all La&&decide ((P7 ps).length<=1000))=true;rw[qJ1,qaP7,zAq (by lia)];rfl
theorem qV5{α:Type}(f:α->Bool):∀ l:List α,bools (l.map λ a=>.bl (f a))=some (l.map f)
 | []=>rfl
 | a::r=>by show (bools (r.map λ a=>D.bl (f a))).map (λ b=>f a::b)=_;rw[qV5 f r];rfl
theorem qaP8(f:α->Bool)(l:List α):gAll (.l false (l.map λ a=>.bl (f a)))=some (.bl (l.all f)):=by
 show (bools (l.map λ a=>D.bl (f a))).map (λ b=>D.bl (b.all id))=_;rw[qV5];show some (D.bl ((l.map f).all id))=_;rw[Oi];rfl
def qA0:VSp:=Ay λ ds d=>∃ x,ds=[x]/\x.lstOk La=true/\d=.bl x.homesB
theorem qA7(T:Txt K mg a):VFn P w K mg base 5 a.f7 a.d7 ["thing"] qA0:=by
 refine VFn.mk2 T.d7.F qA4 (wOf [true]) qb1 (by walk_at "l") (λ _ _ _ _ _ _ _ A=>⟨_,(Ab (sif (tor (Bh (tv (vbi qf8 qu8.ops T.Cb (qa2 (vnm 0) (qa2 (vty "list" T.Cw) qa6 rfl) rfl)))) (Hm (q2 (As Er (qb2 _)) Ev (vbi qq5 qq4.ops T.Cq (qa2 (vnm 0) qa6 rfl)) (vgi T.Dt)))).te (Aj (Aq (qa4 vbl))) Ax) (Aj (Aq (Fx (ebi (qV4 rfl) qaO9.ops T.Ek (F4 (vaV (ecN (NY:=["pair"]) (src:=[none]) 0 (blk (λ f C g H0 i=>(Be 0 (show (["pair"]:List Str).Nodup by decide +kernel))) (λ f C g H0 i=>G0) (λ f C g H0 i=>(Ak T.d6 (qu5 T) qt0 (rm A) (vaN 0 Ad))))) Ad))) (Hn (Ak T.d5 (qI0 T) qa1 (rm A) (vaV (ecN (NY:=["pair"]) (src:=[none]) 0 (blk (λ f C g H0 i=>(Be 0 (show (["pair"]:List Str).Nodup by decide +kernel))) (λ f C g H0 i=>G0) (λ f C g H0 i=>(qb7 (v2 (Av qb3) Ap (vnm 0) Af))))) Ad))))))),λ J Q L h=>?_⟩);obtain⟨d,⟨x,rfl,j,rfl⟩,q⟩:=h;cases x with
 | l z b =>
   have j:=zAi.mp j;have k:=zAi.mp j.1;have B:=zAb j.2;refine ite_b (p:=decide ((64:Int) < (b.length:Nat))) (λ h=>?_) (λ h=>?_)
   . have o:¬ b.length<=64:=by have:=zAb h;lia
     have:(D.l z b).homesB=false:=by
       show (decide (b.length<=64)&&_)=false;rw[zBj o];rfl
     rw[this] at q;exact q
   have o:b.length<=64:=by have:=zB9 h;lia
   have E:(D.l z b).homesB=(b.all D.pairB&&decide (b.filterMap Ii).Nodup):=by
     show (decide (b.length<=64)&&_)=_;rw[zAq o];rfl
   have m:=zBd.mp k.2;refine⟨k.1,?_⟩;refine qq6 (λ ι=>∃ d,ι=[d]) (λ y=>some (.bl y.pairB)) b [] _ (by show 0+b.length < big;unfold big;lia) ⟨_,rfl⟩ ?_ ?_
   . rintro y s ι u ⟨d,rfl⟩ R v c
     have G:=zAi.mp (m y s);obtain⟨t,H⟩:=zB7.mp G.1;refine K7 (x:=y) (rd0 (ql6 H)) (qa0 (a:=D.bl y.pairB) ?_ ?_)
     . show (if y.kinded=true then y.kind.map _ else none)=_
       rw[if_pos G.2,H];rfl
     exact⟨c,v _ ⟨_,rfl⟩⟩
   rintro ι ⟨d,rfl⟩;rw[zBi,qah1];refine qa0 (qaP8 D.pairB b) (ite_b (λ r=>?_) λ r=>?_)
   . obtain⟨n,rfl,M⟩:=qac4 r
     refine⟨qJ1 n,qq6 (λ ι=>∃ d,ι=[d]) (λ y=>(Ii y).map .int) (P7 n) [] _ (by show 0+(P7 n).length < big;unfold big;lia) ⟨_,rfl⟩ ?_ ?_⟩
     . rintro y s ι u ⟨d,rfl⟩ R v c
       obtain⟨p,I,rfl⟩:=zBb.mp s;exact⟨rfl,c,v _ ⟨_,rfl⟩⟩
     rintro ι ⟨d,rfl⟩;have e:[]++(P7 n).filterMap (λ y=>(Ii y).map D.int)=P4 (n.map (·.1)):=by
       rw[zBi];unfold P7 P4;rw[Ny,Mz];exact qah1 _ _
     rw[e];rw[E,r,qaf7] at q;exact⟨_,⟨false,_,rfl,by simp;simp[P7] at o;lia,rfl⟩,q⟩
   rw[E,r] at q;exact q
 | _=>first | exact q | cases j
theorem qN3:qa8 ["self", "rooms", "wraps", "homes"] ["self", "rooms", "wraps", "homes"] (qa3 qs1):=by walk_at "s"
def qM4(C:γ):VSp:=λ ds Q _=>∃ n wr z ps,ds=[.ins false C [],.int n,.bl wr,.l z (P7 ps)]/\1<=n/\n<=64/\Kk ps/\Q .non [Ac false C n wr ps,.int n,.bl wr,.l z (P7 ps)]
theorem qat4{z:Bool}{ps:Pr}:Ko (.l z (P7 ps))=some (.l false (P7 ps)):=qo4 (qJ1 ps)
theorem qO8(T:Txt K mg a):VFn P w K mg base 6 a.f8 a.d8 ["self", "rooms", "wraps", "homes"] (qM4 a.Ca):=by
 refine VFn.mk2 T.d8.F qN3 (wOf [true,true,true,true]) (by walk_at "m") (by walk_at "l") (λ _ _ _ _ _ _ _ f=>⟨_,(Ab (sif (Bh (te (Ak T.d3 (qe9 T) qa1 (rm f) (vaN 1 (vaV (qa4 Af) (vaV (qa4 (vgi T.Dq)) Ad)))))) (Aj qn5) Ax) (Ab (sif (Bh (tv (vbi qf8 qu8.ops T.Cb (qa2 (vnm 2) (qa2 (vty "bool" T.E3) qa6 rfl) rfl)))) (Aj qn5) Ax) (Ab (sif (Bh (te (Ak T.d7 (qA7 T) qa1 (rm f) (vaN 3 Ad)))) (Aj qn5) Ax) (Ab (Ic rfl (vpn 0) (qb7 (vnm 1)) T.Cd.cl T.Ce) (Ab (Ic rfl (vpn 0) (qb7 (vnm 2)) T.Cd.cl T.Ci) (Ab (Ic rfl (vpn 0) (qa4 (Hx qj9 qU7.ops T.Cw (qa2 (vnm 3) qa6 rfl))) T.Cd.cl T.Dr) (Aj (Ic rfl (vpn 0) (qa4 (Hx (qK7 rfl) qav0.ops T.Ee (qa2 (vnm 3) qa6 rfl))) T.Cd.cl T.Ck)))))))),λ k Q g h=>?_⟩);obtain⟨n,wr,z,c,rfl,i,j,e,q⟩:=h;refine qb0 [.ins false a.Ca [],.int n,.bl wr,.l z (P7 c)] (λ K b=>?_) (qb0 [.ins false a.Ca [],.int n,.bl wr,.l z (P7 c)] (λ K b=>b) (qb0 [.ins false a.Ca [],.int n,.bl wr,.l z (P7 c)] (λ K b=>?_) ?_))
 . refine qag5 (λ Q g q=>qk3 (qc3 (x:=.int n) rfl (qf1 (y:=.int 1) rfl (qf1 (y:=.int 64) rfl (qc4 (qa0 (a:=D.int n) rfl (qE4 (d:=D.bl true) ?_ q))))))) b
   show some (D.bl ((D.int n).within 1 64))=_;rw[qR1 i j]
 . refine K7 rfl ⟨D.bl true,⟨_,rfl,(qJ3 e).2,by rw[(qJ3 e).1]⟩,b⟩
 refine qb0 [.ins false a.Ca [("rooms",.int n)],.int n,.bl wr,.l z (P7 c)] (λ K b=>⟨rfl,qa0 (a:=(0,[])) rfl (qa0 qj6 ⟨by decide,b⟩)⟩) ?_;refine qb0 [.ins false a.Ca [("rooms",.int n),("wraps",.bl wr)],.int n,.bl wr,.l z (P7 c)] (λ K b=>⟨rfl,qa0 (a:=(0,[])) rfl (qa0 qj6 ⟨by show 1 < 100;decide,b⟩)⟩) ?_;refine qb0 [.ins false a.Ca [("rooms",.int n),("wraps",.bl wr),("homes",.l false (P7 c))],.int n,.bl wr,.l z (P7 c)] (λ K b=>?_) ?_
 . refine qa0 (qat4 (z:=z)) ?_
   exact qa0 (a:=(0,[])) rfl (qa0 qj6 ⟨by show 2 < 100;decide,b⟩)
 refine qa0 (qau8 (z:=z) e.nd) ?_;exact qa0 (a:=(0,[])) rfl (qa0 qj6 ⟨by show 3 < 100;decide,q⟩)
theorem qA5:qa8 ["self", "thing"] ["self", "thing"] (qa3 qj3):=by walk_at "s"
def qA2(C:γ):VSp:=Ay λ ds d=>∃ z n wr ps x t,ds=[Ac z C n wr ps,x]/\x.kind=some t/\d=.bl (x.within 0 (n - 1))
theorem qm8(T:Txt K mg a):VFn P w K mg base 3 a.f9 a.d9 ["self", "thing"] (qA2 a.Ca):=by
 refine VFn.mk2 T.d9.F qA5 (wOf [true,true]) qb1 (by walk_at "l") (λ _ _ _ _ _ _ _ f=>⟨_,(Aj (Aq (Ak T.d3 (qe9 T) qa1 (rm f) (vaN 1 (vaV (qa4 Af) (vaV (qa4 (v2 (Am qs5) qs4 (Bm rfl (vnm 0) T.Cd.cl T.Ce) Af)) Ad)))))),λ i Q j h=>?_⟩);obtain⟨d,⟨z,n,wr,b,x,t,rfl,c,rfl⟩,q⟩:=h;have e:rdN 1 [Ac z a.Ca n wr b,x]=some x:=ql1.mpr ⟨rfl,ql6 c⟩;have g:f2 gSub (f1 (D.fld a.Ca "rooms") (rdN 0)) (kC (.int 1)) [Ac z a.Ca n wr b,x]=some (.int (n - 1)):=Ae (A9 rfl qd9) rfl rfl;show qk5 _ _ (tbN 1 _) [Ac z a.Ca n wr b,x] _ _;refine qc3 e ?_;refine qf1 (y:=.int 0) rfl ?_;refine qf1 g ?_;refine qa0 e ?_;refine qE4 (d:=.bl (x.within 0 (n - 1))) ?_ (qa0 rfl q);show x.kind.bind _=_;rw[c];rfl
theorem qN4:qa8 ["self", "key"] ["self", "key"] (qa3 qs2):=by walk_at "s"
def qM5(C:γ):VSp:=Ay λ ds d=>∃ z n wr ps k,ds=[Ac z C n wr ps,.int k]/\1<=n/\An k/\d=.int (qc2 n ps k)
theorem qag7{z:Bool}{ps:Pr}(h:fa ds=some (.dct z (kvD ps)))(a:rdN i ds=some (.int k)):fget fa (rdN i) (rdN i) ds=some (.int ((ps.lookup k).getD k)):=by
 unfold fget;rw[h,a];show gd (((Ex (kvD ps) (.inl k)).getD (.int k)).imm=true) ((Ex (kvD ps) (.inl k)).getD (.int k))=_;rw[qaq9];cases ps.lookup k<;>rfl
theorem qaL8{x n:Int}(h:1<=n):Jk (.int x) (.int n)=some (.int (x % n)):=qo4 (zAq (by lia))
theorem qo0(T:Txt K mg a):VFn P w K mg base 4 a.f10 a.d10 ["self", "key"] (qM5 a.Ca):=by
 refine VFn.mk2 T.d10.F qN4 (wOf [true,true]) qb1 (by walk_at "l") (λ _ _ _ _ _ _ _ b=>⟨_,(Ab (sif (Bh (te (Ak T.d4 (qc6 T) qa1 (rm b) (vaN 1 Ad)))) (Aj qn5) Ax) (Aj (Aq (qa4 (v2 (Am ql3) ql2 (vget (hu_of b) (Bm rfl (vnm 0) T.Cd.cl T.Ck) (vnm 1) (vnm 1) ⟨rfl,rfl,rfl,rfl⟩) (Bm rfl (vnm 0) T.Cd.cl T.Ce)))))),λ g Q i h=>?_⟩);obtain⟨d,⟨z,n,wr,c,k,rfl,e,f,rfl⟩,q⟩:=h;have key:orF (f2 Jk (fget (f1 (D.fld a.Ca "home_numbers") (rdN 0)) (rdN 1) (rdN 1)) (f1 (D.fld a.Ca "rooms") (rdN 0)) [Ac z a.Ca n wr c,.int k]) (λ d=>Q d [Ac z a.Ca n wr c,.int k]):=qa0 (Ae (qag7 (A9 rfl qY8) rfl) (A9 rfl qd9) (qaL8 e)) q;exact K7 rfl (qE4 (d:=D.bl true) (by show some (D.bl (D.int k).num)=_;rw[qs6 f]) (qa0 rfl (qa0 (a:=true) rfl key)))
theorem qB9:qa8 ["self", "key", "room", "steps"] ["self", "key", "room"] (qa3 qx5):=by walk_at "s"
def qX0(C:γ):VSp:=Ay λ ds d=>∃ z n wr ps k r,ds=[Ac z C n wr ps,.int k,.int r]/\1<=n/\An k/\0<=r/\r < n/\d=Hd (A4 n wr ps k r)
theorem qam7(a:An k):fx1 (λ x=>x.kind.map λ _=>.bl x.num) [.int k]=some (.bl true):=by
 show some (D.bl (D.int k).num)=_;rw[qs6 a]
theorem qas0{C:γ}{z:Bool}{n:Int}{wr:Bool}{ps:Pr}{r:Int}(d:0<=r)(h1:r < n):∃ z' c a b x t,[Ac z C n wr ps,.int r]=[Ac z' C c a b,x]/\x.kind=some t/\D.bl true=.bl (x.within 0 (c - 1)) :=
 ⟨z,n,wr,ps,_,_,rfl,rfl,by rw[qR1 d (by lia)]⟩
theorem qi6(T:Txt K mg a):VFn P w K mg base 5 a.f11 a.d11 ["self", "key", "room"] (qX0 a.Ca):=by
 refine VFn.mk2 T.d11.F qB9 (wOf [true,true,true]) qb1 (by walk_at "l") (λ _ _ _ _ _ _ _ e=>⟨_,(Ab (sif (Bh (te (Ak T.d4 (qc6 T) qa1 (rm e) (vaN 1 Ad)))) (Aj qn5) Ax) (Ab (sif (Bh (te (qm5 0 T.d9 T.Cd.cl (qm8 T) qa1 (rm e) (vaN 2 Ad)))) (Aj qn5) Ax) (Ab (Al 3 qB9.nd (e2n 2 (Am qs5) qs4 (qm5 0 T.d10 T.Cd.cl (qo0 T) qa1 (rm e) (vaN 1 Ad)))) (Ab (sif (tv (Bm rfl (vnm 0) T.Cd.cl T.Ci)) (Aj (Aq (qa4 (v2 (Am ql3) ql2 (vnm 3) (Bm rfl (vnm 0) T.Cd.cl T.Ce))))) Ax) (Aj (Aq (eif (q2 (As He (qb2 _)) Ir (vnm 3) Af) (qb7 (vnm 3)) (qa4 A7)))))))),λ s Q i h=>?_⟩);obtain⟨d,⟨z,n,wr,c,k,r,rfl,j,m,f,g,rfl⟩,q⟩:=h;refine G4 (λ Q i q=>qH5 (x:=.int k) rfl (qam7 m) rfl q) ?_;refine G4 (λ Q i q=>qP3 (p:=Ac z a.Ca n wr c) (x:=.int r) rfl (qf7 rfl) rfl rfl (qas0 f g) rfl q) ?_;refine qb0 [Ac z a.Ca n wr c,.int k,.int r,.int (r - qc2 n c k)] (λ K o=>?_) ?_
 . exact⟨rfl,qP3 (p:=Ac z a.Ca n wr c) (x:=.int k) (d:=.int (qc2 n c k)) rfl (qf7 rfl) rfl rfl ⟨z,n,wr,c,k,rfl,j,m,rfl⟩ rfl (qa0 (a:=D.int (r - qc2 n c k)) rfl o)⟩
 unfold A4 at q;refine qk6 wr (A9 rfl qv5) (λ h=>?_) (λ h=>?_)
 . subst h
   exact qk0 (.int ((r - qc2 n c k) % n)) (Ae rfl (A9 rfl qd9) (qaL8 j)) q
 subst h;refine qf5 (Gn (b:=decide (0<=r - qc2 n c k)) rfl (λ h=>?_) (λ h=>?_))
 . rw[if_neg (by decide),if_pos (zAb h)] at q
   exact⟨rfl,q⟩
 rw[if_neg (by decide),if_neg (zB9 h)] at q;exact q
theorem qe8:qa8 ["self", "room", "one", "other", "one_far", "other_far"] ["self", "room", "one", "other"] (qa3 qf4):=by walk_at "s"
def qq9(C:γ):VSp:=Ay λ ds d=>∃ z n wr ps r x y,ds=[Ac z C n wr ps,.int r,.int x,.int y]/\1<=n/\0<=r/\r < n/\An x/\An y/\d=.bl (qk4 n wr ps r x y)
theorem qao5{C:γ}{z:Bool}{n:Int}{wr:Bool}{ps:Pr}{r:Int}(h1:1<=n)(f:An k)(g:0<=r)(h:r < n):∃ z' c a b e d,[Ac z C n wr ps,.int k,.int r]=[Ac z' C c a b,.int e,.int d]/\1<=c/\An e/\0<=d/\d < c/\Hd (A4 n wr ps k r)=Hd (A4 c a b e d) :=
 ⟨z,n,wr,ps,k,r,rfl,h1,f,g,h,rfl⟩
theorem qi5(T:Txt K mg a):VFn P w K mg base 6 a.f12 a.d12 ["self", "room", "one", "other"] (qq9 a.Ca):=by
 refine VFn.mk2 T.d12.F qe8 (wOf [true,true,true,true]) qb1 (by walk_at "l") (λ _ _ _ _ _ _ _ j=>⟨_,(Ab (sif (Bh (te (qm5 0 T.d9 T.Cd.cl (qm8 T) qa1 (rm j) (vaN 1 Ad)))) (Aj qn5) Ax) (Ab (sif (Bh (te (Ak T.d4 (qc6 T) qa1 (rm j) (vaN 2 Ad)))) (Aj qn5) Ax) (Ab (sif (Bh (te (Ak T.d4 (qc6 T) qa1 (rm j) (vaN 3 Ad)))) (Aj qn5) Ax) (Ab (Al 4 qe8.nd (qm5 0 T.d11 T.Cd.cl (qi6 T) qa1 (rm j) (vaN 2 (vaN 1 Ad)))) (Ab (Al 5 qe8.nd (qm5 0 T.d11 T.Cd.cl (qi6 T) qa1 (rm j) (vaN 3 (vaN 1 Ad)))) (Ab (sif (q2 (As F6 (qb2 _)) F5 (vnm 4) A7) (Aj (Aq (qa4 vbl))) Ax) (Ab (sif (q2 (As F6 (qb2 _)) F5 (vnm 5) A7) (Aj (Aq (qa4 vbl))) Ax) (Aj (Aq (qa4 (vor (v2 (A6 Er (qb2 _)) Ev (vnm 4) (vnm 5)) (Kq (vand (v2 (A6 (qi0 j.u64) (qb2 _)) Bf (vnm 4) (vnm 5)) (Kq (v2 (A6 Jx (qb2 _)) Km (vnm 2) (vnm 3)))))))))))))))),λ A Q k h=>?_⟩);obtain⟨d,⟨z,n,wr,c,r,x,y,rfl,o,e,i,s,t,rfl⟩,q⟩:=h;refine G4 (λ Q k q=>qP3 (p:=Ac z a.Ca n wr c) (x:=.int r) rfl (qf7 rfl) rfl rfl (qas0 e i) rfl q) ?_;refine G4 (λ Q k q=>qH5 (x:=.int x) rfl (qam7 s) rfl q) ?_;refine G4 (λ Q k q=>qH5 (x:=.int y) rfl (qam7 t) rfl q) ?_;refine qb0 [Ac z a.Ca n wr c,.int r,.int x,.int y,Hd (A4 n wr c x r),.u] (λ K m=>?_) ?_
 . exact qan1 (p:=Ac z a.Ca n wr c) (x:=.int x) (y:=.int r) rfl (qf7 rfl) rfl rfl rfl rfl (qao5 o s e i) rfl m
 refine qb0 [Ac z a.Ca n wr c,.int r,.int x,.int y,Hd (A4 n wr c x r),Hd (A4 n wr c y r)] (λ K m=>?_) ?_
 . exact qan1 (p:=Ac z a.Ca n wr c) (x:=.int y) (y:=.int r) rfl (qf7 rfl) rfl rfl rfl rfl (qao5 o t e i) rfl m
 unfold qk4 at q;cases u:A4 n wr c x r with
 | none =>
   rw[u] at q;exact q
 | some f =>
   rw[u] at q;cases v:A4 n wr c y r with
   | none =>
     rw[v] at q;exact q
   | some g =>
     rw[v] at q;refine qk6 false rfl nofun λ _=>?_
     refine qk6 false rfl nofun λ _=>?_
     exact qk0 _ (qaW4 (a:=decide (g < f)) rfl (qah2 (a:=decide (f=g)) (b:=decide (x < y)) rfl rfl)) q
theorem qH2:qa8 ["plan", "room"] ["plan", "room"] (qa3 qn7):=by walk_at "s"
def qG7(C:γ):VSp:=Ay λ ds d=>∃ z n wr ps r,ds=[Ac z C n wr ps,.int r]/\d=(if 0 < r then .int (r - 1) else if wr=true then .int (n - 1) else .non)
theorem qH9(T:Txt K mg a):VFn P w K mg base 1 a.f13 a.d13 ["plan", "room"] (qG7 a.Ca):=by
 refine VFn.mk2 T.d13.F qH2 (wOf [true,true]) qb1 (by walk_at "l") (λ _ _ _ _ _ _ _ e=>⟨_,(Ab (sif (q2 (As Er (qb2 _)) Ev (vnm 1) Af) (Aj (Aq (qa4 (v2 (Am qs5) qs4 (vnm 1) Af)))) Ax) (Aj (Aq (eif (tv (Bm rfl (vnm 0) T.Cd.cl T.Ci)) (qa4 (v2 (Am qs5) qs4 (Bm rfl (vnm 0) T.Cd.cl T.Ce) Af)) (qa4 A7))))),λ f Q g h=>?_⟩);obtain⟨d,⟨z,n,wr,c,r,rfl,rfl⟩,q⟩:=h;refine At [Ac z a.Ca n wr c,.int r] rfl ?_;refine qk6 (decide (0 < r)) rfl (λ h=>?_) λ h=>?_
 . rw[if_pos (zAb h)] at q
   exact q
 rw[if_neg (zB9 h)] at q;refine qf5 (Gn (b:=wr) (A9 rfl qv5) (λ h=>?_) (λ h=>?_))
 . rw[if_pos h] at q
   exact qu6 (d:=.int (n - 1)) (Ae (A9 rfl qd9) rfl rfl) q
 rw[if_neg (by rw[h];decide)] at q;exact q
theorem qd7:qa8 ["plan", "rooms", "room", "ahead", "thing"] ["plan", "rooms", "room"] (qa3 qe0):=by walk_at "s"
noncomputable def Hu:Option Str->D
 | none=>.non
 | some s=>.str s
theorem qaf5{t:D}{u:String}(h:t.kind=some u):t=.non∨t.isN=some false:=by
 cases t<;>first | exact .inl rfl | exact .inr rfl | cases h
theorem qE6{t:D}(h:t.num=true):∃ x,t=.int x/\An x:=by
 cases t with
 | int x =>
   have:=zAi.mp h
   exact⟨x,rfl,zAb this.1,zAb this.2⟩
 | _=>cases h
def F9(n:Int)(wr:Bool)(ps:Pr)(p:Nat)(t:D)(k:Int):Option Str:=match t with
 | .non=>some "empty"
 | .int x=>if (D.int x).num=true then (if qk4 n wr ps (p:Int) x k=true then none else some "order") else none
 | _=>none
theorem qaj5{n:Int}{wr:Bool}{ps:Pr}{p:Nat}{t:D}(h:t.num=false)(h':t.isN=some false):F9 n wr ps p t k=none:=by
 cases t with
 | non=>cases h'
 | int x =>
   show (if (D.int x).num=true then (if qk4 n wr ps (p:Int) x k=true then (none:Option Str) else some "order") else none)=none;rw[if_neg (by rw[h];decide)]
 | _=>rfl
structure Rm(n:Int)(ys:Ds)(r:Nat):Prop where
 len:ys.length=n.toNat
 kn:∀ y∈ys,∃ t,y.kind=some t
 im:D.imms ys=true
 fl:∀ i y,i < r->ys[i]? = some y->y=.non∨∃ k,y=.int k/\An k
theorem qS3{t:D}{u:String}(h:t.kind=some u):fx1 (λ x=>x.kind.map λ _=>.bl x.num) [t]=some (.bl t.num):=by
 show t.kind.map _=_;rw[h];rfl
theorem Lb{z:Bool}(h:ys[r]? = some y):gIx (.l z ys) (.int (r:Int))=some y:=qai6 h
def qm3(C:γ):VSp:=Ay λ ds d=>∃ z n wr ps a ys r k t,ds=[Ac z C n wr ps,.l a ys,.int (r:Nat)]/\1<=n/\r < n.toNat/\(0 < r∨wr=true)/\Rm n ys 0/\ys[r]? = some (.int k)/\An k/\ys[Row.prev n.toNat r]? = some t/\d=Hu (F9 n wr ps (Row.prev n.toNat r) t k)
theorem qm4(T:Txt K mg a):VFn P w K mg base 7 a.f14 a.d14 ["plan", "rooms", "room"] (qm3 a.Ca):=by
 refine VFn.mk2 T.d14.F qd7 (wOf [true,true,true]) qb1 (by walk_at "l") (λ _ _ _ _ _ _ _ j=>⟨_,(Ab (Al 3 qd7.nd (Ak T.d13 (qH9 T) qa1 (rm j) (vaN 0 (vaN 2 Ad)))) (Ab (Al 4 qd7.nd (qb7 (v2 (Av qb3) Ap (vnm 1) (vnm 3)))) (Ab (sif (q2 (As F6 (qb2 _)) F5 (vnm 4) A7) (Aj (Aq (qa4 Bo))) Ax) (Ab (sif (Jm (te (Ak T.d4 (qc6 T) qa1 (rm j) (vaN 4 Ad))) (Gv (Bh (te (qm5 0 T.d12 T.Cd.cl (qi5 T) qa1 (rm j) (vaN 3 (vaN 4 (vaV (qb7 (v2 (Av qb3) Ap (vnm 1) (vnm 2))) Ad)))))))).te (Aj (Aq (qa4 Bo))) Ax) (Aj (Aq (qa4 A7))))))),λ L Q M h=>?_⟩);obtain⟨d,⟨z,n,wr,c,e,f,r,k,t,rfl,C,m,E,R,G,H,g,rfl⟩,q⟩:=h;refine At [Ac z a.Ca n wr c,.l e f,.int (r:Nat),.u,.u] rfl ?_;have I:=Row.qi4 (n:=n.toNat) m;have v:(if 0 < ((r:Nat):Int) then D.int ((r:Int) - 1) else if wr=true then D.int (n - 1) else .non)=.int (Row.prev n.toNat r:Nat):=by
   rcases Row.por n.toNat r with⟨e1,e2⟩ | ⟨e1,e2⟩
   . rw[if_neg (by lia),if_pos (E.resolve_left (by lia)),e2]
     congr 1;lia
   rw[if_pos (by lia),e2];congr 1;lia
 generalize Row.prev n.toNat r=p at I v q g;obtain⟨u,i⟩:=R.kn t (zB0 g);refine qb0 [Ac z a.Ca n wr c,.l e f,.int (r:Nat),.int (p:Nat),.u] (λ K o=>?_) ?_
 . exact qz0 (x:=Ac z a.Ca n wr c) (y:=.int (r:Nat)) (d:=.int (p:Nat)) rfl rfl rfl ⟨z,n,wr,c,(r:Nat),rfl,v.symm⟩ rfl o
 refine qb0 [Ac z a.Ca n wr c,.l e f,.int (r:Nat),.int (p:Nat),t] (λ K o=>qa0 (Ae rfl rfl (Lb g)) ⟨qt2 R.im g,o⟩) ?_;have A:rdN 4 [Ac z a.Ca n wr c,.l e f,.int (r:Nat),.int (p:Nat),t]=some t:=qg1 rfl (ql6 i);rcases qaf5 i with rfl | B
 . exact qk6 true rfl (λ _=>q) nofun
 refine qk6 false (Ae A rfl (by show t.isN.map D.bl=_;rw[B];rfl)) nofun λ _=>?_
 cases b:t.num with
 | false =>
   rw[qaj5 b B] at q;exact qe6 false (λ Q q=>qn2 false false (λ Q q=>qH5 (x:=t) (d:=.bl false) A (by rw[qS3 i,b]) rfl q) nofun q) nofun λ _=>q
 | true =>
   obtain⟨x,rfl,J⟩:=qE6 b;have q:Q (Hu (if (D.int x).num=true then (if qk4 n wr c (p:Int) x k=true then none else some "order") else none)) [Ac z a.Ca n wr c,.l e f,.int (r:Nat)]:=q;rw[if_pos b] at q;refine qe6 (!qk4 n wr c (p:Int) x k) (λ Q q=>qn2 true _ (λ Q q=>qH5 (x:=.int x) (d:=.bl true) rfl (by rw[qS3 i,b]) rfl q) (λ _ Q q=>?_) q) (λ h=>?_) λ h=>?_
   . refine qI5 (p:=Ac z a.Ca n wr c) rfl (qf7 rfl) (qc3 (x:=.int (p:Nat)) rfl (qc3 (x:=.int x) rfl (qe3 (y:=.int k) (Ae rfl rfl (Lb G)) rfl ?_)))
     refine qc4 ?_;refine qa0 (a:=D.int x) rfl ?_;refine qa0 (a:=D.int (p:Nat)) rfl ?_;exact(qa0 (a:=Ac z a.Ca n wr c) rfl (qf6 (d:=.bl (qk4 n wr c (p:Int) x k)) ⟨z,n,wr,c,(p:Nat),x,k,rfl,C,by lia,by lia,J,H,rfl⟩ q))
   . rw[if_neg (by intro s;rw[s] at h;cases h)] at q
     exact q
   rw[if_pos (by cases s:qk4 n wr c (p:Int) x k with | true=>rfl | false=>rw[s] at h;cases h)] at q;exact q
theorem qr1:qa8 ["plan", "rooms", "room", "key", "far"] ["plan", "rooms", "room"] (qa3 qw8):=by walk_at "s"
noncomputable def atD(ys:Ds)(i:Nat):D:=(ys[i]?).getD .non
noncomputable def qz2(k:Int):D->Bool
 | .int j=>decide (j=k)
 | _=>false
def B8(n:Int)(wr:Bool)(ps:Pr)(ys:Ds)(r:Nat):Option Str:=match atD ys r with
 | .non=>none
 | .int k=>if (D.int k).num=true then (if (ys.take r).any (qz2 k)=true then some "twice" else match A4 n wr ps k (r:Int) with
   | none=>some "home"
   | some f=>if f=0 then none else F9 n wr ps (Row.prev n.toNat r) (atD ys (Row.prev n.toNat r)) k) else some "key"
 | _=>some "key"
theorem qau5{k:Int}:∀{l:Ds},(∀ y∈l,y=.non∨∃ j,y=.int j/\An j)->∃ a,flats l=some a/\inV (.int k) a=l.any (qz2 k)
 | [],_=>⟨[],rfl,rfl⟩
 | y::l,h=>by
   obtain⟨a,c,e2⟩:=qau5 (k:=k) λ z d=>h z (zA6 _ d)
   rcases h y zAa with rfl | ⟨j,rfl,_⟩
   . refine⟨.non::a,?_,?_⟩
     . show ((flats l).bind λ b=>some (V.non::b))=_
       rw[c];rfl
     show (eqV .non (.int k)||inV (.int k) a)=(false||l.any (qz2 k))
     rw[e2];rfl
   refine⟨.int j::a,?_,?_⟩
   . show ((flats l).bind λ b=>some (V.int j::b))=_
     rw[c];rfl
   show (eqV (.int j) (.int k)||inV (.int k) a)=(decide (j=k)||l.any (qz2 k))
   rw[e2];rfl
theorem qT1:∀{ys:Ds}{r:Nat},D.imms ys=true->D.imms (ys.take r)=true
 | [],r,_=>by rw[List.take_nil];rfl
 | y::ys,0,_=>rfl
 | y::ys,r+1,h=>by
   have:=zAi.mp h
   show (y.imm&&D.imms (ys.take r))=true;rw[this.1,qT1 this.2];rfl
theorem Rm.up{n:Int}(R:Rm n ys r){s:Nat}(h:s<=r):Rm n ys s:=⟨R.len,R.kn,R.im,λ i y a=>R.fl i y (by lia)⟩
def qW3(C:γ):VSp:=Ay λ ds d=>∃ z n wr ps a ys r,ds=[Ac z C n wr ps,.l a ys,.int (r:Nat)]/\1<=n/\r < n.toNat/\Rm n ys r/\d=Hu (B8 n wr ps ys r)
theorem qX7(T:Txt K mg a):VFn P w K mg base 8 a.f15 a.d15 ["plan", "rooms", "room"] (qW3 a.Ca):=by
 refine VFn.mk2 T.d15.F qr1 (wOf [true,true,true]) qb1 (by walk_at "l") (λ _ _ _ _ _ _ _ s=>⟨_,(Ab (Al 3 qr1.nd (qb7 (v2 (Av qb3) Ap (vnm 1) (vnm 2)))) (Ab (sif (q2 (As F6 (qb2 _)) F5 (vnm 3) A7) (Aj (Aq (qa4 A7))) Ax) (Ab (sif (Bh (te (Ak T.d4 (qc6 T) qa1 (rm s) (vaN 3 Ad)))) (Aj (Aq (qa4 Bo))) Ax) (Ab (sif (q2 (As qS2 (by with_unfolding_all rfl)) Iu (vnm 3) (vsl (vnm 1) vpo_n (vpo_s (vnm 2)))) (Aj (Aq (qa4 Bo))) Ax) (Ab (Al 4 qr1.nd (qm5 0 T.d11 T.Cd.cl (qi6 T) qa1 (rm s) (vaN 3 (vaN 2 Ad)))) (Ab (sif (q2 (As F6 (qb2 _)) F5 (vnm 4) A7) (Aj (Aq (qa4 Bo))) Ax) (Ab (sif (q2 (As (qi0 s.u64) (qb2 _)) Bf (vnm 4) Af) (Aj (Aq (qa4 A7))) Ax) (Aj (Aq (Ak T.d14 (qm4 T) qa1 (rm s) (vaN 0 (vaN 1 (vaN 2 Ad))))))))))))),λ X Q Y h=>?_⟩);obtain⟨d,⟨z,n,wr,c,g,b,r,rfl,E,j,R,rfl⟩,q⟩:=h;have N:=Row.qi4 (n:=n.toNat) j;obtain⟨v,o⟩:∃ v,b[r]? = some v:=⟨b[r]'(by rw[R.len];exact j),by simp⟩
 obtain⟨t,I⟩:∃ t,b[Row.prev n.toNat r]? = some t:=⟨b[Row.prev n.toNat r]'(by rw[R.len];exact N),by simp⟩
 obtain⟨u,A⟩:=R.kn v (zB0 o);have O:atD b r=v:=by unfold atD;rw[o];rfl
 have S:atD b (Row.prev n.toNat r)=t:=by unfold atD;rw[I];rfl
 unfold B8 at q;rw[O,S] at q;refine At [Ac z a.Ca n wr c,.l g b,.int (r:Nat),.u,.u] rfl ?_;refine qb0 [Ac z a.Ca n wr c,.l g b,.int (r:Nat),v,.u] (λ K G=>qa0 (Ae rfl rfl (Lb o)) ⟨qt2 R.im o,G⟩) ?_;have J:rdN 3 [Ac z a.Ca n wr c,.l g b,.int (r:Nat),v,.u]=some v:=qg1 rfl (ql6 A);rcases qaf5 A with rfl | L
 . exact qk6 true rfl (λ _=>q) nofun
 refine qk6 false (Ae J rfl (by show v.isN.map D.bl=_;rw[L];rfl)) nofun λ _=>?_
 cases e:v.num with
 | false =>
   refine qe6 true (λ Q q=>qH5 (x:=v) (d:=.bl false) J (by rw[qS3 A,e]) rfl q) (λ _=>?_) nofun;cases v with
   | non=>cases L
   | int k =>
     have q:Q (Hu (if (D.int k).num=true then _ else some "key")) [Ac z a.Ca n wr c,.l g b,.int (r:Nat)]:=q;rw[if_neg (by rw[e];decide)] at q;exact q
   | _=>exact q
 | true =>
   obtain⟨k,rfl,M⟩:=qE6 e;have q:Q (Hu (if (D.int k).num=true then (if (b.take r).any (qz2 k)=true then some "twice" else match A4 n wr c k (r:Int) with
     | none=>some "home"
     | some f=>if f=0 then none else F9 n wr c (Row.prev n.toNat r) t k) else some "key")) [Ac z a.Ca n wr c,.l g b,.int (r:Nat)]:=q
   rw[if_pos e] at q;refine qe6 false (λ Q q=>qH5 (x:=.int k) (d:=.bl true) rfl (by rw[qS3 A,e]) rfl q) nofun λ _=>?_
   obtain⟨B,U,e2⟩:=qau5 (k:=k) (l:=b.take r) λ y V=>by
     obtain⟨i,C⟩:=List.getElem?_of_mem V;rw[List.getElem?_take] at C;split at C
     . rename_i hlt;exact R.fl i y hlt C
     cases C
   have H:f2 (gInB false) (rdN 3) (fsl (rdN 1) foN (foS (rdN 2))) [Ac z a.Ca n wr c,.l g b,.int (r:Nat),.int k,.u]=some (.bl ((b.take r).any (qz2 k))):=by
     refine Ae (x:=.int k) (y:=.l false (b.take r)) rfl ?_ ?_
     . show gSl (.l g b) none (some (r:Int))=_
       show gd (D.imms (Fw b none (some (r:Int)))=true) (.l false (Fw b none (some (r:Int))))=_;rw[qU6];exact qo4 (qT1 R.im)
     show ((flats (b.take r)).bind λ B=>some (D.bl (if false=true then !inV (.int k) B else inV (.int k) B)))=_;rw[U];show some (D.bl (inV (.int k) B))=_;rw[e2]
   refine qk6 _ H (λ h=>?_) λ h=>?_
   . rw[if_pos h] at q;exact q
   rw[if_neg (by rw[h];decide)] at q;refine qb0 [Ac z a.Ca n wr c,.l g b,.int (r:Nat),.int k,Hd (A4 n wr c k (r:Nat))] (λ K G=>?_) ?_
   . exact qan1 (p:=Ac z a.Ca n wr c) (x:=.int k) (y:=.int (r:Nat)) rfl (qf7 rfl) rfl rfl rfl rfl (qao5 E M (by lia) (by lia)) rfl G
   cases m:A4 n wr c k (r:Nat) with
   | none =>
     rw[m] at q;exact qk6 true rfl (λ _=>q) nofun
   | some f =>
     rw[m] at q;refine qk6 false rfl nofun λ _=>?_
     refine qk6 (decide (f=0)) rfl (λ h=>?_) λ h=>?_
     . have q:Q (Hu (if f=0 then none else F9 n wr c (Row.prev n.toNat r) t k)) [Ac z a.Ca n wr c,.l g b,.int (r:Nat)]:=q
       rw[if_pos (zAb h)] at q;exact q
     have q:Q (Hu (if f=0 then none else F9 n wr c (Row.prev n.toNat r) t k)) [Ac z a.Ca n wr c,.l g b,.int (r:Nat)]:=q;rw[if_neg (zB9 h)] at q;refine qY6 (x:=Ac z a.Ca n wr c) (y:=.l g b) (w:=.int (r:Nat)) rfl rfl rfl rfl rfl ⟨z,n,wr,c,g,b,r,k,t,rfl,E,j,?_,R.up (zBk _),o,M,I,rfl⟩ rfl q;cases wr with
     | true=>exact .inr rfl
     | false =>
       left;unfold A4 at m;rw[if_neg (by decide)] at m
       have:=(qag4 E c k).1
       have W:=zB9 h;split at m
       . cases m;lia
       cases m
theorem qN0:qa8 ["plan", "rooms"] ["plan", "rooms"] (qa3 qr7):=by walk_at "s"
def farP(n:Int)(wr:Bool)(ps:Pr):D->Bool
 | .q [.int i,.int k]=>match A4 n wr ps k i with
   | some f=>decide (0 < f)
   | none=>false
 | _=>false
def qo8(n:Int)(wr:Bool)(ps:Pr)(ys:Ds):Bool:=(enD ys).all (farP n wr ps)
theorem qaD8(ys:Ds):(enD ys).length=ys.length:=by unfold enD;rw[zAf,List.length_zipIdx]
def qM1(C:γ):VSp:=Ay λ ds d=>∃ z n wr ps a ys,ds=[Ac z C n wr ps,.l a ys]/\1<=n/\n<=64/\ys.length=n.toNat/\(∀ i v,ys[i]? = some v->v=.non∨∃ k,v=.int k/\An k/\A4 n wr ps k (i:Nat)≠none)/\d=.bl (qo8 n wr ps ys)
theorem qaC2{p:Nat->D->Prop}(h:∀ i v,ys[i]? = some v->v=.non∨∃ k,v=.int k/\p i v):D.imms ys=true:=by
 induction ys generalizing p with
 | nil=>rfl
 | cons y ys a =>
   have b:=h 0 y rfl;have c:y.imm=true:=by
     rcases b with rfl | ⟨k,rfl,_⟩<;>rfl
   show (y.imm&&D.imms ys)=true;rw[c,a (p:=λ i v=>p (i+1) v) λ i v d=>h (i+1) v d];rfl
theorem qO5(T:Txt K mg a):VFn P w K mg base 6 a.f16 a.d16 ["plan", "rooms"] (qM1 a.Ca):=by
 refine VFn.mk2 T.d16.F qN0 (wOf [true,true]) qb1 (by walk_at "l") (λ _ _ _ _ _ _ _ H=>⟨_,(Aj (Aq (ebi (qV4 rfl) qaO9.ops T.Ek (F4 (vaV (ecEN (NY:=["room", "key", "plan"]) (src:=[none,none,some 0]) 1 T.Dw (blk (λ o C r H0 s=>(I8 (n:=2) rfl (qK0 (Be 0 (show (["room", "key", "plan"]:List Str).Nodup by decide +kernel)) (qK0 (Be 1 (show (["room", "key", "plan"]:List Str).Nodup by decide +kernel)) Iz)))) (λ o C r H0 s=>G0) (λ o C r H0 s=>(Fx (qa4 (v2 (A6 qp3 (qb2 _)) qu4 (vnm 1) A7)) (Hn (e2v (A6 Er (qb2 _)) Ev (qm5 2 T.d11 T.Cd.cl (qi6 T) qt0 (rm H) (vaN 1 (vaN 0 Ad))) Af)))))) Ad))))),λ X Q Y h=>?_⟩);obtain⟨d,⟨z,n,wr,b,I,g,rfl,J,Z,t,u,rfl⟩,q⟩:=h;refine At [Ac z a.Ca n wr b,.l I g] rfl ?_;have L:D.imms g=true:=qaC2 (p:=λ i v=>∃ k,v=.int k/\An k/\A4 n wr b k (i:Nat)≠none) λ i v h=>by
   rcases u i v h with h | ⟨k,A,M,N⟩
   . exact .inl h
   exact .inr ⟨k,A,k,A,M,N⟩
 refine qf5 ?_;refine⟨L,?_⟩;refine qq6 (λ ι=>∃ j m,ι=[j,m,Ac z a.Ca n wr b]) (λ y=>some (.bl (farP n wr b y))) (enD g) [] _ (by show 0+(enD g).length < big;rw[qaD8,t];unfold big;lia) ⟨_,_,rfl⟩ ?_ ?_
 . rintro y O ι S ⟨j,m,rfl⟩ R B c
   obtain⟨i,v,rfl,E⟩:=qaW6 O;have U:i < n.toNat:=by rw[<- t];exact(zA4.mp E).1
   refine qF4 (qaj4 (B7 rfl ?_));rcases u i v E with rfl | ⟨k,rfl,V,W⟩
   . exact Go false rfl nofun λ _=>⟨c,B _ ⟨_,_,rfl⟩⟩
   refine Go true rfl (λ _=>?_) nofun;refine qan1 (p:=Ac z a.Ca n wr b) (x:=.int k) (y:=.int (i:Nat)) rfl (qf7 rfl) rfl rfl rfl rfl (qao5 J V (by lia) (by lia)) rfl ?_;have this:=B _ ⟨.int (i:Nat),.int k,rfl⟩;cases G:A4 n wr b k (i:Nat) with
   | none=>exact absurd G W
   | some f =>
     have e:farP n wr b (.q [.int (i:Nat),.int k])=decide (0 < f):=by
       show (match A4 n wr b k (i:Nat) with | some f=>decide (0 < f) | none=>false)=_;rw[G]
     rw[e] at this;exact qa0 (a:=D.bl (decide (0 < f))) rfl ⟨c,this⟩
 rintro ι ⟨j,m,rfl⟩;rw[zBi,qah1];exact qa0 (qaP8 (farP n wr b) (enD g)) q
theorem qr3:qa8 ["plan", "rooms", "room", "word"] ["plan", "rooms"] (qa3 qx0):=by walk_at "s"
def qY9(n:Int)(wr:Bool)(ps:Pr)(ys:Ds):Option (Str×Nat):=(Ms n.toNat).findSome? λ r=>(B8 n wr ps ys r).map λ w=>(w,r)
def qao4(n:Int)(wr:Bool)(ps:Pr)(ys:Ds):D:=match qY9 n wr ps ys with
 | some (w,r)=>.q [.str w,.int (r:Nat)]
 | none=>if qo8 n wr ps ys=true then .q [.str "turned",.int 0] else .non
theorem qG5{n:Int}{wr:Bool}{ps:Pr}(c:ys[r]? = some v)(h:B8 n wr ps ys r=none):v=.non∨∃ k,v=.int k/\An k/\A4 n wr ps k (r:Nat)≠none:=by
 have d:atD ys r=v:=by unfold atD;rw[c];rfl
 unfold B8 at h;rw[d] at h;cases v with
 | non=>exact .inl rfl
 | int k =>
   have h:(if (D.int k).num=true then (if (ys.take r).any (qz2 k)=true then (some "twice" : Option Str) else match A4 n wr ps k (r:Int) with
     | none=>some "home"
     | some f=>if f=0 then none else F9 n wr ps (Row.prev n.toNat r) (atD ys (Row.prev n.toNat r)) k) else some "key")=(none:Option Str):=h
   by_cases a:(D.int k).num=true
   . rw[if_pos a] at h
     obtain⟨i,e,b⟩:=qE6 a;cases e;refine .inr ⟨k,rfl,b,λ g=>?_⟩;rw[g] at h;split at h<;>cases h
   rw[if_neg a] at h;cases h
 | _=>cases h
theorem qK2{α:Type}{r:Nat}{f:Nat->Option α}{a:α}:∀{N:Nat},r < N->(∀ i,i < r->f i=none)->f r=some a->(Ms N).findSome? f=some a
 | 0,hr,_,_=>absurd hr (zCb _)
 | N+1,hr,h0,h=>by
   rw[Nb,List.findSome?_append];by_cases b:r < N
   . rw[qK2 b h0 h];rfl
   have e:r=N:=by lia
   subst e;rw[List.findSome?_eq_none_iff.mpr λ i c=>h0 i (zAp.mp c)];show [r].findSome? f=_;rw[List.findSome?_cons,h]
theorem qT8{f:Nat->Option α}(a:∀ i,i < N->f i=none):(Ms N).findSome? f=none:=List.findSome?_eq_none_iff.mpr λ i b=>a i (zAp.mp b)
def qW5(C:γ):VSp:=Ay λ ds d=>∃ z n wr ps a ys,ds=[Ac z C n wr ps,.l a ys]/\1<=n/\n<=64/\ys.length=n.toNat/\(∀ y∈ys,∃ t,y.kind=some t)/\D.imms ys=true/\d=qao4 n wr ps ys
theorem qX9(T:Txt K mg a):VFn P w K mg base 9 a.f17 a.d17 ["plan", "rooms"] (qW5 a.Ca):=by
 refine VFn.mk2 T.d17.F qr3 (wOf [true,true]) qb1 (by walk_at "l") (λ _ _ _ _ _ _ _ B=>⟨_,(Ab (sif (tor (Bh (tv (vbi qf8 qu8.ops T.Cb (qa2 (vnm 1) (qa2 (vty "list" T.Cw) qa6 rfl) rfl)))) (Hm (q2 (As (qX6 B.u64) (qb2 _)) Gu (vbi qq5 qq4.ops T.Cq (qa2 (vnm 1) qa6 rfl)) (Bm rfl (vnm 0) T.Cd.cl T.Ce)))).te (Aj (Aq (qa4 (Gf (qa2 Bo (qa2 Af qa6 rfl) rfl))))) Ax) (Ab (qM8 Oz T.Cr (F4 (vaV (qb7 (Bm rfl (vnm 0) T.Cd.cl T.Ce)) Ad)) (Be 2 qr3.nd) (Ab (Al 3 qr3.nd (Ak T.d15 (qX7 T) qa1 (rm B) (vaN 0 (vaN 1 (vaN 2 Ad))))) (Aj (sif (q2 (As qp3 (qb2 _)) qu4 (vnm 3) A7) (Aj (Aq (qa4 (Gf (qa2 (vnm 3) (qa2 (vnm 2) qa6 rfl) rfl))))) Ax)))) (Aj (Aq (eif (te (Ak T.d16 (qO5 T) qa1 (rm B) (vaN 0 (vaN 1 Ad)))) (qa4 (Gf (qa2 Bo (qa2 Af qa6 rfl) rfl))) (qa4 A7)))))),λ p Q V h=>?_⟩);obtain⟨d,⟨z,n,wr,f,g,c,rfl,H,J,C,E,L,rfl⟩,q⟩:=h;refine At [Ac z a.Ca n wr f,.l g c,.u,.u] rfl ?_;have t:f2 gNe (Bd (fx1 Hw) (Bc (rdN 1) λ _=>some [])) (f1 (D.fld a.Ca "rooms") (rdN 0)) [Ac z a.Ca n wr f,.l g c,.u,.u]=some (.bl false):=Ae (qs9 rfl) (A9 rfl qd9) (by
   show some (D.bl (!((c.length:Nat):Int) == n))=_;rw[show ((c.length:Nat):Int)=n by lia,zAw];rfl)
 refine qe6 false (λ Q q=>qh2 false false (λ Q q=>qg0 (qag0 rfl) q) (λ _ Q q=>qh1 t q) q) nofun λ _=>?_
 refine qc5 (λ p=>(∀ i,i < n.toNat->B8 n wr f c i=none)/\∃ d u,p=[Ac z a.Ca n wr f,.l g c,d,u]) (λ K s=>?_) ?_
 . refine qP8 (A9 rfl qd9) (qP2 (by lia) (by lia)) ?_
   refine qe1 (λ i p=>(∀ j,j < i->B8 n wr f c j=none)/\∃ d u,p=[Ac z a.Ca n wr f,.l g c,d,u]) _ 0 _ ⟨λ j A=>absurd A (zCb _),_,_,rfl⟩ ?_ ?_
   . rintro j x M p ⟨m,d,u,rfl⟩ K s
     rw[zAc] at m s;obtain⟨A,rfl⟩:=qH4 M;have R:Rm n c j:=⟨C,E,L,λ i y o N=>by
       rcases qG5 N (m i o) with h | ⟨k,O,S,_⟩
       . exact .inl h
       exact .inr ⟨k,O,S⟩⟩
     refine qb0 [Ac z a.Ca n wr f,.l g c,.int (j:Nat),Hu (B8 n wr f c j)] (λ K s=>qY6 (x:=Ac z a.Ca n wr f) (y:=.l g c) (w:=.int (j:Nat)) rfl rfl rfl rfl rfl ⟨z,n,wr,f,g,c,j,rfl,H,A,R,rfl⟩ rfl s) ?_;cases e:B8 n wr f c j with
     | none =>
       refine if_v (b:=false) rfl nofun λ _=>s _ ⟨λ i o=>?_,_,_,rfl⟩
       rcases Nat.lt_succ_iff_lt_or_eq.mp o with h | rfl
       . exact m i h
       exact e
     | some w =>
       have G:qY9 n wr f c=some (w,j):=qK2 A (λ i o=>by rw[m i o];rfl) (by rw[e];rfl);have q:Q (match qY9 n wr f c with | some (w,r)=>.q [.str w,.int (r:Nat)] | none=>if qo8 n wr f c=true then .q [.str "turned",.int 0] else .non) [Ac z a.Ca n wr f,.l g c]:=q;rw[G] at q;exact if_v (b:=true) rfl (λ _=>q) nofun
   rintro p ⟨m,U⟩;refine s _ ⟨λ i o=>m i ?_,U⟩;unfold Bu;rw[zAf,zB4,zAc];exact o
 rintro p ⟨m,d,u,rfl⟩;have G:qY9 n wr f c=none:=qT8 λ i o=>by rw[m i o];rfl
 have q:Q (match qY9 n wr f c with | some (w,r)=>.q [.str w,.int (r:Nat)] | none=>if qo8 n wr f c=true then .q [.str "turned",.int 0] else .non) [Ac z a.Ca n wr f,.l g c]:=q;rw[G] at q;refine qf5 ?_;refine qz0 (x:=Ac z a.Ca n wr f) (y:=.l g c) (d:=.bl (qo8 n wr f c)) rfl rfl rfl ⟨z,n,wr,f,g,c,rfl,H,J,C,λ i v I=>qG5 I (m i (by rw[<- C];exact(zA4.mp I).1)),rfl⟩ rfl ?_;refine qa0 (a:=qo8 n wr f c) rfl (ite_b (λ h=>?_) λ h=>?_)
 . have q:Q (if qo8 n wr f c=true then .q [.str "turned",.int 0] else .non) [Ac z a.Ca n wr f,.l g c]:=q
   rw[if_pos h] at q;exact q
 have q:Q (if qo8 n wr f c=true then .q [.str "turned",.int 0] else .non) [Ac z a.Ca n wr f,.l g c]:=q;rw[if_neg (by rw[h];decide)] at q;exact q
theorem qr4:qa8 ["self", "plan", "rooms", "held", "fault"] ["self", "plan", "rooms"] (qa3 qx4):=by walk_at "s"
theorem qaE7{g:Nat->Option Int}(h:r < N):atD (P5 N g) r=Fs (g r):=by unfold atD;rw[qJ7 h];rfl
theorem qaF7{g:Nat->Option Int}(h:r<=N):(P5 N g).take r=P5 r g:=by
 unfold P5;rw[<- Nf,List.take_range,Nat.min_eq_left h]
theorem qaY4{g:Nat->Option Int}:(P5 r g).any (qz2 k)=true↔∃ j,j < r/\g j=some k:=by
 unfold P5;rw[Oh,N4];constructor
 . rintro⟨j,a,e⟩
   refine⟨j,zAp.mp a,?_⟩;have e:qz2 k (Fs (g j))=true:=e;cases h:g j with
   | none=>rw[h] at e;cases e
   | some x=>rw[h] at e;rw[zAb (show decide (x=k)=true from e)]
 rintro⟨j,a,e⟩;refine⟨j,zAp.mpr a,?_⟩;show qz2 k (Fs (g j))=true;rw[e];exact zAq rfl
theorem qaE8{n:Int}{wr:Bool}{ps:Pr}{g:Nat->Option Int}(a:r < n.toNat)(b:g r=some k)(c:An k):B8 n wr ps (P5 n.toNat g) r=(if (P5 r g).any (qz2 k)=true then (some "twice" : Option Str) else match A4 n wr ps k (r:Int) with
   | none=>some "home"
   | some f=>if f=0 then none else F9 n wr ps (Row.prev n.toNat r) (Fs (g (Row.prev n.toNat r))) k):=by
 unfold B8;rw[qaE7 a,qaE7 (Row.qi4 a),qaF7 (zB5 a),b];show (if (D.int k).num=true then _ else _)=_;rw[if_pos (qs6 c)]
 try rfl
theorem qaO7(h:ys[i]? = some v):D.q [.int (i:Nat),v]∈enD ys:=zBb.mpr ⟨(v,i),List.mem_zipIdx_iff_getElem?.mpr h,rfl⟩
theorem qaf8{n:Int}{wr:Bool}{ps:Pr}{g:Nat->Option Int}(m:1<=n)(KP:Kept n.toNat wr (P1 n ps) g S)(t:∀ k∈S,An k):qao4 n wr ps (P5 n.toNat g)=.non:=by
 have p:∀{i k},i < n.toNat->g i=some k->An k:=λ{i k} l h=>t k ((KP.h.2 k).mpr ⟨i,l,h⟩)
 have b:qY9 n wr ps (P5 n.toNat g)=none:=qT8 λ r d=>by
   have:B8 n wr ps (P5 n.toNat g) r=none:=by
     cases a:g r with
     | none=>unfold B8;rw[qaE7 d,a];rfl
     | some k =>
       have q:=Row.qi4 d;rw[qaE8 d a (p d a),if_neg (λ z=>by
         obtain⟨j,A,e⟩:=qaY4.mp z
         have:=KP.o.inj j r k (by lia) d e a
         lia),qC9 m d (λ b=>KP.ln b r k d a)]
       show (if ((Aa n.toNat (P1 n ps k) r:Nat):Int)=0 then none else _)=_;by_cases B:Aa n.toNat (P1 n ps k) r=0
       . rw[if_pos (by lia)]
       obtain⟨x,s,u⟩:=KP.o.ord r k d a (by lia);rw[if_neg (by lia),s];show (if (D.int x).num=true then (if qk4 n wr ps (Row.prev n.toNat r:Nat) x k=true then (none:Option Str) else some "order") else none)=none;have v:=Fb (ps:=ps) m k;rw[if_pos (qs6 (p q s)),if_pos ((qG4 (ps:=ps) m q (λ b=>KP.ln b _ x q s) (λ b=>by
         have C:=KP.ln b r k d a;have E:=dor n.toNat (P1 n ps k) r;have F:=por n.toNat r
         lia)).mpr u)]
   rw[this];rfl
 have w:qo8 n wr ps (P5 n.toNat g)=false:=by
   obtain⟨i,l,y⟩:=KP.c;refine List.all_eq_false.mpr ⟨_,qaO7 (qJ7 l),?_⟩;cases a:g i with
   | none=>exact λ h=>by cases h
   | some k =>
     show ¬ (match A4 n wr ps k (i:Nat) with | some f=>decide (0 < f) | none=>false)=true;rw[qC9 m l (λ b=>KP.ln b i k l a),(qb8 (Fb m k) l).mpr (y k a).symm];exact λ h=>by cases h
 unfold qao4;rw[b,w];rfl
def Bl(zr:Bool)(C CP:γ)(n:Int)(wr:Bool)(ps:Pr)(g:Nat->Option Int)(dn:Ds):D:=.ins zr C [("plan",Ac true CP n wr ps),("held",.l zr (P5 n.toNat g)),("done",.l zr dn)]
abbrev rA(a:Adr)(n:Int)(wr:Bool)(ps:Pr)(g:Nat->Option Int)(dn:Ds):D:=Bl false a.Cg a.Ca n wr ps g dn
abbrev kL(S:List Int):D:=.l false (P4 S)
abbrev rL(n:Int)(g:Nat->Option Int):D:=.l false (P5 n.toNat g)
section
variable{zr:Bool}{C CP:γ}{n:Int}{wr:Bool}{ps:Pr}{g:Nat->Option Int}{dn:Ds}
theorem qE2:D.fld C "plan" (Bl zr C CP n wr ps g dn)=some (Ac true CP n wr ps):=qK1 (by rfl)
theorem qv1:D.fld C "held" (Bl zr C CP n wr ps g dn)=some (.l zr (P5 n.toNat g)):=qK1 (by rfl)
theorem qh5(h:([("plan",Ac true CP n wr ps),("held",.l zr (P5 n.toNat g)),("done",.l zr dn)]:List (Str×D)).lookup m=none):(Bl zr C CP n wr ps g dn).isM C m=true:=qat9 h
end
theorem qF8{zr:Bool}{C CP:γ}{n:Int}{wr:Bool}{ps:Pr}{g:Nat->Option Int}{dn:Ds}:D.fidx C "held" (Bl zr C CP n wr ps g dn)=some 1:=by
 show (if C=C then List.findIdx? (λ q:Str×D=>("held" : Str) == q.1) [("plan",Ac true CP n wr ps),("held",.l zr (P5 n.toNat g)),("done",.l zr dn)] else none)=_;rw[if_pos rfl];rfl
theorem qaX9{p:List Nat}{w:V}{d0:D}(h:Ba ds i p=some (.hole w)):bk1 i p w d0 ds=some (Bj ds i p d0):=by
 unfold bk1 Au;rw[h];simp only[if_true];unfold Au;rfl
theorem qaC9{C:γ}{f:Str}{pf:PF}(h:te ds (λ d ds1=>orF (pf ds1) λ q=>orF ((Ba ds1 q.1 q.2).bind (D.ownI C)) λ fs=>fs.length < 100/\e.nx (Bj ds1 q.1 q.2 (.ins false C (Gj f d fs)))) e.xe):sFldV C f te pf e ds:=h
theorem mv_to(h:rdN i ds=some d)(q:Q d (ds.set i .u)):tMv i ds Q xe:=qa0 h q
def qW9(C CP:γ):VSp:=λ ds Q _=>∃ n wr ps r g S,ds=[.ins false C [],Ac true CP n wr ps,r]/\1<=n/\n<=64/\(∀ k∈S,An k)/\Kept n.toNat wr (P1 n ps) g S/\(r=.non/\g=(λ _=>none)∨∃ z,r=.l z (P5 n.toNat g))/\Q .non [Bl false C CP n wr ps g [],Ac true CP n wr ps,r]
theorem qC2(T:Txt K mg a):VFn P w K mg base 10 a.f25 a.d25 ["self", "plan", "rooms"] (qW9 a.Cg a.Ca):=by
 refine VFn.mkE T.d25.F qr4 (wOf [true,true,true]) (λ j Q Q' l p s _ h=>by obtain⟨n,wr,c,r,g,S,e,t,u,v,A,B,q⟩:=h;exact⟨n,wr,c,r,g,S,e,t,u,v,A,B,s _ _ q⟩) (λ j Q l h=>by obtain⟨n,wr,c,r,g,S,e,_⟩:=h;rw[e];rfl) (λ j Q l h=>by obtain⟨n,wr,c,r,g,S,e,_⟩:=h;rw[e];rfl) (λ _ _ _ _ _ _ _ i=>⟨_,(Ab (sif (Bh (tv (vbi (qaE4 T.Ej T.Cd.cl) qaX3.ops T.Cb (qa2 (vnm 1) (qa2 (vcls a.Ca T.Cd.m) qa6 rfl) rfl)))) (Aj qn5) Ax) (Ab (sif (Jm (q2 (As qp3 (qb2 _)) qu4 (vnm 2) A7) (Gv (Bh (tv (vbi qf8 qu8.ops T.Cb (qa2 (vnm 2) (qa2 (vty "list" T.Cw) qa6 rfl) rfl)))))).te (Aj qn5) Ax) (Ab (Al 3 qr4.nd (eif (q2 (As F6 (qb2 _)) F5 (vnm 2) A7) (qa4 (v2 (Am qy1) qy0 (By (qa2 A7 qa6 rfl)) (Bm rfl (vnm 1) T.Cd.cl T.Ce))) (qa4 (Hx qj9 qU7.ops T.Cw (qa2 (vnm 2) qa6 rfl))))) (Ab (Al 4 qr4.nd (Ak T.d17 (qX9 T) qa1 (rm i) (vaN 1 (vaN 3 Ad)))) (Ab (sif (q2 (As qp3 (qb2 _)) qu4 (vnm 4) A7) (Aj qn5) Ax) (Ab (Ic rfl (vpn 0) (qb7 (vnm 1)) T.Cf.cl T.Cs) (Ab (Ic rfl (vpn 0) (emv 3) T.Cf.cl T.Ch) (Aj (Ic rfl (vpn 0) (qa4 (By qa6)) T.Cf.cl T.D1))))))))),λ j Q l h=>?_⟩);obtain⟨n,wr,c,r,g,S,rfl,o,C,D,KP,i,q⟩:=h;have G:r.known=true:=by
   rcases i with⟨rfl,_⟩ | ⟨z,rfl⟩<;>rfl
 refine At [.ins false a.Cg [],Ac true a.Ca n wr c,r,.u,.u] rfl ?_;refine qaN6 (show gIsO a.Ca (Ac true a.Ca n wr c) (.adr a.Ca)=some (.bl true) from qaC0) ?_;refine qe6 false (λ Q q=>?_) nofun λ _=>?_
 . rcases i with⟨rfl,_⟩ | ⟨z,rfl⟩
   . exact qn2 false false (λ Q q=>qh1 (b:=false) (Ae rfl rfl rfl) q) nofun q
   exact qn2 true false (λ Q q=>qh1 (b:=true) (Ae rfl rfl rfl) q) (λ _ Q q=>qg0 (b:=true) (qag0 rfl) q) q
 refine qb0 [.ins false a.Cg [],Ac true a.Ca n wr c,r,rL n g,.u] (λ K f=>qe5 ?_) ?_
 . rcases i with⟨rfl,rfl⟩ | ⟨z,rfl⟩
   . exact Gn (b:=true) (Ae rfl rfl rfl) (λ _=>qu6 (Ae rfl (A9 rfl qd9) (qP1 (by lia) C)) f) nofun
   exact Gn (b:=false) (Ae rfl rfl rfl) nofun λ _=>qu6 (d:=rL n g) (show Ko (.l z (P5 n.toNat g))=_ from qo4 (qJ0 _ _)) f
 refine qb0 [.ins false a.Cg [],Ac true a.Ca n wr c,r,rL n g,.non] (λ K f=>qe5 ?_) ?_
 . refine qz0 (x:=Ac true a.Ca n wr c) (y:=rL n g) (d:=qao4 n wr c (P5 n.toNat g)) rfl rfl rfl ⟨true,n,wr,c,false,P5 n.toNat g,rfl,o,by lia,qz1 _ _,λ y E=>?_,qJ0 _ _,rfl⟩ rfl ?_
   . rcases qay2 E with rfl | ⟨k,rfl⟩
     . exact⟨_,rfl⟩
     exact⟨_,rfl⟩
   rw[qaf8 o KP D];exact f
 refine qe6 false (λ Q q=>qh1 (b:=false) (Ae rfl rfl rfl) q) nofun λ _=>?_
 refine qb0 [.ins false a.Cg [("plan",Ac true a.Ca n wr c)],Ac true a.Ca n wr c,r,rL n g,.non] (λ K f=>qaC9 (qJ2 (d:=Ac true a.Ca n wr c) rfl rfl (qa0 (a:=(0,[])) rfl (qa0 qj6 ⟨by decide,f⟩)))) ?_;refine qb0 [.ins false a.Cg [("plan",Ac true a.Ca n wr c),("held",rL n g)],Ac true a.Ca n wr c,r,.u,.non] (λ K f=>qaC9 (mv_to (d:=rL n g) rfl (qa0 (a:=(0,[])) rfl (qa0 qj6 ⟨by show 1 < 100;decide,f⟩)))) ?_;exact qaC9 (qu6 (d:=.l false []) rfl (qa0 (a:=(0,[])) rfl (qa0 qj6 ⟨by show 2 < 100;decide,q⟩)))
theorem qN2:qa8 ["plan", "keys", "room"] ["plan", "keys", "room"] (qa3 qs0):=by walk_at "s"
def qM3(C:γ):VSp:=Ay λ ds d=>∃ z n wr ps a ks r,ds=[Ac z C n wr ps,.l a (P4 ks),.int r]/\1<=n/\(∀ k∈ks,An k)/\ks.length<=1000/\d=.bl (if wr=true then decide (r=0)&&decide (n < (ks.length:Int)) else decide (n - r < ((ks.filter λ k=>decide (r<=qc2 n ps k)).length:Int)))
theorem qO7(T:Txt K mg a):VFn P w K mg base 5 a.f18 a.d18 ["plan", "keys", "room"] (qM3 a.Ca):=by
 refine VFn.mk2 T.d18.F qN2 (wOf [true,true,true]) qb1 (by walk_at "l") (λ _ _ _ _ _ _ _ m=>⟨_,(Ab (sif (tv (Bm rfl (vnm 0) T.Cd.cl T.Ci)) (Aj (Aq (qa4 (vand (v2 (A6 (qi0 m.u64) (qb2 _)) Bf (vnm 2) Af) (Kq (v2 (A6 Er (qb2 _)) Ev (vbi qq5 qq4.ops T.Cq (qa2 (vnm 1) qa6 rfl)) (Bm rfl (vnm 0) T.Cd.cl T.Ce))))))) Ax) (Aj (Aq (e2v (A6 Er (qb2 _)) Ev (ebi qq5 qq4.ops T.Cq (F4 (vaV (ecN (NY:=["key", "room", "plan"]) (src:=[none,some 2,some 0]) 1 (blk (λ o C s H0 t=>(Be 0 (show (["key", "room", "plan"]:List Str).Nodup by decide +kernel))) (λ o C s H0 t=>(Kw (q2v (A6 He (qb2 _)) (As He (qb2 _)) Ir (qm5 2 T.d10 T.Cd.cl (qo0 T) qt0 (rm m) (vaN 0 Ad)) (vnm 1)))) (λ o C s H0 t=>(qb7 (vnm 0))))) Ad))) (v2 (Am qs5) qs4 (Bm rfl (vnm 0) T.Cd.cl T.Ce) (vnm 2)))))),λ E Q G h=>?_⟩);obtain⟨d,⟨z,n,wr,b,f,c,r,rfl,u,v,H,rfl⟩,q⟩:=h;refine At [Ac z a.Ca n wr b,.l f (P4 c),.int r] rfl ?_;refine qk6 wr (A9 rfl qv5) (λ h=>?_) λ h=>?_
 . rw[if_pos h] at q
   have g:f2 gGt (Bd (fx1 Hw) (Bc (rdN 1) λ _=>some [])) (f1 (D.fld a.Ca "rooms") (rdN 0)) [Ac z a.Ca n wr b,.l f (P4 c),.int r]=some (.bl (decide (n < (c.length:Int)))):=Ae (qs9 rfl) (A9 rfl qd9) (by rw[qh0];rfl);exact qk0 _ (qah2 (a:=decide (r=0)) rfl g) q
 rw[if_neg (by rw[h];decide)] at q;refine qf5 ?_;refine⟨qk2 c,?_⟩;refine qq6 (λ ι=>∃ d,ι=[d,.int r,Ac z a.Ca n wr b]) (G5 λ k=>decide (r<=qc2 n b k)) (P4 c) [] _ (by show 0+(P4 c).length < big;rw[qh0];unfold big;lia) ⟨_,rfl⟩ ?_ ?_
 . rintro y A ι i ⟨d,rfl⟩ R B e
   obtain⟨k,j,rfl⟩:=zBb.mp A;refine qP3 (p:=Ac z a.Ca n wr b) (x:=.int k) (d:=.int (qc2 n b k)) rfl (qf7 rfl) rfl rfl ⟨z,n,wr,b,k,rfl,u,v k j,rfl⟩ rfl ?_;have this:=B _ ⟨.int k,rfl⟩;refine qa0 (a:=D.bl (decide (r<=qc2 n b k))) rfl (qa0 (a:=decide (r<=qc2 n b k)) rfl (ite_b (λ h=>?_) λ h=>?_))
   . rw[qat7 (p:=λ k=>decide (r<=qc2 n b k)) h] at this
     exact⟨rfl,e,this⟩
   rw[qat8 (p:=λ k=>decide (r<=qc2 n b k)) h] at this;have this:R (i++[]) _:=this;rw[zAg] at this;exact this
 rintro ι ⟨d,rfl⟩;rw[zBi,qP6];refine qa0 (a:=D.bl (decide (n - r < ((c.filter λ k=>decide (r<=qc2 n b k)).length:Int)))) ?_ q;show (f2 gSub (f1 (D.fld a.Ca "rooms") (rdN 0)) (rdN 2) [Ac z a.Ca n wr b,.l f (P4 c),.int r]).bind (gGt (D.int ((P4 (c.filter λ k=>decide (r<=qc2 n b k))).length:Nat)))=_;rw[Ae (A9 rfl qd9) rfl rfl,qh0];rfl
theorem qm7:qa8 ["plan", "keys", "room"] ["plan", "keys"] (qa3 qj2):=by walk_at "s"
def qK4(n:Int)(wr:Bool)(ps:Pr)(ks:List Int)(r:Int):Bool:=if wr=true then decide (r=0)&&decide (n < (ks.length:Int)) else decide (n - r < ((ks.filter λ k=>decide (r<=qc2 n ps k)).length:Int))
def qU8(n:Int)(wr:Bool)(ps:Pr)(ks:List Int):Option Nat:=(Ms n.toNat).find? λ r=>qK4 n wr ps ks (r:Int)
noncomputable def natD:Option Nat->D
 | none=>.non
 | some k=>.int (k:Int)
def qA1(C:γ):VSp:=Ay λ ds d=>∃ z n wr ps a ks,ds=[Ac z C n wr ps,.l a (P4 ks)]/\1<=n/\n<=64/\(∀ k∈ks,An k)/\ks.length<=1000/\d=natD (qU8 n wr ps ks)
theorem qA8(T:Txt K mg a):VFn P w K mg base 6 a.f19 a.d19 ["plan", "keys"] (qA1 a.Ca):=by
 refine VFn.mk2 T.d19.F qm7 (wOf [true,true]) qb1 (by walk_at "l") (λ _ _ _ _ _ _ _ t=>⟨_,(Ab (qM8 Oz T.Cr (F4 (vaV (qb7 (Bm rfl (vnm 0) T.Cd.cl T.Ce)) Ad)) (Be 2 qm7.nd) (Aj (sif (te (Ak T.d18 (qO7 T) qa1 (rm t) (vaN 0 (vaN 1 (vaN 2 Ad))))) (Aj (Aq (emv 2))) Ax))) (Aj (Aq (qa4 A7)))),λ g Q u h=>?_⟩);obtain⟨d,⟨z,n,wr,c,o,f,rfl,v,E,A,B,rfl⟩,q⟩:=h;refine At [Ac z a.Ca n wr c,.l o (P4 f),.u] rfl ?_;refine qc5 (λ g=>(∀ i,i < n.toNat->qK4 n wr c f (i:Int)=false)/\∃ d,g=[Ac z a.Ca n wr c,.l o (P4 f),d]) (λ K p=>?_) ?_
 . refine qP8 (A9 rfl qd9) (qP2 (by lia) (by lia)) ?_
   refine qe1 (λ i g=>(∀ j,j < i->qK4 n wr c f (j:Int)=false)/\∃ d,g=[Ac z a.Ca n wr c,.l o (P4 f),d]) _ 0 _ ⟨λ j r=>absurd r (zCb _),_,rfl⟩ ?_ ?_
   . rintro j x C g ⟨k,d,rfl⟩ K p
     rw[zAc] at k p;obtain⟨r,rfl⟩:=qH4 C;refine if_e (b:=qK4 n wr c f (j:Int)) (λ Q u q=>qY6 (x:=Ac z a.Ca n wr c) (y:=.l o (P4 f)) (w:=.int (j:Int)) rfl rfl rfl rfl rfl ⟨z,n,wr,c,o,f,_,rfl,v,A,B,rfl⟩ rfl q) (λ s=>?_) (λ s=>?_)
     . have e:qU8 n wr c f=some j:=List.find?_range_eq_some.mpr ⟨s,zAp.mpr r,λ i m=>by rw[k i m];rfl⟩
       rw[e] at q;exact q
     refine p _ ⟨λ i m=>?_,_,rfl⟩;rcases Nat.lt_succ_iff_lt_or_eq.mp m with h | rfl
     . exact k i h
     exact s
   rintro g ⟨k,D⟩;refine p _ ⟨λ i m=>k i ?_,D⟩;unfold Bu;rw[zAf,zB4,zAc];exact m
 rintro g ⟨k,d,rfl⟩;have e:qU8 n wr c f=none:=List.find?_range_eq_none.mpr λ i m=>by rw[k i m];rfl
 rw[e] at q;exact q
theorem qm6:qa8 ["plan", "keys", "room"] ["plan", "keys"] (qa3 qj0):=by walk_at "s"
theorem _root_.Row.Kept.perm{n:Nat}{wr:Bool}{hm:Int->Nat}{g:Nat->Option Int}(KP:Kept n wr hm g S):((Ms n).filterMap g).Perm S:=by
 refine(Ng ?_ KP.h.1).mpr λ k=>?_
 . refine List.pairwise_filterMap.mpr (List.Pairwise.imp_of_mem (R:=(·≠·)) (λ{i j} a d f b l m c e=>?_) Nj)
   subst e;exact f (KP.o.inj i j b (zAp.mp a) (zAp.mp d) l c)
 rw[KP.h.2 k,List.mem_filterMap];exact⟨λ ⟨i,a,e⟩=>⟨i,zAp.mp a,e⟩,λ ⟨i,a,e⟩=>⟨i,zAp.mpr a,e⟩⟩
def qI3(n:Int)(wr:Bool)(ps:Pr)(ks:List Int):Prop:=∀ r:Nat,r < n.toNat->qK4 n wr ps ks (r:Int)=false
theorem qQ4{n:Int}{wr:Bool}{ps:Pr}(h:qI3 n wr ps ks):qU8 n wr ps ks=none:=List.find?_range_eq_none.mpr λ i a=>by rw[h i a];rfl
theorem qap7{n:Int}{wr:Bool}{ps:Pr}(h1:1<=n)(a:r < n.toNat):qK4 n wr ps ks (r:Int)=true↔Crowd n.toNat wr (P1 n ps) ks r:=by
 unfold qK4 Crowd;cases wr with
 | true =>
   simp only[if_true,zBe,zBf];lia
 | false =>
   have e:(ks.filter λ k=>decide ((r:Int)<=qc2 n ps k))=ks.filter λ k=>decide (r<=P1 n ps k):=by
     apply Nh;intro k _
     have:=qJ4 (ps:=ps) h1 k
     apply zC2.mpr;lia
   simp only[Bool.false_eq_true,if_false,e,zBf];lia
theorem qI3.of{n:Int}{wr:Bool}{ps:Pr}(h1:1<=n)(h:∀ q,¬ Crowd n.toNat wr (P1 n ps) ks q):qI3 n wr ps ks:=λ r a=>by
 cases e:qK4 n wr ps ks (r:Int) with
 | false=>rfl
 | true=>exact absurd ((qap7 h1 a).mp e) (h r)
def qz9(C:γ):VSp:=Ay λ ds d=>∃ z n wr ps a ks,ds=[Ac z C n wr ps,.l a (P4 ks)]/\1<=n/\n<=64/\(∀ k∈ks,An k)/\ks.length<=1000/\qI3 n wr ps ks/\d=.non
theorem qA6(T:Txt K mg a):VFn P w K mg base 7 a.f20 a.d20 ["plan", "keys"] (qz9 a.Ca):=by
 refine VFn.mk2 T.d20.F qm6 (wOf [true,true]) qb1 (by walk_at "l") (λ _ _ _ _ _ _ _ g=>⟨_,(Ab (Al 2 qm6.nd (Ak T.d19 (qA8 T) qa1 (rm g) (vaN 0 (vaN 1 Ad)))) (Aj (sif (q2 (As qp3 (qb2 _)) qu4 (vnm 2) A7) (Aj qn5) Ax))),λ r Q s h=>?_⟩);obtain⟨d,⟨z,n,wr,c,e,f,rfl,i,j,k,m,o,rfl⟩,q⟩:=h;refine At [Ac z a.Ca n wr c,.l e (P4 f),.u] rfl ?_;refine qb0 [Ac z a.Ca n wr c,.l e (P4 f),.non] (λ K p=>?_) ?_
 . exact qz0 (x:=Ac z a.Ca n wr c) (y:=.l e (P4 f)) (d:=.non) rfl rfl rfl ⟨z,n,wr,c,e,f,rfl,i,j,k,m,by rw[qQ4 o];rfl⟩ rfl p
 exact if_v (b:=false) rfl nofun λ _=>q
theorem qg2:qa8 ["plan", "rooms", "key", "came", "room", "held"] ["plan", "rooms", "key"] (qa3 qx1):=by walk_at "s"
def qW6(C:γ):VSp:=λ ds Q _=>∃ z n wr ps g S key,ds=[Ac z C n wr ps,rL n g,.int key]/\1<=n/\n<=64/\An key/\(∀ k∈S,An k)/\Kept n.toNat wr (P1 n ps) g S/\¬ key∈S/\(∃ e,Free n.toNat wr (P1 n ps) g key e) /\
 ∀ came g',Kept n.toNat wr (P1 n ps) g' (S++[key])->Q (.l false came) [Ac z C n wr ps,rL n g',.int key]
theorem qY0(T:Txt K mg a):VFn P w K mg base 7 a.f21 a.d21 ["plan", "rooms", "key"] (qW6 a.Ca):=by
 refine VFn.mk2 T.d21.F qg2 (wOf [true,true,false]) (by walk_at "m") (by walk_at "l") (λ _ _ _ _ _ _ _ j=>⟨_,(Ab (Al 3 qg2.nd (qa4 (By qa6))) (Ab (Al 4 qg2.nd (qm5 0 T.d10 T.Cd.cl (qo0 T) qa1 (rm j) (vaN 2 Ad))) (Ab (qar2 Oz (q2 (As qp3 (qb2 _)) qu4 (v2 (Av qb3) Ap (vnm 1) (vnm 4)) A7) (Ab (Al 5 qg2.nd (qb7 (v2 (Av qb3) Ap (vnm 1) (vnm 4)))) (Ab (sif (te (qm5 0 T.d12 T.Cd.cl (qi5 T) qa1 (rm j) (vaN 4 (vaN 2 (vaN 5 Ad))))) (Ab (Bq (Fe 3 qu7 O2 O3 O4 qd2 (vaV (qa4 (Gf (qa2 (vnm 2) (qa2 (vnm 4) qa6 rfl) rfl))) Ad))) (Ab (Fo (qb7 (vnm 2)) (Ep (vpn 1) (vnm 4))) (Aj (Al 2 qg2.nd (qb7 (vnm 5)))))) Ax) (Aj (Al 4 qg2.nd (qa4 (v2 (Am ql3) ql2 (v2 (Am qg7) qg6 (vnm 4) Af) (Bm rfl (vnm 0) T.Cd.cl T.Ce)))))))) (Ab (Bq (Fe 3 qu7 O2 O3 O4 qd2 (vaV (qa4 (Gf (qa2 (vnm 2) (qa2 (vnm 4) qa6 rfl) rfl))) Ad))) (Ab (Fo (qb7 (vnm 2)) (Ep (vpn 1) (vnm 4))) (Aj (Aq (emv 3)))))))),λ o Q J h=>?_⟩);obtain⟨z,n,wr,f,g,S,key,rfl,u,X,s,L,KP,A,⟨e,Fr⟩,q⟩:=h;have M:=Fb (ps:=f) u key;have H:∀ x∈S++[key],An x:=λ x v=>by
   rcases zA9.mp v with h | h
   . exact L x h
   rw[zAl.mp h];exact s
 have E:(S++[key]).Nodup:=zBr.mpr ⟨KP.h.1,(by simp),λ x v y B e=>A (by rw[<- zAl.mp B,<- e];exact v)⟩;refine At [Ac z a.Ca n wr f,rL n g,.int key,.u,.u,.u] rfl ?_;refine qb0 [Ac z a.Ca n wr f,rL n g,.int key,.l false [],.u,.u] (λ K i=>i) ?_;refine qb0 [Ac z a.Ca n wr f,rL n g,.int key,.l false [],.int (P1 n f key:Nat),.u] (λ K i=>?_) ?_
 . exact qP3 (p:=Ac z a.Ca n wr f) (x:=.int key) (d:=.int (P1 n f key:Nat)) rfl (qf7 rfl) rfl rfl ⟨z,n,wr,f,key,rfl,u,s,by rw[qJ4 u]⟩ rfl i
 refine qc5 (λ o=>∃ g2 c r came t,o=[Ac z a.Ca n wr f,rL n g2,.int c,.l false came,.int (r:Nat),t]/\Row.Walk n.toNat wr (P1 n f) (S++[key]) key e g2 c r/\g2 r=none/\came.length<=64) (λ K i=>?_) ?_
 . have W0:=KP.start A Fr
   refine qZ5 (λ m o=>∃ g2 c r came t,o=[Ac z a.Ca n wr f,rL n g2,.int c,.l false came,.int (r:Nat),t]/\Row.Walk n.toNat wr (P1 n f) (S++[key]) key e g2 c r/\m=Aa n.toNat (P1 n f key) e - Aa n.toNat (P1 n f key) r/\came.length+m<=64) _ ⟨g,key,P1 n f key,[],_,rfl,W0,rfl,by have:=qh6 Fr.1 M;show 0+_<=64;lia⟩ ?_;rintro m o ⟨g2,c,r,came,t,rfl,W,rfl,N⟩ K2 G;have j:=W.hr;cases k:g2 r with
   | none =>
     refine qh1 (b:=false) (Ae (Ae rfl rfl (Ft j)) rfl (by rw[k];rfl)) ?_;exact i _ ⟨g2,c,r,came,t,rfl,W,k,by lia⟩
   | some y =>
     refine qh1 (b:=true) (Ae (Ae rfl rfl (Ft j)) rfl (by rw[k];rfl)) ?_;have v:wr=false->P1 n f c<=r:=λ h=>(W.ln h).2.1
     have B:wr=false->P1 n f y<=r:=λ h=>(W.ln h).2.2 r y j k
     have O:An c:=H c ((W.all c).mpr (.inl rfl));have R:An y:=H y ((W.all y).mpr (.inr ⟨r,j,k⟩));have Y:=W.lt k;have I:=W.nx k;refine B7 rfl ?_;refine qb0 [Ac z a.Ca n wr f,rL n g2,.int c,.l false came,.int (r:Nat),.int y] (λ K i=>?_) ?_
     . exact qw2 (d:=.int y) (Ae rfl rfl (by rw[Ft j,k];rfl)) rfl i
     refine qc5 (λ o=>∃ g3 C came3,o=[Ac z a.Ca n wr f,rL n g3,.int C,.l false came3,.int (r:Nat),.int y]/\Row.Walk n.toNat wr (P1 n f) (S++[key]) key e g3 C (Row.next n.toNat r)/\came3.length<=came.length+1) (λ K i=>?_) ?_
     . refine if_e (b:=qk4 n wr f (r:Nat) c y) (λ Q J q=>qaU6 (p:=Ac z a.Ca n wr f) (x:=.int (r:Nat)) (y:=.int c) (w:=.int y) rfl (qf7 rfl) rfl rfl rfl rfl rfl rfl ⟨z,n,wr,f,(r:Nat),c,y,rfl,u,by lia,by lia,O,R,rfl⟩ rfl q) (λ D=>?_) (λ D=>?_)
       . have U:=(qG4 u j v B).mp D
         refine qb0 [Ac z a.Ca n wr f,rL n g2,.int c,.l false (came++[.q [.int c,.int (r:Nat)]]),.int (r:Nat),.int y] (λ K i=>?_) ?_
         . exact qK9 (ys:=came) (d:=.q [.int c,.int (r:Nat)]) rfl rfl (by show came.length < 1000000;lia) i
         refine qb0 [Ac z a.Ca n wr f,rL n (Row.set g2 r c),.int c,.l false (came++[.q [.int c,.int (r:Nat)]]),.int (r:Nat),.int y] (λ K i=>?_) ?_
         . refine qB7 (d:=.int c) (ys:=P5 n.toNat g2) rfl rfl rfl rfl (qF2 j) ?_
           rw[qw3];exact i
         exact qw2 (d:=.int y) rfl rfl (i _ ⟨Row.set g2 r c,y,_,rfl,W.swap k U,by rw[zAe];exact zA3 _⟩)
       exact i _ ⟨g2,c,came,rfl,W.on k (λ h=>by rw[(qG4 u j v B).mpr h] at D;cases D),by lia⟩
     rintro o ⟨g3,C,came3,rfl,W3,V⟩;refine qw1 (d:=.int (Row.next n.toNat r:Nat)) (Ae (Ae rfl rfl rfl) (A9 rfl qd9) (by rw[Fh (by lia),qae0 u j])) ?_;exact G _ _ (by rw[I];lia) ⟨g3,C,_,came3,_,rfl,W3,rfl,by rw[I];lia⟩
 rintro o ⟨g2,c,r,came,t,rfl,W,k,N⟩;have j:=W.hr;refine qb0 [Ac z a.Ca n wr f,rL n g2,.int c,.l false (came++[.q [.int c,.int (r:Nat)]]),.int (r:Nat),t] (λ K i=>?_) ?_
 . exact qK9 (ys:=came) (d:=.q [.int c,.int (r:Nat)]) rfl rfl (by show came.length < 1000000;lia) i
 refine qb0 [Ac z a.Ca n wr f,rL n (Row.set g2 r c),.int c,.l false (came++[.q [.int c,.int (r:Nat)]]),.int (r:Nat),t] (λ K i=>?_) ?_
 . refine qB7 (d:=.int c) (ys:=P5 n.toNat g2) rfl rfl rfl rfl (qF2 j) ?_
   rw[qw3];exact i
 exact q _ _ (W.done E k)
theorem qw5:qa8 ["self"] ["self"] (qa3 qh8):=by walk_at "s"
noncomputable def Hv(y:D):Option D:=match y with
 | .int k=>some (.int k)
 | _=>none
theorem qaf9(N:Nat)(g:Nat->Option Int):(P5 N g).filterMap Hv=P4 ((Ms N).filterMap g):=by
 unfold P5 P4;rw[Ny,List.map_filterMap];refine congrArg (λ f=>Oe f (Ms N)) (funext λ i=>?_);show Hv (Fs (g i))=(g i).map D.int;cases g i<;>rfl
def qv9(C CP:γ):VSp:=Ay λ ds d=>∃ zr n wr ps g dn,ds=[Bl zr C CP n wr ps g dn]/\n<=64/\d=.l false (P4 ((Ms n.toNat).filterMap g))
theorem qg8(T:Txt K mg a):VFn P w K mg base 1 a.f27 a.d27 ["self"] (qv9 a.Cg a.Ca):=by
 refine VFn.mk2 T.d27.F qw5 (wOf [true]) qb1 (by walk_at "l") (λ _ _ _ _ _ _ _ u=>⟨_,(Aj (Aq (eAlt (ecP (NY:=["key"]) (src:=[none]) (Ho rfl (vpn 0) T.Cf.cl T.Ch) (blk (λ i C j H0 m=>(Be 0 (show (["key"]:List Str).Nodup by decide +kernel))) (λ i C j H0 m=>(Kw (q2 (As qp3 (qb2 _)) qu4 (vnm 0) A7))) (λ i C j H0 m=>(qb7 (vnm 0))))) (ecL (NY:=["key"]) (src:=[none]) (qb7 (Bm rfl (vnm 0) T.Cf.cl T.Ch)) (blk (λ i C j H0 m=>(Be 0 (show (["key"]:List Str).Nodup by decide +kernel))) (λ i C j H0 m=>(Kw (q2 (As qp3 (qb2 _)) qu4 (vnm 0) A7))) (λ i C j H0 m=>(qb7 (vnm 0)))))))),λ v Q x h=>?_⟩);obtain⟨d,⟨r,n,wr,s,g,t,rfl,z,rfl⟩,q⟩:=h;refine At [Bl r a.Cg a.Ca n wr s g t] rfl ?_;have step:∀(y:D),y∈P5 n.toNat g->∀(d:D)(c:Ds)(R:Ds->Ds->Prop),(∀ ι',(∃ d,ι'=[d])->R (c++(Hv y).toList) ι')->c.length < big->gNm 0 y [d] λ ι1=>ttV (f2 gIsn (rdN 0) (kC .non)) ι1 (λ b ι2=>if b=true then Fd (rdN 0) ι2 (λ d ι3=>c.length < big/\R (c++[d]) ι3) (λ _ _=>False) else R c ι2) (λ _ _=>False):=λ y o d c R p f=>by
   have this:=p [y] ⟨_,rfl⟩;refine qq1 ?_;rcases qay2 o with rfl | ⟨k,rfl⟩
   . have this:R (c++[]) _:=this
     rw[zAg] at this;exact qh1 (b:=false) (Ae rfl rfl rfl) (Gm (by decide) this)
   exact qh1 (b:=true) (Ae rfl rfl rfl) (B7 rfl (qJ2 (d:=.int k) rfl rfl ⟨f,this⟩))
 cases r with
 | false =>
   refine qf5 (.inl (qa0 (a:=(0,[1])) (by show (D.fidx a.Cg "held" (rA a n wr s g t)).map (λ n=>(0,[n]))=_;rw[qF8];rfl) (qa0 (a:=D.l false (P5 n.toNat g)) rfl (qa0 (a:=P5 n.toNat g) rfl ⟨qJ0 _ _,λ w=>?_⟩))));refine qq6 (λ ι=>∃ d,ι=[d]) Hv _ [] _ (by show 0+_ < 1000000;rw[qz1];lia) ⟨_,rfl⟩ (λ y o ι c ⟨d,e⟩ R p f=>e ▸ step y o d c R p f) ?_;rintro ι ⟨d,rfl⟩;rw[qaf9,zBi];exact qa0 (qaX9 rfl) q
 | true =>
   refine qf5 (.inr (qJ2 (d:=.l true (P5 n.toNat g)) (A9 rfl qv1) rfl (qa0 (a:=P5 n.toNat g) rfl ⟨qJ0 _ _,?_⟩)));refine qq6 (λ ι=>∃ d,ι=[d]) Hv _ [] _ (by show 0+_ < 1000000;rw[qz1];lia) ⟨_,rfl⟩ (λ y o ι c ⟨d,e⟩ R p f=>e ▸ step y o d c R p f) ?_;rintro ι ⟨d,rfl⟩;rw[qaf9,zBi];exact q
theorem qD7:qa8 ["self", "key"] ["self", "key"] (qa3 ql0):=by walk_at "s"
noncomputable def Ij:Option Int->V
 | some k=>.int k
 | none=>.non
theorem qP9(N:Nat)(g:Nat->Option Int):flats (P5 N g)=some ((Ms N).map λ i=>Ij (g i)):=by
 have:∀ l:List Nat,flats (l.map λ i=>Fs (g i))=some (l.map λ i=>Ij (g i)):=λ l=>by
   induction l with
   | nil=>rfl
   | cons a l b =>
     show ((Fs (g a)).flat.bind λ v=>(flats (l.map λ i=>Fs (g i))).bind λ c=>some (v::c))=_;rw[b,zAx];cases g a<;>rfl
 exact this _
noncomputable def Fg(N:Nat)(g:Nat->Option Int)(k:Int):Option Nat:=(Ms N).findIdx? λ i=>decide (g i=some k)
def Bs(N:Nat)(g:Nat->Option Int)(k:Int):D:=match Fg N g k with
 | some i=>.int (i:Nat)
 | none=>.non
theorem qau7{o:Option Int}:eqV (Ij o) (.int k)=decide (o=some k):=by
 cases o with
 | none=>rfl
 | some a =>
   show decide (a=k)=_;exact zC2.mpr ⟨λ h=>by rw[h],λ h=>Oy h⟩
theorem qag3{k:Int}{g:Nat->Option Int}:∀ l:List Nat,Fp (.int k) (l.map λ i=>Ij (g i))=l.findIdx? λ i=>decide (g i=some k)
 | []=>rfl
 | a::l=>by
   show (if eqV (Ij (g a)) (.int k)=true then some 0 else (Fp (.int k) (l.map λ i=>Ij (g i))).map (· + 1))=_;rw[qau7,qag3 l,zCi]
theorem qaN0{k:Int}{g:Nat->Option Int}:∀ l:List Nat,inV (.int k) (l.map λ i=>Ij (g i))=(l.findIdx? λ i=>decide (g i=some k)).isSome
 | []=>rfl
 | a::l=>by
   have b:=qaN0 (k:=k) (g:=g) l;unfold inV at b ⊢;rw[zAx,zCk,b,zCi];have e:=qau7 (o:=g a) (k:=k);cases h:decide (g a=some k) with
   | true=>rw[h] at e;simp[e]
   | false=>rw[h] at e;simp[e]
theorem qR8{g:Nat->Option Int}(h:∀ i,i < N->g i≠some k):Bs N g k=.non:=by
 have:Fg N g k=none:=List.findIdx?_eq_none_iff.mpr λ i a=>zBj (h i (zAp.mp a))
 unfold Bs;rw[this]
theorem qE1{g:Nat->Option Int}(hi:i < N)(e:g i=some k):∃ j:Nat,Bs N g k=.int (j:Nat):=by
 unfold Bs;cases h:Fg N g k with
 | some j=>exact⟨j,rfl⟩
 | none =>
   have:=List.findIdx?_eq_none_iff.mp h i (zAp.mpr hi)
   rw[zAq e] at this;cases this
def qD3(C CP:γ):VSp:=Ay λ ds d=>∃ zr n wr ps g dn k,ds=[Bl zr C CP n wr ps g dn,.int k]/\An k/\d=Bs n.toNat g k
theorem qp5(T:Txt K mg a):VFn P w K mg base 4 a.f29 a.d29 ["self", "key"] (qD3 a.Cg a.Ca):=by
 refine VFn.mk2 T.d29.F qD7 (wOf [true,true]) qb1 (by walk_at "l") (λ _ _ _ _ _ _ _ r=>⟨_,(Ab (sif (Bh (te (Ak T.d4 (qc6 T) qa1 (rm r) (vaN 1 Ad)))) (Aj qn5) Ax) (Aj (Aq (eif (q2 (As qS2 (by with_unfolding_all rfl)) Iu (vnm 1) (Bm rfl (vnm 0) T.Cf.cl T.Ch)) (qa4 (vbm qam0 O2 O5 O6 qE8 (Bm rfl (vnm 0) T.Cf.cl T.Ch) (vnm 1) qT2)) (qa4 A7))))),λ u Q s h=>?_⟩);obtain⟨d,⟨f,n,wr,o,g,p,k,rfl,t,rfl⟩,q⟩:=h;refine At [Bl f a.Cg a.Ca n wr o g p,.int k] rfl ?_;refine G4 (λ Q s q=>qH5 (x:=.int k) (d:=.bl true) rfl (qam7 t) rfl q) (qf5 ?_);have m:f2 (gInB false) (rdN 1) (f1 (D.fld a.Cg "held") (rdN 0)) [Bl f a.Cg a.Ca n wr o g p,.int k]=some (.bl (Fg n.toNat g k).isSome):=by
   refine Ae (x:=.int k) (y:=.l f (P5 n.toNat g)) rfl (A9 rfl qv1) ?_;show ((flats (P5 n.toNat g)).bind λ b=>some (D.bl (if false=true then !inV (.int k) b else inV (.int k) b)))=_;rw[qP9];show some (D.bl (inV (.int k) _))=_;rw[qaN0];rfl
 refine Gn m (λ h=>?_) λ h=>?_
 . obtain⟨i,c⟩:=zB7.mp h
   refine qu6 (d:=.int (i:Nat)) (Ae (A9 rfl qv1) rfl ?_) ?_
   . show ((some (V.int k)).bind λ v=>(flats (P5 n.toNat g)).bind λ b=>(Fp v b).map λ j=>D.int (j:Nat))=_
     rw[qP9];show (Fp (.int k) _).map _=_;rw[qag3];show (Fg n.toNat g k).map _=_;rw[c];rfl
   unfold Bs at q;rw[c] at q;exact q
 refine qu6 (d:=.non) rfl ?_;have c:Fg n.toNat g k=none:=by cases e:Fg n.toNat g k with | none=>rfl | some i=>rw[e] at h;cases h
 unfold Bs at q;rw[c] at q;exact q
theorem qab2:qa8 ["self", "key"] ["self", "key"] (qa3 qD8):=by walk_at "s"
theorem qU1{C CP:γ}{n:Int}{wr:Bool}{ps:Pr}{g:Nat->Option Int}{dn:Ds}:D.fidx C "done" (Bl false C CP n wr ps g dn)=some 2:=by
 show (if C=C then List.findIdx? (λ q:Str×D=>("done" : Str) == q.1) [("plan",Ac true CP n wr ps),("held",rL n g),("done",.l false dn)] else none)=_;rw[if_pos rfl];rfl
def qaa5(C CP:γ):VSp:=λ ds Q _=>∃ n wr ps g dn S k,ds=[Bl false C CP n wr ps g dn,.int k]/\1<=n/\n<=64/\An k/\(∀ x∈S,An x)/\Kept n.toNat wr (P1 n ps) g S/\¬ k∈S/\(∀ q,¬ Crowd n.toNat wr (P1 n ps) (S++[k]) q)/\dn.length<=1000 /\
 ∀ came g',Kept n.toNat wr (P1 n ps) g' (S++[k])->Q (.l false came) [Bl false C CP n wr ps g' (dn++[.q [.str "put",.int k]]),.int k]
theorem qad5(T:Txt K mg a):VFn P w K mg base 8 a.f30 a.d30 ["self", "key"] (qaa5 a.Cg a.Ca):=by
 refine VFn.mk2 T.d30.F qab2 (wOf [true,true]) (by walk_at "m") (by walk_at "l") (λ _ _ _ _ _ _ _ r=>⟨_,(Ab (sif (q2v (A6 qp3 (qb2 _)) (As qp3 (qb2 _)) qu4 (qm5 0 T.d29 T.Cf.cl (qp5 T) qa1 (rm r) (vaN 1 Ad)) A7) (Aj qn5) Ax) (Ab (Bq (Ak T.d20 (qA6 T) qa1 (rm r) (vaV (qb7 (Bm rfl (vnm 0) T.Cf.cl T.Cs)) (vaV (e2v (Am qg7) qg6 (qn0 0 T.d27 T.Cf.cl (qg8 T) qa1 (rm r)) (By (qa2 (vnm 1) qa6 rfl))) Ad)))) (Ab (Bq (Kt qu7 O2 O3 O4 qd2 (Ho rfl (vpn 0) T.Cf.cl T.D1) (vaV (qa4 (Gf (qa2 Bo (qa2 (vnm 1) qa6 rfl) rfl))) Ad))) (Aj (Aq (Ak T.d21 (qY0 T) qa1 (rm r) (vaV (qb7 (Bm rfl (vnm 0) T.Cf.cl T.Cs)) (vaB (Ho rfl (vpn 0) T.Cf.cl T.Ch) (vaN 1 Ad))))))))),λ L Q M h=>?_⟩);obtain⟨n,wr,b,g,f,S,k,rfl,s,t,u,A,KP,j,C,H,q⟩:=h;have E:=KP.perm;have N:((Ms n.toNat).filterMap g).length<=64:=by
   have:=List.length_filterMap_le g (Ms n.toNat)
   rw[zB4] at this;lia
 refine At [rA a n wr b g f,.int k] rfl ?_;refine qe6 false (λ Q q=>qal6 ?_) nofun λ _=>?_
 . refine qP3 (p:=rA a n wr b g f) (x:=.int k) (d:=.non) rfl (qh5 rfl) rfl rfl ⟨false,n,wr,b,g,f,k,rfl,u,(qR8 λ i I e=>j ((KP.h.2 k).mpr ⟨i,I,e⟩)).symm⟩ rfl ?_
   exact qa0 (a:=D.bl false) rfl (qa0 (a:=false) rfl q)
 refine qb0 [rA a n wr b g f,.int k] (λ K v=>qz3 (qk3 ?_)) ?_
 . refine qe3 (y:=Ac true a.Ca n wr b) (A9 rfl qE2) rfl (qi3 (qt9 ?_))
   refine qB2 (p:=rA a n wr b g f) (d:=kL ((Ms n.toNat).filterMap g)) rfl (qh5 rfl) ⟨false,n,wr,b,g,f,rfl,t,rfl⟩ rfl ?_;refine qa0 (a:=D.l false (P4 ((Ms n.toNat).filterMap g++[k]))) (qaP9 (z:=false) (z':=false) (B:=[k]) (by show _+1<=1000;lia)) (qc4 ?_);refine⟨_,⟨true,n,wr,b,false,_,rfl,s,t,λ x J=>?_,by rw[zAe];show _+1<=1000;lia,qI3.of s λ q c=>C q (c.perm (E.append_right [k])),rfl⟩,v⟩;rcases zA9.mp J with h | h
   . exact A x (E.subset h)
   rw[zAl.mp h];exact u
 refine qb0 [rA a n wr b g (f++[.q [.str "put",.int k]]),.int k] (λ K v=>qz3 ?_) ?_
 . refine qae2 (i:=0) (p:=[2]) (ys:=f) (d0:=rA a n wr b g f) (by show (D.fidx a.Cg "done" (rA a n wr b g f)).map (λ n=>(0,[n]))=_;rw[qU1];rfl) rfl rfl ?_
   exact qf1 (y:=.q [.str "put",.int k]) rfl (qc4 (qa0 (a:=(f++[D.q [.str "put",.int k]],D.non)) (if_pos (show f.length < big by unfold big;lia)) v))
 generalize f++[.q [.str "put",.int k]]=o at q ⊢;refine qf5 (qk3 (qe3 (y:=Ac true a.Ca n wr b) (A9 rfl qE2) rfl ?_));refine qa0 (a:=(0,[1])) (by show (D.fidx a.Cg "held" (rA a n wr b g o)).map (λ n=>(0,[n]))=_;rw[qF8];rfl) (qa0 (a:=D.l false (P5 n.toNat g)) rfl ⟨rfl,λ w=>?_⟩);refine qc3 (x:=.int k) rfl (qc4 (qa0 (a:=D.int k) rfl ?_));refine⟨true,n,wr,b,g,S,k,rfl,s,t,u,A,KP,j,?_,λ came G K'=>?_⟩
 . by_cases h:∃ e,Free n.toNat wr (P1 n b) g k e
   . exact h
   obtain⟨q,c⟩:=KP.crowd λ e z=>h ⟨e,z⟩
   exact absurd c (C q)
 refine qa0 (a:=[rA a n wr b G o,.int k]) ?_ (q came G K');show Au (.pl 0 [1] w::_) _ _=_;rw[qQ8 rfl];rfl
theorem qw6:qa8 ["self", "key"] ["self", "key"] (qa3 qh9):=by walk_at "s"
theorem qy4(T:Txt K mg a):Ga P w K mg base CX0 1 a.f1 a.d1 ["self", "key"] (spX1 a.Cc "key"):=by
 refine T.d1.F.ok qw6 (λ b H Q E h=>?_) (λ c A outer s H b Q E j h=>?_)
 . obtain⟨e,v,rfl,_⟩:=h
   rfl
 obtain⟨e,v,rfl,d,k⟩:=h;exact⟨_,(qac2 (qaI2 (pv 0) (pv 1))),_,rfl,_,rfl,e,a.Cc,rfl,T.Cu,T.Ct,.inl ⟨d,λ f g i=>k f g i⟩⟩
theorem qD6:qa8 ["plan", "room"] ["plan", "room"] (qa3 qk9):=by walk_at "s"
def qp0(C:γ):VSp:=Ay λ ds d=>∃ z n wr ps r,ds=[Ac z C n wr ps,.int r]/\d=(if r < n - 1 then .int (r+1) else if wr=true then .int 0 else .non)
theorem qp4(T:Txt K mg a):VFn P w K mg base 1 a.f22 a.d22 ["plan", "room"] (qp0 a.Ca):=by
 refine VFn.mk2 T.d22.F qD6 (wOf [true,true]) qb1 (by walk_at "l") (λ _ _ _ _ _ _ _ e=>⟨_,(Ab (sif (q2 (As Jx (qb2 _)) Km (vnm 1) (v2 (Am qs5) qs4 (Bm rfl (vnm 0) T.Cd.cl T.Ce) Af)) (Aj (Aq (qa4 (v2 (Am qg7) qg6 (vnm 1) Af)))) Ax) (Aj (Aq (eif (tv (Bm rfl (vnm 0) T.Cd.cl T.Ci)) (qa4 Af) (qa4 A7))))),λ f Q g h=>?_⟩);obtain⟨d,⟨z,n,wr,c,r,rfl,rfl⟩,q⟩:=h;refine At [Ac z a.Ca n wr c,.int r] rfl ?_;refine qk6 (decide (r < n - 1)) (Ae rfl (Ae (A9 rfl qd9) rfl rfl) rfl) (λ h=>?_) λ h=>?_
 . rw[if_pos (zAb h)] at q
   exact qk0 (.int (r+1)) rfl q
 rw[if_neg (zB9 h)] at q;refine qf5 (Gn (b:=wr) (A9 rfl qv5) (λ h=>?_) (λ h=>?_))
 . rw[if_pos h] at q
   exact qu6 (d:=.int 0) rfl q
 rw[if_neg (by rw[h];decide)] at q;exact q
theorem qw4:qa8 ["plan", "rooms", "room"] ["plan", "rooms", "room"] (qa3 qh7):=by walk_at "s"
def qv8(C:γ):VSp:=Ay λ ds d=>∃ z n wr ps a g x,ds=[Ac z C n wr ps,.l a (P5 n.toNat g),x]/\1<=n/\(x=.non/\d=.bl false∨∃ r:Nat,r < n.toNat/\x=.int (r:Nat)/\(g r=none/\d=.bl false∨∃ k,g r=some k/\An k/\(wr=false->P1 n ps k<=r)/\d=.bl (decide (0 < Aa n.toNat (P1 n ps k) r))))
theorem qy3(T:Txt K mg a):VFn P w K mg base 6 a.f23 a.d23 ["plan", "rooms", "room"] (qv8 a.Ca):=by
 refine VFn.mk2 T.d23.F qw4 (wOf [true,true,true]) qb1 (by walk_at "l") (λ _ _ _ _ _ _ _ c=>⟨_,(Aj (Aq (Fx (qa4 (v2 (A6 qp3 (qb2 _)) qu4 (vnm 2) A7)) (Fx (qa4 (v2 (A6 qp3 (qb2 _)) qu4 (v2 (Av qb3) Ap (vnm 1) (vnm 2)) A7)) (Hn (e2v (A6 Er (qb2 _)) Ev (qm5 0 T.d11 T.Cd.cl (qi6 T) qa1 (rm c) (vaV (qb7 (v2 (Av qb3) Ap (vnm 1) (vnm 2))) (vaN 2 Ad))) Af)))))),λ i Q j h=>?_⟩);obtain⟨d,⟨z,n,wr,b,e,g,x,rfl,f,h⟩,q⟩:=h;refine At [Ac z a.Ca n wr b,.l e (P5 n.toNat g),x] rfl ?_;rcases h with⟨rfl,rfl⟩ | ⟨r,c,rfl,h⟩
 . exact qf5 (Go false rfl nofun λ _=>q)
 rcases h with⟨hg,rfl⟩ | ⟨k,hg,hk,hl,rfl⟩
 . exact qf5 (Go true rfl (λ _=>Go false (Ae (Ae rfl rfl (Ft c)) rfl (by rw[hg];rfl)) nofun λ _=>q) nofun)
 refine qf5 (Go true rfl (λ _=>Go true (Ae (Ae rfl rfl (Ft c)) rfl (by rw[hg];rfl)) (λ _=>qt9 ?_) nofun) nofun);refine qI5 (p:=Ac z a.Ca n wr b) rfl (qf7 rfl) (qe3 (y:=.int k) (Ae rfl rfl (by rw[Ft c,hg];rfl)) rfl (qc3 (x:=.int (r:Nat)) rfl (qc4 (qa0 (a:=D.int (r:Nat)) rfl (qa0 (a:=Ac z a.Ca n wr b) rfl ⟨_,⟨z,n,wr,b,k,(r:Nat),rfl,f,hk,by lia,by lia,rfl⟩,?_⟩)))));rw[qC9 f c hl];refine qa0 (a:=[Ac z a.Ca n wr b,.l e (P5 n.toNat g),.int (r:Nat)]) rfl ?_;refine qa0 (a:=D.bl (decide (0 < ((Aa n.toNat (P1 n b k) r:Nat):Int)))) rfl ?_;rw[zC2.mpr (show (0 < ((Aa n.toNat (P1 n b k) r:Nat):Int))↔0 < Aa n.toNat (P1 n b k) r by lia)];exact q
theorem qg3:qa8 ["plan", "rooms", "room", "came", "behind"] ["plan", "rooms", "room"] (qa3 qr9):=by walk_at "s"
noncomputable def qn1(N:Nat)(wr:Bool)(p:Nat):D:=if p+1 < N then .int (p+1:Nat) else if wr=true then .int 0 else .non
theorem qaq6{n:Int}{wr:Bool}{p:Nat}(a:1<=n)(b:p < n.toNat):(if ((p:Nat):Int) < n - 1 then D.int (((p:Nat):Int)+1) else if wr=true then D.int 0 else D.non)=qn1 n.toNat wr p:=by
 unfold qn1;by_cases h:p+1 < n.toNat
 . rw[if_pos (by lia),if_pos h];rfl
 rw[if_neg (by lia),if_neg h]
theorem qZ3{wr:Bool}{p:Nat}(a:p < N):qn1 N wr p=.int (Row.next N p:Nat)∨(qn1 N wr p=.non/\wr=false/\p+1=N):=by
 unfold qn1;have h:=nor N p;by_cases e:p+1 < N
 . rw[if_pos e];exact .inl (by rw[show Row.next N p=p+1 by lia])
 rw[if_neg e];cases wr with
 | true=>exact .inl (by rw[if_pos rfl,show Row.next N p=0 by lia];rfl)
 | false=>exact .inr ⟨rfl,rfl,by lia⟩
noncomputable def P6(a:List (Int×Nat)):Ds:=a.map λ q=>.q [.int q.1,.int (q.2:Nat)]
def Aw(N:Nat)(g:Nat->Option Int)(r J:Nat):List (Int×Nat):=(Ms J).map λ i=>((g (rot N r (i+1))).getD 0,rot N r i)
theorem qW1{g:Nat->Option Int}{x:Int}(h:g (rot N r (J+1))=some x):P6 (Aw N g r J)++[D.q [.int x,.int (rot N r J:Nat)]]=P6 (Aw N g r (J+1)):=by
 unfold P6 Aw;rw[Nb,zBc,zBc,Nz,Nz,h];rfl
theorem qQ9{g:Nat->Option Int}:(P6 (Aw N g r J)).length=J:=by
 unfold P6 Aw;rw[zAf,zAf,zB4]
def Drew(n:Int)(wr:Bool)(ps:Pr)(g:Nat->Option Int)(k:Int)(r J:Nat):Prop:=r < n.toNat/\g r=some k/\Sh n.toNat (P1 n ps) g r J/\Stop n.toNat wr (P1 n ps) g r J/\(wr=false->r+J < n.toNat)
theorem qaL9{wr:Bool}(h:wr=false->r+J < N)(a:qn1 N wr (rot N r J)=.int (Row.next N (rot N r J):Nat)):wr=false->r+(J+1) < N:=λ b=>by
 have c:=h b;clear h;subst b;by_cases e:rot N r J+1 < N
 . unfold rot at e
   rw[if_pos c] at e;lia
 unfold qn1 at a;rw[if_neg e,if_neg (by decide)] at a;cases a
def qM2(C:γ):VSp:=λ ds Q _=>∃ z n wr ps g S k r,ds=[Ac z C n wr ps,rL n g,.int (r:Nat)]/\1<=n/\n<=64/\(∀ x∈S,An x)/\Kept n.toNat wr (P1 n ps) g S/\r < n.toNat/\g r=some k /\
 ∀ J,Drew n wr ps g k r J->Q (.l false (P6 (Aw n.toNat g r J))) [Ac z C n wr ps,rL n (Ah n.toNat g r J),.int (r:Nat)]
abbrev qn3 (z) (a:Adr) (n:Int) (wr:Bool) (ps:Pr) (r) (J) (g) (x) (nx) (p1:D):=([Ac z a.Ca n wr ps,p1,.int (rot n.toNat r J:Nat),.l false ((P6 (Aw n.toNat g r J))++[D.q [.int x,.int (rot n.toNat r J:Nat)]]),.int (nx:Nat)]:Ds)
theorem qO6(T:Txt K mg a):VFn P w K mg base 7 a.f24 a.d24 ["plan", "rooms", "room"] (qM2 a.Ca):=by
 refine VFn.mk2 T.d24.F qg3 (wOf [true,true,false]) (by walk_at "m") (by walk_at "l") (λ _ _ _ _ _ _ _ b=>⟨_,(Ab (Al 3 qg3.nd (qa4 (By qa6))) (Ab (Fo (qa4 A7) (Ep (vpn 1) (vnm 2))) (Ab (Al 4 qg3.nd (Ak T.d22 (qp4 T) qa1 (rm b) (vaN 0 (vaN 2 Ad)))) (Ab (qar2 Oz (te (Ak T.d23 (qy3 T) qa1 (rm b) (vaN 0 (vaN 1 (vaN 4 Ad))))) (Ab (Bq (Fe 3 qu7 O2 O3 O4 qd2 (vaV (qa4 (Gf (qa2 (v2 (Av qb3) Ap (vnm 1) (vnm 4)) (qa2 (vnm 2) qa6 rfl) rfl))) Ad))) (Ab (Fo (qb7 (v2 (Av qb3) Ap (vnm 1) (vnm 4))) (Ep (vpn 1) (vnm 2))) (Ab (Fo (qa4 A7) (Ep (vpn 1) (vnm 4))) (Ab (Al 2 qg3.nd (qb7 (vnm 4))) (Aj (Al 4 qg3.nd (Ak T.d22 (qp4 T) qa1 (rm b) (vaN 0 (vaN 2 Ad)))))))))) (Aj (Aq (emv 3))))))),λ H Q Z h=>?_⟩);obtain⟨z,n,wr,f,g,S,k,r,rfl,L,n2,hS,KP,b,hk,q⟩:=h;refine At [Ac z a.Ca n wr f,rL n g,.int (r:Nat),.u,.u] rfl ?_;refine qb0 [Ac z a.Ca n wr f,rL n g,.int (r:Nat),.l false [],.u] (λ K t=>t) ?_;have e0:P5 n.toNat (λ j=>if j=r then none else g j)=P5 n.toNat (Ah n.toNat g r 0):=ql8 λ i hi=>(qk8 b hi).symm
 refine qb0 [Ac z a.Ca n wr f,rL n (Ah n.toNat g r 0),.int (rot n.toNat r 0:Nat),.l false [],.u] (λ K t=>?_) ?_
 . refine qB6 (d:=.non) (ys:=P5 n.toNat g) rfl rfl rfl (qF2 b) ?_
   rw[show (P5 n.toNat g).set r .non=P5 n.toNat (λ j=>if j=r then none else g j) from qH1 (o:=none),e0];rw[qO1 b] at t;exact t
 have bh:∀(J:Nat)(K:Ds->Prop)(Z:XKd)(I M:D),J < n.toNat->K [Ac z a.Ca n wr f,rL n (Ah n.toNat g r J),.int (rot n.toNat r J:Nat),I,qn1 n.toNat wr (rot n.toNat r J)]->qk5 (qp0 a.Ca) [] (tbN 0 (tbN 2 A5)) [Ac z a.Ca n wr f,rL n (Ah n.toNat g r J),.int (rot n.toNat r J:Nat),I,M] (λ d a0=>K (a0.set 4 d)) Z:=λ J K Z I M hJ t =>
   qz0 (x:=Ac z a.Ca n wr f) (y:=.int (rot n.toNat r J:Nat)) rfl rfl rfl ⟨z,n,wr,f,_,rfl,(qaq6 L (qE0 b hJ)).symm⟩ rfl t
 refine qb0 [Ac z a.Ca n wr f,rL n (Ah n.toNat g r 0),.int (rot n.toNat r 0:Nat),.l false [],qn1 n.toNat wr (rot n.toNat r 0)] (λ K t=>qe5 (bh 0 _ _ _ _ (by lia) t)) ?_;refine qc5 (λ H=>∃ J M,H=[Ac z a.Ca n wr f,rL n (Ah n.toNat g r J),.int (rot n.toNat r J:Nat),.l false (P6 (Aw n.toNat g r J)),M]/\Sh n.toNat (P1 n f) g r J/\Stop n.toNat wr (P1 n f) g r J/\(wr=false->r+J < n.toNat)) (λ K t=>?_) ?_
 . refine qZ5 (λ m H=>∃ J,H=[Ac z a.Ca n wr f,rL n (Ah n.toNat g r J),.int (rot n.toNat r J:Nat),.l false (P6 (Aw n.toNat g r J)),qn1 n.toNat wr (rot n.toNat r J)]/\Sh n.toNat (P1 n f) g r J/\(wr=false->r+J < n.toNat)/\m+J=n.toNat) n.toNat ⟨0,rfl,Sh.start b,λ _=>b,by lia⟩ ?_
   rintro m H ⟨J,rfl,v,W,hm⟩ K2 a1;have hJ:=v.hJ;have hp:=qE0 b hJ;rcases qZ3 (wr:=wr) hp with N | ⟨N,hw,hl⟩
   . have a2:=qaL9 W N
     have s:=Row.qk1 hp;have O:∀ x,Ah n.toNat g r J (Row.next n.toNat (rot n.toNat r J))=some x->0 < Aa n.toNat (P1 n f x) (Row.next n.toNat (rot n.toNat r J))->J+1 < n.toNat/\g (rot n.toNat r (J+1))=some x:=λ x s A=>by
       by_cases p:J+1 < n.toNat
       . rw[ql5 b p,qi9 b p] at s
         exact⟨p,s⟩
       rw[ql4 b (by lia)] at s A;by_cases R:0 < J
       . rw[qr0 b R] at s
         have:=v.round KP.o KP.c b hk (by lia) s R
         lia
       have hz:J=0:=by lia
       subst hz;rw[qk8 b b,if_pos rfl] at s;cases s
     have C:∀ x,Ah n.toNat g r J (Row.next n.toNat (rot n.toNat r J))=some x->An x/\(wr=false->P1 n f x<=Row.next n.toNat (rot n.toNat r J)):=λ x s=>by
       by_cases p:J+1 < n.toNat
       . have e:=ql5 b p
         rw[e,qi9 b p] at s;exact⟨hS x ((KP.h.2 x).mpr ⟨_,qE0 b p,s⟩),λ hw=>by rw[e];exact KP.ln hw _ x (qE0 b p) s⟩
       have e:=ql4 b (show J+1=n.toNat by lia);rw[e] at s ⊢;by_cases R:0 < J
       . rw[qr0 b R] at s
         have A:=v.round KP.o KP.c b hk (by lia) s R;exact⟨hS x ((KP.h.2 x).mpr ⟨_,Row.qk1 b,s⟩),λ _=>by rw[(qb8 (Fb L x) b).mp A];exact zA3 _⟩
       have hz:J=0:=by lia
       subst hz;rw[qk8 b b,if_pos rfl] at s;cases s
     generalize E:Row.next n.toNat (rot n.toNat r J)=u at s O C N;rw[N];cases B:Ah n.toNat g r J u with
     | none =>
       refine qY6 (x:=Ac z a.Ca n wr f) (y:=rL n (Ah n.toNat g r J)) (w:=.int (u:Nat)) (d:=.bl false) rfl rfl rfl rfl rfl ⟨z,n,wr,f,false,_,_,rfl,L,.inr ⟨u,s,rfl,.inl ⟨B,rfl⟩⟩⟩ rfl ?_;exact t _ ⟨J,_,rfl,v,.inr (λ x h=>by rw[E,B] at h;cases h),W⟩
     | some x =>
       refine qY6 (x:=Ac z a.Ca n wr f) (y:=rL n (Ah n.toNat g r J)) (w:=.int (u:Nat)) rfl rfl rfl rfl rfl ⟨z,n,wr,f,false,_,_,rfl,L,.inr ⟨u,s,rfl,.inr ⟨x,B,(C x B).1,(C x B).2,rfl⟩⟩⟩ rfl ?_;refine qa0 (a:=decide (0 < Aa n.toNat (P1 n f x) u)) rfl (ite_b (λ h=>?_) λ h=>?_)
       . have A:=zAb h
         obtain⟨p,G⟩:=O x B A;have U:u=rot n.toNat r (J+1):=by rw[<- E,ql5 b p]
         have V:∀ I,f2 gIx (rdN 1) (rdN 4) [Ac z a.Ca n wr f,rL n (Ah n.toNat g r J),.int (rot n.toNat r J:Nat),I,.int (u:Nat)]=some (.int x):=λ I=>Ae rfl rfl (by rw[Ft s,B];rfl)
         refine qb0 (qn3 z a n wr f r J g x u (rL n (Ah n.toNat g r J))) (λ K t=>qz3 ?_) ?_
         . exact qK9 (ys:=(P6 (Aw n.toNat g r J))) (d:=.q [.int x,.int (rot n.toNat r J:Nat)]) rfl (qar0 (V _) rfl rfl rfl) (by rw[qQ9];unfold big;lia) t
         refine qb0 (qn3 z a n wr f r J g x u (rL n (Row.set (Ah n.toNat g r J) (rot n.toNat r J) x))) (λ K t=>?_) ?_
         . refine qB7 (d:=.int x) (ys:=P5 n.toNat (Ah n.toNat g r J)) (V _) rfl rfl rfl (qF2 hp) ?_
           rw[qw3];exact t
         refine qb0 (qn3 z a n wr f r J g x u (rL n (Ah n.toNat g r (J+1)))) (λ K t=>?_) ?_
         . refine qB6 (d:=.non) (ys:=P5 n.toNat (Row.set (Ah n.toNat g r J) (rot n.toNat r J) x)) rfl rfl rfl (qF2 s) ?_
           rw[show (P5 n.toNat (Row.set (Ah n.toNat g r J) (rot n.toNat r J) x)).set u .non=P5 n.toNat (λ j=>if j=u then none else Row.set (Ah n.toNat g r J) (rot n.toNat r J) x j) from qH1 (o:=none)];have e:P5 n.toNat (λ j=>if j=u then none else Row.set (Ah n.toNat g r J) (rot n.toNat r J) x j)=P5 n.toNat (Ah n.toNat g r (J+1)):=ql8 λ i hi=>by
             rw[qH0 b p hi,U];by_cases X:i=rot n.toNat r (J+1)
             . rw[if_pos X,if_pos X]
             rw[if_neg X,if_neg X];by_cases Y:i=rot n.toNat r J
             . rw[if_pos Y,Y,Row.qb6,G]
             rw[if_neg Y,Row.qd0 Y]
           rw[e];exact t
         refine qb0 [Ac z a.Ca n wr f,rL n (Ah n.toNat g r (J+1)),.int (u:Nat),.l false ((P6 (Aw n.toNat g r J))++[D.q [.int x,.int (rot n.toNat r J:Nat)]]),.int (u:Nat)] (λ K t=>qw2 (d:=.int (u:Nat)) rfl rfl t) ?_;rw[U] at A ⊢;refine qe5 (bh (J+1) _ _ _ _ p (a1 (m - 1) _ (by lia) ⟨J+1,by rw[qW1 G],v.step p G A,a2,by lia⟩))
       have A:=zB9 h;exact t _ ⟨J,_,rfl,v,.inr (λ y h=>by rw[E] at h ⊢;rw[B] at h;cases h;lia),W⟩
   rw[N];refine qY6 (x:=Ac z a.Ca n wr f) (y:=rL n (Ah n.toNat g r J)) (w:=.non) (d:=.bl false) rfl rfl rfl rfl rfl ⟨z,n,wr,f,false,_,_,rfl,L,.inl ⟨rfl,rfl⟩⟩ rfl ?_;exact t _ ⟨J,_,rfl,v,.inl ⟨hw,hl⟩,W⟩
 rintro H ⟨J,M,rfl,v,st,ln⟩;exact qf5 (mv_to rfl (q J ⟨b,hk,v,st,ln⟩))
theorem qB8:qa8 ["self", "key", "room"] ["self", "key"] (qa3 qx2):=by walk_at "s"
theorem qar9{g:Nat->Option Int}(h:Bs N g k=.int (j:Nat)):j < N/\g j=some k:=by
 unfold Bs at h;cases e:Fg N g k with
 | none=>rw[e] at h;cases h
 | some i =>
   rw[e] at h;have h:D.int (i:Nat)=D.int (j:Nat):=h;injection h with h
   have h:i=j:=by lia
   subst h;obtain⟨a,b,_⟩:=List.findIdx?_eq_some_iff_getElem.mp e;rw[zB4] at a;rw[List.getElem_range] at b;exact⟨a,zAb b⟩
def qW7(C CP CNT:γ):VSp:=λ ds Q xe=>∃ n wr ps g dn S k,ds=[Bl false C CP n wr ps g dn,.int k]/\An k/\1<=n/\n<=64/\(∀ x∈S,An x)/\Kept n.toNat wr (P1 n ps) g S/\dn.length<=1000 /\
 (¬ k∈S->xe ⟨CNT,[("key",.int k)]⟩ ds)/\(k∈S->∀ r J:Nat,Drew n wr ps g k r J->Q (.q [.int (r:Nat),.l false (P6 (Aw n.toNat g r J))]) [Bl false C CP n wr ps (Ah n.toNat g r J) (dn++[.q [.str "take",.int k]]),.int k])
theorem qY1(T:Txt K mg a):VFn P w K mg base 8 a.f31 a.d31 ["self", "key"] (qW7 a.Cg a.Ca a.Cc):=by
 refine VFn.mk2 T.d31.F qB8 (wOf [true,true]) (by walk_at "m") (by walk_at "l") (λ _ _ _ _ _ _ _ s=>⟨_,(Ab (Al 2 qB8.nd (qm5 0 T.d29 T.Cf.cl (qp5 T) qa1 (rm s) (vaN 1 Ad))) (Ab (sif (q2 (As F6 (qb2 _)) F5 (vnm 2) A7) (Aj (qaR1 T.Dy (qy4 T) (rm s) T.D2 T.d1.b qa1 (qb7 (vnm 1)))) Ax) (Ab (Bq (Kt qu7 O2 O3 O4 qd2 (Ho rfl (vpn 0) T.Cf.cl T.D1) (vaV (qa4 (Gf (qa2 Bo (qa2 (vnm 1) qa6 rfl) rfl))) Ad))) (Aj (Aq (Ha (vaV (qb7 (vnm 2)) (vaV (Ak T.d24 (qO6 T) qa1 (rm s) (vaV (qb7 (Bm rfl (vnm 0) T.Cf.cl T.Cs)) (vaB (Ho rfl (vpn 0) T.Cf.cl T.Ch) (vaN 2 Ad)))) Ad)))))))),λ M Q N h=>?_⟩);obtain⟨n,wr,c,g,f,S,k,rfl,B,C,E,G,KP,H,I,q⟩:=h;refine At [rA a n wr c g f,.int k,.u] rfl ?_;refine qb0 [rA a n wr c g f,.int k,Bs n.toNat g k] (λ K t=>?_) ?_
 . exact qe5 (qP3 (p:=rA a n wr c g f) (x:=.int k) (d:=Bs n.toNat g k) rfl (qh5 rfl) rfl rfl ⟨false,n,wr,c,g,f,k,rfl,B,rfl⟩ rfl t)
 by_cases o:k∈S
 case neg =>
   rw[qR8 λ i u e=>o ((KP.h.2 k).mpr ⟨i,u,e⟩)];exact qe6 true (λ Q q=>qh1 (b:=true) rfl q) (λ _=>qJ2 (d:=.int k) rfl rfl ⟨rfl,I o⟩) nofun
 replace q:=q o
 obtain⟨i,u,e⟩:=(KP.h.2 k).mp o;obtain⟨j,A⟩:=qE1 u e;obtain⟨v,z⟩:=qar9 A;rw[A];refine qe6 false (λ Q q=>qh1 (b:=false) rfl q) nofun λ _=>?_
 refine qb0 [rA a n wr c g (f++[.q [.str "take",.int k]]),.int k,.int (j:Nat)] (λ K t=>qz3 ?_) ?_
 . refine qae2 (i:=0) (p:=[2]) (ys:=f) (d0:=rA a n wr c g f) (by show (D.fidx a.Cg "done" (rA a n wr c g f)).map (λ n=>(0,[n]))=_;rw[qU1];rfl) rfl rfl ?_
   exact qf1 (y:=.q [.str "take",.int k]) rfl (qc4 (qa0 (a:=(f++[D.q [.str "take",.int k]],D.non)) (if_pos (show f.length < big by unfold big;lia)) t))
 generalize f++[.q [.str "take",.int k]]=r at q ⊢;refine qf5 (qZ8 (qe3 (y:=.int (j:Nat)) rfl rfl (qi3 (qk3 (qe3 (y:=Ac true a.Ca n wr c) (A9 rfl qE2) rfl ?_)))));refine qa0 (a:=(0,[1])) (by show (D.fidx a.Cg "held" (rA a n wr c g r)).map (λ n=>(0,[n]))=_;rw[qF8];rfl) (qa0 (a:=D.l false (P5 n.toNat g)) rfl ⟨rfl,λ w=>?_⟩);refine qc3 (x:=.int (j:Nat)) rfl (qc4 (qa0 (a:=D.int (j:Nat)) rfl ?_));refine⟨true,n,wr,c,g,S,k,j,rfl,C,E,G,KP,v,z,λ J L=>?_⟩;refine qa0 (a:=[rA a n wr c (Ah n.toNat g j J) r,.int k,.int (j:Nat)]) ?_ (qc4 ⟨lt2,q j J L⟩);show Au (.pl 0 [1] w::_) _ _=_;rw[qQ8 rfl];rfl
theorem qu3:qa8 ["self"] ["self"] (qa3 qg5):=by walk_at "s"
def qu1(C CP:γ):VSp:=Ay λ ds d=>∃ zr n wr ps g dn,ds=[Bl zr C CP n wr ps g dn]/\d=.l false (P5 n.toNat g)
theorem qc7(T:Txt K mg a):VFn P w K mg base 1 a.f26 a.d26 ["self"] (qu1 a.Cg a.Ca):=by
 refine VFn.mk2 T.d26.F qu3 (wOf [true]) qb1 (by walk_at "l") (λ _ _ _ _ _ _ _ f=>⟨_,(Aj (Aq (qa4 (Hx qj9 qU7.ops T.Cw (qa2 (Bm rfl (vnm 0) T.Cf.cl T.Ch) qa6 rfl))))),λ i Q j h=>?_⟩);obtain⟨d,⟨b,n,wr,c,g,e,rfl,rfl⟩,q⟩:=h;refine At [Bl b a.Cg a.Ca n wr c g e] rfl ?_;refine qk0 (rL n g) ?_ q;unfold Bd Bc;rw[A9 rfl qv1];exact qo4 (qJ0 _ _)
theorem qX4:qa8 ["self"] ["self"] (qa3 qx3):=by walk_at "s"
def qW8(C CP:γ):VSp:=Ay λ ds d=>∃ zr n wr ps g dn S,ds=[Bl zr C CP n wr ps g dn]/\n<=64/\Kept n.toNat wr (P1 n ps) g S/\d=.int (S.length:Nat)
theorem qC1(T:Txt K mg a):VFn P w K mg base 2 a.f28 a.d28 ["self"] (qW8 a.Cg a.Ca):=by
 refine VFn.mk2 T.d28.F qX4 (wOf [true]) qb1 (by walk_at "l") (λ _ _ _ _ _ _ _ f=>⟨_,(Aj (Aq (ebi qq5 qq4.ops T.Cq (F4 (vaV (qn0 0 T.d27 T.Cf.cl (qg8 T) qa1 (rm f)) Ad))))),λ j Q k h=>?_⟩);obtain⟨d,⟨b,n,wr,c,g,e,S,rfl,i,KP,rfl⟩,q⟩:=h;refine At [Bl b a.Cg a.Ca n wr c g e] rfl ?_;refine qf5 (co_to (qi3 (qB2 (p:=Bl b a.Cg a.Ca n wr c g e) (d:=kL ((Ms n.toNat).filterMap g)) rfl (qh5 rfl) ⟨b,n,wr,c,g,e,rfl,i,rfl⟩ rfl (qc4 (qa0 (a:=D.int (S.length:Nat)) ?_ q)))));show some (D.int ((P4 ((Ms n.toNat).filterMap g)).length:Nat))=_;rw[qh0,KP.perm.length_eq]
theorem qaG6:qa8 ["_law_script"] ["_law_script"] (qa3 qax8):=by walk_at "s"
theorem qaL0(T:Txt K mg a):Ga P w K mg base CX0 1 a.f33 a.d33 ["_law_script"] (qaR2 K):=by
 refine T.d33.F.ok qaG6 (λ J H Q E h=>?_) (λ L A outer s H J Q E O h=>?_)
 . obtain⟨l,d,rfl,_⟩:=h
   rfl
 obtain⟨l,d,rfl,M,R,k⟩:=h;refine⟨_,(qac2 (qaI0 (qaz3 (qf2 qO2 (qf2 qO2 (qf2 qO2 (qf2 (qH6 ["_law_cell"] [none] (qx8 (qac6 qar4 (pv 0) qas7 (qas6 qO2))) (λ C B H0 G=>(gnm 0 (show (["_law_cell"]:List Str).Nodup by decide +kernel))) (λ C B H0 G=>qaI9) (λ C B H0 G=>(cbi qaE5 T.Em (qf2 (pv 0) qx9)))) qx9))))))),?_⟩;refine⟨_,rfl,_,rfl,l,_,rfl,M,λ c N=>?_⟩;have ec:Hg (d.map V.int) none (some 63)=d.map V.int:=by
   unfold Hg;have t:HT.sIx (d.map V.int).length (d.map V.int).length (some (63:Int))=min 63 (d.map V.int).length:=HT.qar7 _ _ 63;rw[t,HT.qab9,Nd,Nat.sub_zero];apply zAs;rw[zAf];lia
 rw[ec];refine⟨c,rfl,⟨_,SqL.of qb4⟩,λ D r=>?_⟩;have I:D≠c:=λ z=>by rw[z,qb4] at r;cases r
 have g:H D=none:=by rw[qb5 I] at r;exact r
 refine qV0 (K:=K) (xs:=d.map V.int) (λ i σ H1=>∃ v,σ=[v]/\H1=upd (upd H c (.l (d.map V.int))) D (.l (((d.take i).map λ n=>if n < 0 then -n else n).map V.int))) ⟨none,rfl,rfl⟩ ?_ ?_ ?_
 . rintro i σ H1 _ ⟨v,rfl,rfl⟩
   refine SqL.of ?_;rw[qb5 I.symm,qb4]
 . rintro i x σ H1 j ⟨v,rfl,rfl⟩
   obtain⟨n,u,rfl⟩:∃ n,d[i]? = some n/\V.int n=x:=by
     rw[zB8] at j;cases e:d[i]? with
     | none=>rw[e] at j;cases j
     | some z=>rw[e] at j;exact⟨z,rfl,Oy j⟩
   refine⟨_,rfl,_,rfl,_,qb4,?_,_,rfl,?_⟩
   . rw[zAf,zAf,zBz]
     exact qal2 (by lia)
   rw[qaF3];congr 1;rw[Mx,u];simp
 rintro σ H1 ⟨v,rfl,rfl⟩;rw[zAf,zAs (zA3 _)];refine⟨by show 4<=Lg;decide,λ p f=>?_⟩;have q:p≠D:=λ z=>by rw[z,qb4] at f;cases f
 rw[qb5 q] at f;have y:p≠c:=λ z=>by rw[z,qb4] at f;cases f
 rw[qb5 y] at f;refine k p D _ f g (λ b o e=>?_) ⟨0,1234567891,0,d.map λ n=>if n < 0 then -n else n,qb4,?_,by decide,by decide,by decide,by decide,?_⟩
 . rw[qb5 (qc0 e f),qb5 (qc0 e g),qb5 (qc0 e N)]
   exact e
 . rw[qb5 q.symm,qb4]
 intro n u;obtain⟨m,_,rfl⟩:=zBb.mp u
 split<;>lia
theorem qr5:qa8 ["_law_bag_here", "_law_many", "_law_cell", "_law_value", "_law_first", "_law_second"] ["_law_bag_here", "_law_many"] (qa3 qab5):=by walk_at "s"
theorem qb9(T:Txt K mg a):VFn P w K mg base 1 a.f34 a.d34 ["_law_bag_here", "_law_many"] qM6:=by
 refine VFn.mk' T.d34.F qr5 (wOf [true,true]) (λ r Q Q' u J L _ h=>by obtain⟨b,m,g,e,H,A,M,q⟩:=h;exact⟨b,m,g,e,H,A,M,λ v N O R B=>L _ _ (q v N O R B)⟩) (λ r Q u ⟨b,m,g,e,_⟩=>by rw[e];rfl) (λ r Q u h=>by obtain⟨b,m,g,e,⟨x,y,z,S,_⟩,_⟩:=h;rw[e,S];rfl) (λ _ _ _ _ _ _ _ U=>⟨_,(Ab (sif (q2 (As (qi0 U.u64) (qb2 _)) Bf (v2 (Av qb3) Ap (vnm 0) Af) Af) (Ab (Al 2 qr5.nd (qa4 Af)) (Ab (sif (q2 (As Jx (qb2 _)) Km (v2 (Av qb3) Ap (vnm 0) Af) (vbi qq5 qq4.ops T.Cq (qa2 (v2 (Av qb3) Ap (vnm 0) Af) qa6 rfl))) (Aj (Al 2 qr5.nd (qb7 (v2 (Av qb3) Ap (v2 (Av qb3) Ap (vnm 0) Af) (v2 (Av qb3) Ap (vnm 0) Af))))) Ax) (Ab (saug (vpn 0) Af Af qaV7) (Ab (sif (q2 (As He (qb2 _)) Ir (vnm 2) Af) (Aj (Fo (qb7 (vnm 2)) (Ep (vpn 0) Af))) Ax) (Aj (Fo (qa4 (v2 (Am ql3) ql2 (v2 (Am qg7) qg6 (v2 (Am qg7) qg6 (v2 (Am qy1) qy0 (v2 (Av qb3) Ap (vnm 0) Af) Af) (v2 (Am ql3) ql2 (vnm 2) Af)) (v2 (Am qy1) qy0 Af (v2 (Av qb3) Ap (vnm 0) Af))) Af)) (Ep (vpn 0) Af))))))) Ax) (Ab (sif (q2 (As Er (qb2 _)) Ev (v2 (Av qb3) Ap (vnm 0) Af) Af) (Ab (Al 3 qr5.nd (qa4 (v2 (Am ql3) ql2 (v2 (Av qb3) Ap (vnm 0) Af) (vnm 1)))) (Ab (Fo (qa4 (v2 (Am qO4) qaA0 (v2 (Av qb3) Ap (vnm 0) Af) (vnm 1))) (Ep (vpn 0) Af)) (Aj (Aq (emv 3))))) Ax) (Ab (Al 4 qr5.nd (qa4 (v2 (Am ql3) ql2 (v2 (Am qy1) qy0 (v2 (Am qg7) qg6 (v2 (Av qb3) Ap (vnm 0) Af) Af) Af) Af))) (Ab (Al 5 qr5.nd (qa4 (v2 (Am ql3) ql2 (v2 (Am qy1) qy0 (v2 (Am ql3) ql2 (v2 (Am qy1) qy0 (vnm 4) (vnm 4)) Af) Af) Af))) (Ab (sif (q2 (As Er (qb2 _)) Ev (vnm 1) Af) (Aj (Aq (qa4 (v2 (Am ql3) ql2 (v2 (Am qg7) qg6 (v2 (Am qy1) qy0 (vnm 5) Af) (vnm 4)) (vnm 1))))) Ax) (Aj (Aq (qa4 (v2 (Am ql3) ql2 (v2 (Am qO4) qaA0 (vnm 5) Af) (vnm 1)))))))))),λ r Q u h=>?_⟩);obtain⟨b,m,g,rfl,⟨x,y,z,rfl,B⟩,p,C,k⟩:=h;refine At [bagD x y z g,.int m,.u,.u,.u,.u] rfl ?_;refine qc5 (λ r=>∃ j o t c,r=[bagD j o t g,.int m,c,.u,.u,.u]/\Bg j o t g) (λ K l=>?_) ?_
 . refine if_v (b:=decide (x=0)) rfl (λ _=>?_) (λ _=>l _ ⟨x,y,z,_,rfl,B⟩)
   refine qb0 [bagD x y z g,.int m,.int 0,.u,.u,.u] (λ K l=>l) ?_;refine qc5 (λ r=>∃ c:Int,0<=c/\r=[bagD x y z g,.int m,.int c,.u,.u,.u]) (λ K l=>?_) ?_
   . refine if_v (b:=decide (z < (((g.map D.int).length:Nat):Int))) rfl (λ A=>?_) (λ _=>l _ ⟨0,by decide,rfl⟩)
     obtain⟨v,V,e⟩:=qK8 (xs:=g.map D.int) (i:=z) B.z0 (zAb A);obtain⟨c,E,rfl⟩:=zBb.mp V;exact qw2 (Ae (y:=.int z) (x:=.l false (g.map .int)) rfl rfl e) rfl (l _ ⟨c,B.nn c E,rfl⟩)
   rintro r ⟨c,E,rfl⟩;refine qb0 [bagD x y (z+1) g,.int m,.int c,.u,.u,.u] (λ K l=>?_) ?_
   . exact qaY1 (k:=2) (x:=z) (y:=1) (ys:=[.int x,.int y,.int z,.l false (g.map .int)]) rfl rfl (by decide) rfl rfl l
   refine qc5 (λ r=>∃ j:Int,0<=j/\r=[bagD j y (z+1) g,.int m,.int c,.u,.u,.u]) (λ K l=>?_) ?_
   . refine if_v (b:=decide (1000000000000000000<=c)) rfl (λ _=>?_) (λ _=>l _ ⟨x,B.x0,rfl⟩)
     exact qB7 (d:=.int c) (ys:=[.int x,.int y,.int (z+1),.l false (g.map .int)]) (k:=0) (n:=0) rfl rfl rfl rfl rfl (l _ ⟨c,E,rfl⟩)
   rintro r ⟨j,G,rfl⟩;have W:f2 Jk (f2 Ji (f2 Ji (f2 Jj (f2 gIx (rdN 0) (kC (.int 1))) (kC (.int 48271))) (f2 Jk (rdN 2) (kC (.int 2147483647)))) (f2 Jj (kC (.int 7919)) (f2 gIx (rdN 0) (kC (.int 2))))) (kC (.int 2147483647)) [bagD j y (z+1) g,.int m,.int c,.u,.u,.u]=some (.int ((y * 48271+c % 2147483647+7919 * (z+1)) % 2147483647)) :=
     Ae (Ae (Ae (Ae (x:=.int y) rfl rfl (K8 (by decide))) (Ae rfl rfl (Fh (by decide))) rfl) (Ae (y:=.int (z+1)) rfl rfl (mulL (by decide))) rfl) rfl (Fh (by decide))
   exact qB6 (ys:=[.int j,.int y,.int (z+1),.l false (g.map .int)]) (k:=1) (n:=1) W rfl rfl rfl (l _ ⟨j,_,z+1,_,rfl,G,Int.emod_nonneg _ (by decide),zCh _ (by decide),by have:=B.z0;lia,B.nn⟩)
 rintro r ⟨j,o,t,c,rfl,B'⟩;refine qk6 (decide (0 < j)) rfl (λ H=>?_) λ _=>?_
 . refine qb0 [bagD j o t g,.int m,c,.int (j % m),.u,.u] (λ K l=>qa0 (Ae (x:=.int j) rfl rfl (Fh p)) l) ?_
   refine qb0 [bagD (j / m) o t g,.int m,c,.int (j % m),.u,.u] (λ K l=>?_) ?_
   . exact qB6 (ys:=[.int j,.int o,.int t,.l false (g.map .int)]) (k:=0) (n:=0) (Ae (x:=.int j) rfl rfl (qaD9 p C)) rfl rfl rfl l
   exact k (j % m) _ (Int.emod_nonneg _ (by lia)) (zCh _ p) ⟨_,_,_,rfl,Int.ediv_nonneg B'.x0 (by lia),B'.y0,B'.y1,B'.z0,B'.nn⟩
 have X:0<=(o+1) * 39373 % 1000000007:=Int.emod_nonneg _ (by decide);have f1:(o+1) * 39373 % 1000000007 < 1000000007:=zCh _ (by decide);refine qb0 [bagD j o t g,.int m,c,.u,.int ((o+1) * 39373 % 1000000007),.u] (λ K l=>qa0 (Ae (Ae (Ae (x:=.int o) rfl rfl rfl) rfl (K8 (by decide))) rfl (Fh (by decide))) l) ?_;generalize (o+1) * 39373 % 1000000007=f at X f1;refine qb0 [bagD j o t g,.int m,c,.u,.int f,.int (f * f % 998244353 * 30011 % 998244353)] (λ K l=>qa0 (Ae (Ae (Ae (Ae rfl rfl (mulL (qaa9 (by lia) (by lia)))) rfl (Fh (by decide))) rfl (K8 (by decide))) rfl (Fh (by decide))) l) ?_;generalize f * f % 998244353 * 30011 % 998244353=s;have I:∀ v,Q (.int (v % m)) [bagD j o t g,.int m]:=λ v=>k _ _ (Int.emod_nonneg _ (by lia)) (zCh _ p) ⟨_,_,_,rfl,B'⟩
 refine qk6 (decide (1000000 < m)) rfl (λ _=>?_) λ _=>?_
 . exact qk0 _ (Ae (Ae (Ae rfl rfl (K8 (by decide))) rfl rfl) rfl (Fh p)) (I _)
 exact qk0 _ (Ae (Ae rfl rfl (qaD9 (by decide) (by decide))) rfl (Fh p)) (I _)
theorem qax6:qa8 ["_law_plan", "_law_key"] ["_law_plan", "_law_key"] (qa3 qab7):=by walk_at "s"
def qax2:VSp:=Ay λ ds d=>∃ n wr ps k,ds=[Ag n wr ps,.int k]/\1<=n/\(ps.map (·.1)).Nodup/\d=.int (qc2 n ps k)
theorem qO9(T:Txt K mg a):VFn P w K mg base 1 a.f35 a.d35 ["_law_plan", "_law_key"] qax2:=by
 refine VFn.mk2 T.d35.F qax6 (wOf [true,true]) qb1 (by walk_at "l") (λ _ _ _ _ _ _ _ c=>⟨_,(Aj (Aq (qa4 (v2 (Am ql3) ql2 (vget (hu_of c) (Hx (qK7 rfl) qav0.ops T.Ee (qa2 (v2 (Av qb3) Ap (vnm 0) Af) qa6 rfl)) (vnm 1) (vnm 1) ⟨rfl,rfl,rfl,rfl⟩) (v2 (Av qb3) Ap (vnm 0) Af))))),λ g Q i h=>?_⟩);obtain⟨d,⟨n,wr,b,k,rfl,j,e,rfl⟩,q⟩:=h;have f:Bd (fx1 Iv) (Bc (f2 gIx (rdN 0) (kC (.int 2))) λ _=>some []) [Ag n wr b,.int k]=some (.dct false (kvD b)):=by
   show Iv (.l true (P7 b))=_;exact qau8 e
 exact qk0 _ (Ae (qag7 f rfl) (y:=.int n) rfl (Fh (by lia))) q
theorem qe2:qa8 ["_law_plan", "_law_keys", "_law_homes", "_law_found", "_law_on", "_law_turn", "_law_room"] ["_law_plan", "_law_keys"] (qa3 qx6):=by walk_at "s"
theorem qap9{n:Int}{ps:Pr}(a:1<=n){z:Bool}(ks:List Int)(r:Nat):Jq (.l z (P4 (ks.map (qc2 n ps)))) (.int (r:Nat))=some (.int (Gq (P1 n ps) ks r:Nat)):=by
 show ((flats (P4 (ks.map (qc2 n ps)))).bind λ b=>some (D.int (b.countP (λ z=>eqV z (.int (r:Nat))):Nat)))=_;rw[qF7];show some (D.int (((ks.map (qc2 n ps)).map V.int).countP (λ z=>eqV z (.int (r:Nat))):Nat))=_;congr 3;unfold Gq;rw[N7,N7,List.countP_eq_length_filter];congr 1;refine Nh λ k _=>?_
 show decide (qc2 n ps k=(r:Nat))=_
 have:=qJ4 (ps:=ps) a k
 exact zC2.mpr (by lia)
def onT(n:Int)(ps:Pr)(ks:List Int):Nat->Int:=onC (cR n.toNat (P1 n ps) ks)
def Bb(n:Int)(ps:Pr)(ks:List Int)(i m:Nat):List Int:=(Ms m).map λ r=>onT n ps ks (n.toNat * i+r+1)
theorem qH7{n:Int}{ps:Pr}{m:Nat}:Bb n ps ks i m++[onT n ps ks (n.toNat * i+m+1)]=Bb n ps ks i (m+1):=by
 unfold Bb;rw[Nb,zBc];rfl
def qX1:VSp:=Ay λ ds d=>∃ n wr ps z ks,ds=[Ag n wr ps,.l z (P4 ks)]/\1<=n/\n<=64/\(ps.map (·.1)).Nodup/\ks.length<=200/\d=.l false (P4 (Bb n ps ks wr.toNat n.toNat))
theorem qY2(T:Txt K mg a):VFn P w K mg base 2 a.f37 a.d37 ["_law_plan", "_law_keys"] qX1:=by
 refine VFn.mk2 T.d37.F qe2 (wOf [true,true]) qb1 (by walk_at "l") (λ _ _ _ _ _ _ _ L=>⟨_,(Ab (scN (NY:=["_law_key", "_law_plan"]) (src:=[none,some 0]) 2 1 qe2.nd (blk (λ B C E H0 G=>(Be 0 (show (["_law_key", "_law_plan"]:List Str).Nodup by decide +kernel))) (λ B C E H0 G=>G0) (λ B C E H0 G=>(Ak T.d35 (qO9 T) qt0 (rm L) (vaN 1 (vaN 0 Ad)))))) (Ab (Al 3 qe2.nd (qa4 (By qa6))) (Ab (Al 4 qe2.nd (qa4 Af)) (Ab (qM8 Oz T.Cr (F4 (vaV (qa4 (v2 (Am qg7) qg6 Af (Hx qaq5 qaX4.ops T.E9 (qa2 (v2 (Av qb3) Ap (vnm 0) Af) qa6 rfl)))) Ad)) (Be 5 qe2.nd) (Ab (Al 3 qe2.nd (qa4 (By qa6))) (Aj (qM8 Oz T.Cr (F4 (vaV (qb7 (v2 (Av qb3) Ap (vnm 0) Af)) Ad)) (Be 6 qe2.nd) (Ab (Al 4 qe2.nd (qa4 (vbi (qV3 rfl) qau9.ops T.El (qa2 Af (qa2 (v2 (Am qs5) qs4 (v2 (Am qg7) qg6 (vnm 4) (vbm qaK5 O2 O8 Pf qae3 (vnm 2) (vnm 6) qav1)) Af) qa6 rfl) rfl)))) (Aj (Bq (Fe 3 qu7 O2 O3 O4 qd2 (vaV (qb7 (vnm 4)) Ad))))))))) (Aj (Aq (emv 3))))))),λ f Q Y h=>?_⟩);obtain⟨d,⟨n,wr,b,z,c,rfl,H,Z,M,hl,rfl⟩,q⟩:=h;refine At [Ag n wr b,.l z (P4 c),.u,.u,.u,.u,.u] rfl ?_;refine qb0 [Ag n wr b,.l z (P4 c),kL (c.map (qc2 n b)),.u,.u,.u,.u] (λ K o=>qe5 (qa0 (a:=D.l z (P4 c)) rfl (qa0 (a:=P4 c) rfl ⟨qk2 c,?_⟩))) ?_
 . refine qq6 (λ ι=>∃ d,ι=[d,Ag n wr b]) (λ x=>some (match x with | .int k=>.int (qc2 n b k) | d=>d)) _ [] _ (by show 0+_ < 1000000;rw[qh0];lia) ⟨_,rfl⟩ ?_ ?_
   . rintro y N ι O ⟨d,rfl⟩ R S s
     obtain⟨k,_,rfl⟩:=zBb.mp N;exact qq1 (qaj4 (B7 rfl (qz0 (x:=Ag n wr b) (y:=.int k) (d:=.int (qc2 n b k)) rfl rfl rfl ⟨n,wr,b,k,rfl,H,M,rfl⟩ rfl ⟨s,S [.int k,Ag n wr b] ⟨_,rfl⟩⟩)))
   rintro ι ⟨d,rfl⟩;rw[zBi,qah1];have U:((P4 c).map λ x=>match x with | .int k=>D.int (qc2 n b k) | d=>d)=P4 (c.map (qc2 n b)):=by unfold P4;rw[Mz,Mz];rfl
   rw[U];exact o
 generalize t:kL (c.map (qc2 n b))=p;refine qb0 [Ag n wr b,.l z (P4 c),p,.l false [],.u,.u,.u] (λ K o=>o) ?_;refine qb0 [Ag n wr b,.l z (P4 c),p,.l false [],.int 0,.u,.u] (λ K o=>o) ?_;refine qc5 (λ f=>∃ I r m,f=[Ag n wr b,.l z (P4 c),p,kL (Bb n b c wr.toNat n.toNat),I,r,m]) (λ K o=>?_) ?_
 . refine qF6 (n:=((1+wr.toNat:Nat):Int)) (by cases wr<;>rfl) (qP2 (by lia) (by cases wr<;>decide)) ?_
   refine qe1 (λ i f=>∃ F r m,f=[Ag n wr b,.l z (P4 c),p,.l false F,.int (onT n b c (n.toNat * i)),r,m]/\(0 < i->F=P4 (Bb n b c (i - 1) n.toNat))) _ 0 _ ⟨_,_,_,rfl,λ h=>absurd h (by lia)⟩ ?_ ?_
   . rintro i x A f ⟨F,r,m,rfl,_⟩ K2 u
     rw[zAc] at u ⊢;obtain⟨hi,rfl⟩:=qH4 A;refine qq1 (At [Ag n wr b,.l z (P4 c),p,.l false F,.int (onT n b c (n.toNat * i)),.int (i:Nat),m] rfl ?_);refine qb0 [Ag n wr b,.l z (P4 c),p,.l false [],.int (onT n b c (n.toNat * i)),.int (i:Nat),m] (λ K o=>o) ?_;refine qP8 (n:=n) rfl (qP2 (by lia) (by lia)) ?_;refine qe1 (λ j f=>∃ m,f=[Ag n wr b,.l z (P4 c),p,kL (Bb n b c i j),.int (onT n b c (n.toNat * i+j)),.int (i:Nat),m]) _ 0 _ ⟨_,rfl⟩ ?_ ?_
     . rintro j x A f ⟨m,rfl⟩ K3 v
       rw[zAc] at v ⊢;obtain⟨V,rfl⟩:=qH4 A;refine qq1 (At [Ag n wr b,.l z (P4 c),p,kL (Bb n b c i j),.int (onT n b c (n.toNat * i+j)),.int (i:Nat),.int (j:Nat)] rfl ?_);refine qb0 [Ag n wr b,.l z (P4 c),p,kL (Bb n b c i j),.int (onT n b c (n.toNat * i+j+1)),.int (i:Nat),.int (j:Nat)] (λ K o=>qw1 ?_ o) ?_
       . have W:Jq p (.int (j:Nat))=some (.int (Gq (P1 n b) c j:Nat)):=by rw[<- t];exact qap9 H c j
         have e:=Ae (g:=gSub) (y:=.int 1) (Ae (g:=Ji) (fa:=rdN 4) (ds:=[Ag n wr b,.l z (P4 c),p,kL (Bb n b c i j),.int (onT n b c (n.toNat * i+j)),.int (i:Nat),.int (j:Nat)]) (x:=.int (onT n b c (n.toNat * i+j))) rfl (Ae (g:=Jq) (fa:=rdN 2) (fb:=rdN 6) (by rw[<- t];rfl) rfl W) rfl) (fb:=kC (.int 1)) rfl rfl;unfold Bd Bc;rw[e];have X:cR n.toNat (P1 n b) c (n.toNat * i+j)=Gq (P1 n b) c j:=by unfold cR;rw[Nat.mul_add_mod,zCg V]
         show some (D.int (if onT n b c (n.toNat * i+j)+(Gq (P1 n b) c j:Nat) - 1 > 0 then onT n b c (n.toNat * i+j)+(Gq (P1 n b) c j:Nat) - 1 else 0))=some (D.int (if onC (cR n.toNat (P1 n b) c) (n.toNat * i+j)+(cR n.toNat (P1 n b) c (n.toNat * i+j):Int) - 1 > 0 then onC (cR n.toNat (P1 n b) c) (n.toNat * i+j)+(cR n.toNat (P1 n b) c (n.toNat * i+j):Int) - 1 else 0));rw[X];rfl
       refine qav8 (ys:=P4 (Bb n b c i j)) (d:=.int (onT n b c (n.toNat * i+j+1))) rfl rfl rfl (by rw[qh0];unfold Bb big;rw[zAf,zB4];lia) ?_;rw[qI9,qH7];exact v _ ⟨_,rfl⟩
     rintro f ⟨m,rfl⟩;rw[zAc,qI6,show n.toNat * i+n.toNat=n.toNat * (i+1) by rw[Nat.mul_add,Nat.mul_one]];exact u _ ⟨_,_,_,rfl,λ _=>rfl⟩
   rintro f ⟨F,r,m,rfl,J⟩;rw[zAc,qI6,Int.toNat_natCast] at J;rw[J (by lia),show 1+wr.toNat - 1=wr.toNat by lia];exact o _ ⟨_,_,_,rfl⟩
 rintro f ⟨I,r,m,rfl⟩;exact q
theorem qe4:qa8 ["_law_plan", "_law_keys", "_law_passing_here", "_law_begin", "_law_found", "_law_at", "_law_on", "_law_key"] ["_law_plan", "_law_keys"] (qa3 qD9):=by walk_at "s"
theorem qat1:∀ ps:List (Int×Int),(P7 ps).mapM Jt=some ps
 | []=>rfl
 | p::r=>by
   show List.mapM Jt (D.q [.int p.1,.int p.2]::P7 r)=_;rw[Oc,qat1 r];rfl
theorem qal0{z:Bool}{L:Pr}{f:Int->Int}(e:L=S.map λ k=>(f k,k))(a:S.Nodup)(b:S.length<=64):qau4 (.l z (P7 L))=some (.l false (P7 (Ew L))):=by
 show ((P7 _).mapM Jt).bind _=_;rw[qat1];refine qo4 ⟨?_,by rw[e,zAf];exact b⟩;rw[e];exact zC9.mpr (a.imp λ h z=>h (congrArg Prod.snd z))
theorem qad2{f:Int->Nat}:((Ew (ks.map λ k=>(((f k:Nat):Int),k))).map (·.2)).Perm ks:=by
 have h:((Ew (ks.map λ k=>(((f k:Nat):Int),k))).map (·.2)).Perm ((ks.map λ k=>(((f k:Nat):Int),k)).map (·.2)):=(Nt _ _).map _;rw[Mz] at h;have e:ks.map ((·.2) ∘ λ k=>(((f k:Nat):Int),k))=ks:=List.map_id ks;rwa[e] at h
theorem qad3{f:Int->Nat}{p:Int×Int}(a:p∈Ew (ks.map λ k=>(((f k:Nat):Int),k))):p.1=(f p.2:Nat):=by
 rw[List.mem_mergeSort] at a;obtain⟨k,_,rfl⟩:=zBb.mp a;rfl
theorem qaT2{f:Int->Nat}(b:ks.Nodup):((Ew (ks.map λ k=>(((f k:Nat):Int),k))).map (·.2)).Pairwise (Kj f):=by
 have a:=(qad2 (f:=f)).nodup_iff.mpr b;unfold List.Nodup at a;rw[zC9] at a ⊢;refine((qaa8 _).and a).imp_of_mem λ{p q} c d h=>?_
 have g:=qad3 c;have i:=qad3 d;have e:=h.1;simp only[S6.plt,decide_eq_false_iff_not] at e;have j:=h.2;unfold Kj;lia
theorem qaW0{z:Bool}:∀{L R:List Int},¬ k∈L->Jp (.l z (P4 (L++k::R))) (.int k)=some (.int (L.length:Nat)):=by
 intro L R h;have e:Fp (.int k) ((L++k::R).map V.int)=some L.length:=by
   induction L with
   | nil=>show (if decide (k=k)=true then some 0 else _)=_;rw[if_pos (zAq rfl)];rfl
   | cons a L b =>
     rw[zAn,not_or] at h;show (if decide (a=k)=true then some 0 else (Fp (.int k) ((L++k::R).map V.int)).map (· + 1))=_;rw[if_neg (by simpa using λ z=>h.1 z.symm),b h.2];rfl
 show ((flats (P4 (L++k::R))).bind λ c=>(Fp (.int k) c).map λ j=>D.int (j:Nat))=_;rw[qF7];show (Fp (.int k) ((L++k::R).map V.int)).map (λ j=>D.int (j:Nat))=_;rw[e];rfl
theorem qac9{n:Int}{ps:Pr}{z:Bool}(h:1<=n):gIx (.l z (P4 (Bb n ps ks i n.toNat))) (.int (-1))=some (.int (onT n ps ks (n.toNat * i+n.toNat))):=by
 obtain⟨m,e⟩:∃ m,n.toNat=m+1:=⟨n.toNat - 1,by lia⟩
 have e2:Bb n ps ks i n.toNat=Bb n ps ks i m++[onT n ps ks (n.toNat * i+m+1)]:=by rw[qH7,e]
 rw[e2,show n.toNat * i+n.toNat=n.toNat * i+m+1 by lia];unfold P4;rw[zBc];exact qaE6 _ _
def qaa7:VSp:=λ ds Q _=>∃ n wr ps z ks,ds=[Ag n wr ps,.l z (P4 ks)]/\1<=n/\n<=64/\(ps.map (·.1)).Nodup/\ks.Nodup/\ks.length<=200 /\
 ((∃ q,Crowd n.toNat wr (P1 n ps) ks q)->Q .non ds)/\((∀ q,¬ Crowd n.toNat wr (P1 n ps) ks q)->∀ g,Kept n.toNat wr (P1 n ps) g ks->Q (rL n g) ds)
theorem qy5(T:Txt K mg a):VFn P w K mg base 3 a.f38 a.d38 ["_law_plan", "_law_keys"] qaa7:=by
 refine VFn.mk2 T.d38.F qe4 (wOf [true,true]) (by walk_at "m") (by walk_at "l") (λ _ _ _ _ _ _ _ u=>⟨_,(Ab (sif (q2 (As Er (qb2 _)) Ev (vbi qq5 qq4.ops T.Cq (qa2 (vnm 1) qa6 rfl)) (v2 (Av qb3) Ap (vnm 0) Af)) (Aj (Aq (qa4 A7))) Ax) (Ab (Al 2 qe4.nd (Ak T.d37 (qY2 T) qa1 (rm u) (vaN 0 (vaN 1 Ad)))) (Ab (sif (Jm (Bh (tv (v2 (Av qb3) Ap (vnm 0) Af))) (Gv (q2 (As Er (qb2 _)) Ev (v2 (Av qb3) Ap (vnm 2) (vneg Af)) Af))).te (Aj (Aq (qa4 A7))) Ax) (Ab (Al 3 qe4.nd (qa4 Af)) (Ab (sif (tv (v2 (Av qb3) Ap (vnm 0) Af)) (Aj (Al 3 qe4.nd (qa4 (v2 (Am qg7) qg6 (vbm qam0 O2 O5 O6 qE8 (vnm 2) Af qT2) Af)))) Ax) (Ab (Al 4 qe4.nd (qa4 (v2 (Am qy1) qy0 (By (qa2 A7 qa6 rfl)) (v2 (Av qb3) Ap (vnm 0) Af)))) (Ab (Al 5 qe4.nd (qa4 (vneg Af))) (Ab (Ku Oz (ebi qai2 qaE0.ops T.E6 (F4 (vaV (ecN (NY:=["_law_key", "_law_begin", "_law_plan"]) (src:=[none,some 3,some 0]) 1 (blk (λ av C s0 H0 ex=>(Be 0 (show (["_law_key", "_law_begin", "_law_plan"]:List Str).Nodup by decide +kernel))) (λ av C s0 H0 ex=>G0) (λ av C s0 H0 ex=>(Ha (vaV (e2v (Am ql3) ql2 (e2v (Am qs5) qs4 (Ak T.d35 (qO9 T) qt0 (rm u) (vaN 2 (vaN 0 Ad))) (vnm 1)) (v2 (Av qb3) Ap (vnm 2) Af)) (vaV (qb7 (vnm 0)) Ad)))))) Ad))) (I8 (n:=2) rfl (qK0 (Be 6 qe4.nd) (qK0 (Be 7 qe4.nd) Iz))) (Ab (Al 5 qe4.nd (qa4 (vbi (qV3 rfl) qau9.ops T.El (qa2 (v2 (Am qg7) qg6 (vnm 5) Af) (qa2 (vnm 6) qa6 rfl) rfl)))) (Aj (Fo (qb7 (vnm 7)) (Ep (vpn 4) (v2 (Am ql3) ql2 (v2 (Am qg7) qg6 (vnm 3) (vnm 5)) (v2 (Av qb3) Ap (vnm 0) Af))))))) (Aj (Aq (emv 4))))))))))),λ v Q xe h=>?_⟩);obtain⟨n,wr,j,z,o,rfl,M,n2,nd,N,hl,q,q'⟩:=h;have B:=Fb (ps:=j) M;have oc:=qam1 (T:=o) (by lia) B;refine At [Ag n wr j,.l z (P4 o),.u,.u,.u,.u,.u,.u] rfl ?_;refine qk6 (decide (n < (o.length:Int))) (Ae (qs9 rfl) (y:=.int n) rfl (by rw[qh0];rfl)) (λ h=>qk0 .non rfl (q ⟨0,by lia,?_⟩)) λ h=>?_
 . have h:=zAb h
   cases wr with
   | true=>rw[if_pos rfl];exact⟨rfl,by lia⟩
   | false=>rw[if_neg (by decide),List.filter_eq_self.mpr λ _ _=>zAq (zBk _)];lia
 have a0:o.length<=n.toNat:=by have:=zB9 h;lia
 refine qb0 [Ag n wr j,.l z (P4 o),kL (Bb n j o wr.toNat n.toNat),.u,.u,.u,.u,.u] (λ K t=>qe5 (qz0 (x:=Ag n wr j) (y:=.l z (P4 o)) rfl rfl rfl ⟨n,wr,j,z,o,rfl,M,n2,nd,hl,rfl⟩ rfl t)) ?_;refine qe6 (!wr&&decide (0 < onT n j o (n.toNat * wr.toNat+n.toNat))) (λ Q q=>qn2 (!wr) (decide (0 < onT n j o (n.toNat * wr.toNat+n.toNat))) (λ Q q=>qg0 (b:=wr) rfl q) (λ _ Q q=>qh1 (Ae (Ae rfl rfl (qac9 M)) rfl rfl) q) q) (λ h=>qk0 .non rfl (q ?_)) λ h=>?_
 . cases wr with
   | true=>cases h
   | false =>
     have h:=zAb h;rw[show n.toNat * false.toNat+n.toNat=n.toNat by show n.toNat * 0+_=_;lia] at h;exact oc.mp h
 refine qb0 [Ag n wr j,.l z (P4 o),kL (Bb n j o wr.toNat n.toNat),.int 0,.u,.u,.u,.u] (λ K t=>t) ?_;refine qc5 (λ v=>∃ s:Nat,v=[Ag n wr j,.l z (P4 o),kL (Bb n j o wr.toNat n.toNat),.int (s:Nat),.u,.u,.u,.u]/\s<=n.toNat/\(wr=false->s=0)/\(∀ q,¬ Crowd n.toNat wr (P1 n j) o q)/\∀ q,¬ Crowd n.toNat false (λ k=>Aa n.toNat (s % n.toNat) (P1 n j k)) o q) (λ K t=>?_) ?_
 . refine if_v (b:=wr) rfl (λ E=>?_) λ E=>t _ ⟨0,rfl,by lia,λ _=>rfl,?_,?_⟩
   . subst E
     obtain⟨r,u,h0⟩:=qaA2 (T:=o) (by lia) B a0;have hm:(0:Int)∈Bb n j o 1 n.toNat:=zBb.mpr ⟨r,zAp.mpr u,by rw[Nat.mul_one];exact h0⟩;obtain⟨L,R,O,nL⟩:=List.eq_append_cons_of_mem hm;have S:L.length < n.toNat:=by
       have:=congrArg Mv O
       unfold Bb at this;simp at this;lia
     have Y:onT n j o (n.toNat+L.length+1)=0:=by
       have:(Bb n j o 1 n.toNat)[L.length]? = some 0:=by rw[O];simp
       unfold Bb at this;rw[zB8,List.getElem?_range S,Nat.mul_one] at this;exact Oy this
     refine qw1 (d:=.int ((L.length+1:Nat):Int)) (Ae (g:=Ji) (y:=.int 1) (Ae (g:=Jp) (x:=kL (L++0::R)) (y:=.int 0) (by rw[<- O];rfl) rfl (qaW0 nL)) rfl rfl) (t _ ⟨L.length+1,rfl,by lia,λ h=>absurd h (by decide),λ q c=>?_,qI2 S B Y⟩);have c:=c.2;rw[if_pos rfl] at c;lia
   . subst E
     have h:decide _=false:=h;rw[show n.toNat * false.toNat+n.toNat=n.toNat by show n.toNat * 0+_=_;lia] at h;exact λ q c=>zB9 h (oc.mpr ⟨q,c⟩)
   subst E;have h:decide _=false:=h;rw[show n.toNat * false.toNat+n.toNat=n.toNat by show n.toNat * 0+_=_;lia] at h;rw[Nat.zero_mod,show (λ k=>Aa n.toNat 0 (P1 n j k))=P1 n j from funext λ k=>Il];exact λ q c=>zB9 h (oc.mpr ⟨q,c⟩)
 rintro v ⟨s,rfl,hs,E,nc,a1⟩;have G:s % n.toNat < n.toNat:=Nat.mod_lt _ (by lia);generalize eP:kL (Bb n j o wr.toNat n.toNat)=H;refine qb0 [Ag n wr j,.l z (P4 o),H,.int (s:Nat),.l false (P5 n.toNat λ _=>none),.u,.u,.u] (λ K t=>qw1 (Ae rfl (y:=.int n) rfl (qP1 (by lia) n2)) t) ?_;refine qb0 [Ag n wr j,.l z (P4 o),H,.int (s:Nat),.l false (P5 n.toNat λ _=>none),.int (-1),.u,.u] (λ K t=>t) ?_;refine qc5 (λ v=>∃ g d5 I J,v=[Ag n wr j,.l z (P4 o),H,.int (s:Nat),rL n g,d5,I,J]/\Kept n.toNat wr (P1 n j) g o) (λ K t=>?_) ?_
 . refine co_to (qi3 (qa0 (a:=D.l z (P4 o)) rfl (qa0 (a:=P4 o) rfl ⟨qk2 o,?_⟩)))
   refine qq6 (λ ι=>∃ d,ι=[d,.int (s:Nat),Ag n wr j]) (λ x=>some (match x with | .int k=>.q [.int (Aa n.toNat (s % n.toNat) (P1 n j k):Nat),.int k] | d=>d)) _ [] _ (by show 0+_ < 1000000;rw[qh0];lia) ⟨_,rfl⟩ ?_ ?_
   . rintro y U ι a4 ⟨d,rfl⟩ R hR V
     obtain⟨k,_,rfl⟩:=zBb.mp U;have this:=hR [.int k,.int (s:Nat),Ag n wr j] ⟨_,rfl⟩;refine qq1 (qaj4 (B7 rfl (qi3 (qt9 (qt9 (qz0 (x:=Ag n wr j) (y:=.int k) (d:=.int (qc2 n j k)) rfl rfl rfl ⟨n,wr,j,k,rfl,M,nd,rfl⟩ rfl ?_))))));refine qa0 (a:=D.int (qc2 n j k - (s:Nat))) rfl (qa0 (a:=D.int (Aa n.toNat (s % n.toNat) (P1 n j k):Nat)) ((Fh (by lia)).trans ?_) (qe3 (y:=.int k) rfl rfl (qc4 ⟨lt2,V,this⟩)));have Y:=qaB0 (B k) hs;rw[qJ4 M k,show ((n.toNat:Nat):Int)=n by lia] at Y;rw[Y]
   rintro ι ⟨d,rfl⟩;rw[zBi,qah1];have O:((P4 o).map λ x=>match x with | .int k=>D.q [.int (Aa n.toNat (s % n.toNat) (P1 n j k):Nat),.int k] | d=>d)=P7 (o.map λ k=>((Aa n.toNat (s % n.toNat) (P1 n j k):Nat),k)):=by
     unfold P4 P7;rw[Mz,Mz];rfl
   rw[O];have pw:=qaT2 (f:=λ k=>Aa n.toNat (s % n.toNat) (P1 n j k)) N;have Z:=qad2 (f:=λ k=>Aa n.toNat (s % n.toNat) (P1 n j k)) (ks:=o);have of:=λ p=>qad3 (f:=λ k=>Aa n.toNat (s % n.toNat) (P1 n j k)) (ks:=o) (p:=p)
   have es:=qal0 (z:=false) (L:=o.map λ k=>(((Aa n.toNat (s % n.toNat) (P1 n j k):Nat):Int),k)) rfl N (by lia);generalize Ew (o.map λ k=>(((Aa n.toNat (s % n.toNat) (P1 n j k):Nat):Int),k))=L at pw Z of es;refine qc4 (qa0 (a:=D.l false (P7 L)) es (qa0 (a:=P7 L) rfl ⟨qJ1 L,?_⟩));refine qe1 (λ i v=>∃ g top I J,v=[Ag n wr j,.l z (P4 o),H,.int (s:Nat),.l false (P5 n.toNat λ i=>g (Aa n.toNat (s % n.toNat) i)),.int ((top:Nat) - 1:Int),I,J]/\Fill n.toNat (λ k=>Aa n.toNat (s % n.toNat) (P1 n j k)) g ((L.take i).map (·.2)) top) _ 0 _ ⟨_,0,_,_,rfl,Fill.start (by lia) λ k=>qh6 (B k) G⟩ ?_ ?_
   . rintro i y U v ⟨g,top,I,J,rfl,F⟩ K2 W
     rw[zAc] at F W;unfold P7 at U;rw[zB8] at U;obtain⟨⟨h0,k⟩,hp,rfl⟩:=zAh.mp U;obtain rfl:h0=((Aa n.toNat (s % n.toNat) (P1 n j k):Nat):Int):=of _ (zB0 hp);have a2:=(zA4.mp hp).1;have a3:L.map (·.2)=((L.take i).map (·.2)++[k])++(L.drop (i+1)).map (·.2):=by
       conv=>lhs;rw[<- zBa i L,zC5 a2,(zA4.mp hp).2]
       simp
     have tk:(L.take (i+1)).map (·.2)=(L.take i).map (·.2)++[k]:=by rw[Mx,hp,zBc];rfl
     rw[a3] at pw Z;have A:∀ x∈(L.take i).map (·.2),Kj (λ k=>Aa n.toNat (s % n.toNat) (P1 n j k)) x k:=λ x hx=>(List.pairwise_append.mp (List.pairwise_append.mp pw).1).2.2 x hx k (zAl.mpr rfl)
     have nk:¬ k∈(L.take i).map (·.2):=λ h=>by rcases A k h with z | z<;>lia
     have u:=F.room A λ q c=>a1 q ((c.mono (Nl _ _)).perm Z)
     have F':=F.put nk A u;generalize er:max top (Aa n.toNat (s % n.toNat) (P1 n j k))=r at u F';refine qF4 (At [Ag n wr j,.l z (P4 o),H,.int (s:Nat),.l false (P5 n.toNat λ i=>g (Aa n.toNat (s % n.toNat) i)),.int ((top:Nat) - 1:Int),.int (Aa n.toNat (s % n.toNat) (P1 n j k):Nat),.int k] rfl ?_);refine qb0 [Ag n wr j,.l z (P4 o),H,.int (s:Nat),.l false (P5 n.toNat λ i=>g (Aa n.toNat (s % n.toNat) i)),.int (r:Nat),.int (Aa n.toNat (s % n.toNat) (P1 n j k):Nat),.int k] (λ K t=>qw1 (d:=.int (r:Nat)) ?_ t) ?_
     . show some (D.int (if ((Aa n.toNat (s % n.toNat) (P1 n j k):Nat):Int) > (top:Nat) - 1+1 then ((Aa n.toNat (s % n.toNat) (P1 n j k):Nat):Int) else (top:Nat) - 1+1))=_
       congr 2
       split<;>lia
     have em:(((s:Nat):Int)+(r:Nat)) % n=(rot n.toNat (s % n.toNat) r:Nat):=by
       have:((s+r:Nat):Int) % ((n.toNat:Nat):Int)=((s+r) % n.toNat:Nat):=by lia
       rw[show ((n.toNat:Nat):Int)=n by lia,Nat.add_mod,zCg u,qar8 G u] at this;rw[<- this];congr 1
     refine qB7 (ys:=P5 n.toNat λ i=>g (Aa n.toNat (s % n.toNat) i)) (d:=.int k) (k:=(rot n.toNat (s % n.toNat) r:Nat)) rfl rfl rfl (Ae (x:=.int ((s:Nat)+(r:Nat))) (y:=.int n) rfl rfl ((Fh (by lia)).trans (by rw[em]))) (qF2 (qE0 G u)) ?_;rw[qw3];have ec:P5 n.toNat (Row.set (λ i=>g (Aa n.toNat (s % n.toNat) i)) (rot n.toNat (s % n.toNat) r) k)=P5 n.toNat λ i=>Row.set g r k (Aa n.toNat (s % n.toNat) i):=ql8 λ i hi=>by
       by_cases e:i=rot n.toNat (s % n.toNat) r
       . subst e;rw[qb6,qo6 G u,qb6]
       rw[qd0 e,qd0 λ z=>e (by rw[<- z,qn9 G hi])]
     refine W _ ⟨_,r+1,.int (Aa n.toNat (s % n.toNat) (P1 n j k):Nat),.int k,?_,by rw[tk];exact F'⟩;rw[<- ec,show (((r+1:Nat):Int) - 1)=((r:Nat):Int) by lia];rfl
   rintro v ⟨g,top,I,J,rfl,F⟩;have X:(P7 L).length=L.length:=zAf _;rw[zAc,X,M4] at F;refine t _ ⟨_,_,_,_,rfl,?_⟩;have K1:=F.k.of_perm Z;cases wr with
   | true=>exact K1.turn G B
   | false =>
     obtain rfl:=E rfl;rw[Nat.zero_mod] at K1 ⊢;rw[show (λ k=>Aa n.toNat 0 (P1 n j k))=P1 n j from funext λ k=>Il] at K1;rw[show (λ i=>g (Aa n.toNat 0 i))=g from funext λ i=>by rw[Il]];exact K1
 rintro v ⟨g,d5,I,J,rfl,KP⟩;exact q' nc g KP
theorem qc1:qa8 ["_law_bag_here", "_law_size", "_law_many", "_law_way", "_law_one", "_law_other", "_law_homes", "_law_k", "_law_some"] ["_law_bag_here", "_law_size", "_law_many"] (qa3 qj4):=by walk_at "s"
def qA3:VSp:=λ ds Q _=>∃ b n m ns,ds=[b,.int n,.int m]/\Qe ns b/\1<=n/\n<=64/\0<=m/\m<=100 /\
 ∀ c a,Qe ns c->(∀ h∈a,0<=h/\h < n)->a.length=m.toNat->Q (kL a) [c,.int n,.u]
theorem qaQ6{x y i:Int}(c:0<=i)(h1:i < 2){P:Int->Prop}(d:P x)(e:P y):∃ v,atI [D.int x,D.int y] i=some (.int v)/\P v:=by
 obtain⟨v,a,b⟩:=qK8 (xs:=[D.int x,D.int y]) c h1;simp only[zAn,zBu,or_false] at a;rcases a with rfl | rfl
 . exact⟨x,b,d⟩
 exact⟨y,b,e⟩
theorem qT6{x y z w i:Int}(c:0<=i)(h1:i < 4){P:Int->Prop}(d:P x)(e:P y)(f:P z)(g:P w):∃ v,atI [D.int x,D.int y,D.int z,D.int w] i=some (.int v)/\P v:=by
 obtain⟨v,b,a⟩:=qK8 (xs:=[D.int x,D.int y,D.int z,D.int w]) c h1;simp only[zAn,zBu,or_false] at b;rcases b with rfl | rfl | rfl | rfl
 . exact⟨x,a,d⟩
 . exact⟨y,a,e⟩
 . exact⟨z,a,f⟩
 exact⟨w,a,g⟩
theorem qA9(T:Txt K mg a):VFn P w K mg base 2 a.f39 a.d39 ["_law_bag_here", "_law_size", "_law_many"] qA3:=by
 refine VFn.mk' T.d39.F qc1 (wOf [true,true,true]) (λ c Q Q' M X Y _ h=>by obtain⟨b,n,m,j,e,N,O,R,A,Z,q⟩:=h;exact⟨b,n,m,j,e,N,O,R,A,Z,λ s f S a2 a3=>Y _ _ (q s f S a2 a3)⟩) (λ c Q M h=>by obtain⟨b,n,m,j,e,_⟩:=h;rw[e];rfl) (λ c Q M h=>by obtain⟨b,n,m,j,e,⟨x,y,z,eb,_⟩,_⟩:=h;rw[e,eb];rfl) (λ _ _ _ _ _ _ _ C=>⟨_,(Ab (Al 3 qc1.nd (Ak T.d34 (qb9 T) qa1 (rm C) (vaN 0 (vaV (qa4 Af) Ad)))) (Ab (Al 4 qc1.nd (Ak T.d34 (qb9 T) qa1 (rm C) (vaN 0 (vaN 1 Ad)))) (Ab (Al 5 qc1.nd (Ak T.d34 (qb9 T) qa1 (rm C) (vaN 0 (vaN 1 Ad)))) (Ab (Al 6 qc1.nd (qa4 (By qa6))) (Ab (qM8 Oz T.Cr (F4 (vaN 2 Ad)) (Be 7 qc1.nd) (Ab (Al 8 qc1.nd (Hy (vaV (Ak T.d34 (qb9 T) qa1 (rm C) (vaN 0 (vaN 1 Ad))) (vaV (qb7 (vnm 4)) (vaV (e2 (Am qs5) qs4 (qa4 (v2 (Am qs5) qs4 (vnm 1) Af)) (Ak T.d34 (qb9 T) qa1 (rm C) (vaN 0 (vaV (qa4 (vbi (qG3 rfl) qah7.ops T.Ed (qa2 Af (qa2 (vnm 1) qa6 rfl) rfl))) Ad)))) (vaV (qa4 (v2 (Av qb3) Ap (By (qa2 (vnm 4) (qa2 (vnm 5) qa6 rfl) rfl)) (v2 (Am ql3) ql2 (vnm 7) Af))) Ad)))))) (Aj (Bq (Fe 6 qu7 O2 O3 O4 qd2 (vaV (qb7 (v2 (Av qb3) Ap (vnm 8) (vnm 3))) Ad)))))) (Aj (Aq (emv 6)))))))),λ c Q M h=>?_⟩);obtain⟨b,n,m,j,rfl,B,n1,n2,m0,m1,q⟩:=h;refine At [b,.int n,.int m,.u,.u,.u,.u,.u,.u] rfl ?_;refine qc5 (λ c=>∃ b w,c=[b,.int n,.int m,.int w,.u,.u,.u,.u,.u]/\Qe j b/\0<=w/\w < 4) (λ K g=>?_) ?_
 . exact qd6 rfl B rfl (by decide) (by decide) λ v s E G B'=>g _ ⟨s,v,rfl,B',E,G⟩
 rintro c ⟨b,way,rfl,B,w0,w1⟩;refine qc5 (λ c=>∃ b o,c=[b,.int n,.int m,.int way,.int o,.u,.u,.u,.u]/\Qe j b/\0<=o/\o < n) (λ K g=>?_) ?_
 . exact qv6 (m:=n) rfl B rfl (by decide) (by lia) (by lia) λ v s E G B'=>g _ ⟨s,v,rfl,B',E,G⟩
 rintro c ⟨b,o,rfl,B,V,W⟩;refine qc5 (λ c=>∃ b p,c=[b,.int n,.int m,.int way,.int o,.int p,.u,.u,.u]/\Qe j b/\0<=p/\p < n) (λ K g=>?_) ?_
 . exact qv6 (m:=n) rfl B rfl (by decide) (by lia) (by lia) λ v s E G B'=>g _ ⟨s,v,rfl,B',E,G⟩
 rintro c ⟨b,p,rfl,B,p0,p1⟩;refine qb0 [b,.int n,.int m,.int way,.int o,.int p,kL [],.u,.u] (λ K g=>g) ?_;refine qc5 (λ c=>∃ b f t k,c=[b,.int n,.u,.int way,.int o,.int p,kL f,t,k]/\Qe j b/\(∀ h∈f,0<=h/\h < n)/\f.length=m.toNat) (λ K g=>?_) ?_
 . refine qao2 (n:=m) rfl (qP2 (by lia) (by lia)) ?_
   refine qe1 (λ i c=>∃ b f t k,c=[b,.int n,.u,.int way,.int o,.int p,kL f,t,k]/\Qe j b/\(∀ h∈f,0<=h/\h < n)/\f.length=i) _ 0 _ ⟨b,[],_,_,rfl,B,nofun,rfl⟩ ?_ ?_
   . rintro i x hx c ⟨b,f,t,k,rfl,B,U,L⟩ K2 H
     rw[zAc] at L H;obtain⟨hi,rfl⟩:=qH4 hx;refine At [b,.int n,.u,.int way,.int o,.int p,kL f,.int (i:Nat),k] rfl ?_;refine qc5 (λ c=>∃ b u I l r,c=[b,.int n,.u,.int way,.int o,.int p,kL f,.int (i:Nat),.l false [.int u,.int I,.int l,.int r]]/\Qe j b/\(0<=u/\u < n)/\(0<=I/\I < n)/\(0<=l/\l < n)/\(0<=r/\r < n)) (λ K g=>?_) ?_
     . refine qe5 (qB1 (qi3 ?_))
       refine qv6 (ds:=[b,.int n,.u,.int way,.int o,.int p,kL f,.int (i:Nat),k]) (m:=n) rfl B rfl (by decide) (by lia) (by lia) λ u b1 a0 S B1=>?_
       refine qe3 (y:=.int o) rfl rfl (qi3 (qM0 (x:=.int (n - 1)) rfl ?_));refine qd6 (ds:=[b1,.int n,.u,.int way,.int o,.int p,kL f,.int (i:Nat),k]) (m:=if n < 4 then n else 4) rfl B1 rfl (by split<;>lia) (by split<;>lia) λ l b2 c0 c1 B2=>?_
       have c2:l < n:=by revert c1;split<;>lia
       refine qa0 (a:=D.int (n - 1 - l)) rfl ?_;obtain⟨r,e4,A⟩:=qaQ6 (x:=o) (y:=p) (i:=((i:Nat):Int) % 2) (by lia) (by lia) (P:=λ v=>0<=v/\v < n) ⟨V,W⟩ ⟨p0,p1⟩;refine qf1 (y:=.int r) (Ae (x:=.l false [.int o,.int p]) rfl (Ae (x:=.int (i:Nat)) (y:=.int 2) rfl rfl (Fh (by decide))) e4) (qc4 ⟨lt4,?_⟩);exact g _ ⟨b2,u,o,n - 1 - l,r,rfl,B2,⟨a0,S⟩,⟨V,W⟩,⟨by lia,by lia⟩,A⟩
     rintro c ⟨b,u,I,l,r,rfl,B,N,O,R,A⟩;obtain⟨v,ev,hv⟩:=qT6 (P:=λ v=>0<=v/\v < n) w0 w1 N O R A;refine qav8 (ys:=P4 f) (d:=.int v) rfl (Ae (x:=.l false [.int u,.int I,.int l,.int r]) rfl rfl ev) rfl (by rw[qh0];unfold big;lia) ?_;rw[qI9];refine H _ ⟨b,f++[v],_,_,rfl,B,λ h J=>?_,by rw[zAe,L];rfl⟩;rcases zA9.mp J with J | J
     . exact U h J
     rw[zAl.mp J];exact hv
   rintro c ⟨b,f,t,k,rfl,h⟩;rw[zAc,qI6] at h;exact g _ ⟨b,f,t,k,rfl,h⟩
 rintro c ⟨b,f,t,k,rfl,B,U,L⟩;exact q b f B U L
theorem qd1:qa8 ["_law_bag_here", "_law_most", "_law_way", "_law_size", "_law_wraps", "_law_many", "_law_told_here", "_law_great", "_law_keys", "_law_home_here", "_law_key", "_law_homes", "_law_number"] ["_law_bag_here", "_law_most"] (qa3 qO0):=by walk_at "s"
def qak9:VSp:=λ ds Q _=>∃ b M ns,ds=[b,.int M]/\Qe ns b/\1<=M/\M<=64/\∀ a n wr ps ks,Qe ns a->1<=n->n<=64->Kk ps->ks.Nodup->(∀ k∈ks,An k)->ks.length<=66->Q (.q [Ag n wr ps,kL ks]) [a,.int M]
theorem qaw4{x y z i:Int}(c:0<=i)(h1:i < 3){P:Int->Prop}(d:P x)(e:P y)(f:P z):∃ v,atI [D.int x,D.int y,D.int z] i=some (.int v)/\P v:=by
 obtain⟨v,b,a⟩:=qK8 (xs:=[D.int x,D.int y,D.int z]) c h1;simp only[zAn,zBu,or_false] at b;rcases b with rfl | rfl | rfl
 . exact⟨x,a,d⟩
 . exact⟨y,a,e⟩
 exact⟨z,a,f⟩
theorem qaO2{x i:Int}(b:0<=i)(h1:i < 5)(d:0<=x/\x<=64):∃ v,atI [D.int 0,D.int 0,D.int 1,D.int 6,D.int x] i=some (.int v)/\0<=v/\v<=64:=by
 obtain⟨v,a,c⟩:=qK8 (xs:=[D.int 0,D.int 0,D.int 1,D.int 6,D.int x]) b h1;simp only[zAn,zBu,or_false] at a;rcases a with rfl | rfl | rfl | rfl | rfl<;>exact⟨_,c,by lia,by lia⟩
theorem qaI4{ps:Pr}{m:Int}:P7 ps++[.q [.int k,.int m]]=P7 (ps++[(k,m)]):=by unfold P7;rw[zBc];rfl
theorem qaM3(ps:Pr):(P7 ps).length=ps.length:=zAf _
abbrev qd8 (M) (way) (n:Int) (wr:Bool) (told) (gr) (p0 d e f a b c:D):=([p0,.int M,.int way,.int n,.bl wr,d,.int told,.int gr,e,f,a,b,c]:Ds)
theorem qam5(T:Txt K mg a):VFn P w K mg base 3 a.f40 a.d40 ["_law_bag_here", "_law_most"] qak9:=by
 refine VFn.mk' T.d40.F qd1 (wOf [true,true]) (λ c Q Q' xe a9 hQ _ h=>by obtain⟨b,M,s,e,h1,h2,h3,q⟩:=h;exact⟨b,M,s,e,h1,h2,h3,λ O n wr j f a1 H a3 a4 a5 a6 a7=>hQ _ _ (q O n wr j f a1 H a3 a4 a5 a6 a7)⟩) (λ c Q xe ⟨b,M,s,e,_⟩=>by rw[e];rfl) (λ c Q xe h=>by obtain⟨b,M,s,e,⟨x,y,z,eb,_⟩,_⟩:=h;rw[e,eb];rfl) (λ _ _ _ _ _ _ _ t=>⟨_,(Ab (Al 2 qd1.nd (Ak T.d34 (qb9 T) qa1 (rm t) (vaN 0 (vaV (qa4 Af) Ad)))) (Ab (Al 3 qd1.nd (e2vP (Av qb3) Ap (Hy (vaV (e2 (Am qg7) qg6 (qa4 Af) (Ak T.d34 (qb9 T) qa1 (rm t) (vaN 0 (vaV (qa4 (vbi (qG3 rfl) qah7.ops T.Ed (qa2 Af (qa2 (vnm 1) qa6 rfl) rfl))) Ad)))) (vaV (e2 (Am qg7) qg6 (qa4 Af) (Ak T.d34 (qb9 T) qa1 (rm t) (vaN 0 (vaV (qa4 (vbi (qG3 rfl) qah7.ops T.Ed (qa2 Af (qa2 (vnm 1) qa6 rfl) rfl))) Ad)))) (vaV (e2 (Am qg7) qg6 (qa4 Af) (Ak T.d34 (qb9 T) qa1 (rm t) (vaN 0 (vaN 1 Ad)))) (vaV (qb7 (vnm 1)) Ad))))) (vnm 2))) (Ab (Al 4 qd1.nd (e2v (A6 (qi0 t.u64) (qb2 _)) Bf (Ak T.d34 (qb9 T) qa1 (rm t) (vaN 0 (vaV (qa4 Af) Ad))) Af)) (Ab (Al 5 qd1.nd (e2P (Av qb3) Ap (Hy (vaV (qb7 (vnm 3)) (vaV (qa4 (v2 (Am qg7) qg6 (vnm 3) Af)) (vaV (qa4 (v2 (Am qg7) qg6 Af (v2 (Am qO4) qaA0 (v2 (Am qy1) qy0 (vnm 3) Af) Af))) (vaV (Ak T.d34 (qb9 T) qa1 (rm t) (vaN 0 (vaV (qa4 (v2 (Am qg7) qg6 (vnm 3) Af)) Ad))) Ad))))) (Ak T.d34 (qb9 T) qa1 (rm t) (vaN 0 (vaV (qa4 Af) Ad))))) (Ab (Al 6 qd1.nd (e2P (Av qb3) Ap (qa4 (By (qa2 Af (qa2 Af (qa2 Af (qa2 Af (qa2 Af qa6 rfl) rfl) rfl) rfl) rfl))) (Ak T.d34 (qb9 T) qa1 (rm t) (vaN 0 (vaV (qa4 Af) Ad))))) (Ab (Al 7 qd1.nd (e2P (Av qb3) Ap (qa4 (By (qa2 Af (qa2 Af (qa2 Af (qa2 (vpow 10000000000000000) qa6 rfl) rfl) rfl) rfl))) (Ak T.d34 (qb9 T) qa1 (rm t) (vaN 0 (vaV (qa4 Af) Ad))))) (Ab (Al 8 qd1.nd (qa4 (By qa6))) (Ab (Ku Oz (Ak T.d39 (qA9 T) qa1 (rm t) (vaN 0 (vaN 3 (vaN 5 Ad)))) (Be 9 qd1.nd) (Ab (Al 10 qd1.nd (e2n 9 (Am qg7) qg6 (e2n 3 (Am qy1) qy0 (Ak T.d34 (qb9 T) qa1 (rm t) (vaN 0 (vaN 7 Ad)))))) (Aj (sif (q2 (As qy2 (by with_unfolding_all rfl)) Iu (vnm 10) (vnm 8)) (Aj (Bq (Fe 8 qu7 O2 O3 O4 qd2 (vaN 10 Ad)))) Ax)))) (Ab (Al 11 qd1.nd (qa4 (By qa6))) (Ab (Ku Oz (qa4 (vsl (vnm 8) vpo_n (vpo_s (vnm 6)))) (Be 10 qd1.nd) (Ab (Al 12 qd1.nd (e2P (Av qb3) Ap (Hy (vaV (Ak T.d34 (qb9 T) qa1 (rm t) (vaN 0 (vaN 3 Ad))) (vaV (e2 (Am qs5) qs4 (qa4 (vpow 1000000000000000000)) (Ak T.d34 (qb9 T) qa1 (rm t) (vaN 0 (vaN 3 Ad)))) (vaV (Ak T.d34 (qb9 T) qa1 (rm t) (vaN 0 (vaV (qa4 (vpow 1000000000000000000)) Ad))) Ad)))) (Ak T.d34 (qb9 T) qa1 (rm t) (vaN 0 (vaV (qa4 Af) Ad))))) (Aj (Bq (Fe 11 qu7 O2 O3 O4 qd2 (vaV (qa4 (Gf (qa2 (vnm 10) (qa2 (vnm 12) qa6 rfl) rfl))) Ad)))))) (Aj (Aq (Ha (vaV (Ha (vaV (qb7 (vnm 3)) (vaV (qb7 (vnm 4)) (vaV (efz 11) Ad)))) (vaV (emv 8) Ad))))))))))))))),λ c Q xe h=>?_⟩);obtain⟨b,M,s,rfl,B,M0,M1,q⟩:=h;refine At [b,.int M,.u,.u,.u,.u,.u,.u,.u,.u,.u,.u,.u] rfl ?_;refine qc5 (λ c=>∃ b way,c=[b,.int M,.int way,.u,.u,.u,.u,.u,.u,.u,.u,.u,.u]/\Qe s b/\0<=way/\way < 4) (λ K o=>?_) ?_
 . exact qd6 rfl B rfl (by decide) (by decide) λ v O X v1 B'=>o _ ⟨O,v,rfl,B',X,v1⟩
 rintro c ⟨b,way,rfl,B,w0,w1⟩;refine qc5 (λ c=>∃ b n,c=[b,.int M,.int way,.int n,.u,.u,.u,.u,.u,.u,.u,.u,.u]/\Qe s b/\1<=n/\n<=64) (λ K o=>?_) ?_
 . refine qe5 (qaG0 (qB1 (qi3 (qM0 (x:=.int 1) rfl ?_))))
   refine qd6 (ds:=[b,.int M,.int way,.u,.u,.u,.u,.u,.u,.u,.u,.u,.u]) (m:=if M < 8 then M else 8) rfl B rfl (by split<;>lia) (by split<;>lia) λ R L a1 c1 B1=>?_
   have e1:R < M:=by revert c1;split<;>lia
   refine qa0 (a:=D.int (1+R)) rfl (qi3 (qM0 (x:=.int 1) rfl ?_));refine qd6 (ds:=[L,.int M,.int way,.u,.u,.u,.u,.u,.u,.u,.u,.u,.u]) (m:=if M < 16 then M else 16) rfl B1 rfl (by split<;>lia) (by split<;>lia) λ I J H N B2=>?_
   have e2:I < M:=by revert N;split<;>lia
   refine qa0 (a:=D.int (1+I)) rfl (qi3 (qM0 (x:=.int 1) rfl ?_));refine qv6 (ds:=[J,.int M,.int way,.u,.u,.u,.u,.u,.u,.u,.u,.u,.u]) (m:=M) rfl B2 rfl (by decide) (by lia) (by lia) λ x3 b3 a3 c3 B3=>?_
   refine qa0 (a:=D.int (1+x3)) rfl (qe3 (y:=.int M) rfl rfl (qc4 ⟨lt4,qa0 (a:=D.int way) rfl ⟨rfl,?_⟩⟩));obtain⟨n,en,hn⟩:=qT6 (P:=λ v=>1<=v/\v<=64) w0 w1 (x:=1+R) (y:=1+I) (z:=1+x3) (w:=M) ⟨by lia,by lia⟩ ⟨by lia,by lia⟩ ⟨by lia,by lia⟩ ⟨M0,M1⟩;exact qa0 en (o _ ⟨b3,n,rfl,B3,hn.1,hn.2⟩)
 rintro c ⟨b,n,rfl,B,n1,n2⟩;refine qc5 (λ c=>∃ b wr,c=[b,.int M,.int way,.int n,.bl wr,.u,.u,.u,.u,.u,.u,.u,.u]/\Qe s b) (λ K o=>?_) ?_
 . refine qe5 (qt9 (qd6 rfl B rfl (by decide) (by decide) λ v O X v1 B'=>?_))
   exact qa0 (a:=D.bl (decide (v=1))) rfl (o _ ⟨O,_,rfl,B'⟩)
 rintro c ⟨b,wr,rfl,B⟩;refine qc5 (λ c=>∃ b m,c=[b,.int M,.int way,.int n,.bl wr,.int m,.u,.u,.u,.u,.u,.u,.u]/\Qe s b/\0<=m/\m<=66) (λ K o=>?_) ?_
 . refine qe5 (qaG1 (qB1 (qe3 (y:=.int n) rfl rfl (qf1 (y:=.int (n+2)) rfl (qf1 (y:=.int (1+n * 3 / 4)) (Ae (x:=.int 1) rfl (Ae (x:=.int (n * 3)) (y:=.int 4) (Ae (x:=.int n) (y:=.int 3) rfl rfl (K8 (by decide))) rfl (qaD9 (by decide) (by decide))) rfl) (qi3 ?_))))))
   refine qd6 (ds:=[b,.int M,.int way,.int n,.bl wr,.u,.u,.u,.u,.u,.u,.u,.u]) (m:=n+1) rfl B rfl (by lia) (by lia) λ R L a1 c1 B1=>?_
   refine qc4 ⟨lt4,?_⟩;refine qd6 (ds:=[L,.int M,.int way,.int n,.bl wr,.u,.u,.u,.u,.u,.u,.u,.u]) (m:=4) rfl B1 rfl (by decide) (by decide) λ I J H N B2=>?_
   obtain⟨m,Y,A⟩:=qT6 (P:=λ v=>0<=v/\v<=66) H N (x:=n) (y:=n+2) (z:=1+n * 3 / 4) (w:=R) ⟨by lia,by lia⟩ ⟨by lia,by lia⟩ ⟨by lia,by lia⟩ ⟨by lia,by lia⟩;exact qa0 Y (o _ ⟨J,m,rfl,B2,A.1,A.2⟩)
 rintro c ⟨b,m,rfl,B,m0,m1⟩;refine qc5 (λ c=>∃ b told,c=[b,.int M,.int way,.int n,.bl wr,.int m,.int told,.u,.u,.u,.u,.u,.u]/\Qe s b/\0<=told/\told<=64) (λ K o=>?_) ?_
 . refine qe5 (qM0 (x:=.l false [.int 0,.int 0,.int 1,.int 6,.int 40]) rfl (qd6 (ds:=[b,.int M,.int way,.int n,.bl wr,.int m,.u,.u,.u,.u,.u,.u,.u]) (m:=5) rfl B rfl (by decide) (by decide) λ I J H N B2=>?_))
   obtain⟨m,Y,A⟩:=qaO2 (x:=40) H N (by decide);exact qa0 Y (o _ ⟨J,m,rfl,B2,A.1,A.2⟩)
 rintro c ⟨b,told,rfl,B,t0,t1⟩;refine qc5 (λ c=>∃ b r,c=(qd8 M way n wr told r b (.int m) .u .u .u .u .u)/\Qe s b/\1<=r/\r<=10000000000000000) (λ K o=>?_) ?_
 . refine qe5 (qM0 (x:=.l false [.int 9,.int 9,.int 9,.int 10000000000000000]) rfl (qd6 (ds:=[b,.int M,.int way,.int n,.bl wr,.int m,.int told,.u,.u,.u,.u,.u,.u]) (m:=4) rfl B rfl (by decide) (by decide) λ I J H N B2=>?_))
   obtain⟨m,Y,A⟩:=qT6 (P:=λ v=>1<=v/\v<=10000000000000000) H N (x:=9) (y:=9) (z:=9) (w:=10000000000000000) (by decide) (by decide) (by decide) (by decide);exact qa0 Y (o _ ⟨J,m,rfl,B2,A.1,A.2⟩)
 rintro c ⟨b,r,rfl,B,g0,g1⟩;refine qb0 (qd8 M way n wr told r b (.int m) (kL []) .u .u .u .u) (λ K o=>o) ?_;refine qc5 (λ c=>∃ b f u g,c=(qd8 M way n wr told r b .u (kL f) u g .u .u)/\Qe s b/\f.Nodup/\(∀ k∈f,An k)/\f.length<=66) (λ K o=>?_) ?_
 . refine qaP3 (x:=b) (y:=.int n) (w:=.int m) (qg1 rfl B.known) rfl rfl rfl (qg1 rfl B.known) ⟨b,n,m,s,rfl,B,n1,n2,m0,by lia,λ L hs B1 hh hl=>?_⟩
   refine qa0 (a:=(qd8 M way n wr told r L .u (kL []) .u .u .u .u)) rfl (qa0 (a:=P4 hs) rfl ⟨qk2 hs,?_⟩);refine qe1 (λ i c=>∃ b f u g,c=(qd8 M way n wr told r b .u (kL f) u g .u .u)/\Qe s b/\f.Nodup/\(∀ k∈f,An k)/\f.length<=i) _ 0 _ ⟨L,[],_,_,rfl,B1,N8,nofun,zA3 _⟩ ?_ ?_
   . rintro i x S c ⟨b,f,u,g,rfl,B,U,V,C⟩ K2 E
     rw[zAc] at C E;obtain⟨h,hi,rfl⟩:=qan3 S;obtain⟨h0,h1⟩:=hh h (zB0 hi);have a0:i < 66:=by have:=(zA4.mp hi).1;lia
     refine qq1 (At (qd8 M way n wr told r b .u (kL f) (.int h) g .u .u) rfl ?_);refine qc5 (λ c=>∃ b W,c=(qd8 M way n wr told r b .u (kL f) (.int h) (.int W) .u .u)/\Qe s b/\An W) (λ K o=>?_) ?_
     . refine qe5 ⟨rfl,rfl,?_⟩
       refine qv6 (ds:=[b,.int M,.int way,.int n,.bl wr,.u,.int told,.int r,kL f,.int h,g,.u,.u]) (m:=r) rfl B rfl (by decide) (by lia) (by lia) λ v O X v1 B'=>?_
       have e2:0<=n * v:=Int.mul_nonneg (by lia) X;have e3:n * v<=64 * v:=Int.mul_le_mul_of_nonneg_right n2 X;exact qa0 (a:=D.int (n * v)) (mulL (qaa9 (by lia) (by lia))) (qa0 (a:=D.int (h+n * v)) rfl (o _ ⟨O,h+n * v,rfl,B',by lia,by lia⟩))
     rintro c ⟨b,W,rfl,B,a8⟩;refine if_v (b:=!decide (W∈f)) (Ae rfl rfl qad9) (λ hb=>?_) λ hb=>E _ ⟨b,f,_,_,rfl,B,U,V,by lia⟩
     have A:¬ W∈f:=λ z=>by rw[zAq z] at hb;cases hb
     refine qaP5 (ys:=P4 f) (d:=.int W) rfl rfl rfl (by decide) (by rw[qh0];unfold big;lia) ?_;rw[qI9];refine E _ ⟨b,f++[W],_,_,rfl,B,zBr.mpr ⟨U,(by simp),λ x S y hy e=>A (by rw[<- zAl.mp hy,<- e];exact S)⟩,λ x S=>?_,by rw[zAe];exact Nat.add_le_add_right C 1⟩;rcases zA9.mp S with h | h
     . exact V x h
     rw[zAl.mp h];exact a8
   rintro c ⟨b,f,u,g,rfl,B,U,V,C⟩;rw[zAc,qh0] at C;exact o _ ⟨b,f,u,g,rfl,B,U,V,by lia⟩
 rintro c ⟨b,f,u,g,rfl,B,U,V,C⟩;refine qb0 (qd8 M way n wr told r b .u (kL f) u g (.l false (P7 [])) .u) (λ K o=>o) ?_;refine qc5 (λ c=>∃ b j g l,c=(qd8 M way n wr told r b .u (kL f) u g (.l false (P7 j)) l)/\Qe s b/\j.map (·.1)=f.take told.toNat/\∀ p∈j,An p.2) (λ K o=>?_) ?_
 . have ec:Fw (P4 f) none (some told)=P4 (f.take told.toNat):=by rw[show told=((told.toNat:Nat):Int) by lia,qU6,Int.toNat_natCast];unfold P4;rw[Nf]
   refine qu6 (qaX2 rfl rfl rfl ec) (qa0 (a:=P4 (f.take told.toNat)) rfl ⟨qk2 _,?_⟩);refine qe1 (λ i c=>∃ b j g l,c=(qd8 M way n wr told r b .u (kL f) u g (.l false (P7 j)) l)/\Qe s b/\j.map (·.1)=(f.take told.toNat).take i/\∀ p∈j,An p.2) _ 0 _ ⟨b,[],_,_,rfl,B,rfl,nofun⟩ ?_ ?_
   . rintro i x S c ⟨b,j,g,l,rfl,B,G,Z⟩ K2 E
     rw[zAc] at G E;obtain⟨k,hi,rfl⟩:=qan3 S;have a0:j.length<=64:=by have:=congrArg Mv G;simp at this;lia
     refine qq1 (At (qd8 M way n wr told r b .u (kL f) u (.int k) (.l false (P7 j)) l) rfl ?_);refine qc5 (λ c=>∃ b v,c=(qd8 M way n wr told r b .u (kL f) u (.int k) (.l false (P7 j)) (.int v))/\Qe s b/\An v) (λ K o=>?_) ?_
     . refine qe5 (qaG1 (qB1 (qi3 ?_)))
       refine qv6 (ds:=[b,.int M,.int way,.int n,.bl wr,.u,.int told,.int r,kL f,u,.int k,.l false (P7 j),l]) (m:=n) rfl B rfl (by decide) (by lia) (by lia) λ R L a1 c1 B1=>qi3 (qM0 (x:=.int 1000000000000000000) rfl ?_)
       refine qv6 (ds:=[L,.int M,.int way,.int n,.bl wr,.u,.int told,.int r,kL f,u,.int k,.l false (P7 j),l]) (m:=n) rfl B1 rfl (by decide) (by lia) (by lia) λ I J H N B2=>qa0 (a:=D.int (1000000000000000000 - I)) rfl (qi3 ?_)
       refine qd6 (ds:=[J,.int M,.int way,.int n,.bl wr,.u,.int told,.int r,kL f,u,.int k,.l false (P7 j),l]) (m:=1000000000000000000) rfl B2 rfl (by decide) (by decide) λ x3 b3 a3 c3 B3=>qc4 ⟨lt3,?_⟩
       refine qd6 (ds:=[b3,.int M,.int way,.int n,.bl wr,.u,.int told,.int r,kL f,u,.int k,.l false (P7 j),l]) (m:=3) rfl B3 rfl (by decide) (by decide) λ x4 b4 a4 c4 B4=>?_
       obtain⟨v,ev,hv⟩:=qaw4 (P:=An) a4 c4 (x:=R) (y:=1000000000000000000 - I) (z:=x3) ⟨by lia,by lia⟩ ⟨by lia,by lia⟩ ⟨by lia,by lia⟩;exact qa0 ev (o _ ⟨b4,v,rfl,B4,hv⟩)
     rintro c ⟨b,v,rfl,B,hv⟩;refine qK9 (ys:=P7 j) (d:=.q [.int k,.int v]) rfl rfl (by rw[qaM3];unfold big;lia) ?_;rw[qaI4];refine E _ ⟨b,j++[(k,v)],_,_,rfl,B,by rw[zBc,G,qk7 hi];rfl,λ p A=>?_⟩;rcases zA9.mp A with h | h
     . exact Z p h
     rw[zAl.mp h];exact hv
   rintro c ⟨b,j,g,l,rfl,B,G,Z⟩;rw[zAc,qh0,M4] at G;exact o _ ⟨b,j,g,l,rfl,B,G,Z⟩
 rintro c ⟨b,j,g,l,rfl,B,G,Z⟩;have hG:Kk j:=⟨by have:=congrArg Mv G;simp at this;lia,by rw[G];exact U.sublist (Mw _ _),λ p A=>⟨V _ (Nr (by rw[<- G];exact List.mem_map_of_mem A)),Z p A⟩⟩
 refine qf5 (qZ8 (qaF4 (qe3 (y:=.int n) rfl rfl (qe3 (y:=.bl wr) rfl rfl (qi3 (qaQ8 (d:=.l false (P7 j)) rfl (qc4 ⟨lt3,?_⟩)))))));refine qi3 (qa0 (a:=D.l false (P4 f)) rfl (qc4 ⟨lt2,?_⟩));have e:(D.l false (P7 j)).fz=.l true (P7 j):=congrArg (D.l true) (qag9 j);rw[e];exact q b n wr j f B n1 n2 hG U V C
theorem qr6:qa8 ["_law_plan", "_law_keys", "_law_found", "_law_key"] ["_law_plan", "_law_keys"] (qa3 qx7):=by walk_at "s"
def qX2:VSp:=λ ds Q _=>∃ n wr ps z ks,ds=[Ag n wr ps,.l z (P4 ks)]/\1<=n/\n<=64/\(ps.map (·.1)).Nodup/\ks.Nodup/\ks.length<=100 /\
 ∀ S,S.Sublist ks->(∀ q,¬ Crowd n.toNat wr (P1 n ps) S q)->Q (kL S) ds
theorem qY3(T:Txt K mg a):VFn P w K mg base 4 a.f41 a.d41 ["_law_plan", "_law_keys"] qX2:=by
 refine VFn.mk2 T.d41.F qr6 (wOf [true,true]) (by walk_at "m") (by walk_at "l") (λ _ _ _ _ _ _ _ H=>⟨_,(Ab (Al 2 qr6.nd (qa4 (By qa6))) (Ab (Ja Oz (vpn 1) (Be 3 qr6.nd) (Aj (sif (q2v (A6 qp3 (qb2 _)) (As qp3 (qb2 _)) qu4 (Ak T.d38 (qy5 T) qa1 (rm H) (vaN 0 (vaV (qa4 (v2 (Am qg7) qg6 (vnm 2) (By (qa2 (vnm 3) qa6 rfl)))) Ad))) A7) (Aj (Bq (Fe 2 qu7 O2 O3 O4 qd2 (vaN 3 Ad)))) Ax))) (Aj (Aq (emv 2))))),λ j Q N h=>?_⟩);obtain⟨n,wr,c,z,f,rfl,E,I,J,r,L,q⟩:=h;refine At [Ag n wr c,.l z (P4 f),.u,.u] rfl ?_;refine qb0 [Ag n wr c,.l z (P4 f),kL [],.u] (λ K t=>t) ?_;refine qc5 (λ j=>∃ S o,j=[Ag n wr c,.l z (P4 f),kL S,o]/\S.Sublist f/\∀ q,¬ Crowd n.toNat wr (P1 n c) S q) (λ K t=>?_) ?_
 . refine qa0 (a:=(1,[])) rfl (qa0 (a:=D.l z (P4 f)) rfl (qa0 (a:=P4 f) rfl ⟨qk2 f,λ w=>?_⟩))
   refine qe1 (λ i j=>∃ S o,j=[Ag n wr c,.hole w,kL S,o]/\S.Sublist (f.take i)/\∀ q,¬ Crowd n.toNat wr (P1 n c) S q) _ 0 _ ⟨[],_,rfl,.slnil,λ q=>(Kept.none (by lia) (Fb E)).no_crowd q⟩ ?_ ?_
   . rintro i y u j ⟨S,o,rfl,b,s⟩ K2 p
     rw[zAc] at b p;obtain⟨k,v,rfl⟩:=qan3 u;have A:¬ k∈S:=λ z=>qy6 r v (b.subset z)
     have B:S.Nodup:=r.sublist (b.trans (Mw _ _));have G:S.length<=100:=zAd (b.trans (Mw _ _)).length_le L;refine qq1 (At [Ag n wr c,.hole w,kL S,.int k] rfl ?_);refine qal6 (qk3 (qc3 (x:=Ag n wr c) rfl (qf1 (y:=kL (S++[k])) (Ae (x:=kL S) (y:=kL [k]) rfl rfl (qaP9 (by show _+1<=1000;lia))) (qc4 (qa0 (a:=Ag n wr c) rfl ?_)))));refine⟨n,wr,c,false,S++[k],rfl,E,I,J,zBr.mpr ⟨B,(by simp),λ x M y u e=>A (by rw[<- zAl.mp u,<- e];exact M)⟩,by rw[zAe];show _+1<=200;lia,λ _=>?_,λ C g _=>?_⟩
     . refine qa0 (a:=[Ag n wr c,.hole w,kL S,.int k]) rfl (qa0 (a:=D.bl false) rfl (qa0 (a:=false) rfl (Gm (by decide) (p _ ⟨S,_,rfl,b.trans ?_,s⟩))))
       rw[qk7 v];exact Nl _ _
     refine qa0 (a:=[Ag n wr c,.hole w,kL S,.int k]) rfl (qa0 (a:=D.bl true) rfl (qa0 (a:=true) rfl (B7 rfl ?_)));refine qaP5 (ys:=P4 S) (d:=.int k) rfl rfl rfl (by decide) (by rw[qh0];unfold big;lia) ?_;rw[qI9];refine p _ ⟨S++[k],_,rfl,?_,C⟩;rw[qk7 v];exact b.append (List.Sublist.refl _)
   rintro j ⟨S,o,rfl,b,s⟩;rw[zAc,qh0,M4] at b;exact qa0 (qV6 rfl) (t _ ⟨S,o,rfl,b,s⟩)
 rintro j ⟨S,o,rfl,b,s⟩;exact q S b s
theorem qw7:qa8 ["_law_e", "_law_some", "_law_words"] ["_law_e"] (qa3 qab6):=by walk_at "s"
def qaa6(L:List (γ×Str)):VSp:=Ay λ ds d=>∃ C fs w,ds=[.exn C fs]/\(C,w)∈L/\d=.str w
theorem isx{K:O0}{u:V'}{C:γ}{R:Ds->List Pl->Ds->Prop}(d:f ds=some (.exn C fs))(ix:IsX K C)(e:O1 K (.ref C) u=some b)(h:tr ds (λ xs ps c=>R (.bl b::xs) (.no::ps) c) xe):tbV (K5 K f u) tr ds R xe:=qa0 (a:=D.exn C fs) d ⟨C,fs,b,rfl,ix,e,h⟩
theorem qaL3{K:O0}{u:V'}{C:γ}{Q:Bool->Ds->Prop}(c:f ds=some (.exn C fs))(ix:IsX K C)(d:O1 K (.ref C) u=some b)(q:Q (!b) ds):F7 (ttE (K5 K f u)) ds Q xe:=qa0 (a:=D.exn C fs) c ⟨C,fs,b,rfl,ix,d,qa0 (a:=b) rfl q⟩
theorem as_t{M:γ->Option Bool}{ts:VTS}{tr:VH}{C:γ}{p:Str×D}{r:List (Str×D)}(a:M C=some true)(h:ts (G3 e) (ds.set j (.exn C (p::r)))):hAs M j ts tr ⟨C,p::r⟩ e ds:=⟨λ z=>(nomatch z),true,a,B7 rfl h⟩
theorem qaw9{K:O0}{L:List (γ×Str)}{C:γ}{w fl:Str}(h:rdN i ds=some (.exn C fs))(a:Au [.sl i] [.exn C fs] (ds.set i .u)=some ds)(hm:(C,w)∈L)(ex:Exc K C)(b:qd5 K C fl)(c:fs.lookup fl=some v)(q:e.rt (.q [.str w,v]) ds):Kr (Hr (tbV (qk5 (qaa6 L) [] (tbN i A5)) (tbV (tEFX K (rdN i) fl) A5))) (G3 e) ds :=
 qf5 (qZ8 (qi3 (K7 h ⟨.str w,⟨C,fs,w,rfl,hm,rfl⟩,qa0 a (qi3 (qa0 h ⟨C,fs,v,rfl,ex,b,c,qc4 ⟨lt2,q⟩⟩))⟩)))
noncomputable abbrev Lc:Ds:=[.str "wrong",.str "room",.str "there",.str "gone",.str "unkept",.str "unlike",.str "text",.str "row",.str "plan",.str "many"]
theorem qad7(T:Txt K mg a):Gi false P w K mg base 1 a.f42 a.d42 ["_law_e"] (qaa6 [(a.Cc, "gone")]):=by
 refine VFn.mk2 T.d42.F qw7 (wOf [true]) qb1 (by walk_at "l") (λ _ _ _ _ _ _ _ n=>⟨_,(Ab (Al 1 qw7.nd (Hy (vaV (Ff a.Dl T.Cb (vnm 0) T.Ef) (vaV (Ff a.Dh T.Cb (vnm 0) T.E5) (vaV (Ff a.Dk T.Cb (vnm 0) T.Ei) (vaV (Ff a.Cc T.Cb (vnm 0) T.D2) Ad)))))) (Ab (Al 1 qw7.nd (e2n 1 (Am qg7) qg6 (Hy (vaV (Ff a.Dg T.Cb (vnm 0) T.Ea) (vaV (Ff a.Db T.Cb (vnm 0) T.Eb) (vaV (Ff a.De T.Cb (vnm 0) T.E8) (vaV (Ff a.Di T.Cb (vnm 0) T.Eg) Ad))))))) (Ab (Al 1 qw7.nd (e2n 1 (Am qg7) qg6 (Hy (vaV (Ff a.Dc T.Cb (vnm 0) T.Ec) (vaV (Ff a.Cy T.Cb (vnm 0) T.E4) Ad))))) (Ab (sif (tor (Bh (te (eisXt "ValueError" T.Cb (vnm 0) T.Dn))) (Hm (q2 (As (qX6 n.u64) (qb2 _)) Gu (vbm qaK5 O2 O8 Pf qae3 (vnm 1) vbl qav1) Af))).te (Aj (Aq (qa4 Bo))) Ax) (Ab (Al 2 qw7.nd (qa4 (By (qa2 Bo (qa2 Bo (qa2 Bo (qa2 Bo (qa2 Bo (qa2 Bo (qa2 Bo (qa2 Bo (qa2 Bo (qa2 Bo qa6 rfl) rfl) rfl) rfl) rfl) rfl) rfl) rfl) rfl) rfl)))) (Aj (Aq (qb7 (v2 (Av qb3) Ap (vnm 2) (vbm qam0 O2 O5 O6 qE8 (vnm 1) vbl qT2)))))))))),λ J Q L h=>?_⟩);obtain⟨d,⟨C,k,w,rfl,m,rfl⟩,q⟩:=h;obtain⟨c,e,f,g,i,ix,o,p,r,s,t,u,v,z,A,B,E,G,H,I⟩:∃ c e f g i,IsX K C/\O1 K (.ref C) (.ref a.Dl)=some c/\O1 K (.ref C) (.ref a.Dh)=some e/\O1 K (.ref C) (.ref a.Dk)=some f/\O1 K (.ref C) (.ref a.Cc)=some g/\O1 K (.ref C) (.ref a.Dg)=some false/\O1 K (.ref C) (.ref a.Db)=some false/\O1 K (.ref C) (.ref a.De)=some false/\O1 K (.ref C) (.ref a.Di)=some false/\O1 K (.ref C) (.ref a.Dc)=some false/\O1 K (.ref C) (.ref a.Cy)=some false/\O1 K (.ref C) (.type "ValueError")=some true /\
     Jq (.l false [.bl c,.bl e,.bl f,.bl g,.bl false,.bl false,.bl false,.bl false,.bl false,.bl false]) (.bl true)=some (.int 1)/\Jp (.l false [.bl c,.bl e,.bl f,.bl g,.bl false,.bl false,.bl false,.bl false,.bl false,.bl false]) (.bl true)=some (.int i)/\gIx (.l false Lc) (.int i)=some (.str w):=by
   simp only[zAn,zBu,or_false,Prod.mk.injEq] at m;obtain⟨rfl,rfl⟩:=m;exact⟨false,false,false,true,3,T.Dx,T.D8,T.D3,T.D9,qaB7 _ _,T.D5,T.D7,T.D4,T.Da,T.D6,T.Cz,T.E2,rfl,rfl,rfl⟩
 refine At [.exn C k,.u,.u] rfl ?_;refine qb0 [.exn C k,.l false [.bl c,.bl e,.bl f,.bl g],.u] (λ K j=>qe5 (qB1 (isx rfl ix o (isx rfl ix p (isx rfl ix r (isx rfl ix s (qc4 ⟨lt4,j⟩))))))) ?_;refine qb0 [.exn C k,.l false [.bl c,.bl e,.bl f,.bl g,.bl false,.bl false,.bl false,.bl false],.u] (λ K j=>qe5 ⟨rfl,qB1 (isx rfl ix t (isx rfl ix u (isx rfl ix v (isx rfl ix z (qc4 ⟨lt4,qa0 (a:=D.l false [.bl c,.bl e,.bl f,.bl g,.bl false,.bl false,.bl false,.bl false]) rfl j⟩)))))⟩) ?_;refine qb0 [.exn C k,.l false [.bl c,.bl e,.bl f,.bl g,.bl false,.bl false,.bl false,.bl false,.bl false,.bl false],.u] (λ K j=>qe5 ⟨rfl,qB1 (isx rfl ix A (isx rfl ix B (qc4 ⟨lt2,qa0 (a:=D.l false [.bl c,.bl e,.bl f,.bl g,.bl false,.bl false,.bl false,.bl false,.bl false,.bl false]) rfl j⟩)))⟩) ?_;refine qe6 false (λ Q q=>qh2 false false (λ Q q=>qaL3 rfl ix E q) (λ _ Q q=>qh1 (b:=false) (Ae (x:=.int 1) (y:=.int 1) (Ae rfl rfl G) rfl rfl) q) q) nofun λ _=>?_
 refine qb0 [.exn C k,.l false [.bl c,.bl e,.bl f,.bl g,.bl false,.bl false,.bl false,.bl false,.bl false,.bl false],.l false Lc] (λ K j=>j) ?_;exact qf5 (qJ2 (d:=.str w) (Ae (x:=.l false Lc) (y:=.int i) rfl (Ae rfl rfl H) I) rfl q)
theorem qN5:qa8 ["_law_row", "_law_key", "_law_e"] ["_law_row", "_law_key"] (qa3 qab4):=by walk_at "s"
theorem qaQ7{th:VH}(h:∀(N:Ds->Prop)(X:XKd),(∀ a,e.nx a->N a)->(∀ x a,th x e a->X x a)->t { e with nx:=N,xe:=X } ds):sTryW t th e ds:=h _ _ (λ _ z=>z) λ _ _ z=>z
def qax1(C CP:γ):VSp:=λ ds Q _=>∃ n wr ps g dn S k,ds=[Bl false C CP n wr ps g dn,.int k]/\An k/\1<=n/\n<=64/\(∀ y∈S,An y)/\Kept n.toNat wr (P1 n ps) g S/\dn.length<=1000 /\
 (¬ k∈S->Q (.q [.str "gone",.int k]) ds)/\(k∈S->∀ r J:Nat,Drew n wr ps g k r J->Q (.q [.str "told",.q [.int (r:Nat),.l false (P6 (Aw n.toNat g r J))]]) [Bl false C CP n wr ps (Ah n.toNat g r J) (dn++[.q [.str "take",.int k]]),.int k])
theorem qad6(T:Txt K mg a):VFn P w K mg base 9 a.f45 a.d45 ["_law_row", "_law_key"] (qax1 a.Cg a.Ca):=by
 refine VFn.mk2 T.d45.F qN5 (wOf [true,true]) (by walk_at "m") (by walk_at "l") (λ _ _ _ _ _ _ _ e=>⟨_,(Aj (stryW (λ E' j C o=>(Aj (Aq (Ha (vaV (qa4 Bo) (vaV (qm5 0 T.d31 T.Cf.cl (qY1 T) o (rm e) (vaN 1 Ad)) Ad)))))) (vhas 2 qN5.nd T.Cu T.D2 (λ s=>(Aj (Aq (Ha (vaV (Ak T.d42 (qad7 T) qat5 (rm (e.mark _)) (vaN 2 Ad)) (vaV (eefld (K:=K) rfl (vnm 2)) Ad)))))) (vhas 2 qN5.nd T.Do T.Dv (λ s=>(Aj (Aq (Ha (vaV (Ak T.d42 (qad7 T) qat5 (rm (e.mark _)) (vaN 2 Ad)) (vaV (qa4 Af) Ad)))))) vhnil)))),λ E Q j h=>?_⟩);obtain⟨n,wr,b,g,c,S,k,rfl,t,u,v,z,KP,f,A,q⟩:=h;refine At [rA a n wr b g c,.int k,.u] rfl ?_;refine qaQ7 λ N X G B=>?_
 refine qf5 (qZ8 (qf1 (y:=.str "told") rfl (qi3 (qI5 (p:=rA a n wr b g c) rfl (qh5 rfl) (qc3 (x:=.int k) rfl (qc4 (qa0 (a:=D.int k) rfl (qa0 (a:=rA a n wr b g c) rfl ⟨n,wr,b,g,c,S,k,rfl,t,u,v,z,KP,f,λ i=>?_,λ i r J d=>?_⟩))))))))
 . exact qa0 (a:=[rA a n wr b g c,.int k,.u]) rfl (B _ _ (as_t T.D0 (qaw9 rfl rfl (.head _) T.Cu T.Ct rfl (A i))))
 exact qa0 (a:=[rA a n wr b (Ah n.toNat g r J) (c++[D.q [.str "take",.int k]]),.int k,.u]) rfl (qc4 ⟨lt2,q i r J d⟩)
theorem qab3:qa8 ["_law_row", "_law_key", "_law_there"] ["_law_row", "_law_key"] (qa3 qab8):=by walk_at "s"
theorem eq_tk{w:Str}:gEq (.q [.str w,.int k]) (.q [.str w,.int k])=some (.bl true):=by
 show some (D.bl ((w == w)&&((k == k)&&true)))=_;rw[zAw,zAw];rfl
def qax3(C CP:γ):VSp:=Ay λ ds d=>∃ n wr ps g dn S k,ds=[Bl false C CP n wr ps g dn,.int k]/\An k/\1<=n/\n<=64/\(∀ y∈S,An y)/\Kept n.toNat wr (P1 n ps) g S/\dn.length<=1000/\¬ k∈S/\d=.bl true
theorem qad8(T:Txt K mg a):VFn P w K mg base 10 a.f46 a.d46 ["_law_row", "_law_key"] (qax3 a.Cg a.Ca):=by
 refine VFn.mk2 T.d46.F qab3 (wOf [true,true]) qb1 (by walk_at "l") (λ _ _ _ _ _ _ _ e=>⟨_,(Ab (Al 2 qab3.nd (qn0 0 T.d26 T.Cf.cl (qc7 T) qa1 (rm e))) (Aj (Aq (Fx (e2v (A6 (qi0 e.u64) (qb2 _)) Bf (Ak T.d45 (qad6 T) qa1 (rm e) (vaN 0 (vaN 1 Ad))) (Gf (qa2 Bo (qa2 (vnm 1) qa6 rfl) rfl))) (Hn (e2v (A6 (qi0 e.u64) (qb2 _)) Bf (qn0 0 T.d26 T.Cf.cl (qc7 T) qa1 (rm e)) (vnm 2))))))),λ t Q u h=>?_⟩);obtain⟨d,⟨n,wr,b,g,c,S,k,rfl,j,m,o,r,KP,f,i,rfl⟩,q⟩:=h;refine At [rA a n wr b g c,.int k,.u] rfl ?_;refine qb0 [rA a n wr b g c,.int k,rL n g] (λ K s=>qe5 (qB2 (p:=rA a n wr b g c) (d:=rL n g) rfl (qh5 rfl) ⟨false,n,wr,b,g,c,rfl,rfl⟩ rfl s)) ?_;refine qf5 (K9 (qt9 (qZ2 (x:=rA a n wr b g c) (y:=.int k) rfl rfl rfl ⟨n,wr,b,g,c,S,k,rfl,j,m,o,r,KP,f,λ _=>qa0 (a:=[rA a n wr b g c,.int k,rL n g]) rfl (qa0 (a:=D.bl true) eq_tk (qa0 (a:=true) rfl (B7 rfl ?_))),λ z=>absurd z i⟩)));exact qt9 (qB2 (p:=rA a n wr b g c) (d:=rL n g) rfl (qh5 rfl) ⟨false,n,wr,b,g,c,rfl,rfl⟩ rfl (qa0 (a:=D.bl true) (qan9 λ _ _=>rfl) q))
theorem qal4:qa8 ["_law_found"] ["_law_found"] (qa3 qN6):=by walk_at "s"
def qak5:VSp:=Ay λ ds d=>∃ x t,ds=[x]/\x.kind=some t/\d=.bl (Hh t "int" && !(Hh t "bool"))
theorem qE5(T:Txt K mg a):VFn P w K mg base 1 a.f32 a.d32 ["_law_found"] qak5:=by
 refine VFn.mk2 T.d32.F qal4 (wOf [true]) qb1 (by walk_at "l") (λ _ _ _ _ _ _ _ f=>⟨_,(Aj (Aq (qa4 (vand (vbi qf8 qu8.ops T.Cb (qa2 (vnm 0) (qa2 (vty "int" T.E9) qa6 rfl) rfl)) (Kq (vnot (vbi qf8 qu8.ops T.Cb (qa2 (vnm 0) (qa2 (vty "bool" T.E3) qa6 rfl) rfl)))))))),λ g Q i h=>?_⟩);obtain⟨d,⟨x,t,rfl,b,rfl⟩,q⟩:=h;refine At [x] rfl ?_;have c:∀ n:String,Jl n=true->Bd (fx2 gIsi) (Bc (rdN 0) (Bc (kC (D.ty n)) λ _=>some [])) [x]=some (.bl (Hh t n)):=λ n e=>by
   unfold Bd Bc;rw[rd0 (ql6 b)];show (if Jl n=true then x.kind.map λ t=>D.bl (Hh t n) else none)=_;rw[if_pos e,b];rfl
 exact qk0 _ (qah2 (c "int" rfl) (A9 (c "bool" rfl) rfl)) q
theorem qar5:qa8 ["_law_plan", "_law_key", "_law_room", "_law_on"] ["_law_plan", "_law_key", "_law_room"] (qa3 qax7):=by walk_at "s"
def qaG4:VSp:=Ay λ ds d=>∃ n wr ps k r,ds=[Ag n wr ps,.int k,.int r]/\1<=n/\(ps.map (·.1)).Nodup/\d=Hd (A4 n wr ps k r)
theorem qaK9(T:Txt K mg a):VFn P w K mg base 2 a.f36 a.d36 ["_law_plan", "_law_key", "_law_room"] qaG4:=by
 refine VFn.mk2 T.d36.F qar5 (wOf [true,true,true]) qb1 (by walk_at "l") (λ _ _ _ _ _ _ _ e=>⟨_,(Ab (Al 3 qar5.nd (e2n 2 (Am qs5) qs4 (Ak T.d35 (qO9 T) qa1 (rm e) (vaN 0 (vaN 1 Ad))))) (Ab (sif (tv (v2 (Av qb3) Ap (vnm 0) Af)) (Aj (Aq (qa4 (v2 (Am ql3) ql2 (vnm 3) (v2 (Av qb3) Ap (vnm 0) Af))))) Ax) (Aj (Aq (eif (q2 (As He (qb2 _)) Ir (vnm 3) Af) (qb7 (vnm 3)) (qa4 A7)))))),λ j Q m h=>?_⟩);obtain⟨d,⟨n,wr,c,k,r,rfl,f,g,rfl⟩,q⟩:=h;refine At [Ag n wr c,.int k,.int r,.u] rfl ?_;refine qb0 [Ag n wr c,.int k,.int r,.int (r - qc2 n c k)] (λ K i=>⟨rfl,qz0 (x:=Ag n wr c) (y:=.int k) (d:=.int (qc2 n c k)) rfl rfl rfl ⟨n,wr,c,k,rfl,f,g,rfl⟩ rfl (qa0 (a:=D.int (r - qc2 n c k)) rfl i)⟩) ?_;unfold A4 at q;refine qk6 wr rfl (λ h=>?_) (λ h=>?_)
 . subst h
   exact qk0 (.int ((r - qc2 n c k) % n)) (Ae rfl (y:=.int n) rfl (Fh (by lia))) q
 subst h;refine qf5 (Gn (b:=decide (0<=r - qc2 n c k)) rfl (λ h=>?_) (λ h=>?_))
 . rw[if_neg (by decide),if_pos (zAb h)] at q
   exact⟨rfl,q⟩
 rw[if_neg (by decide),if_neg (zB9 h)] at q;exact q
theorem qh3:qa8 ["_law_plan", "_law_held", "_law_key", "_law_left", "_law_back", "_law_empty", "_law_room", "_law_turn"] ["_law_plan", "_law_held", "_law_key"] (qa3 qN7):=by walk_at "s"
theorem qaG9{g:Nat->Option Int}(hi:i < N)(e:g i=some k)(inj:∀ i j x,i < N->j < N->g i=some x->g j=some x->i=j):Bs N g k=.int (i:Nat):=by
 obtain⟨j,a⟩:=qE1 hi e;obtain⟨b,c⟩:=qar9 a;rw[a,inj i j k hi b e c]
theorem qaC3{z:Bool}{g:Nat->Option Int}(hi:i < N)(e:g i=some k):Jp (.l z (P5 N g)) (.int k)=some (Bs N g k):=by
 show ((some (V.int k)).bind λ v=>(flats (P5 N g)).bind λ b=>(Fp v b).map λ j=>D.int (j:Nat))=_;rw[qP9];show (Fp (.int k) _).map _=_;rw[qag3];show (Fg N g k).map _=_;obtain⟨j,a⟩:=qE1 hi e;unfold Bs at a ⊢;cases h:Fg N g k with
 | some j=>rfl
 | none=>rw[h] at a;cases a
theorem ret34{h k l b c t:D}(a:l.known=true)(f:b.known=true)(q:e.rt (.q [l,b]) [p,h,k,.u,.u,c,d,t]):Kr (Hr (tbN 3 (tbN 4 A5))) e [p,h,k,l,b,c,d,t]:=qf5 (qZ8 (qc3 (qg1 rfl a) (qc3 (qg1 rfl f) (qc4 (qa0 (qg1 rfl f) (qa0 (qg1 rfl a) ⟨lt2,q⟩))))))
def qak6:VSp:=λ ds Q _=>∃ n wr ps g S k r,ds=[Ag n wr ps,rL n g,.int k]/\1<=n/\n<=64/\(ps.map (·.1)).Nodup/\Kept n.toNat wr (P1 n ps) g S/\r < n.toNat/\g r=some k /\
 ∀ J,Drew n wr ps g k r J->Q (.q [.int (r:Nat),.l false (P6 (Aw n.toNat g r J))]) [Ag n wr ps,rL n (Ah n.toNat g r J),.int k]
theorem qam2(T:Txt K mg a):VFn P w K mg base 3 a.f43 a.d43 ["_law_plan", "_law_held", "_law_key"] qak6:=by
 refine VFn.mk2 T.d43.F qh3 (wOf [true,true,true]) (by walk_at "m") (by walk_at "l") (λ _ _ _ _ _ _ _ f=>⟨_,(Ab (Al 3 qh3.nd (qa4 (vbm qam0 O2 O5 O6 qE8 (vnm 1) (vnm 2) qT2))) (Ab (Al 4 qh3.nd (qa4 (By qa6))) (Ab (Al 5 qh3.nd (qb7 (vnm 3))) (Ab (Al 6 qh3.nd (qb7 (vnm 3))) (Ab (Fo (qa4 A7) (Ep (vpn 1) (vnm 3))) (Ab (qM8 Oz T.Cr (F4 (vaV (qa4 (v2 (Am qs5) qs4 (v2 (Av qb3) Ap (vnm 0) Af) Af)) Ad)) (Be 7 qh3.nd) (Ab (Al 6 qh3.nd (qa4 (v2 (Am ql3) ql2 (v2 (Am qg7) qg6 (vnm 6) Af) (v2 (Av qb3) Ap (vnm 0) Af)))) (Ab (sif (tor (Jm (q2 (As (qi0 f.u64) (qb2 _)) Bf (vnm 6) Af) (Gv (Bh (tv (v2 (Av qb3) Ap (vnm 0) Af))))).te (tor (q2 (As F6 (qb2 _)) F5 (v2 (Av qb3) Ap (vnm 1) (vnm 6)) A7) (Hm (q2v (A6 (qi0 f.u64) (qb2 _)) (As (qi0 f.u64) (qb2 _)) Bf (Ak T.d36 (qaK9 T) qa1 (rm f) (vaN 0 (vaV (qb7 (v2 (Av qb3) Ap (vnm 1) (vnm 6))) (vaN 6 Ad)))) Af)))).te (Aj (Aq (Ha (vaN 3 (vaN 4 Ad))))) Ax) (Ab (Fo (qb7 (v2 (Av qb3) Ap (vnm 1) (vnm 6))) (Ep (vpn 1) (vnm 5))) (Ab (Fo (qa4 A7) (Ep (vpn 1) (vnm 6))) (Ab (Bq (Fe 4 qu7 O2 O3 O4 qd2 (vaV (qa4 (Gf (qa2 (v2 (Av qb3) Ap (vnm 1) (vnm 5)) (qa2 (vnm 5) qa6 rfl) rfl))) Ad))) (Aj (Al 5 qh3.nd (qb7 (vnm 6)))))))))) (Aj (Aq (Ha (vaN 3 (vaN 4 Ad))))))))))),λ E Q R h=>?_⟩);obtain⟨n,wr,e,g,S,k,r,rfl,U,n2,nd,KP,f,G,q⟩:=h;refine At [Ag n wr e,rL n g,.int k,.u,.u,.u,.u,.u] rfl ?_;refine qb0 [Ag n wr e,rL n g,.int k,.int (r:Nat),.u,.u,.u,.u] (λ K p=>qw1 (d:=.int (r:Nat)) (Ae rfl rfl ((qaC3 f G).trans (by rw[qaG9 f G KP.o.inj]))) p) ?_;refine qb0 [Ag n wr e,rL n g,.int k,.int (r:Nat),.l false [],.u,.u,.u] (λ K p=>p) ?_;refine qb0 [Ag n wr e,rL n g,.int k,.int (r:Nat),.l false [],.int (r:Nat),.u,.u] (λ K p=>qw2 (d:=.int (r:Nat)) rfl rfl p) ?_;refine qb0 [Ag n wr e,rL n g,.int k,.int (r:Nat),.l false [],.int (r:Nat),.int (r:Nat),.u] (λ K p=>qw2 (d:=.int (r:Nat)) rfl rfl p) ?_;have e0:P5 n.toNat (λ j=>if j=r then none else g j)=P5 n.toNat (Ah n.toNat g r 0):=ql8 λ i Y=>(qk8 f Y).symm
 refine qb0 [Ag n wr e,rL n (Ah n.toNat g r 0),.int k,.int (r:Nat),.l false (P6 (Aw n.toNat g r 0)),.int (rot n.toNat r 0:Nat),.int (rot n.toNat r 0:Nat),.u] (λ K p=>?_) ?_
 . refine qB6 (d:=.non) (ys:=P5 n.toNat g) rfl rfl rfl (qF2 f) ?_
   rw[show (P5 n.toNat g).set r .non=P5 n.toNat (λ j=>if j=r then none else g j) from qH1 (o:=none),e0];rw[qO1 f] at p;exact p
 refine qc5 (λ E=>∃ J Z d6 H,E=[Ag n wr e,rL n (Ah n.toNat g r J),.int k,.int (r:Nat),.l false (P6 (Aw n.toNat g r J)),Z,d6,H]/\Drew n wr e g k r J) (λ K p=>qF6 (n:=n - 1) rfl (qP2 (by lia) (by lia)) ?_) ?_
 . refine qe1 (λ i E=>∃ H,E=[Ag n wr e,rL n (Ah n.toNat g r i),.int k,.int (r:Nat),.l false (P6 (Aw n.toNat g r i)),.int (rot n.toNat r i:Nat),.int (rot n.toNat r i:Nat),H]/\Sh n.toNat (P1 n e) g r i/\(wr=false->r+i < n.toNat)) _ 0 _ ⟨_,rfl,Sh.start f,λ _=>f⟩ ?_ ?_
   . rintro i y hy E ⟨H,rfl,A,I⟩ K2 L
     obtain⟨Y,rfl⟩:=qH4 hy;rw[zAc] at A I L ⊢;have v:i+1 < n.toNat:=by lia
     have V:=qE0 f A.hJ;have t:=qE0 f v;have B:=ql5 f v;have W:=qi9 (g:=g) f v;refine qq1 (At [Ag n wr e,rL n (Ah n.toNat g r i),.int k,.int (r:Nat),.l false (P6 (Aw n.toNat g r i)),.int (rot n.toNat r i:Nat),.int (rot n.toNat r i:Nat),.int (i:Nat)] rfl ?_);refine qb0 [Ag n wr e,rL n (Ah n.toNat g r i),.int k,.int (r:Nat),.l false (P6 (Aw n.toNat g r i)),.int (rot n.toNat r i:Nat),.int (rot n.toNat r (i+1):Nat),.int (i:Nat)] (λ K p=>qw1 (d:=.int (rot n.toNat r (i+1):Nat)) (Ae (Ae rfl rfl rfl) (y:=.int n) rfl (by rw[Fh (by lia),qae0 U V,B])) p) ?_;have stopR:(∀ x,g (rot n.toNat r (i+1))=some x->Aa n.toNat (P1 n e x) (rot n.toNat r (i+1))=0)->Drew n wr e g k r i:=λ h=>⟨f,G,A,.inr λ x t=>by rw[B] at t ⊢;rw[W] at t;exact h x t,I⟩
     by_cases M:rot n.toNat r (i+1)=0/\wr=false
     . have DW:Drew n wr e g k r i:=⟨f,G,A,.inl ⟨M.2,by rcases nor n.toNat (rot n.toNat r i) with h | h;exact h.1;rw[B] at h;lia⟩,I⟩
       refine qe6 true (λ Q q=>qh2 true false (λ Q q=>qn2 true true (λ Q q=>qh1 (b:=true) (Ae rfl rfl (by rw[M.1];rfl)) q) (λ _ Q q=>qg0 (b:=false) (by rw[<- M.2];rfl) q) q) nofun q) (λ _=>ret34 rfl rfl (q i DW)) nofun
     have X:(((rot n.toNat r (i+1):Nat):Int) == 0&&!wr)=false:=by
       cases wr with
       | true=>exact Bool.and_false _
       | false =>
         rw[zBs.mpr λ h=>M ⟨by lia,rfl⟩];rfl
     have c1:∀(Q:Bool->Ds->Prop)(R:XKd),Q false [Ag n wr e,rL n (Ah n.toNat g r i),.int k,.int (r:Nat),.l false (P6 (Aw n.toNat g r i)),.int (rot n.toNat r i:Nat),.int (rot n.toNat r (i+1):Nat),.int (i:Nat)]->Iw (ttV (f2 gEq (rdN 6) (kC (D.int 0)))) (F7 (ttV (f2 gIx (rdN 0) (kC (D.int 1))))) [Ag n wr e,rL n (Ah n.toNat g r i),.int k,.int (r:Nat),.l false (P6 (Aw n.toNat g r i)),.int (rot n.toNat r i:Nat),.int (rot n.toNat r (i+1):Nat),.int (i:Nat)] Q R:=λ Q R q=>qn2 (((rot n.toNat r (i+1):Nat):Int) == 0) (!wr) (λ Q q=>qh1 rfl q) (λ _ Q q=>qg0 (b:=wr) rfl q) (by rw[X];exact q)
     have u:f2 gIx (rdN 1) (rdN 6) [Ag n wr e,rL n (Ah n.toNat g r i),.int k,.int (r:Nat),.l false (P6 (Aw n.toNat g r i)),.int (rot n.toNat r i:Nat),.int (rot n.toNat r (i+1):Nat),.int (i:Nat)]=some (Fs (g (rot n.toNat r (i+1)))):=Ae rfl rfl (by rw[Ft t,W]);cases s:g (rot n.toNat r (i+1)) with
     | none =>
       rw[s] at u;have DW:Drew n wr e g k r i:=stopR λ x h=>by rw[s] at h;cases h
       refine qe6 true (λ Q q=>qh2 false true (λ Q q=>c1 Q _ q) (λ _ Q q=>qh2 true false (λ Q q=>qh1 (b:=true) (Ae u rfl rfl) q) nofun q) q) (λ _=>ret34 rfl rfl (q i DW)) nofun
     | some x =>
       rw[s] at u;have lx:wr=false->P1 n e x<=rot n.toNat r (i+1):=λ N=>KP.ln N _ x t s
       refine qe6 (((Aa n.toNat (P1 n e x) (rot n.toNat r (i+1)):Nat):Int) == 0) (λ Q q=>qh2 false _ (λ Q q=>c1 Q _ q) (λ _ Q q=>qh2 false _ (λ Q q=>qh1 (b:=false) (Ae u rfl rfl) q) (λ _ Q q=>qal6 (qk3 (qc3 (x:=Ag n wr e) rfl (qe3 (y:=.int x) u rfl (qc3 (x:=.int (rot n.toNat r (i+1):Nat)) rfl (qc4 (qa0 (a:=D.int (rot n.toNat r (i+1):Nat)) rfl (qa0 (a:=Ag n wr e) rfl (qf6 (d:=Hd (A4 n wr e x ((rot n.toNat r (i+1):Nat):Int))) ⟨n,wr,e,x,_,rfl,U,nd,rfl⟩ (qa0 (a:=[Ag n wr e,rL n (Ah n.toNat g r i),.int k,.int (r:Nat),.l false (P6 (Aw n.toNat g r i)),.int (rot n.toNat r i:Nat),.int (rot n.toNat r (i+1):Nat),.int (i:Nat)]) rfl (by rw[qC9 U t lx];exact qa0 (a:=D.bl _) rfl (qa0 rfl q)))))))))))) q) q) (λ h=>ret34 rfl rfl (q i (stopR λ y h'=>by rw[s] at h';cases h';have:=eq_of_beq h;lia))) λ h=>?_
       have hd:Aa n.toNat (P1 n e x) (rot n.toNat r (i+1))≠0:=λ z=>by rw[z] at h;cases h
       have ne:rot n.toNat r i≠rot n.toNat r (i+1):=λ h=>by have C:=qw0 (g:=g) f A.hJ;rw[h,W,s] at C;cases C
       refine qb0 [Ag n wr e,rL n (Row.set (Ah n.toNat g r i) (rot n.toNat r i) x),.int k,.int (r:Nat),.l false (P6 (Aw n.toNat g r i)),.int (rot n.toNat r i:Nat),.int (rot n.toNat r (i+1):Nat),.int (i:Nat)] (λ K p=>qB7 (d:=.int x) (ys:=P5 n.toNat (Ah n.toNat g r i)) u rfl rfl rfl (qF2 V) (by rw[qw3];exact p)) ?_;refine qb0 [Ag n wr e,rL n (λ j=>if j=rot n.toNat r (i+1) then none else Row.set (Ah n.toNat g r i) (rot n.toNat r i) x j),.int k,.int (r:Nat),.l false (P6 (Aw n.toNat g r i)),.int (rot n.toNat r i:Nat),.int (rot n.toNat r (i+1):Nat),.int (i:Nat)] (λ K p=>qB6 (d:=.non) (ys:=P5 n.toNat (Row.set (Ah n.toNat g r i) (rot n.toNat r i) x)) rfl rfl rfl (qF2 t) (by rw[show (P5 n.toNat (Row.set (Ah n.toNat g r i) (rot n.toNat r i) x)).set (rot n.toNat r (i+1)) .non=P5 n.toNat (λ j=>if j=rot n.toNat r (i+1) then none else Row.set (Ah n.toNat g r i) (rot n.toNat r i) x j) from qH1 (o:=none)];exact p)) ?_;refine qb0 [Ag n wr e,rL n (λ j=>if j=rot n.toNat r (i+1) then none else Row.set (Ah n.toNat g r i) (rot n.toNat r i) x j),.int k,.int (r:Nat),.l false (P6 (Aw n.toNat g r (i+1))),.int (rot n.toNat r i:Nat),.int (rot n.toNat r (i+1):Nat),.int (i:Nat)] (λ K p=>qz3 (qK9 (ys:=P6 (Aw n.toNat g r i)) (d:=.q [.int x,.int (rot n.toNat r i:Nat)]) rfl (qar0 (Ae rfl rfl (by rw[Ft V,if_neg ne,Row.qb6];rfl)) rfl rfl rfl) (by rw[qQ9];unfold big;lia) (by rw[qW1 s];exact p))) ?_;refine qw2 (d:=.int (rot n.toNat r (i+1):Nat)) rfl rfl (L _ ⟨.int (i:Nat),?_,A.step v s (by lia),λ N=>?_⟩)
       . refine congrArg (λ l:Ds=>([Ag n wr e,D.l false l,.int k,.int (r:Nat),.l false (P6 (Aw n.toNat g r (i+1))),.int (rot n.toNat r (i+1):Nat),.int (rot n.toNat r (i+1):Nat),.int (i:Nat)]:Ds)) (ql8 (g:=(λ j=>if j=rot n.toNat r (i+1) then none else Row.set (Ah n.toNat g r i) (rot n.toNat r i) x j)) (g':=Ah n.toNat g r (i+1)) λ j hj=>?_)
         rw[qH0 f v hj];by_cases C:j=rot n.toNat r (i+1)
         . rw[if_pos C,if_pos C]
         rw[if_neg C,if_neg C];by_cases O:j=rot n.toNat r i
         . rw[if_pos O,O,Row.qb6,s]
         rw[if_neg O,Row.qd0 O]
       have C:=I N;have e1:rot n.toNat r i=r+i:=by unfold rot;rw[if_pos C]
       rcases nor n.toNat (rot n.toNat r i) with h | h
       . exact absurd ⟨by rw[<- B];exact h.2,N⟩ M
       rw[e1] at h;lia
   rintro E ⟨H,rfl,A,I⟩;rw[zAc,qI6] at *
   have eJ:(n - 1).toNat+1=n.toNat:=by lia
   refine p _ ⟨_,_,_,_,rfl,f,G,A,.inr λ x t=>?_,I⟩;rw[ql4 f eJ] at t ⊢;by_cases h0:0 < (n - 1).toNat
   . rw[qr0 f h0] at t
     exact A.round KP.o KP.c f G eJ t h0
   rw[show (n - 1).toNat=0 by lia,qk8 f f,if_pos rfl] at t;cases t
 rintro E ⟨J,Z,d6,H,rfl,DW⟩;exact ret34 rfl rfl (q J DW)
theorem qR7:qa8 ["_law_found", "_law_pair"] ["_law_found"] (qa3 qN9):=by walk_at "s"
theorem qau1:∀ a:List (Int×Nat),D.imms (P6 a)=true
 | []=>rfl
 | _::a=>qau1 a
def qak8:VSp:=Ay λ ds d=>∃ z a,ds=[.l z (P6 a)]/\d=.bl true
theorem qam4(T:Txt K mg a):VFn P w K mg base 2 a.f44 a.d44 ["_law_found"] qak8:=by
 refine VFn.mk2 T.d44.F qR7 (wOf [true]) qb1 (by walk_at "l") (λ _ _ _ _ _ _ _ f=>⟨_,(Ab (sif (Bh (tv (vbi qf8 qu8.ops T.Cb (qa2 (vnm 0) (qa2 (vty "list" T.Cw) qa6 rfl) rfl)))) (Aj (Aq (qa4 vbl))) Ax) (Ab (Ja Oz (vpn 0) (Be 1 qR7.nd) (Aj (sif (tor (Bh (tv (vbi qf8 qu8.ops T.Cb (qa2 (vnm 1) (qa2 (vty "tuple" T.Dp) qa6 rfl) rfl)))) (tor (q2 (As (qX6 f.u64) (qb2 _)) Gu (vbi qq5 qq4.ops T.Cq (qa2 (vnm 1) qa6 rfl)) Af) (tor (Bh (te (Ak T.d32 (qE5 T) qa1 (rm f) (vaV (qb7 (v2 (Av qb3) Ap (vnm 1) Af)) Ad)))) (Hm (Bh (te (Ak T.d32 (qE5 T) qa1 (rm f) (vaV (qb7 (v2 (Av qb3) Ap (vnm 1) Af)) Ad)))))))).te (Aj (Aq (qa4 vbl))) Ax))) (Aj (Aq (qa4 vbl))))),λ c Q m h=>?_⟩);obtain⟨d,⟨z,e,rfl,rfl⟩,q⟩:=h;refine At [.l z (P6 e),.u] rfl ?_;refine qe6 false (λ Q q=>qg0 (b:=true) rfl q) nofun λ _=>?_
 refine qc5 (λ c=>∃ d,c=[.l z (P6 e),d]) (λ K j=>?_) ?_
 . refine qa0 (a:=(0,[])) rfl (qa0 (a:=D.l z (P6 e)) rfl (qa0 (a:=P6 e) rfl ⟨qau1 e,λ w=>?_⟩))
   refine qe1 (λ i c=>∃ d,c=[.hole w,d]) _ 0 _ ⟨_,rfl⟩ ?_ ?_
   . rintro i y k c ⟨d,rfl⟩ K2 g
     obtain⟨p,_,rfl⟩:=zBb.mp (zB0 k);refine qq1 (At [.hole w,.q [.int p.1,.int (p.2:Nat)]] rfl ?_);refine if_of false (λ Q q=>qh2 false false (λ Q q=>qg0 (b:=true) rfl q) (λ _ Q q=>qh2 false false (λ Q q=>qh1 (b:=false) rfl q) (λ _ Q q=>qh2 false false (λ Q q=>?_) (λ _ Q q=>?_) q) q) q) nofun λ _=>g _ ⟨_,rfl⟩
     . exact qk3 (qe3 (y:=.int p.1) rfl rfl (qc4 (qf6 (d:=.bl true) ⟨_,_,rfl,rfl,rfl⟩ (qa0 rfl (qa0 rfl q)))))
     exact qk3 (qe3 (y:=.int (p.2:Nat)) rfl rfl (qc4 (qf6 (d:=.bl true) ⟨_,_,rfl,rfl,rfl⟩ (qa0 rfl (qa0 rfl q)))))
   rintro c ⟨d,rfl⟩;exact qa0 (qV6 rfl) (j _ ⟨d,rfl⟩)
 rintro c ⟨d,rfl⟩;exact q
theorem qp2:qa8 ["_law_row", "_law_plan", "_law_left", "_law_key", "_law_held", "_law_due", "_law_word", "_law_found"] ["_law_row", "_law_plan", "_law_left", "_law_key"] (qa3 qN8):=by walk_at "s"
theorem qav7{g:VTG}(h:te ds (λ d a=>g d a e.nx) e.xe):Fm te g e ds:=h
theorem qI1{t:VT}{Q:Bool->Ds->Prop}(h:t ds (λ d a=>orF d.asB λ b=>Q (!b) a) xe):F7 (ttE t) ds Q xe:=h
theorem Drew.uniq{n:Int}{wr:Bool}{ps:Pr}{g:Nat->Option Int}{b J':Nat}(KP:Kept n.toNat wr (P1 n ps) g S)(d:Drew n wr ps g k r J)(d':Drew n wr ps g k b J'):b=r/\J'=J:=by
 obtain rfl:b=r:=KP.o.inj b r k d'.1 d.1 d'.2.1 d.2.1;have c:∀ J J',Drew n wr ps g k b J->Drew n wr ps g k b J'->¬ J < J':=λ J J' ⟨f,q,s,i,m⟩ ⟨_,_,e,_,j⟩ h=>by
   have a:J+1 < n.toNat:=by have:=e.hJ;lia
   obtain⟨x,p,t⟩:=e.mv (J+1) (by lia) (by lia);rcases i with⟨hw,he⟩ | i
   . have l:=j hw
     unfold rot at he;rw[if_pos (m hw)] at he;lia
   have l:=i x (by rw[ql5 f a,qi9 f a];exact p);rw[ql5 f a] at l;lia
 have l:=c J J' d d';have u:=c J' J d' d;exact⟨rfl,by lia⟩
theorem ok_cs{a:List (Int×Nat)}:okN 21 (.q [.int (r:Nat),.l false (P6 a)])=true:=by
 show (true&&((P6 a).all (okN 19)&&true))=true;rw[zBd.mpr λ x b=>by obtain⟨q,_,rfl⟩:=zBb.mp b;rfl];rfl
theorem qaW5{i:Int}:gEq (.int i) (.int i)=some (.bl true):=by
 show some (D.bl (i == i))=_;rw[zAw]
def qak7(C CP:γ):VSp:=λ ds Q _=>∃ n wr ps g dn S T0 k,ds=[Bl false C CP n wr ps g dn,Ag n wr ps,kL T0,.int k]/\An k/\1<=n/\n<=64/\(ps.map (·.1)).Nodup/\(∀ y∈S,An y)/\Kept n.toNat wr (P1 n ps) g S/\dn.length<=1000/\k∈S/\(S.filter λ x=>decide (x≠k)).Perm T0 /\
 ∀ g' e,Kept n.toNat wr (P1 n ps) g' T0->Q (.bl true) [Bl false C CP n wr ps g' (dn++[e]),Ag n wr ps,kL T0,.int k]
abbrev qo9(n:Int)(wr:Bool)(ps:Pr) (T0) (k) (g) (r) (J) (p0 a b:D):=([p0,Ag n wr ps,kL T0,.int k,rL n (Ah n.toNat g r J),.q [.int (r:Nat),.l false (P6 (Aw n.toNat g r J))],a,b]:Ds)
theorem qam3(T:Txt K mg a):VFn P w K mg base 10 a.f47 a.d47 ["_law_row", "_law_plan", "_law_left", "_law_key"] (qak7 a.Cg a.Ca):=by
 refine VFn.mk2 T.d47.F qp2 (wOf [true,true,true,true]) (by walk_at "m") (by walk_at "l") (λ _ _ _ _ _ _ _ f=>⟨_,(Ab (Al 4 qp2.nd (qn0 0 T.d26 T.Cf.cl (qc7 T) qa1 (rm f))) (Ab (Al 5 qp2.nd (Ak T.d43 (qam2 T) qa1 (rm f) (vaN 1 (vaN 4 (vaN 3 Ad))))) (Ab (Fo (Ak T.d45 (qad6 T) qa1 (rm f) (vaN 0 (vaN 3 Ad))) (I8 (n:=2) rfl (qK0 (Be 6 qp2.nd) (qK0 (Be 7 qp2.nd) Iz)))) (Ab (sif (tor (q2 (As (qX6 f.u64) (qb2 _)) Gu (vnm 6) Bo) (tor (Bh (tv (vbi qf8 qu8.ops T.Cb (qa2 (vnm 7) (qa2 (vty "tuple" T.Dp) qa6 rfl) rfl)))) (tor (q2 (As (qX6 f.u64) (qb2 _)) Gu (vbi qq5 qq4.ops T.Cq (qa2 (vnm 7) qa6 rfl)) Af) (Hm (Bh (te (Ak T.d32 (qE5 T) qa1 (rm f) (vaV (qb7 (v2 (Av qb3) Ap (vnm 7) Af)) Ad)))))))).te (Aj (Aq (qa4 vbl))) Ax) (Ab (sif (tor (Bh (te (Ak T.d44 (qam4 T) qa1 (rm f) (vaB (vpix (vpn 7) Af) Ad)))) (Hm (q2 (As (qX6 f.u64) (qb2 _)) Gu (vnm 7) (vnm 5)))).te (Aj (Aq (qa4 vbl))) Ax) (Ab (Bq (Kt qu7 O2 O3 O4 qd2 (vpix (vpn 7) Af) (vaV (qa4 (Gf (qa2 (vnm 3) (qa2 Af qa6 rfl) rfl))) Ad))) (Aj (Aq (Fx (e2v (A6 (qi0 f.u64) (qb2 _)) Bf (qn0 0 T.d26 T.Cf.cl (qc7 T) qa1 (rm f)) (vnm 4)) (Fx (e2n 4 (A6 (qi0 f.u64) (qb2 _)) Bf (Ak T.d38 (qy5 T) qa1 (rm f) (vaN 1 (vaN 2 Ad)))) (Hn (e2v (A6 (qi0 f.u64) (qb2 _)) Bf (qn0 0 T.d28 T.Cf.cl (qC1 T) qa1 (rm f)) (vbi qq5 qq4.ops T.Cq (qa2 (vnm 2) qa6 rfl)))))))))))))),λ v Q N h=>?_⟩);obtain⟨n,wr,e,g,j,S,T0,k,rfl,G,A,t,C,H,KP,B,s,I,q⟩:=h;obtain⟨r,f,E⟩:=(KP.h.2 k).mp s;refine At [rA a n wr e g j,Ag n wr e,kL T0,.int k,.u,.u,.u,.u] rfl ?_;refine qb0 [rA a n wr e g j,Ag n wr e,kL T0,.int k,rL n g,.u,.u,.u] (λ K o=>qe5 (qB2 (p:=rA a n wr e g j) (d:=rL n g) rfl (qh5 rfl) ⟨false,n,wr,e,g,j,rfl,rfl⟩ rfl o)) ?_;refine qc5 (λ v=>∃ J,v=(qo9 n wr e T0 k g r J (rA a n wr e g j) .u .u)/\Drew n wr e g k r J) (λ K o=>qe5 (qaP3 (x:=Ag n wr e) (y:=rL n g) (w:=.int k) rfl rfl rfl rfl rfl ⟨n,wr,e,g,S,k,r,rfl,A,t,C,KP,f,E,λ J d=>qa0 (a:=[rA a n wr e g j,Ag n wr e,kL T0,.int k,rL n (Ah n.toNat g r J),.u,.u,.u]) rfl (o _ ⟨J,rfl,d⟩)⟩)) ?_;rintro v ⟨J,rfl,DW⟩;have K':=(KP.taken f E DW.2.2.1 DW.2.2.2.1).of_perm I;have L:T0.length<=64:=by have:=K'.len;lia
 refine qb0 (qo9 n wr e T0 k g r J (rA a n wr e (Ah n.toNat g r J) (j++[D.q [.str "take",.int k]])) (.str "told") (.q [.int (r:Nat),.l false (P6 (Aw n.toNat g r J))])) (λ K o=>qav7 (qZ2 (x:=rA a n wr e g j) (y:=.int k) rfl rfl rfl ⟨n,wr,e,g,j,S,k,rfl,G,A,t,H,KP,B,λ z=>absurd s z,λ _ u J' M=>?_⟩)) ?_
 . obtain⟨rfl,rfl⟩:=DW.uniq KP M
   exact qa0 (a:=[rA a n wr e (Ah n.toNat g u J') (j++[D.q [.str "take",.int k]]),Ag n wr e,kL T0,.int k,rL n (Ah n.toNat g u J'),.q [.int (u:Nat),.l false (P6 (Aw n.toNat g u J'))],.u,.u]) rfl (qF4 o)
 refine qe6 false (λ Q q=>qh2 false false (λ Q q=>qh1 (b:=false) rfl q) (λ _ Q q=>qh2 false false (λ Q q=>qg0 (b:=true) rfl q) (λ _ Q q=>qh2 false false (λ Q q=>qh1 (b:=false) rfl q) (λ _ Q q=>qI1 (qk3 (qe3 (y:=.int (r:Nat)) rfl rfl (qc4 (qf6 (d:=.bl true) ⟨_,_,rfl,rfl,rfl⟩ (qa0 rfl (qa0 rfl q))))))) q) q) q) nofun λ _=>?_
 refine qe6 false (λ Q q=>qh2 false false (λ Q q=>qI1 (qk3 (qa0 (a:=(7,[1])) rfl (qa0 (a:=D.l false (P6 (Aw n.toNat g r J))) rfl ⟨rfl,λ w=>qc4 (qf6 (d:=.bl true) ⟨false,_,rfl,rfl⟩ (qa0 (a:=(qo9 n wr e T0 k g r J (rA a n wr e (Ah n.toNat g r J) (j++[D.q [.str "take",.int k]])) (.str "told") (.q [.int (r:Nat),.l false (P6 (Aw n.toNat g r J))]))) ?_ (qa0 (a:=true) rfl q)))⟩)))) (λ _ Q q=>qh1 (b:=false) (Ae rfl rfl (qaC7 ok_cs)) q) q) nofun λ _=>?_
 . show Au (.pl 7 [1] w::[]) (.l false (P6 (Aw n.toNat g r J))::[]) _=_
   rw[qQ8 rfl];rfl
 refine qb0 (qo9 n wr e T0 k g r J (rA a n wr e (Ah n.toNat g r J) (j++[D.q [.str "take",.int k]])) (.str "told") (.q [.int (r:Nat),.l false (P6 (Aw n.toNat g r J)++[D.q [.int k,.int 0]])])) (λ K o=>qz3 (qae2 (i:=7) (p:=[1]) (ys:=P6 (Aw n.toNat g r J)) (d0:=.q [.int (r:Nat),.l false (P6 (Aw n.toNat g r J))]) rfl rfl rfl (qf1 (y:=.q [.int k,.int 0]) rfl (qc4 (qa0 (a:=(P6 (Aw n.toNat g r J)++[D.q [.int k,.int 0]],D.non)) (if_pos (by rw[qQ9];have:=DW.2.2.1.hJ;unfold big;lia)) o))))) ?_;refine qf5 (K9 (qt9 (qB2 (p:=rA a n wr e (Ah n.toNat g r J) (j++[D.q [.str "take",.int k]])) (d:=rL n (Ah n.toNat g r J)) rfl (qh5 rfl) ⟨false,n,wr,e,_,_,rfl,rfl⟩ rfl (qa0 (a:=D.bl true) (qan9 λ _ _=>rfl) (qa0 (a:=true) rfl (B7 rfl (K9 ⟨rfl,?_⟩)))))));refine qZ2 (x:=Ag n wr e) (y:=kL T0) rfl rfl rfl ⟨n,wr,e,false,T0,rfl,A,t,C,K'.h.1,by lia,λ ⟨q,c⟩=>absurd c (K'.no_crowd q),λ _ O Kh=>qa0 (a:=(qo9 n wr e T0 k g r J (rA a n wr e (Ah n.toNat g r J) (j++[D.q [.str "take",.int k]])) (.str "told") (.q [.int (r:Nat),.l false (P6 (Aw n.toNat g r J)++[D.q [.int k,.int 0]])]))) rfl (qa0 (a:=D.bl true) (qan9 (K'.same Kh λ _=>Iff.rfl)) (qa0 (a:=true) rfl (B7 rfl ?_)))⟩;refine qt9 (qB2 (p:=rA a n wr e (Ah n.toNat g r J) (j++[D.q [.str "take",.int k]])) (d:=.int (T0.length:Nat)) rfl (qh5 rfl) ⟨false,n,wr,e,_,_,T0,rfl,t,K',rfl⟩ rfl (qa0 (a:=D.bl true) ?_ (q _ _ K')));rw[qs9 (z:=false) (ys:=P4 T0) rfl,qh0];exact qaW5
theorem qn6:qa8 ["_law_script", "_law_bag_here", "_law_way", "_law_some", "_law_plan", "_law_keys", "_law_there", "_law_row", "_law_key", "_law_k", "_law_at"] ["_law_script"] (qa3 Ht):=by walk_at "s"
theorem qaN5(h:qc ds (λ b a=>if b=true then t e a else u e a) e.xe):sIf qc t u e ds:=h
theorem or_to{t u:VTT}{Q:Bool->Ds->Prop}(h:t ds (λ k ds1=>if k=true then Q true ds1 else u ds1 Q xe) xe):ttOr t u ds Q xe:=h
theorem qav9{t u:VTT}{Q:Bool->Ds->Prop}(h:t ds (λ k ds1=>if k=true then u ds1 Q xe else Q false ds1) xe):Iw t u ds Q xe:=h
theorem qay8{v:Int}(hi:ds[i]? = some (kL S))(c:ds[j]? = some (.int v))(g:i≠j)(h:0<=v)(f:S[v.toNat]? = some k)(m:S.length<=100)(q:Q (.int k) ((ds.set j .u).set i (kL (S.eraseIdx v.toNat)))):F8 qan8 i (tbN j A5) ds Q xe:=by
 have e:(rdN i ds).bind D.own=some (P4 S):=by rw[qg1 hi rfl];rfl
 have e2:(rdN i (ds.set j .u)).bind D.own=some (P4 S):=by rw[qg1 (d:=kL S) (by rw[zBg (Ne.symm g)];exact hi) rfl];rfl
 refine⟨by rw[e];rfl,qc3 (qg1 c rfl) ?_⟩;refine qa0 (k:=λ d=>orF ((rdN i (ds.set j .u)).bind D.own) λ b=>orF (qan8 b [d]) λ z=>Q z.2 ((ds.set j .u).set i (.l false z.1))) (qg1 c rfl) ?_;refine qa0 (k:=λ b=>orF (qan8 b [.int v]) λ z=>Q z.2 ((ds.set j .u).set i (.l false z.1))) e2 ?_;refine qa0 (a:=(P4 (S.eraseIdx v.toNat),D.int k)) ?_ q;have l:=(zA4.mp f).1;show (if 0<=v/\v < 2 ^ 63 then ((P4 S)[v.toNat]?).map λ d=>((P4 S).eraseIdx v.toNat,d) else none)=_;rw[if_pos ⟨h,by lia⟩,show (P4 S)[v.toNat]? = some (.int k) from by unfold P4;rw[zB8,f];rfl];show some ((P4 S).eraseIdx v.toNat,D.int k)=_;rw[show (P4 S).eraseIdx v.toNat=P4 (S.eraseIdx v.toNat) from by unfold P4;rw[zBq,zBq,zBc,Nf,Of]]
theorem qah4(c:S.Nodup)(j:S[i]? = some k):(S.filter λ x=>decide (x≠k)).Perm (S.eraseIdx i)/\¬ k∈S.eraseIdx i:=by
 obtain⟨l,e⟩:=zA4.mp j;have d:S=S.take i++k::S.drop (i+1):=by
   conv=>lhs;rw[<- zBa i S,zC5 l,e]
 have a:=c;rw[d] at a;have f:¬ k∈S.eraseIdx i:=by
   rw[zBq,zA9];have g:=zBr.mp a;exact λ h=>h.elim (λ h=>g.2.2 k h k zAa rfl) (zCd.mp g.2.1).1
 refine⟨(Ng (c.filter _) (c.sublist (M9 _ _))).mpr λ x=>?_,f⟩;rw[zB1,zBf];constructor
 . intro h
   have b:=h.1;rw[d,zA9,zAn] at b;rw[zBq,zA9];exact b.elim .inl λ b=>.inr (b.resolve_left h.2)
 intro h;exact⟨(M9 _ _).subset h,λ e=>f (e ▸ h)⟩
abbrev qm2 (u) (wy) (n:Int) (wr:Bool) (ps:Pr) (a:Adr) (p1 c d e f g b:D):=([D.hole u,p1,.int wy,c,Ag n wr ps,d,Ac true a.Ca n wr ps,e,f,g,b]:Ds)
theorem qaU2(T:Txt K mg a):Ga P w K mg base (CX1 P w) 12 a.f48 a.d48 ["_law_script"] (Im K):=by
 refine T.d48.F.okX qn6 (λ vs H Q E h=>?_) (λ a6 A outer s H vs Q E I h=>?_)
 . obtain⟨l,ns,rfl,_⟩:=h
   rfl
 obtain⟨l,ns,rfl,hS,hl,k⟩:=h;refine⟨_,qac3 (sset 1 qn6.nd (callD T.d33 (qaL0 T) (rm I) (qf2 (pv 0) qx9))) (show VSs ⟨λ _=>E,λ _=>false,Mr 11 none,[]⟩ (Fi true (CX1 P w) P w K mg base ["_law_script", "_law_bag_here", "_law_way", "_law_some", "_law_plan", "_law_keys", "_law_there", "_law_row", "_law_key", "_law_k", "_law_at"] "law" (qa3 Ht) a.f48 a6 A outer s H E) _ _ from(Ab (Al 2 qn6.nd (Ak T.d34 (qb9 T) qa1 (rm I) (vaN 1 (vaV (qa4 Af) Ad)))) (Ab (scR1 (NY:=["_law_k", "_law_bag_here"]) (src:=[none,some 1]) 3 qn6.nd T.Cr (F4 (vaV (qa4 Af) Ad)) (blk (λ av C s0 H0 ex=>(Be 0 (show (["_law_k", "_law_bag_here"]:List Str).Nodup by decide +kernel))) (λ av C s0 H0 ex=>G0) (λ av C s0 H0 ex=>(Ak T.d34 (qb9 T) qt0 (rm I) (vaN 1 (vaV (qa4 (vpow 1000000000000000000)) Ad)))))) (Ab (Fo (Ak T.d40 (qam5 T) qa1 (rm I) (vaN 1 (vaV (qa4 Af) Ad))) (I8 (n:=2) rfl (qK0 (Be 4 qn6.nd) (qK0 (Be 5 qn6.nd) Iz)))) (Ab (Al 5 qn6.nd (Ak T.d41 (qY3 T) qa1 (rm I) (vaN 4 (vaN 5 Ad)))) (Ab (Al 6 qn6.nd (efzV (emake T.Cd T.Eh T.d8 (qO8 T) qa1 (rm I) (vaV (qb7 (v2 (Av qb3) Ap (vnm 4) Af)) (vaV (qb7 (v2 (Av qb3) Ap (vnm 4) Af)) (vaV (qa4 (Hx qj9 qU7.ops T.Cw (qa2 (v2 (Av qb3) Ap (vnm 4) Af) qa6 rfl))) Ad)))))) (Ab (Al 7 qn6.nd (qaW9 T.Cf T.E7 T.d25 (qC2 T) qa1 (rm I) (vaN 6 (vaV (Ak T.d38 (qy5 T) qa1 (rm I) (vaN 4 (vaN 5 Ad))) Ad)))) (Ab (sif (q2 (As (qi0 I.u64) (qb2 _)) Bf (vnm 2) Af) (Ab (Al 7 qn6.nd (qaW8 (ndv:=[]) T.Cf T.E7 T.d25.bn (qC2 T) qa1 (rm I) (vaN 6 Ad))) (Aj (Ja Oz (vpn 5) (Be 8 qn6.nd) (Aj (Bq (qm5 7 T.d30 T.Cf.cl (qad5 T) qa1 (rm I) (vaN 8 Ad))))))) Ax) (Ab (Ja Oz (vpn 3) (Be 8 qn6.nd) (Aj (sif (Jm (q2 (As qy2 (by with_unfolding_all rfl)) Iu (vnm 8) (vnm 5)) (Gv (Bh (te (Ak T.d46 (qad8 T) qa1 (rm I) (vaN 7 (vaN 8 Ad))))))).te (Aj (Aq (qa4 vbl))) Ax))) (Ab (qM8 Oz T.Cr (F4 (vaV (qa4 (vbi qq5 qq4.ops T.Cq (qa2 (vnm 5) qa6 rfl))) Ad)) (Be 9 qn6.nd) (Ab (Al 10 qn6.nd (Ak T.d34 (qb9 T) qa1 (rm I) (vaN 1 (vaV (qa4 (vbi qq5 qq4.ops T.Cq (qa2 (vnm 5) qa6 rfl))) Ad)))) (Ab (Al 8 qn6.nd (Fe 5 qaA8 O2 Pm F.type_list_pop qaA9 (vaN 10 Ad))) (Aj (sif (tor (Bh (te (Ak T.d47 (qam3 T) qa1 (rm I) (vaN 7 (vaN 4 (vaN 5 (vaN 8 Ad))))))) (Hm (Jm (q2v (A6 (qi0 I.u64) (qb2 _)) (As (qi0 I.u64) (qb2 _)) Bf (Ak T.d34 (qb9 T) qa1 (rm I) (vaN 1 (vaV (qa4 Af) Ad))) Af) (Gv (Bh (te (Ak T.d46 (qad8 T) qa1 (rm I) (vaN 7 (vaN 8 Ad))))))).te)).te (Aj (Aq (qa4 vbl))) Ax))))) (Aj (Aq (Fx (e2v (A6 (qi0 I.u64) (qb2 _)) Bf (qn0 7 T.d27 T.Cf.cl (qg8 T) qa1 (rm I)) (By qa6)) (Fx (e2v (A6 (qi0 I.u64) (qb2 _)) Bf (qn0 7 T.d28 T.Cf.cl (qC1 T) qa1 (rm I)) Af) (Hn (e2v (A6 (qi0 I.u64) (qb2 _)) Bf (qn0 7 T.d26 T.Cf.cl (qc7 T) qa1 (rm I)) (v2 (Am qy1) qy0 (By (qa2 A7 qa6 rfl)) (v2 (Av qb3) Ap (vnm 4) Af)))))))))))))))))).h,?_⟩;refine⟨_,rfl,l,ns,rfl,hS,hl,λ p L H' hp hL kp B=>?_⟩;obtain⟨x,y,z,M,B⟩:=B;refine qan2 (rest:=[]) (X:=Fi true (CX1 P w) P w K mg base [] "law" (qa3 Ht) a.f48 a6 A outer s H E) (n:=9) (x:=x) (y:=y) (z:=z) (ns:=M) rfl (λ _=>rfl) rfl B.at_ B.li B.ne (λ H'=>k H') ?_;have B0:Qe M (bagD x y z M):=⟨x,y,z,rfl,B.x0,B.y0,B.y1,B.z0,B.nn⟩
 generalize bagD x y z M=b at B0;generalize V.ref l=u;refine At [D.hole u,b,.u,.u,.u,.u,.u,.u,.u,.u,.u] rfl ?_;refine qc5 (λ r=>∃ b t,r=[D.hole u,b,.int t,.u,.u,.u,.u,.u,.u,.u,.u]/\Qe M b) (λ K J=>qe5 (qd6 rfl B0 rfl (by decide) (by decide) λ v b' v0 v1 B'=>J _ ⟨b',v,rfl,B'⟩)) ?_;rintro r ⟨b,t,rfl,B⟩;refine qc5 (λ r=>∃ b L,r=[D.hole u,b,.int t,kL L,.u,.u,.u,.u,.u,.u,.u]/\Qe M b/\∀ x∈L,An x) (λ K J=>qe5 (qaX5 (qf1 (y:=.int 2) rfl (qc4 (qa0 (a:=(2:Int)) rfl ⟨by decide,?_⟩))))) ?_
 . refine qav3 (λ i a2 ι=>∃ b d L,ι=[d,b]/\Qe M b/\a2=P4 L/\L.length=i/\∀ x∈L,An x) _ 0 [] _ ⟨b,_,[],rfl,B,rfl,rfl,nofun⟩ ?_ ?_
   . rintro j y hy a2 ι ⟨b,d,L,rfl,B,rfl,N,hL⟩ R hR
     have hj:=(qH4 hy).1;rw[zAc] at N hR;refine qq1 (qaj4 (B7 rfl (qd6 (ds:=[y,b]) (i:=1) rfl B rfl (by decide) (by decide) λ v b' v0 v1 B'=>⟨by rw[qh0,N];unfold big;lia,hR _ _ ⟨b',y,L++[v],rfl,B',qI9,by rw[zAe,N];rfl,λ x hx=>?_⟩⟩)));rcases zA9.mp hx with h | h
     . exact hL x h
     rw[zAl.mp h];exact⟨v0,by lia⟩
   rintro a2 ι ⟨b,d,L,rfl,B,rfl,_,hL⟩;exact J _ ⟨b,L,rfl,B,hL⟩
 rintro r ⟨b,L,rfl,B,hL⟩;refine qc5 (λ r=>∃ b n wr f ks,r=[D.hole u,b,.int t,kL L,Ag n wr f,kL ks,.u,.u,.u,.u,.u]/\Qe M b/\1<=n/\n<=64/\Kk f/\ks.Nodup/\(∀ k∈ks,An k)/\ks.length<=66) (λ K J=>?_) ?_
 . refine qav7 (qk3 (qc3 (x:=b) (qg1 rfl B.known) (qf1 (y:=.int 64) rfl (qc4 (qa0 (a:=b) (qg1 rfl B.known) ?_)))))
   exact⟨b,64,M,rfl,B,by decide,by decide,λ b' n wr f ks B' Y Z G nd hk a0=>qa0 (a:=[D.hole u,b',.int t,kL L,.u,.u,.u,.u,.u,.u,.u]) rfl (qF4 (J _ ⟨b',n,wr,f,ks,rfl,B',Y,Z,G,nd,hk,a0⟩))⟩
 rintro r ⟨b,n,wr,f,ks,rfl,B,Y,Z,G,nd,hk,a0⟩;refine qc5 (λ r=>∃ S:List Int,r=[D.hole u,b,.int t,kL L,Ag n wr f,kL S,.u,.u,.u,.u,.u]/\S.Sublist ks/\∀ q,¬ Crowd n.toNat wr (P1 n f) S q) (λ K J=>qe5 (qZ2 (x:=Ag n wr f) (y:=kL ks) rfl rfl rfl ⟨n,wr,f,false,ks,rfl,Y,Z,G.nd,nd,by lia,λ S h nc=>qa0 (a:=[D.hole u,b,.int t,kL L,Ag n wr f,kL ks,.u,.u,.u,.u,.u]) rfl (J _ ⟨S,rfl,h,nc⟩)⟩)) ?_;rintro r ⟨S,rfl,sub,nc⟩
 replace hk:∀ x∈S,An x:=λ x hx=>hk x (sub.subset hx)
 replace nd:=nd.sublist sub
 replace a0:=zAd sub.length_le a0
 refine qb0 (qm2 u t n wr f a b (kL L) (kL S) .u .u .u .u) (λ K J=>qe5 (fz_to (qat3 (qe3 (y:=.int n) rfl rfl (qe3 (y:=.bl wr) rfl rfl (qf1 (y:=.l false (P7 f)) (qat4 (z:=true)) (qc4 ⟨n,wr,false,f,rfl,Y,Z,G,rfl,qa0 (a:=Ac false a.Ca n wr f) rfl (qa0 (a:=[D.hole u,b,.int t,kL L,Ag n wr f,kL S,.u,.u,.u,.u,.u]) rfl ?_)⟩))))))) ?_
 . rw[qaO0]
   exact J
 refine qc5 (λ r=>∃ g o,r=(qm2 u t n wr f a b (kL L) (kL S) (rA a n wr f g o) .u .u .u)/\Kept n.toNat wr (P1 n f) g S/\o.length<=70) (λ K J=>qe5 (qat3 (qc3 (x:=Ac true a.Ca n wr f) rfl (qi3 (qZ2 (x:=Ag n wr f) (y:=kL S) rfl rfl rfl ⟨n,wr,f,false,S,rfl,Y,Z,G.nd,nd,by lia,λ ⟨q,c⟩=>absurd c (nc q),λ _ g Kg=>qa0 (a:=(qm2 u t n wr f a b (kL L) (kL S) .u .u .u .u)) rfl (qc4 (qa0 (a:=Ac true a.Ca n wr f) rfl ⟨n,wr,f,_,g,S,rfl,Y,Z,hk,Kg,.inr ⟨false,rfl⟩,rfl,?_⟩))⟩))))) ?_
 . exact qa0 (a:=rA a n wr f g []) rfl (qa0 (a:=(qm2 u t n wr f a b (kL L) (kL S) .u .u .u .u)) rfl (J _ ⟨g,[],rfl,Kg,by decide⟩))
 rintro r ⟨g,o,rfl,KP,a3⟩;refine qc5 (λ r=>∃ g o O,r=(qm2 u t n wr f a b (kL L) (kL S) (rA a n wr f g o) O .u .u)/\Kept n.toNat wr (P1 n f) g S/\o.length<=70) (λ K J=>if_v (b:=(t == 0)) rfl (λ _=>?_) λ _=>J _ ⟨g,o,_,rfl,KP,a3⟩) ?_
 . refine qb0 [D.hole u,b,.int t,kL L,Ag n wr f,kL S,Ac true a.Ca n wr f,rA a n wr f (λ _=>none) [],.u,.u,.u] (λ K J=>qe5 (qc3 (x:=Ac true a.Ca n wr f) rfl (qc4 (qa0 (a:=Ac true a.Ca n wr f) rfl ⟨n,wr,f,.non,λ _=>none,[],rfl,Y,Z,nofun,Kept.none (by lia) (Fb Y),.inl ⟨rfl,rfl⟩,rfl,J⟩)))) ?_
   refine qa0 (a:=(5,[])) rfl (qa0 (a:=D.l false (P4 S)) rfl (qa0 (a:=P4 S) rfl ⟨qk2 S,λ w=>?_⟩));refine qe1 (λ i r=>∃ g o O,r=(qm2 u t n wr f a b (kL L) (.hole w) (rA a n wr f g o) O .u .u)/\Kept n.toNat wr (P1 n f) g (S.take i)/\o.length=i) _ 0 _ ⟨_,[],_,rfl,Kept.none (by lia) (Fb Y),rfl⟩ ?_ ?_
   . rintro i y hy r ⟨g,o,O,rfl,K1,hd⟩ K2 U
     rw[zAc] at K1 hd U;obtain⟨k,hi,rfl⟩:=qan3 hy;have b0:=(zA4.mp hi).1;have a8:=zB0 hi;refine qq1 (qz3 ?_);refine qI5 (p:=rA a n wr f g o) rfl (qh5 rfl) (qc3 (x:=.int k) rfl (qc4 (qa0 (a:=D.int k) rfl (qa0 (a:=rA a n wr f g o) rfl ?_))));refine⟨n,wr,f,g,o,S.take i,k,rfl,Y,Z,hk k a8,λ x hx=>hk x (Nr hx),K1,qy6 nd hi,λ q c=>?_,by lia,λ came g' K'=>?_⟩
     . rw[<- qk7 hi] at c
       exact nc q (c.mono (Mw _ _))
     rw[<- qk7 hi] at K';exact qa0 (a:=(qm2 u t n wr f a b (kL L) (.hole w) (rA a n wr f g' (o++[D.q [.str "put",.int k]])) (.int k) .u .u)) rfl (U _ ⟨g',_,_,rfl,K',by rw[zAe,hd];rfl⟩)
   rintro r ⟨g,o,O,rfl,K1,hd⟩;rw[zAc,qh0] at hd;rw[zAc,qh0,M4] at K1;exact qa0 (qV6 rfl) (J _ ⟨g,o,O,rfl,K1,by lia⟩)
 clear KP a3;rintro r ⟨g,o,O,rfl,KP,a3⟩;refine qc5 (λ r=>∃ O,r=(qm2 u t n wr f a b (kL L) (kL S) (rA a n wr f g o) O .u .u)) (λ K J=>?_) ?_
 . refine qa0 (a:=(3,[])) rfl (qa0 (a:=D.l false (P4 L)) rfl (qa0 (a:=P4 L) rfl ⟨qk2 L,λ w=>?_⟩))
   refine qe1 (λ i r=>∃ O,r=(qm2 u t n wr f a b (.hole w) (kL S) (rA a n wr f g o) O .u .u)) _ 0 _ ⟨_,rfl⟩ ?_ ?_
   . rintro i y hy r ⟨O,rfl⟩ K2 U
     obtain⟨k,a9,rfl⟩:=zBb.mp (zB0 hy);refine qq1 (At (qm2 u t n wr f a b (.hole w) (kL S) (rA a n wr f g o) (.int k) .u .u) rfl ?_);refine qaN5 (qav9 (qh1 (b:=!decide (k∈S)) (Ae rfl rfl qad9) (ite_b (λ h=>?_) λ h=>Gm (by decide) (U _ ⟨_,rfl⟩))));exact qI1 (qz0 (x:=rA a n wr f g o) (y:=.int k) (d:=.bl true) rfl rfl rfl ⟨n,wr,f,g,o,S,k,rfl,hL k a9,Y,Z,hk,KP,by lia,λ z=>by rw[zAq z] at h;(cases h),rfl⟩ rfl (qa0 (a:=true) rfl (Gm (by decide) (U _ ⟨_,rfl⟩))))
   rintro r ⟨O,rfl⟩;exact qa0 (qV6 rfl) (J _ ⟨_,rfl⟩)
 rintro r ⟨O,rfl⟩;refine qc5 (λ r=>∃ b g o O d9 W,r=(qm2 u t n wr f a b (kL L) (kL []) (rA a n wr f g o) O d9 W)/\Kept n.toNat wr (P1 n f) g []) (λ K J=>qF6 (n:=(S.length:Nat)) (by rw[qs9 (z:=false) (ys:=P4 S) rfl,qh0]) (qP2 (by lia) (by lia)) ?_) ?_
 . refine qe1 (λ i r=>∃ b g o,∃ T0:List Int,∃ O d9 W,r=(qm2 u t n wr f a b (kL L) (kL T0) (rA a n wr f g o) O d9 W)/\Qe M b/\Kept n.toNat wr (P1 n f) g T0/\(∀ x∈T0,An x)/\T0.length+i=S.length/\o.length<=70+i) _ 0 _ ⟨b,g,o,S,_,_,_,rfl,B,KP,hk,rfl,by lia⟩ ?_ ?_
   . rintro i y hy r ⟨b,g,o,T0,O,d9,W,rfl,B,KP,hT,N,hd⟩ K2 U
     obtain⟨hi,rfl⟩:=qH4 hy;rw[zAc] at N hd U;refine qq1 (At (qm2 u t n wr f a b (kL L) (kL T0) (rA a n wr f g o) O (.int (i:Nat)) W) rfl ?_);refine qc5 (λ r=>∃ b v,r=(qm2 u t n wr f a b (kL L) (kL T0) (rA a n wr f g o) O (.int (i:Nat)) (.int v))/\Qe M b/\0<=v/\v < (T0.length:Nat)) (λ K J=>qe5 (qd6 (m:=(T0.length:Nat)) rfl B (by rw[qs9 (z:=false) (ys:=P4 T0) rfl,qh0]) (by lia) (by lia) λ v b' v0 v1 B'=>J _ ⟨b',v,rfl,B',v0,v1⟩)) ?_;rintro r ⟨b,v,rfl,B,v0,v1⟩;obtain⟨k,a4⟩:∃ k,T0[v.toNat]? = some k:=⟨T0[v.toNat]'(by lia),zBm (by lia)⟩
     have a5:=zB0 a4;obtain⟨pm,nk⟩:=qah4 KP.h.1 a4;have a7:(T0.eraseIdx v.toNat).length+1=T0.length:=by rw[List.length_eraseIdx,if_pos (by lia)];lia
     have a1:∀ x∈T0.eraseIdx v.toNat,An x:=λ x hx=>hT x ((M9 _ _).subset hx)
     refine qb0 (qm2 u t n wr f a b (kL L) (kL (T0.eraseIdx v.toNat)) (rA a n wr f g o) (.int k) (.int (i:Nat)) .u) (λ K J=>qe5 (qay8 (S:=T0) (v:=v) (k:=k) rfl rfl (by decide) v0 a4 (by lia) J)) ?_;generalize T0.eraseIdx v.toNat=T1 at pm nk a7 a1;refine qaN5 (or_to (qI1 (qk3 (qc3 (x:=rA a n wr f g o) rfl (qc3 (x:=Ag n wr f) rfl (qc3 (x:=kL T1) rfl (qc3 (x:=.int k) rfl (qc4 (qa0 (a:=D.int k) rfl (qa0 (a:=D.l false (P4 T1)) rfl (qa0 (a:=Ag n wr f) rfl (qa0 (a:=rA a n wr f g o) rfl ?_))))))))))));refine⟨n,wr,f,g,o,T0,T1,k,rfl,hT k a5,Y,Z,G.nd,hT,KP,by lia,a5,pm,λ g' e K'=>qa0 (a:=(qm2 u t n wr f a b (kL L) (kL T1) (rA a n wr f g' (o++[e])) (.int k) (.int (i:Nat)) .u)) rfl (qa0 (a:=true) rfl (Gm (by decide) (qav9 (qal6 (qd6 rfl B rfl (by decide) (by decide) λ x b' x0 x1 B'=>qa0 (a:=D.bl (x == 0)) rfl (qa0 (a:=(x == 0)) rfl (ite_b (λ _=>?_) λ _=>Gm (by decide) (U _ ⟨b',g',_,T1,_,_,_,rfl,B',K',a1,by lia,by rw[zAe];show _+1<=_;lia⟩))))))))⟩;exact qI1 (qz0 (x:=rA a n wr f g' (o++[e])) (y:=.int k) (d:=.bl true) rfl rfl rfl ⟨n,wr,f,g',_,T1,k,rfl,hT k a5,Y,Z,a1,K',by rw[zAe];show _+1<=_;lia,nk,rfl⟩ rfl (qa0 (a:=true) rfl (Gm (by decide) (U _ ⟨b',g',_,T1,_,_,_,rfl,B',K',a1,by lia,by rw[zAe];show _+1<=_;lia⟩))))
   rintro r ⟨b,g,o,T0,O,d9,W,rfl,B,KP,hT,N,hd⟩;rw[zAc,qI6,Int.toNat_natCast] at N;obtain rfl:T0=[]:=List.eq_nil_of_length_eq_zero (by lia);exact J _ ⟨b,g,o,_,_,_,rfl,KP⟩
 rintro r ⟨b,g,o,O,d9,W,rfl,KP⟩;have ek:(Ms n.toNat).filterMap g=[]:=List.perm_nil.mp KP.perm;refine qf5 (K9 (qt9 (qB2 (p:=rA a n wr f g o) (d:=kL ((Ms n.toNat).filterMap g)) rfl (qh5 rfl) ⟨false,n,wr,f,g,o,rfl,Z,rfl⟩ rfl (qa0 (a:=D.bl true) (by rw[ek];rfl) (qa0 (a:=true) rfl (B7 rfl (K9 ?_)))))));refine qt9 (qB2 (p:=rA a n wr f g o) (d:=.int (([]:List Int).length:Nat)) rfl (qh5 rfl) ⟨false,n,wr,f,g,o,[],rfl,Z,KP,rfl⟩ rfl (qa0 (a:=D.bl true) rfl (qa0 (a:=true) rfl (B7 rfl ?_))));exact qt9 (qB2 (p:=rA a n wr f g o) (d:=rL n g) rfl (qh5 rfl) ⟨false,n,wr,f,g,o,rfl,rfl⟩ rfl (qa0 (a:=D.bl true) (by rw[Ae (x:=.l false [.non]) (y:=.int n) rfl rfl (qP1 (by lia) Z)];exact qan9 (KP.same (Kept.none (by lia) (Fb Y)) λ _=>Iff.rfl)) rfl))
end
theorem dfX{K:O0}{mg:Str->Option V'}{x qual:Str}{st:Mb}{f:γ}{ps:List Str}{oc:V'}{od g:Option γ}{m:Array (Option V')}{kV e i d j:V'}{h:Heap}(X:K.In h)(G:h.Ns Lq mg)(a:W.nsIn K Lq x=some (some (.ref f)))(l:K.lookup f=some ⟨oc,od,.func (W.fnOf x qual (qe7 st) (qc9 st) (qa3 st) .none kV e i g d j),m⟩)(c:W.codeIn K d qual=true)(k:W.keepIn K (.ref f)=true)(b:∀(kV e i:V')(g:Option γ)(d j:V')(us:List V'),us.length=ps.length->bindArgs (W.fnOf x qual (qe7 st) (qc9 st) (qa3 st) .none kV e i g d j) ⟨us,[]⟩=pure (ps.zip us)) :
 Df K mg x qual st f (W.fnOf x qual (qe7 st) (qc9 st) (qa3 st) .none kV e i g d j) ps:=dfmk l c k (W.mg_of X G a) b
theorem qaY5{l:W.OpenLaw}{w:L9}{K:O0}{mg:Str->Option V'}{fa f0 f1 f2 f3 f4 f5 f6 f7 f8 f9 d f g h i j n o p q r t u x y c z A B C D E F G H I J L M N O P Q R S T U V e7 C0 C1 C2 C3 C4 C5 C6 C7 C8 C9 C10 C11 C12:γ}{d0 d1 d2 d3 d4 d5 d6 d7 d8 d9 X Y Z a0 a1 a2 a3 a4 a5 a6 a7 a8 a9 b0 b1 b2 b3 b4 b5 b6 b7 b8 b9 c0 c1 c2 c3 c4 c5 c6 c7 c8 c9 e0 e1 e3 e4 e5 b:ε}{Cj Co Cp:Tok}(e8:mg "law" = some (.ref fa))(j0:Df K mg "_wall" "_wall" qar6 f0 d0 ["k"])(j1:Md K C6 "__init__" "NotThere.__init__" qh9 f1 d1 ["self", "key"])(j2:Df K mg "is_whole" "is_whole" qw9 f2 d2 ["thing"])(j3:Df K mg "is_whole_within" "is_whole_within" qf3 f3 d3 ["thing", "least", "most"])(j4:Df K mg "is_number" "is_number" qr8 f4 d4 ["thing"])(j5:Df K mg "are_parted" "are_parted" qn8 f5 d5 ["numbers"])(j6:Df K mg "is_number_pair" "is_number_pair" qg4 f6 d6 ["thing"])(j7:Df K mg "is_home_list" "is_home_list" qj1 f7 d7 ["thing"])(j8:Md K C0 "__init__" "Plan.__init__" qs1 f8 d8 ["self", "rooms", "wraps", "homes"])(j9:Md K C0 "is_room" "Plan.is_room" qj3 f9 d9 ["self", "thing"])(e9:Md K C0 "home" "Plan.home" qs2 d X ["self", "key"])(g0:Md K C0 "far" "Plan.far" qx5 f Y ["self", "key", "room"])(g9:Md K C0 "goes_ahead" "Plan.goes_ahead" qf4 g Z ["self", "room", "one", "other"])(h0:Df K mg "room_ahead" "room_ahead" qn7 h a0 ["plan", "room"])(h1:Df K mg "word_by_room_ahead" "word_by_room_ahead" qe0 i a1 ["plan", "rooms", "room"])(h2:Df K mg "word_due" "word_due" qw8 j a2 ["plan", "rooms", "room"])(h3:Df K mg "is_turned" "is_turned" qr7 n a3 ["plan", "rooms"])(h4:Df K mg "fault_of" "fault_of" qx0 o a4 ["plan", "rooms"])(h5:Df K mg "are_crowd" "are_crowd" qs0 p a5 ["plan", "keys", "room"])(h6:Df K mg "crowded_room" "crowded_room" qj2 q a6 ["plan", "keys"])(h7:Df K mg "refuse_crowd" "refuse_crowd" qj0 r a7 ["plan", "keys"])(h8:Df K mg "bring_in" "bring_in" qx1 t a8 ["plan", "rooms", "key"])(h9:Df K mg "room_behind" "room_behind" qk9 u a9 ["plan", "room"])(i0:Df K mg "is_drawn_from" "is_drawn_from" qh7 x b0 ["plan", "rooms", "room"])(i1:Df K mg "draw_back" "draw_back" qr9 y b1 ["plan", "rooms", "room"])(i2:MdN K C1 "__init__" "Row.__init__" qx4 c b2 ["self", "plan", "rooms"])(i3:Md K C1 "rooms_held" "Row.rooms_held" qg5 z b3 ["self"])(i4:Md K C1 "keys_held" "Row.keys_held" qh8 A b4 ["self"])(i5:Md K C1 "many" "Row.many" qx3 B b5 ["self"])(i6:Md K C1 "room_of" "Row.room_of" ql0 C b6 ["self", "key"])(i7:Md K C1 "put" "Row.put" qD8 D b7 ["self", "key"])(i8:Md K C1 "take" "Row.take" qx2 E b8 ["self", "key"])(i9:Df K mg "_law_whole" "_law_whole" qN6 F b9 ["_law_found"])(k0:Df K mg "_law_bag" "_law_bag" qax8 G c0 ["_law_script"])(k1:Df K mg "_law_take" "_law_take" qab5 H c1 ["_law_bag_here", "_law_many"])(k2:Df K mg "_law_home" "_law_home" qab7 I c2 ["_law_plan", "_law_key"])(k3:Df K mg "_law_far" "_law_far" qax7 J c3 ["_law_plan", "_law_key", "_law_room"])(k4:Df K mg "_law_passing" "_law_passing" qx6 L c4 ["_law_plan", "_law_keys"])(k5:Df K mg "_law_housed" "_law_housed" qD9 M c5 ["_law_plan", "_law_keys"])(k6:Df K mg "_law_drawn_homes" "_law_drawn_homes" qj4 N c6 ["_law_bag_here", "_law_size", "_law_many"])(k7:Df K mg "_law_drawn" "_law_drawn" qO0 O c7 ["_law_bag_here", "_law_most"])(k8:Df K mg "_law_fitting" "_law_fitting" qx7 P c8 ["_law_plan", "_law_keys"])(k9:Df K mg "_law_sort" "_law_sort" qab6 Q c9 ["_law_e"])(l0:Df K mg "_law_taken" "_law_taken" qN7 R e0 ["_law_plan", "_law_held", "_law_key"])(l1:Df K mg "_law_pairs" "_law_pairs" qN9 S e1 ["_law_found"])(l2:Df K mg "_law_told" "_law_told" qab4 T e3 ["_law_row", "_law_key"])(l3:Df K mg "_law_gone" "_law_gone" qab8 U e4 ["_law_row", "_law_key"])(l4:Df K mg "_law_right" "_law_right" qN8 V e5 ["_law_row", "_law_plan", "_law_left", "_law_key"])(e6:Df K mg "law" "law" Ht e7 b ["_law_script"])(l5:mg "MOST_NUMBER" = some (.int 1000000000000000000 Cj))(l6:mg "MOST_ROOMS" = some (.int 64 Co))(l7:mg "MOST_HOMES" = some (.int 64 Cp))(l8:mg "ValueError" = none)(l9:mg "abs" = none)(m0:mg "all" = none)(m1:mg "bool" = none)(m2:mg "dict" = none)(m3:mg "enumerate" = none)(m4:mg "int" = none)(m5:mg "isinstance" = none)(m6:mg "len" = none)(m7:mg "list" = none)(m8:mg "max" = none)(m9:mg "min" = none)(n0:mg "range" = none)(n1:mg "set" = none)(n2:mg "sorted" = none)(n3:mg "tuple" = none)(n4:Cl K mg "Plan" C0)(n5:Mk K C0 f8)(n6:qd5 K C0 "rooms")(n7:qd5 K C0 "wraps")(n8:qd5 K C0 "homes")(n9:qd5 K C0 "home_numbers")(o0:IsO K C0)(o1:Cl K mg "Row" C1)(o2:Mk K C1 c)(o3:qd5 K C1 "plan")(o4:qd5 K C1 "held")(o5:qd5 K C1 "done")(o6:mg "HomeError" = some (.ref C2))(o7:Exc K C2)(o8:mg "Wrong" = some (.ref C3))(o9:mg "NoRoom" = some (.ref C4))(p0:mg "There" = some (.ref C5))(p2:mg "NotThere" = some (.ref C6))(p3:Exc K C6)(p4:O1 K (.ref C6) (.type "ValueError")=some true)(p5:MkE K C6 f1)(p6:qd5 K C6 "key")(p7:IsX K C6)(p8:O1 K (.ref C6) (.ref C3)=some false)(p9:O1 K (.ref C6) (.ref C4)=some false)(q0:O1 K (.ref C6) (.ref C5)=some false)(q1:O1 K (.ref C6) (.ref C7)=some false)(q3:O1 K (.ref C6) (.ref C8)=some false)(q4:O1 K (.ref C6) (.ref C9)=some false)(q5:O1 K (.ref C6) (.ref C10)=some false)(q6:O1 K (.ref C6) (.ref C11)=some false)(q7:O1 K (.ref C6) (.ref C12)=some false)(j100:W.mroIn K C6 (.ref C2)=some true)(j101:W.mroIn K C6 (.ref C6)=some true)(j102:mg "Unkept" = some (.ref C7))(j103:mg "Unlike" = some (.ref C8))(j104:mg "NoText" = some (.ref C9))(j105:mg "NoRow" = some (.ref C10))(j106:mg "NoPlan" = some (.ref C11))(j107:mg "TooMany" = some (.ref C12))(hb:∀(s:δ)(v:V'),BindsTo s b ⟨[v],[]⟩ [("_law_script",v)]):∃ fd:ε,(∀(s:δ)(v:V'),BindsTo s fd ⟨[v],[]⟩ [("_law_script",v)])/\∀ base:Heap,K.In base->base.Ns Lq mg->Ga l.prog w K mg base (CX1 l.prog w) 12 fa fd ["_law_script"] (Im K):=by
 have e:=e8.symm.trans e6.m;injection e with e
 injection e with e
 subst e;exact⟨b,hb,λ base _ _=>qaU2 (a:=⟨f0,d0,f1,d1,f2,d2,f3,d3,f4,d4,f5,d5,f6,d6,f7,d7,f8,d8,f9,d9,d,X,f,Y,g,Z,h,a0,i,a1,j,a2,n,a3,o,a4,p,a5,q,a6,r,a7,t,a8,u,a9,x,b0,y,b1,c,b2,z,b3,A,b4,B,b5,C,b6,D,b7,E,b8,F,b9,G,c0,H,c1,I,c2,J,c3,L,c4,M,c5,N,c6,O,c7,P,c8,Q,c9,R,e0,S,e1,T,e3,U,e4,V,e5,fa,b,Cj,Co,Cp,C0,C1,C2,C3,C4,C5,C6,C7,C8,C9,C10,C11,C12⟩) ⟨j0,j1,j2,j3,j4,j5,j6,j7,j8,j9,e9,g0,g9,h0,h1,h2,h3,h4,h5,h6,h7,h8,h9,i0,i1,i2,i3,i4,i5,i6,i7,i8,i9,k0,k1,k2,k3,k4,k5,k6,k7,k8,k9,l0,l1,l2,l3,l4,e6,l5,l6,l7,l8,l9,m0,m1,m2,m3,m4,m5,m6,m7,m8,m9,n0,n1,n2,n3,n4,n5,n6,n7,n8,n9,o0,o1,o2,o3,o4,o5,o6,o7,o8,o9,p0,p2,p3,p4,p5,p6,p7,p8,p9,q0,q1,q3,q4,q5,q6,q7,j100,j101,j102,j103,j104,j105,j106,j107⟩⟩
theorem walk{l:W.OpenLaw}{q:L7}{loose:List Str}{XP:(Str->Option V')->Heap->Prop}{YP:L9->Heap->Prop}{d:DefRec}{K:Params->O0}(c:l.most=some 63)(b:d.params.defaults=[])(e:∀(w:L9)(h:Heap),YP w h->(K w.params).In h)(F:∀(w:L9)(mg:Str->Option V')(fa:γ)(h:Heap),(K w.params).In h->h.Ns Lq mg->mg d.name=some (.ref fa) ->
 ∃ fd:ε,(∀(s:δ)(u:V'),BindsTo s fd ⟨[u],[]⟩ [("_law_script",u)])/\∀ base:Heap,(K w.params).In base->base.Ns Lq mg->Ga l.prog w (K w.params) mg base (CX1 l.prog w) 12 fa fd ["_law_script"] (Im (K w.params))) :
 W.WalkO q loose XP YP l.row.toRowW d [] (λ f vs=>PySem.call f vs) :=
 L2.qaE9 (n:=63) (k:=12) (x := "_law_script") (CX:=λ w=>CX1 l.prog w) (sp:=λ w=>Im (K w.params)) c (by decide) b ⟨λ _=>rfl,by decide,by decide⟩ e F (λ _ _ a g i _ j=>⟨a,g,rfl,j,i,λ _=>rfl⟩) λ _ _ _ _ _ ⟨_,_,_,_,_,_,_,_,z⟩=>z
end LV.My
open PySem PySem.W PyProof.Rows L2
local macro_rules | `(tactic| walk_at "u")=>`(tactic| (intro _ _ _ _ _ _;repeat' first | exact LV.ec0 (rfl) | refine LV.ec1 λ _=>?_))
local macro_rules | `(tactic| walk_at "d")=>`(tactic| (refine' LV.My.dfX (by assumption) (by assumption) ?a ?l ?c ?k ?b;(case a | l | c | k=>k_is);(case b=>walk_at "u")))
local macro_rules | `(tactic| walk_at "e")=>`(tactic| (refine' mdmk ?l ?c ?k ?a ?i ?b;(case a | i | l | c | k=>k_is);(case b=>walk_at "u")))
local macro_rules | `(tactic| walk_at "c")=>`(tactic| (refine' mg_of (by assumption) (by assumption) ?a;k_is))
local macro_rules | `(tactic| walk_at "z")=>`(tactic| (refine' mg_none_of (by assumption) (by assumption) ?a;k_is))
local macro_rules | `(tactic| walk_at "q")=>`(tactic| (first | k_is | kernel_rfl | rfl))
local macro_rules | `(tactic| walk_at "n")=>`(tactic| (show findIn _ _ _=some none;k_is))
local macro_rules | `(tactic| walk_at "x9")=>`(tactic| (refine⟨?_,?_,?_,?_,?_,?_,?_,?_,?_⟩<;>walk_at "q"))
local macro_rules | `(tactic| walk_at "ix")=>`(tactic| (refine⟨⟨?_,?_,?_,?_,?_,?_,?_,?_,?_⟩,?_,?_,?_⟩<;>walk_at "q"))
local macro_rules | `(tactic| walk_at "me")=>`(tactic| (refine⟨⟨?_,?_,?_,?_,?_,?_,?_,?_,?_⟩,?_,?_,?_,?_⟩<;>walk_at "q"))
theorem PySem.Challenge.cw_homeward_k32_takes_draw_back_holds : PySem.Challenge.rw_homeward_k32_takes_draw_back.Holds := by
 w_on;o_law;k_head;(case hw=>w_witness2)
 k_fill
 refine LV.My.walk (l:=PySem.Challenge.rw_homeward_k32_takes_draw_back) rfl rfl (λ w h Y=>PySem.W.kIn_of Y) ?F
 case F =>
 intro w g j h KX G f;refine' LV.My.qaY5 f ?j0 ?j1 ?j2 ?j3 ?j4 ?j5 ?j6 ?j7 ?j8 ?j9 ?j10 ?j11 ?j12 ?j13 ?j14 ?j15 ?j16 ?j17 ?j18 ?j19 ?j20 ?j21 ?j22 ?j23 ?j24 ?j25 ?j26 ?j27 ?j28 ?j29 ?j30 ?j31 ?j32 ?j33 ?j34 ?j35 ?j36 ?j37 ?j38 ?j39 ?j40 ?j41 ?j42 ?j43 ?j44 ?j45 ?j46 ?j47 ?j48 ?j49 ?j50 ?j51 ?j52 ?j53 ?j54 ?j55 ?j56 ?j57 ?j58 ?j59 ?j60 ?j61 ?j62 ?j63 ?j64 ?j65 ?j66 ?j67 ?j68 ?j69 ?j70 ?j71 ?j72 ?j73 ?j74 ?j75 ?j76 ?j77 ?j78 ?j79 ?j80 ?j81 ?j82 ?j83 ?j84 ?j85 ?j86 ?j87 ?j88 ?j89 ?j90 ?j91 ?j92 ?j93 ?j94 ?j95 ?j96 ?j97 ?j98 ?j99 ?j100 ?j101 ?j102 ?j103 ?j104 ?j105 ?j106 ?j107 ?hb
 case j49|j50|j51|j80|j82|j83|j84|j85|j102|j103|j104|j105|j106|j107=>walk_at "c"
 case j68|j75=>refine' ⟨⟨?_,?_,?_,?_⟩,mg_of (by assumption) (by assumption) ?a⟩;(case a=>k_is);k_is;k_is;k_is;k_is
 case j0|j2|j3|j4|j5|j6|j7|j13|j14|j15|j16|j17|j18|j19|j20|j21|j22|j23|j24|j32|j33|j34|j35|j36|j37|j38|j39|j40|j41|j42|j43|j44|j45|j46|j47|j48=>walk_at "d"
 case j1|j8|j9|j10|j11|j12|j26|j27|j28|j29|j30|j31=>walk_at "e"
 case j25=>refine' LV.mdmkN ?l ?c ?k ?a ?i ?t ?b ?bn;(case a | i | l | c | k | t=>k_is);(case b=>intro _ _ _ _ _ _;repeat' first | exact LV.ec0 (⟨_,rfl,rfl⟩) | refine LV.ec1 λ _=>?_);(case bn=>intro _ _ _ _ _ _;refine LV.ec2 ?_;repeat' first | exact LV.ec0 (⟨_,rfl,rfl⟩) | refine LV.ec1 λ _=>?_)
 case j52|j53|j54|j55|j56|j57|j58|j59|j60|j61|j62|j63|j64|j65|j66|j67=>walk_at "z"
 case j70|j71|j72|j73|j77|j78|j79|j89=>walk_at "n"
 case j74=>refine⟨?_,?_,?_,?_,kf_of ?_ ?_ ?_ ?_ ?_ ?_ ?_⟩<;>walk_at "q"
 case j81|j86=>walk_at "x9"
 case j87|j91|j92|j93|j94|j95|j96|j97|j98|j99|j100|j101=>walk_at "q"
 case j90=>walk_at "ix"
 case j69|j76=>refine⟨?_,?_,?_,?_⟩<;>k_is
 case j88=>walk_at "me"
 case hb=>exact λ s v=>.of_eq rfl
#print axioms PySem.Challenge.cw_homeward_k32_takes_draw_back_holds
