import PyProof.Rows.All
import Wide.All
import OpenK.AllK
import Wide.FinOn
import Lean
import PyProof.EqAt
import PyProof.EqKinds
import PyProof.TupleCall
import PyProof.CompFree
import KE.KIsAll
import PyProof.AttrMiss
import PyProof.IsiH_list
import KE.KDictOf
import PyProof.ConsumeWalk
import PyProof.Rows.SetFrom
import PyProof.NeKinds
import PyProof.AutoListH
import PyProof.EnumMake
import PyProof.EnumFor
import PyProof.EnumStmt
import PyProof.LayNew
import PyProof.Rows.EnumRows
import KE.KDictList
import KE.KItemsList
import PyProof.ZipIter
import PyProof.Rows.ZipGen
import KE.KRevIter
import PySem.Challenge.RW_homeward_k82_whole_alike_by_keys
local macro_rules|`(⋯)=>`(by lia)|`(∅)=>`(by decide)
set_option linter.all false
set_option Elab.async false
def zA0:=@List.count_append
def zA1:=@Option.bind_eq_some_iff
def zA2:=@Nat.le_refl
def zA3:=@PySem.Heap.get?_push_of_some
def zA4:=@List.size_toArray
def zA5:=@List.getElem?_eq_some_iff
def zA6:=@List.length_append
def zA7:=@List.mem_cons_of_mem
def zA8:=@List.mem_singleton
def zA9:=@List.length_map
def zAa:=@Option.map_eq_some_iff
def zAb:=@List.mem_append
def zAc:=@PySem.Heap.lt_size
def zAd:=@of_decide_eq_true
def zAe:=@Nat.zero_add
def zAf:=@decide_eq_true
def zAg:=@List.append_nil
def zAh:=@List.mem_cons_self
def zAi:=@List.mem_cons
def zAj:=@List.mem_range
def zAk:=@Bool.and_eq_true_iff
def zAl:=@List.getElem?_append_left
def zAm:=@Nat.lt_of_lt_of_le
def zAn:=@Nat.le_trans
def zAo:=@PySem.Heap.get?_push_size
def zAp:=@List.length_cons
def zAq:=@List.getElem?_eq_getElem
def zAr:=@List.count_cons
def zAs:=@List.append_assoc
def zAt:=@Nat.ne_of_lt
def zAu:=@List.take_of_length_le
def zAv:=@List.lookup_cons
def zAw:=@List.mem_append_right
def zAx:=@Bool.false_ne_true
def zAy:=@decide_eq_false
def zAz:=@List.map_cons
def zB0:=@List.length_range
def zB1:=@List.mem_of_getElem?
def zB2:=@List.mem_filter
def zB3:=@Option.isSome_iff_exists
def zB4:=@List.forall_mem_cons
def zB5:=@List.getElem?_map
def zB6:=@of_decide_eq_false
def zB7:=@Array.length_toList
def zB8:=@List.nil_append
def zB9:=@Array.toList_append
def zBa:=@List.length_take
def zBb:=@Nat.zero_le
def zBc:=@List.mem_map
def zBd:=@List.cons_merge_cons
def zBe:=@List.getElem?_set_ne
def zBf:=@beq_self_eq_true
def zBg:=@List.nodup_append
def zBh:=@decide_eq_true_eq
def zBi:=@Nat.le_of_lt
def zBj:=@List.map_append
def zBk:=@List.not_mem_nil
def zBl:=@List.take_append_drop
def zBm:=@Bool.and_eq_true
def zBn:=@List.getElem?_append_right
def zBo:=@List.all_eq_true
def zBp:=@List.take_add_one
def zBq:=@Nat.le_add_right
def zBr:=@Array.perm_iff_toList_perm
def zBs:=@List.drop_of_length_le
def zBt:=@List.forall_mem_append
def zBu:=@List.pairwise_map
def zBv:=@List.replicate_succ
def zBw:=@Nat.not_lt_zero
def zBx:=@List.getElem?_eq_none
def zBy:=@Int.emod_lt_of_pos
def zBz:=@List.length_filterMap_le
def zC0:=@List.mem_filterMap
def zC1:=@beq_iff_eq
def zC2:=@List.cons_append
def zC3:=@Nat.le_of_not_lt
def zC4:=@List.mem_append_left
def zC5:=@Nat.le_of_lt_succ
def zC6:=@List.take_sublist
def zC7:=@List.mergeSort_perm
def zC8:=@List.find?_cons
def zC9:=@List.length_reverse
def zCa:=@beq_eq_false_iff_ne
def zCb:=@List.getElem?_set_self
def zCc:=@Nat.succ_le_succ
def zCd:=@decide_eq_decide
def zCe:=@List.length_drop
def zCf:=@Nat.lt_irrefl
def zCg:=@Nat.lt_of_le_of_lt
def zCh:=@PySem.Heap.size_push
def zCi:=@List.nodup_cons
def zCj:=@Nat.lt_of_succ_lt
def zCk:=@Int.emod_eq_of_lt
def zCl:=@List.sublist_append_left
def zCm:=@List.find?_range_eq_none
def zCn:=@Nat.sub_le
def zCo:=@List.flatten_cons
def zCp:=@beq_false_of_ne
def zCq:=@Int.emod_nonneg
def zCr:=@Nat.lt_succ_iff_lt_or_eq
def zCs:=@List.map_map
def zCt:=@List.filterMap_cons
def zCu:=@List.any_cons
def zCv:=@List.take_length
def zCw:=@Nat.mod_eq_of_lt
def zCx:=@List.findIdx?_cons
def zCy:=@Nat.min_eq_left
set_option genSizeOf false
set_option genInjectivity false
set_option maxRecDepth 100000
noncomputable section
structure PySem.W.Fast where
 (tw12341084084675938936 tw237447868314475661 tw12571516212133912135 tw17817110257934840867 tw6220821345264122772 tw1274764131717021390 tw3479583932676724446 tw8157048784813098649 tw10089280335413165026 tw13504426200440703232 tw12792021678717881344 tw10121006526639521869 tw443895030207953165 tw10979147339396932775 tw3774519767604577751 tw14315973167216594619 tw5271123207545946588 tw1868930465463491906 tw9317754095123373681 tw2095533468911030483 tw17375958797638493835 tw16764918229453536698 tw17088111595232779293 tw7950517189400527482 tw14079572515803392478 tw1552130915430702842 tw406262446905797711 tw2447352779012846081 tw9880532906008353222 tw4525187365577317390 tw4938465059730519851 tw11618894231554043189 tw15179570783070125317 tw2548073334545786419 tw14608151759197830556 tw4698216544271752520 tw14748898454977109773 tw4943664661965205119 tw583066135644648217 tw18190804236191373163
 tw14982282643422115922 tw703423598296238662 tw7214242353001648026 tw14167914431561336068 tw6924250800033751778 tw13589166616969295485 tw2430511691973466097 tw5832928643086381413 tw15807895431286094053 tw16259725165705271697 tw13456638179916817735 tw3559955194220542303 tw6692052679619119588 tw13747528829337210972 tw7843017414474362674 tw16115859766885996188 tw8186350472025047041 tw10121394735950877281 tw6887062733358540207 tw4846836134036246647 tw12692084759397331752 tw5772989531237464298 tw4126826305054589946 tw1952913199720124783 tw3605280434179178847 tw2290207171844298113 tw6376938702311185514 tw12696590449367503934 tw3882831577333936582 tw15917464236849971188 tw1394755899664194629 tw14230355243876381135 tw1342901364468814043 tw17667789580297063615 tw6823928722836925060 tw3684480100150102030 tw8996214020115997542 tw18209197508927173900 tw18399798671575813144 tw16085190538028103780
 tw4177654198518082195 tw15051867003792640389 tw1424331964387438289 tw10246501375431046899 tw11406987109704748191 tw10019104422045209310 tw16495259516422856563 tw5722262087305837022 tw10645665633508966022 tw17584405796142027148 tw6819376422389062959 tw1111449923555425649 tw8333700059635044645 tw2960711766850128600 tw16565065500034338663 tw4590469593445497969 tw13740625616211702670 tw3710788789234622414 tw4846799110233749445 tw16252819756634113107 tw10280292201246687107 tw5850611934410062129 tw16049054876004393727 tw15036725703111321961 tw17557362688083610395 tw2938311695633063676 tw2884054583260344352 tw4210427452874398266 tw6952169595753472890 tw18035523951667127610 tw7893264487599000307 tw15630572308593699073 tw13112600255256160924 tw9325651953603556574 tw13848482173497252025 tw10579875177041694230 tw10741665229120790140 tw7119764437402687516 tw5479057897339186679 tw12106395735867335679
 tw5989687444114686889 tw10370717341244735118 tw18338437716717217036 tw17243880102660101402 tw15049441037889960997 tw14221609063202204913 tw2835611288460032687 tw12585914924210017788 tw4064250218307797128 tw9720072938600329632 tw5775750651323074574 tw14507783853231650034 tw10493780845630108628 tw2201478135048225818 tw3800342416824244498 tw4687224605520792718 tw13796480512588024486 tw3134647924066097931 tw3204063798442560133 tw15375594820036009358 tw4289457191747904506 tw9863102242479714408 tw9462684829511213290 tw4030863415741831276 tw15366152178076436281 tw10124239478154818970 tw3147276063303031171 tw17738281851417117385 tw10215313342894079535 tw18217949204610010602 tw8218995062625326906 tw8839912353230518050 tw7852668205216088011 tw5201546928651919031 tw5416136857992821063 tw15262971369257147654 tw11610314621008043452 tw11330637943627866742 tw11024533499456799177 tw15563335368530728367
 tw9644261894285563377 tw10754064965255042962 tw10227161395200527840 tw17233203524731840057 tw8710997193511086214 tw8390790343151940022 tw6875359619296715400 tw14582628477469234808 tw1297414255013684472 tw9704716831851768944 tw18016048710040111867 tw17521301421784117093 tw4586602159431352909 tw4839018624091653363 tw236365396997116224 tw16385205588928419013 tw15653270291581308197 tw13138755316455669456 tw13007405323528129490 tw870716704746714308 tw14665878454007683005 tw17053496193056486825 tw6956723617284423998 tw7975870923700757319 tw5005382629195084517 tw10489772183916991198 tw7913017982785540828 tw12069277034291923895 tw5218814591682542337 tw15286515368723993953 tw13697167755320674240 tw8426106976066615085 tw17569296130371007370 tw5864799944822976741 tw12155143193808350031 tw17214940360800119042 tw9725728320894458048 tw9049042128565081266 tw16184978828957129198 tw3145741213975272613
 tw2405333780768890776 tw16980208168138488013 tw13337976187968234415 tw9725647779325303433 tw8460288922127131016 tw3912901353140252312 tw17732301905803173951 tw13633268848968692368 tw15863574923541886502 tw12847258603564435901 tw8671897666988235760 tw4225055099332850703 tw11509498295365900347 tw12010771176843198905 tw9690988825008418286 tw9090706249546996078 tw8508956508506170103 tw6925166226452382018 tw5843657767396444859 tw565986584494393729 tw5559036228568278403 tw4485694838037511511 tw4195800944700608901 tw2530951972269572449 tw17613049062843138740 tw17527210134002152157 tw17144749201656870397 tw16475211229143404301 tw16269716836727717038 tw160194996544388008 tw15683048299751470719 tw14397431909841644858 tw12997156098334125908 tw12174786504333306263 tw10302603011473819875 tw7081812935587753559 tw10537998233037962972:Nat)
abbrev N'(x:PySem.Str):Prop:=(x==("__debug__" : PySem.Str))=false
abbrev γ:=PySem.Addr
abbrev V':=PySem.Value
abbrev δ:=PySem.Shared
abbrev ε:=PySem.FuncData
open PySem renaming wpAny_bind→E',wpAny_pure→J',starEach→Kb,sizeLine→Kc,compareOp→Kd,foldedSetIterable→Ke,wpAny_holding→Kf,bootBuiltins→Kg,wpAny_truthy_bool→Kh,attributeBase→Ki,sizeLine_eq→Kj,mainGlobals→Kk,sysModules→Kl,keywordEach→Km,wpAny_mono→Kn,wpAny_rule→Ko,wpAny_passesOwn→Kq,call_meets→Kr,assignEach→Ks,binaryOp→Kt,wpAny→Ku,model→Kv,Program→Kw,Around→Kx,World→Ky,Expr→Kz,Stmt→K4
open PyProof.Rows renaming wpS_bind→K5,wpS_pure→K6,pendingOf→K7,failedOf→K8,wpS_modify→K9,arrOf→La,Keyed→Lb,SortSt→Lc,kindOf→Ld,setArr→Lf,setPending→Lg
open _root_.List renaming range→Lh,replicate→Li,merge→Lj,length→Ll,length_filter_le→Lm,mem_of_mem_take→Ln,all_cons→Lp,perm_ext_iff_of_nodup→Lq,lookup→Lr,forIn_cons→Ls,drop_eq_getElem_cons→Lu,count_nil→Lv,filter_cons_of_neg→Lw,filter_cons_of_pos→Lx,pairwise_mergeSort→Ly,filter_congr→Lz,drop_eq_nil_of_le→L5,map_take→L6,drop_length→L7,eraseIdxIfInBounds_toArray→L8,eraseIdx_eq_take_drop_succ→L9,foldl→Ma,length_nil→Mb,dropLast_concat→Mc,length_zipWith→Me,mem_map_of_mem→Mf,drop_zero→Mg,forIn_nil→Mh,filter_append→Mi,pairwise_iff_getElem→Mj,nodup_range→Ml,filter_cons→Mm,zipIdx_cons→Mn,of_mem_zip→Mo,length_set→Mp,range_succ→Mq,filter_nil→Mr,length_singleton→Ms,set_append_right→Mt,drop_drop→Mu,take_zero→Mv,set_append_left→Mw,map_drop→Mx,take_nil→Mz,map_nil→M3,getD→M4,forIn_toArray→M5,contains_cons→M6,set_set→M7,filterMap_map→M8,getElem_range→M9,getElem_take→M',getElem_drop→Na,getElem_inj→Nb,countP_cons→Nc,any_eq_true→Nd,merge_right→Nf,map_reverse→Ng,foldl_cons→Nh,zipIdx_nil→Ni,countP_map→Nj,nodup_nil→Nk,nil_merge→Nl,take_take→Nm,mapM_cons→Nn,filterMap→No,take_add→Np,any_map→Nq,all_map→Nr,zipWith→Nt
open PySem.Value renaming ref→Nu,int→Nv,none→Nw,bool→Nx,str→Ny,float→Nz,type→N0,isStrOf→N1,isInt→N2,bytes→N3
open And renaming imp_right→N4
open Option.some renaming inj→N5
open PySem.PassesOwn renaming leaving→N6
open PySem.W renaming Frag→N7,kitOne→N8
open PySem.F renaming plainAttrs_list→N9,slot_list_append→Oa,type_list_append→Ob,slot_enumerate_next→Oc,slot_list_index→Oe,slot_zip_next→Of,slot_list_pop→Og,type_list_index→Oh,slot_list_remove→Oi,args_enumerate_next_1→Oj,slot_dict_get→Ol,entry_enumerate_next→Om,slot_list_count→On,args_zip_next_1→Oo,entry_zip_next→Op,type_list_pop→Oq,type_list_remove→Os,args_dict_get_3→Ot,entry_list_pop→Ou,entry_dict_get→Ov,slot_int_rmul→Ow
open PySem.NameKind renaming free→Ox,cell→Oy
open False renaming elim→Oz
open Or renaming inr→O2,inl→O3,imp→O4
namespace L2
open PySem PySem.Spec PyProof.Rows
variable{M:Model}{N:List Str}{base:Heap}{body:List K4}{ch fp:List γ}{i n t':Nat}{kw:List (Str×V')}{mg:Str->Option V'}{op:CmpOp}{pl:Sem Bool}{us:List V'}
abbrev Key:=Sum Int Str
noncomputable def Fq:Key->V'->Bool|.inl k,v=>N2 k v|.inr x,v=>N1 x v
noncomputable def keyH(w:Ky):Key->Int|.inl k=>hashInt k|.inr x=>hashStr w x
theorem qe1:∀{k:Key}{v:V'},Fq k v=true->(∃i t,k=Sum.inl i/\v=Nv i t)∨(∃x t,k=Sum.inr x/\v=Ny x t)|.inl i,v,h=>by obtain⟨t,e⟩:=Value.isInt_shape (k:=i) (v:=v) h;exact .inl ⟨i,t,rfl,e⟩|.inr x,v,h=>by obtain⟨t,e⟩:=Value.isStrOf_shape (x:=x) (v:=v) h;exact .inr ⟨x,t,rfl,e⟩
theorem qau3(i:Int)(t:Tok):Fq (.inl i) (.int i t)=true:=by simp[Fq,N2]
theorem qau2(x:Str)(t:Tok):Fq (.inr x) (.str x t)=true:=by simp[Fq,N1]
theorem qbc9(a b:Int):decide ((Sum.inl a:Key)=Sum.inl b)=(a==b):=by by_cases e:a=b;{subst e;simp};have h:¬(Sum.inl a:Key)=Sum.inl b:=λq=>e (Sum.inl.inj q);rw[zAy h];exact(zCa.mpr e).symm
theorem qbc6(a b:Str):decide ((Sum.inr a:Key)=Sum.inr b)=decide (a=b):=by by_cases e:a=b;{subst e;simp};have h:¬(Sum.inr a:Key)=Sum.inr b:=λq=>e (Sum.inr.inj q);rw[zAy h,zAy e]
theorem qbc8(a:Int)(b:Str):decide ((Sum.inl a:Key)=Sum.inr b)=false:=zAy (λq=>nomatch q)
theorem qbc7(a:Str)(b:Int):decide ((Sum.inr a:Key)=Sum.inl b)=false:=zAy (λq=>nomatch q)
def qg6(prog:Kw)(w:Ky):PySem.KeyKind prog w Key where
 is:=Fq
 hash:=keyH w
 inj:=λv a b g f=>by
  rcases qe1 g with⟨i,t,rfl,rfl⟩|⟨x,t,rfl,rfl⟩
  .rcases qe1 f with⟨j,u,rfl,e⟩|⟨y,u,rfl,e⟩
   .injection e with c _;rw[c]
   exact nomatch e
  rcases qe1 f with⟨j,u,rfl,e⟩|⟨y,u,rfl,e⟩
  .exact nomatch e
  injection e with c _;rw[c]
 byValue:=λk v h=>by
  rcases qe1 h with⟨i,t,rfl,rfl⟩|⟨x,t,rfl,rfl⟩<;>rfl
 pyHash:=λd h=>by
  rcases qe1 d with⟨i,t,rfl,rfl⟩|⟨x,t,rfl,rfl⟩
  .exact wpAny_pyHash_int h
  exact wpAny_pyHash_str h
 eqBool:=λl d h=>by
  rcases qe1 l with⟨i,t,rfl,rfl⟩|⟨x,t,rfl,rfl⟩
  .rcases qe1 d with⟨j,u,rfl,rfl⟩|⟨y,u,rfl,rfl⟩
   .rw[qbc9] at h;exact wpAny_eqBool_int h
   rw[qbc8] at h;exact SeqAt.EqAt.int_str i t y u _ _ _ _ h
  rcases qe1 d with⟨j,u,rfl,rfl⟩|⟨y,u,rfl,rfl⟩
  .rw[qbc7] at h;exact SeqAt.EqAt.str_int x t j u _ _ _ _ h
  rw[qbc6] at h;exact wpAny_eqBool_str h
 «strs»:=λk x t v h=>by
  rcases qe1 h with⟨i,u,rfl,e⟩|⟨y,u,rfl,e⟩
  .exact nomatch e
  injection e with c _
  subst c;cases v<;>rfl
theorem qad4(prog:Kw)(w:Ky)(i:Int)(t:Tok):(qg6 prog w).is (.inl i) (.int i t)=true:=qau3 i t
theorem qad3(prog:Kw)(w:Ky)(x:Str)(t:Tok):(qg6 prog w).is (.inr x) (.str x t)=true:=qau2 x t
inductive V where
 |non|bl (b:Bool)|int (i:Int)|str (x:Str)|byt (b:Array UInt8)|flt (b:UInt64)|ref (a:γ)|ty (n:String)
 deriving DecidableEq
def Pa:V->V'->Prop|.non,u=>u=Nw|.bl b,u=>u=Nx b|.int i,u=>∃t,u=Nv i t|.str x,u=>∃t,u=Ny x t|.byt b,u=>∃t,u=N3 b t|.flt b,u=>∃t,u=Nz b t|.ref a,u=>u=Nu a|.ty n,u=>u=N0 n
abbrev Pb:List V->List V'->Prop:=Paired Pa
theorem Pb.length(r:Pb xs us):xs.length=us.length:=Paired.length r
theorem Pb.get:∀{xs:List V}{us:List V'}{i:Nat}{x:V},Pb xs us->xs[i]?=some x->∃u,us[i]?=some u/\Pa x u|_,_,_,_,.nil,e=>by simp at e|_,_,0,_,.cons r _,e=>by simp at e;subst e;exact⟨_,rfl,r⟩|_,_,i+1,x,.cons _ t,e=>by obtain⟨u,a,b⟩:=Pb.get (i:=i) (x:=x) t (by simpa using e);exact⟨u,by simpa using a,b⟩
theorem Pb.set{x:V}{u:V'}(r:Pa x u):∀{xs:List V}{us:List V'}(i:Nat),Pb xs us->Pb (xs.set i x) (us.set i u)|_,_,_,.nil=>.nil|_,_,0,.cons _ t=>.cons r t|_,_,i+1,.cons q t=>.cons q (Pb.set r i t)
theorem Pb.append(h:Pb xs us)(s:Pb ys a):Pb (xs++ys) (us++a):=by induction h with|nil=>exact s|cons r t i=>exact .cons r i
theorem Pb.take:∀{xs:List V}{us:List V'}(n:Nat),Pb xs us->Pb (xs.take n) (us.take n)|_,_,0,_=>.nil|_,_,_+1,.nil=>.nil|_,_,n+1,.cons r t=>.cons r (Pb.take n t)
theorem Pb.drop:∀{xs:List V}{us:List V'}(n:Nat),Pb xs us->Pb (xs.drop n) (us.drop n)|_,_,0,r=>r|_,_,_+1,.nil=>.nil|_,_,n+1,.cons _ t=>Pb.drop n t
def RelO:Option V->Option V'->Prop|some v,some u=>Pa v u|none,none=>True|_,_=>False
def KV{a:Type}:List (a×V)->List (a×V')->Prop:=Paired λ(p:a×V)(q:a×V')=>p.1=q.1/\Pa p.2 q.2
noncomputable def kV:Key->V|.inl i=>.int i|.inr x=>.str x
inductive HO where
 |l (xs:List V)
 |q (xs:List V)
 |dK (kvs:List (Key×V))|dT (kvs:List (List Key×V))
 |set (S:Int->Bool) (n:Nat)
 |ins (C dx:γ) (fs:List (Str×V))
 |own (x:γ)
 |xd (fs:List (Str×V))
 |met (f x:γ)
 |rng (lo hi:Int)
 |frz (o:Obj) (u:HO)
 |tbl (ps:Array V')
 |ext (φ:Heap->Prop)
noncomputable abbrev Hp:=γ->Option HO
noncomputable def upd(H:Hp)(a:γ)(o:HO):Hp:=λb=>if b=a then some o else H b
theorem qc5:upd H a o a=some o:=by unfold upd;rw[if_pos rfl]
theorem qd1(h:b≠a):upd H a o b=H b:=by unfold upd;rw[if_neg h]
theorem qaM0:upd (upd H a o) a u=upd H a u:=by funext b;unfold upd;split<;>rfl
theorem ne_of{H:Hp}(h:H a=some o)(h':H b=some u)(d:o≠u):a≠b:=by intro e;subst e;rw[h] at h';exact d (N5 h')
theorem qf4{H:Hp}(h:H a=some o)(h':H b=none):a≠b:=by intro e;subst e;rw[h] at h';cases h'
section
variable(P:Kw)(w:Ky)
def ObjOk(H:Hp)(h:Heap)(a:γ):HO->Prop
 |.l xs=>xs.length<=Kc/\∃(its:List V')(n:Nat),Pb xs its/\h.get? a=some {cls:=.type "list",data:=.seq its.toArray n}|.q xs=>xs.length<=Kc/\∃its:List V',Pb xs its/\IsTup h a its.toArray|.dK kvs=>kvs.length<=Kc/\(a==Kl)=false/\∃vs,KV kvs vs/\h.DictOf (qg6 P w) a vs|.dT kvs=>kvs.length<=Kc/\(a==Kl)=false/\∃xs:List (List Key×γ×V'),
  Paired (λ(p:List Key×V)(q:List Key×γ×V')=>p.1=q.1/\H q.2.1=some (.q (p.1.map kV))/\Pa p.2 q.2.2) kvs xs/\∃o es b,h.get? a=some o/\o.ExactDict/\o.data=.dict es b/\es.toList=xs.map (entryOfKey (tupleKind (qg6 P w)))/\(xs.map (·.1)).Nodup
 |.set S n=>h.SetOf (intKind P w) a S n|.ins C dx fs=>H dx=some (.own a)/\fs.length<=1000/\dx≠a/\h.get? a=some (W.instObj C dx)/\∃mA,h.Ns1 dx mA/\(∀f,RelO (fs.lookup f) (mA f))/\PySem.Within mA (fs.map (·.1))|.own _=>∃o,h.get? a=some o|.xd fs=>∃mA,h.Ns1 a mA/\∀f,RelO (fs.lookup f) (mA f)|.rng lo hi=>∃t u v,h.get? a=some {cls:=.type "range",data:=.fields #[.int lo t,.int hi u,.int 1 v]}|.frz o u=>h.get? a=some o/\ObjOk H h a u|.tbl ps=>h.get? a=some {cls:=.none,data:=.fields ps}|.met f x=>h.get? a=some (W.methodObj (.ref f) (.ref x))|.ext φ=>φ h/\(∃o,h.get? a=some o)/\∀h1 h2:Heap,φ h1->(∀o,h1.get? a=some o->h2.get? a=some o)->φ h2
def HOk(H:Hp)(h:Heap):Prop:=∀a o,H a=some o->ObjOk P w H h a o
end
section
variable{P:Kw}{w:Ky}{H H':Hp}{h h':Heap}{a:γ}{o:HO}
theorem ObjOk.lt(x:ObjOk P w H h a o):a<h.objs.size:=by cases o with|l c=>obtain⟨_,_,_,_,e⟩:=x;exact zAc e|q c=>obtain⟨_,_,_,p⟩:=x;exact p.lt|dK b=>obtain⟨_,_,_,_,o,_,_,e,_⟩:=x;exact zAc e|dT b=>obtain⟨_,_,_,_,o,_,_,e,_⟩:=x;exact zAc e|set S n=>obtain⟨o,_,_,_,e,_⟩:=x;exact zAc e|ins C g d=>obtain⟨_,_,_,e,_⟩:=x;exact zAc e|own y=>obtain⟨_,e⟩:=x;exact zAc e|xd d=>obtain⟨_,⟨_,_,_,e,_⟩,_⟩:=x;exact zAc e|rng i j=>obtain⟨_,_,_,e⟩:=x;exact zAc e|frz k u=>obtain⟨e,_⟩:=x;exact zAc e|tbl l=>exact zAc (show h.get? a=some _ from x)|met f y=>exact zAc (show h.get? a=some _ from x)|ext φ=>obtain⟨_,⟨_,e⟩,_⟩:=x;exact zAc e
theorem Paired.mapP{α β:Type}{F G:α->β->Prop}{l:List α}{m:List β}(h:Paired F l m)(f:∀a b,F a b->G a b):Paired G l m:=by induction h with|nil=>exact .nil|cons r t i=>exact .cons (f _ _ r) i
theorem ObjOk.stay(x:ObjOk P w H h a o)(k:∀b u,(b=a∨H b=some (.own a))->h.get? b=some u->h'.get? b=some u)(E:∀b,H b=some (.own a)->H' b=some (.own a))(F:∀b xs,H b=some (.q xs)->H' b=some (.q xs)):ObjOk P w H' h' a o:=by induction o with|l xs=>obtain⟨z,l,n,r,e⟩:=x;exact⟨z,l,n,r,k _ _ (.inl rfl) e⟩|q xs=>obtain⟨z,l,r,g,e,c⟩:=x;exact⟨z,l,r,g,k _ _ (.inl rfl) e,c⟩|dK m=>obtain⟨z,y,G,r,g,i,j,e,c⟩:=x;exact⟨z,y,G,r,g,i,j,k _ _ (.inl rfl) e,c⟩|dT m=>obtain⟨z,y,xs,r,g,i,j,e,c⟩:=x;exact⟨z,y,xs,Paired.mapP r λp q z=>⟨z.1,F _ _ z.2.1,z.2.2⟩,g,i,j,k _ _ (.inl rfl) e,c⟩|set S n=>obtain⟨g,i,j,t,e,c⟩:=x;exact⟨g,i,j,t,k _ _ (.inl rfl) e,c⟩|ins C L I=>obtain⟨d,z,J,e,s,⟨A,i,j,e2,c⟩,r⟩:=x;exact⟨E _ d,z,J,k _ _ (.inl rfl) e,s,⟨A,i,j,k _ _ (.inr d) e2,c⟩,r⟩|own y=>obtain⟨g,e⟩:=x;exact⟨g,k _ _ (.inl rfl) e⟩|xd I=>obtain⟨s,⟨A,i,j,e,c⟩,r⟩:=x;exact⟨s,⟨A,i,j,k _ _ (.inl rfl) e,c⟩,r⟩|rng M N=>obtain⟨t,u,v,e⟩:=x;exact⟨t,u,v,k _ _ (.inl rfl) e⟩|frz g u K=>obtain⟨e,q⟩:=x;exact⟨k _ _ (.inl rfl) e,K q⟩|tbl B=>have e:h.get? a=some {cls:=.none,data:=.fields B}:=x;show h'.get? a=some {cls:=.none,data:=.fields B};exact k a _ (.inl rfl) e|met f y=>have e:h.get? a=some (W.methodObj (.ref f) (.ref y)):=x;show h'.get? a=some (W.methodObj (.ref f) (.ref y));exact k a _ (.inl rfl) e|ext φ=>obtain⟨p,⟨o,e⟩,D⟩:=x;exact⟨D _ _ p λo q=>k _ _ (.inl rfl) q,⟨o,k _ _ (.inl rfl) e⟩,D⟩
theorem HOk.lt(x:HOk P w H h)(e:H a=some o):a<h.objs.size:=(x a o e).lt
theorem HOk.fresh(x:HOk P w H h)(e:h.objs.size<=a):H a=none:=by cases q:H a with|none=>rfl|some u=>exact absurd (zAm (x.lt q) e) (zCf _)
theorem HOk.kept(x:HOk P w H h)(k:∀b u,h.get? b=some u->h'.get? b=some u):HOk P w H h':=λa o e=>
 (x a o e).stay (λb u _ q=>k b u q) (λ_ q=>q) λ_ _ q=>q
theorem HOk.laid(x:HOk P w H h)(k:∀b u,h.get? b=some u->h'.get? b=some u)(i:h.objs.size<=a)(d:ObjOk P w (upd H a o) h' a o):HOk P w (upd H a o) h':=λb u e=>by
 have f:=x.fresh i;by_cases g:b=a
 .subst g;rw[qc5] at e;cases e;exact d
 rw[qd1 g] at e;exact(x b u e).stay (λc v _ q=>k c v q) (λc q=>by rw[qd1 (qf4 q f)];exact q) λc j q=>by rw[qd1 (qf4 q f)];exact q
end
def Rd(H:Hp)(a:γ)(u:HO):Prop:=H a=some u∨∃o,H a=some (.frz o u)
theorem Rd.ok(r:Rd H a u)(x:HOk P w H h):ObjOk P w H h a u:=by rcases r with r|⟨o,r⟩;{exact x a u r};obtain⟨_,q⟩:=x a _ r;exact q
def Mut:Option HO->Prop|some (.l _)=>True|some (.dK _)=>True|some (.dT _)=>True|some (.set _ _)=>True|some (.ins _ _ _)=>True|some (.ext _)=>True|_=>False
section
variable{P:Kw}{w:Ky}{H:Hp}{h h':Heap}{x e:γ}{o':HO}
theorem HOk.write(o:HOk P w H h)(d:Mut (H x))(m:e=x∨H e=some (.own x))(k:∀b u,b≠e->h.get? b=some u->h'.get? b=some u)(j:∃u,h'.get? e=some u)(l:ObjOk P w (upd H x o') h' x o'):HOk P w (upd H x o') h':=λb u q=>by
 have nown:∀c y,H c=some (.own y)->c≠x:=λc y r z=>by subst z;rw[r] at d;exact d
 have ntup:∀c f,H c=some (.q f)->c≠x:=λc f r z=>by subst z;rw[r] at d;exact d
 by_cases g:b=x
 .subst g;rw[qc5] at q;cases q;exact l
 rw[qd1 g] at q;by_cases a:b=e
 .have n:H b=some (.own x):=by
   rcases m with z|z
   .exact absurd (a.trans z) g
   rw[a];exact z
  rw[q] at n;cases n;obtain⟨v,p⟩:=j;exact⟨v,by rw[a];exact p⟩
 refine(o b u q).stay (λc v i r=>k c v ?_ r) (λc r=>by rw[qd1 (nown c b r)];exact r) λc f r=>by rw[qd1 (ntup c f r)];exact r
 rcases i with rfl|i
 .exact a
 rintro rfl;rcases m with z|z
 .exact nown c b i z
 rw[i] at z;cases z;exact g rfl
end
structure Un(fs ex:List γ)(H H':Hp)(h h':Heap):Prop where
 keep:∀b o,h.get? b=some o->H b=none->b∉fs->b∉ex->h'.get? b=some o
 slot:∀b o,h.get? b=some o->H b=none->b∈fs->b∉ex->∃sl,h'.get? b=some {o with slots:=sl}
 free:∀b o,h.get? b=some o->H b=none->b∉ex->H' b=none
 there:∀b o,h.get? b=some o->b∉ex->∃o',h'.get? b=some o'
 tups:∀b xs,H b=some (.q xs)->H' b=some (.q xs)
 frzs:∀b o u,H b=some (.frz o u)->H' b=some (.frz o u)
 tbls:∀b ps,H b=some (.tbl ps)->∃more,H' b=some (.tbl (ps++more))
section
variable{fs s:List γ}{H v w:Hp}{h t y h':Heap}{a x e:γ}{o:HO}
theorem Un.any(u:Un fs s H v h t)(q:h.get? b=some ob)(n:H b=none)(a:b∉s):∃d,t.get? b=some {ob with slots:=d}:=by by_cases c:b∈fs;{exact u.slot b ob q n c a};exact⟨ob.slots,u.keep b ob q n c a⟩
theorem Un.trans(a:Un fs s H v h t)(b:Un fs s v w t y):Un fs s H w h y where
 keep:=λc d q n g e=>b.keep c d (a.keep c d q n g e) (a.free c d q n e) g e
 slot:=λc d q n g e=>by
  obtain⟨p,f⟩:=a.slot c d q n g e;obtain⟨j,e2⟩:=b.slot c _ f (a.free c d q n e) g e;exact⟨j,e2⟩
 free:=λc d q n e=>by
  obtain⟨k,f⟩:=a.there c d q e;exact b.free c k f (a.free c d q n e) e
 there:=λc d q e=>by
  obtain⟨k,f⟩:=a.there c d q e;exact b.there c k f e
 tups:=λc i q=>b.tups c i (a.tups c i q)
 frzs:=λc d i q=>b.frzs c d i (a.frzs c d i q)
 tbls:=λc l q=>by
  obtain⟨m,f⟩:=a.tbls c l q;obtain⟨o,e2⟩:=b.tbls c _ f;exact⟨m++o,by rw[e2,Array.append_assoc]⟩
theorem Un.kept(k:∀b u,h.get? b=some u->h'.get? b=some u):Un fs s H H h h':=⟨λb a q _ _ _=>k b a q,λb a q _ _ _=>⟨a.slots,k b a q⟩,λ_ _ _ n _=>n,λb a q _=>⟨a,k b a q⟩,λ_ _ q=>q,λ_ _ _ q=>q,λ_ c q=>⟨#[],by rw[q];simp⟩⟩
theorem Un.refl:Un fs s H H h h:=Un.kept λ_ _ q=>q
theorem Un.laid(k:∀b u,h.get? b=some u->h'.get? b=some u)(d:h.objs.size<=a)(c:H a=none):Un fs s H (upd H a o) h h' where
 keep:=λb u q _ _ _=>k b u q
 slot:=λb u q _ _ _=>⟨u.slots,k b u q⟩
 free:=λb u q n _=>by rw[qd1 (zAt (zAm (zAc q) d))];exact n
 there:=λb u q _=>⟨u,k b u q⟩
 tups:=λb e q=>by rw[qd1 (qf4 q c)];exact q
 frzs:=λb u e q=>by rw[qd1 (qf4 q c)];exact q
 tbls:=λb f q=>⟨#[],by rw[qd1 (qf4 q c),q];simp⟩
theorem Un.write(c:Mut (H x))(j:e=x∨H e=some (.own x))(k:∀b u,b≠e->h.get? b=some u->h'.get? b=some u)(d:∃u,h'.get? e=some u):Un fs s H (upd H x o) h h':=by
 have g:∀b,H b=none->b≠x:=λb n z=>by subst z;rw[n] at c;exact c
 have i:∀b,H b=none->b≠e:=λb n z=>by subst z;rcases j with r|r;{exact g b n r};rw[n] at r;cases r
 have f:∀b u,H b=some u->¬Mut (some u)->b≠x:=λb u q l z=>by subst z;rw[q] at c;exact l c
 refine⟨λb u q n _ _=>k b u (i b n) q,λb u q n _ _=>⟨u.slots,k b u (i b n) q⟩,λb u q n _=>by rw[qd1 (g b n)];exact n,λb u q _=>?_,
  λb m q=>by rw[qd1 (f b _ q λz=>z)];exact q,λb u m q=>by rw[qd1 (f b _ q λz=>z)];exact q,λb p q=>⟨#[],by rw[qd1 (f b _ q λz=>z),q];simp⟩⟩
 by_cases a:b=e;{subst a;exact d};exact⟨u,k b u a q⟩
end
noncomputable def trk(h:Heap)(H:Hp):List γ:=(Lh h.objs.size).filter λa=>(H a).isSome
def F4(h:Heap)(H:Hp):Heap:=W.hideAll h (trk h H)
theorem qau5(h:Heap)(H:Hp):(F4 h H).objs.size=h.objs.size:=W.hideAll_size _ _
theorem qaI8(e:h.get? b=some o)(n:H b=none):(F4 h H).get? b=some o:=W.hideAll_get _ e λa=>by
 have q:(H b).isSome=true:=(zB2.mp a).2;rw[n] at q;simp at q
theorem qaR3(e:(F4 h H).get? b=some o):h.get? b=some o/\H b=none:=by have a:h.get? b=some o:=W.of_hideAll (trk h H) e;refine⟨a,?_⟩;cases q:H b with|none=>rfl|some x=>have c:b∈trk h H:=zB2.mpr ⟨zAj.mpr (zAc a),by simp[q]⟩;have z:(F4 h H).get? b=none:=W.hideAll_none (trk h H) c;rw[z] at e;cases e
structure Mod(K:N7)(mg:Str->Option V')(base:Heap):Prop where
 kin:K.In base
 glob:base.Ns Kk mg
 blt:∃mb,base.Ns builtinsNs mb/\∀x:Str,x ≠ "__name__" -> mb x=Kg x
 nolimit:base.NoLimit
structure Cx where
 prog:Kw
 w:Ky
 K:N7
 mg:Str->Option V'
 base:Heap
 A:Kx
 N:List Str
 s₀:δ
 H₀:Hp
 env:Env
 outer:List Env
 stack:List Env
 ex:List γ
 fn:Str->Bool
 calm:Bool
 pn:List (γ×Obj)
 xe:V'->δ->Prop
noncomputable def frs(l:List Env):List γ:=l.filterMap (·.frame)
abbrev Cx.fs(X:Cx):List γ:=frs X.outer
def Vis(sc:Scope)(x:Str):Prop:=sc.names.lookup x=some .local∨sc.names.lookup x=some .cell∨sc.names.lookup x=some .free
def Loc(sc:Scope)(x:Str):Prop:=sc.names.lookup x=some .local∨sc.names.lookup x=some .cell
def Look(env:Env)(h:Heap)(m:Str->Option V')(x:Str)(u:V'):Prop:=(env.kindOf x=some .local/\m x=some u)∨((env.kindOf x=some .cell∨env.kindOf x=some .free)/\∃c,env.cells.lookup x=some c/\h.IsCell c (some u))
structure Cx.Ok(X:Cx):Prop where
 mod:Mod X.K X.mg X.base
 kind:X.env.scope.kind=.function
 glob:X.env.globals=Kk
 blt:X.env.builtins=builtinsNs
 above:X.s₀.heap.objs.size<=X.env.locals
 inj:∀x y c,X.env.cells.lookup x=some c->X.env.cells.lookup y=some c->x=y
 has:∀x,(X.env.kindOf x=some .cell∨X.env.kindOf x=some .free)->∃c,X.env.cells.lookup x=some c
 cab:∀x c,X.fn x=true->X.env.cells.lookup x=some c->X.s₀.heap.objs.size<=c
 hd:X.calm=true->X.A.handled=none
 frames:X.A.frames=some X.stack
 stk:X.stack=X.outer∨(X.stack=X.env::X.outer/\X.env.frame=some X.env.locals)
 exf:∀b∈X.ex,b≠X.env.locals/\∀x c,X.env.cells.lookup x=some c->c≠b
 bs:∀b o,X.base.get? b=some o->X.s₀.heap.get? b=some o/\X.H₀ b=none
 bsz:X.base.objs.size<=X.s₀.heap.objs.size
 noex:∀b o,X.base.get? b=some o->b∉X.ex
 exfs:∀b∈X.ex,b∉X.fs
 funs:X.s₀.heap.FunFrames X.base X.outer
 frf:∀b∈X.fs,X.H₀ b=none
structure Pd(X:Cx)(D8:List (γ×Obj))(a:List (Option V))(H:Hp)(s:δ):Prop where
 ok:X.Ok
 os:s.os=X.s₀.os
 bare:AllBare s.gens
 base:Un X.fs X.ex X.H₀ H X.s₀.heap s.heap
 loc:∃m,s.heap.Ns X.env.locals m/\∀(i:Nat)(x:Str)(v:V),X.N[i]?=some x->a[i]?=some (some v)->Vis X.env.scope x->∃u,Pa v u/\Look X.env s.heap m x u
 cell:∀x c,X.env.cells.lookup x=some c->∃v,s.heap.IsCell c v
 free:H X.env.locals=none
 freeC:∀x c,X.env.cells.lookup x=some c->H c=none
 pin:∀p∈X.pn++D8,s.heap.get? p.1=some p.2/\H p.1=none/\p.1≠X.env.locals/\p.1∉X.fs/\∀v,p.2.data≠.cell v
 hok:HOk X.prog X.w H s.heap
 len:a.length=X.N.length
section
variable{X:Cx}{D8:List (γ×Obj)}{σ:List (Option V)}{H H':Hp}{s:δ}{h':Heap}
theorem Cx.Ok.nofr(a:X.Ok)(e:X.base.get? b=some o):b∉X.fs:=λc=>by
 have:=(a.funs.mem c).1
 rw[e] at this;cases this
theorem Pd.bs(I:Pd X D8 σ H s):∀b o,X.base.get? b=some o->s.heap.get? b=some o/\H b=none:=λb o e=>
 ⟨I.base.keep b o (I.ok.bs b o e).1 (I.ok.bs b o e).2 (I.ok.nofr e) (I.ok.noex b o e),I.base.free b o (I.ok.bs b o e).1 (I.ok.bs b o e).2 (I.ok.noex b o e)⟩
theorem Pd.bk(I:Pd X D8 σ H s):∀b o,X.base.get? b=some o->s.heap.get? b=some o:=λb o e=>(I.bs b o e).1
theorem Pd.mod(I:Pd X D8 σ H s):Mod X.K X.mg X.base:=I.ok.mod
theorem Pd.kIn(I:Pd X D8 σ H s):X.K.In s.heap:=I.ok.mod.kin.keeps I.bk
theorem Pd.lt(I:Pd X D8 σ H s):X.env.locals<s.heap.objs.size:=let ⟨_,hn,_⟩:=I.loc;hn.lt
theorem Pd.sz(I:Pd X D8 σ H s):X.s₀.heap.objs.size<=s.heap.objs.size:=zAn I.ok.above (zBi I.lt)
theorem Pd.nofs(I:Pd X D8 σ H s)(h:s.heap.objs.size<=a):a∉X.fs:=λb=>by
 obtain⟨_,o,c,_⟩:=I.ok.funs.mem b;exact absurd (zAm (zAc c) (zAn I.sz h)) (zCf _)
theorem Pd.cne(I:Pd X D8 σ H s):∀x c,X.env.cells.lookup x=some c->c≠X.env.locals:=λx c e z=>by
 obtain⟨v,o,d,f⟩:=I.cell x c e;obtain⟨m,⟨g,h,i,a,b,_⟩,_⟩:=I.loc;rw[z,a] at d;cases d;rw[b] at f;cases f
theorem Pd.funs(I:Pd X D8 σ H s):s.heap.FunFrames X.base X.outer:=by
 have all:∀(l:List Env),(∀b∈frs l,b∈X.fs)->X.s₀.heap.FunFrames X.base l->s.heap.FunFrames X.base l:=by intro l;induction l with|nil=>intro _ _;trivial|cons g r h=>intro f i;obtain⟨j,⟨L,o,a,k,m,n⟩,p⟩:=i;have c:L∈X.fs:=f L (by unfold frs;rw[zCt,a];exact zAh);obtain⟨q,e⟩:=I.base.slot L o m (I.ok.frf L c) c λz=>I.ok.exfs L z c;exact⟨j,⟨L,_,a,k,e,n⟩,h (λb d=>f b (by unfold frs;rw[zCt,a];exact zA7 _ d)) p⟩
 exact all X.outer (λ_ d=>d) I.ok.funs
theorem Pd.stack(I:Pd X D8 σ H s):s.heap.FunFrames X.base X.stack:=by rcases I.ok.stk with e|⟨e,a⟩;{rw[e];exact I.funs};rw[e];obtain⟨m,b,_⟩:=I.loc;refine .cons (by rw[I.ok.kind];decide) a b ?_ I.funs;exact Heap.get?_none_of_le (zAn I.ok.bsz I.ok.above)
theorem Pd.stkSub(I:Pd X D8 σ H s):∀b∈frs X.stack,b∈X.env.locals::X.fs:=λb a=>by
 rcases I.ok.stk with e|⟨e,c⟩
 .rw[e] at a;exact zA7 _ a
 rw[e] at a;unfold frs at a;rw[zCt,c] at a;exact a
theorem Pd.stkFree(I:Pd X D8 σ H s):∀b∈frs X.stack,H b=none:=λb a=>by
 rcases zAi.mp (I.stkSub b a) with e|a
 .rw[e];exact I.free
 obtain⟨_,o,c,_⟩:=I.ok.funs.mem a;exact I.base.free b o c (I.ok.frf b a) λz=>I.ok.exfs b z a
theorem Pd.step(I:Pd X D8 σ H s)(f:∀b∈ch,(b∈X.ex∨X.s₀.heap.objs.size<=b)/\b≠X.env.locals/\(∀x c,X.env.cells.lookup x=some c->c≠b)/\∀p∈X.pn++D8,p.1≠b)(keep:∀b o,b≠X.env.locals->b∉X.fs->b∉ch->s.heap.get? b=some o->H b=none->h'.get? b=some o)(slot:∀b o,b≠X.env.locals->b∈X.fs->b∉ch->s.heap.get? b=some o->H b=none->∃B,h'.get? b=some {o with slots:=B})(free:∀b o,b∉ch->s.heap.get? b=some o->H b=none->H' b=none)(there:∀b o,b∉ch->s.heap.get? b=some o->∃o',h'.get? b=some o')(tups:∀b xs,H b=some (.q xs)->H' b=some (.q xs))(frzs:∀b o u,H b=some (.frz o u)->H' b=some (.frz o u))(tbls:∀b ps,H b=some (.tbl ps)->∃more,H' b=some (.tbl (ps++more)))(ns:∀m,s.heap.Ns X.env.locals m->h'.Ns X.env.locals m)(C:HOk X.prog X.w H' h')(K:AllBare g'):Pd X D8 σ H' {s with heap:=h',gens:=g',drawn:=d',toks:=t'}:=by
 have A:∀b o,X.s₀.heap.get? b=some o->b≠X.env.locals:=λb o e=>zAt (zAm (zAc e) I.ok.above);have h:∀b o,X.s₀.heap.get? b=some o->b∉X.ex->b∉ch:=λb o e a t=>by rcases (f b t).1 with z|z;{exact a z};exact absurd (zAm (zAc e) z) (zCf _)
 have cellK:∀x c,X.env.cells.lookup x=some c->∀v,s.heap.IsCell c v->h'.IsCell c v:=λx c e v ⟨o,y,D⟩=>by have g:c∉ch:=λz=>(f c z).2.2.1 x c e rfl;by_cases F:c∈X.fs;{obtain⟨B,q⟩:=slot c o (I.cne x c e) F g y (I.freeC x c e);exact⟨_,q,D⟩};exact⟨o,keep c o (I.cne x c e) F g y (I.freeC x c e),D⟩
 refine⟨I.ok,I.os,K,⟨λb o e n t a=>?_,λb o e n t a=>?_,λb o e n a=>?_,λb o e a=>?_,λb xs e=>tups b xs (I.base.tups b xs e),λb o xs e=>frzs b o xs (I.base.frzs b o xs e),λb ps e=>?_⟩,?_,λx c e=>?_,?_,λx c e=>?_,λp G=>?_,C,I.len⟩;{exact keep b o (A b o e) t (h b o e a) (I.base.keep b o e n t a) (I.base.free b o e n a)};{obtain⟨B,j⟩:=I.base.slot b o e n t a;obtain⟨E,e2⟩:=slot b _ (A b o e) t (h b o e a) j (I.base.free b o e n a);exact⟨E,e2⟩};{obtain⟨o',j⟩:=I.base.there b o e a;exact free b o' (h b o e a) j (I.base.free b o e n a)};{obtain⟨o',j⟩:=I.base.there b o e a;exact there b o' (h b o e a) j};{obtain⟨L,j⟩:=I.base.tbls b ps e;obtain⟨M,e2⟩:=tbls b _ j;exact⟨L++M,by rw[e2,Array.append_assoc]⟩};{obtain⟨m,N,O⟩:=I.loc;refine⟨m,ns m N,λi x v j e2 P=>?_⟩;obtain⟨u,r,l⟩:=O i x v j e2 P;refine⟨u,r,?_⟩;rcases l with l|⟨k,c,e,z⟩;{exact .inl l};exact .inr ⟨k,c,e,cellK x c e _ z⟩};{obtain⟨v,z⟩:=I.cell x c e;exact⟨v,cellK x c e v z⟩};{obtain⟨m,⟨o,_,_,y,_⟩,_⟩:=I.loc;exact free _ o (λz=>(f _ z).2.1 rfl) y I.free};{obtain⟨v,o,y,D⟩:=I.cell x c e;exact free c o (λz=>(f c z).2.2.1 x c e rfl) y (I.freeC x c e)};obtain⟨e,n,J,nf,d⟩:=I.pin p G;have g:p.1∉ch:=λz=>(f p.1 z).2.2.2 p G rfl;exact⟨keep p.1 p.2 J nf g e n,free p.1 p.2 g e n,J,nf,d⟩
theorem Pd.un(I:Pd X D8 σ H s)(u:Un X.fs [] H H' s.heap h')(c:HOk X.prog X.w H' h'):Pd X D8 σ H' {s with heap:=h',toks:=t'}:=by obtain⟨m,⟨o,l,p,h,r⟩,_⟩:=id I.loc;obtain⟨q,i⟩:=u.any h I.free (by simp);exact I.step (g':=s.gens) (d':=s.drawn) (ch:=[]) (λ_ z=>nomatch z) (λb o _ d _ e n=>u.keep b o e n d (by simp)) (λb o _ d _ e n=>u.slot b o e n d (by simp)) (λb o _ e n=>u.free b o e n (by simp)) (λb o _ e=>u.there b o e (by simp)) u.tups u.frzs u.tbls (λt j=>by obtain⟨v,f,g,a,k⟩:=j;rw[h] at a;cases a;exact⟨_,f,g,i,k⟩) c I.bare
theorem Pd.call(I:Pd X D8 σ H s)(u:Un (frs X.stack) ch H H' s.heap h')(g:HOk X.prog X.w H' h')(l:AllBare g')(d:∀b∈ch,(b∈X.ex∨X.s₀.heap.objs.size<=b)/\b≠X.env.locals/\(∀x c,X.env.cells.lookup x=some c->c≠b)/\∀p∈X.pn++D8,p.1≠b):Pd X D8 σ H' {s with heap:=h',gens:=g',drawn:=d',toks:=t'}:=by obtain⟨m,⟨o,y,A,k,r⟩,_⟩:=id I.loc;obtain⟨B,h⟩:=u.any k I.free λz=>(d _ z).2.1 rfl;exact I.step (ch:=ch) d (λb o h q a e n=>u.keep b o e n (λz=>(zAi.mp (I.stkSub b z)).elim h q) a) (λb o _ _ a e n=>u.any e n a) (λb o a e n=>u.free b o e n a) (λb o a e=>u.there b o e a) u.tups u.frzs u.tbls (λC t=>by obtain⟨D,i,j,f,v⟩:=t;rw[k] at f;cases f;exact⟨_,i,j,h,v⟩) g l
theorem Pd.turned(I:Pd X D8 σ H s)(k:∀b o,b≠it->s.heap.get? b=some o->h'.get? b=some o)(g:H it=none)(f:it≠X.env.locals)(h1:it∈X.ex∨X.s₀.heap.objs.size<=it)(h2:∀x c,X.env.cells.lookup x=some c->c≠it)(h:∀p∈X.pn++D8,p.1≠it):Pd X D8 σ H {s with heap:=h',toks:=t'}:=by
 have d:∀b u,H b=some u->b≠it:=λb u e z=>by rw[z,g] at e;cases e
 refine I.step (g':=s.gens) (d':=s.drawn) (ch:=[it]) (λb i=>?_) (λb o _ _ a e _=>k b o (λz=>a (by simp[z])) e) (λb o _ _ a e _=>⟨o.slots,k b o (λz=>a (by simp[z])) e⟩) (λ_ _ _ _ n=>n)
  (λb o a e=>⟨o,k b o (λz=>a (by simp[z])) e⟩) (λ_ _ e=>e) (λ_ _ _ e=>e) (λb y e=>⟨#[],by rw[e];simp⟩) (λm j=>?_) (λb u e=>?_) I.bare
 .have e:b=it:=by simpa using i
  subst e;exact⟨h1,f,h2,h⟩
 {obtain⟨o,l,t,w,r⟩:=j;exact⟨o,l,t,k _ o (Ne.symm f) w,r⟩};refine(I.hok b u e).stay (λc v a q=>k c v ?_ q) (λ_ q=>q) λ_ _ q=>q;rcases a with z|z;{rw[z];exact d b u e};exact d c _ z
theorem Pd.tok(I:Pd X D8 σ H s)(t:Nat):Pd X D8 σ H {s with toks:=t}:=I.un (h':=s.heap) (t':=t) Un.refl I.hok
theorem Pd.kept(I:Pd X D8 σ H s)(k:∀b u,s.heap.get? b=some u->h'.get? b=some u):Pd X D8 σ H {s with heap:=h',toks:=t'}:=I.un (Un.kept k) (I.hok.kept k)
theorem Pd.laid(I:Pd X D8 σ H s)(k:∀b u,s.heap.get? b=some u->h'.get? b=some u)(c:s.heap.objs.size<=a)(d:ObjOk X.prog X.w (upd H a o) h' a o):Pd X D8 σ (upd H a o) {s with heap:=h',toks:=t'}:=I.un (Un.laid k c (I.hok.fresh c)) (I.hok.laid k c d)
theorem Pd.write(I:Pd X D8 σ H s)(d:Mut (H x))(f:e=x∨H e=some (.own x))(k:∀b u,b≠e->s.heap.get? b=some u->h'.get? b=some u)(a:∃u,h'.get? e=some u)(c:ObjOk X.prog X.w (upd H x o) h' x o):Pd X D8 σ (upd H x o) {s with heap:=h',toks:=t'}:=I.un (Un.write d f k a) (I.hok.write d f k a c)
theorem Pd.pins_of(I:Pd X D8 σ H s)(h:∀p∈pins',s.heap.get? p.1=some p.2/\H p.1=none/\p.1≠X.env.locals/\p.1∉X.fs/\∀v,p.2.data≠.cell v):Pd X pins' σ H s:=⟨I.ok,I.os,I.bare,I.base,I.loc,I.cell,I.free,I.freeC,λp a=>(zAb.mp a).elim (λz=>I.pin p (zC4 _ z)) (h p),I.hok,I.len⟩
theorem qaj9(c:N.Nodup)(a:N[i]?=some x)(b:N[j]?=some x):i=j:=by obtain⟨e,d⟩:=zA5.mp a;obtain⟨f,e2⟩:=zA5.mp b;exact(Nb c).mp (d.trans e2.symm)
theorem qar8(I:Pd X D8 σ H s)(hN:X.N.Nodup)(hi:X.N[i]?=some x)(t:Loc X.env.scope x)(r:Pa v u)(h:∀s',Pd X D8 (σ.set i (some v)) H s'->(∃a,Heap.SameBut a s.heap s'.heap/\(a=X.env.locals∨X.env.cells.lookup x=some a))->Q () s')(hf:X.fn x=true∨X.env.scope.names.lookup x=some .local:=by first|exact .inl rfl|exact .inr rfl|assumption):Ku M A (storeName X.env x u) Q E s:=by
 obtain⟨m,W,hl⟩:=id I.loc;have K:(X.env.scope.kind==.class||(X.env.scope.kind==.module&&X.env.locals != X.env.globals))=false:=by rw[I.ok.kind];rfl
 have hiσ:i<σ.length:=by rw[I.len];exact(zA5.mp hi).1
 have C:=I.cne;have tracked:∀{a:γ}{J:Heap},(∃o,s.heap.get? a=some o/\H a=none)->Heap.SameBut a s.heap J->HOk X.prog X.w H J:=λ{a J} ha f b ob e=>by obtain⟨_,_,hfree⟩:=ha;refine(I.hok b ob e).stay (λc S l q=>(f.2 c ?_).trans q) (λ_ q=>q) λ_ _ q=>q;rintro rfl;rcases l with rfl|l;{rw[hfree] at e;cases e};rw[hfree] at l;cases l
 rcases t with B|B;{refine wpAny_storeName_local B W (λJ Y f=>?_) K;obtain⟨oL,_,_,Z,_⟩:=id W;refine h _ ⟨I.ok,I.os,I.bare,⟨λb o e n D t=>?_,λb o e n D t=>?_,I.base.free,λb o e t=>?_,I.base.tups,I.base.frzs,I.base.tbls⟩,⟨_,Y,λj y v' g e2 e3=>?_⟩,λy c e=>?_,I.free,I.freeC,λp hp=>?_,tracked ⟨oL,Z,I.free⟩ f,by simpa using I.len⟩ ⟨_,f,.inl rfl⟩;{exact(f.2 b (zAt (zAm (zAc e) I.ok.above))).trans (I.base.keep b o e n D t)};{obtain⟨sl,g⟩:=I.base.slot b o e n D t;exact⟨sl,(f.2 b (zAt (zAm (zAc e) I.ok.above))).trans g⟩};{obtain⟨o',g⟩:=I.base.there b o e t;exact⟨o',(f.2 b (zAt (zAm (zAc e) I.ok.above))).trans g⟩};{by_cases F:j=i;{subst F;rw[hi] at g;cases g;rw[zCb hiσ] at e2;cases e2;exact⟨u,r,.inl ⟨B,by simp⟩⟩};rw[zBe (Ne.symm F)] at e2;obtain⟨u',r',q⟩:=hl j y v' g e2 e3;refine⟨u',r',?_⟩;rcases q with⟨k,e⟩|⟨k,c,e,z⟩;{refine .inl ⟨k,?_⟩;have:y≠x:=λe=>F (qaj9 hN g (e ▸ hi));simp[this,e]};exact .inr ⟨k,c,e,z.sameBut f (C y c e)⟩};{obtain⟨S,z⟩:=I.cell y c e;exact⟨S,z.sameBut f (C y c e)⟩};obtain⟨e,n,T,nf,d⟩:=I.pin p hp;exact⟨(f.2 p.1 T).trans e,n,T,nf,d⟩};have G:X.fn x=true:=by rcases hf with z|z;{exact z};rw[z] at B;cases B
 obtain⟨c,l⟩:=I.ok.has x (.inl B);obtain⟨S,z⟩:=I.cell x c l;refine wpAny_storeName_cell I.ok.kind B l z (λJ L f=>?_);obtain⟨oc,O,P⟩:=id z;refine h {s with heap:=J} ⟨I.ok,I.os,I.bare,⟨λb o e n D t=>?_,λb o e n D t=>?_,I.base.free,λb o e t=>?_,I.base.tups,I.base.frzs,I.base.tbls⟩,⟨m,W.sameBut f (Ne.symm (C x c l)),λj y v' g e2 e3=>?_⟩,λy U e=>?_,I.free,I.freeC,λp hp=>?_,tracked ⟨oc,O,I.freeC x c l⟩ f,by simpa using I.len⟩ ⟨c,f,.inr l⟩;{exact(f.2 b (zAt (zAm (zAc e) (I.ok.cab x c G l)))).trans (I.base.keep b o e n D t)};{obtain⟨sl,g⟩:=I.base.slot b o e n D t;exact⟨sl,(f.2 b (zAt (zAm (zAc e) (I.ok.cab x c G l)))).trans g⟩};{obtain⟨o',g⟩:=I.base.there b o e t;exact⟨o',(f.2 b (zAt (zAm (zAc e) (I.ok.cab x c G l)))).trans g⟩};{by_cases F:j=i;{subst F;rw[hi] at g;cases g;rw[zCb hiσ] at e2;cases e2;exact⟨u,r,.inr ⟨.inl B,c,l,L⟩⟩};rw[zBe (Ne.symm F)] at e2;obtain⟨u',r',q⟩:=hl j y v' g e2 e3;refine⟨u',r',?_⟩;rcases q with q|⟨k,U,e,z'⟩;{exact .inl q};refine .inr ⟨k,U,e,z'.sameBut f ?_⟩;rintro rfl;exact F (qaj9 hN g (I.ok.inj _ _ _ e l ▸ hi))};{by_cases R:U=c;{subst R;exact⟨_,L⟩};obtain⟨w2,z2⟩:=I.cell y U e;exact⟨w2,z2.sameBut f R⟩};obtain⟨e,n,T,nf,d⟩:=I.pin p hp;refine⟨(f.2 p.1 ?_).trans e,n,T,nf,d⟩;intro q;rw[q,O] at e;have q':oc=p.2:=N5 e;exact d S (by rw[<-q'];exact P)
theorem qQ8(I:Pd X D8 σ H s)(a:X.N.Nodup)(hi:X.N[i]?=some x)(b:Loc X.env.scope x)(r:Pa v u)(h:∀s',Pd X D8 (σ.set i (some v)) H s'->Q () s')(c:X.fn x=true∨X.env.scope.names.lookup x=some .local:=by first|exact .inl rfl|exact .inr rfl|assumption):Ku M A (storeName X.env x u) Q E s:=qar8 I a hi b r (λs' I' _=>h s' I') c
theorem Pd.call'(I:Pd X D8 σ H s)(i:s'.os=s.os)(u:Un (frs X.stack) ch H H' s.heap s'.heap)(a:HOk X.prog X.w H' s'.heap)(j:AllBare s'.gens)(d:∀b∈ch,(b∈X.ex∨X.s₀.heap.objs.size<=b)/\b≠X.env.locals/\(∀x c,X.env.cells.lookup x=some c->c≠b)/\∀p∈X.pn++D8,p.1≠b):Pd X D8 σ H' s':=by obtain⟨l,f,g,h,k⟩:=s';have e:k=s.os:=i;subst e;exact I.call (g':=f) (t':=h) (d':=g) u a j d
end
abbrev XK:=V'->Option γ->Hp->Prop
abbrev St:=List (Option V)
abbrev VK:=V->Hp->Prop
abbrev TE:=St->Hp->VK->Prop
abbrev TT:=St->Hp->(Bool->Hp->Prop)->Prop
abbrev TA:=St->Hp->(List V->Hp->Prop)->Prop
structure Dl where
 nx:St->Hp->Prop
 rt:VK
 bk:St->Hp->Prop:=λ_ _=>False
 ct:St->Hp->Prop:=λ_ _=>False
abbrev TS:=Dl->St->Hp->Prop
def EP(X:Cx)(D8:List (γ×Obj))(a:St)(Q:VK)(u:V')(s':δ):Prop:=∃v H',Pd X D8 a H' s'/\Pa v u/\Q v H'
def TP(X:Cx)(D8:List (γ×Obj))(a:St)(Q:Bool->Hp->Prop)(b:Bool)(s':δ):Prop:=∃H',Pd X D8 a H' s'/\Q b H'
def AP(X:Cx)(D8:List (γ×Obj))(a:St)(Q:List V->Hp->Prop)(us:List V')(s':δ):Prop:=∃vs H',Pd X D8 a H' s'/\Pb vs us/\Q vs H'
def SP(X:Cx)(D8:List (γ×Obj))(D:Dl)(f:Flow)(s':δ):Prop:=match f with|.next=>∃a' H',Pd X D8 a' H' s'/\D.nx a' H'|.brk=>∃a' H',Pd X D8 a' H' s'/\D.bk a' H'|.cont=>∃a' H',Pd X D8 a' H' s'/\D.ct a' H'|.ret u=>∃v a' H',Pd X D8 a' H' s'/\Pa v u/\D.rt v H'
def PE(X:Cx)(e:Kz)(t:TE):Prop:=∀(D8:List (γ×Obj))(s:δ)(a:St)(H:Hp)(Q:VK),Pd X D8 a H s->t a H Q->Ku (Kv X.prog X.w) X.A (eval e X.env) (EP X D8 a Q) X.xe s
def PT(X:Cx)(e:Kz)(t:TT):Prop:=∀(D8:List (γ×Obj))(s:δ)(a:St)(H:Hp)(Q:Bool->Hp->Prop),Pd X D8 a H s->t a H Q->Ku (Kv X.prog X.w) X.A (isTrue e X.env (eval e X.env)) (TP X D8 a Q) X.xe s
def PW(X:Cx)(e:Kz)(t:TT):Prop:=∀(whole:Sem V')(D8:List (γ×Obj))(s:δ)(a:St)(H:Hp)(Q:Bool->Hp->Prop),Pd X D8 a H s->t a H Q->Ku (Kv X.prog X.w) X.A (isTrue e X.env whole) (TP X D8 a Q) X.xe s
theorem PW.pt(h:PW X e t):PT X e t:=h _
def PA(X:Cx)(es:List Kz)(t:TA):Prop:=∀(pos:Pos)(D8:List (γ×Obj))(s:δ)(a:St)(H:Hp)(Q:List V->Hp->Prop),Pd X D8 a H s->t a H Q->Ku (Kv X.prog X.w) X.A (spliced (backTo pos (Kb es X.env))) (AP X D8 a Q) X.xe s
def PS(X:Cx)(st:K4)(t:TS):Prop:=∀(D8:List (γ×Obj))(s:δ)(a:St)(H:Hp)(D:Dl),Pd X D8 a H s->t D a H->Ku (Kv X.prog X.w) X.A (exec st X.env) (SP X D8 D) X.xe s
def PSs(X:Cx)(st:List K4)(t:TS):Prop:=∀(D8:List (γ×Obj))(s:δ)(a:St)(H:Hp)(D:Dl),Pd X D8 a H s->t D a H->Ku (Kv X.prog X.w) X.A (execs st X.env) (SP X D8 D) X.xe s
theorem thn{α:Type}{t:Sem α}{Q Q':α->δ->Prop}{A:Kx}{E:V'->δ->Prop}{s:δ}(h:Ku M A t Q E s)(b:∀a s,Q a s->Q' a s):Ku M A t Q' E s:=Kn h b λ_ _ x=>x
section
variable{X:Cx}
def Fh(i:Nat):TE:=λn H Q=>∃v,n[i]?=some (some v)/\Q v H
def tC(v:V):TE:=λ_ H Q=>Q v H
theorem qn3(f:X.N[i]?=some x)(g:Vis X.env.scope x)(b:N' x:=by decide)(d:(x==("__classdict__" : Str))=false:=by decide):PE X (.Name x pos) (Fh i):=by intro D8 s n H Q I h;obtain⟨v,e,h⟩:=h;obtain⟨m,j,k⟩:=I.loc;obtain⟨u,r,l⟩:=k i x v f e g;have fin:EP X D8 n Q u s:=⟨v,H,I,r,h⟩;rcases l with⟨a,hm⟩|⟨a,c,hc,hcell⟩;{exact wpAny_Name (wpAny_loadName_local I.ok.kind a j hm fin) b};rcases a with a|a;{exact wpAny_Name (wpAny_loadName_cell I.ok.kind a hc hcell fin) b};exact wpAny_Name (wpAny_loadName_free I.ok.kind a hc hcell fin d) b
theorem qM0{i j pos}:PE X (.Constant (.int i) j pos) (tC (.int i)):=λ_ _ _ H _ I h=>wpAny_Constant_int ⟨.int i,H,I.tok _,⟨_,rfl⟩,h⟩
theorem pe_bl{b j pos}:PE X (.Constant (.bool b) j pos) (tC (.bl b)):=λ_ _ _ H _ I h=>Constant_bool ⟨.bl b,H,I,rfl,h⟩
theorem qaQ0{j pos}:PE X (.Constant .none j pos) (tC .non):=λ_ _ _ H _ I h=>Constant_none ⟨.non,H,I,rfl,h⟩
theorem qba0{x j pos}:PE X (.Constant (.str x) j pos) (tC (.str x)):=λ_ _ _ H _ I h=>Calls.Constant_str ⟨.str x,H,I.tok _,⟨_,rfl⟩,h⟩
def Gl(X:Cx)(x:Str):Prop:=X.env.kindOf x=some .globalImplicit
theorem qal7{n:St}(I:Pd X D8 n H s)(a:Gl X x)(hm:X.mg x=some u)(h:Q u s)(b:N' x:=by decide):Ku (Kv X.prog X.w) X.A (eval (.Name x pos) X.env) Q E s:=Calls.Name_function_global I.ok.kind a (Calls.loadGlobal_global (by rw[I.ok.glob];exact I.mod.glob.keeps I.bk) hm h) b
theorem qN9{n:St}(I:Pd X D8 n H s)(a:Gl X x)(hm:X.mg x=none)(b:Kg x=some u)(h:Q u s)(c:x ≠ "__name__" := by decide)(d:N' x:=by decide):Ku (Kv X.prog X.w) X.A (eval (.Name x pos) X.env) Q E s:=by obtain⟨g,e,f⟩:=I.mod.blt;exact Calls.Name_function_global I.ok.kind a (Calls.loadGlobal_builtin (by rw[I.ok.glob];exact I.mod.glob.keeps I.bk) hm (by rw[I.ok.blt];exact e.keeps I.bk) ((f x c).trans b) h) d
theorem qaz6(a:Gl X x)(hm:X.mg x=some u)(r:Pa v u)(b:N' x:=by decide):PE X (.Name x pos) (tC v):=λ_ _ _ H _ I h=>qal7 I a hm ⟨v,H,I,r,h⟩ b
theorem qaQ2(a:Gl X x)(hm:X.mg x=none)(b:Kg x=some u)(r:Pa v u)(c:x ≠ "__name__" := by decide)(d:N' x:=by decide):PE X (.Name x pos) (tC v):=λ_ _ _ H _ I h=>qN9 I a hm b ⟨v,H,I,r,h⟩ c d
variable{a b:Kz}{o p:TE}{pos:Pos}
def tB(t:TE):TT:=λn H Q=>t n H λx H1=>∃c,x=.bl c/\Q c H1
theorem qaE8(h:PE X e t)(b:∀whole,isTrue e X.env whole=(do let v<-whole;standAt e.pos;holding [v] (truthy v)):=by intro _;rfl):PT X e (tB t):=by intro D8 s n H Q I c;refine isTrue_plain (thn (h D8 s n H _ I c) λv i a=>?_) (b _);obtain⟨x,H1,I1,f,g⟩:=a;obtain⟨d,rfl,q⟩:=g;cases f;exact Kh ⟨H1,I1,q⟩
variable{y tB':TT}{rest:List Kz}
def tAnd(t u:TT):TT:=λn H Q=>t n H λc H1=>if c=true then u n H1 Q else Q false H1
def tOr(t u:TT):TT:=λn H Q=>t n H λc H1=>if c=true then Q true H1 else u n H1 Q
def tNot(t:TT):TT:=λn H Q=>t n H λc H1=>Q (!c) H1
theorem qaO6(b:PT X a y):PW X (.BoolOp .And [a] pos) y:=by intro d D8 s n H Q I h;refine isTrue_and (thn (b D8 s n H Q I h) λc f e=>?_);cases c with|true=>exact isTrue_and_nil e|false=>exact e
theorem qaZ1(b:PT X a y):PW X (.BoolOp .Or [a] pos) y:=by intro d D8 s n H Q I h;refine isTrue_or (thn (b D8 s n H Q I h) λc f e=>?_);cases c with|false=>exact isTrue_or_nil e|true=>exact e
theorem qaZ2(f:PT X a y)(g:PW X (.BoolOp .And (b::rest) pos) tB'):PW X (.BoolOp .And (a::b::rest) pos) (tAnd y tB'):=by intro i D8 s n H Q I h;refine isTrue_and (thn (f D8 s n H _ I h) λc j d=>?_);obtain⟨H1,I1,e⟩:=d;cases c with|true=>exact g i D8 j n H1 Q I1 e|false=>exact⟨H1,I1,e⟩
theorem pw_or(f:PT X a y)(g:PW X (.BoolOp .Or (b::rest) pos) tB'):PW X (.BoolOp .Or (a::b::rest) pos) (tOr y tB'):=by intro i D8 s n H Q I h;refine isTrue_or (thn (f D8 s n H _ I h) λc j d=>?_);obtain⟨H1,I1,e⟩:=d;cases c with|true=>exact⟨H1,I1,e⟩|false=>exact g i D8 j n H1 Q I1 e
theorem qaO7(b:PT X a y):PT X (.UnaryOp .Not a pos) (tNot y):=by intro D8 s n H Q I h;exact isTrue_not (b D8 s n H (λc H1=>Q (!c) H1) I h)
def tAndV(o p:TE):TE:=λn H Q=>o n H λx H1=>∃c,x=.bl c/\if c=true then p n H1 Q else Q (.bl false) H1
def tOrV(o p:TE):TE:=λn H Q=>o n H λx H1=>∃c,x=.bl c/\if c=true then Q (.bl true) H1 else p n H1 Q
def tNotV(o:TE):TE:=λn H Q=>o n H λx H1=>∃c,x=.bl c/\Q (.bl (!c)) H1
theorem qas8{op}(h:PE X a t):PE X (.BoolOp op [a] pos) t:=λD8 s n H Q I b=>BoolOp_one (h D8 s n H Q I b)
theorem qat1(f:PE X a o)(g:PE X (.BoolOp .And (b::rest) pos) p):PE X (.BoolOp .And (a::b::rest) pos) (tAndV o p):=by intro D8 s n H Q I h;refine BoolOp_and (thn (f D8 s n H _ I h) λv i e=>?_);obtain⟨x,H1,I1,j,d⟩:=e;obtain⟨c,rfl,d⟩:=d;cases j;refine Kh ?_;cases c with|true=>exact g D8 i n H1 Q I1 d|false=>exact⟨.bl false,H1,I1,rfl,d⟩
theorem pe_or(f:PE X a o)(g:PE X (.BoolOp .Or (b::rest) pos) p):PE X (.BoolOp .Or (a::b::rest) pos) (tOrV o p):=by intro D8 s n H Q I h;refine BoolOp_or (thn (f D8 s n H _ I h) λv i e=>?_);obtain⟨x,H1,I1,j,d⟩:=e;obtain⟨c,rfl,d⟩:=d;cases j;refine Kh ?_;cases c with|false=>exact g D8 i n H1 Q I1 d|true=>exact⟨.bl true,H1,I1,rfl,d⟩
theorem qaP9(e:PE X a o):PE X (.UnaryOp .Not a pos) (tNotV o):=by intro D8 s n H Q I h;refine UnaryOp_ (thn (e D8 s n H _ I h) λv g b=>?_);obtain⟨x,H1,I1,f,d⟩:=b;obtain⟨c,rfl,d⟩:=d;cases f;exact not_of (Kh ⟨.bl (!c),H1,I1,rfl,d⟩)
def tIf(t:TT)(o p:TE):TE:=λn H Q=>t n H λc H1=>if c=true then o n H1 Q else p n H1 Q
theorem qai7(i:PT X c y)(j:PE X a o)(k:PE X b p):PE X (.IfExp c a b pos) (tIf y o p):=by intro D8 s n H Q I h;refine wpAny_IfExp (thn (i D8 s n H _ I h) λd f e=>?_);obtain⟨H1,I1,g⟩:=e;cases d with|true=>exact j D8 f n H1 Q I1 g|false=>exact k D8 f n H1 Q I1 g
end
def SqL(K:N7)(H:Hp)(a:γ)(xs:List V):Prop:=Rd H a (.l xs)∨∃(o:Obj)(its:Array V')(n:Nat),K.lookup a=some o/\o.cls=.type "list" /\ o.dict=none/\o.data=.seq its n/\its.size<=Kc/\Pb xs its.toList
def SqT(K:N7)(H:Hp)(a:γ)(xs:List V):Prop:=Rd H a (.q xs)∨∃(o:Obj)(its:Array V')(n:Nat),K.lookup a=some o/\o.cls=.type "tuple" /\ o.data=.seq its n/\its.size<=Kc/\Pb xs its.toList
noncomputable def absV:V'->Option V|.none=>some .non|.bool b=>some (.bl b)|.int i _=>some (.int i)|.str x _=>some (.str x)|.bytes b _=>some (.byt b)|.float b _=>some (.flt b)|.ref a=>some (.ref a)|.type n=>some (.ty n)|_=>none
theorem Pa.abs(r:Pa x u):absV u=some x:=by cases x with|non=>cases r;rfl|bl _=>cases r;rfl|int _=>obtain⟨t,rfl⟩:=r;rfl|str _=>obtain⟨t,rfl⟩:=r;rfl|byt _=>obtain⟨t,rfl⟩:=r;rfl|flt _=>obtain⟨t,rfl⟩:=r;rfl|ref _=>cases r;rfl|ty _=>cases r;rfl
theorem Pa.inj(r:Pa x u)(q:Pa y u):x=y:=N5 (r.abs.symm.trans q.abs)
theorem Pb.inj(h:Pb xs us)(g:Pb ys us):xs=ys:=by induction h generalizing ys with|nil=>cases g;rfl|cons r t i=>cases g with|cons q u=>rw[r.inj q,i u]
section
variable{X:Cx}{q:List (γ×Obj)}{m:St}{H:Hp}{s:δ}{a:γ}{xs ys:List V}
theorem SqL.of{K:N7}(h:H a=some (.l xs)):SqL K H a xs:=.inl (.inl h)
theorem Pd.list(I:Pd X q m H s)(h:SqL X.K H a xs):∃its:List V',Pb xs its/\PlainL s.heap a its.toArray/\xs.length<=Kc:=by rcases h with h|⟨o,its,n,b,c,d,f,g,r⟩;{obtain⟨z,its,n,r,e⟩:=h.ok I.hok;exact⟨its,r,⟨_,n,e,rfl,rfl,rfl⟩,z⟩};refine⟨its.toList,r,⟨o,n,I.kIn a o b,c,d,by simpa using f⟩,?_⟩;have e:=r.length;simp only[zB7] at e;lia
theorem Pd.tuple(I:Pd X q m H s)(h:SqT X.K H a xs):∃its:List V',Pb xs its/\IsTup s.heap a its.toArray/\xs.length<=Kc:=by rcases h with h|⟨o,its,n,b,c,d,f,r⟩;{obtain⟨z,its,r,p⟩:=h.ok I.hok;exact⟨its,r,p,z⟩};refine⟨its.toList,r,⟨o,I.kIn a o b,c,n,by simpa using d⟩,?_⟩;have e:=r.length;simp only[zB7] at e;lia
theorem Pd.list_inj(I:Pd X q m H s)(h:SqL X.K H a xs)(h':SqL X.K H a ys):xs=ys:=by
 obtain⟨b,r,⟨o,n,e,_,_,d⟩,_⟩:=I.list h;obtain⟨its',g,⟨j,k,c,_,_,f⟩,_⟩:=I.list h';rw[e] at c;cases c;rw[d] at f;injection f with i _;have:b=its':=by simpa using congrArg Array.toList i
 subst this;exact r.inj g
theorem Pd.tuple_inj(I:Pd X q m H s)(h:SqT X.K H a xs)(h':SqT X.K H a ys):xs=ys:=by
 obtain⟨b,r,⟨o,e,_,n,d⟩,_⟩:=I.tuple h;obtain⟨its',g,⟨j,c,_,k,f⟩,_⟩:=I.tuple h';rw[e] at c;cases c;rw[d] at f;injection f with i _;have:b=its':=by simpa using congrArg Array.toList i
 subst this;exact r.inj g
end
noncomputable abbrev Cx.wish(X:Cx)(E:V'->δ->Prop):Cx:={X with xe:=E}
abbrev Cx.nox(X:Cx):Cx:=X.wish λ_ _=>False
theorem Cx.Ok.wish{X:Cx}(a:X.Ok)(E:V'->δ->Prop):(X.wish E).Ok:=⟨a.mod,a.kind,a.glob,a.blt,a.above,a.inj,a.has,a.cab,a.hd,a.frames,a.stk,a.exf,a.bs,a.bsz,a.noex,a.exfs,a.funs,a.frf⟩
theorem Cx.Ok.unwish{X:Cx}(a:(X.wish E).Ok):X.Ok:=⟨a.mod,a.kind,a.glob,a.blt,a.above,a.inj,a.has,a.cab,a.hd,a.frames,a.stk,a.exf,a.bs,a.bsz,a.noex,a.exfs,a.funs,a.frf⟩
section
variable{X:Cx}{c:List (γ×Obj)}{b:St}{H:Hp}{s:δ}{E:V'->δ->Prop}
theorem Pd.wish(I:Pd X c b H s)(E:V'->δ->Prop):Pd (X.wish E) c b H s:=⟨I.ok.wish E,I.os,I.bare,I.base,I.loc,I.cell,I.free,I.freeC,I.pin,I.hok,I.len⟩
theorem Pd.unwish(I:Pd (X.wish E) c b H s):Pd X c b H s:=⟨I.ok.unwish,I.os,I.bare,I.base,I.loc,I.cell,I.free,I.freeC,I.pin,I.hok,I.len⟩
theorem SP.unwish(h:SP (X.wish E) c D f s'):SP X c D f s':=by cases f with|next=>obtain⟨b',H',I,q⟩:=h;exact⟨b',H',I.unwish,q⟩|brk=>obtain⟨b',H',I,q⟩:=h;exact⟨b',H',I.unwish,q⟩|cont=>obtain⟨b',H',I,q⟩:=h;exact⟨b',H',I.unwish,q⟩|ret u=>obtain⟨v,b',H',I,r,q⟩:=h;exact⟨v,b',H',I.unwish,r,q⟩
theorem PSs.nox{st:List K4}(h:PSs X.nox st t):PSs X st t:=λc s b H D I a=>
 Kn (h c s b H D (I.wish _) a) (λ_ _ q=>q.unwish) λ_ _ z=>Oz z
end
section
variable{X:Cx}{n:K4}{rest:List K4}{t u:TS}{e:Kz}{te:TE}{m:Pos}
def tNext:TS:=λD l H=>D.nx l H
def tSeq(t u:TS):TS:=λD l H=>t {D with nx:=u D} l H
theorem qaz2:PSs X [] tNext:=λ_ _ l H _ I h=>wpAny_execs_nil ⟨l,H,I,h⟩
theorem qT0(h1:PS X n t)(h2:PSs X rest u):PSs X (n::rest) (tSeq t u):=by intro D8 s l H D I h;refine wpAny_execs_cons (thn (h1 D8 s l H {D with nx:=u D} I h) λf a q=>?_);cases f with|next=>obtain⟨l',H',I',q⟩:=q;exact h2 D8 a l' H' D I' q|ret v=>exact q|brk=>exact q|cont=>exact q
theorem qA5(h1:PS X n t):PSs X [n] t:=by intro D8 s l H D I h;refine wpAny_execs_cons (thn (h1 D8 s l H D I h) λf a q=>?_);cases f with|next=>exact wpAny_execs_nil q|ret v=>exact q|brk=>exact q|cont=>exact q
theorem Pd.quiet(I:Pd X D8 l H s):interactive X.env=false:=by simp[interactive,I.ok.kind]
def tDrop(te:TE):TS:=λD l H=>te l H λ_ H1=>D.nx l H1
theorem qaO9(a:PE X e te)(b:swapsWith e none m.line X.env=pure false:=by rfl):PS X (.Expr e m) (tDrop te):=by intro D8 s l H D I h;exact wpAny_Expr_any (thn (a D8 s l H _ I h) λv d ⟨x,H1,I1,f,c⟩=>⟨l,H1,I1,c⟩) I.quiet b
def tRet(te:TE):TS:=λD l H=>te l H D.rt
theorem Hr(a:PE X e te):PS X (.Return (some e) m) (tRet te):=by intro D8 s l H D I h;exact wpAny_Return_some (thn (a D8 s l H _ I h) λv d ⟨x,H1,I1,b,c⟩=>⟨x,l,H1,I1,b,c⟩)
def tIfS(c:TT)(t u:TS):TS:=λD l H=>c l H λb H1=>if b=true then t D l H1 else u D l H1
theorem ps_if(i:PT X c tc)(j:PSs X a t)(k:PSs X b u):PS X (.If c a b m) (tIfS tc t u):=by intro D8 s l H D I h;refine wpAny_If (thn (i D8 s l H _ I h) λd f e=>?_);obtain⟨H1,I1,g⟩:=e;cases d with|true=>exact j D8 f l H1 D I1 g|false=>exact k D8 f l H1 D I1 g
def qaY5:TS:=λ_ _ _=>False
theorem qaF0:PS X n qaY5:=λ_ _ _ _ _ _ h=>h.elim
end
abbrev TG:=V->St->Hp->(St->Hp->Prop)->Prop
abbrev TGs:=List V->St->Hp->(St->Hp->Prop)->Prop
def PG(X:Cx)(target:Kz)(t:TG):Prop:=∀(D8:List (γ×Obj))(s:δ)(a:St)(H:Hp)(v:V)(u:V')(Q:St->Hp->Prop),Pd X D8 a H s->Pa v u->t v a H Q->Ku (Kv X.prog X.w) X.A (assign target X.env u) (λ_ s'=>∃a' H',Pd X D8 a' H' s'/\Q a' H') X.xe s
def PGs(X:Cx)(a:List Kz)(t:TGs):Prop:=∀(D8:List (γ×Obj))(s:δ)(b:St)(H:Hp)(vs:List V)(us:List V')(Q:St->Hp->Prop),Pd X D8 b H s->Pb vs us->t vs b H Q->Ku (Kv X.prog X.w) X.A (assignInOrder ((Ks a X.env).map (·.2)) us) (λ_ s'=>∃b' H',Pd X D8 b' H' s'/\Q b' H') X.xe s
abbrev Iq:=V->V->V->Hp->(Hp->Prop)->Prop
def PSet(X:Cx)(t:Iq):Prop:=∀(D8:List (γ×Obj))(s:δ)(a:St)(H:Hp)(o i v:V)(ov iv u:V')(Q:Hp->Prop),Pd X D8 a H s->Pa o ov->Pa i iv->Pa v u->t o i v H Q->Ku (Kv X.prog X.w) X.A (setItem ov iv u) (λ_ s'=>∃H',Pd X D8 a H' s'/\Q H') X.xe s
abbrev TIp:=V->V->Hp->VK->Prop
def PIp(X:Cx)(op:Operator)(t:TIp):Prop:=∀(D8:List (γ×Obj))(s:δ)(a:St)(H:Hp)(x y:V)(v u:V')(Q:VK),Pd X D8 a H s->Pa x v->Pa y u->t x y H Q->Ku (Kv X.prog X.w) X.A (inplaceOp op v u) (EP X D8 a Q) X.xe s
section
variable{X:Cx}{pos:Pos}
def E2(i:Nat):TG:=λv R H Q=>Q (R.set i (some v)) H
theorem qaz4(a:X.N.Nodup)(hi:X.N[i]?=some x)(b:Loc X.env.scope x)(c:X.fn x=true∨X.env.scope.names.lookup x=some .local:=by first|exact .inl rfl|exact .inr rfl|assumption):PG X (.Name x pos) (E2 i):=by intro D8 s R H v u Q I r h;exact wpAny_assign_Name (qQ8 I a hi b r (λd I'=>⟨_,H,I',h⟩) c)
def gNil:TGs:=λvs R H Q=>vs=[]/\Q R H
def gCons(t:TG)(u:TGs):TGs:=λvs R H Q=>∃v r,vs=v::r/\t v R H λR' H'=>u r R' H' Q
theorem qaP5:PGs X [] gNil:=by intro D8 s R H a b Q I r h;obtain⟨e,h⟩:=h;subst e;cases r;exact assignInOrder_nil ⟨R,H,I,h⟩
theorem qaF4(h1:PG X e t)(h2:PGs X es u)(b:(Ks (e::es) X.env).map (·.2)=assign e X.env::(Ks es X.env).map (·.2):=by rfl):PGs X (e::es) (gCons t u):=by intro D8 s R H i j Q I r h;obtain⟨v,k,c,h⟩:=h;subst c;cases r with|cons r d=>rw[b];refine assignInOrder_cons (thn (h1 D8 s R H _ _ _ I r h) λ_ f a=>?_);obtain⟨σ1,H1,I1,g⟩:=a;exact h2 D8 f σ1 H1 _ _ Q I1 d g
def gTup(K:N7)(n:Nat)(t:TGs):TG:=λv R H Q=>∃a xs,v=.ref a/\SqT K H a xs/\xs.length=n/\t xs R H Q
theorem qaZ7(g:X.calm=true)(h:PGs X es t)(i:(Ks es X.env).length=n:=by rfl)(c:(Ks es X.env).findIdx? (·.1)=none:=by rfl):PG X (.Tuple es k pos) (gTup X.K n t):=by intro D8 s R H v u Q I r d;obtain⟨a,j,l,m,p,d⟩:=d;subst l;cases r;obtain⟨q,f,w,z⟩:=I.tuple m;refine assign_Tuple_tuple (I.ok.hd g) w (by simp[i,<-p,f.length]) c λx y=>?_;have I1:Pd X D8 R H {s with heap:=x}:=I.kept (t':=s.toks) λb o e=>y b o (zAt (zAc e)) e;exact h D8 _ R H j _ Q I1 (by simpa using f) d
def gSub(to a:TE)(t:Iq):TG:=λv R H Q=>to R H λo H1=>a R H1 λi H2=>t o i v H2 λH3=>Q R H3
theorem qaZ8{o i:Kz}{to b:TE}{t:Iq}(c:PE X o to)(hi:PE X i b)(d:PSet X t)(e:∀v,assign (.Subscript o i pos) X.env v=(do
 let ov<-holding [v] (eval o X.env)
 let iv<-holding [v,ov] (eval i X.env)
 standAt pos
 holding [v,ov,iv] (setItem ov iv v)
 release [v,ov,iv] []):=by intro _;rfl):PG X (.Subscript o i pos) (gSub to b t):=by intro D8 s R H v u Q I r h;rw[e];refine E' (Kf (thn (c D8 s R H _ I h) λov f a=>?_));obtain⟨x,H1,I1,g,j⟩:=a;refine E' (Kf (thn (hi D8 f R H1 _ I1 j) λiv k a=>?_));obtain⟨y,H2,I2,l,q2⟩:=a;refine E' (wpAny_standAt (E' (Kf (thn (d D8 k R H2 x y v ov iv u _ I2 g l r q2) λ_ n a=>?_))));obtain⟨H3,I3,m⟩:=a;exact wpAny_release ⟨R,H3,I3,m⟩
def Ht(te:TE)(g:TG):TS:=λD R H=>te R H λx H1=>g x R H1 D.nx
theorem qaZ4(b:PE X e te)(c:PG X tg g)(d:swapsWithSole [tg] e pos.line X.env=pure false:=by rfl)(f:swappedStores [tg] e X.env=pure none:=by rfl)(h1:(Ks [tg] X.env).map (·.2)=[assign tg X.env]:=by rfl):PS X (.Assign [tg] e pos) (Ht te g):=by intro D8 s R H D I h;refine wpAny_Assign_stores (thn (b D8 s R H _ I h) λv i a=>?_) d f;obtain⟨x,H1,I1,j,k⟩:=a;rw[h1];exact thn (c D8 i R H1 x v _ I1 j k) λ_ l q=>q
theorem qaO8(b:X.N.Nodup)(hi:X.N[i]?=some x)(c:Loc X.env.scope x)(d:PE X e te)(f:swapsWith e (some (.Name x pos')) pos.line X.env=pure false:=by rfl)(g:X.fn x=true∨X.env.scope.names.lookup x=some .local:=by first|exact .inl rfl|exact .inr rfl|assumption):PS X (.Assign [.Name x pos'] e pos) (Ht te (E2 i)):=by intro D8 s R H D I h;refine wpAny_Assign_Name (thn (d D8 s R H _ I h) λv l a=>?_) f;obtain⟨y,H1,I1,j,k⟩:=a;exact qQ8 I1 b hi c j (λm I2=>⟨_,H1,I2,k⟩) g
def tAugS(to b te:TE)(tget:V->V->Hp->VK->Prop)(a:TIp)(tset:Iq):TS:=λD R H=>to R H λo H1=>b R H1 λi H2=>tget o i H2 λx H3=>te R H3 λy H4=>a x y H4 λz H5=>tset o i z H5 λH6=>D.nx R H6
def PGet(X:Cx)(t:V->V->Hp->VK->Prop):Prop:=∀(D8:List (γ×Obj))(s:δ)(R:St)(H:Hp)(o i:V)(ov iv:V')(Q:VK),Pd X D8 R H s->Pa o ov->Pa i iv->t o i H Q->Ku (Kv X.prog X.w) X.A (getItem ov iv) (EP X D8 R Q) X.xe s
theorem qaP0{i:Kz}{op:Operator}(p:PE X o to)(hi:PE X i j)(q:PGet X tget)(r:PE X e te)(t:PIp X op f)(u:PSet X tset)(w:∀c d b,augStore i c d b=(do holding [b,c,d] (setItem c d b);release [b,c,d] [];pure .next):=by intros;rfl):PS X (.AugAssign (.Subscript o i tpos) op e pos) (tAugS to j te tget f tset):=by intro D8 s R H D I h;refine wpAny_AugAssign_SubscriptAny (thn (p D8 s R H _ I h) λc x a=>?_) w;obtain⟨k,H1,I1,l,y⟩:=a;refine thn (hi D8 x R H1 _ I1 y) λd z a=>?_;obtain⟨m,H2,I2,n,q2⟩:=a;refine thn (q D8 z R H2 k m c d _ I2 l n q2) λg A a=>?_;obtain⟨B,H3,I3,C,E⟩:=a;refine thn (r D8 A R H3 _ I3 E) λv F a=>?_;obtain⟨G,H4,I4,J,K⟩:=a;refine thn (t D8 F R H4 B G g v _ I4 C J K) λb L a=>?_;obtain⟨M,H5,I5,N,O⟩:=a;exact thn (u D8 L R H5 k m M c d b _ I5 l n N O) λ_ Q ⟨H6,I6,P⟩=>⟨R,H6,I6,P⟩
def ipI(f:Int->Int->Int):TIp:=λx y H Q=>∃i j,x=.int i/\y=.int j/\Q (.int (f i j)) H
theorem qbd3:PIp X .Add (ipI λi j=>i+j):=by intro D8 s R H x y v u Q I a b h;obtain⟨i,j,c,e2,q⟩:=h;subst c;subst e2;obtain⟨t,rfl⟩:=a;obtain⟨d,rfl⟩:=b;exact iadd_int ⟨.int _,H,I.tok _,⟨_,rfl⟩,q⟩
end
section
variable{X:Cx}{B:Pos}
def qaY4(c:TT)(tb:TS):TS:=λD z H=>∃W:Nat->St->Hp->Prop,(∃m,W m z H)/\∀m z H,W m z H->c z H λb H1=>if b=true then ∃N:St->Hp->Prop,(∀z' H',N z' H'->∃a,a<m/\W a z' H')/\tb {D with nx:=N,ct:=N,bk:=D.nx} z H1 else D.nx z H1
theorem qaE9(k:PassesOwn (Kv X.prog X.w) X.A X.env X.xe)(m:PT X c tc)(o:PSs X body tb):PS X (.While c body [] B) (qaY4 tc tb):=by intro D8 s z H D I h;obtain⟨W,⟨p,q⟩,turn⟩:=h;refine wpAny_While (codeAny_whileLoop (λn r=>∃z' H',Pd X D8 z' H' r/\W n z' H') ?_ p ⟨z,H,I,q⟩);rintro n t ⟨σ1,H1,I1,u⟩;refine Kq k (thn (m D8 t σ1 H1 _ I1 (turn n σ1 H1 u)) λb x d=>?_);obtain⟨H2,I2,q2⟩:=d;cases b with|true=>(obtain⟨N,l,q2⟩:=q2;rw[if_pos rfl];refine Kq k (thn (o D8 x σ1 H2 _ I2 q2) λf y a=>?_);cases f with|next=>obtain⟨σ3,H3,I3,e⟩:=a;obtain⟨g,i,j⟩:=l σ3 H3 e;exact⟨g,i,σ3,H3,I3,j⟩|cont=>obtain⟨σ3,H3,I3,e⟩:=a;obtain⟨g,i,j⟩:=l σ3 H3 e;exact⟨g,i,σ3,H3,I3,j⟩|brk=>exact a|ret v=>exact a)|false=>rw[if_neg zAx];exact wpAny_execs_nil ⟨σ1,H2,I2,q2⟩
end
structure It where
 go:Nat->Hp->Prop
 yld:Nat->Hp->V->Hp->Prop
 stop:Nat->Hp->Prop
def F5(X:Cx)(D8:List (γ×Obj))(H:Hp)(b:γ):Prop:=H b=none/\b≠X.env.locals/\b∉X.fs/\(b∈X.ex∨X.s₀.heap.objs.size<=b)/\(∀x c,X.env.cells.lookup x=some c->c≠b)/\∀p∈X.pn++D8,p.1≠b
theorem Pd.fpOk(I:Pd X D8 g H s)(a:s.heap.objs.size<=b)(d:H' b=none):F5 X D8 H' b:=by refine⟨d,Nat.ne_of_gt (zAm I.lt a),I.nofs a,.inr (zAn I.sz a),λx c e z=>?_,λp f z=>?_⟩;{obtain⟨v,q⟩:=I.cell x c e;exact absurd (zAm q.lt (by rw[z];exact a)) (zCf _)};exact absurd (zAm (zAc (I.pin p f).1) (by rw[z];exact a)) (zCf _)
structure F9(P:Kw)(w:Ky)(K:N7)(tg:Kz)(J:It)(fp:List γ)(it:γ)(tn:Nat->Heap->Prop):Prop where
 mem:it∈fp
 obj:∀i h,tn i h->∀b∈fp,∃o,h.get? b=some o/\∀v,o.data≠.cell v
 keep:∀i h h',tn i h->(∀b∈fp,∀o,h.get? b=some o->h'.get? b=some o)->tn i h'
 item:∀(X:Cx),X.prog=P->X.w=w->X.K=K->X.calm=true->∀(i:Nat)(D8:List (γ×Obj))(s:δ)(a:St)(H:Hp)(E:V'->δ->Prop),Pd X D8 a H s->(∀b∈fp,F5 X D8 H b)->tn i s.heap->J.go i H->Ku (Kv P w) X.A (pyNext (.ref it)) (λr s1=>∃u,r=some u/\Ku (Kv P w) X.A (letOwnedTupleGo tg (.ref it) u) (λ_ s2=>∃x H',Pd X D8 a H' s2/\Pa x u/\J.yld i H x H'/\tn (i+1) s2.heap/\∀b∈fp,H' b=none) E s1) E s
 done:∀(X:Cx),X.prog=P->X.w=w->X.K=K->X.calm=true->∀(i:Nat)(D8:List (γ×Obj))(s:δ)(a:St)(H:Hp)(E:V'->δ->Prop),Pd X D8 a H s->(∀b∈fp,F5 X D8 H b)->tn i s.heap->J.stop i H->Ku (Kv P w) X.A (pyNext (.ref it)) (λr s1=>r=none/\Pd X D8 a H s1) E s
 self:∀(A:Kx)(i:Nat)(s:δ)(Q:V'->δ->Prop)(E:V'->δ->Prop),tn i s.heap->Q (.ref it) s->Ku (Kv P w) A (pyIter (.ref it)) Q E s
abbrev TI:=St->Hp->(It->Hp->Prop)->Prop
def PIE(X:Cx)(D8:List (γ×Obj))(c:St)(tg:Kz)(R:It->Hp->Prop)(a:V')(s2:δ):Prop:=∃(it:γ)(fp:List γ)(tn:Nat->Heap->Prop)(J:It)(H':Hp),a=.ref it/\Pd X D8 c H' s2/\F9 X.prog X.w X.K tg J fp it tn/\tn 0 s2.heap/\(∀b∈fp,F5 X D8 H' b)/\R J H'
def PI(X:Cx)(tg iter:Kz)(wi:TI):Prop:=∀(D8:List (γ×Obj))(s:δ)(b:St)(H:Hp)(R:It->Hp->Prop),Pd X D8 b H s->wi b H R->Ku (Kv X.prog X.w) X.A (eval iter X.env) (λv a=>Ku (Kv X.prog X.w) X.A (pyIter v) (PIE X D8 b tg R) X.xe a) X.xe s
theorem G5{n:String}(b:s.heap.get? it=some o)(c:o.cls=.type n)(d:o.data=.fields vs)(e:["enumerate", "zip", "dict_itemiterator", "dict_reverseitemiterator", "odict_iterator", "itertools.zip_longest", "itertools.pairwise"].contains n=false)(a:Q () s):Ku M A (letOwnedTupleGo tg (.ref it) u) Q E s:=by
 unfold letOwnedTupleGo;cases tg<;>first
  |exact J' a
  |(cases u<;>first
   |exact J' a
   |(refine E' (wpAny_load b ?_);rw[c,d];show Ku M A (if (["enumerate", "zip", "dict_itemiterator", "dict_reverseitemiterator", "odict_iterator", "itertools.zip_longest", "itertools.pairwise"].contains n&&vs[0]?==some (rawInt _))=true then _ else _) Q E s;rw[if_neg (by intro h;rw[e,Bool.false_and] at h;cases h)];exact J' a))
noncomputable def Itl(K:N7)(a:γ):It:=⟨λi H=>∃xs x,SqL K H a xs/\xs[i]?=some x,λi H x H'=>H'=H/\∀xs,SqL K H a xs->xs[i]?=some x,λi H=>∃xs,SqL K H a xs/\xs.length<=i⟩
noncomputable def Itt(K:N7)(a:γ):It:=⟨λi H=>∃xs x,SqT K H a xs/\xs[i]?=some x,λi H x H'=>H'=H/\∀xs,SqT K H a xs->xs[i]?=some x,λi H=>∃xs,SqT K H a xs/\xs.length<=i⟩
noncomputable def Itr(lo:Int)(n:Nat):It:=⟨λi _=>i<n,λi H x H'=>H'=H/\x=.int (lo+i),λi _=>n<=i⟩
theorem qar2{P:Kw}{w:Ky}{K:N7}{tg:Kz}(a it:γ):F9 P w K tg (Itl K a) [it] it (λi h=>h.IsListIter it a i) where
 mem:=by simp
 obj:=λi h f b g=>by
  have e:b=it:=by simpa using g
  subst e;obtain⟨o,e,c,d⟩:=f;exact⟨o,e,λv z=>by rw[d] at z;cases z⟩
 keep:=λi h l f k=>f.at λo e=>k it (by simp) o e
 item:=by
  intro X q r t J i D8 s R H E I m f y;subst q r t;obtain⟨L,x,n,A⟩:=y;obtain⟨B,C,p,M⟩:=I.list n;obtain⟨u,N,O⟩:=C.get A;obtain⟨D,f1,f2,f3,F,G⟩:=m it (by simp);refine wpAny_pyNext_list_item f p.isList (x:=u) (by simpa using N) λl j Q=>?_
  have I1:Pd X D8 R H {s with heap:=l}:=I.turned (t':=s.toks) (λb o g e=>(Q.2 b g).trans e) D f1 f3 F G;obtain⟨o,e,c,d⟩:=id j;exact⟨u,rfl,G5 (s:={s with heap:=l}) e c d ∅ ⟨x,H,I1,O,⟨rfl,λU S=>by rw[I.list_inj S n];exact A⟩,j,λb g=>(m b g).1⟩⟩
 done:=by
  intro X q r t J i D8 s R H E I m f y;subst q r t;obtain⟨L,n,A⟩:=y;obtain⟨B,C,p,M⟩:=I.list n;obtain⟨D,f1,f2,f3,F,G⟩:=m it (by simp);have V:=C.length;exact wpAny_pyNext_list_end (I.ok.hd J) f p.isList (by simp;lia) λl T=>⟨rfl,I.turned (t':=s.toks) (λb o g e=>T b o g e) D f1 f3 F G⟩
 self:=λ_ _ _ _ _ f h=>wpAny_pyIter_listiter f h
theorem qae7{P:Kw}{w:Ky}{K:N7}{tg:Kz}(a it:γ):F9 P w K tg (Itt K a) [it] it (λi h=>h.IsTupleIter it a i) where
 mem:=by simp
 obj:=λi h f b g=>by
  have e:b=it:=by simpa using g
  subst e;obtain⟨o,e,c,d⟩:=f;exact⟨o,e,λv z=>by rw[d] at z;cases z⟩
 keep:=λi h m f k=>f.at λo e=>k it (by simp) o e
 item:=by
  intro X r t y J i D8 s R H E I n f A;subst r t y;obtain⟨L,x,q,B⟩:=A;obtain⟨j,C,p,M⟩:=I.tuple q;obtain⟨u,N,O⟩:=C.get B;obtain⟨D,f1,f2,f3,F,G⟩:=n it (by simp);refine wpAny_pyNext_tuple_item f (show s.heap.IsTuple a j.toArray from p) (x:=u) (by simpa using N) λm l Q=>?_
  have I1:Pd X D8 R H {s with heap:=m}:=I.turned (t':=s.toks) (λb o g e=>(Q.2 b g).trans e) D f1 f3 F G;obtain⟨o,e,c,d⟩:=id l;exact⟨u,rfl,G5 (s:={s with heap:=m}) e c d ∅ ⟨x,H,I1,O,⟨rfl,λU S=>by rw[I.tuple_inj S q];exact B⟩,l,λb g=>(n b g).1⟩⟩
 done:=by
  intro X r t y J i D8 s R H E I n f A;subst r t y;obtain⟨L,q,B⟩:=A;obtain⟨j,C,p,M⟩:=I.tuple q;obtain⟨D,f1,f2,f3,F,G⟩:=n it (by simp);have V:=C.length;exact wpAny_pyNext_tuple_end (I.ok.hd J) f (show s.heap.IsTuple a j.toArray from p) (by simp;lia) λm T=>⟨rfl,I.turned (t':=s.toks) (λb o g e=>T b o g e) D f1 f3 F G⟩
 self:=λ_ _ _ _ _ f h=>wpAny_pyIter_tupleiter f h
theorem qae8{P:Kw}{w:Ky}{K:N7}{tg:Kz}(it:γ)(lo:Int)(n:Nat):F9 P w K tg (Itr lo n) [it] it (λi h=>IsRangeIter h it (lo+(i:Nat)*1) ((n:Int)-(i:Nat)) 1) where
 mem:=by simp
 obj:=λi h a b c=>by
   have e:b=it:=by simpa using c
   subst e;exact⟨_,a,λv z=>by
     have A:Data.fields _=Data.cell v:=z;cases A⟩
 keep:=λi h f a k=>k it (by simp) _ a
 item:=by
   intro X j l m p i D8 s F H E I g a q;subst j l m;obtain⟨r,f1,f2,f3,u,x⟩:=g it (by simp);have W:=Walks.range (prog:=X.prog) (w:=X.w) (I.ok.hd p) it lo 1 n;refine W.item i s _ _ q a λv f y B d C=>?_
   obtain⟨t,rfl⟩:=B;have I1:Pd X D8 F H {s with heap:=f,toks:=y}:=I.turned (λb o c e=>C b o (by simpa using c) e) r f1 f3 u x;refine⟨_,rfl,G5 (s:={s with heap:=f,toks:=y}) (n := "range_iterator") d rfl rfl ∅ ⟨.int (lo+i),H,I1,⟨t,?_⟩,⟨rfl,rfl⟩,d,λb c=>(g b c).1⟩⟩;rw[Int.mul_one]
 done:=by
   intro X j l m p i D8 s F H E I g a q;subst j l m;obtain⟨r,f1,f2,f3,u,x⟩:=g it (by simp);exact wpAny_pyNext_range_end (I.ok.hd p) a (by have:n<=i:=q;lia) λf D=>⟨rfl,I.turned (t':=s.toks) (λb o c e=>D b o c e) r f1 f3 u x⟩
 self:=λ_ _ _ _ _ a h=>wpAny_pyIter_rangeiter a h
section
variable{X:Cx}{tg:Kz}
def G6(K:N7)(tl:TE):TI:=λσ H R=>tl σ H λx H1=>∃a,x=.ref a/\(∃xs,SqL K H1 a xs)/\R (Itl K a) H1
def iTup(K:N7)(tl:TE):TI:=λσ H R=>tl σ H λx H1=>∃a,x=.ref a/\(∃xs,SqT K H1 a xs)/\R (Itt K a) H1
theorem qA6(f:PE X l tl):PI X tg l (G6 X.K tl):=by
 intro D8 s σ H R I h;refine thn (f D8 s σ H _ I h) λv c d=>?_;obtain⟨x,H1,I1,g,i⟩:=d;obtain⟨a,e,⟨n,j⟩,q⟩:=i;subst e;cases g;obtain⟨k,r,p,t⟩:=I1.list j;refine wpAny_pyIter_list p.isList ?_;refine⟨c.heap.objs.size,[c.heap.objs.size],_,_,H1,rfl,I1.kept (t':=c.toks) λb o e=>zA3 _ e,qar2 a _,⟨_,zAo _ rfl,rfl,rfl⟩,λb m=>?_,q⟩;have e:b=c.heap.objs.size:=by simpa using m
 subst e;exact I1.fpOk (zA2 _) (I1.hok.fresh (zA2 _))
theorem qaZ5{l:Kz}{tl:TE}(g:PE X l tl):PI X tg l (iTup X.K tl):=by
 intro D8 s σ H R I h;refine thn (g D8 s σ H _ I h) λv c d=>?_;obtain⟨x,H1,I1,i,j⟩:=d;obtain⟨a,e,⟨n,k⟩,q⟩:=j;subst e;cases i;obtain⟨f,r,p,t⟩:=I1.tuple k;refine wpAny_pyIter_tuple (show c.heap.IsTuple a f.toArray from p) ?_;refine⟨c.heap.objs.size,[c.heap.objs.size],_,_,H1,rfl,I1.kept (t':=c.toks) λb o e=>zA3 _ e,qae7 a _,⟨_,zAo _ rfl,rfl,rfl⟩,λb m=>?_,q⟩;have e:b=c.heap.objs.size:=by simpa using m
 subst e;exact I1.fpOk (zA2 _) (I1.hok.fresh (zA2 _))
theorem qaE7{lo:Int}(I:Pd X D8 σ H s)(h1:-(2 ^ 62)<=lo)(h2:lo<2 ^ 62)(c:-(2 ^ 62)<=hi)(d:hi<2 ^ 62)(q:R (Itr lo (hi-lo).toNat) H):Ku (Kv X.prog X.w) X.A (pyIter (.ref s.heap.objs.size)) (PIE X D8 σ tg R) E {s with heap:=s.heap.push {cls:=.type "range",data:=.fields #[.int lo t,.int hi u,.int 1 v]},toks:=a}:=by
 refine wpAny_pyIter_range (IsRange.new ..) (small_one h1 h2 c d) ?_;have I1:Pd X D8 σ H {s with heap:=s.heap.push {cls:=.type "range",data:=.fields #[.int lo t,.int hi u,.int 1 v]},toks:=a}:=I.kept λb o e=>zA3 _ e;refine⟨(s.heap.push {cls:=.type "range",data:=.fields #[.int lo t,.int hi u,.int 1 v]}).objs.size,[(s.heap.push {cls:=.type "range",data:=.fields #[.int lo t,.int hi u,.int 1 v]}).objs.size],_,_,H,rfl,
  I1.kept (t':=a) λb o e=>zA3 _ e,qae8 _ lo (hi-lo).toNat,?_,λb f=>?_,q⟩
 .have g:lo+((0:Nat):Int)*1=lo:=by simp
  have e2:(((hi-lo).toNat:Nat):Int)-((0:Nat):Int)=Builtin.Range.rangeSize lo hi 1:=by rw[rangeSize_one];split<;>lia
  show IsRangeIter _ _ (lo+((0:Nat):Int)*1) ((((hi-lo).toNat:Nat):Int)-((0:Nat):Int)) 1;rw[g,e2];exact zAo _ rfl
 have e:b=(s.heap.push {cls:=.type "range",data:=.fields #[.int lo t,.int hi u,.int 1 v]}).objs.size:=by simpa using f
 subst e;exact I1.fpOk (zA2 _) (I1.hok.fresh (zA2 _))
def iRng1(ta:TA):TI:=λσ H R=>ta σ H λvs H1=>∃j:Int,vs=[.int j]/\-(2 ^ 62)<=j/\j<2 ^ 62/\R (Itr 0 j.toNat) H1
theorem qI6(d:Gl X "range")(hm:X.mg "range"=none)(f:PA X [a] ta)(g:Kb [a] X.env=[(false,eval a X.env)]:=by rfl):PI X tg (.Call (.Name "range" p) [a] [] pos) (iRng1 ta):=by intro D8 s σ H R I h;refine Call_ (qN9 I d hm boot_range (PyProof.Rows.callWith_type1 (thn (f pos D8 s σ H _ I h) λl m b=>?_) g rfl));obtain⟨n,H1,I1,i,c⟩:=b;obtain⟨j,e,c,q2,q⟩:=c;subst e;cases i with|cons r k=>cases k;obtain⟨t,rfl⟩:=r;exact call_range_1 (qaE7 I1 ⋯ ⋯ c q2 (by simpa using q))
def tFor(wi:TI)(g:TG)(tb:TS):TS:=λD σ H=>wi σ H λJ H1=>∃W:Nat->Nat->St->Hp->Prop,(∃m,W 0 m σ H1)/\∀i m σ H,W i m σ H->(J.stop i H/\D.nx σ H)∨(J.go i H/\∃N:St->Hp->Prop,(∀σ' H',N σ' H'->∃a,a<m/\W (i+1) a σ' H')/\∀x H',J.yld i H x H'->g x σ H' λσ2 H2=>tb {D with nx:=N,ct:=N,bk:=D.nx} σ2 H2)
noncomputable def Ir(fp:List γ)(h:Heap):List (γ×Obj):=fp.filterMap λb=>(h.get? b).map λo=>(b,o)
theorem qs6(a:b∈fp)(e:h.get? b=some o):(b,o)∈Ir fp h:=zC0.mpr ⟨b,a,by rw[e];rfl⟩
theorem qat4(a:p∈Ir fp h):p.1∈fp/\h.get? p.1=some p.2:=by obtain⟨b,c,e⟩:=zC0.mp a;cases q:h.get? b with|none=>rw[q] at e;cases e|some o=>rw[q] at e;have d:(b,o)=p:=N5 e;subst d;exact⟨c,q⟩
theorem Pd.pinned(I:Pd X D8 σ H s)(f:∀b∈fp,F5 X D8 H b)(g:∀b∈fp,∃o,s.heap.get? b=some o/\∀v,o.data≠.cell v):Pd X (D8++Ir fp s.heap) σ H s:=I.pins_of λp h=>(zAb.mp h).elim (λz=>I.pin p (zAw _ z)) λz=>by
 obtain⟨a,e⟩:=qat4 z;obtain⟨i,f1,f2,_⟩:=f p.1 a;obtain⟨o,c,d⟩:=g p.1 a;rw[e] at c;cases c;exact⟨e,i,f1,f2,d⟩
theorem Pd.unpinned{pl:List (γ×Obj)}(I:Pd X (D8++pl) σ H s):Pd X D8 σ H s:=I.pins_of λp a=>I.pin p (zAw _ (zC4 _ a))
theorem Iu(l:PassesOwn (Kv X.prog X.w) X.A X.env X.xe)(F:X.calm=true)(hi:PI X tg iter wi)(O:PG X tg g)(c:PSs X body tb)(P:∀x,Ke iter X.env x=pure x:=by intro _;rfl):PS X (.For tg iter body [] pos) (tFor wi g tb):=by
 intro D8 s σ H D I h;refine wpAny_For (thn (hi D8 s σ H _ I h) λv s1 Q=>thn Q λR s2 S=>?_) P;obtain⟨it,p,G,J,H2,e,I2,T,z,f2,W,⟨U,V⟩,turn⟩:=S;subst e;have stat:∀{H':Hp},(∀b∈p,H' b=none)->∀b∈p,F5 X D8 H' b:=λY b c=>⟨Y b c,(f2 b c).2⟩;refine codeAny_forLoop_any (λn K=>∃i σ' H',Pd X D8 σ' H' K/\G i K.heap/\(∀b∈p,H' b=none)/\W i n σ' H') ?_ U ⟨0,σ,H2,I2,z,λb c=>(f2 b c).1,V⟩;rintro n L ⟨i,σ3,H3,I3,q,t,Z⟩;rcases turn i n σ3 H3 Z with⟨stop,qn⟩|⟨go,N,hN,step⟩;{refine Kq l (thn (T.done X rfl rfl rfl F i D8 L σ3 H3 X.xe I3 (stat t) q stop) λr s4 a=>?_);obtain⟨B,I4⟩:=a;subst B;exact wpAny_execs_nil ⟨σ3,H3,I4,qn⟩};refine Kq l (thn (T.item X rfl rfl rfl F i D8 L σ3 H3 X.xe I3 (stat t) q go) λr s4 a=>?_);obtain⟨u,B,h4⟩:=a;subst B;refine Kq l (thn h4 λ_ M a=>?_);obtain⟨x,H5,I5,r5,y5,k,C⟩:=a;have I5':=I5.pinned (stat C) (T.obj _ _ k);refine Kq l (thn (O _ M σ3 H5 x u _ I5' r5 (step x H5 y5)) λ_ s6 a=>?_);obtain⟨σ6,H6,I6,q6⟩:=a;refine Kq l (thn (c _ s6 σ6 H6 _ I6 q6) λf E j=>?_);have again:∀{σ7:St}{H7:Hp},Pd X (D8++Ir p M.heap) σ7 H7 E->N σ7 H7->∃m,m<n/\∃i σ' H',Pd X D8 σ' H' E/\G i E.heap/\(∀b∈p,H' b=none)/\W i m σ' H':=λ{σ7 H7} I7 y=>by obtain⟨m',hm,w7⟩:=hN σ7 H7 y;refine⟨m',hm,i+1,σ7,H7,I7.unpinned,T.keep _ _ _ k λb c o e=>(I7.pin (b,o) (zAw _ (zAw _ (qs6 c e)))).1,λb c=>?_,w7⟩;obtain⟨o,e,d⟩:=T.obj _ _ k b c;exact(I7.pin (b,o) (zAw _ (zAw _ (qs6 c e)))).2.1
 cases f with|next=>obtain⟨σ7,H7,I7,y⟩:=j;exact again I7 y|cont=>obtain⟨σ7,H7,I7,y⟩:=j;exact again I7 y|brk=>obtain⟨σ7,H7,I7,j⟩:=j;exact⟨σ7,H7,I7.unpinned,j⟩|ret v=>obtain⟨x7,σ7,H7,I7,r7,j⟩:=j;exact⟨x7,σ7,H7,I7.unpinned,r7,j⟩
end
theorem qao4{K:N7}{g:TG}{tb:TS}{D:Dl}{n:St}(Pv:Nat->St->Hp->Prop)(d:Pv 0 n H)(f:∀i n H,i<=xs.length->Pv i n H->SqL K H a xs)(h:∀i x n H,xs[i]?=some x->Pv i n H->g x n H λσ2 H2=>tb {D with nx:=Pv (i+1),ct:=Pv (i+1),bk:=D.nx} σ2 H2)(j:∀n H,Pv xs.length n H->D.nx n H):∃W:Nat->Nat->St->Hp->Prop,(∃m,W 0 m n H)/\∀i m n H,W i m n H->((Itl K a).stop i H/\D.nx n H)∨((Itl K a).go i H/\∃N:St->Hp->Prop,(∀n' H',N n' H'->∃c,c<m/\W (i+1) c n' H')/\∀x H',(Itl K a).yld i H x H'->g x n H' λσ2 H2=>tb {D with nx:=N,ct:=N,bk:=D.nx} σ2 H2):=by refine⟨λi m n H=>m=xs.length-i/\i<=xs.length/\Pv i n H,⟨xs.length,by simp,zBb _,d⟩,?_⟩;rintro i m n H ⟨rfl,k,p⟩;have q:=f i n H k p;by_cases b:i<xs.length;{refine .inr ⟨⟨xs,xs[i],q,by simp[b]⟩,Pv (i+1),λn' H' l=>⟨xs.length-(i+1),⋯,rfl,b,l⟩,λx H' y=>?_⟩;obtain⟨e,y⟩:=y;subst e;exact h i x n _ (y xs q) p};have e:i=xs.length:=⋯;subst e;exact .inl ⟨⟨xs,q,zA2 _⟩,j n H p⟩
theorem qau8{lo:Int}{g:TG}{tb:TS}{D:Dl}(Pv:Nat->St->Hp->Prop)(c:Pv 0 k H)(d:∀i k H,i<n->Pv i k H->g (.int (lo+i)) k H λσ2 H2=>tb {D with nx:=Pv (i+1),ct:=Pv (i+1),bk:=D.nx} σ2 H2)(f:∀k H,Pv n k H->D.nx k H):∃W:Nat->Nat->St->Hp->Prop,(∃m,W 0 m k H)/\∀i m k H,W i m k H->((Itr lo n).stop i H/\D.nx k H)∨((Itr lo n).go i H/\∃N:St->Hp->Prop,(∀k' H',N k' H'->∃b,b<m/\W (i+1) b k' H')/\∀x H',(Itr lo n).yld i H x H'->g x k H' λσ2 H2=>tb {D with nx:=N,ct:=N,bk:=D.nx} σ2 H2):=by refine⟨λi m k H=>m=n-i/\i<=n/\Pv i k H,⟨n,by simp,zBb _,c⟩,?_⟩;rintro i m k H ⟨rfl,j,p⟩;by_cases a:i<n;{refine .inr ⟨a,Pv (i+1),λk' H' h=>⟨n-(i+1),⋯,rfl,a,h⟩,λx H' y=>?_⟩;obtain⟨e,y⟩:=y;subst e y;exact d i k _ a p};have e:i=n:=⋯;subst e;exact .inl ⟨zA2 _,f k H p⟩
abbrev R2:=V->V->Hp->VK->Prop
def OpR(X:Cx)(f:V'->V'->Sem V')(r:R2):Prop:=∀(D8:List (γ×Obj))(s:δ)(a:St)(H:Hp)(x y:V)(v u:V')(Q:VK),Pd X D8 a H s->Pa x v->Pa y u->r x y H Q->Ku (Kv X.prog X.w) X.A (f v u) (EP X D8 a Q) X.xe s
def UnR(X:Cx)(f:V'->Sem V')(r:V->Hp->VK->Prop):Prop:=∀(D8:List (γ×Obj))(s:δ)(a:St)(H:Hp)(x:V)(v:V')(Q:VK),Pd X D8 a H s->Pa x v->r x H Q->Ku (Kv X.prog X.w) X.A (f v) (EP X D8 a Q) X.xe s
def CallR(X:Cx)(f:V')(r:List V->Hp->VK->Prop):Prop:=∀(D8:List (γ×Obj))(s:δ)(a:St)(H:Hp)(xs:List V)(us:List V')(Q:VK),Pd X D8 a H s->Pb xs us->r xs H Q->Ku (Kv X.prog X.w) X.A (call f us) (EP X D8 a Q) X.xe s
def TruR(X:Cx)(r:V->Hp->(Bool->Hp->Prop)->Prop):Prop:=∀(D8:List (γ×Obj))(s:δ)(a:St)(H:Hp)(x:V)(v:V')(Q:Bool->Hp->Prop),Pd X D8 a H s->Pa x v->r x H Q->Ku (Kv X.prog X.w) X.A (truthy v) (TP X D8 a Q) X.xe s
def tOp(r:R2)(ta tb:TE):TE:=λa H Q=>ta a H λx H1=>tb a H1 λy H2=>r x y H2 Q
def tUn(r:V->Hp->VK->Prop)(ta:TE):TE:=λa H Q=>ta a H λx H1=>r x H1 Q
def rI(C:Int->Int->Prop)(g:Int->Int->V):R2:=λx y H Q=>∃i j,x=.int i/\y=.int j/\C i j/\Q (g i j) H
def rI0(g:Int->Int->V):R2:=λx y H Q=>∃i j,x=.int i/\y=.int j/\Q (g i j) H
def rU(g:Int->V):V->Hp->VK->Prop:=λx H Q=>∃i,x=.int i/\Q (g i) H
section
variable{X:Cx}{a b:Kz}{n p:TE}{o:Pos}
theorem binT(d:PE X a n)(e:PE X b p){R:V->V->Hp->Prop}(I:Pd X D8 m H s)(h:n m H λx H1=>p m H1 λy H2=>R x y H2){f:V'->V'->Sem V'}(g:∀v u s2 x y H2,Pd X D8 m H2 s2->Pa x v->Pa y u->R x y H2->Ku (Kv X.prog X.w) X.A (f v u) Q X.xe s2):Ku (Kv X.prog X.w) X.A (eval a X.env) (λv s₁=>Ku (Kv X.prog X.w) X.A (eval b X.env) (λu s₂=>Ku (Kv X.prog X.w) X.A (f v u) Q X.xe s₂) X.xe s₁) X.xe s:=by refine thn (d D8 s m H _ I h) λv i c=>?_;obtain⟨x,H1,I1,j,k⟩:=c;refine thn (e D8 i m H1 _ I1 k) λu s2 c=>?_;obtain⟨y,H2,I2,l,q2⟩:=c;exact g v u s2 x y H2 I2 j l q2
theorem pe_op{op:Operator}(c:OpR X (Kt op) r)(d:PE X a n)(e:PE X b p):PE X (.BinOp a op b o) (tOp r n p):=by intro D8 s m H Q I h;exact wpAny_BinOp (binT d e I h λv u f x y H2 I2 g i q=>c D8 f m H2 x y v u Q I2 g i q)
theorem pe_un{op:UnaryOp}(b:UnR X (unaryOp op) r)(c:PE X a n):PE X (.UnaryOp op a o) (tUn r n):=by intro D8 s m H Q I h;exact UnaryOp_ (thn (c D8 s m H _ I h) λv d ⟨x,H1,I1,e,f⟩=>b D8 d m H1 x v Q I1 e f)
theorem opI{g:Int->Int->Int}(rule:∀(i j:Int)(t u:Tok)(s:δ)(Q:V'->δ->Prop)(E:V'->δ->Prop),C i j->Q (.int (g i j) s.toks) {s with toks:=s.toks+1}->Ku (Kv X.prog X.w) X.A (f (.int i t) (.int j u)) Q E s):OpR X f (rI C λi j=>.int (g i j)):=by intro D8 s m H x y v u Q I a b h;obtain⟨i,j,rfl,rfl,c,q⟩:=h;obtain⟨t,rfl⟩:=a;obtain⟨d,rfl⟩:=b;exact rule i j t d s _ _ c ⟨.int (g i j),H,I.tok _,⟨_,rfl⟩,q⟩
theorem opI0{g:Int->Int->Int}(rule:∀(i j:Int)(t u:Tok)(s:δ)(Q:V'->δ->Prop)(E:V'->δ->Prop),Q (.int (g i j) s.toks) {s with toks:=s.toks+1}->Ku (Kv X.prog X.w) X.A (f (.int i t) (.int j u)) Q E s):OpR X f (rI0 λi j=>.int (g i j)):=by intro D8 s m H x y v u Q I a b h;obtain⟨i,j,rfl,rfl,q⟩:=h;obtain⟨t,rfl⟩:=a;obtain⟨c,rfl⟩:=b;exact rule i j t c s _ _ ⟨.int (g i j),H,I.tok _,⟨_,rfl⟩,q⟩
theorem opB0{g:Int->Int->Bool}(rule:∀(i j:Int)(t u:Tok)(s:δ)(Q:V'->δ->Prop)(E:V'->δ->Prop),Q (.bool (g i j)) s->Ku (Kv X.prog X.w) X.A (f (.int i t) (.int j u)) Q E s):OpR X f (rI0 λi j=>.bl (g i j)):=by intro D8 s m H x y v u Q I a b h;obtain⟨i,j,rfl,rfl,q⟩:=h;obtain⟨t,rfl⟩:=a;obtain⟨c,rfl⟩:=b;exact rule i j t c s _ _ ⟨.bl (g i j),H,I,rfl,q⟩
def CPow(i j:Int):Prop:=0<=j/\j<=1000000/\i.natAbs<2 ^ 64
def CMul(i j:Int):Prop:=(-(2 ^ 64)<i/\i<2 ^ 64)∨(-(2 ^ 64)<j/\j<2 ^ 64)
theorem CMul.ok{i j:Int}(h:CMul i j):IntMulOk i j:=by rcases h with⟨h1,h2⟩|⟨h1,h2⟩;{exact .of_left (intBits_le_64 h1 h2)};exact .of_right (intBits_le_64 h1 h2)
theorem qbb5:OpR X (Kt .Add) (rI0 λi j=>.int (i+j)):=opI0 λ_ _ _ _ _ _ _ q=>add_int q
theorem qB2:OpR X (Kt .Sub) (rI0 λi j=>.int (i-j)):=opI0 λ_ _ _ _ _ _ _ q=>sub_int q
theorem qba9:OpR X (Kt .Mult) (rI CMul λi j=>.int (i*j)):=opI λ_ _ _ _ _ _ _ a q=>mul_int q a.ok
theorem qn5:OpR X (Kt .Mod) (rI (λ_ j=>0<j) λi j=>.int (i%j)):=opI λi j _ _ _ _ _ a q=>by
 have b:(0:Int)<j:=a;exact mod_int' ⋯ (by rw[Int.fmod_eq_emod_of_nonneg i ⋯];exact q)
theorem qba7:OpR X (Kt .Pow) (rI CPow λi j=>.int (i ^ j.toNat)):=opI λ_ _ _ _ _ _ _ a q=>pow_int_small a.1 a.2.1 a.2.2 q
theorem unI{g:Int->Int}(rule:∀(i:Int)(t:Tok)(s:δ)(Q:V'->δ->Prop)(E:V'->δ->Prop),Q (.int (g i) s.toks) {s with toks:=s.toks+1}->Ku (Kv X.prog X.w) X.A (f (.int i t)) Q E s):UnR X f (rU λi=>.int (g i)):=by intro D8 s m H x v Q I a h;obtain⟨i,rfl,q⟩:=h;obtain⟨t,rfl⟩:=a;exact rule i t s _ _ ⟨.int (g i),H,I.tok _,⟨_,rfl⟩,q⟩
theorem qaX9:UnR X (unaryOp .USub) (rU λi=>.int (-i)):=unI λ_ _ _ _ _ q=>neg_int q
end
section
variable{X:Cx}{a b c:Kz}{O N S:TE}{R:Pos}
theorem qaV5{L:St}{a:Bool}(I:Pd X D8 L H s)(q:Q (.bl k) H)(e:k=a):EP X D8 L Q (.bool a) s:=by subst e;exact⟨.bl k,H,I,rfl,q⟩
theorem Iv:OpR X (Kd .Lt) (rI0 λi j=>.bl (decide (i<j))):=opB0 λ_ _ _ _ _ _ _ q=>lt_int q
theorem G7:OpR X (Kd .LtE) (rI0 λi j=>.bl (decide (i<=j))):=opB0 λ_ _ _ _ _ _ _ q=>le_int q
theorem Bs:OpR X (Kd .Gt) (rI0 λi j=>.bl (decide (j<i))):=opB0 λ_ _ _ _ _ _ _ q=>gt_int q
theorem G8:OpR X (Kd .GtE) (rI0 λi j=>.bl (decide (j<=i))):=opB0 λ_ _ _ _ _ _ _ q=>ge_int q
theorem qbb0:OpR X (Kd .Is) (λx y H Q=>y=.non/\Q (.bl (decide (x=.non))) H):=by
 intro D8 s L H x y v u Q I a b h;obtain⟨rfl,q⟩:=h;cases b;refine is_none_gen (qaV5 I q ?_);cases x<;>first
  |(cases a;rfl)
  |(obtain⟨t,rfl⟩:=a;rfl)
theorem qaQ9:OpR X (Kd .IsNot) (λx y H Q=>y=.non/\Q (.bl (!decide (x=.non))) H):=by
 intro D8 s L H x y v u Q I a b h;obtain⟨rfl,q⟩:=h;cases b;refine isnot_none_gen (qaV5 I q ?_);cases x<;>first
  |(cases a;rfl)
  |(obtain⟨t,rfl⟩:=a;rfl)
theorem OpR.or{a:R2}(h:OpR X f r)(h':OpR X f a):OpR X f (λx y H Q=>r x y H Q∨a x y H Q):=by intro D8 s L H x y v u Q I b c q;rcases q with q|q;{exact h D8 s L H x y v u Q I b c q};exact h' D8 s L H x y v u Q I b c q
theorem qb0(b:Kz)(h:op≠.In:=by decide)(h2:op≠.NotIn:=by decide):behindInMarks op b=false:=by
 have a:(op==CmpOp.In)=false:=by cases op<;>first|rfl|exact absurd rfl h
 have e2:(op==CmpOp.NotIn)=false:=by cases op<;>first|rfl|exact absurd rfl h2
 cases b<;>simp[behindInMarks,a,e2]
theorem qaQ1(c:OpR X (Kd op) r)(d:PE X a O)(e:PE X b N)(hm:behindInMarks op b=false):PE X (.Compare a [op] [b] R) (tOp r O N):=by intro D8 s L H Q I h;exact wpAny_Compare1 (binT d e I h λv u f x y H2 I2 g i q=>c D8 f L H2 x y v u Q I2 g i q) hm
def tTest(t:TE):TT:=λL H Q=>t L H λx H'=>∃k,x=.bl k/\Q k H'
theorem qaz1(d:OpR X (Kd op) r)(f:PE X a O)(g:PE X b N)(hm:behindInMarks op b=false):PT X (.Compare a [op] [b] R) (tTest (tOp r O N)):=by
 intro D8 s L H Q I h;refine wpAny_isTrue_Compare1 (thn (f D8 s L H _ I h) λv i ⟨x,H1,I1,j,l⟩=>thn (g D8 i L H1 _ I1 l) λu m ⟨y,H2,I2,n,q2⟩=>
  thn (d D8 m L H2 x y v u _ I2 j n q2) λc q ⟨z,H3,I3,o,k,e,p⟩=>?_) hm
 subst e;cases o;exact Kh ⟨H3,I3,p⟩
def qaM8(r a:R2)(O N S:TE):TE:=λL H Q=>O L H λx H1=>N L H1 λy H2=>r x y H2 λz H3=>∃k,z=.bl k/\(if k=true then S L H3 λb H4=>a y b H4 Q else Q (.bl false) H3)
theorem qai8{i:R2}(m:OpR X (Kd op) r)(g:OpR X (Kd f) i)(n:PE X a O)(o:PE X b N)(p:PE X c S)(hm:lastMarks [op,f] [b,c]=false:=by with_unfolding_all rfl):PE X (.Compare a [op,f] [b,c] R) (qaM8 r i O N S):=by
 intro D8 s L H Q I h;refine Compare_chain (thn (n D8 s L H _ I h) λv q ⟨x,H1,I1,t,w⟩=>chain_link (thn (o D8 q L H1 _ I1 w) λu A ⟨y,H2,I2,j,q2⟩=>
  thn (m D8 A L H2 x y v u _ I2 t j q2) λd B ⟨z,H3,I3,C,k,e,l⟩=>?_)) hm
 subst e;cases C;refine Kh ?_;cases k with|false=>exact ite_ff ⟨.bl false,H3,I3,rfl,l⟩|true=>exact ite_tt (chain_last (thn (p D8 B L H3 _ I3 l) λD E ⟨F,H4,I4,G,J⟩=>g D8 E L H4 y F u D Q I4 j G J))
def TruV(K:N7)(x:V)(H:Hp)(k:Bool):Prop:=match x with|.non=>k=false|.bl b=>k=b|.int i=>k=(i != 0)|.str y=>y.length<=Kc/\k=((y.length:Int) != 0)|.byt y=>y.size<=Kc/\k=((y.size:Int) != 0)|.ref p=>(∃xs,SqL K H p xs/\k=!xs.isEmpty)∨(∃xs,SqT K H p xs/\k=!xs.isEmpty)∨∃kvs,H p=some (.dK kvs)/\k=!kvs.isEmpty|_=>False
theorem qam8{M:Type}{kvs:List (M×V)}{vs:List (M×V')}(r:KV kvs vs):(!vs.isEmpty)=!kvs.isEmpty:=by cases r<;>rfl
theorem qO0{xs:List V}{its:List V'}(r:Pb xs its):(!its.toArray.isEmpty)=!xs.isEmpty:=by cases r<;>simp
theorem qN6:(Kc:Nat)<2 ^ 63:=by rw[Kj];decide
theorem qaY2:TruR X (λx H Q=>∃k,TruV X.K x H k/\Q k H):=by intro D8 s L H x v Q I g h;obtain⟨k,e,q⟩:=h;have A:=qN6;have B:Kc=16777216:=Kj;cases x with|non=>cases g;have a:k=false:=e;subst a;exact truthy_none ⟨H,I,q⟩|bl b=>cases g;have a:k=b:=e;subst a;exact Kh ⟨H,I,q⟩|int i=>obtain⟨t,rfl⟩:=g;have a:k=(i != 0):=e;subst a;exact PySem.P.truthy_int ⟨H,I,q⟩|str y=>obtain⟨t,rfl⟩:=g;obtain⟨u,a⟩:y.length<=Kc/\k=((y.length:Int) != 0):=e;subst a;exact PySem.P.truthy_str ⋯ ⟨H,I.tok _,q⟩|byt y=>obtain⟨t,rfl⟩:=g;obtain⟨u,a⟩:y.size<=Kc/\k=((y.size:Int) != 0):=e;subst a;exact W.truthy_bytes ⋯ ⟨H,I.tok _,q⟩|ref p=>cases g;have a:(∃f,SqL X.K H p f/\k=!f.isEmpty)∨(∃f,SqT X.K H p f/\k=!f.isEmpty)∨∃c,H p=some (.dK c)/\k=!c.isEmpty:=e;rcases a with⟨f,hx,a⟩|⟨f,hx,a⟩|⟨c,hx,a⟩;{subst a;obtain⟨l,r,n,o⟩:=I.list hx;have d:=r.length;exact wpAny_truthy_list n.isList (by simp only[zA4];lia) ⟨H,I.tok _,by rw[qO0 r];exact q⟩};{subst a;obtain⟨l,r,n,o⟩:=I.tuple hx;have d:=r.length;exact truthy_tuple n (by simp only[zA4];lia) ⟨H,I.tok _,by rw[qO0 r];exact q⟩};subst a;obtain⟨o,z,j,r,m⟩:c.length<=Kc/\(p==Kl)=false/\∃j,KV c j/\s.heap.DictOf (qg6 X.prog X.w) p j:=I.hok p _ hx;have d:c.length=j.length:=Paired.length r;exact wpAny_truthy_dict z m ⋯ ⟨H,I.tok _,by rw[qam8 r];exact q⟩|_=>exact(show False from e).elim
theorem qaj4:OpR X (Kt .Add) (λx y H Q=>∃i j,x=.str i/\y=.str j/\i.length+j.length<=Kc/\Q (.str (i++j)) H):=by intro D8 s L H x y v u Q I a b h;obtain⟨i,j,rfl,rfl,c,q⟩:=h;obtain⟨t,rfl⟩:=a;obtain⟨d,rfl⟩:=b;exact add_str (λd e=>⟨.str (i++j),H,I.tok _,⟨_,rfl⟩,q⟩) c
theorem B9(r:Pb [x] us):∃u,us=[u]/\Pa x u:=by cases r with|cons a b=>cases b;exact⟨_,rfl,a⟩
theorem G9(r:Pb [x,y] us):∃u a,us=[u,a]/\Pa x u/\Pa y a:=by cases r with|cons b c=>cases c with|cons d e=>cases e;exact⟨_,_,rfl,b,d⟩
theorem qaL2:CallR X (.builtin "abs") (λxs H Q=>∃i,xs=[.int i]/\Q (.int (if i<0 then -i else i)) H):=by intro D8 s L H xs a Q I r h;obtain⟨i,rfl,q⟩:=h;obtain⟨u,rfl,t,rfl⟩:=B9 r;exact call_abs_int λu b=>⟨.int (if i<0 then -i else i),H,I.tok _,⟨_,rfl⟩,q⟩
theorem qaa3(b:X.calm=true):CallR X (.builtin "max") (λxs H Q=>∃i j,xs=[.int i,.int j]/\Q (.int (if j>i then j else i)) H):=by intro D8 s L H xs c Q I r h;obtain⟨i,j,rfl,q⟩:=h;obtain⟨u,d,rfl,⟨t,rfl⟩,⟨e,rfl⟩⟩:=G9 r;refine max_two_ints (I.ok.hd b) λf g k=>⟨_,H,I.kept k,?_,q⟩;by_cases a:j>i;{rw[if_pos a,if_pos a];exact⟨_,rfl⟩};rw[if_neg a,if_neg a];exact⟨_,rfl⟩
theorem qK2(b:X.calm=true):CallR X (.builtin "min") (λxs H Q=>∃i j,xs=[.int i,.int j]/\Q (.int (if j<i then j else i)) H):=by intro D8 s L H xs c Q I r h;obtain⟨i,j,rfl,q⟩:=h;obtain⟨u,d,rfl,⟨t,rfl⟩,⟨e,rfl⟩⟩:=G9 r;refine min_two_ints (I.ok.hd b) λf g k=>⟨_,H,I.kept k,?_,q⟩;by_cases a:j<i;{rw[if_pos a,if_pos a];exact⟨_,rfl⟩};rw[if_neg a,if_neg a];exact⟨_,rfl⟩
theorem qaw8:CallR X (.type "int") (λxs H Q=>(∃i,xs=[.int i]/\Q (.int i) H)∨∃k,xs=[.bl k]/\Q (.int (if k then 1 else 0)) H):=by intro D8 s L H xs b Q I r h;rcases h with⟨i,rfl,q⟩|⟨k,rfl,q⟩;{obtain⟨u,rfl,t,rfl⟩:=B9 r;exact call_int_int ⟨.int i,H,I,⟨_,rfl⟩,q⟩};obtain⟨u,rfl,a⟩:=B9 r;cases a;exact call_int_bool ⟨.int (if k then 1 else 0),H,I.tok _,⟨_,rfl⟩,q⟩
end
structure ObjM(h:Heap)(x dx C:γ)(mA:Str->Option V'):Prop where
 obj:h.get? x=some (W.instObj C dx)
 ns:h.Ns1 dx mA
 ne:dx≠x
theorem qat9{h:Heap}(n:h.Ns1 dx mA):∃c,h.get? dx=some c/\∀name,W.lookIn name c=some (mA name):=by
 obtain⟨o,d,m,f,g,i,_,j⟩:=n;refine⟨o,f,λname=>?_⟩;have e:=j name;unfold nsFind findBy at e;rw[<-Array.find?_toList] at e;unfold W.lookIn;rw[g];dsimp only;split;{rename_i y q;rw[q] at e;exact congrArg some e};rename_i q;rw[q] at e;have a:d.toList.any (·.refKey)=false:=by rw[List.any_eq_false];intro y k;obtain⟨z,t,b⟩:=i y (Array.mem_toList_iff.mp k);simp[DictEntry.refKey,b]
 have l:¬d.toList.any (·.refKey)=true:=by rw[a];exact zAx
 rw[if_neg l];exact congrArg some e
theorem ObjM.look(I:ObjM h x dx C mA):∃a,W.InstAt h x (W.instObj C dx) C (some a)/\∀name,W.lookIn name a=some (mA name):=let ⟨a,ho,hl⟩:=qat9 I.ns
 ⟨a,⟨I.obj,rfl,rfl,ho⟩,hl⟩
section
variable{prog:Kw}{w:Ky}{A:Kx}{E:V'->δ->Prop}{s:δ}{K:N7}{x F C f:γ}{G:Str->Option V'}{name:Str}{v:V'}
theorem qaU1(X:K.In s.heap)(I:ObjM s.heap x F C G)(b:W.plainGet K C name=true)(c:W.hasDictIn K C=true)(d:W.findIn K (.ref C) name=some none)(e:G name=some v)(a:W.handedIn v=true)(h:Q v {s with toks:=s.toks+1}):Ku (Kv prog w) A (getAttr (.ref x) name expr) Q E s:=by obtain⟨g,J,f⟩:=I.look;exact W.get_value X J (W.plainGet_of b).1 (W.findObj_own c d rfl (by rw[f,e])) a h
theorem qaJ1(X:K.In s.heap)(I:ObjM s.heap x F C G)(a:W.plainGet K C name=true)(b:W.findIn K (.ref C) name=some (some (.ref f)))(c:W.isFn K (.ref f)=true)(d:G name=none)(h:Q (.ref f,[.ref x]) s):Ku (Kv prog w) A (getMethod (.ref x) name pl) Q E s:=by obtain⟨e,J,g⟩:=I.look;exact W.method_fn X J (W.plainGet_of a).1 (W.plainGet_of a).2 b (zC1.mp c) (by show (W.lookIn name e).map (·.isSome)=some false;rw[g,d];rfl) h
theorem qaN3(X:K.In s.heap)(I:ObjM s.heap x F C G)(j:W.findIn K (.ref C) "__setattr__"=some (some (.builtin "object.__setattr__")))(k:W.plainOver K C=true)(l:W.takerIn K C name=some none)(m:W.hasDictIn K C=true)(n:PySem.Within G ns)(hsz:ns.length<=Kc)(h:∀h',ObjM h' x F C (λy=>if y=name then some v else G y)->Heap.SameBut F s.heap h'->Q () {s with heap:=h',toks:=s.toks+2}):Ku (Kv prog w) A (setAttr (.ref x) name v) Q E s:=by obtain⟨u,J,z⟩:=I.look;refine W.set_plain X J j (W.osa_open (s:={s with toks:=s.toks+1}) (r:=none) X J k l λb=>?_);obtain⟨B,o,e⟩:=W.any_some m;have p:s.heap.get? x=some ⟨.ref C,some F,.plain,#[]⟩:=I.obj;refine E' (J' (E' (E' (wpAny_loadPart p (E' (W.Looks.here (s:={s with toks:=s.toks+1}) (W.looks_clsIn X o) ?_))))));rw[e];refine J' (a:=some F) (E' (J' (E' ?_)));refine wpAny_nsSet1 (s:={s with toks:=s.toks+1}) I.ns λh' c d=>?_;obtain⟨D,q,t,f,g,i⟩:=c.count (PySem.Within.cons name v n);refine E' (wpAny_lookBehind f (by rw[g];exact pastItsLine_dict (zAn i (by rw[zAp];lia))) ?_);exact J' (h _ ⟨(d.2 _ (Ne.symm I.ne)).trans I.obj,c,I.ne⟩ d)
theorem qaH6(X:K.In s.heap)(hm:W.makesIn K C=true)(hi:W.findIn K (.ref C) "__init__"=some (some (.ref f)))(a:W.typeIn K (.ref f)=some (.type "function"))(h:codeAny (Kv prog w) (A.under (.builtin "type.__call__" ⟨.ref C::vs,kw⟩)) (.call (.ref f) ⟨.ref (s.heap.objs.size+1)::vs,kw⟩) (W.InitBack (s.heap.objs.size+1) R)
 {s with heap:=(s.heap.push W.emptyDict).push (W.instObj C s.heap.objs.size)}):codeAny (Kv prog w) A (.call (.ref C) ⟨vs,kw⟩) R s:=by obtain⟨b,g,d,t,c⟩:=s;exact W.make_core (W.makes_of X hm) (W.looks_findIn X hi) (λself=>W.bind_fn X self a) (.inl rfl) h
end
noncomputable def Da(f:Str)(v:V):List (Str×V)->List (Str×V)|[]=>[(f,v)]|(g,x)::r=>if g=f then (g,v)::r else (g,x)::Da f v r
theorem qG3(f g:Str)(v:V):∀fs:List (Str×V),(Da f v fs).lookup g=if g=f then some v else fs.lookup g|[]=>by show Lr g [(f,v)]=_;by_cases h:g=f;{have a:(g==f)=true:=zC1.mpr h;simp only[Lr,a,if_pos h]};have a:(g==f)=false:=zCa.mpr h;simp only[Lr,a,if_neg h]|(k,x)::r=>by have c:=qG3 f g v r;rw[show Da f v ((k,x)::r)=(if k=f then (k,v)::r else (k,x)::Da f v r) from rfl];by_cases b:k=f;{rw[if_pos b];by_cases h:g=k;{have a:(g==k)=true:=zC1.mpr h;simp only[Lr,a,if_pos (h.trans b)]};have a:(g==k)=false:=zCa.mpr h;simp only[Lr,a,if_neg (λe:g=f=>h (e.trans b.symm))]};rw[if_neg b];by_cases h:g=k;{have a:(g==k)=true:=zC1.mpr h;simp only[Lr,a,if_neg (λe:g=f=>b (h.symm.trans e))]};have a:(g==k)=false:=zCa.mpr h;simp only[Lr,a];exact c
theorem qJ1(f:Str)(v:V):∀fs:List (Str×V),f∈(Da f v fs).map (·.1)/\∀g,g∈fs.map (·.1)->g∈(Da f v fs).map (·.1)|[]=>⟨by simp[Da],λg h=>by simp at h⟩|(k,x)::r=>by obtain⟨b,c⟩:=qJ1 f v r;rw[show Da f v ((k,x)::r)=(if k=f then (k,v)::r else (k,x)::Da f v r) from rfl];by_cases a:k=f;{rw[if_pos a];subst a;exact⟨by simp,λg h=>by simpa using h⟩};rw[if_neg a];refine⟨?_,λg h=>?_⟩;{rw[zAz];exact zA7 _ b};rw[zAz] at h ⊢;rcases zAi.mp h with e|e;{exact zAi.mpr (.inl e)};exact zA7 _ (c g e)
theorem qG5(f:Str)(v:V):∀fs:List (Str×V),(Da f v fs).length<=fs.length+1|[]=>by simp[Da]|(k,x)::r=>by have b:=qG5 f v r;rw[show Da f v ((k,x)::r)=(if k=f then (k,v)::r else (k,x)::Da f v r) from rfl];by_cases a:k=f;{rw[if_pos a,zAp,zAp];lia};rw[if_neg a,zAp,zAp];lia
theorem RelO.some_of(r:RelO (some v) o):∃u,o=some u/\Pa v u:=by cases o with|none=>exact(show False from r).elim|some u=>exact⟨u,rfl,r⟩
theorem RelO.none_of(r:RelO none o):o=none:=by cases o with|none=>rfl|some u=>exact(show False from r).elim
theorem qau6(r:Pa v u):W.handedIn u=true:=by cases v with|non=>cases (show u=Nw from r);rfl|bl b=>cases (show u=Nx b from r);rfl|int i=>obtain⟨t,e⟩:=(show ∃t,u=Nv i t from r);cases e;rfl|str x=>obtain⟨t,e⟩:=(show ∃t,u=Ny x t from r);cases e;rfl|byt b=>obtain⟨t,e⟩:=(show ∃t,u=N3 b t from r);cases e;rfl|flt b=>obtain⟨t,e⟩:=(show ∃t,u=Nz b t from r);cases e;rfl|ref a=>cases (show u=Nu a from r);rfl|ty n=>cases (show u=N0 n from r);rfl
section
variable{P:Kw}{w:Ky}{H:Hp}{h:Heap}{a C i:γ}{fs:List (Str×V)}
theorem qY3(b:HOk P w H h)(e:H a=some (.ins C i fs)):∃mA,ObjM h a i C mA/\(∀f,RelO (fs.lookup f) (mA f))/\PySem.Within mA (fs.map (·.1))/\fs.length<=1000/\H i=some (.own a):=by obtain⟨d,z,c,g,mA,n,r,q⟩:=(show ObjOk P w H h a (.ins C i fs) from b a _ e);exact⟨mA,⟨g,n,c⟩,r,q,z,d⟩
end
structure Cls(K:N7)(C:γ):Prop where
 pg:W.plainGet K C Str.empty=true
 hd:W.hasDictIn K C=true
 po:W.plainOver K C=true
 sa:W.findIn K (.ref C) "__setattr__"=some (some (.builtin "object.__setattr__"))
theorem Cls.get{K:N7}(c:Cls K C)(f:Str):W.plainGet K C f=true:=c.pg
def qh1(K:N7)(C:γ)(f:Str):Prop:=W.findIn K (.ref C) f=some none
theorem qh1.taker{K:N7}(n:qh1 K C f):W.takerIn K C f=some none:=by unfold W.takerIn;rw[show W.findIn K (.ref C) f=some none from n];rfl
structure Iw(K:N7)(C:γ)(m:Str)(f:γ):Prop where
 at_:W.findIn K (.ref C) m=some (some (.ref f))
 fn:W.isFn K (.ref f)=true
 kp:W.keepIn K (.ref f)=true
section
variable{X:Cx}{G:List (γ×Obj)}{F:St}{H:Hp}{s:δ}{a C J:γ}{fs:List (Str×V)}{f:Str}{v:V}{A:Kx}{E:V'->δ->Prop}
theorem qan9(I:Pd X G F H s)(e:H a=some (.ins C J fs))(c:Cls X.K C)(n:qh1 X.K C f)(l:fs.lookup f=some v)(h:∀u s',Pd X G F H s'->Pa v u->Q u s'):Ku (Kv X.prog X.w) A (getAttr (.ref a) f b) Q E s:=by obtain⟨g,O,r,_,_,_⟩:=qY3 I.hok e;obtain⟨u,i,d⟩:=RelO.some_of (v:=v) (o:=g f) (by rw[<-l];exact r f);exact qaU1 I.kIn O (c.get f) c.hd n i (qau6 d) (h u _ (I.tok _) d)
theorem qO5(I:Pd X G F H s)(e:H a=some (.ins C J fs))(c:Cls X.K C)(k:Iw X.K C m g)(l:fs.lookup m=none)(h:Q (.ref g,[.ref a]) s):Ku (Kv X.prog X.w) A (getMethod (.ref a) m pl) Q E s:=by obtain⟨b,O,r,_,_,_⟩:=qY3 I.hok e;have d:b m=none:=RelO.none_of (by rw[<-l];exact r m);exact qaJ1 I.kIn O (c.get m) k.at_ k.fn d h
theorem qag7(I:Pd X G F H s)(e:H a=some (.ins C J fs))(c:Cls X.K C)(n:qh1 X.K C f)(D:fs.length<1000)(k:Pa y u)(h:∀s',Pd X G F (upd H a (.ins C J (Da f y fs))) s'->Q () s'):Ku (Kv X.prog X.w) A (setAttr (.ref a) f u) Q E s:=by
 obtain⟨d,O,r,i,_,j⟩:=qY3 I.hok e;have l:(fs.map (·.1)).length<=Kc:=by rw[zA9,Kj];lia
 refine qaN3 I.kIn O c.sa c.po n.taker c.hd i l λm O' p=>h _ ?_;have t:∃o,m.get? J=some o:=let ⟨o,_,_,e',_⟩:=O'.ns;⟨o,e'⟩
 refine I.write (x:=a) (e:=J) (by rw[e];exact True.intro) (.inr j) (λb q v z=>(p.2 b v).trans z) t ?_;refine⟨by rw[qd1 O.ne];exact j,?_,O.ne,O'.obj,_,O'.ns,λg=>?_,λg B=>?_⟩;{have:=qG5 f y fs;lia};{show RelO ((Da f y fs).lookup g) (if g=f then some u else d g);rw[qG3];by_cases q:g=f;{rw[if_pos q,if_pos q];exact k};rw[if_neg q,if_neg q];exact r g};by_cases q:g=f;{rw[q];exact(qJ1 f y fs).1};refine(qJ1 f y fs).2 g (i g λz=>B ?_);show (if g=f then some u else d g)=none;rw[if_neg q];exact z
theorem Pd.made(I:Pd X G F H s):Pd X G F (upd (upd H s.heap.objs.size (.own (s.heap.objs.size+1))) (s.heap.objs.size+1) (.ins C s.heap.objs.size []))
 {s with heap:=(s.heap.push W.emptyDict).push (W.instObj C s.heap.objs.size)}:=by
 have c:(s.heap.push W.emptyDict).get? s.heap.objs.size=some W.emptyDict:=zAo s.heap rfl;have e2:((s.heap.push W.emptyDict).push (W.instObj C s.heap.objs.size)).get? (s.heap.objs.size+1)=some (W.instObj C s.heap.objs.size):=by have:=zAo (s.heap.push W.emptyDict) (o:=W.instObj C s.heap.objs.size) rfl;rwa[zCh] at this
 have f:(s.heap.push W.emptyDict).Ns s.heap.objs.size (λ_=>none):=⟨W.emptyDict,#[],_,c,rfl,(λe g=>absurd g (by simp)),λ_=>rfl⟩;have I1:=I.laid (a:=s.heap.objs.size) (o:=.own (s.heap.objs.size+1)) (h':=s.heap.push W.emptyDict) (t':=s.toks) (λb u q=>zA3 _ q) (zA2 _) ⟨_,c⟩;refine I1.laid (a:=s.heap.objs.size+1) (o:=.ins C s.heap.objs.size []) (t':=s.toks) (λb u q=>zA3 _ q) (Nat.le_of_eq (zCh _ _)) ?_;have d:s.heap.objs.size≠s.heap.objs.size+1:=zAt (Nat.lt_succ_self _);refine⟨by rw[qd1 d,qc5],zBb _,d,e2,λ_=>none,(Heap.Ns1.of_empty f).at λo q=>zA3 _ q,λ_=>True.intro,λy h=>absurd rfl h⟩
theorem qaX0{prog:Kw}{w:Ky}{env:Env}{e:Kz}{f:Str}{pos:Pos}{s:δ}{Q:V'->δ->Prop}(a:Ki e f env (eval e env)=eval e env)(h:Ku (Kv prog w) A (eval e env) (λo s₁=>Ku (Kv prog w) A (getAttr o f true) Q E s₁) E s):Ku (Kv prog w) A (eval (.Attribute e f pos) env) Q E s:=Attribute_any_ h (by rw[arm_eval_Attribute,a])
end
def tFld(K:N7)(ta:TE)(f:Str):TE:=λb H Q=>ta b H λx H1=>∃a C dx fs v,x=.ref a/\H1 a=some (.ins C dx fs)/\Cls K C/\qh1 K C f/\fs.lookup f=some v/\Q v H1
def sFld(K:N7)(ta tv:TE)(f:Str):TS:=λD b H=>tv b H λy H1=>ta b H1 λx H2=>∃a C dx fs,x=.ref a/\H2 a=some (.ins C dx fs)/\Cls K C/\qh1 K C f/\fs.length<1000/\D.nx b (upd H2 a (.ins C dx (Da f y fs)))
section
variable{X:Cx}{o e B:Kz}{f:Str}{pos pos':Pos}{E tv:TE}
theorem qas9(d:PE X e E)(g:Ki e f X.env (eval e X.env)=eval e X.env):PE X (.Attribute e f pos) (tFld X.K E f):=by intro D8 s A H Q I h;refine qaX0 g (thn (d D8 s A H _ I h) λu o b=>?_);obtain⟨x,H1,I1,i,a,C,p,r,v,j,k,c,n,l,q⟩:=b;subst j;obtain rfl:u=Nu a:=i;exact qan9 I1 k c n l λt w I2 m=>⟨v,H1,I2,m,q⟩
theorem qaZ3(d:PE X o E)(e:PE X B tv)(g:swapsWith B (some (.Attribute o f pos')) pos.line X.env=pure false):PS X (.Assign [.Attribute o f pos'] B pos) (sFld X.K E tv f):=by intro D8 s A H D I h;refine plainObj_wpAny_Assign_Attribute (thn (e D8 s A H _ I h) λu i b=>?_) g;obtain⟨y,H1,I1,j,q⟩:=b;refine thn (d D8 i A H1 _ I1 q) λk t b=>?_;obtain⟨x,H2,I2,m,a,C,v,w,p,r,c,n,l,q2⟩:=b;subst p;obtain rfl:k=Nu a:=m;exact qag7 I2 r c n l j λz I3=>⟨A,_,I3,q2⟩
end
section
variable{X:Cx}{F:List (γ×Obj)}{D:St}{H:Hp}{s:δ}{A:Kx}{E Q:V'->δ->Prop}{c:V'}{b:Bool}
inductive El(K:N7)(H:Hp):V->V'->Prop where
 |non:El K H .non (.type "NoneType")
 |bl (x:Bool):El K H (.bl x) (.type "bool")
 |int (i:Int):El K H (.int i) (.type "int")
 |str (x:Str):El K H (.str x) (.type "str")
 |flt (x:UInt64):El K H (.flt x) (.type "float")
 |l {a:γ} {xs:List V} (e:H a=some (.l xs)):El K H (.ref a) (.type "list")
 |frz {a:γ} {o:Obj} {xs:List V} (e:H a=some (.frz o (.l xs))):El K H (.ref a) (.type "list")
 |q {a:γ} {xs:List V} (e:H a=some (.q xs)):El K H (.ref a) (.type "tuple")
 |dK {a:γ} {kvs:List (Key×V)} (e:H a=some (.dK kvs)):El K H (.ref a) (.type "dict")
 |dT {a:γ} {kvs:List (List Key×V)} (e:H a=some (.dT kvs)):El K H (.ref a) (.type "dict")
 |ins {a C dx:γ} {fs:List (Str×V)} (e:H a=some (.ins C dx fs)) (cl:Cls K C) (ha:W.findIn K (.ref C) "__class__"=some (some (.builtin "object.__class__")))
  (hn:W.specialIn K (.builtin "object.__class__") "__get__"=some (some (.builtin "getset_descriptor.__get__"))) (htk:W.takesIn K (.builtin "object.__class__")=some true)
  (hm:W.mroIn K C (.type "object")=some true):El K H (.ref a) (.ref C)
theorem qJ4(I:Pd X F D H s)(d:Pa x u)(ty:El X.K H x t)(e:N8 X.K t c=some b)(h:∀k,Q (.bool b) {s with toks:=k}):Ku (Kv X.prog X.w) A (call (.builtin "isinstance") [u,c]) Q E s:=by cases ty with|non=>cases (show u=Nw from d);exact W.kia_one W.kitx_none I.kIn True.intro e (λz=>nomatch z) h|bl y=>cases (show u=Nx y from d);exact W.kia_one W.kitx_bool I.kIn True.intro e (λz=>nomatch z) h|int i=>obtain⟨t,q⟩:=(show ∃t,u=Nv i t from d);cases q;exact W.kia_one W.kitx_int I.kIn True.intro e (λz=>nomatch z) h|str y=>obtain⟨t,q⟩:=(show ∃t,u=Ny y t from d);cases q;exact W.kia_one W.kitx_str I.kIn True.intro e (λz=>nomatch z) h|flt y=>obtain⟨t,q⟩:=(show ∃t,u=Nz y t from d);cases q;exact W.kia_one W.kitx_float I.kIn True.intro e (λz=>nomatch z) h|@l a g ea=>cases (show u=Nu a from d);obtain⟨_,_,n,_,f⟩:=(show ObjOk X.prog X.w H s.heap a (.l g) from I.hok a _ ea);exact W.kia_one W.kitx_list I.kIn ⟨_,f,rfl⟩ e (λz=>nomatch z) h|@frz a ob g ea=>cases (show u=Nu a from d);obtain⟨_,_,_,n,_,f⟩:=(show ObjOk X.prog X.w H s.heap a (.frz ob (.l g)) from I.hok a _ ea);exact W.kia_one W.kitx_list I.kIn ⟨_,f,rfl⟩ e (λz=>nomatch z) h|@q a g ea=>cases (show u=Nu a from d);obtain⟨_,_,_,p⟩:=(show ObjOk X.prog X.w H s.heap a (.q g) from I.hok a _ ea);obtain⟨o,f,j,_⟩:=p;exact W.kia_one W.kitx_tuple I.kIn ⟨o,f,j⟩ e (λz=>nomatch z) h|@dK a kvs ea=>cases (show u=Nu a from d);obtain⟨_,_,r,_,p⟩:=(show ObjOk X.prog X.w H s.heap a (.dK kvs) from I.hok a _ ea);obtain⟨o,l,m,f,j,_⟩:=p;exact W.kia_one W.kitx_dict I.kIn ⟨o,f,j.1⟩ e (λz=>nomatch z) h|@dT a kvs ea=>cases (show u=Nu a from d);obtain⟨_,_,g,_,o,l,m,f,j,_⟩:=(show ObjOk X.prog X.w H s.heap a (.dT kvs) from I.hok a _ ea);exact W.kia_one W.kitx_dict I.kIn ⟨o,f,j.1⟩ e (λz=>nomatch z) h|@ins a C dx fs ea cl ha hn htk hm=>cases (show u=Nu a from d);obtain⟨v,O,_⟩:=qY3 I.hok ea;obtain⟨B,J,_⟩:=O.look;exact W.kia_one (W.kitx_own (cl.get _) cl.hd ha hn htk hm) I.kIn J e (λz=>nomatch z) h
end
structure Pg(cm:Bool)(k:Nat)(A:Kx):Prop where
 hd:cm=true->A.handled=none
 dp:A.depth+3*k+5<recursionLimit
 un:A.units+16*k+200<cLine
abbrev Room:=Pg true
theorem Pg.mono(r:Pg cm k A)(h:j<=k):Pg cm j A:=⟨r.hd,by have:=r.dp;lia,by have:=r.un;lia⟩
theorem Pg.deeper(r:Pg cm (k+1) A)(env:Env):Pg cm k (A.deeper env):=⟨r.hd,by have:=r.dp;show A.depth+1+3*k+5<_;lia,by have:=r.un;show A.units+3+16*k+200<_;lia⟩
theorem qal1{A:Kx}:(A.under (.builtin "type.__call__" ⟨.ref C::us,kw⟩)).depth=A.depth+1:=by first|rfl|simp[Around.under,Code.weight,Code.isCreation,Code.isGuard,Code.isCaller,Code.frames,Code.isFrame,guardIds]
theorem qal0{A:Kx}:(A.under (.builtin "type.__call__" ⟨.ref C::us,kw⟩)).units=A.units+1:=by first|rfl|simp[Around.under,Code.cUnits,Code.frames,Code.isFrame]
theorem Pg.make(r:Pg cm (k+1) A)(C:γ)(us:List V')(kw:List (Str×V')):Pg cm k (A.under (.builtin "type.__call__" ⟨.ref C::us,kw⟩)):=⟨r.hd,by have:=r.dp;rw[qal1];lia,by have:=r.un;rw[qal0];lia⟩
theorem Pg.depth(r:Pg cm k A):A.depth<recursionLimit:=by have:=r.dp;lia
theorem Pg.units(r:Pg cm k A):A.units+64<cLine:=by have:=r.un;lia
def tNil:TA:=λ_ H Q=>Q [] H
def Ix(ta:TE)(tr:TA):TA:=λa H Q=>ta a H λx H1=>tr a H1 λxs H2=>Q (x::xs) H2
section
variable{X:Cx}{e:Kz}{v:List Kz}{te:TE}{t:TA}{o:Pos}
theorem qk9:PA X [] tNil:=λ_ _ _ _ H Q I h=>Calls.spliced_nil ⟨[],H,I,.nil,h⟩
theorem qc4(b:PE X e te)(c:PA X v t)(d:Kb (e::v) X.env=(false,eval e X.env)::Kb v X.env:=by rfl):PA X (e::v) (Ix te t):=by intro o D8 s n H Q I h;rw[d];show Ku _ _ (spliced ((false,eval e X.env)::backTo o (Kb v X.env))) _ _ s;refine Calls.spliced_cons (thn (b D8 s n H _ I h) λu f a=>?_);obtain⟨x,H1,I1,g,i⟩:=a;exact thn (c o D8 f n H1 _ I1 i) λl m ⟨j,H2,I2,k,q2⟩=>⟨x::j,H2,I2,.cons g k,q2⟩
def tTup(t:TA):TE:=λn H Q=>t n H λxs H1=>xs.length<=Kc/\∀p,H1 p=none->Q (.ref p) (upd H1 p (.q xs))
def tLst(t:TA):TE:=λn H Q=>t n H λxs H1=>xs.length<=Kc/\∀p,H1 p=none->Q (.ref p) (upd H1 p (.l xs))
theorem qaP7{x1}(h:PA X v t):PE X (.Tuple v x1 o) (tTup t):=by intro D8 s n H Q I d;refine wpAny_Tuple_spliced (thn (h o D8 s n H _ I d) λf a c=>?_);obtain⟨g,H1,I1,r,z,q⟩:=c;refine⟨by rw[<-r.length];exact z,?_⟩;have i:H1 a.heap.objs.size=none:=I1.hok.fresh (zA2 _);refine⟨.ref a.heap.objs.size,upd H1 a.heap.objs.size (.q g),I1.laid (t':=a.toks) (λb u e=>zA3 _ e) (zA2 _) ?_,rfl,q _ i⟩;exact⟨z,f,r,⟨_,zAo _ rfl,rfl,_,rfl⟩⟩
theorem qaF6(h:PA X v t):PE X (.List v o) (tLst t):=by intro D8 s n H Q I d;refine wpAny_List_spliced (thn (h o D8 s n H _ I d) λf a c=>?_);obtain⟨g,H1,I1,r,z,q⟩:=c;refine⟨by rw[<-r.length];exact z,?_⟩;have i:H1 a.heap.objs.size=none:=I1.hok.fresh (zA2 _);refine⟨.ref a.heap.objs.size,upd H1 a.heap.objs.size (.l g),I1.laid (t':=a.toks) (λb u e=>zA3 _ e) (zA2 _) ?_,rfl,q _ i⟩;exact⟨z,f,0,r,zAo _ rfl⟩
end
abbrev Sp:=List V->Hp->VK->XK->Prop
abbrev CXT:=List Env->Hp->δ->XK->V'->δ->Prop
structure Env0(P:Kw)(w:Ky)(K:N7)(mg:Str->Option V')(base:Heap)(A:Kx)(outer:List Env)(s:δ)(H:Hp):Prop where
 frames:A.frames=some outer
 mod:Mod K mg base
 bs:∀b o,base.get? b=some o->s.heap.get? b=some o/\H b=none
 bsz:base.objs.size<=s.heap.objs.size
 funs:s.heap.FunFrames base outer
 frf:∀b∈frs outer,H b=none
 hok:HOk P w H s.heap
 bare:AllBare s.gens
def CE(outer:List Env)(P:Kw)(w:Ky)(H:Hp)(s:δ)(Q:VK)(u:V')(s':δ):Prop:=∃v H',s'.os=s.os/\AllBare s'.gens/\Un (frs outer) [] H H' s.heap s'.heap/\HOk P w H' s'.heap/\Pa v u/\Q v H'
def CR(CX:CXT)(outer:List Env)(P:Kw)(w:Ky)(H:Hp)(s:δ)(Q:VK)(E:XK)(r:Result)(s':δ):Prop:=match r with|.ok (.ret u)=>CE outer P w H s Q u s'|.ok _=>False|.error e=>CX outer H s E e s'
structure Dw(cm:Bool)(P:Kw)(w:Ky)(K:N7)(mg:Str->Option V')(base:Heap)(CX:CXT)(k:Nat)(f:γ)(fd:ε)(ps:List Str)(sp:Sp):Prop where
 len:∀vs H Q E,sp vs H Q E->vs.length=ps.length
 run:∀(A:Kx)(outer:List Env)(s:δ)(H:Hp)(args:Args)(us:List V')(vs:List V)(Q:VK)(E:XK),Pg cm k A->Env0 P w K mg base A outer s H->BindsTo s fd args (ps.zip us)->Pb vs us->sp vs H Q E->codeAny (Kv P w) A (.call (.ref f) args) (CR CX outer P w H s Q E) s
abbrev Ee:=Dw true
theorem Env0.make{K:N7}(e:Env0 P w K mg base A outer s H)(C:γ)(us:List V')(kw:List (Str×V')):Env0 P w K mg base (A.under (.builtin "type.__call__" ⟨.ref C::us,kw⟩)) outer s H:=⟨by first|exact e.frames|(simpa[Around.under,Code.envs,Code.isFrame,pushEnvs] using e.frames),e.mod,e.bs,e.bsz,e.funs,e.frf,e.hok,e.bare⟩
section
variable{X:Cx}{k:List (γ×Obj)}{j:St}{H:Hp}{s s':δ}
theorem Pd.env0(I:Pd X k j H s):Env0 X.prog X.w X.K X.mg X.base X.A X.stack s H:=⟨I.ok.frames,I.ok.mod,I.bs,zAn I.ok.bsz I.sz,I.stack,I.stkFree,I.hok,I.bare⟩
theorem Pd.after(I:Pd X k j H s)(h:CE X.stack X.prog X.w H s Q u s'):EP X k j Q u s':=by obtain⟨v,H',e,bare,f,a,r,q⟩:=h;obtain⟨i,g,d,t,c⟩:=s';obtain rfl:c=s.os:=e;exact⟨v,H',I.call (h':=i) (g':=g) (d':=d) (t':=t) (ch:=[]) f a bare (λb z=>absurd z (by simp)),r,q⟩
end
def Iy(sp:Sp)(dvs:List V)(E:St->XK)(t:TA):TE:=λa H Q=>t a H λvs H1=>sp (vs++dvs) H1 Q (E a)
def Ha(C:γ)(m:Str)(sp:Sp)(dvs:List V)(E:St->XK)(ta:TE)(t:TA):TE:=λb H Q=>ta b H λx H1=>∃a dx fs,x=.ref a/\H1 a=some (.ins C dx fs)/\fs.lookup m=none/\t b H1 λvs H2=>sp (x::(vs++dvs)) H2 Q (E b)
def tMake(C:γ)(sp:Sp)(dvs:List V)(E:St->XK)(t:TA):TE:=λa H Q=>t a H λvs H1=>∀x dx,H1 x=none->H1 dx=none->dx≠x->sp (.ref x::(vs++dvs)) (upd (upd H1 dx (.own x)) x (.ins C dx [])) (λv H2=>v=.non/\Q (.ref x) H2) (E a)
def Binds(K:N7)(fd:ε)(ps:List Str)(ds:List V'):Prop:=∀(s:δ)(us:List V'),K.In s.heap->(us++ds).length=ps.length->BindsTo s fd ⟨us,[]⟩ (ps.zip (us++ds))
theorem Binds.all{K:N7}(h:∀us:List V',us.length=ps.length->bindArgs fd ⟨us,[]⟩=pure (ps.zip us)):Binds K fd ps []:=λs us _ a=>by
 rw[zAg] at a ⊢;exact .of_eq (h us a)
def qQ0(CX:CXT)(X:Cx)(E:St->XK):Prop:=∀(D8:List (γ×Obj))(a:St)(H:Hp)(s:δ)(e:V')(s':δ),Pd X D8 a H s->CX X.stack H s (E a) e s'->X.xe e s'
section
variable{X:Cx}{Y:Bool}{CX:CXT}{k:Nat}{f C:γ}{Z:ε}{ps:List Str}{sp:Sp}{dvs:List V}{ds:List V'}{E:St->XK}{x m:Str}{p S T:Pos}{e o:Kz}{U:List Kz}{ta:TE}{t:TA}
theorem qaE5(F:Dw Y X.prog X.w X.K X.mg X.base CX k f Z ps sp)(c:Pg Y k X.A)(d:Binds X.K Z ps ds)(g:Pb dvs ds)(i:qQ0 CX X E)(I:Pd X D8 R H s)(r:Pb vs us)(h:sp (vs++dvs) H Q (E R)):Ku (Kv X.prog X.w) X.A (call (.ref f) us) (EP X D8 R Q) X.xe s:=by
 have b:Pb (vs++dvs) (us++ds):=r.append g;have j:(us++ds).length=ps.length:=by rw[<-b.length];exact F.len _ _ _ _ h
 refine wpAny_call (codeAny_mono (F.run X.A X.stack s H ⟨us,[]⟩ (us++ds) (vs++dvs) Q (E R) c I.env0 (d s us I.kIn j) b h) λr l a=>?_);cases r with|error e=>exact i D8 R H s e l I a|ok m=>cases m with|ret u=>exact I.after a|next=>exact Oz a|brk=>exact Oz a|cont=>exact Oz a
theorem qaz8(F:Dw Y X.prog X.w X.K X.mg X.base CX k f Z ps sp)(d:Pg Y k X.A)(g:Gl X x)(hm:X.mg x=some (.ref f))(i:W.keepIn X.K (.ref f)=true)(j:Binds X.K Z ps ds)(l:Pb dvs ds)(m:qQ0 CX X E)(n:PA X (e::U) t)(a:N' x:=by decide)(o:Kb (e::U) X.env=(false,eval e X.env)::Kb U X.env:=by rfl)(b:(backTo S (Kb U X.env)).any (·.1)=false:=by rfl):PE X (.Call (.Name x p) (e::U) [] S) (Iy sp dvs E t):=by intro D8 s R H Q I h;refine wpAny_Call_Name_kw (qal7 I g hm ?_ a);refine W.callWith_K (h₀:=X.base) I.ok.mod.kin i (thn (n S D8 s R H _ I h) λu v c=>?_) o b;obtain⟨y,H1,I1,r,q⟩:=c;refine⟨I1.kIn,?_⟩;exact qaE5 F d j l m I1 r q
theorem qai6(n:PE X o ta)(c:Cls X.K C)(hm:Iw X.K C m f)(F:Dw Y X.prog X.w X.K X.mg X.base CX k f Z ps sp)(p:Pg Y k X.A)(v:Binds X.K Z ps ds)(y:Pb dvs ds)(z:qQ0 CX X E)(B:PA X (e::U) t)(d:Kb (e::U) X.env=(false,eval e X.env)::Kb U X.env:=by rfl)(g:(backTo S (Kb U X.env)).any (·.1)=false:=by rfl)(D:eval (.Call (.Attribute o m T) (e::U) [] S) X.env=(do
 let ov<-eval o X.env
 standAt T.atName
 let (f,first)<-holding [ov] (getMethod ov m pl)
 callWith S f first (backTo S (Kb (e::U) X.env)) (backToKw S (Km [] X.env))):=by rfl):PE X (.Call (.Attribute o m T) (e::U) [] S) (Ha C m sp dvs E ta t):=by intro D8 s R H Q I h;refine W.methodCall_KW (pl:=pl) (thn (n D8 s R H _ I h) λu G b=>?_) D;obtain⟨x,H1,I1,J,a,N,O,L,M,l,q⟩:=b;subst L;obtain rfl:u=Nu a:=J;refine qO5 I1 M c hm l ?_;refine W.callWith_K (first:=[.ref a]) (h₀:=X.base) I.ok.mod.kin hm.kp (thn (B S D8 G R H1 _ I1 q) λi P b=>?_) d g;obtain⟨j,H2,I2,r,q2⟩:=b;refine⟨I2.kIn,?_⟩;exact qaE5 (us:=.ref a::i) (vs:=.ref a::j) F p v y z I2 (.cons rfl r) q2
theorem qaF5(d:PE X o ta)(c:Cls X.K C)(hm:Iw X.K C m f)(F:Dw Y X.prog X.w X.K X.mg X.base CX k f Z ps sp)(e:Pg Y k X.A)(g:Binds X.K Z ps ds)(i:Pb dvs ds)(j:qQ0 CX X E)(n:eval (.Call (.Attribute o m T) [] [] S) X.env=(do
 let ov<-eval o X.env
 standAt T.atName
 let (f,first)<-holding [ov] (getMethod ov m pl)
 callWith S f first (backTo S (Kb [] X.env)) (backToKw S (Km [] X.env))):=by rfl):PE X (.Call (.Attribute o m T) [] [] S) (Ha C m sp dvs E ta tNil):=by intro D8 s R H Q I h;refine W.methodCall_KW (pl:=pl) (thn (d D8 s R H _ I h) λu v b=>?_) n;obtain⟨x,H1,I1,p,a,y,z,r,t,l,q⟩:=b;subst r;obtain rfl:u=Nu a:=p;refine qO5 I1 t c hm l ?_;exact W.callWith_K0 (first:=[.ref a]) I1.kIn hm.kp (qaE5 (us:=[.ref a]) (vs:=[.ref a]) F e g i j I1 (.cons rfl .nil) q)
structure Mk(K:N7)(C f:γ):Prop where
 makes:W.makesIn K C=true
 init:W.findIn K (.ref C) "__init__"=some (some (.ref f))
 fn:W.isFn K (.ref f)=true
 kp:W.keepIn K (.ref C)=true
theorem qaE4(M:Mk X.K C f)(F:Dw Y X.prog X.w X.K X.mg X.base CX k f Z ps sp)(d:Pg Y (k+1) X.A)(g:Binds X.K Z ps ds)(i:Pb dvs ds)(j:qQ0 CX X E)(I:Pd X D8 R H s)(r:Pb vs us)(h:∀x dx,H x=none->H dx=none->dx≠x->sp (.ref x::(vs++dvs)) (upd (upd H dx (.own x)) x (.ins C dx [])) (λv H2=>v=.non/\Q (.ref x) H2) (E R)):Ku (Kv X.prog X.w) X.A (call (.ref C) us) (EP X D8 R Q) X.xe s:=by
 have b:=h (s.heap.objs.size+1) s.heap.objs.size (I.hok.fresh (Nat.le_succ _)) (I.hok.fresh (zA2 _)) (zAt (Nat.lt_succ_self _));have I2:=Pd.made (C:=C) I;have c:Pb (V.ref (s.heap.objs.size+1)::(vs++dvs)) (Nu (s.heap.objs.size+1)::(us++ds)):=.cons rfl (r.append i);have l:(Nu (s.heap.objs.size+1)::us++ds).length=ps.length:=by have e:=c.length;rw[F.len _ _ _ _ b] at e;exact e.symm
 refine wpAny_call (qaH6 (f:=f) I.kIn M.makes M.init (zC1.mp M.fn) (codeAny_mono (F.run _ X.stack _ _ ⟨Nu (s.heap.objs.size+1)::us,[]⟩ (Nu (s.heap.objs.size+1)::(us++ds)) _ _ (E R) (d.make C us [])
  (I2.env0.make C us []) (g _ (Nu (s.heap.objs.size+1)::us) I2.kIn l) c b) λr m a=>?_))
 cases r with|error e=>exact j D8 R _ _ e m I2 a|ok n=>cases n with|ret u=>obtain⟨v,H',I3,o,p,q⟩:=I2.after a;subst p;exact⟨o,⟨V.ref (s.heap.objs.size+1),H',I3,rfl,q⟩⟩|next=>exact Oz a|brk=>exact Oz a|cont=>exact Oz a
theorem qaz5(M:Mk X.K C f)(F:Dw Y X.prog X.w X.K X.mg X.base CX k f Z ps sp)(d:Pg Y (k+1) X.A)(g:Gl X x)(hm:X.mg x=some (.ref C))(i:Binds X.K Z ps ds)(j:Pb dvs ds)(l:qQ0 CX X E)(m:PA X (e::U) t)(a:N' x:=by decide)(n:Kb (e::U) X.env=(false,eval e X.env)::Kb U X.env:=by rfl)(b:(backTo S (Kb U X.env)).any (·.1)=false:=by rfl):PE X (.Call (.Name x p) (e::U) [] S) (tMake C sp dvs E t):=by intro D8 s R H Q I h;refine wpAny_Call_Name_kw (qal7 I g hm ?_ a);refine W.callWith_K (h₀:=X.base) I.ok.mod.kin M.kp (thn (m S D8 s R H _ I h) λo u c=>?_) n b;obtain⟨v,H1,I1,r,q⟩:=c;refine⟨I1.kIn,?_⟩;exact qaE4 M F d i j l I1 r q
end
structure qa9(N P:List Str)(sc:Scope):Prop where
 kind:sc.kind=.function
 co:sc.isCoroutine=false
 gen:sc.isGenerator=false
 nd:N.Nodup
 pre:N.take P.length=P
 par:∀x∈P,sc.names.lookup x=some .local∨sc.names.lookup x=some .cell
 nofree:∀y∈sc.names,y.2≠.free
theorem qaa5{Ld:Str->Option NameKind}{x:Str}:∀{binds:List (Str×V')}{m:Str->Option V'},(∀v,(x,v)∉binds)->bindL Ld binds m x=m x
 |[],_,_=>rfl|(n,v)::r,m,h=>by
  unfold bindL;rw[qaa5 λw a=>h w (zA7 _ a)];split
  .have:x≠n:=by rintro rfl;exact h v zAh
   simp[this]
  rfl
theorem qaa7{Ld:Str->Option NameKind}{x:Str}:∀{binds:List (Str×V')}{m:Str->Option V'},(∀v,(x,v)∉binds)->bindC Ld binds m x=m x
 |[],_,_=>rfl|(n,v)::r,m,h=>by
  unfold bindC;rw[qaa7 λw a=>h w (zA7 _ a)];split;{rfl};have:x≠n:=by rintro rfl;exact h v zAh
  simp[this]
theorem qaa6{Ld:Str->Option NameKind}{x:Str}{v:V'}:∀{P:List Str}{vs:List V'}{i:Nat}{m:Str->Option V'},P.Nodup->P[i]?=some x->vs[i]?=some v->Ld x=some .local->bindL Ld (P.zip vs) m x=some v|[],_,_,_,_,h,_,_=>by simp at h|_::_,[],_,_,_,_,h,_=>by simp at h|p::P,w::vs,0,m,nd,h1,h2,hk=>by simp at h1 h2;subst h1;subst h2;show bindL Ld ((p,w)::P.zip vs) m p=_;unfold bindL;rw[qaa5 λv a=>(zCi.mp nd).1 (Mo a).1,if_pos hk];simp|p::P,w::vs,i+1,m,nd,h1,h2,hk=>by show bindL Ld ((p,w)::P.zip vs) m x=_;unfold bindL;exact qaa6 (i:=i) (zCi.mp nd).2 (by simpa using h1) (by simpa using h2) hk
theorem qaa8{Ld:Str->Option NameKind}{x:Str}{v:V'}:∀{P:List Str}{vs:List V'}{i:Nat}{m:Str->Option V'},P.Nodup->P[i]?=some x->vs[i]?=some v->Ld x≠some .local->bindC Ld (P.zip vs) m x=some v|[],_,_,_,_,h,_,_=>by simp at h|_::_,[],_,_,_,_,h,_=>by simp at h|p::P,w::vs,0,m,nd,h1,h2,hk=>by simp at h1 h2;subst h1;subst h2;show bindC Ld ((p,w)::P.zip vs) m p=_;unfold bindC;rw[qaa7 λv a=>(zCi.mp nd).1 (Mo a).1,if_neg hk];simp|p::P,w::vs,i+1,m,nd,h1,h2,hk=>by show bindC Ld ((p,w)::P.zip vs) m x=_;unfold bindC;exact qaa8 (i:=i) (zCi.mp nd).2 (by simpa using h1) (by simpa using h2) hk
noncomputable def start(N:List Str)(vs:List V):St:=vs.map some++Li (N.length-vs.length) none
noncomputable def Em(cm:Bool)(CX:CXT)(P:Kw)(w:Ky)(K:N7)(mg:Str->Option V')(base:Heap)(N:List Str)(qual:Str)(scope:Scope)(f:γ)(cd:V')(A:Kx)(outer:List Env)(s:δ)(H:Hp)(E:XK):Cx where
 prog:=P
 w:=w
 K:=K
 mg:=mg
 base:=base
 A:=A.deeper (envOfC qual scope s.heap.objs.size f cd)
 N:=N
 s₀:=s
 H₀:=H
 env:=envOfC qual scope s.heap.objs.size f cd
 outer:=outer
 stack:=envOfC qual scope s.heap.objs.size f cd::outer
 ex:=[]
 calm:=cm
 fn:=λ_=>true
 pn:=[]
 xe:=λe s'=>Ku (Kv P w) (A.deeper (envOfC qual scope s.heap.objs.size f cd)) (leaving (envOfC qual scope s.heap.objs.size f cd) e) (λ_ a=>CX outer H s E e a) (λb a=>CX outer H s E b a) s'
theorem qap4{sc:Scope}(h:sc.names.lookup x=some .cell):∃c,(cellsFrom n sc.names []).lookup x=some c:=by have q:=W.cellsFrom_some sc.names n [] (.inl h);exact zB3.mp q
theorem qau4{K:N7}(S:qa9 N ps scope)(G:cm=true->A.handled=none)(g:Env0 P w K mg base A outer s H)(M:vs.length=ps.length)(r:Pb vs us)(x:InCallC s s.heap.objs.size (bindL (envOfC qual scope s.heap.objs.size f cd).kindOf (ps.zip us) λ_=>none) (cellsFrom (s.heap.objs.size+1) scope.names []) (bindC (envOfC qual scope s.heap.objs.size f cd).kindOf (ps.zip us) λ_=>none) C):Pd (Em cm CX P w K mg base N qual scope f cd A outer s H E) [] (start N vs) H C:=by
 have I:ps.length<=N.length:=by have:=congrArg Ll S.pre;rw[zBa] at this;lia
 obtain⟨t,O,rfl,D⟩:=x.done;have j:∀b:γ,b∉(Em cm CX P w K mg base N qual scope f cd A outer s H E).ex:=λb z=>absurd (show b∈([]:List γ) from z) (by simp);refine⟨⟨g.mod,S.kind,rfl,rfl,zA2 _,λy z c t d=>?_,λy l=>?_,λy c _ h=>?_,G,Around.frames_deeper g.frames,.inr ⟨rfl,rfl⟩,λb z=>absurd z (j b),g.bs,g.bsz,λb _ _=>j b,λb z=>absurd z (j b),g.funs,g.frf⟩,
  rfl,g.bare,Un.kept D,⟨_,x.toInCall.ns,λi y v t d Q=>?_⟩,λy c h=>⟨_,x.cell y c h⟩,g.hok.fresh (zA2 _),λy c h=>?_,λp m=>absurd (show p∈([]:List (γ×Obj)) from m) (by simp),g.hok.kept D,?_⟩
 {exact name_of_addr x.apart (PySem.mem_of_lookup t) (PySem.mem_of_lookup d)};{have l:scope.names.lookup y=some .cell∨scope.names.lookup y=some .free:=l;rcases l with l|l;{exact qap4 l};exact absurd rfl (S.nofree _ (PySem.mem_of_lookup l))};{exact zBi (x.above y c (PySem.mem_of_lookup h))}
 .have B:i<vs.length:=by unfold start at d;by_cases B:i<vs.length;{exact B};rw[zBn (by simpa using B)] at d;rw[List.getElem?_replicate] at d;split at d<;>cases d
  have J:vs[i]?=some v:=by unfold start at d;rw[zAl (by simpa using B),zB5] at d;cases e:vs[i]? with|none=>rw[e] at d;cases d|some a=>rw[e] at d;cases d;rfl
  obtain⟨u,F,L⟩:=r.get J;have m:ps[i]?=some y:=by rw[<-S.pre,List.getElem?_take_of_lt ⋯];exact t
  have o:ps.Nodup:=by rw[<-S.pre];exact S.nd.sublist (zC6 _ _)
  refine⟨u,L,?_⟩;rcases S.par y (zB1 m) with k|k;{exact .inl ⟨k,qaa6 o m F k⟩};obtain⟨c,e⟩:=qap4 (n:=s.heap.objs.size+1) k;refine .inr ⟨.inl k,c,e,?_⟩;have q:=x.cell y c e;rw[qaa8 o m F (by show scope.names.lookup y≠_;rw[k];decide)] at q;exact q
 {exact g.hok.fresh (zBi (x.above y c (PySem.mem_of_lookup h)))};unfold start;show _=N.length;rw[zA6,zA9,List.length_replicate];lia
theorem Iz{K:N7}{kV:V'}{i:Array (Option V')}(M:K.lookup f=some ⟨oc,L,.func (W.fnOf name qual params body scope B kV d C F a D),i⟩)(j:W.codeIn K a qual=true)(S:qa9 N ps scope)(len:∀vs H Q E,sp vs H Q E->vs.length=ps.length)(hbody:∀(A:Kx)(outer:List Env)(s:δ)(H:Hp)(vs:List V)(Q:VK)(E:XK),Pg cm k (A.deeper (envOfC qual scope s.heap.objs.size f a))->sp vs H Q E->∃t,PSs (Em cm CX P w K mg base N qual scope f a A outer s H E) body t/\t {nx:=λ_ H'=>Q .non H',rt:=Q} (start N vs) H):Dw cm P w K mg base CX (k+1) f (W.fnOf name qual params body scope B kV d C F a D) ps sp:=by
 refine⟨len,λA outer s H args O vs Q E l g R r h=>?_⟩;have T:=len _ _ _ _ h;have KX:K.In s.heap:=g.mod.kin.keeps λb o e=>(g.bs b o e).1;have m:s.heap.NoLimit:=g.mod.nolimit.keeps λb o e=>(g.bs b o e).1;have hkind:∀y∈ps.zip O,scope.names.lookup y.1=some .local∨(scope.names.lookup y.1=some .cell/\((cellsFrom (s.heap.objs.size+1) scope.names []).lookup y.1).isSome=true):=λ⟨n,v⟩ U=>by rcases S.par n (Mo U).1 with q|q;{exact .inl q};exact .inr ⟨q,W.cellsFrom_some _ _ _ (.inl q)⟩
 refine codeAny_call_function l.depth (KX _ _ M) rfl S.co S.gen rfl (W.codeRec_of KX j) (R _ _ _ _ ?_);refine wpAny_newFunctionEnv_cells S.kind hkind λX Y G x=>?_;subst Y;refine⟨m.keeps x.toInCall.keep,codeAny_func ?_⟩;obtain⟨t,Z,hq⟩:=hbody A outer s H vs Q E (l.deeper _) h;have I:Pd (Em cm CX P w K mg base N qual scope f a A outer s H E) [] (start N vs) H G:=qau4 S l.hd g T r x;refine Kn (Z [] G (start N vs) H _ I hq) (λfl p c=>?_) λe p c=>c;have fin:∀{σ':St}{H':Hp}{v:V}{u:V'},Pd (Em cm CX P w K mg base N qual scope f a A outer s H E) [] σ' H' p->Pa v u->Q v H'->CE outer P w H s Q u p:=λ{σ' H' v u} J z q=>⟨v,H',J.os,J.bare,J.base,J.hok,z,q⟩;cases fl with|ret u=>obtain⟨v,σ',H',J,z,q⟩:=c;exact fin J z q|next=>obtain⟨σ',H',J,q⟩:=c;exact fin (v:=V.non) (u:=Nw) J rfl q|brk=>obtain⟨_,_,_,q⟩:=c;exact Oz q|cont=>obtain⟨_,_,_,q⟩:=c;exact Oz q
section
variable{X:Cx}{x:Str}{p u:Pos}{e:Kz}{v:List Kz}{t:TA}{w T:String}{r:List V->Hp->VK->Prop}
def tCB(r:List V->Hp->VK->Prop)(t:TA):TE:=λq H Q=>t q H λvs H1=>r vs H1 Q
theorem qaF9(c:CallR X (.builtin w) r)(d:Gl X x)(hm:X.mg x=none)(f:Kg x=some (.builtin w))(g:PA X (e::v) t)(i:x ≠ "__name__" := by decide)(a:N' x:=by decide)(j:Kb (e::v) X.env=(false,eval e X.env)::Kb v X.env:=by rfl)(b:(backTo u (Kb v X.env)).any (·.1)=false:=by rfl):PE X (.Call (.Name x p) (e::v) [] u) (tCB r t):=by intro D8 s q H Q I h;refine wpAny_Call_Name_kw (qN9 I d hm f ?_ i a);exact PyProof.Rows.callWith_builtin1 (thn (g u D8 s q H _ I h) λk l ⟨m,H1,I1,n,o⟩=>c D8 l q H1 m k Q I1 n o) j b
theorem qat0(c:CallR X (.type T) r)(d:Gl X x)(hm:X.mg x=none)(f:Kg x=some (.type T))(g:PA X (e::v) t)(i:x ≠ "__name__" := by decide)(a:N' x:=by decide)(j:Kb (e::v) X.env=(false,eval e X.env)::Kb v X.env:=by rfl)(b:(backTo u (Kb v X.env)).any (·.1)=false:=by rfl):PE X (.Call (.Name x p) (e::v) [] u) (tCB r t):=by intro D8 s q H Q I h;refine wpAny_Call_Name_kw (qN9 I d hm f ?_ i a);exact PyProof.Rows.callWith_type1 (thn (g u D8 s q H _ I h) λk l ⟨m,H1,I1,n,o⟩=>c D8 l q H1 m k Q I1 n o) j b
end
end L2
namespace HT
open PySem PyProof.Rows
section
noncomputable def sIx(n d:Nat):Option Int->Nat|none=>d|some v=>if v<0 then (v+(n:Int)).toNat else min v.toNat n
theorem qS8(n d:Nat):sIx n d none=d:=rfl
theorem qah4(n d k:Nat):sIx n d (some (k:Int))=min k n:=by show (if (k:Int)<0 then ((k:Int)+(n:Int)).toNat else min (k:Int).toNat n)=min k n;rw[if_neg ⋯,Int.toNat_natCast]
end
end HT
namespace L2
open PySem PySem.Spec PyProof.Rows
variable{its us:List V'}{n:Nat}{x:V}{α:Type}
abbrev TO:=St->Hp->(Option Int->Hp->Prop)->Prop
def PO(X:Cx)(e:Option Kz)(t:TO):Prop:=∀(D8:List (γ×Obj))(s:δ)(a:St)(H:Hp)(Q:Option Int->Hp->Prop),Pd X D8 a H s->t a H Q->Ku (Kv X.prog X.w) X.A (evalPart e X.env) (λu s'=>∃o H',Pd X D8 a H' s'/\IsPart u o/\Q o H') X.xe s
def qaM7:TO:=λ_ H Q=>Q none H
def tPart(t:TE):TO:=λa H Q=>t a H λx H1=>∃i,x=.int i/\Q (some i) H1
theorem qan1:∀{us:List V'},Pb (ns.map V.int) us->IntsAre us ns:=by induction ns with|nil=>intro us r;rw[M3] at r;cases r;exact .nil|cons n ns a=>intro us r;rw[zAz] at r;cases r with|cons b c=>obtain⟨t,e⟩:=b;subst e;exact .cons n t (a c)
section
variable{X:Cx}{e:Kz}{te:TE}{G K:Option Kz}{M L:TO}{N O:Pos}
theorem qai3:PO X none qaM7:=by intro D8 s E H Q I h;rw[evalPart_none];exact J' ⟨none,H,I,.none,h⟩
theorem qai2(h:PE X e te):PO X (some e) (tPart te):=by intro D8 s E H Q I b;rw[evalPart_some];refine thn (h D8 s E H _ I b) λu f a=>?_;obtain⟨x,H1,I1,c,d⟩:=a;obtain⟨i,rfl,q⟩:=d;obtain⟨t,rfl⟩:=c;exact⟨some i,H1,I1,.int i t,q⟩
def SlR(X:Cx)(r:V->Option Int->Option Int->Hp->VK->Prop):Prop:=∀(D8:List (γ×Obj))(s:δ)(E:St)(H:Hp)(x:V)(v vl vu:V')(G K:Option Int)(sl:γ)(Q:VK),Pd X D8 E H s->Pa x v->s.heap.IsSliceOf sl vl vu .none->IsPart vl G->IsPart vu K->r x G K H Q->∃T id,typeLookup (.type T) "__getitem__"=pure (some (.builtin id))/\s.TypeIs v T/\Ku (Kv X.prog X.w) X.A (getItem v (.ref sl)) (EP X D8 E Q) X.xe s
def tSl(r:V->Option Int->Option Int->Hp->VK->Prop)(te:TE)(M L:TO):TE:=λE H Q=>te E H λx H1=>M E H1 λl H2=>L E H2 λu H3=>r x l u H3 Q
theorem qT1(g:SlR X r)(i:PE X e te)(j:PO X G M)(k:PO X K L):PE X (.Subscript e (.Slice G K none O) N) (tSl r te M L):=by intro D8 s E H Q I h;refine Subscript_ (thn (i D8 s E H _ I h) λv m a=>?_);obtain⟨x,H1,I1,n,o⟩:=a;refine wpAny_Slice (thn (j D8 m E H1 _ I1 o) λd p a=>?_);obtain⟨l,H2,I2,t,q2⟩:=a;refine thn (k D8 p E H2 _ I2 q2) λf c a=>?_;obtain⟨u,H3,I3,y,z⟩:=a;rw[evalPart_none];refine J' ?_;have I4:Pd X D8 E H3 {c with heap:=c.heap.push {cls:=.type "slice",data:=.fields #[d,f,.none]} }:=I3.kept (t':=c.toks) λb F q=>zA3 _ q;obtain⟨T,id,B,C,D⟩:=g D8 {c with heap:=c.heap.push {cls:=.type "slice",data:=.fields #[d,f,.none]} } E H3 x v d f l u c.heap.objs.size Q I4 n (Heap.IsSliceOf.new ..) t y z;show Ku (Kv X.prog X.w) X.A (subscriptTail e (.Slice G K none O) v (.ref c.heap.objs.size)) (EP X D8 E Q) X.xe {c with heap:=c.heap.push {cls:=.type "slice",data:=.fields #[d,f,.none]} };exact tail_any (ops:=[.ref c.heap.objs.size,v]) C B D (by with_unfolding_all rfl)
def Ga(xs:List V)(G K:Option Int):List V:=(xs.drop (HT.sIx xs.length 0 G)).take (HT.sIx xs.length xs.length K-HT.sIx xs.length 0 G)
theorem qae2(xs:List V)(G K:Option Int):(Ga xs G K).length<=xs.length:=by unfold Ga;rw[zBa,zCe];lia
end
noncomputable def ixN(n:Nat)(i:Int):Option Nat:=if 0<=i then (if i<n then some i.toNat else none) else if -(n:Int)<=i then some (i+n).toNat else none
def atI{α:Type}(xs:List α)(i:Int):Option α:=(ixN xs.length i).bind λj=>xs[j]?
theorem qY0(h:ixN n i=some j):seqIndex? i n=some j/\j<n/\-(n:Int)<=i/\i<n:=by unfold ixN at h;by_cases b:0<=i;{rw[if_pos b] at h;by_cases a:i<n;{rw[if_pos a] at h;have e:i.toNat=j:=N5 h;exact⟨by rw[seqIndex_of b a,e],⋯,⋯,a⟩};rw[if_neg a] at h;cases h};rw[if_neg b] at h;by_cases a:-(n:Int)<=i;{rw[if_pos a] at h;have e:(i+n).toNat=j:=N5 h;exact⟨by rw[seqIndex_neg ⋯ a,e],⋯,a,⋯⟩};rw[if_neg a] at h;cases h
theorem qaq0(h:atI xs i=some v):∃j,seqIndex? i xs.length=some j/\xs[j]?=some v/\j<xs.length/\-(xs.length:Int)<=i/\i<xs.length:=by unfold atI at h;cases e:ixN xs.length i with|none=>rw[e] at h;cases h|some j=>rw[e] at h;obtain⟨a,b,c,d⟩:=qY0 e;exact⟨j,a,h,b,c,d⟩
theorem qP5{j:Nat}(h:xs[j]?=some v):atI xs (j:Int)=some v:=by
 have a:j<xs.length:=(zA5.mp h).1;have e:ixN xs.length (j:Int)=some j:=by unfold ixN;rw[if_pos ⋯,if_pos ⋯];simp
 unfold atI;rw[e];exact h
theorem qap9(xs:List α)(v:α):atI (xs++[v]) (-1)=some v:=by
 have a:(xs++[v]).length=xs.length+1:=by simp
 have e:ixN (xs++[v]).length (-1)=some xs.length:=by unfold ixN;rw[a,if_neg ∅,if_pos ⋯];congr 1;lia
 unfold atI;rw[e];show (xs++[v])[xs.length]?=some v;simp
def qaq5(b:Kz):Prop:=∀o i,subscripted b false o i=operate [o,i] (getItem o i)
def IxR(X:Cx)(r:R2):Prop:=∀(value slice:Kz)(D8:List (γ×Obj))(s:δ)(a:St)(H:Hp)(x y:V)(v u:V')(Q:VK),Pd X D8 a H s->Pa x v->Pa y u->r x y H Q->subscripted slice false v u=operate [v,u] (getItem v u)->Ku (Kv X.prog X.w) X.A (subscriptTail value slice v u) (EP X D8 a Q) X.xe s
def MtR(X:Cx)(id:String)(r:V->List V->Hp->VK->Prop):Prop:=∀(D8:List (γ×Obj))(s:δ)(a:St)(H:Hp)(x:V)(xs:List V)(v:V')(us:List V')(Q:VK),Pd X D8 a H s->Pa x v->Pb xs us->r x xs H Q->Ku (Kv X.prog X.w) X.A (call (.builtin id) (v::us)) (EP X D8 a Q) X.xe s
section
variable{X:Cx}{a b:Kz}{ta tb:TE}{Z:Pos}
theorem IxR.or{a:R2}(h:IxR X r)(h':IxR X a):IxR X (λx y H Q=>r x y H Q∨a x y H Q):=by intro value slice D8 s M H x y v u Q I b c q d;rcases q with q|q;{exact h value slice D8 s M H x y v u Q I b c q d};exact h' value slice D8 s M H x y v u Q I b c q d
theorem pe_ix(c:IxR X r)(d:PE X a ta)(e:PE X b tb)(f:qaq5 b):PE X (.Subscript a b Z) (tOp r ta tb):=by intro D8 s M H Q I h;exact Subscript_ (binT d e I h λv u g x y H2 I2 i j q=>c a b D8 g M H2 x y v u Q I2 i j q (f _ _))
def rIxL(K:N7):R2:=λx y H Q=>∃p xs i v,x=.ref p/\y=.int i/\SqL K H p xs/\atI xs i=some v/\Q v H
def rIxT(K:N7):R2:=λx y H Q=>∃p xs i v,x=.ref p/\y=.int i/\SqT K H p xs/\atI xs i=some v/\Q v H
def rIxS:R2:=λx y H Q=>∃z i c,x=.str z/\y=.int i/\z.length<=Kc/\atI z.cps.toList i=some c/\Q (.str ⟨#[c]⟩) H
theorem qaT3:IxR X (rIxL X.K):=by
 intro value slice D8 s M H x y v u Q I l m h f;obtain⟨p,F,i,z,rfl,rfl,n,o,q⟩:=h;cases l;obtain⟨t,rfl⟩:=m;obtain⟨b,r,c,G⟩:=I.list n;obtain⟨j,a,A,J,B,C⟩:=qaq0 o;obtain⟨w,g,d⟩:=r.get A;have D:=r.length;have L:=qN6;have fin:EP X D8 M Q w s:=⟨z,H,I,d,q⟩;by_cases k:0<=i
 .have e:i.toNat=j:=by rw[seqIndex_of k C] at a;exact N5 a
  exact item_listR c.isList k ⋯ (by rw[e];simpa using g) fin f
 have e:(i+(b.toArray.size:Int)).toNat=j:=by rw[seqIndex_neg ⋯ B] at a;rw[zA4,<-D];exact N5 a
 exact subscriptTail_builtinR (x:=w) c.isList.typeIs slot_list_getitem.lookup
  (wpAny_getItem_list_neg (Q:=λr E=>r=w/\EP X D8 M Q r E) c.isList ⋯ (by rw[zA4]<;>lia) ⋯ (by rw[e];simpa using g) ⟨rfl,fin⟩) f
theorem qbd0:IxR X (rIxT X.K):=by
 intro value slice D8 s M H x y v u Q I c d h e;obtain⟨p,B,i,z,rfl,rfl,f,g,q⟩:=h;cases c;obtain⟨t,rfl⟩:=d;obtain⟨k,r,b,C⟩:=I.tuple f;obtain⟨j,l,m,D,E,F⟩:=qaq0 g;obtain⟨w,n,a⟩:=r.get m;have o:=r.length;have G:=qN6;have fin:EP X D8 M Q w s:=⟨z,H,I,a,q⟩;exact subscriptTail_builtinR (x:=w) b.typeIs slot_tuple_getitem.lookup
  (getItem_tuple (j:=j) (Q:=λr A=>r=w/\EP X D8 M Q r A) b ⋯ ⋯ (by rw[zA4,<-o];exact l) (by simpa using n) ⟨rfl,fin⟩) e
theorem qbd1:IxR X rIxS:=by
 intro value slice D8 s M H x y v u Q I b d h e;obtain⟨z,i,c,rfl,rfl,o,f,q⟩:=h;obtain⟨t,rfl⟩:=b;obtain⟨p,rfl⟩:=d;obtain⟨j,a,g,r,k,l⟩:=qaq0 f;have m:z.cps.toList.length=z.length:=by simp[Str.length]
 rw[m] at a k l;have w:=qN6;exact tail_any (typeIs_str s z t) slot_str_getitem.lookup (getItem_str (c:=c) (by have n:decide (i < -(2 ^ 63:Int))=false:=zAy ⋯;have e2:decide (i ≥ 2 ^ 63)=false:=zAy ⋯;rw[n,e2,Bool.or_false]) (by rw[a];simpa using g) ⟨.str ⟨#[c]⟩,H,I.tok _,⟨_,rfl⟩,q⟩) e
def rIx(K:N7):R2:=λx y H Q=>rIxL K x y H Q∨rIxT K x y H Q∨rIxS x y H Q
theorem qa8:IxR X (rIx X.K):=qaT3.or (qbd0.or qbd1)
theorem qak9(its:List V')(n j:Nat)(u:V'):Obj.mapSeq (·.setIfInBounds j u) {cls:=.type "list",data:=.seq its.toArray n}={cls:=.type "list",data:=.seq (its.set j u).toArray n}:=by simp[Obj.mapSeq]
theorem Pd.l(I:Pd X D8 M H s)(h:H p=some (.l xs)):∃(its:List V')(n:Nat),Pb xs its/\s.heap.get? p=some {cls:=.type "list",data:=.seq its.toArray n}/\xs.length<=Kc:=by obtain⟨z,its,n,r,e⟩:=I.hok p _ h;exact⟨its,n,r,e,z⟩
theorem Pd.lstUpd{a:Nat}(I:Pd X D8 M H s)(h:H p=some (.l xs))(d:s.heap.get? p=some {cls:=.type "list",data:=.seq its.toArray n})(c:f {cls:=.type "list",data:=.seq its.toArray n}={cls:=.type "list",data:=.seq its'.toArray a})(r:Pb ys its')(g:ys.length<=Kc)(t:Nat):Pd X D8 M (upd H p (.l ys)) {s with heap:=s.heap.update p f,toks:=t}:=by
 have e:(s.heap.update p f).get? p=some {cls:=.type "list",data:=.seq its'.toArray a}:=by rw[Heap.get?_update_self f d (by rw[c]<;>rfl),c]
 refine I.write (x:=p) (e:=p) (by rw[h];trivial) (.inl rfl) (λb u i q=>(Heap.get?_update_other _ _ (Ne.symm i)).trans q) ⟨_,e⟩ ?_;exact⟨g,its',a,r,e⟩
def rSetL:V->V->V->Hp->(Hp->Prop)->Prop:=λo i v H Q=>∃p xs k j,o=.ref p/\i=.int k/\H p=some (.l xs)/\ixN xs.length k=some j/\Q (upd H p (.l (xs.set j v)))
theorem qag9:PSet X rSetL:=by
 intro D8 s M H o i v C D u Q I w x y h;obtain⟨p,z,k,j,rfl,rfl,f,A,q⟩:=h;cases w;obtain⟨t,rfl⟩:=x;obtain⟨a,n,r,c,B⟩:=I.l f;obtain⟨b,E,g,l⟩:=qY0 A;have d:=r.length;have F:=qN6;have I':Pd X D8 M (upd H p (.l (z.set j v))) {s with heap:=s.heap.update p (Obj.mapSeq (·.setIfInBounds j u))}:=I.lstUpd f c (qak9 a n j u) (r.set y j) (by rw[Mp];exact B) s.toks;by_cases m:0<=k
 .have e:k.toNat=j:=by rw[seqIndex_of m l] at b;exact N5 b
  exact W.ki_setAt c m ⋯ (by rw[zA4,<-d];exact l) (by rw[e];exact⟨_,I',q⟩)
 have e:(k+(a.toArray.size:Int)).toNat=j:=by rw[seqIndex_neg ⋯ g] at b;rw[zA4,<-d];exact N5 b
 exact W.ki_setBack c ⋯ (by rw[zA4,<-d];exact g) ⋯ (by rw[e];exact⟨_,I',q⟩)
theorem qR8(lo hi:Option Int)(n:Nat):(sliceBounds lo hi none n).1=((HT.sIx n 0 lo:Nat):Int)/\(sliceBounds lo hi none n).2.1=((HT.sIx n n hi:Nat):Int)/\(sliceBounds lo hi none n).2.2=1:=by refine⟨?_,?_,rfl⟩;{cases lo with|none=>simp[sliceBounds,HT.sIx]|some i=>simp only[sliceBounds,HT.sIx,Option.getD_none,show (1:Int)>0 by decide,if_true];by_cases h:i<0;{simp only[h,if_true]<;>lia};simp only[h,if_false]<;>lia};cases hi with|none=>simp[sliceBounds,HT.sIx]|some i=>simp only[sliceBounds,HT.sIx,Option.getD_none,show (1:Int)>0 by decide,if_true];by_cases h:i<0;{simp only[h,if_true]<;>lia};simp only[h,if_false]<;>lia
theorem qL3(its:List V')(lo hi:Option Int):slicePick its.toArray lo hi none=((its.drop (HT.sIx its.length 0 lo)).take (HT.sIx its.length its.length hi-HT.sIx its.length 0 lo)).toArray:=by obtain⟨a,b,c⟩:=qR8 lo hi its.toArray.size;unfold slicePick;rw[a,b,c];simp only[sliceRange_one,pick_run,zA4]<;>rfl
def rSlL(K:N7):V->Option Int->Option Int->Hp->VK->Prop:=λx lo hi H Q=>∃a xs,x=.ref a/\SqL K H a xs/\∀p,H p=none->Q (.ref p) (upd H p (.l (Ga xs lo hi)))
theorem qag5:SlR X (rSlL X.K):=by intro D8 s M H x v t u e f w Q I i j k l h;obtain⟨a,c,rfl,m,q⟩:=h;cases i;obtain⟨n,r,g,p⟩:=I.list m;have d:=r.length;refine⟨"list",_,slot_list_getitem.lookup,g.isList.typeIs,?_⟩;refine wpAny_getItem_list_slice g.isList j k l .none (by simp) ?_ (by rw[zA4]<;>lia);rw[qL3,<-d];refine⟨.ref s.heap.objs.size,_,I.laid (t':=s.toks) (o:=.l (Ga c e f)) (λb y q=>zA3 _ q) (zA2 _) ?_,rfl,q _ (I.hok.fresh (zA2 _))⟩;exact⟨zAn (qae2 c e f) p,_,0,(r.drop (HT.sIx c.length 0 e)).take (HT.sIx c.length c.length f-HT.sIx c.length 0 e),zAo _ rfl⟩
noncomputable def flatV:V->Bool|.non=>true|.bl _=>true|.int _=>true|.str _=>true|_=>false
noncomputable def eqV:V->V->Bool|.non,.non=>true|.bl a,.bl b=>a==b|.bl a,.int b=>(if a then 1 else 0)==b|.int a,.bl b=>a==(if b then 1 else 0)|.int a,.int b=>a==b|.str a,.str b=>a==b|_,_=>false
theorem qaV8(e:Pa y u)(c:Pa x v)(g:flatV y=true)(f:flatV x=true):SeqAt.EqAt A s u v (eqV y x):=by cases y with|non=>(cases e;cases x with|non=>cases c;exact SeqAt.EqAt.same _|bl b=>cases c;exact SeqAt.EqAt.none_bool b|int b=>obtain⟨t,rfl⟩:=c;exact SeqAt.EqAt.none_int b t|str b=>obtain⟨t,rfl⟩:=c;exact SeqAt.EqAt.none_str b t|_=>exact absurd (show false=true from f) zAx)|bl a=>(cases e;cases x with|non=>cases c;exact SeqAt.EqAt.bool_none a|bl b=>cases c;exact SeqAt.EqAt.bool_bool a b|int b=>obtain⟨t,rfl⟩:=c;exact SeqAt.EqAt.bool_int a b t|str b=>obtain⟨t,rfl⟩:=c;exact SeqAt.EqAt.bool_str a b t|_=>exact absurd (show false=true from f) zAx)|int a=>(obtain⟨d,rfl⟩:=e;cases x with|non=>cases c;exact SeqAt.EqAt.int_none a d|bl b=>cases c;exact SeqAt.EqAt.int_bool a d b|int b=>obtain⟨t,rfl⟩:=c;exact SeqAt.EqAt.int_int a d b t|str b=>obtain⟨t,rfl⟩:=c;exact SeqAt.EqAt.int_str a d b t|_=>exact absurd (show false=true from f) zAx)|str a=>(obtain⟨d,rfl⟩:=e;cases x with|non=>cases c;exact SeqAt.EqAt.str_none a d|bl b=>cases c;exact SeqAt.EqAt.str_bool a d b|int b=>obtain⟨t,rfl⟩:=c;exact SeqAt.EqAt.str_int a d b t|str b=>obtain⟨t,rfl⟩:=c;exact SeqAt.EqAt.str_str a d b t|_=>exact absurd (show false=true from f) zAx)|_=>exact absurd (show false=true from g) zAx
def eqU(x:V)(u:V'):Bool:=match u with|.none=>eqV .non x|.bool b=>eqV (.bl b) x|.int i _=>eqV (.int i) x|.str z _=>eqV (.str z) x|_=>false
theorem qav3(r:Pa y u)(f:flatV y=true):eqU x u=eqV y x:=by cases y with|non=>cases r;rfl|bl b=>cases r;rfl|int i=>obtain⟨t,rfl⟩:=r;rfl|str z=>obtain⟨t,rfl⟩:=r;rfl|_=>exact absurd (show false=true from f) zAx
theorem qP8{x:V}:∀{xs:List V}{us:List V'},Pb xs us->xs.all flatV=true->us.any (eqU x)=xs.any λy=>eqV y x|_,_,.nil,_=>rfl|y::xs,u::us,.cons r t,f=>by rw[Lp,zBm] at f;rw[zCu,zCu,qav3 r f.1,qP8 t f.2]
theorem qq4{A:Kx}{s:δ}{x:V}{v:V'}(b:Pa x v)(c:flatV x=true):∀{xs:List V}{us:List V'},Pb xs us->xs.all flatV=true->∀u∈us,SeqAt.EqAt A s u v (eqU x u)|_,_,.nil,_=>λu a=>by cases a|y::xs,u::us,.cons r t,f=>λd a=>by rw[Lp,zBm] at f;rcases zAi.mp a with rfl|a;{rw[qav3 r f.1];exact qaV8 r b f.1 c};exact qq4 b c t f.2 d a
def inV(x:V)(xs:List V):Bool:=xs.any λy=>eqV y x
def rIn(K:N7)(neg:Bool):R2:=λx y H Q=>∃p xs,y=.ref p/\(SqL K H p xs∨SqT K H p xs)/\flatV x=true/\xs.all flatV=true/\Q (.bl (if neg then !inV x xs else inV x xs)) H
theorem qx9:OpR X (Kd .In) (rIn X.K false):=by intro D8 s M H x y v u Q I f i h;obtain⟨p,k,rfl,b,g,c,q⟩:=h;cases i;rcases b with b|b;{obtain⟨a,r,d,j⟩:=I.list b;refine SeqAt.in_listAt (eqU x) d.isList (λw e=>qq4 f g r c w (by simpa using e)) ⟨.bl _,H,I,rfl,?_⟩;rw[show a.toArray.any (eqU x)=a.any (eqU x) by simp,qP8 r c];exact q};obtain⟨a,r,d,j⟩:=I.tuple b;refine SeqAt.in_tupleAt (eqU x) d (λw e=>qq4 f g r c w (by simpa using e)) ⟨.bl _,H,I,rfl,?_⟩;rw[show a.toArray.any (eqU x)=a.any (eqU x) by simp,qP8 r c];exact q
theorem qB3:OpR X (Kd .NotIn) (rIn X.K true):=by intro D8 s M H x y v u Q I f i h;obtain⟨p,k,rfl,b,g,c,q⟩:=h;cases i;rcases b with b|b;{obtain⟨a,r,d,j⟩:=I.list b;refine SeqAt.notIn_listAt (eqU x) d.isList (λw e=>qq4 f g r c w (by simpa using e)) ⟨.bl _,H,I,rfl,?_⟩;rw[show a.toArray.any (eqU x)=a.any (eqU x) by simp,qP8 r c];exact q};obtain⟨a,r,d,j⟩:=I.tuple b;refine SeqAt.notIn_tupleAt (eqU x) d (λw e=>qq4 f g r c w (by simpa using e)) ⟨.bl _,H,I,rfl,?_⟩;rw[show a.toArray.any (eqU x)=a.any (eqU x) by simp,qP8 r c];exact q
theorem qV2:CallR X (.builtin "len") (λxs H Q=>∃p ys,xs=[.ref p]/\(SqL X.K H p ys∨SqT X.K H p ys)/\Q (.int ys.length) H):=by intro D8 s M H xs i Q I r h;obtain⟨p,ys,rfl,b,q⟩:=h;obtain⟨u,rfl,f⟩:=B9 r;cases f;have j:=qN6;rcases b with b|b;{obtain⟨c,d,e,g⟩:=I.list b;have a:=d.length;exact Calls.call_len_list e.isList (by simp only[zA4]<;>lia) ⟨.int ys.length,H,I.tok _,⟨s.toks+1,by rw[zA4,a]⟩,q⟩};obtain⟨c,d,e,g⟩:=I.tuple b;have a:=d.length;exact len_tuple e (by simp only[zA4]<;>lia) ⟨.int ys.length,H,I.tok _,⟨s.toks+1,by rw[zA4,a]⟩,q⟩
theorem qV1:CallR X (.builtin "len") (λxs H Q=>∃z,xs=[.str z]/\z.length<=Kc/\Q (.int z.length) H):=by intro D8 s M H xs a Q I r h;obtain⟨z,rfl,b,q⟩:=h;obtain⟨u,rfl,t,rfl⟩:=B9 r;have c:=qN6;exact len_str ⋯ ⟨.int z.length,H,I.tok _,⟨_,rfl⟩,q⟩
theorem CallR.or{a:List V->Hp->VK->Prop}(h:CallR X f r)(h':CallR X f a):CallR X f (λxs H Q=>r xs H Q∨a xs H Q):=by intro D8 s M H xs b Q I c q;rcases q with q|q;{exact h D8 s M H xs b Q I c q};exact h' D8 s M H xs b Q I c q
theorem qd8:CallR X (.type "list") (λxs H Q=>∃p ys,xs=[.ref p]/\(SqL X.K H p ys∨SqT X.K H p ys)/\∀l,H l=none->Q (.ref l) (upd H l (.l ys))):=by
 intro D8 s M H xs A Q I r h;obtain⟨p,ys,rfl,g,q⟩:=h;obtain⟨u,rfl,z⟩:=B9 r;cases z;have fin:∀(a:List V'),Pb ys a->ys.length<=Kc->∀(c:Heap)(d:Nat),(∀b y,s.heap.get? b=some y->c.get? b=some y)->c.get? s.heap.objs.size=some {cls:=.type "list",dict:=none,data:=.seq a.toArray d,slots:=#[]}->EP X D8 M Q (.ref s.heap.objs.size) {s with heap:=c}:=λa f i c d j e=>
  ⟨.ref s.heap.objs.size,_,I.laid (t':=s.toks) j (zA2 _) (show ObjOk X.prog X.w _ c _ (.l ys) from⟨i,a,d,f,e⟩),rfl,q _ (I.hok.fresh (zA2 _))⟩
 rcases g with g|g;{obtain⟨a,f,m,i⟩:=I.list g;have k:=f.length;obtain⟨o,t,v,n,x⟩:=m.isList;exact call_list_seq p (.inl rfl) t v x (λc d j e=>fin a f i c d j e) (by simp only[zA4]<;>lia)};obtain⟨a,f,m,i⟩:=I.tuple g;have k:=f.length;obtain⟨o,t,v,n,x⟩:=m;exact call_list_seq p (.inr rfl) t v x (λc d j e=>fin a f i c d j e) (by simp only[zA4]<;>lia)
def tyV(K:N7)(T:String)(x:V)(H:Hp):Prop:=match x with|.str _=>T="str"|.int _=>T="int"|.ref p=>(T="list" /\ ∃xs,SqL K H p xs)∨(T="tuple" /\ ∃o,K.lookup p=some o/\o.cls=.type "tuple" /\ o.dict=none)∨(T="dict" /\ ((∃kvs,H p=some (.dK kvs))∨∃kvs,H p=some (.dT kvs)))∨(T="set" /\ ∃S n,H p=some (.set S n))|_=>False
theorem qaM1(I:Pd X D8 M H s)(r:Pa x v)(ty:tyV X.K T x H):s.TypeIs v T/\∀a,v=.ref a->∃ob,s.heap.get? a=some ob/\ob.dict=none:=by
 cases x with
 |str z=>obtain⟨t,rfl⟩:=r;cases (show T="str" from ty);exact⟨typeIs_str s z t,λ_ e=>nomatch e⟩|int i=>obtain⟨t,rfl⟩:=r;cases (show T="int" from ty);exact⟨typeIs_int s i t,λ_ e=>nomatch e⟩|ref p=>
  cases r;rcases ty with⟨rfl,xs,hq⟩|⟨rfl,o,hk,hc,d⟩|⟨rfl,hk⟩|⟨rfl,S,n,hk⟩;{obtain⟨g,_,f,_⟩:=I.list hq;refine⟨f.isList.typeIs,λa e=>?_⟩;cases e;obtain⟨o,n,e,c,d,_⟩:=f;exact⟨o,e,d⟩};{refine⟨⟨o,I.kIn p o hk,hc⟩,λa e=>?_⟩;cases e;exact⟨o,I.kIn _ o hk,d⟩}
  .have z:∃o,s.heap.get? p=some o/\o.ExactDict:=by rcases hk with⟨kvs,hk⟩|⟨kvs,hk⟩;{obtain⟨_,_,_,_,o,_,_,e,b,_⟩:=I.hok p _ hk;exact⟨o,e,b⟩};obtain⟨_,_,_,_,o,_,_,e,b,_⟩:=I.hok p _ hk;exact⟨o,e,b⟩
   obtain⟨o,e,b⟩:=z;refine⟨⟨o,e,b.1⟩,λa e2=>?_⟩;cases e2;exact⟨o,e,b.2.1⟩
  obtain⟨o,_,_,_,e,b,_⟩:=I.hok p _ hk;refine⟨⟨o,e,b.1⟩,λa e2=>?_⟩;cases e2;exact⟨o,e,b.2.1⟩
 |_=>exact Oz ty
def tBM0(K:N7)(T:String)(r:V->List V->Hp->VK->Prop)(Y:TE):TE:=λM H Q=>Y M H λx H1=>tyV K T x H1/\r x [] H1 Q
def tBM(K:N7)(T:String)(r:V->List V->Hp->VK->Prop)(Y:TE)(t:TA):TE:=λM H Q=>Y M H λx H1=>tyV K T x H1/\t M H1 λxs H2=>r x xs H2 Q
variable{o e:Kz}{U:List Kz}{Y:TE}{t:TA}{name:Str}{O N:Pos}{T R:String}{r:V->List V->Hp->VK->Prop}
theorem qba2(d:PlainAttrs T)(slot:Slot T name R)(a:typeOf (.builtin R)=pure (.type "method_descriptor"))(hm:MtR X R r)(e:PE X o Y)(hbase:Ki o name X.env (eval o X.env)=eval o X.env:=by rfl)(hline:(O.endLine==N.line)=true:=by rfl):PE X (.Call (.Attribute o name O) [] [] N) (tBM0 X.K T r Y):=by intro D8 s M H Q I h;refine wpAny_Call_method0_late hbase hline (thn (e D8 s M H _ I h) λv f b=>?_);obtain⟨x,H1,I1,c,ty,g⟩:=b;obtain⟨i,j⟩:=qaM1 I1 c ty;exact⟨T,R,d,slot,a,i,j,Calls.callWith_builtin rfl (PySem.evalArgs_none (hm D8 f M H1 x [] v [] Q I1 c .nil g))⟩
theorem Hb(g:PlainAttrs T)(slot:Slot T name R)(b:typeOf (.builtin R)=pure (.type "method_descriptor"))(hm:MtR X R r)(i:PE X o Y)(j:PA X (e::U) t)(hbase:Ki o name X.env (eval o X.env)=eval o X.env:=by rfl)(a:((backTo N (Kb (e::U) X.env)).all (λx=>!x.1)&&(backToKw N (Km [] X.env)).all (λx=>x.1.isSome)
 && decide ((e::U).length+([]:List Keyword).length+(if ([]:List Keyword).isEmpty then 0 else 1)<30))=true:=by rfl)(hline:(O.endLine==N.line)=true:=by rfl)(k:Kb (e::U) X.env=(false,eval e X.env)::Kb U X.env:=by rfl)(hplain:(backTo N (Kb U X.env)).any (·.1)=false:=by rfl):PE X (.Call (.Attribute o name O) (e::U) [] N) (tBM X.K T r Y t):=by intro D8 s M H Q I h;refine wpAny_Call_method_late hbase a hline rfl (thn (i D8 s M H _ I h) λv l c=>?_);obtain⟨x,H1,I1,d,ty,m⟩:=c;obtain⟨n,p⟩:=qaM1 I1 d ty;refine⟨T,R,g,slot,b,n,p,?_⟩;have f:=j N D8 l M H1 _ I1 m;rw[k] at f ⊢;refine Calls.callWith_builtin (by show (false||(backTo N (Kb U X.env)).any (·.1))=false;rw[hplain]<;>rfl) (Calls.evalArgs_plain ?_);exact thn f λq u ⟨w,H2,I2,y,q2⟩=>hm D8 u M H2 x w v q Q I2 d y q2
/- xs.append(e),list.index on a module's tuple .. are MtR facts of 06m -/
end
def MtM(X:Cx)(id:String)(r:V->List V->Hp->VK->Prop):Prop:=∀(D8:List (γ×Obj))(s:δ)(a:St)(H:Hp)(x:V)(xs:List V)(v:V')(us:List V')(Q:VK),Pd X D8 a H s->Pa x v->Pb xs us->r x xs H Q->Ku (Kv X.prog X.w) X.A (call (.builtin id) (v::us)) (EP X D8 a Q) X.xe s
theorem Pb.one(h:Pb [x] us):∃u,us=[u]/\Pa x u:=by cases h with|cons r t=>cases t;exact⟨_,rfl,r⟩
theorem Pb.two(h:Pb [x,y] us):∃u v,us=[u,v]/\Pa x u/\Pa y v:=by cases h with|cons r t=>cases t with|cons q t=>cases t;exact⟨_,_,rfl,r,q⟩
theorem Pb.zero:∀{us:List V'},Pb [] us->us=[]|_,.nil=>rfl
theorem Pb.dropLast(h:Pb xs us):Pb xs.dropLast us.dropLast:=by induction h with|nil=>exact .nil|cons r t a=>cases t with|nil=>exact .nil|cons q b=>exact .cons r a
theorem Pb.eraseIdx:∀{xs:List V}{us:List V'}(i:Nat),Pb xs us->Pb (xs.eraseIdx i) (us.eraseIdx i)|_,_,_,.nil=>.nil|_,_,0,.cons _ t=>t|_,_,i+1,.cons r t=>.cons r (Pb.eraseIdx i t)
theorem Pb.rep{xs:List V}{us:List V'}(h:Pb xs us):∀k:Nat,Pb (Li k xs).flatten (Li k us).flatten|0=>.nil|k+1=>by rw[zBv,zBv,zCo,zCo];exact Pb.append h (Pb.rep h k)
theorem qao6(l:List α):l.eraseIdx (l.length-1)=l.dropLast:=by
 induction l with
 |nil=>rfl|cons a r c=>
  cases r with
  |nil=>rfl|cons b r=>
   have e:(a::b::r).length-1=((b::r).length-1)+1:=by have d:(a::b::r).length=r.length+2:=rfl;have f:(b::r).length=r.length+1:=rfl;lia
   rw[e,List.eraseIdx_cons_succ,c];all_goals rfl
theorem qX8{α:Type}:∀(l:List α)(i:Nat),(l.eraseIdx i).length<=l.length|[],_=>zA2 _|_::_,0=>Nat.le_succ _|_::r,i+1=>zCc (qX8 r i)
theorem qY8(its:List V'):∀(k:Nat)(acc:List V'),
 Ma (λa b=>a++b) acc.toArray (Li k its.toArray)=(acc++(Li k its).flatten).toArray
 |0,acc=>by simp
 |k+1,acc=>by
  have e:acc.toArray++its.toArray=(acc++its).toArray:=by simp
  have e2:(acc++its)++(Li k its).flatten=acc++(Li (k+1) its).flatten:=by
   rw[zBv,zCo,zAs]
  rw[<-e2,<-qY8 its k (acc++its),<-e,zBv,Nh]
section
variable{X:Cx}{k:List (γ×Obj)}{j:St}{H:Hp}{s:δ}{l:γ}{xs ys:List V}
theorem Pd.lset(I:Pd X k j H s)(a:H l=some (.l xs))(e:s.heap.get? l=some {cls:=.type "list",data:=.seq its.toArray n})(b:f its.toArray=its'.toArray)(c:Pb ys its')(d:ys.length<=Kc):Pd X k j (upd H l (.l ys)) {s with heap:=s.heap.update l (Obj.mapSeq f),toks:=t'}:=by have q:=PySem.IsL.update e f;rw[b] at q;refine I.write (x:=l) (e:=l) (by rw[a];exact trivial) (.inl rfl) (λi u g h=>(Heap.get?_update_other s.heap (Obj.mapSeq f) (Ne.symm g)).trans h) ⟨_,q⟩ ?_;exact⟨d,its',_,c,q⟩
theorem Pd.lnew(I:Pd X k j H s)(a:Pb ys its)(b:ys.length<=Kc):Pd X k j (upd H s.heap.objs.size (.l ys)) {s with heap:=s.heap.push {cls:=.type "list",data:=.seq its.toArray},toks:=t'}:=I.laid (λ_ _ q=>zA3 _ q) (zA2 _) ⟨b,its,0,a,zAo _ rfl⟩
theorem Pd.fresh(I:Pd X k j H s):H s.heap.objs.size=none:=I.hok.fresh (zA2 _)
theorem Pd.lstM(I:Pd X k j H s)(a:H l=some (.l xs)):xs.length<=Kc/\∃(its:List V')(n:Nat),Pb xs its/\xs.length=its.length/\s.heap.get? l=some {cls:=.type "list",data:=.seq its.toArray n}:=by obtain⟨z,its,n,r,e⟩:=I.hok l _ a;exact⟨z,its,n,r,r.length,e⟩
theorem qaG7(h:n<=Kc):Builtin.List.listTooLong n=false:=by unfold Builtin.List.listTooLong;exact zAy ⋯
end
section
variable{X:Cx}
def qaz0:V->List V->Hp->VK->Prop:=λx vs H Q=>∃l xs y,x=.ref l/\vs=[y]/\H l=some (.l xs)/\xs.length<Kc/\Q .non (upd H l (.l (xs++[y])))
theorem qc8:MtM X "list.append" qaz0:=by intro D8 s L H x g v i Q I c d h;obtain⟨l,j,y,rfl,rfl,b,k,q⟩:=h;cases c;obtain⟨u,rfl,f⟩:=d.one;obtain⟨z,a,n,r,m,e⟩:=I.lstM b;refine Kr Oa ⟨_,e,rfl⟩ F.entry_list_append (F.args_list_append_2 _ _) (PySem.list_append l a.toArray n u (by rw[zA4];lia)) ⟨e,?_⟩;refine⟨.non,_,I.lset (its':=a++[u]) b e (by simp) (r.append (.cons f .nil)) ?_,rfl,q⟩;rw[zA6,Ms];lia
def rPop:V->List V->Hp->VK->Prop:=λx vs H Q=>∃l xs y,x=.ref l/\vs=[]/\H l=some (.l xs)/\xs[xs.length-1]?=some y/\Q y (upd H l (.l xs.dropLast))
theorem qbb8:MtM X "list.pop" rPop:=by
 intro D8 s L H x o v p Q I f g h;obtain⟨l,t,y,rfl,rfl,d,i,q⟩:=h;cases f;have b:=g.zero;subst b;obtain⟨z,a,n,r,j,e⟩:=I.lstM d;obtain⟨u,k,m⟩:=r.get i;have c:a.toArray[a.toArray.size-1]?=some u:=by show a.toArray[a.length-1]?=some u;rw[<-Array.getElem?_toList,<-j];exact k
 refine Kr Og ⟨_,e,rfl⟩ Ou (F.args_list_pop_1 _) (MeetsSeq.list_pop_last l a.toArray n u c (by rw[zA4];lia)) ⟨e,?_⟩;refine⟨y,_,I.lset (its':=a.dropLast) d e ?_ r.dropLast ?_,m,q⟩;{show a.toArray.eraseIdxIfInBounds (a.toArray.size-1)=a.dropLast.toArray;rw[zA4,L8,qao6]};rw[List.length_dropLast];lia
def qaO2:V->List V->Hp->VK->Prop:=λx vs H Q=>∃l xs i k y,x=.ref l/\vs=[.int i]/\H l=some (.l xs)/\-(2 ^ 63)<=i/\i<2 ^ 63/\seqIndex? i xs.length=some k/\xs[k]?=some y/\Q y (upd H l (.l (xs.eraseIdx k)))
theorem qaH1:MtM X "list.pop" qaO2:=by
 intro D8 s L H x D v E Q I d f h;obtain⟨l,g,i,k,y,rfl,rfl,c,j,m,o,p,q⟩:=h;cases d;obtain⟨u,rfl,A⟩:=f.one;obtain⟨t,rfl⟩:=A;obtain⟨z,a,n,r,B,e⟩:=I.lstM c;obtain⟨w,C,b⟩:=r.get p;refine Kr Og ⟨_,e,rfl⟩ Ou (F.args_list_pop_2 _ _)
  (MeetsSeq.list_pop_at l a.toArray n i t k w (fitsIndex_both j m) (by rw[zA4,<-B];exact o) (by rw[<-Array.getElem?_toList];exact C) (by rw[zA4];lia)) ⟨e,?_⟩
 refine⟨y,_,I.lset (its':=a.eraseIdx k) c e ?_ (r.eraseIdx k) ?_,b,q⟩;{show a.toArray.eraseIdxIfInBounds k=(a.eraseIdx k).toArray;rw[L8]};have:=qX8 g k;lia
def rCat:R2:=λx y H Q=>∃l b xs a,x=.ref l/\y=.ref b/\H l=some (.l xs)/\H b=some (.l a)/\xs.length+a.length<=Kc/\∀p,H p=none->Q (.ref p) (upd H p (.l (xs++a)))
theorem qbb4:OpR X (Kt .Add) rCat:=by
 intro D8 s L H x y v u Q I c d h;obtain⟨l,b,m,o,rfl,rfl,f,g,p,q⟩:=h;cases c;cases d;obtain⟨z,a,n,r,t,e⟩:=I.lstM f;obtain⟨w,its2,A,i,j,e2⟩:=I.lstM g;refine PySem.P.add_list e e2 ?_ (by rw[zA4,zA4];lia);have k:a.toArray++its2.toArray=(a++its2).toArray:=by simp
 rw[k];exact⟨.ref _,_,I.lnew (t':=s.toks) (r.append i) (by rw[zA6];lia),rfl,q _ I.fresh⟩
def rRep:R2:=λx y H Q=>∃l k xs,x=.ref l/\y=.int k/\H l=some (.l xs)/\-(2 ^ 63)<=k/\k<2 ^ 63/\xs.length*k.toNat<=Kc/\∀p,H p=none->Q (.ref p) (upd H p (.l (Li k.toNat xs).flatten))
theorem qaS6(xs:List α)(k:Nat):(Li k xs).flatten.length=k*xs.length:=by induction k with|zero=>simp|succ k a=>rw[zBv,zCo,zA6,a,Nat.succ_mul,Nat.add_comm]
theorem qba6:OpR X (Kt .Mult) rRep:=by
 intro D8 s L H x y v u Q I p w h;obtain⟨l,k,J,rfl,rfl,A,B,C,o,q⟩:=h;cases p;obtain⟨t,rfl⟩:=w;obtain⟨z,b,n,r,D,e⟩:=I.lstM A;have c:b.toArray.size*k.toNat<=Kc:=by rw[zA4,<-D];exact o
 have d:¬b.toArray.size*k.toNat>(2 ^ 63-1)/8:=by have:(Kc:Nat)<=(2 ^ 63-1)/8:=∅;lia
 have f:¬(!Builtin.List.listFitsIndex k)=true:=by rw[fitsIndex_both B C];exact zAx
 have hlong:¬Builtin.List.listTooLong (b.toArray.size*k.toNat)=true:=by rw[qaG7 c];exact zAx
 have g:Ma (λi j=>i++j) #[] (Li (if b.toArray.isEmpty=true then 0 else k.toNat) b.toArray)=(Li k.toNat b).flatten.toArray:=by
  have E:∀m:Nat,Ma (λi j=>i++j) #[] (Li m b.toArray)=(Li m b).flatten.toArray:=λm=>by have:=qY8 b m [];rw[zB8] at this;exact this
  rw[E];cases b with|nil=>simp|cons a K=>rw[if_neg (by simp)]
 refine wpAny_binaryOp_repeat_ref (T := "list") (U := "int") ∅ ⟨_,e,rfl⟩ (λG=>typeIs_int G k t) noFill_list_mul F.fills_int_mul Ow repeat_list F.slot_int_index.lookup
  (Kr Ow (typeIs_int s k t) F.entry_int_rmul (F.args_int_rmul_2 _ _) (int___rmul___int_list k t l b.toArray n)
   ⟨e,rfl,⟨_,e,rfl⟩,Kr F.slot_list_mul ⟨_,e,rfl⟩ F.entry_list_mul (F.args_list_mul_2 _ _) (AutoListH.list___mul___list_int_3 l b.toArray n k t f d hlong) ⟨e,?_⟩⟩)
 rw[g];exact⟨.ref _,_,I.lnew (t':=s.toks) (r.rep k.toNat) (by rw[qaS6,Nat.mul_comm];exact o),rfl,q _ I.fresh⟩
end
section
variable{f:Type}[DecidableEq f]
noncomputable def Ew(kvs:List (f×V))(k:f):Option V:=(kvs.find? λa=>decide (a.1=k)).map (·.2)
noncomputable def putK(kvs:List (f×V))(k:f)(v:V):List (f×V):=if (kvs.any λa=>decide (a.1=k))=true then kvs.map (λa=>if a.1=k then (a.1,v) else a) else kvs++[(k,v)]
theorem qQ5{k:f}(e:p.1=k):Ew (p::r) k=some p.2:=by simp[Ew,zC8,e]
theorem qQ6{k:f}(e:¬p.1=k):Ew (p::r) k=Ew r k:=by simp[Ew,zC8,e]
theorem qad6(kvs:List (f×V))(k:f)(v:V):(putK kvs k v).length<=kvs.length+1:=by unfold putK;split;{rw[zA9];lia};rw[zA6,zAp,Mb];lia
theorem RelO.getD(r:RelO o u)(a:Pa d d'):Pa (o.getD d) (u.getD d'):=by cases o with|none=>(cases u with|none=>exact a|some _=>exact(show False from r).elim)|some _=>cases u with|none=>exact(show False from r).elim|some _=>exact r
theorem KV.val(r:KV kvs vs)(k:f):RelO (Ew kvs k) (valueAt vs k):=by
 unfold KV at r;induction r with
 |nil=>exact True.intro|@cons p q ps qs h t ih=>
  obtain⟨c,d⟩:=h;by_cases e:p.1=k
  .have a:q.1=k:=c.symm.trans e;have b:valueAt (q::qs) k=some q.2:=by simp[valueAt,zC8,a]
   rw[qQ5 e,b];exact d
  have a:¬q.1=k:=λz=>e (c.trans z);have b:valueAt (q::qs) k=valueAt qs k:=by simp[valueAt,zC8,a]
  rw[qQ6 e,b];exact ih
theorem KV.any(r:KV kvs vs)(k:f):(kvs.any λa=>decide (a.1=k))=vs.any λa=>decide (a.1=k):=by unfold KV at r;induction r with|nil=>rfl|cons h t b=>rw[zCu,zCu,b,h.1]
theorem KV.repl(r:KV kvs vs)(k:f)(c:Pa y u):KV (kvs.map λa=>if a.1=k then (a.1,y) else a) (vs.map λa=>if a.1=k then (a.1,u) else a):=by unfold KV at r ⊢;induction r with|nil=>exact .nil|@cons p q ps qs h t ih=>rw[zAz,zAz];refine .cons ?_ ih;obtain⟨b,d⟩:=h;by_cases e:p.1=k;{rw[if_pos e,if_pos (b.symm.trans e)];exact⟨b,c⟩};rw[if_neg e,if_neg (λz=>e (b.trans z))];exact⟨b,d⟩
theorem KV.put(r:KV kvs vs)(k:f)(a:Pa y u):KV (putK kvs k y) (stored vs k u):=by unfold putK stored;rw[r.any k];by_cases e:(vs.any λb=>decide (b.1=k))=true;{rw[if_pos e,if_pos e];exact r.repl k a};rw[if_neg e,if_neg e];exact Paired.snoc r ⟨rfl,a⟩
theorem KV.length{vs:List (f×V')}(r:KV kvs vs):kvs.length=vs.length:=Paired.length r
end
theorem I8(r:Pa (kV k) u):(qg6 P w).is k u=true:=by cases k with|inl i=>obtain⟨t,e⟩:=(show ∃t,u=Nv i t from r);subst e;exact qad4 P w i t|inr x=>obtain⟨t,e⟩:=(show ∃t,u=Ny x t from r);subst e;exact qad3 P w x t
theorem qY1{P:Kw}{w:Ky}:∀{ks:List Key}{us:List V'},Pb (ks.map kV) us->ItemsAre (qg6 P w) ks us|[],_,r=>by rw[M3] at r;cases r;exact .nil|k::ks,_,r=>by rw[zAz] at r;cases r with|cons h t=>exact .cons (I8 h) (qY1 t)
abbrev KT(H:Hp):List (List Key×V)->List (List Key×γ×V')->Prop:=Paired λp q=>p.1=q.1/\H q.2.1=some (.q (p.1.map kV))/\Pa p.2 q.2.2
theorem KT.val(r:KT H kvs xs)(k:List Key):RelO (Ew kvs k) ((atKey xs k).map (·.2)):=by
 induction r with
 |nil=>exact True.intro|@cons p q ps qs h t ih=>
  obtain⟨c,_,d⟩:=h;by_cases e:p.1=k
  .have a:q.1=k:=c.symm.trans e;have b:atKey (q::qs) k=some q.2:=by simp[atKey,zC8,a]
   rw[qQ5 e,b];exact d
  have a:¬q.1=k:=λz=>e (c.trans z);have b:atKey (q::qs) k=atKey qs k:=by simp[atKey,zC8,a]
  rw[qQ6 e,b];exact ih
section
variable{P:Kw}{w:Ky}{H:Hp}{h:Heap}{a:γ}
theorem rd_of(b:HOk P w H h)(e:Rd H a u):ObjOk P w H h a u:=e.ok b
theorem I9(b:HOk P w H h)(e:Rd H a (.dK kvs)):kvs.length<=Kc/\(a==Kl)=false/\∃vs,KV kvs vs/\h.DictOf (qg6 P w) a vs:=show ObjOk P w H h a (.dK kvs) from rd_of b e
theorem qaT2(c:HOk P w H h)(e:H a=some (.q (ks.map kV))):(tupleKind (qg6 P w)).is h ks a:=by obtain⟨_,b,r,o,d,f,n,g⟩:=(show ObjOk P w H h a (.q (ks.map kV)) from c a _ e);exact⟨o,b.toArray,n,d,f,g,by simpa using qY1 r⟩
theorem dt_rd(c:HOk P w H h)(e:Rd H a (.dT kvs)):kvs.length<=Kc/\(a==Kl)=false/\∃xs,KT H kvs xs/\h.DictOfH (tupleKind (qg6 P w)) a xs:=by
 obtain⟨z,y,xs,r,o,d,f,g,i,j,k,n⟩:=(show ObjOk P w H h a (.dT kvs) from rd_of c e);refine⟨z,y,xs,r,o,d,f,g,i,j,k,λx b=>?_,n⟩;have all:∀{l:List (List Key×V)}{m:List (List Key×γ×V')},KT H l m->∀x∈m,(tupleKind (qg6 P w)).is h x.1 x.2.1:=by intro l m q;induction q with|nil=>intro x b;exact nomatch b|@cons p q ps qs hq t ih=>intro x b;rcases zAi.mp b with e|b;{subst e;exact qaT2 c (by rw[<-hq.1];exact hq.2.1)};exact ih x b
 exact all r x b
end
def DGet(H:Hp)(a:γ)(y:V)(r:Option V):Prop:=(∃kvs k,Rd H a (.dK kvs)/\y=kV k/\r=Ew kvs k)∨∃kvs k b,Rd H a (.dT kvs)/\y=.ref b/\H b=some (.q (k.map kV))/\r=Ew kvs k
section
variable{X:Cx}{b:List (γ×Obj)}{a:St}{H:Hp}{s:δ}
theorem Pd.big(I:Pd X b a H s):Kl<s.heap.objs.size:=by have h:Kk<s.heap.objs.size:=(I.mod.glob.keeps I.bk).lt;exact Nat.lt_trans ∅ h
end
section
variable{X:Cx}{i:List (γ×Obj)}{f:St}{H:Hp}{s:δ}{a:γ}{g:List (Key×V)}{A:Kx}{E:V'->δ->Prop}
theorem d_len(I:Pd X i f H s)(e:Rd H a (.dK g))(h:∀t s',Pd X i f H s'->Q (.int g.length t) s'):Ku (Kv X.prog X.w) A (call (.builtin "len") [.ref a]) Q E s:=by obtain⟨z,b,d,rel,c⟩:=I9 I.hok e;refine call_len_dict b c (by rw[<-rel.length];rw[Kj] at z;lia) ?_;rw[<-rel.length];exact h _ _ (I.tok _)
end
def qE7(kvs more:List (Key×V)):List (Key×V):=more.foldl (λacc a=>putK acc a.1 a.2) kvs
theorem qw6:∀(more kvs:List (Key×V)),(qE7 kvs more).length<=kvs.length+more.length|[],kvs=>by show kvs.length<=kvs.length+0;lia|p::r,kvs=>by have a:=qw6 r (putK kvs p.1 p.2);have b:=qad6 kvs p.1 p.2;show (qE7 (putK kvs p.1 p.2) r).length<=_;rw[zAp];lia
structure M2(X:Cx)(o:Kz)(m:Str)(apos:Pos)(e f:Kz)(cpos:Pos):Prop where
 base:Ki o m X.env (eval o X.env)=eval o X.env
 few:((backTo cpos (Kb [e,f] X.env)).all (λx=>!x.1)&&(backToKw cpos (Km [] X.env)).all (λx=>x.1.isSome)
   && decide (([e,f]:List Kz).length+([]:List Keyword).length+(if ([]:List Keyword).isEmpty then 0 else 1)<30))=true
 line:(apos.endLine==cpos.line)=true
 trees:backTo cpos (Kb [e,f] X.env)=[(false,eval e X.env),(false,eval f X.env)]
def IsD(H:Hp)(a:γ):Prop:=(∃kvs,Rd H a (.dK kvs))∨∃kvs,Rd H a (.dT kvs)
theorem qbd2(I:Pd X D8 k H s)(d:IsD H a):s.TypeIs (.ref a) "dict" /\ (∀b,Nu a=.ref b->∃ob,s.heap.get? b=some ob/\ob.dict=none)/\(a==Kl)=false:=by rcases d with⟨kvs,e⟩|⟨kvs,e⟩;{obtain⟨_,f,i,_,c⟩:=I9 I.hok e;refine⟨c.typeIs,λb q=>?_,f⟩;cases q;obtain⟨ob,_,_,g,h,_⟩:=c;exact⟨ob,g,h.2.1⟩};obtain⟨_,f,j,_,c⟩:=dt_rd I.hok e;refine⟨c.typeIs,λb q=>?_,f⟩;cases q;obtain⟨ob,_,_,g,h,_⟩:=c;exact⟨ob,g,h.2.1⟩
section
variable{X:Cx}{v:List (γ×Obj)}{t:St}{H:Hp}{s:δ}{a:γ}{y d:V}{u r:V'}{o:Option V}{A:Kx}{E:V'->δ->Prop}
theorem qbe8(n:A.units+1<cLine)(I:Pd X v t H s)(g:DGet H a y o)(i:Pa y u)(j:Pa d r)(h:∀m s',Pd X v t H s'->Pa (o.getD d) m->Q m s'):Ku (Kv X.prog X.w) A (call (.builtin "dict.get") [.ref a,u,r]) Q E s:=by rcases g with⟨kvs,k,e,ey,l⟩|⟨kvs,k,b,e,ey,eb,l⟩;{subst ey;obtain⟨z,f,q,rel,c⟩:=I9 I.hok e;refine call_meetsIn Ol c.typeIs Ov (Ot _ _ _) (meets_dict_get_default (qg6 X.prog X.w) a (I8 i) f r) ⟨_,c.mapOf,h _ _ (I.tok _) ?_⟩;rw[l];exact(rel.val k).getD j};subst ey;cases (show u=Nu b from i);obtain⟨z,f,p,rel,c⟩:=dt_rd I.hok e;refine call_meetsIn Ol c.typeIs Ov (Ot _ _ _) (meetsH_dict_get_default (tupleKind (qg6 X.prog X.w)) a b f r) ⟨tupleKind_room_in1 n,k,p,qaT2 I.hok eb,c,h _ _ (I.tok _) ?_⟩;rw[l];exact(rel.val k).getD j
end
def qaY6(td ty tx:TE):TE:=λb H Q=>td b H λx H1=>∃a,x=.ref a/\IsD H1 a/\ty b H1 λy H2=>tx b H2 λz H3=>∃o,DGet H3 a y o/\Q (o.getD z) H3
section
variable{X:Cx}{o e f:Kz}{M N:Pos}{O R S:TE}
theorem qaF7(i:X.A.units+1<cLine)(j:PE X o O)(k:PE X e R)(l:PE X f S)(m:M2 X o "get" M e f N):PE X (.Call (.Attribute o "get" M) [e,f] [] N) (qaY6 O R S):=by
 intro D8 s L H Q I h;refine wpAny_Call_method m.base m.few m.line F.plainAttrs_dict Ol F.type_dict_get (thn (j D8 s L H _ I h) λu n b=>?_);obtain⟨x,H1,I1,p,a,q,d,r⟩:=b;subst q;obtain rfl:u=Nu a:=p;obtain⟨t1,t2,_⟩:=qbd2 I1 d;refine⟨t1,t2,?_⟩;rw[m.trees];refine Calls.callWith_builtin rfl (Calls.evalArgs_plain (Calls.spliced_cons (thn (k D8 n L H1 _ I1 r) λC t ⟨y,H2,I2,v,q2⟩=>
  Calls.spliced_cons (thn (l D8 t L H2 _ I2 q2) λD E ⟨z,H3,I3,w,G,g,B⟩=>Calls.spliced_nil ?_))))
 exact qbe8 i I3 g v w λJ K I4 c=>⟨_,H3,I4,c,B⟩
end
end L2
namespace Att
open PySem PySem.W PySem.Calls PyProof.Rows
theorem qF2:∀(ns:List Int)(vs:List V'),WellAll P h vs (ns.map WData.int)->IntsAre vs ns:=by intro ns;induction ns with|nil=>intro vs w;rw[M3] at w;cases w;exact .nil|cons n ns c=>intro vs w;rw[zAz] at w;cases w with|cons a b=>cases a;exact .cons _ _ (c _ b)
theorem qas3{l:OpenLaw}(m:l.most=some n)(b:l.row.toRowW.claim.pre args=true)(i:WellAll P h vals args):∃a vs ns,vals=[Nu a]/\args=[WData.list (ns.map WData.int)]/\h.get? a=some {cls:=.type "list",data:=.seq vs.toArray}/\IntsAre vs ns/\ns.length<=n:=by
 have j:WShape.hasAll [] args [.list .int]=true:=(pre_splitW b).1;have k:l.pre.holds [] {args:=args}=true:=(pre_splitW b).2;obtain⟨d,r,rfl,o,p⟩:=hasAllW_cons j;obtain rfl:=hasAllW_nil p;obtain⟨x,rfl,s⟩:=hasW_list o;obtain⟨ns,rfl⟩:=items_int s;have c:ns.length<=n:=by
  unfold OpenLaw.pre at k;have f:(WTm.not (.lt (.lit (.int (n:Int))) (.len (.arg 0)))).holds [] {args:=[.list (ns.map .int)]}=true:=by have f:=(holds_andW k).1;rw[m] at f;exact f
  have g:=condW_of f (w_not (w_lt w_lit (w_len_list (w_arg rfl))));rw[zA9] at g;refine zC3 λq=>?_;have t:(n:Int)<((ns.length:Nat):Int):=⋯;first
   |(rw[zAf t] at g;exact absurd g ∅)
   |(simp at g;lia)
 cases i with|cons u v=>cases v;cases u with|list w e=>exact⟨_,_,ns,rfl,rfl,w,qF2 ns _ e,c⟩
theorem qas7(l:OpenLaw)(args:List WData):l.row.toRowW.claim.post args (.bool true) args=true:=postW_of (r:=l.row.toRowW) (X:=(true==true))
 (show WShape.has [] (.bool true) .bool=true by first|rfl|decide|simp[WShape.has,WShape.arms,WShape.armsAll])
 (show (WTm.eq .res (.lit (.bool true))).value [] {args:=args,res:=some (.bool true),after:=args}=some (.bool (true==true)) from w_eq_bool (w_res rfl) w_lit) rfl
theorem qae4{l:OpenLaw}(u:l.most=some n)(h:d.params.defaults=[])(call:∀(w:Ky)(s₀ s₁:δ)(mg i:Str->Option V')(fa:γ)(o:Obj)(j cd b:V')(a:γ)(vs:List V')(ns:List Int),
 Ground q loose [] XP w s₀ mg i s₁.heap->YP w s₁.heap->s₁.heap.get? fa=some o->o.data=.func (docDef d.name d.params d.body d.scope j cd b)->s₁.heap.CodeRec cd d.name->mg d.name=some (.ref fa)->s₁.heap.get? a=some {cls:=.type "list",data:=.seq vs.toArray}->IntsAre vs ns->ns.length<=n->s₁.gens = #[]->codeAny (Kv l.prog w) callerA (.call (.ref fa) ⟨[.ref a],[]⟩) (λr s'=>r=.ok (.ret (.bool true))/\OldK s₁.heap s'.heap/\s'.os=s₁.os/\AllBare s'.gens) s₁):WalkO q loose XP YP l.row.toRowW d [] (λf vs=>PySem.call f vs):=by intro w s₀ s₁ mg i G Y fa o j cd b v kV x y k s m z args vals I c t A p B;obtain rfl:v=.none:=Dflts.none s h;obtain rfl:kV=.none:=Dflts.noKw s;obtain⟨a,vs,ns,rfl,rfl,e,hints,g⟩:=qas3 u c p;refine enter_call (codeAny_mono (call w s₀ s₁ mg i fa o j cd b a vs ns G Y x (fd_plain y) k m e hints g z) λr s' C=>?_);obtain⟨rfl,D,E,F⟩:=C;exact⟨.inl ⟨.bool true,.bool true,[],rfl,λ_=>rfl,.bool true,qas7 l _,λ_=>⟨List.Pairwise.nil,λ_ H=>(nomatch H)⟩⟩,D,E,F⟩
end Att
namespace L2
open PySem PySem.Spec PyProof.Rows
theorem qV7:∀{vs:List V'}{ns:List Int},IntsAre vs ns->Pb (ns.map V.int) vs|_,_,.nil=>.nil|_,_,.cons n t h=>.cons ⟨t,rfl⟩ (qV7 h)
def Only(H:Hp):Prop:=∀b,H b=none∨∃o xs,H b=some (.frz o (.l xs))
theorem qaI0{K:N7}(KX:K.In s₁.heap)(g:s₁.heap.Ns Kk mg)(c:s₁.heap.Ns builtinsNs C)(D:∀x:Str,x ≠ "__name__" -> C x=Kg x)(i:s₁.heap.NoLimit)(T:s₁.gens = #[])(B:s₁.heap.get? a=some {cls:=.type "list",data:=.seq vs.toArray})(hi:IntsAre vs ns)(M:ns.length<=Kc)(U:Room k callerA)(F:∀base:Heap,K.In base->base.Ns Kk mg->Ee P w K mg base CX k fa fd [x] sp)(hbind:∀(s:δ)(u:V'),BindsTo s fd ⟨[u],[]⟩ [(x,u)])(E:∀H:Hp,Only H->SqL K H a (ns.map V.int)->sp [.ref a] H (λv _=>v=.bl true) λ_ _ _=>False)(G:∀H e s',CX [] H s₁ (λ_ _ _=>False) e s'->False):codeAny (Kv P w) callerA (.call (.ref fa) ⟨[.ref a],[]⟩) (λr s'=>r=.ok (.ret (.bool true))/\OldK s₁.heap s'.heap/\s'.os=s₁.os/\AllBare s'.gens) s₁:=by
 have N:=qV7 hi;have lenV:=hi.length;have core:∀H:Hp,Only H->SqL K H a (ns.map V.int)->HOk P w H s₁.heap->(∀b,H b≠none->b=a)->(H a≠none->K.lookup a=none)->codeAny (Kv P w) callerA (.call (.ref fa) ⟨[.ref a],[]⟩) (λr s'=>r=.ok (.ret (.bool true))/\OldK s₁.heap s'.heap/\s'.os=s₁.os/\AllBare s'.gens) s₁:=by
  intro H O X j Q Y;have base_of:∀{b:γ}{o:Obj},s₁.heap.get? b=some o->H b=none->(F4 s₁.heap H).get? b=some o:=λe n=>qaI8 e n;have I:∀{b:γ}{o:Obj}{l:Array DictEntry}{p:Nat},s₁.heap.get? b=some o->o.data=.dict l p->H b=none:=λ{b o l p} e d=>by cases q:H b with|none=>rfl|some u=>have J:b=a:=Q b (by rw[q];simp);subst J;rw[B] at e;cases e;have Z:Data.seq vs.toArray _=Data.dict l p:=d;cases Z
  have f:∀{b:γ}{m:Str->Option V'},s₁.heap.Ns b m->(F4 s₁.heap H).Ns b m:=λ{b m} ⟨o,l,p,e,d,r⟩=>⟨o,l,p,base_of e (I e d),d,r⟩;have t:K.In (F4 s₁.heap H):=λb o e=>base_of (KX b o e) (by cases q:H b with|none=>rfl|some u=>have J:b=a:=Q b (by rw[q];simp);subst J;rw[Y (by rw[q];simp)] at e;cases e);have hM:Mod K mg (F4 s₁.heap H):=⟨t,f g,⟨C,f c,D⟩,let ⟨mc,h1,h2⟩:=i;⟨mc,f h1,h2⟩⟩;have e0:Env0 P w K mg (F4 s₁.heap H) callerA [] s₁ H:=⟨rfl,hM,λb o e=>qaR3 e,Nat.le_of_eq (qau5 _ _),trivial,λb c=>absurd (show b∈([]:List γ) from c) (by simp),j,.of_eq T⟩;refine codeAny_mono ((F _ t (f g)).run callerA [] s₁ H ⟨[.ref a],[]⟩ [.ref a] [.ref a] _ _ U e0 (hbind s₁ (.ref a)) (.cons rfl .nil) (E H O X)) λr s' h=>?_;cases r with|error e=>exact(G H e s' h).elim|ok fl=>cases fl with|next=>exact Oz h|brk=>exact Oz h|cont=>exact Oz h|ret u=>obtain⟨v,H',os,bare,R,y,r',q⟩:=h;have q':v=.bl true:=q;subst q';obtain rfl:u=Nx true:=r';refine⟨rfl,OldK.of_keep λb o e=>?_,os,bare⟩;cases q:H b with|none=>exact R.keep b o e q (by intro z;exact absurd (show b∈([]:List γ) from z) (by simp)) (by simp)|some u=>rcases O b with z|⟨ob,xs,z⟩;{rw[q] at z;cases z};have z2:=R.frzs b ob _ z;obtain⟨S,_⟩:=j b _ z;obtain⟨e2,_⟩:=y b _ z2;rw[e] at S;cases S;exact e2
 cases L:K.lookup a with|some o=>have e:=KX a o L;rw[B] at e;cases e;refine core (λ_=>none) (λ_=>.inl rfl) (.inr ⟨_,vs.toArray,_,L,rfl,rfl,rfl,by rw[zA4,lenV];exact M,by simpa using N⟩) (λb u z=>by have A:(none:Option HO)=some u:=z;cases A) (λb z=>absurd rfl z) λz=>absurd rfl z|none=>refine core (λb=>if b=a then some (.frz {cls:=.type "list",data:=.seq vs.toArray} (.l (ns.map V.int))) else none) (λb=>?_) (.inl (.inr ⟨{cls:=.type "list",data:=.seq vs.toArray},if_pos rfl⟩)) (λb u z=>?_) (λb z=>?_) λ_=>L;{by_cases c:b=a;{exact .inr ⟨_,_,if_pos c⟩};exact .inl (if_neg c)};{by_cases c:b=a;{have A:=(if_pos c).symm.trans z;cases A;subst c;exact⟨B,by rw[zA9];exact M,vs,_,N,B⟩};have A:=(if_neg c).symm.trans z;cases A};by_cases c:b=a;{exact c};exact absurd (if_neg c) z
theorem qaL7{l:W.OpenLaw}{K:Params->N7}{CX:Ky->CXT}{sp:Ky->Sp}(y:l.most=some n)(j:n<=Kc)(m:d.params.defaults=[])(z:Room k callerA)(A:∀(w:Ky)(h:Heap),YP w h->(K w.params).In h)(F:∀(w:Ky)(mg:Str->Option V')(fa:γ)(h:Heap),(K w.params).In h->h.Ns Kk mg->mg d.name=some (.ref fa)->∃fd:ε,(∀(s:δ)(u:V'),BindsTo s fd ⟨[u],[]⟩ [(x,u)])/\∀base:Heap,(K w.params).In base->base.Ns Kk mg->Ee l.prog w (K w.params) mg base (CX w) k fa fd [x] (sp w))(p:∀(w:Ky)(H:Hp)(a:γ)(ns:List Int),ns.length<=n->Only H->SqL (K w.params) H a (ns.map V.int)->sp w [.ref a] H (λv _=>v=.bl true) λ_ _ _=>False)(r:∀(w:Ky)(H:Hp)(s:δ)(e:V')(s':δ),CX w [] H s (λ_ _ _=>False) e s'->False):W.WalkO q loose XP YP l.row.toRowW d [] (λf vs=>PySem.call f vs):=by refine Att.qae4 y m λw s₀ s₁ mg M fa o N O B a vs ns G Y P Q C t i hints c D=>?_;have KX:=A w _ Y;obtain⟨fd,E,I⟩:=F w mg fa _ KX G.T.g t;exact qaI0 KX G.T.g G.T.b G.T.builtins G.T.nolimit D i hints (zAn c j) z I E (λH J L=>p w H a ns c J L) λH e s'=>r w H s₁ e s'
end L2
/- THE LAST THEOREM (shape;LID,My.* are yours):My.Adr: a structure of the addresses that your layer names (classes,functions);My.Txt K t: a structure (Prop) of the equations over K;
 My.txt_mk:{K} {implicit addresses ..} (e1:nsIn K Kk "law"=some (some (.ref f))) (e2:K.lookup f=some ⟨oc,od,.func (fnOf "law" "law" params body scope dV kV doc pm an cdv ct),sl⟩) (e3:codeIn K cdv "law"=true) .. : ∃t,My.Txt K t
(the tactic k_is has no namespace: write k_is) -/
namespace L2
open PySem PySem.Spec PyProof.Rows
variable{A B:Prop}{f:γ}{qual x:Str}{st:K4}
noncomputable def qi4(s:K4)(j:Nat):K4:=match s with|.ClassDef _ _ _ body _ _ _ _ _ _ _=>body.getD j (.Pass ⟨0,0,0,0⟩)|_=>.Pass ⟨0,0,0,0⟩
noncomputable def qg0(s:K4):Arguments:=match s with|.FunctionDef _ a _ _ _ _ _ _ _ _=>a|_=>{posonlyargs:=[],args:=[],vararg:=none,kwonlyargs:=[],kw_defaults:=[],kwarg:=none,defaults:=[]}
noncomputable def qd5(s:K4):List K4:=match s with|.FunctionDef _ _ b _ _ _ _ _ _ _=>b|_=>[]
noncomputable def qa3(s:K4):Scope:=match s with|.FunctionDef _ _ _ _ _ _ sc _ _ _=>sc|_=>{kind:=.function,names:=[],isGenerator:=false,isCoroutine:=false}
abbrev CX0:CXT:=λ_ _ _ _ _ _=>False
abbrev E0:XK:=λ_ _ _=>False
theorem pass0:qQ0 CX0 X (λ_=>E0):=λ_ _ _ _ _ _ _ h=>h.elim
structure Fun(K:N7)(x qual:Str)(st:K4)(f:γ)(fd:ε):Prop where
 ex:∃(oc:V')(od:Option γ)(kV doc pm:V')(an:Option γ)(cdv ct:V')(osl:Array (Option V')),
  fd=W.fnOf x qual (qg0 st) (qd5 st) (qa3 st) .none kV doc pm an cdv ct/\K.lookup f=some ⟨oc,od,.func fd,osl⟩/\W.codeIn K cdv qual=true
 kp:W.keepIn K (.ref f)=true
section
variable{P:Kw}{w:Ky}{K:N7}{r:Str->Option V'}{p:Heap}
theorem Fun.ok(F:Fun K x qual st f fd)(S:qa9 N ps (qa3 st))(len:∀vs H Q E,sp vs H Q E->vs.length=ps.length)(hbody:∀(a:V')(A:Kx)(outer:List Env)(s:δ)(H:Hp)(vs:List V)(Q:VK)(E:XK),Room k (A.deeper (envOfC qual (qa3 st) s.heap.objs.size f a))->sp vs H Q E->∃t,PSs (Em true CX0 P w K r p N qual (qa3 st) f a A outer s H E).nox (qd5 st) t/\t {nx:=λ_ H'=>Q .non H',rt:=Q} (start N vs) H):Ee P w K r p CX0 (k+1) f fd ps sp:=by obtain⟨j,l,kV,d,m,n,a,o,e,rfl,g,b⟩:=F.ex;refine Iz g b S len λA outer s H vs Q E i c=>?_;obtain⟨t,h,q⟩:=hbody a A outer s H vs Q E i c;exact⟨t,h.nox,q⟩
theorem Fun.binds(F:Fun K x qual st f fd)(h:∀(kV a c:V')(d:Option γ)(b e:V')(us:List V'),us.length=ps.length->bindArgs (W.fnOf x qual (qg0 st) (qd5 st) (qa3 st) .none kV a c d b e) ⟨us,[]⟩=pure (ps.zip us)):Binds K fd ps []:=by obtain⟨j,k,kV,a,c,d,b,e,g,rfl,l,i⟩:=F.ex;exact .all (h kV a c d b e)
theorem qau7{kV:V'}(l:K.lookup f=some ⟨oc,i,.func (W.fnOf x qual (qg0 st) (qd5 st) (qa3 st) .none kV b g e a h),d⟩)(c:W.codeIn K a qual=true)(k:W.keepIn K (.ref f)=true):Fun K x qual st f (W.fnOf x qual (qg0 st) (qd5 st) (qa3 st) .none kV b g e a h):=⟨⟨oc,i,kV,b,g,e,a,h,d,rfl,l,c⟩,k⟩
end
theorem hu_of{A:Kx}(a:Room k A):A.units+1<cLine:=zCg (Nat.add_le_add_left (by decide:1<=64) _) a.units
theorem qas2(h:n<=1000):n<Kc:=zCg h ∅
section
variable{X:Cx}
theorem pv(i:Nat)(b:X.N[i]?=some x:=by rfl)(c:Vis X.env.scope x:=by first|exact O3 rfl|exact O2 (O3 rfl)|exact O2 (O2 rfl))(d:N' x:=by decide)(a:(x==("__classdict__" : Str))=false:=by decide):PE X (.Name x pos) (Fh i):=qn3 b c d a
theorem qaw7:CallR X (.builtin "len") (λxs H Q=>∃a kvs,xs=[V.ref a]/\H a=some (.dK kvs)/\Q (.int kvs.length) H):=by intro D8 s f H xs d Q I r h;obtain⟨a,kvs,rfl,b,q⟩:=h;obtain⟨u,rfl,c⟩:=B9 r;cases c;exact d_len I (.inl b) λt e I'=>⟨.int kvs.length,H,I',⟨t,rfl⟩,q⟩
end
theorem iteF(h:B):if false=true then A else B:=by rw[if_neg zAx];exact h
theorem iteT(h:A):if true=true then A else B:=by rw[if_pos rfl];exact h
theorem ite2{c:Prop}[Decidable c](h1:c->A)(h2:¬c->B):if c then A else B:=by by_cases h:c;{rw[if_pos h];exact h1 h};rw[if_neg h];exact h2 h
def Same(H H':Hp):Prop:=∀b o,H b=some o->H' b=some o
theorem Same.trans(a:Same H H1)(b:Same H1 H2):Same H H2:=λc o h=>b c o (a c o h)
end L2
set_option maxHeartbeats 4000000
namespace L2
open PySem PySem.Spec PyProof.Rows
variable{H:Hp}{a:γ}{e:Kz}{es:List Kz}{i:Int}{p:Pos}{t:TA}{x:Str}{xs:List V}{α:Type}
theorem Hu{t:Sem α}(h:Ku M A t Q (λ_ _=>False) s)(b:∀a s,Q a s->Q' a s):Ku M A t Q' E s:=Kn h b λ_ _ x=>x.elim
noncomputable def Ex(env:Env):List (Str×NameKind)->List (Str×γ)->List (Str×γ)|[],acc=>acc|(n,k)::r,acc=>Ex env r (if k==Ox then (n,(env.cells.lookup n).getD 0)::acc else acc)
theorem qC8{env:Env}:∀(l:List (Str×NameKind))(acc:List (Str×γ)),(∀x∈l,x.2=Ox->∃c,env.cells.lookup x.1=some c)->(forIn l acc λ(x:Str×NameKind)(r:List (Str×γ))=>
     (match x with
     |(name,kind)=>if (kind==Ox)=true then (do let c<-cellOf env name;pure (ForInStep.yield ((name,c)::r)):Sem (ForInStep (List (Str×γ)))) else pure (ForInStep.yield r)))=(pure (Ex env l acc):Sem _)
 |[],acc,_=>rfl
 |(n,k)::r,acc,h=>by
   rw[Ls];by_cases a:(k==Ox)=true
   . obtain⟨c,b⟩:=h (n,k) zAh (by simpa using a)
     have b:env.cells.lookup n=some c:=b;dsimp only;rw[if_pos a];have e:cellOf env n=pure c:=by unfold cellOf;rw[b]
     rw[e];show (forIn r ((n,c)::acc) _:Sem _)=_;rw[qC8 r ((n,c)::acc) λx d=>h x (zA7 _ d)];show _=(pure (Ex env r (if (k==Ox)=true then (n,(env.cells.lookup n).getD 0)::acc else acc)):Sem _)
     rw[if_pos a,b];rfl
   dsimp only;rw[if_neg a];show (forIn r acc _:Sem _)=_;rw[qC8 r acc λx d=>h x (zA7 _ d)];show _=(pure (Ex env r (if (k==Ox)=true then (n,(env.cells.lookup n).getD 0)::acc else acc)):Sem _)
   rw[if_neg a]
theorem qP2(h:∀x∈sc.names,x.2=Ox->∃c,env.cells.lookup x.1=some c):closureFor sc env=pure (Ex env sc.names []):=by unfold closureFor;show (forIn sc.names [] _ >>= _)=_;have:=qC8 (env:=env) sc.names [] h;rw[show (forIn sc.names ([]:List (Str×γ)) _:Sem _)=pure (Ex env sc.names []) from this];rfl
theorem qap2{env:Env}:∀(l:List (Str×NameKind))(acc:List (Str×γ))(x:Str)(c:γ),(x,c)∈Ex env l acc->(x,c)∈acc∨((x,Ox)∈l/\c=(env.cells.lookup x).getD 0)|[],acc,x,c,h=>.inl h|(n,k)::r,acc,x,c,h=>by rcases qap2 r _ x c h with h|⟨h,e⟩;{by_cases a:(k==Ox)=true;{rw[if_pos a] at h;rcases zAi.mp h with h|h;{cases h;exact .inr ⟨by rw[show k=Ox by simpa using a];exact zAh,rfl⟩};exact .inl h};rw[if_neg a] at h;exact .inl h};exact .inr ⟨zA7 _ h,e⟩
theorem qap3{env:Env}:∀(l:List (Str×NameKind))(acc:List (Str×γ))(x:Str),(∃c,(x,c)∈acc)->∃c,(x,c)∈Ex env l acc|[],acc,x,h=>h|(n,k)::r,acc,x,⟨c,h⟩=>qap3 r _ x ⟨c,by split;exact zA7 _ h;exact h⟩
theorem qV0{env:Env}:∀(l:List (Str×NameKind))(acc:List (Str×γ))(x:Str),(x,Ox)∈l->∃c,(x,c)∈Ex env l acc|[],acc,x,h=>by simp at h|(n,k)::r,acc,x,h=>by rcases zAi.mp h with h|h;{cases h;exact qap3 r _ _ ⟨_,by rw[if_pos (by rfl)];exact zAh⟩};exact qV0 r _ x h
theorem qB9{α:Type}:∀{l:List (Str×α)}{x:Str},(∃c,(x,c)∈l)->∃c,l.lookup x=some c|[],x,⟨c,h⟩=>by simp at h|(n,a)::r,x,⟨c,h⟩=>by cases b:x==n with|true=>exact⟨a,by simp only[zAv,b]⟩|false=>rcases zAi.mp h with h|h;{cases h;simp at b};obtain⟨d,e⟩:=qB9 ⟨c,h⟩;exact⟨d,by simp only[zAv,b];exact e⟩
noncomputable def Dn(a:St)(src:List (Option Nat)):St:=src.map λo=>match o with|none=>none|some j=>(a[j]?).getD none
noncomputable def qr2(X:Cx)(NY:List Str)(src:List (Option Nat))(sc:Scope):Bool:=(sc.kind==.function)&&(src.length==NY.length) &&
 (sc.names.all λx=>x.2 != .cell&&(x.2 != .local||sc.names.lookup x.1==some .local)&&(x.2 != .free||(X.env.scope.names.lookup x.1==some .cell||X.env.scope.names.lookup x.1==some .free))) &&
 ((NY.zip src).all λp=>match p.2 with|none=>true|some j=>X.N[j]?==some p.1&&sc.names.lookup p.1==some .free)
def ql8(X:Cx)(NY:List Str)(sc:Scope)(C:γ)(a:δ)(H0:Hp)(ex:List γ):Cx where
 prog:=X.prog
 w:=X.w
 K:=X.K
 mg:=X.mg
 base:=X.base
 A:=X.A
 N:=NY
 s₀:=a
 H₀:=H0
 env:=compEnvC sc (Ex X.env sc.names []) C X.env
 outer:=X.stack
 stack:=X.stack
 ex:=ex
 fn:=λ_=>false
 calm:=X.calm
 pn:=[]
 xe:=λ_ _=>False
def PFs(X:Cx)(ifs:List Kz)(t:TT):Prop:=∀(D8:List (γ×Obj))(s:δ)(b:St)(H:Hp)(Q:Bool->Hp->Prop),Pd X D8 b H s->t b H Q->Ku (Kv X.prog X.w) X.A (forIn ifs true λc r=>if r=true then do let a<-isTrue c X.env (eval c X.env);pure (ForInStep.yield a) else pure (ForInStep.yield r)) (TP X D8 b Q) X.xe s
def tYes:TT:=λ_ H Q=>Q true H
theorem qaP6:PFs X [] tYes:=λ_ _ _ H _ I h=>wpAny_tests_nil ⟨H,I,h⟩
theorem qaZ9{t:TT}(h:PT X c t):PFs X [c] t:=λD8 s a H Q I q=>wpAny_tests_one (h D8 s a H Q I q)
theorem qr3(I:Nat->δ->Prop)(turn:∀n s,I n s->Ku (Kv prog w) A (pyNext it) (λr s₁=>match r with
     |none=>R (.ok .next) s₁
     |some v=>Ku (Kv prog w) A (letOwnedTupleGo target it v) (λ_ s₁'=>Ku (Kv prog w) A (assign target env v) (λ_ s₂=>
         Ku (Kv prog w) A (forIn ifs true λc r=>if r=true then do let a<-isTrue c env (eval c env);pure (ForInStep.yield a) else pure (ForInStep.yield r)) (λa s₃=>
           if a=true then Ku (Kv prog w) A (eval elt env) (λx s₄=>
             Ku (Kv prog w) A (call (.builtin "list.append") [acc,x]) (λ_ s₅=>∃m,m<n/\I m s₅) (λ_ _=>False) s₄) (λ_ _=>False) s₃
           else ∃m,m<n/\I m s₃) (λ_ _=>False) s₂) (λ_ _=>False) s₁') (λ_ _=>False) s₁) (λ_ _=>False) s)(n:Nat)(h:I n s):codeAny (Kv prog w) A (.compLoop (.ListComp elt [⟨target,iter,ifs,0⟩] scope pos) 0 it acc env) R s:=by
 refine codeAny_loop rfl I (λn s b=>?_) n h;show Ku _ A ((compTurn (.ListComp elt [⟨target,iter,ifs,0⟩] scope pos) 0 it acc env).onRaise (λx=>do noteFrame x env;theTreesLotGoes x)) _ _ s;refine wpAny_noted ?_;rw[compTurn_list];refine E' (wpAny_standAt (E' (Hu (turn n s b) λr s₁ h₁=>?_)));cases r with
 |none=>exact J' h₁
 |some v=>
   refine E' (Hu h₁ λ_ s₁' h₁'=>?_);refine E' (Hu h₁' λ_ s₂ h₂=>E' (Hu h₂ λa s₃ h₃=>?_));cases a with
   |false=>exact J' ⟨rfl,h₃⟩
   |true=>
     exact E' (E' (Hu h₃ λx s₄ h₄=>E' (Hu h₄ λ_ s₅ h₅=>J' (J' ⟨rfl,h₅⟩))))
def qp3(J:It)(g:TG)(tf:TT)(te:TE)(D:γ)(R:Hp->Prop)(σ0:St)(H0:Hp):Prop:=∃W:Nat->Nat->St->Hp->Prop,(∃m,W 0 m σ0 H0)/\∀i m c H,W i m c H->(J.stop i H/\R H)∨(J.go i H/\∃N:St->Hp->Prop,(∀c' H',N c' H'->∃a,a<m/\W (i+1) a c' H')/\∀x H',J.yld i H x H'->g x c H' λσ2 H2=>tf σ2 H2 λb H3=>
     if b=true then te σ2 H3 λv H4=>∃xs,H4 D=some (.l xs)/\xs.length<Kc/\N σ2 (upd H4 D (.l (xs++[v]))) else N σ2 H3)
theorem qs7{env:Env}{x:Str}:∀{names:List (Str×NameKind)},(∀y∈names,y.2≠.cell)->((names.map λ(n,k)=>if (k==Ox&&env.scope.kind==.function&&env.kindOf n==some .cell) then (n,Oy) else (n,k)).lookup x=some .cell∨(names.map λ(n,k)=>if (k==Ox&&env.scope.kind==.function&&env.kindOf n==some .cell) then (n,Oy) else (n,k)).lookup x=some .free)->names.lookup x=some .free
 |[],_,h=>by simp at h|(n,k)::r,hc,h=>by
  have c:=@qs7 env x r λy d=>hc y (zA7 _ d);have e:k≠.cell:=hc (n,k) zAh;simp only[zAz] at h;cases b:x==n with
  |true=>
   simp only[zAv,b];by_cases a:(k==Ox&&env.scope.kind==.function&&env.kindOf n==some .cell)=true
   .have:k=Ox:=by simp only[zBm,zC1] at a;exact a.1.1
    rw[this]
   rw[if_neg a] at h;simp only[zAv,b] at h;rcases h with h|h;{exact absurd (N5 h) e};exact h
  |false=>simp only[zAv,b];apply c;by_cases a:(k==Ox&&env.scope.kind==.function&&env.kindOf n==some .cell)=true;{rw[if_pos a] at h;simpa only[zAv,b] using h};rw[if_neg a] at h;simpa only[zAv,b] using h
theorem qi3{env:Env}{x:Str}:∀{names:List (Str×NameKind)},names.lookup x=some .free->((names.map λ(n,k)=>if (k==Ox&&env.scope.kind==.function&&env.kindOf n==some .cell) then (n,Oy) else (n,k)).lookup x=some .cell∨(names.map λ(n,k)=>if (k==Ox&&env.scope.kind==.function&&env.kindOf n==some .cell) then (n,Oy) else (n,k)).lookup x=some .free)|[],h=>by simp at h|(n,k)::r,h=>by have c:=@qi3 env x r;simp only[zAz];cases a:x==n with|true=>simp only[zAv,a] at h;have h:k=.free:=N5 h;by_cases b:(k==Ox&&env.scope.kind==.function&&env.kindOf n==some .cell)=true;{rw[if_pos b];simp only[zAv,a];exact .inl trivial};rw[if_neg b];simp only[zAv,a];rw[h];exact .inr rfl|false=>simp only[zAv,a] at h;by_cases b:(k==Ox&&env.scope.kind==.function&&env.kindOf n==some .cell)=true;{rw[if_pos b];simp only[zAv,a];exact c h};rw[if_neg b];simp only[zAv,a];exact c h
section
variable{X:Cx}{D8:List (γ×Obj)}{σ:St}{H2:Hp}{s2:δ}{elt tg iter:Kz}{ifs:List Kz}{sc:Scope}{pos:Pos}{NY:List Str}{src:List (Option Nat)}{J:It}{fp:List γ}{it:γ}{tn:Nat->Heap->Prop}{g:TG}{tf:TT}{te:TE}
theorem qZ9{R:γ->Hp->Prop}{RR:V'->γ->Result->δ->Prop}(ck:qr2 X NY src sc=true)(hc:X.calm=true)(I2:Pd X D8 σ H2 s2)(T:F9 X.prog X.w X.K tg J fp it tn)(I:tn 0 s2.heap)(f2:∀b∈fp,F5 X D8 H2 b)(hg:∀C P H0,PG (ql8 X NY sc C P H0 fp) tg g)(hf:∀C P H0,PFs (ql8 X NY sc C P H0 fp) ifs tf)(he:∀C P H0,PE (ql8 X NY sc C P H0 fp) elt te)(rd:∀D,H2 D=none->qp3 J g tf te D (R D) (Dn σ src) (upd H2 D (.l [])))(fin:∀D C H' s',Pd X D8 σ H' s'->R D H'->H' C=none->X.s₀.heap.objs.size<=C->C≠X.env.locals->(∀x c,X.env.cells.lookup x=some c->c≠C)->(∀p∈X.pn++D8,p.1≠C)->C∉X.fs->(∃m,s'.heap.Ns C m)->RR (.ref D) C (.ok .next) s'):Ku (Kv X.prog X.w) X.A (newList []) (λacc s₃=>Ku (Kv X.prog X.w) X.A (newFunctionEnv sc X.env.globals (Ex X.env sc.names []) [] X.env.qual none .none (some X.env)) (λcenv s₄=>
 codeAny (Kv X.prog X.w) X.A (.compStart (.ListComp elt [⟨tg,iter,ifs,0⟩] sc pos) 0 (.ref it) acc {cenv with scope:=relabel sc X.env}) (RR acc cenv.locals) s₄) E s₃) E s2:=by
 unfold qr2 at ck;simp only[zBm,zC1,zBo] at ck;obtain⟨⟨⟨hkind,G⟩,Q⟩,S⟩:=ck;have hcell:∀y∈sc.names,y.2≠.cell:=λy U e=>by have:=(Q y U).1.1;rw[e] at this;exact absurd this ∅
 have hfree:∀y∈sc.names,y.2=.free->(X.env.kindOf y.1=some .cell∨X.env.kindOf y.1=some .free):=λy U e=>by have:=(Q y U).2;rw[e] at this;show X.env.scope.names.lookup y.1=some .cell∨X.env.scope.names.lookup y.1=some .free;simpa using this
 have clsub:∀x c,(Ex X.env sc.names []).lookup x=some c->X.env.cells.lookup x=some c:=λx c e=>by rcases qap2 _ _ x c (PySem.mem_of_lookup e) with h|⟨h,q⟩;{simp at h};obtain⟨d,M⟩:=I2.ok.has x (hfree _ h rfl);rw[M] at q;rw[M,q];rfl
 refine wpAny_newObj_type (wpAny_newFunctionEnv hcell (by intro y U;simp at U) (λh₁ hns₁ hsb₁=>?_) hkind);dsimp only at hns₁ hsb₁ ⊢;have I3:=I2.lnew (ys:=[]) (its:=[]) (t':=s2.toks) .nil (zBb _);have hD:H2 s2.heap.objs.size=none:=I2.fresh;generalize t:s2.heap.objs.size=D at hns₁ hsb₁ I3 hD ⊢;generalize V:s2.heap.push {cls:=.type "list",dict:=none,data:=.seq ([]:List V').toArray}=h3 at hns₁ hsb₁ I3 ⊢;have Z:h3.objs.size=D+1:=by rw[<-V,zCh,t]
 generalize s:h3.objs.size=C at hns₁ hsb₁ Z ⊢;have I3:Pd X D8 σ (upd H2 D (.l [])) {s2 with heap:=h3,toks:=s2.toks}:=I3;have B:∀b o,h3.get? b=some o->h₁.get? b=some o:=λb o e=>hsb₁.extBut b o (by rw[<-s];exact zAt (zAc e)) (zA3 _ e);have a0:∀b o,h3.get? b=some o->b≠C:=λb o e=>by rw[<-s];exact zAt (zAc e)
 have a1:X.env.locals≠C:=by rw[<-s];exact zAt I3.lt
 have b0:∀x c,X.env.cells.lookup x=some c->c≠C:=λx c e=>by obtain⟨v,o,F,_⟩:=I3.cell x c e;exact a0 c o F
 have a2:∀b∈fp,b≠C:=λb f=>by obtain⟨o,F,_⟩:=T.obj _ _ I b f;have:=zAc F;rw[t] at this;exact zAt (Nat.lt_trans this (by rw[Z];exact Nat.lt_succ_self _))
 have b1:∀b∈fp,b≠D:=λb f=>by obtain⟨o,F,_⟩:=T.obj _ _ I b f;have:=zAc F;rw[t] at this;exact zAt this
 have a3:∀b o,s2.heap.get? b=some o->h3.get? b=some o:=λb o e=>by rw[<-V];exact zA3 _ e
 have pinC:∀p∈X.pn++D8,p.1≠C:=λp hp=>a0 _ _ (I3.pin p hp).1;have a4:C∉X.fs:=by rw[<-s];exact I3.nofs (zA2 _)
 have b2:X.s₀.heap.objs.size<=C:=by rw[<-s];exact I3.sz
 have stkC:∀b∈frs X.stack,b≠C:=λb f e=>by rcases zAi.mp (I3.stkSub b f) with z|z;{exact a1 (z.symm.trans e)};exact a4 (e ▸ z)
 have HC:upd H2 D (.l []) C=none:=I3.hok.fresh (by show h3.objs.size<=C;exact Nat.le_of_eq s);have a5:∀b∈fp,b∉frs X.stack:=λb f z=>by obtain⟨_,h1,h2,_⟩:=f2 b f;rcases zAi.mp (I2.stkSub b z) with q|q;{exact h1 q};exact h2 q
 let Y:Cx:=ql8 X NY sc C {s2 with heap:=h3} (upd H2 D (.l [])) fp;have a6:(Dn σ src).length=NY.length:=by unfold Dn;rw[zA9];exact G
 have IY:Pd Y [] (Dn σ src) (upd H2 D (.l [])) {s2 with heap:=h₁,toks:=s2.toks+0}:=by
  refine⟨⟨I2.ok.mod,hkind,I2.ok.glob,I2.ok.blt,(by show h3.objs.size<=C;exact Nat.le_of_eq s),λx y c h1 h2=>I2.ok.inj x y c (clsub x c h1) (clsub y c h2),λx hx=>?_,λ_ _ z _=>(zAx z).elim,I2.ok.hd,I2.ok.frames,.inl rfl,λb f=>⟨a2 b f,λx c e=>(f2 b f).2.2.2.2.1 x c (clsub x c e)⟩,
   λb o e=>?_,?_,λb o e f=>?_,λb f=>a5 b f,?_,λb f=>?_⟩,rfl,I2.bare,Un.kept B,⟨_,hns₁,λi x v e1 e2 e3=>?_⟩,λx c e=>?_,HC,λx c e=>I3.freeC x c (clsub x c e),λp hp=>absurd (show p∈([]:List (γ×Obj)) from hp) (by simp),I3.hok.kept B,a6⟩
  {have hx:=qs7 hcell hx;exact qB9 (qV0 _ _ _ (PySem.mem_of_lookup hx))};{exact I3.bs b o e};{exact zAn I2.ok.bsz (zAn (zAn I2.sz (by rw[t];exact zA2 _)) (by show D<=h3.objs.size;lia))};{rcases (f2 b f).2.2.2.1 with z|z;{exact I2.ok.noex b o e z};exact absurd (zAm (zAc (I2.ok.bs b o e).1) z) (zCf _)};{exact I3.stack};{exact I3.stkFree b f}
  .have hi:i<src.length:=by have:=(zA5.mp e2).1;rw[a6,<-G] at this;exact this
   have e1:NY[i]?=some x:=e1;have es:src[i]?=some src[i]:=by simp[hi]
   have ep:(Dn σ src)[i]?=some (match src[i] with|none=>none|some j=>(σ[j]?).getD none):=by unfold Dn;rw[zB5,es];rfl
   rw[ep] at e2;cases hj:src[i] with
   |none=>rw[hj] at e2;cases e2|some j=>
    rw[hj] at e2;have e2:(σ[j]?).getD none=some v:=N5 e2;have ej:σ[j]?=some (some v):=by cases q:σ[j]? with|none=>rw[q] at e2;cases e2|some o=>rw[q] at e2;rw[show o=some v from e2]
    have hm:(x,some j)∈NY.zip src:=by
     have:(NY.zip src)[i]?=some (x,some j):=by rw[List.getElem?_zip_eq_some];exact⟨e1,by rw[es,hj]⟩
     exact zB1 this
    have q:=S _ hm;simp only[zBm,zC1] at q;obtain⟨qN,qf⟩:=q;have H:=hfree _ (PySem.mem_of_lookup qf) rfl;obtain⟨m,hn,hl⟩:=I3.loc;obtain⟨u,r,l⟩:=hl j x v qN ej (H.elim (λz=>.inr (.inl z)) λz=>.inr (.inr z));refine⟨u,r,.inr ⟨qi3 qf,?_⟩⟩;rcases l with⟨z,_⟩|⟨_,c,ec,o,F,M⟩;{have H:X.env.kindOf x=some .cell∨X.env.kindOf x=some .free:=H;rw[z] at H;rcases H with H|H<;>cases H};obtain⟨c',a7⟩:=qB9 (qV0 (env:=X.env) sc.names [] x (PySem.mem_of_lookup qf));have:=clsub x c' a7;rw[ec] at this;cases this;exact⟨c,a7,o,B c o F,M⟩
  obtain⟨v,o,F,M⟩:=I3.cell x c (clsub x c e);exact⟨v,o,B c o F,M⟩
 have st₁:tn 0 h₁:=T.keep _ _ _ I λb f o e=>B b o (a3 b o e);have stat:∀{H':Hp},(∀b∈fp,H' b=none)->∀b∈fp,F5 Y [] H' b:=λhn b f=>by refine⟨hn b f,a2 b f,a5 b f,.inl f,λx c e=>(f2 b f).2.2.2.2.1 x c (clsub x c e),λp hp=>absurd (show p∈([]:List (γ×Obj)) from hp) (by simp)⟩
 have loop:codeAny (Kv X.prog X.w) X.A (.compLoop (.ListComp elt [⟨tg,iter,ifs,0⟩] sc pos) 0 (.ref it) (.ref D) Y.env) (RR (.ref D) C) {s2 with heap:=h₁,toks:=s2.toks+0}:=by
  obtain⟨W,⟨m0,w0⟩,turn⟩:=rd D hD;refine qr3 (λn s'=>∃i σ' H',Pd Y [] σ' H' s'/\tn i s'.heap/\(∀b∈fp,H' b=none)/\W i n σ' H') ?_ m0 ⟨0,_,_,IY,st₁,λb f=>by rw[qd1 (b1 b f)];exact(f2 b f).1,w0⟩;rintro n s3 ⟨i,σ3,H3,J3,a8,a9,w3⟩;rcases turn i n σ3 H3 w3 with⟨stop,qn⟩|⟨go,N,hN,step⟩;{refine thn (T.done Y rfl rfl rfl hc i [] s3 σ3 H3 _ J3 (stat a9) a8 stop) λr s4 k=>?_;obtain⟨hr,J4⟩:=k;subst hr;have b3:H3 C=none:=J4.free;refine fin D C H3 s4 ?_ qn b3 b2 (Ne.symm a1) b0 pinC a4 (let ⟨m,hn,_⟩:=J4.loc;⟨m,hn⟩);refine I2.call' (ch:=fp) J4.os ?_ J4.hok J4.bare λb f=>?_;{have u1:Un (frs X.stack) fp H2 (upd H2 D (.l [])) s2.heap h3:=Un.laid a3 (Nat.le_of_eq t) hD;exact u1.trans J4.base};obtain⟨_,h1,_,b4,h4,h5⟩:=f2 b f;exact⟨b4,h1,h4,h5⟩};refine thn (T.item Y rfl rfl rfl hc i [] s3 σ3 H3 _ J3 (stat a9) a8 go) λr s4 k=>?_;obtain⟨u,hr,h4⟩:=k;subst hr;refine thn h4 λ_ s5 k=>?_;obtain⟨x,H5,J5,r5,y5,L,b5⟩:=k;have J5':=J5.pinned (stat b5) (T.obj _ _ L);have again:∀{σ7:St}{H7:Hp}{O:δ},Pd Y ([]++Ir fp s5.heap) σ7 H7 O->N σ7 H7->∃m,m<n/\∃i σ' H',Pd Y [] σ' H' O/\tn i O.heap/\(∀b∈fp,H' b=none)/\W i m σ' H':=λ{σ7 H7 O} I7 n7=>by obtain⟨m',hm,w7⟩:=hN σ7 H7 n7;refine⟨m',hm,i+1,σ7,H7,I7.unpinned,T.keep _ _ _ L λb f o e=>(I7.pin (b,o) (zAw _ (zAw _ (qs6 f e)))).1,λb f=>?_,w7⟩;obtain⟨o,e,d⟩:=T.obj _ _ L b f;exact(I7.pin (b,o) (zAw _ (zAw _ (qs6 f e)))).2.1
  refine thn (hg C _ _ _ s5 σ3 H5 x u _ J5' r5 (step x H5 y5)) λ_ s6 k=>?_;obtain⟨σ6,H6,J6,q6⟩:=k;refine thn (hf C _ _ _ s6 σ6 H6 _ J6 q6) λok O k=>?_;obtain⟨H7,J7,q7⟩:=k;cases ok with|false=>exact again J7 (by simpa using q7)|true=>rw[if_pos rfl] at q7 ⊢;refine thn (he C _ _ _ O σ6 H7 _ J7 q7) λy s8 k=>?_;obtain⟨v,H8,J8,r8,xs,b6,b7,q8⟩:=k;refine thn (qc8 (X:=Y) _ s8 σ6 H8 (.ref D) [v] (.ref D) [y] (λ_ H'=>N σ6 H') J8 rfl (.cons r8 .nil) ⟨D,xs,v,rfl,rfl,b6,b7,q8⟩) λ_ s9 k=>?_;obtain⟨_,H9,J9,_,q9⟩:=k;exact again J9 q9
 exact codeAny_compStart_list loop (T.self _ 0 _ _ _ st₁ loop)
end
def Dp(wi:TI)(src:List (Option Nat))(g:TG)(tf:TT)(te:TE):TE:=λa H Q=>wi a H λJ H1=>∀D,H1 D=none->qp3 J g tf te D (λH'=>Q (.ref D) H') (Dn a src) (upd H1 D (.l []))
section
variable{X:Cx}{elt tg iter:Kz}{ifs:List Kz}{sc:Scope}{pos:Pos}{NY:List Str}{src:List (Option Nat)}{wi:TI}{g:TG}{tf:TT}{te:TE}
theorem qP1(b:qr2 X NY src sc=true):sc.kind=.function/\(∀y∈sc.names,y.2=.local->sc.names.lookup y.1=some .local)/\(∀y∈sc.names,y.2=.free->(X.env.kindOf y.1=some .cell∨X.env.kindOf y.1=some .free)):=by unfold qr2 at b;simp only[zBm,zC1,zBo] at b;obtain⟨⟨⟨hkind,d⟩,a⟩,f⟩:=b;refine⟨hkind,λy c e=>?_,λy c e=>?_⟩;{have:=(a y c).1.2;rw[e] at this;simpa using this};have:=(a y c).2;rw[e] at this;show X.env.scope.names.lookup y.1=some .cell∨X.env.scope.names.lookup y.1=some .free;simpa using this
theorem qA7(NY:List Str)(src:List (Option Nat))(hi:PI X tg iter wi)(n:∀C a H0 ex,PG (ql8 X NY sc C a H0 ex) tg g)(p:∀C a H0 ex,PFs (ql8 X NY sc C a H0 ex) ifs tf)(r:∀C a H0 ex,PE (ql8 X NY sc C a H0 ex) elt te)(t:X.calm=true:=by rfl)(l:qr2 X NY src sc=true:=by rfl)(u:∀x,Ke iter X.env x=pure x:=by intro _;rfl):PE X (.ListComp elt [⟨tg,iter,ifs,0⟩] sc pos) (Dp wi src g tf te):=by intro D8 s σ H Q I h;obtain⟨hkind,hnames,hfree⟩:=qP1 l;rw[eval_ListComp];refine wpAny_comprehension_free (use:=none) rfl u (qP2 λx y e=>I.ok.has x.1 (hfree x y e)) hkind hnames ?_;refine thn (hi D8 s σ H _ I h) λv O c=>thn c λz P d=>?_;obtain⟨B,f,S,J,H2,rfl,I2,T,i,f2,E⟩:=d;refine qZ9 (R:=λD H'=>Q (.ref D) H') (RR:=λj C=>compPost (Kv X.prog X.w) X.A X.xe none (EP X D8 σ Q) j C) l t I2 T i f2 (λC a H0=>n C a H0 f) (λC a H0=>p C a H0 f) (λC a H0=>r C a H0 f) E ?_;intro D C H' F I' q G c d K L U ⟨m,M⟩;refine⟨m,M,λV k=>⟨.ref D,H',?_,rfl,q⟩⟩;exact I'.turned (t':=F.toks) (it:=C) (λb o N e=>k.extBut b o N e) G d (.inr c) K L
theorem qah9(i:Nat)(NY:List Str)(src:List (Option Nat))(L:X.N.Nodup)(hi:PI X tg iter wi)(M:∀C a H0 ex,PG (ql8 X NY sc C a H0 ex) tg g)(O:∀C a H0 ex,PFs (ql8 X NY sc C a H0 ex) ifs tf)(P:∀C a H0 ex,PE (ql8 X NY sc C a H0 ex) elt te)(k:X.N[i]?=some x:=by rfl)(l:Loc X.env.scope x:=by first|exact O3 rfl|exact O2 rfl)(S:X.calm=true:=by rfl)(F:qr2 X NY src sc=true:=by rfl)(n:swapsWith (.ListComp elt [⟨tg,iter,ifs,0⟩] sc pos) (some (.Name x px)) spos.line X.env=pure true:=by rfl)(U:∀x,Ke iter X.env x=pure x:=by intro _;rfl)(r:X.fn x=true∨X.env.scope.names.lookup x=some .local:=by first|exact .inl rfl|exact .inr rfl|assumption):PS X (.Assign [.Name x px] (.ListComp elt [⟨tg,iter,ifs,0⟩] sc pos) spos) (Ht (Dp wi src g tf te) (E2 i)):=by
 intro D8 s σ H D I h;obtain⟨hkind,hnames,hfree⟩:=qP1 F;rw[exec_Assign_Name_used _ _ _ _ n];refine E' (wpAny_standAt (E' ?_));show Ku _ _ (do let _<-comprehension (.ListComp elt [⟨tg,iter,ifs,0⟩] sc pos) sc X.env _ (newList []) false (eval iter X.env) (some (assign (.Name x px) X.env))) _ _ s;refine E' (Kn (wpAny_comprehension_free (use:=some (assign (.Name x px) X.env)) (Q:=λ_ c=>SP X D8 D .next c) rfl U (qP2 λx l e=>I.ok.has x.1 (hfree x l e)) hkind hnames ?_) (λ_ c V=>J' (J' V)) λ_ _ e=>e);refine thn (hi D8 s σ H _ I h) λv s1 t=>thn t λW s2 j=>?_;obtain⟨Y,u,tn,J,H2,rfl,I2,T,y,f2,Z⟩:=j;refine qZ9 (R:=λD' H'=>E2 i (.ref D') σ H' D.nx) (RR:=λB C=>compPost (Kv X.prog X.w) X.A X.xe (some (assign (.Name x px) X.env)) (λ_ c=>SP X D8 D .next c) B C) F S I2 T y f2 (λC a H0=>M C a H0 u) (λC a H0=>O C a H0 u) (λC a H0=>P C a H0 u) Z ?_;intro D' C H' c I' q G t j h3 h4 h5 ⟨m,hn⟩;obtain⟨o,es,ep,ho,K,hr⟩:=hn;have Ip:Pd X (D8++[(C,o)]) σ H' c:=I'.pins_of λp hp=>(zAb.mp hp).elim (λz=>I'.pin p (zAw _ z)) λz=>by
  have e:p=(C,o):=by simpa using z
  subst e;exact⟨ho,G,j,h5,λv e=>by rw[K] at e;cases e⟩
 show Ku _ _ (assign (.Name x px) X.env (.ref D')) _ _ _;refine wpAny_assign_Name (qQ8 (v:=.ref D') Ip L k l rfl (λd I''=>?_) r);have f:d.heap.get? C=some o:=(I''.pin (C,o) (by simp)).1;refine⟨m,⟨o,es,ep,f,K,hr⟩,λh' E=>⟨_,H',?_,q⟩⟩;exact I''.unpinned.turned (t':=d.toks) (it:=C) (λb o hb e=>E.extBut b o hb e) G j (.inr t) h3 h4
end
theorem qZ8{K:N7}(Pv:Nat->St->Hp->Prop)(c:Pv 0 n H)(d:∀i n H,i<=xs.length->Pv i n H->SqL K H a xs)(f:∀i x n H,xs[i]?=some x->Pv i n H->g x n H λσ2 H2=>tf σ2 H2 λh H3=>if h=true then te σ2 H3 λv H4=>∃ys,H4 D=some (.l ys)/\ys.length<Kc/\Pv (i+1) σ2 (upd H4 D (.l (ys++[v]))) else Pv (i+1) σ2 H3)(j:∀n H,Pv xs.length n H->R H):qp3 (Itl K a) g tf te D R n H:=by refine⟨λi m n H=>m=xs.length-i/\i<=xs.length/\Pv i n H,⟨xs.length,by simp,zBb _,c⟩,?_⟩;rintro i m n H ⟨rfl,k,p⟩;have q:=d i n H k p;by_cases b:i<xs.length;{refine .inr ⟨⟨xs,xs[i],q,by simp[b]⟩,Pv (i+1),λn' H' l=>⟨xs.length-(i+1),⋯,rfl,b,l⟩,λx H' y=>?_⟩;obtain⟨e,y⟩:=y;subst e;exact f i x n _ (y xs q) p};have e:i=xs.length:=⋯;subst e;exact .inl ⟨⟨xs,q,zA2 _⟩,j n H p⟩
theorem qap1{D:γ}{lo:Int}{n:Nat}{g:TG}{tf:TT}{te:TE}{R:Hp->Prop}{k:St}(Pv:Nat->St->Hp->Prop)(b:Pv 0 k H)(c:∀i k H,i<n->Pv i k H->g (.int (lo+i)) k H λσ2 H2=>tf σ2 H2 λd H3=>if d=true then te σ2 H3 λv H4=>∃ys,H4 D=some (.l ys)/\ys.length<Kc/\Pv (i+1) σ2 (upd H4 D (.l (ys++[v]))) else Pv (i+1) σ2 H3)(f:∀k H,Pv n k H->R H):qp3 (Itr lo n) g tf te D R k H:=by refine⟨λi m k H=>m=n-i/\i<=n/\Pv i k H,⟨n,by simp,zBb _,b⟩,?_⟩;rintro i m k H ⟨rfl,j,p⟩;by_cases a:i<n;{refine .inr ⟨a,Pv (i+1),λk' H' h=>⟨n-(i+1),⋯,rfl,a,h⟩,λx H' y=>?_⟩;obtain⟨e,y⟩:=y;subst e y;exact c i k _ a p};have e:i=n:=⋯;subst e;exact .inl ⟨zA2 _,f k H p⟩
section
variable{X:Cx}
theorem sset(i:Nat)(a:X.N.Nodup)(b:PE X e te)(hi:X.N[i]?=some x:=by rfl)(c:Loc X.env.scope x:=by first|exact O3 rfl|exact O2 rfl)(d:swapsWith e (some (.Name x pos')) pos.line X.env=pure false:=by rfl)(f:X.fn x=true∨X.env.scope.names.lookup x=some .local:=by first|exact .inl rfl|exact .inr rfl|assumption):PS X (.Assign [.Name x pos'] e pos) (Ht te (E2 i)):=qaO8 a hi c b d f
theorem gnm(i:Nat)(a:X.N.Nodup)(hi:X.N[i]?=some x:=by rfl)(b:Loc X.env.scope x:=by first|exact O3 rfl|exact O2 rfl)(c:X.fn x=true∨X.env.scope.names.lookup x=some .local:=by first|exact .inl rfl|exact .inr rfl|assumption):PG X (.Name x pos) (E2 i):=qaz4 a hi b c
def CDivB(_ j:Int):Prop:=0<j/\j<2 ^ 200
theorem qT2:OpR X (Kt .FloorDiv) (rI CDivB λi j=>.int (i/j)):=opI λi j _ _ _ _ _ a q=>by
 have c:(0:Int)<j:=a.1;have d:j<2 ^ 200:=a.2;refine floordiv_int ⋯ (by rw[Int.fdiv_eq_ediv_of_nonneg i ⋯];exact q) (.inl (PyProof.noPylong_of_log2 ?_));have b:j.natAbs<2 ^ 200:=⋯
 have e:j.natAbs.log2<200:=(Nat.log2_lt ⋯).mpr b;lia
theorem qaP8{j:Int}(k:Int){a b:Nat}{q pos:Pos}(c:i ^ j.toNat=k:=by decide)(d:0<=j:=by decide)(h1:j<=1000000:=by decide)(h2:i.natAbs<2 ^ 64:=by decide):PE X (.BinOp (.Constant (.int i) a p) .Pow (.Constant (.int j) b q) pos) (tC (.int k)):=by intro D8 s m H Q I h;refine(pe_op qba7 qM0 qM0) D8 s m H Q I ⟨_,_,rfl,rfl,⟨d,h1,h2⟩,?_⟩;show Q (.int (i ^ j.toNat)) H;rw[c];exact h
theorem qbb1:OpR X (Kd .Is) (λx y H Q=>∃b c,x=.bl b/\y=.bl c/\Q (.bl (b==c)) H):=by intro D8 s m H x y v u Q I a d h;obtain⟨b,c,rfl,rfl,q⟩:=h;cases a;cases d;exact is_bool ⟨.bl _,H,I,rfl,q⟩
def Bn(H:Hp):V->Option String
 |.non=>some "NoneType" | .bl _=>some "bool" | .int _=>some "int" | .str _=>some "str"|.ref a=>match H a with|some (.l _)=>some "list" | some (.q _)=>some "tuple" | some (.dK _)=>some "dict" | some (.frz _ (.l _))=>some "list"|_=>none
 |_=>none
noncomputable def Hv(t n:String):Bool:=t==n||(t=="bool" && n=="int")
theorem qaS9(K:N7){t:String}(a:t∈["NoneType", "bool", "int", "str", "list", "tuple", "dict"])(b:n∈["bool", "int", "str", "list", "tuple", "dict"]):N8 K (.type t) (.type n)=some (Hv t n):=by simp only[zAi,zBk,or_false] at a b;rcases a with rfl|rfl|rfl|rfl|rfl|rfl|rfl<;>rcases b with rfl|rfl|rfl|rfl|rfl|rfl<;>rfl
theorem qam1{K:N7}{x:V}{t:String}(h:Bn H x=some t):El K H x (.type t)/\t∈["NoneType", "bool", "int", "str", "list", "tuple", "dict"]:=by cases x with|non=>cases h;exact⟨.non,∅⟩|bl b=>cases h;exact⟨.bl b,∅⟩|int b=>cases h;exact⟨.int b,∅⟩|str b=>cases h;exact⟨.str b,∅⟩|byt b=>cases h|flt b=>cases h|ty b=>cases h|ref a=>unfold Bn at h;dsimp only at h;split at h;{cases h;exact⟨.l (by assumption),∅⟩};{cases h;exact⟨.q (by assumption),∅⟩};{cases h;exact⟨.dK (by assumption),∅⟩};{cases h;exact⟨.frz (by assumption),∅⟩};cases h
def rIsi:List V->Hp->VK->Prop:=λxs H Q=>∃x n t,xs=[x,.ty n]/\Bn H x=some t/\n∈["bool", "int", "str", "list", "tuple", "dict"]/\Q (.bl (Hv t n)) H
theorem ql9:CallR X (.builtin "isinstance") rIsi:=by intro D8 s m H g i Q I r h;obtain⟨x,n,t,rfl,b,c,q⟩:=h;obtain⟨u,j,rfl,d,a⟩:=G9 r;cases a;obtain⟨ty,e⟩:=qam1 (K:=X.K) b;exact qJ4 I d ty (qaS9 X.K e c) λf=>⟨.bl _,H,I.tok f,rfl,q⟩
theorem qaF8(n:String)(hm:X.mg x=none)(a:Gl X x:=by rfl)(b:Kg x=some (.type n):=by rfl)(c:x ≠ "__name__" := by decide)(d:N' x:=by decide):PE X (.Name x pos) (tC (.ty n)):=qaQ2 a hm b rfl c d
theorem qaz7{t:Tok}(hm:X.mg x=some (.int n t))(a:Gl X x:=by rfl)(b:N' x:=by decide):PE X (.Name x pos) (tC (.int n)):=qaz6 a hm ⟨t,rfl⟩ b
theorem cbi{id:String}(c:CallR X (.builtin id) r)(hm:X.mg x=none)(d:PA X (e::es) t)(f:Gl X x:=by rfl)(g:Kg x=some (.builtin id):=by rfl)(h:x ≠ "__name__" := by decide)(a:N' x:=by decide)(i:Kb (e::es) X.env=(false,eval e X.env)::Kb es X.env:=by rfl)(b:(backTo pos (Kb es X.env)).any (·.1)=false:=by rfl):PE X (.Call (.Name x p) (e::es) [] pos) (tCB r t):=qaF9 c f hm g d h a i b
theorem cty{id:String}(c:CallR X (.type id) r)(hm:X.mg x=none)(d:PA X (e::es) t)(f:Gl X x:=by rfl)(g:Kg x=some (.type id):=by rfl)(h:x ≠ "__name__" := by decide)(a:N' x:=by decide)(i:Kb (e::es) X.env=(false,eval e X.env)::Kb es X.env:=by rfl)(b:(backTo pos (Kb es X.env)).any (·.1)=false:=by rfl):PE X (.Call (.Name x p) (e::es) [] pos) (tCB r t):=qat0 c f hm g d h a i b
end
def rGetL:V->V->Hp->VK->Prop:=λo i H Q=>∃p xs k v,o=.ref p/\i=.int k/\H p=some (.l xs)/\0<=k/\xs[k.toNat]?=some v/\Q v H
theorem qaJ2:PGet X rGetL:=by intro D8 s C H o i w y Q I c d h;obtain⟨p,z,k,v,rfl,rfl,e,f,b,q⟩:=h;cases c;obtain⟨t,rfl⟩:=d;obtain⟨a,n,r,g,A⟩:=I.l e;obtain⟨u,j,l⟩:=r.get b;have m:=(zA5.mp b).1;have B:=qN6;refine wpAny_getItem_list (items:=a.toArray) (x:=u) ⟨_,g,rfl,n,rfl⟩ f ⋯ (by simpa using j) ⟨v,H,I,l,q⟩
theorem qbf8{xs:List α}(b:0<=i)(h1:i<xs.length):∃v,xs[i.toNat]?=some v/\atI xs i=some v:=by have a:i.toNat<xs.length:=⋯;have e:(i.toNat:Int)=i:=⋯;refine⟨xs[i.toNat],by simp[a],?_⟩;have:=qP5 (xs:=xs) (j:=i.toNat) (v:=xs[i.toNat]) (by simp[a]);rw[e] at this;exact this
theorem qP6{xs:List α}(a:0<=i)(h1:i<xs.length):∃v,v∈xs/\atI xs i=some v:=by obtain⟨v,h,e⟩:=qbf8 a h1;exact⟨v,zB1 h,e⟩
theorem qal9(h:H a=some (.l xs)):Bn H (.ref a)=some "list" := by
 unfold Bn;dsimp only;rw[h]
theorem qaI2(h:H a=some (.q xs)):Bn H (.ref a)=some "tuple" := by
 unfold Bn;dsimp only;rw[h]
theorem qaA5{xs:List (Key×V)}(h:H a=some (.dK xs)):Bn H (.ref a)=some "dict" := by
 unfold Bn;dsimp only;rw[h]
theorem Same.new(h:H q=none):Same H (upd H q u):=λb o e=>by rw[qd1 (qf4 e h)];exact e
structure Df(K:N7)(mg:Str->Option V')(x qual:Str)(st:K4)(f:γ)(fd:ε)(ps:List Str):Prop where
 F:Fun K x qual st f fd
 b:Binds K fd ps []
 m:mg x=some (.ref f)
theorem dfmk{K:N7}{st:K4}{i:Array (Option V')}{kV e a:V'}(l:K.lookup f=some ⟨oc,j,.func (W.fnOf x qual (qg0 st) (qd5 st) (qa3 st) .none kV b e d a g),i⟩)(c:W.codeIn K a qual=true)(k:W.keepIn K (.ref f)=true)(m:mg x=some (.ref f))(h:∀(kV b e:V')(d:Option γ)(a g:V')(us:List V'),us.length=ps.length->bindArgs (W.fnOf x qual (qg0 st) (qd5 st) (qa3 st) .none kV b e d a g) ⟨us,[]⟩=pure (ps.zip us)):Df K mg x qual st f (W.fnOf x qual (qg0 st) (qd5 st) (qa3 st) .none kV b e d a g) ps:=⟨qau7 l c k,(qau7 l c k).binds h,m⟩
theorem Hc{st:K4}(D:Df X.K X.mg x qual st f fd ps)(G:Ee X.prog X.w X.K X.mg X.base CX0 k f fd ps sp)(d:Room k X.A)(g:PA X (e::es) t)(h:Gl X x:=by rfl)(a:N' x:=by decide)(i:Kb (e::es) X.env=(false,eval e X.env)::Kb es X.env:=by rfl)(c:(backTo pos (Kb es X.env)).any (·.1)=false:=by rfl):PE X (.Call (.Name x p) (e::es) [] pos) (Iy sp [] (λ_=>E0) t):=qaz8 G d h D.m D.F.kp D.b .nil pass0 g a i c
end L2
namespace LB
open PySem PySem.Spec PyProof.Rows
theorem qT9:typeLookup (.type "list") "keys"=pure none:=by rw[typeLookup_type,builtinLookup_eq_fast];kernel_rfl
theorem qF0:typeLookup (.type "list") "__getattr__"=pure none:=by rw[typeLookup_type,builtinLookup_eq_fast];kernel_rfl
section
variable{prog:Kw}{w:Ky}{A:Kx}{E:V'->δ->Prop}{h:Heap}{g:Array GenState}{d:Drawn}{t:Nat}{u:OsState}{a:γ}{its:Array V'}{n:Nat}
theorem qF1(c:h.get? a=some {cls:=.type "list",data:=.seq its n})(f:A.handled=none)(i:∀h' b e,Heap.NewAttrErr h h' e (.ref a) "keys" -> E (.ref e) ⟨h',g,d,b,u⟩):Ku (Kv prog w) A (Builtin.«object.__getattribute__» ⟨[.ref a,.str "keys" b],[]⟩) Q E ⟨h,g,d,t,u⟩:=by
 have j:(⟨h,g,d,t,u⟩:δ).TypeIs (.ref a) "list" := ⟨_,c,rfl⟩;have k:=qT9;repeat (any_goals (first|assumption|wp_step))
 refine wpAny_raiseAttrError f ?_ (attrMsg_fits (by decide +kernel) (by decide +kernel));exact i
theorem qJ2(i:h.get? a=some {cls:=.type "list",data:=.seq its n})(k:A.handled=none)(l:∀h' f,(∀b o,h.get? b=some o->h'.get? b=some o)->Q none ⟨h',g,d,f,u⟩):Ku (Kv prog w) A (getAttr? (.ref a) "keys") Q E ⟨h,g,d,t,u⟩:=by
 have j:∀f,(⟨h,g,d,f,u⟩:δ).TypeIs (.ref a) "list" := λ_=>⟨_,i,rfl⟩;have m:=j t;have f1:=sub_AttributeError;have f2:=F.slot_list_getattribute.lookup;have f3:=F.slot_list_getattribute.bind (.ref a);have p:=qF0;unfold getAttr? getAttrBy? getAttrBy;repeat (any_goals (first|assumption|wp_step))
 refine codeAny_call_builtin F.slot_list_getattribute.plain F.entry_list_ga (F.slot_list_getattribute.check _ _ _ _ _ _ _ _ (j _) (F.args_list_getattribute_2 _ _) (qF1 i k λh' f e c=>?_));obtain⟨q,r,s⟩:=c.there;show Ku _ _ (getattributeRaised _ _ _ _ _ _ _) _ _ _;unfold getattributeRaised;repeat (any_goals (first|assumption|wp_step))
 exact l _ _ c.keeps
end
theorem qp1:entryFor table "dict.update.loop"=some Builtin.«dict.update.loop»:=entryFor_of_tree (by kernel_rfl)
theorem qg3:plainId "dict.update.loop"=true:=by decide +kernel
section
variable{prog:Kw}{w:Ky}{K:Type}[DecidableEq K]{knd:KeyKind prog w K}{A:Kx}{R:Result->δ->Prop}
theorem qav8(V:A.handled=none)(z:ax≠I)(g:d≠I)(B:ax≠d):∀(rest:List (K×V'))(i:Nat)(v:Int)(kvs:List (K×V'))(s:δ),
 (∀(j:Nat) a,rest[j]?=some a->∃t key,items[i+j]?=some (.ref t)/\IsTup s.heap t #[key,a.2]/\knd.is a.1 key=true/\t≠I/\t≠d)->items.size=i+rest.length->s.heap.IsListIter I ax i->s.heap.IsList ax items->s.heap.DictOf knd d kvs->kvs.length+rest.length<=Kc->(∀h' C,h'.DictOf knd d (rest.foldl (λacc a=>stored acc a.1 a.2) kvs)->(∀b o,b≠I->b≠d->s.heap.get? b=some o->h'.get? b=some o)->R (.ok (.ret .none)) {s with heap:=h',toks:=C})->codeAny (Kv prog w) A (.builtin "dict.update.loop" ⟨[.ref d,.ref I,rawInt v,.none],[]⟩) R s:=by
 intro rest;induction rest with
 |nil=>
  intro i v kvs s D f h x E Q F;refine codeAny_builtin qp1 ?_;rw[Around.under_plainId qg3 _];show Ku _ A.in1 (pyNext (.ref I) >>= _) _ _ s;refine E' (wpAny_pyNext_list_end V h x (by simp at f;simp[f]) λh' S=>?_);show Ku _ _ (Builtin.Dict.addKeywords d [] >>= _) _ _ _;refine E' (J' (J' ?_));have k:h'.DictOf knd d kvs:=by obtain⟨o,G,H,l,r⟩:=E;exact⟨o,G,H,S d o g l,r⟩
  exact F h' s.toks k λb o y _ e=>S b o y e
 |cons a rest W=>
  intro i v kvs s D f h x E Q F;obtain⟨t,key,X,Y,Z,h4,h5⟩:=D 0 a rfl;refine codeAny_builtin qp1 ?_;rw[Around.under_plainId qg3 _];show Ku _ A.in1 (pyNext (.ref I) >>= _) _ _ s;refine E' (wpAny_pyNext_list_item h x X λh' m p=>?_);have J:IsTup h' t #[key,a.2]:=Y.extBut p.extBut h4;obtain⟨o,l,L,n,M⟩:=J;refine E' (Kf ?_);refine E' (wpAny_tryCatch ?_);unfold Builtin.Dict.pairItems;refine E' (wpAny_typeOf (T := "tuple") ⟨o,l,L⟩ ?_);rw[if_pos ∅];refine E' (wpAny_seqItems l M (J' ?_));dsimp only[Option.getD];have k:h'.DictOf knd d kvs:=by obtain⟨o,G,H,l,r⟩:=E;exact⟨o,G,H,p.extBut d o g l,r⟩
  simp only[zAp] at Q f;show Ku _ _ (holding [key,a.2] (dictSet d key a.2)) _ _ _;refine Kf (wpAny_dictSet_pairs (hsz:=by lia) Z k λa0 q c=>?_);refine J' ⟨plainId_quiet qg3 _,?_⟩;have U:(stored kvs a.1 a.2).length<=kvs.length+1:=by unfold stored;split;{rw[zA9];lia};rw[zA6];simp
  refine W (i+1) (v+1) (stored kvs a.1 a.2) _ (λj N hj=>?_) ⋯ ?_ ?_ q ⋯ λO C P k3=>?_;{obtain⟨t',key',g1,g2,g3,g4,g5⟩:=D (j+1) N hj;exact⟨t',key',by rw[show i+1+j=i+(j+1) by lia];exact g1,(g2.extBut p.extBut g4).extBut c.extBut g5,g3,g4,g5⟩};{exact m.at λo e=>c.extBut I o (Ne.symm g) e};{exact(x.at λo e=>p.extBut ax o z e).at λo e=>c.extBut ax o B e};exact F O C P λb o y u e=>k3 b o y u (c.extBut b o u (p.extBut b o y e))
end
end LB
namespace L2
open PySem PySem.Spec PyProof.Rows
section
variable{X:Cx}
theorem KV.fold:∀{more:List (Key×V)}{a:List (Key×V')}{kvs:List (Key×V)}{vs:List (Key×V')},KV more a->KV kvs vs->KV (qE7 kvs more) (a.foldl (λacc b=>stored acc b.1 b.2) vs):=by intro more a kvs vs r;unfold KV at r;induction r generalizing kvs vs with|nil=>intro q;exact q|@cons p q _ _ h _ ih=>intro c;show KV (qE7 (putK kvs p.1 p.2) _) (Ma _ (stored vs q.1 q.2) _);refine ih ?_;rw[<-h.1];exact c.put p.1 h.2
def qaC5(H:Hp)(ys:List V)(kvs:List (Key×V)):Prop:=Paired (λy (a:Key×V)=>∃t,y=.ref t/\H t=some (.q [kV a.1,a.2])) ys kvs
def qaO4:List V->Hp->VK->Prop:=λxs H Q=>∃a ys kvs,xs=[.ref a]/\H a=some (.l ys)/\qaC5 H ys kvs/\∀p,H p=none->Q (.ref p) (upd H p (.dK (qE7 [] kvs)))
theorem qP4(hc:X.calm=true):CallR X (.type "dict") qaO4:=by
 intro D8 s σ H xs us Q I r h;obtain⟨a,ys,g,rfl,ha,N,q⟩:=h;obtain⟨u,rfl,ru⟩:=B9 r;cases ru;have hh:=I.ok.hd hc;obtain⟨z,f,n,rv,O,e⟩:=I.lstM ha;obtain⟨x,J,P⟩:∃x:List (Key×V'),KV g x/\∀(j:Nat) k,x[j]?=some k->∃t i,f[j]?=some (.ref t)/\IsTup s.heap t #[i,k.2]/\(qg6 X.prog X.w).is k.1 i=true:=by clear q e O n ha z;induction N generalizing f with|nil=>exact⟨[],.nil,λj k C=>by simp at C⟩|@cons y k ys g hy _ ih=>cases rv with|@cons _ u _ us' hu hr=>obtain⟨t,rfl,ht⟩:=hy;cases hu;obtain⟨_,its',rt,o,p,R,n,S⟩:=I.hok t _ ht;obtain⟨i,U,rfl,r1,r2⟩:=rt.two;obtain⟨x,J,P⟩:=ih _ hr;refine⟨(k.1,U)::x,.cons ⟨rfl,r2⟩ J,λj V C=>?_⟩;cases j with|zero=>cases C;exact⟨t,i,rfl,⟨o,p,R,n,S⟩,I8 r1⟩|succ j=>exact P j V C
 have D:x.length=f.length:=by rw[<-O,<-Paired.length J,<-Paired.length N]
 have big:=I.big;obtain⟨c,gn,dr,W,Y⟩:=s;refine callType_codes (Q₁:=λE s₁=>E=.ref c.objs.size/\s₁={heap:=c.push {cls:=.type "dict",data:=.dict #[]},gens:=gn,drawn:=dr,toks:=W,os:=Y}) F.kt_called_dict (F.kt_typeCall_dict_1 _) F.entry_dict_init (kt_code_dict_new _ ⟨rfl,rfl⟩) ?_;rintro E s₁ ⟨rfl,rfl⟩;have l:(c.push {cls:=.type "dict",data:=.dict #[]}).DictOf (qg6 X.prog X.w) c.objs.size []:=Heap.DictOf.new c;have Z:(c.push {cls:=.type "dict",data:=.dict #[]}).get? a=some {cls:=.type "list",data:=.seq f.toArray n}:=zA3 _ e;have G:a<c.objs.size:=zAc e;refine⟨l.typeIs,F.args_dict_init_2 _ _,?_⟩;unfold Builtin.«dict.__init__»;refine E' ?_;unfold Builtin.Dict.selfAndRest;refine E' (wpAny_notOrdered_dict l.typeIs ?_);show Ku _ _ (pure (c.objs.size,[Nu a])) _ _ _;refine J' ?_;show Ku _ _ (Builtin.Dict.updateFrom "dict.__init__" c.objs.size (.ref a) [] .none) _ _ _;unfold Builtin.Dict.updateFrom;refine E' (wpAny_typeOf (T := "list") ⟨_,Z,rfl⟩ ?_);rw[if_pos ∅];refine E' (LB.qJ2 Z hh λB a2 K=>?_);rw[if_pos (by rfl)];have e1:B.get? a=some {cls:=.type "list",data:=.seq f.toArray n}:=K _ _ Z;have d1:B.DictOf (qg6 X.prog X.w) c.objs.size []:=by obtain⟨o,L,M,p,r⟩:=l;exact⟨o,L,M,K _ _ p,r⟩
 refine E' (Ko ?_);have hlist:B.IsList a f.toArray:=⟨_,e1,rfl,n,rfl⟩;refine E' (wpAny_pyIter_list hlist ?_);have v:c.objs.size<B.objs.size:=by obtain⟨o,L,M,p,r⟩:=d1;exact zAc p
 refine J' ⟨plainId_quiet LB.qg3 _,?_⟩;refine LB.qav8 (knd:=qg6 X.prog X.w) (A:=X.A.in1) hh (I:=B.objs.size) (ax:=a) (d:=c.objs.size) (items:=f.toArray) (zAt (Nat.lt_trans G v)) (zAt v) (zAt G) x 0 0 [] _ (λj k C=>?_) (by simp[D]) ?_ ?_ ?_ ?_ λh2 a0 d2 k2=>?_;{obtain⟨t,i,g1,g2,g3⟩:=P j k C;obtain⟨o,p,r⟩:=g2;have m:=zAc p;exact⟨t,i,by simpa using g1,⟨o,zA3 _ (K _ _ (zA3 _ p)),r⟩,g3,zAt (Nat.lt_trans m v),zAt m⟩};{exact⟨_,zAo _ rfl,rfl,rfl⟩};{exact⟨_,zA3 _ e1,rfl,n,rfl⟩};{obtain⟨o,L,M,p,r⟩:=d1;exact⟨o,L,M,zA3 _ p,r⟩};{simp only[Mb,zAe];rw[D,<-O];exact z};refine⟨rfl,?_⟩;have hf:H c.objs.size=none:=I.hok.fresh (zA2 _);have keep:∀b o,c.get? b=some o->h2.get? b=some o:=λb o eb=>by have m:=zAc eb;exact k2 b o (zAt (Nat.lt_trans m v)) (zAt m) (zA3 _ (K _ _ (zA3 _ eb)))
 have rm:KV (qE7 [] g) (x.foldl (λa1 k=>stored a1 k.1 k.2) []):=KV.fold J .nil;have hz:(qE7 [] g).length<=Kc:=by have B:=qw6 g [];have h2:=Paired.length N;simp only[Mb] at B;lia
 refine⟨.ref c.objs.size,_,I.laid (t':=a0) (o:=.dK (qE7 [] g)) keep (zA2 _) ?_,rfl,q _ hf⟩;exact⟨hz,zCa.mpr (Ne.symm (zAt big)),_,rm,d2⟩
end
section
variable{X:Cx}
theorem qK3(t:X.calm=true):CallR X (.builtin "all") (λxs H Q=>∃(a:γ)(bs:List Bool),xs=[.ref a]/\SqL X.K H a (bs.map V.bl)/\Q (.bl (bs.all id)) H):=by
 intro D8 s L H xs E Q I r h;obtain⟨a,bs,rfl,w,q⟩:=h;obtain⟨u,rfl,k⟩:=B9 r;cases k;have y:=I.ok.hd t;obtain⟨d,l,m,F⟩:=I.list w;refine call_all_walk (wpAny_pyIter_list m.isList ?_);have n:a<s.heap.objs.size:=let ⟨o,ho,_⟩:=m.isList;zAc ho
 refine⟨s.heap.objs.size,_,_,_,_,_,λi=>bs.getD i false,rfl,Walks.list (A:=X.A.in1) y _ a (zAt n) d.toArray,⟨⟨_,zAo _ rfl,rfl,rfl⟩,?_⟩,?_,?_⟩;{exact m.isList.at λo e=>zA3 _ e}
 .intro i v z Q1 E1 f g;have f:d[i]?=some v:=by simpa using f
  have c:i<bs.length:=by have G:=(zA5.mp f).1;have j:=l.length;rw[zA9] at j;lia
  obtain⟨u,p,k⟩:=l.get (i:=i) (x:=.bl bs[i]) (by simp[c]);rw[f] at p;cases p;cases k;refine Kh ?_;have e:bs.getD i false=bs[i]:=by simp[M4,c]
  have g:Q1 (bs.getD i false) z:=g;rw[e] at g;exact g
 intro J B C;have e:(Lh d.toArray.size).all (λi=>bs.getD i false)=bs.all id:=by have j:=l.length;rw[zA9] at j;rw[zA4,<-j];rw[Bool.eq_iff_iff];simp only[zBo,zAj,id_eq];constructor;{intro h b D;obtain⟨i,c,rfl⟩:=List.mem_iff_getElem.mp D;have:=h i c;simpa[M4,c] using this};intro h i c;have:=h bs[i] (List.getElem_mem c);simpa[M4,c] using this
 rw[e];refine⟨.bl _,H,?_,rfl,q⟩;exact I.kept (t':=B) λb o e=>C b o (by simp;exact zAt (zAc e)) (zA3 _ e)
noncomputable def qn8(ns:List Int):Nat:=(firstMet (λi=>ns.getD i 0) ns.length).length
def rSetI(K:N7):List V->Hp->VK->Prop:=λxs H Q=>∃(a:γ)(ns:List Int),xs=[.ref a]/\SqL K H a (ns.map V.int)/\ns.length<=1000/\∀p S,H p=none->Q (.ref p) (upd H p (.set S (qn8 ns)))
theorem qaw4(k:X.calm=true):CallR X (.type "set") (rSetI X.K):=by
 intro D8 s L H x y Q I r h;obtain⟨a,f,rfl,l,z,q⟩:=h;obtain⟨u,rfl,m⟩:=B9 r;cases m;have n:=I.ok.hd k;obtain⟨c,i,p,A⟩:=I.list l;have d:c.length=f.length:=by have:=i.length;rw[zA9] at this;exact this.symm
 have t:IntsAre c f:=qan1 i;refine call_set_list (items:=c.toArray) n p.isList (by simpa using t) (by rw[zA4,d];show f.length+1<4096;lia) λB v j w=>?_;have g:c.toArray.size=f.length:=by rw[zA4,d]
 rw[g] at j;refine⟨.ref s.heap.objs.size,_,I.laid (t':=v) (o:=.set _ (qn8 f)) (λb o e=>w b o (zAc e) e) (zA2 _) j,rfl,q _ _ (I.hok.fresh (zA2 _))⟩
theorem qaw6:CallR X (.builtin "len") (λxs H Q=>∃(a:γ)(S:Int->Bool)(n:Nat),xs=[.ref a]/\H a=some (.set S n)/\Q (.int n) H):=by intro D8 s L H xs l Q I r h;obtain⟨a,S,n,rfl,d,q⟩:=h;obtain⟨u,rfl,e⟩:=B9 r;cases e;obtain⟨o,f,m,t,g,b,i,_,_,c,j,k⟩:=I.hok a _ d;subst k;have c:f.size<4096:=c;exact call_len_set g b i j ⋯ ⟨.int _,H,I.tok _,⟨_,rfl⟩,q⟩
end
theorem qU7(ns:List Int):qn8 ns=ns.length↔ns.Nodup:=by
 have f:∀i,i<=ns.length->(∀k,k∈firstMet (λi=>ns.getD i 0) i↔k∈ns.take i)/\((firstMet (λi=>ns.getD i 0) i).length=i↔(ns.take i).Nodup):=by
  intro i;induction i with
  |zero=>intro _;rw[firstMet_zero];simp|succ i m=>
   intro r;obtain⟨c,l⟩:=m ⋯;have n:=firstMet_length_le (λi=>ns.getD i 0) i;have b:i<ns.length:=⋯;have o:ns.take (i+1)=ns.take i++[ns[i]]:=by rw[zBp];simp[b]
   have p:ns.getD i 0=ns[i]:=by simp[M4,b]
   rw[firstMet_succ,o,p];unfold step_dedup;by_cases d:ns[i]∈firstMet (λi=>ns.getD i 0) i;{have a:ns[i]∈ns.take i:=(c _).mp d;have g:(firstMet (λi=>ns.getD i 0) i).any (· == ns[i])=true:=List.any_eq_true.mpr ⟨_,d,by simp⟩;rw[if_pos g];refine⟨λk=>?_,?_⟩;{rw[c];simp only[zAb,zA8];exact⟨.inl,λh=>h.elim id λe=>by rw[e];exact a⟩};constructor;{intro h;lia};intro h;rw[zBg] at h;exact absurd rfl (h.2.2 _ a _ (zA8.mpr rfl))};have a:¬ns[i]∈ns.take i:=λh=>d ((c _).mpr h);have g:¬(firstMet (λi=>ns.getD i 0) i).any (· == ns[i])=true:=λh=>by obtain⟨x,j,e⟩:=List.any_eq_true.mp h;exact d (by rw[<-(zC1.mp e)];exact j)
   rw[if_neg g];refine⟨λk=>?_,?_⟩;{simp only[zAb,zA8];rw[c]};rw[zA6,zBg];simp only[Ms];constructor;{intro h;refine⟨l.mp ⋯,by simp,λx j y q=>?_⟩;rw[zA8.mp q];exact λe=>a (e ▸ j)};intro h;have:=l.mpr h.1;lia
 have:=(f ns.length (zA2 _)).2;rw[zAu (zA2 _)] at this;exact this
end L2
namespace L2
open PySem PySem.Spec PyProof.Rows PySem.SeqAt
variable{A:Kx}{xs:List V}
inductive EqD(H:Hp):Nat->V->V->Bool->Prop
 |flat {n:Nat} {x y:V} (hx:flatV x=true) (hy:flatV y=true):EqD H n x y (eqV x y)
 |same {n:Nat} (a:γ):EqD H n (.ref a) (.ref a) true
 |lsts {n:Nat} {a b:γ} {xs ys:List V} {e:Nat->Bool} (ne:a≠b) (ha:H a=some (.l xs)) (hb:H b=some (.l ys)) (hl:xs.length=ys.length) (he:∀i x y,xs[i]?=some x->ys[i]?=some y->EqD H n x y (e i)):EqD H (n+1) (.ref a) (.ref b) ((Lh xs.length).all e)
 |lens {n:Nat} {a b:γ} {xs ys:List V} (ne:a≠b) (ha:H a=some (.l xs)) (hb:H b=some (.l ys)) (hl:xs.length≠ys.length):EqD H (n+1) (.ref a) (.ref b) false
 |tups {n:Nat} {a b:γ} {xs ys:List V} {e:Nat->Bool} (ne:a≠b) (ha:H a=some (.q xs)) (hb:H b=some (.q ys)) (he:∀i x y,xs[i]?=some x->ys[i]?=some y->EqD H n x y (e i)):EqD H (n+1) (.ref a) (.ref b) ((Lh (min xs.length ys.length)).all e&&xs.length==ys.length)
inductive RcD(H:Hp):V->V->Bool->Prop
 |flat {x y:V} (hx:flatV x=true) (hy:flatV y=true):RcD H x y (eqV x y)
 |lsts {a b:γ} {xs ys:List V} {e:Nat->Bool} (ha:H a=some (.l xs)) (hb:H b=some (.l ys)) (hl:xs.length=ys.length) (he:∀i x y,xs[i]?=some x->ys[i]?=some y->EqD H 20 x y (e i)):RcD H (.ref a) (.ref b) ((Lh xs.length).all e)
 |lens {a b:γ} {xs ys:List V} (ha:H a=some (.l xs)) (hb:H b=some (.l ys)) (hl:xs.length≠ys.length):RcD H (.ref a) (.ref b) false
section
variable{X:Cx}{E:List (γ×Obj)}{D:St}{H:Hp}{s:δ}
theorem Pd.lstI(I:Pd X E D H s){a:γ}(h:H a=some (.l xs)):∃its:List V',Pb xs its/\s.heap.IsList a its.toArray:=by obtain⟨z,its,n,r,_,e⟩:=I.lstM h;exact⟨its,r,_,e,rfl,n,rfl⟩
theorem Pd.tupI(I:Pd X E D H s){a:γ}(h:H a=some (.q xs)):∃its:List V',Pb xs its/\s.heap.IsTuple a its.toArray:=by obtain⟨z,its,r,o,b,c,n,d⟩:=I.hok a _ h;exact⟨its,r,o,b,c,n,d⟩
theorem qH0(A:Kx):A.in1.units<=A.units+1:=zA2 _
theorem qae6{P:V->V->Nat->Prop}{e:Nat->Bool}{ys:List V}{its its2:List V'}(r:Pb xs its)(a:Pb ys its2)(k:∀i x y u v,xs[i]?=some x->ys[i]?=some y->Pa x u->Pa y v->EqAt A s u v (e i)):∀j (h1:j<its.toArray.size) (h2:j<its2.toArray.size),EqAt A s its.toArray[j] its2.toArray[j] (e j):=by
 intro j h1 h2;rw[zA4] at h1 h2;have h:=r.length;have l:=a.length;obtain⟨u,b,d⟩:=r.get (i:=j) (x:=xs[j]'⋯) (by simp);obtain⟨v,c,f⟩:=a.get (i:=j) (x:=ys[j]'⋯) (by simp);have g:its.toArray[j]=u:=by
  have:its[j]?=some its[j]:=by simp[h1]
  rw[this] at b;simpa using N5 b
 have e2:its2.toArray[j]=v:=by
  have:its2[j]?=some its2[j]:=by simp[h2]
  rw[this] at c;simpa using N5 c
 rw[g,e2];exact k j _ _ u v (by simp) (by simp) d f
theorem EqD.at(I:Pd X E D H s)(h:EqD H n x y b):∀{A:Kx}{u v:V'},Pa x u->Pa y v->A.units+n+1<cLine->EqAt A s u v b:=by
 induction h with
 |flat t w=>intro A u v c d _;exact qaV8 c d t w|same a=>intro A u v c d _;cases c;cases d;exact EqAt.same _|@lsts n a b xs ys e ne ha hb hl he ih=>
  intro A u v c d o;cases c;cases d;obtain⟨f,r,p⟩:=I.lstI ha;obtain⟨its2,g,j⟩:=I.lstI hb;have z:f.toArray.size=its2.toArray.size:=by rw[zA4,zA4,<-r.length,<-g.length,hl]
  have q:=EqAt.of_refs ne (RcAt.lists (A:=A) p j z ⋯ (e:=e) (qae6 (P:=λ_ _ _=>True) r g λi x y u v k e2 l m=>ih i x y k e2 l m (by have:=qH0 A;lia)));rw[zA4,<-r.length] at q;exact q
 |@lens n a b xs ys ne ha hb hl=>intro A u v c d o;cases c;cases d;obtain⟨f,r,p⟩:=I.lstI ha;obtain⟨its2,g,j⟩:=I.lstI hb;exact EqAt.of_refs ne (RcAt.lists_lengths p j (by rw[zA4,zA4,<-r.length,<-g.length];simpa using hl) ⋯)|@tups n a b xs ys e ne ha hb he ih=>intro A u v c d o;cases c;cases d;obtain⟨f,r,p⟩:=I.tupI ha;obtain⟨its2,g,j⟩:=I.tupI hb;have q:=EqAt.of_refs ne (RcAt.tuples (A:=A) p j ⋯ (e:=e) (qae6 (P:=λ_ _ _=>True) r g λi x y u v k e2 l m=>ih i x y k e2 l m (by have:=qH0 A;lia)));rw[zA4,zA4,<-r.length,<-g.length] at q;exact q
theorem RcD.at(I:Pd X E D H s)(h:RcD H x y b)(g:Pa x u)(c:Pa y v)(C:A.units+60<cLine):RcAt A s u v b/\RcNeAt A s u v (!b):=by
 cases h with
 |flat q m=>cases x with|non=>(cases g;cases y with|non=>cases c;exact⟨RcAt.none_none,RcNeAt.none_none⟩|bl b=>cases c;exact⟨RcAt.none_bool b,RcNeAt.none_bool b⟩|int b=>obtain⟨t,rfl⟩:=c;exact⟨RcAt.none_int b t,RcNeAt.none_int b t⟩|str b=>obtain⟨t,rfl⟩:=c;exact⟨RcAt.none_str b t,RcNeAt.none_str b t⟩|_=>exact absurd (show false=true from m) zAx)|bl a=>(cases g;cases y with|non=>cases c;exact⟨RcAt.bool_none a,RcNeAt.bool_none a⟩|bl b=>cases c;exact⟨RcAt.bool_bool a b,RcNeAt.bool_bool a b⟩|int b=>obtain⟨t,rfl⟩:=c;exact⟨RcAt.bool_int a b t,RcNeAt.bool_int a b t⟩|str b=>obtain⟨t,rfl⟩:=c;exact⟨RcAt.bool_str a b t,RcNeAt.bool_str a b t⟩|_=>exact absurd (show false=true from m) zAx)|int a=>(obtain⟨d,rfl⟩:=g;cases y with|non=>cases c;exact⟨RcAt.int_none a d,RcNeAt.int_none a d⟩|bl b=>cases c;exact⟨RcAt.int_bool a d b,RcNeAt.int_bool a d b⟩|int b=>obtain⟨t,rfl⟩:=c;exact⟨RcAt.int_int a d b t,RcNeAt.int_int a d b t⟩|str b=>obtain⟨t,rfl⟩:=c;exact⟨RcAt.int_str a d b t,RcNeAt.int_str a d b t⟩|_=>exact absurd (show false=true from m) zAx)|str a=>(obtain⟨d,rfl⟩:=g;cases y with|non=>cases c;exact⟨RcAt.str_none a d,RcNeAt.str_none a d⟩|bl b=>cases c;exact⟨RcAt.str_bool a d b,RcNeAt.str_bool a d b⟩|int b=>obtain⟨t,rfl⟩:=c;exact⟨RcAt.str_int a d b t,RcNeAt.str_int a d b t⟩|str b=>obtain⟨t,rfl⟩:=c;exact⟨RcAt.str_str a d b t,RcNeAt.str_str a d b t⟩|_=>exact absurd (show false=true from m) zAx)|_=>exact absurd (show false=true from q) zAx
 |@lsts a b xs ys e ha hb hl he=>
  cases g;cases c;obtain⟨f,r,p⟩:=I.lstI ha;obtain⟨its2,n,j⟩:=I.lstI hb;have l:f.toArray.size=its2.toArray.size:=by rw[zA4,zA4,<-r.length,<-n.length,hl]
  have k:=qae6 (P:=λ_ _ _=>True) (e:=e) (A:=A.in1) (s:=s) r n λi x y u v w e2 z B=>(he i x y w e2).at I z B (by have:=qH0 A;lia);have o:=RcAt.lists p j l ⋯ k;have q2:=RcNeAt.lists p j l ⋯ k;rw[zA4,<-r.length] at o q2;exact⟨o,q2⟩
 |@lens a b xs ys ha hb hl=>
  cases g;cases c;obtain⟨f,r,p⟩:=I.lstI ha;obtain⟨its2,n,j⟩:=I.lstI hb;have l:(f.toArray.size != its2.toArray.size)=true:=by rw[zA4,zA4,<-r.length,<-n.length];simpa using hl
  exact⟨RcAt.lists_lengths p j l ⋯,RcNeAt.lists_lengths p j l ⋯⟩
end
def rEqD:R2:=λx y H Q=>∃b,RcD H x y b/\Q (.bl b) H
def rNeD:R2:=λx y H Q=>∃b,RcD H x y b/\Q (.bl (!b)) H
theorem qj4(e:X.A.units+64<cLine):OpR X (Kd .Eq) rEqD:=by intro D8 s f H x y v u Q I a c ⟨b,d,q⟩;exact(d.at I a c (A:=X.A) ⋯).1 X.prog X.w X.xe _ ⟨.bl b,H,I,rfl,q⟩
theorem qv4(e:X.A.units+64<cLine):OpR X (Kd .NotEq) rNeD:=by intro D8 s f H x y v u Q I a c ⟨b,d,q⟩;exact(d.at I a c (A:=X.A) ⋯).2 X.prog X.w X.xe _ ⟨.bl (!b),H,I,rfl,q⟩
theorem qC6:∀{x:V},flatV x=true->eqV x x=true:=by intro x h;cases x with|non=>rfl|bl b=>exact zBf b|int b=>exact zBf b|str b=>exact zBf b|_=>exact absurd (show false=true from h) zAx
theorem Room.u64(a:Room k A):A.units+64<cLine:=a.units
end L2
namespace L2
open PySem PySem.Spec PyProof.Rows
section
def gAll(to:TE):TG:=λv a H Q=>to a H λo H1=>∃l b xs ys,o=.ref l/\v=.ref b/\l≠b/\H1 l=some (.l xs)/\H1 b=some (.l ys)/\xs.length+ys.length<=Kc/\Q a (upd H1 l (.l ys))
end
structure Cl(K:N7)(mg:Str->Option V')(x:Str)(C:γ):Prop where
 cl:Cls K C
 m:mg x=some (.ref C)
structure Md(K:N7)(C:γ)(m qual:Str)(st:K4)(f:γ)(fd:ε)(ps:List Str):Prop where
 F:Fun K m qual st f fd
 b:Binds K fd ps []
 me:Iw K C m f
 isf:W.isFn K (.ref f)=true
theorem mdmk{K:N7}{st:K4}{kV:V'}(l:K.lookup f=some ⟨oc,o,.func (W.fnOf m qual (qg0 st) (qd5 st) (qa3 st) .none kV d g e b j),n⟩)(c:W.codeIn K b qual=true)(k:W.keepIn K (.ref f)=true)(a:W.findIn K (.ref C) m=some (some (.ref f)))(i:W.isFn K (.ref f)=true)(h:∀(kV d g:V')(e:Option γ)(b j:V')(us:List V'),us.length=ps.length->bindArgs (W.fnOf m qual (qg0 st) (qd5 st) (qa3 st) .none kV d g e b j) ⟨us,[]⟩=pure (ps.zip us)):Md K C m qual st f (W.fnOf m qual (qg0 st) (qd5 st) (qa3 st) .none kV d g e b j) ps:=⟨qau7 l c k,(qau7 l c k).binds h,⟨a,i,k⟩,i⟩
end L2
namespace L2
open PySem PySem.Spec PyProof.Rows
def excIs(e C:γ)(b:Option γ)(c:Bool)(h:Heap):Prop:=∃a vs,h.get? e=some a/\a.cls=.ref C/\a.dict=b/\a.data=.fields vs/\1<vs.size/\(c=true->vs[1]?=some .none)
noncomputable abbrev ExcO(e C:γ)(a:Option γ)(b:Bool):HO:=.ext (excIs e C a b)
def xdIs(d:γ)(fs:List (Str×V))(h:Heap):Prop:=∃mA,h.Ns1 d mA/\(∀f,RelO (fs.lookup f) (mA f))/\PySem.Within mA (fs.map (·.1))/\fs.length<=1000
abbrev XD(d:γ)(fs:List (Str×V)):HO:=.ext (xdIs d fs)
def CX1(_:Kw)(_:Ky):CXT:=λ_ _ _ _ _ _=>False
def Lands(_:Cx)(_:St->XK):Prop:=True
theorem Lands.passes{X:Cx}{E:St->XK}(_:Lands X E):qQ0 (CX1 X.prog X.w) X E:=λ_ _ _ _ _ _ _ q=>q.elim
theorem qa0:Lands X E:=trivial
end L2
namespace L2
open PySem PySem.Spec PyProof.Rows PySem.SeqAt
open PySem.AutoSeq1 (wpAny_loadPart')
theorem Fun.okX{K:N7}{st:K4}(F:Fun K x qual st f fd)(S:qa9 N ps (qa3 st))(len:∀vs H Q E,sp vs H Q E->vs.length=ps.length)(hbody:∀(a:V')(A:Kx)(outer:List Env)(s:δ)(H:Hp)(vs:List V)(Q:VK)(E:XK),Room k (A.deeper (envOfC qual (qa3 st) s.heap.objs.size f a))->sp vs H Q E->∃t,PSs (Em true (CX1 P w) P w K mg base N qual (qa3 st) f a A outer s H E) (qd5 st) t/\t {nx:=λ_ H'=>Q .non H',rt:=Q} (start N vs) H):Ee P w K mg base (CX1 P w) (k+1) f fd ps sp:=by obtain⟨i,j,kV,d,l,m,a,n,e,rfl,g,b⟩:=F.ex;exact Iz g b S len λA outer s H vs Q E h c=>hbody a A outer s H vs Q E h c
end L2
namespace L2
open PySem PySem.Spec PyProof.Rows
section
variable{X:Cx}{A:List (γ×Obj)}{y:St}{H:Hp}{s:δ}{h':Heap}
theorem Pd.turnedL{ch:List γ}(I:Pd X A y H s)(k:∀b o,b∉ch->s.heap.get? b=some o->h'.get? b=some o)(f:∀b∈ch,F5 X A H b):Pd X A y H {s with heap:=h',toks:=t'}:=by
 have d:∀b u,H b=some u->b∉ch:=λb u e z=>by rw[(f b z).1] at e;cases e
 refine I.step (g':=s.gens) (d':=s.drawn) (ch:=ch) (λb g=>?_) (λb o _ _ a e _=>k b o a e) (λb o _ _ a e _=>⟨o.slots,k b o a e⟩) (λ_ _ _ _ n=>n)
  (λb o a e=>⟨o,k b o a e⟩) (λ_ _ e=>e) (λ_ _ _ e=>e) (λb w e=>⟨#[],by rw[e];simp⟩) (λm h=>?_) (λb u e=>?_) I.bare
 {obtain⟨x,f1,f2,f3,i,j⟩:=f b g;exact⟨f3,f1,i,j⟩};{obtain⟨o,l,p,t,r⟩:=h;exact⟨o,l,p,k _ o (λz=>(f _ z).2.1 rfl) t,r⟩};refine(I.hok b u e).stay (λc v a q=>k c v ?_ q) (λ_ q=>q) λ_ _ q=>q;rcases a with z|z;{rw[z];exact d b u e};exact d c _ z
end
def Ite(K:N7)(a:γ):It:=⟨λi H=>∃xs x,SqL K H a xs/\xs[i]?=some x,λi H x H'=>∃t y,x=.ref t/\H t=none/\H'=upd H t (.q [.int (i:Int),y])/\∀xs,SqL K H a xs->xs[i]?=some y,λi H=>∃xs,SqL K H a xs/\xs.length<=i⟩
theorem qar3{P:Kw}{w:Ky}{K:N7}{elts:List Kz}{x1:Nat}{pos:Pos}(a it e:γ)(n:e≠it):F9 P w K (.Tuple elts x1 pos) (Ite K a) [e,it] e (λi h=>(∃d,IsEnum h e it (i:Nat) d)/\h.IsListIter it a i) where
 mem:=by simp
 obj:=λi h f b c=>by
   obtain⟨⟨d,g⟩,o,ho,C,hd⟩:=f;rcases zAi.mp c with rfl|c
   . exact⟨_,g,λv z=>by
       have z':Data.fields _=Data.cell v:=z;cases z'⟩
   rw[zA8.mp c];exact⟨o,ho,λv z=>by rw[hd] at z;cases z⟩
 keep:=λi h Z f k=>by
   obtain⟨⟨d,g⟩,f⟩:=f;exact⟨⟨d,k e (by simp) _ g⟩,f.at λo q=>k it (by simp) o q⟩
 item:=by
   intro X D F G C i D8 s W H E I r f J;subst D F G;obtain⟨xs,x,B,L⟩:=J;obtain⟨⟨d,g⟩,j⟩:=f;obtain⟨M,N,p,hz⟩:=I.list B;obtain⟨u,hu,ru⟩:=N.get L;have O:H s.heap.objs.size=none:=I.hok.fresh (zA2 _);obtain⟨oi,Q,_⟩:=id j;have t:e<s.heap.objs.size:=zAc g;have lt2:it<s.heap.objs.size:=zAc Q;refine wpAny_pyNext_enum_item g j p.isList (x:=u) (by simpa using hu) n λh1 R y S a0 T=>?_
   refine⟨_,rfl,wpAny_letOwnedTupleGo_enum (s:={s with heap:=h1,toks:=s.toks+1}) R λU V l=>?_⟩
   replace l:Heap.SameBut e h1 U:=l
   have I0:Pd X D8 W (upd H s.heap.objs.size (.q [.int (i:Int),x])) {s with heap:=s.heap.push {cls:=.type "tuple",data:=.seq #[.int i s.toks,u]},toks:=s.toks+1}:=I.laid (λb o q=>zA3 _ q) (zA2 _) ⟨by show 2<=Kc;decide,[.int i s.toks,u],.cons ⟨_,rfl⟩ (.cons ru .nil),⟨_,zAo _ rfl,rfl,_,rfl⟩⟩
   have I2:Pd X D8 W (upd H s.heap.objs.size (.q [.int (i:Int),x])) {s with heap:=U,toks:=s.toks+1}:=by
     refine Pd.turnedL (s:={s with heap:=s.heap.push {cls:=.type "tuple",data:=.seq #[.int i s.toks,u]},toks:=s.toks+1}) (h':=U) (ch:=[e,it]) (t':=s.toks+1) I0 (λb o c q=>?_) (λb c=>?_)
     . have A:b≠e:=λz=>c (by simp[z])
       have Y:b≠it:=λz=>c (by simp[z])
       refine l.extBut b o A ?_;rcases Heap.get?_push_cases (show (s.heap.push {cls:=.type "tuple",data:=.seq #[.int i s.toks,u]}).get? b=some o from q) with⟨rfl,rfl⟩|q
       . exact S
       exact T b o A Y q
     refine⟨?_,(r b c).2⟩;have m:b<s.heap.objs.size:=by
       rcases zAi.mp c with rfl|c
       . exact t
       rw[zA8.mp c];exact lt2
     rw[qd1 (zAt m)];exact(r b c).1
   refine⟨.ref s.heap.objs.size,_,I2,rfl,⟨_,x,rfl,O,rfl,λys hy=>by rw[I.list_inj hy B];exact L⟩,⟨⟨u,?_⟩,?_⟩,λb c=>?_⟩
   . have:((i+1:Nat):Int)=(i:Int)+1:=by push_cast;rfl
     rw[this];exact V
   . exact y.extBut l.extBut (Ne.symm n)
   have m:b<s.heap.objs.size:=by
     rcases zAi.mp c with rfl|c
     . exact t
     rw[zA8.mp c];exact lt2
   rw[qd1 (zAt m)];exact(r b c).1
 done:=by
   intro X D F G C i D8 s W H E I r f J;subst D F G;obtain⟨xs,B,L⟩:=J;obtain⟨⟨d,g⟩,j⟩:=f;obtain⟨M,N,p,hz⟩:=I.list B;obtain⟨f0,f1,f2,f3,f4,f5⟩:=r it (by simp);have hl:=N.length;exact wpAny_pyNext_enum_end (I.ok.hd C) g j p.isList (by simp;lia) λZ eb=>⟨rfl,I.turned (t':=s.toks) (λb o c q=>eb b o c q) f0 f1 f3 f4 f5⟩
 self:=λ_ _ _ _ _ f h=>by
   obtain⟨⟨d,g⟩,_⟩:=f;exact wpAny_pyIter_enum g h
section
variable{X:Cx}
def iEnum(K:N7)(ta:TA):TI:=λJ H R=>ta J H λvs H1=>∃a,vs=[.ref a]/\(∃xs,SqL K H1 a xs)/\R (Ite K a) H1
theorem qaP4(k:Gl X "enumerate")(hm:X.mg "enumerate"=none)(m:PA X [l] ta)(n:Kb [l] X.env=[(false,eval l X.env)]:=by rfl):PI X (.Tuple elts j tpos) (.Call (.Name "enumerate" p) [l] [] pos) (iEnum X.K ta):=by
 intro D8 s J H R I h;refine Call_ (qN9 I k hm boot_enumerate (PyProof.Rows.callWith_type1 (thn (m pos D8 s J H _ I h) λB c f=>?_) n rfl));obtain⟨C,H1,I1,o,t⟩:=f;obtain⟨a,e,⟨D,u⟩,q⟩:=t;subst e;cases o with
 |cons r v=>
  cases v;cases r;obtain⟨w,E,x,F⟩:=I1.list u;refine call_enumerate_list x.isList λG i y z A=>?_;refine wpAny_pyIter_enum i ?_;refine⟨c.heap.objs.size+1,[c.heap.objs.size+1,c.heap.objs.size],_,_,H1,rfl,I1.kept (t':=c.toks) A,qar3 a c.heap.objs.size (c.heap.objs.size+1) (Nat.succ_ne_self _),⟨⟨_,i⟩,y⟩,λb g=>?_,q⟩;have d:c.heap.objs.size<=b:=by rcases zAi.mp g with rfl|g;{exact Nat.le_succ _};rw[zA8.mp g];exact zA2 _
  exact I1.fpOk d (I1.hok.fresh d)
end
section
variable{X:Cx}
def qaO3:V->List V->Hp->VK->Prop:=λx vs H Q=>∃l xs y j z,x=.ref l/\vs=[y]/\H l=some (.l xs)/\flatV y=true/\xs.all flatV=true/\xs[j]?=some z/\eqV z y=true/\(∀m z',m<j->xs[m]?=some z'->eqV z' y=false)/\Q (.int (j:Nat)) H
theorem Pb.getU(r:Pb xs us){j:Nat}(h:us[j]?=some u):∃x,xs[j]?=some x/\Pa x u:=by have c:=r.length;have d:j<us.length:=(zA5.mp h).1;obtain⟨e,a,b⟩:=r.get (show xs[j]?=some xs[j] by simp);rw[h] at a;cases a;exact⟨_,by simp,b⟩
theorem qT8:MtM X "list.index" qaO3:=by
 intro D8 s S H x N v O Q I f C h;obtain⟨l,p,y,j,P,rfl,rfl,D,E,t,A,g,i,q⟩:=h;cases f;obtain⟨u,rfl,G⟩:=C.one;obtain⟨z,a,n,r,R,e⟩:=I.lstM D;have J:j<p.length:=(zA5.mp A).1;have B:=r.length;have small:((j:Nat):Int)<2 ^ 63-1:=by have:Kc<2 ^ 62:=∅;lia
 have eqAt:∀m (d:m<a.toArray.size),∃x,p[m]?=some x/\eqU y a.toArray[m]=eqV x y:=λm d=>by
  have K:m<a.length:=by simpa using d
  obtain⟨x,b,f⟩:=r.getU (show a[m]?=some a[m] by simp);have L:flatV x=true:=zBo.mp t x (zB1 b);refine⟨x,b,?_⟩;have:=qav3 (x:=y) f L;simpa using this
 have c:j<a.toArray.size:=by simp;lia
 refine Kr Oe ⟨_,e,rfl⟩ F.entry_list_index (F.args_list_index_2 _ _) (SeqAt.list_indexAt l a.toArray n none #[] u (eqU y) j c small ?_ ?_) ⟨e,λw M=>qq4 G E r t w (by simpa using M),⟨.int (j:Nat),H,I.tok _,⟨_,rfl⟩,q⟩⟩;{obtain⟨x,b,k⟩:=eqAt j c;rw[A] at b;cases b;rw[k];exact g};intro m d o;obtain⟨x,b,k⟩:=eqAt m d;rw[k];exact i m x o b
def qaO5:V->List V->Hp->VK->Prop:=λx vs H Q=>∃l xs y,x=.ref l/\vs=[y]/\H l=some (.l xs)/\flatV y=true/\xs.all flatV=true/\Q (.int (xs.countP (λz=>eqV z y):Nat)) H
theorem qZ7{x:V}:∀{xs:List V}{us:List V'},Pb xs us->xs.all flatV=true->us.countP (eqU x)=xs.countP λy=>eqV y x|_,_,.nil,_=>rfl|y::xs,u::us,.cons r t,f=>by rw[Lp,zBm] at f;rw[Nc,Nc,qav3 r f.1,qZ7 t f.2]
theorem qaH2:MtM X "list.count" qaO5:=by intro D8 s S H x k v m Q I c d h;obtain⟨l,o,y,rfl,rfl,f,g,b,q⟩:=h;cases c;obtain⟨u,rfl,i⟩:=d.one;obtain⟨z,a,n,r,p,e⟩:=I.lstM f;refine Kr On ⟨_,e,rfl⟩ F.entry_list_count (F.args_list_count_2 _ _) (SeqAt.list_countAt l a.toArray n none #[] u (eqU y)) ⟨e,λw j=>qq4 i g r b w (by simpa using j),⟨.int _,H,I.tok _,⟨_,rfl⟩,?_⟩⟩;rw[show a.toArray.toList.countP (eqU y)=a.countP (eqU y) by simp,qZ7 r b];exact q
end
theorem qaw1{K:N7}(Pv:Nat->St->Hp->Prop)(c:Pv 0 u H)(d:∀i u H,i<=xs.length->Pv i u H->SqL K H a xs)(f:∀(i:Nat) x u H t,xs[i]?=some x->Pv i u H->H t=none->g (.ref t) u (upd H t (.q [.int (i:Int),x])) λσ2 H2=>tf σ2 H2 λh H3=>if h=true then te σ2 H3 λv H4=>∃ys,H4 D=some (.l ys)/\ys.length<Kc/\Pv (i+1) σ2 (upd H4 D (.l (ys++[v]))) else Pv (i+1) σ2 H3)(j:∀u H,Pv xs.length u H->R H):qp3 (Ite K a) g tf te D R u H:=by refine⟨λi m u H=>m=xs.length-i/\i<=xs.length/\Pv i u H,⟨xs.length,by simp,zBb _,c⟩,?_⟩;rintro i m u H ⟨rfl,k,p⟩;have q:=d i u H k p;by_cases b:i<xs.length;{refine .inr ⟨⟨xs,xs[i],q,by simp[b]⟩,Pv (i+1),λu' H' l=>⟨xs.length-(i+1),⋯,rfl,b,l⟩,λx H' y=>?_⟩;obtain⟨t,n,e,o,r,s⟩:=y;subst e r;exact f i n u _ t (s xs q) p o};have e:i=xs.length:=⋯;subst e;exact .inl ⟨⟨xs,q,zA2 _⟩,j u H p⟩
end L2
namespace L2
open PySem PySem.Spec PyProof.Rows
noncomputable def qaI1:List String:=["NoneType", "bool", "int", "str", "list", "tuple", "dict"]
structure IsO(K:N7)(C:γ):Prop where
 ca:W.findIn K (.ref C) "__class__"=some (some (.builtin "object.__class__"))
 cn:W.specialIn K (.builtin "object.__class__") "__get__"=some (some (.builtin "getset_descriptor.__get__"))
 ct:W.takesIn K (.builtin "object.__class__")=some true
 cm:W.mroIn K C (.type "object")=some true
 kf:∀t∈qaI1,N8 K (.type t) (.ref C)=some false
theorem kf_of{K:N7}(h1:N8 K (.type "NoneType") (.ref C)=some false)(h2:N8 K (.type "bool") (.ref C)=some false)(b:N8 K (.type "int") (.ref C)=some false)(c:N8 K (.type "str") (.ref C)=some false)(d:N8 K (.type "list") (.ref C)=some false)(e:N8 K (.type "tuple") (.ref C)=some false)(f:N8 K (.type "dict") (.ref C)=some false):∀t∈qaI1,N8 K (.type t) (.ref C)=some false:=by intro t a;unfold qaI1 at a;simp only[zAi,zBk,or_false] at a;rcases a with rfl|rfl|rfl|rfl|rfl|rfl|rfl<;>assumption
section
variable{X:Cx}
def rIsO(C:γ):List V->Hp->VK->Prop:=λxs H Q=>∃x,xs=[x,.ref C]/\((∃a dx fs,x=.ref a/\H a=some (.ins C dx fs)/\Q (.bl true) H)∨(∃t,Bn H x=some t/\Q (.bl false) H))
theorem qaL1(b:IsO X.K C)(g:Cls X.K C):CallR X (.builtin "isinstance") (rIsO C):=by
 intro D8 s m H j k Q I r h;obtain⟨x,rfl,h⟩:=h;obtain⟨u,l,rfl,f,c⟩:=G9 r;cases c;rcases h with⟨a,dx,fs,rfl,ha,q⟩|⟨t,hk,q⟩
 .have e:N8 X.K (.ref C) (.ref C)=some true:=by unfold N8;rw[if_pos (by simp)]
  exact qJ4 I f (.ins ha g b.ca b.cn b.ct b.cm) e λd=>⟨.bl true,H,I.tok d,rfl,q⟩
 obtain⟨ty,i⟩:=qam1 (K:=X.K) hk;exact qJ4 I f ty (b.kf t i) λd=>⟨.bl false,H,I.tok d,rfl,q⟩
theorem qba1(C:γ)(hm:X.mg x=some (.ref C))(a:Gl X x:=by rfl)(b:N' x:=by decide):PE X (.Name x pos) (tC (.ref C)):=qaz6 a hm rfl b
end
end L2
namespace Row
variable{a i j q s t:Nat}{g':Nat->Option Int}{x y:Int}
noncomputable def Aa(n h r:Nat):Nat:=if h<=r then r-h else r+n-h
noncomputable def prev(n r:Nat):Nat:=if r=0 then n-1 else r-1
noncomputable def next(n r:Nat):Nat:=if r+1=n then 0 else r+1
def ahead(n:Nat)(hm:Int->Nat)(r:Nat)(x y:Int):Prop:=Aa n (hm y) r<Aa n (hm x) r∨(Aa n (hm x) r=Aa n (hm y) r/\x<y)
theorem qv9(h:ahead n hm r x y)(h':ahead n hm r y z):ahead n hm r x z:=by unfold ahead at *;lia
theorem qP9(h:ahead n hm r x y)(h':ahead n hm r y x):False:=by unfold ahead at *;lia
theorem qax2(h:ahead n hm r x x):False:=qP9 h h
theorem qax1(h:x≠y)(h':¬ahead n hm r x y):ahead n hm r y x:=by unfold ahead at *;lia
theorem qm2(h:r<n):next n r<n:=by unfold next;split<;>lia
theorem qj3(h:r<n):prev n r<n:=by unfold prev;split<;>lia
theorem qk8(h:r<n):prev n (next n r)=r:=by unfold prev next;split<;>split<;>lia
theorem qI8(h:r<n):next n (prev n r)=r:=by unfold prev next;split<;>split<;>lia
theorem qi5(h:r<n)(b:a<n):Aa n a r<n:=by unfold Aa;split<;>lia
theorem qi9(b:a<n)(h:r<n)(h':s<n)(e:Aa n a r=Aa n a s):r=s:=by unfold Aa at e;split at e<;>split at e<;>lia
theorem qc1(b:a<n)(h:r<n):Aa n a r=0↔r=a:=by unfold Aa;split<;>lia
theorem qe2(c:a<n)(h:r<n)(b:0<Aa n a r):Aa n a (prev n r)=Aa n a r-1:=by unfold Aa prev at *;split at b<;>split<;>split<;>lia
theorem ql7(c:a<n)(h:r<n)(b:Aa n a r+1<n):Aa n a (next n r)=Aa n a r+1:=by unfold Aa next at *;split at b<;>split<;>split<;>lia
theorem nor(n s:Nat):(s+1=n/\next n s=0)∨(s+1≠n/\next n s=s+1):=by unfold next;split<;>lia
theorem por(n s:Nat):(s=0/\prev n s=n-1)∨(s≠0/\prev n s=s-1):=by unfold prev;split<;>lia
theorem dor(n a r:Nat):(a<=r/\Aa n a r+a=r)∨(r<a/\(a<=r+n->Aa n a r+a=r+n)):=by unfold Aa;split<;>lia
theorem Dx(b:a<n)(hi:i<n)(c:s<n)(h:Aa n a i<=Aa n a s):Aa n a i+Aa n i s=Aa n a s:=by have d:=dor n a i;have e:=dor n a s;have f:=dor n i s;lia
theorem Hw(b:a<n)(c:s<n)(d:t<n)(h:Aa n a s<Aa n a t):Aa n t s+Aa n a t=n+Aa n a s:=by have e:=dor n a s;have f:=dor n a t;have g:=dor n t s;lia
theorem qbe7(a:s<n):Aa n (next n s) s+1=n:=by have b:=dor n (next n s) s;have c:=nor n s;lia
theorem qav7(f:a<n)(c:b<n)(d:j<n)(hi:i<n)(h1:Aa n a i<=Aa n a j)(h2:Aa n a j<=Aa n b j):Aa n b i+(Aa n a j-Aa n a i)=Aa n b j:=by have g:=Dx f hi d h1;have h:=qi5 hi c;rcases Nat.lt_or_ge (Aa n b j) (Aa n b i) with e|e;{have:=Hw c d hi e;lia};have:=Dx c hi d e;lia
structure Ord(n:Nat)(hm:Int->Nat)(g:Nat->Option Int):Prop where
 home:∀k,hm k<n
 inj:∀i j k,i<n->j<n->g i=some k->g j=some k->i=j
 ord:∀i k,i<n->g i=some k->0<Aa n (hm k) i->∃x,g (prev n i)=some x/\ahead n hm (prev n i) x k
def Hx(n:Nat)(hm:Int->Nat)(g:Nat->Option Int):Prop:=∃i,i<n/\∀k,g i=some k->hm k=i
theorem Ord.path(O:Ord n hm g):∀(m j i:Nat)(z:Int),j<n->i<n->g j=some z->Aa n (hm z) i+m+1=Aa n (hm z) j->∃x,g i=some x/\ahead n hm i x z
 |0,j,i,z,hj,hi,hz,e=>by have a:0<Aa n (hm z) j:=⋯;obtain⟨x,b,c⟩:=O.ord j z hj hz a;have:=qe2 (O.home z) hj a;have f:i=prev n j:=qi9 (O.home z) hi (qj3 hj) ⋯;rw[f];exact⟨x,b,c⟩|m+1,j,i,z,hj,hi,hz,e=>by
  have a:0<Aa n (hm z) j:=⋯;obtain⟨x,b,c⟩:=O.ord j z hj hz a;have o:=qe2 (O.home z) hj a;have d:=qj3 hj;have h:Aa n (hm z) (prev n j)<=Aa n (hm x) (prev n j):=by unfold ahead at c;lia
  have p:=qav7 (O.home z) (O.home x) d hi ⋯ h;obtain⟨y,k,l⟩:=O.path m (prev n j) i x d hi b ⋯;refine⟨y,k,qv9 l ?_⟩;unfold ahead at *;lia
theorem Ord.path'(O:Ord n hm g)(a:j<n)(hi:i<n)(b:g j=some z)(h:Aa n (hm z) i<Aa n (hm z) j):∃x,g i=some x/\ahead n hm i x z:=O.path (Aa n (hm z) j-Aa n (hm z) i-1) j i z a hi b ⋯
def Fi(n:Nat)(hm:Int->Nat)(g:Nat->Option Int)(s:Nat):Prop:=∀j z,j<n->g j=some z->Aa n (hm z) j<=Aa n (hm z) s
theorem Ord.zero(O:Ord n hm g)(C:Hx n hm g):∃s,s<n/\Fi n hm g s:=by
 obtain⟨i,b,h⟩:=C;have l:=qj3 b;refine⟨prev n i,l,λj z c k=>zC3 λm=>?_⟩;have a:=O.home z;by_cases d:Aa n (hm z) i=0
 .have e:=(qc1 a b).mp d;have:=qi5 c a;have e2:Aa n (hm z) (prev n i)=n-1:=by
   unfold Aa prev at *
   split<;>split<;>lia
  lia
 have q:=qe2 a b ⋯;by_cases f:Aa n (hm z) i=Aa n (hm z) j;{have e:i=j:=qi9 a b c f;subst e;have:=h z k;rw[this,(qc1 b b).mpr rfl] at d;exact d rfl};obtain⟨x,o,p⟩:=O.path' c b k ⋯;have e:=h x o;have:Aa n (hm x) i=0:=(qc1 (O.home x) b).mpr e.symm;unfold ahead at p;lia
theorem qZ1{α:Type}[DecidableEq α](x:α):∀(S:List α),S.Nodup->S.length<=(S.filter (λy=>decide (y≠x))).length+1
 |[],_=>by simp|a::S,h=>by
  have b:=zCi.mp h;by_cases e:a=x
  .subst e;have:S.filter (λy=>decide (y≠a))=S:=List.filter_eq_self.mpr λy c=>by simp only[ne_eq,zBh];intro z;subst z;exact b.1 c
   rw[Lw (by simp),this];simp
  rw[Lx (by simpa using e)];have:=qZ1 x S b.2;simp only[zAp];lia
theorem qr0{α:Type}[DecidableEq α](x:α):∀(S:List α),x∈S->(S.filter (λy=>decide (y≠x))).length+1<=S.length|[],h=>by simp at h|a::S,h=>by by_cases e:a=x;{rw[Lw (by simp[e])];have:=Lm (λy=>decide (y≠x)) S;simp only[zAp];lia};rw[Lx (by simpa using e)];have:=qr0 x S (by rcases zAi.mp h with z|z;exact absurd z.symm e;exact z);simp only[zAp];lia
theorem qF8{g:Nat->Option Int}:∀(L:List Nat)(S:List Int),S.Nodup->(∀k∈S,∃i∈L,g i=some k)->S.length<=L.length
 |[],S,_,h=>by cases S with|nil=>simp|cons k _=>obtain⟨i,f,_⟩:=h k (by simp);simp at f
 |i::L,S,hn,h=>by
  cases d:g i with
  |none=>
   have:=qF8 L S hn λk a=>by obtain⟨j,c,e⟩:=h k a;rcases zAi.mp c with z|z;{rw[z,d] at e;cases e};exact⟨j,z,e⟩
   simp only[zAp];lia
  |some x=>
   have m:=qF8 L (S.filter (λy=>decide (y≠x))) (hn.filter _) λk a=>by obtain⟨a,b⟩:=zB2.mp a;obtain⟨j,c,e⟩:=h k a;rcases zAi.mp c with z|z;{rw[z,d] at e;have l:x=k:=N5 e;rw[l] at b;simp at b};exact⟨j,z,e⟩
   have n:=qZ1 x S hn;simp only[zAp];lia
theorem qW9{g:Nat->Option Int}:∀(L:List Nat)(S:List Int),L.Nodup->(∀i∈L,∃k∈S,g i=some k)->(∀i∈L,∀j∈L,∀k,g i=some k->g j=some k->i=j)->L.length<=S.length|[],S,_,_,_=>by simp|i::L,S,c,h,inj=>by obtain⟨x,f,l⟩:=h i (by simp);have c:=zCi.mp c;have p:=qW9 L (S.filter (λy=>decide (y≠x))) c.2 (λj d=>by obtain⟨k,m,e⟩:=h j (zA7 _ d);refine⟨k,zB2.mpr ⟨m,?_⟩,e⟩;simp only[ne_eq,zBh];intro z;subst z;have:=inj i (by simp) j (zA7 _ d) k l e;exact c.1 (this ▸ d)) λa n b o=>inj a (zA7 _ n) b (zA7 _ o);have q:=qr0 x S f;simp only[zAp];lia
def Holds(n:Nat)(g:Nat->Option Int)(S:List Int):Prop:=S.Nodup/\∀k,k∈S↔∃i,i<n/\g i=some k
theorem qaq8(O:Ord n hm g)(O':Ord n hm g')(C':Hx n hm g')(J:Holds n g S)(w:Holds n g' S)(p:s<n)(Z:Fi n hm g s):Fi n hm g' s:=by
 obtain⟨K,F,Z'⟩:=O'.zero C';intro j z B q;refine zC3 λv=>?_;have R:∀m,(∃t,t<n/\Aa n t s<=m/\Fi n hm g' t)->∃t,t<n/\Fi n hm g' t/\∀u,u<n->Aa n u s<Aa n t s->¬Fi n hm g' u:=by intro m;induction m with|zero=>rintro⟨t,l,T,q⟩;exact⟨t,l,q,λu _ h=>absurd h ⋯⟩|succ m U=>rintro⟨t,l,T,q⟩;by_cases L:∃u,u<n/\Aa n u s<=m/\Fi n hm g' u;{exact U L};exact⟨t,l,q,λu V h W=>L ⟨u,V,⋯,W⟩⟩
 obtain⟨t,l,Zt,near⟩:=R (Aa n K s) ⟨K,F,zA2 _,Z'⟩;let d:Nat->Bool:=λr=>decide (Aa n r s<Aa n t s)
 have arcOf:∀r,d r=true↔Aa n r s<Aa n t s:=λr=>decide_eq_true_iff;have o:=O'.home z;have M:=Zt j z B q;have Dz:Aa n (hm z) s<Aa n t s:=by have G:=Hw o p l (zAm v M);have e2:=qi5 l o;lia
 have Dj:¬Aa n j s<Aa n t s:=by have G:=Hw o p l (zAm v M);have e2:=Hw o p B v;lia
 have X:z∈S.filter (λk=>d (hm k)):=zB2.mpr ⟨(w.2 z).mpr ⟨j,B,q⟩,(arcOf _).mpr Dz⟩;have p1:(S.filter (λk=>d (hm k))).length<=((Lh n).filter d).length:=by refine qF8 (g:=g) _ _ (J.1.filter _) λk H=>?_;obtain⟨H,N⟩:=zB2.mp H;obtain⟨i,c,P⟩:=(J.2 k).mp H;have N:=(arcOf _).mp N;have Y:=Z i k c P;have f:=O.home k;refine⟨i,zB2.mpr ⟨zAj.mpr c,(arcOf _).mpr ?_⟩,P⟩;have G:=Dx f c p Y;lia
 have p2:((Lh n).filter d).length<=((S.filter (λk=>d (hm k))).filter (λy=>decide (y≠z))).length:=by
  refine qW9 (g:=g') _ _ (List.nodup_range.filter _) (λi c=>?_) λa ha b hb k=>O'.inj a b k (zAj.mp (zB2.mp ha).1) (zAj.mp (zB2.mp hb).1);obtain⟨c,C⟩:=zB2.mp c;have c:=zAj.mp c;have C:=(arcOf _).mp C;have nz:=near i c C;obtain⟨k,D⟩:∃k,g' i=some k:=by cases e:g' i with|some k=>exact⟨k,rfl⟩|none=>refine absurd (λj' y I hy=>zC3 λA=>?_) nz;obtain⟨x,Q,_⟩:=O'.path' I c hy A;rw[e] at Q;cases Q
  have ki:=Zt i k c D;have f:=O'.home k;refine⟨k,zB2.mpr ⟨zB2.mpr ⟨(w.2 k).mpr ⟨i,c,D⟩,(arcOf _).mpr ?_⟩,?_⟩,D⟩;{have l1:=qi5 l f;rcases Nat.lt_or_ge (Aa n (hm k) s) (Aa n (hm k) t) with E|E;{have:=Hw f p l E;lia};have G:=Dx f l p E;have e2:=Dx f c p (zAn ki E);lia};simp only[ne_eq,zBh];intro e;subst e;have:=O'.inj i j k c B D q;subst this;exact Dj C
 have p3:=qr0 z _ X;lia
theorem qaq4(O:Ord n hm g)(O':Ord n hm g')(z:Holds n g S)(l:Holds n g' S)(t:s<n)(Z:Fi n hm g s)(Z':Fi n hm g' s)(c:j<n)(A:∀i,i<n->Aa n (next n s) i<Aa n (next n s) j->g i=g' i)(m:g j=some x):g' j=some x:=by
 have a:=qm2 t;have pos:∀{f:Nat->Option Int},Fi n hm f s->∀{i k},i<n->f i=some k->Aa n (next n s) (hm k)<=Aa n (next n s) i:=λ{f} Zf {i k} h D=>by have u:=Zf i k h D;have b:=O.home k;have P:=qbe7 t;have Q:=qi5 b a;have E:=Dx a b t ⋯;refine zC3 λF=>?_;have e2:=Hw a h b F;lia
 have o:∀{i k},i<n->Aa n (next n s) (hm k)<=Aa n (next n s) j->Aa n (next n s) j<Aa n (next n s) i->Aa n (hm k) j<Aa n (hm k) i:=λ{i k} h u G=>by have b:=O.home k;have E:=Dx a b c u;have e2:=Dx a b h (zAn u (zBi G));lia
 obtain⟨p,d,q⟩:=(l.2 x).mp ((z.2 x).mpr ⟨j,c,m⟩);have H:=pos Z c m;by_cases I:Aa n (next n s) p<Aa n (next n s) j;{have e:=A p d I;rw[q] at e;have:=O.inj p j x d c e m;subst this;exact q};by_cases J:Aa n (next n s) p=Aa n (next n s) j;{have e:=qi9 a d c J;subst e;exact q};exfalso;obtain⟨y,v,B⟩:=O'.path' d c q (o d H ⋯);obtain⟨i,h,r⟩:=(z.2 y).mp ((l.2 y).mpr ⟨j,c,v⟩);have K:=pos Z' c v;by_cases L:Aa n (next n s) i<Aa n (next n s) j;{have e:=A i h L;rw[r] at e;have:=O'.inj i j y h c e.symm v;subst this;lia};by_cases M:Aa n (next n s) i=Aa n (next n s) j;{have e:=qi9 a h c M;subst e;rw[m] at r;cases r;exact qax2 B};obtain⟨w,C,N⟩:=O.path' h c r (o h K ⋯);rw[m] at C;cases C;exact qP9 B N
theorem qaG3(O:Ord n hm g)(O':Ord n hm g')(C:Hx n hm g)(C':Hx n hm g')(d:Holds n g S)(a:Holds n g' S):∀j,j<n->g j=g' j:=by
 obtain⟨s,f,Z⟩:=O.zero C;have Z':=qaq8 O O' C' d a f Z;have main:∀m j,j<n->Aa n (next n s) j<m->g j=g' j:=by intro m;induction m with|zero=>intro j _ h;exact absurd h ⋯|succ m l=>intro j c p;have b:∀i,i<n->Aa n (next n s) i<Aa n (next n s) j->g i=g' i:=λi k h=>l i k ⋯;cases e:g j with|some x=>exact(qaq4 O O' d a f Z Z' c b e).symm|none=>cases o:g' j with|none=>rfl|some y=>have:=qaq4 O' O a d f Z' Z c (λi k h=>(b i k h).symm) o;rw[e] at this;cases this
 exact λj c=>main _ j c (Nat.lt_succ_self _)
noncomputable def set(g:Nat->Option Int)(r:Nat)(c:Int):Nat->Option Int:=λj=>if j=r then some c else g j
theorem qc2:set g r c r=some c:=by unfold set;rw[if_pos rfl]
theorem qd7(h:j≠r):set g r c j=g j:=by unfold set;rw[if_neg h]
structure Walk(n:Nat)(wr:Bool)(hm:Int->Nat)(T:List Int)(k:Int)(e:Nat)(g:Nat->Option Int)(c:Int)(r:Nat):Prop where
 o:Ord n hm g
 nin:∀i,i<n->g i≠some c
 hr:r<n
 pth:∀j,j<n->Aa n (hm c) j<Aa n (hm c) r->∃x,g j=some x/\ahead n hm j x c
 he:e<n
 ge:g e=none
 lim:Aa n (hm k) r<=Aa n (hm k) e
 all:∀x,x∈T↔(x=c∨∃i,i<n/\g i=some x)
 ln:wr=false->hm k<=e/\hm c<=r/\∀i x,i<n->g i=some x->hm x<=i
section
variable{n:Nat}{wr:Bool}{hm:Int->Nat}{T:List Int}{k:Int}{e:Nat}{g:Nat->Option Int}{c:Int}{r:Nat}
theorem Walk.lt(W:Walk n wr hm T k e g c r)(a:g r=some y):Aa n (hm k) r<Aa n (hm k) e:=by
 have b:=W.lim;have:r≠e:=λz=>by have:=W.ge;rw[<-z,a] at this;cases this
 have d:Aa n (hm k) r≠Aa n (hm k) e:=λz=>this (qi9 (W.o.home k) W.hr W.he z);lia
theorem Walk.nx(W:Walk n wr hm T k e g c r)(a:g r=some y):Aa n (hm k) (next n r)=Aa n (hm k) r+1:=by have b:=W.lt a;have d:=qi5 W.he (W.o.home k);exact ql7 (W.o.home k) W.hr ⋯
theorem way(a:hm x<n)(c:j<n)(b:e<n)(d:g e=none)(f:∀i,i<n->Aa n (hm x) i<=Aa n (hm x) j->∃y,g i=some y):Aa n (hm x) j+1<n:=by have k:=qi5 c a;have l:=qi5 b a;by_cases h:Aa n (hm x) e<=Aa n (hm x) j;{obtain⟨y,q⟩:=f e b h;rw[d] at q;cases q};lia
theorem Walk.on(W:Walk n wr hm T k e g c r)(a:g r=some y)(h:¬ahead n hm r c y):Walk n wr hm T k e g c (next n r):=by
 have v:=W.nx a;have A:=W.lt a;have b:=W.o.home c;have l:c≠y:=λz=>W.nin r W.hr (by rw[z];exact a);have w:Aa n (hm c) r+1<n:=way (g:=g) b W.hr W.he W.ge λi d m=>by by_cases q:Aa n (hm c) i=Aa n (hm c) r;{rw[qi9 b d W.hr q];exact⟨y,a⟩};obtain⟨x,p,_⟩:=W.pth i d ⋯;exact⟨x,p⟩
 have B:=ql7 b W.hr w;refine⟨W.o,W.nin,qm2 W.hr,λj f m=>?_,W.he,W.ge,⋯,W.all,λs=>?_⟩;{by_cases q:Aa n (hm c) j=Aa n (hm c) r;{rw[qi9 b f W.hr q];exact⟨y,a,qax1 l h⟩};exact W.pth j f ⋯};obtain⟨t,C,u⟩:=W.ln s;refine⟨t,?_,u⟩;have D:=dor n (hm k) r;have E:=dor n (hm k) e;have F:=nor n r;have:=W.hr;have:=W.he;have:=W.o.home k;lia
theorem Walk.swap(W:Walk n wr hm T k e g c r)(l:g r=some y)(h:ahead n hm r c y):Walk n wr hm T k e (set g r c) y (next n r):=by
 have J:=W.nx l;have K:=W.lt l;have D:=W.o.home c;have m:=W.o.home y;have E:c≠y:=λz=>W.nin r W.hr (by rw[z];exact l);have F:e≠r:=λz=>by have:=W.ge;rw[z,l] at this;cases this
 have w:Aa n (hm y) r+1<n:=way (g:=g) m W.hr W.he W.ge λi f u=>by by_cases q:Aa n (hm y) i=Aa n (hm y) r;{rw[qi9 m f W.hr q];exact⟨y,l⟩};obtain⟨x,s,_⟩:=W.o.path' W.hr f l ⋯;exact⟨x,s⟩
 have L:=ql7 m W.hr w;refine⟨⟨W.o.home,λi j x f t a p=>?_,λi x f a u=>?_⟩,λi f a=>?_,qm2 W.hr,λj t u=>?_,W.he,by rw[qd7 F];exact W.ge,⋯,λx=>?_,λG=>?_⟩;{by_cases b:i=r;{by_cases e2:j=r;{rw[b,e2]};rw[b,qc2] at a;rw[qd7 e2] at p;cases a;exact absurd p (W.nin j t)};rw[qd7 b] at a;by_cases e2:j=r;{rw[e2,qc2] at p;cases p;exact absurd a (W.nin i f)};rw[qd7 e2] at p;exact W.o.inj i j x f t a p}
 .have H:=qj3 f;by_cases b:i=r
  .subst b;rw[qc2] at a;cases a;have d:=qe2 D f u;obtain⟨x,s,A⟩:=W.pth (prev n i) H ⋯;have:prev n i≠i:=λz=>by rw[z] at d;lia
   exact⟨x,by rw[qd7 this];exact s,A⟩
  rw[qd7 b] at a;obtain⟨z,v,B⟩:=W.o.ord i x f a u;by_cases e2:prev n i=r;{rw[e2] at v B ⊢;rw[l] at v;cases v;exact⟨c,qc2,qv9 h B⟩};exact⟨z,by rw[qd7 e2];exact v,B⟩
 {by_cases b:i=r;{rw[b,qc2] at a;exact E (N5 a)};rw[qd7 b] at a;exact b (W.o.inj i r y f W.hr a l)};{by_cases q:Aa n (hm y) j=Aa n (hm y) r;{rw[qi9 m t W.hr q];exact⟨c,qc2,h⟩};obtain⟨x,s,A⟩:=W.o.path' W.hr t l ⋯;have:j≠r:=λz=>q (by rw[z]);exact⟨x,by rw[qd7 this];exact s,A⟩};{rw[W.all x];constructor;{rintro (z|⟨i,f,a⟩);{exact .inr ⟨r,W.hr,by rw[z];exact qc2⟩};by_cases b:i=r;{rw[b,l] at a;exact .inl (N5 a).symm};exact .inr ⟨i,f,by rw[qd7 b];exact a⟩};rintro (z|⟨i,f,a⟩);{exact .inr ⟨r,W.hr,by rw[z];exact l⟩};by_cases b:i=r;{rw[b,qc2] at a;exact .inl (N5 a).symm};rw[qd7 b] at a;exact .inr ⟨i,f,a⟩};obtain⟨I,M,C⟩:=W.ln G;have N:=C r y W.hr l;refine⟨I,?_,λi x f a=>?_⟩;{have O:=dor n (hm k) r;have P:=dor n (hm k) e;have Q:=nor n r;have:=W.hr;have:=W.he;have:=W.o.home k;lia};by_cases b:i=r;{rw[b,qc2] at a;cases a;lia};rw[qd7 b] at a;exact C i x f a
structure Kept(n:Nat)(wr:Bool)(hm:Int->Nat)(g:Nat->Option Int)(S:List Int):Prop where
 o:Ord n hm g
 c:Hx n hm g
 h:Holds n g S
 ln:wr=false->∀i x,i<n->g i=some x->hm x<=i
theorem Walk.done(W:Walk n wr hm T k e g c r)(v:T.Nodup)(q:g r=none):Kept n wr hm (set g r c) T:=by
 have w:=W.o.home c;have h:=qm2 W.hr;refine⟨⟨W.o.home,λi j x f t a l=>?_,λi x f a p=>?_⟩,⟨next n r,h,λx u=>?_⟩,⟨v,λx=>?_⟩,λy=>?_⟩;{by_cases b:i=r;{by_cases e2:j=r;{rw[b,e2]};rw[b,qc2] at a;rw[qd7 e2] at l;cases a;exact absurd l (W.nin j t)};rw[qd7 b] at a;by_cases e2:j=r;{rw[e2,qc2] at l;cases l;exact absurd a (W.nin i f)};rw[qd7 e2] at l;exact W.o.inj i j x f t a l}
 .have A:=qj3 f;by_cases b:i=r
  .subst b;rw[qc2] at a;cases a;have d:=qe2 w f p;obtain⟨x,s,B⟩:=W.pth (prev n i) A ⋯;have:prev n i≠i:=λz=>by rw[z] at d;lia
   exact⟨x,by rw[qd7 this];exact s,B⟩
  rw[qd7 b] at a;obtain⟨z,m,C⟩:=W.o.ord i x f a p;by_cases e2:prev n i=r;{rw[e2,q] at m;cases m};exact⟨z,by rw[qd7 e2];exact m,C⟩
 .have s:=W.o.home x;by_cases b:next n r=r
  {have:=nor n r;have:=W.hr;lia};rw[qd7 b] at u;by_cases p:0<Aa n (hm x) (next n r);{obtain⟨z,m,_⟩:=W.o.ord _ x h u p;rw[qk8 W.hr,q] at m;cases m};exact((qc1 s h).mp ⋯).symm
 {rw[W.all x];constructor;{rintro (z|⟨i,f,a⟩);{exact⟨r,W.hr,by rw[z];exact qc2⟩};exact⟨i,f,by rw[qd7 (λz=>by rw[z,q] at a;cases a)];exact a⟩};rintro⟨i,f,a⟩;by_cases b:i=r;{rw[b,qc2] at a;exact .inl (N5 a).symm};rw[qd7 b] at a;exact .inr ⟨i,f,a⟩};obtain⟨E,F,D⟩:=W.ln y;intro i x f a;by_cases b:i=r;{rw[b,qc2] at a;cases a;lia};rw[qd7 b] at a;exact D i x f a
def Ja(n:Nat)(wr:Bool)(hm:Int->Nat)(g:Nat->Option Int)(k:Int)(e:Nat):Prop:=e<n/\g e=none/\(wr=false->hm k<=e)
theorem Kept.start(K:Kept n wr hm g S)(c:¬k∈S)(F:Ja n wr hm g k e):Walk n wr hm (S++[k]) k e g k (hm k):=by have a:=K.o.home k;have z:=(qc1 a a).mpr rfl;refine⟨K.o,λi d f=>c ((K.h.2 k).mpr ⟨i,d,f⟩),a,λj _ l=>⋯,F.1,F.2.1,⋯,λx=>?_,λb=>⟨F.2.2 b,zA2 _,K.ln b⟩⟩;rw[zAb,zA8,K.h.2 x];exact⟨Or.symm,Or.symm⟩
def Crowd(n:Nat)(wr:Bool)(hm:Int->Nat)(T:List Int)(q:Nat):Prop:=q<n/\if wr=true then q=0/\n<T.length else n-q<(T.filter (λk=>decide (q<=hm k))).length
theorem qQ7(h:i∈(Lh (n-q)).map (q + ·)):q<=i/\i<n:=by obtain⟨j,a,rfl⟩:=zBc.mp h;have:=zAj.mp a;lia
theorem qaH5(h:q<=i)(h':i<n):i∈(Lh (n-q)).map (q + ·):=zBc.mpr ⟨i-q,zAj.mpr ⋯,⋯⟩
theorem qaf4:((Lh m).map (q + ·)).Nodup:=by rw[List.nodup_iff_pairwise_ne,zBu];exact(List.nodup_iff_pairwise_ne.mp Ml).imp λh=>⋯
theorem Kept.no_crowd(K:Kept n wr hm g S)(q:Nat):¬Crowd n wr hm S q:=by
 rintro⟨d,h⟩;cases wr with
 |true=>
  rw[if_pos rfl] at h;have:=qF8 (g:=g) (Lh n) S K.h.1 λk a=>by obtain⟨i,b,c⟩:=(K.h.2 k).mp a;exact⟨i,zAj.mpr b,c⟩
  rw[zB0] at this;lia
 |false=>
  rw[if_neg ∅] at h;have:=qF8 (g:=g) ((Lh (n-q)).map (q + ·)) (S.filter (λk=>decide (q<=hm k))) (K.h.1.filter _) λk a=>by obtain⟨a,d⟩:=zB2.mp a;obtain⟨i,b,c⟩:=(K.h.2 k).mp a;have:=K.ln rfl i k b c;have d:=zAd d;exact⟨i,qaH5 ⋯ b,c⟩
  rw[zA9,zB0] at this;lia
theorem Kept.crowd(K:Kept n wr hm g S)(u:∀e,¬Ja n wr hm g k e):∃q,Crowd n wr hm (S++[k]) q:=by
 have v:=K.o.home k;have full:∀e,e<n->(wr=false->hm k<=e)->∃x,g e=some x:=λe f s=>by cases h:g e with|some x=>exact⟨x,rfl⟩|none=>exact absurd ⟨f,h,s⟩ (u e)
 cases wr with
 |true=>refine⟨0,⋯,?_⟩;rw[if_pos rfl];refine⟨rfl,?_⟩;have:=qW9 (g:=g) (Lh n) S Ml (λi b=>by obtain⟨x,c⟩:=full i (zAj.mp b) (λz=>by cases z);exact⟨x,(K.h.2 x).mpr ⟨i,zAj.mp b,c⟩,c⟩) λi b j p x=>K.o.inj i j x (zAj.mp b) (zAj.mp p);rw[zB0] at this;rw[zA6];simp only[zAp,Mb];lia|false=>
  have w:∀m,m<=hm k->(∀e,m<=e->e<n->∃x,g e=some x)->∃q,q<=hm k/\(∀e,q<=e->e<n->∃x,g e=some x)/\(q=0∨g (q-1)=none):=by intro m;induction m with|zero=>exact λd a=>⟨0,d,a,.inl rfl⟩|succ m A=>intro d a;cases h:g m with|none=>exact⟨m+1,d,a,.inr h⟩|some x=>refine A ⋯ λe f r=>?_;by_cases q:e=m;{rw[q];exact⟨x,h⟩};exact a e ⋯ r
  obtain⟨q,B,C,l⟩:=w (hm k) (zA2 _) λe f r=>full e r λ_=>f;refine⟨q,⋯,?_⟩;rw[if_neg ∅];have:=qW9 (g:=g) ((Lh (n-q)).map (q + ·)) (S.filter (λk=>decide (q<=hm k))) qaf4 (λi b=>by obtain⟨d,a⟩:=qQ7 b;obtain⟨x,c⟩:=C i d a;refine⟨x,zB2.mpr ⟨(K.h.2 x).mpr ⟨i,a,c⟩,zAf ?_⟩,c⟩;have D:=K.o.home x;have s:=K.ln rfl i x a c;refine zC3 λE=>?_;rcases l with l|l;{lia};obtain⟨y,t,_⟩:=K.o.path' (i:=q-1) a ⋯ c (by have G:=dor n (hm x) (q-1);have H:=dor n (hm x) i;lia);rw[l] at t;cases t) λi b j p x=>K.o.inj i j x (qQ7 b).2 (qQ7 p).2;rw[zA9,zB0] at this;have F:([k].filter (λk=>decide (q<=hm k))).length=1:=by simp[B]
  rw[Mi,zA6,F];lia
theorem Crowd.mono{S T:List Int}(h:Crowd n wr hm S q)(a:S.Sublist T):Crowd n wr hm T q:=by obtain⟨b,h⟩:=h;refine⟨b,?_⟩;cases wr with|true=>rw[if_pos rfl] at h ⊢;have:=a.length_le;exact⟨h.1,⋯⟩|false=>rw[if_neg ∅] at h ⊢;have:=(a.filter (λk=>decide (q<=hm k))).length_le;lia
theorem Crowd.perm{S T:List Int}(h:Crowd n wr hm S q)(a:S.Perm T):Crowd n wr hm T q:=by obtain⟨b,h⟩:=h;refine⟨b,?_⟩;rw[<-a.length_eq,<-(a.filter _).length_eq];exact h
theorem Kept.none(a:0<n)(b:∀k,hm k<n):Kept n wr hm (λ_=>none) []:=⟨⟨b,(λ_ _ _ _ _ h=>by cases h),λ_ _ _ h=>by cases h⟩,⟨0,a,λ_ h=>by cases h⟩,⟨Nk,λk=>⟨λh=>by simp at h,λ⟨_,_,h⟩=>by cases h⟩⟩,λ_ _ _ _ h=>by cases h⟩
theorem Kept.same(K:Kept n wr hm g S)(K':Kept n wr hm g' S')(a:∀k,k∈S↔k∈S'):∀j,j<n->g j=g' j:=qaG3 K.o K'.o K.c K'.c K.h ⟨K.h.1,λk=>(a k).trans (K'.h.2 k)⟩
end
noncomputable def rot(n s t:Nat):Nat:=if s+t<n then s+t else s+t-n
theorem qS9(a:s<n)(b:t<n):rot n s t<n:=by unfold rot;split<;>lia
theorem qr1(a:s<n)(b:t<n):Aa n s (rot n s t)=t:=by have d:=dor n s (rot n s t);unfold rot at d ⊢;split at d<;>split<;>lia
theorem qq1(a:s<n)(hi:i<n):rot n s (Aa n s i)=i:=by have d:=dor n s i;unfold rot;split<;>lia
theorem qay3(a:s<n)(b:t<n):(s+t)%n=rot n s t:=by unfold rot;split;{exact zCw (by assumption)};rw[Nat.mod_eq_sub_mod ⋯];exact zCw ⋯
def Ax(n:Nat)(g:Nat->Option Int)(r J:Nat):Nat->Option Int:=λi=>if Aa n r i<J then g (next n i) else if Aa n r i=J then none else g i
structure Sh(n:Nat)(hm:Int->Nat)(g:Nat->Option Int)(r J:Nat):Prop where
 hJ:J<n
 mv:∀t,1<=t->t<=J->∃x,g (rot n r t)=some x/\0<Aa n (hm x) (rot n r t)
section
variable{n:Nat}{wr:Bool}{hm:Int->Nat}{g:Nat->Option Int}{r J:Nat}{k:Int}{S:List Int}
theorem qah6(a:r<n):rot n r 0=r:=by unfold rot;rw[if_pos ⋯];rfl
theorem qB8(a:r<n)(b:t+1<n):next n (rot n r t)=rot n r (t+1):=by
 unfold rot next
 split<;>split<;>split<;>lia
theorem qw2(a:r<n)(b:J+1=n):next n (rot n r J)=r:=by
 unfold rot next
 split<;>split<;>lia
theorem Sh.start(a:r<n):Sh n hm g r 0:=⟨⋯,λt b c=>⋯⟩
theorem Sh.step(h:Sh n hm g r J)(a:J+1<n)(b:g (rot n r (J+1))=some x)(c:0<Aa n (hm x) (rot n r (J+1))):Sh n hm g r (J+1):=⟨a,λt d f=>by
 by_cases e:t=J+1
 . subst e;exact⟨x,b,c⟩
 exact h.mv t d ⋯⟩
theorem qy7(a:r<n)(hi:i<n):Ax n g r 0 i=if i=r then none else g i:=by unfold Ax;rw[if_neg ⋯];by_cases e:i=r;{rw[if_pos e,if_pos ((qc1 a hi).mpr e)]};rw[if_neg e,if_neg λz=>e ((qc1 a hi).mp z)]
theorem qL4(a:r<n)(b:J<n):Ax n g r J (rot n r J)=none:=by unfold Ax;rw[qr1 a b,if_neg ⋯,if_pos rfl]
theorem qy8(a:r<n)(b:J+1<n):Ax n g r J (rot n r (J+1))=g (rot n r (J+1)):=by unfold Ax;rw[qr1 a b,if_neg ⋯,if_neg ⋯]
theorem qF3(a:r<n)(b:0<J):Ax n g r J r=g (next n r):=by unfold Ax;rw[(qc1 a a).mpr rfl,if_pos b]
theorem qag6(a:r<n)(d:J+1<n)(hi:i<n):Ax n g r (J+1) i=if i=rot n r (J+1) then none else if i=rot n r J then g (rot n r (J+1)) else Ax n g r J i:=by have j:=qr1 a d;have e2:=qr1 a (show J<n by lia);by_cases b:i=rot n r (J+1);{rw[if_pos b,b];exact qL4 a d};rw[if_neg b];have f:Aa n r i≠J+1:=λz=>b (by rw[<-z,qq1 a hi]);by_cases c:i=rot n r J;{rw[if_pos c,c];unfold Ax;rw[e2,if_pos ⋯,qB8 a d]};rw[if_neg c];have h:Aa n r i≠J:=λz=>c (by rw[<-z,qq1 a hi]);unfold Ax;by_cases e:Aa n r i<J;{rw[if_pos e,if_pos ⋯]};rw[if_neg e,if_neg ⋯,if_neg f,if_neg h]
theorem Sh.round(h:Sh n hm g r J)(O:Ord n hm g)(C:Hx n hm g)(d:r<n)(j:g r=some k)(u:J+1=n)(l:g (next n r)=some x)(v:0<J):Aa n (hm x) r=0:=by
 obtain⟨i,a,m⟩:=C;have f:i=r:=by by_cases e:i=r;{exact e};have w:=qi5 a d;have A:Aa n r i≠0:=λz=>e ((qc1 d a).mp z);obtain⟨y,b,c⟩:=h.mv (Aa n r i) ⋯ ⋯;rw[qq1 d a] at b c;have:=(qc1 (O.home y) a).mpr (m y b).symm;lia
 subst f;have s:=(qc1 (O.home k) a).mpr (m k j).symm;have o:next n i=rot n i 1:=by have:=qB8 (t:=0) a ⋯;rwa[qah6 a] at this
 obtain⟨y,b,c⟩:=h.mv 1 (zA2 _) ⋯;rw[<-o,l] at b;cases b;rw[<-o] at c;obtain⟨z,p,q⟩:=O.ord (next n i) x (qm2 a) l c;rw[qk8 a,j] at p;cases p;rw[qk8 a] at q;unfold ahead at q;lia
def Stop(n:Nat)(wr:Bool)(hm:Int->Nat)(g:Nat->Option Int)(r J:Nat):Prop:=(wr=false/\rot n r J+1=n)∨∀x,Ax n g r J (next n (rot n r J))=some x->Aa n (hm x) (next n (rot n r J))=0
theorem Kept.taken(K:Kept n wr hm g S)(m:r<n)(E:g r=some k)(h:Sh n hm g r J)(st:Stop n wr hm g r J):Kept n wr hm (Ax n g r J) (S.filter λx=>decide (x≠k)):=by
 have N:=h.hJ;have O:=K.o;have F:∀i x,i<n->Aa n r i<J->g (next n i)=some x->Aa n r (next n i)=Aa n r i+1/\0<Aa n (hm x) (next n i)/\Aa n (hm x) i+1=Aa n (hm x) (next n i):=λi x f H l=>by have e:=ql7 m f ⋯;obtain⟨y,u,C⟩:=h.mv (Aa n r i+1) ⋯ ⋯;rw[<-e,qq1 m (qm2 f)] at u C;rw[l] at u;cases u;have:=qe2 (O.home x) (qm2 f) C;rw[qk8 f] at this;exact⟨e,C,⋯⟩
 have w:∀i x,i<n->Ax n g r J i=some x->(Aa n r i<J/\g (next n i)=some x)∨(J<Aa n r i/\g i=some x):=λi x f l=>by unfold Ax at l;split at l;{exact .inl ⟨by assumption,l⟩};split at l;{cases l};exact .inr ⟨⋯,l⟩
 have A:∀i x,i<n->Ax n g r J i=some x->∃j,j<n/\g j=some x/\j≠r/\(j=next n i/\Aa n r i<J∨j=i/\J<Aa n r i):=λi x f l=>by rcases w i x f l with⟨s,q⟩|⟨s,q⟩;{refine⟨next n i,qm2 f,q,λz=>?_,.inl ⟨rfl,s⟩⟩;have e:=ql7 m f ⋯;rw[z,(qc1 m m).mpr rfl] at e;lia};refine⟨i,f,q,λz=>?_,.inr ⟨rfl,s⟩⟩;rw[z,(qc1 m m).mpr rfl] at s;lia
 refine⟨⟨O.home,λi j x f t s q=>?_,λi x f l H=>?_⟩,?_,⟨K.h.1.filter _,λx=>?_⟩,λI i x f l=>?_⟩;{obtain⟨a,v,U,na,V⟩:=A i x f s;obtain⟨b,L,W,nb,X⟩:=A j x t q;have:=O.inj a b x v L U W;subst this;rcases V with⟨D,P⟩|⟨D,P⟩<;>rcases X with⟨e2,Q⟩|⟨e2,Q⟩;{have:=congrArg (prev n) (D.symm.trans e2);rwa[qk8 f,qk8 t] at this};{have e:=ql7 m f ⋯;rw[<-D,e2] at e;lia};{have e:=ql7 m t ⋯;rw[<-e2,D] at e;lia};rw[<-D,<-e2]}
 .rcases w i x f l with⟨s,q⟩|⟨s,q⟩
  .obtain⟨e,C,Y⟩:=F i x f s q;obtain⟨y,u,v⟩:=O.ord (next n i) x (qm2 f) q C;rw[qk8 f] at u v;have G:0<Aa n (hm y) i:=by unfold ahead at v;lia
   have D:=qe2 (O.home x) f H;have e2:=qe2 (O.home y) f G;have Z:=qj3 f;by_cases e0:Aa n r i=0
   .have:=(qc1 m f).mp e0;subst this;have hlast:Aa n i (prev n i)=n-1:=by have d:=dor n i (prev n i);have p:=por n i;lia
    by_cases M:J+1=n;{have:=h.round O K.c f E M q ⋯;lia};rw[E] at u;cases u;obtain⟨z,hz,L⟩:=O.ord i k f E G;refine⟨z,?_,?_⟩;{unfold Ax;rw[hlast,if_neg ⋯,if_neg ⋯];exact hz};refine qv9 L ?_;unfold ahead at v ⊢;lia
   have R:=qe2 m f ⋯;refine⟨y,?_,?_⟩;{unfold Ax;rw[R,if_pos ⋯,qI8 f];exact u};unfold ahead at v ⊢;lia
  obtain⟨y,u,v⟩:=O.ord i x f q H;refine⟨y,?_,v⟩;have R:=qe2 m f ⋯;by_cases T:Aa n r (prev n i)=J
  .exfalso;have ei:prev n i=rot n r J:=by rw[<-T,qq1 m (qj3 f)]
   have en:next n (rot n r J)=i:=by rw[<-ei,qI8 f]
   rcases st with⟨I,hl⟩|st
   .have:i=0:=by have p:=nor n (rot n r J);lia
    subst this;have:=K.ln I 0 x f q;have d:=dor n (hm x) 0;lia
   rw[en] at st;have:=st x l;lia
  unfold Ax;rw[if_neg ⋯,if_neg T];exact u
 {exact⟨rot n r J,qS9 m N,λx l=>by rw[qL4 m N] at l;cases l⟩};{rw[zB2,K.h.2 x,zBh];constructor;{rintro⟨⟨j,t,B⟩,ne⟩;have jr:j≠r:=λz=>ne (by rw[z,E] at B;exact(N5 B).symm);have d0:Aa n r j≠0:=λz=>jr ((qc1 m t).mp z);by_cases H:Aa n r j<=J;{have e:=qe2 m t ⋯;refine⟨prev n j,qj3 t,?_⟩;unfold Ax;rw[e,if_pos ⋯,qI8 t];exact B};refine⟨j,t,?_⟩;unfold Ax;rw[if_neg ⋯,if_neg ⋯];exact B};rintro⟨i,f,l⟩;obtain⟨j,t,B,nj,_⟩:=A i x f l;refine⟨⟨j,t,B⟩,λz=>?_⟩;subst z;exact nj (O.inj j r x t m B E)};rcases w i x f l with⟨s,q⟩|⟨s,q⟩;{obtain⟨e,C,Y⟩:=F i x f s q;have:=K.ln I (next n i) x (qm2 f) q;have nn:=nor n i;have P:=dor n (hm x) (next n i);have Q:=dor n (hm x) i;lia};exact K.ln I i x f q
end
def Jb(hm:Int->Nat)(x y:Int):Prop:=hm x<hm y∨(hm x=hm y/\x<y)
structure Fill(n:Nat)(hm:Int->Nat)(g:Nat->Option Int)(S:List Int)(top:Nat):Prop where
 k:Kept n false hm g S
 free:∀i,top<=i->i<n->g i=none
 last:0<top->∃x,g (top-1)=some x/\x∈S
 le:top<=n
theorem Fill.start(a:0<n)(b:∀k,hm k<n):Fill n hm (λ_=>none) [] 0:=⟨Kept.none a b,λ_ _ _=>rfl,λh=>absurd h ⋯,⋯⟩
section
variable{n:Nat}{hm:Int->Nat}{g:Nat->Option Int}{S:List Int}{top:Nat}{k:Int}
theorem Fill.put(F:Fill n hm g S top)(l:¬k∈S)(C:∀x∈S,Jb hm x k)(m:max top (hm k)<n):Fill n hm (set g (max top (hm k)) k) (S++[k]) (max top (hm k)+1):=by
 generalize J:max top (hm k)=r at m ⊢;have p:top<=r:=⋯;have q:hm k<=r:=⋯;have D:g r=none:=F.free r p m;have below:∀i x,i<n->g i=some x->i<top:=λi x b a=>by by_cases h:top<=i;{rw[F.free i h b] at a;cases a};lia
 have s:∀i x,i<n->set g r k i=some x->hm x<=i:=λi x b a=>by by_cases e:i=r;{subst e;rw[qc2] at a;cases a;exact q};rw[qd7 e] at a;exact F.k.ln rfl i x b a
 have mem:∀i x,i<n->g i=some x->x∈S:=λi x b a=>(F.k.h.2 x).mpr ⟨i,b,a⟩;refine⟨⟨⟨F.k.o.home,λi j x b z a d=>?_,λi x b a t=>?_⟩,⟨0,⋯,λx E=>?_⟩,⟨?_,λx=>⟨λc=>?_,λ⟨i,b,a⟩=>?_⟩⟩,λ_ i x b a=>s i x b a⟩,λi b G=>?_,λ_=>⟨k,by rw[Nat.add_sub_cancel,qc2],zAw _ (zA8.mpr rfl)⟩,⋯⟩;{by_cases u:i=r;{by_cases e2:j=r;{rw[u,e2]};subst u;rw[qc2] at a;cases a;rw[qd7 e2] at d;exact absurd (mem j _ z d) l};rw[qd7 u] at a;by_cases e2:j=r;{subst e2;rw[qc2] at d;cases d;exact absurd (mem i _ b a) l};rw[qd7 e2] at d;exact F.k.o.inj i j x b z a d}
 .have c:=s i x b a;have K:i≠0:=λe=>by have:=(qc1 (F.k.o.home x) b).mpr ⋯;lia
  have A:prev n i=i-1:=by rcases por n i with h|h<;>lia
  by_cases e:i=r
  .subst e;rw[qc2] at a;cases a;have H:hm k<i:=by unfold Aa at t;split at t<;>lia
   have B:top=i:=⋯;obtain⟨y,f,v⟩:=F.last ⋯;have w:hm y<=i-1:=F.k.ln rfl (i-1) y ⋯ (by rw[<-B];exact f);refine⟨y,by rw[A,qd7 ⋯,<-B];exact f,?_⟩;rw[A];unfold ahead Aa;rw[if_pos ⋯,if_pos w];rcases C y v with h|h;{exact .inl ⋯};exact .inr ⟨⋯,h.2⟩
  rw[qd7 e] at a;have L:=below i x b a;obtain⟨y,f,I⟩:=F.k.o.ord i x b a t;exact⟨y,by rw[qd7 ⋯];exact f,I⟩
 {have:=s 0 x ⋯ E;lia};{refine zBg.mpr ⟨F.k.h.1,(by simp),λx c y v e=>?_⟩;rw[zA8.mp v] at e;exact l (e ▸ c)};{rcases zAb.mp c with c|c;{obtain⟨i,b,a⟩:=(F.k.h.2 x).mp c;exact⟨i,b,by rw[qd7 λe=>by rw[e,D] at a;cases a];exact a⟩};rw[zA8.mp c];exact⟨r,m,qc2⟩};{by_cases e:i=r;{subst e;rw[qc2] at a;cases a;exact zAw _ (zA8.mpr rfl)};rw[qd7 e] at a;exact zC4 _ (mem i x b a)};rw[qd7 ⋯];exact F.free i ⋯ G
theorem Fill.room(F:Fill n hm g S top)(i:∀x∈S,Jb hm x k)(j:∀q,¬Crowd n false hm (S++[k]) q):max top (hm k)<n:=by
 have u:=F.k.o.home k;have l:=F.le;by_cases h:top<n;{lia};have v:top=n:=⋯;obtain⟨q,c⟩:=F.k.crowd (k:=k) λe ⟨m,b,a⟩=>by
  have a:=a rfl;obtain⟨y,d,p⟩:=F.last ⋯;have f:=F.k.ln rfl (top-1) y ⋯ d;have r:hm y<=hm k:=by rcases i y p with h|h<;>lia
  by_cases s:e=top-1;{rw[s,d] at b;cases b};obtain⟨x,t,_⟩:=F.k.o.path' ⋯ m d (show Aa n (hm y) e<Aa n (hm y) (top-1) by unfold Aa;rw[if_pos ⋯,if_pos f];lia);rw[t] at b;cases b
 exact absurd c (j q)
end
noncomputable def Fj(hm:Int->Nat)(T:List Int)(r:Nat):Nat:=(T.filter λk=>decide (hm k=r)).length
noncomputable def Ey(hm:Int->Nat)(T:List Int)(q r:Nat):Nat:=(T.filter λk=>decide (q<=hm k/\hm k<r)).length
theorem qaa0{hm:Int->Nat}{q r:Nat}(h:q<=r):∀T:List Int,Ey hm T q (r+1)=Ey hm T q r+Fj hm T r|[]=>rfl|k::T=>by have a:=qaa0 (hm:=hm) h T;unfold Ey Fj at a ⊢;simp only[Mm,zBh];split<;>split<;>split<;>(try simp only[zAp])<;>lia
theorem qaw3(T:List Int):Ey hm T r r=0:=by unfold Ey;rw[List.length_eq_zero_iff,List.filter_eq_nil_iff];intro k _ h;have:=zAd h;lia
section
variable{n:Nat}{hm:Int->Nat}{g:Nat->Option Int}{S:List Int}{k:Int}
theorem Kept.len(KP:Kept n wr hm g S):S.length<=n:=by
 have:=qF8 (g:=g) (Lh n) S KP.h.1 λk a=>by obtain⟨i,b,e⟩:=(KP.h.2 k).mp a;exact⟨i,zAj.mpr b,e⟩
 rwa[zB0] at this
end
noncomputable def onC(c:Nat->Nat):Nat->Int|0=>0|r+1=>if onC c r+(c r:Int)-1>0 then onC c r+(c r:Int)-1 else 0
noncomputable def sumC(c:Nat->Nat)(q:Nat):Nat->Nat|0=>0|m+1=>sumC c q m+c (q+m)
section
variable{c:Nat->Nat}
theorem qM3:∀r:Nat,0<=onC c r|0=>Int.le_refl _|r+1=>by unfold onC;split<;>lia
theorem qaG5{q:Nat}:∀m:Nat,(sumC c q m:Int)-(m:Int)<=onC c (q+m)|0=>by have:=qM3 (c:=c) q;show ((0:Nat):Int)-_<=_;rw[Nat.add_zero];lia|m+1=>by have:=qaG5 (q:=q) m;show ((sumC c q m+c (q+m):Nat):Int)-_<=onC c (q+m+1);unfold onC;split<;>lia
theorem qaG6:∀r:Nat,onC c r=0∨∃q m,q+m=r/\0<m/\onC c r=(sumC c q m:Int)-(m:Int)|0=>.inl rfl|r+1=>by by_cases h:onC c r+(c r:Int)-1>0;{right;have e:onC c (r+1)=onC c r+(c r:Int)-1:=if_pos h;rcases qaG6 r with b|⟨q,m,a,d,f⟩;{exact⟨r,1,rfl,⋯,by rw[e];show _=((0+c (r+0):Nat):Int)-_;rw[Nat.add_zero];lia⟩};exact⟨q,m+1,⋯,⋯,by rw[e];show _=((sumC c q m+c (q+m):Nat):Int)-_;rw[a];lia⟩};exact .inl (if_neg h)
theorem qaf8{q m:Nat}:∀l:Nat,sumC c q (m+l)=sumC c q m+sumC c (q+m) l|0=>rfl|l+1=>by show sumC c q (m+l)+c (q+(m+l))=sumC c q m+(sumC c (q+m) l+c (q+m+l));rw[qaf8 l,show q+(m+l)=q+m+l by lia];lia
end
section
variable{n b:Nat}{hm:Int->Nat}{T:List Int}
def cR(n:Nat)(hm:Int->Nat)(T:List Int):Nat->Nat:=λt=>Fj hm T (t%n)
theorem qbf2:cR n hm T (n+t)=cR n hm T t:=by unfold cR;rw[Nat.add_mod_left]
theorem qay0{q:Nat}:∀m,sumC (cR n hm T) (n+q) m=sumC (cR n hm T) q m|0=>rfl|m+1=>by show sumC _ (n+q) m+cR n hm T (n+q+m)=_;rw[qay0 m,Nat.add_assoc,qbf2];rfl
theorem qH2{s q:Nat}(a:b<n)(c:s%n=b)(d:∀k,hm k<n):∀m,q+m<=n->sumC (cR n hm T) (s+q) m=Ey (λk=>Aa n b (hm k)) T q (q+m)
 |0,_=>by rw[Nat.add_zero,qaw3];rfl|m+1,h=>by
  show sumC _ (s+q) m+cR n hm T (s+q+m)=_;rw[qH2 a c d m ⋯,show q+(m+1)=q+m+1 by lia,qaa0 ⋯];congr 1;unfold cR Fj;congr 1;refine Lz λk _=>zCd.mpr ?_;have e:(s+q+m)%n=rot n b (q+m):=by rw[Nat.add_assoc,Nat.add_mod,c,zCw (show q+m<n by lia),qay3 a ⋯]
  rw[e];constructor;{intro z;show Aa n b (hm k)=_;rw[z,qr1 a ⋯]};intro z;rw[<-show Aa n b (hm k)=_ from z,qq1 a (d k)]
theorem qaK9(a:∀k,hm k<n):Ey hm T 0 n=T.length:=by unfold Ey;rw[List.filter_eq_self.mpr λk _=>zAf ⟨zBb _,a k⟩]
theorem qaM9(a:0<n)(c:∀k,hm k<n):sumC (cR n hm T) 0 n=T.length:=by have:=qH2 (T:=T) (s:=0) (q:=0) (b:=0) a (Nat.zero_mod n) c n ⋯;rw[Nat.add_zero,zAe] at this;rw[this];refine(qaK9 (hm:=λk=>Aa n 0 (hm k)) λk=>qi5 (c k) a)
theorem qat2(f:0<n)(a:∀k,hm k<n):0<onC (cR n hm T) n↔∃q,Crowd n false hm T q:=by
 have e:∀q,q<=n->sumC (cR n hm T) q (n-q)=(T.filter λk=>decide (q<=hm k)).length:=λq d=>by have:=qH2 (T:=T) (s:=0) (q:=q) (b:=0) f (Nat.zero_mod n) a (n-q) ⋯;rw[zAe,show q+(n-q)=n by lia] at this;rw[this];unfold Ey;congr 2;exact funext λk=>zCd.mpr (by have:=a k;have i:Aa n 0 (hm k)=hm k:=if_pos (zBb _);dsimp only;lia)
 constructor;{intro h;rcases qaG6 (c:=cR n hm T) n with j|⟨q,m,d,g,l⟩;{lia};refine⟨q,⋯,?_⟩;rw[if_neg ∅,<-e q ⋯,show n-q=m by lia];lia};rintro⟨q,d,h⟩;rw[if_neg ∅,<-e q ⋯] at h;have:=qaG5 (c:=cR n hm T) (q:=q) (n-q);rw[show q+(n-q)=n by lia] at this;lia
theorem qaG4(i:0<n)(j:∀k,hm k<n)(w:T.length<=n):∃r,r<n/\onC (cR n hm T) (n+r+1)=0:=by
 by_cases h:∃r,r<n/\onC (cR n hm T) (n+r+1)=0;{exact h};exfalso;have pos:∀r,r<n->0<onC (cR n hm T) (n+r+1):=λr g=>by have:=qM3 (c:=cR n hm T) (n+r+1);have:onC (cR n hm T) (n+r+1)≠0:=λe=>h ⟨r,g,e⟩;lia
 have a:∀r,r<=n->onC (cR n hm T) (n+r)=onC (cR n hm T) n+(sumC (cR n hm T) n r:Int)-(r:Int):=λr=>by
  induction r with
  |zero=>intro _;show _=_+((0:Nat):Int)-_;rw[Nat.add_zero];lia|succ r l=>
   intro g;have d:=pos r ⋯;have x:=l ⋯;have e:onC (cR n hm T) (n+r+1)=if onC (cR n hm T) (n+r)+(cR n hm T (n+r):Int)-1>0 then onC (cR n hm T) (n+r)+(cR n hm T (n+r):Int)-1 else 0:=rfl
   show onC (cR n hm T) (n+r+1)=_+((sumC (cR n hm T) n r+cR n hm T (n+r):Nat):Int)-_;rw[e] at d ⊢;split at d;{rw[if_pos (by assumption)];lia};lia
 have sa:=qaM9 (T:=T) i j;have b:∀m,sumC (cR n hm T) n m=sumC (cR n hm T) 0 m:=λm=>qay0 (q:=0) m;have e2:=a n (zA2 _);have o:=pos (n-1) ⋯;rw[show n+(n-1)+1=n+n by lia] at o;rw[b] at e2;rcases qaG6 (c:=cR n hm T) n with y|⟨q,m,p,s,d⟩;{lia};have t:=a q ⋯;rw[b] at t;have u:=qaf8 (c:=cR n hm T) (q:=0) (m:=q) m;rw[zAe,p] at u;by_cases f:q=0;{subst f;have:sumC (cR n hm T) 0 0=0:=rfl;lia};have v:=pos (q-1) ⋯;rw[show n+(q-1)+1=n+q by lia] at v;lia
theorem qM9(f:r<n)(a:∀k,hm k<n)(d:onC (cR n hm T) (n+r+1)=0):∀q,¬Crowd n false (λk=>Aa n ((r+1)%n) (hm k)) T q:=by
 rintro q ⟨h,c⟩;have b:(r+1)%n<n:=Nat.mod_lt _ ⋯;rw[if_neg ∅] at c;have e:=qH2 (T:=T) (s:=r+1) (q:=q) b rfl a (n-q) ⋯;have g:=qaG5 (c:=cR n hm T) (q:=r+1+q) (n-q);rw[show r+1+q+(n-q)=n+r+1 by lia,d,e,show q+(n-q)=n by lia] at g;have e2:Ey (λk=>Aa n ((r+1)%n) (hm k)) T q n=(T.filter λk=>decide (q<=Aa n ((r+1)%n) (hm k))).length:=by unfold Ey;congr 2;exact funext λk=>zCd.mpr (by have:=qi5 (a k) b;dsimp only;lia)
 have c:=e2 ▸ c;generalize Ey _ T q n=m at *
 lia
theorem Kept.turn(c:b<n)(p:∀k,hm k<n)(K:Kept n false (λk=>Aa n b (hm k)) g S):Kept n true hm (λi=>g (Aa n b i)) S:=by
 have f:∀i,i<n->Aa n b i<n:=λi a=>qi5 a c;have l:∀i x,i<n->g (Aa n b i)=some x->Aa n b (hm x)+Aa n (hm x) i=Aa n b i:=λi x a d=>Dx c (p x) a (K.ln rfl _ x (f i a) d);refine⟨⟨p,λi j x a m d u=>qi9 c a m (K.o.inj _ _ x (f i a) (f j m) d u),λi x a d v=>?_⟩,⟨b,c,λx w=>?_⟩,⟨K.h.1,λx=>⟨λA=>?_,λ⟨i,a,d⟩=>(K.h.2 x).mpr ⟨_,f i a,d⟩⟩⟩,λh=>nomatch h⟩
 .have f1:=l i x a d;have q:=K.ln rfl _ x (f i a) d;have B:Aa n (Aa n b (hm x)) (Aa n b i)=Aa n (hm x) i:=by unfold Aa at q ⊢;rw[if_pos q];unfold Aa at f1;lia
  obtain⟨y,r,s⟩:=K.o.ord _ x (f i a) d (by rw[B];exact v);have C:prev n (Aa n b i)=Aa n b (prev n i):=by rw[qe2 c a ⋯];rcases por n (Aa n b i) with h|h<;>lia
  rw[C] at r s;have t:=qj3 a;have f2:=l (prev n i) y t r;have D:=K.ln rfl _ y (f _ t) r;have f3:Aa n b (hm x)+Aa n (hm x) (prev n i)=Aa n b (prev n i):=Dx c (p x) t (by rw[qe2 c a ⋯];lia);refine⟨y,r,?_⟩;have E:Aa n (Aa n b (hm y)) (Aa n b (prev n i))=Aa n (hm y) (prev n i):=by have:Aa n (Aa n b (hm y)) (Aa n b (prev n i))=Aa n b (prev n i)-Aa n b (hm y):=if_pos D;lia
  have F:Aa n (Aa n b (hm x)) (Aa n b (prev n i))=Aa n (hm x) (prev n i):=by have:Aa n (Aa n b (hm x)) (Aa n b (prev n i))=Aa n b (prev n i)-Aa n b (hm x):=if_pos ⋯;lia
  unfold ahead at s ⊢;rwa[E,F] at s
 {have q:=K.ln rfl _ x (f b c) w;have z:Aa n b b=0:=(qc1 c c).mpr rfl;rw[z] at q;exact(qc1 c (p x)).mp ⋯};obtain⟨j,m,e⟩:=(K.h.2 x).mp A;exact⟨rot n b j,qS9 c m,by show g (Aa n b (rot n b j))=_;rw[qr1 c m];exact e⟩
end
theorem Kept.of_perm(K:Kept n wr hm g S)(p:S.Perm T):Kept n wr hm g T:=⟨K.1,K.2,⟨p.nodup_iff.mp K.h.1,λk=>p.mem_iff.symm.trans (K.h.2 k)⟩,K.4⟩
theorem Hd:Aa n 0 i=i:=if_pos (zBb _)
theorem qaH3(b:a<n)(c:s<=n):((a:Int)-(s:Int))%(n:Int)=(Aa n (s%n) a:Nat):=by by_cases e:s=n;{subst e;rw[Nat.mod_self,Hd,Int.sub_emod_right];exact zCk ⋯ ⋯};rw[zCw (show s<n by lia)];unfold Aa;split;{rw[zCk ⋯ ⋯];lia};rw[<-Int.add_emod_right,zCk ⋯ ⋯];lia
end Row
namespace My
open PySem L2
variable{H:Hp}
noncomputable def Jc:V->Bool|.int _=>true|_=>false
noncomputable def qax4(l m:Int):V->Bool|.int i=>decide (l<=i)&&decide (i<=m)|_=>false
def numV:V->Bool:=qax4 0 1000000000000000000
theorem qaI3(h:Bn H x=some t):Hv t "int"=(Jc x||(match x with | .bl _=>true|_=>false)):=by cases x with|ref b=>unfold Bn at h;dsimp only at h;split at h<;>cases h<;>rfl|_=>cases h<;>rfl
theorem qau1(h:Bn H x=some t):Hv t "bool"=(match x with | .bl _=>true|_=>false):=by cases x with|ref b=>unfold Bn at h;dsimp only at h;split at h<;>cases h<;>rfl|_=>cases h<;>rfl
noncomputable def bagL(x y z:Int)(L:γ):HO:=.l [.int x,.int y,.int z,.ref L]
structure BagAt(H:Hp)(p:γ)(x y z:Int)(L:γ)(ns:List Int):Prop where
 at_:H p=some (bagL x y z L)
 li:H L=some (.l (ns.map V.int))
 x0:0<=x
 y0:0<=y
 y1:y<2147483647
 z0:0<=z
 nn:∀n∈ns,0<=n
def Bag(H:Hp)(p L:γ):Prop:=∃x y z ns,BagAt H p x y z L ns
theorem qbf6{ns:List Int}:HO.l (ns.map V.int)≠bagL x y z L:=by
 intro e;have e:ns.map V.int=[.int x,.int y,.int z,.ref L]:=by injection e
 have e:=congrArg (·[3]?) e;rw[zB5] at e;cases h:ns[3]? <;> rw[h] at e<;>cases e
theorem BagAt.ne(B:BagAt H p x y z L ns):L≠p:=ne_of B.li B.at_ qbf6
def qaY7(K:N7):Sp:=λvs H Q _=>∃(l:γ)(ns:List Int),vs=[.ref l]/\SqL K H l (ns.map V.int)/\ns.length<=63/\∀p L H',H p=none->H L=none->Same H H'->Bag H' p L->Q (.ref p) H'
def He(K:N7):Sp:=λvs H Q _=>∃(l:γ)(ns:List Int),vs=[.ref l]/\SqL K H l (ns.map V.int)/\ns.length<=63/\∀H',Q (.bl true) H'
abbrev Pr:=List (Int×Int)
def Ah(n:Int):Prop:=0<=n/\n<=1000000000000000000
theorem qaR5:numV (.int n)=true↔Ah n:=by show (decide (0<=n)&&decide (n<=1000000000000000000))=true↔_;rw[zBm,zBh,zBh];exact Iff.rfl
structure qK5(ps:Pr):Prop where
 len:ps.length<=64
 nd:(ps.map (·.1)).Nodup
 nums:∀p∈ps,Ah p.1/\Ah p.2
noncomputable def qb4(n:Int)(ps:Pr)(k:Int):Int:=((ps.lookup k).getD k)%n
def Ba(n:Int)(wr:Bool)(ps:Pr)(k r:Int):Option Int:=if wr then some ((r-qb4 n ps k)%n) else if 0<=r-qb4 n ps k then some (r-qb4 n ps k) else none
def qm4(n:Int)(wr:Bool)(ps:Pr)(r a other:Int):Bool:=match Ba n wr ps a r,Ba n wr ps other r with|none,_=>false|some _,none=>true|some x,some y=>decide (y<x)||(decide (x=y)&&decide (a<other))
theorem qan6(h:1<=n)(ps:Pr)(k:Int):0<=qb4 n ps k/\qb4 n ps k<n:=⟨zCq _ ⋯,zBy _ ⋯⟩
theorem qan2(k:Int)(ks:List Int):inV (.int k) (ks.map V.int)=decide (k∈ks):=by unfold inV;rw[Nq,Bool.eq_iff_iff,Nd,zBh];constructor;{rintro⟨x,a,e⟩;have e:(x==k)=true:=e;rw[<-zC1.mp e];exact a};intro h;exact⟨k,h,zBf k⟩
end My
namespace My
open PySem L2
open Row
variable{n:Int}{ps:Pr}{r:Nat}
def O5(n:Int)(ps:Pr)(k:Int):Nat:=(qb4 n ps k).toNat
theorem Eo(h:1<=n)(k:Int):O5 n ps k<n.toNat:=by have:=qan6 h ps k;unfold O5;lia
theorem qO3(h:1<=n)(k:Int):((O5 n ps k:Nat):Int)=qb4 n ps k:=by have:=qan6 h ps k;unfold O5;lia
theorem qav6(a:1<=n)(b:h<n.toNat)(c:r<n.toNat):((r:Int)-(h:Int))%n=(Aa n.toNat h r:Nat):=by
 rcases dor n.toNat h r with⟨h1,h2⟩|⟨h1,h2⟩;{rw[zCk ⋯ ⋯];lia};have e:((r:Int)-(h:Int))%n=((r:Int)-(h:Int)+n)%n:=by rw[Int.add_emod_right]
 rw[e,zCk ⋯ ⋯];have:=h2 ⋯;lia
theorem qO9(a:1<=n)(c:r<n.toNat)(d:wr=false->O5 n ps k<=r):Ba n wr ps k (r:Int)=some ((Aa n.toNat (O5 n ps k) r:Nat):Int):=by have e:=Eo (ps:=ps) a k;have b:=qO3 (ps:=ps) a k;unfold Ba;cases wr with|true=>rw[if_pos rfl,<-b,qav6 a e c]|false=>have:=d rfl;rw[if_neg ∅,if_pos ⋯,<-b];have:=dor n.toNat (O5 n ps k) r;congr 1;lia
theorem qK4(a:1<=n)(b:r<n.toNat)(c:wr=false->O5 n ps x<=r)(d:wr=false->O5 n ps y<=r):qm4 n wr ps (r:Int) x y=true↔ahead n.toNat (O5 n ps) r x y:=by unfold qm4 ahead;rw[qO9 a b c,qO9 a b d];show (decide _||(decide _&&decide _))=true↔_;simp only[Bool.or_eq_true,zBm,zBh];lia
theorem qaG9(a:1<=n)(b:r<n.toNat):((r:Int)+1)%n=(Row.next n.toNat r:Nat):=by rcases nor n.toNat r with⟨h,e⟩|⟨h,e⟩;{rw[e,show ((r:Int)+1)=n by lia];simp};rw[e,zCk ⋯ ⋯];rfl
end My
namespace LV
open PySem L2
variable{Ao:List γ}{N:List Str}{P:List V'->Prop}{Q:VK}{base:Heap}{cd:Kz}{cm z:Bool}{i j n:Nat}{kvs:List (Key×V)}{lo:Int}{mg:Str->Option V'}{op:CmpOp}{v w:V}{vs:List V}{α:Type}{a':St}
inductive D where
 |non|bl (b:Bool)|int (i:Int)|str (x:Str)|ty (n:String)|adr (a:γ)
 |q (ds:List D)|l (z:Bool) (ds:List D)|dct (z:Bool) (kvs:List (Key×D))|ins (z:Bool) (C:γ) (fs:List (Str×D))
 |scr (ns:List Int)
 |exn (C:γ) (fs:List (Str×D))
 |hole (v:V)|u
mutual
def D.imm:D->Bool|.q ds=>D.imms ds|.l z _=>z|.dct z _=>z|.ins z _ _=>z|_=>true
def D.imms:List D->Bool|[]=>true|d::r=>d.imm&&D.imms r
end
mutual
def D.fz:D->D|.q ds=>.q (D.fzs ds)|.l _ ds=>.l true (D.fzs ds)|.dct _ kvs=>.dct true (D.fzk kvs)|.ins _ C fs=>.ins true C (D.fzf fs)|.exn C fs=>.exn C (D.fzf fs)|.non=>.non | .bl b=>.bl b | .int i=>.int i | .str x=>.str x | .ty n=>.ty n | .adr a=>.adr a | .scr ns=>.scr ns | .hole v=>.hole v | .u=>.u
def D.fzs:List D->List D|[]=>[]|d::r=>d.fz::D.fzs r
def D.fzk:List (Key×D)->List (Key×D)|[]=>[]|(k,d)::r=>(k,d.fz)::D.fzk r
def D.fzf:List (Str×D)->List (Str×D)|[]=>[]|(k,d)::r=>(k,d.fz)::D.fzf r
end
mutual
inductive Pc(F:γ->Prop)(H:Hp):V->D->List γ->Prop
 |non:Pc F H .non .non []
 |bl (b:Bool):Pc F H (.bl b) (.bl b) []
 |int (i:Int):Pc F H (.int i) (.int i) []
 |str (x:Str):Pc F H (.str x) (.str x) []
 |ty (n:String):Pc F H (.ty n) (.ty n) []
 |adr (a:γ):Pc F H (.ref a) (.adr a) []
 |q {a:γ} {vs:List V} {ds:List D} {A:List γ} (h:H a=some (.q vs)) (r:O6 F H vs ds A):Pc F H (.ref a) (.q ds) A
 |l {a:γ} {vs:List V} {ds:List D} {A:List γ} (h:H a=some (.l vs)) (r:O6 F H vs ds A):Pc F H (.ref a) (.l false ds) (a::A)
 |lstZ {a:γ} {vs:List V} {ds:List D} (h:H a=some (.l vs)) (f:F a) (r:O6 F H vs ds []):Pc F H (.ref a) (.l true ds) []
 |dct {a:γ} {kvs:List (Key×V)} {kds:List (Key×D)} {A:List γ} (h:H a=some (.dK kvs)) (e:kvs.map (·.1)=kds.map (·.1)) (r:O6 F H (kvs.map (·.2)) (kds.map (·.2)) A):Pc F H (.ref a) (.dct false kds) (a::A)
 |dctZ {a:γ} {kvs:List (Key×V)} {kds:List (Key×D)} (h:H a=some (.dK kvs)) (f:F a) (e:kvs.map (·.1)=kds.map (·.1)) (r:O6 F H (kvs.map (·.2)) (kds.map (·.2)) []):Pc F H (.ref a) (.dct true kds) []
 |ins {a C dx:γ} {fvs:List (Str×V)} {fds:List (Str×D)} {A:List γ} (h:H a=some (.ins C dx fvs)) (e:fvs.map (·.1)=fds.map (·.1)) (r:O6 F H (fvs.map (·.2)) (fds.map (·.2)) A):Pc F H (.ref a) (.ins false C fds) (a::A)
 |insZ {a C dx:γ} {fvs:List (Str×V)} {fds:List (Str×D)} (h:H a=some (.ins C dx fvs)) (f:F a) (e:fvs.map (·.1)=fds.map (·.1)) (r:O6 F H (fvs.map (·.2)) (fds.map (·.2)) []):Pc F H (.ref a) (.ins true C fds) []
 |scr {a:γ} {o:Obj} {ns:List Int} (h:H a=some (.frz o (.l (ns.map V.int)))):Pc F H (.ref a) (.scr ns) []
 |exn {a C dx:γ} {fvs:List (Str×V)} {fds:List (Str×D)} (h:H a=some (ExcO a C (some dx) false)) (g:H dx=some (XD dx fvs)) (e:fvs.map (·.1)=fds.map (·.1)) (r:O6 F H (fvs.map (·.2)) (fds.map (·.2)) []):Pc F H (.ref a) (.exn C fds) []
 |hole (v:V):Pc F H v (.hole v) []
 |u (v:V):Pc F H v .u []
inductive O6(F:γ->Prop)(H:Hp):List V->List D->List γ->Prop
 |nil:O6 F H [] [] []
 |cons {v:V} {d:D} {A:List γ} {vs:List V} {ds:List D} {B:List γ} (h:Pc F H v d A) (t:O6 F H vs ds B):O6 F H (v::vs) (d::ds) (A++B)
end
noncomputable def Ef:HO->Bool|.l _=>true|.dK _=>true|.ins _ _ _=>true|_=>false
section
variable{F F':γ->Prop}{H H':Hp}
def Cel(H:Hp)(A:List γ):Prop:=∀b∈A,∃o,H b=some o/\Ef o=true
theorem Cel.cons(e:H a=some o)(m:Ef o=true)(h:Cel H A):Cel H (a::A):=λb c=>(zAi.mp c).elim (λq=>q ▸ ⟨_,e,m⟩) (h b)
theorem Cel.app(h:Cel H A)(g:Cel H B):Cel H (A++B):=λb a=>(zAb.mp a).elim (h b) (g b)
theorem Pc.cells{v:V}{d:D}{A:List γ}(r:Pc F H v d A):Cel H A:=by induction r using Pc.rec (motive_2:=λ_ _ A _=>Cel H A) with|q e r i=>exact i|l e r i=>exact Cel.cons e rfl i|dct e _ r i=>exact Cel.cons e rfl i|ins e _ r i=>exact Cel.cons e rfl i|cons _ _ i j=>exact Cel.app i j|_=>nofun
theorem O6.cells{vs:List V}{ds:List D}{A:List γ}(r:O6 F H vs ds A):Cel H A:=by induction r using O6.rec (motive_1:=λ_ _ _ _=>True) with|cons h _ i j=>exact Cel.app h.cells j|nil=>nofun|_=>trivial
structure Kp(F:γ->Prop)(H:Hp)(W F':γ->Prop)(H':Hp):Prop where
 fr:∀b o,H b=some o->¬W b->H' b=some o
 wm:∀b,W b->∃o,H b=some o/\Ef o=true
 wf:∀b,W b->¬F b
 mF:∀b,F b->F' b
theorem Kp.q{W:γ->Prop}(k:Kp F H W F' H'){a:γ}{vs:List V}(h:H a=some (.q vs)):H' a=some (.q vs):=by refine k.fr a _ h λw=>?_;obtain⟨o,e,m⟩:=k.wm a w;rw[h] at e;cases e;cases m
theorem Kp.imm(k:Kp F H W F' H')(h:H a=some o)(n:Ef o=false):H' a=some o:=by refine k.fr a _ h λw=>?_;obtain⟨o,e,m⟩:=k.wm a w;rw[h] at e;cases e;rw[n] at m;cases m
theorem Kp.frz(k:Kp F H W F' H')(h:H a=some (.frz o u)):H' a=some (.frz o u):=by refine k.fr a _ h λw=>?_;obtain⟨o,e,m⟩:=k.wm a w;rw[h] at e;cases e;cases m
theorem Pc.keep{W:γ->Prop}(k:Kp F H W F' H'){v:V}{d:D}{A:List γ}(r:Pc F H v d A):(∀b∈A,¬W b)->Pc F' H' v d A:=by induction r using Pc.rec (motive_2:=λa c A _=>(∀b∈A,¬W b)->O6 F' H' a c A) with|q e r i=>exact λh=>.q (k.q e) (i h)|l e r i=>exact λh=>.l (k.fr _ _ e (zB4.mp h).1) (i (zB4.mp h).2)|lstZ e f r i=>exact λh=>.lstZ (k.fr _ _ e λw=>k.wf _ w f) (k.mF _ f) (i h)|dct e q r i=>exact λh=>.dct (k.fr _ _ e (zB4.mp h).1) q (i (zB4.mp h).2)|dctZ e f q r i=>exact λh=>.dctZ (k.fr _ _ e λw=>k.wf _ w f) (k.mF _ f) q (i h)|ins e q r i=>exact λh=>.ins (k.fr _ _ e (zB4.mp h).1) q (i (zB4.mp h).2)|insZ e f q r i=>exact λh=>.insZ (k.fr _ _ e λw=>k.wf _ w f) (k.mF _ f) q (i h)|scr e=>exact λ_=>.scr (k.frz e)|exn e g q r i=>exact λh=>.exn (k.imm e rfl) (k.imm g rfl) q (i h)|cons _ _ i j h=>exact O6.cons (i (zBt.mp h).1) (j (zBt.mp h).2)|nil=>constructor|_=>intro;constructor
theorem O6.keep{W:γ->Prop}(k:Kp F H W F' H'){vs:List V}{ds:List D}{A:List γ}(r:O6 F H vs ds A):(∀b∈A,¬W b)->O6 F' H' vs ds A:=by induction r using O6.rec (motive_1:=λ_ _ _ _=>True) with|nil=>exact λ_=>O6.nil|cons r _ i j=>exact λh=>O6.cons (r.keep k (zBt.mp h).1) (j (zBt.mp h).2)|_=>trivial
theorem Kp.same(s:Same H H'):Kp F H (λ_=>False) F H':=⟨λb o e _=>s b o e,λ_ w=>w.elim,λ_ w=>w.elim,λ_ f=>f⟩
theorem Pc.same(r:Pc F H v d A)(s:Same H H'):Pc F H' v d A:=r.keep (Kp.same s) λ_ _=>id
theorem O6.same(r:O6 F H vs ds A)(s:Same H H'):O6 F H' vs ds A:=r.keep (Kp.same s) λ_ _=>id
theorem Kp.more(m:∀b,F b->F' b):Kp F H (λ_=>False) F' H:=⟨λb o e _=>e,λ_ w=>w.elim,λ_ w=>w.elim,m⟩
mutual
theorem Pc.imm{v:V}{d:D}{A:List γ}(r:Pc F H v d A)(h:d.imm=true):A=[]:=by cases r with|q e r=>exact r.imms h|l=>cases h|dct=>cases h|ins=>cases h|_=>rfl
theorem O6.imms{vs:List V}{ds:List D}{A:List γ}(r:O6 F H vs ds A)(h:D.imms ds=true):A=[]:=by cases r with|nil=>rfl|cons r t=>have h:=zAk.mp h;rw[r.imm h.1,t.imms h.2];rfl
end
theorem qY5(a:List (Key×D)):(D.fzk a).map (·.1)=a.map (·.1)/\(D.fzk a).map (·.2)=D.fzs (a.map (·.2)):=by induction a with|nil=>exact⟨rfl,rfl⟩|cons p r b=>obtain⟨k,d⟩:=p;simp only[D.fzk,D.fzs,zAz,b.1,b.2,and_self]
theorem qG7(a:List (Str×D)):(D.fzf a).map (·.1)=a.map (·.1)/\(D.fzf a).map (·.2)=D.fzs (a.map (·.2)):=by induction a with|nil=>exact⟨rfl,rfl⟩|cons p r b=>obtain⟨k,d⟩:=p;simp only[D.fzf,D.fzs,zAz,b.1,b.2,and_self]
theorem Pc.fz{v:V}{d:D}{A:List γ}(r:Pc F H v d A)(m:∀b,F b->F' b):(∀b∈A,F' b)->Pc F' H v d.fz []:=by induction r using Pc.rec (motive_2:=λa c A _=>(∀b∈A,F' b)->O6 F' H a (D.fzs c) []) with|q e r i=>exact λh=>.q e (i h)|l e r i=>exact λh=>.lstZ e (zB4.mp h).1 (i (zB4.mp h).2)|lstZ e f r i=>exact λh=>.lstZ e (m _ f) (i h)|dct e q r i=>exact λh=>.dctZ e (zB4.mp h).1 (q.trans (qY5 _).1.symm) ((qY5 _).2 ▸ i (zB4.mp h).2)|dctZ e f q r i=>exact λh=>.dctZ e (m _ f) (q.trans (qY5 _).1.symm) ((qY5 _).2 ▸ i h)|ins e q r i=>exact λh=>.insZ e (zB4.mp h).1 (q.trans (qG7 _).1.symm) ((qG7 _).2 ▸ i (zB4.mp h).2)|insZ e f q r i=>exact λh=>.insZ e (m _ f) (q.trans (qG7 _).1.symm) ((qG7 _).2 ▸ i h)|scr e=>exact λ_=>.scr e|exn e g q r i=>exact λh=>.exn e g (q.trans (qG7 _).1.symm) ((qG7 _).2 ▸ i h)|nil=>exact O6.nil|cons _ _ i j h=>exact O6.cons (A:=[]) (B:=[]) (i (zBt.mp h).1) (j (zBt.mp h).2)|_=>intro;constructor
end
theorem ec:∀{us:List V'},us.length=n+1->∃a vs,us=a::vs/\vs.length=n|a::vs,h=>⟨a,vs,rfl,Nat.succ.inj h⟩
theorem ec0(h:P [])(us:List V')(e:us.length=0):P us:=List.length_eq_zero_iff.mp e ▸ h
theorem ec1(h:∀x us,us.length=n->P (x::us))(us:List V')(e:us.length=n+1):P us:=by obtain⟨x,a,rfl,b⟩:=ec e;exact h x a b
theorem ec2(h:∀us,us.length=n->P us)(us:List V')(e:us.length+1=n+1):P us:=h us (Nat.succ.inj e)
inductive Locs(F:γ->Prop)(H:Hp):List (Option V)->List D->List γ->Prop
 |nil:Locs F H [] [] []
 |no {a:List (Option V)} {ds:List D} {A:List γ} (t:Locs F H a ds A):Locs F H (none::a) (.u::ds) A
 |so {v:V} {d:D} {B:List γ} {a:List (Option V)} {ds:List D} {A:List γ} (h:Pc F H v d B) (t:Locs F H a ds A):Locs F H (some v::a) (d::ds) (B++A)
section
variable{F F':γ->Prop}{H H':Hp}
theorem Locs.cells{n:List (Option V)}(r:Locs F H n ds A):∀b∈A,∃o,H b=some o/\Ef o=true:=by induction r with|nil=>intro b h;cases h|no t c=>exact c|so h t c=>intro b a;rcases zAb.mp a with a|a;{exact h.cells b a};exact c b a
theorem Locs.keep(k:Kp F H W F' H'){n:List (Option V)}(r:Locs F H n ds A):(∀b∈A,¬W b)->Locs F' H' n ds A:=by induction r with|nil=>exact λ_=>.nil|no t a=>exact λh=>.no (a h)|so h t a=>exact λq=>.so (h.keep k λb c=>q b (zAb.mpr (.inl c))) (a λb c=>q b (zAb.mpr (.inr c)))
theorem Locs.same{n:List (Option V)}(r:Locs F H n ds A)(s:Same H H'):Locs F H' n ds A:=r.keep (Kp.same s) λ_ _=>id
theorem Locs.len{n:List (Option V)}(r:Locs F H n ds A):n.length=ds.length:=by induction r with|nil=>rfl|no t a=>simp[a]|so h t a=>simp[a]
theorem Locs.append{n:List (Option V)}(r:Locs F H n ds A)(t:Locs F H τ es B):Locs F H (n++τ) (ds++es) (A++B):=by induction r with|nil=>exact t|no _ a=>exact .no a|so h _ a=>rw[zAs];exact .so h a
inductive Hf(F:γ->Prop)(H:Hp):Option V->D->List γ->Prop
 |no:Hf F H none .u []
 |so {v:V} {d:D} {B:List γ} (h:Pc F H v d B):Hf F H (some v) d B
theorem Locs.cons{n:List (Option V)}(h:Hf F H o d B)(t:Locs F H n ds A):Locs F H (o::n) (d::ds) (B++A):=by cases h with|no=>exact .no t|so h=>exact .so h t
theorem Locs.split:∀{ds:List D}{n:List (Option V)}{A:List γ}{i:Nat}{d:D},Locs F H n ds A->ds[i]?=some d->∃σ1 o σ2 ds1 a A1 B A2,n=σ1++o::σ2/\ds=ds1++d::a/\σ1.length=i/\ds1.length=i/\A=A1++(B++A2)/\Locs F H σ1 ds1 A1/\Hf F H o d B/\Locs F H σ2 a A2:=by
 intro ds;induction ds with
 |nil=>intro n A i d _ h;simp at h|cons e r m=>
  intro n A i d L h;cases i with
  |zero=>
   have:e=d:=by simpa using h
   subst this;cases L with|no t=>exact⟨[],none,_,[],_,[],[],_,rfl,rfl,rfl,rfl,rfl,.nil,.no,t⟩|so q t=>exact⟨[],some _,_,[],_,[],_,_,rfl,rfl,rfl,rfl,rfl,.nil,.so q,t⟩
  |succ i=>
   have h:r[i]?=some d:=by simpa using h
   cases L with|no t=>obtain⟨σ1,o,σ2,ds1,a,A1,B,A2,b,e2,c,f,g,j,k,l⟩:=m t h;exact⟨none::σ1,o,σ2,_::ds1,a,A1,B,A2,by rw[b];rfl,by rw[e2];rfl,by simp[c],by simp[f],g,.no j,k,l⟩|@so v _ B0 _ _ A0 q t=>obtain⟨σ1,o,σ2,ds1,a,A1,B,A2,b,e2,c,f,g,j,k,l⟩:=m t h;exact⟨some v::σ1,o,σ2,_::ds1,a,B0++A1,B,A2,by rw[b];rfl,by rw[e2];rfl,by simp[c],by simp[f],by rw[g,zAs],.so q j,k,l⟩
end
theorem qo7{x:α}(h:l1.length=i):(l1++x::l2).set i y=l1++y::l2:=by subst h;rw[Mt _ _ (zA2 _),Nat.sub_self];rfl
theorem qC4{x:α}(h:l1.length=i):(l1++x::l2)[i]?=some x:=by subst h;simp
structure Ok(F:γ->Prop)(H:Hp)(A:List γ):Prop where
 sep:∀b,A.count b<=1
 fro:∀b,F b->A.count b=0
 ex:∀b,F b->∃o,H b=some o
structure Pe(F:γ->Prop)(H:Hp)(A:List γ)(F':γ->Prop)(H':Hp)(A':List γ):Prop where
 fr:∀b o,H b=some o->A.count b=0->H' b=some o
 sub:∀b o,H b=some o->A.count b=0->A'.count b=0
 mono:∀b,F b->F' b
 fnew:∀b o,H b=some o->A.count b=0->F' b->F b
section
variable{F j l:γ->Prop}{H i k:Hp}{A A1 A2 T:List γ}
theorem Pe.refl:Pe F H A F H A:=⟨λ_ _ e _=>e,λ_ _ _ e=>e,λ_ f=>f,λ_ _ _ _ f=>f⟩
theorem Pe.trans(s:Pe F H A j i A1)(t:Pe j i A1 l k A2):Pe F H A l k A2:=⟨λb o e q=>t.fr b o (s.fr b o e q) (s.sub b o e q),λb o e q=>t.sub b o (s.fr b o e q) (s.sub b o e q),λb f=>t.mono b (s.mono b f),λb o e q f=>s.fnew b o e q (t.fnew b o (s.fr b o e q) (s.sub b o e q) f)⟩
theorem Pe.same(s:Same H i):Pe F H A F i A:=⟨λb o e _=>s b o e,λ_ _ _ e=>e,λ_ f=>f,λ_ _ _ _ f=>f⟩
theorem qb1{b:γ}{A:List γ}:b∈A↔A.count b≠0:=by rw[<-List.count_pos_iff];lia
theorem Pe.kp(s:Pe F H A j i A1)(o:Ok F H A)(c:∀b∈A,∃o,H b=some o/\Ef o=true):Kp F H (λb=>A.count b≠0) j i:=⟨λb u e w=>s.fr b u e ⋯,λb w=>c b (qb1.mpr w),λb w f=>w (o.fro b f),s.mono⟩
theorem Ok.left(o:Ok F H (T++A)):Ok F H T:=⟨λb=>by have:=o.sep b;rw[zA0] at this;lia,λb f=>by have:=o.fro b f;rw[zA0] at this;lia,o.ex⟩
theorem Ok.right(o:Ok F H (T++A)):Ok F H A:=⟨λb=>by have:=o.sep b;rw[zA0] at this;lia,λb f=>by have:=o.fro b f;rw[zA0] at this;lia,o.ex⟩
theorem Ok.count(o:Ok F H A)(h:∀b,A1.count b<=A.count b):Ok F H A1:=⟨λb=>zAn (h b) (o.sep b),λb f=>by have:=o.fro b f;have:=h b;lia,o.ex⟩
theorem Pe.frame(s:Pe F H A j i A1)(o:Ok F H (T++A))(c:∀b∈T,∃o,H b=some o/\Ef o=true)(d:Ok j i A1):Ok j i (T++A1)/\Pe F H (T++A) j i (T++A1):=by
 have a:∀b,T.count b≠0->∃u,H b=some u/\A.count b=0:=λb h=>by obtain⟨u,e,_⟩:=c b (qb1.mpr h);have:=o.sep b;rw[zA0] at this;exact⟨u,e,⋯⟩
 refine⟨⟨λb=>?_,λb f=>?_,d.ex⟩,λb u e q=>?_,λb u e q=>?_,s.mono,λb u e q f=>?_⟩;{rw[zA0];by_cases h:T.count b=0;{have:=d.sep b;lia};obtain⟨u,e,q⟩:=a b h;have g:=s.sub b u e q;have:=o.sep b;rw[zA0] at this;lia};{rw[zA0,d.fro b f];by_cases h:T.count b=0;{lia};obtain⟨u,e,q⟩:=a b h;have:=o.fro b (s.fnew b u e q f);rw[zA0] at this;lia};{rw[zA0] at q;exact s.fr b u e ⋯};{rw[zA0] at q ⊢;have:=s.sub b u e ⋯;lia};rw[zA0] at q;exact s.fnew b u e ⋯ f
theorem Pe.count(s:Pe F H A j i A1)(h:∀b,A2.count b<=A1.count b):Pe F H A j i A2:=⟨s.fr,λb o e q=>by have:=s.sub b o e q;have:=h b;lia,s.mono,s.fnew⟩
theorem Pe.pre(s:Pe F H A j i A1)(h:∀b,A.count b=A2.count b):Pe F H A2 j i A1:=⟨λb o e q=>s.fr b o e (by rw[h];exact q),λb o e q=>s.sub b o e (by rw[h];exact q),s.mono,λb o e q f=>s.fnew b o e (by rw[h];exact q) f⟩
end
structure New(H:Hp)(B:List γ):Prop where
 one:∀b,B.count b<=1
 new:∀b o,H b=some o->B.count b=0
section
variable{F:γ->Prop}{H H':Hp}{A B:List γ}
theorem New.nil:New H []:=⟨λb=>by simp,λb o _=>by simp⟩
theorem New.ok(n:New H B)(o:Ok F H A)(c:∀b∈A,∃o,H b=some o/\Ef o=true)(s:Same H H'):Ok F H' (B++A):=by refine⟨λb=>?_,λb f=>?_,λb f=>?_⟩;{rw[zA0];have a:=n.one b;have d:=o.sep b;by_cases h:A.count b=0;{lia};obtain⟨u,e,_⟩:=c b (qb1.mpr h);have:=n.new b u e;lia};{rw[zA0,o.fro b f];obtain⟨u,e⟩:=o.ex b f;rw[n.new b u e]};obtain⟨u,e⟩:=o.ex b f;exact⟨u,s b u e⟩
theorem New.append(n:New H B)(s:Same H H1)(c:∀b∈B,∃o,H1 b=some o/\Ef o=true)(a:New H1 B1):New H (B++B1):=by refine⟨λb=>?_,λb o e=>?_⟩;{rw[zA0];have d:=n.one b;have f:=a.one b;by_cases h:B.count b=0;{lia};obtain⟨u,e,_⟩:=c b (qb1.mpr h);have:=a.new b u e;lia};rw[zA0,n.new b o e,a.new b o (s b o e)]
theorem Ok.same(o:Ok F H A)(s:Same H H'):Ok F H' A:=⟨o.sep,o.fro,λb f=>let ⟨u,e⟩:=o.ex b f;⟨u,s b u e⟩⟩
theorem New.stp(n:New H B)(s:Same H H'):Pe F H A F H' (B++A):=⟨λb o e _=>s b o e,λb o e q=>by rw[zA0,n.new b o e,q],λ_ f=>f,λ_ _ _ _ f=>f⟩
end
structure Exn where
 C:γ
 fs:List (Str×D)
def RepX(F:γ->Prop)(H:Hp)(e:γ)(x:Exn):Prop:=∃b,H e=some (ExcO e x.C b false)/\(x.fs=[]∨∃dx a,b=some dx/\H dx=some (XD dx a)/\a.map (·.1)=x.fs.map (·.1)/\O6 F H (a.map (·.2)) (x.fs.map (·.2)) [])
abbrev Ds:=List D
abbrev DK:=D->Ds->Prop
abbrev XKd:=Exn->Ds->Prop
abbrev VT:=Ds->DK->XKd->Prop
abbrev VTT:=Ds->(Bool->Ds->Prop)->XKd->Prop
abbrev VTA:=Ds->(Ds->Ds->Prop)->XKd->Prop
abbrev FV:=Ds->Option D
structure Vc where
 E:St->XK
 W:Nat->Bool
 av:List (Option V)
 gv:List (Option V)
structure Pf(c:Vc)(F:γ->Prop)(H:Hp)(a:St)(ds:Ds)(A:List γ):Prop where
 loc:Locs F H (a++c.gv) ds A
 ok:Ok F H A
 len:c.av.length=(a++c.gv).length
 ag:∀i,c.W i=true->(a++c.gv)[i]?=c.av[i]?
theorem Pf.same(S:Pf c F H a ds A)(s:Same H H'):Pf c F H' a ds A:=⟨S.loc.same s,S.ok.same s,S.len,S.ag⟩
def Xc(c:Vc)(xe:XKd)(F:γ->Prop)(H:Hp)(A:List γ):Prop:=∀x a b' e H' F' A',xe x a->RepX F' H' e x->Pf c F' H' b' a A'->Pe F H A F' H' A'->c.E b' (.ref e) none H'
theorem Xc.step(x:Xc c xe F H A)(s:Pe F H A F1 H1 A1):Xc c xe F1 H1 A1:=λy a b' e H' F' A' h r S t=>x y a b' e H' F' A' h r S (s.trans t)
def kE(c:Vc)(b:St)(F:γ->Prop)(H:Hp)(A:List γ)(Q:VK):DK:=λd a=>∀v H' F' T A',Pc F' H' v d T->Pf c F' H' b a A'->Ok F' H' (T++A')->Pe F H A F' H' (T++A')->Q v H'
inductive LiftE(c:Vc)(t:VT)(a:St)(H:Hp)(Q:VK):Prop
 |mk (F:γ->Prop) (ds:Ds) (A:List γ) (xe:XKd) (S:Pf c F H a ds A) (x:Xc c xe F H A) (q:t ds (kE c a F H A Q) xe):LiftE c t a H Q
def Bj(c:Vc)(t:VT):TE:=LiftE c t
inductive LiftV(c:Vc)(own:Bool)(f:FV)(a:St)(H:Hp)(Q:VK):Prop
 |mk (F:γ->Prop) (ds:Ds) (A:List γ) (d:D) (S:Pf c F H a ds A) (e:f ds=some d) (q:∀v H' B,Pc F H' v d B->Same H H'->(own=true->New H B)->Q v H'):LiftV c own f a H Q
def liftV(c:Vc)(own:Bool)(f:FV):TE:=LiftV c own f
inductive qaX3(c:Vc)(own:Bool)(f:Ds->Option Ds)(a:St)(H:Hp)(Q:List V->Hp->Prop):Prop
 |mk (F:γ->Prop) (ds:Ds) (A:List γ) (xs:Ds) (S:Pf c F H a ds A) (e:f ds=some xs) (q:∀vs H' B,O6 F H' vs xs B->Same H H'->(own=true->New H B)->Q vs H'):qaX3 c own f a H Q
def qaS4(c:Vc)(own:Bool)(f:Ds->Option Ds):TA:=qaX3 c own f
inductive qaX5(c:Vc)(t:VTA)(a:St)(H:Hp)(Q:List V->Hp->Prop):Prop
 |mk (F:γ->Prop) (ds:Ds) (A:List γ) (xe:XKd) (S:Pf c F H a ds A) (x:Xc c xe F H A) (q:t ds (λxs ds'=>∀vs H' F' T A',O6 F' H' vs xs T->Pf c F' H' a ds' A'->Pe F H A F' H' A'->Q vs H') xe):qaX5 c t a H Q
def qaH8(c:Vc)(t:VTA):TA:=qaX5 c t
inductive LiftT(c:Vc)(t:VTT)(a:St)(H:Hp)(Q:Bool->Hp->Prop):Prop
 |mk (F:γ->Prop) (ds:Ds) (A:List γ) (xe:XKd) (S:Pf c F H a ds A) (x:Xc c xe F H A) (q:t ds (λb ds'=>∀H' F' A',Pf c F' H' a ds' A'->Pe F H A F' H' A'->Q b H') xe):LiftT c t a H Q
def Dy(c:Vc)(t:VTT):TT:=LiftT c t
structure VE(c:Vc)(X:Cx)(e:Kz)(t:VT):Prop where
 h:PE X e (Bj c t)
 m:∀ds (Q Q':DK) (xe xe':XKd),(∀d ds',Q d ds'->Q' d ds')->(∀x ds',xe x ds'->xe' x ds')->t ds Q xe->t ds Q' xe'
structure VV(c:Vc)(X:Cx)(e:Kz)(own:Bool)(f:FV):Prop where
 h:PE X e (liftV c own f)
structure VVs(c:Vc)(X:Cx)(es:List Kz)(own:Bool)(f:Ds->Option Ds):Prop where
 h:PA X es (qaS4 c own f)
structure VOs(c:Vc)(X:Cx)(es:List Kz)(t:VTA):Prop where
 h:PA X es (qaH8 c t)
 m:∀ds (Q Q':Ds->Ds->Prop) (xe xe':XKd),(∀d ds',Q d ds'->Q' d ds')->(∀x ds',xe x ds'->xe' x ds')->t ds Q xe->t ds Q' xe'
structure VTe(c:Vc)(X:Cx)(e:Kz)(t:VTT):Prop where
 h:PT X e (Dy c t)
 m:∀ds (Q Q':Bool->Ds->Prop) (xe xe':XKd),(∀d ds',Q d ds'->Q' d ds')->(∀x ds',xe x ds'->xe' x ds')->t ds Q xe->t ds Q' xe'
theorem PE.mono(h:PE X e t)(i:∀a H Q,t' a H Q->t a H Q):PE X e t':=λD8 s a H Q I q=>h D8 s a H Q I (i a H Q q)
theorem PT.mono(h:PT X e t)(i:∀a H Q,t' a H Q->t a H Q):PT X e t':=λD8 s a H Q I q=>h D8 s a H Q I (i a H Q q)
theorem PW.mono(h:PW X e t)(i:∀a H Q,t' a H Q->t a H Q):PW X e t':=λw D8 s a H Q I q=>h w D8 s a H Q I (i a H Q q)
theorem PA.mono(h:PA X es t)(i:∀a H Q,t' a H Q->t a H Q):PA X es t':=λp D8 s a H Q I q=>h p D8 s a H Q I (i a H Q q)
theorem PS.mono(h:PS X st t)(i:∀D a H,t' D a H->t D a H):PS X st t':=λD8 s a H D I q=>h D8 s a H D I (i D a H q)
theorem PSs.mono(h:PSs X st t)(i:∀D a H,t' D a H->t D a H):PSs X st t':=λD8 s a H D I q=>h D8 s a H D I (i D a H q)
def orF{α:Type}(o:Option α)(k:α->Prop):Prop:=match o with|some a=>k a|none=>False
theorem qa5(h:∀a,k a->b a):orF o k->orF o b:=by cases o with|none=>exact id|some a=>exact h a
theorem qa7:orF o k↔∃a,o=some a/\k a:=by cases o with|none=>exact⟨λh=>h.elim,λ⟨_,e,_⟩=>by cases e⟩|some a=>exact⟨λh=>⟨a,rfl,h⟩,λ⟨b,e,h⟩=>by cases e;exact h⟩
section
variable{c:Vc}{X:Cx}{e:Kz}{F:γ->Prop}{H H':Hp}{t:St}{ds:Ds}{A:List γ}
theorem Pf.new(S:Pf c F H t ds A)(n:New H B)(s:Same H H'):Ok F H' (B++A):=n.ok S.ok S.loc.cells s
def Di(f:FV):VT:=λds Q _=>orF (f ds) λd=>Q d ds
def Dk(f:FV):VT:=λds Q _=>orF (f ds) λd=>d.imm=true/\Q d ds
theorem qa4(h:VV c X e true f):VE c X e (Di f):=by refine⟨PE.mono h.h λt H Q a=>?_,λb Q Q' g i j _=>qa5 λd=>j d b⟩;obtain⟨F,b,A,g,S,x,q⟩:=a;obtain⟨d,e,q⟩:=qa7.mp q;exact⟨F,b,A,d,S,e,λv H' B r s n=>q v H' F B A r (S.same s) (S.new (n rfl) s) ((n rfl).stp s)⟩
theorem qb6(h:VV c X e own f):VE c X e (Dk f):=by refine⟨PE.mono h.h λt H Q a=>?_,λb Q Q' g i j _=>qa5 λd=>N4 (j d b)⟩;obtain⟨F,b,A,g,S,x,q⟩:=a;obtain⟨d,e,k,q⟩:=qa7.mp q;refine⟨F,b,A,d,S,e,λv H' B r s _=>?_⟩;have:=r.imm k;subst this;exact q v H' F [] A r (S.same s) (S.ok.same s) (.same s)
theorem Gb(h:PE X e (tC v))(r:∀F H,Pc F H v d []):VV c X e true (λ_=>some d):=⟨PE.mono h λt H Q ⟨F,a,A,b,S,e,q⟩=>by cases e;exact q v H [] (r F H) (λ_ _ z=>z) λ_=>New.nil⟩
noncomputable def D.known:D->Bool|.u=>false|.hole _=>false|_=>true
def rdN(i:Nat):FV:=λds=>match ds[i]? with|some d=>if d.known=true then some d else none|none=>none
theorem qm0:rdN i ds=some d↔ds[i]?=some d/\d.known=true:=by unfold rdN;cases h:ds[i]? with|none=>simp|some x=>dsimp only;split;{rename_i hk;constructor;{intro e;cases e;exact⟨rfl,hk⟩};rintro⟨e,_⟩;exact e};rename_i hk;constructor;{intro e;cases e};rintro⟨e,a⟩;cases e;exact absurd a hk
theorem Pf.at(S:Pf c F H t ds A)(hi:i<t.length)(h:ds[i]?=some d)(a:d.known=true):∃v B,t[i]?=some (some v)/\Pc F H v d B/\∀b,B.count b<=A.count b:=by
 obtain⟨σ1,o,σ2,e,f,A1,B,A2,g,e2,j,m,k,n,l,p⟩:=S.loc.split h;cases l with
 |no=>cases a|@so v _ _ r=>
  refine⟨v,B,?_,r,λb=>by rw[k];simp only[zA0];lia⟩;have:(t++c.gv)[i]?=some (some v):=by rw[g];exact qC4 j
  rwa[zAl hi] at this
theorem qaL8(h:PE X (.Name x pos) (Fh i))(hi:∀D8 t H s,Pd X D8 t H s->i<t.length):VV c X (.Name x pos) false (rdN i):=by refine⟨λD8 s t H Q I a=>?_⟩;obtain⟨F,g,A,d,S,e,q⟩:=a;refine h D8 s t H Q I ?_;obtain⟨e,b⟩:=qm0.mp e;obtain⟨v,B,f,r,_⟩:=S.at (hi D8 t H s I) e b;exact⟨v,f,q v H B r (λ_ _ z=>z) λz=>by cases z⟩
theorem qn7{X:Cx}{x:Str}(a:X.N[i]?=some x):∀D8 t H s,Pd X D8 t H s->i<t.length:=λD8 t H s I=>by
 rw[I.len];exact(zA5.mp a).1
end
def Sub(H:Hp)(B B':List γ):Prop:=∀b,B'.count b<=B.count b∨(B'.count b<=1/\H b=none)
theorem Sub.new(s:Sub H1 B B')(n:New H B)(q:Same H H1):New H B':=by refine⟨λb=>?_,λb o e=>?_⟩;{rcases s b with h|⟨h,_⟩;{have:=n.one b;lia};exact h};rcases s b with h|⟨_,h⟩;{have:=n.new b o e;lia};rw[q b o e] at h;cases h
def OpS(nw:Bool)(r:List V->Hp->VK->Prop)(g:Ds->Option D):Prop:=∀F H vs xs B d (Q:VK),O6 F H vs xs B->g xs=some d->(∀v H' B',Pc F H' v d B'->Same H H'->(if nw=true then New H B' else Sub H B B')->Q v H')->r vs H Q
def Bd(nw:Bool)(r:R2)(g:D->D->Option D):Prop:=∀F H v w x y B d (Q:VK),O6 F H [v,w] [x,y] B->g x y=some d->(∀v H' B',Pc F H' v d B'->Same H H'->(if nw=true then New H B' else Sub H B B')->Q v H')->r v w H Q
noncomputable def f2(g:D->D->Option D)(fa fb:FV):FV:=λds=>(fa ds).bind λx=>(fb ds).bind λy=>g x y
theorem qaK0:f2 g fa fb ds=some d↔∃x y,fa ds=some x/\fb ds=some y/\g x y=some d:=by unfold f2;cases a:fa ds with|none=>simp|some x=>cases b:fb ds with|none=>simp|some y=>simp
noncomputable def f1(g:D->Option D)(fa:FV):FV:=λds=>(fa ds).bind g
theorem qaK1:f1 g fa ds=some d↔∃x,fa ds=some x/\g x=some d:=by unfold f1;cases a:fa ds with|none=>simp|some x=>simp
theorem Fk(r:Pc F H v d A)(s:Pc F H w e B):O6 F H [v,w] [d,e] (A++(B++[])):=.cons r (.cons s .nil)
section
variable{c:Vc}{X:Cx}{a b:Kz}{W Y nw:Bool}{fa fb:FV}{r:R2}{g:D->D->Option D}{O R:VT}
theorem op_vv(h:Bd nw r g):∀N H Q,liftV c (nw||(W&&Y)) (f2 g fa fb) N H Q->tOp r (liftV c W fa) (liftV c Y fb) N H Q:=by rintro N H Q ⟨F,k,A,d,S,e,q⟩;obtain⟨x,y,m,n,p⟩:=qaK0.mp e;refine⟨F,k,A,x,S,m,λv H1 B1 l a s=>⟨F,k,A,y,S.same a,n,λw H2 B2 t i z=>?_⟩⟩;refine h F H2 v w x y _ d Q (Fk (l.same i) t) p λu H3 B3 B C f=>?_;refine q u H3 B3 B ((a.trans i).trans C) λj=>?_;cases nw with|true=>rw[if_pos rfl] at f;exact⟨f.one,λb o e=>f.new b o (i b o (a b o e))⟩|false=>rw[if_neg ∅] at f;have j:=zAk.mp j;have:=(s j.1).append a l.cells (z j.2);exact f.new (by rw[zAg];exact this) (a.trans i)
def t2(g:D->D->Option D)(O R:VT):VT:=λds Q xe=>O ds (λx ds1=>R ds1 (λy a=>orF (g x y) λd=>Q d a) xe) xe
theorem qax9(j:VE c X a O)(k:VE c X b R):∀ds (Q Q':DK) (xe f:XKd),(∀d e,Q d e->Q' d e)->(∀x e,xe x e->f x e)->t2 g O R ds Q xe->t2 g O R ds Q' f:=λds Q Q' xe f l i=>j.m _ _ _ _ _ (λd n=>k.m _ _ _ _ _ (λd h=>qa5 λz=>l z h) i) i
theorem op_ee(s:VE c X a O)(i:VE c X b R)(h:Bd true r g):∀N H Q,Bj c (t2 g O R) N H Q->tOp r (Bj c O) (Bj c R) N H Q:=by
 rintro N H Q ⟨F,t,A,o,S,x,q⟩;refine⟨F,t,A,o,S,x,s.m _ _ _ _ _ (λp j q v H1 F1 T A1 y S1 B C=>?_) (λ_ _ z=>z) q⟩;have e:Pe F H A F1 H1 A1:=C.count λb=>by rw[zA0];lia
 refine⟨F1,j,A1,o,S1,x.step e,i.m _ _ _ _ _ (λD E q w H2 F2 T2 A2 G S2 L I=>?_) (λ_ _ z=>z) q⟩;obtain⟨d,J,q⟩:=qa7.mp q;have f:Pe F1 H1 A1 F2 H2 A2:=I.count λb=>by rw[zA0];lia
 have k:Pc F2 H2 v p T:=y.keep (f.kp S1.ok S1.loc.cells) λb i M=>by have:=B.sep b;rw[zA0] at this;have:=qb1.mp i;lia
 refine h F2 H2 v w p D _ d Q (Fk k G) J λu H3 B3 K l n=>?_;rw[if_pos rfl] at n;exact q u H3 F2 B3 A2 K (S2.same l) (S2.new n l) ((e.trans f).trans (n.stp l))
def t2v(g:D->D->Option D)(O:VT)(fb:FV):VT:=λds Q xe=>O ds (λx ds1=>orF ((fb ds1).bind (g x)) λd=>Q d ds1) xe
theorem qaD5(h:VE c X a O):∀ds (Q Q':DK) (xe e:XKd),(∀d b,Q d b->Q' d b)->(∀x b,xe x b->e x b)->t2v g O fb ds Q xe->t2v g O fb ds Q' e:=λds Q Q' xe e i j=>h.m _ _ _ _ _ (λd f=>qa5 λz=>i z f) j
theorem op_ev(s:VE c X a O)(h:Bd true r g):∀N H Q,Bj c (t2v g O fb) N H Q->tOp r (Bj c O) (liftV c Y fb) N H Q:=by
 rintro N H Q ⟨F,t,A,B,S,x,q⟩;refine⟨F,t,A,B,S,x,s.m _ _ _ _ _ (λC j q v H1 F1 T A1 D S1 L E=>?_) (λ_ _ z=>z) q⟩;have k:Pe F H A F1 H1 A1:=E.count λb=>by rw[zA0];lia
 obtain⟨d,l,q⟩:=qa7.mp q;obtain⟨y,G,l⟩:=zA1.mp l;refine⟨F1,j,A1,y,S1,G,λw H2 B2 I n _=>?_⟩;refine h F1 H2 v w C y _ d Q (Fk (D.same n) I) l λu H3 B3 J K p=>?_;rw[if_pos rfl] at p;have f:=n.trans K;have i:New H1 B3:=⟨p.one,λb o e=>p.new b o (n b o e)⟩;exact q u H3 F1 B3 A1 J (S1.same f) (S1.new i f) (k.trans (i.stp f))
def OpS1(nw:Bool)(r:V->Hp->VK->Prop)(g:D->Option D):Prop:=∀F H v x B d (Q:VK),Pc F H v x B->g x=some d->(∀v H' B',Pc F H' v d B'->Same H H'->(if nw=true then New H B' else Sub H B B')->Q v H')->r v H Q
def t1(g:D->Option D)(O:VT):VT:=λds Q xe=>O ds (λx ds1=>orF (g x) λd=>Q d ds1) xe
variable{U:V->Hp->VK->Prop}{g1:D->Option D}
theorem op_v(h:OpS1 nw U g1):∀N H Q,liftV c (nw||W) (f1 g1 fa) N H Q->liftV c W fa N H (λx H1=>U x H1 Q):=by rintro N H Q ⟨F,g,A,d,S,e,q⟩;obtain⟨x,i,j⟩:=qaK1.mp e;refine⟨F,g,A,x,S,i,λv H1 B1 U f k=>?_⟩;refine h F H1 v x _ d Q U j λu H3 B3 l m a=>?_;refine q u H3 B3 l (f.trans m) λn=>?_;cases nw with|true=>rw[if_pos rfl] at a;exact⟨a.one,λb o e=>a.new b o (f b o e)⟩|false=>rw[if_neg ∅] at a;exact a.new (k n) f
end
theorem qX9(d:Ok F1 H1 (T++A1))(c:Pe F H A F1 H1 (T++A1))(j:∀b∈A1,∃o,H1 b=some o/\Ef o=true)(i:Same H1 H3)(g:Sub H1 T B):Ok F1 H3 (B++A1)/\Pe F H A F1 H3 (B++A1):=by refine⟨⟨λb=>?_,λb f=>?_,λb f=>let ⟨u,e⟩:=d.ex b f;⟨u,i b u e⟩⟩,λb o e q=>i b o (c.fr b o e q),λb o e q=>?_,c.mono,c.fnew⟩;{have:=d.sep b;rw[zA0] at this ⊢;rcases g b with h|⟨h,a⟩;{lia};by_cases k:A1.count b=0;{lia};obtain⟨o,e,_⟩:=j b (qb1.mpr k);rw[e] at a;cases a};{have:=d.fro b f;rw[zA0] at this ⊢;rcases g b with h|⟨h,a⟩;{lia};obtain⟨o,e⟩:=d.ex b f;rw[e] at a;cases a};have:=c.sub b o e q;rw[zA0] at this ⊢;rcases g b with h|⟨h,a⟩;{lia};rw[c.fr b o e q] at a;cases a
section
variable{c:Vc}{X:Cx}{a b:Kz}{Z ob nw:Bool}{fa fb:FV}{r:R2}{g:D->D->Option D}{U Y:VT}
theorem qbb3(D:VE c X a U)(e:VE c X b Y)(h:Bd false r g):∀R H Q,Bj c (t2 g U Y) R H Q->tOp r (Bj c U) (Bj c Y) R H Q:=by
 rintro R H Q ⟨F,E,A,l,S,x,q⟩;refine⟨F,E,A,l,S,x,D.m _ _ _ _ _ (λn f q v H1 F1 T A1 o S1 p s=>?_) (λ_ _ z=>z) q⟩;have i:Pe F H A F1 H1 A1:=s.count λb=>by rw[zA0];lia
 refine⟨F1,f,A1,l,S1,x.step i,e.m _ _ _ _ _ (λG I q w H2 F2 T2 A2 J S2 K t=>?_) (λ_ _ z=>z) q⟩;obtain⟨d,L,q⟩:=qa7.mp q;have j:Pc F2 H2 v n T:=o.keep (t.kp S1.ok S1.loc.cells) λb e P=>by have:=p.sep b;rw[zA0] at this;have:=qb1.mp e;lia
 obtain⟨y,B⟩:=t.frame p o.cells K;refine h F2 H2 v w n G _ d Q (Fk j J) L λu H3 B3 M C k=>?_;rw[if_neg ∅] at k;rw[<-zAs] at y B;obtain⟨N,O⟩:=qX9 y (s.trans B) S2.loc.cells C (by rw[zAg] at k;exact k);exact q u H3 F2 B3 A2 M (S2.same C) N O
def Jd(g:D->D->Option D)(U:VT)(fb:FV):VT:=λds Q xe=>U ds (λx ds1=>orF (fb ds1) λy=>y.imm=true/\orF (g x y) λd=>Q d ds1) xe
theorem qar5(h:VE c X a U):∀ds (Q Q':DK) (xe e:XKd),(∀d b,Q d b->Q' d b)->(∀x b,xe x b->e x b)->Jd g U fb ds Q xe->Jd g U fb ds Q' e:=λds Q Q' xe e i j=>h.m _ _ _ _ _ (λd f=>qa5 λy=>N4 (qa5 λz=>i z f)) j
theorem qbb2(p:VE c X a U)(h:Bd false r g):∀R H Q,Bj c (Jd g U fb) R H Q->tOp r (Bj c U) (liftV c ob fb) R H Q:=by rintro R H Q ⟨F,s,A,t,S,x,q⟩;refine⟨F,s,A,t,S,x,p.m _ _ _ _ _ (λB i q v H1 F1 T A1 C S1 D E=>?_) (λ_ _ z=>z) q⟩;obtain⟨y,G,I,q⟩:=qa7.mp q;obtain⟨d,J,q⟩:=qa7.mp q;refine⟨F1,i,A1,y,S1,G,λw H2 B2 k j _=>?_⟩;have:=k.imm I;subst this;refine h F1 H2 v w B y _ d Q (Fk (C.same j) k) J λu H3 B3 K L l=>?_;rw[if_neg ∅,zAg,zAg] at l;have f:=j.trans L;have M:Sub H1 T B3:=λb=>(l b).imp id λ⟨N,n⟩=>⟨N,by cases e:H1 b with|none=>rfl|some o=>rw[j b o e] at n;cases n⟩;obtain⟨O,P⟩:=qX9 D E S1.loc.cells f M;exact q u H3 F1 B3 A1 K (S1.same f) O P
theorem qa6:VVs c X [] true (λ_=>some []):=⟨PA.mono qk9 λR H Q ⟨F,a,A,b,S,e,q⟩=>by cases e;exact q [] H [] .nil (λ_ _ z=>z) λ_=>New.nil⟩
noncomputable def A6(fa:FV)(a:Ds->Option Ds):Ds->Option Ds:=λds=>(fa ds).bind λx=>(a ds).bind λxs=>some (x::xs)
theorem qav2{fa:FV}{a:Ds->Option Ds}{ds xs:Ds}:A6 fa a ds=some xs↔∃x r,fa ds=some x/\a ds=some r/\xs=x::r:=by unfold A6;cases b:fa ds with|none=>simp|some x=>cases c:a ds with|none=>simp|some y=>simp[eq_comm]
theorem qa2(k:VV c X e Z fa)(l:VVs c X es own f)(m:Kb (e::es) X.env=(false,eval e X.env)::Kb es X.env):VVs c X (e::es) (Z&&own) (A6 fa f):=by refine⟨PA.mono (qc4 k.h l.h m) λR H Q b=>?_⟩;obtain⟨F,g,A,u,S,e,q⟩:=b;obtain⟨x,r,n,e2,rfl⟩:=qav2.mp e;refine⟨F,g,A,x,S,n,λv H1 B1 i d o=>⟨F,g,A,r,S.same d,e2,λp H2 B2 s j t=>?_⟩⟩;refine q (v::p) H2 (B1++B2) (.cons (i.same j) s) (d.trans j) λa=>?_;have a:=zAk.mp a;exact(o a.1).append d i.cells (t a.2)
variable{rc:List V->Hp->VK->Prop}{W:Ds->Option D}
theorem qaQ8(h:OpS nw rc W):∀R H Q,liftV c (nw||own) (λds=>(f ds).bind W) R H Q->tCB rc (qaS4 c own f) R H Q:=by rintro R H Q ⟨F,ds,A,d,S,e,q⟩;obtain⟨i,j,e2⟩:=zA1.mp e;refine⟨F,ds,A,i,S,j,λk H1 B1 l g m=>h F H1 k i B1 d Q l e2 λu H3 B3 n p a=>q u H3 B3 n (g.trans p) λr=>?_⟩;cases nw with|true=>rw[if_pos rfl] at a;exact⟨a.one,λb o e=>a.new b o (g b o e)⟩|false=>rw[if_neg ∅] at a;exact a.new (m r) g
def tcO(W:Ds->Option D)(t:VTA):VT:=λds Q xe=>t ds (λxs ds1=>orF (W xs) λd=>Q d ds1) xe
theorem qaD3(f:VOs c X es t):∀ds (Q Q':DK) (xe b:XKd),(∀d a,Q d a->Q' d a)->(∀x a,xe x a->b x a)->tcO W t ds Q xe->tcO W t ds Q' b:=λds Q Q' xe b g h=>f.m _ _ _ _ _ (λd e=>qa5 λz=>g z e) h
theorem opc_o(e:VOs c X es t)(h:OpS true rc W):∀R H Q,Bj c (tcO W t) R H Q->tCB rc (qaH8 c t) R H Q:=by rintro R H Q ⟨F,f,A,g,S,x,q⟩;refine⟨F,f,A,g,S,x,e.m _ _ _ _ _ (λi j q k H1 F1 T A1 l S1 n=>?_) (λ_ _ z=>z) q⟩;obtain⟨d,o,q⟩:=qa7.mp q;refine h F1 H1 k i T d Q l o λu H3 B3 p a b=>?_;rw[if_pos rfl] at b;exact q u H3 F1 B3 A1 p (S1.same a) (S1.new b a) (n.trans (b.stp a))
end
def D.kids:D->List D|.q ds=>ds|.l false ds=>ds|.dct false kvs=>kvs.map (·.2)|.ins false _ fs=>fs.map (·.2)|_=>[]
noncomputable def Hy{a:Type}:List (a×D)->Nat->D->List (a×D)|[],_,_=>[]|(k,_)::r,0,x=>(k,x)::r|p::r,n+1,x=>p::Hy r n x
theorem qS0{c:Type}:∀(l:List (c×D))(n:Nat)(x:D),(Hy l n x).map (·.1)=l.map (·.1)/\(Hy l n x).map (·.2)=(l.map (·.2)).set n x|[],_,_=>⟨rfl,rfl⟩|(k,_)::r,0,x=>⟨rfl,rfl⟩|p::r,n+1,x=>by obtain⟨a,b⟩:=qS0 r n x;simp only[Hy,zAz,a,b,List.set_cons_succ,and_self]
def D.setK:D->Nat->D->D|.q ds,n,x=>.q (ds.set n x)|.l z ds,n,x=>.l z (ds.set n x)|.dct z kvs,n,x=>.dct z (Hy kvs n x)|.ins z C fs,n,x=>.ins z C (Hy fs n x)|d,_,_=>d
def Lnk(H:Hp)(u:V)(n:Nat)(w:V):Prop:=∃a,u=.ref a/\((∃vs,H a=some (.q vs)/\vs[n]?=some w)∨(∃vs,H a=some (.l vs)/\vs[n]?=some w)∨(∃kvs,H a=some (.dK kvs)/\(kvs.map (·.2))[n]?=some w)∨∃C dx fs,H a=some (.ins C dx fs)/\(fs.map (·.2))[n]?=some w)
section
variable{F F':γ->Prop}{H H':Hp}
theorem O6.split:∀{ds:List D}{vs:List V}{A:List γ}{i:Nat}{d:D},O6 F H vs ds A->ds[i]?=some d->∃b v c ds1 a A1 B A2,vs=b++v::c/\ds=ds1++d::a/\b.length=i/\ds1.length=i/\A=A1++(B++A2)/\O6 F H b ds1 A1/\Pc F H v d B/\O6 F H c a A2:=by
 intro ds;induction ds with
 |nil=>intro K A i d _ h;simp at h|cons e r f=>
  intro K A i d L h;cases i with
  |zero=>
   have:e=d:=by simpa using h
   subst this;cases L with|cons q t=>exact⟨[],_,_,[],_,[],_,_,rfl,rfl,rfl,rfl,rfl,.nil,q,t⟩
  |succ i=>
   have h:r[i]?=some d:=by simpa using h
   cases L with|@cons v _ B0 _ _ A0 q t=>obtain⟨σ1,o,σ2,ds1,a,A1,B,A2,g,e2,j,k,l,m,n,p⟩:=f t h;exact⟨v::σ1,o,σ2,_::ds1,a,B0++A1,B,A2,by rw[g];rfl,by rw[e2];rfl,by simp[j],by simp[k],by rw[l,zAs],.cons q m,n,p⟩
theorem O6.append(r:O6 F H vs ds A)(t:O6 F H a es B):O6 F H (vs++a) (ds++es) (A++B):=by induction vs generalizing ds A with|nil=>cases r;exact t|cons v vs b=>cases r with|cons h c=>rw[zAs];exact .cons h (b c)
theorem O6.kid(r:O6 F H vs ds A)(h:ds[n]?=some d):∃(w:V)(B C:List γ),vs[n]?=some w/\Pc F H w d B/\(∀b,A.count b=B.count b+C.count b)/\∀{F':γ->Prop}{H':Hp}{W:γ->Prop}(d':D)(B':List γ),Kp F H W F' H'->(∀b∈C,¬W b)->Pc F' H' w d' B'->∃A':List γ,O6 F' H' vs (ds.set n d') A'/\∀b,A'.count b=B'.count b+C.count b:=by obtain⟨f,v,g,i,j,A1,B,A2,c,e2,l,m,o,p,q,s⟩:=r.split h;refine⟨v,B,A1++A2,by rw[c];exact qC4 l,q,λb=>by rw[o];simp only[zA0];lia,λ{F' H' W} d' B' k e t=>⟨A1++(B'++A2),?_,λb=>by simp only[zA0];lia⟩⟩;rw[c,e2,qo7 m];exact(p.keep k λb a=>e b (zAb.mpr (.inl a))).append (.cons t (s.keep k λb a=>e b (zAb.mpr (.inr a))))
theorem Pc.kid(r:Pc F H p d0 A)(h:d0.kids[n]?=some d):∃(w:V)(B C:List γ),Lnk H p n w/\Pc F H w d B/\(∀b,A.count b=B.count b+C.count b)/\∀{F':γ->Prop}{H':Hp}{W:γ->Prop}(d':D)(B':List γ),Kp F H W F' H'->(∀b∈C,¬W b)->Pc F' H' w d' B'->∃A':List γ,Pc F' H' p (d0.setK n d') A'/\∀b,A'.count b=B'.count b+C.count b:=by cases r with|@q a vs ds _ e r=>obtain⟨w,B,C,f,g,i,j⟩:=r.kid (n:=n) h;refine⟨w,B,C,⟨a,rfl,.inl ⟨vs,e,f⟩⟩,g,i,λ{F' H' W} d' B' k c l=>?_⟩;obtain⟨A',m,q2⟩:=j d' B' k c l;exact⟨A',.q (k.q e) m,q2⟩|@l a vs ds A e r=>obtain⟨w,B,C,f,g,i,j⟩:=r.kid (n:=n) h;refine⟨w,B,a::C,⟨a,rfl,.inr (.inl ⟨vs,e,f⟩)⟩,g,λb=>by rw[zAr,zAr,i];lia,λ{F' H' W} d' B' k c l=>?_⟩;obtain⟨A',m,q2⟩:=j d' B' k (λb o=>c b (zA7 _ o)) l;exact⟨a::A',.l (k.fr a _ e (c a zAh)) m,λb=>by rw[zAr,zAr,q2];lia⟩|@dct a kvs kds A e q r=>obtain⟨w,B,C,f,g,i,j⟩:=r.kid (n:=n) h;refine⟨w,B,a::C,⟨a,rfl,.inr (.inr (.inl ⟨kvs,e,f⟩))⟩,g,λb=>by rw[zAr,zAr,i];lia,λ{F' H' W} d' B' k c l=>?_⟩;obtain⟨A',m,q2⟩:=j d' B' k (λb o=>c b (zA7 _ o)) l;obtain⟨s,t⟩:=qS0 kds n d';exact⟨a::A',.dct (k.fr a _ e (c a zAh)) (q.trans s.symm) (by rw[t];exact m),λb=>by rw[zAr,zAr,q2];lia⟩|@ins a C0 dx fvs fds A e q r=>obtain⟨w,B,C,f,g,i,j⟩:=r.kid (n:=n) h;refine⟨w,B,a::C,⟨a,rfl,.inr (.inr (.inr ⟨C0,dx,fvs,e,f⟩))⟩,g,λb=>by rw[zAr,zAr,i];lia,λ{F' H' W} d' B' k c l=>?_⟩;obtain⟨A',m,q2⟩:=j d' B' k (λb o=>c b (zA7 _ o)) l;obtain⟨s,t⟩:=qS0 fds n d';exact⟨a::A',.ins (k.fr a _ e (c a zAh)) (q.trans s.symm) (by rw[t];exact m),λb=>by rw[zAr,zAr,q2];lia⟩|_=>cases (show (none:Option D)=some _ from h)
def D.getP:D->List Nat->Option D|d,[]=>some d|d,n::p=>match d.kids[n]? with|some e=>e.getP p|none=>none
def D.setP:D->List Nat->D->D|_,[],x=>x|d,n::p,x=>match d.kids[n]? with|some e=>d.setK n (e.setP p x)|none=>d
def Walk(H:Hp):V->List Nat->V->Prop|u,[],w=>u=w|u,n::p,w=>∃v,Lnk H u n v/\Walk H v p w
theorem Pc.path:∀{p:List Nat}{a:V}{d0 d:D}{A:List γ},Pc F H a d0 A->d0.getP p=some d->∃(w:V)(B C:List γ),Walk H a p w/\Pc F H w d B/\(∀b,A.count b=B.count b+C.count b)/\∀{F':γ->Prop}{H':Hp}{W:γ->Prop}(d':D)(B':List γ),Kp F H W F' H'->(∀b∈C,¬W b)->Pc F' H' w d' B'->∃A':List γ,Pc F' H' a (d0.setP p d') A'/\∀b,A'.count b=B'.count b+C.count b:=by intro p;induction p with|nil=>intro a d0 d A r h;cases h;exact⟨a,A,[],rfl,r,λb=>by simp,λ{F' H' W} d' B' k f g=>⟨B',g,λb=>by simp⟩⟩|cons n p j=>intro a d0 d A r h;unfold D.getP at h;cases c:d0.kids[n]? with|none=>rw[c] at h;cases h|some e=>rw[c] at h;obtain⟨l,B1,C1,m,o,q,s⟩:=r.kid c;obtain⟨w,B,C,t,u,v,x⟩:=j o h;refine⟨w,B,C++C1,⟨l,m,t⟩,u,λb=>by rw[q,v,zA0];lia,λ{F' H' W} d' B' k f g=>?_⟩;obtain⟨A1,y,q2⟩:=x d' B' k (λb i=>f b (zAb.mpr (.inl i))) g;obtain⟨A2,z,E⟩:=s (e.setP p d') A1 k (λb i=>f b (zAb.mpr (.inr i))) y;refine⟨A2,?_,λb=>by rw[E,q2,zA0];lia⟩;unfold D.setP;rw[c];exact z
def Bf(ds:Ds)(i:Nat)(p:List Nat):Option D:=match ds[i]? with|some d=>d.getP p|none=>none
def Bk(ds:Ds)(i:Nat)(p:List Nat)(x:D):Ds:=match ds[i]? with|some d=>ds.set i (d.setP p x)|none=>ds
theorem qao1(h:D.getP .u p=some d):p=[]/\d=.u:=by cases p with|nil=>cases h;exact⟨rfl,rfl⟩|cons n p=>cases (show (none:Option D)=some _ from h)
theorem Locs.place(L:Locs F H K ds A)(h:Bf ds i p=some d)(g:d≠.u):∃(u w:V)(B C:List γ),K[i]?=some (some u)/\Walk H u p w/\Pc F H w d B/\(∀b,A.count b=B.count b+C.count b)/\∀{F':γ->Prop}{H':Hp}{W:γ->Prop}(d':D)(B':List γ),Kp F H W F' H'->(∀b∈C,¬W b)->Pc F' H' w d' B'->∃A':List γ,Locs F' H' K (Bk ds i p d') A'/\∀b,A'.count b=B'.count b+C.count b:=by unfold Bf at h;cases c:ds[i]? with|none=>rw[c] at h;cases h|some J=>rw[c] at h;obtain⟨σ1,o,σ2,j,l,A1,B0,A2,f,e2,m,n,q,s,t,v⟩:=L.split c;cases t with|no=>exact absurd (qao1 h).2 g|@so u _ _ r=>obtain⟨w,B,C,x,y,z,E⟩:=r.path h;refine⟨u,w,B,A1++(C++A2),by rw[f];exact qC4 m,x,y,λb=>by rw[q];simp only[zA0,z];lia,λ{F' H' W} d' B' k e G=>?_⟩;obtain⟨A',I,q2⟩:=E d' B' k (λb a=>e b (zAb.mpr (.inr (zAb.mpr (.inl a))))) G;refine⟨A1++(A'++A2),?_,λb=>by simp only[zA0,q2];lia⟩;unfold Bk;rw[c,f];dsimp only;rw[e2,qo7 n];exact(s.keep k λb a=>e b (zAb.mpr (.inl a))).append (.so I (v.keep k λb a=>e b (zAb.mpr (.inr (zAb.mpr (.inr a))))))
theorem Lnk.fn(h:Lnk H u n v)(h':Lnk H u n w):v=w:=by obtain⟨a,rfl,h⟩:=h;obtain⟨b,e,h'⟩:=h';cases e;rcases h with⟨vs,e,h⟩|⟨vs,e,h⟩|⟨vs,e,h⟩|⟨C,dx,vs,e,h⟩<;>rcases h' with⟨vs',e',h'⟩|⟨vs',e',h'⟩|⟨vs',e',h'⟩|⟨C',dx',vs',e',h'⟩<;>rw[e] at e'<;>cases e'<;>rw[h] at h'<;>exact N5 h'
theorem Walk.fn:∀{p:List Nat}{u v w:V},Walk H u p v->Walk H u p w->v=w|[],_,_,_,h,h'=>h.symm.trans h'|n::p,_,_,_,⟨x,h1,h2⟩,⟨y,h3,h4⟩=>by cases h1.fn h3;exact Walk.fn h2 h4
theorem Lnk.same(h:Lnk H u n v)(s:Same H H'):Lnk H' u n v:=by obtain⟨a,rfl,h⟩:=h;refine⟨a,rfl,?_⟩;rcases h with⟨vs,e,h⟩|⟨vs,e,h⟩|⟨vs,e,h⟩|⟨C,dx,vs,e,h⟩;{exact .inl ⟨vs,s _ _ e,h⟩};{exact .inr (.inl ⟨vs,s _ _ e,h⟩)};{exact .inr (.inr (.inl ⟨vs,s _ _ e,h⟩))};exact .inr (.inr (.inr ⟨C,dx,vs,s _ _ e,h⟩))
theorem Walk.same:∀{p:List Nat}{u v:V},Walk H u p v->Same H H'->Walk H' u p v|[],_,_,h,_=>h|n::p,_,_,⟨x,h1,h2⟩,s=>⟨x,h1.same s,h2.same s⟩
end
section
variable{c:Vc}{X:Cx}{b:Kz}{nw:Bool}{r:R2}{g:D->D->Option D}{U:VT}
def t2n(g:D->D->Option D)(i:Nat)(U:VT):VT:=λds Q xe=>(rdN i ds).isSome=true/\U ds (λy ds1=>orF ((rdN i ds1).bind λx=>g x y) λd=>Q d ds1) xe
theorem qaD6(h:VE c X b U):∀ds (Q Q':DK) (xe e:XKd),(∀d a,Q d a->Q' d a)->(∀x a,xe x a->e x a)->t2n g i U ds Q xe->t2n g i U ds Q' e:=λds Q Q' xe e j k=>N4 (h.m _ _ _ _ _ (λd f=>qa5 λz=>j z f) k)
theorem Pf.name(S:Pf c F H R ds A)(hi:i<R.length)(h:rdN i ds=some d):∃v B,R[i]?=some (some v)/\Pc F H v d B/\∀b,B.count b<=A.count b:=let ⟨e,k⟩:=qm0.mp h
 S.at hi e k
theorem op_ne(o:VE c X b U)(h:Bd true r g)(hi:i<R.length)(q:Bj c (t2n g i U) R H Q):tOp r (Fh i) (Bj c U) R H Q:=by
 obtain⟨F,p,A,s,S,x,t,q⟩:=q;obtain⟨L,e⟩:=zB3.mp t;obtain⟨v,B0,n,_,_⟩:=S.name hi e;refine⟨v,n,F,p,A,s,S,x,o.m _ _ _ _ _ (λC D q w H1 F1 T A1 E S1 M G=>?_) (λ_ _ z=>z) q⟩;have f:Pe F H A F1 H1 A1:=G.count λb=>by rw[zA0];lia
 obtain⟨d,j,q⟩:=qa7.mp q;obtain⟨y,I,j⟩:=zA1.mp j;obtain⟨N,B,a,J,_⟩:=S1.name hi I;rw[n] at a;cases a;refine h F1 H1 v w y C _ d Q (Fk J E) j λu H3 B3 K k l=>?_;rw[if_pos rfl] at l;exact q u H3 F1 B3 A1 K (S1.same k) (S1.new l k) (f.trans (l.stp k))
def t2nP(g:D->D->Option D)(i:Nat)(U:VT):VT:=λds Q xe=>(rdN i ds).isSome=true/\U ds (λy ds1=>orF ((rdN i ds1).bind λx=>g x y) λd=>d.imm=true/\Q d ds1) xe
theorem qar6(h:VE c X b U):∀ds (Q Q':DK) (xe e:XKd),(∀d a,Q d a->Q' d a)->(∀x a,xe x a->e x a)->t2nP g i U ds Q xe->t2nP g i U ds Q' e:=λds Q Q' xe e j k=>N4 (h.m _ _ _ _ _ (λd f=>qa5 λz=>N4 (j z f)) k)
theorem qba8{R:St}{H:Hp}(o:VE c X b U)(h:Bd nw r g)(hi:i<R.length)(q:Bj c (t2nP g i U) R H Q):tOp r (Fh i) (Bj c U) R H Q:=by
 obtain⟨F,p,A,s,S,x,t,q⟩:=q;obtain⟨L,e⟩:=zB3.mp t;obtain⟨v,B0,l,_,_⟩:=S.name hi e;refine⟨v,l,F,p,A,s,S,x,o.m _ _ _ _ _ (λC D q w H1 F1 T A1 E S1 M G=>?_) (λ_ _ z=>z) q⟩;have f:Pe F H A F1 H1 A1:=G.count λb=>by rw[zA0];lia
 obtain⟨d,j,I,q⟩:=qa7.mp q;obtain⟨y,J,j⟩:=zA1.mp j;obtain⟨N,B,a,K,_⟩:=S1.name hi J;rw[l] at a;cases a;refine h F1 H1 v w y C _ d Q (Fk K E) j λu H3 B3 n k O=>?_;have:=n.imm I;subst this;exact q u H3 F1 [] A1 n (S1.same k) (S1.ok.same k) (f.trans (.same k))
end
section
variable{F:γ->Prop}{H:Hp}{K:N7}
theorem Pc.lst_inv(r:Pc F H v (.l z ds) B):∃a vs A,v=.ref a/\H a=some (.l vs)/\O6 F H vs ds A/\∀b,A.count b<=B.count b:=by cases r with|l h r=>exact⟨_,_,_,rfl,h,r,λb=>by rw[zAr];lia⟩|lstZ h f r=>exact⟨_,_,_,rfl,h,r,λb=>zA2 _⟩
theorem Pc.tup_inv(r:Pc F H v (.q ds) B):∃a vs,v=.ref a/\H a=some (.q vs)/\O6 F H vs ds B:=by cases r with|q h r=>exact⟨_,_,rfl,h,r⟩
theorem Pc.dct_inv(r:Pc F H v (.dct z c) B):∃a kvs A,v=.ref a/\H a=some (.dK kvs)/\kvs.map (·.1)=c.map (·.1)/\O6 F H (kvs.map (·.2)) (c.map (·.2)) A/\∀b,A.count b<=B.count b:=by cases r with|dct h e r=>exact⟨_,_,_,rfl,h,e,r,λb=>by rw[zAr];lia⟩|dctZ h f e r=>exact⟨_,_,_,rfl,h,e,r,λb=>zA2 _⟩
theorem Pc.ins_inv(r:Pc F H v (.ins z C c) B):∃a dx d A,v=.ref a/\H a=some (.ins C dx d)/\d.map (·.1)=c.map (·.1)/\O6 F H (d.map (·.2)) (c.map (·.2)) A/\∀b,A.count b<=B.count b:=by cases r with|ins h e r=>exact⟨_,_,_,_,rfl,h,e,r,λb=>by rw[zAr];lia⟩|insZ h f e r=>exact⟨_,_,_,_,rfl,h,e,r,λb=>zA2 _⟩
noncomputable def D.elems:D->Option Ds|.l _ ds=>some ds|.q ds=>some ds|_=>none
theorem Pc.elems(r:Pc F H v d B)(h:d.elems=some ds):∃a vs A,v=.ref a/\(SqL K H a vs∨SqT K H a vs)/\O6 F H vs ds A/\∀b,A.count b<=B.count b:=by cases d with|l z c=>cases h;obtain⟨a,vs,A,e,h,r,q⟩:=r.lst_inv;exact⟨a,vs,A,e,.inl (.inl (.inl h)),r,q⟩|q c=>cases h;obtain⟨a,vs,e,h,r⟩:=r.tup_inv;exact⟨a,vs,_,e,.inr (.inl (.inl h)),r,λ_=>zA2 _⟩|_=>cases h
theorem O6.len(r:O6 F H vs ds A):vs.length=ds.length:=by induction vs generalizing ds A with|nil=>cases r;rfl|cons v vs a=>cases r with|cons h t=>simp[a t]
theorem qh2(a:H p=none):New H [p]:=⟨λb=>by rw[zAr];simp;split<;>lia,λb o e=>by
 have:b≠p:=λz=>by rw[z,a] at e;cases e
 simp[zAr,Ne.symm this]⟩
theorem qw3(a:H p=none)(r:O6 F H vs ds []):Pc F (upd H p (.l vs)) (.ref p) (.l false ds) [p]:=.l qc5 (r.same (Same.new a))
theorem qN1(a:H p=none)(r:O6 F H vs ds A):Pc F (upd H p (.q vs)) (.ref p) (.q ds) A:=.q qc5 (r.same (Same.new a))
theorem O6.get(r:O6 F H vs ds A)(h:ds[n]?=some d):∃w B,vs[n]?=some w/\Pc F H w d B/\∀b,B.count b<=A.count b:=by obtain⟨w,B,C,a,c,e,_⟩:=r.kid h;exact⟨w,B,a,c,λb=>by have:=e b;lia⟩
theorem O6.atI{ds:List D}{A:List γ}{i:Int}{d:D}(r:O6 F H vs ds A)(h:L2.atI ds i=some d):∃w B,L2.atI vs i=some w/\Pc F H w d B/\∀b,B.count b<=A.count b:=by unfold L2.atI at h ⊢;rw[r.len];cases e:ixN ds.length i with|none=>rw[e] at h;cases h|some j=>rw[e] at h;exact r.get h
theorem O6.sub(r:O6 F H vs ds A)(n m:Nat):∃B,O6 F H ((vs.drop n).take m) ((ds.drop n).take m) B/\∀b,B.count b<=A.count b:=by induction n generalizing vs ds A with|zero=>(induction m generalizing vs ds A with|zero=>exact⟨[],.nil,λb=>by simp⟩|succ m a=>cases r with|nil=>exact⟨[],.nil,λb=>by simp⟩|cons h t=>obtain⟨B,c,q2⟩:=a t;exact⟨_,.cons h (by simpa using c),λb=>by simp only[zA0];have:=q2 b;lia⟩)|succ n a=>cases r with|nil=>exact⟨[],by simpa using O6.nil,λb=>by simp⟩|cons h t=>obtain⟨B,c,q2⟩:=a t;exact⟨B,by simpa using c,λb=>by simp only[zA0];have:=q2 b;lia⟩
noncomputable def D.flat:D->Option V|.non=>some .non|.bl b=>some (.bl b)|.int i=>some (.int i)|.str x=>some (.str x)|_=>none
theorem Pc.flat(r:Pc F H v d B)(h:d.flat=some w):v=w/\flatV v=true:=by cases r<;>cases h<;>exact⟨rfl,rfl⟩
end
noncomputable def big:Nat:=1000000
theorem qj0:big<=Kc:=∅
theorem qG6:∀(xs ys:List D),D.imms (xs++ys)=(D.imms xs&&D.imms ys)|[],ys=>by simp[D.imms]|x::xs,ys=>by simp[D.imms,qG6 xs ys,Bool.and_assoc]
section
variable{F:γ->Prop}{H:Hp}
theorem O6.imms0(r:O6 F H vs ds A)(h:D.imms ds=true):O6 F H vs ds []:=by have:=r.imms h;subst this;exact r
theorem O6.rep(r:O6 F H vs ds []):∀k:Nat,O6 F H (Li k vs).flatten (Li k ds).flatten []|0=>.nil|k+1=>by rw[zBv,zBv,zCo,zCo];exact r.append (B:=[]) (r.rep k)
end
noncomputable def gd(p:Prop)[Decidable p](d:D):Option D:=if p then some d else none
theorem qk0{p:Prop}[Decidable p](h:gd p d=some e):p/\d=e:=by unfold gd at h;split at h;{rename_i hp;exact⟨hp,N5 h⟩};cases h
theorem qh4{p:Prop}[Decidable p](h:p):gd p d=some d:=if_pos h
def Gc:D->D->Option D|.int i,.int j=>some (.int (i+j))|.str a,.str b=>gd (a.length+b.length<=big) (.str (a++b))|.l _ xs,.l _ ys=>gd (D.imms xs=true/\D.imms ys=true/\xs.length+ys.length<=big) (.l false (xs++ys))|_,_=>none
def rAddA:R2:=λx y H Q=>rI0 (λi j=>.int (i+j)) x y H Q∨(∃i j,x=.str i/\y=.str j/\i.length+j.length<=Kc/\Q (.str (i++j)) H)∨rCat x y H Q
theorem qf9:OpR X (Kt .Add) rAddA:=qbb5.or (qaj4.or qbb4)
theorem O6.both{F:γ->Prop}{H:Hp}{x y:D}{B:List γ}(r:O6 F H [v,w] [x,y] B):∃A A2,Pc F H v x A/\Pc F H w y A2:=by cases r with|cons a t=>cases t with|cons b _=>exact⟨_,_,a,b⟩
theorem Pc.int_inv{F:γ->Prop}{H:Hp}{i:Int}{A:List γ}(r:Pc F H v (.int i) A):v=.int i:=by cases r;rfl
theorem Pc.bl_inv{F:γ->Prop}{H:Hp}{b:Bool}{A:List γ}(r:Pc F H v (.bl b) A):v=.bl b:=by cases r;rfl
theorem Pc.str_inv{F:γ->Prop}{H:Hp}{b:Str}{A:List γ}(r:Pc F H v (.str b) A):v=.str b:=by cases r;rfl
theorem qaJ6{x y d:D}(h:Gc x y=some d):(∃i j,x=.int i/\y=.int j/\d=.int (i+j))∨(∃a b,x=.str a/\y=.str b/\a.length+b.length<=big/\d=.str (a++b))∨∃z z' xs ys,x=.l z xs/\y=.l z' ys/\(D.imms xs=true/\D.imms ys=true/\xs.length+ys.length<=big)/\d=.l false (xs++ys):=by unfold Gc at h;split at h;{exact .inl ⟨_,_,rfl,rfl,(N5 h).symm⟩};{exact .inr (.inl ⟨_,_,rfl,rfl,(qk0 h).1,(qk0 h).2.symm⟩)};{exact .inr (.inr ⟨_,_,_,_,rfl,rfl,(qk0 h).1,(qk0 h).2.symm⟩)};cases h
theorem qf8:Bd true rAddA Gc:=by intro F H v w x y B d Q r h q;obtain⟨A,A2,c,e⟩:=r.both;rcases qaJ6 h with⟨i,j,rfl,rfl,rfl⟩|⟨a,b,rfl,rfl,hl,rfl⟩|⟨z,z2,xs,ys,rfl,rfl,hl,rfl⟩;{exact .inl ⟨i,j,c.int_inv,e.int_inv,q _ H [] (.int _) (λ_ _ z=>z) New.nil⟩};{exact .inr (.inl ⟨a,b,c.str_inv,e.str_inv,zAn hl qj0,q _ H [] (.str _) (λ_ _ z=>z) New.nil⟩)};obtain⟨a,k,_,l,m,g,_⟩:=c.lst_inv;obtain⟨b,n,_,e2,o,q2,_⟩:=e.lst_inv;refine .inr (.inr ⟨a,b,k,n,l,e2,m,o,by rw[g.len,q2.len];exact zAn hl.2.2 qj0,λp f=>?_⟩);exact q _ _ [p] (qw3 f ((g.imms0 hl.1).append (q2.imms0 hl.2.1))) (Same.new f) (qh2 f)
noncomputable def small(i:Int):Bool:=decide (-(2 ^ 64)<i)&&decide (i<2 ^ 64)
theorem qW4{i:Int}(h:small i=true):-(2 ^ 64)<i/\i<2 ^ 64:=by have:=zAk.mp h;exact⟨zAd this.1,zAd this.2⟩
def F6:D->D->Option D|.int i,.int j=>gd ((small i||small j)=true) (.int (i*j))|.l _ xs,.int k=>gd (D.imms xs=true/\xs.length*k.toNat<=big/\k<1000000/\-1000000<k) (.l false (Li k.toNat xs).flatten)|_,_=>none
def rMulA:R2:=λx y H Q=>rI CMul (λi j=>.int (i*j)) x y H Q∨rRep x y H Q
theorem qB1:OpR X (Kt .Mult) rMulA:=qba9.or qba6
theorem qaJ3{x y d:D}(h:F6 x y=some d):(∃i j,x=.int i/\y=.int j/\(small i||small j)=true/\d=.int (i*j))∨∃z xs k,x=.l z xs/\y=.int k/\(D.imms xs=true/\xs.length*k.toNat<=big/\k<1000000/\-1000000<k)/\d=.l false (Li k.toNat xs).flatten:=by unfold F6 at h;split at h;{exact .inl ⟨_,_,rfl,rfl,(qk0 h).1,(qk0 h).2.symm⟩};{exact .inr ⟨_,_,_,rfl,rfl,(qk0 h).1,(qk0 h).2.symm⟩};cases h
theorem qB0:Bd true rMulA F6:=by intro F H v w x y B d Q r h q;obtain⟨A,A2,c,e⟩:=r.both;rcases qaJ3 h with⟨i,j,rfl,rfl,hl,rfl⟩|⟨z,xs,k,rfl,rfl,hl,rfl⟩;{exact .inl ⟨i,j,c.int_inv,e.int_inv,(Bool.or_eq_true_iff.mp hl).imp qW4 qW4,q _ H [] (.int _) (λ_ _ z=>z) New.nil⟩};obtain⟨a,g,_,l,m,f,_⟩:=c.lst_inv;refine .inr ⟨a,k,g,l,e.int_inv,m,⋯,⋯,by rw[f.len];exact zAn hl.2.1 qj0,λp b=>?_⟩;exact q _ _ [p] (qw3 b ((f.imms0 hl.1).rep _)) (Same.new b) (qh2 b)
def gI(p:Int->Int->Bool)(f:Int->Int->D):D->D->Option D|.int i,.int j=>gd (p i j=true) (f i j)|_,_=>none
theorem qaU6{p:Int->Int->Bool}{f:Int->Int->D}{x y d:D}(h:gI p f x y=some d):∃i j,x=.int i/\y=.int j/\p i j=true/\d=f i j:=by unfold gI at h;split at h;{exact⟨_,_,rfl,rfl,(qk0 h).1,(qk0 h).2.symm⟩};cases h
theorem os_I(a:∀i j,p i j=true->C i j)(b:∀F H i j,Pc F H (fv i j) (f i j) []):Bd true (rI C fv) (gI p f):=by intro F H v w x y B d Q r h q;obtain⟨A,A2,c,e⟩:=r.both;obtain⟨i,j,rfl,rfl,g,rfl⟩:=qaU6 h;exact⟨i,j,c.int_inv,e.int_inv,a i j g,q _ H [] (b F H i j) (λ_ _ z=>z) New.nil⟩
theorem Gd(a:∀F H i j,Pc F H (fv i j) (f i j) []):Bd true (rI0 fv) (gI (λ_ _=>true) f):=by intro F H v w x y B d Q r h q;obtain⟨i,j,b,c,_,e⟩:=os_I (C:=λ_ _=>True) (fv:=fv) (λ_ _ _=>trivial) a F H v w x y B d Q r h q;exact⟨i,j,b,c,e⟩
def gSub:=gI (λ_ _=>true) λi j=>.int (i-j)
def gDiv:=gI (λ_ j=>decide (0<j)&&decide (j<2 ^ 200)) λi j=>.int (i/j)
def Ia:=gI (λ_ j=>decide (0<j)) λi j=>.int (i%j)
def gLt:=gI (λ_ _=>true) λi j=>.bl (decide (i<j))
def gLe:=gI (λ_ _=>true) λi j=>.bl (decide (i<=j))
def gGt:=gI (λ_ _=>true) λi j=>.bl (decide (j<i))
def gGe:=gI (λ_ _=>true) λi j=>.bl (decide (j<=i))
theorem qA9:Bd true (rI0 λi j=>.int (i-j)) gSub:=Gd λ_ _ _ _=>.int _
theorem qaG2:Bd true (rI CDivB λi j=>.int (i/j)) gDiv:=os_I (λi j h=>by
 have:=zAk.mp h
 exact⟨zAd this.1,zAd this.2⟩) λ_ _ _ _=>.int _
theorem qn4:Bd true (rI (λ_ j=>0<j) λi j=>.int (i%j)) Ia:=os_I (λi j h=>zAd h) λ_ _ _ _=>.int _
theorem Je:Bd true (rI0 λi j=>.bl (decide (i<j))) gLt:=Gd λ_ _ _ _=>.bl _
theorem os_le:Bd true (rI0 λi j=>.bl (decide (i<=j))) gLe:=Gd λ_ _ _ _=>.bl _
theorem Db:Bd true (rI0 λi j=>.bl (decide (j<i))) gGt:=Gd λ_ _ _ _=>.bl _
theorem Jf:Bd true (rI0 λi j=>.bl (decide (j<=i))) gGe:=Gd λ_ _ _ _=>.bl _
noncomputable def D.isN:D->Option Bool|.non=>some true|.u=>none|.hole _=>none|_=>some false
theorem Pc.isN(r:Pc F H v d B)(h:d.isN=some b):decide (v=.non)=b:=by cases r<;>cases h<;>rfl
def gIs:D->D->Option D|x,.non=>x.isN.map .bl|.bl a,.bl b=>some (.bl (a==b))|_,_=>none
def rIs:R2:=λx y H Q=>(y=.non/\Q (.bl (decide (x=.non))) H)∨(∃b c,x=.bl b/\y=.bl c/\Q (.bl (b==c)) H)
theorem qaU5{x y d:D}(h:gIs x y=some d):(y=.non/\∃b,x.isN=some b/\d=.bl b)∨∃a b,x=.bl a/\y=.bl b/\d=.bl (a==b):=by unfold gIs at h;split at h;{obtain⟨b,e,h⟩:=zAa.mp h;exact .inl ⟨rfl,b,e,h.symm⟩};{exact .inr ⟨_,_,rfl,rfl,(N5 h).symm⟩};cases h
theorem Pc.non_inv{F:γ->Prop}{H:Hp}{A:List γ}(r:Pc F H v .non A):v=.non:=zAd (r.isN rfl)
theorem D9:Bd true rIs gIs:=by intro F H v w x y B d Q r h q;obtain⟨A,A2,c,f⟩:=r.both;rcases qaU5 h with⟨rfl,b,e,rfl⟩|⟨a,b,rfl,rfl,rfl⟩;{refine .inl ⟨f.non_inv,?_⟩;rw[c.isN e];exact q _ H [] (.bl _) (λ_ _ z=>z) New.nil};exact .inr ⟨a,b,c.bl_inv,f.bl_inv,q _ H [] (.bl _) (λ_ _ z=>z) New.nil⟩
theorem Dq:OpR X (Kd .Is) rIs:=qbb0.or qbb1
theorem qaR0:OpR X (Kd .IsNot) (λx y H Q=>∃b c,x=.bl b/\y=.bl c/\Q (.bl (b != c)) H):=by intro D8 s f H x y v u Q I a d ⟨b,c,e,e2,q⟩;subst e;subst e2;cases a;cases d;exact PyProof.Rows.isnot_bool ⟨.bl (b != c),H,I,rfl,q⟩
def gIsn:D->D->Option D|x,.non=>x.isN.map λb=>.bl (!b)|.bl a,.bl b=>some (.bl (a != b))|_,_=>none
def rIsn:R2:=λx y H Q=>(y=.non/\Q (.bl (!decide (x=.non))) H)∨(∃b c,x=.bl b/\y=.bl c/\Q (.bl (b != c)) H)
theorem qaJ4{x y d:D}(h:gIsn x y=some d):(y=.non/\∃b,x.isN=some b/\d=.bl !b)∨∃a b,x=.bl a/\y=.bl b/\d=.bl (a != b):=by unfold gIsn at h;split at h;{obtain⟨b,e,h⟩:=zAa.mp h;exact .inl ⟨rfl,b,e,h.symm⟩};{exact .inr ⟨_,_,rfl,rfl,(N5 h).symm⟩};cases h
theorem qv3:Bd true rIsn gIsn:=by intro F H v w x y B d Q r h q;obtain⟨A,A2,c,f⟩:=r.both;rcases qaJ4 h with⟨rfl,b,e,rfl⟩|⟨a,b,rfl,rfl,rfl⟩;{refine .inl ⟨f.non_inv,?_⟩;rw[c.isN e];exact q _ H [] (.bl _) (λ_ _ z=>z) New.nil};exact .inr ⟨a,b,c.bl_inv,f.bl_inv,q _ H [] (.bl _) (λ_ _ z=>z) New.nil⟩
theorem qo5:OpR X (Kd .IsNot) rIsn:=qaQ9.or qaR0
noncomputable def Ez(f:D->D->Option Bool):List D->List D->Option Bool|[],[]=>some true|x::xs,y::ys=>(f x y).bind λa=>(Ez f xs ys).bind λb=>some (a&&b)|_,_=>some false
def eqF(x y:D):Option Bool:=match x.flat,y.flat with|some v,some w=>some (eqV v w)|_,_=>none
def eqZ(x y:D):Option Bool:=eqF x y
def eqN:Nat->D->D->Option Bool|0,x,y=>eqZ x y|n+1,.l _ xs,.l _ ys=>Ez (eqN n) xs ys|n+1,.q xs,.q ys=>Ez (eqN n) xs ys|_,x,y=>eqZ x y
theorem qK0{f:D->D->Option Bool}:∀{xs ys:List D}{b:Bool},Ez f xs ys=some b->∃e:Nat->Bool,(∀i x y,xs[i]?=some x->ys[i]?=some y->f x y=some (e i))/\b=((Lh (min xs.length ys.length)).all e&&xs.length==ys.length)
 |[],[],b,h=>by cases h;exact⟨λ_=>true,λi x y h=>by simp at h,by simp⟩|[],y::ys,b,h=>by cases h;exact⟨λ_=>true,λi x y h=>by simp at h,by simp⟩|x::xs,[],b,h=>by cases h;exact⟨λ_=>true,λi x y _ h=>by simp at h,by simp⟩|x::xs,y::ys,b,h=>by
  obtain⟨a,k,h⟩:=zA1.mp h;obtain⟨o,l,h⟩:=zA1.mp h;cases h;obtain⟨e,m,q2⟩:=qK0 l;refine⟨λi=>match i with|0=>a|i+1=>e i,λi c d g j=>?_,?_⟩
  .cases i with
   |zero=>
    have n:x=c:=by simpa using g
    have e2:y=d:=by simpa using j
    subst n;subst e2;exact k
   |succ i=>exact m i c d (by simpa using g) (by simpa using j)
  rw[q2,zAp,zAp,Nat.add_min_add_right,List.range_succ_eq_map,Lp,Nr];show _=(_&&_&&_);have:(xs.length+1==ys.length+1)=(xs.length==ys.length):=by by_cases h:xs.length=ys.length;{simp[h]};simp[h]
  rw[this,<-Bool.and_assoc];rfl
section
variable{F:γ->Prop}{H:Hp}
theorem Pc.eqF(r1:Pc F H v x A)(c:Pc F H w y B)(h:LV.eqF x y=some b):flatV v=true/\flatV w=true/\eqV v w=b:=by unfold LV.eqF at h;cases a:x.flat with|none=>rw[a] at h;cases h|some d=>cases e2:y.flat with|none=>rw[a,e2] at h;cases h|some e=>rw[a,e2] at h;obtain⟨rfl,f1⟩:=r1.flat a;obtain⟨rfl,f2⟩:=c.flat e2;exact⟨f1,f2,N5 h⟩
theorem qZ4(n:Nat)(x y:D):(eqN (n+1) x y=LV.eqZ x y)∨(∃z xs z' ys,x=.l z xs/\y=.l z' ys)∨∃xs ys,x=.q xs/\y=.q ys:=by cases x with|l z xs=>(cases y with|l z' ys=>exact .inr (.inl ⟨_,_,_,_,rfl,rfl⟩)|_=>exact .inl rfl)|q xs=>(cases y with|q ys=>exact .inr (.inr ⟨_,_,rfl,rfl⟩)|_=>exact .inl rfl)|_=>exact .inl rfl
theorem qU6(x y:D):eqN 0 x y=LV.eqZ x y:=rfl
theorem qZ5(f:∀{v:V}{x y:D}{A B:List γ}{b:Bool},Pc F H v x A->Pc F H v y B->eqN n x y=some b->b=true):∀{vs:List V}{xs ys:List D}{A B:List γ}{b:Bool},O6 F H vs xs A->O6 F H vs ys B->Ez (eqN n) xs ys=some b->b=true:=by
 intro vs;induction vs with
 |nil=>intro xs ys A B b c d h;cases c;cases d;cases h;rfl|cons v vs e=>
  intro xs ys A B b c d h;cases c with|cons p1 t1=>cases d with|cons g t2=>
  obtain⟨a,i,h⟩:=zA1.mp h;obtain⟨k,j,h⟩:=zA1.mp h;cases h;rw[f p1 g i,e t1 t2 j];rfl
theorem qao8:∀{n:Nat}{v:V}{x y:D}{A B:List γ}{b:Bool},Pc F H v x A->Pc F H v y B->eqN n x y=some b->b=true:=by intro n;induction n with|zero=>intro v x y A B b c d h;rw[qU6] at h;obtain⟨f1,f2,rfl⟩:=c.eqF d h;exact qC6 f1|succ n k=>intro v x y A B b c d h;rcases qZ4 n x y with e|⟨z,l,q,m,rfl,rfl⟩|⟨l,m,rfl,rfl⟩;{rw[e] at h;obtain⟨f1,f2,rfl⟩:=c.eqF d h;exact qC6 f1};{obtain⟨a,o,_,rfl,g,i,_⟩:=c.lst_inv;obtain⟨p,j,_,e,f,q2,_⟩:=d.lst_inv;cases e;rw[g] at f;cases f;exact qZ5 k i q2 h};obtain⟨a,o,rfl,g,i⟩:=c.tup_inv;obtain⟨p,j,e,f,q2⟩:=d.tup_inv;cases e;rw[g] at f;cases f;exact qZ5 k i q2 h
theorem O6.getV(r:O6 F H vs ds A)(h:vs[n]?=some w):∃d B,ds[n]?=some d/\Pc F H w d B:=by have c:=r.len;have e:n<vs.length:=(zA5.mp h).1;obtain⟨f,B,a,b,_⟩:=r.get (n:=n) (d:=ds[n]'⋯) (by simp);rw[h] at a;cases a;exact⟨_,B,by simp,b⟩
theorem qZ3(r1:Pc F H v x A)(a:Pc F H w y B)(h:LV.eqZ x y=some b):EqD H n v w b:=by obtain⟨f1,f2,rfl⟩:=r1.eqF a h;exact .flat f1 f2
theorem qav4:∀{n:Nat}{v w:V}{x y:D}{A B:List γ}{b:Bool},Pc F H v x A->Pc F H w y B->eqN n x y=some b->EqD H n v w b:=by
 intro n;induction n with
 |zero=>intro v w x y A B b c d h;rw[qU6] at h;exact qZ3 c d h|succ n I=>
  intro v w x y A B b c d h;rcases qZ4 n x y with e|⟨z,J,L,K,rfl,rfl⟩|⟨J,K,rfl,rfl⟩;{rw[e] at h;exact qZ3 c d h}
  .obtain⟨a,m,_,rfl,k,g,_⟩:=c.lst_inv;obtain⟨o,r,_,rfl,l,q2,_⟩:=d.lst_inv;by_cases f:a=o;{subst f;cases qao8 (n:=n+1) c d h;exact .same a};obtain⟨e,s,rfl⟩:=qK0 h;rw[<-g.len,<-q2.len];by_cases j:m.length=r.length;{rw[j,Nat.min_self,zBf,Bool.and_true,<-j];refine .lsts f k l j λi p q t e2=>?_;obtain⟨x,_,u,C⟩:=g.getV t;obtain⟨y,_,E,G⟩:=q2.getV e2;exact I C G (s i x y u E)};have:(m.length==r.length)=false:=by simpa using j
   rw[this,Bool.and_false];exact .lens f k l j
  obtain⟨a,m,rfl,k,g⟩:=c.tup_inv;obtain⟨o,r,rfl,l,q2⟩:=d.tup_inv;by_cases f:a=o;{subst f;cases qao8 (n:=n+1) c d h;exact .same a};obtain⟨e,s,rfl⟩:=qK0 h;rw[<-g.len,<-q2.len];refine .tups f k l λi p q t e2=>?_;obtain⟨x,_,u,C⟩:=g.getV t;obtain⟨y,_,E,G⟩:=q2.getV e2;exact I C G (s i x y u E)
end
def eqT:D->D->Option Bool|.l _ xs,.l _ ys=>Ez (eqN 20) xs ys|x,y=>eqF x y
theorem Pc.rc(r1:Pc F H v x A)(d:Pc F H w y B)(h:eqT x y=some b):RcD H v w b:=by
 unfold eqT at h;split at h
 .obtain⟨a,f,_,rfl,g,j,_⟩:=r1.lst_inv;obtain⟨u,k,_,rfl,l,q2,_⟩:=d.lst_inv;obtain⟨e,m,rfl⟩:=qK0 h;rw[<-j.len,<-q2.len];by_cases c:f.length=k.length;{rw[c,Nat.min_self,zBf,Bool.and_true,<-c];refine .lsts g l c λi p q n e2=>?_;obtain⟨x,_,o,r⟩:=j.getV n;obtain⟨y,_,s,t⟩:=q2.getV e2;exact qav4 r t (m i x y o s)};have:(f.length==k.length)=false:=by simpa using c
  rw[this,Bool.and_false];exact .lens g l c
 obtain⟨f1,f2,rfl⟩:=r1.eqF d h;exact .flat f1 f2
def gEq(x y:D):Option D:=(eqT x y).map .bl
def gNe(x y:D):Option D:=(eqT x y).map λb=>.bl (!b)
theorem Bl:Bd true rEqD gEq:=by intro F H v w x y B d Q r h q;obtain⟨A,A2,a,c⟩:=r.both;obtain⟨b,e,rfl⟩:=zAa.mp h;exact⟨b,a.rc c e,q _ H [] (.bl _) (λ_ _ z=>z) New.nil⟩
theorem Dr:Bd true rNeD gNe:=by intro F H v w x y B d Q r h q;obtain⟨A,A2,a,c⟩:=r.both;obtain⟨b,e,rfl⟩:=zAa.mp h;exact⟨b,a.rc c e,q _ H [] (.bl _) (λ_ _ z=>z) New.nil⟩
def flats:List D->Option (List V)|[]=>some []|d::r=>d.flat.bind λv=>(flats r).bind λvs=>some (v::vs)
theorem O6.flats:∀{vs a:List V}{ds:List D}{A:List γ},O6 F H vs ds A->LV.flats ds=some a->vs=a/\vs.all L2.flatV=true|_,_,_,_,.nil,h=>by cases h;exact⟨rfl,rfl⟩|_,_,_,_,.cons r t,h=>by obtain⟨v,b,h⟩:=zA1.mp h;obtain⟨vs,c,h⟩:=zA1.mp h;cases h;obtain⟨rfl,f⟩:=r.flat b;obtain⟨rfl,g⟩:=t.flats c;exact⟨rfl,by rw[Lp,f,g];rfl⟩
def Jg(neg:Bool)(x y:D):Option D:=x.flat.bind λv=>y.elems.bind λys=>(flats ys).bind λa=>some (.bl (if neg then !inV v a else inV v a))
theorem Ge:Bd true (rIn K neg) (Jg neg):=by intro F H v w x y B d Q r h q;obtain⟨A,A2,b,c⟩:=r.both;obtain⟨n,e,h⟩:=zA1.mp h;obtain⟨o,i,h⟩:=zA1.mp h;obtain⟨p,j,h⟩:=zA1.mp h;cases h;obtain⟨rfl,f⟩:=b.flat e;obtain⟨a,k,A3,rfl,l,m,_⟩:=c.elems (K:=K) i;obtain⟨rfl,g⟩:=m.flats j;exact⟨a,k,rfl,l,f,g,q _ H [] (.bl _) (λ_ _ z=>z) New.nil⟩
def gIx(x y:D):Option D:=match y with|.int i=>x.elems.bind λys=>atI ys i|_=>none
theorem qaU4{x y d:D}(h:gIx x y=some d):∃i ys,y=.int i/\x.elems=some ys/\atI ys i=some d:=by cases y with|int i=>obtain⟨ys,a,h⟩:=zA1.mp h;exact⟨i,ys,rfl,a,h⟩|_=>cases h
theorem Al:Bd false (rIx K) gIx:=by
 intro F H v w x y B d Q r h q;cases r with|@cons _ _ A _ _ _ l t=>cases t with|@cons _ _ A2 _ _ _ m _=>
 obtain⟨i,u,rfl,n,h⟩:=qaU4 h;obtain rfl:=m.int_inv;obtain⟨a,j,A3,rfl,c,o,p⟩:=l.elems (K:=K) n;obtain⟨f,B',k,g,s⟩:=o.atI h;have e:=q f H B' g (λ_ _ z=>z) (by rw[if_neg ∅];exact λb=>.inl (by rw[zA0];have:=s b;have:=p b;lia));rcases c with c|c;{exact .inl ⟨a,j,i,f,rfl,rfl,c,k,e⟩};exact .inr (.inl ⟨a,j,i,f,rfl,rfl,c,k,e⟩)
section
variable{F:γ->Prop}{H:Hp}
theorem O6.one_inv(r:O6 F H vs [x] B):∃v,vs=[v]/\Pc F H v x B:=by cases r with|cons h t=>cases t;exact⟨_,rfl,by rw[zAg];exact h⟩
theorem O6.two_inv(r:O6 F H vs [x,y] B):∃v w A C,vs=[v,w]/\Pc F H v x A/\Pc F H w y C/\∀b,B.count b=A.count b+C.count b:=by cases r with|cons h t=>cases t with|cons a t=>cases t;exact⟨_,_,_,_,rfl,h,a,λb=>by simp[zA0]⟩
end
noncomputable def fx1(g:D->Option D):Ds->Option D|[x]=>g x|_=>none
noncomputable def fx2(g:D->D->Option D):Ds->Option D|[x,y]=>g x y|_=>none
def CS1(nw:Bool)(r:List V->Hp->VK->Prop)(g:D->Option D):Prop:=∀F H v x B d (Q:VK),Pc F H v x B->g x=some d->(∀v H' B',Pc F H' v d B'->Same H H'->(if nw=true then New H B' else Sub H B B')->Q v H')->r [v] H Q
theorem CS1.ops(h:CS1 nw r g):OpS nw r (fx1 g):=by intro F H c a B d Q r e q;match a,e with|[x],e=>obtain⟨v,rfl,b⟩:=r.one_inv;exact h F H v x B d Q b e q
def Fm(x:D):Option D:=match x with|.str z=>gd (z.length<=big) (.int z.length)|.dct _ kvs=>some (.int kvs.length)|x=>x.elems.map λys=>.int ys.length
def rLenA(K:N7):List V->Hp->VK->Prop:=λxs H Q=>(∃p ys,xs=[.ref p]/\(SqL K H p ys∨SqT K H p ys)/\Q (.int ys.length) H)∨(∃z,xs=[.str z]/\z.length<=Kc/\Q (.int z.length) H)∨(∃a kvs,xs=[V.ref a]/\H a=some (.dK kvs)/\Q (.int kvs.length) H)
theorem qt5:CallR X (.builtin "len") (rLenA X.K):=qV2.or (qV1.or qaw7)
theorem qaS7{x d:D}(h:Fm x=some d):(∃z,x=.str z/\z.length<=big/\d=.int z.length)∨(∃z kvs,x=.dct z kvs/\d=.int kvs.length)∨∃ys,x.elems=some ys/\d=.int ys.length:=by unfold Fm at h;split at h;{exact .inl ⟨_,rfl,(qk0 h).1,(qk0 h).2.symm⟩};{exact .inr (.inl ⟨_,_,rfl,(N5 h).symm⟩)};obtain⟨ys,e,h⟩:=zAa.mp h;exact .inr (.inr ⟨ys,e,h.symm⟩)
theorem qt4:CS1 true (rLenA K) Fm:=by
 intro F H v x B d Q r h q;rcases qaS7 h with⟨z,rfl,hl,rfl⟩|⟨z,kds,rfl,rfl⟩|⟨ys,e,rfl⟩;{exact .inr (.inl ⟨z,by rw[r.str_inv],zAn hl qj0,q _ H [] (.int _) (λ_ _ z=>z) New.nil⟩)}
 .obtain⟨a,b,A,rfl,c,e,f,_⟩:=r.dct_inv;refine .inr (.inr ⟨a,b,rfl,c,?_⟩);have:b.length=kds.length:=by have:=congrArg Ll e;simpa using this
  rw[this];exact q _ H [] (.int _) (λ_ _ z=>z) New.nil
 obtain⟨a,g,A,rfl,c,f,_⟩:=r.elems (K:=K) e;refine .inl ⟨a,g,rfl,c,?_⟩;rw[f.len];exact q _ H [] (.int _) (λ_ _ z=>z) New.nil
noncomputable def gAbs:D->Option D|.int i=>some (.int (if i<0 then -i else i))|_=>none
noncomputable def gInt:D->Option D|.int i=>some (.int i)|.bl b=>some (.int (if b then 1 else 0))|_=>none
theorem qbf1:CS1 true (λxs H Q=>(∃i,xs=[.int i]/\Q (.int i) H)∨∃k,xs=[.bl k]/\Q (.int (if k then 1 else 0)) H) gInt:=by intro F H v x B d Q r h q;cases x with|int i=>cases h;cases r;exact .inl ⟨i,rfl,q _ H [] (.int _) (λ_ _ z=>z) New.nil⟩|bl i=>cases h;cases r;exact .inr ⟨i,rfl,q _ H [] (.int _) (λ_ _ z=>z) New.nil⟩|_=>cases h
def Hg(x:D):Option D:=x.elems.bind λys=>gd (D.imms ys=true) (.l false ys)
theorem qw9:CS1 true (λxs H Q=>∃p ys,xs=[.ref p]/\(SqL K H p ys∨SqT K H p ys)/\∀l,H l=none->Q (.ref l) (upd H l (.l ys))) Hg:=by intro F H v x B d Q r h q;obtain⟨ys,e,h⟩:=zA1.mp h;obtain⟨c,rfl⟩:=qk0 h;obtain⟨a,f,A,rfl,g,i,_⟩:=r.elems (K:=K) e;exact⟨a,f,rfl,g,λp b=>q _ _ [p] (qw3 b (i.imms0 c)) (Same.new b) (qh2 b)⟩
noncomputable def D.intO:D->Option Int|.int k=>some k|_=>none
def pairK:D->Option (Key×D)|.q [a,x]=>a.intO.bind λk=>if x.imm=true then some (.inl k,x) else none|_=>none
def Ib:List D->Option (List (Key×D))|[]=>some []|d::r=>(pairK d).bind λp=>(Ib r).bind λps=>some (p::ps)
noncomputable def E3(kvs:List (Key×D))(k:Key)(v:D):List (Key×D):=if (kvs.any λa=>decide (a.1=k))=true then kvs.map (λa=>if a.1=k then (a.1,v) else a) else kvs++[(k,v)]
def qw4(kvs more:List (Key×D)):List (Key×D):=more.foldl (λacc a=>E3 acc a.1 a.2) kvs
abbrev KP(F:γ->Prop)(H:Hp)(kvs:List (Key×V))(a:List (Key×D)):Prop:=Paired (λ(p:Key×V)(q:Key×D)=>p.1=q.1/\Pc F H p.2 q.2 []) kvs a
section
variable{F:γ->Prop}{H:Hp}
theorem KP.maps(h:KP F H kvs b):kvs.map (·.1)=b.map (·.1)/\O6 F H (kvs.map (·.2)) (b.map (·.2)) []:=by induction h with|nil=>exact⟨rfl,.nil⟩|cons a _ c=>exact⟨by rw[zAz,zAz,a.1,c.1],.cons (A:=[]) (B:=[]) a.2 c.2⟩
theorem KP.any(h:KP F H kvs b)(k:Key):(kvs.any λc=>decide (c.1=k))=b.any λc=>decide (c.1=k):=by induction h with|nil=>rfl|cons a _ d=>rw[zCu,zCu,a.1,d]
theorem KP.append(h:KP F H kvs b)(h':KP F H kvs' kds'):KP F H (kvs++kvs') (b++kds'):=by induction h with|nil=>exact h'|cons a _ c=>exact .cons a c
theorem KP.mapk(h:KP F H kvs c)(r:Pc F H v d []):KP F H (kvs.map λb=>if b.1=k then (b.1,v) else b) (c.map λb=>if b.1=k then (b.1,d) else b):=by induction h with|nil=>exact .nil|@cons p q _ _ a _ ih=>refine .cons ?_ ih;show (if p.1=k then (p.1,v) else p).1=(if q.1=k then (q.1,d) else q).1/\Pc F H (if p.1=k then (p.1,v) else p).2 (if q.1=k then (q.1,d) else q).2 [];rw[<-a.1];split;{exact⟨rfl,r⟩};exact a
theorem KP.put(h:KP F H kvs a)(r:Pc F H v d []):KP F H (putK kvs k v) (E3 a k d):=by unfold putK E3;rw[h.any k];split;{exact h.mapk r};exact h.append (.cons ⟨rfl,r⟩ .nil)
theorem KP.merge(h:KP F H more mored):∀{kvs:List (Key×V)}{b:List (Key×D)},KP F H kvs b->KP F H (qE7 kvs more) (qw4 b mored):=by induction h with|nil=>exact λh=>h|@cons p q _ _ a _ ih=>intro kvs b h;have:=ih (h.put (k:=p.1) a.2);rw[a.1] at this;show KP F H (qE7 (putK kvs p.1 p.2) _) (qw4 (E3 b q.1 q.2) _);rw[a.1];exact this
theorem qaI5{x:D}{i:Int}(h:x.intO=some i):x=.int i:=by cases x with|int k=>cases h;rfl|_=>cases h
theorem qaG0(r:O6 F H vs ds A)(h:Ib ds=some ps):∃kvs,qaC5 H vs kvs/\KP F H kvs ps:=by induction ds generalizing vs A ps with|nil=>cases r;cases h;exact⟨[],.nil,.nil⟩|cons d ds g=>cases r with|cons j t=>obtain⟨p,b,h⟩:=zA1.mp h;obtain⟨ps,l,h⟩:=zA1.mp h;cases h;obtain⟨kvs,m,q2⟩:=g t l;unfold pairK at b;split at b;{rename_i k x;obtain⟨i,n,b⟩:=zA1.mp b;obtain rfl:=qaI5 n;split at b;{rename_i hm;cases b;obtain⟨a,s,rfl,o,e⟩:=j.tup_inv;obtain⟨u,q,A1,A2,rfl,f,c,_⟩:=e.two_inv;obtain rfl:=f.int_inv;have:=c.imm hm;subst this;exact⟨(.inl i,q)::kvs,.cons ⟨a,rfl,o⟩ m,.cons ⟨rfl,c⟩ q2⟩};cases b};cases b
theorem qaR6(b:H p=none)(r:KP F H kvs a):Pc F (upd H p (.dK kvs)) (.ref p) (.dct false a) [p]:=.dct qc5 r.maps.1 (r.maps.2.same (Same.new b))
end
def Hh(x:D):Option D:=match x with|.l _ ys=>(Ib ys).map λps=>.dct false (qw4 [] ps)|_=>none
theorem qaB8:CS1 true qaO4 Hh:=by intro F H v x B d Q r h q;cases x with|l z k=>obtain⟨l,e,rfl⟩:=zAa.mp h;obtain⟨a,f,A,rfl,g,i,_⟩:=r.lst_inv;obtain⟨b,j,q2⟩:=qaG0 i e;exact⟨a,f,b,rfl,g,j,λp c=>q _ _ [p] (qaR6 c (q2.merge .nil)) (Same.new c) (qh2 c)⟩|_=>cases h
noncomputable def D.kind:D->Option String|.non=>some "NoneType" | .bl _=>some "bool" | .int _=>some "int" | .str _=>some "str" | .l _ _=>some "list" | .q _=>some "tuple" | .dct _ _=>some "dict"|_=>none
theorem Pc.kind(r:Pc F H v d B)(h:d.kind=some t):Bn H v=some t:=by cases r with|q e _=>cases h;exact qaI2 e|l e _=>cases h;exact qal9 e|lstZ e _ _=>cases h;exact qal9 e|dct e _ _=>cases h;exact qaA5 e|dctZ e _ _ _=>cases h;exact qaA5 e|_=>cases h<;>rfl
noncomputable def isTy(n:String):Bool:=n=="bool" || n=="int" || n=="str" || n=="list" || n=="tuple" || n=="dict"
def gIsi(x y:D):Option D:=match y with|.ty n=>if isTy n=true then x.kind.map λt=>.bl (Hv t n) else none|_=>none
def CS2(nw:Bool)(r:List V->Hp->VK->Prop)(g:D->D->Option D):Prop:=∀F H v w x y A B d (Q:VK),Pc F H v x A->Pc F H w y B->g x y=some d->(∀v H' B',Pc F H' v d B'->Same H H'->(if nw=true then New H B' else Sub H (A++B) B')->Q v H')->r [v,w] H Q
theorem CS2.ops(h:CS2 nw r g):OpS nw r (fx2 g):=by intro F H l c B d Q r e q;match c,e with|[x,y],e=>obtain⟨v,w,A,C,rfl,f,i,j⟩:=r.two_inv;refine h F H v w x y A C d Q f i e λu H' B' k s a=>q u H' B' k s ?_;cases nw with|true=>exact a|false=>rw[if_neg ∅] at a ⊢;exact λb=>(a b).imp (λz=>by rw[zA0] at z;have:=j b;lia) id
theorem qU8:CS2 true rIsi gIsi:=by intro F H v w x y A B d Q b c e q;cases y with|ty n=>cases c;have e:(if isTy n=true then x.kind.map λt=>D.bl (Hv t n) else none)=some d:=e;by_cases a:isTy n=true;{rw[if_pos a] at e;obtain⟨t,f,rfl⟩:=zAa.mp e;refine⟨v,n,t,rfl,b.kind f,?_,q _ H [] (.bl _) (λ_ _ z=>z) New.nil⟩;simp only[isTy,Bool.or_eq_true,zC1] at a;simp only[zAi,zBk,or_false];rcases a with ((((h|h)|h)|h)|h)|h;{exact .inl h};{exact .inr (.inl h)};{exact .inr (.inr (.inl h))};{exact .inr (.inr (.inr (.inl h)))};{exact .inr (.inr (.inr (.inr (.inl h))))};exact .inr (.inr (.inr (.inr (.inr h))))};rw[if_neg a] at e;cases e|_=>cases e
def D.isC(C:γ)(x:D):Option D:=match x with|.ins _ C' _=>if C'=C then some (.bl true) else none|x=>x.kind.map λ_=>.bl false
def gIsO(C:γ)(x y:D):Option D:=match y with|.adr a=>if a=C then x.isC C else none|_=>none
theorem qaT5{C:γ}{x y d:D}(h:gIsO C x y=some d):y=.adr C/\((∃z fs,x=.ins z C fs/\d=.bl true)∨∃t,x.kind=some t/\d=.bl false):=by
 cases y with
 |adr a=>
  have h:(if a=C then x.isC C else none)=some d:=h;by_cases b:a=C
  .rw[if_pos b] at h;subst b;refine⟨rfl,?_⟩;have k:(x.kind.map λ_=>D.bl false)=some d->∃t,x.kind=some t/\d=.bl false:=λe=>by obtain⟨t,c,e⟩:=zAa.mp e;exact⟨t,c,e.symm⟩
   cases x with|ins z C' fs=>have h:(if C'=a then some (D.bl true) else none)=some d:=h;by_cases b:C'=a;{rw[if_pos b] at h;exact .inl ⟨z,fs,by rw[b],(N5 h).symm⟩};rw[if_neg b] at h;cases h|_=>exact .inr (k h)
  rw[if_neg b] at h;cases h
 |_=>cases h
theorem qbf0:CS2 true (rIsO C) (gIsO C):=by intro F H v w x y A B d Q b c e q;obtain⟨rfl,h⟩:=qaT5 e;cases c;rcases h with⟨z,fs,rfl,rfl⟩|⟨t,ht,rfl⟩;{obtain⟨p,f,a,_,rfl,h,_,_,_⟩:=b.ins_inv;exact⟨_,rfl,.inl ⟨p,f,a,rfl,h,q _ H [] (.bl _) (λ_ _ z=>z) New.nil⟩⟩};exact⟨_,rfl,.inr ⟨t,b.kind ht,q _ H [] (.bl _) (λ_ _ z=>z) New.nil⟩⟩
def gMax2:=gI (λ_ _=>true) λi j=>.int (if j>i then j else i)
def gMin2:=gI (λ_ _=>true) λi j=>.int (if j<i then j else i)
theorem cs_I2{f:Int->Int->Int}:CS2 true (λxs H Q=>∃i j,xs=[.int i,.int j]/\Q (.int (f i j)) H) (gI (λ_ _=>true) λi j=>.int (f i j)):=by intro F H v w x y A B d Q a b e q;obtain⟨i,j,rfl,rfl,_,rfl⟩:=qaU6 e;exact⟨i,j,by rw[a.int_inv,b.int_inv],q _ H [] (.int _) (λ_ _ z=>z) New.nil⟩
theorem qaB7:CS2 true (λxs H Q=>∃i j,xs=[.int i,.int j]/\Q (.int (if j>i then j else i)) H) gMax2:=cs_I2
theorem qap0:CS2 true (λxs H Q=>∃i j,xs=[.int i,.int j]/\Q (.int (if j<i then j else i)) H) gMin2:=cs_I2
noncomputable def bools:List D->Option (List Bool)|[]=>some []|.bl b::r=>(bools r).map λbs=>b::bs|_=>none
theorem O6.bools:∀{vs:List V}{ds:List D}{A:List γ}{bs:List Bool},O6 F H vs ds A->LV.bools ds=some bs->vs=bs.map V.bl:=by intro vs ds;induction ds generalizing vs with|nil=>intro A bs r h;cases r;cases h;rfl|cons d ds a=>intro A bs r h;cases r with|cons c t=>cases d with|bl b=>obtain⟨e,f,rfl⟩:=zAa.mp h;cases c;rw[a t f];rfl|_=>cases h
def gAll(x:D):Option D:=match x with|.l _ ys=>(bools ys).map λbs=>.bl (bs.all id)|_=>none
theorem qaK6:CS1 true (λxs H Q=>∃(a:γ)(bs:List Bool),xs=[.ref a]/\SqL K H a (bs.map V.bl)/\Q (.bl (bs.all id)) H) gAll:=by intro F H v x B d Q r h q;cases x with|l z f=>obtain⟨bs,b,rfl⟩:=zAa.mp h;obtain⟨a,g,A,rfl,c,e,_⟩:=r.lst_inv;cases e.bools b;exact⟨a,bs,rfl,.inl (.inl c),q _ H [] (.bl _) (λ_ _ z=>z) New.nil⟩|_=>cases h
noncomputable def intsD:List D->Option (List Int)|[]=>some []|.int i::r=>(intsD r).map λis=>i::is|_=>none
theorem O6.intsD:∀{vs:List V}{ds:List D}{A:List γ}{bs:List Int},O6 F H vs ds A->LV.intsD ds=some bs->vs=bs.map V.int:=by intro vs ds;induction ds generalizing vs with|nil=>intro A bs r h;cases r;cases h;rfl|cons d ds a=>intro A bs r h;cases r with|cons c t=>cases d with|int b=>obtain⟨e,f,rfl⟩:=zAa.mp h;cases c;rw[a t f];rfl|_=>cases h
def B7(xs:List D)(lo hi:Option Int):List D:=(xs.drop (HT.sIx xs.length 0 lo)).take (HT.sIx xs.length xs.length hi-HT.sIx xs.length 0 lo)
def gSl(x:D)(lo hi:Option Int):Option D:=match x with|.l _ ys=>gd (D.imms (B7 ys lo hi)=true) (.l false (B7 ys lo hi))|.scr ns=>some (.l false ((ns.drop (HT.sIx ns.length 0 lo)).take (HT.sIx ns.length ns.length hi-HT.sIx ns.length 0 lo) |>.map .int))|.q ys=>gd (D.imms (B7 ys lo hi)=true/\(B7 ys lo hi).length<ys.length) (.q (B7 ys lo hi))|_=>none
theorem qI3{F:γ->Prop}{H:Hp}:∀ns:List Int,O6 F H (ns.map V.int) (ns.map D.int) []|[]=>.nil|n::r=>.cons (A:=[]) (B:=[]) (.int n) (qI3 r)
theorem os_sl{K:N7}{F:γ->Prop}{H:Hp}{x d:D}{lo hi:Option Int}{B:List γ}(r:Pc F H v x B)(h:gSl x lo hi=some d)(f:∀ys,x≠.q ys)(q:∀v H' B',Pc F H' v d B'->Same H H'->New H B'->Q v H'):rSlL K v lo hi H Q:=by cases x with|l z ys=>obtain⟨g,rfl⟩:=qk0 h;obtain⟨a,i,A,rfl,j,c,_⟩:=r.lst_inv;refine⟨a,i,rfl,.inl (.inl j),λp b=>q _ _ [p] (qw3 b ?_) (Same.new b) (qh2 b)⟩;obtain⟨B',k,l⟩:=c.sub (HT.sIx ys.length 0 lo) (HT.sIx ys.length ys.length hi-HT.sIx ys.length 0 lo);unfold Ga;rw[c.len];exact k.imms0 g|scr m=>(cases h;cases r with|scr e=>refine⟨_,_,rfl,.inl (.inr ⟨_,e⟩),λp b=>q _ _ [p] (qw3 b ?_) (Same.new b) (qh2 b)⟩;unfold Ga;rw[<-Mx,<-L6,zA9];exact qI3 _)|q ys=>exact absurd rfl (f ys)|_=>cases h
def D.fld(C:γ)(f:Str):D->Option D|.ins _ C' fs=>if C'=C then fs.lookup f else none|_=>none
theorem qal2:∀{c:List (Str×V)}{a:List (Str×D)}{A:List γ}{f:Str}{d:D},c.map (·.1)=a.map (·.1)->O6 F H (c.map (·.2)) (a.map (·.2)) A->a.lookup f=some d->∃v B,c.lookup f=some v/\Pc F H v d B/\∀b,B.count b<=A.count b:=by
 intro c;induction c with
 |nil=>intro a A f d e r h;cases a with|nil=>cases h|cons _ _=>simp at e
 |cons p c i=>
  intro a A f d e r h;cases a with
  |nil=>simp at e|cons q a=>
   obtain⟨k,v⟩:=p;obtain⟨j,s⟩:=q;have l:k=j:=by simp at e;exact e.1
   have e2:c.map (·.1)=a.map (·.1):=by simp at e;simpa using e.2
   subst l;cases r with|@cons _ _ A1 _ _ A2 r1 t=>rw[zAv] at h ⊢;cases g:f==k with|true=>rw[g] at h;cases h;exact⟨v,A1,rfl,r1,λb=>by rw[zA0];lia⟩|false=>rw[g] at h;obtain⟨w,B,m,n,o⟩:=i e2 t h;exact⟨w,B,m,n,λb=>by rw[zA0];have:=o b;lia⟩
theorem qaQ7(c:Cls K C)(n:qh1 K C f):OpS1 false (λx H Q=>∃a C dx fs v,x=.ref a/\H a=some (.ins C dx fs)/\Cls K C/\qh1 K C f/\fs.lookup f=some v/\Q v H) (D.fld C f):=by intro F H v x B d Q r h q;cases x with|ins z C' fs=>have i:(if C'=C then fs.lookup f else none)=some d:=h;by_cases j:C'=C;{rw[if_pos j] at i;subst j;obtain⟨a,dx,k,A,rfl,l,e,m,g⟩:=r.ins_inv;obtain⟨w,B',o,p,s⟩:=qal2 e m i;refine⟨a,C',dx,k,w,rfl,l,c,n,o,q w H B' p (λ_ _ z=>z) ?_⟩;rw[if_neg ∅];exact λb=>.inl (by have:=s b;have:=g b;lia)};rw[if_neg j] at i;cases i|_=>cases h
noncomputable def D.key:D->Option Key|.int i=>some (.inl i)|.str x=>some (.inr x)|_=>none
noncomputable def Dv(a:List (Key×D))(k:Key):Option D:=(a.find? λb=>decide (b.1=k)).map (·.2)
theorem Pc.key(r:Pc F H v x B)(h:x.key=some k):v=kV k:=by cases r<;>cases h<;>rfl
theorem qaL9:∀{kvs:List (Key×V)}{a:List (Key×D)}{A:List γ}(k:Key),kvs.map (·.1)=a.map (·.1)->O6 F H (kvs.map (·.2)) (a.map (·.2)) A->(Dv a k=none/\Ew kvs k=none)∨∃v d B,Dv a k=some d/\Ew kvs k=some v/\Pc F H v d B/\∀b,B.count b<=A.count b:=by
 intro kvs;induction kvs with
 |nil=>intro a A k e r;cases a with|nil=>exact .inl ⟨rfl,rfl⟩|cons _ _=>simp at e
 |cons p kvs g=>
  intro a A k e r;cases a with
  |nil=>simp at e|cons q a=>
   obtain⟨c,v⟩:=p;obtain⟨i,d⟩:=q;have j:c=i:=by simp at e;exact e.1
   have e2:kvs.map (·.1)=a.map (·.1):=by simp at e;simpa using e.2
   subst j;cases r with
   |@cons _ _ A1 _ _ A2 r1 t=>
    by_cases f:c=k;{exact .inr ⟨v,d,A1,by simp[Dv,f],qQ5 f,r1,λb=>by rw[zA0];lia⟩};have l:Dv ((c,d)::a) k=Dv a k:=by simp[Dv,zC8,f]
    rw[l,qQ6 (p:=(c,v)) f];rcases g k e2 t with h|⟨w,m,B,n,o,s,u⟩;{exact .inl h};exact .inr ⟨w,m,B,n,o,s,λb=>by rw[zA0];have:=u b;lia⟩
section
variable{c:Vc}{X:Cx}{a b e:Kz}{L J own nw:Bool}{fa fb f:FV}{r:R2}{g:D->D->Option D}{w E t:VT}{pos:Pos}
theorem vnm(i:Nat)(b:X.N[i]?=some x:=by rfl)(d:Vis X.env.scope x:=by first|exact O3 rfl|exact O2 (O3 rfl)|exact O2 (O2 rfl))(e:N' x:=by decide)(a:(x==("__classdict__" : Str))=false:=by decide):VV c X (.Name x pos) false (rdN i):=qaL8 (qn3 b d e a) (qn7 b)
noncomputable def kC(d:D):FV:=λ_=>some d
theorem Af{i:Int}:VV c X (.Constant (.int i) j pos) true (kC (.int i)):=Gb qM0 λ_ _=>.int _
theorem vbl{i:Bool}:VV c X (.Constant (.bool i) j pos) true (kC (.bl i)):=Gb pe_bl λ_ _=>.bl _
theorem Be:VV c X (.Constant .none j pos) true (kC .non):=Gb qaQ0 λ_ _=>.non
theorem E4{i:Str}:VV c X (.Constant (.str i) j pos) true (kC (.str i)):=Gb qba0 λ_ _=>.str _
theorem vgi{x:Str}{n:Int}{k:Tok}(hm:X.mg x=some (.int n k))(a:Gl X x:=by rfl)(b:N' x:=by decide):VV c X (.Name x pos) true (kC (.int n)):=Gb (qaz7 hm a b) λ_ _=>.int _
theorem vcls(C:γ)(hm:X.mg x=some (.ref C))(a:Gl X x:=by rfl)(b:N' x:=by decide):VV c X (.Name x pos) true (kC (.adr C)):=Gb (qba1 C hm a b) λ_ _=>.adr _
theorem vty(n:String)(hm:X.mg x=none)(a:Gl X x:=by rfl)(b:Kg x=some (.type n):=by rfl)(d:x ≠ "__name__" := by decide)(e:N' x:=by decide):VV c X (.Name x pos) true (kC (.ty n)):=Gb (qaF8 n hm a b d e) λ_ _=>.ty _
theorem vpow{i j:Int}(k:Int)(a:i ^ j.toNat=k:=by decide)(b:0<=j:=by decide)(h1:j<=1000000:=by decide)(h2:i.natAbs<2 ^ 64:=by decide):VV c X (.BinOp (.Constant (.int i) m p) .Pow (.Constant (.int j) n q) pos) true (kC (.int k)):=Gb (qaP8 k a b h1 h2) λ_ _=>.int _
def P2(X:Cx)(e a b:Kz)(r:R2):Prop:=∀w E,PE X a w->PE X b E->PE X e (tOp r w E)
def T2(X:Cx)(e a b:Kz)(r:R2):Prop:=∀w E,PE X a w->PE X b E->PT X e (tTest (tOp r w E))
theorem Ap{op:Operator}(c:OpR X (Kt op) r):P2 X (.BinOp a op b pos) a b r:=λ_ _ d e=>pe_op c d e
theorem A7(c:OpR X (Kd op) r)(hm:behindInMarks op b=false):P2 X (.Compare a [op] [b] pos) a b r:=λ_ _ d e=>qaQ1 c d e hm
theorem As(c:OpR X (Kd op) r)(hm:behindInMarks op b=false):T2 X (.Compare a [op] [b] pos) a b r:=λ_ _ d e=>qaz1 c d e hm
theorem Aq(c:IxR X r)(d:qaq5 b:=by exact λ_ _=>rfl):P2 X (.Subscript a b pos) a b r:=λ_ _ e f=>pe_ix c e f d
theorem v2(p:P2 X e a b r)(h:Bd nw r g)(d:VV c X a L fa)(f:VV c X b J fb):VV c X e (nw||(L&&J)) (f2 g fa fb):=⟨PE.mono (p _ _ d.h f.h) (op_vv h)⟩
theorem e2(p:P2 X e a b r)(h:Bd true r g)(d:VE c X a w)(f:VE c X b E):VE c X e (t2 g w E):=⟨PE.mono (p _ _ d.h f.h) (op_ee d f h),qax9 d f⟩
theorem e2v(p:P2 X e a b r)(h:Bd true r g)(d:VE c X a w)(f:VV c X b J fb):VE c X e (t2v g w fb):=⟨PE.mono (p _ _ d.h f.h) (op_ev d h),qaD5 d⟩
theorem e2P(p:P2 X e a b r)(h:Bd false r g)(d:VE c X a w)(f:VE c X b E):VE c X e (t2 g w E):=⟨PE.mono (p _ _ d.h f.h) (qbb3 d f h),qax9 d f⟩
theorem e2vP(p:P2 X e a b r)(h:Bd false r g)(d:VE c X a w)(f:VV c X b J fb):VE c X e (Jd g w fb):=⟨PE.mono (p _ _ d.h f.h) (qbb2 d h),qar5 d⟩
theorem e2n(i:Nat)(p:P2 X e (.Name x p0) b r)(h:Bd true r g)(a:VE c X b E)(f:X.N[i]?=some x:=by rfl)(j:Vis X.env.scope x:=by first|exact O3 rfl|exact O2 (O3 rfl)|exact O2 (O2 rfl))(k:N' x:=by decide)(d:(x==("__classdict__" : Str))=false:=by decide):VE c X e (t2n g i E):=⟨λD8 s o H Q I q=>p _ _ (qn3 f j k d) a.h D8 s o H Q I (op_ne a h (qn7 f D8 o H s I) q),qaD6 a⟩
theorem e2nP(i:Nat){x:Str}{p0:Pos}(p:P2 X e (.Name x p0) b r)(h:Bd nw r g)(a:VE c X b E)(f:X.N[i]?=some x:=by rfl)(j:Vis X.env.scope x:=by first|exact O3 rfl|exact O2 (O3 rfl)|exact O2 (O2 rfl))(k:N' x:=by decide)(d:(x==("__classdict__" : Str))=false:=by decide):VE c X e (t2nP g i E):=⟨λD8 s o H Q I q=>p _ _ (qn3 f j k d) a.h D8 s o H Q I (qba8 a h (qn7 f D8 o H s I) q),qar6 a⟩
noncomputable def D.asB:D->Option Bool|.bl b=>some b|_=>none
theorem Pc.asB(r:Pc F H v d B)(h:d.asB=some k):v=.bl k:=by cases r<;>cases h<;>rfl
def ttV(f:FV):VTT:=λds Q _=>orF ((f ds).bind D.asB) λb=>Q b ds
def ttE(t:VT):VTT:=λds Q xe=>t ds (λd a=>orF d.asB λb=>Q b a) xe
theorem qaM4:∀o H Q,Dy c (ttV f) o H Q->liftV c own f o H (λx H'=>∃k,x=.bl k/\Q k H'):=by rintro o H Q ⟨F,a,A,h,S,x,q⟩;obtain⟨b,e,q⟩:=qa7.mp q;obtain⟨d,g,e2⟩:=zA1.mp e;exact⟨F,a,A,d,S,g,λv H' B r s _=>⟨b,r.asB e2,q H' F A (S.same s) (.same s)⟩⟩
theorem qaM5(h:VE c X e t):∀o H Q,Dy c (ttE t) o H Q->Bj c t o H (λx H'=>∃k,x=.bl k/\Q k H'):=by rintro o H Q ⟨F,a,A,f,S,x,q⟩;refine⟨F,a,A,f,S,x,h.m _ _ _ _ _ (λd g q v H1 F1 T A1 i S1 l j=>?_) (λ_ _ z=>z) q⟩;obtain⟨b,e,q⟩:=qa7.mp q;exact⟨b,i.asB e,q H1 F1 A1 S1 (j.count λb=>by rw[zA0];lia)⟩
theorem qaf0:∀ds (Q Q':Bool->Ds->Prop) (xe b:XKd),(∀d a,Q d a->Q' d a)->(∀x a,xe x a->b x a)->ttV f ds Q xe->ttV f ds Q' b:=λds Q Q' xe b c _=>qa5 λd=>c d ds
theorem qaf1(h:VE c X e t):∀ds (Q Q':Bool->Ds->Prop) (xe b:XKd),(∀d a,Q d a->Q' d a)->(∀x a,xe x a->b x a)->ttE t ds Q xe->ttE t ds Q' b:=λds Q Q' xe b f g=>h.m _ _ _ _ _ (λd a=>qa5 λz=>f z a) g
theorem tv(h:VV c X e own f)(a:∀whole,isTrue e X.env whole=(do let v<-whole;standAt e.pos;holding [v] (truthy v)):=by intro _;rfl):VTe c X e (ttV f):=⟨PT.mono (qaE8 h.h a) qaM4,qaf0⟩
theorem te(h:VE c X e t)(a:∀whole,isTrue e X.env whole=(do let v<-whole;standAt e.pos;holding [v] (truthy v)):=by intro _;rfl):VTe c X e (ttE t):=⟨PT.mono (qaE8 h.h a) (qaM5 h),qaf1 h⟩
theorem q2(p:T2 X e a b r)(h:Bd nw r g)(d:VV c X a L fa)(f:VV c X b J fb):VTe c X e (ttV (f2 g fa fb)):=⟨PT.mono (p _ _ d.h f.h) λo H Q q=>op_vv h o H _ (qaM4 o H Q q),qaf0⟩
theorem q2v(p:P2 X e a b r)(i:T2 X e a b r)(h:Bd true r g)(d:VE c X a w)(f:VV c X b J fb):VTe c X e (ttE (t2v g w fb)):=⟨PT.mono (i _ _ d.h f.h) λo H Q q=>op_ev d h o H _ (qaM5 (e2v p h d f) o H Q q),qaf1 (e2v p h d f)⟩
variable{y G:VTT}{rest:List Kz}
def Ep(t:VTT):VTT:=λds Q xe=>t ds (λb a=>Q (!b) a) xe
theorem B8(h:VTe c X a y):VTe c X (.UnaryOp .Not a pos) (Ep y):=by refine⟨PT.mono (qaO7 h.h) λo H Q ⟨F,e,A,f,S,x,q⟩=>⟨F,e,A,f,S,x,q⟩,λe Q Q' f g i j=>h.m _ _ _ _ _ (λb d=>i _ d) j⟩
structure VTw(c:Vc)(X:Cx)(e:Kz)(t:VTT):Prop where
 h:PW X e (Dy c t)
 m:∀ds (Q Q':Bool->Ds->Prop) (xe xe':XKd),(∀d ds',Q d ds'->Q' d ds')->(∀x ds',xe x ds'->xe' x ds')->t ds Q xe->t ds Q' xe'
theorem VTw.te(h:VTw c X e y):VTe c X e y:=⟨h.h.pt,h.m⟩
theorem Gf(h:VTe c X a y):VTw c X (.BoolOp .And [a] pos) y:=⟨qaO6 h.h,h.m⟩
theorem tor1(h:VTe c X a y):VTw c X (.BoolOp .Or [a] pos) y:=⟨qaZ1 h.h,h.m⟩
def ttAnd(t u:VTT):VTT:=λds Q xe=>t ds (λk ds1=>if k=true then u ds1 Q xe else Q false ds1) xe
def ttOr(t u:VTT):VTT:=λds Q xe=>t ds (λk ds1=>if k=true then Q true ds1 else u ds1 Q xe) xe
theorem qX7{k:Bool->St->Hp->(Bool->Hp->Prop)->Prop}{K:Bool->Ds->(Bool->Ds->Prop)->XKd->Prop}(h:VTe c X a y)(i:∀(b:Bool) F ds A xe o H (Q:Bool->Hp->Prop),Pf c F H o ds A->Xc c xe F H A->K b ds (λf e=>∀H' F' A',Pf c F' H' o e A'->Pe F H A F' H' A'->Q f H') xe->k b o H Q)(hm:∀(b:Bool) ds (Q Q':Bool->Ds->Prop) (xe:XKd),(∀d e,Q d e->Q' d e)->K b ds Q xe->K b ds Q' xe):∀o H Q,Dy c (λds Q xe=>y ds (λb ds1=>K b ds1 Q xe) xe) o H Q->Dy c y o H (λb H1=>k b o H1 Q):=by rintro o H Q ⟨F,ds,A,xe,S,x,q⟩;refine⟨F,ds,A,xe,S,x,h.m _ _ _ _ _ (λb ds1 q H1 F1 A1 S1 g=>?_) (λ_ _ z=>z) q⟩;exact i b F1 ds1 A1 xe o H1 Q S1 (x.step g) (hm b ds1 _ _ xe (λf e q H' F' A' S' j=>q H' F' A' S' (g.trans j)) q)
theorem Jh(g:VTe c X a y)(i:VTw c X (.BoolOp .And (b::rest) pos) G):VTw c X (.BoolOp .And (a::b::rest) pos) (ttAnd y G):=by refine⟨PW.mono (qaZ2 g.h i.h) ?_,λd Q Q' e l f j=>g.m _ _ _ _ _ (λk n q=>?_) j⟩;{refine qX7 (k:=λb o H Q=>if b=true then Dy c G o H Q else Q false H) (K:=λb d Q e=>if b=true then G d Q e else Q false d) g ?_ ?_;{intro b F d A e o H Q S x q;cases b with|true=>rw[if_pos rfl] at q ⊢;exact⟨F,d,A,e,S,x,q⟩|false=>rw[if_neg ∅] at q ⊢;exact q H F A S Pe.refl};intro b d Q Q' e f;cases b with|true=>rw[if_pos rfl,if_pos rfl];exact i.m _ _ _ _ _ f λ_ _ z=>z|false=>rw[if_neg ∅,if_neg ∅];exact f _ _};cases k with|true=>rw[if_pos rfl] at q ⊢;exact i.m _ _ _ _ _ f j q|false=>rw[if_neg ∅] at q ⊢;exact f _ _ q
theorem tor(g:VTe c X a y)(i:VTw c X (.BoolOp .Or (b::rest) pos) G):VTw c X (.BoolOp .Or (a::b::rest) pos) (ttOr y G):=by refine⟨PW.mono (pw_or g.h i.h) ?_,λd Q Q' e l f j=>g.m _ _ _ _ _ (λk n q=>?_) j⟩;{refine qX7 (k:=λb o H Q=>if b=true then Q true H else Dy c G o H Q) (K:=λb d Q e=>if b=true then Q true d else G d Q e) g ?_ ?_;{intro b F d A e o H Q S x q;cases b with|false=>rw[if_neg ∅] at q ⊢;exact⟨F,d,A,e,S,x,q⟩|true=>rw[if_pos rfl] at q ⊢;exact q H F A S Pe.refl};intro b d Q Q' e f;cases b with|false=>rw[if_neg ∅,if_neg ∅];exact i.m _ _ _ _ _ f λ_ _ z=>z|true=>rw[if_pos rfl,if_pos rfl];exact f _ _};cases k with|false=>rw[if_neg ∅] at q ⊢;exact i.m _ _ _ _ _ f j q|true=>rw[if_pos rfl] at q ⊢;exact f _ _ q
end
section
variable{c:Vc}{X:Cx}{a b e:Kz}{oa ob own nw:Bool}{fa fb f:FV}{ta tb t:VT}{Y:Pos}{rest:List Kz}
def tSeqE(ta:VT)(k:D->VT):VT:=λds Q xe=>ta ds (λx ds1=>k x ds1 Q xe) xe
theorem qaH7{k:V->St->Hp->VK->Prop}(i:VE c X a ta)(hm:∀x ds (Q Q':DK) (xe f:XKd),(∀d e,Q d e->Q' d e)->(∀x e,xe x e->f x e)->K x ds Q xe->K x ds Q' f)(j:∀F H W v x T,Pc F H v x T->∀Q,(∃ds A xe,Pf c F H W ds A/\Xc c xe F H A/\K x ds (λd e=>∀v H' F' T A',Pc F' H' v d T->Pf c F' H' W e A'->Ok F' H' (T++A')->Pe F H A F' H' (T++A')->Q v H') xe)->k v W H Q):∀W H Q,Bj c (tSeqE ta K) W H Q->Bj c ta W H (λx H1=>k x W H1 Q):=by
 rintro W H Q ⟨F,ds,A,xe,S,x,q⟩;refine⟨F,ds,A,xe,S,x,i.m _ _ _ _ _ (λd g q v H1 F1 T A1 l S1 p n=>?_) (λ_ _ z=>z) q⟩;have h:Pe F H A F1 H1 A1:=n.count λb=>by rw[zA0];lia
 exact j F1 H1 W v d T l Q ⟨g,A1,xe,S1,x.step h,hm d g _ _ _ _ (λt e q w H' F' T' A' r S' o s=>q w H' F' T' A' r S' o (h.trans s)) (λ_ _ z=>z) q⟩
def Ji(ta tb:VT):VT:=tSeqE ta λx ds Q xe=>orF x.asB λk=>if k=true then tb ds Q xe else Q (.bl false) ds
theorem qO1{p q a b:Prop}(h1:p->a)(h2:q->b):(if k=true then p else q)->(if k=true then a else b):=by cases k with|true=>rw[if_pos rfl,if_pos rfl];exact h1|false=>rw[if_neg ∅,if_neg ∅];exact h2
theorem qaq3(g:VE c X e tb):∀(x:D) ds (Q Q':DK) (xe b:XKd),(∀d a,Q d a->Q' d a)->(∀x a,xe x a->b x a)->(orF x.asB λk=>if k=true then tb ds Q xe else Q (.bl false) ds)->(orF x.asB λk=>if k=true then tb ds Q' b else Q' (.bl false) ds):=λx ds Q Q' xe b f h=>qa5 λk=>qO1 (g.m _ _ _ _ _ f h) (f _ _)
theorem Ic{op:PySem.BoolOp}(h:VE c X a ta):VE c X (.BoolOp op [a] Y) ta:=⟨qas8 h.h,h.m⟩
theorem Gg(e:VE c X a ta)(f:VE c X (.BoolOp .And (b::rest) Y) tb):VE c X (.BoolOp .And (a::b::rest) Y) (Ji ta tb):=by refine⟨PE.mono (qat1 e.h f.h) ?_,λl Q Q' g i p n=>e.m _ _ _ _ _ (λd j=>qaq3 f d j Q Q' g i p n) n⟩;refine qaH7 (k:=λv W H Q=>∃o,v=.bl o/\if o=true then Bj c tb W H Q else Q (.bl false) H) e (qaq3 f) ?_;rintro F H W v x T r Q ⟨l,A,g,S,s,q⟩;obtain⟨k,t,q⟩:=qa7.mp q;refine⟨k,r.asB t,?_⟩;cases k with|true=>rw[if_pos rfl] at q ⊢;exact⟨F,l,A,g,S,s,q⟩|false=>rw[if_neg ∅] at q ⊢;exact q _ H F [] A (.bl _) S S.ok Pe.refl
variable{qc:VTT}
def tIfE(qc:VTT)(ta tb:VT):VT:=λds Q xe=>qc ds (λk ds1=>if k=true then ta ds1 Q xe else tb ds1 Q xe) xe
theorem eif(i:VTe c X cd qc)(j:VE c X a ta)(l:VE c X b tb):VE c X (.IfExp cd a b Y) (tIfE qc ta tb):=by refine⟨PE.mono (qai7 i.h j.h l.h) ?_,λt Q Q' f w u n=>i.m _ _ _ _ _ (λk e=>qO1 (j.m _ _ _ _ _ u n) (l.m _ _ _ _ _ u n)) n⟩;rintro W H Q ⟨F,t,A,f,S,x,q⟩;refine⟨F,t,A,f,S,x,i.m _ _ _ _ _ (λk e q H1 F1 A1 S1 g=>?_) (λ_ _ z=>z) q⟩;cases k with|true=>rw[if_pos rfl] at q ⊢;exact⟨F1,e,A1,f,S1,x.step g,j.m _ _ _ _ _ (λd p q v H' F' T A' r S' o s=>q v H' F' T A' r S' o (g.trans s)) (λ_ _ z=>z) q⟩|false=>rw[if_neg ∅] at q ⊢;exact⟨F1,e,A1,f,S1,x.step g,l.m _ _ _ _ _ (λd p q v H' F' T A' r S' o s=>q v H' F' T A' r S' o (g.trans s)) (λ_ _ z=>z) q⟩
def fAnd(fa fb:FV):FV:=λds=>(fa ds).bind λx=>x.asB.bind λk=>if k=true then fb ds else some (.bl false)
def fOr(fa fb:FV):FV:=λds=>(fa ds).bind λx=>x.asB.bind λk=>if k=true then some (.bl true) else fb ds
def fNot(fa:FV):FV:=λds=>(fa ds).bind λx=>x.asB.map λk=>.bl (!k)
theorem vone{op:PySem.BoolOp}(h:VV c X a oa fa):VV c X (.BoolOp op [a] Y) oa fa:=⟨qas8 h.h⟩
theorem vand(m:VV c X a oa fa)(n:VV c X (.BoolOp .And (b::rest) Y) ob fb):VV c X (.BoolOp .And (a::b::rest) Y) ob (fAnd fa fb):=by refine⟨PE.mono (qat1 m.h n.h) λW H Q g=>?_⟩;obtain⟨F,i,A,d,S,e,q⟩:=g;obtain⟨x,p,e⟩:=zA1.mp e;obtain⟨k,r,e⟩:=zA1.mp e;refine⟨F,i,A,x,S,p,λv H1 B1 s f y=>⟨k,s.asB r,?_⟩⟩;cases k with|true=>rw[if_pos rfl] at e ⊢;exact⟨F,i,A,d,S.same f,e,λw H2 B2 t u j=>q w H2 B2 t (f.trans u) λl=>⟨(j l).one,λb o e=>(j l).new b o (f b o e)⟩⟩|false=>rw[if_neg ∅] at e ⊢;cases e;exact q _ H1 [] (.bl _) f λ_=>New.nil
theorem vor(m:VV c X a oa fa)(n:VV c X (.BoolOp .Or (b::rest) Y) ob fb):VV c X (.BoolOp .Or (a::b::rest) Y) ob (fOr fa fb):=by refine⟨PE.mono (pe_or m.h n.h) λW H Q g=>?_⟩;obtain⟨F,i,A,d,S,e,q⟩:=g;obtain⟨x,p,e⟩:=zA1.mp e;obtain⟨k,r,e⟩:=zA1.mp e;refine⟨F,i,A,x,S,p,λv H1 B1 s f y=>⟨k,s.asB r,?_⟩⟩;cases k with|false=>rw[if_neg ∅] at e ⊢;exact⟨F,i,A,d,S.same f,e,λw H2 B2 t u j=>q w H2 B2 t (f.trans u) λl=>⟨(j l).one,λb o e=>(j l).new b o (f b o e)⟩⟩|true=>rw[if_pos rfl] at e ⊢;cases e;exact q _ H1 [] (.bl _) f λ_=>New.nil
theorem vnot(f:VV c X a oa fa):VV c X (.UnaryOp .Not a Y) true (fNot fa):=by refine⟨PE.mono (qaP9 f.h) λW H Q b=>?_⟩;obtain⟨F,g,A,d,S,e,q⟩:=b;obtain⟨x,i,e⟩:=zA1.mp e;obtain⟨k,j,rfl⟩:=zAa.mp e;exact⟨F,g,A,x,S,i,λv H1 B1 l m n=>⟨k,l.asB j,q _ H1 [] (.bl _) m λ_=>New.nil⟩⟩
noncomputable def gNeg:D->Option D|.int i=>some (.int (-i))|_=>none
theorem qba3:OpS1 true (rU λi=>.int (-i)) gNeg:=by intro F H v x B d Q r h q;cases x with|int i=>cases h;cases r;exact⟨i,rfl,q _ H [] (.int _) (λ_ _ z=>z) New.nil⟩|_=>cases h
theorem vneg(b:VV c X a oa fa):VV c X (.UnaryOp .USub a Y) true (f1 gNeg fa):=⟨PE.mono (pe_un qaX9 b.h) (op_v (nw:=true) qba3)⟩
theorem Bh{f:Str}(b:X.K=K)(d:VV c X a oa fa)(e:Cls K C)(n:qh1 K C f)(g:Ki a f X.env (eval a X.env)=eval a X.env:=by rfl):VV c X (.Attribute a f Y) oa (f1 (D.fld C f) fa):=by subst b;exact⟨PE.mono (qas9 d.h g) (op_v (nw:=false) (qaQ7 e n))⟩
variable{rc:List V->Hp->VK->Prop}{gc:Ds->Option D}{x:Str}{p:Pos}{Z:List Kz}{fs:Ds->Option Ds}{tos:VTA}
def A9(gc:Ds->Option D)(fs:Ds->Option Ds):FV:=λds=>(fs ds).bind gc
theorem vbi{id:String}(d:CallR X (.builtin id) rc)(h:OpS nw rc gc)(hm:X.mg x=none)(f:VVs c X (e::Z) own fs)(g:Gl X x:=by rfl)(i:Kg x=some (.builtin id):=by rfl)(j:x ≠ "__name__" := by decide)(a:N' x:=by decide)(k:Kb (e::Z) X.env=(false,eval e X.env)::Kb Z X.env:=by rfl)(b:((backTo Y (Kb Z X.env)).any λx=>x.1)=false:=by rfl):VV c X (.Call (.Name x p) (e::Z) [] Y) (nw||own) (A9 gc fs):=⟨PE.mono (cbi d hm f.h g i j a k b) (qaQ8 h)⟩
theorem E5{id:String}(d:CallR X (.type id) rc)(h:OpS nw rc gc)(hm:X.mg x=none)(f:VVs c X (e::Z) own fs)(g:Gl X x:=by rfl)(i:Kg x=some (.type id):=by rfl)(j:x ≠ "__name__" := by decide)(a:N' x:=by decide)(k:Kb (e::Z) X.env=(false,eval e X.env)::Kb Z X.env:=by rfl)(b:((backTo Y (Kb Z X.env)).any λx=>x.1)=false:=by rfl):VV c X (.Call (.Name x p) (e::Z) [] Y) (nw||own) (A9 gc fs):=⟨PE.mono (cty d hm f.h g i j a k b) (qaQ8 h)⟩
theorem ebi{id:String}(f:CallR X (.builtin id) rc)(h:OpS true rc gc)(hm:X.mg x=none)(a:VOs c X (e::Z) tos)(g:Gl X x:=by rfl)(i:Kg x=some (.builtin id):=by rfl)(j:x ≠ "__name__" := by decide)(b:N' x:=by decide)(k:Kb (e::Z) X.env=(false,eval e X.env)::Kb Z X.env:=by rfl)(d:((backTo Y (Kb Z X.env)).any λx=>x.1)=false:=by rfl):VE c X (.Call (.Name x p) (e::Z) [] Y) (tcO gc tos):=⟨PE.mono (cbi f hm a.h g i j b k d) (opc_o a h),qaD3 a⟩
def gLst(xs:Ds):Option D:=gd (D.imms xs=true/\xs.length<=big) (.l false xs)
def gTup(xs:Ds):Option D:=gd (D.imms xs=true/\xs.length<=big) (.q xs)
theorem Bo(k:VVs c X Z own fs):VV c X (.List Z Y) true (A9 gLst fs):=by refine⟨PE.mono (qaF6 k.h) λW H Q f=>?_⟩;obtain⟨F,l,A,d,S,e,q⟩:=f;obtain⟨m,n,e2⟩:=zA1.mp e;obtain⟨g,rfl⟩:=qk0 e2;refine⟨F,l,A,m,S,n,λr H1 B1 i j s=>⟨by rw[i.len];exact zAn g.2 qj0,λp a=>?_⟩⟩;exact q _ _ [p] (qw3 a (i.imms0 g.1)) (j.trans (Same.new a)) λ_=>⟨(qh2 a).one,λb o e=>(qh2 a).new b o (j b o e)⟩
theorem En(i:VVs c X Z own fs):VV c X (.Tuple Z k Y) true (A9 gTup fs):=by refine⟨PE.mono (qaP7 i.h) λW H Q a=>?_⟩;obtain⟨F,j,A,d,S,e,q⟩:=a;obtain⟨l,m,e2⟩:=zA1.mp e;obtain⟨b,rfl⟩:=qk0 e2;refine⟨F,j,A,l,S,m,λo H1 B1 f n r=>⟨by rw[f.len];exact zAn b.2 qj0,λp g=>?_⟩⟩;exact q _ _ [] (qN1 g (f.imms0 b.1)) (n.trans (Same.new g)) λ_=>New.nil
def FO:=Ds->Option (Option Int)
inductive qaX4(c:Vc)(f:FO)(W:St)(H:Hp)(Q:Option Int->Hp->Prop):Prop
 |mk (F:γ->Prop) (ds:Ds) (A:List γ) (i:Option Int) (S:Pf c F H W ds A) (e:f ds=some i) (q:∀H',Same H H'->Q i H'):qaX4 c f W H Q
def qbc3(c:Vc)(f:FO):TO:=qaX4 c f
structure VPO(c:Vc)(X:Cx)(e:Option Kz)(f:FO):Prop where
 h:PO X e (qbc3 c f)
theorem PO.mono{X:Cx}{e:Option Kz}{t t':TO}(h:PO X e t)(i:∀W H Q,t' W H Q->t W H Q):PO X e t':=λD8 s W H Q I q=>h D8 s W H Q I (i W H Q q)
noncomputable def foN:FO:=λ_=>some none
noncomputable def D.asI:D->Option Int|.int i=>some i|_=>none
theorem Pc.asI(r:Pc F H v d B)(h:d.asI=some k):v=.int k:=by cases r<;>cases h<;>rfl
def foS(f:FV):FO:=λds=>(f ds).bind λd=>d.asI.map some
theorem Hi:VPO c X none foN:=⟨PO.mono qai3 λW H Q ⟨F,a,A,i,S,e,q⟩=>by cases e;exact q H λ_ _ z=>z⟩
theorem Hj(h:VV c X e own f):VPO c X (some e) (foS f):=by refine⟨PO.mono (qai2 h.h) λW H Q a=>?_⟩;obtain⟨F,b,A,i,S,e,q⟩:=a;obtain⟨d,g,e2⟩:=zA1.mp e;obtain⟨j,k,rfl⟩:=zAa.mp e2;exact⟨F,b,A,d,S,g,λv H' B r s _=>⟨j,r.asI k,q H' s⟩⟩
noncomputable def noT:D->Bool|.q _=>false|_=>true
def fsl(fa:FV)(lo hi:FO):FV:=λds=>(fa ds).bind λx=>(lo ds).bind λl=>(hi ds).bind λh=>if noT x=true then gSl x l h else none
theorem vsl{lo hi:Option Kz}{n p:FO}{p2:Pos}(t:VV c X a oa fa)(u:VPO c X lo n)(y:VPO c X hi p):VV c X (.Subscript a (.Slice lo hi none p2) Y) true (fsl fa n p):=by refine⟨PE.mono (qT1 qag5 t.h u.h y.h) λW H Q g=>?_⟩;obtain⟨F,i,A,d,S,e,q⟩:=g;obtain⟨x,B,e⟩:=zA1.mp e;obtain⟨l,e2,e⟩:=zA1.mp e;obtain⟨h,C,e⟩:=zA1.mp e;by_cases j:noT x=true;{rw[if_pos j] at e;refine⟨F,i,A,x,S,B,λv H1 B1 D k _=>⟨F,i,A,l,S.same k,e2,λH2 m=>⟨F,i,A,h,(S.same k).same m,C,λH3 r=>?_⟩⟩⟩;have f:=(k.trans m).trans r;refine os_sl ((D.same m).same r) e (λI z=>by subst z;cases j) λw H' B' E G s=>q w H' B' E (f.trans G) λ_=>⟨s.one,λb o e=>s.new b o (f b o e)⟩};rw[if_neg j] at e;cases e
def fget(fa a b:FV):FV:=λds=>(fa ds).bind λx=>(a ds).bind λy=>(b ds).bind λz=>match x with|.dct _ kvs=>y.key.bind λk=>gd (((Dv kvs k).getD z).imm=true) ((Dv kvs k).getD z)|_=>none
theorem vget{z:Kz}{D:Bool}{t:FV}(G:X.A.units+1<cLine)(I:VV c X a oa fa)(J:VV c X k D s)(K:VV c X z E t)(m:M2 X a "get" apos k z cpos):VV c X (.Call (.Attribute a "get" apos) [k,z] [] cpos) true (fget fa s t):=by refine⟨PE.mono (qaF7 G I.h J.h K.h m) λW H Q j=>?_⟩;obtain⟨F,l,A,d,S,e,q⟩:=j;obtain⟨x,L,e⟩:=zA1.mp e;obtain⟨y,e2,e⟩:=zA1.mp e;obtain⟨w,M,e⟩:=zA1.mp e;cases x with|dct z N=>obtain⟨n,O,e⟩:=zA1.mp e;obtain⟨g,rfl⟩:=qk0 e;refine⟨F,l,A,_,S,L,λv H1 B1 P o _=>?_⟩;obtain⟨a,b,A2,rfl,B,R,T,_⟩:=P.dct_inv;refine⟨a,rfl,.inl ⟨b,.inl B⟩,F,l,A,y,S.same o,e2,λu H2 B2 U i _=>⟨F,l,A,w,(S.same o).same i,M,λV H3 B3 C p _=>?_⟩⟩;have r:=p _ _ (i _ _ B);refine⟨Ew b n,.inl ⟨b,n,.inl r,(U.key O),rfl⟩,?_⟩;have f:=(o.trans i).trans p;rcases qaL9 n R T with⟨n1,n2⟩|⟨vv,dd,BB,n1,n2,n3,n4⟩;{rw[n1] at g q;rw[n2];have:=C.imm g;subst this;exact q _ H3 [] C f λ_=>New.nil};rw[n1] at g q;rw[n2];have:=n3.imm g;subst this;exact q _ H3 [] ((n3.same i).same p) f λ_=>New.nil|_=>cases e
end
section
variable{c:Vc}{X:Cx}{a b e:Kz}{pos:Pos}{F F':γ->Prop}{H H':Hp}{σ:St}{ds:Ds}{A:List γ}
theorem Pf.put1(S:Pf c F H σ ds A)(h:ds[i]?=some d)(e:d≠.u):∃(v:V)(B C:List γ),(σ++c.gv)[i]?=some (some v)/\Pc F H v d B/\(∀b,A.count b=B.count b+C.count b)/\∀{F':γ->Prop}{H':Hp}{W:γ->Prop}(d':D)(B':List γ),Kp F H W F' H'->(∀b∈C,¬W b)->Pc F' H' v d' B'->∃A':List γ,Locs F' H' (σ++c.gv) (ds.set i d') A'/\∀b,A'.count b=B'.count b+C.count b:=by
 have f:Bf ds i []=some d:=by unfold Bf;rw[h];rfl
 obtain⟨u,w,B,C,g,j,l,m,n⟩:=S.loc.place f e;cases j;refine⟨u,B,C,g,l,m,λ{F' H' W} d' B' k o r=>?_⟩;obtain⟨A',a,q2⟩:=n d' B' k o r;refine⟨A',?_,q2⟩;unfold Bk at a;rw[h] at a;exact a
theorem ql5{d:D}(h:d.known=true):d≠.u:=λz=>by subst z;cases h
def tMv(i:Nat):VT:=λds Q _=>orF (rdN i ds) λd=>Q d (ds.set i .u)
theorem emv(i:Nat)(k:X.N[i]?=some x:=by rfl)(m:Vis X.env.scope x:=by first|exact O3 rfl|exact O2 (O3 rfl)|exact O2 (O2 rfl))(n:N' x:=by decide)(a:(x==("__classdict__" : Str))=false:=by decide):VE c X (.Name x pos) (tMv i):=by refine⟨λD8 s σ H Q I g=>?_,λp Q Q' r t u _=>qa5 λd=>u _ _⟩;obtain⟨F,p,A,r,S,x,q⟩:=g;refine qn3 k m n a D8 s σ H Q I ?_;obtain⟨d,h,q⟩:=qa7.mp q;obtain⟨h,w⟩:=qm0.mp h;obtain⟨v,B,C,l,y,j,D⟩:=S.put1 h (ql5 w);have E:=qn7 k D8 σ H s I;rw[zAl E] at l;obtain⟨A',G,q2⟩:=D .u [] (Kp.same (λ_ _ z=>z)) (λ_ _ z=>z) (.u v);refine⟨v,l,q v H F B A' y ⟨G,S.ok.count λb=>by rw[q2,j];simp,S.len,S.ag⟩ (S.ok.count λb=>by rw[zA0,q2,j];simp) ?_⟩;exact⟨λ_ _ e _=>e,λb o e z=>by rw[zA0,q2];have:=j b;simp;lia,λ_ f=>f,λ_ _ _ _ f=>f⟩
def tFz(i:Nat):VT:=λds Q _=>orF (rdN i ds) λd=>Q d.fz (ds.set i d.fz)
theorem share{B C:List γ}(o:Ok F H A)(a:∀b,A.count b=B.count b+C.count b)(d:∀b∈B,∃o,H b=some o/\Ef o=true)(c:∀b,A'.count b=C.count b):Ok (λb=>F b∨b∈B) H A'/\Pe F H A (λb=>F b∨b∈B) H A':=by refine⟨⟨λb=>by rw[c];have:=o.sep b;have:=a b;lia,λb f=>?_,λb f=>?_⟩,λ_ _ e _=>e,λb o e z=>by rw[c];have:=a b;lia,λb f=>.inl f,λb u e z f=>?_⟩;{rw[c];rcases f with f|f;{have:=o.fro b f;have:=a b;lia};have:=qb1.mp f;have:=o.sep b;have:=a b;lia};{rcases f with f|f;{exact o.ex b f};exact let ⟨u,e,_⟩:=d b f;⟨u,e⟩};rcases f with f|f;{exact f};have:=qb1.mp f;have:=a b;lia
theorem efz(i:Nat)(h:X.N[i]?=some x:=by rfl)(n:Vis X.env.scope x:=by first|exact O3 rfl|exact O2 (O3 rfl)|exact O2 (O2 rfl))(o:N' x:=by decide)(a:(x==("__classdict__" : Str))=false:=by decide):VE c X (.Name x pos) (tFz i):=by refine⟨λD8 s σ H Q I e=>?_,λp Q Q' r t u _=>qa5 λd=>u _ _⟩;obtain⟨F,p,A,r,S,x,q⟩:=e;refine qn3 h n o a D8 s σ H Q I ?_;obtain⟨d,g,q⟩:=qa7.mp q;obtain⟨g,w⟩:=qm0.mp g;obtain⟨v,B,C,j,k,y,D⟩:=S.put1 g (ql5 w);have E:=qn7 h D8 σ H s I;rw[zAl E] at j;have l:=k.fz (F':=λb=>F b∨b∈B) (λb f=>.inl f) λb G=>.inr G;obtain⟨A',J,q2⟩:=D d.fz [] (Kp.more (H:=H) λb f=>O3 f) (λ_ _ z=>z) l;obtain⟨m,K⟩:=share S.ok y k.cells (A':=A') (λb=>by rw[q2];simp);exact⟨v,j,q v H _ [] A' l ⟨J,m,S.len,S.ag⟩ m K⟩
abbrev PF:=Ds->Option (Nat×List Nat)
inductive LiftP(c:Vc)(pf:PF)(σ:St)(H:Hp)(Q:VK):Prop
 |mk (F:γ->Prop) (ds:Ds) (A:List γ) (i:Nat) (p:List Nat) (d:D) (S:Pf c F H σ ds A) (e:pf ds=some (i,p)) (g:Bf ds i p=some d) (n:d≠.u) (q:∀u w H',(σ++c.gv)[i]?=some (some u)->Walk H' u p w->Same H H'->Q w H'):LiftP c pf σ H Q
def Hk(c:Vc)(pf:PF):TE:=LiftP c pf
structure VP(c:Vc)(X:Cx)(e:Kz)(pf:PF):Prop where
 h:PE X e (Hk c pf)
theorem vpn(i:Nat)(h:X.N[i]?=some x:=by rfl)(l:Vis X.env.scope x:=by first|exact O3 rfl|exact O2 (O3 rfl)|exact O2 (O2 rfl))(m:N' x:=by decide)(b:(x==("__classdict__" : Str))=false:=by decide):VP c X (.Name x pos) (λ_=>some (i,[])):=by refine⟨λD8 s σ H Q I f=>?_⟩;obtain⟨F,t,A,j,p,d,S,e,n,g,q⟩:=f;refine qn3 h l m b D8 s σ H Q I ?_;cases e;obtain⟨u,w,B,C,k,o,v,y,D⟩:=S.loc.place n g;cases o;have r:=qn7 h D8 σ H s I;have a:=k;rw[zAl r] at a;exact⟨u,a,q u u H k rfl λ_ _ z=>z⟩
theorem qO6:∀{p:List Nat}{d x:D}{q:List Nat},d.getP (p++q)=some x->∃e,d.getP p=some e/\e.getP q=some x|[],d,x,q,h=>⟨d,rfl,h⟩|n::p,d,x,q,h=>by have h:D.getP d (n::(p++q))=some x:=h;unfold D.getP at h;cases a:d.kids[n]? with|none=>rw[a] at h;cases h|some y=>rw[a] at h;obtain⟨e,b,c⟩:=qO6 (p:=p) h;exact⟨e,by unfold D.getP;rw[a];exact b,c⟩
theorem qO7(h:Bf ds i (p++q)=some x):∃e,Bf ds i p=some e/\e.getP q=some x:=by unfold Bf at h ⊢;cases a:ds[i]? with|none=>rw[a] at h;cases h|some d=>rw[a] at h;exact qO6 h
theorem Walk.snoc:∀{p:List Nat}{u v w:V}{n:Nat},Walk H u p v->Lnk H v n w->Walk H u (p++[n]) w|[],_,_,w,n,h,l=>by cases h;exact⟨w,l,rfl⟩|m::p,_,_,_,_,⟨x,h1,h2⟩,l=>⟨x,h1,h2.snoc l⟩
theorem qaT0{d e:D}(h:d.getP [n]=some e):d≠.u:=λz=>by subst z;cases (show (none:Option D)=some _ from h)
theorem Pf.place(S:Pf c F H σ ds A)(h:Bf ds i p=some d)(e:d≠.u)(f:(σ++c.gv)[i]?=some (some u))(g:Walk H u p w):∃(B C:List γ),Pc F H w d B/\(∀b,A.count b=B.count b+C.count b)/\∀{F':γ->Prop}{H':Hp}{W:γ->Prop}(d':D)(B':List γ),Kp F H W F' H'->(∀b∈C,¬W b)->Pc F' H' w d' B'->∃A':List γ,Locs F' H' (σ++c.gv) (Bk ds i p d') A'/\∀b,A'.count b=B'.count b+C.count b:=by obtain⟨n,o,B,C,a,j,k,l,m⟩:=S.loc.place h e;rw[f] at a;cases a;cases g.fn j;exact⟨B,C,k,l,m⟩
def D.fidx(C:γ)(f:Str):D->Option Nat|.ins _ C' fs=>if C'=C then fs.findIdx? (λq=>f==q.1) else none|_=>none
theorem qG9{α:Type}:∀{fs:List (Str×α)}{f:Str}{n:Nat},fs.findIdx? (λq=>f==q.1)=some n->∃v,fs.lookup f=some v/\(fs.map (·.2))[n]?=some v|[],f,n,h=>by simp at h|(k,v)::r,f,n,h=>by rw[zCx] at h;rw[zAv];cases a:f==k with|true=>simp[a] at h;subst h;exact⟨v,rfl,rfl⟩|false=>simp[a] at h;obtain⟨m,b,rfl⟩:=h;obtain⟨w,c,d⟩:=qG9 (fs:=r) b;exact⟨w,c,by simpa using d⟩
theorem qZ0{α β:Type}:∀{fs:List (Str×α)}{a:List (Str×β)}{f:Str},fs.map (·.1)=a.map (·.1)->fs.findIdx? (λq=>f==q.1)=a.findIdx? (λq=>f==q.1)
 |[],[],_,_=>rfl|[],_::_,_,h=>by simp at h|_::_,[],_,h=>by simp at h|(k,_)::r,(k',_)::r',f,h=>by
  have b:k=k':=by simp at h;exact h.1
  have c:r.map (·.1)=r'.map (·.1):=by simp at h;simpa using h.2
  subst b;rw[zCx,zCx,qZ0 c]
def pfFld(C:γ)(f:Str)(pf:PF):PF:=λds=>(pf ds).bind λq=>(Bf ds q.1 q.2).bind λd=>(d.fidx C f).map λn=>(q.1,q.2++[n])
theorem Er(G:X.K=K)(l:VP c X a pf)(I:Cls K C)(J:qh1 K C f)(L:Ki a f X.env (eval a X.env)=eval a X.env:=by rfl):VP c X (.Attribute a f pos) (pfFld C f pf):=by subst G;refine⟨PE.mono (qas9 l.h L) λσ H Q m=>?_⟩;obtain⟨F,M,A,i,p,d,S,e,N,Z,q⟩:=m;obtain⟨⟨j,O⟩,P,e⟩:=zA1.mp e;obtain⟨t,e2,e⟩:=zA1.mp e;obtain⟨n,x,e⟩:=zAa.mp e;cases e;obtain⟨R,g1,g2⟩:=qO7 N;rw[e2] at g1;cases g1;have b:=qaT0 g2;refine⟨F,M,A,j,O,t,S,P,e2,b,λu w H' y D s=>?_⟩;obtain⟨B,C0,r,_,_⟩:=(S.same s).place e2 b y D;cases t with|ins z C' T=>have g:(if C'=C then T.findIdx? (λq=>f==q.1) else none)=some n:=x;by_cases o:C'=C;{rw[if_pos o] at g;obtain⟨a,E,k,_,rfl,l,U,rs,_⟩:=r.ins_inv;rw[<-qZ0 U] at g;obtain⟨v,V,Y⟩:=qG9 g;subst o;exact⟨a,C',E,k,v,rfl,l,I,J,V,q u v H' y (D.snoc ⟨a,rfl,.inr (.inr (.inr ⟨C',E,k,l,Y⟩))⟩) s⟩};rw[if_neg o] at g;cases g|_=>cases x
def pfIx(pf:PF)(fb:FV):PF:=λds=>(pf ds).bind λq=>(Bf ds q.1 q.2).bind λd=>d.elems.bind λys=>(fb ds).bind λy=>y.asI.bind λk=>(ixN ys.length k).map λn=>(q.1,q.2++[n])
theorem vpix(f:VP c X a pf)(N:VV c X b ob fb)(O:qaq5 b:=by exact λ_ _=>rfl):VP c X (.Subscript a b pos) (pfIx pf fb):=by refine⟨PE.mono (pe_ix qa8 f.h N.h O) λσ H Q C=>?_⟩;obtain⟨F,J,A,i,p,d,S,e,P,hd,q⟩:=C;obtain⟨⟨j,R⟩,T,e⟩:=zA1.mp e;obtain⟨K,e2,e⟩:=zA1.mp e;obtain⟨U,D,e⟩:=zA1.mp e;obtain⟨y,V,e⟩:=zA1.mp e;obtain⟨k,W,e⟩:=zA1.mp e;obtain⟨n,E,e⟩:=zAa.mp e;cases e;obtain⟨Y,g1,g2⟩:=qO7 P;rw[e2] at g1;cases g1;have o:=qaT0 g2;refine⟨F,J,A,j,R,K,S,T,e2,o,λu w H1 G Z s=>?_⟩;refine⟨F,J,A,y,S.same s,V,λv2 H2 B2 r2 L _=>?_⟩;have g:=s.trans L;have l:=Z.same L;obtain⟨B,C0,r,_,_⟩:=(S.same g).place e2 o G l;cases r2.asI W;have M:n<U.length:=(qY0 E).2.1;cases K with|l z I=>cases D;obtain⟨a,m,A3,rfl,f,t,_⟩:=r.lst_inv;obtain⟨vn,v⟩:∃x,m[n]?=some x:=⟨_,zAq (by rw[t.len];exact M)⟩;refine .inl ⟨a,m,k,_,rfl,rfl,.inl (.inl f),?_,q u _ H2 G (l.snoc ⟨a,rfl,.inr (.inl ⟨m,f,v⟩)⟩) g⟩;unfold atI;rw[t.len,E];exact v|q I=>cases D;obtain⟨a,m,rfl,f,t⟩:=r.tup_inv;obtain⟨vn,v⟩:∃x,m[n]?=some x:=⟨_,zAq (by rw[t.len];exact M)⟩;refine .inr (.inl ⟨a,m,k,_,rfl,rfl,.inl (.inl f),?_,q u _ H2 G (l.snoc ⟨a,rfl,.inl ⟨m,f,v⟩⟩) g⟩);unfold atI;rw[t.len,E];exact v|_=>cases D
end
inductive Pl where
 |no
 |sl (i:Nat)
 |pl (i:Nat) (p:List Nat) (w:V)
abbrev VTB:=Ds->(Ds->List Pl->Ds->Prop)->XKd->Prop
inductive Fn(τ:List (Option V)):List V->List Pl->Prop
 |nil:Fn τ [] []
 |no {v:V} {vs:List V} {ps:List Pl} (t:Fn τ vs ps):Fn τ (v::vs) (.no::ps)
 |sl {v:V} {vs:List V} {ps:List Pl} {i:Nat} (h:τ[i]?=some (some v)) (t:Fn τ vs ps):Fn τ (v::vs) (.sl i::ps)
 |so {v:V} {vs:List V} {ps:List Pl} {i:Nat} {p:List Nat} (t:Fn τ vs ps):Fn τ (v::vs) (.pl i p v::ps)
inductive LiftA(c:Vc)(t:VTB)(a:St)(H:Hp)(Q:List V->Hp->Prop):Prop
 |mk (F:γ->Prop) (ds:Ds) (A:List γ) (xe:XKd) (S:Pf c F H a ds A) (x:Xc c xe F H A) (q:t ds (λxs pls ds'=>∀vs H' F' T A',O6 F' H' vs xs T->Fn (a++c.gv) vs pls->Pf c F' H' a ds' A'->Ok F' H' (T++A')->Pe F H A F' H' (T++A')->Q vs H') xe):LiftA c t a H Q
def E6(c:Vc)(t:VTB):TA:=LiftA c t
structure VAs(c:Vc)(X:Cx)(es:List Kz)(t:VTB):Prop where
 h:PA X es (E6 c t)
 m:∀ds (Q Q':Ds->List Pl->Ds->Prop) (xe xe':XKd),(∀d p ds',Q d p ds'->Q' d p ds')->(∀x ds',xe x ds'->xe' x ds')->t ds Q xe->t ds Q' xe'
section
variable{c:Vc}{X:Cx}{e:Kz}{es:List Kz}{ta:VT}{tr:VTB}{pf:PF}{F F':γ->Prop}{H H':Hp}{σ:St}{ds:Ds}{A:List γ}
def A8:VTB:=λds Q _=>Q [] [] ds
theorem Ac:VAs c X [] A8:=⟨PA.mono qk9 λσ H Q ⟨F,a,A,b,S,x,q⟩=>q [] H F [] A .nil .nil S S.ok Pe.refl,λa Q Q' b d e _=>e _ _ _⟩
def tbV(ta:VT)(tr:VTB):VTB:=λds Q xe=>ta ds (λx ds1=>tr ds1 (λxs ps a=>Q (x::xs) (.no::ps) a) xe) xe
theorem vaV(f:VE c X e ta)(g:VAs c X es tr)(w:Kb (e::es) X.env=(false,eval e X.env)::Kb es X.env:=by rfl):VAs c X (e::es) (tbV ta tr):=by
 refine⟨PA.mono (qc4 f.h g.h w) λσ H Q i=>?_,λo Q Q' j y B p=>f.m _ _ _ _ _ (λd a=>g.m _ _ _ _ _ (λC D k=>B _ _ _) p) p⟩;obtain⟨F,o,A,j,S,x,q⟩:=i;refine⟨F,o,A,j,S,x,f.m _ _ _ _ _ (λE a q v H1 F1 T A1 r S1 s t=>?_) (λ_ _ z=>z) q⟩;have l:Pe F H A F1 H1 A1:=t.count λb=>by rw[zA0];lia
 refine⟨F1,a,A1,j,S1,x.step l,g.m _ _ _ _ _ (λC D k q G H2 F2 T2 A2 I J S2 K u=>?_) (λ_ _ z=>z) q⟩;have n:Pc F2 H2 v E T:=r.keep (u.kp S1.ok S1.loc.cells) λb L O=>by have:=s.sep b;rw[zA0] at this;have:=qb1.mp L;lia
 obtain⟨M,N⟩:=u.frame s r.cells K;exact q (v::G) H2 F2 (T++T2) A2 (.cons n I) (.no J) S2 (by rw[zAs];exact M) (by rw[zAs];exact t.trans N)
def tbB(pf:PF)(tr:VTB):VTB:=λds Q xe=>orF (pf ds) λq=>orF (Bf ds q.1 q.2) λd=>d.known=true/\∀w,tr (Bk ds q.1 q.2 (.hole w)) (λxs ps a=>Q (d::xs) (.pl q.1 q.2 w::ps) a) xe
theorem vaB(I:VP c X e pf)(a:VAs c X es tr)(J:Kb (e::es) X.env=(false,eval e X.env)::Kb es X.env:=by rfl):VAs c X (e::es) (tbB pf tr):=by
 refine⟨PA.mono (qc4 I.h a.h J) λσ H Q g=>?_,λj Q Q' v K L M=>qa5 λz=>qa5 λd=>N4 λh w=>a.m _ _ _ _ _ (λN O k=>L _ _ _) M (h w)⟩;obtain⟨F,j,A,v,S,x,q⟩:=g;obtain⟨⟨i,p⟩,P,q⟩:=qa7.mp q;obtain⟨d,e2,y,q⟩:=qa7.mp q;refine⟨F,j,A,i,p,d,S,P,e2,ql5 y,λu w H1 R T s=>?_⟩;obtain⟨B,C,r,D,U⟩:=(S.same s).place e2 (ql5 y) R T;obtain⟨A1,V,q2⟩:=U (.hole w) [] (Kp.same (F:=F) λ_ _ z=>z) (λ_ _ z=>z) (.hole w);have l:Ok F H1 (B++A1):=(S.same s).ok.count λb=>by rw[zA0,q2,D];simp
 have E:Pe F H A F H1 (B++A1):=⟨λb o e _=>s b o e,λb o e z=>by rw[zA0,q2];have:=D b;simp;lia,λ_ f=>f,λ_ _ _ _ f=>f⟩;have S1:Pf c F H1 σ (Bk j i p (.hole w)) A1:=⟨V,l.right,S.len,S.ag⟩;have n:Pe F H A F H1 A1:=E.count λb=>by rw[zA0];lia
 refine⟨F,_,A1,v,S1,x.step n,a.m _ _ _ _ _ (λN O k q W H2 F2 T2 A2 Y Z S2 o2 G=>?_) (λ_ _ z=>z) (q w)⟩;have t:Pc F2 H2 w d B:=r.keep (G.kp S1.ok S1.loc.cells) λb hb hc=>by have:=l.sep b;rw[zA0] at this;have:=qb1.mp hb;lia
 obtain⟨o3,s3⟩:=G.frame l r.cells o2;exact q (w::W) H2 F2 (B++T2) A2 (.cons t Y) (.so Z) S2 (by rw[zAs];exact o3) (by rw[zAs];exact E.trans s3)
def tbN(i:Nat)(tr:VTB):VTB:=λds Q xe=>(rdN i ds).isSome=true/\tr ds (λxs ps ds1=>orF (rdN i ds1) λd=>Q (d::xs) (.sl i::ps) (ds1.set i .u)) xe
theorem vaN(i:Nat)(e:VAs c X es tr)(E:Kb (.Name x p::es) X.env=(false,eval (.Name x p) X.env)::Kb es X.env:=by rfl)(t:X.N[i]?=some x:=by rfl)(G:Vis X.env.scope x:=by first|exact O3 rfl|exact O2 (O3 rfl)|exact O2 (O2 rfl))(J:N' x:=by decide)(f:(x==("__classdict__" : Str))=false:=by decide):VAs c X (.Name x p::es) (tbN i tr):=by
 refine⟨λpos D8 s σ H Q I g=>?_,λu Q Q' w K L M=>N4 (e.m _ _ _ _ _ (λO P j=>qa5 λd=>L _ _ _) M)⟩;obtain⟨F,u,A,w,S,x,k,q⟩:=g;refine qc4 (qn3 t G J f) e.h E pos D8 s σ H Q I ?_;have y:=qn7 t D8 σ H s I;obtain⟨d0,R⟩:=zB3.mp k;obtain⟨v,B0,a,_,_⟩:=S.name y R;refine⟨v,a,F,u,A,w,S,x,e.m _ _ _ _ _ (λO P j q T H2 F2 T2 A2 U V S2 D W=>?_) (λ_ _ z=>z) q⟩;obtain⟨d,l,q⟩:=qa7.mp q;obtain⟨l,Y⟩:=qm0.mp l;obtain⟨v',B,C,n,Z,h3,h4⟩:=S2.put1 l (ql5 Y);have o:=n;rw[zAl y,a] at n;cases n;obtain⟨A3,q1,q2⟩:=h4 .u [] (Kp.same (F:=F2) λ_ _ z=>z) (λ_ _ z=>z) (.u v);have r:∀b,((B++T2)++A3).count b<=(T2++A2).count b:=λb=>by simp only[zA0,q2,h3];simp;lia
 exact q (v::T) H2 F2 (B++T2) A3 (.cons Z U) (.sl o V) ⟨q1,(D.count r).right,S.len,S.ag⟩ (D.count r) (W.count r)
def Au:List Pl->Ds->Ds->Option Ds
 |[],_,ds=>some ds|.no::ps,_::ys,ds=>Au ps ys ds|.sl i::ps,y::ys,ds=>Au ps ys (ds.set i y)|.pl i p v::ps,y::ys,ds=>match Bf ds i p with|some (.hole w)=>if w=v then Au ps ys (Bk ds i p y) else none|_=>none
 |_::_,[],_=>none
theorem qH5{τ:List (Option V)}{ds:Ds}{C B:List γ}{y:D}(L:Locs F H τ ds C)(hi:τ[i]?=some (some v))(r:Pc F H v y B):∃A':List γ,Locs F H τ (ds.set i y) A'/\∀b,A'.count b<=B.count b+C.count b:=by
 have s:=L.len;have g:i<τ.length:=(zA5.mp hi).1;obtain⟨d,h⟩:∃d,ds[i]?=some d:=⟨_,zAq ⋯⟩;obtain⟨σ1,o,σ2,a,c,A1,B0,A2,e,e2,j,k,m,n,t,p⟩:=L.split h;have f:τ[i]?=some o:=by rw[e];exact qC4 j
 rw[hi] at f;cases f;have q:ds.set i y=a++y::c:=by have:=congrArg (λl=>l.set i y) e2;rw[this,qo7 k]
 exact⟨A1++(B++A2),by rw[e,q];exact n.append (.so r p),λb=>by rw[m];simp only[zA0];lia⟩
theorem qx1{pls:List Pl}{ys ds a:Ds}{σ:List (Option V)}{B C:List γ}{more:List V}(e:Fn σ vs pls)(r:O6 F H (vs++more) ys B)(L:Locs F H σ ds C)(h:Au pls ys ds=some a):∃A':List γ,Locs F H σ a A'/\∀b,A'.count b<=B.count b+C.count b:=by
 induction e generalizing ys ds B C with
 |nil=>
  have h:some ds=some a:=by cases ys<;>exact h
  cases h;exact⟨C,L,λb=>⋯⟩
 |no e c=>cases r with|@cons _ _ A1 _ _ B1 r1 t=>obtain⟨A',d,q2⟩:=c t L h;exact⟨A',d,λb=>by rw[zA0];have:=q2 b;lia⟩
 |sl k e c=>cases r with|@cons _ _ A1 _ _ B1 r1 t=>obtain⟨A2,d,q2⟩:=qH5 L k r1;obtain⟨A',f,g⟩:=c t d h;exact⟨A',f,λb=>by rw[zA0];have:=g b;have:=q2 b;lia⟩
 |@so v _ _ i p e c=>
  cases r with
  |@cons _ y A1 _ _ B1 r1 t=>
   unfold Au at h;split at h
   .rename_i w hg;by_cases j:w=v
    .rw[if_pos j] at h;subst j;obtain⟨u,o,B2,C2,q,s,l,m,n⟩:=L.place hg (by intro z;cases z);cases l;obtain⟨A2,d,q2⟩:=n y A1 (Kp.same (F:=F) λ_ _ z=>z) (λ_ _ z=>z) r1;obtain⟨A',f,g⟩:=c t d h;refine⟨A',f,λb=>?_⟩;have:=g b;have:=q2 b;have:=m b;simp only[Lv,zA0] at *
     lia
    rw[if_neg j] at h;cases h
   cases h
abbrev VSp:=Ds->DK->XKd->Prop
inductive LiftF(s:VSp)(vs:List V)(H:Hp)(Q:VK)(E:XK):Prop
 |mk (F:γ->Prop) (ds:Ds) (A:List γ) (r:O6 F H vs ds A) (o:Ok F H A) (q:s ds (λd ys=>∀v H' F' T A',Pc F' H' v d T->O6 F' H' vs ys A'->Ok F' H' (T++A')->Pe F H A F' H' (T++A')->Q v H')
   (λx ys=>∀e H' F' A',RepX F' H' e x->O6 F' H' vs ys A'->Ok F' H' A'->Pe F H A F' H' A'->E (.ref e) none H')):LiftF s vs H Q E
def Fs(s:VSp):Sp:=LiftF s
def Bu(s:VSp):Prop:=∀ds (Q Q':DK) (xe xe':XKd),(∀d a,Q d a->Q' d a)->(∀x a,xe x a->xe' x a)->s ds Q xe->s ds Q' xe'
def qk1(s:VSp)(dv:Ds)(tr:VTB):VT:=λds Q xe=>tr ds (λxs ps ds1=>s (xs++dv) (λd ys=>orF (Au ps ys ds1) λa=>Q d a) (λx ys=>orF (Au ps ys ds1) λa=>xe x a)) xe
theorem qaw5(f:Bu s)(g:VAs c X es tr):∀ds (Q Q':DK) (xe b:XKd),(∀d a,Q d a->Q' d a)->(∀x a,xe x a->b x a)->qk1 s dv tr ds Q xe->qk1 s dv tr ds Q' b:=λds Q Q' xe b h e=>g.m _ _ _ _ _ (λk l i=>f _ _ _ _ _ (λd j=>qa5 λz=>h _ _) (λx j=>qa5 λz=>e _ _)) e
def Gs(dvs:List V)(dv:Ds):Prop:=∀F H,O6 F H dvs dv []
theorem qC7:Gs [] []:=λ_ _=>.nil
theorem qav9:Gs [.non] [.non]:=λ_ _=>.cons (A:=[]) (B:=[]) .non .nil
theorem qaW6(G:Gs dvs dv)(I:Bu s)(J:VAs c X es tr):∀σ H Q,Bj c (qk1 s dv tr) σ H Q->Iy (Fs s) dvs c.E (E6 c tr) σ H Q:=by
 rintro σ H Q ⟨F,K,A,L,S,x,q⟩;refine⟨F,K,A,L,S,x,J.m _ _ _ _ _ (λB U h q M H1 F1 T A1 N C S1 a D=>?_) (λ_ _ z=>z) q⟩;have rall:O6 F1 H1 (M++dvs) (B++dv) (T++[]):=N.append (G F1 H1);rw[zAg] at rall;refine⟨F1,B++dv,T,rall,a.left,I _ _ _ _ _ (λd O q v H2 F2 T2 A2 P l n i=>?_) (λy O q e H2 F2 A2 R l n i=>?_) q⟩
 .obtain⟨j,o,q⟩:=qa7.mp q;have f:Ok F1 H1 (A1++T):=a.count λb=>by simp only[zA0];lia
  obtain⟨p,r⟩:=i.frame f S1.loc.cells n;have L1:Locs F2 H2 (σ++c.gv) h A1:=S1.loc.keep (i.kp a.left rall.cells) λb t g=>by have:=a.sep b;rw[zA0] at this;have:=qb1.mp t;lia
  obtain⟨A3,u,q2⟩:=qx1 C l L1 o;have g:∀b,(T2++A3).count b<=(A1++(T2++A2)).count b:=λb=>by simp only[zA0];have:=q2 b;lia
  have k:Ok F2 H2 (T2++A3):=p.count g;have w:Pe F H A F2 H2 (T2++A3):=(D.trans (r.pre λb=>by simp only[zA0];lia)).count g;exact q v H2 F2 T2 A3 P ⟨u,k.right,S.len,S.ag⟩ k w
 obtain⟨j,o,q⟩:=qa7.mp q;have f:Ok F1 H1 (A1++T):=a.count λb=>by simp only[zA0];lia
 obtain⟨p,r⟩:=i.frame f S1.loc.cells n;have L1:Locs F2 H2 (σ++c.gv) h A1:=S1.loc.keep (i.kp a.left rall.cells) λb t g=>by have:=a.sep b;rw[zA0] at this;have:=qb1.mp t;lia
 obtain⟨A3,u,q2⟩:=qx1 C l L1 o;have g:∀b,A3.count b<=(A1++A2).count b:=λb=>by simp only[zA0];have:=q2 b;lia
 have k:Ok F2 H2 A3:=p.count g;have w:Pe F H A F2 H2 A3:=(D.trans (r.pre λb=>by simp only[zA0];lia)).count g;exact x y j σ e H2 F2 A3 q R ⟨u,k,S.len,S.ag⟩ w
end
structure Fo(cm:Bool)(P:Kw)(w:Ky)(K:N7)(mg:Str->Option V')(base:Heap)(k:Nat)(f:γ)(fd:ε)(ps:List Str)(s:VSp):Prop where
 ok:Dw cm P w K mg base (CX1 P w) k f fd ps (Fs s)
 m:Bu s
abbrev VFn:=Fo true
section
variable{c:Vc}{X:Cx}{a e:Kz}{es:List Kz}{tr:VTB}{F F1:γ->Prop}{H H1:Hp}{σ:St}{ds ds1:Ds}{A A1 T:List γ}{pos p apos:Pos}{x qual m:Str}{st:K4}{f C:γ}{fd:ε}{ps:List Str}{k:Nat}{s:VSp}{dvs:List V}{dv:Ds}
theorem Aj(D:Df X.K X.mg x qual st f fd ps)(G:Fo cm X.prog X.w X.K X.mg X.base k f fd ps s)(i:Lands X c.E)(j:Pg cm k X.A)(a:VAs c X (e::es) tr)(l:Gl X x:=by rfl)(d:N' x:=by decide)(n:Kb (e::es) X.env=(false,eval e X.env)::Kb es X.env:=by rfl)(g:(backTo pos (Kb es X.env)).any (·.1)=false:=by rfl):VE c X (.Call (.Name x p) (e::es) [] pos) (qk1 s [] tr):=⟨PE.mono (qaz8 G.ok j l D.m D.F.kp D.b .nil i.passes a.h d n g) (qaW6 qC7 G.m a),qaw5 G.m a⟩
theorem qaC0{K:DK}(B:Gs dvs dv)(C:Bu s)(S:Pf c F H σ ds A)(x:Xc c xe F H A)(r1:O6 F1 H1 vs xs T)(w:Fn (σ++c.gv) vs pls)(S1:Pf c F1 H1 σ ds1 A1)(f:Ok F1 H1 (T++A1))(z:Pe F H A F1 H1 (T++A1))(D:∀d i,K d i->∀v H' F' T A',Pc F' H' v d T->Pf c F' H' σ i A'->Ok F' H' (T++A')->Pe F H A F' H' (T++A')->Q v H')(q:s (xs++dv) (λd ys=>orF (Au pls ys ds1) λa=>K d a) (λx ys=>orF (Au pls ys ds1) λa=>xe x a)):Fs s (vs++dvs) H1 Q (c.E σ):=by
 have rall:O6 F1 H1 (vs++dvs) (xs++dv) (T++[]):=r1.append (B F1 H1);rw[zAg] at rall;refine⟨F1,xs++dv,T,rall,f.left,C _ _ _ _ _ (λd ys q v H2 F2 T2 A2 G l m j=>?_) (λy ys q e H2 F2 A2 I l m j=>?_) q⟩
 .obtain⟨a,n,q⟩:=qa7.mp q;have g:Ok F1 H1 (A1++T):=f.count λb=>by simp only[zA0];lia
  obtain⟨o,p⟩:=j.frame g S1.loc.cells m;have L1:Locs F2 H2 (σ++c.gv) ds1 A1:=S1.loc.keep (j.kp f.left rall.cells) λb r h=>by have:=f.sep b;rw[zA0] at this;have:=qb1.mp r;lia
  obtain⟨A3,t,q2⟩:=qx1 w l L1 n;have h:∀b,(T2++A3).count b<=(A1++(T2++A2)).count b:=λb=>by simp only[zA0];have:=q2 b;lia
  have k:Ok F2 H2 (T2++A3):=o.count h;have u:Pe F H A F2 H2 (T2++A3):=(z.trans (p.pre λb=>by simp only[zA0];lia)).count h;exact D d a q v H2 F2 T2 A3 G ⟨t,k.right,S.len,S.ag⟩ k u
 obtain⟨a,n,q⟩:=qa7.mp q;have g:Ok F1 H1 (A1++T):=f.count λb=>by simp only[zA0];lia
 obtain⟨o,p⟩:=j.frame g S1.loc.cells m;have L1:Locs F2 H2 (σ++c.gv) ds1 A1:=S1.loc.keep (j.kp f.left rall.cells) λb r h=>by have:=f.sep b;rw[zA0] at this;have:=qb1.mp r;lia
 obtain⟨A3,t,q2⟩:=qx1 w l L1 n;have h:∀b,A3.count b<=(A1++A2).count b:=λb=>by simp only[zA0];have:=q2 b;lia
 have k:Ok F2 H2 A3:=o.count h;have u:Pe F H A F2 H2 A3:=(z.trans (p.pre λb=>by simp only[zA0];lia)).count h;exact x y a σ e H2 F2 A3 q I ⟨t,k,S.len,S.ag⟩ u
def D.isM(C:γ)(m:Str):D->Bool|.ins _ C' fs=>decide (C'=C)&&(fs.lookup m).isNone|_=>false
theorem qG4{α β:Type}:∀{fs:List (Str×α)}{a:List (Str×β)}{f:Str},fs.map (·.1)=a.map (·.1)->(fs.lookup f).isNone=(a.lookup f).isNone
 |[],[],_,_=>rfl|[],_::_,_,h=>by simp at h|_::_,[],_,h=>by simp at h|(k,_)::r,(k',_)::r',f,h=>by
  have b:k=k':=by simp at h;exact h.1
  have c:r.map (·.1)=r'.map (·.1):=by simp at h;simpa using h.2
  subst b;rw[zAv,zAv];cases f==k with|true=>rfl|false=>exact qG4 c
theorem Pc.isM(r:Pc F H v d B)(h:d.isM C m=true):∃a dx fs,v=.ref a/\H a=some (.ins C dx fs)/\fs.lookup m=none:=by cases d with|ins z C' f=>have h:=zAk.mp h;obtain⟨a,dx,b,A,rfl,g,e,i,_⟩:=r.ins_inv;have:=zAd h.1;subst this;refine⟨a,dx,b,rfl,g,?_⟩;have c:=h.2;rw[<-qG4 e] at c;exact Option.isNone_iff_eq_none.mp c|_=>cases h
def qD0(C:γ)(m:Str)(s:VSp)(dv:Ds)(i:Nat)(tr:VTB):VT:=λds Q xe=>(orF (rdN i ds) λd=>d.isM C m=true)/\tr ds (λxs ps ds1=>orF (rdN i ds1) λd=>s (d::(xs++dv)) (λr ys=>orF (Au (.sl i::ps) ys (ds1.set i .u)) λa=>Q r a) (λx ys=>orF (Au (.sl i::ps) ys (ds1.set i .u)) λa=>xe x a)) xe
theorem qN3(f:Bu s)(g:VAs c X es tr):∀ds (Q Q':DK) (xe b:XKd),(∀d a,Q d a->Q' d a)->(∀x a,xe x a->b x a)->qD0 C m s dv i tr ds Q xe->qD0 C m s dv i tr ds Q' b:=λds Q Q' xe b h e=>N4 (g.m _ _ _ _ _ (λl n j=>qa5 λd=>f _ _ _ _ _ (λd k=>qa5 λz=>h _ _) (λx k=>qa5 λz=>e _ _)) e)
theorem qak5{σ:St}{H:Hp}(w:Gs dvs dv)(y:Bu s)(D:VAs c X es tr)(hi:i<σ.length)(q:Bj c (qD0 C m s dv i tr) σ H Q):Ha C m (Fs s) dvs c.E (Fh i) (E6 c tr) σ H Q:=by
 obtain⟨F,G,A,I,S,x,f,q⟩:=q;obtain⟨Z,J,f⟩:=qa7.mp f;obtain⟨v,B0,e,K,_⟩:=S.name hi J;obtain⟨a,L,M,rfl,g,j⟩:=K.isM f;refine⟨.ref a,e,a,L,M,rfl,g,j,F,G,A,I,S,x,D.m _ _ _ _ _ (λr ps N q t H2 F2 T2 A2 O P S2 u R=>?_) (λ_ _ z=>z) q⟩;obtain⟨d,k,q⟩:=qa7.mp q;obtain⟨k,l⟩:=qm0.mp k;obtain⟨v',B,C0,n,T,U,V⟩:=S2.put1 k (ql5 l);have o:=n;rw[zAl hi,e] at n;cases n;obtain⟨A3,W,q2⟩:=V .u [] (Kp.same (F:=F2) λ_ _ z=>z) (λ_ _ z=>z) (.u _);have p:∀b,((B++T2)++A3).count b<=(T2++A2).count b:=λb=>by simp only[zA0,q2,U];simp;lia
 exact qaC0 (vs:=.ref a::t) (xs:=d::r) w y S x (.cons T O) (.sl o P) ⟨W,(u.count p).right,S.len,S.ag⟩ (u.count p) (R.count p) (λd Y h=>h) q
theorem qm7{pl:Sem Bool}(i:Nat){xn:Str}{p0:Pos}(D:Md X.K C m qual st f fd ps)(n:Cls X.K C)(G:Fo cm X.prog X.w X.K X.mg X.base k f fd ps s)(o:Lands X c.E)(p:Pg cm k X.A)(a:VAs c X (e::es) tr)(l:X.N[i]?=some xn:=by rfl)(r:Vis X.env.scope xn:=by first|exact O3 rfl|exact O2 (O3 rfl)|exact O2 (O2 rfl))(t:N' xn:=by decide)(d:(xn==("__classdict__" : Str))=false:=by decide)(g:Kb (e::es) X.env=(false,eval e X.env)::Kb es X.env:=by rfl)(j:(backTo pos (Kb es X.env)).any (·.1)=false:=by rfl)(u:eval (.Call (.Attribute (.Name xn p0) m apos) (e::es) [] pos) X.env=(do
     let ov<-eval (.Name xn p0) X.env
     standAt apos.atName
     let (f,first)<-holding [ov] (getMethod ov m pl)
     callWith pos f first (backTo pos (Kb (e::es) X.env)) (backToKw pos (Km [] X.env))):=by rfl):VE c X (.Call (.Attribute (.Name xn p0) m apos) (e::es) [] pos) (qD0 C m s [] i tr):=⟨λD8 s σ H Q I q=>qai6 (qn3 l r t d) n D.me G.ok p D.b .nil o.passes a.h g j u D8 s σ H Q I (qak5 qC7 G.m a (qn7 l D8 σ H s I) q),qN3 G.m a⟩
theorem qt3{pl:Sem Bool}(i:Nat){xn:Str}{p0:Pos}(D:Md X.K C m qual st f fd ps)(j:Cls X.K C)(G:Fo cm X.prog X.w X.K X.mg X.base k f fd ps s)(l:Lands X c.E)(n:Pg cm k X.A)(g:X.N[i]?=some xn:=by rfl)(d:Vis X.env.scope xn:=by first|exact O3 rfl|exact O2 (O3 rfl)|exact O2 (O2 rfl))(o:N' xn:=by decide)(e:(xn==("__classdict__" : Str))=false:=by decide)(p:eval (.Call (.Attribute (.Name xn p0) m apos) [] [] pos) X.env=(do
     let ov<-eval (.Name xn p0) X.env
     standAt apos.atName
     let (f,first)<-holding [ov] (getMethod ov m pl)
     callWith pos f first (backTo pos (Kb [] X.env)) (backToKw pos (Km [] X.env))):=by rfl):VE c X (.Call (.Attribute (.Name xn p0) m apos) [] [] pos) (qD0 C m s [] i A8):=⟨λD8 h σ H Q I q=>qaF5 (qn3 g d o e) j D.me G.ok n D.b .nil l.passes p D8 h σ H Q I (by
   obtain⟨v,d,a,r,t,u,x,y,F2,z,A2,B,S2,F,q2⟩:=qak5 (c:=c) (X:=X) qC7 G.m Ac (qn7 g D8 σ H h I) q;exact⟨v,d,a,r,t,u,x,y,q2 [] H F2 [] A2 .nil .nil S2 S2.ok Pe.refl⟩),qN3 (c:=c) G.m (X:=X) Ac⟩
def Ie(C:γ)(s:VSp)(dv:Ds)(tr:VTB):VT:=λds Q xe=>tr ds (λxs ps ds1=>s (.ins false C []::(xs++dv)) (λd ys=>d.isN=some true/\orF ys.head? λself=>orF (Au ps ys.tail ds1) λa=>Q self a) (λx ys=>orF (Au ps ys.tail ds1) λa=>xe x a)) xe
theorem qX5(f:Bu s)(g:VAs c X es tr):∀ds (Q Q':DK) (xe b:XKd),(∀d a,Q d a->Q' d a)->(∀x a,xe x a->b x a)->Ie C s dv tr ds Q xe->Ie C s dv tr ds Q' b:=λds Q Q' xe b h e=>g.m _ _ _ _ _ (λk l i=>f _ _ _ _ _ (λd j=>N4 (qa5 λz=>qa5 λw=>h _ _)) (λx j=>qa5 λz=>e _ _)) e
theorem qaA3(N:Gs dvs dv)(O:Bu s)(P:VAs c X es tr):∀σ H Q,Bj c (Ie C s dv tr) σ H Q->tMake C (Fs s) dvs c.E (E6 c tr) σ H Q:=by
 rintro σ H Q ⟨F,R,A,U,S,x,q⟩;refine⟨F,R,A,U,S,x,P.m _ _ _ _ _ (λV ps h q W H1 F1 T A1 K L S1 Y Z=>?_) (λ_ _ z=>z) q⟩;intro y dy n o p;have same:Same H1 (upd (upd H1 dy (.own y)) y (.ins C dy [])):=(Same.new o).trans (Same.new (by rw[qd1 (Ne.symm p)];exact n));have rall:O6 F1 (upd (upd H1 dy (.own y)) y (.ins C dy [])) (.ref y::(W++dvs)) (.ins false C []::(V++dv)) ([y]++(T++[])) :=
  .cons (.ins qc5 rfl .nil) ((K.append (N F1 H1)).same same)
 rw[zAg] at rall;have i:Ok F1 (upd (upd H1 dy (.own y)) y (.ins C dy [])) ([y]++(T++A1)):=(qh2 n).ok Y (λb a=>by rcases zAb.mp a with a|a;{exact K.cells b a};exact S1.loc.cells b a) same;have r:Ok F1 (upd (upd H1 dy (.own y)) y (.ins C dy [])) ([y]++T):=i.count λb=>by simp only[zA0];lia
 have M:Pe F H A F1 (upd (upd H1 dy (.own y)) y (.ins C dy [])) ([y]++(T++A1)):=Z.trans ((qh2 n).stp same);have S1':=S1.same same;refine⟨F1,_,[y]++T,rall,r,O _ _ _ _ _ (λd ys q v H2 F2 T2 A2 r2 t u j=>?_) (λex ys q e H2 F2 A2 rx t u j=>?_) q⟩
 .obtain⟨hn,q⟩:=q;have hv:v=.non:=by cases d with|non=>cases r2;rfl|_=>cases hn
  refine⟨hv,?_⟩;obtain⟨self,eh,q⟩:=qa7.mp q;obtain⟨k,w,B⟩:=qa7.mp q;have g:Ok F1 _ (A1++([y]++T)):=i.count λb=>by simp only[zA0];lia
  obtain⟨D,G⟩:=j.frame g S1'.loc.cells u;have L1:Locs F2 H2 (σ++c.gv) h A1:=S1'.loc.keep (j.kp r rall.cells) λb a f=>by have:=i.sep b;simp only[zA0] at this f;have:=qb1.mp a;lia
  cases t with
  |@cons _ d0 Aself _ ys' B' rself rrest=>
   cases eh;obtain⟨A3,I,q2⟩:=qx1 L rrest L1 w;have f:∀b,(Aself++A3).count b<=(A1++(T2++(Aself++B'))).count b:=λb=>by simp only[zA0];have:=q2 b;lia
   have l:=D.count f;have J:Pe F H A F2 H2 (Aself++A3):=(M.trans (G.pre λb=>by simp only[zA0];lia)).count f;exact B (.ref y) H2 F2 Aself A3 rself ⟨I,l.right,S.len,S.ag⟩ l J
 obtain⟨k,w,B⟩:=qa7.mp q;have g:Ok F1 _ (A1++([y]++T)):=i.count λb=>by simp only[zA0];lia
 obtain⟨D,G⟩:=j.frame g S1'.loc.cells u;have L1:Locs F2 H2 (σ++c.gv) h A1:=S1'.loc.keep (j.kp r rall.cells) λb a f=>by have:=i.sep b;simp only[zA0] at this f;have:=qb1.mp a;lia
 cases t with
 |@cons _ d0 Aself _ ys' B' rself rrest=>
  obtain⟨A3,I,q2⟩:=qx1 L rrest L1 w;have f:∀b,A3.count b<=(A1++(Aself++B')).count b:=λb=>by simp only[zA0];have:=q2 b;lia
  have l:=D.count f;have J:Pe F H A F2 H2 A3:=(M.trans (G.pre λb=>by simp only[zA0];lia)).count f;exact x ex k σ e H2 F2 A3 B rx ⟨I,l,S.len,S.ag⟩ J
theorem emake(i:Cl X.K X.mg x C)(M:Mk X.K C f)(D:Md X.K C m qual st f fd ps)(G:Fo cm X.prog X.w X.K X.mg X.base k f fd ps s)(j:Lands X c.E)(l:Pg cm (k+1) X.A)(a:VAs c X (e::es) tr)(n:Gl X x:=by rfl)(d:N' x:=by decide)(o:Kb (e::es) X.env=(false,eval e X.env)::Kb es X.env:=by rfl)(g:(backTo pos (Kb es X.env)).any (·.1)=false:=by rfl):VE c X (.Call (.Name x p) (e::es) [] pos) (Ie C s [] tr):=⟨PE.mono (qaz5 M G.ok l n i.m D.b .nil j.passes a.h d o g) (qaA3 qC7 G.m a),qX5 G.m a⟩
theorem qbe6{ndv:List V'}(i:Cl X.K X.mg x C)(M:Mk X.K C f)(b:Binds X.K fd ps [.none])(G:Fo cm X.prog X.w X.K X.mg X.base k f fd ps s)(j:Lands X c.E)(l:Pg cm (k+1) X.A)(a:VAs c X (e::es) tr)(n:Gl X x:=by rfl)(d:N' x:=by decide)(o:Kb (e::es) X.env=(false,eval e X.env)::Kb es X.env:=by rfl)(g:(backTo pos (Kb es X.env)).any (·.1)=false:=by rfl):VE c X (.Call (.Name x p) (e::es) [] pos) (Ie C s [.non] tr):=⟨PE.mono (qaz5 M G.ok l n i.m b (dvs:=[.non]) (.cons rfl .nil) j.passes a.h d o g) (qaA3 qav9 G.m a),qX5 G.m a⟩
def tLstV(tr:VTB):VT:=λds Q xe=>tr ds (λxs ps ds1=>xs.length<=big/\Q (.l false xs) ds1) xe
def Jj(tr:VTB):VT:=λds Q xe=>tr ds (λxs ps ds1=>xs.length<=big/\Q (.q xs) ds1) xe
theorem Ig(d:VAs c X es tr):VE c X (.List es pos) (tLstV tr):=by refine⟨PE.mono (qaF6 d.h) λσ H Q e=>?_,λj Q Q' k l n o=>d.m _ _ _ _ _ (λp r f=>N4 (n _ _)) o⟩;obtain⟨F,j,A,k,S,x,q⟩:=e;refine⟨F,j,A,k,S,x,d.m _ _ _ _ _ (λp r f q s H1 F1 T A1 g B S1 t v=>⟨by rw[g.len];exact zAn q.1 qj0,λy i=>?_⟩) (λ_ _ z=>z) q⟩;have same:=Same.new (u:=.l s) i;have w:=(qh2 i).ok t (λb a=>by rcases zAb.mp a with a|a;{exact g.cells b a};exact S1.loc.cells b a) same;exact q.2 (.ref y) _ F1 (y::T) A1 (.l qc5 (g.same same)) (S1.same same) w (v.trans ((qh2 i).stp same))
theorem Gu(a:VAs c X es tr):VE c X (.Tuple es n pos) (Jj tr):=by refine⟨PE.mono (qaP7 a.h) λσ H Q b=>?_,λe Q Q' f j k l=>a.m _ _ _ _ _ (λo p d=>N4 (k _ _)) l⟩;obtain⟨F,e,A,f,S,x,q⟩:=b;refine⟨F,e,A,f,S,x,a.m _ _ _ _ _ (λo p d q r H1 F1 T A1 g v S1 s t=>⟨by rw[g.len];exact zAn q.1 qj0,λy i=>?_⟩) (λ_ _ z=>z) q⟩;have same:=Same.new (u:=.q r) i;exact q.2 (.ref y) _ F1 T A1 (qN1 i g) (S1.same same) (s.same same) (t.trans (.same same))
end
structure VEnds where
 nx:Ds->Prop
 rt:DK
 bk:Ds->Prop
 ct:Ds->Prop
 xe:XKd
abbrev VTS:=VEnds->Ds->Prop
structure VEnds.Le(e e':VEnds):Prop where
 nx:∀ds,e.nx ds->e'.nx ds
 rt:∀d ds,e.rt d ds->e'.rt d ds
 bk:∀ds,e.bk ds->e'.bk ds
 ct:∀ds,e.ct ds->e'.ct ds
 xe:∀x ds,e.xe x ds->e'.xe x ds
structure Lk(c:Vc)(E:Dl)(F:γ->Prop)(H:Hp)(A:List γ)(e:VEnds):Prop where
 nx:∀ds' a' H' F' A',e.nx ds'->Pf c F' H' a' ds' A'->Pe F H A F' H' A'->E.nx a' H'
 rt:∀d ds' v a' H' F' T A',e.rt d ds'->Pc F' H' v d T->Pf c F' H' a' ds' A'->Ok F' H' (T++A')->Pe F H A F' H' (T++A')->E.rt v H'
 bk:∀ds' a' H' F' A',e.bk ds'->Pf c F' H' a' ds' A'->Pe F H A F' H' A'->E.bk a' H'
 ct:∀ds' a' H' F' A',e.ct ds'->Pf c F' H' a' ds' A'->Pe F H A F' H' A'->E.ct a' H'
 xe:Xc c e.xe F H A
theorem Lk.step(l:Lk c E F H A e)(s:Pe F H A F1 H1 A1):Lk c E F1 H1 A1 e:=⟨λa b' H' F' A' h S t=>l.nx a b' H' F' A' h S (s.trans t),λd a v b' H' F' T A' h r S o t=>l.rt d a v b' H' F' T A' h r S o (s.trans t),λa b' H' F' A' h S t=>l.bk a b' H' F' A' h S (s.trans t),λa b' H' F' A' h S t=>l.ct a b' H' F' A' h S (s.trans t),l.xe.step s⟩
inductive LiftS(c:Vc)(t:VTS)(E:Dl)(a:St)(H:Hp):Prop
 |mk (F:γ->Prop) (ds:Ds) (A:List γ) (e:VEnds) (S:Pf c F H a ds A) (l:Lk c E F H A e) (q:t e ds):LiftS c t E a H
def Es(c:Vc)(t:VTS):TS:=LiftS c t
structure VS(c:Vc)(X:Cx)(st:K4)(t:VTS):Prop where
 h:PS X st (Es c t)
 m:∀(e e':VEnds) ds,e.Le e'->t e ds->t e' ds
structure VSs(c:Vc)(X:Cx)(st:List K4)(t:VTS):Prop where
 h:PSs X st (Es c t)
 m:∀(e e':VEnds) ds,e.Le e'->t e ds->t e' ds
section
variable{c:Vc}{X:Cx}{a b e:Kz}{J:K4}{rest:List K4}{t u:VTS}{te:VT}{pos:Pos}
def Gh:VTS:=λe ds=>e.nx ds
def Gi(t u:VTS):VTS:=λe ds=>t {e with nx:=u e} ds
theorem Ay:VSs c X [] Gh:=⟨PSs.mono qaz2 λE G H ⟨F,a,A,e,S,l,q⟩=>l.nx a G H F A q S Pe.refl,λe b a h=>h.nx a⟩
theorem Ab(h1:VS c X J t)(h2:VSs c X rest u):VSs c X (J::rest) (Gi t u):=by refine⟨PSs.mono (qT0 h1.h h2.h) λE G H a=>?_,λe f b h=>h1.m _ _ _ ⟨λb=>h2.m _ _ _ h,h.rt,h.bk,h.ct,h.xe⟩⟩;obtain⟨F,b,A,e,S,l,q⟩:=a;exact⟨F,b,A,{e with nx:=u e},S,⟨λd G' H' F' A' q S' s=>⟨F',d,A',e,S',l.step s,q⟩,l.rt,l.bk,l.ct,l.xe⟩,q⟩
theorem Ak(h1:VS c X J t):VSs c X [J] t:=⟨qA5 h1.h,h1.m⟩
def sRet(te:VT):VTS:=λe ds=>te ds e.rt e.xe
theorem Av(h:VE c X e te):VS c X (.Return (some e) pos) (sRet te):=by refine⟨PS.mono (Hr h.h) λE G H ⟨F,b,A,e,S,l,q⟩=>⟨F,b,A,e.xe,S,l.xe,h.m _ _ _ _ _ (λd a q v H' F' T A' r S' o s=>l.rt d a v G H' F' T A' q r S' o s) (λ_ _ z=>z) q⟩,λe g b f=>h.m _ _ _ _ _ f.rt f.xe⟩
def sExpr(te:VT):VTS:=λe ds=>te ds (λ_ a=>e.nx a) e.xe
theorem Bb(h:VE c X e te)(i:swapsWith e none pos.line X.env=pure false:=by rfl):VS c X (.Expr e pos) (sExpr te):=by refine⟨PS.mono (qaO9 h.h i) λE G H ⟨F,f,A,e,S,l,q⟩=>⟨F,f,A,e.xe,S,l.xe,h.m _ _ _ _ _ (λd a q v H' F' T A' r S' o s=>l.nx a G H' F' A' q S' (s.count λb=>by rw[zA0];lia)) (λ_ _ z=>z) q⟩,λe j f g=>h.m _ _ _ _ _ (λ_=>g.nx) g.xe⟩
def sIf(qc:VTT)(t u:VTS):VTS:=λe ds=>qc ds (λk a=>if k=true then t e a else u e a) e.xe
theorem sif(b:VTe c X cd qc)(g:VSs c X x t)(i:VSs c X y u):VS c X (.If cd x y pos) (sIf qc t u):=by refine⟨PS.mono (ps_if b.h g.h i.h) λE G H d=>?_,λe n j f=>b.m _ _ _ _ _ (λk a=>qO1 (g.m _ _ _ f) (i.m _ _ _ f)) f.xe⟩;obtain⟨F,j,A,e,S,l,q⟩:=d;refine⟨F,j,A,e.xe,S,l.xe,b.m _ _ _ _ _ (λk a q H' F' A' S' s=>?_) (λ_ _ z=>z) q⟩;cases k with|true=>rw[if_pos rfl] at q ⊢;exact⟨F',a,A',e,S',l.step s,q⟩|false=>rw[if_neg ∅] at q ⊢;exact⟨F',a,A',e,S',l.step s,q⟩
def qaY9:VTS:=λ_ _=>False
theorem qm5:VS c X J qaY9:=⟨λ_ _ _ _ _ _ ⟨_,_,_,_,_,_,q⟩=>q.elim,λ_ _ _ _ q=>q.elim⟩
abbrev VTG:=D->Ds->(Ds->Prop)->Prop
inductive LiftG(c:Vc)(g:VTG)(v:V)(G:St)(H:Hp)(Q:St->Hp->Prop):Prop
 |mk (F:γ->Prop) (ds:Ds) (A T:List γ) (d:D) (r:Pc F H v d T) (S:Pf c F H G ds A) (o:Ok F H (T++A)) (q:g d ds (λds'=>∀G' H' F' A',Pf c F' H' G' ds' A'->Pe F H (T++A) F' H' A'->Q G' H')):LiftG c g v G H Q
def E7(c:Vc)(g:VTG):TG:=LiftG c g
structure VG(c:Vc)(X:Cx)(e:Kz)(g:VTG):Prop where
 h:PG X e (E7 c g)
 m:∀d ds (Q Q':Ds->Prop),(∀ds',Q ds'->Q' ds')->g d ds Q->g d ds Q'
theorem PG.mono(h:PG X e g)(i:∀v G H Q,g' v G H Q->g v G H Q):PG X e g':=λD8 s G H v u Q I r q=>h D8 s G H v u Q I r (i v G H Q q)
theorem Pf.store(S:Pf c F H G ds A)(m:c.W i=false)(hi:i<G.length)(r:Pc F H v d T)(o:Ok F H (T++A)):∃A',Pf c F H (G.set i (some v)) (ds.set i d) A'/\Pe F H (T++A) F H A':=by
 have n:=S.loc.len;rw[zA6] at n;obtain⟨σ1,x,σ2,e,f,A1,B,A2,p,e2,q,s,t,u,y,w⟩:=S.loc.split (i:=i) (d:=ds[i]'⋯) (by simp);have hσ:G.set i (some v)++c.gv=σ1++some v::σ2:=by rw[<-Mw _ _ hi,p,qo7 q]
 have g:ds.set i d=e++d::f:=by have:=congrArg (λl=>l.set i d) e2;rw[this,qo7 s]
 have a:∀b,(A1++(T++A2)).count b<=(T++A).count b:=λb=>by rw[t];simp only[zA0];lia
 refine⟨A1++(T++A2),⟨by rw[hσ,g];exact u.append (.so r w),o.count a,?_,λj h=>?_⟩,Pe.refl.count a⟩;{rw[S.len,zA6,zA6,Mp]};have k:i≠j:=λz=>by subst z;rw[m] at h;cases h
 rw[<-S.ag j h,<-Mw _ _ hi,zBe k]
def gNm(i:Nat):VTG:=λd ds Q=>Q (ds.set i d)
theorem Bc(i:Nat)(b:X.N.Nodup)(e:c.W i=false:=by rfl)(hi:X.N[i]?=some x:=by rfl)(f:Loc X.env.scope x:=by first|exact O3 rfl|exact O2 rfl)(g:X.fn x=true∨X.env.scope.names.lookup x=some .local:=by first|exact .inl rfl|exact .inr rfl|assumption):VG c X (.Name x pos) (gNm i):=by refine⟨λD8 s G H v h Q I j a=>?_,λd k Q Q' l=>l _⟩;obtain⟨F,k,A,T,d,r,S,o,q⟩:=a;refine qaz4 b hi f g D8 s G H v h Q I j ?_;obtain⟨A',S',m⟩:=S.store e (qn7 hi D8 G H s I) r o;exact q _ H F A' S' m
def Ec(te:VT)(g:VTG):VTS:=λe ds=>te ds (λd a=>g d a e.nx) e.xe
theorem qbf9(h:VE c X e te)(f:VG c X tg g):∀E G H,Es c (Ec te g) E G H->Ht (Bj c te) (E7 c g) E G H:=by rintro E G H ⟨F,i,A,j,S,l,q⟩;refine⟨F,i,A,j.xe,S,l.xe,h.m _ _ _ _ _ (λd a q v H' F' T A' r S' o s=>?_) (λ_ _ z=>z) q⟩;exact⟨F',a,A',T,d,r,S',o,f.m _ _ _ _ (λb q σ2 H2 F2 A2 S2 k=>l.nx b σ2 H2 F2 A2 q S2 (s.trans k)) q⟩
theorem qaq1(h:VE c X e te)(f:VG c X tg g):∀(en a:VEnds) ds,en.Le a->Ec te g en ds->Ec te g a ds:=λen a ds b=>h.m _ _ _ _ _ (λd i=>f.m _ _ _ _ b.nx) b.xe
theorem E8(h:VE c X e te)(a:VG c X tg g)(b:swapsWithSole [tg] e pos.line X.env=pure false:=by rfl)(d:swappedStores [tg] e X.env=pure none:=by rfl)(h1:(Ks [tg] X.env).map (·.2)=[assign tg X.env]:=by rfl):VS c X (.Assign [tg] e pos) (Ec te g):=⟨PS.mono (qaZ4 h.h a.h b d h1) (qbf9 h a),qaq1 h a⟩
theorem An(i:Nat)(a:X.N.Nodup)(h:VE c X e te)(b:c.W i=false:=by rfl)(hi:X.N[i]?=some x:=by rfl)(f:Loc X.env.scope x:=by first|exact O3 rfl|exact O2 rfl)(j:swapsWith e (some (.Name x pos')) pos.line X.env=pure false:=by rfl)(g:X.fn x=true∨X.env.scope.names.lookup x=some .local:=by first|exact .inl rfl|exact .inr rfl|assumption):VS c X (.Assign [.Name x pos'] e pos) (Ec te (gNm i)):=by have k:VG c X (.Name x pos') (gNm i):=Bc i a b hi f g;refine⟨λD8 s G H E I q=>qaO8 a hi f h.h j g D8 s G H E I ?_,qaq1 h k⟩;obtain⟨F,n,A,p,S,l,q⟩:=q;refine⟨F,n,A,p.xe,S,l.xe,h.m _ _ _ _ _ (λd t q v H' F' T A' r S' o u=>?_) (λ_ _ z=>z) q⟩;obtain⟨A2,S2,w⟩:=S'.store b (qn7 hi D8 G H s I) r o;exact l.nx _ _ H' F' A2 q S2 (u.trans w)
abbrev F7:=Ds->Ds->(Ds->Prop)->Prop
inductive qaX6(c:Vc)(g:F7)(vs:List V)(G:St)(H:Hp)(Q:St->Hp->Prop):Prop
 |mk (F:γ->Prop) (ds:Ds) (A T:List γ) (xs:Ds) (r:O6 F H vs xs T) (S:Pf c F H G ds A) (o:Ok F H (T++A)) (q:g xs ds (λds'=>∀G' H' F' A',Pf c F' H' G' ds' A'->Pe F H (T++A) F' H' A'->Q G' H')):qaX6 c g vs G H Q
def qbc4(c:Vc)(g:F7):TGs:=qaX6 c g
structure VGs(c:Vc)(X:Cx)(es:List Kz)(g:F7):Prop where
 h:PGs X es (qbc4 c g)
 m:∀xs ds (Q Q':Ds->Prop),(∀ds',Q ds'->Q' ds')->g xs ds Q->g xs ds Q'
theorem PGs.mono(h:PGs X es g)(i:∀v G H Q,g' v G H Q->g v G H Q):PGs X es g':=λD8 s G H v u Q I r q=>h D8 s G H v u Q I r (i v G H Q q)
def Jk:F7:=λxs ds Q=>match xs with | []=>Q ds|_=>False
def Jl(g:VTG)(b:F7):F7:=λxs ds Q=>match xs with|x::r=>g x ds λa=>b r a Q | []=>False
theorem E9:VGs c X [] Jk:=by refine⟨PGs.mono qaP5 λf G H Q a=>?_,λb d Q Q' e q=>by cases b with|nil=>exact e _ q|cons _ _=>exact q.elim⟩;obtain⟨F,d,A,T,b,r,S,o,q⟩:=a;cases b with|nil=>cases r;exact⟨rfl,q G H F A S Pe.refl⟩|cons _ _=>exact q.elim
theorem qt1(h1:VG c X tg g)(h2:VGs c X es l)(s:(Ks (tg::es) X.env).map (·.2)=assign tg X.env::(Ks es X.env).map (·.2):=by rfl):VGs c X (tg::es) (Jl g l):=by
 refine⟨PGs.mono (qaF4 h1.h h2.h s) λe G H Q ⟨F,n,A,T,d,r,S,o,q⟩=>?_,λd n Q Q' t q=>by cases d with|nil=>exact q.elim|cons x r=>exact h1.m _ _ _ _ (λu=>h2.m _ _ _ _ t) q⟩;cases d with
 |nil=>exact q.elim|cons x d=>
  cases r with
  |@cons v _ T1 e _ T2 r1 rt=>
   refine⟨v,e,rfl,F,n,A,T1,x,r1,S,o.count λb=>by simp only[zA0];lia,h1.m _ _ _ _ (λf q σ1 H1 F1 A1 S1 p=>?_) q⟩;have i:Ok F H (T2++(T1++A)):=o.count λb=>by simp only[zA0];lia
   obtain⟨w,y⟩:=p.frame i rt.cells S1.ok;have j:Ok F H (T1++A):=i.right;have k:O6 F1 H1 e d T2:=rt.keep (p.kp j λb a=>by
    rcases zAb.mp a with a|a;{exact r1.cells b a};exact S.loc.cells b a) λb a C=>by
    have:=i.sep b;rw[zA0] at this;have:=qb1.mp a;lia
   exact⟨F1,f,A1,T2,d,k,S1,w,h2.m _ _ _ _ (λz q σ2 H2 F2 A2 S2 B=>q σ2 H2 F2 A2 S2 ((y.pre λb=>by simp only[zA0];lia).trans B)) q⟩
def Jm(n:Nat)(a:F7):VTG:=λd ds Q=>match d with | .q xs=>xs.length=n/\a xs ds Q|_=>False
theorem Fa{e:F7}(j:X.calm=true)(h:VGs c X es e)(l:(Ks es X.env).length=n:=by rfl)(b:(Ks es X.env).findIdx? (·.1)=none:=by rfl):VG c X (.Tuple es k pos) (Jm n e):=by refine⟨PG.mono (qaZ7 j h.h l b) λv G H Q ⟨F,f,A,T,d,r,S,o,q⟩=>?_,λd f Q Q' p q=>by cases d with|q g=>exact⟨q.1,h.m _ _ _ _ p q.2⟩|_=>exact q.elim⟩;cases d with|q g=>obtain⟨a,s,rfl,t,i⟩:=r.tup_inv;exact⟨a,s,rfl,.inl (.inl t),by rw[i.len];exact q.1,F,f,A,T,g,i,S,o,q.2⟩|_=>exact q.elim
end
section
variable{c:Vc}{F:γ->Prop}{H:Hp}{X:St}{ds:Ds}{A T:List γ}
theorem qQ1(h:H a=some o)(hm:Ef o=true)(c:¬F a):Kp F H (λb=>b=a) F (upd H a o'):=⟨λb u e w=>by rw[qd1 w];exact e,λb w=>by subst w;exact⟨o,h,hm⟩,λb w=>by subst w;exact c,λ_ f=>f⟩
theorem O6.setAt(r:O6 F H vs ys Ael)(s:n<ys.length)(e:Pc F H v d Tv):∃B,O6 F H (vs.set n v) (ys.set n d) B/\∀b,B.count b<=Ael.count b+Tv.count b:=by
 obtain⟨f,w,g,a,c,A1,B,A2,h,e2,j,k,m,o,t,p⟩:=r.split (i:=n) (d:=ys[n]) (by simp);have q:ys.set n d=a++d::c:=by have:=congrArg (λl=>l.set n d) e2;rw[this,qo7 k]
 rw[h,qo7 j,q];exact⟨A1++(Tv++A2),o.append (.cons e p),λb=>by rw[m];simp only[zA0];lia⟩
theorem qE8(r:Pc F H v (.l false ys) B):∃a vs Ael,v=.ref a/\H a=some (.l vs)/\O6 F H vs ys Ael/\B=a::Ael:=by cases r with|l h r=>exact⟨_,_,_,rfl,h,r,rfl⟩
theorem qo1(S:Pf c F H X ds A)(h:Bf ds i p=some (.l false ys))(J:(X++c.gv)[i]?=some (some u))(K:Walk H u p w):∃(a:γ)(vs:List V)(Ael:List γ),w=.ref a/\H a=some (.l vs)/\O6 F H vs ys Ael/\∀(g:List V)(m:List D)(B' R T:List γ),Ok F H (T++A)->O6 F H g m B'->(∀b,B'.count b+R.count b<=Ael.count b+T.count b)->(∃A',Pf c F (upd H a (.l g)) X (Bk ds i p (.l false m)) A'/\Ok F (upd H a (.l g)) (R++A')/\Pe F H (T++A) F (upd H a (.l g)) (R++A'))/\∀v d,Pc F H v d R->Pc F (upd H a (.l g)) v d R:=by
 obtain⟨B,C,r,L,M⟩:=S.place h (by intro z;cases z) J K;obtain⟨a,vs,Ael,rfl,y,N,rfl⟩:=qE8 r;refine⟨a,vs,Ael,rfl,y,N,λg m B' R T q O E=>?_⟩;have n:∀b,A.count b=(if b=a then 1 else 0)+Ael.count b+C.count b:=λb=>by rw[L,zAr];by_cases j:b=a;{subst j;simp;lia};simp[j,Ne.symm j]
 have s:=n a;rw[if_pos rfl] at s;have sa:=q.sep a;rw[zA0] at sa;have P:=E a;have G:¬F a:=λf=>by have:=q.fro a f;rw[zA0] at this;lia
 have k:=qQ1 (F:=F) (o':=.l g) y rfl G;have rep':Pc F (upd H a (.l g)) (.ref a) (.l false m) (a::B'):=.l qc5 (O.keep k λb j w=>by subst w;have:=qb1.mp j;lia);obtain⟨A',Q,q2⟩:=M _ _ k (λb j w=>by subst w;have:=qb1.mp j;lia) rep';have t:∀b,A'.count b=(if b=a then 1 else 0)+B'.count b+C.count b:=λb=>by rw[q2,zAr];by_cases j:b=a;{subst j;simp;lia};simp[j,Ne.symm j]
 have l:∀b,(R++A').count b<=(T++A).count b:=λb=>by rw[zA0,zA0,t,n];have:=E b;lia
 have U:∀b,F b->∃o,upd H a (.l g) b=some o:=λb f=>by obtain⟨x,e⟩:=q.ex b f;exact⟨x,by rw[qd1 (show b≠a from λw=>G (w ▸ f))];exact e⟩
 have I:Ok F (upd H a (.l g)) (R++A'):=⟨λb=>zAn (l b) (q.sep b),λb f=>by have:=q.fro b f;have:=l b;lia,U⟩;refine⟨⟨A',⟨Q,I.right,S.len,S.ag⟩,I,λb u e z=>?_,λb u e z=>by have:=l b;lia,λ_ f=>f,λ_ _ _ _ f=>f⟩,λv d W=>W.keep k λb j w=>by subst w;have:=qb1.mp j;lia⟩;rw[qd1 λw=>?_];{exact e};subst w;have:=n b;rw[if_pos rfl] at this;rw[zA0] at z;lia
def F8(r:V->List V->Hp->VK->Prop)(g:Ds->Ds->Option (Ds×D)):Prop:=∀F H a vs ys Ael f xs T c d (Q:VK),H a=some (.l vs)->O6 F H vs ys Ael->O6 F H f xs T->g ys xs=some (c,d)->(∀e v B' R,O6 F H e c B'->Pc F H v d R->(∀b,B'.count b+R.count b<=Ael.count b+T.count b)->Q v (upd H a (.l e)))->r (.ref a) f H Q
def Gj(ys xs:Ds):Option (Ds×D):=match xs with|[x]=>if ys.length<big then some (ys++[x],.non) else none|_=>none
theorem qq3:F8 qaz0 Gj:=by intro F H a i c Ael m j T e d Q k r l h q;match j,h with|[x],h=>obtain⟨w,rfl,f⟩:=l.one_inv;have h:(if c.length<big then some (c++[x],D.non) else none)=some (e,d):=h;by_cases g:c.length<big;{rw[if_pos g] at h;cases h;refine⟨a,i,w,rfl,rfl,k,by rw[r.len];exact zAm g qj0,?_⟩;exact q _ .non (Ael++(T++[])) [] (r.append (.cons f .nil)) .non λb=>by simp[zA0]};rw[if_neg g] at h;cases h
noncomputable def gPop(ys xs:Ds):Option (Ds×D):=match xs with|[]=>(ys[ys.length-1]?).map λd=>(ys.dropLast,d)|_=>none
theorem O6.last(r:O6 F H vs ys Ael)(h:ys[ys.length-1]?=some d):∃v B R,vs[vs.length-1]?=some v/\O6 F H vs.dropLast ys.dropLast B/\Pc F H v d R/\∀b,B.count b+R.count b<=Ael.count b:=by
 obtain⟨e,v,f,g,a,A1,B,A2,c,e2,o,i,j,k,l,m⟩:=r.split h;have n:a=[]:=by have:=congrArg Ll e2;rw[zA6,zAp,i] at this;cases a with|nil=>rfl|cons _ _=>simp at this;lia
 subst n;cases m;refine⟨v,A1,B,?_,?_,l,λb=>by rw[j];simp only[zA0,Lv];lia⟩;{rw[c];simp};rw[c,e2,Mc,Mc];exact k
theorem qbb7:F8 rPop gPop:=by intro F H a c s Ael t f T g d Q i r j h q;match f,h with|[],h=>cases j;obtain⟨e,k,l⟩:=zAa.mp h;cases l;obtain⟨v,B,R,m,n,o,p⟩:=r.last k;exact⟨a,c,v,rfl,rfl,i,m,q _ v B R n o λb=>by have:=p b;lia⟩
end
section
variable{c:Vc}{X:Cx}{a b e o:Kz}{pf:PF}{tr:VTB}{es:List Kz}{r:V->List V->Hp->VK->Prop}{g:Ds->Ds->Option (Ds×D)}
noncomputable def D.own:D->Option Ds|.l false ys=>some ys|_=>none
theorem Jn{d:D}(h:d.own=some ys):d=.l false ys:=by cases d with|l z a=>(cases z with|false=>cases h;rfl|true=>cases h)|_=>cases h
def Eg(g:Ds->Ds->Option (Ds×D))(i:Nat)(tr:VTB):VT:=λds Q xe=>((rdN i ds).bind D.own).isSome=true/\tr ds (λxs _ ds1=>orF ((rdN i ds1).bind D.own) λys=>orF (g ys xs) λz=>Q z.2 (ds1.set i (.l false z.1))) xe
theorem qJ7(h:ds[i]?=some d):Bf ds i []=some d:=by unfold Bf;rw[h];rfl
theorem qH6(h:ds[i]?=some d):Bk ds i [] x=ds.set i x:=by unfold Bk;rw[h];rfl
theorem qaR9(t:T="list")(hm:F8 r g)(u:VAs c X es tr)(hi:i<σ.length)(q:Bj c (Eg g i tr) σ H Q):tBM X.K T r (Fh i) (E6 c tr) σ H Q:=by
 subst t;obtain⟨F,y,A,B,S,x,C,q⟩:=q;obtain⟨D,b⟩:=zB3.mp C;obtain⟨d0,E,f⟩:=zA1.mp b;cases Jn f;obtain⟨v,B0,o,G,_⟩:=S.name hi E;obtain⟨a,h,A0,rfl,j,_,_⟩:=G.lst_inv;refine⟨.ref a,o,.inl ⟨rfl,h,.inl (.inl j)⟩,F,y,A,B,S,x,u.m _ _ _ _ _ (λI ps J q L H1 F1 T A1 M pk S1 N O=>?_) (λ_ _ z=>z) q⟩;obtain⟨P,U,q⟩:=qa7.mp q;obtain⟨d1,e2,V⟩:=zA1.mp U;cases Jn V;obtain⟨⟨e,d⟩,W,q⟩:=qa7.mp q;obtain⟨s,hk⟩:=qm0.mp e2;have Y:(σ++c.gv)[i]?=some (some (.ref a)):=by rw[zAl hi];exact o
 obtain⟨a2,k,Ael,Z,l,rs,wr⟩:=qo1 S1 (qJ7 s) Y (p:=[]) (w:=.ref a) rfl;cases Z;refine hm F1 H1 a k P Ael L I T e d Q l rs M W λn v B' R h1 h2 h3=>?_;obtain⟨⟨A',S2,o2,s2⟩,kr⟩:=wr n e B' R T N h1 h3;rw[qH6 s] at S2;exact q v _ F1 R A' (kr v d h2) S2 o2 (O.trans s2)
theorem qat6(e:VAs c X es tr):∀ds (Q Q':DK) (xe b:XKd),(∀d a,Q d a->Q' d a)->(∀x a,xe x a->b x a)->Eg g i tr ds Q xe->Eg g i tr ds Q' b:=λds Q Q' xe b f h=>N4 (e.m _ _ _ _ _ (λk l j=>qa5 λy=>qa5 λz=>f _ _) h)
theorem Pc.nW{F F':γ->Prop}{H H':Hp}{W:γ->Prop}{a:γ}{d0 e:D}{B:List γ}(r:Pc F H (.ref a) d0 B)(k:Kp F H W F' H')(d:∀b∈B,¬W b)(f:d0.kids[n]?=some e):¬W a:=by cases r with|q c _=>intro w;obtain⟨o,e,m⟩:=k.wm a w;rw[c] at e;cases e;cases m|l c _=>exact d _ zAh|dct c _ _=>exact d _ zAh|ins c _ _=>exact d _ zAh|_=>cases (show (none:Option D)=some _ from f)
theorem qar0(k:Kp F H W F' H'):∀{p:List Nat}{f:V}{d0 d:D}{B:List γ}{w l:V},(∀b∈B,¬W b)->Pc F H f d0 B->d0.getP p=some d->Walk H f p w->Walk H' f p l->l=w:=by
 intro p;induction p with
 |nil=>intro f d0 d B w l _ _ _ h o;cases h;cases o;rfl|cons n p z=>
  intro f d0 d B w l q r g h o;unfold D.getP at g;cases i:d0.kids[n]? with
  |none=>rw[i] at g;cases g|some e=>
   rw[i] at g;obtain⟨x,A,E⟩:=h;obtain⟨M,s,t⟩:=o;obtain⟨y,B1,C1,v,G,I,_⟩:=r.kid i;obtain⟨N,B1',C1',j,_,_,_⟩:=(r.keep k q).kid i;cases A.fn v;cases s.fn j;have u:Lnk H' f n x:=by obtain⟨a,rfl,J⟩:=v;have m:=r.nW k q i;exact⟨a,rfl,J.imp (λ⟨c,e,h⟩=>⟨c,k.fr _ _ e m,h⟩) (O4 (λ⟨c,e,h⟩=>⟨c,k.fr _ _ e m,h⟩) (O4 (λ⟨c,e,h⟩=>⟨c,k.fr _ _ e m,h⟩) λ⟨C,K,c,e,h⟩=>⟨C,K,c,k.fr _ _ e m,h⟩))⟩
   cases u.fn j;exact z (B:=B1) (λb L=>q b (qb1.mpr (by have:=I b;have:=qb1.mp L;lia))) G g E t
def Et(g:Ds->Ds->Option (Ds×D))(pf:PF)(tr:VTB):VT:=λds Q xe=>orF (pf ds) λq=>orF ((Bf ds q.1 q.2).bind D.own) λys=>orF ds[q.1]? λa=>tr (ds.set q.1 .u) (λxs _ ds1=>orF (g ys xs) λz=>Q z.2 (Bk (ds1.set q.1 a) q.1 q.2 (.l false z.1))) xe
theorem qX2(e:VAs c X es tr):∀ds (Q Q':DK) (xe b:XKd),(∀d a,Q d a->Q' d a)->(∀x a,xe x a->b x a)->Et g pf tr ds Q xe->Et g pf tr ds Q' b:=λds Q Q' xe b f h=>qa5 λq=>qa5 λj=>qa5 λk=>e.m _ _ _ _ _ (λl n i=>qa5 λz=>f _ _) h
theorem qaA0(hm:F8 r g)(ha:VAs c X es tr):∀σ H Q,Bj c (Et g pf tr) σ H Q->tBM X.K "list" r (Hk c pf) (E6 c tr) σ H Q:=by
 rintro σ H Q ⟨F,Y,A,xe,S,x,q⟩;obtain⟨⟨i,p⟩,e1,q⟩:=qa7.mp q;obtain⟨n,e2,q⟩:=qa7.mp q;obtain⟨dl,h,e4⟩:=zA1.mp e2;cases Jn e4;obtain⟨I,l,q⟩:=qa7.mp q;refine⟨F,Y,A,i,p,_,S,e1,h,D.noConfusion,λu w H1 s Z s0=>?_⟩;have S0:=S.same s0;obtain⟨a,L,Ael0,rfl,M,a0,_⟩:=qo1 S0 h s Z;refine⟨.inl ⟨rfl,L,.inl (.inl M)⟩,?_⟩;have N:I≠.u:=λz=>by subst z;have j:=h;unfold Bf at j;rw[l] at j;cases (qao1 j).2
 obtain⟨u',B,C,h1,J,h3,h4⟩:=S0.put1 l N;rw[s] at h1;cases h1;obtain⟨A1,q1,q2⟩:=h4 .u [] (Kp.same (F:=F) λ_ _ z=>z) (λ_ _ z=>z) (.u u);have O:Ok F H1 (B++A1):=S0.ok.count λb=>by rw[zA0,q2,h3];simp
 have s1:Pe F H A F H1 (B++A1):=⟨λb o e _=>s0 b o e,λb o e z=>by rw[zA0,q2];have:=h3 b;simp;lia,λ_ f=>f,λ_ _ _ _ f=>f⟩;have S1:Pf c F H1 σ (Y.set i .u) A1:=⟨q1,O.right,S.len,S.ag⟩;have P:Pe F H A F H1 A1:=s1.count λb=>by rw[zA0];lia
 refine⟨F,_,A1,xe,S1,x.step P,ha.m _ _ _ _ _ (λxs ps k q vs H2 F2 T2 A2 r2 pk S2 o2 s2=>?_) (λ_ _ z=>z) q⟩;obtain⟨⟨t,d⟩,e7,q⟩:=qa7.mp q;have kp:=s2.kp S1.ok S1.loc.cells;have hBout:∀b∈B,¬(A1.count b≠0):=λb hb hc=>by have:=O.sep b;rw[zA0] at this;have:=qb1.mp hb;lia
 have y:Pc F2 H2 u I B:=J.keep kp hBout;obtain⟨o3,s3⟩:=s2.frame O J.cells o2;obtain⟨A3,k1,k2⟩:=qH5 S2.loc s y;have E:∀b,A3.count b<=B.count b+A2.count b:=k2;have o4:Ok F2 H2 (T2++A3):=o3.count λb=>by simp only[zA0];have:=E b;lia
 have s4:Pe F H A F2 H2 (T2++A3):=(s1.trans s3).count λb=>by simp only[zA0];have:=E b;lia
 have S3:Pf c F2 H2 σ (k.set i I) A3:=⟨k1,o4.right,S.len,S.ag⟩;have G:i<k.length:=by rw[<-S2.loc.len];exact(zA5.mp s).1
 have e8:Bf (k.set i I) i p=some (.l false n):=by unfold Bf at h ⊢;rw[l] at h;rw[zCb G];exact h
 have T:Walk H2 u p (.ref a):=by
  obtain⟨w',_,_,w1,_,_,_⟩:=J.path (p:=p) (d:=.l false n) (by unfold Bf at h;rw[l] at h;exact h);cases Z.fn w1;obtain⟨w2,_,_,w3,_,_,_⟩:=y.path (p:=p) (d:=.l false n) (by unfold Bf at h;rw[l] at h;exact h);have:w2=.ref a:=by refine qar0 (d:=.l false n) kp hBout J ?_ w1 w3;unfold Bf at h;rw[l] at h;exact h
  rw[<-this];exact w3
 obtain⟨a2,U,Ael,ea,V,rs,wr⟩:=qo1 S3 e8 s T;cases ea;refine hm F2 H2 a U n Ael vs xs T2 t d Q V rs r2 e7 λW v B' R z1 z2 z3=>?_;obtain⟨⟨A',S4,o5,s5⟩,kr⟩:=wr W t B' R T2 o4 z1 z3;exact q v _ F2 R A' (kr v d z2) S4 o5 (s4.trans s5)
end
section
variable{c:Vc}{X:Cx}{a b e o:Kz}{pos cpos apos:Pos}{pf:PF}{tr:VTB}{es:List Kz}{fb:FV}{ob:Bool}{r:V->List V->Hp->VK->Prop}{g:Ds->Ds->Option (Ds×D)}{name:Str}{id:String}
theorem Bp(i:Nat)(k:F8 r g)(l:PlainAttrs "list")(slot:Slot "list" name id)(b:typeOf (.builtin id)=pure (.type "method_descriptor"))(hm:MtM X id r)(d:VAs c X (e::es) tr)(j:X.N[i]?=some x:=by rfl)(m:Vis X.env.scope x:=by first|exact O3 rfl|exact O2 (O3 rfl)|exact O2 (O2 rfl))(n:N' x:=by decide)(f:(x==("__classdict__" : Str))=false:=by decide)(hbase:Ki (.Name x p0) name X.env (eval (.Name x p0) X.env)=eval (.Name x p0) X.env:=by rfl)(a:((backTo cpos (Kb (e::es) X.env)).all (λx=>!x.1)&&(backToKw cpos (Km [] X.env)).all (λx=>x.1.isSome)
     && decide ((e::es).length+([]:List Keyword).length+(if ([]:List Keyword).isEmpty then 0 else 1)<30))=true:=by rfl)(hline:(apos.endLine==cpos.line)=true:=by rfl)(o:Kb (e::es) X.env=(false,eval e X.env)::Kb es X.env:=by rfl)(hplain:(backTo cpos (Kb es X.env)).any (·.1)=false:=by rfl):VE c X (.Call (.Attribute (.Name x p0) name apos) (e::es) [] cpos) (Eg g i tr):=⟨λD8 s σ H Q I q=>Hb l slot b hm (qn3 j m n f) d.h hbase a hline o hplain D8 s σ H Q I (qaR9 rfl k d (qn7 j D8 σ H s I) q),qat6 d⟩
theorem emutP(f:F8 r g)(i:PlainAttrs "list")(slot:Slot "list" name id)(b:typeOf (.builtin id)=pure (.type "method_descriptor"))(hm:MtM X id r)(j:VP c X o pf)(d:VAs c X (e::es) tr)(hbase:Ki o name X.env (eval o X.env)=eval o X.env:=by rfl)(a:((backTo cpos (Kb (e::es) X.env)).all (λx=>!x.1)&&(backToKw cpos (Km [] X.env)).all (λx=>x.1.isSome)
     && decide ((e::es).length+([]:List Keyword).length+(if ([]:List Keyword).isEmpty then 0 else 1)<30))=true:=by rfl)(hline:(apos.endLine==cpos.line)=true:=by rfl)(k:Kb (e::es) X.env=(false,eval e X.env)::Kb es X.env:=by rfl)(hplain:(backTo cpos (Kb es X.env)).any (·.1)=false:=by rfl):VE c X (.Call (.Attribute o name apos) (e::es) [] cpos) (Et g pf tr):=⟨PE.mono (Hb i slot b hm j.h d.h hbase a hline k hplain) (qaA0 f d),qX2 d⟩
theorem qbe5(e:F8 r g)(f:PlainAttrs "list")(slot:Slot "list" name id)(a:typeOf (.builtin id)=pure (.type "method_descriptor"))(hm:MtM X id r)(j:VP c X o pf)(hbase:Ki o name X.env (eval o X.env)=eval o X.env:=by rfl)(hline:(apos.endLine==cpos.line)=true:=by rfl):VE c X (.Call (.Attribute o name apos) [] [] cpos) (Et g pf A8):=⟨PE.mono (qba2 f slot a hm j.h hbase hline) λσ H Q q=>by
   obtain⟨F,k,A,i,p,d,S,l,e2,b,q⟩:=qaA0 (X:=X) (c:=c) e Ac σ H Q q;refine⟨F,k,A,i,p,d,S,l,e2,b,λu w H1 m n s=>?_⟩;obtain⟨a,F2,t,A2,v,S2,x,q2⟩:=q u w H1 m n s;exact⟨a,q2 [] H1 F2 [] A2 .nil .nil S2 S2.ok Pe.refl⟩,qX2 (c:=c) (X:=X) Ac⟩
def Ft(pf:PF)(fb:FV):VTG:=λd ds Q=>orF (pf ds) λq=>orF ((Bf ds q.1 q.2).bind D.own) λys=>orF ((fb ds).bind D.asI) λk=>orF (ixN ys.length k) λn=>Q (Bk ds q.1 q.2 (.l false (ys.set n d)))
theorem Eh(y:VP c X o pf)(hi:VV c X b ob fb)(f:∀v,assign (.Subscript o b pos) X.env v=(do
 let ov<-holding [v] (eval o X.env)
 let iv<-holding [v,ov] (eval b X.env)
 standAt pos
 holding [v,ov,iv] (setItem ov iv v)
 release [v,ov,iv] []):=by intro _;rfl):VG c X (.Subscript o b pos) (Ft pf fb):=by
 refine⟨PG.mono (qaZ8 y.h hi.h qag9 f) λv σ H Q g=>?_,λd j Q Q' z=>qa5 λ_=>qa5 λ_=>qa5 λ_=>qa5 λ_=>z _⟩;obtain⟨F,j,A,T,d,r,S,B,q⟩:=g;obtain⟨⟨i,p⟩,C,q⟩:=qa7.mp q;obtain⟨E,e2,q⟩:=qa7.mp q;obtain⟨Y,l,G⟩:=zA1.mp e2;cases Jn G;obtain⟨k,I,q⟩:=qa7.mp q;obtain⟨J,K,L⟩:=zA1.mp I;obtain⟨n,m,q⟩:=qa7.mp q;refine⟨F,j,A,i,p,_,S,C,l,D.noConfusion,λu w H1 M N s=>⟨F,j,A,J,S.same s,K,λZ H2 B2 O t _=>?_⟩⟩;have e:=s.trans t;have S2:=S.same e;cases O.asI L;obtain⟨a,P,Ael,rfl,f,x,wr⟩:=qo1 S2 l M (N.same t);have R:n<E.length:=(qY0 m).2.1;obtain⟨B',U,V⟩:=x.setAt R (r.same e);obtain⟨⟨A',S3,o3,W⟩,_⟩:=wr _ _ B' [] T (B.same e) U λb=>by have:=V b;simp;lia
 exact⟨a,P,k,n,rfl,rfl,f,by rw[x.len];exact m,q σ _ F A' S3 ((Pe.same e).trans W)⟩
def sAugV(f:Int->Int->Int)(pf:PF)(fb a:FV):VTS:=λe ds=>orF (pf ds) λq=>orF ((Bf ds q.1 q.2).bind D.own) λys=>orF ((fb ds).bind D.asI) λk=>0<=k/\orF ((ys[k.toNat]?).bind D.asI) λx=>orF ((a ds).bind D.asI) λy=>e.nx (Bk ds q.1 q.2 (.l false (ys.set k.toNat (.int (f x y)))))
theorem saug{op:Operator}{N:FV}{V:Bool}(W:VP c X o pf)(hi:VV c X b ob fb)(Y:VV c X e V N)(Z:PIp X op (ipI f))(ha:∀n r d,augStore b n r d=(do holding [d,n,r] (setItem n r d);release [d,n,r] [];pure .next):=by intros;rfl):VS c X (.AugAssign (.Subscript o b tpos) op e pos) (sAugV f pf fb N):=by
 refine⟨PS.mono (qaP0 W.h hi.h qaJ2 Y.h Z qag9 ha) λE σ H t=>?_,λen a0 s hl=>qa5 λ_=>qa5 λ_=>qa5 λ_=>N4 (qa5 λ_=>qa5 λ_=>hl.nx _)⟩;obtain⟨F,s,A,en,S,l,q⟩:=t;obtain⟨⟨i,p⟩,e1,q⟩:=qa7.mp q;obtain⟨ys,e2,q⟩:=qa7.mp q;obtain⟨dl,v,e4⟩:=zA1.mp e2;cases Jn e4;obtain⟨k,e5,O,q⟩:=qa7.mp q;obtain⟨dk,e6,e7⟩:=zA1.mp e5;obtain⟨x,e8,q⟩:=qa7.mp q;obtain⟨dx,P,z⟩:=zA1.mp e8;obtain⟨y,B,q⟩:=qa7.mp q;obtain⟨dy,C,G⟩:=zA1.mp B;refine⟨F,s,A,i,p,_,S,e1,v,D.noConfusion,λu w H1 Q R T=>⟨F,s,A,dk,S.same T,e6,λvk H2 B2 r2 I _=>?_⟩⟩;have g:=T.trans I;cases r2.asI e7;obtain⟨a,vs,Ael,rfl,J,K,_⟩:=qo1 (S.same g) v Q (R.same I);obtain⟨vx,Bx,hx,rx,_⟩:=K.get P;cases rx.asI z;refine⟨a,vs,k,_,rfl,rfl,J,O,hx,F,s,A,dy,S.same g,C,λvy H3 B3 r3 U _=>?_⟩;cases r3.asI G;have j:=g.trans U;have S3:=S.same j;obtain⟨a',L,Ael',ea,M,m,wr⟩:=qo1 S3 v Q ((R.same I).same U);cases ea;have hn:k.toNat<ys.length:=(zA5.mp P).1;obtain⟨B',r4,h4⟩:=m.setAt hn (.int (f x y));obtain⟨⟨A',S4,o4,s4⟩,_⟩:=wr _ _ B' [] [] S3.ok r4 λb=>by have:=h4 b;simpa using this
 refine⟨x,y,rfl,rfl,a,L,k,k.toNat,rfl,rfl,M,?_,l.nx _ σ _ F A' q S4 ((Pe.same j).trans s4)⟩;rw[m.len];unfold ixN;rw[if_pos O,if_pos ⋯]
noncomputable def Fb(f:Str)(d:D):List (Str×D)->List (Str×D)|[]=>[(f,d)]|(g,x)::r=>if g=f then (g,d)::r else (g,x)::Fb f d r
end
section
variable{c:Vc}{X:Cx}{F:γ->Prop}{H:Hp}{W:St}{ds:Ds}{A T:List γ}{a b e o:Kz}{pos cpos apos:Pos}{te:VT}{pf:PF}{fa fb:FV}{oa ob:Bool}
theorem qW8:∀{a:List (Str×V)}{c:List (Str×D)}{B Tv:List γ}{f:Str}{v:V}{d:D},a.map (·.1)=c.map (·.1)->O6 F H (a.map (·.2)) (c.map (·.2)) B->Pc F H v d Tv->(Da f v a).map (·.1)=(Fb f d c).map (·.1)/\∃B',O6 F H ((Da f v a).map (·.2)) ((Fb f d c).map (·.2)) B'/\∀b,B'.count b<=B.count b+Tv.count b
 |[],[],B,Tv,f,v,d,_,r,rv=>⟨rfl,Tv++[],.cons rv .nil,λb=>by simp⟩|[],_::_,_,_,_,_,_,h,_,_=>by simp at h|_::_,[],_,_,_,_,_,h,_,_=>by simp at h|(k,w)::r,(k',x)::r',B,Tv,f,v,d,h,rs,rv=>by
  have i:k=k':=by simp at h;exact h.1
  have e:r.map (·.1)=r'.map (·.1):=by simp at h;simpa using h.2
  subst i;cases rs with|@cons _ _ B1 _ _ B2 q t=>by_cases g:k=f;{simp only[Da,Fb,if_pos g,zAz,e,true_and];exact⟨Tv++B2,.cons rv t,λb=>by simp only[zA0];lia⟩};obtain⟨j,B',l,m⟩:=qW8 (f:=f) e t rv;simp only[Da,Fb,if_neg g,zAz,j,true_and];exact⟨B1++B',.cons q l,λb=>by simp only[zA0];have:=m b;lia⟩
def D.ownI(C:γ):D->Option (List (Str×D))|.ins false C' fs=>if C'=C then some fs else none|_=>none
theorem qaQ5{d:D}(h:d.ownI C=some fs):d=.ins false C fs:=by cases d with|ins z C' b=>(cases z with|false=>have h:(if C'=C then some b else none)=some fs:=h;by_cases a:C'=C;{rw[if_pos a] at h;cases h;rw[a]};rw[if_neg a] at h;cases h|true=>cases h)|_=>cases h
theorem qaQ4(S:Pf c F H W ds A)(h:Bf ds i p=some (.ins false C l))(E:(W++c.gv)[i]?=some (some u))(G:Walk H u p w):∃(a dx:γ)(d:List (Str×V))(Ael:List γ),w=.ref a/\H a=some (.ins C dx d)/\d.map (·.1)=l.map (·.1)/\O6 F H (d.map (·.2)) (l.map (·.2)) Ael/\∀(fvs':List (Str×V))(fds':List (Str×D))(B' T:List γ),Ok F H (T++A)->fvs'.map (·.1)=fds'.map (·.1)->O6 F H (fvs'.map (·.2)) (fds'.map (·.2)) B'->(∀b,B'.count b<=Ael.count b+T.count b)->∃A',Pf c F (upd H a (.ins C dx fvs')) W (Bk ds i p (.ins false C fds')) A'/\Pe F H (T++A) F (upd H a (.ins C dx fvs')) A':=by
 obtain⟨B,C0,r,I,J⟩:=S.place h D.noConfusion E G;cases r with
 |@ins a _ dx d _ Ael ha hk rs=>
 refine⟨a,dx,d,Ael,rfl,ha,hk,rs,λfvs' fds' B' T n q K v=>?_⟩;have m:∀b,A.count b=(if b=a then 1 else 0)+Ael.count b+C0.count b:=λb=>by
  rw[I,zAr];by_cases g:b=a
  .subst g;simp;lia
  simp[g,Ne.symm g]
 have s:=m a;rw[if_pos rfl] at s;have sa:=n.sep a;rw[zA0] at sa;have L:=v a;have y:¬F a:=λf=>by have:=n.fro a f;rw[zA0] at this;lia
 have k:=qQ1 (F:=F) (o':=.ins C dx fvs') ha rfl y;have rep':Pc F (upd H a (.ins C dx fvs')) (.ref a) (.ins false C fds') (a::B'):=.ins qc5 q (K.keep k λb g w=>by subst w;have:=qb1.mp g;lia);obtain⟨A',M,q2⟩:=J _ _ k (λb g w=>by subst w;have:=qb1.mp g;lia) rep';have t:∀b,A'.count b=(if b=a then 1 else 0)+B'.count b+C0.count b:=λb=>by
  rw[q2,zAr];by_cases g:b=a
  .subst g;simp;lia
  simp[g,Ne.symm g]
 have j:∀b,A'.count b<=(T++A).count b:=λb=>by rw[zA0,t,m];have:=v b;lia
 have N:∀b,F b->∃o,upd H a (.ins C dx fvs') b=some o:=λb f=>by
  obtain⟨x,e⟩:=n.ex b f;exact⟨x,by rw[qd1 (show b≠a from λw=>y (w ▸ f))];exact e⟩
 refine⟨A',⟨M,⟨λb=>zAn (j b) (n.sep b),λb f=>by have:=n.fro b f;have:=j b;lia,N⟩,S.len,S.ag⟩,λb u e z=>?_,λb u e z=>by have:=j b;lia,λ_ f=>f,λ_ _ _ _ f=>f⟩;rw[qd1 λw=>?_]
 .exact e
 subst w;have:=m b;rw[if_pos rfl] at this;rw[zA0] at z;lia
def sFldV(C:γ)(f:Str)(te:VT)(pf:PF):VTS:=λe ds=>te ds (λd ds1=>orF (pf ds1) λq=>orF ((Bf ds1 q.1 q.2).bind (D.ownI C)) λfs=>fs.length<100/\e.nx (Bk ds1 q.1 q.2 (.ins false C (Fb f d fs)))) e.xe
theorem Gv(G:X.K=K)(I:VP c X o pf)(k:VE c X e te)(J:Cls K C)(L:qh1 K C f)(M:swapsWith e (some (.Attribute o f pos')) pos.line X.env=pure false:=by rfl):VS c X (.Assign [.Attribute o f pos'] e pos) (sFldV C f te pf):=by
 subst G;refine⟨PS.mono (qaZ3 I.h k.h M) λE W H n=>?_,λs N t r=>k.m _ _ _ _ _ (λd b=>qa5 λ_=>qa5 λ_=>N4 (r.nx _)) r.xe⟩;obtain⟨F,t,A,s,S,l,q⟩:=n;refine⟨F,t,A,s.xe,S,l.xe,k.m _ _ _ _ _ (λd b q v H1 F1 T A1 O S1 P Q=>?_) (λ_ _ z=>z) q⟩;obtain⟨⟨i,p⟩,R,q⟩:=qa7.mp q;obtain⟨U,e2,r,q⟩:=qa7.mp q;obtain⟨dl,x,V⟩:=zA1.mp e2;cases qaQ5 V;refine⟨F1,b,A1,i,p,_,S1,R,x,D.noConfusion,λu w H2 Y Z j=>?_⟩;have S2:=S1.same j;obtain⟨a,dx,g,Ael,rfl,ha,y,rs,wr⟩:=qaQ4 S2 x Y Z;have B:g.length=U.length:=by have:=congrArg Ll y;simpa using this
 refine⟨a,C,dx,g,rfl,ha,J,L,⋯,?_⟩;obtain⟨m1,B',m2,m3⟩:=qW8 (f:=f) y rs (O.same j);obtain⟨A',S3,s3⟩:=wr _ _ B' T (P.same j) m1 m2 m3;exact l.nx _ W _ F1 A' q S3 (Q.trans ((Pe.same j).trans s3))
def Dh(x:V):List V->Option Nat|[]=>none|y::r=>if eqV y x=true then some 0 else (Dh x r).map (· + 1)
theorem qan5{x:V}:∀{xs:List V}{j:Nat},Dh x xs=some j->∃z,xs[j]?=some z/\eqV z x=true/\∀m z',m<j->xs[m]?=some z'->eqV z' x=false
 |[],j,h=>by cases h|y::r,j,h=>by
  unfold Dh at h;by_cases a:eqV y x=true;{rw[if_pos a] at h;cases h;exact⟨y,rfl,a,λm z' c=>⋯⟩};rw[if_neg a] at h;obtain⟨k,d,rfl⟩:=zAa.mp h;obtain⟨z,e,f,g⟩:=qan5 d;refine⟨z,by simpa using e,f,λm z' c b=>?_⟩;cases m with
  |zero=>
   have:y=z':=by simpa using b
   subst this;simpa using a
  |succ m=>exact g m z' ⋯ (by simpa using b)
def gIdx(x y:D):Option D:=match x with|.l _ ys=>y.flat.bind λv=>(flats ys).bind λa=>(Dh v a).map λj=>.int (j:Nat)|_=>none
def Jo(x y:D):Option D:=match x with|.l _ ys=>y.flat.bind λv=>(flats ys).bind λa=>some (.int (a.countP (λz=>eqV z v):Nat))|_=>none
def rL1(r:V->List V->Hp->VK->Prop):R2:=λx y H Q=>r x [y] H Q
theorem qaQ6:Bd true (rL1 qaO3) gIdx:=by
 intro F H v w x y B d Q r h q;cases r with|@cons _ _ A _ _ _ b t=>cases t with|@cons _ _ A2 _ _ _ c _=>
 cases x with|l z s=>obtain⟨u,e,h⟩:=zA1.mp h;obtain⟨C,i,h⟩:=zA1.mp h;obtain⟨j,k,rfl⟩:=zAa.mp h;obtain⟨rfl,f⟩:=c.flat e;obtain⟨a,l,A3,rfl,m,n,_⟩:=b.lst_inv;obtain⟨rfl,g⟩:=n.flats i;obtain⟨z,o,q2,p⟩:=qan5 k;exact⟨a,l,w,j,z,rfl,rfl,m,f,g,o,q2,p,q _ H [] (.int _) (λ_ _ z=>z) New.nil⟩|_=>cases h
theorem qba4:Bd true (rL1 qaO5) Jo:=by
 intro F H v w x y B d Q r h q;cases r with|@cons _ _ A _ _ _ b t=>cases t with|@cons _ _ A2 _ _ _ c _=>
 cases x with|l z m=>obtain⟨n,e,h⟩:=zA1.mp h;obtain⟨o,i,h⟩:=zA1.mp h;cases h;obtain⟨rfl,f⟩:=c.flat e;obtain⟨a,j,A3,rfl,k,l,_⟩:=b.lst_inv;obtain⟨rfl,g⟩:=l.flats i;exact⟨a,j,w,rfl,rfl,k,f,g,q _ H [] (.int _) (λ_ _ z=>z) New.nil⟩|_=>cases h
theorem vbm{id:String}(C:Bd true (rL1 r) g)(E:PlainAttrs "list")(slot:Slot "list" name id)(i:typeOf (.builtin id)=pure (.type "method_descriptor"))(hm:MtM X id r)(G:VV c X o oa fa)(I:VV c X b ob fb)(J:∀x y d,g x y=some d->∃z ys,x=.l z ys)(hbase:Ki o name X.env (eval o X.env)=eval o X.env:=by rfl)(f:((backTo cpos (Kb [b] X.env)).all (λx=>!x.1)&&(backToKw cpos (Km [] X.env)).all (λx=>x.1.isSome)
 && decide (([b]:List Kz).length+([]:List Keyword).length+(if ([]:List Keyword).isEmpty then 0 else 1)<30))=true:=by rfl)(hline:(apos.endLine==cpos.line)=true:=by rfl)(n:Kb [b] X.env=(false,eval b X.env)::Kb [] X.env:=by rfl)(hplain:(backTo cpos (Kb [] X.env)).any (·.1)=false:=by rfl):VV c X (.Call (.Attribute o name apos) [b] [] cpos) true (f2 g fa fb):=by refine⟨PE.mono (Hb E slot i hm G.h (qc4 I.h qk9 n) hbase f hline n hplain) λW H Q j=>?_⟩;obtain⟨F,p,A,d,S,e,q⟩:=j;obtain⟨x,y,K,L,s⟩:=qaK0.mp e;obtain⟨z,ys,rfl⟩:=J x y d s;refine⟨F,p,A,_,S,K,λv H1 B1 t k R=>?_⟩;obtain⟨a,M,A3,rfl,l,T,_⟩:=t.lst_inv;refine⟨.inl ⟨rfl,M,.inl (.inl l)⟩,F,p,A,y,S.same k,L,λw H2 B2 N m U=>?_⟩;exact C F H2 _ w _ y _ d Q (Fk (t.same m) N) s λu H3 B3 O P B=>q u H3 B3 O ((k.trans m).trans P) λ_=>⟨B.one,λb o e=>B.new b o (m b o (k b o e))⟩
theorem qaA9:∀x y d,gIdx x y=some d->∃z ys,x=.l z ys:=λx y d h=>by cases x with|l z ys=>exact⟨z,ys,rfl⟩|_=>cases h
theorem qaW5:∀x y d,Jo x y=some d->∃z ys,x=.l z ys:=λx y d h=>by cases x with|l z ys=>exact⟨z,ys,rfl⟩|_=>cases h
end
def Bw(g:VTG)(t:VTS)(e:VEnds):List D->Ds->Prop|[],ds=>e.nx ds|x::xs,ds=>g x ds λds1=>t {e with nx:=Bw g t e xs,ct:=Bw g t e xs,bk:=e.nx} ds1
def whN(qc:VTT)(t:VTS)(e:VEnds):Nat->Ds->Prop|0,_=>False|n+1,ds=>qc ds (λb ds1=>if b=true then t {e with nx:=whN qc t e n,ct:=whN qc t e n,bk:=e.nx} ds1 else e.nx ds1) e.xe
def qaN5(qc:VTT)(t:VTS):VTS:=λe ds=>∃n,whN qc t e n ds
section
variable{c:Vc}{X:Cx}{a b e tg:Kz}{body:List K4}{g:VTG}{t:VTS}{te:VT}{qc:VTT}{pos:Pos}
theorem ql6(d:VG c X tg g)(e:VSs c X body t){en b:VEnds}(a:en.Le b):∀(xs:List D) ds,Bw g t en xs ds->Bw g t b xs ds|[],ds=>a.nx ds|x::xs,ds=>d.m _ _ _ _ λf=>e.m _ _ _ ⟨ql6 d e a xs,a.rt,a.nx,ql6 d e a xs,a.xe⟩
theorem qQ3{cd:Kz}(e:VTe c X cd qc)(f:VSs c X body t){en d:VEnds}(a:en.Le d):∀(n:Nat) ds,whN qc t en n ds->whN qc t d n ds|0,ds=>id|n+1,ds=>e.m _ _ _ _ _ (λb g=>qO1 (f.m _ _ _ ⟨qQ3 e f a n,a.rt,a.nx,qQ3 e f a n,a.xe⟩) (a.nx _)) a.xe
theorem qaf7(r:PassesOwn (Kv X.prog X.w) X.A X.env X.xe)(g:VTe c X cd qc)(o:VSs c X body t):VS c X (.While cd body [] pos) (qaN5 qc t):=by refine⟨PS.mono (qaE9 r g.h o.h) λE σ H i=>?_,λd s e u ⟨n,q⟩=>⟨n,qQ3 g o u n e q⟩⟩;obtain⟨F,e,A,d,S,l,n,q⟩:=i;refine⟨λm σ H=>∃F e A,Pf c F H σ e A/\Lk c E F H A d/\whN qc t d m e,⟨n,F,e,A,S,l,q⟩,?_⟩;rintro m σ H ⟨F,e,A,S,l,q⟩;cases m with|zero=>exact q.elim|succ m=>refine⟨F,e,A,d.xe,S,l.xe,g.m _ _ _ _ _ (λb j q H1 F1 A1 S1 p=>?_) (λ_ _ z=>z) q⟩;cases b with|false=>rw[if_neg ∅] at q ⊢;exact l.nx _ _ _ _ _ q S1 p|true=>rw[if_pos rfl] at q ⊢;have f:=l.step p;refine⟨λσ' H'=>∃F' a A',Pf c F' H' σ' a A'/\Lk c E F' H' A' d/\whN qc t d m a,λσ' H' h=>⟨m,⋯,h⟩,F1,j,A1,{d with nx:=whN qc t d m,ct:=whN qc t d m,bk:=d.nx},S1,⟨?_,f.rt,f.nx,?_,f.xe⟩,q⟩;{exact λa σ' H' F' A' q S' k=>⟨F',a,A',S',f.step k,q⟩};exact λa σ' H' F' A' q S' k=>⟨F',a,A',S',f.step k,q⟩
theorem qK7{N:St->Hp->Prop}{b:Ds->Prop}(i:VG c X tg g)(S:Pf c F H σ ds A)(l:Lk c E F H A en)(r:Pc F H x y [])(h:∀a σ' H' F' A',b a->Pf c F' H' σ' a A'->Pe F H A F' H' A'->N σ' H')(q:g y ds λds1=>t {en with nx:=b,ct:=b,bk:=en.nx} ds1):E7 c g x σ H λσ2 H2=>Es c t {E with nx:=N,ct:=N,bk:=E.nx} σ2 H2:=by refine⟨F,ds,A,[],y,r,S,S.ok,i.m _ _ _ _ (λds1 q σ1 H1 F1 A1 S1 d=>?_) q⟩;have e:=l.step d;exact⟨F1,ds1,A1,{en with nx:=b,ct:=b,bk:=en.nx},S1,⟨λa σ' H' F' A' q S' f=>h a σ' H' F' A' q S' (Pe.trans d f),e.rt,e.nx,λa σ' H' F' A' q S' f=>h a σ' H' F' A' q S' (Pe.trans d f),e.xe⟩,q⟩
noncomputable def D.lstOf:D->Option Ds|.l _ ys=>some ys|_=>none
theorem qq6{d:D}(h:d.lstOf=some ys):∃z,d=.l z ys:=by cases d with|l z a=>cases h;exact⟨z,rfl⟩|_=>cases h
theorem qq8:∀{ys:List D}{i:Nat}{y:D},D.imms ys=true->ys[i]?=some y->y.imm=true
 |[],i,y,_,h=>by simp at h|d::r,0,y,hm,h=>by
  have:d=y:=by simpa using h
  subst this;exact(zAk.mp hm).1
 |d::r,i+1,y,hm,h=>qq8 (zAk.mp hm).2 (by simpa using h)
theorem qg4{xs:List α}(h:xs[i]?=some x):xs.drop i=x::xs.drop (i+1):=by obtain⟨a,rfl⟩:=zA5.mp h;exact Lu a
def sForL(te:VT)(g:VTG)(t:VTS):VTS:=λe ds=>te ds (λd ds1=>orF d.lstOf λys=>D.imms ys=true/\Bw g t e ys ds1) e.xe
theorem Hl(hp:PassesOwn (Kv X.prog X.w) X.A X.env X.xe)(hi:VE c X e te)(G:VG c X tg g)(Q:VSs c X body t)(R:X.calm=true:=by rfl)(I:∀v,Ke e X.env v=pure v:=by intro _;rfl):VS c X (.For tg e body [] pos) (sForL te g t):=by
 refine⟨PS.mono (Iu hp R (qA6 hi.h) G.h Q.h I) λE σ H J=>?_,λs a0 k U=>hi.m _ _ _ _ _ (λd n=>qa5 λu=>N4 (ql6 G Q U u n)) U.xe⟩;obtain⟨F,k,A,s,S,l,q⟩:=J;refine⟨F,k,A,s.xe,S,l.xe,hi.m _ _ _ _ _ (λd n q v H1 F1 T A1 V S1 o1 s1=>?_) (λ_ _ z=>z) q⟩;obtain⟨u,ey,hm,qf⟩:=qa7.mp q;obtain⟨z,rfl⟩:=qq6 ey;obtain⟨a,C,Ael,rfl,j,rs,_⟩:=V.lst_inv;have L:Pe F H A F1 H1 A1:=s1.count λb=>by rw[zA0];lia
 refine⟨a,rfl,⟨C,.inl (.inl j)⟩,qao4 (K:=X.K) (a:=a) (xs:=C) (λi σ H=>∃F k A,Pf c F H σ k A/\Lk c E F H A s/\Pc F H (.ref a) (.l z u) T/\H a=some (.l C)/\Ok F H (T++A)/\Bw g t s (u.drop i) k) ⟨F1,n,A1,S1,l.step L,V,j,o1,qf⟩ ?_ ?_ ?_⟩;{rintro i σ H _ ⟨F,k,A,S,l,r,j,o,q⟩;exact .inl (.inl j)}
 .rintro i x σ H hx ⟨F,k,A,S,l,r,j,o,q⟩;obtain⟨a',a1,Ael',ea,p,M,_⟩:=r.lst_inv;cases ea;rw[j] at p;cases p;obtain⟨y,B,W,Y⟩:=M.getV hx;have:=Y.imm (qq8 hm W);subst this;rw[qg4 W] at q;refine qK7 G S l Y (λN σ' H' F' A' q' S' O=>?_) q;have D:=O.kp S.ok S.loc.cells;have Z:∀b∈T,¬(A.count b≠0):=λb hb R=>by have:=o.sep b;rw[zA0] at this;have:=qb1.mp hb;lia
  have r':=r.keep D Z;obtain⟨o',_⟩:=O.frame o r.cells S'.ok;have P:H' a=some (.l C):=by cases r with|l h _=>exact D.fr _ _ j (Z _ zAh)|lstZ h f _=>exact D.fr _ _ j λw=>D.wf _ w f
  exact⟨F',N,A',S',l.step O,r',P,o',q'⟩
 rintro σ H ⟨F,k,A,S,l,r,j,o,q⟩;rw[rs.len,L7] at q;exact l.nx _ _ _ _ _ q S Pe.refl
noncomputable def By(lo:Int)(n:Nat):List D:=(Lh n).map λ(i:Nat)=>.int (lo+(i:Int))
theorem qah7(h:i<n):(By lo n)[i]?=some (.int (lo+(i:Int))):=by unfold By;rw[zB5,List.getElem?_range h];rfl
theorem qay6(lo:Int)(n:Nat):(By lo n).length=n:=by simp[By]
noncomputable def Fp(i:Int):Bool:=decide (-(2 ^ 62)<=i)&&decide (i<2 ^ 62)
theorem qak4{i:Int}(h:Fp i=true):-(2 ^ 62)<=i/\i<2 ^ 62:=by have:=zAk.mp h;exact⟨zAd this.1,zAd this.2⟩
theorem qaV1{E:Dl}{en:VEnds}{F:γ->Prop}{H:Hp}{σ:St}{ds:Ds}{A:List γ}(d:VG c X tg g)(S:Pf c F H σ ds A)(l:Lk c E F H A en)(q:Bw g t en (By lo n) ds):∃W:Nat->Nat->St->Hp->Prop,(∃m,W 0 m σ H)/\∀i m σ H,W i m σ H->((Itr lo n).stop i H/\E.nx σ H)∨((Itr lo n).go i H/\∃N:St->Hp->Prop,(∀σ' H',N σ' H'->∃b,b<m/\W (i+1) b σ' H')/\∀x H',(Itr lo n).yld i H x H'->E7 c g x σ H' λσ2 H2=>Es c t {E with nx:=N,ct:=N,bk:=E.nx} σ2 H2):=by refine qau8 (λi σ H=>∃F ds A,Pf c F H σ ds A/\Lk c E F H A en/\Bw g t en ((By lo n).drop i) ds) ⟨F,ds,A,S,l,q⟩ ?_ ?_;{rintro i σ H e ⟨F,ds,A,S,l,q⟩;rw[qg4 (qah7 e)] at q;exact qK7 d S l (.int _) (λa σ' H' F' A' f S' h=>⟨F',a,A',S',l.step h,f⟩) q};rintro σ H ⟨F,ds,A,S,l,q⟩;rw[zBs (by rw[qay6];exact zA2 _)] at q;exact l.nx _ _ _ _ _ q S Pe.refl
noncomputable def Ih:Ds->Option Int|[.int j]=>some j|_=>none
theorem qaz9{xs:Ds}{j:Int}(h:Ih xs=some j):xs=[.int j]:=by unfold Ih at h;split at h;{cases h;rfl};cases h
def Jp(tr:VTA)(g:VTG)(t:VTS):VTS:=λe ds=>tr ds (λxs ds1=>orF (Ih xs) λj=>Fp j=true/\Bw g t e (By 0 j.toNat) ds1) e.xe
theorem qR9(s:PassesOwn (Kv X.prog X.w) X.A X.env X.xe)(hm:X.mg "range"=none)(d:VOs c X [a] tr)(e:VG c X tg g)(k:VSs c X body t)(f:Gl X "range" := by rfl)(u:Kb [a] X.env=[(false,eval a X.env)]:=by rfl)(x:X.calm=true:=by rfl):VS c X (.For tg (.Call (.Name "range" p) [a] [] cpos) body [] pos) (Jp tr g t):=by refine⟨PS.mono (Iu s x (qI6 f hm d.h u) e.h k.h) λE σ H i=>?_,λn y o r=>d.m _ _ _ _ _ (λB b=>qa5 λj=>N4 (ql6 e k r _ b)) r.xe⟩;obtain⟨F,o,A,n,S,l,q⟩:=i;refine⟨F,o,A,n.xe,S,l.xe,d.m _ _ _ _ _ (λB b q K H1 F1 T A1 C S1 D=>?_) (λ_ _ z=>z) q⟩;obtain⟨j,G,hm,I⟩:=qa7.mp q;cases qaz9 G;obtain⟨v,rfl,J⟩:=C.one_inv;cases J;have:=qak4 hm;exact⟨j,rfl,this.1,this.2,qaV1 e S1 (l.step D) I⟩
def tFzV(te:VT):VT:=λds Q xe=>te ds (λd ds1=>Q d.fz ds1) xe
theorem efzV(h:VE c X e te):VE c X e (tFzV te):=by refine⟨PE.mono h.h λσ H Q a=>?_,λi Q Q' j n o p=>h.m _ _ _ _ _ (λd g=>o _ _) p⟩;obtain⟨F,i,A,j,S,x,q⟩:=a;refine⟨F,i,A,j,S,x,h.m _ _ _ _ _ (λd g q v H1 F1 T A1 k S1 r s=>?_) (λ_ _ z=>z) q⟩;have t:=k.fz (F':=λb=>F1 b∨b∈T) (λb f=>.inl f) λb u=>.inr u;obtain⟨l,w⟩:=share (A:=T++A1) (B:=T) (C:=A1) r (λb=>by rw[zA0]) k.cells (A':=A1) (λb=>rfl);have L:=S1.loc.keep (Kp.more (H:=H1) λb f=>O3 (b:=b∈T) f) λ_ _ z=>z;exact q v H1 _ [] A1 t ⟨L,l,S1.len,S1.ag⟩ l (s.trans w)
end
def bk1(i:Nat)(p:List Nat)(w:V)(d0:D)(ds:Ds):Option Ds:=Au [.pl i p w] [d0] ds
def Hm(i:Nat)(p:List Nat)(w:V)(d0:D)(e:VEnds):VEnds where
 nx ds:=orF (bk1 i p w d0 ds) e.nx
 rt d ds:=orF (bk1 i p w d0 ds) (e.rt d)
 bk ds:=orF (bk1 i p w d0 ds) e.bk
 ct ds:=orF (bk1 i p w d0 ds) e.ct
 xe x ds:=orF (bk1 i p w d0 ds) (e.xe x)
section
variable{c:Vc}{X:Cx}{a b e tg o:Kz}{body:List K4}{g:VTG}{t:VTS}{pos:Pos}{pf:PF}{F F1:γ->Prop}{H H1:Hp}{σ:St}{ds ds1:Ds}{A A1 B:List γ}{E:Dl}{en:VEnds}
theorem qs8{a:Ds}(f:Ok F1 H1 (B++A1))(S1:Pf c F1 H1 σ ds1 A1)(r:Pc F1 H1 w d0 B)(S':Pf c F' H' σ' a A')(s':Pe F1 H1 A1 F' H' A')(h:bk1 i p w d0 a=some d):∃A2,Pf c F' H' σ' d A2/\Ok F' H' (B++A')/\Pe F1 H1 (B++A1) F' H' (B++A')/\∀b,A2.count b<=B.count b+A'.count b:=by
 obtain⟨g,j⟩:=s'.frame f r.cells S'.ok;have k:Pc F' H' w d0 B:=r.keep (s'.kp S1.ok S1.loc.cells) λb l e=>by have:=f.sep b;rw[zA0] at this;have:=qb1.mp l;lia
 obtain⟨A2,m,q2⟩:=qx1 (pls:=[.pl i p w]) (vs:=[w]) (more:=[]) (ys:=[d0]) (.so .nil) (.cons k .nil) S'.loc h;have e:∀b,A2.count b<=B.count b+A'.count b:=λb=>by have:=q2 b;simp only[zAg] at this;exact this
 exact⟨A2,⟨m,g.count λb=>by rw[zA0];exact e b,S'.len,S'.ag⟩,g,j,e⟩
theorem Lk.lend{p:List Nat}{d0:D}(l:Lk c E F H A en)(k:Pe F H A F1 H1 (B++A1))(j:Ok F1 H1 (B++A1))(S1:Pf c F1 H1 σ ds1 A1)(r:Pc F1 H1 w d0 B):Lk c E F1 H1 A1 (Hm i p w d0 en) where
 nx ds' σ' H' F' A' q S' s':=by
  obtain⟨a,f,q⟩:=qa7.mp q;obtain⟨A2,S2,n,h,g⟩:=qs8 j S1 r S' s' f;exact l.nx _ _ _ _ A2 q S2 ((k.trans h).count λb=>by rw[zA0];exact g b)
 bk ds' σ' H' F' A' q S' s':=by
  obtain⟨a,f,q⟩:=qa7.mp q;obtain⟨A2,S2,n,h,g⟩:=qs8 j S1 r S' s' f;exact l.bk _ _ _ _ A2 q S2 ((k.trans h).count λb=>by rw[zA0];exact g b)
 ct ds' σ' H' F' A' q S' s':=by
  obtain⟨a,f,q⟩:=qa7.mp q;obtain⟨A2,S2,n,h,g⟩:=qs8 j S1 r S' s' f;exact l.ct _ _ _ _ A2 q S2 ((k.trans h).count λb=>by rw[zA0];exact g b)
 xe x ds' σ' e H' F' A' q rx S' s':=by
  obtain⟨a,f,q⟩:=qa7.mp q;obtain⟨A2,S2,n,h,g⟩:=qs8 j S1 r S' s' f;exact l.xe x a σ' e H' F' A2 q rx S2 ((k.trans h).count λb=>by rw[zA0];exact g b)
 rt d ds' v σ' H' F' T A' q rv S' oT s':=by
  obtain⟨a,f,q⟩:=qa7.mp q;have o:Pe F1 H1 A1 F' H' A':=s'.count λb=>by rw[zA0];lia
  obtain⟨A2,S2,n,h,g⟩:=qs8 j S1 r S' o f;obtain⟨s,t⟩:=s'.frame j r.cells oT;have m:∀b,(T++A2).count b<=(B++(T++A')).count b:=λb=>by simp only[zA0];have:=g b;lia
  exact l.rt d a v σ' H' F' T A2 q rv S2 (s.count m) ((k.trans t).count m)
theorem qaS5{p:List Nat}{d0:D}{en a:VEnds}(b:en.Le a):(Hm i p w d0 en).Le (Hm i p w d0 a):=⟨λc=>qa5 b.nx,λd c=>qa5 (b.rt d),λc=>qa5 b.bk,λc=>qa5 b.ct,λx c=>qa5 (b.xe x)⟩
structure Held(F:γ->Prop)(H:Hp)(a:γ)(vs:List V)(z:Bool)(ys:Ds)(T A:List γ):Prop where
 r:Pc F H (.ref a) (.l z ys) T
 h:H a=some (.l vs)
 o:Ok F H (T++A)
theorem Held.step{a:γ}{e:Ds}(h:Held F H a vs z ys T A)(S:Pf c F H σ ds A)(S':Pf c F' H' σ' e A')(s':Pe F H A F' H' A'):Held F' H' a vs z ys T A':=by
 obtain⟨r,g,o⟩:=h;have d:=s'.kp S.ok S.loc.cells;have i:∀b∈T,¬(A.count b≠0):=λb j k=>by have:=o.sep b;rw[zA0] at this;have:=qb1.mp j;lia
 refine⟨r.keep d i,?_,(s'.frame o r.cells S'.ok).1⟩;cases r with|l h _=>exact d.fr _ _ g (i _ zAh)|lstZ h f _=>exact d.fr _ _ g λw=>d.wf _ w f
theorem Held.get{a:γ}(h:Held F H a vs z ys T A)(hm:D.imms ys=true)(f:vs[i]?=some x):∃y,ys[i]?=some y/\Pc F H x y []:=by obtain⟨k,g,Ael',j,b,c,_⟩:=h.r.lst_inv;cases j;have:=h.h;rw[b] at this;cases this;obtain⟨y,B,d,e⟩:=c.getV f;have:=e.imm (qq8 hm d);subst this;exact⟨y,d,e⟩
theorem Held.len{a:γ}(h:Held F H a vs z ys T A):vs.length=ys.length:=by obtain⟨f,d,Ael',e,b,c,_⟩:=h.r.lst_inv;cases e;have:=h.h;rw[b] at this;cases this;exact c.len
theorem qU0{a:γ}(j:VG c X tg g)(S:Pf c F H σ ds A)(l:Lk c E F H A en)(b:Held F H a vs z ys T A)(hm:D.imms ys=true)(q:Bw g t en ys ds):∃W:Nat->Nat->St->Hp->Prop,(∃m,W 0 m σ H)/\∀i m σ H,W i m σ H->((Itl K a).stop i H/\E.nx σ H)∨((Itl K a).go i H/\∃N:St->Hp->Prop,(∀σ' H',N σ' H'->∃e,e<m/\W (i+1) e σ' H')/\∀x H',(Itl K a).yld i H x H'->E7 c g x σ H' λσ2 H2=>Es c t {E with nx:=N,ct:=N,bk:=E.nx} σ2 H2):=by refine qao4 (xs:=vs) (λi σ H=>∃F ds A,Pf c F H σ ds A/\Lk c E F H A en/\Held F H a vs z ys T A/\Bw g t en (ys.drop i) ds) ⟨F,ds,A,S,l,b,q⟩ ?_ ?_ ?_;{rintro i σ H _ ⟨F,ds,A,S,l,b,q⟩;exact .inl (.inl b.h)};{rintro i x σ H k ⟨F,ds,A,S,l,b,q⟩;obtain⟨y,n,o⟩:=b.get hm k;rw[qg4 n] at q;exact qK7 j S l o (λd σ' H' F' A' p S' f=>⟨F',d,A',S',l.step f,b.step S S' f,p⟩) q};rintro σ H ⟨F,ds,A,S,l,b,q⟩;rw[b.len,L7] at q;exact l.nx _ _ _ _ _ q S Pe.refl
def sForP(pf:PF)(g:VTG)(t:VTS):VTS:=λe ds=>orF (pf ds) λq=>orF (Bf ds q.1 q.2) λd=>orF d.lstOf λys=>D.imms ys=true/\∀w,Bw g t (Hm q.1 q.2 w d e) ys (Bk ds q.1 q.2 (.hole w))
theorem sforP(J:PassesOwn (Kv X.prog X.w) X.A X.env X.xe)(hi:VP c X o pf)(j:VG c X tg g)(y:VSs c X body t)(K:X.calm=true:=by rfl)(k:∀v,Ke o X.env v=pure v:=by intro _;rfl):VS c X (.For tg o body [] pos) (sForP pf g t):=by
 refine⟨PS.mono (Iu J K (qA6 hi.h) j.h y.h k) λE σ H m=>?_,λL M n N=>qa5 λq=>qa5 λd=>qa5 λO=>N4 λh w=>ql6 j y (qaS5 N) _ _ (h w)⟩;obtain⟨F,n,A,L,S,l,q⟩:=m;obtain⟨⟨i,p⟩,P,q⟩:=qa7.mp q;obtain⟨d,e2,q⟩:=qa7.mp q;obtain⟨O,Q,R,q⟩:=qa7.mp q;obtain⟨z,rfl⟩:=qq6 Q;refine⟨F,n,A,i,p,_,S,P,e2,D.noConfusion,λu w H1 T U s=>?_⟩;obtain⟨B,C,r,G,V⟩:=(S.same s).place e2 D.noConfusion T U;obtain⟨A1,W,q2⟩:=V (.hole w) [] (Kp.same (F:=F) λ_ _ z=>z) (λ_ _ z=>z) (.hole w);have x:Ok F H1 (B++A1):=(S.same s).ok.count λb=>by rw[zA0,q2,G];simp
 have Y:Pe F H A F H1 (B++A1):=⟨λb o e _=>s b o e,λb o e z=>by rw[zA0,q2];have:=G b;simp;lia,λ_ f=>f,λ_ _ _ _ f=>f⟩;have S1:Pf c F H1 σ (Bk n i p (.hole w)) A1:=⟨W,x.right,S.len,S.ag⟩;obtain⟨a,Z,Ael,rfl,I,rs,_⟩:=r.lst_inv;exact⟨a,rfl,⟨Z,.inl (.inl I)⟩,qU0 j S1 (l.lend Y x S1 r) ⟨r,I,x⟩ R (q _)⟩
noncomputable def enD(ys:Ds):List D:=ys.zipIdx.map λp=>.q [.int (p.2:Int),p.1]
theorem qaW1(h:ys[i]?=some y):(enD ys)[i]?=some (.q [.int (i:Int),y]):=by unfold enD;rw[zB5,List.getElem?_zipIdx,h];simp
theorem qae0(ys:Ds):(enD ys).length=ys.length:=by simp[enD]
end
noncomputable def fin(W:Nat->Bool):Nat->Ds->Ds->Ds|k,d::r,d'::r'=>(if W k=true then d' else d)::fin W (k+1) r r'|_,_,_=>[]
noncomputable def Gw(W:Nat->Bool):Nat->Ds->Bool|_,[]=>true|k,d::r=>(W k||d.imm)&&Gw W (k+1) r
def qav5(W:Nat->Bool)(ds:Ds)(Q:DK)(xe:XKd):VEnds where
 nx ds':=Q .non (fin W 0 ds ds')
 rt d ds':=Q d (fin W 0 ds ds')
 bk _:=False
 ct _:=False
 xe x ds':=xe x (fin W 0 ds ds')
section
variable{F F':γ->Prop}{H H':Hp}
theorem qbe2(q:Kp F H Wr F' H'):∀{vs:List V}{ds:Ds}{A:List γ}{k:Nat}{w':List (Option V)}{a:Ds}{A':List γ},O6 F H vs ds A->Gw W k ds=true->Locs F' H' w' a A'->vs.length<=w'.length->(∀i,i<vs.length->W (k+i)=true->w'[i]?=(vs.map some)[i]?)->∃A2,O6 F' H' vs (fin W k ds a) A2/\∀b,A2.count b<=A'.count b:=by
 intro vs;induction vs with
 |nil=>intro ds A k w' a A' r g L n l;cases r;exact⟨[],by cases a<;>exact .nil,λb=>by simp⟩|cons v vs s=>
  intro ds A k w' a A' r g L n l;cases r with
  |@cons _ d B _ ds B2 r1 t=>
   have g:=zAk.mp g;have step:∀{σ2:List (Option V)}{f:Ds}{A2:List γ}(o:Option V),w'=o::σ2->Locs F' H' σ2 f A2->∃A3,O6 F' H' vs (fin W (k+1) ds f) A3/\∀b,A3.count b<=A2.count b:=λ{σ2 f A2} o e L2=>by subst e;refine s t g.2 L2 (by simpa using n) λi j c=>?_;have:=l (i+1) (by simpa using j) (by rw[<-c];congr 1;lia);simpa using this
   cases L with
   |nil=>simp at n|no L2=>
    obtain⟨A3,m,q2⟩:=step none rfl L2;by_cases c:W k=true;{have:=l 0 (by simp) (by simpa using c);simp at this};have j:d.imm=true:=by rcases Bool.or_eq_true_iff.mp g.1 with h|h;{exact absurd h c};exact h
    have:=r1.imm j;subst this;refine⟨[]++A3,?_,λb=>by simpa using q2 b⟩;show O6 F' H' (v::vs) ((if W k=true then _ else d)::_) _;rw[if_neg c];exact .cons (r1.keep q λb p=>by cases p) m
   |@so v' d' B' σ2 f A2 rr L2=>
    obtain⟨A3,m,q2⟩:=step (some v') rfl L2;by_cases c:W k=true;{have:=l 0 (by simp) (by simpa using c);simp at this;subst this;refine⟨B'++A3,?_,λb=>by simp only[zA0];have:=q2 b;lia⟩;show O6 F' H' (v'::vs) ((if W k=true then d' else d)::_) _;rw[if_pos c];exact .cons rr m};have j:d.imm=true:=by rcases Bool.or_eq_true_iff.mp g.1 with h|h;{exact absurd h c};exact h
    have:=r1.imm j;subst this;refine⟨[]++A3,?_,λb=>by simp only[zB8,zA0];have:=q2 b;lia⟩;show O6 F' H' (v::vs) ((if W k=true then d' else d)::_) _;rw[if_neg c];exact .cons (r1.keep q λb p=>by cases p) m
theorem O6.locs(r:O6 F H vs ds A):Locs F H (vs.map some) ds A:=by induction vs generalizing ds A with|nil=>cases r;exact .nil|cons v vs a=>cases r with|cons h t=>exact .so h (a t)
theorem qJ0:∀n:Nat,Locs F H (Li n none) (Li n .u) []|0=>.nil|n+1=>.no (qJ0 n)
end
structure FunE(K:N7)(x qual:Str)(st:K4)(f:γ)(fd:ε):Prop where
 ex:∃(oc:V')(od:Option γ)(dV kV doc pm:V')(an:Option γ)(cdv ct:V')(osl:Array (Option V')),
  fd=W.fnOf x qual (qg0 st) (qd5 st) (qa3 st) dV kV doc pm an cdv ct/\K.lookup f=some ⟨oc,od,.func fd,osl⟩/\W.codeIn K cdv qual=true
theorem FunE.of(F:Fun K x qual st f fd):FunE K x qual st f fd :=
 by obtain⟨g,h,kV,a,i,j,b,k,c,e,l,d⟩:=F.ex;exact⟨⟨g,h,.none,kV,a,i,j,b,k,c,e,l,d⟩⟩
theorem FunE.okX{P:Kw}{w:Ky}(F:FunE K x qual st f fd)(S:qa9 N ps (qa3 st))(len:∀vs H Q E,sp vs H Q E->vs.length=ps.length)(hbody:∀(a:V')(A:Kx)(outer:List Env)(s:δ)(H:Hp)(vs:List V)(Q:VK)(E:XK),Pg cm k (A.deeper (PyProof.Rows.envOfC qual (qa3 st) s.heap.objs.size f a))->sp vs H Q E->∃t,PSs (Em cm (CX1 P w) P w K mg base N qual (qa3 st) f a A outer s H E) (qd5 st) t/\t {nx:=λ_ H'=>Q .non H',rt:=Q} (L2.start N vs) H):Dw cm P w K mg base (CX1 P w) (k+1) f fd ps sp:=by obtain⟨i,j,l,kV,d,m,n,a,o,e,rfl,g,b⟩:=F.ex;exact Iz g b S len λA outer s H vs Q E h c=>hbody a A outer s H vs Q E h c
theorem VFn.mkE{P:Kw}{w:Ky}(Fu:FunE K x qual st f fd)(Sc:qa9 N ps (qa3 st))(W:Nat->Bool)(G:Bu s)(j:∀ds Q xe,s ds Q xe->ds.length=ps.length)(n:∀ds Q xe,s ds Q xe->Gw W 0 ds=true)(hbody:∀(g:V')(A:Kx)(outer:List Env)(B:δ)(H:Hp)(E:XK)(av:List (Option V)),Pg cm k (A.deeper (PyProof.Rows.envOfC qual (qa3 st) B.heap.objs.size f g))->∃t,VSs ⟨λ_=>E,W,av,[]⟩ (Em cm (CX1 P w) P w K mg base N qual (qa3 st) f g A outer B H E) (qd5 st) t/\∀ds Q xe,s ds Q xe->t (qav5 W ds Q xe) (ds++Li (N.length-ds.length) .u)):Fo cm P w K mg base (k+1) f fd ps s:=by
 refine⟨Fu.okX Sc (λl H Q E ⟨F,ds,A,r,o,h⟩=>by rw[r.len];exact j _ _ _ h) λg Ar outer B H l Q E I C=>?_,G⟩;obtain⟨F,ds,A,r,o,h⟩:=C;obtain⟨t,J,L⟩:=hbody g Ar outer B H E (L2.start N l) I;have X:=j _ _ _ h;have M:=n _ _ _ h;have Y:ps.length<=N.length:=by have:=congrArg Ll Sc.pre;rw[zBa] at this;lia
 have L0:Locs F H (L2.start N l++[]) (ds++Li (N.length-ds.length) .u) A:=by rw[zAg];unfold L2.start;rw[r.len];have:=r.locs.append (qJ0 (F:=F) (H:=H) (N.length-ds.length));rwa[zAg] at this
 have S0:Pf ⟨λ_=>E,W,L2.start N l,[]⟩ F H (L2.start N l) (ds++Li (N.length-ds.length) .u) A:=⟨L0,o,by simp,λi _=>by simp⟩;have m:∀{Z':St}{H':Hp}{F':γ->Prop}{a:Ds}{A' A2:List γ},Pf ⟨λ_=>E,W,L2.start N l,[]⟩ F' H' Z' a A'->Pe F H A F' H' A2->∃A3,O6 F' H' l (fin W 0 ds a) A3/\∀b,A3.count b<=A'.count b:=λ{Z' H' F' a A' A2} S' c=>by have hlen':=S'.len;simp only[zAg] at hlen';refine qbe2 (c.kp o r.cells) r M (by have:=S'.loc;simpa using this) ?_ λi D O=>?_;{rw[<-hlen'];unfold L2.start;simp};have:=S'.ag i (by simpa using O);simp only[zAg] at this;rw[this];show (L2.start N l)[i]?=_;unfold L2.start;rw[zAl (by simpa using D)]
 refine⟨_,J.h,F,_,A,qav5 W ds _ _,S0,⟨?_,?_,λ_ _ _ _ _ z=>Oz z,λ_ _ _ _ _ z=>Oz z,?_⟩,L _ _ _ h⟩
 .intro a Z' H' F' A' q S' c;obtain⟨A3,p,q2⟩:=m S' c;have u:∀b,([]++A3).count b<=A'.count b:=λb=>by simpa using q2 b
  exact q .non H' F' [] A3 .non p (S'.ok.count u) (c.count u)
 .intro d a v Z' H' F' T A' q R S' S c;obtain⟨A3,p,q2⟩:=m S' c;have u:∀b,(T++A3).count b<=(T++A').count b:=λb=>by simp only[zA0];have:=q2 b;lia
  exact q v H' F' T A3 R p (S.count u) (c.count u)
 intro y a Z' e H' F' A' q U S' c;obtain⟨A3,p,q2⟩:=m S' c;exact q e H' F' A3 U p (S'.ok.count q2) (c.count q2)
theorem VFn.mk'{P:Kw}{w:Ky}(Fu:Fun K x qual st f fd)(Sc:qa9 N ps (qa3 st))(W:Nat->Bool)(e:Bu s)(a:∀ds Q xe,s ds Q xe->ds.length=ps.length)(b:∀ds Q xe,s ds Q xe->Gw W 0 ds=true)(hbody:∀(c:V')(A:Kx)(outer:List Env)(d:δ)(H:Hp)(E:XK)(av:List (Option V)),Pg cm k (A.deeper (PyProof.Rows.envOfC qual (qa3 st) d.heap.objs.size f c))->∃t,VSs ⟨λ_=>E,W,av,[]⟩ (Em cm (CX1 P w) P w K mg base N qual (qa3 st) f c A outer d H E) (qd5 st) t/\∀ds Q xe,s ds Q xe->t (qav5 W ds Q xe) (ds++Li (N.length-ds.length) .u)):Fo cm P w K mg base (k+1) f fd ps s:=VFn.mkE (FunE.of Fu) Sc W e a b hbody
def Bz:List (Option Nat)->Ds->Ds×Ds|[],ds=>([],ds)|none::r,ds=>(.u::(Bz r ds).1,(Bz r ds).2)|some j::r,ds=>((ds[j]?).getD .u::(Bz r (ds.set j .u)).1,(Bz r (ds.set j .u)).2)
def Fc:List (Option Nat)->Ds->Ds->Ds|none::r,_::i,o=>Fc r i o|some j::r,d::i,o=>Fc r i (o.set j d)|_,_,o=>o
def Dm(g:VTG)(qf:VTT)(te:VT)(K:Ds->Ds->Prop):List D->Ds->Ds->Prop|[],acc,a=>K acc a|x::xs,acc,a=>g x a λι1=>qf ι1 (λb ι2=>if b=true then te ι2 (λd ι3=>acc.length<big/\Dm g qf te K xs (acc++[d]) ι3) (λ_ _=>False) else Dm g qf te K xs acc ι2) (λ_ _=>False)
noncomputable def capW(src:List (Option Nat)):Nat->Bool:=λi=>match src[i]? with|some (some _)=>true|_=>false
abbrev cIn(src:List (Option Nat))(av:List (Option V)):Vc:=⟨λ_ _ _ _=>False,capW src,av,[]⟩
structure VF(c:Vc)(X:Cx)(ifs:List Kz)(t:VTT):Prop where
 h:PFs X ifs (Dy c t)
 m:∀ds (Q Q':Bool->Ds->Prop) (xe xe':XKd),(∀d ds',Q d ds'->Q' d ds')->(∀x ds',xe x ds'->xe' x ds')->t ds Q xe->t ds Q' xe'
def qYes:VTT:=λds Q _=>Q true ds
theorem Ea:VF c X [] qYes:=⟨λD8 s f H Q I ⟨F,a,A,b,S,x,q⟩=>qaP6 D8 s f H Q I (q H F A S Pe.refl),λa Q Q' b d e _=>e _ _⟩
theorem Fd(h:VTe c X e t):VF c X [e] t:=⟨qaZ9 h.h,h.m⟩
section
variable{F F':γ->Prop}{H H':Hp}
theorem qaf3:∀{src:List (Option Nat)}{J a:List (Option V)}{ds:Ds}{A:List γ},Locs F H (J++a) ds A->(∀j,some j∈src->j<J.length)->∃Ai Ao,Locs F H (Dn J src) (Bz src ds).1 Ai/\Locs F H (J++a) (Bz src ds).2 Ao/\∀b,A.count b=Ai.count b+Ao.count b
 |[],J,a,ds,A,L,_=>⟨[],A,.nil,L,λb=>by simp⟩|none::r,J,a,ds,A,L,h=>by obtain⟨Ai,Ao,f,q2,g⟩:=qaf3 (src:=r) L λj c=>h j (zA7 _ c);exact⟨Ai,Ao,.no f,q2,g⟩|some j::r,J,a,ds,A,L,h=>by
  have c:=h j zAh;have t:=L.len;rw[zA6] at t;obtain⟨z,e⟩:∃d,ds[j]?=some d:=⟨_,zAq ⋯⟩;obtain⟨σ1,o,σ2,i,k,A1,B,A2,m,e2,u,w,x,n,p,q⟩:=L.split e;have s:(J++a)[j]?=some o:=by rw[m];exact qC4 u
  rw[zAl c] at s;have y:ds.set j .u=i++.u::k:=by have:=congrArg (λl=>l.set j .u) e2;rw[this,qo7 w]
  have L':Locs F H (J++a) (ds.set j .u) (A1++A2):=by rw[m,y];cases p with|no=>exact n.append (.no q)|@so v _ _ _=>exact n.append (.so (B:=[]) (.u v) q)
  obtain⟨Ai,Ao,f,q2,g⟩:=qaf3 (src:=r) L' λj c=>h j (zA7 _ c);refine⟨B++Ai,Ao,?_,q2,λb=>by rw[x];have:=g b;simp only[zA0] at *;lia⟩;show Locs F H (((J[j]?).getD none)::Dn J r) ((ds[j]?).getD .u::_) _;rw[s,e];exact Locs.cons p f
theorem qO4:∀{src:List (Option Nat)}{J c J':List (Option V)}{K o:Ds}{Ai Ao:List γ},Locs F H J' K Ai->Locs F H (J++c) o Ao->(∀j,some j∈src->j<J.length)->(∀(i j:Nat),src[i]?=some (some j)->J'[i]?=some ((J[j]?).getD none))->J'.length=src.length->∃A',Locs F H (J++c) (Fc src K o) A'/\∀b,A'.count b<=Ai.count b+Ao.count b
 |[],J,c,J',K,o,Ai,Ao,L,Lo,_,_,_=>⟨Ao,by cases K<;>exact Lo,λb=>⋯⟩|none::r,J,c,J',K,o,Ai,Ao,L,Lo,h,k,f=>by cases L with|nil=>simp at f|no L2=>obtain⟨A',g,q2⟩:=qO4 (src:=r) L2 Lo (λj a=>h j (zA7 _ a)) (λi j e=>by simpa using k (i+1) j (by simpa using e)) (by simpa using f);exact⟨A',g,q2⟩|so w L2=>obtain⟨A',g,q2⟩:=qO4 (src:=r) L2 Lo (λj a=>h j (zA7 _ a)) (λi j e=>by simpa using k (i+1) j (by simpa using e)) (by simpa using f);exact⟨A',g,λb=>by rw[zA0];have:=q2 b;lia⟩
 |some j::r,J,c,J',K,o,Ai,Ao,L,Lo,h,k,f=>by
  have a:=h j zAh;have m:=Lo.len;rw[zA6] at m;obtain⟨G,n⟩:∃d,o[j]?=some d:=⟨_,zAq ⋯⟩;obtain⟨σ1,p,σ2,q,s,A1,B,A2,t,e2,D,E,x,y,I,z⟩:=Lo.split n;have A:(J++c)[j]?=some p:=by rw[t];exact qC4 D
  rw[zAl a] at A;have u:=k 0 j rfl;rw[A] at u;have C:∀d,o.set j d=q++d::s:=λd=>by have:=congrArg (λl=>l.set j d) e2;rw[this,qo7 E]
  cases L with
  |nil=>simp at f|no L2=>
   have:p=none:=by simpa using u.symm
   subst this;have Lo':Locs F H (J++c) (o.set j .u) (A1++A2):=by rw[t,C];exact y.append (.no z)
   obtain⟨A',g,q2⟩:=qO4 (src:=r) L2 Lo' (λj a=>h j (zA7 _ a)) (λi j e=>by simpa using k (i+1) j (by simpa using e)) (by simpa using f);exact⟨A',g,λb=>by rw[x];have:=q2 b;simp only[zA0] at *;lia⟩
  |@so v d Bv _ _ _ w L2=>
   have:p=some v:=by simpa using u.symm
   subst this;have Lo':Locs F H (J++c) (o.set j d) (A1++(Bv++A2)):=by rw[t,C];exact y.append (.so w z)
   obtain⟨A',g,q2⟩:=qO4 (src:=r) L2 Lo' (λj a=>h j (zA7 _ a)) (λi j e=>by simpa using k (i+1) j (by simpa using e)) (by simpa using f);exact⟨A',g,λb=>by rw[x];have:=q2 b;simp only[zA0] at *;lia⟩
theorem qaF2(J:St)(src:List (Option Nat)):(Dn J src).length=src.length:=by simp[Dn]
theorem qaF3(h:src[i]?=some (some j)):(Dn J src)[i]?=some ((J[j]?).getD none):=by unfold Dn;rw[zB5,h];rfl
structure Gx(Pp:(γ->Prop)->Hp->Prop)(T:List γ):Prop where
 keep:∀{F F':γ->Prop}{H H':Hp}{W:γ->Prop},Kp F H W F' H'->(∀b∈T,¬W b)->Pp F H->Pp F' H'
 cells:∀{F:γ->Prop}{H:Hp},Pp F H->∀b∈T,∃o,H b=some o/\Ef o=true
end
section
variable{c:Vc}{F F':γ->Prop}{H H':Hp}{K:(γ->Prop)->Hp->Prop}{τ:List (Option V)}{o:Ds}{G:γ}{I:Ds}{T A A' J:List γ}{E:St}{ds:Ds}
noncomputable def Tot(B T Ao A:List γ):List γ:=B++(T++(Ao++A))
theorem qx8(st:Gx K T)(r:Pc F H (.ref G) (.l false I) B)(g:K F H)(L:Locs F H τ o Ao)(h:Ok F H (Tot B T Ao A))(S:Pf c F H E ds A)(s:Pe F H A F' H' A')(o':Ok F' H' A'):Pc F' H' (.ref G) (.l false I) B/\K F' H'/\Locs F' H' τ o Ao/\Ok F' H' (Tot B T Ao A')/\Pe F H (Tot B T Ao A) F' H' (Tot B T Ao A'):=by
 unfold Tot at *
 have f:=s.kp S.ok S.loc.cells;have i:∀b,(B++(T++(Ao++A))).count b=((B++(T++Ao))++A).count b:=λb=>by simp only[zA0];lia
 have d:∀b,b∈B∨b∈T∨b∈Ao->¬(A.count b≠0):=λb a j=>by have:=h.sep b;simp only[zA0] at this;rcases a with a|a|a<;>have:=qb1.mp a<;>lia
 have k:∀b∈B++(T++Ao),∃o,H b=some o/\Ef o=true:=λb a=>by rcases zAb.mp a with a|a;{exact r.cells b a};rcases zAb.mp a with a|a;{exact st.cells g b a};exact L.cells b a
 obtain⟨l,m⟩:=s.frame (T:=B++(T++Ao)) (h.count λb=>by rw[i];exact zA2 _) k o';have e:∀b,(B++(T++(Ao++A'))).count b=((B++(T++Ao))++A').count b:=λb=>by simp only[zA0];lia
 exact⟨r.keep f λb a=>d b (.inl a),st.keep f (λb a=>d b (.inr (.inl a))) g,L.keep f λb a=>d b (.inr (.inr a)),l.count λb=>by rw[e];exact zA2 _,(m.pre λb=>by rw[i]).count λb=>by rw[e];exact zA2 _⟩
theorem qaG1(st:Gx K T)(r:Pc F H (.ref G) (.l false I) B)(p:K F H)(L:Locs F H τ o Ao)(S:Pf c F H E ds A)(q:Pc F H v d J)(h:Ok F H (Tot B T Ao (J++A))):∃vs B',H G=some (.l vs)/\vs.length=I.length/\Pc F (upd H G (.l (vs++[v]))) (.ref G) (.l false (I++[d])) B'/\K F (upd H G (.l (vs++[v])))/\Locs F (upd H G (.l (vs++[v]))) τ o Ao/\Pf c F (upd H G (.l (vs++[v]))) E ds A/\Ok F (upd H G (.l (vs++[v]))) (Tot B' T Ao A)/\Pe F H (Tot B T Ao (J++A)) F (upd H G (.l (vs++[v]))) (Tot B' T Ao A):=by
 unfold Tot at *
 obtain⟨a,vs,Ael,s,j,l,rfl⟩:=qE8 r;cases s;have t:=h.sep G;simp only[zA0,zAr,zBf,if_true] at t;have m:¬F G:=λf=>by have:=h.fro G f;simp only[zA0,zAr,zBf,if_true] at this;lia
 have k:=qQ1 (F:=F) (o':=.l (vs++[v])) j rfl m;have i:∀X:List γ,X.count G=0->∀b∈X,¬b=G:=λX y b C w=>by subst w;exact(qb1.mp C) y
 have g:∀b,(G::(Ael++(J++[]))++(T++(Ao++A))).count b<=(G::Ael++(T++(Ao++(J++A)))).count b:=λb=>by simp only[zA0,zAr,Lv];lia
 have n:∀b,F b->∃o,upd H G (.l (vs++[v])) b=some o:=λb f=>by obtain⟨x,e⟩:=h.ex b f;exact⟨x,by rw[qd1 (show b≠G from λw=>m (w ▸ f))];exact e⟩
 refine⟨vs,G::(Ael++(J++[])),j,l.len,?_,st.keep k (i T ⋯) p,L.keep k (i Ao ⋯),⟨S.loc.keep k (i A ⋯),⟨S.ok.sep,S.ok.fro,n⟩,S.len,S.ag⟩,⟨λb=>zAn (g b) (h.sep b),λb f=>by have:=h.fro b f;have:=g b;lia,n⟩,λb u e z=>?_,λb u e z=>by have:=g b;lia,λ_ f=>f,λ_ _ _ _ f=>f⟩;{exact .l qc5 ((l.append (.cons q .nil)).keep k (i _ (by simp only[zA0,Lv];lia)))};rw[qd1 λw=>?_];{exact e};subst w;simp only[zA0,zAr,zBf,if_true] at z;lia
end
def ql3(src:List (Option Nat))(g:VTG):TG:=λv a H Q=>∃av,E7 (cIn src av) g v a H Q
def ql2(src:List (Option Nat))(q:VTT):TT:=λa H Q=>∃av,Dy (cIn src av) q a H Q
def Bm(src:List (Option Nat))(t:VT):TE:=λa H Q=>∃av,Bj (cIn src av) t a H Q
structure Blk(X:Cx)(NY:List Str)(sc:Scope)(src:List (Option Nat))(tg:Kz)(ifs:List Kz)(elt:Kz)(g:VTG)(qf:VTT)(te:VT):Prop where
 g:∀av C s0 H0 ex,VG (cIn src av) (ql8 X NY sc C s0 H0 ex) tg g
 f:∀av C s0 H0 ex,VF (cIn src av) (ql8 X NY sc C s0 H0 ex) ifs qf
 e:∀av C s0 H0 ex,VE (cIn src av) (ql8 X NY sc C s0 H0 ex) elt te
 lt:∀D8 a H s,Pd X D8 a H s->∀j,some j∈src->j<a.length
section
variable{c:Vc}{X:Cx}{NY:List Str}{sc:Scope}{src:List (Option Nat)}{tg elt e:Kz}{ifs:List Kz}{g:VTG}{qf:VTT}{te:VT}
theorem Blk.pg(b:Blk X NY sc src tg ifs elt g qf te):∀C a H0 ex,PG (ql8 X NY sc C a H0 ex) tg (ql3 src g):=λC a H0 ex D8 s Y H v u Q I r ⟨c,q⟩=>(b.g c C a H0 ex).h D8 s Y H v u Q I r q
theorem Blk.pf(b:Blk X NY sc src tg ifs elt g qf te):∀C a H0 ex,PFs (ql8 X NY sc C a H0 ex) ifs (ql2 src qf):=λC a H0 ex D8 s Y H Q I ⟨c,q⟩=>(b.f c C a H0 ex).h D8 s Y H Q I q
theorem Blk.pe(b:Blk X NY sc src tg ifs elt g qf te):∀C a H0 ex,PE (ql8 X NY sc C a H0 ex) elt (Bm src te):=λC a H0 ex D8 s Y H Q I ⟨c,q⟩=>(b.e c C a H0 ex).h D8 s Y H Q I q
theorem Blk.gm(b:Blk X NY sc src tg ifs elt g qf te):∀d ds (Q Q':Ds->Prop),(∀a,Q a->Q' a)->g d ds Q->g d ds Q':=(b.g [] 0 {} (λ_=>none) []).m
theorem Blk.fm(b:Blk X NY sc src tg ifs elt g qf te):∀ds (Q Q':Bool->Ds->Prop) (xe c:XKd),(∀d a,Q d a->Q' d a)->(∀x a,xe x a->c x a)->qf ds Q xe->qf ds Q' c:=(b.f [] 0 {} (λ_=>none) []).m
theorem Blk.em(b:Blk X NY sc src tg ifs elt g qf te):∀ds (Q Q':DK) (xe c:XKd),(∀d a,Q d a->Q' d a)->(∀x a,xe x a->c x a)->te ds Q xe->te ds Q' c:=(b.e [] 0 {} (λ_=>none) []).m
theorem qi0(b:Blk X NY sc src tg ifs elt g qf te){K K':Ds->Ds->Prop}(h:∀acc Z,K acc Z->K' acc Z):∀(xs:List D) acc Z,Dm g qf te K xs acc Z->Dm g qf te K' xs acc Z|[],acc,Z=>h acc Z|x::xs,acc,Z=>b.gm _ _ _ _ λι1=>b.fm _ _ _ _ _ (λk ι2=>qO1 (b.em _ _ _ _ _ (λd ι3=>N4 (qi0 b h xs _ _)) λ_ _ z=>z) (qi0 b h xs _ _)) λ_ _ z=>z
variable{F F0:γ->Prop}{H H0:Hp}{Pp:(γ->Prop)->Hp->Prop}{τ:List (Option V)}{o0:Ds}{Dd:γ}{acc:Ds}{T A A0:List γ}{Y:St}{ds Z:Ds}{av:List (Option V)}{K:Ds->Ds->Prop}
def Mid(src:List (Option Nat))(av:List (Option V))(Pp:(γ->Prop)->Hp->Prop)(T:List γ)(τ:List (Option V))(o0:Ds)(Dd:γ)(F0:γ->Prop)(H0:Hp)(A0:List γ)(g:VTG)(qf:VTT)(te:VT)(K:Ds->Ds->Prop)(xs:List D)(Y:St)(H:Hp):Prop:=∃F Z A acc B Ao,Pf (cIn src av) F H Y Z A/\Pc F H (.ref Dd) (.l false acc) B/\Pp F H/\Locs F H τ o0 Ao/\Ok F H (Tot B T Ao A)/\Pe F0 H0 A0 F H (Tot B T Ao A)/\Dm g qf te K xs acc Z
theorem qt6(b:Blk X NY sc src tg ifs elt g qf te)(st:Gx Pp T)(S:Pf (cIn src av) F H Y Z A)(r:Pc F H (.ref Dd) (.l false acc) B)(t:Pp F H)(L:Locs F H τ o0 Ao)(u:Ok F H (Tot B T Ao A))(p:Pe F0 H0 A0 F H (Tot B T Ao A))(w:Pc F H x y [])(q:Dm g qf te K (y::xs) acc Z):ql3 src g x Y H λσ2 H2=>ql2 src qf σ2 H2 λh H3=>if h=true then Bm src te σ2 H3 λv H4=>∃ys,H4 Dd=some (.l ys)/\ys.length<Kc/\Mid src av Pp T τ o0 Dd F0 H0 A0 g qf te K xs σ2 (upd H4 Dd (.l (ys++[v]))) else Mid src av Pp T τ o0 Dd F0 H0 A0 g qf te K xs σ2 H3:=by have a:∀(F:γ->Prop)(H:Hp)(A:List γ),Xc (cIn src av) (λ_ _=>False) F H A:=λF H A x C Y' e H' F' A' z=>z.elim;refine⟨av,F,Z,A,[],y,w,S,S.ok,b.gm _ _ _ _ (λι1 q σ1 H1 F1 A1 S1 E=>?_) q⟩;obtain⟨G,i,L1,j,t1⟩:=qx8 st r t L u S (show Pe F H A F1 H1 A1 from E) S1.ok;refine⟨av,F1,ι1,A1,_,S1,a _ _ _,b.fm _ _ _ _ _ (λk ι2 q H2 F2 A2 S2 I=>?_) (λ_ _ z=>z) q⟩;obtain⟨s,c,L2,f,t2⟩:=qx8 st G i L1 j S1 I S2.ok;cases k with|false=>rw[if_neg ∅] at q ⊢;exact⟨F2,ι2,A2,acc,B,Ao,S2,s,c,L2,f,(p.trans t1).trans t2,q⟩|true=>rw[if_pos rfl] at q ⊢;refine⟨av,F2,ι2,A2,_,S2,a _ _ _,b.em _ _ _ _ _ (λd ι3 q v H3 F3 Tv A3 J S3 M N=>?_) (λ_ _ z=>z) q⟩;obtain⟨O,l,L3,m,P⟩:=qx8 st s c L2 f S2 N M;obtain⟨Q,B',R,e2,U,n,L4,S4,o,W⟩:=qaG1 st O l L3 S3 J m;exact⟨Q,R,by rw[e2];exact zAm q.1 qj0,F3,ι3,A3,acc++[d],B',Ao,S4,U,n,L4,o,((p.trans t1).trans t2).trans (P.trans W),q.2⟩
theorem qv6(f:∀j,some j∈src->j<Y.length)(S:Pf c F H Y ds A)(n:Ok F H (T++A))(l:Pp F H)(st:Gx Pp T)(h:H Dd=none)(q:Dm g qf te K xs [] (Bz src ds).1):Mid src (Dn Y src) Pp T (Y++c.gv) (Bz src ds).2 Dd F H (T++A) g qf te K xs (Dn Y src) (upd H Dd (.l [])):=by
 obtain⟨Ai,Ao,o,q2,p⟩:=qaf3 S.loc f;have a:=Same.new (u:=.l []) h;have r:=Kp.same (F:=F) a;have okN:Ok F (upd H Dd (.l [])) ([Dd]++(T++A)):=(qh2 h).ok n (λb d=>by rcases zAb.mp d with d|d;{exact st.cells l b d};exact S.loc.cells b d) a;have m:∀b,(Tot [Dd] T Ao Ai).count b=([Dd]++(T++A)).count b:=λb=>by unfold Tot;simp only[zA0,p];lia
 have e:Ok F (upd H Dd (.l [])) (Tot [Dd] T Ao Ai):=okN.count λb=>by rw[m];exact zA2 _
 have k:Ok F (upd H Dd (.l [])) Ai:=e.count λb=>by unfold Tot;simp only[zA0];lia
 refine⟨F,_,Ai,[],[Dd],Ao,⟨by rw[zAg];exact o.same a,k,by simp,λi _=>by simp⟩,.l qc5 .nil,st.keep r (λ_ _=>id) l,q2.same a,e,((qh2 h).stp a).count λb=>by rw[m];exact zA2 _,q⟩
theorem qv7(d:∀j,some j∈src->j<Y.length)(S:Pf c Fz Hz Y ds Az)(m:Mid src (Dn Y src) Pp T (Y++c.gv) o0 Dd F0 H0 A0 g qf te (λacc Z'=>∀v H' F' B A',Pc F' H' v (.l false acc) B->Pf c F' H' Y (Fc src Z' o0) A'->Pp F' H'->Ok F' H' (B++(T++A'))->Pe F0 H0 A0 F' H' (B++(T++A'))->Q v H') [] Y' H'):Q (.ref Dd) H':=by
 obtain⟨F,Z,A,acc,B,Ao,S1,r,k,L,l,s,q⟩:=m;have a:=S1.len;simp only[zAg] at a;obtain⟨A',n,o⟩:=qO4 (src:=src) (by have:=S1.loc;simpa using this) L d (λi j e=>by have:=S1.ag i (by show capW src i=true;unfold capW;rw[e]);simp only[zAg] at this;rw[this];exact qaF3 e) (by rw[<-a,qaF2]);have f:∀b,(B++(T++A')).count b<=(Tot B T Ao A).count b:=λb=>by unfold Tot;simp only[zA0];have:=o b;lia
 have h:=l.count f;exact q (.ref Dd) H' F B A' r ⟨n,h.right.right,S.len,S.ag⟩ k h (s.count f)
theorem qm8{a:γ}{ys:Ds}{T:List γ}:Gx (λF H=>Pc F H (.ref a) (.l z ys) T/\H a=some (.l vs)) T where
 keep:=λ{F F' H H' W} k h p=>by
  refine⟨p.1.keep k h,?_⟩;cases p.1 with
  |l _ _=>exact k.fr _ _ p.2 (h _ zAh)
  |lstZ _ f _=>exact k.fr _ _ p.2 λw=>k.wf _ w f
 cells:=λp=>p.1.cells
theorem qW2:Gx (λ_ _=>True) [] where
 keep:=λ_ _ p=>p
 cells:=λ_ b a=>by cases a
theorem qaJ0{a:γ}{ys:Ds}{T:List γ}{x:V}(r:Pc F H (.ref a) (.l z ys) T)(h:H a=some (.l vs))(hm:D.imms ys=true)(f:vs[i]?=some x):∃y,ys[i]?=some y/\Pc F H x y []:=by obtain⟨k,g,Ael',j,b,c,_⟩:=r.lst_inv;cases j;rw[h] at b;cases b;obtain⟨y,B,d,e⟩:=c.getV f;have:=e.imm (qq8 hm d);subst this;exact⟨y,d,e⟩
theorem qaH9{a:γ}{ys:Ds}{T:List γ}(r:Pc F H (.ref a) (.l z ys) T)(h:H a=some (.l vs)):vs.length=ys.length:=by obtain⟨f,d,Ael',e,b,c,_⟩:=r.lst_inv;cases e;rw[h] at b;cases b;exact c.len
theorem qQ4{Q:Hp->Prop}(b:Blk X NY sc src tg ifs elt g qf te)(hm:D.imms ys=true)(m:Mid src av (λF H=>Pc F H (.ref a) (.l z ys) T/\H a=some (.l vs)) T τ o0 Dd F0 H0 A0 g qf te K ys Y' H)(f:∀σ2 H2,Mid src av (λF H=>Pc F H (.ref a) (.l z ys) T/\H a=some (.l vs)) T τ o0 Dd F0 H0 A0 g qf te K [] σ2 H2->Q H2):qp3 (Itl K' a) (ql3 src g) (ql2 src qf) (Bm src te) Dd Q Y' H:=by obtain⟨_,_,_,_,_,_,_,_,c,_⟩:=id m;have d:=qaH9 c.1 c.2;refine qZ8 (xs:=vs) (λi Y H=>Mid src av (λF H=>Pc F H (.ref a) (.l z ys) T/\H a=some (.l vs)) T τ o0 Dd F0 H0 A0 g qf te K (ys.drop i) Y H) m ?_ ?_ ?_;{rintro i Y H _ ⟨_,_,_,_,_,_,_,_,e,_⟩;exact .inl (.inl e.2)};{rintro i x Y H h ⟨F,Z,A,j,B,Ao,S1,r,e,L,k,s,q⟩;obtain⟨y,l,n⟩:=qaJ0 e.1 e.2 hm h;rw[qg4 l] at q;exact qt6 b qm8 S1 r e L k s n q};intro Y H m;rw[d,L7] at m;exact f _ _ m
theorem qar1{Q:Hp->Prop}(b:Blk X NY sc src tg ifs elt g qf te)(hm:D.imms ys=true)(m:Mid src av (λF H=>Pc F H (.ref a) (.l z ys) T/\H a=some (.l vs)) T τ o0 Dd F0 H0 A0 g qf te K (enD ys) Y' H)(o:∀σ2 H2,Mid src av (λF H=>Pc F H (.ref a) (.l z ys) T/\H a=some (.l vs)) T τ o0 Dd F0 H0 A0 g qf te K [] σ2 H2->Q H2):qp3 (Ite K' a) (ql3 src g) (ql2 src qf) (Bm src te) Dd Q Y' H:=by obtain⟨_,_,_,_,_,_,_,_,c,_⟩:=id m;have d:=qaH9 c.1 c.2;refine qaw1 (xs:=vs) (λi Y H=>Mid src av (λF H=>Pc F H (.ref a) (.l z ys) T/\H a=some (.l vs)) T τ o0 Dd F0 H0 A0 g qf te K ((enD ys).drop i) Y H) m ?_ ?_ ?_;{rintro i Y H _ ⟨_,_,_,_,_,_,_,_,e,_⟩;exact .inl (.inl e.2)};{rintro i x Y H n p ⟨F,Z,A,t,B,Ao,S1,r,e,L,v,s,q⟩ f;obtain⟨y,w,C⟩:=qaJ0 e.1 e.2 hm p;rw[qg4 (qaW1 w)] at q;have h:=Same.new (u:=.q [.int (i:Int),x]) f;have j:Pc F (upd H n (.q [.int (i:Int),x])) (.ref n) (.q [.int (i:Int),y]) []:=qN1 f (.cons (A:=[]) (B:=[]) (.int _) (.cons (A:=[]) (B:=[]) C .nil));obtain⟨E,k,L1,l,t1⟩:=qx8 qm8 r e L v S1 (Pe.same h) (S1.ok.same h);exact qt6 b qm8 (S1.same h) E k L1 l (s.trans t1) j q};intro Y H m;rw[zBs (by rw[qae0,d];exact zA2 _)] at m;exact o _ _ m
theorem qaC7{Q:Hp->Prop}(b:Blk X NY sc src tg ifs elt g qf te)(m:Mid src av (λ_ _=>True) [] τ o0 Dd F0 H0 A0 g qf te K (By lo n) Y' H)(a:∀σ2 H2,Mid src av (λ_ _=>True) [] τ o0 Dd F0 H0 A0 g qf te K [] σ2 H2->Q H2):qp3 (Itr lo n) (ql3 src g) (ql2 src qf) (Bm src te) Dd Q Y' H:=by refine qap1 (λi Y H=>Mid src av (λ_ _=>True) [] τ o0 Dd F0 H0 A0 g qf te K ((By lo n).drop i) Y H) m ?_ ?_;{rintro i Y H c ⟨F,Z,A,d,B,Ao,S1,r,e,L,f,s,q⟩;rw[qg4 (qah7 c)] at q;exact qt6 b qW2 S1 r e L f s (.int _) q};intro Y H m;rw[zBs (by rw[qay6];exact zA2 _)] at m;exact a _ _ m
end
def Imp(c:Vc)(X:Cx)(t:VT)(tc:TE):Prop:=∀D8 s a H Q,Pd X D8 a H s->Bj c t a H Q->tc a H Q
def Fv(t:VT):Prop:=∀ds (Q Q':DK) (xe xe':XKd),(∀d a,Q d a->Q' d a)->(∀x a,xe x a->xe' x a)->t ds Q xe->t ds Q' xe'
section
variable{c:Vc}{X:Cx}{NY:List Str}{sc:Scope}{src:List (Option Nat)}{tg elt e o:Kz}{ifs:List Kz}{g:VTG}{qf:VTT}{te t0:VT}{pf:PF}
theorem Ii(h:PE X e tc)(i:Imp c X t tc)(m:Fv t):VE c X e t:=⟨λD8 s σ H Q I q=>h D8 s σ H Q I (i D8 s σ H Q I q),m⟩
theorem qaC9(h:PS X (.Assign [.Name x px] e spos) (Ht tc (E2 i)))(j:Imp c X t tc)(m:Fv t)(k:c.W i=false)(hi:X.N[i]?=some x):VS c X (.Assign [.Name x px] e spos) (Ec t (gNm i)):=by refine⟨λD8 s σ H E I q=>h D8 s σ H E I (j D8 s σ H _ I ?_),λb n f g=>m _ _ _ _ _ (λd a=>g.nx _) g.xe⟩;obtain⟨F,f,A,b,S,l,q⟩:=q;refine⟨F,f,A,b.xe,S,l.xe,m _ _ _ _ _ (λd a q v H' F' T A' r S' o p=>?_) (λ_ _ z=>z) q⟩;obtain⟨A2,S2,u⟩:=S'.store k (qn7 hi D8 σ H s I) r o;exact l.nx _ _ H' F' A2 q S2 (p.trans u)
def Ei(src:List (Option Nat))(g:VTG)(qf:VTT)(te:VT)(ys:List D):Ds->DK->Prop:=λds1 Q=>Dm g qf te (λacc ι'=>Q (.l false acc) (Fc src ι' (Bz src ds1).2)) ys [] (Bz src ds1).1
theorem qr5(b:Blk X NY sc src tg ifs elt g qf te){Q:DK}(h:∀d a,Q d a->Q' d a):Ei src g qf te ys ds1 Q->Ei src g qf te ys ds1 Q':=qi0 b (λc ι=>h _ _) _ _ _
def tCL(src:List (Option Nat))(t0:VT)(g:VTG)(qf:VTT)(te:VT):VT:=λds Q xe=>t0 ds (λd ds1=>orF d.lstOf λys=>D.imms ys=true/\Ei src g qf te ys ds1 Q) xe
theorem qaD4(b:Blk X NY sc src tg ifs elt g qf te)(hi:VE c X e t0):Fv (tCL src t0 g qf te):=λj Q Q' k a f h=>hi.m _ _ _ _ _ (λd i=>qa5 λl=>N4 (qr5 b f)) h
theorem qbd7(b:Blk X NY sc src tg ifs elt g qf te)(hi:VE c X e t0):Imp c X (tCL src t0 g qf te) (Dp (G6 K (Bj c t0)) src (ql3 src g) (ql2 src qf) (Bm src te)):=by rintro D8 s σ H Q I ⟨F,k,A,l,S,x,q⟩;have f:=b.lt D8 σ H s I;refine⟨F,k,A,l,S,x,hi.m _ _ _ _ _ (λd n q v H1 F1 T A1 i S1 o p=>?_) (λ_ _ z=>z) q⟩;obtain⟨E,t,u,h⟩:=qa7.mp q;obtain⟨z,rfl⟩:=qq6 t;obtain⟨a,w,Ael,rfl,j,G,_⟩:=i.lst_inv;refine⟨a,rfl,⟨w,.inl (.inl j)⟩,λDd y=>qQ4 b u (qv6 f S1 o ⟨i,j⟩ qm8 y (qi0 b (λC ι q v H' F' B A' r S' _ D s=>q v H' F' B A' r S' (D.count λb=>by simp only[zA0];lia) ((p.trans s).count λb=>by simp only[zA0];lia)) _ _ _ h)) λσ2 H2 m=>qv7 f S1 m⟩
def tCPx(en:Ds->List D)(src:List (Option Nat))(pf:PF)(g:VTG)(qf:VTT)(te:VT):VT:=λds Q xe=>orF (pf ds) λq=>orF (Bf ds q.1 q.2) λd=>orF d.lstOf λys=>D.imms ys=true/\∀w,Dm g qf te (λacc ι'=>orF (bk1 q.1 q.2 w d (Fc src ι' (Bz src (Bk ds q.1 q.2 (.hole w))).2)) λa=>Q (.l false acc) a) (en ys) [] (Bz src (Bk ds q.1 q.2 (.hole w))).1
theorem qar4(b:Blk X NY sc src tg ifs elt g qf te):Fv (tCPx en src pf g qf te):=λf Q Q' i a c j=>qa5 λq=>qa5 λd=>qa5 λk=>N4 λh w=>qi0 b (λe ι=>qa5 λz=>c _ _) _ _ _ (h w)
theorem qaW4{J:γ->It}(b:Blk X NY sc src tg ifs elt g qf te)(M:∀{a:γ}{vs:List V}{z:Bool}{ys:Ds}{T:List γ}{τ:List (Option V)}{o0:Ds}{Dd:γ}{F0:γ->Prop}{H0 H:Hp}{A0:List γ}{K0:Ds->Ds->Prop}{av:List (Option V)}{Q:Hp->Prop}{σ':St},D.imms ys=true->Mid src av (λF H=>Pc F H (.ref a) (.l z ys) T/\H a=some (.l vs)) T τ o0 Dd F0 H0 A0 g qf te K0 (en ys) σ' H->(∀σ2 H2,Mid src av (λF H=>Pc F H (.ref a) (.l z ys) T/\H a=some (.l vs)) T τ o0 Dd F0 H0 A0 g qf te K0 [] σ2 H2->Q H2)->qp3 (J a) (ql3 src g) (ql2 src qf) (Bm src te) Dd Q σ' H)(j:∀σ H R,Hk c pf σ H (λx H1=>∃a,x=.ref a/\(∃xs,SqL K H1 a xs)/\R (J a) H1)->wi σ H R):Imp c X (tCPx en src pf g qf te) (Dp wi src (ql3 src g) (ql2 src qf) (Bm src te)):=by
 rintro D8 s σ H Q I ⟨F,t,A,xe,S,x,q⟩;have h:=b.lt D8 σ H s I;refine j σ H _ ?_;obtain⟨⟨i,p⟩,N,q⟩:=qa7.mp q;obtain⟨d,e2,q⟩:=qa7.mp q;obtain⟨ys,O,P,q⟩:=qa7.mp q;obtain⟨z,rfl⟩:=qq6 O;refine⟨F,t,A,i,p,_,S,N,e2,D.noConfusion,λu w H1 U k l=>?_⟩;obtain⟨B,C,r,y,Y⟩:=(S.same l).place e2 D.noConfusion U k;obtain⟨A1,Z,q2⟩:=Y (.hole w) [] (Kp.same (F:=F) λ_ _ z=>z) (λ_ _ z=>z) (.hole w);have E:Ok F H1 (B++A1):=(S.same l).ok.count λb=>by rw[zA0,q2,y];simp
 have s1:Pe F H A F H1 (B++A1):=⟨λb o e _=>l b o e,λb o e z=>by rw[zA0,q2];have:=y b;simp;lia,λ_ f=>f,λ_ _ _ _ f=>f⟩;have S1:Pf c F H1 σ (Bk t i p (.hole w)) A1:=⟨Z,E.right,S.len,S.ag⟩;obtain⟨a,vs,Ael,rfl,G,rs,_⟩:=r.lst_inv;refine⟨a,rfl,⟨vs,.inl (.inl G)⟩,λDd hD=>M P (qv6 h S1 E ⟨r,G⟩ qm8 hD (qi0 b (λa0 ι q v H' F' B' A' rv S' hp L s=>?_) _ _ _ (q (.ref a)))) λσ2 H2 m=>qv7 h S1 m⟩;obtain⟨a1,eb,q⟩:=qa7.mp q;obtain⟨A2,k1,k2⟩:=qx1 (pls:=[.pl i p (.ref a)]) (vs:=[.ref a]) (more:=[]) (ys:=[.l z ys]) (.so .nil) (.cons hp.1 .nil) S'.loc eb;have n:∀b,(B'++A2).count b<=(B'++(B++A')).count b:=λb=>by have:=k2 b;simp only[zAg,zA0] at *;lia
 exact q v H' F' B' A2 rv ⟨k1,(L.count n).right,S.len,S.ag⟩ (L.count n) ((s1.trans s).count n)
theorem qbd6(b:Blk X NY sc src tg ifs elt g qf te):Imp c X (tCPx (λys=>ys) src pf g qf te) (Dp (G6 K (Hk c pf)) src (ql3 src g) (ql2 src qf) (Bm src te)):=qaW4 (K:=K) (J:=Itl K) b (λa m d=>qQ4 b a m d) λσ H R h=>h
def Jq(src:List (Option Nat))(tr:VTA)(g:VTG)(qf:VTT)(te:VT):VT:=λds Q xe=>tr ds (λxs ds1=>orF (Ih xs) λj=>Fp j=true/\Ei src g qf te (By 0 j.toNat) ds1 Q) xe
theorem qW0{es:List Kz}{tr:VTA}(b:Blk X NY sc src tg ifs elt g qf te)(hi:VOs c X es tr):Fv (Jq src tr g qf te):=λi Q Q' j a e f=>hi.m _ _ _ _ _ (λd h=>qa5 λk=>N4 (qr5 b e)) f
theorem qaE6{F:γ->Prop}{H:Hp}{A:List γ}{F1:γ->Prop}{H1:Hp}{A1:List γ}{σ:St}{ds1:Ds}(b:Blk X NY sc src tg ifs elt g qf te)(a:∀j,some j∈src->j<σ.length)(S1:Pf c F1 H1 σ ds1 A1)(f:Pe F H A F1 H1 A1)(q:Ei src g qf te (By lo n) ds1 (λd e=>∀v H' F' T A',Pc F' H' v d T->Pf c F' H' σ e A'->Ok F' H' (T++A')->Pe F H A F' H' (T++A')->Q v H')):∀Dd,H1 Dd=none->qp3 (Itr lo n) (ql3 src g) (ql2 src qf) (Bm src te) Dd (λH'=>Q (.ref Dd) H') (Dn σ src) (upd H1 Dd (.l [])):=λDd h=>
 qaC7 b (qv6 (T:=[]) a S1 S1.ok trivial qW2 h (qi0 b (λi ι q v H' F' B A' r S' _ k s=>q v H' F' B A' r S' k (f.trans s)) _ _ _ q)) λσ2 H2 m=>qv7 a S1 m
theorem qaA8{es:List Kz}{tr:VTA}(b:Blk X NY sc src tg ifs elt g qf te)(hi:VOs c X es tr):Imp c X (Jq src tr g qf te) (Dp (iRng1 (qaH8 c tr)) src (ql3 src g) (ql2 src qf) (Bm src te)):=by rintro D8 s σ H Q I ⟨F,e,A,f,S,x,q⟩;have a:=b.lt D8 σ H s I;refine⟨F,e,A,f,S,x,hi.m _ _ _ _ _ (λp h q r H1 F1 T A1 i S1 k=>?_) (λ_ _ z=>z) q⟩;obtain⟨j,l,n,d⟩:=qa7.mp q;cases qaz9 l;obtain⟨v,rfl,o⟩:=i.one_inv;cases o;have:=qak4 n;exact⟨j,rfl,this.1,this.2,qaE6 b a S1 k d⟩
noncomputable def capOk(X:Cx)(src:List (Option Nat)):Bool:=src.all λo=>match o with|none=>true|some j=>decide (j<X.N.length)
theorem blk(b:∀av C a H0 ex,VG (cIn src av) (ql8 X NY sc C a H0 ex) tg g)(c:∀av C a H0 ex,VF (cIn src av) (ql8 X NY sc C a H0 ex) ifs qf)(d:∀av C a H0 ex,VE (cIn src av) (ql8 X NY sc C a H0 ex) elt te)(e:capOk X src=true:=by rfl):Blk X NY sc src tg ifs elt g qf te:=⟨b,c,d,λD8 σ H s I j f=>by
   have:=zBo.mp e _ f
   rw[I.len];exact zAd this⟩
end
section
variable{c:Vc}{X:Cx}{NY:List Str}{v:Scope}{src:List (Option Nat)}{y u s a:Kz}{t:List Kz}{g:VTG}{z:VTT}{te C:VT}{w B A:Pos}{pf:PF}{x:Str}
theorem ecL(hi:VE c X s C)(bl:Blk X NY v src y t u g z te)(a:X.calm=true:=by rfl)(b:qr2 X NY src v=true:=by rfl)(d:∀x,Ke s X.env x=pure x:=by intro _;rfl):VE c X (.ListComp u [⟨y,s,t,0⟩] v w) (tCL src C g z te):=Ii (qA7 NY src (qA6 hi.h) bl.pg bl.pf bl.pe a b d) (qbd7 bl hi) (qaD4 bl hi)
theorem ecP(hi:VP c X s pf)(bl:Blk X NY v src y t u g z te)(a:X.calm=true:=by rfl)(b:qr2 X NY src v=true:=by rfl)(d:∀x,Ke s X.env x=pure x:=by intro _;rfl):VE c X (.ListComp u [⟨y,s,t,0⟩] v w) (tCPx (λys=>ys) src pf g z te):=Ii (qA7 NY src (qA6 hi.h) bl.pg bl.pf bl.pe a b d) (qbd6 bl) (qar4 bl)
theorem ecR1{tr:VTA}{p cpos:Pos}(hm:X.mg "range"=none)(b:VOs c X [a] tr)(bl:Blk X NY v src y t u g z te)(d:Gl X "range" := by rfl)(e:Kb [a] X.env=[(false,eval a X.env)]:=by rfl)(f:X.calm=true:=by rfl)(i:qr2 X NY src v=true:=by rfl)(j:∀x,Ke (.Call (.Name "range" p) [a] [] cpos) X.env x=pure x:=by intro _;rfl):VE c X (.ListComp u [⟨y,.Call (.Name "range" p) [a] [] cpos,t,0⟩] v w) (Jq src tr g z te):=Ii (qA7 NY src (qI6 d hm b.h e) bl.pg bl.pf bl.pe f i j) (qaA8 bl b) (qW0 bl b)
theorem scR1{tr:VTA}{p cpos:Pos}(i:Nat)(l:X.N.Nodup)(hm:X.mg "range"=none)(d:VOs c X [a] tr)(bl:Blk X NY v src y t u g z te)(m:c.W i=false:=by rfl)(e:Gl X "range" := by rfl)(f:Kb [a] X.env=[(false,eval a X.env)]:=by rfl)(b:X.N[i]?=some x:=by rfl)(n:Loc X.env.scope x:=by first|exact O3 rfl|exact O2 rfl)(o:X.calm=true:=by rfl)(q:qr2 X NY src v=true:=by rfl)(j:swapsWith (.ListComp u [⟨y,.Call (.Name "range" p) [a] [] cpos,t,0⟩] v w) (some (.Name x B)) A.line X.env=pure true:=by rfl)(r:∀x,Ke (.Call (.Name "range" p) [a] [] cpos) X.env x=pure x:=by intro _;rfl)(k:X.fn x=true∨X.env.scope.names.lookup x=some .local:=by first|exact .inl rfl|exact .inr rfl|assumption):VS c X (.Assign [.Name x B] (.ListComp u [⟨y,.Call (.Name "range" p) [a] [] cpos,t,0⟩] v w) A) (Ec (Jq src tr g z te) (gNm i)):=qaC9 (qah9 i NY src l (qI6 e hm d.h f) bl.pg bl.pf bl.pe b n o q j r k) (qaA8 bl d) (qW0 bl d) m b
end
section
variable{c:Vc}{X:Cx}{t:List Kz}{p:VTB}
def Gy(p:VTB):VTA:=λds Q xe=>p ds (λxs _ ds1=>Q xs ds1) xe
theorem Ej(h:VAs c X t p):VOs c X t (Gy p):=⟨PA.mono h.h λn H Q ⟨F,d,A,e,S,x,q⟩=>⟨F,d,A,e,S,x,h.m _ _ _ _ _ (λf g a q i H' F' T A' r _ S' o s=>q i H' F' T A' r S' (s.count λb=>by rw[zA0];lia)) (λ_ _ z=>z) q⟩,λd Q Q' e j k l=>h.m _ _ _ _ _ (λf g a=>k _ _) l⟩
end
structure Bg(x y z:Int)(ns:List Int):Prop where
 x0:0<=x
 y0:0<=y
 y1:y<2147483647
 z0:0<=z
 nn:∀n∈ns,0<=n
noncomputable def bagD(x y z:Int)(ns:List Int):D:=.l false [.int x,.int y,.int z,.l false (ns.map .int)]
def lawE:VEnds where
 nx _:=False
 rt d _:=d.asB=some true
 bk _:=False
 ct _:=False
 xe _ _:=False
theorem qau0{c:Vc}{X:Cx}{rest:List K4}{t:VTS}{H:Hp}{E:Dl}{p L:γ}{x y z:Int}{ns:List Int}(e:c.av.length=2+n)(k:∀i,c.W i=false)(a:c.gv=[])(l:H p=some (.l [.int x,.int y,.int z,.ref L]))(m:H L=some (.l (ns.map V.int)))(o:L≠p)(s:∀H',E.rt (.bl true) H')(u:t lawE (.hole w::bagD x y z ns::Li n .u)):Es c t E (some w::some (.ref p)::Li n none) H:=by
 have L0:Locs (λ_=>False) H (some w::some (.ref p)::Li n none) (.hole w::bagD x y z ns::Li n .u) ([]++((p::([]++([]++([]++((L::[])++[])))))++[])) :=
  .so (.hole w) (.so (.l l (.cons (.int x) (.cons (.int y) (.cons (.int z) (.cons (.l m (qI3 ns)) .nil))))) (qJ0 n))
 refine⟨λ_=>False,_,_,lawE,⟨by rw[a,zAg];exact L0,⟨λb=>?_,λb f=>f.elim,λb f=>f.elim⟩,by rw[a,e];simp;lia,λi h=>by rw[k i] at h;cases h⟩,⟨λ_ _ _ _ _ z=>Oz z,λd A v B' H' F' T A' q r _ _ _=>by rw[r.asB q];exact s H',λ_ _ _ _ _ z=>Oz z,λ_ _ _ _ _ z=>Oz z,λ_ _ _ _ _ _ _ z=>Oz z⟩,u⟩;simp only[zB8,zAg,zAr,Lv];by_cases g:p=b;{subst g;simp[o]};by_cases j:L=b;{subst j;simp[g]};simp[g,j]
section
variable{c:Vc}{b d e o:Kz}{oa ob Z:Bool}{fa fb Y:FV}
def f3(g g':D->D->Option D)(fa fb Y:FV):FV:=λds=>(fa ds).bind λx=>(fb ds).bind λy=>(g x y).bind λz=>z.asB.bind λk=>if k=true then (Y ds).bind λu=>g' y u else some (.bl false)
theorem qaL0(h:Bd true r g)(h':Bd true l g'):∀X H Q,liftV c true (f3 g g' fa fb Y) X H Q->qaM8 r l (liftV c oa fa) (liftV c ob fb) (liftV c Z Y) X H Q:=by rintro X H Q ⟨F,f,A,d,S,e,q⟩;obtain⟨x,C,e⟩:=zA1.mp e;obtain⟨y,e2,e⟩:=zA1.mp e;obtain⟨z,E,e⟩:=zA1.mp e;obtain⟨k,G,e⟩:=zA1.mp e;refine⟨F,f,A,x,S,C,λv H1 B1 I m T=>⟨F,f,A,y,S.same m,e2,λw H2 B2 n p U=>?_⟩⟩;have i:=m.trans p;refine h F H2 v w x y _ z _ (Fk (I.same p) n) E λu H3 B3 J s V=>⟨k,J.asB G,?_⟩;have a:=i.trans s;cases k with|false=>rw[if_neg ∅] at e ⊢;cases e;exact q _ H3 [] (.bl _) a λ_=>New.nil|true=>rw[if_pos rfl] at e ⊢;obtain⟨t,K,L⟩:=zA1.mp e;refine⟨F,f,A,t,S.same a,K,λM H4 B4 N j W=>?_⟩;refine h' F H4 w M y t _ d Q (Fk ((n.same s).same j) N) L λO H5 B5 P R B=>q O H5 B5 P ((a.trans j).trans R) λ_=>⟨B.one,λb o e=>B.new b o (j b o (a b o e))⟩
end
section
variable{c:Vc}{X:Cx}{a b d e:Kz}{N:Pos}{O U T:Bool}{fa fb R:FV}
theorem vch{e:CmpOp}{i:R2}(j:OpR X (Kd op) r)(h:Bd true r g)(f:OpR X (Kd e) i)(h':Bd true i g')(k:VV c X a O fa)(l:VV c X b U fb)(m:VV c X d T R)(hm:lastMarks [op,e] [b,d]=false:=by with_unfolding_all rfl):VV c X (.Compare a [op,e] [b,d] N) true (f3 g g' fa fb R):=⟨PE.mono (qai8 j f k.h l.h m.h hm) (qaL0 h h')⟩
def Hn(x:D):Option D:=match x with|.l _ ys=>(intsD ys).bind λns=>gd (ns.length<=1000) (.int (qn8 ns))|_=>none
theorem vlenS(g:X.mg "len"=none)(i:X.mg "set"=none)(o:VV c X a O fa)(j:Gl X "len" := by rfl)(k:Gl X "set" := by rfl)(r:X.calm=true:=by rfl)(n:Kb [a] X.env=(false,eval a X.env)::Kb [] X.env:=by rfl)(l:((backTo cpos (Kb [] X.env)).any λx=>x.1)=false:=by rfl)(b:Kb [.Call (.Name "set" p2) [a] [] cpos] X.env=(false,eval (.Call (.Name "set" p2) [a] [] cpos) X.env)::Kb [] X.env:=by rfl)(f:((backTo N (Kb [] X.env)).any λx=>x.1)=false:=by rfl):VV c X (.Call (.Name "len" p) [.Call (.Name "set" p2) [a] [] cpos] [] N) true (f1 Hn fa):=by refine⟨PE.mono (cbi qaw6 g (qc4 (cty (qaw4 r) i (qc4 o.h qk9 n) k (by rfl) ∅ ∅ n l) qk9 b) j (by rfl) ∅ ∅ b f) λM H Q m=>?_⟩;obtain⟨F,s,A,d,S,e,q⟩:=m;obtain⟨x,t,e2⟩:=qaK1.mp e;cases x with|l z J=>obtain⟨u,w,y⟩:=zA1.mp e2;obtain⟨B,rfl⟩:=qk0 y;refine⟨F,s,A,_,S,t,λv H1 B1 C D K=>?_⟩;obtain⟨a,L,A2,rfl,E,G,_⟩:=C.lst_inv;cases G.intsD w;refine⟨a,u,rfl,.inl (.inl E),B,λp St I=>⟨p,St,_,rfl,qc5,?_⟩⟩;exact q _ _ [] (.int _) (D.trans (Same.new I)) λ_=>New.nil|_=>cases e2
def Dc(f:Ds->Option D):VSp:=λds Q _=>orF (f ds) λd=>Q d ds
theorem qy0:Bu (Dc f):=λa Q Q' e b c _=>qa5 λd=>c d a
noncomputable def wOf(l:List Bool)(i:Nat):Bool:=l.getD i false
end
section
variable{c:Vc}{X:Cx}{NY:List Str}{sc:Scope}{src:List (Option Nat)}{tg elt e o a b:Kz}{ifs:List Kz}{g:VTG}{qf:VTT}{te:VT}{pos px spos p0:Pos}{x xn:Str}
def Gz(en:Ds->List D)(src:List (Option Nat))(i:Nat)(g:VTG)(qf:VTT)(te:VT):VT:=λds Q xe=>orF (rdN i ds) λd=>orF d.lstOf λys=>D.imms ys=true/\Dm g qf te (λacc ι'=>Q (.l false acc) ((Fc src ι' (Bz src (ds.set i .u)).2).set i d)) (en ys) [] (Bz src (ds.set i .u)).1
theorem qH1(bl:Blk X NY sc src tg ifs elt g qf te):Fv (Gz en src i g qf te):=λe Q Q' f a b h=>qa5 λd=>qa5 λj=>N4 (qi0 bl (λc ι=>b _ _) _ _ _)
theorem qaB9{J:γ->It}(bl:Blk X NY sc src tg ifs elt g qf te)(E:X.N[i]?=some xn)(G:∀{a:γ}{vs:List V}{z:Bool}{ys:Ds}{T:List γ}{τ:List (Option V)}{o0:Ds}{Dd:γ}{F0:γ->Prop}{H0 H:Hp}{A0:List γ}{K0:Ds->Ds->Prop}{av:List (Option V)}{Q:Hp->Prop}{σ':St},D.imms ys=true->Mid src av (λF H=>Pc F H (.ref a) (.l z ys) T/\H a=some (.l vs)) T τ o0 Dd F0 H0 A0 g qf te K0 (en ys) σ' H->(∀σ2 H2,Mid src av (λF H=>Pc F H (.ref a) (.l z ys) T/\H a=some (.l vs)) T τ o0 Dd F0 H0 A0 g qf te K0 [] σ2 H2->Q H2)->qp3 (J a) (ql3 src g) (ql2 src qf) (Bm src te) Dd Q σ' H)(j:∀σ H R,Fh i σ H (λx H1=>∃a,x=.ref a/\(∃xs,SqL K H1 a xs)/\R (J a) H1)->wi σ H R):Imp c X (Gz en src i g qf te) (Dp wi src (ql3 src g) (ql2 src qf) (Bm src te)):=by
 rintro D8 s σ H Q I ⟨F,L,A,xe,S,x,q⟩;have h:=bl.lt D8 σ H s I;have M:=qn7 E D8 σ H s I;refine j σ H _ ?_;obtain⟨d,k,q⟩:=qa7.mp q;obtain⟨k,hk⟩:=qm0.mp k;obtain⟨ys,O,P,q⟩:=qa7.mp q;obtain⟨z,rfl⟩:=qq6 O;obtain⟨v,B,C,l,r,t,U⟩:=S.put1 k D.noConfusion;have n:=l;rw[zAl M] at l;obtain⟨A1,Y,q2⟩:=U .u [] (Kp.same (F:=F) λ_ _ z=>z) (λ_ _ z=>z) (.u v);have u:Ok F H (B++A1):=S.ok.count λb=>by rw[zA0,q2,t];simp
 have Z:Pe F H A F H (B++A1):=⟨λb o e _=>e,λb o e z=>by rw[zA0,q2];have:=t b;simp;lia,λ_ f=>f,λ_ _ _ _ f=>f⟩;have S1:Pf c F H σ (L.set i .u) A1:=⟨Y,u.right,S.len,S.ag⟩;obtain⟨a,vs,Ael,rfl,w,rs,_⟩:=r.lst_inv;refine⟨.ref a,l,a,rfl,⟨vs,.inl (.inl w)⟩,λDd hD=>G P (qv6 h S1 u ⟨r,w⟩ qm8 hD (qi0 bl (λa0 ι q v H' F' B' A' rv S' hp y s=>?_) _ _ _ q)) λσ2 H2 m=>qv7 h S1 m⟩;obtain⟨A2,k1,k2⟩:=qH5 S'.loc n hp.1;have p:∀b,(B'++A2).count b<=(B'++(B++A')).count b:=λb=>by have:=k2 b;simp only[zA0] at *;lia
 exact q v H' F' B' A2 rv ⟨k1,(y.count p).right,S.len,S.ag⟩ (y.count p) ((Z.trans s).count p)
theorem qaT7(bl:Blk X NY sc src tg ifs elt g qf te)(a:X.N[i]?=some xn):Imp c X (Gz (λys=>ys) src i g qf te) (Dp (G6 K (Fh i)) src (ql3 src g) (ql2 src qf) (Bm src te)):=qaB9 (K:=K) (J:=Itl K) bl a (λb m d=>qQ4 bl b m d) λσ H R h=>h
theorem qaT8(bl:Blk X NY sc src tg ifs elt g qf te)(b:X.N[i]?=some xn):Imp c X (Gz enD src i g qf te) (Dp (iEnum K (Ix (Fh i) tNil)) src (ql3 src g) (ql2 src qf) (Bm src te)):=qaB9 (K:=K) (J:=Ite K) bl b (λd m f=>qar1 bl d m f) λσ H R ⟨v,h,a,e,j,k⟩=>⟨v,h,a,by rw[e],j,k⟩
theorem ecN(i:Nat)(bl:Blk X NY sc src tg ifs elt g qf te)(b:X.N[i]?=some xn:=by rfl)(d:Vis X.env.scope xn:=by first|exact O3 rfl|exact O2 (O3 rfl)|exact O2 (O2 rfl))(e:N' xn:=by decide)(a:(xn==("__classdict__" : Str))=false:=by decide)(f:X.calm=true:=by rfl)(h:qr2 X NY src sc=true:=by rfl)(j:∀x,Ke (.Name xn p0) X.env x=pure x:=by intro _;rfl):VE c X (.ListComp elt [⟨tg,.Name xn p0,ifs,0⟩] sc pos) (Gz (λys=>ys) src i g qf te):=Ii (qA7 NY src (qA6 (qn3 b d e a)) bl.pg bl.pf bl.pe f h j) (qaT7 bl b) (qH1 bl)
theorem ecEN(i:Nat){e:Nat}(hm:X.mg "enumerate"=none)(bl:Blk X NY sc src (.Tuple elts e tpos) ifs elt g qf te)(f:X.N[i]?=some xn:=by rfl)(h:Vis X.env.scope xn:=by first|exact O3 rfl|exact O2 (O3 rfl)|exact O2 (O2 rfl))(j:N' xn:=by decide)(b:(xn==("__classdict__" : Str))=false:=by decide)(d:Gl X "enumerate" := by rfl)(a:Kb [.Name xn p0] X.env=[(false,eval (.Name xn p0) X.env)]:=by rfl)(k:X.calm=true:=by rfl)(l:qr2 X NY src sc=true:=by rfl)(m:∀x,Ke (.Call (.Name "enumerate" p) [.Name xn p0] [] cpos) X.env x=pure x:=by intro _;rfl):VE c X (.ListComp elt [⟨.Tuple elts e tpos,.Call (.Name "enumerate" p) [.Name xn p0] [] cpos,ifs,0⟩] sc pos) (Gz enD src i g qf te):=Ii (qA7 NY src (qaP4 d hm (qc4 (qn3 f h j b) qk9 a) a) bl.pg bl.pf bl.pe k l m) (qaT8 bl f) (qH1 bl)
theorem scN(i j:Nat)(b:X.N.Nodup)(bl:Blk X NY sc src tg ifs elt g qf te)(k:c.W i=false:=by rfl)(h:X.N[j]?=some xn:=by rfl)(l:Vis X.env.scope xn:=by first|exact O3 rfl|exact O2 (O3 rfl)|exact O2 (O2 rfl))(m:N' xn:=by decide)(d:(xn==("__classdict__" : Str))=false:=by decide)(a:X.N[i]?=some x:=by rfl)(n:Loc X.env.scope x:=by first|exact O3 rfl|exact O2 rfl)(o:X.calm=true:=by rfl)(p:qr2 X NY src sc=true:=by rfl)(e:swapsWith (.ListComp elt [⟨tg,.Name xn p0,ifs,0⟩] sc pos) (some (.Name x px)) spos.line X.env=pure true:=by rfl)(q:∀x,Ke (.Name xn p0) X.env x=pure x:=by intro _;rfl)(f:X.fn x=true∨X.env.scope.names.lookup x=some .local:=by first|exact .inl rfl|exact .inr rfl|assumption):VS c X (.Assign [.Name x px] (.ListComp elt [⟨tg,.Name xn p0,ifs,0⟩] sc pos) spos) (Ec (Gz (λys=>ys) src j g qf te) (gNm i)):=qaC9 (qah9 i NY src b (qA6 (qn3 h l m d)) bl.pg bl.pf bl.pe a n o p e q f) (qaT7 bl h) (qH1 bl) k a
theorem qaW9(h:ds[i]?=some (.hole w)):bk1 i [] w d0 ds=some (ds.set i d0):=by unfold bk1 Au;rw[qJ7 h];simp only[if_true];unfold Au;rw[qH6 h]
theorem qm3{g:VTG}{qf:VTT}{te:VT}{K:Ds->Ds->Prop}(I:Ds->Prop)(f:D->Option D):∀(xs:List D)(acc ι:Ds),acc.length+xs.length<big->I ι->(∀x∈xs,∀ι acc,I ι->∀R:Ds->Ds->Prop,(∀ι',I ι'->R (acc++(f x).toList) ι')->acc.length<big->g x ι λι1=>qf ι1 (λb ι2=>if b=true then te ι2 (λd ι3=>acc.length<big/\R (acc++[d]) ι3) (λ_ _=>False) else R acc ι2) (λ_ _=>False))->(∀ι',I ι'->K (acc++xs.filterMap f) ι')->Dm g qf te K xs acc ι|[],acc,ι,_,h,_,hK=>by have:=hK ι h;rw[List.filterMap_nil,zAg] at this;exact this|x::xs,acc,ι,hl,h,hs,hK=>by refine hs x zAh ι acc h (λa i=>Dm g qf te K xs a i) (λι' hι=>?_) (by simp at hl;lia);refine qm3 I f xs _ ι' ?_ hι (λy e=>hs y (zA7 _ e)) λι2 j=>?_;{cases c:f x with|none=>simp at hl ⊢;lia|some y=>simp at hl ⊢;lia};have:=hK ι2 j;rw[zCt] at this;cases c:f x with|none=>rw[c] at this;simpa using this|some y=>rw[c] at this;simpa using this
end
structure MdN(K:N7)(C:γ)(m qual:Str)(st:K4)(f:γ)(fd:ε)(ps:List Str):Prop where
 F:FunE K m qual st f fd
 b:Binds K fd ps []
 bn:Binds K fd ps [.none]
 me:Iw K C m f
 isf:W.isFn K (.ref f)=true
theorem mdmkN{v:Option γ}{kV j:V'}(l:K.lookup f=some ⟨oc,v,.func (W.fnOf m qual (qg0 st) (qd5 st) (qa3 st) (.ref T) kV e h g d j),p⟩)(c:W.codeIn K d qual=true)(k:W.keepIn K (.ref f)=true)(a:W.findIn K (.ref C) m=some (some (.ref f)))(i:W.isFn K (.ref f)=true)(t:K.lookup T=some ⟨to,td,.seq #[.none] n,q⟩)(b:∀(kV e h:V')(g:Option γ)(d j:V')(us:List V'),us.length=ps.length->∃k,bindArgs (W.fnOf m qual (qg0 st) (qd5 st) (qa3 st) (.ref T) kV e h g d j) ⟨us,[]⟩=seqItems? (.ref T) >>= k/\k (some #[.none])=pure (ps.zip us))(w:∀(kV e h:V')(g:Option γ)(d j:V')(us:List V'),us.length+1=ps.length->∃k,bindArgs (W.fnOf m qual (qg0 st) (qd5 st) (qa3 st) (.ref T) kV e h g d j) ⟨us,[]⟩=seqItems? (.ref T) >>= k/\k (some #[.none])=pure (ps.zip (us++[.none]))):MdN K C m qual st f (W.fnOf m qual (qg0 st) (qd5 st) (qa3 st) (.ref T) kV e h g d j) ps:=⟨⟨⟨_,_,_,_,_,_,_,_,_,_,rfl,l,c⟩⟩,λs us X o=>(by
   rw[zAg] at o ⊢;obtain⟨k,r,u⟩:=b kV e h g d j us o;exact W.binds_K X rfl t rfl r u),λs us X o=>(by
   obtain⟨k,r,u⟩:=w kV e h g d j us (by rw[zA6] at o;exact o);exact W.binds_K X rfl t rfl r u),⟨a,i,k⟩,i⟩
end LV
namespace LV
open PySem L2
section
variable{c:Vc}{X:Cx}{e o:Kz}{Z:List Kz}{Y:VTB}{own:Bool}{g:FV}{U W:Pos}{qual m:Str}{st:K4}{f C:γ}{fd:ε}{ps:List Str}{k:Nat}{s:VSp}{dvs:List V}{dv:Ds}
def Jr(C:γ)(m:Str)(s:VSp)(dv:Ds)(g:FV)(Y:VTB):VT:=λds Q xe=>orF (g ds) λd=>d.imm=true/\d.isM C m=true/\Y ds (λxs ps ds1=>s (d::(xs++dv)) (λr ys=>orF (Au (.no::ps) ys ds1) λa=>Q r a) (λx ys=>orF (Au (.no::ps) ys ds1) λa=>xe x a)) xe
theorem qak7(f:Bu s)(h:VAs c X Z Y):∀ds (Q Q':DK) (xe b:XKd),(∀d a,Q d a->Q' d a)->(∀x a,xe x a->b x a)->Jr C m s dv g Y ds Q xe->Jr C m s dv g Y ds Q' b:=λds Q Q' xe b i e=>qa5 λd=>N4 (N4 (h.m _ _ _ _ _ (λl n j=>f _ _ _ _ _ (λd k=>qa5 λz=>i _ _) (λx k=>qa5 λz=>e _ _)) e))
theorem qaH4(p:Gs dvs dv)(t:Bu s)(u:VAs c X Z Y):∀T H Q,Bj c (Jr C m s dv g Y) T H Q->Ha C m (Fs s) dvs c.E (liftV c own g) (E6 c Y) T H Q:=by
 rintro T H Q ⟨F,k,A,w,S,x,q⟩;obtain⟨d,y,D,G,q⟩:=qa7.mp q;refine⟨F,k,A,d,S,y,λv H1 B r e _=>?_⟩;obtain rfl:=r.imm D;obtain⟨a,I,J,rfl,f,i⟩:=r.isM G;refine⟨a,I,J,rfl,f,i,F,k,A,w,S.same e,x.step (Pe.same e),u.m _ _ _ _ _ (λl R K q n H2 F2 T2 A2 L M S2 N o=>?_) (λ_ _ z=>z) q⟩;have j:Pc F2 H2 (.ref a) d []:=r.keep (o.kp (S.same e).ok (S.same e).loc.cells) λb O=>by cases O
 exact qaC0 (vs:=.ref a::n) (xs:=d::l) p t S x (.cons j L) (.no M) S2 N ((Pe.same e).trans o) (λd P h=>h) q
theorem qaW2{pl:Sem Bool}(D:Md X.K C m qual st f fd ps)(j:Cls X.K C)(G:Fo cm X.prog X.w X.K X.mg X.base k f fd ps s)(l:Lands X c.E)(n:Pg cm k X.A)(p:VV c X o own g)(a:VAs c X (e::Z) Y)(d:Kb (e::Z) X.env=(false,eval e X.env)::Kb Z X.env:=by rfl)(i:(backTo U (Kb Z X.env)).any (·.1)=false:=by rfl)(q:eval (.Call (.Attribute o m W) (e::Z) [] U) X.env=(do
     let ov<-eval o X.env
     standAt W.atName
     let (f,first)<-holding [ov] (getMethod ov m pl)
     callWith U f first (backTo U (Kb (e::Z) X.env)) (backToKw U (Km [] X.env))):=by rfl):VE c X (.Call (.Attribute o m W) (e::Z) [] U) (Jr C m s [] g Y):=⟨PE.mono (qai6 p.h j D.me G.ok n D.b .nil l.passes a.h d i q) (qaH4 qC7 G.m a),qak7 G.m a⟩
end
section
variable{F:γ->Prop}{H:Hp}
noncomputable def qbe1(ys xs:Ds):Option (Ds×D):=match xs with|[.int i]=>if 0<=i/\i<2 ^ 63 then (ys[i.toNat]?).map λd=>(ys.eraseIdx i.toNat,d) else none|_=>none
theorem qao7{α:Type}{xs:List α}{x:α}:∀{ys:List α},(xs++x::ys).eraseIdx xs.length=xs++ys:=λ{ys}=>by
 rw[List.eraseIdx_append_of_length_le (zA2 _),Nat.sub_self];rfl
theorem qaH0:F8 qaO2 qbe1:=by
 intro F H a g c Ael N x T j d Q y r z h q;cases x with
 |nil=>cases h
 |cons e l=>
 cases l with
 |cons=>cases e<;>cases h
 |nil=>
 cases e with
 |int i=>
  obtain⟨w,rfl,k⟩:=z.one_inv;cases k;have h:(if 0<=i/\i<2 ^ 63 then (c[i.toNat]?).map λd=>(c.eraseIdx i.toNat,d) else none)=some (j,d):=h;by_cases f:0<=i/\i<2 ^ 63
  .rw[if_pos f] at h
   obtain⟨e,s,A⟩:=zAa.mp h;cases A;obtain⟨m,v,n,o,p,A1,B,A2,t,e2,u,C,D,E,G,I⟩:=r.split s;have J:i.toNat<c.length:=(zA5.mp s).1;have K:g[i.toNat]?=some v:=by rw[t,<-u,zBn (zA2 _),Nat.sub_self];rfl
   refine⟨a,g,i,i.toNat,v,rfl,rfl,y,⋯,f.2,?_,K,?_⟩
   .rw[r.len]
    exact PySem.StrLaws.seqIndex_nonneg f.1 ⋯
   have L:g.eraseIdx i.toNat=m++n:=by rw[<-u,t];exact qao7
   have M:c.eraseIdx i.toNat=o++p:=by rw[<-C,e2];exact qao7
   rw[L];exact q _ v (A1++A2) B (by rw[M];exact E.append I) G λb=>by rw[D];simp only[zA0];lia
  rw[if_neg f] at h;cases h
 |_=>cases h
end
theorem rm(r:Pg cm k A)(h:j<=k:=by decide):Pg cm j A:=r.mono h
theorem VFn.mk2(Fu:Fun K x qual st f fd)(Sc:qa9 N ps (qa3 st))(W:Nat->Bool)(c:Bu s)(h:∀ds Q xe,s ds Q xe->ds.length=ps.length/\Gw W 0 ds=true)(hbody:∀(a:V')(A:Kx)(outer:List Env)(b:δ)(H:Hp)(E:XK)(av:List (Option V)),Pg cm k (A.deeper (PyProof.Rows.envOfC qual (qa3 st) b.heap.objs.size f a))->∃t,VSs ⟨λ_=>E,W,av,[]⟩ (Em cm (CX1 P w) P w K mg base N qual (qa3 st) f a A outer b H E) (qd5 st) t/\∀ds Q xe,s ds Q xe->t (qav5 W ds Q xe) (ds++Li (N.length-ds.length) .u)):Fo cm P w K mg base (k+1) f fd ps s:=VFn.mk' Fu Sc W c (λds Q xe z=>(h ds Q xe z).1) (λds Q xe z=>(h ds Q xe z).2) hbody
def spPu(g:D->D->Option D):Sp:=λvs H Q _=>∃F u x d a b A B w,vs=[u,x]/\Pc F H u a A/\Pc F H x b B/\g a b=some d/\d.flat=some w/\Q w H
section
variable{c:Vc}{X:Cx}{e:Kz}{pos apos:Pos}{m qual:Str}{st:K4}{f C:γ}{fd:ε}{ps:List Str}{k:Nat}{g:D->D->Option D}{fb:FV}{ob:Bool}
def fPu(C:γ)(m:Str)(g:D->D->Option D)(i:Nat)(fb:FV):FV:=λds=>(rdN i ds).bind λx=>if x.isM C m=true then (fb ds).bind λy=>(g x y).bind λd=>d.flat.map λ_=>d else none
theorem Pc.ofFlat(h:d.flat=some w):Pc F H w d []:=by cases d with|non=>cases h;exact .non|bl b=>cases h;exact .bl b|int i=>cases h;exact .int i|str x=>cases h;exact .str x|_=>cases h
theorem qaX8{pl:Sem Bool}(i:Nat){xn:Str}{p0:Pos}(D:Md X.K C m qual st f fd ps)(P:Cls X.K C)(G:Ee X.prog X.w X.K X.mg X.base CX0 k f fd ps (spPu g))(R:Room k X.A)(T:VV c X e ob fb)(J:X.N[i]?=some xn:=by rfl)(U:Vis X.env.scope xn:=by first|exact O3 rfl|exact O2 (O3 rfl)|exact O2 (O2 rfl))(V:N' xn:=by decide)(n:(xn==("__classdict__" : Str))=false:=by decide)(l:Kb [e] X.env=(false,eval e X.env)::Kb [] X.env:=by rfl)(o:(backTo pos (Kb [] X.env)).any (·.1)=false:=by rfl)(W:eval (.Call (.Attribute (.Name xn p0) m apos) [e] [] pos) X.env=(do
 let ov<-eval (.Name xn p0) X.env
 standAt apos.atName
 let (f,first)<-holding [ov] (getMethod ov m pl)
 callWith pos f first (backTo pos (Kb [e] X.env)) (backToKw pos (Km [] X.env))):=by rfl):VV c X (.Call (.Attribute (.Name xn p0) m apos) [e] [] pos) true (fPu C m g i fb):=by refine⟨λD8 s σ H Q I p=>?_⟩;obtain⟨F,Y,A,d,S,j,q⟩:=p;refine qai6 (qn3 J U V n) P D.me G R D.b .nil pass0 (qc4 T.h qk9 l) l o W D8 s σ H Q I ?_;obtain⟨x,Z,j⟩:=zA1.mp j;by_cases t:x.isM C m=true;{rw[if_pos t] at j;obtain⟨y,h2,j⟩:=zA1.mp j;obtain⟨d',h3,j⟩:=zA1.mp j;obtain⟨w,L,j⟩:=zAa.mp j;cases j;obtain⟨v,B0,u,M,_⟩:=S.name (qn7 J D8 σ H s I) Z;obtain⟨a,dx,fs,rfl,z,E⟩:=M.isM t;refine⟨.ref a,u,a,dx,fs,rfl,z,E,F,Y,A,y,S,h2,λv' H1 B r O _=>?_⟩;exact⟨F,_,_,_,x,y,B0,B,w,rfl,M.same O,r,h3,L,q w H1 [] (Pc.ofFlat L) O λ_=>New.nil⟩};rw[if_neg t] at j;cases j
def tbBV(pf:PF)(f:FV):VTB:=λds Q _=>orF (pf ds) λq=>orF (Bf ds q.1 q.2) λd=>d.known=true/\orF (f ds) λx=>x.imm=true/\∀w,Q [d,x] [.pl q.1 q.2 w,.no] (Bk ds q.1 q.2 (.hole w))
theorem vaBV{e2:Kz}(G:VP c X o pf)(I:VV c X e2 own fv)(J:Kb (o::[e2]) X.env=(false,eval o X.env)::Kb [e2] X.env:=by rfl)(g:Kb [e2] X.env=(false,eval e2 X.env)::Kb [] X.env:=by rfl):VAs c X [o,e2] (tbBV pf fv):=by
 refine⟨PA.mono (qc4 G.h (qc4 I.h qk9 g) J) λσ H Q j=>?_,λa Q Q' K L M W=>qa5 λz=>qa5 λd=>N4 (qa5 λy=>N4 λh w=>M _ _ _ (h w))⟩;obtain⟨F,a,A,K,S,x,q⟩:=j;obtain⟨⟨i,p⟩,N,q⟩:=qa7.mp q;obtain⟨d,e2,n,q⟩:=qa7.mp q;obtain⟨y,O,P,q⟩:=qa7.mp q;refine⟨F,a,A,i,p,d,S,N,e2,ql5 n,λu w H0 R T k=>?_⟩;refine⟨F,a,A,y,S.same k,O,λv H1 Bv t l _=>?_⟩;obtain rfl:=t.imm P;have s:Same H H1:=λb o e=>l b o (k b o e);obtain⟨B,C,r,D,U⟩:=(S.same k).place e2 (ql5 n) R T;have r:=r.same l;obtain⟨A1,m,q2⟩:=U (.hole w) [] (Kp.same (F:=F) λ_ _ z=>z) (λ_ _ z=>z) (.hole w);have m:=m.same l;have E:Ok F H1 (B++A1):=(S.same s).ok.count λb=>by rw[zA0,q2,D];simp
 have V:Pe F H A F H1 (B++A1):=⟨λb o e _=>s b o e,λb o e z=>by rw[zA0,q2];have:=D b;simp;lia,λ_ f=>f,λ_ _ _ _ f=>f⟩;have S1:Pf c F H1 σ (Bk a i p (.hole w)) A1:=⟨m,E.right,S.len,S.ag⟩;refine q w [w,v] H1 F B A1 ?_ (.so (.no .nil)) S1 E V;have:=O6.cons r (O6.cons t .nil);rwa[zAg,zAg] at this
end
end LV
namespace S6
open PySem PyProof.Rows
variable{N bs q:Nat}{arr xs:Array Lb}{f:Nat->Lb}{key:Lb}{kf:V'->Int×Int}{l:Bool}{vs:List V'}
section
variable{f:Type}{le:f->f->Bool}
theorem mg_l{A2:List f}:∀{A1 Y:List f},(∀a∈A1,∀y∈Y,le a y=true)->Lj (A1++A2) Y le=A1++Lj A2 Y le|[],_,_=>rfl|x::A1,[],_=>by simp|x::A1,y::Y,h=>by rw[zC2,zBd,if_pos (h x (by simp) y (by simp)),mg_l λa b=>h a (by simp[b])];rfl
theorem mg_r{B2:List f}:∀{B1 X:List f},(∀b∈B1,∀x∈X,le x b=false)->Lj X (B1++B2) le=B1++Lj X B2 le|[],_,_=>rfl|b::B1,[],_=>by simp|b::B1,x::X,h=>by rw[zC2,zBd,if_neg (by simp[h b (by simp) x (by simp)]),mg_r λa c=>h a (by simp[c])];rfl
theorem Js{A2:List f}:∀{A1 Y:List f},(∀a∈A2,∀y∈Y,le a y=false)->Lj (A1++A2) Y le=Lj A1 Y le++A2|[],Y,h=>by have:=mg_r (B2:=[]) (B1:=Y) (X:=A2) (le:=le) λy c a b=>h a b y c;simpa using this|x::A1,[],_=>by simp|x::A1,y::Y,h=>by rw[zC2,zBd,zBd];split;{rw[Js h];rfl};rw[<-zC2,Js λa b z d=>h a b z (by simp[d])];rfl
theorem Ho{B2:List f}:∀{B1 X:List f},(∀b∈B2,∀x∈X,le x b=true)->Lj X (B1++B2) le=Lj X B1 le++B2|[],X,h=>by have:=mg_l (A2:=[]) (A1:=X) (Y:=B2) (le:=le) λy d a c=>h a c y d;simpa using this|b::B1,[],_=>by simp|b::B1,x::X,h=>by rw[zC2,zBd,zBd];split;{rw[<-zC2,Ho λa c z e=>h a c z (by simp[e])];rfl};rw[Ho h];rfl
end
noncomputable def gal:Bool->Lb->Array Lb->Nat->Nat->Nat->StateT Lc Sem (Option Nat):=sortPriv% PySem.Builtin.gallop
def bey(l:Bool)(key:Lb)(arr:Array Lb)(i:Nat):StateT Lc Sem (Option Bool):=do
 let x<-elem' arr i
 if l then lt' x key else return (<- lt' key x).map (!·)
theorem qbe0(l:Bool)(key:Lb)(arr:Array Lb)(bs n g:Nat):gal l key arr bs n g=(do
 let mut p:=0
 let mut o:=1
 let mut u:=0
 let mut v:=0
 let some t<-bey l key arr (bs+g)|return none
 if t then
   let mo:=n-g
   for _ in [0:n] do
     if o ≥ mo then break
     let some c<-bey l key arr (bs+(g+o))|return none
     if !c then break
     p:=o
     o:=2*o+1
   u:=g+p+1
   v:=g+min o mo
 else
   let mo:=g+1
   for _ in [0:n] do
     if o ≥ mo then break
     let some c<-bey l key arr (bs+(g-o))|return none
     if c then break
     p:=o
     o:=2*o+1
   u:=g+1-min o mo
   v:=g-p
 for _ in [0:n] do
   if u ≥ v then break
   let m:=u+(v-u)/2
   let some c<-bey l key arr (bs+m)|return none
   if c then u:=m+1 else v:=m
 return some v):=rfl
section
variable{M:Model}{A:Kx}{E:V'->δ->Prop}{s:δ}{l n o:Type}{Q:o->l->Prop}{m:l}
theorem gB{f:l->StateT l Sem o}(h:wpS M A E s (f m) Q m):wpS M A E s (get >>= f) Q m:=K5 (wpS_get h)
theorem rB{f:Unit->StateT l Sem o}(h:wpS M A E s (f ()) Q m):wpS M A E s (liftM (rule t) >>= f) Q m:=K5 (wpS_lift (Ko ⟨rfl,h⟩))
theorem fB{f:Nat->n->StateT l Sem (ForInStep n)}(I:Nat->n->l->Prop)(R:n->l->Prop)(h1:∀F,f=F->∀i c m,a<=i->i<b->I i c m->∀K:ForInStep n->l->Prop,(∀e d,R e d->K (.done e) d)->(∀e d,I (i+1) e d->K (.yield e) d)->wpS M A E s (F i c) K m)(h2:∀c m,I (max a b) c m->R c m)(j:I a c m)(k:∀F,g=F->∀c m,R c m->wpS M A E s (F c) Q m):wpS M A E s (forIn [a:b] c f >>= g) Q m:=K5 (wpS_mono (wpS_forRange I (λi c m x y z=>h1 f rfl i c m x y z _ (λ_ _ h=>h) λ_ _ h=>h) h2 j) (k g rfl))
end
structure Od(lt:Lb->Lb->Bool):Prop where
 as:∀x y,lt x y=true->lt y x=false
 tr:∀x y z,lt y x=false->lt z y=false->lt z x=false
def Cm(prog:Kw)(w:Ky)(A:Kx)(s:δ)(kd:SortKind)(P:Lb->Prop)(lt:Lb->Lb->Bool):Prop:=∀x y,P x->P y->∀(E:V'->δ->Prop)(Q:Bool->δ->Prop),Q (lt x y) s->Ku (Kv prog w) A (keyLt' kd x.1 y.1) Q E s
section
variable{prog:Kw}{w:Ky}{A:Kx}{E:V'->δ->Prop}{s:δ}{kd:SortKind}{P:Lb->Prop}{lt:Lb->Lb->Bool}{st:Lc}
theorem Od.ir(h:Od lt)(x:Lb):lt x x=false:=by cases e:lt x x with|false=>rfl|true=>rw[h.as x x e] at e;cases e
theorem wlt(a:Cm prog w A s kd P lt)(b:Ld st=kd)(c:P x)(d:P y)(h:Q (some (lt x y)) st):wpS (Kv prog w) A E s (lt' x y) Q st:=by rw[lt'_eq];refine gB ?_;rw[b];exact K5 (wpS_lift (wpAny_attempt (a x y c d _ _ ⟨rfl,K6 h⟩)))
theorem wel(hi:arr[i]?=some p)(h:Q p st):wpS (Kv prog w) A E s (elem' arr i) Q st:=by rw[elem'_eq,hi];exact K6 h
def B(lt:Lb->Lb->Bool)(l:Bool)(key x:Lb):Bool:=if l then lt x key else !lt key x
theorem wif{α:Type}{c:Prop}[Decidable c]{m n:StateT Lc Sem α}{Q:α->Lc->Prop}(h1:c->wpS (Kv prog w) A E s m Q st)(h2:¬c->wpS (Kv prog w) A E s n Q st):wpS (Kv prog w) A E s (if c then m else n) Q st:=by by_cases h:c;{rw[if_pos h];exact h1 h};rw[if_neg h];exact h2 h
section
variable{u v n x i g o p:Nat}
theorem l2o(o:Nat):o+1<=2*o+1:=⋯
theorem g1(c:¬u ≥ v)(h:v-u<=n-x):u+(v-u)/2<v/\v-(u+(v-u)/2+1)<=n-(x+1)/\u+(v-u)/2-u<=n-(x+1):=by
 have q:=Nat.div_lt_self (Nat.sub_pos_of_lt (Nat.lt_of_not_le c)) (zA2 2);generalize (v-u)/2=m at *
 have t:=Nat.sub_le_sub_right h 1;exact⟨Nat.add_lt_of_lt_sub' q,zAn (Nat.sub_le_sub_left (zCc (zBq u m)) v) t,by rw[Nat.add_sub_cancel_left];exact zAn (Nat.le_pred_of_lt q) t⟩
theorem g2(h:v-u<=n-max 0 n)(hi:i<v):i<u:=⋯
theorem g3(h:max 0 n+1<=o)(h':o<n-g):False:=⋯
theorem g8(h:max 0 n+1<=o)(a:g<n)(h':o<g+1):False:=⋯
theorem g4(h:p<o)(h':g+p<n):g+p+1<=g+min o (n-g)/\g+min o (n-g)<=n:=⋯
theorem g5(h:g+min o (n-g)<=i)(h':i<n):g+o<=i/\o<n-g:=⋯
theorem g6(h:p<o)(h':p<=g):g+1-min o (g+1)<=g-p:=⋯
theorem g7(h:i<g+1-min o (g+1)):i<=g-o/\o<g+1:=by by_cases c:o<g+1;{rw[zCy (zBi c)] at h;exact⟨⋯,c⟩};rw[Nat.min_eq_right (zC3 c),Nat.sub_self] at h;exact absurd h (zBw _)
end
theorem yB{β:Type}{x:Lb}{i:Nat}{f:Option Bool->StateT Lc Sem β}{Q:β->Lc->Prop}(a:Cm prog w A s kd P lt)(b:Ld st=kd)(hi:arr[i]?=some x)(c:P x)(d:P key)(h:B lt l key x=true->wpS (Kv prog w) A E s (f (some true)) Q st)(h':B lt l key x=false->wpS (Kv prog w) A E s (f (some false)) Q st):wpS (Kv prog w) A E s (bey l key arr i >>= f) Q st:=by
 have e:wpS (Kv prog w) A E s (f (some (B lt l key x))) Q st:=by cases e:B lt l key x with|true=>exact h e|false=>exact h' e
 refine K5 ?_;unfold bey;refine K5 (wel hi ?_);cases l with|true=>exact wlt a b c d e|false=>exact K5 (wlt a b d c (K6 e))
theorem wgal(O:Cm prog w A s kd P lt)(R:Ld st=kd)(S:P key)(T:∀i,i<n->arr[bs+i]?=some (f i))(U:∀i,i<n->P (f i))(hm:∀i j,i<=j->j<n->B lt l key (f j)=true->B lt l key (f i)=true)(J:g<n)(h:∀k,k<=n->(∀i,i<k->B lt l key (f i)=true)->(∀i,k<=i->i<n->B lt l key (f i)=false)->Q (some k) st):wpS (Kv prog w) A E s (gal l key arr bs n g) Q st:=by
 have L:∀i j,i<=j->j<n->B lt l key (f i)=false->B lt l key (f j)=false:=λi j a b c=>by cases e:B lt l key (f j) with|false=>rfl|true=>rw[hm i j a b e] at c;cases c
 have fin:∀u v,u<=v->v<=n->(∀i,i<u->B lt l key (f i)=true)->(∀i,v<=i->i<n->B lt l key (f i)=false)->wpS (Kv prog w) A E s (do
  let mut u:=u
  let mut v:=v
  for _ in [0:n] do
   if u ≥ v then break
   let m:=u+(v-u)/2
   let some c<-bey l key arr (bs+m)|return none
   if c then u:=m+1 else v:=m
  return some v) Q st:=by
  intro u v Z X a3 a4;refine fB (λx c d=>d=st/\c.1=none/\c.2.1<=c.2.2/\c.2.2<=n/\c.2.2-c.2.1<=n-x/\(∀i,i<c.2.1->B lt l key (f i)=true)/\(∀i,c.2.2<=i->i<n->B lt l key (f i)=false)) (λc d=>d=st/\c.1=none/\c.2.2<=n/\(∀i,i<c.2.2->B lt l key (f i)=true)/\(∀i,c.2.2<=i->i<n->B lt l key (f i)=false)) ?_ ?_ ⟨rfl,rfl,Z,X,zAn (zCn v u) X,a3,a4⟩ ?_
  .rintro F z x ⟨_,u,v⟩ d-Y ⟨rfl,rfl,y,C,t,r,H⟩ K p q
   subst z;refine wif (λc=>K6 (p _ _ ⟨rfl,rfl,C,λi I=>r i (zAm I c),H⟩)) λc=>?_
   have m:=g1 (u:=u) (v:=v) c t;have V:=zAm m.1 C;exact yB O R (T _ V) (U _ V) S (λG=>K6 (q _ _ ⟨rfl,rfl,m.1,C,m.2.1,λi I=>hm i _ (zC5 I) V G,H⟩)) λG=>K6 (q _ _ ⟨rfl,rfl,zBq _ _,zBi V,m.2.2,r,λi D M=>L _ i D M G⟩)
  .exact λc d ⟨N,D,y,C,t,r,H⟩=>⟨N,D,C,λi I=>r i (g2 t I),H⟩
  rintro F z ⟨_,u,v⟩ d ⟨rfl,rfl,C,r,H⟩;subst z;exact K6 (h v C r H)
 rw[qbe0];refine yB O R (T _ J) (U _ J) S (λW=>wif (λ_=>?_) λc=>absurd rfl c) λW=>wif (λc=>nomatch c) λ_=>?_;{refine fB (λx c d=>d=st/\c.1=none/\c.2.1<c.2.2/\x+1<=c.2.2/\g+c.2.1<n/\B lt l key (f (g+c.2.1))=true) (λc d=>d=st/\c.1=none/\c.2.1<c.2.2/\g+c.2.1<n/\B lt l key (f (g+c.2.1))=true/\(c.2.2<n-g->B lt l key (f (g+c.2.2))=false)) ?_ ?_ ⟨rfl,rfl,Nat.one_pos,zA2 _,J,W⟩ ?_;{rintro F z x ⟨_,p,o⟩ d-Y ⟨rfl,rfl,y,C,t,r⟩ K u v;subst z;refine wif (λc=>K6 (u _ _ ⟨rfl,rfl,y,t,r,λh=>absurd h (Nat.not_lt_of_le c)⟩)) λc=>?_;have m:g+o<n:=Nat.add_lt_of_lt_sub' (Nat.lt_of_not_le c);exact yB O R (T _ m) (U _ m) S (λG=>K6 (v _ _ ⟨rfl,rfl,l2o o,zAn (zCc C) (l2o o),m,G⟩)) λG=>K6 (u _ _ ⟨rfl,rfl,y,t,r,λ_=>G⟩)};{exact λc d ⟨N,D,y,C,t,r⟩=>⟨N,D,y,t,r,λh=>(g3 C h).elim⟩};rintro F z ⟨_,p,o⟩ d ⟨rfl,rfl,y,t,r,H⟩;subst z;exact fin (g+p+1) (g+min o (n-g)) (g4 y t).1 (g4 y t).2 (λi I=>hm i _ (zC5 I) t r) λi D M=>L (g+o) i (g5 D M).1 M (H (g5 D M).2)};refine fB (λx c d=>d=st/\c.1=none/\c.2.1<c.2.2/\x+1<=c.2.2/\c.2.1<=g/\B lt l key (f (g-c.2.1))=false) (λc d=>d=st/\c.1=none/\c.2.1<c.2.2/\c.2.1<=g/\B lt l key (f (g-c.2.1))=false/\(c.2.2<g+1->B lt l key (f (g-c.2.2))=true)) ?_ ?_ ⟨rfl,rfl,Nat.one_pos,zA2 _,zBb _,W⟩ ?_;{rintro F z x ⟨_,p,o⟩ d-Y ⟨rfl,rfl,y,C,t,r⟩ K u v;subst z;have m:g-o<n:=zCg (zCn g o) J;exact wif (λc=>K6 (u _ _ ⟨rfl,rfl,y,t,r,λh=>absurd h (Nat.not_lt_of_le c)⟩)) λc=>yB O R (T _ m) (U _ m) S (λG=>K6 (u _ _ ⟨rfl,rfl,y,t,r,λ_=>G⟩)) λG=>K6 (v _ _ ⟨rfl,rfl,l2o o,zAn (zCc C) (l2o o),zC5 (Nat.lt_of_not_le c),G⟩)};{exact λc d ⟨N,D,y,C,t,r⟩=>⟨N,D,y,t,r,λh=>(g8 C J h).elim⟩};rintro F z ⟨_,p,o⟩ d ⟨rfl,rfl,y,t,r,H⟩;subst z;exact fin (g+1-min o (g+1)) (g-p) (g6 y t) (zAn (zCn g p) (zBi J)) (λi I=>hm i (g-o) (g7 I).1 (zCg (zCn g o) J) (H (g7 I).2)) λi D M=>L _ i D M r
end
noncomputable abbrev lee(lt:Lb->Lb->Bool):Lb->Lb->Bool:=λx y=>!lt y x
section
variable{d:Type}{le:d->d->Bool}
theorem Jt{A2 Y:List d}{y:d}:∀{A1:List d},(∀a∈A1,le a y=true)->Lj (A1++A2) (y::Y) le=A1++Lj A2 (y::Y) le|[],_=>rfl|x::A1,h=>by rw[zC2,zBd,if_pos (h x (by simp)),Jt λa b=>h a (by simp[b])];rfl
theorem Ju{B2 X:List d}{x:d}:∀{B1:List d},(∀b∈B1,le x b=false)->Lj (x::X) (B1++B2) le=B1++Lj (x::X) B2 le|[],_=>rfl|b::B1,h=>by rw[zC2,zBd,if_neg (by simp[h b (by simp)]),Ju λa c=>h a (by simp[c])];rfl
end
noncomputable def att(a:Array Lb)(i:Nat):Lb:=a.getD i (Nw,Nw)
theorem qV3(h:i<a.size):a[i]?=some (att a i):=by simp[att,Array.getD,h]
theorem Ek(h:i<a.size):a.toList.drop i=att a i::a.toList.drop (i+1):=by rw[Lu (by simpa using h)];simp[att,Array.getD,h]
def Srt(lt:Lb->Lb->Bool)(f:Nat->Lb)(n:Nat):Prop:=∀i j,i<=j->j<n->lt (f j) (f i)=false
theorem Srt.drop(h:Srt lt f n):Srt lt (λi=>f (k+i)) (n-k):=λi j a b=>h _ _ ⋯ ⋯
theorem qw5(h:x∈(a.toList.drop i).take k):∃j,j<k/\i+j<a.size/\x=att a (i+j):=by obtain⟨j,b,e⟩:=List.mem_iff_getElem.mp h;rw[zBa,zCe,zB7] at b;refine⟨j,⋯,⋯,?_⟩;rw[<-e,M',Na];simp[att,Array.getD,show i+j<a.size by lia]
theorem qd3{a:Array Lb}:(a.extract i j).toList=(a.toList.drop i).take (j-i):=by simp[List.take_drop]
section
variable{prog:Kw}{w:Ky}{A:Kx}{E:V'->δ->Prop}{s:δ}{kd:SortKind}{P:Lb->Prop}{lt:Lb->Lb->Bool}{st:Lc}
theorem wgs(b:Od lt)(m:Cm prog w A s kd P lt)(o:Ld st=kd)(p:P key)(x:bs+n<=arr.size)(q:∀i,i<arr.size->P (att arr i))(r:Srt lt (λi=>att arr (bs+i)) n)(t:g<n)(h:∀k,k<=n->(∀i,i<k->B lt l key (att arr (bs+i))=true)->(∀i,k<=i->i<n->B lt l key (att arr (bs+i))=false)->Q (some k) st):wpS (Kv prog w) A E s (gal l key arr bs n g) Q st:=by
 refine wgal (f:=λi=>att arr (bs+i)) m o p (λi u=>qV3 ⋯) (λi u=>q _ ⋯) (λi j a v c=>?_) t h;have d:=r i j a v;cases l with
 |false=>
  have e:lt key (att arr (bs+j))=false:=by simpa[B] using c
  show (!lt key (att arr (bs+i)))=true;rw[b.tr _ _ _ d e];rfl
 |true=>show lt (att arr (bs+i)) key=true;cases e:lt (att arr (bs+i)) key with|true=>rfl|false=>have:=b.tr _ _ _ e d;rw[show lt (att arr (bs+j)) key=true from c] at this;cases this
def R(st a:Lc):Prop:=Ld a=Ld st/\La a=La st/\K7 a=K7 st/\K8 a=K8 st
noncomputable def mlo:Array Lb->Array Lb->StateT Lc Sem (Array Lb):=sortPriv% PySem.Builtin.mergeLo
noncomputable def smg:Nat->StateT Lc Sem Unit:=sortPriv% PySem.Builtin.setMinGallop
theorem qbb9(a b:Array Lb):mlo a b=(do
 rule "list.sort.merge-lo"
 let tt:=a.size+b.size
 let dn (o:Array Lb) (i j:Nat):=o++a.extract i a.size++b.extract j b.size
 let la (o:Array Lb) (i j:Nat):=o++b.extract j b.size++a.extract i a.size
 let mut o:Array Lb:=#[<-elem' b 0]
 let mut i:=0
 let mut j:=1
 if j==b.size then return dn o i j
 if i+1==a.size then return la o i j
 let mut g:=gallopOf (<- get)
 for _ in [0:tt] do
   let mut x:=0
   let mut y:=0
   for _ in [0:tt] do
     let some t<-lt' (<- elem' b j) (<- elem' a i)|return dn o i j
     if t then
       o:=o.push (<- elem' b j);j:=j+1;y:=y+1;x:=0
       if j==b.size then return dn o i j
       if y ≥ g then break
     else
       o:=o.push (<- elem' a i);i:=i+1;x:=x+1;y:=0
       if i+1==a.size then return la o i j
       if x ≥ g then break
   rule "list.sort.gallop"
   g:=g+1
   for _ in [0:tt] do
     if g>1 then g:=g-1
     smg g
     let some k<-gal false (<- elem' b j) a i (a.size-i) 0|return dn o i j
     x:=k
     if k>0 then
       o:=o++a.extract i (i+k);i:=i+k
       if i+1==a.size then return la o i j
       if i==a.size then return dn o i j
     o:=o.push (<- elem' b j);j:=j+1
     if j==b.size then return dn o i j
     let some k<-gal true (<- elem' a i) b j (b.size-j) 0|return dn o i j
     y:=k
     if k>0 then
       o:=o++b.extract j (j+k);j:=j+k
       if j==b.size then return dn o i j
     o:=o.push (<- elem' a i);i:=i+1
     if i+1==a.size then return la o i j
     if x<7&&y<7 then break
   g:=g+1
   smg g
 unsupported "internal:list.sort.merge-bound"):=rfl
def Eq2(lt:Lb->Lb->Bool)(a b o:Array Lb)(i j:Nat):Prop:=o.toList++Lj (a.toList.drop i) (b.toList.drop j) (lee lt)=Lj a.toList b.toList (lee lt)
variable{a b o:Array Lb}{i j k:Nat}
theorem Eq2.done(h:Eq2 lt a b o i j)(c:j=b.size∨i=a.size):(o++a.extract i a.size++b.extract j b.size).toList=Lj a.toList b.toList (lee lt):=by rw[<-h,zB9,zB9,qd3,qd3,zAs];congr 1;rw[zAu (by simp),zAu (by simp)];rcases c with rfl|rfl;{rw[show b.toList.drop b.size=[] by simp,zAg,Nf]};rw[show a.toList.drop a.size=[] by simp,zB8,Nl]
theorem Eq2.last(h:Eq2 lt a b o i j)(hi:i+1=a.size)(d:∀n,n<b.size->lt (att b n) (att a i)=true):(o++b.extract j b.size++a.extract i a.size).toList=Lj a.toList b.toList (lee lt):=by
 rw[<-h,zB9,zB9,qd3,qd3,zAs];congr 1;rw[zAu (by simp),zAu (by simp),Ek (a:=a) (i:=i) ⋯,show a.toList.drop (i+1)=[] from L5 (by simp;lia)];have:=Ju (le:=lee lt) (B2:=[]) (X:=[]) (x:=att a i) (B1:=b.toList.drop j) λx c=>by rw[<-zAu (l:=b.toList.drop j) (zA2 _)] at c;obtain⟨n,_,e,rfl⟩:=qw5 c;simp[d _ e]
 rw[zAg] at this;rw[this];simp
theorem Eq2.pb(h:Eq2 lt a b o i j)(hi:i<a.size)(c:j<b.size)(d:lt (att b j) (att a i)=true):Eq2 lt a b (o.push (att b j)) i (j+1):=by unfold Eq2 at h ⊢;rw[<-h,Array.toList_push,zAs,Ek hi,Ek c,zBd,if_neg (by simp[d])];rfl
theorem Eq2.pa(h:Eq2 lt a b o i j)(hi:i<a.size)(c:j<b.size)(d:lt (att b j) (att a i)=false):Eq2 lt a b (o.push (att a i)) (i+1) j:=by unfold Eq2 at h ⊢;rw[<-h,Array.toList_push,zAs,Ek hi,Ek c,zBd,if_pos (by simp[d])];rfl
theorem Eq2.ga(h:Eq2 lt a b o i j)(c:j<b.size)(d:∀n,n<k->i+n<a.size->lt (att b j) (att a (i+n))=false):Eq2 lt a b (o++a.extract i (i+k)) (i+k) j:=by
 unfold Eq2 at h ⊢;rw[<-h,zB9,qd3,zAs,show i+k-i=k by lia,Ek c];congr 1;conv=>rhs;rw[<-zBl k (a.toList.drop i)]
 rw[Jt (le:=lee lt),Mu];intro x e;obtain⟨n,f,g,rfl⟩:=qw5 e;simp[d n f g]
theorem Eq2.gb(h:Eq2 lt a b o i j)(hi:i<a.size)(c:∀n,n<k->j+n<b.size->lt (att b (j+n)) (att a i)=true):Eq2 lt a b (o++b.extract j (j+k)) i (j+k):=by
 unfold Eq2 at h ⊢;rw[<-h,zB9,qd3,zAs,show j+k-j=k by lia,Ek hi];congr 1;conv=>rhs;rw[<-zBl k (b.toList.drop j)]
 rw[Ju (le:=lee lt),Mu];intro x d;obtain⟨n,e,f,rfl⟩:=qw5 d;simp[c n e f]
section
variable{β:Type}{Q:β->Lc->Prop}
theorem eB{f:Lb->StateT Lc Sem β}(hi:i<a.size)(h:wpS (Kv prog w) A E s (f (att a i)) Q st):wpS (Kv prog w) A E s (elem' a i >>= f) Q st:=K5 (wel (qV3 hi) h)
theorem lB{f:Option Bool->StateT Lc Sem β}(a:Cm prog w A s kd P lt)(b:Ld st=kd)(c:P x)(d:P y)(h:lt x y=true->wpS (Kv prog w) A E s (f (some true)) Q st)(h':lt x y=false->wpS (Kv prog w) A E s (f (some false)) Q st):wpS (Kv prog w) A E s (lt' x y >>= f) Q st:=K5 (wlt a b c d (by cases e:lt x y<;>simp_all))
theorem mB{a:Lc}{f:Unit->StateT Lc Sem β}(c:R a st)(h:∀b,R a b->wpS (Kv prog w) A E s (f ()) Q b):wpS (Kv prog w) A E s (smg g >>= f) Q st:=K5 (K9 (h _ c))
theorem sB{f:Option Nat->StateT Lc Sem β}(e:Od lt)(g:Cm prog w A s kd P lt)(j:Ld st=kd)(m:P key)(n:∀i,i<arr.size->P (att arr i))(o:Srt lt (att arr) arr.size)(p:bs<arr.size)(h:∀k,bs+k<=arr.size->(∀i,i<k->B lt l key (att arr (bs+i))=true)->(bs+k<arr.size->B lt l key (att arr (bs+k))=false)->wpS (Kv prog w) A E s (f (some k)) Q st):wpS (Kv prog w) A E s (gal l key arr bs (arr.size-bs) 0 >>= f) Q st:=K5 (wgs e g j m ⋯ n o.drop ⋯ λk a b c=>h k ⋯ b λd=>c k (zA2 _) ⋯)
end
theorem ltn{y:Nat}(h:¬(x==y)=true)(h':x<=y):x<y:=Nat.lt_of_le_of_ne h' λe=>h (zC1.mpr e)
theorem sa{x i j:Nat}(h:x<=i+j):x+1<=i+1+j:=Nat.succ_add i j ▸ zCc h
theorem la{x i j k:Nat}(h:x<=i+j):x<=i+(j+k):=⋯
theorem lb{x i j k:Nat}(h:x<=i+j):x<=i+k+j:=⋯
theorem nt{b:Bool}(h:(!b)=true):b=false:=by simpa using h
theorem nf{b:Bool}(h:(!b)=false):b=true:=by simpa using h
theorem wmlo(hO:Od lt)(Y:Cm prog w A s kd P lt)(Z:Ld st=kd)(L:∀n,n<a.size->P (att a n))(M:∀n,n<b.size->P (att b n))(a0:Srt lt (att a) a.size)(a1:Srt lt (att b) b.size)(V:0<a.size)(N:0<b.size)(h0:lt (att b 0) (att a 0)=true)(hl:∀n,n<b.size->lt (att b n) (att a (a.size-1))=true)(h:∀r f,R st f->r.toList=Lj a.toList b.toList (lee lt)->Q r f):wpS (Kv prog w) A E s (mlo a b) Q st:=by
 have H:∀i,i+1=a.size->∀n,n<b.size->lt (att b n) (att a i)=true:=λi e n hn=>by rw[Nat.eq_sub_of_add_eq e];exact hl n hn
 have e1:Eq2 lt a b #[att b 0] 0 1:=Eq2.pb (o:=#[]) (i:=0) (j:=0) rfl V N h0;rw[qbb9];refine rB (eB N (wif (λc=>K6 (h _ st ⟨rfl,rfl,rfl,rfl⟩ (e1.done (.inl (eq_of_beq c))))) λc1=>wif (λc=>K6 (h _ st ⟨rfl,rfl,rfl,rfl⟩ (e1.last (eq_of_beq c) (H 0 (eq_of_beq c))))) λc2=>gB ?_));let D (c:Option (Array Lb)):Prop:=∃r,c=some r/\r.toList=Lj a.toList b.toList (lee lt)
 let G (n:Nat) (o:Array Lb) (i j:Nat):Prop:=Eq2 lt a b o i j/\i+1<a.size/\j<b.size/\n<=i+j;refine fB (λx c f=>R st f/\c.1=none/\G (x+1) c.2.1 c.2.2.1 c.2.2.2.1) (λc f=>R st f/\D c.1) ?_ ?_ ⟨⟨rfl,rfl,rfl,rfl⟩,rfl,e1,ltn c2 V,ltn c1 N,zA2 _⟩ ?_
 .rintro F z x ⟨_,o,i,j,g⟩ O-hx ⟨W,rfl,g1,g2,g3,g4⟩ K p n;subst z;refine fB (λy c f=>R st f/\c.1=none/\G (x+1+y) c.2.1 c.2.2.1 c.2.2.2.1) (λc f=>R st f/\(D c.1∨c.1=none/\G (x+2) c.2.1 c.2.2.1 c.2.2.2.1)) ?_ ?_ ⟨W,rfl,g1,g2,g3,g4⟩ ?_;{rintro F z y ⟨_,o,i,j,_,_⟩ S-hy ⟨m,rfl,v,t,l,B⟩ K p n;subst z;have I:=zCj t;have k6:=zAn (zBq (x+1) y) B;refine eB l (eB I (lB Y (m.1.trans Z) (M _ l) (L _ I) (λhb=>?_) λhb=>?_));{have e2:=v.pb I l hb;exact eB l (wif (λc=>K6 (p _ _ ⟨m,.inl ⟨_,rfl,e2.done (.inl (eq_of_beq c))⟩⟩)) λc=>wif (λ_=>K6 (p _ _ ⟨m,.inr ⟨rfl,e2,t,ltn c l,zCc k6⟩⟩)) λ_=>K6 (n _ _ ⟨m,rfl,e2,t,ltn c l,zCc B⟩))};have e2:=v.pa I l hb;exact eB I (wif (λc=>K6 (p _ _ ⟨m,.inl ⟨_,rfl,e2.last (eq_of_beq c) (H _ (eq_of_beq c))⟩⟩)) λc=>wif (λ_=>K6 (p _ _ ⟨m,.inr ⟨rfl,e2,ltn c t,l,sa k6⟩⟩)) λ_=>K6 (n _ _ ⟨m,rfl,e2,ltn c t,l,sa B⟩))};{rintro c S ⟨m,k0,v,t,l,B⟩;exact⟨m,.inr ⟨k0,v,t,l,⋯⟩⟩};rintro F z ⟨c,c'⟩ S ⟨m,⟨r,rfl,e⟩|⟨e,v,t,l,B⟩⟩;{subst z;exact K6 (p _ _ ⟨m,r,rfl,e⟩)};cases e;subst z;refine rB (fB (λy c f=>R st f/\c.1=none/\G (x+2) c.2.1 c.2.2.1 c.2.2.2.1) (λc f=>R st f/\(D c.1∨c.1=none/\G (x+2) c.2.1 c.2.2.1 c.2.2.2.1)) ?_ ?_ ⟨m,rfl,v,t,l,B⟩ ?_)
  .rintro F z y ⟨_,o,i,j,g,_,_⟩ a2-hy ⟨r3,rfl,v,t,l,B⟩ K p n;subst z;have I:=zCj t;dsimp -zeta only;extract_lets +onlyGivenNames _ _ _ _ _ _ _ _ _ _ _ _ J;suffices u:∀g,wpS (Kv prog w) A E s (J () g) K a2 from wif (λ_=>u _) λ_=>u _
   intro g;dsimp +zetaDelta -zeta only;refine mB r3 λT C=>eB l (sB hO Y (C.1.trans Z) (M _ l) L a0 I λk q1 q2 q3=>?_);dsimp -zeta only;extract_lets +onlyGivenNames _ J;have ea:=v.ga (k:=k) l λn h1 _=>nt (q2 n h1);suffices u:∀o i,Eq2 lt a b o i j->i+1<a.size->x+2<=i+j->lt (att b j) (att a i)=true->wpS (Kv prog w) A E s (J () o i) K T from wif (λc=>wif (λd=>K6 (p _ _ ⟨C,.inl ⟨_,rfl,ea.last (eq_of_beq d) (H _ (eq_of_beq d))⟩⟩)) λd=>wif (λX=>K6 (p _ _ ⟨C,.inl ⟨_,rfl,ea.done (.inr (eq_of_beq X))⟩⟩)) λX=>u _ _ ea (ltn d (ltn X q1)) (lb B) (nf (q3 (ltn X q1)))) λc=>by obtain rfl:=Nat.eq_zero_of_not_pos c;exact u _ _ v t B (nf (q3 I))
   intro o i e z1 zb z;dsimp +zetaDelta -zeta only;have U:=zCj z1;have e2:=e.pb U l z;refine eB l (wif (λd=>K6 (p _ _ ⟨C,.inl ⟨_,rfl,e2.done (.inl (eq_of_beq d))⟩⟩)) λd=>?_);have z2:=ltn d l;refine eB U (sB hO Y (C.1.trans Z) (L _ U) M a1 z2 λq p1 p2 p3=>?_);dsimp -zeta only;extract_lets +onlyGivenNames _ _ J;have eb:=e2.gb (k:=q) U λn h1 h2=>p2 n h1;suffices u:∀o j,Eq2 lt a b o i j->j<b.size->x+2<=i+j->lt (att b j) (att a i)=false->wpS (Kv prog w) A E s (J () o j) K T from wif (λc=>wif (λd=>K6 (p _ _ ⟨C,.inl ⟨_,rfl,eb.done (.inl (eq_of_beq d))⟩⟩)) λd=>u _ _ eb (ltn d p1) (la (la zb)) (p3 (ltn d p1))) λc=>by obtain rfl:=Nat.eq_zero_of_not_pos c;exact u _ _ e2 z2 (la zb) (p3 z2)
   intro o j e3 z3 zc z4;have z5:=e3.pa U z3 z4;refine eB U (wif (λd=>K6 (p _ _ ⟨C,.inl ⟨_,rfl,z5.last (eq_of_beq d) (H _ (eq_of_beq d))⟩⟩)) λd=>?_);exact wif (λ_=>K6 (p _ _ ⟨C,.inr ⟨rfl,z5,ltn d z1,z3,lb zc⟩⟩)) λ_=>K6 (n _ _ ⟨C,rfl,z5,ltn d z1,z3,lb zc⟩)
  {exact λ_ _ z=>⟨z.1,.inr z.2⟩};rintro F z ⟨c,c'⟩ S ⟨m,⟨r,rfl,e⟩|⟨e,v,t,l,B⟩⟩<;>subst z;{exact K6 (p _ _ ⟨m,r,rfl,e⟩)};cases e;exact mB m λT C=>K6 (n _ _ ⟨C,rfl,v,t,l,B⟩)
 {rintro c O ⟨W,_,g1,g2,g3,g4⟩;lia};rintro F z ⟨c,c'⟩ O ⟨W,r,rfl,e⟩;subst z;exact K6 (h r O W e)
end
section
variable{prog:Kw}{w:Ky}{A:Kx}{E:V'->δ->Prop}{s:δ}{kd:SortKind}{P:Lb->Prop}{lt:Lb->Lb->Bool}{st:Lc}
noncomputable def mhi:Array Lb->Array Lb->StateT Lc Sem (Array Lb):=sortPriv% PySem.Builtin.mergeHi
theorem qbc0(a b:Array Lb):mhi a b=(do
 rule "list.sort.merge-hi"
 let tt:=a.size+b.size
 let dn (o:Array Lb) (i j:Nat):=a.extract 0 i++b.extract 0 j++o.reverse
 let fb (o:Array Lb) (i j:Nat):=b.extract 0 j++a.extract 0 i++o.reverse
 let mut i:=a.size-1
 let mut j:=b.size
 let mut o:Array Lb:=#[<-elem' a i]
 if i==0 then return dn o i j
 if j==1 then return fb o i j
 let mut g:=gallopOf (<- get)
 for _ in [0:tt] do
   let mut x:=0
   let mut y:=0
   for _ in [0:tt] do
     let some t<-lt' (<- elem' b (j-1)) (<- elem' a (i-1))|return dn o i j
     if t then
       i:=i-1;o:=o.push (<- elem' a i);x:=x+1;y:=0
       if i==0 then return dn o i j
       if x ≥ g then break
     else
       j:=j-1;o:=o.push (<- elem' b j);y:=y+1;x:=0
       if j==1 then return fb o i j
       if y ≥ g then break
   rule "list.sort.gallop"
   g:=g+1
   for _ in [0:tt] do
     if g>1 then g:=g-1
     smg g
     let some q<-gal false (<- elem' b (j-1)) a 0 i (i-1)|return dn o i j
     let k:=i-q
     x:=k
     if k>0 then
       o:=o++(a.extract q i).reverse;i:=q
       if i==0 then return dn o i j
     j:=j-1;o:=o.push (<- elem' b j)
     if j==1 then return fb o i j
     let some q<-gal true (<- elem' a (i-1)) b 0 j (j-1)|return dn o i j
     let k:=j-q
     y:=k
     if k>0 then
       o:=o++(b.extract q j).reverse;j:=q
       if j==1 then return fb o i j
       if j==0 then return dn o i j
     i:=i-1;o:=o.push (<- elem' a i)
     if i==0 then return dn o i j
     if x<7&&y<7 then break
   g:=g+1
   smg g
 unsupported "internal:list.sort.merge-bound"):=rfl
def Eq3(lt:Lb->Lb->Bool)(a b o:Array Lb)(i j:Nat):Prop:=Lj (a.toList.take i) (b.toList.take j) (lee lt)++o.toList.reverse=Lj a.toList b.toList (lee lt)
variable{a b o:Array Lb}{i j k:Nat}
theorem Jv{a:Array Lb}{k:Nat}{x:Lb}(h:x∈a.toList.take k):∃j,j<k/\j<a.size/\x=att a j:=by obtain⟨j,b,c,e⟩:=qw5 (i:=0) (k:=k) (by simpa using h);exact⟨j,b,⋯,by rw[e,zAe]⟩
theorem qaf2{a:Array Lb}{i:Nat}(h:q<=i):a.toList.take i=a.toList.take q++(a.extract q i).toList:=by rw[qd3];conv=>lhs;rw[show i=q+(i-q) by lia,Np]
theorem ext1{a:Array Lb}{i:Nat}(h:0<i)(hi:i<=a.size):(a.extract (i-1) i).toList=[att a (i-1)]:=by rw[qd3,Ek ⋯,show i-(i-1)=1 by lia];rfl
theorem Eq3.done(h:Eq3 lt a b o i j)(c:i=0∨j=0):(a.extract 0 i++b.extract 0 j++o.reverse).toList=Lj a.toList b.toList (lee lt):=by rw[<-h,zB9,zB9,qd3,qd3,Array.toList_reverse];congr 1;rcases c with rfl|rfl;{simp};simp
theorem Eq3.first(h:Eq3 lt a b o i j)(c:j=1)(k:0<b.size)(d:∀n,n<a.size->lt (att b 0) (att a n)=true):(b.extract 0 j++a.extract 0 i++o.reverse).toList=Lj a.toList b.toList (lee lt):=by
 rw[<-h,zB9,zB9,qd3,qd3,Array.toList_reverse];congr 1;subst c;have:=mg_r (le:=lee lt) (B2:=[]) (B1:=b.toList.take 1) (X:=a.toList.take i) λy e x f=>by obtain⟨n,_,g,rfl⟩:=Jv f;obtain⟨m,l,p,rfl⟩:=Jv e;obtain rfl:m=0:=⋯;simp[d _ g]
 rw[zAg] at this;rw[this];simp
theorem Eq3.ga(h:Eq3 lt a b o i j)(f:Od lt)(c:Srt lt (att b) b.size)(g:q<=i)(s:0<j)(k:j<=b.size)(l:∀n,q<=n->n<i->n<a.size->lt (att b (j-1)) (att a n)=true):Eq3 lt a b (o++(a.extract q i).reverse) q j:=by unfold Eq3 at h ⊢;rw[<-h,qaf2 g,Js (le:=lee lt)];{simp};intro x d y p;rw[qd3] at d;obtain⟨n,t,r,rfl⟩:=qw5 d;obtain⟨m,u,v,rfl⟩:=Jv p;have e:=l (q+n) ⋯ ⋯ r;show (!lt (att b m) (att a (q+n)))=false;cases e2:lt (att b m) (att a (q+n)) with|true=>rfl|false=>rw[f.tr _ _ _ e2 (c m (j-1) ⋯ ⋯)] at e;cases e
theorem Eq3.gb(h:Eq3 lt a b o i j)(f:Od lt)(c:Srt lt (att a) a.size)(g:q<=j)(hi:0<i)(k:i<=a.size)(l:∀n,q<=n->n<j->n<b.size->lt (att b n) (att a (i-1))=false):Eq3 lt a b (o++(b.extract q j).reverse) i q:=by unfold Eq3 at h ⊢;rw[<-h,qaf2 g,Ho (le:=lee lt)];{simp};intro y d x p;rw[qd3] at d;obtain⟨n,s,r,rfl⟩:=qw5 d;obtain⟨m,t,u,rfl⟩:=Jv p;have e:=l (q+n) ⋯ ⋯ r;show (!lt (att b (q+n)) (att a m))=true;rw[f.tr _ _ _ (c m (i-1) ⋯ ⋯) e];rfl
theorem Eq3.pa(h:Eq3 lt a b o i j)(f:Od lt)(c:Srt lt (att b) b.size)(hi:0<i)(d:i<=a.size)(g:0<j)(e:j<=b.size)(k:lt (att b (j-1)) (att a (i-1))=true):Eq3 lt a b (o.push (att a (i-1))) (i-1) j:=by
 have:=h.ga f c (q:=i-1) ⋯ g e λn l m _=>by rw[show n=i-1 by lia];exact k
 rwa[show o++(a.extract (i-1) i).reverse=o.push (att a (i-1)) from Array.toList_inj.mp (by rw[zB9,Array.toList_reverse,ext1 hi d,Array.toList_push];rfl)] at this
theorem Eq3.pb(h:Eq3 lt a b o i j)(f:Od lt)(c:Srt lt (att a) a.size)(hi:0<i)(d:i<=a.size)(g:0<j)(e:j<=b.size)(k:lt (att b (j-1)) (att a (i-1))=false):Eq3 lt a b (o.push (att b (j-1))) i (j-1):=by
 have:=h.gb f c (q:=j-1) ⋯ hi d λn l m _=>by rw[show n=j-1 by lia];exact k
 rwa[show o++(b.extract (j-1) j).reverse=o.push (att b (j-1)) from Array.toList_inj.mp (by rw[zB9,Array.toList_reverse,ext1 g e,Array.toList_push];rfl)] at this
theorem pz(h:¬(x==0)=true):0<x:=Nat.pos_of_ne_zero λe=>h (zC1.mpr e)
theorem p1(h:¬(x==1)=true)(h':0<x):1<x:=Nat.lt_of_le_of_ne h' λe=>h (zC1.mpr e.symm)
theorem dy{x y i j:Nat}(h:x+y+i+j<=N):x+i+j<=N:=⋯
theorem lc{x i j:Nat}(h:x+i+j<=N)(h':q<=i):x+q+j<=N:=⋯
theorem ld{x i j:Nat}(h:x+i+j<=N)(h':q<=j):x+i+q<=N:=⋯
theorem mw{x i j:Nat}(h:x+i+j<=N)(h':0<i):x+1+(i-1)+j<=N:=⋯
theorem mv{x i j:Nat}(h:x+i+j<=N)(h':0<j):x+1+i+(j-1)<=N:=⋯
theorem sH{β:Type}{Q:β->Lc->Prop}{n:Nat}{f:Option Nat->StateT Lc Sem β}(e:Od lt)(g:Cm prog w A s kd P lt)(m:Ld st=kd)(o:P key)(p:∀i,i<arr.size->P (att arr i))(r:Srt lt (att arr) arr.size)(t:0<n)(u:n<=arr.size)(h:∀q,q<=n->(0<q->B lt l key (att arr (q-1))=true)->(∀i,q<=i->i<n->B lt l key (att arr i)=false)->wpS (Kv prog w) A E s (f (some q)) Q st):wpS (Kv prog w) A E s (gal l key arr 0 n (n-1) >>= f) Q st:=K5 (wgs e g m o ⋯ p (λi j a b=>r _ _ ⋯ ⋯) ⋯ λk a b c=>h k a (λd=>zAe (k-1) ▸ b _ (Nat.sub_one_lt_of_lt d)) λi x y=>zAe i ▸ c i x y)
theorem wmhi(S:Od lt)(hC:Cm prog w A s kd P lt)(hk:Ld st=kd)(W:∀n,n<a.size->P (att a n))(X:∀n,n<b.size->P (att b n))(T:Srt lt (att a) a.size)(L:Srt lt (att b) b.size)(Y:0<a.size)(B:0<b.size)(h0:∀n,n<a.size->lt (att b 0) (att a n)=true)(hl:lt (att b (b.size-1)) (att a (a.size-1))=true)(h:∀r f,R st f->r.toList=Lj a.toList b.toList (lee lt)->Q r f):wpS (Kv prog w) A E s (mhi a b) Q st:=by
 have e1:Eq3 lt a b #[att a (a.size-1)] (a.size-1) b.size:=Eq3.pa (o:=#[]) (i:=a.size) (j:=b.size) (by unfold Eq3;rw[show a.toList.take a.size=a.toList from zAu (Nat.le_of_eq zB7),show b.toList.take b.size=b.toList from zAu (Nat.le_of_eq zB7)];simp) S L Y (zA2 _) B (zA2 _) hl;rw[qbc0];refine rB (eB (Nat.sub_one_lt_of_lt Y) (wif (λc=>K6 (h _ st ⟨rfl,rfl,rfl,rfl⟩ (e1.done (.inl (eq_of_beq c))))) λc1=>wif (λc=>K6 (h _ st ⟨rfl,rfl,rfl,rfl⟩ (e1.first (eq_of_beq c) B h0))) λc2=>gB ?_));let D (c:Option (Array Lb)):Prop:=∃r,c=some r/\r.toList=Lj a.toList b.toList (lee lt)
 let G (n:Nat) (o:Array Lb) (i j:Nat):Prop:=Eq3 lt a b o i j/\0<i/\i<=a.size/\1<j/\j<=b.size/\n+i+j<=a.size+b.size;refine fB (λx c f=>R st f/\c.1=none/\G (x+1) c.2.2.2.1 c.2.1 c.2.2.1) (λc f=>R st f/\D c.1) ?_ ?_ ⟨⟨rfl,rfl,rfl,rfl⟩,rfl,e1,pz c1,zCn _ _,p1 c2 B,zA2 _,mw (x:=0) ⋯ Y⟩ ?_
 .rintro F z x ⟨_,i,j,o,g⟩ Z-hx ⟨r1,rfl,g1,g2,g3,g4,g5,g6⟩ K p n;subst z;refine fB (λy c f=>R st f/\c.1=none/\G (x+1+y) c.2.2.2.1 c.2.1 c.2.2.1) (λc f=>R st f/\(D c.1∨c.1=none/\G (x+2) c.2.2.2.1 c.2.1 c.2.2.1)) ?_ ?_ ⟨r1,rfl,g1,g2,g3,g4,g5,g6⟩ ?_;{rintro F z y ⟨_,i,j,o,_,_⟩ a0-hy ⟨l,rfl,M,k,m,C,v,H⟩ K p n;subst z;have U:=zCj C;have N:=Nat.sub_one_lt_of_le k m;have I:=Nat.sub_one_lt_of_le U v;refine eB I (eB N (lB hC (l.1.trans hk) (X _ I) (W _ N) (λhb=>?_) λhb=>?_));{have e2:=M.pa S L k m U v hb;exact eB N (wif (λc=>K6 (p _ _ ⟨l,.inl ⟨_,rfl,e2.done (.inl (eq_of_beq c))⟩⟩)) λc=>wif (λ_=>K6 (p _ _ ⟨l,.inr ⟨rfl,e2,pz c,zBi N,C,v,mw (dy H) k⟩⟩)) λ_=>K6 (n _ _ ⟨l,rfl,e2,pz c,zBi N,C,v,mw H k⟩))};have e2:=M.pb S T k m U v hb;have y0:=Nat.sub_pos_of_lt C;exact eB I (wif (λc=>K6 (p _ _ ⟨l,.inl ⟨_,rfl,e2.first (eq_of_beq c) B h0⟩⟩)) λc=>wif (λ_=>K6 (p _ _ ⟨l,.inr ⟨rfl,e2,k,m,p1 c y0,zBi I,mv (dy H) U⟩⟩)) λ_=>K6 (n _ _ ⟨l,rfl,e2,k,m,p1 c y0,zBi I,mv H U⟩))};{rintro c a0 ⟨l,k0,M,k,m,C,v,H⟩;exact⟨l,.inr ⟨k0,M,k,m,C,v,⋯⟩⟩};rintro F z ⟨c,c'⟩ a0 ⟨l,⟨r,rfl,e⟩|⟨e,M,k,m,C,v,H⟩⟩;{subst z;exact K6 (p _ _ ⟨l,r,rfl,e⟩)};cases e;subst z;refine rB (fB (λy c f=>R st f/\c.1=none/\G (x+2) c.2.2.2.1 c.2.1 c.2.2.1) (λc f=>R st f/\(D c.1∨c.1=none/\G (x+2) c.2.2.2.1 c.2.1 c.2.2.1)) ?_ ?_ ⟨l,rfl,M,k,m,C,v,H⟩ ?_)
  .rintro F z y ⟨_,i,j,o,g,_,_⟩ a2-hy ⟨r3,rfl,M,k,m,C,v,H⟩ K p n;subst z;have U:=zCj C;have I:=Nat.sub_one_lt_of_le U v;have y0:=Nat.sub_pos_of_lt C;dsimp -zeta only;extract_lets +onlyGivenNames _ _ _ _ _ _ _ _ _ _ _ _ J;suffices u:∀g,wpS (Kv prog w) A E s (J () g) K a2 from wif (λ_=>u _) λ_=>u _
   intro g;dsimp +zetaDelta -zeta only;refine mB r3 λa1 O=>eB I (sH S hC (O.1.trans hk) (X _ I) W T k m λq V q2 q3=>?_);dsimp -zeta only;extract_lets +onlyGivenNames _ _ J;have ea:=M.ga S L V U v λn h1 h2 _=>nf (q3 n h1 h2);suffices u:∀i o,Eq3 lt a b o i j->0<i->i<=a.size->x+2+i+j<=a.size+b.size->lt (att b (j-1)) (att a (i-1))=false->wpS (Kv prog w) A E s (J () i o) K a1 from wif (λc=>wif (λd=>K6 (p _ _ ⟨O,.inl ⟨_,rfl,ea.done (.inl (eq_of_beq d))⟩⟩)) λd=>u _ _ ea (pz d) (zAn V m) (lc H V) (nt (q2 (pz d)))) λc=>by obtain rfl:=Nat.le_antisymm V (Nat.le_of_sub_eq_zero (Nat.eq_zero_of_not_pos c));exact u _ _ M k m H (nt (q2 k))
   intro i o e z1 z2 zb z;dsimp +zetaDelta -zeta only;have N:=Nat.sub_one_lt_of_le z1 z2;have e2:=e.pb S T z1 z2 U v z;refine eB I (wif (λd=>K6 (p _ _ ⟨O,.inl ⟨_,rfl,e2.first (eq_of_beq d) B h0⟩⟩)) λd=>?_);refine eB N (sH S hC (O.1.trans hk) (W _ N) X L y0 (zBi I) λq V q2 q3=>?_);dsimp -zeta only;extract_lets +onlyGivenNames _ _ _ J;have eb:=e2.gb S T V z1 z2 λn h1 h2 _=>q3 n h1 h2;suffices u:∀j o,Eq3 lt a b o i j->1<j->j<=b.size->x+2+i+j<=a.size+b.size->lt (att b (j-1)) (att a (i-1))=true->wpS (Kv prog w) A E s (J () j o) K a1 from wif (λc=>wif (λd=>K6 (p _ _ ⟨O,.inl ⟨_,rfl,eb.first (eq_of_beq d) B h0⟩⟩)) λd=>wif (λt=>K6 (p _ _ ⟨O,.inl ⟨_,rfl,eb.done (.inr (eq_of_beq t))⟩⟩)) λt=>u _ _ eb (p1 d (pz t)) (zAn V (zBi I)) (ld (ld zb (zCn _ 1)) V) (q2 (pz t))) λc=>by obtain rfl:=Nat.le_antisymm V (Nat.le_of_sub_eq_zero (Nat.eq_zero_of_not_pos c));exact u _ _ e2 (p1 d y0) (zBi I) (ld zb (zCn _ 1)) (q2 y0)
   intro j o e3 y1 y2 y5 y4;have e4:=e3.pa S L z1 z2 (zCj y1) y2 y4;exact eB N (wif (λd=>K6 (p _ _ ⟨O,.inl ⟨_,rfl,e4.done (.inl (eq_of_beq d))⟩⟩)) λd=>wif (λ_=>K6 (p _ _ ⟨O,.inr ⟨rfl,e4,pz d,zBi N,y1,y2,lc y5 (zCn _ 1)⟩⟩)) λ_=>K6 (n _ _ ⟨O,rfl,e4,pz d,zBi N,y1,y2,lc y5 (zCn _ 1)⟩))
  {exact λ_ _ z=>⟨z.1,.inr z.2⟩};rintro F z ⟨c,c'⟩ a0 ⟨l,⟨r,rfl,e⟩|⟨e,M,k,m,C,v,H⟩⟩<;>subst z;{exact K6 (p _ _ ⟨l,r,rfl,e⟩)};cases e;exact mB l λa1 O=>K6 (n _ _ ⟨O,rfl,M,k,m,C,v,H⟩)
 {rintro c Z ⟨r1,_,g1,g2,g3,g4,g5,g6⟩;lia};rintro F z ⟨c,c'⟩ Z ⟨r1,r,rfl,e⟩;subst z;exact K6 (h r Z r1 e)
end
theorem qo3(h:xs[i]?=ys[j]?):att xs i=att ys j:=by
 have e:∀(a:Array Lb) k,att a k=(a[k]?).getD (Nw,Nw):=λa k=>by simp[att,Array.getD_eq_getD_getElem?]
 rw[e,e,h]
theorem qap8(a:src<xs.size)(b:d<=src)(k:Nat):att (bubble xs src d) k=if k=src-d then att xs src else if src-d<k/\k<=src then att xs (k-1) else att xs k:=by have e:=getElem?_bubble a d b k;split at e;{rw[if_pos (by assumption)];exact qo3 e};rw[if_neg (by assumption)];split at e;{rw[if_pos (by assumption)];exact qo3 e};rw[if_neg (by assumption)];exact qo3 e
theorem qap7(a:j<=xs.size)(k:Nat):att (mirror xs i j ((j-i)/2)) k=if i<=k/\k<j then att xs (i+j-1-k) else att xs k:=by have e:=getElem?_mirror_all (i:=i) a k;split at e;{rw[if_pos (by assumption)];exact qo3 e};rw[if_neg (by assumption)];exact qo3 e
theorem qaC1(h:i<a.size):att a i∈a.toList:=by simp[att,Array.getD,h]
theorem Srt.more(h:Srt lt f x)(d:Od lt)(e:0<x->lt (f x) (f (x-1))=false):Srt lt f (x+1):=λi j a b=>by
 by_cases c:j<x
 .exact h i j a c
 obtain rfl:j=x:=⋯
 by_cases q:i=j
 .rw[q];exact d.ir _
 exact d.tr _ _ _ (h i (j-1) ⋯ ⋯) (e ⋯)
structure Bt(a0:Array Lb)(lo:Nat)(st st':Lc):Prop where
 kd:Ld st'=Ld st
 fl:K8 st'=K8 st
 pd:K7 st'=K7 st
 pm:(La st').Perm a0
 pr:∀i,i<lo->att (La st') i=att (La st) i
section
variable{prog:Kw}{w:Ky}{A:Kx}{E:V'->δ->Prop}{s:δ}{kd:SortKind}{lt:Lb->Lb->Bool}{st X:Lc}{Z:Array Lb}{Y:Nat}
theorem Bt.sz(h:Bt Z Y st X):(La X).size=Z.size:=h.pm.size_eq
theorem Bt.mem(h:Bt Z Y st X)(hi:i<Z.size):att (La X) i∈Z.toList:=(zBr.mp h.pm).mem_iff.mp (qaC1 (by rw[h.sz];exact hi))
theorem Bt.set(h:Bt Z Y st X)(b:xs.Perm (La X))(c:∀i,i<Y->att xs i=att (La X) i):Bt Z Y st (Lf X xs):=⟨h.kd,h.fl,h.pd,b.trans h.pm,λi a=>(c i a).trans (h.pr i a)⟩
abbrev Cn(prog:Kw)(w:Ky)(A:Kx)(s:δ)(kd:SortKind)(Z:Array Lb)(lt:Lb->Lb->Bool):Prop:=Cm prog w A s kd (λx=>x∈Z.toList) lt
theorem aB{β:Type}{i j:Nat}{Q:β->Lc->Prop}{f:Option Bool->StateT Lc Sem β}(b:Cn prog w A s kd Z lt)(c:Ld st=kd)(h:Bt Z Y st X)(hi:i<Z.size)(a:j<Z.size)(h':lt (att (La X) i) (att (La X) j)=true->wpS (Kv prog w) A E s (f (some true)) Q X)(d:lt (att (La X) i) (att (La X) j)=false->wpS (Kv prog w) A E s (f (some false)) Q X):wpS (Kv prog w) A E s (ltAt' i j >>= f) Q X:=by refine K5 ?_;rw[ltAt'_eq];refine gB (eB (by rw[h.sz];exact hi) (eB (by rw[h.sz];exact a) (wlt b (h.kd.trans c) (h.mem hi) (h.mem a) ?_)));cases e:lt (att (La X) i) (att (La X) j) with|true=>exact h' e|false=>exact d e
theorem wmv(h:Q () (Lf X (bubble (La X) p (p-q)))):wpS (Kv prog w) A E s (moveDown' p q) Q X:=by rw[moveDown'_eq];exact K9 h
theorem qaW8(h:p<xs.size)(a:q<=p)(hi:i<q):att (bubble xs p (p-q)) i=att xs i:=by rw[qap8 h (zCn _ _),Nat.sub_sub_self a,if_neg (zAt hi),if_neg λc=>Nat.lt_asymm hi c.1]
theorem qbf4(h:p<xs.size)(a:q<=p):att (bubble xs p (p-q)) q=att xs p:=by rw[qap8 h (zCn _ _),Nat.sub_sub_self a,if_pos rfl]
theorem qbf3(h:p<xs.size)(a:q<=p)(h1:q<=i)(h2:i<p):att (bubble xs p (p-q)) (i+1)=att xs i:=by rw[qap8 h (zCn _ _),Nat.sub_sub_self a,if_neg (Nat.ne_of_gt (Nat.lt_succ_of_le h1)),if_pos ⟨Nat.lt_succ_of_le h1,h2⟩,Nat.add_sub_cancel]
theorem qaN0{F:Nat->Lb}{l:Nat}(e:Od lt)(c:l<=k)(s2:∀i j,i<=j->j<k->lt (f j) (f i)=false)(g:∀i,i<l->lt x (f i)=false)(n:∀i,l<=i->i<k->lt (f i) x=false)(h1:∀i,i<l->F i=f i)(h2:F l=x)(d:∀i,l<=i->i<k->F (i+1)=f i)(i j:Nat)(a:i<=j)(o:j<k+1):lt (F j) (F i)=false:=by rcases Nat.lt_trichotomy j l with h|h|h;{rw[h1 j h,h1 i (zCg a h)];exact s2 i j a (zAm h c)};{subst h;rw[h2];rcases Nat.lt_or_eq_of_le a with q|rfl;{rw[h1 i q];exact g i q};rw[h2];exact e.ir _};cases j with|zero=>exact absurd h (zBw _)|succ m=>have b:=Nat.lt_of_succ_lt_succ o;rw[d m (zC5 h) b];rcases Nat.lt_trichotomy i l with q|q|q;{rw[h1 i q];exact s2 i m (zAn (zBi q) (zC5 h)) b};{subst q;rw[h2];exact n m (zC5 h) b};cases i with|zero=>exact absurd q (zBw _)|succ p=>rw[d p (zC5 q) (zCg (Nat.le_of_succ_le_succ a) b)];exact s2 p m (Nat.le_of_succ_le_succ a) b
theorem wbin(D:Od lt)(J:Cn prog w A s kd Z lt)(L:Ld st=kd)(V:Y+n<=Z.size)(M:C<=n)(h1:1<=C)(N:Bt Z Y st X)(O:Srt lt (λi=>att (La X) (Y+i)) C)(h:∀e,Bt Z Y st e->Srt lt (λi=>att (La e) (Y+i)) n->Q true e):wpS (Kv prog w) A E s (binarySort' Y n C) Q X:=by
 rw[binarySort'_eq];refine fB (λk c e=>c=(none,())/\Bt Z Y st e/\Srt lt (λi=>att (La e) (Y+i)) (min k n)) (λc e=>c=(none,())/\Bt Z Y st e/\Srt lt (λi=>att (La e) (Y+i)) n) ?_ ?_ ⟨rfl,N,λi j a b=>O i j a ⋯⟩ ?_
 .rintro F z k c f P R ⟨rfl,m,g⟩ K p q;subst z;rw[show min k n=k by lia] at g;refine fB (λx c e=>e=f/\∃l r,c=(none,l,r)/\l<=r/\r<=k/\r-l<=k-x/\(∀i,i<l->lt (att (La f) (Y+k)) (att (La f) (Y+i))=false)/\(∀i,r<=i->i<k->lt (att (La f) (Y+i)) (att (La f) (Y+k))=false)) (λc e=>e=f/\∃l,c=(none,l,l)/\l<=k/\(∀i,i<l->lt (att (La f) (Y+k)) (att (La f) (Y+i))=false)/\(∀i,l<=i->i<k->lt (att (La f) (Y+i)) (att (La f) (Y+k))=false)) ?_ ?_ ⟨rfl,0,k,rfl,⋯,⋯,⋯,λi t=>⋯,λi h1 I=>⋯⟩ ?_;{rintro F z x c o-W ⟨rfl,l,r,rfl,S,u,T,v,B⟩ K p q;subst z;dsimp only;refine wif (λd=>?_) λd=>?_;{obtain rfl:l=r:=⋯;exact K6 (p _ _ ⟨rfl,l,rfl,u,v,B⟩)};exact aB J L m ⋯ ⋯ (λG=>K6 (q _ _ ⟨rfl,l,_,rfl,⋯,⋯,⋯,v,λi h1 I=>D.tr _ _ _ (D.as _ _ G) (g _ _ h1 I)⟩)) λG=>K6 (q _ _ ⟨rfl,_,r,rfl,⋯,⋯,⋯,λi h1=>D.tr _ _ _ (g i _ ⋯ ⋯) G,B⟩)};{rintro c o ⟨rfl,l,r,rfl,S,u,T,v,B⟩;obtain rfl:l=r:=⋯;exact⟨rfl,l,rfl,u,v,B⟩};rintro F z c o ⟨rfl,l,rfl,u,v,B⟩;subst z;dsimp only;have z:Y+k<(La o).size:=by rw[m.sz];lia
  have y:=Nat.add_le_add_left u Y;refine K5 (wmv (K6 (q _ _ ⟨rfl,m.set (bubble_perm _ _ _) λi t=>?_,?_⟩)));{exact qaW8 z y (zAm t (zBq _ _))};rw[show min (k+1) n=k+1 by lia];exact qaN0 D u g v B (λi t=>qaW8 z y (Nat.add_lt_add_left t Y)) (qbf4 z y) λi t H=>qbf3 z y (Nat.add_le_add_left t Y) (Nat.add_lt_add_left H Y)
 {rintro c f ⟨U,m,g⟩;rw[show min (max (max C 1) n) n=n by lia] at g;exact⟨U,m,g⟩};rintro F z c f ⟨rfl,m,g⟩;subst z;exact K6 (h f m g)
def Ds(lt:Lb->Lb->Bool)(Z:Array Lb):Prop:=Z.toList.Pairwise λx y=>lt x y=true∨lt y x=true
theorem Ds.at(h:Ds lt Z)(b:Bt Z Y st X)(c:i≠j)(hi:i<Z.size)(n:j<Z.size)(e:lt (att (La X) i) (att (La X) j)=false):lt (att (La X) j) (att (La X) i)=true:=by have d:(La X).toList.Pairwise λx y=>lt x y=true∨lt y x=true:=((zBr.mp b.pm).pairwise_iff λh=>h.symm).mpr h;rw[Mj] at d;have g:∀k,k<Z.size->∃a,(La X).toList[k]'a=att (La X) k:=λk a=>⟨by rw[zB7,b.sz];exact a,by simp[att,Array.getD,show k<(La X).size by rw[b.sz];exact a]⟩;obtain⟨f,l⟩:=g i hi;obtain⟨m,e2⟩:=g j n;rcases Nat.lt_or_gt_of_ne c with q|q;{have:=d i j f m q;rw[l,e2,e] at this;simpa using this};have:=d j i m f q;rw[l,e2,e] at this;simpa using this
theorem wcnt(v:Od lt)(D:Cn prog w A s kd Z lt)(M:Ds lt Z)(G:Ld st=kd)(T:Y+m<=Z.size)(h1:1<=m)(r:Bt Z Y st X)(h:∀n f,Bt Z Y st f->1<=n->n<=m->Srt lt (λi=>att (La f) (Y+i)) n->Q (some n) f):wpS (Kv prog w) A E s (countRun' Y m) Q X:=by
 rw[countRun'_eq];refine fB (λx c f=>f=X/\c=(none,x)/\Srt lt (λi=>att (La X) (Y+i)) x) (λc f=>f=X/\∃n,c=(none,n)/\1<=n/\n<=m/\Srt lt (λi=>att (La X) (Y+i)) n/\(n=m∨lt (att (La X) (Y+n)) (att (La X) (Y+n-1))=true)) ?_ ?_ ⟨rfl,rfl,λi j a b=>by rw[show i=j by lia];exact v.ir _⟩ ?_;{rintro F z x c g o N ⟨rfl,rfl,t⟩ K p q;subst z;exact aB D G r ⋯ ⋯ (λu=>K6 (p _ _ ⟨rfl,x,rfl,o,⋯,t,.inr u⟩)) λu=>K6 (q _ _ ⟨rfl,rfl,t.more v λ_=>by rw[<-Nat.add_sub_assoc o];exact u⟩)};{rintro c g ⟨rfl,rfl,t⟩;rw[show max 1 m=m by lia] at t ⊢;exact⟨rfl,m,rfl,h1,zA2 _,t,.inl rfl⟩};rintro F z c g ⟨rfl,n,rfl,J,L,t,d⟩;subst z;dsimp only;refine wif (λ_=>K6 (h n g r J L t)) λc=>?_;have d:=d.resolve_left (by simpa using c);refine wif (λP=>aB D G r ⋯ ⋯ (λ_=>K6 (h n g r J L t)) λe=>?_) λP=>?_;{rw[M.at r ⋯ ⋯ ⋯ (by rw[Nat.add_sub_assoc J];exact t 0 (n-1) ⋯ ⋯)] at e;cases e};obtain rfl:n=1:=⋯;simp at c;refine rB ?_;have O:Od λx y=>lt y x:=⟨λx y q=>v.as _ _ q,λx y z p q=>v.tr _ _ _ q p⟩;refine fB (λx c f=>f=g/\c=(none,x,0)/\Srt (λx y=>lt y x) (λi=>att (La g) (Y+i)) x) (λc f=>f=g/\∃n,c=(none,n,0)/\2<=n/\n<=m/\Srt (λx y=>lt y x) (λi=>att (La g) (Y+i)) n) ?_ ?_ ⟨rfl,rfl,?_⟩ ?_;{rintro F z x c l o N ⟨rfl,rfl,B⟩ K p q;subst z;exact aB D G r ⋯ ⋯ (λu=>wif (λ_=>wif (λc=>absurd c (zCf 0)) λ_=>K6 (q _ _ ⟨rfl,rfl,B.more O λ_=>by rw[<-Nat.add_sub_assoc ⋯];exact v.as _ _ u⟩)) λc=>absurd rfl c) λu=>aB D G r ⋯ ⋯ (λ_=>K6 (p _ _ ⟨rfl,x,rfl,o,⋯,B⟩)) λe=>by rw[M.at r ⋯ ⋯ ⋯ u] at e;cases e};{rintro c l ⟨rfl,rfl,B⟩;rw[show max (1+1) m=m by lia] at B ⊢;exact⟨rfl,m,rfl,⋯,zA2 _,B⟩};{refine Srt.more (λi j a b=>?_) O λ_=>v.as _ _ d;obtain rfl:i=j:=⋯;exact v.ir _};rintro F z c l ⟨rfl,n,rfl,J,L,B⟩;subst z;refine wif (λc=>absurd c (zCf 0)) λ_=>?_;dsimp only;have z:Y+n<=(La l).size:=by rw[r.sz];lia
 have H:=r.set (mirror_perm (La l) Y (Y+n) ((Y+n-Y)/2)) λi U=>by rw[qap7 z,if_neg ⋯]
 refine K5 (wpS_reverse ?_);refine fB (λx c f=>f=Lf l (mirror (La l) Y (Y+n) ((Y+n-Y)/2))/\c=(none,x)/\Srt lt (λi=>att (La f) (Y+i)) x) (λc f=>f=Lf l (mirror (La l) Y (Y+n) ((Y+n-Y)/2))/\∃k,c=(none,k)/\1<=k/\k<=m/\Srt lt (λi=>att (La f) (Y+i)) k) ?_ ?_ ⟨rfl,rfl,λi j a b=>?_⟩ ?_;{rintro F z x c I o N ⟨rfl,rfl,C⟩ K p q;subst z;exact aB D G H ⋯ ⋯ (λ_=>K6 (p _ _ ⟨rfl,x,rfl,⋯,⋯,C⟩)) λu=>K6 (q _ _ ⟨rfl,rfl,C.more v λ_=>by rw[<-Nat.add_sub_assoc ⋯];exact u⟩)};{rintro c I ⟨rfl,rfl,C⟩;rw[show max n m=m by lia] at C ⊢;exact⟨rfl,m,rfl,⋯,zA2 _,C⟩};{show lt (att (mirror _ _ _ _) _) (att (mirror _ _ _ _) _)=false;rw[qap7 z,qap7 z,if_pos ⋯,if_pos ⋯];have:=B (n-1-j) (n-1-i) ⋯ ⋯;rw[show Y+(Y+n)-1-(Y+j)=Y+(n-1-j) by lia,show Y+(Y+n)-1-(Y+i)=Y+(n-1-i) by lia];exact this};rintro F z c I ⟨rfl,k,rfl,R,S,C⟩;subst z;exact K6 (h k _ H R S C)
end
theorem qbc1(i:Nat):mergeAt' i=(do
 let s<-get
 let (some (p,n,pw),some (q,m,_)):=((K7 s)[i]?,(K7 s)[i+1]?)|unsupported "internal:list.sort.pending"
 set (Lg s (((K7 s).setIfInBounds i (p,n+m,pw)).eraseIdxIfInBounds (i+1)))
 let some k<-gal false (<- elem' (La s) q) (La s) p n 0|return false
 let (p,n):=(p+k,n-k)
 if n==0 then return true
 let some m<-gal true (<- elem' (La s) (p+n-1)) (La s) q m (m-1)|return false
 if m==0 then return true
 let x:=(La s).extract p q
 let y:=(La s).extract q (q+m)
 let r<-if n<=m then mlo x y else mhi x y
 modify λs=>Lf s (r.toList.zipIdx.foldl (λa (z,j)=>a.setIfInBounds (p+j) z) (La s))
 return (K8 (<- get)).isNone):=rfl
theorem wr{p:Nat}:∀(L:List Lb)(n:Nat)(a:Array Lb),p+n+L.length<=a.size->((L.zipIdx n).foldl (λ(a:Array Lb)(z:Lb×Nat)=>a.setIfInBounds (p+z.2) z.1) a).toList=a.toList.take (p+n)++L++a.toList.drop (p+n+L.length)
 |[],n,a,_=>by simp|x::L,n,a,h=>by
  rw[zAp] at h;rw[Mn,Nh,wr L (n+1) _ (by rw[Array.size_setIfInBounds];lia),Array.toList_setIfInBounds,<-Nat.add_assoc,zAp,
   List.drop_set_of_lt ⋯,List.take_set,zBp,show a.toList[p+n]?.toList=[att a (p+n)] from ?_,Mt _ _ (by simp;lia),show p+n+1+L.length=p+n+(L.length+1) by lia]
  {simp[show min (p+n) a.size=p+n by lia]};rw[Array.getElem?_toList,qV3 ⋯];rfl
theorem qaC2(h:i+n<j)(b:j<=a.size):att (a.extract i j) n=att a (i+n):=qo3 (by rw[Array.getElem?_extract];rw[if_pos ⋯])
section
variable{prog:Kw}{w:Ky}{A:Kx}{E:V'->δ->Prop}{s:δ}{kd:SortKind}{lt:Lb->Lb->Bool}{st:Lc}{a0:Array Lb}
theorem wset(h:Q ⟨⟩ a):wpS (Kv prog w) A E s (set a:StateT Lc Sem PUnit) Q st:=by unfold wpS;rw[StateT.run_set];exact J' ⟨rfl,h⟩
theorem wmat(G:Od lt)(I:Cn prog w A s kd a0 lt)(J:Ld st=kd)(K:K8 st=none)(Y:K7 st = #[(0,n,F),(n,m,pv)])(H:(La st).Perm a0)(Z:0<n)(hm:0<m)(hz:n+m=a0.size)(h1:Srt lt (att (La st)) n)(h2:Srt lt (λi=>att (La st) (n+i)) m)(h:∀u,K8 u=none->K7 u = #[(0,n+m,F)]->(La u).toList=Lj ((La st).toList.take n) ((La st).toList.drop n) (lee lt)->Q true u):wpS (Kv prog w) A E s (mergeAt' 0) Q st:=by
 have a1:(La st).size=n+m:=H.size_eq.trans hz.symm;have D:∀i,i<(La st).size->att (La st) i∈a0.toList:=λi C=>(zBr.mp H).mem_iff.mp (qaC1 C);rw[qbc1];refine gB ?_;rw[Y];have ep:(#[(0,n,F),(n,m,pv)].setIfInBounds 0 (0,n+m,F)).eraseIdxIfInBounds (0+1) = #[(0,n+m,F)]:=by simp[Array.eraseIdxIfInBounds]
 refine K5 (wset ?_);rw[ep];refine eB ⋯ (K5 (wgs G I J (D _ ⋯) ⋯ D (λi j a b=>by dsimp only;rw[zAe,zAe];exact h1 i j a b) Z λk S T N=>?_));simp only[zAe] at T N ⊢;have sD:(La st).toList.drop n=att (La st) n::(La st).toList.drop (n+1):=Ek ⋯;have O:Lj ((La st).toList.take n) ((La st).toList.drop n) (lee lt)=(La st).toList.take k++Lj (((La st).toList.drop k).take (n-k)) ((La st).toList.drop n) (lee lt):=by
  rw[<-List.drop_take,<-show ((La st).toList.take n).take k=(La st).toList.take k by rw[Nm,zCy S]];conv=>lhs;rw[<-zBl k ((La st).toList.take n)]
  rw[sD,Jt (le:=lee lt)];intro x L;rw[Nm,zCy S] at L;obtain⟨i,U,i2,rfl⟩:=Jv L;exact T i U
 refine wif (λc=>K6 (h _ K rfl ?_)) λc=>?_
 .obtain rfl:k=n:=by simp at c;lia
  rw[O,Nat.sub_self,Mv,Nl,zBl]
 have c:k<n:=by simp at c;lia
 rw[show k+(n-k)-1=n-1 by lia];refine eB ⋯ (K5 (wgs G I J (D _ ⋯) ⋯ D h2 ⋯ λv v1 v2 v3=>?_));have V:Lj (((La st).toList.drop k).take (n-k)) ((La st).toList.drop n) (lee lt)=Lj (((La st).toList.drop k).take (n-k)) (((La st).toList.drop n).take v) (lee lt)++(La st).toList.drop (n+v):=by
  conv=>lhs;rw[<-zBl v ((La st).toList.drop n)]
  rw[Mu,Ho (le:=lee lt)];intro y W x L;obtain⟨i,U,i2,rfl⟩:=qw5 L;rw[<-zAu (l:=(La st).toList.drop (n+v)) (zA2 _)] at W;obtain⟨j,_,j2,rfl⟩:=qw5 W;have e1:=h1 (k+i) (n-1) ⋯ ⋯;have e2:lt (att (La st) (n+(v+j))) (att (La st) (n-1))=false:=v3 (v+j) ⋯ ⋯;rw[<-Nat.add_assoc] at e2;show (!lt _ _)=true;rw[G.tr _ _ _ e1 e2];rfl
 dsimp only;refine wif (λc=>K6 (h _ K rfl ?_)) λd=>?_
 .obtain rfl:v=0:=by simpa using c
  rw[O,V,Mv,Nf,Nat.add_zero,<-zAs,<-Np,show k+(n-k)=n by lia,zBl]
 have d:0<v:=by simp at d;lia
 have P:((La st).extract k n).size=n-k:=by rw[Array.size_extract];lia
 have X:((La st).extract n (n+v)).size=v:=by rw[Array.size_extract];lia
 have g:∀i,i<n-k->att ((La st).extract k n) i=att (La st) (k+i):=λi C=>qaC2 ⋯ ⋯;have o:∀i,i<v->att ((La st).extract n (n+v)) i=att (La st) (n+i):=λi C=>qaC2 ⋯ ⋯;have post:∀(r:Array Lb)(f:Lc),R (Lg st #[(0,n+m,F)]) f->r.toList=Lj ((La st).extract k n).toList ((La st).extract n (n+v)).toList (lee lt)->wpS (Kv prog w) A E s (do
  modify λs=>Lf s (Ma (λ(a:Array Lb)(x:Lb×Nat)=>match x with|(z,j)=>a.setIfInBounds (k+j) z) (La s) r.toList.zipIdx)
  let t<-get
  pure (K8 t).isNone) Q f:=by
  intro r f M e;have len:r.toList.length=n-k+v:=by rw[e,List.length_merge,zB7,zB7,P,X]
  refine K5 (K9 (gB ?_));show wpS _ _ _ _ (pure (K8 f).isNone) Q _;rw[M.2.2.2];show wpS _ _ _ _ (pure (K8 st).isNone) Q _;rw[K];refine K6 (h _ (M.2.2.2.trans K) M.2.2.1 ?_);show (Ma _ (La f) _).toList=_;rw[show La f=La st from M.2.1];have q:=wr (p:=k) r.toList 0 (La st) ⋯;rw[Nat.add_zero,len,show k+(n-k+v)=n+v by lia,e,qd3,qd3,show n+v-n=v by lia,zAs,<-V,<-O] at q;rw[e,qd3,qd3,show n+v-n=v by lia];exact q
 refine wif (λ_=>K5 (wmlo G I J (λi C=>?_) (λi C=>?_) (λi j a b=>?_) (λi j a b=>?_) ⋯ ⋯ ?_ (λi C=>?_) post)) λ_=>K5 (wmhi G I J (λi C=>?_) (λi C=>?_) (λi j a b=>?_) (λi j a b=>?_) ⋯ ⋯ (λi C=>?_) ?_ post);{rw[g i ⋯];exact D _ ⋯};{rw[o i ⋯];exact D _ ⋯};{rw[g i ⋯,g j ⋯];exact h1 _ _ ⋯ ⋯};{rw[o i ⋯,o j ⋯];exact h2 _ _ ⋯ ⋯};{rw[g 0 ⋯,o 0 ⋯];simpa[B] using N k (zA2 _) c};{rw[P,g _ ⋯,o i ⋯,show k+(n-k-1)=n-1 by lia];exact v2 i ⋯};{rw[g i ⋯];exact D _ ⋯};{rw[o i ⋯];exact D _ ⋯};{rw[g i ⋯,g j ⋯];exact h1 _ _ ⋯ ⋯};{rw[o i ⋯,o j ⋯];exact h2 _ _ ⋯ ⋯};{rw[g i ⋯,o 0 ⋯];simpa[B] using N (k+i) ⋯ ⋯};rw[P,X,g _ ⋯,o _ ⋯,show k+(n-k-1)=n-1 by lia];exact v2 _ ⋯
end
section
variable{prog:Kw}{w:Ky}{A:Kx}{E:V'->δ->Prop}{s:δ}{kd:SortKind}{lt:Lb->Lb->Bool}{st:Lc}{a0:Array Lb}
theorem qaD7(a:Srt lt (λj=>att xs (i+j)) n)(f:i+n<=xs.size):((xs.toList.drop i).take n).Pairwise λx y=>lee lt x y=true:=by
 rw[Mj];intro p q b c d;rw[zBa,zCe,zB7] at b c;have e:∀p (h:p<((xs.toList.drop i).take n).length),((xs.toList.drop i).take n)[p]=att xs (i+p):=λp h=>by rw[M',Na];rw[zBa,zCe,zB7] at h;simp[att,Array.getD,show i+p<xs.size by lia]
 rw[e,e];show (!lt _ _)=true;rw[a p q ⋯ ⋯];rfl
def G0(lt:Lb->Lb->Bool)(a0:Array Lb)(st:Lc):Prop:=(La st).toList.Perm a0.toList/\(La st).toList.Pairwise (λx y=>lee lt x y=true)/\K8 st=none
structure One(lt:Lb->Lb->Bool)(kd:SortKind)(a0:Array Lb)(n:Nat)(st:Lc):Prop where
 pm:(La st).Perm a0
 k:Ld st=kd
 f:K8 st=none
 p:K7 st = #[(0,n,0)]
 s:Srt lt (att (La st)) n
structure Two(lt:Lb->Lb->Bool)(kd:SortKind)(a0:Array Lb)(n m pw:Nat)(st:Lc):Prop where
 pm:(La st).Perm a0
 k:Ld st=kd
 f:K8 st=none
 p:K7 st = #[(0,n,pw),(n,m,0)]
 s:Srt lt (att (La st)) n
 t:Srt lt (λi=>att (La st) (n+i)) m
theorem One.fin(h:One lt kd a0 n st)(c:n=a0.size):G0 lt a0 st:=by refine⟨zBr.mp h.pm,?_,h.f⟩;have:=qaD7 (i:=0) (n:=n) (xs:=La st) (λi j a b=>by dsimp only;rw[zAe,zAe];exact h.s i j a b) (by rw[h.pm.size_eq];lia);rwa[Mg,zAu (by rw[zB7,h.pm.size_eq];lia)] at this
theorem wrun(D:Od lt)(J:Cn prog w A s kd a0 lt)(T:Ds lt a0)(O:Ld st=kd)(hf:K8 st=none)(P:K7 st = #[])(L:(La st).Perm a0)(G:a0.size=64)(h:∀l,G0 lt a0 l->Q () l):wpS (Kv prog w) A E s sortRuns' Q st:=by
 rw[sortRuns'_eq];refine gB ?_;dsimp only;rw[L.size_eq.trans G];have hm:minRun' 64 64 0=32:=rfl;rw[hm];refine fB (λx c l=>(x=0/\c=(none,0)/\l=st)∨(x=1/\∃n,c=(none,n)/\32<=n/\n<=64/\One lt kd a0 n l)∨(2<=x/\c=(none,64)/\∃n m B,n+m=64/\0<n/\0<m/\Two lt kd a0 n m B l)) (λc l=>c=(none,64)/\(One lt kd a0 64 l∨∃n m B,n+m=64/\0<n/\0<m/\Two lt kd a0 n m B l)) ?_ ?_ (.inl ⟨rfl,rfl,rfl⟩) ?_
 .rintro F z x c u-hx (⟨rfl,rfl,rfl⟩|⟨rfl,n,rfl,I,n2,o⟩|⟨x2,rfl,n,m,B,e,I,R,o⟩) K p q<;>subst z
  .dsimp only;refine wif (λc=>absurd c ⋯) λ_=>?_;have S:Bt a0 0 u u:=⟨rfl,rfl,rfl,L,λ_ _=>rfl⟩;refine K5 (wcnt D J T O ⋯ ⋯ S λn r C I n2 M=>?_);have fin:∀k g,Bt a0 0 u g->32<=k->k<=64->Srt lt (λi=>att (La g) (0+i)) k->One lt kd a0 k (Lg g ((K7 g).push (0,k,0))):=λk g v _ _ H=>
    ⟨v.pm,v.kd.trans O,v.fl.trans hf,by show (K7 g).push _=_;rw[v.pd,P];rfl,λi j a b=>by have:=H i j a b;dsimp only at this;rwa[zAe,zAe] at this⟩
   refine wif (λc=>?_) λc=>?_;{refine rB ?_;refine K5 (wbin D J O ⋯ ⋯ I C M λg v H=>?_);refine wif (λc=>by cases c) λ_=>?_;refine gB ?_;rw[show (K7 g).back?=none by rw[v.pd,P];rfl];exact K5 (K9 (K6 (q _ _ (.inr (.inl ⟨rfl,_,rfl,⋯,⋯,fin _ g v ⋯ ⋯ H⟩)))))};refine gB ?_;rw[show (K7 r).back?=none by rw[C.pd,P];rfl];exact K5 (K9 (K6 (q _ _ (.inr (.inl ⟨rfl,_,rfl,⋯,⋯,by rw[zAe];exact fin _ r C ⋯ ⋯ M⟩)))))
  .dsimp only;refine wif (λc=>?_) λc=>?_;{obtain rfl:n=64:=⋯;exact K6 (p _ _ ⟨rfl,.inl o⟩)};have S:Bt a0 n u u:=⟨rfl,rfl,rfl,o.pm,λ_ _=>rfl⟩;refine K5 (wcnt D J T o.k ⋯ ⋯ S λk r C k1 k2 M=>?_);have U:∀q g,Bt a0 n u g->q=64-n->Srt lt (λi=>att (La g) (n+i)) q->∀B,Two lt kd a0 n q B (Lg (Lg g ((K7 g).modify ((K7 g).size-1) λx=>(x.fst,x.2.fst,B))) (((K7 g).modify ((K7 g).size-1) λx=>(x.fst,x.2.fst,B)).push (n,q,0))):=λq g v hq H B=>
    ⟨v.pm,v.kd.trans o.k,v.fl.trans o.f,by show ((K7 g).modify _ _).push _=_;rw[v.pd,o.p];rfl,λi j a b=>by show lt (att (La g) j) (att (La g) i)=false;rw[v.pr i ⋯,v.pr j b];exact o.s i j a b,H⟩
   have N:∀g,Bt a0 n u g->(K7 g).back?=some (0,n,0)/\¬(K7 g).size>1:=λg v=>by rw[v.pd,o.p];exact⟨rfl,zCf 1⟩
   refine wif (λd=>?_) λd=>?_;{refine rB ?_;refine K5 (wbin D J o.k ⋯ ⋯ k1 C M λg v H=>?_);refine wif (λc=>by cases c) λ_=>?_;refine gB ?_;rw[(N g v).1];refine fB (λx c l=>l=g/\c=(none,())) (λc l=>l=g/\c=(none,())) ?_ (λ_ _ h=>h) ⟨rfl,rfl⟩ ?_;{rintro F z x c y - - ⟨rfl,rfl⟩ K p q;subst z;refine gB ?_;rw[if_neg (N y v).2];exact K6 (p _ _ ⟨rfl,rfl⟩)};rintro F z c y ⟨rfl,rfl⟩;subst z;exact K5 (K9 (K5 (K9 (K6 (q _ _ (.inr (.inr ⟨zA2 2,by rw[show n+min (64-n) 32=64 by lia],n,_,_,⋯,⋯,⋯,U _ y v ⋯ H _⟩)))))))};refine gB ?_;rw[(N r C).1];refine fB (λx c l=>l=r/\c=(none,())) (λc l=>l=r/\c=(none,())) ?_ (λ_ _ h=>h) ⟨rfl,rfl⟩ ?_;{rintro F z x c y - - ⟨rfl,rfl⟩ K p q;subst z;refine gB ?_;rw[if_neg (N y C).2];exact K6 (p _ _ ⟨rfl,rfl⟩)};rintro F z c y ⟨rfl,rfl⟩;subst z;exact K5 (K9 (K5 (K9 (K6 (q _ _ (.inr (.inr ⟨zA2 2,by rw[show n+k=64 by lia],n,_,_,⋯,⋯,⋯,U _ y C ⋯ M _⟩)))))))
  dsimp only;exact wif (λ_=>K6 (p _ _ ⟨rfl,.inr ⟨n,m,B,e,I,R,o⟩⟩)) λc=>absurd (zA2 _) c
 {rintro c u (⟨V,_⟩|⟨V,_⟩|⟨x2,rfl,o⟩);{lia};{lia};exact⟨rfl,.inr o⟩};rintro F z c u ⟨rfl,o⟩;subst z;refine fB (λx c l=>c=(none,())/\(x=0/\l=u∨G0 lt a0 l/\(K7 l).size<=1)) (λc l=>c=(none,())/\G0 lt a0 l) ?_ ?_ ⟨rfl,.inl ⟨rfl,rfl⟩⟩ ?_;{rintro F t x c r - - ⟨rfl,⟨rfl,rfl⟩|⟨f,z⟩⟩ K W q'<;>subst t;{refine gB ?_;rcases o with o|⟨n,m,B,e,I,R,o⟩;{rw[if_pos (by rw[o.p];exact zA2 1)];exact K6 (W _ _ ⟨rfl,o.fin G.symm⟩)};rw[o.p];refine wif (λc=>absurd c (by simp)) λ_=>?_;refine K5 (wmat D J o.k o.f o.p o.pm I R ⋯ o.s o.t λg f3 p3 X=>?_);refine K6 (q' _ _ ⟨rfl,.inr ⟨⟨?_,?_,f3⟩,by rw[p3];exact zA2 1⟩⟩);{rw[X];have q:=List.merge_perm_append (le:=lee lt) (xs:=(La r).toList.take n) (ys:=(La r).toList.drop n);rw[zBl] at q;exact q.trans (zBr.mp o.pm)};rw[X];have sz:(La r).size=64:=o.pm.size_eq.trans G;refine List.pairwise_merge (λa b c Y Z=>?_) (λa b=>?_) _ _ ?_ ?_;{simp only[Bool.not_eq_true',lee] at Y Z ⊢;exact D.tr _ _ _ Y Z};{cases q:lt b a with|false=>simp[lee,q]|true=>simp[lee,q,D.as _ _ q]};{have:=qaD7 (i:=0) (n:=n) (xs:=La r) (λi j a b=>by dsimp only;rw[zAe,zAe];exact o.s i j a b) ⋯;rwa[Mg] at this};have:=qaD7 o.t ⋯;rwa[zAu (by rw[zCe,zB7];lia)] at this};refine gB ?_;rw[if_pos z];exact K6 (W _ _ ⟨rfl,f⟩)};{rintro c r ⟨rfl,⟨V,_⟩|⟨f,z⟩⟩;{lia};exact⟨rfl,f⟩};rintro F z c r ⟨rfl,f⟩;subst z;exact K6 (h r f)
end
noncomputable def plt(p q:Int×Int):Bool:=decide (p.1<q.1∨p.1=q.1/\p.2<q.2)
def TP(h:Heap)(v:V')(p:Int×Int):Prop:=∃b t u o n,v=.ref b/\h.get? b=some o/\o.cls=.type "tuple" /\ o.data=.seq #[.int p.1 t,.int p.2 u] n
section
variable{prog:Kw}{w:Ky}{A:Kx}{E:V'->δ->Prop}{s:δ}{kd:SortKind}{lt:Lb->Lb->Bool}{X:Lc}{U:Array Lb}
theorem wrunS(D:Od lt)(G:Cn prog w A s kd U lt)(I:Ds lt U)(u:Ld X=kd)(J:K8 X=none)(v:K7 X = #[])(t:(La X).Perm U)(h2:2<=U.size)(y:U.size<64)(h:∀d,G0 lt U d->Q () d):wpS (Kv prog w) A E s sortRuns' Q X:=by
 rw[sortRuns'_eq];refine gB ?_;obtain⟨f,L⟩:∃f,U.size=f+1:=⟨U.size-1,⋯⟩;have M:minRun' U.size U.size 0=U.size:=by
  conv=>lhs;rw[show minRun' U.size=minRun' (f+1) by rw[L]]
  rw[minRun'_succ,if_pos y];rfl
 dsimp only;rw[t.size_eq,M];refine fB (λx c d=>(x=0/\c=(none,0)/\d=X)∨(1<=x/\c=(none,U.size)/\One lt kd U U.size d)) (λc d=>c=(none,U.size)/\One lt kd U U.size d) ?_ ?_ (.inl ⟨rfl,rfl,rfl⟩) ?_
 .rintro F z x c l-R (⟨rfl,rfl,rfl⟩|⟨N,rfl,o⟩) K p q<;>subst z
  .dsimp only;refine wif (λc=>absurd c ⋯) λ_=>?_;have O:Bt U 0 l l:=⟨rfl,rfl,rfl,t,λ_ _=>rfl⟩;refine K5 (wcnt D G I u ⋯ ⋯ O λn m B P S H=>?_);have fin:∀k g,k=U.size->Bt U 0 l g->Srt lt (λi=>att (La g) (0+i)) k->One lt kd U U.size (Lg g ((K7 g).push (0,k,0))):=λk g e r C=>
    ⟨r.pm,r.kd.trans u,r.fl.trans J,by show (K7 g).push _=_;rw[r.pd,v,e];rfl,λi j a b=>by have:=C i j a ⋯;dsimp only at this;rwa[zAe,zAe] at this⟩
   refine wif (λc=>?_) λc=>?_;{refine rB ?_;refine K5 (wbin D G u ⋯ ⋯ P B H λg r C=>?_);refine wif (λc=>by cases c) λ_=>?_;refine gB ?_;rw[show (K7 g).back?=none by rw[r.pd,v];rfl];exact K5 (K9 (K6 (q _ _ (.inr ⟨⋯,by rw[show 0+min (U.size-0) U.size=U.size by lia],fin _ g ⋯ r C⟩))))};refine gB ?_;rw[show (K7 m).back?=none by rw[B.pd,v];rfl];exact K5 (K9 (K6 (q _ _ (.inr ⟨⋯,by rw[show 0+n=U.size by lia],fin _ m ⋯ B H⟩))))
  dsimp only;exact wif (λ_=>K6 (p _ _ ⟨rfl,o⟩)) λc=>absurd (zA2 _) c
 {rintro c l (⟨T,_⟩|⟨N,rfl,o⟩);{lia};exact⟨rfl,o⟩};rintro F z c l ⟨rfl,o⟩;subst z;refine fB (λx c d=>c=(none,())/\d=l) (λc d=>c=(none,())/\d=l) ?_ (λ_ _ h=>h) ⟨rfl,rfl⟩ ?_;{rintro F z x c m - - ⟨rfl,rfl⟩ K p q;subst z;refine gB ?_;rw[if_pos (by rw[o.p];exact zA2 1)];exact K6 (p _ _ ⟨rfl,rfl⟩)};rintro F z c m ⟨rfl,rfl⟩;subst z;exact K6 (h m (o.fin rfl))
theorem cmpP{q:Int×Int}(f:TP s.heap x p)(g:TP s.heap y q)(h:Q (plt p q) s):Ku (Kv prog w) A (keyLt' (tuples' true) x y) Q E s:=by obtain⟨b,t,u,o,n,rfl,i,_,j⟩:=f;obtain⟨c,m,v,B,C,rfl,k,_,l⟩:=g;have z:∀r:Bool,r=plt p q->Q r s:=λr e=>e ▸ h;refine W.kat_lt i j k l (W.kat_cons (wpAny_eqBool_int (W.kat_go (λa=>W.kat_yes (W.kat_cons (wpAny_eqBool_int (W.kat_go (λd=>W.kat_yes (W.kat_nil (z _ ?_))) λd=>W.kat_no (W.kat_one _ _ (lt_int (z _ ?_))))))) λa=>W.kat_no (oneLt_int (z _ ?_)))));{simp at a d;simp[plt,a,d]};{simp at a d;simp[plt,a]};simp at a;simp[plt,a]
theorem TP.keep(t:TP h v p)(k:∀b o,h.get? b=some o->o.cls=.type "tuple" -> h'.get? b=some o):TP h' v p:=by obtain⟨b,t,u,o,n,rfl,c,a,d⟩:=t;exact⟨b,t,u,o,n,rfl,k _ _ c a,a,d⟩
end
def kl(kf:V'->Int×Int)(x y:Lb):Bool:=plt (kf x.1) (kf y.1)
theorem kl_od(kf:V'->Int×Int):Od (kl kf):=⟨λx y h=>by simp[kl,plt] at h ⊢;lia,λx y z a b=>by simp[kl,plt] at a b ⊢;lia⟩
section
variable{prog:Kw}{w:Ky}{A:Kx}{E:V'->δ->Prop}{s:δ}
theorem kl_ds(c:(vs.map kf).Nodup):Ds (kl kf) (pairsOf vs):=by unfold Ds;rw[pairsOf_toList,show vs.zip vs=vs.map λv=>(v,v) by induction vs with|nil=>rfl|cons v vs d=>simp at c;rw[List.zip_cons_cons,d c.2];rfl,zBu];unfold List.Nodup at c;rw[zBu] at c;refine c.imp λ{a b} h=>?_;have e:¬((kf a).1=(kf b).1/\(kf a).2=(kf b).2):=λq=>h (Prod.ext q.1 q.2);simp only[kl,plt,zBh];lia
theorem qas1(g:s.heap.get? a=some (seqObj "list" vs.toArray n))(C:vs.length<=64)(k:(vs.map kf).Nodup)(D:∀h',(∀b o,s.heap.get? b=some o->o.cls=.type "tuple" -> h'.get? b=some o)->2<=vs.length->(∀(Q':SortKind->δ->Prop),Q' kd {s with heap:=h'}->Ku (Kv prog w) A (keyKind' vs.toArray) Q' E {s with heap:=h'})/\Cm prog w A {s with heap:=h'} kd (λx=>x.1∈vs) (kl kf))(h:∀out:List V',out.Perm vs->(out.map kf).Pairwise (λp q=>plt q p=false)->P (.done (.ret .none)) {s with heap:=sortedHeap s.heap a vs out.toArray}):Ku (Kv prog w) A (Builtin.«list.sort» ⟨[.ref a],[]⟩) P E s:=by
 have F:vs.toArray.size=vs.length:=zA4;have la:a<s.heap.objs.size:=zAc g;obtain⟨l,m⟩:∃e,(s.heap.update a (Obj.mapSeq λ_=>#[])).get? a=some (seqObj "list" #[] e):=⟨_,get?_update_seq g λ_=>#[]⟩;have r:(((s.heap.update a (Obj.mapSeq λ_=>#[])).push (seqObj "tuple" vs.toArray 0)).push (seqObj "list" #[] 0)).get? a=some (seqObj "list" #[] l):=zA3 _ (zA3 _ m);have G:∀b o,s.heap.get? b=some o->o.cls=.type "tuple" -> (((s.heap.update a (Obj.mapSeq λ_=>#[])).push (seqObj "tuple" vs.toArray 0)).push (seqObj "list" #[] 0)).get? b=some o:=λb o q H=>by
  have I:b≠a:=λz=>by rw[z,g] at q;cases q;simp at H
  exact zA3 _ (zA3 _ (by rw[Heap.get?_update_ne _ _ _ _ I];exact q))
 rw[list_sort_plain];refine E' (listItems_at g rfl (E' (listUpdate_at g rfl (E' (seqEpoch_at m rfl (E' (wpAny_newTuple (E' (wpAny_newList (Kf ?_) (zBb _))) (by show vs.length<=_;rw[Kj];lia))))) (by rw[F,Kj];lia) (zBb _))));show Ku (Kv prog w) A _ P E {s with heap:=((s.heap.update a (Obj.mapSeq λ_=>#[])).push (seqObj "tuple" vs.toArray 0)).push (seqObj "list" #[] 0)};have last:∀d:Lc,(La d).toList.Perm (pairsOf vs).toList->(La d).toList.Pairwise (λx y=>lee (kl kf) x y=true)->K8 d=none->P (.done (.ret .none)) {s with heap:=sortedHeap s.heap a vs ((La d).map (·.2))}/\((La d).map (·.2)).size<=Kc+1:=λd i J _=>by
  rw[pairsOf_toList] at i;have u:∀p∈(La d).toList,p.1=p.2:=λp K=>(mem_zip_self (i.mem_iff.mp K)).1;have e2:((La d).map (·.2))=((La d).toList.map (·.2)).toArray:=Array.toList_inj.mp (by rw[Array.toList_map]);have pv:((La d).toList.map (·.2)).Perm vs:=by have:=i.map Prod.snd;rwa[List.map_snd_zip (zA2 _)] at this
  rw[e2];refine⟨h _ pv ?_,by rw[zA4,pv.length_eq,Kj];lia⟩;rw[zCs,zBu];refine(List.Pairwise.and_mem.mp J).imp λ{x y} ⟨L,M,q⟩=>?_;show plt (kf y.2) (kf x.2)=false;rw[<-u x L,<-u y M];simpa[lee,kl] using q
 have tail:∀d:Lc,G0 (kl kf) (pairsOf vs) d->Ku (Kv prog w) A (do
  let t:=(<- seqEpoch a) != l
  Builtin.List.listUpdate (.ref a) λ_=>(La d).map (·.2)
  if let some e:=K8 d then rule "list.sort.comparison-raised";throw e
  if t then rule "list.sort.modified";raiseError "ValueError" "list modified during sort"
  ret .none) P E {s with heap:=((s.heap.update a (Obj.mapSeq λ_=>#[])).push (seqObj "tuple" vs.toArray 0)).push (seqObj "list" #[] 0)}:=λd f=>by
  have z:=last d f.1 f.2.1 f.2.2;refine E' (seqEpoch_at r rfl (E' (listUpdate_at r rfl ?_ (zBb _) z.2)));rw[f.2.2];simp only[bne_self_eq_false,Bool.false_eq_true,if_false];exact J' z.1
 by_cases c:vs.toArray.size<2;{rw[if_pos c,if_pos c];refine E' (J' ?_);dsimp only;rw[StateT.run_pure];refine E' (J' (tail (SortSt.mk' general' (vs.toArray.zip vs.toArray) #[] 7 none) ⟨List.Perm.refl _,?_,rfl⟩));show (pairsOf vs).toList.Pairwise _;rw[pairsOf_toList];match vs,c with|[],_=>exact .nil|[v],_=>simp|_::_::_,c=>simp at c;lia};rw[if_neg c,if_neg c];obtain⟨N,O⟩:=D _ G ⋯;refine E' (N _ ?_);have B:Cn prog w A {s with heap:=((s.heap.update a (Obj.mapSeq λ_=>#[])).push (seqObj "tuple" vs.toArray 0)).push (seqObj "list" #[] 0)} kd (pairsOf vs) (kl kf):=λx y Q R=>O x y (mem_zip_self (pairsOf_toList vs ▸ Q)).2 (mem_zip_self (pairsOf_toList vs ▸ R)).2;have j:wpS (Kv prog w) A E {s with heap:=((s.heap.update a (Obj.mapSeq λ_=>#[])).push (seqObj "tuple" vs.toArray 0)).push (seqObj "list" #[] 0)} sortRuns' (λ_ d=>G0 (kl kf) (pairsOf vs) d) (SortSt.mk' kd (vs.toArray.zip vs.toArray) #[] 7 none):=by rcases Nat.lt_or_ge vs.length 64 with q|q;{exact wrunS (kl_od kf) B (kl_ds k) rfl rfl rfl (Array.Perm.refl _) (by rw[pairsOf_size];lia) (by rw[pairsOf_size];exact q) λ_ f=>f};exact wrun (kl_od kf) B (kl_ds k) rfl rfl rfl (Array.Perm.refl _) (by rw[pairsOf_size];lia) λ_ f=>f
 refine E' (Kn j ?_ λ_ _ e=>e);rintro⟨⟨⟩,d⟩ S ⟨rfl,f⟩;exact tail d f
theorem sorted6{l:γ}(f:s.heap.IsList l vs.toArray)(a:vs.length<=64)(g:(vs.map kf).Nodup)(i:∀(A:Kx)(E:V'->δ->Prop) h',(∀b o,s.heap.get? b=some o->o.cls=.type "tuple" -> h'.get? b=some o)->2<=vs.length->(∀(Q':SortKind->δ->Prop),Q' kd {s with heap:=h'}->Ku (Kv prog w) A (keyKind' vs.toArray) Q' E {s with heap:=h'})/\Cm prog w A {s with heap:=h'} kd (λx=>x.1∈vs) (kl kf))(h:∀out:List V',out.Perm vs->(out.map kf).Pairwise (λp q=>plt q p=false)->Q (.ref (s.heap.objs.size+1)) {s with heap:=sortedAll s.heap vs out.toArray}):Ku (Kv prog w) A (call (.builtin "sorted") [.ref l]) Q E s:=by
 refine Calls.call_function_entry kind_sorted plain_sorted entry_sorted (args_sorted1 _) ?_;unfold Builtin.«sorted»;refine E' (m:=checkCount "sorted" 1 1 _) (J' (E' (collect_list f (E' (wpAny_newList ?_ (by rw[Kj];lia))) (by rw[Kj];lia))));have d:((s.heap.push (seqObj "list" #[] 0)).update s.heap.objs.size (Obj.mapSeq (·++vs.toArray))).objs.size=s.heap.objs.size+1:=by rw[Heap.size_update,size_push']
 have e:(((s.heap.push (seqObj "list" #[] 0)).update s.heap.objs.size (Obj.mapSeq (·++vs.toArray))).push (seqObj "list" vs.toArray 0)).get? (s.heap.objs.size+1)=some (seqObj "list" vs.toArray 0):=by rw[<-d];exact zAo _ rfl
 have j:∀b o,s.heap.get? b=some o->(((s.heap.push (seqObj "list" #[] 0)).update s.heap.objs.size (Obj.mapSeq (·++vs.toArray))).push (seqObj "list" vs.toArray 0)).get? b=some o:=λb o q=>
  zA3 _ (by rw[Heap.get?_update_ne _ _ _ _ (zAt (zAc q))];exact zA3 _ q)
 show Ku _ _ _ _ _ {s with heap:=((s.heap.push (seqObj "list" #[] 0)).update s.heap.objs.size (Obj.mapSeq (·++vs.toArray))).push (seqObj "list" vs.toArray 0)};rw[d];refine E' (Kf (wpAny_call_entry slot_list_sort ⟨_,e,rfl⟩ entry_list_sort (qas1 e a g (λh' k c=>i _ _ h' (λb o q n=>k b o (j _ _ q) n) c) λout r t=>⟨_,rfl,?_⟩) (args_list_sort _)));exact J' ⟨_,rfl,h out r t⟩
end
end S6
namespace LV
open PySem L2 PyProof.Rows
variable{ps:List (Int×Int)}
abbrev Dt(ps:List (Int×Int)):List (Int×Int):=ps.mergeSort λp q=>!S6.plt q p
def PrA(H:Hp)(v:V)(p:Int×Int):Prop:=∃b,v=.ref b/\H b=some (.q [.int p.1,.int p.2])
noncomputable def kfh(h:Heap):V'->Int×Int
 |.ref b=>match h.get? b with|some o=>(match o.data with|.seq xs _=>(numOf (xs.getD 0 .none),numOf (xs.getD 1 .none))|_=>(0,0))|none=>(0,0)
 |_=>(0,0)
theorem qbc5(t:S6.TP h v p):kfh h v=p:=by obtain⟨b,t,u,o,n,rfl,a,d,c⟩:=t;simp only[kfh,a,c];rfl
noncomputable def vOf:V'->V|.ref b=>.ref b|_=>.non
section
variable{X:Cx}{D8:List (γ×Obj)}{σ:List (Option V)}{H:Hp}{s:δ}
theorem qaP1(I:Pd X D8 σ H s)(r:Pb vs its)(t:Paired (PrA H) vs ps):its.map (kfh s.heap)=ps/\∀u∈its,S6.TP s.heap u (kfh s.heap u)/\∃b,u=.ref b/\H b=some (.q [.int (kfh s.heap u).1,.int (kfh s.heap u).2]):=by
 induction t generalizing its with
 |nil=>cases r;exact⟨rfl,nofun⟩|@cons v p vs ps h t f=>
  cases r with
  |@cons _ u _ its ru rt=>
   obtain⟨b,rfl,c⟩:=h;cases ru;obtain⟨w,q,⟨o,g,i,n,j⟩,_⟩:=I.tuple (.inl (.inl c));have d:S6.TP s.heap (.ref b) p:=by obtain⟨x,y,rfl,⟨t1,rfl⟩,t2,rfl⟩:=Pb.two q;exact⟨b,t1,t2,o,n,rfl,g,i,j⟩
   have e:=qbc5 d;obtain⟨k,l⟩:=f rt;refine⟨by rw[zAz,e,k],λu a=>?_⟩;rcases zAi.mp a with rfl|a;{rw[e];exact⟨d,b,rfl,c⟩};exact l u a
theorem qaz3{h:Heap}:∀{out:List V'},(∀u∈out,∃b,u=.ref b/\H b=some (.q [.int (kfh h u).1,.int (kfh h u).2]))->Pb (out.map vOf) out/\Paired (PrA H) (out.map vOf) (out.map (kfh h))|[],_=>⟨.nil,.nil⟩|u::out,k=>by obtain⟨b,rfl,c⟩:=k u zAh;have a:=qaz3 (out:=out) λv d=>k v (zA7 _ d);exact⟨.cons rfl a.1,.cons ⟨b,rfl,c⟩ a.2⟩
theorem qV9{h:Heap}{kf:V'->Int×Int}:∀{its:List V'},(∀u∈its,S6.TP h u (kf u))->∃fs,W.KatTups h its fs/\fs.length=its.length/\∀f∈fs,∃i t,f=Nv i t|[],_=>⟨[],trivial,rfl,nofun⟩|u::its,k=>by obtain⟨fs,f1,f2,f3⟩:=qV9 (its:=its) λv c=>k v (zA7 _ c);obtain⟨b,t,w,o,n,rfl,d,e,g⟩:=k u zAh;refine⟨Nv _ t::fs,W.KatTups.cons d e g rfl f1,by rw[zAp,f2];rfl,λf a=>?_⟩;rcases zAi.mp a with rfl|a;{exact⟨_,_,rfl⟩};exact f3 f a
theorem qag3(ps:List (Int×Int)):(Dt ps).Pairwise λp q=>S6.plt q p=false:=by
 refine(Ly (λa b c d e=>?_) (λa b=>?_) ps).imp λ{a b} h=>by simpa using h
 {simp[S6.plt] at d e ⊢;lia};simp[S6.plt];lia
theorem qaD9(d:c.Perm ps)(e:c.Pairwise λp q=>S6.plt q p=false):c=Dt ps:=by refine List.Perm.eq_of_pairwise (le:=λp q=>S6.plt q p=false) (λa b _ _ f g=>?_) e (qag3 ps) (d.trans (zC7 _ _).symm);simp[S6.plt] at f g;exact Prod.ext ⋯ ⋯
def qaO0(K:N7):List V->Hp->VK->Prop:=λxs H Q=>∃a vs ps,xs=[.ref a]/\SqL K H a vs/\Paired (PrA H) vs ps/\ps.Nodup/\ps.length<=64/\∀l b,H l=none->Paired (PrA H) b (Dt ps)->Q (.ref l) (upd H l (.l b))
theorem qap5:CallR X (.builtin "sorted") (qaO0 X.K):=by
 intro D8 s σ H V Y Q I r h;obtain⟨a,Z,B,rfl,C,t,D,hl,q⟩:=h;obtain⟨u,rfl,F⟩:=B9 r;cases F;obtain⟨f,G,J,hz⟩:=I.list C;obtain⟨j,g⟩:=qaP1 I G t;have L:f.length<=64:=by have:=congrArg Ll j;rw[zA9] at this;lia
 refine S6.sorted6 (kf:=kfh s.heap) (kd:=tuples' true) J.isList L (by rw[j];exact D) (λA E h' k c=>⟨λQ' l=>?_,λx y M N E Q l=>?_⟩) λd m O=>?_;{obtain⟨fs,f1,f2,f3⟩:=qV9 λu n=>(g u n).1.keep k;refine W.kat_kind (T:=.type "int") f1 ⋯ (λv P=>?_) rfl l;obtain⟨i,t,rfl⟩:=f3 v P;exact W.Looks.of_pure rfl};{exact S6.cmpP ((g _ M).1.keep k) ((g _ N).1.keep k) l};obtain⟨R,p⟩:=qaz3 (H:=H) (h:=s.heap) (out:=d) λu n=>(g u (m.mem_iff.mp n)).2;obtain⟨e,S⟩:=sortedAll_at s.heap f d.toArray;have U:d.map (kfh s.heap)=Dt B:=qaD9 (j ▸ m.map _) O;rw[U] at p;refine⟨.ref _,_,I.laid (t':=s.toks) (λb o z=>sortedAll_old z) (Nat.le_succ _) (show ObjOk X.prog X.w _ _ _ (.l (d.map vOf)) from⟨?_,d,e,R,S⟩),rfl,q _ _ (I.hok.fresh (Nat.le_succ _)) p⟩;rw[zA9,m.length_eq,Kj];lia
noncomputable def Ij:D->Option (Int×Int)|.q [.int a,.int b]=>some (a,b)|_=>none
noncomputable def prD2(p:Int×Int):D:=.q [.int p.1,.int p.2]
def qaB1(x:D):Option D:=match x with|.l _ ys=>(ys.mapM Ij).bind λps=>gd (ps.Nodup/\ps.length<=64) (.l false ((Dt ps).map prD2))|_=>none
theorem qai0:∀{ys:List D}{ps:List (Int×Int)},ys.mapM Ij=some ps->ys=ps.map prD2|[],ps,h=>by cases h;rfl|y::ys,ps,h=>by rw[Nn] at h;obtain⟨p,a,h⟩:=zA1.mp h;obtain⟨c,b,h⟩:=zA1.mp h;cases h;rw[zAz,qai0 b];congr 1;unfold Ij at a;split at a;{cases a;rfl};cases a
theorem qaP2{F:γ->Prop}{H:Hp}:∀{ps:List (Int×Int)}{vs:List V}{A:List γ},O6 F H vs (ps.map prD2) A->Paired (PrA H) vs ps|[],_,_,r=>by cases r;exact .nil|p::ps,_,_,r=>by cases r with|cons h t=>obtain⟨a,d,rfl,e,r⟩:=h.tup_inv;obtain⟨v,w,_,_,rfl,b,c,_⟩:=r.two_inv;rw[b.int_inv,c.int_inv] at e;exact .cons ⟨_,rfl,e⟩ (qaP2 t)
theorem qaF1{F:γ->Prop}{H:Hp}{a:List V}(t:Paired (PrA H) a ps):O6 F H a (ps.map prD2) []:=by induction t with|nil=>exact .nil|cons h t c=>obtain⟨b,rfl,d⟩:=h;exact .cons (A:=[]) (B:=[]) (.q d (.cons (A:=[]) (B:=[]) (.int _) (.cons (A:=[]) (B:=[]) (.int _) .nil))) c
theorem qaK5{K:N7}:CS1 true (qaO0 K) qaB1:=by intro F H v x B d Q r h q;cases x with|l z n=>obtain⟨c,e,f⟩:=zA1.mp h;obtain⟨⟨g,i⟩,rfl⟩:=qk0 f;cases qai0 e;obtain⟨a,j,A,rfl,k,m,_⟩:=r.lst_inv;exact⟨a,j,c,rfl,.inl (.inl k),qaP2 m,g,i,λl o b t=>q _ _ [l] (qw3 b (qaF1 t)) (Same.new b) (qh2 b)⟩|_=>cases h
end
noncomputable abbrev B6(ns:List Int):List Int:=ns.mergeSort λa b=>decide (a<=b)
theorem qag4{d ns:List Int}(g:d.Perm ns)(i:d.Pairwise λa b=>a<=b):d=B6 ns:=by refine List.Perm.eq_of_pairwise (le:=λa b:Int=>a<=b) (λa b _ _ e f=>Int.le_antisymm e f) i ?_ (g.trans (zC7 _ _).symm);exact(Ly (λa b c e f=>by simp at e f ⊢;lia) (λa b=>by simp;lia) ns).imp λ{a b} h=>by simpa using h
theorem qan0:∀{ns:List Int}{its:List V'},Pb (ns.map V.int) its->IntsAre its ns/\its.map numOf=ns|[],_,r=>by cases r;exact⟨.nil,rfl⟩|n::ns,_,r=>by cases r with|cons h t=>obtain⟨t1,rfl⟩:=h;have a:=qan0 t;exact⟨.cons _ _ a.1,by rw[zAz,a.2];rfl⟩
theorem qam9:∀{out:List V'},(∀u∈out,∃n t,u=Nv n t)->Pb ((out.map numOf).map V.int) out|[],_=>.nil|u::out,k=>by obtain⟨n,t,rfl⟩:=k u zAh;exact .cons ⟨t,rfl⟩ (qam9 λv a=>k v (zA7 _ a))
theorem qaY0:∀{l:List V'},2<=l.length->∃v w vs,l=v::w::vs|v::w::vs,_=>⟨v,w,vs,rfl⟩|[_],h=>absurd h (by simp)|[],h=>absurd h ∅
def qaO1(K:N7):List V->Hp->VK->Prop:=λxs H Q=>∃a ns,xs=[.ref a]/\SqL K H a (ns.map V.int)/\ns.Nodup/\ns.length<=64/\∀l,H l=none->Q (.ref l) (upd H l (.l ((B6 ns).map V.int)))
theorem qP3{X:Cx}:CallR X (.builtin "sorted") (qaO1 X.K):=by
 intro D8 s σ H Z us Q I r h;obtain⟨a,l,rfl,G,i,hl,q⟩:=h;obtain⟨u,rfl,J⟩:=B9 r;cases J;obtain⟨f,L,M,hz⟩:=I.list G;obtain⟨g,j⟩:=qan0 L;have N:f.length<=64:=by have:=congrArg Ll j;rw[zA9] at this;lia
 refine S6.sorted6 (kf:=λv=>(numOf v,0)) (kd:=oneType') M.isList N ?_ (λA E h' kp c=>⟨λQ' k=>?_,λx y O P E Q k=>?_⟩) λd p B=>?_;{rw[<-j] at i;unfold List.Nodup at i ⊢;rw[zBu] at i ⊢;exact i.imp λh z=>h (congrArg Prod.fst z)};{obtain⟨v,w,vs,e⟩:=qaY0 c;rw[e] at g ⊢;rw[keyKind_ints g];exact J' k}
 .obtain⟨m,t,C⟩:=g.all _ O;obtain⟨R,S,D⟩:=g.all _ P;rw[keyLt'_oneType,C,D];refine oneLt_int ?_;have e:S6.kl (λv=>(numOf v,0)) x y=decide (m<R):=by simp[S6.kl,S6.plt,C,D,numOf]
  rwa[e] at k
 have T:∀u∈d,∃n t,u=Nv n t:=λu U=>g.all _ (p.mem_iff.mp U);have F:=qam9 T;obtain⟨e,W⟩:=sortedAll_at s.heap f d.toArray;have Y:d.map numOf=B6 l:=qag4 (j ▸ p.map _) (by rw[zBu] at B ⊢;exact B.imp λ{a b} h=>by simp[S6.plt] at h;exact h);rw[Y] at F;refine⟨.ref _,_,I.laid (t':=s.toks) (λb o z=>sortedAll_old z) (Nat.le_succ _) (show ObjOk X.prog X.w _ _ _ (.l ((B6 l).map V.int)) from⟨?_,d,e,F,W⟩),rfl,q _ (I.hok.fresh (Nat.le_succ _))⟩;rw[zA9,List.length_mergeSort,Kj];lia
def qaU2(x:D):Option D:=match x with|.l _ ys=>(intsD ys).bind λns=>gd (ns.Nodup/\ns.length<=64) (.l false ((B6 ns).map D.int))|_=>none
theorem qJ5{F:γ->Prop}{H:Hp}:∀ns:List Int,O6 F H (ns.map V.int) (ns.map D.int) []|[]=>.nil|n::ns=>.cons (A:=[]) (B:=[]) (.int n) (qJ5 ns)
theorem qao9{K:N7}:CS1 true (qaO1 K) qaU2:=by intro F H v x B d Q r h q;cases x with|l z m=>obtain⟨c,e,f⟩:=zA1.mp h;obtain⟨⟨g,i⟩,rfl⟩:=qk0 f;obtain⟨a,n,A,rfl,j,k,_⟩:=r.lst_inv;cases k.intsD e;exact⟨a,c,rfl,.inl (.inl j),g,i,λl b=>q _ _ [l] (qw3 b (qJ5 _)) (Same.new b) (qh2 b)⟩|_=>cases h
end LV
namespace LV
open PySem L2
mutual
def D.plain:D->Bool|.q ds=>D.plains ds|.l z ds=>!z&&D.plains ds|.non=>true | .bl _=>true | .int _=>true | .str _=>true|_=>false
def D.plains:List D->Bool|[]=>true|d::r=>d.plain&&D.plains r
end
theorem Pc.plain{F F':γ->Prop}{H:Hp}{v:V}{d:D}{A:List γ}(r:Pc F H v d A):d.plain=true->Pc F' H v d A:=by induction r using Pc.rec (motive_2:=λc a A _=>D.plains a=true->O6 F' H c a A) with|q e r i=>exact λh=>.q e (i h)|l e r i=>exact λh=>.l e (i h)|non=>exact λ_=>.non|bl b=>exact λ_=>.bl b|int i=>exact λ_=>.int i|str x=>exact λ_=>.str x|nil=>exact O6.nil|cons _ _ i j h=>exact O6.cons (i (zAk.mp h).1) (j (zAk.mp h).2)|_=>nofun
end LV
namespace LV
open PySem L2 PyProof.Rows
section
variable{c:Vc}{X:Cx}{e:Kz}{o n:VT}{s:VSp}
def tOrT(o n:VT):VT:=λds Q xe=>o ds Q xe∨n ds Q xe
theorem eAlt(g:VE c X e o)(i:VE c X e n):VE c X e (tOrT o n):=by refine⟨λD8 s l H Q I b=>?_,λd Q Q' f k j a=>O4 (g.m _ _ _ _ _ j a) (i.m _ _ _ _ _ j a)⟩;obtain⟨F,d,A,f,S,a,q⟩:=b;rcases q with q|q;{exact g.h D8 s l H Q I ⟨F,d,A,f,S,a,q⟩};exact i.h D8 s l H Q I ⟨F,d,A,f,S,a,q⟩
end
end LV
namespace L2
open PySem PySem.Spec PyProof.Rows
def qay9:V->List V->Hp->VK->Prop:=λx vs H Q=>∃(l:γ)(ns:List Int)(k:Int),x=.ref l/\vs=[.int k]/\H l=some (.l (ns.map V.int))/\k∈ns/\Q .non (upd H l (.l ((ns.erase k).map V.int)))
theorem qZ2{k:Int}:∀{ns:List Int},k∈ns->∃j,ns[j]?=some k/\(∀(m:Nat)(x:Int),m<j->ns[m]?=some x->x≠k)/\ns.eraseIdx j=ns.erase k|y::ns,h=>by by_cases e:y=k;{subst e;exact⟨0,rfl,λm x a=>absurd a (zBw _),by rw[List.erase_cons_head];rfl⟩};obtain⟨j,c,d,f⟩:=qZ2 ((zAi.mp h).resolve_left λz=>e z.symm);refine⟨j+1,c,λm x a b=>?_,by rw[List.erase_cons_tail (by simpa using e),<-f];rfl⟩;cases m with|zero=>cases b;exact e|succ m=>exact d m x ⋯ b
theorem qX3:MtM X "list.remove" qay9:=by
 intro D8 s U H x R v S Q I J K h;obtain⟨l,d,k,rfl,rfl,D,L,q⟩:=h;cases J;obtain⟨u,rfl,M,rfl⟩:=K.one;obtain⟨z,b,n,r,T,e⟩:=I.lstM D;have f:=r.length;rw[zA9] at f;have g:∀m (c:m<b.length),∃t,b[m]=Nv (d[m]'⋯) t:=λm c=>by obtain⟨w,E,t,rfl⟩:=r.get (i:=m) (x:=.int (d[m]'⋯)) (by simp[show m<d.length by lia]);exact⟨t,by rw[zAq c] at E;exact N5 E⟩
 let G:V'->Bool:=λy=>match y with | .int i _=>i==k|_=>false
 obtain⟨j,N,p,A⟩:=qZ2 L;obtain⟨O,B⟩:=zA5.mp N;have o:∀m (c:m<b.toArray.size),G b.toArray[m]=(d[m]'(by simp at c;lia)==k):=λm c=>by
  obtain⟨t,e⟩:=g m (by simpa using c);have e:b.toArray[m]=Nv (d[m]'(by simp at c;lia)) t:=by simpa using e
  rw[e]
 refine Kr Oi ⟨_,e,rfl⟩ F.entry_list_remove (F.args_list_remove_2 _ _) (MeetsSeq.list_remove l b.toArray n (.int k M) G (λy P=>?_) j (by simp;lia) ?_ (λm c C=>?_) (by rw[zA4];lia)) ⟨e,?_⟩;{obtain⟨m,c,rfl⟩:=List.getElem_of_mem (by simpa using P:y∈b);obtain⟨t,e⟩:=g m c;rw[e];exact MeetsSeq.EqGives.int _ _ _ _};{rw[o];simp[B]};{rw[o];exact zCp (p m _ C (by simp[show m<d.length by simp at c;lia]))};refine⟨.non,_,I.lset (its':=b.eraseIdx j) (ys:=(d.erase k).map V.int) D e (by simp) ?_ ?_,rfl,q⟩;{rw[<-A,show (d.eraseIdx j).map V.int=(d.map V.int).eraseIdx j from by simp[L9,L6,Mx]];exact r.eraseIdx _};rw[zA9];have:=List.length_erase_le (a:=k) (l:=d);lia
end L2
namespace LV
open PySem L2 PyProof.Rows
def G1(ys xs:Ds):Option (Ds×D):=match xs with|[.int k]=>(intsD ys).bind λns=>if k∈ns then some ((ns.erase k).map D.int,.non) else none|_=>none
theorem qaN9{ys xs:Ds}{z:Ds×D}(h:G1 ys xs=some z):∃k ns,xs=[.int k]/\intsD ys=some ns/\k∈ns/\z=((ns.erase k).map D.int,.non):=by unfold G1 at h;split at h;{rename_i k;obtain⟨ns,c,a⟩:=zA1.mp h;by_cases b:k∈ns;{rw[if_pos b] at a;exact⟨k,ns,rfl,c,b,(N5 a).symm⟩};rw[if_neg b] at a;cases a};cases h
theorem qaS0:F8 qay9 G1:=by intro F H a n o Ael p s T f d Q g r i h q;obtain⟨k,j,rfl,l,m,e⟩:=qaN9 h;cases e;obtain⟨w,rfl,c⟩:=i.one_inv;obtain rfl:=c.int_inv;cases r.intsD l;exact⟨a,j,k,rfl,rfl,g,m,q _ .non [] [] (qJ5 _) .non λb=>by simp⟩
end LV
namespace LV
open PySem L2
def tSlN(i:Nat)(tb:VT):VT:=λds Q xe=>(rdN i ds).isSome=true/\tb ds (λy ds1=>orF y.asI λh=>orF ((rdN i ds1).bind λx=>if noT x=true then gSl x none (some h) else none) λd=>Q d ds1) xe
theorem eslN(i:Nat)(k:VE c X b tb)(t:X.N[i]?=some x:=by rfl)(j:Vis X.env.scope x:=by first|exact O3 rfl|exact O2 (O3 rfl)|exact O2 (O2 rfl))(G:N' x:=by decide)(l:(x==("__classdict__" : Str))=false:=by decide):VE c X (.Subscript (.Name x p0) (.Slice none (some b) none p2) pos) (tSlN i tb):=by
 refine⟨λD8 s σ H Q I n=>?_,λu Q Q' C J K e=>N4 (k.m _ _ _ _ _ (λd f=>qa5 λh=>qa5 λz=>K z f) e)⟩;obtain⟨F,u,A,C,S,x,L,q⟩:=n;refine qT1 qag5 (qn3 t j G l) qai3 (qai2 k.h) D8 s σ H Q I ?_;have D:=qn7 t D8 σ H s I;obtain⟨W,o⟩:=zB3.mp L;obtain⟨v,B0,j,_,_⟩:=S.name D o;refine⟨v,j,F,u,A,C,S,x,k.m _ _ _ _ _ (λY f q w H1 F1 T A1 M S1 Z O=>?_) (λ_ _ z=>z) q⟩;have p:Pe F H A F1 H1 A1:=O.count λb=>by rw[zA0];lia
 obtain⟨h,P,q⟩:=qa7.mp q;obtain⟨d,a,q⟩:=qa7.mp q;obtain⟨y,R,a⟩:=zA1.mp a;obtain⟨v',B,g,U,_⟩:=S1.name D R;rw[j] at g;cases g;by_cases e:noT y=true;{rw[if_pos e] at a;refine⟨h,M.asI P,os_sl U a (λys z=>by subst z;cases e) λw H' B' V r E=>?_⟩;exact q w H' F1 B' A1 V (S1.same r) (S1.new E r) (p.trans (E.stp r))};rw[if_neg e] at a;cases a
end LV
namespace L2
open PySem PySem.Spec PyProof.Rows
theorem Pg.u64(a:Pg cm k A):A.units+64<cLine:=a.units
end L2
namespace LV
open PySem L2
abbrev VH:=Exn->VTS
end LV
namespace LV
open PySem L2
section
variable{F:γ->Prop}{H:Hp}
theorem Locs.fz(r:Locs F H x ds A):(∀b,F b->F' b)->(∀b∈A,F' b)->Locs F' H x (D.fzs ds) []:=by induction r with|nil=>exact λ_ _=>.nil|no t a=>exact λh q=>.no (a h q)|so h t a=>exact λm q=>.so (h.fz m λb c=>q b (zAb.mpr (.inl c))) (a m λb c=>q b (zAb.mpr (.inr c)))
theorem Locs.but(L:Locs F H x ds A)(f:ds[i]?=some d)(g:τ.length=x.length)(k:∀j,j≠i->τ[j]?=x[j]?):∃A',Locs F H τ (ds.set i .u) A'/\∀b,A'.count b<=A.count b:=by
 obtain⟨σ1,o,σ2,l,n,A1,B,A2,rfl,rfl,p,q,rfl,r,w,s⟩:=L.split f;obtain⟨a,t⟩:∃a,τ[i]?=some a:=⟨_,zAq (by rw[g,zA6,zAp];lia)⟩;have e:τ=σ1++a::σ2:=by apply List.ext_getElem?;intro j;by_cases c:j=i;{subst c;rw[t,qC4 p]};rw[k j c];rcases Nat.lt_or_ge j i with h|h;{rw[zAl ⋯,zAl ⋯]};rw[zBn ⋯,zBn ⋯];obtain⟨m,u⟩:∃m,j-σ1.length=m+1:=⟨j-σ1.length-1,⋯⟩;rw[u];rfl
 rw[e,qo7 q];refine⟨A1++([]++A2),r.append (Locs.cons (o:=a) (d:=.u) (B:=[]) (by cases a with|none=>exact .no|some v=>exact .so (.u v)) s),λb=>?_⟩;simp only[zA0,zB8];lia
end
end LV
namespace L2
open PySem PySem.Spec PyProof.Rows
variable{Q:V'->δ->Prop}{i1 i2 l1 l2 tI tO z:γ}{k:Nat}{x y:V'}{xs ys:Array V'}
abbrev qw0(h:Heap)(z tI tO:γ)(a f1:V'):Prop:=h.get? z=some {cls:=.type "zip",dict:=none,data:=.fields #[a,f1,.bool false,.ref tI,.ref tO],slots:=#[]}
section
variable{prog:Kw}{w:Ky}{A:Kx}{E:V'->δ->Prop}{s:δ}
theorem qV4{Q:Option Obj->δ->Prop}(b:s.heap.get? a=o)(h:Q o s):Ku (Kv prog w) A (loadIfAlive a) Q E s:=by subst b;exact λΓ p c=>(by simpa[loadIfAlive] using h)
theorem qaq6{T:γ}(D:ZipApart z tI tO i1 i2 l1 l2)(b:qw0 s.heap z tI tO (rawInt T) (.bool f1))(r:s.heap.get? T=some o)(h:IsPair s.heap tI (.ref i1) (.ref i2))(h1:s.heap.IsListIter i1 l1 f)(h2:s.heap.IsListIter i2 l2 g)(i:s.heap.IsList l1 xs)(j:s.heap.IsList l2 ys)(t:xs[f]?=some x)(u:ys[g]?=some y)(B:∀h',qw0 h' z tI tO (rawInt T) (.bool true)->h'.IsListIter i1 l1 (f+1)->h'.IsListIter i2 l2 (g+1)->IsPair h' s.heap.objs.size x y->h'.objs.size=s.heap.objs.size+1->(∀c o,c≠z->c≠i1->c≠i2->s.heap.get? c=some o->h'.get? c=some o)->Q (.ref s.heap.objs.size) {s with heap:=h'}):Ku (Kv prog w) A (Builtin.«zip.__next__» ⟨[.ref z],[]⟩) (λfin s'=>∃v,fin=.done (.ret v)/\Q v s') E s:=by
 show Ku _ _ (field (.ref z) 2 >>= _) _ _ _;refine E' (wpAny_field b rfl (x:=.bool false) rfl ?_);show Ku _ _ (field (.ref z) 3 >>= _) _ _ _;refine E' (wpAny_field b rfl (x:=.ref tI) rfl ?_);refine E' (wpAny_seqItems h rfl ?_);show Ku _ _ (Builtin.SmallTypes.ownedTupleIsFree (.ref z) >>= _) _ _ _;refine E' ?_;unfold Builtin.SmallTypes.ownedTupleIsFree;refine E' (wpAny_field b rfl (x:=rawInt T) rfl ?_);show Ku _ _ (loadIfAlive T >>= _) _ _ _;refine E' (W.kdx_alive r ?_);rw[if_neg (by simp)];refine E' (wpAny_field b rfl (x:=.bool f1) rfl ?_);have k:∀K:Bool->δ->Prop,(∀h₁:Heap,qw0 h₁ z tI tO (rawInt T) (.bool true)->h₁.objs.size=s.heap.objs.size->(∀c o,c≠z->s.heap.get? c=some o->h₁.get? c=some o)->K false {s with heap:=h₁})->Ku (Kv prog w) A (if (Nx f1 != Nx true)=true then (setField (.ref z) 1 (.bool true) >>= λ_=>pure false) else pure false) K E s:=λK p=>by cases f1 with|true=>rw[if_neg (by simp)];exact J' (p s.heap b rfl λ_ _ _ e=>e)|false=>rw[if_pos (by simp)];exact E' (wpAny_setField_rec b (by simp) λh₁ hz₁ hs₁=>J' (p h₁ hz₁ hs₁.1 λc o C e=>hs₁.extBut c o C e))
 refine k _ λh₁ hz₁ l d=>?_;simp only[Bool.false_eq_true,if_false,M5,Ls,Mh];refine E' (E' (E' (Kf ?_)));show Ku _ _ (Builtin.SmallTypes.nextOf (.ref i1) >>= _) _ _ _;refine E' (wpAny_nextOf_list_item (h1.at λo e=>d _ o D.i1z e) (i.at λo e=>d _ o D.l1z e) t λh₂ h1₂ hs₂=>J' ?_);refine J' (E' (E' (Kf ?_)));show Ku _ _ (Builtin.SmallTypes.nextOf (.ref i2) >>= _) _ _ _;refine E' (wpAny_nextOf_list_item (((h2.at λo e=>d _ o D.i2z e).extBut hs₂.extBut D.i12.symm)) ((j.at λo e=>d _ o D.l2z e).extBut hs₂.extBut D.l2i1) u λh₃ h2₃ hs₃=>J' ?_);refine J' (J' ?_);show Ku _ _ (newTuple [x,y] >>= _) _ _ {s with heap:=h₃};refine E' (wpAny_newTuple (J' ⟨_,rfl,?_⟩));have a:h₃.objs.size=s.heap.objs.size:=by rw[hs₃.1,hs₂.1];exact l
 have q:∀c o,c≠i1->c≠i2->h₁.get? c=some o->(h₃.push {cls:=.type "tuple",data:=.seq #[x,y]}).get? c=some o:=λc o m n e=>zA3 _ (hs₃.extBut _ _ n (hs₂.extBut _ _ m e));have:=B (h₃.push {cls:=.type "tuple",data:=.seq #[x,y]}) (q _ _ D.i1z.symm D.i2z.symm hz₁) ((h1₂.extBut hs₃.extBut D.i12).at λo e=>zA3 _ e) (h2₃.at λo e=>zA3 _ e) (by rw[<-a];exact zAo _ rfl) (by rw[zCh,a]) λc o F m n e=>q c o m n (d c o F e);rw[<-a] at this;exact this
theorem qaq7{T:γ}(D:ZipApart z tI tO i1 i2 l1 l2)(i:qw0 s.heap z tI tO (rawInt T) f1)(X:s.heap.get? T=none)(u:IsPair s.heap tI (.ref i1) (.ref i2))(B:IsPair s.heap tO a b)(h1:s.heap.IsListIter i1 l1 n)(h2:s.heap.IsListIter i2 l2 p)(C:s.heap.IsList l1 xs)(F:s.heap.IsList l2 ys)(Y:xs[n]?=some x)(Z:ys[p]?=some y)(hQ:∀h',qw0 h' z tI tO (rawInt s.heap.objs.size) (.bool false)->IsPair h' tO x y->h'.IsListIter i1 l1 (n+1)->h'.IsListIter i2 l2 (p+1)->IsPair h' s.heap.objs.size x y->h'.objs.size=s.heap.objs.size+1->(∀c o,c≠z->c≠tO->c≠i1->c≠i2->s.heap.get? c=some o->h'.get? c=some o)->Q (.ref s.heap.objs.size) {s with heap:=h'}):Ku (Kv prog w) A (Builtin.«zip.__next__» ⟨[.ref z],[]⟩) (λfin s'=>∃v,fin=.done (.ret v)/\Q v s') E s:=by
 show Ku _ _ (field (.ref z) 2 >>= _) _ _ _;refine E' (wpAny_field i rfl (x:=.bool false) rfl ?_);show Ku _ _ (field (.ref z) 3 >>= _) _ _ _;refine E' (wpAny_field i rfl (x:=.ref tI) rfl (E' (wpAny_seqItems u rfl ?_)));show Ku _ _ (Builtin.SmallTypes.ownedTupleIsFree (.ref z) >>= _) _ _ _;refine E' ?_;unfold Builtin.SmallTypes.ownedTupleIsFree;refine E' (wpAny_field i rfl (x:=rawInt T) rfl ?_);show Ku _ _ (loadIfAlive T >>= _) _ _ _;refine E' (qV4 (o:=none) X ?_);rw[if_pos (show (none:Option Obj).isNone=true from rfl)];refine J' ?_;simp only[if_true];refine E' (Ko (E' (wpAny_field i rfl (x:=.ref tO) rfl (E' (wpAny_setField_rec i (by simp) λha G sa=>?_)))));replace G:qw0 ha z tI tO .ellipsis f1:=G;refine E' ?_;simp only[Mn,Ni,Ls,Mh];refine E' (E' (wpAny_onRaise ?_));show Ku _ _ (Builtin.SmallTypes.nextOf (.ref i1) >>= _) _ _ _;refine E' (wpAny_nextOf_list_item (h1.extBut sa.extBut D.i1z) (C.extBut sa.extBut D.l1z) Y λhb jb g=>J' ?_);have P:IsPair hb tO a b:=g.extBut _ _ D.TOi1 (sa.extBut _ _ D.TOz B);refine E' (wpAny_seqItems P rfl (E' (wpAny_updateSeq_pair P λhc H h=>E' (wpAny_letGo (J' ?_)))));replace H:IsPair hc tO x b:=H;refine E' (E' (wpAny_onRaise ?_));show Ku _ _ (Builtin.SmallTypes.nextOf (.ref i2) >>= _) _ _ _;refine E' (wpAny_nextOf_list_item (((h2.extBut sa.extBut D.i2z).extBut g.extBut D.i12.symm).extBut h.extBut D.TOi2.symm) (((F.extBut sa.extBut D.l2z).extBut g.extBut D.l2i1).extBut h.extBut D.l2TO) Z λhd jd j=>J' ?_);have R:IsPair hd tO x b:=j.extBut _ _ D.TOi2 H;refine E' (wpAny_seqItems R rfl (E' (wpAny_updateSeq_pair R λd te k=>E' (wpAny_letGo (J' (J' ?_))))));replace te:IsPair d tO x y:=te;refine E' (wpAny_seqItems te rfl (E' (wpAny_newTuple ?_)));have S:d.objs.size=s.heap.objs.size:=by rw[k.1,j.1,h.1,g.1,sa.1]
 have ke:∀c o,c≠z->c≠tO->c≠i1->c≠i2->s.heap.get? c=some o->d.get? c=some o:=λc o f q I J e=>k.extBut _ _ q (j.extBut _ _ J (h.extBut _ _ q (g.extBut _ _ I (sa.extBut _ _ f e))));have U:qw0 d z tI tO .ellipsis f1:=k.extBut _ _ D.TOz.symm (j.extBut _ _ D.i2z.symm (h.extBut _ _ D.TOz.symm (g.extBut _ _ D.i1z.symm G)));have V:z<d.objs.size:=zAc U;have K:d.IsListIter i1 l1 (n+1):=((jb.extBut h.extBut D.TOi1.symm).extBut j.extBut D.i12).extBut k.extBut D.TOi1.symm;have L:d.IsListIter i2 l2 (p+1):=jd.extBut k.extBut D.TOi2.symm;show Ku _ _ (Builtin.SmallTypes.ownedTupleHandOut (.ref z) (.ref d.objs.size) >>= _) _ _ _;refine E' ?_;unfold Builtin.SmallTypes.ownedTupleHandOut;have zf:qw0 (d.push {cls:=.type "tuple",data:=.seq #[x,y]}) z tI tO .ellipsis f1:=zA3 _ U;refine E' (wpAny_setField_rec zf (by simp) λhg M N=>?_);replace M:qw0 hg z tI tO (rawInt d.objs.size) f1:=M;refine wpAny_setField_rec M (by simp) λl r O=>J' ⟨_,rfl,?_⟩;replace r:qw0 l z tI tO (rawInt d.objs.size) (.bool false):=r;have t:∀c o,c≠z->d.get? c=some o->l.get? c=some o:=λc o f e=>O.extBut _ _ f (N.extBut _ _ f (zA3 _ e));have W:IsPair l d.objs.size x y:=O.extBut _ _ (Nat.ne_of_gt V) (N.extBut _ _ (Nat.ne_of_gt V) (zAo _ rfl));have m:l.objs.size=d.objs.size+1:=by rw[O.1,N.1,zCh]
 rw[S] at r W m;show Q (.ref d.objs.size) _;rw[S];exact hQ l r (t _ _ D.TOz te) (K.at λo e=>t _ o D.i1z e) (L.at λo e=>t _ o D.i2z e) W m λc o f q I J e=>t c o f (ke c o f q I J e)
def ZSt(z tI tO i1 i2 l1 l2:γ)(k:Nat)(h:Heap):Prop:=(∃c f1,qw0 h z tI tO c (.bool f1)/\(c=.none/\f1=false∨∃T:Nat,c=rawInt T))/\IsPair h tI (.ref i1) (.ref i2)/\(∃a b,IsPair h tO a b)/\h.IsListIter i1 l1 k/\h.IsListIter i2 l2 k
theorem ZSt.at_(st:ZSt z tI tO i1 i2 l1 l2 k h)(d:∀c∈[z,tI,tO,i1,i2],∀o,h.get? c=some o->h'.get? c=some o):ZSt z tI tO i1 i2 l1 l2 k h':=by obtain⟨⟨i,f1,j,l⟩,f,⟨a,b,g⟩,m,n⟩:=st;exact⟨⟨i,f1,d z (by simp) _ j,l⟩,d tI (by simp) _ f,⟨a,b,d tO (by simp) _ g⟩,m.at λo e=>d i1 (by simp) o e,n.at λo e=>d i2 (by simp) o e⟩
theorem ZSt.typ(st:ZSt z tI tO i1 i2 l1 l2 k s.heap):s.TypeIs (.ref z) "zip" := by
 obtain⟨⟨b,f1,a,_⟩,_⟩:=st;exact⟨_,a,rfl⟩
theorem qak1(D:ZipApart z tI tO i1 i2 l1 l2)(st:ZSt z tI tO i1 i2 l1 l2 k s.heap)(f:s.heap.IsList l1 xs)(g:s.heap.IsList l2 ys)(p:xs[k]?=some x)(q:ys[k]?=some y)(r:∀h',ZSt z tI tO i1 i2 l1 l2 (k+1) h'->IsPair h' s.heap.objs.size x y->h'.objs.size=s.heap.objs.size+1->(∀c o,c≠z->c≠tO->c≠i1->c≠i2->s.heap.get? c=some o->h'.get? c=some o)->Q (.ref s.heap.objs.size) {s with heap:=h'}):Ku (Kv prog w) A (Builtin.SmallTypes.nextOf (.ref z)) Q E s:=by unfold Builtin.SmallTypes.nextOf;refine E' (wpAny_callSpecial?_slot (name:=Str.ofString "__next__") st.typ Of (wpAny_call_entry Of st.typ Op ?_ (Oo _)));obtain⟨⟨K,f1,t,G⟩,d,⟨a,b,h⟩,u,v⟩:=st;rcases G with⟨rfl,rfl⟩|⟨T,rfl⟩;{exact zip_next_item D t d h u v f g p q λh' i B j l m n e=>J' (r h' ⟨⟨_,_,i,.inr ⟨_,rfl⟩⟩,e _ _ D.TIz D.TITO D.TIi1 D.TIi2 d,⟨_,_,B⟩,j,l⟩ m n e)};cases C:s.heap.get? T with|none=>exact qaq7 D t C d h u v f g p q λh' i B j l m n e=>J' (r h' ⟨⟨_,_,i,.inr ⟨_,rfl⟩⟩,e _ _ D.TIz D.TITO D.TIi1 D.TIi2 d,⟨_,_,B⟩,j,l⟩ m n e)|some o=>exact qaq6 D t C d u v f g p q λh' i j l m n e=>J' (r h' ⟨⟨_,_,i,.inr ⟨_,rfl⟩⟩,e _ _ D.TIz D.TIi1 D.TIi2 d,⟨_,_,e _ _ D.TOz D.TOi1 D.TOi2 h⟩,j,l⟩ m n λc o H _ I J=>e c o H I J)
theorem qI9(l:A.handled=none)(D:ZipApart z tI tO i1 i2 l1 l2)(st:ZSt z tI tO i1 i2 l1 l2 k s.heap)(f:s.heap.IsList l1 xs)(m:s.heap.IsList l2 ys)(n:xs[k]?=none)(p:∀h' e,(∀c o,c≠z->c≠tO->c≠i1->c≠i2->s.heap.get? c=some o->h'.get? c=some o)->(∃o,h'.get? e=some o/\o.cls=.type "StopIteration")->E (.ref e) {s with heap:=h'}):Ku (Kv prog w) A (Builtin.SmallTypes.nextOf (.ref z)) Q E s:=by
 unfold Builtin.SmallTypes.nextOf;refine E' (wpAny_callSpecial?_slot (name:=Str.ofString "__next__") st.typ Of (wpAny_call_entry Of st.typ Op ?_ (Oo _)));obtain⟨⟨W,f1,d,O⟩,h,⟨a,b,r⟩,t,P⟩:=st;rcases O with⟨rfl,rfl⟩|⟨T,rfl⟩;{exact zip_next_end l D d h r t P f m (.inl n) p};show Ku _ _ (field (.ref z) 2 >>= _) _ _ _;refine E' (wpAny_field d rfl (x:=.bool false) rfl ?_);show Ku _ _ (field (.ref z) 3 >>= _) _ _ _;refine E' (wpAny_field d rfl (x:=.ref tI) rfl (E' (wpAny_seqItems h rfl ?_)));show Ku _ _ (Builtin.SmallTypes.ownedTupleIsFree (.ref z) >>= _) _ _ _;refine E' ?_;unfold Builtin.SmallTypes.ownedTupleIsFree;refine E' (wpAny_field d rfl (x:=rawInt T) rfl ?_);show Ku _ _ (loadIfAlive T >>= _) _ _ _;cases I:s.heap.get? T with
 |some o=>
  refine E' (qV4 I ?_);rw[if_neg (by simp)];refine E' (wpAny_field d rfl (x:=.bool f1) rfl ?_);have u:∀(B:Kx)(K:Bool->δ->Prop)(F:V'->δ->Prop),(∀h₁:Heap,(∀c o,c≠z->s.heap.get? c=some o->h₁.get? c=some o)->K false {s with heap:=h₁})->Ku (Kv prog w) B (if (Nx f1 != Nx true)=true then (setField (.ref z) 1 (.bool true) >>= λ_=>pure false) else pure false) K F s:=λB K F J=>by cases f1 with|true=>rw[if_neg (by simp)];exact J' (J s.heap λ_ _ _ e=>e)|false=>rw[if_pos (by simp)];exact E' (wpAny_setField_rec d (by simp) λh₁ hz₁ hs₁=>J' (J h₁ λc o v e=>hs₁.extBut c o v e))
  refine u _ _ _ λh₁ y=>?_;simp only[Bool.false_eq_true,if_false,M5,Ls,Mh];refine E' (E' (E' (Kf ?_)));show Ku _ _ (Builtin.SmallTypes.nextOf (.ref i1) >>= _) _ _ _;exact E' (wpAny_nextOf_list_end l (t.at λo e=>y _ o D.i1z e) (f.at λo e=>y _ o D.l1z e) n λh₂ e hs₂ C=>p h₂ e (λc o j _ G _ q=>hs₂ _ _ G (y c o j q)) C)
 |none=>
  refine E' (qV4 I ?_);rw[if_pos (show (none:Option Obj).isNone=true from rfl)];refine J' ?_;simp only[if_true];refine E' (Ko (E' (wpAny_field d rfl (x:=.ref tO) rfl (E' (wpAny_setField_rec d (by simp) λR H sa=>?_)))));replace H:qw0 R z tI tO .ellipsis (.bool f1):=H;refine E' ?_;simp only[Mn,Ni,Ls,Mh];refine E' (E' (wpAny_onRaise ?_));show Ku _ _ (Builtin.SmallTypes.nextOf (.ref i1) >>= _) _ _ _;refine E' (wpAny_nextOf_list_end l (t.extBut sa.extBut D.i1z) (f.extBut sa.extBut D.l1z) n λS e L C=>?_);obtain⟨U,g,i⟩:=C;have M:qw0 S z tI tO .ellipsis (.bool f1):=L _ _ D.i1z.symm H;have V:e≠z:=λq=>by subst q;rw[M] at g;cases g;simp at i
  exact wpAny_setField_rec M (by simp) λv _ N=>p v e (λc o j _ G _ q=>N.extBut _ _ j (L _ _ G (sa.extBut _ _ j q))) ⟨U,N.extBut _ _ V g,i⟩
theorem qaK2{i:Nat}{Q:Option V'->δ->Prop}(D:ZipApart z tI tO i1 i2 l1 l2)(h:IsEnum s.heap e z i a)(st:ZSt z tI tO i1 i2 l1 l2 i s.heap)(m:e∉[z,tI,tO,i1,i2])(n:s.heap.IsList l1 xs)(p:s.heap.IsList l2 ys)(U:xs[i]?=some x)(V:ys[i]?=some y)(W:∀h',IsEnumOut h' e z ((i:Int)+1) (.ref s.heap.objs.size) (s.heap.objs.size+1)->ZSt z tI tO i1 i2 l1 l2 (i+1) h'->IsPair h' s.heap.objs.size x y->IsPair h' (s.heap.objs.size+1) (.int i s.toks) (.ref s.heap.objs.size)->h'.objs.size=s.heap.objs.size+2->(∀c o,c≠e->c≠z->c≠tO->c≠i1->c≠i2->s.heap.get? c=some o->h'.get? c=some o)->Q (some (.ref (s.heap.objs.size+1))) {s with heap:=h',toks:=s.toks+1}):Ku (Kv prog w) A (pyNext (.ref e)) Q E s:=by
 have J:s.TypeIs (.ref e) "enumerate" := ⟨_,h,rfl⟩;have j:e≠z/\e≠tI/\e≠tO/\e≠i1/\e≠i2:=by simpa using m
 unfold pyNext;refine E' (wpAny_attempt (wpAny_callSpecial?_slot (name:=Str.ofString "__next__") J Oc (wpAny_call_entry Oc J Om ?_ (Oj _))));show Ku _ _ (field (.ref e) 2 >>= _) _ _ _;refine E' (wpAny_field h rfl (x:=.ref z) rfl (E' (qak1 D st n p U V λf X Y sa K=>?_)));have r:IsEnum f e z i a:=K _ _ j.1 j.2.2.1 j.2.2.2.1 j.2.2.2.2 h;show Ku _ _ (field (.ref e) 3 >>= _) _ _ {s with heap:=f};refine E' (wpAny_field r rfl (x:=rawInt i) rfl ?_);show Ku _ _ (field (.ref e) 4 >>= _) _ _ {s with heap:=f};refine E' (wpAny_field r rfl (x:=.none) rfl ?_);show Ku _ _ (mkInt i >>= _) _ _ {s with heap:=f};refine E' (wpAny_mkInt ?_);show Ku _ _ (setField (.ref e) 3 (rawInt ((i:Int)+1)) >>= _) _ _ {s with heap:=f,toks:=s.toks+1};refine E' (wpAny_setField_rec r (by simp) λL t M=>?_);replace t:IsEnum L e z ((i:Int)+1) a:=t;show Ku _ _ (setField (.ref e) 4 .none >>= _) _ _ {s with heap:=L,toks:=s.toks+1};refine E' (wpAny_setField_rec t (by simp) λd ec N=>?_);replace ec:IsEnum d e z ((i:Int)+1) a:=ec;show Ku _ _ (newTuple [.int i s.toks,.ref s.heap.objs.size] >>= _) _ _ {s with heap:=d,toks:=s.toks+1};refine E' (wpAny_newTuple ?_);have u:d.objs.size=s.heap.objs.size+1:=by rw[N.1,M.1];exact sa
 have Z:∀c o,c≠e->f.get? c=some o->d.get? c=some o:=λc o b q=>N.extBut _ _ b (M.extBut _ _ b q);have el:e<d.objs.size:=zAc ec;generalize k:d.push {cls:=.type "tuple",data:=.seq #[.int i s.toks,.ref s.heap.objs.size]}=g;have zd:g.objs.size=s.heap.objs.size+2:=by rw[<-k,zCh,u]
 have td:IsPair g (s.heap.objs.size+1) (.int i s.toks) (.ref s.heap.objs.size):=by rw[<-k,<-u];exact zAo _ rfl
 have v:∀c o,c≠e->f.get? c=some o->g.get? c=some o:=λc o b q=>by rw[<-k];exact zA3 _ (Z c o b q)
 have B:IsEnum g e z ((i:Int)+1) a:=by rw[<-k];exact zA3 _ ec
 show Ku _ _ (Builtin.SmallTypes.ownedTupleIsFree (.ref e) >>= _) _ _ {s with heap:=g,toks:=s.toks+1};rw[u];refine E' ?_;unfold Builtin.SmallTypes.ownedTupleIsFree;refine E' (wpAny_field B rfl (x:=.none) rfl (J' ?_));simp only[if_true];refine E' (Ko (E' (wpAny_field B rfl (x:=a) rfl (E' (wpAny_setField_rec B (by simp) λO C P=>?_)))));replace C:IsEnum O e z ((i:Int)+1) (.ref s.heap.objs.size):=C;show Ku _ _ (Builtin.SmallTypes.ownedTupleHandOut (.ref e) (.ref (s.heap.objs.size+1)) >>= _) _ _ {s with heap:=O,toks:=s.toks+1};refine E' ?_;unfold Builtin.SmallTypes.ownedTupleHandOut;refine E' (wpAny_setField_rec C (by simp) λhg G R=>?_);replace G:IsEnumOut hg e z ((i:Int)+1) (.ref s.heap.objs.size) (s.heap.objs.size+1:Nat):=G;refine wpAny_setField_rec G (by simp) λH I S=>?_;replace I:IsEnumOut H e z ((i:Int)+1) (.ref s.heap.objs.size) (s.heap.objs.size+1:Nat):=I;have l:∀c o,c≠e->g.get? c=some o->H.get? c=some o:=λc o b q=>S.extBut _ _ b (R.extBut _ _ b (P.extBut _ _ b q));have T:s.heap.objs.size≠e:=Nat.ne_of_gt (zAc h);have e1:s.heap.objs.size+1≠e:=Nat.ne_of_gt (Nat.lt_succ_of_lt (zAc h));refine E' (wpAny_letGo (J' ⟨_,rfl,J' (W H I (X.at_ λc d o q=>l c o (λz=>m (z ▸ d)) (v c o (λz=>m (z ▸ d)) q)) (l _ _ T (v _ _ T Y)) (l _ _ e1 td) (by rw[S.1,R.1,P.1,zd]) λc o b c1 c2 c3 c4 q=>l c o b (v c o b (K c o c1 c2 c3 c4 q)))⟩))
end
end L2
namespace PySem
open Spec PyProof.Rows
theorem qq5(z tI tO:γ):Meets (Builtin.«enumerate.__new__» ⟨[.type "enumerate",.ref z],[]⟩) (λ_ R s=>IsZip s.heap z tI tO .none/\R (.ok (.ret (.ref s.heap.objs.size))) {s with heap:=s.heap.push {cls:=.type "enumerate",data:=.fields #[.none,.bool false,.ref z,rawInt 0,.none,.none]} }) :=
 .of_wp λprog w A R s h=>by
  obtain⟨e,g,d,f,i⟩:=s;obtain⟨a,h⟩:=h;have b:=sub_enumerate
  wp_walk using wpAny_loadPart' a
  refine wpAny_stack_any λj=>J' ?_
  split
  .rename_i c _ _ _ _ _
   cases (c==N0 "enumerate")
   .wp_walk using wpAny_loadPart' a,wpAny_pyIter_zip a
    exact⟨_,rfl,h⟩
   wp_walk using wpAny_loadPart' a,wpAny_pyIter_zip a
   exact⟨_,rfl,h⟩
  wp_walk using wpAny_loadPart' a,wpAny_pyIter_zip a
  exact⟨_,rfl,h⟩
end PySem
namespace L2
open PySem PySem.Spec PyProof.Rows
variable{tI tO z:γ}
section
variable{prog:Kw}{w:Ky}{A:Kx}{E:V'->δ->Prop}{s:δ}
theorem qv8(d:IsZip s.heap z tI tO .none)(h:∀h',IsEnum h' s.heap.objs.size z 0 .none->h'.objs.size=s.heap.objs.size+1->(∀b o,s.heap.get? b=some o->h'.get? b=some o)->Q (.ref s.heap.objs.size) {s with heap:=h'}):Ku (Kv prog w) A (call (.type "enumerate") [.ref z]) Q E s:=by refine callType_new F.called_enumerate ∅ (F.typeCall_enumerate_1 _) (F.newCall_enumerate_1 _) (λa=>F.args_object_init_2 a _) F.entry_enumerate_new (qq5 z tI tO) ⟨d,?_⟩;have c:IsEnum (s.heap.push {cls:=.type "enumerate",data:=.fields #[.none,.bool false,.ref z,rawInt 0,.none,.none]}) s.heap.objs.size z 0 .none:=zAo _ rfl;exact⟨⟨_,c,rfl⟩,h _ c (zCh ..) λb o x=>zA3 _ x⟩
theorem qaV9{i:Nat}(l:A.handled=none)(D:ZipApart z tI tO i1 i2 l1 l2)(j:IsEnum s.heap e z i a)(st:ZSt z tI tO i1 i2 l1 l2 i s.heap)(d:s.heap.IsList l1 xs)(f:s.heap.IsList l2 ys)(m:xs[i]?=none)(n:∀h',(∀c o,c≠z->c≠tO->c≠i1->c≠i2->s.heap.get? c=some o->h'.get? c=some o)->Q none {s with heap:=h'}):Ku (Kv prog w) A (pyNext (.ref e)) Q E s:=by have k:s.TypeIs (.ref e) "enumerate" := ⟨_,j,rfl⟩;unfold pyNext;refine E' (wpAny_attempt (wpAny_callSpecial?_slot (name:=Str.ofString "__next__") k Oc (wpAny_call_entry Oc k Om ?_ (Oj _))));show Ku _ _ (field (.ref e) 2 >>= _) _ _ _;refine E' (wpAny_field j rfl (x:=.ref z) rfl ?_);refine E' (qI9 l D st d f m λh' x g h=>?_);obtain⟨o,p,q⟩:=h;refine E' (wpAny_isInstance (T := "StopIteration") (b:=true) ⟨o,p,q⟩ isSubtype_stop ?_);exact J' (n _ g)
end
def Itz(K:N7)(a b:γ):It:=⟨λi H=>∃xs ys x y,SqL K H a xs/\SqL K H b ys/\xs[i]?=some x/\ys[i]?=some y,
  λi H v H'=>∃t p x y,v=.ref t/\H p=none/\upd H p (.q [x,y]) t=none/\H'=upd (upd H p (.q [x,y])) t (.q [.int (i:Int),.ref p])/\(∀xs,SqL K H a xs->xs[i]?=some x)/\(∀ys,SqL K H b ys->ys[i]?=some y),
  λi H=>∃xs ys,SqL K H a xs/\SqL K H b ys/\xs.length<=i⟩
theorem qae9{P:Kw}{w:Ky}{K:N7}{elts:List Kz}{x1:Nat}{pos:Pos}{a b i1 i2 e:γ}(D:ZipApart z tI tO i1 i2 a b)(hn:e∉[z,tI,tO,i1,i2]):F9 P w K (.Tuple elts x1 pos) (Itz K a b) [e,z,tI,tO,i1,i2] e (λi h=>(∃g,IsEnum h e z (i:Nat) g)/\ZSt z tI tO i1 i2 a b i h) where
 mem:=by simp
 obj:=λi h l c d=>by
  obtain⟨⟨g,n⟩,⟨f0,f1,j,_⟩,A,⟨x,y,B⟩,⟨o1,G,_,d1⟩,⟨o2,C,_,d2⟩⟩:=l;simp only[zAi,zBk,or_false] at d;rcases d with rfl|rfl|rfl|rfl|rfl|rfl
  .exact⟨_,n,λv z=>by have F:Data.fields _=Data.cell v:=z;cases F⟩
  .exact⟨_,j,λv z=>by have F:Data.fields _=Data.cell v:=z;cases F⟩
  .exact⟨_,A,λv z=>by have F:Data.seq _ _=Data.cell v:=z;cases F⟩
  .exact⟨_,B,λv z=>by have F:Data.seq _ _=Data.cell v:=z;cases F⟩
  .exact⟨o1,G,λv z=>by rw[d1] at z;cases z⟩
  exact⟨o2,C,λv z=>by rw[d2] at z;cases z⟩
 keep:=λi h h' l k=>by
  obtain⟨⟨g,n⟩,l⟩:=l;exact⟨⟨g,k e (by simp) _ n⟩,l.at_ λc d o q=>k c (zA7 _ d) o q⟩
 item:=by
  intro X L M N d i D8 s W H E I J l O;subst L M N;obtain⟨xs,ys,x,y,p,r,Q,hy⟩:=O;obtain⟨⟨g,n⟩,j⟩:=l;obtain⟨ix,R,S,_⟩:=I.list p;obtain⟨iy,ry,T,_⟩:=I.list r;obtain⟨u,hu,ru⟩:=R.get Q;obtain⟨v,hv,rv⟩:=ry.get hy;have lt:∀c∈[e,z,tI,tO,i1,i2],c<s.heap.objs.size:=λc d=>by
   obtain⟨⟨f0,f1,j,_⟩,A,⟨x,y,B⟩,⟨o1,G,_,d1⟩,⟨o2,C,_,d2⟩⟩:=j;simp only[zAi,zBk,or_false] at d;rcases d with rfl|rfl|rfl|rfl|rfl|rfl
   .exact zAc n
   .exact zAc j
   .exact zAc A
   .exact zAc B
   .exact zAc G
   exact zAc C
  refine qaK2 D n j hn S.isList T.isList (x:=u) (y:=v) (by simpa using hu) (by simpa using hv) λG U V Y Z a3 a0=>?_
  refine⟨_,rfl,wpAny_letOwnedTupleGo_enum (s:={s with heap:=G,toks:=s.toks+1}) U λC a1 t=>?_⟩
  replace t:Heap.SameBut e G C:=t
  have I0:Pd X D8 W (upd H s.heap.objs.size (.q [x,y])) {s with heap:=s.heap.push {cls:=.type "tuple",data:=.seq #[u,v]},toks:=s.toks}:=I.laid (λb o q=>zA3 _ q) (zA2 _) ⟨by show 2<=Kc;decide,[u,v],.cons ru (.cons rv .nil),⟨_,zAo _ rfl,rfl,_,rfl⟩⟩
  have m:(s.heap.push {cls:=.type "tuple",data:=.seq #[u,v]}).objs.size=s.heap.objs.size+1:=zCh ..;generalize es:s.heap.push {cls:=.type "tuple",data:=.seq #[u,v]}=g1 at I0 m;have gp:g1.get? s.heap.objs.size=some {cls:=.type "tuple",data:=.seq #[u,v]}:=by rw[<-es];exact zAo _ rfl
  have a2:(upd H s.heap.objs.size (.q [x,y])) (s.heap.objs.size+1)=none:=I0.hok.fresh (by show g1.objs.size<=_;rw[m];exact zA2 _);have I1:Pd X D8 W (upd (upd H s.heap.objs.size (.q [x,y])) (s.heap.objs.size+1) (.q [.int (i:Int),.ref s.heap.objs.size])) {s with heap:=g1.push {cls:=.type "tuple",data:=.seq #[.int i s.toks,.ref s.heap.objs.size]},toks:=s.toks+1}:=by
   refine I0.laid (s:={s with heap:=g1,toks:=s.toks}) (λb o q=>zA3 _ q) (by show g1.objs.size<=_;rw[m];exact zA2 _) ⟨by show 2<=Kc;decide,[.int i s.toks,.ref s.heap.objs.size],.cons ⟨_,rfl⟩ (.cons rfl .nil),⟨{cls:=.type "tuple",data:=.seq #[.int i s.toks,.ref s.heap.objs.size]},?_,rfl,_,rfl⟩⟩;rw[<-m];exact zAo _ rfl
  have nb:∀c∈[e,z,tI,tO,i1,i2],(upd (upd H s.heap.objs.size (.q [x,y])) (s.heap.objs.size+1) (.q [.int (i:Int),.ref s.heap.objs.size])) c=none:=λc d=>by
   rw[qd1 (zAt (Nat.lt_succ_of_lt (lt c d))),qd1 (zAt (lt c d))];exact(J c d).1
  have I2:Pd X D8 W (upd (upd H s.heap.objs.size (.q [x,y])) (s.heap.objs.size+1) (.q [.int (i:Int),.ref s.heap.objs.size])) {s with heap:=C,toks:=s.toks+1}:=by
   refine Pd.turnedL (s:={s with heap:=g1.push {cls:=.type "tuple",data:=.seq #[.int i s.toks,.ref s.heap.objs.size]},toks:=s.toks+1}) (h':=C) (ch:=[e,z,tI,tO,i1,i2]) (t':=s.toks+1) I1 (λb o f q=>?_) (λb f=>⟨nb b f,(J b f).2⟩);simp only[zAi,zBk,or_false,not_or] at f;refine t.extBut b o f.1 ?_;rcases Heap.get?_push_cases (show (g1.push {cls:=.type "tuple",data:=.seq #[.int i s.toks,.ref s.heap.objs.size]}).get? b=some o from q) with⟨rfl,rfl⟩|q
   .rw[m];exact Z
   rw[<-es] at q;rcases Heap.get?_push_cases q with⟨rfl,rfl⟩|q
   .exact Y
   exact a0 b o f.1 f.2.1 f.2.2.2.1 f.2.2.2.2.1 f.2.2.2.2.2 q
  refine⟨.ref (s.heap.objs.size+1),_,I2,rfl,⟨_,s.heap.objs.size,x,y,rfl,I.hok.fresh (zA2 _),a2,rfl,λzs j=>by rw[I.list_inj j p];exact Q,λzs j=>by rw[I.list_inj j r];exact hy⟩,⟨⟨.ref s.heap.objs.size,?_⟩,?_⟩,nb⟩
  .have:((i+1:Nat):Int)=(i:Int)+1:=by push_cast;rfl
   rw[this];exact a1
  exact V.at_ λc d o q=>t.extBut c o (λz=>hn (z ▸ d)) q
 done:=by
  intro X L M N d i D8 s W H E I J l O;subst L M N;obtain⟨xs,ys,p,r,Q⟩:=O;obtain⟨⟨g,n⟩,j⟩:=l;obtain⟨ix,R,S,_⟩:=I.list p;obtain⟨iy,ry,T,_⟩:=I.list r;have hl:=R.length;refine qaV9 (I.ok.hd d) D n j S.isList T.isList (by simp;lia) λh' eb=>⟨rfl,Pd.turnedL (ch:=[e,z,tI,tO,i1,i2]) (t':=s.toks) I (λb o f q=>?_) J⟩
  simp only[zAi,zBk,or_false,not_or] at f;exact eb b o f.2.1 f.2.2.2.1 f.2.2.2.2.1 f.2.2.2.2.2 q
 self:=λ_ _ _ _ _ l h=>by
  obtain⟨⟨g,n⟩,_⟩:=l;exact wpAny_pyIter_enum n h
section
variable{X:Cx}
def iEnz(K:N7)(ta:TA):TI:=λσ H R=>ta σ H λvs H1=>∃a b,vs=[.ref a,.ref b]/\(∃xs,SqL K H1 a xs)/\(∃ys,SqL K H1 b ys)/\R (Itz K a b) H1
theorem qaZ6(N:Gl X "enumerate")(hm:X.mg "enumerate"=none)(u:Gl X "zip")(v:X.mg "zip"=none)(O:PA X [l,r] ta)(P:Kb [l,r] X.env=[(false,eval l X.env),(false,eval r X.env)]:=by rfl)(f:Kb [r] X.env=[(false,eval r X.env)]:=by rfl)(w:Kb [.Call (.Name "zip" p2) [l,r] [] pos2] X.env=[(false,eval (.Call (.Name "zip" p2) [l,r] [] pos2) X.env)]:=by rfl):PI X (.Tuple elts M tpos) (.Call (.Name "enumerate" p) [.Call (.Name "zip" p2) [l,r] [] pos2] [] pos) (iEnz X.K ta):=by
 intro D8 s σ H R I h;refine Call_ (qN9 I N hm boot_enumerate (PyProof.Rows.callWith_type1 ?_ w rfl));show Ku _ _ (spliced ((false,eval _ X.env)::[])) _ _ s;refine Calls.spliced_cons ?_;refine Call_ (qN9 I u v boot_zip (PyProof.Rows.callWith_type1 (thn (O pos2 D8 s σ H _ I h) λY d x=>?_) (by rw[P,f]) (by rw[f];rfl)));obtain⟨Z,H1,I1,Q,S⟩:=x;obtain⟨a,b,e,⟨xs,y⟩,⟨ys,z⟩,q⟩:=S;subst e;cases Q with
 |cons r A=>cases A with
 |cons T A=>
  cases A;cases r;cases T;obtain⟨ix,rx,E,_⟩:=I1.list y;obtain⟨iy,ry,F,_⟩:=I1.list z;have la:a<d.heap.objs.size:=by obtain⟨o,B,_⟩:=E.isList;exact zAc B
  have lb:b<d.heap.objs.size:=by obtain⟨o,B,_⟩:=F.isList;exact zAc B
  refine call_zip_2 E.isList F.isList λg G C D i j k U=>?_;refine Calls.spliced_nil ?_;refine qv8 (s:={d with heap:=g}) G λV t J m=>?_;replace t:IsEnum V g.objs.size (d.heap.objs.size+4) 0 .none:=t;refine wpAny_pyIter_enum t ?_;have W:g.objs.size∉[d.heap.objs.size+4,d.heap.objs.size+2,d.heap.objs.size+3,d.heap.objs.size,d.heap.objs.size+1]:=by rw[k];simp
  refine⟨g.objs.size,_,_,_,H1,rfl,I1.kept (t':=d.toks) λb o q=>m b o (U b o q),qae9 (zipApart_new la lb) W,⟨⟨_,t⟩,?_⟩,λc L=>?_,q⟩;{exact ZSt.at_ (h:=g) ⟨⟨_,_,G,.inl ⟨rfl,rfl⟩⟩,C,⟨_,_,D⟩,i,j⟩ λc _ o q=>m c o q};have n:d.heap.objs.size<=c:=by simp only[zAi,zBk,or_false] at L;rcases L with rfl|rfl|rfl|rfl|rfl|rfl;{rw[k];exact zBq _ _};{exact zBq _ _};{exact zBq _ _};{exact zBq _ _};{exact zA2 _};exact zBq _ _
  exact I1.fpOk n (I1.hok.fresh n)
end
theorem qaV3{K:N7}{g:TG}{tb:TS}{D:Dl}(h:xs.length=ys.length)(Pv:Nat->St->Hp->Prop)(k:Pv 0 E H)(l:∀i E H,Pv i E H->SqL K H a xs/\SqL K H b ys)(n:∀(i:Nat) x y E H p t,xs[i]?=some x->ys[i]?=some y->Pv i E H->H p=none->upd H p (.q [x,y]) t=none->g (.ref t) E (upd (upd H p (.q [x,y])) t (.q [.int (i:Int),.ref p])) λσ2 H2=>tb {D with nx:=Pv (i+1),ct:=Pv (i+1),bk:=D.nx} σ2 H2)(o:∀E H,Pv xs.length E H->D.nx E H):∃W:Nat->Nat->St->Hp->Prop,(∃m,W 0 m E H)/\∀i m E H,W i m E H->((Itz K a b).stop i H/\D.nx E H)∨((Itz K a b).go i H/\∃N:St->Hp->Prop,(∀E' H',N E' H'->∃j,j<m/\W (i+1) j E' H')/\∀x H',(Itz K a b).yld i H x H'->g x E H' λσ2 H2=>tb {D with nx:=N,ct:=N,bk:=D.nx} σ2 H2):=by refine⟨λi m E H=>m=xs.length-i/\i<=xs.length/\Pv i E H,⟨xs.length,by simp,zBb _,k⟩,?_⟩;rintro i m E H ⟨rfl,C,p⟩;obtain⟨d,f⟩:=l i E H p;by_cases c:i<xs.length;{refine .inr ⟨⟨xs,ys,xs[i],ys[i]'(h ▸ c),d,f,by simp[c],by simp[h ▸ c]⟩,Pv (i+1),λE' H' q=>⟨xs.length-(i+1),⋯,rfl,c,q⟩,λx H' y=>?_⟩;obtain⟨t,r,u,v,e,s,w,z,A,B⟩:=y;subst e z;exact n i u v E _ r t (A xs d) (B ys f) p s w};have e:i=xs.length:=⋯;subst e;exact .inl ⟨⟨xs,ys,d,f,zA2 _⟩,o E H p⟩
end L2
namespace LV
open PySem L2
variable{xs:Ds}
noncomputable def zipD(xs ys:Ds):Ds:=Nt (λx y=>D.q [x,y]) xs ys
noncomputable def twoL:Ds->Option (Ds×Ds)|[.l _ xs,.l _ ys]=>some (xs,ys)|_=>none
theorem qaM2(h:twoL xs=some q):∃z z',xs=[.l z q.1,.l z' q.2]:=by unfold twoL at h;split at h;{cases h;exact⟨_,_,rfl⟩};cases h
section
variable{c:Vc}{X:Cx}{tg e l r:Kz}{body:List K4}{g:VTG}{t:VTS}{tr:VTB}{pos:Pos}{F:γ->Prop}{H:Hp}{σ:St}{ds:Ds}{A:List γ}{E:Dl}{en:VEnds}
theorem qax3{i:Nat}(a:xs[i]?=some x)(b:ys[i]?=some y):(enD (zipD xs ys))[i]?=some (.q [.int (i:Int),.q [x,y]]):=by refine qaW1 ?_;unfold zipD;rw[List.getElem?_zipWith,a,b]
theorem qU1(P:VG c X tg g)(S:Pf c F H σ ds A)(l:Lk c E F H A en)(e:Held F H a vs z xs T A)(d:Held F H b k z' ys U A)(hm:D.imms xs=true)(n:D.imms ys=true)(Q:xs.length=ys.length)(q:Bw g t en (enD (zipD xs ys)) ds):∃W:Nat->Nat->St->Hp->Prop,(∃m,W 0 m σ H)/\∀i m σ H,W i m σ H->((Itz K a b).stop i H/\E.nx σ H)∨((Itz K a b).go i H/\∃N:St->Hp->Prop,(∀σ' H',N σ' H'->∃J,J<m/\W (i+1) J σ' H')/\∀x H',(Itz K a b).yld i H x H'->E7 c g x σ H' λσ2 H2=>Es c t {E with nx:=N,ct:=N,bk:=E.nx} σ2 H2):=by refine qaV3 (xs:=vs) (ys:=k) (by rw[e.len,d.len,Q]) (λi σ H=>∃F ds A,Pf c F H σ ds A/\Lk c E F H A en/\Held F H a vs z xs T A/\Held F H b k z' ys U A/\Bw g t en ((enD (zipD xs ys)).drop i) ds) ⟨F,ds,A,S,l,e,d,q⟩ ?_ ?_ ?_;{rintro i σ H ⟨F,ds,A,S,l,e,d,q⟩;exact⟨.inl (.inl e.h),.inl (.inl d.h)⟩};{rintro i x y σ H p L R Y ⟨F,ds,A,S,l,e,d,q⟩ M f;obtain⟨u,Z,ru⟩:=e.get hm R;obtain⟨v,hv,rv⟩:=d.get n Y;rw[qg4 (qax3 Z hv)] at q;have o:=Same.new (u:=.q [x,y]) M;have r:=Same.new (u:=.q [.int (i:Int),.ref p]) f;have rp:Pc F (upd H p (.q [x,y])) (.ref p) (.q [u,v]) []:=qN1 M (.cons (A:=[]) (B:=[]) ru (.cons (A:=[]) (B:=[]) rv .nil));have s:Pc F (upd (upd H p (.q [x,y])) L (.q [.int (i:Int),.ref p])) (.ref L) (.q [.int (i:Int),.q [u,v]]) []:=qN1 f (.cons (A:=[]) (B:=[]) (.int _) (.cons (A:=[]) (B:=[]) rp .nil));have j:=o.trans r;have S1:=S.same j;have O:=l.step (Pe.same (F:=F) (A:=A) j);have w:=e.step S S1 (Pe.same j);have C:=d.step S S1 (Pe.same j);exact qK7 P S1 O s (λG σ' H' F' A' q' S' I=>⟨F',G,A',S',O.step I,w.step S1 S' I,C.step S1 S' I,q'⟩) q};rintro σ H ⟨F,ds,A,S,l,e,d,q⟩;rw[zBs (by rw[qae0,e.len];unfold zipD;rw[Me];exact Nat.min_le_left _ _)] at q;exact l.nx _ _ _ _ _ q S Pe.refl
def qaZ0(tr:VTB)(g:VTG)(t:VTS):VTS:=λe ds=>tr ds (λxs _ ds1=>orF (twoL xs) λq=>D.imms q.1=true/\D.imms q.2=true/\q.1.length=q.2.length/\Bw g t e (enD (zipD q.1 q.2)) ds1) e.xe
theorem qaY8(N:PassesOwn (Kv X.prog X.w) X.A X.env X.xe)(hm:X.mg "enumerate"=none)(i:X.mg "zip"=none)(j:VAs c X [l,r] tr)(k:VG c X (.Tuple elts B tpos) g)(C:VSs c X body t)(n:Gl X "enumerate" := by rfl)(d:Gl X "zip" := by rfl)(O:Kb [l,r] X.env=[(false,eval l X.env),(false,eval r X.env)]:=by rfl)(o:Kb [r] X.env=[(false,eval r X.env)]:=by rfl)(s:Kb [.Call (.Name "zip" p2) [l,r] [] pos2] X.env=[(false,eval (.Call (.Name "zip" p2) [l,r] [] pos2) X.env)]:=by rfl)(P:X.calm=true:=by rfl):VS c X (.For (.Tuple elts B tpos) (.Call (.Name "enumerate" p) [.Call (.Name "zip" p2) [l,r] [] pos2] [] cpos) body [] pos) (qaZ0 tr g t):=by
 refine⟨PS.mono (Iu N P (qaZ6 n hm d i j.h O o s) k.h C.h) λE σ H u=>?_,λD Q G f=>j.m _ _ _ _ _ (λR _ e=>qa5 λq=>N4 (N4 (N4 (ql6 k C f _ e)))) f.xe⟩;obtain⟨F,G,A,D,S,l,q⟩:=u;refine⟨F,G,A,D.xe,S,l.xe,j.m _ _ _ _ _ (λR ps e q vs H1 F1 T A1 U pk S1 I V=>?_) (λ_ _ z=>z) q⟩;obtain⟨⟨ys,zs⟩,W,v,x,f,Y⟩:=qa7.mp q;obtain⟨z,z',rfl⟩:=qaM2 W;cases U with|@cons _ _ Ta _ _ _ J t2=>cases t2 with|@cons _ _ Tb _ _ _ K Z=>
 cases Z;obtain⟨a,va,_,rfl,L,_,_⟩:=J.lst_inv;obtain⟨b,vb,_,rfl,M,_,_⟩:=K.lst_inv;have y:Pe F H A F1 H1 A1:=V.count λb=>by rw[zA0];lia
 exact⟨a,b,rfl,⟨va,.inl (.inl L)⟩,⟨vb,.inl (.inl M)⟩,qU1 k S1 (l.step y) ⟨J,L,I.count λb=>by simp only[zA0];lia⟩ ⟨K,M,I.count λb=>by simp only[zA0];lia⟩ v x f Y⟩
end
end LV
namespace L2
open PySem PySem.Spec PyProof.Rows
noncomputable def Itv(K:N7)(a:γ)(n:Nat):It:=⟨λi H=>∃xs,SqL K H a xs/\xs.length=n/\i<n,λi H x H'=>H'=H/\∀xs,SqL K H a xs->xs[n-1-i]?=some x,λi _=>i=n⟩
theorem qaD0{P:Kw}{w:Ky}{K:N7}{tg:Kz}(a it:γ)(n:Nat):F9 P w K tg (Itv K a n) [it] it (λi h=>i<=n/\h.IsRevIter it a ((n:Int)-1-i)) where
 mem:=by simp
 obj:=λi h g b l=>by
  have e:b=it:=by simpa using l
  subst e;obtain⟨_,o,e,c,d⟩:=g;exact⟨o,e,λv z=>by rw[d] at z;cases z⟩
 keep:=λi h q g k=>⟨g.1,g.2.at λo e=>k it (by simp) o e⟩
 item:=by
  intro X t y A G i D8 s T H E I r g B;subst t y A;obtain⟨j,J,rfl,L⟩:=B;obtain⟨M,N,p,Y⟩:=I.list J;obtain⟨u,O,Q⟩:=N.get (i:=j.length-1-i) (x:=j[j.length-1-i]) (zAq _);obtain⟨C,f1,f2,f3,D,F⟩:=r it (by simp);have R:((j.length:Int)-1-i)=((j.length-1-i:Nat):Int):=⋯
  have f:=g.2;rw[R] at f;refine wpAny_pyNext_rev_item f p.isList (x:=u) (by simpa using O) λq m S=>?_
  have I1:Pd X D8 T H {s with heap:=q}:=I.turned (t':=s.toks) (λb o l e=>(S.2 b l).trans e) C f1 f3 D F;obtain⟨o,e,c,d⟩:=id m;refine⟨u,rfl,G5 (s:={s with heap:=q}) e c d ∅ ⟨j[j.length-1-i],H,I1,Q,⟨rfl,λZ U=>by rw[I.list_inj U J];exact zAq _⟩,⟨L,?_⟩,λb l=>(r b l).1⟩⟩;rw[show ((j.length:Int)-1-((i+1:Nat):Int))=((j.length-1-i:Nat):Int)-1 by lia];exact m
 done:=by
  intro X t y A G i D8 s T H E I r g B;subst t y A;obtain rfl:i=n:=B;obtain⟨C,f1,f2,f3,D,F⟩:=r it (by simp);have f:=g.2;rw[show ((i:Int)-1-(i:Int)) = -1 by lia] at f;exact wpAny_pyNext_rev_end (I.ok.hd G) f λq V=>⟨rfl,I.turned (t':=s.toks) (λb o l e=>V b o l e) C f1 f3 D F⟩
 self:=λ_ _ _ _ _ g h=>wpAny_pyIter_revIter g.2 h
section
variable{X:Cx}
def iRev(K:N7)(ta:TA):TI:=λC H R=>ta C H λvs H1=>∃a xs,vs=[.ref a]/\SqL K H1 a xs/\R (Itv K a xs.length) H1
theorem qaP3(j:Gl X "reversed")(hm:X.mg "reversed"=none)(k:PA X [l] ta)(m:Kb [l] X.env=[(false,eval l X.env)]:=by rfl):PI X tg (.Call (.Name "reversed" p) [l] [] pos) (iRev X.K ta):=by
 intro D8 s C H R I h;refine Call_ (qN9 I j hm boot_reversed (PyProof.Rows.callWith_type1 (thn (k pos D8 s C H _ I h) λz d f=>?_) m rfl));obtain⟨A,H1,I1,n,t⟩:=f;obtain⟨a,g,e,u,q⟩:=t;subst e;cases n with
 |cons r v=>
  cases v;cases r;obtain⟨c,w,x,B⟩:=I1.list u;have i:(d.heap.push (revObj a ((c.toArray.size:Int)-1))).IsRevIter d.heap.objs.size a ((g.length:Int)-1-(0:Nat)):=by refine⟨_,zAo _ rfl,rfl,?_⟩;have:=w.length;show Data.fields #[.ref a,rawInt ((c.toArray.size:Int)-1)]=_;rw[show ((c.toArray.size:Int)-1)=((g.length:Int)-1-(0:Nat)) by simp;lia]
  refine call_reversed_list x.isList (wpAny_pyIter_revIter i ?_);exact⟨d.heap.objs.size,[d.heap.objs.size],_,_,H1,rfl,I1.kept (t':=d.toks) λb o q=>zA3 _ q,qaD0 a d.heap.objs.size g.length,⟨zBb _,i⟩,λb y=>by rw[zA8.mp y];exact I1.fpOk (zA2 _) (I1.hok.fresh (zA2 _)),q⟩
end
theorem qaV2{K:N7}{g:TG}{tb:TS}{D:Dl}(Pv:Nat->St->Hp->Prop)(d:Pv 0 n H)(f:∀i n H,Pv i n H->SqL K H a xs)(h:∀i x n H,i<xs.length->xs[xs.length-1-i]?=some x->Pv i n H->g x n H λσ2 H2=>tb {D with nx:=Pv (i+1),ct:=Pv (i+1),bk:=D.nx} σ2 H2)(j:∀n H,Pv xs.length n H->D.nx n H):∃W:Nat->Nat->St->Hp->Prop,(∃m,W 0 m n H)/\∀i m n H,W i m n H->((Itv K a xs.length).stop i H/\D.nx n H)∨((Itv K a xs.length).go i H/\∃N:St->Hp->Prop,(∀n' H',N n' H'->∃c,c<m/\W (i+1) c n' H')/\∀x H',(Itv K a xs.length).yld i H x H'->g x n H' λσ2 H2=>tb {D with nx:=N,ct:=N,bk:=D.nx} σ2 H2):=by refine⟨λi m n H=>m=xs.length-i/\i<=xs.length/\Pv i n H,⟨xs.length,by simp,zBb _,d⟩,?_⟩;rintro i m n H ⟨rfl,l,p⟩;have q:=f i n H p;by_cases b:i<xs.length;{refine .inr ⟨⟨xs,q,rfl,b⟩,Pv (i+1),λn' H' k=>⟨xs.length-(i+1),⋯,rfl,b,k⟩,λx H' y=>?_⟩;obtain⟨e,y⟩:=y;subst e;exact h i x n _ b (y xs q) p};have e:i=xs.length:=⋯;subst e;exact .inl ⟨rfl,j n H p⟩
theorem qaK8{K:N7}(Pv:Nat->St->Hp->Prop)(c:Pv 0 n H)(d:∀i n H,Pv i n H->SqL K H a xs)(f:∀(i:Nat) x n H,i<xs.length->xs[xs.length-1-i]?=some x->Pv i n H->g x n H λσ2 H2=>tf σ2 H2 λh H3=>if h=true then te σ2 H3 λv H4=>∃ys,H4 D=some (.l ys)/\ys.length<Kc/\Pv (i+1) σ2 (upd H4 D (.l (ys++[v]))) else Pv (i+1) σ2 H3)(j:∀n H,Pv xs.length n H->R H):qp3 (Itv K a xs.length) g tf te D R n H:=by refine⟨λi m n H=>m=xs.length-i/\i<=xs.length/\Pv i n H,⟨xs.length,by simp,zBb _,c⟩,?_⟩;rintro i m n H ⟨rfl,l,p⟩;have q:=d i n H p;by_cases b:i<xs.length;{refine .inr ⟨⟨xs,q,rfl,b⟩,Pv (i+1),λn' H' k=>⟨xs.length-(i+1),⋯,rfl,b,k⟩,λx H' y=>?_⟩;obtain⟨e,y⟩:=y;subst e;exact f i x n _ b (y xs q) p};have e:i=xs.length:=⋯;subst e;exact .inl ⟨rfl,j n H p⟩
end L2
namespace LV
open PySem L2
theorem qay7{ys:Ds}(hi:i<ys.length)(h:ys[ys.length-1-i]?=some y):ys.reverse[i]?=some y:=by rw[List.getElem?_reverse hi];exact h
section
variable{c:Vc}{X:Cx}{tg e:Kz}{body:List K4}{g:VTG}{t:VTS}{te:VT}{pos:Pos}{F:γ->Prop}{H:Hp}{σ:St}{ds:Ds}{A:List γ}{E:Dl}{en:VEnds}
def sForV(te:VT)(g:VTG)(t:VTS):VTS:=λe ds=>te ds (λd ds1=>orF d.lstOf λys=>D.imms ys=true/\Bw g t e ys.reverse ds1) e.xe
theorem sforV(P:PassesOwn (Kv X.prog X.w) X.A X.env X.xe)(hm:X.mg "reversed"=none)(hi:VE c X e te)(r:VG c X tg g)(J:VSs c X body t)(s:Gl X "reversed" := by rfl)(K:Kb [e] X.env=[(false,eval e X.env)]:=by rfl)(Q:X.calm=true:=by rfl):VS c X (.For tg (.Call (.Name "reversed" p) [e] [] cpos) body [] pos) (sForV te g t):=by
 refine⟨PS.mono (Iu P Q (qaP3 s hm (qc4 hi.h qk9 K) K) r.h J.h) λE σ H u=>?_,λn R f o=>hi.m _ _ _ _ _ (λd j=>qa5 λB=>N4 (ql6 r J o _ j)) o.xe⟩;obtain⟨F,f,A,n,S,l,q⟩:=u;refine⟨F,f,A,n.xe,S,l.xe,hi.m _ _ _ _ _ (λd j q v H1 F1 T A1 L S1 U V=>?_) (λ_ _ z=>z) q⟩;obtain⟨B,W,C,Y⟩:=qa7.mp q;obtain⟨z,rfl⟩:=qq6 W;obtain⟨a,D,Ael,rfl,M,rs,_⟩:=L.lst_inv;have G:Pe F H A F1 H1 A1:=V.count λb=>by rw[zA0];lia
 refine⟨a,D,rfl,.inl (.inl M),qaV2 (xs:=D) (λi σ H=>∃F f A,Pf c F H σ f A/\Lk c E F H A n/\Held F H a D z B T A/\Bw g t n (B.reverse.drop i) f) ⟨F1,j,A1,S1,l.step G,⟨L,M,U⟩,Y⟩ ?_ ?_ ?_⟩;{rintro i σ H ⟨F,f,A,S,l,k,q⟩;exact .inl (.inl k.h)};{rintro i x σ H hi Z ⟨F,f,A,S,l,k,q⟩;obtain⟨y,N,ry⟩:=k.get C Z;have o:=k.len;rw[o] at N hi;rw[qg4 (qay7 hi N)] at q;exact qK7 r S l ry (λI σ' H' F' A' q' S' O=>⟨F',I,A',S',l.step O,k.step S S' O,q'⟩) q};rintro σ H ⟨F,f,A,S,l,k,q⟩;rw[zBs (by rw[zC9,k.len];exact zA2 _)] at q;exact l.nx _ _ _ _ _ q S Pe.refl
end
section
variable{c:Vc}{X:Cx}{NY:List Str}{Y:Scope}{src:List (Option Nat)}{Z R e:Kz}{O:List Kz}{g:VTG}{N:VTT}{te U:VT}{pos:Pos}{av:List (Option V)}{T:List γ}{τ:List (Option V)}{o0:Ds}{W:γ}{F0:γ->Prop}{H0 H:Hp}{A0:List γ}{K:Ds->Ds->Prop}
theorem qaC8{J':St}(b:Blk X NY Y src Z O R g N te)(hm:D.imms ys=true)(m:Mid src av (λF H=>Pc F H (.ref a) (.l z ys) T/\H a=some (.l vs)) T τ o0 W F0 H0 A0 g N te K ys.reverse J' H)(j:∀σ2 H2,Mid src av (λF H=>Pc F H (.ref a) (.l z ys) T/\H a=some (.l vs)) T τ o0 W F0 H0 A0 g N te K [] σ2 H2->Q H2):qp3 (Itv K' a vs.length) (ql3 src g) (ql2 src N) (Bm src te) W Q J' H:=by obtain⟨_,_,_,_,_,_,_,_,d,_⟩:=id m;have c:=qaH9 d.1 d.2;refine qaK8 (xs:=vs) (λi J H=>Mid src av (λF H=>Pc F H (.ref a) (.l z ys) T/\H a=some (.l vs)) T τ o0 W F0 H0 A0 g N te K (ys.reverse.drop i) J H) m ?_ ?_ ?_;{rintro i J H ⟨_,_,_,_,_,_,_,_,e,_⟩;exact .inl (.inl e.2)};{rintro i x J H f k ⟨F,M,A,l,B,Ao,S1,r,e,L,n,s,q⟩;obtain⟨y,h,o⟩:=qaJ0 e.1 e.2 hm k;rw[c] at h f;rw[qg4 (qay7 f h)] at q;exact qt6 b qm8 S1 r e L n s o q};intro J H m;rw[zBs (by rw[zC9,c];exact zA2 _)] at m;exact j _ _ m
def tCV(src:List (Option Nat))(U:VT)(g:VTG)(N:VTT)(te:VT):VT:=λds Q xe=>U ds (λd ds1=>orF d.lstOf λys=>D.imms ys=true/\Ei src g N te ys.reverse ds1 Q) xe
theorem qbd4{K:N7}(b:Blk X NY Y src Z O R g N te)(hi:VE c X e U):Imp c X (tCV src U g N te) (Dp (iRev K (Ix (Bj c U) tNil)) src (ql3 src g) (ql2 src N) (Bm src te)):=by rintro D8 s J H Q I ⟨F,k,A,l,S,x,q⟩;have f:=b.lt D8 J H s I;refine⟨F,k,A,l,S,x,hi.m _ _ _ _ _ (λd n q v H1 F1 T A1 i S1 o p=>?_) (λ_ _ z=>z) q⟩;obtain⟨E,t,u,h⟩:=qa7.mp q;obtain⟨z,rfl⟩:=qq6 t;obtain⟨a,w,Ael,rfl,j,G,_⟩:=i.lst_inv;refine⟨a,w,rfl,.inl (.inl j),λW y=>qaC8 b u (qv6 f S1 o ⟨i,j⟩ qm8 y (qi0 b (λC M q v H' F' B A' r S' _ D s=>q v H' F' B A' r S' (D.count λb=>by simp only[zA0];lia) ((p.trans s).count λb=>by simp only[zA0];lia)) _ _ _ h)) λσ2 H2 m=>qv7 f S1 m⟩
theorem ecV(hm:X.mg "reversed"=none)(hi:VE c X e U)(bl:Blk X NY Y src Z O R g N te)(b:Gl X "reversed" := by rfl)(a:Kb [e] X.env=[(false,eval e X.env)]:=by rfl)(f:X.calm=true:=by rfl)(i:qr2 X NY src Y=true:=by rfl)(j:∀x,Ke (.Call (.Name "reversed" p) [e] [] cpos) X.env x=pure x:=by intro _;rfl):VE c X (.ListComp R [⟨Z,.Call (.Name "reversed" p) [e] [] cpos,O,0⟩] Y pos) (tCV src U g N te):=Ii (qA7 NY src (qaP3 b hm (qc4 hi.h qk9 a) a) bl.pg bl.pf bl.pe f i j) (qbd4 bl hi) λq Q Q' r k l n=>hi.m _ _ _ _ _ (λd o=>qa5 λs=>N4 (qr5 bl l)) n
end
def G2(L:List Nat)(ds:Ds):Ds:=L.foldl (λds i=>ds.set i .u) ds
theorem Locs.buts{F:γ->Prop}{H:Hp}:∀{L:List Nat}{o τ:List (Option V)}{ds:Ds}{A:List γ},Locs F H o ds A->τ.length=o.length->(∀j,L.contains j=false->τ[j]?=o[j]?)->∃A',Locs F H τ (G2 L ds) A'/\∀b,A'.count b<=A.count b
 |[],o,τ,ds,A,h,hl,he=>by obtain rfl:τ=o:=List.ext_getElem? λj=>he j rfl;exact⟨A,h,λ_=>zA2 _⟩|i::L,o,τ,ds,A,h,hl,he=>by
  by_cases c:i<o.length
  .obtain⟨d,k⟩:∃d,ds[i]?=some d:=⟨_,zAq (by rw[<-h.len];exact c)⟩;obtain⟨A1,l,m⟩:=h.but (τ:=o.set i (τ[i]'(hl ▸ c))) k (by simp) λj a=>zBe (Ne.symm a);obtain⟨A2,f,g⟩:=Locs.buts (L:=L) (τ:=τ) l (by simp[hl]) λj a=>by by_cases e:j=i;{subst e;rw[zCb c];exact zAq (hl ▸ c)};rw[zBe (Ne.symm e)];exact he j (by rw[M6,a,Bool.or_false];exact zCp e)
   exact⟨A2,f,λb=>zAn (g b) (m b)⟩
  have n:ds.set i .u=ds:=List.set_eq_of_length_le (by rw[<-h.len];lia);obtain⟨A2,f,g⟩:=Locs.buts (L:=L) (τ:=τ) h hl λj a=>by by_cases e:j=i;{subst e;rw[zBx ⋯,zBx ⋯]};exact he j (by rw[M6,a,Bool.or_false];exact zCp e)
  refine⟨A2,?_,g⟩;show Locs F H τ (G2 L (ds.set i .u)) A2;rw[n];exact f
section
variable{c:Vc}{X:Cx}{N:K4}{t:VTS}
def qaN6(L:List Nat)(t:VTS):VTS:=λe ds=>t ⟨λ_=>e.nx (G2 L ds),λd _=>d.plain=true/\e.rt d (G2 L ds),λ_=>False,λ_=>False,λ_ _=>False⟩ (D.fzs ds)
theorem qaN2(L:List Nat)(h:∀av,VS ⟨c.E,λj=>!(L.contains j),av,c.gv⟩ X N t)(B:∀i,L.contains i=true->c.W i=false:=by exact λ_ _=>rfl):VS c X N (qaN6 L t):=by
 refine⟨λD8 s M H E I q=>?_,λe K n f q=>?_⟩;rotate_left
 {refine(h []).m _ _ _ ?_ q;exact⟨λ_=>f.nx _,λd _ z=>⟨z.1,f.rt _ _ z.2⟩,λ_ z=>z,λ_ z=>z,λ_ _ z=>z⟩};obtain⟨F,n,A,e,S,l,q⟩:=q;refine(h (M++c.gv)).h D8 s M H E I ⟨λb=>F b∨b∈A,D.fzs n,[],_,⟨S.loc.fz (λ_=>.inl) (λ_=>.inr),⟨λb=>by simp,λb _=>by simp,λb h=>h.elim (S.ok.ex b) λh=>let ⟨o,e,_⟩:=S.loc.cells b h;⟨o,e⟩⟩,rfl,λ_ _=>rfl⟩,?_,q⟩;have fin:∀{a M' H' F' A' T},Pf ⟨c.E,λj=>!(L.contains j),M++c.gv,c.gv⟩ F' H' M' a A'->Ok F' H' (T++A')->Pe (λb=>F b∨b∈A) H [] F' H' (T++A')->∃A2,Pf c F H' M' (G2 L n) A2/\Ok F H' (T++A2)/\Pe F H A F H' (T++A2):=λ{a M' H' F' A' T} S' C s=>by
  have p:Same H H':=λb o e=>s.fr b o e (by simp);have f:(M'++c.gv).length=(M++c.gv).length:=S'.len.symm;have w:∀j,L.contains j=false->(M'++c.gv)[j]?=(M++c.gv)[j]? := λj g=>S'.ag j (show (!(L.contains j))=true by rw[g];rfl);obtain⟨A2,L2,G⟩:=(S.loc.same p).buts f w;have x:New H T:=⟨λb=>by have:=C.sep b;rw[zA0] at this;lia,λb o e=>by have:=s.sub b o e (by simp);rw[zA0] at this;lia⟩;have k:∀b,(T++A2).count b<=(T++A).count b:=λb=>by rw[zA0,zA0];have:=G b;lia
  have y:Ok F H' (T++A2):=(x.ok S.ok S.loc.cells p).count k;exact⟨A2,⟨L2,y.right,by rw[S.len,f],λj g=>by cases z:L.contains j with|true=>rw[B j z] at g;cases g|false=>rw[w j z];exact S.ag j g⟩,y,(x.stp p).count k⟩
 refine⟨λa M' H' F' A' q S' s=>?_,λd a v M' H' F' T A' q r S' o s=>?_,λ_ _ _ _ _ q=>q.elim,λ_ _ _ _ _ q=>q.elim,λ_ _ _ _ _ _ _ q=>q.elim⟩;{obtain⟨A2,S2,_,u⟩:=fin (T:=[]) S' S'.ok s;exact l.nx _ _ _ _ _ q S2 u};obtain⟨A2,S2,J,u⟩:=fin S' o s;exact l.rt _ _ _ _ _ _ _ _ q.2 (r.plain q.1) S2 J u
end
theorem qal5(q:t ⟨λ_=>e.nx (G2 L ds),λd _=>d.plain=true/\e.rt d (G2 L ds),λ_=>False,λ_=>False,λ_ _=>False⟩ (D.fzs ds)):qaN6 L t e ds:=q
end LV
namespace L2
open PySem PySem.Spec PyProof.Rows
theorem qaK7{K:N7}{a D:γ}{xs:List V}{g:TG}{tf:TT}{te:TE}{R:Hp->Prop}{n:St}{H:Hp}(Pv:Nat->St->Hp->Prop)(c:Pv 0 n H)(d:∀i n H,Pv i n H->SqT K H a xs)(f:∀i x n H,xs[i]?=some x->Pv i n H->g x n H λσ2 H2=>tf σ2 H2 λh H3=>if h=true then te σ2 H3 λv H4=>∃ys,H4 D=some (.l ys)/\ys.length<Kc/\Pv (i+1) σ2 (upd H4 D (.l (ys++[v]))) else Pv (i+1) σ2 H3)(j:∀n H,Pv xs.length n H->R H):qp3 (Itt K a) g tf te D R n H:=by refine⟨λi m n H=>m=xs.length-i/\i<=xs.length/\Pv i n H,⟨xs.length,by simp,zBb _,c⟩,?_⟩;rintro i m n H ⟨rfl,l,p⟩;have q:=d i n H p;by_cases b:i<xs.length;{refine .inr ⟨⟨xs,xs[i],q,by simp[b]⟩,Pv (i+1),λn' H' k=>⟨xs.length-(i+1),⋯,rfl,b,k⟩,λx H' y=>?_⟩;obtain⟨e,y⟩:=y;subst e;exact f i x n _ (y xs q) p};have e:i=xs.length:=⋯;subst e;exact .inl ⟨⟨xs,q,zA2 _⟩,j n H p⟩
end L2
namespace LV
open PySem L2
variable{ys:Ds}
noncomputable def D.tupOf:D->Option Ds|.q ys=>some ys|_=>none
theorem qaD1{d:D}(h:d.tupOf=some ys):d=.q ys:=by cases d with|q a=>cases h;rfl|_=>cases h
section
variable{c:Vc}{X:Cx}{NY:List Str}{sc:Scope}{src:List (Option Nat)}{tg Y O e:Kz}{U:List Kz}{g:VTG}{R:VTT}{te t0:VT}{pos px Z:Pos}{x:Str}{av:List (Option V)}{T:List γ}{τ:List (Option V)}{o0:Ds}{Dd:γ}{F0:γ->Prop}{H0 H:Hp}{A0:List γ}{K:Ds->Ds->Prop}
theorem qaf9{a:γ}{vs:List V}{T:List γ}:Gx (λF H=>O6 F H vs ys T/\H a=some (.q vs)) T where
 keep:=λk h p=>⟨p.1.keep k h,k.q p.2⟩
 cells:=λp=>p.1.cells
theorem qaC6{K':N7}{a:γ}{vs:List V}{Q:Hp->Prop}{J':St}(b:Blk X NY sc src tg U Y g R te)(hm:D.imms ys=true)(m:Mid src av (λF H=>O6 F H vs ys T/\H a=some (.q vs)) T τ o0 Dd F0 H0 A0 g R te K ys J' H)(h:∀σ2 H2,Mid src av (λF H=>O6 F H vs ys T/\H a=some (.q vs)) T τ o0 Dd F0 H0 A0 g R te K [] σ2 H2->Q H2):qp3 (Itt K' a) (ql3 src g) (ql2 src R) (Bm src te) Dd Q J' H:=by obtain⟨_,_,_,_,_,_,_,_,d,_⟩:=id m;refine qaK7 (xs:=vs) (λi J' H'=>Mid src av (λF H=>O6 F H vs ys T/\H a=some (.q vs)) T τ o0 Dd F0 H0 A0 g R te K (ys.drop i) J' H') m ?_ ?_ ?_;{rintro i J' H' ⟨_,_,_,_,_,_,_,_,c,_⟩;exact .inl (.inl c.2)};{rintro i x J' H' j ⟨F,M,A,k,B,Ao,S2,r,c,L,l,s,q⟩;obtain⟨y,B',e,f⟩:=c.1.getV j;have:=f.imm (qq8 hm e);subst this;rw[qg4 e] at q;exact qt6 b qaf9 S2 r c L l s f q};intro J' H' m;rw[d.1.len,L7] at m;exact h _ _ m
def tCT(src:List (Option Nat))(t0:VT)(g:VTG)(R:VTT)(te:VT):VT:=λds Q xe=>t0 ds (λd ds1=>orF d.tupOf λys=>D.imms ys=true/\Ei src g R te ys ds1 Q) xe
theorem qbd5{K:N7}(b:Blk X NY sc src tg U Y g R te)(hi:VE c X e t0):Imp c X (tCT src t0 g R te) (Dp (iTup K (Bj c t0)) src (ql3 src g) (ql2 src R) (Bm src te)):=by rintro D8 s J H Q I ⟨F,j,A,k,S,x,q⟩;have f:=b.lt D8 J H s I;refine⟨F,j,A,k,S,x,hi.m _ _ _ _ _ (λd l q v H1 F1 T A1 n S1 o p=>?_) (λ_ _ z=>z) q⟩;obtain⟨G,t,u,h⟩:=qa7.mp q;obtain rfl:=qaD1 t;obtain⟨a,w,rfl,i,y⟩:=n.tup_inv;exact⟨a,rfl,⟨w,.inl (.inl i)⟩,λDd C=>qaC6 b u (qv6 f S1 o ⟨y,i⟩ qaf9 C (qi0 b (λD M q v H' F' B A' r S' _ E s=>q v H' F' B A' r S' (E.count λb=>by simp only[zA0];lia) ((p.trans s).count λb=>by simp only[zA0];lia)) _ _ _ h)) λσ2 H2 m=>qv7 f S1 m⟩
theorem scT(i:Nat)(j:X.N.Nodup)(hi:VE c X O t0)(bl:Blk X NY sc src tg U Y g R te)(k:c.W i=false:=by rfl)(a:X.N[i]?=some x:=by rfl)(b:Loc X.env.scope x:=by first|exact O3 rfl|exact O2 rfl)(l:X.calm=true:=by rfl)(n:qr2 X NY src sc=true:=by rfl)(e:swapsWith (.ListComp Y [⟨tg,O,U,0⟩] sc pos) (some (.Name x px)) Z.line X.env=pure true:=by rfl)(o:∀x,Ke O X.env x=pure x:=by intro _;rfl)(f:X.fn x=true∨X.env.scope.names.lookup x=some .local:=by first|exact .inl rfl|exact .inr rfl|assumption):VS c X (.Assign [.Name x px] (.ListComp Y [⟨tg,O,U,0⟩] sc pos) Z) (Ec (tCT src t0 g R te) (gNm i)):=qaC9 (qah9 i NY src j (qaZ5 hi.h) bl.pg bl.pf bl.pe a b l n e o f) (qbd5 bl hi) (λs Q Q' t p q b=>hi.m _ _ _ _ _ (λd r=>qa5 λu=>N4 (qr5 bl q)) b) k a
end
section
variable{c:Vc}{X:Cx}{b:Kz}{rest:List Kz}{pos p:Pos}{tb:VT}
def tOrM(i:Nat)(tb:VT):VT:=λds Q xe=>∃z ys,rdN i ds=some (.l z ys)/\if ys=[] then tb ds Q xe else Q (.l z ys) (ds.set i .u)
theorem eorM(i:Nat){x:Str}(D:VE c X (.BoolOp .Or (b::rest) pos) tb)(E:X.N[i]?=some x:=by rfl)(R:Vis X.env.scope x:=by first|exact O3 rfl|exact O2 (O3 rfl)|exact O2 (O2 rfl))(T:N' x:=by decide)(n:(x==("__classdict__" : Str))=false:=by decide):VE c X (.BoolOp .Or (.Name x p::b::rest) pos) (tOrM i tb):=by
 refine⟨λD8 s σ H Q I ⟨F,G,A,J,S,U,q⟩=>?_,λG Q Q' J V K W ⟨z,g,e,q⟩=>⟨z,g,e,by by_cases L:g=[];{rw[if_pos L] at q ⊢;exact D.m _ _ _ _ _ K W q};rw[if_neg L] at q ⊢;exact K _ _ q⟩⟩;obtain⟨z,g,r,q⟩:=q;obtain⟨r,Y⟩:=qm0.mp r;obtain⟨v,B,C,M,O,t,Z⟩:=S.put1 r (ql5 Y);have hi:=qn7 E D8 σ H s I;rw[zAl hi] at M;obtain⟨a,j,Ael,rfl,ha,rs,_⟩:=O.lst_inv;refine PyProof.Rows.BoolOp_or (thn (qn3 E R T n D8 s σ H (λw H'=>w=.ref a/\H'=H) I ⟨_,M,rfl,rfl⟩) λu s1 d=>?_);obtain⟨w,H1,I1,P,l,e2⟩:=d;subst l e2;refine thn (qaY2 D8 s1 σ H1 (.ref a) u (λk H'=>k=!j.isEmpty/\H'=H1) I1 P ⟨_,.inl ⟨j,.inl (.inl ha),rfl⟩,rfl,rfl⟩) λk s2 d=>?_;obtain⟨H2,I2,l,e2⟩:=d;subst e2;have y:=rs.len;cases j with
 |nil=>have e:g=[]:=List.eq_nil_of_length_eq_zero y.symm;rw[if_pos e] at q;subst l;exact D.h D8 s2 σ H2 Q I2 ⟨F,G,A,J,S,U,q⟩|cons v j=>
  have e:¬g=[]:=λz=>by rw[z] at y;cases y
  rw[if_neg e] at q;subst l;obtain⟨A',q1,q2⟩:=Z .u [] (Kp.same (λ_ _ z=>z)) (λ_ _ z=>z) (.u _);refine⟨.ref a,H2,I2,P,q _ H2 F B A' O ⟨q1,S.ok.count λb=>by rw[q2,t];simp,S.len,S.ag⟩ (S.ok.count λb=>by rw[zA0,q2,t];simp) ?_⟩;exact⟨λ_ _ e _=>e,λb o e z=>by rw[zA0,q2];have:=t b;simp;lia,λ_ f=>f,λ_ _ _ _ f=>f⟩
end
end LV
namespace LV.My
open PySem L2 Row _root_.My
variable{N i j l r:Nat}{Q:DK}{R:Ds->D->Prop}{b z':Bool}{d y:D}{ds ys:Ds}{e:VEnds}{f fa fb:FV}{fs:List (Str×D)}{g' h:Nat->Option Int}{hm:Int->Nat}{ks ns:List Int}{m:Str}{o:Option Int}{qc qf:VTT}{s:VSp}{t u:VTS}{ta tb te:VT}{tr:VTB}{xe:XKd}{α:Type}
noncomputable def _root_.LV.D.whole:D->Bool|.int _=>true|_=>false
noncomputable def _root_.LV.D.within(l m:Int):D->Bool|.int i=>decide (l<=i)&&decide (i<=m)|_=>false
def _root_.LV.D.num:D->Bool:=D.within 0 1000000000000000000
noncomputable def fx3(g:D->D->D->Option D):Ds->Option D|[x,y,z]=>g x y z|_=>none
theorem qal6(h:Dc (fx1 g) ds Q xe):ds.length=1:=by match ds,h with|[_],_=>rfl
theorem qaS8(h:Dc (fx3 g) ds Q xe):ds.length=3:=by match ds,h with|[_,_,_],_=>rfl
theorem imm1(h:Dc (fx1 g) ds Q xe):Gw (wOf [true]) 0 ds=true:=by match ds,h with|[_],_=>rfl
theorem imm3(h:Dc (fx3 g) ds Q xe):Gw (wOf [true,true,true]) 0 ds=true:=by match ds,h with|[_,_,_],_=>rfl
theorem Jw(h:Dc (fx1 g) ds Q xe):∃x d,ds=[x]/\g x=some d/\Q d [x]:=by match ds,h with|[x],h=>obtain⟨d,e,q⟩:=qa7.mp h;exact⟨x,d,rfl,e,q⟩
theorem pure3(h:Dc (fx3 g) ds Q xe):∃x y z d,ds=[x,y,z]/\g x y z=some d/\Q d [x,y,z]:=by match ds,h with|[x,y,z],h=>obtain⟨d,e,q⟩:=qa7.mp h;exact⟨x,y,z,d,rfl,e,q⟩
theorem qs9{x:D}{t:String}(h:x.kind=some t):x.known=true:=by cases x<;>first|rfl|cases h
def A5(P:Ds->D->Prop):VSp:=λds Q _=>∃d,P ds d/\Q d ds
theorem qb5:Bu (A5 P):=λ_ _ _ _ _ a _ ⟨d,p,q⟩=>⟨d,p,a _ _ q⟩
noncomputable def O9(ps:Pr):Ds:=ps.map λp=>.q [.int p.1,.int p.2]
noncomputable def kvD(ps:Pr):List (Key×D):=ps.map λp=>(.inl p.1,.int p.2)
def Ad(z:Bool)(C:γ)(n:Int)(wr:Bool)(ps:Pr):D:=.ins z C [("rooms",.int n),("wraps",.bl wr),("homes",.l z (O9 ps)),("home_numbers",.dct z (kvD ps))]
noncomputable def At:Option Int->D|none=>.non|some k=>.int k
def O8(n:Nat)(g:Nat->Option Int):Ds:=(Lh n).map λi=>At (g i)
noncomputable def O7(ks:List Int):Ds:=ks.map .int
theorem qC2:∀ps:Pr,D.imms (O9 ps)=true|[]=>rfl|p::r=>by show (D.imms [.int p.1,.int p.2]&&D.imms (O9 r))=true;rw[qC2 r];rfl
theorem qf7:∀ks:List Int,D.imms (O7 ks)=true|[]=>rfl|k::r=>by show (true&&D.imms (O7 r))=true;rw[qf7 r];rfl
theorem qan3{α:Type}{f:α->D}(h:∀a,(f a).imm=true):∀l:List α,D.imms (l.map f)=true|[]=>rfl|a::r=>by show ((f a).imm&&D.imms (r.map f))=true;rw[h a,qan3 h r];rfl
theorem qt0(o:Option Int):(At o).imm=true:=by cases o<;>rfl
theorem qC1(n:Nat)(g:Nat->Option Int):D.imms (O8 n g)=true:=qan3 (λi=>qt0 _) _
theorem qY2:∀ks:List Int,intsD (O7 ks)=some ks|[]=>rfl|k::r=>by show (intsD (O7 r)).map (λis=>k::is)=some (k::r);rw[qY2 r];rfl
theorem qC5:∀ks:List Int,flats (O7 ks)=some (ks.map V.int)|[]=>rfl|k::r=>by show (Option.bind (some (V.int k)) λv=>(flats (O7 r)).bind λa=>some (v::a))=_;rw[qC5 r];rfl
theorem qf5(ks:List Int):(O7 ks).length=ks.length:=zA9 _
theorem qj7(n:Nat)(g:Nat->Option Int):(O8 n g).length=n:=by simp[O8]
theorem qC3{n:Nat}{g:Nat->Option Int}(h:i<n):(O8 n g)[i]?=some (At (g i)):=by unfold O8;rw[zB5,List.getElem?_range h];rfl
theorem qag8{n:Nat}{g:Nat->Option Int}:(O8 n g).set i (At o)=O8 n (λj=>if j=i then o else g j):=by apply List.ext_getElem?;intro j;by_cases a:j<n;{rw[qC3 a];by_cases e:i=j;{subst e;rw[zCb (by rw[qj7];exact a),if_pos rfl]};rw[zBe e,qC3 a,if_neg (Ne.symm e)]};rw[zBx (by rw[Mp,qj7];lia),zBx (by rw[qj7];lia)]
theorem qaj0:∀ps:Pr,Ib (O9 ps)=some (kvD ps)|[]=>rfl|p::r=>by show (Option.bind (some ((Sum.inl p.1:Key),D.int p.2)) λq=>(Ib (O9 r)).bind λps=>some (q::ps))=_;rw[qaj0 r];rfl
theorem qas6{m:Int}(h:¬k∈ps.map (·.1)):E3 (kvD ps) (.inl k) (.int m)=kvD (ps++[(k,m)]):=by unfold E3;rw[if_neg];{unfold kvD;rw[zBj];rfl};intro e;obtain⟨q,a,e⟩:=List.any_eq_true.mp e;obtain⟨r,b,rfl⟩:=zBc.mp a;have e:(Sum.inl r.1:Key)=Sum.inl k:=zAd e;exact h (zBc.mpr ⟨r,b,Sum.inl.inj e⟩)
theorem qX4:∀(a ps:Pr),((ps++a).map (·.1)).Nodup->qw4 (kvD ps) (kvD a)=kvD (ps++a)
 |[],ps,_=>by rw[zAg];rfl|q::a,ps,h=>by
  show qw4 (E3 (kvD ps) (.inl q.1) (.int q.2)) (kvD a)=_;have b:¬q.1∈ps.map (·.1):=by rw[zBj,zAz,zBg] at h;exact λz=>h.2.2 _ z _ zAh rfl
  rw[qas6 b,qX4 a (ps++[(q.1,q.2)]) (by rw[zAs];exact h),zAs];rfl
theorem qat7(h:(ps.map (·.1)).Nodup):qw4 [] (kvD ps)=kvD ps:=qX4 ps [] h
theorem qaB6(h:(ps.map (·.1)).Nodup):Hh (.l z (O9 ps))=some (.dct false (kvD ps)):=by show (Ib (O9 ps)).map (λps=>D.dct false (qw4 [] ps))=_;rw[qaj0];show some (D.dct false (qw4 [] (kvD ps)))=_;rw[qat7 h]
theorem qax5(k:Int):∀ps:Pr,Dv (kvD ps) (.inl k)=(ps.lookup k).map .int
 |[]=>rfl|(p,m)::r=>by
  show Dv ((.inl p,.int m)::kvD r) _=_;by_cases e:p=k;{subst e;simp[Dv,zAv]};have a:Dv ((.inl p,D.int m)::kvD r) (.inl k)=Dv (kvD r) (.inl k):=by simp[Dv,zC8,e]
  rw[a,qax5 k r];have:(k==p)=false:=by simpa using λz=>e z.symm
  simp only[zAv,this]
theorem qa1{o:Option α}{a:α}{k:α->Prop}(e:o=some a)(h:k a):orF o k:=by rw[e];exact h
theorem Bq{p:Prop}[Decidable p]{a b:Prop}(h:p)(x:a):if p then a else b:=by rw[if_pos h];exact x
theorem Fe{p:Prop}[Decidable p]{a b:Prop}(h:¬p)(x:b):if p then a else b:=by rw[if_neg h];exact x
theorem ite_b{a b:Prop}(h1:p=true->a)(h2:p=false->b):if p=true then a else b:=by cases p with|true=>exact h1 rfl|false=>exact h2 rfl
noncomputable def G3:Option Int->D|some f=>.int f|none=>.non
theorem qaw9(b:rdN i ds=some x)(h:s [x] (λd ys=>orF (Au [.sl i] ys (ds.set i .u)) λa=>Q d a) (λe ys=>orF (Au [.sl i] ys (ds.set i .u)) λa=>xe e a)):qk1 s [] (tbN i A8) ds Q xe:=⟨by rw[b];rfl,by show orF (rdN i ds) _;rw[b];exact h⟩
theorem qI5{f:Ds->Option D}(e:f ds=some d)(q:Q d ds):Dc f ds Q xe:=qa1 e q
theorem qq7(e:R ds d)(q:Q d ds):A5 R ds Q xe:=⟨d,e,q⟩
theorem qc3(a:rdN i ds=some x)(h:tr ds (λxs ps ds1=>orF (rdN i ds1) λd=>K (d::xs) (.sl i::ps) (ds1.set i .u)) xe):tbN i tr ds K xe:=⟨by rw[a];rfl,h⟩
theorem qj1(b:f ds=some y)(h:tr ds (λxs ps a=>K (y::xs) (.no::ps) a) xe):tbV (Di f) tr ds K xe:=qa1 (k:=λy=>tr ds (λxs ps a=>K (y::xs) (.no::ps) a) xe) b h
theorem rd0{r:Ds}(h:d.known=true):rdN 0 (d::r)=some d:=qm0.mpr ⟨rfl,h⟩
theorem qU3{β:Type}(f:α->β)(l:List α):l.filterMap (λa=>some (f a))=l.map f:=by simp
section
variable{z:Bool}{C:γ}{n:Int}{wr:Bool}{ps:Pr}
theorem qG8{f:Str}(h:fs.lookup f=some d):D.fld C f (.ins z C fs)=some d:=by show (if C=C then fs.lookup f else none)=some d;rw[if_pos rfl,h]
theorem qd4:D.fld C "rooms" (Ad z C n wr ps)=some (.int n):=qG8 (by rfl)
theorem qo2:D.fld C "wraps" (Ad z C n wr ps)=some (.bl wr):=qG8 (by rfl)
theorem qad8:D.fld C "home_numbers" (Ad z C n wr ps)=some (.dct z (kvD ps)):=qG8 (by rfl)
theorem qaA6(h:fs.lookup m=none):(D.ins z C fs).isM C m=true:=by show (decide (C=C)&&(fs.lookup m).isNone)=true;rw[zAf rfl,h];rfl
theorem qf6(h:([("rooms",.int n),("wraps",.bl wr),("homes",.l z (O9 ps)),("home_numbers",.dct z (kvD ps))]:List (Str×D)).lookup m=none):(Ad z C n wr ps).isM C m=true:=qaA6 h
theorem A4{g:D->Option D}{x:D}(h:fa ds=some x)(h':g x=some y):f1 g fa ds=some y:=qaK1.mpr ⟨x,h,h'⟩
theorem Ag{g:D->D->Option D}{x:D}(h:fa ds=some x)(h':fb ds=some y)(h2:g x y=some d):f2 g fa fb ds=some d:=qaK0.mpr ⟨x,y,h,h',h2⟩
theorem ql0:(D.ins false C fs).ownI C=some fs:=by show (if C=C then some fs else none)=some fs;rw[if_pos rfl]
end
theorem qE6{C:γ}{p:D}(b:rdN i ds=some p)(hm:p.isM C m=true)(h:tr ds (λxs ps ds1=>orF (rdN i ds1) λd=>s (d::(xs++[])) (λr ys=>orF (Au (.sl i::ps) ys (ds1.set i .u)) λa=>Q r a) (λx ys=>orF (Au (.sl i::ps) ys (ds1.set i .u)) λa=>xe x a)) xe):qD0 C m s [] i tr ds Q xe:=⟨qa1 b hm,h⟩
theorem qL9{f:Ds->Option D}{x:D}(a:rdN i ds=some x)(e:f [x]=some d)(b:Au [.sl i] [x] (ds.set i .u)=some ds)(q:Q d ds):qk1 (Dc f) [] (tbN i A8) ds Q xe:=qaw9 a (qI5 e (qa1 b q))
theorem qE9(c:rdN i ds=some x)(b:rdN j ds=some y)(a:rdN i (ds.set j .u)=some x)(r:R [x,y] d)(e:Au [.sl i,.sl j] [x,y] ((ds.set j .u).set i .u)=some ds)(q:Q d ds):qk1 (A5 R) [] (tbN i (tbN j A8)) ds Q xe:=qc3 c (qc3 b (qa1 b (qa1 a (qq7 r (qa1 e q)))))
theorem Ik{x w:D}(e:rdN i ds=some x)(f:rdN j ds=some y)(c:rdN l ds=some w)(a:rdN j (ds.set l .u)=some y)(b:rdN i ((ds.set l .u).set j .u)=some x)(r:R [x,y,w] d)(g:Au [.sl i,.sl j,.sl l] [x,y,w] (((ds.set l .u).set j .u).set i .u)=some ds)(q:Q d ds):qk1 (A5 R) [] (tbN i (tbN j (tbN l A8))) ds Q xe:=qc3 e (qc3 f (qc3 c (qa1 c (qa1 a (qa1 b (qq7 r (qa1 g q)))))))
theorem qN4{C:γ}{p x:D}(c:rdN i ds=some p)(hm:p.isM C m=true)(b:rdN j ds=some x)(a:rdN i (ds.set j .u)=some p)(r:R [p,x] d)(e:Au [.sl i,.sl j] [p,x] ((ds.set j .u).set i .u)=some ds)(q:Q d ds):qD0 C m (A5 R) [] i (tbN j A8) ds Q xe:=qE6 c hm (qc3 b (qa1 b (qa1 a (qq7 r (qa1 e q)))))
theorem qat8{C:γ}{p x:D}(e:rdN i ds=some p)(hm:p.isM C m=true)(f:rdN j ds=some x)(c:rdN l ds=some y)(a:rdN j (ds.set l .u)=some x)(b:rdN i ((ds.set l .u).set j .u)=some p)(r:R [p,x,y] d)(g:Au [.sl i,.sl j,.sl l] [p,x,y] (((ds.set l .u).set j .u).set i .u)=some ds)(q:Q d ds):qD0 C m (A5 R) [] i (tbN j (tbN l A8)) ds Q xe:=qE6 e hm (qc3 f (qc3 c (qa1 c (qa1 a (qa1 b (qq7 r (qa1 g q)))))))
theorem Fw{t:VT}(h:∀(Q:DK)(xe:XKd),Q (.bl true) ds->t ds Q xe)(h2:u e ds):Gi (sIf (Ep (ttE t)) n Gh) u e ds:=h _ _ h2
theorem if_e{t:VT}(h:∀(Q:DK)(xe:XKd),Q (.bl b) ds->t ds Q xe)(h1:b=true->u e ds)(h2:b=false->v e ds):sIf (ttE t) u v e ds:=h _ _ (by
 show if b=true then u e ds else v e ds
 exact ite_b h1 h2)
theorem if_v(h:f ds=some (.bl b))(h1:b=true->u e ds)(h2:b=false->v e ds):sIf (ttV f) u v e ds:=by show orF ((f ds).bind D.asB) _;rw[h];exact ite_b h1 h2
theorem Fx{u:VT}(h:f ds=some (.bl b))(h1:b=true->u ds Q xe)(h2:b=false->v ds Q xe):tIfE (ttV f) u v ds Q xe:=by show orF ((f ds).bind D.asB) _;rw[h];exact ite_b h1 h2
theorem qm6(e:f ds=some d)(q:Q d ds):Di f ds Q xe:=qa1 e q
theorem qj8(b:Bool)(h:f ds=some (.bl b))(h1:b=true->u {e with nx:=w e} ds)(h2:b=false->w e ds):Gi (sIf (ttV f) u Gh) w e ds:=if_v (u:=u) (v:=Gh) h h1 h2
theorem qi2{t:VT}(h:t ds e.rt e.xe):sRet t e ds:=h
theorem qg5(d:D)(h:f ds=some d)(q:e.rt d ds):sRet (Di f) e ds:=qa1 h q
theorem Aw(a:Ds)(h:ds=a)(q:t e a):t e ds:=h ▸ q
theorem qam7{z:Bool}(h:rdN i ds=some (.l z ys)):A9 (fx2 gIsi) (A6 (rdN i) (A6 (kC (D.ty "list")) λ_=>some [])) ds=some (.bl true):=by unfold A9 A6;rw[h];rfl
theorem ql4{z:Bool}(h:rdN i ds=some (.l z ys)):A9 (fx1 Fm) (A6 (rdN i) λ_=>some []) ds=some (.int (ys.length:Nat)):=by unfold A9 A6;rw[h];rfl
theorem qi1{Q:Bool->Ds->Prop}(h:f ds=some (.bl b))(q:Q b ds):ttV f ds Q xe:=by show orF ((f ds).bind D.asB) _;rw[h];exact q
theorem qo0{Q:Bool->Ds->Prop}(h:f ds=some (.bl b))(q:Q (!b) ds):Ep (ttV f) ds Q xe:=qi1 (Q:=λb ds=>Q (!b) ds) h q
theorem qV8{t u:VTT}{Q:Bool->Ds->Prop}(b c:Bool)(h1:∀Q:Bool->Ds->Prop,Q b ds->t ds Q xe)(h2:b=false->∀Q:Bool->Ds->Prop,Q c ds->u ds Q xe)(q:Q (b||c) ds):ttOr t u ds Q xe:=h1 _ (by
 cases b with
 |false=>exact h2 rfl _ q
 |true=>exact q)
theorem qp2{t u:VTT}{Q:Bool->Ds->Prop}(b c:Bool)(h1:∀Q:Bool->Ds->Prop,Q b ds->t ds Q xe)(h2:b=true->∀Q:Bool->Ds->Prop,Q c ds->u ds Q xe)(q:Q (b&&c) ds):ttAnd t u ds Q xe:=h1 _ (by
 cases b with
 |false=>exact q
 |true=>exact h2 rfl _ q)
theorem Jx(b:Bool)(h:∀Q:Bool->Ds->Prop,Q b ds->qc ds Q e.xe)(h1:b=true->t e ds)(h2:b=false->u e ds):sIf qc t u e ds:=h _ (ite_b h1 h2)
theorem qg7(b:Bool)(h:∀Q:Bool->Ds->Prop,Q b ds->qc ds Q e.xe)(h1:b=true->t {e with nx:=w e} ds)(h2:b=false->w e ds):Gi (sIf qc t Gh) w e ds:=h _ (ite_b h1 h2)
theorem qan8{t:VT}(h:∀(Q:DK)(xe:XKd),Q (.bl true) ds->t ds Q xe)(h2:e.nx ds):sIf (Ep (ttE t)) n Gh e ds:=h _ _ h2
theorem qaU0(h:f ds=some (.bl true))(h2:u e ds):Gi (sIf (Ep (ttV f)) n Gh) u e ds:=qo0 (Q:=λk a=>if k=true then n {e with nx:=u e} a else u e a) (xe:=e.xe) h h2
theorem qaI4:gIsO C (Ad z C n wr ps) (.adr C)=some (.bl true):=by show (if C=C then (Ad z C n wr ps).isC C else none)=_;rw[if_pos rfl];show (if C=C then some (D.bl true) else none)=_;rw[if_pos rfl]
theorem qe8{g:VTG}{t:VTS}{e:VEnds}(I:Nat->Ds->Prop):∀(xs:List D)(i:Nat)(ds:Ds),I i ds->(∀(j:Nat)(x:D),xs[j]?=some x->∀ds,I (i+j) ds->∀K:Ds->Prop,(∀a,I (i+j+1) a->K a)->g x ds λds1=>t {e with nx:=K,ct:=K,bk:=e.nx} ds1)->(∀a,I (i+xs.length) a->e.nx a)->Bw g t e xs ds|[],_,ds,h,_,hn=>hn ds h|x::xs,i,ds,h,hs,hn=>hs 0 x rfl ds h _ λa f=>qe8 I xs (i+1) a f (λj y k b c K l=>hs (j+1) y k b (by rw[show i+(j+1)=i+1+j by lia];exact c) K λd m=>l d (by rw[show i+1+j+1=i+(j+1)+1 by lia];exact m)) λb c=>hn b (by rw[zAp,show i+(xs.length+1)=i+1+xs.length by lia];exact c)
theorem qU2(h:f ds=some (.int n))(a:Fp n=true)(k:Bw g t e (By 0 n.toNat) ds):Jp (Gy (tbV (Dk f) A8)) g t e ds:=by show orF (f ds) _;rw[h];exact⟨rfl,a,k⟩
theorem qN2(a:0<=n)(h1:n<=1000):Fp n=true:=by unfold Fp;rw[zAf ⋯,zAf ⋯];rfl
theorem qI2{m:Nat}{x:D}(h:(By 0 m)[j]?=some x):j<m/\x=.int (j:Int):=by by_cases a:j<m;{rw[qah7 a] at h;cases h;exact⟨a,by rw[Int.zero_add]⟩};rw[zBx (by unfold By;rw[zA9,zB0];lia)] at h;cases h
def Ff(p:Int->Bool)(y:D):Option D:=y.asI.bind λk=>if p k=true then some (.int k) else none
theorem qam5(h:p k=true):Ff p (.int k)=some (.int k):=if_pos h
theorem qam6(h:p k=false):Ff p (.int k)=none:=if_neg (by rw[h];decide)
theorem qJ3(p:Int->Bool):∀ks:List Int,(O7 ks).filterMap (Ff p)=O7 (ks.filter p)|[]=>rfl|k::ks=>by show No (Ff p) (D.int k::O7 ks)=_;rw[zCt];cases h:p k with|true=>rw[qam5 h,Lx h];show D.int k::(O7 ks).filterMap (Ff p)=_;rw[qJ3 p ks];rfl|false=>rw[qam6 h,Lw (by rw[h];decide),qJ3 p ks]
theorem qbe3(h1:fa ds=some (.bl a))(h2:fb ds=some (.bl b)):fOr fa fb ds=some (.bl (a||b)):=by unfold fOr;rw[h1,h2];cases a<;>rfl
theorem qaB4(h1:fa ds=some (.bl a))(h2:fb ds=some (.bl b)):fAnd fa fb ds=some (.bl (a&&b)):=by unfold fAnd;rw[h1,h2];cases a<;>rfl
theorem qb2(ds1:Ds)(h1:∀K:Ds->Prop,K ds1->t {e with nx:=K} ds)(h2:u e ds1):Gi t u e ds:=h1 (u e) h2
theorem qc0(R:Ds->Prop)(h1:∀K:Ds->Prop,(∀ds1,R ds1->K ds1)->t {e with nx:=K} ds)(h2:∀ds1,R ds1->u e ds1):Gi t u e ds:=h1 (u e) h2
theorem qQ2(I:Nat->Ds->Prop)(n:Nat)(h:I n ds)(c:∀n ds,I n ds->∀K:Ds->Prop,(∀m a,m<n->I m a->K a)->qc ds (λb ds1=>if b=true then t {e with nx:=K,ct:=K,bk:=e.nx} ds1 else e.nx ds1) e.xe):qaN5 qc t e ds:=by
 have d:∀N n ds,n<N->I n ds->whN qc t e N ds:=by intro N;induction N with|zero=>intro n ds h;exact absurd h (zBw _)|succ N f=>intro n ds i h;exact c n ds h _ λm a j g=>f m a ⋯ g
 exact⟨n+1,d (n+1) n ds (Nat.lt_succ_self n) h⟩
theorem qaL3(f:rdN i ds=some x)(c:rdN j ds=some y)(b:rdN i (ds.set j .u)=some x)(h:s [x,y] (λd ys=>orF (Au [.sl i,.sl j] ys ((ds.set j .u).set i .u)) λa=>Q d a) (λe ys=>orF (Au [.sl i,.sl j] ys ((ds.set j .u).set i .u)) λa=>xe e a)):qk1 s [] (tbN i (tbN j A8)) ds Q xe:=qc3 f (qc3 c (qa1 c (qa1 b h)))
theorem qaW7{x w:D}(g:rdN i ds=some x)(k:rdN j ds=some y)(f:rdN l ds=some w)(b:rdN j (ds.set l .u)=some y)(c:rdN i ((ds.set l .u).set j .u)=some x)(h:s [x,y,w] (λd ys=>orF (Au [.sl i,.sl j,.sl l] ys (((ds.set l .u).set j .u).set i .u)) λa=>Q d a) (λe ys=>orF (Au [.sl i,.sl j,.sl l] ys (((ds.set l .u).set j .u).set i .u)) λa=>xe e a)):qk1 s [] (tbN i (tbN j (tbN l A8))) ds Q xe:=qc3 g (qc3 k (qc3 f (qa1 f (qa1 b (qa1 c h)))))
theorem qbc2{C:γ}{k:Nat}{p x w:D}(f:rdN i ds=some p)(hm:p.isM C m=true)(g:rdN j ds=some x)(h:rdN l ds=some y)(e:rdN k ds=some w)(a:rdN l (ds.set k .u)=some y)(b:rdN j ((ds.set k .u).set l .u)=some x)(c:rdN i (((ds.set k .u).set l .u).set j .u)=some p)(r:R [p,x,y,w] d)(n:Au [.sl i,.sl j,.sl l,.sl k] [p,x,y,w] ((((ds.set k .u).set l .u).set j .u).set i .u)=some ds)(q:Q d ds):qD0 C m (A5 R) [] i (tbN j (tbN l (tbN k A8))) ds Q xe:=qE6 f hm (qc3 g (qc3 h (qc3 e (qa1 e (qa1 a (qa1 b (qa1 c (qq7 r (qa1 n q)))))))))
theorem qaE0(h:ds[j]?=some d):ds.set j d=ds:=by obtain⟨a,e⟩:=zA5.mp h;rw[<-e];exact List.set_getElem_self a
theorem qh0(h:ds[i]?=some d)(a:d.known=true):rdN i ds=some d:=qm0.mpr ⟨h,a⟩
def Ph(ns:List Int)(b:D):Prop:=∃x y z,b=bagD x y z ns/\Bg x y z ns
theorem Ph.known{b:D}(h:Ph ns b):b.known=true:=by obtain⟨x,y,z,rfl,_⟩:=h;rfl
def qH4:VSp:=λds Q _=>∃b m ns,ds=[b,.int m]/\Ph ns b/\0<m/\m<2 ^ 200/\∀v a,0<=v->v<m->Ph ns a->Q (.int v) [a,.int m]
theorem qb8{b:D}{m:Int}(d:ds[i]?=some b)(B:Ph ns b)(e:f ds=some (.int m))(g:0<m)(h1:m<2 ^ 200)(q:∀v a,0<=v->v<m->Ph ns a->Q (.int v) (ds.set i a)):qk1 qH4 [] (tbN i (tbV (Di f) A8)) ds Q xe:=by have c:=qh0 d B.known;refine qc3 c (qj1 e (qa1 c ⟨b,m,ns,rfl,B,g,h1,λv a h j B'=>?_⟩));show Q (.int v) ((ds.set i .u).set i a);rw[M7];exact q v a h j B'
theorem qy3{b:D}{m:Int}(f:ds[i]?=some b)(B:Ph ns b)(c:ds[j]?=some (.int m))(d:i≠j)(g:0<m)(h1:m<2 ^ 200)(q:∀v a,0<=v->v<m->Ph ns a->Q (.int v) (ds.set i a)):qk1 qH4 [] (tbN i (tbN j A8)) ds Q xe:=by
 have h:=qh0 f B.known;have k:rdN j ds=some (.int m):=qh0 c rfl;have o:j<ds.length:=(zA5.mp c).1;refine qaL3 h k (qh0 (by rw[zBe (Ne.symm d)];exact f) B.known) ⟨b,m,ns,rfl,B,g,h1,λv a l n B'=>?_⟩;show Q (.int v) ((((ds.set j .u).set i .u).set i a).set j (.int m));have e:(((ds.set j .u).set i .u).set i a).set j (.int m)=ds.set i a:=by rw[M7,List.set_comm _ _ (Ne.symm d),M7];exact qaE0 (by rw[zBe d];exact c)
 rw[e];exact q v a l n B'
theorem Jy{i j:Int}(h:small j=true):F6 (.int i) (.int j)=some (.int (i*j)):=qh4 (by rw[h,Bool.or_true])
theorem mulL{i j:Int}(h:small i=true):F6 (.int i) (.int j)=some (.int (i*j)):=qh4 (by rw[h,Bool.true_or])
theorem qaK3{i j:Int}(h:0<j)(h1:j<2 ^ 200):gDiv (.int i) (.int j)=some (.int (i/j)):=qh4 (by show (decide (0<j)&&decide (j<2 ^ 200))=true;rw[zAf h,zAf h1];rfl)
theorem Ed{x:Int}(h:0<n):Ia (.int x) (.int n)=some (.int (x%n)):=qh4 (zAf h)
theorem qR7{i:Int}(h:-(2 ^ 64)<i)(h':i<2 ^ 64):small i=true:=by unfold small;rw[zAf h,zAf h'];rfl
theorem Du{z:Bool}{g:Nat->Option Int}(h:r<N):gIx (.l z (O8 N g)) (.int (r:Int))=some (At (g r)):=qP5 (qC3 h)
theorem Il{g:Nat->Option Int}(h:r<N):ixN (O8 N g).length (r:Int)=some r:=by rw[qj7];unfold ixN;simp[h]
theorem qH7{n:Nat}{g:Nat->Option Int}{c:Int}:(O8 n g).set i (.int c)=O8 n (Row.set g i c):=qag8 (o:=some c)
theorem qaG8(N:Nat):(Li N [D.non]).flatten=O8 N (λ_=>none):=by unfold O8;induction N with|zero=>rfl|succ N a=>rw[List.replicate_succ',List.flatten_append,a,Mq,zBj];rfl
theorem qak3(a:0<=n)(h1:n<=64):F6 (.l false [.non]) (.int n)=some (.l false (O8 n.toNat λ_=>none)):=by show gd _ _=_;rw[<-qaG8];exact qh4 ⟨rfl,by show 1*n.toNat<=1000000;lia,⋯,⋯⟩
theorem qs2{g:Nat->Option Int}(h:∀i,i<N->g i=g' i):O8 N g=O8 N g':=by unfold O8;apply List.map_congr_left;intro i a;rw[h i (zAj.mp a)]
theorem qY7(h:f ds=some (.int n))(a:Fp n=true)(k:Bw g t e (By 0 n.toNat) ds):Jp (Gy (tbV (Di f) A8)) g t e ds:=by show orF (f ds) _;rw[h];exact⟨a,k⟩
theorem qau9{g:VTG}{n:Int}(h:rdN i ds=some (.int n))(a:Fp n=true)(k:Bw g t e (By 0 n.toNat) (ds.set i .u)):Jp (Gy (tbN i A8)) g t e ds:=by refine⟨by rw[h];rfl,?_⟩;exact qa1 h ⟨a,k⟩
theorem qaj8:Jg true (.int k) (.l z (O7 ks))=some (.bl (!decide (k∈ks))):=by show ((flats (O7 ks)).bind λa=>some (D.bl (if true=true then !inV (.int k) a else inV (.int k) a)))=_;rw[qC5];show some (D.bl (!inV (.int k) (ks.map V.int)))=_;rw[qan2]
theorem qaT4{k:Int}{z:Bool}:Jg false (.int k) (.l z (O7 ks))=some (.bl (decide (k∈ks))):=by show ((flats (O7 ks)).bind λa=>some (D.bl (if false=true then !inV (.int k) a else inV (.int k) a)))=_;rw[qC5];show some (D.bl (inV (.int k) (ks.map V.int)))=_;rw[qan2]
theorem qN7(lo:Int)(n:Nat):(By lo n).length=n:=by unfold By;rw[zA9,zB0]
theorem qx7(e:f ds=some d)(hi:d.imm=true)(q:Q d ds):Dk f ds Q xe:=qa1 (a:=d) (k:=λ(d:D)=>d.imm=true/\Q d ds) e ⟨hi,q⟩
theorem qL5(h:f ds=some d)(hi:d.imm=true)(q:e.nx (ds.set i d)):Ec (Dk f) (gNm i) e ds:=qx7 (Q:=λd a=>gNm i d a e.nx) h hi q
theorem qn0(h:f ds=some d)(q:e.nx (ds.set i d)):Ec (Di f) (gNm i) e ds:=qm6 (Q:=λd a=>gNm i d a e.nx) h q
theorem qaB0{k:Int}{n:Nat}{K:Ds->Prop}(hi:ds[i]?=some (.l false ys))(b:fb ds=some (.int k))(c:ixN ys.length k=some n)(q:K (ds.set i (.l false (ys.set n d)))):Ft (λ_=>some (i,[])) fb d ds K:=by refine qa1 (a:=(i,([]:List Nat))) rfl ?_;refine qa1 (a:=ys) (by show (Bf ds i []).bind D.own=_;rw[qJ7 hi];rfl) ?_;refine qa1 (a:=k) (by rw[b];rfl) ?_;refine qa1 c ?_;show K (Bk ds i [] (.l false (ys.set n d)));rw[qH6 hi];exact q
theorem qK9{k:Int}{n:Nat}(b:f ds=some d)(c:d.imm=true)(hi:ds[i]?=some (.l false ys))(g:fb ds=some (.int k))(h:ixN ys.length k=some n)(q:e.nx (ds.set i (.l false (ys.set n d)))):Ec (Dk f) (Ft (λ_=>some (i,[])) fb) e ds:=qx7 (Q:=λd a=>Ft (λ_=>some (i,[])) fb d a e.nx) b c (qaB0 hi g h q)
theorem qW1{k:Int}{n:Nat}(b:f ds=some d)(hi:ds[i]?=some (.l false ys))(c:fb ds=some (.int k))(g:ixN ys.length k=some n)(q:e.nx (ds.set i (.l false (ys.set n d)))):Ec (Di f) (Ft (λ_=>some (i,[])) fb) e ds:=qm6 (Q:=λd a=>Ft (λ_=>some (i,[])) fb d a e.nx) b (qaB0 hi c g q)
theorem qb9(c:f ds=some y)(hi:y.imm=true)(h:tr ds (λxs ps a=>K (y::xs) (.no::ps) a) xe):tbV (Dk f) tr ds K xe:=qx7 (Q:=λy b=>tr b (λxs ps a=>K (y::xs) (.no::ps) a) xe) c hi h
theorem qP7(hi:ds[i]?=some (.l false ys))(b:f ds=some d)(c:ys.length<big)(q:Q .non (ds.set i (.l false (ys++[d])))):Eg Gj i (tbV (Di f) A8) ds Q xe:=by
 have e:(rdN i ds).bind D.own=some ys:=by rw[qh0 hi rfl];rfl
 refine⟨by rw[e];rfl,qj1 b ?_⟩;refine qa1 (k:=λys=>orF (Gj ys [d]) λz=>Q z.2 (ds.set i (.l false z.1))) e ?_;exact qa1 (a:=(ys++[d],D.non)) (if_pos c) q
theorem qaq2(hi:ds[i]?=some (.l false ys))(b:ds[j]?=some d)(c:d.known=true)(f:i≠j)(g:ys.length<big)(q:Q .non ((ds.set j .u).set i (.l false (ys++[d])))):Eg Gj i (tbN j A8) ds Q xe:=by
 have e:(rdN i ds).bind D.own=some ys:=by rw[qh0 hi rfl];rfl
 have e2:(rdN i (ds.set j .u)).bind D.own=some ys:=by rw[qh0 (d:=.l false ys) (by rw[zBe (Ne.symm f)];exact hi) rfl];rfl
 refine⟨by rw[e];rfl,qc3 (qh0 b c) ?_⟩;refine qa1 (k:=λd=>orF ((rdN i (ds.set j .u)).bind D.own) λys=>orF (Gj ys [d]) λz=>Q z.2 ((ds.set j .u).set i (.l false z.1))) (qh0 b c) ?_;refine qa1 (k:=λys=>orF (Gj ys [d]) λz=>Q z.2 ((ds.set j .u).set i (.l false z.1))) e2 ?_;exact qa1 (a:=(ys++[d],D.non)) (if_pos g) q
theorem qak2(h1:pf ds=some (i,p))(h2:(Bf ds i p).bind D.own=some ys)(a:ds[i]?=some d0)(h:tr (ds.set i .u) (λxs _ ds1=>orF (g ys xs) λz=>Q z.2 (Bk (ds1.set i d0) i p (.l false z.1))) xe):Et g pf tr ds Q xe:=by unfold Et;rw[h1];show orF ((Bf ds i p).bind D.own) _;rw[h2];show orF ds[i]? _;rw[a];exact h
theorem qbf7{f:Int->Int->Int}{b:FV}{k x y:Int}(hi:ds[i]?=some (.l false ys))(c:fb ds=some (.int k))(d:0<=k)(g:ys[k.toNat]?=some (.int x))(h:b ds=some (.int y))(q:e.nx (ds.set i (.l false (ys.set k.toNat (.int (f x y)))))):sAugV f (λ_=>some (i,[])) fb b e ds:=by refine qa1 (a:=(i,([]:List Nat))) rfl ?_;refine qa1 (a:=ys) (by show (Bf ds i []).bind D.own=_;rw[qJ7 hi];rfl) ?_;refine qa1 (a:=k) (by rw[c];rfl) ⟨d,?_⟩;refine qa1 (a:=x) (by rw[g];rfl) ?_;refine qa1 (a:=y) (by rw[h];rfl) ?_;show e.nx (Bk ds i [] _);rw[qH6 hi];exact q
theorem Fg(b:Bool)(h:fa ds=some (.bl b))(h1:b=true->tb ds Q xe)(h2:b=false->Q (.bl false) ds):Ji (Di fa) tb ds Q xe:=qm6 (xe:=xe) (Q:=λx ds=>orF x.asB λk=>if k=true then tb ds Q xe else Q (.bl false) ds) h (ite_b h1 h2)
theorem qj9{K:Ds->Prop}(h:K (ds.set i d)):gNm i d ds K:=h
theorem qb7(h:K [] [] ds):A8 ds K xe:=h
theorem qe5(h:te ds (λ_ a=>e.nx a) e.xe):sExpr te e ds:=h
theorem qq9(h:K ((ds.set i x).set j y)):Jm 2 (Jl (gNm i) (Jl (gNm j) Jk)) (.q [x,y]) ds K:=⟨rfl,h⟩
theorem qC9{Q:Bool->Ds->Prop}(h:Q true ds):qYes ds Q xe:=h
theorem qw7{S:List Int}{k:Int}:O7 S++[.int k]=O7 (S++[k]):=by unfold O7;rw[zBj];rfl
theorem qax6(h:tr ds (λxs _ ds1=>xs.length<=big/\a ds1 (λys c b=>K (.q xs::ys) (.no::c) b) xe) xe):tbV (Jj tr) a ds K xe:=h
theorem qc9(h:ta ds (λx ds1=>tr ds1 (λxs ps a=>K (x::xs) (.no::ps) a) xe) xe):tbV ta tr ds K xe:=h
theorem qax8{x:D}(a:fa ds=some x)(b:fb ds=some y)(c:x.imm=true)(d:y.imm=true):A9 gTup (A6 fa (A6 fb λ_=>some [])) ds=some (.q [x,y]):=by unfold A9 A6;rw[a,b];show gd (D.imms [x,y]=true/\[x,y].length<=big) (.q [x,y])=_;refine qh4 ⟨?_,by show 2<=1000000;decide⟩;show (x.imm&&(y.imm&&true))=true;rw[c,d];rfl
theorem qK1:B7 ys none (some (r:Int))=ys.take r:=by unfold B7;have a:HT.sIx ys.length ys.length (some ((r:Nat):Int))=min r ys.length:=HT.qah4 _ _ r;rw[a,HT.qS8,Mg,Nat.sub_zero];by_cases h:r<=ys.length;{rw[zCy h]};rw[Nat.min_eq_right ⋯,zCv,zAu ⋯]
theorem qbe4(h:y∈enD ys):∃i v,y=.q [.int (i:Nat),v]/\ys[i]?=some v:=by obtain⟨⟨v,i⟩,a,rfl⟩:=zBc.mp h;exact⟨i,v,rfl,List.mem_zipIdx_iff_getElem?.mp a⟩
theorem qaN7{g:Nat->Option Int}(h:d∈O8 N g):d=.non∨∃k,d=.int k:=by unfold O8 at h;obtain⟨i,_,rfl⟩:=zBc.mp h;cases g i with|none=>exact .inl rfl|some k=>exact .inr ⟨k,rfl⟩
theorem qI4{Q:Bool->Ds->Prop}(h:ta ds (λx ds1=>orF ((fb ds1).bind (g x)) λd=>orF d.asB λb=>Q b ds1) xe):ttE (t2v g ta fb) ds Q xe:=h
theorem qd6(h:tr ds (λxs ps ds1=>s (xs++[]) (λd ys=>orF (Au ps ys ds1) λa=>Q d a) (λx ys=>orF (Au ps ys ds1) λa=>xe x a)) xe):qk1 s [] tr ds Q xe:=h
theorem qD1{g:D->D->Option D}{x:D}(c:fa ds=some x)(h:tb ds (λy a=>orF (g x y) λd=>Q d a) xe):t2 g (Di fa) tb ds Q xe:=qm6 (xe:=xe) (Q:=λx b=>tb b (λy a=>orF (g x y) λd=>Q d a) xe) c h
theorem qK8(h:ta ds (λx ds1=>orF ((fb ds1).bind (g x)) λd=>Q d ds1) xe):t2v g ta fb ds Q xe:=h
theorem qaf6(h:ta ds (λx ds1=>orF (fb ds1) λy=>y.imm=true/\orF (g x y) λd=>Q d ds1) xe):Jd g ta fb ds Q xe:=h
theorem qE8(h:tr ds (λxs _ ds1=>xs.length<=big/\Q (.l false xs) ds1) xe):tLstV tr ds Q xe:=h
theorem qe3(h:te ds (λd a=>e.nx (a.set i d)) e.xe):Ec te (gNm i) e ds:=h
theorem qaS2(h:tr ds (λxs ps ds1=>s (.ins false C []::(xs++[])) (λd ys=>d.isN=some true/\orF ys.head? λself=>orF (Au ps ys.tail ds1) λa=>Q self a) (λx ys=>orF (Au ps ys.tail ds1) λa=>xe x a)) xe):Ie C s [] tr ds Q xe:=h
theorem qal4(h:rdN i ds=some (.l z (O7 S)):=by rfl):A9 (fx1 Hg) (A6 (rdN i) λ_=>some []) ds=some (.l false (O7 S)):=by unfold A9 A6;rw[h];exact qh4 (qf7 S)
theorem eq_ks:∀ks c:List Int,Ez (eqN 20) (O7 ks) (O7 c)=some (decide (ks=c))|[],[]=>rfl|[],_::_=>rfl|_::_,[]=>rfl|k::ks,l::c=>by show ((some (k==l)).bind λa=>(Ez (eqN 20) (O7 ks) (O7 c)).bind λb=>some (a&&b))=_;rw[eq_ks ks c];show some ((k==l)&&decide (ks=c))=_;by_cases h:k=l;{subst h;simp};simp[h]
theorem qaJ5{z:Bool}(ks a:List Int):gEq (.l z (O7 ks)) (.l z' (O7 a))=some (.bl (decide (ks=a))):=by show (Ez (eqN 20) (O7 ks) (O7 a)).map D.bl=_;rw[eq_ks];rfl
theorem Gk(h:te ds (λd ds1=>Q d.fz ds1) xe):tFzV te ds Q xe:=h
def okN:Nat->D->Bool|n+1,.l _ xs=>xs.all (okN n)|n+1,.q xs=>xs.all (okN n)|_,x=>x.flat.isSome
theorem qy1{f:D->D->Option Bool}:∀{xs:List D},(∀x∈xs,f x x=some true)->Ez f xs xs=some true|[],_=>rfl|x::xs,h=>by show ((f x x).bind λa=>(Ez f xs xs).bind λb=>some (a&&b))=_;rw[h x zAh,qy1 λy c=>h y (zA7 _ c)];rfl
theorem qU5{x:D}(h:x.flat.isSome=true):eqZ x x=some true:=by cases x with|non=>rfl|bl b=>show some (eqV (.bl b) (.bl b))=_;rw[qC6 rfl]|int i=>show some (eqV (.int i) (.int i))=_;rw[qC6 rfl]|str i=>show some (eqV (.str i) (.str i))=_;rw[qC6 rfl]|_=>cases h
theorem qJ9:∀{n:Nat}{x:D},okN n x=true->eqN n x x=some true|0,x,h=>by rw[qU6];refine qU5 ?_;cases x<;>exact h|n+1,x,h=>by cases x with|l z b=>exact qy1 λy a=>qJ9 (zBo.mp h y a)|q b=>exact qy1 λy a=>qJ9 (zBo.mp h y a)|_=>exact qU5 h
theorem qao2{x:D}(h:x.flat.isSome=true):gNe x x=some (.bl false):=by
 have e:eqT x x=some true:=by cases x with|l z a=>cases h|_=>exact qU5 h
 unfold gNe;rw[e];rfl
theorem qaW3{src:List (Option Nat)}{g:VTG}(h:tr ds (λxs _ ds1=>orF (Ih xs) λj=>Fp j=true/\Ei src g qf te (By 0 j.toNat) ds1 Q) xe):Jq src (Gy tr) g qf te ds Q xe:=h
theorem qaa1{g:VTG}{K:Ds->Ds->Prop}{x:D}{xs acc a:Ds}(h:g x a λι1=>qf ι1 (λb ι2=>if b=true then te ι2 (λd ι3=>acc.length<big/\Dm g qf te K xs (acc++[d]) ι3) (λ_ _=>False) else Dm g qf te K xs acc ι2) (λ_ _=>False)):Dm g qf te K (x::xs) acc a:=h
theorem Jz(h:(O7 ks)[i]?=some y):∃z,ks[i]?=some z/\y=.int z:=by unfold O7 at h;rw[zB5] at h;cases e:ks[i]? with|none=>rw[e] at h;cases h|some z=>rw[e] at h;exact⟨z,rfl,(N5 h).symm⟩
theorem qy2{k:Int}(h:ks[i]?=some k):ks.take (i+1)=ks.take i++[k]:=by rw[zBp,h];rfl
theorem qT7(b:ks.Nodup){k:Int}(h:ks[i]?=some k):¬k∈ks.take i:=λz=>by
 obtain⟨j,a⟩:=List.getElem?_of_mem z;rw[List.getElem?_take] at a;split at a
 .rename_i hlt
  obtain⟨d,c⟩:=zA5.mp h;obtain⟨e,e2⟩:=zA5.mp a
  have:=(Nb b).mp (e2.trans c.symm)
  lia
 cases a
theorem qaU8:∀ks:List Int,D.fzs (O7 ks)=O7 ks|[]=>rfl|k::r=>congrArg (D.int k::·) (qaU8 r)
theorem qw8:∀ps:Pr,D.fzs (O9 ps)=O9 ps|[]=>rfl|p::r=>congrArg (D.q [.int p.1,.int p.2]::·) (qw8 r)
theorem qaU9:∀ps:Pr,D.fzk (kvD ps)=kvD ps|[]=>rfl|p::r=>congrArg ((Sum.inl p.1,D.int p.2)::·) (qaU9 r)
theorem qaB2:(Ad z C n wr ps).fz=Ad true C n wr ps:=by show D.ins true C [("rooms",.int n),("wraps",.bl wr),("homes",.l true (D.fzs (O9 ps))),("home_numbers",.dct true (D.fzk (kvD ps)))]=_;rw[qw8,qaU9];rfl
theorem Eu(ks:List Int):(D.l z (O7 ks)).fz=.l true (O7 ks):=congrArg (D.l true) (qaU8 ks)
theorem qbe9{z:Bool}{S T:List Int}{lo hi:FO}{l h:Option Int}(a:rdN i ds=some (.l z (O7 S)))(h1:lo ds=some l)(h2:hi ds=some h)(e:B7 (O7 S) l h=O7 T):fsl (rdN i) lo hi ds=some (.l false (O7 T)):=by unfold fsl;rw[a,Option.bind_some,h1,Option.bind_some,h2,Option.bind_some,if_pos (show noT (D.l z (O7 S))=true from rfl)];show gd (D.imms (B7 (O7 S) l h)=true) (D.l false (B7 (O7 S) l h))=_;rw[e];exact qh4 (qf7 T)
theorem qV5(h:A.length+B.length<=1000):Gc (.l z (O7 A)) (.l z' (O7 B))=some (.l false (O7 (A++B))):=by show gd _ (D.l false (O7 A++O7 B))=_;rw[show O7 (A++B)=O7 A++O7 B from zBj];exact qh4 ⟨qf7 A,qf7 B,by rw[qf5,qf5];unfold big;lia⟩
theorem co_to(h:tr ds (λxs _ ds1=>orF (gc xs) λd=>Q d ds1) xe):tcO gc (Gy tr) ds Q xe:=h
theorem qaI7(h:qc ds (λb a=>if b=true then t {e with nx:=w e} a else w e a) e.xe):Gi (sIf qc t Gh) w e ds:=h
theorem qaa2{g:VTG}{qf:VTT}{te:VT}{K:Ds->Ds->Prop}(I:Nat->Ds->Ds->Prop):∀(xs:Ds)(i:Nat)(acc l:Ds),I i acc l->(∀(j:Nat)(x:D),xs[j]?=some x->∀acc l,I (i+j) acc l->∀R:Ds->Ds->Prop,(∀acc' l',I (i+j+1) acc' l'->R acc' l')->g x l λι1=>qf ι1 (λb ι2=>if b=true then te ι2 (λd ι3=>acc.length<big/\R (acc++[d]) ι3) (λ_ _=>False) else R acc ι2) (λ_ _=>False))->(∀acc l,I (i+xs.length) acc l->K acc l)->Dm g qf te K xs acc l|[],_,acc,l,h,_,hn=>hn acc l h|x::xs,i,acc,l,h,hs,hn=>hs 0 x rfl acc l h _ λacc' l' c=>qaa2 I xs (i+1) acc' l' c (λj y e acc2 ι2 a R f=>hs (j+1) y e acc2 ι2 (by rw[show i+(j+1)=i+1+j by lia];exact a) R λacc3 ι3 k=>f acc3 ι3 (by rw[show i+1+j+1=i+(j+1)+1 by lia];exact k)) λacc2 ι2 a=>hn acc2 ι2 (by rw[zAp,show i+(xs.length+1)=i+1+xs.length by lia];exact a)
theorem qV6{l m n:Int}(h1:l<=n)(h2:n<=m):(D.int n).within l m=true:=by show (decide (l<=n)&&decide (n<=m))=true;rw[zAf h1,zAf h2];rfl
theorem qak6(h1:g ds=some d)(hi:d.imm=true)(hm:d.isM C m=true)(h:tr ds (λxs ps ds1=>s (d::(xs++[])) (λr ys=>orF (Au (.no::ps) ys ds1) λb=>Q r b) (λx ys=>orF (Au (.no::ps) ys ds1) λb=>xe x b)) xe):Jr C m s [] g tr ds Q xe:=qa1 (a:=d) h1 ⟨hi,hm,h⟩
theorem qn9{p:List Nat}{w:V}{ps:List Pl}(h:Bf ds i p=some (.hole w)):Au (.pl i p w::ps) (y::ys) ds=Au ps ys (Bk ds i p y):=by show (match Bf ds i p with|some (.hole a)=>if a=w then Au ps ys (Bk ds i p y) else none|_=>none)=_;rw[h];exact if_pos rfl
theorem qN5{C:γ}{p:D}(a:rdN i ds=some p)(hm:p.isM C m=true)(r:R [p] d)(b:Au [.sl i] [p] (ds.set i .u)=some ds)(q:Q d ds):qD0 C m (A5 R) [] i A8 ds Q xe:=qE6 a hm (qb7 (qa1 a (qq7 r (qa1 b q))))
theorem qaM3(h:tr ds (λxs _ ds1=>xs.length<=big/\Q (.q xs) ds1) xe):Jj tr ds Q xe:=h
theorem qar7(h:ta ds (λx ds1=>tb ds1 (λy a=>orF (g x y) λd=>Q d a) xe) xe):t2 g ta tb ds Q xe:=h
theorem qaY3(h:rdN i ds=some d)(q:Q d.fz (ds.set i d.fz)):tFz i ds Q xe:=qa1 h q
def Ae(n:Int)(wr:Bool)(ps:Pr):D:=.q [.int n,.bl wr,.l true (O9 ps)]
theorem qaC4(hi:ds[i]?=some (.l false ys))(b:f ds=some d)(c:d.imm=true)(g:ys.length<big)(q:Q .non (ds.set i (.l false (ys++[d])))):Eg Gj i (tbV (Dk f) A8) ds Q xe:=by
 have e:(rdN i ds).bind D.own=some ys:=by rw[qh0 hi rfl];rfl
 refine⟨by rw[e];rfl,qb9 b c ?_⟩;refine qa1 (k:=λys=>orF (Gj ys [d]) λz=>Q z.2 (ds.set i (.l false z.1))) e ?_;exact qa1 (a:=(ys++[d],D.non)) (if_pos g) q
local macro_rules | `(tactic| walk_at "s")=>`(tactic| exact⟨rfl,rfl,rfl,by decide +kernel,rfl,by decide +kernel,by decide +kernel⟩)
local macro_rules | `(tactic| walk_at "m")=>`(tactic| (intro _ _ _ _ _ k l;repeat' first|exact id|exact k _ _|exact l _ _|refine Exists.imp λ_=>?_|refine And.imp ?_ ?_|refine O4 ?_ ?_|refine forall_imp λ_=>?_))
local macro_rules | `(tactic| walk_at "l")=>`(tactic| (intro _ _ _ h;(repeat (first|refine Exists.elim h λ_ h=>?_|refine And.elim (λh _=>?_) h));rw[h];exact⟨rfl,rfl⟩))
theorem lt2:2<=big:=by show 2<=1000000;decide
theorem lt3:3<=big:=by show 3<=1000000;decide
theorem lt4:4<=big:=by show 4<=1000000;decide
noncomputable def top(i:Nat):K4:=PySem.Challenge.pw_homeward_k82_whole_alike_by_keys.main.body.getD i (.Pass ⟨0,0,0,0⟩)
abbrev qay2:K4:=top 0
abbrev qz5:K4:=top 13
abbrev qg8:K4:=top 14
abbrev qu7:K4:=top 15
abbrev qq0:K4:=top 16
abbrev qh7:K4:=top 17
abbrev qk3:K4:=top 18
abbrev qv1:K4:=qi4 (top 19) 0
abbrev qk5:K4:=qi4 (top 19) 2
abbrev qv2:K4:=qi4 (top 19) 4
abbrev qA1:K4:=qi4 (top 19) 5
abbrev qg9:K4:=qi4 (top 19) 6
abbrev qp9:K4:=top 21
abbrev qe7:K4:=top 22
abbrev qz3:K4:=top 23
abbrev qu6:K4:=top 24
abbrev qz6:K4:=top 25
abbrev qu9:K4:=top 27
abbrev qk4:K4:=top 28
abbrev qk2:K4:=top 29
abbrev qz7:K4:=top 30
abbrev qn1:K4:=top 32
abbrev qi7:K4:=top 33
abbrev qu8:K4:=top 34
abbrev qA0:K4:=qi4 (top 35) 0
abbrev qh8:K4:=qi4 (top 35) 1
abbrev qi8:K4:=qi4 (top 35) 2
abbrev qL8:K4:=qi4 (top 35) 3
abbrev qn2:K4:=qi4 (top 35) 4
abbrev qI0:K4:=qi4 (top 35) 5
abbrev qz9:K4:=qi4 (top 35) 6
abbrev qz8:K4:=qi4 (top 35) 7
abbrev qv0:K4:=qi4 (top 35) 8
abbrev qf1:K4:=top 37
abbrev qi6:K4:=top 38
abbrev qz4:K4:=top 39
abbrev qH9:K4:=top 40
abbrev qaE3:K4:=top 42
abbrev qah2:K4:=top 43
abbrev qah3:K4:=top 44
abbrev qA2:K4:=top 45
abbrev qI1:K4:=top 46
abbrev qk7:K4:=top 47
abbrev qS6:K4:=top 48
abbrev qA4:K4:=top 49
abbrev qaE2:K4:=top 50
abbrev qk6:K4:=top 51
abbrev qS7:K4:=top 52
abbrev qA3:K4:=top 53
abbrev Gm:K4:=top 54
set_option genInjectivity false in
set_option genSizeOf false in
structure Adr where
 f0:γ
 d0:ε
 f1:γ
 d1:ε
 f2:γ
 d2:ε
 f3:γ
 d3:ε
 f4:γ
 d4:ε
 f5:γ
 d5:ε
 f6:γ
 d6:ε
 f7:γ
 d7:ε
 f8:γ
 d8:ε
 f9:γ
 d9:ε
 f10:γ
 d10:ε
 f11:γ
 d11:ε
 f12:γ
 d12:ε
 f13:γ
 d13:ε
 f14:γ
 d14:ε
 f15:γ
 d15:ε
 f16:γ
 d16:ε
 f17:γ
 d17:ε
 f18:γ
 d18:ε
 f19:γ
 d19:ε
 f20:γ
 d20:ε
 f21:γ
 d21:ε
 f22:γ
 d22:ε
 f23:γ
 d23:ε
 f24:γ
 d24:ε
 f25:γ
 d25:ε
 f26:γ
 d26:ε
 f27:γ
 d27:ε
 f28:γ
 d28:ε
 f29:γ
 d29:ε
 f30:γ
 d30:ε
 f31:γ
 d31:ε
 f32:γ
 d32:ε
 f33:γ
 d33:ε
 f34:γ
 d34:ε
 f35:γ
 d35:ε
 f36:γ
 d36:ε
 f37:γ
 d37:ε
 f38:γ
 d38:ε
 f39:γ
 d39:ε
 f40:γ
 d40:ε
 f41:γ
 d41:ε
 f42:γ
 d42:ε
 f43:γ
 d43:ε
 f44:γ
 d44:ε
 f45:γ
 d45:ε
 f46:γ
 d46:ε
 f47:γ
 d47:ε
 f48:γ
 d48:ε
 f49:γ
 d49:ε
 Cd:Tok
 Cf:Tok
 Ch:Tok
 C3:γ
 C4:γ
structure Txt(K:N7)(mg:Str->Option V')(a:Adr):Prop where
 d0:Df K mg "_wall" "_wall" qay2 a.f0 a.d0 ["k"]
 d1:Df K mg "is_whole" "is_whole" qz5 a.f1 a.d1 ["thing"]
 d2:Df K mg "is_whole_within" "is_whole_within" qg8 a.f2 a.d2 ["thing", "least", "most"]
 d3:Df K mg "is_number" "is_number" qu7 a.f3 a.d3 ["thing"]
 d4:Df K mg "are_parted" "are_parted" qq0 a.f4 a.d4 ["numbers"]
 d5:Df K mg "is_number_pair" "is_number_pair" qh7 a.f5 a.d5 ["thing"]
 d6:Df K mg "is_home_list" "is_home_list" qk3 a.f6 a.d6 ["thing"]
 d7:Md K a.C3 "__init__" "Plan.__init__" qv1 a.f7 a.d7 ["self", "rooms", "wraps", "homes"]
 d8:Md K a.C3 "is_room" "Plan.is_room" qk5 a.f8 a.d8 ["self", "thing"]
 d9:Md K a.C3 "home" "Plan.home" qv2 a.f9 a.d9 ["self", "key"]
 d10:Md K a.C3 "far" "Plan.far" qA1 a.f10 a.d10 ["self", "key", "room"]
 d11:Md K a.C3 "goes_ahead" "Plan.goes_ahead" qg9 a.f11 a.d11 ["self", "room", "one", "other"]
 d12:Df K mg "room_ahead" "room_ahead" qp9 a.f12 a.d12 ["plan", "room"]
 d13:Df K mg "word_by_room_ahead" "word_by_room_ahead" qe7 a.f13 a.d13 ["plan", "rooms", "room"]
 d14:Df K mg "word_due" "word_due" qz3 a.f14 a.d14 ["plan", "rooms", "room"]
 d15:Df K mg "is_turned" "is_turned" qu6 a.f15 a.d15 ["plan", "rooms"]
 d16:Df K mg "fault_of" "fault_of" qz6 a.f16 a.d16 ["plan", "rooms"]
 d17:Df K mg "are_crowd" "are_crowd" qu9 a.f17 a.d17 ["plan", "keys", "room"]
 d18:Df K mg "crowded_room" "crowded_room" qk4 a.f18 a.d18 ["plan", "keys"]
 d19:Df K mg "refuse_crowd" "refuse_crowd" qk2 a.f19 a.d19 ["plan", "keys"]
 d20:Df K mg "bring_in" "bring_in" qz7 a.f20 a.d20 ["plan", "rooms", "key"]
 d21:Df K mg "room_behind" "room_behind" qn1 a.f21 a.d21 ["plan", "room"]
 d22:Df K mg "is_drawn_from" "is_drawn_from" qi7 a.f22 a.d22 ["plan", "rooms", "room"]
 d23:Df K mg "draw_back" "draw_back" qu8 a.f23 a.d23 ["plan", "rooms", "room"]
 d24:MdN K a.C4 "__init__" "Row.__init__" qA0 a.f24 a.d24 ["self", "plan", "rooms"]
 d25:Md K a.C4 "rooms_held" "Row.rooms_held" qh8 a.f25 a.d25 ["self"]
 d26:Md K a.C4 "keys_held" "Row.keys_held" qi8 a.f26 a.d26 ["self"]
 d27:Md K a.C4 "many" "Row.many" qL8 a.f27 a.d27 ["self"]
 d28:Md K a.C4 "room_of" "Row.room_of" qn2 a.f28 a.d28 ["self", "key"]
 d29:Md K a.C4 "put" "Row.put" qI0 a.f29 a.d29 ["self", "key"]
 d30:Md K a.C4 "take" "Row.take" qz9 a.f30 a.d30 ["self", "key"]
 d31:Md K a.C4 "undo" "Row.undo" qz8 a.f31 a.d31 ["self"]
 d32:Md K a.C4 "deeds" "Row.deeds" qv0 a.f32 a.d32 ["self"]
 d33:Df K mg "are_alike_at_home" "are_alike_at_home" qf1 a.f33 a.d33 ["one", "other", "keys"]
 d34:Df K mg "refuse_unlike" "refuse_unlike" qi6 a.f34 a.d34 ["one", "other"]
 d35:Df K mg "parts_at" "parts_at" qz4 a.f35 a.d35 ["one", "other"]
 d36:Df K mg "only_in" "only_in" qH9 a.f36 a.d36 ["one", "other"]
 d37:Df K mg "_law_bag" "_law_bag" qaE3 a.f37 a.d37 ["_law_script"]
 d38:Df K mg "_law_take" "_law_take" qah2 a.f38 a.d38 ["_law_bag_here", "_law_many"]
 d39:Df K mg "_law_home" "_law_home" qah3 a.f39 a.d39 ["_law_plan", "_law_key"]
 d40:Df K mg "_law_passing" "_law_passing" qA2 a.f40 a.d40 ["_law_plan", "_law_keys"]
 d41:Df K mg "_law_housed" "_law_housed" qI1 a.f41 a.d41 ["_law_plan", "_law_keys"]
 d42:Df K mg "_law_drawn_homes" "_law_drawn_homes" qk7 a.f42 a.d42 ["_law_bag_here", "_law_size", "_law_many"]
 d43:Df K mg "_law_drawn" "_law_drawn" qS6 a.f43 a.d43 ["_law_bag_here", "_law_most"]
 d44:Df K mg "_law_fitting" "_law_fitting" qA4 a.f44 a.d44 ["_law_plan", "_law_keys"]
 d45:Df K mg "_law_two" "_law_two" qaE2 a.f45 a.d45 ["_law_bag_here", "_law_plan", "_law_keys"]
 d46:Df K mg "_law_other_homes" "_law_other_homes" qk6 a.f46 a.d46 ["_law_bag_here", "_law_plan", "_law_keys"]
 d47:Df K mg "_law_alike" "_law_alike" qS7 a.f47 a.d47 ["_law_plan", "_law_rows", "_law_lists"]
 d48:Df K mg "_law_flipped" "_law_flipped" qA3 a.f48 a.d48 ["_law_row", "_law_plan", "_law_there", "_law_key", "_law_undoes"]
 d49:Df K mg "law" "law" Gm a.f49 a.d49 ["_law_script"]
 Ck:mg "MOST_NUMBER"=some (.int 1000000000000000000 a.Cd)
 Ct:mg "MOST_ROOMS"=some (.int 64 a.Cf)
 Cr:mg "MOST_HOMES"=some (.int 64 a.Ch)
 D5:mg "abs"=none
 Cz:mg "all"=none
 Cu:mg "bool"=none
 Cv:mg "dict"=none
 Co:mg "enumerate"=none
 Cw:mg "int"=none
 C8:mg "isinstance"=none
 Cj:mg "len"=none
 Ci:mg "list"=none
 D3:mg "max"=none
 Cy:mg "min"=none
 Cg:mg "range"=none
 Cq:mg "reversed"=none
 D6:mg "set"=none
 Cp:mg "sorted"=none
 D0:mg "tuple"=none
 D7:mg "zip"=none
 C5:Cl K mg "Plan" a.C3
 D1:Mk K a.C3 a.f7
 C7:qh1 K a.C3 "rooms"
 Cb:qh1 K a.C3 "wraps"
 Cs:qh1 K a.C3 "homes"
 Ce:qh1 K a.C3 "home_numbers"
 D2:IsO K a.C3
 C6:Cl K mg "Row" a.C4
 D4:Mk K a.C4 a.f24
 C9:qh1 K a.C4 "plan"
 Ca:qh1 K a.C4 "held"
 Cc:qh1 K a.C4 "done"
section
variable{P:Kw}{w:Ky}{K:N7}{mg:Str->Option V'}{base:Heap}{a:Adr}
theorem qF4:qa9 ["thing"] ["thing"] (qa3 qz5):=by walk_at "s"
def qab3:VSp:=Dc (fx1 λx=>x.kind.map λ_=>.bl x.whole)
theorem qac6(T:Txt K mg a):VFn P w K mg base 1 a.f1 a.d1 ["thing"] qab3:=by refine VFn.mk' T.d1.F qF4 (wOf [true]) qy0 (λ_ _ _=>qal6) (λ_ _ _=>imm1) (λ_ _ _ _ _ _ _ c=>⟨_,(Ak (Av (qa4 (vand (vbi ql9 qU8.ops T.C8 (qa2 (vnm 0) (qa2 (vty "int" T.Cw) qa6 rfl) rfl)) (vone (vnot (vbi ql9 qU8.ops T.C8 (qa2 (vnm 0) (qa2 (vty "bool" T.Cu) qa6 rfl) rfl)))))))),λf Q g h=>?_⟩);obtain⟨x,d,rfl,e,q⟩:=Jw h;obtain⟨t,b,rfl⟩:=zAa.mp e;cases x<;>first|exact q|cases b
theorem qj2:qa9 ["thing", "least", "most"] ["thing", "least", "most"] (qa3 qg8):=by walk_at "s"
def qt7:VSp:=Dc (fx3 λx l m=>x.kind.bind λ_=>l.asI.bind λi=>m.asI.map λj=>.bl (x.within i j))
theorem qg2(T:Txt K mg a):VFn P w K mg base 2 a.f2 a.d2 ["thing", "least", "most"] qt7:=by
 refine VFn.mk' T.d2.F qj2 (wOf [true,true,true]) qy0 (λ_ _ _=>qaS8) (λ_ _ _=>imm3) (λ_ _ _ _ _ _ _ b=>⟨_,(Ak (Av (Gg (Aj T.d1 (qac6 T) qa0 (rm b) (vaN 0 Ac)) (Ic (qa4 (vch G7 os_le G7 os_le (vnm 1) (vnm 0) (vnm 2))))))),λo Q p h=>?_⟩);obtain⟨x,l,m,d,rfl,e,q⟩:=pure3 h;obtain⟨t,c,e⟩:=zA1.mp e;obtain⟨i,f,e⟩:=zA1.mp e;obtain⟨j,g,rfl⟩:=zAa.mp e;cases l<;>cases f;cases m<;>cases g;cases x with
 |int n=>
  refine⟨rfl,?_⟩;show orF (f3 gLe gLe (rdN 1) (rdN 0) (rdN 2) [.int n,.int i,.int j]) _;have k:f3 gLe gLe (rdN 1) (rdN 0) (rdN 2) [.int n,.int i,.int j]=some (.bl (decide (i<=n)&&decide (n<=j))):=by show (if decide (i<=n)=true then some (D.bl (decide (n<=j))) else some (.bl false))=_;cases decide (i<=n)<;>rfl
  rw[k];exact q
 |_=>first|exact⟨rfl,q⟩|cases c
theorem qL7:qa9 ["numbers"] ["numbers"] (qa3 qq0):=by walk_at "s"
def qL2:VSp:=A5 λds d=>∃z ks,ds=[.l z (O7 ks)]/\ks.length<=1000/\d=.bl (decide ks.Nodup)
theorem qM7(T:Txt K mg a):VFn P w K mg base 1 a.f4 a.d4 ["numbers"] qL2:=by
 refine VFn.mk2 T.d4.F qL7 (wOf [true]) qb5 (by walk_at "l") (λ_ _ _ _ _ _ _ e=>⟨_,(Ak (Av (qa4 (v2 (A7 (qj4 e.u64) (qb0 _)) Bl (vlenS T.Cj T.D6 (vnm 0)) (vbi qt5 qt4.ops T.Cj (qa2 (vnm 0) qa6 rfl)))))),λj Q k h=>?_⟩);obtain⟨d,⟨z,b,rfl,f,rfl⟩,q⟩:=h;have g:f1 Hn (rdN 0) [.l z (O7 b)]=some (.int (qn8 b)):=by show ((intsD (O7 b)).bind λc=>gd (c.length<=1000) (.int (qn8 c)))=_;rw[qY2];exact qh4 f
 have e2:f2 gEq (f1 Hn (rdN 0)) (A9 (fx1 Fm) (A6 (rdN 0) λx=>some [])) [.l z (O7 b)]=some (.bl (decide b.Nodup)):=by show ((f1 Hn (rdN 0) [.l z (O7 b)]).bind λx=>gEq x (.int (O7 b).length))=_;rw[g,qf5];show some (D.bl ((qn8 b:Int)==(b.length:Int)))=_;have:=qU7 b;by_cases h:b.Nodup;{rw[zAf h,this.mpr h,zBf]};have i:¬((qn8 b:Int)=(b.length:Int)):=λz=>h (this.mp (by exact_mod_cast z));rw[zAy h,zCp i]
 exact qa1 e2 q
theorem qz0:qa9 ["thing"] ["thing"] (qa3 qu7):=by walk_at "s"
def qp5:VSp:=Dc (fx1 λx=>x.kind.map λ_=>.bl x.num)
theorem qd0(T:Txt K mg a):VFn P w K mg base 3 a.f3 a.d3 ["thing"] qp5:=by refine VFn.mk' T.d3.F qz0 (wOf [true]) qy0 (λ_ _ _=>qal6) (λ_ _ _=>imm1) (λ_ _ _ _ _ _ _ b=>⟨_,(Ak (Av (Aj T.d2 (qg2 T) qa0 (rm b) (vaN 0 (vaV (qa4 Af) (vaV (qa4 (vgi T.Ck)) Ac)))))),λf Q g h=>?_⟩);obtain⟨x,d,rfl,e,q⟩:=Jw h;obtain⟨t,c,rfl⟩:=zAa.mp e;cases x<;>first|exact⟨rfl,q⟩|cases c
theorem qx4:qa9 ["thing"] ["thing"] (qa3 qh7):=by walk_at "s"
def _root_.LV.D.pairB:D->Bool|.q [x,y]=>x.num&&y.num|_=>false
def _root_.LV.D.kinded:D->Bool|.q ds=>(ds.all λd=>d.kind.isSome&&d.imm)&&decide (ds.length<=1000)|_=>true
def qx2:VSp:=Dc (fx1 λx=>if x.kinded=true then x.kind.map λ_=>.bl x.pairB else none)
theorem qx6(T:Txt K mg a):VFn P w K mg base 4 a.f5 a.d5 ["thing"] qx2:=by
 refine VFn.mk' T.d5.F qx4 (wOf [true]) qy0 (λ_ _ _=>qal6) (λ_ _ _=>imm1) (λ_ _ _ _ _ _ _ f=>⟨_,(Ak (Av (Gg (qa4 (vbi ql9 qU8.ops T.C8 (qa2 (vnm 0) (qa2 (vty "tuple" T.D0) qa6 rfl) rfl))) (Gg (qa4 (v2 (A7 (qj4 f.u64) (qb0 _)) Bl (vbi qt5 qt4.ops T.Cj (qa2 (vnm 0) qa6 rfl)) Af)) (Gg (Aj T.d3 (qd0 T) qa0 (rm f) (vaV (qb6 (v2 (Aq qa8) Al (vnm 0) Af)) Ac)) (Ic (Aj T.d3 (qd0 T) qa0 (rm f) (vaV (qb6 (v2 (Aq qa8) Al (vnm 0) Af)) Ac)))))))),λb Q m h=>?_⟩);obtain⟨x,d,rfl,e,q⟩:=Jw h;cases x with
 |q b=>
  by_cases c:(D.q b).kinded=true
  .rw[if_pos c] at e;cases e;have c:=zAk.mp c;have i:=zBo.mp c.1;match b with
   |[]=>exact q|[_]=>exact q|[x,y]=>
    have j:=zAk.mp (i x (by simp));have l:=zAk.mp (i y (by simp));obtain⟨t,n⟩:=zB3.mp j.1;obtain⟨u,o⟩:=zB3.mp l.1;refine⟨j.2,?_⟩;refine qa1 (a:=D.bl x.num) (by show (x.kind.map _)=_;rw[n];rfl) ?_;refine ite_b (λg=>⟨l.2,qa1 (a:=D.bl y.num) (by show (y.kind.map _)=_;rw[o];rfl) ?_⟩) λg=>?_
    .have:(D.q [x,y]).pairB=y.num:=by show (x.num&&y.num)=_;rw[g];rfl
     rw[this] at q;exact q
    have:(D.q [x,y]).pairB=false:=by show (x.num&&y.num)=_;rw[g];rfl
    rw[this] at q;exact q
   |x::y::z::r=>
    have e2:f2 gEq (A9 (fx1 Fm) (A6 (rdN 0) λx=>some [])) (kC (D.int 2)) [.q (x::y::z::r)]=some (.bl false):=by
     show some (D.bl (((x::y::z::r).length:Int)==2))=_;have:(((x::y::z::r).length:Int)==2)=false:=by
      have:((x::y::z::r).length:Int)≠2:=by simp;lia
      simpa using this
     rw[this]
    have:orF (f2 gEq (A9 (fx1 Fm) (A6 (rdN 0) λx=>some [])) (kC (D.int 2)) [.q (x::y::z::r)]) (λd=>orF d.asB λk=>if k=true then Ji (qk1 qp5 [] (tbV (Dk (f2 gIx (rdN 0) (kC (D.int 0)))) A8)) (qk1 qp5 [] (tbV (Dk (f2 gIx (rdN 0) (kC (D.int 1)))) A8)) [.q (x::y::z::r)] (λd b=>Q d (fin (wOf [true]) 0 [.q (x::y::z::r)] b)) (λp b=>m p (fin (wOf [true]) 0 [.q (x::y::z::r)] b)) else Q (.bl false) [.q (x::y::z::r)]):=by rw[e2];exact q
    exact this
  rw[if_neg c] at e;cases e
 |_=>first|(cases e;exact q)|cases e
theorem qD8:qa9 ["thing"] ["thing"] (qa3 qk3):=by walk_at "s"
noncomputable def G4:D->Option Int|.q (.int k::_)=>some k|_=>none
def _root_.LV.D.homesB:D->Bool|.l _ ys=>decide (ys.length<=64)&&(ys.all D.pairB&&decide (ys.filterMap G4).Nodup)|_=>false
def _root_.LV.D.lstOk(p:D->Bool):D->Bool|.l _ ys=>D.imms ys&&ys.all p&&decide (ys.length<=1000)|x=>x.kind.isSome
def J0(y:D):Bool:=y.kind.isSome&&y.kinded
theorem qaR4{x:D}(h:x.num=true):∃n,x=.int n/\Ah n:=by cases x with|int n=>have:=zAk.mp h;exact⟨n,rfl,zAd this.1,zAd this.2⟩|_=>cases h
theorem qv5(h:Ah n):(D.int n).num=true:=by show (decide (0<=n)&&decide (n<=1000000000000000000))=true;rw[zAf h.1,zAf h.2];rfl
theorem qaQ3(h:y.pairB=true):∃k m,y=.q [.int k,.int m]/\Ah k/\Ah m:=by cases y with|q a=>(match a,h with|[x,y],h=>have h:=zAk.mp h;obtain⟨k,rfl,b⟩:=qaR4 h.1;obtain⟨m,rfl,c⟩:=qaR4 h.2;exact⟨k,m,rfl,b,c⟩)|_=>cases h
theorem qai0:∀{ys:Ds},ys.all D.pairB=true->∃ps:Pr,ys=O9 ps/\∀p∈ps,Ah p.1/\Ah p.2|[],_=>⟨[],rfl,λp h=>by simp at h⟩|y::r,h=>by rw[Lp,zBm] at h;obtain⟨k,m,rfl,b,c⟩:=qaQ3 h.1;obtain⟨ps,rfl,d⟩:=qai0 h.2;refine⟨(k,m)::ps,rfl,λp a=>?_⟩;rcases zAi.mp a with rfl|a;{exact⟨b,c⟩};exact d p a
theorem qam2:∀ps:Pr,(O9 ps).filterMap G4=ps.map (·.1)|[]=>rfl|p::r=>by show p.1::(O9 r).filterMap G4=_;rw[qam2 r];rfl
theorem qaX1:∀{ps:Pr},(∀p∈ps,Ah p.1/\Ah p.2)->(O9 ps).all D.pairB=true|[],_=>rfl|p::r,h=>by show (((D.int p.1).num&&(D.int p.2).num)&&(O9 r).all D.pairB)=true;rw[qv5 (h p zAh).1,qv5 (h p zAh).2,qaX1 λq a=>h q (zA7 _ a)];rfl
theorem qaX2:∀ps:Pr,(O9 ps).all J0=true|[]=>rfl|p::r=>by show (true&&(O9 r).all J0)=true;rw[qaX2 r];rfl
theorem qO2(h:qK5 ps):(D.l z (O9 ps)).homesB=true/\(D.l z (O9 ps)).lstOk J0=true:=by
 have a:(O9 ps).length<=64:=by simpa[O9] using h.len
 constructor;{show (decide ((O9 ps).length<=64)&&((O9 ps).all D.pairB&&decide ((O9 ps).filterMap G4).Nodup))=true;rw[zAf a,qaX1 h.nums,qam2,zAf h.nd];rfl};show (D.imms (O9 ps)&&(O9 ps).all J0&&decide ((O9 ps).length<=1000))=true;rw[qC2,qaX2,zAf ⋯];rfl
theorem qaa4{α:Type}(f:α->Bool):∀l:List α,bools (l.map λa=>.bl (f a))=some (l.map f)|[]=>rfl|a::r=>by show (bools (r.map λa=>D.bl (f a))).map (λb=>f a::b)=_;rw[qaa4 f r];rfl
theorem qaL5(f:α->Bool)(l:List α):gAll (.l false (l.map λa=>.bl (f a)))=some (.bl (l.all f)):=by show (bools (l.map λa=>D.bl (f a))).map (λb=>D.bl (b.all id))=_;rw[qaa4];show some (D.bl ((l.map f).all id))=_;rw[Nr];rfl
def qD3:VSp:=A5 λds d=>∃x,ds=[x]/\x.lstOk J0=true/\d=.bl x.homesB
theorem qE2(T:Txt K mg a):VFn P w K mg base 5 a.f6 a.d6 ["thing"] qD3:=by
 refine VFn.mk2 T.d6.F qD8 (wOf [true]) qb5 (by walk_at "l") (λ_ _ _ _ _ _ _ A=>⟨_,(Ab (sif (tor (B8 (tv (vbi ql9 qU8.ops T.C8 (qa2 (vnm 0) (qa2 (vty "list" T.Ci) qa6 rfl) rfl)))) (tor1 (q2 (As Bs (qb0 _)) Db (vbi qt5 qt4.ops T.Cj (qa2 (vnm 0) qa6 rfl)) (vgi T.Cr)))).te (Ak (Av (qa4 vbl))) Ay) (Ak (Av (Gg (ebi (qK3 rfl) qaK6.ops T.Cz (Ej (vaV (ecN (NY:=["pair"]) (src:=[none]) 0 (blk (λf C g H0 i=>(Bc 0 (show (["pair"]:List Str).Nodup by decide +kernel))) (λf C g H0 i=>Ea) (λf C g H0 i=>(Aj T.d5 (qx6 T) L2.qa0 (rm A) (vaN 0 Ac))))) Ac))) (Ic (Aj T.d4 (qM7 T) qa0 (rm A) (vaV (ecN (NY:=["pair"]) (src:=[none]) 0 (blk (λf C g H0 i=>(Bc 0 (show (["pair"]:List Str).Nodup by decide +kernel))) (λf C g H0 i=>Ea) (λf C g H0 i=>(qb6 (v2 (Aq qa8) Al (vnm 0) Af))))) Ac))))))),λJ Q L h=>?_⟩);obtain⟨d,⟨x,rfl,j,rfl⟩,q⟩:=h;cases x with
 |l z b=>
  have j:=zAk.mp j;have k:=zAk.mp j.1;have B:=zAd j.2;refine ite_b (p:=decide ((64:Int)<(b.length:Nat))) (λh=>?_) (λh=>?_)
  .have o:¬b.length<=64:=by have:=zAd h;lia
   have:(D.l z b).homesB=false:=by show (decide (b.length<=64)&&_)=false;rw[zAy o];rfl
   rw[this] at q;exact q
  have o:b.length<=64:=by have:=zB6 h;lia
  have E:(D.l z b).homesB=(b.all D.pairB&&decide (b.filterMap G4).Nodup):=by show (decide (b.length<=64)&&_)=_;rw[zAf o];rfl
  have m:=zBo.mp k.2;refine⟨k.1,?_⟩;refine qm3 (λι=>∃d,ι=[d]) (λy=>some (.bl y.pairB)) b [] _ (by show 0+b.length<big;unfold big;lia) ⟨_,rfl⟩ ?_ ?_;{rintro y s ι u ⟨d,rfl⟩ R v c;have G:=zAk.mp (m y s);obtain⟨t,H⟩:=zB3.mp G.1;refine qaw9 (x:=y) (rd0 (qs9 H)) (qa1 (a:=D.bl y.pairB) ?_ ?_);{show (if y.kinded=true then y.kind.map _ else none)=_;rw[if_pos G.2,H];rfl};exact⟨c,v _ ⟨_,rfl⟩⟩};rintro ι ⟨d,rfl⟩;rw[zB8,qU3];refine qa1 (qaL5 D.pairB b) (ite_b (λr=>?_) λr=>?_)
  .obtain⟨n,rfl,M⟩:=qai0 r;refine⟨qC2 n,qm3 (λι=>∃d,ι=[d]) (λy=>(G4 y).map .int) (O9 n) [] _ (by show 0+(O9 n).length<big;unfold big;lia) ⟨_,rfl⟩ ?_ ?_⟩;{rintro y s ι u ⟨d,rfl⟩ R v c;obtain⟨p,I,rfl⟩:=zBc.mp s;exact⟨rfl,c,v _ ⟨_,rfl⟩⟩};rintro ι ⟨d,rfl⟩;have e:[]++(O9 n).filterMap (λy=>(G4 y).map D.int)=O7 (n.map (·.1)):=by rw[zB8];unfold O9 O7;rw[M8,zCs];exact qU3 _ _
   rw[e];rw[E,r,qam2] at q;exact⟨_,⟨false,_,rfl,by simp;simp[O9] at o;lia,rfl⟩,q⟩
  rw[E,r] at q;exact q
 |_=>first|exact q|cases j
theorem qS4:qa9 ["self", "rooms", "wraps", "homes"] ["self", "rooms", "wraps", "homes"] (qa3 qv1):=by walk_at "s"
def qR4(C:γ):VSp:=λds Q _=>∃n wr z ps,ds=[.ins false C [],.int n,.bl wr,.l z (O9 ps)]/\1<=n/\n<=64/\qK5 ps/\Q .non [Ad false C n wr ps,.int n,.bl wr,.l z (O9 ps)]
theorem qaA4:Hg (.l z (O9 ps))=some (.l false (O9 ps)):=qh4 (qC2 ps)
theorem qT6(T:Txt K mg a):VFn P w K mg base 6 a.f7 a.d7 ["self", "rooms", "wraps", "homes"] (qR4 a.C3):=by refine VFn.mk2 T.d7.F qS4 (wOf [true,true,true,true]) (by walk_at "m") (by walk_at "l") (λ_ _ _ _ _ _ _ f=>⟨_,(Ab (sif (B8 (te (Aj T.d2 (qg2 T) qa0 (rm f) (vaN 1 (vaV (qa4 Af) (vaV (qa4 (vgi T.Ct)) Ac)))))) (Ak qm5) Ay) (Ab (sif (B8 (tv (vbi ql9 qU8.ops T.C8 (qa2 (vnm 2) (qa2 (vty "bool" T.Cu) qa6 rfl) rfl)))) (Ak qm5) Ay) (Ab (sif (B8 (te (Aj T.d6 (qE2 T) qa0 (rm f) (vaN 3 Ac)))) (Ak qm5) Ay) (Ab (Gv rfl (vpn 0) (qb6 (vnm 1)) T.C5.cl T.C7) (Ab (Gv rfl (vpn 0) (qb6 (vnm 2)) T.C5.cl T.Cb) (Ab (Gv rfl (vpn 0) (qa4 (E5 qd8 qw9.ops T.Ci (qa2 (vnm 3) qa6 rfl))) T.C5.cl T.Cs) (Ak (Gv rfl (vpn 0) (qa4 (E5 (qP4 rfl) qaB8.ops T.Cv (qa2 (vnm 3) qa6 rfl))) T.C5.cl T.Ce)))))))),λk Q g h=>?_⟩);obtain⟨n,wr,z,c,rfl,i,j,e,q⟩:=h;refine qb2 [.ins false a.C3 [],.int n,.bl wr,.l z (O9 c)] (λK b=>?_) (qb2 [.ins false a.C3 [],.int n,.bl wr,.l z (O9 c)] (λK b=>b) (qb2 [.ins false a.C3 [],.int n,.bl wr,.l z (O9 c)] (λK b=>?_) ?_));{refine qan8 (λQ g q=>qd6 (qc3 (x:=.int n) rfl (qj1 (y:=.int 1) rfl (qj1 (y:=.int 64) rfl (qb7 (qa1 (a:=D.int n) rfl (qI5 (d:=D.bl true) ?_ q))))))) b;show some (D.bl ((D.int n).within 1 64))=_;rw[qV6 i j]};{refine qaw9 rfl ⟨D.bl true,⟨_,rfl,(qO2 e).2,by rw[(qO2 e).1]⟩,b⟩};refine qb2 [.ins false a.C3 [("rooms",.int n)],.int n,.bl wr,.l z (O9 c)] (λK b=>⟨rfl,qa1 (a:=(0,[])) rfl (qa1 ql0 ⟨∅,b⟩)⟩) ?_;refine qb2 [.ins false a.C3 [("rooms",.int n),("wraps",.bl wr)],.int n,.bl wr,.l z (O9 c)] (λK b=>⟨rfl,qa1 (a:=(0,[])) rfl (qa1 ql0 ⟨by show 1<100;decide,b⟩)⟩) ?_;refine qb2 [.ins false a.C3 [("rooms",.int n),("wraps",.bl wr),("homes",.l false (O9 c))],.int n,.bl wr,.l z (O9 c)] (λK b=>?_) ?_;{refine qa1 (qaA4 (z:=z)) ?_;exact qa1 (a:=(0,[])) rfl (qa1 ql0 ⟨by show 2<100;decide,b⟩)};refine qa1 (qaB6 (z:=z) e.nd) ?_;exact qa1 (a:=(0,[])) rfl (qa1 ql0 ⟨by show 3<100;decide,q⟩)
theorem qD9:qa9 ["self", "thing"] ["self", "thing"] (qa3 qk5):=by walk_at "s"
def qD5(C:γ):VSp:=A5 λds d=>∃z n wr ps x t,ds=[Ad z C n wr ps,x]/\x.kind=some t/\d=.bl (x.within 0 (n-1))
theorem qp0(T:Txt K mg a):VFn P w K mg base 3 a.f8 a.d8 ["self", "thing"] (qD5 a.C3):=by refine VFn.mk2 T.d8.F qD9 (wOf [true,true]) qb5 (by walk_at "l") (λ_ _ _ _ _ _ _ f=>⟨_,(Ak (Av (Aj T.d2 (qg2 T) qa0 (rm f) (vaN 1 (vaV (qa4 Af) (vaV (qa4 (v2 (Ap qB2) qA9 (Bh rfl (vnm 0) T.C5.cl T.C7) Af)) Ac)))))),λi Q j h=>?_⟩);obtain⟨d,⟨z,n,wr,b,x,t,rfl,c,rfl⟩,q⟩:=h;have e:rdN 1 [Ad z a.C3 n wr b,x]=some x:=qm0.mpr ⟨rfl,qs9 c⟩;have g:f2 gSub (f1 (D.fld a.C3 "rooms") (rdN 0)) (kC (.int 1)) [Ad z a.C3 n wr b,x]=some (.int (n-1)):=Ag (A4 rfl qd4) rfl rfl;show qk1 _ _ (tbN 1 _) [Ad z a.C3 n wr b,x] _ _;refine qc3 e ?_;refine qj1 (y:=.int 0) rfl ?_;refine qj1 g ?_;refine qa1 e ?_;refine qI5 (d:=.bl (x.within 0 (n-1))) ?_ (qa1 rfl q);show x.kind.bind _=_;rw[c];rfl
theorem qS5:qa9 ["self", "key"] ["self", "key"] (qa3 qv2):=by walk_at "s"
def qR5(C:γ):VSp:=A5 λds d=>∃z n wr ps k,ds=[Ad z C n wr ps,.int k]/\1<=n/\Ah k/\d=.int (qb4 n ps k)
theorem qao0{z:Bool}{ps:Pr}{k:Int}(h:fa ds=some (.dct z (kvD ps)))(a:rdN i ds=some (.int k)):fget fa (rdN i) (rdN i) ds=some (.int ((ps.lookup k).getD k)):=by unfold fget;rw[h,a];show gd (((Dv (kvD ps) (.inl k)).getD (.int k)).imm=true) ((Dv (kvD ps) (.inl k)).getD (.int k))=_;rw[qax5];cases ps.lookup k<;>rfl
theorem qaS1{x:Int}(h:1<=n):Ia (.int x) (.int n)=some (.int (x%n)):=qh4 (zAf ⋯)
theorem qh9(T:Txt K mg a):VFn P w K mg base 4 a.f9 a.d9 ["self", "key"] (qR5 a.C3):=by refine VFn.mk2 T.d9.F qS5 (wOf [true,true]) qb5 (by walk_at "l") (λ_ _ _ _ _ _ _ b=>⟨_,(Ab (sif (B8 (te (Aj T.d3 (qd0 T) qa0 (rm b) (vaN 1 Ac)))) (Ak qm5) Ay) (Ak (Av (qa4 (v2 (Ap qn5) qn4 (vget (hu_of b) (Bh rfl (vnm 0) T.C5.cl T.Ce) (vnm 1) (vnm 1) ⟨rfl,rfl,rfl,rfl⟩) (Bh rfl (vnm 0) T.C5.cl T.C7)))))),λg Q i h=>?_⟩);obtain⟨d,⟨z,n,wr,c,k,rfl,e,f,rfl⟩,q⟩:=h;have key:orF (f2 Ia (fget (f1 (D.fld a.C3 "home_numbers") (rdN 0)) (rdN 1) (rdN 1)) (f1 (D.fld a.C3 "rooms") (rdN 0)) [Ad z a.C3 n wr c,.int k]) (λd=>Q d [Ad z a.C3 n wr c,.int k]):=qa1 (Ag (qao0 (A4 rfl qad8) rfl) (A4 rfl qd4) (qaS1 e)) q;exact qaw9 rfl (qI5 (d:=D.bl true) (by show some (D.bl (D.int k).num)=_;rw[qv5 f]) (qa1 rfl (qa1 (a:=true) rfl key)))
theorem qF7:qa9 ["self", "key", "room", "steps"] ["self", "key", "room"] (qa3 qA1):=by walk_at "s"
def qab9(C:γ):VSp:=A5 λds d=>∃z n wr ps k r,ds=[Ad z C n wr ps,.int k,.int r]/\1<=n/\Ah k/\0<=r/\r<n/\d=G3 (Ba n wr ps k r)
theorem qat5(a:Ah k):fx1 (λx=>x.kind.map λ_=>.bl x.num) [.int k]=some (.bl true):=by show some (D.bl (D.int k).num)=_;rw[qv5 a]
theorem qay5{r:Int}(d:0<=r)(h1:r<n):∃z' c a b x t,[Ad z C n wr ps,.int r]=[Ad z' C c a b,x]/\x.kind=some t/\D.bl true=.bl (x.within 0 (c-1)):=⟨z,n,wr,ps,_,_,rfl,rfl,by rw[qV6 d ⋯]⟩
theorem qj6(T:Txt K mg a):VFn P w K mg base 5 a.f10 a.d10 ["self", "key", "room"] (qab9 a.C3):=by refine VFn.mk2 T.d10.F qF7 (wOf [true,true,true]) qb5 (by walk_at "l") (λ_ _ _ _ _ _ _ e=>⟨_,(Ab (sif (B8 (te (Aj T.d3 (qd0 T) qa0 (rm e) (vaN 1 Ac)))) (Ak qm5) Ay) (Ab (sif (B8 (te (qm7 0 T.d8 T.C5.cl (qp0 T) qa0 (rm e) (vaN 2 Ac)))) (Ak qm5) Ay) (Ab (An 3 qF7.nd (e2n 2 (Ap qB2) qA9 (qm7 0 T.d9 T.C5.cl (qh9 T) qa0 (rm e) (vaN 1 Ac)))) (Ab (sif (tv (Bh rfl (vnm 0) T.C5.cl T.Cb)) (Ak (Av (qa4 (v2 (Ap qn5) qn4 (vnm 3) (Bh rfl (vnm 0) T.C5.cl T.C7))))) Ay) (Ak (Av (eif (q2 (As G8 (qb0 _)) Jf (vnm 3) Af) (qb6 (vnm 3)) (qa4 Be)))))))),λs Q i h=>?_⟩);obtain⟨d,⟨z,n,wr,c,k,r,rfl,j,m,f,g,rfl⟩,q⟩:=h;refine Fw (λQ i q=>qL9 (x:=.int k) rfl (qat5 m) rfl q) ?_;refine Fw (λQ i q=>qN4 (p:=Ad z a.C3 n wr c) (x:=.int r) rfl (qf6 rfl) rfl rfl (qay5 f g) rfl q) ?_;refine qb2 [Ad z a.C3 n wr c,.int k,.int r,.int (r-qb4 n c k)] (λK o=>?_) ?_;{exact⟨rfl,qN4 (p:=Ad z a.C3 n wr c) (x:=.int k) (d:=.int (qb4 n c k)) rfl (qf6 rfl) rfl rfl ⟨z,n,wr,c,k,rfl,j,m,rfl⟩ rfl (qa1 (a:=D.int (r-qb4 n c k)) rfl o)⟩};unfold Ba at q;refine qj8 wr (A4 rfl qo2) (λh=>?_) (λh=>?_);{subst h;exact qg5 (.int ((r-qb4 n c k)%n)) (Ag rfl (A4 rfl qd4) (qaS1 j)) q};subst h;refine qi2 (Fx (b:=decide (0<=r-qb4 n c k)) rfl (λh=>?_) (λh=>?_));{rw[if_neg ∅,if_pos (zAd h)] at q;exact⟨rfl,q⟩};rw[if_neg ∅,if_neg (zB6 h)] at q;exact q
theorem qg1:qa9 ["self", "room", "one", "other", "one_far", "other_far"] ["self", "room", "one", "other"] (qa3 qg9):=by walk_at "s"
def qt8(C:γ):VSp:=A5 λds d=>∃z n wr ps r x y,ds=[Ad z C n wr ps,.int r,.int x,.int y]/\1<=n/\0<=r/\r<n/\Ah x/\Ah y/\d=.bl (qm4 n wr ps r x y)
theorem qav1{r:Int}(h1:1<=n)(f:Ah k)(g:0<=r)(h:r<n):∃z' c a b e d,[Ad z C n wr ps,.int k,.int r]=[Ad z' C c a b,.int e,.int d]/\1<=c/\Ah e/\0<=d/\d<c/\G3 (Ba n wr ps k r)=G3 (Ba c a b e d):=⟨z,n,wr,ps,k,r,rfl,h1,f,g,h,rfl⟩
theorem qj5(T:Txt K mg a):VFn P w K mg base 6 a.f11 a.d11 ["self", "room", "one", "other"] (qt8 a.C3):=by
 refine VFn.mk2 T.d11.F qg1 (wOf [true,true,true,true]) qb5 (by walk_at "l") (λ_ _ _ _ _ _ _ j=>⟨_,(Ab (sif (B8 (te (qm7 0 T.d8 T.C5.cl (qp0 T) qa0 (rm j) (vaN 1 Ac)))) (Ak qm5) Ay) (Ab (sif (B8 (te (Aj T.d3 (qd0 T) qa0 (rm j) (vaN 2 Ac)))) (Ak qm5) Ay) (Ab (sif (B8 (te (Aj T.d3 (qd0 T) qa0 (rm j) (vaN 3 Ac)))) (Ak qm5) Ay) (Ab (An 4 qg1.nd (qm7 0 T.d10 T.C5.cl (qj6 T) qa0 (rm j) (vaN 2 (vaN 1 Ac)))) (Ab (An 5 qg1.nd (qm7 0 T.d10 T.C5.cl (qj6 T) qa0 (rm j) (vaN 3 (vaN 1 Ac)))) (Ab (sif (q2 (As Dq (qb0 _)) D9 (vnm 4) Be) (Ak (Av (qa4 vbl))) Ay) (Ab (sif (q2 (As Dq (qb0 _)) D9 (vnm 5) Be) (Ak (Av (qa4 vbl))) Ay) (Ak (Av (qa4 (vor (v2 (A7 Bs (qb0 _)) Db (vnm 4) (vnm 5)) (vone (vand (v2 (A7 (qj4 j.u64) (qb0 _)) Bl (vnm 4) (vnm 5)) (vone (v2 (A7 Iv (qb0 _)) Je (vnm 2) (vnm 3)))))))))))))))),λA Q k h=>?_⟩);obtain⟨d,⟨z,n,wr,c,r,x,y,rfl,o,e,i,s,t,rfl⟩,q⟩:=h;refine Fw (λQ k q=>qN4 (p:=Ad z a.C3 n wr c) (x:=.int r) rfl (qf6 rfl) rfl rfl (qay5 e i) rfl q) ?_;refine Fw (λQ k q=>qL9 (x:=.int x) rfl (qat5 s) rfl q) ?_;refine Fw (λQ k q=>qL9 (x:=.int y) rfl (qat5 t) rfl q) ?_;refine qb2 [Ad z a.C3 n wr c,.int r,.int x,.int y,G3 (Ba n wr c x r),.u] (λK m=>?_) ?_;{exact qat8 (p:=Ad z a.C3 n wr c) (x:=.int x) (y:=.int r) rfl (qf6 rfl) rfl rfl rfl rfl (qav1 o s e i) rfl m};refine qb2 [Ad z a.C3 n wr c,.int r,.int x,.int y,G3 (Ba n wr c x r),G3 (Ba n wr c y r)] (λK m=>?_) ?_;{exact qat8 (p:=Ad z a.C3 n wr c) (x:=.int y) (y:=.int r) rfl (qf6 rfl) rfl rfl rfl rfl (qav1 o t e i) rfl m};unfold qm4 at q;cases u:Ba n wr c x r with
 |none=>rw[u] at q;exact q|some f=>
  rw[u] at q;cases v:Ba n wr c y r with
  |none=>rw[v] at q;exact q|some g=>
   rw[v] at q;refine qj8 false rfl nofun λ_=>?_
   refine qj8 false rfl nofun λ_=>?_
   exact qg5 _ (qbe3 (a:=decide (g<f)) rfl (qaB4 (a:=decide (f=g)) (b:=decide (x<y)) rfl rfl)) q
theorem qL6:qa9 ["plan", "room"] ["plan", "room"] (qa3 qp9):=by walk_at "s"
def qL1(C:γ):VSp:=A5 λds d=>∃z n wr ps r,ds=[Ad z C n wr ps,.int r]/\d=(if 0<r then .int (r-1) else if wr=true then .int (n-1) else .non)
theorem qM5(T:Txt K mg a):VFn P w K mg base 1 a.f12 a.d12 ["plan", "room"] (qL1 a.C3):=by refine VFn.mk2 T.d12.F qL6 (wOf [true,true]) qb5 (by walk_at "l") (λ_ _ _ _ _ _ _ e=>⟨_,(Ab (sif (q2 (As Bs (qb0 _)) Db (vnm 1) Af) (Ak (Av (qa4 (v2 (Ap qB2) qA9 (vnm 1) Af)))) Ay) (Ak (Av (eif (tv (Bh rfl (vnm 0) T.C5.cl T.Cb)) (qa4 (v2 (Ap qB2) qA9 (Bh rfl (vnm 0) T.C5.cl T.C7) Af)) (qa4 Be))))),λf Q g h=>?_⟩);obtain⟨d,⟨z,n,wr,c,r,rfl,rfl⟩,q⟩:=h;refine Aw [Ad z a.C3 n wr c,.int r] rfl ?_;refine qj8 (decide (0<r)) rfl (λh=>?_) λh=>?_;{rw[if_pos (zAd h)] at q;exact q};rw[if_neg (zB6 h)] at q;refine qi2 (Fx (b:=wr) (A4 rfl qo2) (λh=>?_) (λh=>?_));{rw[if_pos h] at q;exact qm6 (d:=.int (n-1)) (Ag (A4 rfl qd4) rfl rfl) q};rw[if_neg (by rw[h];decide)] at q;exact q
theorem qe4:qa9 ["plan", "rooms", "room", "ahead", "thing"] ["plan", "rooms", "room"] (qa3 qe7):=by walk_at "s"
noncomputable def Gn:Option Str->D|none=>.non|some s=>.str s
theorem qam0{t:D}{u:String}(h:t.kind=some u):t=.non∨t.isN=some false:=by cases t<;>first|exact .inl rfl|exact .inr rfl|cases h
theorem qI7{t:D}(h:t.num=true):∃x,t=.int x/\Ah x:=by cases t with|int x=>have:=zAk.mp h;exact⟨x,rfl,zAd this.1,zAd this.2⟩|_=>cases h
def Ev(n:Int)(wr:Bool)(ps:Pr)(p:Nat)(t:D)(k:Int):Option Str:=match t with|.non=>some "empty"|.int x=>if (D.int x).num=true then (if qm4 n wr ps (p:Int) x k=true then none else some "order") else none|_=>none
theorem qaq9{n:Int}{wr:Bool}{ps:Pr}{p:Nat}{t:D}{k:Int}(h:t.num=false)(h':t.isN=some false):Ev n wr ps p t k=none:=by cases t with|non=>cases h'|int x=>show (if (D.int x).num=true then (if qm4 n wr ps (p:Int) x k=true then (none:Option Str) else some "order") else none)=none;rw[if_neg (by rw[h];decide)]|_=>rfl
structure Rm(n:Int)(ys:Ds)(r:Nat):Prop where
 len:ys.length=n.toNat
 kn:∀y∈ys,∃t,y.kind=some t
 im:D.imms ys=true
 fl:∀i y,i<r->ys[i]?=some y->y=.non∨∃k,y=.int k/\Ah k
theorem qX1{t:D}{u:String}(h:t.kind=some u):fx1 (λx=>x.kind.map λ_=>.bl x.num) [t]=some (.bl t.num):=by show t.kind.map _=_;rw[h];rfl
theorem J1{z:Bool}(h:ys[r]?=some y):gIx (.l z ys) (.int (r:Int))=some y:=qP5 h
def qo4(C:γ):VSp:=A5 λds d=>∃z n wr ps z' ys r k t,ds=[Ad z C n wr ps,.l z' ys,.int (r:Nat)]/\1<=n/\r<n.toNat/\(0<r∨wr=true)/\Rm n ys 0/\ys[r]?=some (.int k)/\Ah k/\ys[Row.prev n.toNat r]?=some t/\d=Gn (Ev n wr ps (Row.prev n.toNat r) t k)
theorem qo6(T:Txt K mg a):VFn P w K mg base 7 a.f13 a.d13 ["plan", "rooms", "room"] (qo4 a.C3):=by
 refine VFn.mk2 T.d13.F qe4 (wOf [true,true,true]) qb5 (by walk_at "l") (λ_ _ _ _ _ _ _ j=>⟨_,(Ab (An 3 qe4.nd (Aj T.d12 (qM5 T) qa0 (rm j) (vaN 0 (vaN 2 Ac)))) (Ab (An 4 qe4.nd (qb6 (v2 (Aq qa8) Al (vnm 1) (vnm 3)))) (Ab (sif (q2 (As Dq (qb0 _)) D9 (vnm 4) Be) (Ak (Av (qa4 E4))) Ay) (Ab (sif (Jh (te (Aj T.d3 (qd0 T) qa0 (rm j) (vaN 4 Ac))) (Gf (B8 (te (qm7 0 T.d11 T.C5.cl (qj5 T) qa0 (rm j) (vaN 3 (vaN 4 (vaV (qb6 (v2 (Aq qa8) Al (vnm 1) (vnm 2))) Ac)))))))).te (Ak (Av (qa4 E4))) Ay) (Ak (Av (qa4 Be))))))),λL Q M h=>?_⟩);obtain⟨d,⟨z,n,wr,c,e,f,r,k,t,rfl,C,m,E,R,G,H,g,rfl⟩,q⟩:=h;refine Aw [Ad z a.C3 n wr c,.l e f,.int (r:Nat),.u,.u] rfl ?_;have I:=Row.qj3 (n:=n.toNat) m;have v:(if 0<((r:Nat):Int) then D.int ((r:Int)-1) else if wr=true then D.int (n-1) else .non)=.int (Row.prev n.toNat r:Nat):=by rcases Row.por n.toNat r with⟨e1,e2⟩|⟨e1,e2⟩;{rw[if_neg ⋯,if_pos (E.resolve_left ⋯),e2];congr 1;lia};rw[if_pos ⋯,e2];congr 1;lia
 generalize Row.prev n.toNat r=p at I v q g;obtain⟨u,i⟩:=R.kn t (zB1 g);refine qb2 [Ad z a.C3 n wr c,.l e f,.int (r:Nat),.int (p:Nat),.u] (λK o=>?_) ?_;{exact qE9 (x:=Ad z a.C3 n wr c) (y:=.int (r:Nat)) (d:=.int (p:Nat)) rfl rfl rfl ⟨z,n,wr,c,(r:Nat),rfl,v.symm⟩ rfl o};refine qb2 [Ad z a.C3 n wr c,.l e f,.int (r:Nat),.int (p:Nat),t] (λK o=>qa1 (Ag rfl rfl (J1 g)) ⟨qq8 R.im g,o⟩) ?_;have A:rdN 4 [Ad z a.C3 n wr c,.l e f,.int (r:Nat),.int (p:Nat),t]=some t:=qh0 rfl (qs9 i);rcases qam0 i with rfl|B;{exact qj8 true rfl (λ_=>q) nofun};refine qj8 false (Ag A rfl (by show t.isN.map D.bl=_;rw[B];rfl)) nofun λ_=>?_
 cases b:t.num with|false=>rw[qaq9 b B] at q;exact qg7 false (λQ q=>qp2 false false (λQ q=>qL9 (x:=t) (d:=.bl false) A (by rw[qX1 i,b]) rfl q) nofun q) nofun λ_=>q|true=>obtain⟨x,rfl,J⟩:=qI7 b;have q:Q (Gn (if (D.int x).num=true then (if qm4 n wr c (p:Int) x k=true then none else some "order") else none)) [Ad z a.C3 n wr c,.l e f,.int (r:Nat)]:=q;rw[if_pos b] at q;refine qg7 (!qm4 n wr c (p:Int) x k) (λQ q=>qp2 true _ (λQ q=>qL9 (x:=.int x) (d:=.bl true) rfl (by rw[qX1 i,b]) rfl q) (λ_ Q q=>?_) q) (λh=>?_) λh=>?_;{refine qE6 (p:=Ad z a.C3 n wr c) rfl (qf6 rfl) (qc3 (x:=.int (p:Nat)) rfl (qc3 (x:=.int x) rfl (qb9 (y:=.int k) (Ag rfl rfl (J1 G)) rfl ?_)));refine qb7 ?_;refine qa1 (a:=D.int x) rfl ?_;refine qa1 (a:=D.int (p:Nat)) rfl ?_;exact(qa1 (a:=Ad z a.C3 n wr c) rfl (qq7 (d:=.bl (qm4 n wr c (p:Int) x k)) ⟨z,n,wr,c,(p:Nat),x,k,rfl,C,⋯,⋯,J,H,rfl⟩ q))};{rw[if_neg (by intro s;rw[s] at h;cases h)] at q;exact q};rw[if_pos (by cases s:qm4 n wr c (p:Int) x k with|true=>rfl|false=>rw[s] at h;cases h)] at q;exact q
theorem qt9:qa9 ["plan", "rooms", "room", "key", "far"] ["plan", "rooms", "room"] (qa3 qz3):=by walk_at "s"
noncomputable def atD(ys:Ds)(i:Nat):D:=(ys[i]?).getD .non
noncomputable def qC0(k:Int):D->Bool|.int j=>decide (j=k)|_=>false
def De(n:Int)(wr:Bool)(ps:Pr)(ys:Ds)(r:Nat):Option Str:=match atD ys r with|.non=>none|.int k=>if (D.int k).num=true then (if (ys.take r).any (qC0 k)=true then some "twice" else match Ba n wr ps k (r:Int) with|none=>some "home"|some f=>if f=0 then none else Ev n wr ps (Row.prev n.toNat r) (atD ys (Row.prev n.toNat r)) k) else some "key"|_=>some "key"
theorem qaB3{k:Int}:∀{l:Ds},(∀y∈l,y=.non∨∃j,y=.int j/\Ah j)->∃a,flats l=some a/\inV (.int k) a=l.any (qC0 k)|[],_=>⟨[],rfl,rfl⟩|y::l,h=>by obtain⟨a,c,e2⟩:=qaB3 (k:=k) λz d=>h z (zA7 _ d);rcases h y zAh with rfl|⟨j,rfl,_⟩;{refine⟨.non::a,?_,?_⟩;{show ((flats l).bind λb=>some (V.non::b))=_;rw[c];rfl};show (eqV .non (.int k)||inV (.int k) a)=(false||l.any (qC0 k));rw[e2];rfl};refine⟨.int j::a,?_,?_⟩;{show ((flats l).bind λb=>some (V.int j::b))=_;rw[c];rfl};show (eqV (.int j) (.int k)||inV (.int k) a)=(decide (j=k)||l.any (qC0 k));rw[e2];rfl
theorem qY4:∀{ys:Ds}{r:Nat},D.imms ys=true->D.imms (ys.take r)=true|[],r,_=>by rw[Mz];rfl|y::ys,0,_=>rfl|y::ys,r+1,h=>by have:=zAk.mp h;show (y.imm&&D.imms (ys.take r))=true;rw[this.1,qY4 this.2];rfl
theorem Rm.up{n:Int}(R:Rm n ys r){s:Nat}(h:s<=r):Rm n ys s:=⟨R.len,R.kn,R.im,λi y a=>R.fl i y ⋯⟩
def qab1(C:γ):VSp:=A5 λds d=>∃z n wr ps z' ys r,ds=[Ad z C n wr ps,.l z' ys,.int (r:Nat)]/\1<=n/\r<n.toNat/\Rm n ys r/\d=Gn (De n wr ps ys r)
theorem qac5(T:Txt K mg a):VFn P w K mg base 8 a.f14 a.d14 ["plan", "rooms", "room"] (qab1 a.C3):=by
 refine VFn.mk2 T.d14.F qt9 (wOf [true,true,true]) qb5 (by walk_at "l") (λ_ _ _ _ _ _ _ s=>⟨_,(Ab (An 3 qt9.nd (qb6 (v2 (Aq qa8) Al (vnm 1) (vnm 2)))) (Ab (sif (q2 (As Dq (qb0 _)) D9 (vnm 3) Be) (Ak (Av (qa4 Be))) Ay) (Ab (sif (B8 (te (Aj T.d3 (qd0 T) qa0 (rm s) (vaN 3 Ac)))) (Ak (Av (qa4 E4))) Ay) (Ab (sif (q2 (As qx9 (by with_unfolding_all rfl)) Ge (vnm 3) (vsl (vnm 1) Hi (Hj (vnm 2)))) (Ak (Av (qa4 E4))) Ay) (Ab (An 4 qt9.nd (qm7 0 T.d10 T.C5.cl (qj6 T) qa0 (rm s) (vaN 3 (vaN 2 Ac)))) (Ab (sif (q2 (As Dq (qb0 _)) D9 (vnm 4) Be) (Ak (Av (qa4 E4))) Ay) (Ab (sif (q2 (As (qj4 s.u64) (qb0 _)) Bl (vnm 4) Af) (Ak (Av (qa4 Be))) Ay) (Ak (Av (Aj T.d13 (qo6 T) qa0 (rm s) (vaN 0 (vaN 1 (vaN 2 Ac))))))))))))),λX Q Y h=>?_⟩);obtain⟨d,⟨z,n,wr,c,g,b,r,rfl,E,j,R,rfl⟩,q⟩:=h;have N:=Row.qj3 (n:=n.toNat) j;obtain⟨v,o⟩:∃v,b[r]?=some v:=⟨b[r]'(by rw[R.len];exact j),by simp⟩;obtain⟨t,I⟩:∃t,b[Row.prev n.toNat r]?=some t:=⟨b[Row.prev n.toNat r]'(by rw[R.len];exact N),by simp⟩;obtain⟨u,A⟩:=R.kn v (zB1 o);have O:atD b r=v:=by unfold atD;rw[o];rfl
 have S:atD b (Row.prev n.toNat r)=t:=by unfold atD;rw[I];rfl
 unfold De at q;rw[O,S] at q;refine Aw [Ad z a.C3 n wr c,.l g b,.int (r:Nat),.u,.u] rfl ?_;refine qb2 [Ad z a.C3 n wr c,.l g b,.int (r:Nat),v,.u] (λK G=>qa1 (Ag rfl rfl (J1 o)) ⟨qq8 R.im o,G⟩) ?_;have J:rdN 3 [Ad z a.C3 n wr c,.l g b,.int (r:Nat),v,.u]=some v:=qh0 rfl (qs9 A);rcases qam0 A with rfl|L;{exact qj8 true rfl (λ_=>q) nofun};refine qj8 false (Ag J rfl (by show v.isN.map D.bl=_;rw[L];rfl)) nofun λ_=>?_
 cases e:v.num with
 |false=>refine qg7 true (λQ q=>qL9 (x:=v) (d:=.bl false) J (by rw[qX1 A,e]) rfl q) (λ_=>?_) nofun;cases v with|non=>cases L|int k=>have q:Q (Gn (if (D.int k).num=true then _ else some "key")) [Ad z a.C3 n wr c,.l g b,.int (r:Nat)]:=q;rw[if_neg (by rw[e];decide)] at q;exact q|_=>exact q
 |true=>
  obtain⟨k,rfl,M⟩:=qI7 e;have q:Q (Gn (if (D.int k).num=true then (if (b.take r).any (qC0 k)=true then some "twice" else match Ba n wr c k (r:Int) with|none=>some "home"|some f=>if f=0 then none else Ev n wr c (Row.prev n.toNat r) t k) else some "key")) [Ad z a.C3 n wr c,.l g b,.int (r:Nat)]:=q;rw[if_pos e] at q;refine qg7 false (λQ q=>qL9 (x:=.int k) (d:=.bl true) rfl (by rw[qX1 A,e]) rfl q) nofun λ_=>?_
  obtain⟨B,U,e2⟩:=qaB3 (k:=k) (l:=b.take r) λy V=>by obtain⟨i,C⟩:=List.getElem?_of_mem V;rw[List.getElem?_take] at C;split at C;{rename_i hlt;exact R.fl i y hlt C};cases C
  have H:f2 (Jg false) (rdN 3) (fsl (rdN 1) foN (foS (rdN 2))) [Ad z a.C3 n wr c,.l g b,.int (r:Nat),.int k,.u]=some (.bl ((b.take r).any (qC0 k))):=by refine Ag (x:=.int k) (y:=.l false (b.take r)) rfl ?_ ?_;{show gSl (.l g b) none (some (r:Int))=_;show gd (D.imms (B7 b none (some (r:Int)))=true) (.l false (B7 b none (some (r:Int))))=_;rw[qK1];exact qh4 (qY4 R.im)};show ((flats (b.take r)).bind λB=>some (D.bl (if false=true then !inV (.int k) B else inV (.int k) B)))=_;rw[U];show some (D.bl (inV (.int k) B))=_;rw[e2]
  refine qj8 _ H (λh=>?_) λh=>?_;{rw[if_pos h] at q;exact q};rw[if_neg (by rw[h];decide)] at q;refine qb2 [Ad z a.C3 n wr c,.l g b,.int (r:Nat),.int k,G3 (Ba n wr c k (r:Nat))] (λK G=>?_) ?_;{exact qat8 (p:=Ad z a.C3 n wr c) (x:=.int k) (y:=.int (r:Nat)) rfl (qf6 rfl) rfl rfl rfl rfl (qav1 E M ⋯ ⋯) rfl G};cases m:Ba n wr c k (r:Nat) with
  |none=>rw[m] at q;exact qj8 true rfl (λ_=>q) nofun|some f=>
   rw[m] at q;refine qj8 false rfl nofun λ_=>?_
   refine qj8 (decide (f=0)) rfl (λh=>?_) λh=>?_;{have q:Q (Gn (if f=0 then none else Ev n wr c (Row.prev n.toNat r) t k)) [Ad z a.C3 n wr c,.l g b,.int (r:Nat)]:=q;rw[if_pos (zAd h)] at q;exact q};have q:Q (Gn (if f=0 then none else Ev n wr c (Row.prev n.toNat r) t k)) [Ad z a.C3 n wr c,.l g b,.int (r:Nat)]:=q;rw[if_neg (zB6 h)] at q;refine Ik (x:=Ad z a.C3 n wr c) (y:=.l g b) (w:=.int (r:Nat)) rfl rfl rfl rfl rfl ⟨z,n,wr,c,g,b,r,k,t,rfl,E,j,?_,R.up (zBb _),o,M,I,rfl⟩ rfl q;cases wr with|true=>exact .inr rfl|false=>left;unfold Ba at m;rw[if_neg ∅] at m;have:=(qan6 E c k).1;have W:=zB6 h;split at m;{cases m;lia};cases m
theorem qS1:qa9 ["plan", "rooms"] ["plan", "rooms"] (qa3 qu6):=by walk_at "s"
def farP(n:Int)(wr:Bool)(ps:Pr):D->Bool
 |.q [.int i,.int k]=>match Ba n wr ps k i with|some f=>decide (0<f)|none=>false
 |_=>false
def qr4(n:Int)(wr:Bool)(ps:Pr)(ys:Ds):Bool:=(enD ys).all (farP n wr ps)
theorem qae0(ys:Ds):(enD ys).length=ys.length:=by unfold enD;rw[zA9,List.length_zipIdx]
def qR0(C:γ):VSp:=A5 λds d=>∃z n wr ps z' ys,ds=[Ad z C n wr ps,.l z' ys]/\1<=n/\n<=64/\ys.length=n.toNat/\(∀i v,ys[i]?=some v->v=.non∨∃k,v=.int k/\Ah k/\Ba n wr ps k (i:Nat)≠none)/\d=.bl (qr4 n wr ps ys)
theorem qaI6{p:Nat->D->Prop}(h:∀i v,ys[i]?=some v->v=.non∨∃k,v=.int k/\p i v):D.imms ys=true:=by
 induction ys generalizing p with
 |nil=>rfl|cons y ys a=>
  have b:=h 0 y rfl;have c:y.imm=true:=by rcases b with rfl|⟨k,rfl,_⟩<;>rfl
  show (y.imm&&D.imms ys)=true;rw[c,a (p:=λi v=>p (i+1) v) λi v d=>h (i+1) v d];rfl
theorem qT4(T:Txt K mg a):VFn P w K mg base 6 a.f15 a.d15 ["plan", "rooms"] (qR0 a.C3):=by
 refine VFn.mk2 T.d15.F qS1 (wOf [true,true]) qb5 (by walk_at "l") (λ_ _ _ _ _ _ _ H=>⟨_,(Ak (Av (ebi (qK3 rfl) qaK6.ops T.Cz (Ej (vaV (ecEN (NY:=["room", "key", "plan"]) (src:=[none,none,some 0]) 1 T.Co (blk (λo C r H0 s=>(Fa (n:=2) rfl (qt1 (Bc 0 (show (["room", "key", "plan"]:List Str).Nodup by decide +kernel)) (qt1 (Bc 1 (show (["room", "key", "plan"]:List Str).Nodup by decide +kernel)) E9)))) (λo C r H0 s=>Ea) (λo C r H0 s=>(Gg (qa4 (v2 (A7 qo5 (qb0 _)) qv3 (vnm 1) Be)) (Ic (e2v (A7 Bs (qb0 _)) Db (qm7 2 T.d10 T.C5.cl (qj6 T) L2.qa0 (rm H) (vaN 1 (vaN 0 Ac))) Af)))))) Ac))))),λX Q Y h=>?_⟩);obtain⟨d,⟨z,n,wr,b,I,g,rfl,J,Z,t,u,rfl⟩,q⟩:=h;refine Aw [Ad z a.C3 n wr b,.l I g] rfl ?_;have L:D.imms g=true:=qaI6 (p:=λi v=>∃k,v=.int k/\Ah k/\Ba n wr b k (i:Nat)≠none) λi v h=>by rcases u i v h with h|⟨k,A,M,N⟩;{exact .inl h};exact .inr ⟨k,A,k,A,M,N⟩
 refine qi2 ?_;refine⟨L,?_⟩;refine qm3 (λι=>∃j m,ι=[j,m,Ad z a.C3 n wr b]) (λy=>some (.bl (farP n wr b y))) (enD g) [] _ (by show 0+(enD g).length<big;rw[qae0,t];unfold big;lia) ⟨_,_,rfl⟩ ?_ ?_
 .rintro y O ι S ⟨j,m,rfl⟩ R B c;obtain⟨i,v,rfl,E⟩:=qbe4 O;have U:i<n.toNat:=by rw[<-t];exact(zA5.mp E).1
  refine qq9 (qC9 (Bq rfl ?_));rcases u i v E with rfl|⟨k,rfl,V,W⟩;{exact Fg false rfl nofun λ_=>⟨c,B _ ⟨_,_,rfl⟩⟩};refine Fg true rfl (λ_=>?_) nofun;refine qat8 (p:=Ad z a.C3 n wr b) (x:=.int k) (y:=.int (i:Nat)) rfl (qf6 rfl) rfl rfl rfl rfl (qav1 J V ⋯ ⋯) rfl ?_;have this:=B _ ⟨.int (i:Nat),.int k,rfl⟩;cases G:Ba n wr b k (i:Nat) with
  |none=>exact absurd G W|some f=>
   have e:farP n wr b (.q [.int (i:Nat),.int k])=decide (0<f):=by show (match Ba n wr b k (i:Nat) with|some f=>decide (0<f)|none=>false)=_;rw[G]
   rw[e] at this;exact qa1 (a:=D.bl (decide (0<f))) rfl ⟨c,this⟩
 rintro ι ⟨j,m,rfl⟩;rw[zB8,qU3];exact qa1 (qaL5 (farP n wr b) (enD g)) q
theorem qu1:qa9 ["plan", "rooms", "room", "word"] ["plan", "rooms"] (qa3 qz6):=by walk_at "s"
def Im(n:Int)(wr:Bool)(ps:Pr)(ys:Ds):Option (Str×Nat):=(Lh n.toNat).findSome? λr=>(De n wr ps ys r).map λw=>(w,r)
def qav0(n:Int)(wr:Bool)(ps:Pr)(ys:Ds):D:=match Im n wr ps ys with|some (w,r)=>.q [.str w,.int (r:Nat)]|none=>if qr4 n wr ps ys=true then .q [.str "turned",.int 0] else .non
theorem qK6{n:Int}{wr:Bool}{ps:Pr}{v:D}(c:ys[r]?=some v)(h:De n wr ps ys r=none):v=.non∨∃k,v=.int k/\Ah k/\Ba n wr ps k (r:Nat)≠none:=by
 have d:atD ys r=v:=by unfold atD;rw[c];rfl
 unfold De at h;rw[d] at h;cases v with|non=>exact .inl rfl|int k=>have h:(if (D.int k).num=true then (if (ys.take r).any (qC0 k)=true then (some "twice" : Option Str) else match Ba n wr ps k (r:Int) with|none=>some "home"|some f=>if f=0 then none else Ev n wr ps (Row.prev n.toNat r) (atD ys (Row.prev n.toNat r)) k) else some "key")=(none:Option Str):=h;by_cases a:(D.int k).num=true;{rw[if_pos a] at h;obtain⟨i,e,b⟩:=qI7 a;cases e;refine .inr ⟨k,rfl,b,λg=>?_⟩;rw[g] at h;split at h<;>cases h};rw[if_neg a] at h;cases h|_=>cases h
theorem qO8{α:Type}{r:Nat}{f:Nat->Option α}{a:α}:∀{N:Nat},r<N->(∀i,i<r->f i=none)->f r=some a->(Lh N).findSome? f=some a|0,hr,_,_=>absurd hr (zBw _)|N+1,hr,h0,h=>by rw[Mq,List.findSome?_append];by_cases b:r<N;{rw[qO8 b h0 h];rfl};have e:r=N:=⋯;subst e;rw[List.findSome?_eq_none_iff.mpr λi c=>h0 i (zAj.mp c)];show [r].findSome? f=_;rw[List.findSome?_cons,h]
theorem qY9{f:Nat->Option α}(a:∀i,i<N->f i=none):(Lh N).findSome? f=none:=List.findSome?_eq_none_iff.mpr λi b=>a i (zAj.mp b)
def qab4(C:γ):VSp:=A5 λds d=>∃z n wr ps z' ys,ds=[Ad z C n wr ps,.l z' ys]/\1<=n/\n<=64/\ys.length=n.toNat/\(∀y∈ys,∃t,y.kind=some t)/\D.imms ys=true/\d=qav0 n wr ps ys
theorem qac7(T:Txt K mg a):VFn P w K mg base 9 a.f16 a.d16 ["plan", "rooms"] (qab4 a.C3):=by
 refine VFn.mk2 T.d16.F qu1 (wOf [true,true]) qb5 (by walk_at "l") (λ_ _ _ _ _ _ _ B=>⟨_,(Ab (sif (tor (B8 (tv (vbi ql9 qU8.ops T.C8 (qa2 (vnm 1) (qa2 (vty "list" T.Ci) qa6 rfl) rfl)))) (tor1 (q2 (As (qv4 B.u64) (qb0 _)) Dr (vbi qt5 qt4.ops T.Cj (qa2 (vnm 1) qa6 rfl)) (Bh rfl (vnm 0) T.C5.cl T.C7)))).te (Ak (Av (qa4 (En (qa2 E4 (qa2 Af qa6 rfl) rfl))))) Ay) (Ab (qR9 N6 T.Cg (Ej (vaV (qb6 (Bh rfl (vnm 0) T.C5.cl T.C7)) Ac)) (Bc 2 qu1.nd) (Ab (An 3 qu1.nd (Aj T.d14 (qac5 T) qa0 (rm B) (vaN 0 (vaN 1 (vaN 2 Ac))))) (Ak (sif (q2 (As qo5 (qb0 _)) qv3 (vnm 3) Be) (Ak (Av (qa4 (En (qa2 (vnm 3) (qa2 (vnm 2) qa6 rfl) rfl))))) Ay)))) (Ak (Av (eif (te (Aj T.d15 (qT4 T) qa0 (rm B) (vaN 0 (vaN 1 Ac)))) (qa4 (En (qa2 E4 (qa2 Af qa6 rfl) rfl))) (qa4 Be)))))),λp Q V h=>?_⟩);obtain⟨d,⟨z,n,wr,f,g,c,rfl,H,J,C,E,L,rfl⟩,q⟩:=h;refine Aw [Ad z a.C3 n wr f,.l g c,.u,.u] rfl ?_;have t:f2 gNe (A9 (fx1 Fm) (A6 (rdN 1) λ_=>some [])) (f1 (D.fld a.C3 "rooms") (rdN 0)) [Ad z a.C3 n wr f,.l g c,.u,.u]=some (.bl false):=Ag (ql4 rfl) (A4 rfl qd4) (by show some (D.bl (!((c.length:Nat):Int)==n))=_;rw[show ((c.length:Nat):Int)=n by lia,zBf];rfl);refine qg7 false (λQ q=>qV8 false false (λQ q=>qo0 (qam7 rfl) q) (λ_ Q q=>qi1 t q) q) nofun λ_=>?_
 refine qc0 (λp=>(∀i,i<n.toNat->De n wr f c i=none)/\∃d u,p=[Ad z a.C3 n wr f,.l g c,d,u]) (λK s=>?_) ?_
 .refine qU2 (A4 rfl qd4) (qN2 ⋯ ⋯) ?_;refine qe8 (λi p=>(∀j,j<i->De n wr f c j=none)/\∃d u,p=[Ad z a.C3 n wr f,.l g c,d,u]) _ 0 _ ⟨λj A=>absurd A (zBw _),_,_,rfl⟩ ?_ ?_
  .rintro j x M p ⟨m,d,u,rfl⟩ K s;rw[zAe] at m s;obtain⟨A,rfl⟩:=qI2 M;have R:Rm n c j:=⟨C,E,L,λi y o N=>by rcases qK6 N (m i o) with h|⟨k,O,S,_⟩;{exact .inl h};exact .inr ⟨k,O,S⟩⟩;refine qb2 [Ad z a.C3 n wr f,.l g c,.int (j:Nat),Gn (De n wr f c j)] (λK s=>Ik (x:=Ad z a.C3 n wr f) (y:=.l g c) (w:=.int (j:Nat)) rfl rfl rfl rfl rfl ⟨z,n,wr,f,g,c,j,rfl,H,A,R,rfl⟩ rfl s) ?_;cases e:De n wr f c j with
   |none=>
    refine if_v (b:=false) rfl nofun λ_=>s _ ⟨λi o=>?_,_,_,rfl⟩
    rcases zCr.mp o with h|rfl;{exact m i h};exact e
   |some w=>have G:Im n wr f c=some (w,j):=qO8 A (λi o=>by rw[m i o];rfl) (by rw[e];rfl);have q:Q (match Im n wr f c with|some (w,r)=>.q [.str w,.int (r:Nat)] | none=>if qr4 n wr f c=true then .q [.str "turned",.int 0] else .non) [Ad z a.C3 n wr f,.l g c]:=q;rw[G] at q;exact if_v (b:=true) rfl (λ_=>q) nofun
  rintro p ⟨m,U⟩;refine s _ ⟨λi o=>m i ?_,U⟩;unfold By;rw[zA9,zB0,zAe];exact o
 rintro p ⟨m,d,u,rfl⟩;have G:Im n wr f c=none:=qY9 λi o=>by rw[m i o];rfl
 have q:Q (match Im n wr f c with|some (w,r)=>.q [.str w,.int (r:Nat)] | none=>if qr4 n wr f c=true then .q [.str "turned",.int 0] else .non) [Ad z a.C3 n wr f,.l g c]:=q;rw[G] at q;refine qi2 ?_;refine qE9 (x:=Ad z a.C3 n wr f) (y:=.l g c) (d:=.bl (qr4 n wr f c)) rfl rfl rfl ⟨z,n,wr,f,g,c,rfl,H,J,C,λi v I=>qK6 I (m i (by rw[<-C];exact(zA5.mp I).1)),rfl⟩ rfl ?_;refine qa1 (a:=qr4 n wr f c) rfl (ite_b (λh=>?_) λh=>?_);{have q:Q (if qr4 n wr f c=true then .q [.str "turned",.int 0] else .non) [Ad z a.C3 n wr f,.l g c]:=q;rw[if_pos h] at q;exact q};have q:Q (if qr4 n wr f c=true then .q [.str "turned",.int 0] else .non) [Ad z a.C3 n wr f,.l g c]:=q;rw[if_neg (by rw[h];decide)] at q;exact q
theorem qu2:qa9 ["self", "plan", "rooms", "held", "fault"] ["self", "plan", "rooms"] (qa3 qA0):=by walk_at "s"
theorem qaL4{g:Nat->Option Int}(h:r<N):atD (O8 N g) r=At (g r):=by unfold atD;rw[qC3 h];rfl
theorem qaM6{g:Nat->Option Int}(h:r<=N):(O8 N g).take r=O8 r g:=by unfold O8;rw[<-L6,List.take_range,zCy h]
theorem qbg0{g:Nat->Option Int}{k:Int}:(O8 r g).any (qC0 k)=true↔∃j,j<r/\g j=some k:=by unfold O8;rw[Nq,Nd];constructor;{rintro⟨j,a,e⟩;refine⟨j,zAj.mp a,?_⟩;have e:qC0 k (At (g j))=true:=e;cases h:g j with|none=>rw[h] at e;cases e|some x=>rw[h] at e;rw[zAd (show decide (x=k)=true from e)]};rintro⟨j,a,e⟩;refine⟨j,zAj.mpr a,?_⟩;show qC0 k (At (g j))=true;rw[e];exact zAf rfl
theorem qaL6{n:Int}{wr:Bool}{ps:Pr}{g:Nat->Option Int}{k:Int}(a:r<n.toNat)(b:g r=some k)(c:Ah k):De n wr ps (O8 n.toNat g) r=(if (O8 r g).any (qC0 k)=true then (some "twice" : Option Str) else match Ba n wr ps k (r:Int) with
   |none=>some "home"
   |some f=>if f=0 then none else Ev n wr ps (Row.prev n.toNat r) (At (g (Row.prev n.toNat r))) k):=by
 unfold De;rw[qaL4 a,qaL4 (Row.qj3 a),qaM6 (zBi a),b];show (if (D.int k).num=true then _ else _)=_;rw[if_pos (qv5 c)]
 try rfl
theorem qaW0{v:D}(h:ys[i]?=some v):D.q [.int (i:Nat),v]∈enD ys:=zBc.mpr ⟨(v,i),List.mem_zipIdx_iff_getElem?.mpr h,rfl⟩
theorem qam3{n:Int}{wr:Bool}{ps:Pr}{g:Nat->Option Int}{S:List Int}(m:1<=n)(KP:Kept n.toNat wr (O5 n ps) g S)(t:∀k∈S,Ah k):qav0 n wr ps (O8 n.toNat g)=.non:=by
 have p:∀{i k},i<n.toNat->g i=some k->Ah k:=λ{i k} l h=>t k ((KP.h.2 k).mpr ⟨i,l,h⟩);have b:Im n wr ps (O8 n.toNat g)=none:=qY9 λr d=>by
  have:De n wr ps (O8 n.toNat g) r=none:=by cases a:g r with|none=>unfold De;rw[qaL4 d,a];rfl|some k=>have q:=Row.qj3 d;rw[qaL6 d a (p d a),if_neg (λz=>by obtain⟨j,A,e⟩:=qbg0.mp z;have:=KP.o.inj j r k ⋯ d e a;lia),qO9 m d (λb=>KP.ln b r k d a)];show (if ((Aa n.toNat (O5 n ps k) r:Nat):Int)=0 then none else _)=_;by_cases B:Aa n.toNat (O5 n ps k) r=0;{rw[if_pos ⋯]};obtain⟨x,s,u⟩:=KP.o.ord r k d a ⋯;rw[if_neg ⋯,s];show (if (D.int x).num=true then (if qm4 n wr ps (Row.prev n.toNat r:Nat) x k=true then (none:Option Str) else some "order") else none)=none;have v:=Eo (ps:=ps) m k;rw[if_pos (qv5 (p q s)),if_pos ((qK4 (ps:=ps) m q (λb=>KP.ln b _ x q s) (λb=>by have C:=KP.ln b r k d a;have E:=dor n.toNat (O5 n ps k) r;have F:=por n.toNat r;lia)).mpr u)]
  rw[this];rfl
 have w:qr4 n wr ps (O8 n.toNat g)=false:=by obtain⟨i,l,y⟩:=KP.c;refine List.all_eq_false.mpr ⟨_,qaW0 (qC3 l),?_⟩;cases a:g i with|none=>exact λh=>by cases h|some k=>show ¬(match Ba n wr ps k (i:Nat) with|some f=>decide (0<f)|none=>false)=true;rw[qO9 m l (λb=>KP.ln b i k l a),(qc1 (Eo m k) l).mpr (y k a).symm];exact λh=>by cases h
 unfold qav0;rw[b,w];rfl
def Am(zr:Bool)(C CP:γ)(n:Int)(wr:Bool)(ps:Pr)(g:Nat->Option Int)(dn:Ds):D:=.ins zr C [("plan",Ad true CP n wr ps),("held",.l zr (O8 n.toNat g)),("done",.l zr dn)]
abbrev rA(a:Adr)(n:Int)(wr:Bool)(ps:Pr)(g:Nat->Option Int)(dn:Ds):D:=Am false a.C4 a.C3 n wr ps g dn
abbrev kL(S:List Int):D:=.l false (O7 S)
abbrev rL(n:Int)(g:Nat->Option Int):D:=.l false (O8 n.toNat g)
section
variable{zr:Bool}{C CP:γ}{n:Int}{wr:Bool}{ps:Pr}{g:Nat->Option Int}{dn:Ds}
theorem qf2:D.fld C "plan" (Am zr C CP n wr ps g dn)=some (Ad true CP n wr ps):=qG8 (by rfl)
theorem qs3:D.fld C "held" (Am zr C CP n wr ps g dn)=some (.l zr (O8 n.toNat g)):=qG8 (by rfl)
theorem qW7:D.fld C "done" (Am zr C CP n wr ps g dn)=some (.l zr dn):=qG8 (by rfl)
theorem qh3(h:([("plan",Ad true CP n wr ps),("held",.l zr (O8 n.toNat g)),("done",.l zr dn)]:List (Str×D)).lookup m=none):(Am zr C CP n wr ps g dn).isM C m=true:=qaA6 h
end
theorem qt2:D.fidx C "held" (Am zr C CP n wr ps g dn)=some 1:=by show (if C=C then List.findIdx? (λq:Str×D=>("held" : Str)==q.1) [("plan",Ad true CP n wr ps),("held",.l zr (O8 n.toNat g)),("done",.l zr dn)] else none)=_;rw[if_pos rfl];rfl
theorem qbf5{p:List Nat}{w:V}{d0:D}(h:Bf ds i p=some (.hole w)):bk1 i p w d0 ds=some (Bk ds i p d0):=by unfold bk1 Au;rw[h];simp only[if_true];unfold Au;rfl
theorem qaJ9{C:γ}{f:Str}{pf:PF}(h:te ds (λd ds1=>orF (pf ds1) λq=>orF ((Bf ds1 q.1 q.2).bind (D.ownI C)) λfs=>fs.length<100/\e.nx (Bk ds1 q.1 q.2 (.ins false C (Fb f d fs)))) e.xe):sFldV C f te pf e ds:=h
theorem mv_to(h:rdN i ds=some d)(q:Q d (ds.set i .u)):tMv i ds Q xe:=qa1 h q
def qab8(C CP:γ):VSp:=λds Q _=>∃n wr ps r g S,ds=[.ins false C [],Ad true CP n wr ps,r]/\1<=n/\n<=64/\(∀k∈S,Ah k)/\Kept n.toNat wr (O5 n ps) g S/\(r=.non/\g=(λ_=>none)∨∃z,r=.l z (O8 n.toNat g))/\Q .non [Am false C CP n wr ps g [],Ad true CP n wr ps,r]
theorem qad0(T:Txt K mg a):VFn P w K mg base 10 a.f24 a.d24 ["self", "plan", "rooms"] (qab8 a.C4 a.C3):=by
 refine VFn.mkE T.d24.F qu2 (wOf [true,true,true]) (λj Q Q' l p s _ h=>by obtain⟨n,wr,c,r,g,S,e,t,u,v,A,B,q⟩:=h;exact⟨n,wr,c,r,g,S,e,t,u,v,A,B,s _ _ q⟩) (λj Q l h=>by obtain⟨n,wr,c,r,g,S,e,_⟩:=h;rw[e];rfl) (λj Q l h=>by obtain⟨n,wr,c,r,g,S,e,_⟩:=h;rw[e];rfl) (λ_ _ _ _ _ _ _ i=>⟨_,(Ab (sif (B8 (tv (vbi (qaL1 T.D2 T.C5.cl) qbf0.ops T.C8 (qa2 (vnm 1) (qa2 (vcls a.C3 T.C5.m) qa6 rfl) rfl)))) (Ak qm5) Ay) (Ab (sif (Jh (q2 (As qo5 (qb0 _)) qv3 (vnm 2) Be) (Gf (B8 (tv (vbi ql9 qU8.ops T.C8 (qa2 (vnm 2) (qa2 (vty "list" T.Ci) qa6 rfl) rfl)))))).te (Ak qm5) Ay) (Ab (An 3 qu2.nd (eif (q2 (As Dq (qb0 _)) D9 (vnm 2) Be) (qa4 (v2 (Ap qB1) qB0 (Bo (qa2 Be qa6 rfl)) (Bh rfl (vnm 1) T.C5.cl T.C7))) (qa4 (E5 qd8 qw9.ops T.Ci (qa2 (vnm 2) qa6 rfl))))) (Ab (An 4 qu2.nd (Aj T.d16 (qac7 T) qa0 (rm i) (vaN 1 (vaN 3 Ac)))) (Ab (sif (q2 (As qo5 (qb0 _)) qv3 (vnm 4) Be) (Ak qm5) Ay) (Ab (Gv rfl (vpn 0) (qb6 (vnm 1)) T.C6.cl T.C9) (Ab (Gv rfl (vpn 0) (emv 3) T.C6.cl T.Ca) (Ak (Gv rfl (vpn 0) (qa4 (Bo qa6)) T.C6.cl T.Cc))))))))),λj Q l h=>?_⟩);obtain⟨n,wr,c,r,g,S,rfl,o,C,D,KP,i,q⟩:=h;have G:r.known=true:=by rcases i with⟨rfl,_⟩|⟨z,rfl⟩<;>rfl
 refine Aw [.ins false a.C4 [],Ad true a.C3 n wr c,r,.u,.u] rfl ?_;refine qaU0 (show gIsO a.C3 (Ad true a.C3 n wr c) (.adr a.C3)=some (.bl true) from qaI4) ?_;refine qg7 false (λQ q=>?_) nofun λ_=>?_
 {rcases i with⟨rfl,_⟩|⟨z,rfl⟩;{exact qp2 false false (λQ q=>qi1 (b:=false) (Ag rfl rfl rfl) q) nofun q};exact qp2 true false (λQ q=>qi1 (b:=true) (Ag rfl rfl rfl) q) (λ_ Q q=>qo0 (b:=true) (qam7 rfl) q) q};refine qb2 [.ins false a.C4 [],Ad true a.C3 n wr c,r,rL n g,.u] (λK f=>qe3 ?_) ?_;{rcases i with⟨rfl,rfl⟩|⟨z,rfl⟩;{exact Fx (b:=true) (Ag rfl rfl rfl) (λ_=>qm6 (Ag rfl (A4 rfl qd4) (qak3 ⋯ C)) f) nofun};exact Fx (b:=false) (Ag rfl rfl rfl) nofun λ_=>qm6 (d:=rL n g) (show Hg (.l z (O8 n.toNat g))=_ from qh4 (qC1 _ _)) f};refine qb2 [.ins false a.C4 [],Ad true a.C3 n wr c,r,rL n g,.non] (λK f=>qe3 ?_) ?_;{refine qE9 (x:=Ad true a.C3 n wr c) (y:=rL n g) (d:=qav0 n wr c (O8 n.toNat g)) rfl rfl rfl ⟨true,n,wr,c,false,O8 n.toNat g,rfl,o,⋯,qj7 _ _,λy E=>?_,qC1 _ _,rfl⟩ rfl ?_;{rcases qaN7 E with rfl|⟨k,rfl⟩;{exact⟨_,rfl⟩};exact⟨_,rfl⟩};rw[qam3 o KP D];exact f};refine qg7 false (λQ q=>qi1 (b:=false) (Ag rfl rfl rfl) q) nofun λ_=>?_
 refine qb2 [.ins false a.C4 [("plan",Ad true a.C3 n wr c)],Ad true a.C3 n wr c,r,rL n g,.non] (λK f=>qaJ9 (qx7 (d:=Ad true a.C3 n wr c) rfl rfl (qa1 (a:=(0,[])) rfl (qa1 ql0 ⟨∅,f⟩)))) ?_;refine qb2 [.ins false a.C4 [("plan",Ad true a.C3 n wr c),("held",rL n g)],Ad true a.C3 n wr c,r,.u,.non] (λK f=>qaJ9 (mv_to (d:=rL n g) rfl (qa1 (a:=(0,[])) rfl (qa1 ql0 ⟨by show 1<100;decide,f⟩)))) ?_;exact qaJ9 (qm6 (d:=.l false []) rfl (qa1 (a:=(0,[])) rfl (qa1 ql0 ⟨by show 2<100;decide,q⟩)))
theorem qS2:qa9 ["plan", "keys", "room"] ["plan", "keys", "room"] (qa3 qu9):=by walk_at "s"
def qR2(C:γ):VSp:=A5 λds d=>∃z n wr ps z' ks r,ds=[Ad z C n wr ps,.l z' (O7 ks),.int r]/\1<=n/\(∀k∈ks,Ah k)/\ks.length<=1000/\d=.bl (if wr=true then decide (r=0)&&decide (n<(ks.length:Int)) else decide (n-r<((ks.filter λk=>decide (r<=qb4 n ps k)).length:Int)))
theorem qT5(T:Txt K mg a):VFn P w K mg base 5 a.f17 a.d17 ["plan", "keys", "room"] (qR2 a.C3):=by refine VFn.mk2 T.d17.F qS2 (wOf [true,true,true]) qb5 (by walk_at "l") (λ_ _ _ _ _ _ _ m=>⟨_,(Ab (sif (tv (Bh rfl (vnm 0) T.C5.cl T.Cb)) (Ak (Av (qa4 (vand (v2 (A7 (qj4 m.u64) (qb0 _)) Bl (vnm 2) Af) (vone (v2 (A7 Bs (qb0 _)) Db (vbi qt5 qt4.ops T.Cj (qa2 (vnm 1) qa6 rfl)) (Bh rfl (vnm 0) T.C5.cl T.C7))))))) Ay) (Ak (Av (e2v (A7 Bs (qb0 _)) Db (ebi qt5 qt4.ops T.Cj (Ej (vaV (ecN (NY:=["key", "room", "plan"]) (src:=[none,some 2,some 0]) 1 (blk (λo C s H0 t=>(Bc 0 (show (["key", "room", "plan"]:List Str).Nodup by decide +kernel))) (λo C s H0 t=>(Fd (q2v (A7 G8 (qb0 _)) (As G8 (qb0 _)) Jf (qm7 2 T.d9 T.C5.cl (qh9 T) L2.qa0 (rm m) (vaN 0 Ac)) (vnm 1)))) (λo C s H0 t=>(qb6 (vnm 0))))) Ac))) (v2 (Ap qB2) qA9 (Bh rfl (vnm 0) T.C5.cl T.C7) (vnm 2)))))),λE Q G h=>?_⟩);obtain⟨d,⟨z,n,wr,b,f,c,r,rfl,u,v,H,rfl⟩,q⟩:=h;refine Aw [Ad z a.C3 n wr b,.l f (O7 c),.int r] rfl ?_;refine qj8 wr (A4 rfl qo2) (λh=>?_) λh=>?_;{rw[if_pos h] at q;have g:f2 gGt (A9 (fx1 Fm) (A6 (rdN 1) λ_=>some [])) (f1 (D.fld a.C3 "rooms") (rdN 0)) [Ad z a.C3 n wr b,.l f (O7 c),.int r]=some (.bl (decide (n<(c.length:Int)))):=Ag (ql4 rfl) (A4 rfl qd4) (by rw[qf5];rfl);exact qg5 _ (qaB4 (a:=decide (r=0)) rfl g) q};rw[if_neg (by rw[h];decide)] at q;refine qi2 ?_;refine⟨qf7 c,?_⟩;refine qm3 (λι=>∃d,ι=[d,.int r,Ad z a.C3 n wr b]) (Ff λk=>decide (r<=qb4 n b k)) (O7 c) [] _ (by show 0+(O7 c).length<big;rw[qf5];unfold big;lia) ⟨_,rfl⟩ ?_ ?_;{rintro y A ι i ⟨d,rfl⟩ R B e;obtain⟨k,j,rfl⟩:=zBc.mp A;refine qN4 (p:=Ad z a.C3 n wr b) (x:=.int k) (d:=.int (qb4 n b k)) rfl (qf6 rfl) rfl rfl ⟨z,n,wr,b,k,rfl,u,v k j,rfl⟩ rfl ?_;have this:=B _ ⟨.int k,rfl⟩;refine qa1 (a:=D.bl (decide (r<=qb4 n b k))) rfl (qa1 (a:=decide (r<=qb4 n b k)) rfl (ite_b (λh=>?_) λh=>?_));{rw[qam5 (p:=λk=>decide (r<=qb4 n b k)) h] at this;exact⟨rfl,e,this⟩};rw[qam6 (p:=λk=>decide (r<=qb4 n b k)) h] at this;have this:R (i++[]) _:=this;rw[zAg] at this;exact this};rintro ι ⟨d,rfl⟩;rw[zB8,qJ3];refine qa1 (a:=D.bl (decide (n-r<((c.filter λk=>decide (r<=qb4 n b k)).length:Int)))) ?_ q;show (f2 gSub (f1 (D.fld a.C3 "rooms") (rdN 0)) (rdN 2) [Ad z a.C3 n wr b,.l f (O7 c),.int r]).bind (gGt (D.int ((O7 (c.filter λk=>decide (r<=qb4 n b k))).length:Nat)))=_;rw[Ag (A4 rfl qd4) rfl rfl,qf5];rfl
theorem qo9:qa9 ["plan", "keys", "room"] ["plan", "keys"] (qa3 qk4):=by walk_at "s"
def qP0(n:Int)(wr:Bool)(ps:Pr)(ks:List Int)(r:Int):Bool:=if wr=true then decide (r=0)&&decide (n<(ks.length:Int)) else decide (n-r<((ks.filter λk=>decide (r<=qb4 n ps k)).length:Int))
def qZ6(n:Int)(wr:Bool)(ps:Pr)(ks:List Int):Option Nat:=(Lh n.toNat).find? λr=>qP0 n wr ps ks (r:Int)
noncomputable def natD:Option Nat->D|none=>.non|some k=>.int (k:Int)
def qD4(C:γ):VSp:=A5 λds d=>∃z n wr ps z' ks,ds=[Ad z C n wr ps,.l z' (O7 ks)]/\1<=n/\n<=64/\(∀k∈ks,Ah k)/\ks.length<=1000/\d=natD (qZ6 n wr ps ks)
theorem qE3(T:Txt K mg a):VFn P w K mg base 6 a.f18 a.d18 ["plan", "keys"] (qD4 a.C3):=by
 refine VFn.mk2 T.d18.F qo9 (wOf [true,true]) qb5 (by walk_at "l") (λ_ _ _ _ _ _ _ t=>⟨_,(Ab (qR9 N6 T.Cg (Ej (vaV (qb6 (Bh rfl (vnm 0) T.C5.cl T.C7)) Ac)) (Bc 2 qo9.nd) (Ak (sif (te (Aj T.d17 (qT5 T) qa0 (rm t) (vaN 0 (vaN 1 (vaN 2 Ac))))) (Ak (Av (emv 2))) Ay))) (Ak (Av (qa4 Be)))),λg Q u h=>?_⟩);obtain⟨d,⟨z,n,wr,c,o,f,rfl,v,E,A,B,rfl⟩,q⟩:=h;refine Aw [Ad z a.C3 n wr c,.l o (O7 f),.u] rfl ?_;refine qc0 (λg=>(∀i,i<n.toNat->qP0 n wr c f (i:Int)=false)/\∃d,g=[Ad z a.C3 n wr c,.l o (O7 f),d]) (λK p=>?_) ?_;{refine qU2 (A4 rfl qd4) (qN2 ⋯ ⋯) ?_;refine qe8 (λi g=>(∀j,j<i->qP0 n wr c f (j:Int)=false)/\∃d,g=[Ad z a.C3 n wr c,.l o (O7 f),d]) _ 0 _ ⟨λj r=>absurd r (zBw _),_,rfl⟩ ?_ ?_;{rintro j x C g ⟨k,d,rfl⟩ K p;rw[zAe] at k p;obtain⟨r,rfl⟩:=qI2 C;refine if_e (b:=qP0 n wr c f (j:Int)) (λQ u q=>Ik (x:=Ad z a.C3 n wr c) (y:=.l o (O7 f)) (w:=.int (j:Int)) rfl rfl rfl rfl rfl ⟨z,n,wr,c,o,f,_,rfl,v,A,B,rfl⟩ rfl q) (λs=>?_) (λs=>?_);{have e:qZ6 n wr c f=some j:=List.find?_range_eq_some.mpr ⟨s,zAj.mpr r,λi m=>by rw[k i m];rfl⟩;rw[e] at q;exact q};refine p _ ⟨λi m=>?_,_,rfl⟩;rcases zCr.mp m with h|rfl;{exact k i h};exact s};rintro g ⟨k,D⟩;refine p _ ⟨λi m=>k i ?_,D⟩;unfold By;rw[zA9,zB0,zAe];exact m};rintro g ⟨k,d,rfl⟩;have e:qZ6 n wr c f=none:=zCm.mpr λi m=>by rw[k i m];rfl
 rw[e] at q;exact q
theorem qo8:qa9 ["plan", "keys", "room"] ["plan", "keys"] (qa3 qk2):=by walk_at "s"
theorem _root_.Row.Kept.perm(KP:Kept n wr hm g S):((Lh n).filterMap g).Perm S:=by refine(Lq ?_ KP.h.1).mpr λk=>?_;{refine List.pairwise_filterMap.mpr (List.Pairwise.imp_of_mem (R:=(·≠·)) (λ{i j} a d f b l m c e=>?_) Ml);subst e;exact f (KP.o.inj i j b (zAj.mp a) (zAj.mp d) l c)};rw[KP.h.2 k,zC0];exact⟨λ⟨i,a,e⟩=>⟨i,zAj.mp a,e⟩,λ⟨i,a,e⟩=>⟨i,zAj.mpr a,e⟩⟩
def qN0(n:Int)(wr:Bool)(ps:Pr)(ks:List Int):Prop:=∀r:Nat,r<n.toNat->qP0 n wr ps ks (r:Int)=false
theorem qU9(h:qN0 n wr ps ks):qZ6 n wr ps ks=none:=zCm.mpr λi a=>by rw[h i a];rfl
theorem qaw0(h1:1<=n)(a:r<n.toNat):qP0 n wr ps ks (r:Int)=true↔Crowd n.toNat wr (O5 n ps) ks r:=by
 unfold qP0 Crowd;cases wr with
 |true=>simp only[if_true,zBm,zBh];lia|false=>
  have e:(ks.filter λk=>decide ((r:Int)<=qb4 n ps k))=ks.filter λk=>decide (r<=O5 n ps k):=by apply Lz;intro k _;have:=qO3 (ps:=ps) h1 k;apply zCd.mpr;lia
  simp only[Bool.false_eq_true,if_false,e,zBh];lia
theorem qN0.of(h1:1<=n)(h:∀q,¬Crowd n.toNat wr (O5 n ps) ks q):qN0 n wr ps ks:=λr a=>by
 cases e:qP0 n wr ps ks (r:Int) with
 |false=>rfl
 |true=>exact absurd ((qaw0 h1 a).mp e) (h r)
def qD2(C:γ):VSp:=A5 λds d=>∃z n wr ps z' ks,ds=[Ad z C n wr ps,.l z' (O7 ks)]/\1<=n/\n<=64/\(∀k∈ks,Ah k)/\ks.length<=1000/\qN0 n wr ps ks/\d=.non
theorem qE1(T:Txt K mg a):VFn P w K mg base 7 a.f19 a.d19 ["plan", "keys"] (qD2 a.C3):=by refine VFn.mk2 T.d19.F qo8 (wOf [true,true]) qb5 (by walk_at "l") (λ_ _ _ _ _ _ _ g=>⟨_,(Ab (An 2 qo8.nd (Aj T.d18 (qE3 T) qa0 (rm g) (vaN 0 (vaN 1 Ac)))) (Ak (sif (q2 (As qo5 (qb0 _)) qv3 (vnm 2) Be) (Ak qm5) Ay))),λr Q s h=>?_⟩);obtain⟨d,⟨z,n,wr,c,e,f,rfl,i,j,k,m,o,rfl⟩,q⟩:=h;refine Aw [Ad z a.C3 n wr c,.l e (O7 f),.u] rfl ?_;refine qb2 [Ad z a.C3 n wr c,.l e (O7 f),.non] (λK p=>?_) ?_;{exact qE9 (x:=Ad z a.C3 n wr c) (y:=.l e (O7 f)) (d:=.non) rfl rfl rfl ⟨z,n,wr,c,e,f,rfl,i,j,k,m,by rw[qU9 o];rfl⟩ rfl p};exact if_v (b:=false) rfl nofun λ_=>q
theorem qh5:qa9 ["plan", "rooms", "key", "came", "room", "held"] ["plan", "rooms", "key"] (qa3 qz7):=by walk_at "s"
def qab5(C:γ):VSp:=λds Q _=>∃z n wr ps g S key,ds=[Ad z C n wr ps,rL n g,.int key]/\1<=n/\n<=64/\Ah key/\(∀k∈S,Ah k)/\Kept n.toNat wr (O5 n ps) g S/\¬key∈S/\(∃e,Ja n.toNat wr (O5 n ps) g key e)/\∀came g',Kept n.toNat wr (O5 n ps) g' (S++[key])->Q (.l false came) [Ad z C n wr ps,rL n g',.int key]
theorem qG1(T:Txt K mg a):VFn P w K mg base 7 a.f20 a.d20 ["plan", "rooms", "key"] (qab5 a.C3):=by
 refine VFn.mk2 T.d20.F qh5 (wOf [true,true,false]) (by walk_at "m") (by walk_at "l") (λ_ _ _ _ _ _ _ j=>⟨_,(Ab (An 3 qh5.nd (qa4 (Bo qa6))) (Ab (An 4 qh5.nd (qm7 0 T.d9 T.C5.cl (qh9 T) qa0 (rm j) (vaN 2 Ac))) (Ab (qaf7 N6 (q2 (As qo5 (qb0 _)) qv3 (v2 (Aq qa8) Al (vnm 1) (vnm 4)) Be) (Ab (An 5 qh5.nd (qb6 (v2 (Aq qa8) Al (vnm 1) (vnm 4)))) (Ab (sif (te (qm7 0 T.d11 T.C5.cl (qj5 T) qa0 (rm j) (vaN 4 (vaN 2 (vaN 5 Ac))))) (Ab (Bb (Bp 3 qq3 N9 Oa Ob qc8 (vaV (qa4 (En (qa2 (vnm 2) (qa2 (vnm 4) qa6 rfl) rfl))) Ac))) (Ab (E8 (qb6 (vnm 2)) (Eh (vpn 1) (vnm 4))) (Ak (An 2 qh5.nd (qb6 (vnm 5)))))) Ay) (Ak (An 4 qh5.nd (qa4 (v2 (Ap qn5) qn4 (v2 (Ap qf9) qf8 (vnm 4) Af) (Bh rfl (vnm 0) T.C5.cl T.C7)))))))) (Ab (Bb (Bp 3 qq3 N9 Oa Ob qc8 (vaV (qa4 (En (qa2 (vnm 2) (qa2 (vnm 4) qa6 rfl) rfl))) Ac))) (Ab (E8 (qb6 (vnm 2)) (Eh (vpn 1) (vnm 4))) (Ak (Av (emv 3)))))))),λo Q J h=>?_⟩);obtain⟨z,n,wr,f,g,S,key,rfl,u,X,s,L,KP,A,⟨e,Fr⟩,q⟩:=h;have M:=Eo (ps:=f) u key;have H:∀x∈S++[key],Ah x:=λx v=>by rcases zAb.mp v with h|h;{exact L x h};rw[zA8.mp h];exact s
 have E:(S++[key]).Nodup:=zBg.mpr ⟨KP.h.1,(by simp),λx v y B e=>A (by rw[<-zA8.mp B,<-e];exact v)⟩;refine Aw [Ad z a.C3 n wr f,rL n g,.int key,.u,.u,.u] rfl ?_;refine qb2 [Ad z a.C3 n wr f,rL n g,.int key,.l false [],.u,.u] (λK i=>i) ?_;refine qb2 [Ad z a.C3 n wr f,rL n g,.int key,.l false [],.int (O5 n f key:Nat),.u] (λK i=>?_) ?_;{exact qN4 (p:=Ad z a.C3 n wr f) (x:=.int key) (d:=.int (O5 n f key:Nat)) rfl (qf6 rfl) rfl rfl ⟨z,n,wr,f,key,rfl,u,s,by rw[qO3 u]⟩ rfl i};refine qc0 (λo=>∃g2 c r came t,o=[Ad z a.C3 n wr f,rL n g2,.int c,.l false came,.int (r:Nat),t]/\Row.Walk n.toNat wr (O5 n f) (S++[key]) key e g2 c r/\g2 r=none/\came.length<=64) (λK i=>?_) ?_;{have W0:=KP.start A Fr;refine qQ2 (λm o=>∃g2 c r came t,o=[Ad z a.C3 n wr f,rL n g2,.int c,.l false came,.int (r:Nat),t]/\Row.Walk n.toNat wr (O5 n f) (S++[key]) key e g2 c r/\m=Aa n.toNat (O5 n f key) e-Aa n.toNat (O5 n f key) r/\came.length+m<=64) _ ⟨g,key,O5 n f key,[],_,rfl,W0,rfl,by have:=qi5 Fr.1 M;show 0+_<=64;lia⟩ ?_;rintro m o ⟨g2,c,r,came,t,rfl,W,rfl,N⟩ K2 G;have j:=W.hr;cases k:g2 r with|none=>refine qi1 (b:=false) (Ag (Ag rfl rfl (Du j)) rfl (by rw[k];rfl)) ?_;exact i _ ⟨g2,c,r,came,t,rfl,W,k,⋯⟩|some y=>refine qi1 (b:=true) (Ag (Ag rfl rfl (Du j)) rfl (by rw[k];rfl)) ?_;have v:wr=false->O5 n f c<=r:=λh=>(W.ln h).2.1;have B:wr=false->O5 n f y<=r:=λh=>(W.ln h).2.2 r y j k;have O:Ah c:=H c ((W.all c).mpr (.inl rfl));have R:Ah y:=H y ((W.all y).mpr (.inr ⟨r,j,k⟩));have Y:=W.lt k;have I:=W.nx k;refine Bq rfl ?_;refine qb2 [Ad z a.C3 n wr f,rL n g2,.int c,.l false came,.int (r:Nat),.int y] (λK i=>?_) ?_;{exact qL5 (d:=.int y) (Ag rfl rfl (by rw[Du j,k];rfl)) rfl i};refine qc0 (λo=>∃g3 C came3,o=[Ad z a.C3 n wr f,rL n g3,.int C,.l false came3,.int (r:Nat),.int y]/\Row.Walk n.toNat wr (O5 n f) (S++[key]) key e g3 C (Row.next n.toNat r)/\came3.length<=came.length+1) (λK i=>?_) ?_;{refine if_e (b:=qm4 n wr f (r:Nat) c y) (λQ J q=>qbc2 (p:=Ad z a.C3 n wr f) (x:=.int (r:Nat)) (y:=.int c) (w:=.int y) rfl (qf6 rfl) rfl rfl rfl rfl rfl rfl ⟨z,n,wr,f,(r:Nat),c,y,rfl,u,⋯,⋯,O,R,rfl⟩ rfl q) (λD=>?_) (λD=>?_);{have U:=(qK4 u j v B).mp D;refine qb2 [Ad z a.C3 n wr f,rL n g2,.int c,.l false (came++[.q [.int c,.int (r:Nat)]]),.int (r:Nat),.int y] (λK i=>?_) ?_;{exact qP7 (ys:=came) (d:=.q [.int c,.int (r:Nat)]) rfl rfl (by show came.length<1000000;lia) i};refine qb2 [Ad z a.C3 n wr f,rL n (Row.set g2 r c),.int c,.l false (came++[.q [.int c,.int (r:Nat)]]),.int (r:Nat),.int y] (λK i=>?_) ?_;{refine qK9 (d:=.int c) (ys:=O8 n.toNat g2) rfl rfl rfl rfl (Il j) ?_;rw[qH7];exact i};exact qL5 (d:=.int y) rfl rfl (i _ ⟨Row.set g2 r c,y,_,rfl,W.swap k U,by rw[zA6];exact zA2 _⟩)};exact i _ ⟨g2,c,came,rfl,W.on k (λh=>by rw[(qK4 u j v B).mpr h] at D;cases D),⋯⟩};rintro o ⟨g3,C,came3,rfl,W3,V⟩;refine qn0 (d:=.int (Row.next n.toNat r:Nat)) (Ag (Ag rfl rfl rfl) (A4 rfl qd4) (by rw[Ed ⋯,qaG9 u j])) ?_;exact G _ _ (by rw[I];lia) ⟨g3,C,_,came3,_,rfl,W3,rfl,by rw[I];lia⟩};rintro o ⟨g2,c,r,came,t,rfl,W,k,N⟩;have j:=W.hr;refine qb2 [Ad z a.C3 n wr f,rL n g2,.int c,.l false (came++[.q [.int c,.int (r:Nat)]]),.int (r:Nat),t] (λK i=>?_) ?_;{exact qP7 (ys:=came) (d:=.q [.int c,.int (r:Nat)]) rfl rfl (by show came.length<1000000;lia) i};refine qb2 [Ad z a.C3 n wr f,rL n (Row.set g2 r c),.int c,.l false (came++[.q [.int c,.int (r:Nat)]]),.int (r:Nat),t] (λK i=>?_) ?_;{refine qK9 (d:=.int c) (ys:=O8 n.toNat g2) rfl rfl rfl rfl (Il j) ?_;rw[qH7];exact i};exact q _ _ (W.done E k)
theorem qz2:qa9 ["self"] ["self"] (qa3 qi8):=by walk_at "s"
noncomputable def Go(y:D):Option D:=match y with|.int k=>some (.int k)|_=>none
theorem qam4(N:Nat)(g:Nat->Option Int):(O8 N g).filterMap Go=O7 ((Lh N).filterMap g):=by unfold O8 O7;rw[M8,List.map_filterMap];refine congrArg (λf=>No f (Lh N)) (funext λi=>?_);show Go (At (g i))=(g i).map D.int;cases g i<;>rfl
def qy6(C CP:γ):VSp:=A5 λds d=>∃zr n wr ps g dn,ds=[Am zr C CP n wr ps g dn]/\n<=64/\d=.l false (O7 ((Lh n.toNat).filterMap g))
theorem qf3(T:Txt K mg a):VFn P w K mg base 1 a.f26 a.d26 ["self"] (qy6 a.C4 a.C3):=by
 refine VFn.mk2 T.d26.F qz2 (wOf [true]) qb5 (by walk_at "l") (λ_ _ _ _ _ _ _ u=>⟨_,(Ak (Av (eAlt (ecP (NY:=["key"]) (src:=[none]) (Er rfl (vpn 0) T.C6.cl T.Ca) (blk (λi C j H0 m=>(Bc 0 (show (["key"]:List Str).Nodup by decide +kernel))) (λi C j H0 m=>(Fd (q2 (As qo5 (qb0 _)) qv3 (vnm 0) Be))) (λi C j H0 m=>(qb6 (vnm 0))))) (ecL (NY:=["key"]) (src:=[none]) (qb6 (Bh rfl (vnm 0) T.C6.cl T.Ca)) (blk (λi C j H0 m=>(Bc 0 (show (["key"]:List Str).Nodup by decide +kernel))) (λi C j H0 m=>(Fd (q2 (As qo5 (qb0 _)) qv3 (vnm 0) Be))) (λi C j H0 m=>(qb6 (vnm 0)))))))),λv Q x h=>?_⟩);obtain⟨d,⟨r,n,wr,s,g,t,rfl,z,rfl⟩,q⟩:=h;refine Aw [Am r a.C4 a.C3 n wr s g t] rfl ?_;have step:∀(y:D),y∈O8 n.toNat g->∀(d:D)(c:Ds)(R:Ds->Ds->Prop),(∀ι',(∃d,ι'=[d])->R (c++(Go y).toList) ι')->c.length<big->gNm 0 y [d] λι1=>ttV (f2 gIsn (rdN 0) (kC .non)) ι1 (λb ι2=>if b=true then Dk (rdN 0) ι2 (λd ι3=>c.length<big/\R (c++[d]) ι3) (λ_ _=>False) else R c ι2) (λ_ _=>False):=λy o d c R p f=>by have this:=p [y] ⟨_,rfl⟩;refine qj9 ?_;rcases qaN7 o with rfl|⟨k,rfl⟩;{have this:R (c++[]) _:=this;rw[zAg] at this;exact qi1 (b:=false) (Ag rfl rfl rfl) (Fe ∅ this)};exact qi1 (b:=true) (Ag rfl rfl rfl) (Bq rfl (qx7 (d:=.int k) rfl rfl ⟨f,this⟩))
 cases r with|false=>refine qi2 (.inl (qa1 (a:=(0,[1])) (by show (D.fidx a.C4 "held" (rA a n wr s g t)).map (λn=>(0,[n]))=_;rw[qt2];rfl) (qa1 (a:=D.l false (O8 n.toNat g)) rfl (qa1 (a:=O8 n.toNat g) rfl ⟨qC1 _ _,λw=>?_⟩))));refine qm3 (λι=>∃d,ι=[d]) Go _ [] _ (by show 0+_<1000000;rw[qj7];lia) ⟨_,rfl⟩ (λy o ι c ⟨d,e⟩ R p f=>e ▸ step y o d c R p f) ?_;rintro ι ⟨d,rfl⟩;rw[qam4,zB8];exact qa1 (qbf5 rfl) q|true=>refine qi2 (.inr (qx7 (d:=.l true (O8 n.toNat g)) (A4 rfl qs3) rfl (qa1 (a:=O8 n.toNat g) rfl ⟨qC1 _ _,?_⟩)));refine qm3 (λι=>∃d,ι=[d]) Go _ [] _ (by show 0+_<1000000;rw[qj7];lia) ⟨_,rfl⟩ (λy o ι c ⟨d,e⟩ R p f=>e ▸ step y o d c R p f) ?_;rintro ι ⟨d,rfl⟩;rw[qam4,zB8];exact q
theorem qr9:qa9 ["self", "key"] ["self", "key"] (qa3 qn2):=by walk_at "s"
noncomputable def Gq:Option Int->V|some k=>.int k|none=>.non
theorem qU4(N:Nat)(g:Nat->Option Int):flats (O8 N g)=some ((Lh N).map λi=>Gq (g i)):=by
 have:∀l:List Nat,flats (l.map λi=>At (g i))=some (l.map λi=>Gq (g i)):=λl=>by induction l with|nil=>rfl|cons a l b=>show ((At (g a)).flat.bind λv=>(flats (l.map λi=>At (g i))).bind λc=>some (v::c))=_;rw[b,zAz];cases g a<;>rfl
 exact this _
noncomputable def Br(N:Nat)(g:Nat->Option Int)(k:Int):Option Nat:=(Lh N).findIdx? λi=>decide (g i=some k)
def Dg(N:Nat)(g:Nat->Option Int)(k:Int):D:=match Br N g k with|some i=>.int (i:Nat)|none=>.non
theorem qaB5:eqV (Gq o) (.int k)=decide (o=some k):=by cases o with|none=>rfl|some a=>show decide (a=k)=_;exact zCd.mpr ⟨λh=>by rw[h],λh=>N5 h⟩
theorem qan4{k:Int}{g:Nat->Option Int}:∀l:List Nat,Dh (.int k) (l.map λi=>Gq (g i))=l.findIdx? λi=>decide (g i=some k)|[]=>rfl|a::l=>by show (if eqV (Gq (g a)) (.int k)=true then some 0 else (Dh (.int k) (l.map λi=>Gq (g i))).map (· + 1))=_;rw[qaB5,qan4 l,zCx]
theorem qaT6{k:Int}{g:Nat->Option Int}:∀l:List Nat,inV (.int k) (l.map λi=>Gq (g i))=(l.findIdx? λi=>decide (g i=some k)).isSome|[]=>rfl|a::l=>by have b:=qaT6 (k:=k) (g:=g) l;unfold inV at b ⊢;rw[zAz,zCu,b,zCx];have e:=qaB5 (o:=g a) (k:=k);cases h:decide (g a=some k) with|true=>rw[h] at e;simp[e]|false=>rw[h] at e;simp[e]
theorem qas4{g:Nat->Option Int}{k:Int}(h:∀i,i<N->g i≠some k):Dg N g k=.non:=by have:Br N g k=none:=List.findIdx?_eq_none_iff.mpr λi a=>zAy (h i (zAj.mp a));unfold Dg;rw[this]
theorem qW5{g:Nat->Option Int}{k:Int}(hi:i<N)(e:g i=some k):∃j:Nat,Dg N g k=.int (j:Nat):=by unfold Dg;cases h:Br N g k with|some j=>exact⟨j,rfl⟩|none=>have:=List.findIdx?_eq_none_iff.mp h i (zAj.mpr hi);rw[zAf e] at this;cases this
def qH3(C CP:γ):VSp:=A5 λds d=>∃zr n wr ps g dn k,ds=[Am zr C CP n wr ps g dn,.int k]/\Ah k/\d=Dg n.toNat g k
theorem ql1(T:Txt K mg a):VFn P w K mg base 4 a.f28 a.d28 ["self", "key"] (qH3 a.C4 a.C3):=by
 refine VFn.mk2 T.d28.F qr9 (wOf [true,true]) qb5 (by walk_at "l") (λ_ _ _ _ _ _ _ r=>⟨_,(Ab (sif (B8 (te (Aj T.d3 (qd0 T) qa0 (rm r) (vaN 1 Ac)))) (Ak qm5) Ay) (Ak (Av (eif (q2 (As qx9 (by with_unfolding_all rfl)) Ge (vnm 1) (Bh rfl (vnm 0) T.C6.cl T.Ca)) (qa4 (vbm qaQ6 N9 Oe Oh qT8 (Bh rfl (vnm 0) T.C6.cl T.Ca) (vnm 1) qaA9)) (qa4 Be))))),λu Q s h=>?_⟩);obtain⟨d,⟨f,n,wr,o,g,p,k,rfl,t,rfl⟩,q⟩:=h;refine Aw [Am f a.C4 a.C3 n wr o g p,.int k] rfl ?_;refine Fw (λQ s q=>qL9 (x:=.int k) (d:=.bl true) rfl (qat5 t) rfl q) (qi2 ?_);have m:f2 (Jg false) (rdN 1) (f1 (D.fld a.C4 "held") (rdN 0)) [Am f a.C4 a.C3 n wr o g p,.int k]=some (.bl (Br n.toNat g k).isSome):=by refine Ag (x:=.int k) (y:=.l f (O8 n.toNat g)) rfl (A4 rfl qs3) ?_;show ((flats (O8 n.toNat g)).bind λb=>some (D.bl (if false=true then !inV (.int k) b else inV (.int k) b)))=_;rw[qU4];show some (D.bl (inV (.int k) _))=_;rw[qaT6];rfl
 refine Fx m (λh=>?_) λh=>?_;{obtain⟨i,c⟩:=zB3.mp h;refine qm6 (d:=.int (i:Nat)) (Ag (A4 rfl qs3) rfl ?_) ?_;{show ((some (V.int k)).bind λv=>(flats (O8 n.toNat g)).bind λb=>(Dh v b).map λj=>D.int (j:Nat))=_;rw[qU4];show (Dh (.int k) _).map _=_;rw[qan4];show (Br n.toNat g k).map _=_;rw[c];rfl};unfold Dg at q;rw[c] at q;exact q};refine qm6 (d:=.non) rfl ?_;have c:Br n.toNat g k=none:=by cases e:Br n.toNat g k with|none=>rfl|some i=>rw[e] at h;cases h
 unfold Dg at q;rw[c] at q;exact q
theorem qah1:qa9 ["self", "key"] ["self", "key"] (qa3 qI0):=by walk_at "s"
theorem qJ8:D.fidx C "done" (Am false C CP n wr ps g dn)=some 2:=by show (if C=C then List.findIdx? (λq:Str×D=>("done" : Str)==q.1) [("plan",Ad true CP n wr ps),("held",rL n g),("done",.l false dn)] else none)=_;rw[if_pos rfl];rfl
def qag1(C CP:γ):VSp:=λds Q _=>∃n wr ps g dn S k,ds=[Am false C CP n wr ps g dn,.int k]/\1<=n/\n<=64/\Ah k/\(∀x∈S,Ah x)/\Kept n.toNat wr (O5 n ps) g S/\¬k∈S/\(∀q,¬Crowd n.toNat wr (O5 n ps) (S++[k]) q)/\dn.length<=1000/\∀came g',Kept n.toNat wr (O5 n ps) g' (S++[k])->Q (.l false came) [Am false C CP n wr ps g' (dn++[.q [.str "put",.int k]]),.int k]
theorem qM8(T:Txt K mg a):VFn P w K mg base 8 a.f29 a.d29 ["self", "key"] (qag1 a.C4 a.C3):=by
 refine VFn.mk2 T.d29.F qah1 (wOf [true,true]) (by walk_at "m") (by walk_at "l") (λ_ _ _ _ _ _ _ r=>⟨_,(Ab (sif (q2v (A7 qo5 (qb0 _)) (As qo5 (qb0 _)) qv3 (qm7 0 T.d28 T.C6.cl (ql1 T) qa0 (rm r) (vaN 1 Ac)) Be) (Ak qm5) Ay) (Ab (Bb (Aj T.d19 (qE1 T) qa0 (rm r) (vaV (qb6 (Bh rfl (vnm 0) T.C6.cl T.C9)) (vaV (e2v (Ap qf9) qf8 (qt3 0 T.d26 T.C6.cl (qf3 T) qa0 (rm r)) (Bo (qa2 (vnm 1) qa6 rfl))) Ac)))) (Ab (Bb (emutP qq3 N9 Oa Ob qc8 (Er rfl (vpn 0) T.C6.cl T.Cc) (vaV (qa4 (En (qa2 E4 (qa2 (vnm 1) qa6 rfl) rfl))) Ac))) (Ak (Av (Aj T.d20 (qG1 T) qa0 (rm r) (vaV (qb6 (Bh rfl (vnm 0) T.C6.cl T.C9)) (vaB (Er rfl (vpn 0) T.C6.cl T.Ca) (vaN 1 Ac))))))))),λL Q M h=>?_⟩);obtain⟨n,wr,b,g,f,S,k,rfl,s,t,u,A,KP,j,C,H,q⟩:=h;have E:=KP.perm;have N:((Lh n.toNat).filterMap g).length<=64:=by have:=zBz g (Lh n.toNat);rw[zB0] at this;lia
 refine Aw [rA a n wr b g f,.int k] rfl ?_;refine qg7 false (λQ q=>qI4 ?_) nofun λ_=>?_
 {refine qN4 (p:=rA a n wr b g f) (x:=.int k) (d:=.non) rfl (qh3 rfl) rfl rfl ⟨false,n,wr,b,g,f,k,rfl,u,(qas4 λi I e=>j ((KP.h.2 k).mpr ⟨i,I,e⟩)).symm⟩ rfl ?_;exact qa1 (a:=D.bl false) rfl (qa1 (a:=false) rfl q)};refine qb2 [rA a n wr b g f,.int k] (λK v=>qe5 (qd6 ?_)) ?_;{refine qb9 (y:=Ad true a.C3 n wr b) (A4 rfl qf2) rfl (qc9 (qK8 ?_));refine qN5 (p:=rA a n wr b g f) (d:=kL ((Lh n.toNat).filterMap g)) rfl (qh3 rfl) ⟨false,n,wr,b,g,f,rfl,t,rfl⟩ rfl ?_;refine qa1 (a:=D.l false (O7 ((Lh n.toNat).filterMap g++[k]))) (qV5 (z:=false) (z':=false) (B:=[k]) (by show _+1<=1000;lia)) (qb7 ?_);refine⟨_,⟨true,n,wr,b,false,_,rfl,s,t,λx J=>?_,by rw[zA6];show _+1<=1000;lia,qN0.of s λq c=>C q (c.perm (E.append_right [k])),rfl⟩,v⟩;rcases zAb.mp J with h|h;{exact A x (E.subset h)};rw[zA8.mp h];exact u};refine qb2 [rA a n wr b g (f++[.q [.str "put",.int k]]),.int k] (λK v=>qe5 ?_) ?_;{refine qak2 (i:=0) (p:=[2]) (ys:=f) (d0:=rA a n wr b g f) (by show (D.fidx a.C4 "done" (rA a n wr b g f)).map (λn=>(0,[n]))=_;rw[qJ8];rfl) rfl rfl ?_;exact qj1 (y:=.q [.str "put",.int k]) rfl (qb7 (qa1 (a:=(f++[D.q [.str "put",.int k]],D.non)) (if_pos (show f.length<big by unfold big;lia)) v))};generalize f++[.q [.str "put",.int k]]=o at q ⊢;refine qi2 (qd6 (qb9 (y:=Ad true a.C3 n wr b) (A4 rfl qf2) rfl ?_));refine qa1 (a:=(0,[1])) (by show (D.fidx a.C4 "held" (rA a n wr b g o)).map (λn=>(0,[n]))=_;rw[qt2];rfl) (qa1 (a:=D.l false (O8 n.toNat g)) rfl ⟨rfl,λw=>?_⟩);refine qc3 (x:=.int k) rfl (qb7 (qa1 (a:=D.int k) rfl ?_));refine⟨true,n,wr,b,g,S,k,rfl,s,t,u,A,KP,j,?_,λcame G K'=>?_⟩;{by_cases h:∃e,Ja n.toNat wr (O5 n b) g k e;{exact h};obtain⟨q,c⟩:=KP.crowd λe z=>h ⟨e,z⟩;exact absurd c (C q)};refine qa1 (a:=[rA a n wr b G o,.int k]) ?_ (q came G K');show Au (.pl 0 [1] w::_) _ _=_;rw[qn9 rfl];rfl
theorem qaN4:qa9 ["_law_script"] ["_law_script"] (qa3 qaE3):=by walk_at "s"
theorem qaR2(T:Txt K mg a):Ee P w K mg base CX0 1 a.f37 a.d37 ["_law_script"] (qaY7 K):=by
 refine T.d37.F.ok qaN4 (λJ H Q E h=>?_) (λL A outer s H J Q E O h=>?_);{obtain⟨l,d,rfl,_⟩:=h;rfl};obtain⟨l,d,rfl,M,R,k⟩:=h;refine⟨_,(qA5 (Hr (qaF6 (qc4 qM0 (qc4 qM0 (qc4 qM0 (qc4 (qA7 ["_law_cell"] [none] (qA6 (qT1 qag5 (pv 0) qai3 (qai2 qM0))) (λC B H0 G=>(gnm 0 (show (["_law_cell"]:List Str).Nodup by decide +kernel))) (λC B H0 G=>qaP6) (λC B H0 G=>(cbi qaL2 T.D5 (qc4 (pv 0) qk9)))) qk9))))))),?_⟩;refine⟨_,rfl,_,rfl,l,_,rfl,M,λc N=>?_⟩;have ec:Ga (d.map V.int) none (some 63)=d.map V.int:=by unfold Ga;have t:HT.sIx (d.map V.int).length (d.map V.int).length (some (63:Int))=min 63 (d.map V.int).length:=HT.qah4 _ _ 63;rw[t,HT.qS8,Mg,Nat.sub_zero];apply zAu;rw[zA9];lia
 rw[ec];refine⟨c,rfl,⟨_,SqL.of qc5⟩,λD r=>?_⟩;have I:D≠c:=λz=>by rw[z,qc5] at r;cases r
 have g:H D=none:=by rw[qd1 I] at r;exact r
 refine qZ8 (K:=K) (xs:=d.map V.int) (λi σ H1=>∃v,σ=[v]/\H1=upd (upd H c (.l (d.map V.int))) D (.l (((d.take i).map λn=>if n<0 then -n else n).map V.int))) ⟨none,rfl,rfl⟩ ?_ ?_ ?_;{rintro i σ H1 _ ⟨v,rfl,rfl⟩;refine SqL.of ?_;rw[qd1 I.symm,qc5]}
 .rintro i x σ H1 j ⟨v,rfl,rfl⟩;obtain⟨n,u,rfl⟩:∃n,d[i]?=some n/\V.int n=x:=by rw[zB5] at j;cases e:d[i]? with|none=>rw[e] at j;cases j|some z=>rw[e] at j;exact⟨z,rfl,N5 j⟩
  refine⟨_,rfl,_,rfl,_,qc5,?_,_,rfl,?_⟩;{rw[zA9,zA9,zBa];exact qas2 ⋯};rw[qaM0];congr 1;rw[zBp,u];simp
 rintro σ H1 ⟨v,rfl,rfl⟩;rw[zA9,zAu (zA2 _)];refine⟨by show 4<=Kc;decide,λp f=>?_⟩;have q:p≠D:=λz=>by rw[z,qc5] at f;cases f
 rw[qd1 q] at f;have y:p≠c:=λz=>by rw[z,qc5] at f;cases f
 rw[qd1 y] at f;refine k p D _ f g (λb o e=>?_) ⟨0,1234567891,0,d.map λn=>if n<0 then -n else n,qc5,?_,∅,∅,∅,∅,?_⟩;{rw[qd1 (qf4 e f),qd1 (qf4 e g),qd1 (qf4 e N)];exact e};{rw[qd1 q.symm,qc5]};intro n u;obtain⟨m,_,rfl⟩:=zBc.mp u;split<;>lia
theorem qu3:qa9 ["_law_bag_here", "_law_many", "_law_cell", "_law_value", "_law_first", "_law_second"] ["_law_bag_here", "_law_many"] (qa3 qah2):=by walk_at "s"
theorem qb3(T:Txt K mg a):VFn P w K mg base 1 a.f38 a.d38 ["_law_bag_here", "_law_many"] qH4:=by refine VFn.mk' T.d38.F qu3 (wOf [true,true]) (λr Q Q' u J L _ h=>by obtain⟨b,m,g,e,H,A,M,q⟩:=h;exact⟨b,m,g,e,H,A,M,λv N O R B=>L _ _ (q v N O R B)⟩) (λr Q u ⟨b,m,g,e,_⟩=>by rw[e];rfl) (λr Q u h=>by obtain⟨b,m,g,e,⟨x,y,z,S,_⟩,_⟩:=h;rw[e,S];rfl) (λ_ _ _ _ _ _ _ U=>⟨_,(Ab (sif (q2 (As (qj4 U.u64) (qb0 _)) Bl (v2 (Aq qa8) Al (vnm 0) Af) Af) (Ab (An 2 qu3.nd (qa4 Af)) (Ab (sif (q2 (As Iv (qb0 _)) Je (v2 (Aq qa8) Al (vnm 0) Af) (vbi qt5 qt4.ops T.Cj (qa2 (v2 (Aq qa8) Al (vnm 0) Af) qa6 rfl))) (Ak (An 2 qu3.nd (qb6 (v2 (Aq qa8) Al (v2 (Aq qa8) Al (vnm 0) Af) (v2 (Aq qa8) Al (vnm 0) Af))))) Ay) (Ab (saug (vpn 0) Af Af qbd3) (Ab (sif (q2 (As G8 (qb0 _)) Jf (vnm 2) Af) (Ak (E8 (qb6 (vnm 2)) (Eh (vpn 0) Af))) Ay) (Ak (E8 (qa4 (v2 (Ap qn5) qn4 (v2 (Ap qf9) qf8 (v2 (Ap qf9) qf8 (v2 (Ap qB1) qB0 (v2 (Aq qa8) Al (vnm 0) Af) Af) (v2 (Ap qn5) qn4 (vnm 2) Af)) (v2 (Ap qB1) qB0 Af (v2 (Aq qa8) Al (vnm 0) Af))) Af)) (Eh (vpn 0) Af))))))) Ay) (Ab (sif (q2 (As Bs (qb0 _)) Db (v2 (Aq qa8) Al (vnm 0) Af) Af) (Ab (An 3 qu3.nd (qa4 (v2 (Ap qn5) qn4 (v2 (Aq qa8) Al (vnm 0) Af) (vnm 1)))) (Ab (E8 (qa4 (v2 (Ap qT2) qaG2 (v2 (Aq qa8) Al (vnm 0) Af) (vnm 1))) (Eh (vpn 0) Af)) (Ak (Av (emv 3))))) Ay) (Ab (An 4 qu3.nd (qa4 (v2 (Ap qn5) qn4 (v2 (Ap qB1) qB0 (v2 (Ap qf9) qf8 (v2 (Aq qa8) Al (vnm 0) Af) Af) Af) Af))) (Ab (An 5 qu3.nd (qa4 (v2 (Ap qn5) qn4 (v2 (Ap qB1) qB0 (v2 (Ap qn5) qn4 (v2 (Ap qB1) qB0 (vnm 4) (vnm 4)) Af) Af) Af))) (Ab (sif (q2 (As Bs (qb0 _)) Db (vnm 1) Af) (Ak (Av (qa4 (v2 (Ap qn5) qn4 (v2 (Ap qf9) qf8 (v2 (Ap qB1) qB0 (vnm 5) Af) (vnm 4)) (vnm 1))))) Ay) (Ak (Av (qa4 (v2 (Ap qn5) qn4 (v2 (Ap qT2) qaG2 (vnm 5) Af) (vnm 1)))))))))),λr Q u h=>?_⟩);obtain⟨b,m,g,rfl,⟨x,y,z,rfl,B⟩,p,C,k⟩:=h;refine Aw [bagD x y z g,.int m,.u,.u,.u,.u] rfl ?_;refine qc0 (λr=>∃j o t c,r=[bagD j o t g,.int m,c,.u,.u,.u]/\Bg j o t g) (λK l=>?_) ?_;{refine if_v (b:=decide (x=0)) rfl (λ_=>?_) (λ_=>l _ ⟨x,y,z,_,rfl,B⟩);refine qb2 [bagD x y z g,.int m,.int 0,.u,.u,.u] (λK l=>l) ?_;refine qc0 (λr=>∃c:Int,0<=c/\r=[bagD x y z g,.int m,.int c,.u,.u,.u]) (λK l=>?_) ?_;{refine if_v (b:=decide (z<(((g.map D.int).length:Nat):Int))) rfl (λA=>?_) (λ_=>l _ ⟨0,∅,rfl⟩);obtain⟨v,V,e⟩:=qP6 (xs:=g.map D.int) (i:=z) B.z0 (zAd A);obtain⟨c,E,rfl⟩:=zBc.mp V;exact qL5 (Ag (y:=.int z) (x:=.l false (g.map .int)) rfl rfl e) rfl (l _ ⟨c,B.nn c E,rfl⟩)};rintro r ⟨c,E,rfl⟩;refine qb2 [bagD x y (z+1) g,.int m,.int c,.u,.u,.u] (λK l=>?_) ?_;{exact qbf7 (k:=2) (x:=z) (y:=1) (ys:=[.int x,.int y,.int z,.l false (g.map .int)]) rfl rfl ∅ rfl rfl l};refine qc0 (λr=>∃j:Int,0<=j/\r=[bagD j y (z+1) g,.int m,.int c,.u,.u,.u]) (λK l=>?_) ?_;{refine if_v (b:=decide (1000000000000000000<=c)) rfl (λ_=>?_) (λ_=>l _ ⟨x,B.x0,rfl⟩);exact qK9 (d:=.int c) (ys:=[.int x,.int y,.int (z+1),.l false (g.map .int)]) (k:=0) (n:=0) rfl rfl rfl rfl rfl (l _ ⟨c,E,rfl⟩)};rintro r ⟨j,G,rfl⟩;have W:f2 Ia (f2 Gc (f2 Gc (f2 F6 (f2 gIx (rdN 0) (kC (.int 1))) (kC (.int 48271))) (f2 Ia (rdN 2) (kC (.int 2147483647)))) (f2 F6 (kC (.int 7919)) (f2 gIx (rdN 0) (kC (.int 2))))) (kC (.int 2147483647)) [bagD j y (z+1) g,.int m,.int c,.u,.u,.u]=some (.int ((y*48271+c%2147483647+7919*(z+1))%2147483647)):=Ag (Ag (Ag (Ag (x:=.int y) rfl rfl (Jy ∅)) (Ag rfl rfl (Ed ∅)) rfl) (Ag (y:=.int (z+1)) rfl rfl (mulL ∅)) rfl) rfl (Ed ∅);exact qW1 (ys:=[.int j,.int y,.int (z+1),.l false (g.map .int)]) (k:=1) (n:=1) W rfl rfl rfl (l _ ⟨j,_,z+1,_,rfl,G,zCq _ ∅,zBy _ ∅,by have:=B.z0;lia,B.nn⟩)};rintro r ⟨j,o,t,c,rfl,B'⟩;refine qj8 (decide (0<j)) rfl (λH=>?_) λ_=>?_;{refine qb2 [bagD j o t g,.int m,c,.int (j%m),.u,.u] (λK l=>qa1 (Ag (x:=.int j) rfl rfl (Ed p)) l) ?_;refine qb2 [bagD (j/m) o t g,.int m,c,.int (j%m),.u,.u] (λK l=>?_) ?_;{exact qW1 (ys:=[.int j,.int o,.int t,.l false (g.map .int)]) (k:=0) (n:=0) (Ag (x:=.int j) rfl rfl (qaK3 p C)) rfl rfl rfl l};exact k (j%m) _ (zCq _ ⋯) (zBy _ p) ⟨_,_,_,rfl,Int.ediv_nonneg B'.x0 ⋯,B'.y0,B'.y1,B'.z0,B'.nn⟩};have X:0<=(o+1)*39373%1000000007:=zCq _ ∅;have f1:(o+1)*39373%1000000007<1000000007:=zBy _ ∅;refine qb2 [bagD j o t g,.int m,c,.u,.int ((o+1)*39373%1000000007),.u] (λK l=>qa1 (Ag (Ag (Ag (x:=.int o) rfl rfl rfl) rfl (Jy ∅)) rfl (Ed ∅)) l) ?_;generalize (o+1)*39373%1000000007=f at X f1;refine qb2 [bagD j o t g,.int m,c,.u,.int f,.int (f*f%998244353*30011%998244353)] (λK l=>qa1 (Ag (Ag (Ag (Ag rfl rfl (mulL (qR7 ⋯ ⋯))) rfl (Ed ∅)) rfl (Jy ∅)) rfl (Ed ∅)) l) ?_;generalize f*f%998244353*30011%998244353=s;have I:∀v,Q (.int (v%m)) [bagD j o t g,.int m]:=λv=>k _ _ (zCq _ ⋯) (zBy _ p) ⟨_,_,_,rfl,B'⟩;refine qj8 (decide (1000000<m)) rfl (λ_=>?_) λ_=>?_;{exact qg5 _ (Ag (Ag (Ag rfl rfl (Jy ∅)) rfl rfl) rfl (Ed p)) (I _)};exact qg5 _ (Ag (Ag rfl rfl (qaK3 ∅ ∅)) rfl (Ed p)) (I _)
theorem qc7:qa9 ["_law_bag_here", "_law_size", "_law_many", "_law_way", "_law_one", "_law_other", "_law_homes", "_law_k", "_law_some"] ["_law_bag_here", "_law_size", "_law_many"] (qa3 qk7):=by walk_at "s"
def qD7:VSp:=λds Q _=>∃b n m ns,ds=[b,.int n,.int m]/\Ph ns b/\1<=n/\n<=64/\0<=m/\m<=100/\∀c a,Ph ns c->(∀h∈a,0<=h/\h<n)->a.length=m.toNat->Q (kL a) [c,.int n,.u]
theorem qaY1{x y i:Int}(c:0<=i)(h1:i<2){P:Int->Prop}(d:P x)(e:P y):∃v,atI [D.int x,D.int y] i=some (.int v)/\P v:=by obtain⟨v,a,b⟩:=qP6 (xs:=[D.int x,D.int y]) c h1;simp only[zAi,zBk,or_false] at a;rcases a with rfl|rfl;{exact⟨x,b,d⟩};exact⟨y,b,e⟩
theorem qY6{x y z w i:Int}(c:0<=i)(h1:i<4){P:Int->Prop}(d:P x)(e:P y)(f:P z)(g:P w):∃v,atI [D.int x,D.int y,D.int z,D.int w] i=some (.int v)/\P v:=by obtain⟨v,b,a⟩:=qP6 (xs:=[D.int x,D.int y,D.int z,D.int w]) c h1;simp only[zAi,zBk,or_false] at b;rcases b with rfl|rfl|rfl|rfl;{exact⟨x,a,d⟩};{exact⟨y,a,e⟩};{exact⟨z,a,f⟩};exact⟨w,a,g⟩
theorem qE5(T:Txt K mg a):VFn P w K mg base 2 a.f42 a.d42 ["_law_bag_here", "_law_size", "_law_many"] qD7:=by
 refine VFn.mk' T.d42.F qc7 (wOf [true,true,true]) (λc Q Q' M X Y _ h=>by obtain⟨b,n,m,j,e,N,O,R,A,Z,q⟩:=h;exact⟨b,n,m,j,e,N,O,R,A,Z,λs f S a2 a3=>Y _ _ (q s f S a2 a3)⟩) (λc Q M h=>by obtain⟨b,n,m,j,e,_⟩:=h;rw[e];rfl) (λc Q M h=>by obtain⟨b,n,m,j,e,⟨x,y,z,eb,_⟩,_⟩:=h;rw[e,eb];rfl) (λ_ _ _ _ _ _ _ C=>⟨_,(Ab (An 3 qc7.nd (Aj T.d38 (qb3 T) qa0 (rm C) (vaN 0 (vaV (qa4 Af) Ac)))) (Ab (An 4 qc7.nd (Aj T.d38 (qb3 T) qa0 (rm C) (vaN 0 (vaN 1 Ac)))) (Ab (An 5 qc7.nd (Aj T.d38 (qb3 T) qa0 (rm C) (vaN 0 (vaN 1 Ac)))) (Ab (An 6 qc7.nd (qa4 (Bo qa6))) (Ab (qR9 N6 T.Cg (Ej (vaN 2 Ac)) (Bc 7 qc7.nd) (Ab (An 8 qc7.nd (Ig (vaV (Aj T.d38 (qb3 T) qa0 (rm C) (vaN 0 (vaN 1 Ac))) (vaV (qb6 (vnm 4)) (vaV (e2 (Ap qB2) qA9 (qa4 (v2 (Ap qB2) qA9 (vnm 1) Af)) (Aj T.d38 (qb3 T) qa0 (rm C) (vaN 0 (vaV (qa4 (vbi (qK2 rfl) qap0.ops T.Cy (qa2 Af (qa2 (vnm 1) qa6 rfl) rfl))) Ac)))) (vaV (qa4 (v2 (Aq qa8) Al (Bo (qa2 (vnm 4) (qa2 (vnm 5) qa6 rfl) rfl)) (v2 (Ap qn5) qn4 (vnm 7) Af))) Ac)))))) (Ak (Bb (Bp 6 qq3 N9 Oa Ob qc8 (vaV (qb6 (v2 (Aq qa8) Al (vnm 8) (vnm 3))) Ac)))))) (Ak (Av (emv 6)))))))),λc Q M h=>?_⟩);obtain⟨b,n,m,j,rfl,B,n1,n2,m0,m1,q⟩:=h;refine Aw [b,.int n,.int m,.u,.u,.u,.u,.u,.u] rfl ?_;refine qc0 (λc=>∃b w,c=[b,.int n,.int m,.int w,.u,.u,.u,.u,.u]/\Ph j b/\0<=w/\w<4) (λK g=>?_) ?_;{exact qb8 rfl B rfl ∅ ∅ λv s E G B'=>g _ ⟨s,v,rfl,B',E,G⟩};rintro c ⟨b,way,rfl,B,w0,w1⟩;refine qc0 (λc=>∃b o,c=[b,.int n,.int m,.int way,.int o,.u,.u,.u,.u]/\Ph j b/\0<=o/\o<n) (λK g=>?_) ?_;{exact qy3 (m:=n) rfl B rfl ∅ ⋯ ⋯ λv s E G B'=>g _ ⟨s,v,rfl,B',E,G⟩};rintro c ⟨b,o,rfl,B,V,W⟩;refine qc0 (λc=>∃b p,c=[b,.int n,.int m,.int way,.int o,.int p,.u,.u,.u]/\Ph j b/\0<=p/\p<n) (λK g=>?_) ?_;{exact qy3 (m:=n) rfl B rfl ∅ ⋯ ⋯ λv s E G B'=>g _ ⟨s,v,rfl,B',E,G⟩};rintro c ⟨b,p,rfl,B,p0,p1⟩;refine qb2 [b,.int n,.int m,.int way,.int o,.int p,kL [],.u,.u] (λK g=>g) ?_;refine qc0 (λc=>∃b f t k,c=[b,.int n,.u,.int way,.int o,.int p,kL f,t,k]/\Ph j b/\(∀h∈f,0<=h/\h<n)/\f.length=m.toNat) (λK g=>?_) ?_
 .refine qau9 (n:=m) rfl (qN2 ⋯ ⋯) ?_;refine qe8 (λi c=>∃b f t k,c=[b,.int n,.u,.int way,.int o,.int p,kL f,t,k]/\Ph j b/\(∀h∈f,0<=h/\h<n)/\f.length=i) _ 0 _ ⟨b,[],_,_,rfl,B,nofun,rfl⟩ ?_ ?_
  .rintro i x hx c ⟨b,f,t,k,rfl,B,U,L⟩ K2 H;rw[zAe] at L H;obtain⟨hi,rfl⟩:=qI2 hx;refine Aw [b,.int n,.u,.int way,.int o,.int p,kL f,.int (i:Nat),k] rfl ?_;refine qc0 (λc=>∃b u I l r,c=[b,.int n,.u,.int way,.int o,.int p,kL f,.int (i:Nat),.l false [.int u,.int I,.int l,.int r]]/\Ph j b/\(0<=u/\u<n)/\(0<=I/\I<n)/\(0<=l/\l<n)/\(0<=r/\r<n)) (λK g=>?_) ?_
   .refine qe3 (qE8 (qc9 ?_));refine qy3 (ds:=[b,.int n,.u,.int way,.int o,.int p,kL f,.int (i:Nat),k]) (m:=n) rfl B rfl ∅ ⋯ ⋯ λu b1 a0 S B1=>?_;refine qb9 (y:=.int o) rfl rfl (qc9 (qD1 (x:=.int (n-1)) rfl ?_));refine qb8 (ds:=[b1,.int n,.u,.int way,.int o,.int p,kL f,.int (i:Nat),k]) (m:=if n<4 then n else 4) rfl B1 rfl (by split<;>lia) (by split<;>lia) λl b2 c0 c1 B2=>?_;have c2:l<n:=by revert c1;split<;>lia
    refine qa1 (a:=D.int (n-1-l)) rfl ?_;obtain⟨r,e4,A⟩:=qaY1 (x:=o) (y:=p) (i:=((i:Nat):Int)%2) ⋯ ⋯ (P:=λv=>0<=v/\v<n) ⟨V,W⟩ ⟨p0,p1⟩;refine qj1 (y:=.int r) (Ag (x:=.l false [.int o,.int p]) rfl (Ag (x:=.int (i:Nat)) (y:=.int 2) rfl rfl (Ed ∅)) e4) (qb7 ⟨lt4,?_⟩);exact g _ ⟨b2,u,o,n-1-l,r,rfl,B2,⟨a0,S⟩,⟨V,W⟩,⟨⋯,⋯⟩,A⟩
   rintro c ⟨b,u,I,l,r,rfl,B,N,O,R,A⟩;obtain⟨v,ev,hv⟩:=qY6 (P:=λv=>0<=v/\v<n) w0 w1 N O R A;refine qaC4 (ys:=O7 f) (d:=.int v) rfl (Ag (x:=.l false [.int u,.int I,.int l,.int r]) rfl rfl ev) rfl (by rw[qf5];unfold big;lia) ?_;rw[qw7];refine H _ ⟨b,f++[v],_,_,rfl,B,λh J=>?_,by rw[zA6,L];rfl⟩;rcases zAb.mp J with J|J;{exact U h J};rw[zA8.mp J];exact hv
  rintro c ⟨b,f,t,k,rfl,h⟩;rw[zAe,qN7] at h;exact g _ ⟨b,f,t,k,rfl,h⟩
 rintro c ⟨b,f,t,k,rfl,B,U,L⟩;exact q b f B U L
theorem qe0:qa9 ["_law_bag_here", "_law_most", "_law_way", "_law_size", "_law_wraps", "_law_many", "_law_told", "_law_great", "_law_keys", "_law_home_here", "_law_key", "_law_homes", "_law_number"] ["_law_bag_here", "_law_most"] (qa3 qS6):=by walk_at "s"
def qar9:VSp:=λds Q _=>∃b M ns,ds=[b,.int M]/\Ph ns b/\1<=M/\M<=64/\∀a n wr ps ks,Ph ns a->1<=n->n<=64->qK5 ps->ks.Nodup->(∀k∈ks,Ah k)->ks.length<=66->(∃t,ps.map (·.1)=ks.take t)->Q (.q [Ae n wr ps,kL ks]) [a,.int M]
theorem qaD2{x y z i:Int}(c:0<=i)(h1:i<3){P:Int->Prop}(d:P x)(e:P y)(f:P z):∃v,atI [D.int x,D.int y,D.int z] i=some (.int v)/\P v:=by obtain⟨v,b,a⟩:=qP6 (xs:=[D.int x,D.int y,D.int z]) c h1;simp only[zAi,zBk,or_false] at b;rcases b with rfl|rfl|rfl;{exact⟨x,a,d⟩};{exact⟨y,a,e⟩};exact⟨z,a,f⟩
theorem qaV4{x i:Int}(b:0<=i)(h1:i<5)(d:0<=x/\x<=64):∃v,atI [D.int 0,D.int 0,D.int 1,D.int 6,D.int x] i=some (.int v)/\0<=v/\v<=64:=by obtain⟨v,a,c⟩:=qP6 (xs:=[D.int 0,D.int 0,D.int 1,D.int 6,D.int x]) b h1;simp only[zAi,zBk,or_false] at a;rcases a with rfl|rfl|rfl|rfl|rfl<;>exact⟨_,c,⋯,⋯⟩
theorem qai1{m:Int}:O9 ps++[.q [.int k,.int m]]=O9 (ps++[(k,m)]):=by unfold O9;rw[zBj];rfl
theorem qN8(ps:Pr):(O9 ps).length=ps.length:=zA9 _
abbrev qe6 (M) (way) (n:Int) (wr:Bool) (told) (gr) (p0 d e f a b c:D):=([p0,.int M,.int way,.int n,.bl wr,d,.int told,.int gr,e,f,a,b,c]:Ds)
theorem qat3(T:Txt K mg a):VFn P w K mg base 3 a.f43 a.d43 ["_law_bag_here", "_law_most"] qar9:=by
 refine VFn.mk' T.d43.F qe0 (wOf [true,true]) (λc Q Q' xe a9 hQ _ h=>by obtain⟨b,M,s,e,h1,h2,h3,q⟩:=h;exact⟨b,M,s,e,h1,h2,h3,λO n wr j f a1 H a3 a4 a5 a6 a7 zz=>hQ _ _ (q O n wr j f a1 H a3 a4 a5 a6 a7 zz)⟩) (λc Q xe ⟨b,M,s,e,_⟩=>by rw[e];rfl) (λc Q xe h=>by obtain⟨b,M,s,e,⟨x,y,z,eb,_⟩,_⟩:=h;rw[e,eb];rfl) (λ_ _ _ _ _ _ _ t=>⟨_,(Ab (An 2 qe0.nd (Aj T.d38 (qb3 T) qa0 (rm t) (vaN 0 (vaV (qa4 Af) Ac)))) (Ab (An 3 qe0.nd (e2vP (Aq qa8) Al (Ig (vaV (e2 (Ap qf9) qf8 (qa4 Af) (Aj T.d38 (qb3 T) qa0 (rm t) (vaN 0 (vaV (qa4 (vbi (qK2 rfl) qap0.ops T.Cy (qa2 Af (qa2 (vnm 1) qa6 rfl) rfl))) Ac)))) (vaV (e2 (Ap qf9) qf8 (qa4 Af) (Aj T.d38 (qb3 T) qa0 (rm t) (vaN 0 (vaV (qa4 (vbi (qK2 rfl) qap0.ops T.Cy (qa2 Af (qa2 (vnm 1) qa6 rfl) rfl))) Ac)))) (vaV (e2 (Ap qf9) qf8 (qa4 Af) (Aj T.d38 (qb3 T) qa0 (rm t) (vaN 0 (vaN 1 Ac)))) (vaV (qb6 (vnm 1)) Ac))))) (vnm 2))) (Ab (An 4 qe0.nd (e2v (A7 (qj4 t.u64) (qb0 _)) Bl (Aj T.d38 (qb3 T) qa0 (rm t) (vaN 0 (vaV (qa4 Af) Ac))) Af)) (Ab (An 5 qe0.nd (e2P (Aq qa8) Al (Ig (vaV (qb6 (vnm 3)) (vaV (qa4 (v2 (Ap qf9) qf8 (vnm 3) Af)) (vaV (qa4 (v2 (Ap qf9) qf8 Af (v2 (Ap qT2) qaG2 (v2 (Ap qB1) qB0 (vnm 3) Af) Af))) (vaV (Aj T.d38 (qb3 T) qa0 (rm t) (vaN 0 (vaV (qa4 (v2 (Ap qf9) qf8 (vnm 3) Af)) Ac))) Ac))))) (Aj T.d38 (qb3 T) qa0 (rm t) (vaN 0 (vaV (qa4 Af) Ac))))) (Ab (An 6 qe0.nd (e2P (Aq qa8) Al (qa4 (Bo (qa2 Af (qa2 Af (qa2 Af (qa2 Af (qa2 Af qa6 rfl) rfl) rfl) rfl) rfl))) (Aj T.d38 (qb3 T) qa0 (rm t) (vaN 0 (vaV (qa4 Af) Ac))))) (Ab (An 7 qe0.nd (e2P (Aq qa8) Al (qa4 (Bo (qa2 Af (qa2 Af (qa2 Af (qa2 (vpow 10000000000000000) qa6 rfl) rfl) rfl) rfl))) (Aj T.d38 (qb3 T) qa0 (rm t) (vaN 0 (vaV (qa4 Af) Ac))))) (Ab (An 8 qe0.nd (qa4 (Bo qa6))) (Ab (Hl N6 (Aj T.d42 (qE5 T) qa0 (rm t) (vaN 0 (vaN 3 (vaN 5 Ac)))) (Bc 9 qe0.nd) (Ab (An 10 qe0.nd (e2n 9 (Ap qf9) qf8 (e2n 3 (Ap qB1) qB0 (Aj T.d38 (qb3 T) qa0 (rm t) (vaN 0 (vaN 7 Ac)))))) (Ak (sif (q2 (As qB3 (by with_unfolding_all rfl)) Ge (vnm 10) (vnm 8)) (Ak (Bb (Bp 8 qq3 N9 Oa Ob qc8 (vaN 10 Ac)))) Ay)))) (Ab (An 11 qe0.nd (qa4 (Bo qa6))) (Ab (Hl N6 (qa4 (vsl (vnm 8) Hi (Hj (vnm 6)))) (Bc 10 qe0.nd) (Ab (An 12 qe0.nd (e2P (Aq qa8) Al (Ig (vaV (Aj T.d38 (qb3 T) qa0 (rm t) (vaN 0 (vaN 3 Ac))) (vaV (e2 (Ap qB2) qA9 (qa4 (vpow 1000000000000000000)) (Aj T.d38 (qb3 T) qa0 (rm t) (vaN 0 (vaN 3 Ac)))) (vaV (Aj T.d38 (qb3 T) qa0 (rm t) (vaN 0 (vaV (qa4 (vpow 1000000000000000000)) Ac))) Ac)))) (Aj T.d38 (qb3 T) qa0 (rm t) (vaN 0 (vaV (qa4 Af) Ac))))) (Ak (Bb (Bp 11 qq3 N9 Oa Ob qc8 (vaV (qa4 (En (qa2 (vnm 10) (qa2 (vnm 12) qa6 rfl) rfl))) Ac)))))) (Ak (Av (Gu (vaV (Gu (vaV (qb6 (vnm 3)) (vaV (qb6 (vnm 4)) (vaV (efz 11) Ac)))) (vaV (emv 8) Ac))))))))))))))),λc Q xe h=>?_⟩);obtain⟨b,M,s,rfl,B,M0,M1,q⟩:=h;refine Aw [b,.int M,.u,.u,.u,.u,.u,.u,.u,.u,.u,.u,.u] rfl ?_;refine qc0 (λc=>∃b way,c=[b,.int M,.int way,.u,.u,.u,.u,.u,.u,.u,.u,.u,.u]/\Ph s b/\0<=way/\way<4) (λK o=>?_) ?_;{exact qb8 rfl B rfl ∅ ∅ λv O X v1 B'=>o _ ⟨O,v,rfl,B',X,v1⟩};rintro c ⟨b,way,rfl,B,w0,w1⟩;refine qc0 (λc=>∃b n,c=[b,.int M,.int way,.int n,.u,.u,.u,.u,.u,.u,.u,.u,.u]/\Ph s b/\1<=n/\n<=64) (λK o=>?_) ?_
 .refine qe3 (qaf6 (qE8 (qc9 (qD1 (x:=.int 1) rfl ?_))));refine qb8 (ds:=[b,.int M,.int way,.u,.u,.u,.u,.u,.u,.u,.u,.u,.u]) (m:=if M<8 then M else 8) rfl B rfl (by split<;>lia) (by split<;>lia) λR L a1 c1 B1=>?_;have e1:R<M:=by revert c1;split<;>lia
  refine qa1 (a:=D.int (1+R)) rfl (qc9 (qD1 (x:=.int 1) rfl ?_));refine qb8 (ds:=[L,.int M,.int way,.u,.u,.u,.u,.u,.u,.u,.u,.u,.u]) (m:=if M<16 then M else 16) rfl B1 rfl (by split<;>lia) (by split<;>lia) λI J H N B2=>?_;have e2:I<M:=by revert N;split<;>lia
  refine qa1 (a:=D.int (1+I)) rfl (qc9 (qD1 (x:=.int 1) rfl ?_));refine qy3 (ds:=[J,.int M,.int way,.u,.u,.u,.u,.u,.u,.u,.u,.u,.u]) (m:=M) rfl B2 rfl ∅ ⋯ ⋯ λx3 b3 a3 c3 B3=>?_;refine qa1 (a:=D.int (1+x3)) rfl (qb9 (y:=.int M) rfl rfl (qb7 ⟨lt4,qa1 (a:=D.int way) rfl ⟨rfl,?_⟩⟩));obtain⟨n,en,hn⟩:=qY6 (P:=λv=>1<=v/\v<=64) w0 w1 (x:=1+R) (y:=1+I) (z:=1+x3) (w:=M) ⟨⋯,⋯⟩ ⟨⋯,⋯⟩ ⟨⋯,⋯⟩ ⟨M0,M1⟩;exact qa1 en (o _ ⟨b3,n,rfl,B3,hn.1,hn.2⟩)
 rintro c ⟨b,n,rfl,B,n1,n2⟩;refine qc0 (λc=>∃b wr,c=[b,.int M,.int way,.int n,.bl wr,.u,.u,.u,.u,.u,.u,.u,.u]/\Ph s b) (λK o=>?_) ?_;{refine qe3 (qK8 (qb8 rfl B rfl ∅ ∅ λv O X v1 B'=>?_));exact qa1 (a:=D.bl (decide (v=1))) rfl (o _ ⟨O,_,rfl,B'⟩)};rintro c ⟨b,wr,rfl,B⟩;refine qc0 (λc=>∃b m,c=[b,.int M,.int way,.int n,.bl wr,.int m,.u,.u,.u,.u,.u,.u,.u]/\Ph s b/\0<=m/\m<=66) (λK o=>?_) ?_;{refine qe3 (qar7 (qE8 (qb9 (y:=.int n) rfl rfl (qj1 (y:=.int (n+2)) rfl (qj1 (y:=.int (1+n*3/4)) (Ag (x:=.int 1) rfl (Ag (x:=.int (n*3)) (y:=.int 4) (Ag (x:=.int n) (y:=.int 3) rfl rfl (Jy ∅)) rfl (qaK3 ∅ ∅)) rfl) (qc9 ?_))))));refine qb8 (ds:=[b,.int M,.int way,.int n,.bl wr,.u,.u,.u,.u,.u,.u,.u,.u]) (m:=n+1) rfl B rfl ⋯ ⋯ λR L a1 c1 B1=>?_;refine qb7 ⟨lt4,?_⟩;refine qb8 (ds:=[L,.int M,.int way,.int n,.bl wr,.u,.u,.u,.u,.u,.u,.u,.u]) (m:=4) rfl B1 rfl ∅ ∅ λI J H N B2=>?_;obtain⟨m,Y,A⟩:=qY6 (P:=λv=>0<=v/\v<=66) H N (x:=n) (y:=n+2) (z:=1+n*3/4) (w:=R) ⟨⋯,⋯⟩ ⟨⋯,⋯⟩ ⟨⋯,⋯⟩ ⟨⋯,⋯⟩;exact qa1 Y (o _ ⟨J,m,rfl,B2,A.1,A.2⟩)};rintro c ⟨b,m,rfl,B,m0,m1⟩;refine qc0 (λc=>∃b told,c=[b,.int M,.int way,.int n,.bl wr,.int m,.int told,.u,.u,.u,.u,.u,.u]/\Ph s b/\0<=told/\told<=64) (λK o=>?_) ?_;{refine qe3 (qD1 (x:=.l false [.int 0,.int 0,.int 1,.int 6,.int 64]) rfl (qb8 (ds:=[b,.int M,.int way,.int n,.bl wr,.int m,.u,.u,.u,.u,.u,.u,.u]) (m:=5) rfl B rfl ∅ ∅ λI J H N B2=>?_));obtain⟨m,Y,A⟩:=qaV4 (x:=64) H N ∅;exact qa1 Y (o _ ⟨J,m,rfl,B2,A.1,A.2⟩)};rintro c ⟨b,told,rfl,B,t0,t1⟩;refine qc0 (λc=>∃b r,c=(qe6 M way n wr told r b (.int m) .u .u .u .u .u)/\Ph s b/\1<=r/\r<=10000000000000000) (λK o=>?_) ?_;{refine qe3 (qD1 (x:=.l false [.int 9,.int 9,.int 9,.int 10000000000000000]) rfl (qb8 (ds:=[b,.int M,.int way,.int n,.bl wr,.int m,.int told,.u,.u,.u,.u,.u,.u]) (m:=4) rfl B rfl ∅ ∅ λI J H N B2=>?_));obtain⟨m,Y,A⟩:=qY6 (P:=λv=>1<=v/\v<=10000000000000000) H N (x:=9) (y:=9) (z:=9) (w:=10000000000000000) ∅ ∅ ∅ ∅;exact qa1 Y (o _ ⟨J,m,rfl,B2,A.1,A.2⟩)};rintro c ⟨b,r,rfl,B,g0,g1⟩;refine qb2 (qe6 M way n wr told r b (.int m) (kL []) .u .u .u .u) (λK o=>o) ?_;refine qc0 (λc=>∃b f u g,c=(qe6 M way n wr told r b .u (kL f) u g .u .u)/\Ph s b/\f.Nodup/\(∀k∈f,Ah k)/\f.length<=66) (λK o=>?_) ?_
 .refine qaW7 (x:=b) (y:=.int n) (w:=.int m) (qh0 rfl B.known) rfl rfl rfl (qh0 rfl B.known) ⟨b,n,m,s,rfl,B,n1,n2,m0,⋯,λL hs B1 hh hl=>?_⟩;refine qa1 (a:=(qe6 M way n wr told r L .u (kL []) .u .u .u .u)) rfl (qa1 (a:=O7 hs) rfl ⟨qf7 hs,?_⟩);refine qe8 (λi c=>∃b f u g,c=(qe6 M way n wr told r b .u (kL f) u g .u .u)/\Ph s b/\f.Nodup/\(∀k∈f,Ah k)/\f.length<=i) _ 0 _ ⟨L,[],_,_,rfl,B1,Nk,nofun,zA2 _⟩ ?_ ?_
  .rintro i x S c ⟨b,f,u,g,rfl,B,U,V,C⟩ K2 E;rw[zAe] at C E;obtain⟨h,hi,rfl⟩:=Jz S;obtain⟨h0,h1⟩:=hh h (zB1 hi);have a0:i<66:=by have:=(zA5.mp hi).1;lia
   refine qj9 (Aw (qe6 M way n wr told r b .u (kL f) (.int h) g .u .u) rfl ?_);refine qc0 (λc=>∃b W,c=(qe6 M way n wr told r b .u (kL f) (.int h) (.int W) .u .u)/\Ph s b/\Ah W) (λK o=>?_) ?_;{refine qe3 ⟨rfl,rfl,?_⟩;refine qy3 (ds:=[b,.int M,.int way,.int n,.bl wr,.u,.int told,.int r,kL f,.int h,g,.u,.u]) (m:=r) rfl B rfl ∅ ⋯ ⋯ λv O X v1 B'=>?_;have e2:0<=n*v:=Int.mul_nonneg ⋯ X;have e3:n*v<=64*v:=Int.mul_le_mul_of_nonneg_right n2 X;exact qa1 (a:=D.int (n*v)) (mulL (qR7 ⋯ ⋯)) (qa1 (a:=D.int (h+n*v)) rfl (o _ ⟨O,h+n*v,rfl,B',⋯,⋯⟩))};rintro c ⟨b,W,rfl,B,a8⟩;refine if_v (b:=!decide (W∈f)) (Ag rfl rfl qaj8) (λhb=>?_) λhb=>E _ ⟨b,f,_,_,rfl,B,U,V,⋯⟩;have A:¬W∈f:=λz=>by rw[zAf z] at hb;cases hb
   refine qaq2 (ys:=O7 f) (d:=.int W) rfl rfl rfl ∅ (by rw[qf5];unfold big;lia) ?_;rw[qw7];refine E _ ⟨b,f++[W],_,_,rfl,B,zBg.mpr ⟨U,(by simp),λx S y hy e=>A (by rw[<-zA8.mp hy,<-e];exact S)⟩,λx S=>?_,by rw[zA6];exact Nat.add_le_add_right C 1⟩;rcases zAb.mp S with h|h;{exact V x h};rw[zA8.mp h];exact a8
  rintro c ⟨b,f,u,g,rfl,B,U,V,C⟩;rw[zAe,qf5] at C;exact o _ ⟨b,f,u,g,rfl,B,U,V,⋯⟩
 rintro c ⟨b,f,u,g,rfl,B,U,V,C⟩;refine qb2 (qe6 M way n wr told r b .u (kL f) u g (.l false (O9 [])) .u) (λK o=>o) ?_;refine qc0 (λc=>∃b j g l,c=(qe6 M way n wr told r b .u (kL f) u g (.l false (O9 j)) l)/\Ph s b/\j.map (·.1)=f.take told.toNat/\∀p∈j,Ah p.2) (λK o=>?_) ?_
 .have ec:B7 (O7 f) none (some told)=O7 (f.take told.toNat):=by rw[show told=((told.toNat:Nat):Int) by lia,qK1,Int.toNat_natCast];unfold O7;rw[L6]
  refine qm6 (qbe9 rfl rfl rfl ec) (qa1 (a:=O7 (f.take told.toNat)) rfl ⟨qf7 _,?_⟩);refine qe8 (λi c=>∃b j g l,c=(qe6 M way n wr told r b .u (kL f) u g (.l false (O9 j)) l)/\Ph s b/\j.map (·.1)=(f.take told.toNat).take i/\∀p∈j,Ah p.2) _ 0 _ ⟨b,[],_,_,rfl,B,rfl,nofun⟩ ?_ ?_
  .rintro i x S c ⟨b,j,g,l,rfl,B,G,Z⟩ K2 E;rw[zAe] at G E;obtain⟨k,hi,rfl⟩:=Jz S;have a0:j.length<=64:=by have:=congrArg Ll G;simp at this;lia
   refine qj9 (Aw (qe6 M way n wr told r b .u (kL f) u (.int k) (.l false (O9 j)) l) rfl ?_);refine qc0 (λc=>∃b v,c=(qe6 M way n wr told r b .u (kL f) u (.int k) (.l false (O9 j)) (.int v))/\Ph s b/\Ah v) (λK o=>?_) ?_;{refine qe3 (qar7 (qE8 (qc9 ?_)));refine qy3 (ds:=[b,.int M,.int way,.int n,.bl wr,.u,.int told,.int r,kL f,u,.int k,.l false (O9 j),l]) (m:=n) rfl B rfl ∅ ⋯ ⋯ λR L a1 c1 B1=>qc9 (qD1 (x:=.int 1000000000000000000) rfl ?_);refine qy3 (ds:=[L,.int M,.int way,.int n,.bl wr,.u,.int told,.int r,kL f,u,.int k,.l false (O9 j),l]) (m:=n) rfl B1 rfl ∅ ⋯ ⋯ λI J H N B2=>qa1 (a:=D.int (1000000000000000000-I)) rfl (qc9 ?_);refine qb8 (ds:=[J,.int M,.int way,.int n,.bl wr,.u,.int told,.int r,kL f,u,.int k,.l false (O9 j),l]) (m:=1000000000000000000) rfl B2 rfl ∅ ∅ λx3 b3 a3 c3 B3=>qb7 ⟨lt3,?_⟩;refine qb8 (ds:=[b3,.int M,.int way,.int n,.bl wr,.u,.int told,.int r,kL f,u,.int k,.l false (O9 j),l]) (m:=3) rfl B3 rfl ∅ ∅ λx4 b4 a4 c4 B4=>?_;obtain⟨v,ev,hv⟩:=qaD2 (P:=Ah) a4 c4 (x:=R) (y:=1000000000000000000-I) (z:=x3) ⟨⋯,⋯⟩ ⟨⋯,⋯⟩ ⟨⋯,⋯⟩;exact qa1 ev (o _ ⟨b4,v,rfl,B4,hv⟩)};rintro c ⟨b,v,rfl,B,hv⟩;refine qP7 (ys:=O9 j) (d:=.q [.int k,.int v]) rfl rfl (by rw[qN8];unfold big;lia) ?_;rw[qai1];refine E _ ⟨b,j++[(k,v)],_,_,rfl,B,by rw[zBj,G,qy2 hi];rfl,λp A=>?_⟩;rcases zAb.mp A with h|h;{exact Z p h};rw[zA8.mp h];exact hv
  rintro c ⟨b,j,g,l,rfl,B,G,Z⟩;rw[zAe,qf5,zCv] at G;exact o _ ⟨b,j,g,l,rfl,B,G,Z⟩
 rintro c ⟨b,j,g,l,rfl,B,G,Z⟩;have hG:qK5 j:=⟨by have:=congrArg Ll G;simp at this;lia,by rw[G];exact U.sublist (zC6 _ _),λp A=>⟨V _ (Ln (by rw[<-G];exact Mf A)),Z p A⟩⟩;refine qi2 (qaM3 (qax6 (qb9 (y:=.int n) rfl rfl (qb9 (y:=.bl wr) rfl rfl (qc9 (qaY3 (d:=.l false (O9 j)) rfl (qb7 ⟨lt3,?_⟩)))))));refine qc9 (qa1 (a:=D.l false (O7 f)) rfl (qb7 ⟨lt2,?_⟩));have e:(D.l false (O9 j)).fz=.l true (O9 j):=congrArg (D.l true) (qw8 j);rw[e];exact q b n wr j f B n1 n2 hG U V C ⟨_,G⟩
theorem qaE1:qa9 ["_law_plan", "_law_key"] ["_law_plan", "_law_key"] (qa3 qah3):=by walk_at "s"
def qaD8:VSp:=A5 λds d=>∃n wr ps k,ds=[Ae n wr ps,.int k]/\1<=n/\(ps.map (·.1)).Nodup/\d=.int (qb4 n ps k)
theorem qaj7(T:Txt K mg a):VFn P w K mg base 1 a.f39 a.d39 ["_law_plan", "_law_key"] qaD8:=by
 refine VFn.mk2 T.d39.F qaE1 (wOf [true,true]) qb5 (by walk_at "l") (λ_ _ _ _ _ _ _ c=>⟨_,(Ak (Av (qa4 (v2 (Ap qn5) qn4 (vget (hu_of c) (E5 (qP4 rfl) qaB8.ops T.Cv (qa2 (v2 (Aq qa8) Al (vnm 0) Af) qa6 rfl)) (vnm 1) (vnm 1) ⟨rfl,rfl,rfl,rfl⟩) (v2 (Aq qa8) Al (vnm 0) Af))))),λg Q i h=>?_⟩);obtain⟨d,⟨n,wr,b,k,rfl,j,e,rfl⟩,q⟩:=h;have f:A9 (fx1 Hh) (A6 (f2 gIx (rdN 0) (kC (.int 2))) λ_=>some []) [Ae n wr b,.int k]=some (.dct false (kvD b)):=by show Hh (.l true (O9 b))=_;exact qaB6 e
 exact qg5 _ (Ag (qao0 f rfl) (y:=.int n) rfl (Ed ⋯)) q
theorem qe9:qa9 ["_law_plan", "_law_keys", "_law_homes", "_law_found", "_law_on", "_law_turn", "_law_room"] ["_law_plan", "_law_keys"] (qa3 qA2):=by walk_at "s"
theorem qaw2(a:1<=n)(ks:List Int)(r:Nat):Jo (.l z (O7 (ks.map (qb4 n ps)))) (.int (r:Nat))=some (.int (Fj (O5 n ps) ks r:Nat)):=by show ((flats (O7 (ks.map (qb4 n ps)))).bind λb=>some (D.int (b.countP (λz=>eqV z (.int (r:Nat))):Nat)))=_;rw[qC5];show some (D.int (((ks.map (qb4 n ps)).map V.int).countP (λz=>eqV z (.int (r:Nat))):Nat))=_;congr 3;unfold Fj;rw[Nj,Nj,List.countP_eq_length_filter];congr 1;refine Lz λk _=>?_;show decide (qb4 n ps k=(r:Nat))=_;have:=qO3 (ps:=ps) a k;exact zCd.mpr ⋯
def onT(n:Int)(ps:Pr)(ks:List Int):Nat->Int:=onC (cR n.toNat (O5 n ps) ks)
def Bi(n:Int)(ps:Pr)(ks:List Int)(i m:Nat):List Int:=(Lh m).map λr=>onT n ps ks (n.toNat*i+r+1)
theorem qM1{n:Int}{ps:Pr}{m:Nat}:Bi n ps ks i m++[onT n ps ks (n.toNat*i+m+1)]=Bi n ps ks i (m+1):=by unfold Bi;rw[Mq,zBj];rfl
def qac0:VSp:=A5 λds d=>∃n wr ps z ks,ds=[Ae n wr ps,.l z (O7 ks)]/\1<=n/\n<=64/\(ps.map (·.1)).Nodup/\ks.length<=200/\d=.l false (O7 (Bi n ps ks wr.toNat n.toNat))
theorem qad1(T:Txt K mg a):VFn P w K mg base 2 a.f40 a.d40 ["_law_plan", "_law_keys"] qac0:=by
 refine VFn.mk2 T.d40.F qe9 (wOf [true,true]) qb5 (by walk_at "l") (λ_ _ _ _ _ _ _ L=>⟨_,(Ab (scN (NY:=["_law_key", "_law_plan"]) (src:=[none,some 0]) 2 1 qe9.nd (blk (λB C E H0 G=>(Bc 0 (show (["_law_key", "_law_plan"]:List Str).Nodup by decide +kernel))) (λB C E H0 G=>Ea) (λB C E H0 G=>(Aj T.d39 (qaj7 T) L2.qa0 (rm L) (vaN 1 (vaN 0 Ac)))))) (Ab (An 3 qe9.nd (qa4 (Bo qa6))) (Ab (An 4 qe9.nd (qa4 Af)) (Ab (qR9 N6 T.Cg (Ej (vaV (qa4 (v2 (Ap qf9) qf8 Af (E5 qaw8 qbf1.ops T.Cw (qa2 (v2 (Aq qa8) Al (vnm 0) Af) qa6 rfl)))) Ac)) (Bc 5 qe9.nd) (Ab (An 3 qe9.nd (qa4 (Bo qa6))) (Ak (qR9 N6 T.Cg (Ej (vaV (qb6 (v2 (Aq qa8) Al (vnm 0) Af)) Ac)) (Bc 6 qe9.nd) (Ab (An 4 qe9.nd (qa4 (vbi (qaa3 rfl) qaB7.ops T.D3 (qa2 Af (qa2 (v2 (Ap qB2) qA9 (v2 (Ap qf9) qf8 (vnm 4) (vbm qba4 N9 On PySem.F.type_list_count qaH2 (vnm 2) (vnm 6) qaW5)) Af) qa6 rfl) rfl)))) (Ak (Bb (Bp 3 qq3 N9 Oa Ob qc8 (vaV (qb6 (vnm 4)) Ac))))))))) (Ak (Av (emv 3))))))),λf Q Y h=>?_⟩);obtain⟨d,⟨n,wr,b,z,c,rfl,H,Z,M,hl,rfl⟩,q⟩:=h;refine Aw [Ae n wr b,.l z (O7 c),.u,.u,.u,.u,.u] rfl ?_;refine qb2 [Ae n wr b,.l z (O7 c),kL (c.map (qb4 n b)),.u,.u,.u,.u] (λK o=>qe3 (qa1 (a:=D.l z (O7 c)) rfl (qa1 (a:=O7 c) rfl ⟨qf7 c,?_⟩))) ?_
 .refine qm3 (λι=>∃d,ι=[d,Ae n wr b]) (λx=>some (match x with | .int k=>.int (qb4 n b k)|d=>d)) _ [] _ (by show 0+_<1000000;rw[qf5];lia) ⟨_,rfl⟩ ?_ ?_;{rintro y N ι O ⟨d,rfl⟩ R S s;obtain⟨k,_,rfl⟩:=zBc.mp N;exact qj9 (qC9 (Bq rfl (qE9 (x:=Ae n wr b) (y:=.int k) (d:=.int (qb4 n b k)) rfl rfl rfl ⟨n,wr,b,k,rfl,H,M,rfl⟩ rfl ⟨s,S [.int k,Ae n wr b] ⟨_,rfl⟩⟩)))};rintro ι ⟨d,rfl⟩;rw[zB8,qU3];have U:((O7 c).map λx=>match x with | .int k=>D.int (qb4 n b k)|d=>d)=O7 (c.map (qb4 n b)):=by unfold O7;rw[zCs,zCs];rfl
  rw[U];exact o
 generalize t:kL (c.map (qb4 n b))=p;refine qb2 [Ae n wr b,.l z (O7 c),p,.l false [],.u,.u,.u] (λK o=>o) ?_;refine qb2 [Ae n wr b,.l z (O7 c),p,.l false [],.int 0,.u,.u] (λK o=>o) ?_;refine qc0 (λf=>∃I r m,f=[Ae n wr b,.l z (O7 c),p,kL (Bi n b c wr.toNat n.toNat),I,r,m]) (λK o=>?_) ?_
 .refine qY7 (n:=((1+wr.toNat:Nat):Int)) (by cases wr<;>rfl) (qN2 ⋯ (by cases wr<;>decide)) ?_;refine qe8 (λi f=>∃F r m,f=[Ae n wr b,.l z (O7 c),p,.l false F,.int (onT n b c (n.toNat*i)),r,m]/\(0<i->F=O7 (Bi n b c (i-1) n.toNat))) _ 0 _ ⟨_,_,_,rfl,λh=>absurd h ⋯⟩ ?_ ?_
  .rintro i x A f ⟨F,r,m,rfl,_⟩ K2 u;rw[zAe] at u ⊢;obtain⟨hi,rfl⟩:=qI2 A;refine qj9 (Aw [Ae n wr b,.l z (O7 c),p,.l false F,.int (onT n b c (n.toNat*i)),.int (i:Nat),m] rfl ?_);refine qb2 [Ae n wr b,.l z (O7 c),p,.l false [],.int (onT n b c (n.toNat*i)),.int (i:Nat),m] (λK o=>o) ?_;refine qU2 (n:=n) rfl (qN2 ⋯ ⋯) ?_;refine qe8 (λj f=>∃m,f=[Ae n wr b,.l z (O7 c),p,kL (Bi n b c i j),.int (onT n b c (n.toNat*i+j)),.int (i:Nat),m]) _ 0 _ ⟨_,rfl⟩ ?_ ?_
   .rintro j x A f ⟨m,rfl⟩ K3 v;rw[zAe] at v ⊢;obtain⟨V,rfl⟩:=qI2 A;refine qj9 (Aw [Ae n wr b,.l z (O7 c),p,kL (Bi n b c i j),.int (onT n b c (n.toNat*i+j)),.int (i:Nat),.int (j:Nat)] rfl ?_);refine qb2 [Ae n wr b,.l z (O7 c),p,kL (Bi n b c i j),.int (onT n b c (n.toNat*i+j+1)),.int (i:Nat),.int (j:Nat)] (λK o=>qn0 ?_ o) ?_
    .have W:Jo p (.int (j:Nat))=some (.int (Fj (O5 n b) c j:Nat)):=by rw[<-t];exact qaw2 H c j
     have e:=Ag (g:=gSub) (y:=.int 1) (Ag (g:=Gc) (fa:=rdN 4) (ds:=[Ae n wr b,.l z (O7 c),p,kL (Bi n b c i j),.int (onT n b c (n.toNat*i+j)),.int (i:Nat),.int (j:Nat)]) (x:=.int (onT n b c (n.toNat*i+j))) rfl (Ag (g:=Jo) (fa:=rdN 2) (fb:=rdN 6) (by rw[<-t];rfl) rfl W) rfl) (fb:=kC (.int 1)) rfl rfl;unfold A9 A6;rw[e];have X:cR n.toNat (O5 n b) c (n.toNat*i+j)=Fj (O5 n b) c j:=by unfold cR;rw[Nat.mul_add_mod,zCw V]
     show some (D.int (if onT n b c (n.toNat*i+j)+(Fj (O5 n b) c j:Nat)-1>0 then onT n b c (n.toNat*i+j)+(Fj (O5 n b) c j:Nat)-1 else 0))=some (D.int (if onC (cR n.toNat (O5 n b) c) (n.toNat*i+j)+(cR n.toNat (O5 n b) c (n.toNat*i+j):Int)-1>0 then onC (cR n.toNat (O5 n b) c) (n.toNat*i+j)+(cR n.toNat (O5 n b) c (n.toNat*i+j):Int)-1 else 0));rw[X];rfl
    refine qaC4 (ys:=O7 (Bi n b c i j)) (d:=.int (onT n b c (n.toNat*i+j+1))) rfl rfl rfl (by rw[qf5];unfold Bi big;rw[zA9,zB0];lia) ?_;rw[qw7,qM1];exact v _ ⟨_,rfl⟩
   rintro f ⟨m,rfl⟩;rw[zAe,qN7,show n.toNat*i+n.toNat=n.toNat*(i+1) by rw[Nat.mul_add,Nat.mul_one]];exact u _ ⟨_,_,_,rfl,λ_=>rfl⟩
  rintro f ⟨F,r,m,rfl,J⟩;rw[zAe,qN7,Int.toNat_natCast] at J;rw[J ⋯,show 1+wr.toNat-1=wr.toNat by lia];exact o _ ⟨_,_,_,rfl⟩
 rintro f ⟨I,r,m,rfl⟩;exact q
theorem qf0:qa9 ["_law_plan", "_law_keys", "_law_passing_here", "_law_begin", "_law_found", "_law_at", "_law_on", "_law_key"] ["_law_plan", "_law_keys"] (qa3 qI1):=by walk_at "s"
theorem qaA2:∀ps:List (Int×Int),(O9 ps).mapM Ij=some ps|[]=>rfl|p::r=>by show List.mapM Ij (D.q [.int p.1,.int p.2]::O9 r)=_;rw[Nn,qaA2 r];rfl
theorem qas0{z:Bool}{L:Pr}{f:Int->Int}{S:List Int}(e:L=S.map λk=>(f k,k))(a:S.Nodup)(b:S.length<=64):qaB1 (.l z (O9 L))=some (.l false (O9 (Dt L))):=by show ((O9 _).mapM Ij).bind _=_;rw[qaA2];refine qh4 ⟨?_,by rw[e,zA9];exact b⟩;rw[e];exact zBu.mpr (a.imp λh z=>h (congrArg Prod.snd z))
theorem qaj2{f:Int->Nat}:((Dt (ks.map λk=>(((f k:Nat):Int),k))).map (·.2)).Perm ks:=by have h:((Dt (ks.map λk=>(((f k:Nat):Int),k))).map (·.2)).Perm ((ks.map λk=>(((f k:Nat):Int),k)).map (·.2)):=(zC7 _ _).map _;rw[zCs] at h;have e:ks.map ((·.2) ∘ λk=>(((f k:Nat):Int),k))=ks:=List.map_id ks;rwa[e] at h
theorem qaj3{f:Int->Nat}(a:p∈Dt (ks.map λk=>(((f k:Nat):Int),k))):p.1=(f p.2:Nat):=by rw[List.mem_mergeSort] at a;obtain⟨k,_,rfl⟩:=zBc.mp a;rfl
theorem qba5{f:Int->Nat}(b:ks.Nodup):((Dt (ks.map λk=>(((f k:Nat):Int),k))).map (·.2)).Pairwise (Jb f):=by have a:=(qaj2 (f:=f)).nodup_iff.mpr b;unfold List.Nodup at a;rw[zBu] at a ⊢;refine((qag3 _).and a).imp_of_mem λ{p q} c d h=>?_;have g:=qaj3 c;have i:=qaj3 d;have e:=h.1;simp only[S6.plt,decide_eq_false_iff_not] at e;have j:=h.2;unfold Jb;lia
theorem qbd8:∀{L R:List Int},¬k∈L->gIdx (.l z (O7 (L++k::R))) (.int k)=some (.int (L.length:Nat)):=by
 intro L R h;have e:Dh (.int k) ((L++k::R).map V.int)=some L.length:=by induction L with|nil=>show (if decide (k=k)=true then some 0 else _)=_;rw[if_pos (zAf rfl)];rfl|cons a L b=>rw[zAi,not_or] at h;show (if decide (a=k)=true then some 0 else (Dh (.int k) ((L++k::R).map V.int)).map (· + 1))=_;rw[if_neg (by simpa using λz=>h.1 z.symm),b h.2];rfl
 show ((flats (O7 (L++k::R))).bind λc=>(Dh (.int k) c).map λj=>D.int (j:Nat))=_;rw[qC5];show (Dh (.int k) ((L++k::R).map V.int)).map (λj=>D.int (j:Nat))=_;rw[e];rfl
theorem qai9{n:Int}{ps:Pr}{z:Bool}(h:1<=n):gIx (.l z (O7 (Bi n ps ks i n.toNat))) (.int (-1))=some (.int (onT n ps ks (n.toNat*i+n.toNat))):=by
 obtain⟨m,e⟩:∃m,n.toNat=m+1:=⟨n.toNat-1,⋯⟩;have e2:Bi n ps ks i n.toNat=Bi n ps ks i m++[onT n ps ks (n.toNat*i+m+1)]:=by rw[qM1,e]
 rw[e2,show n.toNat*i+n.toNat=n.toNat*i+m+1 by lia];unfold O7;rw[zBj];exact qap9 _ _
def qag2:VSp:=λds Q _=>∃n wr ps z ks,ds=[Ae n wr ps,.l z (O7 ks)]/\1<=n/\n<=64/\(ps.map (·.1)).Nodup/\ks.Nodup/\ks.length<=200/\((∃q,Crowd n.toNat wr (O5 n ps) ks q)->Q .non ds)/\((∀q,¬Crowd n.toNat wr (O5 n ps) ks q)->∀g,Kept n.toNat wr (O5 n ps) g ks->Q (rL n g) ds)
theorem qB7(T:Txt K mg a):VFn P w K mg base 3 a.f41 a.d41 ["_law_plan", "_law_keys"] qag2:=by
 refine VFn.mk2 T.d41.F qf0 (wOf [true,true]) (by walk_at "m") (by walk_at "l") (λ_ _ _ _ _ _ _ u=>⟨_,(Ab (sif (q2 (As Bs (qb0 _)) Db (vbi qt5 qt4.ops T.Cj (qa2 (vnm 1) qa6 rfl)) (v2 (Aq qa8) Al (vnm 0) Af)) (Ak (Av (qa4 Be))) Ay) (Ab (An 2 qf0.nd (Aj T.d40 (qad1 T) qa0 (rm u) (vaN 0 (vaN 1 Ac)))) (Ab (sif (Jh (B8 (tv (v2 (Aq qa8) Al (vnm 0) Af))) (Gf (q2 (As Bs (qb0 _)) Db (v2 (Aq qa8) Al (vnm 2) (vneg Af)) Af))).te (Ak (Av (qa4 Be))) Ay) (Ab (An 3 qf0.nd (qa4 Af)) (Ab (sif (tv (v2 (Aq qa8) Al (vnm 0) Af)) (Ak (An 3 qf0.nd (qa4 (v2 (Ap qf9) qf8 (vbm qaQ6 N9 Oe Oh qT8 (vnm 2) Af qaA9) Af)))) Ay) (Ab (An 4 qf0.nd (qa4 (v2 (Ap qB1) qB0 (Bo (qa2 Be qa6 rfl)) (v2 (Aq qa8) Al (vnm 0) Af)))) (Ab (An 5 qf0.nd (qa4 (vneg Af))) (Ab (Hl N6 (ebi qap5 qaK5.ops T.Cp (Ej (vaV (ecN (NY:=["_law_key", "_law_begin", "_law_plan"]) (src:=[none,some 3,some 0]) 1 (blk (λav C s0 H0 ex=>(Bc 0 (show (["_law_key", "_law_begin", "_law_plan"]:List Str).Nodup by decide +kernel))) (λav C s0 H0 ex=>Ea) (λav C s0 H0 ex=>(Gu (vaV (e2v (Ap qn5) qn4 (e2v (Ap qB2) qA9 (Aj T.d39 (qaj7 T) L2.qa0 (rm u) (vaN 2 (vaN 0 Ac))) (vnm 1)) (v2 (Aq qa8) Al (vnm 2) Af)) (vaV (qb6 (vnm 0)) Ac)))))) Ac))) (Fa (n:=2) rfl (qt1 (Bc 6 qf0.nd) (qt1 (Bc 7 qf0.nd) E9))) (Ab (An 5 qf0.nd (qa4 (vbi (qaa3 rfl) qaB7.ops T.D3 (qa2 (v2 (Ap qf9) qf8 (vnm 5) Af) (qa2 (vnm 6) qa6 rfl) rfl)))) (Ak (E8 (qb6 (vnm 7)) (Eh (vpn 4) (v2 (Ap qn5) qn4 (v2 (Ap qf9) qf8 (vnm 3) (vnm 5)) (v2 (Aq qa8) Al (vnm 0) Af))))))) (Ak (Av (emv 4))))))))))),λv Q xe h=>?_⟩);obtain⟨n,wr,j,z,o,rfl,M,n2,nd,N,hl,q,q'⟩:=h;have B:=Eo (ps:=j) M;have oc:=qat2 (T:=o) ⋯ B;refine Aw [Ae n wr j,.l z (O7 o),.u,.u,.u,.u,.u,.u] rfl ?_;refine qj8 (decide (n<(o.length:Int))) (Ag (ql4 rfl) (y:=.int n) rfl (by rw[qf5];rfl)) (λh=>qg5 .non rfl (q ⟨0,⋯,?_⟩)) λh=>?_;{have h:=zAd h;cases wr with|true=>rw[if_pos rfl];exact⟨rfl,⋯⟩|false=>rw[if_neg ∅,List.filter_eq_self.mpr λ_ _=>zAf (zBb _)];lia};have a0:o.length<=n.toNat:=by have:=zB6 h;lia
 refine qb2 [Ae n wr j,.l z (O7 o),kL (Bi n j o wr.toNat n.toNat),.u,.u,.u,.u,.u] (λK t=>qe3 (qE9 (x:=Ae n wr j) (y:=.l z (O7 o)) rfl rfl rfl ⟨n,wr,j,z,o,rfl,M,n2,nd,hl,rfl⟩ rfl t)) ?_;refine qg7 (!wr&&decide (0<onT n j o (n.toNat*wr.toNat+n.toNat))) (λQ q=>qp2 (!wr) (decide (0<onT n j o (n.toNat*wr.toNat+n.toNat))) (λQ q=>qo0 (b:=wr) rfl q) (λ_ Q q=>qi1 (Ag (Ag rfl rfl (qai9 M)) rfl rfl) q) q) (λh=>qg5 .non rfl (q ?_)) λh=>?_;{cases wr with|true=>cases h|false=>have h:=zAd h;rw[show n.toNat*false.toNat+n.toNat=n.toNat by show n.toNat*0+_=_;lia] at h;exact oc.mp h};refine qb2 [Ae n wr j,.l z (O7 o),kL (Bi n j o wr.toNat n.toNat),.int 0,.u,.u,.u,.u] (λK t=>t) ?_;refine qc0 (λv=>∃s:Nat,v=[Ae n wr j,.l z (O7 o),kL (Bi n j o wr.toNat n.toNat),.int (s:Nat),.u,.u,.u,.u]/\s<=n.toNat/\(wr=false->s=0)/\(∀q,¬Crowd n.toNat wr (O5 n j) o q)/\∀q,¬Crowd n.toNat false (λk=>Aa n.toNat (s%n.toNat) (O5 n j k)) o q) (λK t=>?_) ?_
 .refine if_v (b:=wr) rfl (λE=>?_) λE=>t _ ⟨0,rfl,⋯,λ_=>rfl,?_,?_⟩
  .subst E;obtain⟨r,u,h0⟩:=qaG4 (T:=o) ⋯ B a0;have hm:(0:Int)∈Bi n j o 1 n.toNat:=zBc.mpr ⟨r,zAj.mpr u,by rw[Nat.mul_one];exact h0⟩;obtain⟨L,R,O,nL⟩:=List.eq_append_cons_of_mem hm;have S:L.length<n.toNat:=by have:=congrArg Ll O;unfold Bi at this;simp at this;lia
   have Y:onT n j o (n.toNat+L.length+1)=0:=by
    have:(Bi n j o 1 n.toNat)[L.length]?=some 0:=by rw[O];simp
    unfold Bi at this;rw[zB5,List.getElem?_range S,Nat.mul_one] at this;exact N5 this
   refine qn0 (d:=.int ((L.length+1:Nat):Int)) (Ag (g:=Gc) (y:=.int 1) (Ag (g:=gIdx) (x:=kL (L++0::R)) (y:=.int 0) (by rw[<-O];rfl) rfl (qbd8 nL)) rfl rfl) (t _ ⟨L.length+1,rfl,⋯,λh=>absurd h ∅,λq c=>?_,qM9 S B Y⟩);have c:=c.2;rw[if_pos rfl] at c;lia
  {subst E;have h:decide _=false:=h;rw[show n.toNat*false.toNat+n.toNat=n.toNat by show n.toNat*0+_=_;lia] at h;exact λq c=>zB6 h (oc.mpr ⟨q,c⟩)};subst E;have h:decide _=false:=h;rw[show n.toNat*false.toNat+n.toNat=n.toNat by show n.toNat*0+_=_;lia] at h;rw[Nat.zero_mod,show (λk=>Aa n.toNat 0 (O5 n j k))=O5 n j from funext λk=>Hd];exact λq c=>zB6 h (oc.mpr ⟨q,c⟩)
 rintro v ⟨s,rfl,hs,E,nc,a1⟩;have G:s%n.toNat<n.toNat:=Nat.mod_lt _ ⋯;generalize eP:kL (Bi n j o wr.toNat n.toNat)=H;refine qb2 [Ae n wr j,.l z (O7 o),H,.int (s:Nat),.l false (O8 n.toNat λ_=>none),.u,.u,.u] (λK t=>qn0 (Ag rfl (y:=.int n) rfl (qak3 ⋯ n2)) t) ?_;refine qb2 [Ae n wr j,.l z (O7 o),H,.int (s:Nat),.l false (O8 n.toNat λ_=>none),.int (-1),.u,.u] (λK t=>t) ?_;refine qc0 (λv=>∃g d5 I J,v=[Ae n wr j,.l z (O7 o),H,.int (s:Nat),rL n g,d5,I,J]/\Kept n.toNat wr (O5 n j) g o) (λK t=>?_) ?_
 .refine co_to (qc9 (qa1 (a:=D.l z (O7 o)) rfl (qa1 (a:=O7 o) rfl ⟨qf7 o,?_⟩)));refine qm3 (λι=>∃d,ι=[d,.int (s:Nat),Ae n wr j]) (λx=>some (match x with | .int k=>.q [.int (Aa n.toNat (s%n.toNat) (O5 n j k):Nat),.int k] | d=>d)) _ [] _ (by show 0+_<1000000;rw[qf5];lia) ⟨_,rfl⟩ ?_ ?_;{rintro y U ι a4 ⟨d,rfl⟩ R hR V;obtain⟨k,_,rfl⟩:=zBc.mp U;have this:=hR [.int k,.int (s:Nat),Ae n wr j] ⟨_,rfl⟩;refine qj9 (qC9 (Bq rfl (qc9 (qK8 (qK8 (qE9 (x:=Ae n wr j) (y:=.int k) (d:=.int (qb4 n j k)) rfl rfl rfl ⟨n,wr,j,k,rfl,M,nd,rfl⟩ rfl ?_))))));refine qa1 (a:=D.int (qb4 n j k-(s:Nat))) rfl (qa1 (a:=D.int (Aa n.toNat (s%n.toNat) (O5 n j k):Nat)) ((Ed ⋯).trans ?_) (qb9 (y:=.int k) rfl rfl (qb7 ⟨lt2,V,this⟩)));have Y:=qaH3 (B k) hs;rw[qO3 M k,show ((n.toNat:Nat):Int)=n by lia] at Y;rw[Y]};rintro ι ⟨d,rfl⟩;rw[zB8,qU3];have O:((O7 o).map λx=>match x with | .int k=>D.q [.int (Aa n.toNat (s%n.toNat) (O5 n j k):Nat),.int k] | d=>d)=O9 (o.map λk=>((Aa n.toNat (s%n.toNat) (O5 n j k):Nat),k)):=by unfold O7 O9;rw[zCs,zCs];rfl
  rw[O];have pw:=qba5 (f:=λk=>Aa n.toNat (s%n.toNat) (O5 n j k)) N;have Z:=qaj2 (f:=λk=>Aa n.toNat (s%n.toNat) (O5 n j k)) (ks:=o);have of:=λp=>qaj3 (f:=λk=>Aa n.toNat (s%n.toNat) (O5 n j k)) (ks:=o) (p:=p);have es:=qas0 (z:=false) (L:=o.map λk=>(((Aa n.toNat (s%n.toNat) (O5 n j k):Nat):Int),k)) rfl N ⋯;generalize Dt (o.map λk=>(((Aa n.toNat (s%n.toNat) (O5 n j k):Nat):Int),k))=L at pw Z of es;refine qb7 (qa1 (a:=D.l false (O9 L)) es (qa1 (a:=O9 L) rfl ⟨qC2 L,?_⟩));refine qe8 (λi v=>∃g top I J,v=[Ae n wr j,.l z (O7 o),H,.int (s:Nat),.l false (O8 n.toNat λi=>g (Aa n.toNat (s%n.toNat) i)),.int ((top:Nat)-1:Int),I,J]/\Fill n.toNat (λk=>Aa n.toNat (s%n.toNat) (O5 n j k)) g ((L.take i).map (·.2)) top) _ 0 _ ⟨_,0,_,_,rfl,Fill.start ⋯ λk=>qi5 (B k) G⟩ ?_ ?_
  .rintro i y U v ⟨g,top,I,J,rfl,F⟩ K2 W;rw[zAe] at F W;unfold O9 at U;rw[zB5] at U;obtain⟨⟨h0,k⟩,hp,rfl⟩:=zAa.mp U;obtain rfl:h0=((Aa n.toNat (s%n.toNat) (O5 n j k):Nat):Int):=of _ (zB1 hp);have a2:=(zA5.mp hp).1;have a3:L.map (·.2)=((L.take i).map (·.2)++[k])++(L.drop (i+1)).map (·.2):=by
    conv=>lhs;rw[<-zBl i L,Lu a2,(zA5.mp hp).2]
    simp
   have tk:(L.take (i+1)).map (·.2)=(L.take i).map (·.2)++[k]:=by rw[zBp,hp,zBj];rfl
   rw[a3] at pw Z;have A:∀x∈(L.take i).map (·.2),Jb (λk=>Aa n.toNat (s%n.toNat) (O5 n j k)) x k:=λx hx=>(List.pairwise_append.mp (List.pairwise_append.mp pw).1).2.2 x hx k (zA8.mpr rfl);have nk:¬k∈(L.take i).map (·.2):=λh=>by rcases A k h with z|z<;>lia
   have u:=F.room A λq c=>a1 q ((c.mono (zCl _ _)).perm Z);have F':=F.put nk A u;generalize er:max top (Aa n.toNat (s%n.toNat) (O5 n j k))=r at u F';refine qq9 (Aw [Ae n wr j,.l z (O7 o),H,.int (s:Nat),.l false (O8 n.toNat λi=>g (Aa n.toNat (s%n.toNat) i)),.int ((top:Nat)-1:Int),.int (Aa n.toNat (s%n.toNat) (O5 n j k):Nat),.int k] rfl ?_);refine qb2 [Ae n wr j,.l z (O7 o),H,.int (s:Nat),.l false (O8 n.toNat λi=>g (Aa n.toNat (s%n.toNat) i)),.int (r:Nat),.int (Aa n.toNat (s%n.toNat) (O5 n j k):Nat),.int k] (λK t=>qn0 (d:=.int (r:Nat)) ?_ t) ?_;{show some (D.int (if ((Aa n.toNat (s%n.toNat) (O5 n j k):Nat):Int)>(top:Nat)-1+1 then ((Aa n.toNat (s%n.toNat) (O5 n j k):Nat):Int) else (top:Nat)-1+1))=_;congr 2;split<;>lia};have em:(((s:Nat):Int)+(r:Nat))%n=(rot n.toNat (s%n.toNat) r:Nat):=by have:((s+r:Nat):Int)%((n.toNat:Nat):Int)=((s+r)%n.toNat:Nat):=⋯;rw[show ((n.toNat:Nat):Int)=n by lia,Nat.add_mod,zCw u,qay3 G u] at this;rw[<-this];congr 1
   refine qK9 (ys:=O8 n.toNat λi=>g (Aa n.toNat (s%n.toNat) i)) (d:=.int k) (k:=(rot n.toNat (s%n.toNat) r:Nat)) rfl rfl rfl (Ag (x:=.int ((s:Nat)+(r:Nat))) (y:=.int n) rfl rfl ((Ed ⋯).trans (by rw[em]))) (Il (qS9 G u)) ?_;rw[qH7];have ec:O8 n.toNat (Row.set (λi=>g (Aa n.toNat (s%n.toNat) i)) (rot n.toNat (s%n.toNat) r) k)=O8 n.toNat λi=>Row.set g r k (Aa n.toNat (s%n.toNat) i):=qs2 λi hi=>by by_cases e:i=rot n.toNat (s%n.toNat) r;{subst e;rw[qc2,qr1 G u,qc2]};rw[qd7 e,qd7 λz=>e (by rw[<-z,qq1 G hi])]
   refine W _ ⟨_,r+1,.int (Aa n.toNat (s%n.toNat) (O5 n j k):Nat),.int k,?_,by rw[tk];exact F'⟩;rw[<-ec,show (((r+1:Nat):Int)-1)=((r:Nat):Int) by lia];rfl
  rintro v ⟨g,top,I,J,rfl,F⟩;have X:(O9 L).length=L.length:=zA9 _;rw[zAe,X,zCv] at F;refine t _ ⟨_,_,_,_,rfl,?_⟩;have K1:=F.k.of_perm Z;cases wr with|true=>exact K1.turn G B|false=>obtain rfl:=E rfl;rw[Nat.zero_mod] at K1 ⊢;rw[show (λk=>Aa n.toNat 0 (O5 n j k))=O5 n j from funext λk=>Hd] at K1;rw[show (λi=>g (Aa n.toNat 0 i))=g from funext λi=>by rw[Hd]];exact K1
 rintro v ⟨g,d5,I,J,rfl,KP⟩;exact q' nc g KP
theorem qu5:qa9 ["_law_plan", "_law_keys", "_law_found", "_law_key"] ["_law_plan", "_law_keys"] (qa3 qA4):=by walk_at "s"
def qac2:VSp:=λds Q _=>∃n wr ps z ks,ds=[Ae n wr ps,.l z (O7 ks)]/\1<=n/\n<=64/\(ps.map (·.1)).Nodup/\ks.Nodup/\ks.length<=100/\∀S,S.Sublist ks->(∀q,¬Crowd n.toNat wr (O5 n ps) S q)->Q (kL S) ds
theorem qG2(T:Txt K mg a):VFn P w K mg base 4 a.f44 a.d44 ["_law_plan", "_law_keys"] qac2:=by refine VFn.mk2 T.d44.F qu5 (wOf [true,true]) (by walk_at "m") (by walk_at "l") (λ_ _ _ _ _ _ _ H=>⟨_,(Ab (An 2 qu5.nd (qa4 (Bo qa6))) (Ab (sforP N6 (vpn 1) (Bc 3 qu5.nd) (Ak (sif (q2v (A7 qo5 (qb0 _)) (As qo5 (qb0 _)) qv3 (Aj T.d41 (qB7 T) qa0 (rm H) (vaN 0 (vaV (qa4 (v2 (Ap qf9) qf8 (vnm 2) (Bo (qa2 (vnm 3) qa6 rfl)))) Ac))) Be) (Ak (Bb (Bp 2 qq3 N9 Oa Ob qc8 (vaN 3 Ac)))) Ay))) (Ak (Av (emv 2))))),λj Q N h=>?_⟩);obtain⟨n,wr,c,z,f,rfl,E,I,J,r,L,q⟩:=h;refine Aw [Ae n wr c,.l z (O7 f),.u,.u] rfl ?_;refine qb2 [Ae n wr c,.l z (O7 f),kL [],.u] (λK t=>t) ?_;refine qc0 (λj=>∃S o,j=[Ae n wr c,.l z (O7 f),kL S,o]/\S.Sublist f/\∀q,¬Crowd n.toNat wr (O5 n c) S q) (λK t=>?_) ?_;{refine qa1 (a:=(1,[])) rfl (qa1 (a:=D.l z (O7 f)) rfl (qa1 (a:=O7 f) rfl ⟨qf7 f,λw=>?_⟩));refine qe8 (λi j=>∃S o,j=[Ae n wr c,.hole w,kL S,o]/\S.Sublist (f.take i)/\∀q,¬Crowd n.toNat wr (O5 n c) S q) _ 0 _ ⟨[],_,rfl,.slnil,λq=>(Kept.none ⋯ (Eo E)).no_crowd q⟩ ?_ ?_;{rintro i y u j ⟨S,o,rfl,b,s⟩ K2 p;rw[zAe] at b p;obtain⟨k,v,rfl⟩:=Jz u;have A:¬k∈S:=λz=>qT7 r v (b.subset z);have B:S.Nodup:=r.sublist (b.trans (zC6 _ _));have G:S.length<=100:=zAn (b.trans (zC6 _ _)).length_le L;refine qj9 (Aw [Ae n wr c,.hole w,kL S,.int k] rfl ?_);refine qI4 (qd6 (qc3 (x:=Ae n wr c) rfl (qj1 (y:=kL (S++[k])) (Ag (x:=kL S) (y:=kL [k]) rfl rfl (qV5 (by show _+1<=1000;lia))) (qb7 (qa1 (a:=Ae n wr c) rfl ?_)))));refine⟨n,wr,c,false,S++[k],rfl,E,I,J,zBg.mpr ⟨B,(by simp),λx M y u e=>A (by rw[<-zA8.mp u,<-e];exact M)⟩,by rw[zA6];show _+1<=200;lia,λ_=>?_,λC g _=>?_⟩;{refine qa1 (a:=[Ae n wr c,.hole w,kL S,.int k]) rfl (qa1 (a:=D.bl false) rfl (qa1 (a:=false) rfl (Fe ∅ (p _ ⟨S,_,rfl,b.trans ?_,s⟩))));rw[qy2 v];exact zCl _ _};refine qa1 (a:=[Ae n wr c,.hole w,kL S,.int k]) rfl (qa1 (a:=D.bl true) rfl (qa1 (a:=true) rfl (Bq rfl ?_)));refine qaq2 (ys:=O7 S) (d:=.int k) rfl rfl rfl ∅ (by rw[qf5];unfold big;lia) ?_;rw[qw7];refine p _ ⟨S++[k],_,rfl,?_,C⟩;rw[qy2 v];exact b.append (List.Sublist.refl _)};rintro j ⟨S,o,rfl,b,s⟩;rw[zAe,qf5,zCv] at b;exact qa1 (qaW9 rfl) (t _ ⟨S,o,rfl,b,s⟩)};rintro j ⟨S,o,rfl,b,s⟩;exact q S b s
theorem qw1:qa9 ["_law_bag_here", "_law_plan", "_law_keys", "_law_way", "_law_one", "_law_other", "_law_at"] ["_law_bag_here", "_law_plan", "_law_keys"] (qa3 qaE2):=by walk_at "s"
def NCd(n:Int)(wr:Bool)(ps:Pr)(S:List Int):Prop:=∀q,¬Crowd n.toNat wr (O5 n ps) S q
def okL(n:Int)(wr:Bool)(ps:Pr)(ks S:List Int):Prop:=S.Nodup/\(∀x∈S,x∈ks)/\NCd n wr ps S
theorem okL.sub{n:Int}{wr:Bool}{ps:Pr}{S T:List Int}(h:okL n wr ps ks S)(s:T.Sublist S):okL n wr ps ks T:=⟨h.1.sublist s,λx a=>h.2.1 x (s.subset a),λq c=>h.2.2 q (c.mono s)⟩
theorem qaI9{j:Int}(h:0<=j):gSl (.l z (O7 ks)) none (some j)=some (kL (ks.take j.toNat)):=by
 have e:B7 (O7 ks) none (some j)=O7 (ks.take j.toNat):=by rw[show j=((j.toNat:Nat):Int) by lia,qK1,Int.toNat_natCast];unfold O7;rw[L6]
 show gd (D.imms (B7 (O7 ks) none (some j))=true) (.l false (B7 (O7 ks) none (some j)))=_;rw[e];exact qh4 (qf7 _)
theorem qaK4:B7 ys (some (r:Int)) none=ys.drop r:=by unfold B7;rw[HT.qah4,HT.qS8];by_cases h:r<=ys.length;{rw[zCy h];exact zAu (by rw[zCe];lia)};rw[Nat.min_eq_right ⋯,L5 (zA2 _),L5 ⋯,Mz]
theorem qbd9{j:Int}(h:0<=j):gSl (.l z (O7 ks)) (some j) none=some (kL (ks.drop j.toNat)):=by
 have e:B7 (O7 ks) (some j) none=O7 (ks.drop j.toNat):=by rw[show j=((j.toNat:Nat):Int) by lia,qaK4,Int.toNat_natCast];unfold O7;rw[Mx]
 show gd (D.imms (B7 (O7 ks) (some j) none)=true) (.l false (B7 (O7 ks) (some j) none))=_;rw[e];exact qh4 (qf7 _)
theorem ne_ks(ks:List Int):gNe (.l z (O7 ks)) (.l z' [])=some (.bl (!decide (ks=[]))):=by cases ks<;>rfl
theorem qai5{b:D}{m:Int}{K:Ds->Ds->Prop}(B:Ph ns b)(q:∀v:Int,∃t:Bool,g (.int v) (.int c)=some (.bl t))(w:xs.length<=100)(hm:0<m/\m<100)(h:∀b d L,Ph ns b->L.Sublist xs->K (O7 L) [d,b]):Dm (gNm 0) (ttE (t2v g (qk1 qH4 [] (tbN 1 (tbV (Di (kC (.int m))) A8))) (kC (.int c)))) (Dk (rdN 0)) K (O7 xs) [] [d,b]:=by
 refine qaa2 (λi e ι=>∃b d L,ι=[d,b]/\Ph ns b/\e=O7 L/\L.Sublist (xs.take i)) _ 0 [] _ ⟨b,_,[],rfl,B,rfl,List.nil_sublist _⟩ ?_ ?_
 .rintro j y r e ι ⟨b,d,L,rfl,B,rfl,f⟩ R l;rw[zAe] at f l;obtain⟨k,s,rfl⟩:=Jz r;have n:=f.length_le;rw[zBa] at n;have o:(xs.take (j+1))=xs.take j++[k]:=by rw[zBp,s];rfl
  refine qj9 (qI4 (qb8 (ds:=[.int k,b]) (i:=1) (m:=m) rfl B rfl hm.1 ⋯ λv p x z B'=>?_));obtain⟨t,u⟩:=q v;refine qa1 (a:=D.bl t) u (qa1 (a:=t) rfl (ite_b (λ_=>?_) λ_=>?_));{exact qx7 (d:=.int k) rfl rfl ⟨by rw[qf5];unfold big;lia,l _ _ ⟨p,_,L++[k],rfl,B',qw7,by rw[o];exact f.append (List.Sublist.refl _)⟩⟩};exact l _ _ ⟨p,_,L,rfl,B',rfl,by rw[o];exact f.trans (zCl _ _)⟩
 rintro e ι ⟨b,d,L,rfl,B,rfl,f⟩;exact h b d L B (f.trans (zC6 _ _))
theorem qaT9(h:qc ds (λb a=>if b=true then t e a else u e a) e.xe):sIf qc t u e ds:=h
theorem qaR8{n:Int}{wr:Bool}{ps:Pr}{S:List Int}(b:1<=n)(a:NCd n wr ps S):S.length<=n.toNat:=by by_cases h:n.toNat<S.length;{refine absurd ⟨⋯,?_⟩ (a 0);cases wr with|true=>rw[if_pos rfl];exact⟨rfl,h⟩|false=>rw[if_neg ∅,List.filter_eq_self.mpr λ_ _=>zAf (zBb _)];lia};lia
def qaN1:VSp:=λds Q _=>∃b ns n wr ps ks,ds=[b,Ae n wr ps,.l true (O7 ks)]/\Ph ns b/\1<=n/\n<=64/\(ps.map (·.1)).Nodup/\ks.Nodup/\ks.length<=66/\∀a S T,Ph ns a->okL n wr ps ks S->okL n wr ps ks T->Q (.q [.l true (O7 S),.l true (O7 T)]) [a,Ae n wr ps,.l true (O7 ks)]
abbrev qr6(n:Int)(wr:Bool)(ps:Pr) (ks) (way) (p0 a b c:D):=([p0,Ae n wr ps,.l true (O7 ks),.int way,a,b,c]:Ds)
theorem qaR1(T:Txt K mg a):VFn P w K mg base 5 a.f45 a.d45 ["_law_bag_here", "_law_plan", "_law_keys"] qaN1:=by
 refine VFn.mk' T.d45.F qw1 (wOf [true,true,true]) (λg Q Q' J Y Z _ h=>by obtain⟨b,p,n,wr,f,c,e,h1,h2,h3,h4,h5,h6,q⟩:=h;exact⟨b,p,n,wr,f,c,e,h1,h2,h3,h4,h5,h6,λr S T a1 a2 a3=>Z _ _ (q r S T a1 a2 a3)⟩) (λg Q J h=>by obtain⟨b,p,n,wr,f,c,e,_⟩:=h;rw[e];rfl) (λg Q J h=>by obtain⟨b,p,n,wr,f,c,e,⟨x,y,w,eb,_⟩,_⟩:=h;rw[e,eb];rfl) (λ_ _ _ _ _ _ _ k=>⟨_,(Ab (An 3 qw1.nd (Aj T.d38 (qb3 T) qa0 (rm k) (vaN 0 (vaV (qa4 Af) Ac)))) (Ab (An 4 qw1.nd (Aj T.d44 (qG2 T) qa0 (rm k) (vaN 1 (vaV (ecN (NY:=["_law_key", "_law_bag_here"]) (src:=[none,some 0]) 2 (blk (λu C A H0 E=>(Bc 0 (show (["_law_key", "_law_bag_here"]:List Str).Nodup by decide +kernel))) (λu C A H0 E=>(Fd (q2v (A7 Bs (qb0 _)) (As Bs (qb0 _)) Db (Aj T.d38 (qb3 T) L2.qa0 (rm k) (vaN 1 (vaV (qa4 Af) Ac))) Af))) (λu C A H0 E=>(qb6 (vnm 0))))) Ac)))) (Ab (An 5 qw1.nd (Aj T.d44 (qG2 T) qa0 (rm k) (vaN 1 (vaV (ecV (NY:=["_law_key", "_law_bag_here"]) (src:=[none,some 0]) T.Cq (qb6 (vnm 2)) (blk (λu C A H0 E=>(Bc 0 (show (["_law_key", "_law_bag_here"]:List Str).Nodup by decide +kernel))) (λu C A H0 E=>(Fd (q2v (A7 Bs (qb0 _)) (As Bs (qb0 _)) Db (Aj T.d38 (qb3 T) L2.qa0 (rm k) (vaN 1 (vaV (qa4 Af) Ac))) Af))) (λu C A H0 E=>(qb6 (vnm 0))))) Ac)))) (Ab (sif (q2 (As (qj4 k.u64) (qb0 _)) Bl (vnm 3) Af) (Ak (An 5 qw1.nd (qa4 (E5 qd8 qw9.ops T.Ci (qa2 (vnm 4) qa6 rfl))))) Ay) (Ab (sif (q2 (As (qj4 k.u64) (qb0 _)) Bl (vnm 3) Af) (Ak (An 5 qw1.nd (eslN 4 (Aj T.d38 (qb3 T) qa0 (rm k) (vaN 0 (vaV (qa4 (v2 (Ap qf9) qf8 (vbi qt5 qt4.ops T.Cj (qa2 (vnm 4) qa6 rfl)) Af)) Ac)))))) Ay) (Ab (sif (Jh (q2 (As (qj4 k.u64) (qb0 _)) Bl (vnm 3) Af) (Gf (q2 (As (qv4 k.u64) (qb0 _)) Dr (vnm 4) (Bo qa6)))).te (Ab (An 6 qw1.nd (Aj T.d38 (qb3 T) qa0 (rm k) (vaN 0 (vaV (qa4 (vbi qt5 qt4.ops T.Cj (qa2 (vnm 4) qa6 rfl))) Ac)))) (Ak (An 5 qw1.nd (qa4 (v2 (Ap qf9) qf8 (vsl (vnm 4) Hi (Hj (vnm 6))) (vsl (vnm 4) (Hj (v2 (Ap qf9) qf8 (vnm 6) Af)) Hi)))))) Ay) (Ab (sif (q2v (A7 (qj4 k.u64) (qb0 _)) (As (qj4 k.u64) (qb0 _)) Bl (Aj T.d38 (qb3 T) qa0 (rm k) (vaN 0 (vaV (qa4 Af) Ac))) Af) (Ak (Av (Gu (vaV (efz 4) (vaV (efz 5) Ac))))) Ay) (Ak (Av (Gu (vaV (efz 5) (vaV (efz 4) Ac)))))))))))),λg Q J h=>?_⟩);obtain⟨b,p,n,wr,f,c,rfl,B,M,V,W,G,a0,q⟩:=h;refine Aw [b,Ae n wr f,.l true (O7 c),.u,.u,.u,.u] rfl ?_;refine qc0 (λg=>∃b way,g=(qr6 n wr f c way b .u .u .u)/\Ph p b) (λK j=>qe3 (qb8 rfl B rfl ∅ ∅ λv r s H B'=>j _ ⟨r,v,rfl,B'⟩)) ?_;clear B;rintro g ⟨b,way,rfl,B⟩;refine qc0 (λg=>∃b S,g=(qr6 n wr f c way b (kL S) .u .u)/\Ph p b/\okL n wr f c S) (λK j=>qe3 (qd6 (qc3 (x:=Ae n wr f) rfl (qc9 (qa1 (a:=D.l true (O7 c)) rfl (qa1 (a:=O7 c) rfl ⟨qf7 c,?_⟩)))))) ?_;{refine qai5 B (λv=>⟨decide (0<v),rfl⟩) ⋯ ∅ λb d L B t=>?_;have I:=t.length_le;have o:L.Nodup:=G.sublist t;refine qb7 (qa1 (a:=Ae n wr f) rfl ⟨n,wr,f,false,L,rfl,M,V,W,o,⋯,λS2 h N=>qa1 (a:=(qr6 n wr f c way b .u .u .u)) rfl (j _ ⟨b,S2,rfl,B,o.sublist h,λx O=>t.subset (h.subset O),N⟩)⟩)};clear B;rintro g ⟨b,S,rfl,B,l⟩;refine qc0 (λg=>∃b T,g=(qr6 n wr f c way b (kL S) (kL T) .u)/\Ph p b/\okL n wr f c T) (λK j=>qe3 (qd6 (qc3 (x:=Ae n wr f) rfl (qc9 (qx7 (d:=.l true (O7 c)) rfl rfl (qa1 (a:=O7 c) rfl ⟨qf7 c,?_⟩)))))) ?_;{rw[show (O7 c).reverse=O7 c.reverse from List.map_reverse.symm];refine qai5 B (λv=>⟨decide (0<v),rfl⟩) (by rw[zC9];lia) ∅ λb d L B t=>?_;have I:=t.length_le;have o:L.Nodup:=(List.pairwise_reverse.mpr (G.imp Ne.symm)).sublist t;refine qb7 (qa1 (a:=Ae n wr f) rfl ⟨n,wr,f,false,L,rfl,M,V,W,o,by rw[zC9] at I;lia,λS2 h N=>qa1 (a:=(qr6 n wr f c way b (kL S) .u .u)) rfl (j _ ⟨b,S2,rfl,B,o.sublist h,λx O=>List.mem_reverse.mp (t.subset (h.subset O)),N⟩)⟩)};clear B;rintro g ⟨b,T,rfl,B,i⟩;have a4:=qaR8 M l.2.2;refine qc0 (λg=>∃T,g=(qr6 n wr f c way b (kL S) (kL T) .u)/\okL n wr f c T) (λK j=>if_v (b:=decide (way=1)) rfl (λ_=>qn0 (d:=kL S) (qal4 (z:=false)) (j _ ⟨S,rfl,l⟩)) λ_=>j _ ⟨T,rfl,i⟩) ?_;clear i;rintro g ⟨T,rfl,i⟩;refine qc0 (λg=>∃b T,g=(qr6 n wr f c way b (kL S) (kL T) .u)/\Ph p b/\okL n wr f c T) (λK j=>if_v (b:=decide (way=2)) rfl (λ_=>qe3 ⟨rfl,qb8 (ds:=[b,Ae n wr f,.l true (O7 c),.int way,kL S,kL T,.u]) (m:=(S.length:Nat)+1) rfl B ?_ ⋯ ⋯ λv r s H B'=>qa1 (a:=v) rfl (qa1 (qaI9 (z:=false) s) (j _ ⟨r,_,rfl,B',l.sub (zC6 _ _)⟩))⟩) λ_=>j _ ⟨b,T,rfl,B,i⟩) ?_;{refine Ag (x:=.int (S.length:Nat)) (y:=.int 1) ?_ rfl rfl;rw[ql4 (z:=false) (ys:=O7 S) rfl,qf5]};clear i B;rintro g ⟨b,T,rfl,B,i⟩;refine qc0 (λg=>∃b T R,g=(qr6 n wr f c way b (kL S) (kL T) R)/\Ph p b/\okL n wr f c T) (λK j=>Jx (decide (way=3)&&!decide (S=[])) (λQ q=>qp2 _ _ (λQ q=>qi1 rfl q) (λ_ Q q=>qi1 (Ag rfl rfl (ne_ks S)) q) q) (λh=>?_) λ_=>j _ ⟨b,T,_,rfl,B,i⟩) ?_
 .have U:S≠[]:=λe=>by subst e;simp at h
  have X:=List.length_pos_iff.mpr U;refine qc0 (λg=>∃b v,g=(qr6 n wr f c way b (kL S) (kL T) (.int v))/\Ph p b/\0<=v/\v<(S.length:Nat)) (λK j=>qe3 (qb8 rfl B ?_ ⋯ ⋯ λv r s H B'=>j _ ⟨r,v,rfl,B',s,H⟩)) ?_;{rw[ql4 (z:=false) (ys:=O7 S) rfl,qf5]};rintro g ⟨b,v,rfl,B,s,H⟩;refine qn0 (d:=kL (S.take v.toNat++S.drop (v+1).toNat)) (Ag (x:=kL (S.take v.toNat)) (y:=kL (S.drop (v+1).toNat)) (qaI9 (z:=false) s) (qbd9 (z:=false) ⋯) (qV5 (by rw[zBa,zCe];lia))) (j _ ⟨b,_,_,rfl,B,l.sub ?_⟩);rw[show (v+1).toNat=v.toNat+1 by lia,<-L9];exact List.eraseIdx_sublist ..
 clear i B;rintro g ⟨b,T,R,rfl,B,i⟩;refine qaI7 (qI4 (qb8 (ds:=[b,Ae n wr f,.l true (O7 c),.int way,kL S,kL T,R]) rfl B rfl ∅ ∅ λv r s H B'=>qa1 (a:=D.bl (decide (v=0))) rfl (qa1 (a:=decide (v=0)) rfl (ite_b (λ_=>?_) λ_=>?_))));{refine qi2 (qc9 (qa1 (a:=D.l false (O7 S)) rfl (qc9 (qa1 (a:=D.l false (O7 T)) rfl (qb7 ⟨lt2,?_⟩)))));rw[Eu,Eu];exact q r S T B' l i};refine qi2 (qc9 (qa1 (a:=D.l false (O7 T)) rfl (qc9 (qa1 (a:=D.l false (O7 S)) rfl (qb7 ⟨lt2,?_⟩)))));rw[Eu,Eu];exact q r T S B' i l
theorem qc6:qa9 ["_law_bag_here", "_law_plan", "_law_keys", "_law_size", "_law_homes", "_law_key", "_law_number", "_law_told"] ["_law_bag_here", "_law_plan", "_law_keys"] (qa3 qk6):=by walk_at "s"
theorem qaA1{g:Ds->Ds->Option (Ds×D)}(h1:ds[i]?=some (.l false ys))(h:tr ds (λxs _ ds1=>orF ((rdN i ds1).bind D.own) λys=>orF (g ys xs) λz=>Q z.2 (ds1.set i (.l false z.1))) xe):Eg g i tr ds Q xe:=⟨by rw[qh0 h1 rfl];rfl,h⟩
theorem qal3{k m:Int}:∀{ps:Pr},(ps.map (·.1)).Nodup->(k,m)∈ps->ps.lookup k=some m|[],_,h=>nomatch h|(a,b)::ps,nd,h=>by rw[zAz,zCi] at nd;rcases zAi.mp h with h|h;{cases h;exact List.lookup_cons_self};rw[zAv,show (k==a)=false from zCp λe=>nd.1 (e ▸ Mf (f:=(·.1)) h)];exact qal3 nd.2 h
theorem qX6{k:Int}:∀{ps:Pr},¬k∈ps.map (·.1)->ps.lookup k=none|[],_=>rfl|(a,b)::ps,h=>by rw[zAz,zAi,not_or] at h;rw[zAv,show (k==a)=false from zCp h.1];exact qX6 h.2
theorem qan7{m:Int}(a:(ps.map (·.1)).Nodup)(h:(k,m)∈ps):qb4 n ps k=m%n:=by unfold qb4;rw[qal3 a h];rfl
theorem qJ6(h:¬k∈ps.map (·.1)):qb4 n ps k=k%n:=by unfold qb4;rw[qX6 h];rfl
theorem qaT1{K:Ds->Ds->Prop}{b:D}(l:F.length<1000)(h:∀d e,K (O7 (F.map (·.1))) [d,e]):Dm (Jm 2 (Jl (gNm 0) (Jl (gNm 1) Jk))) qYes (Dk (rdN 0)) K (O9 F) [] [b,c]:=by
 refine qm3 (λι=>∃d e,ι=[d,e]) (λx=>some (match x with | .q [.int k,.int _]=>.int k|d=>d)) _ [] _ (by show 0+_<1000000;rw[qN8];lia) ⟨_,_,rfl⟩ ?_ ?_;{rintro y g ι i ⟨d,e,rfl⟩ R j a;obtain⟨⟨k,f⟩,_,rfl⟩:=zBc.mp g;have this:=j [.int k,.int f] ⟨_,_,rfl⟩;exact qq9 (qC9 (Bq rfl (qx7 (d:=.int k) rfl rfl ⟨a,this⟩)))};rintro ι ⟨d,e,rfl⟩;rw[zB8,qU3];have e:((O9 F).map λx=>match x with | .q [.int k,.int _]=>D.int k|d=>d)=O7 (F.map (·.1)):=by unfold O9 O7;rw[zCs,zCs];rfl
 rw[e];exact h _ _
def qD6:VSp:=λds Q _=>∃b ns n wr ps ks,ds=[b,Ae n wr ps,.l true (O7 ks)]/\Ph ns b/\1<=n/\n<=64/\qK5 ps/\ks.Nodup/\(∀k∈ks,Ah k)/\(∃t,ps.map (·.1)=ks.take t)/\∀c a,Ph ns c->qK5 a->(∀k,qb4 n a k=qb4 n ps k)->Q (.l false (O9 a)) [c,Ae n wr ps,.l true (O7 ks)]
abbrev qd2(n:Int)(wr:Bool)(ps:Pr) (ks) (qs) (p0 a b c:D):=([p0,Ae n wr ps,.l true (O7 ks),.int n,.l false (O9 qs),a,b,c]:Ds)
theorem qE4(T:Txt K mg a):VFn P w K mg base 2 a.f46 a.d46 ["_law_bag_here", "_law_plan", "_law_keys"] qD6:=by
 refine VFn.mk' T.d46.F qc6 (wOf [true,true,true]) (λo Q Q' Z a9 hQ _ h=>by obtain⟨b,L,n,wr,g,l,e,u,N,V,W,h5,h6,h7,q⟩:=h;exact⟨b,L,n,wr,g,l,e,u,N,V,W,h5,h6,h7,λb' f a1 a2 a3=>hQ _ _ (q b' f a1 a2 a3)⟩) (λo Q Z h=>by obtain⟨b,L,n,wr,g,l,e,_⟩:=h;rw[e];rfl) (λo Q Z h=>by obtain⟨b,L,n,wr,g,l,e,⟨x,y,w,eb,_⟩,_⟩:=h;rw[e,eb];rfl) (λ_ _ _ _ _ _ _ hr=>⟨_,(Ab (An 3 qc6.nd (qb6 (v2 (Aq qa8) Al (vnm 1) Af))) (Ab (An 4 qc6.nd (qa4 (Bo qa6))) (Ab (sforV N6 T.Cq (qb6 (v2 (Aq qa8) Al (vnm 1) Af)) (Fa (n:=2) rfl (qt1 (Bc 5 qc6.nd) (qt1 (Bc 6 qc6.nd) E9))) (Ak (Bb (Bp 4 qq3 N9 Oa Ob qc8 (vaV (Gu (vaV (qb6 (vnm 5)) (vaV (e2 (Ap qf9) qf8 (qa4 (v2 (Ap qn5) qn4 (vnm 6) (vnm 3))) (e2n 3 (Ap qB1) qB0 (Aj T.d38 (qb3 T) qa0 (rm hr) (vaN 0 (vaV (qa4 Af) Ac))))) Ac))) Ac))))) (Ab (scN (NY:=["_law_key", "_law_number"]) (src:=[none,none]) 7 4 qc6.nd (blk (λav C s0 H0 ex=>(Fa (n:=2) rfl (qt1 (Bc 0 (show (["_law_key", "_law_number"]:List Str).Nodup by decide +kernel)) (qt1 (Bc 1 (show (["_law_key", "_law_number"]:List Str).Nodup by decide +kernel)) E9)))) (λav C s0 H0 ex=>Ea) (λav C s0 H0 ex=>(qb6 (vnm 0))))) (Ab (Hl N6 (eslN 2 (Aj T.d38 (qb3 T) qa0 (rm hr) (vaN 0 (vaV (qa4 Af) Ac)))) (Bc 5 qc6.nd) (Ak (sif (q2 (As qB3 (by with_unfolding_all rfl)) Ge (vnm 5) (vnm 7)) (Ak (Bb (Bp 4 qq3 N9 Oa Ob qc8 (vaV (qa4 (En (qa2 (vnm 5) (qa2 (v2 (Ap qn5) qn4 (vnm 5) (vnm 3)) qa6 rfl) rfl))) Ac)))) Ay))) (Ak (Av (emv 4)))))))),λo Q Z h=>?_⟩);obtain⟨b,L,n,wr,g,l,rfl,B,n1,n2,G,a0,hk,⟨tt,X⟩,q⟩:=h;have a4:=G.len;refine Aw [b,Ae n wr g,.l true (O7 l),.u,.u,.u,.u,.u] rfl ?_;refine qb2 [b,Ae n wr g,.l true (O7 l),.int n,.u,.u,.u,.u] (λK J=>qL5 (d:=.int n) rfl rfl J) ?_;refine qb2 [b,Ae n wr g,.l true (O7 l),.int n,.l false (O9 []),.u,.u,.u] (λK J=>qn0 rfl J) ?_;refine qc0 (λo=>∃b f s r,o=(qd2 n wr g l f b s r .u)/\Ph L b/\f.map (·.1)=g.reverse.map (·.1)/\∀p∈f,Ah p.2/\p.2%n=qb4 n g p.1) (λK J=>?_) ?_
 .refine qx7 (d:=.l true (O9 g)) rfl rfl (qa1 (a:=O9 g) rfl ⟨qC2 g,?_⟩);rw[show (O9 g).reverse=O9 g.reverse from List.map_reverse.symm];refine qe8 (λi o=>∃b f s r,o=(qd2 n wr g l f b s r .u)/\Ph L b/\f.map (·.1)=(g.reverse.take i).map (·.1)/\∀p∈f,Ah p.2/\p.2%n=qb4 n g p.1) _ 0 _ ⟨b,[],_,_,rfl,B,rfl,nofun⟩ ?_ ?_
  .rintro i y M o ⟨b,f,s,r,rfl,B,H,I⟩ K2 A;rw[zAe] at H A;obtain⟨⟨k,m⟩,O,rfl⟩:∃q,g.reverse[i]?=some q/\y=.q [.int q.1,.int q.2]:=by unfold O9 at M;rw[zB5] at M;obtain⟨q,u,N⟩:=zAa.mp M;exact⟨q,u,N.symm⟩
   have R:(k,m)∈g:=List.mem_reverse.mp (zB1 O);have a5:f.length<=64:=by have:=congrArg Ll H;rw[zA9,zA9,zBa,zC9] at this;lia
   refine qq9 (Aw (qd2 n wr g l f b (.int k) (.int m) .u) rfl ?_);refine qe5 (qaA1 (ys:=O9 f) rfl (qax6 (qb9 (y:=.int k) rfl rfl (qc9 (qD1 (x:=.int (m%n)) (Ag rfl rfl (Ed ⋯)) ⟨rfl,qb8 (ds:=[b,Ae n wr g,.l true (O7 l),.int n,.l false (O9 f),.int k,.int m,.u]) (m:=9) rfl B rfl ∅ ∅ λv b Y v1 B=>?_⟩)))));refine qa1 (a:=D.int (n*v)) (show F6 (.int n) (.int v)=_ from mulL (qR7 ⋯ ⋯)) (qa1 (a:=D.int (m%n+n*v)) rfl (qb7 ⟨lt2,qb7 (qa1 (a:=O9 f) rfl (qa1 (a:=(O9 (f++[(k,m%n+n*v)]),D.non)) ?_ (A _ ⟨b,_,_,_,rfl,B,?_,?_⟩)))⟩));{rw[<-qai1];exact if_pos (by rw[qN8];unfold big;lia)};{rw[zBj,H,zBp,O,zBj];rfl};intro p h;rcases zAb.mp h with h|h;{exact I p h};rw[zA8.mp h];have u:=zCq m (show n≠0 by lia);have N:=zBy m (show 0<n by lia);have V:0<=n*v:=Int.mul_nonneg ⋯ Y;have W:n*v<=64*9:=Int.mul_le_mul n2 ⋯ Y ∅;refine⟨⟨⋯,⋯⟩,?_⟩;show (m%n+n*v)%n=qb4 n g k;rw[qan7 G.nd R,Int.add_mul_emod_self_left,Int.emod_emod_of_dvd _ (Int.dvd_refl n)]
  rintro o ⟨b,f,s,r,rfl,B,H,I⟩;rw[zAe,qN8,zCv] at H;exact J _ ⟨b,f,s,r,rfl,B,H,I⟩
 rintro o ⟨b,c,s,r,rfl,B,H,I⟩;have a6:c.length=g.length:=by have:=congrArg Ll H;rwa[zA9,zA9,zC9] at this
 refine qb2 [b,Ae n wr g,.l true (O7 l),.int n,.l false (O9 c),s,r,kL (c.map Prod.fst)] (λK J=>qe3 (qa1 (a:=D.l false (O9 c)) rfl (qa1 (a:=O9 c) rfl ⟨qC2 c,qaT1 ⋯ λ_ _=>J⟩))) ?_;have mem0:∀k,k∈c.map (·.1)↔k∈l.take tt:=λk=>by rw[H,Ng,List.mem_reverse,X]
 have a7:(c.map (·.1)).Nodup:=by rw[H,Ng];exact List.pairwise_reverse.mpr (G.nd.imp Ne.symm)
 refine qc0 (λo=>∃b f s r,o=(qd2 n wr g l f b s r (kL (c.map Prod.fst)))/\Ph L b/\∃j,j<=2/\f.map (·.1)=c.map (·.1)++(l.take j).filter (λk=>!decide (k∈c.map (·.1)))/\∀p∈f,Ah p.2/\p.2%n=qb4 n g p.1) (λK J=>?_) ?_
 .refine⟨rfl,qb8 (ds:=[b,Ae n wr g,.l true (O7 l),.int n,.l false (O9 c),s,r,kL (c.map Prod.fst)]) (m:=3) rfl B rfl ∅ ∅ λv b Y v1 B=>qa1 (a:=v) rfl (qa1 (qaI9 (z:=true) Y) (qa1 (a:=O7 (l.take v.toNat)) rfl ⟨qf7 _,?_⟩))⟩;refine qe8 (λi o=>∃b f s r,o=(qd2 n wr g l f b s r (kL (c.map Prod.fst)))/\Ph L b/\f.map (·.1)=c.map (·.1)++(((l.take v.toNat).take i).filter λk=>!decide (k∈c.map (·.1)))/\∀p∈f,Ah p.2/\p.2%n=qb4 n g p.1) _ 0 _ ⟨b,c,_,_,rfl,B,by rw[Mv,Mr,zAg],I⟩ ?_ ?_
  .rintro i y M o ⟨b,f,s,r,rfl,B,E,I⟩ K2 A;rw[zAe] at E A;obtain⟨k,O,rfl⟩:=Jz M;have b0:Ah k:=hk k (Ln (zB1 O));have a8:=Lm (λk=>!decide (k∈c.map (·.1))) ((l.take v.toNat).take i);have a5:f.length<=100:=by have:=congrArg Ll E;rw[zA6,zA9,zA9] at this;rw[zBa,zBa] at a8;lia
   refine qj9 (Aw (qd2 n wr g l f b (.int k) r (kL (c.map Prod.fst))) rfl ?_);refine if_v (b:=!decide (k∈c.map (·.1))) (Ag rfl rfl qaj8) (λh=>?_) λh=>A _ ⟨b,f,_,_,rfl,B,?_,I⟩;{refine qe5 (qP7 (ys:=O9 f) (d:=.q [.int k,.int (k%n)]) rfl (qax8 rfl (Ag rfl rfl (Ed ⋯)) rfl rfl) (by rw[qN8];unfold big;lia) ?_);rw[qai1];refine A _ ⟨b,_,_,_,rfl,B,?_,λp t=>?_⟩;{rw[zBj,E,zBp,O,Mi,zAs];show _++(_++[k])=_++(_++[k].filter _);rw[Mm,if_pos h,Mr]};rcases zAb.mp t with u|u;{exact I p u};rw[zA8.mp u];have u:=zCq k (show n≠0 by lia);have N:=zBy k (show 0<n by lia);refine⟨⟨u,by show k%n<=_;lia⟩,?_⟩;show k%n%n=qb4 n g k;rw[qJ6,Int.emod_emod_of_dvd _ (Int.dvd_refl n)];intro z;rw[X] at z;rw[zAf ((mem0 k).mpr z)] at h;cases h};rw[E,zBp,O,Mi];show _++_=_++(_++[k].filter _);rw[Mm,if_neg (by rw[h];decide),Mr,zAg]
  rintro o ⟨b,f,s,r,rfl,B,E,I⟩;rw[zAe,qf5,zCv] at E;exact J _ ⟨b,f,s,r,rfl,B,v.toNat,⋯,E,I⟩
 rintro o ⟨b,f,b1,b2,rfl,B,j,hj,E,S⟩;have U:(f.map (·.1)).Nodup:=by rw[E];exact zBg.mpr ⟨a7,(a0.sublist (zC6 _ _)).filter _,λx hx y M e=>by have h:=(zB2.mp M).2;rw[<-e,zAf hx] at h;cases h⟩
 refine q b f B ⟨?_,U,λp t=>⟨?_,(S p t).1⟩⟩ λk=>?_;{have u:=congrArg Ll E;rw[zA6,zA9,zA9,a6] at u;by_cases N:2<=tt;{rw[List.filter_eq_nil_iff.mpr λx hx=>by rw[zAf ((mem0 x).mpr ((List.take_prefix_take_left ⋯).subset hx))];decide] at u;show f.length<=64;simpa using (show f.length<=64 by rw[u];simpa using a4)};have V:=Lm (λk=>!decide (k∈c.map (·.1))) (l.take j);have W:=congrArg Ll X;rw[zA9,zBa] at W;rw[zBa] at V;show f.length<=64;lia};{have:p.1∈f.map (·.1):=Mf t;rw[E,zAb] at this;rcases this with h|h;{exact hk _ (Ln ((mem0 _).mp h))};exact hk _ (Ln (zB2.mp h).1)};by_cases h:k∈f.map (·.1);{obtain⟨p,t,rfl⟩:=zBc.mp h;rw[qan7 U (show (p.1,p.2)∈f from t)];exact(S p t).2};rw[qJ6 h,qJ6];rw[X];intro z;refine h ?_;rw[E];exact zC4 _ ((mem0 k).mpr z)
theorem qx5:qa9 ["self"] ["self"] (qa3 qh8):=by walk_at "s"
def qx3(C CP:γ):VSp:=A5 λds d=>∃zr n wr ps g dn,ds=[Am zr C CP n wr ps g dn]/\d=.l false (O8 n.toNat g)
theorem qm1(T:Txt K mg a):VFn P w K mg base 1 a.f25 a.d25 ["self"] (qx3 a.C4 a.C3):=by refine VFn.mk2 T.d25.F qx5 (wOf [true]) qb5 (by walk_at "l") (λ_ _ _ _ _ _ _ f=>⟨_,(Ak (Av (qa4 (E5 qd8 qw9.ops T.Ci (qa2 (Bh rfl (vnm 0) T.C6.cl T.Ca) qa6 rfl))))),λi Q j h=>?_⟩);obtain⟨d,⟨b,n,wr,c,g,e,rfl,rfl⟩,q⟩:=h;refine Aw [Am b a.C4 a.C3 n wr c g e] rfl ?_;refine qg5 (rL n g) ?_ q;unfold A9 A6;rw[A4 rfl qs3];exact qh4 (qC1 _ _)
theorem qp8:qa9 ["one", "other", "keys"] ["one", "other", "keys"] (qa3 qf1):=by walk_at "s"
theorem t2_to(h:ta ds (λx ds1=>tb ds1 (λy a=>orF (g x y) λd=>Q d a) xe) xe):t2 g ta tb ds Q xe:=h
def qp6(C CP:γ):VSp:=A5 λds d=>∃z z' n wr b ps a g g' dn c y ks,ds=[Am z C CP n wr ps g dn,Am z' C CP n b a g' c,.l y (O7 ks)]/\1<=n/\(∀k∈ks,Ah k)/\ks.length<=1000/\(∀k∈ks,qb4 n ps k=qb4 n a k)/\d=.bl true
theorem qq2(T:Txt K mg a):VFn P w K mg base 5 a.f33 a.d33 ["one", "other", "keys"] (qp6 a.C4 a.C3):=by refine VFn.mk2 T.d33.F qp8 (wOf [true,true,true]) qb5 (by walk_at "l") (λ_ _ _ _ _ _ _ s=>⟨_,(Ak (Av (ebi (qK3 rfl) qaK6.ops T.Cz (Ej (vaV (ecN (NY:=["key", "one", "other"]) (src:=[none,some 0,some 1]) 2 (blk (λu C v H0 A=>(Bc 0 (show (["key", "one", "other"]:List Str).Nodup by decide +kernel))) (λu C v H0 A=>Ea) (λu C v H0 A=>(e2 (A7 (qj4 s.u64) (qb0 _)) Bl (qaW2 T.d9 T.C5.cl (qh9 T) L2.qa0 (rm s) (Bh rfl (vnm 1) T.C6.cl T.C9) (vaN 0 Ac)) (qaW2 T.d9 T.C5.cl (qh9 T) L2.qa0 (rm s) (Bh rfl (vnm 2) T.C6.cl T.C9) (vaN 0 Ac)))))) Ac))))),λJ Q L h=>?_⟩);obtain⟨d,⟨z,j,n,wr,c,f,b,g,m,o,e,y,p,rfl,B,E,M,G,rfl⟩,q⟩:=h;refine Aw [Am z a.C4 a.C3 n wr f g o,Am j a.C4 a.C3 n c b m e,.l y (O7 p)] rfl ?_;refine qi2 (co_to (qc9 (qa1 (a:=D.l y (O7 p)) rfl (qa1 (a:=O7 p) rfl ⟨qf7 p,?_⟩))));refine qm3 (λι=>∃d,ι=[d,Am z a.C4 a.C3 n wr f g o,Am j a.C4 a.C3 n c b m e]) (λ_=>some (.bl true)) _ [] _ (by show 0+_<1000000;rw[qf5];lia) ⟨_,rfl⟩ ?_ ?_;{rintro y H ι t ⟨d,rfl⟩ R I r;obtain⟨k,i,rfl⟩:=zBc.mp H;have this:R (t++[D.bl true]) _:=I [.int k,Am z a.C4 a.C3 n wr f g o,Am j a.C4 a.C3 n c b m e] ⟨_,rfl⟩;refine qj9 (qC9 (Bq rfl (t2_to (qak6 (d:=Ad true a.C3 n wr f) (A4 rfl qf2) rfl (qf6 rfl) (qc3 (x:=.int k) rfl (qb7 (qa1 (a:=D.int k) rfl ⟨_,⟨true,n,wr,f,k,rfl,B,E k i,rfl⟩,?_⟩)))))));refine qa1 (a:=[.int k,Am z a.C4 a.C3 n wr f g o,Am j a.C4 a.C3 n c b m e]) rfl ?_;refine qak6 (d:=Ad true a.C3 n c b) (A4 rfl qf2) rfl (qf6 rfl) (qc3 (x:=.int k) rfl (qb7 (qa1 (a:=D.int k) rfl ⟨_,⟨true,n,c,b,k,rfl,B,E k i,rfl⟩,?_⟩)));refine qa1 (a:=[.int k,Am z a.C4 a.C3 n wr f g o,Am j a.C4 a.C3 n c b m e]) rfl (qa1 (a:=D.bl true) ?_ ⟨r,this⟩);rw[G k i];show some (D.bl (qb4 n b k==qb4 n b k))=_;rw[zBf]};rintro ι ⟨d,rfl⟩;rw[zB8,qU3];refine qb7 (qa1 (a:=D.bl true) ?_ q);rw[show fx1 gAll [D.l false ((O7 p).map λ_=>D.bl true)]=_ from qaL5 (λ_=>true) _,zBo.mpr λ_ _=>rfl]
theorem qy9:qa9 ["one", "other"] ["one", "other"] (qa3 qi6):=by walk_at "s"
def qy4(C CP:γ):VSp:=A5 λds d=>∃z z' n wr ps a g g' dn b,ds=[Am z C CP n wr ps g dn,Am z' C CP n wr a g' b]/\1<=n/\n<=64/\(∀i k,i<n.toNat->g i=some k∨g' i=some k->Ah k/\qb4 n ps k=qb4 n a k)/\d=.non
theorem qn6(T:Txt K mg a):VFn P w K mg base 6 a.f34 a.d34 ["one", "other"] (qy4 a.C4 a.C3):=by
 refine VFn.mk2 T.d34.F qy9 (wOf [true,true]) qb5 (by walk_at "l") (λ_ _ _ _ _ _ _ r=>⟨_,(Ab (sif (tor (q2 (As (qv4 r.u64) (qb0 _)) Dr (Bh rfl (Bh rfl (vnm 0) T.C6.cl T.C9) T.C5.cl T.C7) (Bh rfl (Bh rfl (vnm 1) T.C6.cl T.C9) T.C5.cl T.C7)) (tor1 (q2 (As (qv4 r.u64) (qb0 _)) Dr (Bh rfl (Bh rfl (vnm 0) T.C6.cl T.C9) T.C5.cl T.Cb) (Bh rfl (Bh rfl (vnm 1) T.C6.cl T.C9) T.C5.cl T.Cb)))).te (Ak qm5) Ay) (Ak (sif (B8 (te (Aj T.d33 (qq2 T) qa0 (rm r) (vaN 0 (vaN 1 (vaV (e2 (Ap qf9) qf8 (qt3 0 T.d26 T.C6.cl (qf3 T) qa0 (rm r)) (qt3 1 T.d26 T.C6.cl (qf3 T) qa0 (rm r))) Ac)))))) (Ak qm5) Ay))),λC Q D h=>?_⟩);obtain⟨d,⟨z,m,n,wr,j,b,g,f,o,c,rfl,y,s,t,rfl⟩,q⟩:=h;refine Aw [Am z a.C4 a.C3 n wr j g o,Am m a.C4 a.C3 n wr b f c] rfl ?_;refine qg7 false (λQ q=>qV8 false false (λQ q=>qi1 (Ag (A4 (A4 rfl qf2) qd4) (A4 (A4 rfl qf2) qd4) (qao2 rfl)) q) (λ_ Q q=>qi1 (Ag (A4 (A4 rfl qf2) qo2) (A4 (A4 rfl qf2) qo2) (qao2 rfl)) q) q) nofun λ_=>?_
 have A:=zBz g (Lh n.toNat);have B:=zBz f (Lh n.toNat);rw[zB0] at A B;have u:∀k∈(Lh n.toNat).filterMap g++(Lh n.toNat).filterMap f,Ah k/\qb4 n j k=qb4 n b k:=λk h=>by rcases zAb.mp h with h|h<;>obtain⟨i,v,e⟩:=zC0.mp h;{exact t i k (zAj.mp v) (.inl e)};exact t i k (zAj.mp v) (.inr e)
 refine Jx false (λQ q=>(show Ep _ _ _ _ from(show ttE _ _ _ _ from ?_))) nofun λ_=>q
 refine qd6 (qc3 (x:=Am z a.C4 a.C3 n wr j g o) rfl (qc3 (x:=Am m a.C4 a.C3 n wr b f c) rfl (qc9 (t2_to ?_))));refine qN5 (p:=Am z a.C4 a.C3 n wr j g o) (d:=kL ((Lh n.toNat).filterMap g)) rfl (qh3 rfl) ⟨z,n,wr,j,g,o,rfl,s,rfl⟩ rfl ?_;refine qN5 (p:=Am m a.C4 a.C3 n wr b f c) (d:=kL ((Lh n.toNat).filterMap f)) rfl (qh3 rfl) ⟨m,n,wr,b,f,c,rfl,s,rfl⟩ rfl ?_;refine qa1 (qV5 ⋯) (qb7 (qa1 (a:=Am m a.C4 a.C3 n wr b f c) rfl (qa1 (a:=Am z a.C4 a.C3 n wr j g o) rfl ?_)));exact⟨_,⟨z,m,n,wr,wr,j,b,g,f,o,c,false,_,rfl,y,λk h=>(u k h).1,by rw[zA6];lia,λk h=>(u k h).2,rfl⟩,qa1 (a:=[Am z a.C4 a.C3 n wr j g o,Am m a.C4 a.C3 n wr b f c]) rfl (qa1 (a:=true) rfl q)⟩
theorem qu0:qa9 ["one", "other", "room", "pair"] ["one", "other"] (qa3 qz4):=by walk_at "s"
noncomputable def Gr(N:Nat)(g g':Nat->Option Int):Option Nat:=(Lh N).find? λi=>decide (g i≠g' i)
def partD(N:Nat)(g g':Nat->Option Int):D:=match Gr N g g' with|some i=>.q [.int (i:Nat),At (g i),At (g' i)]|none=>.non
theorem qM2{g:Nat->Option Int}(hi:i<N)(h:g i≠g' i)(a:∀j,j<i->g j=g' j):Gr N g g'=some i:=List.find?_range_eq_some.mpr ⟨zAf h,zAj.mpr hi,λj b=>by rw[zAy λz=>z (a j b)];rfl⟩
theorem qA8{g:Nat->Option Int}(a:∀j,j<N->g j=g' j):Gr N g g'=none:=zCm.mpr λj b=>by rw[zAy λz=>z (a j b)];rfl
theorem qaR7:gNe (At o) (At o')=some (.bl (decide (o≠o'))):=by cases o with|none=>(cases o' with|none=>rfl|some k=>rfl)|some j=>cases o' with|none=>rfl|some k=>show some (D.bl (!(j==k)))=_;congr 2;by_cases h:j=k;{subst h;rw[zBf,zAy λz=>z rfl];rfl};rw[zCp h];exact(zAf (show some j≠some k from λz=>h (N5 z))).symm
theorem qaX7{g:Nat->Option Int}(h:(enD (zipD (O8 N g) (O8 N g')))[i]?=some y):i<N/\y=.q [.int (i:Nat),.q [At (g i),At (g' i)]]:=by by_cases a:i<N;{have:=qax3 (qC3 (g:=g) a) (qC3 (g:=g') a);rw[this] at h;exact⟨a,(N5 h).symm⟩};rw[zBx (by rw[qae0];unfold zipD;rw[Me,qj7,qj7];lia)] at h;cases h
def qab2(C CP:γ):VSp:=A5 λds d=>∃z z' n wr ps a g g' dn b,ds=[Am z C CP n wr ps g dn,Am z' C CP n wr a g' b]/\1<=n/\n<=64/\(∀i k,i<n.toNat->g i=some k∨g' i=some k->Ah k/\qb4 n ps k=qb4 n a k)/\d=partD n.toNat g g'
theorem qG0(T:Txt K mg a):VFn P w K mg base 7 a.f35 a.d35 ["one", "other"] (qab2 a.C4 a.C3):=by refine VFn.mk2 T.d35.F qu0 (wOf [true,true]) qb5 (by walk_at "l") (λ_ _ _ _ _ _ _ A=>⟨_,(Ab (Bb (Aj T.d34 (qn6 T) qa0 (rm A) (vaN 0 (vaN 1 Ac)))) (Ab (qaY8 N6 T.Co T.D7 (vaV (qt3 0 T.d25 T.C6.cl (qm1 T) qa0 (rm A)) (vaV (qt3 1 T.d25 T.C6.cl (qm1 T) qa0 (rm A)) Ac)) (Fa (n:=2) rfl (qt1 (Bc 2 qu0.nd) (qt1 (Bc 3 qu0.nd) E9))) (Ak (sif (q2 (As (qv4 A.u64) (qb0 _)) Dr (v2 (Aq qa8) Al (vnm 3) Af) (v2 (Aq qa8) Al (vnm 3) Af)) (Ak (Av (qa4 (En (qa2 (vnm 2) (qa2 (v2 (Aq qa8) Al (vnm 3) Af) (qa2 (v2 (Aq qa8) Al (vnm 3) Af) qa6 rfl) rfl) rfl))))) Ay))) (Ak (Av (qa4 Be))))),λr Q L h=>?_⟩);obtain⟨d,⟨z,k,n,wr,m,c,g,e,o,f,rfl,C,D,E,rfl⟩,q⟩:=h;refine Aw [Am z a.C4 a.C3 n wr m g o,Am k a.C4 a.C3 n wr c e f,.u,.u] rfl ?_;refine qb2 [Am z a.C4 a.C3 n wr m g o,Am k a.C4 a.C3 n wr c e f,.u,.u] (λK B=>qe5 (qE9 (x:=Am z a.C4 a.C3 n wr m g o) (y:=Am k a.C4 a.C3 n wr c e f) rfl rfl rfl ⟨z,k,n,wr,m,c,g,e,o,f,rfl,C,D,E,rfl⟩ rfl B)) ?_;refine qc0 (λr=>∃s t,r=[Am z a.C4 a.C3 n wr m g o,Am k a.C4 a.C3 n wr c e f,s,t]/\∀j,j<n.toNat->g j=e j) (λK B=>?_) ?_;{refine qc9 (qN5 (p:=Am z a.C4 a.C3 n wr m g o) (d:=rL n g) rfl (qh3 rfl) ⟨z,n,wr,m,g,o,rfl,rfl⟩ rfl (qc9 (qN5 (p:=Am k a.C4 a.C3 n wr c e f) (d:=rL n e) rfl (qh3 rfl) ⟨k,n,wr,c,e,f,rfl,rfl⟩ rfl (qb7 (qa1 (a:=(O8 n.toNat g,O8 n.toNat e)) rfl ⟨qC1 _ _,qC1 _ _,by show (O8 _ _).length=(O8 _ _).length;rw[qj7,qj7],?_⟩)))));refine qe8 (λi r=>∃s t,r=[Am z a.C4 a.C3 n wr m g o,Am k a.C4 a.C3 n wr c e f,s,t]/\∀j,j<i->g j=e j) _ 0 _ ⟨_,_,rfl,nofun⟩ ?_ ?_;{rintro i y G r ⟨s,t,rfl,u⟩ K2 v;rw[zAe] at u v;obtain⟨H,rfl⟩:=qaX7 G;refine qq9 (Aw [Am z a.C4 a.C3 n wr m g o,Am k a.C4 a.C3 n wr c e f,.int (i:Nat),.q [At (g i),At (e i)]] rfl ?_);refine if_v (b:=decide (g i≠e i)) (Ag (Ag (y:=.int 0) rfl rfl rfl) (Ag (y:=.int 1) rfl rfl rfl) qaR7) (λh=>?_) λh=>?_;{unfold partD at q;rw[qM2 H (zAd h) u] at q;refine qi2 (qm6 (d:=.q [.int (i:Nat),At (g i),At (e i)]) ?_ q);show gTup [_,At (g i),At (e i)]=_;exact qh4 ⟨by show (true&&((At (g i)).imm&&((At (e i)).imm&&true)))=true;rw[qt0,qt0];rfl,lt3⟩};refine v _ ⟨_,_,rfl,λj I=>?_⟩;rcases zCr.mp I with J|rfl;{exact u j J};exact Decidable.not_not.mp (zB6 h)};rintro r ⟨s,t,rfl,u⟩;refine B _ ⟨s,t,rfl,λj h=>u j ?_⟩;rw[zAe,qae0];unfold zipD;show j<(Nt _ (O8 n.toNat g) (O8 n.toNat e)).length;rw[Me,qj7,qj7,Nat.min_self];exact h};rintro r ⟨s,t,rfl,u⟩;unfold partD at q;rw[qA8 u] at q;exact qg5 .non rfl q
theorem qah0:qa9 ["one", "other"] ["one", "other"] (qa3 qH9):=by walk_at "s"
def Eb(N:Nat)(g g':Nat->Option Int):List Int:=((Lh N).filterMap g).filter λk=>!(Br N g' k).isSome
def qag0(C CP:γ):VSp:=A5 λds d=>∃z z' n wr ps a g g' dn b,ds=[Am z C CP n wr ps g dn,Am z' C CP n wr a g' b]/\1<=n/\n<=64/\(∀i k,i<n.toNat->g i=some k∨g' i=some k->Ah k/\qb4 n ps k=qb4 n a k)/\d=.l false (O7 (Eb n.toNat g g'))
theorem qM6(T:Txt K mg a):VFn P w K mg base 7 a.f36 a.d36 ["one", "other"] (qag0 a.C4 a.C3):=by
 refine VFn.mk2 T.d36.F qah0 (wOf [true,true]) qb5 (by walk_at "l") (λ_ _ _ _ _ _ _ s=>⟨_,(Ab (Bb (Aj T.d34 (qn6 T) qa0 (rm s) (vaN 0 (vaN 1 Ac)))) (Ak (Av (ecL (NY:=["key", "other"]) (src:=[none,some 1]) (qt3 0 T.d26 T.C6.cl (qf3 T) qa0 (rm s)) (blk (λv C A H0 B=>(Bc 0 (show (["key", "other"]:List Str).Nodup by decide +kernel))) (λv C A H0 B=>(Fd (q2v (A7 Dq (qb0 _)) (As Dq (qb0 _)) D9 (qm7 1 T.d28 T.C6.cl (ql1 T) L2.qa0 (rm s) (vaN 0 Ac)) Be))) (λv C A H0 B=>(qb6 (vnm 0)))))))),λS Q U h=>?_⟩);obtain⟨d,⟨z,j,n,wr,m,b,g,f,o,c,rfl,H,E,G,rfl⟩,q⟩:=h;refine Aw [Am z a.C4 a.C3 n wr m g o,Am j a.C4 a.C3 n wr b f c] rfl ?_;refine qb2 [Am z a.C4 a.C3 n wr m g o,Am j a.C4 a.C3 n wr b f c] (λK I=>qe5 (qE9 (x:=Am z a.C4 a.C3 n wr m g o) (y:=Am j a.C4 a.C3 n wr b f c) rfl rfl rfl ⟨z,j,n,wr,m,b,g,f,o,c,rfl,H,E,G,rfl⟩ rfl I)) ?_;have J:=zBz g (Lh n.toNat);rw[zB0] at J;refine qi2 (qN5 (p:=Am z a.C4 a.C3 n wr m g o) (d:=kL ((Lh n.toNat).filterMap g)) rfl (qh3 rfl) ⟨z,n,wr,m,g,o,rfl,E,rfl⟩ rfl (qa1 (a:=O7 ((Lh n.toNat).filterMap g)) rfl ⟨qf7 _,?_⟩));refine qm3 (λι=>∃d,ι=[d,Am j a.C4 a.C3 n wr b f c]) (Ff λk=>!(Br n.toNat f k).isSome) _ [] _ (by show 0+_<1000000;rw[qf5];lia) ⟨_,rfl⟩ ?_ ?_
 .rintro y L ι t ⟨d,rfl⟩ R M r;obtain⟨k,u,rfl⟩:=zBc.mp L;obtain⟨i,N,e⟩:=zC0.mp u;have this:=M [.int k,Am j a.C4 a.C3 n wr b f c] ⟨_,rfl⟩;refine qj9 (qI4 (qN4 (p:=Am j a.C4 a.C3 n wr b f c) (x:=.int k) (d:=Dg n.toNat f k) rfl (qh3 rfl) rfl rfl ⟨j,n,wr,b,f,c,k,rfl,(G i k (zAj.mp N) (.inl e)).1,rfl⟩ rfl ?_));have O:gIs (Dg n.toNat f k) .non=some (.bl !(Br n.toNat f k).isSome):=by unfold Dg;cases Br n.toNat f k<;>rfl
  refine qa1 (a:=D.bl !(Br n.toNat f k).isSome) O (qa1 (a:=!(Br n.toNat f k).isSome) rfl (ite_b (λh=>?_) λh=>?_));{rw[qam5 (by exact h)] at this;exact qx7 (d:=.int k) rfl rfl ⟨r,this⟩};rw[qam6 (by exact h)] at this;have this:R (t++[]) _:=this;rw[zAg] at this;exact this
 rintro ι ⟨d,rfl⟩;rw[qJ3,zB8];exact q
theorem qs1:qa9 ["_law_plan", "_law_rows", "_law_lists", "_law_sides", "_law_same", "_law_found", "_law_room"] ["_law_plan", "_law_rows", "_law_lists"] (qa3 qS7):=by walk_at "s"
theorem qW6{wr:Bool}{g:Nat->Option Int}{S:List Int}{k:Int}(KP:Kept N wr hm g S):(Br N g k).isSome=decide (k∈S):=by cases h:Br N g k with|some i=>have b:=List.findIdx?_eq_some_iff_getElem.mp h;obtain⟨a,e,_⟩:=b;rw[M9] at e;rw[zB0] at a;exact(zAf ((KP.h.2 k).mpr ⟨i,a,zAd e⟩)).symm|none=>refine(zAy λz=>?_).symm;obtain⟨i,a,e⟩:=(KP.h.2 k).mp z;have:=List.findIdx?_eq_none_iff.mp h i (zAj.mpr a);rw[zAf e] at this;cases this
theorem qaU7(N:Nat)(g:Nat->Option Int):D.fzs (O8 N g)=O8 N g:=by
 unfold O8;induction Lh N with
 |nil=>rfl|cons a l b=>
  show (At (g a)).fz::D.fzs (l.map λi=>At (g i))=_;have e:(At (g a)).fz=At (g a):=by cases g a<;>rfl
  rw[b,e];rfl
theorem fz_rl{z:Bool}{g:Nat->Option Int}:(D.l z (O8 N g)).fz=.l true (O8 N g):=congrArg (D.l true) (qaU7 _ _)
theorem qay1{z:Bool}{S:List Int}(a:S.Nodup)(b:S.length<=64):qaU2 (.l z (O7 S))=some (kL (B6 S)):=by show (intsD (O7 S)).bind _=_;rw[qY2];exact qh4 ⟨a,b⟩
theorem qay8:A9 gLst (λ_=>some []) ds=some (kL []):=rfl
theorem qF9{wr:Bool}{g:Nat->Option Int}{S T:List Int}(A:Kept N wr hm g S)(B:Kept N wr hm h T)(e:Eb N g h=[]):∀x∈S,x∈T:=λx a=>by
 by_cases c:x∈T
 .exact c
 obtain⟨i,b,d⟩:=(A.h.2 x).mp a
 have:x∈Eb N g h:=by
  unfold Eb;refine zB2.mpr ⟨zC0.mpr ⟨i,zAj.mpr b,d⟩,?_⟩;rw[qW6 (k:=x) B,zAy c];rfl
 rw[e] at this;cases this
theorem qaj5{wr:Bool}{g:Nat->Option Int}{S T:List Int}(A:Kept N wr hm g S)(B:Kept N wr hm h T)(m:∀x∈S,x∈T):Eb N g h=[]:=by refine List.filter_eq_nil_iff.mpr λx a=>?_;obtain⟨i,b,c⟩:=zC0.mp a;rw[qW6 (k:=x) B,zAf (m x ((A.h.2 x).mpr ⟨i,zAj.mp b,c⟩))];decide
theorem qaj6{g:Nat->Option Int}:(Eb N g h).length<=N:=by have:=zBz g (Lh N);rw[zB0] at this;exact zAn (Lm _ _) this
theorem qR6{S T:List Int}(a:S.Nodup)(b:T.Nodup):B6 S=B6 T↔∀x,x∈S↔x∈T:=by constructor;{intro h x;rw[<-(zC7 S _).mem_iff,<-(zC7 T _).mem_iff];exact iff_of_eq (congrArg (x∈·) h)};intro h;have p:=(Lq a b).mpr h;exact qag4 ((zC7 S _).trans p) ((Ly (λa b c d e=>by simp at d e ⊢;lia) (λa b=>by simp;lia) S).imp λ{a b} h=>by simpa using h)
theorem qax7{fc:FV}{x z:D}(a:fa ds=some x)(b:fb ds=some y)(c:fc ds=some z)(d:x.imm=true)(e:y.imm=true)(f:z.imm=true):A9 gTup (A6 fa (A6 fb (A6 fc λ_=>some []))) ds=some (.q [x,y,z]):=by unfold A9 A6;rw[a,b,c];exact qh4 ⟨by show (x.imm&&(y.imm&&(z.imm&&true)))=true;rw[d,e,f];rfl,lt3⟩
theorem qaS3{x:D}(a:fa ds=some x)(b:fb ds=some y)(c:x.imm=true)(d:y.imm=true):A9 gLst (A6 fa (A6 fb λ_=>some [])) ds=some (.l false [x,y]):=by unfold A9 A6;rw[a,b];exact qh4 ⟨by show (x.imm&&(y.imm&&true))=true;rw[c,d];rfl,lt2⟩
theorem imm3o{i:Int}(o o':Option Int):(D.q [.int i,At o,At o']).imm=true:=by show (true&&((At o).imm&&((At o').imm&&true)))=true;rw[qt0,qt0];rfl
def qW3(C CP:γ):VSp:=A5 λds d=>∃n wr ps p1 g1 a p2 g2 b S0 S1,ds=[Ae n wr ps,.l true [Am true C CP n wr p1 g1 a,Am true C CP n wr p2 g2 b],.l true [.l true (O7 S0),.l true (O7 S1)]]/\1<=n/\n<=64/\(ps.map (·.1)).Nodup/\(∀k,qb4 n p1 k=qb4 n ps k)/\(∀k,qb4 n p2 k=qb4 n ps k)/\Kept n.toNat wr (O5 n ps) g1 S0/\Kept n.toNat wr (O5 n ps) g2 S1/\(∀x∈S0,Ah x)/\(∀x∈S1,Ah x)/\d=.bl true
abbrev qd9(n:Int)(wr:Bool)(ps:Pr)(a:Adr) (p1) (g1) (dn1) (p2) (g2) (dn2) (S0) (S1) (b c d:D):=([Ae n wr ps,.l true [Am true a.C4 a.C3 n wr p1 g1 dn1,Am true a.C4 a.C3 n wr p2 g2 dn2],.l true [.l true (O7 S0),.l true (O7 S1)],.l false [.l true (O8 n.toNat g1),.l true (O8 n.toNat g2)],b,c,d]:Ds)
theorem qX0(T:Txt K mg a):VFn P w K mg base 8 a.f47 a.d47 ["_law_plan", "_law_rows", "_law_lists"] (qW3 a.C4 a.C3):=by
 refine VFn.mk2 T.d47.F qs1 (wOf [true,true,true]) qb5 (by walk_at "l") (λ_ _ _ _ _ _ _ u=>⟨_,(Ab (An 3 qs1.nd (ecN (NY:=["_law_some", "_law_plan"]) (src:=[none,some 0]) 2 (blk (λS C U H0 V=>(Bc 0 (show (["_law_some", "_law_plan"]:List Str).Nodup by decide +kernel))) (λS C U H0 V=>Ea) (λS C U H0 V=>(efzV (Aj T.d41 (qB7 T) L2.qa0 (rm u) (vaN 1 (vaN 0 Ac)))))))) (Ab (An 4 qs1.nd (qa4 (v2 (A7 (qj4 u.u64) (qb0 _)) Bl (vbi qP3 qao9.ops T.Cp (qa2 (v2 (Aq qa8) Al (vnm 2) Af) qa6 rfl)) (vbi qP3 qao9.ops T.Cp (qa2 (v2 (Aq qa8) Al (vnm 2) Af) qa6 rfl))))) (Ab (An 5 qs1.nd (Ig (vaV (Aj T.d35 (qG0 T) qa0 (rm u) (vaV (qb6 (v2 (Aq qa8) Al (vnm 1) Af)) (vaV (qb6 (v2 (Aq qa8) Al (vnm 1) Af)) Ac))) (vaV (Aj T.d35 (qG0 T) qa0 (rm u) (vaV (qb6 (v2 (Aq qa8) Al (vnm 1) Af)) (vaV (qb6 (v2 (Aq qa8) Al (vnm 1) Af)) Ac))) Ac)))) (Ab (sif (tor (q2 (As (qv4 u.u64) (qb0 _)) Dr (v2 (A7 Dq (qb0 _)) D9 (v2 (Aq qa8) Al (vnm 5) Af) Be) (vnm 4)) (tor1 (q2 (As (qv4 u.u64) (qb0 _)) Dr (v2 (A7 Dq (qb0 _)) D9 (v2 (Aq qa8) Al (vnm 5) Af) Be) (vnm 4)))).te (Ak (Av (qa4 vbl))) Ay) (Ab (sif (q2v (A7 (qv4 u.u64) (qb0 _)) (As (qv4 u.u64) (qb0 _)) Dr (e2v (A7 (qj4 u.u64) (qb0 _)) Bl (e2 (Ap qf9) qf8 (Aj T.d36 (qM6 T) qa0 (rm u) (vaV (qb6 (v2 (Aq qa8) Al (vnm 1) Af)) (vaV (qb6 (v2 (Aq qa8) Al (vnm 1) Af)) Ac))) (Aj T.d36 (qM6 T) qa0 (rm u) (vaV (qb6 (v2 (Aq qa8) Al (vnm 1) Af)) (vaV (qb6 (v2 (Aq qa8) Al (vnm 1) Af)) Ac)))) (Bo qa6)) (vnm 4)) (Ak (Av (qa4 vbl))) Ay) (Ab (sif (B8 (tv (vnm 4))) (Ab (An 6 qs1.nd (e2vP (Aq qa8) Al (ecR1 (NY:=["_law_k", "_law_sides"]) (src:=[none,some 3]) T.Cg (Ej (vaV (qb6 (v2 (Aq qa8) Al (vnm 0) Af)) Ac)) (blk (λS C U H0 V=>(Bc 0 (show (["_law_k", "_law_sides"]:List Str).Nodup by decide +kernel))) (λS C U H0 V=>(Fd (q2 (As (qv4 u.u64) (qb0 _)) Dr (v2 (Aq qa8) Al (v2 (Aq qa8) Al (vnm 1) Af) (vnm 0)) (v2 (Aq qa8) Al (v2 (Aq qa8) Al (vnm 1) Af) (vnm 0))))) (λS C U H0 V=>(qb6 (vnm 0))))) Af)) (Ak (Av (qa4 (v2 (A7 (qj4 u.u64) (qb0 _)) Bl (vnm 5) (Bo (qa2 (En (qa2 (vnm 6) (qa2 (v2 (Aq qa8) Al (v2 (Aq qa8) Al (vnm 3) Af) (vnm 6)) (qa2 (v2 (Aq qa8) Al (v2 (Aq qa8) Al (vnm 3) Af) (vnm 6)) qa6 rfl) rfl) rfl)) (qa2 (En (qa2 (vnm 6) (qa2 (v2 (Aq qa8) Al (v2 (Aq qa8) Al (vnm 3) Af) (vnm 6)) (qa2 (v2 (Aq qa8) Al (v2 (Aq qa8) Al (vnm 3) Af) (vnm 6)) qa6 rfl) rfl) rfl)) qa6 rfl) rfl))))))) Ay) (Ak (Av (qa4 vbl))))))))),λds Q xe h=>?_⟩);obtain⟨d,⟨n,wr,s,p1,g1,f,r,g2,p,S0,S1,rfl,B,E,nd,h1,h2,KA,KB,hA,hB,rfl⟩,q⟩:=h;have M:∀i k,i<n.toNat->g1 i=some k∨g2 i=some k->Ah k/\qb4 n p1 k=qb4 n r k:=λi k v h=>⟨h.elim (λe=>hA k ((KA.h.2 k).mpr ⟨i,v,e⟩)) λe=>hB k ((KB.h.2 k).mpr ⟨i,v,e⟩),by rw[h1,h2]⟩;have G:∀i k,i<n.toNat->g2 i=some k∨g1 i=some k->Ah k/\qb4 n r k=qb4 n p1 k:=λi k v h=>⟨(M i k v h.symm).1,(M i k v h.symm).2.symm⟩;have l0:=KA.len;have l1:=KB.len;have o1:=qaj6 (N:=n.toNat) (g:=g1) (h:=g2);have o2:=qaj6 (N:=n.toNat) (g:=g2) (h:=g1);refine Aw [Ae n wr s,.l true [Am true a.C4 a.C3 n wr p1 g1 f,Am true a.C4 a.C3 n wr r g2 p],.l true [.l true (O7 S0),.l true (O7 S1)],.u,.u,.u,.u] rfl ?_;refine qb2 (qd9 n wr s a p1 g1 f r g2 p S0 S1 .u .u .u) (λK H=>qe3 (qa1 (a:=D.l true [.l true (O7 S0),.l true (O7 S1)]) rfl (qa1 (a:=[.l true (O7 S0),.l true (O7 S1)]) rfl ⟨rfl,qaa1 (qj9 (qC9 (Bq rfl (Gk (qaL3 (x:=Ae n wr s) (y:=.l true (O7 S0)) rfl rfl rfl ⟨n,wr,s,true,S0,rfl,B,E,nd,KA.h.1,⋯,λ⟨q,c⟩=>absurd c (KA.no_crowd q),λ_ h0 H0=>qa1 (a:=[.l true (O7 S0),Ae n wr s]) rfl ⟨by show 0<1000000;decide,?_⟩⟩)))))⟩))) ?_;{refine qaa1 (qj9 (qC9 (Bq rfl (Gk (qaL3 (x:=Ae n wr s) (y:=.l true (O7 S1)) rfl rfl rfl ⟨n,wr,s,true,S1,rfl,B,E,nd,KB.h.1,⋯,λ⟨q,c⟩=>absurd c (KB.no_crowd q),λ_ h1 H1=>qa1 (a:=[.l true (O7 S1),Ae n wr s]) rfl ⟨by show 1<1000000;decide,?_⟩⟩)))));rw[fz_rl,fz_rl,qs2 (H0.same KA λ_=>Iff.rfl),qs2 (H1.same KB λ_=>Iff.rfl)];exact H};refine qb2 (qd9 n wr s a p1 g1 f r g2 p S0 S1 (.bl (decide (B6 S0=B6 S1))) .u .u) (λK H=>qn0 (Ag (x:=kL (B6 S0)) (y:=kL (B6 S1)) (qay1 (z:=true) KA.h.1 ⋯) (qay1 (z:=true) KB.h.1 ⋯) (qaJ5 _ _)) H) ?_;by_cases A:B6 S0=B6 S1
 .have X:=(qR6 KA.h.1 KB.h.1).mp A;have e1:partD n.toNat g1 g2=.non:=by unfold partD;rw[qA8 (KA.same KB X)]
  have e2:partD n.toNat g2 g1=.non:=by unfold partD;rw[qA8 (KB.same KA λx=>(X x).symm)]
  have eo:Eb n.toNat g1 g2++Eb n.toNat g2 g1=[]:=by rw[qaj5 KA KB λx=>(X x).mp,qaj5 KB KA λx=>(X x).mpr];rfl
  rw[zAf A];refine qb2 (qd9 n wr s a p1 g1 f r g2 p S0 S1 (.bl true) (.l false [.non,.non]) .u) (λK H=>qe3 (qE8 (qc9 (qd6 (qb9 (y:=Am true a.C4 a.C3 n wr p1 g1 f) rfl rfl (qb9 (y:=Am true a.C4 a.C3 n wr r g2 p) rfl rfl (qb7 ⟨_,⟨true,true,n,wr,p1,r,g1,g2,f,p,rfl,B,E,M,rfl⟩,qa1 (a:=(qd9 n wr s a p1 g1 f r g2 p S0 S1 (.bl true) .u .u)) rfl (qc9 (qd6 (qb9 (y:=Am true a.C4 a.C3 n wr r g2 p) rfl rfl (qb9 (y:=Am true a.C4 a.C3 n wr p1 g1 f) rfl rfl (qb7 ⟨_,⟨true,true,n,wr,r,p1,g2,g1,p,f,rfl,B,E,G,rfl⟩,qa1 (a:=(qd9 n wr s a p1 g1 f r g2 p S0 S1 (.bl true) .u .u)) rfl (qb7 ⟨lt2,?_⟩)⟩)))))⟩))))))) ?_;{rw[e1,e2];exact H};refine qg7 false (λQ q=>qV8 false false (λQ q=>qi1 (b:=false) rfl q) (λ_ Q q=>qi1 (b:=false) rfl q) q) nofun λ_=>?_
  refine qg7 false (λQ q=>qI4 (qK8 (qar7 (qd6 (qb9 (y:=Am true a.C4 a.C3 n wr p1 g1 f) rfl rfl (qb9 (y:=Am true a.C4 a.C3 n wr r g2 p) rfl rfl (qb7 ⟨_,⟨true,true,n,wr,p1,r,g1,g2,f,p,rfl,B,E,M,rfl⟩,qa1 (a:=(qd9 n wr s a p1 g1 f r g2 p S0 S1 (.bl true) (.l false [.non,.non]) .u)) rfl (qd6 (qb9 (y:=Am true a.C4 a.C3 n wr r g2 p) rfl rfl (qb9 (y:=Am true a.C4 a.C3 n wr p1 g1 f) rfl rfl (qb7 ⟨_,⟨true,true,n,wr,r,p1,g2,g1,p,f,rfl,B,E,G,rfl⟩,qa1 (a:=(qd9 n wr s a p1 g1 f r g2 p S0 S1 (.bl true) (.l false [.non,.non]) .u)) rfl (qa1 (qV5 ⋯) (qa1 (a:=D.bl true) (by rw[qay8,Option.bind_some,qaJ5 _ [],zAf eo]) (qa1 (a:=D.bl false) rfl (qa1 (a:=false) rfl q))))⟩))))⟩))))))) nofun λ_=>?_
  exact qg7 false (λQ q=>qo0 (b:=true) rfl q) nofun λ_=>qg5 (.bl true) rfl q
 rw[zAy A];have eo:¬Eb n.toNat g1 g2++Eb n.toNat g2 g1=[]:=λe=>by obtain⟨a1,a2⟩:=List.append_eq_nil_iff.mp e;exact A ((qR6 KA.h.1 KB.h.1).mpr λx=>⟨qF9 KA KB a1 x,qF9 KB KA a2 x⟩)
 obtain⟨i,I⟩:∃i,Gr n.toNat g1 g2=some i:=by
  cases I:Gr n.toNat g1 g2 with
  |some i=>exact⟨i,rfl⟩|none=>
   refine absurd ((qR6 KA.h.1 KB.h.1).mpr λx=>?_) A;have L:∀j,j<n.toNat->g1 j=g2 j:=λj h=>by have:=zCm.mp I j h;simpa using this
   rw[KA.h.2 x,KB.h.2 x];exact⟨λ⟨j,h,e⟩=>⟨j,h,(L j h) ▸ e⟩,λ⟨j,h,e⟩=>⟨j,h,(L j h).symm ▸ e⟩⟩
 obtain⟨J,v,L⟩:=List.find?_range_eq_some.mp I;have J:=zAd J;have v:=zAj.mp v;have L:∀j,j<i->g1 j=g2 j:=λj h=>by have:=L j h;simpa using this
 have e1:partD n.toNat g1 g2=.q [.int (i:Nat),At (g1 i),At (g2 i)]:=by unfold partD;rw[I]
 have e2:partD n.toNat g2 g1=.q [.int (i:Nat),At (g2 i),At (g1 i)]:=by unfold partD;rw[qM2 v (Ne.symm J) λj h=>(L j h).symm]
 refine qb2 (qd9 n wr s a p1 g1 f r g2 p S0 S1 (.bl false) (.l false [.q [.int (i:Nat),At (g1 i),At (g2 i)],.q [.int (i:Nat),At (g2 i),At (g1 i)]]) .u) (λK H=>qe3 (qE8 (qc9 (qd6 (qb9 (y:=Am true a.C4 a.C3 n wr p1 g1 f) rfl rfl (qb9 (y:=Am true a.C4 a.C3 n wr r g2 p) rfl rfl (qb7 ⟨_,⟨true,true,n,wr,p1,r,g1,g2,f,p,rfl,B,E,M,rfl⟩,qa1 (a:=(qd9 n wr s a p1 g1 f r g2 p S0 S1 (.bl false) .u .u)) rfl (qc9 (qd6 (qb9 (y:=Am true a.C4 a.C3 n wr r g2 p) rfl rfl (qb9 (y:=Am true a.C4 a.C3 n wr p1 g1 f) rfl rfl (qb7 ⟨_,⟨true,true,n,wr,r,p1,g2,g1,p,f,rfl,B,E,G,rfl⟩,qa1 (a:=(qd9 n wr s a p1 g1 f r g2 p S0 S1 (.bl false) .u .u)) rfl (qb7 ⟨lt2,?_⟩)⟩)))))⟩))))))) ?_;{rw[e1,e2];exact H};refine qg7 false (λQ q=>qV8 false false (λQ q=>qi1 (b:=false) rfl q) (λ_ Q q=>qi1 (b:=false) rfl q) q) nofun λ_=>?_
 refine qg7 false (λQ q=>qI4 (qK8 (qar7 (qd6 (qb9 (y:=Am true a.C4 a.C3 n wr p1 g1 f) rfl rfl (qb9 (y:=Am true a.C4 a.C3 n wr r g2 p) rfl rfl (qb7 ⟨_,⟨true,true,n,wr,p1,r,g1,g2,f,p,rfl,B,E,M,rfl⟩,qa1 (a:=(qd9 n wr s a p1 g1 f r g2 p S0 S1 (.bl false) (.l false [.q [.int (i:Nat),At (g1 i),At (g2 i)],.q [.int (i:Nat),At (g2 i),At (g1 i)]]) .u)) rfl (qd6 (qb9 (y:=Am true a.C4 a.C3 n wr r g2 p) rfl rfl (qb9 (y:=Am true a.C4 a.C3 n wr p1 g1 f) rfl rfl (qb7 ⟨_,⟨true,true,n,wr,r,p1,g2,g1,p,f,rfl,B,E,G,rfl⟩,qa1 (a:=(qd9 n wr s a p1 g1 f r g2 p S0 S1 (.bl false) (.l false [.q [.int (i:Nat),At (g1 i),At (g2 i)],.q [.int (i:Nat),At (g2 i),At (g1 i)]]) .u)) rfl (qa1 (qV5 ⋯) (qa1 (a:=D.bl false) (by rw[qay8,Option.bind_some,qaJ5 _ [],zAy eo]) (qa1 (a:=D.bl false) rfl (qa1 (a:=false) rfl q))))⟩))))⟩))))))) nofun λ_=>?_
 refine qg7 true (λQ q=>qo0 (b:=false) rfl q) (λ_=>?_) nofun;refine qb2 (qd9 n wr s a p1 g1 f r g2 p S0 S1 (.bl false) (.l false [.q [.int (i:Nat),At (g1 i),At (g2 i)],.q [.int (i:Nat),At (g2 i),At (g1 i)]]) (.int (i:Nat))) (λK H=>qe3 (qaf6 (qaW3 (qb9 (y:=.int n) rfl rfl (qb7 (qa1 (a:=n) rfl ⟨qN2 ⋯ ⋯,?_⟩)))))) ?_
 {refine qaa2 (λm t ι=>(∃d,ι=[d,.l false [.l true (O8 n.toNat g1),.l true (O8 n.toNat g2)]])/\t.length<=m/\(m<=i->t=[])/\(i<m->t[0]?=some (.int (i:Nat)))) _ 0 [] _ ⟨⟨_,rfl⟩,zA2 _,λ_=>rfl,λh=>absurd h (zBw _)⟩ ?_ ?_;{rintro j y hy t ι ⟨⟨d,rfl⟩,hl,Y,O⟩ R hR;obtain⟨W,rfl⟩:=qI2 hy;rw[zAe] at hl Y O hR;refine qj9 (qi1 (b:=decide (g1 j≠g2 j)) (Ag (Ag (y:=.int (j:Nat)) (Ag rfl rfl rfl) rfl (Du (z:=true) W)) (Ag (y:=.int (j:Nat)) (Ag rfl rfl rfl) rfl (Du (z:=true) W)) qaR7) (ite_b (λh=>?_) λh=>?_));{have h:=zAd h;have a0:i<=j:=zC3 λz=>h (L j z);refine qx7 (d:=.int (j:Nat)) rfl rfl ⟨by unfold big;lia,hR _ _ ⟨⟨_,rfl⟩,by rw[zA6];show _+1<=_;lia,λz=>absurd z ⋯,λ_=>?_⟩⟩;rcases Nat.lt_or_eq_of_le a0 with z|rfl;{have:=O z;cases t with|nil=>cases this|cons x l=>exact this};rw[Y (zA2 _)];rfl};refine hR _ _ ⟨⟨_,rfl⟩,⋯,λz=>Y ⋯,λz=>?_⟩;rcases zCr.mp z with z|rfl;{exact O z};exact absurd J (zB6 h)};rintro t ι ⟨⟨d,rfl⟩,hl,Y,O⟩;rw[zAe,qN7] at O;exact qa1 (a:=D.int 0) rfl ⟨rfl,qa1 (a:=D.int (i:Nat)) (show gIx (.l false t) (.int ((0:Nat):Int))=_ from qP5 (O v)) H⟩};have i1:f2 gIx (f2 gIx (rdN 3) (kC (.int 0))) (rdN 6) [Ae n wr s,.l true [Am true a.C4 a.C3 n wr p1 g1 f,Am true a.C4 a.C3 n wr r g2 p],.l true [.l true (O7 S0),.l true (O7 S1)],.l false [.l true (O8 n.toNat g1),.l true (O8 n.toNat g2)],.bl false,.l false [.q [.int (i:Nat),At (g1 i),At (g2 i)],.q [.int (i:Nat),At (g2 i),At (g1 i)]],.int (i:Nat)]=some (At (g1 i)):=Ag (Ag rfl rfl rfl) rfl (Du (z:=true) v);have i2:f2 gIx (f2 gIx (rdN 3) (kC (.int 1))) (rdN 6) [Ae n wr s,.l true [Am true a.C4 a.C3 n wr p1 g1 f,Am true a.C4 a.C3 n wr r g2 p],.l true [.l true (O7 S0),.l true (O7 S1)],.l false [.l true (O8 n.toNat g1),.l true (O8 n.toNat g2)],.bl false,.l false [.q [.int (i:Nat),At (g1 i),At (g2 i)],.q [.int (i:Nat),At (g2 i),At (g1 i)]],.int (i:Nat)]=some (At (g2 i)):=Ag (Ag rfl rfl rfl) rfl (Du (z:=true) v);refine qi2 (qm6 (d:=.bl true) (Ag (x:=.l false [.q [.int (i:Nat),At (g1 i),At (g2 i)],.q [.int (i:Nat),At (g2 i),At (g1 i)]]) (y:=.l false [.q [.int (i:Nat),At (g1 i),At (g2 i)],.q [.int (i:Nat),At (g2 i),At (g1 i)]]) rfl (qaS3 (qax7 rfl i1 i2 rfl (qt0 _) (qt0 _)) (qax7 rfl i2 i1 rfl (qt0 _) (qt0 _)) (imm3o _ _) (imm3o _ _)) ?_) q);have ok:∀o Z:Option Int,okN 20 (.q [.int (i:Nat),At o,At Z])=true:=λo Z=>by show (true&&(okN 19 (At o)&&(okN 19 (At Z)&&true)))=true;cases o<;>cases Z<;>rfl
 show (Ez (eqN 20) [.q [.int (i:Nat),At (g1 i),At (g2 i)],.q [.int (i:Nat),At (g2 i),At (g1 i)]] _).map D.bl=_;rw[qy1 λx hx=>?_];rfl;rcases zAi.mp hx with rfl|hx;{exact qJ9 (ok _ _)};rw[zA8.mp hx];exact qJ9 (ok _ _)
theorem qH8:qa9 ["plan", "room"] ["plan", "room"] (qa3 qn1):=by walk_at "s"
def qr8(C:γ):VSp:=A5 λds d=>∃z n wr ps r,ds=[Ad z C n wr ps,.int r]/\d=(if r<n-1 then .int (r+1) else if wr=true then .int 0 else .non)
theorem qs5(T:Txt K mg a):VFn P w K mg base 1 a.f21 a.d21 ["plan", "room"] (qr8 a.C3):=by refine VFn.mk2 T.d21.F qH8 (wOf [true,true]) qb5 (by walk_at "l") (λ_ _ _ _ _ _ _ e=>⟨_,(Ab (sif (q2 (As Iv (qb0 _)) Je (vnm 1) (v2 (Ap qB2) qA9 (Bh rfl (vnm 0) T.C5.cl T.C7) Af)) (Ak (Av (qa4 (v2 (Ap qf9) qf8 (vnm 1) Af)))) Ay) (Ak (Av (eif (tv (Bh rfl (vnm 0) T.C5.cl T.Cb)) (qa4 Af) (qa4 Be))))),λf Q g h=>?_⟩);obtain⟨d,⟨z,n,wr,c,r,rfl,rfl⟩,q⟩:=h;refine Aw [Ad z a.C3 n wr c,.int r] rfl ?_;refine qj8 (decide (r<n-1)) (Ag rfl (Ag (A4 rfl qd4) rfl rfl) rfl) (λh=>?_) λh=>?_;{rw[if_pos (zAd h)] at q;exact qg5 (.int (r+1)) rfl q};rw[if_neg (zB6 h)] at q;refine qi2 (Fx (b:=wr) (A4 rfl qo2) (λh=>?_) (λh=>?_));{rw[if_pos h] at q;exact qm6 (d:=.int 0) rfl q};rw[if_neg (by rw[h];decide)] at q;exact q
theorem qz1:qa9 ["plan", "rooms", "room"] ["plan", "rooms", "room"] (qa3 qi7):=by walk_at "s"
def qy5(C:γ):VSp:=A5 λds d=>∃z n wr ps z' g x,ds=[Ad z C n wr ps,.l z' (O8 n.toNat g),x]/\1<=n/\(x=.non/\d=.bl false∨∃r:Nat,r<n.toNat/\x=.int (r:Nat)/\(g r=none/\d=.bl false∨∃k,g r=some k/\Ah k/\(wr=false->O5 n ps k<=r)/\d=.bl (decide (0<Aa n.toNat (O5 n ps k) r))))
theorem qB4(T:Txt K mg a):VFn P w K mg base 6 a.f22 a.d22 ["plan", "rooms", "room"] (qy5 a.C3):=by refine VFn.mk2 T.d22.F qz1 (wOf [true,true,true]) qb5 (by walk_at "l") (λ_ _ _ _ _ _ _ c=>⟨_,(Ak (Av (Gg (qa4 (v2 (A7 qo5 (qb0 _)) qv3 (vnm 2) Be)) (Gg (qa4 (v2 (A7 qo5 (qb0 _)) qv3 (v2 (Aq qa8) Al (vnm 1) (vnm 2)) Be)) (Ic (e2v (A7 Bs (qb0 _)) Db (qm7 0 T.d10 T.C5.cl (qj6 T) qa0 (rm c) (vaV (qb6 (v2 (Aq qa8) Al (vnm 1) (vnm 2))) (vaN 2 Ac))) Af)))))),λi Q j h=>?_⟩);obtain⟨d,⟨z,n,wr,b,e,g,x,rfl,f,h⟩,q⟩:=h;refine Aw [Ad z a.C3 n wr b,.l e (O8 n.toNat g),x] rfl ?_;rcases h with⟨rfl,rfl⟩|⟨r,c,rfl,h⟩;{exact qi2 (Fg false rfl nofun λ_=>q)};rcases h with⟨hg,rfl⟩|⟨k,hg,hk,hl,rfl⟩;{exact qi2 (Fg true rfl (λ_=>Fg false (Ag (Ag rfl rfl (Du c)) rfl (by rw[hg];rfl)) nofun λ_=>q) nofun)};refine qi2 (Fg true rfl (λ_=>Fg true (Ag (Ag rfl rfl (Du c)) rfl (by rw[hg];rfl)) (λ_=>qK8 ?_) nofun) nofun);refine qE6 (p:=Ad z a.C3 n wr b) rfl (qf6 rfl) (qb9 (y:=.int k) (Ag rfl rfl (by rw[Du c,hg];rfl)) rfl (qc3 (x:=.int (r:Nat)) rfl (qb7 (qa1 (a:=D.int (r:Nat)) rfl (qa1 (a:=Ad z a.C3 n wr b) rfl ⟨_,⟨z,n,wr,b,k,(r:Nat),rfl,f,hk,⋯,⋯,rfl⟩,?_⟩)))));rw[qO9 f c hl];refine qa1 (a:=[Ad z a.C3 n wr b,.l e (O8 n.toNat g),.int (r:Nat)]) rfl ?_;refine qa1 (a:=D.bl (decide (0<((Aa n.toNat (O5 n b k) r:Nat):Int)))) rfl ?_;rw[zCd.mpr (show (0<((Aa n.toNat (O5 n b k) r:Nat):Int))↔0<Aa n.toNat (O5 n b k) r by lia)];exact q
theorem qh6:qa9 ["plan", "rooms", "room", "came", "behind"] ["plan", "rooms", "room"] (qa3 qu8):=by walk_at "s"
noncomputable def qx0(N:Nat)(wr:Bool)(p:Nat):D:=if p+1<N then .int (p+1:Nat) else if wr=true then .int 0 else .non
theorem qax0(a:1<=n)(b:p<n.toNat):(if ((p:Nat):Int)<n-1 then D.int (((p:Nat):Int)+1) else if wr=true then D.int 0 else D.non)=qx0 n.toNat wr p:=by unfold qx0;by_cases h:p+1<n.toNat;{rw[if_pos ⋯,if_pos h];rfl};rw[if_neg ⋯,if_neg h]
theorem qae3{wr:Bool}{p:Nat}(a:p<N):qx0 N wr p=.int (Row.next N p:Nat)∨(qx0 N wr p=.non/\wr=false/\p+1=N):=by unfold qx0;have h:=nor N p;by_cases e:p+1<N;{rw[if_pos e];exact .inl (by rw[show Row.next N p=p+1 by lia])};rw[if_neg e];cases wr with|true=>exact .inl (by rw[if_pos rfl,show Row.next N p=0 by lia];rfl)|false=>exact .inr ⟨rfl,rfl,⋯⟩
def qR1(C:γ):VSp:=λds Q _=>∃z n wr ps g S k r,ds=[Ad z C n wr ps,rL n g,.int (r:Nat)]/\1<=n/\n<=64/\(∀x∈S,Ah x)/\Kept n.toNat wr (O5 n ps) g S/\r<n.toNat/\g r=some k/\∀came g',Kept n.toNat wr (O5 n ps) g' (S.filter λx=>decide (x≠k))->Q (.l false came) [Ad z C n wr ps,rL n g',.int (r:Nat)]
abbrev qp4 (z) (a:Adr) (n:Int) (wr:Bool) (ps:Pr) (r) (J) (came) (x) (nx) (p1:D):=([Ad z a.C3 n wr ps,p1,.int (rot n.toNat r J:Nat),.l false (came++[D.q [.int x,.int (rot n.toNat r J:Nat)]]),.int (nx:Nat)]:Ds)
theorem qB5(T:Txt K mg a):VFn P w K mg base 7 a.f23 a.d23 ["plan", "rooms", "room"] (qR1 a.C3):=by
 refine VFn.mk2 T.d23.F qh6 (wOf [true,true,false]) (by walk_at "m") (by walk_at "l") (λ_ _ _ _ _ _ _ b=>⟨_,(Ab (An 3 qh6.nd (qa4 (Bo qa6))) (Ab (E8 (qa4 Be) (Eh (vpn 1) (vnm 2))) (Ab (An 4 qh6.nd (Aj T.d21 (qs5 T) qa0 (rm b) (vaN 0 (vaN 2 Ac)))) (Ab (qaf7 N6 (te (Aj T.d22 (qB4 T) qa0 (rm b) (vaN 0 (vaN 1 (vaN 4 Ac))))) (Ab (Bb (Bp 3 qq3 N9 Oa Ob qc8 (vaV (qa4 (En (qa2 (v2 (Aq qa8) Al (vnm 1) (vnm 4)) (qa2 (vnm 2) qa6 rfl) rfl))) Ac))) (Ab (E8 (qb6 (v2 (Aq qa8) Al (vnm 1) (vnm 4))) (Eh (vpn 1) (vnm 2))) (Ab (E8 (qa4 Be) (Eh (vpn 1) (vnm 4))) (Ab (An 2 qh6.nd (qb6 (vnm 4))) (Ak (An 4 qh6.nd (Aj T.d21 (qs5 T) qa0 (rm b) (vaN 0 (vaN 2 Ac)))))))))) (Ak (Av (emv 3))))))),λG Q Y h=>?_⟩);obtain⟨z,n,wr,f,g,S,k,r,rfl,I,n2,hS,KP,b,Z,q⟩:=h;refine Aw [Ad z a.C3 n wr f,rL n g,.int (r:Nat),.u,.u] rfl ?_;refine qb2 [Ad z a.C3 n wr f,rL n g,.int (r:Nat),.l false [],.u] (λK t=>t) ?_;have e0:O8 n.toNat (λj=>if j=r then none else g j)=O8 n.toNat (Ax n.toNat g r 0):=qs2 λi hi=>(qy7 b hi).symm;refine qb2 [Ad z a.C3 n wr f,rL n (Ax n.toNat g r 0),.int (rot n.toNat r 0:Nat),.l false [],.u] (λK t=>?_) ?_;{refine qW1 (d:=.non) (ys:=O8 n.toNat g) rfl rfl rfl (Il b) ?_;rw[show (O8 n.toNat g).set r .non=O8 n.toNat (λj=>if j=r then none else g j) from qag8 (o:=none),e0];rw[qah6 b] at t;exact t};have bh:∀(J:Nat)(K:Ds->Prop)(Y:XKd)(H L:D),J<n.toNat->K [Ad z a.C3 n wr f,rL n (Ax n.toNat g r J),.int (rot n.toNat r J:Nat),H,qx0 n.toNat wr (rot n.toNat r J)]->qk1 (qr8 a.C3) [] (tbN 0 (tbN 2 A8)) [Ad z a.C3 n wr f,rL n (Ax n.toNat g r J),.int (rot n.toNat r J:Nat),H,L] (λd a0=>K (a0.set 4 d)) Y:=λJ K Y H L hJ t=>
  qE9 (x:=Ad z a.C3 n wr f) (y:=.int (rot n.toNat r J:Nat)) rfl rfl rfl ⟨z,n,wr,f,_,rfl,(qax0 I (qS9 b hJ)).symm⟩ rfl t
 refine qb2 [Ad z a.C3 n wr f,rL n (Ax n.toNat g r 0),.int (rot n.toNat r 0:Nat),.l false [],qx0 n.toNat wr (rot n.toNat r 0)] (λK t=>qe3 (bh 0 _ _ _ _ ⋯ t)) ?_;refine qc0 (λG=>∃J came L,G=[Ad z a.C3 n wr f,rL n (Ax n.toNat g r J),.int (rot n.toNat r J:Nat),.l false came,L]/\Sh n.toNat (O5 n f) g r J/\Stop n.toNat wr (O5 n f) g r J) (λK t=>?_) ?_
 .refine qQ2 (λm G=>∃J came,G=[Ad z a.C3 n wr f,rL n (Ax n.toNat g r J),.int (rot n.toNat r J:Nat),.l false came,qx0 n.toNat wr (rot n.toNat r J)]/\Sh n.toNat (O5 n f) g r J/\came.length=J/\m+J=n.toNat) n.toNat ⟨0,[],rfl,Sh.start b,rfl,⋯⟩ ?_;rintro m G ⟨J,came,rfl,v,hc,hm⟩ K2 a1;have hJ:=v.hJ;have hp:=qS9 b hJ;rcases qae3 (wr:=wr) hp with V|⟨V,hw,hl⟩
  .have s:=Row.qm2 hp;have M:∀x,Ax n.toNat g r J (Row.next n.toNat (rot n.toNat r J))=some x->0<Aa n.toNat (O5 n f x) (Row.next n.toNat (rot n.toNat r J))->J+1<n.toNat/\g (rot n.toNat r (J+1))=some x:=λx s A=>by by_cases p:J+1<n.toNat;{rw[qB8 b p,qy8 b p] at s;exact⟨p,s⟩};rw[qw2 b ⋯] at s A;by_cases N:0<J;{rw[qF3 b N] at s;have:=v.round KP.o KP.c b Z ⋯ s N;lia};have hz:J=0:=⋯;subst hz;rw[qy7 b b,if_pos rfl] at s;cases s
   have C:∀x,Ax n.toNat g r J (Row.next n.toNat (rot n.toNat r J))=some x->Ah x/\(wr=false->O5 n f x<=Row.next n.toNat (rot n.toNat r J)):=λx s=>by by_cases p:J+1<n.toNat;{have e:=qB8 b p;rw[e,qy8 b p] at s;exact⟨hS x ((KP.h.2 x).mpr ⟨_,qS9 b p,s⟩),λhw=>by rw[e];exact KP.ln hw _ x (qS9 b p) s⟩};have e:=qw2 b (show J+1=n.toNat by lia);rw[e] at s ⊢;by_cases N:0<J;{rw[qF3 b N] at s;have A:=v.round KP.o KP.c b Z ⋯ s N;exact⟨hS x ((KP.h.2 x).mpr ⟨_,Row.qm2 b,s⟩),λ_=>by rw[(qc1 (Eo I x) b).mp A];exact zA2 _⟩};have hz:J=0:=⋯;subst hz;rw[qy7 b b,if_pos rfl] at s;cases s
   generalize E:Row.next n.toNat (rot n.toNat r J)=u at s M C V;rw[V];cases B:Ax n.toNat g r J u with
   |none=>refine Ik (x:=Ad z a.C3 n wr f) (y:=rL n (Ax n.toNat g r J)) (w:=.int (u:Nat)) (d:=.bl false) rfl rfl rfl rfl rfl ⟨z,n,wr,f,false,_,_,rfl,I,.inr ⟨u,s,rfl,.inl ⟨B,rfl⟩⟩⟩ rfl ?_;exact t _ ⟨J,came,_,rfl,v,.inr λx h=>by rw[E,B] at h;cases h⟩|some x=>
    refine Ik (x:=Ad z a.C3 n wr f) (y:=rL n (Ax n.toNat g r J)) (w:=.int (u:Nat)) rfl rfl rfl rfl rfl ⟨z,n,wr,f,false,_,_,rfl,I,.inr ⟨u,s,rfl,.inr ⟨x,B,(C x B).1,(C x B).2,rfl⟩⟩⟩ rfl ?_;refine qa1 (a:=decide (0<Aa n.toNat (O5 n f x) u)) rfl (ite_b (λh=>?_) λh=>?_)
    .have A:=zAd h;obtain⟨p,O⟩:=M x B A;have R:u=rot n.toNat r (J+1):=by rw[<-E,qB8 b p]
     have U:∀H,f2 gIx (rdN 1) (rdN 4) [Ad z a.C3 n wr f,rL n (Ax n.toNat g r J),.int (rot n.toNat r J:Nat),H,.int (u:Nat)]=some (.int x):=λH=>Ag rfl rfl (by rw[Du s,B];rfl);refine qb2 (qp4 z a n wr f r J came x u (rL n (Ax n.toNat g r J))) (λK t=>qe5 ?_) ?_;{exact qP7 (ys:=came) (d:=.q [.int x,.int (rot n.toNat r J:Nat)]) rfl (qax8 (U _) rfl rfl rfl) (by unfold big;lia) t};refine qb2 (qp4 z a n wr f r J came x u (rL n (Row.set (Ax n.toNat g r J) (rot n.toNat r J) x))) (λK t=>?_) ?_;{refine qK9 (d:=.int x) (ys:=O8 n.toNat (Ax n.toNat g r J)) (U _) rfl rfl rfl (Il hp) ?_;rw[qH7];exact t};refine qb2 (qp4 z a n wr f r J came x u (rL n (Ax n.toNat g r (J+1)))) (λK t=>?_) ?_
     .refine qW1 (d:=.non) (ys:=O8 n.toNat (Row.set (Ax n.toNat g r J) (rot n.toNat r J) x)) rfl rfl rfl (Il s) ?_;rw[show (O8 n.toNat (Row.set (Ax n.toNat g r J) (rot n.toNat r J) x)).set u .non=O8 n.toNat (λj=>if j=u then none else Row.set (Ax n.toNat g r J) (rot n.toNat r J) x j) from qag8 (o:=none)];have e:O8 n.toNat (λj=>if j=u then none else Row.set (Ax n.toNat g r J) (rot n.toNat r J) x j)=O8 n.toNat (Ax n.toNat g r (J+1)):=qs2 λi hi=>by rw[qag6 b p hi,R];by_cases W:i=rot n.toNat r (J+1);{rw[if_pos W,if_pos W]};rw[if_neg W,if_neg W];by_cases X:i=rot n.toNat r J;{rw[if_pos X,X,Row.qc2,O]};rw[if_neg X,Row.qd7 X]
      rw[e];exact t
     refine qb2 [Ad z a.C3 n wr f,rL n (Ax n.toNat g r (J+1)),.int (u:Nat),.l false (came++[D.q [.int x,.int (rot n.toNat r J:Nat)]]),.int (u:Nat)] (λK t=>qL5 (d:=.int (u:Nat)) rfl rfl t) ?_;rw[R] at A ⊢;refine qe3 (bh (J+1) _ _ _ _ p (a1 (m-1) _ ⋯ ⟨J+1,_,rfl,v.step p O A,by rw[zA6,hc];rfl,⋯⟩))
    have A:=zB6 h;exact t _ ⟨J,came,_,rfl,v,.inr λy h=>by rw[E] at h ⊢;rw[B] at h;cases h;lia⟩
  rw[V];refine Ik (x:=Ad z a.C3 n wr f) (y:=rL n (Ax n.toNat g r J)) (w:=.non) (d:=.bl false) rfl rfl rfl rfl rfl ⟨z,n,wr,f,false,_,_,rfl,I,.inl ⟨rfl,rfl⟩⟩ rfl ?_;exact t _ ⟨J,came,_,rfl,v,.inl ⟨hw,hl⟩⟩
 rintro G ⟨J,came,L,rfl,v,st⟩;exact qi2 (mv_to rfl (q came _ (KP.taken b Z v st)))
theorem qF6:qa9 ["self", "key", "room"] ["self", "key"] (qa3 qz9):=by walk_at "s"
def qab7(C CP:γ):VSp:=λds Q _=>∃n wr ps g dn S k,ds=[Am false C CP n wr ps g dn,.int k]/\1<=n/\n<=64/\(∀x∈S,Ah x)/\Kept n.toNat wr (O5 n ps) g S/\k∈S/\dn.length<=1000/\∀(r:Nat) came g',Kept n.toNat wr (O5 n ps) g' (S.filter λx=>decide (x≠k))->Q (.q [.int (r:Nat),.l false came]) [Am false C CP n wr ps g' (dn++[.q [.str "take",.int k]]),.int k]
theorem qay4{g:Nat->Option Int}{k:Int}(h:Dg N g k=.int (j:Nat)):j<N/\g j=some k:=by unfold Dg at h;cases e:Br N g k with|none=>rw[e] at h;cases h|some i=>rw[e] at h;have h:D.int (i:Nat)=D.int (j:Nat):=h;injection h with h;have h:i=j:=⋯;subst h;obtain⟨a,b,_⟩:=List.findIdx?_eq_some_iff_getElem.mp e;rw[zB0] at a;rw[M9] at b;exact⟨a,zAd b⟩
theorem qac9(T:Txt K mg a):VFn P w K mg base 8 a.f30 a.d30 ["self", "key"] (qab7 a.C4 a.C3):=by
 refine VFn.mk2 T.d30.F qF6 (wOf [true,true]) (by walk_at "m") (by walk_at "l") (λ_ _ _ _ _ _ _ u=>⟨_,(Ab (An 2 qF6.nd (qm7 0 T.d28 T.C6.cl (ql1 T) qa0 (rm u) (vaN 1 Ac))) (Ab (sif (q2 (As Dq (qb0 _)) D9 (vnm 2) Be) (Ak qm5) Ay) (Ab (Bb (emutP qq3 N9 Oa Ob qc8 (Er rfl (vpn 0) T.C6.cl T.Cc) (vaV (qa4 (En (qa2 E4 (qa2 (vnm 1) qa6 rfl) rfl))) Ac))) (Ak (Av (Gu (vaV (qb6 (vnm 2)) (vaV (Aj T.d23 (qB5 T) qa0 (rm u) (vaV (qb6 (Bh rfl (vnm 0) T.C6.cl T.C9)) (vaB (Er rfl (vpn 0) T.C6.cl T.Ca) (vaN 2 Ac)))) Ac)))))))),λI Q J h=>?_⟩);obtain⟨n,wr,c,g,f,S,k,rfl,C,E,v,KP,z,G,q⟩:=h;obtain⟨i,H,e⟩:=(KP.h.2 k).mp z;obtain⟨j,A⟩:=qW5 H e;obtain⟨r,s⟩:=qay4 A;refine Aw [rA a n wr c g f,.int k,.u] rfl ?_;refine qb2 [rA a n wr c g f,.int k,.int (j:Nat)] (λK t=>?_) ?_;{exact qe3 (qN4 (p:=rA a n wr c g f) (x:=.int k) (d:=.int (j:Nat)) rfl (qh3 rfl) rfl rfl ⟨false,n,wr,c,g,f,k,rfl,v k z,A.symm⟩ rfl t)};refine qg7 false (λQ q=>qi1 (b:=false) rfl q) nofun λ_=>?_
 refine qb2 [rA a n wr c g (f++[.q [.str "take",.int k]]),.int k,.int (j:Nat)] (λK t=>qe5 ?_) ?_;{refine qak2 (i:=0) (p:=[2]) (ys:=f) (d0:=rA a n wr c g f) (by show (D.fidx a.C4 "done" (rA a n wr c g f)).map (λn=>(0,[n]))=_;rw[qJ8];rfl) rfl rfl ?_;exact qj1 (y:=.q [.str "take",.int k]) rfl (qb7 (qa1 (a:=(f++[D.q [.str "take",.int k]],D.non)) (if_pos (show f.length<big by unfold big;lia)) t))};generalize f++[.q [.str "take",.int k]]=o at q ⊢;refine qi2 (qaM3 (qb9 (y:=.int (j:Nat)) rfl rfl (qc9 (qd6 (qb9 (y:=Ad true a.C3 n wr c) (A4 rfl qf2) rfl ?_)))));refine qa1 (a:=(0,[1])) (by show (D.fidx a.C4 "held" (rA a n wr c g o)).map (λn=>(0,[n]))=_;rw[qt2];rfl) (qa1 (a:=D.l false (O8 n.toNat g)) rfl ⟨rfl,λw=>?_⟩);refine qc3 (x:=.int (j:Nat)) rfl (qb7 (qa1 (a:=D.int (j:Nat)) rfl ?_));refine⟨true,n,wr,c,g,S,k,j,rfl,C,E,v,KP,r,s,λcame B K'=>?_⟩;refine qa1 (a:=[rA a n wr c B o,.int k,.int (j:Nat)]) ?_ (qb7 ⟨lt2,q j came B K'⟩);show Au (.pl 0 [1] w::_) _ _=_;rw[qn9 rfl];rfl
theorem qF5:qa9 ["self", "deed"] ["self"] (qa3 qz8):=by walk_at "s"
def qQ9:Sp:=λvs H Q _=>∃x t,vs=[x]/\Bn H x=some t/\Q (.bl (Jc x)) H
theorem qT3(T:Txt K mg a):Ee P w K mg base CX0 1 a.f1 a.d1 ["thing"] qQ9:=by
 refine T.d1.F.ok qF4 (λd H Q E h=>?_) (λf A outer s H d Q E i h=>?_);{obtain⟨x,t,rfl,_⟩:=h;rfl};obtain⟨x,t,rfl,b,q⟩:=h;refine⟨_,(qA5 (Hr (qat1 (cbi ql9 T.C8 (qc4 (pv 0) (qc4 (qaF8 "int" T.Cw) qk9))) (qas8 (qaP9 (cbi ql9 T.C8 (qc4 (pv 0) (qc4 (qaF8 "bool" T.Cu) qk9)))))))),?_⟩;refine⟨_,rfl,x,_,t,rfl,b,∅,_,rfl,?_⟩;have g:=qaI3 b;have e2:=qau1 b;rw[g];refine ite2 (λc=>⟨_,rfl,x,_,t,rfl,b,∅,_,rfl,?_⟩) (λc=>?_);{rw[e2];cases x<;>first|exact q|(simp[Jc] at c)};have:Jc x=false:=by cases e:Jc x with|false=>rfl|true=>rw[e] at c;exact absurd rfl c
 rw[this] at q;exact q
def qr7:Sp:=λvs H Q _=>∃x t l m,vs=[x,.int l,.int m]/\Bn H x=some t/\Q (.bl (qax4 l m x)) H
theorem qs4(T:Txt K mg a):Ee P w K mg base CX0 2 a.f2 a.d2 ["thing", "least", "most"] qr7:=by refine T.d2.F.ok qj2 (λc H Q E h=>?_) (λd A outer s H c Q E e h=>?_);{obtain⟨x,t,l,m,rfl,_⟩:=h;rfl};obtain⟨x,t,l,m,rfl,f,q⟩:=h;refine⟨_,(qA5 (Hr (qat1 (Hc T.d1 (qT3 T) (rm e) (qc4 (pv 0) qk9)) (qas8 (qai8 G7 G7 (pv 1) (pv 0) (pv 2)))))),?_⟩;refine⟨_,rfl,x,t,rfl,f,_,rfl,?_⟩;cases x with|int i=>refine iteT ⟨_,rfl,_,rfl,_,_,rfl,rfl,_,rfl,?_⟩;by_cases b:l<=i;{rw[zAf b];refine iteT ⟨_,rfl,_,_,rfl,rfl,?_⟩;have q:Q (.bl (decide (l<=i)&&decide (i<=m))) H:=q;rw[zAf b,Bool.true_and] at q;exact q};rw[zAy b];refine iteF ?_;have q:Q (.bl (decide (l<=i)&&decide (i<=m))) H:=q;rw[zAy b,Bool.false_and] at q;exact q|_=>exact iteF q
def qL0:Sp:=λvs H Q _=>∃x t,vs=[x]/\Bn H x=some t/\Q (.bl (numV x)) H
theorem qM4(T:Txt K mg a):Ee P w K mg base CX0 3 a.f3 a.d3 ["thing"] qL0:=by refine T.d3.F.ok qz0 (λb H Q E h=>?_) (λc A outer s H b Q E d h=>?_);{obtain⟨x,t,rfl,_⟩:=h;rfl};obtain⟨x,t,rfl,e,q⟩:=h;refine⟨_,(qA5 (Hr (Hc T.d2 (qs4 T) (rm d) (qc4 (pv 0) (qc4 qM0 (qc4 (qaz7 T.Ck) qk9)))))),?_⟩;exact⟨_,rfl,x,t,_,_,rfl,e,q⟩
def Hq(C:γ)(x y:D):Option D:=match y with
 |.int k=>if (D.int k).num=true then (D.fld C "held" x).bind λl=>match l with|.l _ ys=>((flats ys).map λa=>match Dh (.int k) a with|some j=>.int (j:Nat)|none=>.non)|_=>none else none
 |_=>none
theorem qaA7{v:V}:∀a:List V,inV v a=(Dh v a).isSome|[]=>rfl|y::r=>by have b:=qaA7 (v:=v) r;unfold inV at b ⊢;rw[zCu,b];show _=(if eqV y v=true then some 0 else (Dh v r).map (· + 1)).isSome;cases eqV y v<;>simp
theorem qas5(a:Ah k):Hq C (Am zr C CP n wr ps g dn) (.int k)=some (Dg n.toNat g k):=by show (if (D.int k).num=true then (D.fld C "held" (Am zr C CP n wr ps g dn)).bind _ else none)=_;rw[if_pos (show (D.int k).num=true from qaR5.mpr a),qs3];show (flats (O8 n.toNat g)).map _=_;rw[qU4];show some (match Dh (.int k) ((Lh n.toNat).map λi=>Gq (g i)) with|some j=>D.int (j:Nat)|none=>.non)=_;rw[qan4];rfl
theorem qE0(T:Txt K mg a):Ee P w K mg base CX0 4 a.f28 a.d28 ["self", "key"] (spPu (Hq a.C4)):=by
 refine T.d28.F.ok qr9 (λc H Q E h=>?_) (λR A outer s H c Q E S h=>?_)
 . obtain⟨F,u,x,d,e,o,A,B,w,rfl,_⟩:=h
   rfl
 obtain⟨F,u,x,d,e,o,A,B,w,rfl,U,V,b,t,q⟩:=h;cases o with
 |int k=>
   cases V;have b:(if (D.int k).num=true then (D.fld a.C4 "held" e).bind λl=>match l with
     |.l _ g=>(flats g).map λf=>match Dh (.int k) f with
       |some j=>D.int (j:Nat)
       |none=>.non
     |_=>none else none)=some d:=b
   by_cases i:(D.int k).num=true
   . rw[if_pos i] at b
     cases m:D.fld a.C4 "held" e with
     |none=>rw[m] at b;cases b
     |some l=>
     rw[m] at b;obtain⟨p,C,y,G,v,rfl,I,J,L,M,B1,W⟩:=qaQ7 (K:=K) T.C6.cl T.Ca F H u e A l (λv H'=>∃B,Pc F H' v l B) U m (λv H' B' r _ _=>⟨B',r⟩);cases l with
     |l z g=>
       have b:((flats g).map λf=>match Dh (.int k) f with
         |some j=>D.int (j:Nat)
         |none=>.non)=some d:=b
       obtain⟨f,X,b⟩:=zAa.mp b;obtain⟨N,c,A3,rfl,n,Y,_⟩:=W.lst_inv;obtain⟨rfl,O⟩:=Y.flats X;refine⟨_,(qT0 (ps_if (qaO7 (qaE8 (Hc T.d3 (qM4 T) (rm S) (qc4 (pv 1) qk9))))
   (qA5 qaF0)
   qaz2)
   (qA5 (Hr (qai7 (qaz1 qx9 (pv 1) (qas9 (pv 0) rfl) (by with_unfolding_all rfl)) (Hb N9 Oe Oh qT8 (qas9 (pv 0) rfl) (qc4 (pv 1) qk9)) qaQ0)))),?_⟩
       refine⟨_,rfl,.int k, "int",rfl,rfl,_,rfl,?_⟩;rw[show numV (.int k)=true from i];refine iteF ⟨_,rfl,_,rfl,p,C,y,G,_,rfl,I,J,L,M,N,c,rfl,.inl (SqL.of n),rfl,O,_,rfl,?_⟩;show if inV (.int k) c=true then _ else _
       rw[qaA7];cases e2:Dh (.int k) c with
       |some j=>
         rw[e2] at b;have b:D.int (j:Nat)=d:=b;subst b;cases t;obtain⟨Z,i1,i2,i3⟩:=qan5 e2;exact iteT ⟨_,rfl,p,C,y,G,_,rfl,I,J,L,M,.inl ⟨rfl,_,SqL.of n⟩,_,rfl,N,c,.int k,j,Z,rfl,rfl,n,rfl,O,i1,i2,i3,q⟩
       |none=>
         rw[e2] at b;have b:D.non=d:=b;subst b;cases t;exact iteF q
     |_=>cases b
   rw[if_neg i] at b;cases b
 |_=>cases b
def qab6(C CP:γ):VSp:=λds Q _=>∃n wr ps g dn S,ds=[Am false C CP n wr ps g dn]/\1<=n/\n<=64/\(∀x∈S,Ah x)/\Kept n.toNat wr (O5 n ps) g S/\(dn=[]/\Q (.bl false) ds∨∃a k,Ah k/\(dn=a++[.q [.str "put",.int k]]/\k∈S/\(∀g',Kept n.toNat wr (O5 n ps) g' (S.filter λx=>decide (x≠k))->Q (.bl true) [Am false C CP n wr ps g' a])∨dn=a++[.q [.str "take",.int k]]/\¬k∈S/\(∀q,¬Crowd n.toNat wr (O5 n ps) (S++[k]) q)/\∀g',Kept n.toNat wr (O5 n ps) g' (S++[k])->Q (.bl true) [Am false C CP n wr ps g' a]))
theorem qac8(T:Txt K mg a):VFn P w K mg base 8 a.f31 a.d31 ["self"] (qab6 a.C4 a.C3):=by
 refine VFn.mk2 T.d31.F qF5 (wOf [true]) (by walk_at "m") (by walk_at "l") (λ_ _ _ _ _ _ _ B=>⟨_,(Ab (sif (q2 (As (qj4 B.u64) (qb0 _)) Bl (vbi qt5 qt4.ops T.Cj (qa2 (Bh rfl (vnm 0) T.C6.cl T.Cc) qa6 rfl)) Af) (Ak (Av (qa4 vbl))) Ay) (Ab (An 1 qF5.nd (qbe5 qbb7 N9 Og Oq qbb8 (Er rfl (vpn 0) T.C6.cl T.Cc))) (Ab (sif (q2 (As (qj4 B.u64) (qb0 _)) Bl (v2 (Aq qa8) Al (vnm 1) Af) E4) (Ak (Bb (Aj T.d23 (qB5 T) qa0 (rm B) (vaV (qb6 (Bh rfl (vnm 0) T.C6.cl T.C9)) (vaBV (Er rfl (vpn 0) T.C6.cl T.Ca) (qaX8 0 T.d28 T.C6.cl (qE0 T) (rm B) (v2 (Aq qa8) Al (vnm 1) Af))))))) (Ak (Bb (Aj T.d20 (qG1 T) qa0 (rm B) (vaV (qb6 (Bh rfl (vnm 0) T.C6.cl T.C9)) (vaB (Er rfl (vpn 0) T.C6.cl T.Ca) (vaV (qb6 (v2 (Aq qa8) Al (vnm 1) Af)) Ac))))))) (Ak (Av (qa4 vbl)))))),λv Q E h=>?_⟩);obtain⟨n,wr,o,g,A,S,rfl,J,L,M,KP,h⟩:=h;have s:∀(A:Ds) N,f2 gEq (A9 (fx1 Fm) (A6 (f1 (D.fld a.C4 "done") (rdN 0)) λ_=>some [])) (kC (.int 0)) [rA a n wr o g A,N]=some (.bl (((A.length:Nat):Int)==0)):=λA N=>by refine Ag (x:=.int (A.length:Nat)) (y:=.int 0) ?_ rfl rfl;unfold A9 A6;rw[A4 rfl qW7];rfl
 refine Aw [rA a n wr o g A,.u] rfl ?_;have u:∀(f:Ds)(d:D)(K:Ds->Prop)(E:XKd),D.imm d=true->K [rA a n wr o g f,d]->Et gPop (λv=>(D.fidx a.C4 "done" (rA a n wr o g (f++[d]))).map λn=>(0,[n])) A8 [rA a n wr o g (f++[d]),.u] (λd G=>K (G.set 1 d)) E:=λf d K E _ t=>by refine qak2 (i:=0) (p:=[2]) (ys:=f++[d]) (d0:=rA a n wr o g (f++[d])) (by show (D.fidx a.C4 "done" (rA a n wr o g (f++[d]))).map (λn=>(0,[n]))=_;rw[qJ8];rfl) rfl rfl (qb7 (qa1 (a:=(f,d)) ?_ t));show ((f++[d])[(f++[d]).length-1]?).map (λR=>((f++[d]).dropLast,R))=_;rw[zA6,show f.length+[d].length-1=f.length from rfl,zBn (zA2 _),Nat.sub_self,Mc];rfl
 rcases h with⟨rfl,q⟩|⟨f,k,hk,h⟩;{exact qj8 true (s [] _) (λ_=>qg5 (.bl false) rfl q) nofun};have C:∀d:D,((((f++[d]).length:Nat):Int)==0)=false:=λd=>by rw[zA6];exact zCa.mpr (by show ((f.length+1:Nat):Int)≠0;lia)
 rcases h with⟨rfl,hin,q⟩|⟨rfl,nin,nc,q⟩
 .refine qj8 false ((s _ _).trans (by rw[C])) nofun λ_=>?_
  refine qb2 [rA a n wr o g f,.q [.str "put",.int k]] (λK t=>qe3 (u f _ K _ rfl t)) ?_;obtain⟨i,U,e⟩:=(KP.h.2 k).mp hin;obtain⟨j,O⟩:=qW5 U e;obtain⟨H,I⟩:=qay4 O;refine qc0 (λv=>∃r,v=[rA a n wr o r f,.q [.str "put",.int k]]/\Kept n.toNat wr (O5 n o) r (S.filter λx=>decide (x≠k))) (λK t=>if_v (b:=true) rfl (λ_=>qe5 (qd6 ?_)) nofun) ?_;{refine qb9 (y:=Ad true a.C3 n wr o) (A4 rfl qf2) rfl ?_;refine qa1 (a:=(0,[1])) (by show (D.fidx a.C4 "held" (rA a n wr o g f)).map (λn=>(0,[n]))=_;rw[qt2];rfl) ?_;refine qa1 (a:=D.l false (O8 n.toNat g)) rfl ?_;refine⟨rfl,qa1 (a:=D.int (j:Nat)) ?_ ⟨rfl,λw=>?_⟩⟩;{show (if (rA a n wr o g f).isM a.C4 "room_of"=true then (some (D.int k)).bind λy=>(Hq a.C4 (rA a n wr o g f) y).bind λd=>d.flat.map λ_=>d else none)=_;rw[if_pos (qh3 rfl)];show (Hq a.C4 (rA a n wr o g f) (.int k)).bind _=_;rw[qas5 hk,O];rfl};refine⟨true,n,wr,o,g,S,k,j,rfl,J,L,M,KP,H,I,λcame r K'=>?_⟩;refine qa1 (a:=[rA a n wr o r f,D.q [.str "put",.int k]]) ?_ (t _ ⟨r,rfl,K'⟩);show Au (.pl 0 [1] w::_) _ _=_;rw[qn9 rfl];rfl};rintro v ⟨r,rfl,K'⟩;exact qg5 (.bl true) rfl (q r K')
 refine qj8 false ((s _ _).trans (by rw[C])) nofun λ_=>?_
 refine qb2 [rA a n wr o g f,.q [.str "take",.int k]] (λK t=>qe3 (u f _ K _ rfl t)) ?_;refine qc0 (λv=>∃r,v=[rA a n wr o r f,.q [.str "take",.int k]]/\Kept n.toNat wr (O5 n o) r (S++[k])) (λK t=>if_v (b:=false) rfl nofun λ_=>qe5 (qd6 ?_)) ?_;{refine qb9 (y:=Ad true a.C3 n wr o) (A4 rfl qf2) rfl ?_;refine qa1 (a:=(0,[1])) (by show (D.fidx a.C4 "held" (rA a n wr o g f)).map (λn=>(0,[n]))=_;rw[qt2];rfl) ?_;refine qa1 (a:=D.l false (O8 n.toNat g)) rfl ?_;refine⟨rfl,λw=>qb9 (y:=D.int k) rfl rfl (qb7 ?_)⟩;refine⟨true,n,wr,o,g,S,k,rfl,J,L,hk,M,KP,nin,?_,λcame r K'=>?_⟩;{by_cases h:∃e,Ja n.toNat wr (O5 n o) g k e;{exact h};obtain⟨q,c⟩:=KP.crowd λe z=>h ⟨e,z⟩;exact absurd c (nc q)};refine qa1 (a:=[rA a n wr o r f,D.q [.str "take",.int k]]) ?_ (t _ ⟨r,rfl,K'⟩);show Au (.pl 0 [1] w::_) _ _=_;rw[qn9 rfl];rfl};rintro v ⟨r,rfl,K'⟩;exact qg5 (.bl true) rfl (q r K')
theorem qS3:qa9 ["self"] ["self"] (qa3 qv0):=by walk_at "s"
def qR3(C CP:γ):VSp:=A5 λds d=>∃zr n wr ps g dn,ds=[Am zr C CP n wr ps g dn]/\D.imms dn=true/\d=.l false dn
theorem qB6(T:Txt K mg a):VFn P w K mg base 1 a.f32 a.d32 ["self"] (qR3 a.C4 a.C3):=by refine VFn.mk2 T.d32.F qS3 (wOf [true]) qb5 (by walk_at "l") (λ_ _ _ _ _ _ _ i=>⟨_,(Ak (Av (qa4 (E5 qd8 qw9.ops T.Ci (qa2 (Bh rfl (vnm 0) T.C6.cl T.Cc) qa6 rfl))))),λj Q k h=>?_⟩);obtain⟨d,⟨c,n,wr,e,g,b,rfl,f,rfl⟩,q⟩:=h;refine Aw [Am c a.C4 a.C3 n wr e g b] rfl ?_;refine qg5 (.l false b) ?_ q;unfold A9 A6;rw[A4 rfl qW7];exact qh4 f
theorem qu4:qa9 ["_law_row", "_law_plan", "_law_there", "_law_key", "_law_undoes", "_law_word", "_law_last"] ["_law_row", "_law_plan", "_law_there", "_law_key", "_law_undoes"] (qa3 qA3):=by walk_at "s"
noncomputable def wS(p:Bool):Str:=cond p "put" "take"
def J2(n:Int)(wr:Bool)(ps:Pr)(S:List Int)(k:Int)(p:Bool):Prop:=cond p (¬k∈S/\∀q,¬Crowd n.toNat wr (O5 n ps) (S++[k]) q) (k∈S)
noncomputable def Fy(S:List Int)(k:Int)(p:Bool):List Int:=cond p (S++[k]) (S.erase k)
inductive Hs(n:Int)(wr:Bool)(ps:Pr):Ds->List Int->Prop
 |nil {S:List Int}:Hs n wr ps [] S
 |snoc {dn:Ds} {S' S:List Int} {k:Int} {p:Bool}:Hs n wr ps dn S'->Ah k->S'.Nodup->J2 n wr ps S' k p->(∀q,¬Crowd n.toNat wr (O5 n ps) S' q)->(∀x,x∈S↔x∈Fy S' k p)->Hs n wr ps (dn++[.q [.str (wS p),.int k]]) S
section
variable{n:Int}{wr:Bool}{ps:Pr}{S T:List Int}{dn:Ds}{k x:Int}{p:Bool}
theorem Hs.congr(h:Hs n wr ps dn S)(e:∀x,x∈T↔x∈S):Hs n wr ps dn T:=by cases h with|nil=>exact .nil|snoc a b c d f m=>exact .snoc a b c d f λx=>(e x).trans (m x)
theorem Hs.imms(h:Hs n wr ps dn S):D.imms dn=true:=by induction h with|nil=>rfl|snoc a b c d f m e=>rw[qG6,e];rfl
theorem Hs.back(h:Hs n wr ps dn S)(g:S.Nodup):dn=[]∨∃b k p,dn=b++[.q [.str (wS p),.int k]]/\Ah k/\J2 n wr ps S k !p/\Hs n wr ps b (Fy S k !p):=by
 cases h with
 |nil=>exact .inl rfl|snoc a j d gd l m=>
  rename_i b S' k p;refine .inr ⟨b,k,p,rfl,j,?_⟩;cases p with
  |true=>have gd:¬k∈S'/\_:=gd;have m:∀x,x∈S↔x∈S'++[k]:=m;refine⟨(m k).mpr (zAw _ (zA8.mpr rfl)),a.congr λx=>?_⟩;show x∈S.erase k↔_;rw[g.mem_erase_iff,m x,zAb,zA8];exact⟨λh=>h.2.resolve_right h.1,λh=>⟨λe=>gd.1 (e ▸ h),.inl h⟩⟩|false=>
   have gd:k∈S':=gd;have m:∀x,x∈S↔x∈S'.erase k:=m;have e:∀x,x∈S++[k]↔x∈S':=λx=>by rw[zAb,zA8,m x,d.mem_erase_iff];exact⟨λh=>h.elim (λh=>h.2) λh=>h ▸ gd,λh=>by by_cases z:x=k;exact .inr z;exact .inl ⟨z,h⟩⟩
   have i:¬k∈S:=λh=>by rw[m k,d.mem_erase_iff] at h;exact h.1 rfl
   have f:(S++[k]).Nodup:=zBg.mpr ⟨g,(by simp),λx o y r e=>i (by rw[<-zA8.mp r,<-e];exact o)⟩;exact⟨⟨i,λq c=>l q (c.perm ((Lq f d).mpr e))⟩,a.congr e⟩
theorem qak0(a:∀x∈S,Ah x)(c:Ah k):∀x∈Fy S k p,Ah x:=λx b=>by
 cases p with
 |true=>
  rcases zAb.mp b with h|h
  .exact a x h
  rw[zA8.mp h];exact c
 |false=>exact a x (List.mem_of_mem_erase b)
theorem qaV6(a:S.Nodup):(S.filter λx=>decide (x≠k))=S.erase k:=by rw[a.erase_eq_filter];refine Lz λx _=>?_;by_cases h:x=k<;>simp[h]
end
theorem qaC3(h:te ds (λd a=>g d a e.nx) e.xe):Ec te g e ds:=h
theorem qaU3{S:List Int}{k:Int}(h:k∈S):G1 (O7 S) [.int k]=some (O7 (S.erase k),.non):=by show (intsD (O7 S)).bind _=_;rw[qY2];exact if_pos h
theorem qaN8{S:List Int}{k:Int}(hi:ds[i]?=some (kL S))(c:ds[j]?=some (.int k))(f:i≠j)(g:k∈S)(q:Q .non ((ds.set j .u).set i (kL (S.erase k)))):Eg G1 i (tbN j A8) ds Q xe:=by
 have e:(rdN i ds).bind D.own=some (O7 S):=by rw[qh0 hi rfl];rfl
 have e2:(rdN i (ds.set j .u)).bind D.own=some (O7 S):=by rw[qh0 (d:=kL S) (by rw[zBe (Ne.symm f)];exact hi) rfl];rfl
 refine⟨by rw[e];rfl,qc3 (qh0 c rfl) ?_⟩;refine qa1 (k:=λd=>orF ((rdN i (ds.set j .u)).bind D.own) λb=>orF (G1 b [d]) λz=>Q z.2 ((ds.set j .u).set i (.l false z.1))) (qh0 c rfl) ?_;refine qa1 (k:=λb=>orF (G1 b [.int k]) λz=>Q z.2 ((ds.set j .u).set i (.l false z.1))) e2 ?_;exact qa1 (a:=(O7 (S.erase k),D.non)) (qaU3 g) q
theorem ne_dn{dn:Ds}:gNe (.l false dn) (.l false [])=some (.bl !decide (dn=[])):=by cases dn<;>rfl
def qac1(C CP:γ):VSp:=λds Q _=>∃n wr ps b g dn S k c,ds=[Am false C CP n wr b g dn,Ae n wr ps,kL S,.int k,.bl c]/\1<=n/\n<=64/\(ps.map (·.1)).Nodup/\O5 n b=O5 n ps/\(∀x∈S,Ah x)/\Ah k/\Kept n.toNat wr (O5 n ps) g S/\Hs n wr ps dn S/\dn.length<=900/\∀g' a S' d,Kept n.toNat wr (O5 n ps) g' S'->Hs n wr ps a S'->(∀x∈S',Ah x)->a.length<=dn.length+1->Q .non [Am false C CP n wr b g' a,Ae n wr ps,kL S',d,.bl c]
theorem qad2(T:Txt K mg a):VFn P w K mg base 9 a.f48 a.d48 ["_law_row", "_law_plan", "_law_there", "_law_key", "_law_undoes"] (qac1 a.C4 a.C3):=by
 refine VFn.mk2 T.d48.F qu4 (wOf [true,true,true,true,true]) (by walk_at "m") (by walk_at "l") (λ_ _ _ _ _ _ _ v=>⟨_,(Ak (sif (Jh (tv (vnm 4)) (Gf (q2v (A7 (qv4 v.u64) (qb0 _)) (As (qv4 v.u64) (qb0 _)) Dr (qt3 0 T.d32 T.C6.cl (qB6 T) qa0 (rm v)) (Bo qa6)))).te (Ab (E8 (e2vP (Aq qa8) Al (qt3 0 T.d32 T.C6.cl (qB6 T) qa0 (rm v)) (vneg Af)) (Fa (n:=2) rfl (qt1 (Bc 5 qu4.nd) (qt1 (Bc 6 qu4.nd) E9)))) (Ab (Bb (qt3 0 T.d31 T.C6.cl (qac8 T) qa0 (rm v))) (Ak (sif (q2 (As (qj4 v.u64) (qb0 _)) Bl (vnm 5) E4) (Ak (Bb (Bp 2 qaS0 N9 Oi Os qX3 (vaN 6 Ac)))) (Ak (Bb (Bp 2 qq3 N9 Oa Ob qc8 (vaN 6 Ac)))))))) (Ak (sif (q2 (As qx9 (by with_unfolding_all rfl)) Ge (vnm 3) (vnm 2)) (Ab (Bb (qm7 0 T.d30 T.C6.cl (qac9 T) qa0 (rm v) (vaN 3 Ac))) (Ak (Bb (Bp 2 qaS0 N9 Oi Os qX3 (vaN 3 Ac))))) (Ak (sif (q2v (A7 qo5 (qb0 _)) (As qo5 (qb0 _)) qv3 (Aj T.d41 (qB7 T) qa0 (rm v) (vaN 1 (vaV (qa4 (v2 (Ap qf9) qf8 (vnm 2) (Bo (qa2 (vnm 3) qa6 rfl)))) Ac))) Be) (Ab (Bb (qm7 0 T.d29 T.C6.cl (qM8 T) qa0 (rm v) (vaN 3 Ac))) (Ak (Bb (Bp 2 qq3 N9 Oa Ob qc8 (vaN 3 Ac))))) Ay)))))),λz Q Z h=>?_⟩);obtain⟨n,wr,o,f,g,i,S,k,s,rfl,H,I,U,B,C,E,KP,J,V,q⟩:=h;have W:S.length<=64:=by have:=KP.len;lia
 have N:=J.imms;have O:∀(p:Bool) k,Ah k->J2 n wr o S k p->∀c d,Kept n.toNat wr (O5 n o) c (Fy S k p)->Q .non [rA a n wr f c (i++[D.q [.str (wS p),.int k]]),Ae n wr o,kL (Fy S k p),d,.bl s]:=λp k E gd c d K'=>q c _ _ d K' (.snoc J E KP.h.1 gd KP.no_crowd λx=>Iff.rfl) (qak0 C E) (by rw[zA6];exact zA2 _);refine Aw [rA a n wr f g i,Ae n wr o,kL S,.int k,.bl s,.u,.u] rfl ?_;refine Jx (s&&!decide (i=[])) (λQ q=>qp2 s (!decide (i=[])) (λQ q=>qi1 rfl q) (λ_ Q q=>qI4 (qN5 (p:=rA a n wr f g i) (d:=.l false i) rfl (qh3 rfl) ⟨false,n,wr,f,g,i,rfl,N,rfl⟩ rfl (qa1 (a:=D.bl (!decide (i=[]))) ne_dn (qa1 (a:=!decide (i=[])) rfl q)))) q) (λh=>?_) λ_=>?_;{rcases J.back KP.h.1 with rfl|⟨j,u,p,rfl,G,gd,L⟩;{cases s<;>cases h};clear h;refine qb2 [rA a n wr f g (j++[D.q [.str (wS p),.int u]]),Ae n wr o,kL S,.int k,.bl s,.str (wS p),.int u] (λK A=>qaC3 (qaf6 (qN5 (p:=rA a n wr f g (j++[D.q [.str (wS p),.int u]])) (d:=.l false (j++[D.q [.str (wS p),.int u]])) rfl (qh3 rfl) ⟨false,n,wr,f,g,_,rfl,N,rfl⟩ rfl (qa1 (a:=D.int (-1)) rfl ⟨rfl,qa1 (a:=D.q [.str (wS p),.int u]) (qap9 _ _) (qq9 A)⟩)))) ?_;refine qc0 (λz=>∃c,z=[rA a n wr f c j,Ae n wr o,kL S,.int k,.bl s,.str (wS p),.int u]/\Kept n.toNat wr (O5 n o) c (Fy S u !p)) (λK A=>qe5 (qE6 (p:=rA a n wr f g (j++[D.q [.str (wS p),.int u]])) rfl (qh3 rfl) (qb7 (qa1 (a:=rA a n wr f g (j++[D.q [.str (wS p),.int u]])) rfl ⟨n,wr,f,g,_,S,rfl,H,I,C,by rw[B];exact KP,.inr ⟨j,u,G,?_⟩⟩)))) ?_;{rw[B];cases p with|true=>exact .inl ⟨rfl,gd,λc K'=>qa1 (a:=[rA a n wr f c j,Ae n wr o,kL S,.int k,.bl s,.str (wS true),.int u]) rfl (A _ ⟨c,rfl,by rw[qaV6 KP.h.1] at K';exact K'⟩)⟩|false=>exact .inr ⟨rfl,gd.1,gd.2,λc K'=>qa1 (a:=[rA a n wr f c j,Ae n wr o,kL S,.int k,.bl s,.str (wS false),.int u]) rfl (A _ ⟨c,rfl,K'⟩)⟩};rintro z ⟨c,rfl,K'⟩;have fin:=q c j _ (.int k) K' L (qak0 C G) (by rw[zA6];lia);cases p with|true=>exact if_v (b:=true) rfl (λ_=>qe5 (qaN8 (S:=S) (k:=u) rfl rfl ∅ gd fin)) nofun|false=>exact if_v (b:=false) rfl nofun λ_=>qe5 (qaq2 (ys:=O7 S) (d:=.int u) rfl rfl rfl ∅ (by rw[qf5];unfold big;lia) (by rw[qw7];exact fin))};refine if_v (b:=decide (k∈S)) (Ag rfl rfl qaT4) (λh=>?_) λh=>?_;{have t:k∈S:=zAd h;refine qc0 (λz=>∃c,z=[rA a n wr f c (i++[D.q [.str (wS false),.int k]]),Ae n wr o,kL S,.int k,.bl s,.u,.u]/\Kept n.toNat wr (O5 n o) c (S.erase k)) (λK A=>qe5 (qE6 (p:=rA a n wr f g i) rfl (qh3 rfl) (qc3 (x:=.int k) rfl (qb7 (qa1 (a:=D.int k) rfl (qa1 (a:=rA a n wr f g i) rfl ⟨n,wr,f,g,i,S,k,rfl,H,I,C,by rw[B];exact KP,t,⋯,λr came c K'=>?_⟩)))))) ?_;{rw[B,qaV6 KP.h.1] at K';exact qa1 (a:=[rA a n wr f c (i++[D.q [.str (wS false),.int k]]),Ae n wr o,kL S,.int k,.bl s,.u,.u]) rfl (A _ ⟨c,rfl,K'⟩)};rintro z ⟨c,rfl,K'⟩;exact qe5 (qaN8 (S:=S) (k:=k) rfl rfl ∅ t (O false k E t c _ K'))};have t:¬k∈S:=zB6 h;have M:(S++[k]).Nodup:=zBg.mpr ⟨KP.h.1,(by simp),λx X y Y e=>t (by rw[<-zA8.mp Y,<-e];exact X)⟩;refine(show sIf _ _ _ _ _ from qI4 (qd6 (qc3 (x:=Ae n wr o) rfl (qj1 (y:=kL (S++[k])) (Ag (x:=kL S) (y:=kL [k]) rfl rfl (qV5 (by show _+1<=1000;lia))) (qb7 (qa1 (a:=Ae n wr o) rfl ?_))))));refine⟨n,wr,o,false,S++[k],rfl,H,I,U,M,by rw[zA6];show _+1<=200;lia,λ_=>?_,λR g2 _=>?_⟩;{exact qa1 (a:=[rA a n wr f g i,Ae n wr o,kL S,.int k,.bl s,.u,.u]) rfl (qa1 (a:=D.bl false) rfl (qa1 (a:=false) rfl (Fe ∅ (q g i S _ KP J C (Nat.le_succ _)))))};refine qa1 (a:=[rA a n wr f g i,Ae n wr o,kL S,.int k,.bl s,.u,.u]) rfl (qa1 (a:=D.bl true) rfl (qa1 (a:=true) rfl (Bq rfl ?_)));refine qc0 (λz=>∃c,z=[rA a n wr f c (i++[D.q [.str (wS true),.int k]]),Ae n wr o,kL S,.int k,.bl s,.u,.u]/\Kept n.toNat wr (O5 n o) c (S++[k])) (λK A=>qe5 (qE6 (p:=rA a n wr f g i) rfl (qh3 rfl) (qc3 (x:=.int k) rfl (qb7 (qa1 (a:=D.int k) rfl (qa1 (a:=rA a n wr f g i) rfl ⟨n,wr,f,g,i,S,k,rfl,H,I,E,C,by rw[B];exact KP,t,by rw[B];exact R,⋯,λcame c K'=>?_⟩)))))) ?_;{rw[B] at K';exact qa1 (a:=[rA a n wr f c (i++[D.q [.str (wS true),.int k]]),Ae n wr o,kL S,.int k,.bl s,.u,.u]) rfl (A _ ⟨c,rfl,K'⟩)};rintro z ⟨c,rfl,K'⟩;exact qe5 (qaq2 (ys:=O7 S) (d:=.int k) rfl rfl rfl ∅ (by rw[qf5];unfold big;lia) (by rw[qw7];exact O true k E ⟨t,R⟩ c _ K'))
theorem qp7:qa9 ["_law_script", "_law_bag_here", "_law_plan", "_law_keys", "_law_lists", "_law_homes", "_law_rows", "_law_k", "_law_row", "_law_some", "_law_few", "_law_turn", "_law_undoes"] ["_law_script"] (qa3 Gm):=by walk_at "s"
theorem qap6{ps:List Pl}:Au (.sl i::ps) (y::ys) ds=Au ps ys (ds.set i y):=rfl
theorem qaJ8{g:VTG}(h:ta ds (λx ds1=>orF (Ih [x]) λj=>Fp j=true/\Bw g t e (By 0 j.toNat) ds1) e.xe):Jp (Gy (tbV ta A8)) g t e ds:=h
theorem ct_to{src:List (Option Nat)}{t0:VT}{g:VTG}(h:t0 ds (λd ds1=>orF d.tupOf λys=>D.imms ys=true/\Ei src g qf te ys ds1 Q) xe):tCT src t0 g qf te ds Q xe:=h
theorem qaV0:(Am zr C CP n wr ps g dn).fz=Am true C CP n wr ps g (D.fzs dn):=by show D.ins true C [("plan",(Ad true CP n wr ps).fz),("held",.l true (D.fzs (O8 n.toNat g))),("done",.l true (D.fzs dn))]=_;rw[qaU7,qaB2];rfl
theorem qaJ7:(Ae n wr ps).fz=Ae n wr ps:=by show D.q [.int n,.bl wr,.l true (D.fzs (O9 ps))]=_;rw[qw8];rfl
theorem qaV7:∀(S:List Int)(j:Nat),(O7 S).eraseIdx j=O7 (S.eraseIdx j)|[],_=>rfl|_::_,0=>rfl|x::S,j+1=>congrArg (D.int x::·) (qaV7 S j)
theorem Ka{z:Bool}{S:List Int}{v x:Int}(a:0<=v)(h:S[v.toNat]?=some x):gIx (.l z (O7 S)) (.int v)=some (.int x):=by have e:v=((v.toNat:Nat):Int):=⋯;rw[e];exact qP5 (by unfold O7;rw[zB5,h];rfl)
theorem qao5:∀{S:List Int}{j:Nat}{x:Int},S[j]?=some x->(x::S.eraseIdx j).Perm S|[],_,_,h=>by cases h|y::S,0,x,h=>by cases h;exact .refl _|y::S,j+1,x,h=>(List.Perm.swap y x _).trans ((qao5 (S:=S) h).cons y)
def okW(n:Int)(wr:Bool)(ps:Pr)(g:Nat->Option Int)(S:List Int)(e:Ds)(m:Nat):Prop:=Kept n.toNat wr (O5 n ps) g S/\Hs n wr ps e S/\(∀x∈S,Ah x)/\e.length<=m
def okR(C CP:γ)(n:Int)(wr:Bool)(ps a:Pr)(S0 S1:List Int)(m:Nat)(d:D):Prop:=m=0/\(∃g e,d=Am false C CP n wr ps g e/\okW n wr ps g S0 e 64)∨m=1/\∃g e,d=Am false C CP n wr a g e/\okW n wr ps g S1 e 64
abbrev qm9 (u) (n:Int) (wr:Bool) (ps:Pr) (ks) (S0) (S1) (qs) (p1 d e f g a b c:D):=([.hole u,p1,Ae n wr ps,.l true (O7 ks),.l false [kL S0,kL S1],.l false [.l true (O9 ps),.l true (O9 qs)],d,e,f,g,a,b,c]:Ds)
theorem qbb6(T:Txt K mg a):Ee P w K mg base (CX1 P w) 12 a.f49 a.d49 ["_law_script"] (He K):=by
 refine T.d49.F.okX qp7 (λvs H Q E h=>?_) (λb0 A outer s H vs Q E hr h=>?_);{obtain⟨l,ns,rfl,_⟩:=h;rfl};obtain⟨l,ns,rfl,hS,hl,k⟩:=h;refine⟨_,qT0 (sset 1 qp7.nd (Hc T.d37 (qaR2 T) (rm hr) (qc4 (pv 0) qk9))) (show VSs ⟨λ_=>E,λ_=>false,Li 13 none,[]⟩ (Em true (CX1 P w) P w K mg base ["_law_script", "_law_bag_here", "_law_plan", "_law_keys", "_law_lists", "_law_homes", "_law_rows", "_law_k", "_law_row", "_law_some", "_law_few", "_law_turn", "_law_undoes"] "law" (qa3 Gm) a.f49 b0 A outer s H E) _ _ from(Ab (E8 (Aj T.d43 (qat3 T) qa0 (rm hr) (vaN 1 (vaV (e2P (Aq qa8) Al (qa4 (Bo (qa2 Af (qa2 Af qa6 rfl) rfl))) (Aj T.d38 (qb3 T) qa0 (rm hr) (vaN 1 (vaV (qa4 Af) Ac)))) Ac))) (Fa (n:=2) rfl (qt1 (Bc 2 qp7.nd) (qt1 (Bc 3 qp7.nd) E9)))) (Ab (An 3 qp7.nd (eorM 3 (Ic (qa4 (Bo (qa2 Af qa6 rfl)))))) (Ab (scT (NY:=["_law_some"]) (src:=[none]) 4 qp7.nd (Aj T.d45 (qaR1 T) qa0 (rm hr) (vaN 1 (vaN 2 (vaV (efz 3) Ac)))) (blk (λav C s0 H0 ex=>(Bc 0 (show (["_law_some"]:List Str).Nodup by decide +kernel))) (λav C s0 H0 ex=>Ea) (λav C s0 H0 ex=>(qa4 (E5 qd8 qw9.ops T.Ci (qa2 (vnm 0) qa6 rfl)))))) (Ab (An 5 qp7.nd (Ig (vaV (efzV (qa4 (E5 qd8 qw9.ops T.Ci (qa2 (v2 (Aq qa8) Al (vnm 2) Af) qa6 rfl)))) (vaV (efzV (Aj T.d46 (qE4 T) qa0 (rm hr) (vaN 1 (vaN 2 (vaN 3 Ac))))) Ac)))) (Ab (An 6 qp7.nd (qa4 (Bo qa6))) (Ab (qR9 N6 T.Cg (Ej (vaV (qa4 Af) Ac)) (Bc 7 qp7.nd) (Ab (An 8 qp7.nd (qbe6 (ndv:=[]) T.C6 T.D4 T.d24.bn (qad0 T) qa0 (rm hr) (vaV (efzV (emake T.C5 T.D1 T.d7 (qT6 T) qa0 (rm hr) (vaV (qb6 (v2 (Aq qa8) Al (vnm 2) Af)) (vaV (qb6 (v2 (Aq qa8) Al (vnm 2) Af)) (vaV (qb6 (v2 (Aq qa8) Al (vnm 5) (vnm 7))) Ac))))) Ac))) (Ab (An 9 qp7.nd (qa4 (E5 qd8 qw9.ops T.Ci (qa2 (v2 (Aq qa8) Al (vnm 4) (vnm 7)) qa6 rfl)))) (Ab (qaf7 N6 (q2 (As (qv4 hr.u64) (qb0 _)) Dr (vnm 9) (Bo qa6)) (Ak (Bb (qm7 8 T.d29 T.C6.cl (qM8 T) qa0 (rm hr) (vaV (Bp 9 qaH0 N9 Og Oq qaH1 (vaV (Aj T.d38 (qb3 T) qa0 (rm hr) (vaN 1 (vaV (qa4 (vbi qt5 qt4.ops T.Cj (qa2 (vnm 9) qa6 rfl))) Ac))) Ac)) Ac))))) (Ak (Bb (Bp 6 qq3 N9 Oa Ob qc8 (vaN 8 Ac)))))))) (Ab (qaN2 [] (λav=>(sif (B8 (te (Aj T.d47 (qX0 T) qa0 (rm hr) (vaN 2 (vaN 6 (vaN 4 Ac)))))) (Ak (Av (qa4 vbl))) Ay))) (Ab (scR1 (NY:=["_law_k", "_law_keys", "_law_bag_here"]) (src:=[none,some 3,some 1]) 10 qp7.nd T.Cg (Ej (vaV (e2 (Ap qf9) qf8 (qa4 Af) (Aj T.d38 (qb3 T) qa0 (rm hr) (vaN 1 (vaV (qa4 Af) Ac)))) Ac)) (blk (λav C s0 H0 ex=>(Bc 0 (show (["_law_k", "_law_keys", "_law_bag_here"]:List Str).Nodup by decide +kernel))) (λav C s0 H0 ex=>Ea) (λav C s0 H0 ex=>(e2nP 1 (Aq qa8) Al (Aj T.d38 (qb3 T) L2.qa0 (rm hr) (vaN 2 (vaV (qa4 (vbi qt5 qt4.ops T.Cj (qa2 (vnm 1) qa6 rfl))) Ac))))))) (Ab (qR9 N6 T.Cg (Ej (vaV (Aj T.d38 (qb3 T) qa0 (rm hr) (vaN 1 (vaV (qa4 Af) Ac))) Ac)) (Bc 11 qp7.nd) (Ab (An 7 qp7.nd (Aj T.d38 (qb3 T) qa0 (rm hr) (vaN 1 (vaV (qa4 Af) Ac)))) (Ab (An 12 qp7.nd (e2v (A7 (qj4 hr.u64) (qb0 _)) Bl (Aj T.d38 (qb3 T) qa0 (rm hr) (vaN 1 (vaV (qa4 Af) Ac))) Af)) (Ab (Bb (Aj T.d48 (qad2 T) qa0 (rm hr) (vaB (vpix (vpn 6) (vnm 7)) (vaN 2 (vaB (vpix (vpn 4) (vnm 7)) (vaV (e2nP 10 (Aq qa8) Al (Aj T.d38 (qb3 T) qa0 (rm hr) (vaN 1 (vaV (qa4 (vbi qt5 qt4.ops T.Cj (qa2 (vnm 10) qa6 rfl))) Ac)))) (vaN 12 Ac))))))) (Ak (qaN2 [] (λav=>(sif (B8 (te (Aj T.d47 (qX0 T) qa0 (rm hr) (vaN 2 (vaN 6 (vaN 4 Ac)))))) (Ak (Av (qa4 vbl))) Ay)))))))) (Ak (Av (qa4 vbl))))))))))))).h,?_⟩;refine⟨_,rfl,l,ns,rfl,hS,hl,λp L H' hp hL kp B=>?_⟩;obtain⟨x,y,z,O,B⟩:=B;refine qau0 (rest:=[]) (X:=Em true (CX1 P w) P w K mg base [] "law" (qa3 Gm) a.f49 b0 A outer s H E) (n:=11) (x:=x) (y:=y) (z:=z) (ns:=O) rfl (λ_=>rfl) rfl B.at_ B.li B.ne (λH'=>k H') ?_;have B0:Ph O (bagD x y z O):=⟨x,y,z,rfl,B.x0,B.y0,B.y1,B.z0,B.nn⟩;generalize bagD x y z O=b at B0;generalize V.ref l=u;refine Aw [.hole u,b,.u,.u,.u,.u,.u,.u,.u,.u,.u,.u,.u] rfl ?_;refine qc0 (λI=>∃b n wr f r,I=[.hole u,b,Ae n wr f,kL r,.u,.u,.u,.u,.u,.u,.u,.u,.u]/\Ph O b/\1<=n/\n<=64/\qK5 f/\r.Nodup/\(∀k∈r,Ah k)/\r.length<=66/\∃t,f.map (·.1)=r.take t) (λK hK=>?_) ?_
 .refine qaC3 (qd6 (qc3 (x:=b) (qh0 rfl B0.known) (qc9 (qD1 (x:=.l false [.int 16,.int 64]) rfl (qb8 (ds:=[.hole u,b,.u,.u,.u,.u,.u,.u,.u,.u,.u,.u,.u]) (m:=2) rfl B0 rfl ∅ ∅ λv b v0 v1 B=>?_)))));obtain⟨m,em,m1,m2⟩:∃m:Int,gIx (.l false [.int 16,.int 64]) (.int v)=some (.int m)/\1<=m/\m<=64:=by rcases (show v=0∨v=1 by lia) with rfl|rfl;{exact⟨16,rfl,∅,∅⟩};exact⟨64,rfl,∅,∅⟩
  refine qa1 em (qb7 (qa1 (a:=b) (qh0 rfl B.known) ⟨b,m,O,rfl,B,m1,m2,λb' n wr f r B' n1 n2 G nd hk a1 ht=>qa1 (a:=[.hole u,b',.u,.u,.u,.u,.u,.u,.u,.u,.u,.u,.u]) rfl (qq9 (hK _ ⟨b',n,wr,f,r,rfl,B',n1,n2,G,nd,hk,a1,ht⟩))⟩))
 rintro I ⟨b,n,wr,f,r,rfl,B,n1,n2,GP,a3,hk,a1,a4⟩;refine qc0 (λI=>∃r,I=[.hole u,b,Ae n wr f,kL r,.u,.u,.u,.u,.u,.u,.u,.u,.u]/\r≠[]/\r.Nodup/\(∀k∈r,Ah k)/\r.length<=66/\∃t,f.map (·.1)=r.take t) (λK hK=>qe3 ⟨false,O7 r,rfl,?_⟩) ?_;{by_cases e:r=[];{subst e;obtain⟨t,ht⟩:=a4;exact Bq rfl (qm6 (d:=kL [4]) rfl (hK _ ⟨[4],rfl,(by simp),(by simp),(by simp;unfold Ah;decide),(by simp),0,by rw[ht,Mz];rfl⟩))};exact Fe (λz=>e (List.map_eq_nil_iff.mp z)) (hK _ ⟨r,rfl,e,a3,hk,a1,a4⟩)};clear a3 hk a1 a4 r;rintro I ⟨r,rfl,b5,a3,hk,a1,a4⟩;refine qc0 (λI=>∃b S0 S1,I=[.hole u,b,Ae n wr f,.l true (O7 r),.l false [kL S0,kL S1],.u,.u,.u,.u,.u,.u,.u,.u]/\Ph O b/\okL n wr f r S0/\okL n wr f r S1) (λK hK=>?_) ?_;{refine qe3 (ct_to (qd6 (qc3 (x:=b) (qh0 rfl B.known) (qc3 (x:=Ae n wr f) rfl (qc9 (qa1 (a:=D.l false (O7 r)) rfl ?_))))));rw[Eu];refine qb7 (qa1 (a:=Ae n wr f) rfl (qa1 (a:=b) (qh0 rfl B.known) ⟨b,O,n,wr,f,r,rfl,B,n1,n2,GP.nd,a3,a1,λb' S T B' o1 o2=>qa1 (a:=[.hole u,b',Ae n wr f,.l true (O7 r),.u,.u,.u,.u,.u,.u,.u,.u,.u]) rfl ?_⟩));refine qa1 (a:=[.l true (O7 S),.l true (O7 T)]) rfl ⟨rfl,qaa1 (qj9 (qC9 (Bq rfl (qm6 (d:=kL S) (qal4 (z:=true)) ⟨by show 0<1000000;decide,qaa1 (qj9 (qC9 (Bq rfl (qm6 (d:=kL T) (qal4 (z:=true)) ⟨by show 1<1000000;decide,hK _ ⟨b',S,T,rfl,B',o1,o2⟩⟩))))⟩))))⟩};clear B;rintro I ⟨b,S0,S1,rfl,B,o0,o1⟩;have hA:∀x∈S0,Ah x:=λx hx=>hk x (o0.2.1 x hx);have hB:∀x∈S1,Ah x:=λx hx=>hk x (o1.2.1 x hx);refine qc0 (λI=>∃b o,I=(qm9 u n wr f r S0 S1 o b .u .u .u .u .u .u .u)/\Ph O b/\qK5 o/\∀k,qb4 n o k=qb4 n f k) (λK hK=>?_) ?_;{refine qe3 (qE8 (qc9 (Gk (qm6 (d:=.l false (O9 f)) (qaA4 (z:=true)) (qc9 (Gk (qd6 (qc3 (x:=b) (qh0 rfl B.known) (qc3 (x:=Ae n wr f) rfl (qc3 (x:=.l true (O7 r)) rfl (qb7 (qa1 (a:=D.l true (O7 r)) rfl (qa1 (a:=Ae n wr f) rfl (qa1 (a:=b) (qh0 rfl B.known) ⟨b,O,n,wr,f,r,rfl,B,n1,n2,GP,a3,hk,a4,λb' o B' G' hq=>qa1 (a:=[.hole u,b',Ae n wr f,.l true (O7 r),.l false [kL S0,kL S1],.u,.u,.u,.u,.u,.u,.u,.u]) rfl (qb7 ⟨lt2,?_⟩)⟩))))))))))))));rw[show (D.l false (O9 f)).fz=.l true (O9 f) from congrArg (D.l true) (qw8 f),show (D.l false (O9 o)).fz=.l true (O9 o) from congrArg (D.l true) (qw8 o)];exact hK _ ⟨b',o,rfl,B',G',hq⟩};clear B;rintro I ⟨b,o,rfl,B,GQ,hq⟩;have b1:O5 n o=O5 n f:=funext λk=>by unfold O5;rw[hq]
 refine qb2 (qm9 u n wr f r S0 S1 o b (.l false []) .u .u .u .u .u .u) (λK hK=>qn0 rfl hK) ?_;refine qc0 (λI=>∃b J M g1 N d7 Y W,I=(qm9 u n wr f r S0 S1 o b (.l false [rA a n wr f J M,rA a n wr o g1 N]) d7 Y W .u .u .u)/\Ph O b/\okW n wr f J S0 M 64/\okW n wr f g1 S1 N 64) (λK hK=>?_) ?_
 .refine qY7 (n:=2) rfl ∅ ?_;refine qe8 (λi I=>∃b rs d7 Y W,I=(qm9 u n wr f r S0 S1 o b (.l false rs) d7 Y W .u .u .u)/\Ph O b/\rs.length=i/\∀m d,rs[m]?=some d->okR a.C4 a.C3 n wr f o S0 S1 m d) _ 0 _ ⟨b,[],_,_,_,rfl,B,rfl,nofun⟩ ?_ ?_
  .rintro j y hy I ⟨b,rs,d7,Y,W,rfl,B,a6,a2⟩ K2 a5;obtain⟨hj,rfl⟩:=qI2 hy;rw[zAe] at a6 a5;obtain⟨pp,Sx,b6,b7,Gp,ep,a7,fin⟩:∃pp Sx,gIx (.l false [.l true (O9 f),.l true (O9 o)]) (.int (j:Nat))=some (.l true (O9 pp))/\gIx (.l false [kL S0,kL S1]) (.int (j:Nat))=some (kL Sx)/\qK5 pp/\O5 n pp=O5 n f/\okL n wr f r Sx/\∀g e,okW n wr f g Sx e 64->okR a.C4 a.C3 n wr f o S0 S1 j (rA a n wr pp g e):=by rcases (show j=0∨j=1 by lia) with rfl|rfl;{exact⟨f,S0,rfl,rfl,GP,rfl,o0,λg e h=>.inl ⟨rfl,g,e,rfl,h⟩⟩};exact⟨o,S1,rfl,rfl,GQ,b1,o1,λg e h=>.inr ⟨rfl,g,e,rfl,h⟩⟩
   have hx:∀x∈Sx,Ah x:=λx h=>hk x (a7.2.1 x h);have c3:=qaR8 n1 a7.2.2;have K0:Kept n.toNat wr (O5 n f) (λ_=>none) []:=Kept.none ⋯ (Eo n1);refine qj9 (Aw (qm9 u n wr f r S0 S1 o b (.l false rs) (.int (j:Nat)) Y W .u .u .u) rfl ?_);refine qb2 [.hole u,b,Ae n wr f,.l true (O7 r),.l false [kL S0,kL S1],.l false [.l true (O9 f),.l true (O9 o)],.l false rs,.int (j:Nat),rA a n wr pp (λ_=>none) [],W,.u,.u,.u] (λK hK=>qe3 (qc9 (Gk (qaS2 (qb9 (y:=.int n) rfl rfl (qb9 (y:=.bl wr) rfl rfl (qb9 (y:=.l true (O9 pp)) (Ag rfl rfl b6) rfl (qb7 ⟨n,wr,true,pp,rfl,n1,n2,Gp,rfl,qa1 (a:=Ad false a.C3 n wr pp) rfl (qa1 (a:=(qm9 u n wr f r S0 S1 o b (.l false rs) (.int (j:Nat)) Y W .u .u .u)) rfl ?_)⟩)))))))) ?_;{rw[qaB2];exact qb7 ⟨n,wr,pp,.non,λ_=>none,[],rfl,n1,n2,nofun,by rw[ep];exact K0,.inl ⟨rfl,rfl⟩,rfl,hK⟩};refine qb2 [.hole u,b,Ae n wr f,.l true (O7 r),.l false [kL S0,kL S1],.l false [.l true (O9 f),.l true (O9 o)],.l false rs,.int (j:Nat),rA a n wr pp (λ_=>none) [],kL Sx,.u,.u,.u] (λK hK=>qn0 (d:=kL Sx) ?_ hK) ?_;{unfold A9 A6;rw[Ag rfl rfl b7];exact qh4 (qf7 _)};refine qc0 (λI=>∃b g e,I=(qm9 u n wr f r S0 S1 o b (.l false rs) (.int (j:Nat)) (rA a n wr pp g e) (.l false []) .u .u .u)/\Ph O b/\okW n wr f g Sx e 64) (λK hK=>?_) ?_
   .refine qQ2 (λm I=>∃b g e A R,I=(qm9 u n wr f r S0 S1 o b (.l false rs) (.int (j:Nat)) (rA a n wr pp g e) (kL R) .u .u .u)/\Ph O b/\Kept n.toNat wr (O5 n f) g A/\Hs n wr f e A/\(A++R).Perm Sx/\e.length=A.length/\R.length=m) Sx.length ⟨b,_,[],[],Sx,rfl,B,K0,.nil,.refl _,rfl,rfl⟩ ?_;rintro m I ⟨b,g,e,A,R,rfl,B,KA,HA,pm,le,lR⟩ K3 b8;have lA:=pm.length_eq;rw[zA6] at lA;refine qi1 (b:=!decide (R=[])) (Ag rfl rfl (ne_ks R)) ?_;by_cases hR:R=[];{subst hR;rw[zAg] at pm;refine Fe ∅ (hK _ ⟨b,g,e,rfl,B,KA.of_perm pm,HA.congr λx=>pm.mem_iff.symm,hx,by rw[le];lia⟩)};rw[zAy hR];have c2:=List.length_pos_iff.mpr hR;refine Bq rfl (qe5 (qE6 (p:=rA a n wr pp g e) rfl (qh3 rfl) (qc9 (qaA1 (ys:=O7 R) rfl (qc9 (qb8 (ds:=[.hole u,b,Ae n wr f,.l true (O7 r),.l false [kL S0,kL S1],.l false [.l true (O9 f),.l true (O9 o)],.l false rs,.int (j:Nat),rA a n wr pp g e,kL R,.u,.u,.u]) (m:=(R.length:Nat)) rfl B (by rw[ql4 (z:=false) (ys:=O7 R) rfl,qf5]) ⋯ ⋯ λv b v0 v1 B=>?_))))));obtain⟨x,b2⟩:∃x,R[v.toNat]?=some x:=⟨_,zAq ⋯⟩;refine qb7 (qa1 (a:=O7 R) rfl (qa1 (a:=(O7 (R.eraseIdx v.toNat),D.int x)) ?_ ?_));{show (if 0<=v/\v<2 ^ 63 then ((O7 R)[v.toNat]?).map λd=>((O7 R).eraseIdx v.toNat,d) else none)=_;rw[if_pos ⟨v0,⋯⟩];rw[qaV7,show (O7 R)[v.toNat]?=some (.int x) from by unfold O7;rw[zB5,b2];rfl];rfl};have px:=qao5 b2;have a8:((A++[x])++R.eraseIdx v.toNat).Perm Sx:=by rw[zAs];exact(List.Perm.append_left A px).trans pm
    have b9:((A++[x])++R.eraseIdx v.toNat).Nodup:=a8.nodup_iff.mpr a7.1;have b3:x∈Sx:=a8.mem_iff.mp (zC4 _ (zAw _ (zA8.mpr rfl)));have xA:¬x∈A:=λz=>(zBg.mp (zBg.mp b9).1).2.2 x z x (zA8.mpr rfl) rfl;have nc:∀q,¬Crowd n.toNat wr (O5 n f) (A++[x]) q:=λq c=>a7.2.2 q ((c.mono (zCl _ (R.eraseIdx v.toNat))).perm a8);have c0:∀y∈A,Ah y:=λy hy=>hx y (pm.mem_iff.mp (zC4 _ hy));refine qb7 (qa1 (a:=rA a n wr pp g e) rfl ⟨n,wr,pp,g,e,A,x,rfl,n1,n2,hx x b3,c0,by rw[ep];exact KA,xA,by rw[ep];exact nc,⋯,λcame g' K'=>?_⟩);rw[ep] at K';refine qa1 (a:=(qm9 u n wr f r S0 S1 o b (.l false rs) (.int (j:Nat)) (rA a n wr pp g' (e++[D.q [.str (wS true),.int x]])) (kL (R.eraseIdx v.toNat)) .u .u .u)) rfl (b8 (m-1) _ ⋯ ⟨b,g',_,A++[x],_,rfl,B,K',.snoc HA (hx x b3) KA.h.1 ⟨xA,nc⟩ KA.no_crowd λ_=>Iff.rfl,a8,by rw[zA6,zA6,le];rfl,by rw[List.length_eraseIdx_of_lt ⋯];lia⟩)
   clear B;rintro I ⟨b,g,e,rfl,B,ok⟩;refine qe5 (qaq2 (ys:=rs) (d:=rA a n wr pp g e) rfl rfl rfl ∅ (by unfold big;lia) (a5 _ ⟨b,_,_,_,_,rfl,B,by rw[zA6,a6];rfl,λm d h=>?_⟩));rcases Nat.lt_or_ge m rs.length with hm|hm;{rw[zAl hm] at h;exact a2 m d h};rw[zBn hm] at h;have c1:m-rs.length=0:=by have:=(zA5.mp h).1;simp at this;lia
   rw[c1] at h;obtain rfl:rA a n wr pp g e=d:=N5 h;obtain rfl:m=j:=⋯;exact fin g e ok
  rintro I ⟨b,rs,d7,Y,W,rfl,B,a6,a2⟩;match rs,a6,a2 with|[r0,r1],_,a2=>rcases a2 0 r0 rfl with⟨_,J,M,rfl,O0⟩|⟨h,_⟩;{rcases a2 1 r1 rfl with⟨h,_⟩|⟨_,g1,N,rfl,O1⟩;{cases h};exact hK _ ⟨b,J,M,g1,N,_,_,_,rfl,B,O0,O1⟩};cases h
 clear B;have eZ:∀(b d7 Y W a0 Z U:D)(J g1:Nat->Option Int)(M N:Ds)(S0 S1:List Int),D.fzs [.hole u,b,Ae n wr f,.l true (O7 r),.l false [kL S0,kL S1],.l false [.l true (O9 f),.l true (O9 o)],.l false [rA a n wr f J M,rA a n wr o g1 N],d7,Y,W,a0,Z,U]=[.hole u,b.fz,Ae n wr f,.l true (O7 r),.l true [.l true (O7 S0),.l true (O7 S1)],.l true [.l true (O9 f),.l true (O9 o)],.l true [Am true a.C4 a.C3 n wr f J (D.fzs M),Am true a.C4 a.C3 n wr o g1 (D.fzs N)],d7.fz,Y.fz,W.fz,a0.fz,Z.fz,U.fz]:=λb d7 Y W a0 Z U J g1 M N S0 S1=>by show [D.hole u,b.fz,(Ae n wr f).fz,(D.l true (O7 r)).fz,.l true [(kL S0).fz,(kL S1).fz],.l true [.l true (D.fzs (O9 f)),.l true (D.fzs (O9 o))],.l true [(rA a n wr f J M).fz,(rA a n wr o g1 N).fz],d7.fz,Y.fz,W.fz,a0.fz,Z.fz,U.fz]=_;rw[qaJ7,Eu,Eu,Eu,qw8,qw8,qaV0,qaV0]
 have same:∀(b d7 Y W a0 Z U:D)(J g1:Nat->Option Int)(M N:Ds)(S0 S1:List Int)(m:Nat),okW n wr f J S0 M m->okW n wr f g1 S1 N m->∀(Q:Bool->Ds->Prop)(xe:XKd),(∀I,Q false I)->Ep (ttE (qk1 (qW3 a.C4 a.C3) [] (tbN 2 (tbN 6 (tbN 4 A8))))) (D.fzs [.hole u,b,Ae n wr f,.l true (O7 r),.l false [kL S0,kL S1],.l false [.l true (O9 f),.l true (O9 o)],.l false [rA a n wr f J M,rA a n wr o g1 N],d7,Y,W,a0,Z,U]) Q xe:=λb d7 Y W a0 Z U J g1 M N S0 S1 m O0 O1 Q xe hQ=>by rw[eZ];exact(show Ep _ _ _ _ from(show ttE _ _ _ _ from qaW7 (x:=Ae n wr f) (y:=.l true [Am true a.C4 a.C3 n wr f J (D.fzs M),Am true a.C4 a.C3 n wr o g1 (D.fzs N)]) (w:=.l true [.l true (O7 S0),.l true (O7 S1)]) rfl rfl rfl rfl rfl ⟨_,⟨n,wr,f,f,J,_,o,g1,_,S0,S1,rfl,n1,n2,GP.nd,λ_=>rfl,hq,O0.1,O1.1,O0.2.2.1,O1.2.2.1,rfl⟩,qa1 (a:=[.hole u,b.fz,Ae n wr f,.l true (O7 r),.l true [.l true (O7 S0),.l true (O7 S1)],.l true [.l true (O9 f),.l true (O9 o)],.l true [Am true a.C4 a.C3 n wr f J (D.fzs M),Am true a.C4 a.C3 n wr o g1 (D.fzs N)],d7.fz,Y.fz,W.fz,a0.fz,Z.fz,U.fz]) rfl (qa1 (a:=true) rfl (hQ _))⟩))
 rintro I ⟨b,J,M,g1,N,d7,Y,W,rfl,B,O0,O1⟩;refine qb2 (qm9 u n wr f r S0 S1 o b (.l false [rA a n wr f J M,rA a n wr o g1 N]) d7 Y W .u .u .u) (λK hK=>qal5 (qaT9 (same b d7 Y W _ _ _ J g1 M N S0 S1 64 O0 O1 _ _ λ_=>Fe ∅ hK))) ?_;have klen:=List.length_pos_iff.mpr b5;refine qc0 (λI=>∃b F,I=(qm9 u n wr f r S0 S1 o b (.l false [rA a n wr f J M,rA a n wr o g1 N]) d7 Y W (kL F) .u .u)/\Ph O b/\F≠[]/\F.length<=10/\∀x∈F,Ah x) (λK hK=>qe3 (qaW3 (qc9 (qD1 (x:=.int 1) rfl (qb8 (ds:=[.hole u,b,Ae n wr f,.l true (O7 r),.l false [kL S0,kL S1],.l false [.l true (O9 f),.l true (O9 o)],.l false [rA a n wr f J M,rA a n wr o g1 N],d7,Y,W,.u,.u,.u]) (m:=3) rfl B rfl ∅ ∅ λv b v0 v1 B=>qa1 (a:=D.int (1+v)) rfl (qb7 (qa1 (a:=1+v) rfl ⟨qN2 ⋯ ⋯,?_⟩))))))) ?_;{refine qaa2 (λi a9 ι=>∃d b F,ι=[d,.l true (O7 r),b]/\Ph O b/\a9=O7 F/\F.length=i/\∀x∈F,Ah x) _ 0 [] _ ⟨_,b,[],rfl,B,rfl,rfl,nofun⟩ ?_ ?_;{rintro j y hy a9 ι ⟨d,b,F,rfl,B,rfl,hl,hF⟩ R hR;obtain⟨hj,rfl⟩:=qI2 hy;refine qj9 (qC9 (Bq rfl ⟨rfl,qb8 (ds:=[.int (j:Nat),.l true (O7 r),b]) (m:=(r.length:Nat)) rfl B (by rw[ql4 (z:=true) (ys:=O7 r) rfl,qf5]) ⋯ ⋯ λw b w0 w1 B=>?_⟩));obtain⟨x,b4⟩:∃x,r[w.toNat]?=some x:=⟨_,zAq ⋯⟩;refine qa1 (a:=D.int x) (Ka (z:=true) w0 b4) ⟨rfl,by rw[qf5];unfold big;lia,hR _ _ ⟨_,b,F++[x],rfl,B,qw7,by rw[zA6,hl];rfl,λy hy=>?_⟩⟩;rcases zAb.mp hy with h|h;{exact hF y h};rw[zA8.mp h];exact hk x (zB1 b4)};rintro a9 ι ⟨d,b,F,rfl,B,rfl,hl,hF⟩;rw[zAe,qN7] at hl;exact hK _ ⟨b,F,rfl,B,λz=>by rw[z] at hl;simp at hl;lia,⋯,hF⟩};clear B;rintro I ⟨b,F,rfl,B,Fne,Fl,hF⟩;have flen:=List.length_pos_iff.mpr Fne;refine qc0 (λI=>∃b J M S0 g1 N S1 d7 Z U,I=(qm9 u n wr f r S0 S1 o b (.l false [rA a n wr f J M,rA a n wr o g1 N]) d7 Y W (kL F) Z U)) (λK hK=>?_) ?_;{refine qaJ8 (qb8 rfl B rfl ∅ ∅ λtn b v0 v1 B=>qa1 (a:=tn) rfl ⟨qN2 ⋯ ⋯,?_⟩);refine qe8 (λi I=>∃b J M S0 g1 N S1 d7 Z U,I=(qm9 u n wr f r S0 S1 o b (.l false [rA a n wr f J M,rA a n wr o g1 N]) d7 Y W (kL F) Z U)/\Ph O b/\okW n wr f J S0 M (64+i)/\okW n wr f g1 S1 N (64+i)) _ 0 _ ⟨b,J,M,S0,g1,N,S1,_,_,_,rfl,B,O0,O1⟩ ?_ λI ⟨b,J,M,S0,g1,N,S1,d7,Z,U,e,_⟩=>hK _ ⟨b,J,M,S0,g1,N,S1,d7,Z,U,e⟩;clear B O0 O1 hA hB o0 o1;rintro i y hy I ⟨b,J,M,S0,g1,N,S1,d7,Z,U,rfl,B,O0,O1⟩ K2 a5;obtain⟨hi,rfl⟩:=qI2 hy;rw[zAe] at O0 O1 a5;refine qj9 (Aw (qm9 u n wr f r S0 S1 o b (.l false [rA a n wr f J M,rA a n wr o g1 N]) d7 Y W (kL F) (.int (i:Nat)) U) rfl ?_);refine qc0 (λI=>∃b v,I=(qm9 u n wr f r S0 S1 o b (.l false [rA a n wr f J M,rA a n wr o g1 N]) (.int v) Y W (kL F) (.int (i:Nat)) U)/\Ph O b/\(v=0∨v=1)) (λK hK=>qe3 (qb8 (ds:=[.hole u,b,Ae n wr f,.l true (O7 r),.l false [kL S0,kL S1],.l false [.l true (O9 f),.l true (O9 o)],.l false [rA a n wr f J M,rA a n wr o g1 N],d7,Y,W,kL F,.int (i:Nat),U]) rfl B rfl ∅ ∅ λv b v0 v1 B=>hK _ ⟨b,v,rfl,B,⋯⟩)) ?_;clear B;rintro I ⟨b,v,rfl,B,hv⟩;refine qc0 (λI=>∃b ud,I=(qm9 u n wr f r S0 S1 o b (.l false [rA a n wr f J M,rA a n wr o g1 N]) (.int v) Y W (kL F) (.int (i:Nat)) (.bl ud))/\Ph O b) (λK hK=>qe3 (qK8 (qb8 (ds:=[.hole u,b,Ae n wr f,.l true (O7 r),.l false [kL S0,kL S1],.l false [.l true (O9 f),.l true (O9 o)],.l false [rA a n wr f J M,rA a n wr o g1 N],.int v,Y,W,kL F,.int (i:Nat),U]) rfl B rfl ∅ ∅ λv b v0 v1 B=>qa1 (a:=D.bl (decide (v=0))) rfl (hK _ ⟨b,_,rfl,B⟩)))) ?_;clear B;rintro I ⟨b,ud,rfl,B⟩;refine qc0 (λI=>∃b J M S0 g1 N S1,I=(qm9 u n wr f r S0 S1 o b (.l false [rA a n wr f J M,rA a n wr o g1 N]) (.int v) Y W (kL F) (.int (i:Nat)) (.bl ud))/\Ph O b/\okW n wr f J S0 M (64+(i+1))/\okW n wr f g1 S1 N (64+(i+1))) (λK hK=>?_) ?_;{rcases hv with rfl|rfl;{refine qe5 (qd6 (qa1 (a:=(6,[0])) rfl (qa1 (a:=rA a n wr f J M) rfl ⟨rfl,λw1=>qc3 (x:=Ae n wr f) rfl (qa1 (a:=(4,[0])) rfl (qa1 (a:=D.l false (O7 S0)) rfl ⟨rfl,λw2=>qc9 ⟨rfl,qb8 (ds:=[.hole u,b,Ae n wr f,.l true (O7 r),.l false [.hole w2,kL S1],.l false [.l true (O9 f),.l true (O9 o)],.l false [.hole w1,rA a n wr o g1 N],.int 0,Y,W,kL F,.int (i:Nat),.bl ud]) (m:=(F.length:Nat)) rfl B (by rw[ql4 (z:=false) (ys:=O7 F) rfl,qf5]) ⋯ ⋯ λv b v0 v1 B=>?_⟩⟩))⟩)));obtain⟨x,hx⟩:∃x,F[v.toNat]?=some x:=⟨_,zAq ⋯⟩;refine qa1 (a:=D.int x) ?_ ⟨rfl,qc3 (x:=.bl ud) rfl (qb7 (qa1 (a:=D.bl ud) rfl (qa1 (a:=Ae n wr f) rfl ⟨n,wr,f,f,J,M,S0,x,ud,rfl,n1,n2,GP.nd,rfl,O0.2.2.1,hF x (zB1 hx),O0.1,O0.2.1,by have:=O0.2.2.2;lia,λg2 e2 S2 d K2 H2 s2 l2=>?_⟩)))⟩;{exact Ka (z:=false) v0 hx};have m0:=O0.2.2.2;have m1:=O1.2.2.2;refine qa1 (a:=[.hole u,b,Ae n wr f,.l true (O7 r),.l false [kL S2,kL S1],.l false [.l true (O9 f),.l true (O9 o)],.l false [rA a n wr f g2 e2,rA a n wr o g1 N],.int 0,Y,W,kL F,.int (i:Nat),.bl ud]) ?_ (hK _ ⟨b,g2,e2,S2,g1,N,S1,rfl,B,⟨K2,H2,s2,⋯⟩,⟨O1.1,O1.2.1,O1.2.2.1,⋯⟩⟩);show Au (.pl 6 [0] w1::.sl 2::.pl 4 [0] w2::_) (_::_::_::_) _=_;rw[qn9 rfl,qap6,qn9 rfl];rfl};refine qe5 (qd6 (qa1 (a:=(6,[1])) rfl (qa1 (a:=rA a n wr o g1 N) rfl ⟨rfl,λw1=>qc3 (x:=Ae n wr f) rfl (qa1 (a:=(4,[1])) rfl (qa1 (a:=D.l false (O7 S1)) rfl ⟨rfl,λw2=>qc9 ⟨rfl,qb8 (ds:=[.hole u,b,Ae n wr f,.l true (O7 r),.l false [kL S0,.hole w2],.l false [.l true (O9 f),.l true (O9 o)],.l false [rA a n wr f J M,.hole w1],.int 1,Y,W,kL F,.int (i:Nat),.bl ud]) (m:=(F.length:Nat)) rfl B (by rw[ql4 (z:=false) (ys:=O7 F) rfl,qf5]) ⋯ ⋯ λv b v0 v1 B=>?_⟩⟩))⟩)));obtain⟨x,hx⟩:∃x,F[v.toNat]?=some x:=⟨_,zAq ⋯⟩;refine qa1 (a:=D.int x) ?_ ⟨rfl,qc3 (x:=.bl ud) rfl (qb7 (qa1 (a:=D.bl ud) rfl (qa1 (a:=Ae n wr f) rfl ⟨n,wr,f,o,g1,N,S1,x,ud,rfl,n1,n2,GP.nd,b1,O1.2.2.1,hF x (zB1 hx),O1.1,O1.2.1,by have:=O1.2.2.2;lia,λg2 e2 S2 d K2 H2 s2 l2=>?_⟩)))⟩;{exact Ka (z:=false) v0 hx};have m0:=O0.2.2.2;have m1:=O1.2.2.2;refine qa1 (a:=[.hole u,b,Ae n wr f,.l true (O7 r),.l false [kL S0,kL S2],.l false [.l true (O9 f),.l true (O9 o)],.l false [rA a n wr f J M,rA a n wr o g2 e2],.int 1,Y,W,kL F,.int (i:Nat),.bl ud]) ?_ (hK _ ⟨b,J,M,S0,g2,e2,S2,rfl,B,⟨O0.1,O0.2.1,O0.2.2.1,⋯⟩,⟨K2,H2,s2,⋯⟩⟩);show Au (.pl 6 [1] w1::.sl 2::.pl 4 [1] w2::_) (_::_::_::_) _=_;rw[qn9 rfl,qap6,qn9 rfl];rfl};clear B O0 O1;rintro I ⟨b,J,M,S0,g1,N,S1,rfl,B,O0,O1⟩;exact qal5 (qaT9 (same b _ Y W _ _ _ J g1 M N S0 S1 _ O0 O1 _ _ λ_=>Fe ∅ (a5 _ ⟨b,J,M,S0,g1,N,S1,_,_,_,rfl,B,O0,O1⟩)))};rintro I ⟨b,J,M,S0,g1,N,S1,d7,Z,U,rfl⟩;exact qg5 (.bl true) rfl rfl
end
theorem dfX{K:N7}{mg:Str->Option V'}{x qual:Str}{st:K4}{f:γ}{ps:List Str}{oc:V'}{n g:Option γ}{m:Array (Option V')}{kV e i d j:V'}{h:Heap}(X:K.In h)(G:h.Ns Kk mg)(a:W.nsIn K Kk x=some (some (.ref f)))(l:K.lookup f=some ⟨oc,n,.func (W.fnOf x qual (qg0 st) (qd5 st) (qa3 st) .none kV e i g d j),m⟩)(c:W.codeIn K d qual=true)(k:W.keepIn K (.ref f)=true)(b:∀(kV e i:V')(g:Option γ)(d j:V')(us:List V'),us.length=ps.length->bindArgs (W.fnOf x qual (qg0 st) (qd5 st) (qa3 st) .none kV e i g d j) ⟨us,[]⟩=pure (ps.zip us)):Df K mg x qual st f (W.fnOf x qual (qg0 st) (qd5 st) (qa3 st) .none kV e i g d j) ps:=dfmk l c k (W.mg_of X G a) b
theorem qbg1{l:W.OpenLaw}{w:Ky}{K:N7}{mg:Str->Option V'}{fa f0 f1 f2 f3 f4 f5 f6 f7 f8 f9 d f g h i j n o p q r t u x c y z A B C D E F G H I J L M N O P Q R S T U V X e9 C0 C1:γ}{d0 d1 d2 d3 d4 d5 d6 d7 d8 d9 Y Z a0 a1 a2 a3 a4 a5 a6 a7 a8 a9 b0 b1 b2 b3 b4 b5 b6 b7 b8 b9 c0 c1 c2 c3 c4 c5 c6 c7 c8 c9 e0 e1 e3 e4 e5 e6 e7 b:ε}{Cd Cf Ch:Tok}(g0:mg "law"=some (.ref fa))(j0:Df K mg "_wall" "_wall" qay2 f0 d0 ["k"])(j1:Df K mg "is_whole" "is_whole" qz5 f1 d1 ["thing"])(j2:Df K mg "is_whole_within" "is_whole_within" qg8 f2 d2 ["thing", "least", "most"])(j3:Df K mg "is_number" "is_number" qu7 f3 d3 ["thing"])(j4:Df K mg "are_parted" "are_parted" qq0 f4 d4 ["numbers"])(j5:Df K mg "is_number_pair" "is_number_pair" qh7 f5 d5 ["thing"])(j6:Df K mg "is_home_list" "is_home_list" qk3 f6 d6 ["thing"])(j7:Md K C0 "__init__" "Plan.__init__" qv1 f7 d7 ["self", "rooms", "wraps", "homes"])(j8:Md K C0 "is_room" "Plan.is_room" qk5 f8 d8 ["self", "thing"])(j9:Md K C0 "home" "Plan.home" qv2 f9 d9 ["self", "key"])(g9:Md K C0 "far" "Plan.far" qA1 d Y ["self", "key", "room"])(h0:Md K C0 "goes_ahead" "Plan.goes_ahead" qg9 f Z ["self", "room", "one", "other"])(h1:Df K mg "room_ahead" "room_ahead" qp9 g a0 ["plan", "room"])(h2:Df K mg "word_by_room_ahead" "word_by_room_ahead" qe7 h a1 ["plan", "rooms", "room"])(h3:Df K mg "word_due" "word_due" qz3 i a2 ["plan", "rooms", "room"])(h4:Df K mg "is_turned" "is_turned" qu6 j a3 ["plan", "rooms"])(h5:Df K mg "fault_of" "fault_of" qz6 n a4 ["plan", "rooms"])(h6:Df K mg "are_crowd" "are_crowd" qu9 o a5 ["plan", "keys", "room"])(h7:Df K mg "crowded_room" "crowded_room" qk4 p a6 ["plan", "keys"])(h8:Df K mg "refuse_crowd" "refuse_crowd" qk2 q a7 ["plan", "keys"])(h9:Df K mg "bring_in" "bring_in" qz7 r a8 ["plan", "rooms", "key"])(i0:Df K mg "room_behind" "room_behind" qn1 t a9 ["plan", "room"])(i1:Df K mg "is_drawn_from" "is_drawn_from" qi7 u b0 ["plan", "rooms", "room"])(i2:Df K mg "draw_back" "draw_back" qu8 x b1 ["plan", "rooms", "room"])(i3:MdN K C1 "__init__" "Row.__init__" qA0 c b2 ["self", "plan", "rooms"])(i4:Md K C1 "rooms_held" "Row.rooms_held" qh8 y b3 ["self"])(i5:Md K C1 "keys_held" "Row.keys_held" qi8 z b4 ["self"])(i6:Md K C1 "many" "Row.many" qL8 A b5 ["self"])(i7:Md K C1 "room_of" "Row.room_of" qn2 B b6 ["self", "key"])(i8:Md K C1 "put" "Row.put" qI0 C b7 ["self", "key"])(i9:Md K C1 "take" "Row.take" qz9 D b8 ["self", "key"])(k0:Md K C1 "undo" "Row.undo" qz8 E b9 ["self"])(k1:Md K C1 "deeds" "Row.deeds" qv0 F c0 ["self"])(k2:Df K mg "are_alike_at_home" "are_alike_at_home" qf1 G c1 ["one", "other", "keys"])(k3:Df K mg "refuse_unlike" "refuse_unlike" qi6 H c2 ["one", "other"])(k4:Df K mg "parts_at" "parts_at" qz4 I c3 ["one", "other"])(k5:Df K mg "only_in" "only_in" qH9 J c4 ["one", "other"])(k6:Df K mg "_law_bag" "_law_bag" qaE3 L c5 ["_law_script"])(k7:Df K mg "_law_take" "_law_take" qah2 M c6 ["_law_bag_here", "_law_many"])(k8:Df K mg "_law_home" "_law_home" qah3 N c7 ["_law_plan", "_law_key"])(k9:Df K mg "_law_passing" "_law_passing" qA2 O c8 ["_law_plan", "_law_keys"])(l0:Df K mg "_law_housed" "_law_housed" qI1 P c9 ["_law_plan", "_law_keys"])(l1:Df K mg "_law_drawn_homes" "_law_drawn_homes" qk7 Q e0 ["_law_bag_here", "_law_size", "_law_many"])(l2:Df K mg "_law_drawn" "_law_drawn" qS6 R e1 ["_law_bag_here", "_law_most"])(l3:Df K mg "_law_fitting" "_law_fitting" qA4 S e3 ["_law_plan", "_law_keys"])(l4:Df K mg "_law_two" "_law_two" qaE2 T e4 ["_law_bag_here", "_law_plan", "_law_keys"])(l5:Df K mg "_law_other_homes" "_law_other_homes" qk6 U e5 ["_law_bag_here", "_law_plan", "_law_keys"])(l6:Df K mg "_law_alike" "_law_alike" qS7 V e6 ["_law_plan", "_law_rows", "_law_lists"])(l7:Df K mg "_law_flipped" "_law_flipped" qA3 X e7 ["_law_row", "_law_plan", "_law_there", "_law_key", "_law_undoes"])(e8:Df K mg "law" "law" Gm e9 b ["_law_script"])(l8:mg "MOST_NUMBER"=some (.int 1000000000000000000 Cd))(l9:mg "MOST_ROOMS"=some (.int 64 Cf))(m0:mg "MOST_HOMES"=some (.int 64 Ch))(m1:mg "abs"=none)(m2:mg "all"=none)(m3:mg "bool"=none)(m4:mg "dict"=none)(m5:mg "enumerate"=none)(m6:mg "int"=none)(m7:mg "isinstance"=none)(m8:mg "len"=none)(m9:mg "list"=none)(n0:mg "max"=none)(n1:mg "min"=none)(n2:mg "range"=none)(n3:mg "reversed"=none)(n4:mg "set"=none)(n5:mg "sorted"=none)(n6:mg "tuple"=none)(n7:mg "zip"=none)(n8:Cl K mg "Plan" C0)(n9:Mk K C0 f7)(o0:qh1 K C0 "rooms")(o1:qh1 K C0 "wraps")(o2:qh1 K C0 "homes")(o3:qh1 K C0 "home_numbers")(o4:IsO K C0)(o5:Cl K mg "Row" C1)(o6:Mk K C1 c)(o7:qh1 K C1 "plan")(o8:qh1 K C1 "held")(o9:qh1 K C1 "done")(hb:∀(s:δ)(v:V'),BindsTo s b ⟨[v],[]⟩ [("_law_script",v)]):∃fd:ε,(∀(s:δ)(v:V'),BindsTo s fd ⟨[v],[]⟩ [("_law_script",v)])/\∀base:Heap,K.In base->base.Ns Kk mg->Ee l.prog w K mg base (CX1 l.prog w) 12 fa fd ["_law_script"] (He K):=by have e:=g0.symm.trans e8.m;injection e with e;injection e with e;subst e;exact⟨b,hb,λbase _ _=>qbb6 (a:=⟨f0,d0,f1,d1,f2,d2,f3,d3,f4,d4,f5,d5,f6,d6,f7,d7,f8,d8,f9,d9,d,Y,f,Z,g,a0,h,a1,i,a2,j,a3,n,a4,o,a5,p,a6,q,a7,r,a8,t,a9,u,b0,x,b1,c,b2,y,b3,z,b4,A,b5,B,b6,C,b7,D,b8,E,b9,F,c0,G,c1,H,c2,I,c3,J,c4,L,c5,M,c6,N,c7,O,c8,P,c9,Q,e0,R,e1,S,e3,T,e4,U,e5,V,e6,X,e7,fa,b,Cd,Cf,Ch,C0,C1⟩) ⟨j0,j1,j2,j3,j4,j5,j6,j7,j8,j9,g9,h0,h1,h2,h3,h4,h5,h6,h7,h8,h9,i0,i1,i2,i3,i4,i5,i6,i7,i8,i9,k0,k1,k2,k3,k4,k5,k6,k7,k8,k9,l0,l1,l2,l3,l4,l5,l6,l7,e8,l8,l9,m0,m1,m2,m3,m4,m5,m6,m7,m8,m9,n0,n1,n2,n3,n4,n5,n6,n7,n8,n9,o0,o1,o2,o3,o4,o5,o6,o7,o8,o9⟩⟩
theorem walk{l:W.OpenLaw}{d:DefRec}{K:Params->N7}(c:l.most=some 63)(b:d.params.defaults=[])(e:∀(w:Ky)(h:Heap),YP w h->(K w.params).In h)(F:∀(w:Ky)(mg:Str->Option V')(fa:γ)(h:Heap),(K w.params).In h->h.Ns Kk mg->mg d.name=some (.ref fa)->∃fd:ε,(∀(s:δ)(u:V'),BindsTo s fd ⟨[u],[]⟩ [("_law_script",u)])/\∀base:Heap,(K w.params).In base->base.Ns Kk mg->Ee l.prog w (K w.params) mg base (CX1 l.prog w) 12 fa fd ["_law_script"] (He (K w.params))):W.WalkO q loose XP YP l.row.toRowW d [] (λf vs=>PySem.call f vs):=L2.qaL7 (n:=63) (k:=12) (x := "_law_script") (CX:=λw=>CX1 l.prog w) (sp:=λw=>He (K w.params)) c ∅ b ⟨λ_=>rfl,∅,∅⟩ e F (λ_ _ a g i _ j=>⟨a,g,rfl,j,i,λ_=>rfl⟩) λ_ _ _ _ _ z=>z
end LV.My
open PySem PySem.W PyProof.Rows L2
local macro_rules | `(tactic| walk_at "u")=>`(tactic| (intro _ _ _ _ _ _;repeat' first|exact LV.ec0 (rfl)|refine LV.ec1 λ_=>?_))
local macro_rules | `(tactic| walk_at "d")=>`(tactic| (refine' LV.My.dfX (by assumption) (by assumption) ?a ?l ?c ?k ?b;(case a|l|c|k=>k_is);(case b=>walk_at "u")))
local macro_rules | `(tactic| walk_at "e")=>`(tactic| (refine' mdmk ?l ?c ?k ?a ?i ?b;(case a|i|l|c|k=>k_is);(case b=>walk_at "u")))
local macro_rules | `(tactic| walk_at "c")=>`(tactic| (refine' mg_of (by assumption) (by assumption) ?a;k_is))
local macro_rules | `(tactic| walk_at "z")=>`(tactic| (refine' mg_none_of (by assumption) (by assumption) ?a;k_is))
local macro_rules | `(tactic| walk_at "q")=>`(tactic| (first|k_is|kernel_rfl|rfl))
local macro_rules | `(tactic| walk_at "n")=>`(tactic| (show findIn _ _ _=some none;k_is))
theorem PySem.Challenge.cw_homeward_k82_whole_alike_by_keys_holds : PySem.Challenge.rw_homeward_k82_whole_alike_by_keys.Holds := by
 w_on;o_law;k_head;(case hw=>w_witness2)
 k_fill
 refine LV.My.walk (l:=PySem.Challenge.rw_homeward_k82_whole_alike_by_keys) rfl rfl (λw h Y=>PySem.W.kIn_of Y) ?F
 case F=>
 intro w g j h KX G f;refine' LV.My.qbg1 f ?j0 ?j1 ?j2 ?j3 ?j4 ?j5 ?j6 ?j7 ?j8 ?j9 ?j10 ?j11 ?j12 ?j13 ?j14 ?j15 ?j16 ?j17 ?j18 ?j19 ?j20 ?j21 ?j22 ?j23 ?j24 ?j25 ?j26 ?j27 ?j28 ?j29 ?j30 ?j31 ?j32 ?j33 ?j34 ?j35 ?j36 ?j37 ?j38 ?j39 ?j40 ?j41 ?j42 ?j43 ?j44 ?j45 ?j46 ?j47 ?j48 ?j49 ?j50 ?j51 ?j52 ?j53 ?j54 ?j55 ?j56 ?j57 ?j58 ?j59 ?j60 ?j61 ?j62 ?j63 ?j64 ?j65 ?j66 ?j67 ?j68 ?j69 ?j70 ?j71 ?j72 ?j73 ?j74 ?j75 ?j76 ?j77 ?j78 ?j79 ?j80 ?j81 ?hb
 case j50|j51|j52=>walk_at "c"
 case j70|j77=>refine' ⟨⟨?_,?_,?_,?_⟩,mg_of (by assumption) (by assumption) ?a⟩;(case a=>k_is);k_is;k_is;k_is;k_is
 case j0|j1|j2|j3|j4|j5|j6|j12|j13|j14|j15|j16|j17|j18|j19|j20|j21|j22|j23|j33|j34|j35|j36|j37|j38|j39|j40|j41|j42|j43|j44|j45|j46|j47|j48|j49=>walk_at "d"
 case j7|j8|j9|j10|j11|j25|j26|j27|j28|j29|j30|j31|j32=>walk_at "e"
 case j24=>refine' LV.mdmkN ?l ?c ?k ?a ?i ?t ?b ?bn;(case a|i|l|c|k|t=>k_is);(case b=>intro _ _ _ _ _ _;repeat' first|exact LV.ec0 (⟨_,rfl,rfl⟩)|refine LV.ec1 λ_=>?_);(case bn=>intro _ _ _ _ _ _;refine LV.ec2 ?_;repeat' first|exact LV.ec0 (⟨_,rfl,rfl⟩)|refine LV.ec1 λ_=>?_)
 case j53|j54|j55|j56|j57|j58|j59|j60|j61|j62|j63|j64|j65|j66|j67|j68|j69=>walk_at "z"
 case j72|j73|j74|j75|j79|j80|j81=>walk_at "n"
 case j76=>refine⟨?_,?_,?_,?_,kf_of ?_ ?_ ?_ ?_ ?_ ?_ ?_⟩<;>walk_at "q"
 case j71|j78=>refine⟨?_,?_,?_,?_⟩<;>k_is
 case hb=>exact λs v=>.of_eq rfl
#print axioms PySem.Challenge.cw_homeward_k82_whole_alike_by_keys_holds
