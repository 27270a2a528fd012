import PyProof.Rows.All
import Wide.All
import OpenK.AllK
import Wide.FinOn
import Lean
import PyProof.EqAt
import PyProof.EqKinds
import PyProof.TupleCall
import PyProof.CompFree
import KE.KIsAll
import PyProof.AttrMiss
import PyProof.IsiH_list
import KE.KDictOf
import PyProof.ConsumeWalk
import PyProof.Rows.SetFrom
import PyProof.NeKinds
import PyProof.AutoListH
import PyProof.EnumMake
import PyProof.EnumFor
import PyProof.EnumStmt
import PyProof.LayNew
import PyProof.Rows.EnumRows
import KE.KDictList
import KE.KItemsList
import PyProof.ZipIter
import PyProof.Rows.ZipGen
import KE.KRevIter
import PySem.Challenge.RW_homeward_k81_parted
set_option linter.all false
set_option Elab.async false
def zA0:=@List.count_append
def zA1:=@Option.bind_eq_some_iff
def zA2:=@PySem.Heap.get?_push_of_some
def zA3:=@Nat.le_refl
def zA4:=@List.getElem?_eq_some_iff
def zA5:=@List.size_toArray
def zA6:=@List.mem_cons_of_mem
def zA7:=@PySem.Heap.lt_size
def zA8:=@List.length_map
def zA9:=@Nat.zero_add
def zAa:=@List.mem_append
def zAb:=@decide_eq_true
def zAc:=@of_decide_eq_true
def zAd:=@List.append_nil
def zAe:=@List.length_append
def zAf:=@Bool.and_eq_true_iff
def zAg:=@Nat.lt_of_lt_of_le
def zAh:=@List.mem_cons_self
def zAi:=@List.mem_cons
def zAj:=@Option.map_eq_some_iff
def zAk:=@Nat.le_trans
def zAl:=@List.mem_singleton
def zAm:=@List.length_cons
def zAn:=@List.mem_range
def zAo:=@PySem.Heap.get?_push_size
def zAp:=@List.getElem?_append_left
def zAq:=@Bool.false_ne_true
def zAr:=@List.append_assoc
def zAs:=@List.count_cons
def zAt:=@Nat.ne_of_lt
def zAu:=@List.take_of_length_le
def zAv:=@decide_eq_false
def zAw:=@List.lookup_cons
def zAx:=@List.map_cons
def zAy:=@List.mem_append_right
def zAz:=@List.getElem?_eq_getElem
def zB0:=@List.length_take
def zB1:=@List.mem_of_getElem?
def zB2:=@List.forall_mem_cons
def zB3:=@List.nil_append
def zB4:=@List.length_range
def zB5:=@Array.toList_append
def zB6:=@List.mem_filter
def zB7:=@Array.length_toList
def zB8:=@Option.isSome_iff_exists
def zB9:=@List.mem_map
def zBa:=@Nat.le_of_lt
def zBb:=@List.cons_merge_cons
def zBc:=@beq_self_eq_true
def zBd:=@List.not_mem_nil
def zBe:=@List.getElem?_map
def zBf:=@List.map_append
def zBg:=@of_decide_eq_false
def zBh:=@Nat.zero_le
def zBi:=@List.all_eq_true
def zBj:=@List.take_add_one
def zBk:=@List.getElem?_set_ne
def zBl:=@List.take_append_drop
def zBm:=@List.take_sublist
def zBn:=@PySem.Heap.get?_update_other
def zBo:=@Bool.and_eq_true
def zBp:=@decide_eq_true_eq
def zBq:=@Nat.le_add_right
def zBr:=@Array.perm_iff_toList_perm
def zBs:=@List.forall_mem_append
def zBt:=@List.filterMap_cons
def zBu:=@List.replicate_succ
def zBv:=@List.nodup_append
def zBw:=@List.getElem?_eq_none
def zBx:=@List.sublist_append_left
def zBy:=@List.length_filterMap_le
def zBz:=@beq_iff_eq
def zC0:=@Int.emod_lt_of_pos
def zC1:=@List.cons_append
def zC2:=@Nat.le_of_lt_succ
def zC3:=@Int.toNat_natCast
def zC4:=@List.length_nil
def zC5:=@List.find?_cons
def zC6:=@List.length_reverse
def zC7:=@List.getElem?_set_self
def zC8:=@List.drop_of_length_le
def zC9:=@List.getElem?_append_right
def zCa:=@List.length_drop
def zCb:=@Nat.le_of_not_lt
def zCc:=@List.take_length
def zCd:=@decide_eq_decide
def zCe:=@Nat.lt_of_le_of_lt
def zCf:=@Nat.lt_irrefl
def zCg:=@PySem.Heap.size_push
def zCh:=@List.mem_of_mem_take
def zCi:=@Nat.lt_succ_iff_lt_or_eq
def zCj:=@Nat.sub_le
def zCk:=@Int.emod_nonneg
def zCl:=@Int.emod_eq_of_lt
def zCm:=@List.flatten_cons
def zCn:=@List.nodup_cons
def zCo:=@Nat.lt_of_succ_lt
def zCp:=@List.pairwise_map
def zCq:=@Nat.not_lt_zero
def zCr:=@List.map_map
def zCs:=@Nat.ne_of_gt
def zCt:=@beq_eq_false_iff_ne
def zCu:=@Nat.succ_le_succ
def zCv:=@Nat.mod_eq_of_lt
def zCw:=@List.findIdx?_cons
def zCx:=@List.mem_filterMap
def zCy:=@Nat.min_eq_left
def zCz:=@beq_false_of_ne
def zD0:=@Nat.le_of_eq
def zD1:=@List.any_cons
def zD2:=@or_false
set_option genSizeOf false
set_option genInjectivity false
set_option maxRecDepth 100000
noncomputable section
structure PySem.W.Fast where
 (tw14600131380726544367 tw2660623155304399517 tw7563607549936068788 tw6212703555097900222 tw219400009244984115 tw17945912740620393056 tw13082033951462075385 tw17256611390410643440 tw15285063688860386543 tw7197042638221768627 tw15301770098223263470 tw17007242074141044254 tw4114567513557142257 tw7471996494358156584 tw18426216864142359955 tw4034655296500989885 tw4654065320737906599 tw14368023630556921221 tw8779630140083070857 tw8443115398411103225 tw1288273608636449960 tw912225815571270197 tw13790676298348355425 tw12669286476209375412 tw10133404471520416267 tw12958019971729582980 tw8452368908667471484 tw13140396211717949001 tw428247245334905857 tw11990271500510623654 tw16005337655047774111 tw12381346248532579743 tw3817549966727237959 tw10957688781143175850 tw1455206996293087774 tw16276665290371520552 tw3017175644036172592 tw12386896279557025937 tw5309074846337128161 tw2641125357179748808
 tw924803493952332982 tw14010461728563633284 tw11691160045433309557 tw3336663824070626321 tw10514044806574343834 tw12538757394320981002 tw3511212323711991808 tw9969065533162343209 tw11534582257289061060 tw2963134544821737977 tw15752775533101417043 tw10649628962444233896 tw7464494716573766122 tw7076274326931418605 tw7127322004306666726 tw5314128709991450808 tw5415133012236497812 tw486915643787636364 tw4636572481180416064 tw11825896766854364758 tw13789573324839423127 tw18183633048468754609 tw18155975694728475188 tw231766361634294395 tw7692217468327550199 tw11123950794691164658 tw5400534360978780352 tw3341521845122538570 tw16783494387043935925 tw13437611221407965668 tw17516484099706567808 tw10639751635987144809 tw494893857886719470 tw13137312430912805958 tw10594857173292588308 tw6668059084586887625 tw16486861138764199561 tw17467956573571872996 tw12412445633912881891 tw8908326661877769149
 tw5262518478958998252 tw7564882584381289516 tw2876218432412471632 tw7137475329019325872 tw5296037785038983792 tw16613618950923375197 tw3120676271246315419 tw9287617241636729238 tw7224956939412998010 tw15496877279070419785 tw2672333763532190052 tw5186675096629296934 tw10900545000405474024 tw10745247404282698457 tw10405786051447196208 tw11987049374558374120 tw3264252741841543884 tw2250434259874958320 tw13239237500105869824 tw5864523365561044779 tw18435608851411319320 tw11089611271032072277 tw17708724254985741878 tw13240109022879222902 tw11357894535950852817 tw12043635689735705559 tw10152456784754615489 tw16027024104158151507 tw2463610670022050117 tw14980691471004487337 tw2223319280402393191 tw17393594598818233335 tw2045292500525813546 tw7752166733256206730 tw11107941448678679922 tw13181709166847193583 tw14381764587664469429 tw15756808818566647850 tw1925518254215099766 tw18080968298810397905
 tw11706832414943768347 tw13510755827551418216 tw10204936317080089132 tw664693997250270082 tw18858306890453588 tw17410575489369094705 tw17575504846965930353 tw16270464130935982415 tw8725316516483587521 tw5224402615728675995 tw12971509354091014072 tw1588044738351115767 tw10645068439321491059 tw17439563420550462709 tw3083669692309912870 tw3877728196150201891 tw5791143873721349643 tw5641472016965723618 tw5362103317123970293 tw3079905995611515938 tw13305595836983027705 tw15863466073369939869 tw17505338992887348843 tw9309554275456011648 tw268111670687398100 tw10441862994297602215 tw9418798114978603310 tw14340497113617594492 tw3107333422525636341 tw1224986823486727480 tw12912338833960919264 tw753729946167473244 tw16872363811997598241 tw13209568211259978043 tw13628735308974106735 tw679848335082719301 tw6637204319984980808 tw6262851802533623040 tw13027377739089939374 tw8078895261058284967
 tw9686112385021951542 tw16808782239947248109 tw8200347705908743585 tw6084732651845280519 tw2899511024120885407 tw12329970327078150792 tw5876844469506126793 tw3928671341010394058 tw6646474509670259423 tw3926425251796471517 tw9761083088026545458 tw6694831027812055050 tw13000685300735949721 tw12133445303186201194 tw7855211704758007448 tw2362819029609694285 tw12237514747466419608 tw12066411780155583711 tw9481795225046713409 tw9889060095916960581 tw12391314093993663946 tw11753891519298093982 tw1671303614515707090 tw16488065879970973578 tw3886029380183789396 tw6483123983660023878 tw17486493919101314304 tw13806798496051785894 tw12494666766607159368 tw16695360922852881718 tw13181098479940053136 tw2274419228096169163 tw2191063854807065371 tw16460590236576828055 tw15150421370556477932 tw2781725994886639266 tw18130296866234876033 tw8845644606213669018 tw8728542937445098627 tw16866153136556363490
 tw14881832449321952771 tw11774229011546212011 tw10137139965952463783 tw3047087293147229496 tw6619982804518854881 tw7319439918004719468 tw17272527566373716795 tw17141992670691619391 tw3105200438914591297 tw15935645003086568830 tw7141569686267034197 tw10402089392841457950 tw9212759953562106016 tw8967048773374341957 tw8735918890625729621 tw7038880855290236224 tw6084883188998250281 tw6047855300969959068 tw5159816866754537226 tw3180228003210829028 tw287951541745290217 tw2615398337267559112 tw2004279345404387273 tw1630099769189786697 tw14510353791461055663 tw12070121601258462657 tw11470582468102934524 tw11292463243437340472 tw10354748941552781679 tw17872847913772820038 tw8111885538595259695 tw12491005445884405127:Nat)
abbrev N'(x:PySem.Str):Prop:=(x == ("__debug__" : PySem.Str))=false
abbrev γ:=PySem.Addr
abbrev V':=PySem.Value
abbrev Sh:=PySem.Shared
abbrev δ:=PySem.FuncData
open PySem renaming wpAny_bind→E',wpAny_pure→G',starEach→Jm,sizeLine→Jn,compareOp→Jo,foldedSetIterable→Jp,wpAny_holding→Jq,bootBuiltins→Jr,wpAny_truthy_bool→Js,attributeBase→Jt,sizeLine_eq→Ju,mainGlobals→Jv,sysModules→Jw,keywordEach→Jx,wpAny_mono→Jy,wpAny_rule→Jz,wpAny_passesOwn→J0,call_meets→J1,assignEach→J2,binaryOp→J',wpAny→Ka,model→Kb,Program→Kc,Around→Kd,World→Ke,Expr→Kf,Stmt→Kh
open PyProof.Rows renaming wpS_bind→Ki,wpS_pure→Kj,pendingOf→Kk,failedOf→Kl,wpS_modify→Km,arrOf→Kn,Keyed→Ko,SortSt→Kq,kindOf→Kr,setArr→Ks,setPending→Kt
open _root_.List renaming range→Ku,replicate→Kv,merge→Kw,length→Kx,length_filter_le→Ky,mem_append_left→Kz,filter_cons→K4,all_cons→K5,lookup→K6,forIn_cons→K7,drop_eq_getElem_cons→K8,filter_cons_of_neg→K9,filter_cons_of_pos→La,drop_eq_nil_of_le→Lb,foldl→Lc,length_zipWith→Ld,mem_map_of_mem→Lf,count_nil→Lg,drop_zero→Lh,forIn_nil→Li,filter_append→Lj,zip_cons_cons→Ll,map_take→Lm,filter_congr→Ln,pairwise_iff_getElem→Lp,nodup_range→Lq,drop_length→Lr,zipIdx_cons→Ls,nil_sublist→Lu,of_mem_zip→Lv,length_set→Lw,range_succ→Lx,filter_nil→Ly,length_singleton→Lz,set_append_right→L5,drop_drop→L6,take_zero→L7,set_append_left→L8,mergeSort_perm→L9,map_nil→Ma,getD→Mb,forIn_toArray→Mc,contains_cons→Me,set_set→Mf,filterMap_map→Mg,getElem_take→Mh,getElem_drop→Mi,getElem_inj→Mj,countP_cons→Ml,any_eq_true→Mm,merge_right→Mn,map_reverse→Mo,foldl_cons→Mp,zipIdx_nil→Mq,countP_map→Mr,nodup_nil→Ms,nil_merge→Mt,take_take→Mu,mapM_cons→Mv,filterMap→Mw,map_drop→Mx,take_add→Mz,take_nil→M3,any_map→M4,all_map→M5,zipWith→M6
open PySem.Value renaming ref→M7,none→M8,bool→M9,int→M',notImplemented→Na,str→Nb,float→Nc,type→Nd,isStrOf→Nf,isInt→Ng,bytes→Nh
open And renaming imp_right→Ni
open Option.some renaming inj→Nj
open PySem.PassesOwn renaming leaving→Nk
open PySem.W renaming Frag→Nl,kitOne→Nm
open PySem.F renaming plainAttrs_list→Nn,slot_list_append→No,type_list_append→Np,slot_enumerate_next→Nq,slot_zip_next→Nr,sub_tuple_dict→Nt,slot_list_index→Nu,args_enumerate_next_1→Nv,slot_dict_get→Nw,entry_enumerate_next→Nx,slot_dict_eq→Ny,slot_dict_ne→Nz,slot_tuple_eq_refl→N0,slot_tuple_ne_refl→N1,slot_list_count→N2,args_zip_next_1→N3,type_list_index→N4,entry_zip_next→N5,args_dict_get_3→N6,entry_dict_get→N7,sub_dict_tuple→N8,args_dict_eq_2→N9,args_dict_ne_2→Oa,slot_int_rmul→Ob,sub_dict_dict→Oc,entry_dict_eq→Oe,entry_dict_ne→Of
open PySem.NameKind renaming free→Og,cell→Oh
open False renaming elim→Oi
open Or renaming inr→Oj,inl→Ol
namespace L2
open PySem PySem.Spec PyProof.Rows
variable{M:Model}{N:List Str}{base:Heap}{body:List Kh}{ch fp:List γ}{i n t':Nat}{kw:List (Str×V')}{mg:Str->Option V'}{op:CmpOp}{pl:Sem Bool}{us:List V'}
abbrev Key:=Sum Int Str
noncomputable def Fe:Key->V'->Bool
 | .inl k,v=>Ng k v
 | .inr x,v=>Nf x v
noncomputable def keyH(w:Ke):Key->Int
 | .inl k=>hashInt k
 | .inr x=>hashStr w x
theorem qd7:∀{k:Key}{v:V'},Fe k v=true->(∃ i t,k=Sum.inl i/\v=M' i t)∨(∃ x t,k=Sum.inr x/\v=Nb x t)
 | .inl i,v,h=>by
   obtain⟨t,e⟩:=Value.isInt_shape (k:=i) (v:=v) h;exact .inl ⟨i,t,rfl,e⟩
 | .inr x,v,h=>by
   obtain⟨t,e⟩:=Value.isStrOf_shape (x:=x) (v:=v) h;exact .inr ⟨x,t,rfl,e⟩
theorem qao4(i:Int)(t:Tok):Fe (.inl i) (.int i t)=true:=by simp[Fe,Ng]
theorem qao3(x:Str)(t:Tok):Fe (.inr x) (.str x t)=true:=by simp[Fe,Nf]
theorem qaW5(a b:Int):decide ((Sum.inl a:Key)=Sum.inl b)=(a == b):=by
 by_cases e:a=b
 . subst e;simp
 have h:¬ (Sum.inl a:Key)=Sum.inl b:=λ q=>e (Sum.inl.inj q)
 rw[zAv h];exact(zCt.mpr e).symm
theorem qaW2(a b:Str):decide ((Sum.inr a:Key)=Sum.inr b)=decide (a=b):=by
 by_cases e:a=b
 . subst e;simp
 have h:¬ (Sum.inr a:Key)=Sum.inr b:=λ q=>e (Sum.inr.inj q)
 rw[zAv h,zAv e]
theorem qaW4(a:Int)(b:Str):decide ((Sum.inl a:Key)=Sum.inr b)=false:=zAv (λ q=>nomatch q)
theorem qaW3(a:Str)(b:Int):decide ((Sum.inr a:Key)=Sum.inl b)=false:=zAv (λ q=>nomatch q)
def qh1(prog:Kc)(w:Ke):PySem.KeyKind prog w Key where
 is:=Fe
 hash:=keyH w
 inj:=λ v a b g f=>by
   rcases qd7 g with⟨i,t,rfl,rfl⟩ | ⟨x,t,rfl,rfl⟩
   . rcases qd7 f with⟨j,u,rfl,e⟩ | ⟨y,u,rfl,e⟩
     . injection e with c _;rw[c]
     exact nomatch e
   rcases qd7 f with⟨j,u,rfl,e⟩ | ⟨y,u,rfl,e⟩
   . exact nomatch e
   injection e with c _;rw[c]
 byValue:=λ k v h=>by
   rcases qd7 h with⟨i,t,rfl,rfl⟩ | ⟨x,t,rfl,rfl⟩<;>rfl
 pyHash:=λ d h=>by
   rcases qd7 d with⟨i,t,rfl,rfl⟩ | ⟨x,t,rfl,rfl⟩
   . exact wpAny_pyHash_int h
   exact wpAny_pyHash_str h
 eqBool:=λ l d h=>by
   rcases qd7 l with⟨i,t,rfl,rfl⟩ | ⟨x,t,rfl,rfl⟩
   . rcases qd7 d with⟨j,u,rfl,rfl⟩ | ⟨y,u,rfl,rfl⟩
     . rw[qaW5] at h;exact wpAny_eqBool_int h
     rw[qaW4] at h;exact SeqAt.EqAt.int_str i t y u _ _ _ _ h
   rcases qd7 d with⟨j,u,rfl,rfl⟩ | ⟨y,u,rfl,rfl⟩
   . rw[qaW3] at h;exact SeqAt.EqAt.str_int x t j u _ _ _ _ h
   rw[qaW2] at h;exact wpAny_eqBool_str h
 «strs»:=λ k x t v h=>by
   rcases qd7 h with⟨i,u,rfl,e⟩ | ⟨y,u,rfl,e⟩
   . exact nomatch e
   injection e with c _
   subst c;cases v<;>rfl
theorem qZ5(prog:Kc)(w:Ke)(i:Int)(t:Tok):(qh1 prog w).is (.inl i) (.int i t)=true:=qao4 i t
theorem qZ4(prog:Kc)(w:Ke)(x:Str)(t:Tok):(qh1 prog w).is (.inr x) (.str x t)=true:=qao3 x t
inductive V where
 | non | bl (b:Bool) | int (i:Int) | str (x:Str) | byt (b:Array UInt8) | flt (b:UInt64) | ref (a:γ) | ty (n:String)
 deriving DecidableEq
def Os:V->V'->Prop
 | .non,u=>u=M8
 | .bl b,u=>u=M9 b
 | .int i,u=>∃ t,u=M' i t
 | .str x,u=>∃ t,u=Nb x t
 | .byt b,u=>∃ t,u=Nh b t
 | .flt b,u=>∃ t,u=Nc b t
 | .ref a,u=>u=M7 a
 | .ty n,u=>u=Nd n
abbrev Ot:List V->List V'->Prop:=Paired Os
theorem Ot.length(r:Ot xs us):xs.length=us.length:=Paired.length r
theorem Ot.get:∀{xs:List V}{us:List V'}{i:Nat}{x:V},Ot xs us->xs[i]? = some x->∃ u,us[i]? = some u/\Os x u
 | _,_,_,_,.nil,e=>by simp at e
 | _,_,0,_,.cons r _,e=>by simp at e;subst e;exact⟨_,rfl,r⟩
 | _,_,i+1,x,.cons _ t,e=>by
   obtain⟨u,a,b⟩:=Ot.get (i:=i) (x:=x) t (by simpa using e);exact⟨u,by simpa using a,b⟩
theorem Ot.set{x:V}{u:V'}(r:Os x u):∀{xs:List V}{us:List V'}(i:Nat),Ot xs us->Ot (xs.set i x) (us.set i u)
 | _,_,_,.nil=>.nil
 | _,_,0,.cons _ t=>.cons r t
 | _,_,i+1,.cons q t=>.cons q (Ot.set r i t)
theorem Ot.append(h:Ot xs us)(s:Ot ys a):Ot (xs++ys) (us++a):=by
 induction h with
 | nil=>exact s
 | cons r t i=>exact .cons r i
theorem Ot.take:∀{xs:List V}{us:List V'}(n:Nat),Ot xs us->Ot (xs.take n) (us.take n)
 | _,_,0,_=>.nil
 | _,_,_+1,.nil=>.nil
 | _,_,n+1,.cons r t=>.cons r (Ot.take n t)
theorem Ot.drop:∀{xs:List V}{us:List V'}(n:Nat),Ot xs us->Ot (xs.drop n) (us.drop n)
 | _,_,0,r=>r
 | _,_,_+1,.nil=>.nil
 | _,_,n+1,.cons _ t=>Ot.drop n t
def RelO:Option V->Option V'->Prop
 | some v,some u=>Os v u
 | none,none=>True
 | _,_=>False
def KV{a:Type}:List (a×V)->List (a×V')->Prop:=Paired λ(p:a×V)(q:a×V')=>p.1=q.1/\Os p.2 q.2
noncomputable def kV:Key->V
 | .inl i=>.int i
 | .inr x=>.str x
inductive HO where
   | l (xs:List V)
   | q (xs:List V)
   | dK (kvs:List (Key×V)) | dT (kvs:List (List Key×V))
   | set (S:Int->Bool) (n:Nat)
   | ins (C dx:γ) (fs:List (Str×V))
   | own (x:γ)
   | xd (fs:List (Str×V))
   | met (f x:γ)
   | rng (lo hi:Int)
   | frz (o:Obj) (u:HO)
   | tbl (ps:Array V')
   | ext (φ:Heap->Prop)
noncomputable abbrev Hp:=γ->Option HO
noncomputable def upd(H:Hp)(a:γ)(o:HO):Hp:=λ b=>if b=a then some o else H b
theorem qc3:upd H a o a=some o:=by unfold upd;rw[if_pos rfl]
theorem qc9(h:b≠a):upd H a o b=H b:=by unfold upd;rw[if_neg h]
theorem qaF8:upd (upd H a o) a u=upd H a u:=by
 funext b;unfold upd;split<;>rfl
theorem ne_of{H:Hp}(h:H a=some o)(h':H b=some u)(d:o≠u):a≠b:=by
 intro e;subst e;rw[h] at h';exact d (Nj h')
theorem qf1{H:Hp}(h:H a=some o)(h':H b=none):a≠b:=by
 intro e;subst e;rw[h] at h';cases h'
section
variable(P:Kc)(w:Ke)
def ObjOk(H:Hp)(h:Heap)(a:γ):HO->Prop
 | .l xs=>xs.length<=Jn/\∃(its:List V')(n:Nat),Ot xs its/\h.get? a=some { cls:=.type "list",data:=.seq its.toArray n }
 | .q xs=>xs.length<=Jn/\∃ its:List V',Ot xs its/\IsTup h a its.toArray
 | .dK kvs=>kvs.length<=Jn/\(a == Jw)=false/\∃ vs,KV kvs vs/\h.DictOf (qh1 P w) a vs
 | .dT kvs=>kvs.length<=Jn/\(a == Jw)=false/\∃ xs:List (List Key×γ×V'),
     Paired (λ(p:List Key×V)(q:List Key×γ×V')=>p.1=q.1/\H q.2.1=some (.q (p.1.map kV))/\Os p.2 q.2.2) kvs xs /\
     ∃ o es b,h.get? a=some o/\o.ExactDict/\o.data=.dict es b/\es.toList=xs.map (entryOfKey (tupleKind (qh1 P w)))/\(xs.map (·.1)).Nodup
 | .set S n=>h.SetOf (intKind P w) a S n
 | .ins C dx fs=>H dx=some (.own a)/\fs.length<=1000/\dx≠a/\h.get? a=some (W.instObj C dx) /\
     ∃ mA,h.Ns1 dx mA/\(∀ f,RelO (fs.lookup f) (mA f))/\PySem.Within mA (fs.map (·.1))
 | .own _=>∃ o,h.get? a=some o
 | .xd fs=>∃ mA,h.Ns1 a mA/\∀ f,RelO (fs.lookup f) (mA f)
 | .rng lo hi=>∃ t u v,h.get? a=some { cls:=.type "range",data:=.fields #[.int lo t,.int hi u,.int 1 v] }
 | .frz o u=>h.get? a=some o/\ObjOk H h a u
 | .tbl ps=>h.get? a=some { cls:=.none,data:=.fields ps }
 | .met f x=>h.get? a=some (W.methodObj (.ref f) (.ref x))
 | .ext φ=>φ h/\(∃ o,h.get? a=some o)/\∀ h1 h2:Heap,φ h1->(∀ o,h1.get? a=some o->h2.get? a=some o)->φ h2
def HOk(H:Hp)(h:Heap):Prop:=∀ a o,H a=some o->ObjOk P w H h a o
end
section
variable{P:Kc}{w:Ke}{H H':Hp}{h h':Heap}{a:γ}{o:HO}
theorem ObjOk.lt(x:ObjOk P w H h a o):a < h.objs.size:=by
 cases o with
 | l c=>obtain⟨_,_,_,_,e⟩:=x;exact zA7 e
 | q c=>obtain⟨_,_,_,p⟩:=x;exact p.lt
 | dK b=>obtain⟨_,_,_,_,o,_,_,e,_⟩:=x;exact zA7 e
 | dT b=>obtain⟨_,_,_,_,o,_,_,e,_⟩:=x;exact zA7 e
 | set S n=>obtain⟨o,_,_,_,e,_⟩:=x;exact zA7 e
 | ins C g d=>obtain⟨_,_,_,e,_⟩:=x;exact zA7 e
 | own y=>obtain⟨_,e⟩:=x;exact zA7 e
 | xd d=>obtain⟨_,⟨_,_,_,e,_⟩,_⟩:=x;exact zA7 e
 | rng i j=>obtain⟨_,_,_,e⟩:=x;exact zA7 e
 | frz k u=>obtain⟨e,_⟩:=x;exact zA7 e
 | tbl l=>exact zA7 (show h.get? a=some _ from x)
 | met f y=>exact zA7 (show h.get? a=some _ from x)
 | ext φ=>obtain⟨_,⟨_,e⟩,_⟩:=x;exact zA7 e
theorem Paired.mapP{α β:Type}{F G:α->β->Prop}{l:List α}{m:List β}(h:Paired F l m)(f:∀ a b,F a b->G a b):Paired G l m:=by
 induction h with
 | nil=>exact .nil
 | cons r t i=>exact .cons (f _ _ r) i
theorem ObjOk.stay(x:ObjOk P w H h a o)(k:∀ b u,(b=a∨H b=some (.own a))->h.get? b=some u->h'.get? b=some u)(E:∀ b,H b=some (.own a)->H' b=some (.own a))(F:∀ b xs,H b=some (.q xs)->H' b=some (.q xs)):ObjOk P w H' h' a o:=by
 induction o with
 | l xs=>obtain⟨z,l,n,r,e⟩:=x;exact⟨z,l,n,r,k _ _ (.inl rfl) e⟩
 | q xs=>obtain⟨z,l,r,g,e,c⟩:=x;exact⟨z,l,r,g,k _ _ (.inl rfl) e,c⟩
 | dK m=>obtain⟨z,y,G,r,g,i,j,e,c⟩:=x;exact⟨z,y,G,r,g,i,j,k _ _ (.inl rfl) e,c⟩
 | dT m =>
   obtain⟨z,y,xs,r,g,i,j,e,c⟩:=x;exact⟨z,y,xs,Paired.mapP r λ p q z=>⟨z.1,F _ _ z.2.1,z.2.2⟩,g,i,j,k _ _ (.inl rfl) e,c⟩
 | set S n=>obtain⟨g,i,j,t,e,c⟩:=x;exact⟨g,i,j,t,k _ _ (.inl rfl) e,c⟩
 | ins C L I =>
   obtain⟨d,z,J,e,s,⟨A,i,j,e2,c⟩,r⟩:=x;exact⟨E _ d,z,J,k _ _ (.inl rfl) e,s,⟨A,i,j,k _ _ (.inr d) e2,c⟩,r⟩
 | own y=>obtain⟨g,e⟩:=x;exact⟨g,k _ _ (.inl rfl) e⟩
 | xd I=>obtain⟨s,⟨A,i,j,e,c⟩,r⟩:=x;exact⟨s,⟨A,i,j,k _ _ (.inl rfl) e,c⟩,r⟩
 | rng M N=>obtain⟨t,u,v,e⟩:=x;exact⟨t,u,v,k _ _ (.inl rfl) e⟩
 | frz g u K=>obtain⟨e,q⟩:=x;exact⟨k _ _ (.inl rfl) e,K q⟩
 | tbl B =>
   have e:h.get? a=some { cls:=.none,data:=.fields B }:=x;show h'.get? a=some { cls:=.none,data:=.fields B };exact k a _ (.inl rfl) e
 | met f y =>
   have e:h.get? a=some (W.methodObj (.ref f) (.ref y)):=x;show h'.get? a=some (W.methodObj (.ref f) (.ref y));exact k a _ (.inl rfl) e
 | ext φ=>obtain⟨p,⟨o,e⟩,D⟩:=x;exact⟨D _ _ p λ o q=>k _ _ (.inl rfl) q,⟨o,k _ _ (.inl rfl) e⟩,D⟩
theorem HOk.lt(x:HOk P w H h)(e:H a=some o):a < h.objs.size:=(x a o e).lt
theorem HOk.fresh(x:HOk P w H h)(e:h.objs.size<=a):H a=none:=by
 cases q:H a with
 | none=>rfl
 | some u=>exact absurd (zAg (x.lt q) e) (zCf _)
theorem HOk.kept(x:HOk P w H h)(k:∀ b u,h.get? b=some u->h'.get? b=some u):HOk P w H h':=λ a o e =>
 (x a o e).stay (λ b u _ q=>k b u q) (λ _ q=>q) λ _ _ q=>q
theorem HOk.laid(x:HOk P w H h)(k:∀ b u,h.get? b=some u->h'.get? b=some u)(i:h.objs.size<=a)(d:ObjOk P w (upd H a o) h' a o):HOk P w (upd H a o) h':=λ b u e=>by
 have f:=x.fresh i;by_cases g:b=a
 . subst g;rw[qc3] at e;cases e;exact d
 rw[qc9 g] at e;exact(x b u e).stay (λ c v _ q=>k c v q) (λ c q=>by rw[qc9 (qf1 q f)];exact q) λ c j q=>by rw[qc9 (qf1 q f)];exact q
end
def Rd(H:Hp)(a:γ)(u:HO):Prop:=H a=some u∨∃ o,H a=some (.frz o u)
theorem Rd.ok(r:Rd H a u)(x:HOk P w H h):ObjOk P w H h a u:=by
 rcases r with r | ⟨o,r⟩
 . exact x a u r
 obtain⟨_,q⟩:=x a _ r;exact q
def Mut:Option HO->Prop
 | some (.l _)=>True
 | some (.dK _)=>True
 | some (.dT _)=>True
 | some (.set _ _)=>True
 | some (.ins _ _ _)=>True
 | some (.ext _)=>True
 | _=>False
section
variable{P:Kc}{w:Ke}{H:Hp}{h h':Heap}{x e:γ}{o':HO}
theorem HOk.write(o:HOk P w H h)(d:Mut (H x))(m:e=x∨H e=some (.own x))(k:∀ b u,b≠e->h.get? b=some u->h'.get? b=some u)(j:∃ u,h'.get? e=some u)(l:ObjOk P w (upd H x o') h' x o'):HOk P w (upd H x o') h':=λ b u q=>by
 have nown:∀ c y,H c=some (.own y)->c≠x:=λ c y r z=>by subst z;rw[r] at d;exact d
 have ntup:∀ c f,H c=some (.q f)->c≠x:=λ c f r z=>by subst z;rw[r] at d;exact d
 by_cases g:b=x
 . subst g;rw[qc3] at q;cases q;exact l
 rw[qc9 g] at q;by_cases a:b=e
 . have n:H b=some (.own x):=by
     rcases m with z | z
     . exact absurd (a.trans z) g
     rw[a];exact z
   rw[q] at n;cases n;obtain⟨v,p⟩:=j;exact⟨v,by rw[a];exact p⟩
 refine(o b u q).stay (λ c v i r=>k c v ?_ r) (λ c r=>by rw[qc9 (nown c b r)];exact r) λ c f r=>by rw[qc9 (ntup c f r)];exact r
 rcases i with rfl | i
 . exact a
 rintro rfl;rcases m with z | z
 . exact nown c b i z
 rw[i] at z;cases z;exact g rfl
end
structure Un(fs ex:List γ)(H H':Hp)(h h':Heap):Prop where
 keep:∀ b o,h.get? b=some o->H b=none->b∉fs->b∉ex->h'.get? b=some o
 slot:∀ b o,h.get? b=some o->H b=none->b∈fs->b∉ex->∃ sl,h'.get? b=some { o with slots:=sl }
 free:∀ b o,h.get? b=some o->H b=none->b∉ex->H' b=none
 there:∀ b o,h.get? b=some o->b∉ex->∃ o',h'.get? b=some o'
 tups:∀ b xs,H b=some (.q xs)->H' b=some (.q xs)
 frzs:∀ b o u,H b=some (.frz o u)->H' b=some (.frz o u)
 tbls:∀ b ps,H b=some (.tbl ps)->∃ more,H' b=some (.tbl (ps++more))
section
variable{fs s:List γ}{H v w:Hp}{h t y h':Heap}{a x e:γ}{o:HO}
theorem Un.any(u:Un fs s H v h t)(q:h.get? b=some ob)(n:H b=none)(a:b∉s):∃ sl,t.get? b=some { ob with slots:=sl }:=by
 by_cases c:b∈fs
 . exact u.slot b ob q n c a
 exact⟨ob.slots,u.keep b ob q n c a⟩
theorem Un.trans(a:Un fs s H v h t)(b:Un fs s v w t y):Un fs s H w h y where
 keep:=λ c d q n g e=>b.keep c d (a.keep c d q n g e) (a.free c d q n e) g e
 slot:=λ c d q n g e=>by
   obtain⟨p,f⟩:=a.slot c d q n g e;obtain⟨j,e2⟩:=b.slot c _ f (a.free c d q n e) g e;exact⟨j,e2⟩
 free:=λ c d q n e=>by
   obtain⟨k,f⟩:=a.there c d q e;exact b.free c k f (a.free c d q n e) e
 there:=λ c d q e=>by
   obtain⟨k,f⟩:=a.there c d q e;exact b.there c k f e
 tups:=λ c i q=>b.tups c i (a.tups c i q)
 frzs:=λ c d i q=>b.frzs c d i (a.frzs c d i q)
 tbls:=λ c l q=>by
   obtain⟨m,f⟩:=a.tbls c l q;obtain⟨o,e2⟩:=b.tbls c _ f;exact⟨m++o,by rw[e2,Array.append_assoc]⟩
theorem Un.kept(k:∀ b u,h.get? b=some u->h'.get? b=some u):Un fs s H H h h' :=
 ⟨λ b a q _ _ _=>k b a q,λ b a q _ _ _=>⟨a.slots,k b a q⟩,λ _ _ _ n _=>n,λ b a q _=>⟨a,k b a q⟩,λ _ _ q=>q,λ _ _ _ q=>q,λ _ c q=>⟨#[],by rw[q];simp⟩⟩
theorem Un.refl:Un fs s H H h h:=Un.kept λ _ _ q=>q
theorem Un.laid(k:∀ b u,h.get? b=some u->h'.get? b=some u)(d:h.objs.size<=a)(c:H a=none):Un fs s H (upd H a o) h h' where
 keep:=λ b u q _ _ _=>k b u q
 slot:=λ b u q _ _ _=>⟨u.slots,k b u q⟩
 free:=λ b u q n _=>by rw[qc9 (zAt (zAg (zA7 q) d))];exact n
 there:=λ b u q _=>⟨u,k b u q⟩
 tups:=λ b e q=>by rw[qc9 (qf1 q c)];exact q
 frzs:=λ b u e q=>by rw[qc9 (qf1 q c)];exact q
 tbls:=λ b f q=>⟨#[],by rw[qc9 (qf1 q c),q];simp⟩
theorem Un.write(c:Mut (H x))(j:e=x∨H e=some (.own x))(k:∀ b u,b≠e->h.get? b=some u->h'.get? b=some u)(d:∃ u,h'.get? e=some u):Un fs s H (upd H x o) h h':=by
 have g:∀ b,H b=none->b≠x:=λ b n z=>by subst z;rw[n] at c;exact c
 have i:∀ b,H b=none->b≠e:=λ b n z=>by
   subst z;rcases j with r | r
   . exact g b n r
   rw[n] at r;cases r
 have f:∀ b u,H b=some u->¬ Mut (some u)->b≠x:=λ b u q l z=>by subst z;rw[q] at c;exact l c
 refine⟨λ b u q n _ _=>k b u (i b n) q,λ b u q n _ _=>⟨u.slots,k b u (i b n) q⟩,λ b u q n _=>by rw[qc9 (g b n)];exact n,λ b u q _=>?_,
   λ b m q=>by rw[qc9 (f b _ q λ z=>z)];exact q,λ b u m q=>by rw[qc9 (f b _ q λ z=>z)];exact q,λ b p q=>⟨#[],by rw[qc9 (f b _ q λ z=>z),q];simp⟩⟩
 by_cases a:b=e
 . subst a;exact d
 exact⟨u,k b u a q⟩
end
noncomputable def trk(h:Heap)(H:Hp):List γ:=(Ku h.objs.size).filter λ a=>(H a).isSome
def Fl(h:Heap)(H:Hp):Heap:=W.hideAll h (trk h H)
theorem qao7(h:Heap)(H:Hp):(Fl h H).objs.size=h.objs.size:=W.hideAll_size _ _
theorem qaC6(e:h.get? b=some o)(n:H b=none):(Fl h H).get? b=some o :=
 W.hideAll_get _ e λ a=>by
   have q:(H b).isSome=true:=(zB6.mp a).2;rw[n] at q;simp at q
theorem qaL8(e:(Fl h H).get? b=some o):h.get? b=some o/\H b=none:=by
 have a:h.get? b=some o:=W.of_hideAll (trk h H) e;refine⟨a,?_⟩;cases q:H b with
 | none=>rfl
 | some x =>
   have c:b∈trk h H:=zB6.mpr ⟨zAn.mpr (zA7 a),by simp[q]⟩;have z:(Fl h H).get? b=none:=W.hideAll_none (trk h H) c;rw[z] at e;cases e
structure Mod(K:Nl)(mg:Str->Option V')(base:Heap):Prop where
 kin:K.In base
 glob:base.Ns Jv mg
 blt:∃ mb,base.Ns builtinsNs mb/\∀ x:Str,x ≠ "__name__" -> mb x=Jr x
 nolimit:base.NoLimit
structure Cx where
 prog:Kc
 w:Ke
 K:Nl
 mg:Str->Option V'
 base:Heap
 A:Kd
 N:List Str
 s₀:Sh
 H₀:Hp
 env:Env
 outer:List Env
 stack:List Env
 ex:List γ
 fn:Str->Bool
 calm:Bool
 pn:List (γ×Obj)
 xe:V'->Sh->Prop
noncomputable def frs(l:List Env):List γ:=l.filterMap (·.frame)
abbrev Cx.fs(X:Cx):List γ:=frs X.outer
def Vis(sc:Scope)(x:Str):Prop:=sc.names.lookup x=some .local∨sc.names.lookup x=some .cell∨sc.names.lookup x=some .free
def Loc(sc:Scope)(x:Str):Prop:=sc.names.lookup x=some .local∨sc.names.lookup x=some .cell
def Look(env:Env)(h:Heap)(m:Str->Option V')(x:Str)(u:V'):Prop :=
 (env.kindOf x=some .local/\m x=some u)∨((env.kindOf x=some .cell∨env.kindOf x=some .free)/\∃ c,env.cells.lookup x=some c/\h.IsCell c (some u))
structure Cx.Ok(X:Cx):Prop where
 mod:Mod X.K X.mg X.base
 kind:X.env.scope.kind=.function
 glob:X.env.globals=Jv
 blt:X.env.builtins=builtinsNs
 above:X.s₀.heap.objs.size<=X.env.locals
 inj:∀ x y c,X.env.cells.lookup x=some c->X.env.cells.lookup y=some c->x=y
 has:∀ x,(X.env.kindOf x=some .cell∨X.env.kindOf x=some .free)->∃ c,X.env.cells.lookup x=some c
 cab:∀ x c,X.fn x=true->X.env.cells.lookup x=some c->X.s₀.heap.objs.size<=c
 hd:X.calm=true->X.A.handled=none
 frames:X.A.frames=some X.stack
 stk:X.stack=X.outer∨(X.stack=X.env::X.outer/\X.env.frame=some X.env.locals)
 exf:∀ b∈X.ex,b≠X.env.locals/\∀ x c,X.env.cells.lookup x=some c->c≠b
 bs:∀ b o,X.base.get? b=some o->X.s₀.heap.get? b=some o/\X.H₀ b=none
 bsz:X.base.objs.size<=X.s₀.heap.objs.size
 noex:∀ b o,X.base.get? b=some o->b∉X.ex
 exfs:∀ b∈X.ex,b∉X.fs
 funs:X.s₀.heap.FunFrames X.base X.outer
 frf:∀ b∈X.fs,X.H₀ b=none
structure Ov(X:Cx)(D8:List (γ×Obj))(a:List (Option V))(H:Hp)(s:Sh):Prop where
 ok:X.Ok
 os:s.os=X.s₀.os
 bare:AllBare s.gens
 base:Un X.fs X.ex X.H₀ H X.s₀.heap s.heap
 loc:∃ m,s.heap.Ns X.env.locals m/\∀(i:Nat)(x:Str)(v:V),X.N[i]? = some x->a[i]? = some (some v)->Vis X.env.scope x->∃ u,Os v u/\Look X.env s.heap m x u
 cell:∀ x c,X.env.cells.lookup x=some c->∃ v,s.heap.IsCell c v
 free:H X.env.locals=none
 freeC:∀ x c,X.env.cells.lookup x=some c->H c=none
 pin:∀ p∈X.pn++D8,s.heap.get? p.1=some p.2/\H p.1=none/\p.1≠X.env.locals/\p.1∉X.fs/\∀ v,p.2.data≠.cell v
 hok:HOk X.prog X.w H s.heap
 len:a.length=X.N.length
section
variable{X:Cx}{D8:List (γ×Obj)}{σ:List (Option V)}{H H':Hp}{s:Sh}{h':Heap}
theorem Cx.Ok.nofr(a:X.Ok)(e:X.base.get? b=some o):b∉X.fs:=λ c=>by
 have:=(a.funs.mem c).1
 rw[e] at this;cases this
theorem Ov.bs(I:Ov X D8 σ H s):∀ b o,X.base.get? b=some o->s.heap.get? b=some o/\H b=none:=λ b o e =>
 ⟨I.base.keep b o (I.ok.bs b o e).1 (I.ok.bs b o e).2 (I.ok.nofr e) (I.ok.noex b o e),I.base.free b o (I.ok.bs b o e).1 (I.ok.bs b o e).2 (I.ok.noex b o e)⟩
theorem Ov.bk(I:Ov X D8 σ H s):∀ b o,X.base.get? b=some o->s.heap.get? b=some o:=λ b o e=>(I.bs b o e).1
theorem Ov.mod(I:Ov X D8 σ H s):Mod X.K X.mg X.base:=I.ok.mod
theorem Ov.kIn(I:Ov X D8 σ H s):X.K.In s.heap:=I.ok.mod.kin.keeps I.bk
theorem Ov.lt(I:Ov X D8 σ H s):X.env.locals < s.heap.objs.size:=let ⟨_,hn,_⟩:=I.loc;hn.lt
theorem Ov.sz(I:Ov X D8 σ H s):X.s₀.heap.objs.size<=s.heap.objs.size:=zAk I.ok.above (zBa I.lt)
theorem Ov.nofs(I:Ov X D8 σ H s)(h:s.heap.objs.size<=a):a∉X.fs:=λ b=>by
 obtain⟨_,o,c,_⟩:=I.ok.funs.mem b;exact absurd (zAg (zA7 c) (zAk I.sz h)) (zCf _)
theorem Ov.cne(I:Ov X D8 σ H s):∀ x c,X.env.cells.lookup x=some c->c≠X.env.locals:=λ x c e z=>by
 obtain⟨v,o,d,f⟩:=I.cell x c e;obtain⟨m,⟨g,h,i,a,b,_⟩,_⟩:=I.loc;rw[z,a] at d;cases d;rw[b] at f;cases f
theorem Ov.funs(I:Ov X D8 σ H s):s.heap.FunFrames X.base X.outer:=by
 have all:∀(l:List Env),(∀ b∈frs l,b∈X.fs)->X.s₀.heap.FunFrames X.base l->s.heap.FunFrames X.base l:=by
   intro l
   induction l with
   | nil=>intro _ _;trivial
   | cons g r h =>
     intro f i;obtain⟨j,⟨L,o,a,k,m,n⟩,p⟩:=i;have c:L∈X.fs:=f L (by unfold frs;rw[zBt,a];exact zAh);obtain⟨q,e⟩:=I.base.slot L o m (I.ok.frf L c) c λ z=>I.ok.exfs L z c
     exact⟨j,⟨L,_,a,k,e,n⟩,h (λ b d=>f b (by unfold frs;rw[zBt,a];exact zA6 _ d)) p⟩
 exact all X.outer (λ _ d=>d) I.ok.funs
theorem Ov.stack(I:Ov X D8 σ H s):s.heap.FunFrames X.base X.stack:=by
 rcases I.ok.stk with e | ⟨e,a⟩
 . rw[e];exact I.funs
 rw[e];obtain⟨m,b,_⟩:=I.loc;refine .cons (by rw[I.ok.kind];decide) a b ?_ I.funs;exact Heap.get?_none_of_le (zAk I.ok.bsz I.ok.above)
theorem Ov.stkSub(I:Ov X D8 σ H s):∀ b∈frs X.stack,b∈X.env.locals::X.fs:=λ b a=>by
 rcases I.ok.stk with e | ⟨e,c⟩
 . rw[e] at a;exact zA6 _ a
 rw[e] at a;unfold frs at a;rw[zBt,c] at a;exact a
theorem Ov.stkFree(I:Ov X D8 σ H s):∀ b∈frs X.stack,H b=none:=λ b a=>by
 rcases zAi.mp (I.stkSub b a) with e | a
 . rw[e];exact I.free
 obtain⟨_,o,c,_⟩:=I.ok.funs.mem a;exact I.base.free b o c (I.ok.frf b a) λ z=>I.ok.exfs b z a
theorem Ov.step(I:Ov X D8 σ H s)(f:∀ b∈ch,(b∈X.ex∨X.s₀.heap.objs.size<=b)/\b≠X.env.locals/\(∀ x c,X.env.cells.lookup x=some c->c≠b)/\∀ p∈X.pn++D8,p.1≠b)(keep:∀ b o,b≠X.env.locals->b∉X.fs->b∉ch->s.heap.get? b=some o->H b=none->h'.get? b=some o)(slot:∀ b o,b≠X.env.locals->b∈X.fs->b∉ch->s.heap.get? b=some o->H b=none->∃ sl,h'.get? b=some { o with slots:=sl })(free:∀ b o,b∉ch->s.heap.get? b=some o->H b=none->H' b=none)(there:∀ b o,b∉ch->s.heap.get? b=some o->∃ o',h'.get? b=some o')(tups:∀ b xs,H b=some (.q xs)->H' b=some (.q xs))(frzs:∀ b o u,H b=some (.frz o u)->H' b=some (.frz o u))(tbls:∀ b ps,H b=some (.tbl ps)->∃ more,H' b=some (.tbl (ps++more)))(ns:∀ m,s.heap.Ns X.env.locals m->h'.Ns X.env.locals m)(B:HOk X.prog X.w H' h')(J:AllBare g') :
   Ov X D8 σ H' { s with heap:=h',gens:=g',drawn:=d',toks:=t' }:=by
 have A:∀ b o,X.s₀.heap.get? b=some o->b≠X.env.locals:=λ b o e=>zAt (zAg (zA7 e) I.ok.above)
 have h:∀ b o,X.s₀.heap.get? b=some o->b∉X.ex->b∉ch:=λ b o e a t=>by
   rcases (f b t).1 with z | z
   . exact a z
   exact absurd (zAg (zA7 e) z) (zCf _)
 have cellK:∀ x c,X.env.cells.lookup x=some c->∀ v,s.heap.IsCell c v->h'.IsCell c v:=λ x c e v ⟨o,y,C⟩=>by
   have g:c∉ch:=λ z=>(f c z).2.2.1 x c e rfl
   by_cases E:c∈X.fs
   . obtain⟨sl,q⟩:=slot c o (I.cne x c e) E g y (I.freeC x c e)
     exact⟨_,q,C⟩
   exact⟨o,keep c o (I.cne x c e) E g y (I.freeC x c e),C⟩
 refine⟨I.ok,I.os,J,⟨λ b o e n t a=>?_,λ b o e n t a=>?_,λ b o e n a=>?_,λ b o e a=>?_,λ b xs e=>tups b xs (I.base.tups b xs e),λ b o xs e=>frzs b o xs (I.base.frzs b o xs e),λ b ps e=>?_⟩,?_,λ x c e=>?_,?_,λ x c e=>?_,λ p F=>?_,B,I.len⟩
 . exact keep b o (A b o e) t (h b o e a) (I.base.keep b o e n t a) (I.base.free b o e n a)
 . obtain⟨sl,j⟩:=I.base.slot b o e n t a
   obtain⟨D,e2⟩:=slot b _ (A b o e) t (h b o e a) j (I.base.free b o e n a);exact⟨D,e2⟩
 . obtain⟨o',j⟩:=I.base.there b o e a
   exact free b o' (h b o e a) j (I.base.free b o e n a)
 . obtain⟨o',j⟩:=I.base.there b o e a
   exact there b o' (h b o e a) j
 . obtain⟨K,j⟩:=I.base.tbls b ps e
   obtain⟨L,e2⟩:=tbls b _ j;exact⟨K++L,by rw[e2,Array.append_assoc]⟩
 . obtain⟨m,M,N⟩:=I.loc
   refine⟨m,ns m M,λ i x v j e2 O=>?_⟩;obtain⟨u,r,l⟩:=N i x v j e2 O;refine⟨u,r,?_⟩;rcases l with l | ⟨k,c,e,z⟩
   . exact .inl l
   exact .inr ⟨k,c,e,cellK x c e _ z⟩
 . obtain⟨v,z⟩:=I.cell x c e
   exact⟨v,cellK x c e v z⟩
 . obtain⟨m,⟨o,_,_,y,_⟩,_⟩:=I.loc
   exact free _ o (λ z=>(f _ z).2.1 rfl) y I.free
 . obtain⟨v,o,y,C⟩:=I.cell x c e
   exact free c o (λ z=>(f c z).2.2.1 x c e rfl) y (I.freeC x c e)
 obtain⟨e,n,G,nf,d⟩:=I.pin p F;have g:p.1∉ch:=λ z=>(f p.1 z).2.2.2 p F rfl
 exact⟨keep p.1 p.2 G nf g e n,free p.1 p.2 g e n,G,nf,d⟩
theorem Ov.un(I:Ov X D8 σ H s)(u:Un X.fs [] H H' s.heap h')(c:HOk X.prog X.w H' h'):Ov X D8 σ H' { s with heap:=h',toks:=t' }:=by
 obtain⟨m,⟨o,l,p,h,r⟩,_⟩:=id I.loc;obtain⟨q,i⟩:=u.any h I.free (by simp);exact I.step (g':=s.gens) (d':=s.drawn) (ch:=[]) (λ _ z=>nomatch z) (λ b o _ d _ e n=>u.keep b o e n d (by simp)) (λ b o _ d _ e n=>u.slot b o e n d (by simp)) (λ b o _ e n=>u.free b o e n (by simp)) (λ b o _ e=>u.there b o e (by simp)) u.tups u.frzs u.tbls (λ t j=>by
   obtain⟨v,f,g,a,k⟩:=j;rw[h] at a;cases a;exact⟨_,f,g,i,k⟩) c I.bare
theorem Ov.call(I:Ov X D8 σ H s)(u:Un (frs X.stack) ch H H' s.heap h')(g:HOk X.prog X.w H' h')(l:AllBare g')(d:∀ b∈ch,(b∈X.ex∨X.s₀.heap.objs.size<=b)/\b≠X.env.locals/\(∀ x c,X.env.cells.lookup x=some c->c≠b)/\∀ p∈X.pn++D8,p.1≠b) :
   Ov X D8 σ H' { s with heap:=h',gens:=g',drawn:=d',toks:=t' }:=by
 obtain⟨m,⟨o,y,A,k,r⟩,_⟩:=id I.loc;obtain⟨B,h⟩:=u.any k I.free λ z=>(d _ z).2.1 rfl
 exact I.step (ch:=ch) d (λ b o h q a e n=>u.keep b o e n (λ z=>(zAi.mp (I.stkSub b z)).elim h q) a) (λ b o _ _ a e n=>u.any e n a) (λ b o a e n=>u.free b o e n a) (λ b o a e=>u.there b o e a) u.tups u.frzs u.tbls (λ C t=>by
   obtain⟨D,i,j,f,v⟩:=t;rw[k] at f;cases f;exact⟨_,i,j,h,v⟩) g l
theorem Ov.turned(I:Ov X D8 σ H s)(k:∀ b o,b≠it->s.heap.get? b=some o->h'.get? b=some o)(g:H it=none)(f:it≠X.env.locals)(h1:it∈X.ex∨X.s₀.heap.objs.size<=it)(h2:∀ x c,X.env.cells.lookup x=some c->c≠it)(h:∀ p∈X.pn++D8,p.1≠it):Ov X D8 σ H { s with heap:=h',toks:=t' }:=by
 have d:∀ b u,H b=some u->b≠it:=λ b u e z=>by rw[z,g] at e;cases e
 refine I.step (g':=s.gens) (d':=s.drawn) (ch:=[it]) (λ b i=>?_) (λ b o _ _ a e _=>k b o (λ z=>a (by simp[z])) e) (λ b o _ _ a e _=>⟨o.slots,k b o (λ z=>a (by simp[z])) e⟩) (λ _ _ _ _ n=>n)
   (λ b o a e=>⟨o,k b o (λ z=>a (by simp[z])) e⟩) (λ _ _ e=>e) (λ _ _ _ e=>e) (λ b y e=>⟨#[],by rw[e];simp⟩) (λ m j=>?_) (λ b u e=>?_) I.bare
 . have e:b=it:=by simpa using i
   subst e;exact⟨h1,f,h2,h⟩
 . obtain⟨o,l,t,w,r⟩:=j
   exact⟨o,l,t,k _ o (Ne.symm f) w,r⟩
 refine(I.hok b u e).stay (λ c v a q=>k c v ?_ q) (λ _ q=>q) λ _ _ q=>q
 rcases a with z | z
 . rw[z];exact d b u e
 exact d c _ z
theorem Ov.tok(I:Ov X D8 σ H s)(t:Nat):Ov X D8 σ H { s with toks:=t }:=I.un (h':=s.heap) (t':=t) Un.refl I.hok
theorem Ov.kept(I:Ov X D8 σ H s)(k:∀ b u,s.heap.get? b=some u->h'.get? b=some u):Ov X D8 σ H { s with heap:=h',toks:=t' }:=I.un (Un.kept k) (I.hok.kept k)
theorem Ov.laid(I:Ov X D8 σ H s)(k:∀ b u,s.heap.get? b=some u->h'.get? b=some u)(c:s.heap.objs.size<=a)(d:ObjOk X.prog X.w (upd H a o) h' a o) :
   Ov X D8 σ (upd H a o) { s with heap:=h',toks:=t' }:=I.un (Un.laid k c (I.hok.fresh c)) (I.hok.laid k c d)
theorem Ov.write(I:Ov X D8 σ H s)(d:Mut (H x))(f:e=x∨H e=some (.own x))(k:∀ b u,b≠e->s.heap.get? b=some u->h'.get? b=some u)(a:∃ u,h'.get? e=some u)(c:ObjOk X.prog X.w (upd H x o) h' x o):Ov X D8 σ (upd H x o) { s with heap:=h',toks:=t' }:=I.un (Un.write d f k a) (I.hok.write d f k a c)
theorem Ov.pins_of(I:Ov X D8 σ H s)(h:∀ p∈pins',s.heap.get? p.1=some p.2/\H p.1=none/\p.1≠X.env.locals/\p.1∉X.fs/\∀ v,p.2.data≠.cell v):Ov X pins' σ H s :=
 ⟨I.ok,I.os,I.bare,I.base,I.loc,I.cell,I.free,I.freeC,λ p a=>(zAa.mp a).elim (λ z=>I.pin p (Kz _ z)) (h p),I.hok,I.len⟩
theorem qae6(c:N.Nodup)(a:N[i]? = some x)(b:N[j]? = some x):i=j:=by
 obtain⟨e,d⟩:=zA4.mp a;obtain⟨f,e2⟩:=zA4.mp b;exact(Mj c).mp (d.trans e2.symm)
theorem qal0(I:Ov X D8 σ H s)(hN:X.N.Nodup)(hi:X.N[i]? = some x)(t:Loc X.env.scope x)(r:Os v u)(h:∀ s',Ov X D8 (σ.set i (some v)) H s'->(∃ a,Heap.SameBut a s.heap s'.heap/\(a=X.env.locals∨X.env.cells.lookup x=some a))->Q () s')(hf:X.fn x=true∨X.env.scope.names.lookup x=some .local:=by first | exact .inl rfl | exact .inr rfl | assumption):Ka M A (storeName X.env x u) Q E s:=by
 obtain⟨m,W,hl⟩:=id I.loc;have K:(X.env.scope.kind == .class||(X.env.scope.kind == .module&&X.env.locals != X.env.globals))=false:=by rw[I.ok.kind];rfl
 have hiσ:i < σ.length:=by rw[I.len];exact(zA4.mp hi).1
 have C:=I.cne;have tracked:∀{a:γ}{J:Heap},(∃ o,s.heap.get? a=some o/\H a=none)->Heap.SameBut a s.heap J->HOk X.prog X.w H J:=λ{a J} ha f b ob e=>by
   obtain⟨_,_,hfree⟩:=ha;refine(I.hok b ob e).stay (λ c S l q=>(f.2 c ?_).trans q) (λ _ q=>q) λ _ _ q=>q
   rintro rfl;rcases l with rfl | l
   . rw[hfree] at e;cases e
   rw[hfree] at l;cases l
 rcases t with B | B
 . refine wpAny_storeName_local B W (λ J Y f=>?_) K
   obtain⟨oL,_,_,Z,_⟩:=id W;refine h _ ⟨I.ok,I.os,I.bare,⟨λ b o e n D t=>?_,λ b o e n D t=>?_,I.base.free,λ b o e t=>?_,I.base.tups,I.base.frzs,I.base.tbls⟩,⟨_,Y,λ j y v' g e2 e3=>?_⟩,λ y c e=>?_,I.free,I.freeC,λ p hp=>?_,tracked ⟨oL,Z,I.free⟩ f,by simpa using I.len⟩ ⟨_,f,.inl rfl⟩
   . exact(f.2 b (zAt (zAg (zA7 e) I.ok.above))).trans (I.base.keep b o e n D t)
   . obtain⟨sl,g⟩:=I.base.slot b o e n D t
     exact⟨sl,(f.2 b (zAt (zAg (zA7 e) I.ok.above))).trans g⟩
   . obtain⟨o',g⟩:=I.base.there b o e t
     exact⟨o',(f.2 b (zAt (zAg (zA7 e) I.ok.above))).trans g⟩
   . by_cases F:j=i
     . subst F
       rw[hi] at g;cases g;rw[zC7 hiσ] at e2;cases e2;exact⟨u,r,.inl ⟨B,by simp⟩⟩
     rw[zBk (Ne.symm F)] at e2;obtain⟨u',r',q⟩:=hl j y v' g e2 e3;refine⟨u',r',?_⟩;rcases q with⟨k,e⟩ | ⟨k,c,e,z⟩
     . refine .inl ⟨k,?_⟩
       have:y≠x:=λ e=>F (qae6 hN g (e ▸ hi))
       simp[this,e]
     exact .inr ⟨k,c,e,z.sameBut f (C y c e)⟩
   . obtain⟨S,z⟩:=I.cell y c e
     exact⟨S,z.sameBut f (C y c e)⟩
   obtain⟨e,n,T,nf,d⟩:=I.pin p hp;exact⟨(f.2 p.1 T).trans e,n,T,nf,d⟩
 have G:X.fn x=true:=by
   rcases hf with z | z
   . exact z
   rw[z] at B;cases B
 obtain⟨c,l⟩:=I.ok.has x (.inl B);obtain⟨S,z⟩:=I.cell x c l;refine wpAny_storeName_cell I.ok.kind B l z (λ J L f=>?_);obtain⟨oc,O,P⟩:=id z;refine h { s with heap:=J } ⟨I.ok,I.os,I.bare,⟨λ b o e n D t=>?_,λ b o e n D t=>?_,I.base.free,λ b o e t=>?_,I.base.tups,I.base.frzs,I.base.tbls⟩,⟨m,W.sameBut f (Ne.symm (C x c l)),λ j y v' g e2 e3=>?_⟩,λ y U e=>?_,I.free,I.freeC,λ p hp=>?_,tracked ⟨oc,O,I.freeC x c l⟩ f,by simpa using I.len⟩ ⟨c,f,.inr l⟩
 . exact(f.2 b (zAt (zAg (zA7 e) (I.ok.cab x c G l)))).trans (I.base.keep b o e n D t)
 . obtain⟨sl,g⟩:=I.base.slot b o e n D t
   exact⟨sl,(f.2 b (zAt (zAg (zA7 e) (I.ok.cab x c G l)))).trans g⟩
 . obtain⟨o',g⟩:=I.base.there b o e t
   exact⟨o',(f.2 b (zAt (zAg (zA7 e) (I.ok.cab x c G l)))).trans g⟩
 . by_cases F:j=i
   . subst F
     rw[hi] at g;cases g;rw[zC7 hiσ] at e2;cases e2;exact⟨u,r,.inr ⟨.inl B,c,l,L⟩⟩
   rw[zBk (Ne.symm F)] at e2;obtain⟨u',r',q⟩:=hl j y v' g e2 e3;refine⟨u',r',?_⟩;rcases q with q | ⟨k,U,e,z'⟩
   . exact .inl q
   refine .inr ⟨k,U,e,z'.sameBut f ?_⟩;rintro rfl;exact F (qae6 hN g (I.ok.inj _ _ _ e l ▸ hi))
 . by_cases R:U=c
   . subst R;exact⟨_,L⟩
   obtain⟨w2,z2⟩:=I.cell y U e;exact⟨w2,z2.sameBut f R⟩
 obtain⟨e,n,T,nf,d⟩:=I.pin p hp;refine⟨(f.2 p.1 ?_).trans e,n,T,nf,d⟩;intro q;rw[q,O] at e;have q':oc=p.2:=Nj e;exact d S (by rw[<- q'];exact P)
theorem qN1(I:Ov X D8 σ H s)(a:X.N.Nodup)(hi:X.N[i]? = some x)(b:Loc X.env.scope x)(r:Os v u)(h:∀ s',Ov X D8 (σ.set i (some v)) H s'->Q () s')(c:X.fn x=true∨X.env.scope.names.lookup x=some .local:=by first | exact .inl rfl | exact .inr rfl | assumption):Ka M A (storeName X.env x u) Q E s :=
 qal0 I a hi b r (λ s' I' _=>h s' I') c
theorem Ov.call'(I:Ov X D8 σ H s)(i:s'.os=s.os)(u:Un (frs X.stack) ch H H' s.heap s'.heap)(a:HOk X.prog X.w H' s'.heap)(j:AllBare s'.gens)(d:∀ b∈ch,(b∈X.ex∨X.s₀.heap.objs.size<=b)/\b≠X.env.locals/\(∀ x c,X.env.cells.lookup x=some c->c≠b)/\∀ p∈X.pn++D8,p.1≠b):Ov X D8 σ H' s':=by
 obtain⟨l,f,g,h,k⟩:=s';have e:k=s.os:=i;subst e;exact I.call (g':=f) (t':=h) (d':=g) u a j d
end
abbrev XK:=V'->Option γ->Hp->Prop
abbrev St:=List (Option V)
abbrev VK:=V->Hp->Prop
abbrev TE:=St->Hp->VK->Prop
abbrev TT:=St->Hp->(Bool->Hp->Prop)->Prop
abbrev TA:=St->Hp->(List V->Hp->Prop)->Prop
structure De where
 nx:St->Hp->Prop
 rt:VK
 bk:St->Hp->Prop:=λ _ _=>False
 ct:St->Hp->Prop:=λ _ _=>False
abbrev TS:=De->St->Hp->Prop
def EP(X:Cx)(D8:List (γ×Obj))(a:St)(Q:VK)(u:V')(s':Sh):Prop:=∃ v H',Ov X D8 a H' s'/\Os v u/\Q v H'
def TP(X:Cx)(D8:List (γ×Obj))(a:St)(Q:Bool->Hp->Prop)(b:Bool)(s':Sh):Prop:=∃ H',Ov X D8 a H' s'/\Q b H'
def AP(X:Cx)(D8:List (γ×Obj))(a:St)(Q:List V->Hp->Prop)(us:List V')(s':Sh):Prop:=∃ vs H',Ov X D8 a H' s'/\Ot vs us/\Q vs H'
def SP(X:Cx)(D8:List (γ×Obj))(D:De)(f:Flow)(s':Sh):Prop :=
 match f with
 | .next=>∃ a' H',Ov X D8 a' H' s'/\D.nx a' H'
 | .brk=>∃ a' H',Ov X D8 a' H' s'/\D.bk a' H'
 | .cont=>∃ a' H',Ov X D8 a' H' s'/\D.ct a' H'
 | .ret u=>∃ v a' H',Ov X D8 a' H' s'/\Os v u/\D.rt v H'
def PE(X:Cx)(e:Kf)(t:TE):Prop :=
 ∀(D8:List (γ×Obj))(s:Sh)(a:St)(H:Hp)(Q:VK),Ov X D8 a H s->t a H Q->Ka (Kb X.prog X.w) X.A (eval e X.env) (EP X D8 a Q) X.xe s
def PT(X:Cx)(e:Kf)(t:TT):Prop :=
 ∀(D8:List (γ×Obj))(s:Sh)(a:St)(H:Hp)(Q:Bool->Hp->Prop),Ov X D8 a H s->t a H Q->Ka (Kb X.prog X.w) X.A (isTrue e X.env (eval e X.env)) (TP X D8 a Q) X.xe s
def PW(X:Cx)(e:Kf)(t:TT):Prop :=
 ∀(whole:Sem V')(D8:List (γ×Obj))(s:Sh)(a:St)(H:Hp)(Q:Bool->Hp->Prop),Ov X D8 a H s->t a H Q->Ka (Kb X.prog X.w) X.A (isTrue e X.env whole) (TP X D8 a Q) X.xe s
theorem PW.pt(h:PW X e t):PT X e t:=h _
def PA(X:Cx)(es:List Kf)(t:TA):Prop :=
 ∀(pos:Pos)(D8:List (γ×Obj))(s:Sh)(a:St)(H:Hp)(Q:List V->Hp->Prop),Ov X D8 a H s->t a H Q->Ka (Kb X.prog X.w) X.A (spliced (backTo pos (Jm es X.env))) (AP X D8 a Q) X.xe s
def PS(X:Cx)(st:Kh)(t:TS):Prop :=
 ∀(D8:List (γ×Obj))(s:Sh)(a:St)(H:Hp)(D:De),Ov X D8 a H s->t D a H->Ka (Kb X.prog X.w) X.A (exec st X.env) (SP X D8 D) X.xe s
def PSs(X:Cx)(st:List Kh)(t:TS):Prop :=
 ∀(D8:List (γ×Obj))(s:Sh)(a:St)(H:Hp)(D:De),Ov X D8 a H s->t D a H->Ka (Kb X.prog X.w) X.A (execs st X.env) (SP X D8 D) X.xe s
theorem thn{α:Type}{t:Sem α}{Q Q':α->Sh->Prop}{A:Kd}{E:V'->Sh->Prop}{s:Sh}(h:Ka M A t Q E s)(b:∀ a s,Q a s->Q' a s):Ka M A t Q' E s:=Jy h b λ _ _ x=>x
section
variable{X:Cx}
def Fm(i:Nat):TE:=λ n H Q=>∃ v,n[i]? = some (some v)/\Q v H
def tC(v:V):TE:=λ _ H Q=>Q v H
theorem qo7(f:X.N[i]? = some x)(g:Vis X.env.scope x)(b:N' x:=by decide)(d:(x == ("__classdict__" : Str))=false:=by decide):PE X (.Name x pos) (Fm i):=by
 intro D8 s n H Q I h;obtain⟨v,e,h⟩:=h;obtain⟨m,j,k⟩:=I.loc;obtain⟨u,r,l⟩:=k i x v f e g;have fin:EP X D8 n Q u s:=⟨v,H,I,r,h⟩
 rcases l with⟨a,hm⟩ | ⟨a,c,hc,hcell⟩
 . exact wpAny_Name (wpAny_loadName_local I.ok.kind a j hm fin) b
 rcases a with a | a
 . exact wpAny_Name (wpAny_loadName_cell I.ok.kind a hc hcell fin) b
 exact wpAny_Name (wpAny_loadName_free I.ok.kind a hc hcell fin d) b
theorem qP7{i j pos}:PE X (.Constant (.int i) j pos) (tC (.int i)):=λ _ _ _ H _ I h=>wpAny_Constant_int ⟨.int i,H,I.tok _,⟨_,rfl⟩,h⟩
theorem pe_bl{b j pos}:PE X (.Constant (.bool b) j pos) (tC (.bl b)):=λ _ _ _ H _ I h=>Constant_bool ⟨.bl b,H,I,rfl,h⟩
theorem qaT7{j pos}:PE X (.Constant .none j pos) (tC .non):=λ _ _ _ H _ I h=>Constant_none ⟨.non,H,I,rfl,h⟩
theorem qaT4{x j pos}:PE X (.Constant (.str x) j pos) (tC (.str x)):=λ _ _ _ H _ I h=>Calls.Constant_str ⟨.str x,H,I.tok _,⟨_,rfl⟩,h⟩
def Gl(X:Cx)(x:Str):Prop:=X.env.kindOf x=some .globalImplicit
theorem qag5{n:St}(I:Ov X D8 n H s)(a:Gl X x)(hm:X.mg x=some u)(h:Q u s)(b:N' x:=by decide):Ka (Kb X.prog X.w) X.A (eval (.Name x pos) X.env) Q E s :=
 Calls.Name_function_global I.ok.kind a (Calls.loadGlobal_global (by rw[I.ok.glob];exact I.mod.glob.keeps I.bk) hm h) b
theorem qJ9{n:St}(I:Ov X D8 n H s)(a:Gl X x)(hm:X.mg x=none)(b:Jr x=some u)(h:Q u s)(c:x ≠ "__name__" := by decide)(d:N' x:=by decide):Ka (Kb X.prog X.w) X.A (eval (.Name x pos) X.env) Q E s:=by
 obtain⟨g,e,f⟩:=I.mod.blt;exact Calls.Name_function_global I.ok.kind a (Calls.loadGlobal_builtin (by rw[I.ok.glob];exact I.mod.glob.keeps I.bk) hm (by rw[I.ok.blt];exact e.keeps I.bk) ((f x c).trans b) h) d
theorem qat6(a:Gl X x)(hm:X.mg x=some u)(r:Os v u)(b:N' x:=by decide):PE X (.Name x pos) (tC v) :=
 λ _ _ _ H _ I h=>qag5 I a hm ⟨v,H,I,r,h⟩ b
theorem qaK5(a:Gl X x)(hm:X.mg x=none)(b:Jr x=some u)(r:Os v u)(c:x ≠ "__name__" := by decide)(d:N' x:=by decide):PE X (.Name x pos) (tC v) :=
 λ _ _ _ H _ I h=>qJ9 I a hm b ⟨v,H,I,r,h⟩ c d
variable{a b:Kf}{o p:TE}{pos:Pos}
def tB(t:TE):TT:=λ n H Q=>t n H λ x H1=>∃ c,x=.bl c/\Q c H1
theorem qaI6(h:PE X e t)(b:∀ whole,isTrue e X.env whole=(do let v <- whole;standAt e.pos;holding [v] (truthy v)):=by intro _;rfl):PT X e (tB t):=by
 intro D8 s n H Q I c;refine isTrue_plain (thn (h D8 s n H _ I c) λ v i a=>?_) (b _);obtain⟨x,H1,I1,f,g⟩:=a;obtain⟨d,rfl,q⟩:=g;cases f;exact Js ⟨H1,I1,q⟩
variable{y tB':TT}{rest:List Kf}
def tAnd(t u:TT):TT:=λ n H Q=>t n H λ c H1=>if c=true then u n H1 Q else Q false H1
def tOr(t u:TT):TT:=λ n H Q=>t n H λ c H1=>if c=true then Q true H1 else u n H1 Q
def tNot(t:TT):TT:=λ n H Q=>t n H λ c H1=>Q (!c) H1
theorem qaI5(b:PT X a y):PW X (.BoolOp .And [a] pos) y:=by
 intro d D8 s n H Q I h;refine isTrue_and (thn (b D8 s n H Q I h) λ c f e=>?_);cases c with
 | true=>exact isTrue_and_nil e
 | false=>exact e
theorem qaS5(b:PT X a y):PW X (.BoolOp .Or [a] pos) y:=by
 intro d D8 s n H Q I h;refine isTrue_or (thn (b D8 s n H Q I h) λ c f e=>?_);cases c with
 | false=>exact isTrue_or_nil e
 | true=>exact e
theorem qaS6(f:PT X a y)(g:PW X (.BoolOp .And (b::rest) pos) tB'):PW X (.BoolOp .And (a::b::rest) pos) (tAnd y tB'):=by
 intro i D8 s n H Q I h;refine isTrue_and (thn (f D8 s n H _ I h) λ c j d=>?_);obtain⟨H1,I1,e⟩:=d;cases c with
 | true=>exact g i D8 j n H1 Q I1 e
 | false=>exact⟨H1,I1,e⟩
theorem pw_or(f:PT X a y)(g:PW X (.BoolOp .Or (b::rest) pos) tB'):PW X (.BoolOp .Or (a::b::rest) pos) (tOr y tB'):=by
 intro i D8 s n H Q I h;refine isTrue_or (thn (f D8 s n H _ I h) λ c j d=>?_);obtain⟨H1,I1,e⟩:=d;cases c with
 | true=>exact⟨H1,I1,e⟩
 | false=>exact g i D8 j n H1 Q I1 e
theorem qaS7(b:PT X a y):PT X (.UnaryOp .Not a pos) (tNot y):=by
 intro D8 s n H Q I h;exact isTrue_not (b D8 s n H (λ c H1=>Q (!c) H1) I h)
def tAndV(o p:TE):TE:=λ n H Q=>o n H λ x H1=>∃ c,x=.bl c/\if c=true then p n H1 Q else Q (.bl false) H1
def tOrV(o p:TE):TE:=λ n H Q=>o n H λ x H1=>∃ c,x=.bl c/\if c=true then Q (.bl true) H1 else p n H1 Q
def tNotV(o:TE):TE:=λ n H Q=>o n H λ x H1=>∃ c,x=.bl c/\Q (.bl (!c)) H1
theorem qaK1{op}(h:PE X a t):PE X (.BoolOp op [a] pos) t:=λ D8 s n H Q I b=>BoolOp_one (h D8 s n H Q I b)
theorem qaK6(f:PE X a o)(g:PE X (.BoolOp .And (b::rest) pos) p):PE X (.BoolOp .And (a::b::rest) pos) (tAndV o p):=by
 intro D8 s n H Q I h;refine BoolOp_and (thn (f D8 s n H _ I h) λ v i e=>?_);obtain⟨x,H1,I1,j,d⟩:=e;obtain⟨c,rfl,d⟩:=d;cases j;refine Js ?_;cases c with
 | true=>exact g D8 i n H1 Q I1 d
 | false=>exact⟨.bl false,H1,I1,rfl,d⟩
theorem pe_or(f:PE X a o)(g:PE X (.BoolOp .Or (b::rest) pos) p):PE X (.BoolOp .Or (a::b::rest) pos) (tOrV o p):=by
 intro D8 s n H Q I h;refine BoolOp_or (thn (f D8 s n H _ I h) λ v i e=>?_);obtain⟨x,H1,I1,j,d⟩:=e;obtain⟨c,rfl,d⟩:=d;cases j;refine Js ?_;cases c with
 | false=>exact g D8 i n H1 Q I1 d
 | true=>exact⟨.bl true,H1,I1,rfl,d⟩
theorem qaT6(e:PE X a o):PE X (.UnaryOp .Not a pos) (tNotV o):=by
 intro D8 s n H Q I h;refine UnaryOp_ (thn (e D8 s n H _ I h) λ v g b=>?_);obtain⟨x,H1,I1,f,d⟩:=b;obtain⟨c,rfl,d⟩:=d;cases f;exact not_of (Js ⟨.bl (!c),H1,I1,rfl,d⟩)
def tIf(t:TT)(o p:TE):TE:=λ n H Q=>t n H λ c H1=>if c=true then o n H1 Q else p n H1 Q
theorem qaz4(i:PT X c y)(j:PE X a o)(k:PE X b p):PE X (.IfExp c a b pos) (tIf y o p):=by
 intro D8 s n H Q I h;refine wpAny_IfExp (thn (i D8 s n H _ I h) λ d f e=>?_);obtain⟨H1,I1,g⟩:=e;cases d with
 | true=>exact j D8 f n H1 Q I1 g
 | false=>exact k D8 f n H1 Q I1 g
end
def SqL(K:Nl)(H:Hp)(a:γ)(xs:List V):Prop :=
 Rd H a (.l xs) ∨
   ∃(o:Obj)(its:Array V')(n:Nat),K.lookup a=some o/\o.cls=.type "list" /\ o.dict=none/\o.data=.seq its n/\its.size<=Jn/\Ot xs its.toList
def SqT(K:Nl)(H:Hp)(a:γ)(xs:List V):Prop :=
 Rd H a (.q xs) ∨
   ∃(o:Obj)(its:Array V')(n:Nat),K.lookup a=some o/\o.cls=.type "tuple" /\ o.data=.seq its n/\its.size<=Jn/\Ot xs its.toList
noncomputable def absV:V'->Option V
 | .none=>some .non
 | .bool b=>some (.bl b)
 | .int i _=>some (.int i)
 | .str x _=>some (.str x)
 | .bytes b _=>some (.byt b)
 | .float b _=>some (.flt b)
 | .ref a=>some (.ref a)
 | .type n=>some (.ty n)
 | _=>none
theorem Os.abs(r:Os x u):absV u=some x:=by
 cases x with
 | non=>cases r;rfl
 | bl _=>cases r;rfl
 | int _=>obtain⟨t,rfl⟩:=r;rfl
 | str _=>obtain⟨t,rfl⟩:=r;rfl
 | byt _=>obtain⟨t,rfl⟩:=r;rfl
 | flt _=>obtain⟨t,rfl⟩:=r;rfl
 | ref _=>cases r;rfl
 | ty _=>cases r;rfl
theorem Os.inj(r:Os x u)(q:Os y u):x=y:=Nj (r.abs.symm.trans q.abs)
theorem Ot.inj(h:Ot xs us)(g:Ot ys us):xs=ys:=by
 induction h generalizing ys with
 | nil=>cases g;rfl
 | cons r t i=>cases g with | cons q u=>rw[r.inj q,i u]
section
variable{X:Cx}{q:List (γ×Obj)}{m:St}{H:Hp}{s:Sh}{a:γ}{xs ys:List V}
theorem SqL.of{K:Nl}(h:H a=some (.l xs)):SqL K H a xs:=.inl (.inl h)
theorem Ov.list(I:Ov X q m H s)(h:SqL X.K H a xs):∃ its:List V',Ot xs its/\PlainL s.heap a its.toArray/\xs.length<=Jn:=by
 rcases h with h | ⟨o,its,n,b,c,d,f,g,r⟩
 . obtain⟨z,its,n,r,e⟩:=h.ok I.hok
   exact⟨its,r,⟨_,n,e,rfl,rfl,rfl⟩,z⟩
 refine⟨its.toList,r,⟨o,n,I.kIn a o b,c,d,by simpa using f⟩,?_⟩;have e:=r.length;simp only[zB7] at e;lia
theorem Ov.tuple(I:Ov X q m H s)(h:SqT X.K H a xs):∃ its:List V',Ot xs its/\IsTup s.heap a its.toArray/\xs.length<=Jn:=by
 rcases h with h | ⟨o,its,n,b,c,d,f,r⟩
 . obtain⟨z,its,r,p⟩:=h.ok I.hok
   exact⟨its,r,p,z⟩
 refine⟨its.toList,r,⟨o,I.kIn a o b,c,n,by simpa using d⟩,?_⟩;have e:=r.length;simp only[zB7] at e;lia
theorem Ov.list_inj(I:Ov X q m H s)(h:SqL X.K H a xs)(h':SqL X.K H a ys):xs=ys:=by
 obtain⟨b,r,⟨o,n,e,_,_,d⟩,_⟩:=I.list h;obtain⟨its',g,⟨j,k,c,_,_,f⟩,_⟩:=I.list h';rw[e] at c;cases c;rw[d] at f;injection f with i _
 have:b=its':=by simpa using congrArg Array.toList i
 subst this;exact r.inj g
end
noncomputable abbrev Cx.wish(X:Cx)(E:V'->Sh->Prop):Cx:={ X with xe:=E }
abbrev Cx.nox(X:Cx):Cx:=X.wish λ _ _=>False
theorem Cx.Ok.wish{X:Cx}(a:X.Ok)(E:V'->Sh->Prop):(X.wish E).Ok :=
 ⟨a.mod,a.kind,a.glob,a.blt,a.above,a.inj,a.has,a.cab,a.hd,a.frames,a.stk,a.exf,a.bs,a.bsz,a.noex,a.exfs,a.funs,a.frf⟩
theorem Cx.Ok.unwish{X:Cx}(a:(X.wish E).Ok):X.Ok :=
 ⟨a.mod,a.kind,a.glob,a.blt,a.above,a.inj,a.has,a.cab,a.hd,a.frames,a.stk,a.exf,a.bs,a.bsz,a.noex,a.exfs,a.funs,a.frf⟩
section
variable{X:Cx}{c:List (γ×Obj)}{b:St}{H:Hp}{s:Sh}{E:V'->Sh->Prop}
theorem Ov.wish(I:Ov X c b H s)(E:V'->Sh->Prop):Ov (X.wish E) c b H s:=⟨I.ok.wish E,I.os,I.bare,I.base,I.loc,I.cell,I.free,I.freeC,I.pin,I.hok,I.len⟩
theorem Ov.unwish(I:Ov (X.wish E) c b H s):Ov X c b H s:=⟨I.ok.unwish,I.os,I.bare,I.base,I.loc,I.cell,I.free,I.freeC,I.pin,I.hok,I.len⟩
theorem SP.unwish(h:SP (X.wish E) c D f s'):SP X c D f s':=by
 cases f with
 | next=>obtain⟨b',H',I,q⟩:=h;exact⟨b',H',I.unwish,q⟩
 | brk=>obtain⟨b',H',I,q⟩:=h;exact⟨b',H',I.unwish,q⟩
 | cont=>obtain⟨b',H',I,q⟩:=h;exact⟨b',H',I.unwish,q⟩
 | ret u=>obtain⟨v,b',H',I,r,q⟩:=h;exact⟨v,b',H',I.unwish,r,q⟩
theorem PSs.nox{st:List Kh}(h:PSs X.nox st t):PSs X st t:=λ c s b H D I a =>
 Jy (h c s b H D (I.wish _) a) (λ _ _ q=>q.unwish) λ _ _ z=>Oi z
end
section
variable{X:Cx}{n:Kh}{rest:List Kh}{t u:TS}{e:Kf}{te:TE}{m:Pos}
def tNext:TS:=λ D l H=>D.nx l H
def tSeq(t u:TS):TS:=λ D l H=>t { D with nx:=u D } l H
theorem qaI8:PSs X [] tNext:=λ _ _ l H _ I h=>wpAny_execs_nil ⟨l,H,I,h⟩
theorem qad0(h1:PS X n t)(h2:PSs X rest u):PSs X (n::rest) (tSeq t u):=by
 intro D8 s l H D I h;refine wpAny_execs_cons (thn (h1 D8 s l H { D with nx:=u D } I h) λ f a q=>?_);cases f with
 | next =>
   obtain⟨l',H',I',q⟩:=q;exact h2 D8 a l' H' D I' q
 | ret v=>exact q
 | brk=>exact q
 | cont=>exact q
theorem qat1(h1:PS X n t):PSs X [n] t:=by
 intro D8 s l H D I h;refine wpAny_execs_cons (thn (h1 D8 s l H D I h) λ f a q=>?_);cases f with
 | next=>exact wpAny_execs_nil q
 | ret v=>exact q
 | brk=>exact q
 | cont=>exact q
theorem Ov.quiet(I:Ov X D8 l H s):interactive X.env=false:=by simp[interactive,I.ok.kind]
def tDrop(te:TE):TS:=λ D l H=>te l H λ _ H1=>D.nx l H1
theorem qaJ1(a:PE X e te)(b:swapsWith e none m.line X.env=pure false:=by rfl):PS X (.Expr e m) (tDrop te):=by
 intro D8 s l H D I h;exact wpAny_Expr_any (thn (a D8 s l H _ I h) λ v d ⟨x,H1,I1,f,c⟩=>⟨l,H1,I1,c⟩) I.quiet b
def tRet(te:TE):TS:=λ D l H=>te l H D.rt
theorem qaJ0(a:PE X e te):PS X (.Return (some e) m) (tRet te):=by
 intro D8 s l H D I h;exact wpAny_Return_some (thn (a D8 s l H _ I h) λ v d ⟨x,H1,I1,b,c⟩=>⟨x,l,H1,I1,b,c⟩)
def tIfS(c:TT)(t u:TS):TS:=λ D l H=>c l H λ b H1=>if b=true then t D l H1 else u D l H1
theorem ps_if(i:PT X c tc)(j:PSs X a t)(k:PSs X b u):PS X (.If c a b m) (tIfS tc t u):=by
 intro D8 s l H D I h;refine wpAny_If (thn (i D8 s l H _ I h) λ d f e=>?_);obtain⟨H1,I1,g⟩:=e;cases d with
 | true=>exact j D8 f l H1 D I1 g
 | false=>exact k D8 f l H1 D I1 g
end
abbrev TG:=V->St->Hp->(St->Hp->Prop)->Prop
abbrev TGs:=List V->St->Hp->(St->Hp->Prop)->Prop
def PG(X:Cx)(target:Kf)(t:TG):Prop :=
 ∀(D8:List (γ×Obj))(s:Sh)(a:St)(H:Hp)(v:V)(u:V')(Q:St->Hp->Prop),Ov X D8 a H s->Os v u->t v a H Q ->
   Ka (Kb X.prog X.w) X.A (assign target X.env u) (λ _ s'=>∃ a' H',Ov X D8 a' H' s'/\Q a' H') X.xe s
def PGs(X:Cx)(a:List Kf)(t:TGs):Prop :=
 ∀(D8:List (γ×Obj))(s:Sh)(b:St)(H:Hp)(vs:List V)(us:List V')(Q:St->Hp->Prop),Ov X D8 b H s->Ot vs us->t vs b H Q ->
   Ka (Kb X.prog X.w) X.A (assignInOrder ((J2 a X.env).map (·.2)) us) (λ _ s'=>∃ b' H',Ov X D8 b' H' s'/\Q b' H') X.xe s
abbrev Hv:=V->V->V->Hp->(Hp->Prop)->Prop
def PSet(X:Cx)(t:Hv):Prop :=
 ∀(D8:List (γ×Obj))(s:Sh)(a:St)(H:Hp)(o i v:V)(ov iv u:V')(Q:Hp->Prop),Ov X D8 a H s->Os o ov->Os i iv->Os v u->t o i v H Q ->
   Ka (Kb X.prog X.w) X.A (setItem ov iv u) (λ _ s'=>∃ H',Ov X D8 a H' s'/\Q H') X.xe s
abbrev TIp:=V->V->Hp->VK->Prop
def PIp(X:Cx)(op:Operator)(t:TIp):Prop :=
 ∀(D8:List (γ×Obj))(s:Sh)(a:St)(H:Hp)(x y:V)(v u:V')(Q:VK),Ov X D8 a H s->Os x v->Os y u->t x y H Q ->
   Ka (Kb X.prog X.w) X.A (inplaceOp op v u) (EP X D8 a Q) X.xe s
section
variable{X:Cx}{pos:Pos}
def Ew(i:Nat):TG:=λ v R H Q=>Q (R.set i (some v)) H
theorem qat4(a:X.N.Nodup)(hi:X.N[i]? = some x)(b:Loc X.env.scope x)(c:X.fn x=true∨X.env.scope.names.lookup x=some .local:=by first | exact .inl rfl | exact .inr rfl | assumption):PG X (.Name x pos) (Ew i):=by
 intro D8 s R H v u Q I r h;exact wpAny_assign_Name (qN1 I a hi b r (λ d I'=>⟨_,H,I',h⟩) c)
def gNil:TGs:=λ vs R H Q=>vs=[]/\Q R H
def gCons(t:TG)(u:TGs):TGs:=λ vs R H Q=>∃ v r,vs=v::r/\t v R H λ R' H'=>u r R' H' Q
theorem qaJ7:PGs X [] gNil:=by
 intro D8 s R H a b Q I r h;obtain⟨e,h⟩:=h;subst e;cases r;exact assignInOrder_nil ⟨R,H,I,h⟩
theorem qaz2(h1:PG X e t)(h2:PGs X es u)(b:(J2 (e::es) X.env).map (·.2)=assign e X.env::(J2 es X.env).map (·.2):=by rfl):PGs X (e::es) (gCons t u):=by
 intro D8 s R H i j Q I r h;obtain⟨v,k,c,h⟩:=h;subst c;cases r with
 | cons r d =>
   rw[b];refine assignInOrder_cons (thn (h1 D8 s R H _ _ _ I r h) λ _ f a=>?_);obtain⟨σ1,H1,I1,g⟩:=a;exact h2 D8 f σ1 H1 _ _ Q I1 d g
def gTup(K:Nl)(n:Nat)(t:TGs):TG:=λ v R H Q=>∃ a xs,v=.ref a/\SqT K H a xs/\xs.length=n/\t xs R H Q
theorem qaT1(g:X.calm=true)(h:PGs X es t)(i:(J2 es X.env).length=n:=by rfl)(c:(J2 es X.env).findIdx? (·.1)=none:=by rfl):PG X (.Tuple es k pos) (gTup X.K n t):=by
 intro D8 s R H v u Q I r d;obtain⟨a,j,l,m,p,d⟩:=d;subst l;cases r;obtain⟨q,f,w,z⟩:=I.tuple m;refine assign_Tuple_tuple (I.ok.hd g) w (by simp[i,<- p,f.length]) c λ x y=>?_
 have I1:Ov X D8 R H { s with heap:=x }:=I.kept (t':=s.toks) λ b o e=>y b o (zAt (zA7 e)) e
 exact h D8 _ R H j _ Q I1 (by simpa using f) d
def gSub(to a:TE)(t:Hv):TG:=λ v R H Q=>to R H λ o H1=>a R H1 λ i H2=>t o i v H2 λ H3=>Q R H3
theorem qaT2{o i:Kf}{to b:TE}{t:Hv}(c:PE X o to)(hi:PE X i b)(d:PSet X t)(e:∀ v,assign (.Subscript o i pos) X.env v=(do
     let ov <- holding [v] (eval o X.env)
     let iv <- holding [v,ov] (eval i X.env)
     standAt pos
     holding [v,ov,iv] (setItem ov iv v)
     release [v,ov,iv] []):=by intro _;rfl):PG X (.Subscript o i pos) (gSub to b t):=by
 intro D8 s R H v u Q I r h;rw[e];refine E' (Jq (thn (c D8 s R H _ I h) λ ov f a=>?_));obtain⟨x,H1,I1,g,j⟩:=a;refine E' (Jq (thn (hi D8 f R H1 _ I1 j) λ iv k a=>?_));obtain⟨y,H2,I2,l,q2⟩:=a;refine E' (wpAny_standAt (E' (Jq (thn (d D8 k R H2 x y v ov iv u _ I2 g l r q2) λ _ n a=>?_))));obtain⟨H3,I3,m⟩:=a;exact wpAny_release ⟨R,H3,I3,m⟩
def Hj(te:TE)(g:TG):TS:=λ D R H=>te R H λ x H1=>g x R H1 D.nx
theorem qaS9(b:PE X e te)(c:PG X tg g)(d:swapsWithSole [tg] e pos.line X.env=pure false:=by rfl)(f:swappedStores [tg] e X.env=pure none:=by rfl)(h1:(J2 [tg] X.env).map (·.2)=[assign tg X.env]:=by rfl):PS X (.Assign [tg] e pos) (Hj te g):=by
 intro D8 s R H D I h;refine wpAny_Assign_stores (thn (b D8 s R H _ I h) λ v i a=>?_) d f;obtain⟨x,H1,I1,j,k⟩:=a;rw[h1];exact thn (c D8 i R H1 x v _ I1 j k) λ _ l q=>q
theorem qaI9(b:X.N.Nodup)(hi:X.N[i]? = some x)(c:Loc X.env.scope x)(d:PE X e te)(f:swapsWith e (some (.Name x pos')) pos.line X.env=pure false:=by rfl)(g:X.fn x=true∨X.env.scope.names.lookup x=some .local:=by first | exact .inl rfl | exact .inr rfl | assumption) :
   PS X (.Assign [.Name x pos'] e pos) (Hj te (Ew i)):=by
 intro D8 s R H D I h;refine wpAny_Assign_Name (thn (d D8 s R H _ I h) λ v l a=>?_) f;obtain⟨y,H1,I1,j,k⟩:=a;exact qN1 I1 b hi c j (λ m I2=>⟨_,H1,I2,k⟩) g
def tAugS(to b te:TE)(tget:V->V->Hp->VK->Prop)(a:TIp)(tset:Hv):TS:=λ D R H=>to R H λ o H1=>b R H1 λ i H2=>tget o i H2 λ x H3=>te R H3 λ y H4=>a x y H4 λ z H5=>tset o i z H5 λ H6=>D.nx R H6
def PGet(X:Cx)(t:V->V->Hp->VK->Prop):Prop :=
 ∀(D8:List (γ×Obj))(s:Sh)(R:St)(H:Hp)(o i:V)(ov iv:V')(Q:VK),Ov X D8 R H s->Os o ov->Os i iv->t o i H Q ->
   Ka (Kb X.prog X.w) X.A (getItem ov iv) (EP X D8 R Q) X.xe s
theorem qaJ2{i:Kf}{op:Operator}(p:PE X o to)(hi:PE X i j)(q:PGet X tget)(r:PE X e te)(t:PIp X op f)(u:PSet X tset)(w:∀ c d b,augStore i c d b=(do holding [b,c,d] (setItem c d b);release [b,c,d] [];pure .next):=by intros;rfl):PS X (.AugAssign (.Subscript o i tpos) op e pos) (tAugS to j te tget f tset):=by
 intro D8 s R H D I h;refine wpAny_AugAssign_SubscriptAny (thn (p D8 s R H _ I h) λ c x a=>?_) w;obtain⟨k,H1,I1,l,y⟩:=a;refine thn (hi D8 x R H1 _ I1 y) λ d z a=>?_
 obtain⟨m,H2,I2,n,q2⟩:=a;refine thn (q D8 z R H2 k m c d _ I2 l n q2) λ g A a=>?_
 obtain⟨B,H3,I3,C,E⟩:=a;refine thn (r D8 A R H3 _ I3 E) λ v F a=>?_
 obtain⟨G,H4,I4,J,K⟩:=a;refine thn (t D8 F R H4 B G g v _ I4 C J K) λ b L a=>?_
 obtain⟨M,H5,I5,N,O⟩:=a;exact thn (u D8 L R H5 k m M c d b _ I5 l n N O) λ _ Q ⟨H6,I6,P⟩=>⟨R,H6,I6,P⟩
def ipI(f:Int->Int->Int):TIp:=λ x y H Q=>∃ i j,x=.int i/\y=.int j/\Q (.int (f i j)) H
theorem qaW9:PIp X .Add (ipI λ i j=>i+j):=by
 intro D8 s R H x y v u Q I a b h;obtain⟨i,j,c,e2,q⟩:=h;subst c;subst e2;obtain⟨t,rfl⟩:=a;obtain⟨d,rfl⟩:=b;exact iadd_int ⟨.int _,H,I.tok _,⟨_,rfl⟩,q⟩
end
section
variable{X:Cx}{B:Pos}
def qaR9(c:TT)(tb:TS):TS:=λ D z H=>∃ W:Nat->St->Hp->Prop,(∃ m,W m z H)/\∀ m z H,W m z H ->
 c z H λ b H1=>if b=true then ∃ N:St->Hp->Prop,(∀ z' H',N z' H'->∃ a,a < m/\W a z' H')/\tb { D with nx:=N,ct:=N,bk:=D.nx } z H1 else D.nx z H1
theorem qay8(k:PassesOwn (Kb X.prog X.w) X.A X.env X.xe)(m:PT X c tc)(o:PSs X body tb):PS X (.While c body [] B) (qaR9 tc tb):=by
 intro D8 s z H D I h;obtain⟨W,⟨p,q⟩,turn⟩:=h;refine wpAny_While (codeAny_whileLoop (λ n r=>∃ z' H',Ov X D8 z' H' r/\W n z' H') ?_ p ⟨z,H,I,q⟩);rintro n t ⟨σ1,H1,I1,u⟩;refine J0 k (thn (m D8 t σ1 H1 _ I1 (turn n σ1 H1 u)) λ b x d=>?_);obtain⟨H2,I2,q2⟩:=d;cases b with
 | true =>
   obtain⟨N,l,q2⟩:=q2;rw[if_pos rfl];refine J0 k (thn (o D8 x σ1 H2 _ I2 q2) λ f y a=>?_);cases f with
   | next =>
     obtain⟨σ3,H3,I3,e⟩:=a;obtain⟨g,i,j⟩:=l σ3 H3 e;exact⟨g,i,σ3,H3,I3,j⟩
   | cont =>
     obtain⟨σ3,H3,I3,e⟩:=a;obtain⟨g,i,j⟩:=l σ3 H3 e;exact⟨g,i,σ3,H3,I3,j⟩
   | brk=>exact a
   | ret v=>exact a
 | false =>
   rw[if_neg zAq];exact wpAny_execs_nil ⟨σ1,H2,I2,q2⟩
end
structure It where
 go:Nat->Hp->Prop
 yld:Nat->Hp->V->Hp->Prop
 stop:Nat->Hp->Prop
def Fn(X:Cx)(D8:List (γ×Obj))(H:Hp)(b:γ):Prop :=
 H b=none/\b≠X.env.locals/\b∉X.fs/\(b∈X.ex∨X.s₀.heap.objs.size<=b)/\(∀ x c,X.env.cells.lookup x=some c->c≠b)/\∀ p∈X.pn++D8,p.1≠b
theorem Ov.fpOk(I:Ov X D8 g H s)(a:s.heap.objs.size<=b)(d:H' b=none):Fn X D8 H' b:=by
 refine⟨d,zCs (zAg I.lt a),I.nofs a,.inr (zAk I.sz a),λ x c e z=>?_,λ p f z=>?_⟩
 . obtain⟨v,q⟩:=I.cell x c e
   exact absurd (zAg q.lt (by rw[z];exact a)) (zCf _)
 exact absurd (zAg (zA7 (I.pin p f).1) (by rw[z];exact a)) (zCf _)
structure Gk(P:Kc)(w:Ke)(K:Nl)(tg:Kf)(J:It)(fp:List γ)(it:γ)(tn:Nat->Heap->Prop):Prop where
 mem:it∈fp
 obj:∀ i h,tn i h->∀ b∈fp,∃ o,h.get? b=some o/\∀ v,o.data≠.cell v
 keep:∀ i h h',tn i h->(∀ b∈fp,∀ o,h.get? b=some o->h'.get? b=some o)->tn i h'
 item:∀(X:Cx),X.prog=P->X.w=w->X.K=K->X.calm=true->∀(i:Nat)(D8:List (γ×Obj))(s:Sh)(a:St)(H:Hp)(E:V'->Sh->Prop),Ov X D8 a H s->(∀ b∈fp,Fn X D8 H b)->tn i s.heap->J.go i H ->
   Ka (Kb P w) X.A (pyNext (.ref it)) (λ r s1=>∃ u,r=some u /\
     Ka (Kb P w) X.A (letOwnedTupleGo tg (.ref it) u) (λ _ s2=>∃ x H',Ov X D8 a H' s2/\Os x u/\J.yld i H x H'/\tn (i+1) s2.heap/\∀ b∈fp,H' b=none) E s1) E s
 done:∀(X:Cx),X.prog=P->X.w=w->X.K=K->X.calm=true->∀(i:Nat)(D8:List (γ×Obj))(s:Sh)(a:St)(H:Hp)(E:V'->Sh->Prop),Ov X D8 a H s->(∀ b∈fp,Fn X D8 H b)->tn i s.heap->J.stop i H ->
   Ka (Kb P w) X.A (pyNext (.ref it)) (λ r s1=>r=none/\Ov X D8 a H s1) E s
 self:∀(A:Kd)(i:Nat)(s:Sh)(Q:V'->Sh->Prop)(E:V'->Sh->Prop),tn i s.heap->Q (.ref it) s->Ka (Kb P w) A (pyIter (.ref it)) Q E s
abbrev TI:=St->Hp->(It->Hp->Prop)->Prop
def PIE(X:Cx)(D8:List (γ×Obj))(c:St)(tg:Kf)(R:It->Hp->Prop)(a:V')(s2:Sh):Prop :=
 ∃(it:γ)(fp:List γ)(tn:Nat->Heap->Prop)(J:It)(H':Hp),a=.ref it/\Ov X D8 c H' s2/\Gk X.prog X.w X.K tg J fp it tn/\tn 0 s2.heap/\(∀ b∈fp,Fn X D8 H' b)/\R J H'
def PI(X:Cx)(tg iter:Kf)(wi:TI):Prop :=
 ∀(D8:List (γ×Obj))(s:Sh)(b:St)(H:Hp)(R:It->Hp->Prop),Ov X D8 b H s->wi b H R ->
   Ka (Kb X.prog X.w) X.A (eval iter X.env) (λ v a=>Ka (Kb X.prog X.w) X.A (pyIter v) (PIE X D8 b tg R) X.xe a) X.xe s
theorem Hw{n:String}(b:s.heap.get? it=some o)(c:o.cls=.type n)(d:o.data=.fields vs)(e:["enumerate", "zip", "dict_itemiterator", "dict_reverseitemiterator", "odict_iterator", "itertools.zip_longest", "itertools.pairwise"].contains n=false)(a:Q () s):Ka M A (letOwnedTupleGo tg (.ref it) u) Q E s:=by
 unfold letOwnedTupleGo;cases tg<;>first
   | exact G' a
   | (cases u<;>first
       | exact G' a
       | (refine E' (wpAny_load b ?_)
          rw[c,d];show Ka M A (if (["enumerate", "zip", "dict_itemiterator", "dict_reverseitemiterator", "odict_iterator", "itertools.zip_longest", "itertools.pairwise"].contains n&&vs[0]? == some (rawInt _))=true then _ else _) Q E s;rw[if_neg (by intro h;rw[e,Bool.false_and] at h;cases h)];exact G' a))
noncomputable def Itl(K:Nl)(a:γ):It :=
 ⟨λ i H=>∃ xs x,SqL K H a xs/\xs[i]? = some x,λ i H x H'=>H'=H/\∀ xs,SqL K H a xs->xs[i]? = some x,λ i H=>∃ xs,SqL K H a xs/\xs.length<=i⟩
noncomputable def Itr(lo:Int)(n:Nat):It:=⟨λ i _=>i < n,λ i H x H'=>H'=H/\x=.int (lo+i),λ i _=>n<=i⟩
theorem qak6{P:Kc}{w:Ke}{K:Nl}{tg:Kf}(a it:γ):Gk P w K tg (Itl K a) [it] it (λ i h=>h.IsListIter it a i) where
 mem:=by simp
 obj:=λ i h f b g=>by
   have e:b=it:=by simpa using g
   subst e;obtain⟨o,e,c,d⟩:=f;exact⟨o,e,λ v z=>by rw[d] at z;cases z⟩
 keep:=λ i h l f k=>f.at λ o e=>k it (by simp) o e
 item:=by
   intro X q r t J i D8 s R H E I m f y;subst q r t;obtain⟨L,x,n,A⟩:=y;obtain⟨B,C,p,M⟩:=I.list n;obtain⟨u,N,O⟩:=C.get A;obtain⟨D,f1,f2,f3,F,G⟩:=m it (by simp);refine wpAny_pyNext_list_item f p.isList (x:=u) (by simpa using N) λ l j Q=>?_
   have I1:Ov X D8 R H { s with heap:=l }:=I.turned (t':=s.toks) (λ b o g e=>(Q.2 b g).trans e) D f1 f3 F G;obtain⟨o,e,c,d⟩:=id j;exact⟨u,rfl,Hw (s:={ s with heap:=l }) e c d (by decide) ⟨x,H,I1,O,⟨rfl,λ U S=>by rw[I.list_inj S n];exact A⟩,j,λ b g=>(m b g).1⟩⟩
 done:=by
   intro X q r t J i D8 s R H E I m f y;subst q r t;obtain⟨L,n,A⟩:=y;obtain⟨B,C,p,M⟩:=I.list n;obtain⟨D,f1,f2,f3,F,G⟩:=m it (by simp);have V:=C.length;exact wpAny_pyNext_list_end (I.ok.hd J) f p.isList (by simp;lia) λ l T=>⟨rfl,I.turned (t':=s.toks) (λ b o g e=>T b o g e) D f1 f3 F G⟩
 self:=λ _ _ _ _ _ f h=>wpAny_pyIter_listiter f h
theorem qaa6{P:Kc}{w:Ke}{K:Nl}{tg:Kf}(it:γ)(lo:Int)(n:Nat):Gk P w K tg (Itr lo n) [it] it (λ i h=>IsRangeIter h it (lo+(i:Nat) * 1) ((n:Int) - (i:Nat)) 1) where
 mem:=by simp
 obj:=λ i h a b c=>by
   have e:b=it:=by simpa using c
   subst e;exact⟨_,a,λ v z=>by
     have A:Data.fields _=Data.cell v:=z;cases A⟩
 keep:=λ i h f a k=>k it (by simp) _ a
 item:=by
   intro X j l m p i D8 s F H E I g a q;subst j l m;obtain⟨r,f1,f2,f3,u,x⟩:=g it (by simp);have W:=Walks.range (prog:=X.prog) (w:=X.w) (I.ok.hd p) it lo 1 n;refine W.item i s _ _ q a λ v f y B d C=>?_
   obtain⟨t,rfl⟩:=B;have I1:Ov X D8 F H { s with heap:=f,toks:=y }:=I.turned (λ b o c e=>C b o (by simpa using c) e) r f1 f3 u x;refine⟨_,rfl,Hw (s:={ s with heap:=f,toks:=y }) (n := "range_iterator") d rfl rfl (by decide) ⟨.int (lo+i),H,I1,⟨t,?_⟩,⟨rfl,rfl⟩,d,λ b c=>(g b c).1⟩⟩;rw[Int.mul_one]
 done:=by
   intro X j l m p i D8 s F H E I g a q;subst j l m;obtain⟨r,f1,f2,f3,u,x⟩:=g it (by simp);exact wpAny_pyNext_range_end (I.ok.hd p) a (by have:n<=i:=q;lia) λ f D=>⟨rfl,I.turned (t':=s.toks) (λ b o c e=>D b o c e) r f1 f3 u x⟩
 self:=λ _ _ _ _ _ a h=>wpAny_pyIter_rangeiter a h
section
variable{X:Cx}{tg:Kf}
def G0(K:Nl)(tl:TE):TI:=λ σ H R=>tl σ H λ x H1=>∃ a,x=.ref a/\(∃ xs,SqL K H1 a xs)/\R (Itl K a) H1
theorem qu4(f:PE X l tl):PI X tg l (G0 X.K tl):=by
 intro D8 s σ H R I h;refine thn (f D8 s σ H _ I h) λ v c d=>?_
 obtain⟨x,H1,I1,g,i⟩:=d;obtain⟨a,e,⟨n,j⟩,q⟩:=i;subst e;cases g;obtain⟨k,r,p,t⟩:=I1.list j;refine wpAny_pyIter_list p.isList ?_;refine⟨c.heap.objs.size,[c.heap.objs.size],_,_,H1,rfl,I1.kept (t':=c.toks) λ b o e=>zA2 _ e,qak6 a _,⟨_,zAo _ rfl,rfl,rfl⟩,λ b m=>?_,q⟩;have e:b=c.heap.objs.size:=by simpa using m
 subst e;exact I1.fpOk (zA3 _) (I1.hok.fresh (zA3 _))
theorem qay7{lo:Int}(I:Ov X D8 σ H s)(h1:-(2 ^ 62)<=lo)(h2:lo < 2 ^ 62)(c:-(2 ^ 62)<=hi)(d:hi < 2 ^ 62)(q:R (Itr lo (hi - lo).toNat) H):Ka (Kb X.prog X.w) X.A (pyIter (.ref s.heap.objs.size)) (PIE X D8 σ tg R) E { s with heap:=s.heap.push { cls:=.type "range",data:=.fields #[.int lo t,.int hi u,.int 1 v] },toks:=a }:=by
 refine wpAny_pyIter_range (IsRange.new ..) (small_one h1 h2 c d) ?_;have I1:Ov X D8 σ H { s with heap:=s.heap.push { cls:=.type "range",data:=.fields #[.int lo t,.int hi u,.int 1 v] },toks:=a }:=I.kept λ b o e=>zA2 _ e
 refine⟨(s.heap.push { cls:=.type "range",data:=.fields #[.int lo t,.int hi u,.int 1 v] }).objs.size,[(s.heap.push { cls:=.type "range",data:=.fields #[.int lo t,.int hi u,.int 1 v] }).objs.size],_,_,H,rfl,
   I1.kept (t':=a) λ b o e=>zA2 _ e,qaa6 _ lo (hi - lo).toNat,?_,λ b f=>?_,q⟩
 . have g:lo+((0:Nat):Int) * 1=lo:=by simp
   have e2:(((hi - lo).toNat:Nat):Int) - ((0:Nat):Int)=Builtin.Range.rangeSize lo hi 1:=by rw[rangeSize_one];split<;>lia
   show IsRangeIter _ _ (lo+((0:Nat):Int) * 1) ((((hi - lo).toNat:Nat):Int) - ((0:Nat):Int)) 1;rw[g,e2];exact zAo _ rfl
 have e:b=(s.heap.push { cls:=.type "range",data:=.fields #[.int lo t,.int hi u,.int 1 v] }).objs.size:=by simpa using f
 subst e;exact I1.fpOk (zA3 _) (I1.hok.fresh (zA3 _))
def iRng1(ta:TA):TI:=λ σ H R=>ta σ H λ vs H1=>∃ j:Int,vs=[.int j]/\-(2 ^ 62)<=j/\j < 2 ^ 62/\R (Itr 0 j.toNat) H1
theorem qam7(d:Gl X "range")(hm:X.mg "range" = none)(f:PA X [a] ta)(g:Jm [a] X.env=[(false,eval a X.env)]:=by rfl):PI X tg (.Call (.Name "range" p) [a] [] pos) (iRng1 ta):=by
 intro D8 s σ H R I h;refine Call_ (qJ9 I d hm boot_range (PyProof.Rows.callWith_type1 (thn (f pos D8 s σ H _ I h) λ l m b=>?_) g rfl));obtain⟨n,H1,I1,i,c⟩:=b;obtain⟨j,e,c,q2,q⟩:=c;subst e;cases i with
 | cons r k =>
   cases k;obtain⟨t,rfl⟩:=r;exact call_range_1 (qay7 I1 (by lia) (by lia) c q2 (by simpa using q))
def tFor(wi:TI)(g:TG)(tb:TS):TS:=λ D σ H=>wi σ H λ J H1=>∃ W:Nat->Nat->St->Hp->Prop,(∃ m,W 0 m σ H1)/\∀ i m σ H,W i m σ H ->
 (J.stop i H/\D.nx σ H)∨(J.go i H/\∃ N:St->Hp->Prop,(∀ σ' H',N σ' H'->∃ a,a < m/\W (i+1) a σ' H')/\∀ x H',J.yld i H x H'->g x σ H' λ σ2 H2=>tb { D with nx:=N,ct:=N,bk:=D.nx } σ2 H2)
noncomputable def Hx(fp:List γ)(h:Heap):List (γ×Obj):=fp.filterMap λ b=>(h.get? b).map λ o=>(b,o)
theorem qq5(a:b∈fp)(e:h.get? b=some o):(b,o)∈Hx fp h:=zCx.mpr ⟨b,a,by rw[e];rfl⟩
theorem qan4(a:p∈Hx fp h):p.1∈fp/\h.get? p.1=some p.2:=by
 obtain⟨b,c,e⟩:=zCx.mp a;cases q:h.get? b with
 | none=>rw[q] at e;cases e
 | some o =>
   rw[q] at e;have d:(b,o)=p:=Nj e;subst d;exact⟨c,q⟩
theorem Ov.pinned(I:Ov X D8 σ H s)(f:∀ b∈fp,Fn X D8 H b)(g:∀ b∈fp,∃ o,s.heap.get? b=some o/\∀ v,o.data≠.cell v):Ov X (D8++Hx fp s.heap) σ H s :=
 I.pins_of λ p h=>(zAa.mp h).elim (λ z=>I.pin p (zAy _ z)) λ z=>by
   obtain⟨a,e⟩:=qan4 z;obtain⟨i,f1,f2,_⟩:=f p.1 a;obtain⟨o,c,d⟩:=g p.1 a;rw[e] at c;cases c;exact⟨e,i,f1,f2,d⟩
theorem Ov.unpinned{pl:List (γ×Obj)}(I:Ov X (D8++pl) σ H s):Ov X D8 σ H s:=I.pins_of λ p a=>I.pin p (zAy _ (Kz _ a))
theorem Hy(l:PassesOwn (Kb X.prog X.w) X.A X.env X.xe)(F:X.calm=true)(hi:PI X tg iter wi)(O:PG X tg g)(c:PSs X body tb)(P:∀ x,Jp iter X.env x=pure x:=by intro _;rfl):PS X (.For tg iter body [] pos) (tFor wi g tb):=by
 intro D8 s σ H D I h;refine wpAny_For (thn (hi D8 s σ H _ I h) λ v s1 Q=>thn Q λ R s2 S=>?_) P;obtain⟨it,p,G,J,H2,e,I2,T,z,f2,W,⟨U,V⟩,turn⟩:=S;subst e;have stat:∀{H':Hp},(∀ b∈p,H' b=none)->∀ b∈p,Fn X D8 H' b:=λ Y b c=>⟨Y b c,(f2 b c).2⟩
 refine codeAny_forLoop_any (λ n K=>∃ i σ' H',Ov X D8 σ' H' K/\G i K.heap/\(∀ b∈p,H' b=none)/\W i n σ' H') ?_ U ⟨0,σ,H2,I2,z,λ b c=>(f2 b c).1,V⟩;rintro n L ⟨i,σ3,H3,I3,q,t,Z⟩;rcases turn i n σ3 H3 Z with⟨stop,qn⟩ | ⟨go,N,hN,step⟩
 . refine J0 l (thn (T.done X rfl rfl rfl F i D8 L σ3 H3 X.xe I3 (stat t) q stop) λ r s4 a=>?_)
   obtain⟨B,I4⟩:=a;subst B;exact wpAny_execs_nil ⟨σ3,H3,I4,qn⟩
 refine J0 l (thn (T.item X rfl rfl rfl F i D8 L σ3 H3 X.xe I3 (stat t) q go) λ r s4 a=>?_);obtain⟨u,B,h4⟩:=a;subst B;refine J0 l (thn h4 λ _ M a=>?_);obtain⟨x,H5,I5,r5,y5,k,C⟩:=a;have I5':=I5.pinned (stat C) (T.obj _ _ k);refine J0 l (thn (O _ M σ3 H5 x u _ I5' r5 (step x H5 y5)) λ _ s6 a=>?_);obtain⟨σ6,H6,I6,q6⟩:=a;refine J0 l (thn (c _ s6 σ6 H6 _ I6 q6) λ f E j=>?_);have again:∀{σ7:St}{H7:Hp},Ov X (D8++Hx p M.heap) σ7 H7 E->N σ7 H7->∃ m,m < n/\∃ i σ' H',Ov X D8 σ' H' E/\G i E.heap/\(∀ b∈p,H' b=none)/\W i m σ' H':=λ{σ7 H7} I7 y=>by
   obtain⟨m',hm,w7⟩:=hN σ7 H7 y;refine⟨m',hm,i+1,σ7,H7,I7.unpinned,T.keep _ _ _ k λ b c o e=>(I7.pin (b,o) (zAy _ (zAy _ (qq5 c e)))).1,λ b c=>?_,w7⟩;obtain⟨o,e,d⟩:=T.obj _ _ k b c;exact(I7.pin (b,o) (zAy _ (zAy _ (qq5 c e)))).2.1
 cases f with
 | next=>obtain⟨σ7,H7,I7,y⟩:=j;exact again I7 y
 | cont=>obtain⟨σ7,H7,I7,y⟩:=j;exact again I7 y
 | brk=>obtain⟨σ7,H7,I7,j⟩:=j;exact⟨σ7,H7,I7.unpinned,j⟩
 | ret v=>obtain⟨x7,σ7,H7,I7,r7,j⟩:=j;exact⟨x7,σ7,H7,I7.unpinned,r7,j⟩
end
theorem qai5{K:Nl}{g:TG}{tb:TS}{D:De}{n:St}(Pv:Nat->St->Hp->Prop)(d:Pv 0 n H)(f:∀ i n H,i<=xs.length->Pv i n H->SqL K H a xs)(h:∀ i x n H,xs[i]? = some x->Pv i n H->g x n H λ σ2 H2=>tb { D with nx:=Pv (i+1),ct:=Pv (i+1),bk:=D.nx } σ2 H2)(j:∀ n H,Pv xs.length n H->D.nx n H) :
   ∃ W:Nat->Nat->St->Hp->Prop,(∃ m,W 0 m n H)/\∀ i m n H,W i m n H ->
     ((Itl K a).stop i H/\D.nx n H)∨((Itl K a).go i H/\∃ N:St->Hp->Prop,(∀ n' H',N n' H'->∃ c,c < m/\W (i+1) c n' H')/\∀ x H',(Itl K a).yld i H x H'->g x n H' λ σ2 H2=>tb { D with nx:=N,ct:=N,bk:=D.nx } σ2 H2):=by
 refine⟨λ i m n H=>m=xs.length - i/\i<=xs.length/\Pv i n H,⟨xs.length,by simp,zBh _,d⟩,?_⟩;rintro i m n H ⟨rfl,k,p⟩;have q:=f i n H k p;by_cases b:i < xs.length
 . refine .inr ⟨⟨xs,xs[i],q,by simp[b]⟩,Pv (i+1),λ n' H' l=>⟨xs.length - (i+1),by lia,rfl,b,l⟩,λ x H' y=>?_⟩
   obtain⟨e,y⟩:=y;subst e;exact h i x n _ (y xs q) p
 have e:i=xs.length:=by lia
 subst e;exact .inl ⟨⟨xs,q,zA3 _⟩,j n H p⟩
theorem qap0{lo:Int}{g:TG}{tb:TS}{D:De}(Pv:Nat->St->Hp->Prop)(c:Pv 0 k H)(d:∀ i k H,i < n->Pv i k H->g (.int (lo+i)) k H λ σ2 H2=>tb { D with nx:=Pv (i+1),ct:=Pv (i+1),bk:=D.nx } σ2 H2)(f:∀ k H,Pv n k H->D.nx k H) :
   ∃ W:Nat->Nat->St->Hp->Prop,(∃ m,W 0 m k H)/\∀ i m k H,W i m k H ->
     ((Itr lo n).stop i H/\D.nx k H)∨((Itr lo n).go i H/\∃ N:St->Hp->Prop,(∀ k' H',N k' H'->∃ b,b < m/\W (i+1) b k' H')/\∀ x H',(Itr lo n).yld i H x H'->g x k H' λ σ2 H2=>tb { D with nx:=N,ct:=N,bk:=D.nx } σ2 H2):=by
 refine⟨λ i m k H=>m=n - i/\i<=n/\Pv i k H,⟨n,by simp,zBh _,c⟩,?_⟩;rintro i m k H ⟨rfl,j,p⟩;by_cases a:i < n
 . refine .inr ⟨a,Pv (i+1),λ k' H' h=>⟨n - (i+1),by lia,rfl,a,h⟩,λ x H' y=>?_⟩
   obtain⟨e,y⟩:=y;subst e y;exact d i k _ a p
 have e:i=n:=by lia
 subst e;exact .inl ⟨zA3 _,f k H p⟩
abbrev R2:=V->V->Hp->VK->Prop
def OpR(X:Cx)(f:V'->V'->Sem V')(r:R2):Prop :=
 ∀(D8:List (γ×Obj))(s:Sh)(a:St)(H:Hp)(x y:V)(v u:V')(Q:VK),Ov X D8 a H s->Os x v->Os y u->r x y H Q ->
   Ka (Kb X.prog X.w) X.A (f v u) (EP X D8 a Q) X.xe s
def UnR(X:Cx)(f:V'->Sem V')(r:V->Hp->VK->Prop):Prop :=
 ∀(D8:List (γ×Obj))(s:Sh)(a:St)(H:Hp)(x:V)(v:V')(Q:VK),Ov X D8 a H s->Os x v->r x H Q ->
   Ka (Kb X.prog X.w) X.A (f v) (EP X D8 a Q) X.xe s
def CallR(X:Cx)(f:V')(r:List V->Hp->VK->Prop):Prop :=
 ∀(D8:List (γ×Obj))(s:Sh)(a:St)(H:Hp)(xs:List V)(us:List V')(Q:VK),Ov X D8 a H s->Ot xs us->r xs H Q ->
   Ka (Kb X.prog X.w) X.A (call f us) (EP X D8 a Q) X.xe s
def tOp(r:R2)(ta tb:TE):TE:=λ a H Q=>ta a H λ x H1=>tb a H1 λ y H2=>r x y H2 Q
def tUn(r:V->Hp->VK->Prop)(ta:TE):TE:=λ a H Q=>ta a H λ x H1=>r x H1 Q
def rI(C:Int->Int->Prop)(g:Int->Int->V):R2:=λ x y H Q=>∃ i j,x=.int i/\y=.int j/\C i j/\Q (g i j) H
def rI0(g:Int->Int->V):R2:=λ x y H Q=>∃ i j,x=.int i/\y=.int j/\Q (g i j) H
def rU(g:Int->V):V->Hp->VK->Prop:=λ x H Q=>∃ i,x=.int i/\Q (g i) H
section
variable{X:Cx}{a b:Kf}{n p:TE}{o:Pos}
theorem binT(d:PE X a n)(e:PE X b p){R:V->V->Hp->Prop}(I:Ov X D8 m H s)(h:n m H λ x H1=>p m H1 λ y H2=>R x y H2){f:V'->V'->Sem V'}(g:∀ v u s2 x y H2,Ov X D8 m H2 s2->Os x v->Os y u->R x y H2->Ka (Kb X.prog X.w) X.A (f v u) Q X.xe s2) :
   Ka (Kb X.prog X.w) X.A (eval a X.env) (λ v s₁=>Ka (Kb X.prog X.w) X.A (eval b X.env) (λ u s₂=>Ka (Kb X.prog X.w) X.A (f v u) Q X.xe s₂) X.xe s₁) X.xe s:=by
 refine thn (d D8 s m H _ I h) λ v i c=>?_
 obtain⟨x,H1,I1,j,k⟩:=c;refine thn (e D8 i m H1 _ I1 k) λ u s2 c=>?_
 obtain⟨y,H2,I2,l,q2⟩:=c;exact g v u s2 x y H2 I2 j l q2
theorem pe_op{op:Operator}(c:OpR X (J' op) r)(d:PE X a n)(e:PE X b p):PE X (.BinOp a op b o) (tOp r n p):=by
 intro D8 s m H Q I h;exact wpAny_BinOp (binT d e I h λ v u f x y H2 I2 g i q=>c D8 f m H2 x y v u Q I2 g i q)
theorem pe_un{op:UnaryOp}(b:UnR X (unaryOp op) r)(c:PE X a n):PE X (.UnaryOp op a o) (tUn r n):=by
 intro D8 s m H Q I h;exact UnaryOp_ (thn (c D8 s m H _ I h) λ v d ⟨x,H1,I1,e,f⟩=>b D8 d m H1 x v Q I1 e f)
theorem opI{g:Int->Int->Int}(rule:∀(i j:Int)(t u:Tok)(s:Sh)(Q:V'->Sh->Prop)(E:V'->Sh->Prop),C i j->Q (.int (g i j) s.toks) { s with toks:=s.toks+1 }->Ka (Kb X.prog X.w) X.A (f (.int i t) (.int j u)) Q E s) :
   OpR X f (rI C λ i j=>.int (g i j)):=by
 intro D8 s m H x y v u Q I a b h;obtain⟨i,j,rfl,rfl,c,q⟩:=h;obtain⟨t,rfl⟩:=a;obtain⟨d,rfl⟩:=b;exact rule i j t d s _ _ c ⟨.int (g i j),H,I.tok _,⟨_,rfl⟩,q⟩
theorem opI0{g:Int->Int->Int}(rule:∀(i j:Int)(t u:Tok)(s:Sh)(Q:V'->Sh->Prop)(E:V'->Sh->Prop),Q (.int (g i j) s.toks) { s with toks:=s.toks+1 }->Ka (Kb X.prog X.w) X.A (f (.int i t) (.int j u)) Q E s) :
   OpR X f (rI0 λ i j=>.int (g i j)):=by
 intro D8 s m H x y v u Q I a b h;obtain⟨i,j,rfl,rfl,q⟩:=h;obtain⟨t,rfl⟩:=a;obtain⟨c,rfl⟩:=b;exact rule i j t c s _ _ ⟨.int (g i j),H,I.tok _,⟨_,rfl⟩,q⟩
theorem opB0{g:Int->Int->Bool}(rule:∀(i j:Int)(t u:Tok)(s:Sh)(Q:V'->Sh->Prop)(E:V'->Sh->Prop),Q (.bool (g i j)) s->Ka (Kb X.prog X.w) X.A (f (.int i t) (.int j u)) Q E s) :
   OpR X f (rI0 λ i j=>.bl (g i j)):=by
 intro D8 s m H x y v u Q I a b h;obtain⟨i,j,rfl,rfl,q⟩:=h;obtain⟨t,rfl⟩:=a;obtain⟨c,rfl⟩:=b;exact rule i j t c s _ _ ⟨.bl (g i j),H,I,rfl,q⟩
def CPow(i j:Int):Prop:=0<=j/\j<=1000000/\i.natAbs < 2 ^ 64
def CMul(i j:Int):Prop:=(-(2 ^ 64) < i/\i < 2 ^ 64)∨(-(2 ^ 64) < j/\j < 2 ^ 64)
theorem CMul.ok{i j:Int}(h:CMul i j):IntMulOk i j:=by
 rcases h with⟨h1,h2⟩ | ⟨h1,h2⟩
 . exact .of_left (intBits_le_64 h1 h2)
 exact .of_right (intBits_le_64 h1 h2)
theorem qaV3:OpR X (J' .Add) (rI0 λ i j=>.int (i+j)):=opI0 λ _ _ _ _ _ _ _ q=>add_int q
theorem qt0:OpR X (J' .Sub) (rI0 λ i j=>.int (i - j)):=opI0 λ _ _ _ _ _ _ _ q=>sub_int q
theorem qaU6:OpR X (J' .Mult) (rI CMul λ i j=>.int (i * j)):=opI λ _ _ _ _ _ _ _ a q=>mul_int q a.ok
theorem ql1:OpR X (J' .Mod) (rI (λ _ j=>0 < j) λ i j=>.int (i % j)):=opI λ i j _ _ _ _ _ a q=>by
 have b:(0:Int) < j:=a;exact mod_int' (by lia) (by rw[Int.fmod_eq_emod_of_nonneg i (by lia)];exact q)
theorem qaU5:OpR X (J' .Pow) (rI CPow λ i j=>.int (i ^ j.toNat)):=opI λ _ _ _ _ _ _ _ a q=>pow_int_small a.1 a.2.1 a.2.2 q
theorem unI{g:Int->Int}(rule:∀(i:Int)(t:Tok)(s:Sh)(Q:V'->Sh->Prop)(E:V'->Sh->Prop),Q (.int (g i) s.toks) { s with toks:=s.toks+1 }->Ka (Kb X.prog X.w) X.A (f (.int i t)) Q E s) :
   UnR X f (rU λ i=>.int (g i)):=by
 intro D8 s m H x v Q I a h;obtain⟨i,rfl,q⟩:=h;obtain⟨t,rfl⟩:=a;exact rule i t s _ _ ⟨.int (g i),H,I.tok _,⟨_,rfl⟩,q⟩
theorem qaR4:UnR X (unaryOp .USub) (rU λ i=>.int (-i)):=unI λ _ _ _ _ _ q=>neg_int q
end
section
variable{X:Cx}{a b c:Kf}{L M O:TE}{N:Pos}
theorem qaP0{K:St}{a:Bool}(I:Ov X D8 K H s)(q:Q (.bl k) H)(e:k=a):EP X D8 K Q (.bool a) s:=by
 subst e;exact⟨.bl k,H,I,rfl,q⟩
theorem op_lt:OpR X (Jo .Lt) (rI0 λ i j=>.bl (decide (i < j))):=opB0 λ _ _ _ _ _ _ _ q=>lt_int q
theorem op_le:OpR X (Jo .LtE) (rI0 λ i j=>.bl (decide (i<=j))):=opB0 λ _ _ _ _ _ _ _ q=>le_int q
theorem Bo:OpR X (Jo .Gt) (rI0 λ i j=>.bl (decide (j < i))):=opB0 λ _ _ _ _ _ _ _ q=>gt_int q
theorem Fv:OpR X (Jo .GtE) (rI0 λ i j=>.bl (decide (j<=i))):=opB0 λ _ _ _ _ _ _ _ q=>ge_int q
theorem qaU7:OpR X (Jo .Is) (λ x y H Q=>y=.non/\Q (.bl (decide (x=.non))) H):=by
 intro D8 s K H x y v u Q I a b h;obtain⟨rfl,q⟩:=h;cases b;refine is_none_gen (qaP0 I q ?_);cases x<;>first
   | (cases a;rfl)
   | (obtain⟨t,rfl⟩:=a;rfl)
theorem qaL2:OpR X (Jo .IsNot) (λ x y H Q=>y=.non/\Q (.bl (!decide (x=.non))) H):=by
 intro D8 s K H x y v u Q I a b h;obtain⟨rfl,q⟩:=h;cases b;refine isnot_none_gen (qaP0 I q ?_);cases x<;>first
   | (cases a;rfl)
   | (obtain⟨t,rfl⟩:=a;rfl)
theorem OpR.or{a:R2}(h:OpR X f r)(h':OpR X f a):OpR X f (λ x y H Q=>r x y H Q∨a x y H Q):=by
 intro D8 s K H x y v u Q I b c q;rcases q with q | q
 . exact h D8 s K H x y v u Q I b c q
 exact h' D8 s K H x y v u Q I b c q
theorem qb1(b:Kf)(h:op≠.In:=by decide)(h2:op≠.NotIn:=by decide):behindInMarks op b=false:=by
 have a:(op == CmpOp.In)=false:=by cases op<;>first | rfl | exact absurd rfl h
 have e2:(op == CmpOp.NotIn)=false:=by cases op<;>first | rfl | exact absurd rfl h2
 cases b<;>simp[behindInMarks,a,e2]
theorem qaK4(c:OpR X (Jo op) r)(d:PE X a L)(e:PE X b M)(hm:behindInMarks op b=false):PE X (.Compare a [op] [b] N) (tOp r L M):=by
 intro D8 s K H Q I h;exact wpAny_Compare1 (binT d e I h λ v u f x y H2 I2 g i q=>c D8 f K H2 x y v u Q I2 g i q) hm
def tTest(t:TE):TT:=λ K H Q=>t K H λ x H'=>∃ k,x=.bl k/\Q k H'
theorem qaI7(d:OpR X (Jo op) r)(f:PE X a L)(g:PE X b M)(hm:behindInMarks op b=false):PT X (.Compare a [op] [b] N) (tTest (tOp r L M)):=by
 intro D8 s K H Q I h;refine wpAny_isTrue_Compare1 (thn (f D8 s K H _ I h) λ v i ⟨x,H1,I1,j,l⟩=>thn (g D8 i K H1 _ I1 l) λ u m ⟨y,H2,I2,n,q2⟩ =>
   thn (d D8 m K H2 x y v u _ I2 j n q2) λ c q ⟨z,H3,I3,o,k,e,p⟩=>?_) hm
 subst e;cases o;exact Js ⟨H3,I3,p⟩
def qaG4(r a:R2)(L M O:TE):TE:=λ K H Q=>L K H λ x H1=>M K H1 λ y H2=>r x y H2 λ z H3=>∃ k,z=.bl k /\
 (if k=true then O K H3 λ b H4=>a y b H4 Q else Q (.bl false) H3)
theorem qaz6{i:R2}(m:OpR X (Jo op) r)(g:OpR X (Jo f) i)(n:PE X a L)(o:PE X b M)(p:PE X c O)(hm:lastMarks [op,f] [b,c]=false:=by with_unfolding_all rfl):PE X (.Compare a [op,f] [b,c] N) (qaG4 r i L M O):=by
 intro D8 s K H Q I h;refine Compare_chain (thn (n D8 s K H _ I h) λ v q ⟨x,H1,I1,t,w⟩=>chain_link (thn (o D8 q K H1 _ I1 w) λ u A ⟨y,H2,I2,j,q2⟩ =>
   thn (m D8 A K H2 x y v u _ I2 t j q2) λ d B ⟨z,H3,I3,C,k,e,l⟩=>?_)) hm
 subst e;cases C;refine Js ?_;cases k with
 | false=>exact ite_ff ⟨.bl false,H3,I3,rfl,l⟩
 | true=>exact ite_tt (chain_last (thn (p D8 B K H3 _ I3 l) λ D E ⟨F,H4,I4,G,J⟩=>g D8 E K H4 y F u D Q I4 j G J))
theorem qQ8:(Jn:Nat) < 2 ^ 63:=by rw[Ju];decide
theorem qae3:OpR X (J' .Add) (λ x y H Q=>∃ i j,x=.str i/\y=.str j/\i.length+j.length<=Jn/\Q (.str (i++j)) H):=by
 intro D8 s K H x y v u Q I a b h;obtain⟨i,j,rfl,rfl,c,q⟩:=h;obtain⟨t,rfl⟩:=a;obtain⟨d,rfl⟩:=b;exact add_str (λ d e=>⟨.str (i++j),H,I.tok _,⟨_,rfl⟩,q⟩) c
theorem B7(r:Ot [x] us):∃ u,us=[u]/\Os x u:=by
 cases r with
 | cons a b=>cases b;exact⟨_,rfl,a⟩
theorem G1(r:Ot [x,y] us):∃ u a,us=[u,a]/\Os x u/\Os y a:=by
 cases r with
 | cons b c =>
   cases c with
   | cons d e=>cases e;exact⟨_,_,rfl,b,d⟩
theorem qaE9:CallR X (.builtin "abs") (λ xs H Q=>∃ i,xs=[.int i]/\Q (.int (if i < 0 then -i else i)) H):=by
 intro D8 s K H xs a Q I r h;obtain⟨i,rfl,q⟩:=h;obtain⟨u,rfl,t,rfl⟩:=B7 r;exact call_abs_int λ u b=>⟨.int (if i < 0 then -i else i),H,I.tok _,⟨_,rfl⟩,q⟩
theorem qW7(b:X.calm=true):CallR X (.builtin "max") (λ xs H Q=>∃ i j,xs=[.int i,.int j]/\Q (.int (if j > i then j else i)) H):=by
 intro D8 s K H xs c Q I r h;obtain⟨i,j,rfl,q⟩:=h;obtain⟨u,d,rfl,⟨t,rfl⟩,⟨e,rfl⟩⟩:=G1 r;refine max_two_ints (I.ok.hd b) λ f g k=>⟨_,H,I.kept k,?_,q⟩
 by_cases a:j > i
 . rw[if_pos a,if_pos a];exact⟨_,rfl⟩
 rw[if_neg a,if_neg a];exact⟨_,rfl⟩
theorem qH0(b:X.calm=true):CallR X (.builtin "min") (λ xs H Q=>∃ i j,xs=[.int i,.int j]/\Q (.int (if j < i then j else i)) H):=by
 intro D8 s K H xs c Q I r h;obtain⟨i,j,rfl,q⟩:=h;obtain⟨u,d,rfl,⟨t,rfl⟩,⟨e,rfl⟩⟩:=G1 r;refine min_two_ints (I.ok.hd b) λ f g k=>⟨_,H,I.kept k,?_,q⟩
 by_cases a:j < i
 . rw[if_pos a,if_pos a];exact⟨_,rfl⟩
 rw[if_neg a,if_neg a];exact⟨_,rfl⟩
theorem qar1:CallR X (.type "int") (λ xs H Q=>(∃ i,xs=[.int i]/\Q (.int i) H)∨∃ k,xs=[.bl k]/\Q (.int (if k then 1 else 0)) H):=by
 intro D8 s K H xs b Q I r h;rcases h with⟨i,rfl,q⟩ | ⟨k,rfl,q⟩
 . obtain⟨u,rfl,t,rfl⟩:=B7 r
   exact call_int_int ⟨.int i,H,I,⟨_,rfl⟩,q⟩
 obtain⟨u,rfl,a⟩:=B7 r;cases a;exact call_int_bool ⟨.int (if k then 1 else 0),H,I.tok _,⟨_,rfl⟩,q⟩
end
structure ObjM(h:Heap)(x dx C:γ)(mA:Str->Option V'):Prop where
 obj:h.get? x=some (W.instObj C dx)
 ns:h.Ns1 dx mA
 ne:dx≠x
theorem qao1{h:Heap}(n:h.Ns1 dx mA):∃ c,h.get? dx=some c/\∀ name,W.lookIn name c=some (mA name):=by
 obtain⟨o,d,m,f,g,i,_,j⟩:=n;refine⟨o,f,λ name=>?_⟩;have e:=j name;unfold nsFind findBy at e;rw[<- Array.find?_toList] at e;unfold W.lookIn;rw[g];dsimp only;split
 . rename_i y q
   rw[q] at e;exact congrArg some e
 rename_i q
 rw[q] at e;have a:d.toList.any (·.refKey)=false:=by
   rw[List.any_eq_false];intro y k;obtain⟨z,t,b⟩:=i y (Array.mem_toList_iff.mp k);simp[DictEntry.refKey,b]
 have l:¬ d.toList.any (·.refKey)=true:=by rw[a];exact zAq
 rw[if_neg l];exact congrArg some e
theorem ObjM.look(I:ObjM h x dx C mA):∃ a,W.InstAt h x (W.instObj C dx) C (some a)/\∀ name,W.lookIn name a=some (mA name) :=
 let ⟨a,ho,hl⟩:=qao1 I.ns
 ⟨a,⟨I.obj,rfl,rfl,ho⟩,hl⟩
section
variable{prog:Kc}{w:Ke}{A:Kd}{E:V'->Sh->Prop}{s:Sh}{K:Nl}{x F C f:γ}{H:Str->Option V'}{name:Str}{v:V'}
theorem qaO3(X:K.In s.heap)(I:ObjM s.heap x F C H)(b:W.plainGet K C name=true)(c:W.hasDictIn K C=true)(d:W.findIn K (.ref C) name=some none)(e:H name=some v)(a:W.handedIn v=true)(h:Q v { s with toks:=s.toks+1 }) :
   Ka (Kb prog w) A (getAttr (.ref x) name expr) Q E s:=by
 obtain⟨g,J,f⟩:=I.look;exact W.get_value X J (W.plainGet_of b).1 (W.findObj_own c d rfl (by rw[f,e])) a h
theorem qaD0(X:K.In s.heap)(I:ObjM s.heap x F C H)(a:W.plainGet K C name=true)(b:W.findIn K (.ref C) name=some (some (.ref f)))(c:W.isFn K (.ref f)=true)(d:H name=none)(h:Q (.ref f,[.ref x]) s) :
   Ka (Kb prog w) A (getMethod (.ref x) name pl) Q E s:=by
 obtain⟨e,J,g⟩:=I.look;exact W.method_fn X J (W.plainGet_of a).1 (W.plainGet_of a).2 b (zBz.mp c) (by show (W.lookIn name e).map (·.isSome)=some false;rw[g,d];rfl) h
theorem qaH5(X:K.In s.heap)(I:ObjM s.heap x F C H)(j:W.findIn K (.ref C) "__setattr__" = some (some (.builtin "object.__setattr__")))(k:W.plainOver K C=true)(l:W.takerIn K C name=some none)(m:W.hasDictIn K C=true)(n:PySem.Within H ns)(hsz:ns.length<=Jn)(h:∀ h',ObjM h' x F C (λ y=>if y=name then some v else H y)->Heap.SameBut F s.heap h'->Q () { s with heap:=h',toks:=s.toks+2 }) :
   Ka (Kb prog w) A (setAttr (.ref x) name v) Q E s:=by
 obtain⟨u,J,z⟩:=I.look;refine W.set_plain X J j (W.osa_open (s:={ s with toks:=s.toks+1 }) (r:=none) X J k l λ b=>?_);obtain⟨B,o,e⟩:=W.any_some m;have p:s.heap.get? x=some ⟨.ref C,some F,.plain,#[]⟩:=I.obj;refine E' (G' (E' (E' (wpAny_loadPart p (E' (W.Looks.here (s:={ s with toks:=s.toks+1 }) (W.looks_clsIn X o) ?_))))));rw[e];refine G' (a:=some F) (E' (G' (E' ?_)));refine wpAny_nsSet1 (s:={ s with toks:=s.toks+1 }) I.ns λ h' c d=>?_
 obtain⟨D,q,t,f,g,i⟩:=c.count (PySem.Within.cons name v n);refine E' (wpAny_lookBehind f (by rw[g];exact pastItsLine_dict (zAk i (by rw[zAm];lia))) ?_);exact G' (h _ ⟨(d.2 _ (Ne.symm I.ne)).trans I.obj,c,I.ne⟩ d)
theorem qaB5(X:K.In s.heap)(hm:W.makesIn K C=true)(hi:W.findIn K (.ref C) "__init__" = some (some (.ref f)))(a:W.typeIn K (.ref f)=some (.type "function"))(h:codeAny (Kb prog w) (A.under (.builtin "type.__call__" ⟨.ref C::vs,kw⟩)) (.call (.ref f) ⟨.ref (s.heap.objs.size+1)::vs,kw⟩) (W.InitBack (s.heap.objs.size+1) R)
     { s with heap:=(s.heap.push W.emptyDict).push (W.instObj C s.heap.objs.size) }) :
   codeAny (Kb prog w) A (.call (.ref C) ⟨vs,kw⟩) R s:=by
 obtain⟨b,g,d,t,c⟩:=s;exact W.make_core (W.makes_of X hm) (W.looks_findIn X hi) (λ self=>W.bind_fn X self a) (.inl rfl) h
end
noncomputable def Bw(f:Str)(v:V):List (Str×V)->List (Str×V)
 | []=>[(f,v)]
 | (g,x)::r=>if g=f then (g,v)::r else (g,x)::Bw f v r
theorem qC9(f g:Str)(v:V):∀ fs:List (Str×V),(Bw f v fs).lookup g=if g=f then some v else fs.lookup g
 | []=>by
   show K6 g [(f,v)]=_;by_cases h:g=f
   . have a:(g == f)=true:=zBz.mpr h
     simp only[K6,a,if_pos h]
   have a:(g == f)=false:=zCt.mpr h;simp only[K6,a,if_neg h]
 | (k,x)::r=>by
   have c:=qC9 f g v r;rw[show Bw f v ((k,x)::r)=(if k=f then (k,v)::r else (k,x)::Bw f v r) from rfl];by_cases b:k=f
   . rw[if_pos b]
     by_cases h:g=k
     . have a:(g == k)=true:=zBz.mpr h
       simp only[K6,a,if_pos (h.trans b)]
     have a:(g == k)=false:=zCt.mpr h;simp only[K6,a,if_neg (λ e:g=f=>h (e.trans b.symm))]
   rw[if_neg b];by_cases h:g=k
   . have a:(g == k)=true:=zBz.mpr h
     simp only[K6,a,if_neg (λ e:g=f=>b (h.symm.trans e))]
   have a:(g == k)=false:=zCt.mpr h;simp only[K6,a];exact c
theorem qF6(f:Str)(v:V):∀ fs:List (Str×V),f∈(Bw f v fs).map (·.1)/\∀ g,g∈fs.map (·.1)->g∈(Bw f v fs).map (·.1)
 | []=>⟨by simp[Bw],λ g h=>by simp at h⟩
 | (k,x)::r=>by
   obtain⟨b,c⟩:=qF6 f v r;rw[show Bw f v ((k,x)::r)=(if k=f then (k,v)::r else (k,x)::Bw f v r) from rfl];by_cases a:k=f
   . rw[if_pos a]
     subst a;exact⟨by simp,λ g h=>by simpa using h⟩
   rw[if_neg a];refine⟨?_,λ g h=>?_⟩
   . rw[zAx]
     exact zA6 _ b
   rw[zAx] at h ⊢;rcases zAi.mp h with e | e
   . exact zAi.mpr (.inl e)
   exact zA6 _ (c g e)
theorem qD1(f:Str)(v:V):∀ fs:List (Str×V),(Bw f v fs).length<=fs.length+1
 | []=>by simp[Bw]
 | (k,x)::r=>by
   have b:=qD1 f v r;rw[show Bw f v ((k,x)::r)=(if k=f then (k,v)::r else (k,x)::Bw f v r) from rfl];by_cases a:k=f
   . rw[if_pos a,zAm,zAm];lia
   rw[if_neg a,zAm,zAm];lia
theorem RelO.some_of(r:RelO (some v) o):∃ u,o=some u/\Os v u:=by
 cases o with
 | none=>exact(show False from r).elim
 | some u=>exact⟨u,rfl,r⟩
theorem RelO.none_of(r:RelO none o):o=none:=by
 cases o with
 | none=>rfl
 | some u=>exact(show False from r).elim
theorem qao8(r:Os v u):W.handedIn u=true:=by
 cases v with
 | non=>cases (show u=M8 from r);rfl
 | bl b=>cases (show u=M9 b from r);rfl
 | int i=>obtain⟨t,e⟩:=(show ∃ t,u=M' i t from r);cases e;rfl
 | str x=>obtain⟨t,e⟩:=(show ∃ t,u=Nb x t from r);cases e;rfl
 | byt b=>obtain⟨t,e⟩:=(show ∃ t,u=Nh b t from r);cases e;rfl
 | flt b=>obtain⟨t,e⟩:=(show ∃ t,u=Nc b t from r);cases e;rfl
 | ref a=>cases (show u=M7 a from r);rfl
 | ty n=>cases (show u=Nd n from r);rfl
section
variable{P:Kc}{w:Ke}{H:Hp}{h:Heap}{a C i:γ}{fs:List (Str×V)}
theorem qU7(b:HOk P w H h)(e:H a=some (.ins C i fs)):∃ mA,ObjM h a i C mA/\(∀ f,RelO (fs.lookup f) (mA f))/\PySem.Within mA (fs.map (·.1))/\fs.length<=1000/\H i=some (.own a):=by
 obtain⟨d,z,c,g,mA,n,r,q⟩:=(show ObjOk P w H h a (.ins C i fs) from b a _ e)
 exact⟨mA,⟨g,n,c⟩,r,q,z,d⟩
end
structure Cls(K:Nl)(C:γ):Prop where
 pg:W.plainGet K C Str.empty=true
 hd:W.hasDictIn K C=true
 po:W.plainOver K C=true
 sa:W.findIn K (.ref C) "__setattr__" = some (some (.builtin "object.__setattr__"))
theorem Cls.get{K:Nl}(c:Cls K C)(f:Str):W.plainGet K C f=true:=c.pg
def qg8(K:Nl)(C:γ)(f:Str):Prop:=W.findIn K (.ref C) f=some none
theorem qg8.taker{K:Nl}(n:qg8 K C f):W.takerIn K C f=some none:=by
 unfold W.takerIn;rw[show W.findIn K (.ref C) f=some none from n];rfl
structure Ia(K:Nl)(C:γ)(m:Str)(f:γ):Prop where
 at_:W.findIn K (.ref C) m=some (some (.ref f))
 fn:W.isFn K (.ref f)=true
 kp:W.keepIn K (.ref f)=true
section
variable{X:Cx}{G:List (γ×Obj)}{F:St}{H:Hp}{s:Sh}{a C J:γ}{fs:List (Str×V)}{f:Str}{v:V}{A:Kd}{E:V'->Sh->Prop}
theorem qai1(I:Ov X G F H s)(e:H a=some (.ins C J fs))(c:Cls X.K C)(n:qg8 X.K C f)(l:fs.lookup f=some v)(h:∀ u s',Ov X G F H s'->Os v u->Q u s'):Ka (Kb X.prog X.w) A (getAttr (.ref a) f b) Q E s:=by
 obtain⟨g,O,r,_,_,_⟩:=qU7 I.hok e;obtain⟨u,i,d⟩:=RelO.some_of (v:=v) (o:=g f) (by rw[<- l];exact r f);exact qaO3 I.kIn O (c.get f) c.hd n i (qao8 d) (h u _ (I.tok _) d)
theorem qK5(I:Ov X G F H s)(e:H a=some (.ins C J fs))(c:Cls X.K C)(k:Ia X.K C m g)(l:fs.lookup m=none)(h:Q (.ref g,[.ref a]) s):Ka (Kb X.prog X.w) A (getMethod (.ref a) m pl) Q E s:=by
 obtain⟨b,O,r,_,_,_⟩:=qU7 I.hok e;have d:b m=none:=RelO.none_of (by rw[<- l];exact r m);exact qaD0 I.kIn O (c.get m) k.at_ k.fn d h
theorem qac2(I:Ov X G F H s)(e:H a=some (.ins C J fs))(c:Cls X.K C)(n:qg8 X.K C f)(D:fs.length < 1000)(k:Os y u)(h:∀ s',Ov X G F (upd H a (.ins C J (Bw f y fs))) s'->Q () s'):Ka (Kb X.prog X.w) A (setAttr (.ref a) f u) Q E s:=by
 obtain⟨d,O,r,i,_,j⟩:=qU7 I.hok e;have l:(fs.map (·.1)).length<=Jn:=by rw[zA8,Ju];lia
 refine qaH5 I.kIn O c.sa c.po n.taker c.hd i l λ m O' p=>h _ ?_
 have t:∃ o,m.get? J=some o:=let ⟨o,_,_,e',_⟩:=O'.ns;⟨o,e'⟩
 refine I.write (x:=a) (e:=J) (by rw[e];exact True.intro) (.inr j) (λ b q v z=>(p.2 b v).trans z) t ?_;refine⟨by rw[qc9 O.ne];exact j,?_,O.ne,O'.obj,_,O'.ns,λ g=>?_,λ g B=>?_⟩
 . have:=qD1 f y fs;lia
 . show RelO ((Bw f y fs).lookup g) (if g=f then some u else d g)
   rw[qC9];by_cases q:g=f
   . rw[if_pos q,if_pos q];exact k
   rw[if_neg q,if_neg q];exact r g
 by_cases q:g=f
 . rw[q];exact(qF6 f y fs).1
 refine(qF6 f y fs).2 g (i g λ z=>B ?_);show (if g=f then some u else d g)=none;rw[if_neg q];exact z
theorem Ov.made(I:Ov X G F H s):Ov X G F (upd (upd H s.heap.objs.size (.own (s.heap.objs.size+1))) (s.heap.objs.size+1) (.ins C s.heap.objs.size []))
   { s with heap:=(s.heap.push W.emptyDict).push (W.instObj C s.heap.objs.size) }:=by
 have c:(s.heap.push W.emptyDict).get? s.heap.objs.size=some W.emptyDict:=zAo s.heap rfl;have e2:((s.heap.push W.emptyDict).push (W.instObj C s.heap.objs.size)).get? (s.heap.objs.size+1)=some (W.instObj C s.heap.objs.size):=by
   have:=zAo (s.heap.push W.emptyDict) (o:=W.instObj C s.heap.objs.size) rfl
   rwa[zCg] at this
 have f:(s.heap.push W.emptyDict).Ns s.heap.objs.size (λ _=>none):=⟨W.emptyDict,#[],_,c,rfl,(λ e g=>absurd g (by simp)),λ _=>rfl⟩
 have I1:=I.laid (a:=s.heap.objs.size) (o:=.own (s.heap.objs.size+1)) (h':=s.heap.push W.emptyDict) (t':=s.toks) (λ b u q=>zA2 _ q) (zA3 _) ⟨_,c⟩;refine I1.laid (a:=s.heap.objs.size+1) (o:=.ins C s.heap.objs.size []) (t':=s.toks) (λ b u q=>zA2 _ q) (zD0 (zCg _ _)) ?_;have d:s.heap.objs.size≠s.heap.objs.size+1:=zAt (Nat.lt_succ_self _);refine⟨by rw[qc9 d,qc3],zBh _,d,e2,λ _=>none,(Heap.Ns1.of_empty f).at λ o q=>zA2 _ q,λ _=>True.intro,λ y h=>absurd rfl h⟩
theorem qaQ5(a:Jt e f env (eval e env)=eval e env)(h:Ka (Kb prog w) A (eval e env) (λ o s₁=>Ka (Kb prog w) A (getAttr o f true) Q E s₁) E s):Ka (Kb prog w) A (eval (.Attribute e f pos) env) Q E s :=
 Attribute_any_ h (by rw[arm_eval_Attribute,a])
end
def tFld(K:Nl)(ta:TE)(f:Str):TE:=λ b H Q=>ta b H λ x H1=>∃ a C dx fs v,x=.ref a/\H1 a=some (.ins C dx fs)/\Cls K C/\qg8 K C f/\fs.lookup f=some v/\Q v H1
def sFld(K:Nl)(ta tv:TE)(f:Str):TS:=λ D b H=>tv b H λ y H1=>ta b H1 λ x H2=>∃ a C dx fs,x=.ref a/\H2 a=some (.ins C dx fs)/\Cls K C/\qg8 K C f/\fs.length < 1000 /\
 D.nx b (upd H2 a (.ins C dx (Bw f y fs)))
section
variable{X:Cx}{o e B:Kf}{f:Str}{pos pos':Pos}{E tv:TE}
theorem qaK3(d:PE X e E)(g:Jt e f X.env (eval e X.env)=eval e X.env):PE X (.Attribute e f pos) (tFld X.K E f):=by
 intro D8 s A H Q I h;refine qaQ5 g (thn (d D8 s A H _ I h) λ u o b=>?_);obtain⟨x,H1,I1,i,a,C,p,r,v,j,k,c,n,l,q⟩:=b;subst j;obtain rfl:u=M7 a:=i;exact qai1 I1 k c n l λ t w I2 m=>⟨v,H1,I2,m,q⟩
theorem qaS8(d:PE X o E)(e:PE X B tv)(g:swapsWith B (some (.Attribute o f pos')) pos.line X.env=pure false):PS X (.Assign [.Attribute o f pos'] B pos) (sFld X.K E tv f):=by
 intro D8 s A H D I h;refine plainObj_wpAny_Assign_Attribute (thn (e D8 s A H _ I h) λ u i b=>?_) g;obtain⟨y,H1,I1,j,q⟩:=b;refine thn (d D8 i A H1 _ I1 q) λ k t b=>?_
 obtain⟨x,H2,I2,m,a,C,v,w,p,r,c,n,l,q2⟩:=b;subst p;obtain rfl:k=M7 a:=m;exact qac2 I2 r c n l j λ z I3=>⟨A,_,I3,q2⟩
end
section
variable{X:Cx}{F:List (γ×Obj)}{D:St}{H:Hp}{s:Sh}{A:Kd}{E Q:V'->Sh->Prop}{c:V'}{b:Bool}
inductive Ee(K:Nl)(H:Hp):V->V'->Prop where
 | non:Ee K H .non (.type "NoneType")
 | bl (x:Bool):Ee K H (.bl x) (.type "bool")
 | int (i:Int):Ee K H (.int i) (.type "int")
 | str (x:Str):Ee K H (.str x) (.type "str")
 | flt (x:UInt64):Ee K H (.flt x) (.type "float")
 | l {a:γ} {xs:List V} (e:H a=some (.l xs)):Ee K H (.ref a) (.type "list")
 | frz {a:γ} {o:Obj} {xs:List V} (e:H a=some (.frz o (.l xs))):Ee K H (.ref a) (.type "list")
 | q {a:γ} {xs:List V} (e:H a=some (.q xs)):Ee K H (.ref a) (.type "tuple")
 | dK {a:γ} {kvs:List (Key×V)} (e:H a=some (.dK kvs)):Ee K H (.ref a) (.type "dict")
 | dT {a:γ} {kvs:List (List Key×V)} (e:H a=some (.dT kvs)):Ee K H (.ref a) (.type "dict")
 | ins {a C dx:γ} {fs:List (Str×V)} (e:H a=some (.ins C dx fs)) (cl:Cls K C) (ha:W.findIn K (.ref C) "__class__" = some (some (.builtin "object.__class__")))
     (hn:W.specialIn K (.builtin "object.__class__") "__get__" = some (some (.builtin "getset_descriptor.__get__"))) (htk:W.takesIn K (.builtin "object.__class__")=some true)
     (hm:W.mroIn K C (.type "object")=some true):Ee K H (.ref a) (.ref C)
theorem qF9(I:Ov X F D H s)(d:Os x u)(ty:Ee X.K H x t)(e:Nm X.K t c=some b)(h:∀ k,Q (.bool b) { s with toks:=k }) :
   Ka (Kb X.prog X.w) A (call (.builtin "isinstance") [u,c]) Q E s:=by
 cases ty with
 | non=>cases (show u=M8 from d);exact W.kia_one W.kitx_none I.kIn True.intro e (λ z=>nomatch z) h
 | bl y=>cases (show u=M9 y from d);exact W.kia_one W.kitx_bool I.kIn True.intro e (λ z=>nomatch z) h
 | int i=>obtain⟨t,q⟩:=(show ∃ t,u=M' i t from d);cases q;exact W.kia_one W.kitx_int I.kIn True.intro e (λ z=>nomatch z) h
 | str y=>obtain⟨t,q⟩:=(show ∃ t,u=Nb y t from d);cases q;exact W.kia_one W.kitx_str I.kIn True.intro e (λ z=>nomatch z) h
 | flt y=>obtain⟨t,q⟩:=(show ∃ t,u=Nc y t from d);cases q;exact W.kia_one W.kitx_float I.kIn True.intro e (λ z=>nomatch z) h
 | @l a g ea =>
   cases (show u=M7 a from d);obtain⟨_,_,n,_,f⟩:=(show ObjOk X.prog X.w H s.heap a (.l g) from I.hok a _ ea)
   exact W.kia_one W.kitx_list I.kIn ⟨_,f,rfl⟩ e (λ z=>nomatch z) h
 | @frz a ob g ea =>
   cases (show u=M7 a from d);obtain⟨_,_,_,n,_,f⟩:=(show ObjOk X.prog X.w H s.heap a (.frz ob (.l g)) from I.hok a _ ea)
   exact W.kia_one W.kitx_list I.kIn ⟨_,f,rfl⟩ e (λ z=>nomatch z) h
 | @q a g ea =>
   cases (show u=M7 a from d);obtain⟨_,_,_,p⟩:=(show ObjOk X.prog X.w H s.heap a (.q g) from I.hok a _ ea)
   obtain⟨o,f,j,_⟩:=p;exact W.kia_one W.kitx_tuple I.kIn ⟨o,f,j⟩ e (λ z=>nomatch z) h
 | @dK a kvs ea =>
   cases (show u=M7 a from d);obtain⟨_,_,r,_,p⟩:=(show ObjOk X.prog X.w H s.heap a (.dK kvs) from I.hok a _ ea)
   obtain⟨o,l,m,f,j,_⟩:=p;exact W.kia_one W.kitx_dict I.kIn ⟨o,f,j.1⟩ e (λ z=>nomatch z) h
 | @dT a kvs ea =>
   cases (show u=M7 a from d);obtain⟨_,_,g,_,o,l,m,f,j,_⟩:=(show ObjOk X.prog X.w H s.heap a (.dT kvs) from I.hok a _ ea)
   exact W.kia_one W.kitx_dict I.kIn ⟨o,f,j.1⟩ e (λ z=>nomatch z) h
 | @ins a C dx fs ea cl ha hn htk hm =>
   cases (show u=M7 a from d);obtain⟨v,O,_⟩:=qU7 I.hok ea;obtain⟨B,J,_⟩:=O.look;exact W.kia_one (W.kitx_own (cl.get _) cl.hd ha hn htk hm) I.kIn J e (λ z=>nomatch z) h
end
structure Oy(cm:Bool)(k:Nat)(A:Kd):Prop where
 hd:cm=true->A.handled=none
 dp:A.depth+3 * k+5 < recursionLimit
 un:A.units+16 * k+200 < cLine
abbrev Room:=Oy true
theorem Oy.mono(r:Oy cm k A)(h:j<=k):Oy cm j A:=⟨r.hd,by have:=r.dp;lia,by have:=r.un;lia⟩
theorem Oy.deeper(r:Oy cm (k+1) A)(env:Env):Oy cm k (A.deeper env) :=
 ⟨r.hd,by have:=r.dp;show A.depth+1+3 * k+5 < _;lia,by have:=r.un;show A.units+3+16 * k+200 < _;lia⟩
theorem qaf8{A:Kd}:(A.under (.builtin "type.__call__" ⟨.ref C::us,kw⟩)).depth=A.depth+1:=by
 first | rfl | simp[Around.under,Code.weight,Code.isCreation,Code.isGuard,Code.isCaller,Code.frames,Code.isFrame,guardIds]
theorem qaf6{A:Kd}:(A.under (.builtin "type.__call__" ⟨.ref C::us,kw⟩)).units=A.units+1:=by
 first | rfl | simp[Around.under,Code.cUnits,Code.frames,Code.isFrame]
theorem Oy.make(r:Oy cm (k+1) A)(C:γ)(us:List V')(kw:List (Str×V')):Oy cm k (A.under (.builtin "type.__call__" ⟨.ref C::us,kw⟩)) :=
 ⟨r.hd,by have:=r.dp;rw[qaf8];lia,by have:=r.un;rw[qaf6];lia⟩
theorem Oy.depth(r:Oy cm k A):A.depth < recursionLimit:=by have:=r.dp;lia
theorem Oy.units(r:Oy cm k A):A.units+64 < cLine:=by have:=r.un;lia
theorem Oy.units0(r:Oy cm k A):A.units < cLine:=by have:=r.un;lia
def tNil:TA:=λ _ H Q=>Q [] H
def Ib(ta:TE)(tr:TA):TA:=λ a H Q=>ta a H λ x H1=>tr a H1 λ xs H2=>Q (x::xs) H2
section
variable{X:Cx}{e:Kf}{v:List Kf}{te:TE}{t:TA}{o:Pos}
theorem qy3:PA X [] tNil:=λ _ _ _ _ H Q I h=>Calls.spliced_nil ⟨[],H,I,.nil,h⟩
theorem qh0(b:PE X e te)(c:PA X v t)(d:Jm (e::v) X.env=(false,eval e X.env)::Jm v X.env:=by rfl):PA X (e::v) (Ib te t):=by
 intro o D8 s n H Q I h;rw[d];show Ka _ _ (spliced ((false,eval e X.env)::backTo o (Jm v X.env))) _ _ s;refine Calls.spliced_cons (thn (b D8 s n H _ I h) λ u f a=>?_);obtain⟨x,H1,I1,g,i⟩:=a;exact thn (c o D8 f n H1 _ I1 i) λ l m ⟨j,H2,I2,k,q2⟩=>⟨x::j,H2,I2,.cons g k,q2⟩
def tTup(t:TA):TE:=λ n H Q=>t n H λ xs H1=>xs.length<=Jn/\∀ p,H1 p=none->Q (.ref p) (upd H1 p (.q xs))
def tLst(t:TA):TE:=λ n H Q=>t n H λ xs H1=>xs.length<=Jn/\∀ p,H1 p=none->Q (.ref p) (upd H1 p (.l xs))
theorem qaJ9{x1}(h:PA X v t):PE X (.Tuple v x1 o) (tTup t):=by
 intro D8 s n H Q I d;refine wpAny_Tuple_spliced (thn (h o D8 s n H _ I d) λ f a c=>?_);obtain⟨g,H1,I1,r,z,q⟩:=c;refine⟨by rw[<- r.length];exact z,?_⟩;have i:H1 a.heap.objs.size=none:=I1.hok.fresh (zA3 _);refine⟨.ref a.heap.objs.size,upd H1 a.heap.objs.size (.q g),I1.laid (t':=a.toks) (λ b u e=>zA2 _ e) (zA3 _) ?_,rfl,q _ i⟩;exact⟨z,f,r,⟨_,zAo _ rfl,rfl,_,rfl⟩⟩
theorem qaz3(h:PA X v t):PE X (.List v o) (tLst t):=by
 intro D8 s n H Q I d;refine wpAny_List_spliced (thn (h o D8 s n H _ I d) λ f a c=>?_);obtain⟨g,H1,I1,r,z,q⟩:=c;refine⟨by rw[<- r.length];exact z,?_⟩;have i:H1 a.heap.objs.size=none:=I1.hok.fresh (zA3 _);refine⟨.ref a.heap.objs.size,upd H1 a.heap.objs.size (.l g),I1.laid (t':=a.toks) (λ b u e=>zA2 _ e) (zA3 _) ?_,rfl,q _ i⟩;exact⟨z,f,0,r,zAo _ rfl⟩
end
abbrev Sp:=List V->Hp->VK->XK->Prop
abbrev CXT:=List Env->Hp->Sh->XK->V'->Sh->Prop
structure Env0(P:Kc)(w:Ke)(K:Nl)(mg:Str->Option V')(base:Heap)(A:Kd)(outer:List Env)(s:Sh)(H:Hp):Prop where
 frames:A.frames=some outer
 mod:Mod K mg base
 bs:∀ b o,base.get? b=some o->s.heap.get? b=some o/\H b=none
 bsz:base.objs.size<=s.heap.objs.size
 funs:s.heap.FunFrames base outer
 frf:∀ b∈frs outer,H b=none
 hok:HOk P w H s.heap
 bare:AllBare s.gens
def CE(outer:List Env)(P:Kc)(w:Ke)(H:Hp)(s:Sh)(Q:VK)(u:V')(s':Sh):Prop :=
 ∃ v H',s'.os=s.os/\AllBare s'.gens/\Un (frs outer) [] H H' s.heap s'.heap/\HOk P w H' s'.heap/\Os v u/\Q v H'
def CR(CX:CXT)(outer:List Env)(P:Kc)(w:Ke)(H:Hp)(s:Sh)(Q:VK)(E:XK)(r:Result)(s':Sh):Prop :=
 match r with
 | .ok (.ret u)=>CE outer P w H s Q u s'
 | .ok _=>False
 | .error e=>CX outer H s E e s'
structure Dq(cm:Bool)(P:Kc)(w:Ke)(K:Nl)(mg:Str->Option V')(base:Heap)(CX:CXT)(k:Nat)(f:γ)(fd:δ)(ps:List Str)(sp:Sp):Prop where
 len:∀ vs H Q E,sp vs H Q E->vs.length=ps.length
 run:∀(A:Kd)(outer:List Env)(s:Sh)(H:Hp)(args:Args)(us:List V')(vs:List V)(Q:VK)(E:XK),Oy cm k A->Env0 P w K mg base A outer s H->BindsTo s fd args (ps.zip us)->Ot vs us->sp vs H Q E ->
   codeAny (Kb P w) A (.call (.ref f) args) (CR CX outer P w H s Q E) s
abbrev Fo:=Dq true
theorem Env0.make{K:Nl}(e:Env0 P w K mg base A outer s H)(C:γ)(us:List V')(kw:List (Str×V')) :
   Env0 P w K mg base (A.under (.builtin "type.__call__" ⟨.ref C::us,kw⟩)) outer s H:=⟨by first | exact e.frames | (simpa[Around.under,Code.envs,Code.isFrame,pushEnvs] using e.frames),e.mod,e.bs,e.bsz,e.funs,e.frf,e.hok,e.bare⟩
section
variable{X:Cx}{k:List (γ×Obj)}{j:St}{H:Hp}{s s':Sh}
theorem Ov.env0(I:Ov X k j H s):Env0 X.prog X.w X.K X.mg X.base X.A X.stack s H :=
 ⟨I.ok.frames,I.ok.mod,I.bs,zAk I.ok.bsz I.sz,I.stack,I.stkFree,I.hok,I.bare⟩
theorem Ov.after(I:Ov X k j H s)(h:CE X.stack X.prog X.w H s Q u s'):EP X k j Q u s':=by
 obtain⟨v,H',e,bare,f,a,r,q⟩:=h;obtain⟨i,g,d,t,c⟩:=s';obtain rfl:c=s.os:=e;exact⟨v,H',I.call (h':=i) (g':=g) (d':=d) (t':=t) (ch:=[]) f a bare (λ b z=>absurd z (by simp)),r,q⟩
end
def Ic(sp:Sp)(dvs:List V)(E:St->XK)(t:TA):TE:=λ a H Q=>t a H λ vs H1=>sp (vs++dvs) H1 Q (E a)
def Fw(C:γ)(m:Str)(sp:Sp)(dvs:List V)(E:St->XK)(ta:TE)(t:TA):TE:=λ b H Q=>ta b H λ x H1=>∃ a dx fs,x=.ref a/\H1 a=some (.ins C dx fs)/\fs.lookup m=none /\
 t b H1 λ vs H2=>sp (x::(vs++dvs)) H2 Q (E b)
def tMake(C:γ)(sp:Sp)(dvs:List V)(E:St->XK)(t:TA):TE:=λ a H Q=>t a H λ vs H1=>∀ x dx,H1 x=none->H1 dx=none->dx≠x ->
 sp (.ref x::(vs++dvs)) (upd (upd H1 dx (.own x)) x (.ins C dx [])) (λ v H2=>v=.non/\Q (.ref x) H2) (E a)
def Binds(K:Nl)(fd:δ)(ps:List Str)(ds:List V'):Prop :=
 ∀(s:Sh)(us:List V'),K.In s.heap->(us++ds).length=ps.length->BindsTo s fd ⟨us,[]⟩ (ps.zip (us++ds))
theorem Binds.all{K:Nl}(h:∀ us:List V',us.length=ps.length->bindArgs fd ⟨us,[]⟩=pure (ps.zip us)):Binds K fd ps []:=λ s us _ a=>by
 rw[zAd] at a ⊢;exact .of_eq (h us a)
def qM0(CX:CXT)(X:Cx)(E:St->XK):Prop:=∀(D8:List (γ×Obj))(a:St)(H:Hp)(s:Sh)(e:V')(s':Sh),Ov X D8 a H s->CX X.stack H s (E a) e s'->X.xe e s'
section
variable{X:Cx}{Y:Bool}{CX:CXT}{k:Nat}{f C:γ}{Z:δ}{ps:List Str}{sp:Sp}{dvs:List V}{ds:List V'}{E:St->XK}{x m:Str}{p S T:Pos}{e o:Kf}{U:List Kf}{ta:TE}{t:TA}
theorem qay5(F:Dq Y X.prog X.w X.K X.mg X.base CX k f Z ps sp)(c:Oy Y k X.A)(d:Binds X.K Z ps ds)(g:Ot dvs ds)(i:qM0 CX X E)(I:Ov X D8 R H s)(r:Ot vs us)(h:sp (vs++dvs) H Q (E R)):Ka (Kb X.prog X.w) X.A (call (.ref f) us) (EP X D8 R Q) X.xe s:=by
 have b:Ot (vs++dvs) (us++ds):=r.append g;have j:(us++ds).length=ps.length:=by rw[<- b.length];exact F.len _ _ _ _ h
 refine wpAny_call (codeAny_mono (F.run X.A X.stack s H ⟨us,[]⟩ (us++ds) (vs++dvs) Q (E R) c I.env0 (d s us I.kIn j) b h) λ r l a=>?_);cases r with
 | error e=>exact i D8 R H s e l I a
 | ok m =>
   cases m with
   | ret u=>exact I.after a
   | next=>exact Oi a
   | brk=>exact Oi a
   | cont=>exact Oi a
theorem qat7(F:Dq Y X.prog X.w X.K X.mg X.base CX k f Z ps sp)(d:Oy Y k X.A)(g:Gl X x)(hm:X.mg x=some (.ref f))(i:W.keepIn X.K (.ref f)=true)(j:Binds X.K Z ps ds)(l:Ot dvs ds)(m:qM0 CX X E)(n:PA X (e::U) t)(a:N' x:=by decide)(o:Jm (e::U) X.env=(false,eval e X.env)::Jm U X.env:=by rfl)(b:(backTo S (Jm U X.env)).any (·.1)=false:=by rfl) :
   PE X (.Call (.Name x p) (e::U) [] S) (Ic sp dvs E t):=by
 intro D8 s R H Q I h;refine wpAny_Call_Name_kw (qag5 I g hm ?_ a);refine W.callWith_K (h₀:=X.base) I.ok.mod.kin i (thn (n S D8 s R H _ I h) λ u v c=>?_) o b;obtain⟨y,H1,I1,r,q⟩:=c;refine⟨I1.kIn,?_⟩;exact qay5 F d j l m I1 r q
theorem qat5(n:PE X o ta)(c:Cls X.K C)(hm:Ia X.K C m f)(F:Dq Y X.prog X.w X.K X.mg X.base CX k f Z ps sp)(p:Oy Y k X.A)(v:Binds X.K Z ps ds)(y:Ot dvs ds)(z:qM0 CX X E)(B:PA X (e::U) t)(d:Jm (e::U) X.env=(false,eval e X.env)::Jm U X.env:=by rfl)(g:(backTo S (Jm U X.env)).any (·.1)=false:=by rfl)(D:eval (.Call (.Attribute o m T) (e::U) [] S) X.env=(do
     let ov <- eval o X.env
     standAt T.atName
     let (f,first) <- holding [ov] (getMethod ov m pl)
     callWith S f first (backTo S (Jm (e::U) X.env)) (backToKw S (Jx [] X.env))):=by rfl) :
   PE X (.Call (.Attribute o m T) (e::U) [] S) (Fw C m sp dvs E ta t):=by
 intro D8 s R H Q I h;refine W.methodCall_KW (pl:=pl) (thn (n D8 s R H _ I h) λ u G b=>?_) D;obtain⟨x,H1,I1,J,a,N,O,L,M,l,q⟩:=b;subst L;obtain rfl:u=M7 a:=J;refine qK5 I1 M c hm l ?_;refine W.callWith_K (first:=[.ref a]) (h₀:=X.base) I.ok.mod.kin hm.kp (thn (B S D8 G R H1 _ I1 q) λ i P b=>?_) d g;obtain⟨j,H2,I2,r,q2⟩:=b;refine⟨I2.kIn,?_⟩;exact qay5 (us:=.ref a::i) (vs:=.ref a::j) F p v y z I2 (.cons rfl r) q2
theorem qP6(d:PE X o ta)(c:Cls X.K C)(hm:Ia X.K C m f)(F:Dq Y X.prog X.w X.K X.mg X.base CX k f Z ps sp)(e:Oy Y k X.A)(g:Binds X.K Z ps ds)(i:Ot dvs ds)(j:qM0 CX X E)(n:eval (.Call (.Attribute o m T) [] [] S) X.env=(do
     let ov <- eval o X.env
     standAt T.atName
     let (f,first) <- holding [ov] (getMethod ov m pl)
     callWith S f first (backTo S (Jm [] X.env)) (backToKw S (Jx [] X.env))):=by rfl) :
   PE X (.Call (.Attribute o m T) [] [] S) (Fw C m sp dvs E ta tNil):=by
 intro D8 s R H Q I h;refine W.methodCall_KW (pl:=pl) (thn (d D8 s R H _ I h) λ u v b=>?_) n;obtain⟨x,H1,I1,p,a,y,z,r,t,l,q⟩:=b;subst r;obtain rfl:u=M7 a:=p;refine qK5 I1 t c hm l ?_;exact W.callWith_K0 (first:=[.ref a]) I1.kIn hm.kp (qay5 (us:=[.ref a]) (vs:=[.ref a]) F e g i j I1 (.cons rfl .nil) q)
structure Mk(K:Nl)(C f:γ):Prop where
 makes:W.makesIn K C=true
 init:W.findIn K (.ref C) "__init__" = some (some (.ref f))
 fn:W.isFn K (.ref f)=true
 kp:W.keepIn K (.ref C)=true
theorem qay4(M:Mk X.K C f)(F:Dq Y X.prog X.w X.K X.mg X.base CX k f Z ps sp)(d:Oy Y (k+1) X.A)(g:Binds X.K Z ps ds)(i:Ot dvs ds)(j:qM0 CX X E)(I:Ov X D8 R H s)(r:Ot vs us)(h:∀ x dx,H x=none->H dx=none->dx≠x->sp (.ref x::(vs++dvs)) (upd (upd H dx (.own x)) x (.ins C dx [])) (λ v H2=>v=.non/\Q (.ref x) H2) (E R)) :
   Ka (Kb X.prog X.w) X.A (call (.ref C) us) (EP X D8 R Q) X.xe s:=by
 have b:=h (s.heap.objs.size+1) s.heap.objs.size (I.hok.fresh (Nat.le_succ _)) (I.hok.fresh (zA3 _)) (zAt (Nat.lt_succ_self _));have I2:=Ov.made (C:=C) I;have c:Ot (V.ref (s.heap.objs.size+1)::(vs++dvs)) (M7 (s.heap.objs.size+1)::(us++ds)):=.cons rfl (r.append i);have l:(M7 (s.heap.objs.size+1)::us++ds).length=ps.length:=by
   have e:=c.length;rw[F.len _ _ _ _ b] at e;exact e.symm
 refine wpAny_call (qaB5 (f:=f) I.kIn M.makes M.init (zBz.mp M.fn) (codeAny_mono (F.run _ X.stack _ _ ⟨M7 (s.heap.objs.size+1)::us,[]⟩ (M7 (s.heap.objs.size+1)::(us++ds)) _ _ (E R) (d.make C us [])
   (I2.env0.make C us []) (g _ (M7 (s.heap.objs.size+1)::us) I2.kIn l) c b) λ r m a=>?_))
 cases r with
 | error e=>exact j D8 R _ _ e m I2 a
 | ok n =>
   cases n with
   | ret u =>
     obtain⟨v,H',I3,o,p,q⟩:=I2.after a;subst p;exact⟨o,⟨V.ref (s.heap.objs.size+1),H',I3,rfl,q⟩⟩
   | next=>exact Oi a
   | brk=>exact Oi a
   | cont=>exact Oi a
theorem qad7(M:Mk X.K C f)(F:Dq Y X.prog X.w X.K X.mg X.base CX k f Z ps sp)(d:Oy Y (k+1) X.A)(g:Gl X x)(hm:X.mg x=some (.ref C))(i:Binds X.K Z ps ds)(j:Ot dvs ds)(l:qM0 CX X E)(m:PA X (e::U) t)(a:N' x:=by decide)(n:Jm (e::U) X.env=(false,eval e X.env)::Jm U X.env:=by rfl)(b:(backTo S (Jm U X.env)).any (·.1)=false:=by rfl) :
   PE X (.Call (.Name x p) (e::U) [] S) (tMake C sp dvs E t):=by
 intro D8 s R H Q I h;refine wpAny_Call_Name_kw (qag5 I g hm ?_ a);refine W.callWith_K (h₀:=X.base) I.ok.mod.kin M.kp (thn (m S D8 s R H _ I h) λ o u c=>?_) n b;obtain⟨v,H1,I1,r,q⟩:=c;refine⟨I1.kIn,?_⟩;exact qay4 M F d i j l I1 r q
end
structure qa8(N P:List Str)(sc:Scope):Prop where
 kind:sc.kind=.function
 co:sc.isCoroutine=false
 gen:sc.isGenerator=false
 nd:N.Nodup
 pre:N.take P.length=P
 par:∀ x∈P,sc.names.lookup x=some .local∨sc.names.lookup x=some .cell
 nofree:∀ y∈sc.names,y.2≠.free
theorem qX0{Kr:Str->Option NameKind}{x:Str}:∀{binds:List (Str×V')}{m:Str->Option V'},(∀ v,(x,v)∉binds)->bindL Kr binds m x=m x
 | [],_,_=>rfl
 | (n,v)::r,m,h=>by
   unfold bindL;rw[qX0 λ w a=>h w (zA6 _ a)];split
   . have:x≠n:=by rintro rfl;exact h v zAh
     simp[this]
   rfl
theorem qX2{Kr:Str->Option NameKind}{x:Str}:∀{binds:List (Str×V')}{m:Str->Option V'},(∀ v,(x,v)∉binds)->bindC Kr binds m x=m x
 | [],_,_=>rfl
 | (n,v)::r,m,h=>by
   unfold bindC;rw[qX2 λ w a=>h w (zA6 _ a)];split
   . rfl
   have:x≠n:=by rintro rfl;exact h v zAh
   simp[this]
theorem qX1{Kr:Str->Option NameKind}{x:Str}{v:V'}:∀{P:List Str}{vs:List V'}{i:Nat}{m:Str->Option V'},P.Nodup->P[i]? = some x->vs[i]? = some v->Kr x=some .local ->
   bindL Kr (P.zip vs) m x=some v
 | [],_,_,_,_,h,_,_=>by simp at h
 | _::_,[],_,_,_,_,h,_=>by simp at h
 | p::P,w::vs,0,m,nd,h1,h2,hk=>by
   simp at h1 h2;subst h1;subst h2;show bindL Kr ((p,w)::P.zip vs) m p=_;unfold bindL;rw[qX0 λ v a=>(zCn.mp nd).1 (Lv a).1,if_pos hk];simp
 | p::P,w::vs,i+1,m,nd,h1,h2,hk=>by
   show bindL Kr ((p,w)::P.zip vs) m x=_;unfold bindL;exact qX1 (i:=i) (zCn.mp nd).2 (by simpa using h1) (by simpa using h2) hk
theorem qX3{Kr:Str->Option NameKind}{x:Str}{v:V'}:∀{P:List Str}{vs:List V'}{i:Nat}{m:Str->Option V'},P.Nodup->P[i]? = some x->vs[i]? = some v->Kr x≠some .local ->
   bindC Kr (P.zip vs) m x=some v
 | [],_,_,_,_,h,_,_=>by simp at h
 | _::_,[],_,_,_,_,h,_=>by simp at h
 | p::P,w::vs,0,m,nd,h1,h2,hk=>by
   simp at h1 h2;subst h1;subst h2;show bindC Kr ((p,w)::P.zip vs) m p=_;unfold bindC;rw[qX2 λ v a=>(zCn.mp nd).1 (Lv a).1,if_neg hk];simp
 | p::P,w::vs,i+1,m,nd,h1,h2,hk=>by
   show bindC Kr ((p,w)::P.zip vs) m x=_;unfold bindC;exact qX3 (i:=i) (zCn.mp nd).2 (by simpa using h1) (by simpa using h2) hk
noncomputable def start(N:List Str)(vs:List V):St:=vs.map some++Kv (N.length - vs.length) none
noncomputable def Dx(cm:Bool)(CX:CXT)(P:Kc)(w:Ke)(K:Nl)(mg:Str->Option V')(base:Heap)(N:List Str)(qual:Str)(scope:Scope)(f:γ)(cd:V')(A:Kd)(outer:List Env)(s:Sh)(H:Hp)(E:XK):Cx where
 prog:=P
 w:=w
 K:=K
 mg:=mg
 base:=base
 A:=A.deeper (envOfC qual scope s.heap.objs.size f cd)
 N:=N
 s₀:=s
 H₀:=H
 env:=envOfC qual scope s.heap.objs.size f cd
 outer:=outer
 stack:=envOfC qual scope s.heap.objs.size f cd::outer
 ex:=[]
 calm:=cm
 fn:=λ _=>true
 pn:=[]
 xe:=λ e s'=>Ka (Kb P w) (A.deeper (envOfC qual scope s.heap.objs.size f cd)) (leaving (envOfC qual scope s.heap.objs.size f cd) e) (λ _ a=>CX outer H s E e a) (λ b a=>CX outer H s E b a) s'
theorem qaj1{sc:Scope}(h:sc.names.lookup x=some .cell):∃ c,(cellsFrom n sc.names []).lookup x=some c:=by
 have q:=W.cellsFrom_some sc.names n [] (.inl h);exact zB8.mp q
theorem qao5{K:Nl}(S:qa8 N ps scope)(G:cm=true->A.handled=none)(g:Env0 P w K mg base A outer s H)(M:vs.length=ps.length)(r:Ot vs us)(x:InCallC s s.heap.objs.size (bindL (envOfC qual scope s.heap.objs.size f cd).kindOf (ps.zip us) λ _=>none) (cellsFrom (s.heap.objs.size+1) scope.names []) (bindC (envOfC qual scope s.heap.objs.size f cd).kindOf (ps.zip us) λ _=>none) C) :
   Ov (Dx cm CX P w K mg base N qual scope f cd A outer s H E) [] (start N vs) H C:=by
 have I:ps.length<=N.length:=by have:=congrArg Kx S.pre;rw[zB0] at this;lia
 obtain⟨t,O,rfl,D⟩:=x.done;have j:∀ b:γ,b∉(Dx cm CX P w K mg base N qual scope f cd A outer s H E).ex:=λ b z=>absurd (show b∈([]:List γ) from z) (by simp)
 refine⟨⟨g.mod,S.kind,rfl,rfl,zA3 _,λ y z c t d=>?_,λ y l=>?_,λ y c _ h=>?_,G,Around.frames_deeper g.frames,.inr ⟨rfl,rfl⟩,λ b z=>absurd z (j b),g.bs,g.bsz,λ b _ _=>j b,λ b z=>absurd z (j b),g.funs,g.frf⟩,
   rfl,g.bare,Un.kept D,⟨_,x.toInCall.ns,λ i y v t d Q=>?_⟩,λ y c h=>⟨_,x.cell y c h⟩,g.hok.fresh (zA3 _),λ y c h=>?_,λ p m=>absurd (show p∈([]:List (γ×Obj)) from m) (by simp),g.hok.kept D,?_⟩
 . exact name_of_addr x.apart (PySem.mem_of_lookup t) (PySem.mem_of_lookup d)
 . have l:scope.names.lookup y=some .cell∨scope.names.lookup y=some .free:=l
   rcases l with l | l
   . exact qaj1 l
   exact absurd rfl (S.nofree _ (PySem.mem_of_lookup l))
 . exact zBa (x.above y c (PySem.mem_of_lookup h))
 . have B:i < vs.length:=by
     unfold start at d;by_cases B:i < vs.length
     . exact B
     rw[zC9 (by simpa using B)] at d;rw[List.getElem?_replicate] at d;split at d<;>cases d
   have J:vs[i]? = some v:=by
     unfold start at d;rw[zAp (by simpa using B),zBe] at d;cases e:vs[i]? with
     | none=>rw[e] at d;cases d
     | some a=>rw[e] at d;cases d;rfl
   obtain⟨u,F,L⟩:=r.get J;have m:ps[i]? = some y:=by
     rw[<- S.pre,List.getElem?_take_of_lt (by lia)];exact t
   have o:ps.Nodup:=by rw[<- S.pre];exact S.nd.sublist (zBm _ _)
   refine⟨u,L,?_⟩;rcases S.par y (zB1 m) with k | k
   . exact .inl ⟨k,qX1 o m F k⟩
   obtain⟨c,e⟩:=qaj1 (n:=s.heap.objs.size+1) k;refine .inr ⟨.inl k,c,e,?_⟩;have q:=x.cell y c e;rw[qX3 o m F (by show scope.names.lookup y≠_;rw[k];decide)] at q;exact q
 . exact g.hok.fresh (zBa (x.above y c (PySem.mem_of_lookup h)))
 unfold start;show _=N.length;rw[zAe,zA8,List.length_replicate];lia
theorem Ie{K:Nl}{kV:V'}{i:Array (Option V')}(M:K.lookup f=some ⟨oc,L,.func (W.fnOf name qual params body scope B kV d C F a D),i⟩)(j:W.codeIn K a qual=true)(S:qa8 N ps scope)(len:∀ vs H Q E,sp vs H Q E->vs.length=ps.length)(hbody:∀(A:Kd)(outer:List Env)(s:Sh)(H:Hp)(vs:List V)(Q:VK)(E:XK),Oy cm k (A.deeper (envOfC qual scope s.heap.objs.size f a))->sp vs H Q E ->
     ∃ t,PSs (Dx cm CX P w K mg base N qual scope f a A outer s H E) body t/\t { nx:=λ _ H'=>Q .non H',rt:=Q } (start N vs) H) :
   Dq cm P w K mg base CX (k+1) f (W.fnOf name qual params body scope B kV d C F a D) ps sp:=by
 refine⟨len,λ A outer s H args O vs Q E l g R r h=>?_⟩;have T:=len _ _ _ _ h;have KX:K.In s.heap:=g.mod.kin.keeps λ b o e=>(g.bs b o e).1
 have m:s.heap.NoLimit:=g.mod.nolimit.keeps λ b o e=>(g.bs b o e).1
 have hkind:∀ y∈ps.zip O,scope.names.lookup y.1=some .local∨(scope.names.lookup y.1=some .cell/\((cellsFrom (s.heap.objs.size+1) scope.names []).lookup y.1).isSome=true):=λ ⟨n,v⟩ U=>by
   rcases S.par n (Lv U).1 with q | q
   . exact .inl q
   exact .inr ⟨q,W.cellsFrom_some _ _ _ (.inl q)⟩
 refine codeAny_call_function l.depth (KX _ _ M) rfl S.co S.gen rfl (W.codeRec_of KX j) (R _ _ _ _ ?_);refine wpAny_newFunctionEnv_cells S.kind hkind λ X Y G x=>?_
 subst Y;refine⟨m.keeps x.toInCall.keep,codeAny_func ?_⟩;obtain⟨t,Z,hq⟩:=hbody A outer s H vs Q E (l.deeper _) h;have I:Ov (Dx cm CX P w K mg base N qual scope f a A outer s H E) [] (start N vs) H G:=qao5 S l.hd g T r x;refine Jy (Z [] G (start N vs) H _ I hq) (λ fl p c=>?_) λ e p c=>c
 have fin:∀{σ':St}{H':Hp}{v:V}{u:V'},Ov (Dx cm CX P w K mg base N qual scope f a A outer s H E) [] σ' H' p->Os v u->Q v H'->CE outer P w H s Q u p :=
   λ{σ' H' v u} J z q=>⟨v,H',J.os,J.bare,J.base,J.hok,z,q⟩
 cases fl with
 | ret u =>
   obtain⟨v,σ',H',J,z,q⟩:=c;exact fin J z q
 | next =>
   obtain⟨σ',H',J,q⟩:=c;exact fin (v:=V.non) (u:=M8) J rfl q
 | brk =>
   obtain⟨_,_,_,q⟩:=c;exact Oi q
 | cont =>
   obtain⟨_,_,_,q⟩:=c;exact Oi q
section
variable{X:Cx}{x:Str}{p u:Pos}{e:Kf}{v:List Kf}{t:TA}{w T:String}{r:List V->Hp->VK->Prop}
def tCB(r:List V->Hp->VK->Prop)(t:TA):TE:=λ q H Q=>t q H λ vs H1=>r vs H1 Q
theorem qaz7(c:CallR X (.builtin w) r)(d:Gl X x)(hm:X.mg x=none)(f:Jr x=some (.builtin w))(g:PA X (e::v) t)(i:x ≠ "__name__" := by decide)(a:N' x:=by decide)(j:Jm (e::v) X.env=(false,eval e X.env)::Jm v X.env:=by rfl)(b:(backTo u (Jm v X.env)).any (·.1)=false:=by rfl):PE X (.Call (.Name x p) (e::v) [] u) (tCB r t):=by
 intro D8 s q H Q I h;refine wpAny_Call_Name_kw (qJ9 I d hm f ?_ i a);exact PyProof.Rows.callWith_builtin1 (thn (g u D8 s q H _ I h) λ k l ⟨m,H1,I1,n,o⟩=>c D8 l q H1 m k Q I1 n o) j b
theorem qam8(c:CallR X (.type T) r)(d:Gl X x)(hm:X.mg x=none)(f:Jr x=some (.type T))(g:PA X (e::v) t)(i:x ≠ "__name__" := by decide)(a:N' x:=by decide)(j:Jm (e::v) X.env=(false,eval e X.env)::Jm v X.env:=by rfl)(b:(backTo u (Jm v X.env)).any (·.1)=false:=by rfl):PE X (.Call (.Name x p) (e::v) [] u) (tCB r t):=by
 intro D8 s q H Q I h;refine wpAny_Call_Name_kw (qJ9 I d hm f ?_ i a);exact PyProof.Rows.callWith_type1 (thn (g u D8 s q H _ I h) λ k l ⟨m,H1,I1,n,o⟩=>c D8 l q H1 m k Q I1 n o) j b
end
end L2
namespace HT
open PySem PyProof.Rows
theorem qaD8(A:Kd)(s:Sh)(a:Int)(t:Tok)(c:Int)(u:Tok):∃ e,SeqAt.EqAt A s (.int a t) (.int c u) e/\(e=true↔a=c) :=
 ⟨(a == c),SeqAt.EqAt.int_int a t c u,by simp⟩
section
noncomputable def sIx(n d:Nat):Option Int->Nat
 | none=>d
 | some v=>if v < 0 then (v+(n:Int)).toNat else min v.toNat n
theorem qP3(n d:Nat):sIx n d none=d:=rfl
theorem qac8(n d k:Nat):sIx n d (some (k:Int))=min k n:=by
 show (if (k:Int) < 0 then ((k:Int)+(n:Int)).toNat else min (k:Int).toNat n)=min k n;rw[if_neg (by lia),zC3]
end
end HT
namespace L2
open PySem PySem.Spec PyProof.Rows
variable{its:List V'}{n:Nat}{x:V}{α:Type}
abbrev TO:=St->Hp->(Option Int->Hp->Prop)->Prop
def PO(X:Cx)(e:Option Kf)(t:TO):Prop :=
 ∀(D8:List (γ×Obj))(s:Sh)(a:St)(H:Hp)(Q:Option Int->Hp->Prop),Ov X D8 a H s->t a H Q ->
   Ka (Kb X.prog X.w) X.A (evalPart e X.env) (λ u s'=>∃ o H',Ov X D8 a H' s'/\IsPart u o/\Q o H') X.xe s
def qaG3:TO:=λ _ H Q=>Q none H
def tPart(t:TE):TO:=λ a H Q=>t a H λ x H1=>∃ i,x=.int i/\Q (some i) H1
theorem qz1:∀{us:List V'},Ot (ns.map V.int) us->IntsAre us ns:=by
 induction ns with
 | nil=>intro us r;rw[Ma] at r;cases r;exact .nil
 | cons n ns a =>
   intro us r;rw[zAx] at r;cases r with
   | cons b c =>
     obtain⟨t,e⟩:=b;subst e;exact .cons n t (a c)
section
variable{X:Cx}{e:Kf}{te:TE}{J K:Option Kf}{M L:TO}{N O:Pos}
theorem qad5:PO X none qaG3:=by
 intro D8 s E H Q I h;rw[evalPart_none];exact G' ⟨none,H,I,.none,h⟩
theorem qad4(h:PE X e te):PO X (some e) (tPart te):=by
 intro D8 s E H Q I b;rw[evalPart_some];refine thn (h D8 s E H _ I b) λ u f a=>?_
 obtain⟨x,H1,I1,c,d⟩:=a;obtain⟨i,rfl,q⟩:=d;obtain⟨t,rfl⟩:=c;exact⟨some i,H1,I1,.int i t,q⟩
def SlR(X:Cx)(r:V->Option Int->Option Int->Hp->VK->Prop):Prop :=
 ∀(D8:List (γ×Obj))(s:Sh)(E:St)(H:Hp)(x:V)(v vl vu:V')(J K:Option Int)(sl:γ)(Q:VK),Ov X D8 E H s->Os x v->s.heap.IsSliceOf sl vl vu .none->IsPart vl J->IsPart vu K->r x J K H Q ->
   ∃ T id,typeLookup (.type T) "__getitem__" = pure (some (.builtin id))/\s.TypeIs v T/\Ka (Kb X.prog X.w) X.A (getItem v (.ref sl)) (EP X D8 E Q) X.xe s
def tSl(r:V->Option Int->Option Int->Hp->VK->Prop)(te:TE)(M L:TO):TE:=λ E H Q=>te E H λ x H1=>M E H1 λ l H2=>L E H2 λ u H3=>r x l u H3 Q
theorem qP5(g:SlR X r)(i:PE X e te)(j:PO X J M)(k:PO X K L):PE X (.Subscript e (.Slice J K none O) N) (tSl r te M L):=by
 intro D8 s E H Q I h;refine Subscript_ (thn (i D8 s E H _ I h) λ v m a=>?_);obtain⟨x,H1,I1,n,o⟩:=a;refine wpAny_Slice (thn (j D8 m E H1 _ I1 o) λ d p a=>?_);obtain⟨l,H2,I2,t,q2⟩:=a;refine thn (k D8 p E H2 _ I2 q2) λ f c a=>?_
 obtain⟨u,H3,I3,y,z⟩:=a;rw[evalPart_none];refine G' ?_;have I4:Ov X D8 E H3 { c with heap:=c.heap.push { cls:=.type "slice",data:=.fields #[d,f,.none] } }:=I3.kept (t':=c.toks) λ b F q=>zA2 _ q
 obtain⟨T,id,B,C,D⟩:=g D8 { c with heap:=c.heap.push { cls:=.type "slice",data:=.fields #[d,f,.none] } } E H3 x v d f l u c.heap.objs.size Q I4 n (Heap.IsSliceOf.new ..) t y z;show Ka (Kb X.prog X.w) X.A (subscriptTail e (.Slice J K none O) v (.ref c.heap.objs.size)) (EP X D8 E Q) X.xe { c with heap:=c.heap.push { cls:=.type "slice",data:=.fields #[d,f,.none] } };exact tail_any (ops:=[.ref c.heap.objs.size,v]) C B D (by with_unfolding_all rfl)
def Fx(xs:List V)(J K:Option Int):List V:=(xs.drop (HT.sIx xs.length 0 J)).take (HT.sIx xs.length xs.length K - HT.sIx xs.length 0 J)
theorem qaa3(xs:List V)(J K:Option Int):(Fx xs J K).length<=xs.length:=by
 unfold Fx;rw[zB0,zCa];lia
end
noncomputable def ixN(n:Nat)(i:Int):Option Nat:=if 0<=i then (if i < n then some i.toNat else none) else if -(n:Int)<=i then some (i+n).toNat else none
def atI{α:Type}(xs:List α)(i:Int):Option α:=(ixN xs.length i).bind λ j=>xs[j]?
theorem qU5(h:ixN n i=some j):seqIndex? i n=some j/\j < n/\-(n:Int)<=i/\i < n:=by
 unfold ixN at h;by_cases b:0<=i
 . rw[if_pos b] at h
   by_cases a:i < n
   . rw[if_pos a] at h
     have e:i.toNat=j:=Nj h;exact⟨by rw[seqIndex_of b a,e],by lia,by lia,a⟩
   rw[if_neg a] at h;cases h
 rw[if_neg b] at h;by_cases a:-(n:Int)<=i
 . rw[if_pos a] at h
   have e:(i+n).toNat=j:=Nj h;exact⟨by rw[seqIndex_neg (by lia) a,e],by lia,a,by lia⟩
 rw[if_neg a] at h;cases h
theorem qaj5(h:atI xs i=some v):∃ j,seqIndex? i xs.length=some j/\xs[j]? = some v/\j < xs.length/\-(xs.length:Int)<=i/\i < xs.length:=by
 unfold atI at h;cases e:ixN xs.length i with
 | none=>rw[e] at h;cases h
 | some j =>
   rw[e] at h;obtain⟨a,b,c,d⟩:=qU5 e;exact⟨j,a,h,b,c,d⟩
theorem qA2{j:Nat}(h:xs[j]? = some v):atI xs (j:Int)=some v:=by
 have a:j < xs.length:=(zA4.mp h).1;have e:ixN xs.length (j:Int)=some j:=by
   unfold ixN;rw[if_pos (by lia),if_pos (by lia)];simp
 unfold atI;rw[e];exact h
theorem qaF0(xs:List α)(v:α):atI (xs++[v]) (-1)=some v:=by
 have a:(xs++[v]).length=xs.length+1:=by simp
 have e:ixN (xs++[v]).length (-1)=some xs.length:=by
   unfold ixN;rw[a,if_neg (by decide),if_pos (by lia)];congr 1;lia
 unfold atI;rw[e];show (xs++[v])[xs.length]? = some v;simp
def qaj9(b:Kf):Prop:=∀ o i,subscripted b false o i=operate [o,i] (getItem o i)
def IxR(X:Cx)(r:R2):Prop :=
 ∀(value slice:Kf)(D8:List (γ×Obj))(s:Sh)(a:St)(H:Hp)(x y:V)(v u:V')(Q:VK),Ov X D8 a H s->Os x v->Os y u->r x y H Q ->
   subscripted slice false v u=operate [v,u] (getItem v u)->Ka (Kb X.prog X.w) X.A (subscriptTail value slice v u) (EP X D8 a Q) X.xe s
def MtR(X:Cx)(id:String)(r:V->List V->Hp->VK->Prop):Prop :=
 ∀(D8:List (γ×Obj))(s:Sh)(a:St)(H:Hp)(x:V)(xs:List V)(v:V')(us:List V')(Q:VK),Ov X D8 a H s->Os x v->Ot xs us->r x xs H Q ->
   Ka (Kb X.prog X.w) X.A (call (.builtin id) (v::us)) (EP X D8 a Q) X.xe s
section
variable{X:Cx}{a b:Kf}{ta tb:TE}{Z:Pos}
theorem IxR.or{a:R2}(h:IxR X r)(h':IxR X a):IxR X (λ x y H Q=>r x y H Q∨a x y H Q):=by
 intro value slice D8 s M H x y v u Q I b c q d;rcases q with q | q
 . exact h value slice D8 s M H x y v u Q I b c q d
 exact h' value slice D8 s M H x y v u Q I b c q d
theorem pe_ix(c:IxR X r)(d:PE X a ta)(e:PE X b tb)(f:qaj9 b):PE X (.Subscript a b Z) (tOp r ta tb):=by
 intro D8 s M H Q I h;exact Subscript_ (binT d e I h λ v u g x y H2 I2 i j q=>c a b D8 g M H2 x y v u Q I2 i j q (f _ _))
def rIxL(K:Nl):R2:=λ x y H Q=>∃ p xs i v,x=.ref p/\y=.int i/\SqL K H p xs/\atI xs i=some v/\Q v H
def rIxT(K:Nl):R2:=λ x y H Q=>∃ p xs i v,x=.ref p/\y=.int i/\SqT K H p xs/\atI xs i=some v/\Q v H
def rIxS:R2:=λ x y H Q=>∃ z i c,x=.str z/\y=.int i/\z.length<=Jn/\atI z.cps.toList i=some c/\Q (.str ⟨#[c]⟩) H
theorem qaN8:IxR X (rIxL X.K):=by
 intro value slice D8 s M H x y v u Q I l m h f;obtain⟨p,F,i,z,rfl,rfl,n,o,q⟩:=h;cases l;obtain⟨t,rfl⟩:=m;obtain⟨b,r,c,G⟩:=I.list n;obtain⟨j,a,A,J,B,C⟩:=qaj5 o;obtain⟨w,g,d⟩:=r.get A;have D:=r.length;have L:=qQ8;have fin:EP X D8 M Q w s:=⟨z,H,I,d,q⟩
 by_cases k:0<=i
 . have e:i.toNat=j:=by
     rw[seqIndex_of k C] at a;exact Nj a
   exact item_listR c.isList k (by lia) (by rw[e];simpa using g) fin f
 have e:(i+(b.toArray.size:Int)).toNat=j:=by
   rw[seqIndex_neg (by lia) B] at a;rw[zA5,<- D];exact Nj a
 exact subscriptTail_builtinR (x:=w) c.isList.typeIs slot_list_getitem.lookup
   (wpAny_getItem_list_neg (Q:=λ r E=>r=w/\EP X D8 M Q r E) c.isList (by lia) (by rw[zA5]<;>lia) (by lia) (by rw[e];simpa using g) ⟨rfl,fin⟩) f
theorem qaW6:IxR X (rIxT X.K):=by
 intro value slice D8 s M H x y v u Q I c d h e;obtain⟨p,B,i,z,rfl,rfl,f,g,q⟩:=h;cases c;obtain⟨t,rfl⟩:=d;obtain⟨k,r,b,C⟩:=I.tuple f;obtain⟨j,l,m,D,E,F⟩:=qaj5 g;obtain⟨w,n,a⟩:=r.get m;have o:=r.length;have G:=qQ8;have fin:EP X D8 M Q w s:=⟨z,H,I,a,q⟩
 exact subscriptTail_builtinR (x:=w) b.typeIs slot_tuple_getitem.lookup
   (getItem_tuple (j:=j) (Q:=λ r A=>r=w/\EP X D8 M Q r A) b (by lia) (by lia) (by rw[zA5,<- o];exact l) (by simpa using n) ⟨rfl,fin⟩) e
theorem qaW7:IxR X rIxS:=by
 intro value slice D8 s M H x y v u Q I b d h e;obtain⟨z,i,c,rfl,rfl,o,f,q⟩:=h;obtain⟨t,rfl⟩:=b;obtain⟨p,rfl⟩:=d;obtain⟨j,a,g,r,k,l⟩:=qaj5 f;have m:z.cps.toList.length=z.length:=by simp[Str.length]
 rw[m] at a k l;have w:=qQ8;exact tail_any (typeIs_str s z t) slot_str_getitem.lookup (getItem_str (c:=c) (by
   have n:decide (i < -(2 ^ 63:Int))=false:=zAv (by lia);have e2:decide (i ≥ 2 ^ 63)=false:=zAv (by lia);rw[n,e2,Bool.or_false]) (by rw[a];simpa using g) ⟨.str ⟨#[c]⟩,H,I.tok _,⟨_,rfl⟩,q⟩) e
def rIx(K:Nl):R2:=λ x y H Q=>rIxL K x y H Q∨rIxT K x y H Q∨rIxS x y H Q
theorem qb0:IxR X (rIx X.K):=qaN8.or (qaW6.or qaW7)
theorem qaf5(its:List V')(n j:Nat)(u:V'):Obj.mapSeq (·.setIfInBounds j u) { cls:=.type "list",data:=.seq its.toArray n }={ cls:=.type "list",data:=.seq (its.set j u).toArray n }:=by
 simp[Obj.mapSeq]
theorem Ov.l(I:Ov X D8 M H s)(h:H p=some (.l xs)) :
   ∃(its:List V')(n:Nat),Ot xs its/\s.heap.get? p=some { cls:=.type "list",data:=.seq its.toArray n }/\xs.length<=Jn:=by
 obtain⟨z,its,n,r,e⟩:=I.hok p _ h;exact⟨its,n,r,e,z⟩
theorem Ov.lstUpd{a:Nat}(I:Ov X D8 M H s)(h:H p=some (.l xs))(d:s.heap.get? p=some { cls:=.type "list",data:=.seq its.toArray n })(c:f { cls:=.type "list",data:=.seq its.toArray n }={ cls:=.type "list",data:=.seq its'.toArray a })(r:Ot ys its')(g:ys.length<=Jn)(t:Nat) :
   Ov X D8 M (upd H p (.l ys)) { s with heap:=s.heap.update p f,toks:=t }:=by
 have e:(s.heap.update p f).get? p=some { cls:=.type "list",data:=.seq its'.toArray a }:=by
   rw[Heap.get?_update_self f d (by rw[c]<;>rfl),c]
 refine I.write (x:=p) (e:=p) (by rw[h];trivial) (.inl rfl) (λ b u i q=>(zBn _ _ (Ne.symm i)).trans q) ⟨_,e⟩ ?_;exact⟨g,its',a,r,e⟩
def rSetL:V->V->V->Hp->(Hp->Prop)->Prop:=λ o i v H Q=>∃ p xs k j,o=.ref p/\i=.int k/\H p=some (.l xs)/\ixN xs.length k=some j/\Q (upd H p (.l (xs.set j v)))
theorem qac3:PSet X rSetL:=by
 intro D8 s M H o i v C D u Q I w x y h;obtain⟨p,z,k,j,rfl,rfl,f,A,q⟩:=h;cases w;obtain⟨t,rfl⟩:=x;obtain⟨a,n,r,c,B⟩:=I.l f;obtain⟨b,E,g,l⟩:=qU5 A;have d:=r.length;have F:=qQ8;have I':Ov X D8 M (upd H p (.l (z.set j v))) { s with heap:=s.heap.update p (Obj.mapSeq (·.setIfInBounds j u)) } :=
   I.lstUpd f c (qaf5 a n j u) (r.set y j) (by rw[Lw];exact B) s.toks
 by_cases m:0<=k
 . have e:k.toNat=j:=by
     rw[seqIndex_of m l] at b;exact Nj b
   exact W.ki_setAt c m (by lia) (by rw[zA5,<- d];exact l) (by rw[e];exact⟨_,I',q⟩)
 have e:(k+(a.toArray.size:Int)).toNat=j:=by
   rw[seqIndex_neg (by lia) g] at b;rw[zA5,<- d];exact Nj b
 exact W.ki_setBack c (by lia) (by rw[zA5,<- d];exact g) (by lia) (by rw[e];exact⟨_,I',q⟩)
theorem qN9(lo hi:Option Int)(n:Nat):(sliceBounds lo hi none n).1=((HT.sIx n 0 lo:Nat):Int)/\(sliceBounds lo hi none n).2.1=((HT.sIx n n hi:Nat):Int)/\(sliceBounds lo hi none n).2.2=1:=by
 refine⟨?_,?_,rfl⟩
 . cases lo with
   | none=>simp[sliceBounds,HT.sIx]
   | some i =>
     simp only[sliceBounds,HT.sIx,Option.getD_none,show (1:Int) > 0 by decide,if_true];by_cases h:i < 0
     . simp only[h,if_true]<;>lia
     simp only[h,if_false]<;>lia
 cases hi with
 | none=>simp[sliceBounds,HT.sIx]
 | some i =>
   simp only[sliceBounds,HT.sIx,Option.getD_none,show (1:Int) > 0 by decide,if_true];by_cases h:i < 0
   . simp only[h,if_true]<;>lia
   simp only[h,if_false]<;>lia
theorem qI0(its:List V')(lo hi:Option Int):slicePick its.toArray lo hi none=((its.drop (HT.sIx its.length 0 lo)).take (HT.sIx its.length its.length hi - HT.sIx its.length 0 lo)).toArray:=by
 obtain⟨a,b,c⟩:=qN9 lo hi its.toArray.size;unfold slicePick;rw[a,b,c];simp only[sliceRange_one,pick_run,zA5]<;>rfl
def rSlL(K:Nl):V->Option Int->Option Int->Hp->VK->Prop:=λ x lo hi H Q=>∃ a xs,x=.ref a/\SqL K H a xs/\∀ p,H p=none->Q (.ref p) (upd H p (.l (Fx xs lo hi)))
theorem qac1:SlR X (rSlL X.K):=by
 intro D8 s M H x v t u e f w Q I i j k l h;obtain⟨a,c,rfl,m,q⟩:=h;cases i;obtain⟨n,r,g,p⟩:=I.list m;have d:=r.length;refine⟨"list",_,slot_list_getitem.lookup,g.isList.typeIs,?_⟩;refine wpAny_getItem_list_slice g.isList j k l .none (by simp) ?_ (by rw[zA5]<;>lia);rw[qI0,<- d];refine⟨.ref s.heap.objs.size,_,I.laid (t':=s.toks) (o:=.l (Fx c e f)) (λ b y q=>zA2 _ q) (zA3 _) ?_,rfl,q _ (I.hok.fresh (zA3 _))⟩;exact⟨zAk (qaa3 c e f) p,_,0,(r.drop (HT.sIx c.length 0 e)).take (HT.sIx c.length c.length f - HT.sIx c.length 0 e),zAo _ rfl⟩
noncomputable def flatV:V->Bool
 | .non=>true
 | .bl _=>true
 | .int _=>true
 | .str _=>true
 | _=>false
noncomputable def eqV:V->V->Bool
 | .non,.non=>true
 | .bl a,.bl b=>a == b
 | .bl a,.int b=>(if a then 1 else 0) == b
 | .int a,.bl b=>a == (if b then 1 else 0)
 | .int a,.int b=>a == b
 | .str a,.str b=>a == b
 | _,_=>false
theorem qaP3(e:Os y u)(c:Os x v)(g:flatV y=true)(f:flatV x=true):SeqAt.EqAt A s u v (eqV y x):=by
 cases y with
 | non =>
   cases e;cases x with
   | non=>cases c;exact SeqAt.EqAt.same _
   | bl b=>cases c;exact SeqAt.EqAt.none_bool b
   | int b=>obtain⟨t,rfl⟩:=c;exact SeqAt.EqAt.none_int b t
   | str b=>obtain⟨t,rfl⟩:=c;exact SeqAt.EqAt.none_str b t
   | _=>exact absurd (show false=true from f) zAq
 | bl a =>
   cases e;cases x with
   | non=>cases c;exact SeqAt.EqAt.bool_none a
   | bl b=>cases c;exact SeqAt.EqAt.bool_bool a b
   | int b=>obtain⟨t,rfl⟩:=c;exact SeqAt.EqAt.bool_int a b t
   | str b=>obtain⟨t,rfl⟩:=c;exact SeqAt.EqAt.bool_str a b t
   | _=>exact absurd (show false=true from f) zAq
 | int a =>
   obtain⟨d,rfl⟩:=e;cases x with
   | non=>cases c;exact SeqAt.EqAt.int_none a d
   | bl b=>cases c;exact SeqAt.EqAt.int_bool a d b
   | int b=>obtain⟨t,rfl⟩:=c;exact SeqAt.EqAt.int_int a d b t
   | str b=>obtain⟨t,rfl⟩:=c;exact SeqAt.EqAt.int_str a d b t
   | _=>exact absurd (show false=true from f) zAq
 | str a =>
   obtain⟨d,rfl⟩:=e;cases x with
   | non=>cases c;exact SeqAt.EqAt.str_none a d
   | bl b=>cases c;exact SeqAt.EqAt.str_bool a d b
   | int b=>obtain⟨t,rfl⟩:=c;exact SeqAt.EqAt.str_int a d b t
   | str b=>obtain⟨t,rfl⟩:=c;exact SeqAt.EqAt.str_str a d b t
   | _=>exact absurd (show false=true from f) zAq
 | _=>exact absurd (show false=true from g) zAq
def eqU(x:V)(u:V'):Bool:=match u with
 | .none=>eqV .non x
 | .bool b=>eqV (.bl b) x
 | .int i _=>eqV (.int i) x
 | .str z _=>eqV (.str z) x
 | _=>false
theorem qap7(r:Os y u)(f:flatV y=true):eqU x u=eqV y x:=by
 cases y with
 | non=>cases r;rfl
 | bl b=>cases r;rfl
 | int i=>obtain⟨t,rfl⟩:=r;rfl
 | str z=>obtain⟨t,rfl⟩:=r;rfl
 | _=>exact absurd (show false=true from f) zAq
theorem qL8{x:V}:∀{xs:List V}{us:List V'},Ot xs us->xs.all flatV=true->us.any (eqU x)=xs.any λ y=>eqV y x
 | _,_,.nil,_=>rfl
 | y::xs,u::us,.cons r t,f=>by
   rw[K5,zBo] at f;rw[zD1,zD1,qap7 r f.1,qL8 t f.2]
theorem qp1{A:Kd}{s:Sh}{x:V}{v:V'}(b:Os x v)(c:flatV x=true):∀{xs:List V}{us:List V'},Ot xs us->xs.all flatV=true->∀ u∈us,SeqAt.EqAt A s u v (eqU x u)
 | _,_,.nil,_=>λ u a=>by cases a
 | y::xs,u::us,.cons r t,f=>λ d a=>by
   rw[K5,zBo] at f;rcases zAi.mp a with rfl | a
   . rw[qap7 r f.1];exact qaP3 r b f.1 c
   exact qp1 b c t f.2 d a
def inV(x:V)(xs:List V):Bool:=xs.any λ y=>eqV y x
def rIn(K:Nl)(neg:Bool):R2:=λ x y H Q=>∃ p xs,y=.ref p/\(SqL K H p xs∨SqT K H p xs)/\flatV x=true/\xs.all flatV=true/\Q (.bl (if neg then !inV x xs else inV x xs)) H
theorem qw3:OpR X (Jo .In) (rIn X.K false):=by
 intro D8 s M H x y v u Q I f i h;obtain⟨p,k,rfl,b,g,c,q⟩:=h;cases i;rcases b with b | b
 . obtain⟨a,r,d,j⟩:=I.list b
   refine SeqAt.in_listAt (eqU x) d.isList (λ w e=>qp1 f g r c w (by simpa using e)) ⟨.bl _,H,I,rfl,?_⟩;rw[show a.toArray.any (eqU x)=a.any (eqU x) by simp,qL8 r c];exact q
 obtain⟨a,r,d,j⟩:=I.tuple b;refine SeqAt.in_tupleAt (eqU x) d (λ w e=>qp1 f g r c w (by simpa using e)) ⟨.bl _,H,I,rfl,?_⟩;rw[show a.toArray.any (eqU x)=a.any (eqU x) by simp,qL8 r c];exact q
theorem qo9:OpR X (Jo .NotIn) (rIn X.K true):=by
 intro D8 s M H x y v u Q I f i h;obtain⟨p,k,rfl,b,g,c,q⟩:=h;cases i;rcases b with b | b
 . obtain⟨a,r,d,j⟩:=I.list b
   refine SeqAt.notIn_listAt (eqU x) d.isList (λ w e=>qp1 f g r c w (by simpa using e)) ⟨.bl _,H,I,rfl,?_⟩;rw[show a.toArray.any (eqU x)=a.any (eqU x) by simp,qL8 r c];exact q
 obtain⟨a,r,d,j⟩:=I.tuple b;refine SeqAt.notIn_tupleAt (eqU x) d (λ w e=>qp1 f g r c w (by simpa using e)) ⟨.bl _,H,I,rfl,?_⟩;rw[show a.toArray.any (eqU x)=a.any (eqU x) by simp,qL8 r c];exact q
theorem qS3:CallR X (.builtin "len") (λ xs H Q=>∃ p ys,xs=[.ref p]/\(SqL X.K H p ys∨SqT X.K H p ys)/\Q (.int ys.length) H):=by
 intro D8 s M H xs i Q I r h;obtain⟨p,ys,rfl,b,q⟩:=h;obtain⟨u,rfl,f⟩:=B7 r;cases f;have j:=qQ8;rcases b with b | b
 . obtain⟨c,d,e,g⟩:=I.list b
   have a:=d.length;exact Calls.call_len_list e.isList (by simp only[zA5]<;>lia) ⟨.int ys.length,H,I.tok _,⟨s.toks+1,by rw[zA5,a]⟩,q⟩
 obtain⟨c,d,e,g⟩:=I.tuple b;have a:=d.length;exact len_tuple e (by simp only[zA5]<;>lia) ⟨.int ys.length,H,I.tok _,⟨s.toks+1,by rw[zA5,a]⟩,q⟩
theorem qS2:CallR X (.builtin "len") (λ xs H Q=>∃ z,xs=[.str z]/\z.length<=Jn/\Q (.int z.length) H):=by
 intro D8 s M H xs a Q I r h;obtain⟨z,rfl,b,q⟩:=h;obtain⟨u,rfl,t,rfl⟩:=B7 r;have c:=qQ8;exact len_str (by lia) ⟨.int z.length,H,I.tok _,⟨_,rfl⟩,q⟩
theorem CallR.or{a:List V->Hp->VK->Prop}(h:CallR X f r)(h':CallR X f a):CallR X f (λ xs H Q=>r xs H Q∨a xs H Q):=by
 intro D8 s M H xs b Q I c q;rcases q with q | q
 . exact h D8 s M H xs b Q I c q
 exact h' D8 s M H xs b Q I c q
theorem qg0:CallR X (.type "list") (λ xs H Q=>∃ p ys,xs=[.ref p]/\(SqL X.K H p ys∨SqT X.K H p ys)/\∀ l,H l=none->Q (.ref l) (upd H l (.l ys))):=by
 intro D8 s M H xs A Q I r h;obtain⟨p,ys,rfl,g,q⟩:=h;obtain⟨u,rfl,z⟩:=B7 r;cases z;have fin:∀(a:List V'),Ot ys a->ys.length<=Jn->∀(c:Heap)(d:Nat),(∀ b y,s.heap.get? b=some y->c.get? b=some y) ->
     c.get? s.heap.objs.size=some { cls:=.type "list",dict:=none,data:=.seq a.toArray d,slots:=#[] }->EP X D8 M Q (.ref s.heap.objs.size) { s with heap:=c }:=λ a f i c d j e =>
   ⟨.ref s.heap.objs.size,_,I.laid (t':=s.toks) j (zA3 _) (show ObjOk X.prog X.w _ c _ (.l ys) from⟨i,a,d,f,e⟩),rfl,q _ (I.hok.fresh (zA3 _))⟩
 rcases g with g | g
 . obtain⟨a,f,m,i⟩:=I.list g
   have k:=f.length;obtain⟨o,t,v,n,x⟩:=m.isList;exact call_list_seq p (.inl rfl) t v x (λ c d j e=>fin a f i c d j e) (by simp only[zA5]<;>lia)
 obtain⟨a,f,m,i⟩:=I.tuple g;have k:=f.length;obtain⟨o,t,v,n,x⟩:=m;exact call_list_seq p (.inr rfl) t v x (λ c d j e=>fin a f i c d j e) (by simp only[zA5]<;>lia)
def tyV(K:Nl)(T:String)(x:V)(H:Hp):Prop:=match x with
 | .str _=>T = "str"
 | .int _=>T = "int"
 | .ref p=>(T = "list" /\ ∃ xs,SqL K H p xs)∨(T = "tuple" /\ ∃ o,K.lookup p=some o/\o.cls=.type "tuple" /\ o.dict=none) ∨
     (T = "dict" /\ ((∃ kvs,H p=some (.dK kvs))∨∃ kvs,H p=some (.dT kvs)))∨(T = "set" /\ ∃ S n,H p=some (.set S n))
 | _=>False
theorem qaR5(I:Ov X D8 M H s)(r:Os x v)(ty:tyV X.K T x H) :
   s.TypeIs v T/\∀ a,v=.ref a->∃ ob,s.heap.get? a=some ob/\ob.dict=none:=by
 cases x with
 | str z =>
   obtain⟨t,rfl⟩:=r;cases (show T = "str" from ty);exact⟨typeIs_str s z t,λ _ e=>nomatch e⟩
 | int i =>
   obtain⟨t,rfl⟩:=r;cases (show T = "int" from ty);exact⟨typeIs_int s i t,λ _ e=>nomatch e⟩
 | ref p =>
   cases r;rcases ty with⟨rfl,xs,hq⟩ | ⟨rfl,o,hk,hc,d⟩ | ⟨rfl,hk⟩ | ⟨rfl,S,n,hk⟩
   . obtain⟨g,_,f,_⟩:=I.list hq
     refine⟨f.isList.typeIs,λ a e=>?_⟩;cases e;obtain⟨o,n,e,c,d,_⟩:=f;exact⟨o,e,d⟩
   . refine⟨⟨o,I.kIn p o hk,hc⟩,λ a e=>?_⟩
     cases e;exact⟨o,I.kIn _ o hk,d⟩
   . have z:∃ o,s.heap.get? p=some o/\o.ExactDict:=by
       rcases hk with⟨kvs,hk⟩ | ⟨kvs,hk⟩
       . obtain⟨_,_,_,_,o,_,_,e,b,_⟩:=I.hok p _ hk
         exact⟨o,e,b⟩
       obtain⟨_,_,_,_,o,_,_,e,b,_⟩:=I.hok p _ hk;exact⟨o,e,b⟩
     obtain⟨o,e,b⟩:=z;refine⟨⟨o,e,b.1⟩,λ a e2=>?_⟩;cases e2;exact⟨o,e,b.2.1⟩
   obtain⟨o,_,_,_,e,b,_⟩:=I.hok p _ hk;refine⟨⟨o,e,b.1⟩,λ a e2=>?_⟩;cases e2;exact⟨o,e,b.2.1⟩
 | _=>exact Oi ty
def tBM(K:Nl)(T:String)(r:V->List V->Hp->VK->Prop)(U:TE)(t:TA):TE:=λ M H Q=>U M H λ x H1=>tyV K T x H1/\t M H1 λ xs H2=>r x xs H2 Q
variable{o e:Kf}{R:List Kf}{U:TE}{t:TA}{name:Str}{O N:Pos}{T Y:String}{r:V->List V->Hp->VK->Prop}
theorem Ig(g:PlainAttrs T)(slot:Slot T name Y)(b:typeOf (.builtin Y)=pure (.type "method_descriptor"))(hm:MtR X Y r)(i:PE X o U)(j:PA X (e::R) t)(hbase:Jt o name X.env (eval o X.env)=eval o X.env:=by rfl)(a:((backTo N (Jm (e::R) X.env)).all (λ x=>!x.1)&&(backToKw N (Jx [] X.env)).all (λ x=>x.1.isSome)
     && decide ((e::R).length+([]:List Keyword).length+(if ([]:List Keyword).isEmpty then 0 else 1) < 30))=true:=by rfl)(hline:(O.endLine == N.line)=true:=by rfl)(k:Jm (e::R) X.env=(false,eval e X.env)::Jm R X.env:=by rfl)(hplain:(backTo N (Jm R X.env)).any (·.1)=false:=by rfl) :
   PE X (.Call (.Attribute o name O) (e::R) [] N) (tBM X.K T r U t):=by
 intro D8 s M H Q I h;refine wpAny_Call_method_late hbase a hline rfl (thn (i D8 s M H _ I h) λ v l c=>?_);obtain⟨x,H1,I1,d,ty,m⟩:=c;obtain⟨n,p⟩:=qaR5 I1 d ty;refine⟨T,Y,g,slot,b,n,p,?_⟩;have f:=j N D8 l M H1 _ I1 m;rw[k] at f ⊢;refine Calls.callWith_builtin (by show (false||(backTo N (Jm R X.env)).any (·.1))=false;rw[hplain]<;>rfl) (Calls.evalArgs_plain ?_);exact thn f λ q u ⟨w,H2,I2,y,q2⟩=>hm D8 u M H2 x w v q Q I2 d y q2
/- xs.append(e),list.index on a module's tuple .. are MtR facts of 06m -/
end
def MtM(X:Cx)(id:String)(r:V->List V->Hp->VK->Prop):Prop :=
 ∀(D8:List (γ×Obj))(s:Sh)(a:St)(H:Hp)(x:V)(xs:List V)(v:V')(us:List V')(Q:VK),Ov X D8 a H s->Os x v->Ot xs us->r x xs H Q ->
   Ka (Kb X.prog X.w) X.A (call (.builtin id) (v::us)) (EP X D8 a Q) X.xe s
theorem Ot.one(h:Ot [x] us):∃ u,us=[u]/\Os x u:=by
 cases h with
 | cons r t=>cases t;exact⟨_,rfl,r⟩
theorem Ot.two(h:Ot [x,y] us):∃ u v,us=[u,v]/\Os x u/\Os y v:=by
 cases h with
 | cons r t =>
   cases t with
   | cons q t=>cases t;exact⟨_,_,rfl,r,q⟩
theorem Ot.rep{xs:List V}{us:List V'}(h:Ot xs us):∀ k:Nat,Ot (Kv k xs).flatten (Kv k us).flatten
 | 0=>.nil
 | k+1=>by
   rw[zBu,zBu,zCm,zCm];exact Ot.append h (Ot.rep h k)
theorem qV2(its:List V'):∀(k:Nat)(acc:List V'),
   Lc (λ a b=>a++b) acc.toArray (Kv k its.toArray)=(acc++(Kv k its).flatten).toArray
 | 0,acc=>by simp
 | k+1,acc=>by
   have e:acc.toArray++its.toArray=(acc++its).toArray:=by simp
   have e2:(acc++its)++(Kv k its).flatten=acc++(Kv (k+1) its).flatten:=by
     rw[zBu,zCm,zAr]
   rw[<- e2,<- qV2 its k (acc++its),<- e,zBu,Mp]
section
variable{X:Cx}{k:List (γ×Obj)}{j:St}{H:Hp}{s:Sh}{l:γ}{xs ys:List V}
theorem Ov.lset(I:Ov X k j H s)(a:H l=some (.l xs))(e:s.heap.get? l=some { cls:=.type "list",data:=.seq its.toArray n })(b:f its.toArray=its'.toArray)(c:Ot ys its')(d:ys.length<=Jn) :
   Ov X k j (upd H l (.l ys)) { s with heap:=s.heap.update l (Obj.mapSeq f),toks:=t' }:=by
 have q:=PySem.IsL.update e f;rw[b] at q;refine I.write (x:=l) (e:=l) (by rw[a];exact trivial) (.inl rfl) (λ i u g h=>(zBn s.heap (Obj.mapSeq f) (Ne.symm g)).trans h) ⟨_,q⟩ ?_;exact⟨d,its',_,c,q⟩
theorem Ov.lnew(I:Ov X k j H s)(a:Ot ys its)(b:ys.length<=Jn) :
   Ov X k j (upd H s.heap.objs.size (.l ys)) { s with heap:=s.heap.push { cls:=.type "list",data:=.seq its.toArray },toks:=t' } :=
 I.laid (λ _ _ q=>zA2 _ q) (zA3 _) ⟨b,its,0,a,zAo _ rfl⟩
theorem Ov.fresh(I:Ov X k j H s):H s.heap.objs.size=none:=I.hok.fresh (zA3 _)
theorem Ov.lstM(I:Ov X k j H s)(a:H l=some (.l xs)):xs.length<=Jn/\∃(its:List V')(n:Nat),Ot xs its/\xs.length=its.length/\s.heap.get? l=some { cls:=.type "list",data:=.seq its.toArray n }:=by
 obtain⟨z,its,n,r,e⟩:=I.hok l _ a;exact⟨z,its,n,r,r.length,e⟩
theorem qaA6(h:n<=Jn):Builtin.List.listTooLong n=false:=by
 unfold Builtin.List.listTooLong;exact zAv (by lia)
end
section
variable{X:Cx}
def qat0:V->List V->Hp->VK->Prop:=λ x vs H Q=>∃ l xs y,x=.ref l/\vs=[y]/\H l=some (.l xs)/\xs.length < Jn/\Q .non (upd H l (.l (xs++[y])))
theorem qd2:MtM X "list.append" qat0:=by
 intro D8 s L H x g v i Q I c d h;obtain⟨l,j,y,rfl,rfl,b,k,q⟩:=h;cases c;obtain⟨u,rfl,f⟩:=d.one;obtain⟨z,a,n,r,m,e⟩:=I.lstM b;refine J1 No ⟨_,e,rfl⟩ F.entry_list_append (F.args_list_append_2 _ _) (PySem.list_append l a.toArray n u (by rw[zA5];lia)) ⟨e,?_⟩;refine⟨.non,_,I.lset (its':=a++[u]) b e (by simp) (r.append (.cons f .nil)) ?_,rfl,q⟩;rw[zAe,Lz];lia
def rCat:R2:=λ x y H Q=>∃ l b xs a,x=.ref l/\y=.ref b/\H l=some (.l xs)/\H b=some (.l a)/\xs.length+a.length<=Jn/\∀ p,H p=none->Q (.ref p) (upd H p (.l (xs++a)))
theorem qaV2:OpR X (J' .Add) rCat:=by
 intro D8 s L H x y v u Q I c d h;obtain⟨l,b,m,o,rfl,rfl,f,g,p,q⟩:=h;cases c;cases d;obtain⟨z,a,n,r,t,e⟩:=I.lstM f;obtain⟨w,its2,A,i,j,e2⟩:=I.lstM g;refine PySem.P.add_list e e2 ?_ (by rw[zA5,zA5];lia);have k:a.toArray++its2.toArray=(a++its2).toArray:=by simp
 rw[k];exact⟨.ref _,_,I.lnew (t':=s.toks) (r.append i) (by rw[zAe];lia),rfl,q _ I.fresh⟩
def rRep:R2:=λ x y H Q=>∃ l k xs,x=.ref l/\y=.int k/\H l=some (.l xs)/\-(2 ^ 63)<=k/\k < 2 ^ 63/\xs.length * k.toNat<=Jn /\
 ∀ p,H p=none->Q (.ref p) (upd H p (.l (Kv k.toNat xs).flatten))
theorem qaN2(xs:List α)(k:Nat):(Kv k xs).flatten.length=k * xs.length:=by
 induction k with
 | zero=>simp
 | succ k a=>rw[zBu,zCm,zAe,a,Nat.succ_mul,Nat.add_comm]
theorem qaU4:OpR X (J' .Mult) rRep:=by
 intro D8 s L H x y v u Q I p w h;obtain⟨l,k,J,rfl,rfl,A,B,C,o,q⟩:=h;cases p;obtain⟨t,rfl⟩:=w;obtain⟨z,b,n,r,D,e⟩:=I.lstM A;have c:b.toArray.size * k.toNat<=Jn:=by rw[zA5,<- D];exact o
 have d:¬ b.toArray.size * k.toNat > (2 ^ 63 - 1) / 8:=by
   have:(Jn:Nat)<=(2 ^ 63 - 1) / 8:=by decide
   lia
 have f:¬ (!Builtin.List.listFitsIndex k)=true:=by
   rw[fitsIndex_both B C];exact zAq
 have hlong:¬ Builtin.List.listTooLong (b.toArray.size * k.toNat)=true:=by
   rw[qaA6 c];exact zAq
 have g:Lc (λ i j=>i++j) #[] (Kv (if b.toArray.isEmpty=true then 0 else k.toNat) b.toArray)=(Kv k.toNat b).flatten.toArray:=by
   have E:∀ m:Nat,Lc (λ i j=>i++j) #[] (Kv m b.toArray)=(Kv m b).flatten.toArray:=λ m=>by
     have:=qV2 b m []
     rw[zB3] at this;exact this
   rw[E];cases b with
   | nil=>simp
   | cons a K=>rw[if_neg (by simp)]
 refine wpAny_binaryOp_repeat_ref (T := "list") (U := "int") (by decide) ⟨_,e,rfl⟩ (λ G=>typeIs_int G k t) noFill_list_mul F.fills_int_mul Ob repeat_list F.slot_int_index.lookup
   (J1 Ob (typeIs_int s k t) F.entry_int_rmul (F.args_int_rmul_2 _ _) (int___rmul___int_list k t l b.toArray n)
     ⟨e,rfl,⟨_,e,rfl⟩,J1 F.slot_list_mul ⟨_,e,rfl⟩ F.entry_list_mul (F.args_list_mul_2 _ _) (AutoListH.list___mul___list_int_3 l b.toArray n k t f d hlong) ⟨e,?_⟩⟩)
 rw[g];exact⟨.ref _,_,I.lnew (t':=s.toks) (r.rep k.toNat) (by rw[qaN2,Nat.mul_comm];exact o),rfl,q _ I.fresh⟩
end
section
variable{f:Type}[DecidableEq f]
noncomputable def Er(kvs:List (f×V))(k:f):Option V:=(kvs.find? λ a=>decide (a.1=k)).map (·.2)
noncomputable def putK(kvs:List (f×V))(k:f)(v:V):List (f×V) :=
 if (kvs.any λ a=>decide (a.1=k))=true then kvs.map (λ a=>if a.1=k then (a.1,v) else a) else kvs++[(k,v)]
theorem qM5{k:f}(e:p.1=k):Er (p::r) k=some p.2:=by simp[Er,zC5,e]
theorem qM6{k:f}(e:¬ p.1=k):Er (p::r) k=Er r k:=by simp[Er,zC5,e]
theorem qZ8(kvs:List (f×V))(k:f)(v:V):(putK kvs k v).length<=kvs.length+1:=by
 unfold putK;split
 . rw[zA8];lia
 rw[zAe,zAm,zC4];lia
theorem RelO.getD(r:RelO o u)(a:Os d d'):Os (o.getD d) (u.getD d'):=by
 cases o with
 | none=>cases u with
   | none=>exact a
   | some _=>exact(show False from r).elim
 | some _=>cases u with
   | none=>exact(show False from r).elim
   | some _=>exact r
theorem KV.val(r:KV kvs vs)(k:f):RelO (Er kvs k) (valueAt vs k):=by
 unfold KV at r
 induction r with
 | nil=>exact True.intro
 | @cons p q ps qs h t ih =>
   obtain⟨c,d⟩:=h;by_cases e:p.1=k
   . have a:q.1=k:=c.symm.trans e
     have b:valueAt (q::qs) k=some q.2:=by simp[valueAt,zC5,a]
     rw[qM5 e,b];exact d
   have a:¬ q.1=k:=λ z=>e (c.trans z)
   have b:valueAt (q::qs) k=valueAt qs k:=by simp[valueAt,zC5,a]
   rw[qM6 e,b];exact ih
theorem KV.any(r:KV kvs vs)(k:f):(kvs.any λ a=>decide (a.1=k))=vs.any λ a=>decide (a.1=k):=by
 unfold KV at r
 induction r with
 | nil=>rfl
 | cons h t b=>rw[zD1,zD1,b,h.1]
theorem KV.repl(r:KV kvs vs)(k:f)(c:Os y u) :
   KV (kvs.map λ a=>if a.1=k then (a.1,y) else a) (vs.map λ a=>if a.1=k then (a.1,u) else a):=by
 unfold KV at r ⊢
 induction r with
 | nil=>exact .nil
 | @cons p q ps qs h t ih =>
   rw[zAx,zAx];refine .cons ?_ ih;obtain⟨b,d⟩:=h;by_cases e:p.1=k
   . rw[if_pos e,if_pos (b.symm.trans e)];exact⟨b,c⟩
   rw[if_neg e,if_neg (λ z=>e (b.trans z))];exact⟨b,d⟩
theorem KV.put(r:KV kvs vs)(k:f)(a:Os y u):KV (putK kvs k y) (stored vs k u):=by
 unfold putK stored;rw[r.any k];by_cases e:(vs.any λ b=>decide (b.1=k))=true
 . rw[if_pos e,if_pos e];exact r.repl k a
 rw[if_neg e,if_neg e];exact Paired.snoc r ⟨rfl,a⟩
theorem KV.length{vs:List (f×V')}(r:KV kvs vs):kvs.length=vs.length:=Paired.length r
end
theorem Ih(r:Os (kV k) u):(qh1 P w).is k u=true:=by
 cases k with
 | inl i=>obtain⟨t,e⟩:=(show ∃ t,u=M' i t from r);subst e;exact qZ5 P w i t
 | inr x=>obtain⟨t,e⟩:=(show ∃ t,u=Nb x t from r);subst e;exact qZ4 P w x t
theorem qU6{P:Kc}{w:Ke}:∀{ks:List Key}{us:List V'},Ot (ks.map kV) us->ItemsAre (qh1 P w) ks us
 | [],_,r=>by rw[Ma] at r;cases r;exact .nil
 | k::ks,_,r=>by
   rw[zAx] at r;cases r with
   | cons h t=>exact .cons (Ih h) (qU6 t)
abbrev KT(H:Hp):List (List Key×V)->List (List Key×γ×V')->Prop:=Paired λ p q=>p.1=q.1/\H q.2.1=some (.q (p.1.map kV))/\Os p.2 q.2.2
theorem KT.val(r:KT H kvs xs)(k:List Key):RelO (Er kvs k) ((atKey xs k).map (·.2)):=by
 induction r with
 | nil=>exact True.intro
 | @cons p q ps qs h t ih =>
   obtain⟨c,_,d⟩:=h;by_cases e:p.1=k
   . have a:q.1=k:=c.symm.trans e
     have b:atKey (q::qs) k=some q.2:=by simp[atKey,zC5,a]
     rw[qM5 e,b];exact d
   have a:¬ q.1=k:=λ z=>e (c.trans z)
   have b:atKey (q::qs) k=atKey qs k:=by simp[atKey,zC5,a]
   rw[qM6 e,b];exact ih
section
variable{P:Kc}{w:Ke}{H:Hp}{h:Heap}{a:γ}
theorem rd_of(b:HOk P w H h)(e:Rd H a u):ObjOk P w H h a u:=e.ok b
theorem Ii(b:HOk P w H h)(e:Rd H a (.dK kvs)):kvs.length<=Jn/\(a == Jw)=false/\∃ vs,KV kvs vs/\h.DictOf (qh1 P w) a vs :=
 show ObjOk P w H h a (.dK kvs) from rd_of b e
theorem qaN7(c:HOk P w H h)(e:H a=some (.q (ks.map kV))):(tupleKind (qh1 P w)).is h ks a:=by
 obtain⟨_,b,r,o,d,f,n,g⟩:=(show ObjOk P w H h a (.q (ks.map kV)) from c a _ e)
 exact⟨o,b.toArray,n,d,f,g,by simpa using qU6 r⟩
theorem dt_rd(c:HOk P w H h)(e:Rd H a (.dT kvs)):kvs.length<=Jn/\(a == Jw)=false /\
   ∃ xs,KT H kvs xs/\h.DictOfH (tupleKind (qh1 P w)) a xs:=by
 obtain⟨z,y,xs,r,o,d,f,g,i,j,k,n⟩:=(show ObjOk P w H h a (.dT kvs) from rd_of c e)
 refine⟨z,y,xs,r,o,d,f,g,i,j,k,λ x b=>?_,n⟩;have all:∀{l:List (List Key×V)}{m:List (List Key×γ×V')},KT H l m->∀ x∈m,(tupleKind (qh1 P w)).is h x.1 x.2.1:=by
   intro l m q
   induction q with
   | nil=>intro x b;exact nomatch b
   | @cons p q ps qs hq t ih =>
     intro x b;rcases zAi.mp b with e | b
     . subst e
       exact qaN7 c (by rw[<- hq.1];exact hq.2.1)
     exact ih x b
 exact all r x b
end
def DGet(H:Hp)(a:γ)(y:V)(r:Option V):Prop :=
 (∃ kvs k,Rd H a (.dK kvs)/\y=kV k/\r=Er kvs k)∨∃ kvs k b,Rd H a (.dT kvs)/\y=.ref b/\H b=some (.q (k.map kV))/\r=Er kvs k
section
variable{X:Cx}{b:List (γ×Obj)}{a:St}{H:Hp}{s:Sh}
theorem Ov.big(I:Ov X b a H s):Jw < s.heap.objs.size:=by
 have h:Jv < s.heap.objs.size:=(I.mod.glob.keeps I.bk).lt;exact Nat.lt_trans (by decide) h
end
section
variable{X:Cx}{i:List (γ×Obj)}{f:St}{H:Hp}{s:Sh}{a:γ}{g:List (Key×V)}{A:Kd}{E:V'->Sh->Prop}
theorem d_len(I:Ov X i f H s)(e:Rd H a (.dK g))(h:∀ t s',Ov X i f H s'->Q (.int g.length t) s'):Ka (Kb X.prog X.w) A (call (.builtin "len") [.ref a]) Q E s:=by
 obtain⟨z,b,d,rel,c⟩:=Ii I.hok e;refine call_len_dict b c (by rw[<- rel.length];rw[Ju] at z;lia) ?_;rw[<- rel.length];exact h _ _ (I.tok _)
end
def qB9(kvs more:List (Key×V)):List (Key×V):=more.foldl (λ acc a=>putK acc a.1 a.2) kvs
theorem qu8:∀(more kvs:List (Key×V)),(qB9 kvs more).length<=kvs.length+more.length
 | [],kvs=>by show kvs.length<=kvs.length+0;lia
 | p::r,kvs=>by
   have a:=qu8 r (putK kvs p.1 p.2);have b:=qZ8 kvs p.1 p.2;show (qB9 (putK kvs p.1 p.2) r).length<=_;rw[zAm];lia
structure M2(X:Cx)(o:Kf)(m:Str)(apos:Pos)(e f:Kf)(cpos:Pos):Prop where
 base:Jt o m X.env (eval o X.env)=eval o X.env
 few:((backTo cpos (Jm [e,f] X.env)).all (λ x=>!x.1)&&(backToKw cpos (Jx [] X.env)).all (λ x=>x.1.isSome)
   && decide (([e,f]:List Kf).length+([]:List Keyword).length+(if ([]:List Keyword).isEmpty then 0 else 1) < 30))=true
 line:(apos.endLine == cpos.line)=true
 trees:backTo cpos (Jm [e,f] X.env)=[(false,eval e X.env),(false,eval f X.env)]
def IsD(H:Hp)(a:γ):Prop:=(∃ kvs,Rd H a (.dK kvs))∨∃ kvs,Rd H a (.dT kvs)
theorem qaW8(I:Ov X D8 k H s)(d:IsD H a) :
   s.TypeIs (.ref a) "dict" /\ (∀ b,M7 a=.ref b->∃ ob,s.heap.get? b=some ob/\ob.dict=none)/\(a == Jw)=false:=by
 rcases d with⟨kvs,e⟩ | ⟨kvs,e⟩
 . obtain⟨_,f,i,_,c⟩:=Ii I.hok e
   refine⟨c.typeIs,λ b q=>?_,f⟩;cases q;obtain⟨ob,_,_,g,h,_⟩:=c;exact⟨ob,g,h.2.1⟩
 obtain⟨_,f,j,_,c⟩:=dt_rd I.hok e;refine⟨c.typeIs,λ b q=>?_,f⟩;cases q;obtain⟨ob,_,_,g,h,_⟩:=c;exact⟨ob,g,h.2.1⟩
section
variable{X:Cx}{v:List (γ×Obj)}{t:St}{H:Hp}{s:Sh}{a:γ}{y d:V}{u r:V'}{o:Option V}{A:Kd}{E:V'->Sh->Prop}
theorem qaY3(n:A.units+1 < cLine)(I:Ov X v t H s)(g:DGet H a y o)(i:Os y u)(j:Os d r)(h:∀ m s',Ov X v t H s'->Os (o.getD d) m->Q m s') :
   Ka (Kb X.prog X.w) A (call (.builtin "dict.get") [.ref a,u,r]) Q E s:=by
 rcases g with⟨kvs,k,e,ey,l⟩ | ⟨kvs,k,b,e,ey,eb,l⟩
 . subst ey
   obtain⟨z,f,q,rel,c⟩:=Ii I.hok e;refine call_meetsIn Nw c.typeIs N7 (N6 _ _ _) (meets_dict_get_default (qh1 X.prog X.w) a (Ih i) f r) ⟨_,c.mapOf,h _ _ (I.tok _) ?_⟩;rw[l];exact(rel.val k).getD j
 subst ey;cases (show u=M7 b from i);obtain⟨z,f,p,rel,c⟩:=dt_rd I.hok e;refine call_meetsIn Nw c.typeIs N7 (N6 _ _ _) (meetsH_dict_get_default (tupleKind (qh1 X.prog X.w)) a b f r) ⟨tupleKind_room_in1 n,k,p,qaN7 I.hok eb,c,h _ _ (I.tok _) ?_⟩;rw[l];exact(rel.val k).getD j
end
def qaS0(td ty tx:TE):TE:=λ b H Q=>td b H λ x H1=>∃ a,x=.ref a/\IsD H1 a/\ty b H1 λ y H2=>tx b H2 λ z H3=>∃ o,DGet H3 a y o/\Q (o.getD z) H3
section
variable{X:Cx}{o e f:Kf}{N M:Pos}{S O R:TE}
theorem qaz5(i:X.A.units+1 < cLine)(j:PE X o S)(k:PE X e O)(l:PE X f R)(m:M2 X o "get" N e f M):PE X (.Call (.Attribute o "get" N) [e,f] [] M) (qaS0 S O R):=by
 intro D8 s L H Q I h;refine wpAny_Call_method m.base m.few m.line F.plainAttrs_dict Nw F.type_dict_get (thn (j D8 s L H _ I h) λ u n b=>?_);obtain⟨x,H1,I1,p,a,q,d,r⟩:=b;subst q;obtain rfl:u=M7 a:=p;obtain⟨t1,t2,_⟩:=qaW8 I1 d;refine⟨t1,t2,?_⟩;rw[m.trees];refine Calls.callWith_builtin rfl (Calls.evalArgs_plain (Calls.spliced_cons (thn (k D8 n L H1 _ I1 r) λ C t ⟨y,H2,I2,v,q2⟩ =>
   Calls.spliced_cons (thn (l D8 t L H2 _ I2 q2) λ D E ⟨z,H3,I3,w,G,g,B⟩=>Calls.spliced_nil ?_))))
 exact qaY3 i I3 g v w λ J K I4 c=>⟨_,H3,I4,c,B⟩
end
end L2
namespace Att
open PySem PySem.W PySem.Calls PyProof.Rows
theorem qC4:∀(ns:List Int)(vs:List V'),WellAll P h vs (ns.map WData.int)->IntsAre vs ns:=by
 intro ns
 induction ns with
 | nil =>
   intro vs w;rw[Ma] at w;cases w;exact .nil
 | cons n ns c =>
   intro vs w;rw[zAx] at w;cases w with
   | cons a b =>
     cases a;exact .cons _ _ (c _ b)
theorem qal8{l:OpenLaw}(m:l.most=some n)(b:l.row.toRowW.claim.pre args=true)(i:WellAll P h vals args) :
   ∃ a vs ns,vals=[M7 a]/\args=[WData.list (ns.map WData.int)]/\h.get? a=some { cls:=.type "list",data:=.seq vs.toArray }/\IntsAre vs ns/\ns.length<=n:=by
 have j:WShape.hasAll [] args [.list .int]=true:=(pre_splitW b).1;have k:l.pre.holds [] { args:=args }=true:=(pre_splitW b).2;obtain⟨d,r,rfl,o,p⟩:=hasAllW_cons j;obtain rfl:=hasAllW_nil p;obtain⟨x,rfl,s⟩:=hasW_list o;obtain⟨ns,rfl⟩:=items_int s;have c:ns.length<=n:=by
   unfold OpenLaw.pre at k;have f:(WTm.not (.lt (.lit (.int (n:Int))) (.len (.arg 0)))).holds [] { args:=[.list (ns.map .int)] }=true:=by
     have f:=(holds_andW k).1;rw[m] at f;exact f
   have g:=condW_of f (w_not (w_lt w_lit (w_len_list (w_arg rfl))));rw[zA8] at g;refine zCb λ q=>?_
   have t:(n:Int) < ((ns.length:Nat):Int):=by lia
   first
     | (rw[zAb t] at g;exact absurd g (by decide))
     | (simp at g;lia)
 cases i with
 | cons u v =>
   cases v;cases u with
   | list w e=>exact⟨_,_,ns,rfl,rfl,w,qC4 ns _ e,c⟩
theorem qam6(l:OpenLaw)(args:List WData):l.row.toRowW.claim.post args (.bool true) args=true :=
 postW_of (r:=l.row.toRowW) (X:=(true == true))
   (show WShape.has [] (.bool true) .bool=true by first | rfl | decide | simp[WShape.has,WShape.arms,WShape.armsAll])
   (show (WTm.eq .res (.lit (.bool true))).value [] { args:=args,res:=some (.bool true),after:=args }=some (.bool (true == true)) from w_eq_bool (w_res rfl) w_lit) rfl
theorem qaa4{l:OpenLaw}(u:l.most=some n)(h:d.params.defaults=[])(call:∀(w:Ke)(s₀ s₁:Sh)(mg i:Str->Option V')(fa:γ)(o:Obj)(j cd b:V')(a:γ)(vs:List V')(ns:List Int),
     Ground q loose [] XP w s₀ mg i s₁.heap->YP w s₁.heap ->
     s₁.heap.get? fa=some o->o.data=.func (docDef d.name d.params d.body d.scope j cd b)->s₁.heap.CodeRec cd d.name->mg d.name=some (.ref fa) ->
     s₁.heap.get? a=some { cls:=.type "list",data:=.seq vs.toArray }->IntsAre vs ns->ns.length<=n->s₁.gens = #[] ->
     codeAny (Kb l.prog w) callerA (.call (.ref fa) ⟨[.ref a],[]⟩) (λ r s'=>r=.ok (.ret (.bool true))/\OldK s₁.heap s'.heap/\s'.os=s₁.os/\AllBare s'.gens) s₁) :
   WalkO q loose XP YP l.row.toRowW d [] (λ f vs=>PySem.call f vs):=by
 intro w s₀ s₁ mg i G Y fa o j cd b v kV x y k s m z args vals I c t A p B;obtain rfl:v=.none:=Dflts.none s h;obtain rfl:kV=.none:=Dflts.noKw s;obtain⟨a,vs,ns,rfl,rfl,e,hints,g⟩:=qal8 u c p;refine enter_call (codeAny_mono (call w s₀ s₁ mg i fa o j cd b a vs ns G Y x (fd_plain y) k m e hints g z) λ r s' C=>?_);obtain⟨rfl,D,E,F⟩:=C;exact⟨.inl ⟨.bool true,.bool true,[],rfl,λ _=>rfl,.bool true,qam6 l _,λ _=>⟨List.Pairwise.nil,λ _ H=>(nomatch H)⟩⟩,D,E,F⟩
end Att
namespace L2
open PySem PySem.Spec PyProof.Rows
theorem qS8:∀{vs:List V'}{ns:List Int},IntsAre vs ns->Ot (ns.map V.int) vs
 | _,_,.nil=>.nil
 | _,_,.cons n t h=>.cons ⟨t,rfl⟩ (qS8 h)
def Only(H:Hp):Prop:=∀ b,H b=none∨∃ o xs,H b=some (.frz o (.l xs))
theorem qaB8{K:Nl}(KX:K.In s₁.heap)(g:s₁.heap.Ns Jv mg)(c:s₁.heap.Ns builtinsNs C)(D:∀ x:Str,x ≠ "__name__" -> C x=Jr x)(i:s₁.heap.NoLimit)(T:s₁.gens = #[])(B:s₁.heap.get? a=some { cls:=.type "list",data:=.seq vs.toArray })(hi:IntsAre vs ns)(M:ns.length<=Jn)(U:Room k callerA)(F:∀ base:Heap,K.In base->base.Ns Jv mg->Fo P w K mg base CX k fa fd [x] sp)(hbind:∀(s:Sh)(u:V'),BindsTo s fd ⟨[u],[]⟩ [(x,u)])(E:∀ H:Hp,Only H->SqL K H a (ns.map V.int)->sp [.ref a] H (λ v _=>v=.bl true) λ _ _ _=>False)(G:∀ H e s',CX [] H s₁ (λ _ _ _=>False) e s'->False) :
   codeAny (Kb P w) callerA (.call (.ref fa) ⟨[.ref a],[]⟩) (λ r s'=>r=.ok (.ret (.bool true))/\OldK s₁.heap s'.heap/\s'.os=s₁.os/\AllBare s'.gens) s₁:=by
 have N:=qS8 hi;have lenV:=hi.length;have core:∀ H:Hp,Only H->SqL K H a (ns.map V.int)->HOk P w H s₁.heap->(∀ b,H b≠none->b=a)->(H a≠none->K.lookup a=none) ->
     codeAny (Kb P w) callerA (.call (.ref fa) ⟨[.ref a],[]⟩) (λ r s'=>r=.ok (.ret (.bool true))/\OldK s₁.heap s'.heap/\s'.os=s₁.os/\AllBare s'.gens) s₁:=by
   intro H O X j Q Y;have base_of:∀{b:γ}{o:Obj},s₁.heap.get? b=some o->H b=none->(Fl s₁.heap H).get? b=some o:=λ e n=>qaC6 e n
   have I:∀{b:γ}{o:Obj}{l:Array DictEntry}{p:Nat},s₁.heap.get? b=some o->o.data=.dict l p->H b=none:=λ{b o l p} e d=>by
     cases q:H b with
     | none=>rfl
     | some u =>
       have J:b=a:=Q b (by rw[q];simp);subst J;rw[B] at e;cases e;have Z:Data.seq vs.toArray _=Data.dict l p:=d;cases Z
   have f:∀{b:γ}{m:Str->Option V'},s₁.heap.Ns b m->(Fl s₁.heap H).Ns b m:=λ{b m} ⟨o,l,p,e,d,r⟩=>⟨o,l,p,base_of e (I e d),d,r⟩
   have t:K.In (Fl s₁.heap H):=λ b o e=>base_of (KX b o e) (by
     cases q:H b with
     | none=>rfl
     | some u =>
       have J:b=a:=Q b (by rw[q];simp);subst J;rw[Y (by rw[q];simp)] at e;cases e)
   have hM:Mod K mg (Fl s₁.heap H):=⟨t,f g,⟨C,f c,D⟩,let ⟨mc,h1,h2⟩:=i;⟨mc,f h1,h2⟩⟩
   have e0:Env0 P w K mg (Fl s₁.heap H) callerA [] s₁ H:=⟨rfl,hM,λ b o e=>qaL8 e,zD0 (qao7 _ _),trivial,λ b c=>absurd (show b∈([]:List γ) from c) (by simp),j,.of_eq T⟩
   refine codeAny_mono ((F _ t (f g)).run callerA [] s₁ H ⟨[.ref a],[]⟩ [.ref a] [.ref a] _ _ U e0 (hbind s₁ (.ref a)) (.cons rfl .nil) (E H O X)) λ r s' h=>?_
   cases r with
   | error e=>exact(G H e s' h).elim
   | ok fl =>
     cases fl with
     | next=>exact Oi h
     | brk=>exact Oi h
     | cont=>exact Oi h
     | ret u =>
       obtain⟨v,H',os,bare,R,y,r',q⟩:=h;have q':v=.bl true:=q;subst q';obtain rfl:u=M9 true:=r';refine⟨rfl,OldK.of_keep λ b o e=>?_,os,bare⟩;cases q:H b with
       | none=>exact R.keep b o e q (by intro z;exact absurd (show b∈([]:List γ) from z) (by simp)) (by simp)
       | some u =>
         rcases O b with z | ⟨ob,xs,z⟩
         . rw[q] at z;cases z
         have z2:=R.frzs b ob _ z;obtain⟨S,_⟩:=j b _ z;obtain⟨e2,_⟩:=y b _ z2;rw[e] at S;cases S;exact e2
 cases L:K.lookup a with
 | some o =>
   have e:=KX a o L;rw[B] at e;cases e;refine core (λ _=>none) (λ _=>.inl rfl) (.inr ⟨_,vs.toArray,_,L,rfl,rfl,rfl,by rw[zA5,lenV];exact M,by simpa using N⟩) (λ b u z=>by have A:(none:Option HO)=some u:=z;cases A) (λ b z=>absurd rfl z) λ z=>absurd rfl z
 | none =>
   refine core (λ b=>if b=a then some (.frz { cls:=.type "list",data:=.seq vs.toArray } (.l (ns.map V.int))) else none) (λ b=>?_) (.inl (.inr ⟨{ cls:=.type "list",data:=.seq vs.toArray },if_pos rfl⟩)) (λ b u z=>?_) (λ b z=>?_) λ _=>L
   . by_cases c:b=a
     . exact .inr ⟨_,_,if_pos c⟩
     exact .inl (if_neg c)
   . by_cases c:b=a
     . have A:=(if_pos c).symm.trans z
       cases A;subst c;exact⟨B,by rw[zA8];exact M,vs,_,N,B⟩
     have A:=(if_neg c).symm.trans z;cases A
   by_cases c:b=a
   . exact c
   exact absurd (if_neg c) z
theorem qaF4{l:W.OpenLaw}{K:Params->Nl}{CX:Ke->CXT}{sp:Ke->Sp}(y:l.most=some n)(j:n<=Jn)(m:d.params.defaults=[])(z:Room k callerA)(A:∀(w:Ke)(h:Heap),YP w h->(K w.params).In h)(F:∀(w:Ke)(mg:Str->Option V')(fa:γ)(h:Heap),(K w.params).In h->h.Ns Jv mg->mg d.name=some (.ref fa) ->
     ∃ fd:δ,(∀(s:Sh)(u:V'),BindsTo s fd ⟨[u],[]⟩ [(x,u)]) /\
       ∀ base:Heap,(K w.params).In base->base.Ns Jv mg->Fo l.prog w (K w.params) mg base (CX w) k fa fd [x] (sp w))(p:∀(w:Ke)(H:Hp)(a:γ)(ns:List Int),ns.length<=n->Only H->SqL (K w.params) H a (ns.map V.int)->sp w [.ref a] H (λ v _=>v=.bl true) λ _ _ _=>False)(r:∀(w:Ke)(H:Hp)(s:Sh)(e:V')(s':Sh),CX w [] H s (λ _ _ _=>False) e s'->False) :
   W.WalkO q loose XP YP l.row.toRowW d [] (λ f vs=>PySem.call f vs):=by
 refine Att.qaa4 y m λ w s₀ s₁ mg M fa o N O B a vs ns G Y P Q C t i hints c D=>?_
 have KX:=A w _ Y;obtain⟨fd,E,I⟩:=F w mg fa _ KX G.T.g t;exact qaB8 KX G.T.g G.T.b G.T.builtins G.T.nolimit D i hints (zAk c j) z I E (λ H J L=>p w H a ns c J L) λ H e s'=>r w H s₁ e s'
end L2
/- THE LAST THEOREM (shape;LID,My.* are yours):
  My.Adr: a structure of the addresses that your layer names (classes,functions);My.Txt K t: a structure (Prop) of the equations over K;
  My.txt_mk:{K} {implicit addresses ..} (e1:nsIn K Jv "law" = some (some (.ref f))) (e2:K.lookup f=some ⟨oc,od,.func (fnOf "law" "law" params body scope dV kV doc pm an cdv ct),sl⟩) (e3:codeIn K cdv "law" = true) .. : ∃ t,My.Txt K t
(the tactic k_is has no namespace: write k_is) -/
namespace L2
open PySem PySem.Spec PyProof.Rows
variable{f:γ}{qual x:Str}{st:Kh}
noncomputable def qj6(s:Kh)(j:Nat):Kh:=match s with
 | .ClassDef _ _ _ body _ _ _ _ _ _ _=>body.getD j (.Pass ⟨0,0,0,0⟩)
 | _=>.Pass ⟨0,0,0,0⟩
noncomputable def qf5(s:Kh):Arguments:=match s with
 | .FunctionDef _ a _ _ _ _ _ _ _ _=>a
 | _=>{ posonlyargs:=[],args:=[],vararg:=none,kwonlyargs:=[],kw_defaults:=[],kwarg:=none,defaults:=[] }
noncomputable def qd3(s:Kh):List Kh:=match s with
 | .FunctionDef _ _ b _ _ _ _ _ _ _=>b
 | _=>[]
noncomputable def qa3(s:Kh):Scope:=match s with
 | .FunctionDef _ _ _ _ _ _ sc _ _ _=>sc
 | _=>{ kind:=.function,names:=[],isGenerator:=false,isCoroutine:=false }
abbrev CX0:CXT:=λ _ _ _ _ _ _=>False
abbrev E0:XK:=λ _ _ _=>False
theorem pass0:qM0 CX0 X (λ _=>E0):=λ _ _ _ _ _ _ _ h=>h.elim
structure Fun(K:Nl)(x qual:Str)(st:Kh)(f:γ)(fd:δ):Prop where
 ex:∃(oc:V')(od:Option γ)(kV doc pm:V')(an:Option γ)(cdv ct:V')(osl:Array (Option V')),
   fd=W.fnOf x qual (qf5 st) (qd3 st) (qa3 st) .none kV doc pm an cdv ct/\K.lookup f=some ⟨oc,od,.func fd,osl⟩/\W.codeIn K cdv qual=true
 kp:W.keepIn K (.ref f)=true
section
variable{P:Kc}{w:Ke}{K:Nl}{p:Str->Option V'}{base:Heap}
theorem Fun.ok(F:Fun K x qual st f fd)(S:qa8 N ps (qa3 st))(len:∀ vs H Q E,sp vs H Q E->vs.length=ps.length)(hbody:∀(a:V')(A:Kd)(outer:List Env)(s:Sh)(H:Hp)(vs:List V)(Q:VK)(E:XK),Room k (A.deeper (envOfC qual (qa3 st) s.heap.objs.size f a))->sp vs H Q E ->
     ∃ t,PSs (Dx true CX0 P w K p base N qual (qa3 st) f a A outer s H E).nox (qd3 st) t/\t { nx:=λ _ H'=>Q .non H',rt:=Q } (start N vs) H):Fo P w K p base CX0 (k+1) f fd ps sp:=by
 obtain⟨j,l,kV,d,m,n,a,o,e,rfl,g,b⟩:=F.ex;refine Ie g b S len λ A outer s H vs Q E i c=>?_
 obtain⟨t,h,q⟩:=hbody a A outer s H vs Q E i c;exact⟨t,h.nox,q⟩
theorem Fun.binds(F:Fun K x qual st f fd)(h:∀(kV a c:V')(d:Option γ)(b e:V')(us:List V'),us.length=ps.length->bindArgs (W.fnOf x qual (qf5 st) (qd3 st) (qa3 st) .none kV a c d b e) ⟨us,[]⟩=pure (ps.zip us)):Binds K fd ps []:=by
 obtain⟨j,k,kV,a,c,d,b,e,g,rfl,l,i⟩:=F.ex;exact .all (h kV a c d b e)
theorem qao9{kV:V'}(l:K.lookup f=some ⟨oc,i,.func (W.fnOf x qual (qf5 st) (qd3 st) (qa3 st) .none kV b g e a h),d⟩)(c:W.codeIn K a qual=true)(k:W.keepIn K (.ref f)=true):Fun K x qual st f (W.fnOf x qual (qf5 st) (qd3 st) (qa3 st) .none kV b g e a h):=⟨⟨oc,i,kV,b,g,e,a,h,d,rfl,l,c⟩,k⟩
end
theorem hu_of(a:Room k A):A.units+1 < cLine:=zCe (Nat.add_le_add_left (by decide:1<=64) _) a.units
theorem qal7(h:n<=1000):n < Jn:=zCe h (by decide)
section
variable{X:Cx}
theorem pv(i:Nat)(b:X.N[i]? = some x:=by rfl)(c:Vis X.env.scope x:=by first | exact Ol rfl | exact Oj (Ol rfl) | exact Oj (Oj rfl))(d:N' x:=by decide)(a:(x == ("__classdict__" : Str))=false:=by decide):PE X (.Name x pos) (Fm i):=qo7 b c d a
theorem qar0:CallR X (.builtin "len") (λ xs H Q=>∃ a kvs,xs=[V.ref a]/\H a=some (.dK kvs)/\Q (.int kvs.length) H):=by
 intro D8 s f H xs d Q I r h;obtain⟨a,kvs,rfl,b,q⟩:=h;obtain⟨u,rfl,c⟩:=B7 r;cases c;exact d_len I (.inl b) λ t e I'=>⟨.int kvs.length,H,I',⟨t,rfl⟩,q⟩
end
def Same(H H':Hp):Prop:=∀ b o,H b=some o->H' b=some o
theorem Same.trans(a:Same H H1)(b:Same H1 H2):Same H H2:=λ c o h=>b c o (a c o h)
end L2
set_option maxHeartbeats 4000000
namespace L2
open PySem PySem.Spec PyProof.Rows
variable{H:Hp}{a:γ}{e:Kf}{es:List Kf}{i:Int}{p:Pos}{t:TA}{x:Str}{xs:List V}{α:Type}
theorem Hk{t:Sem α}(h:Ka M A t Q (λ _ _=>False) s)(b:∀ a s,Q a s->Q' a s):Ka M A t Q' E s :=
 Jy h b λ _ _ x=>x.elim
noncomputable def Es(env:Env):List (Str×NameKind)->List (Str×γ)->List (Str×γ)
 | [],acc=>acc
 | (n,k)::r,acc=>Es env r (if k == Og then (n,(env.cells.lookup n).getD 0)::acc else acc)
theorem qA1{env:Env}:∀(l:List (Str×NameKind))(acc:List (Str×γ)),(∀ x∈l,x.2=Og->∃ c,env.cells.lookup x.1=some c) ->
   (forIn l acc λ(x:Str×NameKind)(r:List (Str×γ)) =>
     (match x with
     | (name,kind)=>if (kind == Og)=true then (do let c <- cellOf env name;pure (ForInStep.yield ((name,c)::r)):Sem (ForInStep (List (Str×γ)))) else pure (ForInStep.yield r)))=(pure (Es env l acc):Sem _)
 | [],acc,_=>rfl
 | (n,k)::r,acc,h=>by
   rw[K7];by_cases a:(k == Og)=true
   . obtain⟨c,b⟩:=h (n,k) zAh (by simpa using a)
     have b:env.cells.lookup n=some c:=b;dsimp only;rw[if_pos a];have e:cellOf env n=pure c:=by unfold cellOf;rw[b]
     rw[e];show (forIn r ((n,c)::acc) _:Sem _)=_;rw[qA1 r ((n,c)::acc) λ x d=>h x (zA6 _ d)];show _=(pure (Es env r (if (k == Og)=true then (n,(env.cells.lookup n).getD 0)::acc else acc)):Sem _)
     rw[if_pos a,b];rfl
   dsimp only;rw[if_neg a];show (forIn r acc _:Sem _)=_;rw[qA1 r acc λ x d=>h x (zA6 _ d)];show _=(pure (Es env r (if (k == Og)=true then (n,(env.cells.lookup n).getD 0)::acc else acc)):Sem _)
   rw[if_neg a]
theorem qL4(h:∀ x∈sc.names,x.2=Og->∃ c,env.cells.lookup x.1=some c):closureFor sc env=pure (Es env sc.names []):=by
 unfold closureFor;show (forIn sc.names [] _ >>= _)=_
 have:=qA1 (env:=env) sc.names [] h
 rw[show (forIn sc.names ([]:List (Str×γ)) _:Sem _)=pure (Es env sc.names []) from this];rfl
theorem qai9{env:Env}:∀(l:List (Str×NameKind))(acc:List (Str×γ))(x:Str)(c:γ),(x,c)∈Es env l acc->(x,c)∈acc∨((x,Og)∈l/\c=(env.cells.lookup x).getD 0)
 | [],acc,x,c,h=>.inl h
 | (n,k)::r,acc,x,c,h=>by
   rcases qai9 r _ x c h with h | ⟨h,e⟩
   . by_cases a:(k == Og)=true
     . rw[if_pos a] at h
       rcases zAi.mp h with h | h
       . cases h
         exact .inr ⟨by rw[show k=Og by simpa using a];exact zAh,rfl⟩
       exact .inl h
     rw[if_neg a] at h;exact .inl h
   exact .inr ⟨zA6 _ h,e⟩
theorem qaj0{env:Env}:∀(l:List (Str×NameKind))(acc:List (Str×γ))(x:Str),(∃ c,(x,c)∈acc)->∃ c,(x,c)∈Es env l acc
 | [],acc,x,h=>h
 | (n,k)::r,acc,x,⟨c,h⟩=>qaj0 r _ x ⟨c,by split;exact zA6 _ h;exact h⟩
theorem qS1{env:Env}:∀(l:List (Str×NameKind))(acc:List (Str×γ))(x:Str),(x,Og)∈l->∃ c,(x,c)∈Es env l acc
 | [],acc,x,h=>by simp at h
 | (n,k)::r,acc,x,h=>by
   rcases zAi.mp h with h | h
   . cases h
     exact qaj0 r _ _ ⟨_,by rw[if_pos (by rfl)];exact zAh⟩
   exact qS1 r _ x h
theorem qy8{α:Type}:∀{l:List (Str×α)}{x:Str},(∃ c,(x,c)∈l)->∃ c,l.lookup x=some c
 | [],x,⟨c,h⟩=>by simp at h
 | (n,a)::r,x,⟨c,h⟩=>by
   cases b:x == n with
   | true=>exact⟨a,by simp only[zAw,b]⟩
   | false =>
     rcases zAi.mp h with h | h
     . cases h;simp at b
     obtain⟨d,e⟩:=qy8 ⟨c,h⟩;exact⟨d,by simp only[zAw,b];exact e⟩
noncomputable def Dl(a:St)(src:List (Option Nat)):St:=src.map λ o=>match o with | none=>none | some j=>(a[j]?).getD none
noncomputable def qt8(X:Cx)(NY:List Str)(src:List (Option Nat))(sc:Scope):Bool :=
 (sc.kind == .function)&&(src.length == NY.length) &&
 (sc.names.all λ x=>x.2 != .cell&&(x.2 != .local||sc.names.lookup x.1 == some .local)&&(x.2 != .free||(X.env.scope.names.lookup x.1 == some .cell||X.env.scope.names.lookup x.1 == some .free))) &&
 ((NY.zip src).all λ p=>match p.2 with | none=>true | some j=>X.N[j]? == some p.1&&sc.names.lookup p.1 == some .free)
def qj8(X:Cx)(NY:List Str)(sc:Scope)(C:γ)(a:Sh)(H0:Hp)(ex:List γ):Cx where
 prog:=X.prog
 w:=X.w
 K:=X.K
 mg:=X.mg
 base:=X.base
 A:=X.A
 N:=NY
 s₀:=a
 H₀:=H0
 env:=compEnvC sc (Es X.env sc.names []) C X.env
 outer:=X.stack
 stack:=X.stack
 ex:=ex
 fn:=λ _=>false
 calm:=X.calm
 pn:=[]
 xe:=λ _ _=>False
def PFs(X:Cx)(ifs:List Kf)(t:TT):Prop :=
 ∀(D8:List (γ×Obj))(s:Sh)(b:St)(H:Hp)(Q:Bool->Hp->Prop),Ov X D8 b H s->t b H Q ->
   Ka (Kb X.prog X.w) X.A (forIn ifs true λ c r=>if r=true then do let a <- isTrue c X.env (eval c X.env);pure (ForInStep.yield a) else pure (ForInStep.yield r)) (TP X D8 b Q) X.xe s
def tYes:TT:=λ _ H Q=>Q true H
theorem qaJ8:PFs X [] tYes:=λ _ _ _ H _ I h=>wpAny_tests_nil ⟨H,I,h⟩
theorem qaT3{t:TT}(h:PT X c t):PFs X [c] t:=λ D8 s a H Q I q=>wpAny_tests_one (h D8 s a H Q I q)
theorem qp8(I:Nat->Sh->Prop)(turn:∀ n s,I n s->Ka (Kb prog w) A (pyNext it) (λ r s₁=>match r with
     | none=>R (.ok .next) s₁
     | some v=>Ka (Kb prog w) A (letOwnedTupleGo target it v) (λ _ s₁'=>Ka (Kb prog w) A (assign target env v) (λ _ s₂ =>
         Ka (Kb prog w) A (forIn ifs true λ c r=>if r=true then do let a <- isTrue c env (eval c env);pure (ForInStep.yield a) else pure (ForInStep.yield r)) (λ a s₃ =>
           if a=true then Ka (Kb prog w) A (eval elt env) (λ x s₄ =>
             Ka (Kb prog w) A (call (.builtin "list.append") [acc,x]) (λ _ s₅=>∃ m,m < n/\I m s₅) (λ _ _=>False) s₄) (λ _ _=>False) s₃
           else ∃ m,m < n/\I m s₃) (λ _ _=>False) s₂) (λ _ _=>False) s₁') (λ _ _=>False) s₁) (λ _ _=>False) s)(n:Nat)(h:I n s) :
   codeAny (Kb prog w) A (.compLoop (.ListComp elt [⟨target,iter,ifs,0⟩] scope pos) 0 it acc env) R s:=by
 refine codeAny_loop rfl I (λ n s b=>?_) n h;show Ka _ A ((compTurn (.ListComp elt [⟨target,iter,ifs,0⟩] scope pos) 0 it acc env).onRaise (λ x=>do noteFrame x env;theTreesLotGoes x)) _ _ s;refine wpAny_noted ?_;rw[compTurn_list];refine E' (wpAny_standAt (E' (Hk (turn n s b) λ r s₁ h₁=>?_)));cases r with
 | none=>exact G' h₁
 | some v =>
   refine E' (Hk h₁ λ _ s₁' h₁'=>?_);refine E' (Hk h₁' λ _ s₂ h₂=>E' (Hk h₂ λ a s₃ h₃=>?_));cases a with
   | false=>exact G' ⟨rfl,h₃⟩
   | true =>
     exact E' (E' (Hk h₃ λ x s₄ h₄=>E' (Hk h₄ λ _ s₅ h₅=>G' (G' ⟨rfl,h₅⟩))))
def qA4(J:It)(g:TG)(tf:TT)(te:TE)(D:γ)(R:Hp->Prop)(σ0:St)(H0:Hp):Prop :=
 ∃ W:Nat->Nat->St->Hp->Prop,(∃ m,W 0 m σ0 H0)/\∀ i m c H,W i m c H ->
   (J.stop i H/\R H)∨(J.go i H/\∃ N:St->Hp->Prop,(∀ c' H',N c' H'->∃ a,a < m/\W (i+1) a c' H')/\∀ x H',J.yld i H x H'->g x c H' λ σ2 H2=>tf σ2 H2 λ b H3 =>
     if b=true then te σ2 H3 λ v H4=>∃ xs,H4 D=some (.l xs)/\xs.length < Jn/\N σ2 (upd H4 D (.l (xs++[v]))) else N σ2 H3)
theorem qq6{env:Env}{x:Str}:∀{names:List (Str×NameKind)},(∀ y∈names,y.2≠.cell) ->
   ((names.map λ (n,k)=>if (k == Og&&env.scope.kind == .function&&env.kindOf n == some .cell) then (n,Oh) else (n,k)).lookup x=some .cell ∨
    (names.map λ (n,k)=>if (k == Og&&env.scope.kind == .function&&env.kindOf n == some .cell) then (n,Oh) else (n,k)).lookup x=some .free)->names.lookup x=some .free
 | [],_,h=>by simp at h
 | (n,k)::r,hc,h=>by
   have c:=@qq6 env x r λ y d=>hc y (zA6 _ d)
   have e:k≠.cell:=hc (n,k) zAh;simp only[zAx] at h;cases b:x == n with
   | true =>
     simp only[zAw,b];by_cases a:(k == Og&&env.scope.kind == .function&&env.kindOf n == some .cell)=true
     . have:k=Og:=by
         simp only[zBo,zBz] at a;exact a.1.1
       rw[this]
     rw[if_neg a] at h;simp only[zAw,b] at h;rcases h with h | h
     . exact absurd (Nj h) e
     exact h
   | false =>
     simp only[zAw,b];apply c;by_cases a:(k == Og&&env.scope.kind == .function&&env.kindOf n == some .cell)=true
     . rw[if_pos a] at h
       simpa only[zAw,b] using h
     rw[if_neg a] at h;simpa only[zAw,b] using h
theorem qi7{env:Env}{x:Str}:∀{names:List (Str×NameKind)},names.lookup x=some .free ->
   ((names.map λ (n,k)=>if (k == Og&&env.scope.kind == .function&&env.kindOf n == some .cell) then (n,Oh) else (n,k)).lookup x=some .cell ∨
    (names.map λ (n,k)=>if (k == Og&&env.scope.kind == .function&&env.kindOf n == some .cell) then (n,Oh) else (n,k)).lookup x=some .free)
 | [],h=>by simp at h
 | (n,k)::r,h=>by
   have c:=@qi7 env x r;simp only[zAx];cases a:x == n with
   | true =>
     simp only[zAw,a] at h;have h:k=.free:=Nj h;by_cases b:(k == Og&&env.scope.kind == .function&&env.kindOf n == some .cell)=true
     . rw[if_pos b];simp only[zAw,a];exact .inl trivial
     rw[if_neg b];simp only[zAw,a];rw[h];exact .inr rfl
   | false =>
     simp only[zAw,a] at h;by_cases b:(k == Og&&env.scope.kind == .function&&env.kindOf n == some .cell)=true
     . rw[if_pos b];simp only[zAw,a];exact c h
     rw[if_neg b];simp only[zAw,a];exact c h
section
variable{X:Cx}{D8:List (γ×Obj)}{σ:St}{H2:Hp}{s2:Sh}{elt tg iter:Kf}{ifs:List Kf}{sc:Scope}{pos:Pos}{NY:List Str}{src:List (Option Nat)}{J:It}{fp:List γ}{it:γ}{tn:Nat->Heap->Prop}{g:TG}{tf:TT}{te:TE}
theorem qW5{R:γ->Hp->Prop}{RR:V'->γ->Result->Sh->Prop}(ck:qt8 X NY src sc=true)(hc:X.calm=true)(I2:Ov X D8 σ H2 s2)(T:Gk X.prog X.w X.K tg J fp it tn)(I:tn 0 s2.heap)(f2:∀ b∈fp,Fn X D8 H2 b)(hg:∀ C P H0,PG (qj8 X NY sc C P H0 fp) tg g)(hf:∀ C P H0,PFs (qj8 X NY sc C P H0 fp) ifs tf)(he:∀ C P H0,PE (qj8 X NY sc C P H0 fp) elt te)(rd:∀ D,H2 D=none->qA4 J g tf te D (R D) (Dl σ src) (upd H2 D (.l [])))(fin:∀ D C H' s',Ov X D8 σ H' s'->R D H'->H' C=none->X.s₀.heap.objs.size<=C->C≠X.env.locals->(∀ x c,X.env.cells.lookup x=some c->c≠C)->(∀ p∈X.pn++D8,p.1≠C)->C∉X.fs->(∃ m,s'.heap.Ns C m)->RR (.ref D) C (.ok .next) s') :
   Ka (Kb X.prog X.w) X.A (newList []) (λ acc s₃=>Ka (Kb X.prog X.w) X.A (newFunctionEnv sc X.env.globals (Es X.env sc.names []) [] X.env.qual none .none (some X.env)) (λ cenv s₄ =>
     codeAny (Kb X.prog X.w) X.A (.compStart (.ListComp elt [⟨tg,iter,ifs,0⟩] sc pos) 0 (.ref it) acc { cenv with scope:=relabel sc X.env }) (RR acc cenv.locals) s₄) E s₃) E s2:=by
 unfold qt8 at ck;simp only[zBo,zBz,zBi] at ck;obtain⟨⟨⟨hkind,G⟩,Q⟩,S⟩:=ck;have hcell:∀ y∈sc.names,y.2≠.cell:=λ y U e=>by
   have:=(Q y U).1.1
   rw[e] at this;exact absurd this (by decide)
 have hfree:∀ y∈sc.names,y.2=.free->(X.env.kindOf y.1=some .cell∨X.env.kindOf y.1=some .free):=λ y U e=>by
   have:=(Q y U).2
   rw[e] at this;show X.env.scope.names.lookup y.1=some .cell∨X.env.scope.names.lookup y.1=some .free;simpa using this
 have clsub:∀ x c,(Es X.env sc.names []).lookup x=some c->X.env.cells.lookup x=some c:=λ x c e=>by
   rcases qai9 _ _ x c (PySem.mem_of_lookup e) with h | ⟨h,q⟩
   . simp at h
   obtain⟨d,M⟩:=I2.ok.has x (hfree _ h rfl);rw[M] at q;rw[M,q];rfl
 refine wpAny_newObj_type (wpAny_newFunctionEnv hcell (by intro y U;simp at U) (λ h₁ hns₁ hsb₁=>?_) hkind);dsimp only at hns₁ hsb₁ ⊢;have I3:=I2.lnew (ys:=[]) (its:=[]) (t':=s2.toks) .nil (zBh _);have hD:H2 s2.heap.objs.size=none:=I2.fresh;generalize t:s2.heap.objs.size=D at hns₁ hsb₁ I3 hD ⊢;generalize V:s2.heap.push { cls:=.type "list",dict:=none,data:=.seq ([]:List V').toArray }=h3 at hns₁ hsb₁ I3 ⊢;have Z:h3.objs.size=D+1:=by rw[<- V,zCg,t]
 generalize s:h3.objs.size=C at hns₁ hsb₁ Z ⊢;have I3:Ov X D8 σ (upd H2 D (.l [])) { s2 with heap:=h3,toks:=s2.toks }:=I3;have B:∀ b o,h3.get? b=some o->h₁.get? b=some o:=λ b o e=>hsb₁.extBut b o (by rw[<- s];exact zAt (zA7 e)) (zA2 _ e)
 have a0:∀ b o,h3.get? b=some o->b≠C:=λ b o e=>by rw[<- s];exact zAt (zA7 e)
 have a1:X.env.locals≠C:=by rw[<- s];exact zAt I3.lt
 have b0:∀ x c,X.env.cells.lookup x=some c->c≠C:=λ x c e=>by
   obtain⟨v,o,F,_⟩:=I3.cell x c e;exact a0 c o F
 have a2:∀ b∈fp,b≠C:=λ b f=>by
   obtain⟨o,F,_⟩:=T.obj _ _ I b f
   have:=zA7 F
   rw[t] at this;exact zAt (Nat.lt_trans this (by rw[Z];exact Nat.lt_succ_self _))
 have b1:∀ b∈fp,b≠D:=λ b f=>by
   obtain⟨o,F,_⟩:=T.obj _ _ I b f
   have:=zA7 F
   rw[t] at this;exact zAt this
 have a3:∀ b o,s2.heap.get? b=some o->h3.get? b=some o:=λ b o e=>by rw[<- V];exact zA2 _ e
 have pinC:∀ p∈X.pn++D8,p.1≠C:=λ p hp=>a0 _ _ (I3.pin p hp).1
 have a4:C∉X.fs:=by rw[<- s];exact I3.nofs (zA3 _)
 have b2:X.s₀.heap.objs.size<=C:=by rw[<- s];exact I3.sz
 have stkC:∀ b∈frs X.stack,b≠C:=λ b f e=>by
   rcases zAi.mp (I3.stkSub b f) with z | z
   . exact a1 (z.symm.trans e)
   exact a4 (e ▸ z)
 have HC:upd H2 D (.l []) C=none:=I3.hok.fresh (by show h3.objs.size<=C;exact zD0 s);have a5:∀ b∈fp,b∉frs X.stack:=λ b f z=>by
   obtain⟨_,h1,h2,_⟩:=f2 b f;rcases zAi.mp (I2.stkSub b z) with q | q
   . exact h1 q
   exact h2 q
 let Y:Cx:=qj8 X NY sc C { s2 with heap:=h3 } (upd H2 D (.l [])) fp
 have a6:(Dl σ src).length=NY.length:=by unfold Dl;rw[zA8];exact G
 have IY:Ov Y [] (Dl σ src) (upd H2 D (.l [])) { s2 with heap:=h₁,toks:=s2.toks+0 }:=by
   refine⟨⟨I2.ok.mod,hkind,I2.ok.glob,I2.ok.blt,(by show h3.objs.size<=C;exact zD0 s),λ x y c h1 h2=>I2.ok.inj x y c (clsub x c h1) (clsub y c h2),λ x hx=>?_,λ _ _ z _=>(zAq z).elim,I2.ok.hd,I2.ok.frames,.inl rfl,λ b f=>⟨a2 b f,λ x c e=>(f2 b f).2.2.2.2.1 x c (clsub x c e)⟩,
     λ b o e=>?_,?_,λ b o e f=>?_,λ b f=>a5 b f,?_,λ b f=>?_⟩,rfl,I2.bare,Un.kept B,⟨_,hns₁,λ i x v e1 e2 e3=>?_⟩,λ x c e=>?_,HC,λ x c e=>I3.freeC x c (clsub x c e),λ p hp=>absurd (show p∈([]:List (γ×Obj)) from hp) (by simp),I3.hok.kept B,a6⟩
   . have hx:=qq6 hcell hx
     exact qy8 (qS1 _ _ _ (PySem.mem_of_lookup hx))
   . exact I3.bs b o e
   . exact zAk I2.ok.bsz (zAk (zAk I2.sz (by rw[t];exact zA3 _)) (by show D<=h3.objs.size;lia))
   . rcases (f2 b f).2.2.2.1 with z | z
     . exact I2.ok.noex b o e z
     exact absurd (zAg (zA7 (I2.ok.bs b o e).1) z) (zCf _)
   . exact I3.stack
   . exact I3.stkFree b f
   . -- a captured name
     have hi:i < src.length:=by
       have:=(zA4.mp e2).1
       rw[a6,<- G] at this;exact this
     have e1:NY[i]? = some x:=e1;have es:src[i]? = some src[i]:=by simp[hi]
     have ep:(Dl σ src)[i]? = some (match src[i] with | none=>none | some j=>(σ[j]?).getD none):=by
       unfold Dl;rw[zBe,es];rfl
     rw[ep] at e2;cases hj:src[i] with
     | none=>rw[hj] at e2;cases e2
     | some j =>
       rw[hj] at e2;have e2:(σ[j]?).getD none=some v:=Nj e2;have ej:σ[j]? = some (some v):=by
         cases q:σ[j]? with
         | none=>rw[q] at e2;cases e2
         | some o=>rw[q] at e2;rw[show o=some v from e2]
       have hm:(x,some j)∈NY.zip src:=by
         have:(NY.zip src)[i]? = some (x,some j):=by
           rw[List.getElem?_zip_eq_some];exact⟨e1,by rw[es,hj]⟩
         exact zB1 this
       have q:=S _ hm;simp only[zBo,zBz] at q;obtain⟨qN,qf⟩:=q;have H:=hfree _ (PySem.mem_of_lookup qf) rfl;obtain⟨m,hn,hl⟩:=I3.loc;obtain⟨u,r,l⟩:=hl j x v qN ej (H.elim (λ z=>.inr (.inl z)) λ z=>.inr (.inr z));refine⟨u,r,.inr ⟨qi7 qf,?_⟩⟩;rcases l with⟨z,_⟩ | ⟨_,c,ec,o,F,M⟩
       . have H:X.env.kindOf x=some .cell∨X.env.kindOf x=some .free:=H
         rw[z] at H;rcases H with H | H<;>cases H
       obtain⟨c',a7⟩:=qy8 (qS1 (env:=X.env) sc.names [] x (PySem.mem_of_lookup qf))
       have:=clsub x c' a7
       rw[ec] at this;cases this;exact⟨c,a7,o,B c o F,M⟩
   obtain⟨v,o,F,M⟩:=I3.cell x c (clsub x c e);exact⟨v,o,B c o F,M⟩
 have st₁:tn 0 h₁:=T.keep _ _ _ I λ b f o e=>B b o (a3 b o e)
 have stat:∀{H':Hp},(∀ b∈fp,H' b=none)->∀ b∈fp,Fn Y [] H' b:=λ hn b f=>by
   refine⟨hn b f,a2 b f,a5 b f,.inl f,λ x c e=>(f2 b f).2.2.2.2.1 x c (clsub x c e),λ p hp=>absurd (show p∈([]:List (γ×Obj)) from hp) (by simp)⟩
 have loop:codeAny (Kb X.prog X.w) X.A (.compLoop (.ListComp elt [⟨tg,iter,ifs,0⟩] sc pos) 0 (.ref it) (.ref D) Y.env) (RR (.ref D) C) { s2 with heap:=h₁,toks:=s2.toks+0 }:=by
   obtain⟨W,⟨m0,w0⟩,turn⟩:=rd D hD;refine qp8 (λ n s'=>∃ i σ' H',Ov Y [] σ' H' s'/\tn i s'.heap/\(∀ b∈fp,H' b=none)/\W i n σ' H') ?_ m0 ⟨0,_,_,IY,st₁,λ b f=>by rw[qc9 (b1 b f)];exact(f2 b f).1,w0⟩;rintro n s3 ⟨i,σ3,H3,J3,a8,a9,w3⟩;rcases turn i n σ3 H3 w3 with⟨stop,qn⟩ | ⟨go,N,hN,step⟩
   . refine thn (T.done Y rfl rfl rfl hc i [] s3 σ3 H3 _ J3 (stat a9) a8 stop) λ r s4 k=>?_
     obtain⟨hr,J4⟩:=k;subst hr;have b3:H3 C=none:=J4.free;refine fin D C H3 s4 ?_ qn b3 b2 (Ne.symm a1) b0 pinC a4 (let ⟨m,hn,_⟩:=J4.loc;⟨m,hn⟩);refine I2.call' (ch:=fp) J4.os ?_ J4.hok J4.bare λ b f=>?_
     . have u1:Un (frs X.stack) fp H2 (upd H2 D (.l [])) s2.heap h3:=Un.laid a3 (zD0 t) hD
       exact u1.trans J4.base
     obtain⟨_,h1,_,b4,h4,h5⟩:=f2 b f;exact⟨b4,h1,h4,h5⟩
   refine thn (T.item Y rfl rfl rfl hc i [] s3 σ3 H3 _ J3 (stat a9) a8 go) λ r s4 k=>?_
   obtain⟨u,hr,h4⟩:=k;subst hr;refine thn h4 λ _ s5 k=>?_
   obtain⟨x,H5,J5,r5,y5,L,b5⟩:=k;have J5':=J5.pinned (stat b5) (T.obj _ _ L);have again:∀{σ7:St}{H7:Hp}{O:Sh},Ov Y ([]++Hx fp s5.heap) σ7 H7 O->N σ7 H7->∃ m,m < n/\∃ i σ' H',Ov Y [] σ' H' O/\tn i O.heap/\(∀ b∈fp,H' b=none)/\W i m σ' H':=λ{σ7 H7 O} I7 n7=>by
     obtain⟨m',hm,w7⟩:=hN σ7 H7 n7;refine⟨m',hm,i+1,σ7,H7,I7.unpinned,T.keep _ _ _ L λ b f o e=>(I7.pin (b,o) (zAy _ (zAy _ (qq5 f e)))).1,λ b f=>?_,w7⟩;obtain⟨o,e,d⟩:=T.obj _ _ L b f;exact(I7.pin (b,o) (zAy _ (zAy _ (qq5 f e)))).2.1
   refine thn (hg C _ _ _ s5 σ3 H5 x u _ J5' r5 (step x H5 y5)) λ _ s6 k=>?_
   obtain⟨σ6,H6,J6,q6⟩:=k;refine thn (hf C _ _ _ s6 σ6 H6 _ J6 q6) λ ok O k=>?_
   obtain⟨H7,J7,q7⟩:=k;cases ok with
   | false=>exact again J7 (by simpa using q7)
   | true =>
     rw[if_pos rfl] at q7 ⊢;refine thn (he C _ _ _ O σ6 H7 _ J7 q7) λ y s8 k=>?_
     obtain⟨v,H8,J8,r8,xs,b6,b7,q8⟩:=k;refine thn (qd2 (X:=Y) _ s8 σ6 H8 (.ref D) [v] (.ref D) [y] (λ _ H'=>N σ6 H') J8 rfl (.cons r8 .nil) ⟨D,xs,v,rfl,rfl,b6,b7,q8⟩) λ _ s9 k=>?_
     obtain⟨_,H9,J9,_,q9⟩:=k;exact again J9 q9
 exact codeAny_compStart_list loop (T.self _ 0 _ _ _ st₁ loop)
end
def Dy(wi:TI)(src:List (Option Nat))(g:TG)(tf:TT)(te:TE):TE:=λ a H Q=>wi a H λ J H1=>∀ D,H1 D=none->qA4 J g tf te D (λ H'=>Q (.ref D) H') (Dl a src) (upd H1 D (.l []))
section
variable{X:Cx}{elt tg iter:Kf}{ifs:List Kf}{sc:Scope}{pos:Pos}{NY:List Str}{src:List (Option Nat)}{wi:TI}{g:TG}{tf:TT}{te:TE}
theorem qL2(b:qt8 X NY src sc=true):sc.kind=.function/\(∀ y∈sc.names,y.2=.local->sc.names.lookup y.1=some .local)/\(∀ y∈sc.names,y.2=.free->(X.env.kindOf y.1=some .cell∨X.env.kindOf y.1=some .free)):=by
 unfold qt8 at b;simp only[zBo,zBz,zBi] at b;obtain⟨⟨⟨hkind,d⟩,a⟩,f⟩:=b;refine⟨hkind,λ y c e=>?_,λ y c e=>?_⟩
 . have:=(a y c).1.2
   rw[e] at this;simpa using this
 have:=(a y c).2
 rw[e] at this;show X.env.scope.names.lookup y.1=some .cell∨X.env.scope.names.lookup y.1=some .free;simpa using this
theorem qC7(NY:List Str)(src:List (Option Nat))(hi:PI X tg iter wi)(n:∀ C a H0 ex,PG (qj8 X NY sc C a H0 ex) tg g)(p:∀ C a H0 ex,PFs (qj8 X NY sc C a H0 ex) ifs tf)(r:∀ C a H0 ex,PE (qj8 X NY sc C a H0 ex) elt te)(t:X.calm=true:=by rfl)(l:qt8 X NY src sc=true:=by rfl)(u:∀ x,Jp iter X.env x=pure x:=by intro _;rfl):PE X (.ListComp elt [⟨tg,iter,ifs,0⟩] sc pos) (Dy wi src g tf te):=by
 intro D8 s σ H Q I h;obtain⟨hkind,hnames,hfree⟩:=qL2 l;rw[eval_ListComp];refine wpAny_comprehension_free (use:=none) rfl u (qL4 λ x y e=>I.ok.has x.1 (hfree x y e)) hkind hnames ?_;refine thn (hi D8 s σ H _ I h) λ v O c=>thn c λ z P d=>?_
 obtain⟨B,f,S,J,H2,rfl,I2,T,i,f2,E⟩:=d;refine qW5 (R:=λ D H'=>Q (.ref D) H') (RR:=λ j C=>compPost (Kb X.prog X.w) X.A X.xe none (EP X D8 σ Q) j C) l t I2 T i f2 (λ C a H0=>n C a H0 f) (λ C a H0=>p C a H0 f) (λ C a H0=>r C a H0 f) E ?_;intro D C H' F I' q G c d K L U ⟨m,M⟩;refine⟨m,M,λ V k=>⟨.ref D,H',?_,rfl,q⟩⟩;exact I'.turned (t':=F.toks) (it:=C) (λ b o N e=>k.extBut b o N e) G d (.inr c) K L
theorem qat2(i:Nat)(NY:List Str)(src:List (Option Nat))(L:X.N.Nodup)(hi:PI X tg iter wi)(M:∀ C a H0 ex,PG (qj8 X NY sc C a H0 ex) tg g)(O:∀ C a H0 ex,PFs (qj8 X NY sc C a H0 ex) ifs tf)(P:∀ C a H0 ex,PE (qj8 X NY sc C a H0 ex) elt te)(k:X.N[i]? = some x:=by rfl)(l:Loc X.env.scope x:=by first | exact Ol rfl | exact Oj rfl)(S:X.calm=true:=by rfl)(F:qt8 X NY src sc=true:=by rfl)(n:swapsWith (.ListComp elt [⟨tg,iter,ifs,0⟩] sc pos) (some (.Name x px)) spos.line X.env=pure true:=by rfl)(U:∀ x,Jp iter X.env x=pure x:=by intro _;rfl)(r:X.fn x=true∨X.env.scope.names.lookup x=some .local:=by first | exact .inl rfl | exact .inr rfl | assumption):PS X (.Assign [.Name x px] (.ListComp elt [⟨tg,iter,ifs,0⟩] sc pos) spos) (Hj (Dy wi src g tf te) (Ew i)):=by
 intro D8 s σ H D I h;obtain⟨hkind,hnames,hfree⟩:=qL2 F;rw[exec_Assign_Name_used _ _ _ _ n];refine E' (wpAny_standAt (E' ?_));show Ka _ _ (do let _ <- comprehension (.ListComp elt [⟨tg,iter,ifs,0⟩] sc pos) sc X.env _ (newList []) false (eval iter X.env) (some (assign (.Name x px) X.env))) _ _ s;refine E' (Jy (wpAny_comprehension_free (use:=some (assign (.Name x px) X.env)) (Q:=λ _ c=>SP X D8 D .next c) rfl U (qL4 λ x l e=>I.ok.has x.1 (hfree x l e)) hkind hnames ?_) (λ _ c V=>G' (G' V)) λ _ _ e=>e);refine thn (hi D8 s σ H _ I h) λ v s1 t=>thn t λ W s2 j=>?_
 obtain⟨Y,u,tn,J,H2,rfl,I2,T,y,f2,Z⟩:=j;refine qW5 (R:=λ D' H'=>Ew i (.ref D') σ H' D.nx) (RR:=λ B C=>compPost (Kb X.prog X.w) X.A X.xe (some (assign (.Name x px) X.env)) (λ _ c=>SP X D8 D .next c) B C) F S I2 T y f2 (λ C a H0=>M C a H0 u) (λ C a H0=>O C a H0 u) (λ C a H0=>P C a H0 u) Z ?_;intro D' C H' c I' q G t j h3 h4 h5 ⟨m,hn⟩;obtain⟨o,es,ep,ho,K,hr⟩:=hn;have Ip:Ov X (D8++[(C,o)]) σ H' c:=I'.pins_of λ p hp=>(zAa.mp hp).elim (λ z=>I'.pin p (zAy _ z)) λ z=>by
   have e:p=(C,o):=by simpa using z
   subst e;exact⟨ho,G,j,h5,λ v e=>by rw[K] at e;cases e⟩
 show Ka _ _ (assign (.Name x px) X.env (.ref D')) _ _ _;refine wpAny_assign_Name (qN1 (v:=.ref D') Ip L k l rfl (λ d I''=>?_) r);have f:d.heap.get? C=some o:=(I''.pin (C,o) (by simp)).1;refine⟨m,⟨o,es,ep,f,K,hr⟩,λ h' E=>⟨_,H',?_,q⟩⟩;exact I''.unpinned.turned (t':=d.toks) (it:=C) (λ b o hb e=>E.extBut b o hb e) G j (.inr t) h3 h4
end
theorem qW4{K:Nl}(Pv:Nat->St->Hp->Prop)(c:Pv 0 n H)(d:∀ i n H,i<=xs.length->Pv i n H->SqL K H a xs)(f:∀ i x n H,xs[i]? = some x->Pv i n H->g x n H λ σ2 H2=>tf σ2 H2 λ h H3=>if h=true then te σ2 H3 λ v H4=>∃ ys,H4 D=some (.l ys)/\ys.length < Jn/\Pv (i+1) σ2 (upd H4 D (.l (ys++[v]))) else Pv (i+1) σ2 H3)(j:∀ n H,Pv xs.length n H->R H) :
   qA4 (Itl K a) g tf te D R n H:=by
 refine⟨λ i m n H=>m=xs.length - i/\i<=xs.length/\Pv i n H,⟨xs.length,by simp,zBh _,c⟩,?_⟩;rintro i m n H ⟨rfl,k,p⟩;have q:=d i n H k p;by_cases b:i < xs.length
 . refine .inr ⟨⟨xs,xs[i],q,by simp[b]⟩,Pv (i+1),λ n' H' l=>⟨xs.length - (i+1),by lia,rfl,b,l⟩,λ x H' y=>?_⟩
   obtain⟨e,y⟩:=y;subst e;exact f i x n _ (y xs q) p
 have e:i=xs.length:=by lia
 subst e;exact .inl ⟨⟨xs,q,zA3 _⟩,j n H p⟩
section
variable{X:Cx}
theorem sset(i:Nat)(a:X.N.Nodup)(b:PE X e te)(hi:X.N[i]? = some x:=by rfl)(c:Loc X.env.scope x:=by first | exact Ol rfl | exact Oj rfl)(d:swapsWith e (some (.Name x pos')) pos.line X.env=pure false:=by rfl)(f:X.fn x=true∨X.env.scope.names.lookup x=some .local:=by first | exact .inl rfl | exact .inr rfl | assumption):PS X (.Assign [.Name x pos'] e pos) (Hj te (Ew i)):=qaI9 a hi c b d f
theorem gnm(i:Nat)(a:X.N.Nodup)(hi:X.N[i]? = some x:=by rfl)(b:Loc X.env.scope x:=by first | exact Ol rfl | exact Oj rfl)(c:X.fn x=true∨X.env.scope.names.lookup x=some .local:=by first | exact .inl rfl | exact .inr rfl | assumption):PG X (.Name x pos) (Ew i):=qat4 a hi b c
def CDivB(_ j:Int):Prop:=0 < j/\j < 2 ^ 200
theorem qP8:OpR X (J' .FloorDiv) (rI CDivB λ i j=>.int (i / j)):=opI λ i j _ _ _ _ _ a q=>by
 have c:(0:Int) < j:=a.1;have d:j < 2 ^ 200:=a.2;refine floordiv_int (by lia) (by rw[Int.fdiv_eq_ediv_of_nonneg i (by lia)];exact q) (.inl (PyProof.noPylong_of_log2 ?_));have b:j.natAbs < 2 ^ 200:=by lia
 have e:j.natAbs.log2 < 200:=(Nat.log2_lt (by lia)).mpr b;lia
theorem qaK0(k:Int)(c:i ^ j.toNat=k:=by decide)(d:0<=j:=by decide)(h1:j<=1000000:=by decide)(h2:i.natAbs < 2 ^ 64:=by decide):PE X (.BinOp (.Constant (.int i) a p) .Pow (.Constant (.int j) b q) pos) (tC (.int k)):=by
 intro D8 s m H Q I h;refine(pe_op qaU5 qP7 qP7) D8 s m H Q I ⟨_,_,rfl,rfl,⟨d,h1,h2⟩,?_⟩;show Q (.int (i ^ j.toNat)) H;rw[c];exact h
theorem qaU8:OpR X (Jo .Is) (λ x y H Q=>∃ b c,x=.bl b/\y=.bl c/\Q (.bl (b == c)) H):=by
 intro D8 s m H x y v u Q I a d h;obtain⟨b,c,rfl,rfl,q⟩:=h;cases a;cases d;exact is_bool ⟨.bl _,H,I,rfl,q⟩
def Dg(H:Hp):V->Option String
 | .non=>some "NoneType" | .bl _=>some "bool" | .int _=>some "int" | .str _=>some "str"
 | .ref a=>match H a with
   | some (.l _)=>some "list" | some (.q _)=>some "tuple" | some (.dK _)=>some "dict" | some (.frz _ (.l _))=>some "list"
   | _=>none
 | _=>none
noncomputable def Fa(t n:String):Bool:=t == n||(t == "bool" && n == "int")
theorem qaN4(K:Nl){t:String}(a:t∈["NoneType", "bool", "int", "str", "list", "tuple", "dict"])(b:n∈["bool", "int", "str", "list", "tuple", "dict"]):Nm K (.type t) (.type n)=some (Fa t n):=by
 simp only[zAi,zBd,zD2] at a b;rcases a with rfl | rfl | rfl | rfl | rfl | rfl | rfl<;>rcases b with rfl | rfl | rfl | rfl | rfl | rfl<;>rfl
theorem qag8{K:Nl}{x:V}{t:String}(h:Dg H x=some t):Ee K H x (.type t)/\t∈["NoneType", "bool", "int", "str", "list", "tuple", "dict"]:=by
 cases x with
 | non=>cases h;exact⟨.non,by decide⟩
 | bl b=>cases h;exact⟨.bl b,by decide⟩
 | int b=>cases h;exact⟨.int b,by decide⟩
 | str b=>cases h;exact⟨.str b,by decide⟩
 | byt b=>cases h
 | flt b=>cases h
 | ty b=>cases h
 | ref a =>
   unfold Dg at h;dsimp only at h;split at h
   . cases h;exact⟨.l (by assumption),by decide⟩
   . cases h;exact⟨.q (by assumption),by decide⟩
   . cases h;exact⟨.dK (by assumption),by decide⟩
   . cases h;exact⟨.frz (by assumption),by decide⟩
   cases h
def rIsi:List V->Hp->VK->Prop:=λ xs H Q=>∃ x n t,xs=[x,.ty n]/\Dg H x=some t/\n∈["bool", "int", "str", "list", "tuple", "dict"]/\Q (.bl (Fa t n)) H
theorem qg7:CallR X (.builtin "isinstance") rIsi:=by
 intro D8 s m H g i Q I r h;obtain⟨x,n,t,rfl,b,c,q⟩:=h;obtain⟨u,j,rfl,d,a⟩:=G1 r;cases a;obtain⟨ty,e⟩:=qag8 (K:=X.K) b;exact qF9 I d ty (qaN4 X.K e c) λ f=>⟨.bl _,H,I.tok f,rfl,q⟩
theorem qaT8(n:String)(hm:X.mg x=none)(a:Gl X x:=by rfl)(b:Jr x=some (.type n):=by rfl)(c:x ≠ "__name__" := by decide)(d:N' x:=by decide):PE X (.Name x pos) (tC (.ty n)):=qaK5 a hm b rfl c d
theorem qaK2{t:Tok}(hm:X.mg x=some (.int n t))(a:Gl X x:=by rfl)(b:N' x:=by decide):PE X (.Name x pos) (tC (.int n)):=qat6 a hm ⟨t,rfl⟩ b
theorem cbi{id:String}(c:CallR X (.builtin id) r)(hm:X.mg x=none)(d:PA X (e::es) t)(f:Gl X x:=by rfl)(g:Jr x=some (.builtin id):=by rfl)(h:x ≠ "__name__" := by decide)(a:N' x:=by decide)(i:Jm (e::es) X.env=(false,eval e X.env)::Jm es X.env:=by rfl)(b:(backTo pos (Jm es X.env)).any (·.1)=false:=by rfl):PE X (.Call (.Name x p) (e::es) [] pos) (tCB r t):=qaz7 c f hm g d h a i b
theorem cty{id:String}(c:CallR X (.type id) r)(hm:X.mg x=none)(d:PA X (e::es) t)(f:Gl X x:=by rfl)(g:Jr x=some (.type id):=by rfl)(h:x ≠ "__name__" := by decide)(a:N' x:=by decide)(i:Jm (e::es) X.env=(false,eval e X.env)::Jm es X.env:=by rfl)(b:(backTo pos (Jm es X.env)).any (·.1)=false:=by rfl):PE X (.Call (.Name x p) (e::es) [] pos) (tCB r t):=qam8 c f hm g d h a i b
end
def rGetL:V->V->Hp->VK->Prop:=λ o i H Q=>∃ p xs k v,o=.ref p/\i=.int k/\H p=some (.l xs)/\0<=k/\xs[k.toNat]? = some v/\Q v H
theorem qaD1:PGet X rGetL:=by
 intro D8 s C H o i w y Q I c d h;obtain⟨p,z,k,v,rfl,rfl,e,f,b,q⟩:=h;cases c;obtain⟨t,rfl⟩:=d;obtain⟨a,n,r,g,A⟩:=I.l e;obtain⟨u,j,l⟩:=r.get b;have m:=(zA4.mp b).1;have B:=qQ8;refine wpAny_getItem_list (items:=a.toArray) (x:=u) ⟨_,g,rfl,n,rfl⟩ f (by lia) (by simpa using j) ⟨v,H,I,l,q⟩
theorem qaZ4{xs:List α}(b:0<=i)(h1:i < xs.length):∃ v,xs[i.toNat]? = some v/\atI xs i=some v:=by
 have a:i.toNat < xs.length:=by lia
 have e:(i.toNat:Int)=i:=by lia
 refine⟨xs[i.toNat],by simp[a],?_⟩
 have:=qA2 (xs:=xs) (j:=i.toNat) (v:=xs[i.toNat]) (by simp[a])
 rw[e] at this;exact this
theorem qL6{xs:List α}(a:0<=i)(h1:i < xs.length):∃ v,v∈xs/\atI xs i=some v:=by
 obtain⟨v,h,e⟩:=qaZ4 a h1;exact⟨v,zB1 h,e⟩
theorem qag6(h:H a=some (.l xs)):Dg H (.ref a)=some "list" := by
 unfold Dg;dsimp only;rw[h]
theorem qaC0(h:H a=some (.q xs)):Dg H (.ref a)=some "tuple" := by
 unfold Dg;dsimp only;rw[h]
theorem qau4{xs:List (Key×V)}(h:H a=some (.dK xs)):Dg H (.ref a)=some "dict" := by
 unfold Dg;dsimp only;rw[h]
theorem Same.new(h:H q=none):Same H (upd H q u):=λ b o e=>by rw[qc9 (qf1 e h)];exact e
structure Df(K:Nl)(mg:Str->Option V')(x qual:Str)(st:Kh)(f:γ)(fd:δ)(ps:List Str):Prop where
 F:Fun K x qual st f fd
 b:Binds K fd ps []
 m:mg x=some (.ref f)
theorem dfmk{K:Nl}{st:Kh}{i:Array (Option V')}{kV e a:V'}(l:K.lookup f=some ⟨oc,j,.func (W.fnOf x qual (qf5 st) (qd3 st) (qa3 st) .none kV b e d a g),i⟩)(c:W.codeIn K a qual=true)(k:W.keepIn K (.ref f)=true)(m:mg x=some (.ref f))(h:∀(kV b e:V')(d:Option γ)(a g:V')(us:List V'),us.length=ps.length->bindArgs (W.fnOf x qual (qf5 st) (qd3 st) (qa3 st) .none kV b e d a g) ⟨us,[]⟩=pure (ps.zip us)) :
   Df K mg x qual st f (W.fnOf x qual (qf5 st) (qd3 st) (qa3 st) .none kV b e d a g) ps:=⟨qao9 l c k,(qao9 l c k).binds h,m⟩
theorem callD{st:Kh}(D:Df X.K X.mg x qual st f fd ps)(G:Fo X.prog X.w X.K X.mg X.base CX0 k f fd ps sp)(d:Room k X.A)(g:PA X (e::es) t)(h:Gl X x:=by rfl)(a:N' x:=by decide)(i:Jm (e::es) X.env=(false,eval e X.env)::Jm es X.env:=by rfl)(c:(backTo pos (Jm es X.env)).any (·.1)=false:=by rfl):PE X (.Call (.Name x p) (e::es) [] pos) (Ic sp [] (λ _=>E0) t) :=
 qat7 G d h D.m D.F.kp D.b .nil pass0 g a i c
end L2
namespace LB
open PySem PySem.Spec PyProof.Rows
theorem qQ7:typeLookup (.type "list") "keys" = pure none:=by rw[typeLookup_type,builtinLookup_eq_fast];kernel_rfl
theorem qC2:typeLookup (.type "list") "__getattr__" = pure none:=by rw[typeLookup_type,builtinLookup_eq_fast];kernel_rfl
section
variable{prog:Kc}{w:Ke}{A:Kd}{E:V'->Sh->Prop}{h:Heap}{g:Array GenState}{d:Drawn}{t:Nat}{u:OsState}{a:γ}{its:Array V'}{n:Nat}
theorem qC3(c:h.get? a=some { cls:=.type "list",data:=.seq its n })(f:A.handled=none)(i:∀ h' b e,Heap.NewAttrErr h h' e (.ref a) "keys" -> E (.ref e) ⟨h',g,d,b,u⟩) :
   Ka (Kb prog w) A (Builtin.«object.__getattribute__» ⟨[.ref a,.str "keys" b],[]⟩) Q E ⟨h,g,d,t,u⟩:=by
 have j:(⟨h,g,d,t,u⟩:Sh).TypeIs (.ref a) "list" := ⟨_,c,rfl⟩
 have k:=qQ7
 repeat (any_goals (first | assumption | wp_step))
 refine wpAny_raiseAttrError f ?_ (attrMsg_fits (by decide +kernel) (by decide +kernel));exact i
theorem qF7(i:h.get? a=some { cls:=.type "list",data:=.seq its n })(k:A.handled=none)(l:∀ h' f,(∀ b o,h.get? b=some o->h'.get? b=some o)->Q none ⟨h',g,d,f,u⟩) :
   Ka (Kb prog w) A (getAttr? (.ref a) "keys") Q E ⟨h,g,d,t,u⟩:=by
 have j:∀ f,(⟨h,g,d,f,u⟩:Sh).TypeIs (.ref a) "list" := λ _=>⟨_,i,rfl⟩
 have m:=j t;have f1:=sub_AttributeError;have f2:=F.slot_list_getattribute.lookup;have f3:=F.slot_list_getattribute.bind (.ref a);have p:=qC2;unfold getAttr? getAttrBy? getAttrBy
 repeat (any_goals (first | assumption | wp_step))
 refine codeAny_call_builtin F.slot_list_getattribute.plain F.entry_list_ga (F.slot_list_getattribute.check _ _ _ _ _ _ _ _ (j _) (F.args_list_getattribute_2 _ _) (qC3 i k λ h' f e c=>?_));obtain⟨q,r,s⟩:=c.there;show Ka _ _ (getattributeRaised _ _ _ _ _ _ _) _ _ _;unfold getattributeRaised
 repeat (any_goals (first | assumption | wp_step))
 exact l _ _ c.keeps
end
theorem qn9:entryFor table "dict.update.loop" = some Builtin.«dict.update.loop»:=entryFor_of_tree (by kernel_rfl)
theorem qg3:plainId "dict.update.loop" = true:=by decide +kernel
section
variable{prog:Kc}{w:Ke}{K:Type}[DecidableEq K]{knd:KeyKind prog w K}{A:Kd}{R:Result->Sh->Prop}
theorem qaq1(V:A.handled=none)(z:ax≠I)(g:d≠I)(B:ax≠d):∀(rest:List (K×V'))(i:Nat)(v:Int)(kvs:List (K×V'))(s:Sh),
   (∀(j:Nat) a,rest[j]? = some a->∃ t key,items[i+j]? = some (.ref t)/\IsTup s.heap t #[key,a.2]/\knd.is a.1 key=true/\t≠I/\t≠d)->items.size=i+rest.length ->
   s.heap.IsListIter I ax i->s.heap.IsList ax items->s.heap.DictOf knd d kvs->kvs.length+rest.length<=Jn ->
   (∀ h' C,h'.DictOf knd d (rest.foldl (λ acc a=>stored acc a.1 a.2) kvs)->(∀ b o,b≠I->b≠d->s.heap.get? b=some o->h'.get? b=some o)->R (.ok (.ret .none)) { s with heap:=h',toks:=C }) ->
   codeAny (Kb prog w) A (.builtin "dict.update.loop" ⟨[.ref d,.ref I,rawInt v,.none],[]⟩) R s:=by
 intro rest
 induction rest with
 | nil =>
   intro i v kvs s D f h x E Q F;refine codeAny_builtin qn9 ?_;rw[Around.under_plainId qg3 _];show Ka _ A.in1 (pyNext (.ref I) >>= _) _ _ s;refine E' (wpAny_pyNext_list_end V h x (by simp at f;simp[f]) λ h' S=>?_);show Ka _ _ (Builtin.Dict.addKeywords d [] >>= _) _ _ _;refine E' (G' (G' ?_));have k:h'.DictOf knd d kvs:=by
     obtain⟨o,G,H,l,r⟩:=E;exact⟨o,G,H,S d o g l,r⟩
   exact F h' s.toks k λ b o y _ e=>S b o y e
 | cons a rest W =>
   intro i v kvs s D f h x E Q F;obtain⟨t,key,X,Y,Z,h4,h5⟩:=D 0 a rfl;refine codeAny_builtin qn9 ?_;rw[Around.under_plainId qg3 _];show Ka _ A.in1 (pyNext (.ref I) >>= _) _ _ s;refine E' (wpAny_pyNext_list_item h x X λ h' m p=>?_);have J:IsTup h' t #[key,a.2]:=Y.extBut p.extBut h4;obtain⟨o,l,L,n,M⟩:=J;refine E' (Jq ?_);refine E' (wpAny_tryCatch ?_);unfold Builtin.Dict.pairItems;refine E' (wpAny_typeOf (T := "tuple") ⟨o,l,L⟩ ?_);rw[if_pos (by decide)];refine E' (wpAny_seqItems l M (G' ?_));dsimp only[Option.getD];have k:h'.DictOf knd d kvs:=by
     obtain⟨o,G,H,l,r⟩:=E;exact⟨o,G,H,p.extBut d o g l,r⟩
   simp only[zAm] at Q f;show Ka _ _ (holding [key,a.2] (dictSet d key a.2)) _ _ _;refine Jq (wpAny_dictSet_pairs (hsz:=by lia) Z k λ a0 q c=>?_);refine G' ⟨plainId_quiet qg3 _,?_⟩;have U:(stored kvs a.1 a.2).length<=kvs.length+1:=by
     unfold stored;split
     . rw[zA8];lia
     rw[zAe];simp
   refine W (i+1) (v+1) (stored kvs a.1 a.2) _ (λ j N hj=>?_) (by lia) ?_ ?_ q (by lia) λ O C P k3=>?_
   . obtain⟨t',key',g1,g2,g3,g4,g5⟩:=D (j+1) N hj
     exact⟨t',key',by rw[show i+1+j=i+(j+1) by lia];exact g1,(g2.extBut p.extBut g4).extBut c.extBut g5,g3,g4,g5⟩
   . exact m.at λ o e=>c.extBut I o (Ne.symm g) e
   . exact(x.at λ o e=>p.extBut ax o z e).at λ o e=>c.extBut ax o B e
   exact F O C P λ b o y u e=>k3 b o y u (c.extBut b o u (p.extBut b o y e))
end
end LB
namespace L2
open PySem PySem.Spec PyProof.Rows
section
variable{X:Cx}
theorem KV.fold:∀{more:List (Key×V)}{a:List (Key×V')}{kvs:List (Key×V)}{vs:List (Key×V')},KV more a->KV kvs vs->KV (qB9 kvs more) (a.foldl (λ acc b=>stored acc b.1 b.2) vs):=by
 intro more a kvs vs r;unfold KV at r
 induction r generalizing kvs vs with
 | nil=>intro q;exact q
 | @cons p q _ _ h _ ih =>
   intro c;show KV (qB9 (putK kvs p.1 p.2) _) (Lc _ (stored vs q.1 q.2) _);refine ih ?_;rw[<- h.1];exact c.put p.1 h.2
def qaw4(H:Hp)(ys:List V)(kvs:List (Key×V)):Prop:=Paired (λ y (a:Key×V)=>∃ t,y=.ref t/\H t=some (.q [kV a.1,a.2])) ys kvs
def qaI3:List V->Hp->VK->Prop:=λ xs H Q=>∃ a ys kvs,xs=[.ref a]/\H a=some (.l ys)/\qaw4 H ys kvs/\∀ p,H p=none->Q (.ref p) (upd H p (.dK (qB9 [] kvs)))
theorem qL5(hc:X.calm=true):CallR X (.type "dict") qaI3:=by
 intro D8 s σ H xs us Q I r h;obtain⟨a,ys,g,rfl,ha,N,q⟩:=h;obtain⟨u,rfl,ru⟩:=B7 r;cases ru;have hh:=I.ok.hd hc;obtain⟨z,f,n,rv,O,e⟩:=I.lstM ha;obtain⟨x,J,P⟩:∃ x:List (Key×V'),KV g x/\∀(j:Nat) k,x[j]? = some k->∃ t i,f[j]? = some (.ref t)/\IsTup s.heap t #[i,k.2]/\(qh1 X.prog X.w).is k.1 i=true:=by
   clear q e O n ha z
   induction N generalizing f with
   | nil=>exact⟨[],.nil,λ j k C=>by simp at C⟩
   | @cons y k ys g hy _ ih =>
     cases rv with
     | @cons _ u _ us' hu hr =>
       obtain⟨t,rfl,ht⟩:=hy;cases hu;obtain⟨_,its',rt,o,p,R,n,S⟩:=I.hok t _ ht;obtain⟨i,U,rfl,r1,r2⟩:=rt.two;obtain⟨x,J,P⟩:=ih _ hr;refine⟨(k.1,U)::x,.cons ⟨rfl,r2⟩ J,λ j V C=>?_⟩;cases j with
       | zero=>cases C;exact⟨t,i,rfl,⟨o,p,R,n,S⟩,Ih r1⟩
       | succ j=>exact P j V C
 have D:x.length=f.length:=by rw[<- O,<- Paired.length J,<- Paired.length N]
 have big:=I.big;obtain⟨c,gn,dr,W,Y⟩:=s;refine callType_codes (Q₁:=λ E s₁=>E=.ref c.objs.size/\s₁={ heap:=c.push { cls:=.type "dict",data:=.dict #[] },gens:=gn,drawn:=dr,toks:=W,os:=Y }) F.kt_called_dict (F.kt_typeCall_dict_1 _) F.entry_dict_init (kt_code_dict_new _ ⟨rfl,rfl⟩) ?_;rintro E s₁ ⟨rfl,rfl⟩;have l:(c.push { cls:=.type "dict",data:=.dict #[] }).DictOf (qh1 X.prog X.w) c.objs.size []:=Heap.DictOf.new c;have Z:(c.push { cls:=.type "dict",data:=.dict #[] }).get? a=some { cls:=.type "list",data:=.seq f.toArray n }:=zA2 _ e;have G:a < c.objs.size:=zA7 e;refine⟨l.typeIs,F.args_dict_init_2 _ _,?_⟩;unfold Builtin.«dict.__init__»;refine E' ?_;unfold Builtin.Dict.selfAndRest;refine E' (wpAny_notOrdered_dict l.typeIs ?_);show Ka _ _ (pure (c.objs.size,[M7 a])) _ _ _;refine G' ?_;show Ka _ _ (Builtin.Dict.updateFrom "dict.__init__" c.objs.size (.ref a) [] .none) _ _ _;unfold Builtin.Dict.updateFrom;refine E' (wpAny_typeOf (T := "list") ⟨_,Z,rfl⟩ ?_);rw[if_pos (by decide)];refine E' (LB.qF7 Z hh λ B a2 K=>?_);rw[if_pos (by rfl)];have e1:B.get? a=some { cls:=.type "list",data:=.seq f.toArray n }:=K _ _ Z;have d1:B.DictOf (qh1 X.prog X.w) c.objs.size []:=by
   obtain⟨o,L,M,p,r⟩:=l;exact⟨o,L,M,K _ _ p,r⟩
 refine E' (Jz ?_);have hlist:B.IsList a f.toArray:=⟨_,e1,rfl,n,rfl⟩
 refine E' (wpAny_pyIter_list hlist ?_);have v:c.objs.size < B.objs.size:=by
   obtain⟨o,L,M,p,r⟩:=d1;exact zA7 p
 refine G' ⟨plainId_quiet LB.qg3 _,?_⟩;refine LB.qaq1 (knd:=qh1 X.prog X.w) (A:=X.A.in1) hh (I:=B.objs.size) (ax:=a) (d:=c.objs.size) (items:=f.toArray) (zAt (Nat.lt_trans G v)) (zAt v) (zAt G) x 0 0 [] _ (λ j k C=>?_) (by simp[D]) ?_ ?_ ?_ ?_ λ h2 a0 d2 k2=>?_
 . obtain⟨t,i,g1,g2,g3⟩:=P j k C
   obtain⟨o,p,r⟩:=g2;have m:=zA7 p;exact⟨t,i,by simpa using g1,⟨o,zA2 _ (K _ _ (zA2 _ p)),r⟩,g3,zAt (Nat.lt_trans m v),zAt m⟩
 . exact⟨_,zAo _ rfl,rfl,rfl⟩
 . exact⟨_,zA2 _ e1,rfl,n,rfl⟩
 . obtain⟨o,L,M,p,r⟩:=d1
   exact⟨o,L,M,zA2 _ p,r⟩
 . simp only[zC4,zA9];rw[D,<- O];exact z
 refine⟨rfl,?_⟩;have hf:H c.objs.size=none:=I.hok.fresh (zA3 _);have keep:∀ b o,c.get? b=some o->h2.get? b=some o:=λ b o eb=>by
   have m:=zA7 eb;exact k2 b o (zAt (Nat.lt_trans m v)) (zAt m) (zA2 _ (K _ _ (zA2 _ eb)))
 have rm:KV (qB9 [] g) (x.foldl (λ a1 k=>stored a1 k.1 k.2) []):=KV.fold J .nil;have hz:(qB9 [] g).length<=Jn:=by
   have B:=qu8 g [];have h2:=Paired.length N;simp only[zC4] at B;lia
 refine⟨.ref c.objs.size,_,I.laid (t':=a0) (o:=.dK (qB9 [] g)) keep (zA3 _) ?_,rfl,q _ hf⟩;exact⟨hz,zCt.mpr (Ne.symm (zAt big)),_,rm,d2⟩
end
section
variable{X:Cx}
theorem qH1(t:X.calm=true):CallR X (.builtin "all") (λ xs H Q=>∃(a:γ)(bs:List Bool),xs=[.ref a]/\SqL X.K H a (bs.map V.bl)/\Q (.bl (bs.all id)) H):=by
 intro D8 s L H xs E Q I r h;obtain⟨a,bs,rfl,w,q⟩:=h;obtain⟨u,rfl,k⟩:=B7 r;cases k;have y:=I.ok.hd t;obtain⟨d,l,m,F⟩:=I.list w;refine call_all_walk (wpAny_pyIter_list m.isList ?_);have n:a < s.heap.objs.size:=let ⟨o,ho,_⟩:=m.isList;zA7 ho
 refine⟨s.heap.objs.size,_,_,_,_,_,λ i=>bs.getD i false,rfl,Walks.list (A:=X.A.in1) y _ a (zAt n) d.toArray,⟨⟨_,zAo _ rfl,rfl,rfl⟩,?_⟩,?_,?_⟩
 . exact m.isList.at λ o e=>zA2 _ e
 . intro i v z Q1 E1 f g
   have f:d[i]? = some v:=by simpa using f
   have c:i < bs.length:=by
     have G:=(zA4.mp f).1;have j:=l.length;rw[zA8] at j;lia
   obtain⟨u,p,k⟩:=l.get (i:=i) (x:=.bl bs[i]) (by simp[c]);rw[f] at p;cases p;cases k;refine Js ?_;have e:bs.getD i false=bs[i]:=by simp[Mb,c]
   have g:Q1 (bs.getD i false) z:=g;rw[e] at g;exact g
 intro J B C;have e:(Ku d.toArray.size).all (λ i=>bs.getD i false)=bs.all id:=by
   have j:=l.length;rw[zA8] at j;rw[zA5,<- j];rw[Bool.eq_iff_iff];simp only[zBi,zAn,id_eq];constructor
   . intro h b D
     obtain⟨i,c,rfl⟩:=List.mem_iff_getElem.mp D
     have:=h i c
     simpa[Mb,c] using this
   intro h i c
   have:=h bs[i] (List.getElem_mem c)
   simpa[Mb,c] using this
 rw[e];refine⟨.bl _,H,?_,rfl,q⟩;exact I.kept (t':=B) λ b o e=>C b o (by simp;exact zAt (zA7 e)) (zA2 _ e)
noncomputable def qm2(ns:List Int):Nat:=(firstMet (λ i=>ns.getD i 0) ns.length).length
def rSetI(K:Nl):List V->Hp->VK->Prop:=λ xs H Q=>∃(a:γ)(ns:List Int),xs=[.ref a]/\SqL K H a (ns.map V.int)/\ns.length<=1000/\∀ p S,H p=none->Q (.ref p) (upd H p (.set S (qm2 ns)))
theorem qaq7(k:X.calm=true):CallR X (.type "set") (rSetI X.K):=by
 intro D8 s L H x y Q I r h;obtain⟨a,f,rfl,l,z,q⟩:=h;obtain⟨u,rfl,m⟩:=B7 r;cases m;have n:=I.ok.hd k;obtain⟨c,i,p,A⟩:=I.list l;have d:c.length=f.length:=by
   have:=i.length
   rw[zA8] at this;exact this.symm
 have t:IntsAre c f:=qz1 i;refine call_set_list (items:=c.toArray) n p.isList (by simpa using t) (by rw[zA5,d];show f.length+1 < 4096;lia) λ B v j w=>?_
 have g:c.toArray.size=f.length:=by rw[zA5,d]
 rw[g] at j;refine⟨.ref s.heap.objs.size,_,I.laid (t':=v) (o:=.set _ (qm2 f)) (λ b o e=>w b o (zA7 e) e) (zA3 _) j,rfl,q _ _ (I.hok.fresh (zA3 _))⟩
theorem qaq9:CallR X (.builtin "len") (λ xs H Q=>∃(a:γ)(S:Int->Bool)(n:Nat),xs=[.ref a]/\H a=some (.set S n)/\Q (.int n) H):=by
 intro D8 s L H xs l Q I r h;obtain⟨a,S,n,rfl,d,q⟩:=h;obtain⟨u,rfl,e⟩:=B7 r;cases e;obtain⟨o,f,m,t,g,b,i,_,_,c,j,k⟩:=I.hok a _ d;subst k;have c:f.size < 4096:=c;exact call_len_set g b i j (by lia) ⟨.int _,H,I.tok _,⟨_,rfl⟩,q⟩
end
theorem qR8(ns:List Int):qm2 ns=ns.length↔ns.Nodup:=by
 have f:∀ i,i<=ns.length->(∀ k,k∈firstMet (λ i=>ns.getD i 0) i↔k∈ns.take i)/\((firstMet (λ i=>ns.getD i 0) i).length=i↔(ns.take i).Nodup):=by
   intro i
   induction i with
   | zero=>intro _;rw[firstMet_zero];simp
   | succ i m =>
     intro r;obtain⟨c,l⟩:=m (by lia);have n:=firstMet_length_le (λ i=>ns.getD i 0) i;have b:i < ns.length:=by lia
     have o:ns.take (i+1)=ns.take i++[ns[i]]:=by rw[zBj];simp[b]
     have p:ns.getD i 0=ns[i]:=by simp[Mb,b]
     rw[firstMet_succ,o,p];unfold step_dedup;by_cases d:ns[i]∈firstMet (λ i=>ns.getD i 0) i
     . have a:ns[i]∈ns.take i:=(c _).mp d
       have g:(firstMet (λ i=>ns.getD i 0) i).any (· == ns[i])=true:=List.any_eq_true.mpr ⟨_,d,by simp⟩;rw[if_pos g];refine⟨λ k=>?_,?_⟩
       . rw[c];simp only[zAa,zAl]
         exact⟨.inl,λ h=>h.elim id λ e=>by rw[e];exact a⟩
       constructor
       . intro h;lia
       intro h;rw[zBv] at h;exact absurd rfl (h.2.2 _ a _ (zAl.mpr rfl))
     have a:¬ ns[i]∈ns.take i:=λ h=>d ((c _).mpr h)
     have g:¬ (firstMet (λ i=>ns.getD i 0) i).any (· == ns[i])=true:=λ h=>by
       obtain⟨x,j,e⟩:=List.any_eq_true.mp h;exact d (by rw[<- (zBz.mp e)];exact j)
     rw[if_neg g];refine⟨λ k=>?_,?_⟩
     . simp only[zAa,zAl]
       rw[c]
     rw[zAe,zBv];simp only[Lz];constructor
     . intro h
       refine⟨l.mp (by lia),by simp,λ x j y q=>?_⟩;rw[zAl.mp q];exact λ e=>a (e ▸ j)
     intro h
     have:=l.mpr h.1
     lia
 have:=(f ns.length (zA3 _)).2
 rw[zAu (zA3 _)] at this;exact this
end L2
namespace LD
open PySem PySem.SeqAt MeetsSeq
open AutoSeq1 (wpAny_loadPart')
variable{b l:γ}{dd:Option γ}{n:Nat}{sl:Array (Option V')}
theorem qaD6(l b:γ)(es:Array DictEntry)(items2:Array V')(n e:Nat)(dd a:Option γ)(sl c:Array (Option V')) :
   Meets (Builtin.«dict.__eq__» ⟨[.ref l,.ref b],[]⟩) (λ _ R s=>s.heap.get? l=some { cls:=.type "dict",dict:=dd,data:=.dict es n,slots:=sl }/\s.heap.get? b=some { cls:=.type "tuple",dict:=a,data:=.seq items2 e,slots:=c }/\R (.ok (.ret .notImplemented)) s) :=
 .of_wp λ prog w A R s h=>by obtain⟨j,g,d,k,m⟩:=s;obtain⟨f,i,h⟩:=h;have f1:=Nt;wp_walk using wpAny_loadPart' f,wpAny_loadPart' i;exact⟨_,rfl,h⟩
theorem qaw9(l b:γ)(es:Array DictEntry)(items2:Array V')(n e:Nat)(dd a:Option γ)(sl c:Array (Option V')) :
   Meets (Builtin.«tuple.__eq__» ⟨[.ref b,.ref l],[]⟩) (λ _ R s=>s.heap.get? l=some { cls:=.type "dict",dict:=dd,data:=.dict es n,slots:=sl }/\s.heap.get? b=some { cls:=.type "tuple",dict:=a,data:=.seq items2 e,slots:=c }/\R (.ok (.ret .notImplemented)) s) :=
 .of_wp λ prog w A R s h=>by obtain⟨j,g,d,k,m⟩:=s;obtain⟨f,i,h⟩:=h;have f1:=N8;wp_walk using wpAny_loadPart' f,wpAny_loadPart' i;exact⟨_,rfl,h⟩
theorem qaA9(l b:γ)(es:Array DictEntry)(items2:Array V')(n e:Nat)(dd a:Option γ)(sl c:Array (Option V')) :
   Meets (Builtin.«dict.__ne__» ⟨[.ref l,.ref b],[]⟩) (λ _ R s=>s.heap.get? l=some { cls:=.type "dict",dict:=dd,data:=.dict es n,slots:=sl }/\s.heap.get? b=some { cls:=.type "tuple",dict:=a,data:=.seq items2 e,slots:=c }/\R (.ok (.ret .notImplemented)) s) :=
 .of_wp λ prog w A R s h=>by obtain⟨j,g,d,k,m⟩:=s;obtain⟨f,i,h⟩:=h;have f1:=Nt;wp_walk using wpAny_loadPart' f,wpAny_loadPart' i;exact⟨_,rfl,h⟩
theorem qaw8(l b:γ)(es:Array DictEntry)(items2:Array V')(n e:Nat)(dd a:Option γ)(sl c:Array (Option V')) :
   Meets (Builtin.«tuple.__ne__» ⟨[.ref b,.ref l],[]⟩) (λ _ R s=>s.heap.get? l=some { cls:=.type "dict",dict:=dd,data:=.dict es n,slots:=sl }/\s.heap.get? b=some { cls:=.type "tuple",dict:=a,data:=.seq items2 e,slots:=c }/\R (.ok (.ret .notImplemented)) s) :=
 .of_wp λ prog w A R s h=>by obtain⟨j,g,d,k,m⟩:=s;obtain⟨f,i,h⟩:=h;have f1:=N8;wp_walk using wpAny_loadPart' f,wpAny_loadPart' i;exact⟨_,rfl,h⟩
theorem for0{β:Type}{m:Type->Type}[Monad m](b:β)(f:Nat->β->m (ForInStep β)):forIn [:0] b f=(pure b:m β):=by
 simp
theorem same0{id:String}(h1:(l == Jw)=false)(h2:(b == Jw)=false)(d:s.heap.get? l=some { cls:=.type "dict",dict:=dd,data:=.dict #[] n,slots:=sl })(f:s.heap.get? b=some { cls:=.type "dict",dict:=a,data:=.dict #[] e,slots:=c })(h:Q true s):Ka M A (Builtin.Dict.samePairs id l b) Q E s:=by
 unfold Builtin.Dict.samePairs Builtin.Dict.showsAll;rw[if_neg (by rw[h1];decide),if_neg (by rw[h2];decide)];refine E' (G' (E' (G' ?_)));refine E' (wpAny_dictEntries d rfl ?_);refine E' (wpAny_dictEntries f rfl ?_);rw[if_neg (by decide)];refine E' (wpAny_dictEpoch d rfl ?_);have g:(#[]:Array DictEntry).size=0:=rfl;simp only[g];rw[for0];exact E' (G' (G' h))
theorem qaP2(l b:γ)(n i:Nat)(dd a:Option γ)(sl c:Array (Option V'))(h1:(l == Jw)=false)(h2:(b == Jw)=false) :
   Meets (Builtin.«dict.__eq__» ⟨[.ref l,.ref b],[]⟩) (λ _ R s=>s.heap.get? l=some { cls:=.type "dict",dict:=dd,data:=.dict #[] n,slots:=sl }/\s.heap.get? b=some { cls:=.type "dict",dict:=a,data:=.dict #[] i,slots:=c }/\R (.ok (.ret (.bool true))) s) :=
 .of_wp λ prog w A R s h=>by
   obtain⟨j,g,d,k,m⟩:=s;obtain⟨e,f,h⟩:=h;have f1:isSubtype (.type "dict") (.type "dict")=pure true:=Oc
   wp_walk using wpAny_loadPart' e,wpAny_loadPart' f,same0 h1 h2 e f
   exact⟨_,rfl,h⟩
theorem qaM2(l b:γ)(n i:Nat)(dd a:Option γ)(sl c:Array (Option V'))(h1:(l == Jw)=false)(h2:(b == Jw)=false) :
   Meets (Builtin.«dict.__ne__» ⟨[.ref l,.ref b],[]⟩) (λ _ R s=>s.heap.get? l=some { cls:=.type "dict",dict:=dd,data:=.dict #[] n,slots:=sl }/\s.heap.get? b=some { cls:=.type "dict",dict:=a,data:=.dict #[] i,slots:=c }/\R (.ok (.ret (.bool false))) s) :=
 .of_wp λ prog w A R s h=>by
   obtain⟨j,g,d,k,m⟩:=s;obtain⟨e,f,h⟩:=h;have f1:isSubtype (.type "dict") (.type "dict")=pure true:=Oc
   wp_walk using wpAny_loadPart' e,wpAny_loadPart' f,same0 h1 h2 e f
   exact⟨_,rfl,h⟩
section
variable{A:Kd}{s:Sh}
theorem qas9(h1:(l == Jw)=false)(h2:(b == Jw)=false)(e:s.heap.get? l=some { cls:=.type "dict",dict:=dd,data:=.dict #[] n,slots:=sl })(a:s.heap.get? b=some { cls:=.type "dict",dict:=c,data:=.dict #[] f,slots:=d })(g:A.units < cLine):RcAt A s (.ref l) (.ref b) true/\RcNeAt A s (.ref l) (.ref b) false :=
 ⟨λ prog w E Q h=>richCompare_meets_room (op:=.Eq) ⟨_,e,rfl⟩ ⟨_,a,rfl⟩ Ny Oe (N9 _ _) (qaP2 l b n f dd c sl d h1 h2) ⟨e,a,show M9 true≠Na/\Q (.bool true) s from⟨(λ x=>nomatch x),h⟩⟩ g,
  λ prog w E Q h=>richCompare_meets_room (op:=.NotEq) ⟨_,e,rfl⟩ ⟨_,a,rfl⟩ Nz Of (Oa _ _) (qaM2 l b n f dd c sl d h1 h2) ⟨e,a,show M9 false≠Na/\Q (.bool false) s from⟨(λ x=>nomatch x),h⟩⟩ g⟩
theorem rc_dt(c:s.heap.get? l=some { cls:=.type "dict",dict:=dd,data:=.dict es n,slots:=sl })(r:s.heap.IsTuple b items2)(q:A.units < cLine):RcAt A s (.ref l) (.ref b) false/\RcNeAt A s (.ref l) (.ref b) true:=by
 obtain⟨⟨cls2,f,data2,g⟩,a,i,p,j⟩:=id r;simp only at i j;subst i j;have m:l≠b:=λ e=>by
   subst e;rw[c] at a
   have:=congrArg (λ o:Option Obj=>o.map (·.cls)) a
   simp at this
 exact⟨λ prog w E Q h=>rc_eq_decline_or (k:=false) ⟨_,c,rfl⟩ ⟨_,a,rfl⟩ (by decide) Nt Ny N0
     (λ _ d=>J1 Ny ⟨_,c,rfl⟩ Oe (N9 _ _) (qaD6 l b es items2 n p dd f sl g) ⟨c,a,d⟩)
     (λ _ d=>J1 N0 ⟨_,a,rfl⟩ F.entry_tuple_eq (F.args_tuple_eq_2 _ _) (qaw9 l b es items2 n p dd f sl g) ⟨c,a,d⟩)
     (λ _ d=>wpAny_isSame_ref_other m c a (by simp) d) (.inr q) h,
   λ prog w E Q h=>rc_ne_decline_or (k:=false) ⟨_,c,rfl⟩ ⟨_,a,rfl⟩ (by decide) Nt Nz N1
     (λ _ d=>J1 Nz ⟨_,c,rfl⟩ Of (Oa _ _) (qaA9 l b es items2 n p dd f sl g) ⟨c,a,d⟩)
     (λ _ d=>J1 N1 ⟨_,a,rfl⟩ F.entry_tuple_ne (F.args_tuple_ne_2 _ _) (qaw8 l b es items2 n p dd f sl g) ⟨c,a,d⟩)
     (λ _ d=>wpAny_isSame_ref_other m c a (by simp) d) (.inr q) h⟩
end
end LD
namespace L2
open PySem PySem.Spec PyProof.Rows PySem.SeqAt
variable{A:Kd}{a:γ}{xs:List V}
inductive EqD(H:Hp):Nat->V->V->Bool->Prop
 | flat {n:Nat} {x y:V} (hx:flatV x=true) (hy:flatV y=true):EqD H n x y (eqV x y)
 | same {n:Nat} (a:γ):EqD H n (.ref a) (.ref a) true
 | lsts {n:Nat} {a b:γ} {xs ys:List V} {e:Nat->Bool} (ne:a≠b) (ha:H a=some (.l xs)) (hb:H b=some (.l ys)) (hl:xs.length=ys.length) (he:∀ i x y,xs[i]? = some x->ys[i]? = some y->EqD H n x y (e i)):EqD H (n+1) (.ref a) (.ref b) ((Ku xs.length).all e)
 | lens {n:Nat} {a b:γ} {xs ys:List V} (ne:a≠b) (ha:H a=some (.l xs)) (hb:H b=some (.l ys)) (hl:xs.length≠ys.length):EqD H (n+1) (.ref a) (.ref b) false
 | tups {n:Nat} {a b:γ} {xs ys:List V} {e:Nat->Bool} (ne:a≠b) (ha:H a=some (.q xs)) (hb:H b=some (.q ys)) (he:∀ i x y,xs[i]? = some x->ys[i]? = some y->EqD H n x y (e i)):EqD H (n+1) (.ref a) (.ref b) ((Ku (min xs.length ys.length)).all e&&xs.length == ys.length)
 | dcts {n:Nat} {a b:γ} (ne:a≠b) (ha:H a=some (.dK [])) (hb:H b=some (.dK [])):EqD H n (.ref a) (.ref b) true
inductive RcD(H:Hp):V->V->Bool->Prop
 | flat {x y:V} (hx:flatV x=true) (hy:flatV y=true):RcD H x y (eqV x y)
 | lsts {a b:γ} {xs ys:List V} {e:Nat->Bool} (ha:H a=some (.l xs)) (hb:H b=some (.l ys)) (hl:xs.length=ys.length) (he:∀ i x y,xs[i]? = some x->ys[i]? = some y->EqD H 20 x y (e i)):RcD H (.ref a) (.ref b) ((Ku xs.length).all e)
 | lens {a b:γ} {xs ys:List V} (ha:H a=some (.l xs)) (hb:H b=some (.l ys)) (hl:xs.length≠ys.length):RcD H (.ref a) (.ref b) false
 | tups {a b:γ} {xs ys:List V} {e:Nat->Bool} (ha:H a=some (.q xs)) (hb:H b=some (.q ys)) (he:∀ i x y,xs[i]? = some x->ys[i]? = some y->EqD H 20 x y (e i)):RcD H (.ref a) (.ref b) ((Ku (min xs.length ys.length)).all e&&xs.length == ys.length)
 | lt {a b:γ} {xs ys:List V} (ha:H a=some (.l xs)) (hb:H b=some (.q ys)):RcD H (.ref a) (.ref b) false
 | tl {a b:γ} {xs ys:List V} (ha:H a=some (.q xs)) (hb:H b=some (.l ys)):RcD H (.ref a) (.ref b) false
 | lf {a:γ} {xs:List V} {y:V} (ha:H a=some (.l xs)) (hy:flatV y=true):RcD H (.ref a) y false
 | fl {a:γ} {xs:List V} {y:V} (ha:H a=some (.l xs)) (hy:flatV y=true):RcD H y (.ref a) false
 | tf {a:γ} {xs:List V} {y:V} (ha:H a=some (.q xs)) (hy:flatV y=true):RcD H (.ref a) y false
 | ft {a:γ} {xs:List V} {y:V} (ha:H a=some (.q xs)) (hy:flatV y=true):RcD H y (.ref a) false
 | dcts {a b:γ} (ha:H a=some (.dK [])) (hb:H b=some (.dK [])):RcD H (.ref a) (.ref b) true
 | dt {a b:γ} {kvs:List (Key×V)} {ys:List V} (ha:H a=some (.dK kvs)) (hb:H b=some (.q ys)):RcD H (.ref a) (.ref b) false
section
variable{X:Cx}{T:List (γ×Obj)}{S:St}{H:Hp}{s:Sh}
theorem Ov.lstI(I:Ov X T S H s)(h:H a=some (.l xs)):∃ its:List V',Ot xs its/\s.heap.IsList a its.toArray:=by
 obtain⟨z,its,n,r,_,e⟩:=I.lstM h;exact⟨its,r,_,e,rfl,n,rfl⟩
theorem Ov.tupI(I:Ov X T S H s)(h:H a=some (.q xs)):∃ its:List V',Ot xs its/\s.heap.IsTuple a its.toArray:=by
 obtain⟨z,its,r,o,b,c,n,d⟩:=I.hok a _ h;exact⟨its,r,o,b,c,n,d⟩
theorem Ov.dK0(I:Ov X T S H s)(h:H a=some (.dK kvs)):(a == Jw)=false/\∃ es n,s.heap.get? a=some { cls:=.type "dict",dict:=none,data:=.dict es n,slots:=#[] }/\(kvs=[]->es = #[]):=by
 obtain⟨_,i,p,j,o,es,k,m,⟨b,c,d⟩,f,_,g,_⟩:=I.hok a _ h;obtain⟨q,r,t,u⟩:=o;simp only at b c d f;subst b c d f;refine⟨i,es,k,m,λ e=>?_⟩;subst e;cases j;have e:es.toList=[]:=by
   generalize es.toList=l at g;cases g;rfl
 exact Array.toList_eq_nil_iff.mp e
theorem qv9(A:Kd):A.in1.units<=A.units+1:=zA3 _
theorem qS9{P:V->V->Nat->Prop}{e:Nat->Bool}{ys:List V}{its its2:List V'}(r:Ot xs its)(a:Ot ys its2)(k:∀ i x y u v,xs[i]? = some x->ys[i]? = some y->Os x u->Os y v->EqAt A s u v (e i)) :
   ∀ j (h1:j < its.toArray.size) (h2:j < its2.toArray.size),EqAt A s its.toArray[j] its2.toArray[j] (e j):=by
 intro j h1 h2;rw[zA5] at h1 h2;have h:=r.length;have l:=a.length;obtain⟨u,b,d⟩:=r.get (i:=j) (x:=xs[j]'(by lia)) (by simp);obtain⟨v,c,f⟩:=a.get (i:=j) (x:=ys[j]'(by lia)) (by simp);have g:its.toArray[j]=u:=by
   have:its[j]? = some its[j]:=by simp[h1]
   rw[this] at b;simpa using Nj b
 have e2:its2.toArray[j]=v:=by
   have:its2[j]? = some its2[j]:=by simp[h2]
   rw[this] at c;simpa using Nj c
 rw[g,e2];exact k j _ _ u v (by simp) (by simp) d f
theorem EqD.at(I:Ov X T S H s)(h:EqD H n x y b):∀{A:Kd}{u v:V'},Os x u->Os y v->A.units+n+1 < cLine->EqAt A s u v b:=by
 induction h with
 | flat w z=>intro A u v c d _;exact qaP3 c d w z
 | same a=>intro A u v c d _;cases c;cases d;exact EqAt.same _
 | @lsts n a b xs ys e ne ha hb hl he ih =>
   intro A u v c d k;cases c;cases d;obtain⟨f,r,p⟩:=I.lstI ha;obtain⟨its2,g,j⟩:=I.lstI hb;have B:f.toArray.size=its2.toArray.size:=by rw[zA5,zA5,<- r.length,<- g.length,hl]
   have q:=EqAt.of_refs ne (RcAt.lists (A:=A) p j B (by lia) (e:=e) (qS9 (P:=λ _ _ _=>True) r g λ i x y u v l e2 o t=>ih i x y l e2 o t (by have:=qv9 A;lia)));rw[zA5,<- r.length] at q;exact q
 | @lens n a b xs ys ne ha hb hl =>
   intro A u v c d k;cases c;cases d;obtain⟨f,r,p⟩:=I.lstI ha;obtain⟨its2,g,j⟩:=I.lstI hb;exact EqAt.of_refs ne (RcAt.lists_lengths p j (by rw[zA5,zA5,<- r.length,<- g.length];simpa using hl) (by lia))
 | @tups n a b xs ys e ne ha hb he ih =>
   intro A u v c d k;cases c;cases d;obtain⟨f,r,p⟩:=I.tupI ha;obtain⟨its2,g,j⟩:=I.tupI hb;have q:=EqAt.of_refs ne (RcAt.tuples (A:=A) p j (by lia) (e:=e) (qS9 (P:=λ _ _ _=>True) r g λ i x y u v l e2 o t=>ih i x y l e2 o t (by have:=qv9 A;lia)));rw[zA5,zA5,<- r.length,<- g.length] at q;exact q
 | @dcts n a b ne ha hb =>
   intro A u v c d k;cases c;cases d;obtain⟨C,L,m,D,E⟩:=I.dK0 ha;obtain⟨F,G,M,J,K⟩:=I.dK0 hb;cases E rfl;cases K rfl;exact EqAt.of_refs ne (LD.qas9 C F D J (by lia)).1
theorem RcD.at(I:Ov X T S H s)(h:RcD H x y b)(d:Os x u)(c:Os y v)(Q:A.units+60 < cLine):RcAt A s u v b/\RcNeAt A s u v (!b):=by
 cases h with
 | flat J o =>
   cases x with
   | non =>
     cases d;cases y with
     | non=>cases c;exact⟨RcAt.none_none,RcNeAt.none_none⟩
     | bl b=>cases c;exact⟨RcAt.none_bool b,RcNeAt.none_bool b⟩
     | int b=>obtain⟨t,rfl⟩:=c;exact⟨RcAt.none_int b t,RcNeAt.none_int b t⟩
     | str b=>obtain⟨t,rfl⟩:=c;exact⟨RcAt.none_str b t,RcNeAt.none_str b t⟩
     | _=>exact absurd (show false=true from o) zAq
   | bl a =>
     cases d;cases y with
     | non=>cases c;exact⟨RcAt.bool_none a,RcNeAt.bool_none a⟩
     | bl b=>cases c;exact⟨RcAt.bool_bool a b,RcNeAt.bool_bool a b⟩
     | int b=>obtain⟨t,rfl⟩:=c;exact⟨RcAt.bool_int a b t,RcNeAt.bool_int a b t⟩
     | str b=>obtain⟨t,rfl⟩:=c;exact⟨RcAt.bool_str a b t,RcNeAt.bool_str a b t⟩
     | _=>exact absurd (show false=true from o) zAq
   | int a =>
     obtain⟨j,rfl⟩:=d;cases y with
     | non=>cases c;exact⟨RcAt.int_none a j,RcNeAt.int_none a j⟩
     | bl b=>cases c;exact⟨RcAt.int_bool a j b,RcNeAt.int_bool a j b⟩
     | int b=>obtain⟨t,rfl⟩:=c;exact⟨RcAt.int_int a j b t,RcNeAt.int_int a j b t⟩
     | str b=>obtain⟨t,rfl⟩:=c;exact⟨RcAt.int_str a j b t,RcNeAt.int_str a j b t⟩
     | _=>exact absurd (show false=true from o) zAq
   | str a =>
     obtain⟨j,rfl⟩:=d;cases y with
     | non=>cases c;exact⟨RcAt.str_none a j,RcNeAt.str_none a j⟩
     | bl b=>cases c;exact⟨RcAt.str_bool a j b,RcNeAt.str_bool a j b⟩
     | int b=>obtain⟨t,rfl⟩:=c;exact⟨RcAt.str_int a j b t,RcNeAt.str_int a j b t⟩
     | str b=>obtain⟨t,rfl⟩:=c;exact⟨RcAt.str_str a j b t,RcNeAt.str_str a j b t⟩
     | _=>exact absurd (show false=true from o) zAq
   | _=>exact absurd (show false=true from J) zAq
 | @lsts a b xs ys e f n hl he =>
   cases d;cases c;obtain⟨g,r,p⟩:=I.lstI f;obtain⟨its2,q,l⟩:=I.lstI n;have w:g.toArray.size=its2.toArray.size:=by rw[zA5,zA5,<- r.length,<- q.length,hl]
   have k:=qS9 (P:=λ _ _ _=>True) (e:=e) (A:=A.in1) (s:=s) r q λ i x y u v B e2 C D=>(he i x y B e2).at I C D (by have:=qv9 A;lia)
   have z:=RcAt.lists p l w (by lia) k;have q2:=RcNeAt.lists p l w (by lia) k;rw[zA5,<- r.length] at z q2;exact⟨z,q2⟩
 | @lens a b xs ys f n hl =>
   cases d;cases c;obtain⟨g,r,p⟩:=I.lstI f;obtain⟨its2,q,l⟩:=I.lstI n;have w:(g.toArray.size != its2.toArray.size)=true:=by rw[zA5,zA5,<- r.length,<- q.length];simpa using hl
   exact⟨RcAt.lists_lengths p l w (by lia),RcNeAt.lists_lengths p l w (by lia)⟩
 | @tups a b xs ys e f n he =>
   cases d;cases c;obtain⟨g,r,p⟩:=I.tupI f;obtain⟨its2,q,l⟩:=I.tupI n;have k:=qS9 (P:=λ _ _ _=>True) (e:=e) (A:=A.in1) (s:=s) r q λ i x y u v B e2 C D=>(he i x y B e2).at I C D (by have:=qv9 A;lia)
   have z:=RcAt.tuples p l (by lia) k;have q2:=RcNeAt.tuples p l (by lia) k;rw[zA5,zA5,<- r.length,<- q.length] at z q2;exact⟨z,q2⟩
 | lt f n =>
   cases d;cases c;obtain⟨g,r,p⟩:=I.lstI f;obtain⟨its2,q,l⟩:=I.tupI n;exact⟨RcAt.list_tuple p l (by lia),RcNeAt.list_tuple p l (by lia)⟩
 | tl f n =>
   cases d;cases c;obtain⟨g,r,p⟩:=I.tupI f;obtain⟨its2,q,l⟩:=I.lstI n;exact⟨RcAt.tuple_list p l (by lia),RcNeAt.tuple_list p l (by lia)⟩
 | lf f o =>
   cases d;obtain⟨g,r,p⟩:=I.lstI f;cases y with
   | non=>cases c;exact⟨RcAt.list_none p (by lia),RcNeAt.list_none p (by lia)⟩
   | bl b=>cases c;exact⟨RcAt.list_bool b p (by lia),RcNeAt.list_bool b p (by lia)⟩
   | int b=>obtain⟨t,rfl⟩:=c;exact⟨RcAt.list_int b t p (by lia),RcNeAt.list_int b t p (by lia)⟩
   | str b=>obtain⟨t,rfl⟩:=c;exact⟨RcAt.list_str b t p (by lia),RcNeAt.list_str b t p (by lia)⟩
   | _=>exact absurd (show false=true from o) zAq
 | fl f o =>
   cases c;obtain⟨g,r,p⟩:=I.lstI f;cases x with
   | non=>cases d;exact⟨RcAt.none_list p (by lia),RcNeAt.none_list p (by lia)⟩
   | bl b=>cases d;exact⟨RcAt.bool_list b p (by lia),RcNeAt.bool_list b p (by lia)⟩
   | int b=>obtain⟨t,rfl⟩:=d;exact⟨RcAt.int_list b t p (by lia),RcNeAt.int_list b t p (by lia)⟩
   | str b=>obtain⟨t,rfl⟩:=d;exact⟨RcAt.str_list b t p (by lia),RcNeAt.str_list b t p (by lia)⟩
   | _=>exact absurd (show false=true from o) zAq
 | tf f o =>
   cases d;obtain⟨g,r,p⟩:=I.tupI f;cases y with
   | non=>cases c;exact⟨RcAt.tuple_none p (by lia),RcNeAt.tuple_none p (by lia)⟩
   | bl b=>cases c;exact⟨RcAt.tuple_bool b p (by lia),RcNeAt.tuple_bool b p (by lia)⟩
   | int b=>obtain⟨t,rfl⟩:=c;exact⟨RcAt.tuple_int b t p (by lia),RcNeAt.tuple_int b t p (by lia)⟩
   | str b=>obtain⟨t,rfl⟩:=c;exact⟨RcAt.tuple_str b t p (by lia),RcNeAt.tuple_str b t p (by lia)⟩
   | _=>exact absurd (show false=true from o) zAq
 | ft f o =>
   cases c;obtain⟨g,r,p⟩:=I.tupI f;cases x with
   | non=>cases d;exact⟨RcAt.none_tuple p (by lia),RcNeAt.none_tuple p (by lia)⟩
   | bl b=>cases d;exact⟨RcAt.bool_tuple b p (by lia),RcNeAt.bool_tuple b p (by lia)⟩
   | int b=>obtain⟨t,rfl⟩:=d;exact⟨RcAt.int_tuple b t p (by lia),RcNeAt.int_tuple b t p (by lia)⟩
   | str b=>obtain⟨t,rfl⟩:=d;exact⟨RcAt.str_tuple b t p (by lia),RcNeAt.str_tuple b t p (by lia)⟩
   | _=>exact absurd (show false=true from o) zAq
 | dcts f n =>
   cases d;cases c;obtain⟨F,K,m,E,G⟩:=I.dK0 f;obtain⟨L,M,R,N,O⟩:=I.dK0 n;cases G rfl;cases O rfl;exact LD.qas9 F L E N (by lia)
 | dt f n =>
   cases d;cases c;obtain⟨F,K,m,E,G⟩:=I.dK0 f;obtain⟨its2,q,l⟩:=I.tupI n;exact LD.rc_dt E l (by lia)
end
def rEqD:R2:=λ x y H Q=>∃ b,RcD H x y b/\Q (.bl b) H
def rNeD:R2:=λ x y H Q=>∃ b,RcD H x y b/\Q (.bl (!b)) H
theorem qj3(e:X.A.units+64 < cLine):OpR X (Jo .Eq) rEqD:=by
 intro D8 s f H x y v u Q I a c ⟨b,d,q⟩;exact(d.at I a c (A:=X.A) (by lia)).1 X.prog X.w X.xe _ ⟨.bl b,H,I,rfl,q⟩
theorem qE9(e:X.A.units+64 < cLine):OpR X (Jo .NotEq) rNeD:=by
 intro D8 s f H x y v u Q I a c ⟨b,d,q⟩;exact(d.at I a c (A:=X.A) (by lia)).2 X.prog X.w X.xe _ ⟨.bl (!b),H,I,rfl,q⟩
theorem qz5:∀{x:V},flatV x=true->eqV x x=true:=by
 intro x h;cases x with
 | non=>rfl
 | bl b=>exact zBc b
 | int b=>exact zBc b
 | str b=>exact zBc b
 | _=>exact absurd (show false=true from h) zAq
theorem Room.u64(a:Room k A):A.units+64 < cLine:=a.units
end L2
namespace L2
open PySem PySem.Spec PyProof.Rows
variable{vs:Array V'}
section
def gAll(to:TE):TG:=λ v a H Q=>to a H λ o H1=>∃ l b xs ys,o=.ref l/\v=.ref b/\l≠b/\H1 l=some (.l xs)/\H1 b=some (.l ys)/\xs.length+ys.length<=Jn/\Q a (upd H1 l (.l ys))
end
structure Cl(K:Nl)(mg:Str->Option V')(x:Str)(C:γ):Prop where
 cl:Cls K C
 m:mg x=some (.ref C)
structure Md(K:Nl)(C:γ)(m qual:Str)(st:Kh)(f:γ)(fd:δ)(ps:List Str):Prop where
 F:Fun K m qual st f fd
 b:Binds K fd ps []
 me:Ia K C m f
 isf:W.isFn K (.ref f)=true
theorem mdmk{K:Nl}{st:Kh}{kV:V'}(l:K.lookup f=some ⟨oc,o,.func (W.fnOf m qual (qf5 st) (qd3 st) (qa3 st) .none kV d g e b j),n⟩)(c:W.codeIn K b qual=true)(k:W.keepIn K (.ref f)=true)(a:W.findIn K (.ref C) m=some (some (.ref f)))(i:W.isFn K (.ref f)=true)(h:∀(kV d g:V')(e:Option γ)(b j:V')(us:List V'),us.length=ps.length->bindArgs (W.fnOf m qual (qf5 st) (qd3 st) (qa3 st) .none kV d g e b j) ⟨us,[]⟩=pure (ps.zip us)) :
   Md K C m qual st f (W.fnOf m qual (qf5 st) (qd3 st) (qa3 st) .none kV d g e b j) ps:=⟨qao9 l c k,(qao9 l c k).binds h,⟨a,i,k⟩,i⟩
section
variable{M:Model}{A:Kd}{E:V'->Sh->Prop}{s:Sh}
structure Left(h h':Heap)(f:List γ)(e T:γ)(oe:Obj)(old:Option V'):Prop where
 new:h.objs.size<=T
 keep:∀ b o,h.get? b=some o->b≠e->old≠some (.ref b)->b∉f->h'.get? b=some o
 slot:∀ b o,h.get? b=some o->b∈f->∃ sl,h'.get? b=some { o with slots:=sl }
 there:∀ b o,h.get? b=some o->∃ o',h'.get? b=some o'
 exc:∃ vs oT ts,h'.get? e=some { oe with data:=.fields vs }/\1 < vs.size/\vs[1]? = some (.ref T)/\T≠e/\h'.get? T=some oT/\oT.data=.fields ts/\ts[3]? = some .none
theorem qau1(e:o.data=.fields vs)(g:Array V'->Array V'):Obj.mapFields g o={ o with data:=.fields (g vs) }:=by
 obtain⟨a,b,c,d⟩:=o;cases e;rfl
theorem qL0(m:A.frames=some (env::outer))(B:s.heap.FunFrames base (env::outer))(R:env.frame=some L)(l:s.heap.get? e=some oe)(g:oe.data=.fields vs)(hsz:1 < vs.size)(h:∀ h' T,Left s.heap h' ((env::outer).filterMap (·.frame)) e T oe old->Q () { s with heap:=h' }) :
   Ka M A (do let a <- frameOf env;let pl <- entryPlaceOf L P;let b <- EntryCells.newEntry c a .none (rawInt L) .none pl;setField (.ref e) 1 b)
     (λ _ s'=>Ka M A (setFlight (.ref e) none) Q E s') E s:=by
 have i:∀ b o n,s.heap.get? b=some o->o.data=.fields n->b∉(env::outer).filterMap (·.frame):=λ b o n p q2 q=>by
   obtain⟨_,W,C,S⟩:=B.mem q;rw[p] at C;cases C;exact S n q2
 refine E' (wpAny_frameOf_fun m B R λ g1 p=>?_);refine E' (wpAny_entryPlaceOf λ pl r=>?_);unfold EntryCells.newEntry newFields;refine E' (wpAny_newObj_type ?_ (r.sizeOk5 _ _ _ _ _));obtain⟨U,D,F⟩:=p;have G:g1.get? e=some oe:=(D e (i e oe vs l g)).trans l;generalize j:({ cls:=.type "traceback",dict:=none,data:=.fields ([c,.ref L,.none,rawInt L,.none]++(if pl.isEmpty then Kv 6 M8 else pl)).toArray }:Obj)=oT;have k:∃ t,oT.data=.fields t/\3 < t.size:=by
   refine⟨([c,.ref L,.none,rawInt L,.none]++(if pl.isEmpty then Kv 6 M8 else pl)).toArray,by rw[<- j],?_⟩;simp only[zA5,zAe,zAm,zC4];lia
 have nf:oT.isFreed=false:=by rw[<- j];rfl
 obtain⟨t,k,H⟩:=k;have e2:=zA2 (h:=g1) oT G;refine wpAny_setField e2 g hsz ?_;have u:g1.objs.size≠e:=zCs (zA7 G);have I:=Obj.data_mapFields g (·.setIfInBounds 1 (M7 g1.objs.size));have J:=Heap.get?_update_self (Obj.mapFields (·.setIfInBounds 1 (M7 g1.objs.size))) e2 (Obj.isFreed_of_fields I);have K:((g1.push oT).update e (Obj.mapFields (·.setIfInBounds 1 (M7 g1.objs.size)))).get? g1.objs.size=some oT:=(zBn _ _ (Ne.symm u)).trans (zAo g1 nf);unfold setFlight;refine E' (wpAny_field J I (x:=.ref g1.objs.size) (by simp[hsz]) ?_);rw[if_pos (show (M7 g1.objs.size != M8)=true from by simp)];refine wpAny_setField K k H (h _ g1.objs.size ?_);have keep:∀ b o,b≠e->g1.get? b=some o->(((g1.push oT).update e (Obj.mapFields (·.setIfInBounds 1 (M7 g1.objs.size)))).update g1.objs.size (Obj.mapFields (·.setIfInBounds 3 ((none:Option γ).elim M8 λ f=>rawInt f)))).get? b=some o:=λ b o v w=>by
   rw[zBn _ _ (zCs (zA7 w)),zBn _ _ (Ne.symm v)];exact zA2 _ w
 have N:(((g1.push oT).update e (Obj.mapFields (·.setIfInBounds 1 (M7 g1.objs.size)))).update g1.objs.size (Obj.mapFields (·.setIfInBounds 3 ((none:Option γ).elim M8 λ f=>rawInt f)))).get? e=some { oe with data:=.fields (vs.setIfInBounds 1 (M7 g1.objs.size)) }:=by
   rw[zBn _ _ u,J,qau1 g]
 refine⟨zD0 U.symm,λ b o d v w V=>keep b o v ((D b V).trans d),λ b o d q=>?_,λ b o d=>?_,_,_,_,N,by simpa using hsz,by simp[hsz],u,Heap.get?_update_self _ K (Obj.isFreed_of_fields (Obj.data_mapFields k _)),Obj.data_mapFields k _,by simp[H]⟩
 . obtain⟨O,y⟩:=F b o d
   refine⟨O,keep b _ (λ z=>?_) y⟩;subst z;rw[l] at d;cases d;exact i b _ vs l g q
 obtain⟨O,y⟩:=F b o d;by_cases z:b=e
 . subst z;exact⟨_,N⟩
 exact⟨_,keep b _ z y⟩
theorem qag4(f:A.frames=some (env::outer))(r:s.heap.FunFrames base (env::outer))(t:env.frame=some L)(i:s.heap.get? e=some oe)(j:oe.data=.fields vs)(hsz:1 < vs.size)(C:vs[1]? = some .none∨∃ T k c,vs[1]? = some (.ref T)/\T≠e/\s.heap.get? T=some k/\k.data=.fields c/\c[3]? = some .none)(h:∀ h' T,Left s.heap h' ((env::outer).filterMap (·.frame)) e T oe vs[1]? -> Q () { s with heap:=h' }) :
   Ka M A (noteFrame (.ref e) env) (λ _ s'=>Ka M A (setFlight (.ref e) none) Q E s') E s:=by
 unfold noteFrame;simp only[t];rcases C with l | ⟨T,k,c,l,u,g,d,y⟩
 . refine E' (wpAny_field i j l ?_)
   rw[if_neg (by decide)];exact qL0 (old:=vs[1]?) f r t i j hsz h
 refine E' (wpAny_field i j l ?_);rw[if_pos (show (M7 T != M8)=true from by simp)];refine E' (wpAny_field g d y ?_);rw[if_neg (show ¬ ((M8 == rawInt L)=true) from by simp[rawInt])];have D:=(Array.getElem?_eq_some_iff.mp y).1;refine E' (wpAny_setField g d D ?_);have other:∀ b,b≠T->(s.heap.update T (Obj.mapFields (·.setIfInBounds 3 M8))).get? b=s.heap.get? b:=λ b a=>zBn _ _ (Ne.symm a)
 have F:∀ b∈(env::outer).filterMap (·.frame),b≠T:=λ b m z=>by
   obtain⟨_,N,n,p⟩:=r.mem m;subst z;rw[g] at n;cases n;exact p c d
 have G:(s.heap.update T (Obj.mapFields (·.setIfInBounds 3 M8))).get? T=some { k with data:=.fields (c.setIfInBounds 3 .none) }:=by
   rw[Heap.get?_update_self _ g (Obj.isFreed_of_fields (Obj.data_mapFields d _)),qau1 d]
 have w:(s.heap.update T (Obj.mapFields (·.setIfInBounds 3 M8))).FunFrames base (env::outer):=r.of_keeps λ b o a x=>⟨o,(other b λ z=>by subst z;rw[g] at a;cases a;exact x c d).trans a,rfl⟩
 refine qL0 (s:={ s with heap:=s.heap.update T (Obj.mapFields (·.setIfInBounds 3 M8)) }) (old:=vs[1]?) f w t ((other e (Ne.symm u)).trans i) j hsz λ h' T' q=>h h' T' ?_
 obtain⟨H,q2,n,p,I⟩:=q;refine⟨by rwa[show (s.heap.update T (Obj.mapFields (·.setIfInBounds 3 M8))).objs.size=s.heap.objs.size from Heap.size_update _ _ _] at H,λ b o a J B K=>?_,λ b o a m=>n b o ((other b (F b m)).trans a) m,λ b o a=>?_,I⟩
 . exact q2 b o ((other b λ z=>B (by rw[l,z])).trans a) J B K
 by_cases z:b=T
 . subst z;exact p _ _ G
 exact p b o ((other b z).trans a)
end
end L2
namespace L2
open PySem PySem.Spec PyProof.Rows
def Ij(e C:γ)(a:Option γ)(b:Bool)(h:Heap):Prop:=∃ oe vs,h.get? e=some oe/\oe.cls=.ref C/\oe.dict=a/\oe.data=.fields vs/\1 < vs.size/\(b=true->vs[1]? = some .none)
noncomputable abbrev Ik(e C:γ)(a:Option γ)(b:Bool):HO:=.ext (Ij e C a b)
def xdIs(d:γ)(fs:List (Str×V))(h:Heap):Prop:=∃ mA,h.Ns1 d mA/\(∀ f,RelO (fs.lookup f) (mA f))/\PySem.Within mA (fs.map (·.1))/\fs.length<=1000
abbrev XD(d:γ)(fs:List (Str×V)):HO:=.ext (xdIs d fs)
section
variable{P:Kc}{w:Ke}{H:Hp}{h:Heap}
theorem qaX8(q:Ij e C d f h):ObjOk P w H h e (Ik e C d f) :=
 ⟨q,let ⟨c,_,a,_⟩:=q;⟨c,a⟩,λ i j ⟨c,g,a,b⟩ k=>⟨c,g,k _ a,b⟩⟩
theorem qaX9(c:HOk P w H h)(q:H e=some (Ik e C a b)):Ij e C a b h:=(c e _ q).1
end
structure Fly(n:Nat)(H:Hp)(h:Heap)(a:γ):Prop where
 ge:n<=a
 tr:∃ C od,H a=some (Ik a C od false)
 ob:∃ oe vs,h.get? a=some oe/\oe.data=.fields vs/\1 < vs.size/\(vs[1]? = some .none∨∃ T oT ts,vs[1]? = some (.ref T)/\n<=T/\H T=none/\T≠a/\h.get? T=some oT/\oT.data=.fields ts/\ts[3]? = some .none)
theorem Fly.mono(F:Fly n H h a)(l:m<=n):Fly m H h a:=by
 obtain⟨b,c,d,e,f,g⟩:=F.ob;refine⟨zAk l F.ge,F.tr,b,c,d,e,f,?_⟩;rcases g with z | ⟨T,i,j,k,o,z⟩
 . exact .inl z
 exact .inr ⟨T,i,j,k,zAk l o,z⟩
def CX1(P:Kc)(w:Ke):CXT:=λ outer H s E e s'=>∃ a H',e=.ref a/\s'.os=s.os/\AllBare s'.gens/\Un (frs outer) [] H H' s.heap s'.heap/\HOk P w H' s'.heap/\Fly s.heap.objs.size H' s'.heap a/\E e none H'
structure Old(X:Cx)(D8:List (γ×Obj))(n:Nat):Prop where
 st:X.s₀.heap.objs.size<=n
 loc:X.env.locals < n
 cell:∀ x c,X.env.cells.lookup x=some c->c < n
 pin:∀ p∈X.pn++D8,p.1 < n
theorem Ov.old(I:Ov X D8 b H s):Old X D8 s.heap.objs.size :=
 ⟨I.sz,I.lt,λ x c e=>let ⟨_,_,z,_⟩:=I.cell x c e;zA7 z,λ p a=>zA7 (I.pin p a).1⟩
noncomputable def Fy:Option V'->List γ
 | some (.ref b)=>[b]
 | _=>[]
section
variable{X:Cx}{D8:List (γ×Obj)}{σ:St}{H:Hp}{s:Sh}{a T:γ}{n:Nat}{h':Heap}{oe:Obj}{vs:Array V'}
theorem Ov.left(I:Ov X D8 σ H s)(F:Fly n H s.heap a)(O:Old X D8 n)(m:s.heap.get? a=some oe)(N:oe.data=.fields vs)(L:Left s.heap h' (frs X.stack) a T oe vs[1]?) :
   Ov X D8 σ H { s with heap:=h' }/\Fly n H h' a:=by
 obtain⟨C,P,i⟩:=F.tr;obtain⟨t,y,D,q2,q3,E⟩:=F.ob;rw[m] at D;cases D;rw[N] at q2;cases q2;obtain⟨G,Q,R,J,e2,S,V,W,Y,Z⟩:=L.exc;have j:∀ b,vs[1]? = some (.ref b)->n<=b/\H b=none/\b≠a:=λ b z=>by
   rcases E with q | ⟨T',_,_,q,r1,r2,r3,_⟩
   . rw[q] at z;cases z
   rw[q] at z;cases z;exact⟨r1,r2,r3⟩
 have A:HOk X.prog X.w H h':=λ b u f=>by
   by_cases z:b=a
   . subst z
     rw[i] at f;cases f;obtain⟨t,y,p1,p2,p3,p4,p5,p6⟩:=qaX9 I.hok i;rw[m] at p1;cases p1;exact qaX8 ⟨_,G,J,p2,p3,rfl,e2,λ z=>nomatch z⟩
   have K:∀ c,H c≠none->c∉frs X.stack:=λ c d hm=>d (I.stkFree c hm)
   refine(I.hok b u f).stay (λ c v d r=>L.keep c v r ?_ (λ h=>?_) ?_) (λ _ z=>z) λ _ _ z=>z
   . rcases d with rfl | d
     . exact z
     intro h;rw[h,i] at d;cases d
   . have:=(j c h).2.1
     rcases d with rfl | d
     . rw[this] at f;cases f
     rw[this] at d;cases d
   rcases d with rfl | d
   . exact K c (by rw[f];exact λ z=>nomatch z)
   exact K c (by rw[d];exact λ z=>nomatch z)
 refine⟨?_,F.ge,⟨C,P,i⟩,_,G,J,rfl,e2,.inr ⟨T,Q,R,S,zAk (zAk F.ge (zBa (zA7 m))) L.new,I.hok.fresh L.new,V,W,Y,Z⟩⟩;have k:∀ b,b∈Fy vs[1]? ↔ vs[1]? = some (.ref b):=λ b=>by
   rcases E with q | ⟨T',_,_,q,_⟩
   . rw[q];simp[Fy]
   rw[q];simp[Fy,eq_comm]
 have U:Un (frs X.stack) (Fy vs[1]?) H H s.heap h':=by
   refine⟨λ b o z l B M=>L.keep b o z (λ h=>?_) (λ h=>M ((k b).mpr h)) B,λ b o z l B M=>L.slot b o z B,λ _ _ _ l _=>l,λ b o z _=>L.there b o z,λ _ _ z=>z,λ _ _ _ z=>z,λ b ps z=>⟨#[],by rw[z];simp⟩⟩;rw[h,i] at l;cases l
 exact I.call (g':=s.gens) (t':=s.toks) (d':=s.drawn) (ch:=Fy vs[1]?) U A I.bare λ b f=>by
   have g:=(j b ((k b).mp f)).1;refine⟨.inr (zAk O.st g),zCs (zAg O.loc g),λ x c e=>zAt (zAg (O.cell x c e) g),λ p hp=>zAt (zAg (O.pin p hp) g)⟩
end
def Lands(X:Cx)(E:St->XK):Prop:=∀(D8:List (γ×Obj))(b:St)(H:Hp)(s:Sh)(a:γ)(n:Nat),Ov X D8 b H s->Fly n H s.heap a->Old X D8 n->E b (.ref a) none H->X.xe (.ref a) s
theorem Lands.passes(h:Lands X E):qM0 (CX1 X.prog X.w) X E:=λ D8 g H s e b I q=>by
 obtain⟨a,H',rfl,c,d,u,f,F,q⟩:=q;exact h D8 g H' b a _ (I.call' (ch:=[]) c u f d λ _ z=>nomatch z) F I.old q
theorem qa1{K:Nl} :
   Lands (Dx cm (CX1 P w) P w K mg base N qual scope f cd A outer s₀ H₀ E) (λ _=>E):=λ D8 t H s a n I F O q=>by
 obtain⟨p,b,c,d,e,g⟩:=id F.ob;show Ka _ _ (leaving _ _) _ _ s;unfold leaving;refine E' (qag4 (base:=base) (vs:=b) I.ok.frames I.stack rfl c d e ?_ λ r T L=>?_)
 . rcases g with z | ⟨T,h,i,j,_,_,k,l,m,o⟩
   . exact .inl z
   exact .inr ⟨T,h,i,j,k,l,m,o⟩
 obtain⟨J,F'⟩:=I.left (T:=T) F O c d L;exact⟨a,H,rfl,J.os,J.bare,J.base,J.hok,F'.mono O.st,q⟩
end L2
namespace L2
open PySem PySem.Spec PyProof.Rows PySem.SeqAt
open PySem.AutoSeq1 (wpAny_loadPart')
theorem Fun.okX{K:Nl}{st:Kh}(F:Fun K x qual st f fd)(S:qa8 N ps (qa3 st))(len:∀ vs H Q E,sp vs H Q E->vs.length=ps.length)(hbody:∀(a:V')(A:Kd)(outer:List Env)(s:Sh)(H:Hp)(vs:List V)(Q:VK)(E:XK),Room k (A.deeper (envOfC qual (qa3 st) s.heap.objs.size f a))->sp vs H Q E ->
     ∃ t,PSs (Dx true (CX1 P w) P w K mg base N qual (qa3 st) f a A outer s H E) (qd3 st) t/\t { nx:=λ _ H'=>Q .non H',rt:=Q } (start N vs) H):Fo P w K mg base (CX1 P w) (k+1) f fd ps sp:=by
 obtain⟨i,j,kV,d,l,m,a,n,e,rfl,g,b⟩:=F.ex;exact Ie g b S len λ A outer s H vs Q E h c=>hbody a A outer s H vs Q E h c
end L2
namespace L2
open PySem PySem.Spec PyProof.Rows
section
variable{X:Cx}{A:List (γ×Obj)}{y:St}{H:Hp}{s:Sh}{h':Heap}
theorem Ov.turnedL{ch:List γ}(I:Ov X A y H s)(k:∀ b o,b∉ch->s.heap.get? b=some o->h'.get? b=some o)(f:∀ b∈ch,Fn X A H b):Ov X A y H { s with heap:=h',toks:=t' }:=by
 have d:∀ b u,H b=some u->b∉ch:=λ b u e z=>by rw[(f b z).1] at e;cases e
 refine I.step (g':=s.gens) (d':=s.drawn) (ch:=ch) (λ b g=>?_) (λ b o _ _ a e _=>k b o a e) (λ b o _ _ a e _=>⟨o.slots,k b o a e⟩) (λ _ _ _ _ n=>n)
   (λ b o a e=>⟨o,k b o a e⟩) (λ _ _ e=>e) (λ _ _ _ e=>e) (λ b w e=>⟨#[],by rw[e];simp⟩) (λ m h=>?_) (λ b u e=>?_) I.bare
 . obtain⟨x,f1,f2,f3,i,j⟩:=f b g
   exact⟨f3,f1,i,j⟩
 . obtain⟨o,l,p,t,r⟩:=h
   exact⟨o,l,p,k _ o (λ z=>(f _ z).2.1 rfl) t,r⟩
 refine(I.hok b u e).stay (λ c v a q=>k c v ?_ q) (λ _ q=>q) λ _ _ q=>q
 rcases a with z | z
 . rw[z];exact d b u e
 exact d c _ z
end
def Ite(K:Nl)(a:γ):It :=
 ⟨λ i H=>∃ xs x,SqL K H a xs/\xs[i]? = some x,λ i H x H'=>∃ t y,x=.ref t/\H t=none/\H'=upd H t (.q [.int (i:Int),y])/\∀ xs,SqL K H a xs->xs[i]? = some y,λ i H=>∃ xs,SqL K H a xs/\xs.length<=i⟩
theorem qak7{P:Kc}{w:Ke}{K:Nl}{elts:List Kf}{x1:Nat}{pos:Pos}(a it e:γ)(m:e≠it):Gk P w K (.Tuple elts x1 pos) (Ite K a) [e,it] e (λ i h=>(∃ old,IsEnum h e it (i:Nat) old)/\h.IsListIter it a i) where
 mem:=by simp
 obj:=λ i h d b c=>by
   obtain⟨⟨old,f⟩,o,ho,B,hd⟩:=d;rcases zAi.mp c with rfl | c
   . exact⟨_,f,λ v z=>by
       have z':Data.fields _=Data.cell v:=z;cases z'⟩
   rw[zAl.mp c];exact⟨o,ho,λ v z=>by rw[hd] at z;cases z⟩
 keep:=λ i h Y d k=>by
   obtain⟨⟨old,f⟩,d⟩:=d;exact⟨⟨old,k e (by simp) _ f⟩,d.at λ o q=>k it (by simp) o q⟩
 item:=by
   intro X C D F B i D8 s W H E I n d G;subst C D F;obtain⟨xs,x,A,J⟩:=G;obtain⟨⟨old,f⟩,g⟩:=d;obtain⟨L,M,p,hz⟩:=I.list A;obtain⟨u,hu,ru⟩:=M.get J;have N:H s.heap.objs.size=none:=I.hok.fresh (zA3 _);obtain⟨oi,O,_⟩:=id g;have r:e < s.heap.objs.size:=zA7 f;have lt2:it < s.heap.objs.size:=zA7 O;refine wpAny_pyNext_enum_item f g p.isList (x:=u) (by simpa using hu) m λ Z Q t R a0 S=>?_
   refine⟨_,rfl,wpAny_letOwnedTupleGo_enum (s:={ s with heap:=Z,toks:=s.toks+1 }) Q λ T U j=>?_⟩
   replace j:Heap.SameBut e Z T:=j
   have I0:Ov X D8 W (upd H s.heap.objs.size (.q [.int (i:Int),x])) { s with heap:=s.heap.push { cls:=.type "tuple",data:=.seq #[.int i s.toks,u] },toks:=s.toks+1 } :=
     I.laid (λ b o q=>zA2 _ q) (zA3 _) ⟨by show 2<=Jn;decide,[.int i s.toks,u],.cons ⟨_,rfl⟩ (.cons ru .nil),⟨_,zAo _ rfl,rfl,_,rfl⟩⟩
   have I2:Ov X D8 W (upd H s.heap.objs.size (.q [.int (i:Int),x])) { s with heap:=T,toks:=s.toks+1 }:=by
     refine Ov.turnedL (s:={ s with heap:=s.heap.push { cls:=.type "tuple",data:=.seq #[.int i s.toks,u] },toks:=s.toks+1 }) (h':=T) (ch:=[e,it]) (t':=s.toks+1) I0 (λ b o c q=>?_) (λ b c=>?_)
     . have y:b≠e:=λ z=>c (by simp[z])
       have V:b≠it:=λ z=>c (by simp[z])
       refine j.extBut b o y ?_;rcases Heap.get?_push_cases (show (s.heap.push { cls:=.type "tuple",data:=.seq #[.int i s.toks,u] }).get? b=some o from q) with⟨rfl,rfl⟩ | q
       . exact R
       exact S b o y V q
     refine⟨?_,(n b c).2⟩;have l:b < s.heap.objs.size:=by
       rcases zAi.mp c with rfl | c
       . exact r
       rw[zAl.mp c];exact lt2
     rw[qc9 (zAt l)];exact(n b c).1
   refine⟨.ref s.heap.objs.size,_,I2,rfl,⟨_,x,rfl,N,rfl,λ ys hy=>by rw[I.list_inj hy A];exact J⟩,⟨⟨u,?_⟩,?_⟩,λ b c=>?_⟩
   . have:((i+1:Nat):Int)=(i:Int)+1:=by push_cast;rfl
     rw[this];exact U
   . exact t.extBut j.extBut (Ne.symm m)
   have l:b < s.heap.objs.size:=by
     rcases zAi.mp c with rfl | c
     . exact r
     rw[zAl.mp c];exact lt2
   rw[qc9 (zAt l)];exact(n b c).1
 done:=by
   intro X C D F B i D8 s W H E I n d G;subst C D F;obtain⟨xs,A,J⟩:=G;obtain⟨⟨old,f⟩,g⟩:=d;obtain⟨L,M,p,hz⟩:=I.list A;obtain⟨f0,f1,f2,f3,f4,f5⟩:=n it (by simp);have hl:=M.length;exact wpAny_pyNext_enum_end (I.ok.hd B) f g p.isList (by simp;lia) λ Y eb=>⟨rfl,I.turned (t':=s.toks) (λ b o c q=>eb b o c q) f0 f1 f3 f4 f5⟩
 self:=λ _ _ _ _ _ d h=>by
   obtain⟨⟨old,f⟩,_⟩:=d;exact wpAny_pyIter_enum f h
section
variable{X:Cx}
def iEnum(K:Nl)(ta:TA):TI:=λ J H R=>ta J H λ vs H1=>∃ a,vs=[.ref a]/\(∃ xs,SqL K H1 a xs)/\R (Ite K a) H1
theorem qaJ6(k:Gl X "enumerate")(hm:X.mg "enumerate" = none)(m:PA X [l] ta)(n:Jm [l] X.env=[(false,eval l X.env)]:=by rfl):PI X (.Tuple elts j tpos) (.Call (.Name "enumerate" p) [l] [] pos) (iEnum X.K ta):=by
 intro D8 s J H R I h;refine Call_ (qJ9 I k hm boot_enumerate (PyProof.Rows.callWith_type1 (thn (m pos D8 s J H _ I h) λ B c f=>?_) n rfl));obtain⟨C,H1,I1,o,t⟩:=f;obtain⟨a,e,⟨D,u⟩,q⟩:=t;subst e;cases o with
 | cons r v =>
   cases v;cases r;obtain⟨w,E,x,F⟩:=I1.list u;refine call_enumerate_list x.isList λ G i y z A=>?_
   refine wpAny_pyIter_enum i ?_;refine⟨c.heap.objs.size+1,[c.heap.objs.size+1,c.heap.objs.size],_,_,H1,rfl,I1.kept (t':=c.toks) A,qak7 a c.heap.objs.size (c.heap.objs.size+1) (Nat.succ_ne_self _),⟨⟨_,i⟩,y⟩,λ b g=>?_,q⟩;have d:c.heap.objs.size<=b:=by
     rcases zAi.mp g with rfl | g
     . exact Nat.le_succ _
     rw[zAl.mp g];exact zA3 _
   exact I1.fpOk d (I1.hok.fresh d)
end
section
variable{X:Cx}
def qaI2:V->List V->Hp->VK->Prop:=λ x vs H Q=>∃ l xs y j z,x=.ref l/\vs=[y]/\H l=some (.l xs)/\flatV y=true/\xs.all flatV=true/\xs[j]? = some z/\eqV z y=true/\(∀ m z',m < j->xs[m]? = some z'->eqV z' y=false)/\Q (.int (j:Nat)) H
theorem Ot.getU(r:Ot xs us){j:Nat}(h:us[j]? = some u):∃ x,xs[j]? = some x/\Os x u:=by
 have c:=r.length;have d:j < us.length:=(zA4.mp h).1;obtain⟨e,a,b⟩:=r.get (show xs[j]? = some xs[j] by simp);rw[h] at a;cases a;exact⟨_,by simp,b⟩
theorem qaf0:MtM X "list.index" qaI2:=by
 intro D8 s S H x N v O Q I f C h;obtain⟨l,p,y,j,P,rfl,rfl,D,E,t,A,g,i,q⟩:=h;cases f;obtain⟨u,rfl,G⟩:=C.one;obtain⟨z,a,n,r,R,e⟩:=I.lstM D;have J:j < p.length:=(zA4.mp A).1;have B:=r.length;have small:((j:Nat):Int) < 2 ^ 63 - 1:=by
   have:Jn < 2 ^ 62:=by decide
   lia
 have eqAt:∀ m (d:m < a.toArray.size),∃ x,p[m]? = some x/\eqU y a.toArray[m]=eqV x y:=λ m d=>by
   have K:m < a.length:=by simpa using d
   obtain⟨x,b,f⟩:=r.getU (show a[m]? = some a[m] by simp);have L:flatV x=true:=zBi.mp t x (zB1 b);refine⟨x,b,?_⟩
   have:=qap7 (x:=y) f L
   simpa using this
 have c:j < a.toArray.size:=by simp;lia
 refine J1 Nu ⟨_,e,rfl⟩ F.entry_list_index (F.args_list_index_2 _ _) (SeqAt.list_indexAt l a.toArray n none #[] u (eqU y) j c small ?_ ?_) ⟨e,λ w M=>qp1 G E r t w (by simpa using M),⟨.int (j:Nat),H,I.tok _,⟨_,rfl⟩,q⟩⟩
 . obtain⟨x,b,k⟩:=eqAt j c
   rw[A] at b;cases b;rw[k];exact g
 intro m d o;obtain⟨x,b,k⟩:=eqAt m d;rw[k];exact i m x o b
def qaI4:V->List V->Hp->VK->Prop:=λ x vs H Q=>∃ l xs y,x=.ref l/\vs=[y]/\H l=some (.l xs)/\flatV y=true/\xs.all flatV=true/\Q (.int (xs.countP (λ z=>eqV z y):Nat)) H
theorem qW3{x:V}:∀{xs:List V}{us:List V'},Ot xs us->xs.all flatV=true->us.countP (eqU x)=xs.countP λ y=>eqV y x
 | _,_,.nil,_=>rfl
 | y::xs,u::us,.cons r t,f=>by
   rw[K5,zBo] at f;rw[Ml,Ml,qap7 r f.1,qW3 t f.2]
theorem qaB0:MtM X "list.count" qaI4:=by
 intro D8 s S H x k v m Q I c d h;obtain⟨l,o,y,rfl,rfl,f,g,b,q⟩:=h;cases c;obtain⟨u,rfl,i⟩:=d.one;obtain⟨z,a,n,r,p,e⟩:=I.lstM f;refine J1 N2 ⟨_,e,rfl⟩ F.entry_list_count (F.args_list_count_2 _ _) (SeqAt.list_countAt l a.toArray n none #[] u (eqU y)) ⟨e,λ w j=>qp1 i g r b w (by simpa using j),⟨.int _,H,I.tok _,⟨_,rfl⟩,?_⟩⟩;rw[show a.toArray.toList.countP (eqU y)=a.countP (eqU y) by simp,qW3 r b];exact q
end
theorem qaq4{K:Nl}(Pv:Nat->St->Hp->Prop)(c:Pv 0 u H)(d:∀ i u H,i<=xs.length->Pv i u H->SqL K H a xs)(f:∀(i:Nat) x u H t,xs[i]? = some x->Pv i u H->H t=none->g (.ref t) u (upd H t (.q [.int (i:Int),x])) λ σ2 H2=>tf σ2 H2 λ h H3=>if h=true then te σ2 H3 λ v H4=>∃ ys,H4 D=some (.l ys)/\ys.length < Jn/\Pv (i+1) σ2 (upd H4 D (.l (ys++[v]))) else Pv (i+1) σ2 H3)(j:∀ u H,Pv xs.length u H->R H) :
   qA4 (Ite K a) g tf te D R u H:=by
 refine⟨λ i m u H=>m=xs.length - i/\i<=xs.length/\Pv i u H,⟨xs.length,by simp,zBh _,c⟩,?_⟩;rintro i m u H ⟨rfl,k,p⟩;have q:=d i u H k p;by_cases b:i < xs.length
 . refine .inr ⟨⟨xs,xs[i],q,by simp[b]⟩,Pv (i+1),λ u' H' l=>⟨xs.length - (i+1),by lia,rfl,b,l⟩,λ x H' y=>?_⟩
   obtain⟨t,n,e,o,r,s⟩:=y;subst e r;exact f i n u _ t (s xs q) p o
 have e:i=xs.length:=by lia
 subst e;exact .inl ⟨⟨xs,q,zA3 _⟩,j u H p⟩
end L2
namespace L2
open PySem PySem.Spec PyProof.Rows
noncomputable def qaB9:List String:=["NoneType", "bool", "int", "str", "list", "tuple", "dict"]
structure IsO(K:Nl)(C:γ):Prop where
 ca:W.findIn K (.ref C) "__class__" = some (some (.builtin "object.__class__"))
 cn:W.specialIn K (.builtin "object.__class__") "__get__" = some (some (.builtin "getset_descriptor.__get__"))
 ct:W.takesIn K (.builtin "object.__class__")=some true
 cm:W.mroIn K C (.type "object")=some true
 kf:∀ t∈qaB9,Nm K (.type t) (.ref C)=some false
theorem kf_of{K:Nl}(h1:Nm K (.type "NoneType") (.ref C)=some false)(h2:Nm K (.type "bool") (.ref C)=some false)(b:Nm K (.type "int") (.ref C)=some false)(c:Nm K (.type "str") (.ref C)=some false)(d:Nm K (.type "list") (.ref C)=some false)(e:Nm K (.type "tuple") (.ref C)=some false)(f:Nm K (.type "dict") (.ref C)=some false) :
   ∀ t∈qaB9,Nm K (.type t) (.ref C)=some false:=by
 intro t a;unfold qaB9 at a;simp only[zAi,zBd,zD2] at a;rcases a with rfl | rfl | rfl | rfl | rfl | rfl | rfl<;>assumption
section
variable{X:Cx}
def rIsO(C:γ):List V->Hp->VK->Prop:=λ xs H Q=>∃ x,xs=[x,.ref C]/\((∃ a dx fs,x=.ref a/\H a=some (.ins C dx fs)/\Q (.bl true) H)∨(∃ t,Dg H x=some t/\Q (.bl false) H))
theorem qaE8(b:IsO X.K C)(g:Cls X.K C):CallR X (.builtin "isinstance") (rIsO C):=by
 intro D8 s m H j k Q I r h;obtain⟨x,rfl,h⟩:=h;obtain⟨u,l,rfl,f,c⟩:=G1 r;cases c;rcases h with⟨a,dx,fs,rfl,ha,q⟩ | ⟨t,hk,q⟩
 . have e:Nm X.K (.ref C) (.ref C)=some true:=by
     unfold Nm;rw[if_pos (by simp)]
   exact qF9 I f (.ins ha g b.ca b.cn b.ct b.cm) e λ d=>⟨.bl true,H,I.tok d,rfl,q⟩
 obtain⟨ty,i⟩:=qag8 (K:=X.K) hk;exact qF9 I f ty (b.kf t i) λ d=>⟨.bl false,H,I.tok d,rfl,q⟩
theorem qaT5(C:γ)(hm:X.mg x=some (.ref C))(a:Gl X x:=by rfl)(b:N' x:=by decide):PE X (.Name x pos) (tC (.ref C)):=qat6 a hm rfl b
end
end L2
namespace Row
variable{a i j q s t:Nat}{g':Nat->Option Int}{x y:Int}
noncomputable def Ac(n h r:Nat):Nat:=if h<=r then r - h else r+n - h
noncomputable def prev(n r:Nat):Nat:=if r=0 then n - 1 else r - 1
noncomputable def next(n r:Nat):Nat:=if r+1=n then 0 else r+1
def ahead(n:Nat)(hm:Int->Nat)(r:Nat)(x y:Int):Prop:=Ac n (hm y) r < Ac n (hm x) r∨(Ac n (hm x) r=Ac n (hm y) r/\x < y)
theorem qD6(h:ahead n hm r x y)(h':ahead n hm r y z):ahead n hm r x z:=by
 unfold ahead at *;lia
theorem qL9(h:ahead n hm r x y)(h':ahead n hm r y x):False:=by
 unfold ahead at *;lia
theorem qar5(h:ahead n hm r x x):False:=qL9 h h
theorem qar4(h:x≠y)(h':¬ ahead n hm r x y):ahead n hm r y x:=by
 unfold ahead at *;lia
theorem qT8(h:r < n):next n r < n:=by unfold next;split<;>lia
theorem qn6(h:r < n):prev n r < n:=by unfold prev;split<;>lia
theorem qam5(h:r < n):prev n (next n r)=r:=by unfold prev next;split<;>split<;>lia
theorem qj7(h:r < n)(b:a < n):Ac n a r < n:=by unfold Ac;split<;>lia
theorem qj1(b:a < n)(h:r < n)(h':s < n)(e:Ac n a r=Ac n a s):r=s:=by
 unfold Ac at e;split at e<;>split at e<;>lia
theorem qh5(b:a < n)(h:r < n):Ac n a r=0↔r=a:=by unfold Ac;split<;>lia
theorem qk8(c:a < n)(h:r < n)(b:0 < Ac n a r):Ac n a (prev n r)=Ac n a r - 1:=by
 unfold Ac prev at *;split at b<;>split<;>split<;>lia
theorem qG5(c:a < n)(h:r < n)(b:Ac n a r+1 < n):Ac n a (next n r)=Ac n a r+1:=by
 unfold Ac next at *;split at b<;>split<;>split<;>lia
theorem nor(n s:Nat):(s+1=n/\next n s=0)∨(s+1≠n/\next n s=s+1):=by unfold next;split<;>lia
theorem por(n s:Nat):(s=0/\prev n s=n - 1)∨(s≠0/\prev n s=s - 1):=by unfold prev;split<;>lia
theorem dor(n a r:Nat):(a<=r/\Ac n a r+a=r)∨(r < a/\(a<=r+n->Ac n a r+a=r+n)):=by
 unfold Ac;split<;>lia
theorem Dr(b:a < n)(hi:i < n)(c:s < n)(h:Ac n a i<=Ac n a s):Ac n a i+Ac n i s=Ac n a s:=by
 have d:=dor n a i;have e:=dor n a s;have f:=dor n i s;lia
theorem Hl(b:a < n)(c:s < n)(d:t < n)(h:Ac n a s < Ac n a t):Ac n t s+Ac n a t=n+Ac n a s:=by
 have e:=dor n a s;have f:=dor n a t;have g:=dor n t s;lia
theorem qaY2(a:s < n):Ac n (next n s) s+1=n:=by
 have b:=dor n (next n s) s;have c:=nor n s;lia
theorem qaq0(f:a < n)(c:b < n)(d:j < n)(hi:i < n)(h1:Ac n a i<=Ac n a j)(h2:Ac n a j<=Ac n b j):Ac n b i+(Ac n a j - Ac n a i)=Ac n b j:=by
 have g:=Dr f hi d h1;have h:=qj7 hi c;rcases Nat.lt_or_ge (Ac n b j) (Ac n b i) with e | e
 . have:=Hl c d hi e
   lia
 have:=Dr c hi d e
 lia
structure Ord(n:Nat)(hm:Int->Nat)(g:Nat->Option Int):Prop where
 home:∀ k,hm k < n
 inj:∀ i j k,i < n->j < n->g i=some k->g j=some k->i=j
 ord:∀ i k,i < n->g i=some k->0 < Ac n (hm k) i->∃ x,g (prev n i)=some x/\ahead n hm (prev n i) x k
def Il(n:Nat)(hm:Int->Nat)(g:Nat->Option Int):Prop:=∃ i,i < n/\∀ k,g i=some k->hm k=i
theorem Ord.path(O:Ord n hm g):∀(m j i:Nat)(z:Int),j < n->i < n->g j=some z->Ac n (hm z) i+m+1=Ac n (hm z) j->∃ x,g i=some x/\ahead n hm i x z
 | 0,j,i,z,hj,hi,hz,e=>by
   have a:0 < Ac n (hm z) j:=by lia
   obtain⟨x,b,c⟩:=O.ord j z hj hz a
   have:=qk8 (O.home z) hj a
   have f:i=prev n j:=qj1 (O.home z) hi (qn6 hj) (by lia);rw[f];exact⟨x,b,c⟩
 | m+1,j,i,z,hj,hi,hz,e=>by
   have a:0 < Ac n (hm z) j:=by lia
   obtain⟨x,b,c⟩:=O.ord j z hj hz a;have o:=qk8 (O.home z) hj a;have d:=qn6 hj;have h:Ac n (hm z) (prev n j)<=Ac n (hm x) (prev n j):=by unfold ahead at c;lia
   have p:=qaq0 (O.home z) (O.home x) d hi (by lia) h;obtain⟨y,k,l⟩:=O.path m (prev n j) i x d hi b (by lia);refine⟨y,k,qD6 l ?_⟩;unfold ahead at *;lia
theorem Ord.path'(O:Ord n hm g)(a:j < n)(hi:i < n)(b:g j=some z)(h:Ac n (hm z) i < Ac n (hm z) j):∃ x,g i=some x/\ahead n hm i x z :=
 O.path (Ac n (hm z) j - Ac n (hm z) i - 1) j i z a hi b (by lia)
def Fb(n:Nat)(hm:Int->Nat)(g:Nat->Option Int)(s:Nat):Prop:=∀ j z,j < n->g j=some z->Ac n (hm z) j<=Ac n (hm z) s
theorem Ord.zero(O:Ord n hm g)(C:Il n hm g):∃ s,s < n/\Fb n hm g s:=by
 obtain⟨i,b,h⟩:=C;have l:=qn6 b;refine⟨prev n i,l,λ j z c k=>zCb λ m=>?_⟩;have a:=O.home z;by_cases d:Ac n (hm z) i=0
 . have e:=(qh5 a b).mp d
   have:=qj7 c a
   have e2:Ac n (hm z) (prev n i)=n - 1:=by
     unfold Ac prev at *
     split<;>split<;>lia
   lia
 have q:=qk8 a b (by lia);by_cases f:Ac n (hm z) i=Ac n (hm z) j
 . have e:i=j:=qj1 a b c f
   subst e
   have:=h z k
   rw[this,(qh5 b b).mpr rfl] at d;exact d rfl
 obtain⟨x,o,p⟩:=O.path' c b k (by lia);have e:=h x o
 have:Ac n (hm x) i=0:=(qh5 (O.home x) b).mpr e.symm
 unfold ahead at p;lia
theorem qV5{α:Type}[DecidableEq α](x:α):∀(S:List α),S.Nodup->S.length<=(S.filter (λ y=>decide (y≠x))).length+1
 | [],_=>by simp
 | a::S,h=>by
   have b:=zCn.mp h;by_cases e:a=x
   . subst e
     have:S.filter (λ y=>decide (y≠a))=S:=List.filter_eq_self.mpr λ y c=>by
       simp only[ne_eq,zBp];intro z;subst z;exact b.1 c
     rw[K9 (by simp),this];simp
   rw[La (by simpa using e)]
   have:=qV5 x S b.2
   simp only[zAm];lia
theorem qp7{α:Type}[DecidableEq α](x:α):∀(S:List α),x∈S->(S.filter (λ y=>decide (y≠x))).length+1<=S.length
 | [],h=>by simp at h
 | a::S,h=>by
   by_cases e:a=x
   . rw[K9 (by simp[e])]
     have:=Ky (λ y=>decide (y≠x)) S
     simp only[zAm];lia
   rw[La (by simpa using e)]
   have:=qp7 x S (by rcases zAi.mp h with z | z;exact absurd z.symm e;exact z)
   simp only[zAm];lia
theorem qI6{g:Nat->Option Int}:∀(L:List Nat)(S:List Int),S.Nodup->(∀ k∈S,∃ i∈L,g i=some k)->S.length<=L.length
 | [],S,_,h=>by
   cases S with
   | nil=>simp
   | cons k _=>obtain⟨i,f,_⟩:=h k (by simp);simp at f
 | i::L,S,hn,h=>by
   cases d:g i with
   | none =>
     have:=qI6 L S hn λ k a=>by
       obtain⟨j,c,e⟩:=h k a;rcases zAi.mp c with z | z
       . rw[z,d] at e;cases e
       exact⟨j,z,e⟩
     simp only[zAm];lia
   | some x =>
     have m:=qI6 L (S.filter (λ y=>decide (y≠x))) (hn.filter _) λ k a=>by
       obtain⟨a,b⟩:=zB6.mp a;obtain⟨j,c,e⟩:=h k a;rcases zAi.mp c with z | z
       . rw[z,d] at e
         have l:x=k:=Nj e;rw[l] at b;simp at b
       exact⟨j,z,e⟩
     have n:=qV5 x S hn;simp only[zAm];lia
theorem qT6{g:Nat->Option Int}:∀(L:List Nat)(S:List Int),L.Nodup->(∀ i∈L,∃ k∈S,g i=some k)->(∀ i∈L,∀ j∈L,∀ k,g i=some k->g j=some k->i=j)->L.length<=S.length
 | [],S,_,_,_=>by simp
 | i::L,S,c,h,inj=>by
   obtain⟨x,f,l⟩:=h i (by simp);have c:=zCn.mp c;have p:=qT6 L (S.filter (λ y=>decide (y≠x))) c.2 (λ j d=>by
     obtain⟨k,m,e⟩:=h j (zA6 _ d);refine⟨k,zB6.mpr ⟨m,?_⟩,e⟩;simp only[ne_eq,zBp];intro z;subst z
     have:=inj i (by simp) j (zA6 _ d) k l e
     exact c.1 (this ▸ d)) λ a n b o=>inj a (zA6 _ n) b (zA6 _ o)
   have q:=qp7 x S f;simp only[zAm];lia
def Holds(n:Nat)(g:Nat->Option Int)(S:List Int):Prop:=S.Nodup/\∀ k,k∈S↔∃ i,i < n/\g i=some k
theorem qak2(O:Ord n hm g)(O':Ord n hm g')(C':Il n hm g')(J:Holds n g S)(w:Holds n g' S)(p:s < n)(Z:Fb n hm g s):Fb n hm g' s:=by
 obtain⟨K,F,Z'⟩:=O'.zero C';intro j z B q;refine zCb λ v=>?_
 have R:∀ m,(∃ t,t < n/\Ac n t s<=m/\Fb n hm g' t)->∃ t,t < n/\Fb n hm g' t/\∀ u,u < n->Ac n u s < Ac n t s->¬ Fb n hm g' u:=by
   intro m
   induction m with
   | zero =>
     rintro⟨t,l,T,q⟩;exact⟨t,l,q,λ u _ h=>absurd h (by lia)⟩
   | succ m U =>
     rintro⟨t,l,T,q⟩;by_cases L:∃ u,u < n/\Ac n u s<=m/\Fb n hm g' u
     . exact U L
     exact⟨t,l,q,λ u V h W=>L ⟨u,V,by lia,W⟩⟩
 obtain⟨t,l,Zt,near⟩:=R (Ac n K s) ⟨K,F,zA3 _,Z'⟩
 let d:Nat->Bool:=λ r=>decide (Ac n r s < Ac n t s)
 have arcOf:∀ r,d r=true↔Ac n r s < Ac n t s:=λ r=>decide_eq_true_iff
 have o:=O'.home z;have M:=Zt j z B q;have Dz:Ac n (hm z) s < Ac n t s:=by
   have G:=Hl o p l (zAg v M);have e2:=qj7 l o;lia
 have Dj:¬ Ac n j s < Ac n t s:=by
   have G:=Hl o p l (zAg v M);have e2:=Hl o p B v;lia
 have X:z∈S.filter (λ k=>d (hm k)):=zB6.mpr ⟨(w.2 z).mpr ⟨j,B,q⟩,(arcOf _).mpr Dz⟩;have p1:(S.filter (λ k=>d (hm k))).length<=((Ku n).filter d).length:=by
   refine qI6 (g:=g) _ _ (J.1.filter _) λ k H=>?_
   obtain⟨H,N⟩:=zB6.mp H;obtain⟨i,c,P⟩:=(J.2 k).mp H;have N:=(arcOf _).mp N;have Y:=Z i k c P;have f:=O.home k;refine⟨i,zB6.mpr ⟨zAn.mpr c,(arcOf _).mpr ?_⟩,P⟩;have G:=Dr f c p Y;lia
 have p2:((Ku n).filter d).length<=((S.filter (λ k=>d (hm k))).filter (λ y=>decide (y≠z))).length:=by
   refine qT6 (g:=g') _ _ (List.nodup_range.filter _) (λ i c=>?_) λ a ha b hb k=>O'.inj a b k (zAn.mp (zB6.mp ha).1) (zAn.mp (zB6.mp hb).1)
   obtain⟨c,C⟩:=zB6.mp c;have c:=zAn.mp c;have C:=(arcOf _).mp C;have nz:=near i c C;obtain⟨k,D⟩:∃ k,g' i=some k:=by
     cases e:g' i with
     | some k=>exact⟨k,rfl⟩
     | none =>
       refine absurd (λ j' y I hy=>zCb λ A=>?_) nz;obtain⟨x,Q,_⟩:=O'.path' I c hy A;rw[e] at Q;cases Q
   have ki:=Zt i k c D;have f:=O'.home k;refine⟨k,zB6.mpr ⟨zB6.mpr ⟨(w.2 k).mpr ⟨i,c,D⟩,(arcOf _).mpr ?_⟩,?_⟩,D⟩
   . have l1:=qj7 l f
     rcases Nat.lt_or_ge (Ac n (hm k) s) (Ac n (hm k) t) with E | E
     . have:=Hl f p l E
       lia
     have G:=Dr f l p E;have e2:=Dr f c p (zAk ki E);lia
   simp only[ne_eq,zBp];intro e;subst e
   have:=O'.inj i j k c B D q
   subst this;exact Dj C
 have p3:=qp7 z _ X;lia
theorem qaj8(O:Ord n hm g)(O':Ord n hm g')(z:Holds n g S)(l:Holds n g' S)(t:s < n)(Z:Fb n hm g s)(Z':Fb n hm g' s)(c:j < n)(A:∀ i,i < n->Ac n (next n s) i < Ac n (next n s) j->g i=g' i)(m:g j=some x):g' j=some x:=by
 have a:=qT8 t;have pos:∀{f:Nat->Option Int},Fb n hm f s->∀{i k},i < n->f i=some k->Ac n (next n s) (hm k)<=Ac n (next n s) i:=λ{f} Zf {i k} h D=>by
   have u:=Zf i k h D;have b:=O.home k;have P:=qaY2 t;have Q:=qj7 b a;have E:=Dr a b t (by lia);refine zCb λ F=>?_
   have e2:=Hl a h b F;lia
 have o:∀{i k},i < n->Ac n (next n s) (hm k)<=Ac n (next n s) j->Ac n (next n s) j < Ac n (next n s) i->Ac n (hm k) j < Ac n (hm k) i:=λ{i k} h u G=>by
   have b:=O.home k;have E:=Dr a b c u;have e2:=Dr a b h (zAk u (zBa G));lia
 obtain⟨p,d,q⟩:=(l.2 x).mp ((z.2 x).mpr ⟨j,c,m⟩);have H:=pos Z c m;by_cases I:Ac n (next n s) p < Ac n (next n s) j
 . have e:=A p d I
   rw[q] at e
   have:=O.inj p j x d c e m
   subst this;exact q
 by_cases J:Ac n (next n s) p=Ac n (next n s) j
 . have e:=qj1 a d c J
   subst e;exact q
 exfalso;obtain⟨y,v,B⟩:=O'.path' d c q (o d H (by lia));obtain⟨i,h,r⟩:=(z.2 y).mp ((l.2 y).mpr ⟨j,c,v⟩);have K:=pos Z' c v;by_cases L:Ac n (next n s) i < Ac n (next n s) j
 . have e:=A i h L
   rw[r] at e
   have:=O'.inj i j y h c e.symm v
   subst this;lia
 by_cases M:Ac n (next n s) i=Ac n (next n s) j
 . have e:=qj1 a h c M
   subst e;rw[m] at r;cases r;exact qar5 B
 obtain⟨w,C,N⟩:=O.path' h c r (o h K (by lia));rw[m] at C;cases C;exact qL9 B N
theorem qaA2(O:Ord n hm g)(O':Ord n hm g')(C:Il n hm g)(C':Il n hm g')(d:Holds n g S)(a:Holds n g' S):∀ j,j < n->g j=g' j:=by
 obtain⟨s,f,Z⟩:=O.zero C;have Z':=qak2 O O' C' d a f Z;have main:∀ m j,j < n->Ac n (next n s) j < m->g j=g' j:=by
   intro m
   induction m with
   | zero=>intro j _ h;exact absurd h (by lia)
   | succ m l =>
     intro j c p;have b:∀ i,i < n->Ac n (next n s) i < Ac n (next n s) j->g i=g' i:=λ i k h=>l i k (by lia)
     cases e:g j with
     | some x=>exact(qaj8 O O' d a f Z Z' c b e).symm
     | none =>
       cases o:g' j with
       | none=>rfl
       | some y =>
         have:=qaj8 O' O a d f Z' Z c (λ i k h=>(b i k h).symm) o
         rw[e] at this;cases this
 exact λ j c=>main _ j c (Nat.lt_succ_self _)
noncomputable def set(g:Nat->Option Int)(r:Nat)(c:Int):Nat->Option Int:=λ j=>if j=r then some c else g j
theorem qc0:set g r c r=some c:=by unfold set;rw[if_pos rfl]
theorem qd5(h:j≠r):set g r c j=g j:=by unfold set;rw[if_neg h]
structure Walk(n:Nat)(wr:Bool)(hm:Int->Nat)(T:List Int)(k:Int)(e:Nat)(g:Nat->Option Int)(c:Int)(r:Nat):Prop where
 o:Ord n hm g
 nin:∀ i,i < n->g i≠some c
 hr:r < n
 pth:∀ j,j < n->Ac n (hm c) j < Ac n (hm c) r->∃ x,g j=some x/\ahead n hm j x c
 he:e < n
 ge:g e=none
 lim:Ac n (hm k) r<=Ac n (hm k) e
 all:∀ x,x∈T↔(x=c∨∃ i,i < n/\g i=some x)
 ln:wr=false->hm k<=e/\hm c<=r/\∀ i x,i < n->g i=some x->hm x<=i
section
variable{n:Nat}{wr:Bool}{hm:Int->Nat}{T:List Int}{k:Int}{e:Nat}{g:Nat->Option Int}{c:Int}{r:Nat}
theorem Walk.lt(W:Walk n wr hm T k e g c r)(a:g r=some y):Ac n (hm k) r < Ac n (hm k) e:=by
 have b:=W.lim
 have:r≠e:=λ z=>by have:=W.ge;rw[<- z,a] at this;cases this
 have d:Ac n (hm k) r≠Ac n (hm k) e:=λ z=>this (qj1 (W.o.home k) W.hr W.he z)
 lia
theorem Walk.nx(W:Walk n wr hm T k e g c r)(a:g r=some y):Ac n (hm k) (next n r)=Ac n (hm k) r+1:=by
 have b:=W.lt a;have d:=qj7 W.he (W.o.home k);exact qG5 (W.o.home k) W.hr (by lia)
theorem way(a:hm x < n)(c:j < n)(b:e < n)(d:g e=none)(f:∀ i,i < n->Ac n (hm x) i<=Ac n (hm x) j->∃ y,g i=some y):Ac n (hm x) j+1 < n:=by
 have k:=qj7 c a;have l:=qj7 b a;by_cases h:Ac n (hm x) e<=Ac n (hm x) j
 . obtain⟨y,q⟩:=f e b h
   rw[d] at q;cases q
 lia
theorem Walk.on(W:Walk n wr hm T k e g c r)(a:g r=some y)(h:¬ ahead n hm r c y):Walk n wr hm T k e g c (next n r):=by
 have v:=W.nx a;have A:=W.lt a;have b:=W.o.home c;have l:c≠y:=λ z=>W.nin r W.hr (by rw[z];exact a)
 have w:Ac n (hm c) r+1 < n:=way (g:=g) b W.hr W.he W.ge λ i d m=>by
   by_cases q:Ac n (hm c) i=Ac n (hm c) r
   . rw[qj1 b d W.hr q];exact⟨y,a⟩
   obtain⟨x,p,_⟩:=W.pth i d (by lia);exact⟨x,p⟩
 have B:=qG5 b W.hr w;refine⟨W.o,W.nin,qT8 W.hr,λ j f m=>?_,W.he,W.ge,by lia,W.all,λ s=>?_⟩
 . by_cases q:Ac n (hm c) j=Ac n (hm c) r
   . rw[qj1 b f W.hr q];exact⟨y,a,qar4 l h⟩
   exact W.pth j f (by lia)
 obtain⟨t,C,u⟩:=W.ln s;refine⟨t,?_,u⟩;have D:=dor n (hm k) r;have E:=dor n (hm k) e;have F:=nor n r
 have:=W.hr
 have:=W.he
 have:=W.o.home k
 lia
theorem Walk.swap(W:Walk n wr hm T k e g c r)(l:g r=some y)(h:ahead n hm r c y):Walk n wr hm T k e (set g r c) y (next n r):=by
 have J:=W.nx l;have K:=W.lt l;have D:=W.o.home c;have m:=W.o.home y;have E:c≠y:=λ z=>W.nin r W.hr (by rw[z];exact l)
 have F:e≠r:=λ z=>by have:=W.ge;rw[z,l] at this;cases this
 have w:Ac n (hm y) r+1 < n:=way (g:=g) m W.hr W.he W.ge λ i f u=>by
   by_cases q:Ac n (hm y) i=Ac n (hm y) r
   . rw[qj1 m f W.hr q];exact⟨y,l⟩
   obtain⟨x,s,_⟩:=W.o.path' W.hr f l (by lia);exact⟨x,s⟩
 have L:=qG5 m W.hr w;refine⟨⟨W.o.home,λ i j x f t a p=>?_,λ i x f a u=>?_⟩,λ i f a=>?_,qT8 W.hr,λ j t u=>?_,W.he,by rw[qd5 F];exact W.ge,by lia,λ x=>?_,λ G=>?_⟩
 . by_cases b:i=r
   . by_cases e2:j=r
     . rw[b,e2]
     rw[b,qc0] at a;rw[qd5 e2] at p;cases a;exact absurd p (W.nin j t)
   rw[qd5 b] at a;by_cases e2:j=r
   . rw[e2,qc0] at p
     cases p;exact absurd a (W.nin i f)
   rw[qd5 e2] at p;exact W.o.inj i j x f t a p
 . have H:=qn6 f
   by_cases b:i=r
   . subst b
     rw[qc0] at a;cases a;have d:=qk8 D f u;obtain⟨x,s,A⟩:=W.pth (prev n i) H (by lia)
     have:prev n i≠i:=λ z=>by rw[z] at d;lia
     exact⟨x,by rw[qd5 this];exact s,A⟩
   rw[qd5 b] at a;obtain⟨z,v,B⟩:=W.o.ord i x f a u;by_cases e2:prev n i=r
   . rw[e2] at v B ⊢
     rw[l] at v;cases v;exact⟨c,qc0,qD6 h B⟩
   exact⟨z,by rw[qd5 e2];exact v,B⟩
 . by_cases b:i=r
   . rw[b,qc0] at a
     exact E (Nj a)
   rw[qd5 b] at a;exact b (W.o.inj i r y f W.hr a l)
 . by_cases q:Ac n (hm y) j=Ac n (hm y) r
   . rw[qj1 m t W.hr q];exact⟨c,qc0,h⟩
   obtain⟨x,s,A⟩:=W.o.path' W.hr t l (by lia)
   have:j≠r:=λ z=>q (by rw[z])
   exact⟨x,by rw[qd5 this];exact s,A⟩
 . rw[W.all x]
   constructor
   . rintro (z | ⟨i,f,a⟩)
     . exact .inr ⟨r,W.hr,by rw[z];exact qc0⟩
     by_cases b:i=r
     . rw[b,l] at a
       exact .inl (Nj a).symm
     exact .inr ⟨i,f,by rw[qd5 b];exact a⟩
   rintro (z | ⟨i,f,a⟩)
   . exact .inr ⟨r,W.hr,by rw[z];exact l⟩
   by_cases b:i=r
   . rw[b,qc0] at a
     exact .inl (Nj a).symm
   rw[qd5 b] at a;exact .inr ⟨i,f,a⟩
 obtain⟨I,M,C⟩:=W.ln G;have N:=C r y W.hr l;refine⟨I,?_,λ i x f a=>?_⟩
 . have O:=dor n (hm k) r
   have P:=dor n (hm k) e;have Q:=nor n r
   have:=W.hr
   have:=W.he
   have:=W.o.home k
   lia
 by_cases b:i=r
 . rw[b,qc0] at a
   cases a;lia
 rw[qd5 b] at a;exact C i x f a
structure Kept(n:Nat)(wr:Bool)(hm:Int->Nat)(g:Nat->Option Int)(S:List Int):Prop where
 o:Ord n hm g
 c:Il n hm g
 h:Holds n g S
 ln:wr=false->∀ i x,i < n->g i=some x->hm x<=i
theorem Walk.done(W:Walk n wr hm T k e g c r)(v:T.Nodup)(q:g r=none):Kept n wr hm (set g r c) T:=by
 have w:=W.o.home c;have h:=qT8 W.hr;refine⟨⟨W.o.home,λ i j x f t a l=>?_,λ i x f a p=>?_⟩,⟨next n r,h,λ x u=>?_⟩,⟨v,λ x=>?_⟩,λ y=>?_⟩
 . by_cases b:i=r
   . by_cases e2:j=r
     . rw[b,e2]
     rw[b,qc0] at a;rw[qd5 e2] at l;cases a;exact absurd l (W.nin j t)
   rw[qd5 b] at a;by_cases e2:j=r
   . rw[e2,qc0] at l
     cases l;exact absurd a (W.nin i f)
   rw[qd5 e2] at l;exact W.o.inj i j x f t a l
 . have A:=qn6 f
   by_cases b:i=r
   . subst b
     rw[qc0] at a;cases a;have d:=qk8 w f p;obtain⟨x,s,B⟩:=W.pth (prev n i) A (by lia)
     have:prev n i≠i:=λ z=>by rw[z] at d;lia
     exact⟨x,by rw[qd5 this];exact s,B⟩
   rw[qd5 b] at a;obtain⟨z,m,C⟩:=W.o.ord i x f a p;by_cases e2:prev n i=r
   . rw[e2,q] at m;cases m
   exact⟨z,by rw[qd5 e2];exact m,C⟩
 . have s:=W.o.home x
   by_cases b:next n r=r
   . have:=nor n r
     have:=W.hr
     lia
   rw[qd5 b] at u;by_cases p:0 < Ac n (hm x) (next n r)
   . obtain⟨z,m,_⟩:=W.o.ord _ x h u p
     rw[qam5 W.hr,q] at m;cases m
   exact((qh5 s h).mp (by lia)).symm
 . rw[W.all x]
   constructor
   . rintro (z | ⟨i,f,a⟩)
     . exact⟨r,W.hr,by rw[z];exact qc0⟩
     exact⟨i,f,by rw[qd5 (λ z=>by rw[z,q] at a;cases a)];exact a⟩
   rintro⟨i,f,a⟩;by_cases b:i=r
   . rw[b,qc0] at a
     exact .inl (Nj a).symm
   rw[qd5 b] at a;exact .inr ⟨i,f,a⟩
 obtain⟨E,F,D⟩:=W.ln y;intro i x f a;by_cases b:i=r
 . rw[b,qc0] at a
   cases a;lia
 rw[qd5 b] at a;exact D i x f a
def Free(n:Nat)(wr:Bool)(hm:Int->Nat)(g:Nat->Option Int)(k:Int)(e:Nat):Prop:=e < n/\g e=none/\(wr=false->hm k<=e)
theorem Kept.start(K:Kept n wr hm g S)(c:¬ k∈S)(F:Free n wr hm g k e):Walk n wr hm (S++[k]) k e g k (hm k):=by
 have a:=K.o.home k;have z:=(qh5 a a).mpr rfl;refine⟨K.o,λ i d f=>c ((K.h.2 k).mpr ⟨i,d,f⟩),a,λ j _ l=>by lia,F.1,F.2.1,by lia,λ x=>?_,λ b=>⟨F.2.2 b,zA3 _,K.ln b⟩⟩;rw[zAa,zAl,K.h.2 x];exact⟨Or.symm,Or.symm⟩
def Crowd(n:Nat)(wr:Bool)(hm:Int->Nat)(T:List Int)(q:Nat):Prop:=q < n/\if wr=true then q=0/\n < T.length else n - q < (T.filter (λ k=>decide (q<=hm k))).length
theorem qM8(h:i∈(Ku (n - q)).map (q + ·)):q<=i/\i < n:=by
 obtain⟨j,a,rfl⟩:=zB9.mp h
 have:=zAn.mp a
 lia
theorem qaB4(h:q<=i)(h':i < n):i∈(Ku (n - q)).map (q + ·):=zB9.mpr ⟨i - q,zAn.mpr (by lia),by lia⟩
theorem qab1:((Ku m).map (q + ·)).Nodup:=by
 rw[List.nodup_iff_pairwise_ne,zCp];exact(List.nodup_iff_pairwise_ne.mp Lq).imp λ h=>by lia
theorem Kept.no_crowd(K:Kept n wr hm g S)(q:Nat):¬ Crowd n wr hm S q:=by
 rintro⟨d,h⟩;cases wr with
 | true =>
   rw[if_pos rfl] at h
   have:=qI6 (g:=g) (Ku n) S K.h.1 λ k a=>by
     obtain⟨i,b,c⟩:=(K.h.2 k).mp a;exact⟨i,zAn.mpr b,c⟩
   rw[zB4] at this;lia
 | false =>
   rw[if_neg (by decide)] at h
   have:=qI6 (g:=g) ((Ku (n - q)).map (q + ·)) (S.filter (λ k=>decide (q<=hm k))) (K.h.1.filter _) λ k a=>by
     obtain⟨a,d⟩:=zB6.mp a;obtain⟨i,b,c⟩:=(K.h.2 k).mp a
     have:=K.ln rfl i k b c
     have d:=zAc d;exact⟨i,qaB4 (by lia) b,c⟩
   rw[zA8,zB4] at this;lia
theorem Kept.crowd(K:Kept n wr hm g S)(u:∀ e,¬ Free n wr hm g k e):∃ q,Crowd n wr hm (S++[k]) q:=by
 have v:=K.o.home k;have full:∀ e,e < n->(wr=false->hm k<=e)->∃ x,g e=some x:=λ e f s=>by
   cases h:g e with
   | some x=>exact⟨x,rfl⟩
   | none=>exact absurd ⟨f,h,s⟩ (u e)
 cases wr with
 | true =>
   refine⟨0,by lia,?_⟩;rw[if_pos rfl];refine⟨rfl,?_⟩
   have:=qT6 (g:=g) (Ku n) S Lq (λ i b=>by
     obtain⟨x,c⟩:=full i (zAn.mp b) (λ z=>by cases z);exact⟨x,(K.h.2 x).mpr ⟨i,zAn.mp b,c⟩,c⟩) λ i b j p x=>K.o.inj i j x (zAn.mp b) (zAn.mp p)
   rw[zB4] at this;rw[zAe];simp only[zAm,zC4];lia
 | false =>
   have w:∀ m,m<=hm k->(∀ e,m<=e->e < n->∃ x,g e=some x)->∃ q,q<=hm k/\(∀ e,q<=e->e < n->∃ x,g e=some x)/\(q=0∨g (q - 1)=none):=by
     intro m
     induction m with
     | zero=>exact λ d a=>⟨0,d,a,.inl rfl⟩
     | succ m A =>
       intro d a;cases h:g m with
       | none=>exact⟨m+1,d,a,.inr h⟩
       | some x =>
         refine A (by lia) λ e f r=>?_
         by_cases q:e=m
         . rw[q];exact⟨x,h⟩
         exact a e (by lia) r
   obtain⟨q,B,C,l⟩:=w (hm k) (zA3 _) λ e f r=>full e r λ _=>f
   refine⟨q,by lia,?_⟩;rw[if_neg (by decide)]
   have:=qT6 (g:=g) ((Ku (n - q)).map (q + ·)) (S.filter (λ k=>decide (q<=hm k))) qab1 (λ i b=>by
     obtain⟨d,a⟩:=qM8 b;obtain⟨x,c⟩:=C i d a;refine⟨x,zB6.mpr ⟨(K.h.2 x).mpr ⟨i,a,c⟩,zAb ?_⟩,c⟩;have D:=K.o.home x;have s:=K.ln rfl i x a c;refine zCb λ E=>?_
     rcases l with l | l
     . lia
     obtain⟨y,t,_⟩:=K.o.path' (i:=q - 1) a (by lia) c (by
       have G:=dor n (hm x) (q - 1);have H:=dor n (hm x) i
       lia)
     rw[l] at t;cases t) λ i b j p x=>K.o.inj i j x (qM8 b).2 (qM8 p).2
   rw[zA8,zB4] at this;have F:([k].filter (λ k=>decide (q<=hm k))).length=1:=by simp[B]
   rw[Lj,zAe,F];lia
theorem Crowd.mono(h:Crowd n wr hm S q)(a:S.Sublist T):Crowd n wr hm T q:=by
 obtain⟨b,h⟩:=h;refine⟨b,?_⟩;cases wr with
 | true =>
   rw[if_pos rfl] at h ⊢
   have:=a.length_le
   exact⟨h.1,by lia⟩
 | false =>
   rw[if_neg (by decide)] at h ⊢
   have:=(a.filter (λ k=>decide (q<=hm k))).length_le
   lia
theorem Crowd.perm(h:Crowd n wr hm S q)(a:S.Perm T):Crowd n wr hm T q:=by
 obtain⟨b,h⟩:=h;refine⟨b,?_⟩;rw[<- a.length_eq,<- (a.filter _).length_eq];exact h
theorem Kept.none(a:0 < n)(b:∀ k,hm k < n):Kept n wr hm (λ _=>none) [] :=
 ⟨⟨b,(λ _ _ _ _ _ h=>by cases h),λ _ _ _ h=>by cases h⟩,⟨0,a,λ _ h=>by cases h⟩,⟨Ms,λ k=>⟨λ h=>by simp at h,λ ⟨_,_,h⟩=>by cases h⟩⟩,λ _ _ _ _ h=>by cases h⟩
theorem Kept.same(K:Kept n wr hm g S)(K':Kept n wr hm g' S')(a:∀ k,k∈S↔k∈S'):∀ j,j < n->g j=g' j :=
 qaA2 K.o K'.o K.c K'.c K.h ⟨K.h.1,λ k=>(a k).trans (K'.h.2 k)⟩
end
noncomputable def rot(n s t:Nat):Nat:=if s+t < n then s+t else s+t - n
theorem qaH9(a:s < n)(b:t < n):rot n s t < n:=by unfold rot;split<;>lia
theorem qR9(a:s < n)(b:t < n):Ac n s (rot n s t)=t:=by
 have d:=dor n s (rot n s t);unfold rot at d ⊢;split at d<;>split<;>lia
theorem qac9(a:s < n)(hi:i < n):rot n s (Ac n s i)=i:=by
 have d:=dor n s i;unfold rot
 split<;>lia
theorem qas5(a:s < n)(b:t < n):(s+t) % n=rot n s t:=by
 unfold rot;split
 . exact zCv (by assumption)
 rw[Nat.mod_eq_sub_mod (by lia)];exact zCv (by lia)
def Dv(hm:Int->Nat)(x y:Int):Prop:=hm x < hm y∨(hm x=hm y/\x < y)
structure Fill(n:Nat)(hm:Int->Nat)(g:Nat->Option Int)(S:List Int)(top:Nat):Prop where
 k:Kept n false hm g S
 free:∀ i,top<=i->i < n->g i=none
 last:0 < top->∃ x,g (top - 1)=some x/\x∈S
 le:top<=n
theorem Fill.start(a:0 < n)(b:∀ k,hm k < n):Fill n hm (λ _=>none) [] 0:=⟨Kept.none a b,λ _ _ _=>rfl,λ h=>absurd h (by lia),by lia⟩
section
variable{n:Nat}{hm:Int->Nat}{g:Nat->Option Int}{S:List Int}{top:Nat}{k:Int}
theorem Fill.put(F:Fill n hm g S top)(l:¬ k∈S)(C:∀ x∈S,Dv hm x k)(m:max top (hm k) < n):Fill n hm (set g (max top (hm k)) k) (S++[k]) (max top (hm k)+1):=by
 generalize J:max top (hm k)=r at m ⊢;have p:top<=r:=by lia
 have q:hm k<=r:=by lia
 have D:g r=none:=F.free r p m;have below:∀ i x,i < n->g i=some x->i < top:=λ i x b a=>by
   by_cases h:top<=i
   . rw[F.free i h b] at a;cases a
   lia
 have s:∀ i x,i < n->set g r k i=some x->hm x<=i:=λ i x b a=>by
   by_cases e:i=r
   . subst e;rw[qc0] at a;cases a;exact q
   rw[qd5 e] at a;exact F.k.ln rfl i x b a
 have mem:∀ i x,i < n->g i=some x->x∈S:=λ i x b a=>(F.k.h.2 x).mpr ⟨i,b,a⟩
 refine⟨⟨⟨F.k.o.home,λ i j x b z a d=>?_,λ i x b a t=>?_⟩,⟨0,by lia,λ x E=>?_⟩,⟨?_,λ x=>⟨λ c=>?_,λ ⟨i,b,a⟩=>?_⟩⟩,λ _ i x b a=>s i x b a⟩,λ i b G=>?_,λ _=>⟨k,by rw[Nat.add_sub_cancel,qc0],zAy _ (zAl.mpr rfl)⟩,by lia⟩
 . by_cases u:i=r
   . by_cases e2:j=r
     . rw[u,e2]
     subst u;rw[qc0] at a;cases a;rw[qd5 e2] at d;exact absurd (mem j _ z d) l
   rw[qd5 u] at a;by_cases e2:j=r
   . subst e2;rw[qc0] at d;cases d
     exact absurd (mem i _ b a) l
   rw[qd5 e2] at d;exact F.k.o.inj i j x b z a d
 . have c:=s i x b a
   have K:i≠0:=λ e=>by
     have:=(qh5 (F.k.o.home x) b).mpr (by lia)
     lia
   have A:prev n i=i - 1:=by rcases por n i with h | h<;>lia
   by_cases e:i=r
   . subst e
     rw[qc0] at a;cases a;have H:hm k < i:=by
       unfold Ac at t;split at t<;>lia
     have B:top=i:=by lia
     obtain⟨y,f,v⟩:=F.last (by lia);have w:hm y<=i - 1:=F.k.ln rfl (i - 1) y (by lia) (by rw[<- B];exact f);refine⟨y,by rw[A,qd5 (by lia),<- B];exact f,?_⟩;rw[A];unfold ahead Ac;rw[if_pos (by lia),if_pos w];rcases C y v with h | h
     . exact .inl (by lia)
     exact .inr ⟨by lia,h.2⟩
   rw[qd5 e] at a;have L:=below i x b a;obtain⟨y,f,I⟩:=F.k.o.ord i x b a t;exact⟨y,by rw[qd5 (by lia)];exact f,I⟩
 . have:=s 0 x (by lia) E
   lia
 . refine zBv.mpr ⟨F.k.h.1,(by simp),λ x c y v e=>?_⟩
   rw[zAl.mp v] at e;exact l (e ▸ c)
 . rcases zAa.mp c with c | c
   . obtain⟨i,b,a⟩:=(F.k.h.2 x).mp c
     exact⟨i,b,by rw[qd5 λ e=>by rw[e,D] at a;cases a];exact a⟩
   rw[zAl.mp c];exact⟨r,m,qc0⟩
 . by_cases e:i=r
   . subst e;rw[qc0] at a;cases a
     exact zAy _ (zAl.mpr rfl)
   rw[qd5 e] at a;exact Kz _ (mem i x b a)
 rw[qd5 (by lia)];exact F.free i (by lia) G
theorem Fill.room(F:Fill n hm g S top)(i:∀ x∈S,Dv hm x k)(j:∀ q,¬ Crowd n false hm (S++[k]) q):max top (hm k) < n:=by
 have u:=F.k.o.home k;have l:=F.le;by_cases h:top < n
 . lia
 have v:top=n:=by lia
 obtain⟨q,c⟩:=F.k.crowd (k:=k) λ e ⟨m,b,a⟩=>by
   have a:=a rfl;obtain⟨y,d,p⟩:=F.last (by lia);have f:=F.k.ln rfl (top - 1) y (by lia) d;have r:hm y<=hm k:=by rcases i y p with h | h<;>lia
   by_cases s:e=top - 1
   . rw[s,d] at b;cases b
   obtain⟨x,t,_⟩:=F.k.o.path' (by lia) m d (show Ac n (hm y) e < Ac n (hm y) (top - 1) by unfold Ac;rw[if_pos (by lia),if_pos f];lia);rw[t] at b;cases b
 exact absurd c (j q)
end
noncomputable def Fc(hm:Int->Nat)(T:List Int)(r:Nat):Nat:=(T.filter λ k=>decide (hm k=r)).length
noncomputable def Et(hm:Int->Nat)(T:List Int)(q r:Nat):Nat:=(T.filter λ k=>decide (q<=hm k/\hm k < r)).length
theorem qW6{hm:Int->Nat}{q r:Nat}(h:q<=r):∀ T:List Int,Et hm T q (r+1)=Et hm T q r+Fc hm T r
 | []=>rfl
 | k::T=>by
   have a:=qW6 (hm:=hm) h T;unfold Et Fc at a ⊢;simp only[K4,zBp]
   split<;>split<;>split<;>(try simp only[zAm])<;>lia
theorem qaq6(T:List Int):Et hm T r r=0:=by
 unfold Et;rw[List.length_eq_zero_iff,List.filter_eq_nil_iff];intro k _ h
 have:=zAc h
 lia
noncomputable def onC(c:Nat->Nat):Nat->Int
 | 0=>0
 | r+1=>if onC c r+(c r:Int) - 1 > 0 then onC c r+(c r:Int) - 1 else 0
noncomputable def sumC(c:Nat->Nat)(q:Nat):Nat->Nat
 | 0=>0
 | m+1=>sumC c q m+c (q+m)
section
variable{c:Nat->Nat}
theorem qI9:∀ r:Nat,0<=onC c r
 | 0=>Int.le_refl _
 | r+1=>by unfold onC;split<;>lia
theorem qaA4{q:Nat}:∀ m:Nat,(sumC c q m:Int) - (m:Int)<=onC c (q+m)
 | 0=>by have:=qI9 (c:=c) q;show ((0:Nat):Int) - _<=_;rw[Nat.add_zero];lia
 | m+1=>by
   have:=qaA4 (q:=q) m
   show ((sumC c q m+c (q+m):Nat):Int) - _<=onC c (q+m+1);unfold onC
   split<;>lia
theorem qaA5:∀ r:Nat,onC c r=0∨∃ q m,q+m=r/\0 < m/\onC c r=(sumC c q m:Int) - (m:Int)
 | 0=>.inl rfl
 | r+1=>by
   by_cases h:onC c r+(c r:Int) - 1 > 0
   . right
     have e:onC c (r+1)=onC c r+(c r:Int) - 1:=if_pos h;rcases qaA5 r with b | ⟨q,m,a,d,f⟩
     . exact⟨r,1,rfl,by lia,by rw[e];show _=((0+c (r+0):Nat):Int) - _;rw[Nat.add_zero];lia⟩
     exact⟨q,m+1,by lia,by lia,by rw[e];show _=((sumC c q m+c (q+m):Nat):Int) - _;rw[a];lia⟩
   exact .inl (if_neg h)
theorem qab5{q m:Nat}:∀ l:Nat,sumC c q (m+l)=sumC c q m+sumC c (q+m) l
 | 0=>rfl
 | l+1=>by
   show sumC c q (m+l)+c (q+(m+l))=sumC c q m+(sumC c (q+m) l+c (q+m+l))
   rw[qab5 l,show q+(m+l)=q+m+l by lia];lia
end
section
variable{n b:Nat}{hm:Int->Nat}{T:List Int}
def cR(n:Nat)(hm:Int->Nat)(T:List Int):Nat->Nat:=λ t=>Fc hm T (t % n)
theorem qaY8:cR n hm T (n+t)=cR n hm T t:=by unfold cR;rw[Nat.add_mod_left]
theorem qas2{q:Nat}:∀ m,sumC (cR n hm T) (n+q) m=sumC (cR n hm T) q m
 | 0=>rfl
 | m+1=>by
   show sumC _ (n+q) m+cR n hm T (n+q+m)=_;rw[qas2 m,Nat.add_assoc,qaY8];rfl
theorem qD8{s q:Nat}(a:b < n)(c:s % n=b)(d:∀ k,hm k < n):∀ m,q+m<=n->sumC (cR n hm T) (s+q) m=Et (λ k=>Ac n b (hm k)) T q (q+m)
 | 0,_=>by rw[Nat.add_zero,qaq6];rfl
 | m+1,h=>by
   show sumC _ (s+q) m+cR n hm T (s+q+m)=_;rw[qD8 a c d m (by lia),show q+(m+1)=q+m+1 by lia,qW6 (by lia)];congr 1;unfold cR Fc;congr 1;refine Ln λ k _=>zCd.mpr ?_
   have e:(s+q+m) % n=rot n b (q+m):=by rw[Nat.add_assoc,Nat.add_mod,c,zCv (show q+m < n by lia),qas5 a (by lia)]
   rw[e];constructor
   . intro z;show Ac n b (hm k)=_;rw[z,qR9 a (by lia)]
   intro z;rw[<- show Ac n b (hm k)=_ from z,qac9 a (d k)]
theorem qaE6(a:∀ k,hm k < n):Et hm T 0 n=T.length:=by
 unfold Et;rw[List.filter_eq_self.mpr λ k _=>zAb ⟨zBh _,a k⟩]
theorem qaG8(a:0 < n)(c:∀ k,hm k < n):sumC (cR n hm T) 0 n=T.length:=by
 have:=qD8 (T:=T) (s:=0) (q:=0) (b:=0) a (Nat.zero_mod n) c n (by lia)
 rw[Nat.add_zero,zA9] at this;rw[this];refine(qaE6 (hm:=λ k=>Ac n 0 (hm k)) λ k=>qj7 (c k) a)
theorem qam9(f:0 < n)(a:∀ k,hm k < n):0 < onC (cR n hm T) n↔∃ q,Crowd n false hm T q:=by
 have e:∀ q,q<=n->sumC (cR n hm T) q (n - q)=(T.filter λ k=>decide (q<=hm k)).length:=λ q d=>by
   have:=qD8 (T:=T) (s:=0) (q:=q) (b:=0) f (Nat.zero_mod n) a (n - q) (by lia)
   rw[zA9,show q+(n - q)=n by lia] at this;rw[this];unfold Et;congr 2;exact funext λ k=>zCd.mpr (by have:=a k;have i:Ac n 0 (hm k)=hm k:=if_pos (zBh _);dsimp only;lia)
 constructor
 . intro h
   rcases qaA5 (c:=cR n hm T) n with j | ⟨q,m,d,g,l⟩
   . lia
   refine⟨q,by lia,?_⟩;rw[if_neg (by decide),<- e q (by lia),show n - q=m by lia];lia
 rintro⟨q,d,h⟩;rw[if_neg (by decide),<- e q (by lia)] at h
 have:=qaA4 (c:=cR n hm T) (q:=q) (n - q)
 rw[show q+(n - q)=n by lia] at this;lia
theorem qaA3(i:0 < n)(j:∀ k,hm k < n)(w:T.length<=n):∃ r,r < n/\onC (cR n hm T) (n+r+1)=0:=by
 by_cases h:∃ r,r < n/\onC (cR n hm T) (n+r+1)=0
 . exact h
 exfalso;have pos:∀ r,r < n->0 < onC (cR n hm T) (n+r+1):=λ r g=>by
   have:=qI9 (c:=cR n hm T) (n+r+1)
   have:onC (cR n hm T) (n+r+1)≠0:=λ e=>h ⟨r,g,e⟩
   lia
 have a:∀ r,r<=n->onC (cR n hm T) (n+r)=onC (cR n hm T) n+(sumC (cR n hm T) n r:Int) - (r:Int):=λ r=>by
   induction r with
   | zero=>intro _;show _=_+((0:Nat):Int) - _;rw[Nat.add_zero];lia
   | succ r l =>
     intro g;have d:=pos r (by lia);have x:=l (by lia);have e:onC (cR n hm T) (n+r+1)=if onC (cR n hm T) (n+r)+(cR n hm T (n+r):Int) - 1 > 0 then onC (cR n hm T) (n+r)+(cR n hm T (n+r):Int) - 1 else 0:=rfl
     show onC (cR n hm T) (n+r+1)=_+((sumC (cR n hm T) n r+cR n hm T (n+r):Nat):Int) - _;rw[e] at d ⊢;split at d
     . rw[if_pos (by assumption)];lia
     lia
 have sa:=qaG8 (T:=T) i j;have b:∀ m,sumC (cR n hm T) n m=sumC (cR n hm T) 0 m:=λ m=>qas2 (q:=0) m
 have e2:=a n (zA3 _);have o:=pos (n - 1) (by lia);rw[show n+(n - 1)+1=n+n by lia] at o;rw[b] at e2;rcases qaA5 (c:=cR n hm T) n with y | ⟨q,m,p,s,d⟩
 . lia
 have t:=a q (by lia);rw[b] at t;have u:=qab5 (c:=cR n hm T) (q:=0) (m:=q) m;rw[zA9,p] at u;by_cases f:q=0
 . subst f
   have:sumC (cR n hm T) 0 0=0:=rfl
   lia
 have v:=pos (q - 1) (by lia);rw[show n+(q - 1)+1=n+q by lia] at v;lia
theorem qJ4(f:r < n)(a:∀ k,hm k < n)(d:onC (cR n hm T) (n+r+1)=0):∀ q,¬ Crowd n false (λ k=>Ac n ((r+1) % n) (hm k)) T q:=by
 rintro q ⟨h,c⟩;have b:(r+1) % n < n:=Nat.mod_lt _ (by lia);rw[if_neg (by decide)] at c;have e:=qD8 (T:=T) (s:=r+1) (q:=q) b rfl a (n - q) (by lia);have g:=qaA4 (c:=cR n hm T) (q:=r+1+q) (n - q);rw[show r+1+q+(n - q)=n+r+1 by lia,d,e,show q+(n - q)=n by lia] at g;have e2:Et (λ k=>Ac n ((r+1) % n) (hm k)) T q n=(T.filter λ k=>decide (q<=Ac n ((r+1) % n) (hm k))).length:=by
   unfold Et;congr 2;exact funext λ k=>zCd.mpr (by have:=qj7 (a k) b;dsimp only;lia)
 have c:=e2 ▸ c;generalize Et _ T q n=m at *
 lia
theorem Kept.turn(c:b < n)(p:∀ k,hm k < n)(K:Kept n false (λ k=>Ac n b (hm k)) g S):Kept n true hm (λ i=>g (Ac n b i)) S:=by
 have f:∀ i,i < n->Ac n b i < n:=λ i a=>qj7 a c
 have l:∀ i x,i < n->g (Ac n b i)=some x->Ac n b (hm x)+Ac n (hm x) i=Ac n b i:=λ i x a d=>Dr c (p x) a (K.ln rfl _ x (f i a) d)
 refine⟨⟨p,λ i j x a m d u=>qj1 c a m (K.o.inj _ _ x (f i a) (f j m) d u),λ i x a d v=>?_⟩,⟨b,c,λ x w=>?_⟩,⟨K.h.1,λ x=>⟨λ A=>?_,λ ⟨i,a,d⟩=>(K.h.2 x).mpr ⟨_,f i a,d⟩⟩⟩,λ h=>nomatch h⟩
 . have f1:=l i x a d
   have q:=K.ln rfl _ x (f i a) d;have B:Ac n (Ac n b (hm x)) (Ac n b i)=Ac n (hm x) i:=by
     unfold Ac at q ⊢;rw[if_pos q];unfold Ac at f1;lia
   obtain⟨y,r,s⟩:=K.o.ord _ x (f i a) d (by rw[B];exact v);have C:prev n (Ac n b i)=Ac n b (prev n i):=by
     rw[qk8 c a (by lia)];rcases por n (Ac n b i) with h | h<;>lia
   rw[C] at r s;have t:=qn6 a;have f2:=l (prev n i) y t r;have D:=K.ln rfl _ y (f _ t) r;have f3:Ac n b (hm x)+Ac n (hm x) (prev n i)=Ac n b (prev n i):=Dr c (p x) t (by rw[qk8 c a (by lia)];lia);refine⟨y,r,?_⟩;have E:Ac n (Ac n b (hm y)) (Ac n b (prev n i))=Ac n (hm y) (prev n i):=by
     have:Ac n (Ac n b (hm y)) (Ac n b (prev n i))=Ac n b (prev n i) - Ac n b (hm y):=if_pos D
     lia
   have F:Ac n (Ac n b (hm x)) (Ac n b (prev n i))=Ac n (hm x) (prev n i):=by
     have:Ac n (Ac n b (hm x)) (Ac n b (prev n i))=Ac n b (prev n i) - Ac n b (hm x):=if_pos (by lia)
     lia
   unfold ahead at s ⊢;rwa[E,F] at s
 . have q:=K.ln rfl _ x (f b c) w
   have z:Ac n b b=0:=(qh5 c c).mpr rfl;rw[z] at q;exact(qh5 c (p x)).mp (by lia)
 obtain⟨j,m,e⟩:=(K.h.2 x).mp A;exact⟨rot n b j,qaH9 c m,by show g (Ac n b (rot n b j))=_;rw[qR9 c m];exact e⟩
end
theorem Kept.of_perm(K:Kept n wr hm g S)(p:S.Perm T):Kept n wr hm g T:=⟨K.1,K.2,⟨p.nodup_iff.mp K.h.1,λ k=>p.mem_iff.symm.trans (K.h.2 k)⟩,K.4⟩
theorem G2:Ac n 0 i=i:=if_pos (zBh _)
theorem qaB1(b:a < n)(c:s<=n):((a:Int) - (s:Int)) % (n:Int)=(Ac n (s % n) a:Nat):=by
 by_cases e:s=n
 . subst e
   rw[Nat.mod_self,G2,Int.sub_emod_right];exact zCl (by lia) (by lia)
 rw[zCv (show s < n by lia)];unfold Ac;split
 . rw[zCl (by lia) (by lia)];lia
 rw[<- Int.add_emod_right,zCl (by lia) (by lia)];lia
end Row
namespace My
open PySem L2
noncomputable def bagL(x y z:Int)(L:γ):HO:=.l [.int x,.int y,.int z,.ref L]
structure BagAt(H:Hp)(p:γ)(x y z:Int)(L:γ)(ns:List Int):Prop where
 at_:H p=some (bagL x y z L)
 li:H L=some (.l (ns.map V.int))
 x0:0<=x
 y0:0<=y
 y1:y < 2147483647
 z0:0<=z
 nn:∀ n∈ns,0<=n
def Bag(H:Hp)(p L:γ):Prop:=∃ x y z ns,BagAt H p x y z L ns
theorem qaZ2{ns:List Int}:HO.l (ns.map V.int)≠bagL x y z L:=by
 intro e;have e:ns.map V.int=[.int x,.int y,.int z,.ref L]:=by injection e
 have e:=congrArg (·[3]?) e;rw[zBe] at e;cases h:ns[3]? <;> rw[h] at e<;>cases e
theorem BagAt.ne(B:BagAt H p x y z L ns):L≠p:=ne_of B.li B.at_ qaZ2
def qaS1(K:Nl):Sp:=λ vs H Q _=>∃(l:γ)(ns:List Int),vs=[.ref l]/\SqL K H l (ns.map V.int)/\ns.length<=63 /\
 ∀ p L H',H p=none->H L=none->Same H H'->Bag H' p L->Q (.ref p) H'
def G3(K:Nl):Sp:=λ vs H Q _=>∃(l:γ)(ns:List Int),vs=[.ref l]/\SqL K H l (ns.map V.int)/\ns.length<=63/\∀ H',Q (.bl true) H'
abbrev Pr:=List (Int×Int)
def Ap(n:Int):Prop:=0<=n/\n<=1000000000000000000
structure qM1(ps:Pr):Prop where
 len:ps.length<=64
 nd:(ps.map (·.1)).Nodup
 nums:∀ p∈ps,Ap p.1/\Ap p.2
noncomputable def qb3(n:Int)(ps:Pr)(k:Int):Int:=((ps.lookup k).getD k) % n
def A5(n:Int)(wr:Bool)(ps:Pr)(k r:Int):Option Int :=
 if wr then some ((r - qb3 n ps k) % n) else if 0<=r - qb3 n ps k then some (r - qb3 n ps k) else none
def qf2(n:Int)(wr:Bool)(ps:Pr)(r a other:Int):Bool :=
 match A5 n wr ps a r,A5 n wr ps other r with
 | none,_=>false
 | some _,none=>true
 | some x,some y=>decide (y < x)||(decide (x=y)&&decide (a < other))
theorem qah7(h:1<=n)(ps:Pr)(k:Int):0<=qb3 n ps k/\qb3 n ps k < n:=⟨zCk _ (by lia),zC0 _ (by lia)⟩
theorem qaC4(k:Int)(ks:List Int):inV (.int k) (ks.map V.int)=decide (k∈ks):=by
 unfold inV;rw[M4,Bool.eq_iff_iff,Mm,zBp];constructor
 . rintro⟨x,a,e⟩
   have e:(x == k)=true:=e;rw[<- zBz.mp e];exact a
 intro h;exact⟨k,h,zBc k⟩
end My
namespace My
open PySem L2
open Row
variable{n:Int}{ps:Pr}{r:Nat}
def Om(n:Int)(ps:Pr)(k:Int):Nat:=(qb3 n ps k).toNat
theorem Ex(h:1<=n)(k:Int):Om n ps k < n.toNat:=by
 have:=qah7 h ps k
 unfold Om;lia
theorem qK3(h:1<=n)(k:Int):((Om n ps k:Nat):Int)=qb3 n ps k:=by
 have:=qah7 h ps k
 unfold Om;lia
theorem qap9(a:1<=n)(b:h < n.toNat)(c:r < n.toNat):((r:Int) - (h:Int)) % n=(Ac n.toNat h r:Nat):=by
 rcases dor n.toNat h r with⟨h1,h2⟩ | ⟨h1,h2⟩
 . rw[zCl (by lia) (by lia)];lia
 have e:((r:Int) - (h:Int)) % n=((r:Int) - (h:Int)+n) % n:=by rw[Int.add_emod_right]
 rw[e,zCl (by lia) (by lia)]
 have:=h2 (by lia)
 lia
theorem qV7(a:1<=n)(c:r < n.toNat)(d:wr=false->Om n ps k<=r):A5 n wr ps k (r:Int)=some ((Ac n.toNat (Om n ps k) r:Nat):Int):=by
 have e:=Ex (ps:=ps) a k;have b:=qK3 (ps:=ps) a k;unfold A5;cases wr with
 | true=>rw[if_pos rfl,<- b,qap9 a e c]
 | false =>
   have:=d rfl
   rw[if_neg (by decide),if_pos (by lia),<- b]
   have:=dor n.toNat (Om n ps k) r
   congr 1;lia
theorem qw5(a:1<=n)(b:r < n.toNat)(c:wr=false->Om n ps x<=r)(d:wr=false->Om n ps y<=r):qf2 n wr ps (r:Int) x y=true↔ahead n.toNat (Om n ps) r x y:=by
 unfold qf2 ahead;rw[qV7 a b c,qV7 a b d];show (decide _||(decide _&&decide _))=true↔_;simp only[Bool.or_eq_true,zBo,zBp];lia
theorem qaA8(a:1<=n)(b:r < n.toNat):((r:Int)+1) % n=(Row.next n.toNat r:Nat):=by
 rcases nor n.toNat r with⟨h,e⟩ | ⟨h,e⟩
 . rw[e,show ((r:Int)+1)=n by lia];simp
 rw[e,zCl (by lia) (by lia)];rfl
end My
namespace LV
open PySem L2
variable{Ao:List γ}{N:List Str}{P:List V'->Prop}{Q:VK}{base:Heap}{cd:Kf}{cm z:Bool}{i j n:Nat}{kvs:List (Key×V)}{mg:Str->Option V'}{op:CmpOp}{pl:Sem Bool}{v w:V}{vs:List V}{α:Type}{a':St}
inductive D where
 | non | bl (b:Bool) | int (i:Int) | str (x:Str) | ty (n:String) | adr (a:γ)
 | q (ds:List D) | l (z:Bool) (ds:List D) | dct (z:Bool) (kvs:List (Key×D)) | ins (z:Bool) (C:γ) (fs:List (Str×D))
 | scr (ns:List Int)
 | exn (C:γ) (fs:List (Str×D))
 | hole (v:V) | u
mutual
def D.imm:D->Bool
 | .q ds=>D.imms ds
 | .l z _=>z
 | .dct z _=>z
 | .ins z _ _=>z
 | _=>true
def D.imms:List D->Bool
 | []=>true
 | d::r=>d.imm&&D.imms r
end
mutual
def D.fz:D->D
 | .q ds=>.q (D.fzs ds)
 | .l _ ds=>.l true (D.fzs ds)
 | .dct _ kvs=>.dct true (D.fzk kvs)
 | .ins _ C fs=>.ins true C (D.fzf fs)
 | .exn C fs=>.exn C (D.fzf fs)
 | .non=>.non | .bl b=>.bl b | .int i=>.int i | .str x=>.str x | .ty n=>.ty n | .adr a=>.adr a | .scr ns=>.scr ns | .hole v=>.hole v | .u=>.u
def D.fzs:List D->List D
 | []=>[]
 | d::r=>d.fz::D.fzs r
def D.fzk:List (Key×D)->List (Key×D)
 | []=>[]
 | (k,d)::r=>(k,d.fz)::D.fzk r
def D.fzf:List (Str×D)->List (Str×D)
 | []=>[]
 | (k,d)::r=>(k,d.fz)::D.fzf r
end
mutual
inductive Ou(F:γ->Prop)(H:Hp):V->D->List γ->Prop
 | non:Ou F H .non .non []
 | bl (b:Bool):Ou F H (.bl b) (.bl b) []
 | int (i:Int):Ou F H (.int i) (.int i) []
 | str (x:Str):Ou F H (.str x) (.str x) []
 | ty (n:String):Ou F H (.ty n) (.ty n) []
 | adr (a:γ):Ou F H (.ref a) (.adr a) []
 | q {a:γ} {vs:List V} {ds:List D} {A:List γ} (h:H a=some (.q vs)) (r:On F H vs ds A):Ou F H (.ref a) (.q ds) A
 | l {a:γ} {vs:List V} {ds:List D} {A:List γ} (h:H a=some (.l vs)) (r:On F H vs ds A):Ou F H (.ref a) (.l false ds) (a::A)
 | lstZ {a:γ} {vs:List V} {ds:List D} (h:H a=some (.l vs)) (f:F a) (r:On F H vs ds []):Ou F H (.ref a) (.l true ds) []
 | dct {a:γ} {kvs:List (Key×V)} {kds:List (Key×D)} {A:List γ} (h:H a=some (.dK kvs)) (e:kvs.map (·.1)=kds.map (·.1)) (r:On F H (kvs.map (·.2)) (kds.map (·.2)) A):Ou F H (.ref a) (.dct false kds) (a::A)
 | dctZ {a:γ} {kvs:List (Key×V)} {kds:List (Key×D)} (h:H a=some (.dK kvs)) (f:F a) (e:kvs.map (·.1)=kds.map (·.1)) (r:On F H (kvs.map (·.2)) (kds.map (·.2)) []):Ou F H (.ref a) (.dct true kds) []
 | ins {a C dx:γ} {fvs:List (Str×V)} {fds:List (Str×D)} {A:List γ} (h:H a=some (.ins C dx fvs)) (e:fvs.map (·.1)=fds.map (·.1)) (r:On F H (fvs.map (·.2)) (fds.map (·.2)) A):Ou F H (.ref a) (.ins false C fds) (a::A)
 | insZ {a C dx:γ} {fvs:List (Str×V)} {fds:List (Str×D)} (h:H a=some (.ins C dx fvs)) (f:F a) (e:fvs.map (·.1)=fds.map (·.1)) (r:On F H (fvs.map (·.2)) (fds.map (·.2)) []):Ou F H (.ref a) (.ins true C fds) []
 | scr {a:γ} {o:Obj} {ns:List Int} (h:H a=some (.frz o (.l (ns.map V.int)))):Ou F H (.ref a) (.scr ns) []
 | exn {a C dx:γ} {fvs:List (Str×V)} {fds:List (Str×D)} (h:H a=some (Ik a C (some dx) false)) (g:H dx=some (XD dx fvs)) (e:fvs.map (·.1)=fds.map (·.1)) (r:On F H (fvs.map (·.2)) (fds.map (·.2)) []):Ou F H (.ref a) (.exn C fds) []
 | hole (v:V):Ou F H v (.hole v) []
 | u (v:V):Ou F H v .u []
inductive On(F:γ->Prop)(H:Hp):List V->List D->List γ->Prop
 | nil:On F H [] [] []
 | cons {v:V} {d:D} {A:List γ} {vs:List V} {ds:List D} {B:List γ} (h:Ou F H v d A) (t:On F H vs ds B):On F H (v::vs) (d::ds) (A++B)
end
noncomputable def D9:HO->Bool
 | .l _=>true
 | .dK _=>true
 | .ins _ _ _=>true
 | _=>false
section
variable{F F':γ->Prop}{H H':Hp}
def Cel(H:Hp)(A:List γ):Prop:=∀ b∈A,∃ o,H b=some o/\D9 o=true
theorem Cel.cons(e:H a=some o)(m:D9 o=true)(h:Cel H A):Cel H (a::A):=λ b c=>(zAi.mp c).elim (λ q=>q ▸ ⟨_,e,m⟩) (h b)
theorem Cel.app(h:Cel H A)(g:Cel H B):Cel H (A++B):=λ b a=>(zAa.mp a).elim (h b) (g b)
theorem Ou.cells{v:V}{d:D}{A:List γ}(r:Ou F H v d A):Cel H A:=by
 induction r using Ou.rec (motive_2:=λ _ _ A _=>Cel H A) with
 | q e r i=>exact i
 | l e r i=>exact Cel.cons e rfl i
 | dct e _ r i=>exact Cel.cons e rfl i
 | ins e _ r i=>exact Cel.cons e rfl i
 | cons _ _ i j=>exact Cel.app i j
 | _=>nofun
theorem On.cells{vs:List V}{ds:List D}{A:List γ}(r:On F H vs ds A):Cel H A:=by
 induction r using On.rec (motive_1:=λ _ _ _ _=>True) with
 | cons h _ i j=>exact Cel.app h.cells j
 | nil=>nofun
 | _=>trivial
structure Kp(F:γ->Prop)(H:Hp)(W F':γ->Prop)(H':Hp):Prop where
 fr:∀ b o,H b=some o->¬ W b->H' b=some o
 wm:∀ b,W b->∃ o,H b=some o/\D9 o=true
 wf:∀ b,W b->¬ F b
 mF:∀ b,F b->F' b
theorem Kp.q(k:Kp F H W F' H')(h:H a=some (.q vs)):H' a=some (.q vs):=by
 refine k.fr a _ h λ w=>?_
 obtain⟨o,e,m⟩:=k.wm a w;rw[h] at e;cases e;cases m
theorem Kp.imm(k:Kp F H W F' H')(h:H a=some o)(n:D9 o=false):H' a=some o:=by
 refine k.fr a _ h λ w=>?_
 obtain⟨o,e,m⟩:=k.wm a w;rw[h] at e;cases e;rw[n] at m;cases m
theorem Kp.frz(k:Kp F H W F' H')(h:H a=some (.frz o u)):H' a=some (.frz o u):=by
 refine k.fr a _ h λ w=>?_
 obtain⟨o,e,m⟩:=k.wm a w;rw[h] at e;cases e;cases m
theorem Ou.keep{W:γ->Prop}(k:Kp F H W F' H'){v:V}{d:D}{A:List γ}(r:Ou F H v d A):(∀ b∈A,¬ W b)->Ou F' H' v d A:=by
 induction r using Ou.rec (motive_2:=λ a c A _=>(∀ b∈A,¬ W b)->On F' H' a c A) with
 | q e r i=>exact λ h=>.q (k.q e) (i h)
 | l e r i=>exact λ h=>.l (k.fr _ _ e (zB2.mp h).1) (i (zB2.mp h).2)
 | lstZ e f r i=>exact λ h=>.lstZ (k.fr _ _ e λ w=>k.wf _ w f) (k.mF _ f) (i h)
 | dct e q r i=>exact λ h=>.dct (k.fr _ _ e (zB2.mp h).1) q (i (zB2.mp h).2)
 | dctZ e f q r i=>exact λ h=>.dctZ (k.fr _ _ e λ w=>k.wf _ w f) (k.mF _ f) q (i h)
 | ins e q r i=>exact λ h=>.ins (k.fr _ _ e (zB2.mp h).1) q (i (zB2.mp h).2)
 | insZ e f q r i=>exact λ h=>.insZ (k.fr _ _ e λ w=>k.wf _ w f) (k.mF _ f) q (i h)
 | scr e=>exact λ _=>.scr (k.frz e)
 | exn e g q r i=>exact λ h=>.exn (k.imm e rfl) (k.imm g rfl) q (i h)
 | cons _ _ i j h=>exact On.cons (i (zBs.mp h).1) (j (zBs.mp h).2)
 | nil=>constructor
 | _=>intro;constructor
theorem On.keep{W:γ->Prop}(k:Kp F H W F' H'){vs:List V}{ds:List D}{A:List γ}(r:On F H vs ds A):(∀ b∈A,¬ W b)->On F' H' vs ds A:=by
 induction r using On.rec (motive_1:=λ _ _ _ _=>True) with
 | nil=>exact λ _=>On.nil
 | cons r _ i j=>exact λ h=>On.cons (r.keep k (zBs.mp h).1) (j (zBs.mp h).2)
 | _=>trivial
theorem Kp.same(s:Same H H'):Kp F H (λ _=>False) F H':=⟨λ b o e _=>s b o e,λ _ w=>w.elim,λ _ w=>w.elim,λ _ f=>f⟩
theorem Ou.same(r:Ou F H v d A)(s:Same H H'):Ou F H' v d A:=r.keep (Kp.same s) λ _ _=>id
theorem On.same(r:On F H vs ds A)(s:Same H H'):On F H' vs ds A:=r.keep (Kp.same s) λ _ _=>id
theorem Kp.more(m:∀ b,F b->F' b):Kp F H (λ _=>False) F' H:=⟨λ b o e _=>e,λ _ w=>w.elim,λ _ w=>w.elim,m⟩
mutual
theorem Ou.imm{v:V}{d:D}{A:List γ}(r:Ou F H v d A)(h:d.imm=true):A=[]:=by
 cases r with
 | q e r=>exact r.imms h
 | l=>cases h
 | dct=>cases h
 | ins=>cases h
 | _=>rfl
theorem On.imms{vs:List V}{ds:List D}{A:List γ}(r:On F H vs ds A)(h:D.imms ds=true):A=[]:=by
 cases r with
 | nil=>rfl
 | cons r t =>
   have h:=zAf.mp h;rw[r.imm h.1,t.imms h.2];rfl
end
theorem qV0(a:List (Key×D)):(D.fzk a).map (·.1)=a.map (·.1)/\(D.fzk a).map (·.2)=D.fzs (a.map (·.2)):=by
 induction a with
 | nil=>exact⟨rfl,rfl⟩
 | cons p r b=>obtain⟨k,d⟩:=p;simp only[D.fzk,D.fzs,zAx,b.1,b.2,and_self]
theorem qD2(a:List (Str×D)):(D.fzf a).map (·.1)=a.map (·.1)/\(D.fzf a).map (·.2)=D.fzs (a.map (·.2)):=by
 induction a with
 | nil=>exact⟨rfl,rfl⟩
 | cons p r b=>obtain⟨k,d⟩:=p;simp only[D.fzf,D.fzs,zAx,b.1,b.2,and_self]
theorem Ou.fz{v:V}{d:D}{A:List γ}(r:Ou F H v d A)(m:∀ b,F b->F' b):(∀ b∈A,F' b)->Ou F' H v d.fz []:=by
 induction r using Ou.rec (motive_2:=λ a c A _=>(∀ b∈A,F' b)->On F' H a (D.fzs c) []) with
 | q e r i=>exact λ h=>.q e (i h)
 | l e r i=>exact λ h=>.lstZ e (zB2.mp h).1 (i (zB2.mp h).2)
 | lstZ e f r i=>exact λ h=>.lstZ e (m _ f) (i h)
 | dct e q r i=>exact λ h=>.dctZ e (zB2.mp h).1 (q.trans (qV0 _).1.symm) ((qV0 _).2 ▸ i (zB2.mp h).2)
 | dctZ e f q r i=>exact λ h=>.dctZ e (m _ f) (q.trans (qV0 _).1.symm) ((qV0 _).2 ▸ i h)
 | ins e q r i=>exact λ h=>.insZ e (zB2.mp h).1 (q.trans (qD2 _).1.symm) ((qD2 _).2 ▸ i (zB2.mp h).2)
 | insZ e f q r i=>exact λ h=>.insZ e (m _ f) (q.trans (qD2 _).1.symm) ((qD2 _).2 ▸ i h)
 | scr e=>exact λ _=>.scr e
 | exn e g q r i=>exact λ h=>.exn e g (q.trans (qD2 _).1.symm) ((qD2 _).2 ▸ i h)
 | nil=>exact On.nil
 | cons _ _ i j h=>exact On.cons (A:=[]) (B:=[]) (i (zBs.mp h).1) (j (zBs.mp h).2)
 | _=>intro;constructor
end
theorem ec:∀{us:List V'},us.length=n+1->∃ a vs,us=a::vs/\vs.length=n
 | a::vs,h=>⟨a,vs,rfl,Nat.succ.inj h⟩
theorem ec0(h:P [])(us:List V')(e:us.length=0):P us:=List.length_eq_zero_iff.mp e ▸ h
theorem ec1(h:∀ x us,us.length=n->P (x::us))(us:List V')(e:us.length=n+1):P us:=by
 obtain⟨x,a,rfl,b⟩:=ec e;exact h x a b
theorem ec2(h:∀ us,us.length=n->P us)(us:List V')(e:us.length+1=n+1):P us:=h us (Nat.succ.inj e)
inductive Locs(F:γ->Prop)(H:Hp):List (Option V)->List D->List γ->Prop
 | nil:Locs F H [] [] []
 | no {a:List (Option V)} {ds:List D} {A:List γ} (t:Locs F H a ds A):Locs F H (none::a) (.u::ds) A
 | so {v:V} {d:D} {B:List γ} {a:List (Option V)} {ds:List D} {A:List γ} (h:Ou F H v d B) (t:Locs F H a ds A):Locs F H (some v::a) (d::ds) (B++A)
section
variable{F F':γ->Prop}{H H':Hp}
theorem Locs.cells{n:List (Option V)}(r:Locs F H n ds A):∀ b∈A,∃ o,H b=some o/\D9 o=true:=by
 induction r with
 | nil=>intro b h;cases h
 | no t c=>exact c
 | so h t c =>
   intro b a;rcases zAa.mp a with a | a
   . exact h.cells b a
   exact c b a
theorem Locs.keep(k:Kp F H W F' H'){n:List (Option V)}(r:Locs F H n ds A):(∀ b∈A,¬ W b)->Locs F' H' n ds A:=by
 induction r with
 | nil=>exact λ _=>.nil
 | no t a=>exact λ h=>.no (a h)
 | so h t a=>exact λ q=>.so (h.keep k λ b c=>q b (zAa.mpr (.inl c))) (a λ b c=>q b (zAa.mpr (.inr c)))
theorem Locs.same{n:List (Option V)}(r:Locs F H n ds A)(s:Same H H'):Locs F H' n ds A:=r.keep (Kp.same s) λ _ _=>id
theorem Locs.len{n:List (Option V)}(r:Locs F H n ds A):n.length=ds.length:=by
 induction r with
 | nil=>rfl
 | no t a=>simp[a]
 | so h t a=>simp[a]
theorem Locs.append{n:List (Option V)}(r:Locs F H n ds A)(t:Locs F H τ es B):Locs F H (n++τ) (ds++es) (A++B):=by
 induction r with
 | nil=>exact t
 | no _ a=>exact .no a
 | so h _ a=>rw[zAr];exact .so h a
inductive G4(F:γ->Prop)(H:Hp):Option V->D->List γ->Prop
 | no:G4 F H none .u []
 | so {v:V} {d:D} {B:List γ} (h:Ou F H v d B):G4 F H (some v) d B
theorem Locs.cons{n:List (Option V)}(h:G4 F H o d B)(t:Locs F H n ds A):Locs F H (o::n) (d::ds) (B++A):=by
 cases h with
 | no=>exact .no t
 | so h=>exact .so h t
theorem Locs.split:∀{ds:List D}{n:List (Option V)}{A:List γ}{i:Nat}{d:D},Locs F H n ds A->ds[i]? = some d ->
   ∃ σ1 o σ2 ds1 a A1 B A2,n=σ1++o::σ2/\ds=ds1++d::a/\σ1.length=i/\ds1.length=i/\A=A1++(B++A2)/\Locs F H σ1 ds1 A1/\G4 F H o d B/\Locs F H σ2 a A2:=by
 intro ds
 induction ds with
 | nil=>intro n A i d _ h;simp at h
 | cons e r m =>
   intro n A i d L h;cases i with
   | zero =>
     have:e=d:=by simpa using h
     subst this;cases L with
     | no t=>exact⟨[],none,_,[],_,[],[],_,rfl,rfl,rfl,rfl,rfl,.nil,.no,t⟩
     | so q t=>exact⟨[],some _,_,[],_,[],_,_,rfl,rfl,rfl,rfl,rfl,.nil,.so q,t⟩
   | succ i =>
     have h:r[i]? = some d:=by simpa using h
     cases L with
     | no t =>
       obtain⟨σ1,o,σ2,ds1,a,A1,B,A2,b,e2,c,f,g,j,k,l⟩:=m t h;exact⟨none::σ1,o,σ2,_::ds1,a,A1,B,A2,by rw[b];rfl,by rw[e2];rfl,by simp[c],by simp[f],g,.no j,k,l⟩
     | @so v _ B0 _ _ A0 q t =>
       obtain⟨σ1,o,σ2,ds1,a,A1,B,A2,b,e2,c,f,g,j,k,l⟩:=m t h;exact⟨some v::σ1,o,σ2,_::ds1,a,B0++A1,B,A2,by rw[b];rfl,by rw[e2];rfl,by simp[c],by simp[f],by rw[g,zAr],.so q j,k,l⟩
end
theorem qn3{x:α}(h:l1.length=i):(l1++x::l2).set i y=l1++y::l2:=by
 subst h;rw[L5 _ _ (zA3 _),Nat.sub_self];rfl
theorem qz4{x:α}(h:l1.length=i):(l1++x::l2)[i]? = some x:=by
 subst h;simp
structure Ok(F:γ->Prop)(H:Hp)(A:List γ):Prop where
 sep:∀ b,A.count b<=1
 fro:∀ b,F b->A.count b=0
 ex:∀ b,F b->∃ o,H b=some o
structure Ow(F:γ->Prop)(H:Hp)(A:List γ)(F':γ->Prop)(H':Hp)(A':List γ):Prop where
 fr:∀ b o,H b=some o->A.count b=0->H' b=some o
 sub:∀ b o,H b=some o->A.count b=0->A'.count b=0
 mono:∀ b,F b->F' b
 fnew:∀ b o,H b=some o->A.count b=0->F' b->F b
section
variable{F j l:γ->Prop}{H i k:Hp}{A A1 A2 T:List γ}
theorem Ow.refl:Ow F H A F H A:=⟨λ _ _ e _=>e,λ _ _ _ e=>e,λ _ f=>f,λ _ _ _ _ f=>f⟩
theorem Ow.trans(s:Ow F H A j i A1)(t:Ow j i A1 l k A2):Ow F H A l k A2 :=
 ⟨λ b o e q=>t.fr b o (s.fr b o e q) (s.sub b o e q),λ b o e q=>t.sub b o (s.fr b o e q) (s.sub b o e q),λ b f=>t.mono b (s.mono b f),λ b o e q f=>s.fnew b o e q (t.fnew b o (s.fr b o e q) (s.sub b o e q) f)⟩
theorem Ow.same(s:Same H i):Ow F H A F i A:=⟨λ b o e _=>s b o e,λ _ _ _ e=>e,λ _ f=>f,λ _ _ _ _ f=>f⟩
theorem qa9:b∈A↔A.count b≠0:=by
 rw[<- List.count_pos_iff];lia
theorem Ow.kp(s:Ow F H A j i A1)(o:Ok F H A)(c:∀ b∈A,∃ o,H b=some o/\D9 o=true):Kp F H (λ b=>A.count b≠0) j i :=
 ⟨λ b u e w=>s.fr b u e (by lia),λ b w=>c b (qa9.mpr w),λ b w f=>w (o.fro b f),s.mono⟩
theorem Ok.left(o:Ok F H (T++A)):Ok F H T:=⟨λ b=>by have:=o.sep b;rw[zA0] at this;lia,λ b f=>by have:=o.fro b f;rw[zA0] at this;lia,o.ex⟩
theorem Ok.right(o:Ok F H (T++A)):Ok F H A:=⟨λ b=>by have:=o.sep b;rw[zA0] at this;lia,λ b f=>by have:=o.fro b f;rw[zA0] at this;lia,o.ex⟩
theorem Ok.count(o:Ok F H A)(h:∀ b,A1.count b<=A.count b):Ok F H A1:=⟨λ b=>zAk (h b) (o.sep b),λ b f=>by have:=o.fro b f;have:=h b;lia,o.ex⟩
theorem Ow.frame(s:Ow F H A j i A1)(o:Ok F H (T++A))(c:∀ b∈T,∃ o,H b=some o/\D9 o=true)(d:Ok j i A1):Ok j i (T++A1)/\Ow F H (T++A) j i (T++A1):=by
 have a:∀ b,T.count b≠0->∃ u,H b=some u/\A.count b=0:=λ b h=>by
   obtain⟨u,e,_⟩:=c b (qa9.mpr h)
   have:=o.sep b
   rw[zA0] at this;exact⟨u,e,by lia⟩
 refine⟨⟨λ b=>?_,λ b f=>?_,d.ex⟩,λ b u e q=>?_,λ b u e q=>?_,s.mono,λ b u e q f=>?_⟩
 . rw[zA0]
   by_cases h:T.count b=0
   . have:=d.sep b;lia
   obtain⟨u,e,q⟩:=a b h;have g:=s.sub b u e q
   have:=o.sep b
   rw[zA0] at this;lia
 . rw[zA0,d.fro b f]
   by_cases h:T.count b=0
   . lia
   obtain⟨u,e,q⟩:=a b h
   have:=o.fro b (s.fnew b u e q f)
   rw[zA0] at this;lia
 . rw[zA0] at q;exact s.fr b u e (by lia)
 . rw[zA0] at q ⊢;have:=s.sub b u e (by lia);lia
 rw[zA0] at q;exact s.fnew b u e (by lia) f
theorem Ow.count(s:Ow F H A j i A1)(h:∀ b,A2.count b<=A1.count b):Ow F H A j i A2:=⟨s.fr,λ b o e q=>by have:=s.sub b o e q;have:=h b;lia,s.mono,s.fnew⟩
theorem Ow.pre(s:Ow F H A j i A1)(h:∀ b,A.count b=A2.count b):Ow F H A2 j i A1:=⟨λ b o e q=>s.fr b o e (by rw[h];exact q),λ b o e q=>s.sub b o e (by rw[h];exact q),s.mono,λ b o e q f=>s.fnew b o e (by rw[h];exact q) f⟩
end
structure New(H:Hp)(B:List γ):Prop where
 one:∀ b,B.count b<=1
 new:∀ b o,H b=some o->B.count b=0
section
variable{F:γ->Prop}{H H':Hp}{A B:List γ}
theorem New.nil:New H []:=⟨λ b=>by simp,λ b o _=>by simp⟩
theorem New.ok(n:New H B)(o:Ok F H A)(c:∀ b∈A,∃ o,H b=some o/\D9 o=true)(s:Same H H'):Ok F H' (B++A):=by
 refine⟨λ b=>?_,λ b f=>?_,λ b f=>?_⟩
 . rw[zA0]
   have a:=n.one b;have d:=o.sep b;by_cases h:A.count b=0
   . lia
   obtain⟨u,e,_⟩:=c b (qa9.mpr h)
   have:=n.new b u e
   lia
 . rw[zA0,o.fro b f]
   obtain⟨u,e⟩:=o.ex b f;rw[n.new b u e]
 obtain⟨u,e⟩:=o.ex b f;exact⟨u,s b u e⟩
theorem New.append(n:New H B)(s:Same H H1)(c:∀ b∈B,∃ o,H1 b=some o/\D9 o=true)(a:New H1 B1):New H (B++B1):=by
 refine⟨λ b=>?_,λ b o e=>?_⟩
 . rw[zA0]
   have d:=n.one b;have f:=a.one b;by_cases h:B.count b=0
   . lia
   obtain⟨u,e,_⟩:=c b (qa9.mpr h)
   have:=a.new b u e
   lia
 rw[zA0,n.new b o e,a.new b o (s b o e)]
theorem Ok.same(o:Ok F H A)(s:Same H H'):Ok F H' A:=⟨o.sep,o.fro,λ b f=>let ⟨u,e⟩:=o.ex b f;⟨u,s b u e⟩⟩
theorem New.stp(n:New H B)(s:Same H H'):Ow F H A F H' (B++A):=⟨λ b o e _=>s b o e,λ b o e q=>by rw[zA0,n.new b o e,q],λ _ f=>f,λ _ _ _ _ f=>f⟩
end
structure Exn where
 C:γ
 fs:List (Str×D)
def RepX(F:γ->Prop)(H:Hp)(e:γ)(x:Exn):Prop :=
 ∃ b,H e=some (Ik e x.C b false)/\(x.fs=[]∨∃ dx a,b=some dx/\H dx=some (XD dx a)/\a.map (·.1)=x.fs.map (·.1)/\On F H (a.map (·.2)) (x.fs.map (·.2)) [])
abbrev Ds:=List D
abbrev DK:=D->Ds->Prop
abbrev XKd:=Exn->Ds->Prop
abbrev VT:=Ds->DK->XKd->Prop
abbrev VTT:=Ds->(Bool->Ds->Prop)->XKd->Prop
abbrev VTA:=Ds->(Ds->Ds->Prop)->XKd->Prop
abbrev FV:=Ds->Option D
structure Vc where
 E:St->XK
 W:Nat->Bool
 av:List (Option V)
 gv:List (Option V)
structure Ox(c:Vc)(F:γ->Prop)(H:Hp)(a:St)(ds:Ds)(A:List γ):Prop where
 loc:Locs F H (a++c.gv) ds A
 ok:Ok F H A
 len:c.av.length=(a++c.gv).length
 ag:∀ i,c.W i=true->(a++c.gv)[i]? = c.av[i]?
theorem Ox.same(S:Ox c F H a ds A)(s:Same H H'):Ox c F H' a ds A:=⟨S.loc.same s,S.ok.same s,S.len,S.ag⟩
def Xc(c:Vc)(xe:XKd)(F:γ->Prop)(H:Hp)(A:List γ):Prop :=
 ∀ x a b' e H' F' A',xe x a->RepX F' H' e x->Ox c F' H' b' a A'->Ow F H A F' H' A'->c.E b' (.ref e) none H'
theorem Xc.step(x:Xc c xe F H A)(s:Ow F H A F1 H1 A1):Xc c xe F1 H1 A1:=λ y a b' e H' F' A' h r S t=>x y a b' e H' F' A' h r S (s.trans t)
def kE(c:Vc)(b:St)(F:γ->Prop)(H:Hp)(A:List γ)(Q:VK):DK:=λ d a=>∀ v H' F' T A',Ou F' H' v d T->Ox c F' H' b a A'->Ok F' H' (T++A')->Ow F H A F' H' (T++A')->Q v H'
inductive LiftE(c:Vc)(t:VT)(a:St)(H:Hp)(Q:VK):Prop
 | mk (F:γ->Prop) (ds:Ds) (A:List γ) (xe:XKd) (S:Ox c F H a ds A) (x:Xc c xe F H A) (q:t ds (kE c a F H A Q) xe):LiftE c t a H Q
def Bi(c:Vc)(t:VT):TE:=LiftE c t
inductive LiftV(c:Vc)(own:Bool)(f:FV)(a:St)(H:Hp)(Q:VK):Prop
 | mk (F:γ->Prop) (ds:Ds) (A:List γ) (d:D) (S:Ox c F H a ds A) (e:f ds=some d) (q:∀ v H' B,Ou F H' v d B->Same H H'->(own=true->New H B)->Q v H'):LiftV c own f a H Q
def liftV(c:Vc)(own:Bool)(f:FV):TE:=LiftV c own f
inductive qaQ9(c:Vc)(own:Bool)(f:Ds->Option Ds)(a:St)(H:Hp)(Q:List V->Hp->Prop):Prop
 | mk (F:γ->Prop) (ds:Ds) (A:List γ) (xs:Ds) (S:Ox c F H a ds A) (e:f ds=some xs) (q:∀ vs H' B,On F H' vs xs B->Same H H'->(own=true->New H B)->Q vs H'):qaQ9 c own f a H Q
def qaM9(c:Vc)(own:Bool)(f:Ds->Option Ds):TA:=qaQ9 c own f
inductive qaR1(c:Vc)(t:VTA)(a:St)(H:Hp)(Q:List V->Hp->Prop):Prop
 | mk (F:γ->Prop) (ds:Ds) (A:List γ) (xe:XKd) (S:Ox c F H a ds A) (x:Xc c xe F H A) (q:t ds (λ xs ds'=>∀ vs H' F' T A',On F' H' vs xs T->Ox c F' H' a ds' A'->Ow F H A F' H' A'->Q vs H') xe):qaR1 c t a H Q
def qaN0(c:Vc)(t:VTA):TA:=qaR1 c t
inductive LiftT(c:Vc)(t:VTT)(a:St)(H:Hp)(Q:Bool->Hp->Prop):Prop
 | mk (F:γ->Prop) (ds:Ds) (A:List γ) (xe:XKd) (S:Ox c F H a ds A) (x:Xc c xe F H A) (q:t ds (λ b ds'=>∀ H' F' A',Ox c F' H' a ds' A'->Ow F H A F' H' A'->Q b H') xe):LiftT c t a H Q
def Dt(c:Vc)(t:VTT):TT:=LiftT c t
structure VE(c:Vc)(X:Cx)(e:Kf)(t:VT):Prop where
 h:PE X e (Bi c t)
 m:∀ ds (Q Q':DK) (xe xe':XKd),(∀ d ds',Q d ds'->Q' d ds')->(∀ x ds',xe x ds'->xe' x ds')->t ds Q xe->t ds Q' xe'
structure VV(c:Vc)(X:Cx)(e:Kf)(own:Bool)(f:FV):Prop where
 h:PE X e (liftV c own f)
structure VVs(c:Vc)(X:Cx)(es:List Kf)(own:Bool)(f:Ds->Option Ds):Prop where
 h:PA X es (qaM9 c own f)
structure VOs(c:Vc)(X:Cx)(es:List Kf)(t:VTA):Prop where
 h:PA X es (qaN0 c t)
 m:∀ ds (Q Q':Ds->Ds->Prop) (xe xe':XKd),(∀ d ds',Q d ds'->Q' d ds')->(∀ x ds',xe x ds'->xe' x ds')->t ds Q xe->t ds Q' xe'
structure VTe(c:Vc)(X:Cx)(e:Kf)(t:VTT):Prop where
 h:PT X e (Dt c t)
 m:∀ ds (Q Q':Bool->Ds->Prop) (xe xe':XKd),(∀ d ds',Q d ds'->Q' d ds')->(∀ x ds',xe x ds'->xe' x ds')->t ds Q xe->t ds Q' xe'
theorem PE.mono(h:PE X e t)(i:∀ a H Q,t' a H Q->t a H Q):PE X e t':=λ D8 s a H Q I q=>h D8 s a H Q I (i a H Q q)
theorem PT.mono(h:PT X e t)(i:∀ a H Q,t' a H Q->t a H Q):PT X e t':=λ D8 s a H Q I q=>h D8 s a H Q I (i a H Q q)
theorem PW.mono(h:PW X e t)(i:∀ a H Q,t' a H Q->t a H Q):PW X e t':=λ w D8 s a H Q I q=>h w D8 s a H Q I (i a H Q q)
theorem PA.mono(h:PA X es t)(i:∀ a H Q,t' a H Q->t a H Q):PA X es t':=λ p D8 s a H Q I q=>h p D8 s a H Q I (i a H Q q)
theorem PS.mono(h:PS X st t)(i:∀ D a H,t' D a H->t D a H):PS X st t':=λ D8 s a H D I q=>h D8 s a H D I (i D a H q)
theorem PSs.mono(h:PSs X st t)(i:∀ D a H,t' D a H->t D a H):PSs X st t':=λ D8 s a H D I q=>h D8 s a H D I (i D a H q)
def orF{α:Type}(o:Option α)(k:α->Prop):Prop:=match o with | some a=>k a | none=>False
theorem qa4(h:∀ a,k a->b a):orF o k->orF o b:=by
 cases o with
 | none=>exact id
 | some a=>exact h a
theorem qa7:orF o k↔∃ a,o=some a/\k a:=by
 cases o with
 | none=>exact⟨λ h=>h.elim,λ ⟨_,e,_⟩=>by cases e⟩
 | some a=>exact⟨λ h=>⟨a,rfl,h⟩,λ ⟨b,e,h⟩=>by cases e;exact h⟩
section
variable{c:Vc}{X:Cx}{e:Kf}{F:γ->Prop}{H H':Hp}{t:St}{ds:Ds}{A:List γ}
theorem Ox.new(S:Ox c F H t ds A)(n:New H B)(s:Same H H'):Ok F H' (B++A):=n.ok S.ok S.loc.cells s
def Dh(f:FV):VT:=λ ds Q _=>orF (f ds) λ d=>Q d ds
def B8(f:FV):VT:=λ ds Q _=>orF (f ds) λ d=>d.imm=true/\Q d ds
theorem qa5(h:VV c X e true f):VE c X e (Dh f):=by
 refine⟨PE.mono h.h λ t H Q a=>?_,λ b Q Q' g i j _=>qa4 λ d=>j d b⟩;obtain⟨F,b,A,g,S,x,q⟩:=a;obtain⟨d,e,q⟩:=qa7.mp q;exact⟨F,b,A,d,S,e,λ v H' B r s n=>q v H' F B A r (S.same s) (S.new (n rfl) s) ((n rfl).stp s)⟩
theorem qb4(h:VV c X e own f):VE c X e (B8 f):=by
 refine⟨PE.mono h.h λ t H Q a=>?_,λ b Q Q' g i j _=>qa4 λ d=>Ni (j d b)⟩;obtain⟨F,b,A,g,S,x,q⟩:=a;obtain⟨d,e,k,q⟩:=qa7.mp q;refine⟨F,b,A,d,S,e,λ v H' B r s _=>?_⟩
 have:=r.imm k
 subst this;exact q v H' F [] A r (S.same s) (S.ok.same s) (.same s)
theorem F4(h:PE X e (tC v))(r:∀ F H,Ou F H v d []):VV c X e true (λ _=>some d) :=
 ⟨PE.mono h λ t H Q ⟨F,a,A,b,S,e,q⟩=>by cases e;exact q v H [] (r F H) (λ _ _ z=>z) λ _=>New.nil⟩
noncomputable def D.known:D->Bool
 | .u=>false
 | .hole _=>false
 | _=>true
def rdN(i:Nat):FV:=λ ds=>match ds[i]? with
 | some d=>if d.known=true then some d else none
 | none=>none
theorem ql7:rdN i ds=some d↔ds[i]? = some d/\d.known=true:=by
 unfold rdN;cases h:ds[i]? with
 | none=>simp
 | some x =>
   dsimp only;split
   . rename_i hk;constructor
     . intro e;cases e;exact⟨rfl,hk⟩
     rintro⟨e,_⟩;exact e
   rename_i hk;constructor
   . intro e;cases e
   rintro⟨e,a⟩;cases e;exact absurd a hk
theorem Ox.at(S:Ox c F H t ds A)(hi:i < t.length)(h:ds[i]? = some d)(a:d.known=true):∃ v B,t[i]? = some (some v)/\Ou F H v d B/\∀ b,B.count b<=A.count b:=by
 obtain⟨σ1,o,σ2,e,f,A1,B,A2,g,e2,j,m,k,n,l,p⟩:=S.loc.split h;cases l with
 | no=>cases a
 | @so v _ _ r =>
   refine⟨v,B,?_,r,λ b=>by rw[k];simp only[zA0];lia⟩
   have:(t++c.gv)[i]? = some (some v):=by rw[g];exact qz4 j
   rwa[zAp hi] at this
theorem qaF5(h:PE X (.Name x pos) (Fm i))(hi:∀ D8 t H s,Ov X D8 t H s->i < t.length):VV c X (.Name x pos) false (rdN i):=by
 refine⟨λ D8 s t H Q I a=>?_⟩;obtain⟨F,g,A,d,S,e,q⟩:=a;refine h D8 s t H Q I ?_;obtain⟨e,b⟩:=ql7.mp e;obtain⟨v,B,f,r,_⟩:=S.at (hi D8 t H s I) e b;exact⟨v,f,q v H B r (λ _ _ z=>z) λ z=>by cases z⟩
theorem qp3(a:X.N[i]? = some x):∀ D8 t H s,Ov X D8 t H s->i < t.length:=λ D8 t H s I=>by
 rw[I.len];exact(zA4.mp a).1
end
def Sub(H:Hp)(B B':List γ):Prop:=∀ b,B'.count b<=B.count b∨(B'.count b<=1/\H b=none)
theorem Sub.new(s:Sub H1 B B')(n:New H B)(q:Same H H1):New H B':=by
 refine⟨λ b=>?_,λ b o e=>?_⟩
 . rcases s b with h | ⟨h,_⟩
   . have:=n.one b;lia
   exact h
 rcases s b with h | ⟨_,h⟩
 . have:=n.new b o e;lia
 rw[q b o e] at h;cases h
def OpS(nw:Bool)(r:List V->Hp->VK->Prop)(g:Ds->Option D):Prop:=∀ F H vs xs B d (Q:VK),On F H vs xs B->g xs=some d ->
 (∀ v H' B',Ou F H' v d B'->Same H H'->(if nw=true then New H B' else Sub H B B')->Q v H')->r vs H Q
def A9(nw:Bool)(r:R2)(g:D->D->Option D):Prop:=∀ F H v w x y B d (Q:VK),On F H [v,w] [x,y] B->g x y=some d ->
 (∀ v H' B',Ou F H' v d B'->Same H H'->(if nw=true then New H B' else Sub H B B')->Q v H')->r v w H Q
noncomputable def f2(g:D->D->Option D)(fa fb:FV):FV:=λ ds=>(fa ds).bind λ x=>(fb ds).bind λ y=>g x y
theorem qaD4:f2 g fa fb ds=some d↔∃ x y,fa ds=some x/\fb ds=some y/\g x y=some d:=by
 unfold f2;cases a:fa ds with
 | none=>simp
 | some x=>cases b:fb ds with
   | none=>simp
   | some y=>simp
noncomputable def f1(g:D->Option D)(fa:FV):FV:=λ ds=>(fa ds).bind g
theorem qaD5:f1 g fa ds=some d↔∃ x,fa ds=some x/\g x=some d:=by
 unfold f1;cases a:fa ds with
 | none=>simp
 | some x=>simp
theorem Fp(r:Ou F H v d A)(s:Ou F H w e B):On F H [v,w] [d,e] (A++(B++[])):=.cons r (.cons s .nil)
section
variable{c:Vc}{X:Cx}{a b:Kf}{W Y nw:Bool}{fa fb:FV}{r:R2}{g:D->D->Option D}{O R:VT}
theorem op_vv(h:A9 nw r g):∀ N H Q,liftV c (nw||(W&&Y)) (f2 g fa fb) N H Q->tOp r (liftV c W fa) (liftV c Y fb) N H Q:=by
 rintro N H Q ⟨F,k,A,d,S,e,q⟩;obtain⟨x,y,m,n,p⟩:=qaD4.mp e;refine⟨F,k,A,x,S,m,λ v H1 B1 l a s=>⟨F,k,A,y,S.same a,n,λ w H2 B2 t i z=>?_⟩⟩;refine h F H2 v w x y _ d Q (Fp (l.same i) t) p λ u H3 B3 B C f=>?_
 refine q u H3 B3 B ((a.trans i).trans C) λ j=>?_
 cases nw with
 | true=>rw[if_pos rfl] at f;exact⟨f.one,λ b o e=>f.new b o (i b o (a b o e))⟩
 | false =>
   rw[if_neg (by decide)] at f;have j:=zAf.mp j
   have:=(s j.1).append a l.cells (z j.2)
   exact f.new (by rw[zAd];exact this) (a.trans i)
def t2(g:D->D->Option D)(O R:VT):VT:=λ ds Q xe=>O ds (λ x ds1=>R ds1 (λ y a=>orF (g x y) λ d=>Q d a) xe) xe
theorem qas1(j:VE c X a O)(k:VE c X b R):∀ ds (Q Q':DK) (xe f:XKd),(∀ d e,Q d e->Q' d e)->(∀ x e,xe x e->f x e)->t2 g O R ds Q xe->t2 g O R ds Q' f :=
 λ ds Q Q' xe f l i=>j.m _ _ _ _ _ (λ d n=>k.m _ _ _ _ _ (λ d h=>qa4 λ z=>l z h) i) i
theorem op_ee(s:VE c X a O)(i:VE c X b R)(h:A9 true r g):∀ N H Q,Bi c (t2 g O R) N H Q->tOp r (Bi c O) (Bi c R) N H Q:=by
 rintro N H Q ⟨F,t,A,o,S,x,q⟩;refine⟨F,t,A,o,S,x,s.m _ _ _ _ _ (λ p j q v H1 F1 T A1 y S1 B C=>?_) (λ _ _ z=>z) q⟩;have e:Ow F H A F1 H1 A1:=C.count λ b=>by rw[zA0];lia
 refine⟨F1,j,A1,o,S1,x.step e,i.m _ _ _ _ _ (λ D E q w H2 F2 T2 A2 G S2 L I=>?_) (λ _ _ z=>z) q⟩;obtain⟨d,J,q⟩:=qa7.mp q;have f:Ow F1 H1 A1 F2 H2 A2:=I.count λ b=>by rw[zA0];lia
 have k:Ou F2 H2 v p T:=y.keep (f.kp S1.ok S1.loc.cells) λ b i M=>by
   have:=B.sep b
   rw[zA0] at this
   have:=qa9.mp i
   lia
 refine h F2 H2 v w p D _ d Q (Fp k G) J λ u H3 B3 K l n=>?_
 rw[if_pos rfl] at n;exact q u H3 F2 B3 A2 K (S2.same l) (S2.new n l) ((e.trans f).trans (n.stp l))
def t2v(g:D->D->Option D)(O:VT)(fb:FV):VT:=λ ds Q xe=>O ds (λ x ds1=>orF ((fb ds1).bind (g x)) λ d=>Q d ds1) xe
theorem qax3(h:VE c X a O):∀ ds (Q Q':DK) (xe e:XKd),(∀ d b,Q d b->Q' d b)->(∀ x b,xe x b->e x b)->t2v g O fb ds Q xe->t2v g O fb ds Q' e :=
 λ ds Q Q' xe e i j=>h.m _ _ _ _ _ (λ d f=>qa4 λ z=>i z f) j
theorem op_ev(s:VE c X a O)(h:A9 true r g):∀ N H Q,Bi c (t2v g O fb) N H Q->tOp r (Bi c O) (liftV c Y fb) N H Q:=by
 rintro N H Q ⟨F,t,A,B,S,x,q⟩;refine⟨F,t,A,B,S,x,s.m _ _ _ _ _ (λ C j q v H1 F1 T A1 D S1 L E=>?_) (λ _ _ z=>z) q⟩;have k:Ow F H A F1 H1 A1:=E.count λ b=>by rw[zA0];lia
 obtain⟨d,l,q⟩:=qa7.mp q;obtain⟨y,G,l⟩:=zA1.mp l;refine⟨F1,j,A1,y,S1,G,λ w H2 B2 I n _=>?_⟩;refine h F1 H2 v w C y _ d Q (Fp (D.same n) I) l λ u H3 B3 J K p=>?_
 rw[if_pos rfl] at p;have f:=n.trans K;have i:New H1 B3:=⟨p.one,λ b o e=>p.new b o (n b o e)⟩
 exact q u H3 F1 B3 A1 J (S1.same f) (S1.new i f) (k.trans (i.stp f))
def OpS1(nw:Bool)(r:V->Hp->VK->Prop)(g:D->Option D):Prop:=∀ F H v x B d (Q:VK),Ou F H v x B->g x=some d ->
 (∀ v H' B',Ou F H' v d B'->Same H H'->(if nw=true then New H B' else Sub H B B')->Q v H')->r v H Q
def t1(g:D->Option D)(O:VT):VT:=λ ds Q xe=>O ds (λ x ds1=>orF (g x) λ d=>Q d ds1) xe
variable{U:V->Hp->VK->Prop}{g1:D->Option D}
theorem op_v(h:OpS1 nw U g1):∀ N H Q,liftV c (nw||W) (f1 g1 fa) N H Q->liftV c W fa N H (λ x H1=>U x H1 Q):=by
 rintro N H Q ⟨F,g,A,d,S,e,q⟩;obtain⟨x,i,j⟩:=qaD5.mp e;refine⟨F,g,A,x,S,i,λ v H1 B1 U f k=>?_⟩;refine h F H1 v x _ d Q U j λ u H3 B3 l m a=>?_
 refine q u H3 B3 l (f.trans m) λ n=>?_
 cases nw with
 | true=>rw[if_pos rfl] at a;exact⟨a.one,λ b o e=>a.new b o (f b o e)⟩
 | false=>rw[if_neg (by decide)] at a;exact a.new (k n) f
end
theorem qU4(d:Ok F1 H1 (T++A1))(c:Ow F H A F1 H1 (T++A1))(j:∀ b∈A1,∃ o,H1 b=some o/\D9 o=true)(i:Same H1 H3)(g:Sub H1 T B):Ok F1 H3 (B++A1)/\Ow F H A F1 H3 (B++A1):=by
 refine⟨⟨λ b=>?_,λ b f=>?_,λ b f=>let ⟨u,e⟩:=d.ex b f;⟨u,i b u e⟩⟩,λ b o e q=>i b o (c.fr b o e q),λ b o e q=>?_,c.mono,c.fnew⟩
 . have:=d.sep b
   rw[zA0] at this ⊢;rcases g b with h | ⟨h,a⟩
   . lia
   by_cases k:A1.count b=0
   . lia
   obtain⟨o,e,_⟩:=j b (qa9.mpr k);rw[e] at a;cases a
 . have:=d.fro b f
   rw[zA0] at this ⊢;rcases g b with h | ⟨h,a⟩
   . lia
   obtain⟨o,e⟩:=d.ex b f;rw[e] at a;cases a
 have:=c.sub b o e q
 rw[zA0] at this ⊢;rcases g b with h | ⟨h,a⟩
 . lia
 rw[c.fr b o e q] at a;cases a
section
variable{c:Vc}{X:Cx}{a b:Kf}{Z ob nw:Bool}{fa fb:FV}{r:R2}{g:D->D->Option D}{U Y:VT}
theorem qaV1(D:VE c X a U)(e:VE c X b Y)(h:A9 false r g):∀ R H Q,Bi c (t2 g U Y) R H Q->tOp r (Bi c U) (Bi c Y) R H Q:=by
 rintro R H Q ⟨F,E,A,l,S,x,q⟩;refine⟨F,E,A,l,S,x,D.m _ _ _ _ _ (λ n f q v H1 F1 T A1 o S1 p s=>?_) (λ _ _ z=>z) q⟩;have i:Ow F H A F1 H1 A1:=s.count λ b=>by rw[zA0];lia
 refine⟨F1,f,A1,l,S1,x.step i,e.m _ _ _ _ _ (λ G I q w H2 F2 T2 A2 J S2 K t=>?_) (λ _ _ z=>z) q⟩;obtain⟨d,L,q⟩:=qa7.mp q;have j:Ou F2 H2 v n T:=o.keep (t.kp S1.ok S1.loc.cells) λ b e P=>by
   have:=p.sep b
   rw[zA0] at this
   have:=qa9.mp e
   lia
 obtain⟨y,B⟩:=t.frame p o.cells K;refine h F2 H2 v w n G _ d Q (Fp j J) L λ u H3 B3 M C k=>?_
 rw[if_neg (by decide)] at k;rw[<- zAr] at y B;obtain⟨N,O⟩:=qU4 y (s.trans B) S2.loc.cells C (by rw[zAd] at k;exact k);exact q u H3 F2 B3 A2 M (S2.same C) N O
def Im(g:D->D->Option D)(U:VT)(fb:FV):VT:=λ ds Q xe=>U ds (λ x ds1=>orF (fb ds1) λ y=>y.imm=true/\orF (g x y) λ d=>Q d ds1) xe
theorem qak9(h:VE c X a U):∀ ds (Q Q':DK) (xe e:XKd),(∀ d b,Q d b->Q' d b)->(∀ x b,xe x b->e x b)->Im g U fb ds Q xe->Im g U fb ds Q' e :=
 λ ds Q Q' xe e i j=>h.m _ _ _ _ _ (λ d f=>qa4 λ y=>Ni (qa4 λ z=>i z f)) j
theorem qaV0(p:VE c X a U)(h:A9 false r g):∀ R H Q,Bi c (Im g U fb) R H Q->tOp r (Bi c U) (liftV c ob fb) R H Q:=by
 rintro R H Q ⟨F,s,A,t,S,x,q⟩;refine⟨F,s,A,t,S,x,p.m _ _ _ _ _ (λ B i q v H1 F1 T A1 C S1 D E=>?_) (λ _ _ z=>z) q⟩;obtain⟨y,G,I,q⟩:=qa7.mp q;obtain⟨d,J,q⟩:=qa7.mp q;refine⟨F1,i,A1,y,S1,G,λ w H2 B2 k j _=>?_⟩
 have:=k.imm I
 subst this;refine h F1 H2 v w B y _ d Q (Fp (C.same j) k) J λ u H3 B3 K L l=>?_
 rw[if_neg (by decide),zAd,zAd] at l;have f:=j.trans L;have M:Sub H1 T B3:=λ b=>(l b).imp id λ ⟨N,n⟩=>⟨N,by
   cases e:H1 b with
   | none=>rfl
   | some o=>rw[j b o e] at n;cases n⟩
 obtain⟨O,P⟩:=qU4 D E S1.loc.cells f M;exact q u H3 F1 B3 A1 K (S1.same f) O P
theorem qa6:VVs c X [] true (λ _=>some []):=⟨PA.mono qy3 λ R H Q ⟨F,a,A,b,S,e,q⟩=>by cases e;exact q [] H [] .nil (λ _ _ z=>z) λ _=>New.nil⟩
noncomputable def A6(fa:FV)(a:Ds->Option Ds):Ds->Option Ds:=λ ds=>(fa ds).bind λ x=>(a ds).bind λ xs=>some (x::xs)
theorem qap6{a:Ds->Option Ds}:A6 fa a ds=some xs↔∃ x r,fa ds=some x/\a ds=some r/\xs=x::r:=by
 unfold A6;cases b:fa ds with
 | none=>simp
 | some x=>cases c:a ds with
   | none=>simp
   | some y=>simp[eq_comm]
theorem qa2(k:VV c X e Z fa)(l:VVs c X es own f)(m:Jm (e::es) X.env=(false,eval e X.env)::Jm es X.env):VVs c X (e::es) (Z&&own) (A6 fa f):=by
 refine⟨PA.mono (qh0 k.h l.h m) λ R H Q b=>?_⟩;obtain⟨F,g,A,u,S,e,q⟩:=b;obtain⟨x,r,n,e2,rfl⟩:=qap6.mp e;refine⟨F,g,A,x,S,n,λ v H1 B1 i d o=>⟨F,g,A,r,S.same d,e2,λ p H2 B2 s j t=>?_⟩⟩;refine q (v::p) H2 (B1++B2) (.cons (i.same j) s) (d.trans j) λ a=>?_
 have a:=zAf.mp a;exact(o a.1).append d i.cells (t a.2)
variable{rc:List V->Hp->VK->Prop}{W:Ds->Option D}
theorem qaL1(h:OpS nw rc W):∀ R H Q,liftV c (nw||own) (λ ds=>(f ds).bind W) R H Q->tCB rc (qaM9 c own f) R H Q:=by
 rintro R H Q ⟨F,ds,A,d,S,e,q⟩;obtain⟨i,j,e2⟩:=zA1.mp e;refine⟨F,ds,A,i,S,j,λ k H1 B1 l g m=>h F H1 k i B1 d Q l e2 λ u H3 B3 n p a=>q u H3 B3 n (g.trans p) λ r=>?_⟩;cases nw with
 | true=>rw[if_pos rfl] at a;exact⟨a.one,λ b o e=>a.new b o (g b o e)⟩
 | false=>rw[if_neg (by decide)] at a;exact a.new (m r) g
def tcO(W:Ds->Option D)(t:VTA):VT:=λ ds Q xe=>t ds (λ xs ds1=>orF (W xs) λ d=>Q d ds1) xe
theorem qax2(f:VOs c X es t):∀ ds (Q Q':DK) (xe b:XKd),(∀ d a,Q d a->Q' d a)->(∀ x a,xe x a->b x a)->tcO W t ds Q xe->tcO W t ds Q' b :=
 λ ds Q Q' xe b g h=>f.m _ _ _ _ _ (λ d e=>qa4 λ z=>g z e) h
theorem opc_o(e:VOs c X es t)(h:OpS true rc W):∀ R H Q,Bi c (tcO W t) R H Q->tCB rc (qaN0 c t) R H Q:=by
 rintro R H Q ⟨F,f,A,g,S,x,q⟩;refine⟨F,f,A,g,S,x,e.m _ _ _ _ _ (λ i j q k H1 F1 T A1 l S1 n=>?_) (λ _ _ z=>z) q⟩;obtain⟨d,o,q⟩:=qa7.mp q;refine h F1 H1 k i T d Q l o λ u H3 B3 p a b=>?_
 rw[if_pos rfl] at b;exact q u H3 F1 B3 A1 p (S1.same a) (S1.new b a) (n.trans (b.stp a))
end
def D.kids:D->List D
 | .q ds=>ds
 | .l false ds=>ds
 | .dct false kvs=>kvs.map (·.2)
 | .ins false _ fs=>fs.map (·.2)
 | _=>[]
noncomputable def Hm{a:Type}:List (a×D)->Nat->D->List (a×D)
 | [],_,_=>[]
 | (k,_)::r,0,x=>(k,x)::r
 | p::r,n+1,x=>p::Hm r n x
theorem qO1{c:Type}:∀(l:List (c×D))(n:Nat)(x:D),(Hm l n x).map (·.1)=l.map (·.1)/\(Hm l n x).map (·.2)=(l.map (·.2)).set n x
 | [],_,_=>⟨rfl,rfl⟩
 | (k,_)::r,0,x=>⟨rfl,rfl⟩
 | p::r,n+1,x=>by
   obtain⟨a,b⟩:=qO1 r n x;simp only[Hm,zAx,a,b,List.set_cons_succ,and_self]
def D.setK:D->Nat->D->D
 | .q ds,n,x=>.q (ds.set n x)
 | .l z ds,n,x=>.l z (ds.set n x)
 | .dct z kvs,n,x=>.dct z (Hm kvs n x)
 | .ins z C fs,n,x=>.ins z C (Hm fs n x)
 | d,_,_=>d
def Lnk(H:Hp)(u:V)(n:Nat)(w:V):Prop:=∃ a,u=.ref a /\
 ((∃ vs,H a=some (.q vs)/\vs[n]? = some w)∨(∃ vs,H a=some (.l vs)/\vs[n]? = some w)∨(∃ kvs,H a=some (.dK kvs)/\(kvs.map (·.2))[n]? = some w)∨∃ C dx fs,H a=some (.ins C dx fs)/\(fs.map (·.2))[n]? = some w)
section
variable{F F':γ->Prop}{H H':Hp}
theorem On.split:∀{ds:List D}{vs:List V}{A:List γ}{i:Nat}{d:D},On F H vs ds A->ds[i]? = some d ->
   ∃ b v c ds1 a A1 B A2,vs=b++v::c/\ds=ds1++d::a/\b.length=i/\ds1.length=i/\A=A1++(B++A2)/\On F H b ds1 A1/\Ou F H v d B/\On F H c a A2:=by
 intro ds
 induction ds with
 | nil=>intro K A i d _ h;simp at h
 | cons e r f =>
   intro K A i d L h;cases i with
   | zero =>
     have:e=d:=by simpa using h
     subst this;cases L with
     | cons q t=>exact⟨[],_,_,[],_,[],_,_,rfl,rfl,rfl,rfl,rfl,.nil,q,t⟩
   | succ i =>
     have h:r[i]? = some d:=by simpa using h
     cases L with
     | @cons v _ B0 _ _ A0 q t =>
       obtain⟨σ1,o,σ2,ds1,a,A1,B,A2,g,e2,j,k,l,m,n,p⟩:=f t h;exact⟨v::σ1,o,σ2,_::ds1,a,B0++A1,B,A2,by rw[g];rfl,by rw[e2];rfl,by simp[j],by simp[k],by rw[l,zAr],.cons q m,n,p⟩
theorem On.append(r:On F H vs ds A)(t:On F H a es B):On F H (vs++a) (ds++es) (A++B):=by
 induction vs generalizing ds A with
 | nil=>cases r;exact t
 | cons v vs b =>
   cases r with
   | cons h c=>rw[zAr];exact .cons h (b c)
theorem On.kid(r:On F H vs ds A)(h:ds[n]? = some d):∃(w:V)(B C:List γ),vs[n]? = some w/\Ou F H w d B/\(∀ b,A.count b=B.count b+C.count b) /\
   ∀{F':γ->Prop}{H':Hp}{W:γ->Prop}(d':D)(B':List γ),Kp F H W F' H'->(∀ b∈C,¬ W b)->Ou F' H' w d' B'->∃ A':List γ,On F' H' vs (ds.set n d') A'/\∀ b,A'.count b=B'.count b+C.count b:=by
 obtain⟨f,v,g,i,j,A1,B,A2,c,e2,l,m,o,p,q,s⟩:=r.split h;refine⟨v,B,A1++A2,by rw[c];exact qz4 l,q,λ b=>by rw[o];simp only[zA0];lia,λ{F' H' W} d' B' k e t=>⟨A1++(B'++A2),?_,λ b=>by simp only[zA0];lia⟩⟩;rw[c,e2,qn3 m];exact(p.keep k λ b a=>e b (zAa.mpr (.inl a))).append (.cons t (s.keep k λ b a=>e b (zAa.mpr (.inr a))))
theorem Ou.kid(r:Ou F H p d0 A)(h:d0.kids[n]? = some d):∃(w:V)(B C:List γ),Lnk H p n w/\Ou F H w d B/\(∀ b,A.count b=B.count b+C.count b) /\
   ∀{F':γ->Prop}{H':Hp}{W:γ->Prop}(d':D)(B':List γ),Kp F H W F' H'->(∀ b∈C,¬ W b)->Ou F' H' w d' B'->∃ A':List γ,Ou F' H' p (d0.setK n d') A'/\∀ b,A'.count b=B'.count b+C.count b:=by
 cases r with
 | @q a vs ds _ e r =>
   obtain⟨w,B,C,f,g,i,j⟩:=r.kid (n:=n) h;refine⟨w,B,C,⟨a,rfl,.inl ⟨vs,e,f⟩⟩,g,i,λ{F' H' W} d' B' k c l=>?_⟩;obtain⟨A',m,q2⟩:=j d' B' k c l;exact⟨A',.q (k.q e) m,q2⟩
 | @l a vs ds A e r =>
   obtain⟨w,B,C,f,g,i,j⟩:=r.kid (n:=n) h;refine⟨w,B,a::C,⟨a,rfl,.inr (.inl ⟨vs,e,f⟩)⟩,g,λ b=>by rw[zAs,zAs,i];lia,λ{F' H' W} d' B' k c l=>?_⟩;obtain⟨A',m,q2⟩:=j d' B' k (λ b o=>c b (zA6 _ o)) l;exact⟨a::A',.l (k.fr a _ e (c a zAh)) m,λ b=>by rw[zAs,zAs,q2];lia⟩
 | @dct a kvs kds A e q r =>
   obtain⟨w,B,C,f,g,i,j⟩:=r.kid (n:=n) h;refine⟨w,B,a::C,⟨a,rfl,.inr (.inr (.inl ⟨kvs,e,f⟩))⟩,g,λ b=>by rw[zAs,zAs,i];lia,λ{F' H' W} d' B' k c l=>?_⟩;obtain⟨A',m,q2⟩:=j d' B' k (λ b o=>c b (zA6 _ o)) l;obtain⟨s,t⟩:=qO1 kds n d';exact⟨a::A',.dct (k.fr a _ e (c a zAh)) (q.trans s.symm) (by rw[t];exact m),λ b=>by rw[zAs,zAs,q2];lia⟩
 | @ins a C0 dx fvs fds A e q r =>
   obtain⟨w,B,C,f,g,i,j⟩:=r.kid (n:=n) h;refine⟨w,B,a::C,⟨a,rfl,.inr (.inr (.inr ⟨C0,dx,fvs,e,f⟩))⟩,g,λ b=>by rw[zAs,zAs,i];lia,λ{F' H' W} d' B' k c l=>?_⟩;obtain⟨A',m,q2⟩:=j d' B' k (λ b o=>c b (zA6 _ o)) l;obtain⟨s,t⟩:=qO1 fds n d';exact⟨a::A',.ins (k.fr a _ e (c a zAh)) (q.trans s.symm) (by rw[t];exact m),λ b=>by rw[zAs,zAs,q2];lia⟩
 | _=>cases (show (none:Option D)=some _ from h)
def D.getP:D->List Nat->Option D
 | d,[]=>some d
 | d,n::p=>match d.kids[n]? with
   | some e=>e.getP p
   | none=>none
def D.setP:D->List Nat->D->D
 | _,[],x=>x
 | d,n::p,x=>match d.kids[n]? with
   | some e=>d.setK n (e.setP p x)
   | none=>d
def Walk(H:Hp):V->List Nat->V->Prop
 | u,[],w=>u=w
 | u,n::p,w=>∃ v,Lnk H u n v/\Walk H v p w
theorem Ou.path:∀{p:List Nat}{a:V}{d0 d:D}{A:List γ},Ou F H a d0 A->d0.getP p=some d->∃(w:V)(B C:List γ),Walk H a p w/\Ou F H w d B/\(∀ b,A.count b=B.count b+C.count b) /\
   ∀{F':γ->Prop}{H':Hp}{W:γ->Prop}(d':D)(B':List γ),Kp F H W F' H'->(∀ b∈C,¬ W b)->Ou F' H' w d' B'->∃ A':List γ,Ou F' H' a (d0.setP p d') A'/\∀ b,A'.count b=B'.count b+C.count b:=by
 intro p
 induction p with
 | nil =>
   intro a d0 d A r h;cases h;exact⟨a,A,[],rfl,r,λ b=>by simp,λ{F' H' W} d' B' k f g=>⟨B',g,λ b=>by simp⟩⟩
 | cons n p j =>
   intro a d0 d A r h;unfold D.getP at h;cases c:d0.kids[n]? with
   | none=>rw[c] at h;cases h
   | some e =>
     rw[c] at h;obtain⟨l,B1,C1,m,o,q,s⟩:=r.kid c;obtain⟨w,B,C,t,u,v,x⟩:=j o h;refine⟨w,B,C++C1,⟨l,m,t⟩,u,λ b=>by rw[q,v,zA0];lia,λ{F' H' W} d' B' k f g=>?_⟩;obtain⟨A1,y,q2⟩:=x d' B' k (λ b i=>f b (zAa.mpr (.inl i))) g;obtain⟨A2,z,E⟩:=s (e.setP p d') A1 k (λ b i=>f b (zAa.mpr (.inr i))) y;refine⟨A2,?_,λ b=>by rw[E,q2,zA0];lia⟩;unfold D.setP;rw[c];exact z
def Bb(ds:Ds)(i:Nat)(p:List Nat):Option D:=match ds[i]? with
 | some d=>d.getP p
 | none=>none
def Bj(ds:Ds)(i:Nat)(p:List Nat)(x:D):Ds:=match ds[i]? with
 | some d=>ds.set i (d.setP p x)
 | none=>ds
theorem qai3(h:D.getP .u p=some d):p=[]/\d=.u:=by
 cases p with
 | nil=>cases h;exact⟨rfl,rfl⟩
 | cons n p=>cases (show (none:Option D)=some _ from h)
theorem Locs.place(L:Locs F H K ds A)(h:Bb ds i p=some d)(g:d≠.u):∃(u w:V)(B C:List γ),K[i]? = some (some u)/\Walk H u p w/\Ou F H w d B/\(∀ b,A.count b=B.count b+C.count b) /\
   ∀{F':γ->Prop}{H':Hp}{W:γ->Prop}(d':D)(B':List γ),Kp F H W F' H'->(∀ b∈C,¬ W b)->Ou F' H' w d' B'->∃ A':List γ,Locs F' H' K (Bj ds i p d') A'/\∀ b,A'.count b=B'.count b+C.count b:=by
 unfold Bb at h;cases c:ds[i]? with
 | none=>rw[c] at h;cases h
 | some J =>
   rw[c] at h;obtain⟨σ1,o,σ2,j,l,A1,B0,A2,f,e2,m,n,q,s,t,v⟩:=L.split c;cases t with
   | no=>exact absurd (qai3 h).2 g
   | @so u _ _ r =>
     obtain⟨w,B,C,x,y,z,E⟩:=r.path h;refine⟨u,w,B,A1++(C++A2),by rw[f];exact qz4 m,x,y,λ b=>by rw[q];simp only[zA0,z];lia,λ{F' H' W} d' B' k e G=>?_⟩;obtain⟨A',I,q2⟩:=E d' B' k (λ b a=>e b (zAa.mpr (.inr (zAa.mpr (.inl a))))) G;refine⟨A1++(A'++A2),?_,λ b=>by simp only[zA0,q2];lia⟩;unfold Bj;rw[c,f];dsimp only;rw[e2,qn3 n];exact(s.keep k λ b a=>e b (zAa.mpr (.inl a))).append (.so I (v.keep k λ b a=>e b (zAa.mpr (.inr (zAa.mpr (.inr a))))))
theorem Lnk.fn(h:Lnk H u n v)(h':Lnk H u n w):v=w:=by
 obtain⟨a,rfl,h⟩:=h;obtain⟨b,e,h'⟩:=h';cases e;rcases h with⟨vs,e,h⟩ | ⟨vs,e,h⟩ | ⟨vs,e,h⟩ | ⟨C,dx,vs,e,h⟩<;>rcases h' with⟨vs',e',h'⟩ | ⟨vs',e',h'⟩ | ⟨vs',e',h'⟩ | ⟨C',dx',vs',e',h'⟩<;>rw[e] at e'<;>cases e'<;>rw[h] at h'<;>exact Nj h'
theorem Walk.fn:∀{p:List Nat}{u v w:V},Walk H u p v->Walk H u p w->v=w
 | [],_,_,_,h,h'=>h.symm.trans h'
 | n::p,_,_,_,⟨x,h1,h2⟩,⟨y,h3,h4⟩=>by
   cases h1.fn h3;exact Walk.fn h2 h4
theorem Lnk.same(h:Lnk H u n v)(s:Same H H'):Lnk H' u n v:=by
 obtain⟨a,rfl,h⟩:=h;refine⟨a,rfl,?_⟩;rcases h with⟨vs,e,h⟩ | ⟨vs,e,h⟩ | ⟨vs,e,h⟩ | ⟨C,dx,vs,e,h⟩
 . exact .inl ⟨vs,s _ _ e,h⟩
 . exact .inr (.inl ⟨vs,s _ _ e,h⟩)
 . exact .inr (.inr (.inl ⟨vs,s _ _ e,h⟩))
 exact .inr (.inr (.inr ⟨C,dx,vs,s _ _ e,h⟩))
theorem Walk.same:∀{p:List Nat}{u v:V},Walk H u p v->Same H H'->Walk H' u p v
 | [],_,_,h,_=>h
 | n::p,_,_,⟨x,h1,h2⟩,s=>⟨x,h1.same s,h2.same s⟩
end
section
variable{c:Vc}{X:Cx}{b:Kf}{r:R2}{g:D->D->Option D}{R:VT}
def t2n(g:D->D->Option D)(i:Nat)(R:VT):VT:=λ ds Q xe=>(rdN i ds).isSome=true/\R ds (λ y ds1=>orF ((rdN i ds1).bind λ x=>g x y) λ d=>Q d ds1) xe
theorem qax4(h:VE c X b R):∀ ds (Q Q':DK) (xe e:XKd),(∀ d a,Q d a->Q' d a)->(∀ x a,xe x a->e x a)->t2n g i R ds Q xe->t2n g i R ds Q' e :=
 λ ds Q Q' xe e j k=>Ni (h.m _ _ _ _ _ (λ d f=>qa4 λ z=>j z f) k)
theorem Ox.name(S:Ox c F H O ds A)(hi:i < O.length)(h:rdN i ds=some d):∃ v B,O[i]? = some (some v)/\Ou F H v d B/\∀ b,B.count b<=A.count b :=
 let ⟨e,k⟩:=ql7.mp h
 S.at hi e k
theorem op_ne(o:VE c X b R)(h:A9 true r g)(hi:i < O.length)(q:Bi c (t2n g i R) O H Q):tOp r (Fm i) (Bi c R) O H Q:=by
 obtain⟨F,p,A,s,S,x,t,q⟩:=q;obtain⟨L,e⟩:=zB8.mp t;obtain⟨v,B0,n,_,_⟩:=S.name hi e;refine⟨v,n,F,p,A,s,S,x,o.m _ _ _ _ _ (λ C D q w H1 F1 T A1 E S1 M G=>?_) (λ _ _ z=>z) q⟩;have f:Ow F H A F1 H1 A1:=G.count λ b=>by rw[zA0];lia
 obtain⟨d,j,q⟩:=qa7.mp q;obtain⟨y,I,j⟩:=zA1.mp j;obtain⟨N,B,a,J,_⟩:=S1.name hi I;rw[n] at a;cases a;refine h F1 H1 v w y C _ d Q (Fp J E) j λ u H3 B3 K k l=>?_
 rw[if_pos rfl] at l;exact q u H3 F1 B3 A1 K (S1.same k) (S1.new l k) (f.trans (l.stp k))
end
section
variable{F:γ->Prop}{H:Hp}{K:Nl}
theorem Ou.lst_inv(r:Ou F H v (.l z ds) B):∃ a vs A,v=.ref a/\H a=some (.l vs)/\On F H vs ds A/\∀ b,A.count b<=B.count b:=by
 cases r with
 | l h r=>exact⟨_,_,_,rfl,h,r,λ b=>by rw[zAs];lia⟩
 | lstZ h f r=>exact⟨_,_,_,rfl,h,r,λ b=>zA3 _⟩
theorem Ou.tup_inv(r:Ou F H v (.q ds) B):∃ a vs,v=.ref a/\H a=some (.q vs)/\On F H vs ds B:=by
 cases r with
 | q h r=>exact⟨_,_,rfl,h,r⟩
theorem Ou.dct_inv(r:Ou F H v (.dct z c) B):∃ a kvs A,v=.ref a/\H a=some (.dK kvs)/\kvs.map (·.1)=c.map (·.1)/\On F H (kvs.map (·.2)) (c.map (·.2)) A/\∀ b,A.count b<=B.count b:=by
 cases r with
 | dct h e r=>exact⟨_,_,_,rfl,h,e,r,λ b=>by rw[zAs];lia⟩
 | dctZ h f e r=>exact⟨_,_,_,rfl,h,e,r,λ b=>zA3 _⟩
theorem Ou.ins_inv(r:Ou F H v (.ins z C c) B):∃ a dx d A,v=.ref a/\H a=some (.ins C dx d)/\d.map (·.1)=c.map (·.1)/\On F H (d.map (·.2)) (c.map (·.2)) A/\∀ b,A.count b<=B.count b:=by
 cases r with
 | ins h e r=>exact⟨_,_,_,_,rfl,h,e,r,λ b=>by rw[zAs];lia⟩
 | insZ h f e r=>exact⟨_,_,_,_,rfl,h,e,r,λ b=>zA3 _⟩
noncomputable def D.elems:D->Option Ds
 | .l _ ds=>some ds
 | .q ds=>some ds
 | _=>none
theorem Ou.elems(r:Ou F H v d B)(h:d.elems=some ds):∃ a vs A,v=.ref a/\(SqL K H a vs∨SqT K H a vs)/\On F H vs ds A/\∀ b,A.count b<=B.count b:=by
 cases d with
 | l z c=>cases h;obtain⟨a,vs,A,e,h,r,q⟩:=r.lst_inv;exact⟨a,vs,A,e,.inl (.inl (.inl h)),r,q⟩
 | q c=>cases h;obtain⟨a,vs,e,h,r⟩:=r.tup_inv;exact⟨a,vs,_,e,.inr (.inl (.inl h)),r,λ _=>zA3 _⟩
 | _=>cases h
theorem On.len(r:On F H vs ds A):vs.length=ds.length:=by
 induction vs generalizing ds A with
 | nil=>cases r;rfl
 | cons v vs a=>cases r with | cons h t=>simp[a t]
theorem qi1(a:H p=none):New H [p]:=⟨λ b=>by rw[zAs];simp;split<;>lia,λ b o e=>by
 have:b≠p:=λ z=>by rw[z,a] at e;cases e
 simp[zAs,Ne.symm this]⟩
theorem qy7(a:H p=none)(r:On F H vs ds []):Ou F (upd H p (.l vs)) (.ref p) (.l false ds) [p]:=.l qc3 (r.same (Same.new a))
theorem qJ6(a:H p=none)(r:On F H vs ds A):Ou F (upd H p (.q vs)) (.ref p) (.q ds) A:=.q qc3 (r.same (Same.new a))
theorem On.get(r:On F H vs ds A)(h:ds[n]? = some d):∃ w B,vs[n]? = some w/\Ou F H w d B/\∀ b,B.count b<=A.count b:=by
 obtain⟨w,B,C,a,c,e,_⟩:=r.kid h;exact⟨w,B,a,c,λ b=>by have:=e b;lia⟩
theorem On.atI{ds:List D}{A:List γ}{i:Int}{d:D}(r:On F H vs ds A)(h:L2.atI ds i=some d):∃ w B,L2.atI vs i=some w/\Ou F H w d B/\∀ b,B.count b<=A.count b:=by
 unfold L2.atI at h ⊢;rw[r.len];cases e:ixN ds.length i with
 | none=>rw[e] at h;cases h
 | some j =>
   rw[e] at h;exact r.get h
theorem On.sub(r:On F H vs ds A)(n m:Nat):∃ B,On F H ((vs.drop n).take m) ((ds.drop n).take m) B/\∀ b,B.count b<=A.count b:=by
 induction n generalizing vs ds A with
 | zero =>
   induction m generalizing vs ds A with
   | zero=>exact⟨[],.nil,λ b=>by simp⟩
   | succ m a =>
     cases r with
     | nil=>exact⟨[],.nil,λ b=>by simp⟩
     | cons h t =>
       obtain⟨B,c,q2⟩:=a t;exact⟨_,.cons h (by simpa using c),λ b=>by simp only[zA0];have:=q2 b;lia⟩
 | succ n a =>
   cases r with
   | nil=>exact⟨[],by simpa using On.nil,λ b=>by simp⟩
   | cons h t =>
     obtain⟨B,c,q2⟩:=a t;exact⟨B,by simpa using c,λ b=>by simp only[zA0];have:=q2 b;lia⟩
noncomputable def D.flat:D->Option V
 | .non=>some .non
 | .bl b=>some (.bl b)
 | .int i=>some (.int i)
 | .str x=>some (.str x)
 | _=>none
theorem Ou.flat(r:Ou F H v d B)(h:d.flat=some w):v=w/\flatV v=true:=by
 cases r<;>cases h<;>exact⟨rfl,rfl⟩
end
noncomputable def big:Nat:=1000000
theorem qj2:big<=Jn:=by decide
section
variable{F:γ->Prop}{H:Hp}
theorem On.imms0(r:On F H vs ds A)(h:D.imms ds=true):On F H vs ds []:=by
 have:=r.imms h
 subst this;exact r
theorem On.rep(r:On F H vs ds []):∀ k:Nat,On F H (Kv k vs).flatten (Kv k ds).flatten []
 | 0=>.nil
 | k+1=>by
   rw[zBu,zBu,zCm,zCm];exact r.append (B:=[]) (r.rep k)
end
noncomputable def gd(p:Prop)[Decidable p](d:D):Option D:=if p then some d else none
theorem qt7{p:Prop}[Decidable p](h:gd p d=some e):p/\d=e:=by
 unfold gd at h;split at h
 . rename_i hp;exact⟨hp,Nj h⟩
 cases h
theorem qi4{p:Prop}[Decidable p](h:p):gd p d=some d:=if_pos h
def Hn:D->D->Option D
 | .int i,.int j=>some (.int (i+j))
 | .str a,.str b=>gd (a.length+b.length<=big) (.str (a++b))
 | .l _ xs,.l _ ys=>gd (D.imms xs=true/\D.imms ys=true/\xs.length+ys.length<=big) (.l false (xs++ys))
 | _,_=>none
def rAddA:R2:=λ x y H Q=>rI0 (λ i j=>.int (i+j)) x y H Q∨(∃ i j,x=.str i/\y=.str j/\i.length+j.length<=Jn/\Q (.str (i++j)) H)∨rCat x y H Q
theorem qh4:OpR X (J' .Add) rAddA:=qaV3.or (qae3.or qaV2)
theorem qh3:A9 true rAddA Hn:=by
 intro F H v w x y B d Q r h q;cases r with | @cons _ _ A _ _ _ e t=>cases t with | @cons _ _ A2 _ _ _ f _ =>
 cases x with
 | int i =>
   cases y with
   | int j=>cases h;cases e;cases f;exact .inl ⟨i,j,rfl,rfl,q _ H [] (.int _) (λ _ _ z=>z) New.nil⟩
   | _=>cases h
 | str a =>
   cases y with
   | str b =>
     obtain⟨c,rfl⟩:=qt7 h;cases e;cases f;exact .inr (.inl ⟨a,b,rfl,rfl,zAk c qj2,q _ H [] (.str _) (λ _ _ z=>z) New.nil⟩)
   | _=>cases h
 | l z s =>
   cases y with
   | l u C =>
     obtain⟨c,rfl⟩:=qt7 h;obtain⟨a,l,_,rfl,m,k,_⟩:=e.lst_inv;obtain⟨b,n,_,rfl,o,q2,_⟩:=f.lst_inv;refine .inr (.inr ⟨a,b,l,n,rfl,rfl,m,o,by rw[k.len,q2.len];exact zAk c.2.2 qj2,λ p g=>?_⟩);exact q _ _ [p] (qy7 g ((k.imms0 c.1).append (q2.imms0 c.2.1))) (Same.new g) (qi1 g)
   | _=>cases h
 | _=>cases h
noncomputable def small(i:Int):Bool:=decide (-(2 ^ 64) < i)&&decide (i < 2 ^ 64)
theorem qT2{i:Int}(h:small i=true):-(2 ^ 64) < i/\i < 2 ^ 64:=by
 have:=zAf.mp h
 exact⟨zAc this.1,zAc this.2⟩
def Gm:D->D->Option D
 | .int i,.int j=>gd ((small i||small j)=true) (.int (i * j))
 | .l _ xs,.int k=>gd (D.imms xs=true/\xs.length * k.toNat<=big/\k < 1000000/\-1000000 < k) (.l false (Kv k.toNat xs).flatten)
 | _,_=>none
def rMulA:R2:=λ x y H Q=>rI CMul (λ i j=>.int (i * j)) x y H Q∨rRep x y H Q
theorem qy5:OpR X (J' .Mult) rMulA:=qaU6.or qaU4
theorem qy4:A9 true rMulA Gm:=by
 intro F H v w x y B d Q r h q;cases r with | @cons _ _ A _ _ _ e t=>cases t with | @cons _ _ A2 _ _ _ f _ =>
 cases x with
 | int i =>
   cases y with
   | int j =>
     obtain⟨b,rfl⟩:=qt7 h;cases e;cases f;refine .inl ⟨i,j,rfl,rfl,?_,q _ H [] (.int _) (λ _ _ z=>z) New.nil⟩;rcases Bool.or_eq_true_iff.mp b with h | h
     . exact .inl (qT2 h)
     exact .inr (qT2 h)
   | _=>cases h
 | l z n =>
   cases y with
   | int k =>
     obtain⟨b,rfl⟩:=qt7 h;obtain⟨a,l,_,rfl,m,g,_⟩:=e.lst_inv;cases f;refine .inr ⟨a,k,l,rfl,rfl,m,by lia,by lia,by rw[g.len];exact zAk b.2.1 qj2,λ p c=>?_⟩;exact q _ _ [p] (qy7 c ((g.imms0 b.1).rep _)) (Same.new c) (qi1 c)
   | _=>cases h
 | _=>cases h
def gI(p:Int->Int->Bool)(f:Int->Int->D):D->D->Option D
 | .int i,.int j=>gd (p i j=true) (f i j)
 | _,_=>none
theorem os_I(a:∀ i j,p i j=true->C i j)(b:∀ F H i j,Ou F H (fv i j) (f i j) []):A9 true (rI C fv) (gI p f):=by
 intro F H v w x y B d Q r h q;cases r with | @cons _ _ A _ _ _ c t=>cases t with | @cons _ _ A2 _ _ _ e _ =>
 cases x with
 | int i =>
   cases y with
   | int j =>
     obtain⟨g,rfl⟩:=qt7 h;cases c;cases e;exact⟨i,j,rfl,rfl,a i j g,q _ H [] (b F H i j) (λ _ _ z=>z) New.nil⟩
   | _=>cases h
 | _=>cases h
theorem F5(a:∀ F H i j,Ou F H (fv i j) (f i j) []):A9 true (rI0 fv) (gI (λ _ _=>true) f):=by
 intro F H v w x y B d Q r h q;obtain⟨i,j,b,c,_,e⟩:=os_I (C:=λ _ _=>True) (fv:=fv) (λ _ _ _=>trivial) a F H v w x y B d Q r h q;exact⟨i,j,b,c,e⟩
def gSub:=gI (λ _ _=>true) λ i j=>.int (i - j)
def gDiv:=gI (λ _ j=>decide (0 < j)&&decide (j < 2 ^ 200)) λ i j=>.int (i / j)
def Ho:=gI (λ _ j=>decide (0 < j)) λ i j=>.int (i % j)
def gLt:=gI (λ _ _=>true) λ i j=>.bl (decide (i < j))
def gLe:=gI (λ _ _=>true) λ i j=>.bl (decide (i<=j))
def gGt:=gI (λ _ _=>true) λ i j=>.bl (decide (j < i))
def gGe:=gI (λ _ _=>true) λ i j=>.bl (decide (j<=i))
theorem qs8:A9 true (rI0 λ i j=>.int (i - j)) gSub:=F5 λ _ _ _ _=>.int _
theorem qaA1:A9 true (rI CDivB λ i j=>.int (i / j)) gDiv:=os_I (λ i j h=>by
 have:=zAf.mp h
 exact⟨zAc this.1,zAc this.2⟩) λ _ _ _ _=>.int _
theorem ql0:A9 true (rI (λ _ j=>0 < j) λ i j=>.int (i % j)) Ho:=os_I (λ i j h=>zAc h) λ _ _ _ _=>.int _
theorem os_lt:A9 true (rI0 λ i j=>.bl (decide (i < j))) gLt:=F5 λ _ _ _ _=>.bl _
theorem os_le:A9 true (rI0 λ i j=>.bl (decide (i<=j))) gLe:=F5 λ _ _ _ _=>.bl _
theorem B9:A9 true (rI0 λ i j=>.bl (decide (j < i))) gGt:=F5 λ _ _ _ _=>.bl _
theorem G5:A9 true (rI0 λ i j=>.bl (decide (j<=i))) gGe:=F5 λ _ _ _ _=>.bl _
noncomputable def D.isN:D->Option Bool
 | .non=>some true
 | .u=>none
 | .hole _=>none
 | _=>some false
theorem Ou.isN(r:Ou F H v d B)(h:d.isN=some b):decide (v=.non)=b:=by
 cases r<;>cases h<;>rfl
def gIs:D->D->Option D
 | x,.non=>x.isN.map .bl
 | .bl a,.bl b=>some (.bl (a == b))
 | _,_=>none
def rIs:R2:=λ x y H Q=>(y=.non/\Q (.bl (decide (x=.non))) H)∨(∃ b c,x=.bl b/\y=.bl c/\Q (.bl (b == c)) H)
theorem Di:A9 true rIs gIs:=by
 intro F H v w x y B d Q r h q;cases r with | @cons _ _ A _ _ _ c t=>cases t with | @cons _ _ A2 _ _ _ f _ =>
 cases y with
 | non =>
   cases f;have h:x.isN.map D.bl=some d:=by cases x<;>exact h
   cases e:x.isN with
   | none=>rw[e] at h;cases h
   | some b =>
     rw[e] at h;cases h;refine .inl ⟨rfl,?_⟩;rw[c.isN e];exact q _ H [] (.bl _) (λ _ _ z=>z) New.nil
 | bl b =>
   cases x with
   | bl a=>cases h;cases c;cases f;exact .inr ⟨a,b,rfl,rfl,q _ H [] (.bl _) (λ _ _ z=>z) New.nil⟩
   | _=>cases h
 | _=>cases x<;>cases h
theorem Da:OpR X (Jo .Is) rIs:=qaU7.or qaU8
theorem qaL3:OpR X (Jo .IsNot) (λ x y H Q=>∃ b c,x=.bl b/\y=.bl c/\Q (.bl (b != c)) H):=by
 intro D8 s f H x y v u Q I a d ⟨b,c,e,e2,q⟩;subst e;subst e2;cases a;cases d;exact PyProof.Rows.isnot_bool ⟨.bl (b != c),H,I,rfl,q⟩
def gIsn:D->D->Option D
 | x,.non=>x.isN.map λ b=>.bl (!b)
 | .bl a,.bl b=>some (.bl (a != b))
 | _,_=>none
def rIsn:R2:=λ x y H Q=>(y=.non/\Q (.bl (!decide (x=.non))) H)∨(∃ b c,x=.bl b/\y=.bl c/\Q (.bl (b != c)) H)
theorem qs9:A9 true rIsn gIsn:=by
 intro F H v w x y B d Q r h q;cases r with | @cons _ _ A _ _ _ c t=>cases t with | @cons _ _ A2 _ _ _ f _ =>
 cases y with
 | non =>
   cases f;have h:x.isN.map (λ b=>D.bl (!b))=some d:=by cases x<;>exact h
   cases e:x.isN with
   | none=>rw[e] at h;cases h
   | some b =>
     rw[e] at h;cases h;refine .inl ⟨rfl,?_⟩;rw[c.isN e];exact q _ H [] (.bl _) (λ _ _ z=>z) New.nil
 | bl b =>
   cases x with
   | bl a=>cases h;cases c;cases f;exact .inr ⟨a,b,rfl,rfl,q _ H [] (.bl _) (λ _ _ z=>z) New.nil⟩
   | _=>cases h
 | _=>cases x<;>cases h
theorem qo8:OpR X (Jo .IsNot) rIsn:=qaL2.or qaL3
noncomputable def Dw(f:D->D->Option Bool):List D->List D->Option Bool
 | [],[]=>some true
 | x::xs,y::ys=>(f x y).bind λ a=>(Dw f xs ys).bind λ b=>some (a&&b)
 | _,_=>some false
def eqF(x y:D):Option Bool:=match x.flat,y.flat with
 | some v,some w=>some (eqV v w)
 | _,_=>none
noncomputable def D.d0:D->Bool
 | .dct _ []=>true
 | _=>false
def eqZ(x y:D):Option Bool:=if (x.d0&&y.d0)=true then some true else eqF x y
def eqN:Nat->D->D->Option Bool
 | n+1,.l _ xs,.l _ ys=>Dw (eqN n) xs ys
 | n+1,.q xs,.q ys=>Dw (eqN n) xs ys
 | _,x,y=>eqZ x y
theorem qz7{f:D->D->Option Bool}:∀{xs ys:List D}{b:Bool},Dw f xs ys=some b->∃ e:Nat->Bool,(∀ i x y,xs[i]? = some x->ys[i]? = some y->f x y=some (e i))/\b=((Ku (min xs.length ys.length)).all e&&xs.length == ys.length)
 | [],[],b,h=>by cases h;exact⟨λ _=>true,λ i x y h=>by simp at h,by simp⟩
 | [],y::ys,b,h=>by cases h;exact⟨λ _=>true,λ i x y h=>by simp at h,by simp⟩
 | x::xs,[],b,h=>by cases h;exact⟨λ _=>true,λ i x y _ h=>by simp at h,by simp⟩
 | x::xs,y::ys,b,h=>by
   obtain⟨a,k,h⟩:=zA1.mp h;obtain⟨o,l,h⟩:=zA1.mp h;cases h;obtain⟨e,m,q2⟩:=qz7 l;refine⟨λ i=>match i with | 0=>a | i+1=>e i,λ i c d g j=>?_,?_⟩
   . cases i with
     | zero =>
       have n:x=c:=by simpa using g
       have e2:y=d:=by simpa using j
       subst n;subst e2;exact k
     | succ i=>exact m i c d (by simpa using g) (by simpa using j)
   rw[q2,zAm,zAm,Nat.add_min_add_right,List.range_succ_eq_map,K5,M5];show _=(_&&_&&_)
   have:(xs.length+1 == ys.length+1)=(xs.length == ys.length):=by
     by_cases h:xs.length=ys.length
     . simp[h]
     simp[h]
   rw[this,<- Bool.and_assoc];rfl
section
variable{F:γ->Prop}{H:Hp}
theorem Ou.eqF(r1:Ou F H v x A)(c:Ou F H w y B)(h:LV.eqF x y=some b):flatV v=true/\flatV w=true/\eqV v w=b:=by
 unfold LV.eqF at h;cases a:x.flat with
 | none=>rw[a] at h;cases h
 | some d =>
   cases e2:y.flat with
   | none=>rw[a,e2] at h;cases h
   | some e =>
     rw[a,e2] at h;obtain⟨rfl,f1⟩:=r1.flat a;obtain⟨rfl,f2⟩:=c.flat e2;exact⟨f1,f2,Nj h⟩
theorem Ou.d0(r:Ou F H v x A)(h:x.d0=true):∃ a,v=.ref a/\H a=some (.dK []):=by
 cases x with
 | dct z b =>
   cases b with
   | nil =>
     cases r with
     | dct e q _=>exact⟨_,rfl,by rw[e,List.map_eq_nil_iff.mp q]⟩
     | dctZ e _ q _=>exact⟨_,rfl,by rw[e,List.map_eq_nil_iff.mp q]⟩
   | cons=>cases h
 | _=>cases h
theorem Ou.eqZ(r1:Ou F H v x A)(d:Ou F H w y B)(h:LV.eqZ x y=some b):(flatV v=true/\flatV w=true/\eqV v w=b)∨(b=true/\∃ a c,v=.ref a/\w=.ref c/\H a=some (.dK [])/\H c=some (.dK [])):=by
 unfold LV.eqZ at h;split at h
 . rename_i hd
   obtain⟨e,f⟩:=zAf.mp hd;obtain⟨a,g,i⟩:=r1.d0 e;obtain⟨c,e2,q2⟩:=d.d0 f;cases h;exact .inr ⟨rfl,a,c,g,e2,i,q2⟩
 exact .inl (r1.eqF d h)
theorem qW0(n:Nat)(x y:D):(eqN (n+1) x y=LV.eqZ x y)∨(∃ z xs z' ys,x=.l z xs/\y=.l z' ys)∨∃ xs ys,x=.q xs/\y=.q ys:=by
 cases x with
 | l z xs=>cases y with
   | l z' ys=>exact .inr (.inl ⟨_,_,_,_,rfl,rfl⟩)
   | _=>exact .inl rfl
 | q xs=>cases y with
   | q ys=>exact .inr (.inr ⟨_,_,rfl,rfl⟩)
   | _=>exact .inl rfl
 | _=>exact .inl rfl
theorem qR7(x y:D):eqN 0 x y=LV.eqZ x y:=by cases x<;>cases y<;>rfl
theorem qW1(f:∀{v:V}{x y:D}{A B:List γ}{b:Bool},Ou F H v x A->Ou F H v y B->eqN n x y=some b->b=true):∀{vs:List V}{xs ys:List D}{A B:List γ}{b:Bool},On F H vs xs A->On F H vs ys B->Dw (eqN n) xs ys=some b->b=true:=by
 intro vs
 induction vs with
 | nil=>intro xs ys A B b c d h;cases c;cases d;cases h;rfl
 | cons v vs e =>
   intro xs ys A B b c d h;cases c with | cons p1 t1=>cases d with | cons g t2 =>
   obtain⟨a,i,h⟩:=zA1.mp h;obtain⟨k,j,h⟩:=zA1.mp h;cases h;rw[f p1 g i,e t1 t2 j];rfl
theorem qai7:∀{n:Nat}{v:V}{x y:D}{A B:List γ}{b:Bool},Ou F H v x A->Ou F H v y B->eqN n x y=some b->b=true:=by
 intro n
 induction n with
 | zero =>
   intro v x y A B b c d h;rw[qR7] at h;rcases c.eqZ d h with⟨f1,f2,rfl⟩ | ⟨rfl,_⟩
   . exact qz5 f1
   rfl
 | succ n k =>
   intro v x y A B b c d h;rcases qW0 n x y with e | ⟨z,l,q,m,rfl,rfl⟩ | ⟨l,m,rfl,rfl⟩
   . rw[e] at h
     rcases c.eqZ d h with⟨f1,f2,rfl⟩ | ⟨rfl,_⟩
     . exact qz5 f1
     rfl
   . obtain⟨a,o,_,rfl,g,i,_⟩:=c.lst_inv
     obtain⟨p,j,_,e,f,q2,_⟩:=d.lst_inv;cases e;rw[g] at f;cases f;exact qW1 k i q2 h
   obtain⟨a,o,rfl,g,i⟩:=c.tup_inv;obtain⟨p,j,e,f,q2⟩:=d.tup_inv;cases e;rw[g] at f;cases f;exact qW1 k i q2 h
theorem On.getV(r:On F H vs ds A)(h:vs[n]? = some w):∃ d B,ds[n]? = some d/\Ou F H w d B:=by
 have c:=r.len;have e:n < vs.length:=(zA4.mp h).1;obtain⟨f,B,a,b,_⟩:=r.get (n:=n) (d:=ds[n]'(by lia)) (by simp);rw[h] at a;cases a;exact⟨_,B,by simp,b⟩
theorem qV8(r1:Ou F H v x A)(d:Ou F H w y B)(h:LV.eqZ x y=some b):EqD H n v w b:=by
 rcases r1.eqZ d h with⟨f1,f2,rfl⟩ | ⟨rfl,a,a',rfl,rfl,q1,q2⟩
 . exact .flat f1 f2
 by_cases c:a=a'
 . subst c;exact .same a
 exact .dcts c q1 q2
theorem qV9:∀{n:Nat}{v w:V}{x y:D}{A B:List γ}{b:Bool},Ou F H v x A->Ou F H w y B->eqN n x y=some b->EqD H n v w b:=by
 intro n
 induction n with
 | zero =>
   intro v w x y A B b c d h;rw[qR7] at h;exact qV8 c d h
 | succ n I =>
   intro v w x y A B b c d h;rcases qW0 n x y with e | ⟨z,J,L,K,rfl,rfl⟩ | ⟨J,K,rfl,rfl⟩
   . rw[e] at h
     exact qV8 c d h
   . obtain⟨a,m,_,rfl,k,g,_⟩:=c.lst_inv
     obtain⟨o,r,_,rfl,l,q2,_⟩:=d.lst_inv;by_cases f:a=o
     . subst f
       cases qai7 (n:=n+1) c d h;exact .same a
     obtain⟨e,s,rfl⟩:=qz7 h;rw[<- g.len,<- q2.len];by_cases j:m.length=r.length
     . rw[j,Nat.min_self,zBc,Bool.and_true,<- j]
       refine .lsts f k l j λ i p q t e2=>?_
       obtain⟨x,_,u,C⟩:=g.getV t;obtain⟨y,_,E,G⟩:=q2.getV e2;exact I C G (s i x y u E)
     have:(m.length == r.length)=false:=by simpa using j
     rw[this,Bool.and_false];exact .lens f k l j
   obtain⟨a,m,rfl,k,g⟩:=c.tup_inv;obtain⟨o,r,rfl,l,q2⟩:=d.tup_inv;by_cases f:a=o
   . subst f
     cases qai7 (n:=n+1) c d h;exact .same a
   obtain⟨e,s,rfl⟩:=qz7 h;rw[<- g.len,<- q2.len];refine .tups f k l λ i p q t e2=>?_
   obtain⟨x,_,u,C⟩:=g.getV t;obtain⟨y,_,E,G⟩:=q2.getV e2;exact I C G (s i x y u E)
end
def eqT:D->D->Option Bool
 | .l _ xs,.l _ ys=>Dw (eqN 20) xs ys
 | .q xs,.q ys=>Dw (eqN 20) xs ys
 | .l _ _,.q _=>some false
 | .q _,.l _ _=>some false
 | .l _ _,y=>y.flat.map λ _=>false
 | .q _,y=>y.flat.map λ _=>false
 | x,.l _ _=>x.flat.map λ _=>false
 | .dct _ _,.q _=>some false
 | x,.q _=>x.flat.map λ _=>false
 | x,y=>eqZ x y
theorem Ou.flatV(r:Ou F H v d B)(h:(d.flat.map λ _=>false)=some b):L2.flatV v=true/\b=false:=by
 cases e:d.flat with
 | none=>rw[e] at h;cases h
 | some w=>rw[e] at h;cases h;exact⟨(r.flat e).2,rfl⟩
theorem Ou.rc(r1:Ou F H v x A)(d:Ou F H w y B)(h:eqT x y=some b):RcD H v w b:=by
 have flat:LV.eqZ x y=some b->RcD H v w b:=λ h=>by
   rcases r1.eqZ d h with⟨f1,f2,rfl⟩ | ⟨rfl,a,k,rfl,rfl,l,q2⟩
   . exact .flat f1 f2
   exact .dcts l q2
 cases x with
 | l z G =>
   obtain⟨a,o,_,rfl,g,l,_⟩:=r1.lst_inv;cases y with
   | l J m =>
     obtain⟨k,j,_,rfl,c,q2,_⟩:=d.lst_inv;obtain⟨e,r,rfl⟩:=qz7 h;rw[<- l.len,<- q2.len];by_cases n:o.length=j.length
     . rw[n,Nat.min_self,zBc,Bool.and_true,<- n]
       refine .lsts g c n λ i p q s e2=>?_
       obtain⟨x,_,t,u⟩:=l.getV s;obtain⟨y,_,C,E⟩:=q2.getV e2;exact qV9 u E (r i x y t C)
     have:(o.length == j.length)=false:=by simpa using n
     rw[this,Bool.and_false];exact .lens g c n
   | q m=>obtain⟨k,j,rfl,c,q2⟩:=d.tup_inv;cases h;exact .lt g c
   | _=>obtain⟨f,rfl⟩:=d.flatV h;exact .lf g f
 | q G =>
   obtain⟨a,o,rfl,g,l⟩:=r1.tup_inv;cases y with
   | q m =>
     obtain⟨k,j,rfl,c,q2⟩:=d.tup_inv;obtain⟨e,r,rfl⟩:=qz7 h;rw[<- l.len,<- q2.len];refine .tups g c λ i p q s e2=>?_
     obtain⟨x,_,t,u⟩:=l.getV s;obtain⟨y,_,C,E⟩:=q2.getV e2;exact qV9 u E (r i x y t C)
   | l z m=>obtain⟨k,j,_,rfl,c,q2,_⟩:=d.lst_inv;cases h;exact .tl g c
   | _=>obtain⟨f,rfl⟩:=d.flatV h;exact .tf g f
 | dct z I =>
   cases y with
   | l z m=>cases h
   | q m =>
     obtain⟨k,j,rfl,c,q2⟩:=d.tup_inv;cases h;cases r1 with
     | dct e _ _=>exact .dt e c
     | dctZ e _ _ _=>exact .dt e c
   | _=>exact flat h
 | _ =>
   cases y with
   | l z m=>obtain⟨k,j,_,rfl,c,q2,_⟩:=d.lst_inv;obtain⟨f,rfl⟩:=r1.flatV h;exact .fl c f
   | q m=>obtain⟨k,j,rfl,c,q2⟩:=d.tup_inv;obtain⟨f,rfl⟩:=r1.flatV h;exact .ft c f
   | _=>exact flat h
def gEq(x y:D):Option D:=(eqT x y).map .bl
def gNe(x y:D):Option D:=(eqT x y).map λ b=>.bl (!b)
theorem Bk:A9 true rEqD gEq:=by
 intro F H v w x y B d Q r h q;cases r with | @cons _ _ A _ _ _ a t=>cases t with | @cons _ _ A2 _ _ _ c _ =>
 obtain⟨b,e,rfl⟩:=zAj.mp h;exact⟨b,a.rc c e,q _ H [] (.bl _) (λ _ _ z=>z) New.nil⟩
theorem Ef:A9 true rNeD gNe:=by
 intro F H v w x y B d Q r h q;cases r with | @cons _ _ A _ _ _ a t=>cases t with | @cons _ _ A2 _ _ _ c _ =>
 obtain⟨b,e,rfl⟩:=zAj.mp h;exact⟨b,a.rc c e,q _ H [] (.bl _) (λ _ _ z=>z) New.nil⟩
def flats:List D->Option (List V)
 | []=>some []
 | d::r=>d.flat.bind λ v=>(flats r).bind λ vs=>some (v::vs)
theorem On.flats:∀{vs a:List V}{ds:List D}{A:List γ},On F H vs ds A->LV.flats ds=some a->vs=a/\vs.all L2.flatV=true
 | _,_,_,_,.nil,h=>by cases h;exact⟨rfl,rfl⟩
 | _,_,_,_,.cons r t,h=>by
   obtain⟨v,b,h⟩:=zA1.mp h;obtain⟨vs,c,h⟩:=zA1.mp h;cases h;obtain⟨rfl,f⟩:=r.flat b;obtain⟨rfl,g⟩:=t.flats c;exact⟨rfl,by rw[K5,f,g];rfl⟩
def Hq(neg:Bool)(x y:D):Option D:=x.flat.bind λ v=>y.elems.bind λ ys=>(flats ys).bind λ a=>some (.bl (if neg then !inV v a else inV v a))
theorem Ey:A9 true (rIn K neg) (Hq neg):=by
 intro F H v w x y B d Q r h q;cases r with | @cons _ _ A _ _ _ b t=>cases t with | @cons _ _ A2 _ _ _ c _ =>
 obtain⟨n,e,h⟩:=zA1.mp h;obtain⟨o,i,h⟩:=zA1.mp h;obtain⟨p,j,h⟩:=zA1.mp h;cases h;obtain⟨rfl,f⟩:=b.flat e;obtain⟨a,k,A3,rfl,l,m,_⟩:=c.elems (K:=K) i;obtain⟨rfl,g⟩:=m.flats j;exact⟨a,k,rfl,l,f,g,q _ H [] (.bl _) (λ _ _ z=>z) New.nil⟩
def gIx(x y:D):Option D:=match y with
 | .int i=>x.elems.bind λ ys=>atI ys i
 | _=>none
theorem Ak:A9 false (rIx K) gIx:=by
 intro F H v w x y B d Q r h q;cases r with | @cons _ _ A _ _ _ l t=>cases t with | @cons _ _ A2 _ _ _ m _ =>
 cases y with
 | int i =>
   obtain⟨u,n,h⟩:=zA1.mp h;cases m;obtain⟨a,j,A3,rfl,c,o,p⟩:=l.elems (K:=K) n;obtain⟨f,B',k,g,s⟩:=o.atI h;have e:=q f H B' g (λ _ _ z=>z) (by
     rw[if_neg (by decide)];exact λ b=>.inl (by rw[zA0];have:=s b;have:=p b;lia))
   rcases c with c | c
   . exact .inl ⟨a,j,i,f,rfl,rfl,c,k,e⟩
   exact .inr (.inl ⟨a,j,i,f,rfl,rfl,c,k,e⟩)
 | _=>cases h
section
variable{F:γ->Prop}{H:Hp}
theorem On.one_inv(r:On F H vs [x] B):∃ v,vs=[v]/\Ou F H v x B:=by
 cases r with | cons h t=>cases t;exact⟨_,rfl,by rw[zAd];exact h⟩
theorem On.two_inv(r:On F H vs [x,y] B):∃ v w A C,vs=[v,w]/\Ou F H v x A/\Ou F H w y C/\∀ b,B.count b=A.count b+C.count b:=by
 cases r with | cons h t=>cases t with | cons a t=>cases t;exact⟨_,_,_,_,rfl,h,a,λ b=>by simp[zA0]⟩
end
noncomputable def fx1(g:D->Option D):Ds->Option D
 | [x]=>g x
 | _=>none
noncomputable def fx2(g:D->D->Option D):Ds->Option D
 | [x,y]=>g x y
 | _=>none
def CS1(nw:Bool)(r:List V->Hp->VK->Prop)(g:D->Option D):Prop:=∀ F H v x B d (Q:VK),Ou F H v x B->g x=some d ->
 (∀ v H' B',Ou F H' v d B'->Same H H'->(if nw=true then New H B' else Sub H B B')->Q v H')->r [v] H Q
theorem CS1.ops(h:CS1 nw r g):OpS nw r (fx1 g):=by
 intro F H c a B d Q r e q
 match a,e with
 | [x],e =>
   obtain⟨v,rfl,b⟩:=r.one_inv;exact h F H v x B d Q b e q
def Gn(x:D):Option D:=match x with
 | .str z=>gd (z.length<=big) (.int z.length)
 | .dct _ kvs=>some (.int kvs.length)
 | x=>x.elems.map λ ys=>.int ys.length
def Iq(K:Nl):List V->Hp->VK->Prop:=λ xs H Q=>(∃ p ys,xs=[.ref p]/\(SqL K H p ys∨SqT K H p ys)/\Q (.int ys.length) H)∨(∃ z,xs=[.str z]/\z.length<=Jn/\Q (.int z.length) H)∨(∃ a kvs,xs=[V.ref a]/\H a=some (.dK kvs)/\Q (.int kvs.length) H)
theorem qA0:CallR X (.builtin "len") (Iq X.K):=qS3.or (qS2.or qar0)
theorem qz9:CS1 true (Iq K) Gn:=by
 intro F H v x B d Q r h q;have seq:∀ b,x.elems=some b->d=.int b.length->Iq K [v] H Q:=λ b e j=>by
   subst j;obtain⟨a,k,A,rfl,f,i,_⟩:=r.elems (K:=K) e;refine .inl ⟨a,k,rfl,f,?_⟩;rw[i.len];exact q _ H [] (.int _) (λ _ _ z=>z) New.nil
 cases x with
 | str z=>obtain⟨l,rfl⟩:=qt7 h;cases r;exact .inr (.inl ⟨z,rfl,zAk l qj2,q _ H [] (.int _) (λ _ _ z=>z) New.nil⟩)
 | dct z g =>
   cases h;obtain⟨a,c,A,rfl,f,e,i,_⟩:=r.dct_inv;refine .inr (.inr ⟨a,c,rfl,f,?_⟩)
   have:c.length=g.length:=by have:=congrArg Kx e;simpa using this
   rw[this];exact q _ H [] (.int _) (λ _ _ z=>z) New.nil
 | l z b=>cases h;exact seq b rfl rfl
 | q b=>cases h;exact seq b rfl rfl
 | _=>cases h
noncomputable def gAbs:D->Option D
 | .int i=>some (.int (if i < 0 then -i else i))
 | _=>none
noncomputable def gInt:D->Option D
 | .int i=>some (.int i)
 | .bl b=>some (.int (if b then 1 else 0))
 | _=>none
theorem qaY6:CS1 true (λ xs H Q=>(∃ i,xs=[.int i]/\Q (.int i) H)∨∃ k,xs=[.bl k]/\Q (.int (if k then 1 else 0)) H) gInt:=by
 intro F H v x B d Q r h q;cases x with
 | int i=>cases h;cases r;exact .inl ⟨i,rfl,q _ H [] (.int _) (λ _ _ z=>z) New.nil⟩
 | bl i=>cases h;cases r;exact .inr ⟨i,rfl,q _ H [] (.int _) (λ _ _ z=>z) New.nil⟩
 | _=>cases h
def G6(x:D):Option D:=x.elems.bind λ ys=>gd (D.imms ys=true) (.l false ys)
theorem qD5:CS1 true (λ xs H Q=>∃ p ys,xs=[.ref p]/\(SqL K H p ys∨SqT K H p ys)/\∀ l,H l=none->Q (.ref l) (upd H l (.l ys))) G6:=by
 intro F H v x B d Q r h q;obtain⟨ys,e,h⟩:=zA1.mp h;obtain⟨c,rfl⟩:=qt7 h;obtain⟨a,f,A,rfl,g,i,_⟩:=r.elems (K:=K) e;exact⟨a,f,rfl,g,λ p b=>q _ _ [p] (qy7 b (i.imms0 c)) (Same.new b) (qi1 b)⟩
noncomputable def D.intO:D->Option Int
 | .int k=>some k
 | _=>none
def pairK:D->Option (Key×D)
 | .q [a,x]=>a.intO.bind λ k=>if x.imm=true then some (.inl k,x) else none
 | _=>none
def qY6:List D->Option (List (Key×D))
 | []=>some []
 | d::r=>(pairK d).bind λ p=>(qY6 r).bind λ ps=>some (p::ps)
noncomputable def Ez(kvs:List (Key×D))(k:Key)(v:D):List (Key×D) :=
 if (kvs.any λ a=>decide (a.1=k))=true then kvs.map (λ a=>if a.1=k then (a.1,v) else a) else kvs++[(k,v)]
def qu5(kvs more:List (Key×D)):List (Key×D):=more.foldl (λ acc a=>Ez acc a.1 a.2) kvs
abbrev KP(F:γ->Prop)(H:Hp)(kvs:List (Key×V))(a:List (Key×D)):Prop:=Paired (λ(p:Key×V)(q:Key×D)=>p.1=q.1/\Ou F H p.2 q.2 []) kvs a
section
variable{F:γ->Prop}{H:Hp}
theorem KP.maps(h:KP F H kvs b):kvs.map (·.1)=b.map (·.1)/\On F H (kvs.map (·.2)) (b.map (·.2)) []:=by
 induction h with
 | nil=>exact⟨rfl,.nil⟩
 | cons a _ c=>exact⟨by rw[zAx,zAx,a.1,c.1],.cons (A:=[]) (B:=[]) a.2 c.2⟩
theorem KP.any(h:KP F H kvs b)(k:Key):(kvs.any λ c=>decide (c.1=k))=b.any λ c=>decide (c.1=k):=by
 induction h with
 | nil=>rfl
 | cons a _ d=>rw[zD1,zD1,a.1,d]
theorem KP.append(h:KP F H kvs b)(h':KP F H kvs' kds'):KP F H (kvs++kvs') (b++kds'):=by
 induction h with
 | nil=>exact h'
 | cons a _ c=>exact .cons a c
theorem KP.mapk(h:KP F H kvs c)(r:Ou F H v d []):KP F H (kvs.map λ b=>if b.1=k then (b.1,v) else b) (c.map λ b=>if b.1=k then (b.1,d) else b):=by
 induction h with
 | nil=>exact .nil
 | @cons p q _ _ a _ ih =>
   refine .cons ?_ ih;show (if p.1=k then (p.1,v) else p).1=(if q.1=k then (q.1,d) else q).1/\Ou F H (if p.1=k then (p.1,v) else p).2 (if q.1=k then (q.1,d) else q).2 [];rw[<- a.1];split
   . exact⟨rfl,r⟩
   exact a
theorem KP.put(h:KP F H kvs a)(r:Ou F H v d []):KP F H (putK kvs k v) (Ez a k d):=by
 unfold putK Ez;rw[h.any k];split
 . exact h.mapk r
 exact h.append (.cons ⟨rfl,r⟩ .nil)
theorem KP.merge(h:KP F H more mored):∀{kvs:List (Key×V)}{b:List (Key×D)},KP F H kvs b->KP F H (qB9 kvs more) (qu5 b mored):=by
 induction h with
 | nil=>exact λ h=>h
 | @cons p q _ _ a _ ih =>
   intro kvs b h
   have:=ih (h.put (k:=p.1) a.2)
   rw[a.1] at this;show KP F H (qB9 (putK kvs p.1 p.2) _) (qu5 (Ez b q.1 q.2) _);rw[a.1];exact this
theorem qaz8(r:On F H vs ds A)(h:qY6 ds=some ps):∃ kvs,qaw4 H vs kvs/\KP F H kvs ps:=by
 induction ds generalizing vs A ps with
 | nil=>cases r;cases h;exact⟨[],.nil,.nil⟩
 | cons d ds l =>
   cases r with
   | cons m t =>
     obtain⟨p,b,h⟩:=zA1.mp h;obtain⟨ps,n,h⟩:=zA1.mp h;cases h;obtain⟨kvs,o,q2⟩:=l t n;unfold pairK at b;split at b
     . rename_i k x
       obtain⟨i,g,b⟩:=zA1.mp b;split at b
       . rename_i hm
         cases b;obtain⟨a,u,rfl,q,e⟩:=m.tup_inv;obtain⟨v,s,A1,A2,rfl,f,c,_⟩:=e.two_inv;cases k with
         | int j =>
           cases g;cases f
           have:=c.imm hm
           subst this;exact⟨(.inl i,s)::kvs,.cons ⟨a,rfl,q⟩ o,.cons ⟨rfl,c⟩ q2⟩
         | _=>cases g
       cases b
     cases b
theorem qaM0(b:H p=none)(r:KP F H kvs a):Ou F (upd H p (.dK kvs)) (.ref p) (.dct false a) [p]:=.dct qc3 r.maps.1 (r.maps.2.same (Same.new b))
end
def G7(x:D):Option D:=match x with
 | .l _ ys=>(qY6 ys).map λ ps=>.dct false (qu5 [] ps)
 | _=>none
theorem qav7:CS1 true qaI3 G7:=by
 intro F H v x B d Q r h q;cases x with
 | l z k =>
   obtain⟨l,e,rfl⟩:=zAj.mp h;obtain⟨a,f,A,rfl,g,i,_⟩:=r.lst_inv;obtain⟨b,j,q2⟩:=qaz8 i e;exact⟨a,f,b,rfl,g,j,λ p c=>q _ _ [p] (qaM0 c (q2.merge .nil)) (Same.new c) (qi1 c)⟩
 | _=>cases h
noncomputable def D.kind:D->Option String
 | .non=>some "NoneType" | .bl _=>some "bool" | .int _=>some "int" | .str _=>some "str" | .l _ _=>some "list" | .q _=>some "tuple" | .dct _ _=>some "dict"
 | _=>none
theorem Ou.kind(r:Ou F H v d B)(h:d.kind=some t):Dg H v=some t:=by
 cases r with
 | q e _=>cases h;exact qaC0 e
 | l e _=>cases h;exact qag6 e
 | lstZ e _ _=>cases h;exact qag6 e
 | dct e _ _=>cases h;exact qau4 e
 | dctZ e _ _ _=>cases h;exact qau4 e
 | _=>cases h<;>rfl
noncomputable def Go(n:String):Bool:=n == "bool" || n == "int" || n == "str" || n == "list" || n == "tuple" || n == "dict"
def gIsi(x y:D):Option D:=match y with
 | .ty n=>if Go n=true then x.kind.map λ t=>.bl (Fa t n) else none
 | _=>none
def CS2(nw:Bool)(r:List V->Hp->VK->Prop)(g:D->D->Option D):Prop:=∀ F H v w x y A B d (Q:VK),Ou F H v x A->Ou F H w y B->g x y=some d ->
 (∀ v H' B',Ou F H' v d B'->Same H H'->(if nw=true then New H B' else Sub H (A++B) B')->Q v H')->r [v,w] H Q
theorem CS2.ops(h:CS2 nw r g):OpS nw r (fx2 g):=by
 intro F H l c B d Q r e q
 match c,e with
 | [x,y],e =>
   obtain⟨v,w,A,C,rfl,f,i,j⟩:=r.two_inv;refine h F H v w x y A C d Q f i e λ u H' B' k s a=>q u H' B' k s ?_
   cases nw with
   | true=>exact a
   | false =>
     rw[if_neg (by decide)] at a ⊢;exact λ b=>(a b).imp (λ z=>by rw[zA0] at z;have:=j b;lia) id
theorem qv8:CS2 true rIsi gIsi:=by
 intro F H v w x y A B d Q b c e q;cases y with
 | ty n =>
   cases c;have e:(if Go n=true then x.kind.map λ t=>D.bl (Fa t n) else none)=some d:=e;by_cases a:Go n=true
   . rw[if_pos a] at e
     obtain⟨t,f,rfl⟩:=zAj.mp e;refine⟨v,n,t,rfl,b.kind f,?_,q _ H [] (.bl _) (λ _ _ z=>z) New.nil⟩;simp only[Go,Bool.or_eq_true,zBz] at a;simp only[zAi,zBd,zD2];rcases a with ((((h | h) | h) | h) | h) | h
     . exact .inl h
     . exact .inr (.inl h)
     . exact .inr (.inr (.inl h))
     . exact .inr (.inr (.inr (.inl h)))
     . exact .inr (.inr (.inr (.inr (.inl h))))
     exact .inr (.inr (.inr (.inr (.inr h))))
   rw[if_neg a] at e;cases e
 | _=>cases e
def D.isC(C:γ)(x:D):Option D:=match x with
 | .ins _ C' _=>if C'=C then some (.bl true) else none
 | x=>x.kind.map λ _=>.bl false
def gIsO(C:γ)(x y:D):Option D:=match y with
 | .adr a=>if a=C then x.isC C else none
 | _=>none
theorem qaY5:CS2 true (rIsO C) (gIsO C):=by
 intro F H v w x y A B d Q f g e q;cases y with
 | adr a =>
   cases g;have e:(if a=C then x.isC C else none)=some d:=e;by_cases b:a=C
   . rw[if_pos b] at e
     subst b;have kind:(x.kind.map λ _=>D.bl false)=some d->rIsO a [v,.ref a] H Q:=λ e=>by
       obtain⟨t,i,rfl⟩:=zAj.mp e;exact⟨_,rfl,.inr ⟨t,f.kind i,q _ H [] (.bl _) (λ _ _ z=>z) New.nil⟩⟩
     cases x with
     | ins z C' k =>
       have e2:(if C'=a then some (D.bl true) else none)=some d:=e;by_cases b:C'=a
       . rw[if_pos b] at e2
         cases e2;subst b;obtain⟨p,j,c,_,rfl,h,_,_,_⟩:=f.ins_inv;exact⟨_,rfl,.inl ⟨p,j,c,rfl,h,q _ H [] (.bl _) (λ _ _ z=>z) New.nil⟩⟩
       rw[if_neg b] at e2;cases e2
     | _=>exact kind e
   rw[if_neg b] at e;cases e
 | _=>cases e
noncomputable def gMax2:D->D->Option D
 | .int i,.int j=>some (.int (if j > i then j else i))
 | _,_=>none
noncomputable def gMin2:D->D->Option D
 | .int i,.int j=>some (.int (if j < i then j else i))
 | _,_=>none
theorem qav6:CS2 true (λ xs H Q=>∃ i j,xs=[.int i,.int j]/\Q (.int (if j > i then j else i)) H) gMax2:=by
 intro F H v w x y A B d Q a b e q;cases x with
 | int i=>cases y with
   | int j=>cases e;cases a;cases b;exact⟨i,j,rfl,q _ H [] (.int _) (λ _ _ z=>z) New.nil⟩
   | _=>cases e
 | _=>cases e
theorem qai8:CS2 true (λ xs H Q=>∃ i j,xs=[.int i,.int j]/\Q (.int (if j < i then j else i)) H) gMin2:=by
 intro F H v w x y A B d Q a b e q;cases x with
 | int i=>cases y with
   | int j=>cases e;cases a;cases b;exact⟨i,j,rfl,q _ H [] (.int _) (λ _ _ z=>z) New.nil⟩
   | _=>cases e
 | _=>cases e
noncomputable def bools:List D->Option (List Bool)
 | []=>some []
 | .bl b::r=>(bools r).map λ bs=>b::bs
 | _=>none
theorem On.bools:∀{vs:List V}{ds:List D}{A:List γ}{bs:List Bool},On F H vs ds A->LV.bools ds=some bs->vs=bs.map V.bl:=by
 intro vs ds
 induction ds generalizing vs with
 | nil=>intro A bs r h;cases r;cases h;rfl
 | cons d ds a =>
   intro A bs r h;cases r with
   | cons c t =>
     cases d with
     | bl b =>
       obtain⟨e,f,rfl⟩:=zAj.mp h;cases c;rw[a t f];rfl
     | _=>cases h
def gAll(x:D):Option D:=match x with
 | .l _ ys=>(bools ys).map λ bs=>.bl (bs.all id)
 | _=>none
theorem qaE4:CS1 true (λ xs H Q=>∃(a:γ)(bs:List Bool),xs=[.ref a]/\SqL K H a (bs.map V.bl)/\Q (.bl (bs.all id)) H) gAll:=by
 intro F H v x B d Q r h q;cases x with
 | l z f =>
   obtain⟨bs,b,rfl⟩:=zAj.mp h;obtain⟨a,g,A,rfl,c,e,_⟩:=r.lst_inv;cases e.bools b;exact⟨a,bs,rfl,.inl (.inl c),q _ H [] (.bl _) (λ _ _ z=>z) New.nil⟩
 | _=>cases h
noncomputable def intsD:List D->Option (List Int)
 | []=>some []
 | .int i::r=>(intsD r).map λ is=>i::is
 | _=>none
theorem On.intsD:∀{vs:List V}{ds:List D}{A:List γ}{bs:List Int},On F H vs ds A->LV.intsD ds=some bs->vs=bs.map V.int:=by
 intro vs ds
 induction ds generalizing vs with
 | nil=>intro A bs r h;cases r;cases h;rfl
 | cons d ds a =>
   intro A bs r h;cases r with
   | cons c t =>
     cases d with
     | int b =>
       obtain⟨e,f,rfl⟩:=zAj.mp h;cases c;rw[a t f];rfl
     | _=>cases h
def Br(xs:List D)(lo hi:Option Int):List D:=(xs.drop (HT.sIx xs.length 0 lo)).take (HT.sIx xs.length xs.length hi - HT.sIx xs.length 0 lo)
def gSl(x:D)(lo hi:Option Int):Option D:=match x with
 | .l _ ys=>gd (D.imms (Br ys lo hi)=true) (.l false (Br ys lo hi))
 | .scr ns=>some (.l false ((ns.drop (HT.sIx ns.length 0 lo)).take (HT.sIx ns.length ns.length hi - HT.sIx ns.length 0 lo) |>.map .int))
 | .q ys=>gd (D.imms (Br ys lo hi)=true/\(Br ys lo hi).length < ys.length) (.q (Br ys lo hi))
 | _=>none
theorem qE7{F:γ->Prop}{H:Hp}:∀ ns:List Int,On F H (ns.map V.int) (ns.map D.int) []
 | []=>.nil
 | n::r=>.cons (A:=[]) (B:=[]) (.int n) (qE7 r)
theorem os_sl(r:Ou F H v x B)(h:gSl x lo hi=some d)(f:∀ ys,x≠.q ys)(q:∀ v H' B',Ou F H' v d B'->Same H H'->New H B'->Q v H'):rSlL K v lo hi H Q:=by
 cases x with
 | l z ys =>
   obtain⟨g,rfl⟩:=qt7 h;obtain⟨a,i,A,rfl,j,c,_⟩:=r.lst_inv;refine⟨a,i,rfl,.inl (.inl j),λ p b=>q _ _ [p] (qy7 b ?_) (Same.new b) (qi1 b)⟩;obtain⟨B',k,l⟩:=c.sub (HT.sIx ys.length 0 lo) (HT.sIx ys.length ys.length hi - HT.sIx ys.length 0 lo);unfold Fx;rw[c.len];exact k.imms0 g
 | scr m =>
   cases h;cases r with
   | scr e =>
     refine⟨_,_,rfl,.inl (.inr ⟨_,e⟩),λ p b=>q _ _ [p] (qy7 b ?_) (Same.new b) (qi1 b)⟩;unfold Fx;rw[<- Mx,<- Lm,zA8];exact qE7 _
 | q ys=>exact absurd rfl (f ys)
 | _=>cases h
def D.fld(C:γ)(f:Str):D->Option D
 | .ins _ C' fs=>if C'=C then fs.lookup f else none
 | _=>none
theorem qaf9:∀{c:List (Str×V)}{a:List (Str×D)}{A:List γ}{f:Str}{d:D},c.map (·.1)=a.map (·.1)->On F H (c.map (·.2)) (a.map (·.2)) A->a.lookup f=some d->∃ v B,c.lookup f=some v/\Ou F H v d B/\∀ b,B.count b<=A.count b:=by
 intro c
 induction c with
 | nil=>intro a A f d e r h;cases a with
   | nil=>cases h
   | cons _ _=>simp at e
 | cons p c i =>
   intro a A f d e r h;cases a with
   | nil=>simp at e
   | cons q a =>
     obtain⟨k,v⟩:=p;obtain⟨j,s⟩:=q;have l:k=j:=by simp at e;exact e.1
     have e2:c.map (·.1)=a.map (·.1):=by simp at e;simpa using e.2
     subst l;cases r with
     | @cons _ _ A1 _ _ A2 r1 t =>
       rw[zAw] at h ⊢;cases g:f == k with
       | true=>rw[g] at h;cases h;exact⟨v,A1,rfl,r1,λ b=>by rw[zA0];lia⟩
       | false =>
         rw[g] at h;obtain⟨w,B,m,n,o⟩:=i e2 t h;exact⟨w,B,m,n,λ b=>by rw[zA0];have:=o b;lia⟩
theorem qaU1(c:Cls K C)(n:qg8 K C f):OpS1 false (λ x H Q=>∃ a C dx fs v,x=.ref a/\H a=some (.ins C dx fs)/\Cls K C/\qg8 K C f/\fs.lookup f=some v/\Q v H) (D.fld C f):=by
 intro F H v x B d Q r h q;cases x with
 | ins z C' fs =>
   have i:(if C'=C then fs.lookup f else none)=some d:=h;by_cases j:C'=C
   . rw[if_pos j] at i
     subst j;obtain⟨a,dx,k,A,rfl,l,e,m,g⟩:=r.ins_inv;obtain⟨w,B',o,p,s⟩:=qaf9 e m i;refine⟨a,C',dx,k,w,rfl,l,c,n,o,q w H B' p (λ _ _ z=>z) ?_⟩;rw[if_neg (by decide)];exact λ b=>.inl (by have:=s b;have:=g b;lia)
   rw[if_neg j] at i;cases i
 | _=>cases h
noncomputable def D.key:D->Option Key
 | .int i=>some (.inl i)
 | .str x=>some (.inr x)
 | _=>none
noncomputable def Dm(a:List (Key×D))(k:Key):Option D:=(a.find? λ b=>decide (b.1=k)).map (·.2)
theorem Ou.key(r:Ou F H v x B)(h:x.key=some k):v=kV k:=by
 cases r<;>cases h<;>rfl
theorem qaF7:∀{kvs:List (Key×V)}{a:List (Key×D)}{A:List γ}(k:Key),kvs.map (·.1)=a.map (·.1)->On F H (kvs.map (·.2)) (a.map (·.2)) A ->
   (Dm a k=none/\Er kvs k=none)∨∃ v d B,Dm a k=some d/\Er kvs k=some v/\Ou F H v d B/\∀ b,B.count b<=A.count b:=by
 intro kvs
 induction kvs with
 | nil=>intro a A k e r;cases a with
   | nil=>exact .inl ⟨rfl,rfl⟩
   | cons _ _=>simp at e
 | cons p kvs g =>
   intro a A k e r;cases a with
   | nil=>simp at e
   | cons q a =>
     obtain⟨c,v⟩:=p;obtain⟨i,d⟩:=q;have j:c=i:=by simp at e;exact e.1
     have e2:kvs.map (·.1)=a.map (·.1):=by simp at e;simpa using e.2
     subst j;cases r with
     | @cons _ _ A1 _ _ A2 r1 t =>
       by_cases f:c=k
       . exact .inr ⟨v,d,A1,by simp[Dm,f],qM5 f,r1,λ b=>by rw[zA0];lia⟩
       have l:Dm ((c,d)::a) k=Dm a k:=by simp[Dm,zC5,f]
       rw[l,qM6 (p:=(c,v)) f];rcases g k e2 t with h | ⟨w,m,B,n,o,s,u⟩
       . exact .inl h
       exact .inr ⟨w,m,B,n,o,s,λ b=>by rw[zA0];have:=u b;lia⟩
section
variable{c:Vc}{X:Cx}{a b e:Kf}{M L own nw:Bool}{fa fb f:FV}{r:R2}{g:D->D->Option D}{w E t:VT}{pos:Pos}
theorem vnm(i:Nat)(b:X.N[i]? = some x:=by rfl)(d:Vis X.env.scope x:=by first | exact Ol rfl | exact Oj (Ol rfl) | exact Oj (Oj rfl))(e:N' x:=by decide)(a:(x == ("__classdict__" : Str))=false:=by decide) :
   VV c X (.Name x pos) false (rdN i):=qaF5 (qo7 b d e a) (qp3 b)
noncomputable def kC(d:D):FV:=λ _=>some d
theorem Ae{i:Int}:VV c X (.Constant (.int i) j pos) true (kC (.int i)):=F4 qP7 λ _ _=>.int _
theorem vbl{i:Bool}:VV c X (.Constant (.bool i) j pos) true (kC (.bl i)):=F4 pe_bl λ _ _=>.bl _
theorem Bc:VV c X (.Constant .none j pos) true (kC .non):=F4 qaT7 λ _ _=>.non
theorem F6{i:Str}:VV c X (.Constant (.str i) j pos) true (kC (.str i)):=F4 qaT4 λ _ _=>.str _
theorem vgi{x:Str}{n:Int}{k:Tok}(hm:X.mg x=some (.int n k))(a:Gl X x:=by rfl)(b:N' x:=by decide):VV c X (.Name x pos) true (kC (.int n)):=F4 (qaK2 hm a b) λ _ _=>.int _
theorem vcls(C:γ)(hm:X.mg x=some (.ref C))(a:Gl X x:=by rfl)(b:N' x:=by decide):VV c X (.Name x pos) true (kC (.adr C)):=F4 (qaT5 C hm a b) λ _ _=>.adr _
theorem vty(n:String)(hm:X.mg x=none)(a:Gl X x:=by rfl)(b:Jr x=some (.type n):=by rfl)(d:x ≠ "__name__" := by decide)(e:N' x:=by decide):VV c X (.Name x pos) true (kC (.ty n)):=F4 (qaT8 n hm a b d e) λ _ _=>.ty _
theorem vpow{i j:Int}(k:Int)(a:i ^ j.toNat=k:=by decide)(b:0<=j:=by decide)(h1:j<=1000000:=by decide)(h2:i.natAbs < 2 ^ 64:=by decide):VV c X (.BinOp (.Constant (.int i) m p) .Pow (.Constant (.int j) n q) pos) true (kC (.int k)):=F4 (qaK0 k a b h1 h2) λ _ _=>.int _
def P2(X:Cx)(e a b:Kf)(r:R2):Prop:=∀ w E,PE X a w->PE X b E->PE X e (tOp r w E)
def T2(X:Cx)(e a b:Kf)(r:R2):Prop:=∀ w E,PE X a w->PE X b E->PT X e (tTest (tOp r w E))
theorem Am{op:Operator}(c:OpR X (J' op) r):P2 X (.BinOp a op b pos) a b r:=λ _ _ d e=>pe_op c d e
theorem A8(c:OpR X (Jo op) r)(hm:behindInMarks op b=false):P2 X (.Compare a [op] [b] pos) a b r:=λ _ _ d e=>qaK4 c d e hm
theorem Aq(c:OpR X (Jo op) r)(hm:behindInMarks op b=false):T2 X (.Compare a [op] [b] pos) a b r:=λ _ _ d e=>qaI7 c d e hm
theorem At(c:IxR X r)(d:qaj9 b:=by exact λ _ _=>rfl):P2 X (.Subscript a b pos) a b r:=λ _ _ e f=>pe_ix c e f d
theorem v2(p:P2 X e a b r)(h:A9 nw r g)(d:VV c X a M fa)(f:VV c X b L fb):VV c X e (nw||(M&&L)) (f2 g fa fb):=⟨PE.mono (p _ _ d.h f.h) (op_vv h)⟩
theorem e2(p:P2 X e a b r)(h:A9 true r g)(d:VE c X a w)(f:VE c X b E):VE c X e (t2 g w E):=⟨PE.mono (p _ _ d.h f.h) (op_ee d f h),qas1 d f⟩
theorem e2v(p:P2 X e a b r)(h:A9 true r g)(d:VE c X a w)(f:VV c X b L fb):VE c X e (t2v g w fb):=⟨PE.mono (p _ _ d.h f.h) (op_ev d h),qax3 d⟩
theorem e2P(p:P2 X e a b r)(h:A9 false r g)(d:VE c X a w)(f:VE c X b E):VE c X e (t2 g w E):=⟨PE.mono (p _ _ d.h f.h) (qaV1 d f h),qas1 d f⟩
theorem e2vP(p:P2 X e a b r)(h:A9 false r g)(d:VE c X a w)(f:VV c X b L fb):VE c X e (Im g w fb):=⟨PE.mono (p _ _ d.h f.h) (qaV0 d h),qak9 d⟩
theorem e2n(i:Nat)(p:P2 X e (.Name x p0) b r)(h:A9 true r g)(a:VE c X b E)(f:X.N[i]? = some x:=by rfl)(j:Vis X.env.scope x:=by first | exact Ol rfl | exact Oj (Ol rfl) | exact Oj (Oj rfl))(k:N' x:=by decide)(d:(x == ("__classdict__" : Str))=false:=by decide) :
   VE c X e (t2n g i E):=⟨λ D8 s o H Q I q=>p _ _ (qo7 f j k d) a.h D8 s o H Q I (op_ne a h (qp3 f D8 o H s I) q),qax4 a⟩
noncomputable def D.asB:D->Option Bool
 | .bl b=>some b
 | _=>none
theorem Ou.asB(r:Ou F H v d B)(h:d.asB=some k):v=.bl k:=by
 cases r<;>cases h<;>rfl
def ttV(f:FV):VTT:=λ ds Q _=>orF ((f ds).bind D.asB) λ b=>Q b ds
def ttE(t:VT):VTT:=λ ds Q xe=>t ds (λ d a=>orF d.asB λ b=>Q b a) xe
theorem qaG1:∀ o H Q,Dt c (ttV f) o H Q->liftV c own f o H (λ x H'=>∃ k,x=.bl k/\Q k H'):=by
 rintro o H Q ⟨F,a,A,h,S,x,q⟩;obtain⟨b,e,q⟩:=qa7.mp q;obtain⟨d,g,e2⟩:=zA1.mp e;exact⟨F,a,A,d,S,g,λ v H' B r s _=>⟨b,r.asB e2,q H' F A (S.same s) (.same s)⟩⟩
theorem qax1(h:VE c X e t):∀ o H Q,Dt c (ttE t) o H Q->Bi c t o H (λ x H'=>∃ k,x=.bl k/\Q k H'):=by
 rintro o H Q ⟨F,a,A,f,S,x,q⟩;refine⟨F,a,A,f,S,x,h.m _ _ _ _ _ (λ d g q v H1 F1 T A1 i S1 l j=>?_) (λ _ _ z=>z) q⟩;obtain⟨b,e,q⟩:=qa7.mp q;exact⟨b,i.asB e,q H1 F1 A1 S1 (j.count λ b=>by rw[zA0];lia)⟩
theorem qaa8:∀ ds (Q Q':Bool->Ds->Prop) (xe b:XKd),(∀ d a,Q d a->Q' d a)->(∀ x a,xe x a->b x a)->ttV f ds Q xe->ttV f ds Q' b:=λ ds Q Q' xe b c _=>qa4 λ d=>c d ds
theorem qM7(h:VE c X e t):∀ ds (Q Q':Bool->Ds->Prop) (xe b:XKd),(∀ d a,Q d a->Q' d a)->(∀ x a,xe x a->b x a)->ttE t ds Q xe->ttE t ds Q' b:=λ ds Q Q' xe b f g=>h.m _ _ _ _ _ (λ d a=>qa4 λ z=>f z a) g
theorem tv(h:VV c X e own f)(a:∀ whole,isTrue e X.env whole=(do let v <- whole;standAt e.pos;holding [v] (truthy v)):=by intro _;rfl):VTe c X e (ttV f):=⟨PT.mono (qaI6 h.h a) qaG1,qaa8⟩
theorem te(h:VE c X e t)(a:∀ whole,isTrue e X.env whole=(do let v <- whole;standAt e.pos;holding [v] (truthy v)):=by intro _;rfl):VTe c X e (ttE t):=⟨PT.mono (qaI6 h.h a) (qax1 h),qM7 h⟩
theorem q2(p:T2 X e a b r)(h:A9 nw r g)(d:VV c X a M fa)(f:VV c X b L fb):VTe c X e (ttV (f2 g fa fb)):=⟨PT.mono (p _ _ d.h f.h) λ o H Q q=>op_vv h o H _ (qaG1 o H Q q),qaa8⟩
theorem q2v(p:P2 X e a b r)(i:T2 X e a b r)(h:A9 true r g)(d:VE c X a w)(f:VV c X b L fb):VTe c X e (ttE (t2v g w fb)):=⟨PT.mono (i _ _ d.h f.h) λ o H Q q=>op_ev d h o H _ (qax1 (e2v p h d f) o H Q q),qM7 (e2v p h d f)⟩
theorem q2n(i:Nat)(p:P2 X e (.Name x p0) b r)(l:T2 X e (.Name x p0) b r)(h:A9 true r g)(d:VE c X b E)(f:X.N[i]? = some x:=by rfl)(j:Vis X.env.scope x:=by first | exact Ol rfl | exact Oj (Ol rfl) | exact Oj (Oj rfl))(k:N' x:=by decide)(a:(x == ("__classdict__" : Str))=false:=by decide) :
   VTe c X e (ttE (t2n g i E)):=⟨λ D8 s o H Q I q=>l _ _ (qo7 f j k a) d.h D8 s o H Q I (op_ne d h (qp3 f D8 o H s I) (qax1 (e2n i p h d f j k a) o H Q q)),qM7 (e2n i p h d f j k a)⟩
variable{y G:VTT}{rest:List Kf}
def Eg(t:VTT):VTT:=λ ds Q xe=>t ds (λ b a=>Q (!b) a) xe
theorem Bn(h:VTe c X a y):VTe c X (.UnaryOp .Not a pos) (Eg y):=by
 refine⟨PT.mono (qaS7 h.h) λ o H Q ⟨F,e,A,f,S,x,q⟩=>⟨F,e,A,f,S,x,q⟩,λ e Q Q' f g i j=>h.m _ _ _ _ _ (λ b d=>i _ d) j⟩
structure VTw(c:Vc)(X:Cx)(e:Kf)(t:VTT):Prop where
 h:PW X e (Dt c t)
 m:∀ ds (Q Q':Bool->Ds->Prop) (xe xe':XKd),(∀ d ds',Q d ds'->Q' d ds')->(∀ x ds',xe x ds'->xe' x ds')->t ds Q xe->t ds Q' xe'
theorem VTw.te(h:VTw c X e y):VTe c X e y:=⟨h.h.pt,h.m⟩
theorem E2(h:VTe c X a y):VTw c X (.BoolOp .And [a] pos) y:=⟨qaI5 h.h,h.m⟩
theorem Gp(h:VTe c X a y):VTw c X (.BoolOp .Or [a] pos) y:=⟨qaS5 h.h,h.m⟩
def ttAnd(t u:VTT):VTT:=λ ds Q xe=>t ds (λ k ds1=>if k=true then u ds1 Q xe else Q false ds1) xe
def ttOr(t u:VTT):VTT:=λ ds Q xe=>t ds (λ k ds1=>if k=true then Q true ds1 else u ds1 Q xe) xe
theorem qU2{k:Bool->St->Hp->(Bool->Hp->Prop)->Prop}{K:Bool->Ds->(Bool->Ds->Prop)->XKd->Prop}(h:VTe c X a y)(i:∀(b:Bool) F ds A xe o H (Q:Bool->Hp->Prop),Ox c F H o ds A->Xc c xe F H A->K b ds (λ f e=>∀ H' F' A',Ox c F' H' o e A'->Ow F H A F' H' A'->Q f H') xe->k b o H Q)(hm:∀(b:Bool) ds (Q Q':Bool->Ds->Prop) (xe:XKd),(∀ d e,Q d e->Q' d e)->K b ds Q xe->K b ds Q' xe):∀ o H Q,Dt c (λ ds Q xe=>y ds (λ b ds1=>K b ds1 Q xe) xe) o H Q->Dt c y o H (λ b H1=>k b o H1 Q):=by
 rintro o H Q ⟨F,ds,A,xe,S,x,q⟩;refine⟨F,ds,A,xe,S,x,h.m _ _ _ _ _ (λ b ds1 q H1 F1 A1 S1 g=>?_) (λ _ _ z=>z) q⟩;exact i b F1 ds1 A1 xe o H1 Q S1 (x.step g) (hm b ds1 _ _ xe (λ f e q H' F' A' S' j=>q H' F' A' S' (g.trans j)) q)
theorem F7(g:VTe c X a y)(i:VTw c X (.BoolOp .And (b::rest) pos) G):VTw c X (.BoolOp .And (a::b::rest) pos) (ttAnd y G):=by
 refine⟨PW.mono (qaS6 g.h i.h) ?_,λ d Q Q' e l f j=>g.m _ _ _ _ _ (λ k n q=>?_) j⟩
 . refine qU2 (k:=λ b o H Q=>if b=true then Dt c G o H Q else Q false H) (K:=λ b d Q e=>if b=true then G d Q e else Q false d) g ?_ ?_
   . intro b F d A e o H Q S x q
     cases b with
     | true=>rw[if_pos rfl] at q ⊢;exact⟨F,d,A,e,S,x,q⟩
     | false=>rw[if_neg (by decide)] at q ⊢;exact q H F A S Ow.refl
   intro b d Q Q' e f;cases b with
   | true=>rw[if_pos rfl,if_pos rfl];exact i.m _ _ _ _ _ f λ _ _ z=>z
   | false=>rw[if_neg (by decide),if_neg (by decide)];exact f _ _
 cases k with
 | true=>rw[if_pos rfl] at q ⊢;exact i.m _ _ _ _ _ f j q
 | false=>rw[if_neg (by decide)] at q ⊢;exact f _ _ q
theorem tor(g:VTe c X a y)(i:VTw c X (.BoolOp .Or (b::rest) pos) G):VTw c X (.BoolOp .Or (a::b::rest) pos) (ttOr y G):=by
 refine⟨PW.mono (pw_or g.h i.h) ?_,λ d Q Q' e l f j=>g.m _ _ _ _ _ (λ k n q=>?_) j⟩
 . refine qU2 (k:=λ b o H Q=>if b=true then Q true H else Dt c G o H Q) (K:=λ b d Q e=>if b=true then Q true d else G d Q e) g ?_ ?_
   . intro b F d A e o H Q S x q
     cases b with
     | false=>rw[if_neg (by decide)] at q ⊢;exact⟨F,d,A,e,S,x,q⟩
     | true=>rw[if_pos rfl] at q ⊢;exact q H F A S Ow.refl
   intro b d Q Q' e f;cases b with
   | false=>rw[if_neg (by decide),if_neg (by decide)];exact i.m _ _ _ _ _ f λ _ _ z=>z
   | true=>rw[if_pos rfl,if_pos rfl];exact f _ _
 cases k with
 | false=>rw[if_neg (by decide)] at q ⊢;exact i.m _ _ _ _ _ f j q
 | true=>rw[if_pos rfl] at q ⊢;exact f _ _ q
end
section
variable{c:Vc}{X:Cx}{a b e:Kf}{oa ob own nw:Bool}{fa fb f:FV}{ta tb t:VT}{Y:Pos}{rest:List Kf}
def tSeqE(ta:VT)(k:D->VT):VT:=λ ds Q xe=>ta ds (λ x ds1=>k x ds1 Q xe) xe
theorem qaB6{k:V->St->Hp->VK->Prop}(i:VE c X a ta)(hm:∀ x ds (Q Q':DK) (xe f:XKd),(∀ d e,Q d e->Q' d e)->(∀ x e,xe x e->f x e)->K x ds Q xe->K x ds Q' f)(j:∀ F H W v x T,Ou F H v x T->∀ Q,(∃ ds A xe,Ox c F H W ds A/\Xc c xe F H A/\K x ds (λ d e=>∀ v H' F' T A',Ou F' H' v d T->Ox c F' H' W e A'->Ok F' H' (T++A')->Ow F H A F' H' (T++A')->Q v H') xe)->k v W H Q) :
   ∀ W H Q,Bi c (tSeqE ta K) W H Q->Bi c ta W H (λ x H1=>k x W H1 Q):=by
 rintro W H Q ⟨F,ds,A,xe,S,x,q⟩;refine⟨F,ds,A,xe,S,x,i.m _ _ _ _ _ (λ d g q v H1 F1 T A1 l S1 p n=>?_) (λ _ _ z=>z) q⟩;have h:Ow F H A F1 H1 A1:=n.count λ b=>by rw[zA0];lia
 exact j F1 H1 W v d T l Q ⟨g,A1,xe,S1,x.step h,hm d g _ _ _ _ (λ t e q w H' F' T' A' r S' o s=>q w H' F' T' A' r S' o (h.trans s)) (λ _ _ z=>z) q⟩
def G8(ta tb:VT):VT:=tSeqE ta λ x ds Q xe=>orF x.asB λ k=>if k=true then tb ds Q xe else Q (.bl false) ds
theorem qK1{p q a b:Prop}(h1:p->a)(h2:q->b):(if k=true then p else q)->(if k=true then a else b):=by
 cases k with
 | true=>rw[if_pos rfl,if_pos rfl];exact h1
 | false=>rw[if_neg (by decide),if_neg (by decide)];exact h2
theorem qaj7(g:VE c X e tb):∀(x:D) ds (Q Q':DK) (xe b:XKd),(∀ d a,Q d a->Q' d a)->(∀ x a,xe x a->b x a)->(orF x.asB λ k=>if k=true then tb ds Q xe else Q (.bl false) ds)->(orF x.asB λ k=>if k=true then tb ds Q' b else Q' (.bl false) ds) :=
 λ x ds Q Q' xe b f h=>qa4 λ k=>qK1 (g.m _ _ _ _ _ f h) (f _ _)
theorem Ir{op:PySem.BoolOp}(h:VE c X a ta):VE c X (.BoolOp op [a] Y) ta:=⟨qaK1 h.h,h.m⟩
theorem Gq(e:VE c X a ta)(f:VE c X (.BoolOp .And (b::rest) Y) tb):VE c X (.BoolOp .And (a::b::rest) Y) (G8 ta tb):=by
 refine⟨PE.mono (qaK6 e.h f.h) ?_,λ l Q Q' g i p n=>e.m _ _ _ _ _ (λ d j=>qaj7 f d j Q Q' g i p n) n⟩;refine qaB6 (k:=λ v W H Q=>∃ o,v=.bl o/\if o=true then Bi c tb W H Q else Q (.bl false) H) e (qaj7 f) ?_;rintro F H W v x T r Q ⟨l,A,g,S,s,q⟩;obtain⟨k,t,q⟩:=qa7.mp q;refine⟨k,r.asB t,?_⟩;cases k with
 | true=>rw[if_pos rfl] at q ⊢;exact⟨F,l,A,g,S,s,q⟩
 | false=>rw[if_neg (by decide)] at q ⊢;exact q _ H F [] A (.bl _) S S.ok Ow.refl
variable{qc:VTT}
def tIfE(qc:VTT)(ta tb:VT):VT:=λ ds Q xe=>qc ds (λ k ds1=>if k=true then ta ds1 Q xe else tb ds1 Q xe) xe
theorem eif(i:VTe c X cd qc)(j:VE c X a ta)(l:VE c X b tb):VE c X (.IfExp cd a b Y) (tIfE qc ta tb):=by
 refine⟨PE.mono (qaz4 i.h j.h l.h) ?_,λ t Q Q' f w u n=>i.m _ _ _ _ _ (λ k e=>qK1 (j.m _ _ _ _ _ u n) (l.m _ _ _ _ _ u n)) n⟩;rintro W H Q ⟨F,t,A,f,S,x,q⟩;refine⟨F,t,A,f,S,x,i.m _ _ _ _ _ (λ k e q H1 F1 A1 S1 g=>?_) (λ _ _ z=>z) q⟩;cases k with
 | true=>rw[if_pos rfl] at q ⊢;exact⟨F1,e,A1,f,S1,x.step g,j.m _ _ _ _ _ (λ d p q v H' F' T A' r S' o s=>q v H' F' T A' r S' o (g.trans s)) (λ _ _ z=>z) q⟩
 | false=>rw[if_neg (by decide)] at q ⊢;exact⟨F1,e,A1,f,S1,x.step g,l.m _ _ _ _ _ (λ d p q v H' F' T A' r S' o s=>q v H' F' T A' r S' o (g.trans s)) (λ _ _ z=>z) q⟩
def fAnd(fa fb:FV):FV:=λ ds=>(fa ds).bind λ x=>x.asB.bind λ k=>if k=true then fb ds else some (.bl false)
def fOr(fa fb:FV):FV:=λ ds=>(fa ds).bind λ x=>x.asB.bind λ k=>if k=true then some (.bl true) else fb ds
def fNot(fa:FV):FV:=λ ds=>(fa ds).bind λ x=>x.asB.map λ k=>.bl (!k)
theorem Hr{op:PySem.BoolOp}(h:VV c X a oa fa):VV c X (.BoolOp op [a] Y) oa fa:=⟨qaK1 h.h⟩
theorem vand(m:VV c X a oa fa)(n:VV c X (.BoolOp .And (b::rest) Y) ob fb):VV c X (.BoolOp .And (a::b::rest) Y) ob (fAnd fa fb):=by
 refine⟨PE.mono (qaK6 m.h n.h) λ W H Q g=>?_⟩;obtain⟨F,i,A,d,S,e,q⟩:=g;obtain⟨x,p,e⟩:=zA1.mp e;obtain⟨k,r,e⟩:=zA1.mp e;refine⟨F,i,A,x,S,p,λ v H1 B1 s f y=>⟨k,s.asB r,?_⟩⟩;cases k with
 | true=>rw[if_pos rfl] at e ⊢;exact⟨F,i,A,d,S.same f,e,λ w H2 B2 t u j=>q w H2 B2 t (f.trans u) λ l=>⟨(j l).one,λ b o e=>(j l).new b o (f b o e)⟩⟩
 | false=>rw[if_neg (by decide)] at e ⊢;cases e;exact q _ H1 [] (.bl _) f λ _=>New.nil
theorem vor(m:VV c X a oa fa)(n:VV c X (.BoolOp .Or (b::rest) Y) ob fb):VV c X (.BoolOp .Or (a::b::rest) Y) ob (fOr fa fb):=by
 refine⟨PE.mono (pe_or m.h n.h) λ W H Q g=>?_⟩;obtain⟨F,i,A,d,S,e,q⟩:=g;obtain⟨x,p,e⟩:=zA1.mp e;obtain⟨k,r,e⟩:=zA1.mp e;refine⟨F,i,A,x,S,p,λ v H1 B1 s f y=>⟨k,s.asB r,?_⟩⟩;cases k with
 | false=>rw[if_neg (by decide)] at e ⊢;exact⟨F,i,A,d,S.same f,e,λ w H2 B2 t u j=>q w H2 B2 t (f.trans u) λ l=>⟨(j l).one,λ b o e=>(j l).new b o (f b o e)⟩⟩
 | true=>rw[if_pos rfl] at e ⊢;cases e;exact q _ H1 [] (.bl _) f λ _=>New.nil
theorem vnot(f:VV c X a oa fa):VV c X (.UnaryOp .Not a Y) true (fNot fa):=by
 refine⟨PE.mono (qaT6 f.h) λ W H Q b=>?_⟩;obtain⟨F,g,A,d,S,e,q⟩:=b;obtain⟨x,i,e⟩:=zA1.mp e;obtain⟨k,j,rfl⟩:=zAj.mp e;exact⟨F,g,A,x,S,i,λ v H1 B1 l m n=>⟨k,l.asB j,q _ H1 [] (.bl _) m λ _=>New.nil⟩⟩
noncomputable def gNeg:D->Option D
 | .int i=>some (.int (-i))
 | _=>none
theorem qaT9:OpS1 true (rU λ i=>.int (-i)) gNeg:=by
 intro F H v x B d Q r h q;cases x with
 | int i=>cases h;cases r;exact⟨i,rfl,q _ H [] (.int _) (λ _ _ z=>z) New.nil⟩
 | _=>cases h
theorem vneg(b:VV c X a oa fa):VV c X (.UnaryOp .USub a Y) true (f1 gNeg fa):=⟨PE.mono (pe_un qaR4 b.h) (op_v (nw:=true) qaT9)⟩
theorem Be{f:Str}(b:X.K=K)(d:VV c X a oa fa)(e:Cls K C)(n:qg8 K C f)(g:Jt a f X.env (eval a X.env)=eval a X.env:=by rfl):VV c X (.Attribute a f Y) oa (f1 (D.fld C f) fa):=by
 subst b;exact⟨PE.mono (qaK3 d.h g) (op_v (nw:=false) (qaU1 e n))⟩
variable{rc:List V->Hp->VK->Prop}{gc:Ds->Option D}{x:Str}{p:Pos}{Z:List Kf}{fs:Ds->Option Ds}{tos:VTA}
def Ba(gc:Ds->Option D)(fs:Ds->Option Ds):FV:=λ ds=>(fs ds).bind gc
theorem vbi{id:String}(d:CallR X (.builtin id) rc)(h:OpS nw rc gc)(hm:X.mg x=none)(f:VVs c X (e::Z) own fs)(g:Gl X x:=by rfl)(i:Jr x=some (.builtin id):=by rfl)(j:x ≠ "__name__" := by decide)(a:N' x:=by decide)(k:Jm (e::Z) X.env=(false,eval e X.env)::Jm Z X.env:=by rfl)(b:((backTo Y (Jm Z X.env)).any λ x=>x.1)=false:=by rfl) :
   VV c X (.Call (.Name x p) (e::Z) [] Y) (nw||own) (Ba gc fs):=⟨PE.mono (cbi d hm f.h g i j a k b) (qaL1 h)⟩
theorem Fq{id:String}(d:CallR X (.type id) rc)(h:OpS nw rc gc)(hm:X.mg x=none)(f:VVs c X (e::Z) own fs)(g:Gl X x:=by rfl)(i:Jr x=some (.type id):=by rfl)(j:x ≠ "__name__" := by decide)(a:N' x:=by decide)(k:Jm (e::Z) X.env=(false,eval e X.env)::Jm Z X.env:=by rfl)(b:((backTo Y (Jm Z X.env)).any λ x=>x.1)=false:=by rfl) :
   VV c X (.Call (.Name x p) (e::Z) [] Y) (nw||own) (Ba gc fs):=⟨PE.mono (cty d hm f.h g i j a k b) (qaL1 h)⟩
theorem ebi{id:String}(f:CallR X (.builtin id) rc)(h:OpS true rc gc)(hm:X.mg x=none)(a:VOs c X (e::Z) tos)(g:Gl X x:=by rfl)(i:Jr x=some (.builtin id):=by rfl)(j:x ≠ "__name__" := by decide)(b:N' x:=by decide)(k:Jm (e::Z) X.env=(false,eval e X.env)::Jm Z X.env:=by rfl)(d:((backTo Y (Jm Z X.env)).any λ x=>x.1)=false:=by rfl) :
   VE c X (.Call (.Name x p) (e::Z) [] Y) (tcO gc tos):=⟨PE.mono (cbi f hm a.h g i j b k d) (opc_o a h),qax2 a⟩
def gLst(xs:Ds):Option D:=gd (D.imms xs=true/\xs.length<=big) (.l false xs)
def gTup(xs:Ds):Option D:=gd (D.imms xs=true/\xs.length<=big) (.q xs)
theorem Bs(k:VVs c X Z own fs):VV c X (.List Z Y) true (Ba gLst fs):=by
 refine⟨PE.mono (qaz3 k.h) λ W H Q f=>?_⟩;obtain⟨F,l,A,d,S,e,q⟩:=f;obtain⟨m,n,e2⟩:=zA1.mp e;obtain⟨g,rfl⟩:=qt7 e2;refine⟨F,l,A,m,S,n,λ r H1 B1 i j s=>⟨by rw[i.len];exact zAk g.2 qj2,λ p a=>?_⟩⟩;exact q _ _ [p] (qy7 a (i.imms0 g.1)) (j.trans (Same.new a)) λ _=>⟨(qi1 a).one,λ b o e=>(qi1 a).new b o (j b o e)⟩
theorem B6(i:VVs c X Z own fs):VV c X (.Tuple Z k Y) true (Ba gTup fs):=by
 refine⟨PE.mono (qaJ9 i.h) λ W H Q a=>?_⟩;obtain⟨F,j,A,d,S,e,q⟩:=a;obtain⟨l,m,e2⟩:=zA1.mp e;obtain⟨b,rfl⟩:=qt7 e2;refine⟨F,j,A,l,S,m,λ o H1 B1 f n r=>⟨by rw[f.len];exact zAk b.2 qj2,λ p g=>?_⟩⟩;exact q _ _ [] (qJ6 g (f.imms0 b.1)) (n.trans (Same.new g)) λ _=>New.nil
def FO:=Ds->Option (Option Int)
inductive qaR0(c:Vc)(f:FO)(W:St)(H:Hp)(Q:Option Int->Hp->Prop):Prop
 | mk (F:γ->Prop) (ds:Ds) (A:List γ) (i:Option Int) (S:Ox c F H W ds A) (e:f ds=some i) (q:∀ H',Same H H'->Q i H'):qaR0 c f W H Q
def qaV9(c:Vc)(f:FO):TO:=qaR0 c f
structure VPO(c:Vc)(X:Cx)(e:Option Kf)(f:FO):Prop where
 h:PO X e (qaV9 c f)
theorem PO.mono{X:Cx}{e:Option Kf}{t t':TO}(h:PO X e t)(i:∀ W H Q,t' W H Q->t W H Q):PO X e t':=λ D8 s W H Q I q=>h D8 s W H Q I (i W H Q q)
noncomputable def foN:FO:=λ _=>some none
noncomputable def D.asI:D->Option Int
 | .int i=>some i
 | _=>none
theorem Ou.asI(r:Ou F H v d B)(h:d.asI=some k):v=.int k:=by
 cases r<;>cases h<;>rfl
def foS(f:FV):FO:=λ ds=>(f ds).bind λ d=>d.asI.map some
theorem G9:VPO c X none foN:=⟨PO.mono qad5 λ W H Q ⟨F,a,A,i,S,e,q⟩=>by cases e;exact q H λ _ _ z=>z⟩
theorem Ha(h:VV c X e own f):VPO c X (some e) (foS f):=by
 refine⟨PO.mono (qad4 h.h) λ W H Q a=>?_⟩;obtain⟨F,b,A,i,S,e,q⟩:=a;obtain⟨d,g,e2⟩:=zA1.mp e;obtain⟨j,k,rfl⟩:=zAj.mp e2;exact⟨F,b,A,d,S,g,λ v H' B r s _=>⟨j,r.asI k,q H' s⟩⟩
noncomputable def noT:D->Bool
 | .q _=>false
 | _=>true
def fsl(fa:FV)(lo hi:FO):FV:=λ ds=>(fa ds).bind λ x=>(lo ds).bind λ l=>(hi ds).bind λ h=>if noT x=true then gSl x l h else none
theorem vsl{n p:FO}(t:VV c X a oa fa)(u:VPO c X lo n)(y:VPO c X hi p):VV c X (.Subscript a (.Slice lo hi none p2) Y) true (fsl fa n p):=by
 refine⟨PE.mono (qP5 qac1 t.h u.h y.h) λ W H Q g=>?_⟩;obtain⟨F,i,A,d,S,e,q⟩:=g;obtain⟨x,B,e⟩:=zA1.mp e;obtain⟨l,e2,e⟩:=zA1.mp e;obtain⟨h,C,e⟩:=zA1.mp e;by_cases j:noT x=true
 . rw[if_pos j] at e
   refine⟨F,i,A,x,S,B,λ v H1 B1 D k _=>⟨F,i,A,l,S.same k,e2,λ H2 m=>⟨F,i,A,h,(S.same k).same m,C,λ H3 r=>?_⟩⟩⟩;have f:=(k.trans m).trans r;refine os_sl ((D.same m).same r) e (λ I z=>by subst z;cases j) λ w H' B' E G s=>q w H' B' E (f.trans G) λ _=>⟨s.one,λ b o e=>s.new b o (f b o e)⟩
 rw[if_neg j] at e;cases e
def fget(fa a b:FV):FV:=λ ds=>(fa ds).bind λ x=>(a ds).bind λ y=>(b ds).bind λ z=>match x with
 | .dct _ kvs=>y.key.bind λ k=>gd (((Dm kvs k).getD z).imm=true) ((Dm kvs k).getD z)
 | _=>none
theorem vget{z:Kf}{D:Bool}{t:FV}(G:X.A.units+1 < cLine)(I:VV c X a oa fa)(J:VV c X k D s)(K:VV c X z E t)(m:M2 X a "get" apos k z cpos):VV c X (.Call (.Attribute a "get" apos) [k,z] [] cpos) true (fget fa s t):=by
 refine⟨PE.mono (qaz5 G I.h J.h K.h m) λ W H Q j=>?_⟩;obtain⟨F,l,A,d,S,e,q⟩:=j;obtain⟨x,L,e⟩:=zA1.mp e;obtain⟨y,e2,e⟩:=zA1.mp e;obtain⟨w,M,e⟩:=zA1.mp e;cases x with
 | dct z N =>
   obtain⟨n,O,e⟩:=zA1.mp e;obtain⟨g,rfl⟩:=qt7 e;refine⟨F,l,A,_,S,L,λ v H1 B1 P o _=>?_⟩;obtain⟨a,b,A2,rfl,B,R,T,_⟩:=P.dct_inv;refine⟨a,rfl,.inl ⟨b,.inl B⟩,F,l,A,y,S.same o,e2,λ u H2 B2 U i _=>⟨F,l,A,w,(S.same o).same i,M,λ V H3 B3 C p _=>?_⟩⟩;have r:=p _ _ (i _ _ B);refine⟨Er b n,.inl ⟨b,n,.inl r,(U.key O),rfl⟩,?_⟩;have f:=(o.trans i).trans p;rcases qaF7 n R T with⟨n1,n2⟩ | ⟨vv,dd,BB,n1,n2,n3,n4⟩
   . rw[n1] at g q;rw[n2]
     have:=C.imm g
     subst this;exact q _ H3 [] C f λ _=>New.nil
   rw[n1] at g q;rw[n2]
   have:=n3.imm g
   subst this;exact q _ H3 [] ((n3.same i).same p) f λ _=>New.nil
 | _=>cases e
end
section
variable{c:Vc}{X:Cx}{a b e:Kf}{pos:Pos}{F F':γ->Prop}{H H':Hp}{σ:St}{ds:Ds}{A:List γ}
theorem Ox.put1(S:Ox c F H σ ds A)(h:ds[i]? = some d)(e:d≠.u):∃(v:V)(B C:List γ),(σ++c.gv)[i]? = some (some v)/\Ou F H v d B/\(∀ b,A.count b=B.count b+C.count b) /\
   ∀{F':γ->Prop}{H':Hp}{W:γ->Prop}(d':D)(B':List γ),Kp F H W F' H'->(∀ b∈C,¬ W b)->Ou F' H' v d' B'->∃ A':List γ,Locs F' H' (σ++c.gv) (ds.set i d') A'/\∀ b,A'.count b=B'.count b+C.count b:=by
 have f:Bb ds i []=some d:=by unfold Bb;rw[h];rfl
 obtain⟨u,w,B,C,g,j,l,m,n⟩:=S.loc.place f e;cases j;refine⟨u,B,C,g,l,m,λ{F' H' W} d' B' k o r=>?_⟩;obtain⟨A',a,q2⟩:=n d' B' k o r;refine⟨A',?_,q2⟩;unfold Bj at a;rw[h] at a;exact a
theorem qt5{d:D}(h:d.known=true):d≠.u:=λ z=>by subst z;cases h
def tMv(i:Nat):VT:=λ ds Q _=>orF (rdN i ds) λ d=>Q d (ds.set i .u)
theorem emv(i:Nat)(k:X.N[i]? = some x:=by rfl)(m:Vis X.env.scope x:=by first | exact Ol rfl | exact Oj (Ol rfl) | exact Oj (Oj rfl))(n:N' x:=by decide)(a:(x == ("__classdict__" : Str))=false:=by decide) :
   VE c X (.Name x pos) (tMv i):=by
 refine⟨λ D8 s σ H Q I g=>?_,λ p Q Q' r t u _=>qa4 λ d=>u _ _⟩;obtain⟨F,p,A,r,S,x,q⟩:=g;refine qo7 k m n a D8 s σ H Q I ?_;obtain⟨d,h,q⟩:=qa7.mp q;obtain⟨h,w⟩:=ql7.mp h;obtain⟨v,B,C,l,y,j,D⟩:=S.put1 h (qt5 w);have E:=qp3 k D8 σ H s I;rw[zAp E] at l;obtain⟨A',G,q2⟩:=D .u [] (Kp.same (λ _ _ z=>z)) (λ _ _ z=>z) (.u v);refine⟨v,l,q v H F B A' y ⟨G,S.ok.count λ b=>by rw[q2,j];simp,S.len,S.ag⟩ (S.ok.count λ b=>by rw[zA0,q2,j];simp) ?_⟩;exact⟨λ _ _ e _=>e,λ b o e z=>by rw[zA0,q2];have:=j b;simp;lia,λ _ f=>f,λ _ _ _ _ f=>f⟩
def tFz(i:Nat):VT:=λ ds Q _=>orF (rdN i ds) λ d=>Q d.fz (ds.set i d.fz)
theorem share{B C:List γ}(o:Ok F H A)(a:∀ b,A.count b=B.count b+C.count b)(d:∀ b∈B,∃ o,H b=some o/\D9 o=true)(c:∀ b,A'.count b=C.count b) :
   Ok (λ b=>F b∨b∈B) H A'/\Ow F H A (λ b=>F b∨b∈B) H A':=by
 refine⟨⟨λ b=>by rw[c];have:=o.sep b;have:=a b;lia,λ b f=>?_,λ b f=>?_⟩,λ _ _ e _=>e,λ b o e z=>by rw[c];have:=a b;lia,λ b f=>.inl f,λ b u e z f=>?_⟩
 . rw[c]
   rcases f with f | f
   . have:=o.fro b f;have:=a b;lia
   have:=qa9.mp f;have:=o.sep b;have:=a b;lia
 . rcases f with f | f
   . exact o.ex b f
   exact let ⟨u,e,_⟩:=d b f;⟨u,e⟩
 rcases f with f | f
 . exact f
 have:=qa9.mp f;have:=a b;lia
theorem efz(i:Nat)(h:X.N[i]? = some x:=by rfl)(n:Vis X.env.scope x:=by first | exact Ol rfl | exact Oj (Ol rfl) | exact Oj (Oj rfl))(o:N' x:=by decide)(a:(x == ("__classdict__" : Str))=false:=by decide) :
   VE c X (.Name x pos) (tFz i):=by
 refine⟨λ D8 s σ H Q I e=>?_,λ p Q Q' r t u _=>qa4 λ d=>u _ _⟩;obtain⟨F,p,A,r,S,x,q⟩:=e;refine qo7 h n o a D8 s σ H Q I ?_;obtain⟨d,g,q⟩:=qa7.mp q;obtain⟨g,w⟩:=ql7.mp g;obtain⟨v,B,C,j,k,y,D⟩:=S.put1 g (qt5 w);have E:=qp3 h D8 σ H s I;rw[zAp E] at j;have l:=k.fz (F':=λ b=>F b∨b∈B) (λ b f=>.inl f) λ b G=>.inr G
 obtain⟨A',J,q2⟩:=D d.fz [] (Kp.more (H:=H) λ b f=>Ol f) (λ _ _ z=>z) l;obtain⟨m,K⟩:=share S.ok y k.cells (A':=A') (λ b=>by rw[q2];simp);exact⟨v,j,q v H _ [] A' l ⟨J,m,S.len,S.ag⟩ m K⟩
abbrev PF:=Ds->Option (Nat×List Nat)
inductive LiftP(c:Vc)(pf:PF)(σ:St)(H:Hp)(Q:VK):Prop
 | mk (F:γ->Prop) (ds:Ds) (A:List γ) (i:Nat) (p:List Nat) (d:D) (S:Ox c F H σ ds A) (e:pf ds=some (i,p)) (g:Bb ds i p=some d) (n:d≠.u) (q:∀ u w H',(σ++c.gv)[i]? = some (some u)->Walk H' u p w->Same H H'->Q w H'):LiftP c pf σ H Q
def F8(c:Vc)(pf:PF):TE:=LiftP c pf
structure VP(c:Vc)(X:Cx)(e:Kf)(pf:PF):Prop where
 h:PE X e (F8 c pf)
theorem vpn(i:Nat)(h:X.N[i]? = some x:=by rfl)(l:Vis X.env.scope x:=by first | exact Ol rfl | exact Oj (Ol rfl) | exact Oj (Oj rfl))(m:N' x:=by decide)(b:(x == ("__classdict__" : Str))=false:=by decide) :
   VP c X (.Name x pos) (λ _=>some (i,[])):=by
 refine⟨λ D8 s σ H Q I f=>?_⟩;obtain⟨F,t,A,j,p,d,S,e,n,g,q⟩:=f;refine qo7 h l m b D8 s σ H Q I ?_;cases e;obtain⟨u,w,B,C,k,o,v,y,D⟩:=S.loc.place n g;cases o;have r:=qp3 h D8 σ H s I;have a:=k;rw[zAp r] at a;exact⟨u,a,q u u H k rfl λ _ _ z=>z⟩
theorem qK6:∀{p:List Nat}{d x:D}{q:List Nat},d.getP (p++q)=some x->∃ e,d.getP p=some e/\e.getP q=some x
 | [],d,x,q,h=>⟨d,rfl,h⟩
 | n::p,d,x,q,h=>by
   have h:D.getP d (n::(p++q))=some x:=h;unfold D.getP at h;cases a:d.kids[n]? with
   | none=>rw[a] at h;cases h
   | some y =>
     rw[a] at h;obtain⟨e,b,c⟩:=qK6 (p:=p) h;exact⟨e,by unfold D.getP;rw[a];exact b,c⟩
theorem qK7(h:Bb ds i (p++q)=some x):∃ e,Bb ds i p=some e/\e.getP q=some x:=by
 unfold Bb at h ⊢;cases a:ds[i]? with
 | none=>rw[a] at h;cases h
 | some d=>rw[a] at h;exact qK6 h
theorem Walk.snoc:∀{p:List Nat}{u v w:V}{n:Nat},Walk H u p v->Lnk H v n w->Walk H u (p++[n]) w
 | [],_,_,w,n,h,l=>by cases h;exact⟨w,l,rfl⟩
 | m::p,_,_,_,_,⟨x,h1,h2⟩,l=>⟨x,h1,h2.snoc l⟩
theorem qaN5{d e:D}(h:d.getP [n]=some e):d≠.u:=λ z=>by subst z;cases (show (none:Option D)=some _ from h)
theorem Ox.place(S:Ox c F H σ ds A)(h:Bb ds i p=some d)(e:d≠.u)(f:(σ++c.gv)[i]? = some (some u))(g:Walk H u p w):∃(B C:List γ),Ou F H w d B/\(∀ b,A.count b=B.count b+C.count b) /\
   ∀{F':γ->Prop}{H':Hp}{W:γ->Prop}(d':D)(B':List γ),Kp F H W F' H'->(∀ b∈C,¬ W b)->Ou F' H' w d' B'->∃ A':List γ,Locs F' H' (σ++c.gv) (Bj ds i p d') A'/\∀ b,A'.count b=B'.count b+C.count b:=by
 obtain⟨n,o,B,C,a,j,k,l,m⟩:=S.loc.place h e;rw[f] at a;cases a;cases g.fn j;exact⟨B,C,k,l,m⟩
def D.fidx(C:γ)(f:Str):D->Option Nat
 | .ins _ C' fs=>if C'=C then fs.findIdx? (λ q=>f == q.1) else none
 | _=>none
theorem qD4{α:Type}:∀{fs:List (Str×α)}{f:Str}{n:Nat},fs.findIdx? (λ q=>f == q.1)=some n->∃ v,fs.lookup f=some v/\(fs.map (·.2))[n]? = some v
 | [],f,n,h=>by simp at h
 | (k,v)::r,f,n,h=>by
   rw[zCw] at h;rw[zAw];cases a:f == k with
   | true=>simp[a] at h;subst h;exact⟨v,rfl,rfl⟩
   | false =>
     simp[a] at h;obtain⟨m,b,rfl⟩:=h;obtain⟨w,c,d⟩:=qD4 (fs:=r) b;exact⟨w,c,by simpa using d⟩
theorem qV4{α β:Type}:∀{fs:List (Str×α)}{a:List (Str×β)}{f:Str},fs.map (·.1)=a.map (·.1)->fs.findIdx? (λ q=>f == q.1)=a.findIdx? (λ q=>f == q.1)
 | [],[],_,_=>rfl
 | [],_::_,_,h=>by simp at h
 | _::_,[],_,h=>by simp at h
 | (k,_)::r,(k',_)::r',f,h=>by
   have b:k=k':=by simp at h;exact h.1
   have c:r.map (·.1)=r'.map (·.1):=by simp at h;simpa using h.2
   subst b;rw[zCw,zCw,qV4 c]
def pfFld(C:γ)(f:Str)(pf:PF):PF:=λ ds=>(pf ds).bind λ q=>(Bb ds q.1 q.2).bind λ d=>(d.fidx C f).map λ n=>(q.1,q.2++[n])
theorem Iu(G:X.K=K)(l:VP c X a pf)(I:Cls K C)(J:qg8 K C f)(L:Jt a f X.env (eval a X.env)=eval a X.env:=by rfl):VP c X (.Attribute a f pos) (pfFld C f pf):=by
 subst G;refine⟨PE.mono (qaK3 l.h L) λ σ H Q m=>?_⟩;obtain⟨F,M,A,i,p,d,S,e,N,Z,q⟩:=m;obtain⟨⟨j,O⟩,P,e⟩:=zA1.mp e;obtain⟨t,e2,e⟩:=zA1.mp e;obtain⟨n,x,e⟩:=zAj.mp e;cases e;obtain⟨R,g1,g2⟩:=qK7 N;rw[e2] at g1;cases g1;have b:=qaN5 g2;refine⟨F,M,A,j,O,t,S,P,e2,b,λ u w H' y D s=>?_⟩;obtain⟨B,C0,r,_,_⟩:=(S.same s).place e2 b y D;cases t with
 | ins z C' T =>
   have g:(if C'=C then T.findIdx? (λ q=>f == q.1) else none)=some n:=x;by_cases o:C'=C
   . rw[if_pos o] at g
     obtain⟨a,E,k,_,rfl,l,U,rs,_⟩:=r.ins_inv;rw[<- qV4 U] at g;obtain⟨v,V,Y⟩:=qD4 g;subst o;exact⟨a,C',E,k,v,rfl,l,I,J,V,q u v H' y (D.snoc ⟨a,rfl,.inr (.inr (.inr ⟨C',E,k,l,Y⟩))⟩) s⟩
   rw[if_neg o] at g;cases g
 | _=>cases x
def pfIx(pf:PF)(fb:FV):PF:=λ ds=>(pf ds).bind λ q=>(Bb ds q.1 q.2).bind λ d=>d.elems.bind λ ys=>(fb ds).bind λ y=>y.asI.bind λ k=>(ixN ys.length k).map λ n=>(q.1,q.2++[n])
theorem vpix(f:VP c X a pf)(N:VV c X b ob fb)(O:qaj9 b:=by exact λ _ _=>rfl):VP c X (.Subscript a b pos) (pfIx pf fb):=by
 refine⟨PE.mono (pe_ix qb0 f.h N.h O) λ σ H Q C=>?_⟩;obtain⟨F,J,A,i,p,d,S,e,P,hd,q⟩:=C;obtain⟨⟨j,R⟩,T,e⟩:=zA1.mp e;obtain⟨K,e2,e⟩:=zA1.mp e;obtain⟨U,D,e⟩:=zA1.mp e;obtain⟨y,V,e⟩:=zA1.mp e;obtain⟨k,W,e⟩:=zA1.mp e;obtain⟨n,E,e⟩:=zAj.mp e;cases e;obtain⟨Y,g1,g2⟩:=qK7 P;rw[e2] at g1;cases g1;have o:=qaN5 g2;refine⟨F,J,A,j,R,K,S,T,e2,o,λ u w H1 G Z s=>?_⟩;refine⟨F,J,A,y,S.same s,V,λ v2 H2 B2 r2 L _=>?_⟩;have g:=s.trans L;have l:=Z.same L;obtain⟨B,C0,r,_,_⟩:=(S.same g).place e2 o G l;cases r2.asI W;have M:n < U.length:=(qU5 E).2.1;cases K with
 | l z I =>
   cases D;obtain⟨a,m,A3,rfl,f,t,_⟩:=r.lst_inv;obtain⟨vn,v⟩:∃ x,m[n]? = some x:=⟨_,zAz (by rw[t.len];exact M)⟩
   refine .inl ⟨a,m,k,_,rfl,rfl,.inl (.inl f),?_,q u _ H2 G (l.snoc ⟨a,rfl,.inr (.inl ⟨m,f,v⟩)⟩) g⟩;unfold atI;rw[t.len,E];exact v
 | q I =>
   cases D;obtain⟨a,m,rfl,f,t⟩:=r.tup_inv;obtain⟨vn,v⟩:∃ x,m[n]? = some x:=⟨_,zAz (by rw[t.len];exact M)⟩
   refine .inr (.inl ⟨a,m,k,_,rfl,rfl,.inl (.inl f),?_,q u _ H2 G (l.snoc ⟨a,rfl,.inl ⟨m,f,v⟩⟩) g⟩);unfold atI;rw[t.len,E];exact v
 | _=>cases D
end
inductive Pl where
 | no
 | sl (i:Nat)
 | pl (i:Nat) (p:List Nat) (w:V)
abbrev VTB:=Ds->(Ds->List Pl->Ds->Prop)->XKd->Prop
inductive Fd(τ:List (Option V)):List V->List Pl->Prop
 | nil:Fd τ [] []
 | no {v:V} {vs:List V} {ps:List Pl} (t:Fd τ vs ps):Fd τ (v::vs) (.no::ps)
 | sl {v:V} {vs:List V} {ps:List Pl} {i:Nat} (h:τ[i]? = some (some v)) (t:Fd τ vs ps):Fd τ (v::vs) (.sl i::ps)
 | so {v:V} {vs:List V} {ps:List Pl} {i:Nat} {p:List Nat} (t:Fd τ vs ps):Fd τ (v::vs) (.pl i p v::ps)
inductive LiftA(c:Vc)(t:VTB)(a:St)(H:Hp)(Q:List V->Hp->Prop):Prop
 | mk (F:γ->Prop) (ds:Ds) (A:List γ) (xe:XKd) (S:Ox c F H a ds A) (x:Xc c xe F H A) (q:t ds (λ xs pls ds'=>∀ vs H' F' T A',On F' H' vs xs T->Fd (a++c.gv) vs pls->Ox c F' H' a ds' A'->Ok F' H' (T++A')->Ow F H A F' H' (T++A')->Q vs H') xe):LiftA c t a H Q
def Eh(c:Vc)(t:VTB):TA:=LiftA c t
structure VAs(c:Vc)(X:Cx)(es:List Kf)(t:VTB):Prop where
 h:PA X es (Eh c t)
 m:∀ ds (Q Q':Ds->List Pl->Ds->Prop) (xe xe':XKd),(∀ d p ds',Q d p ds'->Q' d p ds')->(∀ x ds',xe x ds'->xe' x ds')->t ds Q xe->t ds Q' xe'
section
variable{c:Vc}{X:Cx}{e:Kf}{es:List Kf}{ta:VT}{tr:VTB}{pf:PF}{F F':γ->Prop}{H H':Hp}{σ:St}{ds:Ds}{A:List γ}
def Bd:VTB:=λ ds Q _=>Q [] [] ds
theorem Ab:VAs c X [] Bd:=⟨PA.mono qy3 λ σ H Q ⟨F,a,A,b,S,x,q⟩=>q [] H F [] A .nil .nil S S.ok Ow.refl,λ a Q Q' b d e _=>e _ _ _⟩
def tbV(ta:VT)(tr:VTB):VTB:=λ ds Q xe=>ta ds (λ x ds1=>tr ds1 (λ xs ps a=>Q (x::xs) (.no::ps) a) xe) xe
theorem vaV(f:VE c X e ta)(g:VAs c X es tr)(w:Jm (e::es) X.env=(false,eval e X.env)::Jm es X.env:=by rfl):VAs c X (e::es) (tbV ta tr):=by
 refine⟨PA.mono (qh0 f.h g.h w) λ σ H Q i=>?_,λ o Q Q' j y B p=>f.m _ _ _ _ _ (λ d a=>g.m _ _ _ _ _ (λ C D k=>B _ _ _) p) p⟩;obtain⟨F,o,A,j,S,x,q⟩:=i;refine⟨F,o,A,j,S,x,f.m _ _ _ _ _ (λ E a q v H1 F1 T A1 r S1 s t=>?_) (λ _ _ z=>z) q⟩;have l:Ow F H A F1 H1 A1:=t.count λ b=>by rw[zA0];lia
 refine⟨F1,a,A1,j,S1,x.step l,g.m _ _ _ _ _ (λ C D k q G H2 F2 T2 A2 I J S2 K u=>?_) (λ _ _ z=>z) q⟩;have n:Ou F2 H2 v E T:=r.keep (u.kp S1.ok S1.loc.cells) λ b L O=>by
   have:=s.sep b
   rw[zA0] at this
   have:=qa9.mp L
   lia
 obtain⟨M,N⟩:=u.frame s r.cells K;exact q (v::G) H2 F2 (T++T2) A2 (.cons n I) (.no J) S2 (by rw[zAr];exact M) (by rw[zAr];exact t.trans N)
def tbB(pf:PF)(tr:VTB):VTB:=λ ds Q xe=>orF (pf ds) λ q=>orF (Bb ds q.1 q.2) λ d=>d.known=true/\∀ w,tr (Bj ds q.1 q.2 (.hole w)) (λ xs ps a=>Q (d::xs) (.pl q.1 q.2 w::ps) a) xe
theorem vaB(I:VP c X e pf)(a:VAs c X es tr)(J:Jm (e::es) X.env=(false,eval e X.env)::Jm es X.env:=by rfl):VAs c X (e::es) (tbB pf tr):=by
 refine⟨PA.mono (qh0 I.h a.h J) λ σ H Q g=>?_,λ j Q Q' v K L M=>qa4 λ z=>qa4 λ d=>Ni λ h w=>a.m _ _ _ _ _ (λ N O k=>L _ _ _) M (h w)⟩;obtain⟨F,j,A,v,S,x,q⟩:=g;obtain⟨⟨i,p⟩,P,q⟩:=qa7.mp q;obtain⟨d,e2,y,q⟩:=qa7.mp q;refine⟨F,j,A,i,p,d,S,P,e2,qt5 y,λ u w H1 R T s=>?_⟩;obtain⟨B,C,r,D,U⟩:=(S.same s).place e2 (qt5 y) R T;obtain⟨A1,V,q2⟩:=U (.hole w) [] (Kp.same (F:=F) λ _ _ z=>z) (λ _ _ z=>z) (.hole w);have l:Ok F H1 (B++A1):=(S.same s).ok.count λ b=>by rw[zA0,q2,D];simp
 have E:Ow F H A F H1 (B++A1):=⟨λ b o e _=>s b o e,λ b o e z=>by rw[zA0,q2];have:=D b;simp;lia,λ _ f=>f,λ _ _ _ _ f=>f⟩
 have S1:Ox c F H1 σ (Bj j i p (.hole w)) A1:=⟨V,l.right,S.len,S.ag⟩
 have n:Ow F H A F H1 A1:=E.count λ b=>by rw[zA0];lia
 refine⟨F,_,A1,v,S1,x.step n,a.m _ _ _ _ _ (λ N O k q W H2 F2 T2 A2 Y Z S2 o2 G=>?_) (λ _ _ z=>z) (q w)⟩;have t:Ou F2 H2 w d B:=r.keep (G.kp S1.ok S1.loc.cells) λ b hb hc=>by
   have:=l.sep b
   rw[zA0] at this
   have:=qa9.mp hb
   lia
 obtain⟨o3,s3⟩:=G.frame l r.cells o2;exact q (w::W) H2 F2 (B++T2) A2 (.cons t Y) (.so Z) S2 (by rw[zAr];exact o3) (by rw[zAr];exact E.trans s3)
def tbN(i:Nat)(tr:VTB):VTB:=λ ds Q xe=>(rdN i ds).isSome=true/\tr ds (λ xs ps ds1=>orF (rdN i ds1) λ d=>Q (d::xs) (.sl i::ps) (ds1.set i .u)) xe
theorem vaN(i:Nat)(e:VAs c X es tr)(E:Jm (.Name x p::es) X.env=(false,eval (.Name x p) X.env)::Jm es X.env:=by rfl)(t:X.N[i]? = some x:=by rfl)(G:Vis X.env.scope x:=by first | exact Ol rfl | exact Oj (Ol rfl) | exact Oj (Oj rfl))(J:N' x:=by decide)(f:(x == ("__classdict__" : Str))=false:=by decide) :
   VAs c X (.Name x p::es) (tbN i tr):=by
 refine⟨λ pos D8 s σ H Q I g=>?_,λ u Q Q' w K L M=>Ni (e.m _ _ _ _ _ (λ O P j=>qa4 λ d=>L _ _ _) M)⟩;obtain⟨F,u,A,w,S,x,k,q⟩:=g;refine qh0 (qo7 t G J f) e.h E pos D8 s σ H Q I ?_;have y:=qp3 t D8 σ H s I;obtain⟨d0,R⟩:=zB8.mp k;obtain⟨v,B0,a,_,_⟩:=S.name y R;refine⟨v,a,F,u,A,w,S,x,e.m _ _ _ _ _ (λ O P j q T H2 F2 T2 A2 U V S2 D W=>?_) (λ _ _ z=>z) q⟩;obtain⟨d,l,q⟩:=qa7.mp q;obtain⟨l,Y⟩:=ql7.mp l;obtain⟨v',B,C,n,Z,h3,h4⟩:=S2.put1 l (qt5 Y);have o:=n;rw[zAp y,a] at n;cases n;obtain⟨A3,q1,q2⟩:=h4 .u [] (Kp.same (F:=F2) λ _ _ z=>z) (λ _ _ z=>z) (.u v);have r:∀ b,((B++T2)++A3).count b<=(T2++A2).count b:=λ b=>by simp only[zA0,q2,h3];simp;lia
 exact q (v::T) H2 F2 (B++T2) A3 (.cons Z U) (.sl o V) ⟨q1,(D.count r).right,S.len,S.ag⟩ (D.count r) (W.count r)
def As:List Pl->Ds->Ds->Option Ds
 | [],_,ds=>some ds
 | .no::ps,_::ys,ds=>As ps ys ds
 | .sl i::ps,y::ys,ds=>As ps ys (ds.set i y)
 | .pl i p v::ps,y::ys,ds=>match Bb ds i p with
   | some (.hole w)=>if w=v then As ps ys (Bj ds i p y) else none
   | _=>none
 | _::_,[],_=>none
theorem qE0(L:Locs F H τ ds C)(hi:τ[i]? = some (some v))(r:Ou F H v y B):∃ A':List γ,Locs F H τ (ds.set i y) A'/\∀ b,A'.count b<=B.count b+C.count b:=by
 have s:=L.len;have g:i < τ.length:=(zA4.mp hi).1;obtain⟨d,h⟩:∃ d,ds[i]? = some d:=⟨_,zAz (by lia)⟩
 obtain⟨σ1,o,σ2,a,c,A1,B0,A2,e,e2,j,k,m,n,t,p⟩:=L.split h;have f:τ[i]? = some o:=by rw[e];exact qz4 j
 rw[hi] at f;cases f;have q:ds.set i y=a++y::c:=by
   have:=congrArg (λ l=>l.set i y) e2
   rw[this,qn3 k]
 exact⟨A1++(B++A2),by rw[e,q];exact n.append (.so r p),λ b=>by rw[m];simp only[zA0];lia⟩
theorem qv2(e:Fd σ vs pls)(r:On F H (vs++more) ys B)(L:Locs F H σ ds C)(h:As pls ys ds=some a):∃ A':List γ,Locs F H σ a A'/\∀ b,A'.count b<=B.count b+C.count b:=by
 induction e generalizing ys ds B C with
 | nil =>
   have h:some ds=some a:=by cases ys<;>exact h
   cases h;exact⟨C,L,λ b=>by lia⟩
 | no e c =>
   cases r with
   | @cons _ _ A1 _ _ B1 r1 t =>
     obtain⟨A',d,q2⟩:=c t L h;exact⟨A',d,λ b=>by rw[zA0];have:=q2 b;lia⟩
 | sl k e c =>
   cases r with
   | @cons _ _ A1 _ _ B1 r1 t =>
     obtain⟨A2,d,q2⟩:=qE0 L k r1;obtain⟨A',f,g⟩:=c t d h;exact⟨A',f,λ b=>by rw[zA0];have:=g b;have:=q2 b;lia⟩
 | @so v _ _ i p e c =>
   cases r with
   | @cons _ y A1 _ _ B1 r1 t =>
     unfold As at h;split at h
     . rename_i w hg
       by_cases j:w=v
       . rw[if_pos j] at h
         subst j;obtain⟨u,o,B2,C2,q,s,l,m,n⟩:=L.place hg (by intro z;cases z);cases l;obtain⟨A2,d,q2⟩:=n y A1 (Kp.same (F:=F) λ _ _ z=>z) (λ _ _ z=>z) r1;obtain⟨A',f,g⟩:=c t d h;refine⟨A',f,λ b=>?_⟩
         have:=g b
         have:=q2 b
         have:=m b
         simp only[Lg,zA0] at *
         lia
       rw[if_neg j] at h;cases h
     cases h
abbrev VSp:=Ds->DK->XKd->Prop
inductive LiftF(s:VSp)(vs:List V)(H:Hp)(Q:VK)(E:XK):Prop
 | mk (F:γ->Prop) (ds:Ds) (A:List γ) (r:On F H vs ds A) (o:Ok F H A) (q:s ds (λ d ys=>∀ v H' F' T A',Ou F' H' v d T->On F' H' vs ys A'->Ok F' H' (T++A')->Ow F H A F' H' (T++A')->Q v H')
   (λ x ys=>∀ e H' F' A',RepX F' H' e x->On F' H' vs ys A'->Ok F' H' A'->Ow F H A F' H' A'->E (.ref e) none H')):LiftF s vs H Q E
def E3(s:VSp):Sp:=LiftF s
def Bl(s:VSp):Prop:=∀ ds (Q Q':DK) (xe xe':XKd),(∀ d a,Q d a->Q' d a)->(∀ x a,xe x a->xe' x a)->s ds Q xe->s ds Q' xe'
def qm9(s:VSp)(dv:Ds)(tr:VTB):VT:=λ ds Q xe=>tr ds (λ xs ps ds1=>s (xs++dv) (λ d ys=>orF (As ps ys ds1) λ a=>Q d a) (λ x ys=>orF (As ps ys ds1) λ a=>xe x a)) xe
theorem qaq8(f:Bl s)(g:VAs c X es tr):∀ ds (Q Q':DK) (xe b:XKd),(∀ d a,Q d a->Q' d a)->(∀ x a,xe x a->b x a)->qm9 s dv tr ds Q xe->qm9 s dv tr ds Q' b :=
 λ ds Q Q' xe b h e=>g.m _ _ _ _ _ (λ k l i=>f _ _ _ _ _ (λ d j=>qa4 λ z=>h _ _) (λ x j=>qa4 λ z=>e _ _)) e
def F9(dvs:List V)(dv:Ds):Prop:=∀ F H,On F H dvs dv []
theorem qm3:F9 [] []:=λ _ _=>.nil
theorem qaq2:F9 [.non] [.non]:=λ _ _=>.cons (A:=[]) (B:=[]) .non .nil
theorem qaQ3(G:F9 dvs dv)(I:Bl s)(J:VAs c X es tr):∀ σ H Q,Bi c (qm9 s dv tr) σ H Q->Ic (E3 s) dvs c.E (Eh c tr) σ H Q:=by
 rintro σ H Q ⟨F,K,A,L,S,x,q⟩;refine⟨F,K,A,L,S,x,J.m _ _ _ _ _ (λ B U h q M H1 F1 T A1 N C S1 a D=>?_) (λ _ _ z=>z) q⟩;have rall:On F1 H1 (M++dvs) (B++dv) (T++[]):=N.append (G F1 H1);rw[zAd] at rall;refine⟨F1,B++dv,T,rall,a.left,I _ _ _ _ _ (λ d O q v H2 F2 T2 A2 P l n i=>?_) (λ y O q e H2 F2 A2 R l n i=>?_) q⟩
 . obtain⟨j,o,q⟩:=qa7.mp q
   have f:Ok F1 H1 (A1++T):=a.count λ b=>by simp only[zA0];lia
   obtain⟨p,r⟩:=i.frame f S1.loc.cells n;have L1:Locs F2 H2 (σ++c.gv) h A1:=S1.loc.keep (i.kp a.left rall.cells) λ b t g=>by
     have:=a.sep b
     rw[zA0] at this
     have:=qa9.mp t
     lia
   obtain⟨A3,u,q2⟩:=qv2 C l L1 o;have g:∀ b,(T2++A3).count b<=(A1++(T2++A2)).count b:=λ b=>by simp only[zA0];have:=q2 b;lia
   have k:Ok F2 H2 (T2++A3):=p.count g;have w:Ow F H A F2 H2 (T2++A3):=(D.trans (r.pre λ b=>by simp only[zA0];lia)).count g;exact q v H2 F2 T2 A3 P ⟨u,k.right,S.len,S.ag⟩ k w
 obtain⟨j,o,q⟩:=qa7.mp q;have f:Ok F1 H1 (A1++T):=a.count λ b=>by simp only[zA0];lia
 obtain⟨p,r⟩:=i.frame f S1.loc.cells n;have L1:Locs F2 H2 (σ++c.gv) h A1:=S1.loc.keep (i.kp a.left rall.cells) λ b t g=>by
   have:=a.sep b
   rw[zA0] at this
   have:=qa9.mp t
   lia
 obtain⟨A3,u,q2⟩:=qv2 C l L1 o;have g:∀ b,A3.count b<=(A1++A2).count b:=λ b=>by simp only[zA0];have:=q2 b;lia
 have k:Ok F2 H2 A3:=p.count g;have w:Ow F H A F2 H2 A3:=(D.trans (r.pre λ b=>by simp only[zA0];lia)).count g;exact x y j σ e H2 F2 A3 q R ⟨u,k,S.len,S.ag⟩ w
end
structure Ea(cm:Bool)(P:Kc)(w:Ke)(K:Nl)(mg:Str->Option V')(base:Heap)(k:Nat)(f:γ)(fd:δ)(ps:List Str)(s:VSp):Prop where
 ok:Dq cm P w K mg base (CX1 P w) k f fd ps (E3 s)
 m:Bl s
abbrev VFn:=Ea true
section
variable{c:Vc}{X:Cx}{a e o:Kf}{es:List Kf}{tr:VTB}{pf:PF}{F F1:γ->Prop}{H H1:Hp}{σ:St}{ds ds1:Ds}{A A1 T:List γ}{pos p apos:Pos}{x qual m:Str}{st:Kh}{f C:γ}{fd:δ}{ps:List Str}{k:Nat}{s:VSp}{dvs:List V}{dv:Ds}
theorem Ah(D:Df X.K X.mg x qual st f fd ps)(G:Ea cm X.prog X.w X.K X.mg X.base k f fd ps s)(i:Lands X c.E)(j:Oy cm k X.A)(a:VAs c X (e::es) tr)(l:Gl X x:=by rfl)(d:N' x:=by decide)(n:Jm (e::es) X.env=(false,eval e X.env)::Jm es X.env:=by rfl)(g:(backTo pos (Jm es X.env)).any (·.1)=false:=by rfl):VE c X (.Call (.Name x p) (e::es) [] pos) (qm9 s [] tr) :=
 ⟨PE.mono (qat7 G.ok j l D.m D.F.kp D.b .nil i.passes a.h d n g) (qaQ3 qm3 G.m a),qaq8 G.m a⟩
theorem qW8{K:DK}(B:F9 dvs dv)(C:Bl s)(S:Ox c F H σ ds A)(x:Xc c xe F H A)(r1:On F1 H1 vs xs T)(w:Fd (σ++c.gv) vs pls)(S1:Ox c F1 H1 σ ds1 A1)(f:Ok F1 H1 (T++A1))(z:Ow F H A F1 H1 (T++A1))(D:∀ d i,K d i->∀ v H' F' T A',Ou F' H' v d T->Ox c F' H' σ i A'->Ok F' H' (T++A')->Ow F H A F' H' (T++A')->Q v H')(q:s (xs++dv) (λ d ys=>orF (As pls ys ds1) λ a=>K d a) (λ x ys=>orF (As pls ys ds1) λ a=>xe x a)):E3 s (vs++dvs) H1 Q (c.E σ):=by
 have rall:On F1 H1 (vs++dvs) (xs++dv) (T++[]):=r1.append (B F1 H1);rw[zAd] at rall;refine⟨F1,xs++dv,T,rall,f.left,C _ _ _ _ _ (λ d ys q v H2 F2 T2 A2 G l m j=>?_) (λ y ys q e H2 F2 A2 I l m j=>?_) q⟩
 . obtain⟨a,n,q⟩:=qa7.mp q
   have g:Ok F1 H1 (A1++T):=f.count λ b=>by simp only[zA0];lia
   obtain⟨o,p⟩:=j.frame g S1.loc.cells m;have L1:Locs F2 H2 (σ++c.gv) ds1 A1:=S1.loc.keep (j.kp f.left rall.cells) λ b r h=>by
     have:=f.sep b
     rw[zA0] at this
     have:=qa9.mp r
     lia
   obtain⟨A3,t,q2⟩:=qv2 w l L1 n;have h:∀ b,(T2++A3).count b<=(A1++(T2++A2)).count b:=λ b=>by simp only[zA0];have:=q2 b;lia
   have k:Ok F2 H2 (T2++A3):=o.count h;have u:Ow F H A F2 H2 (T2++A3):=(z.trans (p.pre λ b=>by simp only[zA0];lia)).count h;exact D d a q v H2 F2 T2 A3 G ⟨t,k.right,S.len,S.ag⟩ k u
 obtain⟨a,n,q⟩:=qa7.mp q;have g:Ok F1 H1 (A1++T):=f.count λ b=>by simp only[zA0];lia
 obtain⟨o,p⟩:=j.frame g S1.loc.cells m;have L1:Locs F2 H2 (σ++c.gv) ds1 A1:=S1.loc.keep (j.kp f.left rall.cells) λ b r h=>by
   have:=f.sep b
   rw[zA0] at this
   have:=qa9.mp r
   lia
 obtain⟨A3,t,q2⟩:=qv2 w l L1 n;have h:∀ b,A3.count b<=(A1++A2).count b:=λ b=>by simp only[zA0];have:=q2 b;lia
 have k:Ok F2 H2 A3:=o.count h;have u:Ow F H A F2 H2 A3:=(z.trans (p.pre λ b=>by simp only[zA0];lia)).count h;exact x y a σ e H2 F2 A3 q I ⟨t,k,S.len,S.ag⟩ u
def D.isM(C:γ)(m:Str):D->Bool
 | .ins _ C' fs=>decide (C'=C)&&(fs.lookup m).isNone
 | _=>false
theorem qD0{α β:Type}:∀{fs:List (Str×α)}{a:List (Str×β)}{f:Str},fs.map (·.1)=a.map (·.1)->(fs.lookup f).isNone=(a.lookup f).isNone
 | [],[],_,_=>rfl
 | [],_::_,_,h=>by simp at h
 | _::_,[],_,h=>by simp at h
 | (k,_)::r,(k',_)::r',f,h=>by
   have b:k=k':=by simp at h;exact h.1
   have c:r.map (·.1)=r'.map (·.1):=by simp at h;simpa using h.2
   subst b;rw[zAw,zAw];cases f == k with
   | true=>rfl
   | false=>exact qD0 c
theorem Ou.isM(r:Ou F H v d B)(h:d.isM C m=true):∃ a dx fs,v=.ref a/\H a=some (.ins C dx fs)/\fs.lookup m=none:=by
 cases d with
 | ins z C' f =>
   have h:=zAf.mp h;obtain⟨a,dx,b,A,rfl,g,e,i,_⟩:=r.ins_inv
   have:=zAc h.1
   subst this;refine⟨a,dx,b,rfl,g,?_⟩;have c:=h.2;rw[<- qD0 e] at c;exact Option.isNone_iff_eq_none.mp c
 | _=>cases h
def Iv(C:γ)(m:Str)(s:VSp)(dv:Ds)(pf:PF)(tr:VTB):VT:=λ ds Q xe=>orF (pf ds) λ q=>orF (Bb ds q.1 q.2) λ d=>d.isM C m=true/\∀ w,tr (Bj ds q.1 q.2 (.hole w)) (λ xs ps ds1=>s (d::(xs++dv)) (λ r ys=>orF (As (Pl.pl q.1 q.2 w::ps) ys ds1) λ a=>Q r a) (λ x ys=>orF (As (Pl.pl q.1 q.2 w::ps) ys ds1) λ a=>xe x a)) xe
theorem qan8(f:Bl s)(g:VAs c X es tr):∀ ds (Q Q':DK) (xe b:XKd),(∀ d a,Q d a->Q' d a)->(∀ x a,xe x a->b x a)->Iv C m s dv pf tr ds Q xe->Iv C m s dv pf tr ds Q' b :=
 λ ds Q Q' xe b i e=>qa4 λ z=>qa4 λ d=>Ni λ h w=>g.m _ _ _ _ _ (λ l n j=>f _ _ _ _ _ (λ d k=>qa4 λ z=>i _ _) (λ x k=>qa4 λ z=>e _ _)) e (h w)
theorem qaM7(M:F9 dvs dv)(N:Bl s)(O:VAs c X es tr):∀ σ H Q,Bi c (Iv C m s dv pf tr) σ H Q->Fw C m (E3 s) dvs c.E (F8 c pf) (Eh c tr) σ H Q:=by
 rintro σ H Q ⟨F,y,A,P,S,x,q⟩;obtain⟨⟨i,p⟩,R,q⟩:=qa7.mp q;obtain⟨d,e2,D,q⟩:=qa7.mp q;have g:d≠.u:=λ z=>by subst z;cases D
 refine⟨F,y,A,i,p,d,S,R,e2,g,λ u w H1 T U j=>?_⟩;obtain⟨B,C0,r,G,V⟩:=(S.same j).place e2 g T U;obtain⟨a,W,Y,rfl,k,l⟩:=r.isM D;refine⟨a,W,Y,rfl,k,l,?_⟩;obtain⟨A1,Z,q2⟩:=V (.hole (.ref a)) [] (Kp.same (F:=F) λ _ _ z=>z) (λ _ _ z=>z) (.hole _);have n:Ok F H1 (B++A1):=(S.same j).ok.count λ b=>by rw[zA0,q2,G];simp
 have I:Ow F H A F H1 (B++A1):=⟨λ b o e _=>j b o e,λ b o e z=>by rw[zA0,q2];have:=G b;simp;lia,λ _ f=>f,λ _ _ _ _ f=>f⟩
 have S1:Ox c F H1 σ (Bj y i p (.hole (.ref a))) A1:=⟨Z,n.right,S.len,S.ag⟩
 have t:Ow F H A F H1 A1:=I.count λ b=>by rw[zA0];lia
 refine⟨F,_,A1,P,S1,x.step t,O.m _ _ _ _ _ (λ J ps a0 q K H2 F2 T2 A2 r2 pk S2 o2 L=>?_) (λ _ _ z=>z) (q (.ref a))⟩;have v:Ou F2 H2 (.ref a) d B:=r.keep (L.kp S1.ok S1.loc.cells) λ b hb hc=>by
   have:=n.sep b
   rw[zA0] at this
   have:=qa9.mp hb
   lia
 obtain⟨o3,s3⟩:=L.frame n r.cells o2;exact qW8 (vs:=.ref a::K) (xs:=d::J) M N S x (.cons v r2) (.so pk) S2 (by rw[zAr];exact o3) (by rw[zAr];exact I.trans s3) (λ d a1 h=>h) q
def qA3(C:γ)(m:Str)(s:VSp)(dv:Ds)(i:Nat)(tr:VTB):VT:=λ ds Q xe=>(orF (rdN i ds) λ d=>d.isM C m=true)/\tr ds (λ xs ps ds1=>orF (rdN i ds1) λ d=>s (d::(xs++dv)) (λ r ys=>orF (As (.sl i::ps) ys (ds1.set i .u)) λ a=>Q r a) (λ x ys=>orF (As (.sl i::ps) ys (ds1.set i .u)) λ a=>xe x a)) xe
theorem qJ7(f:Bl s)(g:VAs c X es tr):∀ ds (Q Q':DK) (xe b:XKd),(∀ d a,Q d a->Q' d a)->(∀ x a,xe x a->b x a)->qA3 C m s dv i tr ds Q xe->qA3 C m s dv i tr ds Q' b :=
 λ ds Q Q' xe b h e=>Ni (g.m _ _ _ _ _ (λ l n j=>qa4 λ d=>f _ _ _ _ _ (λ d k=>qa4 λ z=>h _ _) (λ x k=>qa4 λ z=>e _ _)) e)
theorem qaf2(w:F9 dvs dv)(y:Bl s)(D:VAs c X es tr)(hi:i < σ.length)(q:Bi c (qA3 C m s dv i tr) σ H Q):Fw C m (E3 s) dvs c.E (Fm i) (Eh c tr) σ H Q:=by
 obtain⟨F,G,A,I,S,x,f,q⟩:=q;obtain⟨Z,J,f⟩:=qa7.mp f;obtain⟨v,B0,e,K,_⟩:=S.name hi J;obtain⟨a,L,M,rfl,g,j⟩:=K.isM f;refine⟨.ref a,e,a,L,M,rfl,g,j,F,G,A,I,S,x,D.m _ _ _ _ _ (λ r ps N q t H2 F2 T2 A2 O P S2 u R=>?_) (λ _ _ z=>z) q⟩;obtain⟨d,k,q⟩:=qa7.mp q;obtain⟨k,l⟩:=ql7.mp k;obtain⟨v',B,C0,n,T,U,V⟩:=S2.put1 k (qt5 l);have o:=n;rw[zAp hi,e] at n;cases n;obtain⟨A3,W,q2⟩:=V .u [] (Kp.same (F:=F2) λ _ _ z=>z) (λ _ _ z=>z) (.u _);have p:∀ b,((B++T2)++A3).count b<=(T2++A2).count b:=λ b=>by simp only[zA0,q2,U];simp;lia
 exact qW8 (vs:=.ref a::t) (xs:=d::r) w y S x (.cons T O) (.sl o P) ⟨W,(u.count p).right,S.len,S.ag⟩ (u.count p) (R.count p) (λ d Y h=>h) q
theorem qr1(i:Nat){xn:Str}{p0:Pos}(D:Md X.K C m qual st f fd ps)(n:Cls X.K C)(G:Ea cm X.prog X.w X.K X.mg X.base k f fd ps s)(o:Lands X c.E)(p:Oy cm k X.A)(a:VAs c X (e::es) tr)(l:X.N[i]? = some xn:=by rfl)(r:Vis X.env.scope xn:=by first | exact Ol rfl | exact Oj (Ol rfl) | exact Oj (Oj rfl))(t:N' xn:=by decide)(d:(xn == ("__classdict__" : Str))=false:=by decide)(g:Jm (e::es) X.env=(false,eval e X.env)::Jm es X.env:=by rfl)(j:(backTo pos (Jm es X.env)).any (·.1)=false:=by rfl)(u:eval (.Call (.Attribute (.Name xn p0) m apos) (e::es) [] pos) X.env=(do
     let ov <- eval (.Name xn p0) X.env
     standAt apos.atName
     let (f,first) <- holding [ov] (getMethod ov m pl)
     callWith pos f first (backTo pos (Jm (e::es) X.env)) (backToKw pos (Jx [] X.env))):=by rfl):VE c X (.Call (.Attribute (.Name xn p0) m apos) (e::es) [] pos) (qA3 C m s [] i tr) :=
 ⟨λ D8 s σ H Q I q=>qat5 (qo7 l r t d) n D.me G.ok p D.b .nil o.passes a.h g j u D8 s σ H Q I (qaf2 qm3 G.m a (qp3 l D8 σ H s I) q),qJ7 G.m a⟩
theorem qz8(i:Nat){xn:Str}{p0:Pos}(D:Md X.K C m qual st f fd ps)(j:Cls X.K C)(G:Ea cm X.prog X.w X.K X.mg X.base k f fd ps s)(l:Lands X c.E)(n:Oy cm k X.A)(g:X.N[i]? = some xn:=by rfl)(d:Vis X.env.scope xn:=by first | exact Ol rfl | exact Oj (Ol rfl) | exact Oj (Oj rfl))(o:N' xn:=by decide)(e:(xn == ("__classdict__" : Str))=false:=by decide)(p:eval (.Call (.Attribute (.Name xn p0) m apos) [] [] pos) X.env=(do
     let ov <- eval (.Name xn p0) X.env
     standAt apos.atName
     let (f,first) <- holding [ov] (getMethod ov m pl)
     callWith pos f first (backTo pos (Jm [] X.env)) (backToKw pos (Jx [] X.env))):=by rfl):VE c X (.Call (.Attribute (.Name xn p0) m apos) [] [] pos) (qA3 C m s [] i Bd) :=
 ⟨λ D8 h σ H Q I q=>qP6 (qo7 g d o e) j D.me G.ok n D.b .nil l.passes p D8 h σ H Q I (by
   obtain⟨v,d,a,r,t,u,x,y,F2,z,A2,B,S2,F,q2⟩:=qaf2 (c:=c) (X:=X) qm3 G.m Ab (qp3 g D8 σ H h I) q;exact⟨v,d,a,r,t,u,x,y,q2 [] H F2 [] A2 .nil .nil S2 S2.ok Ow.refl⟩),qJ7 (c:=c) G.m (X:=X) Ab⟩
theorem qaQ0(D:Md X.K C m qual st f fd ps)(g:Cls X.K C)(G:Ea cm X.prog X.w X.K X.mg X.base k f fd ps s)(j:Lands X c.E)(l:Oy cm k X.A)(n:VP c X o pf)(r:eval (.Call (.Attribute o m apos) [] [] pos) X.env=(do
     let ov <- eval o X.env
     standAt apos.atName
     let (f,first) <- holding [ov] (getMethod ov m pl)
     callWith pos f first (backTo pos (Jm [] X.env)) (backToKw pos (Jx [] X.env))):=by rfl):VE c X (.Call (.Attribute o m apos) [] [] pos) (Iv C m s [] pf Bd) :=
 ⟨PE.mono (qP6 n.h g D.me G.ok l D.b .nil j.passes r) λ σ H Q q=>by
   obtain⟨F,t,A,i,p,d,S,v,e2,e,q⟩:=qaM7 (c:=c) (X:=X) qm3 G.m Ab σ H Q q;refine⟨F,t,A,i,p,d,S,v,e2,e,λ u w H1 x y z=>?_⟩;obtain⟨a,B,I,J,L,M,F2,N,A2,O,S2,P,q2⟩:=q u w H1 x y z;exact⟨a,B,I,J,L,M,q2 [] H1 F2 [] A2 .nil .nil S2 S2.ok Ow.refl⟩,qan8 (c:=c) G.m (X:=X) Ab⟩
def qM9(C:γ)(s:VSp)(dv:Ds)(tr:VTB):VT:=λ ds Q xe=>tr ds (λ xs ps ds1=>s (.ins false C []::(xs++dv)) (λ d ys=>d.isN=some true/\orF ys.head? λ self=>orF (As ps ys.tail ds1) λ a=>Q self a) (λ x ys=>orF (As ps ys.tail ds1) λ a=>xe x a)) xe
theorem qF2(f:Bl s)(g:VAs c X es tr):∀ ds (Q Q':DK) (xe b:XKd),(∀ d a,Q d a->Q' d a)->(∀ x a,xe x a->b x a)->qM9 C s dv tr ds Q xe->qM9 C s dv tr ds Q' b :=
 λ ds Q Q' xe b h e=>g.m _ _ _ _ _ (λ k l i=>f _ _ _ _ _ (λ d j=>Ni (qa4 λ z=>qa4 λ w=>h _ _)) (λ x j=>qa4 λ z=>e _ _)) e
theorem qaf7(N:F9 dvs dv)(O:Bl s)(P:VAs c X es tr):∀ σ H Q,Bi c (qM9 C s dv tr) σ H Q->tMake C (E3 s) dvs c.E (Eh c tr) σ H Q:=by
 rintro σ H Q ⟨F,R,A,U,S,x,q⟩;refine⟨F,R,A,U,S,x,P.m _ _ _ _ _ (λ V ps h q W H1 F1 T A1 K L S1 Y Z=>?_) (λ _ _ z=>z) q⟩;intro y dy n o p;have same:Same H1 (upd (upd H1 dy (.own y)) y (.ins C dy [])):=(Same.new o).trans (Same.new (by rw[qc9 (Ne.symm p)];exact n));have rall:On F1 (upd (upd H1 dy (.own y)) y (.ins C dy [])) (.ref y::(W++dvs)) (.ins false C []::(V++dv)) ([y]++(T++[])) :=
   .cons (.ins qc3 rfl .nil) ((K.append (N F1 H1)).same same)
 rw[zAd] at rall;have i:Ok F1 (upd (upd H1 dy (.own y)) y (.ins C dy [])) ([y]++(T++A1)):=(qi1 n).ok Y (λ b a=>by
   rcases zAa.mp a with a | a
   . exact K.cells b a
   exact S1.loc.cells b a) same
 have r:Ok F1 (upd (upd H1 dy (.own y)) y (.ins C dy [])) ([y]++T):=i.count λ b=>by simp only[zA0];lia
 have M:Ow F H A F1 (upd (upd H1 dy (.own y)) y (.ins C dy [])) ([y]++(T++A1)):=Z.trans ((qi1 n).stp same);have S1':=S1.same same;refine⟨F1,_,[y]++T,rall,r,O _ _ _ _ _ (λ d ys q v H2 F2 T2 A2 r2 t u j=>?_) (λ ex ys q e H2 F2 A2 rx t u j=>?_) q⟩
 . obtain⟨hn,q⟩:=q
   have hv:v=.non:=by
     cases d with
     | non=>cases r2;rfl
     | _=>cases hn
   refine⟨hv,?_⟩;obtain⟨self,eh,q⟩:=qa7.mp q;obtain⟨k,w,B⟩:=qa7.mp q;have g:Ok F1 _ (A1++([y]++T)):=i.count λ b=>by simp only[zA0];lia
   obtain⟨D,G⟩:=j.frame g S1'.loc.cells u;have L1:Locs F2 H2 (σ++c.gv) h A1:=S1'.loc.keep (j.kp r rall.cells) λ b a f=>by
     have:=i.sep b
     simp only[zA0] at this f
     have:=qa9.mp a
     lia
   cases t with
   | @cons _ d0 Aself _ ys' B' rself rrest =>
     cases eh;obtain⟨A3,I,q2⟩:=qv2 L rrest L1 w;have f:∀ b,(Aself++A3).count b<=(A1++(T2++(Aself++B'))).count b:=λ b=>by simp only[zA0];have:=q2 b;lia
     have l:=D.count f;have J:Ow F H A F2 H2 (Aself++A3):=(M.trans (G.pre λ b=>by simp only[zA0];lia)).count f;exact B (.ref y) H2 F2 Aself A3 rself ⟨I,l.right,S.len,S.ag⟩ l J
 obtain⟨k,w,B⟩:=qa7.mp q;have g:Ok F1 _ (A1++([y]++T)):=i.count λ b=>by simp only[zA0];lia
 obtain⟨D,G⟩:=j.frame g S1'.loc.cells u;have L1:Locs F2 H2 (σ++c.gv) h A1:=S1'.loc.keep (j.kp r rall.cells) λ b a f=>by
   have:=i.sep b
   simp only[zA0] at this f
   have:=qa9.mp a
   lia
 cases t with
 | @cons _ d0 Aself _ ys' B' rself rrest =>
   obtain⟨A3,I,q2⟩:=qv2 L rrest L1 w;have f:∀ b,A3.count b<=(A1++(Aself++B')).count b:=λ b=>by simp only[zA0];have:=q2 b;lia
   have l:=D.count f;have J:Ow F H A F2 H2 A3:=(M.trans (G.pre λ b=>by simp only[zA0];lia)).count f;exact x ex k σ e H2 F2 A3 B rx ⟨I,l,S.len,S.ag⟩ J
theorem emake(i:Cl X.K X.mg x C)(M:Mk X.K C f)(D:Md X.K C m qual st f fd ps)(G:Ea cm X.prog X.w X.K X.mg X.base k f fd ps s)(j:Lands X c.E)(l:Oy cm (k+1) X.A)(a:VAs c X (e::es) tr)(n:Gl X x:=by rfl)(d:N' x:=by decide)(o:Jm (e::es) X.env=(false,eval e X.env)::Jm es X.env:=by rfl)(g:(backTo pos (Jm es X.env)).any (·.1)=false:=by rfl):VE c X (.Call (.Name x p) (e::es) [] pos) (qM9 C s [] tr) :=
 ⟨PE.mono (qad7 M G.ok l n i.m D.b .nil j.passes a.h d o g) (qaf7 qm3 G.m a),qF2 G.m a⟩
theorem qaY1{ndv:List V'}(i:Cl X.K X.mg x C)(M:Mk X.K C f)(b:Binds X.K fd ps [.none])(G:Ea cm X.prog X.w X.K X.mg X.base k f fd ps s)(j:Lands X c.E)(l:Oy cm (k+1) X.A)(a:VAs c X (e::es) tr)(n:Gl X x:=by rfl)(d:N' x:=by decide)(o:Jm (e::es) X.env=(false,eval e X.env)::Jm es X.env:=by rfl)(g:(backTo pos (Jm es X.env)).any (·.1)=false:=by rfl):VE c X (.Call (.Name x p) (e::es) [] pos) (qM9 C s [.non] tr) :=
 ⟨PE.mono (qad7 M G.ok l n i.m b (dvs:=[.non]) (.cons rfl .nil) j.passes a.h d o g) (qaf7 qaq2 G.m a),qF2 G.m a⟩
def tLstV(tr:VTB):VT:=λ ds Q xe=>tr ds (λ xs ps ds1=>xs.length<=big/\Q (.l false xs) ds1) xe
def Iw(tr:VTB):VT:=λ ds Q xe=>tr ds (λ xs ps ds1=>xs.length<=big/\Q (.q xs) ds1) xe
theorem Gr(d:VAs c X es tr):VE c X (.List es pos) (tLstV tr):=by
 refine⟨PE.mono (qaz3 d.h) λ σ H Q e=>?_,λ j Q Q' k l n o=>d.m _ _ _ _ _ (λ p r f=>Ni (n _ _)) o⟩;obtain⟨F,j,A,k,S,x,q⟩:=e;refine⟨F,j,A,k,S,x,d.m _ _ _ _ _ (λ p r f q s H1 F1 T A1 g B S1 t v=>⟨by rw[g.len];exact zAk q.1 qj2,λ y i=>?_⟩) (λ _ _ z=>z) q⟩;have same:=Same.new (u:=.l s) i;have w:=(qi1 i).ok t (λ b a=>by
   rcases zAa.mp a with a | a
   . exact g.cells b a
   exact S1.loc.cells b a) same
 exact q.2 (.ref y) _ F1 (y::T) A1 (.l qc3 (g.same same)) (S1.same same) w (v.trans ((qi1 i).stp same))
theorem Hs(a:VAs c X es tr):VE c X (.Tuple es n pos) (Iw tr):=by
 refine⟨PE.mono (qaJ9 a.h) λ σ H Q b=>?_,λ e Q Q' f j k l=>a.m _ _ _ _ _ (λ o p d=>Ni (k _ _)) l⟩;obtain⟨F,e,A,f,S,x,q⟩:=b;refine⟨F,e,A,f,S,x,a.m _ _ _ _ _ (λ o p d q r H1 F1 T A1 g v S1 s t=>⟨by rw[g.len];exact zAk q.1 qj2,λ y i=>?_⟩) (λ _ _ z=>z) q⟩;have same:=Same.new (u:=.q r) i;exact q.2 (.ref y) _ F1 T A1 (qJ6 i g) (S1.same same) (s.same same) (t.trans (.same same))
end
structure VEnds where
 nx:Ds->Prop
 rt:DK
 bk:Ds->Prop
 ct:Ds->Prop
 xe:XKd
abbrev VTS:=VEnds->Ds->Prop
structure VEnds.Le(e e':VEnds):Prop where
 nx:∀ ds,e.nx ds->e'.nx ds
 rt:∀ d ds,e.rt d ds->e'.rt d ds
 bk:∀ ds,e.bk ds->e'.bk ds
 ct:∀ ds,e.ct ds->e'.ct ds
 xe:∀ x ds,e.xe x ds->e'.xe x ds
structure Lk(c:Vc)(E:De)(F:γ->Prop)(H:Hp)(A:List γ)(e:VEnds):Prop where
 nx:∀ ds' a' H' F' A',e.nx ds'->Ox c F' H' a' ds' A'->Ow F H A F' H' A'->E.nx a' H'
 rt:∀ d ds' v a' H' F' T A',e.rt d ds'->Ou F' H' v d T->Ox c F' H' a' ds' A'->Ok F' H' (T++A')->Ow F H A F' H' (T++A')->E.rt v H'
 bk:∀ ds' a' H' F' A',e.bk ds'->Ox c F' H' a' ds' A'->Ow F H A F' H' A'->E.bk a' H'
 ct:∀ ds' a' H' F' A',e.ct ds'->Ox c F' H' a' ds' A'->Ow F H A F' H' A'->E.ct a' H'
 xe:Xc c e.xe F H A
theorem Lk.step(l:Lk c E F H A e)(s:Ow F H A F1 H1 A1):Lk c E F1 H1 A1 e :=
 ⟨λ a b' H' F' A' h S t=>l.nx a b' H' F' A' h S (s.trans t),λ d a v b' H' F' T A' h r S o t=>l.rt d a v b' H' F' T A' h r S o (s.trans t),λ a b' H' F' A' h S t=>l.bk a b' H' F' A' h S (s.trans t),λ a b' H' F' A' h S t=>l.ct a b' H' F' A' h S (s.trans t),l.xe.step s⟩
inductive LiftS(c:Vc)(t:VTS)(E:De)(a:St)(H:Hp):Prop
 | mk (F:γ->Prop) (ds:Ds) (A:List γ) (e:VEnds) (S:Ox c F H a ds A) (l:Lk c E F H A e) (q:t e ds):LiftS c t E a H
def Ei(c:Vc)(t:VTS):TS:=LiftS c t
structure VS(c:Vc)(X:Cx)(st:Kh)(t:VTS):Prop where
 h:PS X st (Ei c t)
 m:∀(e e':VEnds) ds,e.Le e'->t e ds->t e' ds
structure VSs(c:Vc)(X:Cx)(st:List Kh)(t:VTS):Prop where
 h:PSs X st (Ei c t)
 m:∀(e e':VEnds) ds,e.Le e'->t e ds->t e' ds
section
variable{c:Vc}{X:Cx}{a b e:Kf}{J:Kh}{rest:List Kh}{t u:VTS}{te:VT}{pos:Pos}
def Ga:VTS:=λ e ds=>e.nx ds
def Gb(t u:VTS):VTS:=λ e ds=>t { e with nx:=u e } ds
theorem Ax:VSs c X [] Ga:=⟨PSs.mono qaI8 λ E G H ⟨F,a,A,e,S,l,q⟩=>l.nx a G H F A q S Ow.refl,λ e b a h=>h.nx a⟩
theorem Aa(h1:VS c X J t)(h2:VSs c X rest u):VSs c X (J::rest) (Gb t u):=by
 refine⟨PSs.mono (qad0 h1.h h2.h) λ E G H a=>?_,λ e f b h=>h1.m _ _ _ ⟨λ b=>h2.m _ _ _ h,h.rt,h.bk,h.ct,h.xe⟩⟩;obtain⟨F,b,A,e,S,l,q⟩:=a;exact⟨F,b,A,{ e with nx:=u e },S,⟨λ d G' H' F' A' q S' s=>⟨F',d,A',e,S',l.step s,q⟩,l.rt,l.bk,l.ct,l.xe⟩,q⟩
theorem Aj(h1:VS c X J t):VSs c X [J] t:=⟨qat1 h1.h,h1.m⟩
def sRet(te:VT):VTS:=λ e ds=>te ds e.rt e.xe
theorem Au(h:VE c X e te):VS c X (.Return (some e) pos) (sRet te):=by
 refine⟨PS.mono (qaJ0 h.h) λ E G H ⟨F,b,A,e,S,l,q⟩=>⟨F,b,A,e.xe,S,l.xe,h.m _ _ _ _ _ (λ d a q v H' F' T A' r S' o s=>l.rt d a v G H' F' T A' q r S' o s) (λ _ _ z=>z) q⟩,λ e g b f=>h.m _ _ _ _ _ f.rt f.xe⟩
def sExpr(te:VT):VTS:=λ e ds=>te ds (λ _ a=>e.nx a) e.xe
theorem Bm(h:VE c X e te)(i:swapsWith e none pos.line X.env=pure false:=by rfl):VS c X (.Expr e pos) (sExpr te):=by
 refine⟨PS.mono (qaJ1 h.h i) λ E G H ⟨F,f,A,e,S,l,q⟩=>⟨F,f,A,e.xe,S,l.xe,h.m _ _ _ _ _ (λ d a q v H' F' T A' r S' o s=>l.nx a G H' F' A' q S' (s.count λ b=>by rw[zA0];lia)) (λ _ _ z=>z) q⟩,λ e j f g=>h.m _ _ _ _ _ (λ _=>g.nx) g.xe⟩
def sIf(qc:VTT)(t u:VTS):VTS:=λ e ds=>qc ds (λ k a=>if k=true then t e a else u e a) e.xe
theorem sif(b:VTe c X cd qc)(g:VSs c X x t)(i:VSs c X y u):VS c X (.If cd x y pos) (sIf qc t u):=by
 refine⟨PS.mono (ps_if b.h g.h i.h) λ E G H d=>?_,λ e n j f=>b.m _ _ _ _ _ (λ k a=>qK1 (g.m _ _ _ f) (i.m _ _ _ f)) f.xe⟩;obtain⟨F,j,A,e,S,l,q⟩:=d;refine⟨F,j,A,e.xe,S,l.xe,b.m _ _ _ _ _ (λ k a q H' F' A' S' s=>?_) (λ _ _ z=>z) q⟩;cases k with
 | true=>rw[if_pos rfl] at q ⊢;exact⟨F',a,A',e,S',l.step s,q⟩
 | false=>rw[if_neg (by decide)] at q ⊢;exact⟨F',a,A',e,S',l.step s,q⟩
def qaS3:VTS:=λ _ _=>False
theorem ql5:VS c X J qaS3:=⟨λ _ _ _ _ _ _ ⟨_,_,_,_,_,_,q⟩=>q.elim,λ _ _ _ _ q=>q.elim⟩
abbrev VTG:=D->Ds->(Ds->Prop)->Prop
inductive LiftG(c:Vc)(g:VTG)(v:V)(G:St)(H:Hp)(Q:St->Hp->Prop):Prop
 | mk (F:γ->Prop) (ds:Ds) (A T:List γ) (d:D) (r:Ou F H v d T) (S:Ox c F H G ds A) (o:Ok F H (T++A)) (q:g d ds (λ ds'=>∀ G' H' F' A',Ox c F' H' G' ds' A'->Ow F H (T++A) F' H' A'->Q G' H')):LiftG c g v G H Q
def E4(c:Vc)(g:VTG):TG:=LiftG c g
structure VG(c:Vc)(X:Cx)(e:Kf)(g:VTG):Prop where
 h:PG X e (E4 c g)
 m:∀ d ds (Q Q':Ds->Prop),(∀ ds',Q ds'->Q' ds')->g d ds Q->g d ds Q'
theorem PG.mono(h:PG X e g)(i:∀ v G H Q,g' v G H Q->g v G H Q):PG X e g':=λ D8 s G H v u Q I r q=>h D8 s G H v u Q I r (i v G H Q q)
theorem Ox.store(S:Ox c F H G ds A)(m:c.W i=false)(hi:i < G.length)(r:Ou F H v d T)(o:Ok F H (T++A)) :
   ∃ A',Ox c F H (G.set i (some v)) (ds.set i d) A'/\Ow F H (T++A) F H A':=by
 have n:=S.loc.len;rw[zAe] at n;obtain⟨σ1,x,σ2,e,f,A1,B,A2,p,e2,q,s,t,u,y,w⟩:=S.loc.split (i:=i) (d:=ds[i]'(by lia)) (by simp);have hσ:G.set i (some v)++c.gv=σ1++some v::σ2:=by
   rw[<- L8 _ _ hi,p,qn3 q]
 have g:ds.set i d=e++d::f:=by
   have:=congrArg (λ l=>l.set i d) e2
   rw[this,qn3 s]
 have a:∀ b,(A1++(T++A2)).count b<=(T++A).count b:=λ b=>by rw[t];simp only[zA0];lia
 refine⟨A1++(T++A2),⟨by rw[hσ,g];exact u.append (.so r w),o.count a,?_,λ j h=>?_⟩,Ow.refl.count a⟩
 . rw[S.len,zAe,zAe,Lw]
 have k:i≠j:=λ z=>by subst z;rw[m] at h;cases h
 rw[<- S.ag j h,<- L8 _ _ hi,zBk k]
def gNm(i:Nat):VTG:=λ d ds Q=>Q (ds.set i d)
theorem A7(i:Nat)(b:X.N.Nodup)(e:c.W i=false:=by rfl)(hi:X.N[i]? = some x:=by rfl)(f:Loc X.env.scope x:=by first | exact Ol rfl | exact Oj rfl)(g:X.fn x=true∨X.env.scope.names.lookup x=some .local:=by first | exact .inl rfl | exact .inr rfl | assumption):VG c X (.Name x pos) (gNm i):=by
 refine⟨λ D8 s G H v h Q I j a=>?_,λ d k Q Q' l=>l _⟩;obtain⟨F,k,A,T,d,r,S,o,q⟩:=a;refine qat4 b hi f g D8 s G H v h Q I j ?_;obtain⟨A',S',m⟩:=S.store e (qp3 hi D8 G H s I) r o;exact q _ H F A' S' m
def Eb(te:VT)(g:VTG):VTS:=λ e ds=>te ds (λ d a=>g d a e.nx) e.xe
theorem qaZ5(h:VE c X e te)(f:VG c X tg g):∀ E G H,Ei c (Eb te g) E G H->Hj (Bi c te) (E4 c g) E G H:=by
 rintro E G H ⟨F,i,A,j,S,l,q⟩;refine⟨F,i,A,j.xe,S,l.xe,h.m _ _ _ _ _ (λ d a q v H' F' T A' r S' o s=>?_) (λ _ _ z=>z) q⟩;exact⟨F',a,A',T,d,r,S',o,f.m _ _ _ _ (λ b q σ2 H2 F2 A2 S2 k=>l.nx b σ2 H2 F2 A2 q S2 (s.trans k)) q⟩
theorem qaj6(h:VE c X e te)(f:VG c X tg g):∀(en a:VEnds) ds,en.Le a->Eb te g en ds->Eb te g a ds:=λ en a ds b=>h.m _ _ _ _ _ (λ d i=>f.m _ _ _ _ b.nx) b.xe
theorem Fs(h:VE c X e te)(a:VG c X tg g)(b:swapsWithSole [tg] e pos.line X.env=pure false:=by rfl)(d:swappedStores [tg] e X.env=pure none:=by rfl)(h1:(J2 [tg] X.env).map (·.2)=[assign tg X.env]:=by rfl):VS c X (.Assign [tg] e pos) (Eb te g) :=
 ⟨PS.mono (qaS9 h.h a.h b d h1) (qaZ5 h a),qaj6 h a⟩
theorem An(i:Nat)(a:X.N.Nodup)(h:VE c X e te)(b:c.W i=false:=by rfl)(hi:X.N[i]? = some x:=by rfl)(f:Loc X.env.scope x:=by first | exact Ol rfl | exact Oj rfl)(j:swapsWith e (some (.Name x pos')) pos.line X.env=pure false:=by rfl)(g:X.fn x=true∨X.env.scope.names.lookup x=some .local:=by first | exact .inl rfl | exact .inr rfl | assumption) :
   VS c X (.Assign [.Name x pos'] e pos) (Eb te (gNm i)):=by
 have k:VG c X (.Name x pos') (gNm i):=A7 i a b hi f g;refine⟨λ D8 s G H E I q=>qaI9 a hi f h.h j g D8 s G H E I ?_,qaj6 h k⟩;obtain⟨F,n,A,p,S,l,q⟩:=q;refine⟨F,n,A,p.xe,S,l.xe,h.m _ _ _ _ _ (λ d t q v H' F' T A' r S' o u=>?_) (λ _ _ z=>z) q⟩;obtain⟨A2,S2,w⟩:=S'.store b (qp3 hi D8 G H s I) r o;exact l.nx _ _ H' F' A2 q S2 (u.trans w)
abbrev Ft:=Ds->Ds->(Ds->Prop)->Prop
inductive qaR2(c:Vc)(g:Ft)(vs:List V)(G:St)(H:Hp)(Q:St->Hp->Prop):Prop
 | mk (F:γ->Prop) (ds:Ds) (A T:List γ) (xs:Ds) (r:On F H vs xs T) (S:Ox c F H G ds A) (o:Ok F H (T++A)) (q:g xs ds (λ ds'=>∀ G' H' F' A',Ox c F' H' G' ds' A'->Ow F H (T++A) F' H' A'->Q G' H')):qaR2 c g vs G H Q
def qaW0(c:Vc)(g:Ft):TGs:=qaR2 c g
structure VGs(c:Vc)(X:Cx)(es:List Kf)(g:Ft):Prop where
 h:PGs X es (qaW0 c g)
 m:∀ xs ds (Q Q':Ds->Prop),(∀ ds',Q ds'->Q' ds')->g xs ds Q->g xs ds Q'
theorem PGs.mono(h:PGs X es g)(i:∀ v G H Q,g' v G H Q->g v G H Q):PGs X es g':=λ D8 s G H v u Q I r q=>h D8 s G H v u Q I r (i v G H Q q)
def Hb:Ft:=λ xs ds Q=>match xs with | []=>Q ds | _=>False
def qK8(g:VTG)(b:Ft):Ft:=λ xs ds Q=>match xs with | x::r=>g x ds λ a=>b r a Q | []=>False
theorem Ej:VGs c X [] Hb:=by
 refine⟨PGs.mono qaJ7 λ f G H Q a=>?_,λ b d Q Q' e q=>by cases b with | nil=>exact e _ q | cons _ _=>exact q.elim⟩;obtain⟨F,d,A,T,b,r,S,o,q⟩:=a;cases b with
 | nil=>cases r;exact⟨rfl,q G H F A S Ow.refl⟩
 | cons _ _=>exact q.elim
theorem qm1(h1:VG c X tg g)(h2:VGs c X es l)(s:(J2 (tg::es) X.env).map (·.2)=assign tg X.env::(J2 es X.env).map (·.2):=by rfl):VGs c X (tg::es) (qK8 g l):=by
 refine⟨PGs.mono (qaz2 h1.h h2.h s) λ e G H Q ⟨F,n,A,T,d,r,S,o,q⟩=>?_,λ d n Q Q' t q=>by
   cases d with
   | nil=>exact q.elim
   | cons x r=>exact h1.m _ _ _ _ (λ u=>h2.m _ _ _ _ t) q⟩
 cases d with
 | nil=>exact q.elim
 | cons x d =>
   cases r with
   | @cons v _ T1 e _ T2 r1 rt =>
     refine⟨v,e,rfl,F,n,A,T1,x,r1,S,o.count λ b=>by simp only[zA0];lia,h1.m _ _ _ _ (λ f q σ1 H1 F1 A1 S1 p=>?_) q⟩;have i:Ok F H (T2++(T1++A)):=o.count λ b=>by simp only[zA0];lia
     obtain⟨w,y⟩:=p.frame i rt.cells S1.ok;have j:Ok F H (T1++A):=i.right;have k:On F1 H1 e d T2:=rt.keep (p.kp j λ b a=>by
       rcases zAa.mp a with a | a
       . exact r1.cells b a
       exact S.loc.cells b a) λ b a C=>by
       have:=i.sep b
       rw[zA0] at this
       have:=qa9.mp a
       lia
     exact⟨F1,f,A1,T2,d,k,S1,w,h2.m _ _ _ _ (λ z q σ2 H2 F2 A2 S2 B=>q σ2 H2 F2 A2 S2 ((y.pre λ b=>by simp only[zA0];lia).trans B)) q⟩
def Hc(n:Nat)(a:Ft):VTG:=λ d ds Q=>match d with | .q xs=>xs.length=n/\a xs ds Q | _=>False
theorem Ek{e:Ft}(j:X.calm=true)(h:VGs c X es e)(l:(J2 es X.env).length=n:=by rfl)(b:(J2 es X.env).findIdx? (·.1)=none:=by rfl):VG c X (.Tuple es k pos) (Hc n e):=by
 refine⟨PG.mono (qaT1 j h.h l b) λ v G H Q ⟨F,f,A,T,d,r,S,o,q⟩=>?_,λ d f Q Q' p q=>by
   cases d with
   | q g=>exact⟨q.1,h.m _ _ _ _ p q.2⟩
   | _=>exact q.elim⟩
 cases d with
 | q g =>
   obtain⟨a,s,rfl,t,i⟩:=r.tup_inv;exact⟨a,s,rfl,.inl (.inl t),by rw[i.len];exact q.1,F,f,A,T,g,i,S,o,q.2⟩
 | _=>exact q.elim
end
section
variable{c:Vc}{F:γ->Prop}{H:Hp}{X:St}{ds:Ds}{A T:List γ}
theorem qM2(h:H a=some o)(hm:D9 o=true)(c:¬ F a):Kp F H (λ b=>b=a) F (upd H a o') :=
 ⟨λ b u e w=>by rw[qc9 w];exact e,λ b w=>by subst w;exact⟨o,h,hm⟩,λ b w=>by subst w;exact c,λ _ f=>f⟩
theorem On.setAt(r:On F H vs ys Ael)(s:n < ys.length)(e:Ou F H v d Tv):∃ B,On F H (vs.set n v) (ys.set n d) B/\∀ b,B.count b<=Ael.count b+Tv.count b:=by
 obtain⟨f,w,g,a,c,A1,B,A2,h,e2,j,k,m,o,t,p⟩:=r.split (i:=n) (d:=ys[n]) (by simp);have q:ys.set n d=a++d::c:=by
   have:=congrArg (λ l=>l.set n d) e2
   rw[this,qn3 k]
 rw[h,qn3 j,q];exact⟨A1++(Tv++A2),o.append (.cons e p),λ b=>by rw[m];simp only[zA0];lia⟩
theorem qC0(r:Ou F H v (.l false ys) B):∃ a vs Ael,v=.ref a/\H a=some (.l vs)/\On F H vs ys Ael/\B=a::Ael:=by
 cases r with
 | l h r=>exact⟨_,_,_,rfl,h,r,rfl⟩
theorem qm4(S:Ox c F H X ds A)(h:Bb ds i p=some (.l false ys))(J:(X++c.gv)[i]? = some (some u))(K:Walk H u p w) :
   ∃(a:γ)(vs:List V)(Ael:List γ),w=.ref a/\H a=some (.l vs)/\On F H vs ys Ael /\
   ∀(g:List V)(m:List D)(B' R T:List γ),Ok F H (T++A)->On F H g m B'->(∀ b,B'.count b+R.count b<=Ael.count b+T.count b) ->
     (∃ A',Ox c F (upd H a (.l g)) X (Bj ds i p (.l false m)) A'/\Ok F (upd H a (.l g)) (R++A')/\Ow F H (T++A) F (upd H a (.l g)) (R++A'))/\∀ v d,Ou F H v d R->Ou F (upd H a (.l g)) v d R:=by
 obtain⟨B,C,r,L,M⟩:=S.place h (by intro z;cases z) J K;obtain⟨a,vs,Ael,rfl,y,N,rfl⟩:=qC0 r;refine⟨a,vs,Ael,rfl,y,N,λ g m B' R T q O E=>?_⟩;have n:∀ b,A.count b=(if b=a then 1 else 0)+Ael.count b+C.count b:=λ b=>by
   rw[L,zAs];by_cases j:b=a
   . subst j;simp;lia
   simp[j,Ne.symm j]
 have s:=n a;rw[if_pos rfl] at s;have sa:=q.sep a;rw[zA0] at sa;have P:=E a;have G:¬ F a:=λ f=>by have:=q.fro a f;rw[zA0] at this;lia
 have k:=qM2 (F:=F) (o':=.l g) y rfl G;have rep':Ou F (upd H a (.l g)) (.ref a) (.l false m) (a::B'):=.l qc3 (O.keep k λ b j w=>by subst w;have:=qa9.mp j;lia);obtain⟨A',Q,q2⟩:=M _ _ k (λ b j w=>by subst w;have:=qa9.mp j;lia) rep';have t:∀ b,A'.count b=(if b=a then 1 else 0)+B'.count b+C.count b:=λ b=>by
   rw[q2,zAs];by_cases j:b=a
   . subst j;simp;lia
   simp[j,Ne.symm j]
 have l:∀ b,(R++A').count b<=(T++A).count b:=λ b=>by rw[zA0,zA0,t,n];have:=E b;lia
 have U:∀ b,F b->∃ o,upd H a (.l g) b=some o:=λ b f=>by
   obtain⟨x,e⟩:=q.ex b f;exact⟨x,by rw[qc9 (show b≠a from λ w=>G (w ▸ f))];exact e⟩
 have I:Ok F (upd H a (.l g)) (R++A'):=⟨λ b=>zAk (l b) (q.sep b),λ b f=>by have:=q.fro b f;have:=l b;lia,U⟩
 refine⟨⟨A',⟨Q,I.right,S.len,S.ag⟩,I,λ b u e z=>?_,λ b u e z=>by have:=l b;lia,λ _ f=>f,λ _ _ _ _ f=>f⟩,λ v d W=>W.keep k λ b j w=>by subst w;have:=qa9.mp j;lia⟩;rw[qc9 λ w=>?_]
 . exact e
 subst w;have:=n b;rw[if_pos rfl] at this;rw[zA0] at z;lia
def Ix(r:V->List V->Hp->VK->Prop)(g:Ds->Ds->Option (Ds×D)):Prop:=∀ F H a vs ys Ael f xs T c d (Q:VK),H a=some (.l vs)->On F H vs ys Ael->On F H f xs T->g ys xs=some (c,d) ->
 (∀ e v B' R,On F H e c B'->Ou F H v d R->(∀ b,B'.count b+R.count b<=Ael.count b+T.count b)->Q v (upd H a (.l e)))->r (.ref a) f H Q
def Gc(ys xs:Ds):Option (Ds×D):=match xs with
 | [x]=>if ys.length < big then some (ys++[x],.non) else none
 | _=>none
theorem qt3:Ix qat0 Gc:=by
 intro F H a i c Ael m j T e d Q k r l h q
 match j,h with
 | [x],h =>
   obtain⟨w,rfl,f⟩:=l.one_inv;have h:(if c.length < big then some (c++[x],D.non) else none)=some (e,d):=h;by_cases g:c.length < big
   . rw[if_pos g] at h
     cases h;refine⟨a,i,w,rfl,rfl,k,by rw[r.len];exact zAg g qj2,?_⟩;exact q _ .non (Ael++(T++[])) [] (r.append (.cons f .nil)) .non λ b=>by simp[zA0]
   rw[if_neg g] at h;cases h
end
section
variable{c:Vc}{X:Cx}{a b e o:Kf}{pf:PF}{tr:VTB}{es:List Kf}{r:V->List V->Hp->VK->Prop}{g:Ds->Ds->Option (Ds×D)}
noncomputable def D.own:D->Option Ds
 | .l false ys=>some ys
 | _=>none
theorem Iy{d:D}(h:d.own=some ys):d=.l false ys:=by
 cases d with
 | l z a=>cases z with
   | false=>cases h;rfl
   | true=>cases h
 | _=>cases h
def El(g:Ds->Ds->Option (Ds×D))(i:Nat)(tr:VTB):VT:=λ ds Q xe=>((rdN i ds).bind D.own).isSome=true/\tr ds (λ xs _ ds1=>orF ((rdN i ds1).bind D.own) λ ys=>orF (g ys xs) λ z=>Q z.2 (ds1.set i (.l false z.1))) xe
theorem qG1(h:ds[i]? = some d):Bb ds i []=some d:=by unfold Bb;rw[h];rfl
theorem qE1(h:ds[i]? = some d):Bj ds i [] x=ds.set i x:=by unfold Bj;rw[h];rfl
theorem qaM5(t:T = "list")(hm:Ix r g)(u:VAs c X es tr)(hi:i < σ.length)(q:Bi c (El g i tr) σ H Q):tBM X.K T r (Fm i) (Eh c tr) σ H Q:=by
 subst t;obtain⟨F,y,A,B,S,x,C,q⟩:=q;obtain⟨D,b⟩:=zB8.mp C;obtain⟨d0,E,f⟩:=zA1.mp b;cases Iy f;obtain⟨v,B0,o,G,_⟩:=S.name hi E;obtain⟨a,h,A0,rfl,j,_,_⟩:=G.lst_inv;refine⟨.ref a,o,.inl ⟨rfl,h,.inl (.inl j)⟩,F,y,A,B,S,x,u.m _ _ _ _ _ (λ I ps J q L H1 F1 T A1 M pk S1 N O=>?_) (λ _ _ z=>z) q⟩;obtain⟨P,U,q⟩:=qa7.mp q;obtain⟨d1,e2,V⟩:=zA1.mp U;cases Iy V;obtain⟨⟨e,d⟩,W,q⟩:=qa7.mp q;obtain⟨s,hk⟩:=ql7.mp e2;have Y:(σ++c.gv)[i]? = some (some (.ref a)):=by rw[zAp hi];exact o
 obtain⟨a2,k,Ael,Z,l,rs,wr⟩:=qm4 S1 (qG1 s) Y (p:=[]) (w:=.ref a) rfl;cases Z;refine hm F1 H1 a k P Ael L I T e d Q l rs M W λ n v B' R h1 h2 h3=>?_
 obtain⟨⟨A',S2,o2,s2⟩,kr⟩:=wr n e B' R T N h1 h3;rw[qE1 s] at S2;exact q v _ F1 R A' (kr v d h2) S2 o2 (O.trans s2)
theorem qan7(e:VAs c X es tr):∀ ds (Q Q':DK) (xe b:XKd),(∀ d a,Q d a->Q' d a)->(∀ x a,xe x a->b x a)->El g i tr ds Q xe->El g i tr ds Q' b :=
 λ ds Q Q' xe b f h=>Ni (e.m _ _ _ _ _ (λ k l j=>qa4 λ y=>qa4 λ z=>f _ _) h)
theorem qak4(k:Kp F H W F' H'):∀{p:List Nat}{f:V}{d0 d:D}{B:List γ}{w o:V},(∀ b∈B,¬ W b)->Ou F H f d0 B->d0.getP p=some d->Walk H f p w->Walk H' f p o->o=w:=by
 intro p
 induction p with
 | nil=>intro f d0 d B w o _ _ _ h s;cases h;cases s;rfl
 | cons n p A =>
   intro f d0 d B w o g r i h s;unfold D.getP at i;cases j:d0.kids[n]? with
   | none=>rw[j] at i;cases i
   | some e =>
     rw[j] at i;obtain⟨x,E,G⟩:=h;obtain⟨L,t,u⟩:=s;obtain⟨y,B1,C1,z,I,J,_⟩:=r.kid j;obtain⟨M,B1',C1',l,_,_,_⟩:=(r.keep k g).kid j;cases E.fn z;cases t.fn l;have v:Lnk H' f n x:=by
       obtain⟨a,rfl,q⟩:=z;refine⟨a,rfl,?_⟩;cases r with
       | q c _ =>
         rcases q with⟨vs,e,h⟩ | ⟨vs,e,h⟩ | ⟨vs,e,h⟩ | ⟨C,dx,vs,e,h⟩
         . exact .inl ⟨vs,k.q e,h⟩
         . rw[c] at e;cases e
         . rw[c] at e;cases e
         rw[c] at e;cases e
       | l c _ =>
         have m:=k.fr _ _ c (g _ zAh);rcases q with⟨vs,e,h⟩ | ⟨vs,e,h⟩ | ⟨vs,e,h⟩ | ⟨C,dx,vs,e,h⟩
         . rw[c] at e;cases e
         . rw[c] at e;cases e;exact .inr (.inl ⟨_,m,h⟩)
         . rw[c] at e;cases e
         rw[c] at e;cases e
       | dct c _ _ =>
         have m:=k.fr _ _ c (g _ zAh);rcases q with⟨vs,e,h⟩ | ⟨vs,e,h⟩ | ⟨vs,e,h⟩ | ⟨C,dx,vs,e,h⟩
         . rw[c] at e;cases e
         . rw[c] at e;cases e
         . rw[c] at e;cases e;exact .inr (.inr (.inl ⟨_,m,h⟩))
         rw[c] at e;cases e
       | ins c _ _ =>
         have m:=k.fr _ _ c (g _ zAh);rcases q with⟨vs,e,h⟩ | ⟨vs,e,h⟩ | ⟨vs,e,h⟩ | ⟨C,dx,vs,e,h⟩
         . rw[c] at e;cases e
         . rw[c] at e;cases e
         . rw[c] at e;cases e
         rw[c] at e;cases e;exact .inr (.inr (.inr ⟨_,_,_,m,h⟩))
       | _=>cases (show (none:Option D)=some _ from j)
     cases v.fn l;exact A (B:=B1) (λ b K=>g b (qa9.mpr (by have:=J b;have:=qa9.mp K;lia))) I i G u
def Ff(g:Ds->Ds->Option (Ds×D))(pf:PF)(tr:VTB):VT:=λ ds Q xe=>orF (pf ds) λ q=>orF ((Bb ds q.1 q.2).bind D.own) λ ys=>orF ds[q.1]? λ a=>tr (ds.set q.1 .u) (λ xs _ ds1=>orF (g ys xs) λ z=>Q z.2 (Bj (ds1.set q.1 a) q.1 q.2 (.l false z.1))) xe
theorem qan6(e:VAs c X es tr):∀ ds (Q Q':DK) (xe b:XKd),(∀ d a,Q d a->Q' d a)->(∀ x a,xe x a->b x a)->Ff g pf tr ds Q xe->Ff g pf tr ds Q' b :=
 λ ds Q Q' xe b f h=>qa4 λ q=>qa4 λ j=>qa4 λ k=>e.m _ _ _ _ _ (λ l n i=>qa4 λ z=>f _ _) h
theorem qaM3(hm:Ix r g)(ha:VAs c X es tr):∀ σ H Q,Bi c (Ff g pf tr) σ H Q->tBM X.K "list" r (F8 c pf) (Eh c tr) σ H Q:=by
 rintro σ H Q ⟨F,Y,A,xe,S,x,q⟩;obtain⟨⟨i,p⟩,e1,q⟩:=qa7.mp q;obtain⟨n,e2,q⟩:=qa7.mp q;obtain⟨dl,h,e4⟩:=zA1.mp e2;cases Iy e4;obtain⟨I,l,q⟩:=qa7.mp q;refine⟨F,Y,A,i,p,_,S,e1,h,D.noConfusion,λ u w H1 s Z s0=>?_⟩;have S0:=S.same s0;obtain⟨a,L,Ael0,rfl,M,a0,_⟩:=qm4 S0 h s Z;refine⟨.inl ⟨rfl,L,.inl (.inl M)⟩,?_⟩;have N:I≠.u:=λ z=>by
   subst z;have j:=h;unfold Bb at j;rw[l] at j;cases (qai3 j).2
 obtain⟨u',B,C,h1,J,h3,h4⟩:=S0.put1 l N;rw[s] at h1;cases h1;obtain⟨A1,q1,q2⟩:=h4 .u [] (Kp.same (F:=F) λ _ _ z=>z) (λ _ _ z=>z) (.u u);have O:Ok F H1 (B++A1):=S0.ok.count λ b=>by rw[zA0,q2,h3];simp
 have s1:Ow F H A F H1 (B++A1):=⟨λ b o e _=>s0 b o e,λ b o e z=>by rw[zA0,q2];have:=h3 b;simp;lia,λ _ f=>f,λ _ _ _ _ f=>f⟩
 have S1:Ox c F H1 σ (Y.set i .u) A1:=⟨q1,O.right,S.len,S.ag⟩
 have P:Ow F H A F H1 A1:=s1.count λ b=>by rw[zA0];lia
 refine⟨F,_,A1,xe,S1,x.step P,ha.m _ _ _ _ _ (λ xs ps k q vs H2 F2 T2 A2 r2 pk S2 o2 s2=>?_) (λ _ _ z=>z) q⟩;obtain⟨⟨t,d⟩,e7,q⟩:=qa7.mp q;have kp:=s2.kp S1.ok S1.loc.cells;have hBout:∀ b∈B,¬ (A1.count b≠0):=λ b hb hc=>by
   have:=O.sep b
   rw[zA0] at this
   have:=qa9.mp hb
   lia
 have y:Ou F2 H2 u I B:=J.keep kp hBout;obtain⟨o3,s3⟩:=s2.frame O J.cells o2;obtain⟨A3,k1,k2⟩:=qE0 S2.loc s y;have E:∀ b,A3.count b<=B.count b+A2.count b:=k2;have o4:Ok F2 H2 (T2++A3):=o3.count λ b=>by simp only[zA0];have:=E b;lia
 have s4:Ow F H A F2 H2 (T2++A3):=(s1.trans s3).count λ b=>by simp only[zA0];have:=E b;lia
 have S3:Ox c F2 H2 σ (k.set i I) A3:=⟨k1,o4.right,S.len,S.ag⟩
 have G:i < k.length:=by rw[<- S2.loc.len];exact(zA4.mp s).1
 have e8:Bb (k.set i I) i p=some (.l false n):=by
   unfold Bb at h ⊢;rw[l] at h;rw[zC7 G];exact h
 have T:Walk H2 u p (.ref a):=by
   obtain⟨w',_,_,w1,_,_,_⟩:=J.path (p:=p) (d:=.l false n) (by unfold Bb at h;rw[l] at h;exact h);cases Z.fn w1;obtain⟨w2,_,_,w3,_,_,_⟩:=y.path (p:=p) (d:=.l false n) (by unfold Bb at h;rw[l] at h;exact h)
   have:w2=.ref a:=by
     refine qak4 (d:=.l false n) kp hBout J ?_ w1 w3;unfold Bb at h;rw[l] at h;exact h
   rw[<- this];exact w3
 obtain⟨a2,U,Ael,ea,V,rs,wr⟩:=qm4 S3 e8 s T;cases ea;refine hm F2 H2 a U n Ael vs xs T2 t d Q V rs r2 e7 λ W v B' R z1 z2 z3=>?_
 obtain⟨⟨A',S4,o5,s5⟩,kr⟩:=wr W t B' R T2 o4 z1 z3;exact q v _ F2 R A' (kr v d z2) S4 o5 (s4.trans s5)
end
section
variable{c:Vc}{X:Cx}{a b e o:Kf}{pos cpos apos:Pos}{pf:PF}{tr:VTB}{es:List Kf}{fb:FV}{ob:Bool}{r:V->List V->Hp->VK->Prop}{g:Ds->Ds->Option (Ds×D)}{name:Str}{id:String}
theorem Db(i:Nat)(k:Ix r g)(l:PlainAttrs "list")(slot:Slot "list" name id)(b:typeOf (.builtin id)=pure (.type "method_descriptor"))(hm:MtM X id r)(d:VAs c X (e::es) tr)(j:X.N[i]? = some x:=by rfl)(m:Vis X.env.scope x:=by first | exact Ol rfl | exact Oj (Ol rfl) | exact Oj (Oj rfl))(n:N' x:=by decide)(f:(x == ("__classdict__" : Str))=false:=by decide)(hbase:Jt (.Name x p0) name X.env (eval (.Name x p0) X.env)=eval (.Name x p0) X.env:=by rfl)(a:((backTo cpos (Jm (e::es) X.env)).all (λ x=>!x.1)&&(backToKw cpos (Jx [] X.env)).all (λ x=>x.1.isSome)
     && decide ((e::es).length+([]:List Keyword).length+(if ([]:List Keyword).isEmpty then 0 else 1) < 30))=true:=by rfl)(hline:(apos.endLine == cpos.line)=true:=by rfl)(o:Jm (e::es) X.env=(false,eval e X.env)::Jm es X.env:=by rfl)(hplain:(backTo cpos (Jm es X.env)).any (·.1)=false:=by rfl) :
   VE c X (.Call (.Attribute (.Name x p0) name apos) (e::es) [] cpos) (El g i tr) :=
 ⟨λ D8 s σ H Q I q=>Ig l slot b hm (qo7 j m n f) d.h hbase a hline o hplain D8 s σ H Q I (qaM5 rfl k d (qp3 j D8 σ H s I) q),qan7 d⟩
theorem emutP(f:Ix r g)(i:PlainAttrs "list")(slot:Slot "list" name id)(b:typeOf (.builtin id)=pure (.type "method_descriptor"))(hm:MtM X id r)(j:VP c X o pf)(d:VAs c X (e::es) tr)(hbase:Jt o name X.env (eval o X.env)=eval o X.env:=by rfl)(a:((backTo cpos (Jm (e::es) X.env)).all (λ x=>!x.1)&&(backToKw cpos (Jx [] X.env)).all (λ x=>x.1.isSome)
     && decide ((e::es).length+([]:List Keyword).length+(if ([]:List Keyword).isEmpty then 0 else 1) < 30))=true:=by rfl)(hline:(apos.endLine == cpos.line)=true:=by rfl)(k:Jm (e::es) X.env=(false,eval e X.env)::Jm es X.env:=by rfl)(hplain:(backTo cpos (Jm es X.env)).any (·.1)=false:=by rfl) :
   VE c X (.Call (.Attribute o name apos) (e::es) [] cpos) (Ff g pf tr) :=
 ⟨PE.mono (Ig i slot b hm j.h d.h hbase a hline k hplain) (qaM3 f d),qan6 d⟩
def Fg(pf:PF)(fb:FV):VTG:=λ d ds Q=>orF (pf ds) λ q=>orF ((Bb ds q.1 q.2).bind D.own) λ ys=>orF ((fb ds).bind D.asI) λ k=>orF (ixN ys.length k) λ n=>Q (Bj ds q.1 q.2 (.l false (ys.set n d)))
theorem E5(y:VP c X o pf)(hi:VV c X b ob fb)(f:∀ v,assign (.Subscript o b pos) X.env v=(do
     let ov <- holding [v] (eval o X.env)
     let iv <- holding [v,ov] (eval b X.env)
     standAt pos
     holding [v,ov,iv] (setItem ov iv v)
     release [v,ov,iv] []):=by intro _;rfl):VG c X (.Subscript o b pos) (Fg pf fb):=by
 refine⟨PG.mono (qaT2 y.h hi.h qac3 f) λ v σ H Q g=>?_,λ d j Q Q' z=>qa4 λ _=>qa4 λ _=>qa4 λ _=>qa4 λ _=>z _⟩;obtain⟨F,j,A,T,d,r,S,B,q⟩:=g;obtain⟨⟨i,p⟩,C,q⟩:=qa7.mp q;obtain⟨E,e2,q⟩:=qa7.mp q;obtain⟨Y,l,G⟩:=zA1.mp e2;cases Iy G;obtain⟨k,I,q⟩:=qa7.mp q;obtain⟨J,K,L⟩:=zA1.mp I;obtain⟨n,m,q⟩:=qa7.mp q;refine⟨F,j,A,i,p,_,S,C,l,D.noConfusion,λ u w H1 M N s=>⟨F,j,A,J,S.same s,K,λ Z H2 B2 O t _=>?_⟩⟩;have e:=s.trans t;have S2:=S.same e;cases O.asI L;obtain⟨a,P,Ael,rfl,f,x,wr⟩:=qm4 S2 l M (N.same t);have R:n < E.length:=(qU5 m).2.1;obtain⟨B',U,V⟩:=x.setAt R (r.same e);obtain⟨⟨A',S3,o3,W⟩,_⟩:=wr _ _ B' [] T (B.same e) U λ b=>by have:=V b;simp;lia
 exact⟨a,P,k,n,rfl,rfl,f,by rw[x.len];exact m,q σ _ F A' S3 ((Ow.same e).trans W)⟩
def sAugV(f:Int->Int->Int)(pf:PF)(fb a:FV):VTS:=λ e ds=>orF (pf ds) λ q=>orF ((Bb ds q.1 q.2).bind D.own) λ ys=>orF ((fb ds).bind D.asI) λ k=>0<=k/\orF ((ys[k.toNat]?).bind D.asI) λ x=>orF ((a ds).bind D.asI) λ y=>e.nx (Bj ds q.1 q.2 (.l false (ys.set k.toNat (.int (f x y)))))
theorem saug{op:Operator}{N:FV}(V:VP c X o pf)(hi:VV c X b ob fb)(W:VV c X e oe N)(Y:PIp X op (ipI f))(Z:∀ n r d,augStore b n r d=(do holding [d,n,r] (setItem n r d);release [d,n,r] [];pure .next):=by intros;rfl):VS c X (.AugAssign (.Subscript o b tpos) op e pos) (sAugV f pf fb N):=by
 refine⟨PS.mono (qaJ2 V.h hi.h qaD1 W.h Y qac3 Z) λ E σ H t=>?_,λ en a0 s hl=>qa4 λ _=>qa4 λ _=>qa4 λ _=>Ni (qa4 λ _=>qa4 λ _=>hl.nx _)⟩;obtain⟨F,s,A,en,S,l,q⟩:=t;obtain⟨⟨i,p⟩,e1,q⟩:=qa7.mp q;obtain⟨ys,e2,q⟩:=qa7.mp q;obtain⟨dl,v,e4⟩:=zA1.mp e2;cases Iy e4;obtain⟨k,e5,O,q⟩:=qa7.mp q;obtain⟨dk,e6,e7⟩:=zA1.mp e5;obtain⟨x,e8,q⟩:=qa7.mp q;obtain⟨dx,P,z⟩:=zA1.mp e8;obtain⟨y,B,q⟩:=qa7.mp q;obtain⟨dy,C,G⟩:=zA1.mp B;refine⟨F,s,A,i,p,_,S,e1,v,D.noConfusion,λ u w H1 Q R T=>⟨F,s,A,dk,S.same T,e6,λ vk H2 B2 r2 I _=>?_⟩⟩;have g:=T.trans I;cases r2.asI e7;obtain⟨a,vs,Ael,rfl,J,K,_⟩:=qm4 (S.same g) v Q (R.same I);obtain⟨vx,Bx,hx,rx,_⟩:=K.get P;cases rx.asI z;refine⟨a,vs,k,_,rfl,rfl,J,O,hx,F,s,A,dy,S.same g,C,λ vy H3 B3 r3 U _=>?_⟩;cases r3.asI G;have j:=g.trans U;have S3:=S.same j;obtain⟨a',L,Ael',ea,M,m,wr⟩:=qm4 S3 v Q ((R.same I).same U);cases ea;have hn:k.toNat < ys.length:=(zA4.mp P).1;obtain⟨B',r4,h4⟩:=m.setAt hn (.int (f x y));obtain⟨⟨A',S4,o4,s4⟩,_⟩:=wr _ _ B' [] [] S3.ok r4 λ b=>by have:=h4 b;simpa using this
 refine⟨x,y,rfl,rfl,a,L,k,k.toNat,rfl,rfl,M,?_,l.nx _ σ _ F A' q S4 ((Ow.same j).trans s4)⟩;rw[m.len];unfold ixN;rw[if_pos O,if_pos (by lia)]
noncomputable def E6(f:Str)(d:D):List (Str×D)->List (Str×D)
 | []=>[(f,d)]
 | (g,x)::r=>if g=f then (g,d)::r else (g,x)::E6 f d r
end
section
variable{c:Vc}{X:Cx}{F:γ->Prop}{H:Hp}{W:St}{ds:Ds}{A T:List γ}{a b e o:Kf}{pos cpos apos:Pos}{te:VT}{pf:PF}{fa fb:FV}{oa ob:Bool}
theorem qT5:∀{a:List (Str×V)}{c:List (Str×D)}{B Tv:List γ}{f:Str}{v:V}{d:D},a.map (·.1)=c.map (·.1)->On F H (a.map (·.2)) (c.map (·.2)) B->Ou F H v d Tv->(Bw f v a).map (·.1)=(E6 f d c).map (·.1)/\∃ B',On F H ((Bw f v a).map (·.2)) ((E6 f d c).map (·.2)) B'/\∀ b,B'.count b<=B.count b+Tv.count b
 | [],[],B,Tv,f,v,d,_,r,rv=>⟨rfl,Tv++[],.cons rv .nil,λ b=>by simp⟩
 | [],_::_,_,_,_,_,_,h,_,_=>by simp at h
 | _::_,[],_,_,_,_,_,h,_,_=>by simp at h
 | (k,w)::r,(k',x)::r',B,Tv,f,v,d,h,rs,rv=>by
   have i:k=k':=by simp at h;exact h.1
   have e:r.map (·.1)=r'.map (·.1):=by simp at h;simpa using h.2
   subst i;cases rs with
   | @cons _ _ B1 _ _ B2 q t =>
     by_cases g:k=f
     . simp only[Bw,E6,if_pos g,zAx,e,true_and]
       exact⟨Tv++B2,.cons rv t,λ b=>by simp only[zA0];lia⟩
     obtain⟨j,B',l,m⟩:=qT5 (f:=f) e t rv;simp only[Bw,E6,if_neg g,zAx,j,true_and];exact⟨B1++B',.cons q l,λ b=>by simp only[zA0];have:=m b;lia⟩
def D.ownI(C:γ):D->Option (List (Str×D))
 | .ins false C' fs=>if C'=C then some fs else none
 | _=>none
theorem qaK9{d:D}(h:d.ownI C=some fs):d=.ins false C fs:=by
 cases d with
 | ins z C' b=>cases z with
   | false =>
     have h:(if C'=C then some b else none)=some fs:=h;by_cases a:C'=C
     . rw[if_pos a] at h;cases h;rw[a]
     rw[if_neg a] at h;cases h
   | true=>cases h
 | _=>cases h
theorem qaK8(S:Ox c F H W ds A)(h:Bb ds i p=some (.ins false C l))(E:(W++c.gv)[i]? = some (some u))(G:Walk H u p w) :
   ∃(a dx:γ)(d:List (Str×V))(Ael:List γ),w=.ref a/\H a=some (.ins C dx d)/\d.map (·.1)=l.map (·.1)/\On F H (d.map (·.2)) (l.map (·.2)) Ael /\
   ∀(fvs':List (Str×V))(fds':List (Str×D))(B' T:List γ),Ok F H (T++A)->fvs'.map (·.1)=fds'.map (·.1)->On F H (fvs'.map (·.2)) (fds'.map (·.2)) B'->(∀ b,B'.count b<=Ael.count b+T.count b) ->
     ∃ A',Ox c F (upd H a (.ins C dx fvs')) W (Bj ds i p (.ins false C fds')) A'/\Ow F H (T++A) F (upd H a (.ins C dx fvs')) A':=by
 obtain⟨B,C0,r,I,J⟩:=S.place h D.noConfusion E G;cases r with
 | @ins a _ dx d _ Ael ha hk rs =>
 refine⟨a,dx,d,Ael,rfl,ha,hk,rs,λ fvs' fds' B' T n q K v=>?_⟩;have m:∀ b,A.count b=(if b=a then 1 else 0)+Ael.count b+C0.count b:=λ b=>by
   rw[I,zAs];by_cases g:b=a
   . subst g;simp;lia
   simp[g,Ne.symm g]
 have s:=m a;rw[if_pos rfl] at s;have sa:=n.sep a;rw[zA0] at sa;have L:=v a;have y:¬ F a:=λ f=>by have:=n.fro a f;rw[zA0] at this;lia
 have k:=qM2 (F:=F) (o':=.ins C dx fvs') ha rfl y;have rep':Ou F (upd H a (.ins C dx fvs')) (.ref a) (.ins false C fds') (a::B'):=.ins qc3 q (K.keep k λ b g w=>by subst w;have:=qa9.mp g;lia);obtain⟨A',M,q2⟩:=J _ _ k (λ b g w=>by subst w;have:=qa9.mp g;lia) rep';have t:∀ b,A'.count b=(if b=a then 1 else 0)+B'.count b+C0.count b:=λ b=>by
   rw[q2,zAs];by_cases g:b=a
   . subst g;simp;lia
   simp[g,Ne.symm g]
 have j:∀ b,A'.count b<=(T++A).count b:=λ b=>by rw[zA0,t,m];have:=v b;lia
 have N:∀ b,F b->∃ o,upd H a (.ins C dx fvs') b=some o:=λ b f=>by
   obtain⟨x,e⟩:=n.ex b f;exact⟨x,by rw[qc9 (show b≠a from λ w=>y (w ▸ f))];exact e⟩
 refine⟨A',⟨M,⟨λ b=>zAk (j b) (n.sep b),λ b f=>by have:=n.fro b f;have:=j b;lia,N⟩,S.len,S.ag⟩,λ b u e z=>?_,λ b u e z=>by have:=j b;lia,λ _ f=>f,λ _ _ _ _ f=>f⟩;rw[qc9 λ w=>?_]
 . exact e
 subst w;have:=m b;rw[if_pos rfl] at this;rw[zA0] at z;lia
def sFldV(C:γ)(f:Str)(te:VT)(pf:PF):VTS:=λ e ds=>te ds (λ d ds1=>orF (pf ds1) λ q=>orF ((Bb ds1 q.1 q.2).bind (D.ownI C)) λ fs=>fs.length < 100/\e.nx (Bj ds1 q.1 q.2 (.ins false C (E6 f d fs)))) e.xe
theorem Gd(G:X.K=K)(I:VP c X o pf)(k:VE c X e te)(J:Cls K C)(L:qg8 K C f)(M:swapsWith e (some (.Attribute o f pos')) pos.line X.env=pure false:=by rfl):VS c X (.Assign [.Attribute o f pos'] e pos) (sFldV C f te pf):=by
 subst G;refine⟨PS.mono (qaS8 I.h k.h M) λ E W H n=>?_,λ s N t r=>k.m _ _ _ _ _ (λ d b=>qa4 λ _=>qa4 λ _=>Ni (r.nx _)) r.xe⟩;obtain⟨F,t,A,s,S,l,q⟩:=n;refine⟨F,t,A,s.xe,S,l.xe,k.m _ _ _ _ _ (λ d b q v H1 F1 T A1 O S1 P Q=>?_) (λ _ _ z=>z) q⟩;obtain⟨⟨i,p⟩,R,q⟩:=qa7.mp q;obtain⟨U,e2,r,q⟩:=qa7.mp q;obtain⟨dl,x,V⟩:=zA1.mp e2;cases qaK9 V;refine⟨F1,b,A1,i,p,_,S1,R,x,D.noConfusion,λ u w H2 Y Z j=>?_⟩;have S2:=S1.same j;obtain⟨a,dx,g,Ael,rfl,ha,y,rs,wr⟩:=qaK8 S2 x Y Z;have B:g.length=U.length:=by have:=congrArg Kx y;simpa using this
 refine⟨a,C,dx,g,rfl,ha,J,L,by lia,?_⟩;obtain⟨m1,B',m2,m3⟩:=qT5 (f:=f) y rs (O.same j);obtain⟨A',S3,s3⟩:=wr _ _ B' T (P.same j) m1 m2 m3;exact l.nx _ W _ F1 A' q S3 (Q.trans ((Ow.same j).trans s3))
def Eu(x:V):List V->Option Nat
 | []=>none
 | y::r=>if eqV y x=true then some 0 else (Eu x r).map (· + 1)
theorem qau9{x:V}:∀{xs:List V}{j:Nat},Eu x xs=some j->∃ z,xs[j]? = some z/\eqV z x=true/\∀ m z',m < j->xs[m]? = some z'->eqV z' x=false
 | [],j,h=>by cases h
 | y::r,j,h=>by
   unfold Eu at h;by_cases a:eqV y x=true
   . rw[if_pos a] at h;cases h
     exact⟨y,rfl,a,λ m z' c=>by lia⟩
   rw[if_neg a] at h;obtain⟨k,d,rfl⟩:=zAj.mp h;obtain⟨z,e,f,g⟩:=qau9 d;refine⟨z,by simpa using e,f,λ m z' c b=>?_⟩;cases m with
   | zero =>
     have:y=z':=by simpa using b
     subst this;simpa using a
   | succ m=>exact g m z' (by lia) (by simpa using b)
def gIdx(x y:D):Option D:=match x with
 | .l _ ys=>y.flat.bind λ v=>(flats ys).bind λ a=>(Eu v a).map λ j=>.int (j:Nat)
 | _=>none
def Iz(x y:D):Option D:=match x with
 | .l _ ys=>y.flat.bind λ v=>(flats ys).bind λ a=>some (.int (a.countP (λ z=>eqV z v):Nat))
 | _=>none
def rL1(r:V->List V->Hp->VK->Prop):R2:=λ x y H Q=>r x [y] H Q
theorem qaL0:A9 true (rL1 qaI2) gIdx:=by
 intro F H v w x y B d Q r h q;cases r with | @cons _ _ A _ _ _ b t=>cases t with | @cons _ _ A2 _ _ _ c _ =>
 cases x with
 | l z s =>
   obtain⟨u,e,h⟩:=zA1.mp h;obtain⟨C,i,h⟩:=zA1.mp h;obtain⟨j,k,rfl⟩:=zAj.mp h;obtain⟨rfl,f⟩:=c.flat e;obtain⟨a,l,A3,rfl,m,n,_⟩:=b.lst_inv;obtain⟨rfl,g⟩:=n.flats i;obtain⟨z,o,q2,p⟩:=qau9 k;exact⟨a,l,w,j,z,rfl,rfl,m,f,g,o,q2,p,q _ H [] (.int _) (λ _ _ z=>z) New.nil⟩
 | _=>cases h
theorem qaU2:A9 true (rL1 qaI4) Iz:=by
 intro F H v w x y B d Q r h q;cases r with | @cons _ _ A _ _ _ b t=>cases t with | @cons _ _ A2 _ _ _ c _ =>
 cases x with
 | l z m =>
   obtain⟨n,e,h⟩:=zA1.mp h;obtain⟨o,i,h⟩:=zA1.mp h;cases h;obtain⟨rfl,f⟩:=c.flat e;obtain⟨a,j,A3,rfl,k,l,_⟩:=b.lst_inv;obtain⟨rfl,g⟩:=l.flats i;exact⟨a,j,w,rfl,rfl,k,f,g,q _ H [] (.int _) (λ _ _ z=>z) New.nil⟩
 | _=>cases h
theorem vbm{id:String}(C:A9 true (rL1 r) g)(E:PlainAttrs "list")(slot:Slot "list" name id)(i:typeOf (.builtin id)=pure (.type "method_descriptor"))(hm:MtM X id r)(G:VV c X o oa fa)(I:VV c X b ob fb)(J:∀ x y d,g x y=some d->∃ z ys,x=.l z ys)(hbase:Jt o name X.env (eval o X.env)=eval o X.env:=by rfl)(f:((backTo cpos (Jm [b] X.env)).all (λ x=>!x.1)&&(backToKw cpos (Jx [] X.env)).all (λ x=>x.1.isSome)
     && decide (([b]:List Kf).length+([]:List Keyword).length+(if ([]:List Keyword).isEmpty then 0 else 1) < 30))=true:=by rfl)(hline:(apos.endLine == cpos.line)=true:=by rfl)(n:Jm [b] X.env=(false,eval b X.env)::Jm [] X.env:=by rfl)(hplain:(backTo cpos (Jm [] X.env)).any (·.1)=false:=by rfl) :
   VV c X (.Call (.Attribute o name apos) [b] [] cpos) true (f2 g fa fb):=by
 refine⟨PE.mono (Ig E slot i hm G.h (qh0 I.h qy3 n) hbase f hline n hplain) λ W H Q j=>?_⟩;obtain⟨F,p,A,d,S,e,q⟩:=j;obtain⟨x,y,K,L,s⟩:=qaD4.mp e;obtain⟨z,ys,rfl⟩:=J x y d s;refine⟨F,p,A,_,S,K,λ v H1 B1 t k R=>?_⟩;obtain⟨a,M,A3,rfl,l,T,_⟩:=t.lst_inv;refine⟨.inl ⟨rfl,M,.inl (.inl l)⟩,F,p,A,y,S.same k,L,λ w H2 B2 N m U=>?_⟩;exact C F H2 _ w _ y _ d Q (Fp (t.same m) N) s λ u H3 B3 O P B=>q u H3 B3 O ((k.trans m).trans P) λ _=>⟨B.one,λ b o e=>B.new b o (m b o (k b o e))⟩
theorem qau8:∀ x y d,gIdx x y=some d->∃ z ys,x=.l z ys:=λ x y d h=>by cases x with | l z ys=>exact⟨z,ys,rfl⟩ | _=>cases h
theorem qaQ2:∀ x y d,Iz x y=some d->∃ z ys,x=.l z ys:=λ x y d h=>by cases x with | l z ys=>exact⟨z,ys,rfl⟩ | _=>cases h
end
def Bu(g:VTG)(t:VTS)(e:VEnds):List D->Ds->Prop
 | [],ds=>e.nx ds
 | x::xs,ds=>g x ds λ ds1=>t { e with nx:=Bu g t e xs,ct:=Bu g t e xs,bk:=e.nx } ds1
def whN(qc:VTT)(t:VTS)(e:VEnds):Nat->Ds->Prop
 | 0,_=>False
 | n+1,ds=>qc ds (λ b ds1=>if b=true then t { e with nx:=whN qc t e n,ct:=whN qc t e n,bk:=e.nx } ds1 else e.nx ds1) e.xe
def qaH7(qc:VTT)(t:VTS):VTS:=λ e ds=>∃ n,whN qc t e n ds
section
variable{c:Vc}{X:Cx}{a b e tg:Kf}{body:List Kh}{g:VTG}{t:VTS}{te:VT}{qc:VTT}{pos:Pos}
theorem qk7(d:VG c X tg g)(e:VSs c X body t){en b:VEnds}(a:en.Le b):∀(xs:List D) ds,Bu g t en xs ds->Bu g t b xs ds
 | [],ds=>a.nx ds
 | x::xs,ds=>d.m _ _ _ _ λ f=>e.m _ _ _ ⟨qk7 d e a xs,a.rt,a.nx,qk7 d e a xs,a.xe⟩
theorem qM3{cd:Kf}(e:VTe c X cd qc)(f:VSs c X body t){en d:VEnds}(a:en.Le d):∀(n:Nat) ds,whN qc t en n ds->whN qc t d n ds
 | 0,ds=>id
 | n+1,ds=>e.m _ _ _ _ _ (λ b g=>qK1 (f.m _ _ _ ⟨qM3 e f a n,a.rt,a.nx,qM3 e f a n,a.xe⟩) (a.nx _)) a.xe
theorem qaG7(r:PassesOwn (Kb X.prog X.w) X.A X.env X.xe)(g:VTe c X cd qc)(o:VSs c X body t):VS c X (.While cd body [] pos) (qaH7 qc t):=by
 refine⟨PS.mono (qay8 r g.h o.h) λ E σ H i=>?_,λ d s e u ⟨n,q⟩=>⟨n,qM3 g o u n e q⟩⟩;obtain⟨F,e,A,d,S,l,n,q⟩:=i;refine⟨λ m σ H=>∃ F e A,Ox c F H σ e A/\Lk c E F H A d/\whN qc t d m e,⟨n,F,e,A,S,l,q⟩,?_⟩;rintro m σ H ⟨F,e,A,S,l,q⟩;cases m with
 | zero=>exact q.elim
 | succ m =>
   refine⟨F,e,A,d.xe,S,l.xe,g.m _ _ _ _ _ (λ b j q H1 F1 A1 S1 p=>?_) (λ _ _ z=>z) q⟩;cases b with
   | false=>rw[if_neg (by decide)] at q ⊢;exact l.nx _ _ _ _ _ q S1 p
   | true =>
     rw[if_pos rfl] at q ⊢;have f:=l.step p;refine⟨λ σ' H'=>∃ F' a A',Ox c F' H' σ' a A'/\Lk c E F' H' A' d/\whN qc t d m a,λ σ' H' h=>⟨m,by lia,h⟩,F1,j,A1,{ d with nx:=whN qc t d m,ct:=whN qc t d m,bk:=d.nx },S1,⟨?_,f.rt,f.nx,?_,f.xe⟩,q⟩
     . exact λ a σ' H' F' A' q S' k=>⟨F',a,A',S',f.step k,q⟩
     exact λ a σ' H' F' A' q S' k=>⟨F',a,A',S',f.step k,q⟩
theorem qH3{N:St->Hp->Prop}{b:Ds->Prop}(i:VG c X tg g)(S:Ox c F H σ ds A)(l:Lk c E F H A en)(r:Ou F H x y [])(h:∀ a σ' H' F' A',b a->Ox c F' H' σ' a A'->Ow F H A F' H' A'->N σ' H')(q:g y ds λ ds1=>t { en with nx:=b,ct:=b,bk:=en.nx } ds1) :
   E4 c g x σ H λ σ2 H2=>Ei c t { E with nx:=N,ct:=N,bk:=E.nx } σ2 H2:=by
 refine⟨F,ds,A,[],y,r,S,S.ok,i.m _ _ _ _ (λ ds1 q σ1 H1 F1 A1 S1 d=>?_) q⟩;have e:=l.step d;exact⟨F1,ds1,A1,{ en with nx:=b,ct:=b,bk:=en.nx },S1,⟨λ a σ' H' F' A' q S' f=>h a σ' H' F' A' q S' (Ow.trans d f),e.rt,e.nx,λ a σ' H' F' A' q S' f=>h a σ' H' F' A' q S' (Ow.trans d f),e.xe⟩,q⟩
noncomputable def D.lstOf:D->Option Ds
 | .l _ ys=>some ys
 | _=>none
theorem qp4{d:D}(h:d.lstOf=some ys):∃ z,d=.l z ys:=by
 cases d with
 | l z a=>cases h;exact⟨z,rfl⟩
 | _=>cases h
theorem qt6:∀{ys:List D}{i:Nat}{y:D},D.imms ys=true->ys[i]? = some y->y.imm=true
 | [],i,y,_,h=>by simp at h
 | d::r,0,y,hm,h=>by
   have:d=y:=by simpa using h
   subst this;exact(zAf.mp hm).1
 | d::r,i+1,y,hm,h=>qt6 (zAf.mp hm).2 (by simpa using h)
theorem qi8{xs:List α}(h:xs[i]? = some x):xs.drop i=x::xs.drop (i+1):=by
 obtain⟨a,rfl⟩:=zA4.mp h;exact K8 a
def sForL(te:VT)(g:VTG)(t:VTS):VTS:=λ e ds=>te ds (λ d ds1=>orF d.lstOf λ ys=>D.imms ys=true/\Bu g t e ys ds1) e.xe
theorem Ge(hp:PassesOwn (Kb X.prog X.w) X.A X.env X.xe)(hi:VE c X e te)(G:VG c X tg g)(Q:VSs c X body t)(R:X.calm=true:=by rfl)(I:∀ v,Jp e X.env v=pure v:=by intro _;rfl):VS c X (.For tg e body [] pos) (sForL te g t):=by
 refine⟨PS.mono (Hy hp R (qu4 hi.h) G.h Q.h I) λ E σ H J=>?_,λ s a0 k U=>hi.m _ _ _ _ _ (λ d n=>qa4 λ u=>Ni (qk7 G Q U u n)) U.xe⟩;obtain⟨F,k,A,s,S,l,q⟩:=J;refine⟨F,k,A,s.xe,S,l.xe,hi.m _ _ _ _ _ (λ d n q v H1 F1 T A1 V S1 o1 s1=>?_) (λ _ _ z=>z) q⟩;obtain⟨u,ey,hm,qf⟩:=qa7.mp q;obtain⟨z,rfl⟩:=qp4 ey;obtain⟨a,C,Ael,rfl,j,rs,_⟩:=V.lst_inv;have L:Ow F H A F1 H1 A1:=s1.count λ b=>by rw[zA0];lia
 refine⟨a,rfl,⟨C,.inl (.inl j)⟩,qai5 (K:=X.K) (a:=a) (xs:=C) (λ i σ H=>∃ F k A,Ox c F H σ k A/\Lk c E F H A s/\Ou F H (.ref a) (.l z u) T/\H a=some (.l C)/\Ok F H (T++A)/\Bu g t s (u.drop i) k) ⟨F1,n,A1,S1,l.step L,V,j,o1,qf⟩ ?_ ?_ ?_⟩
 . rintro i σ H _ ⟨F,k,A,S,l,r,j,o,q⟩
   exact .inl (.inl j)
 . rintro i x σ H hx ⟨F,k,A,S,l,r,j,o,q⟩
   obtain⟨a',a1,Ael',ea,p,M,_⟩:=r.lst_inv;cases ea;rw[j] at p;cases p;obtain⟨y,B,W,Y⟩:=M.getV hx
   have:=Y.imm (qt6 hm W)
   subst this;rw[qi8 W] at q;refine qH3 G S l Y (λ N σ' H' F' A' q' S' O=>?_) q;have D:=O.kp S.ok S.loc.cells;have Z:∀ b∈T,¬ (A.count b≠0):=λ b hb R=>by
     have:=o.sep b
     rw[zA0] at this
     have:=qa9.mp hb
     lia
   have r':=r.keep D Z;obtain⟨o',_⟩:=O.frame o r.cells S'.ok;have P:H' a=some (.l C):=by
     cases r with
     | l h _=>exact D.fr _ _ j (Z _ zAh)
     | lstZ h f _=>exact D.fr _ _ j λ w=>D.wf _ w f
   exact⟨F',N,A',S',l.step O,r',P,o',q'⟩
 rintro σ H ⟨F,k,A,S,l,r,j,o,q⟩;rw[rs.len,Lr] at q;exact l.nx _ _ _ _ _ q S Ow.refl
noncomputable def Dn(lo:Int)(n:Nat):List D:=(Ku n).map λ(i:Nat)=>.int (lo+(i:Int))
theorem qas7(h:i < n):(Dn lo n)[i]? = some (.int (lo+(i:Int))):=by
 unfold Dn;rw[zBe,List.getElem?_range h];rfl
theorem qaI0(lo:Int)(n:Nat):(Dn lo n).length=n:=by simp[Dn]
noncomputable def Gs(i:Int):Bool:=decide (-(2 ^ 62)<=i)&&decide (i < 2 ^ 62)
theorem qaB2{i:Int}(h:Gs i=true):-(2 ^ 62)<=i/\i < 2 ^ 62:=by
 have:=zAf.mp h
 exact⟨zAc this.1,zAc this.2⟩
theorem qaO6(d:VG c X tg g)(S:Ox c F H σ ds A)(l:Lk c E F H A en)(q:Bu g t en (Dn lo n) ds) :
   ∃ W:Nat->Nat->St->Hp->Prop,(∃ m,W 0 m σ H)/\∀ i m σ H,W i m σ H ->
     ((Itr lo n).stop i H/\E.nx σ H)∨((Itr lo n).go i H/\∃ N:St->Hp->Prop,(∀ σ' H',N σ' H'->∃ b,b < m/\W (i+1) b σ' H')/\∀ x H',(Itr lo n).yld i H x H'->E4 c g x σ H' λ σ2 H2=>Ei c t { E with nx:=N,ct:=N,bk:=E.nx } σ2 H2):=by
 refine qap0 (λ i σ H=>∃ F ds A,Ox c F H σ ds A/\Lk c E F H A en/\Bu g t en ((Dn lo n).drop i) ds) ⟨F,ds,A,S,l,q⟩ ?_ ?_
 . rintro i σ H e ⟨F,ds,A,S,l,q⟩
   rw[qi8 (qas7 e)] at q;exact qH3 d S l (.int _) (λ a σ' H' F' A' f S' h=>⟨F',a,A',S',l.step h,f⟩) q
 rintro σ H ⟨F,ds,A,S,l,q⟩;rw[zC8 (by rw[qaI0];exact zA3 _)] at q;exact l.nx _ _ _ _ _ q S Ow.refl
noncomputable def one1:Ds->Option Int
 | [.int j]=>some j
 | _=>none
theorem qaL4{xs:Ds}{j:Int}(h:one1 xs=some j):xs=[.int j]:=by
 unfold one1 at h;split at h
 . cases h;rfl
 cases h
def qam0(tr:VTA)(g:VTG)(t:VTS):VTS:=λ e ds=>tr ds (λ xs ds1=>orF (one1 xs) λ j=>Gs j=true/\Bu g t e (Dn 0 j.toNat) ds1) e.xe
theorem qO0(s:PassesOwn (Kb X.prog X.w) X.A X.env X.xe)(hm:X.mg "range" = none)(d:VOs c X [a] tr)(e:VG c X tg g)(k:VSs c X body t)(f:Gl X "range" := by rfl)(u:Jm [a] X.env=[(false,eval a X.env)]:=by rfl)(x:X.calm=true:=by rfl) :
   VS c X (.For tg (.Call (.Name "range" p) [a] [] cpos) body [] pos) (qam0 tr g t):=by
 refine⟨PS.mono (Hy s x (qam7 f hm d.h u) e.h k.h) λ E σ H i=>?_,λ n y o r=>d.m _ _ _ _ _ (λ B b=>qa4 λ j=>Ni (qk7 e k r _ b)) r.xe⟩;obtain⟨F,o,A,n,S,l,q⟩:=i;refine⟨F,o,A,n.xe,S,l.xe,d.m _ _ _ _ _ (λ B b q K H1 F1 T A1 C S1 D=>?_) (λ _ _ z=>z) q⟩;obtain⟨j,G,hm,I⟩:=qa7.mp q;cases qaL4 G;obtain⟨v,rfl,J⟩:=C.one_inv;cases J
 have:=qaB2 hm
 exact⟨j,rfl,this.1,this.2,qaO6 e S1 (l.step D) I⟩
def tFzV(te:VT):VT:=λ ds Q xe=>te ds (λ d ds1=>Q d.fz ds1) xe
theorem efzV(h:VE c X e te):VE c X e (tFzV te):=by
 refine⟨PE.mono h.h λ σ H Q a=>?_,λ i Q Q' j n o p=>h.m _ _ _ _ _ (λ d g=>o _ _) p⟩;obtain⟨F,i,A,j,S,x,q⟩:=a;refine⟨F,i,A,j,S,x,h.m _ _ _ _ _ (λ d g q v H1 F1 T A1 k S1 r s=>?_) (λ _ _ z=>z) q⟩;have t:=k.fz (F':=λ b=>F1 b∨b∈T) (λ b f=>.inl f) λ b u=>.inr u
 obtain⟨l,w⟩:=share (A:=T++A1) (B:=T) (C:=A1) r (λ b=>by rw[zA0]) k.cells (A':=A1) (λ b=>rfl);have L:=S1.loc.keep (Kp.more (H:=H1) λ b f=>Ol (b:=b∈T) f) λ _ _ z=>z
 exact q v H1 _ [] A1 t ⟨L,l,S1.len,S1.ag⟩ l (s.trans w)
end
def bk1(i:Nat)(p:List Nat)(w:V)(d0:D)(ds:Ds):Option Ds:=As [.pl i p w] [d0] ds
def Hd(i:Nat)(p:List Nat)(w:V)(d0:D)(e:VEnds):VEnds where
 nx ds:=orF (bk1 i p w d0 ds) e.nx
 rt d ds:=orF (bk1 i p w d0 ds) (e.rt d)
 bk ds:=orF (bk1 i p w d0 ds) e.bk
 ct ds:=orF (bk1 i p w d0 ds) e.ct
 xe x ds:=orF (bk1 i p w d0 ds) (e.xe x)
section
variable{c:Vc}{X:Cx}{a b e tg o:Kf}{body:List Kh}{g:VTG}{t:VTS}{pos:Pos}{pf:PF}{F F1:γ->Prop}{H H1:Hp}{σ:St}{ds ds1:Ds}{A A1 B:List γ}{E:De}{en:VEnds}
theorem qq9{a:Ds}(f:Ok F1 H1 (B++A1))(S1:Ox c F1 H1 σ ds1 A1)(r:Ou F1 H1 w d0 B)(S':Ox c F' H' σ' a A')(s':Ow F1 H1 A1 F' H' A')(h:bk1 i p w d0 a=some d) :
   ∃ A2,Ox c F' H' σ' d A2/\Ok F' H' (B++A')/\Ow F1 H1 (B++A1) F' H' (B++A')/\∀ b,A2.count b<=B.count b+A'.count b:=by
 obtain⟨g,j⟩:=s'.frame f r.cells S'.ok;have k:Ou F' H' w d0 B:=r.keep (s'.kp S1.ok S1.loc.cells) λ b l e=>by
   have:=f.sep b
   rw[zA0] at this
   have:=qa9.mp l
   lia
 obtain⟨A2,m,q2⟩:=qv2 (pls:=[.pl i p w]) (vs:=[w]) (more:=[]) (ys:=[d0]) (.so .nil) (.cons k .nil) S'.loc h;have e:∀ b,A2.count b<=B.count b+A'.count b:=λ b=>by have:=q2 b;simp only[zAd] at this;exact this
 exact⟨A2,⟨m,g.count λ b=>by rw[zA0];exact e b,S'.len,S'.ag⟩,g,j,e⟩
theorem Lk.lend{p:List Nat}{d0:D}(l:Lk c E F H A en)(k:Ow F H A F1 H1 (B++A1))(j:Ok F1 H1 (B++A1))(S1:Ox c F1 H1 σ ds1 A1)(r:Ou F1 H1 w d0 B):Lk c E F1 H1 A1 (Hd i p w d0 en) where
 nx ds' σ' H' F' A' q S' s':=by
   obtain⟨a,f,q⟩:=qa7.mp q;obtain⟨A2,S2,n,h,g⟩:=qq9 j S1 r S' s' f;exact l.nx _ _ _ _ A2 q S2 ((k.trans h).count λ b=>by rw[zA0];exact g b)
 bk ds' σ' H' F' A' q S' s':=by
   obtain⟨a,f,q⟩:=qa7.mp q;obtain⟨A2,S2,n,h,g⟩:=qq9 j S1 r S' s' f;exact l.bk _ _ _ _ A2 q S2 ((k.trans h).count λ b=>by rw[zA0];exact g b)
 ct ds' σ' H' F' A' q S' s':=by
   obtain⟨a,f,q⟩:=qa7.mp q;obtain⟨A2,S2,n,h,g⟩:=qq9 j S1 r S' s' f;exact l.ct _ _ _ _ A2 q S2 ((k.trans h).count λ b=>by rw[zA0];exact g b)
 xe x ds' σ' e H' F' A' q rx S' s':=by
   obtain⟨a,f,q⟩:=qa7.mp q;obtain⟨A2,S2,n,h,g⟩:=qq9 j S1 r S' s' f;exact l.xe x a σ' e H' F' A2 q rx S2 ((k.trans h).count λ b=>by rw[zA0];exact g b)
 rt d ds' v σ' H' F' T A' q rv S' oT s':=by
   obtain⟨a,f,q⟩:=qa7.mp q;have o:Ow F1 H1 A1 F' H' A':=s'.count λ b=>by rw[zA0];lia
   obtain⟨A2,S2,n,h,g⟩:=qq9 j S1 r S' o f;obtain⟨s,t⟩:=s'.frame j r.cells oT;have m:∀ b,(T++A2).count b<=(B++(T++A')).count b:=λ b=>by simp only[zA0];have:=g b;lia
   exact l.rt d a v σ' H' F' T A2 q rv S2 (s.count m) ((k.trans t).count m)
theorem qaN1{a:VEnds}(b:en.Le a):(Hd i p w d0 en).Le (Hd i p w d0 a) :=
 ⟨λ c=>qa4 b.nx,λ d c=>qa4 (b.rt d),λ c=>qa4 b.bk,λ c=>qa4 b.ct,λ x c=>qa4 (b.xe x)⟩
structure Held(F:γ->Prop)(H:Hp)(a:γ)(vs:List V)(z:Bool)(ys:Ds)(T A:List γ):Prop where
 r:Ou F H (.ref a) (.l z ys) T
 h:H a=some (.l vs)
 o:Ok F H (T++A)
theorem Held.step{a:γ}{e:Ds}(h:Held F H a vs z ys T A)(S:Ox c F H σ ds A)(S':Ox c F' H' σ' e A')(s':Ow F H A F' H' A'):Held F' H' a vs z ys T A':=by
 obtain⟨r,g,o⟩:=h;have d:=s'.kp S.ok S.loc.cells;have i:∀ b∈T,¬ (A.count b≠0):=λ b j k=>by
   have:=o.sep b
   rw[zA0] at this
   have:=qa9.mp j
   lia
 refine⟨r.keep d i,?_,(s'.frame o r.cells S'.ok).1⟩;cases r with
 | l h _=>exact d.fr _ _ g (i _ zAh)
 | lstZ h f _=>exact d.fr _ _ g λ w=>d.wf _ w f
theorem Held.get{a:γ}(h:Held F H a vs z ys T A)(hm:D.imms ys=true)(f:vs[i]? = some x):∃ y,ys[i]? = some y/\Ou F H x y []:=by
 obtain⟨k,g,Ael',j,b,c,_⟩:=h.r.lst_inv;cases j
 have:=h.h
 rw[b] at this;cases this;obtain⟨y,B,d,e⟩:=c.getV f
 have:=e.imm (qt6 hm d)
 subst this;exact⟨y,d,e⟩
theorem Held.len{a:γ}(h:Held F H a vs z ys T A):vs.length=ys.length:=by
 obtain⟨f,d,Ael',e,b,c,_⟩:=h.r.lst_inv;cases e
 have:=h.h
 rw[b] at this;cases this;exact c.len
theorem qR2{a:γ}(j:VG c X tg g)(S:Ox c F H σ ds A)(l:Lk c E F H A en)(b:Held F H a vs z ys T A)(hm:D.imms ys=true)(q:Bu g t en ys ds) :
   ∃ W:Nat->Nat->St->Hp->Prop,(∃ m,W 0 m σ H)/\∀ i m σ H,W i m σ H ->
     ((Itl K a).stop i H/\E.nx σ H)∨((Itl K a).go i H/\∃ N:St->Hp->Prop,(∀ σ' H',N σ' H'->∃ e,e < m/\W (i+1) e σ' H')/\∀ x H',(Itl K a).yld i H x H'->E4 c g x σ H' λ σ2 H2=>Ei c t { E with nx:=N,ct:=N,bk:=E.nx } σ2 H2):=by
 refine qai5 (xs:=vs) (λ i σ H=>∃ F ds A,Ox c F H σ ds A/\Lk c E F H A en/\Held F H a vs z ys T A/\Bu g t en (ys.drop i) ds) ⟨F,ds,A,S,l,b,q⟩ ?_ ?_ ?_
 . rintro i σ H _ ⟨F,ds,A,S,l,b,q⟩
   exact .inl (.inl b.h)
 . rintro i x σ H k ⟨F,ds,A,S,l,b,q⟩
   obtain⟨y,n,o⟩:=b.get hm k;rw[qi8 n] at q;exact qH3 j S l o (λ d σ' H' F' A' p S' f=>⟨F',d,A',S',l.step f,b.step S S' f,p⟩) q
 rintro σ H ⟨F,ds,A,S,l,b,q⟩;rw[b.len,Lr] at q;exact l.nx _ _ _ _ _ q S Ow.refl
def sForP(pf:PF)(g:VTG)(t:VTS):VTS:=λ e ds=>orF (pf ds) λ q=>orF (Bb ds q.1 q.2) λ d=>orF d.lstOf λ ys=>D.imms ys=true/\∀ w,Bu g t (Hd q.1 q.2 w d e) ys (Bj ds q.1 q.2 (.hole w))
theorem sforP(J:PassesOwn (Kb X.prog X.w) X.A X.env X.xe)(hi:VP c X o pf)(j:VG c X tg g)(y:VSs c X body t)(K:X.calm=true:=by rfl)(k:∀ v,Jp o X.env v=pure v:=by intro _;rfl):VS c X (.For tg o body [] pos) (sForP pf g t):=by
 refine⟨PS.mono (Hy J K (qu4 hi.h) j.h y.h k) λ E σ H m=>?_,λ L M n N=>qa4 λ q=>qa4 λ d=>qa4 λ O=>Ni λ h w=>qk7 j y (qaN1 N) _ _ (h w)⟩;obtain⟨F,n,A,L,S,l,q⟩:=m;obtain⟨⟨i,p⟩,P,q⟩:=qa7.mp q;obtain⟨d,e2,q⟩:=qa7.mp q;obtain⟨O,Q,R,q⟩:=qa7.mp q;obtain⟨z,rfl⟩:=qp4 Q;refine⟨F,n,A,i,p,_,S,P,e2,D.noConfusion,λ u w H1 T U s=>?_⟩;obtain⟨B,C,r,G,V⟩:=(S.same s).place e2 D.noConfusion T U;obtain⟨A1,W,q2⟩:=V (.hole w) [] (Kp.same (F:=F) λ _ _ z=>z) (λ _ _ z=>z) (.hole w);have x:Ok F H1 (B++A1):=(S.same s).ok.count λ b=>by rw[zA0,q2,G];simp
 have Y:Ow F H A F H1 (B++A1):=⟨λ b o e _=>s b o e,λ b o e z=>by rw[zA0,q2];have:=G b;simp;lia,λ _ f=>f,λ _ _ _ _ f=>f⟩
 have S1:Ox c F H1 σ (Bj n i p (.hole w)) A1:=⟨W,x.right,S.len,S.ag⟩
 obtain⟨a,Z,Ael,rfl,I,rs,_⟩:=r.lst_inv;exact⟨a,rfl,⟨Z,.inl (.inl I)⟩,qR2 j S1 (l.lend Y x S1 r) ⟨r,I,x⟩ R (q _)⟩
noncomputable def enD(ys:Ds):List D:=ys.zipIdx.map λ p=>.q [.int (p.2:Int),p.1]
theorem qaP6(h:ys[i]? = some y):(enD ys)[i]? = some (.q [.int (i:Int),y]):=by
 unfold enD;rw[zBe,List.getElem?_zipIdx,h];simp
theorem qaa1(ys:Ds):(enD ys).length=ys.length:=by simp[enD]
end
noncomputable def fin(W:Nat->Bool):Nat->Ds->Ds->Ds
 | k,d::r,d'::r'=>(if W k=true then d' else d)::fin W (k+1) r r'
 | _,_,_=>[]
noncomputable def Gu(W:Nat->Bool):Nat->Ds->Bool
 | _,[]=>true
 | k,d::r=>(W k||d.imm)&&Gu W (k+1) r
def qap8(W:Nat->Bool)(ds:Ds)(Q:DK)(xe:XKd):VEnds where
 nx ds':=Q .non (fin W 0 ds ds')
 rt d ds':=Q d (fin W 0 ds ds')
 bk _:=False
 ct _:=False
 xe x ds':=xe x (fin W 0 ds ds')
section
variable{F F':γ->Prop}{H H':Hp}
theorem qaX7(q:Kp F H Wr F' H'):∀{vs:List V}{ds:Ds}{A:List γ}{k:Nat}{w':List (Option V)}{a:Ds}{A':List γ},On F H vs ds A->Gu W k ds=true->Locs F' H' w' a A'->vs.length<=w'.length->(∀ i,i < vs.length->W (k+i)=true->w'[i]? = (vs.map some)[i]?) ->
   ∃ A2,On F' H' vs (fin W k ds a) A2/\∀ b,A2.count b<=A'.count b:=by
 intro vs
 induction vs with
 | nil =>
   intro ds A k w' a A' r g L n l;cases r;exact⟨[],by cases a<;>exact .nil,λ b=>by simp⟩
 | cons v vs s =>
   intro ds A k w' a A' r g L n l;cases r with
   | @cons _ d B _ ds B2 r1 t =>
     have g:=zAf.mp g;have step:∀{σ2:List (Option V)}{f:Ds}{A2:List γ}(o:Option V),w'=o::σ2->Locs F' H' σ2 f A2->∃ A3,On F' H' vs (fin W (k+1) ds f) A3/\∀ b,A3.count b<=A2.count b:=λ{σ2 f A2} o e L2=>by
       subst e;refine s t g.2 L2 (by simpa using n) λ i j c=>?_
       have:=l (i+1) (by simpa using j) (by rw[<- c];congr 1;lia)
       simpa using this
     cases L with
     | nil=>simp at n
     | no L2 =>
       obtain⟨A3,m,q2⟩:=step none rfl L2;by_cases c:W k=true
       . have:=l 0 (by simp) (by simpa using c)
         simp at this
       have j:d.imm=true:=by
         rcases Bool.or_eq_true_iff.mp g.1 with h | h
         . exact absurd h c
         exact h
       have:=r1.imm j
       subst this;refine⟨[]++A3,?_,λ b=>by simpa using q2 b⟩;show On F' H' (v::vs) ((if W k=true then _ else d)::_) _;rw[if_neg c];exact .cons (r1.keep q λ b p=>by cases p) m
     | @so v' d' B' σ2 f A2 rr L2 =>
       obtain⟨A3,m,q2⟩:=step (some v') rfl L2;by_cases c:W k=true
       . have:=l 0 (by simp) (by simpa using c)
         simp at this;subst this;refine⟨B'++A3,?_,λ b=>by simp only[zA0];have:=q2 b;lia⟩;show On F' H' (v'::vs) ((if W k=true then d' else d)::_) _;rw[if_pos c];exact .cons rr m
       have j:d.imm=true:=by
         rcases Bool.or_eq_true_iff.mp g.1 with h | h
         . exact absurd h c
         exact h
       have:=r1.imm j
       subst this;refine⟨[]++A3,?_,λ b=>by simp only[zB3,zA0];have:=q2 b;lia⟩;show On F' H' (v::vs) ((if W k=true then d' else d)::_) _;rw[if_neg c];exact .cons (r1.keep q λ b p=>by cases p) m
theorem On.locs(r:On F H vs ds A):Locs F H (vs.map some) ds A:=by
 induction vs generalizing ds A with
 | nil=>cases r;exact .nil
 | cons v vs a=>cases r with | cons h t=>exact .so h (a t)
theorem qF3:∀ n:Nat,Locs F H (Kv n none) (Kv n .u) []
 | 0=>.nil
 | n+1=>.no (qF3 n)
end
structure FunE(K:Nl)(x qual:Str)(st:Kh)(f:γ)(fd:δ):Prop where
 ex:∃(oc:V')(od:Option γ)(dV kV doc pm:V')(an:Option γ)(cdv ct:V')(osl:Array (Option V')),
   fd=W.fnOf x qual (qf5 st) (qd3 st) (qa3 st) dV kV doc pm an cdv ct/\K.lookup f=some ⟨oc,od,.func fd,osl⟩/\W.codeIn K cdv qual=true
theorem FunE.of(F:Fun K x qual st f fd):FunE K x qual st f fd :=
 by obtain⟨g,h,kV,a,i,j,b,k,c,e,l,d⟩:=F.ex;exact⟨⟨g,h,.none,kV,a,i,j,b,k,c,e,l,d⟩⟩
theorem FunE.okX{P:Kc}{w:Ke}(F:FunE K x qual st f fd)(S:qa8 N ps (qa3 st))(len:∀ vs H Q E,sp vs H Q E->vs.length=ps.length)(hbody:∀(a:V')(A:Kd)(outer:List Env)(s:Sh)(H:Hp)(vs:List V)(Q:VK)(E:XK),Oy cm k (A.deeper (PyProof.Rows.envOfC qual (qa3 st) s.heap.objs.size f a))->sp vs H Q E ->
     ∃ t,PSs (Dx cm (CX1 P w) P w K mg base N qual (qa3 st) f a A outer s H E) (qd3 st) t/\t { nx:=λ _ H'=>Q .non H',rt:=Q } (L2.start N vs) H):Dq cm P w K mg base (CX1 P w) (k+1) f fd ps sp:=by
 obtain⟨i,j,l,kV,d,m,n,a,o,e,rfl,g,b⟩:=F.ex;exact Ie g b S len λ A outer s H vs Q E h c=>hbody a A outer s H vs Q E h c
theorem VFn.mkE{P:Kc}{w:Ke}(Fu:FunE K x qual st f fd)(Sc:qa8 N ps (qa3 st))(W:Nat->Bool)(G:Bl s)(j:∀ ds Q xe,s ds Q xe->ds.length=ps.length)(n:∀ ds Q xe,s ds Q xe->Gu W 0 ds=true)(hbody:∀(g:V')(A:Kd)(outer:List Env)(B:Sh)(H:Hp)(E:XK)(av:List (Option V)),Oy cm k (A.deeper (PyProof.Rows.envOfC qual (qa3 st) B.heap.objs.size f g)) ->
     ∃ t,VSs ⟨λ _=>E,W,av,[]⟩ (Dx cm (CX1 P w) P w K mg base N qual (qa3 st) f g A outer B H E) (qd3 st) t/\∀ ds Q xe,s ds Q xe->t (qap8 W ds Q xe) (ds++Kv (N.length - ds.length) .u)) :
   Ea cm P w K mg base (k+1) f fd ps s:=by
 refine⟨Fu.okX Sc (λ l H Q E ⟨F,ds,A,r,o,h⟩=>by rw[r.len];exact j _ _ _ h) λ g Ar outer B H l Q E I C=>?_,G⟩;obtain⟨F,ds,A,r,o,h⟩:=C;obtain⟨t,J,L⟩:=hbody g Ar outer B H E (L2.start N l) I;have X:=j _ _ _ h;have M:=n _ _ _ h;have Y:ps.length<=N.length:=by have:=congrArg Kx Sc.pre;rw[zB0] at this;lia
 have L0:Locs F H (L2.start N l++[]) (ds++Kv (N.length - ds.length) .u) A:=by
   rw[zAd];unfold L2.start;rw[r.len]
   have:=r.locs.append (qF3 (F:=F) (H:=H) (N.length - ds.length))
   rwa[zAd] at this
 have S0:Ox ⟨λ _=>E,W,L2.start N l,[]⟩ F H (L2.start N l) (ds++Kv (N.length - ds.length) .u) A:=⟨L0,o,by simp,λ i _=>by simp⟩
 have m:∀{Z':St}{H':Hp}{F':γ->Prop}{a:Ds}{A' A2:List γ},Ox ⟨λ _=>E,W,L2.start N l,[]⟩ F' H' Z' a A'->Ow F H A F' H' A2->∃ A3,On F' H' l (fin W 0 ds a) A3/\∀ b,A3.count b<=A'.count b:=λ{Z' H' F' a A' A2} S' c=>by
   have hlen':=S'.len;simp only[zAd] at hlen';refine qaX7 (c.kp o r.cells) r M (by have:=S'.loc;simpa using this) ?_ λ i D O=>?_
   . rw[<- hlen'];unfold L2.start;simp
   have:=S'.ag i (by simpa using O)
   simp only[zAd] at this;rw[this];show (L2.start N l)[i]? = _;unfold L2.start;rw[zAp (by simpa using D)]
 refine⟨_,J.h,F,_,A,qap8 W ds _ _,S0,⟨?_,?_,λ _ _ _ _ _ z=>Oi z,λ _ _ _ _ _ z=>Oi z,?_⟩,L _ _ _ h⟩
 . intro a Z' H' F' A' q S' c
   obtain⟨A3,p,q2⟩:=m S' c;have u:∀ b,([]++A3).count b<=A'.count b:=λ b=>by simpa using q2 b
   exact q .non H' F' [] A3 .non p (S'.ok.count u) (c.count u)
 . intro d a v Z' H' F' T A' q R S' S c
   obtain⟨A3,p,q2⟩:=m S' c;have u:∀ b,(T++A3).count b<=(T++A').count b:=λ b=>by simp only[zA0];have:=q2 b;lia
   exact q v H' F' T A3 R p (S.count u) (c.count u)
 intro y a Z' e H' F' A' q U S' c;obtain⟨A3,p,q2⟩:=m S' c;exact q e H' F' A3 U p (S'.ok.count q2) (c.count q2)
theorem VFn.mk'{P:Kc}{w:Ke}(Fu:Fun K x qual st f fd)(Sc:qa8 N ps (qa3 st))(W:Nat->Bool)(e:Bl s)(a:∀ ds Q xe,s ds Q xe->ds.length=ps.length)(b:∀ ds Q xe,s ds Q xe->Gu W 0 ds=true)(hbody:∀(c:V')(A:Kd)(outer:List Env)(d:Sh)(H:Hp)(E:XK)(av:List (Option V)),Oy cm k (A.deeper (PyProof.Rows.envOfC qual (qa3 st) d.heap.objs.size f c)) ->
     ∃ t,VSs ⟨λ _=>E,W,av,[]⟩ (Dx cm (CX1 P w) P w K mg base N qual (qa3 st) f c A outer d H E) (qd3 st) t/\∀ ds Q xe,s ds Q xe->t (qap8 W ds Q xe) (ds++Kv (N.length - ds.length) .u)) :
   Ea cm P w K mg base (k+1) f fd ps s:=VFn.mkE (FunE.of Fu) Sc W e a b hbody
def Bp:List (Option Nat)->Ds->Ds×Ds
 | [],ds=>([],ds)
 | none::r,ds=>(.u::(Bp r ds).1,(Bp r ds).2)
 | some j::r,ds=>((ds[j]?).getD .u::(Bp r (ds.set j .u)).1,(Bp r (ds.set j .u)).2)
def E7:List (Option Nat)->Ds->Ds->Ds
 | none::r,_::i,o=>E7 r i o
 | some j::r,d::i,o=>E7 r i (o.set j d)
 | _,_,o=>o
def Ec(g:VTG)(qf:VTT)(te:VT)(K:Ds->Ds->Prop):List D->Ds->Ds->Prop
 | [],acc,a=>K acc a
 | x::xs,acc,a=>g x a λ ι1=>qf ι1 (λ b ι2=>if b=true then te ι2 (λ d ι3=>acc.length < big/\Ec g qf te K xs (acc++[d]) ι3) (λ _ _=>False) else Ec g qf te K xs acc ι2) (λ _ _=>False)
noncomputable def capW(src:List (Option Nat)):Nat->Bool:=λ i=>match src[i]? with | some (some _)=>true | _=>false
abbrev cIn(src:List (Option Nat))(av:List (Option V)):Vc:=⟨λ _ _ _ _=>False,capW src,av,[]⟩
structure VF(c:Vc)(X:Cx)(ifs:List Kf)(t:VTT):Prop where
 h:PFs X ifs (Dt c t)
 m:∀ ds (Q Q':Bool->Ds->Prop) (xe xe':XKd),(∀ d ds',Q d ds'->Q' d ds')->(∀ x ds',xe x ds'->xe' x ds')->t ds Q xe->t ds Q' xe'
def qYes:VTT:=λ ds Q _=>Q true ds
theorem Em:VF c X [] qYes:=⟨λ D8 s f H Q I ⟨F,a,A,b,S,x,q⟩=>qaJ8 D8 s f H Q I (q H F A S Ow.refl),λ a Q Q' b d e _=>e _ _⟩
theorem En(h:VTe c X e t):VF c X [e] t:=⟨qaT3 h.h,h.m⟩
section
variable{F F':γ->Prop}{H H':Hp}
theorem qab0:∀{src:List (Option Nat)}{J a:List (Option V)}{ds:Ds}{A:List γ},Locs F H (J++a) ds A->(∀ j,some j∈src->j < J.length) ->
   ∃ Ai Ao,Locs F H (Dl J src) (Bp src ds).1 Ai/\Locs F H (J++a) (Bp src ds).2 Ao/\∀ b,A.count b=Ai.count b+Ao.count b
 | [],J,a,ds,A,L,_=>⟨[],A,.nil,L,λ b=>by simp⟩
 | none::r,J,a,ds,A,L,h=>by
   obtain⟨Ai,Ao,f,q2,g⟩:=qab0 (src:=r) L λ j c=>h j (zA6 _ c)
   exact⟨Ai,Ao,.no f,q2,g⟩
 | some j::r,J,a,ds,A,L,h=>by
   have c:=h j zAh;have t:=L.len;rw[zAe] at t;obtain⟨z,e⟩:∃ d,ds[j]? = some d:=⟨_,zAz (by lia)⟩
   obtain⟨σ1,o,σ2,i,k,A1,B,A2,m,e2,u,w,x,n,p,q⟩:=L.split e;have s:(J++a)[j]? = some o:=by rw[m];exact qz4 u
   rw[zAp c] at s;have y:ds.set j .u=i++.u::k:=by
     have:=congrArg (λ l=>l.set j .u) e2
     rw[this,qn3 w]
   have L':Locs F H (J++a) (ds.set j .u) (A1++A2):=by
     rw[m,y];cases p with
     | no=>exact n.append (.no q)
     | @so v _ _ _=>exact n.append (.so (B:=[]) (.u v) q)
   obtain⟨Ai,Ao,f,q2,g⟩:=qab0 (src:=r) L' λ j c=>h j (zA6 _ c)
   refine⟨B++Ai,Ao,?_,q2,λ b=>by rw[x];have:=g b;simp only[zA0] at *;lia⟩;show Locs F H (((J[j]?).getD none)::Dl J r) ((ds[j]?).getD .u::_) _;rw[s,e];exact Locs.cons p f
theorem qK4:∀{src:List (Option Nat)}{J c J':List (Option V)}{K o:Ds}{Ai Ao:List γ},Locs F H J' K Ai->Locs F H (J++c) o Ao->(∀ j,some j∈src->j < J.length)->(∀(i j:Nat),src[i]? = some (some j)->J'[i]? = some ((J[j]?).getD none))->J'.length=src.length ->
   ∃ A',Locs F H (J++c) (E7 src K o) A'/\∀ b,A'.count b<=Ai.count b+Ao.count b
 | [],J,c,J',K,o,Ai,Ao,L,Lo,_,_,_=>⟨Ao,by cases K<;>exact Lo,λ b=>by lia⟩
 | none::r,J,c,J',K,o,Ai,Ao,L,Lo,h,k,f=>by
   cases L with
   | nil=>simp at f
   | no L2 =>
     obtain⟨A',g,q2⟩:=qK4 (src:=r) L2 Lo (λ j a=>h j (zA6 _ a)) (λ i j e=>by simpa using k (i+1) j (by simpa using e)) (by simpa using f);exact⟨A',g,q2⟩
   | so w L2 =>
     obtain⟨A',g,q2⟩:=qK4 (src:=r) L2 Lo (λ j a=>h j (zA6 _ a)) (λ i j e=>by simpa using k (i+1) j (by simpa using e)) (by simpa using f);exact⟨A',g,λ b=>by rw[zA0];have:=q2 b;lia⟩
 | some j::r,J,c,J',K,o,Ai,Ao,L,Lo,h,k,f=>by
   have a:=h j zAh;have m:=Lo.len;rw[zAe] at m;obtain⟨G,n⟩:∃ d,o[j]? = some d:=⟨_,zAz (by lia)⟩
   obtain⟨σ1,p,σ2,q,s,A1,B,A2,t,e2,D,E,x,y,I,z⟩:=Lo.split n;have A:(J++c)[j]? = some p:=by rw[t];exact qz4 D
   rw[zAp a] at A;have u:=k 0 j rfl;rw[A] at u;have C:∀ d,o.set j d=q++d::s:=λ d=>by
     have:=congrArg (λ l=>l.set j d) e2
     rw[this,qn3 E]
   cases L with
   | nil=>simp at f
   | no L2 =>
     have:p=none:=by simpa using u.symm
     subst this;have Lo':Locs F H (J++c) (o.set j .u) (A1++A2):=by rw[t,C];exact y.append (.no z)
     obtain⟨A',g,q2⟩:=qK4 (src:=r) L2 Lo' (λ j a=>h j (zA6 _ a)) (λ i j e=>by simpa using k (i+1) j (by simpa using e)) (by simpa using f);exact⟨A',g,λ b=>by rw[x];have:=q2 b;simp only[zA0] at *;lia⟩
   | @so v d Bv _ _ _ w L2 =>
     have:p=some v:=by simpa using u.symm
     subst this;have Lo':Locs F H (J++c) (o.set j d) (A1++(Bv++A2)):=by rw[t,C];exact y.append (.so w z)
     obtain⟨A',g,q2⟩:=qK4 (src:=r) L2 Lo' (λ j a=>h j (zA6 _ a)) (λ i j e=>by simpa using k (i+1) j (by simpa using e)) (by simpa using f);exact⟨A',g,λ b=>by rw[x];have:=q2 b;simp only[zA0] at *;lia⟩
theorem qaz0(J:St)(src:List (Option Nat)):(Dl J src).length=src.length:=by simp[Dl]
theorem qaz1(h:src[i]? = some (some j)):(Dl J src)[i]? = some ((J[j]?).getD none):=by
 unfold Dl;rw[zBe,h];rfl
structure I8(Pp:(γ->Prop)->Hp->Prop)(T:List γ):Prop where
 keep:∀{F F':γ->Prop}{H H':Hp}{W:γ->Prop},Kp F H W F' H'->(∀ b∈T,¬ W b)->Pp F H->Pp F' H'
 cells:∀{F:γ->Prop}{H:Hp},Pp F H->∀ b∈T,∃ o,H b=some o/\D9 o=true
end
section
variable{c:Vc}{F F':γ->Prop}{H H':Hp}{K:(γ->Prop)->Hp->Prop}{τ:List (Option V)}{o:Ds}{G:γ}{I:Ds}{T A A' J:List γ}{E:St}{ds:Ds}
noncomputable def Tot(B T Ao A:List γ):List γ:=B++(T++(Ao++A))
theorem qw2(st:I8 K T)(r:Ou F H (.ref G) (.l false I) B)(g:K F H)(L:Locs F H τ o Ao)(h:Ok F H (Tot B T Ao A))(S:Ox c F H E ds A)(s:Ow F H A F' H' A')(o':Ok F' H' A') :
   Ou F' H' (.ref G) (.l false I) B/\K F' H'/\Locs F' H' τ o Ao/\Ok F' H' (Tot B T Ao A')/\Ow F H (Tot B T Ao A) F' H' (Tot B T Ao A'):=by
 unfold Tot at *
 have f:=s.kp S.ok S.loc.cells;have i:∀ b,(B++(T++(Ao++A))).count b=((B++(T++Ao))++A).count b:=λ b=>by simp only[zA0];lia
 have d:∀ b,b∈B∨b∈T∨b∈Ao->¬ (A.count b≠0):=λ b a j=>by
   have:=h.sep b
   simp only[zA0] at this;rcases a with a | a | a<;>have:=qa9.mp a<;>lia
 have k:∀ b∈B++(T++Ao),∃ o,H b=some o/\D9 o=true:=λ b a=>by
   rcases zAa.mp a with a | a
   . exact r.cells b a
   rcases zAa.mp a with a | a
   . exact st.cells g b a
   exact L.cells b a
 obtain⟨l,m⟩:=s.frame (T:=B++(T++Ao)) (h.count λ b=>by rw[i];exact zA3 _) k o';have e:∀ b,(B++(T++(Ao++A'))).count b=((B++(T++Ao))++A').count b:=λ b=>by simp only[zA0];lia
 exact⟨r.keep f λ b a=>d b (.inl a),st.keep f (λ b a=>d b (.inr (.inl a))) g,L.keep f λ b a=>d b (.inr (.inr a)),l.count λ b=>by rw[e];exact zA3 _,(m.pre λ b=>by rw[i]).count λ b=>by rw[e];exact zA3 _⟩
theorem qaz9(st:I8 K T)(r:Ou F H (.ref G) (.l false I) B)(p:K F H)(L:Locs F H τ o Ao)(S:Ox c F H E ds A)(q:Ou F H v d J)(h:Ok F H (Tot B T Ao (J++A))) :
   ∃ vs B',H G=some (.l vs)/\vs.length=I.length/\Ou F (upd H G (.l (vs++[v]))) (.ref G) (.l false (I++[d])) B'/\K F (upd H G (.l (vs++[v])))/\Locs F (upd H G (.l (vs++[v]))) τ o Ao/\Ox c F (upd H G (.l (vs++[v]))) E ds A/\Ok F (upd H G (.l (vs++[v]))) (Tot B' T Ao A)/\Ow F H (Tot B T Ao (J++A)) F (upd H G (.l (vs++[v]))) (Tot B' T Ao A):=by
 unfold Tot at *
 obtain⟨a,vs,Ael,s,j,l,rfl⟩:=qC0 r;cases s;have t:=h.sep G;simp only[zA0,zAs,zBc,if_true] at t;have m:¬ F G:=λ f=>by have:=h.fro G f;simp only[zA0,zAs,zBc,if_true] at this;lia
 have k:=qM2 (F:=F) (o':=.l (vs++[v])) j rfl m;have i:∀ X:List γ,X.count G=0->∀ b∈X,¬ b=G:=λ X y b C w=>by subst w;exact(qa9.mp C) y
 have g:∀ b,(G::(Ael++(J++[]))++(T++(Ao++A))).count b<=(G::Ael++(T++(Ao++(J++A)))).count b:=λ b=>by simp only[zA0,zAs,Lg];lia
 have n:∀ b,F b->∃ o,upd H G (.l (vs++[v])) b=some o:=λ b f=>by
   obtain⟨x,e⟩:=h.ex b f;exact⟨x,by rw[qc9 (show b≠G from λ w=>m (w ▸ f))];exact e⟩
 refine⟨vs,G::(Ael++(J++[])),j,l.len,?_,st.keep k (i T (by lia)) p,L.keep k (i Ao (by lia)),⟨S.loc.keep k (i A (by lia)),⟨S.ok.sep,S.ok.fro,n⟩,S.len,S.ag⟩,⟨λ b=>zAk (g b) (h.sep b),λ b f=>by have:=h.fro b f;have:=g b;lia,n⟩,λ b u e z=>?_,λ b u e z=>by have:=g b;lia,λ _ f=>f,λ _ _ _ _ f=>f⟩
 . exact .l qc3 ((l.append (.cons q .nil)).keep k (i _ (by simp only[zA0,Lg];lia)))
 rw[qc9 λ w=>?_]
 . exact e
 subst w;simp only[zA0,zAs,zBc,if_true] at z;lia
end
def qq8(src:List (Option Nat))(g:VTG):TG:=λ v a H Q=>∃ av,E4 (cIn src av) g v a H Q
def qq7(src:List (Option Nat))(q:VTT):TT:=λ a H Q=>∃ av,Dt (cIn src av) q a H Q
def Bq(src:List (Option Nat))(t:VT):TE:=λ a H Q=>∃ av,Bi (cIn src av) t a H Q
structure Blk(X:Cx)(NY:List Str)(sc:Scope)(src:List (Option Nat))(tg:Kf)(ifs:List Kf)(elt:Kf)(g:VTG)(qf:VTT)(te:VT):Prop where
 g:∀ av C s0 H0 ex,VG (cIn src av) (qj8 X NY sc C s0 H0 ex) tg g
 f:∀ av C s0 H0 ex,VF (cIn src av) (qj8 X NY sc C s0 H0 ex) ifs qf
 e:∀ av C s0 H0 ex,VE (cIn src av) (qj8 X NY sc C s0 H0 ex) elt te
 lt:∀ D8 a H s,Ov X D8 a H s->∀ j,some j∈src->j < a.length
section
variable{c:Vc}{X:Cx}{NY:List Str}{sc:Scope}{src:List (Option Nat)}{tg elt e:Kf}{ifs:List Kf}{g:VTG}{qf:VTT}{te:VT}
theorem Blk.pg(b:Blk X NY sc src tg ifs elt g qf te):∀ C a H0 ex,PG (qj8 X NY sc C a H0 ex) tg (qq8 src g):=λ C a H0 ex D8 s Y H v u Q I r ⟨c,q⟩=>(b.g c C a H0 ex).h D8 s Y H v u Q I r q
theorem Blk.pf(b:Blk X NY sc src tg ifs elt g qf te):∀ C a H0 ex,PFs (qj8 X NY sc C a H0 ex) ifs (qq7 src qf):=λ C a H0 ex D8 s Y H Q I ⟨c,q⟩=>(b.f c C a H0 ex).h D8 s Y H Q I q
theorem Blk.pe(b:Blk X NY sc src tg ifs elt g qf te):∀ C a H0 ex,PE (qj8 X NY sc C a H0 ex) elt (Bq src te):=λ C a H0 ex D8 s Y H Q I ⟨c,q⟩=>(b.e c C a H0 ex).h D8 s Y H Q I q
theorem Blk.gm(b:Blk X NY sc src tg ifs elt g qf te):∀ d ds (Q Q':Ds->Prop),(∀ a,Q a->Q' a)->g d ds Q->g d ds Q':=(b.g [] 0 {} (λ _=>none) []).m
theorem Blk.fm(b:Blk X NY sc src tg ifs elt g qf te):∀ ds (Q Q':Bool->Ds->Prop) (xe c:XKd),(∀ d a,Q d a->Q' d a)->(∀ x a,xe x a->c x a)->qf ds Q xe->qf ds Q' c:=(b.f [] 0 {} (λ _=>none) []).m
theorem Blk.em(b:Blk X NY sc src tg ifs elt g qf te):∀ ds (Q Q':DK) (xe c:XKd),(∀ d a,Q d a->Q' d a)->(∀ x a,xe x a->c x a)->te ds Q xe->te ds Q' c:=(b.e [] 0 {} (λ _=>none) []).m
theorem qk9(b:Blk X NY sc src tg ifs elt g qf te){K K':Ds->Ds->Prop}(h:∀ acc Z,K acc Z->K' acc Z):∀(xs:List D) acc Z,Ec g qf te K xs acc Z->Ec g qf te K' xs acc Z
 | [],acc,Z=>h acc Z
 | x::xs,acc,Z=>b.gm _ _ _ _ λ ι1=>b.fm _ _ _ _ _ (λ k ι2=>qK1 (b.em _ _ _ _ _ (λ d ι3=>Ni (qk9 b h xs _ _)) λ _ _ z=>z) (qk9 b h xs _ _)) λ _ _ z=>z
variable{F F0:γ->Prop}{H H0:Hp}{Pp:(γ->Prop)->Hp->Prop}{τ:List (Option V)}{o0:Ds}{Dd:γ}{acc:Ds}{T A A0:List γ}{Y:St}{ds Z:Ds}{av:List (Option V)}{K:Ds->Ds->Prop}
def Mid(src:List (Option Nat))(av:List (Option V))(Pp:(γ->Prop)->Hp->Prop)(T:List γ)(τ:List (Option V))(o0:Ds)(Dd:γ)(F0:γ->Prop)(H0:Hp)(A0:List γ)(g:VTG)(qf:VTT)(te:VT)(K:Ds->Ds->Prop)(xs:List D)(Y:St)(H:Hp):Prop :=
 ∃ F Z A acc B Ao,Ox (cIn src av) F H Y Z A/\Ou F H (.ref Dd) (.l false acc) B/\Pp F H/\Locs F H τ o0 Ao/\Ok F H (Tot B T Ao A)/\Ow F0 H0 A0 F H (Tot B T Ao A)/\Ec g qf te K xs acc Z
theorem qG7(b:Blk X NY sc src tg ifs elt g qf te)(st:I8 Pp T)(S:Ox (cIn src av) F H Y Z A)(r:Ou F H (.ref Dd) (.l false acc) B)(t:Pp F H)(L:Locs F H τ o0 Ao)(u:Ok F H (Tot B T Ao A))(p:Ow F0 H0 A0 F H (Tot B T Ao A))(w:Ou F H x y [])(q:Ec g qf te K (y::xs) acc Z) :
   qq8 src g x Y H λ σ2 H2=>qq7 src qf σ2 H2 λ h H3=>if h=true then Bq src te σ2 H3 λ v H4=>∃ ys,H4 Dd=some (.l ys)/\ys.length < Jn/\Mid src av Pp T τ o0 Dd F0 H0 A0 g qf te K xs σ2 (upd H4 Dd (.l (ys++[v]))) else Mid src av Pp T τ o0 Dd F0 H0 A0 g qf te K xs σ2 H3:=by
 have a:∀(F:γ->Prop)(H:Hp)(A:List γ),Xc (cIn src av) (λ _ _=>False) F H A:=λ F H A x C Y' e H' F' A' z=>z.elim
 refine⟨av,F,Z,A,[],y,w,S,S.ok,b.gm _ _ _ _ (λ ι1 q σ1 H1 F1 A1 S1 E=>?_) q⟩;obtain⟨G,i,L1,j,t1⟩:=qw2 st r t L u S (show Ow F H A F1 H1 A1 from E) S1.ok;refine⟨av,F1,ι1,A1,_,S1,a _ _ _,b.fm _ _ _ _ _ (λ k ι2 q H2 F2 A2 S2 I=>?_) (λ _ _ z=>z) q⟩;obtain⟨s,c,L2,f,t2⟩:=qw2 st G i L1 j S1 I S2.ok;cases k with
 | false =>
   rw[if_neg (by decide)] at q ⊢;exact⟨F2,ι2,A2,acc,B,Ao,S2,s,c,L2,f,(p.trans t1).trans t2,q⟩
 | true =>
   rw[if_pos rfl] at q ⊢;refine⟨av,F2,ι2,A2,_,S2,a _ _ _,b.em _ _ _ _ _ (λ d ι3 q v H3 F3 Tv A3 J S3 M N=>?_) (λ _ _ z=>z) q⟩;obtain⟨O,l,L3,m,P⟩:=qw2 st s c L2 f S2 N M;obtain⟨Q,B',R,e2,U,n,L4,S4,o,W⟩:=qaz9 st O l L3 S3 J m;exact⟨Q,R,by rw[e2];exact zAg q.1 qj2,F3,ι3,A3,acc++[d],B',Ao,S4,U,n,L4,o,((p.trans t1).trans t2).trans (P.trans W),q.2⟩
theorem qG8(f:∀ j,some j∈src->j < Y.length)(S:Ox c F H Y ds A)(n:Ok F H (T++A))(l:Pp F H)(st:I8 Pp T)(h:H Dd=none)(q:Ec g qf te K xs [] (Bp src ds).1) :
   Mid src (Dl Y src) Pp T (Y++c.gv) (Bp src ds).2 Dd F H (T++A) g qf te K xs (Dl Y src) (upd H Dd (.l [])):=by
 obtain⟨Ai,Ao,o,q2,p⟩:=qab0 S.loc f;have a:=Same.new (u:=.l []) h;have r:=Kp.same (F:=F) a;have okN:Ok F (upd H Dd (.l [])) ([Dd]++(T++A)):=(qi1 h).ok n (λ b d=>by
   rcases zAa.mp d with d | d
   . exact st.cells l b d
   exact S.loc.cells b d) a
 have m:∀ b,(Tot [Dd] T Ao Ai).count b=([Dd]++(T++A)).count b:=λ b=>by unfold Tot;simp only[zA0,p];lia
 have e:Ok F (upd H Dd (.l [])) (Tot [Dd] T Ao Ai):=okN.count λ b=>by rw[m];exact zA3 _
 have k:Ok F (upd H Dd (.l [])) Ai:=e.count λ b=>by unfold Tot;simp only[zA0];lia
 refine⟨F,_,Ai,[],[Dd],Ao,⟨by rw[zAd];exact o.same a,k,by simp,λ i _=>by simp⟩,.l qc3 .nil,st.keep r (λ _ _=>id) l,q2.same a,e,((qi1 h).stp a).count λ b=>by rw[m];exact zA3 _,q⟩
theorem qG9(d:∀ j,some j∈src->j < Y.length)(S:Ox c Fz Hz Y ds Az)(m:Mid src (Dl Y src) Pp T (Y++c.gv) o0 Dd F0 H0 A0 g qf te (λ acc Z'=>∀ v H' F' B A',Ou F' H' v (.l false acc) B->Ox c F' H' Y (E7 src Z' o0) A'->Pp F' H'->Ok F' H' (B++(T++A'))->Ow F0 H0 A0 F' H' (B++(T++A'))->Q v H') [] Y' H'):Q (.ref Dd) H':=by
 obtain⟨F,Z,A,acc,B,Ao,S1,r,k,L,l,s,q⟩:=m;have a:=S1.len;simp only[zAd] at a;obtain⟨A',n,o⟩:=qK4 (src:=src) (by have:=S1.loc;simpa using this) L d (λ i j e=>by
   have:=S1.ag i (by show capW src i=true;unfold capW;rw[e])
   simp only[zAd] at this;rw[this];exact qaz1 e) (by rw[<- a,qaz0])
 have f:∀ b,(B++(T++A')).count b<=(Tot B T Ao A).count b:=λ b=>by unfold Tot;simp only[zA0];have:=o b;lia
 have h:=l.count f;exact q (.ref Dd) H' F B A' r ⟨n,h.right.right,S.len,S.ag⟩ k h (s.count f)
theorem ql4{a:γ}{ys:Ds}{T:List γ}:I8 (λ F H=>Ou F H (.ref a) (.l z ys) T/\H a=some (.l vs)) T where
 keep:=λ{F F' H H' W} k h p=>by
   refine⟨p.1.keep k h,?_⟩;cases p.1 with
   | l _ _=>exact k.fr _ _ p.2 (h _ zAh)
   | lstZ _ f _=>exact k.fr _ _ p.2 λ w=>k.wf _ w f
 cells:=λ p=>p.1.cells
theorem qaC9(r:Ou F H (.ref a) (.l z ys) T)(h:H a=some (.l vs))(hm:D.imms ys=true)(f:vs[i]? = some x):∃ y,ys[i]? = some y/\Ou F H x y []:=by
 obtain⟨k,g,Ael',j,b,c,_⟩:=r.lst_inv;cases j;rw[h] at b;cases b;obtain⟨y,B,d,e⟩:=c.getV f
 have:=e.imm (qt6 hm d)
 subst this;exact⟨y,d,e⟩
theorem qaB7(r:Ou F H (.ref a) (.l z ys) T)(h:H a=some (.l vs)):vs.length=ys.length:=by
 obtain⟨f,d,Ael',e,b,c,_⟩:=r.lst_inv;cases e;rw[h] at b;cases b;exact c.len
theorem qM4{Q:Hp->Prop}(b:Blk X NY sc src tg ifs elt g qf te)(hm:D.imms ys=true)(m:Mid src av (λ F H=>Ou F H (.ref a) (.l z ys) T/\H a=some (.l vs)) T τ o0 Dd F0 H0 A0 g qf te K ys Y' H)(f:∀ σ2 H2,Mid src av (λ F H=>Ou F H (.ref a) (.l z ys) T/\H a=some (.l vs)) T τ o0 Dd F0 H0 A0 g qf te K [] σ2 H2->Q H2):qA4 (Itl K' a) (qq8 src g) (qq7 src qf) (Bq src te) Dd Q Y' H:=by
 obtain⟨_,_,_,_,_,_,_,_,c,_⟩:=id m;have d:=qaB7 c.1 c.2;refine qW4 (xs:=vs) (λ i Y H=>Mid src av (λ F H=>Ou F H (.ref a) (.l z ys) T/\H a=some (.l vs)) T τ o0 Dd F0 H0 A0 g qf te K (ys.drop i) Y H) m ?_ ?_ ?_
 . rintro i Y H _ ⟨_,_,_,_,_,_,_,_,e,_⟩
   exact .inl (.inl e.2)
 . rintro i x Y H h ⟨F,Z,A,j,B,Ao,S1,r,e,L,k,s,q⟩
   obtain⟨y,l,n⟩:=qaC9 e.1 e.2 hm h;rw[qi8 l] at q;exact qG7 b ql4 S1 r e L k s n q
 intro Y H m;rw[d,Lr] at m;exact f _ _ m
theorem qak5{Q:Hp->Prop}(b:Blk X NY sc src tg ifs elt g qf te)(hm:D.imms ys=true)(m:Mid src av (λ F H=>Ou F H (.ref a) (.l z ys) T/\H a=some (.l vs)) T τ o0 Dd F0 H0 A0 g qf te K (enD ys) Y' H)(o:∀ σ2 H2,Mid src av (λ F H=>Ou F H (.ref a) (.l z ys) T/\H a=some (.l vs)) T τ o0 Dd F0 H0 A0 g qf te K [] σ2 H2->Q H2):qA4 (Ite K' a) (qq8 src g) (qq7 src qf) (Bq src te) Dd Q Y' H:=by
 obtain⟨_,_,_,_,_,_,_,_,c,_⟩:=id m;have d:=qaB7 c.1 c.2;refine qaq4 (xs:=vs) (λ i Y H=>Mid src av (λ F H=>Ou F H (.ref a) (.l z ys) T/\H a=some (.l vs)) T τ o0 Dd F0 H0 A0 g qf te K ((enD ys).drop i) Y H) m ?_ ?_ ?_
 . rintro i Y H _ ⟨_,_,_,_,_,_,_,_,e,_⟩
   exact .inl (.inl e.2)
 . rintro i x Y H n p ⟨F,Z,A,t,B,Ao,S1,r,e,L,v,s,q⟩ f
   obtain⟨y,w,C⟩:=qaC9 e.1 e.2 hm p;rw[qi8 (qaP6 w)] at q;have h:=Same.new (u:=.q [.int (i:Int),x]) f;have j:Ou F (upd H n (.q [.int (i:Int),x])) (.ref n) (.q [.int (i:Int),y]) []:=qJ6 f (.cons (A:=[]) (B:=[]) (.int _) (.cons (A:=[]) (B:=[]) C .nil));obtain⟨E,k,L1,l,t1⟩:=qw2 ql4 r e L v S1 (Ow.same h) (S1.ok.same h);exact qG7 b ql4 (S1.same h) E k L1 l (s.trans t1) j q
 intro Y H m;rw[zC8 (by rw[qaa1,d];exact zA3 _)] at m;exact o _ _ m
end
def Imp(c:Vc)(X:Cx)(t:VT)(tc:TE):Prop:=∀ D8 s a H Q,Ov X D8 a H s->Bi c t a H Q->tc a H Q
def Gf(t:VT):Prop:=∀ ds (Q Q':DK) (xe xe':XKd),(∀ d a,Q d a->Q' d a)->(∀ x a,xe x a->xe' x a)->t ds Q xe->t ds Q' xe'
section
variable{c:Vc}{X:Cx}{NY:List Str}{sc:Scope}{src:List (Option Nat)}{tg elt e o:Kf}{ifs:List Kf}{g:VTG}{qf:VTT}{te t0:VT}{pf:PF}
theorem I9(h:PE X e tc)(i:Imp c X t tc)(m:Gf t):VE c X e t:=⟨λ D8 s σ H Q I q=>h D8 s σ H Q I (i D8 s σ H Q I q),m⟩
theorem qaF6(h:PS X (.Assign [.Name x px] e spos) (Hj tc (Ew i)))(j:Imp c X t tc)(m:Gf t)(k:c.W i=false)(hi:X.N[i]? = some x):VS c X (.Assign [.Name x px] e spos) (Eb t (gNm i)):=by
 refine⟨λ D8 s σ H E I q=>h D8 s σ H E I (j D8 s σ H _ I ?_),λ b n f g=>m _ _ _ _ _ (λ d a=>g.nx _) g.xe⟩;obtain⟨F,f,A,b,S,l,q⟩:=q;refine⟨F,f,A,b.xe,S,l.xe,m _ _ _ _ _ (λ d a q v H' F' T A' r S' o p=>?_) (λ _ _ z=>z) q⟩;obtain⟨A2,S2,u⟩:=S'.store k (qp3 hi D8 σ H s I) r o;exact l.nx _ _ H' F' A2 q S2 (p.trans u)
def He(src:List (Option Nat))(g:VTG)(qf:VTT)(te:VT)(ys:List D):Ds->DK->Prop:=λ ds1 Q=>Ec g qf te (λ acc ι'=>Q (.l false acc) (E7 src ι' (Bp src ds1).2)) ys [] (Bp src ds1).1
theorem qH5(b:Blk X NY sc src tg ifs elt g qf te){Q:DK}(h:∀ d a,Q d a->Q' d a):He src g qf te ys ds1 Q->He src g qf te ys ds1 Q':=qk9 b (λ c ι=>h _ _) _ _ _
def tCL(src:List (Option Nat))(t0:VT)(g:VTG)(qf:VTT)(te:VT):VT:=λ ds Q xe=>t0 ds (λ d ds1=>orF d.lstOf λ ys=>D.imms ys=true/\He src g qf te ys ds1 Q) xe
theorem qab4(b:Blk X NY sc src tg ifs elt g qf te)(hi:VE c X e t0):Gf (tCL src t0 g qf te):=λ j Q Q' k a f h=>hi.m _ _ _ _ _ (λ d i=>qa4 λ l=>Ni (qH5 b f)) h
theorem qaO0(b:Blk X NY sc src tg ifs elt g qf te)(hi:VE c X e t0):Imp c X (tCL src t0 g qf te) (Dy (G0 K (Bi c t0)) src (qq8 src g) (qq7 src qf) (Bq src te)):=by
 rintro D8 s σ H Q I ⟨F,k,A,l,S,x,q⟩;have f:=b.lt D8 σ H s I;refine⟨F,k,A,l,S,x,hi.m _ _ _ _ _ (λ d n q v H1 F1 T A1 i S1 o p=>?_) (λ _ _ z=>z) q⟩;obtain⟨E,t,u,h⟩:=qa7.mp q;obtain⟨z,rfl⟩:=qp4 t;obtain⟨a,w,Ael,rfl,j,G,_⟩:=i.lst_inv;refine⟨a,rfl,⟨w,.inl (.inl j)⟩,λ Dd y=>qM4 b u (qG8 f S1 o ⟨i,j⟩ ql4 y (qk9 b (λ C ι q v H' F' B A' r S' _ D s=>q v H' F' B A' r S' (D.count λ b=>by simp only[zA0];lia) ((p.trans s).count λ b=>by simp only[zA0];lia)) _ _ _ h)) λ σ2 H2 m=>qG9 f S1 m⟩
def tCPx(en:Ds->List D)(src:List (Option Nat))(pf:PF)(g:VTG)(qf:VTT)(te:VT):VT:=λ ds Q xe=>orF (pf ds) λ q=>orF (Bb ds q.1 q.2) λ d=>orF d.lstOf λ ys=>D.imms ys=true/\∀ w,Ec g qf te (λ acc ι'=>orF (bk1 q.1 q.2 w d (E7 src ι' (Bp src (Bj ds q.1 q.2 (.hole w))).2)) λ a=>Q (.l false acc) a) (en ys) [] (Bp src (Bj ds q.1 q.2 (.hole w))).1
theorem qak8(b:Blk X NY sc src tg ifs elt g qf te):Gf (tCPx en src pf g qf te):=λ f Q Q' i a c j=>qa4 λ q=>qa4 λ d=>qa4 λ k=>Ni λ h w=>qk9 b (λ e ι=>qa4 λ z=>c _ _) _ _ _ (h w)
theorem qaQ1{J:γ->It}(b:Blk X NY sc src tg ifs elt g qf te)(M:∀{a:γ}{vs:List V}{z:Bool}{ys:Ds}{T:List γ}{τ:List (Option V)}{o0:Ds}{Dd:γ}{F0:γ->Prop}{H0 H:Hp}{A0:List γ}{K0:Ds->Ds->Prop}{av:List (Option V)}{Q:Hp->Prop}{σ':St},D.imms ys=true->Mid src av (λ F H=>Ou F H (.ref a) (.l z ys) T/\H a=some (.l vs)) T τ o0 Dd F0 H0 A0 g qf te K0 (en ys) σ' H ->
     (∀ σ2 H2,Mid src av (λ F H=>Ou F H (.ref a) (.l z ys) T/\H a=some (.l vs)) T τ o0 Dd F0 H0 A0 g qf te K0 [] σ2 H2->Q H2)->qA4 (J a) (qq8 src g) (qq7 src qf) (Bq src te) Dd Q σ' H)(j:∀ σ H R,F8 c pf σ H (λ x H1=>∃ a,x=.ref a/\(∃ xs,SqL K H1 a xs)/\R (J a) H1)->wi σ H R):Imp c X (tCPx en src pf g qf te) (Dy wi src (qq8 src g) (qq7 src qf) (Bq src te)):=by
 rintro D8 s σ H Q I ⟨F,t,A,xe,S,x,q⟩;have h:=b.lt D8 σ H s I;refine j σ H _ ?_;obtain⟨⟨i,p⟩,N,q⟩:=qa7.mp q;obtain⟨d,e2,q⟩:=qa7.mp q;obtain⟨ys,O,P,q⟩:=qa7.mp q;obtain⟨z,rfl⟩:=qp4 O;refine⟨F,t,A,i,p,_,S,N,e2,D.noConfusion,λ u w H1 U k l=>?_⟩;obtain⟨B,C,r,y,Y⟩:=(S.same l).place e2 D.noConfusion U k;obtain⟨A1,Z,q2⟩:=Y (.hole w) [] (Kp.same (F:=F) λ _ _ z=>z) (λ _ _ z=>z) (.hole w);have E:Ok F H1 (B++A1):=(S.same l).ok.count λ b=>by rw[zA0,q2,y];simp
 have s1:Ow F H A F H1 (B++A1):=⟨λ b o e _=>l b o e,λ b o e z=>by rw[zA0,q2];have:=y b;simp;lia,λ _ f=>f,λ _ _ _ _ f=>f⟩
 have S1:Ox c F H1 σ (Bj t i p (.hole w)) A1:=⟨Z,E.right,S.len,S.ag⟩
 obtain⟨a,vs,Ael,rfl,G,rs,_⟩:=r.lst_inv;refine⟨a,rfl,⟨vs,.inl (.inl G)⟩,λ Dd hD=>M P (qG8 h S1 E ⟨r,G⟩ ql4 hD (qk9 b (λ a0 ι q v H' F' B' A' rv S' hp L s=>?_) _ _ _ (q (.ref a)))) λ σ2 H2 m=>qG9 h S1 m⟩;obtain⟨a1,eb,q⟩:=qa7.mp q;obtain⟨A2,k1,k2⟩:=qv2 (pls:=[.pl i p (.ref a)]) (vs:=[.ref a]) (more:=[]) (ys:=[.l z ys]) (.so .nil) (.cons hp.1 .nil) S'.loc eb;have n:∀ b,(B'++A2).count b<=(B'++(B++A')).count b:=λ b=>by have:=k2 b;simp only[zAd,zA0] at *;lia
 exact q v H' F' B' A2 rv ⟨k1,(L.count n).right,S.len,S.ag⟩ (L.count n) ((s1.trans s).count n)
theorem qaX1(b:Blk X NY sc src tg ifs elt g qf te):Imp c X (tCPx (λ ys=>ys) src pf g qf te) (Dy (G0 K (F8 c pf)) src (qq8 src g) (qq7 src qf) (Bq src te)) :=
 qaQ1 (K:=K) (J:=Itl K) b (λ a m d=>qM4 b a m d) λ σ H R h=>h
noncomputable def capOk(X:Cx)(src:List (Option Nat)):Bool:=src.all λ o=>match o with | none=>true | some j=>decide (j < X.N.length)
theorem blk(b:∀ av C a H0 ex,VG (cIn src av) (qj8 X NY sc C a H0 ex) tg g)(c:∀ av C a H0 ex,VF (cIn src av) (qj8 X NY sc C a H0 ex) ifs qf)(d:∀ av C a H0 ex,VE (cIn src av) (qj8 X NY sc C a H0 ex) elt te)(e:capOk X src=true:=by rfl):Blk X NY sc src tg ifs elt g qf te :=
 ⟨b,c,d,λ D8 σ H s I j f=>by
   have:=zBi.mp e _ f
   rw[I.len];exact zAc this⟩
end
theorem qg6:Lands (qj8 X NY sc C a H0 ex) (cIn src av).E:=λ _ _ _ _ _ _ _ _ _ z=>z.elim
section
variable{c:Vc}{X:Cx}{NY:List Str}{q:Scope}{src:List (Option Nat)}{t o n:Kf}{p:List Kf}{g:VTG}{u:VTT}{te v:VT}{r w s:Pos}{pf:PF}{x:Str}
theorem ecL(hi:VE c X n v)(bl:Blk X NY q src t p o g u te)(a:X.calm=true:=by rfl)(b:qt8 X NY src q=true:=by rfl)(d:∀ x,Jp n X.env x=pure x:=by intro _;rfl):VE c X (.ListComp o [⟨t,n,p,0⟩] q r) (tCL src v g u te) :=
 I9 (qC7 NY src (qu4 hi.h) bl.pg bl.pf bl.pe a b d) (qaO0 bl hi) (qab4 bl hi)
theorem ecP(hi:VP c X n pf)(bl:Blk X NY q src t p o g u te)(a:X.calm=true:=by rfl)(b:qt8 X NY src q=true:=by rfl)(d:∀ x,Jp n X.env x=pure x:=by intro _;rfl):VE c X (.ListComp o [⟨t,n,p,0⟩] q r) (tCPx (λ ys=>ys) src pf g u te) :=
 I9 (qC7 NY src (qu4 hi.h) bl.pg bl.pf bl.pe a b d) (qaX1 bl) (qak8 bl)
theorem scL(i:Nat)(e:X.N.Nodup)(hi:VE c X n v)(bl:Blk X NY q src t p o g u te)(f:c.W i=false:=by rfl)(a:X.N[i]? = some x:=by rfl)(j:Loc X.env.scope x:=by first | exact Ol rfl | exact Oj rfl)(k:X.calm=true:=by rfl)(l:qt8 X NY src q=true:=by rfl)(b:swapsWith (.ListComp o [⟨t,n,p,0⟩] q r) (some (.Name x w)) s.line X.env=pure true:=by rfl)(m:∀ x,Jp n X.env x=pure x:=by intro _;rfl)(d:X.fn x=true∨X.env.scope.names.lookup x=some .local:=by first | exact .inl rfl | exact .inr rfl | assumption):VS c X (.Assign [.Name x w] (.ListComp o [⟨t,n,p,0⟩] q r) s) (Eb (tCL src v g u te) (gNm i)) :=
 qaF6 (qat2 i NY src e (qu4 hi.h) bl.pg bl.pf bl.pe a j k l b m d) (qaO0 bl hi) (qab4 bl hi) f a
end
section
variable{c:Vc}{X:Cx}{t:List Kf}{p:VTB}
def Ja(p:VTB):VTA:=λ ds Q xe=>p ds (λ xs _ ds1=>Q xs ds1) xe
theorem Ev(h:VAs c X t p):VOs c X t (Ja p):=⟨PA.mono h.h λ n H Q ⟨F,d,A,e,S,x,q⟩=>⟨F,d,A,e,S,x,h.m _ _ _ _ _ (λ f g a q i H' F' T A' r _ S' o s=>q i H' F' T A' r S' (s.count λ b=>by rw[zA0];lia)) (λ _ _ z=>z) q⟩,λ d Q Q' e j k l=>h.m _ _ _ _ _ (λ f g a=>k _ _) l⟩
end
structure Bg(x y z:Int)(ns:List Int):Prop where
 x0:0<=x
 y0:0<=y
 y1:y < 2147483647
 z0:0<=z
 nn:∀ n∈ns,0<=n
noncomputable def bagD(x y z:Int)(ns:List Int):D:=.l false [.int x,.int y,.int z,.l false (ns.map .int)]
def lawE:VEnds where
 nx _:=False
 rt d _:=d.asB=some true
 bk _:=False
 ct _:=False
 xe _ _:=False
theorem qao2{c:Vc}{X:Cx}{rest:List Kh}{t:VTS}{H:Hp}{E:De}{p L:γ}{x y z:Int}{ns:List Int}(e:c.av.length=2+n)(k:∀ i,c.W i=false)(a:c.gv=[])(l:H p=some (.l [.int x,.int y,.int z,.ref L]))(m:H L=some (.l (ns.map V.int)))(o:L≠p)(s:∀ H',E.rt (.bl true) H')(u:t lawE (.hole w::bagD x y z ns::Kv n .u)):Ei c t E (some w::some (.ref p)::Kv n none) H:=by
 have L0:Locs (λ _=>False) H (some w::some (.ref p)::Kv n none) (.hole w::bagD x y z ns::Kv n .u) ([]++((p::([]++([]++([]++((L::[])++[])))))++[])) :=
   .so (.hole w) (.so (.l l (.cons (.int x) (.cons (.int y) (.cons (.int z) (.cons (.l m (qE7 ns)) .nil))))) (qF3 n))
 refine⟨λ _=>False,_,_,lawE,⟨by rw[a,zAd];exact L0,⟨λ b=>?_,λ b f=>f.elim,λ b f=>f.elim⟩,by rw[a,e];simp;lia,λ i h=>by rw[k i] at h;cases h⟩,⟨λ _ _ _ _ _ z=>Oi z,λ d A v B' H' F' T A' q r _ _ _=>by rw[r.asB q];exact s H',λ _ _ _ _ _ z=>Oi z,λ _ _ _ _ _ z=>Oi z,λ _ _ _ _ _ _ _ z=>Oi z⟩,u⟩;simp only[zB3,zAd,zAs,Lg];by_cases g:p=b
 . subst g;simp[o]
 by_cases j:L=b
 . subst j;simp[g]
 simp[g,j]
section
variable{c:Vc}{b d e o:Kf}{oa ob Z:Bool}{fa fb Y:FV}
def f3(g g':D->D->Option D)(fa fb Y:FV):FV:=λ ds=>(fa ds).bind λ x=>(fb ds).bind λ y=>(g x y).bind λ z=>z.asB.bind λ k=>if k=true then (Y ds).bind λ u=>g' y u else some (.bl false)
theorem qaE7(h:A9 true r g)(h':A9 true l g'):∀ X H Q,liftV c true (f3 g g' fa fb Y) X H Q->qaG4 r l (liftV c oa fa) (liftV c ob fb) (liftV c Z Y) X H Q:=by
 rintro X H Q ⟨F,f,A,d,S,e,q⟩;obtain⟨x,C,e⟩:=zA1.mp e;obtain⟨y,e2,e⟩:=zA1.mp e;obtain⟨z,E,e⟩:=zA1.mp e;obtain⟨k,G,e⟩:=zA1.mp e;refine⟨F,f,A,x,S,C,λ v H1 B1 I m T=>⟨F,f,A,y,S.same m,e2,λ w H2 B2 n p U=>?_⟩⟩;have i:=m.trans p;refine h F H2 v w x y _ z _ (Fp (I.same p) n) E λ u H3 B3 J s V=>⟨k,J.asB G,?_⟩
 have a:=i.trans s;cases k with
 | false=>rw[if_neg (by decide)] at e ⊢;cases e;exact q _ H3 [] (.bl _) a λ _=>New.nil
 | true =>
   rw[if_pos rfl] at e ⊢;obtain⟨t,K,L⟩:=zA1.mp e;refine⟨F,f,A,t,S.same a,K,λ M H4 B4 N j W=>?_⟩;refine h' F H4 w M y t _ d Q (Fp ((n.same s).same j) N) L λ O H5 B5 P R B=>q O H5 B5 P ((a.trans j).trans R) λ _=>⟨B.one,λ b o e=>B.new b o (j b o (a b o e))⟩
end
section
variable{c:Vc}{X:Cx}{a b d e:Kf}{N:Pos}{R U T:Bool}{fa fb O:FV}
theorem vch{e:CmpOp}{i:R2}(j:OpR X (Jo op) r)(h:A9 true r g)(f:OpR X (Jo e) i)(h':A9 true i g')(k:VV c X a R fa)(l:VV c X b U fb)(m:VV c X d T O)(hm:lastMarks [op,e] [b,d]=false:=by with_unfolding_all rfl) :
   VV c X (.Compare a [op,e] [b,d] N) true (f3 g g' fa fb O):=⟨PE.mono (qaz6 j f k.h l.h m.h hm) (qaE7 h h')⟩
def Hf(x:D):Option D:=match x with
 | .l _ ys=>(intsD ys).bind λ ns=>gd (ns.length<=1000) (.int (qm2 ns))
 | _=>none
theorem vlenS(g:X.mg "len" = none)(i:X.mg "set" = none)(o:VV c X a R fa)(j:Gl X "len" := by rfl)(k:Gl X "set" := by rfl)(r:X.calm=true:=by rfl)(n:Jm [a] X.env=(false,eval a X.env)::Jm [] X.env:=by rfl)(l:((backTo cpos (Jm [] X.env)).any λ x=>x.1)=false:=by rfl)(b:Jm [.Call (.Name "set" p2) [a] [] cpos] X.env=(false,eval (.Call (.Name "set" p2) [a] [] cpos) X.env)::Jm [] X.env:=by rfl)(f:((backTo N (Jm [] X.env)).any λ x=>x.1)=false:=by rfl) :
   VV c X (.Call (.Name "len" p) [.Call (.Name "set" p2) [a] [] cpos] [] N) true (f1 Hf fa):=by
 refine⟨PE.mono (cbi qaq9 g (qh0 (cty (qaq7 r) i (qh0 o.h qy3 n) k (by rfl) (by decide) (by decide) n l) qy3 b) j (by rfl) (by decide) (by decide) b f) λ M H Q m=>?_⟩;obtain⟨F,s,A,d,S,e,q⟩:=m;obtain⟨x,t,e2⟩:=qaD5.mp e;cases x with
 | l z J =>
   obtain⟨u,w,y⟩:=zA1.mp e2;obtain⟨B,rfl⟩:=qt7 y;refine⟨F,s,A,_,S,t,λ v H1 B1 C D K=>?_⟩;obtain⟨a,L,A2,rfl,E,G,_⟩:=C.lst_inv;cases G.intsD w;refine⟨a,u,rfl,.inl (.inl E),B,λ p St I=>⟨p,St,_,rfl,qc3,?_⟩⟩;exact q _ _ [] (.int _) (D.trans (Same.new I)) λ _=>New.nil
 | _=>cases e2
def By(f:Ds->Option D):VSp:=λ ds Q _=>orF (f ds) λ d=>Q d ds
theorem qw4:Bl (By f):=λ a Q Q' e b c _=>qa4 λ d=>c d a
noncomputable def wOf(l:List Bool)(i:Nat):Bool:=l.getD i false
end
section
variable{c:Vc}{X:Cx}{NY:List Str}{sc:Scope}{src:List (Option Nat)}{tg elt e o a b:Kf}{ifs:List Kf}{g:VTG}{qf:VTT}{te:VT}{pos px spos p0:Pos}{x xn:Str}
def Gv(en:Ds->List D)(src:List (Option Nat))(i:Nat)(g:VTG)(qf:VTT)(te:VT):VT:=λ ds Q xe=>orF (rdN i ds) λ d=>orF d.lstOf λ ys=>D.imms ys=true/\Ec g qf te (λ acc ι'=>Q (.l false acc) ((E7 src ι' (Bp src (ds.set i .u)).2).set i d)) (en ys) [] (Bp src (ds.set i .u)).1
theorem qD7(bl:Blk X NY sc src tg ifs elt g qf te):Gf (Gv en src i g qf te):=λ e Q Q' f a b h=>qa4 λ d=>qa4 λ j=>Ni (qk9 bl (λ c ι=>b _ _) _ _ _)
theorem qav8{J:γ->It}(bl:Blk X NY sc src tg ifs elt g qf te)(E:X.N[i]? = some xn)(G:∀{a:γ}{vs:List V}{z:Bool}{ys:Ds}{T:List γ}{τ:List (Option V)}{o0:Ds}{Dd:γ}{F0:γ->Prop}{H0 H:Hp}{A0:List γ}{K0:Ds->Ds->Prop}{av:List (Option V)}{Q:Hp->Prop}{σ':St},D.imms ys=true->Mid src av (λ F H=>Ou F H (.ref a) (.l z ys) T/\H a=some (.l vs)) T τ o0 Dd F0 H0 A0 g qf te K0 (en ys) σ' H ->
     (∀ σ2 H2,Mid src av (λ F H=>Ou F H (.ref a) (.l z ys) T/\H a=some (.l vs)) T τ o0 Dd F0 H0 A0 g qf te K0 [] σ2 H2->Q H2)->qA4 (J a) (qq8 src g) (qq7 src qf) (Bq src te) Dd Q σ' H)(j:∀ σ H R,Fm i σ H (λ x H1=>∃ a,x=.ref a/\(∃ xs,SqL K H1 a xs)/\R (J a) H1)->wi σ H R):Imp c X (Gv en src i g qf te) (Dy wi src (qq8 src g) (qq7 src qf) (Bq src te)):=by
 rintro D8 s σ H Q I ⟨F,L,A,xe,S,x,q⟩;have h:=bl.lt D8 σ H s I;have M:=qp3 E D8 σ H s I;refine j σ H _ ?_;obtain⟨d,k,q⟩:=qa7.mp q;obtain⟨k,hk⟩:=ql7.mp k;obtain⟨ys,O,P,q⟩:=qa7.mp q;obtain⟨z,rfl⟩:=qp4 O;obtain⟨v,B,C,l,r,t,U⟩:=S.put1 k D.noConfusion;have n:=l;rw[zAp M] at l;obtain⟨A1,Y,q2⟩:=U .u [] (Kp.same (F:=F) λ _ _ z=>z) (λ _ _ z=>z) (.u v);have u:Ok F H (B++A1):=S.ok.count λ b=>by rw[zA0,q2,t];simp
 have Z:Ow F H A F H (B++A1):=⟨λ b o e _=>e,λ b o e z=>by rw[zA0,q2];have:=t b;simp;lia,λ _ f=>f,λ _ _ _ _ f=>f⟩
 have S1:Ox c F H σ (L.set i .u) A1:=⟨Y,u.right,S.len,S.ag⟩
 obtain⟨a,vs,Ael,rfl,w,rs,_⟩:=r.lst_inv;refine⟨.ref a,l,a,rfl,⟨vs,.inl (.inl w)⟩,λ Dd hD=>G P (qG8 h S1 u ⟨r,w⟩ ql4 hD (qk9 bl (λ a0 ι q v H' F' B' A' rv S' hp y s=>?_) _ _ _ q)) λ σ2 H2 m=>qG9 h S1 m⟩;obtain⟨A2,k1,k2⟩:=qE0 S'.loc n hp.1;have p:∀ b,(B'++A2).count b<=(B'++(B++A')).count b:=λ b=>by have:=k2 b;simp only[zA0] at *;lia
 exact q v H' F' B' A2 rv ⟨k1,(y.count p).right,S.len,S.ag⟩ (y.count p) ((Z.trans s).count p)
theorem qaN9(bl:Blk X NY sc src tg ifs elt g qf te)(a:X.N[i]? = some xn):Imp c X (Gv (λ ys=>ys) src i g qf te) (Dy (G0 K (Fm i)) src (qq8 src g) (qq7 src qf) (Bq src te)) :=
 qav8 (K:=K) (J:=Itl K) bl a (λ b m d=>qM4 bl b m d) λ σ H R h=>h
theorem qaO1(bl:Blk X NY sc src tg ifs elt g qf te)(b:X.N[i]? = some xn):Imp c X (Gv enD src i g qf te) (Dy (iEnum K (Ib (Fm i) tNil)) src (qq8 src g) (qq7 src qf) (Bq src te)) :=
 qav8 (K:=K) (J:=Ite K) bl b (λ d m f=>qak5 bl d m f) λ σ H R ⟨v,h,a,e,j,k⟩=>⟨v,h,a,by rw[e],j,k⟩
theorem ecN(i:Nat)(bl:Blk X NY sc src tg ifs elt g qf te)(b:X.N[i]? = some xn:=by rfl)(d:Vis X.env.scope xn:=by first | exact Ol rfl | exact Oj (Ol rfl) | exact Oj (Oj rfl))(e:N' xn:=by decide)(a:(xn == ("__classdict__" : Str))=false:=by decide)(f:X.calm=true:=by rfl)(h:qt8 X NY src sc=true:=by rfl)(j:∀ x,Jp (.Name xn p0) X.env x=pure x:=by intro _;rfl):VE c X (.ListComp elt [⟨tg,.Name xn p0,ifs,0⟩] sc pos) (Gv (λ ys=>ys) src i g qf te) :=
 I9 (qC7 NY src (qu4 (qo7 b d e a)) bl.pg bl.pf bl.pe f h j) (qaN9 bl b) (qD7 bl)
theorem ecEN(i:Nat){e:Nat}(hm:X.mg "enumerate" = none)(bl:Blk X NY sc src (.Tuple elts e tpos) ifs elt g qf te)(f:X.N[i]? = some xn:=by rfl)(h:Vis X.env.scope xn:=by first | exact Ol rfl | exact Oj (Ol rfl) | exact Oj (Oj rfl))(j:N' xn:=by decide)(b:(xn == ("__classdict__" : Str))=false:=by decide)(d:Gl X "enumerate" := by rfl)(a:Jm [.Name xn p0] X.env=[(false,eval (.Name xn p0) X.env)]:=by rfl)(k:X.calm=true:=by rfl)(l:qt8 X NY src sc=true:=by rfl)(m:∀ x,Jp (.Call (.Name "enumerate" p) [.Name xn p0] [] cpos) X.env x=pure x:=by intro _;rfl):VE c X (.ListComp elt [⟨.Tuple elts e tpos,.Call (.Name "enumerate" p) [.Name xn p0] [] cpos,ifs,0⟩] sc pos) (Gv enD src i g qf te) :=
 I9 (qC7 NY src (qaJ6 d hm (qh0 (qo7 f h j b) qy3 a) a) bl.pg bl.pf bl.pe k l m) (qaO1 bl f) (qD7 bl)
theorem scN(i j:Nat)(b:X.N.Nodup)(bl:Blk X NY sc src tg ifs elt g qf te)(k:c.W i=false:=by rfl)(h:X.N[j]? = some xn:=by rfl)(l:Vis X.env.scope xn:=by first | exact Ol rfl | exact Oj (Ol rfl) | exact Oj (Oj rfl))(m:N' xn:=by decide)(d:(xn == ("__classdict__" : Str))=false:=by decide)(a:X.N[i]? = some x:=by rfl)(n:Loc X.env.scope x:=by first | exact Ol rfl | exact Oj rfl)(o:X.calm=true:=by rfl)(p:qt8 X NY src sc=true:=by rfl)(e:swapsWith (.ListComp elt [⟨tg,.Name xn p0,ifs,0⟩] sc pos) (some (.Name x px)) spos.line X.env=pure true:=by rfl)(q:∀ x,Jp (.Name xn p0) X.env x=pure x:=by intro _;rfl)(f:X.fn x=true∨X.env.scope.names.lookup x=some .local:=by first | exact .inl rfl | exact .inr rfl | assumption):VS c X (.Assign [.Name x px] (.ListComp elt [⟨tg,.Name xn p0,ifs,0⟩] sc pos) spos) (Eb (Gv (λ ys=>ys) src j g qf te) (gNm i)) :=
 qaF6 (qat2 i NY src b (qu4 (qo7 h l m d)) bl.pg bl.pf bl.pe a n o p e q f) (qaN9 bl h) (qD7 bl) k a
theorem qav9(h:ds[i]? = some (.hole w)):bk1 i [] w d0 ds=some (ds.set i d0):=by
 unfold bk1 As;rw[qG1 h];simp only[if_true];unfold As;rw[qE1 h]
theorem qj9{g:VTG}{qf:VTT}{te:VT}{K:Ds->Ds->Prop}(I:Ds->Prop)(f:D->Option D):∀(xs:List D)(acc ι:Ds),acc.length+xs.length < big->I ι->(∀ x∈xs,∀ ι acc,I ι->∀ R:Ds->Ds->Prop,(∀ ι',I ι'->R (acc++(f x).toList) ι')->acc.length < big->g x ι λ ι1=>qf ι1 (λ b ι2=>if b=true then te ι2 (λ d ι3=>acc.length < big/\R (acc++[d]) ι3) (λ _ _=>False) else R acc ι2) (λ _ _=>False))->(∀ ι',I ι'->K (acc++xs.filterMap f) ι')->Ec g qf te K xs acc ι
 | [],acc,ι,_,h,_,hK=>by
   have:=hK ι h
   rw[List.filterMap_nil,zAd] at this;exact this
 | x::xs,acc,ι,hl,h,hs,hK=>by
   refine hs x zAh ι acc h (λ a i=>Ec g qf te K xs a i) (λ ι' hι=>?_) (by simp at hl;lia);refine qj9 I f xs _ ι' ?_ hι (λ y e=>hs y (zA6 _ e)) λ ι2 j=>?_
   . cases c:f x with
     | none=>simp at hl ⊢;lia
     | some y=>simp at hl ⊢;lia
   have:=hK ι2 j
   rw[zBt] at this;cases c:f x with
   | none=>rw[c] at this;simpa using this
   | some y=>rw[c] at this;simpa using this
end
structure MdN(K:Nl)(C:γ)(m qual:Str)(st:Kh)(f:γ)(fd:δ)(ps:List Str):Prop where
 F:FunE K m qual st f fd
 b:Binds K fd ps []
 bn:Binds K fd ps [.none]
 me:Ia K C m f
 isf:W.isFn K (.ref f)=true
section
variable{X:Cx}{c:Vc}
theorem qaE0(i:Cl X.K X.mg x C)(M:Mk X.K C f)(D:MdN X.K C m qual st f fd ps)(G:Ea cm X.prog X.w X.K X.mg X.base k f fd ps s)(j:Lands X c.E)(l:Oy cm (k+1) X.A)(a:VAs c X (e::es) tr)(n:Gl X x:=by rfl)(d:N' x:=by decide)(o:Jm (e::es) X.env=(false,eval e X.env)::Jm es X.env:=by rfl)(g:(backTo pos (Jm es X.env)).any (·.1)=false:=by rfl):VE c X (.Call (.Name x p) (e::es) [] pos) (qM9 C s [] tr) :=
 ⟨PE.mono (qad7 M G.ok l n i.m D.b .nil j.passes a.h d o g) (qaf7 qm3 G.m a),qF2 G.m a⟩
end
theorem mdmkN{v:Option γ}{kV j:V'}(l:K.lookup f=some ⟨oc,v,.func (W.fnOf m qual (qf5 st) (qd3 st) (qa3 st) (.ref T) kV e h g d j),p⟩)(c:W.codeIn K d qual=true)(k:W.keepIn K (.ref f)=true)(a:W.findIn K (.ref C) m=some (some (.ref f)))(i:W.isFn K (.ref f)=true)(t:K.lookup T=some ⟨to,td,.seq #[.none] n,q⟩)(b:∀(kV e h:V')(g:Option γ)(d j:V')(us:List V'),us.length=ps.length->∃ k,bindArgs (W.fnOf m qual (qf5 st) (qd3 st) (qa3 st) (.ref T) kV e h g d j) ⟨us,[]⟩=seqItems? (.ref T) >>= k/\k (some #[.none])=pure (ps.zip us))(w:∀(kV e h:V')(g:Option γ)(d j:V')(us:List V'),us.length+1=ps.length->∃ k,bindArgs (W.fnOf m qual (qf5 st) (qd3 st) (qa3 st) (.ref T) kV e h g d j) ⟨us,[]⟩=seqItems? (.ref T) >>= k/\k (some #[.none])=pure (ps.zip (us++[.none]))) :
   MdN K C m qual st f (W.fnOf m qual (qf5 st) (qd3 st) (qa3 st) (.ref T) kV e h g d j) ps :=
 ⟨⟨⟨_,_,_,_,_,_,_,_,_,_,rfl,l,c⟩⟩,λ s us X o=>(by
   rw[zAd] at o ⊢;obtain⟨k,r,u⟩:=b kV e h g d j us o;exact W.binds_K X rfl t rfl r u),λ s us X o=>(by
   obtain⟨k,r,u⟩:=w kV e h g d j us (by rw[zAe] at o;exact o);exact W.binds_K X rfl t rfl r u),⟨a,i,k⟩,i⟩
end LV
namespace LV
open PySem L2
section
variable{c:Vc}{X:Cx}{e o:Kf}{Z:List Kf}{Y:VTB}{own:Bool}{g:FV}{U W:Pos}{qual m:Str}{st:Kh}{f C:γ}{fd:δ}{ps:List Str}{k:Nat}{s:VSp}{dvs:List V}{dv:Ds}
def Jb(C:γ)(m:Str)(s:VSp)(dv:Ds)(g:FV)(Y:VTB):VT:=λ ds Q xe=>orF (g ds) λ d=>d.imm=true/\d.isM C m=true/\Y ds (λ xs ps ds1=>s (d::(xs++dv)) (λ r ys=>orF (As (.no::ps) ys ds1) λ a=>Q r a) (λ x ys=>orF (As (.no::ps) ys ds1) λ a=>xe x a)) xe
theorem qaf3(f:Bl s)(h:VAs c X Z Y):∀ ds (Q Q':DK) (xe b:XKd),(∀ d a,Q d a->Q' d a)->(∀ x a,xe x a->b x a)->Jb C m s dv g Y ds Q xe->Jb C m s dv g Y ds Q' b :=
 λ ds Q Q' xe b i e=>qa4 λ d=>Ni (Ni (h.m _ _ _ _ _ (λ l n j=>f _ _ _ _ _ (λ d k=>qa4 λ z=>i _ _) (λ x k=>qa4 λ z=>e _ _)) e))
theorem qaB3(p:F9 dvs dv)(t:Bl s)(u:VAs c X Z Y):∀ T H Q,Bi c (Jb C m s dv g Y) T H Q->Fw C m (E3 s) dvs c.E (liftV c own g) (Eh c Y) T H Q:=by
 rintro T H Q ⟨F,k,A,w,S,x,q⟩;obtain⟨d,y,D,G,q⟩:=qa7.mp q;refine⟨F,k,A,d,S,y,λ v H1 B r e _=>?_⟩;obtain rfl:=r.imm D;obtain⟨a,I,J,rfl,f,i⟩:=r.isM G;refine⟨a,I,J,rfl,f,i,F,k,A,w,S.same e,x.step (Ow.same e),u.m _ _ _ _ _ (λ l R K q n H2 F2 T2 A2 L M S2 N o=>?_) (λ _ _ z=>z) q⟩;have j:Ou F2 H2 (.ref a) d []:=r.keep (o.kp (S.same e).ok (S.same e).loc.cells) λ b O=>by cases O
 exact qW8 (vs:=.ref a::n) (xs:=d::l) p t S x (.cons j L) (.no M) S2 N ((Ow.same e).trans o) (λ d P h=>h) q
theorem qaP8{pl:Sem Bool}(D:Md X.K C m qual st f fd ps)(j:Cls X.K C)(G:Ea cm X.prog X.w X.K X.mg X.base k f fd ps s)(l:Lands X c.E)(n:Oy cm k X.A)(p:VV c X o own g)(a:VAs c X (e::Z) Y)(d:Jm (e::Z) X.env=(false,eval e X.env)::Jm Z X.env:=by rfl)(i:(backTo U (Jm Z X.env)).any (·.1)=false:=by rfl)(q:eval (.Call (.Attribute o m W) (e::Z) [] U) X.env=(do
     let ov <- eval o X.env
     standAt W.atName
     let (f,first) <- holding [ov] (getMethod ov m pl)
     callWith U f first (backTo U (Jm (e::Z) X.env)) (backToKw U (Jx [] X.env))):=by rfl):VE c X (.Call (.Attribute o m W) (e::Z) [] U) (Jb C m s [] g Y) :=
 ⟨PE.mono (qat5 p.h j D.me G.ok n D.b .nil l.passes a.h d i q) (qaB3 qm3 G.m a),qaf3 G.m a⟩
end
theorem rm(r:Oy cm k A)(h:j<=k:=by decide):Oy cm j A:=r.mono h
theorem VFn.mk2(Fu:Fun K x qual st f fd)(Sc:qa8 N ps (qa3 st))(W:Nat->Bool)(c:Bl s)(h:∀ ds Q xe,s ds Q xe->ds.length=ps.length/\Gu W 0 ds=true)(hbody:∀(a:V')(A:Kd)(outer:List Env)(b:Sh)(H:Hp)(E:XK)(av:List (Option V)),Oy cm k (A.deeper (PyProof.Rows.envOfC qual (qa3 st) b.heap.objs.size f a)) ->
     ∃ t,VSs ⟨λ _=>E,W,av,[]⟩ (Dx cm (CX1 P w) P w K mg base N qual (qa3 st) f a A outer b H E) (qd3 st) t/\∀ ds Q xe,s ds Q xe->t (qap8 W ds Q xe) (ds++Kv (N.length - ds.length) .u)) :
   Ea cm P w K mg base (k+1) f fd ps s:=VFn.mk' Fu Sc W c (λ ds Q xe z=>(h ds Q xe z).1) (λ ds Q xe z=>(h ds Q xe z).2) hbody
end LV
namespace S6
open PySem PyProof.Rows
variable{N bs q:Nat}{arr xs:Array Ko}{f:Nat->Ko}{key:Ko}{kf:V'->Int×Int}{l:Bool}{vs:List V'}
section
variable{f:Type}{le:f->f->Bool}
theorem mg_l{A2:List f}:∀{A1 Y:List f},(∀ a∈A1,∀ y∈Y,le a y=true)->Kw (A1++A2) Y le=A1++Kw A2 Y le
 | [],_,_=>rfl
 | x::A1,[],_=>by simp
 | x::A1,y::Y,h=>by
   rw[zC1,zBb,if_pos (h x (by simp) y (by simp)),mg_l λ a b=>h a (by simp[b])];rfl
theorem mg_r{B2:List f}:∀{B1 X:List f},(∀ b∈B1,∀ x∈X,le x b=false)->Kw X (B1++B2) le=B1++Kw X B2 le
 | [],_,_=>rfl
 | b::B1,[],_=>by simp
 | b::B1,x::X,h=>by
   rw[zC1,zBb,if_neg (by simp[h b (by simp) x (by simp)]),mg_r λ a c=>h a (by simp[c])];rfl
theorem Jc{A2:List f}:∀{A1 Y:List f},(∀ a∈A2,∀ y∈Y,le a y=false)->Kw (A1++A2) Y le=Kw A1 Y le++A2
 | [],Y,h=>by
   have:=mg_r (B2:=[]) (B1:=Y) (X:=A2) (le:=le) λ y c a b=>h a b y c
   simpa using this
 | x::A1,[],_=>by simp
 | x::A1,y::Y,h=>by
   rw[zC1,zBb,zBb];split
   . rw[Jc h];rfl
   rw[<- zC1,Jc λ a b z d=>h a b z (by simp[d])];rfl
theorem Hg{B2:List f}:∀{B1 X:List f},(∀ b∈B2,∀ x∈X,le x b=true)->Kw X (B1++B2) le=Kw X B1 le++B2
 | [],X,h=>by
   have:=mg_l (A2:=[]) (A1:=X) (Y:=B2) (le:=le) λ y d a c=>h a c y d
   simpa using this
 | b::B1,[],_=>by simp
 | b::B1,x::X,h=>by
   rw[zC1,zBb,zBb];split
   . rw[<- zC1,Hg λ a c z e=>h a c z (by simp[e])];rfl
   rw[Hg h];rfl
end
noncomputable def gal:Bool->Ko->Array Ko->Nat->Nat->Nat->StateT Kq Sem (Option Nat):=sortPriv% PySem.Builtin.gallop
def bey(l:Bool)(key:Ko)(arr:Array Ko)(i:Nat):StateT Kq Sem (Option Bool):=do
 let x <- elem' arr i
 if l then lt' x key else return (<- lt' key x).map (!·)
theorem qaX4(l:Bool)(key:Ko)(arr:Array Ko)(bs n g:Nat):gal l key arr bs n g=(do
 let mut p:=0
 let mut o:=1
 let mut u:=0
 let mut v:=0
 let some t <- bey l key arr (bs+g) | return none
 if t then
   let mo:=n - g
   for _ in [0:n] do
     if o ≥ mo then break
     let some c <- bey l key arr (bs+(g+o)) | return none
     if !c then break
     p:=o
     o:=2 * o+1
   u:=g+p+1
   v:=g+min o mo
 else
   let mo:=g+1
   for _ in [0:n] do
     if o ≥ mo then break
     let some c <- bey l key arr (bs+(g - o)) | return none
     if c then break
     p:=o
     o:=2 * o+1
   u:=g+1 - min o mo
   v:=g - p
 for _ in [0:n] do
   if u ≥ v then break
   let m:=u+(v - u) / 2
   let some c <- bey l key arr (bs+m) | return none
   if c then u:=m+1 else v:=m
 return some v):=rfl
section
variable{M:Model}{A:Kd}{E:V'->Sh->Prop}{s:Sh}{l n o:Type}{Q:o->l->Prop}{m:l}
theorem gB{f:l->StateT l Sem o}(h:wpS M A E s (f m) Q m):wpS M A E s (get >>= f) Q m:=Ki (wpS_get h)
theorem rB{f:Unit->StateT l Sem o}(h:wpS M A E s (f ()) Q m):wpS M A E s (liftM (rule t) >>= f) Q m:=Ki (wpS_lift (Jz ⟨rfl,h⟩))
theorem fB{f:Nat->n->StateT l Sem (ForInStep n)}(I:Nat->n->l->Prop)(R:n->l->Prop)(h1:∀ F,f=F->∀ i c m,a<=i->i < b->I i c m->∀ K:ForInStep n->l->Prop,(∀ e d,R e d->K (.done e) d)->(∀ e d,I (i+1) e d->K (.yield e) d)->wpS M A E s (F i c) K m)(h2:∀ c m,I (max a b) c m->R c m)(j:I a c m)(k:∀ F,g=F->∀ c m,R c m->wpS M A E s (F c) Q m):wpS M A E s (forIn [a:b] c f >>= g) Q m :=
 Ki (wpS_mono (wpS_forRange I (λ i c m x y z=>h1 f rfl i c m x y z _ (λ _ _ h=>h) λ _ _ h=>h) h2 j) (k g rfl))
end
structure Od(lt:Ko->Ko->Bool):Prop where
 as:∀ x y,lt x y=true->lt y x=false
 tr:∀ x y z,lt y x=false->lt z y=false->lt z x=false
def Cm(prog:Kc)(w:Ke)(A:Kd)(s:Sh)(kd:SortKind)(P:Ko->Prop)(lt:Ko->Ko->Bool):Prop :=
 ∀ x y,P x->P y->∀(E:V'->Sh->Prop)(Q:Bool->Sh->Prop),Q (lt x y) s->Ka (Kb prog w) A (keyLt' kd x.1 y.1) Q E s
section
variable{prog:Kc}{w:Ke}{A:Kd}{E:V'->Sh->Prop}{s:Sh}{kd:SortKind}{P:Ko->Prop}{lt:Ko->Ko->Bool}{st:Kq}
theorem Od.ir(h:Od lt)(x:Ko):lt x x=false:=by
 cases e:lt x x with
 | false=>rfl
 | true=>rw[h.as x x e] at e;cases e
theorem wlt(a:Cm prog w A s kd P lt)(b:Kr st=kd)(c:P x)(d:P y)(h:Q (some (lt x y)) st):wpS (Kb prog w) A E s (lt' x y) Q st:=by
 rw[lt'_eq];refine gB ?_;rw[b];exact Ki (wpS_lift (wpAny_attempt (a x y c d _ _ ⟨rfl,Kj h⟩)))
theorem wel(hi:arr[i]? = some p)(h:Q p st):wpS (Kb prog w) A E s (elem' arr i) Q st:=by
 rw[elem'_eq,hi];exact Kj h
def B(lt:Ko->Ko->Bool)(l:Bool)(key x:Ko):Bool:=if l then lt x key else !lt key x
theorem wif{α:Type}{c:Prop}[Decidable c]{m n:StateT Kq Sem α}{Q:α->Kq->Prop}(h1:c->wpS (Kb prog w) A E s m Q st)(h2:¬ c->wpS (Kb prog w) A E s n Q st):wpS (Kb prog w) A E s (if c then m else n) Q st:=by
 by_cases h:c
 . rw[if_pos h];exact h1 h
 rw[if_neg h];exact h2 h
section
variable{u v n x i g o p:Nat}
theorem l2o(o:Nat):o+1<=2 * o+1:=by lia
theorem g1(c:¬ u ≥ v)(h:v - u<=n - x):u+(v - u) / 2 < v/\v - (u+(v - u) / 2+1)<=n - (x+1)/\u+(v - u) / 2 - u<=n - (x+1):=by
 have q:=Nat.div_lt_self (Nat.sub_pos_of_lt (Nat.lt_of_not_le c)) (zA3 2);generalize (v - u) / 2=m at *
 have t:=Nat.sub_le_sub_right h 1;exact⟨Nat.add_lt_of_lt_sub' q,zAk (Nat.sub_le_sub_left (zCu (zBq u m)) v) t,by rw[Nat.add_sub_cancel_left];exact zAk (Nat.le_pred_of_lt q) t⟩
theorem g2(h:v - u<=n - max 0 n)(hi:i < v):i < u:=by lia
theorem g3(h:max 0 n+1<=o)(h':o < n - g):False:=by lia
theorem g8(h:max 0 n+1<=o)(a:g < n)(h':o < g+1):False:=by lia
theorem g4(h:p < o)(h':g+p < n):g+p+1<=g+min o (n - g)/\g+min o (n - g)<=n:=by lia
theorem g5(h:g+min o (n - g)<=i)(h':i < n):g+o<=i/\o < n - g:=by lia
theorem g6(h:p < o)(h':p<=g):g+1 - min o (g+1)<=g - p:=by lia
theorem g7(h:i < g+1 - min o (g+1)):i<=g - o/\o < g+1:=by
 by_cases c:o < g+1
 . rw[zCy (zBa c)] at h;exact⟨by lia,c⟩
 rw[Nat.min_eq_right (zCb c),Nat.sub_self] at h;exact absurd h (zCq _)
end
theorem yB{β:Type}{x:Ko}{i:Nat}{f:Option Bool->StateT Kq Sem β}{Q:β->Kq->Prop}(a:Cm prog w A s kd P lt)(b:Kr st=kd)(hi:arr[i]? = some x)(c:P x)(d:P key)(h:B lt l key x=true->wpS (Kb prog w) A E s (f (some true)) Q st)(h':B lt l key x=false->wpS (Kb prog w) A E s (f (some false)) Q st):wpS (Kb prog w) A E s (bey l key arr i >>= f) Q st:=by
 have e:wpS (Kb prog w) A E s (f (some (B lt l key x))) Q st:=by cases e:B lt l key x with | true=>exact h e | false=>exact h' e
 refine Ki ?_;unfold bey;refine Ki (wel hi ?_);cases l with
 | true=>exact wlt a b c d e
 | false=>exact Ki (wlt a b d c (Kj e))
theorem wgal(O:Cm prog w A s kd P lt)(R:Kr st=kd)(S:P key)(T:∀ i,i < n->arr[bs+i]? = some (f i))(U:∀ i,i < n->P (f i))(hm:∀ i j,i<=j->j < n->B lt l key (f j)=true->B lt l key (f i)=true)(J:g < n)(h:∀ k,k<=n->(∀ i,i < k->B lt l key (f i)=true)->(∀ i,k<=i->i < n->B lt l key (f i)=false)->Q (some k) st):wpS (Kb prog w) A E s (gal l key arr bs n g) Q st:=by
 have L:∀ i j,i<=j->j < n->B lt l key (f i)=false->B lt l key (f j)=false:=λ i j a b c=>by
   cases e:B lt l key (f j) with
   | false=>rfl
   | true=>rw[hm i j a b e] at c;cases c
 have fin:∀ u v,u<=v->v<=n->(∀ i,i < u->B lt l key (f i)=true)->(∀ i,v<=i->i < n->B lt l key (f i)=false) ->
    wpS (Kb prog w) A E s (do
      let mut u:=u
      let mut v:=v
      for _ in [0:n] do
       if u ≥ v then break
       let m:=u+(v - u) / 2
       let some c <- bey l key arr (bs+m) | return none
       if c then u:=m+1 else v:=m
      return some v) Q st:=by
   intro u v Z X a3 a4;refine fB (λ x c d=>d=st/\c.1=none/\c.2.1<=c.2.2/\c.2.2<=n/\c.2.2 - c.2.1<=n - x/\(∀ i,i < c.2.1->B lt l key (f i)=true)/\(∀ i,c.2.2<=i->i < n->B lt l key (f i)=false)) (λ c d=>d=st/\c.1=none/\c.2.2<=n/\(∀ i,i < c.2.2->B lt l key (f i)=true)/\(∀ i,c.2.2<=i->i < n->B lt l key (f i)=false)) ?_ ?_ ⟨rfl,rfl,Z,X,zAk (zCj v u) X,a3,a4⟩ ?_
   . rintro F z x ⟨_,u,v⟩ d - Y ⟨rfl,rfl,y,C,t,r,H⟩ K p q
     subst z;refine wif (λ c=>Kj (p _ _ ⟨rfl,rfl,C,λ i I=>r i (zAg I c),H⟩)) λ c=>?_
     have m:=g1 (u:=u) (v:=v) c t;have V:=zAg m.1 C;exact yB O R (T _ V) (U _ V) S (λ G=>Kj (q _ _ ⟨rfl,rfl,m.1,C,m.2.1,λ i I=>hm i _ (zC2 I) V G,H⟩)) λ G=>Kj (q _ _ ⟨rfl,rfl,zBq _ _,zBa V,m.2.2,r,λ i D M=>L _ i D M G⟩)
   . exact λ c d ⟨N,D,y,C,t,r,H⟩=>⟨N,D,C,λ i I=>r i (g2 t I),H⟩
   rintro F z ⟨_,u,v⟩ d ⟨rfl,rfl,C,r,H⟩;subst z;exact Kj (h v C r H)
 rw[qaX4];refine yB O R (T _ J) (U _ J) S (λ W=>wif (λ _=>?_) λ c=>absurd rfl c) λ W=>wif (λ c=>nomatch c) λ _=>?_
 . refine fB (λ x c d=>d=st/\c.1=none/\c.2.1 < c.2.2/\x+1<=c.2.2/\g+c.2.1 < n/\B lt l key (f (g+c.2.1))=true) (λ c d=>d=st/\c.1=none/\c.2.1 < c.2.2/\g+c.2.1 < n/\B lt l key (f (g+c.2.1))=true/\(c.2.2 < n - g->B lt l key (f (g+c.2.2))=false)) ?_ ?_ ⟨rfl,rfl,Nat.one_pos,zA3 _,J,W⟩ ?_
   . rintro F z x ⟨_,p,o⟩ d - Y ⟨rfl,rfl,y,C,t,r⟩ K u v
     subst z;refine wif (λ c=>Kj (u _ _ ⟨rfl,rfl,y,t,r,λ h=>absurd h (Nat.not_lt_of_le c)⟩)) λ c=>?_
     have m:g+o < n:=Nat.add_lt_of_lt_sub' (Nat.lt_of_not_le c);exact yB O R (T _ m) (U _ m) S (λ G=>Kj (v _ _ ⟨rfl,rfl,l2o o,zAk (zCu C) (l2o o),m,G⟩)) λ G=>Kj (u _ _ ⟨rfl,rfl,y,t,r,λ _=>G⟩)
   . exact λ c d ⟨N,D,y,C,t,r⟩=>⟨N,D,y,t,r,λ h=>(g3 C h).elim⟩
   rintro F z ⟨_,p,o⟩ d ⟨rfl,rfl,y,t,r,H⟩;subst z;exact fin (g+p+1) (g+min o (n - g)) (g4 y t).1 (g4 y t).2 (λ i I=>hm i _ (zC2 I) t r) λ i D M=>L (g+o) i (g5 D M).1 M (H (g5 D M).2)
 refine fB (λ x c d=>d=st/\c.1=none/\c.2.1 < c.2.2/\x+1<=c.2.2/\c.2.1<=g/\B lt l key (f (g - c.2.1))=false) (λ c d=>d=st/\c.1=none/\c.2.1 < c.2.2/\c.2.1<=g/\B lt l key (f (g - c.2.1))=false/\(c.2.2 < g+1->B lt l key (f (g - c.2.2))=true)) ?_ ?_ ⟨rfl,rfl,Nat.one_pos,zA3 _,zBh _,W⟩ ?_
 . rintro F z x ⟨_,p,o⟩ d - Y ⟨rfl,rfl,y,C,t,r⟩ K u v
   subst z;have m:g - o < n:=zCe (zCj g o) J;exact wif (λ c=>Kj (u _ _ ⟨rfl,rfl,y,t,r,λ h=>absurd h (Nat.not_lt_of_le c)⟩)) λ c=>yB O R (T _ m) (U _ m) S (λ G=>Kj (u _ _ ⟨rfl,rfl,y,t,r,λ _=>G⟩)) λ G=>Kj (v _ _ ⟨rfl,rfl,l2o o,zAk (zCu C) (l2o o),zC2 (Nat.lt_of_not_le c),G⟩)
 . exact λ c d ⟨N,D,y,C,t,r⟩=>⟨N,D,y,t,r,λ h=>(g8 C J h).elim⟩
 rintro F z ⟨_,p,o⟩ d ⟨rfl,rfl,y,t,r,H⟩;subst z;exact fin (g+1 - min o (g+1)) (g - p) (g6 y t) (zAk (zCj g p) (zBa J)) (λ i I=>hm i (g - o) (g7 I).1 (zCe (zCj g o) J) (H (g7 I).2)) λ i D M=>L _ i D M r
end
noncomputable abbrev lee(lt:Ko->Ko->Bool):Ko->Ko->Bool:=λ x y=>!lt y x
section
variable{d:Type}{le:d->d->Bool}
theorem Jd{A2 Y:List d}{y:d}:∀{A1:List d},(∀ a∈A1,le a y=true)->Kw (A1++A2) (y::Y) le=A1++Kw A2 (y::Y) le
 | [],_=>rfl
 | x::A1,h=>by rw[zC1,zBb,if_pos (h x (by simp)),Jd λ a b=>h a (by simp[b])];rfl
theorem Je{B2 X:List d}{x:d}:∀{B1:List d},(∀ b∈B1,le x b=false)->Kw (x::X) (B1++B2) le=B1++Kw (x::X) B2 le
 | [],_=>rfl
 | b::B1,h=>by rw[zC1,zBb,if_neg (by simp[h b (by simp)]),Je λ a c=>h a (by simp[c])];rfl
end
noncomputable def att(a:Array Ko)(i:Nat):Ko:=a.getD i (M8,M8)
theorem qS5(h:i < a.size):a[i]? = some (att a i):=by simp[att,Array.getD,h]
theorem Ed(h:i < a.size):a.toList.drop i=att a i::a.toList.drop (i+1):=by
 rw[K8 (by simpa using h)];simp[att,Array.getD,h]
def Srt(lt:Ko->Ko->Bool)(f:Nat->Ko)(n:Nat):Prop:=∀ i j,i<=j->j < n->lt (f j) (f i)=false
theorem Srt.drop(h:Srt lt f n):Srt lt (λ i=>f (k+i)) (n - k):=λ i j a b=>h _ _ (by lia) (by lia)
theorem qu6(h:x∈(a.toList.drop i).take k):∃ j,j < k/\i+j < a.size/\x=att a (i+j):=by
 obtain⟨j,b,e⟩:=List.mem_iff_getElem.mp h;rw[zB0,zCa,zB7] at b;refine⟨j,by lia,by lia,?_⟩;rw[<- e,Mh,Mi];simp[att,Array.getD,show i+j < a.size by lia]
theorem qd1{a:Array Ko}:(a.extract i j).toList=(a.toList.drop i).take (j - i):=by simp[List.take_drop]
section
variable{prog:Kc}{w:Ke}{A:Kd}{E:V'->Sh->Prop}{s:Sh}{kd:SortKind}{P:Ko->Prop}{lt:Ko->Ko->Bool}{st:Kq}
theorem wgs(b:Od lt)(m:Cm prog w A s kd P lt)(o:Kr st=kd)(p:P key)(x:bs+n<=arr.size)(q:∀ i,i < arr.size->P (att arr i))(r:Srt lt (λ i=>att arr (bs+i)) n)(t:g < n)(h:∀ k,k<=n->(∀ i,i < k->B lt l key (att arr (bs+i))=true)->(∀ i,k<=i->i < n->B lt l key (att arr (bs+i))=false)->Q (some k) st):wpS (Kb prog w) A E s (gal l key arr bs n g) Q st:=by
 refine wgal (f:=λ i=>att arr (bs+i)) m o p (λ i u=>qS5 (by lia)) (λ i u=>q _ (by lia)) (λ i j a v c=>?_) t h;have d:=r i j a v;cases l with
 | false =>
   have e:lt key (att arr (bs+j))=false:=by simpa[B] using c
   show (!lt key (att arr (bs+i)))=true;rw[b.tr _ _ _ d e];rfl
 | true =>
   show lt (att arr (bs+i)) key=true;cases e:lt (att arr (bs+i)) key with
   | true=>rfl
   | false=>have:=b.tr _ _ _ e d;rw[show lt (att arr (bs+j)) key=true from c] at this;cases this
def R(st a:Kq):Prop:=Kr a=Kr st/\Kn a=Kn st/\Kk a=Kk st/\Kl a=Kl st
noncomputable def mlo:Array Ko->Array Ko->StateT Kq Sem (Array Ko):=sortPriv% PySem.Builtin.mergeLo
noncomputable def smg:Nat->StateT Kq Sem Unit:=sortPriv% PySem.Builtin.setMinGallop
theorem qaV5(a b:Array Ko):mlo a b=(do
 rule "list.sort.merge-lo"
 let tt:=a.size+b.size
 let dn (o:Array Ko) (i j:Nat):=o++a.extract i a.size++b.extract j b.size
 let la (o:Array Ko) (i j:Nat):=o++b.extract j b.size++a.extract i a.size
 let mut o:Array Ko:=#[<- elem' b 0]
 let mut i:=0
 let mut j:=1
 if j == b.size then return dn o i j
 if i+1 == a.size then return la o i j
 let mut g:=gallopOf (<- get)
 for _ in [0:tt] do
   let mut x:=0
   let mut y:=0
   for _ in [0:tt] do
     let some t <- lt' (<- elem' b j) (<- elem' a i) | return dn o i j
     if t then
       o:=o.push (<- elem' b j);j:=j+1;y:=y+1;x:=0
       if j == b.size then return dn o i j
       if y ≥ g then break
     else
       o:=o.push (<- elem' a i);i:=i+1;x:=x+1;y:=0
       if i+1 == a.size then return la o i j
       if x ≥ g then break
   rule "list.sort.gallop"
   g:=g+1
   for _ in [0:tt] do
     if g > 1 then g:=g - 1
     smg g
     let some k <- gal false (<- elem' b j) a i (a.size - i) 0 | return dn o i j
     x:=k
     if k > 0 then
       o:=o++a.extract i (i+k);i:=i+k
       if i+1 == a.size then return la o i j
       if i == a.size then return dn o i j
     o:=o.push (<- elem' b j);j:=j+1
     if j == b.size then return dn o i j
     let some k <- gal true (<- elem' a i) b j (b.size - j) 0 | return dn o i j
     y:=k
     if k > 0 then
       o:=o++b.extract j (j+k);j:=j+k
       if j == b.size then return dn o i j
     o:=o.push (<- elem' a i);i:=i+1
     if i+1 == a.size then return la o i j
     if x < 7&&y < 7 then break
   g:=g+1
   smg g
 unsupported "internal:list.sort.merge-bound"):=rfl
def Eq2(lt:Ko->Ko->Bool)(a b o:Array Ko)(i j:Nat):Prop:=o.toList++Kw (a.toList.drop i) (b.toList.drop j) (lee lt)=Kw a.toList b.toList (lee lt)
variable{a b o:Array Ko}{i j k:Nat}
theorem Eq2.done(h:Eq2 lt a b o i j)(c:j=b.size∨i=a.size):(o++a.extract i a.size++b.extract j b.size).toList=Kw a.toList b.toList (lee lt):=by
 rw[<- h,zB5,zB5,qd1,qd1,zAr];congr 1;rw[zAu (by simp),zAu (by simp)];rcases c with rfl | rfl
 . rw[show b.toList.drop b.size=[] by simp,zAd,Mn]
 rw[show a.toList.drop a.size=[] by simp,zB3,Mt]
theorem Eq2.last(h:Eq2 lt a b o i j)(hi:i+1=a.size)(d:∀ n,n < b.size->lt (att b n) (att a i)=true):(o++b.extract j b.size++a.extract i a.size).toList=Kw a.toList b.toList (lee lt):=by
 rw[<- h,zB5,zB5,qd1,qd1,zAr];congr 1;rw[zAu (by simp),zAu (by simp),Ed (a:=a) (i:=i) (by lia),show a.toList.drop (i+1)=[] from Lb (by simp;lia)]
 have:=Je (le:=lee lt) (B2:=[]) (X:=[]) (x:=att a i) (B1:=b.toList.drop j) λ x c=>by
   rw[<- zAu (l:=b.toList.drop j) (zA3 _)] at c;obtain⟨n,_,e,rfl⟩:=qu6 c;simp[d _ e]
 rw[zAd] at this;rw[this];simp
theorem Eq2.pb(h:Eq2 lt a b o i j)(hi:i < a.size)(c:j < b.size)(d:lt (att b j) (att a i)=true):Eq2 lt a b (o.push (att b j)) i (j+1):=by
 unfold Eq2 at h ⊢;rw[<- h,Array.toList_push,zAr,Ed hi,Ed c,zBb,if_neg (by simp[d])];rfl
theorem Eq2.pa(h:Eq2 lt a b o i j)(hi:i < a.size)(c:j < b.size)(d:lt (att b j) (att a i)=false):Eq2 lt a b (o.push (att a i)) (i+1) j:=by
 unfold Eq2 at h ⊢;rw[<- h,Array.toList_push,zAr,Ed hi,Ed c,zBb,if_pos (by simp[d])];rfl
theorem Eq2.ga(h:Eq2 lt a b o i j)(c:j < b.size)(d:∀ n,n < k->i+n < a.size->lt (att b j) (att a (i+n))=false):Eq2 lt a b (o++a.extract i (i+k)) (i+k) j:=by
 unfold Eq2 at h ⊢;rw[<- h,zB5,qd1,zAr,show i+k - i=k by lia,Ed c];congr 1
 conv=>rhs;rw[<- zBl k (a.toList.drop i)]
 rw[Jd (le:=lee lt),L6];intro x e;obtain⟨n,f,g,rfl⟩:=qu6 e;simp[d n f g]
theorem Eq2.gb(h:Eq2 lt a b o i j)(hi:i < a.size)(c:∀ n,n < k->j+n < b.size->lt (att b (j+n)) (att a i)=true):Eq2 lt a b (o++b.extract j (j+k)) i (j+k):=by
 unfold Eq2 at h ⊢;rw[<- h,zB5,qd1,zAr,show j+k - j=k by lia,Ed hi];congr 1
 conv=>rhs;rw[<- zBl k (b.toList.drop j)]
 rw[Je (le:=lee lt),L6];intro x d;obtain⟨n,e,f,rfl⟩:=qu6 d;simp[c n e f]
section
variable{β:Type}{Q:β->Kq->Prop}
theorem eB{f:Ko->StateT Kq Sem β}(hi:i < a.size)(h:wpS (Kb prog w) A E s (f (att a i)) Q st):wpS (Kb prog w) A E s (elem' a i >>= f) Q st:=Ki (wel (qS5 hi) h)
theorem lB{f:Option Bool->StateT Kq Sem β}(a:Cm prog w A s kd P lt)(b:Kr st=kd)(c:P x)(d:P y)(h:lt x y=true->wpS (Kb prog w) A E s (f (some true)) Q st)(h':lt x y=false->wpS (Kb prog w) A E s (f (some false)) Q st):wpS (Kb prog w) A E s (lt' x y >>= f) Q st:=Ki (wlt a b c d (by cases e:lt x y<;>simp_all))
theorem mB{a:Kq}{f:Unit->StateT Kq Sem β}(c:R a st)(h:∀ b,R a b->wpS (Kb prog w) A E s (f ()) Q b):wpS (Kb prog w) A E s (smg g >>= f) Q st:=Ki (Km (h _ c))
theorem sB{f:Option Nat->StateT Kq Sem β}(e:Od lt)(g:Cm prog w A s kd P lt)(j:Kr st=kd)(m:P key)(n:∀ i,i < arr.size->P (att arr i))(o:Srt lt (att arr) arr.size)(p:bs < arr.size)(h:∀ k,bs+k<=arr.size->(∀ i,i < k->B lt l key (att arr (bs+i))=true)->(bs+k < arr.size->B lt l key (att arr (bs+k))=false)->wpS (Kb prog w) A E s (f (some k)) Q st):wpS (Kb prog w) A E s (gal l key arr bs (arr.size - bs) 0 >>= f) Q st:=Ki (wgs e g j m (by lia) n o.drop (by lia) λ k a b c=>h k (by lia) b λ d=>c k (zA3 _) (by lia))
end
theorem ltn{y:Nat}(h:¬ (x == y)=true)(h':x<=y):x < y:=Nat.lt_of_le_of_ne h' λ e=>h (zBz.mpr e)
theorem sa(h:x<=i+j):x+1<=i+1+j:=Nat.succ_add i j ▸ zCu h
theorem la(h:x<=i+j):x<=i+(j+k):=by lia
theorem lb(h:x<=i+j):x<=i+k+j:=by lia
theorem nt{b:Bool}(h:(!b)=true):b=false:=by simpa using h
theorem nf{b:Bool}(h:(!b)=false):b=true:=by simpa using h
theorem wmlo(hO:Od lt)(Y:Cm prog w A s kd P lt)(Z:Kr st=kd)(L:∀ n,n < a.size->P (att a n))(M:∀ n,n < b.size->P (att b n))(a0:Srt lt (att a) a.size)(a1:Srt lt (att b) b.size)(V:0 < a.size)(N:0 < b.size)(h0:lt (att b 0) (att a 0)=true)(hl:∀ n,n < b.size->lt (att b n) (att a (a.size - 1))=true)(h:∀ r f,R st f->r.toList=Kw a.toList b.toList (lee lt)->Q r f):wpS (Kb prog w) A E s (mlo a b) Q st:=by
 have H:∀ i,i+1=a.size->∀ n,n < b.size->lt (att b n) (att a i)=true:=λ i e n hn=>by rw[Nat.eq_sub_of_add_eq e];exact hl n hn
 have e1:Eq2 lt a b #[att b 0] 0 1:=Eq2.pb (o:=#[]) (i:=0) (j:=0) rfl V N h0;rw[qaV5];refine rB (eB N (wif (λ c=>Kj (h _ st ⟨rfl,rfl,rfl,rfl⟩ (e1.done (.inl (eq_of_beq c))))) λ c1=>wif (λ c=>Kj (h _ st ⟨rfl,rfl,rfl,rfl⟩ (e1.last (eq_of_beq c) (H 0 (eq_of_beq c))))) λ c2=>gB ?_))
 let D (c:Option (Array Ko)):Prop:=∃ r,c=some r/\r.toList=Kw a.toList b.toList (lee lt)
 let G (n:Nat) (o:Array Ko) (i j:Nat):Prop:=Eq2 lt a b o i j/\i+1 < a.size/\j < b.size/\n<=i+j
 refine fB (λ x c f=>R st f/\c.1=none/\G (x+1) c.2.1 c.2.2.1 c.2.2.2.1) (λ c f=>R st f/\D c.1) ?_ ?_ ⟨⟨rfl,rfl,rfl,rfl⟩,rfl,e1,ltn c2 V,ltn c1 N,zA3 _⟩ ?_
 . rintro F z x ⟨_,o,i,j,g⟩ O - hx ⟨W,rfl,g1,g2,g3,g4⟩ K p n
   subst z;refine fB (λ y c f=>R st f/\c.1=none/\G (x+1+y) c.2.1 c.2.2.1 c.2.2.2.1) (λ c f=>R st f/\(D c.1∨c.1=none/\G (x+2) c.2.1 c.2.2.1 c.2.2.2.1)) ?_ ?_ ⟨W,rfl,g1,g2,g3,g4⟩ ?_
   . rintro F z y ⟨_,o,i,j,_,_⟩ S - hy ⟨m,rfl,v,t,l,B⟩ K p n
     subst z;have I:=zCo t;have k6:=zAk (zBq (x+1) y) B;refine eB l (eB I (lB Y (m.1.trans Z) (M _ l) (L _ I) (λ hb=>?_) λ hb=>?_))
     . have e2:=v.pb I l hb
       exact eB l (wif (λ c=>Kj (p _ _ ⟨m,.inl ⟨_,rfl,e2.done (.inl (eq_of_beq c))⟩⟩)) λ c=>wif (λ _=>Kj (p _ _ ⟨m,.inr ⟨rfl,e2,t,ltn c l,zCu k6⟩⟩)) λ _=>Kj (n _ _ ⟨m,rfl,e2,t,ltn c l,zCu B⟩))
     have e2:=v.pa I l hb;exact eB I (wif (λ c=>Kj (p _ _ ⟨m,.inl ⟨_,rfl,e2.last (eq_of_beq c) (H _ (eq_of_beq c))⟩⟩)) λ c=>wif (λ _=>Kj (p _ _ ⟨m,.inr ⟨rfl,e2,ltn c t,l,sa k6⟩⟩)) λ _=>Kj (n _ _ ⟨m,rfl,e2,ltn c t,l,sa B⟩))
   . rintro c S ⟨m,k0,v,t,l,B⟩
     exact⟨m,.inr ⟨k0,v,t,l,by lia⟩⟩
   rintro F z ⟨c,c'⟩ S ⟨m,⟨r,rfl,e⟩ | ⟨e,v,t,l,B⟩⟩
   . subst z;exact Kj (p _ _ ⟨m,r,rfl,e⟩)
   cases e;subst z;refine rB (fB (λ y c f=>R st f/\c.1=none/\G (x+2) c.2.1 c.2.2.1 c.2.2.2.1) (λ c f=>R st f/\(D c.1∨c.1=none/\G (x+2) c.2.1 c.2.2.1 c.2.2.2.1)) ?_ ?_ ⟨m,rfl,v,t,l,B⟩ ?_)
   . rintro F z y ⟨_,o,i,j,g,_,_⟩ a2 - hy ⟨r3,rfl,v,t,l,B⟩ K p n
     subst z;have I:=zCo t;dsimp -zeta only
     extract_lets +onlyGivenNames _ _ _ _ _ _ _ _ _ _ _ _ J
     suffices u:∀ g,wpS (Kb prog w) A E s (J () g) K a2 from wif (λ _=>u _) λ _=>u _
     intro g;dsimp +zetaDelta -zeta only;refine mB r3 λ T C=>eB l (sB hO Y (C.1.trans Z) (M _ l) L a0 I λ k q1 q2 q3=>?_)
     dsimp -zeta only
     extract_lets +onlyGivenNames _ J
     have ea:=v.ga (k:=k) l λ n h1 _=>nt (q2 n h1)
     suffices u:∀ o i,Eq2 lt a b o i j->i+1 < a.size->x+2<=i+j->lt (att b j) (att a i)=true->wpS (Kb prog w) A E s (J () o i) K T from wif (λ c=>wif (λ d=>Kj (p _ _ ⟨C,.inl ⟨_,rfl,ea.last (eq_of_beq d) (H _ (eq_of_beq d))⟩⟩)) λ d=>wif (λ X=>Kj (p _ _ ⟨C,.inl ⟨_,rfl,ea.done (.inr (eq_of_beq X))⟩⟩)) λ X=>u _ _ ea (ltn d (ltn X q1)) (lb B) (nf (q3 (ltn X q1)))) λ c=>by
       obtain rfl:=Nat.eq_zero_of_not_pos c;exact u _ _ v t B (nf (q3 I))
     intro o i e z1 zb z;dsimp +zetaDelta -zeta only;have U:=zCo z1;have e2:=e.pb U l z;refine eB l (wif (λ d=>Kj (p _ _ ⟨C,.inl ⟨_,rfl,e2.done (.inl (eq_of_beq d))⟩⟩)) λ d=>?_);have z2:=ltn d l;refine eB U (sB hO Y (C.1.trans Z) (L _ U) M a1 z2 λ q p1 p2 p3=>?_);dsimp -zeta only
     extract_lets +onlyGivenNames _ _ J
     have eb:=e2.gb (k:=q) U λ n h1 h2=>p2 n h1
     suffices u:∀ o j,Eq2 lt a b o i j->j < b.size->x+2<=i+j->lt (att b j) (att a i)=false->wpS (Kb prog w) A E s (J () o j) K T from wif (λ c=>wif (λ d=>Kj (p _ _ ⟨C,.inl ⟨_,rfl,eb.done (.inl (eq_of_beq d))⟩⟩)) λ d=>u _ _ eb (ltn d p1) (la (la zb)) (p3 (ltn d p1))) λ c=>by
       obtain rfl:=Nat.eq_zero_of_not_pos c;exact u _ _ e2 z2 (la zb) (p3 z2)
     intro o j e3 z3 zc z4;have z5:=e3.pa U z3 z4;refine eB U (wif (λ d=>Kj<|p _ _ ⟨C,.inl ⟨_,rfl,z5.last (eq_of_beq d)<|H _<|eq_of_beq d⟩⟩) λ d=>?_);exact wif (λ _=>Kj<|p _ _ ⟨C,.inr ⟨rfl,z5,ltn d z1,z3,lb zc⟩⟩) λ _=>Kj (n _ _ ⟨C,rfl,z5,ltn d z1,z3,lb zc⟩)
   . exact λ _ _ z=>⟨z.1,.inr z.2⟩
   rintro F z ⟨c,c'⟩ S ⟨m,⟨r,rfl,e⟩ | ⟨e,v,t,l,B⟩⟩<;>subst z
   . exact Kj (p _ _ ⟨m,r,rfl,e⟩)
   cases e;exact mB m λ T C=>Kj (n _ _ ⟨C,rfl,v,t,l,B⟩)
 . rintro c O ⟨W,_,g1,g2,g3,g4⟩
   lia
 rintro F z ⟨c,c'⟩ O ⟨W,r,rfl,e⟩;subst z;exact Kj (h r O W e)
end
section
variable{prog:Kc}{w:Ke}{A:Kd}{E:V'->Sh->Prop}{s:Sh}{kd:SortKind}{P:Ko->Prop}{lt:Ko->Ko->Bool}{st:Kq}
noncomputable def mhi:Array Ko->Array Ko->StateT Kq Sem (Array Ko):=sortPriv% PySem.Builtin.mergeHi
theorem qaV6(a b:Array Ko):mhi a b=(do
 rule "list.sort.merge-hi"
 let tt:=a.size+b.size
 let dn (o:Array Ko) (i j:Nat):=a.extract 0 i++b.extract 0 j++o.reverse
 let fb (o:Array Ko) (i j:Nat):=b.extract 0 j++a.extract 0 i++o.reverse
 let mut i:=a.size - 1
 let mut j:=b.size
 let mut o:Array Ko:=#[<- elem' a i]
 if i == 0 then return dn o i j
 if j == 1 then return fb o i j
 let mut g:=gallopOf (<- get)
 for _ in [0:tt] do
   let mut x:=0
   let mut y:=0
   for _ in [0:tt] do
     let some t <- lt' (<- elem' b (j - 1)) (<- elem' a (i - 1)) | return dn o i j
     if t then
       i:=i - 1;o:=o.push (<- elem' a i);x:=x+1;y:=0
       if i == 0 then return dn o i j
       if x ≥ g then break
     else
       j:=j - 1;o:=o.push (<- elem' b j);y:=y+1;x:=0
       if j == 1 then return fb o i j
       if y ≥ g then break
   rule "list.sort.gallop"
   g:=g+1
   for _ in [0:tt] do
     if g > 1 then g:=g - 1
     smg g
     let some q <- gal false (<- elem' b (j - 1)) a 0 i (i - 1) | return dn o i j
     let k:=i - q
     x:=k
     if k > 0 then
       o:=o++(a.extract q i).reverse;i:=q
       if i == 0 then return dn o i j
     j:=j - 1;o:=o.push (<- elem' b j)
     if j == 1 then return fb o i j
     let some q <- gal true (<- elem' a (i - 1)) b 0 j (j - 1) | return dn o i j
     let k:=j - q
     y:=k
     if k > 0 then
       o:=o++(b.extract q j).reverse;j:=q
       if j == 1 then return fb o i j
       if j == 0 then return dn o i j
     i:=i - 1;o:=o.push (<- elem' a i)
     if i == 0 then return dn o i j
     if x < 7&&y < 7 then break
   g:=g+1
   smg g
 unsupported "internal:list.sort.merge-bound"):=rfl
def Eq3(lt:Ko->Ko->Bool)(a b o:Array Ko)(i j:Nat):Prop:=Kw (a.toList.take i) (b.toList.take j) (lee lt)++o.toList.reverse=Kw a.toList b.toList (lee lt)
variable{a b o:Array Ko}{i j k:Nat}
theorem Jf(h:x∈a.toList.take k):∃ j,j < k/\j < a.size/\x=att a j:=by
 obtain⟨j,b,c,e⟩:=qu6 (i:=0) (k:=k) (by simpa using h);exact⟨j,b,by lia,by rw[e,zA9]⟩
theorem qaa9(h:q<=i):a.toList.take i=a.toList.take q++(a.extract q i).toList:=by
 rw[qd1]
 conv=>lhs;rw[show i=q+(i - q) by lia,Mz]
theorem ext1(h:0 < i)(hi:i<=a.size):(a.extract (i - 1) i).toList=[att a (i - 1)]:=by
 rw[qd1,Ed (by lia),show i - (i - 1)=1 by lia];rfl
theorem Eq3.done(h:Eq3 lt a b o i j)(c:i=0∨j=0):(a.extract 0 i++b.extract 0 j++o.reverse).toList=Kw a.toList b.toList (lee lt):=by
 rw[<- h,zB5,zB5,qd1,qd1,Array.toList_reverse];congr 1;rcases c with rfl | rfl
 . simp
 simp
theorem Eq3.first(h:Eq3 lt a b o i j)(c:j=1)(k:0 < b.size)(d:∀ n,n < a.size->lt (att b 0) (att a n)=true):(b.extract 0 j++a.extract 0 i++o.reverse).toList=Kw a.toList b.toList (lee lt):=by
 rw[<- h,zB5,zB5,qd1,qd1,Array.toList_reverse];congr 1;subst c
 have:=mg_r (le:=lee lt) (B2:=[]) (B1:=b.toList.take 1) (X:=a.toList.take i) λ y e x f=>by
   obtain⟨n,_,g,rfl⟩:=Jf f;obtain⟨m,l,p,rfl⟩:=Jf e;obtain rfl:m=0:=by lia
   simp[d _ g]
 rw[zAd] at this;rw[this];simp
theorem Eq3.ga(h:Eq3 lt a b o i j)(f:Od lt)(c:Srt lt (att b) b.size)(g:q<=i)(s:0 < j)(k:j<=b.size)(l:∀ n,q<=n->n < i->n < a.size->lt (att b<|j - 1) (att a n)=true) :
   Eq3 lt a b (o++(a.extract q i).reverse) q j:=by
 unfold Eq3 at h ⊢;rw[<- h,qaa9 g,Jc (le:=lee lt)]
 . simp
 intro x d y p;rw[qd1] at d;obtain⟨n,t,r,rfl⟩:=qu6 d;obtain⟨m,u,v,rfl⟩:=Jf p;have e:=l (q+n) (by lia) (by lia) r;show (!lt (att b m) (att a<|q+n))=false;cases e2:lt (att b m) (att a<|q+n) with
 | true=>rfl
 | false=>rw[f.tr _ _ _ e2 (c m (j - 1) (by lia) (by lia))] at e;cases e
theorem Eq3.gb(h:Eq3 lt a b o i j)(f:Od lt)(c:Srt lt (att a) a.size)(g:q<=j)(hi:0 < i)(k:i<=a.size)(l:∀ n,q<=n->n < j->n < b.size->lt (att b n) (att a<|i - 1)=false) :
   Eq3 lt a b (o++(b.extract q j).reverse) i q:=by
 unfold Eq3 at h ⊢;rw[<- h,qaa9 g,Hg (le:=lee lt)]
 . simp
 intro y d x p;rw[qd1] at d;obtain⟨n,s,r,rfl⟩:=qu6 d;obtain⟨m,t,u,rfl⟩:=Jf p;have e:=l (q+n) (by lia) (by lia) r;show (!lt (att b<|q+n) (att a m))=true;rw[f.tr _ _ _ (c m (i - 1) (by lia) (by lia)) e];rfl
theorem Eq3.pa(h:Eq3 lt a b o i j)(f:Od lt)(c:Srt lt (att b) b.size)(hi:0 < i)(d:i<=a.size)(g:0 < j)(e:j<=b.size)(k:lt (att b<|j - 1) (att a<|i - 1)=true):Eq3 lt a b (o.push<|att a<|i - 1) (i - 1) j:=by
 have:=h.ga f c (q:=i - 1) (by lia) g e λ n l m _=>by rw[show n=i - 1 by lia];exact k
 rwa[show o++(a.extract (i - 1) i).reverse=o.push (att a<|i - 1) from Array.toList_inj.mp (by rw[zB5,Array.toList_reverse,ext1 hi d,Array.toList_push];rfl)] at this
theorem Eq3.pb(h:Eq3 lt a b o i j)(f:Od lt)(c:Srt lt (att a) a.size)(hi:0 < i)(d:i<=a.size)(g:0 < j)(e:j<=b.size)(k:lt (att b<|j - 1) (att a<|i - 1)=false):Eq3 lt a b (o.push<|att b<|j - 1) i (j - 1):=by
 have:=h.gb f c (q:=j - 1) (by lia) hi d λ n l m _=>by rw[show n=j - 1 by lia];exact k
 rwa[show o++(b.extract (j - 1) j).reverse=o.push (att b<|j - 1) from Array.toList_inj.mp (by rw[zB5,Array.toList_reverse,ext1 g e,Array.toList_push];rfl)] at this
theorem pz(h:¬ (x == 0)=true):0 < x:=Nat.pos_of_ne_zero λ e=>h (zBz.mpr e)
theorem p1(h:¬ (x == 1)=true)(h':0 < x):1 < x:=Nat.lt_of_le_of_ne h' λ e=>h (zBz.mpr e.symm)
theorem dy(h:x+y+i+j<=N):x+i+j<=N:=by lia
theorem lc(h:x+i+j<=N)(h':q<=i):x+q+j<=N:=by lia
theorem ld(h:x+i+j<=N)(h':q<=j):x+i+q<=N:=by lia
theorem mw(h:x+i+j<=N)(h':0 < i):x+1+(i - 1)+j<=N:=by lia
theorem mv(h:x+i+j<=N)(h':0 < j):x+1+i+(j - 1)<=N:=by lia
theorem sH{β:Type}{Q:β->Kq->Prop}{n:Nat}{f:Option Nat->StateT Kq Sem β}(e:Od lt)(g:Cm prog w A s kd P lt)(m:Kr st=kd)(o:P key)(p:∀ i,i < arr.size->P (att arr i))(r:Srt lt (att arr) arr.size)(t:0 < n)(u:n<=arr.size)(h:∀ q,q<=n->(0 < q->B lt l key (att arr<|q - 1)=true)->(∀ i,q<=i->i < n->B lt l key (att arr i)=false)->wpS (Kb prog w) A E s (f<|some q) Q st):wpS (Kb prog w) A E s (gal l key arr 0 n (n - 1) >>= f) Q st :=
 Ki (wgs e g m o (by lia) p (λ i j a b=>r _ _ (by lia) (by lia)) (by lia) λ k a b c=>h k a (λ d=>zA9 (k - 1) ▸ b _ (Nat.sub_one_lt_of_lt d)) λ i x y=>zA9 i ▸ c i x y)
theorem wmhi(S:Od lt)(hC:Cm prog w A s kd P lt)(hk:Kr st=kd)(W:∀ n,n < a.size->P (att a n))(X:∀ n,n < b.size->P (att b n))(T:Srt lt (att a) a.size)(L:Srt lt (att b) b.size)(Y:0 < a.size)(B:0 < b.size)(h0:∀ n,n < a.size->lt (att b 0) (att a n)=true)(hl:lt (att b<|b.size - 1) (att a<|a.size - 1)=true)(h:∀ r f,R st f->r.toList=Kw a.toList b.toList (lee lt)->Q r f):wpS (Kb prog w) A E s (mhi a b) Q st:=by
 have e1:Eq3 lt a b #[att a (a.size - 1)] (a.size - 1) b.size :=
   Eq3.pa (o:=#[]) (i:=a.size) (j:=b.size) (by unfold Eq3;rw[show a.toList.take a.size=a.toList from zAu (zD0 zB7),show b.toList.take b.size=b.toList from zAu (zD0 zB7)];simp) S L Y (zA3 _) B (zA3 _) hl
 rw[qaV6];refine rB (eB (Nat.sub_one_lt_of_lt Y)<|wif (λ c=>Kj<|h _ st ⟨rfl,rfl,rfl,rfl⟩<|e1.done<|.inl<|eq_of_beq c) λ c1=>wif (λ c=>Kj<|h _ st ⟨rfl,rfl,rfl,rfl⟩<|e1.first (eq_of_beq c) B h0) λ c2=>gB ?_)
 let D (c:Option (Array Ko)):Prop:=∃ r,c=some r/\r.toList=Kw a.toList b.toList (lee lt)
 let G (n:Nat) (o:Array Ko) (i j:Nat):Prop:=Eq3 lt a b o i j/\0 < i/\i<=a.size/\1 < j/\j<=b.size/\n+i+j<=a.size+b.size
 refine fB (λ x c f=>R st f/\c.1=none/\G (x+1) c.2.2.2.1 c.2.1 c.2.2.1) (λ c f=>R st f/\D c.1) ?_ ?_ ⟨⟨rfl,rfl,rfl,rfl⟩,rfl,e1,pz c1,zCj _ _,p1 c2 B,zA3 _,mw (x:=0) (by lia) Y⟩ ?_
 . rintro F z x ⟨_,i,j,o,g⟩ Z - hx ⟨r1,rfl,g1,g2,g3,g4,g5,g6⟩ K p n
   subst z;refine fB (λ y c f=>R st f/\c.1=none/\G (x+1+y) c.2.2.2.1 c.2.1 c.2.2.1) (λ c f=>R st f/\(D c.1∨c.1=none/\G (x+2) c.2.2.2.1 c.2.1 c.2.2.1)) ?_ ?_ ⟨r1,rfl,g1,g2,g3,g4,g5,g6⟩ ?_
   . rintro F z y ⟨_,i,j,o,_,_⟩ a0 - hy ⟨l,rfl,M,k,m,C,v,H⟩ K p n
     subst z;have U:=zCo C;have N:=Nat.sub_one_lt_of_le k m;have I:=Nat.sub_one_lt_of_le U v;refine eB I (eB N<|lB hC (l.1.trans hk) (X _ I) (W _ N) (λ hb=>?_) λ hb=>?_)
     . have e2:=M.pa S L k m U v hb
       exact eB N (wif (λ c=>Kj<|p _ _ ⟨l,.inl ⟨_,rfl,e2.done<|.inl<|eq_of_beq c⟩⟩) λ c=>wif (λ _=>Kj<|p _ _ ⟨l,.inr ⟨rfl,e2,pz c,zBa N,C,v,mw (dy H) k⟩⟩) λ _=>Kj<|n _ _ ⟨l,rfl,e2,pz c,zBa N,C,v,mw H k⟩)
     have e2:=M.pb S T k m U v hb;have y0:=Nat.sub_pos_of_lt C;exact eB I (wif (λ c=>Kj<|p _ _ ⟨l,.inl ⟨_,rfl,e2.first (eq_of_beq c) B h0⟩⟩) λ c=>wif (λ _=>Kj<|p _ _ ⟨l,.inr ⟨rfl,e2,k,m,p1 c y0,zBa I,mv (dy H) U⟩⟩) λ _=>Kj<|n _ _ ⟨l,rfl,e2,k,m,p1 c y0,zBa I,mv H U⟩)
   . rintro c a0 ⟨l,k0,M,k,m,C,v,H⟩
     exact⟨l,.inr ⟨k0,M,k,m,C,v,by lia⟩⟩
   rintro F z ⟨c,c'⟩ a0 ⟨l,⟨r,rfl,e⟩ | ⟨e,M,k,m,C,v,H⟩⟩
   . subst z;exact Kj (p _ _ ⟨l,r,rfl,e⟩)
   cases e;subst z;refine rB (fB (λ y c f=>R st f/\c.1=none/\G (x+2) c.2.2.2.1 c.2.1 c.2.2.1) (λ c f=>R st f/\(D c.1∨c.1=none/\G (x+2) c.2.2.2.1 c.2.1 c.2.2.1)) ?_ ?_ ⟨l,rfl,M,k,m,C,v,H⟩ ?_)
   . rintro F z y ⟨_,i,j,o,g,_,_⟩ a2 - hy ⟨r3,rfl,M,k,m,C,v,H⟩ K p n
     subst z;have U:=zCo C;have I:=Nat.sub_one_lt_of_le U v;have y0:=Nat.sub_pos_of_lt C;dsimp -zeta only
     extract_lets +onlyGivenNames _ _ _ _ _ _ _ _ _ _ _ _ J
     suffices u:∀ g,wpS (Kb prog w) A E s (J () g) K a2 from wif (λ _=>u _) λ _=>u _
     intro g;dsimp +zetaDelta -zeta only;refine mB r3 λ a1 O=>eB I (sH S hC (O.1.trans hk) (X _ I) W T k m λ q V q2 q3=>?_)
     dsimp -zeta only
     extract_lets +onlyGivenNames _ _ J
     have ea:=M.ga S L V U v λ n h1 h2 _=>nf (q3 n h1 h2)
     suffices u:∀ i o,Eq3 lt a b o i j->0 < i->i<=a.size->x+2+i+j<=a.size+b.size->lt (att b<|j - 1) (att a<|i - 1)=false->wpS (Kb prog w) A E s (J () i o) K a1 from wif (λ c=>wif (λ d=>Kj<|p _ _ ⟨O,.inl ⟨_,rfl,ea.done<|.inl<|eq_of_beq d⟩⟩) λ d=>u _ _ ea (pz d) (zAk V m) (lc H V)<|nt<|q2<|pz d) λ c=>by
       obtain rfl:=Nat.le_antisymm V (Nat.le_of_sub_eq_zero<|Nat.eq_zero_of_not_pos c);exact u _ _ M k m H (nt<|q2 k)
     intro i o e z1 z2 zb z;dsimp +zetaDelta -zeta only;have N:=Nat.sub_one_lt_of_le z1 z2;have e2:=e.pb S T z1 z2 U v z;refine eB I (wif (λ d=>Kj<|p _ _ ⟨O,.inl ⟨_,rfl,e2.first (eq_of_beq d) B h0⟩⟩) λ d=>?_);refine eB N (sH S hC (O.1.trans hk) (W _ N) X L y0 (zBa I) λ q V q2 q3=>?_);dsimp -zeta only
     extract_lets +onlyGivenNames _ _ _ J
     have eb:=e2.gb S T V z1 z2 λ n h1 h2 _=>q3 n h1 h2
     suffices u:∀ j o,Eq3 lt a b o i j->1 < j->j<=b.size->x+2+i+j<=a.size+b.size->lt (att b<|j - 1) (att a<|i - 1)=true->wpS (Kb prog w) A E s (J () j o) K a1 from wif (λ c=>wif (λ d=>Kj<|p _ _ ⟨O,.inl ⟨_,rfl,eb.first (eq_of_beq d) B h0⟩⟩) λ d=>wif (λ t=>Kj<|p _ _ ⟨O,.inl ⟨_,rfl,eb.done<|.inr<|eq_of_beq t⟩⟩) λ t=>u _ _ eb (p1 d<|pz t) (zAk V<|zBa I) (ld (ld zb<|zCj _ 1) V)<|q2<|pz t) λ c=>by
       obtain rfl:=Nat.le_antisymm V (Nat.le_of_sub_eq_zero<|Nat.eq_zero_of_not_pos c);exact u _ _ e2 (p1 d y0) (zBa I) (ld zb<|zCj _ 1) (q2 y0)
     intro j o e3 y1 y2 y5 y4;have e4:=e3.pa S L z1 z2 (zCo y1) y2 y4;exact eB N (wif (λ d=>Kj<|p _ _ ⟨O,.inl ⟨_,rfl,e4.done<|.inl<|eq_of_beq d⟩⟩) λ d=>wif (λ _=>Kj<|p _ _ ⟨O,.inr ⟨rfl,e4,pz d,zBa N,y1,y2,lc y5<|zCj _ 1⟩⟩) λ _=>Kj<|n _ _ ⟨O,rfl,e4,pz d,zBa N,y1,y2,lc y5<|zCj _ 1⟩)
   . exact λ _ _ z=>⟨z.1,.inr z.2⟩
   rintro F z ⟨c,c'⟩ a0 ⟨l,⟨r,rfl,e⟩ | ⟨e,M,k,m,C,v,H⟩⟩<;>subst z
   . exact Kj (p _ _ ⟨l,r,rfl,e⟩)
   cases e;exact mB l λ a1 O=>Kj (n _ _ ⟨O,rfl,M,k,m,C,v,H⟩)
 . rintro c Z ⟨r1,_,g1,g2,g3,g4,g5,g6⟩
   lia
 rintro F z ⟨c,c'⟩ Z ⟨r1,r,rfl,e⟩;subst z;exact Kj (h r Z r1 e)
end
theorem qm8(h:xs[i]? = ys[j]?):att xs i=att ys j:=by
 have e:∀(a:Array Ko) k,att a k=(a[k]?).getD (M8,M8):=λ a k=>by simp[att,Array.getD_eq_getD_getElem?]
 rw[e,e,h]
theorem qaj4(a:src < xs.size)(b:d<=src)(k:Nat) :
   att (bubble xs src d) k=if k=src - d then att xs src else if src - d < k/\k<=src then att xs (k - 1) else att xs k:=by
 have e:=getElem?_bubble a d b k;split at e
 . rw[if_pos (by assumption)];exact qm8 e
 rw[if_neg (by assumption)];split at e
 . rw[if_pos (by assumption)];exact qm8 e
 rw[if_neg (by assumption)];exact qm8 e
theorem qaj3(a:j<=xs.size)(k:Nat) :
   att (mirror xs i j ((j - i) / 2)) k=if i<=k/\k < j then att xs (i+j - 1 - k) else att xs k:=by
 have e:=getElem?_mirror_all (i:=i) a k;split at e
 . rw[if_pos (by assumption)];exact qm8 e
 rw[if_neg (by assumption)];exact qm8 e
theorem qaw0(h:i < a.size):att a i∈a.toList:=by simp[att,Array.getD,h]
theorem Srt.more(h:Srt lt f x)(d:Od lt)(e:0 < x->lt (f x) (f<|x - 1)=false):Srt lt f (x+1):=λ i j a b=>by
 by_cases c:j < x
 . exact h i j a c
 obtain rfl:j=x:=by lia
 by_cases q:i=j
 . rw[q];exact d.ir _
 exact d.tr _ _ _ (h i (j - 1) (by lia) (by lia)) (e (by lia))
structure Bt(a0:Array Ko)(lo:Nat)(st st':Kq):Prop where
 kd:Kr st'=Kr st
 fl:Kl st'=Kl st
 pd:Kk st'=Kk st
 pm:(Kn st').Perm a0
 pr:∀ i,i < lo->att (Kn st') i=att (Kn st) i
section
variable{prog:Kc}{w:Ke}{A:Kd}{E:V'->Sh->Prop}{s:Sh}{kd:SortKind}{lt:Ko->Ko->Bool}{st X:Kq}{Z:Array Ko}{Y:Nat}
theorem Bt.sz(h:Bt Z Y st X):(Kn X).size=Z.size:=h.pm.size_eq
theorem Bt.mem(h:Bt Z Y st X)(hi:i < Z.size):att (Kn X) i∈Z.toList:=(zBr.mp h.pm).mem_iff.mp (qaw0 (by rw[h.sz];exact hi))
theorem Bt.set(h:Bt Z Y st X)(b:xs.Perm (Kn X))(c:∀ i,i < Y->att xs i=att (Kn X) i):Bt Z Y st (Ks X xs) :=
 ⟨h.kd,h.fl,h.pd,b.trans h.pm,λ i a=>(c i a).trans (h.pr i a)⟩
abbrev Cn(prog:Kc)(w:Ke)(A:Kd)(s:Sh)(kd:SortKind)(Z:Array Ko)(lt:Ko->Ko->Bool):Prop:=Cm prog w A s kd (λ x=>x∈Z.toList) lt
theorem aB{β:Type}{i j:Nat}{Q:β->Kq->Prop}{f:Option Bool->StateT Kq Sem β}(b:Cn prog w A s kd Z lt)(c:Kr st=kd)(h:Bt Z Y st X)(hi:i < Z.size)(a:j < Z.size)(h':lt (att (Kn X) i) (att (Kn X) j)=true->wpS (Kb prog w) A E s (f<|some true) Q X)(d:lt (att (Kn X) i) (att (Kn X) j)=false->wpS (Kb prog w) A E s (f<|some false) Q X):wpS (Kb prog w) A E s (ltAt' i j >>= f) Q X:=by
 refine Ki ?_;rw[ltAt'_eq];refine gB (eB (by rw[h.sz];exact hi)<|eB (by rw[h.sz];exact a)<|wlt b (h.kd.trans c) (h.mem hi) (h.mem a) ?_);cases e:lt (att (Kn X) i) (att (Kn X) j) with
 | true=>exact h' e
 | false=>exact d e
theorem wmv(h:Q () (Ks X<|bubble (Kn X) p<|p - q)):wpS (Kb prog w) A E s (moveDown' p q) Q X:=by
 rw[moveDown'_eq];exact Km h
theorem qaQ4(h:p < xs.size)(a:q<=p)(hi:i < q):att (bubble xs p<|p - q) i=att xs i:=by
 rw[qaj4 h (zCj _ _),Nat.sub_sub_self a,if_neg (zAt hi),if_neg λ c=>Nat.lt_asymm hi c.1]
theorem qaZ0(h:p < xs.size)(a:q<=p):att (bubble xs p<|p - q) q=att xs p:=by
 rw[qaj4 h (zCj _ _),Nat.sub_sub_self a,if_pos rfl]
theorem qaY9(h:p < xs.size)(a:q<=p)(h1:q<=i)(h2:i < p):att (bubble xs p<|p - q) (i+1)=att xs i:=by
 rw[qaj4 h (zCj _ _),Nat.sub_sub_self a,if_neg (zCs<|Nat.lt_succ_of_le h1),if_pos ⟨Nat.lt_succ_of_le h1,h2⟩,Nat.add_sub_cancel]
theorem qaG9{F:Nat->Ko}{l:Nat}(e:Od lt)(c:l<=k)(s2:∀ i j,i<=j->j < k->lt (f j) (f i)=false)(g:∀ i,i < l->lt x (f i)=false)(n:∀ i,l<=i->i < k->lt (f i) x=false)(h1:∀ i,i < l->F i=f i)(h2:F l=x)(d:∀ i,l<=i->i < k->F (i+1)=f i)(i j:Nat)(a:i<=j)(o:j < k+1):lt (F j) (F i)=false:=by
 rcases Nat.lt_trichotomy j l with h | h | h
 . rw[h1 j h,h1 i (zCe a h)]
   exact s2 i j a (zAg h c)
 . subst h
   rw[h2];rcases Nat.lt_or_eq_of_le a with q | rfl
   . rw[h1 i q];exact g i q
   rw[h2];exact e.ir _
 cases j with
 | zero=>exact absurd h (zCq _)
 | succ m =>
   have b:=Nat.lt_of_succ_lt_succ o;rw[d m (zC2 h) b];rcases Nat.lt_trichotomy i l with q | q | q
   . rw[h1 i q];exact s2 i m (zAk (zBa q)<|zC2 h) b
   . subst q;rw[h2];exact n m (zC2 h) b
   cases i with
   | zero=>exact absurd q (zCq _)
   | succ p=>rw[d p (zC2 q) (zCe (Nat.le_of_succ_le_succ a) b)];exact s2 p m (Nat.le_of_succ_le_succ a) b
theorem wbin(D:Od lt)(J:Cn prog w A s kd Z lt)(L:Kr st=kd)(V:Y+n<=Z.size)(M:C<=n)(h1:1<=C)(N:Bt Z Y st X)(O:Srt lt (λ i=>att (Kn X)<|Y+i) C)(h:∀ e,Bt Z Y st e->Srt lt (λ i=>att (Kn e)<|Y+i) n->Q true e):wpS (Kb prog w) A E s (binarySort' Y n C) Q X:=by
 rw[binarySort'_eq];refine fB (λ k c e=>c=(none,())/\Bt Z Y st e/\Srt lt (λ i=>att (Kn e)<|Y+i) (min k n)) (λ c e=>c=(none,())/\Bt Z Y st e/\Srt lt (λ i=>att (Kn e)<|Y+i) n) ?_ ?_ ⟨rfl,N,λ i j a b=>O i j a (by lia)⟩ ?_
 . rintro F z k c f P R ⟨rfl,m,g⟩ K p q
   subst z;rw[show min k n=k by lia] at g;refine fB (λ x c e=>e=f/\∃ l r,c=(none,l,r)/\l<=r/\r<=k/\r - l<=k - x /\
       (∀ i,i < l->lt (att (Kn f)<|Y+k) (att (Kn f)<|Y+i)=false)/\(∀ i,r<=i->i < k->lt (att (Kn f)<|Y+i) (att (Kn f)<|Y+k)=false)) (λ c e=>e=f/\∃ l,c=(none,l,l)/\l<=k /\
       (∀ i,i < l->lt (att (Kn f)<|Y+k) (att (Kn f)<|Y+i)=false)/\(∀ i,l<=i->i < k->lt (att (Kn f)<|Y+i) (att (Kn f)<|Y+k)=false)) ?_ ?_ ⟨rfl,0,k,rfl,by lia,by lia,by lia,λ i t=>by lia,λ i h1 I=>by lia⟩ ?_
   . rintro F z x c o - W ⟨rfl,l,r,rfl,S,u,T,v,B⟩ K p q
     subst z;dsimp only;refine wif (λ d=>?_) λ d=>?_
     . obtain rfl:l=r:=by lia
       exact Kj (p _ _ ⟨rfl,l,rfl,u,v,B⟩)
     exact aB J L m (by lia) (by lia) (λ G=>Kj<|q _ _ ⟨rfl,l,_,rfl,by lia,by lia,by lia,v,λ i h1 I=>D.tr _ _ _ (D.as _ _ G)<|g _ _ h1 I⟩) λ G=>Kj (q _ _ ⟨rfl,_,r,rfl,by lia,by lia,by lia,λ i h1=>D.tr _ _ _ (g i _ (by lia) (by lia)) G,B⟩)
   . rintro c o ⟨rfl,l,r,rfl,S,u,T,v,B⟩
     obtain rfl:l=r:=by lia
     exact⟨rfl,l,rfl,u,v,B⟩
   rintro F z c o ⟨rfl,l,rfl,u,v,B⟩;subst z;dsimp only;have z:Y+k < (Kn o).size:=by rw[m.sz];lia
   have y:=Nat.add_le_add_left u Y;refine Ki (wmv<|Kj<|q _ _ ⟨rfl,m.set (bubble_perm _ _ _) λ i t=>?_,?_⟩)
   . exact qaQ4 z y (zAg t<|zBq _ _)
   rw[show min (k+1) n=k+1 by lia];exact qaG9 D u g v B (λ i t=>qaQ4 z y<|Nat.add_lt_add_left t Y) (qaZ0 z y) λ i t H=>qaY9 z y (Nat.add_le_add_left t Y) (Nat.add_lt_add_left H Y)
 . rintro c f ⟨U,m,g⟩
   rw[show min (max (max C 1) n) n=n by lia] at g;exact⟨U,m,g⟩
 rintro F z c f ⟨rfl,m,g⟩;subst z;exact Kj (h f m g)
def Ds(lt:Ko->Ko->Bool)(Z:Array Ko):Prop:=Z.toList.Pairwise λ x y=>lt x y=true∨lt y x=true
theorem Ds.at(h:Ds lt Z)(b:Bt Z Y st X)(c:i≠j)(hi:i < Z.size)(n:j < Z.size)(e:lt (att (Kn X) i) (att (Kn X) j)=false):lt (att (Kn X) j) (att (Kn X) i)=true:=by
 have d:(Kn X).toList.Pairwise λ x y=>lt x y=true∨lt y x=true:=((zBr.mp b.pm).pairwise_iff λ h=>h.symm).mpr h
 rw[Lp] at d;have g:∀ k,k < Z.size->∃ a,(Kn X).toList[k]'a=att (Kn X) k:=λ k a=>⟨by rw[zB7,b.sz];exact a,by simp[att,Array.getD,show k < (Kn X).size by rw[b.sz];exact a]⟩
 obtain⟨f,l⟩:=g i hi;obtain⟨m,e2⟩:=g j n;rcases Nat.lt_or_gt_of_ne c with q | q
 . have:=d i j f m q
   rw[l,e2,e] at this;simpa using this
 have:=d j i m f q
 rw[l,e2,e] at this;simpa using this
theorem wcnt(v:Od lt)(D:Cn prog w A s kd Z lt)(M:Ds lt Z)(G:Kr st=kd)(T:Y+m<=Z.size)(h1:1<=m)(r:Bt Z Y st X)(h:∀ n f,Bt Z Y st f->1<=n->n<=m->Srt lt (λ i=>att (Kn f)<|Y+i) n->Q (some n) f):wpS (Kb prog w) A E s (countRun' Y m) Q X:=by
 rw[countRun'_eq];refine fB (λ x c f=>f=X/\c=(none,x)/\Srt lt (λ i=>att (Kn X)<|Y+i) x) (λ c f=>f=X/\∃ n,c=(none,n)/\1<=n/\n<=m/\Srt lt (λ i=>att (Kn X)<|Y+i) n/\(n=m∨lt (att (Kn X)<|Y+n) (att (Kn X)<|Y+n - 1)=true)) ?_ ?_ ⟨rfl,rfl,λ i j a b=>by rw[show i=j by lia];exact v.ir _⟩ ?_
 . rintro F z x c g o N ⟨rfl,rfl,t⟩ K p q
   subst z;exact aB D G r (by lia) (by lia) (λ u=>Kj<|p _ _ ⟨rfl,x,rfl,o,by lia,t,.inr u⟩) λ u=>Kj (q _ _ ⟨rfl,rfl,t.more v λ _=>by rw[<- Nat.add_sub_assoc o];exact u⟩)
 . rintro c g ⟨rfl,rfl,t⟩
   rw[show max 1 m=m by lia] at t ⊢;exact⟨rfl,m,rfl,h1,zA3 _,t,.inl rfl⟩
 rintro F z c g ⟨rfl,n,rfl,J,L,t,d⟩;subst z;dsimp only;refine wif (λ _=>Kj<|h n g r J L t) λ c=>?_
 have d:=d.resolve_left (by simpa using c);refine wif (λ P=>aB D G r (by lia) (by lia) (λ _=>Kj<|h n g r J L t) λ e=>?_) λ P=>?_
 . rw[M.at r (by lia) (by lia) (by lia) (by rw[Nat.add_sub_assoc J];exact t 0 (n - 1) (by lia) (by lia))] at e;cases e
 obtain rfl:n=1:=by lia
 simp at c;refine rB ?_;have O:Od λ x y=>lt y x:=⟨λ x y q=>v.as _ _ q,λ x y z p q=>v.tr _ _ _ q p⟩
 refine fB (λ x c f=>f=g/\c=(none,x,0)/\Srt (λ x y=>lt y x) (λ i=>att (Kn g)<|Y+i) x) (λ c f=>f=g/\∃ n,c=(none,n,0)/\2<=n/\n<=m/\Srt (λ x y=>lt y x) (λ i=>att (Kn g)<|Y+i) n) ?_ ?_ ⟨rfl,rfl,?_⟩ ?_
 . rintro F z x c l o N ⟨rfl,rfl,B⟩ K p q
   subst z;exact aB D G r (by lia) (by lia) (λ u=>wif (λ _=>wif (λ c=>absurd c<|zCf 0) λ _=>Kj<|q _ _ ⟨rfl,rfl,B.more O λ _=>by rw[<- Nat.add_sub_assoc (by lia)];exact v.as _ _ u⟩) λ c=>absurd rfl c) λ u=>aB D G r (by lia) (by lia) (λ _=>Kj<|p _ _ ⟨rfl,x,rfl,o,by lia,B⟩) λ e=>by rw[M.at r (by lia) (by lia) (by lia) u] at e;cases e
 . rintro c l ⟨rfl,rfl,B⟩
   rw[show max (1+1) m=m by lia] at B ⊢;exact⟨rfl,m,rfl,by lia,zA3 _,B⟩
 . refine Srt.more (λ i j a b=>?_) O λ _=>v.as _ _ d
   obtain rfl:i=j:=by lia
   exact v.ir _
 rintro F z c l ⟨rfl,n,rfl,J,L,B⟩;subst z;refine wif (λ c=>absurd c<|zCf 0) λ _=>?_
 dsimp only;have z:Y+n<=(Kn l).size:=by rw[r.sz];lia
 have H:=r.set (mirror_perm (Kn l) Y (Y+n) ((Y+n - Y) / 2)) λ i U=>by rw[qaj3 z,if_neg (by lia)]
 refine Ki (wpS_reverse ?_);refine fB (λ x c f=>f=Ks l (mirror (Kn l) Y (Y+n) ((Y+n - Y) / 2))/\c=(none,x)/\Srt lt (λ i=>att (Kn f)<|Y+i) x) (λ c f=>f=Ks l (mirror (Kn l) Y (Y+n) ((Y+n - Y) / 2))/\∃ k,c=(none,k)/\1<=k/\k<=m/\Srt lt (λ i=>att (Kn f)<|Y+i) k) ?_ ?_ ⟨rfl,rfl,λ i j a b=>?_⟩ ?_
 . rintro F z x c I o N ⟨rfl,rfl,C⟩ K p q
   subst z;exact aB D G H (by lia) (by lia) (λ _=>Kj<|p _ _ ⟨rfl,x,rfl,by lia,by lia,C⟩) λ u=>Kj (q _ _ ⟨rfl,rfl,C.more v λ _=>by rw[<- Nat.add_sub_assoc (by lia)];exact u⟩)
 . rintro c I ⟨rfl,rfl,C⟩
   rw[show max n m=m by lia] at C ⊢;exact⟨rfl,m,rfl,by lia,zA3 _,C⟩
 . show lt (att (mirror _ _ _ _) _) (att (mirror _ _ _ _) _)=false
   rw[qaj3 z,qaj3 z,if_pos (by lia),if_pos (by lia)]
   have:=B (n - 1 - j) (n - 1 - i) (by lia) (by lia)
   rw[show Y+(Y+n) - 1 - (Y+j)=Y+(n - 1 - j) by lia,show Y+(Y+n) - 1 - (Y+i)=Y+(n - 1 - i) by lia];exact this
 rintro F z c I ⟨rfl,k,rfl,R,S,C⟩;subst z;exact Kj (h k _ H R S C)
end
theorem qaV7(i:Nat):mergeAt' i=(do
 let s <- get
 let (some (p,n,pw),some (q,m,_)):=((Kk s)[i]?,(Kk s)[i+1]?) | unsupported "internal:list.sort.pending"
 set (Kt s (((Kk s).setIfInBounds i (p,n+m,pw)).eraseIdxIfInBounds (i+1)))
 let some k <- gal false (<- elem' (Kn s) q) (Kn s) p n 0 | return false
 let (p,n):=(p+k,n - k)
 if n == 0 then return true
 let some m <- gal true (<- elem' (Kn s) (p+n - 1)) (Kn s) q m (m - 1) | return false
 if m == 0 then return true
 let x:=(Kn s).extract p q
 let y:=(Kn s).extract q (q+m)
 let r <- if n<=m then mlo x y else mhi x y
 modify λ s=>Ks s (r.toList.zipIdx.foldl (λ a (z,j)=>a.setIfInBounds (p+j) z)<|Kn s)
 return (Kl<|<- get).isNone):=rfl
theorem wr{p:Nat}:∀(L:List Ko)(n:Nat)(a:Array Ko),p+n+L.length<=a.size ->
   ((L.zipIdx n).foldl (λ(a:Array Ko)(z:Ko×Nat)=>a.setIfInBounds (p+z.2) z.1) a).toList=a.toList.take (p+n)++L++a.toList.drop (p+n+L.length)
 | [],n,a,_=>by simp
 | x::L,n,a,h=>by
   rw[zAm] at h;rw[Ls,Mp,wr L (n+1) _ (by rw[Array.size_setIfInBounds];lia),Array.toList_setIfInBounds,<- Nat.add_assoc,zAm,
     List.drop_set_of_lt (by lia),List.take_set,zBj,show a.toList[p+n]?.toList=[att a (p+n)] from ?_,L5 _ _ (by simp;lia),show p+n+1+L.length=p+n+(L.length+1) by lia]
   . simp[show min (p+n) a.size=p+n by lia]
   rw[Array.getElem?_toList,qS5 (by lia)];rfl
theorem qaw1(h:i+n < j)(b:j<=a.size):att (a.extract i j) n=att a (i+n) :=
 qm8 (by rw[Array.getElem?_extract];rw[if_pos (by lia)])
section
variable{prog:Kc}{w:Ke}{A:Kd}{E:V'->Sh->Prop}{s:Sh}{kd:SortKind}{lt:Ko->Ko->Bool}{st:Kq}{a0:Array Ko}
theorem wset(h:Q ⟨⟩ a):wpS (Kb prog w) A E s (set a:StateT Kq Sem PUnit) Q st:=by
 unfold wpS;rw[StateT.run_set];exact G' ⟨rfl,h⟩
theorem wmat(G:Od lt)(I:Cn prog w A s kd a0 lt)(J:Kr st=kd)(K:Kl st=none)(Y:Kk st = #[(0,n,F),(n,m,pv)])(H:(Kn st).Perm a0)(Z:0 < n)(hm:0 < m)(hz:n+m=a0.size)(h1:Srt lt (att<|Kn st) n)(h2:Srt lt (λ i=>att (Kn st)<|n+i) m)(h:∀ u,Kl u=none->Kk u = #[(0,n+m,F)]->(Kn u).toList=Kw ((Kn st).toList.take n) ((Kn st).toList.drop n) (lee lt)->Q true u):wpS (Kb prog w) A E s (mergeAt' 0) Q st:=by
 have a1:(Kn st).size=n+m:=H.size_eq.trans hz.symm;have D:∀ i,i < (Kn st).size->att (Kn st) i∈a0.toList:=λ i C=>(zBr.mp H).mem_iff.mp (qaw0 C)
 rw[qaV7];refine gB ?_;rw[Y];have ep:(#[(0,n,F),(n,m,pv)].setIfInBounds 0 (0,n+m,F)).eraseIdxIfInBounds (0+1) = #[(0,n+m,F)]:=by simp[Array.eraseIdxIfInBounds]
 refine Ki (wset ?_);rw[ep];refine eB (by lia) (Ki<|wgs G I J (D _ (by lia)) (by lia) D (λ i j a b=>by dsimp only;rw[zA9,zA9];exact h1 i j a b) Z λ k S T N=>?_);simp only[zA9] at T N ⊢;have sD:(Kn st).toList.drop n=att (Kn st) n::(Kn st).toList.drop (n+1):=Ed (by lia);have O:Kw ((Kn st).toList.take n) ((Kn st).toList.drop n) (lee lt)=(Kn st).toList.take k++Kw (((Kn st).toList.drop k).take (n - k)) ((Kn st).toList.drop n) (lee lt):=by
   rw[<- List.drop_take,<- show ((Kn st).toList.take n).take k=(Kn st).toList.take k by rw[Mu,zCy S]]
   conv=>lhs;rw[<- zBl k ((Kn st).toList.take n)]
   rw[sD,Jd (le:=lee lt)];intro x L;rw[Mu,zCy S] at L;obtain⟨i,U,i2,rfl⟩:=Jf L;exact T i U
 refine wif (λ c=>Kj<|h _ K rfl ?_) λ c=>?_
 . obtain rfl:k=n:=by simp at c;lia
   rw[O,Nat.sub_self,L7,Mt,zBl]
 have c:k < n:=by simp at c;lia
 rw[show k+(n - k) - 1=n - 1 by lia];refine eB (by lia) (Ki<|wgs G I J (D _ (by lia)) (by lia) D h2 (by lia) λ v v1 v2 v3=>?_);have V:Kw (((Kn st).toList.drop k).take (n - k)) ((Kn st).toList.drop n) (lee lt)=Kw (((Kn st).toList.drop k).take (n - k)) (((Kn st).toList.drop n).take v) (lee lt)++(Kn st).toList.drop (n+v):=by
   conv=>lhs;rw[<- zBl v ((Kn st).toList.drop n)]
   rw[L6,Hg (le:=lee lt)];intro y W x L;obtain⟨i,U,i2,rfl⟩:=qu6 L;rw[<- zAu (l:=(Kn st).toList.drop (n+v)) (zA3 _)] at W;obtain⟨j,_,j2,rfl⟩:=qu6 W;have e1:=h1 (k+i) (n - 1) (by lia) (by lia);have e2:lt (att (Kn st)<|n+(v+j)) (att (Kn st)<|n - 1)=false:=v3 (v+j) (by lia) (by lia);rw[<- Nat.add_assoc] at e2;show (!lt _ _)=true;rw[G.tr _ _ _ e1 e2];rfl
 dsimp only;refine wif (λ c=>Kj<|h _ K rfl ?_) λ d=>?_
 . obtain rfl:v=0:=by simpa using c
   rw[O,V,L7,Mn,Nat.add_zero,<- zAr,<- Mz,show k+(n - k)=n by lia,zBl]
 have d:0 < v:=by simp at d;lia
 have P:((Kn st).extract k n).size=n - k:=by rw[Array.size_extract];lia
 have X:((Kn st).extract n (n+v)).size=v:=by rw[Array.size_extract];lia
 have g:∀ i,i < n - k->att ((Kn st).extract k n) i=att (Kn st) (k+i):=λ i C=>qaw1 (by lia) (by lia)
 have o:∀ i,i < v->att ((Kn st).extract n (n+v)) i=att (Kn st) (n+i):=λ i C=>qaw1 (by lia) (by lia)
 have post:∀(r:Array Ko)(f:Kq),R (Kt st #[(0,n+m,F)]) f ->
     r.toList=Kw ((Kn st).extract k n).toList ((Kn st).extract n (n+v)).toList (lee lt)->wpS (Kb prog w) A E s (do
       modify λ s=>Ks s (Lc (λ(a:Array Ko)(x:Ko×Nat)=>match x with | (z,j)=>a.setIfInBounds (k+j) z) (Kn s) r.toList.zipIdx)
       let t <- get
       pure (Kl t).isNone) Q f:=by
   intro r f M e;have len:r.toList.length=n - k+v:=by rw[e,List.length_merge,zB7,zB7,P,X]
   refine Ki (Km<|gB ?_);show wpS _ _ _ _ (pure (Kl f).isNone) Q _;rw[M.2.2.2];show wpS _ _ _ _ (pure (Kl st).isNone) Q _;rw[K];refine Kj (h _ (M.2.2.2.trans K) M.2.2.1 ?_);show (Lc _ (Kn f) _).toList=_;rw[show Kn f=Kn st from M.2.1];have q:=wr (p:=k) r.toList 0 (Kn st) (by lia);rw[Nat.add_zero,len,show k+(n - k+v)=n+v by lia,e,qd1,qd1,show n+v - n=v by lia,zAr,<- V,<- O] at q;rw[e,qd1,qd1,show n+v - n=v by lia];exact q
 refine wif (λ _=>Ki<|wmlo G I J (λ i C=>?_) (λ i C=>?_) (λ i j a b=>?_) (λ i j a b=>?_) (by lia) (by lia) ?_ (λ i C=>?_) post) λ _=>Ki (wmhi G I J (λ i C=>?_) (λ i C=>?_) (λ i j a b=>?_) (λ i j a b=>?_) (by lia) (by lia) (λ i C=>?_) ?_ post)
 . rw[g i (by lia)];exact D _ (by lia)
 . rw[o i (by lia)];exact D _ (by lia)
 . rw[g i (by lia),g j (by lia)];exact h1 _ _ (by lia) (by lia)
 . rw[o i (by lia),o j (by lia)];exact h2 _ _ (by lia) (by lia)
 . rw[g 0 (by lia),o 0 (by lia)];simpa[B] using N k (zA3 _) c
 . rw[P,g _ (by lia),o i (by lia),show k+(n - k - 1)=n - 1 by lia];exact v2 i (by lia)
 . rw[g i (by lia)];exact D _ (by lia)
 . rw[o i (by lia)];exact D _ (by lia)
 . rw[g i (by lia),g j (by lia)];exact h1 _ _ (by lia) (by lia)
 . rw[o i (by lia),o j (by lia)];exact h2 _ _ (by lia) (by lia)
 . rw[g i (by lia),o 0 (by lia)];simpa[B] using N (k+i) (by lia) (by lia)
 rw[P,X,g _ (by lia),o _ (by lia),show k+(n - k - 1)=n - 1 by lia];exact v2 _ (by lia)
end
section
variable{prog:Kc}{w:Ke}{A:Kd}{E:V'->Sh->Prop}{s:Sh}{kd:SortKind}{lt:Ko->Ko->Bool}{st:Kq}{a0:Array Ko}
theorem qax5(a:Srt lt (λ j=>att xs<|i+j) n)(f:i+n<=xs.size):((xs.toList.drop i).take n).Pairwise λ x y=>lee lt x y=true:=by
 rw[Lp];intro p q b c d;rw[zB0,zCa,zB7] at b c;have e:∀ p (h:p < ((xs.toList.drop i).take n).length),((xs.toList.drop i).take n)[p]=att xs (i+p):=λ p h=>by
   rw[Mh,Mi];rw[zB0,zCa,zB7] at h;simp[att,Array.getD,show i+p < xs.size by lia]
 rw[e,e];show (!lt _ _)=true;rw[a p q (by lia) (by lia)];rfl
def Gw(lt:Ko->Ko->Bool)(a0:Array Ko)(st:Kq):Prop:=(Kn st).toList.Perm a0.toList/\(Kn st).toList.Pairwise (λ x y=>lee lt x y=true)/\Kl st=none
structure One(lt:Ko->Ko->Bool)(kd:SortKind)(a0:Array Ko)(n:Nat)(st:Kq):Prop where
 pm:(Kn st).Perm a0
 k:Kr st=kd
 f:Kl st=none
 p:Kk st = #[(0,n,0)]
 s:Srt lt (att<|Kn st) n
structure Two(lt:Ko->Ko->Bool)(kd:SortKind)(a0:Array Ko)(n m pw:Nat)(st:Kq):Prop where
 pm:(Kn st).Perm a0
 k:Kr st=kd
 f:Kl st=none
 p:Kk st = #[(0,n,pw),(n,m,0)]
 s:Srt lt (att<|Kn st) n
 t:Srt lt (λ i=>att (Kn st)<|n+i) m
theorem One.fin(h:One lt kd a0 n st)(c:n=a0.size):Gw lt a0 st:=by
 refine⟨zBr.mp h.pm,?_,h.f⟩
 have:=qax5 (i:=0) (n:=n) (xs:=Kn st) (λ i j a b=>by dsimp only;rw[zA9,zA9];exact h.s i j a b) (by rw[h.pm.size_eq];lia)
 rwa[Lh,zAu (by rw[zB7,h.pm.size_eq];lia)] at this
theorem wrun(D:Od lt)(J:Cn prog w A s kd a0 lt)(T:Ds lt a0)(O:Kr st=kd)(hf:Kl st=none)(P:Kk st = #[])(L:(Kn st).Perm a0)(G:a0.size=64)(h:∀ l,Gw lt a0 l->Q () l):wpS (Kb prog w) A E s sortRuns' Q st:=by
 rw[sortRuns'_eq];refine gB ?_;dsimp only;rw[L.size_eq.trans G];have hm:minRun' 64 64 0=32:=rfl;rw[hm];refine fB (λ x c l=>(x=0/\c=(none,0)/\l=st)∨(x=1/\∃ n,c=(none,n)/\32<=n/\n<=64/\One lt kd a0 n l)∨(2<=x/\c=(none,64)/\∃ n m B,n+m=64/\0 < n/\0 < m/\Two lt kd a0 n m B l)) (λ c l=>c=(none,64)/\(One lt kd a0 64 l∨∃ n m B,n+m=64/\0 < n/\0 < m/\Two lt kd a0 n m B l)) ?_ ?_ (.inl ⟨rfl,rfl,rfl⟩) ?_
 . rintro F z x c u - hx (⟨rfl,rfl,rfl⟩ | ⟨rfl,n,rfl,I,n2,o⟩ | ⟨x2,rfl,n,m,B,e,I,R,o⟩) K p q<;>subst z
   . dsimp only
     refine wif (λ c=>absurd c (by lia)) λ _=>?_
     have S:Bt a0 0 u u:=⟨rfl,rfl,rfl,L,λ _ _=>rfl⟩
     refine Ki (wcnt D J T O (by lia) (by lia) S λ n r C I n2 M=>?_);have fin:∀ k g,Bt a0 0 u g->32<=k->k<=64->Srt lt (λ i=>att (Kn g)<|0+i) k->One lt kd a0 k (Kt g ((Kk g).push (0,k,0))):=λ k g v _ _ H =>
       ⟨v.pm,v.kd.trans O,v.fl.trans hf,by show (Kk g).push _=_;rw[v.pd,P];rfl,λ i j a b=>by have:=H i j a b;dsimp only at this;rwa[zA9,zA9] at this⟩
     refine wif (λ c=>?_) λ c=>?_
     . refine rB ?_
       refine Ki (wbin D J O (by lia) (by lia) I C M λ g v H=>?_);refine wif (λ c=>by cases c) λ _=>?_
       refine gB ?_;rw[show (Kk g).back? = none by rw[v.pd,P];rfl];exact Ki (Km<|Kj<|q _ _<|.inr<|.inl ⟨rfl,_,rfl,by lia,by lia,fin _ g v (by lia) (by lia) H⟩)
     refine gB ?_;rw[show (Kk r).back? = none by rw[C.pd,P];rfl];exact Ki (Km<|Kj<|q _ _<|.inr<|.inl ⟨rfl,_,rfl,by lia,by lia,by rw[zA9];exact fin _ r C (by lia) (by lia) M⟩)
   . dsimp only
     refine wif (λ c=>?_) λ c=>?_
     . obtain rfl:n=64:=by lia
       exact Kj (p _ _ ⟨rfl,.inl o⟩)
     have S:Bt a0 n u u:=⟨rfl,rfl,rfl,o.pm,λ _ _=>rfl⟩
     refine Ki (wcnt D J T o.k (by lia) (by lia) S λ k r C k1 k2 M=>?_);have U:∀ q g,Bt a0 n u g->q=64 - n->Srt lt (λ i=>att (Kn g)<|n+i) q->∀ B,Two lt kd a0 n q B (Kt (Kt g ((Kk g).modify ((Kk g).size - 1) λ x=>(x.fst,x.2.fst,B))) (((Kk g).modify ((Kk g).size - 1) λ x=>(x.fst,x.2.fst,B)).push (n,q,0))):=λ q g v hq H B =>
       ⟨v.pm,v.kd.trans o.k,v.fl.trans o.f,by show ((Kk g).modify _ _).push _=_;rw[v.pd,o.p];rfl,λ i j a b=>by show lt (att (Kn g) j) (att (Kn g) i)=false;rw[v.pr i (by lia),v.pr j b];exact o.s i j a b,H⟩
     have N:∀ g,Bt a0 n u g->(Kk g).back? = some (0,n,0)/\¬ (Kk g).size > 1:=λ g v=>by rw[v.pd,o.p];exact⟨rfl,zCf 1⟩
     refine wif (λ d=>?_) λ d=>?_
     . refine rB ?_
       refine Ki (wbin D J o.k (by lia) (by lia) k1 C M λ g v H=>?_);refine wif (λ c=>by cases c) λ _=>?_
       refine gB ?_;rw[(N g v).1];refine fB (λ x c l=>l=g/\c=(none,())) (λ c l=>l=g/\c=(none,())) ?_ (λ _ _ h=>h) ⟨rfl,rfl⟩ ?_
       . rintro F z x c y - - ⟨rfl,rfl⟩ K p q
         subst z;refine gB ?_;rw[if_neg (N y v).2];exact Kj (p _ _ ⟨rfl,rfl⟩)
       rintro F z c y ⟨rfl,rfl⟩;subst z;exact Ki (Km<|Ki<|Km<|Kj<|q _ _<|.inr<|.inr ⟨zA3 2,by rw[show n+min (64 - n) 32=64 by lia],n,_,_,by lia,by lia,by lia,U _ y v (by lia) H _⟩)
     refine gB ?_;rw[(N r C).1];refine fB (λ x c l=>l=r/\c=(none,())) (λ c l=>l=r/\c=(none,())) ?_ (λ _ _ h=>h) ⟨rfl,rfl⟩ ?_
     . rintro F z x c y - - ⟨rfl,rfl⟩ K p q
       subst z;refine gB ?_;rw[if_neg (N y C).2];exact Kj (p _ _ ⟨rfl,rfl⟩)
     rintro F z c y ⟨rfl,rfl⟩;subst z;exact Ki (Km<|Ki<|Km<|Kj<|q _ _<|.inr<|.inr ⟨zA3 2,by rw[show n+k=64 by lia],n,_,_,by lia,by lia,by lia,U _ y C (by lia) M _⟩)
   dsimp only;exact wif (λ _=>Kj<|p _ _ ⟨rfl,.inr ⟨n,m,B,e,I,R,o⟩⟩) λ c=>absurd (zA3 _) c
 . rintro c u (⟨V,_⟩ | ⟨V,_⟩ | ⟨x2,rfl,o⟩)
   . lia
   . lia
   exact⟨rfl,.inr o⟩
 rintro F z c u ⟨rfl,o⟩;subst z;refine fB (λ x c l=>c=(none,())/\(x=0/\l=u∨Gw lt a0 l/\(Kk l).size<=1)) (λ c l=>c=(none,())/\Gw lt a0 l) ?_ ?_ ⟨rfl,.inl ⟨rfl,rfl⟩⟩ ?_
 . rintro F t x c r - - ⟨rfl,⟨rfl,rfl⟩ | ⟨f,z⟩⟩ K W q'<;>subst t
   . refine gB ?_
     rcases o with o | ⟨n,m,B,e,I,R,o⟩
     . rw[if_pos (by rw[o.p];exact zA3 1)]
       exact Kj (W _ _ ⟨rfl,o.fin G.symm⟩)
     rw[o.p];refine wif (λ c=>absurd c (by simp)) λ _=>?_
     refine Ki (wmat D J o.k o.f o.p o.pm I R (by lia) o.s o.t λ g f3 p3 X=>?_);refine Kj (q' _ _ ⟨rfl,.inr ⟨⟨?_,?_,f3⟩,by rw[p3];exact zA3 1⟩⟩)
     . rw[X]
       have q:=List.merge_perm_append (le:=lee lt) (xs:=(Kn r).toList.take n) (ys:=(Kn r).toList.drop n);rw[zBl] at q;exact q.trans (zBr.mp o.pm)
     rw[X];have sz:(Kn r).size=64:=o.pm.size_eq.trans G;refine List.pairwise_merge (λ a b c Y Z=>?_) (λ a b=>?_) _ _ ?_ ?_
     . simp only[Bool.not_eq_true',lee] at Y Z ⊢
       exact D.tr _ _ _ Y Z
     . cases q:lt b a with
       | false=>simp[lee,q]
       | true=>simp[lee,q,D.as _ _ q]
     . have:=qax5 (i:=0) (n:=n) (xs:=Kn r) (λ i j a b=>by dsimp only;rw[zA9,zA9];exact o.s i j a b) (by lia)
       rwa[Lh] at this
     have:=qax5 o.t (by lia)
     rwa[zAu (by rw[zCa,zB7];lia)] at this
   refine gB ?_;rw[if_pos z];exact Kj (W _ _ ⟨rfl,f⟩)
 . rintro c r ⟨rfl,⟨V,_⟩ | ⟨f,z⟩⟩
   . lia
   exact⟨rfl,f⟩
 rintro F z c r ⟨rfl,f⟩;subst z;exact Kj (h r f)
end
noncomputable def plt(p q:Int×Int):Bool:=decide (p.1 < q.1∨p.1=q.1/\p.2 < q.2)
def TP(h:Heap)(v:V')(p:Int×Int):Prop:=∃ b t u o n,v=.ref b/\h.get? b=some o/\o.cls=.type "tuple" /\ o.data=.seq #[.int p.1 t,.int p.2 u] n
section
variable{prog:Kc}{w:Ke}{A:Kd}{E:V'->Sh->Prop}{s:Sh}{kd:SortKind}{lt:Ko->Ko->Bool}{X:Kq}{U:Array Ko}
theorem wrunS(D:Od lt)(G:Cn prog w A s kd U lt)(I:Ds lt U)(u:Kr X=kd)(J:Kl X=none)(v:Kk X = #[])(t:(Kn X).Perm U)(h2:2<=U.size)(y:U.size < 64)(h:∀ d,Gw lt U d->Q () d):wpS (Kb prog w) A E s sortRuns' Q X:=by
 rw[sortRuns'_eq];refine gB ?_;obtain⟨f,L⟩:∃ f,U.size=f+1:=⟨U.size - 1,by lia⟩
 have M:minRun' U.size U.size 0=U.size:=by
   conv=>lhs;rw[show minRun' U.size=minRun' (f+1) by rw[L]]
   rw[minRun'_succ,if_pos y];rfl
 dsimp only;rw[t.size_eq,M];refine fB (λ x c d=>(x=0/\c=(none,0)/\d=X)∨(1<=x/\c=(none,U.size)/\One lt kd U U.size d)) (λ c d=>c=(none,U.size)/\One lt kd U U.size d) ?_ ?_ (.inl ⟨rfl,rfl,rfl⟩) ?_
 . rintro F z x c l - R (⟨rfl,rfl,rfl⟩ | ⟨N,rfl,o⟩) K p q<;>subst z
   . dsimp only
     refine wif (λ c=>absurd c (by lia)) λ _=>?_
     have O:Bt U 0 l l:=⟨rfl,rfl,rfl,t,λ _ _=>rfl⟩
     refine Ki (wcnt D G I u (by lia) (by lia) O λ n m B P S H=>?_);have fin:∀ k g,k=U.size->Bt U 0 l g->Srt lt (λ i=>att (Kn g)<|0+i) k->One lt kd U U.size (Kt g ((Kk g).push (0,k,0))):=λ k g e r C =>
       ⟨r.pm,r.kd.trans u,r.fl.trans J,by show (Kk g).push _=_;rw[r.pd,v,e];rfl,λ i j a b=>by have:=C i j a (by lia);dsimp only at this;rwa[zA9,zA9] at this⟩
     refine wif (λ c=>?_) λ c=>?_
     . refine rB ?_
       refine Ki (wbin D G u (by lia) (by lia) P B H λ g r C=>?_);refine wif (λ c=>by cases c) λ _=>?_
       refine gB ?_;rw[show (Kk g).back? = none by rw[r.pd,v];rfl];exact Ki (Km<|Kj<|q _ _<|.inr ⟨by lia,by rw[show 0+min (U.size - 0) U.size=U.size by lia],fin _ g (by lia) r C⟩)
     refine gB ?_;rw[show (Kk m).back? = none by rw[B.pd,v];rfl];exact Ki (Km<|Kj<|q _ _<|.inr ⟨by lia,by rw[show 0+n=U.size by lia],fin _ m (by lia) B H⟩)
   dsimp only;exact wif (λ _=>Kj<|p _ _ ⟨rfl,o⟩) λ c=>absurd (zA3 _) c
 . rintro c l (⟨T,_⟩ | ⟨N,rfl,o⟩)
   . lia
   exact⟨rfl,o⟩
 rintro F z c l ⟨rfl,o⟩;subst z;refine fB (λ x c d=>c=(none,())/\d=l) (λ c d=>c=(none,())/\d=l) ?_ (λ _ _ h=>h) ⟨rfl,rfl⟩ ?_
 . rintro F z x c m - - ⟨rfl,rfl⟩ K p q
   subst z;refine gB ?_;rw[if_pos (by rw[o.p];exact zA3 1)];exact Kj (p _ _ ⟨rfl,rfl⟩)
 rintro F z c m ⟨rfl,rfl⟩;subst z;exact Kj (h m<|o.fin rfl)
theorem cmpP{q:Int×Int}(f:TP s.heap x p)(g:TP s.heap y q)(h:Q (plt p q) s):Ka (Kb prog w) A (keyLt' (tuples' true) x y) Q E s:=by
 obtain⟨b,t,u,o,n,rfl,i,_,j⟩:=f;obtain⟨c,m,v,B,C,rfl,k,_,l⟩:=g;have z:∀ r:Bool,r=plt p q->Q r s:=λ r e=>e ▸ h
 refine W.kat_lt i j k l (W.kat_cons<|wpAny_eqBool_int<|W.kat_go (λ a=>W.kat_yes<|W.kat_cons<|wpAny_eqBool_int<|W.kat_go (λ d=>W.kat_yes<|W.kat_nil<|z _ ?_) λ d=>W.kat_no<|W.kat_one _ _<|lt_int<|z _ ?_) λ a=>W.kat_no<|oneLt_int<|z _ ?_)
 . simp at a d;simp[plt,a,d]
 . simp at a d;simp[plt,a]
 simp at a;simp[plt,a]
theorem TP.keep(t:TP h v p)(k:∀ b o,h.get? b=some o->o.cls=.type "tuple" -> h'.get? b=some o):TP h' v p:=by
 obtain⟨b,t,u,o,n,rfl,c,a,d⟩:=t;exact⟨b,t,u,o,n,rfl,k _ _ c a,a,d⟩
end
def kl(kf:V'->Int×Int)(x y:Ko):Bool:=plt (kf x.1) (kf y.1)
theorem kl_od(kf:V'->Int×Int):Od (kl kf) :=
 ⟨λ x y h=>by simp[kl,plt] at h ⊢;lia,λ x y z a b=>by simp[kl,plt] at a b ⊢;lia⟩
section
variable{prog:Kc}{w:Ke}{A:Kd}{E:V'->Sh->Prop}{s:Sh}
theorem kl_ds(c:(vs.map kf).Nodup):Ds (kl kf) (pairsOf vs):=by
 unfold Ds;rw[pairsOf_toList,show vs.zip vs=vs.map λ v=>(v,v) by induction vs with | nil=>rfl | cons v vs d=>simp at c;rw[Ll,d c.2];rfl,zCp];unfold List.Nodup at c;rw[zCp] at c;refine c.imp λ{a b} h=>?_
 have e:¬ ((kf a).1=(kf b).1/\(kf a).2=(kf b).2):=λ q=>h (Prod.ext q.1 q.2)
 simp only[kl,plt,zBp];lia
theorem qal6(g:s.heap.get? a=some (seqObj "list" vs.toArray n))(C:vs.length<=64)(k:(vs.map kf).Nodup)(D:∀ h',(∀ b o,s.heap.get? b=some o->o.cls=.type "tuple" -> h'.get? b=some o)->2<=vs.length ->
     (∀(Q':SortKind->Sh->Prop),Q' kd { s with heap:=h' }->Ka (Kb prog w) A (keyKind' vs.toArray) Q' E { s with heap:=h' })/\Cm prog w A { s with heap:=h' } kd (λ x=>x.1∈vs) (kl kf))(h:∀ out:List V',out.Perm vs->(out.map kf).Pairwise (λ p q=>plt q p=false)->P (.done<|.ret .none) { s with heap:=sortedHeap s.heap a vs out.toArray }) :
   Ka (Kb prog w) A (Builtin.«list.sort» ⟨[.ref a],[]⟩) P E s:=by
 have F:vs.toArray.size=vs.length:=zA5;have la:a < s.heap.objs.size:=zA7 g;obtain⟨l,m⟩:∃ e,(s.heap.update a<|Obj.mapSeq λ _=>#[]).get? a=some (seqObj "list" #[] e):=⟨_,get?_update_seq g λ _=>#[]⟩
 have r:(((s.heap.update a<|Obj.mapSeq λ _=>#[]).push (seqObj "tuple" vs.toArray 0)).push (seqObj "list" #[] 0)).get? a=some (seqObj "list" #[] l):=zA2 _ (zA2 _ m);have G:∀ b o,s.heap.get? b=some o->o.cls=.type "tuple" -> (((s.heap.update a<|Obj.mapSeq λ _=>#[]).push (seqObj "tuple" vs.toArray 0)).push (seqObj "list" #[] 0)).get? b=some o:=λ b o q H=>by
   have I:b≠a:=λ z=>by rw[z,g] at q;cases q;simp at H
   exact zA2 _ (zA2 _ (by rw[Heap.get?_update_ne _ _ _ _ I];exact q))
 rw[list_sort_plain];refine E' (listItems_at g rfl<|E'<|listUpdate_at g rfl (E'<|seqEpoch_at m rfl<|E'<|wpAny_newTuple (E'<|wpAny_newList (Jq ?_)<|zBh _) (by show vs.length<=_;rw[Ju];lia)) (by rw[F,Ju];lia)<|zBh _);show Ka (Kb prog w) A _ P E { s with heap:=((s.heap.update a<|Obj.mapSeq λ _=>#[]).push (seqObj "tuple" vs.toArray 0)).push (seqObj "list" #[] 0) };have last:∀ d:Kq,(Kn d).toList.Perm (pairsOf vs).toList->(Kn d).toList.Pairwise (λ x y=>lee (kl kf) x y=true)->Kl d=none ->
     P (.done<|.ret .none) { s with heap:=sortedHeap s.heap a vs ((Kn d).map (·.2)) }/\((Kn d).map (·.2)).size<=Jn+1:=λ d i J _=>by
   rw[pairsOf_toList] at i;have u:∀ p∈(Kn d).toList,p.1=p.2:=λ p K=>(mem_zip_self<|i.mem_iff.mp K).1
   have e2:((Kn d).map (·.2))=((Kn d).toList.map (·.2)).toArray:=Array.toList_inj.mp (by rw[Array.toList_map]);have pv:((Kn d).toList.map (·.2)).Perm vs:=by
     have:=i.map Prod.snd
     rwa[List.map_snd_zip (zA3 _)] at this
   rw[e2];refine⟨h _ pv ?_,by rw[zA5,pv.length_eq,Ju];lia⟩;rw[zCr,zCp];refine(List.Pairwise.and_mem.mp J).imp λ{x y} ⟨L,M,q⟩=>?_
   show plt (kf y.2) (kf x.2)=false;rw[<- u x L,<- u y M];simpa[lee,kl] using q
 have tail:∀ d:Kq,Gw (kl kf) (pairsOf vs) d->Ka (Kb prog w) A (do
     let t:=(<- seqEpoch a) != l
     Builtin.List.listUpdate (.ref a) λ _=>(Kn d).map (·.2)
     if let some e:=Kl d then rule "list.sort.comparison-raised";throw e
     if t then rule "list.sort.modified";raiseError "ValueError" "list modified during sort"
     ret .none) P E { s with heap:=((s.heap.update a<|Obj.mapSeq λ _=>#[]).push (seqObj "tuple" vs.toArray 0)).push (seqObj "list" #[] 0) }:=λ d f=>by
   have z:=last d f.1 f.2.1 f.2.2;refine E' (seqEpoch_at r rfl<|E'<|listUpdate_at r rfl ?_ (zBh _) z.2);rw[f.2.2];simp only[bne_self_eq_false,Bool.false_eq_true,if_false];exact G' z.1
 by_cases c:vs.toArray.size < 2
 . rw[if_pos c,if_pos c]
   refine E' (G' ?_);dsimp only;rw[StateT.run_pure];refine E' (G'<|tail (SortSt.mk' general' (vs.toArray.zip vs.toArray) #[] 7 none) ⟨List.Perm.refl _,?_,rfl⟩);show (pairsOf vs).toList.Pairwise _;rw[pairsOf_toList]
   match vs,c with
   | [],_=>exact .nil
   | [v],_=>simp
   | _::_::_,c=>simp at c;lia
 rw[if_neg c,if_neg c];obtain⟨N,O⟩:=D _ G (by lia);refine E' (N _ ?_);have B:Cn prog w A { s with heap:=((s.heap.update a<|Obj.mapSeq λ _=>#[]).push (seqObj "tuple" vs.toArray 0)).push (seqObj "list" #[] 0) } kd (pairsOf vs) (kl kf):=λ x y Q R=>O x y (mem_zip_self (pairsOf_toList vs ▸ Q)).2 (mem_zip_self (pairsOf_toList vs ▸ R)).2
 have j:wpS (Kb prog w) A E { s with heap:=((s.heap.update a<|Obj.mapSeq λ _=>#[]).push (seqObj "tuple" vs.toArray 0)).push (seqObj "list" #[] 0) } sortRuns' (λ _ d=>Gw (kl kf) (pairsOf vs) d) (SortSt.mk' kd (vs.toArray.zip vs.toArray) #[] 7 none):=by
   rcases Nat.lt_or_ge vs.length 64 with q | q
   . exact wrunS (kl_od kf) B (kl_ds k) rfl rfl rfl (Array.Perm.refl _) (by rw[pairsOf_size];lia) (by rw[pairsOf_size];exact q) λ _ f=>f
   exact wrun (kl_od kf) B (kl_ds k) rfl rfl rfl (Array.Perm.refl _) (by rw[pairsOf_size];lia) λ _ f=>f
 refine E' (Jy j ?_ λ _ _ e=>e);rintro⟨⟨⟩,d⟩ S ⟨rfl,f⟩;exact tail d f
theorem sorted6{l:γ}(f:s.heap.IsList l vs.toArray)(a:vs.length<=64)(g:(vs.map kf).Nodup)(i:∀(A:Kd)(E:V'->Sh->Prop) h',(∀ b o,s.heap.get? b=some o->o.cls=.type "tuple" -> h'.get? b=some o)->2<=vs.length ->
     (∀(Q':SortKind->Sh->Prop),Q' kd { s with heap:=h' }->Ka (Kb prog w) A (keyKind' vs.toArray) Q' E { s with heap:=h' })/\Cm prog w A { s with heap:=h' } kd (λ x=>x.1∈vs) (kl kf))(h:∀ out:List V',out.Perm vs->(out.map kf).Pairwise (λ p q=>plt q p=false)->Q (.ref<|s.heap.objs.size+1) { s with heap:=sortedAll s.heap vs out.toArray }) :
   Ka (Kb prog w) A (call (.builtin "sorted") [.ref l]) Q E s:=by
 refine Calls.call_function_entry kind_sorted plain_sorted entry_sorted (args_sorted1 _) ?_;unfold Builtin.«sorted»;refine E' (m:=checkCount "sorted" 1 1 _) (G'<|E'<|collect_list f (E'<|wpAny_newList ?_ (by rw[Ju];lia)) (by rw[Ju];lia));have d:((s.heap.push<|seqObj "list" #[] 0).update s.heap.objs.size (Obj.mapSeq (·++vs.toArray))).objs.size=s.heap.objs.size+1:=by rw[Heap.size_update,size_push']
 have e:(((s.heap.push<|seqObj "list" #[] 0).update s.heap.objs.size (Obj.mapSeq (·++vs.toArray))).push (seqObj "list" vs.toArray 0)).get? (s.heap.objs.size+1)=some (seqObj "list" vs.toArray 0):=by
   rw[<- d];exact zAo _ rfl
 have j:∀ b o,s.heap.get? b=some o->(((s.heap.push<|seqObj "list" #[] 0).update s.heap.objs.size (Obj.mapSeq (·++vs.toArray))).push (seqObj "list" vs.toArray 0)).get? b=some o:=λ b o q =>
   zA2 _ (by rw[Heap.get?_update_ne _ _ _ _ (zAt<|zA7 q)];exact zA2 _ q)
 show Ka _ _ _ _ _ { s with heap:=((s.heap.push<|seqObj "list" #[] 0).update s.heap.objs.size (Obj.mapSeq (·++vs.toArray))).push (seqObj "list" vs.toArray 0) };rw[d];refine E' (Jq<|wpAny_call_entry slot_list_sort ⟨_,e,rfl⟩ entry_list_sort (qal6 e a g (λ h' k c=>i _ _ h' (λ b o q n=>k b o (j _ _ q) n) c) λ out r t=>⟨_,rfl,?_⟩)<|args_list_sort _);exact G' ⟨_,rfl,h out r t⟩
end
end S6
namespace LV
open PySem L2 PyProof.Rows
variable{ps:List (Int×Int)}
abbrev Dk(ps:List (Int×Int)):List (Int×Int):=ps.mergeSort λ p q=>!S6.plt q p
def PrA(H:Hp)(v:V)(p:Int×Int):Prop:=∃ b,v=.ref b/\H b=some (.q [.int p.1,.int p.2])
noncomputable def kfh(h:Heap):V'->Int×Int
 | .ref b=>match h.get? b with
   | some o=>match o.data with
     | .seq xs _=>(numOf<|xs.getD 0 .none,numOf<|xs.getD 1 .none)
     | _=>(0,0)
   | none=>(0,0)
 | _=>(0,0)
theorem qaW1(t:S6.TP h v p):kfh h v=p:=by
 obtain⟨b,t,u,o,n,rfl,a,d,c⟩:=t;simp only[kfh,a,c];rfl
noncomputable def vOf:V'->V
 | .ref b=>.ref b
 | _=>.non
section
variable{X:Cx}{D8:List (γ×Obj)}{σ:List (Option V)}{H:Hp}{s:Sh}
theorem qaJ3(I:Ov X D8 σ H s)(r:Ot vs its)(t:Paired (PrA H) vs ps) :
   its.map (kfh s.heap)=ps/\∀ u∈its,S6.TP s.heap u (kfh s.heap u)/\∃ b,u=.ref b/\H b=some (.q [.int (kfh s.heap u).1,.int (kfh s.heap u).2]):=by
 induction t generalizing its with
 | nil=>cases r;exact⟨rfl,nofun⟩
 | @cons v p vs ps h t f =>
   cases r with
   | @cons _ u _ its ru rt =>
     obtain⟨b,rfl,c⟩:=h;cases ru;obtain⟨w,q,⟨o,g,i,n,j⟩,_⟩:=I.tuple (.inl<|.inl c);have d:S6.TP s.heap (.ref b) p:=by
       obtain⟨x,y,rfl,⟨t1,rfl⟩,t2,rfl⟩:=Ot.two q;exact⟨b,t1,t2,o,n,rfl,g,i,j⟩
     have e:=qaW1 d;obtain⟨k,l⟩:=f rt;refine⟨by rw[zAx,e,k],λ u a=>?_⟩;rcases zAi.mp a with rfl | a
     . rw[e];exact⟨d,b,rfl,c⟩
     exact l u a
theorem qat3{h:Heap}:∀{out:List V'},(∀ u∈out,∃ b,u=.ref b/\H b=some (.q [.int (kfh h u).1,.int (kfh h u).2]))->Ot (out.map vOf) out/\Paired (PrA H) (out.map vOf) (out.map<|kfh h)
 | [],_=>⟨.nil,.nil⟩
 | u::out,k=>by
   obtain⟨b,rfl,c⟩:=k u zAh;have a:=qat3 (out:=out) λ v d=>k v (zA6 _ d)
   exact⟨.cons rfl a.1,.cons ⟨b,rfl,c⟩ a.2⟩
theorem qT0{h:Heap}{kf:V'->Int×Int}:∀{its:List V'},(∀ u∈its,S6.TP h u<|kf u)->∃ fs,W.KatTups h its fs/\fs.length=its.length/\∀ f∈fs,∃ i t,f=M' i t
 | [],_=>⟨[],trivial,rfl,nofun⟩
 | u::its,k=>by
   obtain⟨fs,f1,f2,f3⟩:=qT0 (its:=its) λ v c=>k v (zA6 _ c)
   obtain⟨b,t,w,o,n,rfl,d,e,g⟩:=k u zAh;refine⟨M' _ t::fs,W.KatTups.cons d e g rfl f1,by rw[zAm,f2];rfl,λ f a=>?_⟩;rcases zAi.mp a with rfl | a
   . exact⟨_,_,rfl⟩
   exact f3 f a
theorem qac0(ps:List (Int×Int)):(Dk ps).Pairwise λ p q=>S6.plt q p=false:=by
 refine(List.pairwise_mergeSort (λ a b c d e=>?_) (λ a b=>?_) ps).imp λ{a b} h=>by simpa using h
 . simp[S6.plt] at d e ⊢;lia
 simp[S6.plt];lia
theorem qax7(d:c.Perm ps)(e:c.Pairwise λ p q=>S6.plt q p=false):c=Dk ps:=by
 refine List.Perm.eq_of_pairwise (le:=λ p q=>S6.plt q p=false) (λ a b _ _ f g=>?_) e (qac0 ps) (d.trans (L9 _ _).symm);simp[S6.plt] at f g;exact Prod.ext (by lia) (by lia)
def qaI1(K:Nl):List V->Hp->VK->Prop:=λ xs H Q=>∃ a vs ps,xs=[.ref a]/\SqL K H a vs/\Paired (PrA H) vs ps/\ps.Nodup/\ps.length<=64/\∀ l b,H l=none->Paired (PrA H) b (Dk ps)->Q (.ref l) (upd H l<|.l b)
theorem qaj2:CallR X (.builtin "sorted") (qaI1 X.K):=by
 intro D8 s σ H V Y Q I r h;obtain⟨a,Z,B,rfl,C,t,D,hl,q⟩:=h;obtain⟨u,rfl,F⟩:=B7 r;cases F;obtain⟨f,G,J,hz⟩:=I.list C;obtain⟨j,g⟩:=qaJ3 I G t;have L:f.length<=64:=by have:=congrArg Kx j;rw[zA8] at this;lia
 refine S6.sorted6 (kf:=kfh s.heap) (kd:=tuples' true) J.isList L (by rw[j];exact D) (λ A E h' k c=>⟨λ Q' l=>?_,λ x y M N E Q l=>?_⟩) λ d m O=>?_
 . obtain⟨fs,f1,f2,f3⟩:=qT0 λ u n=>(g u n).1.keep k
   refine W.kat_kind (T:=.type "int") f1 (by lia) (λ v P=>?_) rfl l;obtain⟨i,t,rfl⟩:=f3 v P;exact W.Looks.of_pure rfl
 . exact S6.cmpP ((g _ M).1.keep k) ((g _ N).1.keep k) l
 obtain⟨R,p⟩:=qat3 (H:=H) (h:=s.heap) (out:=d) λ u n=>(g u<|m.mem_iff.mp n).2
 obtain⟨e,S⟩:=sortedAll_at s.heap f d.toArray;have U:d.map (kfh s.heap)=Dk B:=qax7 (j ▸ m.map _) O;rw[U] at p;refine⟨.ref _,_,I.laid (t':=s.toks) (λ b o z=>sortedAll_old z) (Nat.le_succ _)<|show ObjOk X.prog X.w _ _ _ (.l<|d.map vOf) from⟨?_,d,e,R,S⟩,rfl,q _ _ (I.hok.fresh<|Nat.le_succ _) p⟩;rw[zA8,m.length_eq,Ju];lia
noncomputable def Ht:D->Option (Int×Int)
 | .q [.int a,.int b]=>some (a,b)
 | _=>none
noncomputable def prD2(p:Int×Int):D:=.q [.int p.1,.int p.2]
def qav1(x:D):Option D:=match x with
 | .l _ ys=>(ys.mapM Ht).bind λ ps=>gd (ps.Nodup/\ps.length<=64) (.l false ((Dk ps).map prD2))
 | _=>none
theorem qad2:∀{ys:List D}{ps:List (Int×Int)},ys.mapM Ht=some ps->ys=ps.map prD2
 | [],ps,h=>by cases h;rfl
 | y::ys,ps,h=>by
   rw[Mv] at h;obtain⟨p,a,h⟩:=zA1.mp h;obtain⟨c,b,h⟩:=zA1.mp h;cases h;rw[zAx,qad2 b];congr 1;unfold Ht at a;split at a
   . cases a;rfl
   cases a
theorem qaJ4{F:γ->Prop}{H:Hp}:∀{ps:List (Int×Int)}{vs:List V}{A:List γ},On F H vs (ps.map prD2) A->Paired (PrA H) vs ps
 | [],_,_,r=>by cases r;exact .nil
 | p::ps,_,_,r=>by
   cases r with
   | cons h t =>
     cases h with
     | q e r =>
       refine .cons ⟨_,rfl,?_⟩ (qaJ4 t);cases r with
       | cons a t1 =>
         cases a;cases t1 with
         | cons b t2=>cases b;cases t2;exact e
theorem qay9(t:Paired (PrA H) a ps):On F H a (ps.map prD2) []:=by
 induction t with
 | nil=>exact .nil
 | cons h t c =>
   obtain⟨b,rfl,d⟩:=h;exact .cons (A:=[]) (B:=[]) (.q d<|.cons (A:=[]) (B:=[]) (.int _)<|.cons (A:=[]) (B:=[]) (.int _) .nil) c
theorem qaE3{K:Nl}:CS1 true (qaI1 K) qav1:=by
 intro F H v x B d Q r h q;cases x with
 | l z n =>
   obtain⟨c,e,f⟩:=zA1.mp h;obtain⟨⟨g,i⟩,rfl⟩:=qt7 f;cases qad2 e;obtain⟨a,j,A,rfl,k,m,_⟩:=r.lst_inv;exact⟨a,j,c,rfl,.inl<|.inl k,qaJ4 m,g,i,λ l o b t=>q _ _ [l] (qy7 b<|qay9 t) (Same.new b)<|qi1 b⟩
 | _=>cases h
end
end LV
namespace LV
open PySem L2
mutual
def D.plain:D->Bool
 | .q ds=>D.plains ds
 | .l z ds=>!z&&D.plains ds
 | .non=>true | .bl _=>true | .int _=>true | .str _=>true
 | _=>false
def D.plains:List D->Bool
 | []=>true
 | d::r=>d.plain&&D.plains r
end
theorem Ou.plain{F F':γ->Prop}{H:Hp}{v:V}{d:D}{A:List γ}(r:Ou F H v d A):d.plain=true->Ou F' H v d A:=by
 induction r using Ou.rec (motive_2:=λ c a A _=>D.plains a=true->On F' H c a A) with
 | q e r i=>exact λ h=>.q e (i h)
 | l e r i=>exact λ h=>.l e (i h)
 | non=>exact λ _=>.non
 | bl b=>exact λ _=>.bl b
 | int i=>exact λ _=>.int i
 | str x=>exact λ _=>.str x
 | nil=>exact On.nil
 | cons _ _ i j h=>exact On.cons (i (zAf.mp h).1) (j (zAf.mp h).2)
 | _=>nofun
end LV
namespace LV
open PySem L2 PyProof.Rows
section
variable{c:Vc}{X:Cx}{e:Kf}{n o:VT}{s:VSp}
def tOrT(n o:VT):VT:=λ ds Q xe=>n ds Q xe∨o ds Q xe
theorem eAlt(g:VE c X e n)(i:VE c X e o):VE c X e (tOrT n o):=by
 refine⟨λ D8 s l H Q I b=>?_,λ d Q Q' f k j a=>Or.imp (g.m _ _ _ _ _ j a)<|i.m _ _ _ _ _ j a⟩;obtain⟨F,d,A,f,S,a,q⟩:=b;rcases q with q | q
 . exact g.h D8 s l H Q I ⟨F,d,A,f,S,a,q⟩
 exact i.h D8 s l H Q I ⟨F,d,A,f,S,a,q⟩
end
end LV
namespace LV
open PySem L2
def tSlN(i:Nat)(tb:VT):VT:=λ ds Q xe=>(rdN i ds).isSome=true/\tb ds (λ y ds1=>orF y.asI λ h=>orF ((rdN i ds1).bind λ x=>if noT x=true then gSl x none (some h) else none) λ d=>Q d ds1) xe
theorem eslN(i:Nat)(k:VE c X b tb)(t:X.N[i]? = some x:=by rfl)(j:Vis X.env.scope x:=by first | exact Ol rfl | exact Oj (Ol rfl) | exact Oj (Oj rfl))(G:N' x:=by decide)(l:(x == ("__classdict__" : Str))=false:=by decide) :
   VE c X (.Subscript (.Name x p0) (.Slice none (some b) none p2) pos) (tSlN i tb):=by
 refine⟨λ D8 s σ H Q I n=>?_,λ u Q Q' C J K e=>Ni<|k.m _ _ _ _ _ (λ d f=>qa4 λ h=>qa4 λ z=>K z f) e⟩;obtain⟨F,u,A,C,S,x,L,q⟩:=n;refine qP5 qac1 (qo7 t j G l) qad5 (qad4 k.h) D8 s σ H Q I ?_;have D:=qp3 t D8 σ H s I;obtain⟨W,o⟩:=zB8.mp L;obtain⟨v,B0,j,_,_⟩:=S.name D o;refine⟨v,j,F,u,A,C,S,x,k.m _ _ _ _ _ (λ Y f q w H1 F1 T A1 M S1 Z O=>?_) (λ _ _ z=>z) q⟩;have p:Ow F H A F1 H1 A1:=O.count λ b=>by rw[zA0];lia
 obtain⟨h,P,q⟩:=qa7.mp q;obtain⟨d,a,q⟩:=qa7.mp q;obtain⟨y,R,a⟩:=zA1.mp a;obtain⟨v',B,g,U,_⟩:=S1.name D R;rw[j] at g;cases g;by_cases e:noT y=true
 . rw[if_pos e] at a
   refine⟨h,M.asI P,os_sl U a (λ ys z=>by subst z;cases e) λ w H' B' V r E=>?_⟩;exact q w H' F1 B' A1 V (S1.same r) (S1.new E r) (p.trans<|E.stp r)
 rw[if_neg e] at a;cases a
section
variable{c:Vc}{X:Cx}{o:Kf}{ta:VT}{own:Bool}{g:FV}{Y Z:Pos}{qual m:Str}{st:Kh}{f C:γ}{fd:δ}{ps:List Str}{k:Nat}{s:VSp}
def qas0(C:γ)(m:Str)(s:VSp)(ta:VT):VT:=λ ds Q xe=>ta ds (λ d ds1=>d.isM C m=true/\s [d] (λ r ys=>orF (As [.no] ys ds1) λ a=>Q r a) (λ x ys=>orF (As [.no] ys ds1) λ a=>xe x a)) xe
theorem qaP9{pl:Sem Bool}(D:Md X.K C m qual st f fd ps)(u:Cls X.K C)(G:Ea cm X.prog X.w X.K X.mg X.base k f fd ps s)(y:Lands X c.E)(B:Oy cm k X.A)(e:VE c X o ta)(I:eval (.Call (.Attribute o m Z) [] [] Y) X.env=(do
     let ov <- eval o X.env
     standAt Z.atName
     let (f,first) <- holding [ov] (getMethod ov m pl)
     callWith Y f first (backTo Y<|Jm [] X.env) (backToKw Y<|Jx [] X.env)):=by rfl):VE c X (.Call (.Attribute o m Z) [] [] Y) (qas0 C m s ta):=by
 refine⟨PE.mono (qP6 e.h u D.me G.ok B D.b .nil y.passes I) λ W H Q g=>?_,λ n Q Q' p J L r=>e.m _ _ _ _ _ (λ d i=>Ni<|G.m _ _ _ _ _ (λ d M=>qa4 λ z=>L _ _) (λ x M=>qa4 λ z=>r _ _)) r⟩;obtain⟨F,n,A,p,S,x,q⟩:=g;refine⟨F,n,A,p,S,x,e.m _ _ _ _ _ (λ d i ⟨N,q⟩ v H1 F1 T A1 t S1 O P=>?_) (λ _ _ z=>z) q⟩;obtain⟨a,R,U,rfl,j,l⟩:=t.isM N;refine⟨a,R,U,rfl,j,l,?_⟩;refine qW8 (vs:=[.ref a]) (xs:=[d]) (pls:=[.no]) (T:=T++[]) (dvs:=[]) (dv:=[]) qm3 G.m S x (.cons t .nil) (.no .nil) S1 (by rw[zAd];exact O) (by rw[zAd];exact P) (λ d V h=>h) q
theorem qaP7{pl:Sem Bool}(D:Md X.K C m qual st f fd ps)(a:Cls X.K C)(G:Ea cm X.prog X.w X.K X.mg X.base k f fd ps s)(b:Lands X c.E)(d:Oy cm k X.A)(e:VV c X o own g)(h:eval (.Call (.Attribute o m Z) [] [] Y) X.env=(do
     let ov <- eval o X.env
     standAt Z.atName
     let (f,first) <- holding [ov] (getMethod ov m pl)
     callWith Y f first (backTo Y<|Jm [] X.env) (backToKw Y<|Jx [] X.env)):=by rfl):VE c X (.Call (.Attribute o m Z) [] [] Y) (qas0 C m s<|B8 g):=qaP9 D a G b d (qb4 e) h
end
end LV
namespace L2
open PySem PySem.Spec PyProof.Rows
theorem Oy.u64(a:Oy cm k A):A.units+64 < cLine:=a.units
end L2
namespace LV
open PySem L2
abbrev VH:=Exn->VTS
end LV
namespace LV
open PySem L2
section
variable{F:γ->Prop}{H:Hp}
theorem Locs.fz(r:Locs F H x ds A):(∀ b,F b->F' b)->(∀ b∈A,F' b)->Locs F' H x (D.fzs ds) []:=by
 induction r with
 | nil=>exact λ _ _=>.nil
 | no t a=>exact λ h q=>.no (a h q)
 | so h t a=>exact λ m q=>.so (h.fz m λ b c=>q b<|zAa.mpr<|.inl c) (a m λ b c=>q b<|zAa.mpr<|.inr c)
theorem Locs.but(L:Locs F H x ds A)(f:ds[i]? = some d)(g:τ.length=x.length)(k:∀ j,j≠i->τ[j]? = x[j]?):∃ A',Locs F H τ (ds.set i .u) A'/\∀ b,A'.count b<=A.count b:=by
 obtain⟨σ1,o,σ2,l,n,A1,B,A2,rfl,rfl,p,q,rfl,r,w,s⟩:=L.split f;obtain⟨a,t⟩:∃ a,τ[i]? = some a:=⟨_,zAz (by rw[g,zAe,zAm];lia)⟩
 have e:τ=σ1++a::σ2:=by
   apply List.ext_getElem?;intro j;by_cases c:j=i
   . subst c;rw[t,qz4 p]
   rw[k j c];rcases Nat.lt_or_ge j i with h | h
   . rw[zAp (by lia),zAp (by lia)]
   rw[zC9 (by lia),zC9 (by lia)];obtain⟨m,u⟩:∃ m,j - σ1.length=m+1:=⟨j - σ1.length - 1,by lia⟩
   rw[u];rfl
 rw[e,qn3 q];refine⟨A1++([]++A2),r.append<|Locs.cons (o:=a) (d:=.u) (B:=[]) (by cases a with | none=>exact .no | some v=>exact .so (.u v)) s,λ b=>?_⟩;simp only[zA0,zB3];lia
end
end LV
namespace L2
open PySem PySem.Spec PyProof.Rows
variable{Q:V'->Sh->Prop}{i1 i2 l1 l2 tI tO z:γ}{k:Nat}{x y:V'}{xs ys:Array V'}
abbrev qu0(h:Heap)(z tI tO:γ)(a f1:V'):Prop :=
 h.get? z=some { cls:=.type "zip",dict:=none,data:=.fields #[a,f1,.bool false,.ref tI,.ref tO],slots:=#[] }
section
variable{prog:Kc}{w:Ke}{A:Kd}{E:V'->Sh->Prop}{s:Sh}
theorem qS6{Q:Option Obj->Sh->Prop}(b:s.heap.get? a=o)(h:Q o s):Ka (Kb prog w) A (loadIfAlive a) Q E s:=by
 subst b;exact λ Γ p c=>(by simpa[loadIfAlive] using h)
theorem qak0{T:γ}(D:ZipApart z tI tO i1 i2 l1 l2)(b:qu0 s.heap z tI tO (rawInt T) (.bool f1))(r:s.heap.get? T=some o)(h:IsPair s.heap tI (.ref i1) (.ref i2))(h1:s.heap.IsListIter i1 l1 f)(h2:s.heap.IsListIter i2 l2 g)(i:s.heap.IsList l1 xs)(j:s.heap.IsList l2 ys)(t:xs[f]? = some x)(u:ys[g]? = some y)(B:∀ h',qu0 h' z tI tO (rawInt T) (.bool true)->h'.IsListIter i1 l1 (f+1)->h'.IsListIter i2 l2 (g+1)->IsPair h' s.heap.objs.size x y->h'.objs.size=s.heap.objs.size+1 ->
     (∀ c o,c≠z->c≠i1->c≠i2->s.heap.get? c=some o->h'.get? c=some o)->Q (.ref s.heap.objs.size) { s with heap:=h' }) :
   Ka (Kb prog w) A (Builtin.«zip.__next__» ⟨[.ref z],[]⟩) (λ fin s'=>∃ v,fin=.done (.ret v)/\Q v s') E s:=by
 show Ka _ _ (field (.ref z) 2 >>= _) _ _ _;refine E' (wpAny_field b rfl (x:=.bool false) rfl ?_);show Ka _ _ (field (.ref z) 3 >>= _) _ _ _;refine E' (wpAny_field b rfl (x:=.ref tI) rfl ?_);refine E' (wpAny_seqItems h rfl ?_);show Ka _ _ (Builtin.SmallTypes.ownedTupleIsFree (.ref z) >>= _) _ _ _;refine E' ?_;unfold Builtin.SmallTypes.ownedTupleIsFree;refine E' (wpAny_field b rfl (x:=rawInt T) rfl ?_);show Ka _ _ (loadIfAlive T >>= _) _ _ _;refine E' (W.kdx_alive r ?_);rw[if_neg (by simp)];refine E' (wpAny_field b rfl (x:=.bool f1) rfl ?_);have k:∀ K:Bool->Sh->Prop,(∀ h₁:Heap,qu0 h₁ z tI tO (rawInt T) (.bool true)->h₁.objs.size=s.heap.objs.size->(∀ c o,c≠z->s.heap.get? c=some o->h₁.get? c=some o)->K false { s with heap:=h₁ }) ->
     Ka (Kb prog w) A (if (M9 f1 != M9 true)=true then (setField (.ref z) 1 (.bool true) >>= λ _=>pure false) else pure false) K E s:=λ K p=>by
   cases f1 with
   | true=>rw[if_neg (by simp)];exact G' (p s.heap b rfl λ _ _ _ e=>e)
   | false =>
     rw[if_pos (by simp)];exact E' (wpAny_setField_rec b (by simp) λ h₁ hz₁ hs₁=>G'<|p h₁ hz₁ hs₁.1 λ c o C e=>hs₁.extBut c o C e)
 refine k _ λ h₁ hz₁ l d=>?_
 simp only[Bool.false_eq_true,if_false,Mc,K7,Li];refine E' (E'<|E'<|Jq ?_);show Ka _ _ (Builtin.SmallTypes.nextOf (.ref i1) >>= _) _ _ _;refine E' (wpAny_nextOf_list_item (h1.at λ o e=>d _ o D.i1z e) (i.at λ o e=>d _ o D.l1z e) t λ h₂ h1₂ hs₂=>G' ?_);refine G' (E'<|E'<|Jq ?_);show Ka _ _ (Builtin.SmallTypes.nextOf (.ref i2) >>= _) _ _ _;refine E' (wpAny_nextOf_list_item (((h2.at λ o e=>d _ o D.i2z e).extBut hs₂.extBut D.i12.symm)) ((j.at λ o e=>d _ o D.l2z e).extBut hs₂.extBut D.l2i1) u λ h₃ h2₃ hs₃=>G' ?_);refine G' (G' ?_);show Ka _ _ (newTuple [x,y] >>= _) _ _ { s with heap:=h₃ };refine E' (wpAny_newTuple<|G' ⟨_,rfl,?_⟩);have a:h₃.objs.size=s.heap.objs.size:=by rw[hs₃.1,hs₂.1];exact l
 have q:∀ c o,c≠i1->c≠i2->h₁.get? c=some o->(h₃.push { cls:=.type "tuple",data:=.seq #[x,y] }).get? c=some o:=λ c o m n e=>zA2 _ (hs₃.extBut _ _ n<|hs₂.extBut _ _ m e)
 have:=B (h₃.push { cls:=.type "tuple",data:=.seq #[x,y] }) (q _ _ D.i1z.symm D.i2z.symm hz₁) ((h1₂.extBut hs₃.extBut D.i12).at λ o e=>zA2 _ e) (h2₃.at λ o e=>zA2 _ e) (by rw[<- a];exact zAo _ rfl) (by rw[zCg,a]) λ c o F m n e=>q c o m n (d c o F e)
 rw[<- a] at this;exact this
theorem qak1{T:γ}(D:ZipApart z tI tO i1 i2 l1 l2)(i:qu0 s.heap z tI tO (rawInt T) f1)(X:s.heap.get? T=none)(u:IsPair s.heap tI (.ref i1) (.ref i2))(B:IsPair s.heap tO a b)(h1:s.heap.IsListIter i1 l1 n)(h2:s.heap.IsListIter i2 l2 p)(C:s.heap.IsList l1 xs)(F:s.heap.IsList l2 ys)(Y:xs[n]? = some x)(Z:ys[p]? = some y)(hQ:∀ h',qu0 h' z tI tO (rawInt s.heap.objs.size) (.bool false)->IsPair h' tO x y->h'.IsListIter i1 l1 (n+1)->h'.IsListIter i2 l2 (p+1)->IsPair h' s.heap.objs.size x y->h'.objs.size=s.heap.objs.size+1 ->
     (∀ c o,c≠z->c≠tO->c≠i1->c≠i2->s.heap.get? c=some o->h'.get? c=some o)->Q (.ref s.heap.objs.size) { s with heap:=h' }) :
   Ka (Kb prog w) A (Builtin.«zip.__next__» ⟨[.ref z],[]⟩) (λ fin s'=>∃ v,fin=.done (.ret v)/\Q v s') E s:=by
 show Ka _ _ (field (.ref z) 2 >>= _) _ _ _;refine E' (wpAny_field i rfl (x:=.bool false) rfl ?_);show Ka _ _ (field (.ref z) 3 >>= _) _ _ _;refine E' (wpAny_field i rfl (x:=.ref tI) rfl<|E'<|wpAny_seqItems u rfl ?_);show Ka _ _ (Builtin.SmallTypes.ownedTupleIsFree (.ref z) >>= _) _ _ _;refine E' ?_;unfold Builtin.SmallTypes.ownedTupleIsFree;refine E' (wpAny_field i rfl (x:=rawInt T) rfl ?_);show Ka _ _ (loadIfAlive T >>= _) _ _ _;refine E' (qS6 (o:=none) X ?_);rw[if_pos (show (none:Option Obj).isNone=true from rfl)];refine G' ?_;simp only[if_true];refine E' (Jz<|E'<|wpAny_field i rfl (x:=.ref tO) rfl<|E'<|wpAny_setField_rec i (by simp) λ ha G sa=>?_)
 replace G:qu0 ha z tI tO .ellipsis f1:=G
 refine E' ?_;simp only[Ls,Mq,K7,Li];refine E' (E'<|wpAny_onRaise ?_);show Ka _ _ (Builtin.SmallTypes.nextOf (.ref i1) >>= _) _ _ _;refine E' (wpAny_nextOf_list_item (h1.extBut sa.extBut D.i1z) (C.extBut sa.extBut D.l1z) Y λ hb jb g=>G' ?_);have P:IsPair hb tO a b:=g.extBut _ _ D.TOi1 (sa.extBut _ _ D.TOz B);refine E' (wpAny_seqItems P rfl<|E'<|wpAny_updateSeq_pair P λ hc H h=>E'<|wpAny_letGo<|G' ?_)
 replace H:IsPair hc tO x b:=H
 refine E' (E'<|wpAny_onRaise ?_);show Ka _ _ (Builtin.SmallTypes.nextOf (.ref i2) >>= _) _ _ _;refine E' (wpAny_nextOf_list_item (((h2.extBut sa.extBut D.i2z).extBut g.extBut D.i12.symm).extBut h.extBut D.TOi2.symm) (((F.extBut sa.extBut D.l2z).extBut g.extBut D.l2i1).extBut h.extBut D.l2TO) Z λ hd jd j=>G' ?_);have R:IsPair hd tO x b:=j.extBut _ _ D.TOi2 H;refine E' (wpAny_seqItems R rfl<|E'<|wpAny_updateSeq_pair R λ d te k=>E'<|wpAny_letGo<|G'<|G' ?_)
 replace te:IsPair d tO x y:=te
 refine E' (wpAny_seqItems te rfl<|E'<|wpAny_newTuple ?_);have S:d.objs.size=s.heap.objs.size:=by rw[k.1,j.1,h.1,g.1,sa.1]
 have ke:∀ c o,c≠z->c≠tO->c≠i1->c≠i2->s.heap.get? c=some o->d.get? c=some o:=λ c o f q I J e=>k.extBut _ _ q (j.extBut _ _ J<|h.extBut _ _ q<|g.extBut _ _ I<|sa.extBut _ _ f e)
 have U:qu0 d z tI tO .ellipsis f1:=k.extBut _ _ D.TOz.symm (j.extBut _ _ D.i2z.symm<|h.extBut _ _ D.TOz.symm<|g.extBut _ _ D.i1z.symm G);have V:z < d.objs.size:=zA7 U;have K:d.IsListIter i1 l1 (n+1):=((jb.extBut h.extBut D.TOi1.symm).extBut j.extBut D.i12).extBut k.extBut D.TOi1.symm;have L:d.IsListIter i2 l2 (p+1):=jd.extBut k.extBut D.TOi2.symm;show Ka _ _ (Builtin.SmallTypes.ownedTupleHandOut (.ref z) (.ref d.objs.size) >>= _) _ _ _;refine E' ?_;unfold Builtin.SmallTypes.ownedTupleHandOut;have zf:qu0 (d.push { cls:=.type "tuple",data:=.seq #[x,y] }) z tI tO .ellipsis f1:=zA2 _ U;refine E' (wpAny_setField_rec zf (by simp) λ hg M N=>?_)
 replace M:qu0 hg z tI tO (rawInt d.objs.size) f1:=M
 refine wpAny_setField_rec M (by simp) λ l r O=>G' ⟨_,rfl,?_⟩
 replace r:qu0 l z tI tO (rawInt d.objs.size) (.bool false):=r
 have t:∀ c o,c≠z->d.get? c=some o->l.get? c=some o:=λ c o f e=>O.extBut _ _ f (N.extBut _ _ f<|zA2 _ e)
 have W:IsPair l d.objs.size x y:=O.extBut _ _ (zCs V) (N.extBut _ _ (zCs V)<|zAo _ rfl);have m:l.objs.size=d.objs.size+1:=by rw[O.1,N.1,zCg]
 rw[S] at r W m;show Q (.ref d.objs.size) _;rw[S];exact hQ l r (t _ _ D.TOz te) (K.at λ o e=>t _ o D.i1z e) (L.at λ o e=>t _ o D.i2z e) W m λ c o f q I J e=>t c o f (ke c o f q I J e)
def ZSt(z tI tO i1 i2 l1 l2:γ)(k:Nat)(h:Heap):Prop:=(∃ c f1,qu0 h z tI tO c (.bool f1)/\(c=.none/\f1=false∨∃ T:Nat,c=rawInt T))/\IsPair h tI (.ref i1) (.ref i2)/\(∃ a b,IsPair h tO a b)/\h.IsListIter i1 l1 k/\h.IsListIter i2 l2 k
theorem ZSt.at_(st:ZSt z tI tO i1 i2 l1 l2 k h)(d:∀ c∈[z,tI,tO,i1,i2],∀ o,h.get? c=some o->h'.get? c=some o):ZSt z tI tO i1 i2 l1 l2 k h':=by
 obtain⟨⟨i,f1,j,l⟩,f,⟨a,b,g⟩,m,n⟩:=st;exact⟨⟨i,f1,d z (by simp) _ j,l⟩,d tI (by simp) _ f,⟨a,b,d tO (by simp) _ g⟩,m.at λ o e=>d i1 (by simp) o e,n.at λ o e=>d i2 (by simp) o e⟩
theorem ZSt.typ(st:ZSt z tI tO i1 i2 l1 l2 k s.heap):s.TypeIs (.ref z) "zip" := by
 obtain⟨⟨b,f1,a,_⟩,_⟩:=st;exact⟨_,a,rfl⟩
theorem qae7(D:ZipApart z tI tO i1 i2 l1 l2)(st:ZSt z tI tO i1 i2 l1 l2 k s.heap)(f:s.heap.IsList l1 xs)(g:s.heap.IsList l2 ys)(p:xs[k]? = some x)(q:ys[k]? = some y)(r:∀ h',ZSt z tI tO i1 i2 l1 l2 (k+1) h'->IsPair h' s.heap.objs.size x y->h'.objs.size=s.heap.objs.size+1 ->
     (∀ c o,c≠z->c≠tO->c≠i1->c≠i2->s.heap.get? c=some o->h'.get? c=some o)->Q (.ref s.heap.objs.size) { s with heap:=h' }) :
   Ka (Kb prog w) A (Builtin.SmallTypes.nextOf<|.ref z) Q E s:=by
 unfold Builtin.SmallTypes.nextOf;refine E' (wpAny_callSpecial?_slot (name:=Str.ofString "__next__") st.typ Nr<|wpAny_call_entry Nr st.typ N5 ?_<|N3 _);obtain⟨⟨K,f1,t,G⟩,d,⟨a,b,h⟩,u,v⟩:=st;rcases G with⟨rfl,rfl⟩ | ⟨T,rfl⟩
 . exact zip_next_item D t d h u v f g p q λ h' i B j l m n e=>G' (r h' ⟨⟨_,_,i,.inr ⟨_,rfl⟩⟩,e _ _ D.TIz D.TITO D.TIi1 D.TIi2 d,⟨_,_,B⟩,j,l⟩ m n e)
 cases C:s.heap.get? T with
 | none=>exact qak1 D t C d h u v f g p q λ h' i B j l m n e=>G' (r h' ⟨⟨_,_,i,.inr ⟨_,rfl⟩⟩,e _ _ D.TIz D.TITO D.TIi1 D.TIi2 d,⟨_,_,B⟩,j,l⟩ m n e)
 | some o=>exact qak0 D t C d u v f g p q λ h' i j l m n e=>G' (r h' ⟨⟨_,_,i,.inr ⟨_,rfl⟩⟩,e _ _ D.TIz D.TIi1 D.TIi2 d,⟨_,_,e _ _ D.TOz D.TOi1 D.TOi2 h⟩,j,l⟩ m n λ c o H _ I J=>e c o H I J)
theorem qF1(l:A.handled=none)(D:ZipApart z tI tO i1 i2 l1 l2)(st:ZSt z tI tO i1 i2 l1 l2 k s.heap)(f:s.heap.IsList l1 xs)(m:s.heap.IsList l2 ys)(n:xs[k]? = none)(p:∀ h' e,(∀ c o,c≠z->c≠tO->c≠i1->c≠i2->s.heap.get? c=some o->h'.get? c=some o)->(∃ o,h'.get? e=some o/\o.cls=.type "StopIteration")->E (.ref e) { s with heap:=h' }) :
   Ka (Kb prog w) A (Builtin.SmallTypes.nextOf<|.ref z) Q E s:=by
 unfold Builtin.SmallTypes.nextOf;refine E' (wpAny_callSpecial?_slot (name:=Str.ofString "__next__") st.typ Nr<|wpAny_call_entry Nr st.typ N5 ?_<|N3 _);obtain⟨⟨W,f1,d,O⟩,h,⟨a,b,r⟩,t,P⟩:=st;rcases O with⟨rfl,rfl⟩ | ⟨T,rfl⟩
 . exact zip_next_end l D d h r t P f m (.inl n) p
 show Ka _ _ (field (.ref z) 2 >>= _) _ _ _;refine E' (wpAny_field d rfl (x:=.bool false) rfl ?_);show Ka _ _ (field (.ref z) 3 >>= _) _ _ _;refine E' (wpAny_field d rfl (x:=.ref tI) rfl<|E'<|wpAny_seqItems h rfl ?_);show Ka _ _ (Builtin.SmallTypes.ownedTupleIsFree (.ref z) >>= _) _ _ _;refine E' ?_;unfold Builtin.SmallTypes.ownedTupleIsFree;refine E' (wpAny_field d rfl (x:=rawInt T) rfl ?_);show Ka _ _ (loadIfAlive T >>= _) _ _ _;cases I:s.heap.get? T with
 | some o =>
   refine E' (qS6 I ?_);rw[if_neg (by simp)];refine E' (wpAny_field d rfl (x:=.bool f1) rfl ?_);have u:∀(B:Kd)(K:Bool->Sh->Prop)(F:V'->Sh->Prop),(∀ h₁:Heap,(∀ c o,c≠z->s.heap.get? c=some o->h₁.get? c=some o)->K false { s with heap:=h₁ }) ->
       Ka (Kb prog w) B (if (M9 f1 != M9 true)=true then (setField (.ref z) 1 (.bool true) >>= λ _=>pure false) else pure false) K F s:=λ B K F J=>by
     cases f1 with
     | true=>rw[if_neg (by simp)];exact G' (J s.heap λ _ _ _ e=>e)
     | false =>
       rw[if_pos (by simp)];exact E' (wpAny_setField_rec d (by simp) λ h₁ hz₁ hs₁=>G'<|J h₁ λ c o v e=>hs₁.extBut c o v e)
   refine u _ _ _ λ h₁ y=>?_
   simp only[Bool.false_eq_true,if_false,Mc,K7,Li];refine E' (E'<|E'<|Jq ?_);show Ka _ _ (Builtin.SmallTypes.nextOf (.ref i1) >>= _) _ _ _;exact E' (wpAny_nextOf_list_end l (t.at λ o e=>y _ o D.i1z e) (f.at λ o e=>y _ o D.l1z e) n λ h₂ e hs₂ C=>p h₂ e (λ c o j _ G _ q=>hs₂ _ _ G<|y c o j q) C)
 | none =>
   refine E' (qS6 I ?_);rw[if_pos (show (none:Option Obj).isNone=true from rfl)];refine G' ?_;simp only[if_true];refine E' (Jz<|E'<|wpAny_field d rfl (x:=.ref tO) rfl<|E'<|wpAny_setField_rec d (by simp) λ R H sa=>?_)
   replace H:qu0 R z tI tO .ellipsis (.bool f1):=H
   refine E' ?_;simp only[Ls,Mq,K7,Li];refine E' (E'<|wpAny_onRaise ?_);show Ka _ _ (Builtin.SmallTypes.nextOf (.ref i1) >>= _) _ _ _;refine E' (wpAny_nextOf_list_end l (t.extBut sa.extBut D.i1z) (f.extBut sa.extBut D.l1z) n λ S e L C=>?_);obtain⟨U,g,i⟩:=C;have M:qu0 S z tI tO .ellipsis (.bool f1):=L _ _ D.i1z.symm H;have V:e≠z:=λ q=>by subst q;rw[M] at g;cases g;simp at i
   exact wpAny_setField_rec M (by simp) λ v _ N=>p v e (λ c o j _ G _ q=>N.extBut _ _ j<|L _ _ G<|sa.extBut _ _ j q) ⟨U,N.extBut _ _ V g,i⟩
theorem qaD9{i:Nat}{Q:Option V'->Sh->Prop}(D:ZipApart z tI tO i1 i2 l1 l2)(g:IsEnum s.heap e z i old)(st:ZSt z tI tO i1 i2 l1 l2 i s.heap)(l:e∉[z,tI,tO,i1,i2])(m:s.heap.IsList l1 xs)(n:s.heap.IsList l2 ys)(T:xs[i]? = some x)(U:ys[i]? = some y)(V:∀ h',IsEnumOut h' e z ((i:Int)+1) (.ref s.heap.objs.size) (s.heap.objs.size+1)->ZSt z tI tO i1 i2 l1 l2 (i+1) h'->IsPair h' s.heap.objs.size x y->IsPair h' (s.heap.objs.size+1) (.int i s.toks) (.ref s.heap.objs.size) ->
     h'.objs.size=s.heap.objs.size+2->(∀ c o,c≠e->c≠z->c≠tO->c≠i1->c≠i2->s.heap.get? c=some o->h'.get? c=some o)->Q (some<|.ref<|s.heap.objs.size+1) { s with heap:=h',toks:=s.toks+1 }) :
   Ka (Kb prog w) A (pyNext<|.ref e) Q E s:=by
 have I:s.TypeIs (.ref e) "enumerate" := ⟨_,g,rfl⟩
 have h:e≠z/\e≠tI/\e≠tO/\e≠i1/\e≠i2:=by simpa using l
 unfold pyNext;refine E' (wpAny_attempt<|wpAny_callSpecial?_slot (name:=Str.ofString "__next__") I Nq<|wpAny_call_entry Nq I Nx ?_<|Nv _);show Ka _ _ (field (.ref e) 2 >>= _) _ _ _;refine E' (wpAny_field g rfl (x:=.ref z) rfl<|E'<|qae7 D st m n T U λ d W X sa J=>?_);have p:IsEnum d e z i old:=J _ _ h.1 h.2.2.1 h.2.2.2.1 h.2.2.2.2 g;show Ka _ _ (field (.ref e) 3 >>= _) _ _ { s with heap:=d };refine E' (wpAny_field p rfl (x:=rawInt i) rfl ?_);show Ka _ _ (field (.ref e) 4 >>= _) _ _ { s with heap:=d };refine E' (wpAny_field p rfl (x:=.none) rfl ?_);show Ka _ _ (mkInt i >>= _) _ _ { s with heap:=d };refine E' (wpAny_mkInt ?_);show Ka _ _ (setField (.ref e) 3 (rawInt ((i:Int)+1)) >>= _) _ _ { s with heap:=d,toks:=s.toks+1 };refine E' (wpAny_setField_rec p (by simp) λ K r L=>?_)
 replace r:IsEnum K e z ((i:Int)+1) old:=r
 show Ka _ _ (setField (.ref e) 4 .none >>= _) _ _ { s with heap:=K,toks:=s.toks+1 };refine E' (wpAny_setField_rec r (by simp) λ b ec M=>?_)
 replace ec:IsEnum b e z ((i:Int)+1) old:=ec
 show Ka _ _ (newTuple [.int i s.toks,.ref s.heap.objs.size] >>= _) _ _ { s with heap:=b,toks:=s.toks+1 };refine E' (wpAny_newTuple ?_);have t:b.objs.size=s.heap.objs.size+1:=by rw[M.1,L.1];exact sa
 have Y:∀ c o,c≠e->d.get? c=some o->b.get? c=some o:=λ c o a q=>M.extBut _ _ a (L.extBut _ _ a q)
 have el:e < b.objs.size:=zA7 ec;generalize j:b.push { cls:=.type "tuple",data:=.seq #[.int i s.toks,.ref s.heap.objs.size] }=f;have Z:f.objs.size=s.heap.objs.size+2:=by rw[<- j,zCg,t]
 have td:IsPair f (s.heap.objs.size+1) (.int i s.toks) (.ref s.heap.objs.size):=by rw[<- j,<- t];exact zAo _ rfl
 have u:∀ c o,c≠e->d.get? c=some o->f.get? c=some o:=λ c o a q=>by rw[<- j];exact zA2 _ (Y c o a q)
 have v:IsEnum f e z ((i:Int)+1) old:=by rw[<- j];exact zA2 _ ec
 show Ka _ _ (Builtin.SmallTypes.ownedTupleIsFree (.ref e) >>= _) _ _ { s with heap:=f,toks:=s.toks+1 };rw[t];refine E' ?_;unfold Builtin.SmallTypes.ownedTupleIsFree;refine E' (wpAny_field v rfl (x:=.none) rfl<|G' ?_);simp only[if_true];refine E' (Jz<|E'<|wpAny_field v rfl (x:=old) rfl<|E'<|wpAny_setField_rec v (by simp) λ N B O=>?_)
 replace B:IsEnum N e z ((i:Int)+1) (.ref s.heap.objs.size):=B
 show Ka _ _ (Builtin.SmallTypes.ownedTupleHandOut (.ref e) (.ref<|s.heap.objs.size+1) >>= _) _ _ { s with heap:=N,toks:=s.toks+1 };refine E' ?_;unfold Builtin.SmallTypes.ownedTupleHandOut;refine E' (wpAny_setField_rec B (by simp) λ hg C P=>?_)
 replace C:IsEnumOut hg e z ((i:Int)+1) (.ref s.heap.objs.size) (s.heap.objs.size+1:Nat):=C
 refine wpAny_setField_rec C (by simp) λ G H R=>?_
 replace H:IsEnumOut G e z ((i:Int)+1) (.ref s.heap.objs.size) (s.heap.objs.size+1:Nat):=H
 have k:∀ c o,c≠e->f.get? c=some o->G.get? c=some o:=λ c o a q=>R.extBut _ _ a (P.extBut _ _ a<|O.extBut _ _ a q)
 have S:s.heap.objs.size≠e:=zCs (zA7 g);have e1:s.heap.objs.size+1≠e:=zCs (Nat.lt_succ_of_lt<|zA7 g);refine E' (wpAny_letGo<|G' ⟨_,rfl,G'<|V G H (W.at_ λ c b o q=>k c o (λ z=>l (z ▸ b))<|u c o (λ z=>l (z ▸ b)) q) (k _ _ S<|u _ _ S X) (k _ _ e1 td) (by rw[R.1,P.1,O.1,Z]) λ c o a c1 c2 c3 c4 q=>k c o a<|u c o a<|J c o c1 c2 c3 c4 q⟩)
end
end L2
namespace PySem
open Spec PyProof.Rows
theorem qp2(z tI tO:γ) :
   Meets (Builtin.«enumerate.__new__» ⟨[.type "enumerate",.ref z],[]⟩) (λ _ R s=>IsZip s.heap z tI tO .none /\
     R (.ok<|.ret<|.ref s.heap.objs.size) { s with heap:=s.heap.push { cls:=.type "enumerate",data:=.fields #[.none,.bool false,.ref z,rawInt 0,.none,.none] } }) :=
 .of_wp λ prog w A R s h=>by
   obtain⟨e,g,d,f,i⟩:=s;obtain⟨a,h⟩:=h;have b:=sub_enumerate
   wp_walk using wpAny_loadPart' a
   refine wpAny_stack_any λ j=>G' ?_
   split
   . rename_i c _ _ _ _ _
     cases (c == Nd "enumerate")
     . wp_walk using wpAny_loadPart' a,wpAny_pyIter_zip a
       exact⟨_,rfl,h⟩
     wp_walk using wpAny_loadPart' a,wpAny_pyIter_zip a
     exact⟨_,rfl,h⟩
   wp_walk using wpAny_loadPart' a,wpAny_pyIter_zip a
   exact⟨_,rfl,h⟩
end PySem
namespace L2
open PySem PySem.Spec PyProof.Rows
variable{tI tO z:γ}
section
variable{prog:Kc}{w:Ke}{A:Kd}{E:V'->Sh->Prop}{s:Sh}
theorem qt9(d:IsZip s.heap z tI tO .none)(h:∀ h',IsEnum h' s.heap.objs.size z 0 .none->h'.objs.size=s.heap.objs.size+1->(∀ b o,s.heap.get? b=some o->h'.get? b=some o)->Q (.ref s.heap.objs.size) { s with heap:=h' }) :
   Ka (Kb prog w) A (call (.type "enumerate") [.ref z]) Q E s:=by
 refine callType_new F.called_enumerate (by decide) (F.typeCall_enumerate_1 _) (F.newCall_enumerate_1 _) (λ a=>F.args_object_init_2 a _) F.entry_enumerate_new (qp2 z tI tO) ⟨d,?_⟩;have c:IsEnum (s.heap.push { cls:=.type "enumerate",data:=.fields #[.none,.bool false,.ref z,rawInt 0,.none,.none] }) s.heap.objs.size z 0 .none:=zAo _ rfl;exact⟨⟨_,c,rfl⟩,h _ c (zCg ..) λ b o x=>zA2 _ x⟩
theorem qaP4{i:Nat}(k:A.handled=none)(D:ZipApart z tI tO i1 i2 l1 l2)(h:IsEnum s.heap e z i old)(st:ZSt z tI tO i1 i2 l1 l2 i s.heap)(a:s.heap.IsList l1 xs)(d:s.heap.IsList l2 ys)(l:xs[i]? = none)(m:∀ h',(∀ c o,c≠z->c≠tO->c≠i1->c≠i2->s.heap.get? c=some o->h'.get? c=some o)->Q none { s with heap:=h' }):Ka (Kb prog w) A (pyNext<|.ref e) Q E s:=by
 have j:s.TypeIs (.ref e) "enumerate" := ⟨_,h,rfl⟩
 unfold pyNext;refine E' (wpAny_attempt<|wpAny_callSpecial?_slot (name:=Str.ofString "__next__") j Nq<|wpAny_call_entry Nq j Nx ?_<|Nv _);show Ka _ _ (field (.ref e) 2 >>= _) _ _ _;refine E' (wpAny_field h rfl (x:=.ref z) rfl ?_);refine E' (qF1 k D st a d l λ h' x f g=>?_);obtain⟨o,n,p⟩:=g;refine E' (wpAny_isInstance (T := "StopIteration") (b:=true) ⟨o,n,p⟩ isSubtype_stop ?_);exact G' (m _ f)
end
def Itz(K:Nl)(a b:γ):It :=
 ⟨λ i H=>∃ xs ys x y,SqL K H a xs/\SqL K H b ys/\xs[i]? = some x/\ys[i]? = some y,
  λ i H v H'=>∃ t p x y,v=.ref t/\H p=none/\upd H p (.q [x,y]) t=none/\H'=upd (upd H p<|.q [x,y]) t (.q [.int (i:Int),.ref p])/\(∀ xs,SqL K H a xs->xs[i]? = some x)/\(∀ ys,SqL K H b ys->ys[i]? = some y),
  λ i H=>∃ xs ys,SqL K H a xs/\SqL K H b ys/\xs.length<=i⟩
theorem qaa7{P:Kc}{w:Ke}{K:Nl}{elts:List Kf}{x1:Nat}{pos:Pos}{a b i1 i2 e:γ}(D:ZipApart z tI tO i1 i2 a b)(hn:e∉[z,tI,tO,i1,i2]) :
   Gk P w K (.Tuple elts x1 pos) (Itz K a b) [e,z,tI,tO,i1,i2] e (λ i h=>(∃ old,IsEnum h e z (i:Nat) old)/\ZSt z tI tO i1 i2 a b i h) where
 mem:=by simp
 obj:=λ i h j c d=>by
   obtain⟨⟨old,m⟩,⟨f0,f1,g,_⟩,t,⟨x,y,A⟩,⟨o1,F,_,d1⟩,⟨o2,B,_,d2⟩⟩:=j;simp only[zAi,zBd,zD2] at d;rcases d with rfl | rfl | rfl | rfl | rfl | rfl
   . exact⟨_,m,λ v z=>by have C:Data.fields _=Data.cell v:=z;cases C⟩
   . exact⟨_,g,λ v z=>by have C:Data.fields _=Data.cell v:=z;cases C⟩
   . exact⟨_,t,λ v z=>by have C:Data.seq _ _=Data.cell v:=z;cases C⟩
   . exact⟨_,A,λ v z=>by have C:Data.seq _ _=Data.cell v:=z;cases C⟩
   . exact⟨o1,F,λ v z=>by rw[d1] at z;cases z⟩
   exact⟨o2,B,λ v z=>by rw[d2] at z;cases z⟩
 keep:=λ i h h' j k=>by
   obtain⟨⟨old,m⟩,j⟩:=j;exact⟨⟨old,k e (by simp) _ m⟩,j.at_ λ c d o q=>k c (zA6 _ d) o q⟩
 item:=by
   intro X J L M d i D8 s W H E I G j N;subst J L M;obtain⟨xs,ys,x,y,n,p,O,hy⟩:=N;obtain⟨⟨old,m⟩,g⟩:=j;obtain⟨ix,Q,R,_⟩:=I.list n;obtain⟨iy,ry,S,_⟩:=I.list p;obtain⟨u,hu,ru⟩:=Q.get O;obtain⟨v,hv,rv⟩:=ry.get hy;have lt:∀ c∈[e,z,tI,tO,i1,i2],c < s.heap.objs.size:=λ c d=>by
     obtain⟨⟨f0,f1,g,_⟩,t,⟨x,y,A⟩,⟨o1,F,_,d1⟩,⟨o2,B,_,d2⟩⟩:=g;simp only[zAi,zBd,zD2] at d;rcases d with rfl | rfl | rfl | rfl | rfl | rfl
     . exact zA7 m
     . exact zA7 g
     . exact zA7 t
     . exact zA7 A
     . exact zA7 F
     exact zA7 B
   refine qaD9 D m g hn R.isList S.isList (x:=u) (y:=v) (by simpa using hu) (by simpa using hv) λ F T U V Y a2 Z=>?_
   refine⟨_,rfl,wpAny_letOwnedTupleGo_enum (s:={ s with heap:=F,toks:=s.toks+1 }) T λ B a0 r=>?_⟩
   replace r:Heap.SameBut e F B:=r
   have I0:Ov X D8 W (upd H s.heap.objs.size<|.q [x,y]) { s with heap:=s.heap.push { cls:=.type "tuple",data:=.seq #[u,v] },toks:=s.toks } :=
     I.laid (λ b o q=>zA2 _ q) (zA3 _) ⟨by show 2<=Jn;decide,[u,v],.cons ru<|.cons rv .nil,⟨_,zAo _ rfl,rfl,_,rfl⟩⟩
   have l:(s.heap.push { cls:=.type "tuple",data:=.seq #[u,v] }).objs.size=s.heap.objs.size+1:=zCg ..;generalize es:s.heap.push { cls:=.type "tuple",data:=.seq #[u,v] }=g1 at I0 l;have gp:g1.get? s.heap.objs.size=some { cls:=.type "tuple",data:=.seq #[u,v] }:=by rw[<- es];exact zAo _ rfl
   have a1:(upd H s.heap.objs.size<|.q [x,y]) (s.heap.objs.size+1)=none:=I0.hok.fresh (by show g1.objs.size<=_;rw[l];exact zA3 _);have I1:Ov X D8 W (upd (upd H s.heap.objs.size<|.q [x,y]) (s.heap.objs.size+1)<|.q [.int (i:Int),.ref s.heap.objs.size]) { s with heap:=g1.push { cls:=.type "tuple",data:=.seq #[.int i s.toks,.ref s.heap.objs.size] },toks:=s.toks+1 }:=by
     refine I0.laid (s:={ s with heap:=g1,toks:=s.toks }) (λ b o q=>zA2 _ q) (by show g1.objs.size<=_;rw[l];exact zA3 _) ⟨by show 2<=Jn;decide,[.int i s.toks,.ref s.heap.objs.size],.cons ⟨_,rfl⟩<|.cons rfl .nil,⟨{ cls:=.type "tuple",data:=.seq #[.int i s.toks,.ref s.heap.objs.size] },?_,rfl,_,rfl⟩⟩;rw[<- l];exact zAo _ rfl
   have nb:∀ c∈[e,z,tI,tO,i1,i2],(upd (upd H s.heap.objs.size<|.q [x,y]) (s.heap.objs.size+1)<|.q [.int (i:Int),.ref s.heap.objs.size]) c=none:=λ c d=>by
     rw[qc9 (zAt<|Nat.lt_succ_of_lt<|lt c d),qc9 (zAt<|lt c d)];exact(G c d).1
   have I2:Ov X D8 W (upd (upd H s.heap.objs.size<|.q [x,y]) (s.heap.objs.size+1)<|.q [.int (i:Int),.ref s.heap.objs.size]) { s with heap:=B,toks:=s.toks+1 }:=by
     refine Ov.turnedL (s:={ s with heap:=g1.push { cls:=.type "tuple",data:=.seq #[.int i s.toks,.ref s.heap.objs.size] },toks:=s.toks+1 }) (h':=B) (ch:=[e,z,tI,tO,i1,i2]) (t':=s.toks+1) I1 (λ b o f q=>?_) (λ b f=>⟨nb b f,(G b f).2⟩);simp only[zAi,zBd,zD2,not_or] at f;refine r.extBut b o f.1 ?_;rcases Heap.get?_push_cases (show (g1.push { cls:=.type "tuple",data:=.seq #[.int i s.toks,.ref s.heap.objs.size] }).get? b=some o from q) with⟨rfl,rfl⟩ | q
     . rw[l];exact Y
     rw[<- es] at q;rcases Heap.get?_push_cases q with⟨rfl,rfl⟩ | q
     . exact V
     exact Z b o f.1 f.2.1 f.2.2.2.1 f.2.2.2.2.1 f.2.2.2.2.2 q
   refine⟨.ref<|s.heap.objs.size+1,_,I2,rfl,⟨_,s.heap.objs.size,x,y,rfl,I.hok.fresh<|zA3 _,a1,rfl,λ zs g=>by rw[I.list_inj g n];exact O,λ zs g=>by rw[I.list_inj g p];exact hy⟩,⟨⟨.ref s.heap.objs.size,?_⟩,?_⟩,nb⟩
   . have:((i+1:Nat):Int)=(i:Int)+1:=by push_cast;rfl
     rw[this];exact a0
   exact U.at_ λ c d o q=>r.extBut c o (λ z=>hn (z ▸ d)) q
 done:=by
   intro X J L M d i D8 s W H E I G j N;subst J L M;obtain⟨xs,ys,n,p,O⟩:=N;obtain⟨⟨old,m⟩,g⟩:=j;obtain⟨ix,Q,R,_⟩:=I.list n;obtain⟨iy,ry,S,_⟩:=I.list p;have hl:=Q.length;refine qaP4 (I.ok.hd d) D m g R.isList S.isList (by simp;lia) λ h' eb=>⟨rfl,Ov.turnedL (ch:=[e,z,tI,tO,i1,i2]) (t':=s.toks) I (λ b o f q=>?_) G⟩
   simp only[zAi,zBd,zD2,not_or] at f;exact eb b o f.2.1 f.2.2.2.1 f.2.2.2.2.1 f.2.2.2.2.2 q
 self:=λ _ _ _ _ _ j h=>by
   obtain⟨⟨old,m⟩,_⟩:=j;exact wpAny_pyIter_enum m h
section
variable{X:Cx}
def iEnz(K:Nl)(ta:TA):TI:=λ σ H R=>ta σ H λ vs H1=>∃ a b,vs=[.ref a,.ref b]/\(∃ xs,SqL K H1 a xs)/\(∃ ys,SqL K H1 b ys)/\R (Itz K a b) H1
theorem qaT0(N:Gl X "enumerate")(hm:X.mg "enumerate" = none)(u:Gl X "zip")(v:X.mg "zip" = none)(O:PA X [l,r] ta)(P:Jm [l,r] X.env=[(false,eval l X.env),(false,eval r X.env)]:=by rfl)(f:Jm [r] X.env=[(false,eval r X.env)]:=by rfl)(w:Jm [.Call (.Name "zip" p2) [l,r] [] pos2] X.env=[(false,eval (.Call (.Name "zip" p2) [l,r] [] pos2) X.env)]:=by rfl):PI X (.Tuple elts M tpos) (.Call (.Name "enumerate" p) [.Call (.Name "zip" p2) [l,r] [] pos2] [] pos) (iEnz X.K ta):=by
 intro D8 s σ H R I h;refine Call_ (qJ9 I N hm boot_enumerate<|PyProof.Rows.callWith_type1 ?_ w rfl);show Ka _ _ (spliced ((false,eval _ X.env)::[])) _ _ s;refine Calls.spliced_cons ?_;refine Call_ (qJ9 I u v boot_zip<|PyProof.Rows.callWith_type1 (thn (O pos2 D8 s σ H _ I h) λ Y d x=>?_) (by rw[P,f]) (by rw[f];rfl));obtain⟨Z,H1,I1,Q,S⟩:=x;obtain⟨a,b,e,⟨xs,y⟩,⟨ys,z⟩,q⟩:=S;subst e;cases Q with
 | cons r A=>cases A with
   | cons T A =>
     cases A;cases r;cases T;obtain⟨ix,rx,E,_⟩:=I1.list y;obtain⟨iy,ry,F,_⟩:=I1.list z;have la:a < d.heap.objs.size:=by obtain⟨o,B,_⟩:=E.isList;exact zA7 B
     have lb:b < d.heap.objs.size:=by obtain⟨o,B,_⟩:=F.isList;exact zA7 B
     refine call_zip_2 E.isList F.isList λ g G C D i j k U=>?_
     refine Calls.spliced_nil ?_;refine qt9 (s:={ d with heap:=g }) G λ V t J m=>?_
     replace t:IsEnum V g.objs.size (d.heap.objs.size+4) 0 .none:=t
     refine wpAny_pyIter_enum t ?_;have W:g.objs.size∉[d.heap.objs.size+4,d.heap.objs.size+2,d.heap.objs.size+3,d.heap.objs.size,d.heap.objs.size+1]:=by
       rw[k];simp
     refine⟨g.objs.size,_,_,_,H1,rfl,I1.kept (t':=d.toks) λ b o q=>m b o<|U b o q,qaa7 (zipApart_new la lb) W,⟨⟨_,t⟩,?_⟩,λ c L=>?_,q⟩
     . exact ZSt.at_ (h:=g) ⟨⟨_,_,G,.inl ⟨rfl,rfl⟩⟩,C,⟨_,_,D⟩,i,j⟩ λ c _ o q=>m c o q
     have n:d.heap.objs.size<=c:=by
       simp only[zAi,zBd,zD2] at L;rcases L with rfl | rfl | rfl | rfl | rfl | rfl
       . rw[k];exact zBq _ _
       . exact zBq _ _
       . exact zBq _ _
       . exact zBq _ _
       . exact zA3 _
       exact zBq _ _
     exact I1.fpOk n (I1.hok.fresh n)
end
theorem qaO8{K:Nl}{g:TG}{tb:TS}{D:De}(h:xs.length=ys.length)(Pv:Nat->St->Hp->Prop)(k:Pv 0 E H)(l:∀ i E H,Pv i E H->SqL K H a xs/\SqL K H b ys)(n:∀(i:Nat) x y E H p t,xs[i]? = some x->ys[i]? = some y->Pv i E H->H p=none->upd H p (.q [x,y]) t=none->g (.ref t) E (upd (upd H p<|.q [x,y]) t<|.q [.int (i:Int),.ref p]) λ σ2 H2=>tb { D with nx:=Pv (i+1),ct:=Pv (i+1),bk:=D.nx } σ2 H2)(o:∀ E H,Pv xs.length E H->D.nx E H) :
   ∃ W:Nat->Nat->St->Hp->Prop,(∃ m,W 0 m E H)/\∀ i m E H,W i m E H ->
     ((Itz K a b).stop i H/\D.nx E H)∨((Itz K a b).go i H/\∃ N:St->Hp->Prop,(∀ E' H',N E' H'->∃ j,j < m/\W (i+1) j E' H')/\∀ x H',(Itz K a b).yld i H x H'->g x E H' λ σ2 H2=>tb { D with nx:=N,ct:=N,bk:=D.nx } σ2 H2):=by
 refine⟨λ i m E H=>m=xs.length - i/\i<=xs.length/\Pv i E H,⟨xs.length,by simp,zBh _,k⟩,?_⟩;rintro i m E H ⟨rfl,C,p⟩;obtain⟨d,f⟩:=l i E H p;by_cases c:i < xs.length
 . refine .inr ⟨⟨xs,ys,xs[i],ys[i]'(h ▸ c),d,f,by simp[c],by simp[h ▸ c]⟩,Pv<|i+1,λ E' H' q=>⟨xs.length - (i+1),by lia,rfl,c,q⟩,λ x H' y=>?_⟩
   obtain⟨t,r,u,v,e,s,w,z,A,B⟩:=y;subst e z;exact n i u v E _ r t (A xs d) (B ys f) p s w
 have e:i=xs.length:=by lia
 subst e;exact .inl ⟨⟨xs,ys,d,f,zA3 _⟩,o E H p⟩
end L2
namespace LV
open PySem L2
variable{xs:Ds}
noncomputable def zipD(xs ys:Ds):Ds:=M6 (λ x y=>D.q [x,y]) xs ys
noncomputable def twoL:Ds->Option (Ds×Ds)
 | [.l _ xs,.l _ ys]=>some (xs,ys)
 | _=>none
theorem qaF9(h:twoL xs=some q):∃ z z',xs=[.l z q.1,.l z' q.2]:=by
 unfold twoL at h;split at h
 . cases h;exact⟨_,_,rfl⟩
 cases h
section
variable{c:Vc}{X:Cx}{tg e l r:Kf}{body:List Kh}{g:VTG}{t:VTS}{tr:VTB}{pos:Pos}{F:γ->Prop}{H:Hp}{σ:St}{ds:Ds}{A:List γ}{E:De}{en:VEnds}
theorem qar7{i:Nat}(a:xs[i]? = some x)(b:ys[i]? = some y):(enD<|zipD xs ys)[i]? = some (.q [.int (i:Int),.q [x,y]]):=by
 refine qaP6 ?_;unfold zipD;rw[List.getElem?_zipWith,a,b]
theorem qR3(P:VG c X tg g)(S:Ox c F H σ ds A)(l:Lk c E F H A en)(e:Held F H a vs z xs T A)(d:Held F H b k z' ys U A)(hm:D.imms xs=true)(n:D.imms ys=true)(Q:xs.length=ys.length)(q:Bu g t en (enD<|zipD xs ys) ds) :
   ∃ W:Nat->Nat->St->Hp->Prop,(∃ m,W 0 m σ H)/\∀ i m σ H,W i m σ H ->
     ((Itz K a b).stop i H/\E.nx σ H)∨((Itz K a b).go i H/\∃ N:St->Hp->Prop,(∀ σ' H',N σ' H'->∃ J,J < m/\W (i+1) J σ' H')/\∀ x H',(Itz K a b).yld i H x H'->E4 c g x σ H' λ σ2 H2=>Ei c t { E with nx:=N,ct:=N,bk:=E.nx } σ2 H2):=by
 refine qaO8 (xs:=vs) (ys:=k) (by rw[e.len,d.len,Q]) (λ i σ H=>∃ F ds A,Ox c F H σ ds A/\Lk c E F H A en/\Held F H a vs z xs T A/\Held F H b k z' ys U A/\Bu g t en ((enD<|zipD xs ys).drop i) ds) ⟨F,ds,A,S,l,e,d,q⟩ ?_ ?_ ?_
 . rintro i σ H ⟨F,ds,A,S,l,e,d,q⟩
   exact⟨.inl<|.inl e.h,.inl<|.inl d.h⟩
 . rintro i x y σ H p L R Y ⟨F,ds,A,S,l,e,d,q⟩ M f
   obtain⟨u,Z,ru⟩:=e.get hm R;obtain⟨v,hv,rv⟩:=d.get n Y;rw[qi8 (qar7 Z hv)] at q;have o:=Same.new (u:=.q [x,y]) M;have r:=Same.new (u:=.q [.int (i:Int),.ref p]) f;have rp:Ou F (upd H p<|.q [x,y]) (.ref p) (.q [u,v]) []:=qJ6 M (.cons (A:=[]) (B:=[]) ru<|.cons (A:=[]) (B:=[]) rv .nil);have s:Ou F (upd (upd H p<|.q [x,y]) L<|.q [.int (i:Int),.ref p]) (.ref L) (.q [.int (i:Int),.q [u,v]]) []:=qJ6 f (.cons (A:=[]) (B:=[]) (.int _)<|.cons (A:=[]) (B:=[]) rp .nil);have j:=o.trans r;have S1:=S.same j;have O:=l.step (Ow.same (F:=F) (A:=A) j);have w:=e.step S S1 (Ow.same j);have C:=d.step S S1 (Ow.same j);exact qH3 P S1 O s (λ G σ' H' F' A' q' S' I=>⟨F',G,A',S',O.step I,w.step S1 S' I,C.step S1 S' I,q'⟩) q
 rintro σ H ⟨F,ds,A,S,l,e,d,q⟩;rw[zC8 (by rw[qaa1,e.len];unfold zipD;rw[Ld];exact Nat.min_le_left _ _)] at q;exact l.nx _ _ _ _ _ q S Ow.refl
def qaS4(tr:VTB)(g:VTG)(t:VTS):VTS:=λ e ds=>tr ds (λ xs _ ds1=>orF (twoL xs) λ q=>D.imms q.1=true/\D.imms q.2=true/\q.1.length=q.2.length/\Bu g t e (enD<|zipD q.1 q.2) ds1) e.xe
theorem qaS2(N:PassesOwn (Kb X.prog X.w) X.A X.env X.xe)(hm:X.mg "enumerate" = none)(i:X.mg "zip" = none)(j:VAs c X [l,r] tr)(k:VG c X (.Tuple elts B tpos) g)(C:VSs c X body t)(n:Gl X "enumerate" := by rfl)(d:Gl X "zip" := by rfl)(O:Jm [l,r] X.env=[(false,eval l X.env),(false,eval r X.env)]:=by rfl)(o:Jm [r] X.env=[(false,eval r X.env)]:=by rfl)(s:Jm [.Call (.Name "zip" p2) [l,r] [] pos2] X.env=[(false,eval (.Call (.Name "zip" p2) [l,r] [] pos2) X.env)]:=by rfl)(P:X.calm=true:=by rfl) :
   VS c X (.For (.Tuple elts B tpos) (.Call (.Name "enumerate" p) [.Call (.Name "zip" p2) [l,r] [] pos2] [] cpos) body [] pos) (qaS4 tr g t):=by
 refine⟨PS.mono (Hy N P (qaT0 n hm d i j.h O o s) k.h C.h) λ E σ H u=>?_,λ D Q G f=>j.m _ _ _ _ _ (λ R _ e=>qa4 λ q=>Ni<|Ni<|Ni<|qk7 k C f _ e) f.xe⟩;obtain⟨F,G,A,D,S,l,q⟩:=u;refine⟨F,G,A,D.xe,S,l.xe,j.m _ _ _ _ _ (λ R ps e q vs H1 F1 T A1 U pk S1 I V=>?_) (λ _ _ z=>z) q⟩;obtain⟨⟨ys,zs⟩,W,v,x,f,Y⟩:=qa7.mp q;obtain⟨z,z',rfl⟩:=qaF9 W;cases U with | @cons _ _ Ta _ _ _ J t2=>cases t2 with | @cons _ _ Tb _ _ _ K Z =>
 cases Z;obtain⟨a,va,_,rfl,L,_,_⟩:=J.lst_inv;obtain⟨b,vb,_,rfl,M,_,_⟩:=K.lst_inv;have y:Ow F H A F1 H1 A1:=V.count λ b=>by rw[zA0];lia
 exact⟨a,b,rfl,⟨va,.inl<|.inl L⟩,⟨vb,.inl<|.inl M⟩,qR3 k S1 (l.step y) ⟨J,L,I.count λ b=>by simp only[zA0];lia⟩ ⟨K,M,I.count λ b=>by simp only[zA0];lia⟩ v x f Y⟩
end
end LV
namespace L2
open PySem PySem.Spec PyProof.Rows
noncomputable def Itv(K:Nl)(a:γ)(n:Nat):It :=
 ⟨λ i H=>∃ xs,SqL K H a xs/\xs.length=n/\i < n,λ i H x H'=>H'=H/\∀ xs,SqL K H a xs->xs[n - 1 - i]? = some x,λ i _=>i=n⟩
theorem qaw7{P:Kc}{w:Ke}{K:Nl}{tg:Kf}(a it:γ)(n:Nat):Gk P w K tg (Itv K a n) [it] it (λ i h=>i<=n/\h.IsRevIter it a ((n:Int) - 1 - i)) where
 mem:=by simp
 obj:=λ i h g b l=>by
   have e:b=it:=by simpa using l
   subst e;obtain⟨_,o,e,c,d⟩:=g;exact⟨o,e,λ v z=>by rw[d] at z;cases z⟩
 keep:=λ i h q g k=>⟨g.1,g.2.at λ o e=>k it (by simp) o e⟩
 item:=by
   intro X t y A G i D8 s T H E I r g B;subst t y A;obtain⟨j,J,rfl,L⟩:=B;obtain⟨M,N,p,Y⟩:=I.list J;obtain⟨u,O,Q⟩:=N.get (i:=j.length - 1 - i) (x:=j[j.length - 1 - i]) (zAz _);obtain⟨C,f1,f2,f3,D,F⟩:=r it (by simp);have R:((j.length:Int) - 1 - i)=((j.length - 1 - i:Nat):Int):=by lia
   have f:=g.2;rw[R] at f;refine wpAny_pyNext_rev_item f p.isList (x:=u) (by simpa using O) λ q m S=>?_
   have I1:Ov X D8 T H { s with heap:=q }:=I.turned (t':=s.toks) (λ b o l e=>(S.2 b l).trans e) C f1 f3 D F;obtain⟨o,e,c,d⟩:=id m;refine⟨u,rfl,Hw (s:={ s with heap:=q }) e c d (by decide) ⟨j[j.length - 1 - i],H,I1,Q,⟨rfl,λ Z U=>by rw[I.list_inj U J];exact zAz _⟩,⟨L,?_⟩,λ b l=>(r b l).1⟩⟩;rw[show ((j.length:Int) - 1 - ((i+1:Nat):Int))=((j.length - 1 - i:Nat):Int) - 1 by lia];exact m
 done:=by
   intro X t y A G i D8 s T H E I r g B;subst t y A;obtain rfl:i=n:=B;obtain⟨C,f1,f2,f3,D,F⟩:=r it (by simp);have f:=g.2;rw[show ((i:Int) - 1 - (i:Int)) = -1 by lia] at f;exact wpAny_pyNext_rev_end (I.ok.hd G) f λ q V=>⟨rfl,I.turned (t':=s.toks) (λ b o l e=>V b o l e) C f1 f3 D F⟩
 self:=λ _ _ _ _ _ g h=>wpAny_pyIter_revIter g.2 h
section
variable{X:Cx}
def iRev(K:Nl)(ta:TA):TI:=λ C H R=>ta C H λ vs H1=>∃ a xs,vs=[.ref a]/\SqL K H1 a xs/\R (Itv K a xs.length) H1
theorem qaJ5(j:Gl X "reversed")(hm:X.mg "reversed" = none)(k:PA X [l] ta)(m:Jm [l] X.env=[(false,eval l X.env)]:=by rfl):PI X tg (.Call (.Name "reversed" p) [l] [] pos) (iRev X.K ta):=by
 intro D8 s C H R I h;refine Call_ (qJ9 I j hm boot_reversed<|PyProof.Rows.callWith_type1 (thn (k pos D8 s C H _ I h) λ z d f=>?_) m rfl);obtain⟨A,H1,I1,n,t⟩:=f;obtain⟨a,g,e,u,q⟩:=t;subst e;cases n with
 | cons r v =>
   cases v;cases r;obtain⟨c,w,x,B⟩:=I1.list u;have i:(d.heap.push<|revObj a ((c.toArray.size:Int) - 1)).IsRevIter d.heap.objs.size a ((g.length:Int) - 1 - (0:Nat)):=by
     refine⟨_,zAo _ rfl,rfl,?_⟩
     have:=w.length
     show Data.fields #[.ref a,rawInt ((c.toArray.size:Int) - 1)]=_;rw[show ((c.toArray.size:Int) - 1)=((g.length:Int) - 1 - (0:Nat)) by simp;lia]
   refine call_reversed_list x.isList (wpAny_pyIter_revIter i ?_);exact⟨d.heap.objs.size,[d.heap.objs.size],_,_,H1,rfl,I1.kept (t':=d.toks) λ b o q=>zA2 _ q,qaw7 a d.heap.objs.size g.length,⟨zBh _,i⟩,λ b y=>by
     rw[zAl.mp y];exact I1.fpOk (zA3 _) (I1.hok.fresh<|zA3 _),q⟩
end
theorem qaO7{K:Nl}{g:TG}{tb:TS}{D:De}(Pv:Nat->St->Hp->Prop)(d:Pv 0 n H)(f:∀ i n H,Pv i n H->SqL K H a xs)(h:∀ i x n H,i < xs.length->xs[xs.length - 1 - i]? = some x->Pv i n H->g x n H λ σ2 H2=>tb { D with nx:=Pv (i+1),ct:=Pv (i+1),bk:=D.nx } σ2 H2)(j:∀ n H,Pv xs.length n H->D.nx n H) :
   ∃ W:Nat->Nat->St->Hp->Prop,(∃ m,W 0 m n H)/\∀ i m n H,W i m n H ->
     ((Itv K a xs.length).stop i H/\D.nx n H)∨((Itv K a xs.length).go i H/\∃ N:St->Hp->Prop,(∀ n' H',N n' H'->∃ c,c < m/\W (i+1) c n' H')/\∀ x H',(Itv K a xs.length).yld i H x H'->g x n H' λ σ2 H2=>tb { D with nx:=N,ct:=N,bk:=D.nx } σ2 H2):=by
 refine⟨λ i m n H=>m=xs.length - i/\i<=xs.length/\Pv i n H,⟨xs.length,by simp,zBh _,d⟩,?_⟩;rintro i m n H ⟨rfl,l,p⟩;have q:=f i n H p;by_cases b:i < xs.length
 . refine .inr ⟨⟨xs,q,rfl,b⟩,Pv<|i+1,λ n' H' k=>⟨xs.length - (i+1),by lia,rfl,b,k⟩,λ x H' y=>?_⟩
   obtain⟨e,y⟩:=y;subst e;exact h i x n _ b (y xs q) p
 have e:i=xs.length:=by lia
 subst e;exact .inl ⟨rfl,j n H p⟩
theorem qaE5{K:Nl}(Pv:Nat->St->Hp->Prop)(c:Pv 0 n H)(d:∀ i n H,Pv i n H->SqL K H a xs)(f:∀(i:Nat) x n H,i < xs.length->xs[xs.length - 1 - i]? = some x->Pv i n H->g x n H λ σ2 H2=>tf σ2 H2 λ h H3=>if h=true then te σ2 H3 λ v H4=>∃ ys,H4 D=some (.l ys)/\ys.length < Jn/\Pv (i+1) σ2 (upd H4 D<|.l<|ys++[v]) else Pv (i+1) σ2 H3)(j:∀ n H,Pv xs.length n H->R H) :
   qA4 (Itv K a xs.length) g tf te D R n H:=by
 refine⟨λ i m n H=>m=xs.length - i/\i<=xs.length/\Pv i n H,⟨xs.length,by simp,zBh _,c⟩,?_⟩;rintro i m n H ⟨rfl,l,p⟩;have q:=d i n H p;by_cases b:i < xs.length
 . refine .inr ⟨⟨xs,q,rfl,b⟩,Pv<|i+1,λ n' H' k=>⟨xs.length - (i+1),by lia,rfl,b,k⟩,λ x H' y=>?_⟩
   obtain⟨e,y⟩:=y;subst e;exact f i x n _ b (y xs q) p
 have e:i=xs.length:=by lia
 subst e;exact .inl ⟨rfl,j n H p⟩
end L2
namespace LV
open PySem L2
theorem qas8{ys:Ds}(hi:i < ys.length)(h:ys[ys.length - 1 - i]? = some y):ys.reverse[i]? = some y:=by
 rw[List.getElem?_reverse hi];exact h
section
variable{c:Vc}{X:Cx}{tg e:Kf}{body:List Kh}{g:VTG}{t:VTS}{te:VT}{pos:Pos}{F:γ->Prop}{H:Hp}{σ:St}{ds:Ds}{A:List γ}{E:De}{en:VEnds}
def sForV(te:VT)(g:VTG)(t:VTS):VTS:=λ e ds=>te ds (λ d ds1=>orF d.lstOf λ ys=>D.imms ys=true/\Bu g t e ys.reverse ds1) e.xe
theorem sforV(P:PassesOwn (Kb X.prog X.w) X.A X.env X.xe)(hm:X.mg "reversed" = none)(hi:VE c X e te)(r:VG c X tg g)(J:VSs c X body t)(s:Gl X "reversed" := by rfl)(K:Jm [e] X.env=[(false,eval e X.env)]:=by rfl)(Q:X.calm=true:=by rfl):VS c X (.For tg (.Call (.Name "reversed" p) [e] [] cpos) body [] pos) (sForV te g t):=by
 refine⟨PS.mono (Hy P Q (qaJ5 s hm (qh0 hi.h qy3 K) K) r.h J.h) λ E σ H u=>?_,λ n R f o=>hi.m _ _ _ _ _ (λ d j=>qa4 λ B=>Ni<|qk7 r J o _ j) o.xe⟩;obtain⟨F,f,A,n,S,l,q⟩:=u;refine⟨F,f,A,n.xe,S,l.xe,hi.m _ _ _ _ _ (λ d j q v H1 F1 T A1 L S1 U V=>?_) (λ _ _ z=>z) q⟩;obtain⟨B,W,C,Y⟩:=qa7.mp q;obtain⟨z,rfl⟩:=qp4 W;obtain⟨a,D,Ael,rfl,M,rs,_⟩:=L.lst_inv;have G:Ow F H A F1 H1 A1:=V.count λ b=>by rw[zA0];lia
 refine⟨a,D,rfl,.inl<|.inl M,qaO7 (xs:=D) (λ i σ H=>∃ F f A,Ox c F H σ f A/\Lk c E F H A n/\Held F H a D z B T A/\Bu g t n (B.reverse.drop i) f) ⟨F1,j,A1,S1,l.step G,⟨L,M,U⟩,Y⟩ ?_ ?_ ?_⟩
 . rintro i σ H ⟨F,f,A,S,l,k,q⟩
   exact .inl (.inl k.h)
 . rintro i x σ H hi Z ⟨F,f,A,S,l,k,q⟩
   obtain⟨y,N,ry⟩:=k.get C Z;have o:=k.len;rw[o] at N hi;rw[qi8 (qas8 hi N)] at q;exact qH3 r S l ry (λ I σ' H' F' A' q' S' O=>⟨F',I,A',S',l.step O,k.step S S' O,q'⟩) q
 rintro σ H ⟨F,f,A,S,l,k,q⟩;rw[zC8 (by rw[zC6,k.len];exact zA3 _)] at q;exact l.nx _ _ _ _ _ q S Ow.refl
end
section
variable{c:Vc}{X:Cx}{NY:List Str}{Y:Scope}{src:List (Option Nat)}{Z R e:Kf}{O:List Kf}{g:VTG}{N:VTT}{te U:VT}{pos:Pos}{av:List (Option V)}{T:List γ}{τ:List (Option V)}{o0:Ds}{W:γ}{F0:γ->Prop}{H0 H:Hp}{A0:List γ}{K:Ds->Ds->Prop}
theorem qaw6{J':St}(b:Blk X NY Y src Z O R g N te)(hm:D.imms ys=true)(m:Mid src av (λ F H=>Ou F H (.ref a) (.l z ys) T/\H a=some (.l vs)) T τ o0 W F0 H0 A0 g N te K ys.reverse J' H)(j:∀ σ2 H2,Mid src av (λ F H=>Ou F H (.ref a) (.l z ys) T/\H a=some (.l vs)) T τ o0 W F0 H0 A0 g N te K [] σ2 H2->Q H2):qA4 (Itv K' a vs.length) (qq8 src g) (qq7 src N) (Bq src te) W Q J' H:=by
 obtain⟨_,_,_,_,_,_,_,_,d,_⟩:=id m;have c:=qaB7 d.1 d.2;refine qaE5 (xs:=vs) (λ i J H=>Mid src av (λ F H=>Ou F H (.ref a) (.l z ys) T/\H a=some (.l vs)) T τ o0 W F0 H0 A0 g N te K (ys.reverse.drop i) J H) m ?_ ?_ ?_
 . rintro i J H ⟨_,_,_,_,_,_,_,_,e,_⟩
   exact .inl (.inl e.2)
 . rintro i x J H f k ⟨F,M,A,l,B,Ao,S1,r,e,L,n,s,q⟩
   obtain⟨y,h,o⟩:=qaC9 e.1 e.2 hm k;rw[c] at h f;rw[qi8 (qas8 f h)] at q;exact qG7 b ql4 S1 r e L n s o q
 intro J H m;rw[zC8 (by rw[zC6,c];exact zA3 _)] at m;exact j _ _ m
def tCV(src:List (Option Nat))(U:VT)(g:VTG)(N:VTT)(te:VT):VT:=λ ds Q xe=>U ds (λ d ds1=>orF d.lstOf λ ys=>D.imms ys=true/\He src g N te ys.reverse ds1 Q) xe
theorem qaX0{K:Nl}(b:Blk X NY Y src Z O R g N te)(hi:VE c X e U):Imp c X (tCV src U g N te) (Dy (iRev K<|Ib (Bi c U) tNil) src (qq8 src g) (qq7 src N)<|Bq src te):=by
 rintro D8 s J H Q I ⟨F,k,A,l,S,x,q⟩;have f:=b.lt D8 J H s I;refine⟨F,k,A,l,S,x,hi.m _ _ _ _ _ (λ d n q v H1 F1 T A1 i S1 o p=>?_) (λ _ _ z=>z) q⟩;obtain⟨E,t,u,h⟩:=qa7.mp q;obtain⟨z,rfl⟩:=qp4 t;obtain⟨a,w,Ael,rfl,j,G,_⟩:=i.lst_inv;refine⟨a,w,rfl,.inl<|.inl j,λ W y=>qaw6 b u (qG8 f S1 o ⟨i,j⟩ ql4 y<|qk9 b (λ C M q v H' F' B A' r S' _ D s=>q v H' F' B A' r S' (D.count λ b=>by simp only[zA0];lia) ((p.trans s).count λ b=>by simp only[zA0];lia)) _ _ _ h) λ σ2 H2 m=>qG9 f S1 m⟩
theorem ecV(hm:X.mg "reversed" = none)(hi:VE c X e U)(bl:Blk X NY Y src Z O R g N te)(b:Gl X "reversed" := by rfl)(a:Jm [e] X.env=[(false,eval e X.env)]:=by rfl)(f:X.calm=true:=by rfl)(i:qt8 X NY src Y=true:=by rfl)(j:∀ x,Jp (.Call (.Name "reversed" p) [e] [] cpos) X.env x=pure x:=by intro _;rfl):VE c X (.ListComp R [⟨Z,.Call (.Name "reversed" p) [e] [] cpos,O,0⟩] Y pos) (tCV src U g N te) :=
 I9 (qC7 NY src (qaJ5 b hm (qh0 hi.h qy3 a) a) bl.pg bl.pf bl.pe f i j) (qaX0 bl hi) λ q Q Q' r k l n=>hi.m _ _ _ _ _ (λ d o=>qa4 λ s=>Ni<|qH5 bl l) n
end
def Gx(L:List Nat)(ds:Ds):Ds:=L.foldl (λ ds i=>ds.set i .u) ds
theorem Locs.buts{F:γ->Prop}{H:Hp}:∀{L:List Nat}{o τ:List (Option V)}{ds:Ds}{A:List γ},Locs F H o ds A->τ.length=o.length->(∀ j,L.contains j=false->τ[j]? = o[j]?)->∃ A',Locs F H τ (Gx L ds) A'/\∀ b,A'.count b<=A.count b
 | [],o,τ,ds,A,h,hl,he=>by
   obtain rfl:τ=o:=List.ext_getElem? λ j=>he j rfl
   exact⟨A,h,λ _=>zA3 _⟩
 | i::L,o,τ,ds,A,h,hl,he=>by
   by_cases c:i < o.length
   . obtain⟨d,k⟩:∃ d,ds[i]? = some d:=⟨_,zAz (by rw[<- h.len];exact c)⟩
     obtain⟨A1,l,m⟩:=h.but (τ:=o.set i (τ[i]'(hl ▸ c))) k (by simp) λ j a=>zBk (Ne.symm a)
     obtain⟨A2,f,g⟩:=Locs.buts (L:=L) (τ:=τ) l (by simp[hl]) λ j a=>by
       by_cases e:j=i
       . subst e;rw[zC7 c];exact zAz (hl ▸ c)
       rw[zBk (Ne.symm e)];exact he j (by rw[Me,a,Bool.or_false];exact zCz e)
     exact⟨A2,f,λ b=>zAk (g b)<|m b⟩
   have n:ds.set i .u=ds:=List.set_eq_of_length_le (by rw[<- h.len];lia);obtain⟨A2,f,g⟩:=Locs.buts (L:=L) (τ:=τ) h hl λ j a=>by
     by_cases e:j=i
     . subst e;rw[zBw (by lia),zBw (by lia)]
     exact he j (by rw[Me,a,Bool.or_false];exact zCz e)
   refine⟨A2,?_,g⟩;show Locs F H τ (Gx L<|ds.set i .u) A2;rw[n];exact f
section
variable{c:Vc}{X:Cx}{N:Kh}{t:VTS}
def qaH8(L:List Nat)(t:VTS):VTS:=λ e ds=>t ⟨λ _=>e.nx<|Gx L ds,λ d _=>d.plain=true/\e.rt d (Gx L ds),λ _=>False,λ _=>False,λ _ _=>False⟩ (D.fzs ds)
theorem qaH3(L:List Nat)(h:∀ av,VS ⟨c.E,λ j=>!(L.contains j),av,c.gv⟩ X N t)(B:∀ i,L.contains i=true->c.W i=false:=by exact λ _ _=>rfl):VS c X N (qaH8 L t):=by
 refine⟨λ D8 s M H E I q=>?_,λ e K n f q=>?_⟩
 rotate_left
 . refine(h []).m _ _ _ ?_ q
   exact⟨λ _=>f.nx _,λ d _ z=>⟨z.1,f.rt _ _ z.2⟩,λ _ z=>z,λ _ z=>z,λ _ _ z=>z⟩
 obtain⟨F,n,A,e,S,l,q⟩:=q;refine(h<|M++c.gv).h D8 s M H E I ⟨λ b=>F b∨b∈A,D.fzs n,[],_,⟨S.loc.fz (λ _=>.inl) (λ _=>.inr),⟨λ b=>by simp,λ b _=>by simp,λ b h=>h.elim (S.ok.ex b) λ h=>let ⟨o,e,_⟩:=S.loc.cells b h;⟨o,e⟩⟩,rfl,λ _ _=>rfl⟩,?_,q⟩;have fin:∀{a M' H' F' A' T},Ox ⟨c.E,λ j=>!(L.contains j),M++c.gv,c.gv⟩ F' H' M' a A'->Ok F' H' (T++A')->Ow (λ b=>F b∨b∈A) H [] F' H' (T++A')->∃ A2,Ox c F H' M' (Gx L n) A2/\Ok F H' (T++A2)/\Ow F H A F H' (T++A2):=λ{a M' H' F' A' T} S' C s=>by
   have p:Same H H':=λ b o e=>s.fr b o e (by simp)
   have f:(M'++c.gv).length=(M++c.gv).length:=S'.len.symm;have w:∀ j,L.contains j=false->(M'++c.gv)[j]? = (M++c.gv)[j]? := λ j g=>S'.ag j (show (!(L.contains j))=true by rw[g];rfl)
   obtain⟨A2,L2,G⟩:=(S.loc.same p).buts f w;have x:New H T:=⟨λ b=>by have:=C.sep b;rw[zA0] at this;lia,λ b o e=>by have:=s.sub b o e (by simp);rw[zA0] at this;lia⟩
   have k:∀ b,(T++A2).count b<=(T++A).count b:=λ b=>by rw[zA0,zA0];have:=G b;lia
   have y:Ok F H' (T++A2):=(x.ok S.ok S.loc.cells p).count k;exact⟨A2,⟨L2,y.right,by rw[S.len,f],λ j g=>by
     cases z:L.contains j with
     | true=>rw[B j z] at g;cases g
     | false=>rw[w j z];exact S.ag j g⟩,y,(x.stp p).count k⟩
 refine⟨λ a M' H' F' A' q S' s=>?_,λ d a v M' H' F' T A' q r S' o s=>?_,λ _ _ _ _ _ q=>q.elim,λ _ _ _ _ _ q=>q.elim,λ _ _ _ _ _ _ _ q=>q.elim⟩
 . obtain⟨A2,S2,_,u⟩:=fin (T:=[]) S' S'.ok s
   exact l.nx _ _ _ _ _ q S2 u
 obtain⟨A2,S2,J,u⟩:=fin S' o s;exact l.rt _ _ _ _ _ _ _ _ q.2 (r.plain q.1) S2 J u
end
theorem qag2(q:t ⟨λ _=>e.nx<|Gx L ds,λ d _=>d.plain=true/\e.rt d (Gx L ds),λ _=>False,λ _=>False,λ _ _=>False⟩ (D.fzs ds)):qaH8 L t e ds:=q
end LV
namespace HT
open PySem PyProof.Rows
noncomputable def lexGt:List Int->List Int->Bool
 | [],[]=>false
 | [],_::_=>false
 | _::_,[]=>true
 | x::xs,y::ys=>if x=y then lexGt xs ys else decide (x > y)
theorem qy9(x y:Int)(xs ys:List Int):lexGt (x::xs) (y::ys)=if x=y then lexGt xs ys else decide (x > y):=rfl
theorem qu7:lexGt [] []=false:=rfl
theorem qF4(y:Int)(ys:List Int):lexGt [] (y::ys)=false:=rfl
theorem qF5(x:Int)(xs:List Int):lexGt (x::xs) []=true:=rfl
theorem qay6(A:Kd)(s:Sh)(a:Int)(t:Tok)(c:Int)(u:Tok)(prog:Kc)(w:Ke)(E Q:V'->Sh->Prop)(h:Q (.bool<|decide (a > c)) s) :
   Ka (Kb prog w) A (richCompare .Gt (.int a t)<|.int c u) Q E s :=
 (PyProof.Rows.gt_int h:Ka (Kb prog w) A (Jo .Gt (.int a t)<|.int c u) Q E s)
section
open PySem.SeqAt
open PySem.AutoSeq1 (wpAny_loadPart')
open PySem.MeetsSeq PySem.MeetsSeq2 PySem.MeetsSeq3
theorem qH4(l b:γ)(items items2:Array V')(n P:Nat)(dd I:Option γ)(sl J:Array (Option V'))(ns C:List Int)(hi:IntsAre items.toList ns)(N:IntsAre items2.toList C) :
   Meets (Builtin.«tuple.__gt__» ⟨[.ref l,.ref b],[]⟩)
     (λ _ R s=>s.heap.get? l=some { cls:=.type "tuple",dict:=dd,data:=.seq items n,slots:=sl }/\s.heap.get? b=some { cls:=.type "tuple",dict:=I,data:=.seq items2 P,slots:=J } /\
       R (.ok<|.ret<|.bool<|lexGt ns C) s) :=
 .of_wp λ prog w A R s h=>by
   obtain⟨D,g,d,E,F⟩:=s;obtain⟨Q,S,h⟩:=h;have f2:=AutoSeq1.sub_tuple_tuple;have X:items.size=ns.length:=by rw[<- hi.length];simp
   have Y:items2.size=C.length:=by rw[<- N.length];simp
   wp_walk using wpAny_loadPart' Q,wpAny_loadPart' S,wpAny_forIn_list _ (λ rest b K=>b.1=none/\K=⟨D,g,d,E,F⟩/\∃(G H:List V')(i j:List Int),rest=G.zip H /\
     IntsAre G i/\IntsAre H j/\i.length+items2.size=j.length+items.size/\R (.ok<|.ret<|.bool<|lexGt i j) ⟨D,g,d,E,F⟩) _
   case turn =>
     rintro⟨y,x⟩ rest b K ⟨r,rfl,G,H,i,j,k,v,m,f,o⟩;cases v with
     | nil=>rw[List.zip_nil_left] at k;cases k
     | cons a t z =>
       cases m with
       | nil=>rw[List.zip_nil_right] at k;cases k
       | cons c u B =>
         rw[Ll] at k;injection k with L hrest
         injection L with T U
         subst T U;rw[qy9] at o;simp only[zAm] at f;obtain⟨e,V,p⟩:=qaD8 A.in1 ⟨D,g,d,E,F⟩ a t c u;refine E' (V prog w _ _ ?_);cases e with
         | true =>
           rw[if_pos (p.mp rfl)] at o
           wp_walk
           exact⟨rfl,rfl,_,_,_,_,hrest,z,B,by lia,o⟩
         | false =>
           rw[if_neg (λ q=>absurd (p.mpr q) zAq)] at o;have M:=qay6 A.in1 ⟨D,g,d,E,F⟩ a t c u prog w
           wp_walk using M
           exact⟨_,rfl,by simpa using o⟩
   case fin =>
     rintro⟨Z,b2⟩ K ⟨r,rfl,G,H,i,j,k,v,m,f,o⟩;simp only at r;subst r;have O:lexGt i j=decide (items.size > items2.size):=by
       cases v with
       | nil =>
         cases m with
         | nil =>
           simp only[zC4] at f;rw[qu7];exact(zAv (by lia)).symm
         | cons c u W =>
           simp only[zC4,zAm] at f;rw[qF4];exact(zAv (by lia)).symm
       | cons a t O =>
         cases m with
         | nil =>
           simp only[zC4,zAm] at f;rw[qF5];exact(zAb (by lia)).symm
         | cons c u W =>
           rw[Ll] at k;cases k
     rw[O] at o
     wp_walk
     exact⟨_,rfl,by simpa[Builtin.Tuple.tupleCompareSizes] using o⟩
   case h =>
     exact⟨rfl,rfl,items.toList,items2.toList,ns,C,rfl,hi,N,by lia,h⟩
end
section
variable{prog:Kc}{w:Ke}{A:Kd}{E:V'->Sh->Prop}{s:Sh}
theorem qai0(m:IsTup s.heap l items)(o:IsTup s.heap b items2)(hi:IntsAre items.toList ns)(p:IntsAre items2.toList a)(q:A.units < cLine)(h:Q (.bool<|lexGt ns a) s):Ka (Kb prog w) A (Jo .Gt (.ref l)<|.ref b) Q E s:=by
 obtain⟨⟨r,t,data,u⟩,i,j,n,k⟩:=id m;obtain⟨⟨cls2,f,data2,g⟩,c,d,v,e⟩:=id o;simp only at j k d e;subst j k d e;exact richCompare_meets_room (op:=.Gt) ⟨_,i,rfl⟩ ⟨_,c,rfl⟩ F.slot_tuple_gt F.entry_tuple_gt (F.args_tuple_gt_2 _ _) (qH4 l b items items2 n v t f u g ns a hi p)
   ⟨i,c,show M9 (lexGt ns a)≠Na/\Q (.bool<|lexGt ns a) s from⟨(λ x=>nomatch x),h⟩⟩ q
end
end HT
namespace L2
open PySem PySem.Spec PyProof.Rows
def rGtT(K:Nl):R2:=λ x y H Q=>∃ a b ns c,x=.ref a/\y=.ref b/\SqT K H a (ns.map V.int)/\SqT K H b (c.map V.int)/\Q (.bl<|HT.lexGt ns c) H
theorem qaU9(c:X.A.units < cLine):OpR X (Jo .Gt) (rGtT X.K):=by
 intro D8 s o H x y v u Q I d e h;obtain⟨a,b,f,g,rfl,rfl,i,j,q⟩:=h;cases d;cases e;obtain⟨k,l,p1,_⟩:=I.tuple i;obtain⟨its2,m,n,_⟩:=I.tuple j;exact HT.qai0 p1 n (qz1 l) (qz1 m) c ⟨.bl<|HT.lexGt f g,H,I,rfl,q⟩
end L2
namespace LV
open PySem L2
def gGtT(x y:D):Option D:=match x,y with
 | .q xs,.q ys=>(intsD xs).bind λ ns=>(intsD ys).map λ a=>.bl (HT.lexGt ns a)
 | _,_=>none
theorem qaU0:A9 true (rGtT K) gGtT:=by
 intro F H v w x y B d Q r h q;cases x with
 | q p =>
   cases y with
   | q s =>
     obtain⟨f,g,h⟩:=zA1.mp h;obtain⟨i,j,h⟩:=zAj.mp h;subst h;obtain⟨t,u,A',C',e,k,l,_⟩:=r.two_inv;cases e;obtain⟨a,A,rfl,m,n⟩:=k.tup_inv;obtain⟨b,C,rfl,o,c⟩:=l.tup_inv;cases n.intsD g;cases c.intsD j;exact⟨a,b,f,i,rfl,rfl,.inl<|.inl m,.inl<|.inl o,q _ H [] (.bl _) (λ _ _ z=>z) New.nil⟩
   | _=>cases h
 | _=>cases h
end LV
namespace LV.My
open PySem L2 Row _root_.My
variable{N i j l r:Nat}{Q:DK}{R:Ds->D->Prop}{S T ks ns:List Int}{b z':Bool}{d p x y:D}{ds ys:Ds}{e:VEnds}{f fa fb:FV}{fs:List (Str×D)}{g' h:Nat->Option Int}{hm:Int->Nat}{k:Int}{m:Str}{o:Option Int}{pf:PF}{qc:VTT}{s:VSp}{t u:VTS}{ta tb te:VT}{tr:VTB}{xe:XKd}{α:Type}
noncomputable def _root_.LV.D.whole:D->Bool
 | .int _=>true
 | _=>false
noncomputable def _root_.LV.D.within(l m:Int):D->Bool
 | .int i=>decide (l<=i)&&decide (i<=m)
 | _=>false
def _root_.LV.D.num:D->Bool:=D.within 0 1000000000000000000
noncomputable def fx3(g:D->D->D->Option D):Ds->Option D
 | [x,y,z]=>g x y z
 | _=>none
theorem qag3(h:By (fx1 g) ds Q xe):ds.length=1:=by
 match ds,h with
 | [_],_=>rfl
theorem qaN3(h:By (fx3 g) ds Q xe):ds.length=3:=by
 match ds,h with
 | [_,_,_],_=>rfl
theorem imm1(h:By (fx1 g) ds Q xe):Gu (wOf [true]) 0 ds=true:=by
 match ds,h with
 | [_],_=>rfl
theorem imm3(h:By (fx3 g) ds Q xe):Gu (wOf [true,true,true]) 0 ds=true:=by
 match ds,h with
 | [_,_,_],_=>rfl
theorem Jg(h:By (fx1 g) ds Q xe):∃ x d,ds=[x]/\g x=some d/\Q d [x]:=by
 match ds,h with
 | [x],h=>obtain⟨d,e,q⟩:=qa7.mp h;exact⟨x,d,rfl,e,q⟩
theorem pure3(h:By (fx3 g) ds Q xe):∃ x y z d,ds=[x,y,z]/\g x y z=some d/\Q d [x,y,z]:=by
 match ds,h with
 | [x,y,z],h=>obtain⟨d,e,q⟩:=qa7.mp h;exact⟨x,y,z,d,rfl,e,q⟩
theorem ql9{t:String}(h:x.kind=some t):x.known=true:=by
 cases x<;>first | rfl | cases h
def Ay(P:Ds->D->Prop):VSp:=λ ds Q _=>∃ d,P ds d/\Q d ds
theorem qb2:Bl (Ay P):=λ _ _ _ _ _ a _ ⟨d,p,q⟩=>⟨d,p,a _ _ q⟩
noncomputable def Oq(ps:Pr):Ds:=ps.map λ p=>.q [.int p.1,.int p.2]
noncomputable def kvD(ps:Pr):List (Key×D):=ps.map λ p=>(.inl p.1,.int p.2)
def Ad(z:Bool)(C:γ)(n:Int)(wr:Bool)(ps:Pr):D:=.ins z C [("rooms",.int n),("wraps",.bl wr),("homes",.l z<|Oq ps),("home_numbers",.dct z<|kvD ps)]
noncomputable def Aw:Option Int->D
 | none=>.non
 | some k=>.int k
def Op(n:Nat)(g:Nat->Option Int):Ds:=(Ku n).map λ i=>Aw (g i)
noncomputable def Oo(ks:List Int):Ds:=ks.map .int
theorem qz2:∀ ps:Pr,D.imms (Oq ps)=true
 | []=>rfl
 | p::r=>by show (D.imms [.int p.1,.int p.2]&&D.imms (Oq r))=true;rw[qz2 r];rfl
theorem qe5:∀ ks:List Int,D.imms (Oo ks)=true
 | []=>rfl
 | k::r=>by show (true&&D.imms (Oo r))=true;rw[qe5 r];rfl
theorem qah5{α:Type}{f:α->D}(h:∀ a,(f a).imm=true):∀ l:List α,D.imms (l.map f)=true
 | []=>rfl
 | a::r=>by show ((f a).imm&&D.imms (r.map f))=true;rw[h a,qah5 h r];rfl
theorem qv1(o:Option Int):(Aw o).imm=true:=by cases o<;>rfl
theorem qv0(n:Nat)(g:Nat->Option Int):D.imms (Op n g)=true:=qah5 (λ i=>qv1 _) _
theorem qau6:∀ ks:List Int,intsD (Oo ks)=some ks
 | []=>rfl
 | k::r=>by show (intsD<|Oo r).map (λ is=>k::is)=some (k::r);rw[qau6 r];rfl
theorem qG4:∀ ks:List Int,flats (Oo ks)=some (ks.map V.int)
 | []=>rfl
 | k::r=>by show (Option.bind (some<|V.int k) λ v=>(flats<|Oo r).bind λ a=>some (v::a))=_;rw[qG4 r];rfl
theorem qf8(ks:List Int):(Oo ks).length=ks.length:=zA8 _
theorem qi2(n:Nat)(g:Nat->Option Int):(Op n g).length=n:=by simp[Op]
theorem qz3(h:i < n):(Op n g)[i]? = some (Aw<|g i):=by
 unfold Op;rw[zBe,List.getElem?_range h];rfl
theorem qaH4:(Op n g).set i (Aw o)=Op n (λ j=>if j=i then o else g j):=by
 apply List.ext_getElem?;intro j;by_cases a:j < n
 . rw[qz3 a]
   by_cases e:i=j
   . subst e
     rw[zC7 (by rw[qi2];exact a),if_pos rfl]
   rw[zBk e,qz3 a,if_neg (Ne.symm e)]
 rw[zBw (by rw[Lw,qi2];lia),zBw (by rw[qi2];lia)]
theorem qad9:∀ ps:Pr,qY6 (Oq ps)=some (kvD ps)
 | []=>rfl
 | p::r=>by
   show (Option.bind (some ((Sum.inl p.1:Key),D.int p.2)) λ q=>(qY6<|Oq r).bind λ ps=>some (q::ps))=_;rw[qad9 r];rfl
theorem qam4{m:Int}(h:¬ k∈ps.map (·.1)):Ez (kvD ps) (.inl k) (.int m)=kvD (ps++[(k,m)]):=by
 unfold Ez;rw[if_neg]
 . unfold kvD;rw[zBf];rfl
 intro e;obtain⟨q,a,e⟩:=List.any_eq_true.mp e;obtain⟨r,b,rfl⟩:=zB9.mp a;have e:(Sum.inl r.1:Key)=Sum.inl k:=zAc e;exact h (zB9.mpr ⟨r,b,Sum.inl.inj e⟩)
theorem qT9:∀(a ps:Pr),((ps++a).map (·.1)).Nodup->qu5 (kvD ps) (kvD a)=kvD (ps++a)
 | [],ps,_=>by rw[zAd];rfl
 | q::a,ps,h=>by
   show qu5 (Ez (kvD ps) (.inl q.1)<|.int q.2) (kvD a)=_;have b:¬ q.1∈ps.map (·.1):=by
     rw[zBf,zAx,zBv] at h;exact λ z=>h.2.2 _ z _ zAh rfl
   rw[qam4 b,qT9 a (ps++[(q.1,q.2)]) (by rw[zAr];exact h),zAr];rfl
theorem qan9(h:(ps.map (·.1)).Nodup):qu5 [] (kvD ps)=kvD ps:=qT9 ps [] h
theorem qav5(h:(ps.map (·.1)).Nodup):G7 (.l z<|Oq ps)=some (.dct false<|kvD ps):=by
 show (qY6<|Oq ps).map (λ ps=>D.dct false<|qu5 [] ps)=_;rw[qad9];show some (D.dct false<|qu5 []<|kvD ps)=_;rw[qan9 h]
theorem qar8(k:Int):∀ ps:Pr,Dm (kvD ps) (.inl k)=(ps.lookup k).map .int
 | []=>rfl
 | (p,m)::r=>by
   show Dm ((.inl p,.int m)::kvD r) _=_;by_cases e:p=k
   . subst e
     simp[Dm,zAw]
   have a:Dm ((.inl p,D.int m)::kvD r) (.inl k)=Dm (kvD r) (.inl k):=by simp[Dm,zC5,e]
   rw[a,qar8 k r]
   have:(k == p)=false:=by simpa using λ z=>e z.symm
   simp only[zAw,this]
theorem qa0{o:Option α}{k:α->Prop}(e:o=some a)(h:k a):orF o k:=by rw[e];exact h
theorem Du{p:Prop}[Decidable p]{a b:Prop}(h:p)(x:a):if p then a else b:=by rw[if_pos h];exact x
theorem Hh{p:Prop}[Decidable p]{a b:Prop}(h:¬ p)(x:b):if p then a else b:=by rw[if_neg h];exact x
theorem ite_b{p:Bool}{a b:Prop}(h1:p=true->a)(h2:p=false->b):if p=true then a else b:=by cases p with | true=>exact h1 rfl | false=>exact h2 rfl
noncomputable def E8:Option Int->D
 | some f=>.int f
 | none=>.non
theorem qar3(b:rdN i ds=some x)(h:s [x] (λ d ys=>orF (As [.sl i] ys<|ds.set i .u) λ a=>Q d a) (λ e ys=>orF (As [.sl i] ys<|ds.set i .u) λ a=>xe e a)):qm9 s [] (tbN i Bd) ds Q xe :=
 ⟨by rw[b];rfl,by show orF (rdN i ds) _;rw[b];exact h⟩
theorem qE8(e:f ds=some d)(q:Q d ds):By f ds Q xe:=qa0 e q
theorem qp5(e:R ds d)(q:Q d ds):Ay R ds Q xe:=⟨d,e,q⟩
theorem qb8(a:rdN i ds=some x)(h:tr ds (λ xs ps ds1=>orF (rdN i ds1) λ d=>K (d::xs) (.sl i::ps)<|ds1.set i .u) xe):tbN i tr ds K xe:=⟨by rw[a];rfl,h⟩
theorem qh7(b:f ds=some y)(h:tr ds (λ xs ps a=>K (y::xs) (.no::ps) a) xe):tbV (Dh f) tr ds K xe:=qa0 (k:=λ y=>tr ds (λ xs ps a=>K (y::xs) (.no::ps) a) xe) b h
theorem rd0{r:Ds}(h:d.known=true):rdN 0 (d::r)=some d:=ql7.mpr ⟨rfl,h⟩
theorem qR5{β:Type}(f:α->β)(l:List α):l.filterMap (λ a=>some<|f a)=l.map f:=by simp
section
variable{z:Bool}{C:γ}{n:Int}{wr:Bool}{ps:Pr}
theorem qD3{f:Str}(h:fs.lookup f=some d):D.fld C f (.ins z C fs)=some d:=by
 show (if C=C then fs.lookup f else none)=some d;rw[if_pos rfl,h]
theorem qd8:D.fld C "rooms" (Ad z C n wr ps)=some (.int n):=qD3 (by rfl)
theorem qr0:D.fld C "wraps" (Ad z C n wr ps)=some (.bl wr):=qD3 (by rfl)
theorem qZ9:D.fld C "home_numbers" (Ad z C n wr ps)=some (.dct z<|kvD ps):=qD3 (by rfl)
theorem qau5(h:fs.lookup m=none):(D.ins z C fs).isM C m=true:=by
 show (decide (C=C)&&(fs.lookup m).isNone)=true;rw[zAb rfl,h];rfl
theorem qf9(h:([("rooms",.int n),("wraps",.bl wr),("homes",.l z<|Oq ps),("home_numbers",.dct z<|kvD ps)]:List (Str×D)).lookup m=none):(Ad z C n wr ps).isM C m=true:=qau5 h
theorem A4(h:fa ds=some x)(h':g x=some y):f1 g fa ds=some y:=qaD5.mpr ⟨x,h,h'⟩
theorem Ag(h:fa ds=some x)(h':fb ds=some y)(h2:g x y=some d):f2 g fa fb ds=some d:=qaD4.mpr ⟨x,y,h,h',h2⟩
theorem qi6:(D.ins false C fs).ownI C=some fs:=by
 show (if C=C then some fs else none)=some fs;rw[if_pos rfl]
end
theorem qZ7(b:rdN i ds=some p)(hm:p.isM C m=true)(h:tr ds (λ xs ps ds1=>orF (rdN i ds1) λ d=>s (d::(xs++[])) (λ r ys=>orF (As (.sl i::ps) ys<|ds1.set i .u) λ a=>Q r a) (λ x ys=>orF (As (.sl i::ps) ys<|ds1.set i .u) λ a=>xe x a)) xe):qA3 C m s [] i tr ds Q xe:=⟨qa0 b hm,h⟩
theorem qI5(a:rdN i ds=some x)(e:f [x]=some d)(b:As [.sl i] [x] (ds.set i .u)=some ds)(q:Q d ds):qm9 (By f) [] (tbN i Bd) ds Q xe:=qar3 a (qE8 e<|qa0 b q)
theorem qC1(c:rdN i ds=some x)(b:rdN j ds=some y)(a:rdN i (ds.set j .u)=some x)(r:R [x,y] d)(e:As [.sl i,.sl j] [x,y] ((ds.set j .u).set i .u)=some ds)(q:Q d ds):qm9 (Ay R) [] (tbN i<|tbN j Bd) ds Q xe :=
 qb8 c (qb8 b<|qa0 b<|qa0 a<|qp5 r<|qa0 e q)
theorem Jh(e:rdN i ds=some x)(f:rdN j ds=some y)(c:rdN l ds=some w)(a:rdN j (ds.set l .u)=some y)(b:rdN i ((ds.set l .u).set j .u)=some x)(r:R [x,y,w] d)(g:As [.sl i,.sl j,.sl l] [x,y,w] (((ds.set l .u).set j .u).set i .u)=some ds)(q:Q d ds):qm9 (Ay R) [] (tbN i<|tbN j<|tbN l Bd) ds Q xe :=
 qb8 e (qb8 f<|qb8 c<|qa0 c<|qa0 a<|qa0 b<|qp5 r<|qa0 g q)
theorem qQ5(c:rdN i ds=some p)(hm:p.isM C m=true)(b:rdN j ds=some x)(a:rdN i (ds.set j .u)=some p)(r:R [p,x] d)(e:As [.sl i,.sl j] [p,x] ((ds.set j .u).set i .u)=some ds)(q:Q d ds):qA3 C m (Ay R) [] i (tbN j Bd) ds Q xe :=
 qZ7 c hm (qb8 b<|qa0 b<|qa0 a<|qp5 r<|qa0 e q)
theorem qao0(e:rdN i ds=some p)(hm:p.isM C m=true)(f:rdN j ds=some x)(c:rdN l ds=some y)(a:rdN j (ds.set l .u)=some x)(b:rdN i ((ds.set l .u).set j .u)=some p)(r:R [p,x,y] d)(g:As [.sl i,.sl j,.sl l] [p,x,y] (((ds.set l .u).set j .u).set i .u)=some ds)(q:Q d ds):qA3 C m (Ay R) [] i (tbN j<|tbN l Bd) ds Q xe :=
 qZ7 e hm (qb8 f<|qb8 c<|qa0 c<|qa0 a<|qa0 b<|qp5 r<|qa0 g q)
theorem Fh{t:VT}(h:∀(Q:DK)(xe:XKd),Q (.bl true) ds->t ds Q xe)(h2:u e ds):Gb (sIf (Eg<|ttE t) n Ga) u e ds:=h _ _ h2
theorem if_e{t:VT}(h:∀(Q:DK)(xe:XKd),Q (.bl b) ds->t ds Q xe)(h1:b=true->u e ds)(h2:b=false->v e ds):sIf (ttE t) u v e ds:=h _ _ (by
 show if b=true then u e ds else v e ds
 exact ite_b h1 h2)
theorem if_v(h:f ds=some (.bl b))(h1:b=true->u e ds)(h2:b=false->v e ds):sIf (ttV f) u v e ds:=by
 show orF ((f ds).bind D.asB) _;rw[h];exact ite_b h1 h2
theorem Fi{u:VT}(h:f ds=some (.bl b))(h1:b=true->u ds Q xe)(h2:b=false->v ds Q xe):tIfE (ttV f) u v ds Q xe:=by
 show orF ((f ds).bind D.asB) _;rw[h];exact ite_b h1 h2
theorem qq4(e:f ds=some d)(q:Q d ds):Dh f ds Q xe:=qa0 e q
theorem qm0(b:Bool)(h:f ds=some (.bl b))(h1:b=true->u { e with nx:=w e } ds)(h2:b=false->w e ds):Gb (sIf (ttV f) u Ga) w e ds:=if_v (u:=u) (v:=Ga) h h1 h2
theorem qi3{t:VT}(h:t ds e.rt e.xe):sRet t e ds:=h
theorem qg9(d:D)(h:f ds=some d)(q:e.rt d ds):sRet (Dh f) e ds:=qa0 h q
theorem Av(a:Ds)(h:ds=a)(q:t e a):t e ds:=h ▸ q
theorem qQ9(h:rdN i ds=some (.l z ys)):Ba (fx2 gIsi) (A6 (rdN i)<|A6 (kC<|D.ty "list") λ _=>some []) ds=some (.bl true):=by
 unfold Ba A6;rw[h];rfl
theorem qt4(h:rdN i ds=some (.l z ys)):Ba (fx1 Gn) (A6 (rdN i) λ _=>some []) ds=some (.int (ys.length:Nat)):=by
 unfold Ba A6;rw[h];rfl
theorem qe6{Q:Bool->Ds->Prop}(h:f ds=some (.bl b))(q:Q b ds):ttV f ds Q xe:=by
 show orF ((f ds).bind D.asB) _;rw[h];exact q
theorem qi5{Q:Bool->Ds->Prop}(h:f ds=some (.bl b))(q:Q (!b) ds):Eg (ttV f) ds Q xe:=qe6 (Q:=λ b ds=>Q (!b) ds) h q
theorem qn2{t u:VTT}{Q:Bool->Ds->Prop}(b c:Bool)(h1:∀ Q:Bool->Ds->Prop,Q b ds->t ds Q xe)(h2:b=false->∀ Q:Bool->Ds->Prop,Q c ds->u ds Q xe)(q:Q (b||c) ds):ttOr t u ds Q xe:=h1 _ (by
 cases b with
 | false=>exact h2 rfl _ q
 | true=>exact q)
theorem qe7{t u:VTT}{Q:Bool->Ds->Prop}(b c:Bool)(h1:∀ Q:Bool->Ds->Prop,Q b ds->t ds Q xe)(h2:b=true->∀ Q:Bool->Ds->Prop,Q c ds->u ds Q xe)(q:Q (b&&c) ds):ttAnd t u ds Q xe:=h1 _ (by
 cases b with
 | false=>exact q
 | true=>exact h2 rfl _ q)
theorem if_of(b:Bool)(h:∀ Q:Bool->Ds->Prop,Q b ds->qc ds Q e.xe)(h1:b=true->t e ds)(h2:b=false->u e ds):sIf qc t u e ds:=h _ (ite_b h1 h2)
theorem qh2(b:Bool)(h:∀ Q:Bool->Ds->Prop,Q b ds->qc ds Q e.xe)(h1:b=true->t { e with nx:=w e } ds)(h2:b=false->w e ds):Gb (sIf qc t Ga) w e ds:=h _ (ite_b h1 h2)
theorem qah9{t:VT}(h:∀(Q:DK)(xe:XKd),Q (.bl true) ds->t ds Q xe)(h2:e.nx ds):sIf (Eg<|ttE t) n Ga e ds:=h _ _ h2
theorem qaO2(h:f ds=some (.bl true))(h2:u e ds):Gb (sIf (Eg<|ttV f) n Ga) u e ds:=qi5 (Q:=λ k a=>if k=true then n { e with nx:=u e } a else u e a) (xe:=e.xe) h h2
theorem qaC3:gIsO C (Ad z C n wr ps) (.adr C)=some (.bl true):=by
 show (if C=C then (Ad z C n wr ps).isC C else none)=_;rw[if_pos rfl];show (if C=C then some (D.bl true) else none)=_;rw[if_pos rfl]
theorem qd4{g:VTG}{t:VTS}{e:VEnds}(I:Nat->Ds->Prop):∀(xs:List D)(i:Nat)(ds:Ds),I i ds->(∀(j:Nat)(x:D),xs[j]? = some x->∀ ds,I (i+j) ds->∀ K:Ds->Prop,(∀ a,I (i+j+1) a->K a)->g x ds λ ds1=>t { e with nx:=K,ct:=K,bk:=e.nx } ds1)->(∀ a,I (i+xs.length) a->e.nx a)->Bu g t e xs ds
 | [],_,ds,h,_,hn=>hn ds h
 | x::xs,i,ds,h,hs,hn=>hs 0 x rfl ds h _ λ a f=>qd4 I xs (i+1) a f (λ j y k b c K l=>hs (j+1) y k b (by rw[show i+(j+1)=i+1+j by lia];exact c) K λ d m=>l d (by rw[show i+1+j+1=i+(j+1)+1 by lia];exact m)) λ b c=>hn b (by rw[zAm,show i+(xs.length+1)=i+1+xs.length by lia];exact c)
theorem qR4(h:f ds=some (.int n))(a:Gs n=true)(k:Bu g t e (Dn 0 n.toNat) ds):qam0 (Ja<|tbV (B8 f) Bd) g t e ds:=by
 show orF (f ds) _;rw[h];exact⟨rfl,a,k⟩
theorem qZ6(a:0<=n)(h1:n<=1000):Gs n=true:=by
 unfold Gs;rw[zAb (by lia),zAb (by lia)];rfl
theorem qP4{m:Nat}(h:(Dn 0 m)[j]? = some x):j < m/\x=.int (j:Int):=by
 by_cases a:j < m
 . rw[qas7 a] at h
   cases h;exact⟨a,by rw[Int.zero_add]⟩
 rw[zBw (by unfold Dn;rw[zA8,zB4];lia)] at h;cases h
def E9(p:Int->Bool)(y:D):Option D:=y.asI.bind λ k=>if p k=true then some (.int k) else none
theorem qah2{p:Int->Bool}(h:p k=true):E9 p (.int k)=some (.int k):=if_pos h
theorem qah3{p:Int->Bool}(h:p k=false):E9 p (.int k)=none:=if_neg (by rw[h];decide)
theorem qF8(p:Int->Bool):∀ ks:List Int,(Oo ks).filterMap (E9 p)=Oo (ks.filter p)
 | []=>rfl
 | k::ks=>by
   show Mw (E9 p) (D.int k::Oo ks)=_;rw[zBt];cases h:p k with
   | true=>rw[qah2 h,La h];show D.int k::(Oo ks).filterMap (E9 p)=_;rw[qF8 p ks];rfl
   | false=>rw[qah3 h,K9 (by rw[h];decide),qF8 p ks]
theorem qaP1(h1:fa ds=some (.bl a))(h2:fb ds=some (.bl b)):fOr fa fb ds=some (.bl<|a||b):=by
 unfold fOr;rw[h1,h2];cases a<;>rfl
theorem qai6(h1:fa ds=some (.bl a))(h2:fb ds=some (.bl b)):fAnd fa fb ds=some (.bl<|a&&b):=by
 unfold fAnd;rw[h1,h2];cases a<;>rfl
theorem qb5(ds1:Ds)(h1:∀ K:Ds->Prop,K ds1->t { e with nx:=K } ds)(h2:u e ds1):Gb t u e ds:=h1 (u e) h2
theorem qc1(R:Ds->Prop)(h1:∀ K:Ds->Prop,(∀ ds1,R ds1->K ds1)->t { e with nx:=K } ds)(h2:∀ ds1,R ds1->u e ds1):Gb t u e ds:=h1 (u e) h2
theorem qaw5(I:Nat->Ds->Prop)(n:Nat)(h:I n ds)(c:∀ n ds,I n ds->∀ K:Ds->Prop,(∀ m a,m < n->I m a->K a)->qc ds (λ b ds1=>if b=true then t { e with nx:=K,ct:=K,bk:=e.nx } ds1 else e.nx ds1) e.xe):qaH7 qc t e ds:=by
 have d:∀ N n ds,n < N->I n ds->whN qc t e N ds:=by
   intro N
   induction N with
   | zero=>intro n ds h;exact absurd h (zCq _)
   | succ N f=>intro n ds i h;exact c n ds h _ λ m a j g=>f m a (by lia) g
 exact⟨n+1,d (n+1) n ds (Nat.lt_succ_self n) h⟩
theorem qar2(f:rdN i ds=some x)(c:rdN j ds=some y)(b:rdN i (ds.set j .u)=some x)(h:s [x,y] (λ d ys=>orF (As [.sl i,.sl j] ys ((ds.set j .u).set i .u)) λ a=>Q d a) (λ e ys=>orF (As [.sl i,.sl j] ys ((ds.set j .u).set i .u)) λ a=>xe e a)):qm9 s [] (tbN i<|tbN j Bd) ds Q xe :=
 qb8 f (qb8 c<|qa0 c<|qa0 b h)
theorem qaY7(g:rdN i ds=some x)(k:rdN j ds=some y)(f:rdN l ds=some w)(b:rdN j (ds.set l .u)=some y)(c:rdN i ((ds.set l .u).set j .u)=some x)(h:s [x,y,w] (λ d ys=>orF (As [.sl i,.sl j,.sl l] ys (((ds.set l .u).set j .u).set i .u)) λ a=>Q d a) (λ e ys=>orF (As [.sl i,.sl j,.sl l] ys (((ds.set l .u).set j .u).set i .u)) λ a=>xe e a)):qm9 s [] (tbN i<|tbN j<|tbN l Bd) ds Q xe :=
 qb8 g (qb8 k<|qb8 f<|qa0 f<|qa0 b<|qa0 c h)
theorem qaV8{k:Nat}(f:rdN i ds=some p)(hm:p.isM C m=true)(g:rdN j ds=some x)(h:rdN l ds=some y)(e:rdN k ds=some w)(a:rdN l (ds.set k .u)=some y)(b:rdN j ((ds.set k .u).set l .u)=some x)(c:rdN i (((ds.set k .u).set l .u).set j .u)=some p)(r:R [p,x,y,w] d)(n:As [.sl i,.sl j,.sl l,.sl k] [p,x,y,w] ((((ds.set k .u).set l .u).set j .u).set i .u)=some ds)(q:Q d ds):qA3 C m (Ay R) [] i (tbN j<|tbN l<|tbN k Bd) ds Q xe :=
 qZ7 f hm (qb8 g<|qb8 h<|qb8 e<|qa0 e<|qa0 a<|qa0 b<|qa0 c<|qp5 r<|qa0 n q)
theorem qax8(h:ds[j]? = some d):ds.set j d=ds:=by
 obtain⟨a,e⟩:=zA4.mp h;rw[<- e];exact List.set_getElem_self a
theorem qf3(h:ds[i]? = some d)(a:d.known=true):rdN i ds=some d:=ql7.mpr ⟨h,a⟩
def Oz(ns:List Int)(b:D):Prop:=∃ x y z,b=bagD x y z ns/\Bg x y z ns
theorem Oz.known{b:D}(h:Oz ns b):b.known=true:=by obtain⟨x,y,z,rfl,_⟩:=h;rfl
def qN7:VSp:=λ ds Q _=>∃ b m ns,ds=[b,.int m]/\Oz ns b/\0 < m/\m < 2 ^ 200/\∀ v a,0<=v->v < m->Oz ns a->Q (.int v) [a,.int m]
theorem qc2{b:D}{m:Int}(d:ds[i]? = some b)(B:Oz ns b)(e:f ds=some (.int m))(g:0 < m)(h1:m < 2 ^ 200)(q:∀ v a,0<=v->v < m->Oz ns a->Q (.int v) (ds.set i a)):qm9 qN7 [] (tbN i<|tbV (Dh f) Bd) ds Q xe:=by
 have c:=qf3 d B.known;refine qb8 c (qh7 e<|qa0 c ⟨b,m,ns,rfl,B,g,h1,λ v a h j B'=>?_⟩);show Q (.int v) ((ds.set i .u).set i a);rw[Mf];exact q v a h j B'
theorem qw6{b:D}{m:Int}(f:ds[i]? = some b)(B:Oz ns b)(c:ds[j]? = some (.int m))(d:i≠j)(g:0 < m)(h1:m < 2 ^ 200)(q:∀ v a,0<=v->v < m->Oz ns a->Q (.int v) (ds.set i a)):qm9 qN7 [] (tbN i<|tbN j Bd) ds Q xe:=by
 have h:=qf3 f B.known;have k:rdN j ds=some (.int m):=qf3 c rfl;have o:j < ds.length:=(zA4.mp c).1;refine qar2 h k (qf3 (by rw[zBk (Ne.symm d)];exact f) B.known) ⟨b,m,ns,rfl,B,g,h1,λ v a l n B'=>?_⟩;show Q (.int v) ((((ds.set j .u).set i .u).set i a).set j (.int m));have e:(((ds.set j .u).set i .u).set i a).set j (.int m)=ds.set i a:=by
   rw[Mf,List.set_comm _ _ (Ne.symm d),Mf];exact qax8 (by rw[zBk d];exact c)
 rw[e];exact q v a l n B'
theorem Ji{i j:Int}(h:small j=true):Gm (.int i) (.int j)=some (.int<|i * j):=qi4 (by rw[h,Bool.or_true])
theorem mulL{i j:Int}(h:small i=true):Gm (.int i) (.int j)=some (.int<|i * j):=qi4 (by rw[h,Bool.true_or])
theorem qaE1{i j:Int}(h:0 < j)(h1:j < 2 ^ 200):gDiv (.int i) (.int j)=some (.int<|i / j):=qi4 (by show (decide (0 < j)&&decide (j < 2 ^ 200))=true;rw[zAb h,zAb h1];rfl)
theorem Dp{x:Int}(h:0 < n):Ho (.int x) (.int n)=some (.int<|x % n):=qi4 (zAb h)
theorem qN8{i:Int}(h:-(2 ^ 64) < i)(h':i < 2 ^ 64):small i=true:=by unfold small;rw[zAb h,zAb h'];rfl
theorem Gg(h:r < N):gIx (.l z<|Op N g) (.int (r:Int))=some (Aw<|g r):=qA2 (qz3 h)
theorem qaC2(h:r < N):ixN (Op N g).length (r:Int)=some r:=by
 rw[qi2];unfold ixN;simp[h]
theorem qO2:(Op n g).set i (.int c)=Op n (Row.set g i c):=qaH4 (o:=some c)
theorem qaA7(N:Nat):(Kv N [D.non]).flatten=Op N (λ _=>none):=by
 unfold Op
 induction N with
 | zero=>rfl
 | succ N a=>rw[List.replicate_succ',List.flatten_append,a,Lx,zBf];rfl
theorem qae9(a:0<=n)(h1:n<=64):Gm (.l false [.non]) (.int n)=some (.l false<|Op n.toNat λ _=>none):=by
 show gd _ _=_;rw[<- qaA7];exact qi4 ⟨rfl,by show 1 * n.toNat<=1000000;lia,by lia,by lia⟩
theorem qw0(h:∀ i,i < N->g i=g' i):Op N g=Op N g':=by
 unfold Op;apply List.map_congr_left;intro i a;rw[h i (zAn.mp a)]
theorem qG2(h:f ds=some (.int n))(a:Gs n=true)(k:Bu g t e (Dn 0 n.toNat) ds):qam0 (Ja<|tbV (Dh f) Bd) g t e ds:=by
 show orF (f ds) _;rw[h];exact⟨a,k⟩
theorem qap1(h:rdN i ds=some (.int n))(a:Gs n=true)(k:Bu g t e (Dn 0 n.toNat) (ds.set i .u)):qam0 (Ja<|tbN i Bd) g t e ds:=by
 refine⟨by rw[h];rfl,?_⟩;exact qa0 h ⟨a,k⟩
theorem qae5:Hq true (.int k) (.l z<|Oo ks)=some (.bl<|!decide (k∈ks)):=by
 show ((flats<|Oo ks).bind λ a=>some<|D.bl<|if true=true then !inV (.int k) a else inV (.int k) a)=_;rw[qG4];show some (D.bl<|!inV (.int k) (ks.map V.int))=_;rw[qaC4]
theorem qU3(lo:Int)(n:Nat):(Dn lo n).length=n:=by unfold Dn;rw[zA8,zB4]
theorem ql2(e:f ds=some d)(hi:d.imm=true)(q:Q d ds):B8 f ds Q xe:=qa0 (a:=d) (k:=λ(d:D)=>d.imm=true/\Q d ds) e ⟨hi,q⟩
theorem qw9(h:f ds=some d)(hi:d.imm=true)(q:e.nx (ds.set i d)):Eb (B8 f) (gNm i) e ds:=ql2 (Q:=λ d a=>gNm i d a e.nx) h hi q
theorem qu1(h:f ds=some d)(q:e.nx (ds.set i d)):Eb (Dh f) (gNm i) e ds:=qq4 (Q:=λ d a=>gNm i d a e.nx) h q
theorem qav0(hi:ds[i]? = some (.l false ys))(b:fb ds=some (.int k))(c:ixN ys.length k=some n)(q:K (ds.set i<|.l false<|ys.set n d)):Fg (λ _=>some (i,[])) fb d ds K:=by
 refine qa0 (a:=(i,([]:List Nat))) rfl ?_;refine qa0 (a:=ys) (by show (Bb ds i []).bind D.own=_;rw[qG1 hi];rfl) ?_;refine qa0 (a:=k) (by rw[b];rfl) ?_;refine qa0 c ?_;show K (Bj ds i []<|.l false<|ys.set n d);rw[qE1 hi];exact q
theorem qT1(b:f ds=some d)(c:d.imm=true)(hi:ds[i]? = some (.l false ys))(g:fb ds=some (.int k))(h:ixN ys.length k=some n)(q:e.nx (ds.set i<|.l false<|ys.set n d)):Eb (B8 f) (Fg (λ _=>some (i,[])) fb) e ds :=
 ql2 (Q:=λ d a=>Fg (λ _=>some (i,[])) fb d a e.nx) b c (qav0 hi g h q)
theorem qab6(b:f ds=some d)(hi:ds[i]? = some (.l false ys))(c:fb ds=some (.int k))(g:ixN ys.length k=some n)(q:e.nx (ds.set i<|.l false<|ys.set n d)):Eb (Dh f) (Fg (λ _=>some (i,[])) fb) e ds :=
 qq4 (Q:=λ d a=>Fg (λ _=>some (i,[])) fb d a e.nx) b (qav0 hi c g q)
theorem qc6(c:f ds=some y)(hi:y.imm=true)(h:tr ds (λ xs ps a=>K (y::xs) (.no::ps) a) xe):tbV (B8 f) tr ds K xe:=ql2 (Q:=λ y b=>tr b (λ xs ps a=>K (y::xs) (.no::ps) a) xe) c hi h
theorem qL7(hi:ds[i]? = some (.l false ys))(b:f ds=some d)(c:ys.length < big)(q:Q .non (ds.set i<|.l false<|ys++[d])):El Gc i (tbV (Dh f) Bd) ds Q xe:=by
 have e:(rdN i ds).bind D.own=some ys:=by rw[qf3 hi rfl];rfl
 refine⟨by rw[e];rfl,qh7 b ?_⟩;refine qa0 (k:=λ ys=>orF (Gc ys [d]) λ z=>Q z.2 (ds.set i<|.l false z.1)) e ?_;exact qa0 (a:=(ys++[d],D.non)) (if_pos c) q
theorem qaQ6(hi:ds[i]? = some (.l false ys))(b:ds[j]? = some d)(c:d.known=true)(f:i≠j)(g:ys.length < big)(q:Q .non ((ds.set j .u).set i (.l false<|ys++[d]))):El Gc i (tbN j Bd) ds Q xe:=by
 have e:(rdN i ds).bind D.own=some ys:=by rw[qf3 hi rfl];rfl
 have e2:(rdN i<|ds.set j .u).bind D.own=some ys:=by rw[qf3 (d:=.l false ys) (by rw[zBk (Ne.symm f)];exact hi) rfl];rfl
 refine⟨by rw[e];rfl,qb8 (qf3 b c) ?_⟩;refine qa0 (k:=λ d=>orF ((rdN i<|ds.set j .u).bind D.own) λ ys=>orF (Gc ys [d]) λ z=>Q z.2 ((ds.set j .u).set i (.l false z.1))) (qf3 b c) ?_;refine qa0 (k:=λ ys=>orF (Gc ys [d]) λ z=>Q z.2 ((ds.set j .u).set i (.l false z.1))) e2 ?_;exact qa0 (a:=(ys++[d],D.non)) (if_pos g) q
theorem qaM4{p:List Nat}(h1:pf ds=some (i,p))(h2:(Bb ds i p).bind D.own=some ys)(a:ds[i]? = some d0)(h:tr (ds.set i .u) (λ xs _ ds1=>orF (g ys xs) λ z=>Q z.2<|Bj (ds1.set i d0) i p<|.l false z.1) xe):Ff g pf tr ds Q xe:=by
 unfold Ff;rw[h1];show orF ((Bb ds i p).bind D.own) _;rw[h2];show orF ds[i]? _;rw[a];exact h
theorem qaZ3{f:Int->Int->Int}{b:FV}{x y:Int}(hi:ds[i]? = some (.l false ys))(c:fb ds=some (.int k))(d:0<=k)(g:ys[k.toNat]? = some (.int x))(h:b ds=some (.int y))(q:e.nx (ds.set i<|.l false<|ys.set k.toNat<|.int<|f x y)):sAugV f (λ _=>some (i,[])) fb b e ds:=by
 refine qa0 (a:=(i,([]:List Nat))) rfl ?_;refine qa0 (a:=ys) (by show (Bb ds i []).bind D.own=_;rw[qG1 hi];rfl) ?_;refine qa0 (a:=k) (by rw[c];rfl) ⟨d,?_⟩;refine qa0 (a:=x) (by rw[g];rfl) ?_;refine qa0 (a:=y) (by rw[h];rfl) ?_;show e.nx (Bj ds i [] _);rw[qE1 hi];exact q
theorem and_e(b:Bool)(h:fa ds=some (.bl b))(h1:b=true->tb ds Q xe)(h2:b=false->Q (.bl false) ds):G8 (Dh fa) tb ds Q xe :=
 qq4 (xe:=xe) (Q:=λ x ds=>orF x.asB λ k=>if k=true then tb ds Q xe else Q (.bl false) ds) h (ite_b h1 h2)
theorem qk6(h:K (ds.set i d)):gNm i d ds K:=h
theorem qb7(h:K [] [] ds):Bd ds K xe:=h
theorem qn8(h:te ds (λ _ a=>e.nx a) e.xe):sExpr te e ds:=h
theorem qp6(h:K ((ds.set i x).set j y)):Hc 2 (qK8 (gNm i)<|qK8 (gNm j) Hb) (.q [x,y]) ds K:=⟨rfl,h⟩
theorem qX4{Q:Bool->Ds->Prop}(h:Q true ds):qYes ds Q xe:=h
theorem qu9:Oo S++[.int k]=Oo (S++[k]):=by unfold Oo;rw[zBf];rfl
theorem qar9(h:tr ds (λ xs _ ds1=>xs.length<=big/\a ds1 (λ ys c b=>K (.q xs::ys) (.no::c) b) xe) xe):tbV (Iw tr) a ds K xe:=h
theorem qc7(h:ta ds (λ x ds1=>tr ds1 (λ xs ps a=>K (x::xs) (.no::ps) a) xe) xe):tbV ta tr ds K xe:=h
theorem qaG0(a:fa ds=some x)(b:fb ds=some y)(c:x.imm=true)(d:y.imm=true):Ba gTup (A6 fa<|A6 fb λ _=>some []) ds=some (.q [x,y]):=by
 unfold Ba A6;rw[a,b];show gd (D.imms [x,y]=true/\[x,y].length<=big) (.q [x,y])=_;refine qi4 ⟨?_,by show 2<=1000000;decide⟩;show (x.imm&&(y.imm&&true))=true;rw[c,d];rfl
theorem qG6:Br ys none (some (r:Int))=ys.take r:=by
 unfold Br;have a:HT.sIx ys.length ys.length (some ((r:Nat):Int))=min r ys.length:=HT.qac8 _ _ r;rw[a,HT.qP3,Lh,Nat.sub_zero];by_cases h:r<=ys.length
 . rw[zCy h]
 rw[Nat.min_eq_right (by lia),zCc,zAu (by lia)]
theorem qaY0(h:y∈enD ys):∃ i v,y=.q [.int (i:Nat),v]/\ys[i]? = some v:=by
 obtain⟨⟨v,i⟩,a,rfl⟩:=zB9.mp h;exact⟨i,v,rfl,List.mem_zipIdx_iff_getElem?.mp a⟩
theorem qam2(h:d∈Op N g):d=.non∨∃ k,d=.int k:=by
 unfold Op at h;obtain⟨i,_,rfl⟩:=zB9.mp h;cases g i with
 | none=>exact .inl rfl
 | some k=>exact .inr ⟨k,rfl⟩
theorem qI4{Q:Bool->Ds->Prop}(h:ta ds (λ x ds1=>orF ((fb ds1).bind (g x)) λ d=>orF d.asB λ b=>Q b ds1) xe):ttE (t2v g ta fb) ds Q xe:=h
theorem qe0(h:tr ds (λ xs ps ds1=>s (xs++[]) (λ d ys=>orF (As ps ys ds1) λ a=>Q d a) (λ x ys=>orF (As ps ys ds1) λ a=>xe x a)) xe):qm9 s [] tr ds Q xe:=h
theorem qH6(c:fa ds=some x)(h:tb ds (λ y a=>orF (g x y) λ d=>Q d a) xe):t2 g (Dh fa) tb ds Q xe:=qq4 (xe:=xe) (Q:=λ x b=>tb b (λ y a=>orF (g x y) λ d=>Q d a) xe) c h
theorem qN0(h:ta ds (λ x ds1=>orF ((fb ds1).bind (g x)) λ d=>Q d ds1) xe):t2v g ta fb ds Q xe:=h
theorem qaG5(h:ta ds (λ x ds1=>orF (fb ds1) λ y=>y.imm=true/\orF (g x y) λ d=>Q d ds1) xe):Im g ta fb ds Q xe:=h
theorem qC0(h:tr ds (λ xs _ ds1=>xs.length<=big/\Q (.l false xs) ds1) xe):tLstV tr ds Q xe:=h
theorem qf4(h:te ds (λ d a=>e.nx<|a.set i d) e.xe):Eb te (gNm i) e ds:=h
theorem qaZ7(h:ta ds (λ x ds1=>orF x.asB λ k=>if k=true then tb ds1 Q xe else Q (.bl false) ds1) xe):G8 ta tb ds Q xe:=h
theorem qU0(h:tr ds (λ xs ps ds1=>s (.ins false C []::(xs++[])) (λ d ys=>d.isN=some true/\orF ys.head? λ self=>orF (As ps ys.tail ds1) λ a=>Q self a) (λ x ys=>orF (As ps ys.tail ds1) λ a=>xe x a)) xe):qM9 C s [] tr ds Q xe:=h
theorem qaM8(h:rdN i ds=some (.l z<|Oo S):=by rfl):Ba (fx1 G6) (A6 (rdN i) λ _=>some []) ds=some (.l false<|Oo S):=by
 unfold Ba A6;rw[h];exact qi4 (qe5 S)
theorem eq_ks:∀ ks c:List Int,Dw (eqN 20) (Oo ks) (Oo c)=some (decide (ks=c))
 | [],[]=>rfl
 | [],_::_=>rfl
 | _::_,[]=>rfl
 | k::ks,l::c=>by
   show ((some<|k == l).bind λ a=>(Dw (eqN 20) (Oo ks)<|Oo c).bind λ b=>some<|a&&b)=_;rw[eq_ks ks c];show some ((k == l)&&decide (ks=c))=_;by_cases h:k=l
   . subst h;simp
   simp[h]
theorem qaX5(ks a:List Int):gNe (.l z<|Oo ks) (.l z'<|Oo a)=some (.bl<|!decide (ks=a)):=by
 show (Dw (eqN 20) (Oo ks)<|Oo a).map (λ b=>D.bl<|!b)=_;rw[eq_ks];rfl
theorem Hi(h:te ds (λ d ds1=>Q d.fz ds1) xe):tFzV te ds Q xe:=h
def okN:Nat->D->Bool
 | n+1,.l _ xs=>xs.all (okN n)
 | n+1,.q xs=>xs.all (okN n)
 | _,x=>x.d0||x.flat.isSome
theorem qm7{f:D->D->Option Bool}:∀{xs:List D},(∀ x∈xs,f x x=some true)->Dw f xs xs=some true
 | [],_=>rfl
 | x::xs,h=>by
   show ((f x x).bind λ a=>(Dw f xs xs).bind λ b=>some<|a&&b)=_;rw[h x zAh,qm7 λ y c=>h y (zA6 _ c)];rfl
theorem qR6(h:(x.d0||x.flat.isSome)=true):eqZ x x=some true:=by
 unfold eqZ;split
 . rfl
 rename_i hn
 have a:x.d0=false:=by
   cases e:x.d0 with
   | false=>rfl
   | true=>rw[e] at hn;exact absurd rfl hn
 rw[a,Bool.false_or] at h;cases x with
 | non=>rfl
 | bl b=>show some (eqV (.bl b)<|.bl b)=_;rw[qz5 rfl]
 | int i=>show some (eqV (.int i)<|.int i)=_;rw[qz5 rfl]
 | str i=>show some (eqV (.str i)<|.str i)=_;rw[qz5 rfl]
 | _=>cases h
theorem qz6:∀{n:Nat}{x:D},okN n x=true->eqN n x x=some true
 | 0,x,h=>by
   rw[qR7];refine qR6 ?_;cases x<;>exact h
 | n+1,x,h=>by
   cases x with
   | l z b=>exact qm7 λ y a=>qz6 (zBi.mp h y a)
   | q b=>exact qm7 λ y a=>qz6 (zBi.mp h y a)
   | _=>exact qR6 h
theorem qR0(h:okN 21 x=true):gNe x x=some (.bl false):=by
 have e:eqT x x=some true:=by
   cases x with
   | l z b=>exact qm7 λ y a=>qz6 (zBi.mp h y a)
   | q b=>exact qm7 λ y a=>qz6 (zBi.mp h y a)
   | _=>exact qR6 h
 unfold gNe;rw[e];rfl
theorem qK0(h:(Oo ks)[i]? = some y):∃ z,ks[i]? = some z/\y=.int z:=by
 unfold Oo at h;rw[zBe] at h;cases e:ks[i]? with
 | none=>rw[e] at h;cases h
 | some z=>rw[e] at h;exact⟨z,rfl,(Nj h).symm⟩
theorem ql3(h:ks[i]? = some k):ks.take (i+1)=ks.take i++[k]:=by rw[zBj,h];rfl
theorem qy6(b:ks.Nodup)(h:ks[i]? = some k):¬ k∈ks.take i:=λ z=>by
 obtain⟨j,a⟩:=List.getElem?_of_mem z;rw[List.getElem?_take] at a;split at a
 . rename_i hlt
   obtain⟨d,c⟩:=zA4.mp h;obtain⟨e,e2⟩:=zA4.mp a
   have:=(Mj b).mp (e2.trans c.symm)
   lia
 cases a
theorem qaO4:∀ ks:List Int,D.fzs (Oo ks)=Oo ks
 | []=>rfl
 | k::r=>congrArg (D.int k::·) (qaO4 r)
theorem qU9:∀ ps:Pr,D.fzs (Oq ps)=Oq ps
 | []=>rfl
 | p::r=>congrArg (D.q [.int p.1,.int p.2]::·) (qU9 r)
theorem qaO5:∀ ps:Pr,D.fzk (kvD ps)=kvD ps
 | []=>rfl
 | p::r=>congrArg ((Sum.inl p.1,D.int p.2)::·) (qaO5 r)
theorem qav2:(Ad z C n wr ps).fz=Ad true C n wr ps:=by
 show D.ins true C [("rooms",.int n),("wraps",.bl wr),("homes",.l true<|D.fzs<|Oq ps),("home_numbers",.dct true<|D.fzk<|kvD ps)]=_;rw[qU9,qaO5];rfl
theorem Dc(ks:List Int):(D.l z<|Oo ks).fz=.l true (Oo ks):=congrArg (D.l true) (qaO4 ks)
theorem qaY4{l h:Option Int}(a:rdN i ds=some (.l z<|Oo S))(h1:lo ds=some l)(h2:hi ds=some h)(e:Br (Oo S) l h=Oo T):fsl (rdN i) lo hi ds=some (.l false<|Oo T):=by
 unfold fsl;rw[a,Option.bind_some,h1,Option.bind_some,h2,Option.bind_some,if_pos (show noT (D.l z<|Oo S)=true from rfl)];show gd (D.imms (Br (Oo S) l h)=true) (D.l false<|Br (Oo S) l h)=_;rw[e];exact qi4 (qe5 T)
theorem qar6(h:A.length+B.length<=1000):Hn (.l z<|Oo A) (.l z'<|Oo B)=some (.l false<|Oo<|A++B):=by
 show gd _ (D.l false<|Oo A++Oo B)=_;rw[show Oo (A++B)=Oo A++Oo B from zBf];exact qi4 ⟨qe5 A,qe5 B,by rw[qf8,qf8];unfold big;lia⟩
theorem co_to(h:tr ds (λ xs _ ds1=>orF (gc xs) λ d=>Q d ds1) xe):tcO gc (Ja tr) ds Q xe:=h
theorem qah6(h:qc ds (λ b a=>if b=true then t { e with nx:=w e } a else w e a) e.xe):Gb (sIf qc t Ga) w e ds:=h
theorem qL3{g:VTG}{qf:VTT}{te:VT}{K:Ds->Ds->Prop}(I:Nat->Ds->Ds->Prop):∀(xs:Ds)(i:Nat)(acc l:Ds),I i acc l->(∀(j:Nat)(x:D),xs[j]? = some x->∀ acc l,I (i+j) acc l->∀ R:Ds->Ds->Prop,(∀ acc' l',I (i+j+1) acc' l'->R acc' l')->g x l λ ι1=>qf ι1 (λ b ι2=>if b=true then te ι2 (λ d ι3=>acc.length < big/\R (acc++[d]) ι3) (λ _ _=>False) else R acc ι2) (λ _ _=>False))->(∀ acc l,I (i+xs.length) acc l->K acc l)->Ec g qf te K xs acc l
 | [],_,acc,l,h,_,hn=>hn acc l h
 | x::xs,i,acc,l,h,hs,hn=>hs 0 x rfl acc l h _ λ acc' l' c=>qL3 I xs (i+1) acc' l' c (λ j y e acc2 ι2 a R f=>hs (j+1) y e acc2 ι2 (by rw[show i+(j+1)=i+1+j by lia];exact a) R λ acc3 ι3 k=>f acc3 ι3 (by rw[show i+1+j+1=i+(j+1)+1 by lia];exact k)) λ acc2 ι2 a=>hn acc2 ι2 (by rw[zAm,show i+(xs.length+1)=i+1+xs.length by lia];exact a)
theorem qS7{l m n:Int}(h1:l<=n)(h2:n<=m):(D.int n).within l m=true:=by
 show (decide (l<=n)&&decide (n<=m))=true;rw[zAb h1,zAb h2];rfl
theorem qQ4(h1:g ds=some d)(hi:d.imm=true)(hm:d.isM C m=true)(h:tr ds (λ xs ps ds1=>s (d::(xs++[])) (λ r ys=>orF (As (.no::ps) ys ds1) λ b=>Q r b) (λ x ys=>orF (As (.no::ps) ys ds1) λ b=>xe x b)) xe):Jb C m s [] g tr ds Q xe:=qa0 (a:=d) h1 ⟨hi,hm,h⟩
theorem qS4{p:List Nat}(h:Bb ds i p=some (.hole w)):As (.pl i p w::ps) (y::ys) ds=As ps ys (Bj ds i p y):=by
 show (match Bb ds i p with | some (.hole a)=>if a=w then As ps ys (Bj ds i p y) else none | _=>none)=_;rw[h];exact if_pos rfl
theorem qQ6(a:rdN i ds=some p)(hm:p.isM C m=true)(r:R [p] d)(b:As [.sl i] [p] (ds.set i .u)=some ds)(q:Q d ds):qA3 C m (Ay R) [] i Bd ds Q xe :=
 qZ7 a hm (qb7<|qa0 a<|qp5 r<|qa0 b q)
theorem qaf1{p:List Nat}(h1:pf ds=some (i,p))(h2:Bb ds i p=some d)(hm:d.isM C m=true)(h:∀ w,tr (Bj ds i p<|.hole w) (λ xs ps ds1=>s (d::(xs++[])) (λ r ys=>orF (As (Pl.pl i p w::ps) ys ds1) λ b=>Q r b) (λ x ys=>orF (As (Pl.pl i p w::ps) ys ds1) λ b=>xe x b)) xe):Iv C m s [] pf tr ds Q xe :=
 qa0 (a:=(i,p)) h1 (qa0 (a:=d) h2 ⟨hm,h⟩)
theorem qaR7(h:tr ds (λ xs _ ds1=>xs.length<=big/\Q (.q xs) ds1) xe):Iw tr ds Q xe:=h
theorem qaG6(h:ta ds (λ x ds1=>tb ds1 (λ y a=>orF (g x y) λ d=>Q d a) xe) xe):t2 g ta tb ds Q xe:=h
theorem qaR8(h:rdN i ds=some d)(q:Q d.fz (ds.set i d.fz)):tFz i ds Q xe:=qa0 h q
def Af(n:Int)(wr:Bool)(ps:Pr):D:=.q [.int n,.bl wr,.l true (Oq ps)]
theorem qaw3(hi:ds[i]? = some (.l false ys))(b:f ds=some d)(c:d.imm=true)(g:ys.length < big)(q:Q .non (ds.set i<|.l false<|ys++[d])):El Gc i (tbV (B8 f) Bd) ds Q xe:=by
 have e:(rdN i ds).bind D.own=some ys:=by rw[qf3 hi rfl];rfl
 refine⟨by rw[e];rfl,qc6 b c ?_⟩;refine qa0 (k:=λ ys=>orF (Gc ys [d]) λ z=>Q z.2 (ds.set i<|.l false z.1)) e ?_;exact qa0 (a:=(ys++[d],D.non)) (if_pos g) q
local macro_rules | `(tactic| walk_at "s")=>`(tactic| exact⟨rfl,rfl,rfl,by decide +kernel,rfl,by decide +kernel,by decide +kernel⟩)
local macro_rules | `(tactic| walk_at "m")=>`(tactic| (intro _ _ _ _ _ k l;repeat' first | exact id | exact k _ _ | exact l _ _ | refine Exists.imp λ _=>?_ | refine And.imp ?_ ?_ | refine Or.imp ?_ ?_ | refine forall_imp λ _=>?_))
local macro_rules | `(tactic| walk_at "l")=>`(tactic| (intro _ _ _ h;(repeat (first | refine Exists.elim h λ _ h=>?_ | refine And.elim (λ h _=>?_) h));rw[h];exact⟨rfl,rfl⟩))
theorem lt2:2<=big:=by show 2<=1000000;decide
theorem lt3:3<=big:=by show 3<=1000000;decide
theorem lt4:4<=big:=by show 4<=1000000;decide
noncomputable def top(i:Nat):Kh:=PySem.Challenge.pw_homeward_k81_parted.main.body.getD i (.Pass ⟨0,0,0,0⟩)
abbrev qas4:Kh:=top 0
abbrev qx4:Kh:=top 12
abbrev qg4:Kh:=top 13
abbrev qs3:Kh:=top 14
abbrev qo5:Kh:=top 15
abbrev qh8:Kh:=top 16
abbrev qk1:Kh:=top 17
abbrev qs6:Kh:=qj6 (top 18) 0
abbrev qk3:Kh:=qj6 (top 18) 2
abbrev qs7:Kh:=qj6 (top 18) 4
abbrev qx8:Kh:=qj6 (top 18) 5
abbrev qg5:Kh:=qj6 (top 18) 6
abbrev qo4:Kh:=top 20
abbrev qe3:Kh:=top 21
abbrev qx2:Kh:=top 22
abbrev qs2:Kh:=top 23
abbrev qx5:Kh:=top 24
abbrev qs4:Kh:=top 26
abbrev qk2:Kh:=top 27
abbrev qk0:Kh:=top 28
abbrev qx6:Kh:=top 29
abbrev qx7:Kh:=qj6 (top 31) 0
abbrev qh9:Kh:=qj6 (top 31) 1
abbrev qj0:Kh:=qj6 (top 31) 2
abbrev qI3:Kh:=qj6 (top 31) 3
abbrev ql6:Kh:=qj6 (top 31) 4
abbrev qE5:Kh:=qj6 (top 31) 5
abbrev qs5:Kh:=qj6 (top 31) 8
abbrev qo6:Kh:=qj6 (top 31) 9
abbrev qe9:Kh:=top 33
abbrev qi9:Kh:=top 34
abbrev qx3:Kh:=top 35
abbrev qE4:Kh:=top 36
abbrev qO9:Kh:=top 38
abbrev qay3:Kh:=top 39
abbrev qac6:Kh:=top 40
abbrev qac7:Kh:=top 41
abbrev qay2:Kh:=top 42
abbrev qP2:Kh:=top 43
abbrev qx9:Kh:=top 44
abbrev qE6:Kh:=top 45
abbrev qk5:Kh:=top 46
abbrev qP1:Kh:=top 47
abbrev qy1:Kh:=top 48
abbrev qay0:Kh:=top 49
abbrev qk4:Kh:=top 50
abbrev qay1:Kh:=top 51
abbrev qy0:Kh:=top 52
abbrev qP0:Kh:=top 53
abbrev Gh:Kh:=top 54
set_option genInjectivity false in
set_option genSizeOf false in
structure Adr where
 f0:γ
 d0:δ
 f1:γ
 d1:δ
 f2:γ
 d2:δ
 f3:γ
 d3:δ
 f4:γ
 d4:δ
 f5:γ
 d5:δ
 f6:γ
 d6:δ
 f7:γ
 d7:δ
 f8:γ
 d8:δ
 f9:γ
 d9:δ
 f10:γ
 d10:δ
 f11:γ
 d11:δ
 f12:γ
 d12:δ
 f13:γ
 d13:δ
 f14:γ
 d14:δ
 f15:γ
 d15:δ
 f16:γ
 d16:δ
 f17:γ
 d17:δ
 f18:γ
 d18:δ
 f19:γ
 d19:δ
 f20:γ
 d20:δ
 f21:γ
 d21:δ
 f22:γ
 d22:δ
 f23:γ
 d23:δ
 f24:γ
 d24:δ
 f25:γ
 d25:δ
 f26:γ
 d26:δ
 f27:γ
 d27:δ
 f28:γ
 d28:δ
 f29:γ
 d29:δ
 f30:γ
 d30:δ
 f31:γ
 d31:δ
 f32:γ
 d32:δ
 f33:γ
 d33:δ
 f34:γ
 d34:δ
 f35:γ
 d35:δ
 f36:γ
 d36:δ
 f37:γ
 d37:δ
 f38:γ
 d38:δ
 f39:γ
 d39:δ
 f40:γ
 d40:δ
 f41:γ
 d41:δ
 f42:γ
 d42:δ
 f43:γ
 d43:δ
 f44:γ
 d44:δ
 f45:γ
 d45:δ
 f46:γ
 d46:δ
 f47:γ
 d47:δ
 f48:γ
 d48:δ
 f49:γ
 d49:δ
 Cc:Tok
 Ce:Tok
 Cf:Tok
 C3:γ
 C4:γ
structure Txt(K:Nl)(mg:Str->Option V')(a:Adr):Prop where
 d0:Df K mg "_wall" "_wall" qas4 a.f0 a.d0 ["k"]
 d1:Df K mg "is_whole" "is_whole" qx4 a.f1 a.d1 ["thing"]
 d2:Df K mg "is_whole_within" "is_whole_within" qg4 a.f2 a.d2 ["thing", "least", "most"]
 d3:Df K mg "is_number" "is_number" qs3 a.f3 a.d3 ["thing"]
 d4:Df K mg "are_parted" "are_parted" qo5 a.f4 a.d4 ["numbers"]
 d5:Df K mg "is_number_pair" "is_number_pair" qh8 a.f5 a.d5 ["thing"]
 d6:Df K mg "is_home_list" "is_home_list" qk1 a.f6 a.d6 ["thing"]
 d7:Md K a.C3 "__init__" "Plan.__init__" qs6 a.f7 a.d7 ["self", "rooms", "wraps", "homes"]
 d8:Md K a.C3 "is_room" "Plan.is_room" qk3 a.f8 a.d8 ["self", "thing"]
 d9:Md K a.C3 "home" "Plan.home" qs7 a.f9 a.d9 ["self", "key"]
 d10:Md K a.C3 "far" "Plan.far" qx8 a.f10 a.d10 ["self", "key", "room"]
 d11:Md K a.C3 "goes_ahead" "Plan.goes_ahead" qg5 a.f11 a.d11 ["self", "room", "one", "other"]
 d12:Df K mg "room_ahead" "room_ahead" qo4 a.f12 a.d12 ["plan", "room"]
 d13:Df K mg "word_by_room_ahead" "word_by_room_ahead" qe3 a.f13 a.d13 ["plan", "rooms", "room"]
 d14:Df K mg "word_due" "word_due" qx2 a.f14 a.d14 ["plan", "rooms", "room"]
 d15:Df K mg "is_turned" "is_turned" qs2 a.f15 a.d15 ["plan", "rooms"]
 d16:Df K mg "fault_of" "fault_of" qx5 a.f16 a.d16 ["plan", "rooms"]
 d17:Df K mg "are_crowd" "are_crowd" qs4 a.f17 a.d17 ["plan", "keys", "room"]
 d18:Df K mg "crowded_room" "crowded_room" qk2 a.f18 a.d18 ["plan", "keys"]
 d19:Df K mg "refuse_crowd" "refuse_crowd" qk0 a.f19 a.d19 ["plan", "keys"]
 d20:Df K mg "bring_in" "bring_in" qx6 a.f20 a.d20 ["plan", "rooms", "key"]
 d21:MdN K a.C4 "__init__" "Row.__init__" qx7 a.f21 a.d21 ["self", "plan", "rooms"]
 d22:Md K a.C4 "rooms_held" "Row.rooms_held" qh9 a.f22 a.d22 ["self"]
 d23:Md K a.C4 "keys_held" "Row.keys_held" qj0 a.f23 a.d23 ["self"]
 d24:Md K a.C4 "many" "Row.many" qI3 a.f24 a.d24 ["self"]
 d25:Md K a.C4 "room_of" "Row.room_of" ql6 a.f25 a.d25 ["self", "key"]
 d26:Md K a.C4 "put" "Row.put" qE5 a.f26 a.d26 ["self", "key"]
 d27:Md K a.C4 "deeds" "Row.deeds" qs5 a.f27 a.d27 ["self"]
 d28:Md K a.C4 "copied" "Row.copied" qo6 a.f28 a.d28 ["self"]
 d29:Df K mg "are_alike_at_home" "are_alike_at_home" qe9 a.f29 a.d29 ["one", "other", "keys"]
 d30:Df K mg "refuse_unlike" "refuse_unlike" qi9 a.f30 a.d30 ["one", "other"]
 d31:Df K mg "parts_at" "parts_at" qx3 a.f31 a.d31 ["one", "other"]
 d32:Df K mg "only_in" "only_in" qE4 a.f32 a.d32 ["one", "other"]
 d33:Df K mg "_law_whole" "_law_whole" qO9 a.f33 a.d33 ["_law_found"]
 d34:Df K mg "_law_bag" "_law_bag" qay3 a.f34 a.d34 ["_law_script"]
 d35:Df K mg "_law_take" "_law_take" qac6 a.f35 a.d35 ["_law_bag_here", "_law_many"]
 d36:Df K mg "_law_home" "_law_home" qac7 a.f36 a.d36 ["_law_plan", "_law_key"]
 d37:Df K mg "_law_far" "_law_far" qay2 a.f37 a.d37 ["_law_plan", "_law_key", "_law_room"]
 d38:Df K mg "_law_ahead" "_law_ahead" qP2 a.f38 a.d38 ["_law_plan", "_law_room", "_law_one", "_law_other"]
 d39:Df K mg "_law_passing" "_law_passing" qx9 a.f39 a.d39 ["_law_plan", "_law_keys"]
 d40:Df K mg "_law_housed" "_law_housed" qE6 a.f40 a.d40 ["_law_plan", "_law_keys"]
 d41:Df K mg "_law_drawn_homes" "_law_drawn_homes" qk5 a.f41 a.d41 ["_law_bag_here", "_law_size", "_law_many"]
 d42:Df K mg "_law_drawn" "_law_drawn" qP1 a.f42 a.d42 ["_law_bag_here", "_law_most"]
 d43:Df K mg "_law_fitting" "_law_fitting" qy1 a.f43 a.d43 ["_law_plan", "_law_keys"]
 d44:Df K mg "_law_two" "_law_two" qay0 a.f44 a.d44 ["_law_bag_here", "_law_plan", "_law_keys"]
 d45:Df K mg "_law_other_homes" "_law_other_homes" qk4 a.f45 a.d45 ["_law_bag_here", "_law_plan", "_law_keys"]
 d46:Df K mg "_law_row" "_law_row" qay1 a.f46 a.d46 ["_law_bag_here", "_law_plan", "_law_homes", "_law_keys"]
 d47:Df K mg "_law_parting" "_law_parting" qy0 a.f47 a.d47 ["_law_first", "_law_second"]
 d48:Df K mg "_law_right" "_law_right" qP0 a.f48 a.d48 ["_law_plan", "_law_rows", "_law_sides"]
 d49:Df K mg "law" "law" Gh a.f49 a.d49 ["_law_script"]
 Cp:mg "MOST_NUMBER" = some (.int 1000000000000000000 a.Cc)
 Cq:mg "MOST_ROOMS" = some (.int 64 a.Ce)
 Cs:mg "MOST_HOMES" = some (.int 64 a.Cf)
 D5:mg "abs" = none
 D0:mg "all" = none
 Ct:mg "bool" = none
 D1:mg "dict" = none
 Ck:mg "enumerate" = none
 Cw:mg "int" = none
 C8:mg "isinstance" = none
 Cj:mg "len" = none
 Cg:mg "list" = none
 D4:mg "max" = none
 Cy:mg "min" = none
 Ch:mg "range" = none
 Co:mg "reversed" = none
 D6:mg "set" = none
 Cz:mg "sorted" = none
 Cv:mg "tuple" = none
 D7:mg "zip" = none
 C5:Cl K mg "Plan" a.C3
 D3:Mk K a.C3 a.f7
 C7:qg8 K a.C3 "rooms"
 Cb:qg8 K a.C3 "wraps"
 Cr:qg8 K a.C3 "homes"
 Cd:qg8 K a.C3 "home_numbers"
 D2:IsO K a.C3
 C6:Cl K mg "Row" a.C4
 Cu:Mk K a.C4 a.f21
 C9:qg8 K a.C4 "plan"
 Ca:qg8 K a.C4 "held"
 Ci:qg8 K a.C4 "done"
section
variable{P:Kc}{w:Ke}{K:Nl}{mg:Str->Option V'}{base:Heap}{a:Adr}
theorem qY5:qa8 ["thing"] ["thing"] (qa3 qx4):=by walk_at "s"
def qX7:VSp:=By (fx1 λ x=>x.kind.map λ _=>.bl x.whole)
theorem qY8(T:Txt K mg a):VFn P w K mg base 1 a.f1 a.d1 ["thing"] qX7:=by
 refine VFn.mk' T.d1.F qY5 (wOf [true]) qw4 (λ _ _ _=>qag3) (λ _ _ _=>imm1) (λ _ _ _ _ _ _ _ c=>⟨_,(Aj<|Au<|qa5<|vand (vbi qg7 qv8.ops T.C8<|qa2 (vnm 0) (qa2 (vty "int" T.Cw) qa6 rfl) rfl)<|Hr<|vnot<|vbi qg7 qv8.ops T.C8<|qa2 (vnm 0) (qa2 (vty "bool" T.Ct) qa6 rfl) rfl),λ f Q g h=>?_⟩);obtain⟨x,d,rfl,e,q⟩:=Jg h;obtain⟨t,b,rfl⟩:=zAj.mp e;cases x<;>first | exact q | cases b
theorem qr6:qa8 ["thing", "least", "most"] ["thing", "least", "most"] (qa3 qg4):=by walk_at "s"
def qr2:VSp:=By (fx3 λ x l m=>x.kind.bind λ _=>l.asI.bind λ i=>m.asI.map λ j=>.bl<|x.within i j)
theorem qf7(T:Txt K mg a):VFn P w K mg base 2 a.f2 a.d2 ["thing", "least", "most"] qr2:=by
 refine VFn.mk' T.d2.F qr6 (wOf [true,true,true]) qw4 (λ _ _ _=>qaN3) (λ _ _ _=>imm3) (λ _ _ _ _ _ _ _ b=>⟨_,(Aj<|Au<|Gq (Ah T.d1 (qY8 T) qa1 (rm b)<|vaN 0 Ab)<|Ir<|qa5<|vch op_le os_le op_le os_le (vnm 1) (vnm 0)<|vnm 2),λ o Q p h=>?_⟩);obtain⟨x,l,m,d,rfl,e,q⟩:=pure3 h;obtain⟨t,c,e⟩:=zA1.mp e;obtain⟨i,f,e⟩:=zA1.mp e;obtain⟨j,g,rfl⟩:=zAj.mp e;cases l<;>cases f
 cases m<;>cases g
 cases x with
 | int n =>
   refine⟨rfl,?_⟩;show orF (f3 gLe gLe (rdN 1) (rdN 0) (rdN 2) [.int n,.int i,.int j]) _;have k:f3 gLe gLe (rdN 1) (rdN 0) (rdN 2) [.int n,.int i,.int j]=some (.bl<|decide (i<=n)&&decide (n<=j)):=by
     show (if decide (i<=n)=true then some (D.bl<|decide (n<=j)) else some (.bl false))=_;cases decide (i<=n)<;>rfl
   rw[k];exact q
 | _=>first | exact⟨rfl,q⟩ | cases c
theorem qI2:qa8 ["numbers"] ["numbers"] (qa3 qo5):=by walk_at "s"
def qH8:VSp:=Ay λ ds d=>∃ z ks,ds=[.l z (Oo ks)]/\ks.length<=1000/\d=.bl (decide ks.Nodup)
theorem qJ2(T:Txt K mg a):VFn P w K mg base 1 a.f4 a.d4 ["numbers"] qH8:=by
 refine VFn.mk2 T.d4.F qI2 (wOf [true]) qb2 (by walk_at "l") (λ _ _ _ _ _ _ _ e=>⟨_,(Aj<|Au<|qa5<|v2 (A8 (qj3 e.u64)<|qb1 _) Bk (vlenS T.Cj T.D6<|vnm 0)<|vbi qA0 qz9.ops T.Cj<|qa2 (vnm 0) qa6 rfl),λ j Q k h=>?_⟩);obtain⟨d,⟨z,b,rfl,f,rfl⟩,q⟩:=h;have g:f1 Hf (rdN 0) [.l z (Oo b)]=some (.int<|qm2 b):=by
   show ((intsD<|Oo b).bind λ c=>gd (c.length<=1000)<|.int<|qm2 c)=_;rw[qau6];exact qi4 f
 have e2:f2 gEq (f1 Hf<|rdN 0) (Ba (fx1 Gn)<|A6 (rdN 0) λ x=>some []) [.l z (Oo b)]=some (.bl<|decide b.Nodup):=by
   show ((f1 Hf (rdN 0) [.l z (Oo b)]).bind λ x=>gEq x<|.int (Oo b).length)=_;rw[g,qf8];show some (D.bl ((qm2 b:Int) == (b.length:Int)))=_
   have:=qR8 b
   by_cases h:b.Nodup
   . rw[zAb h,this.mpr h,zBc]
   have i:¬ ((qm2 b:Int)=(b.length:Int)):=λ z=>h (this.mp (by exact_mod_cast z))
   rw[zAv h,zCz i]
 exact qa0 e2 q
theorem qO4:qa8 ["thing"] ["thing"] (qa3 qs3):=by walk_at "s"
def qo1:VSp:=By (fx1 λ x=>x.kind.map λ _=>.bl x.num)
theorem qc8(T:Txt K mg a):VFn P w K mg base 3 a.f3 a.d3 ["thing"] qo1:=by
 refine VFn.mk' T.d3.F qO4 (wOf [true]) qw4 (λ _ _ _=>qag3) (λ _ _ _=>imm1) (λ _ _ _ _ _ _ _ b=>⟨_,(Aj<|Au<|Ah T.d2 (qf7 T) qa1 (rm b)<|vaN 0<|vaV (qa5 Ae)<|vaV (qa5<|vgi T.Cp) Ab),λ f Q g h=>?_⟩);obtain⟨x,d,rfl,e,q⟩:=Jg h;obtain⟨t,c,rfl⟩:=zAj.mp e;cases x<;>first | exact⟨rfl,q⟩ | cases c
theorem qv5:qa8 ["thing"] ["thing"] (qa3 qh8):=by walk_at "s"
def _root_.LV.D.pairB:D->Bool
 | .q [x,y]=>x.num&&y.num
 | _=>false
def _root_.LV.D.kinded:D->Bool
 | .q ds=>(ds.all λ d=>d.kind.isSome&&d.imm)&&decide (ds.length<=1000)
 | _=>true
def qv3:VSp:=By (fx1 λ x=>if x.kinded=true then x.kind.map λ _=>.bl x.pairB else none)
theorem qv7(T:Txt K mg a):VFn P w K mg base 4 a.f5 a.d5 ["thing"] qv3:=by
 refine VFn.mk' T.d5.F qv5 (wOf [true]) qw4 (λ _ _ _=>qag3) (λ _ _ _=>imm1) (λ _ _ _ _ _ _ _ f=>⟨_,(Aj<|Au<|Gq (qa5<|vbi qg7 qv8.ops T.C8<|qa2 (vnm 0) (qa2 (vty "tuple" T.Cv) qa6 rfl) rfl)<|Gq (qa5<|v2 (A8 (qj3 f.u64)<|qb1 _) Bk (vbi qA0 qz9.ops T.Cj<|qa2 (vnm 0) qa6 rfl) Ae)<|Gq (Ah T.d3 (qc8 T) qa1 (rm f)<|vaV (qb4<|v2 (At qb0) Ak (vnm 0) Ae) Ab)<|Ir<|Ah T.d3 (qc8 T) qa1 (rm f)<|vaV (qb4<|v2 (At qb0) Ak (vnm 0) Ae) Ab),λ b Q m h=>?_⟩);obtain⟨x,d,rfl,e,q⟩:=Jg h;cases x with
 | q b =>
   by_cases c:(D.q b).kinded=true
   . rw[if_pos c] at e
     cases e;have c:=zAf.mp c;have i:=zBi.mp c.1
     match b with
     | []=>exact q
     | [_]=>exact q
     | [x,y] =>
       have j:=zAf.mp (i x (by simp));have l:=zAf.mp (i y (by simp));obtain⟨t,n⟩:=zB8.mp j.1;obtain⟨u,o⟩:=zB8.mp l.1;refine⟨j.2,?_⟩;refine qa0 (a:=D.bl x.num) (by show (x.kind.map _)=_;rw[n];rfl) ?_;refine ite_b (λ g=>⟨l.2,qa0 (a:=D.bl y.num) (by show (y.kind.map _)=_;rw[o];rfl) ?_⟩) λ g=>?_
       . have:(D.q [x,y]).pairB=y.num:=by show (x.num&&y.num)=_;rw[g];rfl
         rw[this] at q;exact q
       have:(D.q [x,y]).pairB=false:=by show (x.num&&y.num)=_;rw[g];rfl
       rw[this] at q;exact q
     | x::y::z::r =>
       have e2:f2 gEq (Ba (fx1 Gn)<|A6 (rdN 0) λ x=>some []) (kC<|D.int 2) [.q (x::y::z::r)]=some (.bl false):=by
         show some (D.bl (((x::y::z::r).length:Int) == 2))=_
         have:(((x::y::z::r).length:Int) == 2)=false:=by
           have:((x::y::z::r).length:Int)≠2:=by simp;lia
           simpa using this
         rw[this]
       have:orF (f2 gEq (Ba (fx1 Gn)<|A6 (rdN 0) λ x=>some []) (kC<|D.int 2) [.q (x::y::z::r)]) (λ d=>orF d.asB λ k=>if k=true then G8 (qm9 qo1 []<|tbV (B8<|f2 gIx (rdN 0)<|kC<|D.int 0) Bd) (qm9 qo1 []<|tbV (B8<|f2 gIx (rdN 0)<|kC<|D.int 1) Bd) [.q (x::y::z::r)] (λ d b=>Q d<|fin (wOf [true]) 0 [.q (x::y::z::r)] b) (λ p b=>m p<|fin (wOf [true]) 0 [.q (x::y::z::r)] b) else Q (.bl false) [.q (x::y::z::r)]):=by
         rw[e2];exact q
       exact this
   rw[if_neg c] at e;cases e
 | _=>first | (cases e;exact q) | cases e
theorem qB2:qa8 ["thing"] ["thing"] (qa3 qk1):=by walk_at "s"
noncomputable def Gy:D->Option Int
 | .q (.int k::_)=>some k
 | _=>none
def _root_.LV.D.homesB:D->Bool
 | .l _ ys=>decide (ys.length<=64)&&(ys.all D.pairB&&decide (ys.filterMap Gy).Nodup)
 | _=>false
def _root_.LV.D.lstOk(p:D->Bool):D->Bool
 | .l _ ys=>D.imms ys&&ys.all p&&decide (ys.length<=1000)
 | x=>x.kind.isSome
def Jj(y:D):Bool:=y.kind.isSome&&y.kinded
theorem qaL9(h:x.num=true):∃ n,x=.int n/\Ap n:=by
 cases x with
 | int n =>
   have:=zAf.mp h
   exact⟨n,rfl,zAc this.1,zAc this.2⟩
 | _=>cases h
theorem qt2(h:Ap n):(D.int n).num=true:=by
 show (decide (0<=n)&&decide (n<=1000000000000000000))=true;rw[zAb h.1,zAb h.2];rfl
theorem qaK7(h:y.pairB=true):∃ k m,y=.q [.int k,.int m]/\Ap k/\Ap m:=by
 cases y with
 | q a =>
   match a,h with
   | [x,y],h =>
     have h:=zAf.mp h;obtain⟨k,rfl,b⟩:=qaL9 h.1;obtain⟨m,rfl,c⟩:=qaL9 h.2;exact⟨k,m,rfl,b,c⟩
 | _=>cases h
theorem qad2:∀{ys:Ds},ys.all D.pairB=true->∃ ps:Pr,ys=Oq ps/\∀ p∈ps,Ap p.1/\Ap p.2
 | [],_=>⟨[],rfl,λ p h=>by simp at h⟩
 | y::r,h=>by
   rw[K5,zBo] at h;obtain⟨k,m,rfl,b,c⟩:=qaK7 h.1;obtain⟨ps,rfl,d⟩:=qad2 h.2;refine⟨(k,m)::ps,rfl,λ p a=>?_⟩;rcases zAi.mp a with rfl | a
   . exact⟨b,c⟩
   exact d p a
theorem qag9:∀ ps:Pr,(Oq ps).filterMap Gy=ps.map (·.1)
 | []=>rfl
 | p::r=>by show p.1::(Oq r).filterMap Gy=_;rw[qag9 r];rfl
theorem qaQ7:∀{ps:Pr},(∀ p∈ps,Ap p.1/\Ap p.2)->(Oq ps).all D.pairB=true
 | [],_=>rfl
 | p::r,h=>by
   show (((D.int p.1).num&&(D.int p.2).num)&&(Oq r).all D.pairB)=true;rw[qt2 (h p zAh).1,qt2 (h p zAh).2,qaQ7 λ q a=>h q (zA6 _ a)];rfl
theorem qaQ8:∀ ps:Pr,(Oq ps).all Jj=true
 | []=>rfl
 | p::r=>by show (true&&(Oq r).all Jj)=true;rw[qaQ8 r];rfl
theorem qK2(h:qM1 ps):(D.l z<|Oq ps).homesB=true/\(D.l z<|Oq ps).lstOk Jj=true:=by
 have a:(Oq ps).length<=64:=by simpa[Oq] using h.len
 constructor
 . show (decide ((Oq ps).length<=64)&&((Oq ps).all D.pairB&&decide ((Oq ps).filterMap Gy).Nodup))=true
   rw[zAb a,qaQ7 h.nums,qag9,zAb h.nd];rfl
 show (D.imms (Oq ps)&&(Oq ps).all Jj&&decide ((Oq ps).length<=1000))=true;rw[qz2,qaQ8,zAb (by lia)];rfl
theorem qW9{α:Type}(f:α->Bool):∀ l:List α,bools (l.map λ a=>.bl<|f a)=some (l.map f)
 | []=>rfl
 | a::r=>by show (bools<|r.map λ a=>D.bl<|f a).map (λ b=>f a::b)=_;rw[qW9 f r];rfl
theorem qaF2(f:α->Bool)(l:List α):gAll (.l false<|l.map λ a=>.bl<|f a)=some (.bl<|l.all f):=by
 show (bools<|l.map λ a=>D.bl<|f a).map (λ b=>D.bl<|b.all id)=_;rw[qW9];show some (D.bl ((l.map f).all id))=_;rw[M5];rfl
def qA6:VSp:=Ay λ ds d=>∃ x,ds=[x]/\x.lstOk Jj=true/\d=.bl x.homesB
theorem qB5(T:Txt K mg a):VFn P w K mg base 5 a.f6 a.d6 ["thing"] qA6:=by
 refine VFn.mk2 T.d6.F qB2 (wOf [true]) qb2 (by walk_at "l") (λ _ _ _ _ _ _ _ A=>⟨_,(Aa (sif (tor (Bn<|tv<|vbi qg7 qv8.ops T.C8<|qa2 (vnm 0) (qa2 (vty "list" T.Cg) qa6 rfl) rfl)<|Gp<|q2 (Aq Bo<|qb1 _) B9 (vbi qA0 qz9.ops T.Cj<|qa2 (vnm 0) qa6 rfl)<|vgi T.Cs).te (Aj<|Au<|qa5 vbl) Ax)<|Aj<|Au<|Gq (ebi (qH1 rfl) qaE4.ops T.D0<|Ev<|vaV (ecN (NY:=["pair"]) (src:=[none]) 0<|blk (λ f C g H0 i=>(A7 0<|show (["pair"]:List Str).Nodup by decide +kernel)) (λ f C g H0 i=>Em) (λ f C g H0 i=>(Ah T.d5 (qv7 T) qg6 (rm A)<|vaN 0 Ab))) Ab)<|Ir<|Ah T.d4 (qJ2 T) qa1 (rm A)<|vaV (ecN (NY:=["pair"]) (src:=[none]) 0<|blk (λ f C g H0 i=>(A7 0<|show (["pair"]:List Str).Nodup by decide +kernel)) (λ f C g H0 i=>Em) (λ f C g H0 i=>(qb4<|v2 (At qb0) Ak (vnm 0) Ae))) Ab),λ J Q L h=>?_⟩);obtain⟨d,⟨x,rfl,j,rfl⟩,q⟩:=h;cases x with
 | l z b =>
   have j:=zAf.mp j;have k:=zAf.mp j.1;have B:=zAc j.2;refine ite_b (p:=decide ((64:Int) < (b.length:Nat))) (λ h=>?_) (λ h=>?_)
   . have o:¬ b.length<=64:=by have:=zAc h;lia
     have:(D.l z b).homesB=false:=by
       show (decide (b.length<=64)&&_)=false;rw[zAv o];rfl
     rw[this] at q;exact q
   have o:b.length<=64:=by have:=zBg h;lia
   have E:(D.l z b).homesB=(b.all D.pairB&&decide (b.filterMap Gy).Nodup):=by
     show (decide (b.length<=64)&&_)=_;rw[zAb o];rfl
   have m:=zBi.mp k.2;refine⟨k.1,?_⟩;refine qj9 (λ ι=>∃ d,ι=[d]) (λ y=>some<|.bl y.pairB) b [] _ (by show 0+b.length < big;unfold big;lia) ⟨_,rfl⟩ ?_ ?_
   . rintro y s ι u ⟨d,rfl⟩ R v c
     have G:=zAf.mp (m y s);obtain⟨t,H⟩:=zB8.mp G.1;refine qar3 (x:=y) (rd0<|ql9 H) (qa0 (a:=D.bl y.pairB) ?_ ?_)
     . show (if y.kinded=true then y.kind.map _ else none)=_
       rw[if_pos G.2,H];rfl
     exact⟨c,v _ ⟨_,rfl⟩⟩
   rintro ι ⟨d,rfl⟩;rw[zB3,qR5];refine qa0 (qaF2 D.pairB b) (ite_b (λ r=>?_) λ r=>?_)
   . obtain⟨n,rfl,M⟩:=qad2 r
     refine⟨qz2 n,qj9 (λ ι=>∃ d,ι=[d]) (λ y=>(Gy y).map .int) (Oq n) [] _ (by show 0+(Oq n).length < big;unfold big;lia) ⟨_,rfl⟩ ?_ ?_⟩
     . rintro y s ι u ⟨d,rfl⟩ R v c
       obtain⟨p,I,rfl⟩:=zB9.mp s;exact⟨rfl,c,v _ ⟨_,rfl⟩⟩
     rintro ι ⟨d,rfl⟩;have e:[]++(Oq n).filterMap (λ y=>(Gy y).map D.int)=Oo (n.map (·.1)):=by
       rw[zB3];unfold Oq Oo;rw[Mg,zCr];exact qR5 _ _
     rw[e];rw[E,r,qag9] at q;exact⟨_,⟨false,_,rfl,by simp;simp[Oq] at o;lia,rfl⟩,q⟩
   rw[E,r] at q;exact q
 | _=>first | exact q | cases j
theorem qO7:qa8 ["self", "rooms", "wraps", "homes"] ["self", "rooms", "wraps", "homes"] (qa3 qs6):=by walk_at "s"
def qN5(C:γ):VSp:=λ ds Q _=>∃ n wr z ps,ds=[.ins false C [],.int n,.bl wr,.l z (Oq ps)]/\1<=n/\n<=64/\qM1 ps/\Q .non [Ad false C n wr ps,.int n,.bl wr,.l z (Oq ps)]
theorem qau2:G6 (.l z<|Oq ps)=some (.l false<|Oq ps):=qi4 (qz2 ps)
theorem qQ2(T:Txt K mg a):VFn P w K mg base 6 a.f7 a.d7 ["self", "rooms", "wraps", "homes"] (qN5 a.C3):=by
 refine VFn.mk2 T.d7.F qO7 (wOf [true,true,true,true]) (by walk_at "m") (by walk_at "l") (λ _ _ _ _ _ _ _ f=>⟨_,(Aa (sif (Bn<|te<|Ah T.d2 (qf7 T) qa1 (rm f)<|vaN 1<|vaV (qa5 Ae)<|vaV (qa5<|vgi T.Cq) Ab) (Aj ql5) Ax)<|Aa (sif (Bn<|tv<|vbi qg7 qv8.ops T.C8<|qa2 (vnm 2) (qa2 (vty "bool" T.Ct) qa6 rfl) rfl) (Aj ql5) Ax)<|Aa (sif (Bn<|te<|Ah T.d6 (qB5 T) qa1 (rm f)<|vaN 3 Ab) (Aj ql5) Ax)<|Aa (Gd rfl (vpn 0) (qb4<|vnm 1) T.C5.cl T.C7)<|Aa (Gd rfl (vpn 0) (qb4<|vnm 2) T.C5.cl T.Cb)<|Aa (Gd rfl (vpn 0) (qa5<|Fq qg0 qD5.ops T.Cg<|qa2 (vnm 3) qa6 rfl) T.C5.cl T.Cr)<|Aj<|Gd rfl (vpn 0) (qa5<|Fq (qL5 rfl) qav7.ops T.D1<|qa2 (vnm 3) qa6 rfl) T.C5.cl T.Cd),λ k Q g h=>?_⟩);obtain⟨n,wr,z,c,rfl,i,j,e,q⟩:=h;refine qb5 [.ins false a.C3 [],.int n,.bl wr,.l z (Oq c)] (λ K b=>?_) (qb5 [.ins false a.C3 [],.int n,.bl wr,.l z (Oq c)] (λ K b=>b)<|qb5 [.ins false a.C3 [],.int n,.bl wr,.l z (Oq c)] (λ K b=>?_) ?_)
 . refine qah9 (λ Q g q=>qe0<|qb8 (x:=.int n) rfl<|qh7 (y:=.int 1) rfl<|qh7 (y:=.int 64) rfl<|qb7<|qa0 (a:=D.int n) rfl<|qE8 (d:=D.bl true) ?_ q) b
   show some (D.bl ((D.int n).within 1 64))=_;rw[qS7 i j]
 . refine qar3 rfl ⟨D.bl true,⟨_,rfl,(qK2 e).2,by rw[(qK2 e).1]⟩,b⟩
 refine qb5 [.ins false a.C3 [("rooms",.int n)],.int n,.bl wr,.l z (Oq c)] (λ K b=>⟨rfl,qa0 (a:=(0,[])) rfl<|qa0 qi6 ⟨by decide,b⟩⟩) ?_;refine qb5 [.ins false a.C3 [("rooms",.int n),("wraps",.bl wr)],.int n,.bl wr,.l z (Oq c)] (λ K b=>⟨rfl,qa0 (a:=(0,[])) rfl<|qa0 qi6 ⟨by show 1 < 100;decide,b⟩⟩) ?_;refine qb5 [.ins false a.C3 [("rooms",.int n),("wraps",.bl wr),("homes",.l false<|Oq c)],.int n,.bl wr,.l z (Oq c)] (λ K b=>?_) ?_
 . refine qa0 (qau2 (z:=z)) ?_
   exact qa0 (a:=(0,[])) rfl (qa0 qi6 ⟨by show 2 < 100;decide,b⟩)
 refine qa0 (qav5 (z:=z) e.nd) ?_;exact qa0 (a:=(0,[])) rfl (qa0 qi6 ⟨by show 3 < 100;decide,q⟩)
theorem qB3:qa8 ["self", "thing"] ["self", "thing"] (qa3 qk3):=by walk_at "s"
def qA8(C:γ):VSp:=Ay λ ds d=>∃ z n wr ps x t,ds=[Ad z C n wr ps,x]/\x.kind=some t/\d=.bl (x.within 0<|n - 1)
theorem qn7(T:Txt K mg a):VFn P w K mg base 3 a.f8 a.d8 ["self", "thing"] (qA8 a.C3):=by
 refine VFn.mk2 T.d8.F qB3 (wOf [true,true]) qb2 (by walk_at "l") (λ _ _ _ _ _ _ _ f=>⟨_,(Aj<|Au<|Ah T.d2 (qf7 T) qa1 (rm f)<|vaN 1<|vaV (qa5 Ae)<|vaV (qa5<|v2 (Am qt0) qs8 (Be rfl (vnm 0) T.C5.cl T.C7) Ae) Ab),λ i Q j h=>?_⟩);obtain⟨d,⟨z,n,wr,b,x,t,rfl,c,rfl⟩,q⟩:=h;have e:rdN 1 [Ad z a.C3 n wr b,x]=some x:=ql7.mpr ⟨rfl,ql9 c⟩;have g:f2 gSub (f1 (D.fld a.C3 "rooms")<|rdN 0) (kC<|.int 1) [Ad z a.C3 n wr b,x]=some (.int<|n - 1):=Ag (A4 rfl qd8) rfl rfl;show qm9 _ _ (tbN 1 _) [Ad z a.C3 n wr b,x] _ _;refine qb8 e ?_;refine qh7 (y:=.int 0) rfl ?_;refine qh7 g ?_;refine qa0 e ?_;refine qE8 (d:=.bl (x.within 0<|n - 1)) ?_ (qa0 rfl q);show x.kind.bind _=_;rw[c];rfl
theorem qO8:qa8 ["self", "key"] ["self", "key"] (qa3 qs7):=by walk_at "s"
def qN6(C:γ):VSp:=Ay λ ds d=>∃ z n wr ps k,ds=[Ad z C n wr ps,.int k]/\1<=n/\Ap k/\d=.int (qb3 n ps k)
theorem qai2(h:fa ds=some (.dct z<|kvD ps))(a:rdN i ds=some (.int k)):fget fa (rdN i) (rdN i) ds=some (.int ((ps.lookup k).getD k)):=by
 unfold fget;rw[h,a];show gd (((Dm (kvD ps)<|.inl k).getD (.int k)).imm=true) ((Dm (kvD ps)<|.inl k).getD (.int k))=_;rw[qar8];cases ps.lookup k<;>rfl
theorem qaM6{x:Int}(h:1<=n):Ho (.int x) (.int n)=some (.int<|x % n):=qi4 (zAb (by lia))
theorem qi0(T:Txt K mg a):VFn P w K mg base 4 a.f9 a.d9 ["self", "key"] (qN6 a.C3):=by
 refine VFn.mk2 T.d9.F qO8 (wOf [true,true]) qb2 (by walk_at "l") (λ _ _ _ _ _ _ _ b=>⟨_,(Aa (sif (Bn<|te<|Ah T.d3 (qc8 T) qa1 (rm b)<|vaN 1 Ab) (Aj ql5) Ax)<|Aj<|Au<|qa5<|v2 (Am ql1) ql0 (vget (hu_of b) (Be rfl (vnm 0) T.C5.cl T.Cd) (vnm 1) (vnm 1) ⟨rfl,rfl,rfl,rfl⟩)<|Be rfl (vnm 0) T.C5.cl T.C7),λ g Q i h=>?_⟩);obtain⟨d,⟨z,n,wr,c,k,rfl,e,f,rfl⟩,q⟩:=h;have key:orF (f2 Ho (fget (f1 (D.fld a.C3 "home_numbers")<|rdN 0) (rdN 1)<|rdN 1) (f1 (D.fld a.C3 "rooms")<|rdN 0) [Ad z a.C3 n wr c,.int k]) (λ d=>Q d [Ad z a.C3 n wr c,.int k]):=qa0 (Ag (qai2 (A4 rfl qZ9) rfl) (A4 rfl qd8)<|qaM6 e) q;exact qar3 rfl (qE8 (d:=D.bl true) (by show some (D.bl (D.int k).num)=_;rw[qt2 f])<|qa0 rfl<|qa0 (a:=true) rfl key)
theorem qC5:qa8 ["self", "key", "room", "steps"] ["self", "key", "room"] (qa3 qx8):=by walk_at "s"
def qY1(C:γ):VSp:=Ay λ ds d=>∃ z n wr ps k r,ds=[Ad z C n wr ps,.int k,.int r]/\1<=n/\Ap k/\0<=r/\r < n/\d=E8 (A5 n wr ps k r)
theorem qan5(a:Ap k):fx1 (λ x=>x.kind.map λ _=>.bl x.num) [.int k]=some (.bl true):=by
 show some (D.bl (D.int k).num)=_;rw[qt2 a]
theorem qas6{r:Int}(d:0<=r)(h1:r < n):∃ z' c a b x t,[Ad z C n wr ps,.int r]=[Ad z' C c a b,x]/\x.kind=some t/\D.bl true=.bl (x.within 0<|c - 1) :=
 ⟨z,n,wr,ps,_,_,rfl,rfl,by rw[qS7 d (by lia)]⟩
theorem qm6(T:Txt K mg a):VFn P w K mg base 5 a.f10 a.d10 ["self", "key", "room"] (qY1 a.C3):=by
 refine VFn.mk2 T.d10.F qC5 (wOf [true,true,true]) qb2 (by walk_at "l") (λ _ _ _ _ _ _ _ e=>⟨_,(Aa (sif (Bn<|te<|Ah T.d3 (qc8 T) qa1 (rm e)<|vaN 1 Ab) (Aj ql5) Ax)<|Aa (sif (Bn<|te<|qr1 0 T.d8 T.C5.cl (qn7 T) qa1 (rm e)<|vaN 2 Ab) (Aj ql5) Ax)<|Aa (An 3 qC5.nd<|e2n 2 (Am qt0) qs8<|qr1 0 T.d9 T.C5.cl (qi0 T) qa1 (rm e)<|vaN 1 Ab)<|Aa (sif (tv<|Be rfl (vnm 0) T.C5.cl T.Cb) (Aj<|Au<|qa5<|v2 (Am ql1) ql0 (vnm 3)<|Be rfl (vnm 0) T.C5.cl T.C7) Ax)<|Aj<|Au<|eif (q2 (Aq Fv<|qb1 _) G5 (vnm 3) Ae) (qb4<|vnm 3)<|qa5 Bc),λ s Q i h=>?_⟩);obtain⟨d,⟨z,n,wr,c,k,r,rfl,j,m,f,g,rfl⟩,q⟩:=h;refine Fh (λ Q i q=>qI5 (x:=.int k) rfl (qan5 m) rfl q) ?_;refine Fh (λ Q i q=>qQ5 (p:=Ad z a.C3 n wr c) (x:=.int r) rfl (qf9 rfl) rfl rfl (qas6 f g) rfl q) ?_;refine qb5 [Ad z a.C3 n wr c,.int k,.int r,.int (r - qb3 n c k)] (λ K o=>?_) ?_
 . exact⟨rfl,qQ5 (p:=Ad z a.C3 n wr c) (x:=.int k) (d:=.int (qb3 n c k)) rfl (qf9 rfl) rfl rfl ⟨z,n,wr,c,k,rfl,j,m,rfl⟩ rfl<|qa0 (a:=D.int (r - qb3 n c k)) rfl o⟩
 unfold A5 at q;refine qm0 wr (A4 rfl qr0) (λ h=>?_) (λ h=>?_)
 . subst h
   exact qg9 (.int ((r - qb3 n c k) % n)) (Ag rfl (A4 rfl qd8)<|qaM6 j) q
 subst h;refine qi3 (Fi (b:=decide (0<=r - qb3 n c k)) rfl (λ h=>?_) (λ h=>?_))
 . rw[if_neg (by decide),if_pos (zAc h)] at q
   exact⟨rfl,q⟩
 rw[if_neg (by decide),if_neg (zBg h)] at q;exact q
theorem qf6:qa8 ["self", "room", "one", "other", "one_far", "other_far"] ["self", "room", "one", "other"] (qa3 qg5):=by walk_at "s"
def qr3(C:γ):VSp:=Ay λ ds d=>∃ z n wr ps r x y,ds=[Ad z C n wr ps,.int r,.int x,.int y]/\1<=n/\0<=r/\r < n/\Ap x/\Ap y/\d=.bl (qf2 n wr ps r x y)
theorem qap5{r:Int}(h1:1<=n)(f:Ap k)(g:0<=r)(h:r < n):∃ z' c a b e d,[Ad z C n wr ps,.int k,.int r]=[Ad z' C c a b,.int e,.int d]/\1<=c/\Ap e/\0<=d/\d < c/\E8 (A5 n wr ps k r)=E8 (A5 c a b e d) :=
 ⟨z,n,wr,ps,k,r,rfl,h1,f,g,h,rfl⟩
theorem qj4(T:Txt K mg a):VFn P w K mg base 6 a.f11 a.d11 ["self", "room", "one", "other"] (qr3 a.C3):=by
 refine VFn.mk2 T.d11.F qf6 (wOf [true,true,true,true]) qb2 (by walk_at "l") (λ _ _ _ _ _ _ _ j=>⟨_,(Aa (sif (Bn<|te<|qr1 0 T.d8 T.C5.cl (qn7 T) qa1 (rm j)<|vaN 1 Ab) (Aj ql5) Ax)<|Aa (sif (Bn<|te<|Ah T.d3 (qc8 T) qa1 (rm j)<|vaN 2 Ab) (Aj ql5) Ax)<|Aa (sif (Bn<|te<|Ah T.d3 (qc8 T) qa1 (rm j)<|vaN 3 Ab) (Aj ql5) Ax)<|Aa (An 4 qf6.nd<|qr1 0 T.d10 T.C5.cl (qm6 T) qa1 (rm j)<|vaN 2<|vaN 1 Ab)<|Aa (An 5 qf6.nd<|qr1 0 T.d10 T.C5.cl (qm6 T) qa1 (rm j)<|vaN 3<|vaN 1 Ab)<|Aa (sif (q2 (Aq Da<|qb1 _) Di (vnm 4) Bc) (Aj<|Au<|qa5 vbl) Ax)<|Aa (sif (q2 (Aq Da<|qb1 _) Di (vnm 5) Bc) (Aj<|Au<|qa5 vbl) Ax)<|Aj<|Au<|qa5<|vor (v2 (A8 Bo<|qb1 _) B9 (vnm 4)<|vnm 5)<|Hr<|vand (v2 (A8 (qj3 j.u64)<|qb1 _) Bk (vnm 4)<|vnm 5)<|Hr<|v2 (A8 op_lt<|qb1 _) os_lt (vnm 2)<|vnm 3),λ A Q k h=>?_⟩);obtain⟨d,⟨z,n,wr,c,r,x,y,rfl,o,e,i,s,t,rfl⟩,q⟩:=h;refine Fh (λ Q k q=>qQ5 (p:=Ad z a.C3 n wr c) (x:=.int r) rfl (qf9 rfl) rfl rfl (qas6 e i) rfl q) ?_;refine Fh (λ Q k q=>qI5 (x:=.int x) rfl (qan5 s) rfl q) ?_;refine Fh (λ Q k q=>qI5 (x:=.int y) rfl (qan5 t) rfl q) ?_;refine qb5 [Ad z a.C3 n wr c,.int r,.int x,.int y,E8 (A5 n wr c x r),.u] (λ K m=>?_) ?_
 . exact qao0 (p:=Ad z a.C3 n wr c) (x:=.int x) (y:=.int r) rfl (qf9 rfl) rfl rfl rfl rfl (qap5 o s e i) rfl m
 refine qb5 [Ad z a.C3 n wr c,.int r,.int x,.int y,E8 (A5 n wr c x r),E8 (A5 n wr c y r)] (λ K m=>?_) ?_
 . exact qao0 (p:=Ad z a.C3 n wr c) (x:=.int y) (y:=.int r) rfl (qf9 rfl) rfl rfl rfl rfl (qap5 o t e i) rfl m
 unfold qf2 at q;cases u:A5 n wr c x r with
 | none =>
   rw[u] at q;exact q
 | some f =>
   rw[u] at q;cases v:A5 n wr c y r with
   | none =>
     rw[v] at q;exact q
   | some g =>
     rw[v] at q;refine qm0 false rfl nofun λ _=>?_
     refine qm0 false rfl nofun λ _=>?_
     exact qg9 _ (qaP1 (a:=decide (g < f)) rfl<|qai6 (a:=decide (f=g)) (b:=decide (x < y)) rfl rfl) q
theorem qI1:qa8 ["plan", "room"] ["plan", "room"] (qa3 qo4):=by walk_at "s"
def qH7(C:γ):VSp:=Ay λ ds d=>∃ z n wr ps r,ds=[Ad z C n wr ps,.int r]/\d=(if 0 < r then .int (r - 1) else if wr=true then .int (n - 1) else .non)
theorem qJ0(T:Txt K mg a):VFn P w K mg base 1 a.f12 a.d12 ["plan", "room"] (qH7 a.C3):=by
 refine VFn.mk2 T.d12.F qI1 (wOf [true,true]) qb2 (by walk_at "l") (λ _ _ _ _ _ _ _ e=>⟨_,(Aa (sif (q2 (Aq Bo<|qb1 _) B9 (vnm 1) Ae) (Aj<|Au<|qa5<|v2 (Am qt0) qs8 (vnm 1) Ae) Ax)<|Aj<|Au<|eif (tv<|Be rfl (vnm 0) T.C5.cl T.Cb) (qa5<|v2 (Am qt0) qs8 (Be rfl (vnm 0) T.C5.cl T.C7) Ae)<|qa5 Bc),λ f Q g h=>?_⟩);obtain⟨d,⟨z,n,wr,c,r,rfl,rfl⟩,q⟩:=h;refine Av [Ad z a.C3 n wr c,.int r] rfl ?_;refine qm0 (decide (0 < r)) rfl (λ h=>?_) λ h=>?_
 . rw[if_pos (zAc h)] at q
   exact q
 rw[if_neg (zBg h)] at q;refine qi3 (Fi (b:=wr) (A4 rfl qr0) (λ h=>?_) (λ h=>?_))
 . rw[if_pos h] at q
   exact qq4 (d:=.int (n - 1)) (Ag (A4 rfl qd8) rfl rfl) q
 rw[if_neg (by rw[h];decide)] at q;exact q
theorem qd9:qa8 ["plan", "rooms", "room", "ahead", "thing"] ["plan", "rooms", "room"] (qa3 qe3):=by walk_at "s"
noncomputable def Gi:Option Str->D
 | none=>.non
 | some s=>.str s
theorem qag7{t:D}{u:String}(h:t.kind=some u):t=.non∨t.isN=some false:=by
 cases t<;>first | exact .inl rfl | exact .inr rfl | cases h
theorem qF0{t:D}(h:t.num=true):∃ x,t=.int x/\Ap x:=by
 cases t with
 | int x =>
   have:=zAf.mp h
   exact⟨x,rfl,zAc this.1,zAc this.2⟩
 | _=>cases h
def Eo(n:Int)(wr:Bool)(ps:Pr)(p:Nat)(t:D)(k:Int):Option Str:=match t with
 | .non=>some "empty"
 | .int x=>if (D.int x).num=true then (if qf2 n wr ps (p:Int) x k=true then none else some "order") else none
 | _=>none
theorem qak3{p:Nat}{t:D}(h:t.num=false)(h':t.isN=some false):Eo n wr ps p t k=none:=by
 cases t with
 | non=>cases h'
 | int x =>
   show (if (D.int x).num=true then (if qf2 n wr ps (p:Int) x k=true then (none:Option Str) else some "order") else none)=none;rw[if_neg (by rw[h];decide)]
 | _=>rfl
structure Rm(n:Int)(ys:Ds)(r:Nat):Prop where
 len:ys.length=n.toNat
 kn:∀ y∈ys,∃ t,y.kind=some t
 im:D.imms ys=true
 fl:∀ i y,i < r->ys[i]? = some y->y=.non∨∃ k,y=.int k/\Ap k
theorem qT7{t:D}{u:String}(h:t.kind=some u):fx1 (λ x=>x.kind.map λ _=>.bl x.num) [t]=some (.bl t.num):=by
 show t.kind.map _=_;rw[h];rfl
theorem Jk(h:ys[r]? = some y):gIx (.l z ys) (.int (r:Int))=some y:=qA2 h
def qn0(C:γ):VSp:=Ay λ ds d=>∃ z n wr ps z' ys r k t,ds=[Ad z C n wr ps,.l z' ys,.int (r:Nat)]/\1<=n/\r < n.toNat/\(0 < r∨wr=true)/\Rm n ys 0/\ys[r]? = some (.int k)/\Ap k/\ys[Row.prev n.toNat r]? = some t/\d=Gi (Eo n wr ps (Row.prev n.toNat r) t k)
theorem qn1(T:Txt K mg a):VFn P w K mg base 7 a.f13 a.d13 ["plan", "rooms", "room"] (qn0 a.C3):=by
 refine VFn.mk2 T.d13.F qd9 (wOf [true,true,true]) qb2 (by walk_at "l") (λ _ _ _ _ _ _ _ j=>⟨_,(Aa (An 3 qd9.nd<|Ah T.d12 (qJ0 T) qa1 (rm j)<|vaN 0<|vaN 2 Ab)<|Aa (An 4 qd9.nd<|qb4<|v2 (At qb0) Ak (vnm 1)<|vnm 3)<|Aa (sif (q2 (Aq Da<|qb1 _) Di (vnm 4) Bc) (Aj<|Au<|qa5 F6) Ax)<|Aa (sif (F7 (te<|Ah T.d3 (qc8 T) qa1 (rm j)<|vaN 4 Ab)<|E2<|Bn<|te<|qr1 0 T.d11 T.C5.cl (qj4 T) qa1 (rm j)<|vaN 3<|vaN 4<|vaV (qb4<|v2 (At qb0) Ak (vnm 1)<|vnm 2) Ab).te (Aj<|Au<|qa5 F6) Ax)<|Aj<|Au<|qa5 Bc),λ L Q M h=>?_⟩);obtain⟨d,⟨z,n,wr,c,e,f,r,k,t,rfl,C,m,E,R,G,H,g,rfl⟩,q⟩:=h;refine Av [Ad z a.C3 n wr c,.l e f,.int (r:Nat),.u,.u] rfl ?_;have I:=Row.qn6 (n:=n.toNat) m;have v:(if 0 < ((r:Nat):Int) then D.int ((r:Int) - 1) else if wr=true then D.int (n - 1) else .non)=.int (Row.prev n.toNat r:Nat):=by
   rcases Row.por n.toNat r with⟨e1,e2⟩ | ⟨e1,e2⟩
   . rw[if_neg (by lia),if_pos (E.resolve_left (by lia)),e2]
     congr 1;lia
   rw[if_pos (by lia),e2];congr 1;lia
 generalize Row.prev n.toNat r=p at I v q g;obtain⟨u,i⟩:=R.kn t (zB1 g);refine qb5 [Ad z a.C3 n wr c,.l e f,.int (r:Nat),.int (p:Nat),.u] (λ K o=>?_) ?_
 . exact qC1 (x:=Ad z a.C3 n wr c) (y:=.int (r:Nat)) (d:=.int (p:Nat)) rfl rfl rfl ⟨z,n,wr,c,(r:Nat),rfl,v.symm⟩ rfl o
 refine qb5 [Ad z a.C3 n wr c,.l e f,.int (r:Nat),.int (p:Nat),t] (λ K o=>qa0 (Ag rfl rfl<|Jk g) ⟨qt6 R.im g,o⟩) ?_;have A:rdN 4 [Ad z a.C3 n wr c,.l e f,.int (r:Nat),.int (p:Nat),t]=some t:=qf3 rfl (ql9 i);rcases qag7 i with rfl | B
 . exact qm0 true rfl (λ _=>q) nofun
 refine qm0 false (Ag A rfl (by show t.isN.map D.bl=_;rw[B];rfl)) nofun λ _=>?_
 cases b:t.num with
 | false =>
   rw[qak3 b B] at q;exact qh2 false (λ Q q=>qe7 false false (λ Q q=>qI5 (x:=t) (d:=.bl false) A (by rw[qT7 i,b]) rfl q) nofun q) nofun λ _=>q
 | true =>
   obtain⟨x,rfl,J⟩:=qF0 b;have q:Q (Gi<|if (D.int x).num=true then (if qf2 n wr c (p:Int) x k=true then none else some "order") else none) [Ad z a.C3 n wr c,.l e f,.int (r:Nat)]:=q;rw[if_pos b] at q;refine qh2 (!qf2 n wr c (p:Int) x k) (λ Q q=>qe7 true _ (λ Q q=>qI5 (x:=.int x) (d:=.bl true) rfl (by rw[qT7 i,b]) rfl q) (λ _ Q q=>?_) q) (λ h=>?_) λ h=>?_
   . refine qZ7 (p:=Ad z a.C3 n wr c) rfl (qf9 rfl) (qb8 (x:=.int (p:Nat)) rfl<|qb8 (x:=.int x) rfl<|qc6 (y:=.int k) (Ag rfl rfl<|Jk G) rfl ?_)
     refine qb7 ?_;refine qa0 (a:=D.int x) rfl ?_;refine qa0 (a:=D.int (p:Nat)) rfl ?_;exact(qa0 (a:=Ad z a.C3 n wr c) rfl<|qp5 (d:=.bl (qf2 n wr c (p:Int) x k)) ⟨z,n,wr,c,(p:Nat),x,k,rfl,C,by lia,by lia,J,H,rfl⟩ q)
   . rw[if_neg (by intro s;rw[s] at h;cases h)] at q
     exact q
   rw[if_pos (by cases s:qf2 n wr c (p:Int) x k with | true=>rfl | false=>rw[s] at h;cases h)] at q;exact q
theorem qr4:qa8 ["plan", "rooms", "room", "key", "far"] ["plan", "rooms", "room"] (qa3 qx2):=by walk_at "s"
noncomputable def atD(ys:Ds)(i:Nat):D:=(ys[i]?).getD .non
noncomputable def qz0(k:Int):D->Bool
 | .int j=>decide (j=k)
 | _=>false
def Bz(n:Int)(wr:Bool)(ps:Pr)(ys:Ds)(r:Nat):Option Str:=match atD ys r with
 | .non=>none
 | .int k=>if (D.int k).num=true then (if (ys.take r).any (qz0 k)=true then some "twice" else match A5 n wr ps k (r:Int) with
   | none=>some "home"
   | some f=>if f=0 then none else Eo n wr ps (Row.prev n.toNat r) (atD ys<|Row.prev n.toNat r) k) else some "key"
 | _=>some "key"
theorem qav3{k:Int}:∀{l:Ds},(∀ y∈l,y=.non∨∃ j,y=.int j/\Ap j)->∃ a,flats l=some a/\inV (.int k) a=l.any (qz0 k)
 | [],_=>⟨[],rfl,rfl⟩
 | y::l,h=>by
   obtain⟨a,c,e2⟩:=qav3 (k:=k) λ z d=>h z (zA6 _ d)
   rcases h y zAh with rfl | ⟨j,rfl,_⟩
   . refine⟨.non::a,?_,?_⟩
     . show ((flats l).bind λ b=>some (V.non::b))=_
       rw[c];rfl
     show (eqV .non (.int k)||inV (.int k) a)=(false||l.any (qz0 k))
     rw[e2];rfl
   refine⟨.int j::a,?_,?_⟩
   . show ((flats l).bind λ b=>some (V.int j::b))=_
     rw[c];rfl
   show (eqV (.int j) (.int k)||inV (.int k) a)=(decide (j=k)||l.any (qz0 k))
   rw[e2];rfl
theorem qU8:∀{ys:Ds}{r:Nat},D.imms ys=true->D.imms (ys.take r)=true
 | [],r,_=>by rw[M3];rfl
 | y::ys,0,_=>rfl
 | y::ys,r+1,h=>by
   have:=zAf.mp h
   show (y.imm&&D.imms (ys.take r))=true;rw[this.1,qU8 this.2];rfl
theorem Rm.up(R:Rm n ys r){s:Nat}(h:s<=r):Rm n ys s:=⟨R.len,R.kn,R.im,λ i y a=>R.fl i y (by lia)⟩
def qX5(C:γ):VSp:=Ay λ ds d=>∃ z n wr ps z' ys r,ds=[Ad z C n wr ps,.l z' ys,.int (r:Nat)]/\1<=n/\r < n.toNat/\Rm n ys r/\d=Gi (Bz n wr ps ys r)
theorem qY7(T:Txt K mg a):VFn P w K mg base 8 a.f14 a.d14 ["plan", "rooms", "room"] (qX5 a.C3):=by
 refine VFn.mk2 T.d14.F qr4 (wOf [true,true,true]) qb2 (by walk_at "l") (λ _ _ _ _ _ _ _ s=>⟨_,(Aa (An 3 qr4.nd<|qb4<|v2 (At qb0) Ak (vnm 1)<|vnm 2)<|Aa (sif (q2 (Aq Da<|qb1 _) Di (vnm 3) Bc) (Aj<|Au<|qa5 Bc) Ax)<|Aa (sif (Bn<|te<|Ah T.d3 (qc8 T) qa1 (rm s)<|vaN 3 Ab) (Aj<|Au<|qa5 F6) Ax)<|Aa (sif (q2 (Aq qw3 (by with_unfolding_all rfl)) Ey (vnm 3)<|vsl (vnm 1) G9<|Ha<|vnm 2) (Aj<|Au<|qa5 F6) Ax)<|Aa (An 4 qr4.nd<|qr1 0 T.d10 T.C5.cl (qm6 T) qa1 (rm s)<|vaN 3<|vaN 2 Ab)<|Aa (sif (q2 (Aq Da<|qb1 _) Di (vnm 4) Bc) (Aj<|Au<|qa5 F6) Ax)<|Aa (sif (q2 (Aq (qj3 s.u64)<|qb1 _) Bk (vnm 4) Ae) (Aj<|Au<|qa5 Bc) Ax)<|Aj<|Au<|Ah T.d13 (qn1 T) qa1 (rm s)<|vaN 0<|vaN 1<|vaN 2 Ab),λ X Q Y h=>?_⟩);obtain⟨d,⟨z,n,wr,c,g,b,r,rfl,E,j,R,rfl⟩,q⟩:=h;have N:=Row.qn6 (n:=n.toNat) j;obtain⟨v,o⟩:∃ v,b[r]? = some v:=⟨b[r]'(by rw[R.len];exact j),by simp⟩
 obtain⟨t,I⟩:∃ t,b[Row.prev n.toNat r]? = some t:=⟨b[Row.prev n.toNat r]'(by rw[R.len];exact N),by simp⟩
 obtain⟨u,A⟩:=R.kn v (zB1 o);have O:atD b r=v:=by unfold atD;rw[o];rfl
 have S:atD b (Row.prev n.toNat r)=t:=by unfold atD;rw[I];rfl
 unfold Bz at q;rw[O,S] at q;refine Av [Ad z a.C3 n wr c,.l g b,.int (r:Nat),.u,.u] rfl ?_;refine qb5 [Ad z a.C3 n wr c,.l g b,.int (r:Nat),v,.u] (λ K G=>qa0 (Ag rfl rfl<|Jk o) ⟨qt6 R.im o,G⟩) ?_;have J:rdN 3 [Ad z a.C3 n wr c,.l g b,.int (r:Nat),v,.u]=some v:=qf3 rfl (ql9 A);rcases qag7 A with rfl | L
 . exact qm0 true rfl (λ _=>q) nofun
 refine qm0 false (Ag J rfl (by show v.isN.map D.bl=_;rw[L];rfl)) nofun λ _=>?_
 cases e:v.num with
 | false =>
   refine qh2 true (λ Q q=>qI5 (x:=v) (d:=.bl false) J (by rw[qT7 A,e]) rfl q) (λ _=>?_) nofun;cases v with
   | non=>cases L
   | int k =>
     have q:Q (Gi<|if (D.int k).num=true then _ else some "key") [Ad z a.C3 n wr c,.l g b,.int (r:Nat)]:=q;rw[if_neg (by rw[e];decide)] at q;exact q
   | _=>exact q
 | true =>
   obtain⟨k,rfl,M⟩:=qF0 e;have q:Q (Gi (if (D.int k).num=true then (if (b.take r).any (qz0 k)=true then some "twice" else match A5 n wr c k (r:Int) with
     | none=>some "home"
     | some f=>if f=0 then none else Eo n wr c (Row.prev n.toNat r) t k) else some "key")) [Ad z a.C3 n wr c,.l g b,.int (r:Nat)]:=q
   rw[if_pos e] at q;refine qh2 false (λ Q q=>qI5 (x:=.int k) (d:=.bl true) rfl (by rw[qT7 A,e]) rfl q) nofun λ _=>?_
   obtain⟨B,U,e2⟩:=qav3 (k:=k) (l:=b.take r) λ y V=>by
     obtain⟨i,C⟩:=List.getElem?_of_mem V;rw[List.getElem?_take] at C;split at C
     . rename_i hlt;exact R.fl i y hlt C
     cases C
   have H:f2 (Hq false) (rdN 3) (fsl (rdN 1) foN<|foS<|rdN 2) [Ad z a.C3 n wr c,.l g b,.int (r:Nat),.int k,.u]=some (.bl ((b.take r).any (qz0 k))):=by
     refine Ag (x:=.int k) (y:=.l false (b.take r)) rfl ?_ ?_
     . show gSl (.l g b) none (some (r:Int))=_
       show gd (D.imms (Br b none<|some (r:Int))=true) (.l false<|Br b none<|some (r:Int))=_;rw[qG6];exact qi4 (qU8 R.im)
     show ((flats<|b.take r).bind λ B=>some<|D.bl<|if false=true then !inV (.int k) B else inV (.int k) B)=_;rw[U];show some (D.bl<|inV (.int k) B)=_;rw[e2]
   refine qm0 _ H (λ h=>?_) λ h=>?_
   . rw[if_pos h] at q;exact q
   rw[if_neg (by rw[h];decide)] at q;refine qb5 [Ad z a.C3 n wr c,.l g b,.int (r:Nat),.int k,E8 (A5 n wr c k (r:Nat))] (λ K G=>?_) ?_
   . exact qao0 (p:=Ad z a.C3 n wr c) (x:=.int k) (y:=.int (r:Nat)) rfl (qf9 rfl) rfl rfl rfl rfl (qap5 E M (by lia) (by lia)) rfl G
   cases m:A5 n wr c k (r:Nat) with
   | none =>
     rw[m] at q;exact qm0 true rfl (λ _=>q) nofun
   | some f =>
     rw[m] at q;refine qm0 false rfl nofun λ _=>?_
     refine qm0 (decide (f=0)) rfl (λ h=>?_) λ h=>?_
     . have q:Q (Gi<|if f=0 then none else Eo n wr c (Row.prev n.toNat r) t k) [Ad z a.C3 n wr c,.l g b,.int (r:Nat)]:=q
       rw[if_pos (zAc h)] at q;exact q
     have q:Q (Gi<|if f=0 then none else Eo n wr c (Row.prev n.toNat r) t k) [Ad z a.C3 n wr c,.l g b,.int (r:Nat)]:=q;rw[if_neg (zBg h)] at q;refine Jh (x:=Ad z a.C3 n wr c) (y:=.l g b) (w:=.int (r:Nat)) rfl rfl rfl rfl rfl ⟨z,n,wr,c,g,b,r,k,t,rfl,E,j,?_,R.up<|zBh _,o,M,I,rfl⟩ rfl q;cases wr with
     | true=>exact .inr rfl
     | false =>
       left;unfold A5 at m;rw[if_neg (by decide)] at m
       have:=(qah7 E c k).1
       have W:=zBg h;split at m
       . cases m;lia
       cases m
theorem qO3:qa8 ["plan", "rooms"] ["plan", "rooms"] (qa3 qs2):=by walk_at "s"
def farP(n:Int)(wr:Bool)(ps:Pr):D->Bool
 | .q [.int i,.int k]=>match A5 n wr ps k i with
   | some f=>decide (0 < f)
   | none=>false
 | _=>false
def qp9(n:Int)(wr:Bool)(ps:Pr)(ys:Ds):Bool:=(enD ys).all (farP n wr ps)
theorem qaa1(ys:Ds):(enD ys).length=ys.length:=by unfold enD;rw[zA8,List.length_zipIdx]
def qN2(C:γ):VSp:=Ay λ ds d=>∃ z n wr ps z' ys,ds=[Ad z C n wr ps,.l z' ys]/\1<=n/\n<=64/\ys.length=n.toNat/\(∀ i v,ys[i]? = some v->v=.non∨∃ k,v=.int k/\Ap k/\A5 n wr ps k (i:Nat)≠none)/\d=.bl (qp9 n wr ps ys)
theorem qaC5{p:Nat->D->Prop}(h:∀ i v,ys[i]? = some v->v=.non∨∃ k,v=.int k/\p i v):D.imms ys=true:=by
 induction ys generalizing p with
 | nil=>rfl
 | cons y ys a =>
   have b:=h 0 y rfl;have c:y.imm=true:=by
     rcases b with rfl | ⟨k,rfl,_⟩<;>rfl
   show (y.imm&&D.imms ys)=true;rw[c,a (p:=λ i v=>p (i+1) v) λ i v d=>h (i+1) v d];rfl
theorem qP9(T:Txt K mg a):VFn P w K mg base 6 a.f15 a.d15 ["plan", "rooms"] (qN2 a.C3):=by
 refine VFn.mk2 T.d15.F qO3 (wOf [true,true]) qb2 (by walk_at "l") (λ _ _ _ _ _ _ _ H=>⟨_,(Aj<|Au<|ebi (qH1 rfl) qaE4.ops T.D0<|Ev<|vaV (ecEN (NY:=["room", "key", "plan"]) (src:=[none,none,some 0]) 1 T.Ck<|blk (λ o C r H0 s=>(Ek (n:=2) rfl<|qm1 (A7 0<|show (["room", "key", "plan"]:List Str).Nodup by decide +kernel)<|qm1 (A7 1<|show (["room", "key", "plan"]:List Str).Nodup by decide +kernel) Ej)) (λ o C r H0 s=>Em) (λ o C r H0 s=>(Gq (qa5<|v2 (A8 qo8<|qb1 _) qs9 (vnm 1) Bc)<|Ir<|e2v (A8 Bo<|qb1 _) B9 (qr1 2 T.d10 T.C5.cl (qm6 T) qg6 (rm H)<|vaN 1<|vaN 0 Ab) Ae))) Ab),λ X Q Y h=>?_⟩);obtain⟨d,⟨z,n,wr,b,I,g,rfl,J,Z,t,u,rfl⟩,q⟩:=h;refine Av [Ad z a.C3 n wr b,.l I g] rfl ?_;have L:D.imms g=true:=qaC5 (p:=λ i v=>∃ k,v=.int k/\Ap k/\A5 n wr b k (i:Nat)≠none) λ i v h=>by
   rcases u i v h with h | ⟨k,A,M,N⟩
   . exact .inl h
   exact .inr ⟨k,A,k,A,M,N⟩
 refine qi3 ?_;refine⟨L,?_⟩;refine qj9 (λ ι=>∃ j m,ι=[j,m,Ad z a.C3 n wr b]) (λ y=>some<|.bl<|farP n wr b y) (enD g) [] _ (by show 0+(enD g).length < big;rw[qaa1,t];unfold big;lia) ⟨_,_,rfl⟩ ?_ ?_
 . rintro y O ι S ⟨j,m,rfl⟩ R B c
   obtain⟨i,v,rfl,E⟩:=qaY0 O;have U:i < n.toNat:=by rw[<- t];exact(zA4.mp E).1
   refine qp6 (qX4<|Du rfl ?_);rcases u i v E with rfl | ⟨k,rfl,V,W⟩
   . exact and_e false rfl nofun λ _=>⟨c,B _ ⟨_,_,rfl⟩⟩
   refine and_e true rfl (λ _=>?_) nofun;refine qao0 (p:=Ad z a.C3 n wr b) (x:=.int k) (y:=.int (i:Nat)) rfl (qf9 rfl) rfl rfl rfl rfl (qap5 J V (by lia) (by lia)) rfl ?_;have this:=B _ ⟨.int (i:Nat),.int k,rfl⟩;cases G:A5 n wr b k (i:Nat) with
   | none=>exact absurd G W
   | some f =>
     have e:farP n wr b (.q [.int (i:Nat),.int k])=decide (0 < f):=by
       show (match A5 n wr b k (i:Nat) with | some f=>decide (0 < f) | none=>false)=_;rw[G]
     rw[e] at this;exact qa0 (a:=D.bl (decide (0 < f))) rfl ⟨c,this⟩
 rintro ι ⟨j,m,rfl⟩;rw[zB3,qR5];exact qa0 (qaF2 (farP n wr b)<|enD g) q
theorem qr7:qa8 ["plan", "rooms", "room", "word"] ["plan", "rooms"] (qa3 qx5):=by walk_at "s"
def Hu(n:Int)(wr:Bool)(ps:Pr)(ys:Ds):Option (Str×Nat):=(Ku n.toNat).findSome? λ r=>(Bz n wr ps ys r).map λ w=>(w,r)
def qap4(n:Int)(wr:Bool)(ps:Pr)(ys:Ds):D:=match Hu n wr ps ys with
 | some (w,r)=>.q [.str w,.int (r:Nat)]
 | none=>if qp9 n wr ps ys=true then .q [.str "turned",.int 0] else .non
theorem qH2(c:ys[r]? = some v)(h:Bz n wr ps ys r=none):v=.non∨∃ k,v=.int k/\Ap k/\A5 n wr ps k (r:Nat)≠none:=by
 have d:atD ys r=v:=by unfold atD;rw[c];rfl
 unfold Bz at h;rw[d] at h;cases v with
 | non=>exact .inl rfl
 | int k =>
   have h:(if (D.int k).num=true then (if (ys.take r).any (qz0 k)=true then (some "twice" : Option Str) else match A5 n wr ps k (r:Int) with
     | none=>some "home"
     | some f=>if f=0 then none else Eo n wr ps (Row.prev n.toNat r) (atD ys<|Row.prev n.toNat r) k) else some "key")=(none:Option Str):=h
   by_cases a:(D.int k).num=true
   . rw[if_pos a] at h
     obtain⟨i,e,b⟩:=qF0 a;cases e;refine .inr ⟨k,rfl,b,λ g=>?_⟩;rw[g] at h;split at h<;>cases h
   rw[if_neg a] at h;cases h
 | _=>cases h
theorem qK9{α:Type}{r:Nat}{f:Nat->Option α}{a:α}:∀{N:Nat},r < N->(∀ i,i < r->f i=none)->f r=some a->(Ku N).findSome? f=some a
 | 0,hr,_,_=>absurd hr (zCq _)
 | N+1,hr,h0,h=>by
   rw[Lx,List.findSome?_append];by_cases b:r < N
   . rw[qK9 b h0 h];rfl
   have e:r=N:=by lia
   subst e;rw[List.findSome?_eq_none_iff.mpr λ i c=>h0 i (zAn.mp c)];show [r].findSome? f=_;rw[List.findSome?_cons,h]
theorem qV3{f:Nat->Option α}(a:∀ i,i < N->f i=none):(Ku N).findSome? f=none:=List.findSome?_eq_none_iff.mpr λ i b=>a i (zAn.mp b)
def qX8(C:γ):VSp:=Ay λ ds d=>∃ z n wr ps z' ys,ds=[Ad z C n wr ps,.l z' ys]/\1<=n/\n<=64/\ys.length=n.toNat/\(∀ y∈ys,∃ t,y.kind=some t)/\D.imms ys=true/\d=qap4 n wr ps ys
theorem qY9(T:Txt K mg a):VFn P w K mg base 9 a.f16 a.d16 ["plan", "rooms"] (qX8 a.C3):=by
 refine VFn.mk2 T.d16.F qr7 (wOf [true,true]) qb2 (by walk_at "l") (λ _ _ _ _ _ _ _ B=>⟨_,(Aa (sif (tor (Bn<|tv<|vbi qg7 qv8.ops T.C8<|qa2 (vnm 1) (qa2 (vty "list" T.Cg) qa6 rfl) rfl)<|Gp<|q2 (Aq (qE9 B.u64)<|qb1 _) Ef (vbi qA0 qz9.ops T.Cj<|qa2 (vnm 1) qa6 rfl)<|Be rfl (vnm 0) T.C5.cl T.C7).te (Aj<|Au<|qa5<|B6<|qa2 F6 (qa2 Ae qa6 rfl) rfl) Ax)<|Aa (qO0 Nk T.Ch (Ev<|vaV (qb4<|Be rfl (vnm 0) T.C5.cl T.C7) Ab) (A7 2 qr7.nd)<|Aa (An 3 qr7.nd<|Ah T.d14 (qY7 T) qa1 (rm B)<|vaN 0<|vaN 1<|vaN 2 Ab)<|Aj<|sif (q2 (Aq qo8<|qb1 _) qs9 (vnm 3) Bc) (Aj<|Au<|qa5<|B6<|qa2 (vnm 3) (qa2 (vnm 2) qa6 rfl) rfl) Ax)<|Aj<|Au<|eif (te<|Ah T.d15 (qP9 T) qa1 (rm B)<|vaN 0<|vaN 1 Ab) (qa5<|B6<|qa2 F6 (qa2 Ae qa6 rfl) rfl)<|qa5 Bc),λ p Q V h=>?_⟩);obtain⟨d,⟨z,n,wr,f,g,c,rfl,H,J,C,E,L,rfl⟩,q⟩:=h;refine Av [Ad z a.C3 n wr f,.l g c,.u,.u] rfl ?_;have t:f2 gNe (Ba (fx1 Gn)<|A6 (rdN 1) λ _=>some []) (f1 (D.fld a.C3 "rooms")<|rdN 0) [Ad z a.C3 n wr f,.l g c,.u,.u]=some (.bl false):=Ag (qt4 rfl) (A4 rfl qd8) (by
   show some (D.bl<|!((c.length:Nat):Int) == n)=_;rw[show ((c.length:Nat):Int)=n by lia,zBc];rfl)
 refine qh2 false (λ Q q=>qn2 false false (λ Q q=>qi5 (qQ9 rfl) q) (λ _ Q q=>qe6 t q) q) nofun λ _=>?_
 refine qc1 (λ p=>(∀ i,i < n.toNat->Bz n wr f c i=none)/\∃ d u,p=[Ad z a.C3 n wr f,.l g c,d,u]) (λ K s=>?_) ?_
 . refine qR4 (A4 rfl qd8) (qZ6 (by lia) (by lia)) ?_
   refine qd4 (λ i p=>(∀ j,j < i->Bz n wr f c j=none)/\∃ d u,p=[Ad z a.C3 n wr f,.l g c,d,u]) _ 0 _ ⟨λ j A=>absurd A<|zCq _,_,_,rfl⟩ ?_ ?_
   . rintro j x M p ⟨m,d,u,rfl⟩ K s
     rw[zA9] at m s;obtain⟨A,rfl⟩:=qP4 M;have R:Rm n c j:=⟨C,E,L,λ i y o N=>by
       rcases qH2 N (m i o) with h | ⟨k,O,S,_⟩
       . exact .inl h
       exact .inr ⟨k,O,S⟩⟩
     refine qb5 [Ad z a.C3 n wr f,.l g c,.int (j:Nat),Gi (Bz n wr f c j)] (λ K s=>Jh (x:=Ad z a.C3 n wr f) (y:=.l g c) (w:=.int (j:Nat)) rfl rfl rfl rfl rfl ⟨z,n,wr,f,g,c,j,rfl,H,A,R,rfl⟩ rfl s) ?_;cases e:Bz n wr f c j with
     | none =>
       refine if_v (b:=false) rfl nofun λ _=>s _ ⟨λ i o=>?_,_,_,rfl⟩
       rcases zCi.mp o with h | rfl
       . exact m i h
       exact e
     | some w =>
       have G:Hu n wr f c=some (w,j):=qK9 A (λ i o=>by rw[m i o];rfl) (by rw[e];rfl);have q:Q (match Hu n wr f c with | some (w,r)=>.q [.str w,.int (r:Nat)] | none=>if qp9 n wr f c=true then .q [.str "turned",.int 0] else .non) [Ad z a.C3 n wr f,.l g c]:=q;rw[G] at q;exact if_v (b:=true) rfl (λ _=>q) nofun
   rintro p ⟨m,U⟩;refine s _ ⟨λ i o=>m i ?_,U⟩;unfold Dn;rw[zA8,zB4,zA9];exact o
 rintro p ⟨m,d,u,rfl⟩;have G:Hu n wr f c=none:=qV3 λ i o=>by rw[m i o];rfl
 have q:Q (match Hu n wr f c with | some (w,r)=>.q [.str w,.int (r:Nat)] | none=>if qp9 n wr f c=true then .q [.str "turned",.int 0] else .non) [Ad z a.C3 n wr f,.l g c]:=q;rw[G] at q;refine qi3 ?_;refine qC1 (x:=Ad z a.C3 n wr f) (y:=.l g c) (d:=.bl (qp9 n wr f c)) rfl rfl rfl ⟨z,n,wr,f,g,c,rfl,H,J,C,λ i v I=>qH2 I<|m i (by rw[<- C];exact(zA4.mp I).1),rfl⟩ rfl ?_;refine qa0 (a:=qp9 n wr f c) rfl (ite_b (λ h=>?_) λ h=>?_)
 . have q:Q (if qp9 n wr f c=true then .q [.str "turned",.int 0] else .non) [Ad z a.C3 n wr f,.l g c]:=q
   rw[if_pos h] at q;exact q
 have q:Q (if qp9 n wr f c=true then .q [.str "turned",.int 0] else .non) [Ad z a.C3 n wr f,.l g c]:=q;rw[if_neg (by rw[h];decide)] at q;exact q
theorem qr8:qa8 ["self", "plan", "rooms", "held", "fault"] ["self", "plan", "rooms"] (qa3 qx7):=by walk_at "s"
theorem qaF1(h:r < N):atD (Op N g) r=Aw (g r):=by unfold atD;rw[qz3 h];rfl
theorem qaG2(h:r<=N):(Op N g).take r=Op r g:=by
 unfold Op;rw[<- Lm,List.take_range,zCy h]
theorem qaZ6:(Op r g).any (qz0 k)=true↔∃ j,j < r/\g j=some k:=by
 unfold Op;rw[M4,Mm];constructor
 . rintro⟨j,a,e⟩
   refine⟨j,zAn.mp a,?_⟩;have e:qz0 k (Aw<|g j)=true:=e;cases h:g j with
   | none=>rw[h] at e;cases e
   | some x=>rw[h] at e;rw[zAc (show decide (x=k)=true from e)]
 rintro⟨j,a,e⟩;refine⟨j,zAn.mpr a,?_⟩;show qz0 k (Aw<|g j)=true;rw[e];exact zAb rfl
theorem qaF3(a:r < n.toNat)(b:g r=some k)(c:Ap k):Bz n wr ps (Op n.toNat g) r=(if (Op r g).any (qz0 k)=true then (some "twice" : Option Str) else match A5 n wr ps k (r:Int) with
   | none=>some "home"
   | some f=>if f=0 then none else Eo n wr ps (Row.prev n.toNat r) (Aw<|g<|Row.prev n.toNat r) k):=by
 unfold Bz;rw[qaF1 a,qaF1 (Row.qn6 a),qaG2 (zBa a),b];show (if (D.int k).num=true then _ else _)=_;rw[if_pos (qt2 c)]
 try rfl
theorem qaP5(h:ys[i]? = some v):D.q [.int (i:Nat),v]∈enD ys:=zB9.mpr ⟨(v,i),List.mem_zipIdx_iff_getElem?.mpr h,rfl⟩
theorem qah0(m:1<=n)(KP:Kept n.toNat wr (Om n ps) g S)(t:∀ k∈S,Ap k):qap4 n wr ps (Op n.toNat g)=.non:=by
 have p:∀{i k},i < n.toNat->g i=some k->Ap k:=λ{i k} l h=>t k ((KP.h.2 k).mpr ⟨i,l,h⟩)
 have b:Hu n wr ps (Op n.toNat g)=none:=qV3 λ r d=>by
   have:Bz n wr ps (Op n.toNat g) r=none:=by
     cases a:g r with
     | none=>unfold Bz;rw[qaF1 d,a];rfl
     | some k =>
       have q:=Row.qn6 d;rw[qaF3 d a (p d a),if_neg (λ z=>by
         obtain⟨j,A,e⟩:=qaZ6.mp z
         have:=KP.o.inj j r k (by lia) d e a
         lia),qV7 m d (λ b=>KP.ln b r k d a)]
       show (if ((Ac n.toNat (Om n ps k) r:Nat):Int)=0 then none else _)=_;by_cases B:Ac n.toNat (Om n ps k) r=0
       . rw[if_pos (by lia)]
       obtain⟨x,s,u⟩:=KP.o.ord r k d a (by lia);rw[if_neg (by lia),s];show (if (D.int x).num=true then (if qf2 n wr ps (Row.prev n.toNat r:Nat) x k=true then (none:Option Str) else some "order") else none)=none;have v:=Ex (ps:=ps) m k;rw[if_pos (qt2<|p q s),if_pos ((qw5 (ps:=ps) m q (λ b=>KP.ln b _ x q s) (λ b=>by
         have C:=KP.ln b r k d a;have E:=dor n.toNat (Om n ps k) r;have F:=por n.toNat r
         lia)).mpr u)]
   rw[this];rfl
 have w:qp9 n wr ps (Op n.toNat g)=false:=by
   obtain⟨i,l,y⟩:=KP.c;refine List.all_eq_false.mpr ⟨_,qaP5<|qz3 l,?_⟩;cases a:g i with
   | none=>exact λ h=>by cases h
   | some k =>
     show ¬ (match A5 n wr ps k (i:Nat) with | some f=>decide (0 < f) | none=>false)=true;rw[qV7 m l (λ b=>KP.ln b i k l a),(qh5 (Ex m k) l).mpr (y k a).symm];exact λ h=>by cases h
 unfold qap4;rw[b,w];rfl
def Al(zr:Bool)(C CP:γ)(n:Int)(wr:Bool)(ps:Pr)(g:Nat->Option Int)(dn:Ds):D:=.ins zr C [("plan",Ad true CP n wr ps),("held",.l zr<|Op n.toNat g),("done",.l zr dn)]
abbrev rA(a:Adr)(n:Int)(wr:Bool)(ps:Pr)(g:Nat->Option Int)(dn:Ds):D:=Al false a.C4 a.C3 n wr ps g dn
abbrev kL(S:List Int):D:=.l false (Oo S)
abbrev rL(n:Int)(g:Nat->Option Int):D:=.l false (Op n.toNat g)
section
variable{zr:Bool}{C CP:γ}{n:Int}{wr:Bool}{ps:Pr}{g:Nat->Option Int}{dn:Ds}
theorem qg2:D.fld C "plan" (Al zr C CP n wr ps g dn)=some (Ad true CP n wr ps):=qD3 (by rfl)
theorem qq1:D.fld C "held" (Al zr C CP n wr ps g dn)=some (.l zr<|Op n.toNat g):=qD3 (by rfl)
theorem qam3:D.fld C "done" (Al zr C CP n wr ps g dn)=some (.l zr dn):=qD3 (by rfl)
theorem qj5(h:([("plan",Ad true CP n wr ps),("held",.l zr<|Op n.toNat g),("done",.l zr dn)]:List (Str×D)).lookup m=none):(Al zr C CP n wr ps g dn).isM C m=true:=qau5 h
end
theorem qV6:D.fidx C "held" (Al zr C CP n wr ps g dn)=some 1:=by
 show (if C=C then List.findIdx? (λ q:Str×D=>("held" : Str) == q.1) [("plan",Ad true CP n wr ps),("held",.l zr<|Op n.toNat g),("done",.l zr dn)] else none)=_;rw[if_pos rfl];rfl
theorem qaZ1{p:List Nat}{w:V}(h:Bb ds i p=some (.hole w)):bk1 i p w d0 ds=some (Bj ds i p d0):=by
 unfold bk1 As;rw[h];simp only[if_true];unfold As;rfl
theorem qap2{f:Str}(h:te ds (λ d ds1=>orF (pf ds1) λ q=>orF ((Bb ds1 q.1 q.2).bind (D.ownI C)) λ fs=>fs.length < 100/\e.nx (Bj ds1 q.1 q.2<|.ins false C<|E6 f d fs)) e.xe):sFldV C f te pf e ds:=h
theorem mv_to(h:rdN i ds=some d)(q:Q d (ds.set i .u)):tMv i ds Q xe:=qa0 h q
def qY0(C CP:γ):VSp:=λ ds Q _=>∃ n wr ps r g S,ds=[.ins false C [],Ad true CP n wr ps,r]/\1<=n/\n<=64/\(∀ k∈S,Ap k)/\Kept n.toNat wr (Om n ps) g S/\(r=.non/\g=(λ _=>none)∨∃ z,r=.l z (Op n.toNat g))/\Q .non [Al false C CP n wr ps g [],Ad true CP n wr ps,r]
theorem qm5(T:Txt K mg a):VFn P w K mg base 10 a.f21 a.d21 ["self", "plan", "rooms"] (qY0 a.C4 a.C3):=by
 refine VFn.mkE T.d21.F qr8 (wOf [true,true,true]) (λ j Q Q' l p s _ h=>by obtain⟨n,wr,c,r,g,S,e,t,u,v,A,B,q⟩:=h;exact⟨n,wr,c,r,g,S,e,t,u,v,A,B,s _ _ q⟩) (λ j Q l h=>by obtain⟨n,wr,c,r,g,S,e,_⟩:=h;rw[e];rfl) (λ j Q l h=>by obtain⟨n,wr,c,r,g,S,e,_⟩:=h;rw[e];rfl) (λ _ _ _ _ _ _ _ i=>⟨_,(Aa (sif (Bn<|tv<|vbi (qaE8 T.D2 T.C5.cl) qaY5.ops T.C8<|qa2 (vnm 1) (qa2 (vcls a.C3 T.C5.m) qa6 rfl) rfl) (Aj ql5) Ax)<|Aa (sif (F7 (q2 (Aq qo8<|qb1 _) qs9 (vnm 2) Bc)<|E2<|Bn<|tv<|vbi qg7 qv8.ops T.C8<|qa2 (vnm 2) (qa2 (vty "list" T.Cg) qa6 rfl) rfl).te (Aj ql5) Ax)<|Aa (An 3 qr8.nd<|eif (q2 (Aq Da<|qb1 _) Di (vnm 2) Bc) (qa5<|v2 (Am qy5) qy4 (Bs<|qa2 Bc qa6 rfl)<|Be rfl (vnm 1) T.C5.cl T.C7)<|qa5<|Fq qg0 qD5.ops T.Cg<|qa2 (vnm 2) qa6 rfl)<|Aa (An 4 qr8.nd<|Ah T.d16 (qY9 T) qa1 (rm i)<|vaN 1<|vaN 3 Ab)<|Aa (sif (q2 (Aq qo8<|qb1 _) qs9 (vnm 4) Bc) (Aj ql5) Ax)<|Aa (Gd rfl (vpn 0) (qb4<|vnm 1) T.C6.cl T.C9)<|Aa (Gd rfl (vpn 0) (emv 3) T.C6.cl T.Ca)<|Aj<|Gd rfl (vpn 0) (qa5<|Bs qa6) T.C6.cl T.Ci),λ j Q l h=>?_⟩);obtain⟨n,wr,c,r,g,S,rfl,o,C,D,KP,i,q⟩:=h;have G:r.known=true:=by
   rcases i with⟨rfl,_⟩ | ⟨z,rfl⟩<;>rfl
 refine Av [.ins false a.C4 [],Ad true a.C3 n wr c,r,.u,.u] rfl ?_;refine qaO2 (show gIsO a.C3 (Ad true a.C3 n wr c) (.adr a.C3)=some (.bl true) from qaC3) ?_;refine qh2 false (λ Q q=>?_) nofun λ _=>?_
 . rcases i with⟨rfl,_⟩ | ⟨z,rfl⟩
   . exact qe7 false false (λ Q q=>qe6 (b:=false) (Ag rfl rfl rfl) q) nofun q
   exact qe7 true false (λ Q q=>qe6 (b:=true) (Ag rfl rfl rfl) q) (λ _ Q q=>qi5 (b:=true) (qQ9 rfl) q) q
 refine qb5 [.ins false a.C4 [],Ad true a.C3 n wr c,r,rL n g,.u] (λ K f=>qf4 ?_) ?_
 . rcases i with⟨rfl,rfl⟩ | ⟨z,rfl⟩
   . exact Fi (b:=true) (Ag rfl rfl rfl) (λ _=>qq4 (Ag rfl (A4 rfl qd8)<|qae9 (by lia) C) f) nofun
   exact Fi (b:=false) (Ag rfl rfl rfl) nofun λ _=>qq4 (d:=rL n g) (show G6 (.l z<|Op n.toNat g)=_ from qi4 (qv0 _ _)) f
 refine qb5 [.ins false a.C4 [],Ad true a.C3 n wr c,r,rL n g,.non] (λ K f=>qf4 ?_) ?_
 . refine qC1 (x:=Ad true a.C3 n wr c) (y:=rL n g) (d:=qap4 n wr c (Op n.toNat g)) rfl rfl rfl ⟨true,n,wr,c,false,Op n.toNat g,rfl,o,by lia,qi2 _ _,λ y E=>?_,qv0 _ _,rfl⟩ rfl ?_
   . rcases qam2 E with rfl | ⟨k,rfl⟩
     . exact⟨_,rfl⟩
     exact⟨_,rfl⟩
   rw[qah0 o KP D];exact f
 refine qh2 false (λ Q q=>qe6 (b:=false) (Ag rfl rfl rfl) q) nofun λ _=>?_
 refine qb5 [.ins false a.C4 [("plan",Ad true a.C3 n wr c)],Ad true a.C3 n wr c,r,rL n g,.non] (λ K f=>qap2<|ql2 (d:=Ad true a.C3 n wr c) rfl rfl<|qa0 (a:=(0,[])) rfl<|qa0 qi6 ⟨by decide,f⟩) ?_;refine qb5 [.ins false a.C4 [("plan",Ad true a.C3 n wr c),("held",rL n g)],Ad true a.C3 n wr c,r,.u,.non] (λ K f=>qap2<|mv_to (d:=rL n g) rfl<|qa0 (a:=(0,[])) rfl<|qa0 qi6 ⟨by show 1 < 100;decide,f⟩) ?_;exact qap2 (qq4 (d:=.l false []) rfl<|qa0 (a:=(0,[])) rfl<|qa0 qi6 ⟨by show 2 < 100;decide,q⟩)
theorem qO5:qa8 ["plan", "keys", "room"] ["plan", "keys", "room"] (qa3 qs4):=by walk_at "s"
def qN3(C:γ):VSp:=Ay λ ds d=>∃ z n wr ps z' ks r,ds=[Ad z C n wr ps,.l z' (Oo ks),.int r]/\1<=n/\(∀ k∈ks,Ap k)/\ks.length<=1000/\d=.bl (if wr=true then decide (r=0)&&decide (n < (ks.length:Int)) else decide (n - r < ((ks.filter λ k=>decide (r<=qb3 n ps k)).length:Int)))
theorem qQ0(T:Txt K mg a):VFn P w K mg base 5 a.f17 a.d17 ["plan", "keys", "room"] (qN3 a.C3):=by
 refine VFn.mk2 T.d17.F qO5 (wOf [true,true,true]) qb2 (by walk_at "l") (λ _ _ _ _ _ _ _ m=>⟨_,(Aa (sif (tv<|Be rfl (vnm 0) T.C5.cl T.Cb) (Aj<|Au<|qa5<|vand (v2 (A8 (qj3 m.u64)<|qb1 _) Bk (vnm 2) Ae)<|Hr<|v2 (A8 Bo<|qb1 _) B9 (vbi qA0 qz9.ops T.Cj<|qa2 (vnm 1) qa6 rfl)<|Be rfl (vnm 0) T.C5.cl T.C7) Ax)<|Aj<|Au<|e2v (A8 Bo<|qb1 _) B9 (ebi qA0 qz9.ops T.Cj<|Ev<|vaV (ecN (NY:=["key", "room", "plan"]) (src:=[none,some 2,some 0]) 1<|blk (λ o C s H0 t=>(A7 0<|show (["key", "room", "plan"]:List Str).Nodup by decide +kernel)) (λ o C s H0 t=>(En<|q2v (A8 Fv<|qb1 _) (Aq Fv<|qb1 _) G5 (qr1 2 T.d9 T.C5.cl (qi0 T) qg6 (rm m)<|vaN 0 Ab)<|vnm 1)) (λ o C s H0 t=>(qb4<|vnm 0))) Ab)<|v2 (Am qt0) qs8 (Be rfl (vnm 0) T.C5.cl T.C7)<|vnm 2),λ E Q G h=>?_⟩);obtain⟨d,⟨z,n,wr,b,f,c,r,rfl,u,v,H,rfl⟩,q⟩:=h;refine Av [Ad z a.C3 n wr b,.l f (Oo c),.int r] rfl ?_;refine qm0 wr (A4 rfl qr0) (λ h=>?_) λ h=>?_
 . rw[if_pos h] at q
   have g:f2 gGt (Ba (fx1 Gn)<|A6 (rdN 1) λ _=>some []) (f1 (D.fld a.C3 "rooms")<|rdN 0) [Ad z a.C3 n wr b,.l f (Oo c),.int r]=some (.bl<|decide (n < (c.length:Int))):=Ag (qt4 rfl) (A4 rfl qd8) (by rw[qf8];rfl);exact qg9 _ (qai6 (a:=decide (r=0)) rfl g) q
 rw[if_neg (by rw[h];decide)] at q;refine qi3 ?_;refine⟨qe5 c,?_⟩;refine qj9 (λ ι=>∃ d,ι=[d,.int r,Ad z a.C3 n wr b]) (E9 λ k=>decide (r<=qb3 n b k)) (Oo c) [] _ (by show 0+(Oo c).length < big;rw[qf8];unfold big;lia) ⟨_,rfl⟩ ?_ ?_
 . rintro y A ι i ⟨d,rfl⟩ R B e
   obtain⟨k,j,rfl⟩:=zB9.mp A;refine qQ5 (p:=Ad z a.C3 n wr b) (x:=.int k) (d:=.int (qb3 n b k)) rfl (qf9 rfl) rfl rfl ⟨z,n,wr,b,k,rfl,u,v k j,rfl⟩ rfl ?_;have this:=B _ ⟨.int k,rfl⟩;refine qa0 (a:=D.bl (decide (r<=qb3 n b k))) rfl (qa0 (a:=decide (r<=qb3 n b k)) rfl<|ite_b (λ h=>?_) λ h=>?_)
   . rw[qah2 (p:=λ k=>decide (r<=qb3 n b k)) h] at this
     exact⟨rfl,e,this⟩
   rw[qah3 (p:=λ k=>decide (r<=qb3 n b k)) h] at this;have this:R (i++[]) _:=this;rw[zAd] at this;exact this
 rintro ι ⟨d,rfl⟩;rw[zB3,qF8];refine qa0 (a:=D.bl (decide (n - r < ((c.filter λ k=>decide (r<=qb3 n b k)).length:Int)))) ?_ q;show (f2 gSub (f1 (D.fld a.C3 "rooms")<|rdN 0) (rdN 2) [Ad z a.C3 n wr b,.l f (Oo c),.int r]).bind (gGt<|D.int ((Oo<|c.filter λ k=>decide (r<=qb3 n b k)).length:Nat))=_;rw[Ag (A4 rfl qd8) rfl rfl,qf8];rfl
theorem qn5:qa8 ["plan", "keys", "room"] ["plan", "keys"] (qa3 qk2):=by walk_at "s"
def qL1(n:Int)(wr:Bool)(ps:Pr)(ks:List Int)(r:Int):Bool:=if wr=true then decide (r=0)&&decide (n < (ks.length:Int)) else decide (n - r < ((ks.filter λ k=>decide (r<=qb3 n ps k)).length:Int))
def qW2(n:Int)(wr:Bool)(ps:Pr)(ks:List Int):Option Nat:=(Ku n.toNat).find? λ r=>qL1 n wr ps ks (r:Int)
noncomputable def natD:Option Nat->D
 | none=>.non
 | some k=>.int (k:Int)
def qA7(C:γ):VSp:=Ay λ ds d=>∃ z n wr ps z' ks,ds=[Ad z C n wr ps,.l z' (Oo ks)]/\1<=n/\n<=64/\(∀ k∈ks,Ap k)/\ks.length<=1000/\d=natD (qW2 n wr ps ks)
theorem qB6(T:Txt K mg a):VFn P w K mg base 6 a.f18 a.d18 ["plan", "keys"] (qA7 a.C3):=by
 refine VFn.mk2 T.d18.F qn5 (wOf [true,true]) qb2 (by walk_at "l") (λ _ _ _ _ _ _ _ t=>⟨_,(Aa (qO0 Nk T.Ch (Ev<|vaV (qb4<|Be rfl (vnm 0) T.C5.cl T.C7) Ab) (A7 2 qn5.nd)<|Aj<|sif (te<|Ah T.d17 (qQ0 T) qa1 (rm t)<|vaN 0<|vaN 1<|vaN 2 Ab) (Aj<|Au<|emv 2) Ax)<|Aj<|Au<|qa5 Bc),λ g Q u h=>?_⟩);obtain⟨d,⟨z,n,wr,c,o,f,rfl,v,E,A,B,rfl⟩,q⟩:=h;refine Av [Ad z a.C3 n wr c,.l o (Oo f),.u] rfl ?_;refine qc1 (λ g=>(∀ i,i < n.toNat->qL1 n wr c f (i:Int)=false)/\∃ d,g=[Ad z a.C3 n wr c,.l o (Oo f),d]) (λ K p=>?_) ?_
 . refine qR4 (A4 rfl qd8) (qZ6 (by lia) (by lia)) ?_
   refine qd4 (λ i g=>(∀ j,j < i->qL1 n wr c f (j:Int)=false)/\∃ d,g=[Ad z a.C3 n wr c,.l o (Oo f),d]) _ 0 _ ⟨λ j r=>absurd r<|zCq _,_,rfl⟩ ?_ ?_
   . rintro j x C g ⟨k,d,rfl⟩ K p
     rw[zA9] at k p;obtain⟨r,rfl⟩:=qP4 C;refine if_e (b:=qL1 n wr c f (j:Int)) (λ Q u q=>Jh (x:=Ad z a.C3 n wr c) (y:=.l o (Oo f)) (w:=.int (j:Int)) rfl rfl rfl rfl rfl ⟨z,n,wr,c,o,f,_,rfl,v,A,B,rfl⟩ rfl q) (λ s=>?_) (λ s=>?_)
     . have e:qW2 n wr c f=some j:=List.find?_range_eq_some.mpr ⟨s,zAn.mpr r,λ i m=>by rw[k i m];rfl⟩
       rw[e] at q;exact q
     refine p _ ⟨λ i m=>?_,_,rfl⟩;rcases zCi.mp m with h | rfl
     . exact k i h
     exact s
   rintro g ⟨k,D⟩;refine p _ ⟨λ i m=>k i ?_,D⟩;unfold Dn;rw[zA8,zB4,zA9];exact m
 rintro g ⟨k,d,rfl⟩;have e:qW2 n wr c f=none:=List.find?_range_eq_none.mpr λ i m=>by rw[k i m];rfl
 rw[e] at q;exact q
theorem qn4:qa8 ["plan", "keys", "room"] ["plan", "keys"] (qa3 qk0):=by walk_at "s"
theorem _root_.Row.Kept.perm(KP:Kept n wr hm g S):((Ku n).filterMap g).Perm S:=by
 refine(List.perm_ext_iff_of_nodup ?_ KP.h.1).mpr λ k=>?_
 . refine List.pairwise_filterMap.mpr (List.Pairwise.imp_of_mem (R:=(·≠·)) (λ{i j} a d f b l m c e=>?_) Lq)
   subst e;exact f (KP.o.inj i j b (zAn.mp a) (zAn.mp d) l c)
 rw[KP.h.2 k,zCx];exact⟨λ ⟨i,a,e⟩=>⟨i,zAn.mp a,e⟩,λ ⟨i,a,e⟩=>⟨i,zAn.mpr a,e⟩⟩
def qJ5(n:Int)(wr:Bool)(ps:Pr)(ks:List Int):Prop:=∀ r:Nat,r < n.toNat->qL1 n wr ps ks (r:Int)=false
theorem qS0(h:qJ5 n wr ps ks):qW2 n wr ps ks=none:=List.find?_range_eq_none.mpr λ i a=>by rw[h i a];rfl
theorem qaq3(h1:1<=n)(a:r < n.toNat):qL1 n wr ps ks (r:Int)=true↔Crowd n.toNat wr (Om n ps) ks r:=by
 unfold qL1 Crowd;cases wr with
 | true =>
   simp only[if_true,zBo,zBp];lia
 | false =>
   have e:(ks.filter λ k=>decide ((r:Int)<=qb3 n ps k))=ks.filter λ k=>decide (r<=Om n ps k):=by
     apply Ln;intro k _
     have:=qK3 (ps:=ps) h1 k
     apply zCd.mpr;lia
   simp only[Bool.false_eq_true,if_false,e,zBp];lia
theorem qJ5.of(h1:1<=n)(h:∀ q,¬ Crowd n.toNat wr (Om n ps) ks q):qJ5 n wr ps ks:=λ r a=>by
 cases e:qL1 n wr ps ks (r:Int) with
 | false=>rfl
 | true=>exact absurd ((qaq3 h1 a).mp e) (h r)
def qA5(C:γ):VSp:=Ay λ ds d=>∃ z n wr ps z' ks,ds=[Ad z C n wr ps,.l z' (Oo ks)]/\1<=n/\n<=64/\(∀ k∈ks,Ap k)/\ks.length<=1000/\qJ5 n wr ps ks/\d=.non
theorem qB4(T:Txt K mg a):VFn P w K mg base 7 a.f19 a.d19 ["plan", "keys"] (qA5 a.C3):=by
 refine VFn.mk2 T.d19.F qn4 (wOf [true,true]) qb2 (by walk_at "l") (λ _ _ _ _ _ _ _ g=>⟨_,(Aa (An 2 qn4.nd<|Ah T.d18 (qB6 T) qa1 (rm g)<|vaN 0<|vaN 1 Ab)<|Aj<|sif (q2 (Aq qo8<|qb1 _) qs9 (vnm 2) Bc) (Aj ql5) Ax),λ r Q s h=>?_⟩);obtain⟨d,⟨z,n,wr,c,e,f,rfl,i,j,k,m,o,rfl⟩,q⟩:=h;refine Av [Ad z a.C3 n wr c,.l e (Oo f),.u] rfl ?_;refine qb5 [Ad z a.C3 n wr c,.l e (Oo f),.non] (λ K p=>?_) ?_
 . exact qC1 (x:=Ad z a.C3 n wr c) (y:=.l e (Oo f)) (d:=.non) rfl rfl rfl ⟨z,n,wr,c,e,f,rfl,i,j,k,m,by rw[qS0 o];rfl⟩ rfl p
 exact if_v (b:=false) rfl nofun λ _=>q
theorem qh6:qa8 ["plan", "rooms", "key", "came", "room", "held"] ["plan", "rooms", "key"] (qa3 qx6):=by walk_at "s"
def qX9(C:γ):VSp:=λ ds Q _=>∃ z n wr ps g S key,ds=[Ad z C n wr ps,rL n g,.int key]/\1<=n/\n<=64/\Ap key/\(∀ k∈S,Ap k)/\Kept n.toNat wr (Om n ps) g S/\¬ key∈S/\(∃ e,Free n.toNat wr (Om n ps) g key e) /\
 ∀ came g',Kept n.toNat wr (Om n ps) g' (S++[key])->Q (.l false came) [Ad z C n wr ps,rL n g',.int key]
theorem qZ0(T:Txt K mg a):VFn P w K mg base 7 a.f20 a.d20 ["plan", "rooms", "key"] (qX9 a.C3):=by
 refine VFn.mk2 T.d20.F qh6 (wOf [true,true,false]) (by walk_at "m") (by walk_at "l") (λ _ _ _ _ _ _ _ j=>⟨_,(Aa (An 3 qh6.nd<|qa5<|Bs qa6)<|Aa (An 4 qh6.nd<|qr1 0 T.d9 T.C5.cl (qi0 T) qa1 (rm j)<|vaN 2 Ab)<|Aa (qaG7 Nk (q2 (Aq qo8<|qb1 _) qs9 (v2 (At qb0) Ak (vnm 1)<|vnm 4) Bc)<|Aa (An 5 qh6.nd<|qb4<|v2 (At qb0) Ak (vnm 1)<|vnm 4)<|Aa (sif (te<|qr1 0 T.d11 T.C5.cl (qj4 T) qa1 (rm j)<|vaN 4<|vaN 2<|vaN 5 Ab) (Aa (Bm<|Db 3 qt3 Nn No Np qd2<|vaV (qa5<|B6<|qa2 (vnm 2) (qa2 (vnm 4) qa6 rfl) rfl) Ab)<|Aa (Fs (qb4<|vnm 2)<|E5 (vpn 1)<|vnm 4)<|Aj<|An 2 qh6.nd<|qb4<|vnm 5) Ax)<|Aj<|An 4 qh6.nd<|qa5<|v2 (Am ql1) ql0 (v2 (Am qh4) qh3 (vnm 4) Ae)<|Be rfl (vnm 0) T.C5.cl T.C7)<|Aa (Bm<|Db 3 qt3 Nn No Np qd2<|vaV (qa5<|B6<|qa2 (vnm 2) (qa2 (vnm 4) qa6 rfl) rfl) Ab)<|Aa (Fs (qb4<|vnm 2)<|E5 (vpn 1)<|vnm 4)<|Aj<|Au<|emv 3),λ o Q J h=>?_⟩);obtain⟨z,n,wr,f,g,S,key,rfl,u,X,s,L,KP,A,⟨e,Fr⟩,q⟩:=h;have M:=Ex (ps:=f) u key;have H:∀ x∈S++[key],Ap x:=λ x v=>by
   rcases zAa.mp v with h | h
   . exact L x h
   rw[zAl.mp h];exact s
 have E:(S++[key]).Nodup:=zBv.mpr ⟨KP.h.1,(by simp),λ x v y B e=>A (by rw[<- zAl.mp B,<- e];exact v)⟩;refine Av [Ad z a.C3 n wr f,rL n g,.int key,.u,.u,.u] rfl ?_;refine qb5 [Ad z a.C3 n wr f,rL n g,.int key,.l false [],.u,.u] (λ K i=>i) ?_;refine qb5 [Ad z a.C3 n wr f,rL n g,.int key,.l false [],.int (Om n f key:Nat),.u] (λ K i=>?_) ?_
 . exact qQ5 (p:=Ad z a.C3 n wr f) (x:=.int key) (d:=.int (Om n f key:Nat)) rfl (qf9 rfl) rfl rfl ⟨z,n,wr,f,key,rfl,u,s,by rw[qK3 u]⟩ rfl i
 refine qc1 (λ o=>∃ g2 c r came t,o=[Ad z a.C3 n wr f,rL n g2,.int c,.l false came,.int (r:Nat),t]/\Row.Walk n.toNat wr (Om n f) (S++[key]) key e g2 c r/\g2 r=none/\came.length<=64) (λ K i=>?_) ?_
 . have W0:=KP.start A Fr
   refine qaw5 (λ m o=>∃ g2 c r came t,o=[Ad z a.C3 n wr f,rL n g2,.int c,.l false came,.int (r:Nat),t]/\Row.Walk n.toNat wr (Om n f) (S++[key]) key e g2 c r/\m=Ac n.toNat (Om n f key) e - Ac n.toNat (Om n f key) r/\came.length+m<=64) _ ⟨g,key,Om n f key,[],_,rfl,W0,rfl,by have:=qj7 Fr.1 M;show 0+_<=64;lia⟩ ?_;rintro m o ⟨g2,c,r,came,t,rfl,W,rfl,N⟩ K2 G;have j:=W.hr;cases k:g2 r with
   | none =>
     refine qe6 (b:=false) (Ag (Ag rfl rfl<|Gg j) rfl (by rw[k];rfl)) ?_;exact i _ ⟨g2,c,r,came,t,rfl,W,k,by lia⟩
   | some y =>
     refine qe6 (b:=true) (Ag (Ag rfl rfl<|Gg j) rfl (by rw[k];rfl)) ?_;have v:wr=false->Om n f c<=r:=λ h=>(W.ln h).2.1
     have B:wr=false->Om n f y<=r:=λ h=>(W.ln h).2.2 r y j k
     have O:Ap c:=H c ((W.all c).mpr (.inl rfl));have R:Ap y:=H y ((W.all y).mpr (.inr ⟨r,j,k⟩));have Y:=W.lt k;have I:=W.nx k;refine Du rfl ?_;refine qb5 [Ad z a.C3 n wr f,rL n g2,.int c,.l false came,.int (r:Nat),.int y] (λ K i=>?_) ?_
     . exact qw9 (d:=.int y) (Ag rfl rfl (by rw[Gg j,k];rfl)) rfl i
     refine qc1 (λ o=>∃ g3 C came3,o=[Ad z a.C3 n wr f,rL n g3,.int C,.l false came3,.int (r:Nat),.int y]/\Row.Walk n.toNat wr (Om n f) (S++[key]) key e g3 C (Row.next n.toNat r)/\came3.length<=came.length+1) (λ K i=>?_) ?_
     . refine if_e (b:=qf2 n wr f (r:Nat) c y) (λ Q J q=>qaV8 (p:=Ad z a.C3 n wr f) (x:=.int (r:Nat)) (y:=.int c) (w:=.int y) rfl (qf9 rfl) rfl rfl rfl rfl rfl rfl ⟨z,n,wr,f,(r:Nat),c,y,rfl,u,by lia,by lia,O,R,rfl⟩ rfl q) (λ D=>?_) (λ D=>?_)
       . have U:=(qw5 u j v B).mp D
         refine qb5 [Ad z a.C3 n wr f,rL n g2,.int c,.l false (came++[.q [.int c,.int (r:Nat)]]),.int (r:Nat),.int y] (λ K i=>?_) ?_
         . exact qL7 (ys:=came) (d:=.q [.int c,.int (r:Nat)]) rfl rfl (by show came.length < 1000000;lia) i
         refine qb5 [Ad z a.C3 n wr f,rL n (Row.set g2 r c),.int c,.l false (came++[.q [.int c,.int (r:Nat)]]),.int (r:Nat),.int y] (λ K i=>?_) ?_
         . refine qT1 (d:=.int c) (ys:=Op n.toNat g2) rfl rfl rfl rfl (qaC2 j) ?_
           rw[qO2];exact i
         exact qw9 (d:=.int y) rfl rfl (i _ ⟨Row.set g2 r c,y,_,rfl,W.swap k U,by rw[zAe];exact zA3 _⟩)
       exact i _ ⟨g2,c,came,rfl,W.on k (λ h=>by rw[(qw5 u j v B).mpr h] at D;cases D),by lia⟩
     rintro o ⟨g3,C,came3,rfl,W3,V⟩;refine qu1 (d:=.int (Row.next n.toNat r:Nat)) (Ag (Ag rfl rfl rfl) (A4 rfl qd8) (by rw[Dp (by lia),qaA8 u j])) ?_;exact G _ _ (by rw[I];lia) ⟨g3,C,_,came3,_,rfl,W3,rfl,by rw[I];lia⟩
 rintro o ⟨g2,c,r,came,t,rfl,W,k,N⟩;have j:=W.hr;refine qb5 [Ad z a.C3 n wr f,rL n g2,.int c,.l false (came++[.q [.int c,.int (r:Nat)]]),.int (r:Nat),t] (λ K i=>?_) ?_
 . exact qL7 (ys:=came) (d:=.q [.int c,.int (r:Nat)]) rfl rfl (by show came.length < 1000000;lia) i
 refine qb5 [Ad z a.C3 n wr f,rL n (Row.set g2 r c),.int c,.l false (came++[.q [.int c,.int (r:Nat)]]),.int (r:Nat),t] (λ K i=>?_) ?_
 . refine qT1 (d:=.int c) (ys:=Op n.toNat g2) rfl rfl rfl rfl (qaC2 j) ?_
   rw[qO2];exact i
 exact q _ _ (W.done E k)
theorem qx1:qa8 ["self"] ["self"] (qa3 qj0):=by walk_at "s"
noncomputable def Gj(y:D):Option D:=match y with
 | .int k=>some (.int k)
 | _=>none
theorem qah1(N:Nat)(g:Nat->Option Int):(Op N g).filterMap Gj=Oo ((Ku N).filterMap g):=by
 unfold Op Oo;rw[Mg,List.map_filterMap];refine congrArg (λ f=>Mw f<|Ku N) (funext λ i=>?_);show Gj (Aw<|g i)=(g i).map D.int;cases g i<;>rfl
def qw8(C CP:γ):VSp:=Ay λ ds d=>∃ zr n wr ps g dn,ds=[Al zr C CP n wr ps g dn]/\n<=64/\d=.l false (Oo ((Ku n.toNat).filterMap g))
theorem qf0(T:Txt K mg a):VFn P w K mg base 1 a.f23 a.d23 ["self"] (qw8 a.C4 a.C3):=by
 refine VFn.mk2 T.d23.F qx1 (wOf [true]) qb2 (by walk_at "l") (λ _ _ _ _ _ _ _ u=>⟨_,(Aj<|Au<|eAlt (ecP (NY:=["key"]) (src:=[none]) (Iu rfl (vpn 0) T.C6.cl T.Ca)<|blk (λ i C j H0 m=>(A7 0<|show (["key"]:List Str).Nodup by decide +kernel)) (λ i C j H0 m=>(En<|q2 (Aq qo8<|qb1 _) qs9 (vnm 0) Bc)) (λ i C j H0 m=>(qb4<|vnm 0)))<|ecL (NY:=["key"]) (src:=[none]) (qb4<|Be rfl (vnm 0) T.C6.cl T.Ca)<|blk (λ i C j H0 m=>(A7 0<|show (["key"]:List Str).Nodup by decide +kernel)) (λ i C j H0 m=>(En<|q2 (Aq qo8<|qb1 _) qs9 (vnm 0) Bc)) (λ i C j H0 m=>(qb4<|vnm 0))),λ v Q x h=>?_⟩);obtain⟨d,⟨r,n,wr,s,g,t,rfl,z,rfl⟩,q⟩:=h;refine Av [Al r a.C4 a.C3 n wr s g t] rfl ?_;have step:∀(y:D),y∈Op n.toNat g->∀(d:D)(c:Ds)(R:Ds->Ds->Prop),(∀ ι',(∃ d,ι'=[d])->R (c++(Gj y).toList) ι')->c.length < big->gNm 0 y [d] λ ι1=>ttV (f2 gIsn (rdN 0)<|kC .non) ι1 (λ b ι2=>if b=true then B8 (rdN 0) ι2 (λ d ι3=>c.length < big/\R (c++[d]) ι3) (λ _ _=>False) else R c ι2) (λ _ _=>False):=λ y o d c R p f=>by
   have this:=p [y] ⟨_,rfl⟩;refine qk6 ?_;rcases qam2 o with rfl | ⟨k,rfl⟩
   . have this:R (c++[]) _:=this
     rw[zAd] at this;exact qe6 (b:=false) (Ag rfl rfl rfl) (Hh (by decide) this)
   exact qe6 (b:=true) (Ag rfl rfl rfl) (Du rfl<|ql2 (d:=.int k) rfl rfl ⟨f,this⟩)
 cases r with
 | false =>
   refine qi3 (.inl<|qa0 (a:=(0,[1])) (by show (D.fidx a.C4 "held"<|rA a n wr s g t).map (λ n=>(0,[n]))=_;rw[qV6];rfl)<|qa0 (a:=D.l false (Op n.toNat g)) rfl<|qa0 (a:=Op n.toNat g) rfl ⟨qv0 _ _,λ w=>?_⟩);refine qj9 (λ ι=>∃ d,ι=[d]) Gj _ [] _ (by show 0+_ < 1000000;rw[qi2];lia) ⟨_,rfl⟩ (λ y o ι c ⟨d,e⟩ R p f=>e ▸ step y o d c R p f) ?_;rintro ι ⟨d,rfl⟩;rw[qah1,zB3];exact qa0 (qaZ1 rfl) q
 | true =>
   refine qi3 (.inr<|ql2 (d:=.l true (Op n.toNat g)) (A4 rfl qq1) rfl<|qa0 (a:=Op n.toNat g) rfl ⟨qv0 _ _,?_⟩);refine qj9 (λ ι=>∃ d,ι=[d]) Gj _ [] _ (by show 0+_ < 1000000;rw[qi2];lia) ⟨_,rfl⟩ (λ y o ι c ⟨d,e⟩ R p f=>e ▸ step y o d c R p f) ?_;rintro ι ⟨d,rfl⟩;rw[qah1,zB3];exact q
theorem qE2:qa8 ["self", "key"] ["self", "key"] (qa3 ql6):=by walk_at "s"
noncomputable def Gz:Option Int->V
 | some k=>.int k
 | none=>.non
theorem qG3(N:Nat)(g:Nat->Option Int):flats (Op N g)=some ((Ku N).map λ i=>Gz<|g i):=by
 have:∀ l:List Nat,flats (l.map λ i=>Aw<|g i)=some (l.map λ i=>Gz<|g i):=λ l=>by
   induction l with
   | nil=>rfl
   | cons a l b =>
     show ((Aw<|g a).flat.bind λ v=>(flats<|l.map λ i=>Aw<|g i).bind λ c=>some (v::c))=_;rw[b,zAx];cases g a<;>rfl
 exact this _
noncomputable def Bh(N:Nat)(g:Nat->Option Int)(k:Int):Option Nat:=(Ku N).findIdx? λ i=>decide (g i=some k)
def Ep(N:Nat)(g:Nat->Option Int)(k:Int):D:=match Bh N g k with
 | some i=>.int (i:Nat)
 | none=>.non
theorem qav4:eqV (Gz o) (.int k)=decide (o=some k):=by
 cases o with
 | none=>rfl
 | some a =>
   show decide (a=k)=_;exact zCd.mpr ⟨λ h=>by rw[h],λ h=>Nj h⟩
theorem qau7{k:Int}{g:Nat->Option Int}:∀ l:List Nat,Eu (.int k) (l.map λ i=>Gz<|g i)=l.findIdx? λ i=>decide (g i=some k)
 | []=>rfl
 | a::l=>by
   show (if eqV (Gz<|g a) (.int k)=true then some 0 else (Eu (.int k)<|l.map λ i=>Gz<|g i).map (· + 1))=_;rw[qav4,qau7 l,zCw]
theorem qao6{k:Int}{g:Nat->Option Int}:∀ l:List Nat,inV (.int k) (l.map λ i=>Gz<|g i)=(l.findIdx? λ i=>decide (g i=some k)).isSome
 | []=>rfl
 | a::l=>by
   have b:=qao6 (k:=k) (g:=g) l;unfold inV at b ⊢;rw[zAx,zD1,b,zCw];have e:=qav4 (o:=g a) (k:=k);cases h:decide (g a=some k) with
   | true=>rw[h] at e;simp[e]
   | false=>rw[h] at e;simp[e]
theorem qam1(h:∀ i,i < N->g i≠some k):Ep N g k=.non:=by
 have:Bh N g k=none:=List.findIdx?_eq_none_iff.mpr λ i a=>zAv (h i<|zAn.mp a)
 unfold Ep;rw[this]
def qD9(C CP:γ):VSp:=Ay λ ds d=>∃ zr n wr ps g dn k,ds=[Al zr C CP n wr ps g dn,.int k]/\Ap k/\d=Ep n.toNat g k
theorem qq2(T:Txt K mg a):VFn P w K mg base 4 a.f25 a.d25 ["self", "key"] (qD9 a.C4 a.C3):=by
 refine VFn.mk2 T.d25.F qE2 (wOf [true,true]) qb2 (by walk_at "l") (λ _ _ _ _ _ _ _ r=>⟨_,(Aa (sif (Bn<|te<|Ah T.d3 (qc8 T) qa1 (rm r)<|vaN 1 Ab) (Aj ql5) Ax)<|Aj<|Au<|eif (q2 (Aq qw3 (by with_unfolding_all rfl)) Ey (vnm 1)<|Be rfl (vnm 0) T.C6.cl T.Ca) (qa5<|vbm qaL0 Nn Nu N4 qaf0 (Be rfl (vnm 0) T.C6.cl T.Ca) (vnm 1) qau8)<|qa5 Bc),λ u Q s h=>?_⟩);obtain⟨d,⟨f,n,wr,o,g,p,k,rfl,t,rfl⟩,q⟩:=h;refine Av [Al f a.C4 a.C3 n wr o g p,.int k] rfl ?_;refine Fh (λ Q s q=>qI5 (x:=.int k) (d:=.bl true) rfl (qan5 t) rfl q) (qi3 ?_);have m:f2 (Hq false) (rdN 1) (f1 (D.fld a.C4 "held")<|rdN 0) [Al f a.C4 a.C3 n wr o g p,.int k]=some (.bl (Bh n.toNat g k).isSome):=by
   refine Ag (x:=.int k) (y:=.l f (Op n.toNat g)) rfl (A4 rfl qq1) ?_;show ((flats<|Op n.toNat g).bind λ b=>some<|D.bl<|if false=true then !inV (.int k) b else inV (.int k) b)=_;rw[qG3];show some (D.bl<|inV (.int k) _)=_;rw[qao6];rfl
 refine Fi m (λ h=>?_) λ h=>?_
 . obtain⟨i,c⟩:=zB8.mp h
   refine qq4 (d:=.int (i:Nat)) (Ag (A4 rfl qq1) rfl ?_) ?_
   . show ((some<|V.int k).bind λ v=>(flats<|Op n.toNat g).bind λ b=>(Eu v b).map λ j=>D.int (j:Nat))=_
     rw[qG3];show (Eu (.int k) _).map _=_;rw[qau7];show (Bh n.toNat g k).map _=_;rw[c];rfl
   unfold Ep at q;rw[c] at q;exact q
 refine qq4 (d:=.non) rfl ?_;have c:Bh n.toNat g k=none:=by cases e:Bh n.toNat g k with | none=>rfl | some i=>rw[e] at h;cases h
 unfold Ep at q;rw[c] at q;exact q
theorem qac5:qa8 ["self", "key"] ["self", "key"] (qa3 qE5):=by walk_at "s"
theorem qap3:D.fidx C "done" (Al false C CP n wr ps g dn)=some 2:=by
 show (if C=C then List.findIdx? (λ q:Str×D=>("done" : Str) == q.1) [("plan",Ad true CP n wr ps),("held",rL n g),("done",.l false dn)] else none)=_;rw[if_pos rfl];rfl
def qab8(C CP:γ):VSp:=λ ds Q _=>∃ n wr ps g dn S k,ds=[Al false C CP n wr ps g dn,.int k]/\1<=n/\n<=64/\Ap k/\(∀ x∈S,Ap x)/\Kept n.toNat wr (Om n ps) g S/\¬ k∈S/\(∀ q,¬ Crowd n.toNat wr (Om n ps) (S++[k]) q)/\dn.length<=1000 /\
 ∀ came g',Kept n.toNat wr (Om n ps) g' (S++[k])->Q (.l false came) [Al false C CP n wr ps g' (dn++[.q [.str "put",.int k]]),.int k]
theorem qae4(T:Txt K mg a):VFn P w K mg base 8 a.f26 a.d26 ["self", "key"] (qab8 a.C4 a.C3):=by
 refine VFn.mk2 T.d26.F qac5 (wOf [true,true]) (by walk_at "m") (by walk_at "l") (λ _ _ _ _ _ _ _ r=>⟨_,(Aa (sif (q2v (A8 qo8<|qb1 _) (Aq qo8<|qb1 _) qs9 (qr1 0 T.d25 T.C6.cl (qq2 T) qa1 (rm r)<|vaN 1 Ab) Bc) (Aj ql5) Ax)<|Aa (Bm<|Ah T.d19 (qB4 T) qa1 (rm r)<|vaV (qb4<|Be rfl (vnm 0) T.C6.cl T.C9)<|vaV (e2v (Am qh4) qh3 (qz8 0 T.d23 T.C6.cl (qf0 T) qa1<|rm r)<|Bs<|qa2 (vnm 1) qa6 rfl) Ab)<|Aa (Bm<|emutP qt3 Nn No Np qd2 (Iu rfl (vpn 0) T.C6.cl T.Ci)<|vaV (qa5<|B6<|qa2 F6 (qa2 (vnm 1) qa6 rfl) rfl) Ab)<|Aj<|Au<|Ah T.d20 (qZ0 T) qa1 (rm r)<|vaV (qb4<|Be rfl (vnm 0) T.C6.cl T.C9)<|vaB (Iu rfl (vpn 0) T.C6.cl T.Ca)<|vaN 1 Ab),λ L Q M h=>?_⟩);obtain⟨n,wr,b,g,f,S,k,rfl,s,t,u,A,KP,j,C,H,q⟩:=h;have E:=KP.perm;have N:((Ku n.toNat).filterMap g).length<=64:=by
   have:=zBy g (Ku n.toNat)
   rw[zB4] at this;lia
 refine Av [rA a n wr b g f,.int k] rfl ?_;refine qh2 false (λ Q q=>qI4 ?_) nofun λ _=>?_
 . refine qQ5 (p:=rA a n wr b g f) (x:=.int k) (d:=.non) rfl (qj5 rfl) rfl rfl ⟨false,n,wr,b,g,f,k,rfl,u,(qam1 λ i I e=>j ((KP.h.2 k).mpr ⟨i,I,e⟩)).symm⟩ rfl ?_
   exact qa0 (a:=D.bl false) rfl (qa0 (a:=false) rfl q)
 refine qb5 [rA a n wr b g f,.int k] (λ K v=>qn8<|qe0 ?_) ?_
 . refine qc6 (y:=Ad true a.C3 n wr b) (A4 rfl qg2) rfl (qc7<|qN0 ?_)
   refine qQ6 (p:=rA a n wr b g f) (d:=kL ((Ku n.toNat).filterMap g)) rfl (qj5 rfl) ⟨false,n,wr,b,g,f,rfl,t,rfl⟩ rfl ?_;refine qa0 (a:=D.l false (Oo ((Ku n.toNat).filterMap g++[k]))) (qar6 (z:=false) (z':=false) (B:=[k]) (by show _+1<=1000;lia)) (qb7 ?_);refine⟨_,⟨true,n,wr,b,false,_,rfl,s,t,λ x J=>?_,by rw[zAe];show _+1<=1000;lia,qJ5.of s λ q c=>C q<|c.perm<|E.append_right [k],rfl⟩,v⟩;rcases zAa.mp J with h | h
   . exact A x (E.subset h)
   rw[zAl.mp h];exact u
 refine qb5 [rA a n wr b g (f++[.q [.str "put",.int k]]),.int k] (λ K v=>qn8 ?_) ?_
 . refine qaM4 (i:=0) (p:=[2]) (ys:=f) (d0:=rA a n wr b g f) (by show (D.fidx a.C4 "done"<|rA a n wr b g f).map (λ n=>(0,[n]))=_;rw[qap3];rfl) rfl rfl ?_
   exact qh7 (y:=.q [.str "put",.int k]) rfl (qb7<|qa0 (a:=(f++[D.q [.str "put",.int k]],D.non)) (if_pos<|show f.length < big by unfold big;lia) v)
 generalize f++[.q [.str "put",.int k]]=o at q ⊢;refine qi3 (qe0<|qc6 (y:=Ad true a.C3 n wr b) (A4 rfl qg2) rfl ?_);refine qa0 (a:=(0,[1])) (by show (D.fidx a.C4 "held"<|rA a n wr b g o).map (λ n=>(0,[n]))=_;rw[qV6];rfl) (qa0 (a:=D.l false (Op n.toNat g)) rfl ⟨rfl,λ w=>?_⟩);refine qb8 (x:=.int k) rfl (qb7<|qa0 (a:=D.int k) rfl ?_);refine⟨true,n,wr,b,g,S,k,rfl,s,t,u,A,KP,j,?_,λ came G K'=>?_⟩
 . by_cases h:∃ e,Free n.toNat wr (Om n b) g k e
   . exact h
   obtain⟨q,c⟩:=KP.crowd λ e z=>h ⟨e,z⟩
   exact absurd c (C q)
 refine qa0 (a:=[rA a n wr b G o,.int k]) ?_ (q came G K');show As (.pl 0 [1] w::_) _ _=_;rw[qS4 rfl];rfl
theorem qo3:qa8 ["one", "other", "keys"] ["one", "other", "keys"] (qa3 qe9):=by walk_at "s"
theorem t2_to(h:ta ds (λ x ds1=>tb ds1 (λ y a=>orF (g x y) λ d=>Q d a) xe) xe):t2 g ta tb ds Q xe:=h
def qo2(C CP:γ):VSp:=Ay λ ds d=>∃ z z' n wr b ps a g g' dn c y ks,ds=[Al z C CP n wr ps g dn,Al z' C CP n b a g' c,.l y (Oo ks)]/\1<=n/\(∀ k∈ks,Ap k)/\ks.length<=1000/\(∀ k∈ks,qb3 n ps k=qb3 n a k)/\d=.bl true
theorem qp0(T:Txt K mg a):VFn P w K mg base 5 a.f29 a.d29 ["one", "other", "keys"] (qo2 a.C4 a.C3):=by
 refine VFn.mk2 T.d29.F qo3 (wOf [true,true,true]) qb2 (by walk_at "l") (λ _ _ _ _ _ _ _ s=>⟨_,(Aj<|Au<|ebi (qH1 rfl) qaE4.ops T.D0<|Ev<|vaV (ecN (NY:=["key", "one", "other"]) (src:=[none,some 0,some 1]) 2<|blk (λ u C v H0 A=>(A7 0<|show (["key", "one", "other"]:List Str).Nodup by decide +kernel)) (λ u C v H0 A=>Em) (λ u C v H0 A=>(e2 (A8 (qj3 s.u64)<|qb1 _) Bk (qaP8 T.d9 T.C5.cl (qi0 T) qg6 (rm s) (Be rfl (vnm 1) T.C6.cl T.C9)<|vaN 0 Ab)<|qaP8 T.d9 T.C5.cl (qi0 T) qg6 (rm s) (Be rfl (vnm 2) T.C6.cl T.C9)<|vaN 0 Ab))) Ab),λ J Q L h=>?_⟩);obtain⟨d,⟨z,j,n,wr,c,f,b,g,m,o,e,y,p,rfl,B,E,M,G,rfl⟩,q⟩:=h;refine Av [Al z a.C4 a.C3 n wr f g o,Al j a.C4 a.C3 n c b m e,.l y (Oo p)] rfl ?_;refine qi3 (co_to<|qc7<|qa0 (a:=D.l y (Oo p)) rfl<|qa0 (a:=Oo p) rfl ⟨qe5 p,?_⟩);refine qj9 (λ ι=>∃ d,ι=[d,Al z a.C4 a.C3 n wr f g o,Al j a.C4 a.C3 n c b m e]) (λ _=>some<|.bl true) _ [] _ (by show 0+_ < 1000000;rw[qf8];lia) ⟨_,rfl⟩ ?_ ?_
 . rintro y H ι t ⟨d,rfl⟩ R I r
   obtain⟨k,i,rfl⟩:=zB9.mp H;have this:R (t++[D.bl true]) _:=I [.int k,Al z a.C4 a.C3 n wr f g o,Al j a.C4 a.C3 n c b m e] ⟨_,rfl⟩;refine qk6 (qX4<|Du rfl<|t2_to<|qQ4 (d:=Ad true a.C3 n wr f) (A4 rfl qg2) rfl (qf9 rfl)<|qb8 (x:=.int k) rfl<|qb7<|qa0 (a:=D.int k) rfl ⟨_,⟨true,n,wr,f,k,rfl,B,E k i,rfl⟩,?_⟩);refine qa0 (a:=[.int k,Al z a.C4 a.C3 n wr f g o,Al j a.C4 a.C3 n c b m e]) rfl ?_;refine qQ4 (d:=Ad true a.C3 n c b) (A4 rfl qg2) rfl (qf9 rfl) (qb8 (x:=.int k) rfl<|qb7<|qa0 (a:=D.int k) rfl ⟨_,⟨true,n,c,b,k,rfl,B,E k i,rfl⟩,?_⟩);refine qa0 (a:=[.int k,Al z a.C4 a.C3 n wr f g o,Al j a.C4 a.C3 n c b m e]) rfl (qa0 (a:=D.bl true) ?_ ⟨r,this⟩);rw[G k i];show some (D.bl<|qb3 n b k == qb3 n b k)=_;rw[zBc]
 rintro ι ⟨d,rfl⟩;rw[zB3,qR5];refine qb7 (qa0 (a:=D.bl true) ?_ q);rw[show fx1 gAll [D.l false ((Oo p).map λ _=>D.bl true)]=_ from qaF2 (λ _=>true) _,zBi.mpr λ _ _=>rfl]
theorem qx0:qa8 ["one", "other"] ["one", "other"] (qa3 qi9):=by walk_at "s"
def qw7(C CP:γ):VSp:=Ay λ ds d=>∃ z z' n wr ps a g g' dn b,ds=[Al z C CP n wr ps g dn,Al z' C CP n wr a g' b]/\1<=n/\n<=64/\(∀ i k,i < n.toNat->g i=some k∨g' i=some k->Ap k/\qb3 n ps k=qb3 n a k)/\d=.non
theorem ql8(T:Txt K mg a):VFn P w K mg base 6 a.f30 a.d30 ["one", "other"] (qw7 a.C4 a.C3):=by
 refine VFn.mk2 T.d30.F qx0 (wOf [true,true]) qb2 (by walk_at "l") (λ _ _ _ _ _ _ _ r=>⟨_,(Aa (sif (tor (q2 (Aq (qE9 r.u64)<|qb1 _) Ef (Be rfl (Be rfl (vnm 0) T.C6.cl T.C9) T.C5.cl T.C7)<|Be rfl (Be rfl (vnm 1) T.C6.cl T.C9) T.C5.cl T.C7)<|Gp<|q2 (Aq (qE9 r.u64)<|qb1 _) Ef (Be rfl (Be rfl (vnm 0) T.C6.cl T.C9) T.C5.cl T.Cb)<|Be rfl (Be rfl (vnm 1) T.C6.cl T.C9) T.C5.cl T.Cb).te (Aj ql5) Ax)<|Aj<|sif (Bn<|te<|Ah T.d29 (qp0 T) qa1 (rm r)<|vaN 0<|vaN 1<|vaV (e2 (Am qh4) qh3 (qz8 0 T.d23 T.C6.cl (qf0 T) qa1<|rm r)<|qz8 1 T.d23 T.C6.cl (qf0 T) qa1<|rm r) Ab) (Aj ql5) Ax),λ C Q D h=>?_⟩);obtain⟨d,⟨z,m,n,wr,j,b,g,f,o,c,rfl,y,s,t,rfl⟩,q⟩:=h;refine Av [Al z a.C4 a.C3 n wr j g o,Al m a.C4 a.C3 n wr b f c] rfl ?_;refine qh2 false (λ Q q=>qn2 false false (λ Q q=>qe6 (Ag (A4 (A4 rfl qg2) qd8) (A4 (A4 rfl qg2) qd8)<|qR0 rfl) q) (λ _ Q q=>qe6 (Ag (A4 (A4 rfl qg2) qr0) (A4 (A4 rfl qg2) qr0)<|qR0 rfl) q) q) nofun λ _=>?_
 have A:=zBy g (Ku n.toNat);have B:=zBy f (Ku n.toNat);rw[zB4] at A B;have u:∀ k∈(Ku n.toNat).filterMap g++(Ku n.toNat).filterMap f,Ap k/\qb3 n j k=qb3 n b k:=λ k h=>by
   rcases zAa.mp h with h | h<;>obtain⟨i,v,e⟩:=zCx.mp h
   . exact t i k (zAn.mp v) (.inl e)
   exact t i k (zAn.mp v) (.inr e)
 refine if_of false (λ Q q=>(show Eg _ _ _ _ from(show ttE _ _ _ _ from ?_))) nofun λ _=>q
 refine qe0 (qb8 (x:=Al z a.C4 a.C3 n wr j g o) rfl<|qb8 (x:=Al m a.C4 a.C3 n wr b f c) rfl<|qc7<|t2_to ?_);refine qQ6 (p:=Al z a.C4 a.C3 n wr j g o) (d:=kL ((Ku n.toNat).filterMap g)) rfl (qj5 rfl) ⟨z,n,wr,j,g,o,rfl,s,rfl⟩ rfl ?_;refine qQ6 (p:=Al m a.C4 a.C3 n wr b f c) (d:=kL ((Ku n.toNat).filterMap f)) rfl (qj5 rfl) ⟨m,n,wr,b,f,c,rfl,s,rfl⟩ rfl ?_;refine qa0 (qar6 (by lia)) (qb7<|qa0 (a:=Al m a.C4 a.C3 n wr b f c) rfl<|qa0 (a:=Al z a.C4 a.C3 n wr j g o) rfl ?_);exact⟨_,⟨z,m,n,wr,wr,j,b,g,f,o,c,false,_,rfl,y,λ k h=>(u k h).1,by rw[zAe];lia,λ k h=>(u k h).2,rfl⟩,qa0 (a:=[Al z a.C4 a.C3 n wr j g o,Al m a.C4 a.C3 n wr b f c]) rfl<|qa0 (a:=true) rfl q⟩
theorem qac4:qa8 ["one", "other"] ["one", "other"] (qa3 qE4):=by walk_at "s"
def onlyL(N:Nat)(g g':Nat->Option Int):List Int:=((Ku N).filterMap g).filter λ k=>!(Bh N g' k).isSome
def qab7(C CP:γ):VSp:=Ay λ ds d=>∃ z z' n wr ps a g g' dn b,ds=[Al z C CP n wr ps g dn,Al z' C CP n wr a g' b]/\1<=n/\n<=64/\(∀ i k,i < n.toNat->g i=some k∨g' i=some k->Ap k/\qb3 n ps k=qb3 n a k)/\d=.l false (Oo<|onlyL n.toNat g g')
theorem qJ1(T:Txt K mg a):VFn P w K mg base 7 a.f32 a.d32 ["one", "other"] (qab7 a.C4 a.C3):=by
 refine VFn.mk2 T.d32.F qac4 (wOf [true,true]) qb2 (by walk_at "l") (λ _ _ _ _ _ _ _ s=>⟨_,(Aa (Bm<|Ah T.d30 (ql8 T) qa1 (rm s)<|vaN 0<|vaN 1 Ab)<|Aj<|Au<|ecL (NY:=["key", "other"]) (src:=[none,some 1]) (qz8 0 T.d23 T.C6.cl (qf0 T) qa1<|rm s)<|blk (λ v C A H0 B=>(A7 0<|show (["key", "other"]:List Str).Nodup by decide +kernel)) (λ v C A H0 B=>(En<|q2v (A8 Da<|qb1 _) (Aq Da<|qb1 _) Di (qr1 1 T.d25 T.C6.cl (qq2 T) qg6 (rm s)<|vaN 0 Ab) Bc)) (λ v C A H0 B=>(qb4<|vnm 0))),λ S Q U h=>?_⟩);obtain⟨d,⟨z,j,n,wr,m,b,g,f,o,c,rfl,H,E,G,rfl⟩,q⟩:=h;refine Av [Al z a.C4 a.C3 n wr m g o,Al j a.C4 a.C3 n wr b f c] rfl ?_;refine qb5 [Al z a.C4 a.C3 n wr m g o,Al j a.C4 a.C3 n wr b f c] (λ K I=>qn8<|qC1 (x:=Al z a.C4 a.C3 n wr m g o) (y:=Al j a.C4 a.C3 n wr b f c) rfl rfl rfl ⟨z,j,n,wr,m,b,g,f,o,c,rfl,H,E,G,rfl⟩ rfl I) ?_;have J:=zBy g (Ku n.toNat);rw[zB4] at J;refine qi3 (qQ6 (p:=Al z a.C4 a.C3 n wr m g o) (d:=kL ((Ku n.toNat).filterMap g)) rfl (qj5 rfl) ⟨z,n,wr,m,g,o,rfl,E,rfl⟩ rfl<|qa0 (a:=Oo ((Ku n.toNat).filterMap g)) rfl ⟨qe5 _,?_⟩);refine qj9 (λ ι=>∃ d,ι=[d,Al j a.C4 a.C3 n wr b f c]) (E9 λ k=>!(Bh n.toNat f k).isSome) _ [] _ (by show 0+_ < 1000000;rw[qf8];lia) ⟨_,rfl⟩ ?_ ?_
 . rintro y L ι t ⟨d,rfl⟩ R M r
   obtain⟨k,u,rfl⟩:=zB9.mp L;obtain⟨i,N,e⟩:=zCx.mp u;have this:=M [.int k,Al j a.C4 a.C3 n wr b f c] ⟨_,rfl⟩;refine qk6 (qI4<|qQ5 (p:=Al j a.C4 a.C3 n wr b f c) (x:=.int k) (d:=Ep n.toNat f k) rfl (qj5 rfl) rfl rfl ⟨j,n,wr,b,f,c,k,rfl,(G i k (zAn.mp N)<|.inl e).1,rfl⟩ rfl ?_);have O:gIs (Ep n.toNat f k) .non=some (.bl !(Bh n.toNat f k).isSome):=by
     unfold Ep;cases Bh n.toNat f k<;>rfl
   refine qa0 (a:=D.bl !(Bh n.toNat f k).isSome) O (qa0 (a:=!(Bh n.toNat f k).isSome) rfl<|ite_b (λ h=>?_) λ h=>?_)
   . rw[qah2 (by exact h)] at this
     exact ql2 (d:=.int k) rfl rfl ⟨r,this⟩
   rw[qah3 (by exact h)] at this;have this:R (t++[]) _:=this;rw[zAd] at this;exact this
 rintro ι ⟨d,rfl⟩;rw[qF8,zB3];exact q
theorem qv6:qa8 ["self"] ["self"] (qa3 qh9):=by walk_at "s"
def qv4(C CP:γ):VSp:=Ay λ ds d=>∃ zr n wr ps g dn,ds=[Al zr C CP n wr ps g dn]/\d=.l false (Op n.toNat g)
theorem qe2(T:Txt K mg a):VFn P w K mg base 1 a.f22 a.d22 ["self"] (qv4 a.C4 a.C3):=by
 refine VFn.mk2 T.d22.F qv6 (wOf [true]) qb2 (by walk_at "l") (λ _ _ _ _ _ _ _ f=>⟨_,(Aj<|Au<|qa5<|Fq qg0 qD5.ops T.Cg<|qa2 (Be rfl (vnm 0) T.C6.cl T.Ca) qa6 rfl),λ i Q j h=>?_⟩);obtain⟨d,⟨b,n,wr,c,g,e,rfl,rfl⟩,q⟩:=h;refine Av [Al b a.C4 a.C3 n wr c g e] rfl ?_;refine qg9 (rL n g) ?_ q;unfold Ba A6;rw[A4 rfl qq1];exact qi4 (qv0 _ _)
theorem qr5:qa8 ["one", "other", "room", "pair"] ["one", "other"] (qa3 qx3):=by walk_at "s"
noncomputable def Fj(N:Nat)(g g':Nat->Option Int):Option Nat:=(Ku N).find? λ i=>decide (g i≠g' i)
def partD(N:Nat)(g g':Nat->Option Int):D:=match Fj N g g' with
 | some i=>.q [.int (i:Nat),Aw (g i),Aw (g' i)]
 | none=>.non
theorem qI8(hi:i < N)(h:g i≠g' i)(a:∀ j,j < i->g j=g' j):Fj N g g'=some i:=List.find?_range_eq_some.mpr ⟨zAb h,zAn.mpr hi,λ j b=>by rw[zAv λ z=>z (a j b)];rfl⟩
theorem qy2(a:∀ j,j < N->g j=g' j):Fj N g g'=none:=List.find?_range_eq_none.mpr λ j b=>by rw[zAv λ z=>z (a j b)];rfl
theorem qaM1:gNe (Aw o) (Aw o')=some (.bl<|decide (o≠o')):=by
 cases o with
 | none=>cases o' with
   | none=>rfl
   | some k=>rfl
 | some j=>cases o' with
   | none=>rfl
   | some k =>
     show some (D.bl<|!(j == k))=_;congr 2;by_cases h:j=k
     . subst h;rw[zBc,zAv λ z=>z rfl];rfl
     rw[zCz h];exact(zAb<|show some j≠some k from λ z=>h<|Nj z).symm
theorem qaR3(h:(enD<|zipD (Op N g)<|Op N g')[i]? = some y):i < N/\y=.q [.int (i:Nat),.q [Aw (g i),Aw (g' i)]]:=by
 by_cases a:i < N
 . have:=qar7 (qz3 (g:=g) a) (qz3 (g:=g') a)
   rw[this] at h;exact⟨a,(Nj h).symm⟩
 rw[zBw (by rw[qaa1];unfold zipD;rw[Ld,qi2,qi2];lia)] at h;cases h
def qX6(C CP:γ):VSp:=Ay λ ds d=>∃ z z' n wr ps a g g' dn b,ds=[Al z C CP n wr ps g dn,Al z' C CP n wr a g' b]/\1<=n/\n<=64/\(∀ i k,i < n.toNat->g i=some k∨g' i=some k->Ap k/\qb3 n ps k=qb3 n a k)/\d=partD n.toNat g g'
theorem qC8(T:Txt K mg a):VFn P w K mg base 7 a.f31 a.d31 ["one", "other"] (qX6 a.C4 a.C3):=by
 refine VFn.mk2 T.d31.F qr5 (wOf [true,true]) qb2 (by walk_at "l") (λ _ _ _ _ _ _ _ A=>⟨_,(Aa (Bm<|Ah T.d30 (ql8 T) qa1 (rm A)<|vaN 0<|vaN 1 Ab)<|Aa (qaS2 Nk T.Ck T.D7 (vaV (qz8 0 T.d22 T.C6.cl (qe2 T) qa1<|rm A)<|vaV (qz8 1 T.d22 T.C6.cl (qe2 T) qa1<|rm A) Ab) (Ek (n:=2) rfl<|qm1 (A7 2 qr5.nd)<|qm1 (A7 3 qr5.nd) Ej)<|Aj<|sif (q2 (Aq (qE9 A.u64)<|qb1 _) Ef (v2 (At qb0) Ak (vnm 3) Ae)<|v2 (At qb0) Ak (vnm 3) Ae) (Aj<|Au<|qa5<|B6<|qa2 (vnm 2) (qa2 (v2 (At qb0) Ak (vnm 3) Ae) (qa2 (v2 (At qb0) Ak (vnm 3) Ae) qa6 rfl) rfl) rfl) Ax)<|Aj<|Au<|qa5 Bc),λ r Q L h=>?_⟩);obtain⟨d,⟨z,k,n,wr,m,c,g,e,o,f,rfl,C,D,E,rfl⟩,q⟩:=h;refine Av [Al z a.C4 a.C3 n wr m g o,Al k a.C4 a.C3 n wr c e f,.u,.u] rfl ?_;refine qb5 [Al z a.C4 a.C3 n wr m g o,Al k a.C4 a.C3 n wr c e f,.u,.u] (λ K B=>qn8<|qC1 (x:=Al z a.C4 a.C3 n wr m g o) (y:=Al k a.C4 a.C3 n wr c e f) rfl rfl rfl ⟨z,k,n,wr,m,c,g,e,o,f,rfl,C,D,E,rfl⟩ rfl B) ?_;refine qc1 (λ r=>∃ s t,r=[Al z a.C4 a.C3 n wr m g o,Al k a.C4 a.C3 n wr c e f,s,t]/\∀ j,j < n.toNat->g j=e j) (λ K B=>?_) ?_
 . refine qc7 (qQ6 (p:=Al z a.C4 a.C3 n wr m g o) (d:=rL n g) rfl (qj5 rfl) ⟨z,n,wr,m,g,o,rfl,rfl⟩ rfl<|qc7<|qQ6 (p:=Al k a.C4 a.C3 n wr c e f) (d:=rL n e) rfl (qj5 rfl) ⟨k,n,wr,c,e,f,rfl,rfl⟩ rfl<|qb7<|qa0 (a:=(Op n.toNat g,Op n.toNat e)) rfl ⟨qv0 _ _,qv0 _ _,by show (Op _ _).length=(Op _ _).length;rw[qi2,qi2],?_⟩)
   refine qd4 (λ i r=>∃ s t,r=[Al z a.C4 a.C3 n wr m g o,Al k a.C4 a.C3 n wr c e f,s,t]/\∀ j,j < i->g j=e j) _ 0 _ ⟨_,_,rfl,nofun⟩ ?_ ?_
   . rintro i y G r ⟨s,t,rfl,u⟩ K2 v
     rw[zA9] at u v;obtain⟨H,rfl⟩:=qaR3 G;refine qp6 (Av [Al z a.C4 a.C3 n wr m g o,Al k a.C4 a.C3 n wr c e f,.int (i:Nat),.q [Aw (g i),Aw (e i)]] rfl ?_);refine if_v (b:=decide (g i≠e i)) (Ag (Ag (y:=.int 0) rfl rfl rfl) (Ag (y:=.int 1) rfl rfl rfl) qaM1) (λ h=>?_) λ h=>?_
     . unfold partD at q
       rw[qI8 H (zAc h) u] at q;refine qi3 (qq4 (d:=.q [.int (i:Nat),Aw (g i),Aw (e i)]) ?_ q);show gTup [_,Aw (g i),Aw (e i)]=_;exact qi4 ⟨by show (true&&((Aw<|g i).imm&&((Aw<|e i).imm&&true)))=true;rw[qv1,qv1];rfl,lt3⟩
     refine v _ ⟨_,_,rfl,λ j I=>?_⟩;rcases zCi.mp I with J | rfl
     . exact u j J
     exact Decidable.not_not.mp (zBg h)
   rintro r ⟨s,t,rfl,u⟩;refine B _ ⟨s,t,rfl,λ j h=>u j ?_⟩;rw[zA9,qaa1];unfold zipD;show j < (M6 _ (Op n.toNat g)<|Op n.toNat e).length;rw[Ld,qi2,qi2,Nat.min_self];exact h
 rintro r ⟨s,t,rfl,u⟩;unfold partD at q;rw[qy2 u] at q;exact qg9 .non rfl q
theorem qO6:qa8 ["self"] ["self"] (qa3 qs5):=by walk_at "s"
def qN4(C CP:γ):VSp:=Ay λ ds d=>∃ zr n wr ps g dn,ds=[Al zr C CP n wr ps g dn]/\D.imms dn=true/\d=.l false dn
theorem qQ1(T:Txt K mg a):VFn P w K mg base 1 a.f27 a.d27 ["self"] (qN4 a.C4 a.C3):=by
 refine VFn.mk2 T.d27.F qO6 (wOf [true]) qb2 (by walk_at "l") (λ _ _ _ _ _ _ _ i=>⟨_,(Aj<|Au<|qa5<|Fq qg0 qD5.ops T.Cg<|qa2 (Be rfl (vnm 0) T.C6.cl T.Ci) qa6 rfl),λ j Q k h=>?_⟩);obtain⟨d,⟨c,n,wr,e,g,b,rfl,f,rfl⟩,q⟩:=h;refine Av [Al c a.C4 a.C3 n wr e g b] rfl ?_;refine qg9 (.l false b) ?_ q;unfold Ba A6;rw[A4 rfl qam3];exact qi4 f
theorem qu2:qa8 ["self", "other"] ["self"] (qa3 qo6):=by walk_at "s"
def qH9(C CP:γ):VSp:=Ay λ ds d=>∃ n wr ps g dn S,ds=[Al true C CP n wr ps g dn]/\1<=n/\n<=64/\(∀ x∈S,Ap x)/\Kept n.toNat wr (Om n ps) g S/\D.imms dn=true/\d=Al false C CP n wr ps g dn
theorem qJ3(T:Txt K mg a):VFn P w K mg base 12 a.f28 a.d28 ["self"] (qH9 a.C4 a.C3):=by
 refine VFn.mk2 T.d28.F qu2 (wOf [true]) qb2 (by walk_at "l") (λ _ _ _ _ _ _ _ f=>⟨_,(Aa (An 1 qu2.nd<|qaE0 T.C6 T.Cu T.d21 (qm5 T) qa1 (rm f)<|vaV (qb4<|Be rfl (vnm 0) T.C6.cl T.C9)<|vaV (qb4<|Be rfl (vnm 0) T.C6.cl T.Ca) Ab)<|Aa (Gd rfl (vpn 1) (qz8 0 T.d27 T.C6.cl (qQ1 T) qa1<|rm f) T.C6.cl T.Ci)<|Aj<|Au<|emv 1),λ o Q r h=>?_⟩);obtain⟨d,⟨n,wr,b,g,c,S,rfl,i,j,k,KP,m,rfl⟩,q⟩:=h;refine Av [Al true a.C4 a.C3 n wr b g c,.u] rfl ?_;refine qb5 [Al true a.C4 a.C3 n wr b g c,rA a n wr b g []] (λ K e=>qf4<|qU0<|qc6 (y:=Ad true a.C3 n wr b) (A4 rfl qg2) rfl<|qc6 (y:=.l true (Op n.toNat g)) (A4 rfl qq1) rfl<|qb7 ?_) ?_
 . exact⟨n,wr,b,_,g,S,rfl,i,j,k,KP,.inr ⟨true,rfl⟩,rfl,qa0 (a:=rA a n wr b g []) rfl<|qa0 (a:=[Al true a.C4 a.C3 n wr b g c,.u]) rfl e⟩
 refine qb5 [Al true a.C4 a.C3 n wr b g c,rA a n wr b g c] (λ K e=>qap2 ?_) ?_
 . refine qQ6 (p:=Al true a.C4 a.C3 n wr b g c) (d:=.l false c) rfl (qj5 rfl) ⟨true,n,wr,b,g,c,rfl,m,rfl⟩ rfl ?_
   refine qa0 (a:=(1,[])) rfl ?_;refine qa0 (a:=([("plan",Ad true a.C3 n wr b),("held",D.l false<|Op n.toNat g),("done",D.l false [])]:List (Str×D))) qi6 ?_;exact⟨by show 3 < 100;decide,e⟩
 exact qi3 (mv_to rfl q)
theorem qaH6:qa8 ["_law_script"] ["_law_script"] (qa3 qay3):=by walk_at "s"
theorem qaL7(T:Txt K mg a):Fo P w K mg base CX0 1 a.f34 a.d34 ["_law_script"] (qaS1 K):=by
 refine T.d34.F.ok qaH6 (λ J H Q E h=>?_) (λ L A outer s H J Q E O h=>?_)
 . obtain⟨l,d,rfl,_⟩:=h
   rfl
 obtain⟨l,d,rfl,M,R,k⟩:=h;refine⟨_,(qat1<|qaJ0<|qaz3<|qh0 qP7<|qh0 qP7<|qh0 qP7<|qh0 (qC7 ["_law_cell"] [none] (qu4<|qP5 qac1 (pv 0) qad5<|qad4 qP7) (λ C B H0 G=>(gnm 0<|show (["_law_cell"]:List Str).Nodup by decide +kernel)) (λ C B H0 G=>qaJ8) (λ C B H0 G=>(cbi qaE9 T.D5<|qh0 (pv 0) qy3))) qy3),?_⟩;refine⟨_,rfl,_,rfl,l,_,rfl,M,λ c N=>?_⟩;have ec:Fx (d.map V.int) none (some 63)=d.map V.int:=by
   unfold Fx;have t:HT.sIx (d.map V.int).length (d.map V.int).length (some (63:Int))=min 63 (d.map V.int).length:=HT.qac8 _ _ 63;rw[t,HT.qP3,Lh,Nat.sub_zero];apply zAu;rw[zA8];lia
 rw[ec];refine⟨c,rfl,⟨_,SqL.of qc3⟩,λ D r=>?_⟩;have I:D≠c:=λ z=>by rw[z,qc3] at r;cases r
 have g:H D=none:=by rw[qc9 I] at r;exact r
 refine qW4 (K:=K) (xs:=d.map V.int) (λ i σ H1=>∃ v,σ=[v]/\H1=upd (upd H c<|.l<|d.map V.int) D (.l (((d.take i).map λ n=>if n < 0 then -n else n).map V.int))) ⟨none,rfl,rfl⟩ ?_ ?_ ?_
 . rintro i σ H1 _ ⟨v,rfl,rfl⟩
   refine SqL.of ?_;rw[qc9 I.symm,qc3]
 . rintro i x σ H1 j ⟨v,rfl,rfl⟩
   obtain⟨n,u,rfl⟩:∃ n,d[i]? = some n/\V.int n=x:=by
     rw[zBe] at j;cases e:d[i]? with
     | none=>rw[e] at j;cases j
     | some z=>rw[e] at j;exact⟨z,rfl,Nj j⟩
   refine⟨_,rfl,_,rfl,_,qc3,?_,_,rfl,?_⟩
   . rw[zA8,zA8,zB0]
     exact qal7 (by lia)
   rw[qaF8];congr 1;rw[zBj,u];simp
 rintro σ H1 ⟨v,rfl,rfl⟩;rw[zA8,zAu (zA3 _)];refine⟨by show 4<=Jn;decide,λ p f=>?_⟩;have q:p≠D:=λ z=>by rw[z,qc3] at f;cases f
 rw[qc9 q] at f;have y:p≠c:=λ z=>by rw[z,qc3] at f;cases f
 rw[qc9 y] at f;refine k p D _ f g (λ b o e=>?_) ⟨0,1234567891,0,d.map λ n=>if n < 0 then -n else n,qc3,?_,by decide,by decide,by decide,by decide,?_⟩
 . rw[qc9 (qf1 e f),qc9 (qf1 e g),qc9 (qf1 e N)]
   exact e
 . rw[qc9 q.symm,qc3]
 intro n u;obtain⟨m,_,rfl⟩:=zB9.mp u
 split<;>lia
theorem qr9:qa8 ["_law_bag_here", "_law_many", "_law_cell", "_law_value", "_law_first", "_law_second"] ["_law_bag_here", "_law_many"] (qa3 qac6):=by walk_at "s"
theorem qb6(T:Txt K mg a):VFn P w K mg base 1 a.f35 a.d35 ["_law_bag_here", "_law_many"] qN7:=by
 refine VFn.mk' T.d35.F qr9 (wOf [true,true]) (λ r Q Q' u J L _ h=>by obtain⟨b,m,g,e,H,A,M,q⟩:=h;exact⟨b,m,g,e,H,A,M,λ v N O R B=>L _ _<|q v N O R B⟩) (λ r Q u ⟨b,m,g,e,_⟩=>by rw[e];rfl) (λ r Q u h=>by obtain⟨b,m,g,e,⟨x,y,z,S,_⟩,_⟩:=h;rw[e,S];rfl) (λ _ _ _ _ _ _ _ U=>⟨_,(Aa (sif (q2 (Aq (qj3 U.u64)<|qb1 _) Bk (v2 (At qb0) Ak (vnm 0) Ae) Ae) (Aa (An 2 qr9.nd<|qa5 Ae)<|Aa (sif (q2 (Aq op_lt<|qb1 _) os_lt (v2 (At qb0) Ak (vnm 0) Ae)<|vbi qA0 qz9.ops T.Cj<|qa2 (v2 (At qb0) Ak (vnm 0) Ae) qa6 rfl) (Aj<|An 2 qr9.nd<|qb4<|v2 (At qb0) Ak (v2 (At qb0) Ak (vnm 0) Ae)<|v2 (At qb0) Ak (vnm 0) Ae) Ax)<|Aa (saug (vpn 0) Ae Ae qaW9)<|Aa (sif (q2 (Aq Fv<|qb1 _) G5 (vnm 2) Ae) (Aj<|Fs (qb4<|vnm 2)<|E5 (vpn 0) Ae) Ax)<|Aj<|Fs (qa5<|v2 (Am ql1) ql0 (v2 (Am qh4) qh3 (v2 (Am qh4) qh3 (v2 (Am qy5) qy4 (v2 (At qb0) Ak (vnm 0) Ae) Ae)<|v2 (Am ql1) ql0 (vnm 2) Ae)<|v2 (Am qy5) qy4 Ae<|v2 (At qb0) Ak (vnm 0) Ae) Ae)<|E5 (vpn 0) Ae) Ax)<|Aa (sif (q2 (Aq Bo<|qb1 _) B9 (v2 (At qb0) Ak (vnm 0) Ae) Ae) (Aa (An 3 qr9.nd<|qa5<|v2 (Am ql1) ql0 (v2 (At qb0) Ak (vnm 0) Ae)<|vnm 1)<|Aa (Fs (qa5<|v2 (Am qP8) qaA1 (v2 (At qb0) Ak (vnm 0) Ae)<|vnm 1)<|E5 (vpn 0) Ae)<|Aj<|Au<|emv 3) Ax)<|Aa (An 4 qr9.nd<|qa5<|v2 (Am ql1) ql0 (v2 (Am qy5) qy4 (v2 (Am qh4) qh3 (v2 (At qb0) Ak (vnm 0) Ae) Ae) Ae) Ae)<|Aa (An 5 qr9.nd<|qa5<|v2 (Am ql1) ql0 (v2 (Am qy5) qy4 (v2 (Am ql1) ql0 (v2 (Am qy5) qy4 (vnm 4)<|vnm 4) Ae) Ae) Ae)<|Aa (sif (q2 (Aq Bo<|qb1 _) B9 (vnm 1) Ae) (Aj<|Au<|qa5<|v2 (Am ql1) ql0 (v2 (Am qh4) qh3 (v2 (Am qy5) qy4 (vnm 5) Ae)<|vnm 4)<|vnm 1) Ax)<|Aj<|Au<|qa5<|v2 (Am ql1) ql0 (v2 (Am qP8) qaA1 (vnm 5) Ae)<|vnm 1),λ r Q u h=>?_⟩);obtain⟨b,m,g,rfl,⟨x,y,z,rfl,B⟩,p,C,k⟩:=h;refine Av [bagD x y z g,.int m,.u,.u,.u,.u] rfl ?_;refine qc1 (λ r=>∃ j o t c,r=[bagD j o t g,.int m,c,.u,.u,.u]/\Bg j o t g) (λ K l=>?_) ?_
 . refine if_v (b:=decide (x=0)) rfl (λ _=>?_) (λ _=>l _ ⟨x,y,z,_,rfl,B⟩)
   refine qb5 [bagD x y z g,.int m,.int 0,.u,.u,.u] (λ K l=>l) ?_;refine qc1 (λ r=>∃ c:Int,0<=c/\r=[bagD x y z g,.int m,.int c,.u,.u,.u]) (λ K l=>?_) ?_
   . refine if_v (b:=decide (z < (((g.map D.int).length:Nat):Int))) rfl (λ A=>?_) (λ _=>l _ ⟨0,by decide,rfl⟩)
     obtain⟨v,V,e⟩:=qL6 (xs:=g.map D.int) (i:=z) B.z0 (zAc A);obtain⟨c,E,rfl⟩:=zB9.mp V;exact qw9 (Ag (y:=.int z) (x:=.l false (g.map .int)) rfl rfl e) rfl (l _ ⟨c,B.nn c E,rfl⟩)
   rintro r ⟨c,E,rfl⟩;refine qb5 [bagD x y (z+1) g,.int m,.int c,.u,.u,.u] (λ K l=>?_) ?_
   . exact qaZ3 (k:=2) (x:=z) (y:=1) (ys:=[.int x,.int y,.int z,.l false (g.map .int)]) rfl rfl (by decide) rfl rfl l
   refine qc1 (λ r=>∃ j:Int,0<=j/\r=[bagD j y (z+1) g,.int m,.int c,.u,.u,.u]) (λ K l=>?_) ?_
   . refine if_v (b:=decide (1000000000000000000<=c)) rfl (λ _=>?_) (λ _=>l _ ⟨x,B.x0,rfl⟩)
     exact qT1 (d:=.int c) (ys:=[.int x,.int y,.int (z+1),.l false (g.map .int)]) (k:=0) (n:=0) rfl rfl rfl rfl rfl (l _ ⟨c,E,rfl⟩)
   rintro r ⟨j,G,rfl⟩;have W:f2 Ho (f2 Hn (f2 Hn (f2 Gm (f2 gIx (rdN 0)<|kC<|.int 1)<|kC<|.int 48271)<|f2 Ho (rdN 2)<|kC<|.int 2147483647)<|f2 Gm (kC<|.int 7919)<|f2 gIx (rdN 0)<|kC<|.int 2) (kC<|.int 2147483647) [bagD j y (z+1) g,.int m,.int c,.u,.u,.u]=some (.int ((y * 48271+c % 2147483647+7919 * (z+1)) % 2147483647)) :=
     Ag (Ag (Ag (Ag (x:=.int y) rfl rfl<|Ji (by decide)) (Ag rfl rfl<|Dp (by decide)) rfl) (Ag (y:=.int (z+1)) rfl rfl<|mulL (by decide)) rfl) rfl (Dp (by decide))
   exact qab6 (ys:=[.int j,.int y,.int (z+1),.l false (g.map .int)]) (k:=1) (n:=1) W rfl rfl rfl (l _ ⟨j,_,z+1,_,rfl,G,zCk _ (by decide),zC0 _ (by decide),by have:=B.z0;lia,B.nn⟩)
 rintro r ⟨j,o,t,c,rfl,B'⟩;refine qm0 (decide (0 < j)) rfl (λ H=>?_) λ _=>?_
 . refine qb5 [bagD j o t g,.int m,c,.int (j % m),.u,.u] (λ K l=>qa0 (Ag (x:=.int j) rfl rfl<|Dp p) l) ?_
   refine qb5 [bagD (j / m) o t g,.int m,c,.int (j % m),.u,.u] (λ K l=>?_) ?_
   . exact qab6 (ys:=[.int j,.int o,.int t,.l false (g.map .int)]) (k:=0) (n:=0) (Ag (x:=.int j) rfl rfl<|qaE1 p C) rfl rfl rfl l
   exact k (j % m) _ (zCk _ (by lia)) (zC0 _ p) ⟨_,_,_,rfl,Int.ediv_nonneg B'.x0 (by lia),B'.y0,B'.y1,B'.z0,B'.nn⟩
 have X:0<=(o+1) * 39373 % 1000000007:=zCk _ (by decide);have f1:(o+1) * 39373 % 1000000007 < 1000000007:=zC0 _ (by decide);refine qb5 [bagD j o t g,.int m,c,.u,.int ((o+1) * 39373 % 1000000007),.u] (λ K l=>qa0 (Ag (Ag (Ag (x:=.int o) rfl rfl rfl) rfl<|Ji (by decide)) rfl<|Dp (by decide)) l) ?_;generalize (o+1) * 39373 % 1000000007=f at X f1;refine qb5 [bagD j o t g,.int m,c,.u,.int f,.int (f * f % 998244353 * 30011 % 998244353)] (λ K l=>qa0 (Ag (Ag (Ag (Ag rfl rfl<|mulL<|qN8 (by lia) (by lia)) rfl<|Dp (by decide)) rfl<|Ji (by decide)) rfl<|Dp (by decide)) l) ?_;generalize f * f % 998244353 * 30011 % 998244353=s;have I:∀ v,Q (.int<|v % m) [bagD j o t g,.int m]:=λ v=>k _ _ (zCk _ (by lia)) (zC0 _ p) ⟨_,_,_,rfl,B'⟩
 refine qm0 (decide (1000000 < m)) rfl (λ _=>?_) λ _=>?_
 . exact qg9 _ (Ag (Ag (Ag rfl rfl<|Ji (by decide)) rfl rfl) rfl<|Dp p) (I _)
 exact qg9 _ (Ag (Ag rfl rfl<|qaE1 (by decide) (by decide)) rfl<|Dp p) (I _)
theorem qax9:qa8 ["_law_plan", "_law_key"] ["_law_plan", "_law_key"] (qa3 qac7):=by walk_at "s"
def qax6:VSp:=Ay λ ds d=>∃ n wr ps k,ds=[Af n wr ps,.int k]/\1<=n/\(ps.map (·.1)).Nodup/\d=.int (qb3 n ps k)
theorem qQ3(T:Txt K mg a):VFn P w K mg base 1 a.f36 a.d36 ["_law_plan", "_law_key"] qax6:=by
 refine VFn.mk2 T.d36.F qax9 (wOf [true,true]) qb2 (by walk_at "l") (λ _ _ _ _ _ _ _ c=>⟨_,(Aj<|Au<|qa5<|v2 (Am ql1) ql0 (vget (hu_of c) (Fq (qL5 rfl) qav7.ops T.D1<|qa2 (v2 (At qb0) Ak (vnm 0) Ae) qa6 rfl) (vnm 1) (vnm 1) ⟨rfl,rfl,rfl,rfl⟩)<|v2 (At qb0) Ak (vnm 0) Ae),λ g Q i h=>?_⟩);obtain⟨d,⟨n,wr,b,k,rfl,j,e,rfl⟩,q⟩:=h;have f:Ba (fx1 G7) (A6 (f2 gIx (rdN 0)<|kC<|.int 2) λ _=>some []) [Af n wr b,.int k]=some (.dct false<|kvD b):=by
   show G7 (.l true<|Oq b)=_;exact qav5 e
 exact qg9 _ (Ag (qai2 f rfl) (y:=.int n) rfl<|Dp (by lia)) q
theorem qe4:qa8 ["_law_plan", "_law_keys", "_law_homes", "_law_found", "_law_on", "_law_turn", "_law_room"] ["_law_plan", "_law_keys"] (qa3 qx9):=by walk_at "s"
theorem qaq5(a:1<=n)(ks:List Int)(r:Nat):Iz (.l z<|Oo<|ks.map<|qb3 n ps) (.int (r:Nat))=some (.int (Fc (Om n ps) ks r:Nat)):=by
 show ((flats<|Oo<|ks.map<|qb3 n ps).bind λ b=>some<|D.int (b.countP (λ z=>eqV z<|.int (r:Nat)):Nat))=_;rw[qG4];show some (D.int (((ks.map<|qb3 n ps).map V.int).countP (λ z=>eqV z<|.int (r:Nat)):Nat))=_;congr 3;unfold Fc;rw[Mr,Mr,List.countP_eq_length_filter];congr 1;refine Ln λ k _=>?_
 show decide (qb3 n ps k=(r:Nat))=_
 have:=qK3 (ps:=ps) a k
 exact zCd.mpr (by lia)
def onT(n:Int)(ps:Pr)(ks:List Int):Nat->Int:=onC (cR n.toNat (Om n ps) ks)
def Bf(n:Int)(ps:Pr)(ks:List Int)(i m:Nat):List Int:=(Ku m).map λ r=>onT n ps ks (n.toNat * i+r+1)
theorem qI7{m:Nat}:Bf n ps ks i m++[onT n ps ks (n.toNat * i+m+1)]=Bf n ps ks i (m+1):=by
 unfold Bf;rw[Lx,zBf];rfl
def qY2:VSp:=Ay λ ds d=>∃ n wr ps z ks,ds=[Af n wr ps,.l z (Oo ks)]/\1<=n/\n<=64/\(ps.map (·.1)).Nodup/\ks.length<=200/\d=.l false (Oo<|Bf n ps ks wr.toNat n.toNat)
theorem qZ1(T:Txt K mg a):VFn P w K mg base 2 a.f39 a.d39 ["_law_plan", "_law_keys"] qY2:=by
 refine VFn.mk2 T.d39.F qe4 (wOf [true,true]) qb2 (by walk_at "l") (λ _ _ _ _ _ _ _ L=>⟨_,(Aa (scN (NY:=["_law_key", "_law_plan"]) (src:=[none,some 0]) 2 1 qe4.nd<|blk (λ B C E H0 G=>(A7 0<|show (["_law_key", "_law_plan"]:List Str).Nodup by decide +kernel)) (λ B C E H0 G=>Em) (λ B C E H0 G=>(Ah T.d36 (qQ3 T) qg6 (rm L)<|vaN 1<|vaN 0 Ab)))<|Aa (An 3 qe4.nd<|qa5<|Bs qa6)<|Aa (An 4 qe4.nd<|qa5 Ae)<|Aa (qO0 Nk T.Ch (Ev<|vaV (qa5<|v2 (Am qh4) qh3 Ae<|Fq qar1 qaY6.ops T.Cw<|qa2 (v2 (At qb0) Ak (vnm 0) Ae) qa6 rfl) Ab) (A7 5 qe4.nd)<|Aa (An 3 qe4.nd<|qa5<|Bs qa6)<|Aj<|qO0 Nk T.Ch (Ev<|vaV (qb4<|v2 (At qb0) Ak (vnm 0) Ae) Ab) (A7 6 qe4.nd)<|Aa (An 4 qe4.nd<|qa5<|vbi (qW7 rfl) qav6.ops T.D4<|qa2 Ae (qa2 (v2 (Am qt0) qs8 (v2 (Am qh4) qh3 (vnm 4)<|vbm qaU2 Nn N2 PySem.F.type_list_count qaB0 (vnm 2) (vnm 6) qaQ2) Ae) qa6 rfl) rfl)<|Aj<|Bm<|Db 3 qt3 Nn No Np qd2<|vaV (qb4<|vnm 4) Ab)<|Aj<|Au<|emv 3),λ f Q Y h=>?_⟩);obtain⟨d,⟨n,wr,b,z,c,rfl,H,Z,M,hl,rfl⟩,q⟩:=h;refine Av [Af n wr b,.l z (Oo c),.u,.u,.u,.u,.u] rfl ?_;refine qb5 [Af n wr b,.l z (Oo c),kL (c.map<|qb3 n b),.u,.u,.u,.u] (λ K o=>qf4<|qa0 (a:=D.l z (Oo c)) rfl<|qa0 (a:=Oo c) rfl ⟨qe5 c,?_⟩) ?_
 . refine qj9 (λ ι=>∃ d,ι=[d,Af n wr b]) (λ x=>some<|match x with | .int k=>.int (qb3 n b k) | d=>d) _ [] _ (by show 0+_ < 1000000;rw[qf8];lia) ⟨_,rfl⟩ ?_ ?_
   . rintro y N ι O ⟨d,rfl⟩ R S s
     obtain⟨k,_,rfl⟩:=zB9.mp N;exact qk6 (qX4<|Du rfl<|qC1 (x:=Af n wr b) (y:=.int k) (d:=.int (qb3 n b k)) rfl rfl rfl ⟨n,wr,b,k,rfl,H,M,rfl⟩ rfl ⟨s,S [.int k,Af n wr b] ⟨_,rfl⟩⟩)
   rintro ι ⟨d,rfl⟩;rw[zB3,qR5];have U:((Oo c).map λ x=>match x with | .int k=>D.int (qb3 n b k) | d=>d)=Oo (c.map<|qb3 n b):=by unfold Oo;rw[zCr,zCr];rfl
   rw[U];exact o
 generalize t:kL (c.map<|qb3 n b)=p;refine qb5 [Af n wr b,.l z (Oo c),p,.l false [],.u,.u,.u] (λ K o=>o) ?_;refine qb5 [Af n wr b,.l z (Oo c),p,.l false [],.int 0,.u,.u] (λ K o=>o) ?_;refine qc1 (λ f=>∃ I r m,f=[Af n wr b,.l z (Oo c),p,kL (Bf n b c wr.toNat n.toNat),I,r,m]) (λ K o=>?_) ?_
 . refine qG2 (n:=((1+wr.toNat:Nat):Int)) (by cases wr<;>rfl) (qZ6 (by lia) (by cases wr<;>decide)) ?_
   refine qd4 (λ i f=>∃ F r m,f=[Af n wr b,.l z (Oo c),p,.l false F,.int (onT n b c<|n.toNat * i),r,m]/\(0 < i->F=Oo (Bf n b c (i - 1) n.toNat))) _ 0 _ ⟨_,_,_,rfl,λ h=>absurd h (by lia)⟩ ?_ ?_
   . rintro i x A f ⟨F,r,m,rfl,_⟩ K2 u
     rw[zA9] at u ⊢;obtain⟨hi,rfl⟩:=qP4 A;refine qk6 (Av [Af n wr b,.l z (Oo c),p,.l false F,.int (onT n b c<|n.toNat * i),.int (i:Nat),m] rfl ?_);refine qb5 [Af n wr b,.l z (Oo c),p,.l false [],.int (onT n b c<|n.toNat * i),.int (i:Nat),m] (λ K o=>o) ?_;refine qR4 (n:=n) rfl (qZ6 (by lia) (by lia)) ?_;refine qd4 (λ j f=>∃ m,f=[Af n wr b,.l z (Oo c),p,kL (Bf n b c i j),.int (onT n b c<|n.toNat * i+j),.int (i:Nat),m]) _ 0 _ ⟨_,rfl⟩ ?_ ?_
     . rintro j x A f ⟨m,rfl⟩ K3 v
       rw[zA9] at v ⊢;obtain⟨V,rfl⟩:=qP4 A;refine qk6 (Av [Af n wr b,.l z (Oo c),p,kL (Bf n b c i j),.int (onT n b c<|n.toNat * i+j),.int (i:Nat),.int (j:Nat)] rfl ?_);refine qb5 [Af n wr b,.l z (Oo c),p,kL (Bf n b c i j),.int (onT n b c<|n.toNat * i+j+1),.int (i:Nat),.int (j:Nat)] (λ K o=>qu1 ?_ o) ?_
       . have W:Iz p (.int (j:Nat))=some (.int (Fc (Om n b) c j:Nat)):=by rw[<- t];exact qaq5 H c j
         have e:=Ag (g:=gSub) (y:=.int 1) (Ag (g:=Hn) (fa:=rdN 4) (ds:=[Af n wr b,.l z (Oo c),p,kL (Bf n b c i j),.int (onT n b c<|n.toNat * i+j),.int (i:Nat),.int (j:Nat)]) (x:=.int (onT n b c<|n.toNat * i+j)) rfl (Ag (g:=Iz) (fa:=rdN 2) (fb:=rdN 6) (by rw[<- t];rfl) rfl W) rfl) (fb:=kC (.int 1)) rfl rfl;unfold Ba A6;rw[e];have X:cR n.toNat (Om n b) c (n.toNat * i+j)=Fc (Om n b) c j:=by unfold cR;rw[Nat.mul_add_mod,zCv V]
         show some (D.int<|if onT n b c (n.toNat * i+j)+(Fc (Om n b) c j:Nat) - 1 > 0 then onT n b c (n.toNat * i+j)+(Fc (Om n b) c j:Nat) - 1 else 0)=some (D.int<|if onC (cR n.toNat (Om n b) c) (n.toNat * i+j)+(cR n.toNat (Om n b) c (n.toNat * i+j):Int) - 1 > 0 then onC (cR n.toNat (Om n b) c) (n.toNat * i+j)+(cR n.toNat (Om n b) c (n.toNat * i+j):Int) - 1 else 0);rw[X];rfl
       refine qaw3 (ys:=Oo (Bf n b c i j)) (d:=.int (onT n b c<|n.toNat * i+j+1)) rfl rfl rfl (by rw[qf8];unfold Bf big;rw[zA8,zB4];lia) ?_;rw[qu9,qI7];exact v _ ⟨_,rfl⟩
     rintro f ⟨m,rfl⟩;rw[zA9,qU3,show n.toNat * i+n.toNat=n.toNat * (i+1) by rw[Nat.mul_add,Nat.mul_one]];exact u _ ⟨_,_,_,rfl,λ _=>rfl⟩
   rintro f ⟨F,r,m,rfl,J⟩;rw[zA9,qU3,zC3] at J;rw[J (by lia),show 1+wr.toNat - 1=wr.toNat by lia];exact o _ ⟨_,_,_,rfl⟩
 rintro f ⟨I,r,m,rfl⟩;exact q
theorem qe8:qa8 ["_law_plan", "_law_keys", "_law_passing_here", "_law_begin", "_law_found", "_law_at", "_law_on", "_law_key"] ["_law_plan", "_law_keys"] (qa3 qE6):=by walk_at "s"
theorem qau0:∀ ps:List (Int×Int),(Oq ps).mapM Ht=some ps
 | []=>rfl
 | p::r=>by
   show List.mapM Ht (D.q [.int p.1,.int p.2]::Oq r)=_;rw[Mv,qau0 r];rfl
theorem qal5{f:Int->Int}(e:L=S.map λ k=>(f k,k))(a:S.Nodup)(b:S.length<=64):qav1 (.l z<|Oq L)=some (.l false<|Oq<|Dk L):=by
 show ((Oq _).mapM Ht).bind _=_;rw[qau0];refine qi4 ⟨?_,by rw[e,zA8];exact b⟩;rw[e];exact zCp.mpr (a.imp λ h z=>h<|congrArg Prod.snd z)
theorem qae1{f:Int->Nat}:((Dk<|ks.map λ k=>(((f k:Nat):Int),k)).map (·.2)).Perm ks:=by
 have h:((Dk<|ks.map λ k=>(((f k:Nat):Int),k)).map (·.2)).Perm ((ks.map λ k=>(((f k:Nat):Int),k)).map (·.2)):=(L9 _ _).map _;rw[zCr] at h;have e:ks.map ((·.2) ∘ λ k=>(((f k:Nat):Int),k))=ks:=List.map_id ks;rwa[e] at h
theorem qae2{f:Int->Nat}{p:Int×Int}(a:p∈Dk (ks.map λ k=>(((f k:Nat):Int),k))):p.1=(f p.2:Nat):=by
 rw[List.mem_mergeSort] at a;obtain⟨k,_,rfl⟩:=zB9.mp a;rfl
theorem qaU3{f:Int->Nat}(b:ks.Nodup):((Dk<|ks.map λ k=>(((f k:Nat):Int),k)).map (·.2)).Pairwise (Dv f):=by
 have a:=(qae1 (f:=f)).nodup_iff.mpr b;unfold List.Nodup at a;rw[zCp] at a ⊢;refine((qac0 _).and a).imp_of_mem λ{p q} c d h=>?_
 have g:=qae2 c;have i:=qae2 d;have e:=h.1;simp only[S6.plt,decide_eq_false_iff_not] at e;have j:=h.2;unfold Dv;lia
theorem qaX2:∀{L R:List Int},¬ k∈L->gIdx (.l z<|Oo (L++k::R)) (.int k)=some (.int (L.length:Nat)):=by
 intro L R h;have e:Eu (.int k) ((L++k::R).map V.int)=some L.length:=by
   induction L with
   | nil=>show (if decide (k=k)=true then some 0 else _)=_;rw[if_pos (zAb rfl)];rfl
   | cons a L b =>
     rw[zAi,not_or] at h;show (if decide (a=k)=true then some 0 else (Eu (.int k) ((L++k::R).map V.int)).map (· + 1))=_;rw[if_neg (by simpa using λ z=>h.1 z.symm),b h.2];rfl
 show ((flats<|Oo (L++k::R)).bind λ c=>(Eu (.int k) c).map λ j=>D.int (j:Nat))=_;rw[qG4];show (Eu (.int k) ((L++k::R).map V.int)).map (λ j=>D.int (j:Nat))=_;rw[e];rfl
theorem qad8(h:1<=n):gIx (.l z<|Oo<|Bf n ps ks i n.toNat) (.int<|-1)=some (.int<|onT n ps ks<|n.toNat * i+n.toNat):=by
 obtain⟨m,e⟩:∃ m,n.toNat=m+1:=⟨n.toNat - 1,by lia⟩
 have e2:Bf n ps ks i n.toNat=Bf n ps ks i m++[onT n ps ks (n.toNat * i+m+1)]:=by rw[qI7,e]
 rw[e2,show n.toNat * i+n.toNat=n.toNat * i+m+1 by lia];unfold Oo;rw[zBf];exact qaF0 _ _
def qab9:VSp:=λ ds Q _=>∃ n wr ps z ks,ds=[Af n wr ps,.l z (Oo ks)]/\1<=n/\n<=64/\(ps.map (·.1)).Nodup/\ks.Nodup/\ks.length<=200 /\
 ((∃ q,Crowd n.toNat wr (Om n ps) ks q)->Q .non ds)/\((∀ q,¬ Crowd n.toNat wr (Om n ps) ks q)->∀ g,Kept n.toNat wr (Om n ps) g ks->Q (rL n g) ds)
theorem qq3(T:Txt K mg a):VFn P w K mg base 3 a.f40 a.d40 ["_law_plan", "_law_keys"] qab9:=by
 refine VFn.mk2 T.d40.F qe8 (wOf [true,true]) (by walk_at "m") (by walk_at "l") (λ _ _ _ _ _ _ _ u=>⟨_,(Aa (sif (q2 (Aq Bo<|qb1 _) B9 (vbi qA0 qz9.ops T.Cj<|qa2 (vnm 1) qa6 rfl)<|v2 (At qb0) Ak (vnm 0) Ae) (Aj<|Au<|qa5 Bc) Ax)<|Aa (An 2 qe8.nd<|Ah T.d39 (qZ1 T) qa1 (rm u)<|vaN 0<|vaN 1 Ab)<|Aa (sif (F7 (Bn<|tv<|v2 (At qb0) Ak (vnm 0) Ae)<|E2<|q2 (Aq Bo<|qb1 _) B9 (v2 (At qb0) Ak (vnm 2)<|vneg Ae) Ae).te (Aj<|Au<|qa5 Bc) Ax)<|Aa (An 3 qe8.nd<|qa5 Ae)<|Aa (sif (tv<|v2 (At qb0) Ak (vnm 0) Ae) (Aj<|An 3 qe8.nd<|qa5<|v2 (Am qh4) qh3 (vbm qaL0 Nn Nu N4 qaf0 (vnm 2) Ae qau8) Ae) Ax)<|Aa (An 4 qe8.nd<|qa5<|v2 (Am qy5) qy4 (Bs<|qa2 Bc qa6 rfl)<|v2 (At qb0) Ak (vnm 0) Ae)<|Aa (An 5 qe8.nd<|qa5<|vneg Ae)<|Aa (Ge Nk (ebi qaj2 qaE3.ops T.Cz<|Ev<|vaV (ecN (NY:=["_law_key", "_law_begin", "_law_plan"]) (src:=[none,some 3,some 0]) 1<|blk (λ av C s0 H0 ex=>(A7 0<|show (["_law_key", "_law_begin", "_law_plan"]:List Str).Nodup by decide +kernel)) (λ av C s0 H0 ex=>Em) (λ av C s0 H0 ex=>(Hs<|vaV (e2v (Am ql1) ql0 (e2v (Am qt0) qs8 (Ah T.d36 (qQ3 T) qg6 (rm u)<|vaN 2<|vaN 0 Ab)<|vnm 1)<|v2 (At qb0) Ak (vnm 2) Ae)<|vaV (qb4<|vnm 0) Ab))) Ab) (Ek (n:=2) rfl<|qm1 (A7 6 qe8.nd)<|qm1 (A7 7 qe8.nd) Ej)<|Aa (An 5 qe8.nd<|qa5<|vbi (qW7 rfl) qav6.ops T.D4<|qa2 (v2 (Am qh4) qh3 (vnm 5) Ae) (qa2 (vnm 6) qa6 rfl) rfl)<|Aj<|Fs (qb4<|vnm 7)<|E5 (vpn 4)<|v2 (Am ql1) ql0 (v2 (Am qh4) qh3 (vnm 3)<|vnm 5)<|v2 (At qb0) Ak (vnm 0) Ae)<|Aj<|Au<|emv 4),λ v Q xe h=>?_⟩);obtain⟨n,wr,j,z,o,rfl,M,n2,nd,N,hl,q,q'⟩:=h;have B:=Ex (ps:=j) M;have oc:=qam9 (T:=o) (by lia) B;refine Av [Af n wr j,.l z (Oo o),.u,.u,.u,.u,.u,.u] rfl ?_;refine qm0 (decide (n < (o.length:Int))) (Ag (qt4 rfl) (y:=.int n) rfl (by rw[qf8];rfl)) (λ h=>qg9 .non rfl<|q ⟨0,by lia,?_⟩) λ h=>?_
 . have h:=zAc h
   cases wr with
   | true=>rw[if_pos rfl];exact⟨rfl,by lia⟩
   | false=>rw[if_neg (by decide),List.filter_eq_self.mpr λ _ _=>zAb (zBh _)];lia
 have a0:o.length<=n.toNat:=by have:=zBg h;lia
 refine qb5 [Af n wr j,.l z (Oo o),kL (Bf n j o wr.toNat n.toNat),.u,.u,.u,.u,.u] (λ K t=>qf4<|qC1 (x:=Af n wr j) (y:=.l z (Oo o)) rfl rfl rfl ⟨n,wr,j,z,o,rfl,M,n2,nd,hl,rfl⟩ rfl t) ?_;refine qh2 (!wr&&decide (0 < onT n j o (n.toNat * wr.toNat+n.toNat))) (λ Q q=>qe7 (!wr) (decide (0 < onT n j o (n.toNat * wr.toNat+n.toNat))) (λ Q q=>qi5 (b:=wr) rfl q) (λ _ Q q=>qe6 (Ag (Ag rfl rfl<|qad8 M) rfl rfl) q) q) (λ h=>qg9 .non rfl<|q ?_) λ h=>?_
 . cases wr with
   | true=>cases h
   | false =>
     have h:=zAc h;rw[show n.toNat * false.toNat+n.toNat=n.toNat by show n.toNat * 0+_=_;lia] at h;exact oc.mp h
 refine qb5 [Af n wr j,.l z (Oo o),kL (Bf n j o wr.toNat n.toNat),.int 0,.u,.u,.u,.u] (λ K t=>t) ?_;refine qc1 (λ v=>∃ s:Nat,v=[Af n wr j,.l z (Oo o),kL (Bf n j o wr.toNat n.toNat),.int (s:Nat),.u,.u,.u,.u]/\s<=n.toNat/\(wr=false->s=0)/\(∀ q,¬ Crowd n.toNat wr (Om n j) o q)/\∀ q,¬ Crowd n.toNat false (λ k=>Ac n.toNat (s % n.toNat)<|Om n j k) o q) (λ K t=>?_) ?_
 . refine if_v (b:=wr) rfl (λ E=>?_) λ E=>t _ ⟨0,rfl,by lia,λ _=>rfl,?_,?_⟩
   . subst E
     obtain⟨r,u,h0⟩:=qaA3 (T:=o) (by lia) B a0;have hm:(0:Int)∈Bf n j o 1 n.toNat:=zB9.mpr ⟨r,zAn.mpr u,by rw[Nat.mul_one];exact h0⟩;obtain⟨L,R,O,nL⟩:=List.eq_append_cons_of_mem hm;have S:L.length < n.toNat:=by
       have:=congrArg Kx O
       unfold Bf at this;simp at this;lia
     have Y:onT n j o (n.toNat+L.length+1)=0:=by
       have:(Bf n j o 1 n.toNat)[L.length]? = some 0:=by rw[O];simp
       unfold Bf at this;rw[zBe,List.getElem?_range S,Nat.mul_one] at this;exact Nj this
     refine qu1 (d:=.int ((L.length+1:Nat):Int)) (Ag (g:=Hn) (y:=.int 1) (Ag (g:=gIdx) (x:=kL (L++0::R)) (y:=.int 0) (by rw[<- O];rfl) rfl<|qaX2 nL) rfl rfl) (t _ ⟨L.length+1,rfl,by lia,λ h=>absurd h (by decide),λ q c=>?_,qJ4 S B Y⟩);have c:=c.2;rw[if_pos rfl] at c;lia
   . subst E
     have h:decide _=false:=h;rw[show n.toNat * false.toNat+n.toNat=n.toNat by show n.toNat * 0+_=_;lia] at h;exact λ q c=>zBg h (oc.mpr ⟨q,c⟩)
   subst E;have h:decide _=false:=h;rw[show n.toNat * false.toNat+n.toNat=n.toNat by show n.toNat * 0+_=_;lia] at h;rw[Nat.zero_mod,show (λ k=>Ac n.toNat 0<|Om n j k)=Om n j from funext λ k=>G2];exact λ q c=>zBg h (oc.mpr ⟨q,c⟩)
 rintro v ⟨s,rfl,hs,E,nc,a1⟩;have G:s % n.toNat < n.toNat:=Nat.mod_lt _ (by lia);generalize eP:kL (Bf n j o wr.toNat n.toNat)=H;refine qb5 [Af n wr j,.l z (Oo o),H,.int (s:Nat),.l false (Op n.toNat λ _=>none),.u,.u,.u] (λ K t=>qu1 (Ag rfl (y:=.int n) rfl<|qae9 (by lia) n2) t) ?_;refine qb5 [Af n wr j,.l z (Oo o),H,.int (s:Nat),.l false (Op n.toNat λ _=>none),.int (-1),.u,.u] (λ K t=>t) ?_;refine qc1 (λ v=>∃ g d5 I J,v=[Af n wr j,.l z (Oo o),H,.int (s:Nat),rL n g,d5,I,J]/\Kept n.toNat wr (Om n j) g o) (λ K t=>?_) ?_
 . refine co_to (qc7<|qa0 (a:=D.l z (Oo o)) rfl<|qa0 (a:=Oo o) rfl ⟨qe5 o,?_⟩)
   refine qj9 (λ ι=>∃ d,ι=[d,.int (s:Nat),Af n wr j]) (λ x=>some<|match x with | .int k=>.q [.int (Ac n.toNat (s % n.toNat) (Om n j k):Nat),.int k] | d=>d) _ [] _ (by show 0+_ < 1000000;rw[qf8];lia) ⟨_,rfl⟩ ?_ ?_
   . rintro y U ι a4 ⟨d,rfl⟩ R hR V
     obtain⟨k,_,rfl⟩:=zB9.mp U;have this:=hR [.int k,.int (s:Nat),Af n wr j] ⟨_,rfl⟩;refine qk6 (qX4<|Du rfl<|qc7<|qN0<|qN0<|qC1 (x:=Af n wr j) (y:=.int k) (d:=.int (qb3 n j k)) rfl rfl rfl ⟨n,wr,j,k,rfl,M,nd,rfl⟩ rfl ?_);refine qa0 (a:=D.int (qb3 n j k - (s:Nat))) rfl (qa0 (a:=D.int (Ac n.toNat (s % n.toNat) (Om n j k):Nat)) ((Dp (by lia)).trans ?_)<|qc6 (y:=.int k) rfl rfl<|qb7 ⟨lt2,V,this⟩);have Y:=qaB1 (B k) hs;rw[qK3 M k,show ((n.toNat:Nat):Int)=n by lia] at Y;rw[Y]
   rintro ι ⟨d,rfl⟩;rw[zB3,qR5];have O:((Oo o).map λ x=>match x with | .int k=>D.q [.int (Ac n.toNat (s % n.toNat) (Om n j k):Nat),.int k] | d=>d)=Oq (o.map λ k=>((Ac n.toNat (s % n.toNat) (Om n j k):Nat),k)):=by
     unfold Oo Oq;rw[zCr,zCr];rfl
   rw[O];have pw:=qaU3 (f:=λ k=>Ac n.toNat (s % n.toNat) (Om n j k)) N;have Z:=qae1 (f:=λ k=>Ac n.toNat (s % n.toNat) (Om n j k)) (ks:=o);have of:=λ p=>qae2 (f:=λ k=>Ac n.toNat (s % n.toNat) (Om n j k)) (ks:=o) (p:=p)
   have es:=qal5 (z:=false) (L:=o.map λ k=>(((Ac n.toNat (s % n.toNat) (Om n j k):Nat):Int),k)) rfl N (by lia);generalize Dk (o.map λ k=>(((Ac n.toNat (s % n.toNat) (Om n j k):Nat):Int),k))=L at pw Z of es;refine qb7 (qa0 (a:=D.l false (Oq L)) es<|qa0 (a:=Oq L) rfl ⟨qz2 L,?_⟩);refine qd4 (λ i v=>∃ g top I J,v=[Af n wr j,.l z (Oo o),H,.int (s:Nat),.l false (Op n.toNat λ i=>g<|Ac n.toNat (s % n.toNat) i),.int ((top:Nat) - 1:Int),I,J]/\Fill n.toNat (λ k=>Ac n.toNat (s % n.toNat)<|Om n j k) g ((L.take i).map (·.2)) top) _ 0 _ ⟨_,0,_,_,rfl,Fill.start (by lia) λ k=>qj7 (B k) G⟩ ?_ ?_
   . rintro i y U v ⟨g,top,I,J,rfl,F⟩ K2 W
     rw[zA9] at F W;unfold Oq at U;rw[zBe] at U;obtain⟨⟨h0,k⟩,hp,rfl⟩:=zAj.mp U;obtain rfl:h0=((Ac n.toNat (s % n.toNat) (Om n j k):Nat):Int):=of _ (zB1 hp);have a2:=(zA4.mp hp).1;have a3:L.map (·.2)=((L.take i).map (·.2)++[k])++(L.drop<|i+1).map (·.2):=by
       conv=>lhs;rw[<- zBl i L,K8 a2,(zA4.mp hp).2]
       simp
     have tk:(L.take<|i+1).map (·.2)=(L.take i).map (·.2)++[k]:=by rw[zBj,hp,zBf];rfl
     rw[a3] at pw Z;have A:∀ x∈(L.take i).map (·.2),Dv (λ k=>Ac n.toNat (s % n.toNat)<|Om n j k) x k:=λ x hx=>(List.pairwise_append.mp (List.pairwise_append.mp pw).1).2.2 x hx k (zAl.mpr rfl)
     have nk:¬ k∈(L.take i).map (·.2):=λ h=>by rcases A k h with z | z<;>lia
     have u:=F.room A λ q c=>a1 q ((c.mono<|zBx _ _).perm Z)
     have F':=F.put nk A u;generalize er:max top (Ac n.toNat (s % n.toNat)<|Om n j k)=r at u F';refine qp6 (Av [Af n wr j,.l z (Oo o),H,.int (s:Nat),.l false (Op n.toNat λ i=>g<|Ac n.toNat (s % n.toNat) i),.int ((top:Nat) - 1:Int),.int (Ac n.toNat (s % n.toNat) (Om n j k):Nat),.int k] rfl ?_);refine qb5 [Af n wr j,.l z (Oo o),H,.int (s:Nat),.l false (Op n.toNat λ i=>g<|Ac n.toNat (s % n.toNat) i),.int (r:Nat),.int (Ac n.toNat (s % n.toNat) (Om n j k):Nat),.int k] (λ K t=>qu1 (d:=.int (r:Nat)) ?_ t) ?_
     . show some (D.int<|if ((Ac n.toNat (s % n.toNat) (Om n j k):Nat):Int) > (top:Nat) - 1+1 then ((Ac n.toNat (s % n.toNat) (Om n j k):Nat):Int) else (top:Nat) - 1+1)=_
       congr 2
       split<;>lia
     have em:(((s:Nat):Int)+(r:Nat)) % n=(rot n.toNat (s % n.toNat) r:Nat):=by
       have:((s+r:Nat):Int) % ((n.toNat:Nat):Int)=((s+r) % n.toNat:Nat):=by lia
       rw[show ((n.toNat:Nat):Int)=n by lia,Nat.add_mod,zCv u,qas5 G u] at this;rw[<- this];congr 1
     refine qT1 (ys:=Op n.toNat λ i=>g (Ac n.toNat (s % n.toNat) i)) (d:=.int k) (k:=(rot n.toNat (s % n.toNat) r:Nat)) rfl rfl rfl (Ag (x:=.int ((s:Nat)+(r:Nat))) (y:=.int n) rfl rfl ((Dp (by lia)).trans (by rw[em]))) (qaC2<|qaH9 G u) ?_;rw[qO2];have ec:Op n.toNat (Row.set (λ i=>g<|Ac n.toNat (s % n.toNat) i) (rot n.toNat (s % n.toNat) r) k)=Op n.toNat λ i=>Row.set g r k (Ac n.toNat (s % n.toNat) i):=qw0 λ i hi=>by
       by_cases e:i=rot n.toNat (s % n.toNat) r
       . subst e;rw[qc0,qR9 G u,qc0]
       rw[qd5 e,qd5 λ z=>e (by rw[<- z,qac9 G hi])]
     refine W _ ⟨_,r+1,.int (Ac n.toNat (s % n.toNat) (Om n j k):Nat),.int k,?_,by rw[tk];exact F'⟩;rw[<- ec,show (((r+1:Nat):Int) - 1)=((r:Nat):Int) by lia];rfl
   rintro v ⟨g,top,I,J,rfl,F⟩;have X:(Oq L).length=L.length:=zA8 _;rw[zA9,X,zCc] at F;refine t _ ⟨_,_,_,_,rfl,?_⟩;have K1:=F.k.of_perm Z;cases wr with
   | true=>exact K1.turn G B
   | false =>
     obtain rfl:=E rfl;rw[Nat.zero_mod] at K1 ⊢;rw[show (λ k=>Ac n.toNat 0<|Om n j k)=Om n j from funext λ k=>G2] at K1;rw[show (λ i=>g<|Ac n.toNat 0 i)=g from funext λ i=>by rw[G2]];exact K1
 rintro v ⟨g,d5,I,J,rfl,KP⟩;exact q' nc g KP
theorem qc5:qa8 ["_law_bag_here", "_law_size", "_law_many", "_law_way", "_law_one", "_law_other", "_law_homes", "_law_k", "_law_some"] ["_law_bag_here", "_law_size", "_law_many"] (qa3 qk5):=by walk_at "s"
def qB0:VSp:=λ ds Q _=>∃ b n m ns,ds=[b,.int n,.int m]/\Oz ns b/\1<=n/\n<=64/\0<=m/\m<=100 /\
 ∀ c a,Oz ns c->(∀ h∈a,0<=h/\h < n)->a.length=m.toNat->Q (kL a) [c,.int n,.u]
theorem qaR6{x y i:Int}(c:0<=i)(h1:i < 2){P:Int->Prop}(d:P x)(e:P y):∃ v,atI [D.int x,D.int y] i=some (.int v)/\P v:=by
 obtain⟨v,a,b⟩:=qL6 (xs:=[D.int x,D.int y]) c h1;simp only[zAi,zBd,zD2] at a;rcases a with rfl | rfl
 . exact⟨x,b,d⟩
 exact⟨y,b,e⟩
theorem qV1{x y w i:Int}(c:0<=i)(h1:i < 4){P:Int->Prop}(d:P x)(e:P y)(f:P z)(g:P w):∃ v,atI [D.int x,D.int y,D.int z,D.int w] i=some (.int v)/\P v:=by
 obtain⟨v,b,a⟩:=qL6 (xs:=[D.int x,D.int y,D.int z,D.int w]) c h1;simp only[zAi,zBd,zD2] at b;rcases b with rfl | rfl | rfl | rfl
 . exact⟨x,a,d⟩
 . exact⟨y,a,e⟩
 . exact⟨z,a,f⟩
 exact⟨w,a,g⟩
theorem qB8(T:Txt K mg a):VFn P w K mg base 2 a.f41 a.d41 ["_law_bag_here", "_law_size", "_law_many"] qB0:=by
 refine VFn.mk' T.d41.F qc5 (wOf [true,true,true]) (λ c Q Q' M X Y _ h=>by obtain⟨b,n,m,j,e,N,O,R,A,Z,q⟩:=h;exact⟨b,n,m,j,e,N,O,R,A,Z,λ s f S a2 a3=>Y _ _<|q s f S a2 a3⟩) (λ c Q M h=>by obtain⟨b,n,m,j,e,_⟩:=h;rw[e];rfl) (λ c Q M h=>by obtain⟨b,n,m,j,e,⟨x,y,z,eb,_⟩,_⟩:=h;rw[e,eb];rfl) (λ _ _ _ _ _ _ _ C=>⟨_,(Aa (An 3 qc5.nd<|Ah T.d35 (qb6 T) qa1 (rm C)<|vaN 0<|vaV (qa5 Ae) Ab)<|Aa (An 4 qc5.nd<|Ah T.d35 (qb6 T) qa1 (rm C)<|vaN 0<|vaN 1 Ab)<|Aa (An 5 qc5.nd<|Ah T.d35 (qb6 T) qa1 (rm C)<|vaN 0<|vaN 1 Ab)<|Aa (An 6 qc5.nd<|qa5<|Bs qa6)<|Aa (qO0 Nk T.Ch (Ev<|vaN 2 Ab) (A7 7 qc5.nd)<|Aa (An 8 qc5.nd<|Gr<|vaV (Ah T.d35 (qb6 T) qa1 (rm C)<|vaN 0<|vaN 1 Ab)<|vaV (qb4<|vnm 4)<|vaV (e2 (Am qt0) qs8 (qa5<|v2 (Am qt0) qs8 (vnm 1) Ae)<|Ah T.d35 (qb6 T) qa1 (rm C)<|vaN 0<|vaV (qa5<|vbi (qH0 rfl) qai8.ops T.Cy<|qa2 Ae (qa2 (vnm 1) qa6 rfl) rfl) Ab)<|vaV (qa5<|v2 (At qb0) Ak (Bs<|qa2 (vnm 4) (qa2 (vnm 5) qa6 rfl) rfl)<|v2 (Am ql1) ql0 (vnm 7) Ae) Ab)<|Aj<|Bm<|Db 6 qt3 Nn No Np qd2<|vaV (qb4<|v2 (At qb0) Ak (vnm 8)<|vnm 3) Ab)<|Aj<|Au<|emv 6),λ c Q M h=>?_⟩);obtain⟨b,n,m,j,rfl,B,n1,n2,m0,m1,q⟩:=h;refine Av [b,.int n,.int m,.u,.u,.u,.u,.u,.u] rfl ?_;refine qc1 (λ c=>∃ b w,c=[b,.int n,.int m,.int w,.u,.u,.u,.u,.u]/\Oz j b/\0<=w/\w < 4) (λ K g=>?_) ?_
 . exact qc2 rfl B rfl (by decide) (by decide) λ v s E G B'=>g _ ⟨s,v,rfl,B',E,G⟩
 rintro c ⟨b,way,rfl,B,w0,w1⟩;refine qc1 (λ c=>∃ b o,c=[b,.int n,.int m,.int way,.int o,.u,.u,.u,.u]/\Oz j b/\0<=o/\o < n) (λ K g=>?_) ?_
 . exact qw6 (m:=n) rfl B rfl (by decide) (by lia) (by lia) λ v s E G B'=>g _ ⟨s,v,rfl,B',E,G⟩
 rintro c ⟨b,o,rfl,B,V,W⟩;refine qc1 (λ c=>∃ b p,c=[b,.int n,.int m,.int way,.int o,.int p,.u,.u,.u]/\Oz j b/\0<=p/\p < n) (λ K g=>?_) ?_
 . exact qw6 (m:=n) rfl B rfl (by decide) (by lia) (by lia) λ v s E G B'=>g _ ⟨s,v,rfl,B',E,G⟩
 rintro c ⟨b,p,rfl,B,p0,p1⟩;refine qb5 [b,.int n,.int m,.int way,.int o,.int p,kL [],.u,.u] (λ K g=>g) ?_;refine qc1 (λ c=>∃ b f t k,c=[b,.int n,.u,.int way,.int o,.int p,kL f,t,k]/\Oz j b/\(∀ h∈f,0<=h/\h < n)/\f.length=m.toNat) (λ K g=>?_) ?_
 . refine qap1 (n:=m) rfl (qZ6 (by lia) (by lia)) ?_
   refine qd4 (λ i c=>∃ b f t k,c=[b,.int n,.u,.int way,.int o,.int p,kL f,t,k]/\Oz j b/\(∀ h∈f,0<=h/\h < n)/\f.length=i) _ 0 _ ⟨b,[],_,_,rfl,B,nofun,rfl⟩ ?_ ?_
   . rintro i x hx c ⟨b,f,t,k,rfl,B,U,L⟩ K2 H
     rw[zA9] at L H;obtain⟨hi,rfl⟩:=qP4 hx;refine Av [b,.int n,.u,.int way,.int o,.int p,kL f,.int (i:Nat),k] rfl ?_;refine qc1 (λ c=>∃ b u I l r,c=[b,.int n,.u,.int way,.int o,.int p,kL f,.int (i:Nat),.l false [.int u,.int I,.int l,.int r]]/\Oz j b/\(0<=u/\u < n)/\(0<=I/\I < n)/\(0<=l/\l < n)/\(0<=r/\r < n)) (λ K g=>?_) ?_
     . refine qf4 (qC0<|qc7 ?_)
       refine qw6 (ds:=[b,.int n,.u,.int way,.int o,.int p,kL f,.int (i:Nat),k]) (m:=n) rfl B rfl (by decide) (by lia) (by lia) λ u b1 a0 S B1=>?_
       refine qc6 (y:=.int o) rfl rfl (qc7<|qH6 (x:=.int (n - 1)) rfl ?_);refine qc2 (ds:=[b1,.int n,.u,.int way,.int o,.int p,kL f,.int (i:Nat),k]) (m:=if n < 4 then n else 4) rfl B1 rfl (by split<;>lia) (by split<;>lia) λ l b2 c0 c1 B2=>?_
       have c2:l < n:=by revert c1;split<;>lia
       refine qa0 (a:=D.int (n - 1 - l)) rfl ?_;obtain⟨r,e4,A⟩:=qaR6 (x:=o) (y:=p) (i:=((i:Nat):Int) % 2) (by lia) (by lia) (P:=λ v=>0<=v/\v < n) ⟨V,W⟩ ⟨p0,p1⟩;refine qh7 (y:=.int r) (Ag (x:=.l false [.int o,.int p]) rfl (Ag (x:=.int (i:Nat)) (y:=.int 2) rfl rfl<|Dp (by decide)) e4) (qb7 ⟨lt4,?_⟩);exact g _ ⟨b2,u,o,n - 1 - l,r,rfl,B2,⟨a0,S⟩,⟨V,W⟩,⟨by lia,by lia⟩,A⟩
     rintro c ⟨b,u,I,l,r,rfl,B,N,O,R,A⟩;obtain⟨v,ev,hv⟩:=qV1 (P:=λ v=>0<=v/\v < n) w0 w1 N O R A;refine qaw3 (ys:=Oo f) (d:=.int v) rfl (Ag (x:=.l false [.int u,.int I,.int l,.int r]) rfl rfl ev) rfl (by rw[qf8];unfold big;lia) ?_;rw[qu9];refine H _ ⟨b,f++[v],_,_,rfl,B,λ h J=>?_,by rw[zAe,L];rfl⟩;rcases zAa.mp J with J | J
     . exact U h J
     rw[zAl.mp J];exact hv
   rintro c ⟨b,f,t,k,rfl,h⟩;rw[zA9,qU3] at h;exact g _ ⟨b,f,t,k,rfl,h⟩
 rintro c ⟨b,f,t,k,rfl,B,U,L⟩;exact q b f B U L
theorem qd6:qa8 ["_law_bag_here", "_law_most", "_law_way", "_law_size", "_law_wraps", "_law_many", "_law_told", "_law_great", "_law_keys", "_law_home_here", "_law_key", "_law_homes", "_law_number"] ["_law_bag_here", "_law_most"] (qa3 qP1):=by walk_at "s"
def qal3:VSp:=λ ds Q _=>∃ b M ns,ds=[b,.int M]/\Oz ns b/\1<=M/\M<=64/\∀ a n wr ps ks,Oz ns a->1<=n->n<=64->qM1 ps->ks.Nodup->(∀ k∈ks,Ap k)->ks.length<=66->(∃ t,ps.map (·.1)=ks.take t)->Q (.q [Af n wr ps,kL ks]) [a,.int M]
theorem qax0{x y i:Int}(c:0<=i)(h1:i < 3){P:Int->Prop}(d:P x)(e:P y)(f:P z):∃ v,atI [D.int x,D.int y,D.int z] i=some (.int v)/\P v:=by
 obtain⟨v,b,a⟩:=qL6 (xs:=[D.int x,D.int y,D.int z]) c h1;simp only[zAi,zBd,zD2] at b;rcases b with rfl | rfl | rfl
 . exact⟨x,a,d⟩
 . exact⟨y,a,e⟩
 exact⟨z,a,f⟩
theorem qaO9{x i:Int}(b:0<=i)(h1:i < 5)(d:0<=x/\x<=64):∃ v,atI [D.int 0,D.int 0,D.int 1,D.int 6,D.int x] i=some (.int v)/\0<=v/\v<=64:=by
 obtain⟨v,a,c⟩:=qL6 (xs:=[D.int 0,D.int 0,D.int 1,D.int 6,D.int x]) b h1;simp only[zAi,zBd,zD2] at a;rcases a with rfl | rfl | rfl | rfl | rfl<;>exact⟨_,c,by lia,by lia⟩
theorem qad3{m:Int}:Oq ps++[.q [.int k,.int m]]=Oq (ps++[(k,m)]):=by unfold Oq;rw[zBf];rfl
theorem qJ8(ps:Pr):(Oq ps).length=ps.length:=zA8 _
abbrev qe1 (M) (way) (n:Int) (wr:Bool) (told) (gr) (p0 d e f a b c:D):=([p0,.int M,.int way,.int n,.bl wr,d,.int told,.int gr,e,f,a,b,c]:Ds)
theorem qan2(T:Txt K mg a):VFn P w K mg base 3 a.f42 a.d42 ["_law_bag_here", "_law_most"] qal3:=by
 refine VFn.mk' T.d42.F qd6 (wOf [true,true]) (λ c Q Q' xe a9 hQ _ h=>by obtain⟨b,M,s,e,h1,h2,h3,q⟩:=h;exact⟨b,M,s,e,h1,h2,h3,λ O n wr j f a1 H a3 a4 a5 a6 a7 zz=>hQ _ _<|q O n wr j f a1 H a3 a4 a5 a6 a7 zz⟩) (λ c Q xe ⟨b,M,s,e,_⟩=>by rw[e];rfl) (λ c Q xe h=>by obtain⟨b,M,s,e,⟨x,y,z,eb,_⟩,_⟩:=h;rw[e,eb];rfl) (λ _ _ _ _ _ _ _ t=>⟨_,(Aa (An 2 qd6.nd<|Ah T.d35 (qb6 T) qa1 (rm t)<|vaN 0<|vaV (qa5 Ae) Ab)<|Aa (An 3 qd6.nd<|e2vP (At qb0) Ak (Gr<|vaV (e2 (Am qh4) qh3 (qa5 Ae)<|Ah T.d35 (qb6 T) qa1 (rm t)<|vaN 0<|vaV (qa5<|vbi (qH0 rfl) qai8.ops T.Cy<|qa2 Ae (qa2 (vnm 1) qa6 rfl) rfl) Ab)<|vaV (e2 (Am qh4) qh3 (qa5 Ae)<|Ah T.d35 (qb6 T) qa1 (rm t)<|vaN 0<|vaV (qa5<|vbi (qH0 rfl) qai8.ops T.Cy<|qa2 Ae (qa2 (vnm 1) qa6 rfl) rfl) Ab)<|vaV (e2 (Am qh4) qh3 (qa5 Ae)<|Ah T.d35 (qb6 T) qa1 (rm t)<|vaN 0<|vaN 1 Ab)<|vaV (qb4<|vnm 1) Ab)<|vnm 2)<|Aa (An 4 qd6.nd<|e2v (A8 (qj3 t.u64)<|qb1 _) Bk (Ah T.d35 (qb6 T) qa1 (rm t)<|vaN 0<|vaV (qa5 Ae) Ab) Ae)<|Aa (An 5 qd6.nd<|e2P (At qb0) Ak (Gr<|vaV (qb4<|vnm 3)<|vaV (qa5<|v2 (Am qh4) qh3 (vnm 3) Ae)<|vaV (qa5<|v2 (Am qh4) qh3 Ae<|v2 (Am qP8) qaA1 (v2 (Am qy5) qy4 (vnm 3) Ae) Ae)<|vaV (Ah T.d35 (qb6 T) qa1 (rm t)<|vaN 0<|vaV (qa5<|v2 (Am qh4) qh3 (vnm 3) Ae) Ab) Ab)<|Ah T.d35 (qb6 T) qa1 (rm t)<|vaN 0<|vaV (qa5 Ae) Ab)<|Aa (An 6 qd6.nd<|e2P (At qb0) Ak (qa5<|Bs<|qa2 Ae (qa2 Ae (qa2 Ae (qa2 Ae (qa2 Ae qa6 rfl) rfl) rfl) rfl) rfl)<|Ah T.d35 (qb6 T) qa1 (rm t)<|vaN 0<|vaV (qa5 Ae) Ab)<|Aa (An 7 qd6.nd<|e2P (At qb0) Ak (qa5<|Bs<|qa2 Ae (qa2 Ae (qa2 Ae (qa2 (vpow 10000000000000000) qa6 rfl) rfl) rfl) rfl)<|Ah T.d35 (qb6 T) qa1 (rm t)<|vaN 0<|vaV (qa5 Ae) Ab)<|Aa (An 8 qd6.nd<|qa5<|Bs qa6)<|Aa (Ge Nk (Ah T.d41 (qB8 T) qa1 (rm t)<|vaN 0<|vaN 3<|vaN 5 Ab) (A7 9 qd6.nd)<|Aa (An 10 qd6.nd<|e2n 9 (Am qh4) qh3<|e2n 3 (Am qy5) qy4<|Ah T.d35 (qb6 T) qa1 (rm t)<|vaN 0<|vaN 7 Ab)<|Aj<|sif (q2 (Aq qo9 (by with_unfolding_all rfl)) Ey (vnm 10)<|vnm 8) (Aj<|Bm<|Db 8 qt3 Nn No Np qd2<|vaN 10 Ab) Ax)<|Aa (An 11 qd6.nd<|qa5<|Bs qa6)<|Aa (Ge Nk (qa5<|vsl (vnm 8) G9<|Ha<|vnm 6) (A7 10 qd6.nd)<|Aa (An 12 qd6.nd<|e2P (At qb0) Ak (Gr<|vaV (Ah T.d35 (qb6 T) qa1 (rm t)<|vaN 0<|vaN 3 Ab)<|vaV (e2 (Am qt0) qs8 (qa5<|vpow 1000000000000000000)<|Ah T.d35 (qb6 T) qa1 (rm t)<|vaN 0<|vaN 3 Ab)<|vaV (Ah T.d35 (qb6 T) qa1 (rm t)<|vaN 0<|vaV (qa5<|vpow 1000000000000000000) Ab) Ab)<|Ah T.d35 (qb6 T) qa1 (rm t)<|vaN 0<|vaV (qa5 Ae) Ab)<|Aj<|Bm<|Db 11 qt3 Nn No Np qd2<|vaV (qa5<|B6<|qa2 (vnm 10) (qa2 (vnm 12) qa6 rfl) rfl) Ab)<|Aj<|Au<|Hs<|vaV (Hs<|vaV (qb4<|vnm 3)<|vaV (qb4<|vnm 4)<|vaV (efz 11) Ab)<|vaV (emv 8) Ab),λ c Q xe h=>?_⟩);obtain⟨b,M,s,rfl,B,M0,M1,q⟩:=h;refine Av [b,.int M,.u,.u,.u,.u,.u,.u,.u,.u,.u,.u,.u] rfl ?_;refine qc1 (λ c=>∃ b way,c=[b,.int M,.int way,.u,.u,.u,.u,.u,.u,.u,.u,.u,.u]/\Oz s b/\0<=way/\way < 4) (λ K o=>?_) ?_
 . exact qc2 rfl B rfl (by decide) (by decide) λ v O X v1 B'=>o _ ⟨O,v,rfl,B',X,v1⟩
 rintro c ⟨b,way,rfl,B,w0,w1⟩;refine qc1 (λ c=>∃ b n,c=[b,.int M,.int way,.int n,.u,.u,.u,.u,.u,.u,.u,.u,.u]/\Oz s b/\1<=n/\n<=64) (λ K o=>?_) ?_
 . refine qf4 (qaG5<|qC0<|qc7<|qH6 (x:=.int 1) rfl ?_)
   refine qc2 (ds:=[b,.int M,.int way,.u,.u,.u,.u,.u,.u,.u,.u,.u,.u]) (m:=if M < 8 then M else 8) rfl B rfl (by split<;>lia) (by split<;>lia) λ R L a1 c1 B1=>?_
   have e1:R < M:=by revert c1;split<;>lia
   refine qa0 (a:=D.int (1+R)) rfl (qc7<|qH6 (x:=.int 1) rfl ?_);refine qc2 (ds:=[L,.int M,.int way,.u,.u,.u,.u,.u,.u,.u,.u,.u,.u]) (m:=if M < 16 then M else 16) rfl B1 rfl (by split<;>lia) (by split<;>lia) λ I J H N B2=>?_
   have e2:I < M:=by revert N;split<;>lia
   refine qa0 (a:=D.int (1+I)) rfl (qc7<|qH6 (x:=.int 1) rfl ?_);refine qw6 (ds:=[J,.int M,.int way,.u,.u,.u,.u,.u,.u,.u,.u,.u,.u]) (m:=M) rfl B2 rfl (by decide) (by lia) (by lia) λ x3 b3 a3 c3 B3=>?_
   refine qa0 (a:=D.int (1+x3)) rfl (qc6 (y:=.int M) rfl rfl<|qb7 ⟨lt4,qa0 (a:=D.int way) rfl ⟨rfl,?_⟩⟩);obtain⟨n,en,hn⟩:=qV1 (P:=λ v=>1<=v/\v<=64) w0 w1 (x:=1+R) (y:=1+I) (z:=1+x3) (w:=M) ⟨by lia,by lia⟩ ⟨by lia,by lia⟩ ⟨by lia,by lia⟩ ⟨M0,M1⟩;exact qa0 en (o _ ⟨b3,n,rfl,B3,hn.1,hn.2⟩)
 rintro c ⟨b,n,rfl,B,n1,n2⟩;refine qc1 (λ c=>∃ b wr,c=[b,.int M,.int way,.int n,.bl wr,.u,.u,.u,.u,.u,.u,.u,.u]/\Oz s b) (λ K o=>?_) ?_
 . refine qf4 (qN0<|qc2 rfl B rfl (by decide) (by decide) λ v O X v1 B'=>?_)
   exact qa0 (a:=D.bl (decide (v=1))) rfl (o _ ⟨O,_,rfl,B'⟩)
 rintro c ⟨b,wr,rfl,B⟩;refine qc1 (λ c=>∃ b m,c=[b,.int M,.int way,.int n,.bl wr,.int m,.u,.u,.u,.u,.u,.u,.u]/\Oz s b/\0<=m/\m<=66) (λ K o=>?_) ?_
 . refine qf4 (qaG6<|qC0<|qc6 (y:=.int n) rfl rfl<|qh7 (y:=.int (n+2)) rfl<|qh7 (y:=.int (1+n * 3 / 4)) (Ag (x:=.int 1) rfl (Ag (x:=.int (n * 3)) (y:=.int 4) (Ag (x:=.int n) (y:=.int 3) rfl rfl<|Ji (by decide)) rfl<|qaE1 (by decide) (by decide)) rfl)<|qc7 ?_)
   refine qc2 (ds:=[b,.int M,.int way,.int n,.bl wr,.u,.u,.u,.u,.u,.u,.u,.u]) (m:=n+1) rfl B rfl (by lia) (by lia) λ R L a1 c1 B1=>?_
   refine qb7 ⟨lt4,?_⟩;refine qc2 (ds:=[L,.int M,.int way,.int n,.bl wr,.u,.u,.u,.u,.u,.u,.u,.u]) (m:=4) rfl B1 rfl (by decide) (by decide) λ I J H N B2=>?_
   obtain⟨m,Y,A⟩:=qV1 (P:=λ v=>0<=v/\v<=66) H N (x:=n) (y:=n+2) (z:=1+n * 3 / 4) (w:=R) ⟨by lia,by lia⟩ ⟨by lia,by lia⟩ ⟨by lia,by lia⟩ ⟨by lia,by lia⟩;exact qa0 Y (o _ ⟨J,m,rfl,B2,A.1,A.2⟩)
 rintro c ⟨b,m,rfl,B,m0,m1⟩;refine qc1 (λ c=>∃ b told,c=[b,.int M,.int way,.int n,.bl wr,.int m,.int told,.u,.u,.u,.u,.u,.u]/\Oz s b/\0<=told/\told<=64) (λ K o=>?_) ?_
 . refine qf4 (qH6 (x:=.l false [.int 0,.int 0,.int 1,.int 6,.int 64]) rfl<|qc2 (ds:=[b,.int M,.int way,.int n,.bl wr,.int m,.u,.u,.u,.u,.u,.u,.u]) (m:=5) rfl B rfl (by decide) (by decide) λ I J H N B2=>?_)
   obtain⟨m,Y,A⟩:=qaO9 (x:=64) H N (by decide);exact qa0 Y (o _ ⟨J,m,rfl,B2,A.1,A.2⟩)
 rintro c ⟨b,told,rfl,B,t0,t1⟩;refine qc1 (λ c=>∃ b r,c=(qe1 M way n wr told r b (.int m) .u .u .u .u .u)/\Oz s b/\1<=r/\r<=10000000000000000) (λ K o=>?_) ?_
 . refine qf4 (qH6 (x:=.l false [.int 9,.int 9,.int 9,.int 10000000000000000]) rfl<|qc2 (ds:=[b,.int M,.int way,.int n,.bl wr,.int m,.int told,.u,.u,.u,.u,.u,.u]) (m:=4) rfl B rfl (by decide) (by decide) λ I J H N B2=>?_)
   obtain⟨m,Y,A⟩:=qV1 (P:=λ v=>1<=v/\v<=10000000000000000) H N (x:=9) (y:=9) (z:=9) (w:=10000000000000000) (by decide) (by decide) (by decide) (by decide);exact qa0 Y (o _ ⟨J,m,rfl,B2,A.1,A.2⟩)
 rintro c ⟨b,r,rfl,B,g0,g1⟩;refine qb5 (qe1 M way n wr told r b (.int m) (kL []) .u .u .u .u) (λ K o=>o) ?_;refine qc1 (λ c=>∃ b f u g,c=(qe1 M way n wr told r b .u (kL f) u g .u .u)/\Oz s b/\f.Nodup/\(∀ k∈f,Ap k)/\f.length<=66) (λ K o=>?_) ?_
 . refine qaY7 (x:=b) (y:=.int n) (w:=.int m) (qf3 rfl B.known) rfl rfl rfl (qf3 rfl B.known) ⟨b,n,m,s,rfl,B,n1,n2,m0,by lia,λ L hs B1 hh hl=>?_⟩
   refine qa0 (a:=(qe1 M way n wr told r L .u (kL []) .u .u .u .u)) rfl (qa0 (a:=Oo hs) rfl ⟨qe5 hs,?_⟩);refine qd4 (λ i c=>∃ b f u g,c=(qe1 M way n wr told r b .u (kL f) u g .u .u)/\Oz s b/\f.Nodup/\(∀ k∈f,Ap k)/\f.length<=i) _ 0 _ ⟨L,[],_,_,rfl,B1,Ms,nofun,zA3 _⟩ ?_ ?_
   . rintro i x S c ⟨b,f,u,g,rfl,B,U,V,C⟩ K2 E
     rw[zA9] at C E;obtain⟨h,hi,rfl⟩:=qK0 S;obtain⟨h0,h1⟩:=hh h (zB1 hi);have a0:i < 66:=by have:=(zA4.mp hi).1;lia
     refine qk6 (Av (qe1 M way n wr told r b .u (kL f) (.int h) g .u .u) rfl ?_);refine qc1 (λ c=>∃ b W,c=(qe1 M way n wr told r b .u (kL f) (.int h) (.int W) .u .u)/\Oz s b/\Ap W) (λ K o=>?_) ?_
     . refine qf4 ⟨rfl,rfl,?_⟩
       refine qw6 (ds:=[b,.int M,.int way,.int n,.bl wr,.u,.int told,.int r,kL f,.int h,g,.u,.u]) (m:=r) rfl B rfl (by decide) (by lia) (by lia) λ v O X v1 B'=>?_
       have e2:0<=n * v:=Int.mul_nonneg (by lia) X;have e3:n * v<=64 * v:=Int.mul_le_mul_of_nonneg_right n2 X;exact qa0 (a:=D.int (n * v)) (mulL<|qN8 (by lia) (by lia)) (qa0 (a:=D.int (h+n * v)) rfl<|o _ ⟨O,h+n * v,rfl,B',by lia,by lia⟩)
     rintro c ⟨b,W,rfl,B,a8⟩;refine if_v (b:=!decide (W∈f)) (Ag rfl rfl qae5) (λ hb=>?_) λ hb=>E _ ⟨b,f,_,_,rfl,B,U,V,by lia⟩
     have A:¬ W∈f:=λ z=>by rw[zAb z] at hb;cases hb
     refine qaQ6 (ys:=Oo f) (d:=.int W) rfl rfl rfl (by decide) (by rw[qf8];unfold big;lia) ?_;rw[qu9];refine E _ ⟨b,f++[W],_,_,rfl,B,zBv.mpr ⟨U,(by simp),λ x S y hy e=>A (by rw[<- zAl.mp hy,<- e];exact S)⟩,λ x S=>?_,by rw[zAe];exact Nat.add_le_add_right C 1⟩;rcases zAa.mp S with h | h
     . exact V x h
     rw[zAl.mp h];exact a8
   rintro c ⟨b,f,u,g,rfl,B,U,V,C⟩;rw[zA9,qf8] at C;exact o _ ⟨b,f,u,g,rfl,B,U,V,by lia⟩
 rintro c ⟨b,f,u,g,rfl,B,U,V,C⟩;refine qb5 (qe1 M way n wr told r b .u (kL f) u g (.l false<|Oq []) .u) (λ K o=>o) ?_;refine qc1 (λ c=>∃ b j g l,c=(qe1 M way n wr told r b .u (kL f) u g (.l false<|Oq j) l)/\Oz s b/\j.map (·.1)=f.take told.toNat/\∀ p∈j,Ap p.2) (λ K o=>?_) ?_
 . have ec:Br (Oo f) none (some told)=Oo (f.take told.toNat):=by rw[show told=((told.toNat:Nat):Int) by lia,qG6,zC3];unfold Oo;rw[Lm]
   refine qq4 (qaY4 rfl rfl rfl ec) (qa0 (a:=Oo (f.take told.toNat)) rfl ⟨qe5 _,?_⟩);refine qd4 (λ i c=>∃ b j g l,c=(qe1 M way n wr told r b .u (kL f) u g (.l false<|Oq j) l)/\Oz s b/\j.map (·.1)=(f.take told.toNat).take i/\∀ p∈j,Ap p.2) _ 0 _ ⟨b,[],_,_,rfl,B,rfl,nofun⟩ ?_ ?_
   . rintro i x S c ⟨b,j,g,l,rfl,B,G,Z⟩ K2 E
     rw[zA9] at G E;obtain⟨k,hi,rfl⟩:=qK0 S;have a0:j.length<=64:=by have:=congrArg Kx G;simp at this;lia
     refine qk6 (Av (qe1 M way n wr told r b .u (kL f) u (.int k) (.l false<|Oq j) l) rfl ?_);refine qc1 (λ c=>∃ b v,c=(qe1 M way n wr told r b .u (kL f) u (.int k) (.l false<|Oq j)<|.int v)/\Oz s b/\Ap v) (λ K o=>?_) ?_
     . refine qf4 (qaG6<|qC0<|qc7 ?_)
       refine qw6 (ds:=[b,.int M,.int way,.int n,.bl wr,.u,.int told,.int r,kL f,u,.int k,.l false (Oq j),l]) (m:=n) rfl B rfl (by decide) (by lia) (by lia) λ R L a1 c1 B1=>qc7 (qH6 (x:=.int 1000000000000000000) rfl ?_)
       refine qw6 (ds:=[L,.int M,.int way,.int n,.bl wr,.u,.int told,.int r,kL f,u,.int k,.l false (Oq j),l]) (m:=n) rfl B1 rfl (by decide) (by lia) (by lia) λ I J H N B2=>qa0 (a:=D.int (1000000000000000000 - I)) rfl (qc7 ?_)
       refine qc2 (ds:=[J,.int M,.int way,.int n,.bl wr,.u,.int told,.int r,kL f,u,.int k,.l false (Oq j),l]) (m:=1000000000000000000) rfl B2 rfl (by decide) (by decide) λ x3 b3 a3 c3 B3=>qb7 ⟨lt3,?_⟩
       refine qc2 (ds:=[b3,.int M,.int way,.int n,.bl wr,.u,.int told,.int r,kL f,u,.int k,.l false (Oq j),l]) (m:=3) rfl B3 rfl (by decide) (by decide) λ x4 b4 a4 c4 B4=>?_
       obtain⟨v,ev,hv⟩:=qax0 (P:=Ap) a4 c4 (x:=R) (y:=1000000000000000000 - I) (z:=x3) ⟨by lia,by lia⟩ ⟨by lia,by lia⟩ ⟨by lia,by lia⟩;exact qa0 ev (o _ ⟨b4,v,rfl,B4,hv⟩)
     rintro c ⟨b,v,rfl,B,hv⟩;refine qL7 (ys:=Oq j) (d:=.q [.int k,.int v]) rfl rfl (by rw[qJ8];unfold big;lia) ?_;rw[qad3];refine E _ ⟨b,j++[(k,v)],_,_,rfl,B,by rw[zBf,G,ql3 hi];rfl,λ p A=>?_⟩;rcases zAa.mp A with h | h
     . exact Z p h
     rw[zAl.mp h];exact hv
   rintro c ⟨b,j,g,l,rfl,B,G,Z⟩;rw[zA9,qf8,zCc] at G;exact o _ ⟨b,j,g,l,rfl,B,G,Z⟩
 rintro c ⟨b,j,g,l,rfl,B,G,Z⟩;have hG:qM1 j:=⟨by have:=congrArg Kx G;simp at this;lia,by rw[G];exact U.sublist (zBm _ _),λ p A=>⟨V _<|zCh (by rw[<- G];exact Lf A),Z p A⟩⟩
 refine qi3 (qaR7<|qar9<|qc6 (y:=.int n) rfl rfl<|qc6 (y:=.bl wr) rfl rfl<|qc7<|qaR8 (d:=.l false (Oq j)) rfl<|qb7 ⟨lt3,?_⟩);refine qc7 (qa0 (a:=D.l false (Oo f)) rfl<|qb7 ⟨lt2,?_⟩);have e:(D.l false<|Oq j).fz=.l true (Oq j):=congrArg (D.l true) (qU9 j);rw[e];exact q b n wr j f B n1 n2 hG U V C ⟨_,G⟩
theorem qs1:qa8 ["_law_plan", "_law_keys", "_law_found", "_law_key"] ["_law_plan", "_law_keys"] (qa3 qy1):=by walk_at "s"
def qY4:VSp:=λ ds Q _=>∃ n wr ps z ks,ds=[Af n wr ps,.l z (Oo ks)]/\1<=n/\n<=64/\(ps.map (·.1)).Nodup/\ks.Nodup/\ks.length<=100 /\
 ∀ S,S.Sublist ks->(∀ q,¬ Crowd n.toNat wr (Om n ps) S q)->Q (kL S) ds
theorem qt1(T:Txt K mg a):VFn P w K mg base 4 a.f43 a.d43 ["_law_plan", "_law_keys"] qY4:=by
 refine VFn.mk2 T.d43.F qs1 (wOf [true,true]) (by walk_at "m") (by walk_at "l") (λ _ _ _ _ _ _ _ H=>⟨_,(Aa (An 2 qs1.nd<|qa5<|Bs qa6)<|Aa (sforP Nk (vpn 1) (A7 3 qs1.nd)<|Aj<|sif (q2v (A8 qo8<|qb1 _) (Aq qo8<|qb1 _) qs9 (Ah T.d40 (qq3 T) qa1 (rm H)<|vaN 0<|vaV (qa5<|v2 (Am qh4) qh3 (vnm 2)<|Bs<|qa2 (vnm 3) qa6 rfl) Ab) Bc) (Aj<|Bm<|Db 2 qt3 Nn No Np qd2<|vaN 3 Ab) Ax)<|Aj<|Au<|emv 2),λ j Q N h=>?_⟩);obtain⟨n,wr,c,z,f,rfl,E,I,J,r,L,q⟩:=h;refine Av [Af n wr c,.l z (Oo f),.u,.u] rfl ?_;refine qb5 [Af n wr c,.l z (Oo f),kL [],.u] (λ K t=>t) ?_;refine qc1 (λ j=>∃ S o,j=[Af n wr c,.l z (Oo f),kL S,o]/\S.Sublist f/\∀ q,¬ Crowd n.toNat wr (Om n c) S q) (λ K t=>?_) ?_
 . refine qa0 (a:=(1,[])) rfl (qa0 (a:=D.l z (Oo f)) rfl<|qa0 (a:=Oo f) rfl ⟨qe5 f,λ w=>?_⟩)
   refine qd4 (λ i j=>∃ S o,j=[Af n wr c,.hole w,kL S,o]/\S.Sublist (f.take i)/\∀ q,¬ Crowd n.toNat wr (Om n c) S q) _ 0 _ ⟨[],_,rfl,.slnil,λ q=>(Kept.none (by lia)<|Ex E).no_crowd q⟩ ?_ ?_
   . rintro i y u j ⟨S,o,rfl,b,s⟩ K2 p
     rw[zA9] at b p;obtain⟨k,v,rfl⟩:=qK0 u;have A:¬ k∈S:=λ z=>qy6 r v (b.subset z)
     have B:S.Nodup:=r.sublist (b.trans<|zBm _ _);have G:S.length<=100:=zAk (b.trans<|zBm _ _).length_le L;refine qk6 (Av [Af n wr c,.hole w,kL S,.int k] rfl ?_);refine qI4 (qe0<|qb8 (x:=Af n wr c) rfl<|qh7 (y:=kL (S++[k])) (Ag (x:=kL S) (y:=kL [k]) rfl rfl<|qar6 (by show _+1<=1000;lia))<|qb7<|qa0 (a:=Af n wr c) rfl ?_);refine⟨n,wr,c,false,S++[k],rfl,E,I,J,zBv.mpr ⟨B,(by simp),λ x M y u e=>A (by rw[<- zAl.mp u,<- e];exact M)⟩,by rw[zAe];show _+1<=200;lia,λ _=>?_,λ C g _=>?_⟩
     . refine qa0 (a:=[Af n wr c,.hole w,kL S,.int k]) rfl (qa0 (a:=D.bl false) rfl<|qa0 (a:=false) rfl<|Hh (by decide)<|p _ ⟨S,_,rfl,b.trans ?_,s⟩)
       rw[ql3 v];exact zBx _ _
     refine qa0 (a:=[Af n wr c,.hole w,kL S,.int k]) rfl (qa0 (a:=D.bl true) rfl<|qa0 (a:=true) rfl<|Du rfl ?_);refine qaQ6 (ys:=Oo S) (d:=.int k) rfl rfl rfl (by decide) (by rw[qf8];unfold big;lia) ?_;rw[qu9];refine p _ ⟨S++[k],_,rfl,?_,C⟩;rw[ql3 v];exact b.append (List.Sublist.refl _)
   rintro j ⟨S,o,rfl,b,s⟩;rw[zA9,qf8,zCc] at b;exact qa0 (qav9 rfl) (t _ ⟨S,o,rfl,b,s⟩)
 rintro j ⟨S,o,rfl,b,s⟩;exact q S b s
theorem qu3:qa8 ["_law_bag_here", "_law_plan", "_law_keys", "_law_way", "_law_one", "_law_other", "_law_at"] ["_law_bag_here", "_law_plan", "_law_keys"] (qa3 qay0):=by walk_at "s"
def NCd(n:Int)(wr:Bool)(ps:Pr)(S:List Int):Prop:=∀ q,¬ Crowd n.toNat wr (Om n ps) S q
def okL(n:Int)(wr:Bool)(ps:Pr)(ks S:List Int):Prop:=S.Nodup/\(∀ x∈S,x∈ks)/\NCd n wr ps S
theorem okL.sub(h:okL n wr ps ks S)(s:T.Sublist S):okL n wr ps ks T:=⟨h.1.sublist s,λ x a=>h.2.1 x<|s.subset a,λ q c=>h.2.2 q<|c.mono s⟩
theorem qaC8{j:Int}(h:0<=j):gSl (.l z<|Oo ks) none (some j)=some (kL<|ks.take j.toNat):=by
 have e:Br (Oo ks) none (some j)=Oo (ks.take j.toNat):=by
   rw[show j=((j.toNat:Nat):Int) by lia,qG6,zC3];unfold Oo;rw[Lm]
 show gd (D.imms (Br (Oo ks) none<|some j)=true) (.l false<|Br (Oo ks) none<|some j)=_;rw[e];exact qi4 (qe5 _)
theorem qaE2:Br ys (some (r:Int)) none=ys.drop r:=by
 unfold Br;rw[HT.qac8,HT.qP3];by_cases h:r<=ys.length
 . rw[zCy h]
   exact zAu (by rw[zCa];lia)
 rw[Nat.min_eq_right (by lia),Lb (zA3 _),Lb (by lia),M3]
theorem qaX3{j:Int}(h:0<=j):gSl (.l z<|Oo ks) (some j) none=some (kL<|ks.drop j.toNat):=by
 have e:Br (Oo ks) (some j) none=Oo (ks.drop j.toNat):=by
   rw[show j=((j.toNat:Nat):Int) by lia,qaE2,zC3];unfold Oo;rw[Mx]
 show gd (D.imms (Br (Oo ks) (some j) none)=true) (.l false<|Br (Oo ks) (some j) none)=_;rw[e];exact qi4 (qe5 _)
theorem ne_ks(ks:List Int):gNe (.l z<|Oo ks) (.l z' [])=some (.bl<|!decide (ks=[])):=by
 cases ks<;>rfl
theorem qZ3(b:1<=n)(a:NCd n wr ps S):S.length<=n.toNat:=by
 by_cases h:n.toNat < S.length
 . refine absurd ⟨by lia,?_⟩ (a 0)
   cases wr with
   | true=>rw[if_pos rfl];exact⟨rfl,h⟩
   | false=>rw[if_neg (by decide),List.filter_eq_self.mpr λ _ _=>zAb (zBh _)];lia
 lia
def qaH0:VSp:=λ ds Q _=>∃ b ns n wr ps ks,ds=[b,Af n wr ps,.l true (Oo ks)]/\Oz ns b/\1<=n/\n<=64/\(ps.map (·.1)).Nodup/\ks.Nodup/\ks.length<=66 /\
 ∀ a S T,Oz ns a->okL n wr ps ks S->okL n wr ps ks T->Q (.q [.l true (Oo S),.l true (Oo T)]) [a,Af n wr ps,.l true (Oo ks)]
abbrev qq0(n:Int)(wr:Bool)(ps:Pr) (ks) (way) (p0 a b c:D):=([p0,Af n wr ps,.l true (Oo ks),.int way,a,b,c]:Ds)
theorem qaL6(T:Txt K mg a):VFn P w K mg base 5 a.f44 a.d44 ["_law_bag_here", "_law_plan", "_law_keys"] qaH0:=by
 refine VFn.mk' T.d44.F qu3 (wOf [true,true,true]) (λ f Q Q' Y a5 hQ _ h=>by obtain⟨b,E,n,wr,g,c,e,h1,h2,h3,h4,h5,h6,q⟩:=h;exact⟨b,E,n,wr,g,c,e,h1,h2,h3,h4,h5,h6,λ p S T a1 a2 a3=>hQ _ _<|q p S T a1 a2 a3⟩) (λ f Q Y h=>by obtain⟨b,E,n,wr,g,c,e,_⟩:=h;rw[e];rfl) (λ f Q Y h=>by obtain⟨b,E,n,wr,g,c,e,⟨x,y,w,eb,_⟩,_⟩:=h;rw[e,eb];rfl) (λ _ _ _ _ _ _ _ t=>⟨_,(Aa (An 3 qu3.nd<|Ah T.d35 (qb6 T) qa1 (rm t)<|vaN 0<|vaV (qa5 Ae) Ab)<|Aa (An 4 qu3.nd<|Ah T.d43 (qt1 T) qa1 (rm t)<|vaN 1<|vaV (ecN (NY:=["_law_key", "_law_bag_here"]) (src:=[none,some 0]) 2<|blk (λ M C N H0 O=>(A7 0<|show (["_law_key", "_law_bag_here"]:List Str).Nodup by decide +kernel)) (λ M C N H0 O=>(En<|q2v (A8 Bo<|qb1 _) (Aq Bo<|qb1 _) B9 (Ah T.d35 (qb6 T) qg6 (rm t)<|vaN 1<|vaV (qa5 Ae) Ab) Ae)) (λ M C N H0 O=>(qb4<|vnm 0))) Ab)<|Aa (An 5 qu3.nd<|Ah T.d43 (qt1 T) qa1 (rm t)<|vaN 1<|vaV (ecV (NY:=["_law_key", "_law_bag_here"]) (src:=[none,some 0]) T.Co (qb4<|vnm 2)<|blk (λ M C N H0 O=>(A7 0<|show (["_law_key", "_law_bag_here"]:List Str).Nodup by decide +kernel)) (λ M C N H0 O=>(En<|q2v (A8 Bo<|qb1 _) (Aq Bo<|qb1 _) B9 (Ah T.d35 (qb6 T) qg6 (rm t)<|vaN 1<|vaV (qa5 Ae) Ab) Ae)) (λ M C N H0 O=>(qb4<|vnm 0))) Ab)<|Aa (sif (q2 (Aq (qj3 t.u64)<|qb1 _) Bk (vnm 3) Ae) (Aj<|An 5 qu3.nd<|qa5<|Fq qg0 qD5.ops T.Cg<|qa2 (vnm 4) qa6 rfl) Ax)<|Aa (sif (q2 (Aq (qj3 t.u64)<|qb1 _) Bk (vnm 3) Ae) (Aj<|An 5 qu3.nd<|eslN 4<|Ah T.d35 (qb6 T) qa1 (rm t)<|vaN 0<|vaV (qa5<|v2 (Am qh4) qh3 (vbi qA0 qz9.ops T.Cj<|qa2 (vnm 4) qa6 rfl) Ae) Ab) Ax)<|Aa (sif (F7 (q2 (Aq (qj3 t.u64)<|qb1 _) Bk (vnm 3) Ae)<|E2<|q2 (Aq (qE9 t.u64)<|qb1 _) Ef (vnm 4)<|Bs qa6).te (Aa (An 6 qu3.nd<|Ah T.d35 (qb6 T) qa1 (rm t)<|vaN 0<|vaV (qa5<|vbi qA0 qz9.ops T.Cj<|qa2 (vnm 4) qa6 rfl) Ab)<|Aj<|An 5 qu3.nd<|qa5<|v2 (Am qh4) qh3 (vsl (vnm 4) G9<|Ha<|vnm 6)<|vsl (vnm 4) (Ha<|v2 (Am qh4) qh3 (vnm 6) Ae) G9) Ax)<|Aa (sif (q2v (A8 (qj3 t.u64)<|qb1 _) (Aq (qj3 t.u64)<|qb1 _) Bk (Ah T.d35 (qb6 T) qa1 (rm t)<|vaN 0<|vaV (qa5 Ae) Ab) Ae) (Aj<|Au<|Hs<|vaV (efz 4)<|vaV (efz 5) Ab) Ax)<|Aj<|Au<|Hs<|vaV (efz 5)<|vaV (efz 4) Ab),λ f Q Y h=>?_⟩);obtain⟨b,E,n,wr,g,c,rfl,B,Z,n2,nd,U,a6,q⟩:=h;refine Av [b,Af n wr g,.l true (Oo c),.u,.u,.u,.u] rfl ?_;refine qc1 (λ f=>∃ b way,f=(qq0 n wr g c way b .u .u .u)/\Oz E b) (λ K r=>qf4<|qc2 rfl B rfl (by decide) (by decide) λ v p H I B'=>r _ ⟨p,v,rfl,B'⟩) ?_;clear B;rintro f ⟨b,way,rfl,B⟩;refine qc1 (λ f=>∃ b S,f=(qq0 n wr g c way b (kL S) .u .u)/\Oz E b/\okL n wr g c S) (λ K r=>qf4<|qe0<|qb8 (x:=Af n wr g) rfl<|qc7<|qa0 (a:=D.l true (Oo c)) rfl<|qa0 (a:=Oo c) rfl ⟨qe5 c,?_⟩) ?_
 . refine qL3 (λ i s ι=>∃ b d L,ι=[d,b]/\Oz E b/\s=Oo L/\L.Sublist (c.take i)) _ 0 [] _ ⟨b,_,[],rfl,B,rfl,Lu _⟩ ?_ ?_
   . rintro j y hy s ι ⟨b,d,L,rfl,B,rfl,o⟩ R J
     rw[zA9] at o J;obtain⟨k,V,rfl⟩:=qK0 hy;have W:=(zA4.mp V).1;have u:=o.length_le;rw[zB0] at u;have X:(c.take<|j+1)=c.take j++[k]:=by rw[zBj,V];rfl
     refine qk6 (qI4<|qc2 (ds:=[.int k,b]) (i:=1) (m:=3) rfl B rfl (by decide) (by decide) λ v p H I B'=>qa0 (a:=D.bl (decide (0 < v))) rfl<|qa0 (a:=decide (0 < v)) rfl<|ite_b (λ _=>?_) λ _=>?_)
     . exact ql2 (d:=.int k) rfl rfl ⟨by rw[qf8];unfold big;lia,J _ _ ⟨p,_,L++[k],rfl,B',qu9,by rw[X];exact o.append (List.Sublist.refl _)⟩⟩
     exact J _ _ ⟨p,_,L,rfl,B',rfl,by rw[X];exact o.trans (zBx _ _)⟩
   rintro s ι ⟨b,d,L,rfl,B,rfl,o⟩
   replace o:=o.trans (zBm _ _)
   have u:=o.length_le;have G:L.Nodup:=U.sublist o;refine qb7 (qa0 (a:=Af n wr g) rfl ⟨n,wr,g,false,L,rfl,Z,n2,nd,G,by lia,λ S2 h nc=>qa0 (a:=(qq0 n wr g c way b .u .u .u)) rfl<|r _ ⟨b,S2,rfl,B,G.sublist h,λ x hx=>o.subset<|h.subset hx,nc⟩⟩)
 clear B;rintro f ⟨b,S,rfl,B,A⟩;refine qc1 (λ f=>∃ b T,f=(qq0 n wr g c way b (kL S) (kL T) .u)/\Oz E b/\okL n wr g c T) (λ K r=>qf4<|qe0<|qb8 (x:=Af n wr g) rfl<|qc7<|ql2 (d:=.l true (Oo c)) rfl rfl<|qa0 (a:=Oo c) rfl ⟨qe5 c,?_⟩) ?_
 . rw[show (Oo c).reverse=Oo c.reverse from List.map_reverse.symm]
   refine qL3 (λ i s ι=>∃ b d L,ι=[d,b]/\Oz E b/\s=Oo L/\L.Sublist (c.reverse.take i)) _ 0 [] _ ⟨b,_,[],rfl,B,rfl,Lu _⟩ ?_ ?_
   . rintro j y hy s ι ⟨b,d,L,rfl,B,rfl,o⟩ R J
     rw[zA9] at o J;obtain⟨k,V,rfl⟩:=qK0 hy;have W:=(zA4.mp V).1;have u:=o.length_le;rw[zB0] at u;have X:(c.reverse.take<|j+1)=c.reverse.take j++[k]:=by rw[zBj,V];rfl
     refine qk6 (qI4<|qc2 (ds:=[.int k,b]) (i:=1) (m:=3) rfl B rfl (by decide) (by decide) λ v p H I B'=>qa0 (a:=D.bl (decide (0 < v))) rfl<|qa0 (a:=decide (0 < v)) rfl<|ite_b (λ _=>?_) λ _=>?_)
     . exact ql2 (d:=.int k) rfl rfl ⟨by rw[qf8];unfold big;rw[zC6] at W;lia,J _ _ ⟨p,_,L++[k],rfl,B',qu9,by rw[X];exact o.append (List.Sublist.refl _)⟩⟩
     exact J _ _ ⟨p,_,L,rfl,B',rfl,by rw[X];exact o.trans (zBx _ _)⟩
   rintro s ι ⟨b,d,L,rfl,B,rfl,o⟩
   replace o:=o.trans (zBm _ _)
   have u:=o.length_le;have G:L.Nodup:=(List.pairwise_reverse.mpr<|U.imp Ne.symm).sublist o;refine qb7 (qa0 (a:=Af n wr g) rfl ⟨n,wr,g,false,L,rfl,Z,n2,nd,G,by rw[zC6] at u;lia,λ S2 h nc=>qa0 (a:=(qq0 n wr g c way b (kL S) .u .u)) rfl<|r _ ⟨b,S2,rfl,B,G.sublist h,λ x hx=>List.mem_reverse.mp<|o.subset<|h.subset hx,nc⟩⟩)
 clear B;rintro f ⟨b,T,rfl,B,l⟩;have a7:=qZ3 Z A.2.2;refine qc1 (λ f=>∃ T,f=(qq0 n wr g c way b (kL S) (kL T) .u)/\okL n wr g c T) (λ K r=>if_v (b:=decide (way=1)) rfl (λ _=>qu1 (d:=kL S) (qaM8 (z:=false))<|r _ ⟨S,rfl,A⟩) λ _=>r _ ⟨T,rfl,l⟩) ?_;clear l;rintro f ⟨T,rfl,l⟩;refine qc1 (λ f=>∃ b T,f=(qq0 n wr g c way b (kL S) (kL T) .u)/\Oz E b/\okL n wr g c T) (λ K r=>if_v (b:=decide (way=2)) rfl (λ _=>qf4 ⟨rfl,qc2 (ds:=[b,Af n wr g,.l true (Oo c),.int way,kL S,kL T,.u]) (m:=(S.length:Nat)+1) rfl B ?_ (by lia) (by lia) λ v p H I B'=>qa0 (a:=v) rfl<|qa0 (qaC8 (z:=false) H)<|r _ ⟨p,_,rfl,B',A.sub<|zBm _ _⟩⟩) λ _=>r _ ⟨b,T,rfl,B,l⟩) ?_
 . refine Ag (x:=.int (S.length:Nat)) (y:=.int 1) ?_ rfl rfl
   rw[qt4 (z:=false) (ys:=Oo S) rfl,qf8]
 clear l B;rintro f ⟨b,T,rfl,B,l⟩;refine qc1 (λ f=>∃ b T d6,f=(qq0 n wr g c way b (kL S) (kL T) d6)/\Oz E b/\okL n wr g c T) (λ K r=>if_of (decide (way=3)&&!decide (S=[])) (λ Q q=>qe7 _ _ (λ Q q=>qe6 rfl q) (λ _ Q q=>qe6 (Ag rfl rfl<|ne_ks S) q) q) (λ h=>?_) λ _=>r _ ⟨b,T,_,rfl,B,l⟩) ?_
 . have a0:S≠[]:=λ e=>by subst e;simp at h
   have a4:=List.length_pos_iff.mpr a0;refine qc1 (λ f=>∃ b v,f=(qq0 n wr g c way b (kL S) (kL T)<|.int v)/\Oz E b/\0<=v/\v < (S.length:Nat)) (λ K r=>qf4<|qc2 rfl B ?_ (by lia) (by lia) λ v p H I B'=>r _ ⟨p,v,rfl,B',H,I⟩) ?_
   . rw[qt4 (z:=false) (ys:=Oo S) rfl,qf8]
   rintro f ⟨b,v,rfl,B,H,I⟩;refine qu1 (d:=kL (S.take v.toNat++S.drop (v+1).toNat)) (Ag (x:=kL (S.take v.toNat)) (y:=kL (S.drop (v+1).toNat)) (qaC8 (z:=false) H) (qaX3 (z:=false) (by lia))<|qar6 (by rw[zB0,zCa];lia)) (r _ ⟨b,_,_,rfl,B,A.sub ?_⟩);rw[show (v+1).toNat=v.toNat+1 by lia,<- List.eraseIdx_eq_take_drop_succ];exact List.eraseIdx_sublist ..
 clear l B;rintro f ⟨b,T,d6,rfl,B,l⟩;refine qah6 (qI4<|qc2 (ds:=[b,Af n wr g,.l true (Oo c),.int way,kL S,kL T,d6]) rfl B rfl (by decide) (by decide) λ v p H I B'=>qa0 (a:=D.bl (decide (v=0))) rfl<|qa0 (a:=decide (v=0)) rfl<|ite_b (λ _=>?_) λ _=>?_)
 . refine qi3 (qc7<|qa0 (a:=D.l false (Oo S)) rfl<|qc7<|qa0 (a:=D.l false (Oo T)) rfl<|qb7 ⟨lt2,?_⟩)
   rw[Dc,Dc];exact q p S T B' A l
 refine qi3 (qc7<|qa0 (a:=D.l false (Oo T)) rfl<|qc7<|qa0 (a:=D.l false (Oo S)) rfl<|qb7 ⟨lt2,?_⟩);rw[Dc,Dc];exact q p T S B' l A
theorem qc4:qa8 ["_law_bag_here", "_law_plan", "_law_keys", "_law_size", "_law_homes", "_law_key", "_law_number", "_law_told"] ["_law_bag_here", "_law_plan", "_law_keys"] (qa3 qk4):=by walk_at "s"
theorem qae8(h1:ds[i]? = some (.l false ys))(h:tr ds (λ xs _ ds1=>orF ((rdN i ds1).bind D.own) λ ys=>orF (g ys xs) λ z=>Q z.2<|ds1.set i<|.l false z.1) xe):El g i tr ds Q xe:=⟨by rw[qf3 h1 rfl];rfl,h⟩
theorem qag0{k m:Int}:∀{ps:Pr},(ps.map (·.1)).Nodup->(k,m)∈ps->ps.lookup k=some m
 | [],_,h=>nomatch h
 | (a,b)::ps,nd,h=>by
   rw[zAx,zCn] at nd;rcases zAi.mp h with h | h
   . cases h;exact List.lookup_cons_self
   rw[zAw,show (k == a)=false from zCz λ e=>nd.1 (e ▸ Lf (f:=(·.1)) h)];exact qag0 nd.2 h
theorem qU1{k:Int}:∀{ps:Pr},¬ k∈ps.map (·.1)->ps.lookup k=none
 | [],_=>rfl
 | (a,b)::ps,h=>by
   rw[zAx,zAi,not_or] at h;rw[zAw,show (k == a)=false from zCz h.1];exact qU1 h.2
theorem qah8{m:Int}(a:(ps.map (·.1)).Nodup)(h:(k,m)∈ps):qb3 n ps k=m % n:=by unfold qb3;rw[qag0 a h];rfl
theorem qG0(h:¬ k∈ps.map (·.1)):qb3 n ps k=k % n:=by unfold qb3;rw[qU1 h];rfl
theorem qaN6{K:Ds->Ds->Prop}{b:D}(l:F.length < 1000)(h:∀ d e,K (Oo (F.map (·.1))) [d,e]):Ec (Hc 2<|qK8 (gNm 0)<|qK8 (gNm 1) Hb) qYes (B8<|rdN 0) K (Oq F) [] [b,c]:=by
 refine qj9 (λ ι=>∃ d e,ι=[d,e]) (λ x=>some<|match x with | .q [.int k,.int _]=>.int k | d=>d) _ [] _ (by show 0+_ < 1000000;rw[qJ8];lia) ⟨_,_,rfl⟩ ?_ ?_
 . rintro y g ι i ⟨d,e,rfl⟩ R j a
   obtain⟨⟨k,f⟩,_,rfl⟩:=zB9.mp g;have this:=j [.int k,.int f] ⟨_,_,rfl⟩;exact qp6 (qX4<|Du rfl<|ql2 (d:=.int k) rfl rfl ⟨a,this⟩)
 rintro ι ⟨d,e,rfl⟩;rw[zB3,qR5];have e:((Oq F).map λ x=>match x with | .q [.int k,.int _]=>D.int k | d=>d)=Oo (F.map (·.1)):=by
   unfold Oq Oo;rw[zCr,zCr];rfl
 rw[e];exact h _ _
def qA9:VSp:=λ ds Q _=>∃ b ns n wr ps ks,ds=[b,Af n wr ps,.l true (Oo ks)]/\Oz ns b/\1<=n/\n<=64/\qM1 ps/\ks.Nodup/\(∀ k∈ks,Ap k)/\(∃ t,ps.map (·.1)=ks.take t) /\
 ∀ c a,Oz ns c->qM1 a->(∀ k,qb3 n a k=qb3 n ps k)->Q (.l false<|Oq a) [c,Af n wr ps,.l true (Oo ks)]
abbrev qd0(n:Int)(wr:Bool)(ps:Pr) (ks) (qs) (p0 a b c:D):=([p0,Af n wr ps,.l true (Oo ks),.int n,.l false (Oq qs),a,b,c]:Ds)
theorem qB7(T:Txt K mg a):VFn P w K mg base 2 a.f45 a.d45 ["_law_bag_here", "_law_plan", "_law_keys"] qA9:=by
 refine VFn.mk' T.d45.F qc4 (wOf [true,true,true]) (λ o Q Q' Z a9 hQ _ h=>by obtain⟨b,L,n,wr,g,l,e,u,N,V,W,h5,h6,h7,q⟩:=h;exact⟨b,L,n,wr,g,l,e,u,N,V,W,h5,h6,h7,λ b' f a1 a2 a3=>hQ _ _<|q b' f a1 a2 a3⟩) (λ o Q Z h=>by obtain⟨b,L,n,wr,g,l,e,_⟩:=h;rw[e];rfl) (λ o Q Z h=>by obtain⟨b,L,n,wr,g,l,e,⟨x,y,w,eb,_⟩,_⟩:=h;rw[e,eb];rfl) (λ _ _ _ _ _ _ _ hr=>⟨_,(Aa (An 3 qc4.nd<|qb4<|v2 (At qb0) Ak (vnm 1) Ae)<|Aa (An 4 qc4.nd<|qa5<|Bs qa6)<|Aa (sforV Nk T.Co (qb4<|v2 (At qb0) Ak (vnm 1) Ae) (Ek (n:=2) rfl<|qm1 (A7 5 qc4.nd)<|qm1 (A7 6 qc4.nd) Ej)<|Aj<|Bm<|Db 4 qt3 Nn No Np qd2<|vaV (Hs<|vaV (qb4<|vnm 5)<|vaV (e2 (Am qh4) qh3 (qa5<|v2 (Am ql1) ql0 (vnm 6)<|vnm 3)<|e2n 3 (Am qy5) qy4<|Ah T.d35 (qb6 T) qa1 (rm hr)<|vaN 0<|vaV (qa5 Ae) Ab) Ab) Ab)<|Aa (scN (NY:=["_law_key", "_law_number"]) (src:=[none,none]) 7 4 qc4.nd<|blk (λ av C s0 H0 ex=>(Ek (n:=2) rfl<|qm1 (A7 0<|show (["_law_key", "_law_number"]:List Str).Nodup by decide +kernel)<|qm1 (A7 1<|show (["_law_key", "_law_number"]:List Str).Nodup by decide +kernel) Ej)) (λ av C s0 H0 ex=>Em) (λ av C s0 H0 ex=>(qb4<|vnm 0)))<|Aa (Ge Nk (eslN 2<|Ah T.d35 (qb6 T) qa1 (rm hr)<|vaN 0<|vaV (qa5 Ae) Ab) (A7 5 qc4.nd)<|Aj<|sif (q2 (Aq qo9 (by with_unfolding_all rfl)) Ey (vnm 5)<|vnm 7) (Aj<|Bm<|Db 4 qt3 Nn No Np qd2<|vaV (qa5<|B6<|qa2 (vnm 5) (qa2 (v2 (Am ql1) ql0 (vnm 5)<|vnm 3) qa6 rfl) rfl) Ab) Ax)<|Aj<|Au<|emv 4),λ o Q Z h=>?_⟩);obtain⟨b,L,n,wr,g,l,rfl,B,n1,n2,G,a0,hk,⟨tt,X⟩,q⟩:=h;have a4:=G.len;refine Av [b,Af n wr g,.l true (Oo l),.u,.u,.u,.u,.u] rfl ?_;refine qb5 [b,Af n wr g,.l true (Oo l),.int n,.u,.u,.u,.u] (λ K J=>qw9 (d:=.int n) rfl rfl J) ?_;refine qb5 [b,Af n wr g,.l true (Oo l),.int n,.l false (Oq []),.u,.u,.u] (λ K J=>qu1 rfl J) ?_;refine qc1 (λ o=>∃ b f s r,o=(qd0 n wr g l f b s r .u)/\Oz L b/\f.map (·.1)=g.reverse.map (·.1)/\∀ p∈f,Ap p.2/\p.2 % n=qb3 n g p.1) (λ K J=>?_) ?_
 . refine ql2 (d:=.l true (Oq g)) rfl rfl (qa0 (a:=Oq g) rfl ⟨qz2 g,?_⟩)
   rw[show (Oq g).reverse=Oq g.reverse from List.map_reverse.symm];refine qd4 (λ i o=>∃ b f s r,o=(qd0 n wr g l f b s r .u)/\Oz L b/\f.map (·.1)=(g.reverse.take i).map (·.1)/\∀ p∈f,Ap p.2/\p.2 % n=qb3 n g p.1) _ 0 _ ⟨b,[],_,_,rfl,B,rfl,nofun⟩ ?_ ?_
   . rintro i y M o ⟨b,f,s,r,rfl,B,H,I⟩ K2 A
     rw[zA9] at H A;obtain⟨⟨k,m⟩,O,rfl⟩:∃ q,g.reverse[i]? = some q/\y=.q [.int q.1,.int q.2]:=by
       unfold Oq at M;rw[zBe] at M;obtain⟨q,u,N⟩:=zAj.mp M;exact⟨q,u,N.symm⟩
     have R:(k,m)∈g:=List.mem_reverse.mp (zB1 O);have a5:f.length<=64:=by have:=congrArg Kx H;rw[zA8,zA8,zB0,zC6] at this;lia
     refine qp6 (Av (qd0 n wr g l f b (.int k) (.int m) .u) rfl ?_);refine qn8 (qae8 (ys:=Oq f) rfl<|qar9<|qc6 (y:=.int k) rfl rfl<|qc7<|qH6 (x:=.int (m % n)) (Ag rfl rfl<|Dp (by lia)) ⟨rfl,qc2 (ds:=[b,Af n wr g,.l true (Oo l),.int n,.l false (Oq f),.int k,.int m,.u]) (m:=9) rfl B rfl (by decide) (by decide) λ v b Y v1 B=>?_⟩);refine qa0 (a:=D.int (n * v)) (show Gm (.int n) (.int v)=_ from mulL (qN8 (by lia) (by lia))) (qa0 (a:=D.int (m % n+n * v)) rfl<|qb7 ⟨lt2,qb7<|qa0 (a:=Oq f) rfl<|qa0 (a:=(Oq<|f++[(k,m % n+n * v)],D.non)) ?_<|A _ ⟨b,_,_,_,rfl,B,?_,?_⟩⟩)
     . rw[<- qad3]
       exact if_pos (by rw[qJ8];unfold big;lia)
     . rw[zBf,H,zBj,O,zBf];rfl
     intro p h;rcases zAa.mp h with h | h
     . exact I p h
     rw[zAl.mp h];have u:=zCk m (show n≠0 by lia);have N:=zC0 m (show 0 < n by lia);have V:0<=n * v:=Int.mul_nonneg (by lia) Y;have W:n * v<=64 * 9:=Int.mul_le_mul n2 (by lia) Y (by decide);refine⟨⟨by lia,by lia⟩,?_⟩;show (m % n+n * v) % n=qb3 n g k;rw[qah8 G.nd R,Int.add_mul_emod_self_left,Int.emod_emod_of_dvd _ (Int.dvd_refl n)]
   rintro o ⟨b,f,s,r,rfl,B,H,I⟩;rw[zA9,qJ8,zCc] at H;exact J _ ⟨b,f,s,r,rfl,B,H,I⟩
 rintro o ⟨b,c,s,r,rfl,B,H,I⟩;have a6:c.length=g.length:=by have:=congrArg Kx H;rwa[zA8,zA8,zC6] at this
 refine qb5 [b,Af n wr g,.l true (Oo l),.int n,.l false (Oq c),s,r,kL (c.map Prod.fst)] (λ K J=>qf4<|qa0 (a:=D.l false (Oq c)) rfl<|qa0 (a:=Oq c) rfl ⟨qz2 c,qaN6 (by lia) λ _ _=>J⟩) ?_;have mem0:∀ k,k∈c.map (·.1)↔k∈l.take tt:=λ k=>by rw[H,Mo,List.mem_reverse,X]
 have a7:(c.map (·.1)).Nodup:=by rw[H,Mo];exact List.pairwise_reverse.mpr (G.nd.imp Ne.symm)
 refine qc1 (λ o=>∃ b f s r,o=(qd0 n wr g l f b s r<|kL<|c.map Prod.fst)/\Oz L b/\∃ j,j<=2/\f.map (·.1)=c.map (·.1)++(l.take j).filter (λ k=>!decide (k∈c.map (·.1)))/\∀ p∈f,Ap p.2/\p.2 % n=qb3 n g p.1) (λ K J=>?_) ?_
 . refine⟨rfl,qc2 (ds:=[b,Af n wr g,.l true (Oo l),.int n,.l false (Oq c),s,r,kL (c.map Prod.fst)]) (m:=3) rfl B rfl (by decide) (by decide) λ v b Y v1 B=>qa0 (a:=v) rfl<|qa0 (qaC8 (z:=true) Y)<|qa0 (a:=Oo (l.take v.toNat)) rfl ⟨qe5 _,?_⟩⟩
   refine qd4 (λ i o=>∃ b f s r,o=(qd0 n wr g l f b s r<|kL<|c.map Prod.fst)/\Oz L b/\f.map (·.1)=c.map (·.1)++(((l.take v.toNat).take i).filter λ k=>!decide (k∈c.map (·.1)))/\∀ p∈f,Ap p.2/\p.2 % n=qb3 n g p.1) _ 0 _ ⟨b,c,_,_,rfl,B,by rw[L7,Ly,zAd],I⟩ ?_ ?_
   . rintro i y M o ⟨b,f,s,r,rfl,B,E,I⟩ K2 A
     rw[zA9] at E A;obtain⟨k,O,rfl⟩:=qK0 M;have b0:Ap k:=hk k (zCh<|zB1 O);have a8:=Ky (λ k=>!decide (k∈c.map (·.1))) ((l.take v.toNat).take i);have a5:f.length<=100:=by
       have:=congrArg Kx E
       rw[zAe,zA8,zA8] at this;rw[zB0,zB0] at a8;lia
     refine qk6 (Av (qd0 n wr g l f b (.int k) r<|kL<|c.map Prod.fst) rfl ?_);refine if_v (b:=!decide (k∈c.map (·.1))) (Ag rfl rfl qae5) (λ h=>?_) λ h=>A _ ⟨b,f,_,_,rfl,B,?_,I⟩
     . refine qn8 (qL7 (ys:=Oq f) (d:=.q [.int k,.int (k % n)]) rfl (qaG0 rfl (Ag rfl rfl<|Dp (by lia)) rfl rfl) (by rw[qJ8];unfold big;lia) ?_)
       rw[qad3];refine A _ ⟨b,_,_,_,rfl,B,?_,λ p t=>?_⟩
       . rw[zBf,E,zBj,O,Lj,zAr]
         show _++(_++[k])=_++(_++[k].filter _)
         rw[K4,if_pos h,Ly]
       rcases zAa.mp t with u | u
       . exact I p u
       rw[zAl.mp u];have u:=zCk k (show n≠0 by lia);have N:=zC0 k (show 0 < n by lia);refine⟨⟨u,by show k % n<=_;lia⟩,?_⟩;show k % n % n=qb3 n g k;rw[qG0,Int.emod_emod_of_dvd _ (Int.dvd_refl n)];intro z;rw[X] at z;rw[zAb ((mem0 k).mpr z)] at h;cases h
     rw[E,zBj,O,Lj];show _++_=_++(_++[k].filter _)
     rw[K4,if_neg (by rw[h];decide),Ly,zAd]
   rintro o ⟨b,f,s,r,rfl,B,E,I⟩;rw[zA9,qf8,zCc] at E;exact J _ ⟨b,f,s,r,rfl,B,v.toNat,by lia,E,I⟩
 rintro o ⟨b,f,b1,b2,rfl,B,j,hj,E,S⟩;have U:(f.map (·.1)).Nodup:=by
   rw[E];exact zBv.mpr ⟨a7,(a0.sublist<|zBm _ _).filter _,λ x hx y M e=>by
     have h:=(zB6.mp M).2;rw[<- e,zAb hx] at h;cases h⟩
 refine q b f B ⟨?_,U,λ p t=>⟨?_,(S p t).1⟩⟩ λ k=>?_
 . have u:=congrArg Kx E
   rw[zAe,zA8,zA8,a6] at u;by_cases N:2<=tt
   . rw[List.filter_eq_nil_iff.mpr λ x hx=>by
       rw[zAb ((mem0 x).mpr ((List.take_prefix_take_left (by lia)).subset hx))];decide] at u
     show f.length<=64;simpa using (show f.length<=64 by rw[u];simpa using a4)
   have V:=Ky (λ k=>!decide (k∈c.map (·.1))) (l.take j);have W:=congrArg Kx X;rw[zA8,zB0] at W;rw[zB0] at V;show f.length<=64;lia
 . have:p.1∈f.map (·.1):=Lf t
   rw[E,zAa] at this;rcases this with h | h
   . exact hk _ (zCh ((mem0 _).mp h))
   exact hk _ (zCh (zB6.mp h).1)
 by_cases h:k∈f.map (·.1)
 . obtain⟨p,t,rfl⟩:=zB9.mp h
   rw[qah8 U (show (p.1,p.2)∈f from t)];exact(S p t).2
 rw[qG0 h,qG0];rw[X];intro z;refine h ?_;rw[E];exact Kz _ ((mem0 k).mpr z)
theorem qT3:qa8 ["_law_bag_here", "_law_plan", "_law_homes", "_law_keys", "_law_made", "_law_row_here", "_law_key"] ["_law_bag_here", "_law_plan", "_law_homes", "_law_keys"] (qa3 qay1):=by walk_at "s"
def qaH1(C CP:γ):VSp:=λ ds Q _=>∃ b ns n wr ps z a y S,ds=[b,Af n wr ps,.l z (Oq a),.l y (Oo S)]/\Oz ns b/\1<=n/\n<=64/\(ps.map (·.1)).Nodup/\qM1 a/\Om n a=Om n ps/\S.Nodup/\(∀ x∈S,Ap x)/\NCd n wr ps S /\
 ∀ c g dn,Oz ns c->Kept n.toNat wr (Om n ps) g S->Q (Al false C CP n wr a g dn) [c,Af n wr ps,.l z (Oq a),.l y (Oo S)]
theorem qat8(T:Txt K mg a):VFn P w K mg base 12 a.f46 a.d46 ["_law_bag_here", "_law_plan", "_law_homes", "_law_keys"] (qaH1 a.C4 a.C3):=by
 refine VFn.mk' T.d46.F qT3 (wOf [true,true,true,true]) (λ l Q Q' H O R _ h=>by obtain⟨b,G,n,wr,f,z,d,y,S,e,U,V,W,X,Y,Z,h7,h8,h9,q⟩:=h;exact⟨b,G,n,wr,f,z,d,y,S,e,U,V,W,X,Y,Z,h7,h8,h9,λ b' g j a1 a2=>R _ _<|q b' g j a1 a2⟩) (λ l Q H h=>by obtain⟨b,G,n,wr,f,z,d,y,S,e,_⟩:=h;rw[e];rfl) (λ l Q H h=>by obtain⟨b,G,n,wr,f,z,d,y,S,e,⟨x,y',w,eb,_⟩,_⟩:=h;rw[e,eb];rfl) (λ _ _ _ _ _ _ _ m=>⟨_,(Aa (An 4 qT3.nd<|efzV<|emake T.C5 T.D3 T.d7 (qQ2 T) qa1 (rm m)<|vaV (qb4<|v2 (At qb0) Ak (vnm 1) Ae)<|vaV (qb4<|v2 (At qb0) Ak (vnm 1) Ae)<|vaN 2 Ab)<|Aa (sif (q2v (A8 (qj3 m.u64)<|qb1 _) (Aq (qj3 m.u64)<|qb1 _) Bk (Ah T.d35 (qb6 T) qa1 (rm m)<|vaN 0<|vaV (qa5 Ae) Ab) Ae) (Aj<|Au<|qaE0 T.C6 T.Cu T.d21 (qm5 T) qa1 (rm m)<|vaN 4<|vaV (Ah T.d40 (qq3 T) qa1 (rm m)<|vaN 1<|vaN 3 Ab) Ab) Ax)<|Aa (An 5 qT3.nd<|qaY1 (ndv:=[]) T.C6 T.Cu T.d21.bn (qm5 T) qa1 (rm m)<|vaN 4 Ab)<|Aa (sforP Nk (vpn 3) (A7 6 qT3.nd)<|Aj<|Bm<|qr1 5 T.d26 T.C6.cl (qae4 T) qa1 (rm m)<|vaN 6 Ab)<|Aj<|Au<|emv 5),λ l Q H h=>?_⟩);obtain⟨b,G,n,wr,f,z,d,y,S,rfl,B,o,s,nd,GP,t,u,I,J,q⟩:=h;have lS:=qZ3 o J;refine Av [b,Af n wr f,.l z (Oq d),.l y (Oo S),.u,.u,.u] rfl ?_;refine qb5 [b,Af n wr f,.l z (Oq d),.l y (Oo S),Ad true a.C3 n wr d,.u,.u] (λ K A=>qf4<|Hi<|qU0<|qc6 (y:=.int n) rfl rfl<|qc6 (y:=.bl wr) rfl rfl<|qb8 (x:=.l z (Oq d)) rfl<|qb7<|qa0 (a:=D.l z (Oq d)) rfl ⟨n,wr,z,d,rfl,o,s,GP,rfl,qa0 (a:=Ad false a.C3 n wr d) rfl<|qa0 (a:=[b,Af n wr f,.l z (Oq d),.l y (Oo S),.u,.u,.u]) rfl ?_⟩) ?_
 . rw[qav2]
   exact A
 refine qah6 (qI4<|qc2 (ds:=[b,Af n wr f,.l z (Oq d),.l y (Oo S),Ad true a.C3 n wr d,.u,.u]) rfl B rfl (by decide) (by decide) λ v b v0 v1 B=>qa0 (a:=D.bl (decide (v=0))) rfl<|qa0 (a:=decide (v=0)) rfl<|ite_b (λ _=>?_) λ _=>?_)
 . refine qi3 (qU0<|qb8 (x:=Ad true a.C3 n wr d) rfl<|qc7<|qar2 (x:=Af n wr f) (y:=.l y (Oo S)) rfl rfl rfl ⟨n,wr,f,y,S,rfl,o,s,nd,u,by lia,λ ⟨q,c⟩=>absurd c<|J q,λ _ g Kg=>qa0 (a:=[b,Af n wr f,.l z (Oq d),.l y (Oo S),Ad true a.C3 n wr d,.u,.u]) rfl<|qb7<|qa0 (a:=Ad true a.C3 n wr d) rfl ⟨n,wr,d,_,g,S,rfl,o,s,I,by rw[t];exact Kg,.inr ⟨false,rfl⟩,rfl,qa0 (a:=rA a n wr d g []) rfl<|qa0 (a:=[b,Af n wr f,.l z (Oq d),.l y (Oo S),Ad true a.C3 n wr d,.u,.u]) rfl<|q b g [] B Kg⟩⟩)
 have K0:Kept n.toNat wr (Om n d) (λ _=>none) []:=Kept.none (by lia) (Ex o);refine qb5 [b,Af n wr f,.l z (Oq d),.l y (Oo S),Ad true a.C3 n wr d,rA a n wr d (λ _=>none) [],.u] (λ K A=>qf4<|qb8 (x:=Ad true a.C3 n wr d) rfl<|qb7<|qa0 (a:=Ad true a.C3 n wr d) rfl ⟨n,wr,d,.non,λ _=>none,[],rfl,o,s,nofun,K0,.inl ⟨rfl,rfl⟩,rfl,A⟩) ?_;refine qc1 (λ l=>∃ g j r,l=[b,Af n wr f,.l z (Oq d),.l y (Oo S),Ad true a.C3 n wr d,rA a n wr d g j,r]/\Kept n.toNat wr (Om n f) g S) (λ K A=>?_) ?_
 . refine qa0 (a:=(3,[])) rfl (qa0 (a:=D.l y (Oo S)) rfl<|qa0 (a:=Oo S) rfl ⟨qe5 S,λ w=>?_⟩)
   refine qd4 (λ i l=>∃ g j r,l=[b,Af n wr f,.l z (Oq d),.hole w,Ad true a.C3 n wr d,rA a n wr d g j,r]/\Kept n.toNat wr (Om n f) g (S.take i)/\j.length=i) _ 0 _ ⟨_,[],_,rfl,by rw[<- t];exact K0,rfl⟩ ?_ ?_
   . rintro i y' hy l ⟨g,j,r,rfl,K1,L⟩ K2 C
     rw[zA9] at K1 L C;obtain⟨k,E,rfl⟩:=qK0 hy;have a0:=(zA4.mp E).1;have M:=zB1 E;refine qk6 (qn8<|qZ7 (p:=rA a n wr d g j) rfl (qj5 rfl)<|qb8 (x:=.int k) rfl<|qb7<|qa0 (a:=D.int k) rfl<|qa0 (a:=rA a n wr d g j) rfl ⟨n,wr,d,g,j,S.take i,k,rfl,o,s,I k M,λ x hx=>I x<|zCh hx,by rw[t];exact K1,qy6 u E,λ q c=>?_,by lia,λ came N K'=>?_⟩)
     . rw[<- ql3 E,t] at c
       exact J q (c.mono<|zBm _ _)
     rw[<- ql3 E,t] at K';exact qa0 (a:=[b,Af n wr f,.l z (Oq d),.hole w,Ad true a.C3 n wr d,rA a n wr d N (j++[D.q [.str "put",.int k]]),.int k]) rfl (C _ ⟨N,_,_,rfl,K',by rw[zAe,L];rfl⟩)
   rintro l ⟨g,j,r,rfl,K1,L⟩;rw[zA9,qf8,zCc] at K1;exact qa0 (qav9 rfl) (A _ ⟨g,j,r,rfl,K1⟩)
 rintro l ⟨g,j,r,rfl,K1⟩;exact qi3 (mv_to rfl<|q b g j B K1)
theorem qal9:qa8 ["_law_found"] ["_law_found"] (qa3 qO9):=by walk_at "s"
def qal1:VSp:=Ay λ ds d=>∃ x t,ds=[x]/\x.kind=some t/\d=.bl (Fa t "int" && !(Fa t "bool"))
theorem qan0(T:Txt K mg a):VFn P w K mg base 1 a.f33 a.d33 ["_law_found"] qal1:=by
 refine VFn.mk2 T.d33.F qal9 (wOf [true]) qb2 (by walk_at "l") (λ _ _ _ _ _ _ _ f=>⟨_,(Aj<|Au<|qa5<|vand (vbi qg7 qv8.ops T.C8<|qa2 (vnm 0) (qa2 (vty "int" T.Cw) qa6 rfl) rfl)<|Hr<|vnot<|vbi qg7 qv8.ops T.C8<|qa2 (vnm 0) (qa2 (vty "bool" T.Ct) qa6 rfl) rfl),λ g Q i h=>?_⟩);obtain⟨d,⟨x,t,rfl,b,rfl⟩,q⟩:=h;refine Av [x] rfl ?_;have c:∀ n:String,Go n=true->Ba (fx2 gIsi) (A6 (rdN 0)<|A6 (kC<|D.ty n) λ _=>some []) [x]=some (.bl<|Fa t n):=λ n e=>by
   unfold Ba A6;rw[rd0 (ql9 b)];show (if Go n=true then x.kind.map λ t=>D.bl (Fa t n) else none)=_;rw[if_pos e,b];rfl
 exact qg9 _ (qai6 (c "int" rfl)<|A4 (c "bool" rfl) rfl) q
theorem qas3:qa8 ["_law_plan", "_law_key", "_law_room", "_law_on"] ["_law_plan", "_law_key", "_law_room"] (qa3 qay2):=by walk_at "s"
def qaH2:VSp:=Ay λ ds d=>∃ n wr ps k r,ds=[Af n wr ps,.int k,.int r]/\1<=n/\(ps.map (·.1)).Nodup/\d=E8 (A5 n wr ps k r)
theorem qat9(T:Txt K mg a):VFn P w K mg base 2 a.f37 a.d37 ["_law_plan", "_law_key", "_law_room"] qaH2:=by
 refine VFn.mk2 T.d37.F qas3 (wOf [true,true,true]) qb2 (by walk_at "l") (λ _ _ _ _ _ _ _ e=>⟨_,(Aa (An 3 qas3.nd<|e2n 2 (Am qt0) qs8<|Ah T.d36 (qQ3 T) qa1 (rm e)<|vaN 0<|vaN 1 Ab)<|Aa (sif (tv<|v2 (At qb0) Ak (vnm 0) Ae) (Aj<|Au<|qa5<|v2 (Am ql1) ql0 (vnm 3)<|v2 (At qb0) Ak (vnm 0) Ae) Ax)<|Aj<|Au<|eif (q2 (Aq Fv<|qb1 _) G5 (vnm 3) Ae) (qb4<|vnm 3)<|qa5 Bc),λ j Q m h=>?_⟩);obtain⟨d,⟨n,wr,c,k,r,rfl,f,g,rfl⟩,q⟩:=h;refine Av [Af n wr c,.int k,.int r,.u] rfl ?_;refine qb5 [Af n wr c,.int k,.int r,.int (r - qb3 n c k)] (λ K i=>⟨rfl,qC1 (x:=Af n wr c) (y:=.int k) (d:=.int (qb3 n c k)) rfl rfl rfl ⟨n,wr,c,k,rfl,f,g,rfl⟩ rfl<|qa0 (a:=D.int (r - qb3 n c k)) rfl i⟩) ?_;unfold A5 at q;refine qm0 wr rfl (λ h=>?_) (λ h=>?_)
 . subst h
   exact qg9 (.int ((r - qb3 n c k) % n)) (Ag rfl (y:=.int n) rfl<|Dp (by lia)) q
 subst h;refine qi3 (Fi (b:=decide (0<=r - qb3 n c k)) rfl (λ h=>?_) (λ h=>?_))
 . rw[if_neg (by decide),if_pos (zAc h)] at q
   exact⟨rfl,q⟩
 rw[if_neg (by decide),if_neg (zBg h)] at q;exact q
theorem qE3:qa8 ["_law_plan", "_law_room", "_law_one", "_law_other", "_law_first", "_law_second"] ["_law_plan", "_law_room", "_law_one", "_law_other"] (qa3 qP2):=by walk_at "s"
theorem gt2(f g x y:Int):HT.lexGt [f,0 - x] [g,0 - y]=(decide (g < f)||decide (f=g)&&decide (x < y)):=by
 rw[HT.qy9,HT.qy9,HT.qu7];by_cases h:f=g
 . subst h
   rw[if_pos rfl,zAv (Int.lt_irrefl f),zAb rfl,Bool.false_or,Bool.true_and];by_cases a:0 - x=0 - y
   . rw[if_pos a,zAv (by lia)]
   rw[if_neg a];exact zCd.mpr (by lia)
 rw[if_neg h,zAv h,Bool.false_and,Bool.or_false]
def qal4:VSp:=Ay λ ds d=>∃ n wr ps r x y,ds=[Af n wr ps,.int r,.int x,.int y]/\1<=n/\(ps.map (·.1)).Nodup/\d=.bl (qf2 n wr ps r x y)
theorem qan3(T:Txt K mg a):VFn P w K mg base 3 a.f38 a.d38 ["_law_plan", "_law_room", "_law_one", "_law_other"] qal4:=by
 refine VFn.mk2 T.d38.F qE3 (wOf [true,true,true,true]) qb2 (by walk_at "l") (λ _ _ _ _ _ _ _ i=>⟨_,(Aa (An 4 qE3.nd<|Ah T.d37 (qat9 T) qa1 (rm i)<|vaN 0<|vaN 2<|vaN 1 Ab)<|Aa (An 5 qE3.nd<|Ah T.d37 (qat9 T) qa1 (rm i)<|vaN 0<|vaN 3<|vaN 1 Ab)<|Aa (sif (tor (q2 (Aq Da<|qb1 _) Di (vnm 4) Bc)<|Gp<|q2 (Aq (qj3 i.u64)<|qb1 _) Bk (vnm 2)<|vnm 3).te (Aj<|Au<|qa5 vbl) Ax)<|Aj<|Au<|qa5<|vor (v2 (A8 Da<|qb1 _) Di (vnm 5) Bc)<|Hr<|v2 (A8 (qaU9 i.units0)<|qb1 _) qaU0 (B6<|qa2 (vnm 4) (qa2 (v2 (Am qt0) qs8 Ae<|vnm 2) qa6 rfl) rfl)<|B6<|qa2 (vnm 5) (qa2 (v2 (Am qt0) qs8 Ae<|vnm 3) qa6 rfl) rfl),λ s Q t h=>?_⟩);obtain⟨d,⟨n,wr,b,r,x,y,rfl,m,o,rfl⟩,q⟩:=h;refine Av [Af n wr b,.int r,.int x,.int y,.u,.u] rfl ?_;refine qb5 [Af n wr b,.int r,.int x,.int y,E8 (A5 n wr b x r),.u] (λ K j=>Jh (x:=Af n wr b) (y:=.int x) (w:=.int r) rfl rfl rfl rfl rfl ⟨n,wr,b,x,r,rfl,m,o,rfl⟩ rfl j) ?_;refine qb5 [Af n wr b,.int r,.int x,.int y,E8 (A5 n wr b x r),E8 (A5 n wr b y r)] (λ K j=>Jh (x:=Af n wr b) (y:=.int y) (w:=.int r) rfl rfl rfl rfl rfl ⟨n,wr,b,y,r,rfl,m,o,rfl⟩ rfl j) ?_;unfold qf2 at q;cases k:A5 n wr b x r with
 | none =>
   rw[k] at q;exact qh2 true (λ Q q=>q) (λ _=>q) nofun
 | some f =>
   rw[k] at q;by_cases c:x=y
   . subst c
     rw[k] at q ⊢;refine qh2 true (λ Q q=>qn2 false true (λ Q q=>q) (λ _ Q q=>qe6 (Ag rfl rfl<|show some (D.bl<|decide (x=x))=some (.bl true) by rw[zAb rfl]) q) q) (λ _=>?_) nofun;have e:(decide (f < f)||decide (f=f)&&decide (x < x))=false:=by simp
     exact e ▸ (show Q (.bl<|decide (f < f)||decide (f=f)&&decide (x < x)) _ from q)
   refine qh2 false (λ Q q=>qn2 false false (λ Q q=>q) (λ _ Q q=>qe6 (Ag rfl rfl<|show some (D.bl<|decide (x=y))=some (.bl false) by rw[zAv c]) q) q) nofun λ _=>?_
   cases p:A5 n wr b y r with
   | none =>
     rw[p] at q;exact qg9 _ rfl q
   | some g =>
     rw[p] at q;refine qg9 (.bl<|HT.lexGt [f,0 - x] [g,0 - y]) (qaP1 (a:=false) rfl rfl) ?_;rw[gt2];exact q
theorem qC6:qa8 ["_law_first", "_law_second", "_law_room"] ["_law_first", "_law_second"] (qa3 qy0):=by walk_at "s"
def qY3:VSp:=Ay λ ds d=>∃ z N g y h,ds=[.l z (Op N g),.l y (Op N h)]/\N<=64/\d=partD N g h
theorem qZ2(T:Txt K mg a):VFn P w K mg base 1 a.f47 a.d47 ["_law_first", "_law_second"] qY3:=by
 refine VFn.mk2 T.d47.F qC6 (wOf [true,true]) qb2 (by walk_at "l") (λ _ _ _ _ _ _ _ t=>⟨_,(Aa (qO0 Nk T.Ch (Ev<|vaV (qa5<|vbi qA0 qz9.ops T.Cj<|qa2 (vnm 0) qa6 rfl) Ab) (A7 2 qC6.nd)<|Aj<|sif (q2 (Aq (qE9 t.u64)<|qb1 _) Ef (v2 (At qb0) Ak (vnm 0)<|vnm 2)<|v2 (At qb0) Ak (vnm 1)<|vnm 2) (Aj<|Au<|qa5<|B6<|qa2 (vnm 2) (qa2 (v2 (At qb0) Ak (vnm 0)<|vnm 2) (qa2 (v2 (At qb0) Ak (vnm 1)<|vnm 2) qa6 rfl) rfl) rfl) Ax)<|Aj<|Au<|qa5 Bc),λ c Q B h=>?_⟩);obtain⟨d,⟨z,N,g,y,h,rfl,C,rfl⟩,q⟩:=h;refine Av [.l z (Op N g),.l y (Op N h),.u] rfl ?_;refine qc1 (λ c=>∃ e,c=[.l z (Op N g),.l y (Op N h),e]/\∀ j,j < N->g j=h j) (λ K u=>?_) ?_
 . refine qG2 (n:=(N:Nat)) (by rw[qt4 (z:=z) (ys:=Op N g) rfl,qi2]) (qZ6 (by lia) (by lia)) ?_
   refine qd4 (λ i c=>∃ e,c=[.l z (Op N g),.l y (Op N h),e]/\∀ j,j < i->g j=h j) _ 0 _ ⟨_,rfl,nofun⟩ ?_ ?_
   . rintro i D v c ⟨e,rfl,f⟩ K2 k
     obtain⟨m,rfl⟩:=qP4 v;rw[zC3] at m;rw[zA9] at f k;have r:f2 gIx (rdN 0) (rdN 2) [.l z (Op N g),.l y (Op N h),.int (i:Nat)]=some (Aw<|g i):=Ag rfl rfl (Gg m);have s:f2 gIx (rdN 1) (rdN 2) [.l z (Op N g),.l y (Op N h),.int (i:Nat)]=some (Aw<|h i):=Ag rfl rfl (Gg m);refine qk6 (Av [.l z (Op N g),.l y (Op N h),.int (i:Nat)] rfl ?_);refine if_v (b:=decide (g i≠h i)) (Ag r s qaM1) (λ o=>?_) λ p=>?_
     . unfold partD at q
       rw[qI8 m (zAc o) f] at q;refine qi3 (qq4 (d:=.q [.int (i:Nat),Aw (g i),Aw (h i)]) ?_ q);unfold Ba A6;rw[r,s];exact qi4 ⟨by show (true&&((Aw<|g i).imm&&((Aw<|h i).imm&&true)))=true;rw[qv1,qv1];rfl,lt3⟩
     refine k _ ⟨_,rfl,λ j x=>?_⟩;rcases zCi.mp x with A | rfl
     . exact f j A
     exact Decidable.not_not.mp (zBg p)
   rintro c ⟨e,rfl,f⟩;refine u _ ⟨e,rfl,λ j h=>f j ?_⟩;rw[zA9,qU3,zC3];exact h
 rintro c ⟨e,rfl,f⟩;unfold partD at q;rw[qy2 f] at q;exact qg9 .non rfl q
theorem qg1:qa8 ["_law_plan", "_law_rows", "_law_sides", "_law_found", "_law_room", "_law_here", "_law_there", "_law_ahead_here", "_law_due", "_law_turn", "_law_alone"] ["_law_plan", "_law_rows", "_law_sides"] (qa3 qP0):=by walk_at "s"
theorem qT4(KP:Kept N wr hm g S):(Bh N g k).isSome=decide (k∈S):=by
 cases h:Bh N g k with
 | some i =>
   have b:=List.findIdx?_eq_some_iff_getElem.mp h;obtain⟨a,e,_⟩:=b;rw[List.getElem_range] at e;rw[zB4] at a;exact(zAb ((KP.h.2 k).mpr ⟨i,a,zAc e⟩)).symm
 | none =>
   refine(zAv λ z=>?_).symm;obtain⟨i,a,e⟩:=(KP.h.2 k).mp z
   have:=List.findIdx?_eq_none_iff.mp h i (zAn.mpr a)
   rw[zAb e] at this;cases this
theorem qau3{N:Nat}{hm:Int->Nat}{g:Nat->Option Int}{S:List Int}(KP:Kept N false hm g S):∀(d r a:Nat)(k:Int),a < N->g a=some k->hm k<=r->r+d+1=a->∃ x,g r=some x/\Dv hm x k
 | d,r,a,k,hr,hg,hh,e=>by
   have j:=dor N (hm k) a;obtain⟨x,b,c⟩:=KP.o.ord a k hr hg (by lia);have p1:=por N a;have h:prev N a=a - 1:=by lia
   rw[h] at b c;have l:=KP.ln rfl (a - 1) x (by lia) b;have m:=dor N (hm x) (a - 1);have n:=dor N (hm k) (a - 1);have f:Dv hm x k:=by
     unfold ahead at c;unfold Dv;lia
   cases d with
   | zero=>exact⟨x,by rw[show r=a - 1 by lia];exact b,f⟩
   | succ d =>
     obtain⟨y,i,p⟩:=qau3 KP d r (a - 1) x (by lia) b (by unfold Dv at f;lia) (by lia);exact⟨y,i,by unfold Dv at *;lia⟩
theorem qw1(A:Kept N false hm g S)(B:Kept N false hm h T)(d:r < N)(l:∀ j,j < r->g j=h j)(f:g r=some k)(i:∀ x,h r=some x->x≠k/\¬ Dv hm x k):¬ k∈T:=λ z=>by
 obtain⟨a,b,e⟩:=(B.h.2 k).mp z;rcases Nat.lt_trichotomy a r with c | c | c
 . have:=A.o.inj a r k (by lia) d (by rw[l a c];exact e) f
   lia
 . subst c
   exact(i k e).1 rfl
 obtain⟨x,m,n⟩:=qau3 B (a - r - 1) r a k b e (A.ln rfl r k d f) (by lia);exact(i x m).2 n
theorem qah4(KP:Kept N wr hm g S):Hq false (.int k) (.l z<|Op N g)=some (.bl<|decide (k∈S)):=by
 show ((flats<|Op N g).bind λ a=>some<|D.bl<|if false=true then !inV (.int k) a else inV (.int k) a)=_;rw[qG3];show some (D.bl<|inV (.int k) _)=_;rw[qao6]
 have:=qT4 (k:=k) KP
 unfold Bh at this;rw[this]
theorem qaA0:Hq true (.int k) (.l z<|Op N g)=some (.bl !(Bh N g k).isSome):=by
 show ((flats<|Op N g).bind λ a=>some<|D.bl<|if true=true then !inV (.int k) a else inV (.int k) a)=_;rw[qG3];show some (D.bl !(inV (.int k) _))=_;rw[qao6];rfl
def Fk(N:Nat)(g':Nat->Option Int)(x:D):Option D:=match x with
 | .int k=>if (!(Bh N g' k).isSome)=true then some (.int k) else none
 | _=>none
theorem qaC1(N:Nat)(g g':Nat->Option Int):(Op N g).filterMap (Fk N g')=Oo (onlyL N g g'):=by
 unfold Op onlyL
 induction Ku N with
 | nil=>rfl
 | cons i l a =>
   rw[zAx,zBt,zBt];cases g i with
   | none=>exact a
   | some k =>
     by_cases h:(!(Bh N g' k).isSome)=true
     . rw[show Fk N g' (Aw<|some k)=some (D.int k) from if_pos h]
       show _::_=Oo ((k::l.filterMap g).filter _);rw[K4,if_pos h];exact congrArg _ a
     rw[show Fk N g' (Aw<|some k)=none from if_neg h];show _=Oo ((k::l.filterMap g).filter _);rw[K4,if_neg h];exact a
theorem qaD7:gEq (.l false [.l false (Op N g),.l false (Op N h)]) (.l false [.l true (Op N g),.l true (Op N h)])=some (.bl true):=by
 have e:∀ g,Dw (eqN 19) (Op N g) (Op N g)=some true:=λ g=>qm7 λ x a=>by
   rcases qam2 a with rfl | ⟨k,rfl⟩
   . rfl
   exact qz6 rfl
 show ((Dw (eqN 19) (Op N g)<|Op N g).bind λ x=>((Dw (eqN 19) (Op N h)<|Op N h).bind λ y=>(some true).bind λ z=>some<|y&&z).bind λ y=>some<|x&&y).map D.bl=_;rw[e,e];rfl
theorem qaL5:okN 21 (partD N g h)=true:=by
 unfold partD;cases Fj N g h with
 | none=>rfl
 | some i=>show (true&&(okN 20 (Aw<|g i)&&(okN 20 (Aw<|h i)&&true)))=true;cases g i<;>cases h i<;>rfl
theorem qaC7{k:Nat}{K:Ds->Prop}(h:K (((ds.set i x).set j y).set k z)):Hc 3 (qK8 (gNm i)<|qK8 (gNm j)<|qK8 (gNm k) Hb) (.q [x,y,z]) ds K:=⟨rfl,h⟩
theorem qaw2(h:te ds (λ d a=>g d a e.nx) e.xe):Eb te g e ds:=h
def qal2(C CP:γ):VSp:=Ay λ ds d=>∃ n wr ps p1 g1 a p2 g2 b K1 K2,ds=[Af n wr ps,.l false [Al true C CP n wr p1 g1 a,Al true C CP n wr p2 g2 b],.l false [.l true (Op n.toNat g1),.l true (Op n.toNat g2)]]/\1<=n/\n<=64/\(ps.map (·.1)).Nodup/\(∀ k,qb3 n p1 k=qb3 n ps k)/\(∀ k,qb3 n p2 k=qb3 n ps k)/\Kept n.toNat wr (Om n ps) g1 K1/\Kept n.toNat wr (Om n ps) g2 K2/\(∀ x∈K1,Ap x)/\(∀ x∈K2,Ap x)/\d=.bl true
abbrev qb9(n:Int)(wr:Bool)(ps:Pr)(a:Adr) (p1) (g1) (dn1) (p2) (g2) (dn2) (c d e f g h i b:D):=([Af n wr ps,.l false [Al true a.C4 a.C3 n wr p1 g1 dn1,Al true a.C4 a.C3 n wr p2 g2 dn2],.l false [.l true (Op n.toNat g1),.l true (Op n.toNat g2)],c,d,e,f,g,h,i,b]:Ds)
theorem qan1(T:Txt K mg a):VFn P w K mg base 8 a.f48 a.d48 ["_law_plan", "_law_rows", "_law_sides"] (qal2 a.C4 a.C3):=by
 refine VFn.mk2 T.d48.F qg1 (wOf [true,true,true]) qb2 (by walk_at "l") (λ _ _ _ _ _ _ _ J=>⟨_,(Aa (An 3 qg1.nd<|Ah T.d31 (qC8 T) qa1 (rm J)<|vaV (qb4<|v2 (At qb0) Ak (vnm 1) Ae)<|vaV (qb4<|v2 (At qb0) Ak (vnm 1) Ae) Ab)<|Aa (sif (q2n 3 (A8 (qE9 J.u64)<|qb1 _) (Aq (qE9 J.u64)<|qb1 _) Ef<|Ah T.d47 (qZ2 T) qa1 (rm J)<|vaV (qb4<|v2 (At qb0) Ak (vnm 2) Ae)<|vaV (qb4<|v2 (At qb0) Ak (vnm 2) Ae) Ab) (Aj<|Au<|qa5 vbl) Ax)<|Aa (sif (q2 (Aq qo8<|qb1 _) qs9 (vnm 3) Bc) (Aa (sif (tor (Bn<|tv<|vbi qg7 qv8.ops T.C8<|qa2 (vnm 3) (qa2 (vty "tuple" T.Cv) qa6 rfl) rfl)<|tor (Bn<|te<|Ah T.d33 (qan0 T) qa1 (rm J)<|vaV (qb4<|v2 (At qb0) Ak (vnm 3) Ae) Ab)<|Gp<|tv<|vbi qg7 qv8.ops T.C8<|qa2 (v2 (At qb0) Ak (vnm 3) Ae) (qa2 (vty "bool" T.Ct) qa6 rfl) rfl).te (Aj<|Au<|qa5 vbl) Ax)<|Aa (Fs (qb4<|vnm 3)<|Ek (n:=3) rfl<|qm1 (A7 4 qg1.nd)<|qm1 (A7 5 qg1.nd)<|qm1 (A7 6 qg1.nd) Ej)<|Aa (An 7 qg1.nd<|qb4<|vnm 5)<|Aa (sif (tor (q2 (Aq Da<|qb1 _) Di (vnm 5) Bc)<|Gp (F7 (q2 (Aq qo8<|qb1 _) qs9 (vnm 6) Bc)<|E2<|te<|Ah T.d38 (qan3 T) qa1 (rm J)<|vaN 0<|vaN 4<|vaN 6<|vaN 5 Ab).te).te (Aj<|An 7 qg1.nd<|qb4<|vnm 6) Ax)<|Aj<|sif (F7 (Bn<|tv<|v2 (At qb0) Ak (vnm 0) Ae)<|F7 (q2 (Aq qw3 (by with_unfolding_all rfl)) Ey (vnm 7)<|v2 (At qb0) Ak (vnm 2) Ae)<|E2<|q2 (Aq qw3 (by with_unfolding_all rfl)) Ey (vnm 7)<|v2 (At qb0) Ak (vnm 2) Ae).te (Aj<|Au<|qa5 vbl) Ax) Ax)<|Aa (scL (NY:=["_law_key", "_law_sides"]) (src:=[none,some 2]) 8 qg1.nd (qb4<|v2 (At qb0) Ak (vnm 2) Ae)<|blk (λ av C s0 H0 ex=>(A7 0<|show (["_law_key", "_law_sides"]:List Str).Nodup by decide +kernel)) (λ av C s0 H0 ex=>(En (F7 (q2 (Aq qo8<|qb1 _) qs9 (vnm 0) Bc)<|E2<|q2 (Aq qo9 (by with_unfolding_all rfl)) Ey (vnm 0)<|v2 (At qb0) Ak (vnm 1) Ae).te)) (λ av C s0 H0 ex=>(qb4<|vnm 0)))<|Aa (qO0 Nk T.Ch (Ev<|vaV (qa5 Ae) Ab) (A7 9 qg1.nd)<|Aa (An 10 qg1.nd<|Ah T.d32 (qJ1 T) qa1 (rm J)<|vaV (qb4<|v2 (At qb0) Ak (vnm 1) Ae)<|vaV (qb4<|v2 (At qb0) Ak (vnm 1) Ae) Ab)<|Aa (sif (tor (Bn<|tv<|vbi qg7 qv8.ops T.C8<|qa2 (vnm 10) (qa2 (vty "list" T.Cg) qa6 rfl) rfl)<|Gp<|q2 (Aq (qE9 J.u64)<|qb1 _) Ef (vnm 10)<|vnm 8).te (Aj<|Au<|qa5 vbl) Ax)<|Aa (Bm<|Db 10 qt3 Nn No Np qd2<|vaV (qa5 Ae) Ab)<|Aj<|Fs (qa5 Ae)<|E5 (vpn 10) Ae)<|Aj<|Au<|e2v (A8 (qj3 J.u64)<|qb1 _) Bk (Gr<|vaV (qaQ0 T.d22 T.C6.cl (qe2 T) qa1 (rm J)<|vpix (vpn 1) Ae)<|vaV (qaQ0 T.d22 T.C6.cl (qe2 T) qa1 (rm J)<|vpix (vpn 1) Ae) Ab)<|vnm 2),λ G Q xe h=>?_⟩);obtain⟨d,⟨n,wr,r,p1,g1,f,s,g2,m,K1,K2,rfl,n1,n2,nd,h1,h2,KA,KB,hA,hB,rfl⟩,q⟩:=h;have hk:∀ i k,i < n.toNat->g1 i=some k∨g2 i=some k->Ap k/\qb3 n p1 k=qb3 n s k:=λ i k H h=>⟨h.elim (λ e=>hA k ((KA.h.2 k).mpr ⟨i,H,e⟩)) λ e=>hB k ((KB.h.2 k).mpr ⟨i,H,e⟩),by rw[h1,h2]⟩
 refine Av (qb9 n wr r a p1 g1 f s g2 m .u .u .u .u .u .u .u .u) rfl ?_;refine qb5 (qb9 n wr r a p1 g1 f s g2 m (partD n.toNat g1 g2) .u .u .u .u .u .u .u) (λ K v=>qf4<|qe0<|qc6 (y:=Al true a.C4 a.C3 n wr p1 g1 f) rfl rfl<|qc6 (y:=Al true a.C4 a.C3 n wr s g2 m) rfl rfl<|qb7 ⟨_,⟨true,true,n,wr,p1,s,g1,g2,f,m,rfl,n1,n2,hk,rfl⟩,qa0 (a:=(qb9 n wr r a p1 g1 f s g2 m .u .u .u .u .u .u .u .u)) rfl v⟩) ?_;have kn:(partD n.toNat g1 g2).known=true:=by unfold partD;cases Fj n.toNat g1 g2<;>rfl
 refine qh2 false (λ Q q=>(show ttE _ _ _ _ from⟨by rw[qf3 rfl kn];rfl,qe0<|qc6 (y:=.l true (Op n.toNat g1)) rfl rfl<|qc6 (y:=.l true (Op n.toNat g2)) rfl rfl<|qb7 ⟨_,⟨true,n.toNat,g1,true,g2,rfl,by lia,rfl⟩,qa0 (a:=(qb9 n wr r a p1 g1 f s g2 m (partD n.toNat g1 g2) .u .u .u .u .u .u .u)) rfl<|qa0 (a:=D.bl false) (by rw[qf3 (d:=partD n.toNat g1 g2) rfl kn];exact qR0 qaL5)<|qa0 (a:=false) rfl q⟩⟩)) nofun λ _=>?_
 refine qc1 (λ G=>∃ L M N O,G=(qb9 n wr r a p1 g1 f s g2 m (partD n.toNat g1 g2) L M N O .u .u .u)) (λ K v=>?_) ?_
 . cases Z:Fj n.toNat g1 g2 with
   | none =>
     have e:partD n.toNat g1 g2=.non:=by unfold partD;rw[Z]
     rw[e] at v ⊢;exact if_v (b:=false) rfl nofun λ _=>v _ ⟨_,_,_,_,rfl⟩
   | some i =>
     obtain⟨U,H,hj⟩:=List.find?_range_eq_some.mp Z;have U:=zAc U;have H:=zAn.mp H;have hj:∀ j,j < i->g1 j=g2 j:=λ j h=>by
       have:=hj j h
       simpa using this
     have e:partD n.toNat g1 g2=.q [.int (i:Nat),Aw (g1 i),Aw (g2 i)]:=by unfold partD;rw[Z]
     rw[e] at v ⊢;refine if_v (b:=true) rfl (λ _=>?_) nofun;have a3:∀ o:Option Int,(Aw o).kind.map (λ t=>D.bl<|Fa t "bool")=some (.bl false):=λ o=>by cases o<;>rfl
     refine qh2 false (λ Q q=>qn2 false false (λ Q q=>qi5 (b:=true) rfl q) (λ _ Q q=>qn2 false false (λ Q q=>(show Eg _ _ _ _ from(show ttE _ _ _ _ from qe0 (qc6 (y:=.int (i:Nat)) rfl rfl<|qb7 ⟨.bl true,⟨.int (i:Nat),_,rfl,rfl,rfl⟩,qa0 (a:=(qb9 n wr r a p1 g1 f s g2 m (.q [.int (i:Nat),Aw (g1 i),Aw (g2 i)]) .u .u .u .u .u .u .u)) rfl<|qa0 (a:=true) rfl q⟩)))) (λ _ Q q=>qe6 (b:=false) (by show (if Go "bool" = true then (Aw<|g1 i).kind.map λ t=>D.bl (Fa t "bool") else none)=_;rw[if_pos (by rfl)];exact a3 _) q) q) q) nofun λ _=>?_
     refine qb5 (qb9 n wr r a p1 g1 f s g2 m (.q [.int (i:Nat),Aw (g1 i),Aw (g2 i)]) (.int (i:Nat)) (Aw<|g1 i) (Aw<|g2 i) .u .u .u .u) (λ K v=>qaw2<|ql2 (d:=.q [.int (i:Nat),Aw (g1 i),Aw (g2 i)]) rfl (by show (true&&((Aw<|g1 i).imm&&((Aw<|g2 i).imm&&true)))=true;rw[qv1,qv1];rfl)<|qaC7 v) ?_;have a4:∀{x y:Int}{g h:Nat->Option Int}{S T:List Int},Kept n.toNat wr (Om n r) g S->Kept n.toNat wr (Om n r) h T->g i=some x->h i=some y->wr=false->(qf2 n wr r (i:Nat) x y=true↔Dv (Om n r) x y):=λ{x y g h S T} A B gx Y I=>by
       have l1:=A.ln I i x H gx;have l2:=B.ln I i y H Y;rw[qw5 n1 H (λ _=>l1) (λ _=>l2)];have d1:=dor n.toNat (Om n r x) i;have d2:=dor n.toNat (Om n r y) i;unfold ahead Dv;lia
     refine qb5 (qb9 n wr r a p1 g1 f s g2 m (.q [.int (i:Nat),Aw (g1 i),Aw (g2 i)]) (.int (i:Nat)) (Aw<|g1 i) (Aw<|g2 i) (Aw<|g1 i) .u .u .u) (λ K v=>qw9 (d:=Aw (g1 i)) (qf3 rfl (by cases g1 i<;>rfl)) (qv1 _) v) ?_;refine qc1 (λ G=>∃ k,G=(qb9 n wr r a p1 g1 f s g2 m (.q [.int (i:Nat),Aw (g1 i),Aw (g2 i)]) (.int (i:Nat)) (Aw<|g1 i) (Aw<|g2 i) (.int k) .u .u .u)/\(wr=false->¬ (k∈K1/\k∈K2))) (λ K v=>?_) ?_
     . have a7:=U
       cases W:g1 i with
       | none =>
         cases V:g2 i with
         | none=>exact absurd (W.trans V.symm) U
         | some y =>
           rw[W,V] at v;refine if_of true (λ Q q=>qn2 true true (λ Q q=>qe6 (b:=true) rfl q) nofun q) (λ _=>qw9 (d:=.int y) rfl rfl<|v _ ⟨y,rfl,λ I z=>?_⟩) nofun;subst I;exact qw1 KB KA H (λ j h=>(hj j h).symm) V (λ x hx=>by rw[W] at hx;cases hx) z.1
       | some x =>
         cases V:g2 i with
         | none =>
           rw[W,V] at v;refine if_of false (λ Q q=>qn2 false false (λ Q q=>qe6 (b:=false) rfl q) (λ _ Q q=>qe7 false false (λ Q q=>qe6 (b:=false) rfl q) nofun q) q) nofun λ _=>v _ ⟨x,rfl,λ I z=>?_⟩
           subst I;exact qw1 KA KB H hj W (λ y Y=>by rw[V] at Y;cases Y) z.2
         | some y =>
           have a0:y≠x:=λ e=>U (by rw[W,V,e])
           have ah:=a4 KB KA V W;rw[W,V] at v;refine if_of (qf2 n wr r (i:Nat) y x) (λ Q q=>qn2 false (qf2 n wr r (i:Nat) y x) (λ Q q=>qe6 (b:=false) rfl q) (λ _ Q q=>qe7 true (qf2 n wr r (i:Nat) y x) (λ Q q=>qe6 (b:=true) rfl q) (λ _ Q q=>(show ttE _ _ _ _ from ?_)) q) q) (λ h=>qw9 (d:=.int y) rfl rfl<|v _ ⟨y,rfl,λ I z=>?_⟩) λ h=>v _ ⟨x,rfl,λ I z=>?_⟩
           . refine qe0 (qb8 (x:=Af n wr r) rfl<|qb8 (x:=.int (i:Nat)) rfl<|qb8 (x:=.int y) rfl<|qb8 (x:=.int x) rfl<|qb7<|qa0 (a:=D.int x) rfl<|qa0 (a:=D.int y) rfl<|qa0 (a:=D.int (i:Nat)) rfl<|qa0 (a:=Af n wr r) rfl ⟨_,⟨n,wr,r,(i:Nat),y,x,rfl,n1,nd,rfl⟩,qa0 (a:=(qb9 n wr r a p1 g1 f s g2 m (.q [.int (i:Nat),Aw (some x),Aw (some y)]) (.int (i:Nat)) (Aw<|some x) (Aw<|some y) (.int x) .u .u .u)) rfl<|qa0 (a:=qf2 n wr r (i:Nat) y x) rfl q⟩)
           . have l:=(ah I).mp h
             subst I;refine qw1 KB KA H (λ j h=>(hj j h).symm) V (λ u hu=>?_) z.1;rw[W] at hu;cases hu;exact⟨Ne.symm a0,by unfold Dv at *;lia⟩
           have l:¬ Dv (Om n r) y x:=λ e=>by rw[(ah I).mpr e] at h;cases h
           subst I;refine qw1 KA KB H hj W (λ u hu=>?_) z.2;rw[V] at hu;cases hu;exact⟨a0,l⟩
     rintro G ⟨k,rfl,a5⟩;refine if_of false (λ Q q=>?_) nofun λ _=>v _ ⟨_,_,_,_,rfl⟩
     cases wr with
     | true=>exact qe7 false false (λ Q q=>qi5 (b:=true) rfl q) nofun q
     | false =>
       refine qe7 true false (λ Q q=>qi5 (b:=false) rfl q) (λ _ Q q=>?_) q;by_cases c:k∈K1
       . exact qe7 true false (λ Q q=>qe6 (Ag rfl (Ag rfl rfl rfl) (by rw[qah4 KA,zAb c])) q) (λ _ Q q=>qe6 (Ag rfl (Ag rfl rfl rfl) (by rw[qah4 KB,zAv λ z=>a5 rfl ⟨c,z⟩])) q) q
       exact qe7 false false (λ Q q=>qe6 (Ag rfl (Ag rfl rfl rfl) (by rw[qah4 KA,zAv c])) q) nofun q
 rintro G ⟨L,M,N,O,rfl⟩;refine qb5 (qb9 n wr r a p1 g1 f s g2 m (partD n.toNat g1 g2) L M N O (kL<|onlyL n.toNat g1 g2) .u .u) (λ K v=>qf4<|ql2 (d:=.l true (Op n.toNat g1)) rfl rfl<|qa0 (a:=Op n.toNat g1) rfl ⟨qv0 _ _,?_⟩) ?_
 . refine qj9 (λ ι=>∃ d,ι=[d,.l false [.l true (Op n.toNat g1),.l true (Op n.toNat g2)]]) (Fk n.toNat g2) _ [] _ (by show 0+_ < 1000000;rw[qi2];lia) ⟨_,rfl⟩ ?_ ?_
   . rintro y Y ι a1 ⟨d,rfl⟩ R hR a2
     have this:=hR [y,.l false [.l true (Op n.toNat g1),.l true (Op n.toNat g2)]] ⟨_,rfl⟩;refine qk6 ?_;rcases qam2 Y with rfl | ⟨k,rfl⟩
     . have this:R (a1++[]) _:=this
       rw[zAd] at this;exact qe7 false false (λ Q q=>qe6 (b:=false) (Ag rfl rfl rfl) q) nofun (Hh (by decide) this)
     refine qe7 true (!(Bh n.toNat g2 k).isSome) (λ Q q=>qe6 (b:=true) (Ag rfl rfl rfl) q) (λ _ Q q=>qe6 (Ag rfl (Ag rfl rfl rfl) qaA0) q) (ite_b (λ h=>?_) λ h=>?_)
     . have e:Fk n.toNat g2 (.int k)=some (.int k):=if_pos h
       rw[e] at this;exact ql2 (d:=.int k) rfl rfl ⟨a2,this⟩
     have e:Fk n.toNat g2 (.int k)=none:=if_neg (by rw[show (!(Bh n.toNat g2 k).isSome)=false from h];decide);rw[e] at this;have this:R (a1++[]) _:=this;rw[zAd] at this;exact this
   rintro ι ⟨d,rfl⟩;rw[zB3,qaC1];exact v
 have lo:(onlyL n.toNat g1 g2).length<=64:=by
   have:=zBy g1 (Ku n.toNat)
   rw[zB4] at this;have h2:=Ky (λ k=>!(Bh n.toNat g2 k).isSome) ((Ku n.toNat).filterMap g1);unfold onlyL;lia
 refine qc1 (λ G=>∃ X E,G=(qb9 n wr r a p1 g1 f s g2 m (partD n.toNat g1 g2) L M N O (kL<|onlyL n.toNat g1 g2) X E)) (λ K v=>?_) ?_
 . refine qG2 (n:=2) rfl (by decide) ?_
   refine qd4 (λ _ G=>∃ X E,G=(qb9 n wr r a p1 g1 f s g2 m (partD n.toNat g1 g2) L M N O (kL<|onlyL n.toNat g1 g2) X E)) _ 0 _ ⟨_,_,rfl⟩ ?_ λ G ⟨X,E,e⟩=>v _ ⟨X,E,e⟩
   rintro j y Y G ⟨X,E,rfl⟩ K2' a6;obtain⟨hj,rfl⟩:=qP4 Y;refine qk6 (Av (qb9 n wr r a p1 g1 f s g2 m (partD n.toNat g1 g2) L M N O (kL<|onlyL n.toNat g1 g2) (.int (j:Nat)) E) rfl ?_);refine qb5 (qb9 n wr r a p1 g1 f s g2 m (partD n.toNat g1 g2) L M N O (kL<|onlyL n.toNat g1 g2) (.int (j:Nat))<|kL<|onlyL n.toNat g1 g2) (λ K v=>qf4<|qe0<|qc6 (y:=Al true a.C4 a.C3 n wr p1 g1 f) rfl rfl<|qc6 (y:=Al true a.C4 a.C3 n wr s g2 m) rfl rfl<|qb7 ⟨_,⟨true,true,n,wr,p1,s,g1,g2,f,m,rfl,n1,n2,hk,rfl⟩,qa0 (a:=(qb9 n wr r a p1 g1 f s g2 m (partD n.toNat g1 g2) L M N O (kL<|onlyL n.toNat g1 g2) (.int (j:Nat)) E)) rfl v⟩) ?_;refine qh2 false (λ Q q=>qn2 false false (λ Q q=>qi5 (b:=true) (qQ9 rfl) q) (λ _ Q q=>qe6 (b:=false) (Ag rfl rfl (by rw[qaX5,zAb rfl];rfl)) q) q) nofun λ _=>?_
   refine qb5 (qb9 n wr r a p1 g1 f s g2 m (partD n.toNat g1 g2) L M N O (kL<|onlyL n.toNat g1 g2) (.int (j:Nat))<|kL<|onlyL n.toNat g1 g2++[5]) (λ K v=>qn8<|qL7 (ys:=Oo (onlyL n.toNat g1 g2)) (d:=.int 5) rfl rfl (by rw[qf8];unfold big;lia) (by rw[qu9];exact v)) ?_;refine qab6 (ys:=Oo (onlyL n.toNat g1 g2++[5])) (d:=.int 6) (k:=0) (n:=0) rfl rfl rfl ?_ (a6 _ ⟨_,_,rfl⟩);rw[qf8,zAe];unfold ixN;rw[if_pos (by show (0:Int)<=0;decide),if_pos (by show (0:Int) < ((_+1:Nat):Int);lia)];rfl
 rintro G ⟨X,E,rfl⟩;refine qi3 (qN0<|qC0<|qc7<|qaf1 (i:=1) (p:=[0]) (d:=Al true a.C4 a.C3 n wr p1 g1 f) rfl rfl (qj5 rfl) λ w=>qb7 ⟨_,⟨true,n,wr,p1,g1,f,rfl,rfl⟩,qa0 (a:=(qb9 n wr r a p1 g1 f s g2 m (partD n.toNat g1 g2) L M N O (kL<|onlyL n.toNat g1 g2) X E)) ?_<|qc7<|qaf1 (i:=1) (p:=[1]) (d:=Al true a.C4 a.C3 n wr s g2 m) rfl rfl (qj5 rfl) λ w'=>qb7 ⟨_,⟨true,n,wr,s,g2,m,rfl,rfl⟩,qa0 (a:=(qb9 n wr r a p1 g1 f s g2 m (partD n.toNat g1 g2) L M N O (kL<|onlyL n.toNat g1 g2) X E)) ?_<|qb7 ⟨lt2,qa0 (a:=D.bl true) qaD7 q⟩⟩⟩)
 . show As (.pl 1 [0] w::_) (_::_) _=_
   rw[qS4 rfl];rfl
 show As (.pl 1 [1] w'::_) (_::_) _=_;rw[qS4 rfl];rfl
theorem qB1:qa8 ["_law_script", "_law_bag_here", "_law_plan", "_law_keys", "_law_lists", "_law_third", "_law_rows", "_law_sides", "_law_first", "_law_second"] ["_law_script"] (qa3 Gh):=by walk_at "s"
theorem lst2(a:fa ds=some x)(b:fb ds=some y)(c:x.imm=true)(d:y.imm=true):Ba gLst (A6 fa<|A6 fb λ _=>some []) ds=some (.l false [x,y]):=by
 unfold Ba A6;rw[a,b];exact qi4 ⟨by show (x.imm&&(y.imm&&true))=true;rw[c,d];rfl,lt2⟩
theorem Jl(N:Nat)(g:Nat->Option Int):D.fzs (Op N g)=Op N g:=by
 unfold Op
 induction Ku N with
 | nil=>rfl
 | cons a l b =>
   show (Aw<|g a).fz::D.fzs (l.map λ i=>Aw<|g i)=_;have e:(Aw<|g a).fz=Aw (g a):=by cases g a<;>rfl
   rw[b,e];rfl
theorem qaD2:(Al zr C CP n wr ps g dn).fz=Al true C CP n wr ps g (D.fzs dn):=by
 show D.ins true C [("plan",(Ad true CP n wr ps).fz),("held",.l true<|D.fzs<|Op n.toNat g),("done",.l true<|D.fzs dn)]=_;rw[Jl,qav2];rfl
theorem qaD3:(Af n wr ps).fz=Af n wr ps:=by
 show D.q [.int n,.bl wr,.l true (D.fzs<|Oq ps)]=_;rw[qU9];rfl
mutual
theorem qaX6:∀ x:D,x.fz.imm=true
 | .q a=>qR1 a
 | .l _ _=>rfl
 | .dct _ _=>rfl
 | .ins _ _ _=>rfl
 | .exn _ _=>rfl
 | .non=>rfl
 | .bl _=>rfl
 | .int _=>rfl
 | .str _=>rfl
 | .ty _=>rfl
 | .adr _=>rfl
 | .scr _=>rfl
 | .hole _=>rfl
 | .u=>rfl
theorem qR1:∀ ds:List D,D.imms (D.fzs ds)=true
 | []=>rfl
 | d::r=>by show (d.fz.imm&&D.imms (D.fzs r))=true;rw[qaX6 d,qR1 r];rfl
end
abbrev qo0 (u) (n:Int) (wr:Bool) (ps:Pr) (ks) (S0) (S1) (p1 a b c d e:D):=([.hole u,p1,Af n wr ps,.l true (Oo ks),.q [.l true (Oo S0),.l true (Oo S1)],a,b,c,d,e]:Ds)
theorem qaV4(T:Txt K mg a):Fo P w K mg base (CX1 P w) 13 a.f49 a.d49 ["_law_script"] (G3 K):=by
 refine T.d49.F.okX qB1 (λ vs H Q E h=>?_) (λ a7 A outer s H vs Q E O h=>?_)
 . obtain⟨l,ns,rfl,_⟩:=h
   rfl
 obtain⟨l,ns,rfl,hS,hl,k⟩:=h;refine⟨_,qad0 (sset 1 qB1.nd<|callD T.d34 (qaL7 T) (rm O)<|qh0 (pv 0) qy3) (show VSs ⟨λ _=>E,λ _=>false,Kv 10 none,[]⟩ (Dx true (CX1 P w) P w K mg base ["_law_script", "_law_bag_here", "_law_plan", "_law_keys", "_law_lists", "_law_third", "_law_rows", "_law_sides", "_law_first", "_law_second"] "law" (qa3 Gh) a.f49 a7 A outer s H E) _ _ from(Aa (Fs (Ah T.d42 (qan2 T) qa1 (rm O)<|vaN 1<|vaV (qa5 Ae) Ab)<|Ek (n:=2) rfl<|qm1 (A7 2 qB1.nd)<|qm1 (A7 3 qB1.nd) Ej)<|Aa (An 4 qB1.nd<|Ah T.d44 (qaL6 T) qa1 (rm O)<|vaN 1<|vaN 2<|vaV (efz 3) Ab)<|Aa (An 5 qB1.nd<|Ah T.d43 (qt1 T) qa1 (rm O)<|vaN 2<|vaV (ecN (NY:=["_law_key", "_law_bag_here"]) (src:=[none,some 1]) 3<|blk (λ av C s0 H0 ex=>(A7 0<|show (["_law_key", "_law_bag_here"]:List Str).Nodup by decide +kernel)) (λ av C s0 H0 ex=>(En<|q2v (A8 (qj3 O.u64)<|qb1 _) (Aq (qj3 O.u64)<|qb1 _) Bk (Ah T.d35 (qb6 T) qg6 (rm O)<|vaN 1<|vaV (qa5 Ae) Ab) Ae)) (λ av C s0 H0 ex=>(qb4<|vnm 0))) Ab)<|Aa (An 6 qB1.nd<|Gr<|vaV (Ah T.d46 (qat8 T) qa1 (rm O)<|vaN 1<|vaN 2<|vaV (qa5<|Fq qg0 qD5.ops T.Cg<|qa2 (v2 (At qb0) Ak (vnm 2) Ae) qa6 rfl)<|vaV (qb4<|v2 (At qb0) Ak (vnm 4) Ae) Ab) Ab)<|Aa (Bm<|Db 6 qt3 Nn No Np qd2<|vaV (Ah T.d46 (qat8 T) qa1 (rm O)<|vaN 1<|vaN 2<|vaV (Ah T.d45 (qB7 T) qa1 (rm O)<|vaN 1<|vaN 2<|vaN 3 Ab)<|vaV (qb4<|v2 (At qb0) Ak (vnm 4) Ae) Ab) Ab)<|Aa (Bm<|Db 6 qt3 Nn No Np qd2<|vaV (qaE0 T.C6 T.Cu T.d21 (qm5 T) qa1 (rm O)<|vaV (qb4<|Be rfl (v2 (At qb0) Ak (vnm 6) Ae) T.C6.cl T.C9)<|vaV (Ah T.d40 (qq3 T) qa1 (rm O)<|vaN 2<|vaN 5 Ab) Ab) Ab)<|Aa (scL (NY:=["_law_some", "_law_plan"]) (src:=[none,some 2]) 7 qB1.nd (Gr<|vaV (efzV<|qb4<|v2 (At qb0) Ak (vnm 4) Ae)<|vaV (efzV<|qb4<|v2 (At qb0) Ak (vnm 4) Ae)<|vaV (efz 5) Ab)<|blk (λ av C s0 H0 ex=>(A7 0<|show (["_law_some", "_law_plan"]:List Str).Nodup by decide +kernel)) (λ av C s0 H0 ex=>Em) (λ av C s0 H0 ex=>(efzV<|Ah T.d40 (qq3 T) qg6 (rm O)<|vaN 1<|vaN 0 Ab)))<|Aa (qaH3 [8,9] (λ av=>(Ge Nk (qa5<|Bs<|qa2 (B6<|qa2 Ae (qa2 Ae qa6 rfl) rfl) (qa2 (B6<|qa2 Ae (qa2 Ae qa6 rfl) rfl) (qa2 (B6<|qa2 Ae (qa2 Ae qa6 rfl) rfl) (qa2 (B6<|qa2 Ae (qa2 Ae qa6 rfl) rfl) (qa2 (B6<|qa2 Ae (qa2 Ae qa6 rfl) rfl) (qa2 (B6<|qa2 Ae (qa2 Ae qa6 rfl) rfl) (qa2 (B6<|qa2 Ae (qa2 Ae qa6 rfl) rfl) qa6 rfl) rfl) rfl) rfl) rfl) rfl) rfl) (Ek (n:=2) rfl<|qm1 (A7 8 qB1.nd)<|qm1 (A7 9 qB1.nd) Ej)<|Aj<|sif (Bn<|te<|Ah T.d48 (qan1 T) qa1 (rm O)<|vaN 2<|vaV (qa5<|Bs<|qa2 (v2 (At qb0) Ak (vnm 6)<|vnm 8) (qa2 (v2 (At qb0) Ak (vnm 6)<|vnm 9) qa6 rfl) rfl)<|vaV (qa5<|Bs<|qa2 (v2 (At qb0) Ak (vnm 7)<|vnm 8) (qa2 (v2 (At qb0) Ak (vnm 7)<|vnm 9) qa6 rfl) rfl) Ab) (Aj<|Au<|qa5 vbl) Ax)))<|Aj<|qaH3 [] (λ av=>(Au<|Gq (e2v (A8 Da<|qb1 _) Di (Ah T.d31 (qC8 T) qa1 (rm O)<|vaV (qb4<|v2 (At qb0) Ak (vnm 6) Ae)<|vaV (qaP7 T.d28 T.C6.cl (qJ3 T) qa1 (rm O)<|v2 (At qb0) Ak (vnm 6) Ae) Ab) Bc)<|Ir<|e2v (A8 (qj3 O.u64)<|qb1 _) Bk (Ah T.d32 (qJ1 T) qa1 (rm O)<|vaV (qb4<|v2 (At qb0) Ak (vnm 6) Ae)<|vaV (qb4<|v2 (At qb0) Ak (vnm 6) Ae) Ab)<|Bs qa6)))).h,?_⟩;refine⟨_,rfl,l,ns,rfl,hS,hl,λ p L H' hp hL kp B=>?_⟩;obtain⟨x,y,z,r,B⟩:=B;refine qao2 (rest:=[]) (X:=Dx true (CX1 P w) P w K mg base [] "law" (qa3 Gh) a.f49 a7 A outer s H E) (n:=8) (x:=x) (y:=y) (z:=z) (ns:=r) rfl (λ _=>rfl) rfl B.at_ B.li B.ne (λ H'=>k H') ?_;have B0:Oz r (bagD x y z r):=⟨x,y,z,rfl,B.x0,B.y0,B.y1,B.z0,B.nn⟩
 generalize bagD x y z r=b at B0;generalize V.ref l=u;refine Av [.hole u,b,.u,.u,.u,.u,.u,.u,.u,.u] rfl ?_;refine qc1 (λ M=>∃ b n wr e f,M=[.hole u,b,Af n wr e,kL f,.u,.u,.u,.u,.u,.u]/\Oz r b/\1<=n/\n<=64/\qM1 e/\f.Nodup/\(∀ k∈f,Ap k)/\f.length<=66/\∃ t,e.map (·.1)=f.take t) (λ K Y=>?_) ?_
 . refine qaw2 (qe0<|qb8 (x:=b) (qf3 rfl B0.known)<|qh7 (y:=.int 64) rfl<|qb7<|qa0 (a:=b) (qf3 rfl B0.known) ?_)
   exact⟨b,64,r,rfl,B0,by decide,by decide,λ b' n wr e f B' U n2 G nd hk a3 ht=>qa0 (a:=[.hole u,b',.u,.u,.u,.u,.u,.u,.u,.u]) rfl<|qp6<|Y _ ⟨b',n,wr,e,f,rfl,B',U,n2,G,nd,hk,a3,ht⟩⟩
 rintro M ⟨b,n,wr,e,f,rfl,B,U,n2,GP,a4,hk,a3,b3⟩;refine qc1 (λ M=>∃ b S0 S1,M=(qo0 u n wr e f S0 S1 b .u .u .u .u .u)/\Oz r b/\okL n wr e f S0/\okL n wr e f S1) (λ K Y=>?_) ?_
 . refine qf4 (qe0<|qb8 (x:=b) (qf3 rfl B.known)<|qb8 (x:=Af n wr e) rfl<|qc7<|qa0 (a:=D.l false (Oo f)) rfl ?_)
   rw[Dc];refine qb7 (qa0 (a:=Af n wr e) rfl<|qa0 (a:=b) (qf3 rfl B.known) ⟨b,r,n,wr,e,f,rfl,B,U,n2,GP.nd,a4,a3,λ b' S T B' o1 o2=>qa0 (a:=[.hole u,b',Af n wr e,.l true (Oo f),.u,.u,.u,.u,.u,.u]) rfl<|Y _ ⟨b',S,T,rfl,B',o1,o2⟩⟩)
 clear B;rintro M ⟨b,S0,S1,rfl,B,o0,o1⟩;refine qc1 (λ M=>∃ b S2,M=(qo0 u n wr e f S0 S1 b (kL S2) .u .u .u .u)/\Oz r b/\okL n wr e f S2) (λ K Y=>qf4<|qe0<|qb8 (x:=Af n wr e) rfl<|qc7<|qa0 (a:=D.l true (Oo f)) rfl<|qa0 (a:=Oo f) rfl ⟨qe5 f,?_⟩) ?_
 . refine qL3 (λ i Z ι=>∃ b d L,ι=[d,b]/\Oz r b/\Z=Oo L/\L.Sublist (f.take i)) _ 0 [] _ ⟨b,_,[],rfl,B,rfl,Lu _⟩ ?_ ?_
   . rintro j y hy Z ι ⟨b,d,L,rfl,B,rfl,hL⟩ R hR
     rw[zA9] at hL hR;obtain⟨k,hj,rfl⟩:=qK0 hy;have b6:=(zA4.mp hj).1;have a8:=hL.length_le;rw[zB0] at a8;have hs:(f.take<|j+1)=f.take j++[k]:=by rw[zBj,hj];rfl
     refine qk6 (qI4<|qc2 (ds:=[.int k,b]) (i:=1) (m:=2) rfl B rfl (by decide) (by decide) λ v b' v0 v1 B'=>qa0 (a:=D.bl (decide (v=0))) rfl<|qa0 (a:=decide (v=0)) rfl<|ite_b (λ _=>?_) λ _=>?_)
     . exact ql2 (d:=.int k) rfl rfl ⟨by rw[qf8];unfold big;lia,hR _ _ ⟨b',_,L++[k],rfl,B',qu9,by rw[hs];exact hL.append (List.Sublist.refl _)⟩⟩
     exact hR _ _ ⟨b',_,L,rfl,B',rfl,by rw[hs];exact hL.trans (zBx _ _)⟩
   rintro Z ι ⟨b,d,L,rfl,B,rfl,hL⟩
   replace hL:=hL.trans (zBm _ _)
   have a8:=hL.length_le;have a9:L.Nodup:=a4.sublist hL;refine qb7 (qa0 (a:=Af n wr e) rfl ⟨n,wr,e,false,L,rfl,U,n2,GP.nd,a9,by lia,λ S2 h nc=>qa0 (a:=(qo0 u n wr e f S0 S1 b .u .u .u .u .u)) rfl<|Y _ ⟨b,S2,rfl,B,a9.sublist h,λ x hx=>hL.subset<|h.subset hx,nc⟩⟩)
 clear B;rintro M ⟨b,S2,rfl,B,o2⟩;have hA:∀ x∈S0,Ap x:=λ x hx=>hk x (o0.2.1 x hx)
 have hB:∀ x∈S1,Ap x:=λ x hx=>hk x (o1.2.1 x hx)
 have hC:∀ x∈S2,Ap x:=λ x hx=>hk x (o2.2.1 x hx)
 have l0:=qZ3 U o0.2.2;have l1:=qZ3 U o1.2.2;have l2:=qZ3 U o2.2.2;refine qc1 (λ M=>∃ b o J,M=(qo0 u n wr e f S0 S1 b (kL S2) (.l false [rA a n wr e o J]) .u .u .u)/\Oz r b/\Kept n.toNat wr (Om n e) o S0) (λ K Y=>?_) ?_
 . refine qf4 (qC0<|qc7<|qe0<|qb8 (x:=b) (qf3 rfl B.known)<|qb8 (x:=Af n wr e) rfl<|qh7 (y:=.l false (Oq e)) (qau2 (z:=true))<|qc6 (y:=.l true (Oo S0)) rfl rfl<|qb7<|qa0 (a:=Af n wr e) rfl<|qa0 (a:=b) (qf3 rfl B.known) ?_)
   exact⟨b,r,n,wr,e,false,e,true,S0,rfl,B,U,n2,GP.nd,GP,rfl,o0.1,hA,o0.2.2,λ b' g dn B' Kg=>qa0 (a:=(qo0 u n wr e f S0 S1 b' (kL S2) .u .u .u .u)) rfl<|qb7 ⟨by show 1<=1000000;decide,Y _ ⟨b',g,dn,rfl,B',Kg⟩⟩⟩
 clear B;rintro M ⟨b,o,J,rfl,B,KA⟩;refine qc1 (λ M=>∃ b g1 N I,M=(qo0 u n wr e f S0 S1 b (kL S2) (.l false [rA a n wr e o J,rA a n wr I g1 N]) .u .u .u)/\Oz r b/\Kept n.toNat wr (Om n e) g1 S1/\∀ k,qb3 n I k=qb3 n e k) (λ K Y=>?_) ?_
 . refine qn8 (qae8 (ys:=[rA a n wr e o J]) rfl<|qc7<|qe0<|qb8 (x:=b) (qf3 rfl B.known)<|qb8 (x:=Af n wr e) rfl<|qc7<|qe0<|qb8 (x:=b) (qf3 rfl B.known)<|qb8 (x:=Af n wr e) rfl<|qb8 (x:=.l true (Oo f)) rfl<|qb7 ?_)
   refine qa0 (a:=D.l true (Oo f)) rfl (qa0 (a:=Af n wr e) rfl<|qa0 (a:=b) (qf3 rfl B.known) ?_);refine⟨b,r,n,wr,e,f,rfl,B,U,n2,GP,a4,hk,b3,λ b I B GQ hq=>qa0 (a:=(qo0 u n wr e f S0 S1 b (kL S2) (.l false [rA a n wr e o J]) .u .u .u)) rfl ?_⟩;have b4:Om n I=Om n e:=funext λ k=>by unfold Om;rw[hq]
   refine qc6 (y:=.l true (Oo S1)) rfl rfl (qb7<|qa0 (a:=Af n wr e) rfl<|qa0 (a:=b) (qf3 rfl B.known) ?_);refine⟨b,r,n,wr,e,false,I,true,S1,rfl,B,U,n2,GP.nd,GQ,b4,o1.1,hB,o1.2.2,λ b g dn B Kg=>qa0 (a:=(qo0 u n wr e f S0 S1 b (kL S2) (.l false [rA a n wr e o J]) .u .u .u)) rfl<|qb7<|qa0 (a:=[rA a n wr e o J]) rfl<|qa0 (a:=([rA a n wr e o J,rA a n wr I g dn],D.non)) ?_<|Y _ ⟨b,g,dn,I,rfl,B,Kg,hq⟩⟩;rfl
 clear B;rintro M ⟨b,g1,N,I,rfl,B,KB,hq⟩;refine qc1 (λ M=>∃ g2,M=(qo0 u n wr e f S0 S1 b (kL S2) (.l false [rA a n wr e o J,rA a n wr I g1 N,rA a n wr e g2 []]) .u .u .u)/\Kept n.toNat wr (Om n e) g2 S2) (λ K Y=>?_) ?_
 . refine qn8 (qae8 (ys:=[rA a n wr e o J,rA a n wr I g1 N]) rfl<|qc7<|qU0<|qc6 (y:=Ad true a.C3 n wr e) (A4 (x:=rA a n wr e o J) rfl qg2) rfl<|qc7<|qar2 (x:=Af n wr e) (y:=kL S2) rfl rfl rfl ?_)
   refine⟨n,wr,e,false,S2,rfl,U,n2,GP.nd,o2.1,by lia,λ ⟨q,c⟩=>absurd c<|o2.2.2 q,λ _ g Kg=>qa0 (a:=(qo0 u n wr e f S0 S1 b (kL S2) (.l false [rA a n wr e o J,rA a n wr I g1 N]) .u .u .u)) rfl<|qb7 ⟨n,wr,e,_,g,S2,rfl,U,n2,hC,Kg,.inr ⟨false,rfl⟩,rfl,qa0 (a:=rA a n wr e g []) rfl<|qa0 (a:=(qo0 u n wr e f S0 S1 b (kL S2) (.l false [rA a n wr e o J,rA a n wr I g1 N]) .u .u .u)) rfl<|qb7<|qa0 (a:=[rA a n wr e o J,rA a n wr I g1 N]) rfl<|qa0 (a:=([rA a n wr e o J,rA a n wr I g1 N,rA a n wr e g []],D.non)) ?_<|Y _ ⟨g,rfl,Kg⟩⟩⟩;rfl
 rintro M ⟨g2,rfl,KC⟩;refine qc1 (λ M=>∃ h0 h1 h2,M=(qo0 u n wr e f S0 S1 b (.l true<|Oo S2) (.l false [rA a n wr e o J,rA a n wr I g1 N,rA a n wr e g2 []]) (.l false [.l true (Op n.toNat h0),.l true (Op n.toNat h1),.l true (Op n.toNat h2)]) .u .u)/\Kept n.toNat wr (Om n e) h0 S0/\Kept n.toNat wr (Om n e) h1 S1/\Kept n.toNat wr (Om n e) h2 S2) (λ K Y=>?_) ?_
 . refine qf4 (qC0<|qc7<|Hi<|ql2 (d:=.l true (Oo S0)) rfl rfl<|qc7<|Hi<|ql2 (d:=.l true (Oo S1)) rfl rfl<|qc7<|qa0 (a:=D.l false (Oo S2)) rfl<|qb7 ⟨lt3,?_⟩)
   rw[Dc,Dc,Dc];refine qa0 (a:=[D.l true (Oo S0),.l true (Oo S1),.l true (Oo S2)]) rfl ⟨rfl,?_⟩;refine qL3 (λ i Z ι=>∃ d gs,ι=[d,Af n wr e]/\Z=gs.map (λ g=>D.l true<|Op n.toNat g)/\gs.length=i/\∀ m g S,gs[m]? = some g->[S0,S1,S2][m]? = some S->Kept n.toNat wr (Om n e) g S) _ 0 [] _ ⟨_,([]:List (Nat->Option Int)),rfl,rfl,rfl,λ m g S h _=>by rw[List.getElem?_nil] at h;cases h⟩ ?_ ?_
   . rintro j y hy Z ι ⟨d,gs,rfl,rfl,W,a0⟩ R hR
     rw[zA9] at W hR;obtain⟨S,b0,rfl,oS⟩:∃ S,[S0,S1,S2][j]? = some S/\y=.l true (Oo S)/\okL n wr e f S:=by
       match j,hy with
       | 0,hy=>exact⟨S0,rfl,(Nj hy).symm,o0⟩
       | 1,hy=>exact⟨S1,rfl,(Nj hy).symm,o1⟩
       | 2,hy=>exact⟨S2,rfl,(Nj hy).symm,o2⟩
       | j+3,hy=>cases hy
     have lS:=qZ3 U oS.2.2;have b7:j < 3:=(zA4.mp b0).1;refine qk6 (qX4<|Du rfl<|Hi<|qar2 (x:=Af n wr e) (y:=.l true (Oo S)) rfl rfl rfl ⟨n,wr,e,true,S,rfl,U,n2,GP.nd,oS.1,by lia,λ ⟨q,c⟩=>absurd c<|oS.2.2 q,λ _ g Kg=>qa0 (a:=[.l true (Oo S),Af n wr e]) rfl ⟨by rw[zA8,W];unfold big;lia,hR _ _ ⟨_,gs++[g],rfl,?_,by rw[zAe,W];rfl,λ m g' S' hm a5=>?_⟩⟩⟩)
     . rw[zBf,show (rL n g).fz=.l true (Op n.toNat g) from congrArg (D.l true) (Jl _ _)];rfl
     rcases Nat.lt_or_ge m gs.length with a6 | a6
     . rw[zAp a6] at hm
       exact a0 m g' S' hm a5
     rw[zC9 a6] at hm;have h0:m - gs.length=0:=by have:=(zA4.mp hm).1;simp at this;lia
     rw[h0] at hm;obtain rfl:g=g':=Nj hm;obtain rfl:m=j:=by lia
     rw[b0] at a5;cases a5;exact Kg
   rintro Z ι ⟨d,gs,rfl,rfl,W,a0⟩
   match gs,W,a0 with
   | [h0,h1,h2],_,a0=>exact Y _ ⟨h0,h1,h2,rfl,a0 0 h0 S0 rfl rfl,a0 1 h1 S1 rfl rfl,a0 2 h2 S2 rfl rfl⟩
 rintro M ⟨h0,h1,h2,rfl,H0,H1,H2⟩;have eZ:D.fzs [.hole u,b,Af n wr e,.l true (Oo f),.q [.l true (Oo S0),.l true (Oo S1)],.l true (Oo S2),.l false [rA a n wr e o J,rA a n wr I g1 N,rA a n wr e g2 []],.l false [.l true (Op n.toNat h0),.l true (Op n.toNat h1),.l true (Op n.toNat h2)],.u,.u]=(let RL:Ds:=[Al true a.C4 a.C3 n wr e o (D.fzs J),Al true a.C4 a.C3 n wr I g1 (D.fzs N),Al true a.C4 a.C3 n wr e g2 []];let SL:Ds:=[.l true (Op n.toNat o),.l true (Op n.toNat g1),.l true (Op n.toNat g2)];[.hole u,b.fz,Af n wr e,.l true (Oo f),.q [.l true (Oo S0),.l true (Oo S1)],.l true (Oo S2),.l true RL,.l true SL,.u,.u]):=by
   show [D.hole u,b.fz,(Af n wr e).fz,(D.l true<|Oo f).fz,.q [(D.l true<|Oo S0).fz,(D.l true<|Oo S1).fz],(D.l true<|Oo S2).fz,.l true [(rA a n wr e o J).fz,(rA a n wr I g1 N).fz,(rA a n wr e g2 []).fz],.l true [.l true (D.fzs<|Op n.toNat h0),.l true (D.fzs<|Op n.toNat h1),.l true (D.fzs<|Op n.toNat h2)],.u,.u]=_;rw[qaD3,Dc,Dc,Dc,Dc,qaD2,qaD2,qaD2,Jl,Jl,Jl,qw0 (H0.same KA λ _=>Iff.rfl),qw0 (H1.same KB λ _=>Iff.rfl),qw0 (H2.same KC λ _=>Iff.rfl)];rfl
 have get:∀ m,m < 3->∃ p g dn S,([Al true a.C4 a.C3 n wr e o (D.fzs J),Al true a.C4 a.C3 n wr I g1 (D.fzs N),Al true a.C4 a.C3 n wr e g2 []])[m]? = some (Al true a.C4 a.C3 n wr p g dn)/\([.l true (Op n.toNat o),.l true (Op n.toNat g1),.l true (Op n.toNat g2)]:Ds)[m]? = some (.l true<|Op n.toNat g)/\(∀ k,qb3 n p k=qb3 n e k)/\Kept n.toNat wr (Om n e) g S/\∀ x∈S,Ap x:=λ m hm=>by
   match m,hm with
   | 0,_=>exact⟨e,o,_,S0,rfl,rfl,λ _=>rfl,KA,hA⟩
   | 1,_=>exact⟨I,g1,_,S1,rfl,rfl,hq,KB,hB⟩
   | 2,_=>exact⟨e,g2,_,S2,rfl,rfl,λ _=>rfl,KC,hC⟩
 refine qb5 (qo0 u n wr e f S0 S1 b (.l true<|Oo S2) (.l false [rA a n wr e o J,rA a n wr I g1 N,rA a n wr e g2 []]) (.l false [.l true (Op n.toNat h0),.l true (Op n.toNat h1),.l true (Op n.toNat h2)]) .u .u) (λ K Y=>qag2 ?_) ?_
 . rw[eZ]
   generalize ([Al true a.C4 a.C3 n wr e o (D.fzs J),Al true a.C4 a.C3 n wr I g1 (D.fzs N),Al true a.C4 a.C3 n wr e g2 []]:Ds)=RL at get;generalize ([.l true (Op n.toNat o),.l true (Op n.toNat g1),.l true (Op n.toNat g2)]:Ds)=SL at get;refine qq4 (d:=.l false (Oq [(0,1),(0,2),(2,0),(1,2),(2,1),(1,0),(0,1)])) rfl (qa0 (a:=Oq [(0,1),(0,2),(2,0),(1,2),(2,1),(1,0),(0,1)]) rfl ⟨rfl,?_⟩);refine qd4 (λ _ M=>∃ d8 d9,M=(qo0 u n wr e f S0 S1 (b.fz) (.l true<|Oo S2) (.l true RL) (.l true SL) d8 d9)) _ 0 _ ⟨_,_,rfl⟩ ?_ λ _ _=>Y
   rintro j y hy M ⟨d8,d9,rfl⟩ K2 b5;obtain⟨x,z,hx,hz,rfl⟩:∃ x z:Nat,x < 3/\z < 3/\y=.q [.int (x:Nat),.int (z:Nat)]:=by
     have hy:=zB1 hy;obtain⟨⟨x,z⟩,hm,rfl⟩:=zB9.mp hy;simp only[zAi,zBd,zD2,Prod.mk.injEq] at hm;rcases hm with⟨rfl,rfl⟩ | ⟨rfl,rfl⟩ | ⟨rfl,rfl⟩ | ⟨rfl,rfl⟩ | ⟨rfl,rfl⟩ | ⟨rfl,rfl⟩ | ⟨rfl,rfl⟩
     . exact⟨0,1,by decide,by decide,rfl⟩
     . exact⟨0,2,by decide,by decide,rfl⟩
     . exact⟨2,0,by decide,by decide,rfl⟩
     . exact⟨1,2,by decide,by decide,rfl⟩
     . exact⟨2,1,by decide,by decide,rfl⟩
     . exact⟨1,0,by decide,by decide,rfl⟩
     exact⟨0,1,by decide,by decide,rfl⟩
   obtain⟨p1,k1,b1,T1,a1,s1,q1,K1,t1⟩:=get x hx;obtain⟨p2,k2,b2,T2,a2,s2,q2,K2',t2⟩:=get z hz;refine qp6 (show sIf _ _ _ _ _ from(show Eg _ _ _ _ from(show ttE _ _ _ _ from ?_)));refine qe0 (qb8 (x:=Af n wr e) rfl<|qh7 (y:=.l false [Al true a.C4 a.C3 n wr p1 k1 b1,Al true a.C4 a.C3 n wr p2 k2 b2]) (lst2 (Ag rfl rfl<|qA2 a1) (Ag rfl rfl<|qA2 a2) rfl rfl)<|qh7 (y:=.l false [.l true (Op n.toNat k1),.l true (Op n.toNat k2)]) (lst2 (Ag rfl rfl<|qA2 s1) (Ag rfl rfl<|qA2 s2) rfl rfl)<|qb7<|qa0 (a:=Af n wr e) rfl ?_);exact⟨_,⟨n,wr,e,p1,k1,b1,p2,k2,b2,T1,T2,rfl,U,n2,GP.nd,q1,q2,K1,K2',t1,t2,rfl⟩,qa0 (a:=(qo0 u n wr e f S0 S1 (b.fz) (.l true<|Oo S2) (.l true RL) (.l true SL) (.int (x:Nat))<|.int (z:Nat))) rfl<|qa0 (a:=true) rfl<|Hh (by decide)<|b5 _ ⟨_,_,rfl⟩⟩
 refine qag2 ?_;rw[eZ];refine qi3 (qaZ7<|qN0 ?_);refine qe0 (qc6 (y:=Al true a.C4 a.C3 n wr e o (D.fzs J)) rfl rfl<|qc7<|qQ4 (d:=Al true a.C4 a.C3 n wr e o (D.fzs J)) rfl rfl (qj5 rfl)<|qb7 ⟨_,⟨n,wr,e,o,D.fzs J,S0,rfl,U,n2,hA,KA,qR1 _,rfl⟩,?_⟩);refine qa0 (a:=(let RL:Ds:=[Al true a.C4 a.C3 n wr e o (D.fzs J),Al true a.C4 a.C3 n wr I g1 (D.fzs N),Al true a.C4 a.C3 n wr e g2 []];let SL:Ds:=[.l true (Op n.toNat o),.l true (Op n.toNat g1),.l true (Op n.toNat g2)];[.hole u,b.fz,Af n wr e,.l true (Oo f),.q [.l true (Oo S0),.l true (Oo S1)],.l true (Oo S2),.l true RL,.l true SL,.u,.u])) rfl (qb7 ⟨_,⟨true,false,n,wr,e,e,o,o,_,_,rfl,U,n2,λ i k hi h=>⟨hA k ((KA.h.2 k).mpr ⟨i,hi,h.elim id id⟩),rfl⟩,rfl⟩,?_⟩);refine qa0 (a:=(let RL:Ds:=[Al true a.C4 a.C3 n wr e o (D.fzs J),Al true a.C4 a.C3 n wr I g1 (D.fzs N),Al true a.C4 a.C3 n wr e g2 []];let SL:Ds:=[.l true (Op n.toNat o),.l true (Op n.toNat g1),.l true (Op n.toNat g2)];[.hole u,b.fz,Af n wr e,.l true (Oo f),.q [.l true (Oo S0),.l true (Oo S1)],.l true (Oo S2),.l true RL,.l true SL,.u,.u])) rfl (qa0 (a:=D.bl true) (by unfold partD;rw[qy2 λ _ _=>rfl];rfl)<|qa0 (a:=true) rfl<|Du rfl<|qN0 ?_);refine qe0 (qc6 (y:=Al true a.C4 a.C3 n wr I g1 (D.fzs N)) rfl rfl<|qc6 (y:=Al true a.C4 a.C3 n wr I g1 (D.fzs N)) rfl rfl<|qb7 ⟨_,⟨true,true,n,wr,I,I,g1,g1,_,_,rfl,U,n2,λ i k hi h=>⟨hB k ((KB.h.2 k).mpr ⟨i,hi,h.elim id id⟩),rfl⟩,rfl⟩,?_⟩);refine qa0 (a:=(let RL:Ds:=[Al true a.C4 a.C3 n wr e o (D.fzs J),Al true a.C4 a.C3 n wr I g1 (D.fzs N),Al true a.C4 a.C3 n wr e g2 []];let SL:Ds:=[.l true (Op n.toNat o),.l true (Op n.toNat g1),.l true (Op n.toNat g2)];[.hole u,b.fz,Af n wr e,.l true (Oo f),.q [.l true (Oo S0),.l true (Oo S1)],.l true (Oo S2),.l true RL,.l true SL,.u,.u])) rfl (qa0 (a:=D.bl true) ?_ ⟨rfl,rfl⟩);have N:onlyL n.toNat g1 g1=[]:=by
   unfold onlyL;refine List.filter_eq_nil_iff.mpr λ x hx=>?_
   rw[qT4 KB,zAb (KB.perm.mem_iff.mp hx)];decide
 rw[N];rfl
end
theorem dfX{x:Str}{f:γ}{m:Array (Option V')}{kV e i d j:V'}{h:Heap}(X:K.In h)(G:h.Ns Jv mg)(a:W.nsIn K Jv x=some (some<|.ref f))(l:K.lookup f=some ⟨oc,n,.func<|W.fnOf x qual (qf5 st) (qd3 st) (qa3 st) .none kV e i g d j,m⟩)(c:W.codeIn K d qual=true)(k:W.keepIn K (.ref f)=true)(b:∀(kV e i:V')(g:Option γ)(d j:V')(us:List V'),us.length=ps.length->bindArgs (W.fnOf x qual (qf5 st) (qd3 st) (qa3 st) .none kV e i g d j) ⟨us,[]⟩=pure (ps.zip us)) :
 Df K mg x qual st f (W.fnOf x qual (qf5 st) (qd3 st) (qa3 st) .none kV e i g d j) ps:=dfmk l c k (W.mg_of X G a) b
theorem qaZ8{l:W.OpenLaw}{fa f1 f2 f3 d f h o p t u x y D Q R S T V:γ}{b:δ}(g0:mg "law" = some (.ref fa))(j0:Df K mg "_wall" "_wall" qas4 f0 d0 ["k"])(j1:Df K mg "is_whole" "is_whole" qx4 f1 d1 ["thing"])(j2:Df K mg "is_whole_within" "is_whole_within" qg4 f2 d2 ["thing", "least", "most"])(j3:Df K mg "is_number" "is_number" qs3 f3 d3 ["thing"])(j4:Df K mg "are_parted" "are_parted" qo5 f4 d4 ["numbers"])(j5:Df K mg "is_number_pair" "is_number_pair" qh8 f5 d5 ["thing"])(j6:Df K mg "is_home_list" "is_home_list" qk1 f6 d6 ["thing"])(j7:Md K C0 "__init__" "Plan.__init__" qs6 f7 d7 ["self", "rooms", "wraps", "homes"])(j8:Md K C0 "is_room" "Plan.is_room" qk3 f8 d8 ["self", "thing"])(j9:Md K C0 "home" "Plan.home" qs7 f9 d9 ["self", "key"])(g9:Md K C0 "far" "Plan.far" qx8 d Y ["self", "key", "room"])(h0:Md K C0 "goes_ahead" "Plan.goes_ahead" qg5 f Z ["self", "room", "one", "other"])(h1:Df K mg "room_ahead" "room_ahead" qo4 g a0 ["plan", "room"])(h2:Df K mg "word_by_room_ahead" "word_by_room_ahead" qe3 h a1 ["plan", "rooms", "room"])(h3:Df K mg "word_due" "word_due" qx2 i a2 ["plan", "rooms", "room"])(h4:Df K mg "is_turned" "is_turned" qs2 j a3 ["plan", "rooms"])(h5:Df K mg "fault_of" "fault_of" qx5 n a4 ["plan", "rooms"])(h6:Df K mg "are_crowd" "are_crowd" qs4 o a5 ["plan", "keys", "room"])(h7:Df K mg "crowded_room" "crowded_room" qk2 p a6 ["plan", "keys"])(h8:Df K mg "refuse_crowd" "refuse_crowd" qk0 q a7 ["plan", "keys"])(h9:Df K mg "bring_in" "bring_in" qx6 r a8 ["plan", "rooms", "key"])(i0:MdN K C1 "__init__" "Row.__init__" qx7 c a9 ["self", "plan", "rooms"])(i1:Md K C1 "rooms_held" "Row.rooms_held" qh9 t b0 ["self"])(i2:Md K C1 "keys_held" "Row.keys_held" qj0 u b1 ["self"])(i3:Md K C1 "many" "Row.many" qI3 x b2 ["self"])(i4:Md K C1 "room_of" "Row.room_of" ql6 y b3 ["self", "key"])(i5:Md K C1 "put" "Row.put" qE5 z b4 ["self", "key"])(i6:Md K C1 "deeds" "Row.deeds" qs5 A b5 ["self"])(i7:Md K C1 "copied" "Row.copied" qo6 B b6 ["self"])(i8:Df K mg "are_alike_at_home" "are_alike_at_home" qe9 C b7 ["one", "other", "keys"])(i9:Df K mg "refuse_unlike" "refuse_unlike" qi9 D b8 ["one", "other"])(k0:Df K mg "parts_at" "parts_at" qx3 E b9 ["one", "other"])(k1:Df K mg "only_in" "only_in" qE4 F c0 ["one", "other"])(k2:Df K mg "_law_whole" "_law_whole" qO9 G c1 ["_law_found"])(k3:Df K mg "_law_bag" "_law_bag" qay3 H c2 ["_law_script"])(k4:Df K mg "_law_take" "_law_take" qac6 I c3 ["_law_bag_here", "_law_many"])(k5:Df K mg "_law_home" "_law_home" qac7 J c4 ["_law_plan", "_law_key"])(k6:Df K mg "_law_far" "_law_far" qay2 L c5 ["_law_plan", "_law_key", "_law_room"])(k7:Df K mg "_law_ahead" "_law_ahead" qP2 M c6 ["_law_plan", "_law_room", "_law_one", "_law_other"])(k8:Df K mg "_law_passing" "_law_passing" qx9 N c7 ["_law_plan", "_law_keys"])(k9:Df K mg "_law_housed" "_law_housed" qE6 O c8 ["_law_plan", "_law_keys"])(l0:Df K mg "_law_drawn_homes" "_law_drawn_homes" qk5 P c9 ["_law_bag_here", "_law_size", "_law_many"])(l1:Df K mg "_law_drawn" "_law_drawn" qP1 Q e0 ["_law_bag_here", "_law_most"])(l2:Df K mg "_law_fitting" "_law_fitting" qy1 R e1 ["_law_plan", "_law_keys"])(l3:Df K mg "_law_two" "_law_two" qay0 S e3 ["_law_bag_here", "_law_plan", "_law_keys"])(l4:Df K mg "_law_other_homes" "_law_other_homes" qk4 T e4 ["_law_bag_here", "_law_plan", "_law_keys"])(l5:Df K mg "_law_row" "_law_row" qay1 U e5 ["_law_bag_here", "_law_plan", "_law_homes", "_law_keys"])(l6:Df K mg "_law_parting" "_law_parting" qy0 V e6 ["_law_first", "_law_second"])(l7:Df K mg "_law_right" "_law_right" qP0 X e7 ["_law_plan", "_law_rows", "_law_sides"])(e8:Df K mg "law" "law" Gh e9 b ["_law_script"])(l8:mg "MOST_NUMBER" = some (.int 1000000000000000000 Cc))(l9:mg "MOST_ROOMS" = some (.int 64 Ce))(m0:mg "MOST_HOMES" = some (.int 64 Cf))(m1:mg "abs" = none)(m2:mg "all" = none)(m3:mg "bool" = none)(m4:mg "dict" = none)(m5:mg "enumerate" = none)(m6:mg "int" = none)(m7:mg "isinstance" = none)(m8:mg "len" = none)(m9:mg "list" = none)(n0:mg "max" = none)(n1:mg "min" = none)(n2:mg "range" = none)(n3:mg "reversed" = none)(n4:mg "set" = none)(n5:mg "sorted" = none)(n6:mg "tuple" = none)(n7:mg "zip" = none)(n8:Cl K mg "Plan" C0)(n9:Mk K C0 f7)(o0:qg8 K C0 "rooms")(o1:qg8 K C0 "wraps")(o2:qg8 K C0 "homes")(o3:qg8 K C0 "home_numbers")(o4:IsO K C0)(o5:Cl K mg "Row" C1)(o6:Mk K C1 c)(o7:qg8 K C1 "plan")(o8:qg8 K C1 "held")(o9:qg8 K C1 "done")(hb:∀(s:Sh)(v:V'),BindsTo s b ⟨[v],[]⟩ [("_law_script",v)]):∃ fd:δ,(∀(s:Sh)(v:V'),BindsTo s fd ⟨[v],[]⟩ [("_law_script",v)])/\∀ base:Heap,K.In base->base.Ns Jv mg->Fo l.prog w K mg base (CX1 l.prog w) 13 fa fd ["_law_script"] (G3 K):=by
 have e:=g0.symm.trans e8.m;injection e with e
 injection e with e
 subst e;exact⟨b,hb,λ base _ _=>qaV4 (a:=⟨f0,d0,f1,d1,f2,d2,f3,d3,f4,d4,f5,d5,f6,d6,f7,d7,f8,d8,f9,d9,d,Y,f,Z,g,a0,h,a1,i,a2,j,a3,n,a4,o,a5,p,a6,q,a7,r,a8,c,a9,t,b0,u,b1,x,b2,y,b3,z,b4,A,b5,B,b6,C,b7,D,b8,E,b9,F,c0,G,c1,H,c2,I,c3,J,c4,L,c5,M,c6,N,c7,O,c8,P,c9,Q,e0,R,e1,S,e3,T,e4,U,e5,V,e6,X,e7,fa,b,Cc,Ce,Cf,C0,C1⟩) ⟨j0,j1,j2,j3,j4,j5,j6,j7,j8,j9,g9,h0,h1,h2,h3,h4,h5,h6,h7,h8,h9,i0,i1,i2,i3,i4,i5,i6,i7,i8,i9,k0,k1,k2,k3,k4,k5,k6,k7,k8,k9,l0,l1,l2,l3,l4,l5,l6,l7,e8,l8,l9,m0,m1,m2,m3,m4,m5,m6,m7,m8,m9,n0,n1,n2,n3,n4,n5,n6,n7,n8,n9,o0,o1,o2,o3,o4,o5,o6,o7,o8,o9⟩⟩
theorem walk{l:W.OpenLaw}{d:DefRec}{K:Params->Nl}(c:l.most=some 63)(b:d.params.defaults=[])(e:∀(w:Ke)(h:Heap),YP w h->(K w.params).In h)(F:∀(w:Ke)(mg:Str->Option V')(fa:γ)(h:Heap),(K w.params).In h->h.Ns Jv mg->mg d.name=some (.ref fa) ->
 ∃ fd:δ,(∀(s:Sh)(u:V'),BindsTo s fd ⟨[u],[]⟩ [("_law_script",u)])/\∀ base:Heap,(K w.params).In base->base.Ns Jv mg->Fo l.prog w (K w.params) mg base (CX1 l.prog w) 13 fa fd ["_law_script"] (G3<|K w.params)) :
 W.WalkO q loose XP YP l.row.toRowW d [] (λ f vs=>PySem.call f vs) :=
 L2.qaF4 (n:=63) (k:=13) (x := "_law_script") (CX:=λ w=>CX1 l.prog w) (sp:=λ w=>G3 (K w.params)) c (by decide) b ⟨λ _=>rfl,by decide,by decide⟩ e F (λ _ _ a g i _ j=>⟨a,g,rfl,j,i,λ _=>rfl⟩) λ _ _ _ _ _ ⟨_,_,_,_,_,_,_,_,z⟩=>z
end LV.My
open PySem PySem.W PyProof.Rows L2
local macro_rules | `(tactic| walk_at "u")=>`(tactic| (intro _ _ _ _ _ _;repeat' first | exact LV.ec0 (rfl) | refine LV.ec1 λ _=>?_))
local macro_rules | `(tactic| walk_at "d")=>`(tactic| (refine' LV.My.dfX (by assumption) (by assumption) ?a ?l ?c ?k ?b;(case a | l | c | k=>k_is);(case b=>walk_at "u")))
local macro_rules | `(tactic| walk_at "e")=>`(tactic| (refine' mdmk ?l ?c ?k ?a ?i ?b;(case a | i | l | c | k=>k_is);(case b=>walk_at "u")))
local macro_rules | `(tactic| walk_at "c")=>`(tactic| (refine' mg_of (by assumption) (by assumption) ?a;k_is))
local macro_rules | `(tactic| walk_at "z")=>`(tactic| (refine' mg_none_of (by assumption) (by assumption) ?a;k_is))
local macro_rules | `(tactic| walk_at "q")=>`(tactic| (first | k_is | kernel_rfl | rfl))
local macro_rules | `(tactic| walk_at "n")=>`(tactic| (show findIn _ _ _=some none;k_is))
theorem PySem.Challenge.cw_homeward_k81_parted_holds : PySem.Challenge.rw_homeward_k81_parted.Holds := by
 w_on;o_law;k_head;(case hw=>w_witness2)
 k_fill
 refine LV.My.walk (l:=PySem.Challenge.rw_homeward_k81_parted) rfl rfl (λ w h Y=>PySem.W.kIn_of Y) ?F
 case F =>
 intro w g j h KX G f;refine' LV.My.qaZ8 f ?j0 ?j1 ?j2 ?j3 ?j4 ?j5 ?j6 ?j7 ?j8 ?j9 ?j10 ?j11 ?j12 ?j13 ?j14 ?j15 ?j16 ?j17 ?j18 ?j19 ?j20 ?j21 ?j22 ?j23 ?j24 ?j25 ?j26 ?j27 ?j28 ?j29 ?j30 ?j31 ?j32 ?j33 ?j34 ?j35 ?j36 ?j37 ?j38 ?j39 ?j40 ?j41 ?j42 ?j43 ?j44 ?j45 ?j46 ?j47 ?j48 ?j49 ?j50 ?j51 ?j52 ?j53 ?j54 ?j55 ?j56 ?j57 ?j58 ?j59 ?j60 ?j61 ?j62 ?j63 ?j64 ?j65 ?j66 ?j67 ?j68 ?j69 ?j70 ?j71 ?j72 ?j73 ?j74 ?j75 ?j76 ?j77 ?j78 ?j79 ?j80 ?j81 ?hb
 case j50|j51|j52=>walk_at "c"
 case j70|j77=>refine' ⟨⟨?_,?_,?_,?_⟩,mg_of (by assumption) (by assumption) ?a⟩;(case a=>k_is);k_is;k_is;k_is;k_is
 case j0|j1|j2|j3|j4|j5|j6|j12|j13|j14|j15|j16|j17|j18|j19|j20|j29|j30|j31|j32|j33|j34|j35|j36|j37|j38|j39|j40|j41|j42|j43|j44|j45|j46|j47|j48|j49=>walk_at "d"
 case j7|j8|j9|j10|j11|j22|j23|j24|j25|j26|j27|j28=>walk_at "e"
 case j21=>refine' LV.mdmkN ?l ?c ?k ?a ?i ?t ?b ?bn;(case a | i | l | c | k | t=>k_is);(case b=>intro _ _ _ _ _ _;repeat' first | exact LV.ec0 (⟨_,rfl,rfl⟩) | refine LV.ec1 λ _=>?_);(case bn=>intro _ _ _ _ _ _;refine LV.ec2 ?_;repeat' first | exact LV.ec0 (⟨_,rfl,rfl⟩) | refine LV.ec1 λ _=>?_)
 case j53|j54|j55|j56|j57|j58|j59|j60|j61|j62|j63|j64|j65|j66|j67|j68|j69=>walk_at "z"
 case j72|j73|j74|j75|j79|j80|j81=>walk_at "n"
 case j76=>refine⟨?_,?_,?_,?_,kf_of ?_ ?_ ?_ ?_ ?_ ?_ ?_⟩<;>walk_at "q"
 case j71|j78=>refine⟨?_,?_,?_,?_⟩<;>k_is
 case hb=>exact λ s v=>.of_eq rfl
#print axioms PySem.Challenge.cw_homeward_k81_parted_holds
