import PyProof.Rows.All
import Wide.All
import OpenK.AllK
import Wide.FinOn
import Lean
import PyProof.EqAt
import PyProof.EqKinds
import PyProof.TupleCall
import PyProof.CompFree
import KE.KIsAll
import PyProof.AttrMiss
import PyProof.IsiH_list
import KE.KDictOf
import PyProof.ConsumeWalk
import PyProof.Rows.SetFrom
import PyProof.NeKinds
import PyProof.AutoListH
import PyProof.EnumMake
import PyProof.EnumFor
import PyProof.EnumStmt
import PyProof.LayNew
import PyProof.Rows.EnumRows
import KE.KDictList
import KE.KItemsList
import PyProof.ZipIter
import PyProof.Rows.ZipGen
import KE.KRevIter
import PySem.Challenge.RW_homeward_k84_whole_deeds_between
local macro_rules|`(⋯)=>`(by lia)|`(∅)=>`(by decide)
set_option linter.all false
set_option Elab.async false
def zA0:=@List.count_append
def zA1:=@Option.bind_eq_some_iff
def zA2:=@PySem.Heap.get?_push_of_some
def zA3:=@Nat.le_refl
def zA4:=@List.getElem?_eq_some_iff
def zA5:=@List.length_map
def zA6:=@List.mem_append
def zA7:=@List.size_toArray
def zA8:=@List.length_append
def zA9:=@List.mem_cons_of_mem
def zAa:=@Option.map_eq_some_iff
def zAb:=@List.mem_singleton
def zAc:=@PySem.Heap.lt_size
def zAd:=@List.append_nil
def zAe:=@Nat.zero_add
def zAf:=@List.mem_cons_self
def zAg:=@decide_eq_true
def zAh:=@List.mem_cons
def zAi:=@of_decide_eq_true
def zAj:=@List.getElem?_append_left
def zAk:=@Nat.lt_of_lt_of_le
def zAl:=@Nat.le_trans
def zAm:=@Bool.and_eq_true_iff
def zAn:=@List.length_cons
def zAo:=@List.append_assoc
def zAp:=@PySem.Heap.get?_push_size
def zAq:=@List.mem_range
def zAr:=@List.count_cons
def zAs:=@List.take_of_length_le
def zAt:=@List.mem_filter
def zAu:=@Nat.ne_of_lt
def zAv:=@List.lookup_cons
def zAw:=@Bool.false_ne_true
def zAx:=@List.mem_map
def zAy:=@List.map_cons
def zAz:=@List.nil_append
def zB0:=@List.mem_of_getElem?
def zB1:=@List.mem_append_right
def zB2:=@List.getElem?_eq_getElem
def zB3:=@decide_eq_false
def zB4:=@List.length_range
def zB5:=@List.length_take
def zB6:=@List.forall_mem_cons
def zB7:=@List.getElem?_map
def zB8:=@Array.length_toList
def zB9:=@Array.toList_append
def zBa:=@List.map_append
def zBb:=@Option.isSome_iff_exists
def zBc:=@beq_self_eq_true
def zBd:=@decide_eq_true_eq
def zBe:=@List.mem_of_mem_take
def zBf:=@List.cons_merge_cons
def zBg:=@List.not_mem_nil
def zBh:=@List.take_append_drop
def zBi:=@List.all_eq_true
def zBj:=@List.nodup_append
def zBk:=@List.take_add_one
def zBl:=@Nat.le_of_lt
def zBm:=@List.getElem?_set_ne
def zBn:=@List.forall_mem_append
def zBo:=@Nat.zero_le
def zBp:=@of_decide_eq_false
def zBq:=@Bool.and_eq_true
def zBr:=@Nat.le_add_right
def zBs:=@Array.perm_iff_toList_perm
def zBt:=@List.getElem?_append_right
def zBu:=@List.filterMap_cons
def zBv:=@List.pairwise_map
def zBw:=@List.replicate_succ
def zBx:=@List.getElem?_eq_none
def zBy:=@beq_iff_eq
def zBz:=@List.length_filterMap_le
def zC0:=@Int.emod_lt_of_pos
def zC1:=@List.cons_append
def zC2:=@decide_eq_decide
def zC3:=@List.map_map
def zC4:=@List.take_sublist
def zC5:=@Nat.le_of_lt_succ
def zC6:=@List.find?_cons
def zC7:=@List.length_reverse
def zC8:=@beq_false_of_ne
def zC9:=@beq_eq_false_iff_ne
def zCa:=@List.drop_of_length_le
def zCb:=@List.getElem?_set_self
def zCc:=@Nat.le_of_not_lt
def zCd:=@List.take_length
def zCe:=@List.length_drop
def zCf:=@Nat.lt_of_le_of_lt
def zCg:=@Nat.lt_irrefl
def zCh:=@PySem.Heap.size_push
def zCi:=@List.drop_eq_getElem_cons
def zCj:=@List.mem_append_left
def zCk:=@Nat.lt_of_succ_lt
def zCl:=@List.flatten_cons
def zCm:=@Int.emod_nonneg
def zCn:=@List.nodup_cons
def zCo:=@Nat.sub_le
def zCp:=@Int.emod_eq_of_lt
def zCq:=@List.any_cons
def zCr:=@Nat.succ_le_succ
def zCs:=@Nat.mod_eq_of_lt
def zCt:=@List.findIdx?_cons
def zCu:=@List.mem_filterMap
def zCv:=@or_false
def zCw:=@Bool.false_eq_true
def zCx:=@Nat.not_lt_zero
def zCy:=@Nat.min_eq_left
set_option genSizeOf false
set_option genInjectivity false
set_option maxRecDepth 100000
noncomputable section
structure PySem.W.Fast where
 (tw16740857645060442887 tw7899784993636831482 tw422273971511436842 tw14421145692149829345 tw18007272514496479654 tw2378663073570009356 tw17402946228515798217 tw17689614880380788636 tw11456239296537344848 tw1356110615753926546 tw13735547251144959122 tw17760645415909062159 tw3935156476369260879 tw9434009513210772580 tw17233109481339546053 tw8399753379352581545 tw1764135488251179519 tw2902672157291609904 tw2902241597606898483 tw16229570660769272721 tw12200241546687095007 tw7041401473880993187 tw4579719379896610937 tw7216357883772515512 tw6045824739121505302 tw17496975178049875893 tw4511666213020994716 tw9101121797116199992 tw3652791766849805560 tw10962887749398481475 tw7743686136258293922 tw16346496169582531532 tw17393774052365577268 tw9986488311595554639 tw10201459475282812567 tw12044101668767408447 tw17757228585720978867 tw17429582709288624352 tw22339249269629809 tw8763317186708606090
 tw3169083068369880227 tw9170455031126264107 tw1873557962944079070 tw18383417443561826621 tw12820831871967037620 tw8826465603517393545 tw10796967534899317293 tw10517821633046991223 tw14117223569631704787 tw17406513290758636469 tw5283649002809017245 tw15983149330415642102 tw111587364058637984 tw16851124593928113118 tw16764519323378067523 tw17057202159118268901 tw4066832224553530861 tw11894448041237351336 tw6198640703922429752 tw5989078979999431932 tw13601663357727144861 tw12464698406629741251 tw12604421338037425192 tw11143964312487784628 tw5293244455931069581 tw1339529706468062854 tw9648189564771362334 tw3942358329437999959 tw3392463027192882377 tw8011458247178288790 tw5471913985443071223 tw10812535881682986956 tw2205704164384528256 tw7441287845266471630 tw301617028659969114 tw16174541429727164278 tw12580861713933936081 tw5215038693426209171 tw14638721720604310890 tw16101851798587164420
 tw8683680971178611223 tw2651142953729982129 tw13221540515332545629 tw4720751927232100863 tw3076097562270558769 tw6248354104474367988 tw13961913719076060316 tw13549327430220389966 tw1626862947487997107 tw447992604728644205 tw14382128225788241207 tw4625023401805069722 tw14698736455625558101 tw1083064116995898444 tw15106802361767672115 tw1842977199244262593 tw12470712170513075217 tw2774070752750702707 tw13944762105047867581 tw9666232721266710889 tw15652196633600684313 tw10032089970969970520 tw2933992110016821682 tw10325751904076706749 tw6096633726316371586 tw13407592940022980158 tw4584285745452650508 tw15018635837460674301 tw15175480166016809927 tw16567064760861898803 tw8141128354479480688 tw7493742440371361701 tw17539413668938470328 tw16040853838960798385 tw9868674403770896954 tw4803305872806475742 tw4382799224884503452 tw3729289648970870172 tw6940898608736899907 tw14518433286940155582
 tw5862596450905164382 tw2189900768637110990 tw8112438258051419323 tw11641003909540543031 tw9093613257576042713 tw45554678096961622 tw13325264126436326206 tw13236728789578423654 tw1456671673706435914 tw12705889631389364556 tw3413901985404200908 tw9647509750278109234 tw78164073494745816 tw11807802162026062807 tw6866755732129137970 tw9187622937222104152 tw4193483813295230168 tw15457144136044764957 tw8824648273729750676 tw16979804536336261476 tw16700417435152186361 tw3010267860100939576 tw9128955966124206667 tw3608360320958583063 tw9102791930961258060 tw1572933210015563818 tw14342030573617028946 tw10395613404071890891 tw14713346387271130098 tw10142224644851658147 tw4290865254191566529 tw6644936726994568923 tw7428068212635932473 tw1714648179516571664 tw16123762931951105704 tw8712338218294850430 tw16604086945717967220 tw14038452156290584750 tw5394779335720989037 tw14876145953459455963
 tw9393319725271947520 tw3131164096848764920 tw17879636725519938483 tw9677267971335898954 tw4952696606031076453 tw4836918461734248634 tw10834331103708215796 tw1012665956448484900 tw14847458786689471701 tw2082662482606057404 tw10459946195347121064 tw8047656715505741826 tw16226700354254019319 tw11454380738212214882 tw9186369668868528855 tw3549163362230200631 tw17408735406917584911 tw14057771783890896049 tw7176008483992888512 tw17754460675509747711 tw4439754530995018955 tw1330812294267121339 tw3388266609992891388 tw7019992537579832183 tw4761910549203428252 tw12795211182515214773 tw14574716195795955011 tw9974566925169673709 tw12881531512284241603 tw6189315150350185976 tw12029863551972731557 tw948120812748094968 tw9686346215124006732 tw989583403187464402 tw7353772706525242479 tw15466939585230141000 tw3077463207813319437 tw4428510513591045932 tw13365812472680617938 tw14044074589260028279
 tw17656772801547141408 tw2272793991306947714 tw15216333815299238013 tw2852069678482140634 tw11676797838263794351 tw443581866655106836 tw8584892797660755018 tw5516745881617455899 tw16200966073654096260 tw15412467151882265469 tw14855816502856109037 tw12685851963776230302 tw10095395308071488553 tw18321792727827844641 tw13102970801439891013 tw12063170006887912779 tw17726314714220744048 tw13027204060943117858 tw8893541714667225507 tw3907470615734977217 tw9983811125910195647 tw9638546698184678192 tw7720391503852980759 tw7275767088946517581 tw5367179538115497446 tw4102670063991498575 tw4010840516484696607 tw3759521673452085565 tw325399379362589804 tw2554976738548069318 tw2123787295164385514 tw15554955649315661669 tw13097962606247101957 tw12579393688780028716 tw11356491426991610281 tw10499133768923003820:Nat)
abbrev N'(x:PySem.Str):Prop:=(x==("__debug__" : PySem.Str))=false
abbrev γ:=PySem.Addr
abbrev V':=PySem.Value
abbrev δ:=PySem.Shared
abbrev ε:=PySem.FuncData
open PySem renaming wpAny_bind→E',wpAny_pure→J',starEach→Kj,sizeLine→Kk,compareOp→Kl,foldedSetIterable→Km,wpAny_holding→Kn,bootBuiltins→Ko,wpAny_truthy_bool→Kq,attributeBase→Kr,sizeLine_eq→Ks,mainGlobals→Kt,sysModules→Ku,keywordEach→Kv,wpAny_mono→Kw,wpAny_rule→Kx,wpAny_passesOwn→Ky,call_meets→Kz,assignEach→K4,binaryOp→K5,wpAny→K6,model→K7,Program→K8,Around→K9,World→La,Expr→Lb,Stmt→Lc
open PyProof.Rows renaming wpS_bind→Ld,wpS_pure→Lf,pendingOf→Lg,failedOf→Lh,wpS_modify→Li,arrOf→Lj,Keyed→Ll,SortSt→Lm,kindOf→Ln,setArr→Lp,setPending→Lq
open _root_.List renaming range→Lr,replicate→Ls,merge→Lu,length→Lv,length_filter_le→Lw,filter_cons→Lx,all_cons→Ly,lookup→Lz,forIn_cons→L5,sublist_append_left→L6,count_nil→L7,filter_cons_of_neg→L8,filter_cons_of_pos→L9,filter_congr→Ma,drop_eq_nil_of_le→Mb,map_take→Mc,eraseIdx_eq_take_drop_succ→Me,foldl→Mf,length_nil→Mg,dropLast_concat→Mh,length_zipWith→Mi,mem_map_of_mem→Mj,drop_zero→Ml,forIn_nil→Mm,filter_append→Mn,perm_ext_iff_of_nodup→Mo,pairwise_iff_getElem→Mp,nodup_range→Mq,drop_length→Mr,zipIdx_cons→Ms,of_mem_zip→Mt,length_set→Mu,filter_nil→Mv,length_singleton→Mw,set_append_right→Mx,drop_drop→Mz,take_zero→M3,set_append_left→M4,map_drop→M5,mergeSort_perm→M6,map_nil→M7,getD→M8,forIn_toArray→M9,contains_cons→M',set_set→Na,filterMap_map→Nb,getElem_range→Nc,getElem_take→Nd,getElem_drop→Nf,getElem_inj→Ng,countP_cons→Nh,merge_right→Ni,map_reverse→Nj,foldl_cons→Nk,zipIdx_nil→Nl,range_succ→Nm,countP_map→Nn,nodup_nil→No,nil_merge→Np,take_take→Nq,mapM_cons→Nr,filterMap→Nt,take_add→Nu,all_map→Nv,zipWith→Nw
open PySem.Value renaming ref→Nx,int→Ny,none→Nz,bool→N0,str→N1,float→N2,type→N3,isStrOf→N4,isInt→N5,bytes→N6
open And renaming imp_right→N7
open Option.some renaming inj→N8
open PySem.PassesOwn renaming leaving→N9
open PySem.W renaming Frag→Oa,kitOne→Ob
open PySem.F renaming plainAttrs_list→Oc,slot_list_append→Oe,type_list_append→Of,slot_enumerate_next→Og,slot_list_index→Oh,slot_zip_next→Oi,type_list_index→Oj,args_enumerate_next_1→Ol,slot_dict_get→Om,entry_enumerate_next→On,slot_list_count→Oo,args_zip_next_1→Op,entry_zip_next→Oq,slot_list_remove→Os,args_dict_get_3→Ot,entry_dict_get→Ou,slot_list_pop→Ov,slot_int_rmul→Ow
open PySem.NameKind renaming free→Ox,cell→Oy
open False renaming elim→Oz
open Or renaming inr→O0,inl→O1,imp→O2
namespace L2
open PySem PySem.Spec PyProof.Rows
variable{M:Model}{N:List Str}{base:Heap}{body:List Lc}{ch fp:List γ}{i n t':Nat}{kw:List (Str×V')}{mg:Str->Option V'}{op:CmpOp}{pl:Sem Bool}{us:List V'}
abbrev Key:=Sum Int Str
noncomputable def Fm:Key->V'->Bool|.inl k,v=>N5 k v|.inr x,v=>N4 x v
noncomputable def keyH(w:La):Key->Int|.inl k=>hashInt k|.inr x=>hashStr w x
theorem qe5:∀{k:Key}{v:V'},Fm k v=true->(∃i t,k=Sum.inl i/\v=Ny i t)∨(∃x t,k=Sum.inr x/\v=N1 x t)|.inl i,v,h=>by obtain⟨t,e⟩:=Value.isInt_shape (k:=i) (v:=v) h;exact .inl ⟨i,t,rfl,e⟩|.inr x,v,h=>by obtain⟨t,e⟩:=Value.isStrOf_shape (x:=x) (v:=v) h;exact .inr ⟨x,t,rfl,e⟩
theorem qas3(i:Int)(t:Tok):Fm (.inl i) (.int i t)=true:=by simp[Fm,N5]
theorem qas2(x:Str)(t:Tok):Fm (.inr x) (.str x t)=true:=by simp[Fm,N4]
theorem qaZ8(a b:Int):decide ((Sum.inl a:Key)=Sum.inl b)=(a==b):=by by_cases e:a=b;{subst e;simp};have h:¬(Sum.inl a:Key)=Sum.inl b:=λq=>e (Sum.inl.inj q);rw[zB3 h];exact(zC9.mpr e).symm
theorem qaZ5(a b:Str):decide ((Sum.inr a:Key)=Sum.inr b)=decide (a=b):=by by_cases e:a=b;{subst e;simp};have h:¬(Sum.inr a:Key)=Sum.inr b:=λq=>e (Sum.inr.inj q);rw[zB3 h,zB3 e]
theorem qaZ7(a:Int)(b:Str):decide ((Sum.inl a:Key)=Sum.inr b)=false:=zB3 (λq=>nomatch q)
theorem qaZ6(a:Str)(b:Int):decide ((Sum.inr a:Key)=Sum.inl b)=false:=zB3 (λq=>nomatch q)
def qh1(prog:K8)(w:La):PySem.KeyKind prog w Key where
 is:=Fm
 hash:=keyH w
 inj:=λv a b g f=>by
  rcases qe5 g with⟨i,t,rfl,rfl⟩|⟨x,t,rfl,rfl⟩
  .rcases qe5 f with⟨j,u,rfl,e⟩|⟨y,u,rfl,e⟩
   .injection e with c _;rw[c]
   exact nomatch e
  rcases qe5 f with⟨j,u,rfl,e⟩|⟨y,u,rfl,e⟩
  .exact nomatch e
  injection e with c _;rw[c]
 byValue:=λk v h=>by
  rcases qe5 h with⟨i,t,rfl,rfl⟩|⟨x,t,rfl,rfl⟩<;>rfl
 pyHash:=λd h=>by
  rcases qe5 d with⟨i,t,rfl,rfl⟩|⟨x,t,rfl,rfl⟩
  .exact wpAny_pyHash_int h
  exact wpAny_pyHash_str h
 eqBool:=λl d h=>by
  rcases qe5 l with⟨i,t,rfl,rfl⟩|⟨x,t,rfl,rfl⟩
  .rcases qe5 d with⟨j,u,rfl,rfl⟩|⟨y,u,rfl,rfl⟩
   .rw[qaZ8] at h;exact wpAny_eqBool_int h
   rw[qaZ7] at h;exact SeqAt.EqAt.int_str i t y u _ _ _ _ h
  rcases qe5 d with⟨j,u,rfl,rfl⟩|⟨y,u,rfl,rfl⟩
  .rw[qaZ6] at h;exact SeqAt.EqAt.str_int x t j u _ _ _ _ h
  rw[qaZ5] at h;exact wpAny_eqBool_str h
 «strs»:=λk x t v h=>by
  rcases qe5 h with⟨i,u,rfl,e⟩|⟨y,u,rfl,e⟩
  .exact nomatch e
  injection e with c _
  subst c;cases v<;>rfl
theorem qac9(prog:K8)(w:La)(i:Int)(t:Tok):(qh1 prog w).is (.inl i) (.int i t)=true:=qas3 i t
theorem qac8(prog:K8)(w:La)(x:Str)(t:Tok):(qh1 prog w).is (.inr x) (.str x t)=true:=qas2 x t
inductive V where
 |non|bl (b:Bool)|int (i:Int)|str (x:Str)|byt (b:Array UInt8)|flt (b:UInt64)|ref (a:γ)|ty (n:String)
 deriving DecidableEq
def O8:V->V'->Prop|.non,u=>u=Nz|.bl b,u=>u=N0 b|.int i,u=>∃t,u=Ny i t|.str x,u=>∃t,u=N1 x t|.byt b,u=>∃t,u=N6 b t|.flt b,u=>∃t,u=N2 b t|.ref a,u=>u=Nx a|.ty n,u=>u=N3 n
abbrev O9:List V->List V'->Prop:=Paired O8
theorem O9.length(r:O9 xs us):xs.length=us.length:=Paired.length r
theorem O9.get:∀{xs:List V}{us:List V'}{i:Nat}{x:V},O9 xs us->xs[i]?=some x->∃u,us[i]?=some u/\O8 x u|_,_,_,_,.nil,e=>by simp at e|_,_,0,_,.cons r _,e=>by simp at e;subst e;exact⟨_,rfl,r⟩|_,_,i+1,x,.cons _ t,e=>by obtain⟨u,a,b⟩:=O9.get (i:=i) (x:=x) t (by simpa using e);exact⟨u,by simpa using a,b⟩
theorem O9.set{x:V}{u:V'}(r:O8 x u):∀{xs:List V}{us:List V'}(i:Nat),O9 xs us->O9 (xs.set i x) (us.set i u)|_,_,_,.nil=>.nil|_,_,0,.cons _ t=>.cons r t|_,_,i+1,.cons q t=>.cons q (O9.set r i t)
theorem O9.append(h:O9 xs us)(s:O9 ys a):O9 (xs++ys) (us++a):=by induction h with|nil=>exact s|cons r t i=>exact .cons r i
theorem O9.take:∀{xs:List V}{us:List V'}(n:Nat),O9 xs us->O9 (xs.take n) (us.take n)|_,_,0,_=>.nil|_,_,_+1,.nil=>.nil|_,_,n+1,.cons r t=>.cons r (O9.take n t)
theorem O9.drop:∀{xs:List V}{us:List V'}(n:Nat),O9 xs us->O9 (xs.drop n) (us.drop n)|_,_,0,r=>r|_,_,_+1,.nil=>.nil|_,_,n+1,.cons _ t=>O9.drop n t
def RelO:Option V->Option V'->Prop|some v,some u=>O8 v u|none,none=>True|_,_=>False
def KV{a:Type}:List (a×V)->List (a×V')->Prop:=Paired λ(p:a×V)(q:a×V')=>p.1=q.1/\O8 p.2 q.2
noncomputable def kV:Key->V|.inl i=>.int i|.inr x=>.str x
inductive HO where
 |l (xs:List V)
 |q (xs:List V)
 |dK (kvs:List (Key×V))|dT (kvs:List (List Key×V))
 |set (S:Int->Bool) (n:Nat)
 |ins (C dx:γ) (fs:List (Str×V))
 |own (x:γ)
 |xd (fs:List (Str×V))
 |met (f x:γ)
 |rng (lo hi:Int)
 |frz (o:Obj) (u:HO)
 |tbl (ps:Array V')
 |ext (φ:Heap->Prop)
noncomputable abbrev Hp:=γ->Option HO
noncomputable def upd(H:Hp)(a:γ)(o:HO):Hp:=λb=>if b=a then some o else H b
theorem qc6:upd H a o a=some o:=by unfold upd;rw[if_pos rfl]
theorem qd6(h:b≠a):upd H a o b=H b:=by unfold upd;rw[if_neg h]
theorem qaJ6:upd (upd H a o) a u=upd H a u:=by funext b;unfold upd;split<;>rfl
theorem ne_of{H:Hp}(h:H a=some o)(h':H b=some u)(d:o≠u):a≠b:=by intro e;subst e;rw[h] at h';exact d (N8 h')
theorem qf7{H:Hp}(h:H a=some o)(h':H b=none):a≠b:=by intro e;subst e;rw[h] at h';cases h'
section
variable(P:K8)(w:La)
def ObjOk(H:Hp)(h:Heap)(a:γ):HO->Prop
 |.l xs=>xs.length<=Kk/\∃(its:List V')(n:Nat),O9 xs its/\h.get? a=some {cls:=.type "list",data:=.seq its.toArray n}|.q xs=>xs.length<=Kk/\∃its:List V',O9 xs its/\IsTup h a its.toArray|.dK kvs=>kvs.length<=Kk/\(a==Ku)=false/\∃vs,KV kvs vs/\h.DictOf (qh1 P w) a vs|.dT kvs=>kvs.length<=Kk/\(a==Ku)=false/\∃xs:List (List Key×γ×V'),
  Paired (λ(p:List Key×V)(q:List Key×γ×V')=>p.1=q.1/\H q.2.1=some (.q (p.1.map kV))/\O8 p.2 q.2.2) kvs xs/\∃o es b,h.get? a=some o/\o.ExactDict/\o.data=.dict es b/\es.toList=xs.map (entryOfKey (tupleKind (qh1 P w)))/\(xs.map (·.1)).Nodup
 |.set S n=>h.SetOf (intKind P w) a S n|.ins C dx fs=>H dx=some (.own a)/\fs.length<=1000/\dx≠a/\h.get? a=some (W.instObj C dx)/\∃mA,h.Ns1 dx mA/\(∀f,RelO (fs.lookup f) (mA f))/\PySem.Within mA (fs.map (·.1))|.own _=>∃o,h.get? a=some o|.xd fs=>∃mA,h.Ns1 a mA/\∀f,RelO (fs.lookup f) (mA f)|.rng lo hi=>∃t u v,h.get? a=some {cls:=.type "range",data:=.fields #[.int lo t,.int hi u,.int 1 v]}|.frz o u=>h.get? a=some o/\ObjOk H h a u|.tbl ps=>h.get? a=some {cls:=.none,data:=.fields ps}|.met f x=>h.get? a=some (W.methodObj (.ref f) (.ref x))|.ext φ=>φ h/\(∃o,h.get? a=some o)/\∀h1 h2:Heap,φ h1->(∀o,h1.get? a=some o->h2.get? a=some o)->φ h2
def HOk(H:Hp)(h:Heap):Prop:=∀a o,H a=some o->ObjOk P w H h a o
end
section
variable{P:K8}{w:La}{H H':Hp}{h h':Heap}{a:γ}{o:HO}
theorem ObjOk.lt(x:ObjOk P w H h a o):a<h.objs.size:=by cases o with|l c=>obtain⟨_,_,_,_,e⟩:=x;exact zAc e|q c=>obtain⟨_,_,_,p⟩:=x;exact p.lt|dK b=>obtain⟨_,_,_,_,o,_,_,e,_⟩:=x;exact zAc e|dT b=>obtain⟨_,_,_,_,o,_,_,e,_⟩:=x;exact zAc e|set S n=>obtain⟨o,_,_,_,e,_⟩:=x;exact zAc e|ins C g d=>obtain⟨_,_,_,e,_⟩:=x;exact zAc e|own y=>obtain⟨_,e⟩:=x;exact zAc e|xd d=>obtain⟨_,⟨_,_,_,e,_⟩,_⟩:=x;exact zAc e|rng i j=>obtain⟨_,_,_,e⟩:=x;exact zAc e|frz k u=>obtain⟨e,_⟩:=x;exact zAc e|tbl l=>exact zAc (show h.get? a=some _ from x)|met f y=>exact zAc (show h.get? a=some _ from x)|ext φ=>obtain⟨_,⟨_,e⟩,_⟩:=x;exact zAc e
theorem Paired.mapP{α β:Type}{F G:α->β->Prop}{l:List α}{m:List β}(h:Paired F l m)(f:∀a b,F a b->G a b):Paired G l m:=by induction h with|nil=>exact .nil|cons r t i=>exact .cons (f _ _ r) i
theorem ObjOk.stay(x:ObjOk P w H h a o)(k:∀b u,(b=a∨H b=some (.own a))->h.get? b=some u->h'.get? b=some u)(E:∀b,H b=some (.own a)->H' b=some (.own a))(F:∀b xs,H b=some (.q xs)->H' b=some (.q xs)):ObjOk P w H' h' a o:=by induction o with|l xs=>obtain⟨z,l,n,r,e⟩:=x;exact⟨z,l,n,r,k _ _ (.inl rfl) e⟩|q xs=>obtain⟨z,l,r,g,e,c⟩:=x;exact⟨z,l,r,g,k _ _ (.inl rfl) e,c⟩|dK m=>obtain⟨z,y,G,r,g,i,j,e,c⟩:=x;exact⟨z,y,G,r,g,i,j,k _ _ (.inl rfl) e,c⟩|dT m=>obtain⟨z,y,xs,r,g,i,j,e,c⟩:=x;exact⟨z,y,xs,Paired.mapP r λp q z=>⟨z.1,F _ _ z.2.1,z.2.2⟩,g,i,j,k _ _ (.inl rfl) e,c⟩|set S n=>obtain⟨g,i,j,t,e,c⟩:=x;exact⟨g,i,j,t,k _ _ (.inl rfl) e,c⟩|ins C L I=>obtain⟨d,z,J,e,s,⟨A,i,j,e2,c⟩,r⟩:=x;exact⟨E _ d,z,J,k _ _ (.inl rfl) e,s,⟨A,i,j,k _ _ (.inr d) e2,c⟩,r⟩|own y=>obtain⟨g,e⟩:=x;exact⟨g,k _ _ (.inl rfl) e⟩|xd I=>obtain⟨s,⟨A,i,j,e,c⟩,r⟩:=x;exact⟨s,⟨A,i,j,k _ _ (.inl rfl) e,c⟩,r⟩|rng M N=>obtain⟨t,u,v,e⟩:=x;exact⟨t,u,v,k _ _ (.inl rfl) e⟩|frz g u K=>obtain⟨e,q⟩:=x;exact⟨k _ _ (.inl rfl) e,K q⟩|tbl B=>have e:h.get? a=some {cls:=.none,data:=.fields B}:=x;show h'.get? a=some {cls:=.none,data:=.fields B};exact k a _ (.inl rfl) e|met f y=>have e:h.get? a=some (W.methodObj (.ref f) (.ref y)):=x;show h'.get? a=some (W.methodObj (.ref f) (.ref y));exact k a _ (.inl rfl) e|ext φ=>obtain⟨p,⟨o,e⟩,D⟩:=x;exact⟨D _ _ p λo q=>k _ _ (.inl rfl) q,⟨o,k _ _ (.inl rfl) e⟩,D⟩
theorem HOk.lt(x:HOk P w H h)(e:H a=some o):a<h.objs.size:=(x a o e).lt
theorem HOk.fresh(x:HOk P w H h)(e:h.objs.size<=a):H a=none:=by cases q:H a with|none=>rfl|some u=>exact absurd (zAk (x.lt q) e) (zCg _)
theorem HOk.kept(x:HOk P w H h)(k:∀b u,h.get? b=some u->h'.get? b=some u):HOk P w H h':=λa o e=>
 (x a o e).stay (λb u _ q=>k b u q) (λ_ q=>q) λ_ _ q=>q
theorem HOk.laid(x:HOk P w H h)(k:∀b u,h.get? b=some u->h'.get? b=some u)(i:h.objs.size<=a)(d:ObjOk P w (upd H a o) h' a o):HOk P w (upd H a o) h':=λb u e=>by
 have f:=x.fresh i;by_cases g:b=a
 .subst g;rw[qc6] at e;cases e;exact d
 rw[qd6 g] at e;exact(x b u e).stay (λc v _ q=>k c v q) (λc q=>by rw[qd6 (qf7 q f)];exact q) λc j q=>by rw[qd6 (qf7 q f)];exact q
end
def Rd(H:Hp)(a:γ)(u:HO):Prop:=H a=some u∨∃o,H a=some (.frz o u)
theorem Rd.ok(r:Rd H a u)(x:HOk P w H h):ObjOk P w H h a u:=by rcases r with r|⟨o,r⟩;{exact x a u r};obtain⟨_,q⟩:=x a _ r;exact q
def Mut:Option HO->Prop|some (.l _)=>True|some (.dK _)=>True|some (.dT _)=>True|some (.set _ _)=>True|some (.ins _ _ _)=>True|some (.ext _)=>True|_=>False
section
variable{P:K8}{w:La}{H:Hp}{h h':Heap}{x e:γ}{o':HO}
theorem HOk.write(o:HOk P w H h)(d:Mut (H x))(m:e=x∨H e=some (.own x))(k:∀b u,b≠e->h.get? b=some u->h'.get? b=some u)(j:∃u,h'.get? e=some u)(l:ObjOk P w (upd H x o') h' x o'):HOk P w (upd H x o') h':=λb u q=>by
 have nown:∀c y,H c=some (.own y)->c≠x:=λc y r z=>by subst z;rw[r] at d;exact d
 have ntup:∀c f,H c=some (.q f)->c≠x:=λc f r z=>by subst z;rw[r] at d;exact d
 by_cases g:b=x
 .subst g;rw[qc6] at q;cases q;exact l
 rw[qd6 g] at q;by_cases a:b=e
 .have n:H b=some (.own x):=by
   rcases m with z|z
   .exact absurd (a.trans z) g
   rw[a];exact z
  rw[q] at n;cases n;obtain⟨v,p⟩:=j;exact⟨v,by rw[a];exact p⟩
 refine(o b u q).stay (λc v i r=>k c v ?_ r) (λc r=>by rw[qd6 (nown c b r)];exact r) λc f r=>by rw[qd6 (ntup c f r)];exact r
 rcases i with rfl|i
 .exact a
 rintro rfl;rcases m with z|z
 .exact nown c b i z
 rw[i] at z;cases z;exact g rfl
end
structure Un(fs ex:List γ)(H H':Hp)(h h':Heap):Prop where
 keep:∀b o,h.get? b=some o->H b=none->b∉fs->b∉ex->h'.get? b=some o
 slot:∀b o,h.get? b=some o->H b=none->b∈fs->b∉ex->∃sl,h'.get? b=some {o with slots:=sl}
 free:∀b o,h.get? b=some o->H b=none->b∉ex->H' b=none
 there:∀b o,h.get? b=some o->b∉ex->∃o',h'.get? b=some o'
 tups:∀b xs,H b=some (.q xs)->H' b=some (.q xs)
 frzs:∀b o u,H b=some (.frz o u)->H' b=some (.frz o u)
 tbls:∀b ps,H b=some (.tbl ps)->∃more,H' b=some (.tbl (ps++more))
section
variable{fs s:List γ}{H v y:Hp}{h t w h':Heap}{a x e:γ}{o:HO}
theorem Un.any(u:Un fs s H v h t)(q:h.get? b=some ob)(n:H b=none)(a:b∉s):∃d,t.get? b=some {ob with slots:=d}:=by by_cases c:b∈fs;{exact u.slot b ob q n c a};exact⟨ob.slots,u.keep b ob q n c a⟩
theorem Un.trans(a:Un fs s H v h t)(b:Un fs s v y t w):Un fs s H y h w where
 keep:=λc d q n g e=>b.keep c d (a.keep c d q n g e) (a.free c d q n e) g e
 slot:=λc d q n g e=>by
  obtain⟨p,f⟩:=a.slot c d q n g e;obtain⟨j,e2⟩:=b.slot c _ f (a.free c d q n e) g e;exact⟨j,e2⟩
 free:=λc d q n e=>by
  obtain⟨k,f⟩:=a.there c d q e;exact b.free c k f (a.free c d q n e) e
 there:=λc d q e=>by
  obtain⟨k,f⟩:=a.there c d q e;exact b.there c k f e
 tups:=λc i q=>b.tups c i (a.tups c i q)
 frzs:=λc d i q=>b.frzs c d i (a.frzs c d i q)
 tbls:=λc l q=>by
  obtain⟨m,f⟩:=a.tbls c l q;obtain⟨o,e2⟩:=b.tbls c _ f;exact⟨m++o,by rw[e2,Array.append_assoc]⟩
theorem Un.kept(k:∀b u,h.get? b=some u->h'.get? b=some u):Un fs s H H h h':=⟨λb a q _ _ _=>k b a q,λb a q _ _ _=>⟨a.slots,k b a q⟩,λ_ _ _ n _=>n,λb a q _=>⟨a,k b a q⟩,λ_ _ q=>q,λ_ _ _ q=>q,λ_ c q=>⟨#[],by rw[q];simp⟩⟩
theorem Un.refl:Un fs s H H h h:=Un.kept λ_ _ q=>q
theorem Un.laid(k:∀b u,h.get? b=some u->h'.get? b=some u)(d:h.objs.size<=a)(c:H a=none):Un fs s H (upd H a o) h h' where
 keep:=λb u q _ _ _=>k b u q
 slot:=λb u q _ _ _=>⟨u.slots,k b u q⟩
 free:=λb u q n _=>by rw[qd6 (zAu (zAk (zAc q) d))];exact n
 there:=λb u q _=>⟨u,k b u q⟩
 tups:=λb e q=>by rw[qd6 (qf7 q c)];exact q
 frzs:=λb u e q=>by rw[qd6 (qf7 q c)];exact q
 tbls:=λb f q=>⟨#[],by rw[qd6 (qf7 q c),q];simp⟩
theorem Un.write(c:Mut (H x))(j:e=x∨H e=some (.own x))(k:∀b u,b≠e->h.get? b=some u->h'.get? b=some u)(d:∃u,h'.get? e=some u):Un fs s H (upd H x o) h h':=by
 have g:∀b,H b=none->b≠x:=λb n z=>by subst z;rw[n] at c;exact c
 have i:∀b,H b=none->b≠e:=λb n z=>by subst z;rcases j with r|r;{exact g b n r};rw[n] at r;cases r
 have f:∀b u,H b=some u->¬Mut (some u)->b≠x:=λb u q l z=>by subst z;rw[q] at c;exact l c
 refine⟨λb u q n _ _=>k b u (i b n) q,λb u q n _ _=>⟨u.slots,k b u (i b n) q⟩,λb u q n _=>by rw[qd6 (g b n)];exact n,λb u q _=>?_,
  λb m q=>by rw[qd6 (f b _ q λz=>z)];exact q,λb u m q=>by rw[qd6 (f b _ q λz=>z)];exact q,λb p q=>⟨#[],by rw[qd6 (f b _ q λz=>z),q];simp⟩⟩
 by_cases a:b=e;{subst a;exact d};exact⟨u,k b u a q⟩
end
noncomputable def trk(h:Heap)(H:Hp):List γ:=(Lr h.objs.size).filter λa=>(H a).isSome
def Fy(h:Heap)(H:Hp):Heap:=W.hideAll h (trk h H)
theorem qas5(h:Heap)(H:Hp):(Fy h H).objs.size=h.objs.size:=W.hideAll_size _ _
theorem qaG8(e:h.get? b=some o)(n:H b=none):(Fy h H).get? b=some o:=W.hideAll_get _ e λa=>by
 have q:(H b).isSome=true:=(zAt.mp a).2;rw[n] at q;simp at q
theorem qaP1(e:(Fy h H).get? b=some o):h.get? b=some o/\H b=none:=by have a:h.get? b=some o:=W.of_hideAll (trk h H) e;refine⟨a,?_⟩;cases q:H b with|none=>rfl|some x=>have c:b∈trk h H:=zAt.mpr ⟨zAq.mpr (zAc a),by simp[q]⟩;have z:(Fy h H).get? b=none:=W.hideAll_none (trk h H) c;rw[z] at e;cases e
structure Mod(K:Oa)(mg:Str->Option V')(base:Heap):Prop where
 kin:K.In base
 glob:base.Ns Kt mg
 blt:∃mb,base.Ns builtinsNs mb/\∀x:Str,x ≠ "__name__" -> mb x=Ko x
 nolimit:base.NoLimit
structure Cx where
 prog:K8
 w:La
 K:Oa
 mg:Str->Option V'
 base:Heap
 A:K9
 N:List Str
 s₀:δ
 H₀:Hp
 env:Env
 outer:List Env
 stack:List Env
 ex:List γ
 fn:Str->Bool
 calm:Bool
 pn:List (γ×Obj)
 xe:V'->δ->Prop
noncomputable def frs(l:List Env):List γ:=l.filterMap (·.frame)
abbrev Cx.fs(X:Cx):List γ:=frs X.outer
def Vis(sc:Scope)(x:Str):Prop:=sc.names.lookup x=some .local∨sc.names.lookup x=some .cell∨sc.names.lookup x=some .free
def Loc(sc:Scope)(x:Str):Prop:=sc.names.lookup x=some .local∨sc.names.lookup x=some .cell
def Look(env:Env)(h:Heap)(m:Str->Option V')(x:Str)(u:V'):Prop:=(env.kindOf x=some .local/\m x=some u)∨((env.kindOf x=some .cell∨env.kindOf x=some .free)/\∃c,env.cells.lookup x=some c/\h.IsCell c (some u))
structure Cx.Ok(X:Cx):Prop where
 mod:Mod X.K X.mg X.base
 kind:X.env.scope.kind=.function
 glob:X.env.globals=Kt
 blt:X.env.builtins=builtinsNs
 above:X.s₀.heap.objs.size<=X.env.locals
 inj:∀x y c,X.env.cells.lookup x=some c->X.env.cells.lookup y=some c->x=y
 has:∀x,(X.env.kindOf x=some .cell∨X.env.kindOf x=some .free)->∃c,X.env.cells.lookup x=some c
 cab:∀x c,X.fn x=true->X.env.cells.lookup x=some c->X.s₀.heap.objs.size<=c
 hd:X.calm=true->X.A.handled=none
 frames:X.A.frames=some X.stack
 stk:X.stack=X.outer∨(X.stack=X.env::X.outer/\X.env.frame=some X.env.locals)
 exf:∀b∈X.ex,b≠X.env.locals/\∀x c,X.env.cells.lookup x=some c->c≠b
 bs:∀b o,X.base.get? b=some o->X.s₀.heap.get? b=some o/\X.H₀ b=none
 bsz:X.base.objs.size<=X.s₀.heap.objs.size
 noex:∀b o,X.base.get? b=some o->b∉X.ex
 exfs:∀b∈X.ex,b∉X.fs
 funs:X.s₀.heap.FunFrames X.base X.outer
 frf:∀b∈X.fs,X.H₀ b=none
structure Pb(X:Cx)(D8:List (γ×Obj))(a:List (Option V))(H:Hp)(s:δ):Prop where
 ok:X.Ok
 os:s.os=X.s₀.os
 bare:AllBare s.gens
 base:Un X.fs X.ex X.H₀ H X.s₀.heap s.heap
 loc:∃m,s.heap.Ns X.env.locals m/\∀(i:Nat)(x:Str)(v:V),X.N[i]?=some x->a[i]?=some (some v)->Vis X.env.scope x->∃u,O8 v u/\Look X.env s.heap m x u
 cell:∀x c,X.env.cells.lookup x=some c->∃v,s.heap.IsCell c v
 free:H X.env.locals=none
 freeC:∀x c,X.env.cells.lookup x=some c->H c=none
 pin:∀p∈X.pn++D8,s.heap.get? p.1=some p.2/\H p.1=none/\p.1≠X.env.locals/\p.1∉X.fs/\∀v,p.2.data≠.cell v
 hok:HOk X.prog X.w H s.heap
 len:a.length=X.N.length
section
variable{X:Cx}{D8:List (γ×Obj)}{σ:List (Option V)}{H H':Hp}{s:δ}{h':Heap}
theorem Cx.Ok.nofr(a:X.Ok)(e:X.base.get? b=some o):b∉X.fs:=λc=>by
 have:=(a.funs.mem c).1
 rw[e] at this;cases this
theorem Pb.bs(I:Pb X D8 σ H s):∀b o,X.base.get? b=some o->s.heap.get? b=some o/\H b=none:=λb o e=>
 ⟨I.base.keep b o (I.ok.bs b o e).1 (I.ok.bs b o e).2 (I.ok.nofr e) (I.ok.noex b o e),I.base.free b o (I.ok.bs b o e).1 (I.ok.bs b o e).2 (I.ok.noex b o e)⟩
theorem Pb.bk(I:Pb X D8 σ H s):∀b o,X.base.get? b=some o->s.heap.get? b=some o:=λb o e=>(I.bs b o e).1
theorem Pb.mod(I:Pb X D8 σ H s):Mod X.K X.mg X.base:=I.ok.mod
theorem Pb.kIn(I:Pb X D8 σ H s):X.K.In s.heap:=I.ok.mod.kin.keeps I.bk
theorem Pb.lt(I:Pb X D8 σ H s):X.env.locals<s.heap.objs.size:=let ⟨_,hn,_⟩:=I.loc;hn.lt
theorem Pb.sz(I:Pb X D8 σ H s):X.s₀.heap.objs.size<=s.heap.objs.size:=zAl I.ok.above (zBl I.lt)
theorem Pb.nofs(I:Pb X D8 σ H s)(h:s.heap.objs.size<=a):a∉X.fs:=λb=>by
 obtain⟨_,o,c,_⟩:=I.ok.funs.mem b;exact absurd (zAk (zAc c) (zAl I.sz h)) (zCg _)
theorem Pb.cne(I:Pb X D8 σ H s):∀x c,X.env.cells.lookup x=some c->c≠X.env.locals:=λx c e z=>by
 obtain⟨v,o,d,f⟩:=I.cell x c e;obtain⟨m,⟨g,h,i,a,b,_⟩,_⟩:=I.loc;rw[z,a] at d;cases d;rw[b] at f;cases f
theorem Pb.funs(I:Pb X D8 σ H s):s.heap.FunFrames X.base X.outer:=by
 have all:∀(l:List Env),(∀b∈frs l,b∈X.fs)->X.s₀.heap.FunFrames X.base l->s.heap.FunFrames X.base l:=by intro l;induction l with|nil=>intro _ _;trivial|cons g r h=>intro f i;obtain⟨j,⟨L,o,a,k,m,n⟩,p⟩:=i;have c:L∈X.fs:=f L (by unfold frs;rw[zBu,a];exact zAf);obtain⟨q,e⟩:=I.base.slot L o m (I.ok.frf L c) c λz=>I.ok.exfs L z c;exact⟨j,⟨L,_,a,k,e,n⟩,h (λb d=>f b (by unfold frs;rw[zBu,a];exact zA9 _ d)) p⟩
 exact all X.outer (λ_ d=>d) I.ok.funs
theorem Pb.stack(I:Pb X D8 σ H s):s.heap.FunFrames X.base X.stack:=by rcases I.ok.stk with e|⟨e,a⟩;{rw[e];exact I.funs};rw[e];obtain⟨m,b,_⟩:=I.loc;refine .cons (by rw[I.ok.kind];decide) a b ?_ I.funs;exact Heap.get?_none_of_le (zAl I.ok.bsz I.ok.above)
theorem Pb.stkSub(I:Pb X D8 σ H s):∀b∈frs X.stack,b∈X.env.locals::X.fs:=λb a=>by
 rcases I.ok.stk with e|⟨e,c⟩
 .rw[e] at a;exact zA9 _ a
 rw[e] at a;unfold frs at a;rw[zBu,c] at a;exact a
theorem Pb.stkFree(I:Pb X D8 σ H s):∀b∈frs X.stack,H b=none:=λb a=>by
 rcases zAh.mp (I.stkSub b a) with e|a
 .rw[e];exact I.free
 obtain⟨_,o,c,_⟩:=I.ok.funs.mem a;exact I.base.free b o c (I.ok.frf b a) λz=>I.ok.exfs b z a
theorem Pb.step(I:Pb X D8 σ H s)(f:∀b∈ch,(b∈X.ex∨X.s₀.heap.objs.size<=b)/\b≠X.env.locals/\(∀x c,X.env.cells.lookup x=some c->c≠b)/\∀p∈X.pn++D8,p.1≠b)(keep:∀b o,b≠X.env.locals->b∉X.fs->b∉ch->s.heap.get? b=some o->H b=none->h'.get? b=some o)(slot:∀b o,b≠X.env.locals->b∈X.fs->b∉ch->s.heap.get? b=some o->H b=none->∃B,h'.get? b=some {o with slots:=B})(free:∀b o,b∉ch->s.heap.get? b=some o->H b=none->H' b=none)(there:∀b o,b∉ch->s.heap.get? b=some o->∃o',h'.get? b=some o')(tups:∀b xs,H b=some (.q xs)->H' b=some (.q xs))(frzs:∀b o u,H b=some (.frz o u)->H' b=some (.frz o u))(tbls:∀b ps,H b=some (.tbl ps)->∃more,H' b=some (.tbl (ps++more)))(ns:∀m,s.heap.Ns X.env.locals m->h'.Ns X.env.locals m)(C:HOk X.prog X.w H' h')(K:AllBare g'):Pb X D8 σ H' {s with heap:=h',gens:=g',drawn:=d',toks:=t'}:=by
 have A:∀b o,X.s₀.heap.get? b=some o->b≠X.env.locals:=λb o e=>zAu (zAk (zAc e) I.ok.above);have h:∀b o,X.s₀.heap.get? b=some o->b∉X.ex->b∉ch:=λb o e a t=>by rcases (f b t).1 with z|z;{exact a z};exact absurd (zAk (zAc e) z) (zCg _)
 have cellK:∀x c,X.env.cells.lookup x=some c->∀v,s.heap.IsCell c v->h'.IsCell c v:=λx c e v ⟨o,y,D⟩=>by have g:c∉ch:=λz=>(f c z).2.2.1 x c e rfl;by_cases F:c∈X.fs;{obtain⟨B,q⟩:=slot c o (I.cne x c e) F g y (I.freeC x c e);exact⟨_,q,D⟩};exact⟨o,keep c o (I.cne x c e) F g y (I.freeC x c e),D⟩
 refine⟨I.ok,I.os,K,⟨λb o e n t a=>?_,λb o e n t a=>?_,λb o e n a=>?_,λb o e a=>?_,λb xs e=>tups b xs (I.base.tups b xs e),λb o xs e=>frzs b o xs (I.base.frzs b o xs e),λb ps e=>?_⟩,?_,λx c e=>?_,?_,λx c e=>?_,λp G=>?_,C,I.len⟩;{exact keep b o (A b o e) t (h b o e a) (I.base.keep b o e n t a) (I.base.free b o e n a)};{obtain⟨B,j⟩:=I.base.slot b o e n t a;obtain⟨E,e2⟩:=slot b _ (A b o e) t (h b o e a) j (I.base.free b o e n a);exact⟨E,e2⟩};{obtain⟨o',j⟩:=I.base.there b o e a;exact free b o' (h b o e a) j (I.base.free b o e n a)};{obtain⟨o',j⟩:=I.base.there b o e a;exact there b o' (h b o e a) j};{obtain⟨L,j⟩:=I.base.tbls b ps e;obtain⟨M,e2⟩:=tbls b _ j;exact⟨L++M,by rw[e2,Array.append_assoc]⟩};{obtain⟨m,N,O⟩:=I.loc;refine⟨m,ns m N,λi x v j e2 P=>?_⟩;obtain⟨u,r,l⟩:=O i x v j e2 P;refine⟨u,r,?_⟩;rcases l with l|⟨k,c,e,z⟩;{exact .inl l};exact .inr ⟨k,c,e,cellK x c e _ z⟩};{obtain⟨v,z⟩:=I.cell x c e;exact⟨v,cellK x c e v z⟩};{obtain⟨m,⟨o,_,_,y,_⟩,_⟩:=I.loc;exact free _ o (λz=>(f _ z).2.1 rfl) y I.free};{obtain⟨v,o,y,D⟩:=I.cell x c e;exact free c o (λz=>(f c z).2.2.1 x c e rfl) y (I.freeC x c e)};obtain⟨e,n,J,nf,d⟩:=I.pin p G;have g:p.1∉ch:=λz=>(f p.1 z).2.2.2 p G rfl;exact⟨keep p.1 p.2 J nf g e n,free p.1 p.2 g e n,J,nf,d⟩
theorem Pb.un(I:Pb X D8 σ H s)(u:Un X.fs [] H H' s.heap h')(c:HOk X.prog X.w H' h'):Pb X D8 σ H' {s with heap:=h',toks:=t'}:=by obtain⟨m,⟨o,l,p,h,r⟩,_⟩:=id I.loc;obtain⟨q,i⟩:=u.any h I.free (by simp);exact I.step (g':=s.gens) (d':=s.drawn) (ch:=[]) (λ_ z=>nomatch z) (λb o _ d _ e n=>u.keep b o e n d (by simp)) (λb o _ d _ e n=>u.slot b o e n d (by simp)) (λb o _ e n=>u.free b o e n (by simp)) (λb o _ e=>u.there b o e (by simp)) u.tups u.frzs u.tbls (λt j=>by obtain⟨v,f,g,a,k⟩:=j;rw[h] at a;cases a;exact⟨_,f,g,i,k⟩) c I.bare
theorem Pb.call(I:Pb X D8 σ H s)(u:Un (frs X.stack) ch H H' s.heap h')(g:HOk X.prog X.w H' h')(l:AllBare g')(d:∀b∈ch,(b∈X.ex∨X.s₀.heap.objs.size<=b)/\b≠X.env.locals/\(∀x c,X.env.cells.lookup x=some c->c≠b)/\∀p∈X.pn++D8,p.1≠b):Pb X D8 σ H' {s with heap:=h',gens:=g',drawn:=d',toks:=t'}:=by obtain⟨m,⟨o,y,A,k,r⟩,_⟩:=id I.loc;obtain⟨B,h⟩:=u.any k I.free λz=>(d _ z).2.1 rfl;exact I.step (ch:=ch) d (λb o h q a e n=>u.keep b o e n (λz=>(zAh.mp (I.stkSub b z)).elim h q) a) (λb o _ _ a e n=>u.any e n a) (λb o a e n=>u.free b o e n a) (λb o a e=>u.there b o e a) u.tups u.frzs u.tbls (λC t=>by obtain⟨D,i,j,f,v⟩:=t;rw[k] at f;cases f;exact⟨_,i,j,h,v⟩) g l
theorem Pb.turned(I:Pb X D8 σ H s)(k:∀b o,b≠it->s.heap.get? b=some o->h'.get? b=some o)(g:H it=none)(f:it≠X.env.locals)(h1:it∈X.ex∨X.s₀.heap.objs.size<=it)(h2:∀x c,X.env.cells.lookup x=some c->c≠it)(h:∀p∈X.pn++D8,p.1≠it):Pb X D8 σ H {s with heap:=h',toks:=t'}:=by
 have d:∀b u,H b=some u->b≠it:=λb u e z=>by rw[z,g] at e;cases e
 refine I.step (g':=s.gens) (d':=s.drawn) (ch:=[it]) (λb i=>?_) (λb o _ _ a e _=>k b o (λz=>a (by simp[z])) e) (λb o _ _ a e _=>⟨o.slots,k b o (λz=>a (by simp[z])) e⟩) (λ_ _ _ _ n=>n)
  (λb o a e=>⟨o,k b o (λz=>a (by simp[z])) e⟩) (λ_ _ e=>e) (λ_ _ _ e=>e) (λb y e=>⟨#[],by rw[e];simp⟩) (λm j=>?_) (λb u e=>?_) I.bare
 .have e:b=it:=by simpa using i
  subst e;exact⟨h1,f,h2,h⟩
 {obtain⟨o,l,t,w,r⟩:=j;exact⟨o,l,t,k _ o (Ne.symm f) w,r⟩};refine(I.hok b u e).stay (λc v a q=>k c v ?_ q) (λ_ q=>q) λ_ _ q=>q;rcases a with z|z;{rw[z];exact d b u e};exact d c _ z
theorem Pb.tok(I:Pb X D8 σ H s)(t:Nat):Pb X D8 σ H {s with toks:=t}:=I.un (h':=s.heap) (t':=t) Un.refl I.hok
theorem Pb.kept(I:Pb X D8 σ H s)(k:∀b u,s.heap.get? b=some u->h'.get? b=some u):Pb X D8 σ H {s with heap:=h',toks:=t'}:=I.un (Un.kept k) (I.hok.kept k)
theorem Pb.laid(I:Pb X D8 σ H s)(k:∀b u,s.heap.get? b=some u->h'.get? b=some u)(c:s.heap.objs.size<=a)(d:ObjOk X.prog X.w (upd H a o) h' a o):Pb X D8 σ (upd H a o) {s with heap:=h',toks:=t'}:=I.un (Un.laid k c (I.hok.fresh c)) (I.hok.laid k c d)
theorem Pb.write(I:Pb X D8 σ H s)(d:Mut (H x))(f:e=x∨H e=some (.own x))(k:∀b u,b≠e->s.heap.get? b=some u->h'.get? b=some u)(a:∃u,h'.get? e=some u)(c:ObjOk X.prog X.w (upd H x o) h' x o):Pb X D8 σ (upd H x o) {s with heap:=h',toks:=t'}:=I.un (Un.write d f k a) (I.hok.write d f k a c)
theorem Pb.pins_of(I:Pb X D8 σ H s)(h:∀p∈pins',s.heap.get? p.1=some p.2/\H p.1=none/\p.1≠X.env.locals/\p.1∉X.fs/\∀v,p.2.data≠.cell v):Pb X pins' σ H s:=⟨I.ok,I.os,I.bare,I.base,I.loc,I.cell,I.free,I.freeC,λp a=>(zA6.mp a).elim (λz=>I.pin p (zCj _ z)) (h p),I.hok,I.len⟩
theorem qai8(c:N.Nodup)(a:N[i]?=some x)(b:N[j]?=some x):i=j:=by obtain⟨e,d⟩:=zA4.mp a;obtain⟨f,e2⟩:=zA4.mp b;exact(Ng c).mp (d.trans e2.symm)
theorem qap4(I:Pb X D8 σ H s)(hN:X.N.Nodup)(hi:X.N[i]?=some x)(t:Loc X.env.scope x)(r:O8 v u)(h:∀s',Pb X D8 (σ.set i (some v)) H s'->(∃a,Heap.SameBut a s.heap s'.heap/\(a=X.env.locals∨X.env.cells.lookup x=some a))->Q () s')(hf:X.fn x=true∨X.env.scope.names.lookup x=some .local:=by first|exact .inl rfl|exact .inr rfl|assumption):K6 M A (storeName X.env x u) Q E s:=by
 obtain⟨m,W,hl⟩:=id I.loc;have K:(X.env.scope.kind==.class||(X.env.scope.kind==.module&&X.env.locals != X.env.globals))=false:=by rw[I.ok.kind];rfl
 have hiσ:i<σ.length:=by rw[I.len];exact(zA4.mp hi).1
 have C:=I.cne;have tracked:∀{a:γ}{J:Heap},(∃o,s.heap.get? a=some o/\H a=none)->Heap.SameBut a s.heap J->HOk X.prog X.w H J:=λ{a J} ha f b ob e=>by obtain⟨_,_,hfree⟩:=ha;refine(I.hok b ob e).stay (λc S l q=>(f.2 c ?_).trans q) (λ_ q=>q) λ_ _ q=>q;rintro rfl;rcases l with rfl|l;{rw[hfree] at e;cases e};rw[hfree] at l;cases l
 rcases t with B|B;{refine wpAny_storeName_local B W (λJ Y f=>?_) K;obtain⟨oL,_,_,Z,_⟩:=id W;refine h _ ⟨I.ok,I.os,I.bare,⟨λb o e n D t=>?_,λb o e n D t=>?_,I.base.free,λb o e t=>?_,I.base.tups,I.base.frzs,I.base.tbls⟩,⟨_,Y,λj y v' g e2 e3=>?_⟩,λy c e=>?_,I.free,I.freeC,λp hp=>?_,tracked ⟨oL,Z,I.free⟩ f,by simpa using I.len⟩ ⟨_,f,.inl rfl⟩;{exact(f.2 b (zAu (zAk (zAc e) I.ok.above))).trans (I.base.keep b o e n D t)};{obtain⟨sl,g⟩:=I.base.slot b o e n D t;exact⟨sl,(f.2 b (zAu (zAk (zAc e) I.ok.above))).trans g⟩};{obtain⟨o',g⟩:=I.base.there b o e t;exact⟨o',(f.2 b (zAu (zAk (zAc e) I.ok.above))).trans g⟩};{by_cases F:j=i;{subst F;rw[hi] at g;cases g;rw[zCb hiσ] at e2;cases e2;exact⟨u,r,.inl ⟨B,by simp⟩⟩};rw[zBm (Ne.symm F)] at e2;obtain⟨u',r',q⟩:=hl j y v' g e2 e3;refine⟨u',r',?_⟩;rcases q with⟨k,e⟩|⟨k,c,e,z⟩;{refine .inl ⟨k,?_⟩;have:y≠x:=λe=>F (qai8 hN g (e ▸ hi));simp[this,e]};exact .inr ⟨k,c,e,z.sameBut f (C y c e)⟩};{obtain⟨S,z⟩:=I.cell y c e;exact⟨S,z.sameBut f (C y c e)⟩};obtain⟨e,n,T,nf,d⟩:=I.pin p hp;exact⟨(f.2 p.1 T).trans e,n,T,nf,d⟩};have G:X.fn x=true:=by rcases hf with z|z;{exact z};rw[z] at B;cases B
 obtain⟨c,l⟩:=I.ok.has x (.inl B);obtain⟨S,z⟩:=I.cell x c l;refine wpAny_storeName_cell I.ok.kind B l z (λJ L f=>?_);obtain⟨oc,O,P⟩:=id z;refine h {s with heap:=J} ⟨I.ok,I.os,I.bare,⟨λb o e n D t=>?_,λb o e n D t=>?_,I.base.free,λb o e t=>?_,I.base.tups,I.base.frzs,I.base.tbls⟩,⟨m,W.sameBut f (Ne.symm (C x c l)),λj y v' g e2 e3=>?_⟩,λy U e=>?_,I.free,I.freeC,λp hp=>?_,tracked ⟨oc,O,I.freeC x c l⟩ f,by simpa using I.len⟩ ⟨c,f,.inr l⟩;{exact(f.2 b (zAu (zAk (zAc e) (I.ok.cab x c G l)))).trans (I.base.keep b o e n D t)};{obtain⟨sl,g⟩:=I.base.slot b o e n D t;exact⟨sl,(f.2 b (zAu (zAk (zAc e) (I.ok.cab x c G l)))).trans g⟩};{obtain⟨o',g⟩:=I.base.there b o e t;exact⟨o',(f.2 b (zAu (zAk (zAc e) (I.ok.cab x c G l)))).trans g⟩};{by_cases F:j=i;{subst F;rw[hi] at g;cases g;rw[zCb hiσ] at e2;cases e2;exact⟨u,r,.inr ⟨.inl B,c,l,L⟩⟩};rw[zBm (Ne.symm F)] at e2;obtain⟨u',r',q⟩:=hl j y v' g e2 e3;refine⟨u',r',?_⟩;rcases q with q|⟨k,U,e,z'⟩;{exact .inl q};refine .inr ⟨k,U,e,z'.sameBut f ?_⟩;rintro rfl;exact F (qai8 hN g (I.ok.inj _ _ _ e l ▸ hi))};{by_cases R:U=c;{subst R;exact⟨_,L⟩};obtain⟨w2,z2⟩:=I.cell y U e;exact⟨w2,z2.sameBut f R⟩};obtain⟨e,n,T,nf,d⟩:=I.pin p hp;refine⟨(f.2 p.1 ?_).trans e,n,T,nf,d⟩;intro q;rw[q,O] at e;have q':oc=p.2:=N8 e;exact d S (by rw[<-q'];exact P)
theorem qR2(I:Pb X D8 σ H s)(a:X.N.Nodup)(hi:X.N[i]?=some x)(b:Loc X.env.scope x)(r:O8 v u)(h:∀s',Pb X D8 (σ.set i (some v)) H s'->Q () s')(c:X.fn x=true∨X.env.scope.names.lookup x=some .local:=by first|exact .inl rfl|exact .inr rfl|assumption):K6 M A (storeName X.env x u) Q E s:=qap4 I a hi b r (λs' I' _=>h s' I') c
theorem Pb.call'(I:Pb X D8 σ H s)(i:s'.os=s.os)(u:Un (frs X.stack) ch H H' s.heap s'.heap)(a:HOk X.prog X.w H' s'.heap)(j:AllBare s'.gens)(d:∀b∈ch,(b∈X.ex∨X.s₀.heap.objs.size<=b)/\b≠X.env.locals/\(∀x c,X.env.cells.lookup x=some c->c≠b)/\∀p∈X.pn++D8,p.1≠b):Pb X D8 σ H' s':=by obtain⟨l,f,g,h,k⟩:=s';have e:k=s.os:=i;subst e;exact I.call (g':=f) (t':=h) (d':=g) u a j d
end
abbrev XK:=V'->Option γ->Hp->Prop
abbrev St:=List (Option V)
abbrev VK:=V->Hp->Prop
abbrev TE:=St->Hp->VK->Prop
abbrev TT:=St->Hp->(Bool->Hp->Prop)->Prop
abbrev TA:=St->Hp->(List V->Hp->Prop)->Prop
structure Dn where
 nx:St->Hp->Prop
 rt:VK
 bk:St->Hp->Prop:=λ_ _=>False
 ct:St->Hp->Prop:=λ_ _=>False
abbrev TS:=Dn->St->Hp->Prop
def EP(X:Cx)(D8:List (γ×Obj))(a:St)(Q:VK)(u:V')(s':δ):Prop:=∃v H',Pb X D8 a H' s'/\O8 v u/\Q v H'
def TP(X:Cx)(D8:List (γ×Obj))(a:St)(Q:Bool->Hp->Prop)(b:Bool)(s':δ):Prop:=∃H',Pb X D8 a H' s'/\Q b H'
def AP(X:Cx)(D8:List (γ×Obj))(a:St)(Q:List V->Hp->Prop)(us:List V')(s':δ):Prop:=∃vs H',Pb X D8 a H' s'/\O9 vs us/\Q vs H'
def SP(X:Cx)(D8:List (γ×Obj))(D:Dn)(f:Flow)(s':δ):Prop:=match f with|.next=>∃a' H',Pb X D8 a' H' s'/\D.nx a' H'|.brk=>∃a' H',Pb X D8 a' H' s'/\D.bk a' H'|.cont=>∃a' H',Pb X D8 a' H' s'/\D.ct a' H'|.ret u=>∃v a' H',Pb X D8 a' H' s'/\O8 v u/\D.rt v H'
def PE(X:Cx)(e:Lb)(t:TE):Prop:=∀(D8:List (γ×Obj))(s:δ)(a:St)(H:Hp)(Q:VK),Pb X D8 a H s->t a H Q->K6 (K7 X.prog X.w) X.A (eval e X.env) (EP X D8 a Q) X.xe s
def PT(X:Cx)(e:Lb)(t:TT):Prop:=∀(D8:List (γ×Obj))(s:δ)(a:St)(H:Hp)(Q:Bool->Hp->Prop),Pb X D8 a H s->t a H Q->K6 (K7 X.prog X.w) X.A (isTrue e X.env (eval e X.env)) (TP X D8 a Q) X.xe s
def PW(X:Cx)(e:Lb)(t:TT):Prop:=∀(whole:Sem V')(D8:List (γ×Obj))(s:δ)(a:St)(H:Hp)(Q:Bool->Hp->Prop),Pb X D8 a H s->t a H Q->K6 (K7 X.prog X.w) X.A (isTrue e X.env whole) (TP X D8 a Q) X.xe s
theorem PW.pt(h:PW X e t):PT X e t:=h _
def PA(X:Cx)(es:List Lb)(t:TA):Prop:=∀(pos:Pos)(D8:List (γ×Obj))(s:δ)(a:St)(H:Hp)(Q:List V->Hp->Prop),Pb X D8 a H s->t a H Q->K6 (K7 X.prog X.w) X.A (spliced (backTo pos (Kj es X.env))) (AP X D8 a Q) X.xe s
def PS(X:Cx)(st:Lc)(t:TS):Prop:=∀(D8:List (γ×Obj))(s:δ)(a:St)(H:Hp)(D:Dn),Pb X D8 a H s->t D a H->K6 (K7 X.prog X.w) X.A (exec st X.env) (SP X D8 D) X.xe s
def PSs(X:Cx)(st:List Lc)(t:TS):Prop:=∀(D8:List (γ×Obj))(s:δ)(a:St)(H:Hp)(D:Dn),Pb X D8 a H s->t D a H->K6 (K7 X.prog X.w) X.A (execs st X.env) (SP X D8 D) X.xe s
theorem thn{α:Type}{t:Sem α}{Q Q':α->δ->Prop}{A:K9}{E:V'->δ->Prop}{s:δ}(h:K6 M A t Q E s)(b:∀a s,Q a s->Q' a s):K6 M A t Q' E s:=Kw h b λ_ _ x=>x
section
variable{X:Cx}
def F4(i:Nat):TE:=λn H Q=>∃v,n[i]?=some (some v)/\Q v H
def tC(v:V):TE:=λ_ H Q=>Q v H
theorem qq8(f:X.N[i]?=some x)(g:Vis X.env.scope x)(b:N' x:=by decide)(d:(x==("__classdict__" : Str))=false:=by decide):PE X (.Name x pos) (F4 i):=by intro D8 s n H Q I h;obtain⟨v,e,h⟩:=h;obtain⟨m,j,k⟩:=I.loc;obtain⟨u,r,l⟩:=k i x v f e g;have fin:EP X D8 n Q u s:=⟨v,H,I,r,h⟩;rcases l with⟨a,hm⟩|⟨a,c,hc,hcell⟩;{exact wpAny_Name (wpAny_loadName_local I.ok.kind a j hm fin) b};rcases a with a|a;{exact wpAny_Name (wpAny_loadName_cell I.ok.kind a hc hcell fin) b};exact wpAny_Name (wpAny_loadName_free I.ok.kind a hc hcell fin d) b
theorem qM7{i j pos}:PE X (.Constant (.int i) j pos) (tC (.int i)):=λ_ _ _ H _ I h=>wpAny_Constant_int ⟨.int i,H,I.tok _,⟨_,rfl⟩,h⟩
theorem pe_bl{b j pos}:PE X (.Constant (.bool b) j pos) (tC (.bl b)):=λ_ _ _ H _ I h=>Constant_bool ⟨.bl b,H,I,rfl,h⟩
theorem qaN5{j pos}:PE X (.Constant .none j pos) (tC .non):=λ_ _ _ H _ I h=>Constant_none ⟨.non,H,I,rfl,h⟩
theorem qaW7{x j pos}:PE X (.Constant (.str x) j pos) (tC (.str x)):=λ_ _ _ H _ I h=>Calls.Constant_str ⟨.str x,H,I.tok _,⟨_,rfl⟩,h⟩
def Gl(X:Cx)(x:Str):Prop:=X.env.kindOf x=some .globalImplicit
theorem qak6{n:St}(I:Pb X D8 n H s)(a:Gl X x)(hm:X.mg x=some u)(h:Q u s)(b:N' x:=by decide):K6 (K7 X.prog X.w) X.A (eval (.Name x pos) X.env) Q E s:=Calls.Name_function_global I.ok.kind a (Calls.loadGlobal_global (by rw[I.ok.glob];exact I.mod.glob.keeps I.bk) hm h) b
theorem qO4{n:St}(I:Pb X D8 n H s)(a:Gl X x)(hm:X.mg x=none)(b:Ko x=some u)(h:Q u s)(c:x ≠ "__name__" := by decide)(d:N' x:=by decide):K6 (K7 X.prog X.w) X.A (eval (.Name x pos) X.env) Q E s:=by obtain⟨g,e,f⟩:=I.mod.blt;exact Calls.Name_function_global I.ok.kind a (Calls.loadGlobal_builtin (by rw[I.ok.glob];exact I.mod.glob.keeps I.bk) hm (by rw[I.ok.blt];exact e.keeps I.bk) ((f x c).trans b) h) d
theorem qax9(a:Gl X x)(hm:X.mg x=some u)(r:O8 v u)(b:N' x:=by decide):PE X (.Name x pos) (tC v):=λ_ _ _ H _ I h=>qak6 I a hm ⟨v,H,I,r,h⟩ b
theorem qaN7(a:Gl X x)(hm:X.mg x=none)(b:Ko x=some u)(r:O8 v u)(c:x ≠ "__name__" := by decide)(d:N' x:=by decide):PE X (.Name x pos) (tC v):=λ_ _ _ H _ I h=>qO4 I a hm b ⟨v,H,I,r,h⟩ c d
variable{a b:Lb}{o p:TE}{pos:Pos}
def tB(t:TE):TT:=λn H Q=>t n H λx H1=>∃c,x=.bl c/\Q c H1
theorem qaC9(h:PE X e t)(b:∀whole,isTrue e X.env whole=(do let v<-whole;standAt e.pos;holding [v] (truthy v)):=by intro _;rfl):PT X e (tB t):=by intro D8 s n H Q I c;refine isTrue_plain (thn (h D8 s n H _ I c) λv i a=>?_) (b _);obtain⟨x,H1,I1,f,g⟩:=a;obtain⟨d,rfl,q⟩:=g;cases f;exact Kq ⟨H1,I1,q⟩
variable{y tB':TT}{rest:List Lb}
def tAnd(t u:TT):TT:=λn H Q=>t n H λc H1=>if c=true then u n H1 Q else Q false H1
def tOr(t u:TT):TT:=λn H Q=>t n H λc H1=>if c=true then Q true H1 else u n H1 Q
def tNot(t:TT):TT:=λn H Q=>t n H λc H1=>Q (!c) H1
theorem qaM1(b:PT X a y):PW X (.BoolOp .And [a] pos) y:=by intro d D8 s n H Q I h;refine isTrue_and (thn (b D8 s n H Q I h) λc f e=>?_);cases c with|true=>exact isTrue_and_nil e|false=>exact e
theorem qaV9(b:PT X a y):PW X (.BoolOp .Or [a] pos) y:=by intro d D8 s n H Q I h;refine isTrue_or (thn (b D8 s n H Q I h) λc f e=>?_);cases c with|false=>exact isTrue_or_nil e|true=>exact e
theorem qaW0(f:PT X a y)(g:PW X (.BoolOp .And (b::rest) pos) tB'):PW X (.BoolOp .And (a::b::rest) pos) (tAnd y tB'):=by intro i D8 s n H Q I h;refine isTrue_and (thn (f D8 s n H _ I h) λc j d=>?_);obtain⟨H1,I1,e⟩:=d;cases c with|true=>exact g i D8 j n H1 Q I1 e|false=>exact⟨H1,I1,e⟩
theorem pw_or(f:PT X a y)(g:PW X (.BoolOp .Or (b::rest) pos) tB'):PW X (.BoolOp .Or (a::b::rest) pos) (tOr y tB'):=by intro i D8 s n H Q I h;refine isTrue_or (thn (f D8 s n H _ I h) λc j d=>?_);obtain⟨H1,I1,e⟩:=d;cases c with|true=>exact⟨H1,I1,e⟩|false=>exact g i D8 j n H1 Q I1 e
theorem qaM2(b:PT X a y):PT X (.UnaryOp .Not a pos) (tNot y):=by intro D8 s n H Q I h;exact isTrue_not (b D8 s n H (λc H1=>Q (!c) H1) I h)
def tAndV(o p:TE):TE:=λn H Q=>o n H λx H1=>∃c,x=.bl c/\if c=true then p n H1 Q else Q (.bl false) H1
def tOrV(o p:TE):TE:=λn H Q=>o n H λx H1=>∃c,x=.bl c/\if c=true then Q (.bl true) H1 else p n H1 Q
def tNotV(o:TE):TE:=λn H Q=>o n H λx H1=>∃c,x=.bl c/\Q (.bl (!c)) H1
theorem qaq7{op}(h:PE X a t):PE X (.BoolOp op [a] pos) t:=λD8 s n H Q I b=>BoolOp_one (h D8 s n H Q I b)
theorem qar0(f:PE X a o)(g:PE X (.BoolOp .And (b::rest) pos) p):PE X (.BoolOp .And (a::b::rest) pos) (tAndV o p):=by intro D8 s n H Q I h;refine BoolOp_and (thn (f D8 s n H _ I h) λv i e=>?_);obtain⟨x,H1,I1,j,d⟩:=e;obtain⟨c,rfl,d⟩:=d;cases j;refine Kq ?_;cases c with|true=>exact g D8 i n H1 Q I1 d|false=>exact⟨.bl false,H1,I1,rfl,d⟩
theorem pe_or(f:PE X a o)(g:PE X (.BoolOp .Or (b::rest) pos) p):PE X (.BoolOp .Or (a::b::rest) pos) (tOrV o p):=by intro D8 s n H Q I h;refine BoolOp_or (thn (f D8 s n H _ I h) λv i e=>?_);obtain⟨x,H1,I1,j,d⟩:=e;obtain⟨c,rfl,d⟩:=d;cases j;refine Kq ?_;cases c with|false=>exact g D8 i n H1 Q I1 d|true=>exact⟨.bl true,H1,I1,rfl,d⟩
theorem qaN4(e:PE X a o):PE X (.UnaryOp .Not a pos) (tNotV o):=by intro D8 s n H Q I h;refine UnaryOp_ (thn (e D8 s n H _ I h) λv g b=>?_);obtain⟨x,H1,I1,f,d⟩:=b;obtain⟨c,rfl,d⟩:=d;cases f;exact not_of (Kq ⟨.bl (!c),H1,I1,rfl,d⟩)
def tIf(t:TT)(o p:TE):TE:=λn H Q=>t n H λc H1=>if c=true then o n H1 Q else p n H1 Q
theorem qah5(i:PT X c y)(j:PE X a o)(k:PE X b p):PE X (.IfExp c a b pos) (tIf y o p):=by intro D8 s n H Q I h;refine wpAny_IfExp (thn (i D8 s n H _ I h) λd f e=>?_);obtain⟨H1,I1,g⟩:=e;cases d with|true=>exact j D8 f n H1 Q I1 g|false=>exact k D8 f n H1 Q I1 g
end
def SqL(K:Oa)(H:Hp)(a:γ)(xs:List V):Prop:=Rd H a (.l xs)∨∃(o:Obj)(its:Array V')(n:Nat),K.lookup a=some o/\o.cls=.type "list" /\ o.dict=none/\o.data=.seq its n/\its.size<=Kk/\O9 xs its.toList
def SqT(K:Oa)(H:Hp)(a:γ)(xs:List V):Prop:=Rd H a (.q xs)∨∃(o:Obj)(its:Array V')(n:Nat),K.lookup a=some o/\o.cls=.type "tuple" /\ o.data=.seq its n/\its.size<=Kk/\O9 xs its.toList
noncomputable def absV:V'->Option V|.none=>some .non|.bool b=>some (.bl b)|.int i _=>some (.int i)|.str x _=>some (.str x)|.bytes b _=>some (.byt b)|.float b _=>some (.flt b)|.ref a=>some (.ref a)|.type n=>some (.ty n)|_=>none
theorem O8.abs(r:O8 x u):absV u=some x:=by cases x with|non=>cases r;rfl|bl _=>cases r;rfl|int _=>obtain⟨t,rfl⟩:=r;rfl|str _=>obtain⟨t,rfl⟩:=r;rfl|byt _=>obtain⟨t,rfl⟩:=r;rfl|flt _=>obtain⟨t,rfl⟩:=r;rfl|ref _=>cases r;rfl|ty _=>cases r;rfl
theorem O8.inj(r:O8 x u)(q:O8 y u):x=y:=N8 (r.abs.symm.trans q.abs)
theorem O9.inj(h:O9 xs us)(g:O9 ys us):xs=ys:=by induction h generalizing ys with|nil=>cases g;rfl|cons r t i=>cases g with|cons q u=>rw[r.inj q,i u]
section
variable{X:Cx}{q:List (γ×Obj)}{m:St}{H:Hp}{s:δ}{a:γ}{xs ys:List V}
theorem SqL.of{K:Oa}(h:H a=some (.l xs)):SqL K H a xs:=.inl (.inl h)
theorem Pb.list(I:Pb X q m H s)(h:SqL X.K H a xs):∃its:List V',O9 xs its/\PlainL s.heap a its.toArray/\xs.length<=Kk:=by rcases h with h|⟨o,its,n,b,c,d,f,g,r⟩;{obtain⟨z,its,n,r,e⟩:=h.ok I.hok;exact⟨its,r,⟨_,n,e,rfl,rfl,rfl⟩,z⟩};refine⟨its.toList,r,⟨o,n,I.kIn a o b,c,d,by simpa using f⟩,?_⟩;have e:=r.length;simp only[zB8] at e;lia
theorem Pb.tuple(I:Pb X q m H s)(h:SqT X.K H a xs):∃its:List V',O9 xs its/\IsTup s.heap a its.toArray/\xs.length<=Kk:=by rcases h with h|⟨o,its,n,b,c,d,f,r⟩;{obtain⟨z,its,r,p⟩:=h.ok I.hok;exact⟨its,r,p,z⟩};refine⟨its.toList,r,⟨o,I.kIn a o b,c,n,by simpa using d⟩,?_⟩;have e:=r.length;simp only[zB8] at e;lia
theorem Pb.list_inj(I:Pb X q m H s)(h:SqL X.K H a xs)(h':SqL X.K H a ys):xs=ys:=by
 obtain⟨b,r,⟨o,n,e,_,_,d⟩,_⟩:=I.list h;obtain⟨its',g,⟨j,k,c,_,_,f⟩,_⟩:=I.list h';rw[e] at c;cases c;rw[d] at f;injection f with i _;have:b=its':=by simpa using congrArg Array.toList i
 subst this;exact r.inj g
end
noncomputable abbrev Cx.wish(X:Cx)(E:V'->δ->Prop):Cx:={X with xe:=E}
abbrev Cx.nox(X:Cx):Cx:=X.wish λ_ _=>False
theorem Cx.Ok.wish{X:Cx}(a:X.Ok)(E:V'->δ->Prop):(X.wish E).Ok:=⟨a.mod,a.kind,a.glob,a.blt,a.above,a.inj,a.has,a.cab,a.hd,a.frames,a.stk,a.exf,a.bs,a.bsz,a.noex,a.exfs,a.funs,a.frf⟩
theorem Cx.Ok.unwish{X:Cx}(a:(X.wish E).Ok):X.Ok:=⟨a.mod,a.kind,a.glob,a.blt,a.above,a.inj,a.has,a.cab,a.hd,a.frames,a.stk,a.exf,a.bs,a.bsz,a.noex,a.exfs,a.funs,a.frf⟩
section
variable{X:Cx}{c:List (γ×Obj)}{b:St}{H:Hp}{s:δ}{E:V'->δ->Prop}
theorem Pb.wish(I:Pb X c b H s)(E:V'->δ->Prop):Pb (X.wish E) c b H s:=⟨I.ok.wish E,I.os,I.bare,I.base,I.loc,I.cell,I.free,I.freeC,I.pin,I.hok,I.len⟩
theorem Pb.unwish(I:Pb (X.wish E) c b H s):Pb X c b H s:=⟨I.ok.unwish,I.os,I.bare,I.base,I.loc,I.cell,I.free,I.freeC,I.pin,I.hok,I.len⟩
theorem SP.unwish(h:SP (X.wish E) c D f s'):SP X c D f s':=by cases f with|next=>obtain⟨b',H',I,q⟩:=h;exact⟨b',H',I.unwish,q⟩|brk=>obtain⟨b',H',I,q⟩:=h;exact⟨b',H',I.unwish,q⟩|cont=>obtain⟨b',H',I,q⟩:=h;exact⟨b',H',I.unwish,q⟩|ret u=>obtain⟨v,b',H',I,r,q⟩:=h;exact⟨v,b',H',I.unwish,r,q⟩
theorem PSs.nox{st:List Lc}(h:PSs X.nox st t):PSs X st t:=λc s b H D I a=>
 Kw (h c s b H D (I.wish _) a) (λ_ _ q=>q.unwish) λ_ _ z=>Oz z
end
section
variable{X:Cx}{n:Lc}{rest:List Lc}{t u:TS}{e:Lb}{te:TE}{m:Pos}
def tNext:TS:=λD l H=>D.nx l H
def tSeq(t u:TS):TS:=λD l H=>t {D with nx:=u D} l H
theorem qax4:PSs X [] tNext:=λ_ _ l H _ I h=>wpAny_execs_nil ⟨l,H,I,h⟩
theorem qT3(h1:PS X n t)(h2:PSs X rest u):PSs X (n::rest) (tSeq t u):=by intro D8 s l H D I h;refine wpAny_execs_cons (thn (h1 D8 s l H {D with nx:=u D} I h) λf a q=>?_);cases f with|next=>obtain⟨l',H',I',q⟩:=q;exact h2 D8 a l' H' D I' q|ret v=>exact q|brk=>exact q|cont=>exact q
theorem qB0(h1:PS X n t):PSs X [n] t:=by intro D8 s l H D I h;refine wpAny_execs_cons (thn (h1 D8 s l H D I h) λf a q=>?_);cases f with|next=>exact wpAny_execs_nil q|ret v=>exact q|brk=>exact q|cont=>exact q
theorem Pb.quiet(I:Pb X D8 l H s):interactive X.env=false:=by simp[interactive,I.ok.kind]
def tDrop(te:TE):TS:=λD l H=>te l H λ_ H1=>D.nx l H1
theorem qaM4(a:PE X e te)(b:swapsWith e none m.line X.env=pure false:=by rfl):PS X (.Expr e m) (tDrop te):=by intro D8 s l H D I h;exact wpAny_Expr_any (thn (a D8 s l H _ I h) λv d ⟨x,H1,I1,f,c⟩=>⟨l,H1,I1,c⟩) I.quiet b
def tRet(te:TE):TS:=λD l H=>te l H D.rt
theorem Ho(a:PE X e te):PS X (.Return (some e) m) (tRet te):=by intro D8 s l H D I h;exact wpAny_Return_some (thn (a D8 s l H _ I h) λv d ⟨x,H1,I1,b,c⟩=>⟨x,l,H1,I1,b,c⟩)
def tIfS(c:TT)(t u:TS):TS:=λD l H=>c l H λb H1=>if b=true then t D l H1 else u D l H1
theorem ps_if(i:PT X c tc)(j:PSs X a t)(k:PSs X b u):PS X (.If c a b m) (tIfS tc t u):=by intro D8 s l H D I h;refine wpAny_If (thn (i D8 s l H _ I h) λd f e=>?_);obtain⟨H1,I1,g⟩:=e;cases d with|true=>exact j D8 f l H1 D I1 g|false=>exact k D8 f l H1 D I1 g
def qaV2:TS:=λ_ _ _=>False
theorem qaD1:PS X n qaV2:=λ_ _ _ _ _ _ h=>h.elim
end
abbrev TG:=V->St->Hp->(St->Hp->Prop)->Prop
abbrev TGs:=List V->St->Hp->(St->Hp->Prop)->Prop
def PG(X:Cx)(target:Lb)(t:TG):Prop:=∀(D8:List (γ×Obj))(s:δ)(a:St)(H:Hp)(v:V)(u:V')(Q:St->Hp->Prop),Pb X D8 a H s->O8 v u->t v a H Q->K6 (K7 X.prog X.w) X.A (assign target X.env u) (λ_ s'=>∃a' H',Pb X D8 a' H' s'/\Q a' H') X.xe s
def PGs(X:Cx)(a:List Lb)(t:TGs):Prop:=∀(D8:List (γ×Obj))(s:δ)(b:St)(H:Hp)(vs:List V)(us:List V')(Q:St->Hp->Prop),Pb X D8 b H s->O9 vs us->t vs b H Q->K6 (K7 X.prog X.w) X.A (assignInOrder ((K4 a X.env).map (·.2)) us) (λ_ s'=>∃b' H',Pb X D8 b' H' s'/\Q b' H') X.xe s
abbrev Iq:=V->V->V->Hp->(Hp->Prop)->Prop
def PSet(X:Cx)(t:Iq):Prop:=∀(D8:List (γ×Obj))(s:δ)(a:St)(H:Hp)(o i v:V)(ov iv u:V')(Q:Hp->Prop),Pb X D8 a H s->O8 o ov->O8 i iv->O8 v u->t o i v H Q->K6 (K7 X.prog X.w) X.A (setItem ov iv u) (λ_ s'=>∃H',Pb X D8 a H' s'/\Q H') X.xe s
abbrev TIp:=V->V->Hp->VK->Prop
def PIp(X:Cx)(op:Operator)(t:TIp):Prop:=∀(D8:List (γ×Obj))(s:δ)(a:St)(H:Hp)(x y:V)(v u:V')(Q:VK),Pb X D8 a H s->O8 x v->O8 y u->t x y H Q->K6 (K7 X.prog X.w) X.A (inplaceOp op v u) (EP X D8 a Q) X.xe s
section
variable{X:Cx}{pos:Pos}
def E7(i:Nat):TG:=λv R H Q=>Q (R.set i (some v)) H
theorem qax7(a:X.N.Nodup)(hi:X.N[i]?=some x)(b:Loc X.env.scope x)(c:X.fn x=true∨X.env.scope.names.lookup x=some .local:=by first|exact .inl rfl|exact .inr rfl|assumption):PG X (.Name x pos) (E7 i):=by intro D8 s R H v u Q I r h;exact wpAny_assign_Name (qR2 I a hi b r (λd I'=>⟨_,H,I',h⟩) c)
def gNil:TGs:=λvs R H Q=>vs=[]/\Q R H
def gCons(t:TG)(u:TGs):TGs:=λvs R H Q=>∃v r,vs=v::r/\t v R H λR' H'=>u r R' H' Q
theorem qaN0:PGs X [] gNil:=by intro D8 s R H a b Q I r h;obtain⟨e,h⟩:=h;subst e;cases r;exact assignInOrder_nil ⟨R,H,I,h⟩
theorem qaD5(h1:PG X e t)(h2:PGs X es u)(b:(K4 (e::es) X.env).map (·.2)=assign e X.env::(K4 es X.env).map (·.2):=by rfl):PGs X (e::es) (gCons t u):=by intro D8 s R H i j Q I r h;obtain⟨v,k,c,h⟩:=h;subst c;cases r with|cons r d=>rw[b];refine assignInOrder_cons (thn (h1 D8 s R H _ _ _ I r h) λ_ f a=>?_);obtain⟨σ1,H1,I1,g⟩:=a;exact h2 D8 f σ1 H1 _ _ Q I1 d g
def gTup(K:Oa)(n:Nat)(t:TGs):TG:=λv R H Q=>∃a xs,v=.ref a/\SqT K H a xs/\xs.length=n/\t xs R H Q
theorem qaW4(g:X.calm=true)(h:PGs X es t)(i:(K4 es X.env).length=n:=by rfl)(c:(K4 es X.env).findIdx? (·.1)=none:=by rfl):PG X (.Tuple es k pos) (gTup X.K n t):=by intro D8 s R H v u Q I r d;obtain⟨a,j,l,m,p,d⟩:=d;subst l;cases r;obtain⟨q,f,w,z⟩:=I.tuple m;refine assign_Tuple_tuple (I.ok.hd g) w (by simp[i,<-p,f.length]) c λx y=>?_;have I1:Pb X D8 R H {s with heap:=x}:=I.kept (t':=s.toks) λb o e=>y b o (zAu (zAc e)) e;exact h D8 _ R H j _ Q I1 (by simpa using f) d
def gSub(to a:TE)(t:Iq):TG:=λv R H Q=>to R H λo H1=>a R H1 λi H2=>t o i v H2 λH3=>Q R H3
theorem qaW5{o i:Lb}{to b:TE}{t:Iq}(c:PE X o to)(hi:PE X i b)(d:PSet X t)(e:∀v,assign (.Subscript o i pos) X.env v=(do
 let ov<-holding [v] (eval o X.env)
 let iv<-holding [v,ov] (eval i X.env)
 standAt pos
 holding [v,ov,iv] (setItem ov iv v)
 release [v,ov,iv] []):=by intro _;rfl):PG X (.Subscript o i pos) (gSub to b t):=by intro D8 s R H v u Q I r h;rw[e];refine E' (Kn (thn (c D8 s R H _ I h) λov f a=>?_));obtain⟨x,H1,I1,g,j⟩:=a;refine E' (Kn (thn (hi D8 f R H1 _ I1 j) λiv k a=>?_));obtain⟨y,H2,I2,l,q2⟩:=a;refine E' (wpAny_standAt (E' (Kn (thn (d D8 k R H2 x y v ov iv u _ I2 g l r q2) λ_ n a=>?_))));obtain⟨H3,I3,m⟩:=a;exact wpAny_release ⟨R,H3,I3,m⟩
def Hq(te:TE)(g:TG):TS:=λD R H=>te R H λx H1=>g x R H1 D.nx
theorem qaW2(b:PE X e te)(c:PG X tg g)(d:swapsWithSole [tg] e pos.line X.env=pure false:=by rfl)(f:swappedStores [tg] e X.env=pure none:=by rfl)(h1:(K4 [tg] X.env).map (·.2)=[assign tg X.env]:=by rfl):PS X (.Assign [tg] e pos) (Hq te g):=by intro D8 s R H D I h;refine wpAny_Assign_stores (thn (b D8 s R H _ I h) λv i a=>?_) d f;obtain⟨x,H1,I1,j,k⟩:=a;rw[h1];exact thn (c D8 i R H1 x v _ I1 j k) λ_ l q=>q
theorem qaM3(b:X.N.Nodup)(hi:X.N[i]?=some x)(c:Loc X.env.scope x)(d:PE X e te)(f:swapsWith e (some (.Name x pos')) pos.line X.env=pure false:=by rfl)(g:X.fn x=true∨X.env.scope.names.lookup x=some .local:=by first|exact .inl rfl|exact .inr rfl|assumption):PS X (.Assign [.Name x pos'] e pos) (Hq te (E7 i)):=by intro D8 s R H D I h;refine wpAny_Assign_Name (thn (d D8 s R H _ I h) λv l a=>?_) f;obtain⟨y,H1,I1,j,k⟩:=a;exact qR2 I1 b hi c j (λm I2=>⟨_,H1,I2,k⟩) g
def tAugS(to b te:TE)(tget:V->V->Hp->VK->Prop)(a:TIp)(tset:Iq):TS:=λD R H=>to R H λo H1=>b R H1 λi H2=>tget o i H2 λx H3=>te R H3 λy H4=>a x y H4 λz H5=>tset o i z H5 λH6=>D.nx R H6
def PGet(X:Cx)(t:V->V->Hp->VK->Prop):Prop:=∀(D8:List (γ×Obj))(s:δ)(R:St)(H:Hp)(o i:V)(ov iv:V')(Q:VK),Pb X D8 R H s->O8 o ov->O8 i iv->t o i H Q->K6 (K7 X.prog X.w) X.A (getItem ov iv) (EP X D8 R Q) X.xe s
theorem qaM5{i:Lb}{op:Operator}(p:PE X o to)(hi:PE X i j)(q:PGet X tget)(r:PE X e te)(t:PIp X op f)(u:PSet X tset)(w:∀c d b,augStore i c d b=(do holding [b,c,d] (setItem c d b);release [b,c,d] [];pure .next):=by intros;rfl):PS X (.AugAssign (.Subscript o i tpos) op e pos) (tAugS to j te tget f tset):=by intro D8 s R H D I h;refine wpAny_AugAssign_SubscriptAny (thn (p D8 s R H _ I h) λc x a=>?_) w;obtain⟨k,H1,I1,l,y⟩:=a;refine thn (hi D8 x R H1 _ I1 y) λd z a=>?_;obtain⟨m,H2,I2,n,q2⟩:=a;refine thn (q D8 z R H2 k m c d _ I2 l n q2) λg A a=>?_;obtain⟨B,H3,I3,C,E⟩:=a;refine thn (r D8 A R H3 _ I3 E) λv F a=>?_;obtain⟨G,H4,I4,J,K⟩:=a;refine thn (t D8 F R H4 B G g v _ I4 C J K) λb L a=>?_;obtain⟨M,H5,I5,N,O⟩:=a;exact thn (u D8 L R H5 k m M c d b _ I5 l n N O) λ_ Q ⟨H6,I6,P⟩=>⟨R,H6,I6,P⟩
def ipI(f:Int->Int->Int):TIp:=λx y H Q=>∃i j,x=.int i/\y=.int j/\Q (.int (f i j)) H
theorem qba2:PIp X .Add (ipI λi j=>i+j):=by intro D8 s R H x y v u Q I a b h;obtain⟨i,j,c,e2,q⟩:=h;subst c;subst e2;obtain⟨t,rfl⟩:=a;obtain⟨d,rfl⟩:=b;exact iadd_int ⟨.int _,H,I.tok _,⟨_,rfl⟩,q⟩
end
section
variable{X:Cx}{B:Pos}
def qaV1(c:TT)(tb:TS):TS:=λD z H=>∃W:Nat->St->Hp->Prop,(∃m,W m z H)/\∀m z H,W m z H->c z H λb H1=>if b=true then ∃N:St->Hp->Prop,(∀z' H',N z' H'->∃a,a<m/\W a z' H')/\tb {D with nx:=N,ct:=N,bk:=D.nx} z H1 else D.nx z H1
theorem qaD0(k:PassesOwn (K7 X.prog X.w) X.A X.env X.xe)(m:PT X c tc)(o:PSs X body tb):PS X (.While c body [] B) (qaV1 tc tb):=by intro D8 s z H D I h;obtain⟨W,⟨p,q⟩,turn⟩:=h;refine wpAny_While (codeAny_whileLoop (λn r=>∃z' H',Pb X D8 z' H' r/\W n z' H') ?_ p ⟨z,H,I,q⟩);rintro n t ⟨σ1,H1,I1,u⟩;refine Ky k (thn (m D8 t σ1 H1 _ I1 (turn n σ1 H1 u)) λb x d=>?_);obtain⟨H2,I2,q2⟩:=d;cases b with|true=>(obtain⟨N,l,q2⟩:=q2;rw[if_pos rfl];refine Ky k (thn (o D8 x σ1 H2 _ I2 q2) λf y a=>?_);cases f with|next=>obtain⟨σ3,H3,I3,e⟩:=a;obtain⟨g,i,j⟩:=l σ3 H3 e;exact⟨g,i,σ3,H3,I3,j⟩|cont=>obtain⟨σ3,H3,I3,e⟩:=a;obtain⟨g,i,j⟩:=l σ3 H3 e;exact⟨g,i,σ3,H3,I3,j⟩|brk=>exact a|ret v=>exact a)|false=>rw[if_neg zAw];exact wpAny_execs_nil ⟨σ1,H2,I2,q2⟩
end
structure It where
 go:Nat->Hp->Prop
 yld:Nat->Hp->V->Hp->Prop
 stop:Nat->Hp->Prop
def F5(X:Cx)(D8:List (γ×Obj))(H:Hp)(b:γ):Prop:=H b=none/\b≠X.env.locals/\b∉X.fs/\(b∈X.ex∨X.s₀.heap.objs.size<=b)/\(∀x c,X.env.cells.lookup x=some c->c≠b)/\∀p∈X.pn++D8,p.1≠b
theorem Pb.fpOk(I:Pb X D8 g H s)(a:s.heap.objs.size<=b)(d:H' b=none):F5 X D8 H' b:=by refine⟨d,Nat.ne_of_gt (zAk I.lt a),I.nofs a,.inr (zAl I.sz a),λx c e z=>?_,λp f z=>?_⟩;{obtain⟨v,q⟩:=I.cell x c e;exact absurd (zAk q.lt (by rw[z];exact a)) (zCg _)};exact absurd (zAk (zAc (I.pin p f).1) (by rw[z];exact a)) (zCg _)
structure Gv(P:K8)(w:La)(K:Oa)(tg:Lb)(J:It)(fp:List γ)(it:γ)(tn:Nat->Heap->Prop):Prop where
 mem:it∈fp
 obj:∀i h,tn i h->∀b∈fp,∃o,h.get? b=some o/\∀v,o.data≠.cell v
 keep:∀i h h',tn i h->(∀b∈fp,∀o,h.get? b=some o->h'.get? b=some o)->tn i h'
 item:∀(X:Cx),X.prog=P->X.w=w->X.K=K->X.calm=true->∀(i:Nat)(D8:List (γ×Obj))(s:δ)(a:St)(H:Hp)(E:V'->δ->Prop),Pb X D8 a H s->(∀b∈fp,F5 X D8 H b)->tn i s.heap->J.go i H->K6 (K7 P w) X.A (pyNext (.ref it)) (λr s1=>∃u,r=some u/\K6 (K7 P w) X.A (letOwnedTupleGo tg (.ref it) u) (λ_ s2=>∃x H',Pb X D8 a H' s2/\O8 x u/\J.yld i H x H'/\tn (i+1) s2.heap/\∀b∈fp,H' b=none) E s1) E s
 done:∀(X:Cx),X.prog=P->X.w=w->X.K=K->X.calm=true->∀(i:Nat)(D8:List (γ×Obj))(s:δ)(a:St)(H:Hp)(E:V'->δ->Prop),Pb X D8 a H s->(∀b∈fp,F5 X D8 H b)->tn i s.heap->J.stop i H->K6 (K7 P w) X.A (pyNext (.ref it)) (λr s1=>r=none/\Pb X D8 a H s1) E s
 self:∀(A:K9)(i:Nat)(s:δ)(Q:V'->δ->Prop)(E:V'->δ->Prop),tn i s.heap->Q (.ref it) s->K6 (K7 P w) A (pyIter (.ref it)) Q E s
abbrev TI:=St->Hp->(It->Hp->Prop)->Prop
def PIE(X:Cx)(D8:List (γ×Obj))(c:St)(tg:Lb)(R:It->Hp->Prop)(a:V')(s2:δ):Prop:=∃(it:γ)(fp:List γ)(tn:Nat->Heap->Prop)(J:It)(H':Hp),a=.ref it/\Pb X D8 c H' s2/\Gv X.prog X.w X.K tg J fp it tn/\tn 0 s2.heap/\(∀b∈fp,F5 X D8 H' b)/\R J H'
def PI(X:Cx)(tg iter:Lb)(wi:TI):Prop:=∀(D8:List (γ×Obj))(s:δ)(b:St)(H:Hp)(R:It->Hp->Prop),Pb X D8 b H s->wi b H R->K6 (K7 X.prog X.w) X.A (eval iter X.env) (λv a=>K6 (K7 X.prog X.w) X.A (pyIter v) (PIE X D8 b tg R) X.xe a) X.xe s
theorem Ir{n:String}(b:s.heap.get? it=some o)(c:o.cls=.type n)(d:o.data=.fields vs)(e:["enumerate", "zip", "dict_itemiterator", "dict_reverseitemiterator", "odict_iterator", "itertools.zip_longest", "itertools.pairwise"].contains n=false)(a:Q () s):K6 M A (letOwnedTupleGo tg (.ref it) u) Q E s:=by
 unfold letOwnedTupleGo;cases tg<;>first
  |exact J' a
  |(cases u<;>first
   |exact J' a
   |(refine E' (wpAny_load b ?_);rw[c,d];show K6 M A (if (["enumerate", "zip", "dict_itemiterator", "dict_reverseitemiterator", "odict_iterator", "itertools.zip_longest", "itertools.pairwise"].contains n&&vs[0]?==some (rawInt _))=true then _ else _) Q E s;rw[if_neg (by intro h;rw[e,Bool.false_and] at h;cases h)];exact J' a))
noncomputable def Itl(K:Oa)(a:γ):It:=⟨λi H=>∃xs x,SqL K H a xs/\xs[i]?=some x,λi H x H'=>H'=H/\∀xs,SqL K H a xs->xs[i]?=some x,λi H=>∃xs,SqL K H a xs/\xs.length<=i⟩
noncomputable def Itr(lo:Int)(n:Nat):It:=⟨λi _=>i<n,λi H x H'=>H'=H/\x=.int (lo+i),λi _=>n<=i⟩
theorem qap0{P:K8}{w:La}{K:Oa}{tg:Lb}(a it:γ):Gv P w K tg (Itl K a) [it] it (λi h=>h.IsListIter it a i) where
 mem:=by simp
 obj:=λi h f b g=>by
  have e:b=it:=by simpa using g
  subst e;obtain⟨o,e,c,d⟩:=f;exact⟨o,e,λv z=>by rw[d] at z;cases z⟩
 keep:=λi h l f k=>f.at λo e=>k it (by simp) o e
 item:=by
  intro X q r t J i D8 s R H E I m f y;subst q r t;obtain⟨L,x,n,A⟩:=y;obtain⟨B,C,p,M⟩:=I.list n;obtain⟨u,N,O⟩:=C.get A;obtain⟨D,f1,f2,f3,F,G⟩:=m it (by simp);refine wpAny_pyNext_list_item f p.isList (x:=u) (by simpa using N) λl j Q=>?_
  have I1:Pb X D8 R H {s with heap:=l}:=I.turned (t':=s.toks) (λb o g e=>(Q.2 b g).trans e) D f1 f3 F G;obtain⟨o,e,c,d⟩:=id j;exact⟨u,rfl,Ir (s:={s with heap:=l}) e c d ∅ ⟨x,H,I1,O,⟨rfl,λU S=>by rw[I.list_inj S n];exact A⟩,j,λb g=>(m b g).1⟩⟩
 done:=by
  intro X q r t J i D8 s R H E I m f y;subst q r t;obtain⟨L,n,A⟩:=y;obtain⟨B,C,p,M⟩:=I.list n;obtain⟨D,f1,f2,f3,F,G⟩:=m it (by simp);have V:=C.length;exact wpAny_pyNext_list_end (I.ok.hd J) f p.isList (by simp;lia) λl T=>⟨rfl,I.turned (t':=s.toks) (λb o g e=>T b o g e) D f1 f3 F G⟩
 self:=λ_ _ _ _ _ f h=>wpAny_pyIter_listiter f h
theorem qae4{P:K8}{w:La}{K:Oa}{tg:Lb}(it:γ)(lo:Int)(n:Nat):Gv P w K tg (Itr lo n) [it] it (λi h=>IsRangeIter h it (lo+(i:Nat)*1) ((n:Int)-(i:Nat)) 1) where
 mem:=by simp
 obj:=λi h a b c=>by
   have e:b=it:=by simpa using c
   subst e;exact⟨_,a,λv z=>by
     have A:Data.fields _=Data.cell v:=z;cases A⟩
 keep:=λi h f a k=>k it (by simp) _ a
 item:=by
   intro X j l m p i D8 s F H E I g a q;subst j l m;obtain⟨r,f1,f2,f3,u,x⟩:=g it (by simp);have W:=Walks.range (prog:=X.prog) (w:=X.w) (I.ok.hd p) it lo 1 n;refine W.item i s _ _ q a λv f y B d C=>?_
   obtain⟨t,rfl⟩:=B;have I1:Pb X D8 F H {s with heap:=f,toks:=y}:=I.turned (λb o c e=>C b o (by simpa using c) e) r f1 f3 u x;refine⟨_,rfl,Ir (s:={s with heap:=f,toks:=y}) (n := "range_iterator") d rfl rfl ∅ ⟨.int (lo+i),H,I1,⟨t,?_⟩,⟨rfl,rfl⟩,d,λb c=>(g b c).1⟩⟩;rw[Int.mul_one]
 done:=by
   intro X j l m p i D8 s F H E I g a q;subst j l m;obtain⟨r,f1,f2,f3,u,x⟩:=g it (by simp);exact wpAny_pyNext_range_end (I.ok.hd p) a (by have:n<=i:=q;lia) λf D=>⟨rfl,I.turned (t':=s.toks) (λb o c e=>D b o c e) r f1 f3 u x⟩
 self:=λ_ _ _ _ _ a h=>wpAny_pyIter_rangeiter a h
section
variable{X:Cx}{tg:Lb}
def G5(K:Oa)(tl:TE):TI:=λσ H R=>tl σ H λx H1=>∃a,x=.ref a/\(∃xs,SqL K H1 a xs)/\R (Itl K a) H1
theorem qx0(f:PE X l tl):PI X tg l (G5 X.K tl):=by
 intro D8 s σ H R I h;refine thn (f D8 s σ H _ I h) λv c d=>?_;obtain⟨x,H1,I1,g,i⟩:=d;obtain⟨a,e,⟨n,j⟩,q⟩:=i;subst e;cases g;obtain⟨k,r,p,t⟩:=I1.list j;refine wpAny_pyIter_list p.isList ?_;refine⟨c.heap.objs.size,[c.heap.objs.size],_,_,H1,rfl,I1.kept (t':=c.toks) λb o e=>zA2 _ e,qap0 a _,⟨_,zAp _ rfl,rfl,rfl⟩,λb m=>?_,q⟩;have e:b=c.heap.objs.size:=by simpa using m
 subst e;exact I1.fpOk (zA3 _) (I1.hok.fresh (zA3 _))
theorem qaC8{lo:Int}(I:Pb X D8 σ H s)(h1:-(2 ^ 62)<=lo)(h2:lo<2 ^ 62)(c:-(2 ^ 62)<=hi)(d:hi<2 ^ 62)(q:R (Itr lo (hi-lo).toNat) H):K6 (K7 X.prog X.w) X.A (pyIter (.ref s.heap.objs.size)) (PIE X D8 σ tg R) E {s with heap:=s.heap.push {cls:=.type "range",data:=.fields #[.int lo t,.int hi u,.int 1 v]},toks:=a}:=by
 refine wpAny_pyIter_range (IsRange.new ..) (small_one h1 h2 c d) ?_;have I1:Pb X D8 σ H {s with heap:=s.heap.push {cls:=.type "range",data:=.fields #[.int lo t,.int hi u,.int 1 v]},toks:=a}:=I.kept λb o e=>zA2 _ e;refine⟨(s.heap.push {cls:=.type "range",data:=.fields #[.int lo t,.int hi u,.int 1 v]}).objs.size,[(s.heap.push {cls:=.type "range",data:=.fields #[.int lo t,.int hi u,.int 1 v]}).objs.size],_,_,H,rfl,
  I1.kept (t':=a) λb o e=>zA2 _ e,qae4 _ lo (hi-lo).toNat,?_,λb f=>?_,q⟩
 .have g:lo+((0:Nat):Int)*1=lo:=by simp
  have e2:(((hi-lo).toNat:Nat):Int)-((0:Nat):Int)=Builtin.Range.rangeSize lo hi 1:=by rw[rangeSize_one];split<;>lia
  show IsRangeIter _ _ (lo+((0:Nat):Int)*1) ((((hi-lo).toNat:Nat):Int)-((0:Nat):Int)) 1;rw[g,e2];exact zAp _ rfl
 have e:b=(s.heap.push {cls:=.type "range",data:=.fields #[.int lo t,.int hi u,.int 1 v]}).objs.size:=by simpa using f
 subst e;exact I1.fpOk (zA3 _) (I1.hok.fresh (zA3 _))
def iRng1(ta:TA):TI:=λσ H R=>ta σ H λvs H1=>∃j:Int,vs=[.int j]/\-(2 ^ 62)<=j/\j<2 ^ 62/\R (Itr 0 j.toNat) H1
theorem qaq6(d:Gl X "range")(hm:X.mg "range"=none)(f:PA X [a] ta)(g:Kj [a] X.env=[(false,eval a X.env)]:=by rfl):PI X tg (.Call (.Name "range" p) [a] [] pos) (iRng1 ta):=by intro D8 s σ H R I h;refine Call_ (qO4 I d hm boot_range (PyProof.Rows.callWith_type1 (thn (f pos D8 s σ H _ I h) λl m b=>?_) g rfl));obtain⟨n,H1,I1,i,c⟩:=b;obtain⟨j,e,c,q2,q⟩:=c;subst e;cases i with|cons r k=>cases k;obtain⟨t,rfl⟩:=r;exact call_range_1 (qaC8 I1 ⋯ ⋯ c q2 (by simpa using q))
def tFor(wi:TI)(g:TG)(tb:TS):TS:=λD σ H=>wi σ H λJ H1=>∃W:Nat->Nat->St->Hp->Prop,(∃m,W 0 m σ H1)/\∀i m σ H,W i m σ H->(J.stop i H/\D.nx σ H)∨(J.go i H/\∃N:St->Hp->Prop,(∀σ' H',N σ' H'->∃a,a<m/\W (i+1) a σ' H')/\∀x H',J.yld i H x H'->g x σ H' λσ2 H2=>tb {D with nx:=N,ct:=N,bk:=D.nx} σ2 H2)
noncomputable def Iu(fp:List γ)(h:Heap):List (γ×Obj):=fp.filterMap λb=>(h.get? b).map λo=>(b,o)
theorem qt4(a:b∈fp)(e:h.get? b=some o):(b,o)∈Iu fp h:=zCu.mpr ⟨b,a,by rw[e];rfl⟩
theorem qar3(a:p∈Iu fp h):p.1∈fp/\h.get? p.1=some p.2:=by obtain⟨b,c,e⟩:=zCu.mp a;cases q:h.get? b with|none=>rw[q] at e;cases e|some o=>rw[q] at e;have d:(b,o)=p:=N8 e;subst d;exact⟨c,q⟩
theorem Pb.pinned(I:Pb X D8 σ H s)(f:∀b∈fp,F5 X D8 H b)(g:∀b∈fp,∃o,s.heap.get? b=some o/\∀v,o.data≠.cell v):Pb X (D8++Iu fp s.heap) σ H s:=I.pins_of λp h=>(zA6.mp h).elim (λz=>I.pin p (zB1 _ z)) λz=>by
 obtain⟨a,e⟩:=qar3 z;obtain⟨i,f1,f2,_⟩:=f p.1 a;obtain⟨o,c,d⟩:=g p.1 a;rw[e] at c;cases c;exact⟨e,i,f1,f2,d⟩
theorem Pb.unpinned{pl:List (γ×Obj)}(I:Pb X (D8++pl) σ H s):Pb X D8 σ H s:=I.pins_of λp a=>I.pin p (zB1 _ (zCj _ a))
theorem Iv(l:PassesOwn (K7 X.prog X.w) X.A X.env X.xe)(F:X.calm=true)(hi:PI X tg iter wi)(O:PG X tg g)(c:PSs X body tb)(P:∀x,Km iter X.env x=pure x:=by intro _;rfl):PS X (.For tg iter body [] pos) (tFor wi g tb):=by
 intro D8 s σ H D I h;refine wpAny_For (thn (hi D8 s σ H _ I h) λv s1 Q=>thn Q λR s2 S=>?_) P;obtain⟨it,p,G,J,H2,e,I2,T,z,f2,W,⟨U,V⟩,turn⟩:=S;subst e;have stat:∀{H':Hp},(∀b∈p,H' b=none)->∀b∈p,F5 X D8 H' b:=λY b c=>⟨Y b c,(f2 b c).2⟩;refine codeAny_forLoop_any (λn K=>∃i σ' H',Pb X D8 σ' H' K/\G i K.heap/\(∀b∈p,H' b=none)/\W i n σ' H') ?_ U ⟨0,σ,H2,I2,z,λb c=>(f2 b c).1,V⟩;rintro n L ⟨i,σ3,H3,I3,q,t,Z⟩;rcases turn i n σ3 H3 Z with⟨stop,qn⟩|⟨go,N,hN,step⟩;{refine Ky l (thn (T.done X rfl rfl rfl F i D8 L σ3 H3 X.xe I3 (stat t) q stop) λr s4 a=>?_);obtain⟨B,I4⟩:=a;subst B;exact wpAny_execs_nil ⟨σ3,H3,I4,qn⟩};refine Ky l (thn (T.item X rfl rfl rfl F i D8 L σ3 H3 X.xe I3 (stat t) q go) λr s4 a=>?_);obtain⟨u,B,h4⟩:=a;subst B;refine Ky l (thn h4 λ_ M a=>?_);obtain⟨x,H5,I5,r5,y5,k,C⟩:=a;have I5':=I5.pinned (stat C) (T.obj _ _ k);refine Ky l (thn (O _ M σ3 H5 x u _ I5' r5 (step x H5 y5)) λ_ s6 a=>?_);obtain⟨σ6,H6,I6,q6⟩:=a;refine Ky l (thn (c _ s6 σ6 H6 _ I6 q6) λf E j=>?_);have again:∀{σ7:St}{H7:Hp},Pb X (D8++Iu p M.heap) σ7 H7 E->N σ7 H7->∃m,m<n/\∃i σ' H',Pb X D8 σ' H' E/\G i E.heap/\(∀b∈p,H' b=none)/\W i m σ' H':=λ{σ7 H7} I7 y=>by obtain⟨m',hm,w7⟩:=hN σ7 H7 y;refine⟨m',hm,i+1,σ7,H7,I7.unpinned,T.keep _ _ _ k λb c o e=>(I7.pin (b,o) (zB1 _ (zB1 _ (qt4 c e)))).1,λb c=>?_,w7⟩;obtain⟨o,e,d⟩:=T.obj _ _ k b c;exact(I7.pin (b,o) (zB1 _ (zB1 _ (qt4 c e)))).2.1
 cases f with|next=>obtain⟨σ7,H7,I7,y⟩:=j;exact again I7 y|cont=>obtain⟨σ7,H7,I7,y⟩:=j;exact again I7 y|brk=>obtain⟨σ7,H7,I7,j⟩:=j;exact⟨σ7,H7,I7.unpinned,j⟩|ret v=>obtain⟨x7,σ7,H7,I7,r7,j⟩:=j;exact⟨x7,σ7,H7,I7.unpinned,r7,j⟩
end
theorem qam6{K:Oa}{g:TG}{tb:TS}{D:Dn}{n:St}(Pv:Nat->St->Hp->Prop)(d:Pv 0 n H)(f:∀i n H,i<=xs.length->Pv i n H->SqL K H a xs)(h:∀i x n H,xs[i]?=some x->Pv i n H->g x n H λσ2 H2=>tb {D with nx:=Pv (i+1),ct:=Pv (i+1),bk:=D.nx} σ2 H2)(j:∀n H,Pv xs.length n H->D.nx n H):∃W:Nat->Nat->St->Hp->Prop,(∃m,W 0 m n H)/\∀i m n H,W i m n H->((Itl K a).stop i H/\D.nx n H)∨((Itl K a).go i H/\∃N:St->Hp->Prop,(∀n' H',N n' H'->∃c,c<m/\W (i+1) c n' H')/\∀x H',(Itl K a).yld i H x H'->g x n H' λσ2 H2=>tb {D with nx:=N,ct:=N,bk:=D.nx} σ2 H2):=by refine⟨λi m n H=>m=xs.length-i/\i<=xs.length/\Pv i n H,⟨xs.length,by simp,zBo _,d⟩,?_⟩;rintro i m n H ⟨rfl,k,p⟩;have q:=f i n H k p;by_cases b:i<xs.length;{refine .inr ⟨⟨xs,xs[i],q,by simp[b]⟩,Pv (i+1),λn' H' l=>⟨xs.length-(i+1),⋯,rfl,b,l⟩,λx H' y=>?_⟩;obtain⟨e,y⟩:=y;subst e;exact h i x n _ (y xs q) p};have e:i=xs.length:=⋯;subst e;exact .inl ⟨⟨xs,q,zA3 _⟩,j n H p⟩
theorem qat0{lo:Int}{g:TG}{tb:TS}{D:Dn}(Pv:Nat->St->Hp->Prop)(c:Pv 0 k H)(d:∀i k H,i<n->Pv i k H->g (.int (lo+i)) k H λσ2 H2=>tb {D with nx:=Pv (i+1),ct:=Pv (i+1),bk:=D.nx} σ2 H2)(f:∀k H,Pv n k H->D.nx k H):∃W:Nat->Nat->St->Hp->Prop,(∃m,W 0 m k H)/\∀i m k H,W i m k H->((Itr lo n).stop i H/\D.nx k H)∨((Itr lo n).go i H/\∃N:St->Hp->Prop,(∀k' H',N k' H'->∃b,b<m/\W (i+1) b k' H')/\∀x H',(Itr lo n).yld i H x H'->g x k H' λσ2 H2=>tb {D with nx:=N,ct:=N,bk:=D.nx} σ2 H2):=by refine⟨λi m k H=>m=n-i/\i<=n/\Pv i k H,⟨n,by simp,zBo _,c⟩,?_⟩;rintro i m k H ⟨rfl,j,p⟩;by_cases a:i<n;{refine .inr ⟨a,Pv (i+1),λk' H' h=>⟨n-(i+1),⋯,rfl,a,h⟩,λx H' y=>?_⟩;obtain⟨e,y⟩:=y;subst e y;exact d i k _ a p};have e:i=n:=⋯;subst e;exact .inl ⟨zA3 _,f k H p⟩
abbrev R2:=V->V->Hp->VK->Prop
def OpR(X:Cx)(f:V'->V'->Sem V')(r:R2):Prop:=∀(D8:List (γ×Obj))(s:δ)(a:St)(H:Hp)(x y:V)(v u:V')(Q:VK),Pb X D8 a H s->O8 x v->O8 y u->r x y H Q->K6 (K7 X.prog X.w) X.A (f v u) (EP X D8 a Q) X.xe s
def UnR(X:Cx)(f:V'->Sem V')(r:V->Hp->VK->Prop):Prop:=∀(D8:List (γ×Obj))(s:δ)(a:St)(H:Hp)(x:V)(v:V')(Q:VK),Pb X D8 a H s->O8 x v->r x H Q->K6 (K7 X.prog X.w) X.A (f v) (EP X D8 a Q) X.xe s
def CallR(X:Cx)(f:V')(r:List V->Hp->VK->Prop):Prop:=∀(D8:List (γ×Obj))(s:δ)(a:St)(H:Hp)(xs:List V)(us:List V')(Q:VK),Pb X D8 a H s->O9 xs us->r xs H Q->K6 (K7 X.prog X.w) X.A (call f us) (EP X D8 a Q) X.xe s
def tOp(r:R2)(ta tb:TE):TE:=λa H Q=>ta a H λx H1=>tb a H1 λy H2=>r x y H2 Q
def tUn(r:V->Hp->VK->Prop)(ta:TE):TE:=λa H Q=>ta a H λx H1=>r x H1 Q
def rI(C:Int->Int->Prop)(g:Int->Int->V):R2:=λx y H Q=>∃i j,x=.int i/\y=.int j/\C i j/\Q (g i j) H
def rI0(g:Int->Int->V):R2:=λx y H Q=>∃i j,x=.int i/\y=.int j/\Q (g i j) H
def rU(g:Int->V):V->Hp->VK->Prop:=λx H Q=>∃i,x=.int i/\Q (g i) H
section
variable{X:Cx}{a b:Lb}{n p:TE}{o:Pos}
theorem binT(d:PE X a n)(e:PE X b p){R:V->V->Hp->Prop}(I:Pb X D8 m H s)(h:n m H λx H1=>p m H1 λy H2=>R x y H2){f:V'->V'->Sem V'}(g:∀v u s2 x y H2,Pb X D8 m H2 s2->O8 x v->O8 y u->R x y H2->K6 (K7 X.prog X.w) X.A (f v u) Q X.xe s2):K6 (K7 X.prog X.w) X.A (eval a X.env) (λv s₁=>K6 (K7 X.prog X.w) X.A (eval b X.env) (λu s₂=>K6 (K7 X.prog X.w) X.A (f v u) Q X.xe s₂) X.xe s₁) X.xe s:=by refine thn (d D8 s m H _ I h) λv i c=>?_;obtain⟨x,H1,I1,j,k⟩:=c;refine thn (e D8 i m H1 _ I1 k) λu s2 c=>?_;obtain⟨y,H2,I2,l,q2⟩:=c;exact g v u s2 x y H2 I2 j l q2
theorem pe_op{op:Operator}(c:OpR X (K5 op) r)(d:PE X a n)(e:PE X b p):PE X (.BinOp a op b o) (tOp r n p):=by intro D8 s m H Q I h;exact wpAny_BinOp (binT d e I h λv u f x y H2 I2 g i q=>c D8 f m H2 x y v u Q I2 g i q)
theorem pe_un{op:UnaryOp}(b:UnR X (unaryOp op) r)(c:PE X a n):PE X (.UnaryOp op a o) (tUn r n):=by intro D8 s m H Q I h;exact UnaryOp_ (thn (c D8 s m H _ I h) λv d ⟨x,H1,I1,e,f⟩=>b D8 d m H1 x v Q I1 e f)
theorem opI{g:Int->Int->Int}(rule:∀(i j:Int)(t u:Tok)(s:δ)(Q:V'->δ->Prop)(E:V'->δ->Prop),C i j->Q (.int (g i j) s.toks) {s with toks:=s.toks+1}->K6 (K7 X.prog X.w) X.A (f (.int i t) (.int j u)) Q E s):OpR X f (rI C λi j=>.int (g i j)):=by intro D8 s m H x y v u Q I a b h;obtain⟨i,j,rfl,rfl,c,q⟩:=h;obtain⟨t,rfl⟩:=a;obtain⟨d,rfl⟩:=b;exact rule i j t d s _ _ c ⟨.int (g i j),H,I.tok _,⟨_,rfl⟩,q⟩
theorem opI0{g:Int->Int->Int}(rule:∀(i j:Int)(t u:Tok)(s:δ)(Q:V'->δ->Prop)(E:V'->δ->Prop),Q (.int (g i j) s.toks) {s with toks:=s.toks+1}->K6 (K7 X.prog X.w) X.A (f (.int i t) (.int j u)) Q E s):OpR X f (rI0 λi j=>.int (g i j)):=by intro D8 s m H x y v u Q I a b h;obtain⟨i,j,rfl,rfl,q⟩:=h;obtain⟨t,rfl⟩:=a;obtain⟨c,rfl⟩:=b;exact rule i j t c s _ _ ⟨.int (g i j),H,I.tok _,⟨_,rfl⟩,q⟩
theorem opB0{g:Int->Int->Bool}(rule:∀(i j:Int)(t u:Tok)(s:δ)(Q:V'->δ->Prop)(E:V'->δ->Prop),Q (.bool (g i j)) s->K6 (K7 X.prog X.w) X.A (f (.int i t) (.int j u)) Q E s):OpR X f (rI0 λi j=>.bl (g i j)):=by intro D8 s m H x y v u Q I a b h;obtain⟨i,j,rfl,rfl,q⟩:=h;obtain⟨t,rfl⟩:=a;obtain⟨c,rfl⟩:=b;exact rule i j t c s _ _ ⟨.bl (g i j),H,I,rfl,q⟩
def CPow(i j:Int):Prop:=0<=j/\j<=1000000/\i.natAbs<2 ^ 64
def CMul(i j:Int):Prop:=(-(2 ^ 64)<i/\i<2 ^ 64)∨(-(2 ^ 64)<j/\j<2 ^ 64)
theorem CMul.ok{i j:Int}(h:CMul i j):IntMulOk i j:=by rcases h with⟨h1,h2⟩|⟨h1,h2⟩;{exact .of_left (intBits_le_64 h1 h2)};exact .of_right (intBits_le_64 h1 h2)
theorem qaY1:OpR X (K5 .Add) (rI0 λi j=>.int (i+j)):=opI0 λ_ _ _ _ _ _ _ q=>add_int q
theorem qr0:OpR X (K5 .Sub) (rI0 λi j=>.int (i-j)):=opI0 λ_ _ _ _ _ _ _ q=>sub_int q
theorem qaX5:OpR X (K5 .Mult) (rI CMul λi j=>.int (i*j)):=opI λ_ _ _ _ _ _ _ a q=>mul_int q a.ok
theorem qn5:OpR X (K5 .Mod) (rI (λ_ j=>0<j) λi j=>.int (i%j)):=opI λi j _ _ _ _ _ a q=>by
 have b:(0:Int)<j:=a;exact mod_int' ⋯ (by rw[Int.fmod_eq_emod_of_nonneg i ⋯];exact q)
theorem qaX4:OpR X (K5 .Pow) (rI CPow λi j=>.int (i ^ j.toNat)):=opI λ_ _ _ _ _ _ _ a q=>pow_int_small a.1 a.2.1 a.2.2 q
theorem unI{g:Int->Int}(rule:∀(i:Int)(t:Tok)(s:δ)(Q:V'->δ->Prop)(E:V'->δ->Prop),Q (.int (g i) s.toks) {s with toks:=s.toks+1}->K6 (K7 X.prog X.w) X.A (f (.int i t)) Q E s):UnR X f (rU λi=>.int (g i)):=by intro D8 s m H x v Q I a h;obtain⟨i,rfl,q⟩:=h;obtain⟨t,rfl⟩:=a;exact rule i t s _ _ ⟨.int (g i),H,I.tok _,⟨_,rfl⟩,q⟩
theorem qaU7:UnR X (unaryOp .USub) (rU λi=>.int (-i)):=unI λ_ _ _ _ _ q=>neg_int q
end
section
variable{X:Cx}{a b c:Lb}{L M O:TE}{N:Pos}
theorem qaS6{K:St}{a:Bool}(I:Pb X D8 K H s)(q:Q (.bl k) H)(e:k=a):EP X D8 K Q (.bool a) s:=by subst e;exact⟨.bl k,H,I,rfl,q⟩
theorem Iw:OpR X (Kl .Lt) (rI0 λi j=>.bl (decide (i<j))):=opB0 λ_ _ _ _ _ _ _ q=>lt_int q
theorem G6:OpR X (Kl .LtE) (rI0 λi j=>.bl (decide (i<=j))):=opB0 λ_ _ _ _ _ _ _ q=>le_int q
theorem Bs:OpR X (Kl .Gt) (rI0 λi j=>.bl (decide (j<i))):=opB0 λ_ _ _ _ _ _ _ q=>gt_int q
theorem G7:OpR X (Kl .GtE) (rI0 λi j=>.bl (decide (j<=i))):=opB0 λ_ _ _ _ _ _ _ q=>ge_int q
theorem qaX6:OpR X (Kl .Is) (λx y H Q=>y=.non/\Q (.bl (decide (x=.non))) H):=by
 intro D8 s K H x y v u Q I a b h;obtain⟨rfl,q⟩:=h;cases b;refine is_none_gen (qaS6 I q ?_);cases x<;>first
  |(cases a;rfl)
  |(obtain⟨t,rfl⟩:=a;rfl)
theorem qaO6:OpR X (Kl .IsNot) (λx y H Q=>y=.non/\Q (.bl (!decide (x=.non))) H):=by
 intro D8 s K H x y v u Q I a b h;obtain⟨rfl,q⟩:=h;cases b;refine isnot_none_gen (qaS6 I q ?_);cases x<;>first
  |(cases a;rfl)
  |(obtain⟨t,rfl⟩:=a;rfl)
theorem OpR.or{a:R2}(h:OpR X f r)(h':OpR X f a):OpR X f (λx y H Q=>r x y H Q∨a x y H Q):=by intro D8 s K H x y v u Q I b c q;rcases q with q|q;{exact h D8 s K H x y v u Q I b c q};exact h' D8 s K H x y v u Q I b c q
theorem qa9(b:Lb)(h:op≠.In:=by decide)(h2:op≠.NotIn:=by decide):behindInMarks op b=false:=by
 have a:(op==CmpOp.In)=false:=by cases op<;>first|rfl|exact absurd rfl h
 have e2:(op==CmpOp.NotIn)=false:=by cases op<;>first|rfl|exact absurd rfl h2
 cases b<;>simp[behindInMarks,a,e2]
theorem qaN6(c:OpR X (Kl op) r)(d:PE X a L)(e:PE X b M)(hm:behindInMarks op b=false):PE X (.Compare a [op] [b] N) (tOp r L M):=by intro D8 s K H Q I h;exact wpAny_Compare1 (binT d e I h λv u f x y H2 I2 g i q=>c D8 f K H2 x y v u Q I2 g i q) hm
def tTest(t:TE):TT:=λK H Q=>t K H λx H'=>∃k,x=.bl k/\Q k H'
theorem qax3(d:OpR X (Kl op) r)(f:PE X a L)(g:PE X b M)(hm:behindInMarks op b=false):PT X (.Compare a [op] [b] N) (tTest (tOp r L M)):=by
 intro D8 s K H Q I h;refine wpAny_isTrue_Compare1 (thn (f D8 s K H _ I h) λv i ⟨x,H1,I1,j,l⟩=>thn (g D8 i K H1 _ I1 l) λu m ⟨y,H2,I2,n,q2⟩=>
  thn (d D8 m K H2 x y v u _ I2 j n q2) λc q ⟨z,H3,I3,o,k,e,p⟩=>?_) hm
 subst e;cases o;exact Kq ⟨H3,I3,p⟩
def qaK2(r a:R2)(L M O:TE):TE:=λK H Q=>L K H λx H1=>M K H1 λy H2=>r x y H2 λz H3=>∃k,z=.bl k/\(if k=true then O K H3 λb H4=>a y b H4 Q else Q (.bl false) H3)
theorem qah6{i:R2}(m:OpR X (Kl op) r)(g:OpR X (Kl f) i)(n:PE X a L)(o:PE X b M)(p:PE X c O)(hm:lastMarks [op,f] [b,c]=false:=by with_unfolding_all rfl):PE X (.Compare a [op,f] [b,c] N) (qaK2 r i L M O):=by
 intro D8 s K H Q I h;refine Compare_chain (thn (n D8 s K H _ I h) λv q ⟨x,H1,I1,t,w⟩=>chain_link (thn (o D8 q K H1 _ I1 w) λu A ⟨y,H2,I2,j,q2⟩=>
  thn (m D8 A K H2 x y v u _ I2 t j q2) λd B ⟨z,H3,I3,C,k,e,l⟩=>?_)) hm
 subst e;cases C;refine Kq ?_;cases k with|false=>exact ite_ff ⟨.bl false,H3,I3,rfl,l⟩|true=>exact ite_tt (chain_last (thn (p D8 B K H3 _ I3 l) λD E ⟨F,H4,I4,G,J⟩=>g D8 E K H4 y F u D Q I4 j G J))
theorem qU3:(Kk:Nat)<2 ^ 63:=by rw[Ks];decide
theorem qai4:OpR X (K5 .Add) (λx y H Q=>∃i j,x=.str i/\y=.str j/\i.length+j.length<=Kk/\Q (.str (i++j)) H):=by intro D8 s K H x y v u Q I a b h;obtain⟨i,j,rfl,rfl,c,q⟩:=h;obtain⟨t,rfl⟩:=a;obtain⟨d,rfl⟩:=b;exact add_str (λd e=>⟨.str (i++j),H,I.tok _,⟨_,rfl⟩,q⟩) c
theorem Dm(r:O9 [x] us):∃u,us=[u]/\O8 x u:=by cases r with|cons a b=>cases b;exact⟨_,rfl,a⟩
theorem G8(r:O9 [x,y] us):∃u a,us=[u,a]/\O8 x u/\O8 y a:=by cases r with|cons b c=>cases c with|cons d e=>cases e;exact⟨_,_,rfl,b,d⟩
theorem qaI8:CallR X (.builtin "abs") (λxs H Q=>∃i,xs=[.int i]/\Q (.int (if i<0 then -i else i)) H):=by intro D8 s K H xs a Q I r h;obtain⟨i,rfl,q⟩:=h;obtain⟨u,rfl,t,rfl⟩:=Dm r;exact call_abs_int λu b=>⟨.int (if i<0 then -i else i),H,I.tok _,⟨_,rfl⟩,q⟩
theorem qZ9(b:X.calm=true):CallR X (.builtin "max") (λxs H Q=>∃i j,xs=[.int i,.int j]/\Q (.int (if j>i then j else i)) H):=by intro D8 s K H xs c Q I r h;obtain⟨i,j,rfl,q⟩:=h;obtain⟨u,d,rfl,⟨t,rfl⟩,⟨e,rfl⟩⟩:=G8 r;refine max_two_ints (I.ok.hd b) λf g k=>⟨_,H,I.kept k,?_,q⟩;by_cases a:j>i;{rw[if_pos a,if_pos a];exact⟨_,rfl⟩};rw[if_neg a,if_neg a];exact⟨_,rfl⟩
theorem qL2(b:X.calm=true):CallR X (.builtin "min") (λxs H Q=>∃i j,xs=[.int i,.int j]/\Q (.int (if j<i then j else i)) H):=by intro D8 s K H xs c Q I r h;obtain⟨i,j,rfl,q⟩:=h;obtain⟨u,d,rfl,⟨t,rfl⟩,⟨e,rfl⟩⟩:=G8 r;refine min_two_ints (I.ok.hd b) λf g k=>⟨_,H,I.kept k,?_,q⟩;by_cases a:j<i;{rw[if_pos a,if_pos a];exact⟨_,rfl⟩};rw[if_neg a,if_neg a];exact⟨_,rfl⟩
theorem qav0:CallR X (.type "int") (λxs H Q=>(∃i,xs=[.int i]/\Q (.int i) H)∨∃k,xs=[.bl k]/\Q (.int (if k then 1 else 0)) H):=by intro D8 s K H xs b Q I r h;rcases h with⟨i,rfl,q⟩|⟨k,rfl,q⟩;{obtain⟨u,rfl,t,rfl⟩:=Dm r;exact call_int_int ⟨.int i,H,I,⟨_,rfl⟩,q⟩};obtain⟨u,rfl,a⟩:=Dm r;cases a;exact call_int_bool ⟨.int (if k then 1 else 0),H,I.tok _,⟨_,rfl⟩,q⟩
end
structure ObjM(h:Heap)(x dx C:γ)(mA:Str->Option V'):Prop where
 obj:h.get? x=some (W.instObj C dx)
 ns:h.Ns1 dx mA
 ne:dx≠x
theorem qar9{h:Heap}(n:h.Ns1 dx mA):∃c,h.get? dx=some c/\∀name,W.lookIn name c=some (mA name):=by
 obtain⟨o,d,m,f,g,i,_,j⟩:=n;refine⟨o,f,λname=>?_⟩;have e:=j name;unfold nsFind findBy at e;rw[<-Array.find?_toList] at e;unfold W.lookIn;rw[g];dsimp only;split;{rename_i y q;rw[q] at e;exact congrArg some e};rename_i q;rw[q] at e;have a:d.toList.any (·.refKey)=false:=by rw[List.any_eq_false];intro y k;obtain⟨z,t,b⟩:=i y (Array.mem_toList_iff.mp k);simp[DictEntry.refKey,b]
 have l:¬d.toList.any (·.refKey)=true:=by rw[a];exact zAw
 rw[if_neg l];exact congrArg some e
theorem ObjM.look(I:ObjM h x dx C mA):∃a,W.InstAt h x (W.instObj C dx) C (some a)/\∀name,W.lookIn name a=some (mA name):=let ⟨a,ho,hl⟩:=qar9 I.ns
 ⟨a,⟨I.obj,rfl,rfl,ho⟩,hl⟩
section
variable{prog:K8}{w:La}{A:K9}{E:V'->δ->Prop}{s:δ}{K:Oa}{x F C f:γ}{G:Str->Option V'}{name:Str}{v:V'}
theorem qaR5(X:K.In s.heap)(I:ObjM s.heap x F C G)(b:W.plainGet K C name=true)(c:W.hasDictIn K C=true)(d:W.findIn K (.ref C) name=some none)(e:G name=some v)(a:W.handedIn v=true)(h:Q v {s with toks:=s.toks+1}):K6 (K7 prog w) A (getAttr (.ref x) name expr) Q E s:=by obtain⟨g,J,f⟩:=I.look;exact W.get_value X J (W.plainGet_of b).1 (W.findObj_own c d rfl (by rw[f,e])) a h
theorem qaH0(X:K.In s.heap)(I:ObjM s.heap x F C G)(a:W.plainGet K C name=true)(b:W.findIn K (.ref C) name=some (some (.ref f)))(c:W.isFn K (.ref f)=true)(d:G name=none)(h:Q (.ref f,[.ref x]) s):K6 (K7 prog w) A (getMethod (.ref x) name pl) Q E s:=by obtain⟨e,J,g⟩:=I.look;exact W.method_fn X J (W.plainGet_of a).1 (W.plainGet_of a).2 b (zBy.mp c) (by show (W.lookIn name e).map (·.isSome)=some false;rw[g,d];rfl) h
theorem qaL0(X:K.In s.heap)(I:ObjM s.heap x F C G)(j:W.findIn K (.ref C) "__setattr__"=some (some (.builtin "object.__setattr__")))(k:W.plainOver K C=true)(l:W.takerIn K C name=some none)(m:W.hasDictIn K C=true)(n:PySem.Within G ns)(hsz:ns.length<=Kk)(h:∀h',ObjM h' x F C (λy=>if y=name then some v else G y)->Heap.SameBut F s.heap h'->Q () {s with heap:=h',toks:=s.toks+2}):K6 (K7 prog w) A (setAttr (.ref x) name v) Q E s:=by obtain⟨u,J,z⟩:=I.look;refine W.set_plain X J j (W.osa_open (s:={s with toks:=s.toks+1}) (r:=none) X J k l λb=>?_);obtain⟨B,o,e⟩:=W.any_some m;have p:s.heap.get? x=some ⟨.ref C,some F,.plain,#[]⟩:=I.obj;refine E' (J' (E' (E' (wpAny_loadPart p (E' (W.Looks.here (s:={s with toks:=s.toks+1}) (W.looks_clsIn X o) ?_))))));rw[e];refine J' (a:=some F) (E' (J' (E' ?_)));refine wpAny_nsSet1 (s:={s with toks:=s.toks+1}) I.ns λh' c d=>?_;obtain⟨D,q,t,f,g,i⟩:=c.count (PySem.Within.cons name v n);refine E' (wpAny_lookBehind f (by rw[g];exact pastItsLine_dict (zAl i (by rw[zAn];lia))) ?_);exact J' (h _ ⟨(d.2 _ (Ne.symm I.ne)).trans I.obj,c,I.ne⟩ d)
theorem qaF5(X:K.In s.heap)(hm:W.makesIn K C=true)(hi:W.findIn K (.ref C) "__init__"=some (some (.ref f)))(a:W.typeIn K (.ref f)=some (.type "function"))(h:codeAny (K7 prog w) (A.under (.builtin "type.__call__" ⟨.ref C::vs,kw⟩)) (.call (.ref f) ⟨.ref (s.heap.objs.size+1)::vs,kw⟩) (W.InitBack (s.heap.objs.size+1) R)
 {s with heap:=(s.heap.push W.emptyDict).push (W.instObj C s.heap.objs.size)}):codeAny (K7 prog w) A (.call (.ref C) ⟨vs,kw⟩) R s:=by obtain⟨b,g,d,t,c⟩:=s;exact W.make_core (W.makes_of X hm) (W.looks_findIn X hi) (λself=>W.bind_fn X self a) (.inl rfl) h
end
noncomputable def Dc(f:Str)(v:V):List (Str×V)->List (Str×V)|[]=>[(f,v)]|(g,x)::r=>if g=f then (g,v)::r else (g,x)::Dc f v r
theorem qG3(f g:Str)(v:V):∀fs:List (Str×V),(Dc f v fs).lookup g=if g=f then some v else fs.lookup g|[]=>by show Lz g [(f,v)]=_;by_cases h:g=f;{have a:(g==f)=true:=zBy.mpr h;simp only[Lz,a,if_pos h]};have a:(g==f)=false:=zC9.mpr h;simp only[Lz,a,if_neg h]|(k,x)::r=>by have c:=qG3 f g v r;rw[show Dc f v ((k,x)::r)=(if k=f then (k,v)::r else (k,x)::Dc f v r) from rfl];by_cases b:k=f;{rw[if_pos b];by_cases h:g=k;{have a:(g==k)=true:=zBy.mpr h;simp only[Lz,a,if_pos (h.trans b)]};have a:(g==k)=false:=zC9.mpr h;simp only[Lz,a,if_neg (λe:g=f=>h (e.trans b.symm))]};rw[if_neg b];by_cases h:g=k;{have a:(g==k)=true:=zBy.mpr h;simp only[Lz,a,if_neg (λe:g=f=>b (h.symm.trans e))]};have a:(g==k)=false:=zC9.mpr h;simp only[Lz,a];exact c
theorem qJ4(f:Str)(v:V):∀fs:List (Str×V),f∈(Dc f v fs).map (·.1)/\∀g,g∈fs.map (·.1)->g∈(Dc f v fs).map (·.1)|[]=>⟨by simp[Dc],λg h=>by simp at h⟩|(k,x)::r=>by obtain⟨b,c⟩:=qJ4 f v r;rw[show Dc f v ((k,x)::r)=(if k=f then (k,v)::r else (k,x)::Dc f v r) from rfl];by_cases a:k=f;{rw[if_pos a];subst a;exact⟨by simp,λg h=>by simpa using h⟩};rw[if_neg a];refine⟨?_,λg h=>?_⟩;{rw[zAy];exact zA9 _ b};rw[zAy] at h ⊢;rcases zAh.mp h with e|e;{exact zAh.mpr (.inl e)};exact zA9 _ (c g e)
theorem qG5(f:Str)(v:V):∀fs:List (Str×V),(Dc f v fs).length<=fs.length+1|[]=>by simp[Dc]|(k,x)::r=>by have b:=qG5 f v r;rw[show Dc f v ((k,x)::r)=(if k=f then (k,v)::r else (k,x)::Dc f v r) from rfl];by_cases a:k=f;{rw[if_pos a,zAn,zAn];lia};rw[if_neg a,zAn,zAn];lia
theorem RelO.some_of(r:RelO (some v) o):∃u,o=some u/\O8 v u:=by cases o with|none=>exact(show False from r).elim|some u=>exact⟨u,rfl,r⟩
theorem RelO.none_of(r:RelO none o):o=none:=by cases o with|none=>rfl|some u=>exact(show False from r).elim
theorem qas6(r:O8 v u):W.handedIn u=true:=by cases v with|non=>cases (show u=Nz from r);rfl|bl b=>cases (show u=N0 b from r);rfl|int i=>obtain⟨t,e⟩:=(show ∃t,u=Ny i t from r);cases e;rfl|str x=>obtain⟨t,e⟩:=(show ∃t,u=N1 x t from r);cases e;rfl|byt b=>obtain⟨t,e⟩:=(show ∃t,u=N6 b t from r);cases e;rfl|flt b=>obtain⟨t,e⟩:=(show ∃t,u=N2 b t from r);cases e;rfl|ref a=>cases (show u=Nx a from r);rfl|ty n=>cases (show u=N3 n from r);rfl
section
variable{P:K8}{w:La}{H:Hp}{h:Heap}{a C i:γ}{fs:List (Str×V)}
theorem qY4(b:HOk P w H h)(e:H a=some (.ins C i fs)):∃mA,ObjM h a i C mA/\(∀f,RelO (fs.lookup f) (mA f))/\PySem.Within mA (fs.map (·.1))/\fs.length<=1000/\H i=some (.own a):=by obtain⟨d,z,c,g,mA,n,r,q⟩:=(show ObjOk P w H h a (.ins C i fs) from b a _ e);exact⟨mA,⟨g,n,c⟩,r,q,z,d⟩
end
structure Cls(K:Oa)(C:γ):Prop where
 pg:W.plainGet K C Str.empty=true
 hd:W.hasDictIn K C=true
 po:W.plainOver K C=true
 sa:W.findIn K (.ref C) "__setattr__"=some (some (.builtin "object.__setattr__"))
theorem Cls.get{K:Oa}(c:Cls K C)(f:Str):W.plainGet K C f=true:=c.pg
def qh0(K:Oa)(C:γ)(f:Str):Prop:=W.findIn K (.ref C) f=some none
theorem qh0.taker{K:Oa}(n:qh0 K C f):W.takerIn K C f=some none:=by unfold W.takerIn;rw[show W.findIn K (.ref C) f=some none from n];rfl
structure Ix(K:Oa)(C:γ)(m:Str)(f:γ):Prop where
 at_:W.findIn K (.ref C) m=some (some (.ref f))
 fn:W.isFn K (.ref f)=true
 kp:W.keepIn K (.ref f)=true
section
variable{X:Cx}{G:List (γ×Obj)}{F:St}{H:Hp}{s:δ}{a C J:γ}{fs:List (Str×V)}{f:Str}{v:V}{A:K9}{E:V'->δ->Prop}
theorem qal9(I:Pb X G F H s)(e:H a=some (.ins C J fs))(c:Cls X.K C)(n:qh0 X.K C f)(l:fs.lookup f=some v)(h:∀u s',Pb X G F H s'->O8 v u->Q u s'):K6 (K7 X.prog X.w) A (getAttr (.ref a) f b) Q E s:=by obtain⟨g,O,r,_,_,_⟩:=qY4 I.hok e;obtain⟨u,i,d⟩:=RelO.some_of (v:=v) (o:=g f) (by rw[<-l];exact r f);exact qaR5 I.kIn O (c.get f) c.hd n i (qas6 d) (h u _ (I.tok _) d)
theorem qP1(I:Pb X G F H s)(e:H a=some (.ins C J fs))(c:Cls X.K C)(k:Ix X.K C m g)(l:fs.lookup m=none)(h:Q (.ref g,[.ref a]) s):K6 (K7 X.prog X.w) A (getMethod (.ref a) m pl) Q E s:=by obtain⟨b,O,r,_,_,_⟩:=qY4 I.hok e;have d:b m=none:=RelO.none_of (by rw[<-l];exact r m);exact qaH0 I.kIn O (c.get m) k.at_ k.fn d h
theorem qaf9(I:Pb X G F H s)(e:H a=some (.ins C J fs))(c:Cls X.K C)(n:qh0 X.K C f)(D:fs.length<1000)(k:O8 y u)(h:∀s',Pb X G F (upd H a (.ins C J (Dc f y fs))) s'->Q () s'):K6 (K7 X.prog X.w) A (setAttr (.ref a) f u) Q E s:=by
 obtain⟨d,O,r,i,_,j⟩:=qY4 I.hok e;have l:(fs.map (·.1)).length<=Kk:=by rw[zA5,Ks];lia
 refine qaL0 I.kIn O c.sa c.po n.taker c.hd i l λm O' p=>h _ ?_;have t:∃o,m.get? J=some o:=let ⟨o,_,_,e',_⟩:=O'.ns;⟨o,e'⟩
 refine I.write (x:=a) (e:=J) (by rw[e];exact True.intro) (.inr j) (λb q v z=>(p.2 b v).trans z) t ?_;refine⟨by rw[qd6 O.ne];exact j,?_,O.ne,O'.obj,_,O'.ns,λg=>?_,λg B=>?_⟩;{have:=qG5 f y fs;lia};{show RelO ((Dc f y fs).lookup g) (if g=f then some u else d g);rw[qG3];by_cases q:g=f;{rw[if_pos q,if_pos q];exact k};rw[if_neg q,if_neg q];exact r g};by_cases q:g=f;{rw[q];exact(qJ4 f y fs).1};refine(qJ4 f y fs).2 g (i g λz=>B ?_);show (if g=f then some u else d g)=none;rw[if_neg q];exact z
theorem Pb.made(I:Pb X G F H s):Pb X G F (upd (upd H s.heap.objs.size (.own (s.heap.objs.size+1))) (s.heap.objs.size+1) (.ins C s.heap.objs.size []))
 {s with heap:=(s.heap.push W.emptyDict).push (W.instObj C s.heap.objs.size)}:=by
 have c:(s.heap.push W.emptyDict).get? s.heap.objs.size=some W.emptyDict:=zAp s.heap rfl;have e2:((s.heap.push W.emptyDict).push (W.instObj C s.heap.objs.size)).get? (s.heap.objs.size+1)=some (W.instObj C s.heap.objs.size):=by have:=zAp (s.heap.push W.emptyDict) (o:=W.instObj C s.heap.objs.size) rfl;rwa[zCh] at this
 have f:(s.heap.push W.emptyDict).Ns s.heap.objs.size (λ_=>none):=⟨W.emptyDict,#[],_,c,rfl,(λe g=>absurd g (by simp)),λ_=>rfl⟩;have I1:=I.laid (a:=s.heap.objs.size) (o:=.own (s.heap.objs.size+1)) (h':=s.heap.push W.emptyDict) (t':=s.toks) (λb u q=>zA2 _ q) (zA3 _) ⟨_,c⟩;refine I1.laid (a:=s.heap.objs.size+1) (o:=.ins C s.heap.objs.size []) (t':=s.toks) (λb u q=>zA2 _ q) (Nat.le_of_eq (zCh _ _)) ?_;have d:s.heap.objs.size≠s.heap.objs.size+1:=zAu (Nat.lt_succ_self _);refine⟨by rw[qd6 d,qc6],zBo _,d,e2,λ_=>none,(Heap.Ns1.of_empty f).at λo q=>zA2 _ q,λ_=>True.intro,λy h=>absurd rfl h⟩
theorem qaT7(a:Kr e f env (eval e env)=eval e env)(h:K6 (K7 prog w) A (eval e env) (λo s₁=>K6 (K7 prog w) A (getAttr o f true) Q E s₁) E s):K6 (K7 prog w) A (eval (.Attribute e f pos) env) Q E s:=Attribute_any_ h (by rw[arm_eval_Attribute,a])
end
def tFld(K:Oa)(ta:TE)(f:Str):TE:=λb H Q=>ta b H λx H1=>∃a C dx fs v,x=.ref a/\H1 a=some (.ins C dx fs)/\Cls K C/\qh0 K C f/\fs.lookup f=some v/\Q v H1
def sFld(K:Oa)(ta tv:TE)(f:Str):TS:=λD b H=>tv b H λy H1=>ta b H1 λx H2=>∃a C dx fs,x=.ref a/\H2 a=some (.ins C dx fs)/\Cls K C/\qh0 K C f/\fs.length<1000/\D.nx b (upd H2 a (.ins C dx (Dc f y fs)))
section
variable{X:Cx}{o e B:Lb}{f:Str}{pos pos':Pos}{E tv:TE}
theorem qaq8(d:PE X e E)(g:Kr e f X.env (eval e X.env)=eval e X.env):PE X (.Attribute e f pos) (tFld X.K E f):=by intro D8 s A H Q I h;refine qaT7 g (thn (d D8 s A H _ I h) λu o b=>?_);obtain⟨x,H1,I1,i,a,C,p,r,v,j,k,c,n,l,q⟩:=b;subst j;obtain rfl:u=Nx a:=i;exact qal9 I1 k c n l λt w I2 m=>⟨v,H1,I2,m,q⟩
theorem qaW1(d:PE X o E)(e:PE X B tv)(g:swapsWith B (some (.Attribute o f pos')) pos.line X.env=pure false):PS X (.Assign [.Attribute o f pos'] B pos) (sFld X.K E tv f):=by intro D8 s A H D I h;refine plainObj_wpAny_Assign_Attribute (thn (e D8 s A H _ I h) λu i b=>?_) g;obtain⟨y,H1,I1,j,q⟩:=b;refine thn (d D8 i A H1 _ I1 q) λk t b=>?_;obtain⟨x,H2,I2,m,a,C,v,w,p,r,c,n,l,q2⟩:=b;subst p;obtain rfl:k=Nx a:=m;exact qaf9 I2 r c n l j λz I3=>⟨A,_,I3,q2⟩
end
section
variable{X:Cx}{F:List (γ×Obj)}{D:St}{H:Hp}{s:δ}{A:K9}{E Q:V'->δ->Prop}{c:V'}{b:Bool}
inductive Es(K:Oa)(H:Hp):V->V'->Prop where
 |non:Es K H .non (.type "NoneType")
 |bl (x:Bool):Es K H (.bl x) (.type "bool")
 |int (i:Int):Es K H (.int i) (.type "int")
 |str (x:Str):Es K H (.str x) (.type "str")
 |flt (x:UInt64):Es K H (.flt x) (.type "float")
 |l {a:γ} {xs:List V} (e:H a=some (.l xs)):Es K H (.ref a) (.type "list")
 |frz {a:γ} {o:Obj} {xs:List V} (e:H a=some (.frz o (.l xs))):Es K H (.ref a) (.type "list")
 |q {a:γ} {xs:List V} (e:H a=some (.q xs)):Es K H (.ref a) (.type "tuple")
 |dK {a:γ} {kvs:List (Key×V)} (e:H a=some (.dK kvs)):Es K H (.ref a) (.type "dict")
 |dT {a:γ} {kvs:List (List Key×V)} (e:H a=some (.dT kvs)):Es K H (.ref a) (.type "dict")
 |ins {a C dx:γ} {fs:List (Str×V)} (e:H a=some (.ins C dx fs)) (cl:Cls K C) (ha:W.findIn K (.ref C) "__class__"=some (some (.builtin "object.__class__")))
  (hn:W.specialIn K (.builtin "object.__class__") "__get__"=some (some (.builtin "getset_descriptor.__get__"))) (htk:W.takesIn K (.builtin "object.__class__")=some true)
  (hm:W.mroIn K C (.type "object")=some true):Es K H (.ref a) (.ref C)
theorem qJ6(I:Pb X F D H s)(d:O8 x u)(ty:Es X.K H x t)(e:Ob X.K t c=some b)(h:∀k,Q (.bool b) {s with toks:=k}):K6 (K7 X.prog X.w) A (call (.builtin "isinstance") [u,c]) Q E s:=by cases ty with|non=>cases (show u=Nz from d);exact W.kia_one W.kitx_none I.kIn True.intro e (λz=>nomatch z) h|bl y=>cases (show u=N0 y from d);exact W.kia_one W.kitx_bool I.kIn True.intro e (λz=>nomatch z) h|int i=>obtain⟨t,q⟩:=(show ∃t,u=Ny i t from d);cases q;exact W.kia_one W.kitx_int I.kIn True.intro e (λz=>nomatch z) h|str y=>obtain⟨t,q⟩:=(show ∃t,u=N1 y t from d);cases q;exact W.kia_one W.kitx_str I.kIn True.intro e (λz=>nomatch z) h|flt y=>obtain⟨t,q⟩:=(show ∃t,u=N2 y t from d);cases q;exact W.kia_one W.kitx_float I.kIn True.intro e (λz=>nomatch z) h|@l a g ea=>cases (show u=Nx a from d);obtain⟨_,_,n,_,f⟩:=(show ObjOk X.prog X.w H s.heap a (.l g) from I.hok a _ ea);exact W.kia_one W.kitx_list I.kIn ⟨_,f,rfl⟩ e (λz=>nomatch z) h|@frz a ob g ea=>cases (show u=Nx a from d);obtain⟨_,_,_,n,_,f⟩:=(show ObjOk X.prog X.w H s.heap a (.frz ob (.l g)) from I.hok a _ ea);exact W.kia_one W.kitx_list I.kIn ⟨_,f,rfl⟩ e (λz=>nomatch z) h|@q a g ea=>cases (show u=Nx a from d);obtain⟨_,_,_,p⟩:=(show ObjOk X.prog X.w H s.heap a (.q g) from I.hok a _ ea);obtain⟨o,f,j,_⟩:=p;exact W.kia_one W.kitx_tuple I.kIn ⟨o,f,j⟩ e (λz=>nomatch z) h|@dK a kvs ea=>cases (show u=Nx a from d);obtain⟨_,_,r,_,p⟩:=(show ObjOk X.prog X.w H s.heap a (.dK kvs) from I.hok a _ ea);obtain⟨o,l,m,f,j,_⟩:=p;exact W.kia_one W.kitx_dict I.kIn ⟨o,f,j.1⟩ e (λz=>nomatch z) h|@dT a kvs ea=>cases (show u=Nx a from d);obtain⟨_,_,g,_,o,l,m,f,j,_⟩:=(show ObjOk X.prog X.w H s.heap a (.dT kvs) from I.hok a _ ea);exact W.kia_one W.kitx_dict I.kIn ⟨o,f,j.1⟩ e (λz=>nomatch z) h|@ins a C dx fs ea cl ha hn htk hm=>cases (show u=Nx a from d);obtain⟨v,O,_⟩:=qY4 I.hok ea;obtain⟨B,J,_⟩:=O.look;exact W.kia_one (W.kitx_own (cl.get _) cl.hd ha hn htk hm) I.kIn J e (λz=>nomatch z) h
end
structure Pe(cm:Bool)(k:Nat)(A:K9):Prop where
 hd:cm=true->A.handled=none
 dp:A.depth+3*k+5<recursionLimit
 un:A.units+16*k+200<cLine
abbrev Room:=Pe true
theorem Pe.mono(r:Pe cm k A)(h:j<=k):Pe cm j A:=⟨r.hd,by have:=r.dp;lia,by have:=r.un;lia⟩
theorem Pe.deeper(r:Pe cm (k+1) A)(env:Env):Pe cm k (A.deeper env):=⟨r.hd,by have:=r.dp;show A.depth+1+3*k+5<_;lia,by have:=r.un;show A.units+3+16*k+200<_;lia⟩
theorem qak0{A:K9}:(A.under (.builtin "type.__call__" ⟨.ref C::us,kw⟩)).depth=A.depth+1:=by first|rfl|simp[Around.under,Code.weight,Code.isCreation,Code.isGuard,Code.isCaller,Code.frames,Code.isFrame,guardIds]
theorem qaj8{A:K9}:(A.under (.builtin "type.__call__" ⟨.ref C::us,kw⟩)).units=A.units+1:=by first|rfl|simp[Around.under,Code.cUnits,Code.frames,Code.isFrame]
theorem Pe.make(r:Pe cm (k+1) A)(C:γ)(us:List V')(kw:List (Str×V')):Pe cm k (A.under (.builtin "type.__call__" ⟨.ref C::us,kw⟩)):=⟨r.hd,by have:=r.dp;rw[qak0];lia,by have:=r.un;rw[qaj8];lia⟩
theorem Pe.depth(r:Pe cm k A):A.depth<recursionLimit:=by have:=r.dp;lia
theorem Pe.units(r:Pe cm k A):A.units+64<cLine:=by have:=r.un;lia
def tNil:TA:=λ_ H Q=>Q [] H
def Iy(ta:TE)(tr:TA):TA:=λa H Q=>ta a H λx H1=>tr a H1 λxs H2=>Q (x::xs) H2
section
variable{X:Cx}{e:Lb}{v:List Lb}{te:TE}{t:TA}{o:Pos}
theorem ql4:PA X [] tNil:=λ_ _ _ _ H Q I h=>Calls.spliced_nil ⟨[],H,I,.nil,h⟩
theorem qc5(b:PE X e te)(c:PA X v t)(d:Kj (e::v) X.env=(false,eval e X.env)::Kj v X.env:=by rfl):PA X (e::v) (Iy te t):=by intro o D8 s n H Q I h;rw[d];show K6 _ _ (spliced ((false,eval e X.env)::backTo o (Kj v X.env))) _ _ s;refine Calls.spliced_cons (thn (b D8 s n H _ I h) λu f a=>?_);obtain⟨x,H1,I1,g,i⟩:=a;exact thn (c o D8 f n H1 _ I1 i) λl m ⟨j,H2,I2,k,q2⟩=>⟨x::j,H2,I2,.cons g k,q2⟩
def tTup(t:TA):TE:=λn H Q=>t n H λxs H1=>xs.length<=Kk/\∀p,H1 p=none->Q (.ref p) (upd H1 p (.q xs))
def tLst(t:TA):TE:=λn H Q=>t n H λxs H1=>xs.length<=Kk/\∀p,H1 p=none->Q (.ref p) (upd H1 p (.l xs))
theorem qaN2{x1}(h:PA X v t):PE X (.Tuple v x1 o) (tTup t):=by intro D8 s n H Q I d;refine wpAny_Tuple_spliced (thn (h o D8 s n H _ I d) λf a c=>?_);obtain⟨g,H1,I1,r,z,q⟩:=c;refine⟨by rw[<-r.length];exact z,?_⟩;have i:H1 a.heap.objs.size=none:=I1.hok.fresh (zA3 _);refine⟨.ref a.heap.objs.size,upd H1 a.heap.objs.size (.q g),I1.laid (t':=a.toks) (λb u e=>zA2 _ e) (zA3 _) ?_,rfl,q _ i⟩;exact⟨z,f,r,⟨_,zAp _ rfl,rfl,_,rfl⟩⟩
theorem qaD6(h:PA X v t):PE X (.List v o) (tLst t):=by intro D8 s n H Q I d;refine wpAny_List_spliced (thn (h o D8 s n H _ I d) λf a c=>?_);obtain⟨g,H1,I1,r,z,q⟩:=c;refine⟨by rw[<-r.length];exact z,?_⟩;have i:H1 a.heap.objs.size=none:=I1.hok.fresh (zA3 _);refine⟨.ref a.heap.objs.size,upd H1 a.heap.objs.size (.l g),I1.laid (t':=a.toks) (λb u e=>zA2 _ e) (zA3 _) ?_,rfl,q _ i⟩;exact⟨z,f,0,r,zAp _ rfl⟩
end
abbrev Sp:=List V->Hp->VK->XK->Prop
abbrev CXT:=List Env->Hp->δ->XK->V'->δ->Prop
structure Env0(P:K8)(w:La)(K:Oa)(mg:Str->Option V')(base:Heap)(A:K9)(outer:List Env)(s:δ)(H:Hp):Prop where
 frames:A.frames=some outer
 mod:Mod K mg base
 bs:∀b o,base.get? b=some o->s.heap.get? b=some o/\H b=none
 bsz:base.objs.size<=s.heap.objs.size
 funs:s.heap.FunFrames base outer
 frf:∀b∈frs outer,H b=none
 hok:HOk P w H s.heap
 bare:AllBare s.gens
def CE(outer:List Env)(P:K8)(w:La)(H:Hp)(s:δ)(Q:VK)(u:V')(s':δ):Prop:=∃v H',s'.os=s.os/\AllBare s'.gens/\Un (frs outer) [] H H' s.heap s'.heap/\HOk P w H' s'.heap/\O8 v u/\Q v H'
def CR(CX:CXT)(outer:List Env)(P:K8)(w:La)(H:Hp)(s:δ)(Q:VK)(E:XK)(r:Result)(s':δ):Prop:=match r with|.ok (.ret u)=>CE outer P w H s Q u s'|.ok _=>False|.error e=>CX outer H s E e s'
structure D9(cm:Bool)(P:K8)(w:La)(K:Oa)(mg:Str->Option V')(base:Heap)(CX:CXT)(k:Nat)(f:γ)(fd:ε)(ps:List Str)(sp:Sp):Prop where
 len:∀vs H Q E,sp vs H Q E->vs.length=ps.length
 run:∀(A:K9)(outer:List Env)(s:δ)(H:Hp)(args:Args)(us:List V')(vs:List V)(Q:VK)(E:XK),Pe cm k A->Env0 P w K mg base A outer s H->BindsTo s fd args (ps.zip us)->O9 vs us->sp vs H Q E->codeAny (K7 P w) A (.call (.ref f) args) (CR CX outer P w H s Q E) s
abbrev Eg:=D9 true
theorem Env0.make{K:Oa}(e:Env0 P w K mg base A outer s H)(C:γ)(us:List V')(kw:List (Str×V')):Env0 P w K mg base (A.under (.builtin "type.__call__" ⟨.ref C::us,kw⟩)) outer s H:=⟨by first|exact e.frames|(simpa[Around.under,Code.envs,Code.isFrame,pushEnvs] using e.frames),e.mod,e.bs,e.bsz,e.funs,e.frf,e.hok,e.bare⟩
section
variable{X:Cx}{k:List (γ×Obj)}{j:St}{H:Hp}{s s':δ}
theorem Pb.env0(I:Pb X k j H s):Env0 X.prog X.w X.K X.mg X.base X.A X.stack s H:=⟨I.ok.frames,I.ok.mod,I.bs,zAl I.ok.bsz I.sz,I.stack,I.stkFree,I.hok,I.bare⟩
theorem Pb.after(I:Pb X k j H s)(h:CE X.stack X.prog X.w H s Q u s'):EP X k j Q u s':=by obtain⟨v,H',e,bare,f,a,r,q⟩:=h;obtain⟨i,g,d,t,c⟩:=s';obtain rfl:c=s.os:=e;exact⟨v,H',I.call (h':=i) (g':=g) (d':=d) (t':=t) (ch:=[]) f a bare (λb z=>absurd z (by simp)),r,q⟩
end
def G9(sp:Sp)(dvs:List V)(E:St->XK)(t:TA):TE:=λa H Q=>t a H λvs H1=>sp (vs++dvs) H1 Q (E a)
def Ga(C:γ)(m:Str)(sp:Sp)(dvs:List V)(E:St->XK)(ta:TE)(t:TA):TE:=λb H Q=>ta b H λx H1=>∃a dx fs,x=.ref a/\H1 a=some (.ins C dx fs)/\fs.lookup m=none/\t b H1 λvs H2=>sp (x::(vs++dvs)) H2 Q (E b)
def tMake(C:γ)(sp:Sp)(dvs:List V)(E:St->XK)(t:TA):TE:=λa H Q=>t a H λvs H1=>∀x dx,H1 x=none->H1 dx=none->dx≠x->sp (.ref x::(vs++dvs)) (upd (upd H1 dx (.own x)) x (.ins C dx [])) (λv H2=>v=.non/\Q (.ref x) H2) (E a)
def Binds(K:Oa)(fd:ε)(ps:List Str)(ds:List V'):Prop:=∀(s:δ)(us:List V'),K.In s.heap->(us++ds).length=ps.length->BindsTo s fd ⟨us,[]⟩ (ps.zip (us++ds))
theorem Binds.all{K:Oa}(h:∀us:List V',us.length=ps.length->bindArgs fd ⟨us,[]⟩=pure (ps.zip us)):Binds K fd ps []:=λs us _ a=>by
 rw[zAd] at a ⊢;exact .of_eq (h us a)
def qQ2(CX:CXT)(X:Cx)(E:St->XK):Prop:=∀(D8:List (γ×Obj))(a:St)(H:Hp)(s:δ)(e:V')(s':δ),Pb X D8 a H s->CX X.stack H s (E a) e s'->X.xe e s'
section
variable{X:Cx}{Z:Bool}{CX:CXT}{k:Nat}{f C:γ}{fd:ε}{ps:List Str}{sp:Sp}{T:List V}{ds:List V'}{E:St->XK}{x m:Str}{p S U:Pos}{e o:Lb}{Y:List Lb}{ta:TE}{t:TA}
theorem qaC7(F:D9 Z X.prog X.w X.K X.mg X.base CX k f fd ps sp)(c:Pe Z k X.A)(d:Binds X.K fd ps ds)(g:O9 T ds)(i:qQ2 CX X E)(I:Pb X D8 R H s)(r:O9 vs us)(h:sp (vs++T) H Q (E R)):K6 (K7 X.prog X.w) X.A (call (.ref f) us) (EP X D8 R Q) X.xe s:=by
 have b:O9 (vs++T) (us++ds):=r.append g;have j:(us++ds).length=ps.length:=by rw[<-b.length];exact F.len _ _ _ _ h
 refine wpAny_call (codeAny_mono (F.run X.A X.stack s H ⟨us,[]⟩ (us++ds) (vs++T) Q (E R) c I.env0 (d s us I.kIn j) b h) λr l a=>?_);cases r with|error e=>exact i D8 R H s e l I a|ok m=>cases m with|ret u=>exact I.after a|next=>exact Oz a|brk=>exact Oz a|cont=>exact Oz a
theorem qah7(F:D9 Z X.prog X.w X.K X.mg X.base CX k f fd ps sp)(d:Pe Z k X.A)(g:Gl X x)(hm:X.mg x=some (.ref f))(i:W.keepIn X.K (.ref f)=true)(j:Binds X.K fd ps ds)(l:O9 T ds)(m:qQ2 CX X E)(n:PA X (e::Y) t)(a:N' x:=by decide)(o:Kj (e::Y) X.env=(false,eval e X.env)::Kj Y X.env:=by rfl)(b:(backTo S (Kj Y X.env)).any (·.1)=false:=by rfl):PE X (.Call (.Name x p) (e::Y) [] S) (G9 sp T E t):=by intro D8 s R H Q I h;refine wpAny_Call_Name_kw (qak6 I g hm ?_ a);refine W.callWith_K (h₀:=X.base) I.ok.mod.kin i (thn (n S D8 s R H _ I h) λu v c=>?_) o b;obtain⟨y,H1,I1,r,q⟩:=c;refine⟨I1.kIn,?_⟩;exact qaC7 F d j l m I1 r q
theorem qX1(n:PE X o ta)(c:Cls X.K C)(hm:Ix X.K C m f)(F:D9 Z X.prog X.w X.K X.mg X.base CX k f fd ps sp)(p:Pe Z k X.A)(v:Binds X.K fd ps ds)(y:O9 T ds)(z:qQ2 CX X E)(B:PA X (e::Y) t)(d:Kj (e::Y) X.env=(false,eval e X.env)::Kj Y X.env:=by rfl)(g:(backTo S (Kj Y X.env)).any (·.1)=false:=by rfl)(D:eval (.Call (.Attribute o m U) (e::Y) [] S) X.env=(do
 let ov<-eval o X.env
 standAt U.atName
 let (f,first)<-holding [ov] (getMethod ov m pl)
 callWith S f first (backTo S (Kj (e::Y) X.env)) (backToKw S (Kv [] X.env))):=by rfl):PE X (.Call (.Attribute o m U) (e::Y) [] S) (Ga C m sp T E ta t):=by intro D8 s R H Q I h;refine W.methodCall_KW (pl:=pl) (thn (n D8 s R H _ I h) λu G b=>?_) D;obtain⟨x,H1,I1,J,a,N,O,L,M,l,q⟩:=b;subst L;obtain rfl:u=Nx a:=J;refine qP1 I1 M c hm l ?_;refine W.callWith_K (first:=[.ref a]) (h₀:=X.base) I.ok.mod.kin hm.kp (thn (B S D8 G R H1 _ I1 q) λi P b=>?_) d g;obtain⟨j,H2,I2,r,q2⟩:=b;refine⟨I2.kIn,?_⟩;exact qaC7 (us:=.ref a::i) (vs:=.ref a::j) F p v y z I2 (.cons rfl r) q2
theorem qah4(d:PE X o ta)(c:Cls X.K C)(hm:Ix X.K C m f)(F:D9 Z X.prog X.w X.K X.mg X.base CX k f fd ps sp)(e:Pe Z k X.A)(g:Binds X.K fd ps ds)(i:O9 T ds)(j:qQ2 CX X E)(n:eval (.Call (.Attribute o m U) [] [] S) X.env=(do
 let ov<-eval o X.env
 standAt U.atName
 let (f,first)<-holding [ov] (getMethod ov m pl)
 callWith S f first (backTo S (Kj [] X.env)) (backToKw S (Kv [] X.env))):=by rfl):PE X (.Call (.Attribute o m U) [] [] S) (Ga C m sp T E ta tNil):=by intro D8 s R H Q I h;refine W.methodCall_KW (pl:=pl) (thn (d D8 s R H _ I h) λu v b=>?_) n;obtain⟨x,H1,I1,p,a,y,z,r,t,l,q⟩:=b;subst r;obtain rfl:u=Nx a:=p;refine qP1 I1 t c hm l ?_;exact W.callWith_K0 (first:=[.ref a]) I1.kIn hm.kp (qaC7 (us:=[.ref a]) (vs:=[.ref a]) F e g i j I1 (.cons rfl .nil) q)
structure Mk(K:Oa)(C f:γ):Prop where
 makes:W.makesIn K C=true
 init:W.findIn K (.ref C) "__init__"=some (some (.ref f))
 fn:W.isFn K (.ref f)=true
 kp:W.keepIn K (.ref C)=true
theorem qaC6(M:Mk X.K C f)(F:D9 Z X.prog X.w X.K X.mg X.base CX k f fd ps sp)(d:Pe Z (k+1) X.A)(g:Binds X.K fd ps ds)(i:O9 T ds)(j:qQ2 CX X E)(I:Pb X D8 R H s)(r:O9 vs us)(h:∀x dx,H x=none->H dx=none->dx≠x->sp (.ref x::(vs++T)) (upd (upd H dx (.own x)) x (.ins C dx [])) (λv H2=>v=.non/\Q (.ref x) H2) (E R)):K6 (K7 X.prog X.w) X.A (call (.ref C) us) (EP X D8 R Q) X.xe s:=by
 have b:=h (s.heap.objs.size+1) s.heap.objs.size (I.hok.fresh (Nat.le_succ _)) (I.hok.fresh (zA3 _)) (zAu (Nat.lt_succ_self _));have I2:=Pb.made (C:=C) I;have c:O9 (V.ref (s.heap.objs.size+1)::(vs++T)) (Nx (s.heap.objs.size+1)::(us++ds)):=.cons rfl (r.append i);have l:(Nx (s.heap.objs.size+1)::us++ds).length=ps.length:=by have e:=c.length;rw[F.len _ _ _ _ b] at e;exact e.symm
 refine wpAny_call (qaF5 (f:=f) I.kIn M.makes M.init (zBy.mp M.fn) (codeAny_mono (F.run _ X.stack _ _ ⟨Nx (s.heap.objs.size+1)::us,[]⟩ (Nx (s.heap.objs.size+1)::(us++ds)) _ _ (E R) (d.make C us [])
  (I2.env0.make C us []) (g _ (Nx (s.heap.objs.size+1)::us) I2.kIn l) c b) λr m a=>?_))
 cases r with|error e=>exact j D8 R _ _ e m I2 a|ok n=>cases n with|ret u=>obtain⟨v,H',I3,o,p,q⟩:=I2.after a;subst p;exact⟨o,⟨V.ref (s.heap.objs.size+1),H',I3,rfl,q⟩⟩|next=>exact Oz a|brk=>exact Oz a|cont=>exact Oz a
theorem qax8(M:Mk X.K C f)(F:D9 Z X.prog X.w X.K X.mg X.base CX k f fd ps sp)(d:Pe Z (k+1) X.A)(g:Gl X x)(hm:X.mg x=some (.ref C))(i:Binds X.K fd ps ds)(j:O9 T ds)(l:qQ2 CX X E)(m:PA X (e::Y) t)(a:N' x:=by decide)(n:Kj (e::Y) X.env=(false,eval e X.env)::Kj Y X.env:=by rfl)(b:(backTo S (Kj Y X.env)).any (·.1)=false:=by rfl):PE X (.Call (.Name x p) (e::Y) [] S) (tMake C sp T E t):=by intro D8 s R H Q I h;refine wpAny_Call_Name_kw (qak6 I g hm ?_ a);refine W.callWith_K (h₀:=X.base) I.ok.mod.kin M.kp (thn (m S D8 s R H _ I h) λo u c=>?_) n b;obtain⟨v,H1,I1,r,q⟩:=c;refine⟨I1.kIn,?_⟩;exact qaC6 M F d i j l I1 r q
end
structure qa8(N P:List Str)(sc:Scope):Prop where
 kind:sc.kind=.function
 co:sc.isCoroutine=false
 gen:sc.isGenerator=false
 nd:N.Nodup
 pre:N.take P.length=P
 par:∀x∈P,sc.names.lookup x=some .local∨sc.names.lookup x=some .cell
 nofree:∀y∈sc.names,y.2≠.free
theorem qaa1{Ln:Str->Option NameKind}{x:Str}:∀{binds:List (Str×V')}{m:Str->Option V'},(∀v,(x,v)∉binds)->bindL Ln binds m x=m x
 |[],_,_=>rfl|(n,v)::r,m,h=>by
  unfold bindL;rw[qaa1 λw a=>h w (zA9 _ a)];split
  .have:x≠n:=by rintro rfl;exact h v zAf
   simp[this]
  rfl
theorem qaa3{Ln:Str->Option NameKind}{x:Str}:∀{binds:List (Str×V')}{m:Str->Option V'},(∀v,(x,v)∉binds)->bindC Ln binds m x=m x
 |[],_,_=>rfl|(n,v)::r,m,h=>by
  unfold bindC;rw[qaa3 λw a=>h w (zA9 _ a)];split;{rfl};have:x≠n:=by rintro rfl;exact h v zAf
  simp[this]
theorem qaa2{Ln:Str->Option NameKind}{x:Str}{v:V'}:∀{P:List Str}{vs:List V'}{i:Nat}{m:Str->Option V'},P.Nodup->P[i]?=some x->vs[i]?=some v->Ln x=some .local->bindL Ln (P.zip vs) m x=some v|[],_,_,_,_,h,_,_=>by simp at h|_::_,[],_,_,_,_,h,_=>by simp at h|p::P,w::vs,0,m,nd,h1,h2,hk=>by simp at h1 h2;subst h1;subst h2;show bindL Ln ((p,w)::P.zip vs) m p=_;unfold bindL;rw[qaa1 λv a=>(zCn.mp nd).1 (Mt a).1,if_pos hk];simp|p::P,w::vs,i+1,m,nd,h1,h2,hk=>by show bindL Ln ((p,w)::P.zip vs) m x=_;unfold bindL;exact qaa2 (i:=i) (zCn.mp nd).2 (by simpa using h1) (by simpa using h2) hk
theorem qaa4{Ln:Str->Option NameKind}{x:Str}{v:V'}:∀{P:List Str}{vs:List V'}{i:Nat}{m:Str->Option V'},P.Nodup->P[i]?=some x->vs[i]?=some v->Ln x≠some .local->bindC Ln (P.zip vs) m x=some v|[],_,_,_,_,h,_,_=>by simp at h|_::_,[],_,_,_,_,h,_=>by simp at h|p::P,w::vs,0,m,nd,h1,h2,hk=>by simp at h1 h2;subst h1;subst h2;show bindC Ln ((p,w)::P.zip vs) m p=_;unfold bindC;rw[qaa3 λv a=>(zCn.mp nd).1 (Mt a).1,if_neg hk];simp|p::P,w::vs,i+1,m,nd,h1,h2,hk=>by show bindC Ln ((p,w)::P.zip vs) m x=_;unfold bindC;exact qaa4 (i:=i) (zCn.mp nd).2 (by simpa using h1) (by simpa using h2) hk
noncomputable def start(N:List Str)(vs:List V):St:=vs.map some++Ls (N.length-vs.length) none
noncomputable def Et(cm:Bool)(CX:CXT)(P:K8)(w:La)(K:Oa)(mg:Str->Option V')(base:Heap)(N:List Str)(qual:Str)(scope:Scope)(f:γ)(cd:V')(A:K9)(outer:List Env)(s:δ)(H:Hp)(E:XK):Cx where
 prog:=P
 w:=w
 K:=K
 mg:=mg
 base:=base
 A:=A.deeper (envOfC qual scope s.heap.objs.size f cd)
 N:=N
 s₀:=s
 H₀:=H
 env:=envOfC qual scope s.heap.objs.size f cd
 outer:=outer
 stack:=envOfC qual scope s.heap.objs.size f cd::outer
 ex:=[]
 calm:=cm
 fn:=λ_=>true
 pn:=[]
 xe:=λe s'=>K6 (K7 P w) (A.deeper (envOfC qual scope s.heap.objs.size f cd)) (leaving (envOfC qual scope s.heap.objs.size f cd) e) (λ_ a=>CX outer H s E e a) (λb a=>CX outer H s E b a) s'
theorem qan4{sc:Scope}(h:sc.names.lookup x=some .cell):∃c,(cellsFrom n sc.names []).lookup x=some c:=by have q:=W.cellsFrom_some sc.names n [] (.inl h);exact zBb.mp q
theorem qas4{K:Oa}(S:qa8 N ps scope)(G:cm=true->A.handled=none)(g:Env0 P w K mg base A outer s H)(M:vs.length=ps.length)(r:O9 vs us)(x:InCallC s s.heap.objs.size (bindL (envOfC qual scope s.heap.objs.size f cd).kindOf (ps.zip us) λ_=>none) (cellsFrom (s.heap.objs.size+1) scope.names []) (bindC (envOfC qual scope s.heap.objs.size f cd).kindOf (ps.zip us) λ_=>none) C):Pb (Et cm CX P w K mg base N qual scope f cd A outer s H E) [] (start N vs) H C:=by
 have I:ps.length<=N.length:=by have:=congrArg Lv S.pre;rw[zB5] at this;lia
 obtain⟨t,O,rfl,D⟩:=x.done;have j:∀b:γ,b∉(Et cm CX P w K mg base N qual scope f cd A outer s H E).ex:=λb z=>absurd (show b∈([]:List γ) from z) (by simp);refine⟨⟨g.mod,S.kind,rfl,rfl,zA3 _,λy z c t d=>?_,λy l=>?_,λy c _ h=>?_,G,Around.frames_deeper g.frames,.inr ⟨rfl,rfl⟩,λb z=>absurd z (j b),g.bs,g.bsz,λb _ _=>j b,λb z=>absurd z (j b),g.funs,g.frf⟩,
  rfl,g.bare,Un.kept D,⟨_,x.toInCall.ns,λi y v t d Q=>?_⟩,λy c h=>⟨_,x.cell y c h⟩,g.hok.fresh (zA3 _),λy c h=>?_,λp m=>absurd (show p∈([]:List (γ×Obj)) from m) (by simp),g.hok.kept D,?_⟩
 {exact name_of_addr x.apart (PySem.mem_of_lookup t) (PySem.mem_of_lookup d)};{have l:scope.names.lookup y=some .cell∨scope.names.lookup y=some .free:=l;rcases l with l|l;{exact qan4 l};exact absurd rfl (S.nofree _ (PySem.mem_of_lookup l))};{exact zBl (x.above y c (PySem.mem_of_lookup h))}
 .have B:i<vs.length:=by unfold start at d;by_cases B:i<vs.length;{exact B};rw[zBt (by simpa using B)] at d;rw[List.getElem?_replicate] at d;split at d<;>cases d
  have J:vs[i]?=some v:=by unfold start at d;rw[zAj (by simpa using B),zB7] at d;cases e:vs[i]? with|none=>rw[e] at d;cases d|some a=>rw[e] at d;cases d;rfl
  obtain⟨u,F,L⟩:=r.get J;have m:ps[i]?=some y:=by rw[<-S.pre,List.getElem?_take_of_lt ⋯];exact t
  have o:ps.Nodup:=by rw[<-S.pre];exact S.nd.sublist (zC4 _ _)
  refine⟨u,L,?_⟩;rcases S.par y (zB0 m) with k|k;{exact .inl ⟨k,qaa2 o m F k⟩};obtain⟨c,e⟩:=qan4 (n:=s.heap.objs.size+1) k;refine .inr ⟨.inl k,c,e,?_⟩;have q:=x.cell y c e;rw[qaa4 o m F (by show scope.names.lookup y≠_;rw[k];decide)] at q;exact q
 {exact g.hok.fresh (zBl (x.above y c (PySem.mem_of_lookup h)))};unfold start;show _=N.length;rw[zA8,zA5,List.length_replicate];lia
theorem Iz{K:Oa}{kV:V'}{i:Array (Option V')}(M:K.lookup f=some ⟨oc,L,.func (W.fnOf name qual params body scope B kV d C F a D),i⟩)(j:W.codeIn K a qual=true)(S:qa8 N ps scope)(len:∀vs H Q E,sp vs H Q E->vs.length=ps.length)(hbody:∀(A:K9)(outer:List Env)(s:δ)(H:Hp)(vs:List V)(Q:VK)(E:XK),Pe cm k (A.deeper (envOfC qual scope s.heap.objs.size f a))->sp vs H Q E->∃t,PSs (Et cm CX P w K mg base N qual scope f a A outer s H E) body t/\t {nx:=λ_ H'=>Q .non H',rt:=Q} (start N vs) H):D9 cm P w K mg base CX (k+1) f (W.fnOf name qual params body scope B kV d C F a D) ps sp:=by
 refine⟨len,λA outer s H args O vs Q E l g R r h=>?_⟩;have T:=len _ _ _ _ h;have KX:K.In s.heap:=g.mod.kin.keeps λb o e=>(g.bs b o e).1;have m:s.heap.NoLimit:=g.mod.nolimit.keeps λb o e=>(g.bs b o e).1;have hkind:∀y∈ps.zip O,scope.names.lookup y.1=some .local∨(scope.names.lookup y.1=some .cell/\((cellsFrom (s.heap.objs.size+1) scope.names []).lookup y.1).isSome=true):=λ⟨n,v⟩ U=>by rcases S.par n (Mt U).1 with q|q;{exact .inl q};exact .inr ⟨q,W.cellsFrom_some _ _ _ (.inl q)⟩
 refine codeAny_call_function l.depth (KX _ _ M) rfl S.co S.gen rfl (W.codeRec_of KX j) (R _ _ _ _ ?_);refine wpAny_newFunctionEnv_cells S.kind hkind λX Y G x=>?_;subst Y;refine⟨m.keeps x.toInCall.keep,codeAny_func ?_⟩;obtain⟨t,Z,hq⟩:=hbody A outer s H vs Q E (l.deeper _) h;have I:Pb (Et cm CX P w K mg base N qual scope f a A outer s H E) [] (start N vs) H G:=qas4 S l.hd g T r x;refine Kw (Z [] G (start N vs) H _ I hq) (λfl p c=>?_) λe p c=>c;have fin:∀{σ':St}{H':Hp}{v:V}{u:V'},Pb (Et cm CX P w K mg base N qual scope f a A outer s H E) [] σ' H' p->O8 v u->Q v H'->CE outer P w H s Q u p:=λ{σ' H' v u} J z q=>⟨v,H',J.os,J.bare,J.base,J.hok,z,q⟩;cases fl with|ret u=>obtain⟨v,σ',H',J,z,q⟩:=c;exact fin J z q|next=>obtain⟨σ',H',J,q⟩:=c;exact fin (v:=V.non) (u:=Nz) J rfl q|brk=>obtain⟨_,_,_,q⟩:=c;exact Oz q|cont=>obtain⟨_,_,_,q⟩:=c;exact Oz q
section
variable{X:Cx}{x:Str}{p u:Pos}{e:Lb}{v:List Lb}{t:TA}{w T:String}{r:List V->Hp->VK->Prop}
def tCB(r:List V->Hp->VK->Prop)(t:TA):TE:=λq H Q=>t q H λvs H1=>r vs H1 Q
theorem qaD9(c:CallR X (.builtin w) r)(d:Gl X x)(hm:X.mg x=none)(f:Ko x=some (.builtin w))(g:PA X (e::v) t)(i:x ≠ "__name__" := by decide)(a:N' x:=by decide)(j:Kj (e::v) X.env=(false,eval e X.env)::Kj v X.env:=by rfl)(b:(backTo u (Kj v X.env)).any (·.1)=false:=by rfl):PE X (.Call (.Name x p) (e::v) [] u) (tCB r t):=by intro D8 s q H Q I h;refine wpAny_Call_Name_kw (qO4 I d hm f ?_ i a);exact PyProof.Rows.callWith_builtin1 (thn (g u D8 s q H _ I h) λk l ⟨m,H1,I1,n,o⟩=>c D8 l q H1 m k Q I1 n o) j b
theorem qaq9(c:CallR X (.type T) r)(d:Gl X x)(hm:X.mg x=none)(f:Ko x=some (.type T))(g:PA X (e::v) t)(i:x ≠ "__name__" := by decide)(a:N' x:=by decide)(j:Kj (e::v) X.env=(false,eval e X.env)::Kj v X.env:=by rfl)(b:(backTo u (Kj v X.env)).any (·.1)=false:=by rfl):PE X (.Call (.Name x p) (e::v) [] u) (tCB r t):=by intro D8 s q H Q I h;refine wpAny_Call_Name_kw (qO4 I d hm f ?_ i a);exact PyProof.Rows.callWith_type1 (thn (g u D8 s q H _ I h) λk l ⟨m,H1,I1,n,o⟩=>c D8 l q H1 m k Q I1 n o) j b
end
end L2
namespace HT
open PySem PyProof.Rows
section
noncomputable def sIx(n d:Nat):Option Int->Nat|none=>d|some v=>if v<0 then (v+(n:Int)).toNat else min v.toNat n
theorem qT0(n d:Nat):sIx n d none=d:=rfl
theorem qag6(n d k:Nat):sIx n d (some (k:Int))=min k n:=by show (if (k:Int)<0 then ((k:Int)+(n:Int)).toNat else min (k:Int).toNat n)=min k n;rw[if_neg ⋯,Int.toNat_natCast]
end
end HT
namespace L2
open PySem PySem.Spec PyProof.Rows
variable{its us:List V'}{n:Nat}{x:V}{α:Type}
abbrev TO:=St->Hp->(Option Int->Hp->Prop)->Prop
def PO(X:Cx)(e:Option Lb)(t:TO):Prop:=∀(D8:List (γ×Obj))(s:δ)(a:St)(H:Hp)(Q:Option Int->Hp->Prop),Pb X D8 a H s->t a H Q->K6 (K7 X.prog X.w) X.A (evalPart e X.env) (λu s'=>∃o H',Pb X D8 a H' s'/\IsPart u o/\Q o H') X.xe s
def qaK1:TO:=λ_ H Q=>Q none H
def tPart(t:TE):TO:=λa H Q=>t a H λx H1=>∃i,x=.int i/\Q (some i) H1
theorem qal2:∀{us:List V'},O9 (ns.map V.int) us->IntsAre us ns:=by induction ns with|nil=>intro us r;rw[M7] at r;cases r;exact .nil|cons n ns a=>intro us r;rw[zAy] at r;cases r with|cons b c=>obtain⟨t,e⟩:=b;subst e;exact .cons n t (a c)
section
variable{X:Cx}{e:Lb}{te:TE}{G K:Option Lb}{L M:TO}{N O:Pos}
theorem qW9:PO X none qaK1:=by intro D8 s E H Q I h;rw[evalPart_none];exact J' ⟨none,H,I,.none,h⟩
theorem qW8(h:PE X e te):PO X (some e) (tPart te):=by intro D8 s E H Q I b;rw[evalPart_some];refine thn (h D8 s E H _ I b) λu f a=>?_;obtain⟨x,H1,I1,c,d⟩:=a;obtain⟨i,rfl,q⟩:=d;obtain⟨t,rfl⟩:=c;exact⟨some i,H1,I1,.int i t,q⟩
def SlR(X:Cx)(r:V->Option Int->Option Int->Hp->VK->Prop):Prop:=∀(D8:List (γ×Obj))(s:δ)(E:St)(H:Hp)(x:V)(v vl vu:V')(G K:Option Int)(sl:γ)(Q:VK),Pb X D8 E H s->O8 x v->s.heap.IsSliceOf sl vl vu .none->IsPart vl G->IsPart vu K->r x G K H Q->∃T id,typeLookup (.type T) "__getitem__"=pure (some (.builtin id))/\s.TypeIs v T/\K6 (K7 X.prog X.w) X.A (getItem v (.ref sl)) (EP X D8 E Q) X.xe s
def tSl(r:V->Option Int->Option Int->Hp->VK->Prop)(te:TE)(L M:TO):TE:=λE H Q=>te E H λx H1=>L E H1 λl H2=>M E H2 λu H3=>r x l u H3 Q
theorem qI6(g:SlR X r)(i:PE X e te)(j:PO X G L)(k:PO X K M):PE X (.Subscript e (.Slice G K none O) N) (tSl r te L M):=by intro D8 s E H Q I h;refine Subscript_ (thn (i D8 s E H _ I h) λv m a=>?_);obtain⟨x,H1,I1,n,o⟩:=a;refine wpAny_Slice (thn (j D8 m E H1 _ I1 o) λd p a=>?_);obtain⟨l,H2,I2,t,q2⟩:=a;refine thn (k D8 p E H2 _ I2 q2) λf c a=>?_;obtain⟨u,H3,I3,y,z⟩:=a;rw[evalPart_none];refine J' ?_;have I4:Pb X D8 E H3 {c with heap:=c.heap.push {cls:=.type "slice",data:=.fields #[d,f,.none]} }:=I3.kept (t':=c.toks) λb F q=>zA2 _ q;obtain⟨T,id,B,C,D⟩:=g D8 {c with heap:=c.heap.push {cls:=.type "slice",data:=.fields #[d,f,.none]} } E H3 x v d f l u c.heap.objs.size Q I4 n (Heap.IsSliceOf.new ..) t y z;show K6 (K7 X.prog X.w) X.A (subscriptTail e (.Slice G K none O) v (.ref c.heap.objs.size)) (EP X D8 E Q) X.xe {c with heap:=c.heap.push {cls:=.type "slice",data:=.fields #[d,f,.none]} };exact tail_any (ops:=[.ref c.heap.objs.size,v]) C B D (by with_unfolding_all rfl)
def Gb(xs:List V)(G K:Option Int):List V:=(xs.drop (HT.sIx xs.length 0 G)).take (HT.sIx xs.length xs.length K-HT.sIx xs.length 0 G)
theorem qad7(xs:List V)(G K:Option Int):(Gb xs G K).length<=xs.length:=by unfold Gb;rw[zB5,zCe];lia
end
noncomputable def ixN(n:Nat)(i:Int):Option Nat:=if 0<=i then (if i<n then some i.toNat else none) else if -(n:Int)<=i then some (i+n).toNat else none
def atI{α:Type}(xs:List α)(i:Int):Option α:=(ixN xs.length i).bind λj=>xs[j]?
theorem qY1(h:ixN n i=some j):seqIndex? i n=some j/\j<n/\-(n:Int)<=i/\i<n:=by unfold ixN at h;by_cases b:0<=i;{rw[if_pos b] at h;by_cases a:i<n;{rw[if_pos a] at h;have e:i.toNat=j:=N8 h;exact⟨by rw[seqIndex_of b a,e],⋯,⋯,a⟩};rw[if_neg a] at h;cases h};rw[if_neg b] at h;by_cases a:-(n:Int)<=i;{rw[if_pos a] at h;have e:(i+n).toNat=j:=N8 h;exact⟨by rw[seqIndex_neg ⋯ a,e],⋯,a,⋯⟩};rw[if_neg a] at h;cases h
theorem qan9(h:atI xs i=some v):∃j,seqIndex? i xs.length=some j/\xs[j]?=some v/\j<xs.length/\-(xs.length:Int)<=i/\i<xs.length:=by unfold atI at h;cases e:ixN xs.length i with|none=>rw[e] at h;cases h|some j=>rw[e] at h;obtain⟨a,b,c,d⟩:=qY1 e;exact⟨j,a,h,b,c,d⟩
theorem qaA8{j:Nat}(h:xs[j]?=some v):atI xs (j:Int)=some v:=by
 have a:j<xs.length:=(zA4.mp h).1;have e:ixN xs.length (j:Int)=some j:=by unfold ixN;rw[if_pos ⋯,if_pos ⋯];simp
 unfold atI;rw[e];exact h
theorem qaJ0(xs:List α)(v:α):atI (xs++[v]) (-1)=some v:=by
 have a:(xs++[v]).length=xs.length+1:=by simp
 have e:ixN (xs++[v]).length (-1)=some xs.length:=by unfold ixN;rw[a,if_neg ∅,if_pos ⋯];congr 1;lia
 unfold atI;rw[e];show (xs++[v])[xs.length]?=some v;simp
def qao4(b:Lb):Prop:=∀o i,subscripted b false o i=operate [o,i] (getItem o i)
def IxR(X:Cx)(r:R2):Prop:=∀(value slice:Lb)(D8:List (γ×Obj))(s:δ)(a:St)(H:Hp)(x y:V)(v u:V')(Q:VK),Pb X D8 a H s->O8 x v->O8 y u->r x y H Q->subscripted slice false v u=operate [v,u] (getItem v u)->K6 (K7 X.prog X.w) X.A (subscriptTail value slice v u) (EP X D8 a Q) X.xe s
def MtR(X:Cx)(id:String)(r:V->List V->Hp->VK->Prop):Prop:=∀(D8:List (γ×Obj))(s:δ)(a:St)(H:Hp)(x:V)(xs:List V)(v:V')(us:List V')(Q:VK),Pb X D8 a H s->O8 x v->O9 xs us->r x xs H Q->K6 (K7 X.prog X.w) X.A (call (.builtin id) (v::us)) (EP X D8 a Q) X.xe s
section
variable{X:Cx}{a b:Lb}{ta tb:TE}{Z:Pos}
theorem IxR.or{a:R2}(h:IxR X r)(h':IxR X a):IxR X (λx y H Q=>r x y H Q∨a x y H Q):=by intro value slice D8 s M H x y v u Q I b c q d;rcases q with q|q;{exact h value slice D8 s M H x y v u Q I b c q d};exact h' value slice D8 s M H x y v u Q I b c q d
theorem pe_ix(c:IxR X r)(d:PE X a ta)(e:PE X b tb)(f:qao4 b):PE X (.Subscript a b Z) (tOp r ta tb):=by intro D8 s M H Q I h;exact Subscript_ (binT d e I h λv u g x y H2 I2 i j q=>c a b D8 g M H2 x y v u Q I2 i j q (f _ _))
def rIxL(K:Oa):R2:=λx y H Q=>∃p xs i v,x=.ref p/\y=.int i/\SqL K H p xs/\atI xs i=some v/\Q v H
def rIxT(K:Oa):R2:=λx y H Q=>∃p xs i v,x=.ref p/\y=.int i/\SqT K H p xs/\atI xs i=some v/\Q v H
def rIxS:R2:=λx y H Q=>∃z i c,x=.str z/\y=.int i/\z.length<=Kk/\atI z.cps.toList i=some c/\Q (.str ⟨#[c]⟩) H
theorem qaQ9:IxR X (rIxL X.K):=by
 intro value slice D8 s M H x y v u Q I l m h f;obtain⟨p,F,i,z,rfl,rfl,n,o,q⟩:=h;cases l;obtain⟨t,rfl⟩:=m;obtain⟨b,r,c,G⟩:=I.list n;obtain⟨j,a,A,J,B,C⟩:=qan9 o;obtain⟨w,g,d⟩:=r.get A;have D:=r.length;have L:=qU3;have fin:EP X D8 M Q w s:=⟨z,H,I,d,q⟩;by_cases k:0<=i
 .have e:i.toNat=j:=by rw[seqIndex_of k C] at a;exact N8 a
  exact item_listR c.isList k ⋯ (by rw[e];simpa using g) fin f
 have e:(i+(b.toArray.size:Int)).toNat=j:=by rw[seqIndex_neg ⋯ B] at a;rw[zA7,<-D];exact N8 a
 exact subscriptTail_builtinR (x:=w) c.isList.typeIs slot_list_getitem.lookup
  (wpAny_getItem_list_neg (Q:=λr E=>r=w/\EP X D8 M Q r E) c.isList ⋯ (by rw[zA7]<;>lia) ⋯ (by rw[e];simpa using g) ⟨rfl,fin⟩) f
theorem qaZ9:IxR X (rIxT X.K):=by
 intro value slice D8 s M H x y v u Q I c d h e;obtain⟨p,B,i,z,rfl,rfl,f,g,q⟩:=h;cases c;obtain⟨t,rfl⟩:=d;obtain⟨k,r,b,C⟩:=I.tuple f;obtain⟨j,l,m,D,E,F⟩:=qan9 g;obtain⟨w,n,a⟩:=r.get m;have o:=r.length;have G:=qU3;have fin:EP X D8 M Q w s:=⟨z,H,I,a,q⟩;exact subscriptTail_builtinR (x:=w) b.typeIs slot_tuple_getitem.lookup
  (getItem_tuple (j:=j) (Q:=λr A=>r=w/\EP X D8 M Q r A) b ⋯ ⋯ (by rw[zA7,<-o];exact l) (by simpa using n) ⟨rfl,fin⟩) e
theorem qba0:IxR X rIxS:=by
 intro value slice D8 s M H x y v u Q I b d h e;obtain⟨z,i,c,rfl,rfl,o,f,q⟩:=h;obtain⟨t,rfl⟩:=b;obtain⟨p,rfl⟩:=d;obtain⟨j,a,g,r,k,l⟩:=qan9 f;have m:z.cps.toList.length=z.length:=by simp[Str.length]
 rw[m] at a k l;have w:=qU3;exact tail_any (typeIs_str s z t) slot_str_getitem.lookup (getItem_str (c:=c) (by have n:decide (i < -(2 ^ 63:Int))=false:=zB3 ⋯;have e2:decide (i ≥ 2 ^ 63)=false:=zB3 ⋯;rw[n,e2,Bool.or_false]) (by rw[a];simpa using g) ⟨.str ⟨#[c]⟩,H,I.tok _,⟨_,rfl⟩,q⟩) e
def rIx(K:Oa):R2:=λx y H Q=>rIxL K x y H Q∨rIxT K x y H Q∨rIxS x y H Q
theorem qb5:IxR X (rIx X.K):=qaQ9.or (qaZ9.or qba0)
theorem qaj7(its:List V')(n j:Nat)(u:V'):Obj.mapSeq (·.setIfInBounds j u) {cls:=.type "list",data:=.seq its.toArray n}={cls:=.type "list",data:=.seq (its.set j u).toArray n}:=by simp[Obj.mapSeq]
theorem Pb.l(I:Pb X D8 M H s)(h:H p=some (.l xs)):∃(its:List V')(n:Nat),O9 xs its/\s.heap.get? p=some {cls:=.type "list",data:=.seq its.toArray n}/\xs.length<=Kk:=by obtain⟨z,its,n,r,e⟩:=I.hok p _ h;exact⟨its,n,r,e,z⟩
theorem Pb.lstUpd{a:Nat}(I:Pb X D8 M H s)(h:H p=some (.l xs))(d:s.heap.get? p=some {cls:=.type "list",data:=.seq its.toArray n})(c:f {cls:=.type "list",data:=.seq its.toArray n}={cls:=.type "list",data:=.seq its'.toArray a})(r:O9 ys its')(g:ys.length<=Kk)(t:Nat):Pb X D8 M (upd H p (.l ys)) {s with heap:=s.heap.update p f,toks:=t}:=by
 have e:(s.heap.update p f).get? p=some {cls:=.type "list",data:=.seq its'.toArray a}:=by rw[Heap.get?_update_self f d (by rw[c]<;>rfl),c]
 refine I.write (x:=p) (e:=p) (by rw[h];trivial) (.inl rfl) (λb u i q=>(Heap.get?_update_other _ _ (Ne.symm i)).trans q) ⟨_,e⟩ ?_;exact⟨g,its',a,r,e⟩
def rSetL:V->V->V->Hp->(Hp->Prop)->Prop:=λo i v H Q=>∃p xs k j,o=.ref p/\i=.int k/\H p=some (.l xs)/\ixN xs.length k=some j/\Q (upd H p (.l (xs.set j v)))
theorem qag1:PSet X rSetL:=by
 intro D8 s M H o i v C D u Q I w x y h;obtain⟨p,z,k,j,rfl,rfl,f,A,q⟩:=h;cases w;obtain⟨t,rfl⟩:=x;obtain⟨a,n,r,c,B⟩:=I.l f;obtain⟨b,E,g,l⟩:=qY1 A;have d:=r.length;have F:=qU3;have I':Pb X D8 M (upd H p (.l (z.set j v))) {s with heap:=s.heap.update p (Obj.mapSeq (·.setIfInBounds j u))}:=I.lstUpd f c (qaj7 a n j u) (r.set y j) (by rw[Mu];exact B) s.toks;by_cases m:0<=k
 .have e:k.toNat=j:=by rw[seqIndex_of m l] at b;exact N8 b
  exact W.ki_setAt c m ⋯ (by rw[zA7,<-d];exact l) (by rw[e];exact⟨_,I',q⟩)
 have e:(k+(a.toArray.size:Int)).toNat=j:=by rw[seqIndex_neg ⋯ g] at b;rw[zA7,<-d];exact N8 b
 exact W.ki_setBack c ⋯ (by rw[zA7,<-d];exact g) ⋯ (by rw[e];exact⟨_,I',q⟩)
theorem qS1(lo hi:Option Int)(n:Nat):(sliceBounds lo hi none n).1=((HT.sIx n 0 lo:Nat):Int)/\(sliceBounds lo hi none n).2.1=((HT.sIx n n hi:Nat):Int)/\(sliceBounds lo hi none n).2.2=1:=by refine⟨?_,?_,rfl⟩;{cases lo with|none=>simp[sliceBounds,HT.sIx]|some i=>simp only[sliceBounds,HT.sIx,Option.getD_none,show (1:Int)>0 by decide,if_true];by_cases h:i<0;{simp only[h,if_true]<;>lia};simp only[h,if_false]<;>lia};cases hi with|none=>simp[sliceBounds,HT.sIx]|some i=>simp only[sliceBounds,HT.sIx,Option.getD_none,show (1:Int)>0 by decide,if_true];by_cases h:i<0;{simp only[h,if_true]<;>lia};simp only[h,if_false]<;>lia
theorem qM2(its:List V')(lo hi:Option Int):slicePick its.toArray lo hi none=((its.drop (HT.sIx its.length 0 lo)).take (HT.sIx its.length its.length hi-HT.sIx its.length 0 lo)).toArray:=by obtain⟨a,b,c⟩:=qS1 lo hi its.toArray.size;unfold slicePick;rw[a,b,c];simp only[sliceRange_one,pick_run,zA7]<;>rfl
def rSlL(K:Oa):V->Option Int->Option Int->Hp->VK->Prop:=λx lo hi H Q=>∃a xs,x=.ref a/\SqL K H a xs/\∀p,H p=none->Q (.ref p) (upd H p (.l (Gb xs lo hi)))
theorem qW4:SlR X (rSlL X.K):=by intro D8 s M H x v t u e f w Q I i j k l h;obtain⟨a,c,rfl,m,q⟩:=h;cases i;obtain⟨n,r,g,p⟩:=I.list m;have d:=r.length;refine⟨"list",_,slot_list_getitem.lookup,g.isList.typeIs,?_⟩;refine wpAny_getItem_list_slice g.isList j k l .none (by simp) ?_ (by rw[zA7]<;>lia);rw[qM2,<-d];refine⟨.ref s.heap.objs.size,_,I.laid (t':=s.toks) (o:=.l (Gb c e f)) (λb y q=>zA2 _ q) (zA3 _) ?_,rfl,q _ (I.hok.fresh (zA3 _))⟩;exact⟨zAl (qad7 c e f) p,_,0,(r.drop (HT.sIx c.length 0 e)).take (HT.sIx c.length c.length f-HT.sIx c.length 0 e),zAp _ rfl⟩
noncomputable def flatV:V->Bool|.non=>true|.bl _=>true|.int _=>true|.str _=>true|_=>false
noncomputable def eqV:V->V->Bool|.non,.non=>true|.bl a,.bl b=>a==b|.bl a,.int b=>(if a then 1 else 0)==b|.int a,.bl b=>a==(if b then 1 else 0)|.int a,.int b=>a==b|.str a,.str b=>a==b|_,_=>false
theorem qaS8(e:O8 y u)(c:O8 x v)(g:flatV y=true)(f:flatV x=true):SeqAt.EqAt A s u v (eqV y x):=by cases y with|non=>(cases e;cases x with|non=>cases c;exact SeqAt.EqAt.same _|bl b=>cases c;exact SeqAt.EqAt.none_bool b|int b=>obtain⟨t,rfl⟩:=c;exact SeqAt.EqAt.none_int b t|str b=>obtain⟨t,rfl⟩:=c;exact SeqAt.EqAt.none_str b t|_=>exact absurd (show false=true from f) zAw)|bl a=>(cases e;cases x with|non=>cases c;exact SeqAt.EqAt.bool_none a|bl b=>cases c;exact SeqAt.EqAt.bool_bool a b|int b=>obtain⟨t,rfl⟩:=c;exact SeqAt.EqAt.bool_int a b t|str b=>obtain⟨t,rfl⟩:=c;exact SeqAt.EqAt.bool_str a b t|_=>exact absurd (show false=true from f) zAw)|int a=>(obtain⟨d,rfl⟩:=e;cases x with|non=>cases c;exact SeqAt.EqAt.int_none a d|bl b=>cases c;exact SeqAt.EqAt.int_bool a d b|int b=>obtain⟨t,rfl⟩:=c;exact SeqAt.EqAt.int_int a d b t|str b=>obtain⟨t,rfl⟩:=c;exact SeqAt.EqAt.int_str a d b t|_=>exact absurd (show false=true from f) zAw)|str a=>(obtain⟨d,rfl⟩:=e;cases x with|non=>cases c;exact SeqAt.EqAt.str_none a d|bl b=>cases c;exact SeqAt.EqAt.str_bool a d b|int b=>obtain⟨t,rfl⟩:=c;exact SeqAt.EqAt.str_int a d b t|str b=>obtain⟨t,rfl⟩:=c;exact SeqAt.EqAt.str_str a d b t|_=>exact absurd (show false=true from f) zAw)|_=>exact absurd (show false=true from g) zAw
def eqU(x:V)(u:V'):Bool:=match u with|.none=>eqV .non x|.bool b=>eqV (.bl b) x|.int i _=>eqV (.int i) x|.str z _=>eqV (.str z) x|_=>false
theorem qat5(r:O8 y u)(f:flatV y=true):eqU x u=eqV y x:=by cases y with|non=>cases r;rfl|bl b=>cases r;rfl|int i=>obtain⟨t,rfl⟩:=r;rfl|str z=>obtain⟨t,rfl⟩:=r;rfl|_=>exact absurd (show false=true from f) zAw
theorem qQ0{x:V}:∀{xs:List V}{us:List V'},O9 xs us->xs.all flatV=true->us.any (eqU x)=xs.any λy=>eqV y x|_,_,.nil,_=>rfl|y::xs,u::us,.cons r t,f=>by rw[Ly,zBq] at f;rw[zCq,zCq,qat5 r f.1,qQ0 t f.2]
theorem qr4{A:K9}{s:δ}{x:V}{v:V'}(b:O8 x v)(c:flatV x=true):∀{xs:List V}{us:List V'},O9 xs us->xs.all flatV=true->∀u∈us,SeqAt.EqAt A s u v (eqU x u)|_,_,.nil,_=>λu a=>by cases a|y::xs,u::us,.cons r t,f=>λd a=>by rw[Ly,zBq] at f;rcases zAh.mp a with rfl|a;{rw[qat5 r f.1];exact qaS8 r b f.1 c};exact qr4 b c t f.2 d a
def inV(x:V)(xs:List V):Bool:=xs.any λy=>eqV y x
def rIn(K:Oa)(neg:Bool):R2:=λx y H Q=>∃p xs,y=.ref p/\(SqL K H p xs∨SqT K H p xs)/\flatV x=true/\xs.all flatV=true/\Q (.bl (if neg then !inV x xs else inV x xs)) H
theorem qI7:OpR X (Kl .In) (rIn X.K false):=by intro D8 s M H x y v u Q I f i h;obtain⟨p,k,rfl,b,g,c,q⟩:=h;cases i;rcases b with b|b;{obtain⟨a,r,d,j⟩:=I.list b;refine SeqAt.in_listAt (eqU x) d.isList (λw e=>qr4 f g r c w (by simpa using e)) ⟨.bl _,H,I,rfl,?_⟩;rw[show a.toArray.any (eqU x)=a.any (eqU x) by simp,qQ0 r c];exact q};obtain⟨a,r,d,j⟩:=I.tuple b;refine SeqAt.in_tupleAt (eqU x) d (λw e=>qr4 f g r c w (by simpa using e)) ⟨.bl _,H,I,rfl,?_⟩;rw[show a.toArray.any (eqU x)=a.any (eqU x) by simp,qQ0 r c];exact q
theorem ql5:OpR X (Kl .NotIn) (rIn X.K true):=by intro D8 s M H x y v u Q I f i h;obtain⟨p,k,rfl,b,g,c,q⟩:=h;cases i;rcases b with b|b;{obtain⟨a,r,d,j⟩:=I.list b;refine SeqAt.notIn_listAt (eqU x) d.isList (λw e=>qr4 f g r c w (by simpa using e)) ⟨.bl _,H,I,rfl,?_⟩;rw[show a.toArray.any (eqU x)=a.any (eqU x) by simp,qQ0 r c];exact q};obtain⟨a,r,d,j⟩:=I.tuple b;refine SeqAt.notIn_tupleAt (eqU x) d (λw e=>qr4 f g r c w (by simpa using e)) ⟨.bl _,H,I,rfl,?_⟩;rw[show a.toArray.any (eqU x)=a.any (eqU x) by simp,qQ0 r c];exact q
theorem qV6:CallR X (.builtin "len") (λxs H Q=>∃p ys,xs=[.ref p]/\(SqL X.K H p ys∨SqT X.K H p ys)/\Q (.int ys.length) H):=by intro D8 s M H xs i Q I r h;obtain⟨p,ys,rfl,b,q⟩:=h;obtain⟨u,rfl,f⟩:=Dm r;cases f;have j:=qU3;rcases b with b|b;{obtain⟨c,d,e,g⟩:=I.list b;have a:=d.length;exact Calls.call_len_list e.isList (by simp only[zA7]<;>lia) ⟨.int ys.length,H,I.tok _,⟨s.toks+1,by rw[zA7,a]⟩,q⟩};obtain⟨c,d,e,g⟩:=I.tuple b;have a:=d.length;exact len_tuple e (by simp only[zA7]<;>lia) ⟨.int ys.length,H,I.tok _,⟨s.toks+1,by rw[zA7,a]⟩,q⟩
theorem qV5:CallR X (.builtin "len") (λxs H Q=>∃z,xs=[.str z]/\z.length<=Kk/\Q (.int z.length) H):=by intro D8 s M H xs a Q I r h;obtain⟨z,rfl,b,q⟩:=h;obtain⟨u,rfl,t,rfl⟩:=Dm r;have c:=qU3;exact len_str ⋯ ⟨.int z.length,H,I.tok _,⟨_,rfl⟩,q⟩
theorem CallR.or{a:List V->Hp->VK->Prop}(h:CallR X f r)(h':CallR X f a):CallR X f (λxs H Q=>r xs H Q∨a xs H Q):=by intro D8 s M H xs b Q I c q;rcases q with q|q;{exact h D8 s M H xs b Q I c q};exact h' D8 s M H xs b Q I c q
theorem qe3:CallR X (.type "list") (λxs H Q=>∃p ys,xs=[.ref p]/\(SqL X.K H p ys∨SqT X.K H p ys)/\∀l,H l=none->Q (.ref l) (upd H l (.l ys))):=by
 intro D8 s M H xs A Q I r h;obtain⟨p,ys,rfl,g,q⟩:=h;obtain⟨u,rfl,z⟩:=Dm r;cases z;have fin:∀(a:List V'),O9 ys a->ys.length<=Kk->∀(c:Heap)(d:Nat),(∀b y,s.heap.get? b=some y->c.get? b=some y)->c.get? s.heap.objs.size=some {cls:=.type "list",dict:=none,data:=.seq a.toArray d,slots:=#[]}->EP X D8 M Q (.ref s.heap.objs.size) {s with heap:=c}:=λa f i c d j e=>
  ⟨.ref s.heap.objs.size,_,I.laid (t':=s.toks) j (zA3 _) (show ObjOk X.prog X.w _ c _ (.l ys) from⟨i,a,d,f,e⟩),rfl,q _ (I.hok.fresh (zA3 _))⟩
 rcases g with g|g;{obtain⟨a,f,m,i⟩:=I.list g;have k:=f.length;obtain⟨o,t,v,n,x⟩:=m.isList;exact call_list_seq p (.inl rfl) t v x (λc d j e=>fin a f i c d j e) (by simp only[zA7]<;>lia)};obtain⟨a,f,m,i⟩:=I.tuple g;have k:=f.length;obtain⟨o,t,v,n,x⟩:=m;exact call_list_seq p (.inr rfl) t v x (λc d j e=>fin a f i c d j e) (by simp only[zA7]<;>lia)
def tyV(K:Oa)(T:String)(x:V)(H:Hp):Prop:=match x with|.str _=>T="str"|.int _=>T="int"|.ref p=>(T="list" /\ ∃xs,SqL K H p xs)∨(T="tuple" /\ ∃o,K.lookup p=some o/\o.cls=.type "tuple" /\ o.dict=none)∨(T="dict" /\ ((∃kvs,H p=some (.dK kvs))∨∃kvs,H p=some (.dT kvs)))∨(T="set" /\ ∃S n,H p=some (.set S n))|_=>False
theorem qaJ7(I:Pb X D8 M H s)(r:O8 x v)(ty:tyV X.K T x H):s.TypeIs v T/\∀a,v=.ref a->∃ob,s.heap.get? a=some ob/\ob.dict=none:=by
 cases x with
 |str z=>obtain⟨t,rfl⟩:=r;cases (show T="str" from ty);exact⟨typeIs_str s z t,λ_ e=>nomatch e⟩|int i=>obtain⟨t,rfl⟩:=r;cases (show T="int" from ty);exact⟨typeIs_int s i t,λ_ e=>nomatch e⟩|ref p=>
  cases r;rcases ty with⟨rfl,xs,hq⟩|⟨rfl,o,hk,hc,d⟩|⟨rfl,hk⟩|⟨rfl,S,n,hk⟩;{obtain⟨g,_,f,_⟩:=I.list hq;refine⟨f.isList.typeIs,λa e=>?_⟩;cases e;obtain⟨o,n,e,c,d,_⟩:=f;exact⟨o,e,d⟩};{refine⟨⟨o,I.kIn p o hk,hc⟩,λa e=>?_⟩;cases e;exact⟨o,I.kIn _ o hk,d⟩}
  .have z:∃o,s.heap.get? p=some o/\o.ExactDict:=by rcases hk with⟨kvs,hk⟩|⟨kvs,hk⟩;{obtain⟨_,_,_,_,o,_,_,e,b,_⟩:=I.hok p _ hk;exact⟨o,e,b⟩};obtain⟨_,_,_,_,o,_,_,e,b,_⟩:=I.hok p _ hk;exact⟨o,e,b⟩
   obtain⟨o,e,b⟩:=z;refine⟨⟨o,e,b.1⟩,λa e2=>?_⟩;cases e2;exact⟨o,e,b.2.1⟩
  obtain⟨o,_,_,_,e,b,_⟩:=I.hok p _ hk;refine⟨⟨o,e,b.1⟩,λa e2=>?_⟩;cases e2;exact⟨o,e,b.2.1⟩
 |_=>exact Oz ty
def tBM0(K:Oa)(T:String)(r:V->List V->Hp->VK->Prop)(Y:TE):TE:=λM H Q=>Y M H λx H1=>tyV K T x H1/\r x [] H1 Q
def tBM(K:Oa)(T:String)(r:V->List V->Hp->VK->Prop)(Y:TE)(t:TA):TE:=λM H Q=>Y M H λx H1=>tyV K T x H1/\t M H1 λxs H2=>r x xs H2 Q
variable{o e:Lb}{U:List Lb}{Y:TE}{t:TA}{name:Str}{O N:Pos}{T R:String}{r:V->List V->Hp->VK->Prop}
theorem qaW9(d:PlainAttrs T)(slot:Slot T name R)(a:typeOf (.builtin R)=pure (.type "method_descriptor"))(hm:MtR X R r)(e:PE X o Y)(hbase:Kr o name X.env (eval o X.env)=eval o X.env:=by rfl)(hline:(O.endLine==N.line)=true:=by rfl):PE X (.Call (.Attribute o name O) [] [] N) (tBM0 X.K T r Y):=by intro D8 s M H Q I h;refine wpAny_Call_method0_late hbase hline (thn (e D8 s M H _ I h) λv f b=>?_);obtain⟨x,H1,I1,c,ty,g⟩:=b;obtain⟨i,j⟩:=qaJ7 I1 c ty;exact⟨T,R,d,slot,a,i,j,Calls.callWith_builtin rfl (PySem.evalArgs_none (hm D8 f M H1 x [] v [] Q I1 c .nil g))⟩
theorem Ha(g:PlainAttrs T)(slot:Slot T name R)(b:typeOf (.builtin R)=pure (.type "method_descriptor"))(hm:MtR X R r)(i:PE X o Y)(j:PA X (e::U) t)(hbase:Kr o name X.env (eval o X.env)=eval o X.env:=by rfl)(a:((backTo N (Kj (e::U) X.env)).all (λx=>!x.1)&&(backToKw N (Kv [] X.env)).all (λx=>x.1.isSome)
 && decide ((e::U).length+([]:List Keyword).length+(if ([]:List Keyword).isEmpty then 0 else 1)<30))=true:=by rfl)(hline:(O.endLine==N.line)=true:=by rfl)(k:Kj (e::U) X.env=(false,eval e X.env)::Kj U X.env:=by rfl)(hplain:(backTo N (Kj U X.env)).any (·.1)=false:=by rfl):PE X (.Call (.Attribute o name O) (e::U) [] N) (tBM X.K T r Y t):=by intro D8 s M H Q I h;refine wpAny_Call_method_late hbase a hline rfl (thn (i D8 s M H _ I h) λv l c=>?_);obtain⟨x,H1,I1,d,ty,m⟩:=c;obtain⟨n,p⟩:=qaJ7 I1 d ty;refine⟨T,R,g,slot,b,n,p,?_⟩;have f:=j N D8 l M H1 _ I1 m;rw[k] at f ⊢;refine Calls.callWith_builtin (by show (false||(backTo N (Kj U X.env)).any (·.1))=false;rw[hplain]<;>rfl) (Calls.evalArgs_plain ?_);exact thn f λq u ⟨w,H2,I2,y,q2⟩=>hm D8 u M H2 x w v q Q I2 d y q2
/- xs.append(e),list.index on a module's tuple .. are MtR facts of 06m -/
end
def MtM(X:Cx)(id:String)(r:V->List V->Hp->VK->Prop):Prop:=∀(D8:List (γ×Obj))(s:δ)(a:St)(H:Hp)(x:V)(xs:List V)(v:V')(us:List V')(Q:VK),Pb X D8 a H s->O8 x v->O9 xs us->r x xs H Q->K6 (K7 X.prog X.w) X.A (call (.builtin id) (v::us)) (EP X D8 a Q) X.xe s
theorem O9.one(h:O9 [x] us):∃u,us=[u]/\O8 x u:=by cases h with|cons r t=>cases t;exact⟨_,rfl,r⟩
theorem O9.two(h:O9 [x,y] us):∃u v,us=[u,v]/\O8 x u/\O8 y v:=by cases h with|cons r t=>cases t with|cons q t=>cases t;exact⟨_,_,rfl,r,q⟩
theorem O9.zero:∀{us:List V'},O9 [] us->us=[]|_,.nil=>rfl
theorem O9.dropLast(h:O9 xs us):O9 xs.dropLast us.dropLast:=by induction h with|nil=>exact .nil|cons r t a=>cases t with|nil=>exact .nil|cons q b=>exact .cons r a
theorem O9.eraseIdx:∀{xs:List V}{us:List V'}(i:Nat),O9 xs us->O9 (xs.eraseIdx i) (us.eraseIdx i)|_,_,_,.nil=>.nil|_,_,0,.cons _ t=>t|_,_,i+1,.cons r t=>.cons r (O9.eraseIdx i t)
theorem O9.rep{xs:List V}{us:List V'}(h:O9 xs us):∀k:Nat,O9 (Ls k xs).flatten (Ls k us).flatten|0=>.nil|k+1=>by rw[zBw,zBw,zCl,zCl];exact O9.append h (O9.rep h k)
theorem qam7(l:List α):l.eraseIdx (l.length-1)=l.dropLast:=by
 induction l with
 |nil=>rfl|cons a r c=>
  cases r with
  |nil=>rfl|cons b r=>
   have e:(a::b::r).length-1=((b::r).length-1)+1:=by have d:(a::b::r).length=r.length+2:=rfl;have f:(b::r).length=r.length+1:=rfl;lia
   rw[e,List.eraseIdx_cons_succ,c];all_goals rfl
theorem qY7(its:List V'):∀(k:Nat)(acc:List V'),
 Mf (λa b=>a++b) acc.toArray (Ls k its.toArray)=(acc++(Ls k its).flatten).toArray
 |0,acc=>by simp
 |k+1,acc=>by
  have e:acc.toArray++its.toArray=(acc++its).toArray:=by simp
  have e2:(acc++its)++(Ls k its).flatten=acc++(Ls (k+1) its).flatten:=by
   rw[zBw,zCl,zAo]
  rw[<-e2,<-qY7 its k (acc++its),<-e,zBw,Nk]
section
variable{X:Cx}{k:List (γ×Obj)}{j:St}{H:Hp}{s:δ}{l:γ}{xs ys:List V}
theorem Pb.lset(I:Pb X k j H s)(a:H l=some (.l xs))(e:s.heap.get? l=some {cls:=.type "list",data:=.seq its.toArray n})(b:f its.toArray=its'.toArray)(c:O9 ys its')(d:ys.length<=Kk):Pb X k j (upd H l (.l ys)) {s with heap:=s.heap.update l (Obj.mapSeq f),toks:=t'}:=by have q:=PySem.IsL.update e f;rw[b] at q;refine I.write (x:=l) (e:=l) (by rw[a];exact trivial) (.inl rfl) (λi u g h=>(Heap.get?_update_other s.heap (Obj.mapSeq f) (Ne.symm g)).trans h) ⟨_,q⟩ ?_;exact⟨d,its',_,c,q⟩
theorem Pb.lnew(I:Pb X k j H s)(a:O9 ys its)(b:ys.length<=Kk):Pb X k j (upd H s.heap.objs.size (.l ys)) {s with heap:=s.heap.push {cls:=.type "list",data:=.seq its.toArray},toks:=t'}:=I.laid (λ_ _ q=>zA2 _ q) (zA3 _) ⟨b,its,0,a,zAp _ rfl⟩
theorem Pb.fresh(I:Pb X k j H s):H s.heap.objs.size=none:=I.hok.fresh (zA3 _)
theorem Pb.lstM(I:Pb X k j H s)(a:H l=some (.l xs)):xs.length<=Kk/\∃(its:List V')(n:Nat),O9 xs its/\xs.length=its.length/\s.heap.get? l=some {cls:=.type "list",data:=.seq its.toArray n}:=by obtain⟨z,its,n,r,e⟩:=I.hok l _ a;exact⟨z,its,n,r,r.length,e⟩
theorem qaE7(h:n<=Kk):Builtin.List.listTooLong n=false:=by unfold Builtin.List.listTooLong;exact zB3 ⋯
end
section
variable{X:Cx}
def qax2:V->List V->Hp->VK->Prop:=λx vs H Q=>∃l xs y,x=.ref l/\vs=[y]/\H l=some (.l xs)/\xs.length<Kk/\Q .non (upd H l (.l (xs++[y])))
theorem qc9:MtM X "list.append" qax2:=by intro D8 s L H x g v i Q I c d h;obtain⟨l,j,y,rfl,rfl,b,k,q⟩:=h;cases c;obtain⟨u,rfl,f⟩:=d.one;obtain⟨z,a,n,r,m,e⟩:=I.lstM b;refine Kz Oe ⟨_,e,rfl⟩ F.entry_list_append (F.args_list_append_2 _ _) (PySem.list_append l a.toArray n u (by rw[zA7];lia)) ⟨e,?_⟩;refine⟨.non,_,I.lset (its':=a++[u]) b e (by simp) (r.append (.cons f .nil)) ?_,rfl,q⟩;rw[zA8,Mw];lia
def rPop:V->List V->Hp->VK->Prop:=λx vs H Q=>∃l xs y,x=.ref l/\vs=[]/\H l=some (.l xs)/\xs[xs.length-1]?=some y/\Q y (upd H l (.l xs.dropLast))
theorem qaY7:MtM X "list.pop" rPop:=by
 intro D8 s L H x o v p Q I f g h;obtain⟨l,t,y,rfl,rfl,d,i,q⟩:=h;cases f;have b:=g.zero;subst b;obtain⟨z,a,n,r,j,e⟩:=I.lstM d;obtain⟨u,k,m⟩:=r.get i;have c:a.toArray[a.toArray.size-1]?=some u:=by show a.toArray[a.length-1]?=some u;rw[<-Array.getElem?_toList,<-j];exact k
 refine Kz Ov ⟨_,e,rfl⟩ F.entry_list_pop (F.args_list_pop_1 _) (MeetsSeq.list_pop_last l a.toArray n u c (by rw[zA7];lia)) ⟨e,?_⟩;refine⟨y,_,I.lset (its':=a.dropLast) d e ?_ r.dropLast ?_,m,q⟩;{show a.toArray.eraseIdxIfInBounds (a.toArray.size-1)=a.dropLast.toArray;rw[zA7,List.eraseIdxIfInBounds_toArray,qam7]};rw[List.length_dropLast];lia
def rCat:R2:=λx y H Q=>∃l b xs a,x=.ref l/\y=.ref b/\H l=some (.l xs)/\H b=some (.l a)/\xs.length+a.length<=Kk/\∀p,H p=none->Q (.ref p) (upd H p (.l (xs++a)))
theorem qaY0:OpR X (K5 .Add) rCat:=by
 intro D8 s L H x y v u Q I c d h;obtain⟨l,b,m,o,rfl,rfl,f,g,p,q⟩:=h;cases c;cases d;obtain⟨z,a,n,r,t,e⟩:=I.lstM f;obtain⟨w,its2,A,i,j,e2⟩:=I.lstM g;refine PySem.P.add_list e e2 ?_ (by rw[zA7,zA7];lia);have k:a.toArray++its2.toArray=(a++its2).toArray:=by simp
 rw[k];exact⟨.ref _,_,I.lnew (t':=s.toks) (r.append i) (by rw[zA8];lia),rfl,q _ I.fresh⟩
def rRep:R2:=λx y H Q=>∃l k xs,x=.ref l/\y=.int k/\H l=some (.l xs)/\-(2 ^ 63)<=k/\k<2 ^ 63/\xs.length*k.toNat<=Kk/\∀p,H p=none->Q (.ref p) (upd H p (.l (Ls k.toNat xs).flatten))
theorem qaQ2(xs:List α)(k:Nat):(Ls k xs).flatten.length=k*xs.length:=by induction k with|zero=>simp|succ k a=>rw[zBw,zCl,zA8,a,Nat.succ_mul,Nat.add_comm]
theorem qaX3:OpR X (K5 .Mult) rRep:=by
 intro D8 s L H x y v u Q I p w h;obtain⟨l,k,J,rfl,rfl,A,B,C,o,q⟩:=h;cases p;obtain⟨t,rfl⟩:=w;obtain⟨z,b,n,r,D,e⟩:=I.lstM A;have c:b.toArray.size*k.toNat<=Kk:=by rw[zA7,<-D];exact o
 have d:¬b.toArray.size*k.toNat>(2 ^ 63-1)/8:=by have:(Kk:Nat)<=(2 ^ 63-1)/8:=∅;lia
 have f:¬(!Builtin.List.listFitsIndex k)=true:=by rw[fitsIndex_both B C];exact zAw
 have hlong:¬Builtin.List.listTooLong (b.toArray.size*k.toNat)=true:=by rw[qaE7 c];exact zAw
 have g:Mf (λi j=>i++j) #[] (Ls (if b.toArray.isEmpty=true then 0 else k.toNat) b.toArray)=(Ls k.toNat b).flatten.toArray:=by
  have E:∀m:Nat,Mf (λi j=>i++j) #[] (Ls m b.toArray)=(Ls m b).flatten.toArray:=λm=>by have:=qY7 b m [];rw[zAz] at this;exact this
  rw[E];cases b with|nil=>simp|cons a K=>rw[if_neg (by simp)]
 refine wpAny_binaryOp_repeat_ref (T := "list") (U := "int") ∅ ⟨_,e,rfl⟩ (λG=>typeIs_int G k t) noFill_list_mul F.fills_int_mul Ow repeat_list F.slot_int_index.lookup
  (Kz Ow (typeIs_int s k t) F.entry_int_rmul (F.args_int_rmul_2 _ _) (int___rmul___int_list k t l b.toArray n)
   ⟨e,rfl,⟨_,e,rfl⟩,Kz F.slot_list_mul ⟨_,e,rfl⟩ F.entry_list_mul (F.args_list_mul_2 _ _) (AutoListH.list___mul___list_int_3 l b.toArray n k t f d hlong) ⟨e,?_⟩⟩)
 rw[g];exact⟨.ref _,_,I.lnew (t':=s.toks) (r.rep k.toNat) (by rw[qaQ2,Nat.mul_comm];exact o),rfl,q _ I.fresh⟩
end
section
variable{f:Type}[DecidableEq f]
noncomputable def E4(kvs:List (f×V))(k:f):Option V:=(kvs.find? λa=>decide (a.1=k)).map (·.2)
noncomputable def putK(kvs:List (f×V))(k:f)(v:V):List (f×V):=if (kvs.any λa=>decide (a.1=k))=true then kvs.map (λa=>if a.1=k then (a.1,v) else a) else kvs++[(k,v)]
theorem qQ7{k:f}(e:p.1=k):E4 (p::r) k=some p.2:=by simp[E4,zC6,e]
theorem qQ8{k:f}(e:¬p.1=k):E4 (p::r) k=E4 r k:=by simp[E4,zC6,e]
theorem qad1(kvs:List (f×V))(k:f)(v:V):(putK kvs k v).length<=kvs.length+1:=by unfold putK;split;{rw[zA5];lia};rw[zA8,zAn,Mg];lia
theorem RelO.getD(r:RelO o u)(a:O8 d d'):O8 (o.getD d) (u.getD d'):=by cases o with|none=>(cases u with|none=>exact a|some _=>exact(show False from r).elim)|some _=>cases u with|none=>exact(show False from r).elim|some _=>exact r
theorem KV.val(r:KV kvs vs)(k:f):RelO (E4 kvs k) (valueAt vs k):=by
 unfold KV at r;induction r with
 |nil=>exact True.intro|@cons p q ps qs h t ih=>
  obtain⟨c,d⟩:=h;by_cases e:p.1=k
  .have a:q.1=k:=c.symm.trans e;have b:valueAt (q::qs) k=some q.2:=by simp[valueAt,zC6,a]
   rw[qQ7 e,b];exact d
  have a:¬q.1=k:=λz=>e (c.trans z);have b:valueAt (q::qs) k=valueAt qs k:=by simp[valueAt,zC6,a]
  rw[qQ8 e,b];exact ih
theorem KV.any(r:KV kvs vs)(k:f):(kvs.any λa=>decide (a.1=k))=vs.any λa=>decide (a.1=k):=by unfold KV at r;induction r with|nil=>rfl|cons h t b=>rw[zCq,zCq,b,h.1]
theorem KV.repl(r:KV kvs vs)(k:f)(c:O8 y u):KV (kvs.map λa=>if a.1=k then (a.1,y) else a) (vs.map λa=>if a.1=k then (a.1,u) else a):=by unfold KV at r ⊢;induction r with|nil=>exact .nil|@cons p q ps qs h t ih=>rw[zAy,zAy];refine .cons ?_ ih;obtain⟨b,d⟩:=h;by_cases e:p.1=k;{rw[if_pos e,if_pos (b.symm.trans e)];exact⟨b,c⟩};rw[if_neg e,if_neg (λz=>e (b.trans z))];exact⟨b,d⟩
theorem KV.put(r:KV kvs vs)(k:f)(a:O8 y u):KV (putK kvs k y) (stored vs k u):=by unfold putK stored;rw[r.any k];by_cases e:(vs.any λb=>decide (b.1=k))=true;{rw[if_pos e,if_pos e];exact r.repl k a};rw[if_neg e,if_neg e];exact Paired.snoc r ⟨rfl,a⟩
theorem KV.length{vs:List (f×V')}(r:KV kvs vs):kvs.length=vs.length:=Paired.length r
end
theorem I8(r:O8 (kV k) u):(qh1 P w).is k u=true:=by cases k with|inl i=>obtain⟨t,e⟩:=(show ∃t,u=Ny i t from r);subst e;exact qac9 P w i t|inr x=>obtain⟨t,e⟩:=(show ∃t,u=N1 x t from r);subst e;exact qac8 P w x t
theorem qY2{P:K8}{w:La}:∀{ks:List Key}{us:List V'},O9 (ks.map kV) us->ItemsAre (qh1 P w) ks us|[],_,r=>by rw[M7] at r;cases r;exact .nil|k::ks,_,r=>by rw[zAy] at r;cases r with|cons h t=>exact .cons (I8 h) (qY2 t)
abbrev KT(H:Hp):List (List Key×V)->List (List Key×γ×V')->Prop:=Paired λp q=>p.1=q.1/\H q.2.1=some (.q (p.1.map kV))/\O8 p.2 q.2.2
theorem KT.val(r:KT H kvs xs)(k:List Key):RelO (E4 kvs k) ((atKey xs k).map (·.2)):=by
 induction r with
 |nil=>exact True.intro|@cons p q ps qs h t ih=>
  obtain⟨c,_,d⟩:=h;by_cases e:p.1=k
  .have a:q.1=k:=c.symm.trans e;have b:atKey (q::qs) k=some q.2:=by simp[atKey,zC6,a]
   rw[qQ7 e,b];exact d
  have a:¬q.1=k:=λz=>e (c.trans z);have b:atKey (q::qs) k=atKey qs k:=by simp[atKey,zC6,a]
  rw[qQ8 e,b];exact ih
section
variable{P:K8}{w:La}{H:Hp}{h:Heap}{a:γ}
theorem rd_of(b:HOk P w H h)(e:Rd H a u):ObjOk P w H h a u:=e.ok b
theorem I9(b:HOk P w H h)(e:Rd H a (.dK kvs)):kvs.length<=Kk/\(a==Ku)=false/\∃vs,KV kvs vs/\h.DictOf (qh1 P w) a vs:=show ObjOk P w H h a (.dK kvs) from rd_of b e
theorem qaQ8(c:HOk P w H h)(e:H a=some (.q (ks.map kV))):(tupleKind (qh1 P w)).is h ks a:=by obtain⟨_,b,r,o,d,f,n,g⟩:=(show ObjOk P w H h a (.q (ks.map kV)) from c a _ e);exact⟨o,b.toArray,n,d,f,g,by simpa using qY2 r⟩
theorem dt_rd(c:HOk P w H h)(e:Rd H a (.dT kvs)):kvs.length<=Kk/\(a==Ku)=false/\∃xs,KT H kvs xs/\h.DictOfH (tupleKind (qh1 P w)) a xs:=by
 obtain⟨z,y,xs,r,o,d,f,g,i,j,k,n⟩:=(show ObjOk P w H h a (.dT kvs) from rd_of c e);refine⟨z,y,xs,r,o,d,f,g,i,j,k,λx b=>?_,n⟩;have all:∀{l:List (List Key×V)}{m:List (List Key×γ×V')},KT H l m->∀x∈m,(tupleKind (qh1 P w)).is h x.1 x.2.1:=by intro l m q;induction q with|nil=>intro x b;exact nomatch b|@cons p q ps qs hq t ih=>intro x b;rcases zAh.mp b with e|b;{subst e;exact qaQ8 c (by rw[<-hq.1];exact hq.2.1)};exact ih x b
 exact all r x b
end
def DGet(H:Hp)(a:γ)(y:V)(r:Option V):Prop:=(∃kvs k,Rd H a (.dK kvs)/\y=kV k/\r=E4 kvs k)∨∃kvs k b,Rd H a (.dT kvs)/\y=.ref b/\H b=some (.q (k.map kV))/\r=E4 kvs k
section
variable{X:Cx}{b:List (γ×Obj)}{a:St}{H:Hp}{s:δ}
theorem Pb.big(I:Pb X b a H s):Ku<s.heap.objs.size:=by have h:Kt<s.heap.objs.size:=(I.mod.glob.keeps I.bk).lt;exact Nat.lt_trans ∅ h
end
section
variable{X:Cx}{i:List (γ×Obj)}{f:St}{H:Hp}{s:δ}{a:γ}{g:List (Key×V)}{A:K9}{E:V'->δ->Prop}
theorem d_len(I:Pb X i f H s)(e:Rd H a (.dK g))(h:∀t s',Pb X i f H s'->Q (.int g.length t) s'):K6 (K7 X.prog X.w) A (call (.builtin "len") [.ref a]) Q E s:=by obtain⟨z,b,d,rel,c⟩:=I9 I.hok e;refine call_len_dict b c (by rw[<-rel.length];rw[Ks] at z;lia) ?_;rw[<-rel.length];exact h _ _ (I.tok _)
end
def qE7(kvs more:List (Key×V)):List (Key×V):=more.foldl (λacc a=>putK acc a.1 a.2) kvs
theorem qx4:∀(more kvs:List (Key×V)),(qE7 kvs more).length<=kvs.length+more.length|[],kvs=>by show kvs.length<=kvs.length+0;lia|p::r,kvs=>by have a:=qx4 r (putK kvs p.1 p.2);have b:=qad1 kvs p.1 p.2;show (qE7 (putK kvs p.1 p.2) r).length<=_;rw[zAn];lia
structure M2(X:Cx)(o:Lb)(m:Str)(apos:Pos)(e f:Lb)(cpos:Pos):Prop where
 base:Kr o m X.env (eval o X.env)=eval o X.env
 few:((backTo cpos (Kj [e,f] X.env)).all (λx=>!x.1)&&(backToKw cpos (Kv [] X.env)).all (λx=>x.1.isSome)
   && decide (([e,f]:List Lb).length+([]:List Keyword).length+(if ([]:List Keyword).isEmpty then 0 else 1)<30))=true
 line:(apos.endLine==cpos.line)=true
 trees:backTo cpos (Kj [e,f] X.env)=[(false,eval e X.env),(false,eval f X.env)]
def IsD(H:Hp)(a:γ):Prop:=(∃kvs,Rd H a (.dK kvs))∨∃kvs,Rd H a (.dT kvs)
theorem qba1(I:Pb X D8 k H s)(d:IsD H a):s.TypeIs (.ref a) "dict" /\ (∀b,Nx a=.ref b->∃ob,s.heap.get? b=some ob/\ob.dict=none)/\(a==Ku)=false:=by rcases d with⟨kvs,e⟩|⟨kvs,e⟩;{obtain⟨_,f,i,_,c⟩:=I9 I.hok e;refine⟨c.typeIs,λb q=>?_,f⟩;cases q;obtain⟨ob,_,_,g,h,_⟩:=c;exact⟨ob,g,h.2.1⟩};obtain⟨_,f,j,_,c⟩:=dt_rd I.hok e;refine⟨c.typeIs,λb q=>?_,f⟩;cases q;obtain⟨ob,_,_,g,h,_⟩:=c;exact⟨ob,g,h.2.1⟩
section
variable{X:Cx}{v:List (γ×Obj)}{t:St}{H:Hp}{s:δ}{a:γ}{y d:V}{u r:V'}{o:Option V}{A:K9}{E:V'->δ->Prop}
theorem qbb6(n:A.units+1<cLine)(I:Pb X v t H s)(g:DGet H a y o)(i:O8 y u)(j:O8 d r)(h:∀m s',Pb X v t H s'->O8 (o.getD d) m->Q m s'):K6 (K7 X.prog X.w) A (call (.builtin "dict.get") [.ref a,u,r]) Q E s:=by rcases g with⟨kvs,k,e,ey,l⟩|⟨kvs,k,b,e,ey,eb,l⟩;{subst ey;obtain⟨z,f,q,rel,c⟩:=I9 I.hok e;refine call_meetsIn Om c.typeIs Ou (Ot _ _ _) (meets_dict_get_default (qh1 X.prog X.w) a (I8 i) f r) ⟨_,c.mapOf,h _ _ (I.tok _) ?_⟩;rw[l];exact(rel.val k).getD j};subst ey;cases (show u=Nx b from i);obtain⟨z,f,p,rel,c⟩:=dt_rd I.hok e;refine call_meetsIn Om c.typeIs Ou (Ot _ _ _) (meetsH_dict_get_default (tupleKind (qh1 X.prog X.w)) a b f r) ⟨tupleKind_room_in1 n,k,p,qaQ8 I.hok eb,c,h _ _ (I.tok _) ?_⟩;rw[l];exact(rel.val k).getD j
end
def qaV3(td ty tx:TE):TE:=λb H Q=>td b H λx H1=>∃a,x=.ref a/\IsD H1 a/\ty b H1 λy H2=>tx b H2 λz H3=>∃o,DGet H3 a y o/\Q (o.getD z) H3
section
variable{X:Cx}{o e f:Lb}{N M:Pos}{R S O:TE}
theorem qaD7(i:X.A.units+1<cLine)(j:PE X o R)(k:PE X e S)(l:PE X f O)(m:M2 X o "get" N e f M):PE X (.Call (.Attribute o "get" N) [e,f] [] M) (qaV3 R S O):=by
 intro D8 s L H Q I h;refine wpAny_Call_method m.base m.few m.line F.plainAttrs_dict Om F.type_dict_get (thn (j D8 s L H _ I h) λu n b=>?_);obtain⟨x,H1,I1,p,a,q,d,r⟩:=b;subst q;obtain rfl:u=Nx a:=p;obtain⟨t1,t2,_⟩:=qba1 I1 d;refine⟨t1,t2,?_⟩;rw[m.trees];refine Calls.callWith_builtin rfl (Calls.evalArgs_plain (Calls.spliced_cons (thn (k D8 n L H1 _ I1 r) λC t ⟨y,H2,I2,v,q2⟩=>
  Calls.spliced_cons (thn (l D8 t L H2 _ I2 q2) λD E ⟨z,H3,I3,w,G,g,B⟩=>Calls.spliced_nil ?_))))
 exact qbb6 i I3 g v w λJ K I4 c=>⟨_,H3,I4,c,B⟩
end
end L2
namespace Att
open PySem PySem.W PySem.Calls PyProof.Rows
theorem qF0:∀(ns:List Int)(vs:List V'),WellAll P h vs (ns.map WData.int)->IntsAre vs ns:=by intro ns;induction ns with|nil=>intro vs w;rw[M7] at w;cases w;exact .nil|cons n ns c=>intro vs w;rw[zAy] at w;cases w with|cons a b=>cases a;exact .cons _ _ (c _ b)
theorem qap9{l:OpenLaw}(m:l.most=some n)(b:l.row.toRowW.claim.pre args=true)(i:WellAll P h vals args):∃a vs ns,vals=[Nx a]/\args=[WData.list (ns.map WData.int)]/\h.get? a=some {cls:=.type "list",data:=.seq vs.toArray}/\IntsAre vs ns/\ns.length<=n:=by
 have j:WShape.hasAll [] args [.list .int]=true:=(pre_splitW b).1;have k:l.pre.holds [] {args:=args}=true:=(pre_splitW b).2;obtain⟨d,r,rfl,o,p⟩:=hasAllW_cons j;obtain rfl:=hasAllW_nil p;obtain⟨x,rfl,s⟩:=hasW_list o;obtain⟨ns,rfl⟩:=items_int s;have c:ns.length<=n:=by
  unfold OpenLaw.pre at k;have f:(WTm.not (.lt (.lit (.int (n:Int))) (.len (.arg 0)))).holds [] {args:=[.list (ns.map .int)]}=true:=by have f:=(holds_andW k).1;rw[m] at f;exact f
  have g:=condW_of f (w_not (w_lt w_lit (w_len_list (w_arg rfl))));rw[zA5] at g;refine zCc λq=>?_;have t:(n:Int)<((ns.length:Nat):Int):=⋯;first
   |(rw[zAg t] at g;exact absurd g ∅)
   |(simp at g;lia)
 cases i with|cons u v=>cases v;cases u with|list w e=>exact⟨_,_,ns,rfl,rfl,w,qF0 ns _ e,c⟩
theorem qaq5(l:OpenLaw)(args:List WData):l.row.toRowW.claim.post args (.bool true) args=true:=postW_of (r:=l.row.toRowW) (X:=(true==true))
 (show WShape.has [] (.bool true) .bool=true by first|rfl|decide|simp[WShape.has,WShape.arms,WShape.armsAll])
 (show (WTm.eq .res (.lit (.bool true))).value [] {args:=args,res:=some (.bool true),after:=args}=some (.bool (true==true)) from w_eq_bool (w_res rfl) w_lit) rfl
theorem qad9{l:OpenLaw}(u:l.most=some n)(h:d.params.defaults=[])(call:∀(w:La)(s₀ s₁:δ)(mg i:Str->Option V')(fa:γ)(o:Obj)(j cd b:V')(a:γ)(vs:List V')(ns:List Int),
 Ground q loose [] XP w s₀ mg i s₁.heap->YP w s₁.heap->s₁.heap.get? fa=some o->o.data=.func (docDef d.name d.params d.body d.scope j cd b)->s₁.heap.CodeRec cd d.name->mg d.name=some (.ref fa)->s₁.heap.get? a=some {cls:=.type "list",data:=.seq vs.toArray}->IntsAre vs ns->ns.length<=n->s₁.gens = #[]->codeAny (K7 l.prog w) callerA (.call (.ref fa) ⟨[.ref a],[]⟩) (λr s'=>r=.ok (.ret (.bool true))/\OldK s₁.heap s'.heap/\s'.os=s₁.os/\AllBare s'.gens) s₁):WalkO q loose XP YP l.row.toRowW d [] (λf vs=>PySem.call f vs):=by intro w s₀ s₁ mg i G Y fa o j cd b v kV x y k s m z args vals I c t A p B;obtain rfl:v=.none:=Dflts.none s h;obtain rfl:kV=.none:=Dflts.noKw s;obtain⟨a,vs,ns,rfl,rfl,e,hints,g⟩:=qap9 u c p;refine enter_call (codeAny_mono (call w s₀ s₁ mg i fa o j cd b a vs ns G Y x (fd_plain y) k m e hints g z) λr s' C=>?_);obtain⟨rfl,D,E,F⟩:=C;exact⟨.inl ⟨.bool true,.bool true,[],rfl,λ_=>rfl,.bool true,qaq5 l _,λ_=>⟨List.Pairwise.nil,λ_ H=>(nomatch H)⟩⟩,D,E,F⟩
end Att
namespace L2
open PySem PySem.Spec PyProof.Rows
theorem qW0:∀{vs:List V'}{ns:List Int},IntsAre vs ns->O9 (ns.map V.int) vs|_,_,.nil=>.nil|_,_,.cons n t h=>.cons ⟨t,rfl⟩ (qW0 h)
def Only(H:Hp):Prop:=∀b,H b=none∨∃o xs,H b=some (.frz o (.l xs))
theorem qaF8{K:Oa}(KX:K.In s₁.heap)(g:s₁.heap.Ns Kt mg)(c:s₁.heap.Ns builtinsNs C)(D:∀x:Str,x ≠ "__name__" -> C x=Ko x)(i:s₁.heap.NoLimit)(T:s₁.gens = #[])(B:s₁.heap.get? a=some {cls:=.type "list",data:=.seq vs.toArray})(hi:IntsAre vs ns)(M:ns.length<=Kk)(U:Room k callerA)(F:∀base:Heap,K.In base->base.Ns Kt mg->Eg P w K mg base CX k fa fd [x] sp)(hbind:∀(s:δ)(u:V'),BindsTo s fd ⟨[u],[]⟩ [(x,u)])(E:∀H:Hp,Only H->SqL K H a (ns.map V.int)->sp [.ref a] H (λv _=>v=.bl true) λ_ _ _=>False)(G:∀H e s',CX [] H s₁ (λ_ _ _=>False) e s'->False):codeAny (K7 P w) callerA (.call (.ref fa) ⟨[.ref a],[]⟩) (λr s'=>r=.ok (.ret (.bool true))/\OldK s₁.heap s'.heap/\s'.os=s₁.os/\AllBare s'.gens) s₁:=by
 have N:=qW0 hi;have lenV:=hi.length;have core:∀H:Hp,Only H->SqL K H a (ns.map V.int)->HOk P w H s₁.heap->(∀b,H b≠none->b=a)->(H a≠none->K.lookup a=none)->codeAny (K7 P w) callerA (.call (.ref fa) ⟨[.ref a],[]⟩) (λr s'=>r=.ok (.ret (.bool true))/\OldK s₁.heap s'.heap/\s'.os=s₁.os/\AllBare s'.gens) s₁:=by
  intro H O X j Q Y;have base_of:∀{b:γ}{o:Obj},s₁.heap.get? b=some o->H b=none->(Fy s₁.heap H).get? b=some o:=λe n=>qaG8 e n;have I:∀{b:γ}{o:Obj}{l:Array DictEntry}{p:Nat},s₁.heap.get? b=some o->o.data=.dict l p->H b=none:=λ{b o l p} e d=>by cases q:H b with|none=>rfl|some u=>have J:b=a:=Q b (by rw[q];simp);subst J;rw[B] at e;cases e;have Z:Data.seq vs.toArray _=Data.dict l p:=d;cases Z
  have f:∀{b:γ}{m:Str->Option V'},s₁.heap.Ns b m->(Fy s₁.heap H).Ns b m:=λ{b m} ⟨o,l,p,e,d,r⟩=>⟨o,l,p,base_of e (I e d),d,r⟩;have t:K.In (Fy s₁.heap H):=λb o e=>base_of (KX b o e) (by cases q:H b with|none=>rfl|some u=>have J:b=a:=Q b (by rw[q];simp);subst J;rw[Y (by rw[q];simp)] at e;cases e);have hM:Mod K mg (Fy s₁.heap H):=⟨t,f g,⟨C,f c,D⟩,let ⟨mc,h1,h2⟩:=i;⟨mc,f h1,h2⟩⟩;have e0:Env0 P w K mg (Fy s₁.heap H) callerA [] s₁ H:=⟨rfl,hM,λb o e=>qaP1 e,Nat.le_of_eq (qas5 _ _),trivial,λb c=>absurd (show b∈([]:List γ) from c) (by simp),j,.of_eq T⟩;refine codeAny_mono ((F _ t (f g)).run callerA [] s₁ H ⟨[.ref a],[]⟩ [.ref a] [.ref a] _ _ U e0 (hbind s₁ (.ref a)) (.cons rfl .nil) (E H O X)) λr s' h=>?_;cases r with|error e=>exact(G H e s' h).elim|ok fl=>cases fl with|next=>exact Oz h|brk=>exact Oz h|cont=>exact Oz h|ret u=>obtain⟨v,H',os,bare,R,y,r',q⟩:=h;have q':v=.bl true:=q;subst q';obtain rfl:u=N0 true:=r';refine⟨rfl,OldK.of_keep λb o e=>?_,os,bare⟩;cases q:H b with|none=>exact R.keep b o e q (by intro z;exact absurd (show b∈([]:List γ) from z) (by simp)) (by simp)|some u=>rcases O b with z|⟨ob,xs,z⟩;{rw[q] at z;cases z};have z2:=R.frzs b ob _ z;obtain⟨S,_⟩:=j b _ z;obtain⟨e2,_⟩:=y b _ z2;rw[e] at S;cases S;exact e2
 cases L:K.lookup a with|some o=>have e:=KX a o L;rw[B] at e;cases e;refine core (λ_=>none) (λ_=>.inl rfl) (.inr ⟨_,vs.toArray,_,L,rfl,rfl,rfl,by rw[zA7,lenV];exact M,by simpa using N⟩) (λb u z=>by have A:(none:Option HO)=some u:=z;cases A) (λb z=>absurd rfl z) λz=>absurd rfl z|none=>refine core (λb=>if b=a then some (.frz {cls:=.type "list",data:=.seq vs.toArray} (.l (ns.map V.int))) else none) (λb=>?_) (.inl (.inr ⟨{cls:=.type "list",data:=.seq vs.toArray},if_pos rfl⟩)) (λb u z=>?_) (λb z=>?_) λ_=>L;{by_cases c:b=a;{exact .inr ⟨_,_,if_pos c⟩};exact .inl (if_neg c)};{by_cases c:b=a;{have A:=(if_pos c).symm.trans z;cases A;subst c;exact⟨B,by rw[zA5];exact M,vs,_,N,B⟩};have A:=(if_neg c).symm.trans z;cases A};by_cases c:b=a;{exact c};exact absurd (if_neg c) z
theorem qaJ2{l:W.OpenLaw}{K:Params->Oa}{CX:La->CXT}{sp:La->Sp}(y:l.most=some n)(j:n<=Kk)(m:d.params.defaults=[])(z:Room k callerA)(A:∀(w:La)(h:Heap),YP w h->(K w.params).In h)(F:∀(w:La)(mg:Str->Option V')(fa:γ)(h:Heap),(K w.params).In h->h.Ns Kt mg->mg d.name=some (.ref fa)->∃fd:ε,(∀(s:δ)(u:V'),BindsTo s fd ⟨[u],[]⟩ [(x,u)])/\∀base:Heap,(K w.params).In base->base.Ns Kt mg->Eg l.prog w (K w.params) mg base (CX w) k fa fd [x] (sp w))(p:∀(w:La)(H:Hp)(a:γ)(ns:List Int),ns.length<=n->Only H->SqL (K w.params) H a (ns.map V.int)->sp w [.ref a] H (λv _=>v=.bl true) λ_ _ _=>False)(r:∀(w:La)(H:Hp)(s:δ)(e:V')(s':δ),CX w [] H s (λ_ _ _=>False) e s'->False):W.WalkO q loose XP YP l.row.toRowW d [] (λf vs=>PySem.call f vs):=by refine Att.qad9 y m λw s₀ s₁ mg M fa o N O B a vs ns G Y P Q C t i hints c D=>?_;have KX:=A w _ Y;obtain⟨fd,E,I⟩:=F w mg fa _ KX G.T.g t;exact qaF8 KX G.T.g G.T.b G.T.builtins G.T.nolimit D i hints (zAl c j) z I E (λH J L=>p w H a ns c J L) λH e s'=>r w H s₁ e s'
end L2
/- THE LAST THEOREM (shape;LID,My.* are yours):My.Adr: a structure of the addresses that your layer names (classes,functions);My.Txt K t: a structure (Prop) of the equations over K;
 My.txt_mk:{K} {implicit addresses ..} (e1:nsIn K Kt "law"=some (some (.ref f))) (e2:K.lookup f=some ⟨oc,od,.func (fnOf "law" "law" params body scope dV kV doc pm an cdv ct),sl⟩) (e3:codeIn K cdv "law"=true) .. : ∃t,My.Txt K t
(the tactic k_is has no namespace: write k_is) -/
namespace L2
open PySem PySem.Spec PyProof.Rows
variable{A B:Prop}{f:γ}{qual x:Str}{st:Lc}
noncomputable def qi3(s:Lc)(j:Nat):Lc:=match s with|.ClassDef _ _ _ body _ _ _ _ _ _ _=>body.getD j (.Pass ⟨0,0,0,0⟩)|_=>.Pass ⟨0,0,0,0⟩
noncomputable def qg1(s:Lc):Arguments:=match s with|.FunctionDef _ a _ _ _ _ _ _ _ _=>a|_=>{posonlyargs:=[],args:=[],vararg:=none,kwonlyargs:=[],kw_defaults:=[],kwarg:=none,defaults:=[]}
noncomputable def qe1(s:Lc):List Lc:=match s with|.FunctionDef _ _ b _ _ _ _ _ _ _=>b|_=>[]
noncomputable def qa3(s:Lc):Scope:=match s with|.FunctionDef _ _ _ _ _ _ sc _ _ _=>sc|_=>{kind:=.function,names:=[],isGenerator:=false,isCoroutine:=false}
abbrev CX0:CXT:=λ_ _ _ _ _ _=>False
abbrev E0:XK:=λ_ _ _=>False
theorem pass0:qQ2 CX0 X (λ_=>E0):=λ_ _ _ _ _ _ _ h=>h.elim
structure Fun(K:Oa)(x qual:Str)(st:Lc)(f:γ)(fd:ε):Prop where
 ex:∃(oc:V')(od:Option γ)(kV doc pm:V')(an:Option γ)(cdv ct:V')(osl:Array (Option V')),
  fd=W.fnOf x qual (qg1 st) (qe1 st) (qa3 st) .none kV doc pm an cdv ct/\K.lookup f=some ⟨oc,od,.func fd,osl⟩/\W.codeIn K cdv qual=true
 kp:W.keepIn K (.ref f)=true
section
variable{P:K8}{w:La}{K:Oa}{r:Str->Option V'}{p:Heap}
theorem Fun.ok(F:Fun K x qual st f fd)(S:qa8 N ps (qa3 st))(len:∀vs H Q E,sp vs H Q E->vs.length=ps.length)(hbody:∀(a:V')(A:K9)(outer:List Env)(s:δ)(H:Hp)(vs:List V)(Q:VK)(E:XK),Room k (A.deeper (envOfC qual (qa3 st) s.heap.objs.size f a))->sp vs H Q E->∃t,PSs (Et true CX0 P w K r p N qual (qa3 st) f a A outer s H E).nox (qe1 st) t/\t {nx:=λ_ H'=>Q .non H',rt:=Q} (start N vs) H):Eg P w K r p CX0 (k+1) f fd ps sp:=by obtain⟨j,l,kV,d,m,n,a,o,e,rfl,g,b⟩:=F.ex;refine Iz g b S len λA outer s H vs Q E i c=>?_;obtain⟨t,h,q⟩:=hbody a A outer s H vs Q E i c;exact⟨t,h.nox,q⟩
theorem Fun.binds(F:Fun K x qual st f fd)(h:∀(kV a c:V')(d:Option γ)(b e:V')(us:List V'),us.length=ps.length->bindArgs (W.fnOf x qual (qg1 st) (qe1 st) (qa3 st) .none kV a c d b e) ⟨us,[]⟩=pure (ps.zip us)):Binds K fd ps []:=by obtain⟨j,k,kV,a,c,d,b,e,g,rfl,l,i⟩:=F.ex;exact .all (h kV a c d b e)
theorem qas9{kV:V'}(l:K.lookup f=some ⟨oc,i,.func (W.fnOf x qual (qg1 st) (qe1 st) (qa3 st) .none kV b g e a h),d⟩)(c:W.codeIn K a qual=true)(k:W.keepIn K (.ref f)=true):Fun K x qual st f (W.fnOf x qual (qg1 st) (qe1 st) (qa3 st) .none kV b g e a h):=⟨⟨oc,i,kV,b,g,e,a,h,d,rfl,l,c⟩,k⟩
end
theorem hu_of{A:K9}(a:Room k A):A.units+1<cLine:=zCf (Nat.add_le_add_left (by decide:1<=64) _) a.units
theorem qap8(h:n<=1000):n<Kk:=zCf h ∅
section
variable{X:Cx}
theorem pv(i:Nat)(b:X.N[i]?=some x:=by rfl)(c:Vis X.env.scope x:=by first|exact O1 rfl|exact O0 (O1 rfl)|exact O0 (O0 rfl))(d:N' x:=by decide)(a:(x==("__classdict__" : Str))=false:=by decide):PE X (.Name x pos) (F4 i):=qq8 b c d a
theorem qau9:CallR X (.builtin "len") (λxs H Q=>∃a kvs,xs=[V.ref a]/\H a=some (.dK kvs)/\Q (.int kvs.length) H):=by intro D8 s f H xs d Q I r h;obtain⟨a,kvs,rfl,b,q⟩:=h;obtain⟨u,rfl,c⟩:=Dm r;cases c;exact d_len I (.inl b) λt e I'=>⟨.int kvs.length,H,I',⟨t,rfl⟩,q⟩
end
theorem iteF(h:B):if false=true then A else B:=by rw[if_neg zAw];exact h
theorem iteT(h:A):if true=true then A else B:=by rw[if_pos rfl];exact h
theorem ite2{c:Prop}[Decidable c](h1:c->A)(h2:¬c->B):if c then A else B:=by by_cases h:c;{rw[if_pos h];exact h1 h};rw[if_neg h];exact h2 h
def Same(H H':Hp):Prop:=∀b o,H b=some o->H' b=some o
theorem Same.trans(a:Same H H1)(b:Same H1 H2):Same H H2:=λc o h=>b c o (a c o h)
end L2
set_option maxHeartbeats 4000000
namespace L2
open PySem PySem.Spec PyProof.Rows
variable{H:Hp}{a:γ}{e:Lb}{es:List Lb}{i:Int}{p:Pos}{t:TA}{x:Str}{xs:List V}{α:Type}
theorem Hr{t:Sem α}(h:K6 M A t Q (λ_ _=>False) s)(b:∀a s,Q a s->Q' a s):K6 M A t Q' E s:=Kw h b λ_ _ x=>x.elim
noncomputable def E5(env:Env):List (Str×NameKind)->List (Str×γ)->List (Str×γ)|[],acc=>acc|(n,k)::r,acc=>E5 env r (if k==Ox then (n,(env.cells.lookup n).getD 0)::acc else acc)
theorem qC9{env:Env}:∀(l:List (Str×NameKind))(acc:List (Str×γ)),(∀x∈l,x.2=Ox->∃c,env.cells.lookup x.1=some c)->(forIn l acc λ(x:Str×NameKind)(r:List (Str×γ))=>
     (match x with
     |(name,kind)=>if (kind==Ox)=true then (do let c<-cellOf env name;pure (ForInStep.yield ((name,c)::r)):Sem (ForInStep (List (Str×γ)))) else pure (ForInStep.yield r)))=(pure (E5 env l acc):Sem _)
 |[],acc,_=>rfl
 |(n,k)::r,acc,h=>by
   rw[L5];by_cases a:(k==Ox)=true
   . obtain⟨c,b⟩:=h (n,k) zAf (by simpa using a)
     have b:env.cells.lookup n=some c:=b;dsimp only;rw[if_pos a];have e:cellOf env n=pure c:=by unfold cellOf;rw[b]
     rw[e];show (forIn r ((n,c)::acc) _:Sem _)=_;rw[qC9 r ((n,c)::acc) λx d=>h x (zA9 _ d)];show _=(pure (E5 env r (if (k==Ox)=true then (n,(env.cells.lookup n).getD 0)::acc else acc)):Sem _)
     rw[if_pos a,b];rfl
   dsimp only;rw[if_neg a];show (forIn r acc _:Sem _)=_;rw[qC9 r acc λx d=>h x (zA9 _ d)];show _=(pure (E5 env r (if (k==Ox)=true then (n,(env.cells.lookup n).getD 0)::acc else acc)):Sem _)
   rw[if_neg a]
theorem qP7(h:∀x∈sc.names,x.2=Ox->∃c,env.cells.lookup x.1=some c):closureFor sc env=pure (E5 env sc.names []):=by unfold closureFor;show (forIn sc.names [] _ >>= _)=_;have:=qC9 (env:=env) sc.names [] h;rw[show (forIn sc.names ([]:List (Str×γ)) _:Sem _)=pure (E5 env sc.names []) from this];rfl
theorem qan2{env:Env}:∀(l:List (Str×NameKind))(acc:List (Str×γ))(x:Str)(c:γ),(x,c)∈E5 env l acc->(x,c)∈acc∨((x,Ox)∈l/\c=(env.cells.lookup x).getD 0)|[],acc,x,c,h=>.inl h|(n,k)::r,acc,x,c,h=>by rcases qan2 r _ x c h with h|⟨h,e⟩;{by_cases a:(k==Ox)=true;{rw[if_pos a] at h;rcases zAh.mp h with h|h;{cases h;exact .inr ⟨by rw[show k=Ox by simpa using a];exact zAf,rfl⟩};exact .inl h};rw[if_neg a] at h;exact .inl h};exact .inr ⟨zA9 _ h,e⟩
theorem qan3{env:Env}:∀(l:List (Str×NameKind))(acc:List (Str×γ))(x:Str),(∃c,(x,c)∈acc)->∃c,(x,c)∈E5 env l acc|[],acc,x,h=>h|(n,k)::r,acc,x,⟨c,h⟩=>qan3 r _ x ⟨c,by split;exact zA9 _ h;exact h⟩
theorem qV4{env:Env}:∀(l:List (Str×NameKind))(acc:List (Str×γ))(x:Str),(x,Ox)∈l->∃c,(x,c)∈E5 env l acc|[],acc,x,h=>by simp at h|(n,k)::r,acc,x,h=>by rcases zAh.mp h with h|h;{cases h;exact qan3 r _ _ ⟨_,by rw[if_pos (by rfl)];exact zAf⟩};exact qV4 r _ x h
theorem qB9{α:Type}:∀{l:List (Str×α)}{x:Str},(∃c,(x,c)∈l)->∃c,l.lookup x=some c|[],x,⟨c,h⟩=>by simp at h|(n,a)::r,x,⟨c,h⟩=>by cases b:x==n with|true=>exact⟨a,by simp only[zAv,b]⟩|false=>rcases zAh.mp h with h|h;{cases h;simp at b};obtain⟨d,e⟩:=qB9 ⟨c,h⟩;exact⟨d,by simp only[zAv,b];exact e⟩
noncomputable def Dv(a:St)(src:List (Option Nat)):St:=src.map λo=>match o with|none=>none|some j=>(a[j]?).getD none
noncomputable def qw1(X:Cx)(NY:List Str)(src:List (Option Nat))(sc:Scope):Bool:=(sc.kind==.function)&&(src.length==NY.length) &&
 (sc.names.all λx=>x.2 != .cell&&(x.2 != .local||sc.names.lookup x.1==some .local)&&(x.2 != .free||(X.env.scope.names.lookup x.1==some .cell||X.env.scope.names.lookup x.1==some .free))) &&
 ((NY.zip src).all λp=>match p.2 with|none=>true|some j=>X.N[j]?==some p.1&&sc.names.lookup p.1==some .free)
def qm2(X:Cx)(NY:List Str)(sc:Scope)(C:γ)(a:δ)(H0:Hp)(ex:List γ):Cx where
 prog:=X.prog
 w:=X.w
 K:=X.K
 mg:=X.mg
 base:=X.base
 A:=X.A
 N:=NY
 s₀:=a
 H₀:=H0
 env:=compEnvC sc (E5 X.env sc.names []) C X.env
 outer:=X.stack
 stack:=X.stack
 ex:=ex
 fn:=λ_=>false
 calm:=X.calm
 pn:=[]
 xe:=λ_ _=>False
def PFs(X:Cx)(ifs:List Lb)(t:TT):Prop:=∀(D8:List (γ×Obj))(s:δ)(b:St)(H:Hp)(Q:Bool->Hp->Prop),Pb X D8 b H s->t b H Q->K6 (K7 X.prog X.w) X.A (forIn ifs true λc r=>if r=true then do let a<-isTrue c X.env (eval c X.env);pure (ForInStep.yield a) else pure (ForInStep.yield r)) (TP X D8 b Q) X.xe s
def tYes:TT:=λ_ H Q=>Q true H
theorem qaN1:PFs X [] tYes:=λ_ _ _ H _ I h=>wpAny_tests_nil ⟨H,I,h⟩
theorem qaW6{t:TT}(h:PT X c t):PFs X [c] t:=λD8 s a H Q I q=>wpAny_tests_one (h D8 s a H Q I q)
theorem qs4(I:Nat->δ->Prop)(turn:∀n s,I n s->K6 (K7 prog w) A (pyNext it) (λr s₁=>match r with
     |none=>R (.ok .next) s₁
     |some v=>K6 (K7 prog w) A (letOwnedTupleGo target it v) (λ_ s₁'=>K6 (K7 prog w) A (assign target env v) (λ_ s₂=>
         K6 (K7 prog w) A (forIn ifs true λc r=>if r=true then do let a<-isTrue c env (eval c env);pure (ForInStep.yield a) else pure (ForInStep.yield r)) (λa s₃=>
           if a=true then K6 (K7 prog w) A (eval elt env) (λx s₄=>
             K6 (K7 prog w) A (call (.builtin "list.append") [acc,x]) (λ_ s₅=>∃m,m<n/\I m s₅) (λ_ _=>False) s₄) (λ_ _=>False) s₃
           else ∃m,m<n/\I m s₃) (λ_ _=>False) s₂) (λ_ _=>False) s₁') (λ_ _=>False) s₁) (λ_ _=>False) s)(n:Nat)(h:I n s):codeAny (K7 prog w) A (.compLoop (.ListComp elt [⟨target,iter,ifs,0⟩] scope pos) 0 it acc env) R s:=by
 refine codeAny_loop rfl I (λn s b=>?_) n h;show K6 _ A ((compTurn (.ListComp elt [⟨target,iter,ifs,0⟩] scope pos) 0 it acc env).onRaise (λx=>do noteFrame x env;theTreesLotGoes x)) _ _ s;refine wpAny_noted ?_;rw[compTurn_list];refine E' (wpAny_standAt (E' (Hr (turn n s b) λr s₁ h₁=>?_)));cases r with
 |none=>exact J' h₁
 |some v=>
   refine E' (Hr h₁ λ_ s₁' h₁'=>?_);refine E' (Hr h₁' λ_ s₂ h₂=>E' (Hr h₂ λa s₃ h₃=>?_));cases a with
   |false=>exact J' ⟨rfl,h₃⟩
   |true=>
     exact E' (E' (Hr h₃ λx s₄ h₄=>E' (Hr h₄ λ_ s₅ h₅=>J' (J' ⟨rfl,h₅⟩))))
def qD1(J:It)(g:TG)(tf:TT)(te:TE)(D:γ)(R:Hp->Prop)(σ0:St)(H0:Hp):Prop:=∃W:Nat->Nat->St->Hp->Prop,(∃m,W 0 m σ0 H0)/\∀i m c H,W i m c H->(J.stop i H/\R H)∨(J.go i H/\∃N:St->Hp->Prop,(∀c' H',N c' H'->∃a,a<m/\W (i+1) a c' H')/\∀x H',J.yld i H x H'->g x c H' λσ2 H2=>tf σ2 H2 λb H3=>
     if b=true then te σ2 H3 λv H4=>∃xs,H4 D=some (.l xs)/\xs.length<Kk/\N σ2 (upd H4 D (.l (xs++[v]))) else N σ2 H3)
theorem qt5{env:Env}{x:Str}:∀{names:List (Str×NameKind)},(∀y∈names,y.2≠.cell)->((names.map λ(n,k)=>if (k==Ox&&env.scope.kind==.function&&env.kindOf n==some .cell) then (n,Oy) else (n,k)).lookup x=some .cell∨(names.map λ(n,k)=>if (k==Ox&&env.scope.kind==.function&&env.kindOf n==some .cell) then (n,Oy) else (n,k)).lookup x=some .free)->names.lookup x=some .free
 |[],_,h=>by simp at h|(n,k)::r,hc,h=>by
  have c:=@qt5 env x r λy d=>hc y (zA9 _ d);have e:k≠.cell:=hc (n,k) zAf;simp only[zAy] at h;cases b:x==n with
  |true=>
   simp only[zAv,b];by_cases a:(k==Ox&&env.scope.kind==.function&&env.kindOf n==some .cell)=true
   .have:k=Ox:=by simp only[zBq,zBy] at a;exact a.1.1
    rw[this]
   rw[if_neg a] at h;simp only[zAv,b] at h;rcases h with h|h;{exact absurd (N8 h) e};exact h
  |false=>simp only[zAv,b];apply c;by_cases a:(k==Ox&&env.scope.kind==.function&&env.kindOf n==some .cell)=true;{rw[if_pos a] at h;simpa only[zAv,b] using h};rw[if_neg a] at h;simpa only[zAv,b] using h
theorem qi8{env:Env}{x:Str}:∀{names:List (Str×NameKind)},names.lookup x=some .free->((names.map λ(n,k)=>if (k==Ox&&env.scope.kind==.function&&env.kindOf n==some .cell) then (n,Oy) else (n,k)).lookup x=some .cell∨(names.map λ(n,k)=>if (k==Ox&&env.scope.kind==.function&&env.kindOf n==some .cell) then (n,Oy) else (n,k)).lookup x=some .free)|[],h=>by simp at h|(n,k)::r,h=>by have c:=@qi8 env x r;simp only[zAy];cases a:x==n with|true=>simp only[zAv,a] at h;have h:k=.free:=N8 h;by_cases b:(k==Ox&&env.scope.kind==.function&&env.kindOf n==some .cell)=true;{rw[if_pos b];simp only[zAv,a];exact .inl trivial};rw[if_neg b];simp only[zAv,a];rw[h];exact .inr rfl|false=>simp only[zAv,a] at h;by_cases b:(k==Ox&&env.scope.kind==.function&&env.kindOf n==some .cell)=true;{rw[if_pos b];simp only[zAv,a];exact c h};rw[if_neg b];simp only[zAv,a];exact c h
section
variable{X:Cx}{D8:List (γ×Obj)}{σ:St}{H2:Hp}{s2:δ}{elt tg iter:Lb}{ifs:List Lb}{sc:Scope}{pos:Pos}{NY:List Str}{src:List (Option Nat)}{J:It}{fp:List γ}{it:γ}{tn:Nat->Heap->Prop}{g:TG}{tf:TT}{te:TE}
theorem qZ7{R:γ->Hp->Prop}{RR:V'->γ->Result->δ->Prop}(ck:qw1 X NY src sc=true)(hc:X.calm=true)(I2:Pb X D8 σ H2 s2)(T:Gv X.prog X.w X.K tg J fp it tn)(I:tn 0 s2.heap)(f2:∀b∈fp,F5 X D8 H2 b)(hg:∀C P H0,PG (qm2 X NY sc C P H0 fp) tg g)(hf:∀C P H0,PFs (qm2 X NY sc C P H0 fp) ifs tf)(he:∀C P H0,PE (qm2 X NY sc C P H0 fp) elt te)(rd:∀D,H2 D=none->qD1 J g tf te D (R D) (Dv σ src) (upd H2 D (.l [])))(fin:∀D C H' s',Pb X D8 σ H' s'->R D H'->H' C=none->X.s₀.heap.objs.size<=C->C≠X.env.locals->(∀x c,X.env.cells.lookup x=some c->c≠C)->(∀p∈X.pn++D8,p.1≠C)->C∉X.fs->(∃m,s'.heap.Ns C m)->RR (.ref D) C (.ok .next) s'):K6 (K7 X.prog X.w) X.A (newList []) (λacc s₃=>K6 (K7 X.prog X.w) X.A (newFunctionEnv sc X.env.globals (E5 X.env sc.names []) [] X.env.qual none .none (some X.env)) (λcenv s₄=>
 codeAny (K7 X.prog X.w) X.A (.compStart (.ListComp elt [⟨tg,iter,ifs,0⟩] sc pos) 0 (.ref it) acc {cenv with scope:=relabel sc X.env}) (RR acc cenv.locals) s₄) E s₃) E s2:=by
 unfold qw1 at ck;simp only[zBq,zBy,zBi] at ck;obtain⟨⟨⟨hkind,G⟩,Q⟩,S⟩:=ck;have hcell:∀y∈sc.names,y.2≠.cell:=λy U e=>by have:=(Q y U).1.1;rw[e] at this;exact absurd this ∅
 have hfree:∀y∈sc.names,y.2=.free->(X.env.kindOf y.1=some .cell∨X.env.kindOf y.1=some .free):=λy U e=>by have:=(Q y U).2;rw[e] at this;show X.env.scope.names.lookup y.1=some .cell∨X.env.scope.names.lookup y.1=some .free;simpa using this
 have clsub:∀x c,(E5 X.env sc.names []).lookup x=some c->X.env.cells.lookup x=some c:=λx c e=>by rcases qan2 _ _ x c (PySem.mem_of_lookup e) with h|⟨h,q⟩;{simp at h};obtain⟨d,M⟩:=I2.ok.has x (hfree _ h rfl);rw[M] at q;rw[M,q];rfl
 refine wpAny_newObj_type (wpAny_newFunctionEnv hcell (by intro y U;simp at U) (λh₁ hns₁ hsb₁=>?_) hkind);dsimp only at hns₁ hsb₁ ⊢;have I3:=I2.lnew (ys:=[]) (its:=[]) (t':=s2.toks) .nil (zBo _);have hD:H2 s2.heap.objs.size=none:=I2.fresh;generalize t:s2.heap.objs.size=D at hns₁ hsb₁ I3 hD ⊢;generalize V:s2.heap.push {cls:=.type "list",dict:=none,data:=.seq ([]:List V').toArray}=h3 at hns₁ hsb₁ I3 ⊢;have Z:h3.objs.size=D+1:=by rw[<-V,zCh,t]
 generalize s:h3.objs.size=C at hns₁ hsb₁ Z ⊢;have I3:Pb X D8 σ (upd H2 D (.l [])) {s2 with heap:=h3,toks:=s2.toks}:=I3;have B:∀b o,h3.get? b=some o->h₁.get? b=some o:=λb o e=>hsb₁.extBut b o (by rw[<-s];exact zAu (zAc e)) (zA2 _ e);have a0:∀b o,h3.get? b=some o->b≠C:=λb o e=>by rw[<-s];exact zAu (zAc e)
 have a1:X.env.locals≠C:=by rw[<-s];exact zAu I3.lt
 have b0:∀x c,X.env.cells.lookup x=some c->c≠C:=λx c e=>by obtain⟨v,o,F,_⟩:=I3.cell x c e;exact a0 c o F
 have a2:∀b∈fp,b≠C:=λb f=>by obtain⟨o,F,_⟩:=T.obj _ _ I b f;have:=zAc F;rw[t] at this;exact zAu (Nat.lt_trans this (by rw[Z];exact Nat.lt_succ_self _))
 have b1:∀b∈fp,b≠D:=λb f=>by obtain⟨o,F,_⟩:=T.obj _ _ I b f;have:=zAc F;rw[t] at this;exact zAu this
 have a3:∀b o,s2.heap.get? b=some o->h3.get? b=some o:=λb o e=>by rw[<-V];exact zA2 _ e
 have pinC:∀p∈X.pn++D8,p.1≠C:=λp hp=>a0 _ _ (I3.pin p hp).1;have a4:C∉X.fs:=by rw[<-s];exact I3.nofs (zA3 _)
 have b2:X.s₀.heap.objs.size<=C:=by rw[<-s];exact I3.sz
 have stkC:∀b∈frs X.stack,b≠C:=λb f e=>by rcases zAh.mp (I3.stkSub b f) with z|z;{exact a1 (z.symm.trans e)};exact a4 (e ▸ z)
 have HC:upd H2 D (.l []) C=none:=I3.hok.fresh (by show h3.objs.size<=C;exact Nat.le_of_eq s);have a5:∀b∈fp,b∉frs X.stack:=λb f z=>by obtain⟨_,h1,h2,_⟩:=f2 b f;rcases zAh.mp (I2.stkSub b z) with q|q;{exact h1 q};exact h2 q
 let Y:Cx:=qm2 X NY sc C {s2 with heap:=h3} (upd H2 D (.l [])) fp;have a6:(Dv σ src).length=NY.length:=by unfold Dv;rw[zA5];exact G
 have IY:Pb Y [] (Dv σ src) (upd H2 D (.l [])) {s2 with heap:=h₁,toks:=s2.toks+0}:=by
  refine⟨⟨I2.ok.mod,hkind,I2.ok.glob,I2.ok.blt,(by show h3.objs.size<=C;exact Nat.le_of_eq s),λx y c h1 h2=>I2.ok.inj x y c (clsub x c h1) (clsub y c h2),λx hx=>?_,λ_ _ z _=>(zAw z).elim,I2.ok.hd,I2.ok.frames,.inl rfl,λb f=>⟨a2 b f,λx c e=>(f2 b f).2.2.2.2.1 x c (clsub x c e)⟩,
   λb o e=>?_,?_,λb o e f=>?_,λb f=>a5 b f,?_,λb f=>?_⟩,rfl,I2.bare,Un.kept B,⟨_,hns₁,λi x v e1 e2 e3=>?_⟩,λx c e=>?_,HC,λx c e=>I3.freeC x c (clsub x c e),λp hp=>absurd (show p∈([]:List (γ×Obj)) from hp) (by simp),I3.hok.kept B,a6⟩
  {have hx:=qt5 hcell hx;exact qB9 (qV4 _ _ _ (PySem.mem_of_lookup hx))};{exact I3.bs b o e};{exact zAl I2.ok.bsz (zAl (zAl I2.sz (by rw[t];exact zA3 _)) (by show D<=h3.objs.size;lia))};{rcases (f2 b f).2.2.2.1 with z|z;{exact I2.ok.noex b o e z};exact absurd (zAk (zAc (I2.ok.bs b o e).1) z) (zCg _)};{exact I3.stack};{exact I3.stkFree b f}
  .have hi:i<src.length:=by have:=(zA4.mp e2).1;rw[a6,<-G] at this;exact this
   have e1:NY[i]?=some x:=e1;have es:src[i]?=some src[i]:=by simp[hi]
   have ep:(Dv σ src)[i]?=some (match src[i] with|none=>none|some j=>(σ[j]?).getD none):=by unfold Dv;rw[zB7,es];rfl
   rw[ep] at e2;cases hj:src[i] with
   |none=>rw[hj] at e2;cases e2|some j=>
    rw[hj] at e2;have e2:(σ[j]?).getD none=some v:=N8 e2;have ej:σ[j]?=some (some v):=by cases q:σ[j]? with|none=>rw[q] at e2;cases e2|some o=>rw[q] at e2;rw[show o=some v from e2]
    have hm:(x,some j)∈NY.zip src:=by
     have:(NY.zip src)[i]?=some (x,some j):=by rw[List.getElem?_zip_eq_some];exact⟨e1,by rw[es,hj]⟩
     exact zB0 this
    have q:=S _ hm;simp only[zBq,zBy] at q;obtain⟨qN,qf⟩:=q;have H:=hfree _ (PySem.mem_of_lookup qf) rfl;obtain⟨m,hn,hl⟩:=I3.loc;obtain⟨u,r,l⟩:=hl j x v qN ej (H.elim (λz=>.inr (.inl z)) λz=>.inr (.inr z));refine⟨u,r,.inr ⟨qi8 qf,?_⟩⟩;rcases l with⟨z,_⟩|⟨_,c,ec,o,F,M⟩;{have H:X.env.kindOf x=some .cell∨X.env.kindOf x=some .free:=H;rw[z] at H;rcases H with H|H<;>cases H};obtain⟨c',a7⟩:=qB9 (qV4 (env:=X.env) sc.names [] x (PySem.mem_of_lookup qf));have:=clsub x c' a7;rw[ec] at this;cases this;exact⟨c,a7,o,B c o F,M⟩
  obtain⟨v,o,F,M⟩:=I3.cell x c (clsub x c e);exact⟨v,o,B c o F,M⟩
 have st₁:tn 0 h₁:=T.keep _ _ _ I λb f o e=>B b o (a3 b o e);have stat:∀{H':Hp},(∀b∈fp,H' b=none)->∀b∈fp,F5 Y [] H' b:=λhn b f=>by refine⟨hn b f,a2 b f,a5 b f,.inl f,λx c e=>(f2 b f).2.2.2.2.1 x c (clsub x c e),λp hp=>absurd (show p∈([]:List (γ×Obj)) from hp) (by simp)⟩
 have loop:codeAny (K7 X.prog X.w) X.A (.compLoop (.ListComp elt [⟨tg,iter,ifs,0⟩] sc pos) 0 (.ref it) (.ref D) Y.env) (RR (.ref D) C) {s2 with heap:=h₁,toks:=s2.toks+0}:=by
  obtain⟨W,⟨m0,w0⟩,turn⟩:=rd D hD;refine qs4 (λn s'=>∃i σ' H',Pb Y [] σ' H' s'/\tn i s'.heap/\(∀b∈fp,H' b=none)/\W i n σ' H') ?_ m0 ⟨0,_,_,IY,st₁,λb f=>by rw[qd6 (b1 b f)];exact(f2 b f).1,w0⟩;rintro n s3 ⟨i,σ3,H3,J3,a8,a9,w3⟩;rcases turn i n σ3 H3 w3 with⟨stop,qn⟩|⟨go,N,hN,step⟩;{refine thn (T.done Y rfl rfl rfl hc i [] s3 σ3 H3 _ J3 (stat a9) a8 stop) λr s4 k=>?_;obtain⟨hr,J4⟩:=k;subst hr;have b3:H3 C=none:=J4.free;refine fin D C H3 s4 ?_ qn b3 b2 (Ne.symm a1) b0 pinC a4 (let ⟨m,hn,_⟩:=J4.loc;⟨m,hn⟩);refine I2.call' (ch:=fp) J4.os ?_ J4.hok J4.bare λb f=>?_;{have u1:Un (frs X.stack) fp H2 (upd H2 D (.l [])) s2.heap h3:=Un.laid a3 (Nat.le_of_eq t) hD;exact u1.trans J4.base};obtain⟨_,h1,_,b4,h4,h5⟩:=f2 b f;exact⟨b4,h1,h4,h5⟩};refine thn (T.item Y rfl rfl rfl hc i [] s3 σ3 H3 _ J3 (stat a9) a8 go) λr s4 k=>?_;obtain⟨u,hr,h4⟩:=k;subst hr;refine thn h4 λ_ s5 k=>?_;obtain⟨x,H5,J5,r5,y5,L,b5⟩:=k;have J5':=J5.pinned (stat b5) (T.obj _ _ L);have again:∀{σ7:St}{H7:Hp}{O:δ},Pb Y ([]++Iu fp s5.heap) σ7 H7 O->N σ7 H7->∃m,m<n/\∃i σ' H',Pb Y [] σ' H' O/\tn i O.heap/\(∀b∈fp,H' b=none)/\W i m σ' H':=λ{σ7 H7 O} I7 n7=>by obtain⟨m',hm,w7⟩:=hN σ7 H7 n7;refine⟨m',hm,i+1,σ7,H7,I7.unpinned,T.keep _ _ _ L λb f o e=>(I7.pin (b,o) (zB1 _ (zB1 _ (qt4 f e)))).1,λb f=>?_,w7⟩;obtain⟨o,e,d⟩:=T.obj _ _ L b f;exact(I7.pin (b,o) (zB1 _ (zB1 _ (qt4 f e)))).2.1
  refine thn (hg C _ _ _ s5 σ3 H5 x u _ J5' r5 (step x H5 y5)) λ_ s6 k=>?_;obtain⟨σ6,H6,J6,q6⟩:=k;refine thn (hf C _ _ _ s6 σ6 H6 _ J6 q6) λok O k=>?_;obtain⟨H7,J7,q7⟩:=k;cases ok with|false=>exact again J7 (by simpa using q7)|true=>rw[if_pos rfl] at q7 ⊢;refine thn (he C _ _ _ O σ6 H7 _ J7 q7) λy s8 k=>?_;obtain⟨v,H8,J8,r8,xs,b6,b7,q8⟩:=k;refine thn (qc9 (X:=Y) _ s8 σ6 H8 (.ref D) [v] (.ref D) [y] (λ_ H'=>N σ6 H') J8 rfl (.cons r8 .nil) ⟨D,xs,v,rfl,rfl,b6,b7,q8⟩) λ_ s9 k=>?_;obtain⟨_,H9,J9,_,q9⟩:=k;exact again J9 q9
 exact codeAny_compStart_list loop (T.self _ 0 _ _ _ st₁ loop)
end
def Eh(wi:TI)(src:List (Option Nat))(g:TG)(tf:TT)(te:TE):TE:=λa H Q=>wi a H λJ H1=>∀D,H1 D=none->qD1 J g tf te D (λH'=>Q (.ref D) H') (Dv a src) (upd H1 D (.l []))
section
variable{X:Cx}{elt tg iter:Lb}{ifs:List Lb}{sc:Scope}{pos:Pos}{NY:List Str}{src:List (Option Nat)}{wi:TI}{g:TG}{tf:TT}{te:TE}
theorem qP6(b:qw1 X NY src sc=true):sc.kind=.function/\(∀y∈sc.names,y.2=.local->sc.names.lookup y.1=some .local)/\(∀y∈sc.names,y.2=.free->(X.env.kindOf y.1=some .cell∨X.env.kindOf y.1=some .free)):=by unfold qw1 at b;simp only[zBq,zBy,zBi] at b;obtain⟨⟨⟨hkind,d⟩,a⟩,f⟩:=b;refine⟨hkind,λy c e=>?_,λy c e=>?_⟩;{have:=(a y c).1.2;rw[e] at this;simpa using this};have:=(a y c).2;rw[e] at this;show X.env.scope.names.lookup y.1=some .cell∨X.env.scope.names.lookup y.1=some .free;simpa using this
theorem qF9(NY:List Str)(src:List (Option Nat))(hi:PI X tg iter wi)(n:∀C a H0 ex,PG (qm2 X NY sc C a H0 ex) tg g)(p:∀C a H0 ex,PFs (qm2 X NY sc C a H0 ex) ifs tf)(r:∀C a H0 ex,PE (qm2 X NY sc C a H0 ex) elt te)(t:X.calm=true:=by rfl)(l:qw1 X NY src sc=true:=by rfl)(u:∀x,Km iter X.env x=pure x:=by intro _;rfl):PE X (.ListComp elt [⟨tg,iter,ifs,0⟩] sc pos) (Eh wi src g tf te):=by intro D8 s σ H Q I h;obtain⟨hkind,hnames,hfree⟩:=qP6 l;rw[eval_ListComp];refine wpAny_comprehension_free (use:=none) rfl u (qP7 λx y e=>I.ok.has x.1 (hfree x y e)) hkind hnames ?_;refine thn (hi D8 s σ H _ I h) λv O c=>thn c λz P d=>?_;obtain⟨B,f,S,J,H2,rfl,I2,T,i,f2,E⟩:=d;refine qZ7 (R:=λD H'=>Q (.ref D) H') (RR:=λj C=>compPost (K7 X.prog X.w) X.A X.xe none (EP X D8 σ Q) j C) l t I2 T i f2 (λC a H0=>n C a H0 f) (λC a H0=>p C a H0 f) (λC a H0=>r C a H0 f) E ?_;intro D C H' F I' q G c d K L U ⟨m,M⟩;refine⟨m,M,λV k=>⟨.ref D,H',?_,rfl,q⟩⟩;exact I'.turned (t':=F.toks) (it:=C) (λb o N e=>k.extBut b o N e) G d (.inr c) K L
theorem qax5(i:Nat)(NY:List Str)(src:List (Option Nat))(L:X.N.Nodup)(hi:PI X tg iter wi)(M:∀C a H0 ex,PG (qm2 X NY sc C a H0 ex) tg g)(O:∀C a H0 ex,PFs (qm2 X NY sc C a H0 ex) ifs tf)(P:∀C a H0 ex,PE (qm2 X NY sc C a H0 ex) elt te)(k:X.N[i]?=some x:=by rfl)(l:Loc X.env.scope x:=by first|exact O1 rfl|exact O0 rfl)(S:X.calm=true:=by rfl)(F:qw1 X NY src sc=true:=by rfl)(n:swapsWith (.ListComp elt [⟨tg,iter,ifs,0⟩] sc pos) (some (.Name x px)) spos.line X.env=pure true:=by rfl)(U:∀x,Km iter X.env x=pure x:=by intro _;rfl)(r:X.fn x=true∨X.env.scope.names.lookup x=some .local:=by first|exact .inl rfl|exact .inr rfl|assumption):PS X (.Assign [.Name x px] (.ListComp elt [⟨tg,iter,ifs,0⟩] sc pos) spos) (Hq (Eh wi src g tf te) (E7 i)):=by
 intro D8 s σ H D I h;obtain⟨hkind,hnames,hfree⟩:=qP6 F;rw[exec_Assign_Name_used _ _ _ _ n];refine E' (wpAny_standAt (E' ?_));show K6 _ _ (do let _<-comprehension (.ListComp elt [⟨tg,iter,ifs,0⟩] sc pos) sc X.env _ (newList []) false (eval iter X.env) (some (assign (.Name x px) X.env))) _ _ s;refine E' (Kw (wpAny_comprehension_free (use:=some (assign (.Name x px) X.env)) (Q:=λ_ c=>SP X D8 D .next c) rfl U (qP7 λx l e=>I.ok.has x.1 (hfree x l e)) hkind hnames ?_) (λ_ c V=>J' (J' V)) λ_ _ e=>e);refine thn (hi D8 s σ H _ I h) λv s1 t=>thn t λW s2 j=>?_;obtain⟨Y,u,tn,J,H2,rfl,I2,T,y,f2,Z⟩:=j;refine qZ7 (R:=λD' H'=>E7 i (.ref D') σ H' D.nx) (RR:=λB C=>compPost (K7 X.prog X.w) X.A X.xe (some (assign (.Name x px) X.env)) (λ_ c=>SP X D8 D .next c) B C) F S I2 T y f2 (λC a H0=>M C a H0 u) (λC a H0=>O C a H0 u) (λC a H0=>P C a H0 u) Z ?_;intro D' C H' c I' q G t j h3 h4 h5 ⟨m,hn⟩;obtain⟨o,es,ep,ho,K,hr⟩:=hn;have Ip:Pb X (D8++[(C,o)]) σ H' c:=I'.pins_of λp hp=>(zA6.mp hp).elim (λz=>I'.pin p (zB1 _ z)) λz=>by
  have e:p=(C,o):=by simpa using z
  subst e;exact⟨ho,G,j,h5,λv e=>by rw[K] at e;cases e⟩
 show K6 _ _ (assign (.Name x px) X.env (.ref D')) _ _ _;refine wpAny_assign_Name (qR2 (v:=.ref D') Ip L k l rfl (λd I''=>?_) r);have f:d.heap.get? C=some o:=(I''.pin (C,o) (by simp)).1;refine⟨m,⟨o,es,ep,f,K,hr⟩,λh' E=>⟨_,H',?_,q⟩⟩;exact I''.unpinned.turned (t':=d.toks) (it:=C) (λb o hb e=>E.extBut b o hb e) G j (.inr t) h3 h4
end
theorem qZ6{K:Oa}(Pv:Nat->St->Hp->Prop)(c:Pv 0 n H)(d:∀i n H,i<=xs.length->Pv i n H->SqL K H a xs)(f:∀i x n H,xs[i]?=some x->Pv i n H->g x n H λσ2 H2=>tf σ2 H2 λh H3=>if h=true then te σ2 H3 λv H4=>∃ys,H4 D=some (.l ys)/\ys.length<Kk/\Pv (i+1) σ2 (upd H4 D (.l (ys++[v]))) else Pv (i+1) σ2 H3)(j:∀n H,Pv xs.length n H->R H):qD1 (Itl K a) g tf te D R n H:=by refine⟨λi m n H=>m=xs.length-i/\i<=xs.length/\Pv i n H,⟨xs.length,by simp,zBo _,c⟩,?_⟩;rintro i m n H ⟨rfl,k,p⟩;have q:=d i n H k p;by_cases b:i<xs.length;{refine .inr ⟨⟨xs,xs[i],q,by simp[b]⟩,Pv (i+1),λn' H' l=>⟨xs.length-(i+1),⋯,rfl,b,l⟩,λx H' y=>?_⟩;obtain⟨e,y⟩:=y;subst e;exact f i x n _ (y xs q) p};have e:i=xs.length:=⋯;subst e;exact .inl ⟨⟨xs,q,zA3 _⟩,j n H p⟩
section
variable{X:Cx}
theorem sset(i:Nat)(a:X.N.Nodup)(b:PE X e te)(hi:X.N[i]?=some x:=by rfl)(c:Loc X.env.scope x:=by first|exact O1 rfl|exact O0 rfl)(d:swapsWith e (some (.Name x pos')) pos.line X.env=pure false:=by rfl)(f:X.fn x=true∨X.env.scope.names.lookup x=some .local:=by first|exact .inl rfl|exact .inr rfl|assumption):PS X (.Assign [.Name x pos'] e pos) (Hq te (E7 i)):=qaM3 a hi c b d f
theorem gnm(i:Nat)(a:X.N.Nodup)(hi:X.N[i]?=some x:=by rfl)(b:Loc X.env.scope x:=by first|exact O1 rfl|exact O0 rfl)(c:X.fn x=true∨X.env.scope.names.lookup x=some .local:=by first|exact .inl rfl|exact .inr rfl|assumption):PG X (.Name x pos) (E7 i):=qax7 a hi b c
def CDivB(_ j:Int):Prop:=0<j/\j<2 ^ 200
theorem qT4:OpR X (K5 .FloorDiv) (rI CDivB λi j=>.int (i/j)):=opI λi j _ _ _ _ _ a q=>by
 have c:(0:Int)<j:=a.1;have d:j<2 ^ 200:=a.2;refine floordiv_int ⋯ (by rw[Int.fdiv_eq_ediv_of_nonneg i ⋯];exact q) (.inl (PyProof.noPylong_of_log2 ?_));have b:j.natAbs<2 ^ 200:=⋯
 have e:j.natAbs.log2<200:=(Nat.log2_lt ⋯).mpr b;lia
theorem qaN3(k:Int)(c:i ^ j.toNat=k:=by decide)(d:0<=j:=by decide)(h1:j<=1000000:=by decide)(h2:i.natAbs<2 ^ 64:=by decide):PE X (.BinOp (.Constant (.int i) a p) .Pow (.Constant (.int j) b q) pos) (tC (.int k)):=by intro D8 s m H Q I h;refine(pe_op qaX4 qM7 qM7) D8 s m H Q I ⟨_,_,rfl,rfl,⟨d,h1,h2⟩,?_⟩;show Q (.int (i ^ j.toNat)) H;rw[c];exact h
theorem qaX7:OpR X (Kl .Is) (λx y H Q=>∃b c,x=.bl b/\y=.bl c/\Q (.bl (b==c)) H):=by intro D8 s m H x y v u Q I a d h;obtain⟨b,c,rfl,rfl,q⟩:=h;cases a;cases d;exact is_bool ⟨.bl _,H,I,rfl,q⟩
def Bn(H:Hp):V->Option String
 |.non=>some "NoneType" | .bl _=>some "bool" | .int _=>some "int" | .str _=>some "str"|.ref a=>match H a with|some (.l _)=>some "list" | some (.q _)=>some "tuple" | some (.dK _)=>some "dict" | some (.frz _ (.l _))=>some "list"|_=>none
 |_=>none
noncomputable def Hs(t n:String):Bool:=t==n||(t=="bool" && n=="int")
theorem qaQ5(K:Oa){t:String}(a:t∈["NoneType", "bool", "int", "str", "list", "tuple", "dict"])(b:n∈["bool", "int", "str", "list", "tuple", "dict"]):Ob K (.type t) (.type n)=some (Hs t n):=by simp only[zAh,zBg,zCv] at a b;rcases a with rfl|rfl|rfl|rfl|rfl|rfl|rfl<;>rcases b with rfl|rfl|rfl|rfl|rfl|rfl<;>rfl
theorem qak8{K:Oa}{x:V}{t:String}(h:Bn H x=some t):Es K H x (.type t)/\t∈["NoneType", "bool", "int", "str", "list", "tuple", "dict"]:=by cases x with|non=>cases h;exact⟨.non,∅⟩|bl b=>cases h;exact⟨.bl b,∅⟩|int b=>cases h;exact⟨.int b,∅⟩|str b=>cases h;exact⟨.str b,∅⟩|byt b=>cases h|flt b=>cases h|ty b=>cases h|ref a=>unfold Bn at h;dsimp only at h;split at h;{cases h;exact⟨.l (by assumption),∅⟩};{cases h;exact⟨.q (by assumption),∅⟩};{cases h;exact⟨.dK (by assumption),∅⟩};{cases h;exact⟨.frz (by assumption),∅⟩};cases h
def rIsi:List V->Hp->VK->Prop:=λxs H Q=>∃x n t,xs=[x,.ty n]/\Bn H x=some t/\n∈["bool", "int", "str", "list", "tuple", "dict"]/\Q (.bl (Hs t n)) H
theorem qi5:CallR X (.builtin "isinstance") rIsi:=by intro D8 s m H g i Q I r h;obtain⟨x,n,t,rfl,b,c,q⟩:=h;obtain⟨u,j,rfl,d,a⟩:=G8 r;cases a;obtain⟨ty,e⟩:=qak8 (K:=X.K) b;exact qJ6 I d ty (qaQ5 X.K e c) λf=>⟨.bl _,H,I.tok f,rfl,q⟩
theorem qaD8(n:String)(hm:X.mg x=none)(a:Gl X x:=by rfl)(b:Ko x=some (.type n):=by rfl)(c:x ≠ "__name__" := by decide)(d:N' x:=by decide):PE X (.Name x pos) (tC (.ty n)):=qaN7 a hm b rfl c d
theorem qay0{t:Tok}(hm:X.mg x=some (.int n t))(a:Gl X x:=by rfl)(b:N' x:=by decide):PE X (.Name x pos) (tC (.int n)):=qax9 a hm ⟨t,rfl⟩ b
theorem cbi{id:String}(c:CallR X (.builtin id) r)(hm:X.mg x=none)(d:PA X (e::es) t)(f:Gl X x:=by rfl)(g:Ko x=some (.builtin id):=by rfl)(h:x ≠ "__name__" := by decide)(a:N' x:=by decide)(i:Kj (e::es) X.env=(false,eval e X.env)::Kj es X.env:=by rfl)(b:(backTo pos (Kj es X.env)).any (·.1)=false:=by rfl):PE X (.Call (.Name x p) (e::es) [] pos) (tCB r t):=qaD9 c f hm g d h a i b
theorem cty{id:String}(c:CallR X (.type id) r)(hm:X.mg x=none)(d:PA X (e::es) t)(f:Gl X x:=by rfl)(g:Ko x=some (.type id):=by rfl)(h:x ≠ "__name__" := by decide)(a:N' x:=by decide)(i:Kj (e::es) X.env=(false,eval e X.env)::Kj es X.env:=by rfl)(b:(backTo pos (Kj es X.env)).any (·.1)=false:=by rfl):PE X (.Call (.Name x p) (e::es) [] pos) (tCB r t):=qaq9 c f hm g d h a i b
end
def rGetL:V->V->Hp->VK->Prop:=λo i H Q=>∃p xs k v,o=.ref p/\i=.int k/\H p=some (.l xs)/\0<=k/\xs[k.toNat]?=some v/\Q v H
theorem qaH1:PGet X rGetL:=by intro D8 s C H o i w y Q I c d h;obtain⟨p,z,k,v,rfl,rfl,e,f,b,q⟩:=h;cases c;obtain⟨t,rfl⟩:=d;obtain⟨a,n,r,g,A⟩:=I.l e;obtain⟨u,j,l⟩:=r.get b;have m:=(zA4.mp b).1;have B:=qU3;refine wpAny_getItem_list (items:=a.toArray) (x:=u) ⟨_,g,rfl,n,rfl⟩ f ⋯ (by simpa using j) ⟨v,H,I,l,q⟩
theorem qbc7{xs:List α}(b:0<=i)(h1:i<xs.length):∃v,xs[i.toNat]?=some v/\atI xs i=some v:=by have a:i.toNat<xs.length:=⋯;have e:(i.toNat:Int)=i:=⋯;refine⟨xs[i.toNat],by simp[a],?_⟩;have:=qaA8 (xs:=xs) (j:=i.toNat) (v:=xs[i.toNat]) (by simp[a]);rw[e] at this;exact this
theorem qP9{xs:List α}(a:0<=i)(h1:i<xs.length):∃v,v∈xs/\atI xs i=some v:=by obtain⟨v,h,e⟩:=qbc7 a h1;exact⟨v,zB0 h,e⟩
theorem qak7(h:H a=some (.l xs)):Bn H (.ref a)=some "list" := by
 unfold Bn;dsimp only;rw[h]
theorem qaG0(h:H a=some (.q xs)):Bn H (.ref a)=some "tuple" := by
 unfold Bn;dsimp only;rw[h]
theorem qay8{xs:List (Key×V)}(h:H a=some (.dK xs)):Bn H (.ref a)=some "dict" := by
 unfold Bn;dsimp only;rw[h]
theorem Same.new(h:H q=none):Same H (upd H q u):=λb o e=>by rw[qd6 (qf7 e h)];exact e
structure Df(K:Oa)(mg:Str->Option V')(x qual:Str)(st:Lc)(f:γ)(fd:ε)(ps:List Str):Prop where
 F:Fun K x qual st f fd
 b:Binds K fd ps []
 m:mg x=some (.ref f)
theorem dfmk{K:Oa}{st:Lc}{i:Array (Option V')}{kV e a:V'}(l:K.lookup f=some ⟨oc,j,.func (W.fnOf x qual (qg1 st) (qe1 st) (qa3 st) .none kV b e d a g),i⟩)(c:W.codeIn K a qual=true)(k:W.keepIn K (.ref f)=true)(m:mg x=some (.ref f))(h:∀(kV b e:V')(d:Option γ)(a g:V')(us:List V'),us.length=ps.length->bindArgs (W.fnOf x qual (qg1 st) (qe1 st) (qa3 st) .none kV b e d a g) ⟨us,[]⟩=pure (ps.zip us)):Df K mg x qual st f (W.fnOf x qual (qg1 st) (qe1 st) (qa3 st) .none kV b e d a g) ps:=⟨qas9 l c k,(qas9 l c k).binds h,m⟩
theorem Hb{st:Lc}(D:Df X.K X.mg x qual st f fd ps)(G:Eg X.prog X.w X.K X.mg X.base CX0 k f fd ps sp)(d:Room k X.A)(g:PA X (e::es) t)(h:Gl X x:=by rfl)(a:N' x:=by decide)(i:Kj (e::es) X.env=(false,eval e X.env)::Kj es X.env:=by rfl)(c:(backTo pos (Kj es X.env)).any (·.1)=false:=by rfl):PE X (.Call (.Name x p) (e::es) [] pos) (G9 sp [] (λ_=>E0) t):=qah7 G d h D.m D.F.kp D.b .nil pass0 g a i c
end L2
namespace LB
open PySem PySem.Spec PyProof.Rows
theorem qU2:typeLookup (.type "list") "keys"=pure none:=by rw[typeLookup_type,builtinLookup_eq_fast];kernel_rfl
theorem qE8:typeLookup (.type "list") "__getattr__"=pure none:=by rw[typeLookup_type,builtinLookup_eq_fast];kernel_rfl
section
variable{prog:K8}{w:La}{A:K9}{E:V'->δ->Prop}{h:Heap}{g:Array GenState}{d:Drawn}{t:Nat}{u:OsState}{a:γ}{its:Array V'}{n:Nat}
theorem qE9(c:h.get? a=some {cls:=.type "list",data:=.seq its n})(f:A.handled=none)(i:∀h' b e,Heap.NewAttrErr h h' e (.ref a) "keys" -> E (.ref e) ⟨h',g,d,b,u⟩):K6 (K7 prog w) A (Builtin.«object.__getattribute__» ⟨[.ref a,.str "keys" b],[]⟩) Q E ⟨h,g,d,t,u⟩:=by
 have j:(⟨h,g,d,t,u⟩:δ).TypeIs (.ref a) "list" := ⟨_,c,rfl⟩;have k:=qU2;repeat (any_goals (first|assumption|wp_step))
 refine wpAny_raiseAttrError f ?_ (attrMsg_fits (by decide +kernel) (by decide +kernel));exact i
theorem qJ5(i:h.get? a=some {cls:=.type "list",data:=.seq its n})(k:A.handled=none)(l:∀h' f,(∀b o,h.get? b=some o->h'.get? b=some o)->Q none ⟨h',g,d,f,u⟩):K6 (K7 prog w) A (getAttr? (.ref a) "keys") Q E ⟨h,g,d,t,u⟩:=by
 have j:∀f,(⟨h,g,d,f,u⟩:δ).TypeIs (.ref a) "list" := λ_=>⟨_,i,rfl⟩;have m:=j t;have f1:=sub_AttributeError;have f2:=F.slot_list_getattribute.lookup;have f3:=F.slot_list_getattribute.bind (.ref a);have p:=qE8;unfold getAttr? getAttrBy? getAttrBy;repeat (any_goals (first|assumption|wp_step))
 refine codeAny_call_builtin F.slot_list_getattribute.plain F.entry_list_ga (F.slot_list_getattribute.check _ _ _ _ _ _ _ _ (j _) (F.args_list_getattribute_2 _ _) (qE9 i k λh' f e c=>?_));obtain⟨q,r,s⟩:=c.there;show K6 _ _ (getattributeRaised _ _ _ _ _ _ _) _ _ _;unfold getattributeRaised;repeat (any_goals (first|assumption|wp_step))
 exact l _ _ c.keeps
end
theorem qp8:entryFor table "dict.update.loop"=some Builtin.«dict.update.loop»:=entryFor_of_tree (by kernel_rfl)
theorem qg4:plainId "dict.update.loop"=true:=by decide +kernel
section
variable{prog:K8}{w:La}{K:Type}[DecidableEq K]{knd:KeyKind prog w K}{A:K9}{R:Result->δ->Prop}
theorem qau0(V:A.handled=none)(z:ax≠I)(g:d≠I)(B:ax≠d):∀(rest:List (K×V'))(i:Nat)(v:Int)(kvs:List (K×V'))(s:δ),
 (∀(j:Nat) a,rest[j]?=some a->∃t key,items[i+j]?=some (.ref t)/\IsTup s.heap t #[key,a.2]/\knd.is a.1 key=true/\t≠I/\t≠d)->items.size=i+rest.length->s.heap.IsListIter I ax i->s.heap.IsList ax items->s.heap.DictOf knd d kvs->kvs.length+rest.length<=Kk->(∀h' C,h'.DictOf knd d (rest.foldl (λacc a=>stored acc a.1 a.2) kvs)->(∀b o,b≠I->b≠d->s.heap.get? b=some o->h'.get? b=some o)->R (.ok (.ret .none)) {s with heap:=h',toks:=C})->codeAny (K7 prog w) A (.builtin "dict.update.loop" ⟨[.ref d,.ref I,rawInt v,.none],[]⟩) R s:=by
 intro rest;induction rest with
 |nil=>
  intro i v kvs s D f h x E Q F;refine codeAny_builtin qp8 ?_;rw[Around.under_plainId qg4 _];show K6 _ A.in1 (pyNext (.ref I) >>= _) _ _ s;refine E' (wpAny_pyNext_list_end V h x (by simp at f;simp[f]) λh' S=>?_);show K6 _ _ (Builtin.Dict.addKeywords d [] >>= _) _ _ _;refine E' (J' (J' ?_));have k:h'.DictOf knd d kvs:=by obtain⟨o,G,H,l,r⟩:=E;exact⟨o,G,H,S d o g l,r⟩
  exact F h' s.toks k λb o y _ e=>S b o y e
 |cons a rest W=>
  intro i v kvs s D f h x E Q F;obtain⟨t,key,X,Y,Z,h4,h5⟩:=D 0 a rfl;refine codeAny_builtin qp8 ?_;rw[Around.under_plainId qg4 _];show K6 _ A.in1 (pyNext (.ref I) >>= _) _ _ s;refine E' (wpAny_pyNext_list_item h x X λh' m p=>?_);have J:IsTup h' t #[key,a.2]:=Y.extBut p.extBut h4;obtain⟨o,l,L,n,M⟩:=J;refine E' (Kn ?_);refine E' (wpAny_tryCatch ?_);unfold Builtin.Dict.pairItems;refine E' (wpAny_typeOf (T := "tuple") ⟨o,l,L⟩ ?_);rw[if_pos ∅];refine E' (wpAny_seqItems l M (J' ?_));dsimp only[Option.getD];have k:h'.DictOf knd d kvs:=by obtain⟨o,G,H,l,r⟩:=E;exact⟨o,G,H,p.extBut d o g l,r⟩
  simp only[zAn] at Q f;show K6 _ _ (holding [key,a.2] (dictSet d key a.2)) _ _ _;refine Kn (wpAny_dictSet_pairs (hsz:=by lia) Z k λa0 q c=>?_);refine J' ⟨plainId_quiet qg4 _,?_⟩;have U:(stored kvs a.1 a.2).length<=kvs.length+1:=by unfold stored;split;{rw[zA5];lia};rw[zA8];simp
  refine W (i+1) (v+1) (stored kvs a.1 a.2) _ (λj N hj=>?_) ⋯ ?_ ?_ q ⋯ λO C P k3=>?_;{obtain⟨t',key',g1,g2,g3,g4,g5⟩:=D (j+1) N hj;exact⟨t',key',by rw[show i+1+j=i+(j+1) by lia];exact g1,(g2.extBut p.extBut g4).extBut c.extBut g5,g3,g4,g5⟩};{exact m.at λo e=>c.extBut I o (Ne.symm g) e};{exact(x.at λo e=>p.extBut ax o z e).at λo e=>c.extBut ax o B e};exact F O C P λb o y u e=>k3 b o y u (c.extBut b o u (p.extBut b o y e))
end
end LB
namespace L2
open PySem PySem.Spec PyProof.Rows
section
variable{X:Cx}
theorem KV.fold:∀{more:List (Key×V)}{a:List (Key×V')}{kvs:List (Key×V)}{vs:List (Key×V')},KV more a->KV kvs vs->KV (qE7 kvs more) (a.foldl (λacc b=>stored acc b.1 b.2) vs):=by intro more a kvs vs r;unfold KV at r;induction r generalizing kvs vs with|nil=>intro q;exact q|@cons p q _ _ h _ ih=>intro c;show KV (qE7 (putK kvs p.1 p.2) _) (Mf _ (stored vs q.1 q.2) _);refine ih ?_;rw[<-h.1];exact c.put p.1 h.2
def qaA9(H:Hp)(ys:List V)(kvs:List (Key×V)):Prop:=Paired (λy (a:Key×V)=>∃t,y=.ref t/\H t=some (.q [kV a.1,a.2])) ys kvs
def qaL9:List V->Hp->VK->Prop:=λxs H Q=>∃a ys kvs,xs=[.ref a]/\H a=some (.l ys)/\qaA9 H ys kvs/\∀p,H p=none->Q (.ref p) (upd H p (.dK (qE7 [] kvs)))
theorem qP8(hc:X.calm=true):CallR X (.type "dict") qaL9:=by
 intro D8 s σ H xs us Q I r h;obtain⟨a,ys,g,rfl,ha,N,q⟩:=h;obtain⟨u,rfl,ru⟩:=Dm r;cases ru;have hh:=I.ok.hd hc;obtain⟨z,f,n,rv,O,e⟩:=I.lstM ha;obtain⟨x,J,P⟩:∃x:List (Key×V'),KV g x/\∀(j:Nat) k,x[j]?=some k->∃t i,f[j]?=some (.ref t)/\IsTup s.heap t #[i,k.2]/\(qh1 X.prog X.w).is k.1 i=true:=by clear q e O n ha z;induction N generalizing f with|nil=>exact⟨[],.nil,λj k C=>by simp at C⟩|@cons y k ys g hy _ ih=>cases rv with|@cons _ u _ us' hu hr=>obtain⟨t,rfl,ht⟩:=hy;cases hu;obtain⟨_,its',rt,o,p,R,n,S⟩:=I.hok t _ ht;obtain⟨i,U,rfl,r1,r2⟩:=rt.two;obtain⟨x,J,P⟩:=ih _ hr;refine⟨(k.1,U)::x,.cons ⟨rfl,r2⟩ J,λj V C=>?_⟩;cases j with|zero=>cases C;exact⟨t,i,rfl,⟨o,p,R,n,S⟩,I8 r1⟩|succ j=>exact P j V C
 have D:x.length=f.length:=by rw[<-O,<-Paired.length J,<-Paired.length N]
 have big:=I.big;obtain⟨c,gn,dr,W,Y⟩:=s;refine callType_codes (Q₁:=λE s₁=>E=.ref c.objs.size/\s₁={heap:=c.push {cls:=.type "dict",data:=.dict #[]},gens:=gn,drawn:=dr,toks:=W,os:=Y}) F.kt_called_dict (F.kt_typeCall_dict_1 _) F.entry_dict_init (kt_code_dict_new _ ⟨rfl,rfl⟩) ?_;rintro E s₁ ⟨rfl,rfl⟩;have l:(c.push {cls:=.type "dict",data:=.dict #[]}).DictOf (qh1 X.prog X.w) c.objs.size []:=Heap.DictOf.new c;have Z:(c.push {cls:=.type "dict",data:=.dict #[]}).get? a=some {cls:=.type "list",data:=.seq f.toArray n}:=zA2 _ e;have G:a<c.objs.size:=zAc e;refine⟨l.typeIs,F.args_dict_init_2 _ _,?_⟩;unfold Builtin.«dict.__init__»;refine E' ?_;unfold Builtin.Dict.selfAndRest;refine E' (wpAny_notOrdered_dict l.typeIs ?_);show K6 _ _ (pure (c.objs.size,[Nx a])) _ _ _;refine J' ?_;show K6 _ _ (Builtin.Dict.updateFrom "dict.__init__" c.objs.size (.ref a) [] .none) _ _ _;unfold Builtin.Dict.updateFrom;refine E' (wpAny_typeOf (T := "list") ⟨_,Z,rfl⟩ ?_);rw[if_pos ∅];refine E' (LB.qJ5 Z hh λB a2 K=>?_);rw[if_pos (by rfl)];have e1:B.get? a=some {cls:=.type "list",data:=.seq f.toArray n}:=K _ _ Z;have d1:B.DictOf (qh1 X.prog X.w) c.objs.size []:=by obtain⟨o,L,M,p,r⟩:=l;exact⟨o,L,M,K _ _ p,r⟩
 refine E' (Kx ?_);have hlist:B.IsList a f.toArray:=⟨_,e1,rfl,n,rfl⟩;refine E' (wpAny_pyIter_list hlist ?_);have v:c.objs.size<B.objs.size:=by obtain⟨o,L,M,p,r⟩:=d1;exact zAc p
 refine J' ⟨plainId_quiet LB.qg4 _,?_⟩;refine LB.qau0 (knd:=qh1 X.prog X.w) (A:=X.A.in1) hh (I:=B.objs.size) (ax:=a) (d:=c.objs.size) (items:=f.toArray) (zAu (Nat.lt_trans G v)) (zAu v) (zAu G) x 0 0 [] _ (λj k C=>?_) (by simp[D]) ?_ ?_ ?_ ?_ λh2 a0 d2 k2=>?_;{obtain⟨t,i,g1,g2,g3⟩:=P j k C;obtain⟨o,p,r⟩:=g2;have m:=zAc p;exact⟨t,i,by simpa using g1,⟨o,zA2 _ (K _ _ (zA2 _ p)),r⟩,g3,zAu (Nat.lt_trans m v),zAu m⟩};{exact⟨_,zAp _ rfl,rfl,rfl⟩};{exact⟨_,zA2 _ e1,rfl,n,rfl⟩};{obtain⟨o,L,M,p,r⟩:=d1;exact⟨o,L,M,zA2 _ p,r⟩};{simp only[Mg,zAe];rw[D,<-O];exact z};refine⟨rfl,?_⟩;have hf:H c.objs.size=none:=I.hok.fresh (zA3 _);have keep:∀b o,c.get? b=some o->h2.get? b=some o:=λb o eb=>by have m:=zAc eb;exact k2 b o (zAu (Nat.lt_trans m v)) (zAu m) (zA2 _ (K _ _ (zA2 _ eb)))
 have rm:KV (qE7 [] g) (x.foldl (λa1 k=>stored a1 k.1 k.2) []):=KV.fold J .nil;have hz:(qE7 [] g).length<=Kk:=by have B:=qx4 g [];have h2:=Paired.length N;simp only[Mg] at B;lia
 refine⟨.ref c.objs.size,_,I.laid (t':=a0) (o:=.dK (qE7 [] g)) keep (zA3 _) ?_,rfl,q _ hf⟩;exact⟨hz,zC9.mpr (Ne.symm (zAu big)),_,rm,d2⟩
end
section
variable{X:Cx}
theorem qy6(t:X.calm=true):CallR X (.builtin "all") (λxs H Q=>∃(a:γ)(bs:List Bool),xs=[.ref a]/\SqL X.K H a (bs.map V.bl)/\Q (.bl (bs.all id)) H):=by
 intro D8 s L H xs E Q I r h;obtain⟨a,bs,rfl,w,q⟩:=h;obtain⟨u,rfl,k⟩:=Dm r;cases k;have y:=I.ok.hd t;obtain⟨d,l,m,F⟩:=I.list w;refine call_all_walk (wpAny_pyIter_list m.isList ?_);have n:a<s.heap.objs.size:=let ⟨o,ho,_⟩:=m.isList;zAc ho
 refine⟨s.heap.objs.size,_,_,_,_,_,λi=>bs.getD i false,rfl,Walks.list (A:=X.A.in1) y _ a (zAu n) d.toArray,⟨⟨_,zAp _ rfl,rfl,rfl⟩,?_⟩,?_,?_⟩;{exact m.isList.at λo e=>zA2 _ e}
 .intro i v z Q1 E1 f g;have f:d[i]?=some v:=by simpa using f
  have c:i<bs.length:=by have G:=(zA4.mp f).1;have j:=l.length;rw[zA5] at j;lia
  obtain⟨u,p,k⟩:=l.get (i:=i) (x:=.bl bs[i]) (by simp[c]);rw[f] at p;cases p;cases k;refine Kq ?_;have e:bs.getD i false=bs[i]:=by simp[M8,c]
  have g:Q1 (bs.getD i false) z:=g;rw[e] at g;exact g
 intro J B C;have e:(Lr d.toArray.size).all (λi=>bs.getD i false)=bs.all id:=by have j:=l.length;rw[zA5] at j;rw[zA7,<-j];rw[Bool.eq_iff_iff];simp only[zBi,zAq,id_eq];constructor;{intro h b D;obtain⟨i,c,rfl⟩:=List.mem_iff_getElem.mp D;have:=h i c;simpa[M8,c] using this};intro h i c;have:=h bs[i] (List.getElem_mem c);simpa[M8,c] using this
 rw[e];refine⟨.bl _,H,?_,rfl,q⟩;exact I.kept (t':=B) λb o e=>C b o (by simp;exact zAu (zAc e)) (zA2 _ e)
noncomputable def qo1(ns:List Int):Nat:=(firstMet (λi=>ns.getD i 0) ns.length).length
def rSetI(K:Oa):List V->Hp->VK->Prop:=λxs H Q=>∃(a:γ)(ns:List Int),xs=[.ref a]/\SqL K H a (ns.map V.int)/\ns.length<=1000/\∀p S,H p=none->Q (.ref p) (upd H p (.set S (qo1 ns)))
theorem qau6(k:X.calm=true):CallR X (.type "set") (rSetI X.K):=by
 intro D8 s L H x y Q I r h;obtain⟨a,f,rfl,l,z,q⟩:=h;obtain⟨u,rfl,m⟩:=Dm r;cases m;have n:=I.ok.hd k;obtain⟨c,i,p,A⟩:=I.list l;have d:c.length=f.length:=by have:=i.length;rw[zA5] at this;exact this.symm
 have t:IntsAre c f:=qal2 i;refine call_set_list (items:=c.toArray) n p.isList (by simpa using t) (by rw[zA7,d];show f.length+1<4096;lia) λB v j w=>?_;have g:c.toArray.size=f.length:=by rw[zA7,d]
 rw[g] at j;refine⟨.ref s.heap.objs.size,_,I.laid (t':=v) (o:=.set _ (qo1 f)) (λb o e=>w b o (zAc e) e) (zA3 _) j,rfl,q _ _ (I.hok.fresh (zA3 _))⟩
theorem qau8:CallR X (.builtin "len") (λxs H Q=>∃(a:γ)(S:Int->Bool)(n:Nat),xs=[.ref a]/\H a=some (.set S n)/\Q (.int n) H):=by intro D8 s L H xs l Q I r h;obtain⟨a,S,n,rfl,d,q⟩:=h;obtain⟨u,rfl,e⟩:=Dm r;cases e;obtain⟨o,f,m,t,g,b,i,_,_,c,j,k⟩:=I.hok a _ d;subst k;have c:f.size<4096:=c;exact call_len_set g b i j ⋯ ⟨.int _,H,I.tok _,⟨_,rfl⟩,q⟩
end
theorem qV2(ns:List Int):qo1 ns=ns.length↔ns.Nodup:=by
 have f:∀i,i<=ns.length->(∀k,k∈firstMet (λi=>ns.getD i 0) i↔k∈ns.take i)/\((firstMet (λi=>ns.getD i 0) i).length=i↔(ns.take i).Nodup):=by
  intro i;induction i with
  |zero=>intro _;rw[firstMet_zero];simp|succ i m=>
   intro r;obtain⟨c,l⟩:=m ⋯;have n:=firstMet_length_le (λi=>ns.getD i 0) i;have b:i<ns.length:=⋯;have o:ns.take (i+1)=ns.take i++[ns[i]]:=by rw[zBk];simp[b]
   have p:ns.getD i 0=ns[i]:=by simp[M8,b]
   rw[firstMet_succ,o,p];unfold step_dedup;by_cases d:ns[i]∈firstMet (λi=>ns.getD i 0) i;{have a:ns[i]∈ns.take i:=(c _).mp d;have g:(firstMet (λi=>ns.getD i 0) i).any (· == ns[i])=true:=List.any_eq_true.mpr ⟨_,d,by simp⟩;rw[if_pos g];refine⟨λk=>?_,?_⟩;{rw[c];simp only[zA6,zAb];exact⟨.inl,λh=>h.elim id λe=>by rw[e];exact a⟩};constructor;{intro h;lia};intro h;rw[zBj] at h;exact absurd rfl (h.2.2 _ a _ (zAb.mpr rfl))};have a:¬ns[i]∈ns.take i:=λh=>d ((c _).mpr h);have g:¬(firstMet (λi=>ns.getD i 0) i).any (· == ns[i])=true:=λh=>by obtain⟨x,j,e⟩:=List.any_eq_true.mp h;exact d (by rw[<-(zBy.mp e)];exact j)
   rw[if_neg g];refine⟨λk=>?_,?_⟩;{simp only[zA6,zAb];rw[c]};rw[zA8,zBj];simp only[Mw];constructor;{intro h;refine⟨l.mp ⋯,by simp,λx j y q=>?_⟩;rw[zAb.mp q];exact λe=>a (e ▸ j)};intro h;have:=l.mpr h.1;lia
 have:=(f ns.length (zA3 _)).2;rw[zAs (zA3 _)] at this;exact this
end L2
namespace L2
open PySem PySem.Spec PyProof.Rows PySem.SeqAt
variable{A:K9}{xs:List V}
inductive EqD(H:Hp):Nat->V->V->Bool->Prop
 |flat {n:Nat} {x y:V} (hx:flatV x=true) (hy:flatV y=true):EqD H n x y (eqV x y)
 |same {n:Nat} (a:γ):EqD H n (.ref a) (.ref a) true
 |lsts {n:Nat} {a b:γ} {xs ys:List V} {e:Nat->Bool} (ne:a≠b) (ha:H a=some (.l xs)) (hb:H b=some (.l ys)) (hl:xs.length=ys.length) (he:∀i x y,xs[i]?=some x->ys[i]?=some y->EqD H n x y (e i)):EqD H (n+1) (.ref a) (.ref b) ((Lr xs.length).all e)
 |lens {n:Nat} {a b:γ} {xs ys:List V} (ne:a≠b) (ha:H a=some (.l xs)) (hb:H b=some (.l ys)) (hl:xs.length≠ys.length):EqD H (n+1) (.ref a) (.ref b) false
 |tups {n:Nat} {a b:γ} {xs ys:List V} {e:Nat->Bool} (ne:a≠b) (ha:H a=some (.q xs)) (hb:H b=some (.q ys)) (he:∀i x y,xs[i]?=some x->ys[i]?=some y->EqD H n x y (e i)):EqD H (n+1) (.ref a) (.ref b) ((Lr (min xs.length ys.length)).all e&&xs.length==ys.length)
inductive RcD(H:Hp):V->V->Bool->Prop
 |flat {x y:V} (hx:flatV x=true) (hy:flatV y=true):RcD H x y (eqV x y)
 |lsts {a b:γ} {xs ys:List V} {e:Nat->Bool} (ha:H a=some (.l xs)) (hb:H b=some (.l ys)) (hl:xs.length=ys.length) (he:∀i x y,xs[i]?=some x->ys[i]?=some y->EqD H 20 x y (e i)):RcD H (.ref a) (.ref b) ((Lr xs.length).all e)
 |lens {a b:γ} {xs ys:List V} (ha:H a=some (.l xs)) (hb:H b=some (.l ys)) (hl:xs.length≠ys.length):RcD H (.ref a) (.ref b) false
section
variable{X:Cx}{E:List (γ×Obj)}{D:St}{H:Hp}{s:δ}
theorem Pb.lstI(I:Pb X E D H s){a:γ}(h:H a=some (.l xs)):∃its:List V',O9 xs its/\s.heap.IsList a its.toArray:=by obtain⟨z,its,n,r,_,e⟩:=I.lstM h;exact⟨its,r,_,e,rfl,n,rfl⟩
theorem Pb.tupI(I:Pb X E D H s){a:γ}(h:H a=some (.q xs)):∃its:List V',O9 xs its/\s.heap.IsTuple a its.toArray:=by obtain⟨z,its,r,o,b,c,n,d⟩:=I.hok a _ h;exact⟨its,r,o,b,c,n,d⟩
theorem qH2(A:K9):A.in1.units<=A.units+1:=zA3 _
theorem qae3{P:V->V->Nat->Prop}{e:Nat->Bool}{ys:List V}{its its2:List V'}(r:O9 xs its)(a:O9 ys its2)(k:∀i x y u v,xs[i]?=some x->ys[i]?=some y->O8 x u->O8 y v->EqAt A s u v (e i)):∀j (h1:j<its.toArray.size) (h2:j<its2.toArray.size),EqAt A s its.toArray[j] its2.toArray[j] (e j):=by
 intro j h1 h2;rw[zA7] at h1 h2;have h:=r.length;have l:=a.length;obtain⟨u,b,d⟩:=r.get (i:=j) (x:=xs[j]'⋯) (by simp);obtain⟨v,c,f⟩:=a.get (i:=j) (x:=ys[j]'⋯) (by simp);have g:its.toArray[j]=u:=by
  have:its[j]?=some its[j]:=by simp[h1]
  rw[this] at b;simpa using N8 b
 have e2:its2.toArray[j]=v:=by
  have:its2[j]?=some its2[j]:=by simp[h2]
  rw[this] at c;simpa using N8 c
 rw[g,e2];exact k j _ _ u v (by simp) (by simp) d f
theorem EqD.at(I:Pb X E D H s)(h:EqD H n x y b):∀{A:K9}{u v:V'},O8 x u->O8 y v->A.units+n+1<cLine->EqAt A s u v b:=by
 induction h with
 |flat t w=>intro A u v c d _;exact qaS8 c d t w|same a=>intro A u v c d _;cases c;cases d;exact EqAt.same _|@lsts n a b xs ys e ne ha hb hl he ih=>
  intro A u v c d o;cases c;cases d;obtain⟨f,r,p⟩:=I.lstI ha;obtain⟨its2,g,j⟩:=I.lstI hb;have z:f.toArray.size=its2.toArray.size:=by rw[zA7,zA7,<-r.length,<-g.length,hl]
  have q:=EqAt.of_refs ne (RcAt.lists (A:=A) p j z ⋯ (e:=e) (qae3 (P:=λ_ _ _=>True) r g λi x y u v k e2 l m=>ih i x y k e2 l m (by have:=qH2 A;lia)));rw[zA7,<-r.length] at q;exact q
 |@lens n a b xs ys ne ha hb hl=>intro A u v c d o;cases c;cases d;obtain⟨f,r,p⟩:=I.lstI ha;obtain⟨its2,g,j⟩:=I.lstI hb;exact EqAt.of_refs ne (RcAt.lists_lengths p j (by rw[zA7,zA7,<-r.length,<-g.length];simpa using hl) ⋯)|@tups n a b xs ys e ne ha hb he ih=>intro A u v c d o;cases c;cases d;obtain⟨f,r,p⟩:=I.tupI ha;obtain⟨its2,g,j⟩:=I.tupI hb;have q:=EqAt.of_refs ne (RcAt.tuples (A:=A) p j ⋯ (e:=e) (qae3 (P:=λ_ _ _=>True) r g λi x y u v k e2 l m=>ih i x y k e2 l m (by have:=qH2 A;lia)));rw[zA7,zA7,<-r.length,<-g.length] at q;exact q
theorem RcD.at(I:Pb X E D H s)(h:RcD H x y b)(g:O8 x u)(c:O8 y v)(C:A.units+60<cLine):RcAt A s u v b/\RcNeAt A s u v (!b):=by
 cases h with
 |flat q m=>cases x with|non=>(cases g;cases y with|non=>cases c;exact⟨RcAt.none_none,RcNeAt.none_none⟩|bl b=>cases c;exact⟨RcAt.none_bool b,RcNeAt.none_bool b⟩|int b=>obtain⟨t,rfl⟩:=c;exact⟨RcAt.none_int b t,RcNeAt.none_int b t⟩|str b=>obtain⟨t,rfl⟩:=c;exact⟨RcAt.none_str b t,RcNeAt.none_str b t⟩|_=>exact absurd (show false=true from m) zAw)|bl a=>(cases g;cases y with|non=>cases c;exact⟨RcAt.bool_none a,RcNeAt.bool_none a⟩|bl b=>cases c;exact⟨RcAt.bool_bool a b,RcNeAt.bool_bool a b⟩|int b=>obtain⟨t,rfl⟩:=c;exact⟨RcAt.bool_int a b t,RcNeAt.bool_int a b t⟩|str b=>obtain⟨t,rfl⟩:=c;exact⟨RcAt.bool_str a b t,RcNeAt.bool_str a b t⟩|_=>exact absurd (show false=true from m) zAw)|int a=>(obtain⟨d,rfl⟩:=g;cases y with|non=>cases c;exact⟨RcAt.int_none a d,RcNeAt.int_none a d⟩|bl b=>cases c;exact⟨RcAt.int_bool a d b,RcNeAt.int_bool a d b⟩|int b=>obtain⟨t,rfl⟩:=c;exact⟨RcAt.int_int a d b t,RcNeAt.int_int a d b t⟩|str b=>obtain⟨t,rfl⟩:=c;exact⟨RcAt.int_str a d b t,RcNeAt.int_str a d b t⟩|_=>exact absurd (show false=true from m) zAw)|str a=>(obtain⟨d,rfl⟩:=g;cases y with|non=>cases c;exact⟨RcAt.str_none a d,RcNeAt.str_none a d⟩|bl b=>cases c;exact⟨RcAt.str_bool a d b,RcNeAt.str_bool a d b⟩|int b=>obtain⟨t,rfl⟩:=c;exact⟨RcAt.str_int a d b t,RcNeAt.str_int a d b t⟩|str b=>obtain⟨t,rfl⟩:=c;exact⟨RcAt.str_str a d b t,RcNeAt.str_str a d b t⟩|_=>exact absurd (show false=true from m) zAw)|_=>exact absurd (show false=true from q) zAw
 |@lsts a b xs ys e ha hb hl he=>
  cases g;cases c;obtain⟨f,r,p⟩:=I.lstI ha;obtain⟨its2,n,j⟩:=I.lstI hb;have l:f.toArray.size=its2.toArray.size:=by rw[zA7,zA7,<-r.length,<-n.length,hl]
  have k:=qae3 (P:=λ_ _ _=>True) (e:=e) (A:=A.in1) (s:=s) r n λi x y u v w e2 z B=>(he i x y w e2).at I z B (by have:=qH2 A;lia);have o:=RcAt.lists p j l ⋯ k;have q2:=RcNeAt.lists p j l ⋯ k;rw[zA7,<-r.length] at o q2;exact⟨o,q2⟩
 |@lens a b xs ys ha hb hl=>
  cases g;cases c;obtain⟨f,r,p⟩:=I.lstI ha;obtain⟨its2,n,j⟩:=I.lstI hb;have l:(f.toArray.size != its2.toArray.size)=true:=by rw[zA7,zA7,<-r.length,<-n.length];simpa using hl
  exact⟨RcAt.lists_lengths p j l ⋯,RcNeAt.lists_lengths p j l ⋯⟩
end
def rEqD:R2:=λx y H Q=>∃b,RcD H x y b/\Q (.bl b) H
def rNeD:R2:=λx y H Q=>∃b,RcD H x y b/\Q (.bl (!b)) H
theorem qm6(e:X.A.units+64<cLine):OpR X (Kl .Eq) rEqD:=by intro D8 s f H x y v u Q I a c ⟨b,d,q⟩;exact(d.at I a c (A:=X.A) ⋯).1 X.prog X.w X.xe _ ⟨.bl b,H,I,rfl,q⟩
theorem qr1(e:X.A.units+64<cLine):OpR X (Kl .NotEq) rNeD:=by intro D8 s f H x y v u Q I a c ⟨b,d,q⟩;exact(d.at I a c (A:=X.A) ⋯).2 X.prog X.w X.xe _ ⟨.bl (!b),H,I,rfl,q⟩
theorem qC6:∀{x:V},flatV x=true->eqV x x=true:=by intro x h;cases x with|non=>rfl|bl b=>exact zBc b|int b=>exact zBc b|str b=>exact zBc b|_=>exact absurd (show false=true from h) zAw
theorem Room.u64(a:Room k A):A.units+64<cLine:=a.units
end L2
namespace L2
open PySem PySem.Spec PyProof.Rows
section
def gAll(to:TE):TG:=λv a H Q=>to a H λo H1=>∃l b xs ys,o=.ref l/\v=.ref b/\l≠b/\H1 l=some (.l xs)/\H1 b=some (.l ys)/\xs.length+ys.length<=Kk/\Q a (upd H1 l (.l ys))
end
structure Cl(K:Oa)(mg:Str->Option V')(x:Str)(C:γ):Prop where
 cl:Cls K C
 m:mg x=some (.ref C)
structure Md(K:Oa)(C:γ)(m qual:Str)(st:Lc)(f:γ)(fd:ε)(ps:List Str):Prop where
 F:Fun K m qual st f fd
 b:Binds K fd ps []
 me:Ix K C m f
 isf:W.isFn K (.ref f)=true
theorem mdmk{K:Oa}{st:Lc}{kV:V'}(l:K.lookup f=some ⟨oc,o,.func (W.fnOf m qual (qg1 st) (qe1 st) (qa3 st) .none kV d g e b j),n⟩)(c:W.codeIn K b qual=true)(k:W.keepIn K (.ref f)=true)(a:W.findIn K (.ref C) m=some (some (.ref f)))(i:W.isFn K (.ref f)=true)(h:∀(kV d g:V')(e:Option γ)(b j:V')(us:List V'),us.length=ps.length->bindArgs (W.fnOf m qual (qg1 st) (qe1 st) (qa3 st) .none kV d g e b j) ⟨us,[]⟩=pure (ps.zip us)):Md K C m qual st f (W.fnOf m qual (qg1 st) (qe1 st) (qa3 st) .none kV d g e b j) ps:=⟨qas9 l c k,(qas9 l c k).binds h,⟨a,i,k⟩,i⟩
end L2
namespace L2
open PySem PySem.Spec PyProof.Rows
def excIs(e C:γ)(b:Option γ)(c:Bool)(h:Heap):Prop:=∃a vs,h.get? e=some a/\a.cls=.ref C/\a.dict=b/\a.data=.fields vs/\1<vs.size/\(c=true->vs[1]?=some .none)
noncomputable abbrev ExcO(e C:γ)(a:Option γ)(b:Bool):HO:=.ext (excIs e C a b)
def xdIs(d:γ)(fs:List (Str×V))(h:Heap):Prop:=∃mA,h.Ns1 d mA/\(∀f,RelO (fs.lookup f) (mA f))/\PySem.Within mA (fs.map (·.1))/\fs.length<=1000
abbrev XD(d:γ)(fs:List (Str×V)):HO:=.ext (xdIs d fs)
def CX1(_:K8)(_:La):CXT:=λ_ _ _ _ _ _=>False
def Lands(_:Cx)(_:St->XK):Prop:=True
theorem Lands.passes{X:Cx}{E:St->XK}(_:Lands X E):qQ2 (CX1 X.prog X.w) X E:=λ_ _ _ _ _ _ _ q=>q.elim
theorem qa1:Lands X E:=trivial
end L2
namespace L2
open PySem PySem.Spec PyProof.Rows PySem.SeqAt
open PySem.AutoSeq1 (wpAny_loadPart')
theorem Fun.okX{K:Oa}{st:Lc}(F:Fun K x qual st f fd)(S:qa8 N ps (qa3 st))(len:∀vs H Q E,sp vs H Q E->vs.length=ps.length)(hbody:∀(a:V')(A:K9)(outer:List Env)(s:δ)(H:Hp)(vs:List V)(Q:VK)(E:XK),Room k (A.deeper (envOfC qual (qa3 st) s.heap.objs.size f a))->sp vs H Q E->∃t,PSs (Et true (CX1 P w) P w K mg base N qual (qa3 st) f a A outer s H E) (qe1 st) t/\t {nx:=λ_ H'=>Q .non H',rt:=Q} (start N vs) H):Eg P w K mg base (CX1 P w) (k+1) f fd ps sp:=by obtain⟨i,j,kV,d,l,m,a,n,e,rfl,g,b⟩:=F.ex;exact Iz g b S len λA outer s H vs Q E h c=>hbody a A outer s H vs Q E h c
end L2
namespace L2
open PySem PySem.Spec PyProof.Rows
section
variable{X:Cx}{A:List (γ×Obj)}{y:St}{H:Hp}{s:δ}{h':Heap}
theorem Pb.turnedL{ch:List γ}(I:Pb X A y H s)(k:∀b o,b∉ch->s.heap.get? b=some o->h'.get? b=some o)(f:∀b∈ch,F5 X A H b):Pb X A y H {s with heap:=h',toks:=t'}:=by
 have d:∀b u,H b=some u->b∉ch:=λb u e z=>by rw[(f b z).1] at e;cases e
 refine I.step (g':=s.gens) (d':=s.drawn) (ch:=ch) (λb g=>?_) (λb o _ _ a e _=>k b o a e) (λb o _ _ a e _=>⟨o.slots,k b o a e⟩) (λ_ _ _ _ n=>n)
  (λb o a e=>⟨o,k b o a e⟩) (λ_ _ e=>e) (λ_ _ _ e=>e) (λb w e=>⟨#[],by rw[e];simp⟩) (λm h=>?_) (λb u e=>?_) I.bare
 {obtain⟨x,f1,f2,f3,i,j⟩:=f b g;exact⟨f3,f1,i,j⟩};{obtain⟨o,l,p,t,r⟩:=h;exact⟨o,l,p,k _ o (λz=>(f _ z).2.1 rfl) t,r⟩};refine(I.hok b u e).stay (λc v a q=>k c v ?_ q) (λ_ q=>q) λ_ _ q=>q;rcases a with z|z;{rw[z];exact d b u e};exact d c _ z
end
def Ite(K:Oa)(a:γ):It:=⟨λi H=>∃xs x,SqL K H a xs/\xs[i]?=some x,λi H x H'=>∃t y,x=.ref t/\H t=none/\H'=upd H t (.q [.int (i:Int),y])/\∀xs,SqL K H a xs->xs[i]?=some y,λi H=>∃xs,SqL K H a xs/\xs.length<=i⟩
theorem qap1{P:K8}{w:La}{K:Oa}{elts:List Lb}{x1:Nat}{pos:Pos}(a it e:γ)(n:e≠it):Gv P w K (.Tuple elts x1 pos) (Ite K a) [e,it] e (λi h=>(∃d,IsEnum h e it (i:Nat) d)/\h.IsListIter it a i) where
 mem:=by simp
 obj:=λi h f b c=>by
   obtain⟨⟨d,g⟩,o,ho,C,hd⟩:=f;rcases zAh.mp c with rfl|c
   . exact⟨_,g,λv z=>by
       have z':Data.fields _=Data.cell v:=z;cases z'⟩
   rw[zAb.mp c];exact⟨o,ho,λv z=>by rw[hd] at z;cases z⟩
 keep:=λi h Z f k=>by
   obtain⟨⟨d,g⟩,f⟩:=f;exact⟨⟨d,k e (by simp) _ g⟩,f.at λo q=>k it (by simp) o q⟩
 item:=by
   intro X D F G C i D8 s W H E I r f J;subst D F G;obtain⟨xs,x,B,L⟩:=J;obtain⟨⟨d,g⟩,j⟩:=f;obtain⟨M,N,p,hz⟩:=I.list B;obtain⟨u,hu,ru⟩:=N.get L;have O:H s.heap.objs.size=none:=I.hok.fresh (zA3 _);obtain⟨oi,Q,_⟩:=id j;have t:e<s.heap.objs.size:=zAc g;have lt2:it<s.heap.objs.size:=zAc Q;refine wpAny_pyNext_enum_item g j p.isList (x:=u) (by simpa using hu) n λh1 R y S a0 T=>?_
   refine⟨_,rfl,wpAny_letOwnedTupleGo_enum (s:={s with heap:=h1,toks:=s.toks+1}) R λU V l=>?_⟩
   replace l:Heap.SameBut e h1 U:=l
   have I0:Pb X D8 W (upd H s.heap.objs.size (.q [.int (i:Int),x])) {s with heap:=s.heap.push {cls:=.type "tuple",data:=.seq #[.int i s.toks,u]},toks:=s.toks+1}:=I.laid (λb o q=>zA2 _ q) (zA3 _) ⟨by show 2<=Kk;decide,[.int i s.toks,u],.cons ⟨_,rfl⟩ (.cons ru .nil),⟨_,zAp _ rfl,rfl,_,rfl⟩⟩
   have I2:Pb X D8 W (upd H s.heap.objs.size (.q [.int (i:Int),x])) {s with heap:=U,toks:=s.toks+1}:=by
     refine Pb.turnedL (s:={s with heap:=s.heap.push {cls:=.type "tuple",data:=.seq #[.int i s.toks,u]},toks:=s.toks+1}) (h':=U) (ch:=[e,it]) (t':=s.toks+1) I0 (λb o c q=>?_) (λb c=>?_)
     . have A:b≠e:=λz=>c (by simp[z])
       have Y:b≠it:=λz=>c (by simp[z])
       refine l.extBut b o A ?_;rcases Heap.get?_push_cases (show (s.heap.push {cls:=.type "tuple",data:=.seq #[.int i s.toks,u]}).get? b=some o from q) with⟨rfl,rfl⟩|q
       . exact S
       exact T b o A Y q
     refine⟨?_,(r b c).2⟩;have m:b<s.heap.objs.size:=by
       rcases zAh.mp c with rfl|c
       . exact t
       rw[zAb.mp c];exact lt2
     rw[qd6 (zAu m)];exact(r b c).1
   refine⟨.ref s.heap.objs.size,_,I2,rfl,⟨_,x,rfl,O,rfl,λys hy=>by rw[I.list_inj hy B];exact L⟩,⟨⟨u,?_⟩,?_⟩,λb c=>?_⟩
   . have:((i+1:Nat):Int)=(i:Int)+1:=by push_cast;rfl
     rw[this];exact V
   . exact y.extBut l.extBut (Ne.symm n)
   have m:b<s.heap.objs.size:=by
     rcases zAh.mp c with rfl|c
     . exact t
     rw[zAb.mp c];exact lt2
   rw[qd6 (zAu m)];exact(r b c).1
 done:=by
   intro X D F G C i D8 s W H E I r f J;subst D F G;obtain⟨xs,B,L⟩:=J;obtain⟨⟨d,g⟩,j⟩:=f;obtain⟨M,N,p,hz⟩:=I.list B;obtain⟨f0,f1,f2,f3,f4,f5⟩:=r it (by simp);have hl:=N.length;exact wpAny_pyNext_enum_end (I.ok.hd C) g j p.isList (by simp;lia) λZ eb=>⟨rfl,I.turned (t':=s.toks) (λb o c q=>eb b o c q) f0 f1 f3 f4 f5⟩
 self:=λ_ _ _ _ _ f h=>by
   obtain⟨⟨d,g⟩,_⟩:=f;exact wpAny_pyIter_enum g h
section
variable{X:Cx}
def iEnum(K:Oa)(ta:TA):TI:=λJ H R=>ta J H λvs H1=>∃a,vs=[.ref a]/\(∃xs,SqL K H1 a xs)/\R (Ite K a) H1
theorem qaM9(k:Gl X "enumerate")(hm:X.mg "enumerate"=none)(m:PA X [l] ta)(n:Kj [l] X.env=[(false,eval l X.env)]:=by rfl):PI X (.Tuple elts j tpos) (.Call (.Name "enumerate" p) [l] [] pos) (iEnum X.K ta):=by
 intro D8 s J H R I h;refine Call_ (qO4 I k hm boot_enumerate (PyProof.Rows.callWith_type1 (thn (m pos D8 s J H _ I h) λB c f=>?_) n rfl));obtain⟨C,H1,I1,o,t⟩:=f;obtain⟨a,e,⟨D,u⟩,q⟩:=t;subst e;cases o with
 |cons r v=>
  cases v;cases r;obtain⟨w,E,x,F⟩:=I1.list u;refine call_enumerate_list x.isList λG i y z A=>?_;refine wpAny_pyIter_enum i ?_;refine⟨c.heap.objs.size+1,[c.heap.objs.size+1,c.heap.objs.size],_,_,H1,rfl,I1.kept (t':=c.toks) A,qap1 a c.heap.objs.size (c.heap.objs.size+1) (Nat.succ_ne_self _),⟨⟨_,i⟩,y⟩,λb g=>?_,q⟩;have d:c.heap.objs.size<=b:=by rcases zAh.mp g with rfl|g;{exact Nat.le_succ _};rw[zAb.mp g];exact zA3 _
  exact I1.fpOk d (I1.hok.fresh d)
end
section
variable{X:Cx}
def qaL8:V->List V->Hp->VK->Prop:=λx vs H Q=>∃l xs y j z,x=.ref l/\vs=[y]/\H l=some (.l xs)/\flatV y=true/\xs.all flatV=true/\xs[j]?=some z/\eqV z y=true/\(∀m z',m<j->xs[m]?=some z'->eqV z' y=false)/\Q (.int (j:Nat)) H
theorem O9.getU(r:O9 xs us){j:Nat}(h:us[j]?=some u):∃x,xs[j]?=some x/\O8 x u:=by have c:=r.length;have d:j<us.length:=(zA4.mp h).1;obtain⟨e,a,b⟩:=r.get (show xs[j]?=some xs[j] by simp);rw[h] at a;cases a;exact⟨_,by simp,b⟩
theorem qU1:MtM X "list.index" qaL8:=by
 intro D8 s S H x N v O Q I f C h;obtain⟨l,p,y,j,P,rfl,rfl,D,E,t,A,g,i,q⟩:=h;cases f;obtain⟨u,rfl,G⟩:=C.one;obtain⟨z,a,n,r,R,e⟩:=I.lstM D;have J:j<p.length:=(zA4.mp A).1;have B:=r.length;have small:((j:Nat):Int)<2 ^ 63-1:=by have:Kk<2 ^ 62:=∅;lia
 have eqAt:∀m (d:m<a.toArray.size),∃x,p[m]?=some x/\eqU y a.toArray[m]=eqV x y:=λm d=>by
  have K:m<a.length:=by simpa using d
  obtain⟨x,b,f⟩:=r.getU (show a[m]?=some a[m] by simp);have L:flatV x=true:=zBi.mp t x (zB0 b);refine⟨x,b,?_⟩;have:=qat5 (x:=y) f L;simpa using this
 have c:j<a.toArray.size:=by simp;lia
 refine Kz Oh ⟨_,e,rfl⟩ F.entry_list_index (F.args_list_index_2 _ _) (SeqAt.list_indexAt l a.toArray n none #[] u (eqU y) j c small ?_ ?_) ⟨e,λw M=>qr4 G E r t w (by simpa using M),⟨.int (j:Nat),H,I.tok _,⟨_,rfl⟩,q⟩⟩;{obtain⟨x,b,k⟩:=eqAt j c;rw[A] at b;cases b;rw[k];exact g};intro m d o;obtain⟨x,b,k⟩:=eqAt m d;rw[k];exact i m x o b
def qaM0:V->List V->Hp->VK->Prop:=λx vs H Q=>∃l xs y,x=.ref l/\vs=[y]/\H l=some (.l xs)/\flatV y=true/\xs.all flatV=true/\Q (.int (xs.countP (λz=>eqV z y):Nat)) H
theorem qZ5{x:V}:∀{xs:List V}{us:List V'},O9 xs us->xs.all flatV=true->us.countP (eqU x)=xs.countP λy=>eqV y x|_,_,.nil,_=>rfl|y::xs,u::us,.cons r t,f=>by rw[Ly,zBq] at f;rw[Nh,Nh,qat5 r f.1,qZ5 t f.2]
theorem qaF0:MtM X "list.count" qaM0:=by intro D8 s S H x k v m Q I c d h;obtain⟨l,o,y,rfl,rfl,f,g,b,q⟩:=h;cases c;obtain⟨u,rfl,i⟩:=d.one;obtain⟨z,a,n,r,p,e⟩:=I.lstM f;refine Kz Oo ⟨_,e,rfl⟩ F.entry_list_count (F.args_list_count_2 _ _) (SeqAt.list_countAt l a.toArray n none #[] u (eqU y)) ⟨e,λw j=>qr4 i g r b w (by simpa using j),⟨.int _,H,I.tok _,⟨_,rfl⟩,?_⟩⟩;rw[show a.toArray.toList.countP (eqU y)=a.countP (eqU y) by simp,qZ5 r b];exact q
end
theorem qau3{K:Oa}(Pv:Nat->St->Hp->Prop)(c:Pv 0 u H)(d:∀i u H,i<=xs.length->Pv i u H->SqL K H a xs)(f:∀(i:Nat) x u H t,xs[i]?=some x->Pv i u H->H t=none->g (.ref t) u (upd H t (.q [.int (i:Int),x])) λσ2 H2=>tf σ2 H2 λh H3=>if h=true then te σ2 H3 λv H4=>∃ys,H4 D=some (.l ys)/\ys.length<Kk/\Pv (i+1) σ2 (upd H4 D (.l (ys++[v]))) else Pv (i+1) σ2 H3)(j:∀u H,Pv xs.length u H->R H):qD1 (Ite K a) g tf te D R u H:=by refine⟨λi m u H=>m=xs.length-i/\i<=xs.length/\Pv i u H,⟨xs.length,by simp,zBo _,c⟩,?_⟩;rintro i m u H ⟨rfl,k,p⟩;have q:=d i u H k p;by_cases b:i<xs.length;{refine .inr ⟨⟨xs,xs[i],q,by simp[b]⟩,Pv (i+1),λu' H' l=>⟨xs.length-(i+1),⋯,rfl,b,l⟩,λx H' y=>?_⟩;obtain⟨t,n,e,o,r,s⟩:=y;subst e r;exact f i n u _ t (s xs q) p o};have e:i=xs.length:=⋯;subst e;exact .inl ⟨⟨xs,q,zA3 _⟩,j u H p⟩
end L2
namespace L2
open PySem PySem.Spec PyProof.Rows
noncomputable def qaF9:List String:=["NoneType", "bool", "int", "str", "list", "tuple", "dict"]
structure IsO(K:Oa)(C:γ):Prop where
 ca:W.findIn K (.ref C) "__class__"=some (some (.builtin "object.__class__"))
 cn:W.specialIn K (.builtin "object.__class__") "__get__"=some (some (.builtin "getset_descriptor.__get__"))
 ct:W.takesIn K (.builtin "object.__class__")=some true
 cm:W.mroIn K C (.type "object")=some true
 kf:∀t∈qaF9,Ob K (.type t) (.ref C)=some false
theorem kf_of{K:Oa}(h1:Ob K (.type "NoneType") (.ref C)=some false)(h2:Ob K (.type "bool") (.ref C)=some false)(b:Ob K (.type "int") (.ref C)=some false)(c:Ob K (.type "str") (.ref C)=some false)(d:Ob K (.type "list") (.ref C)=some false)(e:Ob K (.type "tuple") (.ref C)=some false)(f:Ob K (.type "dict") (.ref C)=some false):∀t∈qaF9,Ob K (.type t) (.ref C)=some false:=by intro t a;unfold qaF9 at a;simp only[zAh,zBg,zCv] at a;rcases a with rfl|rfl|rfl|rfl|rfl|rfl|rfl<;>assumption
section
variable{X:Cx}
def rIsO(C:γ):List V->Hp->VK->Prop:=λxs H Q=>∃x,xs=[x,.ref C]/\((∃a dx fs,x=.ref a/\H a=some (.ins C dx fs)/\Q (.bl true) H)∨(∃t,Bn H x=some t/\Q (.bl false) H))
theorem qaI7(b:IsO X.K C)(g:Cls X.K C):CallR X (.builtin "isinstance") (rIsO C):=by
 intro D8 s m H j k Q I r h;obtain⟨x,rfl,h⟩:=h;obtain⟨u,l,rfl,f,c⟩:=G8 r;cases c;rcases h with⟨a,dx,fs,rfl,ha,q⟩|⟨t,hk,q⟩
 .have e:Ob X.K (.ref C) (.ref C)=some true:=by unfold Ob;rw[if_pos (by simp)]
  exact qJ6 I f (.ins ha g b.ca b.cn b.ct b.cm) e λd=>⟨.bl true,H,I.tok d,rfl,q⟩
 obtain⟨ty,i⟩:=qak8 (K:=X.K) hk;exact qJ6 I f ty (b.kf t i) λd=>⟨.bl false,H,I.tok d,rfl,q⟩
theorem qaW8(C:γ)(hm:X.mg x=some (.ref C))(a:Gl X x:=by rfl)(b:N' x:=by decide):PE X (.Name x pos) (tC (.ref C)):=qax9 a hm rfl b
end
end L2
namespace Row
variable{a i j q s t:Nat}{g':Nat->Option Int}{x y:Int}
noncomputable def Aa(n h r:Nat):Nat:=if h<=r then r-h else r+n-h
noncomputable def prev(n r:Nat):Nat:=if r=0 then n-1 else r-1
noncomputable def next(n r:Nat):Nat:=if r+1=n then 0 else r+1
def ahead(n:Nat)(hm:Int->Nat)(r:Nat)(x y:Int):Prop:=Aa n (hm y) r<Aa n (hm x) r∨(Aa n (hm x) r=Aa n (hm y) r/\x<y)
theorem qw5(h:ahead n hm r x y)(h':ahead n hm r y z):ahead n hm r x z:=by unfold ahead at *;lia
theorem qQ1(h:ahead n hm r x y)(h':ahead n hm r y x):False:=by unfold ahead at *;lia
theorem qav5(h:ahead n hm r x x):False:=qQ1 h h
theorem qav4(h:x≠y)(h':¬ahead n hm r x y):ahead n hm r y x:=by unfold ahead at *;lia
theorem qm4(h:r<n):next n r<n:=by unfold next;split<;>lia
theorem qp5(h:r<n):prev n r<n:=by unfold prev;split<;>lia
theorem ql3(h:r<n):prev n (next n r)=r:=by unfold prev next;split<;>split<;>lia
theorem qI9(h:r<n):next n (prev n r)=r:=by unfold prev next;split<;>split<;>lia
theorem qj1(h:r<n)(b:a<n):Aa n a r<n:=by unfold Aa;split<;>lia
theorem qj7(b:a<n)(h:r<n)(h':s<n)(e:Aa n a r=Aa n a s):r=s:=by unfold Aa at e;split at e<;>split at e<;>lia
theorem qc2(b:a<n)(h:r<n):Aa n a r=0↔r=a:=by unfold Aa;split<;>lia
theorem qe6(c:a<n)(h:r<n)(b:0<Aa n a r):Aa n a (prev n r)=Aa n a r-1:=by unfold Aa prev at *;split at b<;>split<;>split<;>lia
theorem qm1(c:a<n)(h:r<n)(b:Aa n a r+1<n):Aa n a (next n r)=Aa n a r+1:=by unfold Aa next at *;split at b<;>split<;>split<;>lia
theorem nor(n s:Nat):(s+1=n/\next n s=0)∨(s+1≠n/\next n s=s+1):=by unfold next;split<;>lia
theorem por(n s:Nat):(s=0/\prev n s=n-1)∨(s≠0/\prev n s=s-1):=by unfold prev;split<;>lia
theorem dor(n a r:Nat):(a<=r/\Aa n a r+a=r)∨(r<a/\(a<=r+n->Aa n a r+a=r+n)):=by unfold Aa;split<;>lia
theorem Ea(b:a<n)(hi:i<n)(c:s<n)(h:Aa n a i<=Aa n a s):Aa n a i+Aa n i s=Aa n a s:=by have d:=dor n a i;have e:=dor n a s;have f:=dor n i s;lia
theorem Ht(b:a<n)(c:s<n)(d:t<n)(h:Aa n a s<Aa n a t):Aa n t s+Aa n a t=n+Aa n a s:=by have e:=dor n a s;have f:=dor n a t;have g:=dor n t s;lia
theorem qbb5(a:s<n):Aa n (next n s) s+1=n:=by have b:=dor n (next n s) s;have c:=nor n s;lia
theorem qat9(f:a<n)(c:b<n)(d:j<n)(hi:i<n)(h1:Aa n a i<=Aa n a j)(h2:Aa n a j<=Aa n b j):Aa n b i+(Aa n a j-Aa n a i)=Aa n b j:=by have g:=Ea f hi d h1;have h:=qj1 hi c;rcases Nat.lt_or_ge (Aa n b j) (Aa n b i) with e|e;{have:=Ht c d hi e;lia};have:=Ea c hi d e;lia
structure Ord(n:Nat)(hm:Int->Nat)(g:Nat->Option Int):Prop where
 home:∀k,hm k<n
 inj:∀i j k,i<n->j<n->g i=some k->g j=some k->i=j
 ord:∀i k,i<n->g i=some k->0<Aa n (hm k) i->∃x,g (prev n i)=some x/\ahead n hm (prev n i) x k
def Hu(n:Nat)(hm:Int->Nat)(g:Nat->Option Int):Prop:=∃i,i<n/\∀k,g i=some k->hm k=i
theorem Ord.path(O:Ord n hm g):∀(m j i:Nat)(z:Int),j<n->i<n->g j=some z->Aa n (hm z) i+m+1=Aa n (hm z) j->∃x,g i=some x/\ahead n hm i x z
 |0,j,i,z,hj,hi,hz,e=>by have a:0<Aa n (hm z) j:=⋯;obtain⟨x,b,c⟩:=O.ord j z hj hz a;have:=qe6 (O.home z) hj a;have f:i=prev n j:=qj7 (O.home z) hi (qp5 hj) ⋯;rw[f];exact⟨x,b,c⟩|m+1,j,i,z,hj,hi,hz,e=>by
  have a:0<Aa n (hm z) j:=⋯;obtain⟨x,b,c⟩:=O.ord j z hj hz a;have o:=qe6 (O.home z) hj a;have d:=qp5 hj;have h:Aa n (hm z) (prev n j)<=Aa n (hm x) (prev n j):=by unfold ahead at c;lia
  have p:=qat9 (O.home z) (O.home x) d hi ⋯ h;obtain⟨y,k,l⟩:=O.path m (prev n j) i x d hi b ⋯;refine⟨y,k,qw5 l ?_⟩;unfold ahead at *;lia
theorem Ord.path'(O:Ord n hm g)(a:j<n)(hi:i<n)(b:g j=some z)(h:Aa n (hm z) i<Aa n (hm z) j):∃x,g i=some x/\ahead n hm i x z:=O.path (Aa n (hm z) j-Aa n (hm z) i-1) j i z a hi b ⋯
def Fg(n:Nat)(hm:Int->Nat)(g:Nat->Option Int)(s:Nat):Prop:=∀j z,j<n->g j=some z->Aa n (hm z) j<=Aa n (hm z) s
theorem Ord.zero(O:Ord n hm g)(C:Hu n hm g):∃s,s<n/\Fg n hm g s:=by
 obtain⟨i,b,h⟩:=C;have l:=qp5 b;refine⟨prev n i,l,λj z c k=>zCc λm=>?_⟩;have a:=O.home z;by_cases d:Aa n (hm z) i=0
 .have e:=(qc2 a b).mp d;have:=qj1 c a;have e2:Aa n (hm z) (prev n i)=n-1:=by
   unfold Aa prev at *
   split<;>split<;>lia
  lia
 have q:=qe6 a b ⋯;by_cases f:Aa n (hm z) i=Aa n (hm z) j;{have e:i=j:=qj7 a b c f;subst e;have:=h z k;rw[this,(qc2 b b).mpr rfl] at d;exact d rfl};obtain⟨x,o,p⟩:=O.path' c b k ⋯;have e:=h x o;have:Aa n (hm x) i=0:=(qc2 (O.home x) b).mpr e.symm;unfold ahead at p;lia
theorem qY9{α:Type}[DecidableEq α](x:α):∀(S:List α),S.Nodup->S.length<=(S.filter (λy=>decide (y≠x))).length+1
 |[],_=>by simp|a::S,h=>by
  have b:=zCn.mp h;by_cases e:a=x
  .subst e;have:S.filter (λy=>decide (y≠a))=S:=List.filter_eq_self.mpr λy c=>by simp only[ne_eq,zBd];intro z;subst z;exact b.1 c
   rw[L8 (by simp),this];simp
  rw[L9 (by simpa using e)];have:=qY9 x S b.2;simp only[zAn];lia
theorem qs2{α:Type}[DecidableEq α](x:α):∀(S:List α),x∈S->(S.filter (λy=>decide (y≠x))).length+1<=S.length|[],h=>by simp at h|a::S,h=>by by_cases e:a=x;{rw[L8 (by simp[e])];have:=Lw (λy=>decide (y≠x)) S;simp only[zAn];lia};rw[L9 (by simpa using e)];have:=qs2 x S (by rcases zAh.mp h with z|z;exact absurd z.symm e;exact z);simp only[zAn];lia
theorem qF8{g:Nat->Option Int}:∀(L:List Nat)(S:List Int),S.Nodup->(∀k∈S,∃i∈L,g i=some k)->S.length<=L.length
 |[],S,_,h=>by cases S with|nil=>simp|cons k _=>obtain⟨i,f,_⟩:=h k (by simp);simp at f
 |i::L,S,hn,h=>by
  cases d:g i with
  |none=>
   have:=qF8 L S hn λk a=>by obtain⟨j,c,e⟩:=h k a;rcases zAh.mp c with z|z;{rw[z,d] at e;cases e};exact⟨j,z,e⟩
   simp only[zAn];lia
  |some x=>
   have m:=qF8 L (S.filter (λy=>decide (y≠x))) (hn.filter _) λk a=>by obtain⟨a,b⟩:=zAt.mp a;obtain⟨j,c,e⟩:=h k a;rcases zAh.mp c with z|z;{rw[z,d] at e;have l:x=k:=N8 e;rw[l] at b;simp at b};exact⟨j,z,e⟩
   have n:=qY9 x S hn;simp only[zAn];lia
theorem qX0{g:Nat->Option Int}:∀(L:List Nat)(S:List Int),L.Nodup->(∀i∈L,∃k∈S,g i=some k)->(∀i∈L,∀j∈L,∀k,g i=some k->g j=some k->i=j)->L.length<=S.length|[],S,_,_,_=>by simp|i::L,S,c,h,inj=>by obtain⟨x,f,l⟩:=h i (by simp);have c:=zCn.mp c;have p:=qX0 L (S.filter (λy=>decide (y≠x))) c.2 (λj d=>by obtain⟨k,m,e⟩:=h j (zA9 _ d);refine⟨k,zAt.mpr ⟨m,?_⟩,e⟩;simp only[ne_eq,zBd];intro z;subst z;have:=inj i (by simp) j (zA9 _ d) k l e;exact c.1 (this ▸ d)) λa n b o=>inj a (zA9 _ n) b (zA9 _ o);have q:=qs2 x S f;simp only[zAn];lia
def Holds(n:Nat)(g:Nat->Option Int)(S:List Int):Prop:=S.Nodup/\∀k,k∈S↔∃i,i<n/\g i=some k
theorem qao7(O:Ord n hm g)(O':Ord n hm g')(C':Hu n hm g')(J:Holds n g S)(w:Holds n g' S)(p:s<n)(Z:Fg n hm g s):Fg n hm g' s:=by
 obtain⟨K,F,Z'⟩:=O'.zero C';intro j z B q;refine zCc λv=>?_;have R:∀m,(∃t,t<n/\Aa n t s<=m/\Fg n hm g' t)->∃t,t<n/\Fg n hm g' t/\∀u,u<n->Aa n u s<Aa n t s->¬Fg n hm g' u:=by intro m;induction m with|zero=>rintro⟨t,l,T,q⟩;exact⟨t,l,q,λu _ h=>absurd h ⋯⟩|succ m U=>rintro⟨t,l,T,q⟩;by_cases L:∃u,u<n/\Aa n u s<=m/\Fg n hm g' u;{exact U L};exact⟨t,l,q,λu V h W=>L ⟨u,V,⋯,W⟩⟩
 obtain⟨t,l,Zt,near⟩:=R (Aa n K s) ⟨K,F,zA3 _,Z'⟩;let d:Nat->Bool:=λr=>decide (Aa n r s<Aa n t s)
 have arcOf:∀r,d r=true↔Aa n r s<Aa n t s:=λr=>decide_eq_true_iff;have o:=O'.home z;have M:=Zt j z B q;have Dz:Aa n (hm z) s<Aa n t s:=by have G:=Ht o p l (zAk v M);have e2:=qj1 l o;lia
 have Dj:¬Aa n j s<Aa n t s:=by have G:=Ht o p l (zAk v M);have e2:=Ht o p B v;lia
 have X:z∈S.filter (λk=>d (hm k)):=zAt.mpr ⟨(w.2 z).mpr ⟨j,B,q⟩,(arcOf _).mpr Dz⟩;have p1:(S.filter (λk=>d (hm k))).length<=((Lr n).filter d).length:=by refine qF8 (g:=g) _ _ (J.1.filter _) λk H=>?_;obtain⟨H,N⟩:=zAt.mp H;obtain⟨i,c,P⟩:=(J.2 k).mp H;have N:=(arcOf _).mp N;have Y:=Z i k c P;have f:=O.home k;refine⟨i,zAt.mpr ⟨zAq.mpr c,(arcOf _).mpr ?_⟩,P⟩;have G:=Ea f c p Y;lia
 have p2:((Lr n).filter d).length<=((S.filter (λk=>d (hm k))).filter (λy=>decide (y≠z))).length:=by
  refine qX0 (g:=g') _ _ (List.nodup_range.filter _) (λi c=>?_) λa ha b hb k=>O'.inj a b k (zAq.mp (zAt.mp ha).1) (zAq.mp (zAt.mp hb).1);obtain⟨c,C⟩:=zAt.mp c;have c:=zAq.mp c;have C:=(arcOf _).mp C;have nz:=near i c C;obtain⟨k,D⟩:∃k,g' i=some k:=by cases e:g' i with|some k=>exact⟨k,rfl⟩|none=>refine absurd (λj' y I hy=>zCc λA=>?_) nz;obtain⟨x,Q,_⟩:=O'.path' I c hy A;rw[e] at Q;cases Q
  have ki:=Zt i k c D;have f:=O'.home k;refine⟨k,zAt.mpr ⟨zAt.mpr ⟨(w.2 k).mpr ⟨i,c,D⟩,(arcOf _).mpr ?_⟩,?_⟩,D⟩;{have l1:=qj1 l f;rcases Nat.lt_or_ge (Aa n (hm k) s) (Aa n (hm k) t) with E|E;{have:=Ht f p l E;lia};have G:=Ea f l p E;have e2:=Ea f c p (zAl ki E);lia};simp only[ne_eq,zBd];intro e;subst e;have:=O'.inj i j k c B D q;subst this;exact Dj C
 have p3:=qs2 z _ X;lia
theorem qao3(O:Ord n hm g)(O':Ord n hm g')(z:Holds n g S)(l:Holds n g' S)(t:s<n)(Z:Fg n hm g s)(Z':Fg n hm g' s)(c:j<n)(A:∀i,i<n->Aa n (next n s) i<Aa n (next n s) j->g i=g' i)(m:g j=some x):g' j=some x:=by
 have a:=qm4 t;have pos:∀{f:Nat->Option Int},Fg n hm f s->∀{i k},i<n->f i=some k->Aa n (next n s) (hm k)<=Aa n (next n s) i:=λ{f} Zf {i k} h D=>by have u:=Zf i k h D;have b:=O.home k;have P:=qbb5 t;have Q:=qj1 b a;have E:=Ea a b t ⋯;refine zCc λF=>?_;have e2:=Ht a h b F;lia
 have o:∀{i k},i<n->Aa n (next n s) (hm k)<=Aa n (next n s) j->Aa n (next n s) j<Aa n (next n s) i->Aa n (hm k) j<Aa n (hm k) i:=λ{i k} h u G=>by have b:=O.home k;have E:=Ea a b c u;have e2:=Ea a b h (zAl u (zBl G));lia
 obtain⟨p,d,q⟩:=(l.2 x).mp ((z.2 x).mpr ⟨j,c,m⟩);have H:=pos Z c m;by_cases I:Aa n (next n s) p<Aa n (next n s) j;{have e:=A p d I;rw[q] at e;have:=O.inj p j x d c e m;subst this;exact q};by_cases J:Aa n (next n s) p=Aa n (next n s) j;{have e:=qj7 a d c J;subst e;exact q};exfalso;obtain⟨y,v,B⟩:=O'.path' d c q (o d H ⋯);obtain⟨i,h,r⟩:=(z.2 y).mp ((l.2 y).mpr ⟨j,c,v⟩);have K:=pos Z' c v;by_cases L:Aa n (next n s) i<Aa n (next n s) j;{have e:=A i h L;rw[r] at e;have:=O'.inj i j y h c e.symm v;subst this;lia};by_cases M:Aa n (next n s) i=Aa n (next n s) j;{have e:=qj7 a h c M;subst e;rw[m] at r;cases r;exact qav5 B};obtain⟨w,C,N⟩:=O.path' h c r (o h K ⋯);rw[m] at C;cases C;exact qQ1 B N
theorem qaE3(O:Ord n hm g)(O':Ord n hm g')(C:Hu n hm g)(C':Hu n hm g')(d:Holds n g S)(a:Holds n g' S):∀j,j<n->g j=g' j:=by
 obtain⟨s,f,Z⟩:=O.zero C;have Z':=qao7 O O' C' d a f Z;have main:∀m j,j<n->Aa n (next n s) j<m->g j=g' j:=by intro m;induction m with|zero=>intro j _ h;exact absurd h ⋯|succ m l=>intro j c p;have b:∀i,i<n->Aa n (next n s) i<Aa n (next n s) j->g i=g' i:=λi k h=>l i k ⋯;cases e:g j with|some x=>exact(qao3 O O' d a f Z Z' c b e).symm|none=>cases o:g' j with|none=>rfl|some y=>have:=qao3 O' O a d f Z' Z c (λi k h=>(b i k h).symm) o;rw[e] at this;cases this
 exact λj c=>main _ j c (Nat.lt_succ_self _)
noncomputable def set(g:Nat->Option Int)(r:Nat)(c:Int):Nat->Option Int:=λj=>if j=r then some c else g j
theorem qc3:set g r c r=some c:=by unfold set;rw[if_pos rfl]
theorem qe2(h:j≠r):set g r c j=g j:=by unfold set;rw[if_neg h]
structure Walk(n:Nat)(wr:Bool)(hm:Int->Nat)(T:List Int)(k:Int)(e:Nat)(g:Nat->Option Int)(c:Int)(r:Nat):Prop where
 o:Ord n hm g
 nin:∀i,i<n->g i≠some c
 hr:r<n
 pth:∀j,j<n->Aa n (hm c) j<Aa n (hm c) r->∃x,g j=some x/\ahead n hm j x c
 he:e<n
 ge:g e=none
 lim:Aa n (hm k) r<=Aa n (hm k) e
 all:∀x,x∈T↔(x=c∨∃i,i<n/\g i=some x)
 ln:wr=false->hm k<=e/\hm c<=r/\∀i x,i<n->g i=some x->hm x<=i
section
variable{n:Nat}{wr:Bool}{hm:Int->Nat}{T:List Int}{k:Int}{e:Nat}{g:Nat->Option Int}{c:Int}{r:Nat}
theorem Walk.lt(W:Walk n wr hm T k e g c r)(a:g r=some y):Aa n (hm k) r<Aa n (hm k) e:=by
 have b:=W.lim;have:r≠e:=λz=>by have:=W.ge;rw[<-z,a] at this;cases this
 have d:Aa n (hm k) r≠Aa n (hm k) e:=λz=>this (qj7 (W.o.home k) W.hr W.he z);lia
theorem Walk.nx(W:Walk n wr hm T k e g c r)(a:g r=some y):Aa n (hm k) (next n r)=Aa n (hm k) r+1:=by have b:=W.lt a;have d:=qj1 W.he (W.o.home k);exact qm1 (W.o.home k) W.hr ⋯
theorem way(a:hm x<n)(c:j<n)(b:e<n)(d:g e=none)(f:∀i,i<n->Aa n (hm x) i<=Aa n (hm x) j->∃y,g i=some y):Aa n (hm x) j+1<n:=by have k:=qj1 c a;have l:=qj1 b a;by_cases h:Aa n (hm x) e<=Aa n (hm x) j;{obtain⟨y,q⟩:=f e b h;rw[d] at q;cases q};lia
theorem Walk.on(W:Walk n wr hm T k e g c r)(a:g r=some y)(h:¬ahead n hm r c y):Walk n wr hm T k e g c (next n r):=by
 have v:=W.nx a;have A:=W.lt a;have b:=W.o.home c;have l:c≠y:=λz=>W.nin r W.hr (by rw[z];exact a);have w:Aa n (hm c) r+1<n:=way (g:=g) b W.hr W.he W.ge λi d m=>by by_cases q:Aa n (hm c) i=Aa n (hm c) r;{rw[qj7 b d W.hr q];exact⟨y,a⟩};obtain⟨x,p,_⟩:=W.pth i d ⋯;exact⟨x,p⟩
 have B:=qm1 b W.hr w;refine⟨W.o,W.nin,qm4 W.hr,λj f m=>?_,W.he,W.ge,⋯,W.all,λs=>?_⟩;{by_cases q:Aa n (hm c) j=Aa n (hm c) r;{rw[qj7 b f W.hr q];exact⟨y,a,qav4 l h⟩};exact W.pth j f ⋯};obtain⟨t,C,u⟩:=W.ln s;refine⟨t,?_,u⟩;have D:=dor n (hm k) r;have E:=dor n (hm k) e;have F:=nor n r;have:=W.hr;have:=W.he;have:=W.o.home k;lia
theorem Walk.swap(W:Walk n wr hm T k e g c r)(l:g r=some y)(h:ahead n hm r c y):Walk n wr hm T k e (set g r c) y (next n r):=by
 have J:=W.nx l;have K:=W.lt l;have D:=W.o.home c;have m:=W.o.home y;have E:c≠y:=λz=>W.nin r W.hr (by rw[z];exact l);have F:e≠r:=λz=>by have:=W.ge;rw[z,l] at this;cases this
 have w:Aa n (hm y) r+1<n:=way (g:=g) m W.hr W.he W.ge λi f u=>by by_cases q:Aa n (hm y) i=Aa n (hm y) r;{rw[qj7 m f W.hr q];exact⟨y,l⟩};obtain⟨x,s,_⟩:=W.o.path' W.hr f l ⋯;exact⟨x,s⟩
 have L:=qm1 m W.hr w;refine⟨⟨W.o.home,λi j x f t a p=>?_,λi x f a u=>?_⟩,λi f a=>?_,qm4 W.hr,λj t u=>?_,W.he,by rw[qe2 F];exact W.ge,⋯,λx=>?_,λG=>?_⟩;{by_cases b:i=r;{by_cases e2:j=r;{rw[b,e2]};rw[b,qc3] at a;rw[qe2 e2] at p;cases a;exact absurd p (W.nin j t)};rw[qe2 b] at a;by_cases e2:j=r;{rw[e2,qc3] at p;cases p;exact absurd a (W.nin i f)};rw[qe2 e2] at p;exact W.o.inj i j x f t a p}
 .have H:=qp5 f;by_cases b:i=r
  .subst b;rw[qc3] at a;cases a;have d:=qe6 D f u;obtain⟨x,s,A⟩:=W.pth (prev n i) H ⋯;have:prev n i≠i:=λz=>by rw[z] at d;lia
   exact⟨x,by rw[qe2 this];exact s,A⟩
  rw[qe2 b] at a;obtain⟨z,v,B⟩:=W.o.ord i x f a u;by_cases e2:prev n i=r;{rw[e2] at v B ⊢;rw[l] at v;cases v;exact⟨c,qc3,qw5 h B⟩};exact⟨z,by rw[qe2 e2];exact v,B⟩
 {by_cases b:i=r;{rw[b,qc3] at a;exact E (N8 a)};rw[qe2 b] at a;exact b (W.o.inj i r y f W.hr a l)};{by_cases q:Aa n (hm y) j=Aa n (hm y) r;{rw[qj7 m t W.hr q];exact⟨c,qc3,h⟩};obtain⟨x,s,A⟩:=W.o.path' W.hr t l ⋯;have:j≠r:=λz=>q (by rw[z]);exact⟨x,by rw[qe2 this];exact s,A⟩};{rw[W.all x];constructor;{rintro (z|⟨i,f,a⟩);{exact .inr ⟨r,W.hr,by rw[z];exact qc3⟩};by_cases b:i=r;{rw[b,l] at a;exact .inl (N8 a).symm};exact .inr ⟨i,f,by rw[qe2 b];exact a⟩};rintro (z|⟨i,f,a⟩);{exact .inr ⟨r,W.hr,by rw[z];exact l⟩};by_cases b:i=r;{rw[b,qc3] at a;exact .inl (N8 a).symm};rw[qe2 b] at a;exact .inr ⟨i,f,a⟩};obtain⟨I,M,C⟩:=W.ln G;have N:=C r y W.hr l;refine⟨I,?_,λi x f a=>?_⟩;{have O:=dor n (hm k) r;have P:=dor n (hm k) e;have Q:=nor n r;have:=W.hr;have:=W.he;have:=W.o.home k;lia};by_cases b:i=r;{rw[b,qc3] at a;cases a;lia};rw[qe2 b] at a;exact C i x f a
structure Kept(n:Nat)(wr:Bool)(hm:Int->Nat)(g:Nat->Option Int)(S:List Int):Prop where
 o:Ord n hm g
 c:Hu n hm g
 h:Holds n g S
 ln:wr=false->∀i x,i<n->g i=some x->hm x<=i
theorem Walk.done(W:Walk n wr hm T k e g c r)(v:T.Nodup)(q:g r=none):Kept n wr hm (set g r c) T:=by
 have w:=W.o.home c;have h:=qm4 W.hr;refine⟨⟨W.o.home,λi j x f t a l=>?_,λi x f a p=>?_⟩,⟨next n r,h,λx u=>?_⟩,⟨v,λx=>?_⟩,λy=>?_⟩;{by_cases b:i=r;{by_cases e2:j=r;{rw[b,e2]};rw[b,qc3] at a;rw[qe2 e2] at l;cases a;exact absurd l (W.nin j t)};rw[qe2 b] at a;by_cases e2:j=r;{rw[e2,qc3] at l;cases l;exact absurd a (W.nin i f)};rw[qe2 e2] at l;exact W.o.inj i j x f t a l}
 .have A:=qp5 f;by_cases b:i=r
  .subst b;rw[qc3] at a;cases a;have d:=qe6 w f p;obtain⟨x,s,B⟩:=W.pth (prev n i) A ⋯;have:prev n i≠i:=λz=>by rw[z] at d;lia
   exact⟨x,by rw[qe2 this];exact s,B⟩
  rw[qe2 b] at a;obtain⟨z,m,C⟩:=W.o.ord i x f a p;by_cases e2:prev n i=r;{rw[e2,q] at m;cases m};exact⟨z,by rw[qe2 e2];exact m,C⟩
 .have s:=W.o.home x;by_cases b:next n r=r
  {have:=nor n r;have:=W.hr;lia};rw[qe2 b] at u;by_cases p:0<Aa n (hm x) (next n r);{obtain⟨z,m,_⟩:=W.o.ord _ x h u p;rw[ql3 W.hr,q] at m;cases m};exact((qc2 s h).mp ⋯).symm
 {rw[W.all x];constructor;{rintro (z|⟨i,f,a⟩);{exact⟨r,W.hr,by rw[z];exact qc3⟩};exact⟨i,f,by rw[qe2 (λz=>by rw[z,q] at a;cases a)];exact a⟩};rintro⟨i,f,a⟩;by_cases b:i=r;{rw[b,qc3] at a;exact .inl (N8 a).symm};rw[qe2 b] at a;exact .inr ⟨i,f,a⟩};obtain⟨E,F,D⟩:=W.ln y;intro i x f a;by_cases b:i=r;{rw[b,qc3] at a;cases a;lia};rw[qe2 b] at a;exact D i x f a
def Ja(n:Nat)(wr:Bool)(hm:Int->Nat)(g:Nat->Option Int)(k:Int)(e:Nat):Prop:=e<n/\g e=none/\(wr=false->hm k<=e)
theorem Kept.start(K:Kept n wr hm g S)(c:¬k∈S)(F:Ja n wr hm g k e):Walk n wr hm (S++[k]) k e g k (hm k):=by have a:=K.o.home k;have z:=(qc2 a a).mpr rfl;refine⟨K.o,λi d f=>c ((K.h.2 k).mpr ⟨i,d,f⟩),a,λj _ l=>⋯,F.1,F.2.1,⋯,λx=>?_,λb=>⟨F.2.2 b,zA3 _,K.ln b⟩⟩;rw[zA6,zAb,K.h.2 x];exact⟨Or.symm,Or.symm⟩
def Crowd(n:Nat)(wr:Bool)(hm:Int->Nat)(T:List Int)(q:Nat):Prop:=q<n/\if wr=true then q=0/\n<T.length else n-q<(T.filter (λk=>decide (q<=hm k))).length
theorem qR0(h:i∈(Lr (n-q)).map (q + ·)):q<=i/\i<n:=by obtain⟨j,a,rfl⟩:=zAx.mp h;have:=zAq.mp a;lia
theorem qaF4(h:q<=i)(h':i<n):i∈(Lr (n-q)).map (q + ·):=zAx.mpr ⟨i-q,zAq.mpr ⋯,⋯⟩
theorem qaf0:((Lr m).map (q + ·)).Nodup:=by rw[List.nodup_iff_pairwise_ne,zBv];exact(List.nodup_iff_pairwise_ne.mp Mq).imp λh=>⋯
theorem Kept.no_crowd(K:Kept n wr hm g S)(q:Nat):¬Crowd n wr hm S q:=by
 rintro⟨d,h⟩;cases wr with
 |true=>
  rw[if_pos rfl] at h;have:=qF8 (g:=g) (Lr n) S K.h.1 λk a=>by obtain⟨i,b,c⟩:=(K.h.2 k).mp a;exact⟨i,zAq.mpr b,c⟩
  rw[zB4] at this;lia
 |false=>
  rw[if_neg ∅] at h;have:=qF8 (g:=g) ((Lr (n-q)).map (q + ·)) (S.filter (λk=>decide (q<=hm k))) (K.h.1.filter _) λk a=>by obtain⟨a,d⟩:=zAt.mp a;obtain⟨i,b,c⟩:=(K.h.2 k).mp a;have:=K.ln rfl i k b c;have d:=zAi d;exact⟨i,qaF4 ⋯ b,c⟩
  rw[zA5,zB4] at this;lia
theorem Kept.crowd(K:Kept n wr hm g S)(u:∀e,¬Ja n wr hm g k e):∃q,Crowd n wr hm (S++[k]) q:=by
 have v:=K.o.home k;have full:∀e,e<n->(wr=false->hm k<=e)->∃x,g e=some x:=λe f s=>by cases h:g e with|some x=>exact⟨x,rfl⟩|none=>exact absurd ⟨f,h,s⟩ (u e)
 cases wr with
 |true=>refine⟨0,⋯,?_⟩;rw[if_pos rfl];refine⟨rfl,?_⟩;have:=qX0 (g:=g) (Lr n) S Mq (λi b=>by obtain⟨x,c⟩:=full i (zAq.mp b) (λz=>by cases z);exact⟨x,(K.h.2 x).mpr ⟨i,zAq.mp b,c⟩,c⟩) λi b j p x=>K.o.inj i j x (zAq.mp b) (zAq.mp p);rw[zB4] at this;rw[zA8];simp only[zAn,Mg];lia|false=>
  have w:∀m,m<=hm k->(∀e,m<=e->e<n->∃x,g e=some x)->∃q,q<=hm k/\(∀e,q<=e->e<n->∃x,g e=some x)/\(q=0∨g (q-1)=none):=by intro m;induction m with|zero=>exact λd a=>⟨0,d,a,.inl rfl⟩|succ m A=>intro d a;cases h:g m with|none=>exact⟨m+1,d,a,.inr h⟩|some x=>refine A ⋯ λe f r=>?_;by_cases q:e=m;{rw[q];exact⟨x,h⟩};exact a e ⋯ r
  obtain⟨q,B,C,l⟩:=w (hm k) (zA3 _) λe f r=>full e r λ_=>f;refine⟨q,⋯,?_⟩;rw[if_neg ∅];have:=qX0 (g:=g) ((Lr (n-q)).map (q + ·)) (S.filter (λk=>decide (q<=hm k))) qaf0 (λi b=>by obtain⟨d,a⟩:=qR0 b;obtain⟨x,c⟩:=C i d a;refine⟨x,zAt.mpr ⟨(K.h.2 x).mpr ⟨i,a,c⟩,zAg ?_⟩,c⟩;have D:=K.o.home x;have s:=K.ln rfl i x a c;refine zCc λE=>?_;rcases l with l|l;{lia};obtain⟨y,t,_⟩:=K.o.path' (i:=q-1) a ⋯ c (by have G:=dor n (hm x) (q-1);have H:=dor n (hm x) i;lia);rw[l] at t;cases t) λi b j p x=>K.o.inj i j x (qR0 b).2 (qR0 p).2;rw[zA5,zB4] at this;have F:([k].filter (λk=>decide (q<=hm k))).length=1:=by simp[B]
  rw[Mn,zA8,F];lia
theorem Crowd.mono(h:Crowd n wr hm S q)(a:S.Sublist T):Crowd n wr hm T q:=by obtain⟨b,h⟩:=h;refine⟨b,?_⟩;cases wr with|true=>rw[if_pos rfl] at h ⊢;have:=a.length_le;exact⟨h.1,⋯⟩|false=>rw[if_neg ∅] at h ⊢;have:=(a.filter (λk=>decide (q<=hm k))).length_le;lia
theorem Crowd.perm(h:Crowd n wr hm S q)(a:S.Perm T):Crowd n wr hm T q:=by obtain⟨b,h⟩:=h;refine⟨b,?_⟩;rw[<-a.length_eq,<-(a.filter _).length_eq];exact h
theorem Kept.none(a:0<n)(b:∀k,hm k<n):Kept n wr hm (λ_=>none) []:=⟨⟨b,(λ_ _ _ _ _ h=>by cases h),λ_ _ _ h=>by cases h⟩,⟨0,a,λ_ h=>by cases h⟩,⟨No,λk=>⟨λh=>by simp at h,λ⟨_,_,h⟩=>by cases h⟩⟩,λ_ _ _ _ h=>by cases h⟩
theorem Kept.same(K:Kept n wr hm g S)(K':Kept n wr hm g' S')(a:∀k,k∈S↔k∈S'):∀j,j<n->g j=g' j:=qaE3 K.o K'.o K.c K'.c K.h ⟨K.h.1,λk=>(a k).trans (K'.h.2 k)⟩
end
noncomputable def rot(n s t:Nat):Nat:=if s+t<n then s+t else s+t-n
theorem qT1(a:s<n)(b:t<n):rot n s t<n:=by unfold rot;split<;>lia
theorem qs3(a:s<n)(b:t<n):Aa n s (rot n s t)=t:=by have d:=dor n s (rot n s t);unfold rot at d ⊢;split at d<;>split<;>lia
theorem qq7(a:s<n)(hi:i<n):rot n s (Aa n s i)=i:=by have d:=dor n s i;unfold rot;split<;>lia
theorem qaw6(a:s<n)(b:t<n):(s+t)%n=rot n s t:=by unfold rot;split;{exact zCs (by assumption)};rw[Nat.mod_eq_sub_mod ⋯];exact zCs ⋯
def Ax(n:Nat)(g:Nat->Option Int)(r J:Nat):Nat->Option Int:=λi=>if Aa n r i<J then g (next n i) else if Aa n r i=J then none else g i
structure Sh(n:Nat)(hm:Int->Nat)(g:Nat->Option Int)(r J:Nat):Prop where
 hJ:J<n
 mv:∀t,1<=t->t<=J->∃x,g (rot n r t)=some x/\0<Aa n (hm x) (rot n r t)
section
variable{n:Nat}{wr:Bool}{hm:Int->Nat}{g:Nat->Option Int}{r J:Nat}{k:Int}{S:List Int}
theorem qag7(a:r<n):rot n r 0=r:=by unfold rot;rw[if_pos ⋯];rfl
theorem qB6(a:r<n)(b:t+1<n):next n (rot n r t)=rot n r (t+1):=by
 unfold rot next
 split<;>split<;>split<;>lia
theorem qx1(a:r<n)(b:J+1=n):next n (rot n r J)=r:=by
 unfold rot next
 split<;>split<;>lia
theorem Sh.start(a:r<n):Sh n hm g r 0:=⟨⋯,λt b c=>⋯⟩
theorem Sh.step(h:Sh n hm g r J)(a:J+1<n)(b:g (rot n r (J+1))=some x)(c:0<Aa n (hm x) (rot n r (J+1))):Sh n hm g r (J+1):=⟨a,λt d f=>by
 by_cases e:t=J+1
 . subst e;exact⟨x,b,c⟩
 exact h.mv t d ⋯⟩
theorem qz2(a:r<n)(hi:i<n):Ax n g r 0 i=if i=r then none else g i:=by unfold Ax;rw[if_neg ⋯];by_cases e:i=r;{rw[if_pos e,if_pos ((qc2 a hi).mpr e)]};rw[if_neg e,if_neg λz=>e ((qc2 a hi).mp z)]
theorem qM3(a:r<n)(b:J<n):Ax n g r J (rot n r J)=none:=by unfold Ax;rw[qs3 a b,if_neg ⋯,if_pos rfl]
theorem qz3(a:r<n)(b:J+1<n):Ax n g r J (rot n r (J+1))=g (rot n r (J+1)):=by unfold Ax;rw[qs3 a b,if_neg ⋯,if_neg ⋯]
theorem qF3(a:r<n)(b:0<J):Ax n g r J r=g (next n r):=by unfold Ax;rw[(qc2 a a).mpr rfl,if_pos b]
theorem qaf8(a:r<n)(d:J+1<n)(hi:i<n):Ax n g r (J+1) i=if i=rot n r (J+1) then none else if i=rot n r J then g (rot n r (J+1)) else Ax n g r J i:=by have j:=qs3 a d;have e2:=qs3 a (show J<n by lia);by_cases b:i=rot n r (J+1);{rw[if_pos b,b];exact qM3 a d};rw[if_neg b];have f:Aa n r i≠J+1:=λz=>b (by rw[<-z,qq7 a hi]);by_cases c:i=rot n r J;{rw[if_pos c,c];unfold Ax;rw[e2,if_pos ⋯,qB6 a d]};rw[if_neg c];have h:Aa n r i≠J:=λz=>c (by rw[<-z,qq7 a hi]);unfold Ax;by_cases e:Aa n r i<J;{rw[if_pos e,if_pos ⋯]};rw[if_neg e,if_neg ⋯,if_neg f,if_neg h]
theorem Sh.round(h:Sh n hm g r J)(O:Ord n hm g)(C:Hu n hm g)(d:r<n)(j:g r=some k)(u:J+1=n)(l:g (next n r)=some x)(v:0<J):Aa n (hm x) r=0:=by
 obtain⟨i,a,m⟩:=C;have f:i=r:=by by_cases e:i=r;{exact e};have w:=qj1 a d;have A:Aa n r i≠0:=λz=>e ((qc2 d a).mp z);obtain⟨y,b,c⟩:=h.mv (Aa n r i) ⋯ ⋯;rw[qq7 d a] at b c;have:=(qc2 (O.home y) a).mpr (m y b).symm;lia
 subst f;have s:=(qc2 (O.home k) a).mpr (m k j).symm;have o:next n i=rot n i 1:=by have:=qB6 (t:=0) a ⋯;rwa[qag7 a] at this
 obtain⟨y,b,c⟩:=h.mv 1 (zA3 _) ⋯;rw[<-o,l] at b;cases b;rw[<-o] at c;obtain⟨z,p,q⟩:=O.ord (next n i) x (qm4 a) l c;rw[ql3 a,j] at p;cases p;rw[ql3 a] at q;unfold ahead at q;lia
def Stop(n:Nat)(wr:Bool)(hm:Int->Nat)(g:Nat->Option Int)(r J:Nat):Prop:=(wr=false/\rot n r J+1=n)∨∀x,Ax n g r J (next n (rot n r J))=some x->Aa n (hm x) (next n (rot n r J))=0
theorem Kept.taken(K:Kept n wr hm g S)(m:r<n)(E:g r=some k)(h:Sh n hm g r J)(st:Stop n wr hm g r J):Kept n wr hm (Ax n g r J) (S.filter λx=>decide (x≠k)):=by
 have N:=h.hJ;have O:=K.o;have F:∀i x,i<n->Aa n r i<J->g (next n i)=some x->Aa n r (next n i)=Aa n r i+1/\0<Aa n (hm x) (next n i)/\Aa n (hm x) i+1=Aa n (hm x) (next n i):=λi x f H l=>by have e:=qm1 m f ⋯;obtain⟨y,u,C⟩:=h.mv (Aa n r i+1) ⋯ ⋯;rw[<-e,qq7 m (qm4 f)] at u C;rw[l] at u;cases u;have:=qe6 (O.home x) (qm4 f) C;rw[ql3 f] at this;exact⟨e,C,⋯⟩
 have w:∀i x,i<n->Ax n g r J i=some x->(Aa n r i<J/\g (next n i)=some x)∨(J<Aa n r i/\g i=some x):=λi x f l=>by unfold Ax at l;split at l;{exact .inl ⟨by assumption,l⟩};split at l;{cases l};exact .inr ⟨⋯,l⟩
 have A:∀i x,i<n->Ax n g r J i=some x->∃j,j<n/\g j=some x/\j≠r/\(j=next n i/\Aa n r i<J∨j=i/\J<Aa n r i):=λi x f l=>by rcases w i x f l with⟨s,q⟩|⟨s,q⟩;{refine⟨next n i,qm4 f,q,λz=>?_,.inl ⟨rfl,s⟩⟩;have e:=qm1 m f ⋯;rw[z,(qc2 m m).mpr rfl] at e;lia};refine⟨i,f,q,λz=>?_,.inr ⟨rfl,s⟩⟩;rw[z,(qc2 m m).mpr rfl] at s;lia
 refine⟨⟨O.home,λi j x f t s q=>?_,λi x f l H=>?_⟩,?_,⟨K.h.1.filter _,λx=>?_⟩,λI i x f l=>?_⟩;{obtain⟨a,v,U,na,V⟩:=A i x f s;obtain⟨b,L,W,nb,X⟩:=A j x t q;have:=O.inj a b x v L U W;subst this;rcases V with⟨D,P⟩|⟨D,P⟩<;>rcases X with⟨e2,Q⟩|⟨e2,Q⟩;{have:=congrArg (prev n) (D.symm.trans e2);rwa[ql3 f,ql3 t] at this};{have e:=qm1 m f ⋯;rw[<-D,e2] at e;lia};{have e:=qm1 m t ⋯;rw[<-e2,D] at e;lia};rw[<-D,<-e2]}
 .rcases w i x f l with⟨s,q⟩|⟨s,q⟩
  .obtain⟨e,C,Y⟩:=F i x f s q;obtain⟨y,u,v⟩:=O.ord (next n i) x (qm4 f) q C;rw[ql3 f] at u v;have G:0<Aa n (hm y) i:=by unfold ahead at v;lia
   have D:=qe6 (O.home x) f H;have e2:=qe6 (O.home y) f G;have Z:=qp5 f;by_cases e0:Aa n r i=0
   .have:=(qc2 m f).mp e0;subst this;have hlast:Aa n i (prev n i)=n-1:=by have d:=dor n i (prev n i);have p:=por n i;lia
    by_cases M:J+1=n;{have:=h.round O K.c f E M q ⋯;lia};rw[E] at u;cases u;obtain⟨z,hz,L⟩:=O.ord i k f E G;refine⟨z,?_,?_⟩;{unfold Ax;rw[hlast,if_neg ⋯,if_neg ⋯];exact hz};refine qw5 L ?_;unfold ahead at v ⊢;lia
   have R:=qe6 m f ⋯;refine⟨y,?_,?_⟩;{unfold Ax;rw[R,if_pos ⋯,qI9 f];exact u};unfold ahead at v ⊢;lia
  obtain⟨y,u,v⟩:=O.ord i x f q H;refine⟨y,?_,v⟩;have R:=qe6 m f ⋯;by_cases T:Aa n r (prev n i)=J
  .exfalso;have ei:prev n i=rot n r J:=by rw[<-T,qq7 m (qp5 f)]
   have en:next n (rot n r J)=i:=by rw[<-ei,qI9 f]
   rcases st with⟨I,hl⟩|st
   .have:i=0:=by have p:=nor n (rot n r J);lia
    subst this;have:=K.ln I 0 x f q;have d:=dor n (hm x) 0;lia
   rw[en] at st;have:=st x l;lia
  unfold Ax;rw[if_neg ⋯,if_neg T];exact u
 {exact⟨rot n r J,qT1 m N,λx l=>by rw[qM3 m N] at l;cases l⟩};{rw[zAt,K.h.2 x,zBd];constructor;{rintro⟨⟨j,t,B⟩,ne⟩;have jr:j≠r:=λz=>ne (by rw[z,E] at B;exact(N8 B).symm);have d0:Aa n r j≠0:=λz=>jr ((qc2 m t).mp z);by_cases H:Aa n r j<=J;{have e:=qe6 m t ⋯;refine⟨prev n j,qp5 t,?_⟩;unfold Ax;rw[e,if_pos ⋯,qI9 t];exact B};refine⟨j,t,?_⟩;unfold Ax;rw[if_neg ⋯,if_neg ⋯];exact B};rintro⟨i,f,l⟩;obtain⟨j,t,B,nj,_⟩:=A i x f l;refine⟨⟨j,t,B⟩,λz=>?_⟩;subst z;exact nj (O.inj j r x t m B E)};rcases w i x f l with⟨s,q⟩|⟨s,q⟩;{obtain⟨e,C,Y⟩:=F i x f s q;have:=K.ln I (next n i) x (qm4 f) q;have nn:=nor n i;have P:=dor n (hm x) (next n i);have Q:=dor n (hm x) i;lia};exact K.ln I i x f q
end
def Jb(hm:Int->Nat)(x y:Int):Prop:=hm x<hm y∨(hm x=hm y/\x<y)
structure Fill(n:Nat)(hm:Int->Nat)(g:Nat->Option Int)(S:List Int)(top:Nat):Prop where
 k:Kept n false hm g S
 free:∀i,top<=i->i<n->g i=none
 last:0<top->∃x,g (top-1)=some x/\x∈S
 le:top<=n
theorem Fill.start(a:0<n)(b:∀k,hm k<n):Fill n hm (λ_=>none) [] 0:=⟨Kept.none a b,λ_ _ _=>rfl,λh=>absurd h ⋯,⋯⟩
section
variable{n:Nat}{hm:Int->Nat}{g:Nat->Option Int}{S:List Int}{top:Nat}{k:Int}
theorem Fill.put(F:Fill n hm g S top)(l:¬k∈S)(C:∀x∈S,Jb hm x k)(m:max top (hm k)<n):Fill n hm (set g (max top (hm k)) k) (S++[k]) (max top (hm k)+1):=by
 generalize J:max top (hm k)=r at m ⊢;have p:top<=r:=⋯;have q:hm k<=r:=⋯;have D:g r=none:=F.free r p m;have below:∀i x,i<n->g i=some x->i<top:=λi x b a=>by by_cases h:top<=i;{rw[F.free i h b] at a;cases a};lia
 have s:∀i x,i<n->set g r k i=some x->hm x<=i:=λi x b a=>by by_cases e:i=r;{subst e;rw[qc3] at a;cases a;exact q};rw[qe2 e] at a;exact F.k.ln rfl i x b a
 have mem:∀i x,i<n->g i=some x->x∈S:=λi x b a=>(F.k.h.2 x).mpr ⟨i,b,a⟩;refine⟨⟨⟨F.k.o.home,λi j x b z a d=>?_,λi x b a t=>?_⟩,⟨0,⋯,λx E=>?_⟩,⟨?_,λx=>⟨λc=>?_,λ⟨i,b,a⟩=>?_⟩⟩,λ_ i x b a=>s i x b a⟩,λi b G=>?_,λ_=>⟨k,by rw[Nat.add_sub_cancel,qc3],zB1 _ (zAb.mpr rfl)⟩,⋯⟩;{by_cases u:i=r;{by_cases e2:j=r;{rw[u,e2]};subst u;rw[qc3] at a;cases a;rw[qe2 e2] at d;exact absurd (mem j _ z d) l};rw[qe2 u] at a;by_cases e2:j=r;{subst e2;rw[qc3] at d;cases d;exact absurd (mem i _ b a) l};rw[qe2 e2] at d;exact F.k.o.inj i j x b z a d}
 .have c:=s i x b a;have K:i≠0:=λe=>by have:=(qc2 (F.k.o.home x) b).mpr ⋯;lia
  have A:prev n i=i-1:=by rcases por n i with h|h<;>lia
  by_cases e:i=r
  .subst e;rw[qc3] at a;cases a;have H:hm k<i:=by unfold Aa at t;split at t<;>lia
   have B:top=i:=⋯;obtain⟨y,f,v⟩:=F.last ⋯;have w:hm y<=i-1:=F.k.ln rfl (i-1) y ⋯ (by rw[<-B];exact f);refine⟨y,by rw[A,qe2 ⋯,<-B];exact f,?_⟩;rw[A];unfold ahead Aa;rw[if_pos ⋯,if_pos w];rcases C y v with h|h;{exact .inl ⋯};exact .inr ⟨⋯,h.2⟩
  rw[qe2 e] at a;have L:=below i x b a;obtain⟨y,f,I⟩:=F.k.o.ord i x b a t;exact⟨y,by rw[qe2 ⋯];exact f,I⟩
 {have:=s 0 x ⋯ E;lia};{refine zBj.mpr ⟨F.k.h.1,(by simp),λx c y v e=>?_⟩;rw[zAb.mp v] at e;exact l (e ▸ c)};{rcases zA6.mp c with c|c;{obtain⟨i,b,a⟩:=(F.k.h.2 x).mp c;exact⟨i,b,by rw[qe2 λe=>by rw[e,D] at a;cases a];exact a⟩};rw[zAb.mp c];exact⟨r,m,qc3⟩};{by_cases e:i=r;{subst e;rw[qc3] at a;cases a;exact zB1 _ (zAb.mpr rfl)};rw[qe2 e] at a;exact zCj _ (mem i x b a)};rw[qe2 ⋯];exact F.free i ⋯ G
theorem Fill.room(F:Fill n hm g S top)(i:∀x∈S,Jb hm x k)(j:∀q,¬Crowd n false hm (S++[k]) q):max top (hm k)<n:=by
 have u:=F.k.o.home k;have l:=F.le;by_cases h:top<n;{lia};have v:top=n:=⋯;obtain⟨q,c⟩:=F.k.crowd (k:=k) λe ⟨m,b,a⟩=>by
  have a:=a rfl;obtain⟨y,d,p⟩:=F.last ⋯;have f:=F.k.ln rfl (top-1) y ⋯ d;have r:hm y<=hm k:=by rcases i y p with h|h<;>lia
  by_cases s:e=top-1;{rw[s,d] at b;cases b};obtain⟨x,t,_⟩:=F.k.o.path' ⋯ m d (show Aa n (hm y) e<Aa n (hm y) (top-1) by unfold Aa;rw[if_pos ⋯,if_pos f];lia);rw[t] at b;cases b
 exact absurd c (j q)
end
noncomputable def Fh(hm:Int->Nat)(T:List Int)(r:Nat):Nat:=(T.filter λk=>decide (hm k=r)).length
noncomputable def E6(hm:Int->Nat)(T:List Int)(q r:Nat):Nat:=(T.filter λk=>decide (q<=hm k/\hm k<r)).length
theorem qZ8{hm:Int->Nat}{q r:Nat}(h:q<=r):∀T:List Int,E6 hm T q (r+1)=E6 hm T q r+Fh hm T r|[]=>rfl|k::T=>by have a:=qZ8 (hm:=hm) h T;unfold E6 Fh at a ⊢;simp only[Lx,zBd];split<;>split<;>split<;>(try simp only[zAn])<;>lia
theorem qau5(T:List Int):E6 hm T r r=0:=by unfold E6;rw[List.length_eq_zero_iff,List.filter_eq_nil_iff];intro k _ h;have:=zAi h;lia
section
variable{n:Nat}{hm:Int->Nat}{g:Nat->Option Int}{S:List Int}{k:Int}
theorem Kept.len(KP:Kept n wr hm g S):S.length<=n:=by
 have:=qF8 (g:=g) (Lr n) S KP.h.1 λk a=>by obtain⟨i,b,e⟩:=(KP.h.2 k).mp a;exact⟨i,zAq.mpr b,e⟩
 rwa[zB4] at this
end
noncomputable def onC(c:Nat->Nat):Nat->Int|0=>0|r+1=>if onC c r+(c r:Int)-1>0 then onC c r+(c r:Int)-1 else 0
noncomputable def sumC(c:Nat->Nat)(q:Nat):Nat->Nat|0=>0|m+1=>sumC c q m+c (q+m)
section
variable{c:Nat->Nat}
theorem qN0:∀r:Nat,0<=onC c r|0=>Int.le_refl _|r+1=>by unfold onC;split<;>lia
theorem qaE5{q:Nat}:∀m:Nat,(sumC c q m:Int)-(m:Int)<=onC c (q+m)|0=>by have:=qN0 (c:=c) q;show ((0:Nat):Int)-_<=_;rw[Nat.add_zero];lia|m+1=>by have:=qaE5 (q:=q) m;show ((sumC c q m+c (q+m):Nat):Int)-_<=onC c (q+m+1);unfold onC;split<;>lia
theorem qaE6:∀r:Nat,onC c r=0∨∃q m,q+m=r/\0<m/\onC c r=(sumC c q m:Int)-(m:Int)|0=>.inl rfl|r+1=>by by_cases h:onC c r+(c r:Int)-1>0;{right;have e:onC c (r+1)=onC c r+(c r:Int)-1:=if_pos h;rcases qaE6 r with b|⟨q,m,a,d,f⟩;{exact⟨r,1,rfl,⋯,by rw[e];show _=((0+c (r+0):Nat):Int)-_;rw[Nat.add_zero];lia⟩};exact⟨q,m+1,⋯,⋯,by rw[e];show _=((sumC c q m+c (q+m):Nat):Int)-_;rw[a];lia⟩};exact .inl (if_neg h)
theorem qaf3{q m:Nat}:∀l:Nat,sumC c q (m+l)=sumC c q m+sumC c (q+m) l|0=>rfl|l+1=>by show sumC c q (m+l)+c (q+(m+l))=sumC c q m+(sumC c (q+m) l+c (q+m+l));rw[qaf3 l,show q+(m+l)=q+m+l by lia];lia
end
section
variable{n b:Nat}{hm:Int->Nat}{T:List Int}
def cR(n:Nat)(hm:Int->Nat)(T:List Int):Nat->Nat:=λt=>Fh hm T (t%n)
theorem qbc1:cR n hm T (n+t)=cR n hm T t:=by unfold cR;rw[Nat.add_mod_left]
theorem qaw4{q:Nat}:∀m,sumC (cR n hm T) (n+q) m=sumC (cR n hm T) q m|0=>rfl|m+1=>by show sumC _ (n+q) m+cR n hm T (n+q+m)=_;rw[qaw4 m,Nat.add_assoc,qbc1];rfl
theorem qH4{s q:Nat}(a:b<n)(c:s%n=b)(d:∀k,hm k<n):∀m,q+m<=n->sumC (cR n hm T) (s+q) m=E6 (λk=>Aa n b (hm k)) T q (q+m)
 |0,_=>by rw[Nat.add_zero,qau5];rfl|m+1,h=>by
  show sumC _ (s+q) m+cR n hm T (s+q+m)=_;rw[qH4 a c d m ⋯,show q+(m+1)=q+m+1 by lia,qZ8 ⋯];congr 1;unfold cR Fh;congr 1;refine Ma λk _=>zC2.mpr ?_;have e:(s+q+m)%n=rot n b (q+m):=by rw[Nat.add_assoc,Nat.add_mod,c,zCs (show q+m<n by lia),qaw6 a ⋯]
  rw[e];constructor;{intro z;show Aa n b (hm k)=_;rw[z,qs3 a ⋯]};intro z;rw[<-show Aa n b (hm k)=_ from z,qq7 a (d k)]
theorem qaI5(a:∀k,hm k<n):E6 hm T 0 n=T.length:=by unfold E6;rw[List.filter_eq_self.mpr λk _=>zAg ⟨zBo _,a k⟩]
theorem qaK5(a:0<n)(c:∀k,hm k<n):sumC (cR n hm T) 0 n=T.length:=by have:=qH4 (T:=T) (s:=0) (q:=0) (b:=0) a (Nat.zero_mod n) c n ⋯;rw[Nat.add_zero,zAe] at this;rw[this];refine(qaI5 (hm:=λk=>Aa n 0 (hm k)) λk=>qj1 (c k) a)
theorem qar1(f:0<n)(a:∀k,hm k<n):0<onC (cR n hm T) n↔∃q,Crowd n false hm T q:=by
 have e:∀q,q<=n->sumC (cR n hm T) q (n-q)=(T.filter λk=>decide (q<=hm k)).length:=λq d=>by have:=qH4 (T:=T) (s:=0) (q:=q) (b:=0) f (Nat.zero_mod n) a (n-q) ⋯;rw[zAe,show q+(n-q)=n by lia] at this;rw[this];unfold E6;congr 2;exact funext λk=>zC2.mpr (by have:=a k;have i:Aa n 0 (hm k)=hm k:=if_pos (zBo _);dsimp only;lia)
 constructor;{intro h;rcases qaE6 (c:=cR n hm T) n with j|⟨q,m,d,g,l⟩;{lia};refine⟨q,⋯,?_⟩;rw[if_neg ∅,<-e q ⋯,show n-q=m by lia];lia};rintro⟨q,d,h⟩;rw[if_neg ∅,<-e q ⋯] at h;have:=qaE5 (c:=cR n hm T) (q:=q) (n-q);rw[show q+(n-q)=n by lia] at this;lia
theorem qaE4(i:0<n)(j:∀k,hm k<n)(w:T.length<=n):∃r,r<n/\onC (cR n hm T) (n+r+1)=0:=by
 by_cases h:∃r,r<n/\onC (cR n hm T) (n+r+1)=0;{exact h};exfalso;have pos:∀r,r<n->0<onC (cR n hm T) (n+r+1):=λr g=>by have:=qN0 (c:=cR n hm T) (n+r+1);have:onC (cR n hm T) (n+r+1)≠0:=λe=>h ⟨r,g,e⟩;lia
 have a:∀r,r<=n->onC (cR n hm T) (n+r)=onC (cR n hm T) n+(sumC (cR n hm T) n r:Int)-(r:Int):=λr=>by
  induction r with
  |zero=>intro _;show _=_+((0:Nat):Int)-_;rw[Nat.add_zero];lia|succ r l=>
   intro g;have d:=pos r ⋯;have x:=l ⋯;have e:onC (cR n hm T) (n+r+1)=if onC (cR n hm T) (n+r)+(cR n hm T (n+r):Int)-1>0 then onC (cR n hm T) (n+r)+(cR n hm T (n+r):Int)-1 else 0:=rfl
   show onC (cR n hm T) (n+r+1)=_+((sumC (cR n hm T) n r+cR n hm T (n+r):Nat):Int)-_;rw[e] at d ⊢;split at d;{rw[if_pos (by assumption)];lia};lia
 have sa:=qaK5 (T:=T) i j;have b:∀m,sumC (cR n hm T) n m=sumC (cR n hm T) 0 m:=λm=>qaw4 (q:=0) m;have e2:=a n (zA3 _);have o:=pos (n-1) ⋯;rw[show n+(n-1)+1=n+n by lia] at o;rw[b] at e2;rcases qaE6 (c:=cR n hm T) n with y|⟨q,m,p,s,d⟩;{lia};have t:=a q ⋯;rw[b] at t;have u:=qaf3 (c:=cR n hm T) (q:=0) (m:=q) m;rw[zAe,p] at u;by_cases f:q=0;{subst f;have:sumC (cR n hm T) 0 0=0:=rfl;lia};have v:=pos (q-1) ⋯;rw[show n+(q-1)+1=n+q by lia] at v;lia
theorem qN8(f:r<n)(a:∀k,hm k<n)(d:onC (cR n hm T) (n+r+1)=0):∀q,¬Crowd n false (λk=>Aa n ((r+1)%n) (hm k)) T q:=by
 rintro q ⟨h,c⟩;have b:(r+1)%n<n:=Nat.mod_lt _ ⋯;rw[if_neg ∅] at c;have e:=qH4 (T:=T) (s:=r+1) (q:=q) b rfl a (n-q) ⋯;have g:=qaE5 (c:=cR n hm T) (q:=r+1+q) (n-q);rw[show r+1+q+(n-q)=n+r+1 by lia,d,e,show q+(n-q)=n by lia] at g;have e2:E6 (λk=>Aa n ((r+1)%n) (hm k)) T q n=(T.filter λk=>decide (q<=Aa n ((r+1)%n) (hm k))).length:=by unfold E6;congr 2;exact funext λk=>zC2.mpr (by have:=qj1 (a k) b;dsimp only;lia)
 have c:=e2 ▸ c;generalize E6 _ T q n=m at *
 lia
theorem Kept.turn(c:b<n)(p:∀k,hm k<n)(K:Kept n false (λk=>Aa n b (hm k)) g S):Kept n true hm (λi=>g (Aa n b i)) S:=by
 have f:∀i,i<n->Aa n b i<n:=λi a=>qj1 a c;have l:∀i x,i<n->g (Aa n b i)=some x->Aa n b (hm x)+Aa n (hm x) i=Aa n b i:=λi x a d=>Ea c (p x) a (K.ln rfl _ x (f i a) d);refine⟨⟨p,λi j x a m d u=>qj7 c a m (K.o.inj _ _ x (f i a) (f j m) d u),λi x a d v=>?_⟩,⟨b,c,λx w=>?_⟩,⟨K.h.1,λx=>⟨λA=>?_,λ⟨i,a,d⟩=>(K.h.2 x).mpr ⟨_,f i a,d⟩⟩⟩,λh=>nomatch h⟩
 .have f1:=l i x a d;have q:=K.ln rfl _ x (f i a) d;have B:Aa n (Aa n b (hm x)) (Aa n b i)=Aa n (hm x) i:=by unfold Aa at q ⊢;rw[if_pos q];unfold Aa at f1;lia
  obtain⟨y,r,s⟩:=K.o.ord _ x (f i a) d (by rw[B];exact v);have C:prev n (Aa n b i)=Aa n b (prev n i):=by rw[qe6 c a ⋯];rcases por n (Aa n b i) with h|h<;>lia
  rw[C] at r s;have t:=qp5 a;have f2:=l (prev n i) y t r;have D:=K.ln rfl _ y (f _ t) r;have f3:Aa n b (hm x)+Aa n (hm x) (prev n i)=Aa n b (prev n i):=Ea c (p x) t (by rw[qe6 c a ⋯];lia);refine⟨y,r,?_⟩;have E:Aa n (Aa n b (hm y)) (Aa n b (prev n i))=Aa n (hm y) (prev n i):=by have:Aa n (Aa n b (hm y)) (Aa n b (prev n i))=Aa n b (prev n i)-Aa n b (hm y):=if_pos D;lia
  have F:Aa n (Aa n b (hm x)) (Aa n b (prev n i))=Aa n (hm x) (prev n i):=by have:Aa n (Aa n b (hm x)) (Aa n b (prev n i))=Aa n b (prev n i)-Aa n b (hm x):=if_pos ⋯;lia
  unfold ahead at s ⊢;rwa[E,F] at s
 {have q:=K.ln rfl _ x (f b c) w;have z:Aa n b b=0:=(qc2 c c).mpr rfl;rw[z] at q;exact(qc2 c (p x)).mp ⋯};obtain⟨j,m,e⟩:=(K.h.2 x).mp A;exact⟨rot n b j,qT1 c m,by show g (Aa n b (rot n b j))=_;rw[qs3 c m];exact e⟩
end
theorem Kept.of_perm(K:Kept n wr hm g S)(p:S.Perm T):Kept n wr hm g T:=⟨K.1,K.2,⟨p.nodup_iff.mp K.h.1,λk=>p.mem_iff.symm.trans (K.h.2 k)⟩,K.4⟩
theorem Hc:Aa n 0 i=i:=if_pos (zBo _)
theorem qaF1(b:a<n)(c:s<=n):((a:Int)-(s:Int))%(n:Int)=(Aa n (s%n) a:Nat):=by by_cases e:s=n;{subst e;rw[Nat.mod_self,Hc,Int.sub_emod_right];exact zCp ⋯ ⋯};rw[zCs (show s<n by lia)];unfold Aa;split;{rw[zCp ⋯ ⋯];lia};rw[<-Int.add_emod_right,zCp ⋯ ⋯];lia
end Row
namespace My
open PySem L2
variable{H:Hp}
noncomputable def Jc:V->Bool|.int _=>true|_=>false
noncomputable def qav8(l m:Int):V->Bool|.int i=>decide (l<=i)&&decide (i<=m)|_=>false
def numV:V->Bool:=qav8 0 1000000000000000000
theorem qaG1(h:Bn H x=some t):Hs t "int"=(Jc x||(match x with | .bl _=>true|_=>false)):=by cases x with|ref b=>unfold Bn at h;dsimp only at h;split at h<;>cases h<;>rfl|_=>cases h<;>rfl
theorem qas1(h:Bn H x=some t):Hs t "bool"=(match x with | .bl _=>true|_=>false):=by cases x with|ref b=>unfold Bn at h;dsimp only at h;split at h<;>cases h<;>rfl|_=>cases h<;>rfl
noncomputable def bagL(x y z:Int)(L:γ):HO:=.l [.int x,.int y,.int z,.ref L]
structure BagAt(H:Hp)(p:γ)(x y z:Int)(L:γ)(ns:List Int):Prop where
 at_:H p=some (bagL x y z L)
 li:H L=some (.l (ns.map V.int))
 x0:0<=x
 y0:0<=y
 y1:y<2147483647
 z0:0<=z
 nn:∀n∈ns,0<=n
def Bag(H:Hp)(p L:γ):Prop:=∃x y z ns,BagAt H p x y z L ns
theorem qbc5{ns:List Int}:HO.l (ns.map V.int)≠bagL x y z L:=by
 intro e;have e:ns.map V.int=[.int x,.int y,.int z,.ref L]:=by injection e
 have e:=congrArg (·[3]?) e;rw[zB7] at e;cases h:ns[3]? <;> rw[h] at e<;>cases e
theorem BagAt.ne(B:BagAt H p x y z L ns):L≠p:=ne_of B.li B.at_ qbc5
def qaV4(K:Oa):Sp:=λvs H Q _=>∃(l:γ)(ns:List Int),vs=[.ref l]/\SqL K H l (ns.map V.int)/\ns.length<=63/\∀p L H',H p=none->H L=none->Same H H'->Bag H' p L->Q (.ref p) H'
def Hd(K:Oa):Sp:=λvs H Q _=>∃(l:γ)(ns:List Int),vs=[.ref l]/\SqL K H l (ns.map V.int)/\ns.length<=63/\∀H',Q (.bl true) H'
abbrev Pr:=List (Int×Int)
def An(n:Int):Prop:=0<=n/\n<=1000000000000000000
theorem qaP3:numV (.int n)=true↔An n:=by show (decide (0<=n)&&decide (n<=1000000000000000000))=true↔_;rw[zBq,zBd,zBd];exact Iff.rfl
structure qL4(ps:Pr):Prop where
 len:ps.length<=64
 nd:(ps.map (·.1)).Nodup
 nums:∀p∈ps,An p.1/\An p.2
noncomputable def qb4(n:Int)(ps:Pr)(k:Int):Int:=((ps.lookup k).getD k)%n
def De(n:Int)(wr:Bool)(ps:Pr)(k r:Int):Option Int:=if wr then some ((r-qb4 n ps k)%n) else if 0<=r-qb4 n ps k then some (r-qb4 n ps k) else none
def qH1(n:Int)(wr:Bool)(ps:Pr)(r a other:Int):Bool:=match De n wr ps a r,De n wr ps other r with|none,_=>false|some _,none=>true|some x,some y=>decide (y<x)||(decide (x=y)&&decide (a<other))
theorem qaz2(h:1<=n)(ps:Pr)(k:Int):0<=qb4 n ps k/\qb4 n ps k<n:=⟨zCm _ ⋯,zC0 _ ⋯⟩
theorem qaG6(k:Int)(ks:List Int):inV (.int k) (ks.map V.int)=decide (k∈ks):=by unfold inV;rw[List.any_map,Bool.eq_iff_iff,List.any_eq_true,zBd];constructor;{rintro⟨x,a,e⟩;have e:(x==k)=true:=e;rw[<-zBy.mp e];exact a};intro h;exact⟨k,h,zBc k⟩
end My
namespace My
open PySem L2
open Row
variable{n:Int}{ps:Pr}{r:Nat}
def O3(n:Int)(ps:Pr)(k:Int):Nat:=(qb4 n ps k).toNat
theorem Fn(h:1<=n)(k:Int):O3 n ps k<n.toNat:=by have:=qaz2 h ps k;unfold O3;lia
theorem qO9(h:1<=n)(k:Int):((O3 n ps k:Nat):Int)=qb4 n ps k:=by have:=qaz2 h ps k;unfold O3;lia
theorem qat8(a:1<=n)(b:h<n.toNat)(c:r<n.toNat):((r:Int)-(h:Int))%n=(Aa n.toNat h r:Nat):=by
 rcases dor n.toNat h r with⟨h1,h2⟩|⟨h1,h2⟩;{rw[zCp ⋯ ⋯];lia};have e:((r:Int)-(h:Int))%n=((r:Int)-(h:Int)+n)%n:=by rw[Int.add_emod_right]
 rw[e,zCp ⋯ ⋯];have:=h2 ⋯;lia
theorem qP4(a:1<=n)(c:r<n.toNat)(d:wr=false->O3 n ps k<=r):De n wr ps k (r:Int)=some ((Aa n.toNat (O3 n ps k) r:Nat):Int):=by have e:=Fn (ps:=ps) a k;have b:=qO9 (ps:=ps) a k;unfold De;cases wr with|true=>rw[if_pos rfl,<-b,qat8 a e c]|false=>have:=d rfl;rw[if_neg ∅,if_pos ⋯,<-b];have:=dor n.toNat (O3 n ps k) r;congr 1;lia
theorem qL3(a:1<=n)(b:r<n.toNat)(c:wr=false->O3 n ps x<=r)(d:wr=false->O3 n ps y<=r):qH1 n wr ps (r:Int) x y=true↔ahead n.toNat (O3 n ps) r x y:=by unfold qH1 ahead;rw[qP4 a b c,qP4 a b d];show (decide _||(decide _&&decide _))=true↔_;simp only[Bool.or_eq_true,zBq,zBd];lia
theorem qaE9(a:1<=n)(b:r<n.toNat):((r:Int)+1)%n=(Row.next n.toNat r:Nat):=by rcases nor n.toNat r with⟨h,e⟩|⟨h,e⟩;{rw[e,show ((r:Int)+1)=n by lia];simp};rw[e,zCp ⋯ ⋯];rfl
end My
namespace LV
open PySem L2
variable{Ao:List γ}{N:List Str}{P:List V'->Prop}{Q:VK}{base:Heap}{cd:Lb}{cm z:Bool}{i j n:Nat}{kvs:List (Key×V)}{mg:Str->Option V'}{op:CmpOp}{pl:Sem Bool}{v w:V}{vs:List V}{α:Type}{a':St}
inductive D where
 |non|bl (b:Bool)|int (i:Int)|str (x:Str)|ty (n:String)|adr (a:γ)
 |q (ds:List D)|l (z:Bool) (ds:List D)|dct (z:Bool) (kvs:List (Key×D))|ins (z:Bool) (C:γ) (fs:List (Str×D))
 |scr (ns:List Int)
 |exn (C:γ) (fs:List (Str×D))
 |hole (v:V)|u
mutual
def D.imm:D->Bool|.q ds=>D.imms ds|.l z _=>z|.dct z _=>z|.ins z _ _=>z|_=>true
def D.imms:List D->Bool|[]=>true|d::r=>d.imm&&D.imms r
end
mutual
def D.fz:D->D|.q ds=>.q (D.fzs ds)|.l _ ds=>.l true (D.fzs ds)|.dct _ kvs=>.dct true (D.fzk kvs)|.ins _ C fs=>.ins true C (D.fzf fs)|.exn C fs=>.exn C (D.fzf fs)|.non=>.non | .bl b=>.bl b | .int i=>.int i | .str x=>.str x | .ty n=>.ty n | .adr a=>.adr a | .scr ns=>.scr ns | .hole v=>.hole v | .u=>.u
def D.fzs:List D->List D|[]=>[]|d::r=>d.fz::D.fzs r
def D.fzk:List (Key×D)->List (Key×D)|[]=>[]|(k,d)::r=>(k,d.fz)::D.fzk r
def D.fzf:List (Str×D)->List (Str×D)|[]=>[]|(k,d)::r=>(k,d.fz)::D.fzf r
end
mutual
inductive Pa(F:γ->Prop)(H:Hp):V->D->List γ->Prop
 |non:Pa F H .non .non []
 |bl (b:Bool):Pa F H (.bl b) (.bl b) []
 |int (i:Int):Pa F H (.int i) (.int i) []
 |str (x:Str):Pa F H (.str x) (.str x) []
 |ty (n:String):Pa F H (.ty n) (.ty n) []
 |adr (a:γ):Pa F H (.ref a) (.adr a) []
 |q {a:γ} {vs:List V} {ds:List D} {A:List γ} (h:H a=some (.q vs)) (r:O4 F H vs ds A):Pa F H (.ref a) (.q ds) A
 |l {a:γ} {vs:List V} {ds:List D} {A:List γ} (h:H a=some (.l vs)) (r:O4 F H vs ds A):Pa F H (.ref a) (.l false ds) (a::A)
 |lstZ {a:γ} {vs:List V} {ds:List D} (h:H a=some (.l vs)) (f:F a) (r:O4 F H vs ds []):Pa F H (.ref a) (.l true ds) []
 |dct {a:γ} {kvs:List (Key×V)} {kds:List (Key×D)} {A:List γ} (h:H a=some (.dK kvs)) (e:kvs.map (·.1)=kds.map (·.1)) (r:O4 F H (kvs.map (·.2)) (kds.map (·.2)) A):Pa F H (.ref a) (.dct false kds) (a::A)
 |dctZ {a:γ} {kvs:List (Key×V)} {kds:List (Key×D)} (h:H a=some (.dK kvs)) (f:F a) (e:kvs.map (·.1)=kds.map (·.1)) (r:O4 F H (kvs.map (·.2)) (kds.map (·.2)) []):Pa F H (.ref a) (.dct true kds) []
 |ins {a C dx:γ} {fvs:List (Str×V)} {fds:List (Str×D)} {A:List γ} (h:H a=some (.ins C dx fvs)) (e:fvs.map (·.1)=fds.map (·.1)) (r:O4 F H (fvs.map (·.2)) (fds.map (·.2)) A):Pa F H (.ref a) (.ins false C fds) (a::A)
 |insZ {a C dx:γ} {fvs:List (Str×V)} {fds:List (Str×D)} (h:H a=some (.ins C dx fvs)) (f:F a) (e:fvs.map (·.1)=fds.map (·.1)) (r:O4 F H (fvs.map (·.2)) (fds.map (·.2)) []):Pa F H (.ref a) (.ins true C fds) []
 |scr {a:γ} {o:Obj} {ns:List Int} (h:H a=some (.frz o (.l (ns.map V.int)))):Pa F H (.ref a) (.scr ns) []
 |exn {a C dx:γ} {fvs:List (Str×V)} {fds:List (Str×D)} (h:H a=some (ExcO a C (some dx) false)) (g:H dx=some (XD dx fvs)) (e:fvs.map (·.1)=fds.map (·.1)) (r:O4 F H (fvs.map (·.2)) (fds.map (·.2)) []):Pa F H (.ref a) (.exn C fds) []
 |hole (v:V):Pa F H v (.hole v) []
 |u (v:V):Pa F H v .u []
inductive O4(F:γ->Prop)(H:Hp):List V->List D->List γ->Prop
 |nil:O4 F H [] [] []
 |cons {v:V} {d:D} {A:List γ} {vs:List V} {ds:List D} {B:List γ} (h:Pa F H v d A) (t:O4 F H vs ds B):O4 F H (v::vs) (d::ds) (A++B)
end
noncomputable def Ed:HO->Bool|.l _=>true|.dK _=>true|.ins _ _ _=>true|_=>false
section
variable{F F':γ->Prop}{H H':Hp}
def Cel(H:Hp)(A:List γ):Prop:=∀b∈A,∃o,H b=some o/\Ed o=true
theorem Cel.cons(e:H a=some o)(m:Ed o=true)(h:Cel H A):Cel H (a::A):=λb c=>(zAh.mp c).elim (λq=>q ▸ ⟨_,e,m⟩) (h b)
theorem Cel.app(h:Cel H A)(g:Cel H B):Cel H (A++B):=λb a=>(zA6.mp a).elim (h b) (g b)
theorem Pa.cells{v:V}{d:D}{A:List γ}(r:Pa F H v d A):Cel H A:=by induction r using Pa.rec (motive_2:=λ_ _ A _=>Cel H A) with|q e r i=>exact i|l e r i=>exact Cel.cons e rfl i|dct e _ r i=>exact Cel.cons e rfl i|ins e _ r i=>exact Cel.cons e rfl i|cons _ _ i j=>exact Cel.app i j|_=>nofun
theorem O4.cells{vs:List V}{ds:List D}{A:List γ}(r:O4 F H vs ds A):Cel H A:=by induction r using O4.rec (motive_1:=λ_ _ _ _=>True) with|cons h _ i j=>exact Cel.app h.cells j|nil=>nofun|_=>trivial
structure Kp(F:γ->Prop)(H:Hp)(W F':γ->Prop)(H':Hp):Prop where
 fr:∀b o,H b=some o->¬W b->H' b=some o
 wm:∀b,W b->∃o,H b=some o/\Ed o=true
 wf:∀b,W b->¬F b
 mF:∀b,F b->F' b
theorem Kp.q(k:Kp F H W F' H')(h:H a=some (.q vs)):H' a=some (.q vs):=by refine k.fr a _ h λw=>?_;obtain⟨o,e,m⟩:=k.wm a w;rw[h] at e;cases e;cases m
theorem Kp.imm(k:Kp F H W F' H')(h:H a=some o)(n:Ed o=false):H' a=some o:=by refine k.fr a _ h λw=>?_;obtain⟨o,e,m⟩:=k.wm a w;rw[h] at e;cases e;rw[n] at m;cases m
theorem Kp.frz(k:Kp F H W F' H')(h:H a=some (.frz o u)):H' a=some (.frz o u):=by refine k.fr a _ h λw=>?_;obtain⟨o,e,m⟩:=k.wm a w;rw[h] at e;cases e;cases m
theorem Pa.keep{W:γ->Prop}(k:Kp F H W F' H'){v:V}{d:D}{A:List γ}(r:Pa F H v d A):(∀b∈A,¬W b)->Pa F' H' v d A:=by induction r using Pa.rec (motive_2:=λa c A _=>(∀b∈A,¬W b)->O4 F' H' a c A) with|q e r i=>exact λh=>.q (k.q e) (i h)|l e r i=>exact λh=>.l (k.fr _ _ e (zB6.mp h).1) (i (zB6.mp h).2)|lstZ e f r i=>exact λh=>.lstZ (k.fr _ _ e λw=>k.wf _ w f) (k.mF _ f) (i h)|dct e q r i=>exact λh=>.dct (k.fr _ _ e (zB6.mp h).1) q (i (zB6.mp h).2)|dctZ e f q r i=>exact λh=>.dctZ (k.fr _ _ e λw=>k.wf _ w f) (k.mF _ f) q (i h)|ins e q r i=>exact λh=>.ins (k.fr _ _ e (zB6.mp h).1) q (i (zB6.mp h).2)|insZ e f q r i=>exact λh=>.insZ (k.fr _ _ e λw=>k.wf _ w f) (k.mF _ f) q (i h)|scr e=>exact λ_=>.scr (k.frz e)|exn e g q r i=>exact λh=>.exn (k.imm e rfl) (k.imm g rfl) q (i h)|cons _ _ i j h=>exact O4.cons (i (zBn.mp h).1) (j (zBn.mp h).2)|nil=>constructor|_=>intro;constructor
theorem O4.keep{W:γ->Prop}(k:Kp F H W F' H'){vs:List V}{ds:List D}{A:List γ}(r:O4 F H vs ds A):(∀b∈A,¬W b)->O4 F' H' vs ds A:=by induction r using O4.rec (motive_1:=λ_ _ _ _=>True) with|nil=>exact λ_=>O4.nil|cons r _ i j=>exact λh=>O4.cons (r.keep k (zBn.mp h).1) (j (zBn.mp h).2)|_=>trivial
theorem Kp.same(s:Same H H'):Kp F H (λ_=>False) F H':=⟨λb o e _=>s b o e,λ_ w=>w.elim,λ_ w=>w.elim,λ_ f=>f⟩
theorem Pa.same(r:Pa F H v d A)(s:Same H H'):Pa F H' v d A:=r.keep (Kp.same s) λ_ _=>id
theorem O4.same(r:O4 F H vs ds A)(s:Same H H'):O4 F H' vs ds A:=r.keep (Kp.same s) λ_ _=>id
theorem Kp.more(m:∀b,F b->F' b):Kp F H (λ_=>False) F' H:=⟨λb o e _=>e,λ_ w=>w.elim,λ_ w=>w.elim,m⟩
mutual
theorem Pa.imm{v:V}{d:D}{A:List γ}(r:Pa F H v d A)(h:d.imm=true):A=[]:=by cases r with|q e r=>exact r.imms h|l=>cases h|dct=>cases h|ins=>cases h|_=>rfl
theorem O4.imms{vs:List V}{ds:List D}{A:List γ}(r:O4 F H vs ds A)(h:D.imms ds=true):A=[]:=by cases r with|nil=>rfl|cons r t=>have h:=zAm.mp h;rw[r.imm h.1,t.imms h.2];rfl
end
theorem qY5(a:List (Key×D)):(D.fzk a).map (·.1)=a.map (·.1)/\(D.fzk a).map (·.2)=D.fzs (a.map (·.2)):=by induction a with|nil=>exact⟨rfl,rfl⟩|cons p r b=>obtain⟨k,d⟩:=p;simp only[D.fzk,D.fzs,zAy,b.1,b.2,and_self]
theorem qG7(a:List (Str×D)):(D.fzf a).map (·.1)=a.map (·.1)/\(D.fzf a).map (·.2)=D.fzs (a.map (·.2)):=by induction a with|nil=>exact⟨rfl,rfl⟩|cons p r b=>obtain⟨k,d⟩:=p;simp only[D.fzf,D.fzs,zAy,b.1,b.2,and_self]
theorem Pa.fz{v:V}{d:D}{A:List γ}(r:Pa F H v d A)(m:∀b,F b->F' b):(∀b∈A,F' b)->Pa F' H v d.fz []:=by induction r using Pa.rec (motive_2:=λa c A _=>(∀b∈A,F' b)->O4 F' H a (D.fzs c) []) with|q e r i=>exact λh=>.q e (i h)|l e r i=>exact λh=>.lstZ e (zB6.mp h).1 (i (zB6.mp h).2)|lstZ e f r i=>exact λh=>.lstZ e (m _ f) (i h)|dct e q r i=>exact λh=>.dctZ e (zB6.mp h).1 (q.trans (qY5 _).1.symm) ((qY5 _).2 ▸ i (zB6.mp h).2)|dctZ e f q r i=>exact λh=>.dctZ e (m _ f) (q.trans (qY5 _).1.symm) ((qY5 _).2 ▸ i h)|ins e q r i=>exact λh=>.insZ e (zB6.mp h).1 (q.trans (qG7 _).1.symm) ((qG7 _).2 ▸ i (zB6.mp h).2)|insZ e f q r i=>exact λh=>.insZ e (m _ f) (q.trans (qG7 _).1.symm) ((qG7 _).2 ▸ i h)|scr e=>exact λ_=>.scr e|exn e g q r i=>exact λh=>.exn e g (q.trans (qG7 _).1.symm) ((qG7 _).2 ▸ i h)|nil=>exact O4.nil|cons _ _ i j h=>exact O4.cons (A:=[]) (B:=[]) (i (zBn.mp h).1) (j (zBn.mp h).2)|_=>intro;constructor
theorem O4.fz{vs:List V}{ds:List D}{A:List γ}(r:O4 F H vs ds A)(m:∀b,F b->F' b):(∀b∈A,F' b)->O4 F' H vs (D.fzs ds) []:=by induction r using O4.rec (motive_1:=λ_ _ _ _=>True) with|nil=>exact λ_=>O4.nil|cons r _ i j=>exact λh=>O4.cons (A:=[]) (B:=[]) (r.fz m (zBn.mp h).1) (j (zBn.mp h).2)|_=>trivial
end
theorem ec:∀{us:List V'},us.length=n+1->∃a vs,us=a::vs/\vs.length=n|a::vs,h=>⟨a,vs,rfl,Nat.succ.inj h⟩
theorem ec0(h:P [])(us:List V')(e:us.length=0):P us:=List.length_eq_zero_iff.mp e ▸ h
theorem ec1(h:∀x us,us.length=n->P (x::us))(us:List V')(e:us.length=n+1):P us:=by obtain⟨x,a,rfl,b⟩:=ec e;exact h x a b
theorem ec2(h:∀us,us.length=n->P us)(us:List V')(e:us.length+1=n+1):P us:=h us (Nat.succ.inj e)
inductive Locs(F:γ->Prop)(H:Hp):List (Option V)->List D->List γ->Prop
 |nil:Locs F H [] [] []
 |no {a:List (Option V)} {ds:List D} {A:List γ} (t:Locs F H a ds A):Locs F H (none::a) (.u::ds) A
 |so {v:V} {d:D} {B:List γ} {a:List (Option V)} {ds:List D} {A:List γ} (h:Pa F H v d B) (t:Locs F H a ds A):Locs F H (some v::a) (d::ds) (B++A)
section
variable{F F':γ->Prop}{H H':Hp}
theorem Locs.cells{n:List (Option V)}(r:Locs F H n ds A):∀b∈A,∃o,H b=some o/\Ed o=true:=by induction r with|nil=>intro b h;cases h|no t c=>exact c|so h t c=>intro b a;rcases zA6.mp a with a|a;{exact h.cells b a};exact c b a
theorem Locs.keep(k:Kp F H W F' H'){n:List (Option V)}(r:Locs F H n ds A):(∀b∈A,¬W b)->Locs F' H' n ds A:=by induction r with|nil=>exact λ_=>.nil|no t a=>exact λh=>.no (a h)|so h t a=>exact λq=>.so (h.keep k λb c=>q b (zA6.mpr (.inl c))) (a λb c=>q b (zA6.mpr (.inr c)))
theorem Locs.same{n:List (Option V)}(r:Locs F H n ds A)(s:Same H H'):Locs F H' n ds A:=r.keep (Kp.same s) λ_ _=>id
theorem Locs.len{n:List (Option V)}(r:Locs F H n ds A):n.length=ds.length:=by induction r with|nil=>rfl|no t a=>simp[a]|so h t a=>simp[a]
theorem Locs.append{n:List (Option V)}(r:Locs F H n ds A)(t:Locs F H τ es B):Locs F H (n++τ) (ds++es) (A++B):=by induction r with|nil=>exact t|no _ a=>exact .no a|so h _ a=>rw[zAo];exact .so h a
inductive He(F:γ->Prop)(H:Hp):Option V->D->List γ->Prop
 |no:He F H none .u []
 |so {v:V} {d:D} {B:List γ} (h:Pa F H v d B):He F H (some v) d B
theorem Locs.cons{n:List (Option V)}(h:He F H o d B)(t:Locs F H n ds A):Locs F H (o::n) (d::ds) (B++A):=by cases h with|no=>exact .no t|so h=>exact .so h t
theorem Locs.split:∀{ds:List D}{n:List (Option V)}{A:List γ}{i:Nat}{d:D},Locs F H n ds A->ds[i]?=some d->∃σ1 o σ2 ds1 a A1 B A2,n=σ1++o::σ2/\ds=ds1++d::a/\σ1.length=i/\ds1.length=i/\A=A1++(B++A2)/\Locs F H σ1 ds1 A1/\He F H o d B/\Locs F H σ2 a A2:=by
 intro ds;induction ds with
 |nil=>intro n A i d _ h;simp at h|cons e r m=>
  intro n A i d L h;cases i with
  |zero=>
   have:e=d:=by simpa using h
   subst this;cases L with|no t=>exact⟨[],none,_,[],_,[],[],_,rfl,rfl,rfl,rfl,rfl,.nil,.no,t⟩|so q t=>exact⟨[],some _,_,[],_,[],_,_,rfl,rfl,rfl,rfl,rfl,.nil,.so q,t⟩
  |succ i=>
   have h:r[i]?=some d:=by simpa using h
   cases L with|no t=>obtain⟨σ1,o,σ2,ds1,a,A1,B,A2,b,e2,c,f,g,j,k,l⟩:=m t h;exact⟨none::σ1,o,σ2,_::ds1,a,A1,B,A2,by rw[b];rfl,by rw[e2];rfl,by simp[c],by simp[f],g,.no j,k,l⟩|@so v _ B0 _ _ A0 q t=>obtain⟨σ1,o,σ2,ds1,a,A1,B,A2,b,e2,c,f,g,j,k,l⟩:=m t h;exact⟨some v::σ1,o,σ2,_::ds1,a,B0++A1,B,A2,by rw[b];rfl,by rw[e2];rfl,by simp[c],by simp[f],by rw[g,zAo],.so q j,k,l⟩
end
theorem qp1{x:α}(h:l1.length=i):(l1++x::l2).set i y=l1++y::l2:=by subst h;rw[Mx _ _ (zA3 _),Nat.sub_self];rfl
theorem qC4{x:α}(h:l1.length=i):(l1++x::l2)[i]?=some x:=by subst h;simp
structure Ok(F:γ->Prop)(H:Hp)(A:List γ):Prop where
 sep:∀b,A.count b<=1
 fro:∀b,F b->A.count b=0
 ex:∀b,F b->∃o,H b=some o
structure Pc(F:γ->Prop)(H:Hp)(A:List γ)(F':γ->Prop)(H':Hp)(A':List γ):Prop where
 fr:∀b o,H b=some o->A.count b=0->H' b=some o
 sub:∀b o,H b=some o->A.count b=0->A'.count b=0
 mono:∀b,F b->F' b
 fnew:∀b o,H b=some o->A.count b=0->F' b->F b
section
variable{F j k:γ->Prop}{H i l:Hp}{A A1 A2 T:List γ}
theorem Pc.refl:Pc F H A F H A:=⟨λ_ _ e _=>e,λ_ _ _ e=>e,λ_ f=>f,λ_ _ _ _ f=>f⟩
theorem Pc.trans(s:Pc F H A j i A1)(t:Pc j i A1 k l A2):Pc F H A k l A2:=⟨λb o e q=>t.fr b o (s.fr b o e q) (s.sub b o e q),λb o e q=>t.sub b o (s.fr b o e q) (s.sub b o e q),λb f=>t.mono b (s.mono b f),λb o e q f=>s.fnew b o e q (t.fnew b o (s.fr b o e q) (s.sub b o e q) f)⟩
theorem Pc.same(s:Same H i):Pc F H A F i A:=⟨λb o e _=>s b o e,λ_ _ _ e=>e,λ_ f=>f,λ_ _ _ _ f=>f⟩
theorem qb1:b∈A↔A.count b≠0:=by rw[<-List.count_pos_iff];lia
theorem Pc.kp(s:Pc F H A j i A1)(o:Ok F H A)(c:∀b∈A,∃o,H b=some o/\Ed o=true):Kp F H (λb=>A.count b≠0) j i:=⟨λb u e w=>s.fr b u e ⋯,λb w=>c b (qb1.mpr w),λb w f=>w (o.fro b f),s.mono⟩
theorem Ok.left(o:Ok F H (T++A)):Ok F H T:=⟨λb=>by have:=o.sep b;rw[zA0] at this;lia,λb f=>by have:=o.fro b f;rw[zA0] at this;lia,o.ex⟩
theorem Ok.right(o:Ok F H (T++A)):Ok F H A:=⟨λb=>by have:=o.sep b;rw[zA0] at this;lia,λb f=>by have:=o.fro b f;rw[zA0] at this;lia,o.ex⟩
theorem Ok.count(o:Ok F H A)(h:∀b,A1.count b<=A.count b):Ok F H A1:=⟨λb=>zAl (h b) (o.sep b),λb f=>by have:=o.fro b f;have:=h b;lia,o.ex⟩
theorem Pc.frame(s:Pc F H A j i A1)(o:Ok F H (T++A))(c:∀b∈T,∃o,H b=some o/\Ed o=true)(d:Ok j i A1):Ok j i (T++A1)/\Pc F H (T++A) j i (T++A1):=by
 have a:∀b,T.count b≠0->∃u,H b=some u/\A.count b=0:=λb h=>by obtain⟨u,e,_⟩:=c b (qb1.mpr h);have:=o.sep b;rw[zA0] at this;exact⟨u,e,⋯⟩
 refine⟨⟨λb=>?_,λb f=>?_,d.ex⟩,λb u e q=>?_,λb u e q=>?_,s.mono,λb u e q f=>?_⟩;{rw[zA0];by_cases h:T.count b=0;{have:=d.sep b;lia};obtain⟨u,e,q⟩:=a b h;have g:=s.sub b u e q;have:=o.sep b;rw[zA0] at this;lia};{rw[zA0,d.fro b f];by_cases h:T.count b=0;{lia};obtain⟨u,e,q⟩:=a b h;have:=o.fro b (s.fnew b u e q f);rw[zA0] at this;lia};{rw[zA0] at q;exact s.fr b u e ⋯};{rw[zA0] at q ⊢;have:=s.sub b u e ⋯;lia};rw[zA0] at q;exact s.fnew b u e ⋯ f
theorem Pc.count(s:Pc F H A j i A1)(h:∀b,A2.count b<=A1.count b):Pc F H A j i A2:=⟨s.fr,λb o e q=>by have:=s.sub b o e q;have:=h b;lia,s.mono,s.fnew⟩
theorem Pc.pre(s:Pc F H A j i A1)(h:∀b,A.count b=A2.count b):Pc F H A2 j i A1:=⟨λb o e q=>s.fr b o e (by rw[h];exact q),λb o e q=>s.sub b o e (by rw[h];exact q),s.mono,λb o e q f=>s.fnew b o e (by rw[h];exact q) f⟩
end
structure New(H:Hp)(B:List γ):Prop where
 one:∀b,B.count b<=1
 new:∀b o,H b=some o->B.count b=0
section
variable{F:γ->Prop}{H H':Hp}{A B:List γ}
theorem New.nil:New H []:=⟨λb=>by simp,λb o _=>by simp⟩
theorem New.ok(n:New H B)(o:Ok F H A)(c:∀b∈A,∃o,H b=some o/\Ed o=true)(s:Same H H'):Ok F H' (B++A):=by refine⟨λb=>?_,λb f=>?_,λb f=>?_⟩;{rw[zA0];have a:=n.one b;have d:=o.sep b;by_cases h:A.count b=0;{lia};obtain⟨u,e,_⟩:=c b (qb1.mpr h);have:=n.new b u e;lia};{rw[zA0,o.fro b f];obtain⟨u,e⟩:=o.ex b f;rw[n.new b u e]};obtain⟨u,e⟩:=o.ex b f;exact⟨u,s b u e⟩
theorem New.append(n:New H B)(s:Same H H1)(c:∀b∈B,∃o,H1 b=some o/\Ed o=true)(a:New H1 B1):New H (B++B1):=by refine⟨λb=>?_,λb o e=>?_⟩;{rw[zA0];have d:=n.one b;have f:=a.one b;by_cases h:B.count b=0;{lia};obtain⟨u,e,_⟩:=c b (qb1.mpr h);have:=a.new b u e;lia};rw[zA0,n.new b o e,a.new b o (s b o e)]
theorem Ok.same(o:Ok F H A)(s:Same H H'):Ok F H' A:=⟨o.sep,o.fro,λb f=>let ⟨u,e⟩:=o.ex b f;⟨u,s b u e⟩⟩
theorem New.stp(n:New H B)(s:Same H H'):Pc F H A F H' (B++A):=⟨λb o e _=>s b o e,λb o e q=>by rw[zA0,n.new b o e,q],λ_ f=>f,λ_ _ _ _ f=>f⟩
end
structure Exn where
 C:γ
 fs:List (Str×D)
def RepX(F:γ->Prop)(H:Hp)(e:γ)(x:Exn):Prop:=∃b,H e=some (ExcO e x.C b false)/\(x.fs=[]∨∃dx a,b=some dx/\H dx=some (XD dx a)/\a.map (·.1)=x.fs.map (·.1)/\O4 F H (a.map (·.2)) (x.fs.map (·.2)) [])
abbrev Ds:=List D
abbrev DK:=D->Ds->Prop
abbrev XKd:=Exn->Ds->Prop
abbrev VT:=Ds->DK->XKd->Prop
abbrev VTT:=Ds->(Bool->Ds->Prop)->XKd->Prop
abbrev VTA:=Ds->(Ds->Ds->Prop)->XKd->Prop
abbrev FV:=Ds->Option D
structure Vc where
 E:St->XK
 W:Nat->Bool
 av:List (Option V)
 gv:List (Option V)
structure Pd(c:Vc)(F:γ->Prop)(H:Hp)(a:St)(ds:Ds)(A:List γ):Prop where
 loc:Locs F H (a++c.gv) ds A
 ok:Ok F H A
 len:c.av.length=(a++c.gv).length
 ag:∀i,c.W i=true->(a++c.gv)[i]?=c.av[i]?
theorem Pd.same(S:Pd c F H a ds A)(s:Same H H'):Pd c F H' a ds A:=⟨S.loc.same s,S.ok.same s,S.len,S.ag⟩
def Xc(c:Vc)(xe:XKd)(F:γ->Prop)(H:Hp)(A:List γ):Prop:=∀x a b' e H' F' A',xe x a->RepX F' H' e x->Pd c F' H' b' a A'->Pc F H A F' H' A'->c.E b' (.ref e) none H'
theorem Xc.step(x:Xc c xe F H A)(s:Pc F H A F1 H1 A1):Xc c xe F1 H1 A1:=λy a b' e H' F' A' h r S t=>x y a b' e H' F' A' h r S (s.trans t)
def kE(c:Vc)(b:St)(F:γ->Prop)(H:Hp)(A:List γ)(Q:VK):DK:=λd a=>∀v H' F' T A',Pa F' H' v d T->Pd c F' H' b a A'->Ok F' H' (T++A')->Pc F H A F' H' (T++A')->Q v H'
inductive LiftE(c:Vc)(t:VT)(a:St)(H:Hp)(Q:VK):Prop
 |mk (F:γ->Prop) (ds:Ds) (A:List γ) (xe:XKd) (S:Pd c F H a ds A) (x:Xc c xe F H A) (q:t ds (kE c a F H A Q) xe):LiftE c t a H Q
def Bm(c:Vc)(t:VT):TE:=LiftE c t
inductive LiftV(c:Vc)(own:Bool)(f:FV)(a:St)(H:Hp)(Q:VK):Prop
 |mk (F:γ->Prop) (ds:Ds) (A:List γ) (d:D) (S:Pd c F H a ds A) (e:f ds=some d) (q:∀v H' B,Pa F H' v d B->Same H H'->(own=true->New H B)->Q v H'):LiftV c own f a H Q
def liftV(c:Vc)(own:Bool)(f:FV):TE:=LiftV c own f
inductive qaU1(c:Vc)(own:Bool)(f:Ds->Option Ds)(a:St)(H:Hp)(Q:List V->Hp->Prop):Prop
 |mk (F:γ->Prop) (ds:Ds) (A:List γ) (xs:Ds) (S:Pd c F H a ds A) (e:f ds=some xs) (q:∀vs H' B,O4 F H' vs xs B->Same H H'->(own=true->New H B)->Q vs H'):qaU1 c own f a H Q
def qaP9(c:Vc)(own:Bool)(f:Ds->Option Ds):TA:=qaU1 c own f
inductive qaU3(c:Vc)(t:VTA)(a:St)(H:Hp)(Q:List V->Hp->Prop):Prop
 |mk (F:γ->Prop) (ds:Ds) (A:List γ) (xe:XKd) (S:Pd c F H a ds A) (x:Xc c xe F H A) (q:t ds (λxs ds'=>∀vs H' F' T A',O4 F' H' vs xs T->Pd c F' H' a ds' A'->Pc F H A F' H' A'->Q vs H') xe):qaU3 c t a H Q
def qaQ0(c:Vc)(t:VTA):TA:=qaU3 c t
inductive LiftT(c:Vc)(t:VTT)(a:St)(H:Hp)(Q:Bool->Hp->Prop):Prop
 |mk (F:γ->Prop) (ds:Ds) (A:List γ) (xe:XKd) (S:Pd c F H a ds A) (x:Xc c xe F H A) (q:t ds (λb ds'=>∀H' F' A',Pd c F' H' a ds' A'->Pc F H A F' H' A'->Q b H') xe):LiftT c t a H Q
def Eb(c:Vc)(t:VTT):TT:=LiftT c t
structure VE(c:Vc)(X:Cx)(e:Lb)(t:VT):Prop where
 h:PE X e (Bm c t)
 m:∀ds (Q Q':DK) (xe xe':XKd),(∀d ds',Q d ds'->Q' d ds')->(∀x ds',xe x ds'->xe' x ds')->t ds Q xe->t ds Q' xe'
structure VV(c:Vc)(X:Cx)(e:Lb)(own:Bool)(f:FV):Prop where
 h:PE X e (liftV c own f)
structure VVs(c:Vc)(X:Cx)(es:List Lb)(own:Bool)(f:Ds->Option Ds):Prop where
 h:PA X es (qaP9 c own f)
structure VOs(c:Vc)(X:Cx)(es:List Lb)(t:VTA):Prop where
 h:PA X es (qaQ0 c t)
 m:∀ds (Q Q':Ds->Ds->Prop) (xe xe':XKd),(∀d ds',Q d ds'->Q' d ds')->(∀x ds',xe x ds'->xe' x ds')->t ds Q xe->t ds Q' xe'
structure VTe(c:Vc)(X:Cx)(e:Lb)(t:VTT):Prop where
 h:PT X e (Eb c t)
 m:∀ds (Q Q':Bool->Ds->Prop) (xe xe':XKd),(∀d ds',Q d ds'->Q' d ds')->(∀x ds',xe x ds'->xe' x ds')->t ds Q xe->t ds Q' xe'
theorem PE.mono(h:PE X e t)(i:∀a H Q,t' a H Q->t a H Q):PE X e t':=λD8 s a H Q I q=>h D8 s a H Q I (i a H Q q)
theorem PT.mono(h:PT X e t)(i:∀a H Q,t' a H Q->t a H Q):PT X e t':=λD8 s a H Q I q=>h D8 s a H Q I (i a H Q q)
theorem PW.mono(h:PW X e t)(i:∀a H Q,t' a H Q->t a H Q):PW X e t':=λw D8 s a H Q I q=>h w D8 s a H Q I (i a H Q q)
theorem PA.mono(h:PA X es t)(i:∀a H Q,t' a H Q->t a H Q):PA X es t':=λp D8 s a H Q I q=>h p D8 s a H Q I (i a H Q q)
theorem PS.mono(h:PS X st t)(i:∀D a H,t' D a H->t D a H):PS X st t':=λD8 s a H D I q=>h D8 s a H D I (i D a H q)
theorem PSs.mono(h:PSs X st t)(i:∀D a H,t' D a H->t D a H):PSs X st t':=λD8 s a H D I q=>h D8 s a H D I (i D a H q)
def orF{α:Type}(o:Option α)(k:α->Prop):Prop:=match o with|some a=>k a|none=>False
theorem qa4(h:∀a,k a->b a):orF o k->orF o b:=by cases o with|none=>exact id|some a=>exact h a
theorem qa7:orF o k↔∃a,o=some a/\k a:=by cases o with|none=>exact⟨λh=>h.elim,λ⟨_,e,_⟩=>by cases e⟩|some a=>exact⟨λh=>⟨a,rfl,h⟩,λ⟨b,e,h⟩=>by cases e;exact h⟩
section
variable{c:Vc}{X:Cx}{e:Lb}{F:γ->Prop}{H H':Hp}{t:St}{ds:Ds}{A:List γ}
theorem Pd.new(S:Pd c F H t ds A)(n:New H B)(s:Same H H'):Ok F H' (B++A):=n.ok S.ok S.loc.cells s
def B6(f:FV):VT:=λds Q _=>orF (f ds) λd=>Q d ds
def Bu(f:FV):VT:=λds Q _=>orF (f ds) λd=>d.imm=true/\Q d ds
theorem qa5(h:VV c X e true f):VE c X e (B6 f):=by refine⟨PE.mono h.h λt H Q a=>?_,λb Q Q' g i j _=>qa4 λd=>j d b⟩;obtain⟨F,b,A,g,S,x,q⟩:=a;obtain⟨d,e,q⟩:=qa7.mp q;exact⟨F,b,A,d,S,e,λv H' B r s n=>q v H' F B A r (S.same s) (S.new (n rfl) s) ((n rfl).stp s)⟩
theorem qb3(h:VV c X e own f):VE c X e (Bu f):=by refine⟨PE.mono h.h λt H Q a=>?_,λb Q Q' g i j _=>qa4 λd=>N7 (j d b)⟩;obtain⟨F,b,A,g,S,x,q⟩:=a;obtain⟨d,e,k,q⟩:=qa7.mp q;refine⟨F,b,A,d,S,e,λv H' B r s _=>?_⟩;have:=r.imm k;subst this;exact q v H' F [] A r (S.same s) (S.ok.same s) (.same s)
theorem Gc(h:PE X e (tC v))(r:∀F H,Pa F H v d []):VV c X e true (λ_=>some d):=⟨PE.mono h λt H Q ⟨F,a,A,b,S,e,q⟩=>by cases e;exact q v H [] (r F H) (λ_ _ z=>z) λ_=>New.nil⟩
noncomputable def D.known:D->Bool|.u=>false|.hole _=>false|_=>true
def rdN(i:Nat):FV:=λds=>match ds[i]? with|some d=>if d.known=true then some d else none|none=>none
theorem qn3:rdN i ds=some d↔ds[i]?=some d/\d.known=true:=by unfold rdN;cases h:ds[i]? with|none=>simp|some x=>dsimp only;split;{rename_i hk;constructor;{intro e;cases e;exact⟨rfl,hk⟩};rintro⟨e,_⟩;exact e};rename_i hk;constructor;{intro e;cases e};rintro⟨e,a⟩;cases e;exact absurd a hk
theorem Pd.at(S:Pd c F H t ds A)(hi:i<t.length)(h:ds[i]?=some d)(a:d.known=true):∃v B,t[i]?=some (some v)/\Pa F H v d B/\∀b,B.count b<=A.count b:=by
 obtain⟨σ1,o,σ2,e,f,A1,B,A2,g,e2,j,m,k,n,l,p⟩:=S.loc.split h;cases l with
 |no=>cases a|@so v _ _ r=>
  refine⟨v,B,?_,r,λb=>by rw[k];simp only[zA0];lia⟩;have:(t++c.gv)[i]?=some (some v):=by rw[g];exact qC4 j
  rwa[zAj hi] at this
theorem qaJ3(h:PE X (.Name x pos) (F4 i))(hi:∀D8 t H s,Pb X D8 t H s->i<t.length):VV c X (.Name x pos) false (rdN i):=by refine⟨λD8 s t H Q I a=>?_⟩;obtain⟨F,g,A,d,S,e,q⟩:=a;refine h D8 s t H Q I ?_;obtain⟨e,b⟩:=qn3.mp e;obtain⟨v,B,f,r,_⟩:=S.at (hi D8 t H s I) e b;exact⟨v,f,q v H B r (λ_ _ z=>z) λz=>by cases z⟩
theorem qr6(a:X.N[i]?=some x):∀D8 t H s,Pb X D8 t H s->i<t.length:=λD8 t H s I=>by
 rw[I.len];exact(zA4.mp a).1
end
def Sub(H:Hp)(B B':List γ):Prop:=∀b,B'.count b<=B.count b∨(B'.count b<=1/\H b=none)
theorem Sub.new(s:Sub H1 B B')(n:New H B)(q:Same H H1):New H B':=by refine⟨λb=>?_,λb o e=>?_⟩;{rcases s b with h|⟨h,_⟩;{have:=n.one b;lia};exact h};rcases s b with h|⟨_,h⟩;{have:=n.new b o e;lia};rw[q b o e] at h;cases h
def OpS(nw:Bool)(r:List V->Hp->VK->Prop)(g:Ds->Option D):Prop:=∀F H vs xs B d (Q:VK),O4 F H vs xs B->g xs=some d->(∀v H' B',Pa F H' v d B'->Same H H'->(if nw=true then New H B' else Sub H B B')->Q v H')->r vs H Q
def Bb(nw:Bool)(r:R2)(g:D->D->Option D):Prop:=∀F H v w x y B d (Q:VK),O4 F H [v,w] [x,y] B->g x y=some d->(∀v H' B',Pa F H' v d B'->Same H H'->(if nw=true then New H B' else Sub H B B')->Q v H')->r v w H Q
noncomputable def f2(g:D->D->Option D)(fa fb:FV):FV:=λds=>(fa ds).bind λx=>(fb ds).bind λy=>g x y
theorem qaH5:f2 g fa fb ds=some d↔∃x y,fa ds=some x/\fb ds=some y/\g x y=some d:=by unfold f2;cases a:fa ds with|none=>simp|some x=>cases b:fb ds with|none=>simp|some y=>simp
noncomputable def f1(g:D->Option D)(fa:FV):FV:=λds=>(fa ds).bind g
theorem qaH6:f1 g fa ds=some d↔∃x,fa ds=some x/\g x=some d:=by unfold f1;cases a:fa ds with|none=>simp|some x=>simp
theorem F6(r:Pa F H v d A)(s:Pa F H w e B):O4 F H [v,w] [d,e] (A++(B++[])):=.cons r (.cons s .nil)
section
variable{c:Vc}{X:Cx}{a b:Lb}{W Y nw:Bool}{fa fb:FV}{r:R2}{g:D->D->Option D}{O R:VT}
theorem op_vv(h:Bb nw r g):∀N H Q,liftV c (nw||(W&&Y)) (f2 g fa fb) N H Q->tOp r (liftV c W fa) (liftV c Y fb) N H Q:=by rintro N H Q ⟨F,k,A,d,S,e,q⟩;obtain⟨x,y,m,n,p⟩:=qaH5.mp e;refine⟨F,k,A,x,S,m,λv H1 B1 l a s=>⟨F,k,A,y,S.same a,n,λw H2 B2 t i z=>?_⟩⟩;refine h F H2 v w x y _ d Q (F6 (l.same i) t) p λu H3 B3 B C f=>?_;refine q u H3 B3 B ((a.trans i).trans C) λj=>?_;cases nw with|true=>rw[if_pos rfl] at f;exact⟨f.one,λb o e=>f.new b o (i b o (a b o e))⟩|false=>rw[if_neg ∅] at f;have j:=zAm.mp j;have:=(s j.1).append a l.cells (z j.2);exact f.new (by rw[zAd];exact this) (a.trans i)
def t2(g:D->D->Option D)(O R:VT):VT:=λds Q xe=>O ds (λx ds1=>R ds1 (λy a=>orF (g x y) λd=>Q d a) xe) xe
theorem qaw2(j:VE c X a O)(k:VE c X b R):∀ds (Q Q':DK) (xe f:XKd),(∀d e,Q d e->Q' d e)->(∀x e,xe x e->f x e)->t2 g O R ds Q xe->t2 g O R ds Q' f:=λds Q Q' xe f l i=>j.m _ _ _ _ _ (λd n=>k.m _ _ _ _ _ (λd h=>qa4 λz=>l z h) i) i
theorem op_ee(s:VE c X a O)(i:VE c X b R)(h:Bb true r g):∀N H Q,Bm c (t2 g O R) N H Q->tOp r (Bm c O) (Bm c R) N H Q:=by
 rintro N H Q ⟨F,t,A,o,S,x,q⟩;refine⟨F,t,A,o,S,x,s.m _ _ _ _ _ (λp j q v H1 F1 T A1 y S1 B C=>?_) (λ_ _ z=>z) q⟩;have e:Pc F H A F1 H1 A1:=C.count λb=>by rw[zA0];lia
 refine⟨F1,j,A1,o,S1,x.step e,i.m _ _ _ _ _ (λD E q w H2 F2 T2 A2 G S2 L I=>?_) (λ_ _ z=>z) q⟩;obtain⟨d,J,q⟩:=qa7.mp q;have f:Pc F1 H1 A1 F2 H2 A2:=I.count λb=>by rw[zA0];lia
 have k:Pa F2 H2 v p T:=y.keep (f.kp S1.ok S1.loc.cells) λb i M=>by have:=B.sep b;rw[zA0] at this;have:=qb1.mp i;lia
 refine h F2 H2 v w p D _ d Q (F6 k G) J λu H3 B3 K l n=>?_;rw[if_pos rfl] at n;exact q u H3 F2 B3 A2 K (S2.same l) (S2.new n l) ((e.trans f).trans (n.stp l))
def t2v(g:D->D->Option D)(O:VT)(fb:FV):VT:=λds Q xe=>O ds (λx ds1=>orF ((fb ds1).bind (g x)) λd=>Q d ds1) xe
theorem qaB6(h:VE c X a O):∀ds (Q Q':DK) (xe e:XKd),(∀d b,Q d b->Q' d b)->(∀x b,xe x b->e x b)->t2v g O fb ds Q xe->t2v g O fb ds Q' e:=λds Q Q' xe e i j=>h.m _ _ _ _ _ (λd f=>qa4 λz=>i z f) j
theorem op_ev(s:VE c X a O)(h:Bb true r g):∀N H Q,Bm c (t2v g O fb) N H Q->tOp r (Bm c O) (liftV c Y fb) N H Q:=by
 rintro N H Q ⟨F,t,A,B,S,x,q⟩;refine⟨F,t,A,B,S,x,s.m _ _ _ _ _ (λC j q v H1 F1 T A1 D S1 L E=>?_) (λ_ _ z=>z) q⟩;have k:Pc F H A F1 H1 A1:=E.count λb=>by rw[zA0];lia
 obtain⟨d,l,q⟩:=qa7.mp q;obtain⟨y,G,l⟩:=zA1.mp l;refine⟨F1,j,A1,y,S1,G,λw H2 B2 I n _=>?_⟩;refine h F1 H2 v w C y _ d Q (F6 (D.same n) I) l λu H3 B3 J K p=>?_;rw[if_pos rfl] at p;have f:=n.trans K;have i:New H1 B3:=⟨p.one,λb o e=>p.new b o (n b o e)⟩;exact q u H3 F1 B3 A1 J (S1.same f) (S1.new i f) (k.trans (i.stp f))
def OpS1(nw:Bool)(r:V->Hp->VK->Prop)(g:D->Option D):Prop:=∀F H v x B d (Q:VK),Pa F H v x B->g x=some d->(∀v H' B',Pa F H' v d B'->Same H H'->(if nw=true then New H B' else Sub H B B')->Q v H')->r v H Q
def t1(g:D->Option D)(O:VT):VT:=λds Q xe=>O ds (λx ds1=>orF (g x) λd=>Q d ds1) xe
variable{U:V->Hp->VK->Prop}{g1:D->Option D}
theorem op_v(h:OpS1 nw U g1):∀N H Q,liftV c (nw||W) (f1 g1 fa) N H Q->liftV c W fa N H (λx H1=>U x H1 Q):=by rintro N H Q ⟨F,g,A,d,S,e,q⟩;obtain⟨x,i,j⟩:=qaH6.mp e;refine⟨F,g,A,x,S,i,λv H1 B1 U f k=>?_⟩;refine h F H1 v x _ d Q U j λu H3 B3 l m a=>?_;refine q u H3 B3 l (f.trans m) λn=>?_;cases nw with|true=>rw[if_pos rfl] at a;exact⟨a.one,λb o e=>a.new b o (f b o e)⟩|false=>rw[if_neg ∅] at a;exact a.new (k n) f
end
theorem qX8(d:Ok F1 H1 (T++A1))(c:Pc F H A F1 H1 (T++A1))(j:∀b∈A1,∃o,H1 b=some o/\Ed o=true)(i:Same H1 H3)(g:Sub H1 T B):Ok F1 H3 (B++A1)/\Pc F H A F1 H3 (B++A1):=by refine⟨⟨λb=>?_,λb f=>?_,λb f=>let ⟨u,e⟩:=d.ex b f;⟨u,i b u e⟩⟩,λb o e q=>i b o (c.fr b o e q),λb o e q=>?_,c.mono,c.fnew⟩;{have:=d.sep b;rw[zA0] at this ⊢;rcases g b with h|⟨h,a⟩;{lia};by_cases k:A1.count b=0;{lia};obtain⟨o,e,_⟩:=j b (qb1.mpr k);rw[e] at a;cases a};{have:=d.fro b f;rw[zA0] at this ⊢;rcases g b with h|⟨h,a⟩;{lia};obtain⟨o,e⟩:=d.ex b f;rw[e] at a;cases a};have:=c.sub b o e q;rw[zA0] at this ⊢;rcases g b with h|⟨h,a⟩;{lia};rw[c.fr b o e q] at a;cases a
section
variable{c:Vc}{X:Cx}{a b:Lb}{Z ob nw:Bool}{fa fb:FV}{r:R2}{g:D->D->Option D}{U Y:VT}
theorem qaX9(D:VE c X a U)(e:VE c X b Y)(h:Bb false r g):∀R H Q,Bm c (t2 g U Y) R H Q->tOp r (Bm c U) (Bm c Y) R H Q:=by
 rintro R H Q ⟨F,E,A,l,S,x,q⟩;refine⟨F,E,A,l,S,x,D.m _ _ _ _ _ (λn f q v H1 F1 T A1 o S1 p s=>?_) (λ_ _ z=>z) q⟩;have i:Pc F H A F1 H1 A1:=s.count λb=>by rw[zA0];lia
 refine⟨F1,f,A1,l,S1,x.step i,e.m _ _ _ _ _ (λG I q w H2 F2 T2 A2 J S2 K t=>?_) (λ_ _ z=>z) q⟩;obtain⟨d,L,q⟩:=qa7.mp q;have j:Pa F2 H2 v n T:=o.keep (t.kp S1.ok S1.loc.cells) λb e P=>by have:=p.sep b;rw[zA0] at this;have:=qb1.mp e;lia
 obtain⟨y,B⟩:=t.frame p o.cells K;refine h F2 H2 v w n G _ d Q (F6 j J) L λu H3 B3 M C k=>?_;rw[if_neg ∅] at k;rw[<-zAo] at y B;obtain⟨N,O⟩:=qX8 y (s.trans B) S2.loc.cells C (by rw[zAd] at k;exact k);exact q u H3 F2 B3 A2 M (S2.same C) N O
def Jd(g:D->D->Option D)(U:VT)(fb:FV):VT:=λds Q xe=>U ds (λx ds1=>orF (fb ds1) λy=>y.imm=true/\orF (g x y) λd=>Q d ds1) xe
theorem qap3(h:VE c X a U):∀ds (Q Q':DK) (xe e:XKd),(∀d b,Q d b->Q' d b)->(∀x b,xe x b->e x b)->Jd g U fb ds Q xe->Jd g U fb ds Q' e:=λds Q Q' xe e i j=>h.m _ _ _ _ _ (λd f=>qa4 λy=>N7 (qa4 λz=>i z f)) j
theorem qaX8(p:VE c X a U)(h:Bb false r g):∀R H Q,Bm c (Jd g U fb) R H Q->tOp r (Bm c U) (liftV c ob fb) R H Q:=by rintro R H Q ⟨F,s,A,t,S,x,q⟩;refine⟨F,s,A,t,S,x,p.m _ _ _ _ _ (λB i q v H1 F1 T A1 C S1 D E=>?_) (λ_ _ z=>z) q⟩;obtain⟨y,G,I,q⟩:=qa7.mp q;obtain⟨d,J,q⟩:=qa7.mp q;refine⟨F1,i,A1,y,S1,G,λw H2 B2 k j _=>?_⟩;have:=k.imm I;subst this;refine h F1 H2 v w B y _ d Q (F6 (C.same j) k) J λu H3 B3 K L l=>?_;rw[if_neg ∅,zAd,zAd] at l;have f:=j.trans L;have M:Sub H1 T B3:=λb=>(l b).imp id λ⟨N,n⟩=>⟨N,by cases e:H1 b with|none=>rfl|some o=>rw[j b o e] at n;cases n⟩;obtain⟨O,P⟩:=qX8 D E S1.loc.cells f M;exact q u H3 F1 B3 A1 K (S1.same f) O P
theorem qa6:VVs c X [] true (λ_=>some []):=⟨PA.mono ql4 λR H Q ⟨F,a,A,b,S,e,q⟩=>by cases e;exact q [] H [] .nil (λ_ _ z=>z) λ_=>New.nil⟩
noncomputable def Ba(fa:FV)(a:Ds->Option Ds):Ds->Option Ds:=λds=>(fa ds).bind λx=>(a ds).bind λxs=>some (x::xs)
theorem qat4{a:Ds->Option Ds}:Ba fa a ds=some xs↔∃x r,fa ds=some x/\a ds=some r/\xs=x::r:=by unfold Ba;cases b:fa ds with|none=>simp|some x=>cases c:a ds with|none=>simp|some y=>simp[eq_comm]
theorem qa2(k:VV c X e Z fa)(l:VVs c X es own f)(m:Kj (e::es) X.env=(false,eval e X.env)::Kj es X.env):VVs c X (e::es) (Z&&own) (Ba fa f):=by refine⟨PA.mono (qc5 k.h l.h m) λR H Q b=>?_⟩;obtain⟨F,g,A,u,S,e,q⟩:=b;obtain⟨x,r,n,e2,rfl⟩:=qat4.mp e;refine⟨F,g,A,x,S,n,λv H1 B1 i d o=>⟨F,g,A,r,S.same d,e2,λp H2 B2 s j t=>?_⟩⟩;refine q (v::p) H2 (B1++B2) (.cons (i.same j) s) (d.trans j) λa=>?_;have a:=zAm.mp a;exact(o a.1).append d i.cells (t a.2)
variable{rc:List V->Hp->VK->Prop}{W:Ds->Option D}
theorem qaO5(h:OpS nw rc W):∀R H Q,liftV c (nw||own) (λds=>(f ds).bind W) R H Q->tCB rc (qaP9 c own f) R H Q:=by rintro R H Q ⟨F,ds,A,d,S,e,q⟩;obtain⟨i,j,e2⟩:=zA1.mp e;refine⟨F,ds,A,i,S,j,λk H1 B1 l g m=>h F H1 k i B1 d Q l e2 λu H3 B3 n p a=>q u H3 B3 n (g.trans p) λr=>?_⟩;cases nw with|true=>rw[if_pos rfl] at a;exact⟨a.one,λb o e=>a.new b o (g b o e)⟩|false=>rw[if_neg ∅] at a;exact a.new (m r) g
def tcO(W:Ds->Option D)(t:VTA):VT:=λds Q xe=>t ds (λxs ds1=>orF (W xs) λd=>Q d ds1) xe
theorem qaB4(f:VOs c X es t):∀ds (Q Q':DK) (xe b:XKd),(∀d a,Q d a->Q' d a)->(∀x a,xe x a->b x a)->tcO W t ds Q xe->tcO W t ds Q' b:=λds Q Q' xe b g h=>f.m _ _ _ _ _ (λd e=>qa4 λz=>g z e) h
theorem opc_o(e:VOs c X es t)(h:OpS true rc W):∀R H Q,Bm c (tcO W t) R H Q->tCB rc (qaQ0 c t) R H Q:=by rintro R H Q ⟨F,f,A,g,S,x,q⟩;refine⟨F,f,A,g,S,x,e.m _ _ _ _ _ (λi j q k H1 F1 T A1 l S1 n=>?_) (λ_ _ z=>z) q⟩;obtain⟨d,o,q⟩:=qa7.mp q;refine h F1 H1 k i T d Q l o λu H3 B3 p a b=>?_;rw[if_pos rfl] at b;exact q u H3 F1 B3 A1 p (S1.same a) (S1.new b a) (n.trans (b.stp a))
end
def D.kids:D->List D|.q ds=>ds|.l false ds=>ds|.dct false kvs=>kvs.map (·.2)|.ins false _ fs=>fs.map (·.2)|_=>[]
noncomputable def Hv{a:Type}:List (a×D)->Nat->D->List (a×D)|[],_,_=>[]|(k,_)::r,0,x=>(k,x)::r|p::r,n+1,x=>p::Hv r n x
theorem qS3{c:Type}:∀(l:List (c×D))(n:Nat)(x:D),(Hv l n x).map (·.1)=l.map (·.1)/\(Hv l n x).map (·.2)=(l.map (·.2)).set n x|[],_,_=>⟨rfl,rfl⟩|(k,_)::r,0,x=>⟨rfl,rfl⟩|p::r,n+1,x=>by obtain⟨a,b⟩:=qS3 r n x;simp only[Hv,zAy,a,b,List.set_cons_succ,and_self]
def D.setK:D->Nat->D->D|.q ds,n,x=>.q (ds.set n x)|.l z ds,n,x=>.l z (ds.set n x)|.dct z kvs,n,x=>.dct z (Hv kvs n x)|.ins z C fs,n,x=>.ins z C (Hv fs n x)|d,_,_=>d
def Lnk(H:Hp)(u:V)(n:Nat)(w:V):Prop:=∃a,u=.ref a/\((∃vs,H a=some (.q vs)/\vs[n]?=some w)∨(∃vs,H a=some (.l vs)/\vs[n]?=some w)∨(∃kvs,H a=some (.dK kvs)/\(kvs.map (·.2))[n]?=some w)∨∃C dx fs,H a=some (.ins C dx fs)/\(fs.map (·.2))[n]?=some w)
section
variable{F F':γ->Prop}{H H':Hp}
theorem O4.split:∀{ds:List D}{vs:List V}{A:List γ}{i:Nat}{d:D},O4 F H vs ds A->ds[i]?=some d->∃b v c ds1 a A1 B A2,vs=b++v::c/\ds=ds1++d::a/\b.length=i/\ds1.length=i/\A=A1++(B++A2)/\O4 F H b ds1 A1/\Pa F H v d B/\O4 F H c a A2:=by
 intro ds;induction ds with
 |nil=>intro K A i d _ h;simp at h|cons e r f=>
  intro K A i d L h;cases i with
  |zero=>
   have:e=d:=by simpa using h
   subst this;cases L with|cons q t=>exact⟨[],_,_,[],_,[],_,_,rfl,rfl,rfl,rfl,rfl,.nil,q,t⟩
  |succ i=>
   have h:r[i]?=some d:=by simpa using h
   cases L with|@cons v _ B0 _ _ A0 q t=>obtain⟨σ1,o,σ2,ds1,a,A1,B,A2,g,e2,j,k,l,m,n,p⟩:=f t h;exact⟨v::σ1,o,σ2,_::ds1,a,B0++A1,B,A2,by rw[g];rfl,by rw[e2];rfl,by simp[j],by simp[k],by rw[l,zAo],.cons q m,n,p⟩
theorem O4.append(r:O4 F H vs ds A)(t:O4 F H a es B):O4 F H (vs++a) (ds++es) (A++B):=by induction vs generalizing ds A with|nil=>cases r;exact t|cons v vs b=>cases r with|cons h c=>rw[zAo];exact .cons h (b c)
theorem O4.kid(r:O4 F H vs ds A)(h:ds[n]?=some d):∃(w:V)(B C:List γ),vs[n]?=some w/\Pa F H w d B/\(∀b,A.count b=B.count b+C.count b)/\∀{F':γ->Prop}{H':Hp}{W:γ->Prop}(d':D)(B':List γ),Kp F H W F' H'->(∀b∈C,¬W b)->Pa F' H' w d' B'->∃A':List γ,O4 F' H' vs (ds.set n d') A'/\∀b,A'.count b=B'.count b+C.count b:=by obtain⟨f,v,g,i,j,A1,B,A2,c,e2,l,m,o,p,q,s⟩:=r.split h;refine⟨v,B,A1++A2,by rw[c];exact qC4 l,q,λb=>by rw[o];simp only[zA0];lia,λ{F' H' W} d' B' k e t=>⟨A1++(B'++A2),?_,λb=>by simp only[zA0];lia⟩⟩;rw[c,e2,qp1 m];exact(p.keep k λb a=>e b (zA6.mpr (.inl a))).append (.cons t (s.keep k λb a=>e b (zA6.mpr (.inr a))))
theorem Pa.kid(r:Pa F H p d0 A)(h:d0.kids[n]?=some d):∃(w:V)(B C:List γ),Lnk H p n w/\Pa F H w d B/\(∀b,A.count b=B.count b+C.count b)/\∀{F':γ->Prop}{H':Hp}{W:γ->Prop}(d':D)(B':List γ),Kp F H W F' H'->(∀b∈C,¬W b)->Pa F' H' w d' B'->∃A':List γ,Pa F' H' p (d0.setK n d') A'/\∀b,A'.count b=B'.count b+C.count b:=by cases r with|@q a vs ds _ e r=>obtain⟨w,B,C,f,g,i,j⟩:=r.kid (n:=n) h;refine⟨w,B,C,⟨a,rfl,.inl ⟨vs,e,f⟩⟩,g,i,λ{F' H' W} d' B' k c l=>?_⟩;obtain⟨A',m,q2⟩:=j d' B' k c l;exact⟨A',.q (k.q e) m,q2⟩|@l a vs ds A e r=>obtain⟨w,B,C,f,g,i,j⟩:=r.kid (n:=n) h;refine⟨w,B,a::C,⟨a,rfl,.inr (.inl ⟨vs,e,f⟩)⟩,g,λb=>by rw[zAr,zAr,i];lia,λ{F' H' W} d' B' k c l=>?_⟩;obtain⟨A',m,q2⟩:=j d' B' k (λb o=>c b (zA9 _ o)) l;exact⟨a::A',.l (k.fr a _ e (c a zAf)) m,λb=>by rw[zAr,zAr,q2];lia⟩|@dct a kvs kds A e q r=>obtain⟨w,B,C,f,g,i,j⟩:=r.kid (n:=n) h;refine⟨w,B,a::C,⟨a,rfl,.inr (.inr (.inl ⟨kvs,e,f⟩))⟩,g,λb=>by rw[zAr,zAr,i];lia,λ{F' H' W} d' B' k c l=>?_⟩;obtain⟨A',m,q2⟩:=j d' B' k (λb o=>c b (zA9 _ o)) l;obtain⟨s,t⟩:=qS3 kds n d';exact⟨a::A',.dct (k.fr a _ e (c a zAf)) (q.trans s.symm) (by rw[t];exact m),λb=>by rw[zAr,zAr,q2];lia⟩|@ins a C0 dx fvs fds A e q r=>obtain⟨w,B,C,f,g,i,j⟩:=r.kid (n:=n) h;refine⟨w,B,a::C,⟨a,rfl,.inr (.inr (.inr ⟨C0,dx,fvs,e,f⟩))⟩,g,λb=>by rw[zAr,zAr,i];lia,λ{F' H' W} d' B' k c l=>?_⟩;obtain⟨A',m,q2⟩:=j d' B' k (λb o=>c b (zA9 _ o)) l;obtain⟨s,t⟩:=qS3 fds n d';exact⟨a::A',.ins (k.fr a _ e (c a zAf)) (q.trans s.symm) (by rw[t];exact m),λb=>by rw[zAr,zAr,q2];lia⟩|_=>cases (show (none:Option D)=some _ from h)
def D.getP:D->List Nat->Option D|d,[]=>some d|d,n::p=>match d.kids[n]? with|some e=>e.getP p|none=>none
def D.setP:D->List Nat->D->D|_,[],x=>x|d,n::p,x=>match d.kids[n]? with|some e=>d.setK n (e.setP p x)|none=>d
def Walk(H:Hp):V->List Nat->V->Prop|u,[],w=>u=w|u,n::p,w=>∃v,Lnk H u n v/\Walk H v p w
theorem Pa.path:∀{p:List Nat}{a:V}{d0 d:D}{A:List γ},Pa F H a d0 A->d0.getP p=some d->∃(w:V)(B C:List γ),Walk H a p w/\Pa F H w d B/\(∀b,A.count b=B.count b+C.count b)/\∀{F':γ->Prop}{H':Hp}{W:γ->Prop}(d':D)(B':List γ),Kp F H W F' H'->(∀b∈C,¬W b)->Pa F' H' w d' B'->∃A':List γ,Pa F' H' a (d0.setP p d') A'/\∀b,A'.count b=B'.count b+C.count b:=by intro p;induction p with|nil=>intro a d0 d A r h;cases h;exact⟨a,A,[],rfl,r,λb=>by simp,λ{F' H' W} d' B' k f g=>⟨B',g,λb=>by simp⟩⟩|cons n p j=>intro a d0 d A r h;unfold D.getP at h;cases c:d0.kids[n]? with|none=>rw[c] at h;cases h|some e=>rw[c] at h;obtain⟨l,B1,C1,m,o,q,s⟩:=r.kid c;obtain⟨w,B,C,t,u,v,x⟩:=j o h;refine⟨w,B,C++C1,⟨l,m,t⟩,u,λb=>by rw[q,v,zA0];lia,λ{F' H' W} d' B' k f g=>?_⟩;obtain⟨A1,y,q2⟩:=x d' B' k (λb i=>f b (zA6.mpr (.inl i))) g;obtain⟨A2,z,E⟩:=s (e.setP p d') A1 k (λb i=>f b (zA6.mpr (.inr i))) y;refine⟨A2,?_,λb=>by rw[E,q2,zA0];lia⟩;unfold D.setP;rw[c];exact z
def Bc(ds:Ds)(i:Nat)(p:List Nat):Option D:=match ds[i]? with|some d=>d.getP p|none=>none
def Bj(ds:Ds)(i:Nat)(p:List Nat)(x:D):Ds:=match ds[i]? with|some d=>ds.set i (d.setP p x)|none=>ds
theorem qam1(h:D.getP .u p=some d):p=[]/\d=.u:=by cases p with|nil=>cases h;exact⟨rfl,rfl⟩|cons n p=>cases (show (none:Option D)=some _ from h)
theorem Locs.place(L:Locs F H K ds A)(h:Bc ds i p=some d)(g:d≠.u):∃(u w:V)(B C:List γ),K[i]?=some (some u)/\Walk H u p w/\Pa F H w d B/\(∀b,A.count b=B.count b+C.count b)/\∀{F':γ->Prop}{H':Hp}{W:γ->Prop}(d':D)(B':List γ),Kp F H W F' H'->(∀b∈C,¬W b)->Pa F' H' w d' B'->∃A':List γ,Locs F' H' K (Bj ds i p d') A'/\∀b,A'.count b=B'.count b+C.count b:=by unfold Bc at h;cases c:ds[i]? with|none=>rw[c] at h;cases h|some J=>rw[c] at h;obtain⟨σ1,o,σ2,j,l,A1,B0,A2,f,e2,m,n,q,s,t,v⟩:=L.split c;cases t with|no=>exact absurd (qam1 h).2 g|@so u _ _ r=>obtain⟨w,B,C,x,y,z,E⟩:=r.path h;refine⟨u,w,B,A1++(C++A2),by rw[f];exact qC4 m,x,y,λb=>by rw[q];simp only[zA0,z];lia,λ{F' H' W} d' B' k e G=>?_⟩;obtain⟨A',I,q2⟩:=E d' B' k (λb a=>e b (zA6.mpr (.inr (zA6.mpr (.inl a))))) G;refine⟨A1++(A'++A2),?_,λb=>by simp only[zA0,q2];lia⟩;unfold Bj;rw[c,f];dsimp only;rw[e2,qp1 n];exact(s.keep k λb a=>e b (zA6.mpr (.inl a))).append (.so I (v.keep k λb a=>e b (zA6.mpr (.inr (zA6.mpr (.inr a))))))
theorem Lnk.fn(h:Lnk H u n v)(h':Lnk H u n w):v=w:=by obtain⟨a,rfl,h⟩:=h;obtain⟨b,e,h'⟩:=h';cases e;rcases h with⟨vs,e,h⟩|⟨vs,e,h⟩|⟨vs,e,h⟩|⟨C,dx,vs,e,h⟩<;>rcases h' with⟨vs',e',h'⟩|⟨vs',e',h'⟩|⟨vs',e',h'⟩|⟨C',dx',vs',e',h'⟩<;>rw[e] at e'<;>cases e'<;>rw[h] at h'<;>exact N8 h'
theorem Walk.fn:∀{p:List Nat}{u v w:V},Walk H u p v->Walk H u p w->v=w|[],_,_,_,h,h'=>h.symm.trans h'|n::p,_,_,_,⟨x,h1,h2⟩,⟨y,h3,h4⟩=>by cases h1.fn h3;exact Walk.fn h2 h4
theorem Lnk.same(h:Lnk H u n v)(s:Same H H'):Lnk H' u n v:=by obtain⟨a,rfl,h⟩:=h;refine⟨a,rfl,?_⟩;rcases h with⟨vs,e,h⟩|⟨vs,e,h⟩|⟨vs,e,h⟩|⟨C,dx,vs,e,h⟩;{exact .inl ⟨vs,s _ _ e,h⟩};{exact .inr (.inl ⟨vs,s _ _ e,h⟩)};{exact .inr (.inr (.inl ⟨vs,s _ _ e,h⟩))};exact .inr (.inr (.inr ⟨C,dx,vs,s _ _ e,h⟩))
theorem Walk.same:∀{p:List Nat}{u v:V},Walk H u p v->Same H H'->Walk H' u p v|[],_,_,h,_=>h|n::p,_,_,⟨x,h1,h2⟩,s=>⟨x,h1.same s,h2.same s⟩
end
section
variable{c:Vc}{X:Cx}{b:Lb}{r:R2}{g:D->D->Option D}{R:VT}
def t2n(g:D->D->Option D)(i:Nat)(R:VT):VT:=λds Q xe=>(rdN i ds).isSome=true/\R ds (λy ds1=>orF ((rdN i ds1).bind λx=>g x y) λd=>Q d ds1) xe
theorem qaB7(h:VE c X b R):∀ds (Q Q':DK) (xe e:XKd),(∀d a,Q d a->Q' d a)->(∀x a,xe x a->e x a)->t2n g i R ds Q xe->t2n g i R ds Q' e:=λds Q Q' xe e j k=>N7 (h.m _ _ _ _ _ (λd f=>qa4 λz=>j z f) k)
theorem Pd.name(S:Pd c F H O ds A)(hi:i<O.length)(h:rdN i ds=some d):∃v B,O[i]?=some (some v)/\Pa F H v d B/\∀b,B.count b<=A.count b:=let ⟨e,k⟩:=qn3.mp h
 S.at hi e k
theorem op_ne(o:VE c X b R)(h:Bb true r g)(hi:i<O.length)(q:Bm c (t2n g i R) O H Q):tOp r (F4 i) (Bm c R) O H Q:=by
 obtain⟨F,p,A,s,S,x,t,q⟩:=q;obtain⟨L,e⟩:=zBb.mp t;obtain⟨v,B0,n,_,_⟩:=S.name hi e;refine⟨v,n,F,p,A,s,S,x,o.m _ _ _ _ _ (λC D q w H1 F1 T A1 E S1 M G=>?_) (λ_ _ z=>z) q⟩;have f:Pc F H A F1 H1 A1:=G.count λb=>by rw[zA0];lia
 obtain⟨d,j,q⟩:=qa7.mp q;obtain⟨y,I,j⟩:=zA1.mp j;obtain⟨N,B,a,J,_⟩:=S1.name hi I;rw[n] at a;cases a;refine h F1 H1 v w y C _ d Q (F6 J E) j λu H3 B3 K k l=>?_;rw[if_pos rfl] at l;exact q u H3 F1 B3 A1 K (S1.same k) (S1.new l k) (f.trans (l.stp k))
end
section
variable{F:γ->Prop}{H:Hp}{K:Oa}
theorem Pa.lst_inv(r:Pa F H v (.l z ds) B):∃a vs A,v=.ref a/\H a=some (.l vs)/\O4 F H vs ds A/\∀b,A.count b<=B.count b:=by cases r with|l h r=>exact⟨_,_,_,rfl,h,r,λb=>by rw[zAr];lia⟩|lstZ h f r=>exact⟨_,_,_,rfl,h,r,λb=>zA3 _⟩
theorem Pa.tup_inv(r:Pa F H v (.q ds) B):∃a vs,v=.ref a/\H a=some (.q vs)/\O4 F H vs ds B:=by cases r with|q h r=>exact⟨_,_,rfl,h,r⟩
theorem Pa.dct_inv(r:Pa F H v (.dct z c) B):∃a kvs A,v=.ref a/\H a=some (.dK kvs)/\kvs.map (·.1)=c.map (·.1)/\O4 F H (kvs.map (·.2)) (c.map (·.2)) A/\∀b,A.count b<=B.count b:=by cases r with|dct h e r=>exact⟨_,_,_,rfl,h,e,r,λb=>by rw[zAr];lia⟩|dctZ h f e r=>exact⟨_,_,_,rfl,h,e,r,λb=>zA3 _⟩
theorem Pa.ins_inv(r:Pa F H v (.ins z C c) B):∃a dx d A,v=.ref a/\H a=some (.ins C dx d)/\d.map (·.1)=c.map (·.1)/\O4 F H (d.map (·.2)) (c.map (·.2)) A/\∀b,A.count b<=B.count b:=by cases r with|ins h e r=>exact⟨_,_,_,_,rfl,h,e,r,λb=>by rw[zAr];lia⟩|insZ h f e r=>exact⟨_,_,_,_,rfl,h,e,r,λb=>zA3 _⟩
noncomputable def D.elems:D->Option Ds|.l _ ds=>some ds|.q ds=>some ds|_=>none
theorem Pa.elems(r:Pa F H v d B)(h:d.elems=some ds):∃a vs A,v=.ref a/\(SqL K H a vs∨SqT K H a vs)/\O4 F H vs ds A/\∀b,A.count b<=B.count b:=by cases d with|l z c=>cases h;obtain⟨a,vs,A,e,h,r,q⟩:=r.lst_inv;exact⟨a,vs,A,e,.inl (.inl (.inl h)),r,q⟩|q c=>cases h;obtain⟨a,vs,e,h,r⟩:=r.tup_inv;exact⟨a,vs,_,e,.inr (.inl (.inl h)),r,λ_=>zA3 _⟩|_=>cases h
theorem O4.len(r:O4 F H vs ds A):vs.length=ds.length:=by induction vs generalizing ds A with|nil=>cases r;rfl|cons v vs a=>cases r with|cons h t=>simp[a t]
theorem qi2(a:H p=none):New H [p]:=⟨λb=>by rw[zAr];simp;split<;>lia,λb o e=>by
 have:b≠p:=λz=>by rw[z,a] at e;cases e
 simp[zAr,Ne.symm this]⟩
theorem qB7(a:H p=none)(r:O4 F H vs ds []):Pa F (upd H p (.l vs)) (.ref p) (.l false ds) [p]:=.l qc6 (r.same (Same.new a))
theorem qO0(a:H p=none)(r:O4 F H vs ds A):Pa F (upd H p (.q vs)) (.ref p) (.q ds) A:=.q qc6 (r.same (Same.new a))
theorem O4.get(r:O4 F H vs ds A)(h:ds[n]?=some d):∃w B,vs[n]?=some w/\Pa F H w d B/\∀b,B.count b<=A.count b:=by obtain⟨w,B,C,a,c,e,_⟩:=r.kid h;exact⟨w,B,a,c,λb=>by have:=e b;lia⟩
theorem O4.atI{ds:List D}{A:List γ}{i:Int}{d:D}(r:O4 F H vs ds A)(h:L2.atI ds i=some d):∃w B,L2.atI vs i=some w/\Pa F H w d B/\∀b,B.count b<=A.count b:=by unfold L2.atI at h ⊢;rw[r.len];cases e:ixN ds.length i with|none=>rw[e] at h;cases h|some j=>rw[e] at h;exact r.get h
theorem O4.sub(r:O4 F H vs ds A)(n m:Nat):∃B,O4 F H ((vs.drop n).take m) ((ds.drop n).take m) B/\∀b,B.count b<=A.count b:=by induction n generalizing vs ds A with|zero=>(induction m generalizing vs ds A with|zero=>exact⟨[],.nil,λb=>by simp⟩|succ m a=>cases r with|nil=>exact⟨[],.nil,λb=>by simp⟩|cons h t=>obtain⟨B,c,q2⟩:=a t;exact⟨_,.cons h (by simpa using c),λb=>by simp only[zA0];have:=q2 b;lia⟩)|succ n a=>cases r with|nil=>exact⟨[],by simpa using O4.nil,λb=>by simp⟩|cons h t=>obtain⟨B,c,q2⟩:=a t;exact⟨B,by simpa using c,λb=>by simp only[zA0];have:=q2 b;lia⟩
noncomputable def D.flat:D->Option V|.non=>some .non|.bl b=>some (.bl b)|.int i=>some (.int i)|.str x=>some (.str x)|_=>none
theorem Pa.flat(r:Pa F H v d B)(h:d.flat=some w):v=w/\flatV v=true:=by cases r<;>cases h<;>exact⟨rfl,rfl⟩
end
noncomputable def big:Nat:=1000000
theorem qj8:big<=Kk:=∅
section
variable{F:γ->Prop}{H:Hp}
theorem O4.imms0(r:O4 F H vs ds A)(h:D.imms ds=true):O4 F H vs ds []:=by have:=r.imms h;subst this;exact r
theorem O4.rep(r:O4 F H vs ds []):∀k:Nat,O4 F H (Ls k vs).flatten (Ls k ds).flatten []|0=>.nil|k+1=>by rw[zBw,zBw,zCl,zCl];exact r.append (B:=[]) (r.rep k)
end
noncomputable def gd(p:Prop)[Decidable p](d:D):Option D:=if p then some d else none
theorem ql8{p:Prop}[Decidable p](h:gd p d=some e):p/\d=e:=by unfold gd at h;split at h;{rename_i hp;exact⟨hp,N8 h⟩};cases h
theorem qh4{p:Prop}[Decidable p](h:p):gd p d=some d:=if_pos h
def Fi:D->D->Option D|.int i,.int j=>some (.int (i+j))|.str a,.str b=>gd (a.length+b.length<=big) (.str (a++b))|.l _ xs,.l _ ys=>gd (D.imms xs=true/\D.imms ys=true/\xs.length+ys.length<=big) (.l false (xs++ys))|_,_=>none
def rAddA:R2:=λx y H Q=>rI0 (λi j=>.int (i+j)) x y H Q∨(∃i j,x=.str i/\y=.str j/\i.length+j.length<=Kk/\Q (.str (i++j)) H)∨rCat x y H Q
theorem qg0:OpR X (K5 .Add) rAddA:=qaY1.or (qai4.or qaY0)
theorem O4.both{F:γ->Prop}{H:Hp}{x y:D}{B:List γ}(r:O4 F H [v,w] [x,y] B):∃A A2,Pa F H v x A/\Pa F H w y A2:=by cases r with|cons a t=>cases t with|cons b _=>exact⟨_,_,a,b⟩
theorem Pa.int_inv{F:γ->Prop}{H:Hp}{i:Int}{A:List γ}(r:Pa F H v (.int i) A):v=.int i:=by cases r;rfl
theorem Pa.bl_inv{F:γ->Prop}{H:Hp}{b:Bool}{A:List γ}(r:Pa F H v (.bl b) A):v=.bl b:=by cases r;rfl
theorem Pa.str_inv{F:γ->Prop}{H:Hp}{b:Str}{A:List γ}(r:Pa F H v (.str b) A):v=.str b:=by cases r;rfl
theorem qaH4{x y d:D}(h:Fi x y=some d):(∃i j,x=.int i/\y=.int j/\d=.int (i+j))∨(∃a b,x=.str a/\y=.str b/\a.length+b.length<=big/\d=.str (a++b))∨∃z z' xs ys,x=.l z xs/\y=.l z' ys/\(D.imms xs=true/\D.imms ys=true/\xs.length+ys.length<=big)/\d=.l false (xs++ys):=by unfold Fi at h;split at h;{exact .inl ⟨_,_,rfl,rfl,(N8 h).symm⟩};{exact .inr (.inl ⟨_,_,rfl,rfl,(ql8 h).1,(ql8 h).2.symm⟩)};{exact .inr (.inr ⟨_,_,_,_,rfl,rfl,(ql8 h).1,(ql8 h).2.symm⟩)};cases h
theorem qf9:Bb true rAddA Fi:=by intro F H v w x y B d Q r h q;obtain⟨A,A2,c,e⟩:=r.both;rcases qaH4 h with⟨i,j,rfl,rfl,rfl⟩|⟨a,b,rfl,rfl,hl,rfl⟩|⟨z,z2,xs,ys,rfl,rfl,hl,rfl⟩;{exact .inl ⟨i,j,c.int_inv,e.int_inv,q _ H [] (.int _) (λ_ _ z=>z) New.nil⟩};{exact .inr (.inl ⟨a,b,c.str_inv,e.str_inv,zAl hl qj8,q _ H [] (.str _) (λ_ _ z=>z) New.nil⟩)};obtain⟨a,k,_,l,m,g,_⟩:=c.lst_inv;obtain⟨b,n,_,e2,o,q2,_⟩:=e.lst_inv;refine .inr (.inr ⟨a,b,k,n,l,e2,m,o,by rw[g.len,q2.len];exact zAl hl.2.2 qj8,λp f=>?_⟩);exact q _ _ [p] (qB7 f ((g.imms0 hl.1).append (q2.imms0 hl.2.1))) (Same.new f) (qi2 f)
noncomputable def small(i:Int):Bool:=decide (-(2 ^ 64)<i)&&decide (i<2 ^ 64)
theorem qW3{i:Int}(h:small i=true):-(2 ^ 64)<i/\i<2 ^ 64:=by have:=zAm.mp h;exact⟨zAi this.1,zAi this.2⟩
def F7:D->D->Option D|.int i,.int j=>gd ((small i||small j)=true) (.int (i*j))|.l _ xs,.int k=>gd (D.imms xs=true/\xs.length*k.toNat<=big/\k<1000000/\-1000000<k) (.l false (Ls k.toNat xs).flatten)|_,_=>none
def rMulA:R2:=λx y H Q=>rI CMul (λi j=>.int (i*j)) x y H Q∨rRep x y H Q
theorem qB2:OpR X (K5 .Mult) rMulA:=qaX5.or qaX3
theorem qaH2{x y d:D}(h:F7 x y=some d):(∃i j,x=.int i/\y=.int j/\(small i||small j)=true/\d=.int (i*j))∨∃z xs k,x=.l z xs/\y=.int k/\(D.imms xs=true/\xs.length*k.toNat<=big/\k<1000000/\-1000000<k)/\d=.l false (Ls k.toNat xs).flatten:=by unfold F7 at h;split at h;{exact .inl ⟨_,_,rfl,rfl,(ql8 h).1,(ql8 h).2.symm⟩};{exact .inr ⟨_,_,_,rfl,rfl,(ql8 h).1,(ql8 h).2.symm⟩};cases h
theorem qB1:Bb true rMulA F7:=by intro F H v w x y B d Q r h q;obtain⟨A,A2,c,e⟩:=r.both;rcases qaH2 h with⟨i,j,rfl,rfl,hl,rfl⟩|⟨z,xs,k,rfl,rfl,hl,rfl⟩;{exact .inl ⟨i,j,c.int_inv,e.int_inv,(Bool.or_eq_true_iff.mp hl).imp qW3 qW3,q _ H [] (.int _) (λ_ _ z=>z) New.nil⟩};obtain⟨a,g,_,l,m,f,_⟩:=c.lst_inv;refine .inr ⟨a,k,g,l,e.int_inv,m,⋯,⋯,by rw[f.len];exact zAl hl.2.1 qj8,λp b=>?_⟩;exact q _ _ [p] (qB7 b ((f.imms0 hl.1).rep _)) (Same.new b) (qi2 b)
def gI(p:Int->Int->Bool)(f:Int->Int->D):D->D->Option D|.int i,.int j=>gd (p i j=true) (f i j)|_,_=>none
theorem qaR9{p:Int->Int->Bool}{f:Int->Int->D}{x y d:D}(h:gI p f x y=some d):∃i j,x=.int i/\y=.int j/\p i j=true/\d=f i j:=by unfold gI at h;split at h;{exact⟨_,_,rfl,rfl,(ql8 h).1,(ql8 h).2.symm⟩};cases h
theorem os_I(a:∀i j,p i j=true->C i j)(b:∀F H i j,Pa F H (fv i j) (f i j) []):Bb true (rI C fv) (gI p f):=by intro F H v w x y B d Q r h q;obtain⟨A,A2,c,e⟩:=r.both;obtain⟨i,j,rfl,rfl,g,rfl⟩:=qaR9 h;exact⟨i,j,c.int_inv,e.int_inv,a i j g,q _ H [] (b F H i j) (λ_ _ z=>z) New.nil⟩
theorem Gd(a:∀F H i j,Pa F H (fv i j) (f i j) []):Bb true (rI0 fv) (gI (λ_ _=>true) f):=by intro F H v w x y B d Q r h q;obtain⟨i,j,b,c,_,e⟩:=os_I (C:=λ_ _=>True) (fv:=fv) (λ_ _ _=>trivial) a F H v w x y B d Q r h q;exact⟨i,j,b,c,e⟩
def gSub:=gI (λ_ _=>true) λi j=>.int (i-j)
def gDiv:=gI (λ_ j=>decide (0<j)&&decide (j<2 ^ 200)) λi j=>.int (i/j)
def Hw:=gI (λ_ j=>decide (0<j)) λi j=>.int (i%j)
def gLt:=gI (λ_ _=>true) λi j=>.bl (decide (i<j))
def gLe:=gI (λ_ _=>true) λi j=>.bl (decide (i<=j))
def gGt:=gI (λ_ _=>true) λi j=>.bl (decide (j<i))
def gGe:=gI (λ_ _=>true) λi j=>.bl (decide (j<=i))
theorem qq9:Bb true (rI0 λi j=>.int (i-j)) gSub:=Gd λ_ _ _ _=>.int _
theorem qaE2:Bb true (rI CDivB λi j=>.int (i/j)) gDiv:=os_I (λi j h=>by
 have:=zAm.mp h
 exact⟨zAi this.1,zAi this.2⟩) λ_ _ _ _=>.int _
theorem qn4:Bb true (rI (λ_ j=>0<j) λi j=>.int (i%j)) Hw:=os_I (λi j h=>zAi h) λ_ _ _ _=>.int _
theorem Je:Bb true (rI0 λi j=>.bl (decide (i<j))) gLt:=Gd λ_ _ _ _=>.bl _
theorem os_le:Bb true (rI0 λi j=>.bl (decide (i<=j))) gLe:=Gd λ_ _ _ _=>.bl _
theorem Dg:Bb true (rI0 λi j=>.bl (decide (j<i))) gGt:=Gd λ_ _ _ _=>.bl _
theorem Jf:Bb true (rI0 λi j=>.bl (decide (j<=i))) gGe:=Gd λ_ _ _ _=>.bl _
noncomputable def D.isN:D->Option Bool|.non=>some true|.u=>none|.hole _=>none|_=>some false
theorem Pa.isN(r:Pa F H v d B)(h:d.isN=some b):decide (v=.non)=b:=by cases r<;>cases h<;>rfl
def gIs:D->D->Option D|x,.non=>x.isN.map .bl|.bl a,.bl b=>some (.bl (a==b))|_,_=>none
def rIs:R2:=λx y H Q=>(y=.non/\Q (.bl (decide (x=.non))) H)∨(∃b c,x=.bl b/\y=.bl c/\Q (.bl (b==c)) H)
theorem qaR8{x y d:D}(h:gIs x y=some d):(y=.non/\∃b,x.isN=some b/\d=.bl b)∨∃a b,x=.bl a/\y=.bl b/\d=.bl (a==b):=by unfold gIs at h;split at h;{obtain⟨b,e,h⟩:=zAa.mp h;exact .inl ⟨rfl,b,e,h.symm⟩};{exact .inr ⟨_,_,rfl,rfl,(N8 h).symm⟩};cases h
theorem Pa.non_inv{F:γ->Prop}{H:Hp}{A:List γ}(r:Pa F H v .non A):v=.non:=zAi (r.isN rfl)
theorem Ew:Bb true rIs gIs:=by intro F H v w x y B d Q r h q;obtain⟨A,A2,c,f⟩:=r.both;rcases qaR8 h with⟨rfl,b,e,rfl⟩|⟨a,b,rfl,rfl,rfl⟩;{refine .inl ⟨f.non_inv,?_⟩;rw[c.isN e];exact q _ H [] (.bl _) (λ_ _ z=>z) New.nil};exact .inr ⟨a,b,c.bl_inv,f.bl_inv,q _ H [] (.bl _) (λ_ _ z=>z) New.nil⟩
theorem Ei:OpR X (Kl .Is) rIs:=qaX6.or qaX7
theorem qaO7:OpR X (Kl .IsNot) (λx y H Q=>∃b c,x=.bl b/\y=.bl c/\Q (.bl (b != c)) H):=by intro D8 s f H x y v u Q I a d ⟨b,c,e,e2,q⟩;subst e;subst e2;cases a;cases d;exact PyProof.Rows.isnot_bool ⟨.bl (b != c),H,I,rfl,q⟩
def Jg:D->D->Option D|x,.non=>x.isN.map λb=>.bl (!b)|.bl a,.bl b=>some (.bl (a != b))|_,_=>none
def rIsn:R2:=λx y H Q=>(y=.non/\Q (.bl (!decide (x=.non))) H)∨(∃b c,x=.bl b/\y=.bl c/\Q (.bl (b != c)) H)
theorem qaH3{x y d:D}(h:Jg x y=some d):(y=.non/\∃b,x.isN=some b/\d=.bl !b)∨∃a b,x=.bl a/\y=.bl b/\d=.bl (a != b):=by unfold Jg at h;split at h;{obtain⟨b,e,h⟩:=zAa.mp h;exact .inl ⟨rfl,b,e,h.symm⟩};{exact .inr ⟨_,_,rfl,rfl,(N8 h).symm⟩};cases h
theorem qo8:Bb true rIsn Jg:=by intro F H v w x y B d Q r h q;obtain⟨A,A2,c,f⟩:=r.both;rcases qaH3 h with⟨rfl,b,e,rfl⟩|⟨a,b,rfl,rfl,rfl⟩;{refine .inl ⟨f.non_inv,?_⟩;rw[c.isN e];exact q _ H [] (.bl _) (λ_ _ z=>z) New.nil};exact .inr ⟨a,b,c.bl_inv,f.bl_inv,q _ H [] (.bl _) (λ_ _ z=>z) New.nil⟩
theorem qk3:OpR X (Kl .IsNot) rIsn:=qaO6.or qaO7
noncomputable def Ej(f:D->D->Option Bool):List D->List D->Option Bool|[],[]=>some true|x::xs,y::ys=>(f x y).bind λa=>(Ej f xs ys).bind λb=>some (a&&b)|_,_=>some false
def eqF(x y:D):Option Bool:=match x.flat,y.flat with|some v,some w=>some (eqV v w)|_,_=>none
def eqZ(x y:D):Option Bool:=eqF x y
def eqN:Nat->D->D->Option Bool|0,x,y=>eqZ x y|n+1,.l _ xs,.l _ ys=>Ej (eqN n) xs ys|n+1,.q xs,.q ys=>Ej (eqN n) xs ys|_,x,y=>eqZ x y
theorem qK6{f:D->D->Option Bool}:∀{xs ys:List D}{b:Bool},Ej f xs ys=some b->∃e:Nat->Bool,(∀i x y,xs[i]?=some x->ys[i]?=some y->f x y=some (e i))/\b=((Lr (min xs.length ys.length)).all e&&xs.length==ys.length)
 |[],[],b,h=>by cases h;exact⟨λ_=>true,λi x y h=>by simp at h,by simp⟩|[],y::ys,b,h=>by cases h;exact⟨λ_=>true,λi x y h=>by simp at h,by simp⟩|x::xs,[],b,h=>by cases h;exact⟨λ_=>true,λi x y _ h=>by simp at h,by simp⟩|x::xs,y::ys,b,h=>by
  obtain⟨a,k,h⟩:=zA1.mp h;obtain⟨o,l,h⟩:=zA1.mp h;cases h;obtain⟨e,m,q2⟩:=qK6 l;refine⟨λi=>match i with|0=>a|i+1=>e i,λi c d g j=>?_,?_⟩
  .cases i with
   |zero=>
    have n:x=c:=by simpa using g
    have e2:y=d:=by simpa using j
    subst n;subst e2;exact k
   |succ i=>exact m i c d (by simpa using g) (by simpa using j)
  rw[q2,zAn,zAn,Nat.add_min_add_right,List.range_succ_eq_map,Ly,Nv];show _=(_&&_&&_);have:(xs.length+1==ys.length+1)=(xs.length==ys.length):=by by_cases h:xs.length=ys.length;{simp[h]};simp[h]
  rw[this,<-Bool.and_assoc];rfl
section
variable{F:γ->Prop}{H:Hp}
theorem Pa.eqF(r1:Pa F H v x A)(c:Pa F H w y B)(h:LV.eqF x y=some b):flatV v=true/\flatV w=true/\eqV v w=b:=by unfold LV.eqF at h;cases a:x.flat with|none=>rw[a] at h;cases h|some d=>cases e2:y.flat with|none=>rw[a,e2] at h;cases h|some e=>rw[a,e2] at h;obtain⟨rfl,f1⟩:=r1.flat a;obtain⟨rfl,f2⟩:=c.flat e2;exact⟨f1,f2,N8 h⟩
theorem qZ2(n:Nat)(x y:D):(eqN (n+1) x y=LV.eqZ x y)∨(∃z xs z' ys,x=.l z xs/\y=.l z' ys)∨∃xs ys,x=.q xs/\y=.q ys:=by cases x with|l z xs=>(cases y with|l z' ys=>exact .inr (.inl ⟨_,_,_,_,rfl,rfl⟩)|_=>exact .inl rfl)|q xs=>(cases y with|q ys=>exact .inr (.inr ⟨_,_,rfl,rfl⟩)|_=>exact .inl rfl)|_=>exact .inl rfl
theorem qV1(x y:D):eqN 0 x y=LV.eqZ x y:=rfl
theorem qZ3(f:∀{v:V}{x y:D}{A B:List γ}{b:Bool},Pa F H v x A->Pa F H v y B->eqN n x y=some b->b=true):∀{vs:List V}{xs ys:List D}{A B:List γ}{b:Bool},O4 F H vs xs A->O4 F H vs ys B->Ej (eqN n) xs ys=some b->b=true:=by
 intro vs;induction vs with
 |nil=>intro xs ys A B b c d h;cases c;cases d;cases h;rfl|cons v vs e=>
  intro xs ys A B b c d h;cases c with|cons p1 t1=>cases d with|cons g t2=>
  obtain⟨a,i,h⟩:=zA1.mp h;obtain⟨k,j,h⟩:=zA1.mp h;cases h;rw[f p1 g i,e t1 t2 j];rfl
theorem qam8:∀{n:Nat}{v:V}{x y:D}{A B:List γ}{b:Bool},Pa F H v x A->Pa F H v y B->eqN n x y=some b->b=true:=by intro n;induction n with|zero=>intro v x y A B b c d h;rw[qV1] at h;obtain⟨f1,f2,rfl⟩:=c.eqF d h;exact qC6 f1|succ n k=>intro v x y A B b c d h;rcases qZ2 n x y with e|⟨z,l,q,m,rfl,rfl⟩|⟨l,m,rfl,rfl⟩;{rw[e] at h;obtain⟨f1,f2,rfl⟩:=c.eqF d h;exact qC6 f1};{obtain⟨a,o,_,rfl,g,i,_⟩:=c.lst_inv;obtain⟨p,j,_,e,f,q2,_⟩:=d.lst_inv;cases e;rw[g] at f;cases f;exact qZ3 k i q2 h};obtain⟨a,o,rfl,g,i⟩:=c.tup_inv;obtain⟨p,j,e,f,q2⟩:=d.tup_inv;cases e;rw[g] at f;cases f;exact qZ3 k i q2 h
theorem O4.getV(r:O4 F H vs ds A)(h:vs[n]?=some w):∃d B,ds[n]?=some d/\Pa F H w d B:=by have c:=r.len;have e:n<vs.length:=(zA4.mp h).1;obtain⟨f,B,a,b,_⟩:=r.get (n:=n) (d:=ds[n]'⋯) (by simp);rw[h] at a;cases a;exact⟨_,B,by simp,b⟩
theorem qZ1(r1:Pa F H v x A)(a:Pa F H w y B)(h:LV.eqZ x y=some b):EqD H n v w b:=by obtain⟨f1,f2,rfl⟩:=r1.eqF a h;exact .flat f1 f2
theorem qat6:∀{n:Nat}{v w:V}{x y:D}{A B:List γ}{b:Bool},Pa F H v x A->Pa F H w y B->eqN n x y=some b->EqD H n v w b:=by
 intro n;induction n with
 |zero=>intro v w x y A B b c d h;rw[qV1] at h;exact qZ1 c d h|succ n I=>
  intro v w x y A B b c d h;rcases qZ2 n x y with e|⟨z,J,L,K,rfl,rfl⟩|⟨J,K,rfl,rfl⟩;{rw[e] at h;exact qZ1 c d h}
  .obtain⟨a,m,_,rfl,k,g,_⟩:=c.lst_inv;obtain⟨o,r,_,rfl,l,q2,_⟩:=d.lst_inv;by_cases f:a=o;{subst f;cases qam8 (n:=n+1) c d h;exact .same a};obtain⟨e,s,rfl⟩:=qK6 h;rw[<-g.len,<-q2.len];by_cases j:m.length=r.length;{rw[j,Nat.min_self,zBc,Bool.and_true,<-j];refine .lsts f k l j λi p q t e2=>?_;obtain⟨x,_,u,C⟩:=g.getV t;obtain⟨y,_,E,G⟩:=q2.getV e2;exact I C G (s i x y u E)};have:(m.length==r.length)=false:=by simpa using j
   rw[this,Bool.and_false];exact .lens f k l j
  obtain⟨a,m,rfl,k,g⟩:=c.tup_inv;obtain⟨o,r,rfl,l,q2⟩:=d.tup_inv;by_cases f:a=o;{subst f;cases qam8 (n:=n+1) c d h;exact .same a};obtain⟨e,s,rfl⟩:=qK6 h;rw[<-g.len,<-q2.len];refine .tups f k l λi p q t e2=>?_;obtain⟨x,_,u,C⟩:=g.getV t;obtain⟨y,_,E,G⟩:=q2.getV e2;exact I C G (s i x y u E)
end
def eqT:D->D->Option Bool|.l _ xs,.l _ ys=>Ej (eqN 20) xs ys|x,y=>eqF x y
theorem Pa.rc(r1:Pa F H v x A)(d:Pa F H w y B)(h:eqT x y=some b):RcD H v w b:=by
 unfold eqT at h;split at h
 .obtain⟨a,f,_,rfl,g,j,_⟩:=r1.lst_inv;obtain⟨u,k,_,rfl,l,q2,_⟩:=d.lst_inv;obtain⟨e,m,rfl⟩:=qK6 h;rw[<-j.len,<-q2.len];by_cases c:f.length=k.length;{rw[c,Nat.min_self,zBc,Bool.and_true,<-c];refine .lsts g l c λi p q n e2=>?_;obtain⟨x,_,o,r⟩:=j.getV n;obtain⟨y,_,s,t⟩:=q2.getV e2;exact qat6 r t (m i x y o s)};have:(f.length==k.length)=false:=by simpa using c
  rw[this,Bool.and_false];exact .lens g l c
 obtain⟨f1,f2,rfl⟩:=r1.eqF d h;exact .flat f1 f2
def gEq(x y:D):Option D:=(eqT x y).map .bl
def gNe(x y:D):Option D:=(eqT x y).map λb=>.bl (!b)
theorem Bq:Bb true rEqD gEq:=by intro F H v w x y B d Q r h q;obtain⟨A,A2,a,c⟩:=r.both;obtain⟨b,e,rfl⟩:=zAa.mp h;exact⟨b,a.rc c e,q _ H [] (.bl _) (λ_ _ z=>z) New.nil⟩
theorem Dq:Bb true rNeD gNe:=by intro F H v w x y B d Q r h q;obtain⟨A,A2,a,c⟩:=r.both;obtain⟨b,e,rfl⟩:=zAa.mp h;exact⟨b,a.rc c e,q _ H [] (.bl _) (λ_ _ z=>z) New.nil⟩
def flats:List D->Option (List V)|[]=>some []|d::r=>d.flat.bind λv=>(flats r).bind λvs=>some (v::vs)
theorem O4.flats:∀{vs a:List V}{ds:List D}{A:List γ},O4 F H vs ds A->LV.flats ds=some a->vs=a/\vs.all L2.flatV=true|_,_,_,_,.nil,h=>by cases h;exact⟨rfl,rfl⟩|_,_,_,_,.cons r t,h=>by obtain⟨v,b,h⟩:=zA1.mp h;obtain⟨vs,c,h⟩:=zA1.mp h;cases h;obtain⟨rfl,f⟩:=r.flat b;obtain⟨rfl,g⟩:=t.flats c;exact⟨rfl,by rw[Ly,f,g];rfl⟩
def Jh(neg:Bool)(x y:D):Option D:=x.flat.bind λv=>y.elems.bind λys=>(flats ys).bind λa=>some (.bl (if neg then !inV v a else inV v a))
theorem Fo:Bb true (rIn K neg) (Jh neg):=by intro F H v w x y B d Q r h q;obtain⟨A,A2,b,c⟩:=r.both;obtain⟨n,e,h⟩:=zA1.mp h;obtain⟨o,i,h⟩:=zA1.mp h;obtain⟨p,j,h⟩:=zA1.mp h;cases h;obtain⟨rfl,f⟩:=b.flat e;obtain⟨a,k,A3,rfl,l,m,_⟩:=c.elems (K:=K) i;obtain⟨rfl,g⟩:=m.flats j;exact⟨a,k,rfl,l,f,g,q _ H [] (.bl _) (λ_ _ z=>z) New.nil⟩
def gIx(x y:D):Option D:=match y with|.int i=>x.elems.bind λys=>atI ys i|_=>none
theorem qaR7{x y d:D}(h:gIx x y=some d):∃i ys,y=.int i/\x.elems=some ys/\atI ys i=some d:=by cases y with|int i=>obtain⟨ys,a,h⟩:=zA1.mp h;exact⟨i,ys,rfl,a,h⟩|_=>cases h
theorem Ap:Bb false (rIx K) gIx:=by
 intro F H v w x y B d Q r h q;cases r with|@cons _ _ A _ _ _ l t=>cases t with|@cons _ _ A2 _ _ _ m _=>
 obtain⟨i,u,rfl,n,h⟩:=qaR7 h;obtain rfl:=m.int_inv;obtain⟨a,j,A3,rfl,c,o,p⟩:=l.elems (K:=K) n;obtain⟨f,B',k,g,s⟩:=o.atI h;have e:=q f H B' g (λ_ _ z=>z) (by rw[if_neg ∅];exact λb=>.inl (by rw[zA0];have:=s b;have:=p b;lia));rcases c with c|c;{exact .inl ⟨a,j,i,f,rfl,rfl,c,k,e⟩};exact .inr (.inl ⟨a,j,i,f,rfl,rfl,c,k,e⟩)
section
variable{F:γ->Prop}{H:Hp}
theorem O4.one_inv(r:O4 F H vs [x] B):∃v,vs=[v]/\Pa F H v x B:=by cases r with|cons h t=>cases t;exact⟨_,rfl,by rw[zAd];exact h⟩
theorem O4.two_inv(r:O4 F H vs [x,y] B):∃v w A C,vs=[v,w]/\Pa F H v x A/\Pa F H w y C/\∀b,B.count b=A.count b+C.count b:=by cases r with|cons h t=>cases t with|cons a t=>cases t;exact⟨_,_,_,_,rfl,h,a,λb=>by simp[zA0]⟩
end
noncomputable def fx1(g:D->Option D):Ds->Option D|[x]=>g x|_=>none
noncomputable def fx2(g:D->D->Option D):Ds->Option D|[x,y]=>g x y|_=>none
def CS1(nw:Bool)(r:List V->Hp->VK->Prop)(g:D->Option D):Prop:=∀F H v x B d (Q:VK),Pa F H v x B->g x=some d->(∀v H' B',Pa F H' v d B'->Same H H'->(if nw=true then New H B' else Sub H B B')->Q v H')->r [v] H Q
theorem CS1.ops(h:CS1 nw r g):OpS nw r (fx1 g):=by intro F H c a B d Q r e q;match a,e with|[x],e=>obtain⟨v,rfl,b⟩:=r.one_inv;exact h F H v x B d Q b e q
def Fj(x:D):Option D:=match x with|.str z=>gd (z.length<=big) (.int z.length)|.dct _ kvs=>some (.int kvs.length)|x=>x.elems.map λys=>.int ys.length
def rLenA(K:Oa):List V->Hp->VK->Prop:=λxs H Q=>(∃p ys,xs=[.ref p]/\(SqL K H p ys∨SqT K H p ys)/\Q (.int ys.length) H)∨(∃z,xs=[.str z]/\z.length<=Kk/\Q (.int z.length) H)∨(∃a kvs,xs=[V.ref a]/\H a=some (.dK kvs)/\Q (.int kvs.length) H)
theorem qC8:CallR X (.builtin "len") (rLenA X.K):=qV6.or (qV5.or qau9)
theorem qaQ3{x d:D}(h:Fj x=some d):(∃z,x=.str z/\z.length<=big/\d=.int z.length)∨(∃z kvs,x=.dct z kvs/\d=.int kvs.length)∨∃ys,x.elems=some ys/\d=.int ys.length:=by unfold Fj at h;split at h;{exact .inl ⟨_,rfl,(ql8 h).1,(ql8 h).2.symm⟩};{exact .inr (.inl ⟨_,_,rfl,(N8 h).symm⟩)};obtain⟨ys,e,h⟩:=zAa.mp h;exact .inr (.inr ⟨ys,e,h.symm⟩)
theorem qC7:CS1 true (rLenA K) Fj:=by
 intro F H v x B d Q r h q;rcases qaQ3 h with⟨z,rfl,hl,rfl⟩|⟨z,kds,rfl,rfl⟩|⟨ys,e,rfl⟩;{exact .inr (.inl ⟨z,by rw[r.str_inv],zAl hl qj8,q _ H [] (.int _) (λ_ _ z=>z) New.nil⟩)}
 .obtain⟨a,b,A,rfl,c,e,f,_⟩:=r.dct_inv;refine .inr (.inr ⟨a,b,rfl,c,?_⟩);have:b.length=kds.length:=by have:=congrArg Lv e;simpa using this
  rw[this];exact q _ H [] (.int _) (λ_ _ z=>z) New.nil
 obtain⟨a,g,A,rfl,c,f,_⟩:=r.elems (K:=K) e;refine .inl ⟨a,g,rfl,c,?_⟩;rw[f.len];exact q _ H [] (.int _) (λ_ _ z=>z) New.nil
noncomputable def gAbs:D->Option D|.int i=>some (.int (if i<0 then -i else i))|_=>none
noncomputable def gInt:D->Option D|.int i=>some (.int i)|.bl b=>some (.int (if b then 1 else 0))|_=>none
theorem qbb9:CS1 true (λxs H Q=>(∃i,xs=[.int i]/\Q (.int i) H)∨∃k,xs=[.bl k]/\Q (.int (if k then 1 else 0)) H) gInt:=by intro F H v x B d Q r h q;cases x with|int i=>cases h;cases r;exact .inl ⟨i,rfl,q _ H [] (.int _) (λ_ _ z=>z) New.nil⟩|bl i=>cases h;cases r;exact .inr ⟨i,rfl,q _ H [] (.int _) (λ_ _ z=>z) New.nil⟩|_=>cases h
def Fp(x:D):Option D:=x.elems.bind λys=>gd (D.imms ys=true) (.l false ys)
theorem qx6:CS1 true (λxs H Q=>∃p ys,xs=[.ref p]/\(SqL K H p ys∨SqT K H p ys)/\∀l,H l=none->Q (.ref l) (upd H l (.l ys))) Fp:=by intro F H v x B d Q r h q;obtain⟨ys,e,h⟩:=zA1.mp h;obtain⟨c,rfl⟩:=ql8 h;obtain⟨a,f,A,rfl,g,i,_⟩:=r.elems (K:=K) e;exact⟨a,f,rfl,g,λp b=>q _ _ [p] (qB7 b (i.imms0 c)) (Same.new b) (qi2 b)⟩
noncomputable def D.intO:D->Option Int|.int k=>some k|_=>none
def pairK:D->Option (Key×D)|.q [a,x]=>a.intO.bind λk=>if x.imm=true then some (.inl k,x) else none|_=>none
def Hx:List D->Option (List (Key×D))|[]=>some []|d::r=>(pairK d).bind λp=>(Hx r).bind λps=>some (p::ps)
noncomputable def E8(kvs:List (Key×D))(k:Key)(v:D):List (Key×D):=if (kvs.any λa=>decide (a.1=k))=true then kvs.map (λa=>if a.1=k then (a.1,v) else a) else kvs++[(k,v)]
def qx2(kvs more:List (Key×D)):List (Key×D):=more.foldl (λacc a=>E8 acc a.1 a.2) kvs
abbrev KP(F:γ->Prop)(H:Hp)(kvs:List (Key×V))(a:List (Key×D)):Prop:=Paired (λ(p:Key×V)(q:Key×D)=>p.1=q.1/\Pa F H p.2 q.2 []) kvs a
section
variable{F:γ->Prop}{H:Hp}
theorem KP.maps(h:KP F H kvs b):kvs.map (·.1)=b.map (·.1)/\O4 F H (kvs.map (·.2)) (b.map (·.2)) []:=by induction h with|nil=>exact⟨rfl,.nil⟩|cons a _ c=>exact⟨by rw[zAy,zAy,a.1,c.1],.cons (A:=[]) (B:=[]) a.2 c.2⟩
theorem KP.any(h:KP F H kvs b)(k:Key):(kvs.any λc=>decide (c.1=k))=b.any λc=>decide (c.1=k):=by induction h with|nil=>rfl|cons a _ d=>rw[zCq,zCq,a.1,d]
theorem KP.append(h:KP F H kvs b)(h':KP F H kvs' kds'):KP F H (kvs++kvs') (b++kds'):=by induction h with|nil=>exact h'|cons a _ c=>exact .cons a c
theorem KP.mapk(h:KP F H kvs c)(r:Pa F H v d []):KP F H (kvs.map λb=>if b.1=k then (b.1,v) else b) (c.map λb=>if b.1=k then (b.1,d) else b):=by induction h with|nil=>exact .nil|@cons p q _ _ a _ ih=>refine .cons ?_ ih;show (if p.1=k then (p.1,v) else p).1=(if q.1=k then (q.1,d) else q).1/\Pa F H (if p.1=k then (p.1,v) else p).2 (if q.1=k then (q.1,d) else q).2 [];rw[<-a.1];split;{exact⟨rfl,r⟩};exact a
theorem KP.put(h:KP F H kvs a)(r:Pa F H v d []):KP F H (putK kvs k v) (E8 a k d):=by unfold putK E8;rw[h.any k];split;{exact h.mapk r};exact h.append (.cons ⟨rfl,r⟩ .nil)
theorem KP.merge(h:KP F H more mored):∀{kvs:List (Key×V)}{b:List (Key×D)},KP F H kvs b->KP F H (qE7 kvs more) (qx2 b mored):=by induction h with|nil=>exact λh=>h|@cons p q _ _ a _ ih=>intro kvs b h;have:=ih (h.put (k:=p.1) a.2);rw[a.1] at this;show KP F H (qE7 (putK kvs p.1 p.2) _) (qx2 (E8 b q.1 q.2) _);rw[a.1];exact this
theorem qaG4{x:D}{i:Int}(h:x.intO=some i):x=.int i:=by cases x with|int k=>cases h;rfl|_=>cases h
theorem qaE0(r:O4 F H vs ds A)(h:Hx ds=some ps):∃kvs,qaA9 H vs kvs/\KP F H kvs ps:=by induction ds generalizing vs A ps with|nil=>cases r;cases h;exact⟨[],.nil,.nil⟩|cons d ds g=>cases r with|cons j t=>obtain⟨p,b,h⟩:=zA1.mp h;obtain⟨ps,l,h⟩:=zA1.mp h;cases h;obtain⟨kvs,m,q2⟩:=g t l;unfold pairK at b;split at b;{rename_i k x;obtain⟨i,n,b⟩:=zA1.mp b;obtain rfl:=qaG4 n;split at b;{rename_i hm;cases b;obtain⟨a,s,rfl,o,e⟩:=j.tup_inv;obtain⟨u,q,A1,A2,rfl,f,c,_⟩:=e.two_inv;obtain rfl:=f.int_inv;have:=c.imm hm;subst this;exact⟨(.inl i,q)::kvs,.cons ⟨a,rfl,o⟩ m,.cons ⟨rfl,c⟩ q2⟩};cases b};cases b
theorem qaP4(b:H p=none)(r:KP F H kvs a):Pa F (upd H p (.dK kvs)) (.ref p) (.dct false a) [p]:=.dct qc6 r.maps.1 (r.maps.2.same (Same.new b))
end
def Hf(x:D):Option D:=match x with|.l _ ys=>(Hx ys).map λps=>.dct false (qx2 [] ps)|_=>none
theorem qaA2:CS1 true qaL9 Hf:=by intro F H v x B d Q r h q;cases x with|l z k=>obtain⟨l,e,rfl⟩:=zAa.mp h;obtain⟨a,f,A,rfl,g,i,_⟩:=r.lst_inv;obtain⟨b,j,q2⟩:=qaE0 i e;exact⟨a,f,b,rfl,g,j,λp c=>q _ _ [p] (qaP4 c (q2.merge .nil)) (Same.new c) (qi2 c)⟩|_=>cases h
noncomputable def D.kind:D->Option String|.non=>some "NoneType" | .bl _=>some "bool" | .int _=>some "int" | .str _=>some "str" | .l _ _=>some "list" | .q _=>some "tuple" | .dct _ _=>some "dict"|_=>none
theorem Pa.kind(r:Pa F H v d B)(h:d.kind=some t):Bn H v=some t:=by cases r with|q e _=>cases h;exact qaG0 e|l e _=>cases h;exact qak7 e|lstZ e _ _=>cases h;exact qak7 e|dct e _ _=>cases h;exact qay8 e|dctZ e _ _ _=>cases h;exact qay8 e|_=>cases h<;>rfl
noncomputable def isTy(n:String):Bool:=n=="bool" || n=="int" || n=="str" || n=="list" || n=="tuple" || n=="dict"
def gIsi(x y:D):Option D:=match y with|.ty n=>if isTy n=true then x.kind.map λt=>.bl (Hs t n) else none|_=>none
def CS2(nw:Bool)(r:List V->Hp->VK->Prop)(g:D->D->Option D):Prop:=∀F H v w x y A B d (Q:VK),Pa F H v x A->Pa F H w y B->g x y=some d->(∀v H' B',Pa F H' v d B'->Same H H'->(if nw=true then New H B' else Sub H (A++B) B')->Q v H')->r [v,w] H Q
theorem CS2.ops(h:CS2 nw r g):OpS nw r (fx2 g):=by intro F H l c B d Q r e q;match c,e with|[x,y],e=>obtain⟨v,w,A,C,rfl,f,i,j⟩:=r.two_inv;refine h F H v w x y A C d Q f i e λu H' B' k s a=>q u H' B' k s ?_;cases nw with|true=>exact a|false=>rw[if_neg ∅] at a ⊢;exact λb=>(a b).imp (λz=>by rw[zA0] at z;have:=j b;lia) id
theorem qK8:CS2 true rIsi gIsi:=by intro F H v w x y A B d Q b c e q;cases y with|ty n=>cases c;have e:(if isTy n=true then x.kind.map λt=>D.bl (Hs t n) else none)=some d:=e;by_cases a:isTy n=true;{rw[if_pos a] at e;obtain⟨t,f,rfl⟩:=zAa.mp e;refine⟨v,n,t,rfl,b.kind f,?_,q _ H [] (.bl _) (λ_ _ z=>z) New.nil⟩;simp only[isTy,Bool.or_eq_true,zBy] at a;simp only[zAh,zBg,zCv];rcases a with ((((h|h)|h)|h)|h)|h;{exact .inl h};{exact .inr (.inl h)};{exact .inr (.inr (.inl h))};{exact .inr (.inr (.inr (.inl h)))};{exact .inr (.inr (.inr (.inr (.inl h))))};exact .inr (.inr (.inr (.inr (.inr h))))};rw[if_neg a] at e;cases e|_=>cases e
def D.isC(C:γ)(x:D):Option D:=match x with|.ins _ C' _=>if C'=C then some (.bl true) else none|x=>x.kind.map λ_=>.bl false
def gIsO(C:γ)(x y:D):Option D:=match y with|.adr a=>if a=C then x.isC C else none|_=>none
theorem qaR0{C:γ}{x y d:D}(h:gIsO C x y=some d):y=.adr C/\((∃z fs,x=.ins z C fs/\d=.bl true)∨∃t,x.kind=some t/\d=.bl false):=by
 cases y with
 |adr a=>
  have h:(if a=C then x.isC C else none)=some d:=h;by_cases b:a=C
  .rw[if_pos b] at h;subst b;refine⟨rfl,?_⟩;have k:(x.kind.map λ_=>D.bl false)=some d->∃t,x.kind=some t/\d=.bl false:=λe=>by obtain⟨t,c,e⟩:=zAa.mp e;exact⟨t,c,e.symm⟩
   cases x with|ins z C' fs=>have h:(if C'=a then some (D.bl true) else none)=some d:=h;by_cases b:C'=a;{rw[if_pos b] at h;exact .inl ⟨z,fs,by rw[b],(N8 h).symm⟩};rw[if_neg b] at h;cases h|_=>exact .inr (k h)
  rw[if_neg b] at h;cases h
 |_=>cases h
theorem qbb8:CS2 true (rIsO C) (gIsO C):=by intro F H v w x y A B d Q b c e q;obtain⟨rfl,h⟩:=qaR0 e;cases c;rcases h with⟨z,fs,rfl,rfl⟩|⟨t,ht,rfl⟩;{obtain⟨p,f,a,_,rfl,h,_,_,_⟩:=b.ins_inv;exact⟨_,rfl,.inl ⟨p,f,a,rfl,h,q _ H [] (.bl _) (λ_ _ z=>z) New.nil⟩⟩};exact⟨_,rfl,.inr ⟨t,b.kind ht,q _ H [] (.bl _) (λ_ _ z=>z) New.nil⟩⟩
def gMax2:=gI (λ_ _=>true) λi j=>.int (if j>i then j else i)
def gMin2:=gI (λ_ _=>true) λi j=>.int (if j<i then j else i)
theorem cs_I2{f:Int->Int->Int}:CS2 true (λxs H Q=>∃i j,xs=[.int i,.int j]/\Q (.int (f i j)) H) (gI (λ_ _=>true) λi j=>.int (f i j)):=by intro F H v w x y A B d Q a b e q;obtain⟨i,j,rfl,rfl,_,rfl⟩:=qaR9 e;exact⟨i,j,by rw[a.int_inv,b.int_inv],q _ H [] (.int _) (λ_ _ z=>z) New.nil⟩
theorem qaA1:CS2 true (λxs H Q=>∃i j,xs=[.int i,.int j]/\Q (.int (if j>i then j else i)) H) gMax2:=cs_I2
theorem qan1:CS2 true (λxs H Q=>∃i j,xs=[.int i,.int j]/\Q (.int (if j<i then j else i)) H) gMin2:=cs_I2
noncomputable def bools:List D->Option (List Bool)|[]=>some []|.bl b::r=>(bools r).map λbs=>b::bs|_=>none
theorem O4.bools:∀{vs:List V}{ds:List D}{A:List γ}{bs:List Bool},O4 F H vs ds A->LV.bools ds=some bs->vs=bs.map V.bl:=by intro vs ds;induction ds generalizing vs with|nil=>intro A bs r h;cases r;cases h;rfl|cons d ds a=>intro A bs r h;cases r with|cons c t=>cases d with|bl b=>obtain⟨e,f,rfl⟩:=zAa.mp h;cases c;rw[a t f];rfl|_=>cases h
def gAll(x:D):Option D:=match x with|.l _ ys=>(bools ys).map λbs=>.bl (bs.all id)|_=>none
theorem qau1:CS1 true (λxs H Q=>∃(a:γ)(bs:List Bool),xs=[.ref a]/\SqL K H a (bs.map V.bl)/\Q (.bl (bs.all id)) H) gAll:=by intro F H v x B d Q r h q;cases x with|l z f=>obtain⟨bs,b,rfl⟩:=zAa.mp h;obtain⟨a,g,A,rfl,c,e,_⟩:=r.lst_inv;cases e.bools b;exact⟨a,bs,rfl,.inl (.inl c),q _ H [] (.bl _) (λ_ _ z=>z) New.nil⟩|_=>cases h
noncomputable def intsD:List D->Option (List Int)|[]=>some []|.int i::r=>(intsD r).map λis=>i::is|_=>none
theorem O4.intsD:∀{vs:List V}{ds:List D}{A:List γ}{bs:List Int},O4 F H vs ds A->LV.intsD ds=some bs->vs=bs.map V.int:=by intro vs ds;induction ds generalizing vs with|nil=>intro A bs r h;cases r;cases h;rfl|cons d ds a=>intro A bs r h;cases r with|cons c t=>cases d with|int b=>obtain⟨e,f,rfl⟩:=zAa.mp h;cases c;rw[a t f];rfl|_=>cases h
def By(xs:List D)(lo hi:Option Int):List D:=(xs.drop (HT.sIx xs.length 0 lo)).take (HT.sIx xs.length xs.length hi-HT.sIx xs.length 0 lo)
def gSl(x:D)(lo hi:Option Int):Option D:=match x with|.l _ ys=>gd (D.imms (By ys lo hi)=true) (.l false (By ys lo hi))|.scr ns=>some (.l false ((ns.drop (HT.sIx ns.length 0 lo)).take (HT.sIx ns.length ns.length hi-HT.sIx ns.length 0 lo) |>.map .int))|.q ys=>gd (D.imms (By ys lo hi)=true/\(By ys lo hi).length<ys.length) (.q (By ys lo hi))|_=>none
theorem qI4{F:γ->Prop}{H:Hp}:∀ns:List Int,O4 F H (ns.map V.int) (ns.map D.int) []|[]=>.nil|n::r=>.cons (A:=[]) (B:=[]) (.int n) (qI4 r)
theorem Ji(r:Pa F H v x B)(h:gSl x lo hi=some d)(f:∀ys,x≠.q ys)(q:∀v H' B',Pa F H' v d B'->Same H H'->New H B'->Q v H'):rSlL K v lo hi H Q:=by cases x with|l z ys=>obtain⟨g,rfl⟩:=ql8 h;obtain⟨a,i,A,rfl,j,c,_⟩:=r.lst_inv;refine⟨a,i,rfl,.inl (.inl j),λp b=>q _ _ [p] (qB7 b ?_) (Same.new b) (qi2 b)⟩;obtain⟨B',k,l⟩:=c.sub (HT.sIx ys.length 0 lo) (HT.sIx ys.length ys.length hi-HT.sIx ys.length 0 lo);unfold Gb;rw[c.len];exact k.imms0 g|scr m=>(cases h;cases r with|scr e=>refine⟨_,_,rfl,.inl (.inr ⟨_,e⟩),λp b=>q _ _ [p] (qB7 b ?_) (Same.new b) (qi2 b)⟩;unfold Gb;rw[<-M5,<-Mc,zA5];exact qI4 _)|q ys=>exact absurd rfl (f ys)|_=>cases h
def D.fld(C:γ)(f:Str):D->Option D|.ins _ C' fs=>if C'=C then fs.lookup f else none|_=>none
theorem qak1:∀{c:List (Str×V)}{a:List (Str×D)}{A:List γ}{f:Str}{d:D},c.map (·.1)=a.map (·.1)->O4 F H (c.map (·.2)) (a.map (·.2)) A->a.lookup f=some d->∃v B,c.lookup f=some v/\Pa F H v d B/\∀b,B.count b<=A.count b:=by
 intro c;induction c with
 |nil=>intro a A f d e r h;cases a with|nil=>cases h|cons _ _=>simp at e
 |cons p c i=>
  intro a A f d e r h;cases a with
  |nil=>simp at e|cons q a=>
   obtain⟨k,v⟩:=p;obtain⟨j,s⟩:=q;have l:k=j:=by simp at e;exact e.1
   have e2:c.map (·.1)=a.map (·.1):=by simp at e;simpa using e.2
   subst l;cases r with|@cons _ _ A1 _ _ A2 r1 t=>rw[zAv] at h ⊢;cases g:f==k with|true=>rw[g] at h;cases h;exact⟨v,A1,rfl,r1,λb=>by rw[zA0];lia⟩|false=>rw[g] at h;obtain⟨w,B,m,n,o⟩:=i e2 t h;exact⟨w,B,m,n,λb=>by rw[zA0];have:=o b;lia⟩
theorem qaO4(c:Cls K C)(n:qh0 K C f):OpS1 false (λx H Q=>∃a C dx fs v,x=.ref a/\H a=some (.ins C dx fs)/\Cls K C/\qh0 K C f/\fs.lookup f=some v/\Q v H) (D.fld C f):=by intro F H v x B d Q r h q;cases x with|ins z C' fs=>have i:(if C'=C then fs.lookup f else none)=some d:=h;by_cases j:C'=C;{rw[if_pos j] at i;subst j;obtain⟨a,dx,k,A,rfl,l,e,m,g⟩:=r.ins_inv;obtain⟨w,B',o,p,s⟩:=qak1 e m i;refine⟨a,C',dx,k,w,rfl,l,c,n,o,q w H B' p (λ_ _ z=>z) ?_⟩;rw[if_neg ∅];exact λb=>.inl (by have:=s b;have:=g b;lia)};rw[if_neg j] at i;cases i|_=>cases h
noncomputable def D.key:D->Option Key|.int i=>some (.inl i)|.str x=>some (.inr x)|_=>none
noncomputable def Dw(a:List (Key×D))(k:Key):Option D:=(a.find? λb=>decide (b.1=k)).map (·.2)
theorem Pa.key(r:Pa F H v x B)(h:x.key=some k):v=kV k:=by cases r<;>cases h<;>rfl
theorem qaJ5:∀{kvs:List (Key×V)}{a:List (Key×D)}{A:List γ}(k:Key),kvs.map (·.1)=a.map (·.1)->O4 F H (kvs.map (·.2)) (a.map (·.2)) A->(Dw a k=none/\E4 kvs k=none)∨∃v d B,Dw a k=some d/\E4 kvs k=some v/\Pa F H v d B/\∀b,B.count b<=A.count b:=by
 intro kvs;induction kvs with
 |nil=>intro a A k e r;cases a with|nil=>exact .inl ⟨rfl,rfl⟩|cons _ _=>simp at e
 |cons p kvs g=>
  intro a A k e r;cases a with
  |nil=>simp at e|cons q a=>
   obtain⟨c,v⟩:=p;obtain⟨i,d⟩:=q;have j:c=i:=by simp at e;exact e.1
   have e2:kvs.map (·.1)=a.map (·.1):=by simp at e;simpa using e.2
   subst j;cases r with
   |@cons _ _ A1 _ _ A2 r1 t=>
    by_cases f:c=k;{exact .inr ⟨v,d,A1,by simp[Dw,f],qQ7 f,r1,λb=>by rw[zA0];lia⟩};have l:Dw ((c,d)::a) k=Dw a k:=by simp[Dw,zC6,f]
    rw[l,qQ8 (p:=(c,v)) f];rcases g k e2 t with h|⟨w,m,B,n,o,s,u⟩;{exact .inl h};exact .inr ⟨w,m,B,n,o,s,λb=>by rw[zA0];have:=u b;lia⟩
section
variable{c:Vc}{X:Cx}{a b e:Lb}{L J own nw:Bool}{fa fb f:FV}{r:R2}{g:D->D->Option D}{w E t:VT}{pos:Pos}
theorem vnm(i:Nat)(b:X.N[i]?=some x:=by rfl)(d:Vis X.env.scope x:=by first|exact O1 rfl|exact O0 (O1 rfl)|exact O0 (O0 rfl))(e:N' x:=by decide)(a:(x==("__classdict__" : Str))=false:=by decide):VV c X (.Name x pos) false (rdN i):=qaJ3 (qq8 b d e a) (qr6 b)
noncomputable def kC(d:D):FV:=λ_=>some d
theorem Af{i:Int}:VV c X (.Constant (.int i) j pos) true (kC (.int i)):=Gc qM7 λ_ _=>.int _
theorem vbl{i:Bool}:VV c X (.Constant (.bool i) j pos) true (kC (.bl i)):=Gc pe_bl λ_ _=>.bl _
theorem Bf:VV c X (.Constant .none j pos) true (kC .non):=Gc qaN5 λ_ _=>.non
theorem Dx{i:Str}:VV c X (.Constant (.str i) j pos) true (kC (.str i)):=Gc qaW7 λ_ _=>.str _
theorem vgi{x:Str}{n:Int}{k:Tok}(hm:X.mg x=some (.int n k))(a:Gl X x:=by rfl)(b:N' x:=by decide):VV c X (.Name x pos) true (kC (.int n)):=Gc (qay0 hm a b) λ_ _=>.int _
theorem vcls(C:γ)(hm:X.mg x=some (.ref C))(a:Gl X x:=by rfl)(b:N' x:=by decide):VV c X (.Name x pos) true (kC (.adr C)):=Gc (qaW8 C hm a b) λ_ _=>.adr _
theorem vty(n:String)(hm:X.mg x=none)(a:Gl X x:=by rfl)(b:Ko x=some (.type n):=by rfl)(d:x ≠ "__name__" := by decide)(e:N' x:=by decide):VV c X (.Name x pos) true (kC (.ty n)):=Gc (qaD8 n hm a b d e) λ_ _=>.ty _
theorem vpow{i j:Int}(k:Int)(a:i ^ j.toNat=k:=by decide)(b:0<=j:=by decide)(h1:j<=1000000:=by decide)(h2:i.natAbs<2 ^ 64:=by decide):VV c X (.BinOp (.Constant (.int i) m p) .Pow (.Constant (.int j) n q) pos) true (kC (.int k)):=Gc (qaN3 k a b h1 h2) λ_ _=>.int _
def P2(X:Cx)(e a b:Lb)(r:R2):Prop:=∀w E,PE X a w->PE X b E->PE X e (tOp r w E)
def T2(X:Cx)(e a b:Lb)(r:R2):Prop:=∀w E,PE X a w->PE X b E->PT X e (tTest (tOp r w E))
theorem Al{op:Operator}(c:OpR X (K5 op) r):P2 X (.BinOp a op b pos) a b r:=λ_ _ d e=>pe_op c d e
theorem A6(c:OpR X (Kl op) r)(hm:behindInMarks op b=false):P2 X (.Compare a [op] [b] pos) a b r:=λ_ _ d e=>qaN6 c d e hm
theorem As(c:OpR X (Kl op) r)(hm:behindInMarks op b=false):T2 X (.Compare a [op] [b] pos) a b r:=λ_ _ d e=>qax3 c d e hm
theorem Aw(c:IxR X r)(d:qao4 b:=by exact λ_ _=>rfl):P2 X (.Subscript a b pos) a b r:=λ_ _ e f=>pe_ix c e f d
theorem v2(p:P2 X e a b r)(h:Bb nw r g)(d:VV c X a L fa)(f:VV c X b J fb):VV c X e (nw||(L&&J)) (f2 g fa fb):=⟨PE.mono (p _ _ d.h f.h) (op_vv h)⟩
theorem e2(p:P2 X e a b r)(h:Bb true r g)(d:VE c X a w)(f:VE c X b E):VE c X e (t2 g w E):=⟨PE.mono (p _ _ d.h f.h) (op_ee d f h),qaw2 d f⟩
theorem e2v(p:P2 X e a b r)(h:Bb true r g)(d:VE c X a w)(f:VV c X b J fb):VE c X e (t2v g w fb):=⟨PE.mono (p _ _ d.h f.h) (op_ev d h),qaB6 d⟩
theorem e2P(p:P2 X e a b r)(h:Bb false r g)(d:VE c X a w)(f:VE c X b E):VE c X e (t2 g w E):=⟨PE.mono (p _ _ d.h f.h) (qaX9 d f h),qaw2 d f⟩
theorem e2vP(p:P2 X e a b r)(h:Bb false r g)(d:VE c X a w)(f:VV c X b J fb):VE c X e (Jd g w fb):=⟨PE.mono (p _ _ d.h f.h) (qaX8 d h),qap3 d⟩
theorem e2n(i:Nat)(p:P2 X e (.Name x p0) b r)(h:Bb true r g)(a:VE c X b E)(f:X.N[i]?=some x:=by rfl)(j:Vis X.env.scope x:=by first|exact O1 rfl|exact O0 (O1 rfl)|exact O0 (O0 rfl))(k:N' x:=by decide)(d:(x==("__classdict__" : Str))=false:=by decide):VE c X e (t2n g i E):=⟨λD8 s o H Q I q=>p _ _ (qq8 f j k d) a.h D8 s o H Q I (op_ne a h (qr6 f D8 o H s I) q),qaB7 a⟩
noncomputable def D.asB:D->Option Bool|.bl b=>some b|_=>none
theorem Pa.asB(r:Pa F H v d B)(h:d.asB=some k):v=.bl k:=by cases r<;>cases h<;>rfl
def ttV(f:FV):VTT:=λds Q _=>orF ((f ds).bind D.asB) λb=>Q b ds
def ttE(t:VT):VTT:=λds Q xe=>t ds (λd a=>orF d.asB λb=>Q b a) xe
theorem qaK0:∀o H Q,Eb c (ttV f) o H Q->liftV c own f o H (λx H'=>∃k,x=.bl k/\Q k H'):=by rintro o H Q ⟨F,a,A,h,S,x,q⟩;obtain⟨b,e,q⟩:=qa7.mp q;obtain⟨d,g,e2⟩:=zA1.mp e;exact⟨F,a,A,d,S,g,λv H' B r s _=>⟨b,r.asB e2,q H' F A (S.same s) (.same s)⟩⟩
theorem qaB3(h:VE c X e t):∀o H Q,Eb c (ttE t) o H Q->Bm c t o H (λx H'=>∃k,x=.bl k/\Q k H'):=by rintro o H Q ⟨F,a,A,f,S,x,q⟩;refine⟨F,a,A,f,S,x,h.m _ _ _ _ _ (λd g q v H1 F1 T A1 i S1 l j=>?_) (λ_ _ z=>z) q⟩;obtain⟨b,e,q⟩:=qa7.mp q;exact⟨b,i.asB e,q H1 F1 A1 S1 (j.count λb=>by rw[zA0];lia)⟩
theorem qae6:∀ds (Q Q':Bool->Ds->Prop) (xe b:XKd),(∀d a,Q d a->Q' d a)->(∀x a,xe x a->b x a)->ttV f ds Q xe->ttV f ds Q' b:=λds Q Q' xe b c _=>qa4 λd=>c d ds
theorem qQ9(h:VE c X e t):∀ds (Q Q':Bool->Ds->Prop) (xe b:XKd),(∀d a,Q d a->Q' d a)->(∀x a,xe x a->b x a)->ttE t ds Q xe->ttE t ds Q' b:=λds Q Q' xe b f g=>h.m _ _ _ _ _ (λd a=>qa4 λz=>f z a) g
theorem tv(h:VV c X e own f)(a:∀whole,isTrue e X.env whole=(do let v<-whole;standAt e.pos;holding [v] (truthy v)):=by intro _;rfl):VTe c X e (ttV f):=⟨PT.mono (qaC9 h.h a) qaK0,qae6⟩
theorem te(h:VE c X e t)(a:∀whole,isTrue e X.env whole=(do let v<-whole;standAt e.pos;holding [v] (truthy v)):=by intro _;rfl):VTe c X e (ttE t):=⟨PT.mono (qaC9 h.h a) (qaB3 h),qQ9 h⟩
theorem q2(p:T2 X e a b r)(h:Bb nw r g)(d:VV c X a L fa)(f:VV c X b J fb):VTe c X e (ttV (f2 g fa fb)):=⟨PT.mono (p _ _ d.h f.h) λo H Q q=>op_vv h o H _ (qaK0 o H Q q),qae6⟩
theorem q2e(p:P2 X e a b r)(i:T2 X e a b r)(h:Bb true r g)(d:VE c X a w)(f:VE c X b E):VTe c X e (ttE (t2 g w E)):=⟨PT.mono (i _ _ d.h f.h) λo H Q q=>op_ee d f h o H _ (qaB3 (e2 p h d f) o H Q q),qQ9 (e2 p h d f)⟩
theorem q2v(p:P2 X e a b r)(i:T2 X e a b r)(h:Bb true r g)(d:VE c X a w)(f:VV c X b J fb):VTe c X e (ttE (t2v g w fb)):=⟨PT.mono (i _ _ d.h f.h) λo H Q q=>op_ev d h o H _ (qaB3 (e2v p h d f) o H Q q),qQ9 (e2v p h d f)⟩
variable{y G:VTT}{rest:List Lb}
def Bw(t:VTT):VTT:=λds Q xe=>t ds (λb a=>Q (!b) a) xe
theorem Br(h:VTe c X a y):VTe c X (.UnaryOp .Not a pos) (Bw y):=by refine⟨PT.mono (qaM2 h.h) λo H Q ⟨F,e,A,f,S,x,q⟩=>⟨F,e,A,f,S,x,q⟩,λe Q Q' f g i j=>h.m _ _ _ _ _ (λb d=>i _ d) j⟩
structure VTw(c:Vc)(X:Cx)(e:Lb)(t:VTT):Prop where
 h:PW X e (Eb c t)
 m:∀ds (Q Q':Bool->Ds->Prop) (xe xe':XKd),(∀d ds',Q d ds'->Q' d ds')->(∀x ds',xe x ds'->xe' x ds')->t ds Q xe->t ds Q' xe'
theorem VTw.te(h:VTw c X e y):VTe c X e y:=⟨h.h.pt,h.m⟩
theorem Fq(h:VTe c X a y):VTw c X (.BoolOp .And [a] pos) y:=⟨qaM1 h.h,h.m⟩
theorem Ge(h:VTe c X a y):VTw c X (.BoolOp .Or [a] pos) y:=⟨qaV9 h.h,h.m⟩
def Jj(t u:VTT):VTT:=λds Q xe=>t ds (λk ds1=>if k=true then u ds1 Q xe else Q false ds1) xe
def ttOr(t u:VTT):VTT:=λds Q xe=>t ds (λk ds1=>if k=true then Q true ds1 else u ds1 Q xe) xe
theorem qX7{k:Bool->St->Hp->(Bool->Hp->Prop)->Prop}{K:Bool->Ds->(Bool->Ds->Prop)->XKd->Prop}(h:VTe c X a y)(i:∀(b:Bool) F ds A xe o H (Q:Bool->Hp->Prop),Pd c F H o ds A->Xc c xe F H A->K b ds (λf e=>∀H' F' A',Pd c F' H' o e A'->Pc F H A F' H' A'->Q f H') xe->k b o H Q)(hm:∀(b:Bool) ds (Q Q':Bool->Ds->Prop) (xe:XKd),(∀d e,Q d e->Q' d e)->K b ds Q xe->K b ds Q' xe):∀o H Q,Eb c (λds Q xe=>y ds (λb ds1=>K b ds1 Q xe) xe) o H Q->Eb c y o H (λb H1=>k b o H1 Q):=by rintro o H Q ⟨F,ds,A,xe,S,x,q⟩;refine⟨F,ds,A,xe,S,x,h.m _ _ _ _ _ (λb ds1 q H1 F1 A1 S1 g=>?_) (λ_ _ z=>z) q⟩;exact i b F1 ds1 A1 xe o H1 Q S1 (x.step g) (hm b ds1 _ _ xe (λf e q H' F' A' S' j=>q H' F' A' S' (g.trans j)) q)
theorem Hy(g:VTe c X a y)(i:VTw c X (.BoolOp .And (b::rest) pos) G):VTw c X (.BoolOp .And (a::b::rest) pos) (Jj y G):=by refine⟨PW.mono (qaW0 g.h i.h) ?_,λd Q Q' e l f j=>g.m _ _ _ _ _ (λk n q=>?_) j⟩;{refine qX7 (k:=λb o H Q=>if b=true then Eb c G o H Q else Q false H) (K:=λb d Q e=>if b=true then G d Q e else Q false d) g ?_ ?_;{intro b F d A e o H Q S x q;cases b with|true=>rw[if_pos rfl] at q ⊢;exact⟨F,d,A,e,S,x,q⟩|false=>rw[if_neg ∅] at q ⊢;exact q H F A S Pc.refl};intro b d Q Q' e f;cases b with|true=>rw[if_pos rfl,if_pos rfl];exact i.m _ _ _ _ _ f λ_ _ z=>z|false=>rw[if_neg ∅,if_neg ∅];exact f _ _};cases k with|true=>rw[if_pos rfl] at q ⊢;exact i.m _ _ _ _ _ f j q|false=>rw[if_neg ∅] at q ⊢;exact f _ _ q
theorem tor(g:VTe c X a y)(i:VTw c X (.BoolOp .Or (b::rest) pos) G):VTw c X (.BoolOp .Or (a::b::rest) pos) (ttOr y G):=by refine⟨PW.mono (pw_or g.h i.h) ?_,λd Q Q' e l f j=>g.m _ _ _ _ _ (λk n q=>?_) j⟩;{refine qX7 (k:=λb o H Q=>if b=true then Q true H else Eb c G o H Q) (K:=λb d Q e=>if b=true then Q true d else G d Q e) g ?_ ?_;{intro b F d A e o H Q S x q;cases b with|false=>rw[if_neg ∅] at q ⊢;exact⟨F,d,A,e,S,x,q⟩|true=>rw[if_pos rfl] at q ⊢;exact q H F A S Pc.refl};intro b d Q Q' e f;cases b with|false=>rw[if_neg ∅,if_neg ∅];exact i.m _ _ _ _ _ f λ_ _ z=>z|true=>rw[if_pos rfl,if_pos rfl];exact f _ _};cases k with|false=>rw[if_neg ∅] at q ⊢;exact i.m _ _ _ _ _ f j q|true=>rw[if_pos rfl] at q ⊢;exact f _ _ q
end
section
variable{c:Vc}{X:Cx}{a b e:Lb}{oa ob own nw:Bool}{fa fb f:FV}{ta tb t:VT}{Y:Pos}{rest:List Lb}
def tSeqE(ta:VT)(k:D->VT):VT:=λds Q xe=>ta ds (λx ds1=>k x ds1 Q xe) xe
theorem qaF6{k:V->St->Hp->VK->Prop}(i:VE c X a ta)(hm:∀x ds (Q Q':DK) (xe f:XKd),(∀d e,Q d e->Q' d e)->(∀x e,xe x e->f x e)->K x ds Q xe->K x ds Q' f)(j:∀F H W v x T,Pa F H v x T->∀Q,(∃ds A xe,Pd c F H W ds A/\Xc c xe F H A/\K x ds (λd e=>∀v H' F' T A',Pa F' H' v d T->Pd c F' H' W e A'->Ok F' H' (T++A')->Pc F H A F' H' (T++A')->Q v H') xe)->k v W H Q):∀W H Q,Bm c (tSeqE ta K) W H Q->Bm c ta W H (λx H1=>k x W H1 Q):=by
 rintro W H Q ⟨F,ds,A,xe,S,x,q⟩;refine⟨F,ds,A,xe,S,x,i.m _ _ _ _ _ (λd g q v H1 F1 T A1 l S1 p n=>?_) (λ_ _ z=>z) q⟩;have h:Pc F H A F1 H1 A1:=n.count λb=>by rw[zA0];lia
 exact j F1 H1 W v d T l Q ⟨g,A1,xe,S1,x.step h,hm d g _ _ _ _ (λt e q w H' F' T' A' r S' o s=>q w H' F' T' A' r S' o (h.trans s)) (λ_ _ z=>z) q⟩
def Hg(ta tb:VT):VT:=tSeqE ta λx ds Q xe=>orF x.asB λk=>if k=true then tb ds Q xe else Q (.bl false) ds
theorem qO7{p q a b:Prop}(h1:p->a)(h2:q->b):(if k=true then p else q)->(if k=true then a else b):=by cases k with|true=>rw[if_pos rfl,if_pos rfl];exact h1|false=>rw[if_neg ∅,if_neg ∅];exact h2
theorem qao2(g:VE c X e tb):∀(x:D) ds (Q Q':DK) (xe b:XKd),(∀d a,Q d a->Q' d a)->(∀x a,xe x a->b x a)->(orF x.asB λk=>if k=true then tb ds Q xe else Q (.bl false) ds)->(orF x.asB λk=>if k=true then tb ds Q' b else Q' (.bl false) ds):=λx ds Q Q' xe b f h=>qa4 λk=>qO7 (g.m _ _ _ _ _ f h) (f _ _)
theorem Ia{op:PySem.BoolOp}(h:VE c X a ta):VE c X (.BoolOp op [a] Y) ta:=⟨qaq7 h.h,h.m⟩
theorem F8(e:VE c X a ta)(f:VE c X (.BoolOp .And (b::rest) Y) tb):VE c X (.BoolOp .And (a::b::rest) Y) (Hg ta tb):=by refine⟨PE.mono (qar0 e.h f.h) ?_,λl Q Q' g i p n=>e.m _ _ _ _ _ (λd j=>qao2 f d j Q Q' g i p n) n⟩;refine qaF6 (k:=λv W H Q=>∃o,v=.bl o/\if o=true then Bm c tb W H Q else Q (.bl false) H) e (qao2 f) ?_;rintro F H W v x T r Q ⟨l,A,g,S,s,q⟩;obtain⟨k,t,q⟩:=qa7.mp q;refine⟨k,r.asB t,?_⟩;cases k with|true=>rw[if_pos rfl] at q ⊢;exact⟨F,l,A,g,S,s,q⟩|false=>rw[if_neg ∅] at q ⊢;exact q _ H F [] A (.bl _) S S.ok Pc.refl
variable{qc:VTT}
def tIfE(qc:VTT)(ta tb:VT):VT:=λds Q xe=>qc ds (λk ds1=>if k=true then ta ds1 Q xe else tb ds1 Q xe) xe
theorem eif(i:VTe c X cd qc)(j:VE c X a ta)(l:VE c X b tb):VE c X (.IfExp cd a b Y) (tIfE qc ta tb):=by refine⟨PE.mono (qah5 i.h j.h l.h) ?_,λt Q Q' f w u n=>i.m _ _ _ _ _ (λk e=>qO7 (j.m _ _ _ _ _ u n) (l.m _ _ _ _ _ u n)) n⟩;rintro W H Q ⟨F,t,A,f,S,x,q⟩;refine⟨F,t,A,f,S,x,i.m _ _ _ _ _ (λk e q H1 F1 A1 S1 g=>?_) (λ_ _ z=>z) q⟩;cases k with|true=>rw[if_pos rfl] at q ⊢;exact⟨F1,e,A1,f,S1,x.step g,j.m _ _ _ _ _ (λd p q v H' F' T A' r S' o s=>q v H' F' T A' r S' o (g.trans s)) (λ_ _ z=>z) q⟩|false=>rw[if_neg ∅] at q ⊢;exact⟨F1,e,A1,f,S1,x.step g,l.m _ _ _ _ _ (λd p q v H' F' T A' r S' o s=>q v H' F' T A' r S' o (g.trans s)) (λ_ _ z=>z) q⟩
def fAnd(fa fb:FV):FV:=λds=>(fa ds).bind λx=>x.asB.bind λk=>if k=true then fb ds else some (.bl false)
def fOr(fa fb:FV):FV:=λds=>(fa ds).bind λx=>x.asB.bind λk=>if k=true then some (.bl true) else fb ds
def fNot(fa:FV):FV:=λds=>(fa ds).bind λx=>x.asB.map λk=>.bl (!k)
theorem vone{op:PySem.BoolOp}(h:VV c X a oa fa):VV c X (.BoolOp op [a] Y) oa fa:=⟨qaq7 h.h⟩
theorem vand(m:VV c X a oa fa)(n:VV c X (.BoolOp .And (b::rest) Y) ob fb):VV c X (.BoolOp .And (a::b::rest) Y) ob (fAnd fa fb):=by refine⟨PE.mono (qar0 m.h n.h) λW H Q g=>?_⟩;obtain⟨F,i,A,d,S,e,q⟩:=g;obtain⟨x,p,e⟩:=zA1.mp e;obtain⟨k,r,e⟩:=zA1.mp e;refine⟨F,i,A,x,S,p,λv H1 B1 s f y=>⟨k,s.asB r,?_⟩⟩;cases k with|true=>rw[if_pos rfl] at e ⊢;exact⟨F,i,A,d,S.same f,e,λw H2 B2 t u j=>q w H2 B2 t (f.trans u) λl=>⟨(j l).one,λb o e=>(j l).new b o (f b o e)⟩⟩|false=>rw[if_neg ∅] at e ⊢;cases e;exact q _ H1 [] (.bl _) f λ_=>New.nil
theorem vor(m:VV c X a oa fa)(n:VV c X (.BoolOp .Or (b::rest) Y) ob fb):VV c X (.BoolOp .Or (a::b::rest) Y) ob (fOr fa fb):=by refine⟨PE.mono (pe_or m.h n.h) λW H Q g=>?_⟩;obtain⟨F,i,A,d,S,e,q⟩:=g;obtain⟨x,p,e⟩:=zA1.mp e;obtain⟨k,r,e⟩:=zA1.mp e;refine⟨F,i,A,x,S,p,λv H1 B1 s f y=>⟨k,s.asB r,?_⟩⟩;cases k with|false=>rw[if_neg ∅] at e ⊢;exact⟨F,i,A,d,S.same f,e,λw H2 B2 t u j=>q w H2 B2 t (f.trans u) λl=>⟨(j l).one,λb o e=>(j l).new b o (f b o e)⟩⟩|true=>rw[if_pos rfl] at e ⊢;cases e;exact q _ H1 [] (.bl _) f λ_=>New.nil
theorem vnot(f:VV c X a oa fa):VV c X (.UnaryOp .Not a Y) true (fNot fa):=by refine⟨PE.mono (qaN4 f.h) λW H Q b=>?_⟩;obtain⟨F,g,A,d,S,e,q⟩:=b;obtain⟨x,i,e⟩:=zA1.mp e;obtain⟨k,j,rfl⟩:=zAa.mp e;exact⟨F,g,A,x,S,i,λv H1 B1 l m n=>⟨k,l.asB j,q _ H1 [] (.bl _) m λ_=>New.nil⟩⟩
noncomputable def gNeg:D->Option D|.int i=>some (.int (-i))|_=>none
theorem qaX0:OpS1 true (rU λi=>.int (-i)) gNeg:=by intro F H v x B d Q r h q;cases x with|int i=>cases h;cases r;exact⟨i,rfl,q _ H [] (.int _) (λ_ _ z=>z) New.nil⟩|_=>cases h
theorem vneg(b:VV c X a oa fa):VV c X (.UnaryOp .USub a Y) true (f1 gNeg fa):=⟨PE.mono (pe_un qaU7 b.h) (op_v (nw:=true) qaX0)⟩
theorem Bd{f:Str}(b:X.K=K)(d:VV c X a oa fa)(e:Cls K C)(n:qh0 K C f)(g:Kr a f X.env (eval a X.env)=eval a X.env:=by rfl):VV c X (.Attribute a f Y) oa (f1 (D.fld C f) fa):=by subst b;exact⟨PE.mono (qaq8 d.h g) (op_v (nw:=false) (qaO4 e n))⟩
variable{rc:List V->Hp->VK->Prop}{gc:Ds->Option D}{x:Str}{p:Pos}{Z:List Lb}{fs:Ds->Option Ds}{tos:VTA}
def Bh(gc:Ds->Option D)(fs:Ds->Option Ds):FV:=λds=>(fs ds).bind gc
theorem vbi{id:String}(d:CallR X (.builtin id) rc)(h:OpS nw rc gc)(hm:X.mg x=none)(f:VVs c X (e::Z) own fs)(g:Gl X x:=by rfl)(i:Ko x=some (.builtin id):=by rfl)(j:x ≠ "__name__" := by decide)(a:N' x:=by decide)(k:Kj (e::Z) X.env=(false,eval e X.env)::Kj Z X.env:=by rfl)(b:((backTo Y (Kj Z X.env)).any λx=>x.1)=false:=by rfl):VV c X (.Call (.Name x p) (e::Z) [] Y) (nw||own) (Bh gc fs):=⟨PE.mono (cbi d hm f.h g i j a k b) (qaO5 h)⟩
theorem E9{id:String}(d:CallR X (.type id) rc)(h:OpS nw rc gc)(hm:X.mg x=none)(f:VVs c X (e::Z) own fs)(g:Gl X x:=by rfl)(i:Ko x=some (.type id):=by rfl)(j:x ≠ "__name__" := by decide)(a:N' x:=by decide)(k:Kj (e::Z) X.env=(false,eval e X.env)::Kj Z X.env:=by rfl)(b:((backTo Y (Kj Z X.env)).any λx=>x.1)=false:=by rfl):VV c X (.Call (.Name x p) (e::Z) [] Y) (nw||own) (Bh gc fs):=⟨PE.mono (cty d hm f.h g i j a k b) (qaO5 h)⟩
theorem ebi{id:String}(f:CallR X (.builtin id) rc)(h:OpS true rc gc)(hm:X.mg x=none)(a:VOs c X (e::Z) tos)(g:Gl X x:=by rfl)(i:Ko x=some (.builtin id):=by rfl)(j:x ≠ "__name__" := by decide)(b:N' x:=by decide)(k:Kj (e::Z) X.env=(false,eval e X.env)::Kj Z X.env:=by rfl)(d:((backTo Y (Kj Z X.env)).any λx=>x.1)=false:=by rfl):VE c X (.Call (.Name x p) (e::Z) [] Y) (tcO gc tos):=⟨PE.mono (cbi f hm a.h g i j b k d) (opc_o a h),qaB4 a⟩
def gLst(xs:Ds):Option D:=gd (D.imms xs=true/\xs.length<=big) (.l false xs)
def gTup(xs:Ds):Option D:=gd (D.imms xs=true/\xs.length<=big) (.q xs)
theorem Bz(k:VVs c X Z own fs):VV c X (.List Z Y) true (Bh gLst fs):=by refine⟨PE.mono (qaD6 k.h) λW H Q f=>?_⟩;obtain⟨F,l,A,d,S,e,q⟩:=f;obtain⟨m,n,e2⟩:=zA1.mp e;obtain⟨g,rfl⟩:=ql8 e2;refine⟨F,l,A,m,S,n,λr H1 B1 i j s=>⟨by rw[i.len];exact zAl g.2 qj8,λp a=>?_⟩⟩;exact q _ _ [p] (qB7 a (i.imms0 g.1)) (j.trans (Same.new a)) λ_=>⟨(qi2 a).one,λb o e=>(qi2 a).new b o (j b o e)⟩
theorem Dy(i:VVs c X Z own fs):VV c X (.Tuple Z k Y) true (Bh gTup fs):=by refine⟨PE.mono (qaN2 i.h) λW H Q a=>?_⟩;obtain⟨F,j,A,d,S,e,q⟩:=a;obtain⟨l,m,e2⟩:=zA1.mp e;obtain⟨b,rfl⟩:=ql8 e2;refine⟨F,j,A,l,S,m,λo H1 B1 f n r=>⟨by rw[f.len];exact zAl b.2 qj8,λp g=>?_⟩⟩;exact q _ _ [] (qO0 g (f.imms0 b.1)) (n.trans (Same.new g)) λ_=>New.nil
def FO:=Ds->Option (Option Int)
inductive qaU2(c:Vc)(f:FO)(W:St)(H:Hp)(Q:Option Int->Hp->Prop):Prop
 |mk (F:γ->Prop) (ds:Ds) (A:List γ) (i:Option Int) (S:Pd c F H W ds A) (e:f ds=some i) (q:∀H',Same H H'->Q i H'):qaU2 c f W H Q
def qaZ2(c:Vc)(f:FO):TO:=qaU2 c f
structure VPO(c:Vc)(X:Cx)(e:Option Lb)(f:FO):Prop where
 h:PO X e (qaZ2 c f)
theorem PO.mono{X:Cx}{e:Option Lb}{t t':TO}(h:PO X e t)(i:∀W H Q,t' W H Q->t W H Q):PO X e t':=λD8 s W H Q I q=>h D8 s W H Q I (i W H Q q)
noncomputable def foN:FO:=λ_=>some none
noncomputable def D.asI:D->Option Int|.int i=>some i|_=>none
theorem Pa.asI(r:Pa F H v d B)(h:d.asI=some k):v=.int k:=by cases r<;>cases h<;>rfl
def foS(f:FV):FO:=λds=>(f ds).bind λd=>d.asI.map some
theorem Hh:VPO c X none foN:=⟨PO.mono qW9 λW H Q ⟨F,a,A,i,S,e,q⟩=>by cases e;exact q H λ_ _ z=>z⟩
theorem Hi(h:VV c X e own f):VPO c X (some e) (foS f):=by refine⟨PO.mono (qW8 h.h) λW H Q a=>?_⟩;obtain⟨F,b,A,i,S,e,q⟩:=a;obtain⟨d,g,e2⟩:=zA1.mp e;obtain⟨j,k,rfl⟩:=zAa.mp e2;exact⟨F,b,A,d,S,g,λv H' B r s _=>⟨j,r.asI k,q H' s⟩⟩
noncomputable def noT:D->Bool|.q _=>false|_=>true
def fsl(fa:FV)(lo hi:FO):FV:=λds=>(fa ds).bind λx=>(lo ds).bind λl=>(hi ds).bind λh=>if noT x=true then gSl x l h else none
theorem vsl{n p:FO}(t:VV c X a oa fa)(u:VPO c X lo n)(y:VPO c X hi p):VV c X (.Subscript a (.Slice lo hi none p2) Y) true (fsl fa n p):=by refine⟨PE.mono (qI6 qW4 t.h u.h y.h) λW H Q g=>?_⟩;obtain⟨F,i,A,d,S,e,q⟩:=g;obtain⟨x,B,e⟩:=zA1.mp e;obtain⟨l,e2,e⟩:=zA1.mp e;obtain⟨h,C,e⟩:=zA1.mp e;by_cases j:noT x=true;{rw[if_pos j] at e;refine⟨F,i,A,x,S,B,λv H1 B1 D k _=>⟨F,i,A,l,S.same k,e2,λH2 m=>⟨F,i,A,h,(S.same k).same m,C,λH3 r=>?_⟩⟩⟩;have f:=(k.trans m).trans r;refine Ji ((D.same m).same r) e (λI z=>by subst z;cases j) λw H' B' E G s=>q w H' B' E (f.trans G) λ_=>⟨s.one,λb o e=>s.new b o (f b o e)⟩};rw[if_neg j] at e;cases e
def fget(fa a b:FV):FV:=λds=>(fa ds).bind λx=>(a ds).bind λy=>(b ds).bind λz=>match x with|.dct _ kvs=>y.key.bind λk=>gd (((Dw kvs k).getD z).imm=true) ((Dw kvs k).getD z)|_=>none
theorem vget{z:Lb}{D:Bool}{t:FV}(G:X.A.units+1<cLine)(I:VV c X a oa fa)(J:VV c X k D s)(K:VV c X z E t)(m:M2 X a "get" apos k z cpos):VV c X (.Call (.Attribute a "get" apos) [k,z] [] cpos) true (fget fa s t):=by refine⟨PE.mono (qaD7 G I.h J.h K.h m) λW H Q j=>?_⟩;obtain⟨F,l,A,d,S,e,q⟩:=j;obtain⟨x,L,e⟩:=zA1.mp e;obtain⟨y,e2,e⟩:=zA1.mp e;obtain⟨w,M,e⟩:=zA1.mp e;cases x with|dct z N=>obtain⟨n,O,e⟩:=zA1.mp e;obtain⟨g,rfl⟩:=ql8 e;refine⟨F,l,A,_,S,L,λv H1 B1 P o _=>?_⟩;obtain⟨a,b,A2,rfl,B,R,T,_⟩:=P.dct_inv;refine⟨a,rfl,.inl ⟨b,.inl B⟩,F,l,A,y,S.same o,e2,λu H2 B2 U i _=>⟨F,l,A,w,(S.same o).same i,M,λV H3 B3 C p _=>?_⟩⟩;have r:=p _ _ (i _ _ B);refine⟨E4 b n,.inl ⟨b,n,.inl r,(U.key O),rfl⟩,?_⟩;have f:=(o.trans i).trans p;rcases qaJ5 n R T with⟨n1,n2⟩|⟨vv,dd,BB,n1,n2,n3,n4⟩;{rw[n1] at g q;rw[n2];have:=C.imm g;subst this;exact q _ H3 [] C f λ_=>New.nil};rw[n1] at g q;rw[n2];have:=n3.imm g;subst this;exact q _ H3 [] ((n3.same i).same p) f λ_=>New.nil|_=>cases e
end
section
variable{c:Vc}{X:Cx}{a b e:Lb}{pos:Pos}{F F':γ->Prop}{H H':Hp}{σ:St}{ds:Ds}{A:List γ}
theorem Pd.put1(S:Pd c F H σ ds A)(h:ds[i]?=some d)(e:d≠.u):∃(v:V)(B C:List γ),(σ++c.gv)[i]?=some (some v)/\Pa F H v d B/\(∀b,A.count b=B.count b+C.count b)/\∀{F':γ->Prop}{H':Hp}{W:γ->Prop}(d':D)(B':List γ),Kp F H W F' H'->(∀b∈C,¬W b)->Pa F' H' v d' B'->∃A':List γ,Locs F' H' (σ++c.gv) (ds.set i d') A'/\∀b,A'.count b=B'.count b+C.count b:=by
 have f:Bc ds i []=some d:=by unfold Bc;rw[h];rfl
 obtain⟨u,w,B,C,g,j,l,m,n⟩:=S.loc.place f e;cases j;refine⟨u,B,C,g,l,m,λ{F' H' W} d' B' k o r=>?_⟩;obtain⟨A',a,q2⟩:=n d' B' k o r;refine⟨A',?_,q2⟩;unfold Bj at a;rw[h] at a;exact a
theorem qn8{d:D}(h:d.known=true):d≠.u:=λz=>by subst z;cases h
def tMv(i:Nat):VT:=λds Q _=>orF (rdN i ds) λd=>Q d (ds.set i .u)
theorem emv(i:Nat)(k:X.N[i]?=some x:=by rfl)(m:Vis X.env.scope x:=by first|exact O1 rfl|exact O0 (O1 rfl)|exact O0 (O0 rfl))(n:N' x:=by decide)(a:(x==("__classdict__" : Str))=false:=by decide):VE c X (.Name x pos) (tMv i):=by refine⟨λD8 s σ H Q I g=>?_,λp Q Q' r t u _=>qa4 λd=>u _ _⟩;obtain⟨F,p,A,r,S,x,q⟩:=g;refine qq8 k m n a D8 s σ H Q I ?_;obtain⟨d,h,q⟩:=qa7.mp q;obtain⟨h,w⟩:=qn3.mp h;obtain⟨v,B,C,l,y,j,D⟩:=S.put1 h (qn8 w);have E:=qr6 k D8 σ H s I;rw[zAj E] at l;obtain⟨A',G,q2⟩:=D .u [] (Kp.same (λ_ _ z=>z)) (λ_ _ z=>z) (.u v);refine⟨v,l,q v H F B A' y ⟨G,S.ok.count λb=>by rw[q2,j];simp,S.len,S.ag⟩ (S.ok.count λb=>by rw[zA0,q2,j];simp) ?_⟩;exact⟨λ_ _ e _=>e,λb o e z=>by rw[zA0,q2];have:=j b;simp;lia,λ_ f=>f,λ_ _ _ _ f=>f⟩
def tFz(i:Nat):VT:=λds Q _=>orF (rdN i ds) λd=>Q d.fz (ds.set i d.fz)
theorem share{B C:List γ}(o:Ok F H A)(a:∀b,A.count b=B.count b+C.count b)(d:∀b∈B,∃o,H b=some o/\Ed o=true)(c:∀b,A'.count b=C.count b):Ok (λb=>F b∨b∈B) H A'/\Pc F H A (λb=>F b∨b∈B) H A':=by refine⟨⟨λb=>by rw[c];have:=o.sep b;have:=a b;lia,λb f=>?_,λb f=>?_⟩,λ_ _ e _=>e,λb o e z=>by rw[c];have:=a b;lia,λb f=>.inl f,λb u e z f=>?_⟩;{rw[c];rcases f with f|f;{have:=o.fro b f;have:=a b;lia};have:=qb1.mp f;have:=o.sep b;have:=a b;lia};{rcases f with f|f;{exact o.ex b f};exact let ⟨u,e,_⟩:=d b f;⟨u,e⟩};rcases f with f|f;{exact f};have:=qb1.mp f;have:=a b;lia
theorem efz(i:Nat)(h:X.N[i]?=some x:=by rfl)(n:Vis X.env.scope x:=by first|exact O1 rfl|exact O0 (O1 rfl)|exact O0 (O0 rfl))(o:N' x:=by decide)(a:(x==("__classdict__" : Str))=false:=by decide):VE c X (.Name x pos) (tFz i):=by refine⟨λD8 s σ H Q I e=>?_,λp Q Q' r t u _=>qa4 λd=>u _ _⟩;obtain⟨F,p,A,r,S,x,q⟩:=e;refine qq8 h n o a D8 s σ H Q I ?_;obtain⟨d,g,q⟩:=qa7.mp q;obtain⟨g,w⟩:=qn3.mp g;obtain⟨v,B,C,j,k,y,D⟩:=S.put1 g (qn8 w);have E:=qr6 h D8 σ H s I;rw[zAj E] at j;have l:=k.fz (F':=λb=>F b∨b∈B) (λb f=>.inl f) λb G=>.inr G;obtain⟨A',J,q2⟩:=D d.fz [] (Kp.more (H:=H) λb f=>O1 f) (λ_ _ z=>z) l;obtain⟨m,K⟩:=share S.ok y k.cells (A':=A') (λb=>by rw[q2];simp);exact⟨v,j,q v H _ [] A' l ⟨J,m,S.len,S.ag⟩ m K⟩
abbrev PF:=Ds->Option (Nat×List Nat)
inductive LiftP(c:Vc)(pf:PF)(σ:St)(H:Hp)(Q:VK):Prop
 |mk (F:γ->Prop) (ds:Ds) (A:List γ) (i:Nat) (p:List Nat) (d:D) (S:Pd c F H σ ds A) (e:pf ds=some (i,p)) (g:Bc ds i p=some d) (n:d≠.u) (q:∀u w H',(σ++c.gv)[i]?=some (some u)->Walk H' u p w->Same H H'->Q w H'):LiftP c pf σ H Q
def Gf(c:Vc)(pf:PF):TE:=LiftP c pf
structure VP(c:Vc)(X:Cx)(e:Lb)(pf:PF):Prop where
 h:PE X e (Gf c pf)
theorem vpn(i:Nat)(h:X.N[i]?=some x:=by rfl)(l:Vis X.env.scope x:=by first|exact O1 rfl|exact O0 (O1 rfl)|exact O0 (O0 rfl))(m:N' x:=by decide)(b:(x==("__classdict__" : Str))=false:=by decide):VP c X (.Name x pos) (λ_=>some (i,[])):=by refine⟨λD8 s σ H Q I f=>?_⟩;obtain⟨F,t,A,j,p,d,S,e,n,g,q⟩:=f;refine qq8 h l m b D8 s σ H Q I ?_;cases e;obtain⟨u,w,B,C,k,o,v,y,D⟩:=S.loc.place n g;cases o;have r:=qr6 h D8 σ H s I;have a:=k;rw[zAj r] at a;exact⟨u,a,q u u H k rfl λ_ _ z=>z⟩
theorem qP2:∀{p:List Nat}{d x:D}{q:List Nat},d.getP (p++q)=some x->∃e,d.getP p=some e/\e.getP q=some x|[],d,x,q,h=>⟨d,rfl,h⟩|n::p,d,x,q,h=>by have h:D.getP d (n::(p++q))=some x:=h;unfold D.getP at h;cases a:d.kids[n]? with|none=>rw[a] at h;cases h|some y=>rw[a] at h;obtain⟨e,b,c⟩:=qP2 (p:=p) h;exact⟨e,by unfold D.getP;rw[a];exact b,c⟩
theorem qP3(h:Bc ds i (p++q)=some x):∃e,Bc ds i p=some e/\e.getP q=some x:=by unfold Bc at h ⊢;cases a:ds[i]? with|none=>rw[a] at h;cases h|some d=>rw[a] at h;exact qP2 h
theorem Walk.snoc:∀{p:List Nat}{u v w:V}{n:Nat},Walk H u p v->Lnk H v n w->Walk H u (p++[n]) w|[],_,_,w,n,h,l=>by cases h;exact⟨w,l,rfl⟩|m::p,_,_,_,_,⟨x,h1,h2⟩,l=>⟨x,h1,h2.snoc l⟩
theorem qaQ6{d e:D}(h:d.getP [n]=some e):d≠.u:=λz=>by subst z;cases (show (none:Option D)=some _ from h)
theorem Pd.place(S:Pd c F H σ ds A)(h:Bc ds i p=some d)(e:d≠.u)(f:(σ++c.gv)[i]?=some (some u))(g:Walk H u p w):∃(B C:List γ),Pa F H w d B/\(∀b,A.count b=B.count b+C.count b)/\∀{F':γ->Prop}{H':Hp}{W:γ->Prop}(d':D)(B':List γ),Kp F H W F' H'->(∀b∈C,¬W b)->Pa F' H' w d' B'->∃A':List γ,Locs F' H' (σ++c.gv) (Bj ds i p d') A'/\∀b,A'.count b=B'.count b+C.count b:=by obtain⟨n,o,B,C,a,j,k,l,m⟩:=S.loc.place h e;rw[f] at a;cases a;cases g.fn j;exact⟨B,C,k,l,m⟩
def D.fidx(C:γ)(f:Str):D->Option Nat|.ins _ C' fs=>if C'=C then fs.findIdx? (λq=>f==q.1) else none|_=>none
theorem qG9{α:Type}:∀{fs:List (Str×α)}{f:Str}{n:Nat},fs.findIdx? (λq=>f==q.1)=some n->∃v,fs.lookup f=some v/\(fs.map (·.2))[n]?=some v|[],f,n,h=>by simp at h|(k,v)::r,f,n,h=>by rw[zCt] at h;rw[zAv];cases a:f==k with|true=>simp[a] at h;subst h;exact⟨v,rfl,rfl⟩|false=>simp[a] at h;obtain⟨m,b,rfl⟩:=h;obtain⟨w,c,d⟩:=qG9 (fs:=r) b;exact⟨w,c,by simpa using d⟩
theorem qY8{α β:Type}:∀{fs:List (Str×α)}{a:List (Str×β)}{f:Str},fs.map (·.1)=a.map (·.1)->fs.findIdx? (λq=>f==q.1)=a.findIdx? (λq=>f==q.1)
 |[],[],_,_=>rfl|[],_::_,_,h=>by simp at h|_::_,[],_,h=>by simp at h|(k,_)::r,(k',_)::r',f,h=>by
  have b:k=k':=by simp at h;exact h.1
  have c:r.map (·.1)=r'.map (·.1):=by simp at h;simpa using h.2
  subst b;rw[zCt,zCt,qY8 c]
def pfFld(C:γ)(f:Str)(pf:PF):PF:=λds=>(pf ds).bind λq=>(Bc ds q.1 q.2).bind λd=>(d.fidx C f).map λn=>(q.1,q.2++[n])
theorem Ex(G:X.K=K)(l:VP c X a pf)(I:Cls K C)(J:qh0 K C f)(L:Kr a f X.env (eval a X.env)=eval a X.env:=by rfl):VP c X (.Attribute a f pos) (pfFld C f pf):=by subst G;refine⟨PE.mono (qaq8 l.h L) λσ H Q m=>?_⟩;obtain⟨F,M,A,i,p,d,S,e,N,Z,q⟩:=m;obtain⟨⟨j,O⟩,P,e⟩:=zA1.mp e;obtain⟨t,e2,e⟩:=zA1.mp e;obtain⟨n,x,e⟩:=zAa.mp e;cases e;obtain⟨R,g1,g2⟩:=qP3 N;rw[e2] at g1;cases g1;have b:=qaQ6 g2;refine⟨F,M,A,j,O,t,S,P,e2,b,λu w H' y D s=>?_⟩;obtain⟨B,C0,r,_,_⟩:=(S.same s).place e2 b y D;cases t with|ins z C' T=>have g:(if C'=C then T.findIdx? (λq=>f==q.1) else none)=some n:=x;by_cases o:C'=C;{rw[if_pos o] at g;obtain⟨a,E,k,_,rfl,l,U,rs,_⟩:=r.ins_inv;rw[<-qY8 U] at g;obtain⟨v,V,Y⟩:=qG9 g;subst o;exact⟨a,C',E,k,v,rfl,l,I,J,V,q u v H' y (D.snoc ⟨a,rfl,.inr (.inr (.inr ⟨C',E,k,l,Y⟩))⟩) s⟩};rw[if_neg o] at g;cases g|_=>cases x
def pfIx(pf:PF)(fb:FV):PF:=λds=>(pf ds).bind λq=>(Bc ds q.1 q.2).bind λd=>d.elems.bind λys=>(fb ds).bind λy=>y.asI.bind λk=>(ixN ys.length k).map λn=>(q.1,q.2++[n])
theorem Gg(f:VP c X a pf)(N:VV c X b ob fb)(O:qao4 b:=by exact λ_ _=>rfl):VP c X (.Subscript a b pos) (pfIx pf fb):=by refine⟨PE.mono (pe_ix qb5 f.h N.h O) λσ H Q C=>?_⟩;obtain⟨F,J,A,i,p,d,S,e,P,hd,q⟩:=C;obtain⟨⟨j,R⟩,T,e⟩:=zA1.mp e;obtain⟨K,e2,e⟩:=zA1.mp e;obtain⟨U,D,e⟩:=zA1.mp e;obtain⟨y,V,e⟩:=zA1.mp e;obtain⟨k,W,e⟩:=zA1.mp e;obtain⟨n,E,e⟩:=zAa.mp e;cases e;obtain⟨Y,g1,g2⟩:=qP3 P;rw[e2] at g1;cases g1;have o:=qaQ6 g2;refine⟨F,J,A,j,R,K,S,T,e2,o,λu w H1 G Z s=>?_⟩;refine⟨F,J,A,y,S.same s,V,λv2 H2 B2 r2 L _=>?_⟩;have g:=s.trans L;have l:=Z.same L;obtain⟨B,C0,r,_,_⟩:=(S.same g).place e2 o G l;cases r2.asI W;have M:n<U.length:=(qY1 E).2.1;cases K with|l z I=>cases D;obtain⟨a,m,A3,rfl,f,t,_⟩:=r.lst_inv;obtain⟨vn,v⟩:∃x,m[n]?=some x:=⟨_,zB2 (by rw[t.len];exact M)⟩;refine .inl ⟨a,m,k,_,rfl,rfl,.inl (.inl f),?_,q u _ H2 G (l.snoc ⟨a,rfl,.inr (.inl ⟨m,f,v⟩)⟩) g⟩;unfold atI;rw[t.len,E];exact v|q I=>cases D;obtain⟨a,m,rfl,f,t⟩:=r.tup_inv;obtain⟨vn,v⟩:∃x,m[n]?=some x:=⟨_,zB2 (by rw[t.len];exact M)⟩;refine .inr (.inl ⟨a,m,k,_,rfl,rfl,.inl (.inl f),?_,q u _ H2 G (l.snoc ⟨a,rfl,.inl ⟨m,f,v⟩⟩) g⟩);unfold atI;rw[t.len,E];exact v|_=>cases D
end
inductive Pl where
 |no
 |sl (i:Nat)
 |pl (i:Nat) (p:List Nat) (w:V)
abbrev VTB:=Ds->(Ds->List Pl->Ds->Prop)->XKd->Prop
inductive Fk(τ:List (Option V)):List V->List Pl->Prop
 |nil:Fk τ [] []
 |no {v:V} {vs:List V} {ps:List Pl} (t:Fk τ vs ps):Fk τ (v::vs) (.no::ps)
 |sl {v:V} {vs:List V} {ps:List Pl} {i:Nat} (h:τ[i]?=some (some v)) (t:Fk τ vs ps):Fk τ (v::vs) (.sl i::ps)
 |so {v:V} {vs:List V} {ps:List Pl} {i:Nat} {p:List Nat} (t:Fk τ vs ps):Fk τ (v::vs) (.pl i p v::ps)
inductive LiftA(c:Vc)(t:VTB)(a:St)(H:Hp)(Q:List V->Hp->Prop):Prop
 |mk (F:γ->Prop) (ds:Ds) (A:List γ) (xe:XKd) (S:Pd c F H a ds A) (x:Xc c xe F H A) (q:t ds (λxs pls ds'=>∀vs H' F' T A',O4 F' H' vs xs T->Fk (a++c.gv) vs pls->Pd c F' H' a ds' A'->Ok F' H' (T++A')->Pc F H A F' H' (T++A')->Q vs H') xe):LiftA c t a H Q
def Ek(c:Vc)(t:VTB):TA:=LiftA c t
structure VAs(c:Vc)(X:Cx)(es:List Lb)(t:VTB):Prop where
 h:PA X es (Ek c t)
 m:∀ds (Q Q':Ds->List Pl->Ds->Prop) (xe xe':XKd),(∀d p ds',Q d p ds'->Q' d p ds')->(∀x ds',xe x ds'->xe' x ds')->t ds Q xe->t ds Q' xe'
section
variable{c:Vc}{X:Cx}{e:Lb}{es:List Lb}{ta:VT}{tr:VTB}{pf:PF}{F F':γ->Prop}{H H':Hp}{σ:St}{ds:Ds}{A:List γ}
def A7:VTB:=λds Q _=>Q [] [] ds
theorem Ac:VAs c X [] A7:=⟨PA.mono ql4 λσ H Q ⟨F,a,A,b,S,x,q⟩=>q [] H F [] A .nil .nil S S.ok Pc.refl,λa Q Q' b d e _=>e _ _ _⟩
def tbV(ta:VT)(tr:VTB):VTB:=λds Q xe=>ta ds (λx ds1=>tr ds1 (λxs ps a=>Q (x::xs) (.no::ps) a) xe) xe
theorem vaV(f:VE c X e ta)(g:VAs c X es tr)(w:Kj (e::es) X.env=(false,eval e X.env)::Kj es X.env:=by rfl):VAs c X (e::es) (tbV ta tr):=by
 refine⟨PA.mono (qc5 f.h g.h w) λσ H Q i=>?_,λo Q Q' j y B p=>f.m _ _ _ _ _ (λd a=>g.m _ _ _ _ _ (λC D k=>B _ _ _) p) p⟩;obtain⟨F,o,A,j,S,x,q⟩:=i;refine⟨F,o,A,j,S,x,f.m _ _ _ _ _ (λE a q v H1 F1 T A1 r S1 s t=>?_) (λ_ _ z=>z) q⟩;have l:Pc F H A F1 H1 A1:=t.count λb=>by rw[zA0];lia
 refine⟨F1,a,A1,j,S1,x.step l,g.m _ _ _ _ _ (λC D k q G H2 F2 T2 A2 I J S2 K u=>?_) (λ_ _ z=>z) q⟩;have n:Pa F2 H2 v E T:=r.keep (u.kp S1.ok S1.loc.cells) λb L O=>by have:=s.sep b;rw[zA0] at this;have:=qb1.mp L;lia
 obtain⟨M,N⟩:=u.frame s r.cells K;exact q (v::G) H2 F2 (T++T2) A2 (.cons n I) (.no J) S2 (by rw[zAo];exact M) (by rw[zAo];exact t.trans N)
def tbB(pf:PF)(tr:VTB):VTB:=λds Q xe=>orF (pf ds) λq=>orF (Bc ds q.1 q.2) λd=>d.known=true/\∀w,tr (Bj ds q.1 q.2 (.hole w)) (λxs ps a=>Q (d::xs) (.pl q.1 q.2 w::ps) a) xe
theorem vaB(I:VP c X e pf)(a:VAs c X es tr)(J:Kj (e::es) X.env=(false,eval e X.env)::Kj es X.env:=by rfl):VAs c X (e::es) (tbB pf tr):=by
 refine⟨PA.mono (qc5 I.h a.h J) λσ H Q g=>?_,λj Q Q' v K L M=>qa4 λz=>qa4 λd=>N7 λh w=>a.m _ _ _ _ _ (λN O k=>L _ _ _) M (h w)⟩;obtain⟨F,j,A,v,S,x,q⟩:=g;obtain⟨⟨i,p⟩,P,q⟩:=qa7.mp q;obtain⟨d,e2,y,q⟩:=qa7.mp q;refine⟨F,j,A,i,p,d,S,P,e2,qn8 y,λu w H1 R T s=>?_⟩;obtain⟨B,C,r,D,U⟩:=(S.same s).place e2 (qn8 y) R T;obtain⟨A1,V,q2⟩:=U (.hole w) [] (Kp.same (F:=F) λ_ _ z=>z) (λ_ _ z=>z) (.hole w);have l:Ok F H1 (B++A1):=(S.same s).ok.count λb=>by rw[zA0,q2,D];simp
 have E:Pc F H A F H1 (B++A1):=⟨λb o e _=>s b o e,λb o e z=>by rw[zA0,q2];have:=D b;simp;lia,λ_ f=>f,λ_ _ _ _ f=>f⟩;have S1:Pd c F H1 σ (Bj j i p (.hole w)) A1:=⟨V,l.right,S.len,S.ag⟩;have n:Pc F H A F H1 A1:=E.count λb=>by rw[zA0];lia
 refine⟨F,_,A1,v,S1,x.step n,a.m _ _ _ _ _ (λN O k q W H2 F2 T2 A2 Y Z S2 o2 G=>?_) (λ_ _ z=>z) (q w)⟩;have t:Pa F2 H2 w d B:=r.keep (G.kp S1.ok S1.loc.cells) λb hb hc=>by have:=l.sep b;rw[zA0] at this;have:=qb1.mp hb;lia
 obtain⟨o3,s3⟩:=G.frame l r.cells o2;exact q (w::W) H2 F2 (B++T2) A2 (.cons t Y) (.so Z) S2 (by rw[zAo];exact o3) (by rw[zAo];exact E.trans s3)
def tbN(i:Nat)(tr:VTB):VTB:=λds Q xe=>(rdN i ds).isSome=true/\tr ds (λxs ps ds1=>orF (rdN i ds1) λd=>Q (d::xs) (.sl i::ps) (ds1.set i .u)) xe
theorem vaN(i:Nat)(e:VAs c X es tr)(E:Kj (.Name x p::es) X.env=(false,eval (.Name x p) X.env)::Kj es X.env:=by rfl)(t:X.N[i]?=some x:=by rfl)(G:Vis X.env.scope x:=by first|exact O1 rfl|exact O0 (O1 rfl)|exact O0 (O0 rfl))(J:N' x:=by decide)(f:(x==("__classdict__" : Str))=false:=by decide):VAs c X (.Name x p::es) (tbN i tr):=by
 refine⟨λpos D8 s σ H Q I g=>?_,λu Q Q' w K L M=>N7 (e.m _ _ _ _ _ (λO P j=>qa4 λd=>L _ _ _) M)⟩;obtain⟨F,u,A,w,S,x,k,q⟩:=g;refine qc5 (qq8 t G J f) e.h E pos D8 s σ H Q I ?_;have y:=qr6 t D8 σ H s I;obtain⟨d0,R⟩:=zBb.mp k;obtain⟨v,B0,a,_,_⟩:=S.name y R;refine⟨v,a,F,u,A,w,S,x,e.m _ _ _ _ _ (λO P j q T H2 F2 T2 A2 U V S2 D W=>?_) (λ_ _ z=>z) q⟩;obtain⟨d,l,q⟩:=qa7.mp q;obtain⟨l,Y⟩:=qn3.mp l;obtain⟨v',B,C,n,Z,h3,h4⟩:=S2.put1 l (qn8 Y);have o:=n;rw[zAj y,a] at n;cases n;obtain⟨A3,q1,q2⟩:=h4 .u [] (Kp.same (F:=F2) λ_ _ z=>z) (λ_ _ z=>z) (.u v);have r:∀b,((B++T2)++A3).count b<=(T2++A2).count b:=λb=>by simp only[zA0,q2,h3];simp;lia
 exact q (v::T) H2 F2 (B++T2) A3 (.cons Z U) (.sl o V) ⟨q1,(D.count r).right,S.len,S.ag⟩ (D.count r) (W.count r)
def Aq:List Pl->Ds->Ds->Option Ds
 |[],_,ds=>some ds|.no::ps,_::ys,ds=>Aq ps ys ds|.sl i::ps,y::ys,ds=>Aq ps ys (ds.set i y)|.pl i p v::ps,y::ys,ds=>match Bc ds i p with|some (.hole w)=>if w=v then Aq ps ys (Bj ds i p y) else none|_=>none
 |_::_,[],_=>none
theorem qH7(L:Locs F H τ ds C)(hi:τ[i]?=some (some v))(r:Pa F H v y B):∃A':List γ,Locs F H τ (ds.set i y) A'/\∀b,A'.count b<=B.count b+C.count b:=by
 have s:=L.len;have g:i<τ.length:=(zA4.mp hi).1;obtain⟨d,h⟩:∃d,ds[i]?=some d:=⟨_,zB2 ⋯⟩;obtain⟨σ1,o,σ2,a,c,A1,B0,A2,e,e2,j,k,m,n,t,p⟩:=L.split h;have f:τ[i]?=some o:=by rw[e];exact qC4 j
 rw[hi] at f;cases f;have q:ds.set i y=a++y::c:=by have:=congrArg (λl=>l.set i y) e2;rw[this,qp1 k]
 exact⟨A1++(B++A2),by rw[e,q];exact n.append (.so r p),λb=>by rw[m];simp only[zA0];lia⟩
theorem qu3(e:Fk σ vs pls)(r:O4 F H (vs++more) ys B)(L:Locs F H σ ds C)(h:Aq pls ys ds=some a):∃A':List γ,Locs F H σ a A'/\∀b,A'.count b<=B.count b+C.count b:=by
 induction e generalizing ys ds B C with
 |nil=>
  have h:some ds=some a:=by cases ys<;>exact h
  cases h;exact⟨C,L,λb=>⋯⟩
 |no e c=>cases r with|@cons _ _ A1 _ _ B1 r1 t=>obtain⟨A',d,q2⟩:=c t L h;exact⟨A',d,λb=>by rw[zA0];have:=q2 b;lia⟩
 |sl k e c=>cases r with|@cons _ _ A1 _ _ B1 r1 t=>obtain⟨A2,d,q2⟩:=qH7 L k r1;obtain⟨A',f,g⟩:=c t d h;exact⟨A',f,λb=>by rw[zA0];have:=g b;have:=q2 b;lia⟩
 |@so v _ _ i p e c=>
  cases r with
  |@cons _ y A1 _ _ B1 r1 t=>
   unfold Aq at h;split at h
   .rename_i w hg;by_cases j:w=v
    .rw[if_pos j] at h;subst j;obtain⟨u,o,B2,C2,q,s,l,m,n⟩:=L.place hg (by intro z;cases z);cases l;obtain⟨A2,d,q2⟩:=n y A1 (Kp.same (F:=F) λ_ _ z=>z) (λ_ _ z=>z) r1;obtain⟨A',f,g⟩:=c t d h;refine⟨A',f,λb=>?_⟩;have:=g b;have:=q2 b;have:=m b;simp only[L7,zA0] at *
     lia
    rw[if_neg j] at h;cases h
   cases h
abbrev VSp:=Ds->DK->XKd->Prop
inductive LiftF(s:VSp)(vs:List V)(H:Hp)(Q:VK)(E:XK):Prop
 |mk (F:γ->Prop) (ds:Ds) (A:List γ) (r:O4 F H vs ds A) (o:Ok F H A) (q:s ds (λd ys=>∀v H' F' T A',Pa F' H' v d T->O4 F' H' vs ys A'->Ok F' H' (T++A')->Pc F H A F' H' (T++A')->Q v H')
   (λx ys=>∀e H' F' A',RepX F' H' e x->O4 F' H' vs ys A'->Ok F' H' A'->Pc F H A F' H' A'->E (.ref e) none H')):LiftF s vs H Q E
def Ey(s:VSp):Sp:=LiftF s
def Bo(s:VSp):Prop:=∀ds (Q Q':DK) (xe xe':XKd),(∀d a,Q d a->Q' d a)->(∀x a,xe x a->xe' x a)->s ds Q xe->s ds Q' xe'
def qk6(s:VSp)(dv:Ds)(tr:VTB):VT:=λds Q xe=>tr ds (λxs ps ds1=>s (xs++dv) (λd ys=>orF (Aq ps ys ds1) λa=>Q d a) (λx ys=>orF (Aq ps ys ds1) λa=>xe x a)) xe
theorem qau7(f:Bo s)(g:VAs c X es tr):∀ds (Q Q':DK) (xe b:XKd),(∀d a,Q d a->Q' d a)->(∀x a,xe x a->b x a)->qk6 s dv tr ds Q xe->qk6 s dv tr ds Q' b:=λds Q Q' xe b h e=>g.m _ _ _ _ _ (λk l i=>f _ _ _ _ _ (λd j=>qa4 λz=>h _ _) (λx j=>qa4 λz=>e _ _)) e
def Gw(dvs:List V)(dv:Ds):Prop:=∀F H,O4 F H dvs dv []
theorem qo2:Gw [] []:=λ_ _=>.nil
theorem qaT4(G:Gw dvs dv)(I:Bo s)(J:VAs c X es tr):∀σ H Q,Bm c (qk6 s dv tr) σ H Q->G9 (Ey s) dvs c.E (Ek c tr) σ H Q:=by
 rintro σ H Q ⟨F,K,A,L,S,x,q⟩;refine⟨F,K,A,L,S,x,J.m _ _ _ _ _ (λB U h q M H1 F1 T A1 N C S1 a D=>?_) (λ_ _ z=>z) q⟩;have rall:O4 F1 H1 (M++dvs) (B++dv) (T++[]):=N.append (G F1 H1);rw[zAd] at rall;refine⟨F1,B++dv,T,rall,a.left,I _ _ _ _ _ (λd O q v H2 F2 T2 A2 P l n i=>?_) (λy O q e H2 F2 A2 R l n i=>?_) q⟩
 .obtain⟨j,o,q⟩:=qa7.mp q;have f:Ok F1 H1 (A1++T):=a.count λb=>by simp only[zA0];lia
  obtain⟨p,r⟩:=i.frame f S1.loc.cells n;have L1:Locs F2 H2 (σ++c.gv) h A1:=S1.loc.keep (i.kp a.left rall.cells) λb t g=>by have:=a.sep b;rw[zA0] at this;have:=qb1.mp t;lia
  obtain⟨A3,u,q2⟩:=qu3 C l L1 o;have g:∀b,(T2++A3).count b<=(A1++(T2++A2)).count b:=λb=>by simp only[zA0];have:=q2 b;lia
  have k:Ok F2 H2 (T2++A3):=p.count g;have w:Pc F H A F2 H2 (T2++A3):=(D.trans (r.pre λb=>by simp only[zA0];lia)).count g;exact q v H2 F2 T2 A3 P ⟨u,k.right,S.len,S.ag⟩ k w
 obtain⟨j,o,q⟩:=qa7.mp q;have f:Ok F1 H1 (A1++T):=a.count λb=>by simp only[zA0];lia
 obtain⟨p,r⟩:=i.frame f S1.loc.cells n;have L1:Locs F2 H2 (σ++c.gv) h A1:=S1.loc.keep (i.kp a.left rall.cells) λb t g=>by have:=a.sep b;rw[zA0] at this;have:=qb1.mp t;lia
 obtain⟨A3,u,q2⟩:=qu3 C l L1 o;have g:∀b,A3.count b<=(A1++A2).count b:=λb=>by simp only[zA0];have:=q2 b;lia
 have k:Ok F2 H2 A3:=p.count g;have w:Pc F H A F2 H2 A3:=(D.trans (r.pre λb=>by simp only[zA0];lia)).count g;exact x y j σ e H2 F2 A3 q R ⟨u,k,S.len,S.ag⟩ w
end
structure Eu(cm:Bool)(P:K8)(w:La)(K:Oa)(mg:Str->Option V')(base:Heap)(k:Nat)(f:γ)(fd:ε)(ps:List Str)(s:VSp):Prop where
 ok:D9 cm P w K mg base (CX1 P w) k f fd ps (Ey s)
 m:Bo s
abbrev VFn:=Eu true
section
variable{c:Vc}{X:Cx}{a e o:Lb}{es:List Lb}{tr:VTB}{pf:PF}{F F1:γ->Prop}{H H1:Hp}{σ:St}{ds ds1:Ds}{A A1 T:List γ}{pos p apos:Pos}{x qual m:Str}{st:Lc}{f C:γ}{fd:ε}{ps:List Str}{k:Nat}{s:VSp}{dvs:List V}{dv:Ds}
theorem Ak(D:Df X.K X.mg x qual st f fd ps)(G:Eu cm X.prog X.w X.K X.mg X.base k f fd ps s)(i:Lands X c.E)(j:Pe cm k X.A)(a:VAs c X (e::es) tr)(l:Gl X x:=by rfl)(d:N' x:=by decide)(n:Kj (e::es) X.env=(false,eval e X.env)::Kj es X.env:=by rfl)(g:(backTo pos (Kj es X.env)).any (·.1)=false:=by rfl):VE c X (.Call (.Name x p) (e::es) [] pos) (qk6 s [] tr):=⟨PE.mono (qah7 G.ok j l D.m D.F.kp D.b .nil i.passes a.h d n g) (qaT4 qo2 G.m a),qau7 G.m a⟩
theorem qan6{K:DK}(B:Gw dvs dv)(C:Bo s)(S:Pd c F H σ ds A)(x:Xc c xe F H A)(r1:O4 F1 H1 vs xs T)(w:Fk (σ++c.gv) vs pls)(S1:Pd c F1 H1 σ ds1 A1)(f:Ok F1 H1 (T++A1))(z:Pc F H A F1 H1 (T++A1))(D:∀d i,K d i->∀v H' F' T A',Pa F' H' v d T->Pd c F' H' σ i A'->Ok F' H' (T++A')->Pc F H A F' H' (T++A')->Q v H')(q:s (xs++dv) (λd ys=>orF (Aq pls ys ds1) λa=>K d a) (λx ys=>orF (Aq pls ys ds1) λa=>xe x a)):Ey s (vs++dvs) H1 Q (c.E σ):=by
 have rall:O4 F1 H1 (vs++dvs) (xs++dv) (T++[]):=r1.append (B F1 H1);rw[zAd] at rall;refine⟨F1,xs++dv,T,rall,f.left,C _ _ _ _ _ (λd ys q v H2 F2 T2 A2 G l m j=>?_) (λy ys q e H2 F2 A2 I l m j=>?_) q⟩
 .obtain⟨a,n,q⟩:=qa7.mp q;have g:Ok F1 H1 (A1++T):=f.count λb=>by simp only[zA0];lia
  obtain⟨o,p⟩:=j.frame g S1.loc.cells m;have L1:Locs F2 H2 (σ++c.gv) ds1 A1:=S1.loc.keep (j.kp f.left rall.cells) λb r h=>by have:=f.sep b;rw[zA0] at this;have:=qb1.mp r;lia
  obtain⟨A3,t,q2⟩:=qu3 w l L1 n;have h:∀b,(T2++A3).count b<=(A1++(T2++A2)).count b:=λb=>by simp only[zA0];have:=q2 b;lia
  have k:Ok F2 H2 (T2++A3):=o.count h;have u:Pc F H A F2 H2 (T2++A3):=(z.trans (p.pre λb=>by simp only[zA0];lia)).count h;exact D d a q v H2 F2 T2 A3 G ⟨t,k.right,S.len,S.ag⟩ k u
 obtain⟨a,n,q⟩:=qa7.mp q;have g:Ok F1 H1 (A1++T):=f.count λb=>by simp only[zA0];lia
 obtain⟨o,p⟩:=j.frame g S1.loc.cells m;have L1:Locs F2 H2 (σ++c.gv) ds1 A1:=S1.loc.keep (j.kp f.left rall.cells) λb r h=>by have:=f.sep b;rw[zA0] at this;have:=qb1.mp r;lia
 obtain⟨A3,t,q2⟩:=qu3 w l L1 n;have h:∀b,A3.count b<=(A1++A2).count b:=λb=>by simp only[zA0];have:=q2 b;lia
 have k:Ok F2 H2 A3:=o.count h;have u:Pc F H A F2 H2 A3:=(z.trans (p.pre λb=>by simp only[zA0];lia)).count h;exact x y a σ e H2 F2 A3 q I ⟨t,k,S.len,S.ag⟩ u
def D.isM(C:γ)(m:Str):D->Bool|.ins _ C' fs=>decide (C'=C)&&(fs.lookup m).isNone|_=>false
theorem qG4{α β:Type}:∀{fs:List (Str×α)}{a:List (Str×β)}{f:Str},fs.map (·.1)=a.map (·.1)->(fs.lookup f).isNone=(a.lookup f).isNone
 |[],[],_,_=>rfl|[],_::_,_,h=>by simp at h|_::_,[],_,h=>by simp at h|(k,_)::r,(k',_)::r',f,h=>by
  have b:k=k':=by simp at h;exact h.1
  have c:r.map (·.1)=r'.map (·.1):=by simp at h;simpa using h.2
  subst b;rw[zAv,zAv];cases f==k with|true=>rfl|false=>exact qG4 c
theorem Pa.isM(r:Pa F H v d B)(h:d.isM C m=true):∃a dx fs,v=.ref a/\H a=some (.ins C dx fs)/\fs.lookup m=none:=by cases d with|ins z C' f=>have h:=zAm.mp h;obtain⟨a,dx,b,A,rfl,g,e,i,_⟩:=r.ins_inv;have:=zAi h.1;subst this;refine⟨a,dx,b,rfl,g,?_⟩;have c:=h.2;rw[<-qG4 e] at c;exact Option.isNone_iff_eq_none.mp c|_=>cases h
def Ib(C:γ)(m:Str)(s:VSp)(dv:Ds)(pf:PF)(tr:VTB):VT:=λds Q xe=>orF (pf ds) λq=>orF (Bc ds q.1 q.2) λd=>d.isM C m=true/\∀w,tr (Bj ds q.1 q.2 (.hole w)) (λxs ps ds1=>s (d::(xs++dv)) (λr ys=>orF (Aq (Pl.pl q.1 q.2 w::ps) ys ds1) λa=>Q r a) (λx ys=>orF (Aq (Pl.pl q.1 q.2 w::ps) ys ds1) λa=>xe x a)) xe
theorem qX3(f:Bo s)(g:VAs c X es tr):∀ds (Q Q':DK) (xe b:XKd),(∀d a,Q d a->Q' d a)->(∀x a,xe x a->b x a)->Ib C m s dv pf tr ds Q xe->Ib C m s dv pf tr ds Q' b:=λds Q Q' xe b i e=>qa4 λz=>qa4 λd=>N7 λh w=>g.m _ _ _ _ _ (λl n j=>f _ _ _ _ _ (λd k=>qa4 λz=>i _ _) (λx k=>qa4 λz=>e _ _)) e (h w)
theorem qay3(M:Gw dvs dv)(N:Bo s)(O:VAs c X es tr):∀σ H Q,Bm c (Ib C m s dv pf tr) σ H Q->Ga C m (Ey s) dvs c.E (Gf c pf) (Ek c tr) σ H Q:=by
 rintro σ H Q ⟨F,y,A,P,S,x,q⟩;obtain⟨⟨i,p⟩,R,q⟩:=qa7.mp q;obtain⟨d,e2,D,q⟩:=qa7.mp q;have g:d≠.u:=λz=>by subst z;cases D
 refine⟨F,y,A,i,p,d,S,R,e2,g,λu w H1 T U j=>?_⟩;obtain⟨B,C0,r,G,V⟩:=(S.same j).place e2 g T U;obtain⟨a,W,Y,rfl,k,l⟩:=r.isM D;refine⟨a,W,Y,rfl,k,l,?_⟩;obtain⟨A1,Z,q2⟩:=V (.hole (.ref a)) [] (Kp.same (F:=F) λ_ _ z=>z) (λ_ _ z=>z) (.hole _);have n:Ok F H1 (B++A1):=(S.same j).ok.count λb=>by rw[zA0,q2,G];simp
 have I:Pc F H A F H1 (B++A1):=⟨λb o e _=>j b o e,λb o e z=>by rw[zA0,q2];have:=G b;simp;lia,λ_ f=>f,λ_ _ _ _ f=>f⟩;have S1:Pd c F H1 σ (Bj y i p (.hole (.ref a))) A1:=⟨Z,n.right,S.len,S.ag⟩;have t:Pc F H A F H1 A1:=I.count λb=>by rw[zA0];lia
 refine⟨F,_,A1,P,S1,x.step t,O.m _ _ _ _ _ (λJ ps a0 q K H2 F2 T2 A2 r2 pk S2 o2 L=>?_) (λ_ _ z=>z) (q (.ref a))⟩;have v:Pa F2 H2 (.ref a) d B:=r.keep (L.kp S1.ok S1.loc.cells) λb hb hc=>by have:=n.sep b;rw[zA0] at this;have:=qb1.mp hb;lia
 obtain⟨o3,s3⟩:=L.frame n r.cells o2;exact qan6 (vs:=.ref a::K) (xs:=d::J) M N S x (.cons v r2) (.so pk) S2 (by rw[zAo];exact o3) (by rw[zAo];exact I.trans s3) (λd a1 h=>h) q
def qD0(C:γ)(m:Str)(s:VSp)(dv:Ds)(i:Nat)(tr:VTB):VT:=λds Q xe=>(orF (rdN i ds) λd=>d.isM C m=true)/\tr ds (λxs ps ds1=>orF (rdN i ds1) λd=>s (d::(xs++dv)) (λr ys=>orF (Aq (.sl i::ps) ys (ds1.set i .u)) λa=>Q r a) (λx ys=>orF (Aq (.sl i::ps) ys (ds1.set i .u)) λa=>xe x a)) xe
theorem qO1(f:Bo s)(g:VAs c X es tr):∀ds (Q Q':DK) (xe b:XKd),(∀d a,Q d a->Q' d a)->(∀x a,xe x a->b x a)->qD0 C m s dv i tr ds Q xe->qD0 C m s dv i tr ds Q' b:=λds Q Q' xe b h e=>N7 (g.m _ _ _ _ _ (λl n j=>qa4 λd=>f _ _ _ _ _ (λd k=>qa4 λz=>h _ _) (λx k=>qa4 λz=>e _ _)) e)
theorem qaj3(w:Gw dvs dv)(y:Bo s)(D:VAs c X es tr)(hi:i<σ.length)(q:Bm c (qD0 C m s dv i tr) σ H Q):Ga C m (Ey s) dvs c.E (F4 i) (Ek c tr) σ H Q:=by
 obtain⟨F,G,A,I,S,x,f,q⟩:=q;obtain⟨Z,J,f⟩:=qa7.mp f;obtain⟨v,B0,e,K,_⟩:=S.name hi J;obtain⟨a,L,M,rfl,g,j⟩:=K.isM f;refine⟨.ref a,e,a,L,M,rfl,g,j,F,G,A,I,S,x,D.m _ _ _ _ _ (λr ps N q t H2 F2 T2 A2 O P S2 u R=>?_) (λ_ _ z=>z) q⟩;obtain⟨d,k,q⟩:=qa7.mp q;obtain⟨k,l⟩:=qn3.mp k;obtain⟨v',B,C0,n,T,U,V⟩:=S2.put1 k (qn8 l);have o:=n;rw[zAj hi,e] at n;cases n;obtain⟨A3,W,q2⟩:=V .u [] (Kp.same (F:=F2) λ_ _ z=>z) (λ_ _ z=>z) (.u _);have p:∀b,((B++T2)++A3).count b<=(T2++A2).count b:=λb=>by simp only[zA0,q2,U];simp;lia
 exact qan6 (vs:=.ref a::t) (xs:=d::r) w y S x (.cons T O) (.sl o P) ⟨W,(u.count p).right,S.len,S.ag⟩ (u.count p) (R.count p) (λd Y h=>h) q
theorem qm0(i:Nat){xn:Str}{p0:Pos}(D:Md X.K C m qual st f fd ps)(n:Cls X.K C)(G:Eu cm X.prog X.w X.K X.mg X.base k f fd ps s)(o:Lands X c.E)(p:Pe cm k X.A)(a:VAs c X (e::es) tr)(l:X.N[i]?=some xn:=by rfl)(r:Vis X.env.scope xn:=by first|exact O1 rfl|exact O0 (O1 rfl)|exact O0 (O0 rfl))(t:N' xn:=by decide)(d:(xn==("__classdict__" : Str))=false:=by decide)(g:Kj (e::es) X.env=(false,eval e X.env)::Kj es X.env:=by rfl)(j:(backTo pos (Kj es X.env)).any (·.1)=false:=by rfl)(u:eval (.Call (.Attribute (.Name xn p0) m apos) (e::es) [] pos) X.env=(do
     let ov<-eval (.Name xn p0) X.env
     standAt apos.atName
     let (f,first)<-holding [ov] (getMethod ov m pl)
     callWith pos f first (backTo pos (Kj (e::es) X.env)) (backToKw pos (Kv [] X.env))):=by rfl):VE c X (.Call (.Attribute (.Name xn p0) m apos) (e::es) [] pos) (qD0 C m s [] i tr):=⟨λD8 s σ H Q I q=>qX1 (qq8 l r t d) n D.me G.ok p D.b .nil o.passes a.h g j u D8 s σ H Q I (qaj3 qo2 G.m a (qr6 l D8 σ H s I) q),qO1 G.m a⟩
theorem qi9(i:Nat){xn:Str}{p0:Pos}(D:Md X.K C m qual st f fd ps)(j:Cls X.K C)(G:Eu cm X.prog X.w X.K X.mg X.base k f fd ps s)(l:Lands X c.E)(n:Pe cm k X.A)(g:X.N[i]?=some xn:=by rfl)(d:Vis X.env.scope xn:=by first|exact O1 rfl|exact O0 (O1 rfl)|exact O0 (O0 rfl))(o:N' xn:=by decide)(e:(xn==("__classdict__" : Str))=false:=by decide)(p:eval (.Call (.Attribute (.Name xn p0) m apos) [] [] pos) X.env=(do
     let ov<-eval (.Name xn p0) X.env
     standAt apos.atName
     let (f,first)<-holding [ov] (getMethod ov m pl)
     callWith pos f first (backTo pos (Kj [] X.env)) (backToKw pos (Kv [] X.env))):=by rfl):VE c X (.Call (.Attribute (.Name xn p0) m apos) [] [] pos) (qD0 C m s [] i A7):=⟨λD8 h σ H Q I q=>qah4 (qq8 g d o e) j D.me G.ok n D.b .nil l.passes p D8 h σ H Q I (by
   obtain⟨v,d,a,r,t,u,x,y,F2,z,A2,B,S2,F,q2⟩:=qaj3 (c:=c) (X:=X) qo2 G.m Ac (qr6 g D8 σ H h I) q;exact⟨v,d,a,r,t,u,x,y,q2 [] H F2 [] A2 .nil .nil S2 S2.ok Pc.refl⟩),qO1 (c:=c) G.m (X:=X) Ac⟩
theorem emeth(D:Md X.K C m qual st f fd ps)(i:Cls X.K C)(G:Eu cm X.prog X.w X.K X.mg X.base k f fd ps s)(j:Lands X c.E)(l:Pe cm k X.A)(n:VP c X o pf)(a:VAs c X (e::es) tr)(d:Kj (e::es) X.env=(false,eval e X.env)::Kj es X.env:=by rfl)(g:(backTo pos (Kj es X.env)).any (·.1)=false:=by rfl)(p:eval (.Call (.Attribute o m apos) (e::es) [] pos) X.env=(do
     let ov<-eval o X.env
     standAt apos.atName
     let (f,first)<-holding [ov] (getMethod ov m pl)
     callWith pos f first (backTo pos (Kj (e::es) X.env)) (backToKw pos (Kv [] X.env))):=by rfl):VE c X (.Call (.Attribute o m apos) (e::es) [] pos) (Ib C m s [] pf tr):=⟨PE.mono (qX1 n.h i D.me G.ok l D.b .nil j.passes a.h d g p) (qay3 qo2 G.m a),qX3 G.m a⟩
theorem qbb4(D:Md X.K C m qual st f fd ps)(g:Cls X.K C)(G:Eu cm X.prog X.w X.K X.mg X.base k f fd ps s)(j:Lands X c.E)(l:Pe cm k X.A)(n:VP c X o pf)(r:eval (.Call (.Attribute o m apos) [] [] pos) X.env=(do
     let ov<-eval o X.env
     standAt apos.atName
     let (f,first)<-holding [ov] (getMethod ov m pl)
     callWith pos f first (backTo pos (Kj [] X.env)) (backToKw pos (Kv [] X.env))):=by rfl):VE c X (.Call (.Attribute o m apos) [] [] pos) (Ib C m s [] pf A7):=⟨PE.mono (qah4 n.h g D.me G.ok l D.b .nil j.passes r) λσ H Q q=>by
   obtain⟨F,t,A,i,p,d,S,v,e2,e,q⟩:=qay3 (c:=c) (X:=X) qo2 G.m Ac σ H Q q;refine⟨F,t,A,i,p,d,S,v,e2,e,λu w H1 x y z=>?_⟩;obtain⟨a,B,I,J,L,M,F2,N,A2,O,S2,P,q2⟩:=q u w H1 x y z;exact⟨a,B,I,J,L,M,q2 [] H1 F2 [] A2 .nil .nil S2 S2.ok Pc.refl⟩,qX3 (c:=c) G.m (X:=X) Ac⟩
def Ic(C:γ)(s:VSp)(dv:Ds)(tr:VTB):VT:=λds Q xe=>tr ds (λxs ps ds1=>s (.ins false C []::(xs++dv)) (λd ys=>d.isN=some true/\orF ys.head? λself=>orF (Aq ps ys.tail ds1) λa=>Q self a) (λx ys=>orF (Aq ps ys.tail ds1) λa=>xe x a)) xe
theorem qX5(f:Bo s)(g:VAs c X es tr):∀ds (Q Q':DK) (xe b:XKd),(∀d a,Q d a->Q' d a)->(∀x a,xe x a->b x a)->Ic C s dv tr ds Q xe->Ic C s dv tr ds Q' b:=λds Q Q' xe b h e=>g.m _ _ _ _ _ (λk l i=>f _ _ _ _ _ (λd j=>N7 (qa4 λz=>qa4 λw=>h _ _)) (λx j=>qa4 λz=>e _ _)) e
theorem qay5(N:Gw dvs dv)(O:Bo s)(P:VAs c X es tr):∀σ H Q,Bm c (Ic C s dv tr) σ H Q->tMake C (Ey s) dvs c.E (Ek c tr) σ H Q:=by
 rintro σ H Q ⟨F,R,A,U,S,x,q⟩;refine⟨F,R,A,U,S,x,P.m _ _ _ _ _ (λV ps h q W H1 F1 T A1 K L S1 Y Z=>?_) (λ_ _ z=>z) q⟩;intro y dy n o p;have same:Same H1 (upd (upd H1 dy (.own y)) y (.ins C dy [])):=(Same.new o).trans (Same.new (by rw[qd6 (Ne.symm p)];exact n));have rall:O4 F1 (upd (upd H1 dy (.own y)) y (.ins C dy [])) (.ref y::(W++dvs)) (.ins false C []::(V++dv)) ([y]++(T++[])) :=
  .cons (.ins qc6 rfl .nil) ((K.append (N F1 H1)).same same)
 rw[zAd] at rall;have i:Ok F1 (upd (upd H1 dy (.own y)) y (.ins C dy [])) ([y]++(T++A1)):=(qi2 n).ok Y (λb a=>by rcases zA6.mp a with a|a;{exact K.cells b a};exact S1.loc.cells b a) same;have r:Ok F1 (upd (upd H1 dy (.own y)) y (.ins C dy [])) ([y]++T):=i.count λb=>by simp only[zA0];lia
 have M:Pc F H A F1 (upd (upd H1 dy (.own y)) y (.ins C dy [])) ([y]++(T++A1)):=Z.trans ((qi2 n).stp same);have S1':=S1.same same;refine⟨F1,_,[y]++T,rall,r,O _ _ _ _ _ (λd ys q v H2 F2 T2 A2 r2 t u j=>?_) (λex ys q e H2 F2 A2 rx t u j=>?_) q⟩
 .obtain⟨hn,q⟩:=q;have hv:v=.non:=by cases d with|non=>cases r2;rfl|_=>cases hn
  refine⟨hv,?_⟩;obtain⟨self,eh,q⟩:=qa7.mp q;obtain⟨k,w,B⟩:=qa7.mp q;have g:Ok F1 _ (A1++([y]++T)):=i.count λb=>by simp only[zA0];lia
  obtain⟨D,G⟩:=j.frame g S1'.loc.cells u;have L1:Locs F2 H2 (σ++c.gv) h A1:=S1'.loc.keep (j.kp r rall.cells) λb a f=>by have:=i.sep b;simp only[zA0] at this f;have:=qb1.mp a;lia
  cases t with
  |@cons _ d0 Aself _ ys' B' rself rrest=>
   cases eh;obtain⟨A3,I,q2⟩:=qu3 L rrest L1 w;have f:∀b,(Aself++A3).count b<=(A1++(T2++(Aself++B'))).count b:=λb=>by simp only[zA0];have:=q2 b;lia
   have l:=D.count f;have J:Pc F H A F2 H2 (Aself++A3):=(M.trans (G.pre λb=>by simp only[zA0];lia)).count f;exact B (.ref y) H2 F2 Aself A3 rself ⟨I,l.right,S.len,S.ag⟩ l J
 obtain⟨k,w,B⟩:=qa7.mp q;have g:Ok F1 _ (A1++([y]++T)):=i.count λb=>by simp only[zA0];lia
 obtain⟨D,G⟩:=j.frame g S1'.loc.cells u;have L1:Locs F2 H2 (σ++c.gv) h A1:=S1'.loc.keep (j.kp r rall.cells) λb a f=>by have:=i.sep b;simp only[zA0] at this f;have:=qb1.mp a;lia
 cases t with
 |@cons _ d0 Aself _ ys' B' rself rrest=>
  obtain⟨A3,I,q2⟩:=qu3 L rrest L1 w;have f:∀b,A3.count b<=(A1++(Aself++B')).count b:=λb=>by simp only[zA0];have:=q2 b;lia
  have l:=D.count f;have J:Pc F H A F2 H2 A3:=(M.trans (G.pre λb=>by simp only[zA0];lia)).count f;exact x ex k σ e H2 F2 A3 B rx ⟨I,l,S.len,S.ag⟩ J
theorem emake(i:Cl X.K X.mg x C)(M:Mk X.K C f)(D:Md X.K C m qual st f fd ps)(G:Eu cm X.prog X.w X.K X.mg X.base k f fd ps s)(j:Lands X c.E)(l:Pe cm (k+1) X.A)(a:VAs c X (e::es) tr)(n:Gl X x:=by rfl)(d:N' x:=by decide)(o:Kj (e::es) X.env=(false,eval e X.env)::Kj es X.env:=by rfl)(g:(backTo pos (Kj es X.env)).any (·.1)=false:=by rfl):VE c X (.Call (.Name x p) (e::es) [] pos) (Ic C s [] tr):=⟨PE.mono (qax8 M G.ok l n i.m D.b .nil j.passes a.h d o g) (qay5 qo2 G.m a),qX5 G.m a⟩
def tLstV(tr:VTB):VT:=λds Q xe=>tr ds (λxs ps ds1=>xs.length<=big/\Q (.l false xs) ds1) xe
def Jk(tr:VTB):VT:=λds Q xe=>tr ds (λxs ps ds1=>xs.length<=big/\Q (.q xs) ds1) xe
theorem Gx(d:VAs c X es tr):VE c X (.List es pos) (tLstV tr):=by refine⟨PE.mono (qaD6 d.h) λσ H Q e=>?_,λj Q Q' k l n o=>d.m _ _ _ _ _ (λp r f=>N7 (n _ _)) o⟩;obtain⟨F,j,A,k,S,x,q⟩:=e;refine⟨F,j,A,k,S,x,d.m _ _ _ _ _ (λp r f q s H1 F1 T A1 g B S1 t v=>⟨by rw[g.len];exact zAl q.1 qj8,λy i=>?_⟩) (λ_ _ z=>z) q⟩;have same:=Same.new (u:=.l s) i;have w:=(qi2 i).ok t (λb a=>by rcases zA6.mp a with a|a;{exact g.cells b a};exact S1.loc.cells b a) same;exact q.2 (.ref y) _ F1 (y::T) A1 (.l qc6 (g.same same)) (S1.same same) w (v.trans ((qi2 i).stp same))
theorem Gy(a:VAs c X es tr):VE c X (.Tuple es n pos) (Jk tr):=by refine⟨PE.mono (qaN2 a.h) λσ H Q b=>?_,λe Q Q' f j k l=>a.m _ _ _ _ _ (λo p d=>N7 (k _ _)) l⟩;obtain⟨F,e,A,f,S,x,q⟩:=b;refine⟨F,e,A,f,S,x,a.m _ _ _ _ _ (λo p d q r H1 F1 T A1 g v S1 s t=>⟨by rw[g.len];exact zAl q.1 qj8,λy i=>?_⟩) (λ_ _ z=>z) q⟩;have same:=Same.new (u:=.q r) i;exact q.2 (.ref y) _ F1 T A1 (qO0 i g) (S1.same same) (s.same same) (t.trans (.same same))
end
structure VEnds where
 nx:Ds->Prop
 rt:DK
 bk:Ds->Prop
 ct:Ds->Prop
 xe:XKd
abbrev VTS:=VEnds->Ds->Prop
structure VEnds.Le(e e':VEnds):Prop where
 nx:∀ds,e.nx ds->e'.nx ds
 rt:∀d ds,e.rt d ds->e'.rt d ds
 bk:∀ds,e.bk ds->e'.bk ds
 ct:∀ds,e.ct ds->e'.ct ds
 xe:∀x ds,e.xe x ds->e'.xe x ds
structure Lk(c:Vc)(E:Dn)(F:γ->Prop)(H:Hp)(A:List γ)(e:VEnds):Prop where
 nx:∀ds' a' H' F' A',e.nx ds'->Pd c F' H' a' ds' A'->Pc F H A F' H' A'->E.nx a' H'
 rt:∀d ds' v a' H' F' T A',e.rt d ds'->Pa F' H' v d T->Pd c F' H' a' ds' A'->Ok F' H' (T++A')->Pc F H A F' H' (T++A')->E.rt v H'
 bk:∀ds' a' H' F' A',e.bk ds'->Pd c F' H' a' ds' A'->Pc F H A F' H' A'->E.bk a' H'
 ct:∀ds' a' H' F' A',e.ct ds'->Pd c F' H' a' ds' A'->Pc F H A F' H' A'->E.ct a' H'
 xe:Xc c e.xe F H A
theorem Lk.step(l:Lk c E F H A e)(s:Pc F H A F1 H1 A1):Lk c E F1 H1 A1 e:=⟨λa b' H' F' A' h S t=>l.nx a b' H' F' A' h S (s.trans t),λd a v b' H' F' T A' h r S o t=>l.rt d a v b' H' F' T A' h r S o (s.trans t),λa b' H' F' A' h S t=>l.bk a b' H' F' A' h S (s.trans t),λa b' H' F' A' h S t=>l.ct a b' H' F' A' h S (s.trans t),l.xe.step s⟩
inductive LiftS(c:Vc)(t:VTS)(E:Dn)(a:St)(H:Hp):Prop
 |mk (F:γ->Prop) (ds:Ds) (A:List γ) (e:VEnds) (S:Pd c F H a ds A) (l:Lk c E F H A e) (q:t e ds):LiftS c t E a H
def Ez(c:Vc)(t:VTS):TS:=LiftS c t
structure VS(c:Vc)(X:Cx)(st:Lc)(t:VTS):Prop where
 h:PS X st (Ez c t)
 m:∀(e e':VEnds) ds,e.Le e'->t e ds->t e' ds
structure VSs(c:Vc)(X:Cx)(st:List Lc)(t:VTS):Prop where
 h:PSs X st (Ez c t)
 m:∀(e e':VEnds) ds,e.Le e'->t e ds->t e' ds
section
variable{c:Vc}{X:Cx}{a b e:Lb}{J:Lc}{rest:List Lc}{t u:VTS}{te:VT}{pos:Pos}
def Gh:VTS:=λe ds=>e.nx ds
def Gi(t u:VTS):VTS:=λe ds=>t {e with nx:=u e} ds
theorem A4:VSs c X [] Gh:=⟨PSs.mono qax4 λE G H ⟨F,a,A,e,S,l,q⟩=>l.nx a G H F A q S Pc.refl,λe b a h=>h.nx a⟩
theorem Ab(h1:VS c X J t)(h2:VSs c X rest u):VSs c X (J::rest) (Gi t u):=by refine⟨PSs.mono (qT3 h1.h h2.h) λE G H a=>?_,λe f b h=>h1.m _ _ _ ⟨λb=>h2.m _ _ _ h,h.rt,h.bk,h.ct,h.xe⟩⟩;obtain⟨F,b,A,e,S,l,q⟩:=a;exact⟨F,b,A,{e with nx:=u e},S,⟨λd G' H' F' A' q S' s=>⟨F',d,A',e,S',l.step s,q⟩,l.rt,l.bk,l.ct,l.xe⟩,q⟩
theorem Aj(h1:VS c X J t):VSs c X [J] t:=⟨qB0 h1.h,h1.m⟩
def sRet(te:VT):VTS:=λe ds=>te ds e.rt e.xe
theorem Av(h:VE c X e te):VS c X (.Return (some e) pos) (sRet te):=by refine⟨PS.mono (Ho h.h) λE G H ⟨F,b,A,e,S,l,q⟩=>⟨F,b,A,e.xe,S,l.xe,h.m _ _ _ _ _ (λd a q v H' F' T A' r S' o s=>l.rt d a v G H' F' T A' q r S' o s) (λ_ _ z=>z) q⟩,λe g b f=>h.m _ _ _ _ _ f.rt f.xe⟩
def sExpr(te:VT):VTS:=λe ds=>te ds (λ_ a=>e.nx a) e.xe
theorem Be(h:VE c X e te)(i:swapsWith e none pos.line X.env=pure false:=by rfl):VS c X (.Expr e pos) (sExpr te):=by refine⟨PS.mono (qaM4 h.h i) λE G H ⟨F,f,A,e,S,l,q⟩=>⟨F,f,A,e.xe,S,l.xe,h.m _ _ _ _ _ (λd a q v H' F' T A' r S' o s=>l.nx a G H' F' A' q S' (s.count λb=>by rw[zA0];lia)) (λ_ _ z=>z) q⟩,λe j f g=>h.m _ _ _ _ _ (λ_=>g.nx) g.xe⟩
def sIf(qc:VTT)(t u:VTS):VTS:=λe ds=>qc ds (λk a=>if k=true then t e a else u e a) e.xe
theorem sif(b:VTe c X cd qc)(g:VSs c X x t)(i:VSs c X y u):VS c X (.If cd x y pos) (sIf qc t u):=by refine⟨PS.mono (ps_if b.h g.h i.h) λE G H d=>?_,λe n j f=>b.m _ _ _ _ _ (λk a=>qO7 (g.m _ _ _ f) (i.m _ _ _ f)) f.xe⟩;obtain⟨F,j,A,e,S,l,q⟩:=d;refine⟨F,j,A,e.xe,S,l.xe,b.m _ _ _ _ _ (λk a q H' F' A' S' s=>?_) (λ_ _ z=>z) q⟩;cases k with|true=>rw[if_pos rfl] at q ⊢;exact⟨F',a,A',e,S',l.step s,q⟩|false=>rw[if_neg ∅] at q ⊢;exact⟨F',a,A',e,S',l.step s,q⟩
def qaV6:VTS:=λ_ _=>False
theorem qm5:VS c X J qaV6:=⟨λ_ _ _ _ _ _ ⟨_,_,_,_,_,_,q⟩=>q.elim,λ_ _ _ _ q=>q.elim⟩
abbrev VTG:=D->Ds->(Ds->Prop)->Prop
inductive LiftG(c:Vc)(g:VTG)(v:V)(G:St)(H:Hp)(Q:St->Hp->Prop):Prop
 |mk (F:γ->Prop) (ds:Ds) (A T:List γ) (d:D) (r:Pa F H v d T) (S:Pd c F H G ds A) (o:Ok F H (T++A)) (q:g d ds (λds'=>∀G' H' F' A',Pd c F' H' G' ds' A'->Pc F H (T++A) F' H' A'->Q G' H')):LiftG c g v G H Q
def Fa(c:Vc)(g:VTG):TG:=LiftG c g
structure VG(c:Vc)(X:Cx)(e:Lb)(g:VTG):Prop where
 h:PG X e (Fa c g)
 m:∀d ds (Q Q':Ds->Prop),(∀ds',Q ds'->Q' ds')->g d ds Q->g d ds Q'
theorem PG.mono(h:PG X e g)(i:∀v G H Q,g' v G H Q->g v G H Q):PG X e g':=λD8 s G H v u Q I r q=>h D8 s G H v u Q I r (i v G H Q q)
theorem Pd.store(S:Pd c F H G ds A)(m:c.W i=false)(hi:i<G.length)(r:Pa F H v d T)(o:Ok F H (T++A)):∃A',Pd c F H (G.set i (some v)) (ds.set i d) A'/\Pc F H (T++A) F H A':=by
 have n:=S.loc.len;rw[zA8] at n;obtain⟨σ1,x,σ2,e,f,A1,B,A2,p,e2,q,s,t,u,y,w⟩:=S.loc.split (i:=i) (d:=ds[i]'⋯) (by simp);have hσ:G.set i (some v)++c.gv=σ1++some v::σ2:=by rw[<-M4 _ _ hi,p,qp1 q]
 have g:ds.set i d=e++d::f:=by have:=congrArg (λl=>l.set i d) e2;rw[this,qp1 s]
 have a:∀b,(A1++(T++A2)).count b<=(T++A).count b:=λb=>by rw[t];simp only[zA0];lia
 refine⟨A1++(T++A2),⟨by rw[hσ,g];exact u.append (.so r w),o.count a,?_,λj h=>?_⟩,Pc.refl.count a⟩;{rw[S.len,zA8,zA8,Mu]};have k:i≠j:=λz=>by subst z;rw[m] at h;cases h
 rw[<-S.ag j h,<-M4 _ _ hi,zBm k]
def gNm(i:Nat):VTG:=λd ds Q=>Q (ds.set i d)
theorem A9(i:Nat)(b:X.N.Nodup)(e:c.W i=false:=by rfl)(hi:X.N[i]?=some x:=by rfl)(f:Loc X.env.scope x:=by first|exact O1 rfl|exact O0 rfl)(g:X.fn x=true∨X.env.scope.names.lookup x=some .local:=by first|exact .inl rfl|exact .inr rfl|assumption):VG c X (.Name x pos) (gNm i):=by refine⟨λD8 s G H v h Q I j a=>?_,λd k Q Q' l=>l _⟩;obtain⟨F,k,A,T,d,r,S,o,q⟩:=a;refine qax7 b hi f g D8 s G H v h Q I j ?_;obtain⟨A',S',m⟩:=S.store e (qr6 hi D8 G H s I) r o;exact q _ H F A' S' m
def El(te:VT)(g:VTG):VTS:=λe ds=>te ds (λd a=>g d a e.nx) e.xe
theorem qbc8(h:VE c X e te)(f:VG c X tg g):∀E G H,Ez c (El te g) E G H->Hq (Bm c te) (Fa c g) E G H:=by rintro E G H ⟨F,i,A,j,S,l,q⟩;refine⟨F,i,A,j.xe,S,l.xe,h.m _ _ _ _ _ (λd a q v H' F' T A' r S' o s=>?_) (λ_ _ z=>z) q⟩;exact⟨F',a,A',T,d,r,S',o,f.m _ _ _ _ (λb q σ2 H2 F2 A2 S2 k=>l.nx b σ2 H2 F2 A2 q S2 (s.trans k)) q⟩
theorem qao0(h:VE c X e te)(f:VG c X tg g):∀(en a:VEnds) ds,en.Le a->El te g en ds->El te g a ds:=λen a ds b=>h.m _ _ _ _ _ (λd i=>f.m _ _ _ _ b.nx) b.xe
theorem Fl(h:VE c X e te)(a:VG c X tg g)(b:swapsWithSole [tg] e pos.line X.env=pure false:=by rfl)(d:swappedStores [tg] e X.env=pure none:=by rfl)(h1:(K4 [tg] X.env).map (·.2)=[assign tg X.env]:=by rfl):VS c X (.Assign [tg] e pos) (El te g):=⟨PS.mono (qaW2 h.h a.h b d h1) (qbc8 h a),qao0 h a⟩
theorem Am(i:Nat)(a:X.N.Nodup)(h:VE c X e te)(b:c.W i=false:=by rfl)(hi:X.N[i]?=some x:=by rfl)(f:Loc X.env.scope x:=by first|exact O1 rfl|exact O0 rfl)(j:swapsWith e (some (.Name x pos')) pos.line X.env=pure false:=by rfl)(g:X.fn x=true∨X.env.scope.names.lookup x=some .local:=by first|exact .inl rfl|exact .inr rfl|assumption):VS c X (.Assign [.Name x pos'] e pos) (El te (gNm i)):=by have k:VG c X (.Name x pos') (gNm i):=A9 i a b hi f g;refine⟨λD8 s G H E I q=>qaM3 a hi f h.h j g D8 s G H E I ?_,qao0 h k⟩;obtain⟨F,n,A,p,S,l,q⟩:=q;refine⟨F,n,A,p.xe,S,l.xe,h.m _ _ _ _ _ (λd t q v H' F' T A' r S' o u=>?_) (λ_ _ z=>z) q⟩;obtain⟨A2,S2,w⟩:=S'.store b (qr6 hi D8 G H s I) r o;exact l.nx _ _ H' F' A2 q S2 (u.trans w)
abbrev F9:=Ds->Ds->(Ds->Prop)->Prop
inductive qaU4(c:Vc)(g:F9)(vs:List V)(G:St)(H:Hp)(Q:St->Hp->Prop):Prop
 |mk (F:γ->Prop) (ds:Ds) (A T:List γ) (xs:Ds) (r:O4 F H vs xs T) (S:Pd c F H G ds A) (o:Ok F H (T++A)) (q:g xs ds (λds'=>∀G' H' F' A',Pd c F' H' G' ds' A'->Pc F H (T++A) F' H' A'->Q G' H')):qaU4 c g vs G H Q
def qaZ3(c:Vc)(g:F9):TGs:=qaU4 c g
structure VGs(c:Vc)(X:Cx)(es:List Lb)(g:F9):Prop where
 h:PGs X es (qaZ3 c g)
 m:∀xs ds (Q Q':Ds->Prop),(∀ds',Q ds'->Q' ds')->g xs ds Q->g xs ds Q'
theorem PGs.mono(h:PGs X es g)(i:∀v G H Q,g' v G H Q->g v G H Q):PGs X es g':=λD8 s G H v u Q I r q=>h D8 s G H v u Q I r (i v G H Q q)
def Jl:F9:=λxs ds Q=>match xs with | []=>Q ds|_=>False
def Jm(g:VTG)(b:F9):F9:=λxs ds Q=>match xs with|x::r=>g x ds λa=>b r a Q | []=>False
theorem Fb:VGs c X [] Jl:=by refine⟨PGs.mono qaN0 λf G H Q a=>?_,λb d Q Q' e q=>by cases b with|nil=>exact e _ q|cons _ _=>exact q.elim⟩;obtain⟨F,d,A,T,b,r,S,o,q⟩:=a;cases b with|nil=>cases r;exact⟨rfl,q G H F A S Pc.refl⟩|cons _ _=>exact q.elim
theorem qu0(h1:VG c X tg g)(h2:VGs c X es l)(s:(K4 (tg::es) X.env).map (·.2)=assign tg X.env::(K4 es X.env).map (·.2):=by rfl):VGs c X (tg::es) (Jm g l):=by
 refine⟨PGs.mono (qaD5 h1.h h2.h s) λe G H Q ⟨F,n,A,T,d,r,S,o,q⟩=>?_,λd n Q Q' t q=>by cases d with|nil=>exact q.elim|cons x r=>exact h1.m _ _ _ _ (λu=>h2.m _ _ _ _ t) q⟩;cases d with
 |nil=>exact q.elim|cons x d=>
  cases r with
  |@cons v _ T1 e _ T2 r1 rt=>
   refine⟨v,e,rfl,F,n,A,T1,x,r1,S,o.count λb=>by simp only[zA0];lia,h1.m _ _ _ _ (λf q σ1 H1 F1 A1 S1 p=>?_) q⟩;have i:Ok F H (T2++(T1++A)):=o.count λb=>by simp only[zA0];lia
   obtain⟨w,y⟩:=p.frame i rt.cells S1.ok;have j:Ok F H (T1++A):=i.right;have k:O4 F1 H1 e d T2:=rt.keep (p.kp j λb a=>by
    rcases zA6.mp a with a|a;{exact r1.cells b a};exact S.loc.cells b a) λb a C=>by
    have:=i.sep b;rw[zA0] at this;have:=qb1.mp a;lia
   exact⟨F1,f,A1,T2,d,k,S1,w,h2.m _ _ _ _ (λz q σ2 H2 F2 A2 S2 B=>q σ2 H2 F2 A2 S2 ((y.pre λb=>by simp only[zA0];lia).trans B)) q⟩
def Jn(n:Nat)(a:F9):VTG:=λd ds Q=>match d with | .q xs=>xs.length=n/\a xs ds Q|_=>False
theorem Fc{e:F9}(j:X.calm=true)(h:VGs c X es e)(l:(K4 es X.env).length=n:=by rfl)(b:(K4 es X.env).findIdx? (·.1)=none:=by rfl):VG c X (.Tuple es k pos) (Jn n e):=by refine⟨PG.mono (qaW4 j h.h l b) λv G H Q ⟨F,f,A,T,d,r,S,o,q⟩=>?_,λd f Q Q' p q=>by cases d with|q g=>exact⟨q.1,h.m _ _ _ _ p q.2⟩|_=>exact q.elim⟩;cases d with|q g=>obtain⟨a,s,rfl,t,i⟩:=r.tup_inv;exact⟨a,s,rfl,.inl (.inl t),by rw[i.len];exact q.1,F,f,A,T,g,i,S,o,q.2⟩|_=>exact q.elim
end
section
variable{c:Vc}{F:γ->Prop}{H:Hp}{X:St}{ds:Ds}{A T:List γ}
theorem qQ4(h:H a=some o)(hm:Ed o=true)(c:¬F a):Kp F H (λb=>b=a) F (upd H a o'):=⟨λb u e w=>by rw[qd6 w];exact e,λb w=>by subst w;exact⟨o,h,hm⟩,λb w=>by subst w;exact c,λ_ f=>f⟩
theorem O4.setAt(r:O4 F H vs ys Ael)(s:n<ys.length)(e:Pa F H v d Tv):∃B,O4 F H (vs.set n v) (ys.set n d) B/\∀b,B.count b<=Ael.count b+Tv.count b:=by
 obtain⟨f,w,g,a,c,A1,B,A2,h,e2,j,k,m,o,t,p⟩:=r.split (i:=n) (d:=ys[n]) (by simp);have q:ys.set n d=a++d::c:=by have:=congrArg (λl=>l.set n d) e2;rw[this,qp1 k]
 rw[h,qp1 j,q];exact⟨A1++(Tv++A2),o.append (.cons e p),λb=>by rw[m];simp only[zA0];lia⟩
theorem qB8(r:Pa F H v (.l false ys) B):∃a vs Ael,v=.ref a/\H a=some (.l vs)/\O4 F H vs ys Ael/\B=a::Ael:=by cases r with|l h r=>exact⟨_,_,_,rfl,h,r,rfl⟩
theorem qo4(S:Pd c F H X ds A)(h:Bc ds i p=some (.l false ys))(J:(X++c.gv)[i]?=some (some u))(K:Walk H u p w):∃(a:γ)(vs:List V)(Ael:List γ),w=.ref a/\H a=some (.l vs)/\O4 F H vs ys Ael/\∀(g:List V)(m:List D)(B' R T:List γ),Ok F H (T++A)->O4 F H g m B'->(∀b,B'.count b+R.count b<=Ael.count b+T.count b)->(∃A',Pd c F (upd H a (.l g)) X (Bj ds i p (.l false m)) A'/\Ok F (upd H a (.l g)) (R++A')/\Pc F H (T++A) F (upd H a (.l g)) (R++A'))/\∀v d,Pa F H v d R->Pa F (upd H a (.l g)) v d R:=by
 obtain⟨B,C,r,L,M⟩:=S.place h (by intro z;cases z) J K;obtain⟨a,vs,Ael,rfl,y,N,rfl⟩:=qB8 r;refine⟨a,vs,Ael,rfl,y,N,λg m B' R T q O E=>?_⟩;have n:∀b,A.count b=(if b=a then 1 else 0)+Ael.count b+C.count b:=λb=>by rw[L,zAr];by_cases j:b=a;{subst j;simp;lia};simp[j,Ne.symm j]
 have s:=n a;rw[if_pos rfl] at s;have sa:=q.sep a;rw[zA0] at sa;have P:=E a;have G:¬F a:=λf=>by have:=q.fro a f;rw[zA0] at this;lia
 have k:=qQ4 (F:=F) (o':=.l g) y rfl G;have rep':Pa F (upd H a (.l g)) (.ref a) (.l false m) (a::B'):=.l qc6 (O.keep k λb j w=>by subst w;have:=qb1.mp j;lia);obtain⟨A',Q,q2⟩:=M _ _ k (λb j w=>by subst w;have:=qb1.mp j;lia) rep';have t:∀b,A'.count b=(if b=a then 1 else 0)+B'.count b+C.count b:=λb=>by rw[q2,zAr];by_cases j:b=a;{subst j;simp;lia};simp[j,Ne.symm j]
 have l:∀b,(R++A').count b<=(T++A).count b:=λb=>by rw[zA0,zA0,t,n];have:=E b;lia
 have U:∀b,F b->∃o,upd H a (.l g) b=some o:=λb f=>by obtain⟨x,e⟩:=q.ex b f;exact⟨x,by rw[qd6 (show b≠a from λw=>G (w ▸ f))];exact e⟩
 have I:Ok F (upd H a (.l g)) (R++A'):=⟨λb=>zAl (l b) (q.sep b),λb f=>by have:=q.fro b f;have:=l b;lia,U⟩;refine⟨⟨A',⟨Q,I.right,S.len,S.ag⟩,I,λb u e z=>?_,λb u e z=>by have:=l b;lia,λ_ f=>f,λ_ _ _ _ f=>f⟩,λv d W=>W.keep k λb j w=>by subst w;have:=qb1.mp j;lia⟩;rw[qd6 λw=>?_];{exact e};subst w;have:=n b;rw[if_pos rfl] at this;rw[zA0] at z;lia
def Gj(r:V->List V->Hp->VK->Prop)(g:Ds->Ds->Option (Ds×D)):Prop:=∀F H a vs ys Ael f xs T c d (Q:VK),H a=some (.l vs)->O4 F H vs ys Ael->O4 F H f xs T->g ys xs=some (c,d)->(∀e v B' R,O4 F H e c B'->Pa F H v d R->(∀b,B'.count b+R.count b<=Ael.count b+T.count b)->Q v (upd H a (.l e)))->r (.ref a) f H Q
def Gk(ys xs:Ds):Option (Ds×D):=match xs with|[x]=>if ys.length<big then some (ys++[x],.non) else none|_=>none
theorem qr3:Gj qax2 Gk:=by intro F H a i c Ael m j T e d Q k r l h q;match j,h with|[x],h=>obtain⟨w,rfl,f⟩:=l.one_inv;have h:(if c.length<big then some (c++[x],D.non) else none)=some (e,d):=h;by_cases g:c.length<big;{rw[if_pos g] at h;cases h;refine⟨a,i,w,rfl,rfl,k,by rw[r.len];exact zAk g qj8,?_⟩;exact q _ .non (Ael++(T++[])) [] (r.append (.cons f .nil)) .non λb=>by simp[zA0]};rw[if_neg g] at h;cases h
noncomputable def gPop(ys xs:Ds):Option (Ds×D):=match xs with|[]=>(ys[ys.length-1]?).map λd=>(ys.dropLast,d)|_=>none
theorem O4.last(r:O4 F H vs ys Ael)(h:ys[ys.length-1]?=some d):∃v B R,vs[vs.length-1]?=some v/\O4 F H vs.dropLast ys.dropLast B/\Pa F H v d R/\∀b,B.count b+R.count b<=Ael.count b:=by
 obtain⟨e,v,f,g,a,A1,B,A2,c,e2,o,i,j,k,l,m⟩:=r.split h;have n:a=[]:=by have:=congrArg Lv e2;rw[zA8,zAn,i] at this;cases a with|nil=>rfl|cons _ _=>simp at this;lia
 subst n;cases m;refine⟨v,A1,B,?_,?_,l,λb=>by rw[j];simp only[zA0,L7];lia⟩;{rw[c];simp};rw[c,e2,Mh,Mh];exact k
theorem qaY6:Gj rPop gPop:=by intro F H a c s Ael t f T g d Q i r j h q;match f,h with|[],h=>cases j;obtain⟨e,k,l⟩:=zAa.mp h;cases l;obtain⟨v,B,R,m,n,o,p⟩:=r.last k;exact⟨a,c,v,rfl,rfl,i,m,q _ v B R n o λb=>by have:=p b;lia⟩
end
section
variable{c:Vc}{X:Cx}{a b e o:Lb}{pf:PF}{tr:VTB}{es:List Lb}{r:V->List V->Hp->VK->Prop}{g:Ds->Ds->Option (Ds×D)}
noncomputable def D.own:D->Option Ds|.l false ys=>some ys|_=>none
theorem Jo{d:D}(h:d.own=some ys):d=.l false ys:=by cases d with|l z a=>(cases z with|false=>cases h;rfl|true=>cases h)|_=>cases h
def Em(g:Ds->Ds->Option (Ds×D))(i:Nat)(tr:VTB):VT:=λds Q xe=>((rdN i ds).bind D.own).isSome=true/\tr ds (λxs _ ds1=>orF ((rdN i ds1).bind D.own) λys=>orF (g ys xs) λz=>Q z.2 (ds1.set i (.l false z.1))) xe
theorem qJ9(h:ds[i]?=some d):Bc ds i []=some d:=by unfold Bc;rw[h];rfl
theorem qH8(h:ds[i]?=some d):Bj ds i [] x=ds.set i x:=by unfold Bj;rw[h];rfl
theorem qaP7(t:T="list")(hm:Gj r g)(u:VAs c X es tr)(hi:i<σ.length)(q:Bm c (Em g i tr) σ H Q):tBM X.K T r (F4 i) (Ek c tr) σ H Q:=by
 subst t;obtain⟨F,y,A,B,S,x,C,q⟩:=q;obtain⟨D,b⟩:=zBb.mp C;obtain⟨d0,E,f⟩:=zA1.mp b;cases Jo f;obtain⟨v,B0,o,G,_⟩:=S.name hi E;obtain⟨a,h,A0,rfl,j,_,_⟩:=G.lst_inv;refine⟨.ref a,o,.inl ⟨rfl,h,.inl (.inl j)⟩,F,y,A,B,S,x,u.m _ _ _ _ _ (λI ps J q L H1 F1 T A1 M pk S1 N O=>?_) (λ_ _ z=>z) q⟩;obtain⟨P,U,q⟩:=qa7.mp q;obtain⟨d1,e2,V⟩:=zA1.mp U;cases Jo V;obtain⟨⟨e,d⟩,W,q⟩:=qa7.mp q;obtain⟨s,hk⟩:=qn3.mp e2;have Y:(σ++c.gv)[i]?=some (some (.ref a)):=by rw[zAj hi];exact o
 obtain⟨a2,k,Ael,Z,l,rs,wr⟩:=qo4 S1 (qJ9 s) Y (p:=[]) (w:=.ref a) rfl;cases Z;refine hm F1 H1 a k P Ael L I T e d Q l rs M W λn v B' R h1 h2 h3=>?_;obtain⟨⟨A',S2,o2,s2⟩,kr⟩:=wr n e B' R T N h1 h3;rw[qH8 s] at S2;exact q v _ F1 R A' (kr v d h2) S2 o2 (O.trans s2)
theorem qar5(e:VAs c X es tr):∀ds (Q Q':DK) (xe b:XKd),(∀d a,Q d a->Q' d a)->(∀x a,xe x a->b x a)->Em g i tr ds Q xe->Em g i tr ds Q' b:=λds Q Q' xe b f h=>N7 (e.m _ _ _ _ _ (λk l j=>qa4 λy=>qa4 λz=>f _ _) h)
theorem Pa.nW{F F':γ->Prop}{H H':Hp}{W:γ->Prop}{a:γ}{d0 e:D}{B:List γ}(r:Pa F H (.ref a) d0 B)(k:Kp F H W F' H')(d:∀b∈B,¬W b)(f:d0.kids[n]?=some e):¬W a:=by cases r with|q c _=>intro w;obtain⟨o,e,m⟩:=k.wm a w;rw[c] at e;cases e;cases m|l c _=>exact d _ zAf|dct c _ _=>exact d _ zAf|ins c _ _=>exact d _ zAf|_=>cases (show (none:Option D)=some _ from f)
theorem qao8(k:Kp F H W F' H'):∀{p:List Nat}{f:V}{d0 d:D}{B:List γ}{w l:V},(∀b∈B,¬W b)->Pa F H f d0 B->d0.getP p=some d->Walk H f p w->Walk H' f p l->l=w:=by
 intro p;induction p with
 |nil=>intro f d0 d B w l _ _ _ h o;cases h;cases o;rfl|cons n p z=>
  intro f d0 d B w l q r g h o;unfold D.getP at g;cases i:d0.kids[n]? with
  |none=>rw[i] at g;cases g|some e=>
   rw[i] at g;obtain⟨x,A,E⟩:=h;obtain⟨M,s,t⟩:=o;obtain⟨y,B1,C1,v,G,I,_⟩:=r.kid i;obtain⟨N,B1',C1',j,_,_,_⟩:=(r.keep k q).kid i;cases A.fn v;cases s.fn j;have u:Lnk H' f n x:=by obtain⟨a,rfl,J⟩:=v;have m:=r.nW k q i;exact⟨a,rfl,J.imp (λ⟨c,e,h⟩=>⟨c,k.fr _ _ e m,h⟩) (O2 (λ⟨c,e,h⟩=>⟨c,k.fr _ _ e m,h⟩) (O2 (λ⟨c,e,h⟩=>⟨c,k.fr _ _ e m,h⟩) λ⟨C,K,c,e,h⟩=>⟨C,K,c,k.fr _ _ e m,h⟩))⟩
   cases u.fn j;exact z (B:=B1) (λb L=>q b (qb1.mpr (by have:=I b;have:=qb1.mp L;lia))) G g E t
def E2(g:Ds->Ds->Option (Ds×D))(pf:PF)(tr:VTB):VT:=λds Q xe=>orF (pf ds) λq=>orF ((Bc ds q.1 q.2).bind D.own) λys=>orF ds[q.1]? λa=>tr (ds.set q.1 .u) (λxs _ ds1=>orF (g ys xs) λz=>Q z.2 (Bj (ds1.set q.1 a) q.1 q.2 (.l false z.1))) xe
theorem qX2(e:VAs c X es tr):∀ds (Q Q':DK) (xe b:XKd),(∀d a,Q d a->Q' d a)->(∀x a,xe x a->b x a)->E2 g pf tr ds Q xe->E2 g pf tr ds Q' b:=λds Q Q' xe b f h=>qa4 λq=>qa4 λj=>qa4 λk=>e.m _ _ _ _ _ (λl n i=>qa4 λz=>f _ _) h
theorem qay2(hm:Gj r g)(ha:VAs c X es tr):∀σ H Q,Bm c (E2 g pf tr) σ H Q->tBM X.K "list" r (Gf c pf) (Ek c tr) σ H Q:=by
 rintro σ H Q ⟨F,Y,A,xe,S,x,q⟩;obtain⟨⟨i,p⟩,e1,q⟩:=qa7.mp q;obtain⟨n,e2,q⟩:=qa7.mp q;obtain⟨dl,h,e4⟩:=zA1.mp e2;cases Jo e4;obtain⟨I,l,q⟩:=qa7.mp q;refine⟨F,Y,A,i,p,_,S,e1,h,D.noConfusion,λu w H1 s Z s0=>?_⟩;have S0:=S.same s0;obtain⟨a,L,Ael0,rfl,M,a0,_⟩:=qo4 S0 h s Z;refine⟨.inl ⟨rfl,L,.inl (.inl M)⟩,?_⟩;have N:I≠.u:=λz=>by subst z;have j:=h;unfold Bc at j;rw[l] at j;cases (qam1 j).2
 obtain⟨u',B,C,h1,J,h3,h4⟩:=S0.put1 l N;rw[s] at h1;cases h1;obtain⟨A1,q1,q2⟩:=h4 .u [] (Kp.same (F:=F) λ_ _ z=>z) (λ_ _ z=>z) (.u u);have O:Ok F H1 (B++A1):=S0.ok.count λb=>by rw[zA0,q2,h3];simp
 have s1:Pc F H A F H1 (B++A1):=⟨λb o e _=>s0 b o e,λb o e z=>by rw[zA0,q2];have:=h3 b;simp;lia,λ_ f=>f,λ_ _ _ _ f=>f⟩;have S1:Pd c F H1 σ (Y.set i .u) A1:=⟨q1,O.right,S.len,S.ag⟩;have P:Pc F H A F H1 A1:=s1.count λb=>by rw[zA0];lia
 refine⟨F,_,A1,xe,S1,x.step P,ha.m _ _ _ _ _ (λxs ps k q vs H2 F2 T2 A2 r2 pk S2 o2 s2=>?_) (λ_ _ z=>z) q⟩;obtain⟨⟨t,d⟩,e7,q⟩:=qa7.mp q;have kp:=s2.kp S1.ok S1.loc.cells;have hBout:∀b∈B,¬(A1.count b≠0):=λb hb hc=>by have:=O.sep b;rw[zA0] at this;have:=qb1.mp hb;lia
 have y:Pa F2 H2 u I B:=J.keep kp hBout;obtain⟨o3,s3⟩:=s2.frame O J.cells o2;obtain⟨A3,k1,k2⟩:=qH7 S2.loc s y;have E:∀b,A3.count b<=B.count b+A2.count b:=k2;have o4:Ok F2 H2 (T2++A3):=o3.count λb=>by simp only[zA0];have:=E b;lia
 have s4:Pc F H A F2 H2 (T2++A3):=(s1.trans s3).count λb=>by simp only[zA0];have:=E b;lia
 have S3:Pd c F2 H2 σ (k.set i I) A3:=⟨k1,o4.right,S.len,S.ag⟩;have G:i<k.length:=by rw[<-S2.loc.len];exact(zA4.mp s).1
 have e8:Bc (k.set i I) i p=some (.l false n):=by unfold Bc at h ⊢;rw[l] at h;rw[zCb G];exact h
 have T:Walk H2 u p (.ref a):=by
  obtain⟨w',_,_,w1,_,_,_⟩:=J.path (p:=p) (d:=.l false n) (by unfold Bc at h;rw[l] at h;exact h);cases Z.fn w1;obtain⟨w2,_,_,w3,_,_,_⟩:=y.path (p:=p) (d:=.l false n) (by unfold Bc at h;rw[l] at h;exact h);have:w2=.ref a:=by refine qao8 (d:=.l false n) kp hBout J ?_ w1 w3;unfold Bc at h;rw[l] at h;exact h
  rw[<-this];exact w3
 obtain⟨a2,U,Ael,ea,V,rs,wr⟩:=qo4 S3 e8 s T;cases ea;refine hm F2 H2 a U n Ael vs xs T2 t d Q V rs r2 e7 λW v B' R z1 z2 z3=>?_;obtain⟨⟨A',S4,o5,s5⟩,kr⟩:=wr W t B' R T2 o4 z1 z3;exact q v _ F2 R A' (kr v d z2) S4 o5 (s4.trans s5)
end
section
variable{c:Vc}{X:Cx}{a b e o:Lb}{pos cpos apos:Pos}{pf:PF}{tr:VTB}{es:List Lb}{fb:FV}{ob:Bool}{r:V->List V->Hp->VK->Prop}{g:Ds->Ds->Option (Ds×D)}{name:Str}{id:String}
theorem B7(i:Nat)(k:Gj r g)(l:PlainAttrs "list")(slot:Slot "list" name id)(b:typeOf (.builtin id)=pure (.type "method_descriptor"))(hm:MtM X id r)(d:VAs c X (e::es) tr)(j:X.N[i]?=some x:=by rfl)(m:Vis X.env.scope x:=by first|exact O1 rfl|exact O0 (O1 rfl)|exact O0 (O0 rfl))(n:N' x:=by decide)(f:(x==("__classdict__" : Str))=false:=by decide)(hbase:Kr (.Name x p0) name X.env (eval (.Name x p0) X.env)=eval (.Name x p0) X.env:=by rfl)(a:((backTo cpos (Kj (e::es) X.env)).all (λx=>!x.1)&&(backToKw cpos (Kv [] X.env)).all (λx=>x.1.isSome)
     && decide ((e::es).length+([]:List Keyword).length+(if ([]:List Keyword).isEmpty then 0 else 1)<30))=true:=by rfl)(hline:(apos.endLine==cpos.line)=true:=by rfl)(o:Kj (e::es) X.env=(false,eval e X.env)::Kj es X.env:=by rfl)(hplain:(backTo cpos (Kj es X.env)).any (·.1)=false:=by rfl):VE c X (.Call (.Attribute (.Name x p0) name apos) (e::es) [] cpos) (Em g i tr):=⟨λD8 s σ H Q I q=>Ha l slot b hm (qq8 j m n f) d.h hbase a hline o hplain D8 s σ H Q I (qaP7 rfl k d (qr6 j D8 σ H s I) q),qar5 d⟩
theorem emutP(f:Gj r g)(i:PlainAttrs "list")(slot:Slot "list" name id)(b:typeOf (.builtin id)=pure (.type "method_descriptor"))(hm:MtM X id r)(j:VP c X o pf)(d:VAs c X (e::es) tr)(hbase:Kr o name X.env (eval o X.env)=eval o X.env:=by rfl)(a:((backTo cpos (Kj (e::es) X.env)).all (λx=>!x.1)&&(backToKw cpos (Kv [] X.env)).all (λx=>x.1.isSome)
     && decide ((e::es).length+([]:List Keyword).length+(if ([]:List Keyword).isEmpty then 0 else 1)<30))=true:=by rfl)(hline:(apos.endLine==cpos.line)=true:=by rfl)(k:Kj (e::es) X.env=(false,eval e X.env)::Kj es X.env:=by rfl)(hplain:(backTo cpos (Kj es X.env)).any (·.1)=false:=by rfl):VE c X (.Call (.Attribute o name apos) (e::es) [] cpos) (E2 g pf tr):=⟨PE.mono (Ha i slot b hm j.h d.h hbase a hline k hplain) (qay2 f d),qX2 d⟩
theorem qbb3(e:Gj r g)(f:PlainAttrs "list")(slot:Slot "list" name id)(a:typeOf (.builtin id)=pure (.type "method_descriptor"))(hm:MtM X id r)(j:VP c X o pf)(hbase:Kr o name X.env (eval o X.env)=eval o X.env:=by rfl)(hline:(apos.endLine==cpos.line)=true:=by rfl):VE c X (.Call (.Attribute o name apos) [] [] cpos) (E2 g pf A7):=⟨PE.mono (qaW9 f slot a hm j.h hbase hline) λσ H Q q=>by
   obtain⟨F,k,A,i,p,d,S,l,e2,b,q⟩:=qay2 (X:=X) (c:=c) e Ac σ H Q q;refine⟨F,k,A,i,p,d,S,l,e2,b,λu w H1 m n s=>?_⟩;obtain⟨a,F2,t,A2,v,S2,x,q2⟩:=q u w H1 m n s;exact⟨a,q2 [] H1 F2 [] A2 .nil .nil S2 S2.ok Pc.refl⟩,qX2 (c:=c) (X:=X) Ac⟩
def Fs(pf:PF)(fb:FV):VTG:=λd ds Q=>orF (pf ds) λq=>orF ((Bc ds q.1 q.2).bind D.own) λys=>orF ((fb ds).bind D.asI) λk=>orF (ixN ys.length k) λn=>Q (Bj ds q.1 q.2 (.l false (ys.set n d)))
theorem En(y:VP c X o pf)(hi:VV c X b ob fb)(f:∀v,assign (.Subscript o b pos) X.env v=(do
 let ov<-holding [v] (eval o X.env)
 let iv<-holding [v,ov] (eval b X.env)
 standAt pos
 holding [v,ov,iv] (setItem ov iv v)
 release [v,ov,iv] []):=by intro _;rfl):VG c X (.Subscript o b pos) (Fs pf fb):=by
 refine⟨PG.mono (qaW5 y.h hi.h qag1 f) λv σ H Q g=>?_,λd j Q Q' z=>qa4 λ_=>qa4 λ_=>qa4 λ_=>qa4 λ_=>z _⟩;obtain⟨F,j,A,T,d,r,S,B,q⟩:=g;obtain⟨⟨i,p⟩,C,q⟩:=qa7.mp q;obtain⟨E,e2,q⟩:=qa7.mp q;obtain⟨Y,l,G⟩:=zA1.mp e2;cases Jo G;obtain⟨k,I,q⟩:=qa7.mp q;obtain⟨J,K,L⟩:=zA1.mp I;obtain⟨n,m,q⟩:=qa7.mp q;refine⟨F,j,A,i,p,_,S,C,l,D.noConfusion,λu w H1 M N s=>⟨F,j,A,J,S.same s,K,λZ H2 B2 O t _=>?_⟩⟩;have e:=s.trans t;have S2:=S.same e;cases O.asI L;obtain⟨a,P,Ael,rfl,f,x,wr⟩:=qo4 S2 l M (N.same t);have R:n<E.length:=(qY1 m).2.1;obtain⟨B',U,V⟩:=x.setAt R (r.same e);obtain⟨⟨A',S3,o3,W⟩,_⟩:=wr _ _ B' [] T (B.same e) U λb=>by have:=V b;simp;lia
 exact⟨a,P,k,n,rfl,rfl,f,by rw[x.len];exact m,q σ _ F A' S3 ((Pc.same e).trans W)⟩
def sAugV(f:Int->Int->Int)(pf:PF)(fb a:FV):VTS:=λe ds=>orF (pf ds) λq=>orF ((Bc ds q.1 q.2).bind D.own) λys=>orF ((fb ds).bind D.asI) λk=>0<=k/\orF ((ys[k.toNat]?).bind D.asI) λx=>orF ((a ds).bind D.asI) λy=>e.nx (Bj ds q.1 q.2 (.l false (ys.set k.toNat (.int (f x y)))))
theorem saug{op:Operator}{N:FV}{V:Bool}(W:VP c X o pf)(hi:VV c X b ob fb)(Y:VV c X e V N)(Z:PIp X op (ipI f))(ha:∀n r d,augStore b n r d=(do holding [d,n,r] (setItem n r d);release [d,n,r] [];pure .next):=by intros;rfl):VS c X (.AugAssign (.Subscript o b tpos) op e pos) (sAugV f pf fb N):=by
 refine⟨PS.mono (qaM5 W.h hi.h qaH1 Y.h Z qag1 ha) λE σ H t=>?_,λen a0 s hl=>qa4 λ_=>qa4 λ_=>qa4 λ_=>N7 (qa4 λ_=>qa4 λ_=>hl.nx _)⟩;obtain⟨F,s,A,en,S,l,q⟩:=t;obtain⟨⟨i,p⟩,e1,q⟩:=qa7.mp q;obtain⟨ys,e2,q⟩:=qa7.mp q;obtain⟨dl,v,e4⟩:=zA1.mp e2;cases Jo e4;obtain⟨k,e5,O,q⟩:=qa7.mp q;obtain⟨dk,e6,e7⟩:=zA1.mp e5;obtain⟨x,e8,q⟩:=qa7.mp q;obtain⟨dx,P,z⟩:=zA1.mp e8;obtain⟨y,B,q⟩:=qa7.mp q;obtain⟨dy,C,G⟩:=zA1.mp B;refine⟨F,s,A,i,p,_,S,e1,v,D.noConfusion,λu w H1 Q R T=>⟨F,s,A,dk,S.same T,e6,λvk H2 B2 r2 I _=>?_⟩⟩;have g:=T.trans I;cases r2.asI e7;obtain⟨a,vs,Ael,rfl,J,K,_⟩:=qo4 (S.same g) v Q (R.same I);obtain⟨vx,Bx,hx,rx,_⟩:=K.get P;cases rx.asI z;refine⟨a,vs,k,_,rfl,rfl,J,O,hx,F,s,A,dy,S.same g,C,λvy H3 B3 r3 U _=>?_⟩;cases r3.asI G;have j:=g.trans U;have S3:=S.same j;obtain⟨a',L,Ael',ea,M,m,wr⟩:=qo4 S3 v Q ((R.same I).same U);cases ea;have hn:k.toNat<ys.length:=(zA4.mp P).1;obtain⟨B',r4,h4⟩:=m.setAt hn (.int (f x y));obtain⟨⟨A',S4,o4,s4⟩,_⟩:=wr _ _ B' [] [] S3.ok r4 λb=>by have:=h4 b;simpa using this
 refine⟨x,y,rfl,rfl,a,L,k,k.toNat,rfl,rfl,M,?_,l.nx _ σ _ F A' q S4 ((Pc.same j).trans s4)⟩;rw[m.len];unfold ixN;rw[if_pos O,if_pos ⋯]
noncomputable def Fd(f:Str)(d:D):List (Str×D)->List (Str×D)|[]=>[(f,d)]|(g,x)::r=>if g=f then (g,d)::r else (g,x)::Fd f d r
end
section
variable{c:Vc}{X:Cx}{F:γ->Prop}{H:Hp}{W:St}{ds:Ds}{A T:List γ}{a b e o:Lb}{pos cpos apos:Pos}{te:VT}{pf:PF}{fa fb:FV}{oa ob:Bool}
theorem qW7:∀{a:List (Str×V)}{c:List (Str×D)}{B Tv:List γ}{f:Str}{v:V}{d:D},a.map (·.1)=c.map (·.1)->O4 F H (a.map (·.2)) (c.map (·.2)) B->Pa F H v d Tv->(Dc f v a).map (·.1)=(Fd f d c).map (·.1)/\∃B',O4 F H ((Dc f v a).map (·.2)) ((Fd f d c).map (·.2)) B'/\∀b,B'.count b<=B.count b+Tv.count b
 |[],[],B,Tv,f,v,d,_,r,rv=>⟨rfl,Tv++[],.cons rv .nil,λb=>by simp⟩|[],_::_,_,_,_,_,_,h,_,_=>by simp at h|_::_,[],_,_,_,_,_,h,_,_=>by simp at h|(k,w)::r,(k',x)::r',B,Tv,f,v,d,h,rs,rv=>by
  have i:k=k':=by simp at h;exact h.1
  have e:r.map (·.1)=r'.map (·.1):=by simp at h;simpa using h.2
  subst i;cases rs with|@cons _ _ B1 _ _ B2 q t=>by_cases g:k=f;{simp only[Dc,Fd,if_pos g,zAy,e,true_and];exact⟨Tv++B2,.cons rv t,λb=>by simp only[zA0];lia⟩};obtain⟨j,B',l,m⟩:=qW7 (f:=f) e t rv;simp only[Dc,Fd,if_neg g,zAy,j,true_and];exact⟨B1++B',.cons q l,λb=>by simp only[zA0];have:=m b;lia⟩
def D.ownI(C:γ):D->Option (List (Str×D))|.ins false C' fs=>if C'=C then some fs else none|_=>none
theorem qaO0{d:D}(h:d.ownI C=some fs):d=.ins false C fs:=by cases d with|ins z C' b=>(cases z with|false=>have h:(if C'=C then some b else none)=some fs:=h;by_cases a:C'=C;{rw[if_pos a] at h;cases h;rw[a]};rw[if_neg a] at h;cases h|true=>cases h)|_=>cases h
theorem qaN9(S:Pd c F H W ds A)(h:Bc ds i p=some (.ins false C l))(E:(W++c.gv)[i]?=some (some u))(G:Walk H u p w):∃(a dx:γ)(d:List (Str×V))(Ael:List γ),w=.ref a/\H a=some (.ins C dx d)/\d.map (·.1)=l.map (·.1)/\O4 F H (d.map (·.2)) (l.map (·.2)) Ael/\∀(fvs':List (Str×V))(fds':List (Str×D))(B' T:List γ),Ok F H (T++A)->fvs'.map (·.1)=fds'.map (·.1)->O4 F H (fvs'.map (·.2)) (fds'.map (·.2)) B'->(∀b,B'.count b<=Ael.count b+T.count b)->∃A',Pd c F (upd H a (.ins C dx fvs')) W (Bj ds i p (.ins false C fds')) A'/\Pc F H (T++A) F (upd H a (.ins C dx fvs')) A':=by
 obtain⟨B,C0,r,I,J⟩:=S.place h D.noConfusion E G;cases r with
 |@ins a _ dx d _ Ael ha hk rs=>
 refine⟨a,dx,d,Ael,rfl,ha,hk,rs,λfvs' fds' B' T n q K v=>?_⟩;have m:∀b,A.count b=(if b=a then 1 else 0)+Ael.count b+C0.count b:=λb=>by
  rw[I,zAr];by_cases g:b=a
  .subst g;simp;lia
  simp[g,Ne.symm g]
 have s:=m a;rw[if_pos rfl] at s;have sa:=n.sep a;rw[zA0] at sa;have L:=v a;have y:¬F a:=λf=>by have:=n.fro a f;rw[zA0] at this;lia
 have k:=qQ4 (F:=F) (o':=.ins C dx fvs') ha rfl y;have rep':Pa F (upd H a (.ins C dx fvs')) (.ref a) (.ins false C fds') (a::B'):=.ins qc6 q (K.keep k λb g w=>by subst w;have:=qb1.mp g;lia);obtain⟨A',M,q2⟩:=J _ _ k (λb g w=>by subst w;have:=qb1.mp g;lia) rep';have t:∀b,A'.count b=(if b=a then 1 else 0)+B'.count b+C0.count b:=λb=>by
  rw[q2,zAr];by_cases g:b=a
  .subst g;simp;lia
  simp[g,Ne.symm g]
 have j:∀b,A'.count b<=(T++A).count b:=λb=>by rw[zA0,t,m];have:=v b;lia
 have N:∀b,F b->∃o,upd H a (.ins C dx fvs') b=some o:=λb f=>by
  obtain⟨x,e⟩:=n.ex b f;exact⟨x,by rw[qd6 (show b≠a from λw=>y (w ▸ f))];exact e⟩
 refine⟨A',⟨M,⟨λb=>zAl (j b) (n.sep b),λb f=>by have:=n.fro b f;have:=j b;lia,N⟩,S.len,S.ag⟩,λb u e z=>?_,λb u e z=>by have:=j b;lia,λ_ f=>f,λ_ _ _ _ f=>f⟩;rw[qd6 λw=>?_]
 .exact e
 subst w;have:=m b;rw[if_pos rfl] at this;rw[zA0] at z;lia
def sFldV(C:γ)(f:Str)(te:VT)(pf:PF):VTS:=λe ds=>te ds (λd ds1=>orF (pf ds1) λq=>orF ((Bc ds1 q.1 q.2).bind (D.ownI C)) λfs=>fs.length<100/\e.nx (Bj ds1 q.1 q.2 (.ins false C (Fd f d fs)))) e.xe
theorem Gm(G:X.K=K)(I:VP c X o pf)(k:VE c X e te)(J:Cls K C)(L:qh0 K C f)(M:swapsWith e (some (.Attribute o f pos')) pos.line X.env=pure false:=by rfl):VS c X (.Assign [.Attribute o f pos'] e pos) (sFldV C f te pf):=by
 subst G;refine⟨PS.mono (qaW1 I.h k.h M) λE W H n=>?_,λs N t r=>k.m _ _ _ _ _ (λd b=>qa4 λ_=>qa4 λ_=>N7 (r.nx _)) r.xe⟩;obtain⟨F,t,A,s,S,l,q⟩:=n;refine⟨F,t,A,s.xe,S,l.xe,k.m _ _ _ _ _ (λd b q v H1 F1 T A1 O S1 P Q=>?_) (λ_ _ z=>z) q⟩;obtain⟨⟨i,p⟩,R,q⟩:=qa7.mp q;obtain⟨U,e2,r,q⟩:=qa7.mp q;obtain⟨dl,x,V⟩:=zA1.mp e2;cases qaO0 V;refine⟨F1,b,A1,i,p,_,S1,R,x,D.noConfusion,λu w H2 Y Z j=>?_⟩;have S2:=S1.same j;obtain⟨a,dx,g,Ael,rfl,ha,y,rs,wr⟩:=qaN9 S2 x Y Z;have B:g.length=U.length:=by have:=congrArg Lv y;simpa using this
 refine⟨a,C,dx,g,rfl,ha,J,L,⋯,?_⟩;obtain⟨m1,B',m2,m3⟩:=qW7 (f:=f) y rs (O.same j);obtain⟨A',S3,s3⟩:=wr _ _ B' T (P.same j) m1 m2 m3;exact l.nx _ W _ F1 A' q S3 (Q.trans ((Pc.same j).trans s3))
def Dl(x:V):List V->Option Nat|[]=>none|y::r=>if eqV y x=true then some 0 else (Dl x r).map (· + 1)
theorem qal6{x:V}:∀{xs:List V}{j:Nat},Dl x xs=some j->∃z,xs[j]?=some z/\eqV z x=true/\∀m z',m<j->xs[m]?=some z'->eqV z' x=false
 |[],j,h=>by cases h|y::r,j,h=>by
  unfold Dl at h;by_cases a:eqV y x=true;{rw[if_pos a] at h;cases h;exact⟨y,rfl,a,λm z' c=>⋯⟩};rw[if_neg a] at h;obtain⟨k,d,rfl⟩:=zAa.mp h;obtain⟨z,e,f,g⟩:=qal6 d;refine⟨z,by simpa using e,f,λm z' c b=>?_⟩;cases m with
  |zero=>
   have:y=z':=by simpa using b
   subst this;simpa using a
  |succ m=>exact g m z' ⋯ (by simpa using b)
def gIdx(x y:D):Option D:=match x with|.l _ ys=>y.flat.bind λv=>(flats ys).bind λa=>(Dl v a).map λj=>.int (j:Nat)|_=>none
def Jp(x y:D):Option D:=match x with|.l _ ys=>y.flat.bind λv=>(flats ys).bind λa=>some (.int (a.countP (λz=>eqV z v):Nat))|_=>none
def rL1(r:V->List V->Hp->VK->Prop):R2:=λx y H Q=>r x [y] H Q
theorem qaO3:Bb true (rL1 qaL8) gIdx:=by
 intro F H v w x y B d Q r h q;cases r with|@cons _ _ A _ _ _ b t=>cases t with|@cons _ _ A2 _ _ _ c _=>
 cases x with|l z s=>obtain⟨u,e,h⟩:=zA1.mp h;obtain⟨C,i,h⟩:=zA1.mp h;obtain⟨j,k,rfl⟩:=zAa.mp h;obtain⟨rfl,f⟩:=c.flat e;obtain⟨a,l,A3,rfl,m,n,_⟩:=b.lst_inv;obtain⟨rfl,g⟩:=n.flats i;obtain⟨z,o,q2,p⟩:=qal6 k;exact⟨a,l,w,j,z,rfl,rfl,m,f,g,o,q2,p,q _ H [] (.int _) (λ_ _ z=>z) New.nil⟩|_=>cases h
theorem qaX1:Bb true (rL1 qaM0) Jp:=by
 intro F H v w x y B d Q r h q;cases r with|@cons _ _ A _ _ _ b t=>cases t with|@cons _ _ A2 _ _ _ c _=>
 cases x with|l z m=>obtain⟨n,e,h⟩:=zA1.mp h;obtain⟨o,i,h⟩:=zA1.mp h;cases h;obtain⟨rfl,f⟩:=c.flat e;obtain⟨a,j,A3,rfl,k,l,_⟩:=b.lst_inv;obtain⟨rfl,g⟩:=l.flats i;exact⟨a,j,w,rfl,rfl,k,f,g,q _ H [] (.int _) (λ_ _ z=>z) New.nil⟩|_=>cases h
theorem vbm{id:String}(C:Bb true (rL1 r) g)(E:PlainAttrs "list")(slot:Slot "list" name id)(i:typeOf (.builtin id)=pure (.type "method_descriptor"))(hm:MtM X id r)(G:VV c X o oa fa)(I:VV c X b ob fb)(J:∀x y d,g x y=some d->∃z ys,x=.l z ys)(hbase:Kr o name X.env (eval o X.env)=eval o X.env:=by rfl)(f:((backTo cpos (Kj [b] X.env)).all (λx=>!x.1)&&(backToKw cpos (Kv [] X.env)).all (λx=>x.1.isSome)
 && decide (([b]:List Lb).length+([]:List Keyword).length+(if ([]:List Keyword).isEmpty then 0 else 1)<30))=true:=by rfl)(hline:(apos.endLine==cpos.line)=true:=by rfl)(n:Kj [b] X.env=(false,eval b X.env)::Kj [] X.env:=by rfl)(hplain:(backTo cpos (Kj [] X.env)).any (·.1)=false:=by rfl):VV c X (.Call (.Attribute o name apos) [b] [] cpos) true (f2 g fa fb):=by refine⟨PE.mono (Ha E slot i hm G.h (qc5 I.h ql4 n) hbase f hline n hplain) λW H Q j=>?_⟩;obtain⟨F,p,A,d,S,e,q⟩:=j;obtain⟨x,y,K,L,s⟩:=qaH5.mp e;obtain⟨z,ys,rfl⟩:=J x y d s;refine⟨F,p,A,_,S,K,λv H1 B1 t k R=>?_⟩;obtain⟨a,M,A3,rfl,l,T,_⟩:=t.lst_inv;refine⟨.inl ⟨rfl,M,.inl (.inl l)⟩,F,p,A,y,S.same k,L,λw H2 B2 N m U=>?_⟩;exact C F H2 _ w _ y _ d Q (F6 (t.same m) N) s λu H3 B3 O P B=>q u H3 B3 O ((k.trans m).trans P) λ_=>⟨B.one,λb o e=>B.new b o (m b o (k b o e))⟩
theorem qaz1:∀x y d,gIdx x y=some d->∃z ys,x=.l z ys:=λx y d h=>by cases x with|l z ys=>exact⟨z,ys,rfl⟩|_=>cases h
theorem qaT3:∀x y d,Jp x y=some d->∃z ys,x=.l z ys:=λx y d h=>by cases x with|l z ys=>exact⟨z,ys,rfl⟩|_=>cases h
end
def Db(g:VTG)(t:VTS)(e:VEnds):List D->Ds->Prop|[],ds=>e.nx ds|x::xs,ds=>g x ds λds1=>t {e with nx:=Db g t e xs,ct:=Db g t e xs,bk:=e.nx} ds1
def whN(qc:VTT)(t:VTS)(e:VEnds):Nat->Ds->Prop|0,_=>False|n+1,ds=>qc ds (λb ds1=>if b=true then t {e with nx:=whN qc t e n,ct:=whN qc t e n,bk:=e.nx} ds1 else e.nx ds1) e.xe
def qaL2(qc:VTT)(t:VTS):VTS:=λe ds=>∃n,whN qc t e n ds
section
variable{c:Vc}{X:Cx}{a b e tg:Lb}{body:List Lc}{g:VTG}{t:VTS}{te:VT}{qc:VTT}{pos:Pos}
theorem ql9(d:VG c X tg g)(e:VSs c X body t){en b:VEnds}(a:en.Le b):∀(xs:List D) ds,Db g t en xs ds->Db g t b xs ds|[],ds=>a.nx ds|x::xs,ds=>d.m _ _ _ _ λf=>e.m _ _ _ ⟨ql9 d e a xs,a.rt,a.nx,ql9 d e a xs,a.xe⟩
theorem qQ5{cd:Lb}(e:VTe c X cd qc)(f:VSs c X body t){en d:VEnds}(a:en.Le d):∀(n:Nat) ds,whN qc t en n ds->whN qc t d n ds|0,ds=>id|n+1,ds=>e.m _ _ _ _ _ (λb g=>qO7 (f.m _ _ _ ⟨qQ5 e f a n,a.rt,a.nx,qQ5 e f a n,a.xe⟩) (a.nx _)) a.xe
theorem qaw3(r:PassesOwn (K7 X.prog X.w) X.A X.env X.xe)(g:VTe c X cd qc)(o:VSs c X body t):VS c X (.While cd body [] pos) (qaL2 qc t):=by refine⟨PS.mono (qaD0 r g.h o.h) λE σ H i=>?_,λd s e u ⟨n,q⟩=>⟨n,qQ5 g o u n e q⟩⟩;obtain⟨F,e,A,d,S,l,n,q⟩:=i;refine⟨λm σ H=>∃F e A,Pd c F H σ e A/\Lk c E F H A d/\whN qc t d m e,⟨n,F,e,A,S,l,q⟩,?_⟩;rintro m σ H ⟨F,e,A,S,l,q⟩;cases m with|zero=>exact q.elim|succ m=>refine⟨F,e,A,d.xe,S,l.xe,g.m _ _ _ _ _ (λb j q H1 F1 A1 S1 p=>?_) (λ_ _ z=>z) q⟩;cases b with|false=>rw[if_neg ∅] at q ⊢;exact l.nx _ _ _ _ _ q S1 p|true=>rw[if_pos rfl] at q ⊢;have f:=l.step p;refine⟨λσ' H'=>∃F' a A',Pd c F' H' σ' a A'/\Lk c E F' H' A' d/\whN qc t d m a,λσ' H' h=>⟨m,⋯,h⟩,F1,j,A1,{d with nx:=whN qc t d m,ct:=whN qc t d m,bk:=d.nx},S1,⟨?_,f.rt,f.nx,?_,f.xe⟩,q⟩;{exact λa σ' H' F' A' q S' k=>⟨F',a,A',S',f.step k,q⟩};exact λa σ' H' F' A' q S' k=>⟨F',a,A',S',f.step k,q⟩
theorem qL5{N:St->Hp->Prop}{b:Ds->Prop}(i:VG c X tg g)(S:Pd c F H σ ds A)(l:Lk c E F H A en)(r:Pa F H x y [])(h:∀a σ' H' F' A',b a->Pd c F' H' σ' a A'->Pc F H A F' H' A'->N σ' H')(q:g y ds λds1=>t {en with nx:=b,ct:=b,bk:=en.nx} ds1):Fa c g x σ H λσ2 H2=>Ez c t {E with nx:=N,ct:=N,bk:=E.nx} σ2 H2:=by refine⟨F,ds,A,[],y,r,S,S.ok,i.m _ _ _ _ (λds1 q σ1 H1 F1 A1 S1 d=>?_) q⟩;have e:=l.step d;exact⟨F1,ds1,A1,{en with nx:=b,ct:=b,bk:=en.nx},S1,⟨λa σ' H' F' A' q S' f=>h a σ' H' F' A' q S' (Pc.trans d f),e.rt,e.nx,λa σ' H' F' A' q S' f=>h a σ' H' F' A' q S' (Pc.trans d f),e.xe⟩,q⟩
noncomputable def D.lstOf:D->Option Ds|.l _ ys=>some ys|_=>none
theorem qr7{d:D}(h:d.lstOf=some ys):∃z,d=.l z ys:=by cases d with|l z a=>cases h;exact⟨z,rfl⟩|_=>cases h
theorem qJ7:∀{ys:List D}{i:Nat}{y:D},D.imms ys=true->ys[i]?=some y->y.imm=true
 |[],i,y,_,h=>by simp at h|d::r,0,y,hm,h=>by
  have:d=y:=by simpa using h
  subst this;exact(zAm.mp hm).1
 |d::r,i+1,y,hm,h=>qJ7 (zAm.mp hm).2 (by simpa using h)
theorem qj0{xs:List α}(h:xs[i]?=some x):xs.drop i=x::xs.drop (i+1):=by obtain⟨a,rfl⟩:=zA4.mp h;exact zCi a
def sForL(te:VT)(g:VTG)(t:VTS):VTS:=λe ds=>te ds (λd ds1=>orF d.lstOf λys=>D.imms ys=true/\Db g t e ys ds1) e.xe
theorem Ft(hp:PassesOwn (K7 X.prog X.w) X.A X.env X.xe)(hi:VE c X e te)(G:VG c X tg g)(Q:VSs c X body t)(R:X.calm=true:=by rfl)(I:∀v,Km e X.env v=pure v:=by intro _;rfl):VS c X (.For tg e body [] pos) (sForL te g t):=by
 refine⟨PS.mono (Iv hp R (qx0 hi.h) G.h Q.h I) λE σ H J=>?_,λs a0 k U=>hi.m _ _ _ _ _ (λd n=>qa4 λu=>N7 (ql9 G Q U u n)) U.xe⟩;obtain⟨F,k,A,s,S,l,q⟩:=J;refine⟨F,k,A,s.xe,S,l.xe,hi.m _ _ _ _ _ (λd n q v H1 F1 T A1 V S1 o1 s1=>?_) (λ_ _ z=>z) q⟩;obtain⟨u,ey,hm,qf⟩:=qa7.mp q;obtain⟨z,rfl⟩:=qr7 ey;obtain⟨a,C,Ael,rfl,j,rs,_⟩:=V.lst_inv;have L:Pc F H A F1 H1 A1:=s1.count λb=>by rw[zA0];lia
 refine⟨a,rfl,⟨C,.inl (.inl j)⟩,qam6 (K:=X.K) (a:=a) (xs:=C) (λi σ H=>∃F k A,Pd c F H σ k A/\Lk c E F H A s/\Pa F H (.ref a) (.l z u) T/\H a=some (.l C)/\Ok F H (T++A)/\Db g t s (u.drop i) k) ⟨F1,n,A1,S1,l.step L,V,j,o1,qf⟩ ?_ ?_ ?_⟩;{rintro i σ H _ ⟨F,k,A,S,l,r,j,o,q⟩;exact .inl (.inl j)}
 .rintro i x σ H hx ⟨F,k,A,S,l,r,j,o,q⟩;obtain⟨a',a1,Ael',ea,p,M,_⟩:=r.lst_inv;cases ea;rw[j] at p;cases p;obtain⟨y,B,W,Y⟩:=M.getV hx;have:=Y.imm (qJ7 hm W);subst this;rw[qj0 W] at q;refine qL5 G S l Y (λN σ' H' F' A' q' S' O=>?_) q;have D:=O.kp S.ok S.loc.cells;have Z:∀b∈T,¬(A.count b≠0):=λb hb R=>by have:=o.sep b;rw[zA0] at this;have:=qb1.mp hb;lia
  have r':=r.keep D Z;obtain⟨o',_⟩:=O.frame o r.cells S'.ok;have P:H' a=some (.l C):=by cases r with|l h _=>exact D.fr _ _ j (Z _ zAf)|lstZ h f _=>exact D.fr _ _ j λw=>D.wf _ w f
  exact⟨F',N,A',S',l.step O,r',P,o',q'⟩
 rintro σ H ⟨F,k,A,S,l,r,j,o,q⟩;rw[rs.len,Mr] at q;exact l.nx _ _ _ _ _ q S Pc.refl
noncomputable def Ee(lo:Int)(n:Nat):List D:=(Lr n).map λ(i:Nat)=>.int (lo+(i:Int))
theorem qaw9(h:i<n):(Ee lo n)[i]?=some (.int (lo+(i:Int))):=by unfold Ee;rw[zB7,List.getElem?_range h];rfl
theorem qaL4(lo:Int)(n:Nat):(Ee lo n).length=n:=by simp[Ee]
noncomputable def Gz(i:Int):Bool:=decide (-(2 ^ 62)<=i)&&decide (i<2 ^ 62)
theorem qaF2{i:Int}(h:Gz i=true):-(2 ^ 62)<=i/\i<2 ^ 62:=by have:=zAm.mp h;exact⟨zAi this.1,zAi this.2⟩
theorem qaS2(d:VG c X tg g)(S:Pd c F H σ ds A)(l:Lk c E F H A en)(q:Db g t en (Ee lo n) ds):∃W:Nat->Nat->St->Hp->Prop,(∃m,W 0 m σ H)/\∀i m σ H,W i m σ H->((Itr lo n).stop i H/\E.nx σ H)∨((Itr lo n).go i H/\∃N:St->Hp->Prop,(∀σ' H',N σ' H'->∃b,b<m/\W (i+1) b σ' H')/\∀x H',(Itr lo n).yld i H x H'->Fa c g x σ H' λσ2 H2=>Ez c t {E with nx:=N,ct:=N,bk:=E.nx} σ2 H2):=by refine qat0 (λi σ H=>∃F ds A,Pd c F H σ ds A/\Lk c E F H A en/\Db g t en ((Ee lo n).drop i) ds) ⟨F,ds,A,S,l,q⟩ ?_ ?_;{rintro i σ H e ⟨F,ds,A,S,l,q⟩;rw[qj0 (qaw9 e)] at q;exact qL5 d S l (.int _) (λa σ' H' F' A' f S' h=>⟨F',a,A',S',l.step h,f⟩) q};rintro σ H ⟨F,ds,A,S,l,q⟩;rw[zCa (by rw[qaL4];exact zA3 _)] at q;exact l.nx _ _ _ _ _ q S Pc.refl
noncomputable def one1:Ds->Option Int|[.int j]=>some j|_=>none
theorem qaO8{xs:Ds}{j:Int}(h:one1 xs=some j):xs=[.int j]:=by unfold one1 at h;split at h;{cases h;rfl};cases h
def qaq0(tr:VTA)(g:VTG)(t:VTS):VTS:=λe ds=>tr ds (λxs ds1=>orF (one1 xs) λj=>Gz j=true/\Db g t e (Ee 0 j.toNat) ds1) e.xe
theorem qS2(s:PassesOwn (K7 X.prog X.w) X.A X.env X.xe)(hm:X.mg "range"=none)(d:VOs c X [a] tr)(e:VG c X tg g)(k:VSs c X body t)(f:Gl X "range" := by rfl)(u:Kj [a] X.env=[(false,eval a X.env)]:=by rfl)(x:X.calm=true:=by rfl):VS c X (.For tg (.Call (.Name "range" p) [a] [] cpos) body [] pos) (qaq0 tr g t):=by refine⟨PS.mono (Iv s x (qaq6 f hm d.h u) e.h k.h) λE σ H i=>?_,λn y o r=>d.m _ _ _ _ _ (λB b=>qa4 λj=>N7 (ql9 e k r _ b)) r.xe⟩;obtain⟨F,o,A,n,S,l,q⟩:=i;refine⟨F,o,A,n.xe,S,l.xe,d.m _ _ _ _ _ (λB b q K H1 F1 T A1 C S1 D=>?_) (λ_ _ z=>z) q⟩;obtain⟨j,G,hm,I⟩:=qa7.mp q;cases qaO8 G;obtain⟨v,rfl,J⟩:=C.one_inv;cases J;have:=qaF2 hm;exact⟨j,rfl,this.1,this.2,qaS2 e S1 (l.step D) I⟩
def tFzV(te:VT):VT:=λds Q xe=>te ds (λd ds1=>Q d.fz ds1) xe
theorem Gn(h:VE c X e te):VE c X e (tFzV te):=by refine⟨PE.mono h.h λσ H Q a=>?_,λi Q Q' j n o p=>h.m _ _ _ _ _ (λd g=>o _ _) p⟩;obtain⟨F,i,A,j,S,x,q⟩:=a;refine⟨F,i,A,j,S,x,h.m _ _ _ _ _ (λd g q v H1 F1 T A1 k S1 r s=>?_) (λ_ _ z=>z) q⟩;have t:=k.fz (F':=λb=>F1 b∨b∈T) (λb f=>.inl f) λb u=>.inr u;obtain⟨l,w⟩:=share (A:=T++A1) (B:=T) (C:=A1) r (λb=>by rw[zA0]) k.cells (A':=A1) (λb=>rfl);have L:=S1.loc.keep (Kp.more (H:=H1) λb f=>O1 (b:=b∈T) f) λ_ _ z=>z;exact q v H1 _ [] A1 t ⟨L,l,S1.len,S1.ag⟩ l (s.trans w)
end
def bk1(i:Nat)(p:List Nat)(w:V)(d0:D)(ds:Ds):Option Ds:=Aq [.pl i p w] [d0] ds
def Hj(i:Nat)(p:List Nat)(w:V)(d0:D)(e:VEnds):VEnds where
 nx ds:=orF (bk1 i p w d0 ds) e.nx
 rt d ds:=orF (bk1 i p w d0 ds) (e.rt d)
 bk ds:=orF (bk1 i p w d0 ds) e.bk
 ct ds:=orF (bk1 i p w d0 ds) e.ct
 xe x ds:=orF (bk1 i p w d0 ds) (e.xe x)
section
variable{c:Vc}{X:Cx}{a b e tg o:Lb}{body:List Lc}{g:VTG}{t:VTS}{pos:Pos}{pf:PF}{F F1:γ->Prop}{H H1:Hp}{σ:St}{ds ds1:Ds}{A A1 B:List γ}{E:Dn}{en:VEnds}
theorem qt9{a:Ds}(f:Ok F1 H1 (B++A1))(S1:Pd c F1 H1 σ ds1 A1)(r:Pa F1 H1 w d0 B)(S':Pd c F' H' σ' a A')(s':Pc F1 H1 A1 F' H' A')(h:bk1 i p w d0 a=some d):∃A2,Pd c F' H' σ' d A2/\Ok F' H' (B++A')/\Pc F1 H1 (B++A1) F' H' (B++A')/\∀b,A2.count b<=B.count b+A'.count b:=by
 obtain⟨g,j⟩:=s'.frame f r.cells S'.ok;have k:Pa F' H' w d0 B:=r.keep (s'.kp S1.ok S1.loc.cells) λb l e=>by have:=f.sep b;rw[zA0] at this;have:=qb1.mp l;lia
 obtain⟨A2,m,q2⟩:=qu3 (pls:=[.pl i p w]) (vs:=[w]) (more:=[]) (ys:=[d0]) (.so .nil) (.cons k .nil) S'.loc h;have e:∀b,A2.count b<=B.count b+A'.count b:=λb=>by have:=q2 b;simp only[zAd] at this;exact this
 exact⟨A2,⟨m,g.count λb=>by rw[zA0];exact e b,S'.len,S'.ag⟩,g,j,e⟩
theorem Lk.lend{p:List Nat}{d0:D}(l:Lk c E F H A en)(k:Pc F H A F1 H1 (B++A1))(j:Ok F1 H1 (B++A1))(S1:Pd c F1 H1 σ ds1 A1)(r:Pa F1 H1 w d0 B):Lk c E F1 H1 A1 (Hj i p w d0 en) where
 nx ds' σ' H' F' A' q S' s':=by
  obtain⟨a,f,q⟩:=qa7.mp q;obtain⟨A2,S2,n,h,g⟩:=qt9 j S1 r S' s' f;exact l.nx _ _ _ _ A2 q S2 ((k.trans h).count λb=>by rw[zA0];exact g b)
 bk ds' σ' H' F' A' q S' s':=by
  obtain⟨a,f,q⟩:=qa7.mp q;obtain⟨A2,S2,n,h,g⟩:=qt9 j S1 r S' s' f;exact l.bk _ _ _ _ A2 q S2 ((k.trans h).count λb=>by rw[zA0];exact g b)
 ct ds' σ' H' F' A' q S' s':=by
  obtain⟨a,f,q⟩:=qa7.mp q;obtain⟨A2,S2,n,h,g⟩:=qt9 j S1 r S' s' f;exact l.ct _ _ _ _ A2 q S2 ((k.trans h).count λb=>by rw[zA0];exact g b)
 xe x ds' σ' e H' F' A' q rx S' s':=by
  obtain⟨a,f,q⟩:=qa7.mp q;obtain⟨A2,S2,n,h,g⟩:=qt9 j S1 r S' s' f;exact l.xe x a σ' e H' F' A2 q rx S2 ((k.trans h).count λb=>by rw[zA0];exact g b)
 rt d ds' v σ' H' F' T A' q rv S' oT s':=by
  obtain⟨a,f,q⟩:=qa7.mp q;have o:Pc F1 H1 A1 F' H' A':=s'.count λb=>by rw[zA0];lia
  obtain⟨A2,S2,n,h,g⟩:=qt9 j S1 r S' o f;obtain⟨s,t⟩:=s'.frame j r.cells oT;have m:∀b,(T++A2).count b<=(B++(T++A')).count b:=λb=>by simp only[zA0];have:=g b;lia
  exact l.rt d a v σ' H' F' T A2 q rv S2 (s.count m) ((k.trans t).count m)
theorem qaQ1{a:VEnds}(b:en.Le a):(Hj i p w d0 en).Le (Hj i p w d0 a):=⟨λc=>qa4 b.nx,λd c=>qa4 (b.rt d),λc=>qa4 b.bk,λc=>qa4 b.ct,λx c=>qa4 (b.xe x)⟩
structure Held(F:γ->Prop)(H:Hp)(a:γ)(vs:List V)(z:Bool)(ys:Ds)(T A:List γ):Prop where
 r:Pa F H (.ref a) (.l z ys) T
 h:H a=some (.l vs)
 o:Ok F H (T++A)
theorem Held.step{a:γ}{e:Ds}(h:Held F H a vs z ys T A)(S:Pd c F H σ ds A)(S':Pd c F' H' σ' e A')(s':Pc F H A F' H' A'):Held F' H' a vs z ys T A':=by
 obtain⟨r,g,o⟩:=h;have d:=s'.kp S.ok S.loc.cells;have i:∀b∈T,¬(A.count b≠0):=λb j k=>by have:=o.sep b;rw[zA0] at this;have:=qb1.mp j;lia
 refine⟨r.keep d i,?_,(s'.frame o r.cells S'.ok).1⟩;cases r with|l h _=>exact d.fr _ _ g (i _ zAf)|lstZ h f _=>exact d.fr _ _ g λw=>d.wf _ w f
theorem Held.get{a:γ}(h:Held F H a vs z ys T A)(hm:D.imms ys=true)(f:vs[i]?=some x):∃y,ys[i]?=some y/\Pa F H x y []:=by obtain⟨k,g,Ael',j,b,c,_⟩:=h.r.lst_inv;cases j;have:=h.h;rw[b] at this;cases this;obtain⟨y,B,d,e⟩:=c.getV f;have:=e.imm (qJ7 hm d);subst this;exact⟨y,d,e⟩
theorem Held.len{a:γ}(h:Held F H a vs z ys T A):vs.length=ys.length:=by obtain⟨f,d,Ael',e,b,c,_⟩:=h.r.lst_inv;cases e;have:=h.h;rw[b] at this;cases this;exact c.len
theorem qU7{a:γ}(j:VG c X tg g)(S:Pd c F H σ ds A)(l:Lk c E F H A en)(b:Held F H a vs z ys T A)(hm:D.imms ys=true)(q:Db g t en ys ds):∃W:Nat->Nat->St->Hp->Prop,(∃m,W 0 m σ H)/\∀i m σ H,W i m σ H->((Itl K a).stop i H/\E.nx σ H)∨((Itl K a).go i H/\∃N:St->Hp->Prop,(∀σ' H',N σ' H'->∃e,e<m/\W (i+1) e σ' H')/\∀x H',(Itl K a).yld i H x H'->Fa c g x σ H' λσ2 H2=>Ez c t {E with nx:=N,ct:=N,bk:=E.nx} σ2 H2):=by refine qam6 (xs:=vs) (λi σ H=>∃F ds A,Pd c F H σ ds A/\Lk c E F H A en/\Held F H a vs z ys T A/\Db g t en (ys.drop i) ds) ⟨F,ds,A,S,l,b,q⟩ ?_ ?_ ?_;{rintro i σ H _ ⟨F,ds,A,S,l,b,q⟩;exact .inl (.inl b.h)};{rintro i x σ H k ⟨F,ds,A,S,l,b,q⟩;obtain⟨y,n,o⟩:=b.get hm k;rw[qj0 n] at q;exact qL5 j S l o (λd σ' H' F' A' p S' f=>⟨F',d,A',S',l.step f,b.step S S' f,p⟩) q};rintro σ H ⟨F,ds,A,S,l,b,q⟩;rw[b.len,Mr] at q;exact l.nx _ _ _ _ _ q S Pc.refl
def sForP(pf:PF)(g:VTG)(t:VTS):VTS:=λe ds=>orF (pf ds) λq=>orF (Bc ds q.1 q.2) λd=>orF d.lstOf λys=>D.imms ys=true/\∀w,Db g t (Hj q.1 q.2 w d e) ys (Bj ds q.1 q.2 (.hole w))
theorem sforP(J:PassesOwn (K7 X.prog X.w) X.A X.env X.xe)(hi:VP c X o pf)(j:VG c X tg g)(y:VSs c X body t)(K:X.calm=true:=by rfl)(k:∀v,Km o X.env v=pure v:=by intro _;rfl):VS c X (.For tg o body [] pos) (sForP pf g t):=by
 refine⟨PS.mono (Iv J K (qx0 hi.h) j.h y.h k) λE σ H m=>?_,λL M n N=>qa4 λq=>qa4 λd=>qa4 λO=>N7 λh w=>ql9 j y (qaQ1 N) _ _ (h w)⟩;obtain⟨F,n,A,L,S,l,q⟩:=m;obtain⟨⟨i,p⟩,P,q⟩:=qa7.mp q;obtain⟨d,e2,q⟩:=qa7.mp q;obtain⟨O,Q,R,q⟩:=qa7.mp q;obtain⟨z,rfl⟩:=qr7 Q;refine⟨F,n,A,i,p,_,S,P,e2,D.noConfusion,λu w H1 T U s=>?_⟩;obtain⟨B,C,r,G,V⟩:=(S.same s).place e2 D.noConfusion T U;obtain⟨A1,W,q2⟩:=V (.hole w) [] (Kp.same (F:=F) λ_ _ z=>z) (λ_ _ z=>z) (.hole w);have x:Ok F H1 (B++A1):=(S.same s).ok.count λb=>by rw[zA0,q2,G];simp
 have Y:Pc F H A F H1 (B++A1):=⟨λb o e _=>s b o e,λb o e z=>by rw[zA0,q2];have:=G b;simp;lia,λ_ f=>f,λ_ _ _ _ f=>f⟩;have S1:Pd c F H1 σ (Bj n i p (.hole w)) A1:=⟨W,x.right,S.len,S.ag⟩;obtain⟨a,Z,Ael,rfl,I,rs,_⟩:=r.lst_inv;exact⟨a,rfl,⟨Z,.inl (.inl I)⟩,qU7 j S1 (l.lend Y x S1 r) ⟨r,I,x⟩ R (q _)⟩
noncomputable def enD(ys:Ds):List D:=ys.zipIdx.map λp=>.q [.int (p.2:Int),p.1]
theorem qaH8(h:ys[i]?=some y):(enD ys)[i]?=some (.q [.int (i:Int),y]):=by unfold enD;rw[zB7,List.getElem?_zipIdx,h];simp
theorem qad5(ys:Ds):(enD ys).length=ys.length:=by simp[enD]
end
noncomputable def fin(W:Nat->Bool):Nat->Ds->Ds->Ds|k,d::r,d'::r'=>(if W k=true then d' else d)::fin W (k+1) r r'|_,_,_=>[]
noncomputable def G0(W:Nat->Bool):Nat->Ds->Bool|_,[]=>true|k,d::r=>(W k||d.imm)&&G0 W (k+1) r
def qat7(W:Nat->Bool)(ds:Ds)(Q:DK)(xe:XKd):VEnds where
 nx ds':=Q .non (fin W 0 ds ds')
 rt d ds':=Q d (fin W 0 ds ds')
 bk _:=False
 ct _:=False
 xe x ds':=xe x (fin W 0 ds ds')
section
variable{F F':γ->Prop}{H H':Hp}
theorem qbb0(q:Kp F H Wr F' H'):∀{vs:List V}{ds:Ds}{A:List γ}{k:Nat}{w':List (Option V)}{a:Ds}{A':List γ},O4 F H vs ds A->G0 W k ds=true->Locs F' H' w' a A'->vs.length<=w'.length->(∀i,i<vs.length->W (k+i)=true->w'[i]?=(vs.map some)[i]?)->∃A2,O4 F' H' vs (fin W k ds a) A2/\∀b,A2.count b<=A'.count b:=by
 intro vs;induction vs with
 |nil=>intro ds A k w' a A' r g L n l;cases r;exact⟨[],by cases a<;>exact .nil,λb=>by simp⟩|cons v vs s=>
  intro ds A k w' a A' r g L n l;cases r with
  |@cons _ d B _ ds B2 r1 t=>
   have g:=zAm.mp g;have step:∀{σ2:List (Option V)}{f:Ds}{A2:List γ}(o:Option V),w'=o::σ2->Locs F' H' σ2 f A2->∃A3,O4 F' H' vs (fin W (k+1) ds f) A3/\∀b,A3.count b<=A2.count b:=λ{σ2 f A2} o e L2=>by subst e;refine s t g.2 L2 (by simpa using n) λi j c=>?_;have:=l (i+1) (by simpa using j) (by rw[<-c];congr 1;lia);simpa using this
   cases L with
   |nil=>simp at n|no L2=>
    obtain⟨A3,m,q2⟩:=step none rfl L2;by_cases c:W k=true;{have:=l 0 (by simp) (by simpa using c);simp at this};have j:d.imm=true:=by rcases Bool.or_eq_true_iff.mp g.1 with h|h;{exact absurd h c};exact h
    have:=r1.imm j;subst this;refine⟨[]++A3,?_,λb=>by simpa using q2 b⟩;show O4 F' H' (v::vs) ((if W k=true then _ else d)::_) _;rw[if_neg c];exact .cons (r1.keep q λb p=>by cases p) m
   |@so v' d' B' σ2 f A2 rr L2=>
    obtain⟨A3,m,q2⟩:=step (some v') rfl L2;by_cases c:W k=true;{have:=l 0 (by simp) (by simpa using c);simp at this;subst this;refine⟨B'++A3,?_,λb=>by simp only[zA0];have:=q2 b;lia⟩;show O4 F' H' (v'::vs) ((if W k=true then d' else d)::_) _;rw[if_pos c];exact .cons rr m};have j:d.imm=true:=by rcases Bool.or_eq_true_iff.mp g.1 with h|h;{exact absurd h c};exact h
    have:=r1.imm j;subst this;refine⟨[]++A3,?_,λb=>by simp only[zAz,zA0];have:=q2 b;lia⟩;show O4 F' H' (v::vs) ((if W k=true then d' else d)::_) _;rw[if_neg c];exact .cons (r1.keep q λb p=>by cases p) m
theorem O4.locs(r:O4 F H vs ds A):Locs F H (vs.map some) ds A:=by induction vs generalizing ds A with|nil=>cases r;exact .nil|cons v vs a=>cases r with|cons h t=>exact .so h (a t)
theorem qJ2:∀n:Nat,Locs F H (Ls n none) (Ls n .u) []|0=>.nil|n+1=>.no (qJ2 n)
end
structure FunE(K:Oa)(x qual:Str)(st:Lc)(f:γ)(fd:ε):Prop where
 ex:∃(oc:V')(od:Option γ)(dV kV doc pm:V')(an:Option γ)(cdv ct:V')(osl:Array (Option V')),
  fd=W.fnOf x qual (qg1 st) (qe1 st) (qa3 st) dV kV doc pm an cdv ct/\K.lookup f=some ⟨oc,od,.func fd,osl⟩/\W.codeIn K cdv qual=true
theorem FunE.of(F:Fun K x qual st f fd):FunE K x qual st f fd :=
 by obtain⟨g,h,kV,a,i,j,b,k,c,e,l,d⟩:=F.ex;exact⟨⟨g,h,.none,kV,a,i,j,b,k,c,e,l,d⟩⟩
theorem FunE.okX{P:K8}{w:La}(F:FunE K x qual st f fd)(S:qa8 N ps (qa3 st))(len:∀vs H Q E,sp vs H Q E->vs.length=ps.length)(hbody:∀(a:V')(A:K9)(outer:List Env)(s:δ)(H:Hp)(vs:List V)(Q:VK)(E:XK),Pe cm k (A.deeper (PyProof.Rows.envOfC qual (qa3 st) s.heap.objs.size f a))->sp vs H Q E->∃t,PSs (Et cm (CX1 P w) P w K mg base N qual (qa3 st) f a A outer s H E) (qe1 st) t/\t {nx:=λ_ H'=>Q .non H',rt:=Q} (L2.start N vs) H):D9 cm P w K mg base (CX1 P w) (k+1) f fd ps sp:=by obtain⟨i,j,l,kV,d,m,n,a,o,e,rfl,g,b⟩:=F.ex;exact Iz g b S len λA outer s H vs Q E h c=>hbody a A outer s H vs Q E h c
theorem VFn.mkE{P:K8}{w:La}(Fu:FunE K x qual st f fd)(Sc:qa8 N ps (qa3 st))(W:Nat->Bool)(G:Bo s)(j:∀ds Q xe,s ds Q xe->ds.length=ps.length)(n:∀ds Q xe,s ds Q xe->G0 W 0 ds=true)(hbody:∀(g:V')(A:K9)(outer:List Env)(B:δ)(H:Hp)(E:XK)(av:List (Option V)),Pe cm k (A.deeper (PyProof.Rows.envOfC qual (qa3 st) B.heap.objs.size f g))->∃t,VSs ⟨λ_=>E,W,av,[]⟩ (Et cm (CX1 P w) P w K mg base N qual (qa3 st) f g A outer B H E) (qe1 st) t/\∀ds Q xe,s ds Q xe->t (qat7 W ds Q xe) (ds++Ls (N.length-ds.length) .u)):Eu cm P w K mg base (k+1) f fd ps s:=by
 refine⟨Fu.okX Sc (λl H Q E ⟨F,ds,A,r,o,h⟩=>by rw[r.len];exact j _ _ _ h) λg Ar outer B H l Q E I C=>?_,G⟩;obtain⟨F,ds,A,r,o,h⟩:=C;obtain⟨t,J,L⟩:=hbody g Ar outer B H E (L2.start N l) I;have X:=j _ _ _ h;have M:=n _ _ _ h;have Y:ps.length<=N.length:=by have:=congrArg Lv Sc.pre;rw[zB5] at this;lia
 have L0:Locs F H (L2.start N l++[]) (ds++Ls (N.length-ds.length) .u) A:=by rw[zAd];unfold L2.start;rw[r.len];have:=r.locs.append (qJ2 (F:=F) (H:=H) (N.length-ds.length));rwa[zAd] at this
 have S0:Pd ⟨λ_=>E,W,L2.start N l,[]⟩ F H (L2.start N l) (ds++Ls (N.length-ds.length) .u) A:=⟨L0,o,by simp,λi _=>by simp⟩;have m:∀{Z':St}{H':Hp}{F':γ->Prop}{a:Ds}{A' A2:List γ},Pd ⟨λ_=>E,W,L2.start N l,[]⟩ F' H' Z' a A'->Pc F H A F' H' A2->∃A3,O4 F' H' l (fin W 0 ds a) A3/\∀b,A3.count b<=A'.count b:=λ{Z' H' F' a A' A2} S' c=>by have hlen':=S'.len;simp only[zAd] at hlen';refine qbb0 (c.kp o r.cells) r M (by have:=S'.loc;simpa using this) ?_ λi D O=>?_;{rw[<-hlen'];unfold L2.start;simp};have:=S'.ag i (by simpa using O);simp only[zAd] at this;rw[this];show (L2.start N l)[i]?=_;unfold L2.start;rw[zAj (by simpa using D)]
 refine⟨_,J.h,F,_,A,qat7 W ds _ _,S0,⟨?_,?_,λ_ _ _ _ _ z=>Oz z,λ_ _ _ _ _ z=>Oz z,?_⟩,L _ _ _ h⟩
 .intro a Z' H' F' A' q S' c;obtain⟨A3,p,q2⟩:=m S' c;have u:∀b,([]++A3).count b<=A'.count b:=λb=>by simpa using q2 b
  exact q .non H' F' [] A3 .non p (S'.ok.count u) (c.count u)
 .intro d a v Z' H' F' T A' q R S' S c;obtain⟨A3,p,q2⟩:=m S' c;have u:∀b,(T++A3).count b<=(T++A').count b:=λb=>by simp only[zA0];have:=q2 b;lia
  exact q v H' F' T A3 R p (S.count u) (c.count u)
 intro y a Z' e H' F' A' q U S' c;obtain⟨A3,p,q2⟩:=m S' c;exact q e H' F' A3 U p (S'.ok.count q2) (c.count q2)
theorem VFn.mk'{P:K8}{w:La}(Fu:Fun K x qual st f fd)(Sc:qa8 N ps (qa3 st))(W:Nat->Bool)(e:Bo s)(a:∀ds Q xe,s ds Q xe->ds.length=ps.length)(b:∀ds Q xe,s ds Q xe->G0 W 0 ds=true)(hbody:∀(c:V')(A:K9)(outer:List Env)(d:δ)(H:Hp)(E:XK)(av:List (Option V)),Pe cm k (A.deeper (PyProof.Rows.envOfC qual (qa3 st) d.heap.objs.size f c))->∃t,VSs ⟨λ_=>E,W,av,[]⟩ (Et cm (CX1 P w) P w K mg base N qual (qa3 st) f c A outer d H E) (qe1 st) t/\∀ds Q xe,s ds Q xe->t (qat7 W ds Q xe) (ds++Ls (N.length-ds.length) .u)):Eu cm P w K mg base (k+1) f fd ps s:=VFn.mkE (FunE.of Fu) Sc W e a b hbody
def B8:List (Option Nat)->Ds->Ds×Ds|[],ds=>([],ds)|none::r,ds=>(.u::(B8 r ds).1,(B8 r ds).2)|some j::r,ds=>((ds[j]?).getD .u::(B8 r (ds.set j .u)).1,(B8 r (ds.set j .u)).2)
def Fe:List (Option Nat)->Ds->Ds->Ds|none::r,_::i,o=>Fe r i o|some j::r,d::i,o=>Fe r i (o.set j d)|_,_,o=>o
def Dp(g:VTG)(qf:VTT)(te:VT)(K:Ds->Ds->Prop):List D->Ds->Ds->Prop|[],acc,a=>K acc a|x::xs,acc,a=>g x a λι1=>qf ι1 (λb ι2=>if b=true then te ι2 (λd ι3=>acc.length<big/\Dp g qf te K xs (acc++[d]) ι3) (λ_ _=>False) else Dp g qf te K xs acc ι2) (λ_ _=>False)
noncomputable def capW(src:List (Option Nat)):Nat->Bool:=λi=>match src[i]? with|some (some _)=>true|_=>false
abbrev cIn(src:List (Option Nat))(av:List (Option V)):Vc:=⟨λ_ _ _ _=>False,capW src,av,[]⟩
structure VF(c:Vc)(X:Cx)(ifs:List Lb)(t:VTT):Prop where
 h:PFs X ifs (Eb c t)
 m:∀ds (Q Q':Bool->Ds->Prop) (xe xe':XKd),(∀d ds',Q d ds'->Q' d ds')->(∀x ds',xe x ds'->xe' x ds')->t ds Q xe->t ds Q' xe'
def qYes:VTT:=λds Q _=>Q true ds
theorem Ec:VF c X [] qYes:=⟨λD8 s f H Q I ⟨F,a,A,b,S,x,q⟩=>qaN1 D8 s f H Q I (q H F A S Pc.refl),λa Q Q' b d e _=>e _ _⟩
theorem Eo(h:VTe c X e t):VF c X [e] t:=⟨qaW6 h.h,h.m⟩
section
variable{F F':γ->Prop}{H H':Hp}
theorem qae8:∀{src:List (Option Nat)}{J a:List (Option V)}{ds:Ds}{A:List γ},Locs F H (J++a) ds A->(∀j,some j∈src->j<J.length)->∃Ai Ao,Locs F H (Dv J src) (B8 src ds).1 Ai/\Locs F H (J++a) (B8 src ds).2 Ao/\∀b,A.count b=Ai.count b+Ao.count b
 |[],J,a,ds,A,L,_=>⟨[],A,.nil,L,λb=>by simp⟩|none::r,J,a,ds,A,L,h=>by obtain⟨Ai,Ao,f,q2,g⟩:=qae8 (src:=r) L λj c=>h j (zA9 _ c);exact⟨Ai,Ao,.no f,q2,g⟩|some j::r,J,a,ds,A,L,h=>by
  have c:=h j zAf;have t:=L.len;rw[zA8] at t;obtain⟨z,e⟩:∃d,ds[j]?=some d:=⟨_,zB2 ⋯⟩;obtain⟨σ1,o,σ2,i,k,A1,B,A2,m,e2,u,w,x,n,p,q⟩:=L.split e;have s:(J++a)[j]?=some o:=by rw[m];exact qC4 u
  rw[zAj c] at s;have y:ds.set j .u=i++.u::k:=by have:=congrArg (λl=>l.set j .u) e2;rw[this,qp1 w]
  have L':Locs F H (J++a) (ds.set j .u) (A1++A2):=by rw[m,y];cases p with|no=>exact n.append (.no q)|@so v _ _ _=>exact n.append (.so (B:=[]) (.u v) q)
  obtain⟨Ai,Ao,f,q2,g⟩:=qae8 (src:=r) L' λj c=>h j (zA9 _ c);refine⟨B++Ai,Ao,?_,q2,λb=>by rw[x];have:=g b;simp only[zA0] at *;lia⟩;show Locs F H (((J[j]?).getD none)::Dv J r) ((ds[j]?).getD .u::_) _;rw[s,e];exact Locs.cons p f
theorem qP0:∀{src:List (Option Nat)}{J c J':List (Option V)}{K o:Ds}{Ai Ao:List γ},Locs F H J' K Ai->Locs F H (J++c) o Ao->(∀j,some j∈src->j<J.length)->(∀(i j:Nat),src[i]?=some (some j)->J'[i]?=some ((J[j]?).getD none))->J'.length=src.length->∃A',Locs F H (J++c) (Fe src K o) A'/\∀b,A'.count b<=Ai.count b+Ao.count b
 |[],J,c,J',K,o,Ai,Ao,L,Lo,_,_,_=>⟨Ao,by cases K<;>exact Lo,λb=>⋯⟩|none::r,J,c,J',K,o,Ai,Ao,L,Lo,h,k,f=>by cases L with|nil=>simp at f|no L2=>obtain⟨A',g,q2⟩:=qP0 (src:=r) L2 Lo (λj a=>h j (zA9 _ a)) (λi j e=>by simpa using k (i+1) j (by simpa using e)) (by simpa using f);exact⟨A',g,q2⟩|so w L2=>obtain⟨A',g,q2⟩:=qP0 (src:=r) L2 Lo (λj a=>h j (zA9 _ a)) (λi j e=>by simpa using k (i+1) j (by simpa using e)) (by simpa using f);exact⟨A',g,λb=>by rw[zA0];have:=q2 b;lia⟩
 |some j::r,J,c,J',K,o,Ai,Ao,L,Lo,h,k,f=>by
  have a:=h j zAf;have m:=Lo.len;rw[zA8] at m;obtain⟨G,n⟩:∃d,o[j]?=some d:=⟨_,zB2 ⋯⟩;obtain⟨σ1,p,σ2,q,s,A1,B,A2,t,e2,D,E,x,y,I,z⟩:=Lo.split n;have A:(J++c)[j]?=some p:=by rw[t];exact qC4 D
  rw[zAj a] at A;have u:=k 0 j rfl;rw[A] at u;have C:∀d,o.set j d=q++d::s:=λd=>by have:=congrArg (λl=>l.set j d) e2;rw[this,qp1 E]
  cases L with
  |nil=>simp at f|no L2=>
   have:p=none:=by simpa using u.symm
   subst this;have Lo':Locs F H (J++c) (o.set j .u) (A1++A2):=by rw[t,C];exact y.append (.no z)
   obtain⟨A',g,q2⟩:=qP0 (src:=r) L2 Lo' (λj a=>h j (zA9 _ a)) (λi j e=>by simpa using k (i+1) j (by simpa using e)) (by simpa using f);exact⟨A',g,λb=>by rw[x];have:=q2 b;simp only[zA0] at *;lia⟩
  |@so v d Bv _ _ _ w L2=>
   have:p=some v:=by simpa using u.symm
   subst this;have Lo':Locs F H (J++c) (o.set j d) (A1++(Bv++A2)):=by rw[t,C];exact y.append (.so w z)
   obtain⟨A',g,q2⟩:=qP0 (src:=r) L2 Lo' (λj a=>h j (zA9 _ a)) (λi j e=>by simpa using k (i+1) j (by simpa using e)) (by simpa using f);exact⟨A',g,λb=>by rw[x];have:=q2 b;simp only[zA0] at *;lia⟩
theorem qaD3(J:St)(src:List (Option Nat)):(Dv J src).length=src.length:=by simp[Dv]
theorem qaD4(h:src[i]?=some (some j)):(Dv J src)[i]?=some ((J[j]?).getD none):=by unfold Dv;rw[zB7,h];rfl
structure Jq(Pp:(γ->Prop)->Hp->Prop)(T:List γ):Prop where
 keep:∀{F F':γ->Prop}{H H':Hp}{W:γ->Prop},Kp F H W F' H'->(∀b∈T,¬W b)->Pp F H->Pp F' H'
 cells:∀{F:γ->Prop}{H:Hp},Pp F H->∀b∈T,∃o,H b=some o/\Ed o=true
end
section
variable{c:Vc}{F F':γ->Prop}{H H':Hp}{J:(γ->Prop)->Hp->Prop}{τ:List (Option V)}{o:Ds}{G:γ}{I:Ds}{T A A' K:List γ}{E:St}{ds:Ds}
noncomputable def Tot(B T Ao A:List γ):List γ:=B++(T++(Ao++A))
theorem qy4(st:Jq J T)(r:Pa F H (.ref G) (.l false I) B)(g:J F H)(L:Locs F H τ o Ao)(h:Ok F H (Tot B T Ao A))(S:Pd c F H E ds A)(s:Pc F H A F' H' A')(o':Ok F' H' A'):Pa F' H' (.ref G) (.l false I) B/\J F' H'/\Locs F' H' τ o Ao/\Ok F' H' (Tot B T Ao A')/\Pc F H (Tot B T Ao A) F' H' (Tot B T Ao A'):=by
 unfold Tot at *
 have f:=s.kp S.ok S.loc.cells;have i:∀b,(B++(T++(Ao++A))).count b=((B++(T++Ao))++A).count b:=λb=>by simp only[zA0];lia
 have d:∀b,b∈B∨b∈T∨b∈Ao->¬(A.count b≠0):=λb a j=>by have:=h.sep b;simp only[zA0] at this;rcases a with a|a|a<;>have:=qb1.mp a<;>lia
 have k:∀b∈B++(T++Ao),∃o,H b=some o/\Ed o=true:=λb a=>by rcases zA6.mp a with a|a;{exact r.cells b a};rcases zA6.mp a with a|a;{exact st.cells g b a};exact L.cells b a
 obtain⟨l,m⟩:=s.frame (T:=B++(T++Ao)) (h.count λb=>by rw[i];exact zA3 _) k o';have e:∀b,(B++(T++(Ao++A'))).count b=((B++(T++Ao))++A').count b:=λb=>by simp only[zA0];lia
 exact⟨r.keep f λb a=>d b (.inl a),st.keep f (λb a=>d b (.inr (.inl a))) g,L.keep f λb a=>d b (.inr (.inr a)),l.count λb=>by rw[e];exact zA3 _,(m.pre λb=>by rw[i]).count λb=>by rw[e];exact zA3 _⟩
theorem qaE1(st:Jq J T)(r:Pa F H (.ref G) (.l false I) B)(p:J F H)(L:Locs F H τ o Ao)(S:Pd c F H E ds A)(q:Pa F H v d K)(h:Ok F H (Tot B T Ao (K++A))):∃vs B',H G=some (.l vs)/\vs.length=I.length/\Pa F (upd H G (.l (vs++[v]))) (.ref G) (.l false (I++[d])) B'/\J F (upd H G (.l (vs++[v])))/\Locs F (upd H G (.l (vs++[v]))) τ o Ao/\Pd c F (upd H G (.l (vs++[v]))) E ds A/\Ok F (upd H G (.l (vs++[v]))) (Tot B' T Ao A)/\Pc F H (Tot B T Ao (K++A)) F (upd H G (.l (vs++[v]))) (Tot B' T Ao A):=by
 unfold Tot at *
 obtain⟨a,vs,Ael,s,j,l,rfl⟩:=qB8 r;cases s;have t:=h.sep G;simp only[zA0,zAr,zBc,if_true] at t;have m:¬F G:=λf=>by have:=h.fro G f;simp only[zA0,zAr,zBc,if_true] at this;lia
 have k:=qQ4 (F:=F) (o':=.l (vs++[v])) j rfl m;have i:∀X:List γ,X.count G=0->∀b∈X,¬b=G:=λX y b C w=>by subst w;exact(qb1.mp C) y
 have g:∀b,(G::(Ael++(K++[]))++(T++(Ao++A))).count b<=(G::Ael++(T++(Ao++(K++A)))).count b:=λb=>by simp only[zA0,zAr,L7];lia
 have n:∀b,F b->∃o,upd H G (.l (vs++[v])) b=some o:=λb f=>by obtain⟨x,e⟩:=h.ex b f;exact⟨x,by rw[qd6 (show b≠G from λw=>m (w ▸ f))];exact e⟩
 refine⟨vs,G::(Ael++(K++[])),j,l.len,?_,st.keep k (i T ⋯) p,L.keep k (i Ao ⋯),⟨S.loc.keep k (i A ⋯),⟨S.ok.sep,S.ok.fro,n⟩,S.len,S.ag⟩,⟨λb=>zAl (g b) (h.sep b),λb f=>by have:=h.fro b f;have:=g b;lia,n⟩,λb u e z=>?_,λb u e z=>by have:=g b;lia,λ_ f=>f,λ_ _ _ _ f=>f⟩;{exact .l qc6 ((l.append (.cons q .nil)).keep k (i _ (by simp only[zA0,L7];lia)))};rw[qd6 λw=>?_];{exact e};subst w;simp only[zA0,zAr,zBc,if_true] at z;lia
end
def qt8(src:List (Option Nat))(g:VTG):TG:=λv a H Q=>∃av,Fa (cIn src av) g v a H Q
def qt7(src:List (Option Nat))(q:VTT):TT:=λa H Q=>∃av,Eb (cIn src av) q a H Q
def B9(src:List (Option Nat))(t:VT):TE:=λa H Q=>∃av,Bm (cIn src av) t a H Q
structure Blk(X:Cx)(NY:List Str)(sc:Scope)(src:List (Option Nat))(tg:Lb)(ifs:List Lb)(elt:Lb)(g:VTG)(qf:VTT)(te:VT):Prop where
 g:∀av C s0 H0 ex,VG (cIn src av) (qm2 X NY sc C s0 H0 ex) tg g
 f:∀av C s0 H0 ex,VF (cIn src av) (qm2 X NY sc C s0 H0 ex) ifs qf
 e:∀av C s0 H0 ex,VE (cIn src av) (qm2 X NY sc C s0 H0 ex) elt te
 lt:∀D8 a H s,Pb X D8 a H s->∀j,some j∈src->j<a.length
section
variable{c:Vc}{X:Cx}{NY:List Str}{sc:Scope}{src:List (Option Nat)}{tg elt e:Lb}{ifs:List Lb}{g:VTG}{qf:VTT}{te:VT}
theorem Blk.pg(b:Blk X NY sc src tg ifs elt g qf te):∀C a H0 ex,PG (qm2 X NY sc C a H0 ex) tg (qt8 src g):=λC a H0 ex D8 s Y H v u Q I r ⟨c,q⟩=>(b.g c C a H0 ex).h D8 s Y H v u Q I r q
theorem Blk.pf(b:Blk X NY sc src tg ifs elt g qf te):∀C a H0 ex,PFs (qm2 X NY sc C a H0 ex) ifs (qt7 src qf):=λC a H0 ex D8 s Y H Q I ⟨c,q⟩=>(b.f c C a H0 ex).h D8 s Y H Q I q
theorem Blk.pe(b:Blk X NY sc src tg ifs elt g qf te):∀C a H0 ex,PE (qm2 X NY sc C a H0 ex) elt (B9 src te):=λC a H0 ex D8 s Y H Q I ⟨c,q⟩=>(b.e c C a H0 ex).h D8 s Y H Q I q
theorem Blk.gm(b:Blk X NY sc src tg ifs elt g qf te):∀d ds (Q Q':Ds->Prop),(∀a,Q a->Q' a)->g d ds Q->g d ds Q':=(b.g [] 0 {} (λ_=>none) []).m
theorem Blk.fm(b:Blk X NY sc src tg ifs elt g qf te):∀ds (Q Q':Bool->Ds->Prop) (xe c:XKd),(∀d a,Q d a->Q' d a)->(∀x a,xe x a->c x a)->qf ds Q xe->qf ds Q' c:=(b.f [] 0 {} (λ_=>none) []).m
theorem Blk.em(b:Blk X NY sc src tg ifs elt g qf te):∀ds (Q Q':DK) (xe c:XKd),(∀d a,Q d a->Q' d a)->(∀x a,xe x a->c x a)->te ds Q xe->te ds Q' c:=(b.e [] 0 {} (λ_=>none) []).m
theorem qm3(b:Blk X NY sc src tg ifs elt g qf te){K K':Ds->Ds->Prop}(h:∀acc Z,K acc Z->K' acc Z):∀(xs:List D) acc Z,Dp g qf te K xs acc Z->Dp g qf te K' xs acc Z|[],acc,Z=>h acc Z|x::xs,acc,Z=>b.gm _ _ _ _ λι1=>b.fm _ _ _ _ _ (λk ι2=>qO7 (b.em _ _ _ _ _ (λd ι3=>N7 (qm3 b h xs _ _)) λ_ _ z=>z) (qm3 b h xs _ _)) λ_ _ z=>z
variable{F F0:γ->Prop}{H H0:Hp}{Pp:(γ->Prop)->Hp->Prop}{τ:List (Option V)}{o0:Ds}{Dd:γ}{acc:Ds}{T A A0:List γ}{Y:St}{ds Z:Ds}{av:List (Option V)}{K:Ds->Ds->Prop}
def Mid(src:List (Option Nat))(av:List (Option V))(Pp:(γ->Prop)->Hp->Prop)(T:List γ)(τ:List (Option V))(o0:Ds)(Dd:γ)(F0:γ->Prop)(H0:Hp)(A0:List γ)(g:VTG)(qf:VTT)(te:VT)(K:Ds->Ds->Prop)(xs:List D)(Y:St)(H:Hp):Prop:=∃F Z A acc B Ao,Pd (cIn src av) F H Y Z A/\Pa F H (.ref Dd) (.l false acc) B/\Pp F H/\Locs F H τ o0 Ao/\Ok F H (Tot B T Ao A)/\Pc F0 H0 A0 F H (Tot B T Ao A)/\Dp g qf te K xs acc Z
theorem qK9(b:Blk X NY sc src tg ifs elt g qf te)(st:Jq Pp T)(S:Pd (cIn src av) F H Y Z A)(r:Pa F H (.ref Dd) (.l false acc) B)(t:Pp F H)(L:Locs F H τ o0 Ao)(u:Ok F H (Tot B T Ao A))(p:Pc F0 H0 A0 F H (Tot B T Ao A))(w:Pa F H x y [])(q:Dp g qf te K (y::xs) acc Z):qt8 src g x Y H λσ2 H2=>qt7 src qf σ2 H2 λh H3=>if h=true then B9 src te σ2 H3 λv H4=>∃ys,H4 Dd=some (.l ys)/\ys.length<Kk/\Mid src av Pp T τ o0 Dd F0 H0 A0 g qf te K xs σ2 (upd H4 Dd (.l (ys++[v]))) else Mid src av Pp T τ o0 Dd F0 H0 A0 g qf te K xs σ2 H3:=by have a:∀(F:γ->Prop)(H:Hp)(A:List γ),Xc (cIn src av) (λ_ _=>False) F H A:=λF H A x C Y' e H' F' A' z=>z.elim;refine⟨av,F,Z,A,[],y,w,S,S.ok,b.gm _ _ _ _ (λι1 q σ1 H1 F1 A1 S1 E=>?_) q⟩;obtain⟨G,i,L1,j,t1⟩:=qy4 st r t L u S (show Pc F H A F1 H1 A1 from E) S1.ok;refine⟨av,F1,ι1,A1,_,S1,a _ _ _,b.fm _ _ _ _ _ (λk ι2 q H2 F2 A2 S2 I=>?_) (λ_ _ z=>z) q⟩;obtain⟨s,c,L2,f,t2⟩:=qy4 st G i L1 j S1 I S2.ok;cases k with|false=>rw[if_neg ∅] at q ⊢;exact⟨F2,ι2,A2,acc,B,Ao,S2,s,c,L2,f,(p.trans t1).trans t2,q⟩|true=>rw[if_pos rfl] at q ⊢;refine⟨av,F2,ι2,A2,_,S2,a _ _ _,b.em _ _ _ _ _ (λd ι3 q v H3 F3 Tv A3 J S3 M N=>?_) (λ_ _ z=>z) q⟩;obtain⟨O,l,L3,m,P⟩:=qy4 st s c L2 f S2 N M;obtain⟨Q,B',R,e2,U,n,L4,S4,o,W⟩:=qaE1 st O l L3 S3 J m;exact⟨Q,R,by rw[e2];exact zAk q.1 qj8,F3,ι3,A3,acc++[d],B',Ao,S4,U,n,L4,o,((p.trans t1).trans t2).trans (P.trans W),q.2⟩
theorem qL0(f:∀j,some j∈src->j<Y.length)(S:Pd c F H Y ds A)(n:Ok F H (T++A))(l:Pp F H)(st:Jq Pp T)(h:H Dd=none)(q:Dp g qf te K xs [] (B8 src ds).1):Mid src (Dv Y src) Pp T (Y++c.gv) (B8 src ds).2 Dd F H (T++A) g qf te K xs (Dv Y src) (upd H Dd (.l [])):=by
 obtain⟨Ai,Ao,o,q2,p⟩:=qae8 S.loc f;have a:=Same.new (u:=.l []) h;have r:=Kp.same (F:=F) a;have okN:Ok F (upd H Dd (.l [])) ([Dd]++(T++A)):=(qi2 h).ok n (λb d=>by rcases zA6.mp d with d|d;{exact st.cells l b d};exact S.loc.cells b d) a;have m:∀b,(Tot [Dd] T Ao Ai).count b=([Dd]++(T++A)).count b:=λb=>by unfold Tot;simp only[zA0,p];lia
 have e:Ok F (upd H Dd (.l [])) (Tot [Dd] T Ao Ai):=okN.count λb=>by rw[m];exact zA3 _
 have k:Ok F (upd H Dd (.l [])) Ai:=e.count λb=>by unfold Tot;simp only[zA0];lia
 refine⟨F,_,Ai,[],[Dd],Ao,⟨by rw[zAd];exact o.same a,k,by simp,λi _=>by simp⟩,.l qc6 .nil,st.keep r (λ_ _=>id) l,q2.same a,e,((qi2 h).stp a).count λb=>by rw[m];exact zA3 _,q⟩
theorem qL1(d:∀j,some j∈src->j<Y.length)(S:Pd c Fz Hz Y ds Az)(m:Mid src (Dv Y src) Pp T (Y++c.gv) o0 Dd F0 H0 A0 g qf te (λacc Z'=>∀v H' F' B A',Pa F' H' v (.l false acc) B->Pd c F' H' Y (Fe src Z' o0) A'->Pp F' H'->Ok F' H' (B++(T++A'))->Pc F0 H0 A0 F' H' (B++(T++A'))->Q v H') [] Y' H'):Q (.ref Dd) H':=by
 obtain⟨F,Z,A,acc,B,Ao,S1,r,k,L,l,s,q⟩:=m;have a:=S1.len;simp only[zAd] at a;obtain⟨A',n,o⟩:=qP0 (src:=src) (by have:=S1.loc;simpa using this) L d (λi j e=>by have:=S1.ag i (by show capW src i=true;unfold capW;rw[e]);simp only[zAd] at this;rw[this];exact qaD4 e) (by rw[<-a,qaD3]);have f:∀b,(B++(T++A')).count b<=(Tot B T Ao A).count b:=λb=>by unfold Tot;simp only[zA0];have:=o b;lia
 have h:=l.count f;exact q (.ref Dd) H' F B A' r ⟨n,h.right.right,S.len,S.ag⟩ k h (s.count f)
theorem qm8{a:γ}{ys:Ds}{T:List γ}:Jq (λF H=>Pa F H (.ref a) (.l z ys) T/\H a=some (.l vs)) T where
 keep:=λ{F F' H H' W} k h p=>by
  refine⟨p.1.keep k h,?_⟩;cases p.1 with
  |l _ _=>exact k.fr _ _ p.2 (h _ zAf)
  |lstZ _ f _=>exact k.fr _ _ p.2 λw=>k.wf _ w f
 cells:=λp=>p.1.cells
theorem qaG9(r:Pa F H (.ref a) (.l z ys) T)(h:H a=some (.l vs))(hm:D.imms ys=true)(f:vs[i]?=some x):∃y,ys[i]?=some y/\Pa F H x y []:=by obtain⟨k,g,Ael',j,b,c,_⟩:=r.lst_inv;cases j;rw[h] at b;cases b;obtain⟨y,B,d,e⟩:=c.getV f;have:=e.imm (qJ7 hm d);subst this;exact⟨y,d,e⟩
theorem qaF7(r:Pa F H (.ref a) (.l z ys) T)(h:H a=some (.l vs)):vs.length=ys.length:=by obtain⟨f,d,Ael',e,b,c,_⟩:=r.lst_inv;cases e;rw[h] at b;cases b;exact c.len
theorem qQ6{Q:Hp->Prop}(b:Blk X NY sc src tg ifs elt g qf te)(hm:D.imms ys=true)(m:Mid src av (λF H=>Pa F H (.ref a) (.l z ys) T/\H a=some (.l vs)) T τ o0 Dd F0 H0 A0 g qf te K ys Y' H)(f:∀σ2 H2,Mid src av (λF H=>Pa F H (.ref a) (.l z ys) T/\H a=some (.l vs)) T τ o0 Dd F0 H0 A0 g qf te K [] σ2 H2->Q H2):qD1 (Itl K' a) (qt8 src g) (qt7 src qf) (B9 src te) Dd Q Y' H:=by obtain⟨_,_,_,_,_,_,_,_,c,_⟩:=id m;have d:=qaF7 c.1 c.2;refine qZ6 (xs:=vs) (λi Y H=>Mid src av (λF H=>Pa F H (.ref a) (.l z ys) T/\H a=some (.l vs)) T τ o0 Dd F0 H0 A0 g qf te K (ys.drop i) Y H) m ?_ ?_ ?_;{rintro i Y H _ ⟨_,_,_,_,_,_,_,_,e,_⟩;exact .inl (.inl e.2)};{rintro i x Y H h ⟨F,Z,A,j,B,Ao,S1,r,e,L,k,s,q⟩;obtain⟨y,l,n⟩:=qaG9 e.1 e.2 hm h;rw[qj0 l] at q;exact qK9 b qm8 S1 r e L k s n q};intro Y H m;rw[d,Mr] at m;exact f _ _ m
theorem qao9{Q:Hp->Prop}(b:Blk X NY sc src tg ifs elt g qf te)(hm:D.imms ys=true)(m:Mid src av (λF H=>Pa F H (.ref a) (.l z ys) T/\H a=some (.l vs)) T τ o0 Dd F0 H0 A0 g qf te K (enD ys) Y' H)(o:∀σ2 H2,Mid src av (λF H=>Pa F H (.ref a) (.l z ys) T/\H a=some (.l vs)) T τ o0 Dd F0 H0 A0 g qf te K [] σ2 H2->Q H2):qD1 (Ite K' a) (qt8 src g) (qt7 src qf) (B9 src te) Dd Q Y' H:=by obtain⟨_,_,_,_,_,_,_,_,c,_⟩:=id m;have d:=qaF7 c.1 c.2;refine qau3 (xs:=vs) (λi Y H=>Mid src av (λF H=>Pa F H (.ref a) (.l z ys) T/\H a=some (.l vs)) T τ o0 Dd F0 H0 A0 g qf te K ((enD ys).drop i) Y H) m ?_ ?_ ?_;{rintro i Y H _ ⟨_,_,_,_,_,_,_,_,e,_⟩;exact .inl (.inl e.2)};{rintro i x Y H n p ⟨F,Z,A,t,B,Ao,S1,r,e,L,v,s,q⟩ f;obtain⟨y,w,C⟩:=qaG9 e.1 e.2 hm p;rw[qj0 (qaH8 w)] at q;have h:=Same.new (u:=.q [.int (i:Int),x]) f;have j:Pa F (upd H n (.q [.int (i:Int),x])) (.ref n) (.q [.int (i:Int),y]) []:=qO0 f (.cons (A:=[]) (B:=[]) (.int _) (.cons (A:=[]) (B:=[]) C .nil));obtain⟨E,k,L1,l,t1⟩:=qy4 qm8 r e L v S1 (Pc.same h) (S1.ok.same h);exact qK9 b qm8 (S1.same h) E k L1 l (s.trans t1) j q};intro Y H m;rw[zCa (by rw[qad5,d];exact zA3 _)] at m;exact o _ _ m
end
def Imp(c:Vc)(X:Cx)(t:VT)(tc:TE):Prop:=∀D8 s a H Q,Pb X D8 a H s->Bm c t a H Q->tc a H Q
def Go(t:VT):Prop:=∀ds (Q Q':DK) (xe xe':XKd),(∀d a,Q d a->Q' d a)->(∀x a,xe x a->xe' x a)->t ds Q xe->t ds Q' xe'
section
variable{c:Vc}{X:Cx}{NY:List Str}{sc:Scope}{src:List (Option Nat)}{tg elt e o:Lb}{ifs:List Lb}{g:VTG}{qf:VTT}{te t0:VT}{pf:PF}
theorem Jr(h:PE X e tc)(i:Imp c X t tc)(m:Go t):VE c X e t:=⟨λD8 s σ H Q I q=>h D8 s σ H Q I (i D8 s σ H Q I q),m⟩
theorem qaJ4(h:PS X (.Assign [.Name x px] e spos) (Hq tc (E7 i)))(j:Imp c X t tc)(m:Go t)(k:c.W i=false)(hi:X.N[i]?=some x):VS c X (.Assign [.Name x px] e spos) (El t (gNm i)):=by refine⟨λD8 s σ H E I q=>h D8 s σ H E I (j D8 s σ H _ I ?_),λb n f g=>m _ _ _ _ _ (λd a=>g.nx _) g.xe⟩;obtain⟨F,f,A,b,S,l,q⟩:=q;refine⟨F,f,A,b.xe,S,l.xe,m _ _ _ _ _ (λd a q v H' F' T A' r S' o p=>?_) (λ_ _ z=>z) q⟩;obtain⟨A2,S2,u⟩:=S'.store k (qr6 hi D8 σ H s I) r o;exact l.nx _ _ H' F' A2 q S2 (p.trans u)
def Hk(src:List (Option Nat))(g:VTG)(qf:VTT)(te:VT)(ys:List D):Ds->DK->Prop:=λds1 Q=>Dp g qf te (λacc ι'=>Q (.l false acc) (Fe src ι' (B8 src ds1).2)) ys [] (B8 src ds1).1
theorem qL6(b:Blk X NY sc src tg ifs elt g qf te){Q:DK}(h:∀d a,Q d a->Q' d a):Hk src g qf te ys ds1 Q->Hk src g qf te ys ds1 Q':=qm3 b (λc ι=>h _ _) _ _ _
def tCL(src:List (Option Nat))(t0:VT)(g:VTG)(qf:VTT)(te:VT):VT:=λds Q xe=>t0 ds (λd ds1=>orF d.lstOf λys=>D.imms ys=true/\Hk src g qf te ys ds1 Q) xe
theorem qaf2(b:Blk X NY sc src tg ifs elt g qf te)(hi:VE c X e t0):Go (tCL src t0 g qf te):=λj Q Q' k a f h=>hi.m _ _ _ _ _ (λd i=>qa4 λl=>N7 (qL6 b f)) h
theorem qaR2(b:Blk X NY sc src tg ifs elt g qf te)(hi:VE c X e t0):Imp c X (tCL src t0 g qf te) (Eh (G5 K (Bm c t0)) src (qt8 src g) (qt7 src qf) (B9 src te)):=by rintro D8 s σ H Q I ⟨F,k,A,l,S,x,q⟩;have f:=b.lt D8 σ H s I;refine⟨F,k,A,l,S,x,hi.m _ _ _ _ _ (λd n q v H1 F1 T A1 i S1 o p=>?_) (λ_ _ z=>z) q⟩;obtain⟨E,t,u,h⟩:=qa7.mp q;obtain⟨z,rfl⟩:=qr7 t;obtain⟨a,w,Ael,rfl,j,G,_⟩:=i.lst_inv;refine⟨a,rfl,⟨w,.inl (.inl j)⟩,λDd y=>qQ6 b u (qL0 f S1 o ⟨i,j⟩ qm8 y (qm3 b (λC ι q v H' F' B A' r S' _ D s=>q v H' F' B A' r S' (D.count λb=>by simp only[zA0];lia) ((p.trans s).count λb=>by simp only[zA0];lia)) _ _ _ h)) λσ2 H2 m=>qL1 f S1 m⟩
def tCPx(en:Ds->List D)(src:List (Option Nat))(pf:PF)(g:VTG)(qf:VTT)(te:VT):VT:=λds Q xe=>orF (pf ds) λq=>orF (Bc ds q.1 q.2) λd=>orF d.lstOf λys=>D.imms ys=true/\∀w,Dp g qf te (λacc ι'=>orF (bk1 q.1 q.2 w d (Fe src ι' (B8 src (Bj ds q.1 q.2 (.hole w))).2)) λa=>Q (.l false acc) a) (en ys) [] (B8 src (Bj ds q.1 q.2 (.hole w))).1
theorem qap2(b:Blk X NY sc src tg ifs elt g qf te):Go (tCPx en src pf g qf te):=λf Q Q' i a c j=>qa4 λq=>qa4 λd=>qa4 λk=>N7 λh w=>qm3 b (λe ι=>qa4 λz=>c _ _) _ _ _ (h w)
theorem qaT2{J:γ->It}(b:Blk X NY sc src tg ifs elt g qf te)(M:∀{a:γ}{vs:List V}{z:Bool}{ys:Ds}{T:List γ}{τ:List (Option V)}{o0:Ds}{Dd:γ}{F0:γ->Prop}{H0 H:Hp}{A0:List γ}{K0:Ds->Ds->Prop}{av:List (Option V)}{Q:Hp->Prop}{σ':St},D.imms ys=true->Mid src av (λF H=>Pa F H (.ref a) (.l z ys) T/\H a=some (.l vs)) T τ o0 Dd F0 H0 A0 g qf te K0 (en ys) σ' H->(∀σ2 H2,Mid src av (λF H=>Pa F H (.ref a) (.l z ys) T/\H a=some (.l vs)) T τ o0 Dd F0 H0 A0 g qf te K0 [] σ2 H2->Q H2)->qD1 (J a) (qt8 src g) (qt7 src qf) (B9 src te) Dd Q σ' H)(j:∀σ H R,Gf c pf σ H (λx H1=>∃a,x=.ref a/\(∃xs,SqL K H1 a xs)/\R (J a) H1)->wi σ H R):Imp c X (tCPx en src pf g qf te) (Eh wi src (qt8 src g) (qt7 src qf) (B9 src te)):=by
 rintro D8 s σ H Q I ⟨F,t,A,xe,S,x,q⟩;have h:=b.lt D8 σ H s I;refine j σ H _ ?_;obtain⟨⟨i,p⟩,N,q⟩:=qa7.mp q;obtain⟨d,e2,q⟩:=qa7.mp q;obtain⟨ys,O,P,q⟩:=qa7.mp q;obtain⟨z,rfl⟩:=qr7 O;refine⟨F,t,A,i,p,_,S,N,e2,D.noConfusion,λu w H1 U k l=>?_⟩;obtain⟨B,C,r,y,Y⟩:=(S.same l).place e2 D.noConfusion U k;obtain⟨A1,Z,q2⟩:=Y (.hole w) [] (Kp.same (F:=F) λ_ _ z=>z) (λ_ _ z=>z) (.hole w);have E:Ok F H1 (B++A1):=(S.same l).ok.count λb=>by rw[zA0,q2,y];simp
 have s1:Pc F H A F H1 (B++A1):=⟨λb o e _=>l b o e,λb o e z=>by rw[zA0,q2];have:=y b;simp;lia,λ_ f=>f,λ_ _ _ _ f=>f⟩;have S1:Pd c F H1 σ (Bj t i p (.hole w)) A1:=⟨Z,E.right,S.len,S.ag⟩;obtain⟨a,vs,Ael,rfl,G,rs,_⟩:=r.lst_inv;refine⟨a,rfl,⟨vs,.inl (.inl G)⟩,λDd hD=>M P (qL0 h S1 E ⟨r,G⟩ qm8 hD (qm3 b (λa0 ι q v H' F' B' A' rv S' hp L s=>?_) _ _ _ (q (.ref a)))) λσ2 H2 m=>qL1 h S1 m⟩;obtain⟨a1,eb,q⟩:=qa7.mp q;obtain⟨A2,k1,k2⟩:=qu3 (pls:=[.pl i p (.ref a)]) (vs:=[.ref a]) (more:=[]) (ys:=[.l z ys]) (.so .nil) (.cons hp.1 .nil) S'.loc eb;have n:∀b,(B'++A2).count b<=(B'++(B++A')).count b:=λb=>by have:=k2 b;simp only[zAd,zA0] at *;lia
 exact q v H' F' B' A2 rv ⟨k1,(L.count n).right,S.len,S.ag⟩ (L.count n) ((s1.trans s).count n)
theorem qba4(b:Blk X NY sc src tg ifs elt g qf te):Imp c X (tCPx (λys=>ys) src pf g qf te) (Eh (G5 K (Gf c pf)) src (qt8 src g) (qt7 src qf) (B9 src te)):=qaT2 (K:=K) (J:=Itl K) b (λa m d=>qQ6 b a m d) λσ H R h=>h
noncomputable def capOk(X:Cx)(src:List (Option Nat)):Bool:=src.all λo=>match o with|none=>true|some j=>decide (j<X.N.length)
theorem blk(b:∀av C a H0 ex,VG (cIn src av) (qm2 X NY sc C a H0 ex) tg g)(c:∀av C a H0 ex,VF (cIn src av) (qm2 X NY sc C a H0 ex) ifs qf)(d:∀av C a H0 ex,VE (cIn src av) (qm2 X NY sc C a H0 ex) elt te)(e:capOk X src=true:=by rfl):Blk X NY sc src tg ifs elt g qf te:=⟨b,c,d,λD8 σ H s I j f=>by
   have:=zBi.mp e _ f
   rw[I.len];exact zAi this⟩
end
section
variable{c:Vc}{X:Cx}{NY:List Str}{q:Scope}{src:List (Option Nat)}{t p n:Lb}{o:List Lb}{g:VTG}{u:VTT}{te v:VT}{r w s:Pos}{pf:PF}{x:Str}
theorem ecL(hi:VE c X n v)(bl:Blk X NY q src t o p g u te)(a:X.calm=true:=by rfl)(b:qw1 X NY src q=true:=by rfl)(d:∀x,Km n X.env x=pure x:=by intro _;rfl):VE c X (.ListComp p [⟨t,n,o,0⟩] q r) (tCL src v g u te):=Jr (qF9 NY src (qx0 hi.h) bl.pg bl.pf bl.pe a b d) (qaR2 bl hi) (qaf2 bl hi)
theorem ecP(hi:VP c X n pf)(bl:Blk X NY q src t o p g u te)(a:X.calm=true:=by rfl)(b:qw1 X NY src q=true:=by rfl)(d:∀x,Km n X.env x=pure x:=by intro _;rfl):VE c X (.ListComp p [⟨t,n,o,0⟩] q r) (tCPx (λys=>ys) src pf g u te):=Jr (qF9 NY src (qx0 hi.h) bl.pg bl.pf bl.pe a b d) (qba4 bl) (qap2 bl)
theorem scL(i:Nat)(e:X.N.Nodup)(hi:VE c X n v)(bl:Blk X NY q src t o p g u te)(f:c.W i=false:=by rfl)(a:X.N[i]?=some x:=by rfl)(j:Loc X.env.scope x:=by first|exact O1 rfl|exact O0 rfl)(k:X.calm=true:=by rfl)(l:qw1 X NY src q=true:=by rfl)(b:swapsWith (.ListComp p [⟨t,n,o,0⟩] q r) (some (.Name x w)) s.line X.env=pure true:=by rfl)(m:∀x,Km n X.env x=pure x:=by intro _;rfl)(d:X.fn x=true∨X.env.scope.names.lookup x=some .local:=by first|exact .inl rfl|exact .inr rfl|assumption):VS c X (.Assign [.Name x w] (.ListComp p [⟨t,n,o,0⟩] q r) s) (El (tCL src v g u te) (gNm i)):=qaJ4 (qax5 i NY src e (qx0 hi.h) bl.pg bl.pf bl.pe a j k l b m d) (qaR2 bl hi) (qaf2 bl hi) f a
end
section
variable{c:Vc}{X:Cx}{t:List Lb}{p:VTB}
def Js(p:VTB):VTA:=λds Q xe=>p ds (λxs _ ds1=>Q xs ds1) xe
theorem Ev(h:VAs c X t p):VOs c X t (Js p):=⟨PA.mono h.h λn H Q ⟨F,d,A,e,S,x,q⟩=>⟨F,d,A,e,S,x,h.m _ _ _ _ _ (λf g a q i H' F' T A' r _ S' o s=>q i H' F' T A' r S' (s.count λb=>by rw[zA0];lia)) (λ_ _ z=>z) q⟩,λd Q Q' e j k l=>h.m _ _ _ _ _ (λf g a=>k _ _) l⟩
end
structure Bg(x y z:Int)(ns:List Int):Prop where
 x0:0<=x
 y0:0<=y
 y1:y<2147483647
 z0:0<=z
 nn:∀n∈ns,0<=n
noncomputable def bagD(x y z:Int)(ns:List Int):D:=.l false [.int x,.int y,.int z,.l false (ns.map .int)]
def lawE:VEnds where
 nx _:=False
 rt d _:=d.asB=some true
 bk _:=False
 ct _:=False
 xe _ _:=False
theorem qas0{c:Vc}{X:Cx}{rest:List Lc}{t:VTS}{H:Hp}{E:Dn}{p L:γ}{x y z:Int}{ns:List Int}(e:c.av.length=2+n)(k:∀i,c.W i=false)(a:c.gv=[])(l:H p=some (.l [.int x,.int y,.int z,.ref L]))(m:H L=some (.l (ns.map V.int)))(o:L≠p)(s:∀H',E.rt (.bl true) H')(u:t lawE (.hole w::bagD x y z ns::Ls n .u)):Ez c t E (some w::some (.ref p)::Ls n none) H:=by
 have L0:Locs (λ_=>False) H (some w::some (.ref p)::Ls n none) (.hole w::bagD x y z ns::Ls n .u) ([]++((p::([]++([]++([]++((L::[])++[])))))++[])) :=
  .so (.hole w) (.so (.l l (.cons (.int x) (.cons (.int y) (.cons (.int z) (.cons (.l m (qI4 ns)) .nil))))) (qJ2 n))
 refine⟨λ_=>False,_,_,lawE,⟨by rw[a,zAd];exact L0,⟨λb=>?_,λb f=>f.elim,λb f=>f.elim⟩,by rw[a,e];simp;lia,λi h=>by rw[k i] at h;cases h⟩,⟨λ_ _ _ _ _ z=>Oz z,λd A v B' H' F' T A' q r _ _ _=>by rw[r.asB q];exact s H',λ_ _ _ _ _ z=>Oz z,λ_ _ _ _ _ z=>Oz z,λ_ _ _ _ _ _ _ z=>Oz z⟩,u⟩;simp only[zAz,zAd,zAr,L7];by_cases g:p=b;{subst g;simp[o]};by_cases j:L=b;{subst j;simp[g]};simp[g,j]
section
variable{c:Vc}{b d e o:Lb}{oa Z oc:Bool}{fa fb Y:FV}
def f3(g g':D->D->Option D)(fa fb Y:FV):FV:=λds=>(fa ds).bind λx=>(fb ds).bind λy=>(g x y).bind λz=>z.asB.bind λk=>if k=true then (Y ds).bind λu=>g' y u else some (.bl false)
theorem qaI6(h:Bb true r g)(h':Bb true l g'):∀X H Q,liftV c true (f3 g g' fa fb Y) X H Q->qaK2 r l (liftV c oa fa) (liftV c Z fb) (liftV c oc Y) X H Q:=by rintro X H Q ⟨F,f,A,d,S,e,q⟩;obtain⟨x,C,e⟩:=zA1.mp e;obtain⟨y,e2,e⟩:=zA1.mp e;obtain⟨z,E,e⟩:=zA1.mp e;obtain⟨k,G,e⟩:=zA1.mp e;refine⟨F,f,A,x,S,C,λv H1 B1 I m T=>⟨F,f,A,y,S.same m,e2,λw H2 B2 n p U=>?_⟩⟩;have i:=m.trans p;refine h F H2 v w x y _ z _ (F6 (I.same p) n) E λu H3 B3 J s V=>⟨k,J.asB G,?_⟩;have a:=i.trans s;cases k with|false=>rw[if_neg ∅] at e ⊢;cases e;exact q _ H3 [] (.bl _) a λ_=>New.nil|true=>rw[if_pos rfl] at e ⊢;obtain⟨t,K,L⟩:=zA1.mp e;refine⟨F,f,A,t,S.same a,K,λM H4 B4 N j W=>?_⟩;refine h' F H4 w M y t _ d Q (F6 ((n.same s).same j) N) L λO H5 B5 P R B=>q O H5 B5 P ((a.trans j).trans R) λ_=>⟨B.one,λb o e=>B.new b o (j b o (a b o e))⟩
end
section
variable{c:Vc}{X:Cx}{a b d e:Lb}{N:Pos}{R U T:Bool}{fa fb O:FV}
theorem vch{e:CmpOp}{i:R2}(j:OpR X (Kl op) r)(h:Bb true r g)(f:OpR X (Kl e) i)(h':Bb true i g')(k:VV c X a R fa)(l:VV c X b U fb)(m:VV c X d T O)(hm:lastMarks [op,e] [b,d]=false:=by with_unfolding_all rfl):VV c X (.Compare a [op,e] [b,d] N) true (f3 g g' fa fb O):=⟨PE.mono (qah6 j f k.h l.h m.h hm) (qaI6 h h')⟩
def Hl(x:D):Option D:=match x with|.l _ ys=>(intsD ys).bind λns=>gd (ns.length<=1000) (.int (qo1 ns))|_=>none
theorem vlenS(g:X.mg "len"=none)(i:X.mg "set"=none)(o:VV c X a R fa)(j:Gl X "len" := by rfl)(k:Gl X "set" := by rfl)(r:X.calm=true:=by rfl)(n:Kj [a] X.env=(false,eval a X.env)::Kj [] X.env:=by rfl)(l:((backTo cpos (Kj [] X.env)).any λx=>x.1)=false:=by rfl)(b:Kj [.Call (.Name "set" p2) [a] [] cpos] X.env=(false,eval (.Call (.Name "set" p2) [a] [] cpos) X.env)::Kj [] X.env:=by rfl)(f:((backTo N (Kj [] X.env)).any λx=>x.1)=false:=by rfl):VV c X (.Call (.Name "len" p) [.Call (.Name "set" p2) [a] [] cpos] [] N) true (f1 Hl fa):=by refine⟨PE.mono (cbi qau8 g (qc5 (cty (qau6 r) i (qc5 o.h ql4 n) k (by rfl) ∅ ∅ n l) ql4 b) j (by rfl) ∅ ∅ b f) λM H Q m=>?_⟩;obtain⟨F,s,A,d,S,e,q⟩:=m;obtain⟨x,t,e2⟩:=qaH6.mp e;cases x with|l z J=>obtain⟨u,w,y⟩:=zA1.mp e2;obtain⟨B,rfl⟩:=ql8 y;refine⟨F,s,A,_,S,t,λv H1 B1 C D K=>?_⟩;obtain⟨a,L,A2,rfl,E,G,_⟩:=C.lst_inv;cases G.intsD w;refine⟨a,u,rfl,.inl (.inl E),B,λp St I=>⟨p,St,_,rfl,qc6,?_⟩⟩;exact q _ _ [] (.int _) (D.trans (Same.new I)) λ_=>New.nil|_=>cases e2
def Dh(f:Ds->Option D):VSp:=λds Q _=>orF (f ds) λd=>Q d ds
theorem qy5:Bo (Dh f):=λa Q Q' e b c _=>qa4 λd=>c d a
noncomputable def wOf(l:List Bool)(i:Nat):Bool:=l.getD i false
end
section
variable{c:Vc}{X:Cx}{NY:List Str}{sc:Scope}{src:List (Option Nat)}{tg elt e o a b:Lb}{ifs:List Lb}{g:VTG}{qf:VTT}{te:VT}{pos px spos p0:Pos}{x xn:Str}
def G1(en:Ds->List D)(src:List (Option Nat))(i:Nat)(g:VTG)(qf:VTT)(te:VT):VT:=λds Q xe=>orF (rdN i ds) λd=>orF d.lstOf λys=>D.imms ys=true/\Dp g qf te (λacc ι'=>Q (.l false acc) ((Fe src ι' (B8 src (ds.set i .u)).2).set i d)) (en ys) [] (B8 src (ds.set i .u)).1
theorem qH3(bl:Blk X NY sc src tg ifs elt g qf te):Go (G1 en src i g qf te):=λe Q Q' f a b h=>qa4 λd=>qa4 λj=>N7 (qm3 bl (λc ι=>b _ _) _ _ _)
theorem qaA3{J:γ->It}(bl:Blk X NY sc src tg ifs elt g qf te)(E:X.N[i]?=some xn)(G:∀{a:γ}{vs:List V}{z:Bool}{ys:Ds}{T:List γ}{τ:List (Option V)}{o0:Ds}{Dd:γ}{F0:γ->Prop}{H0 H:Hp}{A0:List γ}{K0:Ds->Ds->Prop}{av:List (Option V)}{Q:Hp->Prop}{σ':St},D.imms ys=true->Mid src av (λF H=>Pa F H (.ref a) (.l z ys) T/\H a=some (.l vs)) T τ o0 Dd F0 H0 A0 g qf te K0 (en ys) σ' H->(∀σ2 H2,Mid src av (λF H=>Pa F H (.ref a) (.l z ys) T/\H a=some (.l vs)) T τ o0 Dd F0 H0 A0 g qf te K0 [] σ2 H2->Q H2)->qD1 (J a) (qt8 src g) (qt7 src qf) (B9 src te) Dd Q σ' H)(j:∀σ H R,F4 i σ H (λx H1=>∃a,x=.ref a/\(∃xs,SqL K H1 a xs)/\R (J a) H1)->wi σ H R):Imp c X (G1 en src i g qf te) (Eh wi src (qt8 src g) (qt7 src qf) (B9 src te)):=by
 rintro D8 s σ H Q I ⟨F,L,A,xe,S,x,q⟩;have h:=bl.lt D8 σ H s I;have M:=qr6 E D8 σ H s I;refine j σ H _ ?_;obtain⟨d,k,q⟩:=qa7.mp q;obtain⟨k,hk⟩:=qn3.mp k;obtain⟨ys,O,P,q⟩:=qa7.mp q;obtain⟨z,rfl⟩:=qr7 O;obtain⟨v,B,C,l,r,t,U⟩:=S.put1 k D.noConfusion;have n:=l;rw[zAj M] at l;obtain⟨A1,Y,q2⟩:=U .u [] (Kp.same (F:=F) λ_ _ z=>z) (λ_ _ z=>z) (.u v);have u:Ok F H (B++A1):=S.ok.count λb=>by rw[zA0,q2,t];simp
 have Z:Pc F H A F H (B++A1):=⟨λb o e _=>e,λb o e z=>by rw[zA0,q2];have:=t b;simp;lia,λ_ f=>f,λ_ _ _ _ f=>f⟩;have S1:Pd c F H σ (L.set i .u) A1:=⟨Y,u.right,S.len,S.ag⟩;obtain⟨a,vs,Ael,rfl,w,rs,_⟩:=r.lst_inv;refine⟨.ref a,l,a,rfl,⟨vs,.inl (.inl w)⟩,λDd hD=>G P (qL0 h S1 u ⟨r,w⟩ qm8 hD (qm3 bl (λa0 ι q v H' F' B' A' rv S' hp y s=>?_) _ _ _ q)) λσ2 H2 m=>qL1 h S1 m⟩;obtain⟨A2,k1,k2⟩:=qH7 S'.loc n hp.1;have p:∀b,(B'++A2).count b<=(B'++(B++A')).count b:=λb=>by have:=k2 b;simp only[zA0] at *;lia
 exact q v H' F' B' A2 rv ⟨k1,(y.count p).right,S.len,S.ag⟩ (y.count p) ((Z.trans s).count p)
theorem qaR1(bl:Blk X NY sc src tg ifs elt g qf te)(a:X.N[i]?=some xn):Imp c X (G1 (λys=>ys) src i g qf te) (Eh (G5 K (F4 i)) src (qt8 src g) (qt7 src qf) (B9 src te)):=qaA3 (K:=K) (J:=Itl K) bl a (λb m d=>qQ6 bl b m d) λσ H R h=>h
theorem qaR3(bl:Blk X NY sc src tg ifs elt g qf te)(b:X.N[i]?=some xn):Imp c X (G1 enD src i g qf te) (Eh (iEnum K (Iy (F4 i) tNil)) src (qt8 src g) (qt7 src qf) (B9 src te)):=qaA3 (K:=K) (J:=Ite K) bl b (λd m f=>qao9 bl d m f) λσ H R ⟨v,h,a,e,j,k⟩=>⟨v,h,a,by rw[e],j,k⟩
theorem ecN(i:Nat)(bl:Blk X NY sc src tg ifs elt g qf te)(b:X.N[i]?=some xn:=by rfl)(d:Vis X.env.scope xn:=by first|exact O1 rfl|exact O0 (O1 rfl)|exact O0 (O0 rfl))(e:N' xn:=by decide)(a:(xn==("__classdict__" : Str))=false:=by decide)(f:X.calm=true:=by rfl)(h:qw1 X NY src sc=true:=by rfl)(j:∀x,Km (.Name xn p0) X.env x=pure x:=by intro _;rfl):VE c X (.ListComp elt [⟨tg,.Name xn p0,ifs,0⟩] sc pos) (G1 (λys=>ys) src i g qf te):=Jr (qF9 NY src (qx0 (qq8 b d e a)) bl.pg bl.pf bl.pe f h j) (qaR1 bl b) (qH3 bl)
theorem ecEN(i:Nat){e:Nat}(hm:X.mg "enumerate"=none)(bl:Blk X NY sc src (.Tuple elts e tpos) ifs elt g qf te)(f:X.N[i]?=some xn:=by rfl)(h:Vis X.env.scope xn:=by first|exact O1 rfl|exact O0 (O1 rfl)|exact O0 (O0 rfl))(j:N' xn:=by decide)(b:(xn==("__classdict__" : Str))=false:=by decide)(d:Gl X "enumerate" := by rfl)(a:Kj [.Name xn p0] X.env=[(false,eval (.Name xn p0) X.env)]:=by rfl)(k:X.calm=true:=by rfl)(l:qw1 X NY src sc=true:=by rfl)(m:∀x,Km (.Call (.Name "enumerate" p) [.Name xn p0] [] cpos) X.env x=pure x:=by intro _;rfl):VE c X (.ListComp elt [⟨.Tuple elts e tpos,.Call (.Name "enumerate" p) [.Name xn p0] [] cpos,ifs,0⟩] sc pos) (G1 enD src i g qf te):=Jr (qF9 NY src (qaM9 d hm (qc5 (qq8 f h j b) ql4 a) a) bl.pg bl.pf bl.pe k l m) (qaR3 bl f) (qH3 bl)
theorem scN(i j:Nat)(b:X.N.Nodup)(bl:Blk X NY sc src tg ifs elt g qf te)(k:c.W i=false:=by rfl)(h:X.N[j]?=some xn:=by rfl)(l:Vis X.env.scope xn:=by first|exact O1 rfl|exact O0 (O1 rfl)|exact O0 (O0 rfl))(m:N' xn:=by decide)(d:(xn==("__classdict__" : Str))=false:=by decide)(a:X.N[i]?=some x:=by rfl)(n:Loc X.env.scope x:=by first|exact O1 rfl|exact O0 rfl)(o:X.calm=true:=by rfl)(p:qw1 X NY src sc=true:=by rfl)(e:swapsWith (.ListComp elt [⟨tg,.Name xn p0,ifs,0⟩] sc pos) (some (.Name x px)) spos.line X.env=pure true:=by rfl)(q:∀x,Km (.Name xn p0) X.env x=pure x:=by intro _;rfl)(f:X.fn x=true∨X.env.scope.names.lookup x=some .local:=by first|exact .inl rfl|exact .inr rfl|assumption):VS c X (.Assign [.Name x px] (.ListComp elt [⟨tg,.Name xn p0,ifs,0⟩] sc pos) spos) (El (G1 (λys=>ys) src j g qf te) (gNm i)):=qaJ4 (qax5 i NY src b (qx0 (qq8 h l m d)) bl.pg bl.pf bl.pe a n o p e q f) (qaR1 bl h) (qH3 bl) k a
theorem qaA5(h:ds[i]?=some (.hole w)):bk1 i [] w d0 ds=some (ds.set i d0):=by unfold bk1 Aq;rw[qJ9 h];simp only[if_true];unfold Aq;rw[qH8 h]
theorem qh3{g:VTG}{qf:VTT}{te:VT}{K:Ds->Ds->Prop}(I:Ds->Prop)(f:D->Option D):∀(xs:List D)(acc ι:Ds),acc.length+xs.length<big->I ι->(∀x∈xs,∀ι acc,I ι->∀R:Ds->Ds->Prop,(∀ι',I ι'->R (acc++(f x).toList) ι')->acc.length<big->g x ι λι1=>qf ι1 (λb ι2=>if b=true then te ι2 (λd ι3=>acc.length<big/\R (acc++[d]) ι3) (λ_ _=>False) else R acc ι2) (λ_ _=>False))->(∀ι',I ι'->K (acc++xs.filterMap f) ι')->Dp g qf te K xs acc ι|[],acc,ι,_,h,_,hK=>by have:=hK ι h;rw[List.filterMap_nil,zAd] at this;exact this|x::xs,acc,ι,hl,h,hs,hK=>by refine hs x zAf ι acc h (λa i=>Dp g qf te K xs a i) (λι' hι=>?_) (by simp at hl;lia);refine qh3 I f xs _ ι' ?_ hι (λy e=>hs y (zA9 _ e)) λι2 j=>?_;{cases c:f x with|none=>simp at hl ⊢;lia|some y=>simp at hl ⊢;lia};have:=hK ι2 j;rw[zBu] at this;cases c:f x with|none=>rw[c] at this;simpa using this|some y=>rw[c] at this;simpa using this
end
structure MdN(K:Oa)(C:γ)(m qual:Str)(st:Lc)(f:γ)(fd:ε)(ps:List Str):Prop where
 F:FunE K m qual st f fd
 b:Binds K fd ps []
 bn:Binds K fd ps [.none]
 me:Ix K C m f
 isf:W.isFn K (.ref f)=true
section
variable{X:Cx}{c:Vc}
theorem qaT1(i:Cl X.K X.mg x C)(M:Mk X.K C f)(D:MdN X.K C m qual st f fd ps)(G:Eu cm X.prog X.w X.K X.mg X.base k f fd ps s)(j:Lands X c.E)(l:Pe cm (k+1) X.A)(a:VAs c X (e::es) tr)(n:Gl X x:=by rfl)(d:N' x:=by decide)(o:Kj (e::es) X.env=(false,eval e X.env)::Kj es X.env:=by rfl)(g:(backTo pos (Kj es X.env)).any (·.1)=false:=by rfl):VE c X (.Call (.Name x p) (e::es) [] pos) (Ic C s [] tr):=⟨PE.mono (qax8 M G.ok l n i.m D.b .nil j.passes a.h d o g) (qay5 qo2 G.m a),qX5 G.m a⟩
end
theorem mdmkN{v:Option γ}{kV j:V'}(l:K.lookup f=some ⟨oc,v,.func (W.fnOf m qual (qg1 st) (qe1 st) (qa3 st) (.ref T) kV e h g d j),p⟩)(c:W.codeIn K d qual=true)(k:W.keepIn K (.ref f)=true)(a:W.findIn K (.ref C) m=some (some (.ref f)))(i:W.isFn K (.ref f)=true)(t:K.lookup T=some ⟨to,td,.seq #[.none] n,q⟩)(b:∀(kV e h:V')(g:Option γ)(d j:V')(us:List V'),us.length=ps.length->∃k,bindArgs (W.fnOf m qual (qg1 st) (qe1 st) (qa3 st) (.ref T) kV e h g d j) ⟨us,[]⟩=seqItems? (.ref T) >>= k/\k (some #[.none])=pure (ps.zip us))(w:∀(kV e h:V')(g:Option γ)(d j:V')(us:List V'),us.length+1=ps.length->∃k,bindArgs (W.fnOf m qual (qg1 st) (qe1 st) (qa3 st) (.ref T) kV e h g d j) ⟨us,[]⟩=seqItems? (.ref T) >>= k/\k (some #[.none])=pure (ps.zip (us++[.none]))):MdN K C m qual st f (W.fnOf m qual (qg1 st) (qe1 st) (qa3 st) (.ref T) kV e h g d j) ps:=⟨⟨⟨_,_,_,_,_,_,_,_,_,_,rfl,l,c⟩⟩,λs us X o=>(by
   rw[zAd] at o ⊢;obtain⟨k,r,u⟩:=b kV e h g d j us o;exact W.binds_K X rfl t rfl r u),λs us X o=>(by
   obtain⟨k,r,u⟩:=w kV e h g d j us (by rw[zA8] at o;exact o);exact W.binds_K X rfl t rfl r u),⟨a,i,k⟩,i⟩
end LV
namespace LV
open PySem L2
section
variable{c:Vc}{X:Cx}{e o:Lb}{Z:List Lb}{Y:VTB}{own:Bool}{g:FV}{U W:Pos}{qual m:Str}{st:Lc}{f C:γ}{fd:ε}{ps:List Str}{k:Nat}{s:VSp}{dvs:List V}{dv:Ds}
def Jt(C:γ)(m:Str)(s:VSp)(dv:Ds)(g:FV)(Y:VTB):VT:=λds Q xe=>orF (g ds) λd=>d.imm=true/\d.isM C m=true/\Y ds (λxs ps ds1=>s (d::(xs++dv)) (λr ys=>orF (Aq (.no::ps) ys ds1) λa=>Q r a) (λx ys=>orF (Aq (.no::ps) ys ds1) λa=>xe x a)) xe
theorem qaj5(f:Bo s)(h:VAs c X Z Y):∀ds (Q Q':DK) (xe b:XKd),(∀d a,Q d a->Q' d a)->(∀x a,xe x a->b x a)->Jt C m s dv g Y ds Q xe->Jt C m s dv g Y ds Q' b:=λds Q Q' xe b i e=>qa4 λd=>N7 (N7 (h.m _ _ _ _ _ (λl n j=>f _ _ _ _ _ (λd k=>qa4 λz=>i _ _) (λx k=>qa4 λz=>e _ _)) e))
theorem qaF3(p:Gw dvs dv)(t:Bo s)(u:VAs c X Z Y):∀T H Q,Bm c (Jt C m s dv g Y) T H Q->Ga C m (Ey s) dvs c.E (liftV c own g) (Ek c Y) T H Q:=by
 rintro T H Q ⟨F,k,A,w,S,x,q⟩;obtain⟨d,y,D,G,q⟩:=qa7.mp q;refine⟨F,k,A,d,S,y,λv H1 B r e _=>?_⟩;obtain rfl:=r.imm D;obtain⟨a,I,J,rfl,f,i⟩:=r.isM G;refine⟨a,I,J,rfl,f,i,F,k,A,w,S.same e,x.step (Pc.same e),u.m _ _ _ _ _ (λl R K q n H2 F2 T2 A2 L M S2 N o=>?_) (λ_ _ z=>z) q⟩;have j:Pa F2 H2 (.ref a) d []:=r.keep (o.kp (S.same e).ok (S.same e).loc.cells) λb O=>by cases O
 exact qan6 (vs:=.ref a::n) (xs:=d::l) p t S x (.cons j L) (.no M) S2 N ((Pc.same e).trans o) (λd P h=>h) q
theorem qaT0{pl:Sem Bool}(D:Md X.K C m qual st f fd ps)(j:Cls X.K C)(G:Eu cm X.prog X.w X.K X.mg X.base k f fd ps s)(l:Lands X c.E)(n:Pe cm k X.A)(p:VV c X o own g)(a:VAs c X (e::Z) Y)(d:Kj (e::Z) X.env=(false,eval e X.env)::Kj Z X.env:=by rfl)(i:(backTo U (Kj Z X.env)).any (·.1)=false:=by rfl)(q:eval (.Call (.Attribute o m W) (e::Z) [] U) X.env=(do
     let ov<-eval o X.env
     standAt W.atName
     let (f,first)<-holding [ov] (getMethod ov m pl)
     callWith U f first (backTo U (Kj (e::Z) X.env)) (backToKw U (Kv [] X.env))):=by rfl):VE c X (.Call (.Attribute o m W) (e::Z) [] U) (Jt C m s [] g Y):=⟨PE.mono (qX1 p.h j D.me G.ok n D.b .nil l.passes a.h d i q) (qaF3 qo2 G.m a),qaj5 G.m a⟩
end
theorem rm(r:Pe cm k A)(h:j<=k:=by decide):Pe cm j A:=r.mono h
theorem VFn.mk2(Fu:Fun K x qual st f fd)(Sc:qa8 N ps (qa3 st))(W:Nat->Bool)(c:Bo s)(h:∀ds Q xe,s ds Q xe->ds.length=ps.length/\G0 W 0 ds=true)(hbody:∀(a:V')(A:K9)(outer:List Env)(b:δ)(H:Hp)(E:XK)(av:List (Option V)),Pe cm k (A.deeper (PyProof.Rows.envOfC qual (qa3 st) b.heap.objs.size f a))->∃t,VSs ⟨λ_=>E,W,av,[]⟩ (Et cm (CX1 P w) P w K mg base N qual (qa3 st) f a A outer b H E) (qe1 st) t/\∀ds Q xe,s ds Q xe->t (qat7 W ds Q xe) (ds++Ls (N.length-ds.length) .u)):Eu cm P w K mg base (k+1) f fd ps s:=VFn.mk' Fu Sc W c (λds Q xe z=>(h ds Q xe z).1) (λds Q xe z=>(h ds Q xe z).2) hbody
def spPu(g:D->D->Option D):Sp:=λvs H Q _=>∃F u x d a b A B w,vs=[u,x]/\Pa F H u a A/\Pa F H x b B/\g a b=some d/\d.flat=some w/\Q w H
section
variable{c:Vc}{X:Cx}{e:Lb}{pos apos:Pos}{m qual:Str}{st:Lc}{f C:γ}{fd:ε}{ps:List Str}{k:Nat}{g:D->D->Option D}{fb:FV}{ob:Bool}
def fPu(C:γ)(m:Str)(g:D->D->Option D)(i:Nat)(fb:FV):FV:=λds=>(rdN i ds).bind λx=>if x.isM C m=true then (fb ds).bind λy=>(g x y).bind λd=>d.flat.map λ_=>d else none
theorem Pa.ofFlat(h:d.flat=some w):Pa F H w d []:=by cases d with|non=>cases h;exact .non|bl b=>cases h;exact .bl b|int i=>cases h;exact .int i|str x=>cases h;exact .str x|_=>cases h
theorem qaU6{pl:Sem Bool}(i:Nat){xn:Str}{p0:Pos}(D:Md X.K C m qual st f fd ps)(P:Cls X.K C)(G:Eg X.prog X.w X.K X.mg X.base CX0 k f fd ps (spPu g))(R:Room k X.A)(T:VV c X e ob fb)(J:X.N[i]?=some xn:=by rfl)(U:Vis X.env.scope xn:=by first|exact O1 rfl|exact O0 (O1 rfl)|exact O0 (O0 rfl))(V:N' xn:=by decide)(n:(xn==("__classdict__" : Str))=false:=by decide)(l:Kj [e] X.env=(false,eval e X.env)::Kj [] X.env:=by rfl)(o:(backTo pos (Kj [] X.env)).any (·.1)=false:=by rfl)(W:eval (.Call (.Attribute (.Name xn p0) m apos) [e] [] pos) X.env=(do
 let ov<-eval (.Name xn p0) X.env
 standAt apos.atName
 let (f,first)<-holding [ov] (getMethod ov m pl)
 callWith pos f first (backTo pos (Kj [e] X.env)) (backToKw pos (Kv [] X.env))):=by rfl):VV c X (.Call (.Attribute (.Name xn p0) m apos) [e] [] pos) true (fPu C m g i fb):=by refine⟨λD8 s σ H Q I p=>?_⟩;obtain⟨F,Y,A,d,S,j,q⟩:=p;refine qX1 (qq8 J U V n) P D.me G R D.b .nil pass0 (qc5 T.h ql4 l) l o W D8 s σ H Q I ?_;obtain⟨x,Z,j⟩:=zA1.mp j;by_cases t:x.isM C m=true;{rw[if_pos t] at j;obtain⟨y,h2,j⟩:=zA1.mp j;obtain⟨d',h3,j⟩:=zA1.mp j;obtain⟨w,L,j⟩:=zAa.mp j;cases j;obtain⟨v,B0,u,M,_⟩:=S.name (qr6 J D8 σ H s I) Z;obtain⟨a,dx,fs,rfl,z,E⟩:=M.isM t;refine⟨.ref a,u,a,dx,fs,rfl,z,E,F,Y,A,y,S,h2,λv' H1 B r O _=>?_⟩;exact⟨F,_,_,_,x,y,B0,B,w,rfl,M.same O,r,h3,L,q w H1 [] (Pa.ofFlat L) O λ_=>New.nil⟩};rw[if_neg t] at j;cases j
def tbBV(pf:PF)(f:FV):VTB:=λds Q _=>orF (pf ds) λq=>orF (Bc ds q.1 q.2) λd=>d.known=true/\orF (f ds) λx=>x.imm=true/\∀w,Q [d,x] [.pl q.1 q.2 w,.no] (Bj ds q.1 q.2 (.hole w))
theorem vaBV{e2:Lb}(G:VP c X o pf)(I:VV c X e2 own fv)(J:Kj (o::[e2]) X.env=(false,eval o X.env)::Kj [e2] X.env:=by rfl)(g:Kj [e2] X.env=(false,eval e2 X.env)::Kj [] X.env:=by rfl):VAs c X [o,e2] (tbBV pf fv):=by
 refine⟨PA.mono (qc5 G.h (qc5 I.h ql4 g) J) λσ H Q j=>?_,λa Q Q' K L M W=>qa4 λz=>qa4 λd=>N7 (qa4 λy=>N7 λh w=>M _ _ _ (h w))⟩;obtain⟨F,a,A,K,S,x,q⟩:=j;obtain⟨⟨i,p⟩,N,q⟩:=qa7.mp q;obtain⟨d,e2,n,q⟩:=qa7.mp q;obtain⟨y,O,P,q⟩:=qa7.mp q;refine⟨F,a,A,i,p,d,S,N,e2,qn8 n,λu w H0 R T k=>?_⟩;refine⟨F,a,A,y,S.same k,O,λv H1 Bv t l _=>?_⟩;obtain rfl:=t.imm P;have s:Same H H1:=λb o e=>l b o (k b o e);obtain⟨B,C,r,D,U⟩:=(S.same k).place e2 (qn8 n) R T;have r:=r.same l;obtain⟨A1,m,q2⟩:=U (.hole w) [] (Kp.same (F:=F) λ_ _ z=>z) (λ_ _ z=>z) (.hole w);have m:=m.same l;have E:Ok F H1 (B++A1):=(S.same s).ok.count λb=>by rw[zA0,q2,D];simp
 have V:Pc F H A F H1 (B++A1):=⟨λb o e _=>s b o e,λb o e z=>by rw[zA0,q2];have:=D b;simp;lia,λ_ f=>f,λ_ _ _ _ f=>f⟩;have S1:Pd c F H1 σ (Bj a i p (.hole w)) A1:=⟨m,E.right,S.len,S.ag⟩;refine q w [w,v] H1 F B A1 ?_ (.so (.no .nil)) S1 E V;have:=O4.cons r (O4.cons t .nil);rwa[zAd,zAd] at this
end
end LV
namespace S6
open PySem PyProof.Rows
variable{N bs q:Nat}{arr xs:Array Ll}{f:Nat->Ll}{key:Ll}{kf:V'->Int×Int}{l:Bool}{vs:List V'}
section
variable{f:Type}{le:f->f->Bool}
theorem mg_l{A2:List f}:∀{A1 Y:List f},(∀a∈A1,∀y∈Y,le a y=true)->Lu (A1++A2) Y le=A1++Lu A2 Y le|[],_,_=>rfl|x::A1,[],_=>by simp|x::A1,y::Y,h=>by rw[zC1,zBf,if_pos (h x (by simp) y (by simp)),mg_l λa b=>h a (by simp[b])];rfl
theorem mg_r{B2:List f}:∀{B1 X:List f},(∀b∈B1,∀x∈X,le x b=false)->Lu X (B1++B2) le=B1++Lu X B2 le|[],_,_=>rfl|b::B1,[],_=>by simp|b::B1,x::X,h=>by rw[zC1,zBf,if_neg (by simp[h b (by simp) x (by simp)]),mg_r λa c=>h a (by simp[c])];rfl
theorem Ju{A2:List f}:∀{A1 Y:List f},(∀a∈A2,∀y∈Y,le a y=false)->Lu (A1++A2) Y le=Lu A1 Y le++A2|[],Y,h=>by have:=mg_r (B2:=[]) (B1:=Y) (X:=A2) (le:=le) λy c a b=>h a b y c;simpa using this|x::A1,[],_=>by simp|x::A1,y::Y,h=>by rw[zC1,zBf,zBf];split;{rw[Ju h];rfl};rw[<-zC1,Ju λa b z d=>h a b z (by simp[d])];rfl
theorem Hm{B2:List f}:∀{B1 X:List f},(∀b∈B2,∀x∈X,le x b=true)->Lu X (B1++B2) le=Lu X B1 le++B2|[],X,h=>by have:=mg_l (A2:=[]) (A1:=X) (Y:=B2) (le:=le) λy d a c=>h a c y d;simpa using this|b::B1,[],_=>by simp|b::B1,x::X,h=>by rw[zC1,zBf,zBf];split;{rw[<-zC1,Hm λa c z e=>h a c z (by simp[e])];rfl};rw[Hm h];rfl
end
noncomputable def gal:Bool->Ll->Array Ll->Nat->Nat->Nat->StateT Lm Sem (Option Nat):=sortPriv% PySem.Builtin.gallop
def bey(l:Bool)(key:Ll)(arr:Array Ll)(i:Nat):StateT Lm Sem (Option Bool):=do
 let x<-elem' arr i
 if l then lt' x key else return (<- lt' key x).map (!·)
theorem qba7(l:Bool)(key:Ll)(arr:Array Ll)(bs n g:Nat):gal l key arr bs n g=(do
 let mut p:=0
 let mut o:=1
 let mut u:=0
 let mut v:=0
 let some t<-bey l key arr (bs+g)|return none
 if t then
   let mo:=n-g
   for _ in [0:n] do
     if o ≥ mo then break
     let some c<-bey l key arr (bs+(g+o))|return none
     if !c then break
     p:=o
     o:=2*o+1
   u:=g+p+1
   v:=g+min o mo
 else
   let mo:=g+1
   for _ in [0:n] do
     if o ≥ mo then break
     let some c<-bey l key arr (bs+(g-o))|return none
     if c then break
     p:=o
     o:=2*o+1
   u:=g+1-min o mo
   v:=g-p
 for _ in [0:n] do
   if u ≥ v then break
   let m:=u+(v-u)/2
   let some c<-bey l key arr (bs+m)|return none
   if c then u:=m+1 else v:=m
 return some v):=rfl
section
variable{M:Model}{A:K9}{E:V'->δ->Prop}{s:δ}{l n o:Type}{Q:o->l->Prop}{m:l}
theorem gB{f:l->StateT l Sem o}(h:wpS M A E s (f m) Q m):wpS M A E s (get >>= f) Q m:=Ld (wpS_get h)
theorem rB{f:Unit->StateT l Sem o}(h:wpS M A E s (f ()) Q m):wpS M A E s (liftM (rule t) >>= f) Q m:=Ld (wpS_lift (Kx ⟨rfl,h⟩))
theorem fB{f:Nat->n->StateT l Sem (ForInStep n)}(I:Nat->n->l->Prop)(R:n->l->Prop)(h1:∀F,f=F->∀i c m,a<=i->i<b->I i c m->∀K:ForInStep n->l->Prop,(∀e d,R e d->K (.done e) d)->(∀e d,I (i+1) e d->K (.yield e) d)->wpS M A E s (F i c) K m)(h2:∀c m,I (max a b) c m->R c m)(j:I a c m)(k:∀F,g=F->∀c m,R c m->wpS M A E s (F c) Q m):wpS M A E s (forIn [a:b] c f >>= g) Q m:=Ld (wpS_mono (wpS_forRange I (λi c m x y z=>h1 f rfl i c m x y z _ (λ_ _ h=>h) λ_ _ h=>h) h2 j) (k g rfl))
end
structure Od(lt:Ll->Ll->Bool):Prop where
 as:∀x y,lt x y=true->lt y x=false
 tr:∀x y z,lt y x=false->lt z y=false->lt z x=false
def Cm(prog:K8)(w:La)(A:K9)(s:δ)(kd:SortKind)(P:Ll->Prop)(lt:Ll->Ll->Bool):Prop:=∀x y,P x->P y->∀(E:V'->δ->Prop)(Q:Bool->δ->Prop),Q (lt x y) s->K6 (K7 prog w) A (keyLt' kd x.1 y.1) Q E s
section
variable{prog:K8}{w:La}{A:K9}{E:V'->δ->Prop}{s:δ}{kd:SortKind}{P:Ll->Prop}{lt:Ll->Ll->Bool}{st:Lm}
theorem Od.ir(h:Od lt)(x:Ll):lt x x=false:=by cases e:lt x x with|false=>rfl|true=>rw[h.as x x e] at e;cases e
theorem wlt(a:Cm prog w A s kd P lt)(b:Ln st=kd)(c:P x)(d:P y)(h:Q (some (lt x y)) st):wpS (K7 prog w) A E s (lt' x y) Q st:=by rw[lt'_eq];refine gB ?_;rw[b];exact Ld (wpS_lift (wpAny_attempt (a x y c d _ _ ⟨rfl,Lf h⟩)))
theorem wel(hi:arr[i]?=some p)(h:Q p st):wpS (K7 prog w) A E s (elem' arr i) Q st:=by rw[elem'_eq,hi];exact Lf h
def B(lt:Ll->Ll->Bool)(l:Bool)(key x:Ll):Bool:=if l then lt x key else !lt key x
theorem wif{α:Type}{c:Prop}[Decidable c]{m n:StateT Lm Sem α}{Q:α->Lm->Prop}(h1:c->wpS (K7 prog w) A E s m Q st)(h2:¬c->wpS (K7 prog w) A E s n Q st):wpS (K7 prog w) A E s (if c then m else n) Q st:=by by_cases h:c;{rw[if_pos h];exact h1 h};rw[if_neg h];exact h2 h
section
variable{u v n x i g o p:Nat}
theorem l2o(o:Nat):o+1<=2*o+1:=⋯
theorem g1(c:¬u ≥ v)(h:v-u<=n-x):u+(v-u)/2<v/\v-(u+(v-u)/2+1)<=n-(x+1)/\u+(v-u)/2-u<=n-(x+1):=by
 have q:=Nat.div_lt_self (Nat.sub_pos_of_lt (Nat.lt_of_not_le c)) (zA3 2);generalize (v-u)/2=m at *
 have t:=Nat.sub_le_sub_right h 1;exact⟨Nat.add_lt_of_lt_sub' q,zAl (Nat.sub_le_sub_left (zCr (zBr u m)) v) t,by rw[Nat.add_sub_cancel_left];exact zAl (Nat.le_pred_of_lt q) t⟩
theorem g2(h:v-u<=n-max 0 n)(hi:i<v):i<u:=⋯
theorem g3(h:max 0 n+1<=o)(h':o<n-g):False:=⋯
theorem g8(h:max 0 n+1<=o)(a:g<n)(h':o<g+1):False:=⋯
theorem g4(h:p<o)(h':g+p<n):g+p+1<=g+min o (n-g)/\g+min o (n-g)<=n:=⋯
theorem g5(h:g+min o (n-g)<=i)(h':i<n):g+o<=i/\o<n-g:=⋯
theorem g6(h:p<o)(h':p<=g):g+1-min o (g+1)<=g-p:=⋯
theorem g7(h:i<g+1-min o (g+1)):i<=g-o/\o<g+1:=by by_cases c:o<g+1;{rw[zCy (zBl c)] at h;exact⟨⋯,c⟩};rw[Nat.min_eq_right (zCc c),Nat.sub_self] at h;exact absurd h (zCx _)
end
theorem yB{β:Type}{x:Ll}{i:Nat}{f:Option Bool->StateT Lm Sem β}{Q:β->Lm->Prop}(a:Cm prog w A s kd P lt)(b:Ln st=kd)(hi:arr[i]?=some x)(c:P x)(d:P key)(h:B lt l key x=true->wpS (K7 prog w) A E s (f (some true)) Q st)(h':B lt l key x=false->wpS (K7 prog w) A E s (f (some false)) Q st):wpS (K7 prog w) A E s (bey l key arr i >>= f) Q st:=by
 have e:wpS (K7 prog w) A E s (f (some (B lt l key x))) Q st:=by cases e:B lt l key x with|true=>exact h e|false=>exact h' e
 refine Ld ?_;unfold bey;refine Ld (wel hi ?_);cases l with|true=>exact wlt a b c d e|false=>exact Ld (wlt a b d c (Lf e))
theorem wgal(O:Cm prog w A s kd P lt)(R:Ln st=kd)(S:P key)(T:∀i,i<n->arr[bs+i]?=some (f i))(U:∀i,i<n->P (f i))(hm:∀i j,i<=j->j<n->B lt l key (f j)=true->B lt l key (f i)=true)(J:g<n)(h:∀k,k<=n->(∀i,i<k->B lt l key (f i)=true)->(∀i,k<=i->i<n->B lt l key (f i)=false)->Q (some k) st):wpS (K7 prog w) A E s (gal l key arr bs n g) Q st:=by
 have L:∀i j,i<=j->j<n->B lt l key (f i)=false->B lt l key (f j)=false:=λi j a b c=>by cases e:B lt l key (f j) with|false=>rfl|true=>rw[hm i j a b e] at c;cases c
 have fin:∀u v,u<=v->v<=n->(∀i,i<u->B lt l key (f i)=true)->(∀i,v<=i->i<n->B lt l key (f i)=false)->wpS (K7 prog w) A E s (do
  let mut u:=u
  let mut v:=v
  for _ in [0:n] do
   if u ≥ v then break
   let m:=u+(v-u)/2
   let some c<-bey l key arr (bs+m)|return none
   if c then u:=m+1 else v:=m
  return some v) Q st:=by
  intro u v Z X a3 a4;refine fB (λx c d=>d=st/\c.1=none/\c.2.1<=c.2.2/\c.2.2<=n/\c.2.2-c.2.1<=n-x/\(∀i,i<c.2.1->B lt l key (f i)=true)/\(∀i,c.2.2<=i->i<n->B lt l key (f i)=false)) (λc d=>d=st/\c.1=none/\c.2.2<=n/\(∀i,i<c.2.2->B lt l key (f i)=true)/\(∀i,c.2.2<=i->i<n->B lt l key (f i)=false)) ?_ ?_ ⟨rfl,rfl,Z,X,zAl (zCo v u) X,a3,a4⟩ ?_
  .rintro F z x ⟨_,u,v⟩ d-Y ⟨rfl,rfl,y,C,t,r,H⟩ K p q
   subst z;refine wif (λc=>Lf (p _ _ ⟨rfl,rfl,C,λi I=>r i (zAk I c),H⟩)) λc=>?_
   have m:=g1 (u:=u) (v:=v) c t;have V:=zAk m.1 C;exact yB O R (T _ V) (U _ V) S (λG=>Lf (q _ _ ⟨rfl,rfl,m.1,C,m.2.1,λi I=>hm i _ (zC5 I) V G,H⟩)) λG=>Lf (q _ _ ⟨rfl,rfl,zBr _ _,zBl V,m.2.2,r,λi D M=>L _ i D M G⟩)
  .exact λc d ⟨N,D,y,C,t,r,H⟩=>⟨N,D,C,λi I=>r i (g2 t I),H⟩
  rintro F z ⟨_,u,v⟩ d ⟨rfl,rfl,C,r,H⟩;subst z;exact Lf (h v C r H)
 rw[qba7];refine yB O R (T _ J) (U _ J) S (λW=>wif (λ_=>?_) λc=>absurd rfl c) λW=>wif (λc=>nomatch c) λ_=>?_;{refine fB (λx c d=>d=st/\c.1=none/\c.2.1<c.2.2/\x+1<=c.2.2/\g+c.2.1<n/\B lt l key (f (g+c.2.1))=true) (λc d=>d=st/\c.1=none/\c.2.1<c.2.2/\g+c.2.1<n/\B lt l key (f (g+c.2.1))=true/\(c.2.2<n-g->B lt l key (f (g+c.2.2))=false)) ?_ ?_ ⟨rfl,rfl,Nat.one_pos,zA3 _,J,W⟩ ?_;{rintro F z x ⟨_,p,o⟩ d-Y ⟨rfl,rfl,y,C,t,r⟩ K u v;subst z;refine wif (λc=>Lf (u _ _ ⟨rfl,rfl,y,t,r,λh=>absurd h (Nat.not_lt_of_le c)⟩)) λc=>?_;have m:g+o<n:=Nat.add_lt_of_lt_sub' (Nat.lt_of_not_le c);exact yB O R (T _ m) (U _ m) S (λG=>Lf (v _ _ ⟨rfl,rfl,l2o o,zAl (zCr C) (l2o o),m,G⟩)) λG=>Lf (u _ _ ⟨rfl,rfl,y,t,r,λ_=>G⟩)};{exact λc d ⟨N,D,y,C,t,r⟩=>⟨N,D,y,t,r,λh=>(g3 C h).elim⟩};rintro F z ⟨_,p,o⟩ d ⟨rfl,rfl,y,t,r,H⟩;subst z;exact fin (g+p+1) (g+min o (n-g)) (g4 y t).1 (g4 y t).2 (λi I=>hm i _ (zC5 I) t r) λi D M=>L (g+o) i (g5 D M).1 M (H (g5 D M).2)};refine fB (λx c d=>d=st/\c.1=none/\c.2.1<c.2.2/\x+1<=c.2.2/\c.2.1<=g/\B lt l key (f (g-c.2.1))=false) (λc d=>d=st/\c.1=none/\c.2.1<c.2.2/\c.2.1<=g/\B lt l key (f (g-c.2.1))=false/\(c.2.2<g+1->B lt l key (f (g-c.2.2))=true)) ?_ ?_ ⟨rfl,rfl,Nat.one_pos,zA3 _,zBo _,W⟩ ?_;{rintro F z x ⟨_,p,o⟩ d-Y ⟨rfl,rfl,y,C,t,r⟩ K u v;subst z;have m:g-o<n:=zCf (zCo g o) J;exact wif (λc=>Lf (u _ _ ⟨rfl,rfl,y,t,r,λh=>absurd h (Nat.not_lt_of_le c)⟩)) λc=>yB O R (T _ m) (U _ m) S (λG=>Lf (u _ _ ⟨rfl,rfl,y,t,r,λ_=>G⟩)) λG=>Lf (v _ _ ⟨rfl,rfl,l2o o,zAl (zCr C) (l2o o),zC5 (Nat.lt_of_not_le c),G⟩)};{exact λc d ⟨N,D,y,C,t,r⟩=>⟨N,D,y,t,r,λh=>(g8 C J h).elim⟩};rintro F z ⟨_,p,o⟩ d ⟨rfl,rfl,y,t,r,H⟩;subst z;exact fin (g+1-min o (g+1)) (g-p) (g6 y t) (zAl (zCo g p) (zBl J)) (λi I=>hm i (g-o) (g7 I).1 (zCf (zCo g o) J) (H (g7 I).2)) λi D M=>L _ i D M r
end
noncomputable abbrev lee(lt:Ll->Ll->Bool):Ll->Ll->Bool:=λx y=>!lt y x
section
variable{d:Type}{le:d->d->Bool}
theorem Jv{A2 Y:List d}{y:d}:∀{A1:List d},(∀a∈A1,le a y=true)->Lu (A1++A2) (y::Y) le=A1++Lu A2 (y::Y) le|[],_=>rfl|x::A1,h=>by rw[zC1,zBf,if_pos (h x (by simp)),Jv λa b=>h a (by simp[b])];rfl
theorem Jw{B2 X:List d}{x:d}:∀{B1:List d},(∀b∈B1,le x b=false)->Lu (x::X) (B1++B2) le=B1++Lu (x::X) B2 le|[],_=>rfl|b::B1,h=>by rw[zC1,zBf,if_neg (by simp[h b (by simp)]),Jw λa c=>h a (by simp[c])];rfl
end
noncomputable def att(a:Array Ll)(i:Nat):Ll:=a.getD i (Nz,Nz)
theorem qV7(h:i<a.size):a[i]?=some (att a i):=by simp[att,Array.getD,h]
theorem Ep(h:i<a.size):a.toList.drop i=att a i::a.toList.drop (i+1):=by rw[zCi (by simpa using h)];simp[att,Array.getD,h]
def Srt(lt:Ll->Ll->Bool)(f:Nat->Ll)(n:Nat):Prop:=∀i j,i<=j->j<n->lt (f j) (f i)=false
theorem Srt.drop(h:Srt lt f n):Srt lt (λi=>f (k+i)) (n-k):=λi j a b=>h _ _ ⋯ ⋯
theorem qx3(h:x∈(a.toList.drop i).take k):∃j,j<k/\i+j<a.size/\x=att a (i+j):=by obtain⟨j,b,e⟩:=List.mem_iff_getElem.mp h;rw[zB5,zCe,zB8] at b;refine⟨j,⋯,⋯,?_⟩;rw[<-e,Nd,Nf];simp[att,Array.getD,show i+j<a.size by lia]
theorem qd9{a:Array Ll}:(a.extract i j).toList=(a.toList.drop i).take (j-i):=by simp[List.take_drop]
section
variable{prog:K8}{w:La}{A:K9}{E:V'->δ->Prop}{s:δ}{kd:SortKind}{P:Ll->Prop}{lt:Ll->Ll->Bool}{st:Lm}
theorem wgs(b:Od lt)(m:Cm prog w A s kd P lt)(o:Ln st=kd)(p:P key)(x:bs+n<=arr.size)(q:∀i,i<arr.size->P (att arr i))(r:Srt lt (λi=>att arr (bs+i)) n)(t:g<n)(h:∀k,k<=n->(∀i,i<k->B lt l key (att arr (bs+i))=true)->(∀i,k<=i->i<n->B lt l key (att arr (bs+i))=false)->Q (some k) st):wpS (K7 prog w) A E s (gal l key arr bs n g) Q st:=by
 refine wgal (f:=λi=>att arr (bs+i)) m o p (λi u=>qV7 ⋯) (λi u=>q _ ⋯) (λi j a v c=>?_) t h;have d:=r i j a v;cases l with
 |false=>
  have e:lt key (att arr (bs+j))=false:=by simpa[B] using c
  show (!lt key (att arr (bs+i)))=true;rw[b.tr _ _ _ d e];rfl
 |true=>show lt (att arr (bs+i)) key=true;cases e:lt (att arr (bs+i)) key with|true=>rfl|false=>have:=b.tr _ _ _ e d;rw[show lt (att arr (bs+j)) key=true from c] at this;cases this
def R(st a:Lm):Prop:=Ln a=Ln st/\Lj a=Lj st/\Lg a=Lg st/\Lh a=Lh st
noncomputable def mlo:Array Ll->Array Ll->StateT Lm Sem (Array Ll):=sortPriv% PySem.Builtin.mergeLo
noncomputable def smg:Nat->StateT Lm Sem Unit:=sortPriv% PySem.Builtin.setMinGallop
theorem qaY8(a b:Array Ll):mlo a b=(do
 rule "list.sort.merge-lo"
 let tt:=a.size+b.size
 let dn (o:Array Ll) (i j:Nat):=o++a.extract i a.size++b.extract j b.size
 let la (o:Array Ll) (i j:Nat):=o++b.extract j b.size++a.extract i a.size
 let mut o:Array Ll:=#[<-elem' b 0]
 let mut i:=0
 let mut j:=1
 if j==b.size then return dn o i j
 if i+1==a.size then return la o i j
 let mut g:=gallopOf (<- get)
 for _ in [0:tt] do
   let mut x:=0
   let mut y:=0
   for _ in [0:tt] do
     let some t<-lt' (<- elem' b j) (<- elem' a i)|return dn o i j
     if t then
       o:=o.push (<- elem' b j);j:=j+1;y:=y+1;x:=0
       if j==b.size then return dn o i j
       if y ≥ g then break
     else
       o:=o.push (<- elem' a i);i:=i+1;x:=x+1;y:=0
       if i+1==a.size then return la o i j
       if x ≥ g then break
   rule "list.sort.gallop"
   g:=g+1
   for _ in [0:tt] do
     if g>1 then g:=g-1
     smg g
     let some k<-gal false (<- elem' b j) a i (a.size-i) 0|return dn o i j
     x:=k
     if k>0 then
       o:=o++a.extract i (i+k);i:=i+k
       if i+1==a.size then return la o i j
       if i==a.size then return dn o i j
     o:=o.push (<- elem' b j);j:=j+1
     if j==b.size then return dn o i j
     let some k<-gal true (<- elem' a i) b j (b.size-j) 0|return dn o i j
     y:=k
     if k>0 then
       o:=o++b.extract j (j+k);j:=j+k
       if j==b.size then return dn o i j
     o:=o.push (<- elem' a i);i:=i+1
     if i+1==a.size then return la o i j
     if x<7&&y<7 then break
   g:=g+1
   smg g
 unsupported "internal:list.sort.merge-bound"):=rfl
def Eq2(lt:Ll->Ll->Bool)(a b o:Array Ll)(i j:Nat):Prop:=o.toList++Lu (a.toList.drop i) (b.toList.drop j) (lee lt)=Lu a.toList b.toList (lee lt)
variable{a b o:Array Ll}{i j k:Nat}
theorem Eq2.done(h:Eq2 lt a b o i j)(c:j=b.size∨i=a.size):(o++a.extract i a.size++b.extract j b.size).toList=Lu a.toList b.toList (lee lt):=by rw[<-h,zB9,zB9,qd9,qd9,zAo];congr 1;rw[zAs (by simp),zAs (by simp)];rcases c with rfl|rfl;{rw[show b.toList.drop b.size=[] by simp,zAd,Ni]};rw[show a.toList.drop a.size=[] by simp,zAz,Np]
theorem Eq2.last(h:Eq2 lt a b o i j)(hi:i+1=a.size)(d:∀n,n<b.size->lt (att b n) (att a i)=true):(o++b.extract j b.size++a.extract i a.size).toList=Lu a.toList b.toList (lee lt):=by
 rw[<-h,zB9,zB9,qd9,qd9,zAo];congr 1;rw[zAs (by simp),zAs (by simp),Ep (a:=a) (i:=i) ⋯,show a.toList.drop (i+1)=[] from Mb (by simp;lia)];have:=Jw (le:=lee lt) (B2:=[]) (X:=[]) (x:=att a i) (B1:=b.toList.drop j) λx c=>by rw[<-zAs (l:=b.toList.drop j) (zA3 _)] at c;obtain⟨n,_,e,rfl⟩:=qx3 c;simp[d _ e]
 rw[zAd] at this;rw[this];simp
theorem Eq2.pb(h:Eq2 lt a b o i j)(hi:i<a.size)(c:j<b.size)(d:lt (att b j) (att a i)=true):Eq2 lt a b (o.push (att b j)) i (j+1):=by unfold Eq2 at h ⊢;rw[<-h,Array.toList_push,zAo,Ep hi,Ep c,zBf,if_neg (by simp[d])];rfl
theorem Eq2.pa(h:Eq2 lt a b o i j)(hi:i<a.size)(c:j<b.size)(d:lt (att b j) (att a i)=false):Eq2 lt a b (o.push (att a i)) (i+1) j:=by unfold Eq2 at h ⊢;rw[<-h,Array.toList_push,zAo,Ep hi,Ep c,zBf,if_pos (by simp[d])];rfl
theorem Eq2.ga(h:Eq2 lt a b o i j)(c:j<b.size)(d:∀n,n<k->i+n<a.size->lt (att b j) (att a (i+n))=false):Eq2 lt a b (o++a.extract i (i+k)) (i+k) j:=by
 unfold Eq2 at h ⊢;rw[<-h,zB9,qd9,zAo,show i+k-i=k by lia,Ep c];congr 1;conv=>rhs;rw[<-zBh k (a.toList.drop i)]
 rw[Jv (le:=lee lt),Mz];intro x e;obtain⟨n,f,g,rfl⟩:=qx3 e;simp[d n f g]
theorem Eq2.gb(h:Eq2 lt a b o i j)(hi:i<a.size)(c:∀n,n<k->j+n<b.size->lt (att b (j+n)) (att a i)=true):Eq2 lt a b (o++b.extract j (j+k)) i (j+k):=by
 unfold Eq2 at h ⊢;rw[<-h,zB9,qd9,zAo,show j+k-j=k by lia,Ep hi];congr 1;conv=>rhs;rw[<-zBh k (b.toList.drop j)]
 rw[Jw (le:=lee lt),Mz];intro x d;obtain⟨n,e,f,rfl⟩:=qx3 d;simp[c n e f]
section
variable{β:Type}{Q:β->Lm->Prop}
theorem eB{f:Ll->StateT Lm Sem β}(hi:i<a.size)(h:wpS (K7 prog w) A E s (f (att a i)) Q st):wpS (K7 prog w) A E s (elem' a i >>= f) Q st:=Ld (wel (qV7 hi) h)
theorem lB{f:Option Bool->StateT Lm Sem β}(a:Cm prog w A s kd P lt)(b:Ln st=kd)(c:P x)(d:P y)(h:lt x y=true->wpS (K7 prog w) A E s (f (some true)) Q st)(h':lt x y=false->wpS (K7 prog w) A E s (f (some false)) Q st):wpS (K7 prog w) A E s (lt' x y >>= f) Q st:=Ld (wlt a b c d (by cases e:lt x y<;>simp_all))
theorem mB{a:Lm}{f:Unit->StateT Lm Sem β}(c:R a st)(h:∀b,R a b->wpS (K7 prog w) A E s (f ()) Q b):wpS (K7 prog w) A E s (smg g >>= f) Q st:=Ld (Li (h _ c))
theorem sB{f:Option Nat->StateT Lm Sem β}(e:Od lt)(g:Cm prog w A s kd P lt)(j:Ln st=kd)(m:P key)(n:∀i,i<arr.size->P (att arr i))(o:Srt lt (att arr) arr.size)(p:bs<arr.size)(h:∀k,bs+k<=arr.size->(∀i,i<k->B lt l key (att arr (bs+i))=true)->(bs+k<arr.size->B lt l key (att arr (bs+k))=false)->wpS (K7 prog w) A E s (f (some k)) Q st):wpS (K7 prog w) A E s (gal l key arr bs (arr.size-bs) 0 >>= f) Q st:=Ld (wgs e g j m ⋯ n o.drop ⋯ λk a b c=>h k ⋯ b λd=>c k (zA3 _) ⋯)
end
theorem ltn{y:Nat}(h:¬(x==y)=true)(h':x<=y):x<y:=Nat.lt_of_le_of_ne h' λe=>h (zBy.mpr e)
theorem sa(h:x<=i+j):x+1<=i+1+j:=Nat.succ_add i j ▸ zCr h
theorem la(h:x<=i+j):x<=i+(j+k):=⋯
theorem lb(h:x<=i+j):x<=i+k+j:=⋯
theorem nt{b:Bool}(h:(!b)=true):b=false:=by simpa using h
theorem nf{b:Bool}(h:(!b)=false):b=true:=by simpa using h
theorem wmlo(hO:Od lt)(Y:Cm prog w A s kd P lt)(Z:Ln st=kd)(L:∀n,n<a.size->P (att a n))(M:∀n,n<b.size->P (att b n))(a0:Srt lt (att a) a.size)(a1:Srt lt (att b) b.size)(V:0<a.size)(N:0<b.size)(h0:lt (att b 0) (att a 0)=true)(hl:∀n,n<b.size->lt (att b n) (att a (a.size-1))=true)(h:∀r f,R st f->r.toList=Lu a.toList b.toList (lee lt)->Q r f):wpS (K7 prog w) A E s (mlo a b) Q st:=by
 have H:∀i,i+1=a.size->∀n,n<b.size->lt (att b n) (att a i)=true:=λi e n hn=>by rw[Nat.eq_sub_of_add_eq e];exact hl n hn
 have e1:Eq2 lt a b #[att b 0] 0 1:=Eq2.pb (o:=#[]) (i:=0) (j:=0) rfl V N h0;rw[qaY8];refine rB (eB N (wif (λc=>Lf (h _ st ⟨rfl,rfl,rfl,rfl⟩ (e1.done (.inl (eq_of_beq c))))) λc1=>wif (λc=>Lf (h _ st ⟨rfl,rfl,rfl,rfl⟩ (e1.last (eq_of_beq c) (H 0 (eq_of_beq c))))) λc2=>gB ?_));let D (c:Option (Array Ll)):Prop:=∃r,c=some r/\r.toList=Lu a.toList b.toList (lee lt)
 let G (n:Nat) (o:Array Ll) (i j:Nat):Prop:=Eq2 lt a b o i j/\i+1<a.size/\j<b.size/\n<=i+j;refine fB (λx c f=>R st f/\c.1=none/\G (x+1) c.2.1 c.2.2.1 c.2.2.2.1) (λc f=>R st f/\D c.1) ?_ ?_ ⟨⟨rfl,rfl,rfl,rfl⟩,rfl,e1,ltn c2 V,ltn c1 N,zA3 _⟩ ?_
 .rintro F z x ⟨_,o,i,j,g⟩ O-hx ⟨W,rfl,g1,g2,g3,g4⟩ K p n;subst z;refine fB (λy c f=>R st f/\c.1=none/\G (x+1+y) c.2.1 c.2.2.1 c.2.2.2.1) (λc f=>R st f/\(D c.1∨c.1=none/\G (x+2) c.2.1 c.2.2.1 c.2.2.2.1)) ?_ ?_ ⟨W,rfl,g1,g2,g3,g4⟩ ?_;{rintro F z y ⟨_,o,i,j,_,_⟩ S-hy ⟨m,rfl,v,t,l,B⟩ K p n;subst z;have I:=zCk t;have k6:=zAl (zBr (x+1) y) B;refine eB l (eB I (lB Y (m.1.trans Z) (M _ l) (L _ I) (λhb=>?_) λhb=>?_));{have e2:=v.pb I l hb;exact eB l (wif (λc=>Lf (p _ _ ⟨m,.inl ⟨_,rfl,e2.done (.inl (eq_of_beq c))⟩⟩)) λc=>wif (λ_=>Lf (p _ _ ⟨m,.inr ⟨rfl,e2,t,ltn c l,zCr k6⟩⟩)) λ_=>Lf (n _ _ ⟨m,rfl,e2,t,ltn c l,zCr B⟩))};have e2:=v.pa I l hb;exact eB I (wif (λc=>Lf (p _ _ ⟨m,.inl ⟨_,rfl,e2.last (eq_of_beq c) (H _ (eq_of_beq c))⟩⟩)) λc=>wif (λ_=>Lf (p _ _ ⟨m,.inr ⟨rfl,e2,ltn c t,l,sa k6⟩⟩)) λ_=>Lf (n _ _ ⟨m,rfl,e2,ltn c t,l,sa B⟩))};{rintro c S ⟨m,k0,v,t,l,B⟩;exact⟨m,.inr ⟨k0,v,t,l,⋯⟩⟩};rintro F z ⟨c,c'⟩ S ⟨m,⟨r,rfl,e⟩|⟨e,v,t,l,B⟩⟩;{subst z;exact Lf (p _ _ ⟨m,r,rfl,e⟩)};cases e;subst z;refine rB (fB (λy c f=>R st f/\c.1=none/\G (x+2) c.2.1 c.2.2.1 c.2.2.2.1) (λc f=>R st f/\(D c.1∨c.1=none/\G (x+2) c.2.1 c.2.2.1 c.2.2.2.1)) ?_ ?_ ⟨m,rfl,v,t,l,B⟩ ?_)
  .rintro F z y ⟨_,o,i,j,g,_,_⟩ a2-hy ⟨r3,rfl,v,t,l,B⟩ K p n;subst z;have I:=zCk t;dsimp -zeta only;extract_lets +onlyGivenNames _ _ _ _ _ _ _ _ _ _ _ _ J;suffices u:∀g,wpS (K7 prog w) A E s (J () g) K a2 from wif (λ_=>u _) λ_=>u _
   intro g;dsimp +zetaDelta -zeta only;refine mB r3 λT C=>eB l (sB hO Y (C.1.trans Z) (M _ l) L a0 I λk q1 q2 q3=>?_);dsimp -zeta only;extract_lets +onlyGivenNames _ J;have ea:=v.ga (k:=k) l λn h1 _=>nt (q2 n h1);suffices u:∀o i,Eq2 lt a b o i j->i+1<a.size->x+2<=i+j->lt (att b j) (att a i)=true->wpS (K7 prog w) A E s (J () o i) K T from wif (λc=>wif (λd=>Lf (p _ _ ⟨C,.inl ⟨_,rfl,ea.last (eq_of_beq d) (H _ (eq_of_beq d))⟩⟩)) λd=>wif (λX=>Lf (p _ _ ⟨C,.inl ⟨_,rfl,ea.done (.inr (eq_of_beq X))⟩⟩)) λX=>u _ _ ea (ltn d (ltn X q1)) (lb B) (nf (q3 (ltn X q1)))) λc=>by obtain rfl:=Nat.eq_zero_of_not_pos c;exact u _ _ v t B (nf (q3 I))
   intro o i e z1 zb z;dsimp +zetaDelta -zeta only;have U:=zCk z1;have e2:=e.pb U l z;refine eB l (wif (λd=>Lf (p _ _ ⟨C,.inl ⟨_,rfl,e2.done (.inl (eq_of_beq d))⟩⟩)) λd=>?_);have z2:=ltn d l;refine eB U (sB hO Y (C.1.trans Z) (L _ U) M a1 z2 λq p1 p2 p3=>?_);dsimp -zeta only;extract_lets +onlyGivenNames _ _ J;have eb:=e2.gb (k:=q) U λn h1 h2=>p2 n h1;suffices u:∀o j,Eq2 lt a b o i j->j<b.size->x+2<=i+j->lt (att b j) (att a i)=false->wpS (K7 prog w) A E s (J () o j) K T from wif (λc=>wif (λd=>Lf (p _ _ ⟨C,.inl ⟨_,rfl,eb.done (.inl (eq_of_beq d))⟩⟩)) λd=>u _ _ eb (ltn d p1) (la (la zb)) (p3 (ltn d p1))) λc=>by obtain rfl:=Nat.eq_zero_of_not_pos c;exact u _ _ e2 z2 (la zb) (p3 z2)
   intro o j e3 z3 zc z4;have z5:=e3.pa U z3 z4;refine eB U (wif (λd=>Lf (p _ _ ⟨C,.inl ⟨_,rfl,z5.last (eq_of_beq d) (H _ (eq_of_beq d))⟩⟩)) λd=>?_);exact wif (λ_=>Lf (p _ _ ⟨C,.inr ⟨rfl,z5,ltn d z1,z3,lb zc⟩⟩)) λ_=>Lf (n _ _ ⟨C,rfl,z5,ltn d z1,z3,lb zc⟩)
  {exact λ_ _ z=>⟨z.1,.inr z.2⟩};rintro F z ⟨c,c'⟩ S ⟨m,⟨r,rfl,e⟩|⟨e,v,t,l,B⟩⟩<;>subst z;{exact Lf (p _ _ ⟨m,r,rfl,e⟩)};cases e;exact mB m λT C=>Lf (n _ _ ⟨C,rfl,v,t,l,B⟩)
 {rintro c O ⟨W,_,g1,g2,g3,g4⟩;lia};rintro F z ⟨c,c'⟩ O ⟨W,r,rfl,e⟩;subst z;exact Lf (h r O W e)
end
section
variable{prog:K8}{w:La}{A:K9}{E:V'->δ->Prop}{s:δ}{kd:SortKind}{P:Ll->Prop}{lt:Ll->Ll->Bool}{st:Lm}
noncomputable def mhi:Array Ll->Array Ll->StateT Lm Sem (Array Ll):=sortPriv% PySem.Builtin.mergeHi
theorem qaY9(a b:Array Ll):mhi a b=(do
 rule "list.sort.merge-hi"
 let tt:=a.size+b.size
 let dn (o:Array Ll) (i j:Nat):=a.extract 0 i++b.extract 0 j++o.reverse
 let fb (o:Array Ll) (i j:Nat):=b.extract 0 j++a.extract 0 i++o.reverse
 let mut i:=a.size-1
 let mut j:=b.size
 let mut o:Array Ll:=#[<-elem' a i]
 if i==0 then return dn o i j
 if j==1 then return fb o i j
 let mut g:=gallopOf (<- get)
 for _ in [0:tt] do
   let mut x:=0
   let mut y:=0
   for _ in [0:tt] do
     let some t<-lt' (<- elem' b (j-1)) (<- elem' a (i-1))|return dn o i j
     if t then
       i:=i-1;o:=o.push (<- elem' a i);x:=x+1;y:=0
       if i==0 then return dn o i j
       if x ≥ g then break
     else
       j:=j-1;o:=o.push (<- elem' b j);y:=y+1;x:=0
       if j==1 then return fb o i j
       if y ≥ g then break
   rule "list.sort.gallop"
   g:=g+1
   for _ in [0:tt] do
     if g>1 then g:=g-1
     smg g
     let some q<-gal false (<- elem' b (j-1)) a 0 i (i-1)|return dn o i j
     let k:=i-q
     x:=k
     if k>0 then
       o:=o++(a.extract q i).reverse;i:=q
       if i==0 then return dn o i j
     j:=j-1;o:=o.push (<- elem' b j)
     if j==1 then return fb o i j
     let some q<-gal true (<- elem' a (i-1)) b 0 j (j-1)|return dn o i j
     let k:=j-q
     y:=k
     if k>0 then
       o:=o++(b.extract q j).reverse;j:=q
       if j==1 then return fb o i j
       if j==0 then return dn o i j
     i:=i-1;o:=o.push (<- elem' a i)
     if i==0 then return dn o i j
     if x<7&&y<7 then break
   g:=g+1
   smg g
 unsupported "internal:list.sort.merge-bound"):=rfl
def Eq3(lt:Ll->Ll->Bool)(a b o:Array Ll)(i j:Nat):Prop:=Lu (a.toList.take i) (b.toList.take j) (lee lt)++o.toList.reverse=Lu a.toList b.toList (lee lt)
variable{a b o:Array Ll}{i j k:Nat}
theorem Jx(h:x∈a.toList.take k):∃j,j<k/\j<a.size/\x=att a j:=by obtain⟨j,b,c,e⟩:=qx3 (i:=0) (k:=k) (by simpa using h);exact⟨j,b,⋯,by rw[e,zAe]⟩
theorem qae7(h:q<=i):a.toList.take i=a.toList.take q++(a.extract q i).toList:=by rw[qd9];conv=>lhs;rw[show i=q+(i-q) by lia,Nu]
theorem ext1(h:0<i)(hi:i<=a.size):(a.extract (i-1) i).toList=[att a (i-1)]:=by rw[qd9,Ep ⋯,show i-(i-1)=1 by lia];rfl
theorem Eq3.done(h:Eq3 lt a b o i j)(c:i=0∨j=0):(a.extract 0 i++b.extract 0 j++o.reverse).toList=Lu a.toList b.toList (lee lt):=by rw[<-h,zB9,zB9,qd9,qd9,Array.toList_reverse];congr 1;rcases c with rfl|rfl;{simp};simp
theorem Eq3.first(h:Eq3 lt a b o i j)(c:j=1)(k:0<b.size)(d:∀n,n<a.size->lt (att b 0) (att a n)=true):(b.extract 0 j++a.extract 0 i++o.reverse).toList=Lu a.toList b.toList (lee lt):=by
 rw[<-h,zB9,zB9,qd9,qd9,Array.toList_reverse];congr 1;subst c;have:=mg_r (le:=lee lt) (B2:=[]) (B1:=b.toList.take 1) (X:=a.toList.take i) λy e x f=>by obtain⟨n,_,g,rfl⟩:=Jx f;obtain⟨m,l,p,rfl⟩:=Jx e;obtain rfl:m=0:=⋯;simp[d _ g]
 rw[zAd] at this;rw[this];simp
theorem Eq3.ga(h:Eq3 lt a b o i j)(f:Od lt)(c:Srt lt (att b) b.size)(g:q<=i)(s:0<j)(k:j<=b.size)(l:∀n,q<=n->n<i->n<a.size->lt (att b (j-1)) (att a n)=true):Eq3 lt a b (o++(a.extract q i).reverse) q j:=by unfold Eq3 at h ⊢;rw[<-h,qae7 g,Ju (le:=lee lt)];{simp};intro x d y p;rw[qd9] at d;obtain⟨n,t,r,rfl⟩:=qx3 d;obtain⟨m,u,v,rfl⟩:=Jx p;have e:=l (q+n) ⋯ ⋯ r;show (!lt (att b m) (att a (q+n)))=false;cases e2:lt (att b m) (att a (q+n)) with|true=>rfl|false=>rw[f.tr _ _ _ e2 (c m (j-1) ⋯ ⋯)] at e;cases e
theorem Eq3.gb(h:Eq3 lt a b o i j)(f:Od lt)(c:Srt lt (att a) a.size)(g:q<=j)(hi:0<i)(k:i<=a.size)(l:∀n,q<=n->n<j->n<b.size->lt (att b n) (att a (i-1))=false):Eq3 lt a b (o++(b.extract q j).reverse) i q:=by unfold Eq3 at h ⊢;rw[<-h,qae7 g,Hm (le:=lee lt)];{simp};intro y d x p;rw[qd9] at d;obtain⟨n,s,r,rfl⟩:=qx3 d;obtain⟨m,t,u,rfl⟩:=Jx p;have e:=l (q+n) ⋯ ⋯ r;show (!lt (att b (q+n)) (att a m))=true;rw[f.tr _ _ _ (c m (i-1) ⋯ ⋯) e];rfl
theorem Eq3.pa(h:Eq3 lt a b o i j)(f:Od lt)(c:Srt lt (att b) b.size)(hi:0<i)(d:i<=a.size)(g:0<j)(e:j<=b.size)(k:lt (att b (j-1)) (att a (i-1))=true):Eq3 lt a b (o.push (att a (i-1))) (i-1) j:=by
 have:=h.ga f c (q:=i-1) ⋯ g e λn l m _=>by rw[show n=i-1 by lia];exact k
 rwa[show o++(a.extract (i-1) i).reverse=o.push (att a (i-1)) from Array.toList_inj.mp (by rw[zB9,Array.toList_reverse,ext1 hi d,Array.toList_push];rfl)] at this
theorem Eq3.pb(h:Eq3 lt a b o i j)(f:Od lt)(c:Srt lt (att a) a.size)(hi:0<i)(d:i<=a.size)(g:0<j)(e:j<=b.size)(k:lt (att b (j-1)) (att a (i-1))=false):Eq3 lt a b (o.push (att b (j-1))) i (j-1):=by
 have:=h.gb f c (q:=j-1) ⋯ hi d λn l m _=>by rw[show n=j-1 by lia];exact k
 rwa[show o++(b.extract (j-1) j).reverse=o.push (att b (j-1)) from Array.toList_inj.mp (by rw[zB9,Array.toList_reverse,ext1 g e,Array.toList_push];rfl)] at this
theorem pz(h:¬(x==0)=true):0<x:=Nat.pos_of_ne_zero λe=>h (zBy.mpr e)
theorem p1(h:¬(x==1)=true)(h':0<x):1<x:=Nat.lt_of_le_of_ne h' λe=>h (zBy.mpr e.symm)
theorem dy(h:x+y+i+j<=N):x+i+j<=N:=⋯
theorem lc(h:x+i+j<=N)(h':q<=i):x+q+j<=N:=⋯
theorem ld(h:x+i+j<=N)(h':q<=j):x+i+q<=N:=⋯
theorem mw(h:x+i+j<=N)(h':0<i):x+1+(i-1)+j<=N:=⋯
theorem mv(h:x+i+j<=N)(h':0<j):x+1+i+(j-1)<=N:=⋯
theorem sH{β:Type}{Q:β->Lm->Prop}{n:Nat}{f:Option Nat->StateT Lm Sem β}(e:Od lt)(g:Cm prog w A s kd P lt)(m:Ln st=kd)(o:P key)(p:∀i,i<arr.size->P (att arr i))(r:Srt lt (att arr) arr.size)(t:0<n)(u:n<=arr.size)(h:∀q,q<=n->(0<q->B lt l key (att arr (q-1))=true)->(∀i,q<=i->i<n->B lt l key (att arr i)=false)->wpS (K7 prog w) A E s (f (some q)) Q st):wpS (K7 prog w) A E s (gal l key arr 0 n (n-1) >>= f) Q st:=Ld (wgs e g m o ⋯ p (λi j a b=>r _ _ ⋯ ⋯) ⋯ λk a b c=>h k a (λd=>zAe (k-1) ▸ b _ (Nat.sub_one_lt_of_lt d)) λi x y=>zAe i ▸ c i x y)
theorem wmhi(S:Od lt)(hC:Cm prog w A s kd P lt)(hk:Ln st=kd)(W:∀n,n<a.size->P (att a n))(X:∀n,n<b.size->P (att b n))(T:Srt lt (att a) a.size)(L:Srt lt (att b) b.size)(Y:0<a.size)(B:0<b.size)(h0:∀n,n<a.size->lt (att b 0) (att a n)=true)(hl:lt (att b (b.size-1)) (att a (a.size-1))=true)(h:∀r f,R st f->r.toList=Lu a.toList b.toList (lee lt)->Q r f):wpS (K7 prog w) A E s (mhi a b) Q st:=by
 have e1:Eq3 lt a b #[att a (a.size-1)] (a.size-1) b.size:=Eq3.pa (o:=#[]) (i:=a.size) (j:=b.size) (by unfold Eq3;rw[show a.toList.take a.size=a.toList from zAs (Nat.le_of_eq zB8),show b.toList.take b.size=b.toList from zAs (Nat.le_of_eq zB8)];simp) S L Y (zA3 _) B (zA3 _) hl;rw[qaY9];refine rB (eB (Nat.sub_one_lt_of_lt Y) (wif (λc=>Lf (h _ st ⟨rfl,rfl,rfl,rfl⟩ (e1.done (.inl (eq_of_beq c))))) λc1=>wif (λc=>Lf (h _ st ⟨rfl,rfl,rfl,rfl⟩ (e1.first (eq_of_beq c) B h0))) λc2=>gB ?_));let D (c:Option (Array Ll)):Prop:=∃r,c=some r/\r.toList=Lu a.toList b.toList (lee lt)
 let G (n:Nat) (o:Array Ll) (i j:Nat):Prop:=Eq3 lt a b o i j/\0<i/\i<=a.size/\1<j/\j<=b.size/\n+i+j<=a.size+b.size;refine fB (λx c f=>R st f/\c.1=none/\G (x+1) c.2.2.2.1 c.2.1 c.2.2.1) (λc f=>R st f/\D c.1) ?_ ?_ ⟨⟨rfl,rfl,rfl,rfl⟩,rfl,e1,pz c1,zCo _ _,p1 c2 B,zA3 _,mw (x:=0) ⋯ Y⟩ ?_
 .rintro F z x ⟨_,i,j,o,g⟩ Z-hx ⟨r1,rfl,g1,g2,g3,g4,g5,g6⟩ K p n;subst z;refine fB (λy c f=>R st f/\c.1=none/\G (x+1+y) c.2.2.2.1 c.2.1 c.2.2.1) (λc f=>R st f/\(D c.1∨c.1=none/\G (x+2) c.2.2.2.1 c.2.1 c.2.2.1)) ?_ ?_ ⟨r1,rfl,g1,g2,g3,g4,g5,g6⟩ ?_;{rintro F z y ⟨_,i,j,o,_,_⟩ a0-hy ⟨l,rfl,M,k,m,C,v,H⟩ K p n;subst z;have U:=zCk C;have N:=Nat.sub_one_lt_of_le k m;have I:=Nat.sub_one_lt_of_le U v;refine eB I (eB N (lB hC (l.1.trans hk) (X _ I) (W _ N) (λhb=>?_) λhb=>?_));{have e2:=M.pa S L k m U v hb;exact eB N (wif (λc=>Lf (p _ _ ⟨l,.inl ⟨_,rfl,e2.done (.inl (eq_of_beq c))⟩⟩)) λc=>wif (λ_=>Lf (p _ _ ⟨l,.inr ⟨rfl,e2,pz c,zBl N,C,v,mw (dy H) k⟩⟩)) λ_=>Lf (n _ _ ⟨l,rfl,e2,pz c,zBl N,C,v,mw H k⟩))};have e2:=M.pb S T k m U v hb;have y0:=Nat.sub_pos_of_lt C;exact eB I (wif (λc=>Lf (p _ _ ⟨l,.inl ⟨_,rfl,e2.first (eq_of_beq c) B h0⟩⟩)) λc=>wif (λ_=>Lf (p _ _ ⟨l,.inr ⟨rfl,e2,k,m,p1 c y0,zBl I,mv (dy H) U⟩⟩)) λ_=>Lf (n _ _ ⟨l,rfl,e2,k,m,p1 c y0,zBl I,mv H U⟩))};{rintro c a0 ⟨l,k0,M,k,m,C,v,H⟩;exact⟨l,.inr ⟨k0,M,k,m,C,v,⋯⟩⟩};rintro F z ⟨c,c'⟩ a0 ⟨l,⟨r,rfl,e⟩|⟨e,M,k,m,C,v,H⟩⟩;{subst z;exact Lf (p _ _ ⟨l,r,rfl,e⟩)};cases e;subst z;refine rB (fB (λy c f=>R st f/\c.1=none/\G (x+2) c.2.2.2.1 c.2.1 c.2.2.1) (λc f=>R st f/\(D c.1∨c.1=none/\G (x+2) c.2.2.2.1 c.2.1 c.2.2.1)) ?_ ?_ ⟨l,rfl,M,k,m,C,v,H⟩ ?_)
  .rintro F z y ⟨_,i,j,o,g,_,_⟩ a2-hy ⟨r3,rfl,M,k,m,C,v,H⟩ K p n;subst z;have U:=zCk C;have I:=Nat.sub_one_lt_of_le U v;have y0:=Nat.sub_pos_of_lt C;dsimp -zeta only;extract_lets +onlyGivenNames _ _ _ _ _ _ _ _ _ _ _ _ J;suffices u:∀g,wpS (K7 prog w) A E s (J () g) K a2 from wif (λ_=>u _) λ_=>u _
   intro g;dsimp +zetaDelta -zeta only;refine mB r3 λa1 O=>eB I (sH S hC (O.1.trans hk) (X _ I) W T k m λq V q2 q3=>?_);dsimp -zeta only;extract_lets +onlyGivenNames _ _ J;have ea:=M.ga S L V U v λn h1 h2 _=>nf (q3 n h1 h2);suffices u:∀i o,Eq3 lt a b o i j->0<i->i<=a.size->x+2+i+j<=a.size+b.size->lt (att b (j-1)) (att a (i-1))=false->wpS (K7 prog w) A E s (J () i o) K a1 from wif (λc=>wif (λd=>Lf (p _ _ ⟨O,.inl ⟨_,rfl,ea.done (.inl (eq_of_beq d))⟩⟩)) λd=>u _ _ ea (pz d) (zAl V m) (lc H V) (nt (q2 (pz d)))) λc=>by obtain rfl:=Nat.le_antisymm V (Nat.le_of_sub_eq_zero (Nat.eq_zero_of_not_pos c));exact u _ _ M k m H (nt (q2 k))
   intro i o e z1 z2 zb z;dsimp +zetaDelta -zeta only;have N:=Nat.sub_one_lt_of_le z1 z2;have e2:=e.pb S T z1 z2 U v z;refine eB I (wif (λd=>Lf (p _ _ ⟨O,.inl ⟨_,rfl,e2.first (eq_of_beq d) B h0⟩⟩)) λd=>?_);refine eB N (sH S hC (O.1.trans hk) (W _ N) X L y0 (zBl I) λq V q2 q3=>?_);dsimp -zeta only;extract_lets +onlyGivenNames _ _ _ J;have eb:=e2.gb S T V z1 z2 λn h1 h2 _=>q3 n h1 h2;suffices u:∀j o,Eq3 lt a b o i j->1<j->j<=b.size->x+2+i+j<=a.size+b.size->lt (att b (j-1)) (att a (i-1))=true->wpS (K7 prog w) A E s (J () j o) K a1 from wif (λc=>wif (λd=>Lf (p _ _ ⟨O,.inl ⟨_,rfl,eb.first (eq_of_beq d) B h0⟩⟩)) λd=>wif (λt=>Lf (p _ _ ⟨O,.inl ⟨_,rfl,eb.done (.inr (eq_of_beq t))⟩⟩)) λt=>u _ _ eb (p1 d (pz t)) (zAl V (zBl I)) (ld (ld zb (zCo _ 1)) V) (q2 (pz t))) λc=>by obtain rfl:=Nat.le_antisymm V (Nat.le_of_sub_eq_zero (Nat.eq_zero_of_not_pos c));exact u _ _ e2 (p1 d y0) (zBl I) (ld zb (zCo _ 1)) (q2 y0)
   intro j o e3 y1 y2 y5 y4;have e4:=e3.pa S L z1 z2 (zCk y1) y2 y4;exact eB N (wif (λd=>Lf (p _ _ ⟨O,.inl ⟨_,rfl,e4.done (.inl (eq_of_beq d))⟩⟩)) λd=>wif (λ_=>Lf (p _ _ ⟨O,.inr ⟨rfl,e4,pz d,zBl N,y1,y2,lc y5 (zCo _ 1)⟩⟩)) λ_=>Lf (n _ _ ⟨O,rfl,e4,pz d,zBl N,y1,y2,lc y5 (zCo _ 1)⟩))
  {exact λ_ _ z=>⟨z.1,.inr z.2⟩};rintro F z ⟨c,c'⟩ a0 ⟨l,⟨r,rfl,e⟩|⟨e,M,k,m,C,v,H⟩⟩<;>subst z;{exact Lf (p _ _ ⟨l,r,rfl,e⟩)};cases e;exact mB l λa1 O=>Lf (n _ _ ⟨O,rfl,M,k,m,C,v,H⟩)
 {rintro c Z ⟨r1,_,g1,g2,g3,g4,g5,g6⟩;lia};rintro F z ⟨c,c'⟩ Z ⟨r1,r,rfl,e⟩;subst z;exact Lf (h r Z r1 e)
end
theorem qo6(h:xs[i]?=ys[j]?):att xs i=att ys j:=by
 have e:∀(a:Array Ll) k,att a k=(a[k]?).getD (Nz,Nz):=λa k=>by simp[att,Array.getD_eq_getD_getElem?]
 rw[e,e,h]
theorem qan8(a:src<xs.size)(b:d<=src)(k:Nat):att (bubble xs src d) k=if k=src-d then att xs src else if src-d<k/\k<=src then att xs (k-1) else att xs k:=by have e:=getElem?_bubble a d b k;split at e;{rw[if_pos (by assumption)];exact qo6 e};rw[if_neg (by assumption)];split at e;{rw[if_pos (by assumption)];exact qo6 e};rw[if_neg (by assumption)];exact qo6 e
theorem qan7(a:j<=xs.size)(k:Nat):att (mirror xs i j ((j-i)/2)) k=if i<=k/\k<j then att xs (i+j-1-k) else att xs k:=by have e:=getElem?_mirror_all (i:=i) a k;split at e;{rw[if_pos (by assumption)];exact qo6 e};rw[if_neg (by assumption)];exact qo6 e
theorem qaA6(h:i<a.size):att a i∈a.toList:=by simp[att,Array.getD,h]
theorem Srt.more(h:Srt lt f x)(d:Od lt)(e:0<x->lt (f x) (f (x-1))=false):Srt lt f (x+1):=λi j a b=>by
 by_cases c:j<x
 .exact h i j a c
 obtain rfl:j=x:=⋯
 by_cases q:i=j
 .rw[q];exact d.ir _
 exact d.tr _ _ _ (h i (j-1) ⋯ ⋯) (e ⋯)
structure Bt(a0:Array Ll)(lo:Nat)(st st':Lm):Prop where
 kd:Ln st'=Ln st
 fl:Lh st'=Lh st
 pd:Lg st'=Lg st
 pm:(Lj st').Perm a0
 pr:∀i,i<lo->att (Lj st') i=att (Lj st) i
section
variable{prog:K8}{w:La}{A:K9}{E:V'->δ->Prop}{s:δ}{kd:SortKind}{lt:Ll->Ll->Bool}{st X:Lm}{Z:Array Ll}{Y:Nat}
theorem Bt.sz(h:Bt Z Y st X):(Lj X).size=Z.size:=h.pm.size_eq
theorem Bt.mem(h:Bt Z Y st X)(hi:i<Z.size):att (Lj X) i∈Z.toList:=(zBs.mp h.pm).mem_iff.mp (qaA6 (by rw[h.sz];exact hi))
theorem Bt.set(h:Bt Z Y st X)(b:xs.Perm (Lj X))(c:∀i,i<Y->att xs i=att (Lj X) i):Bt Z Y st (Lp X xs):=⟨h.kd,h.fl,h.pd,b.trans h.pm,λi a=>(c i a).trans (h.pr i a)⟩
abbrev Cn(prog:K8)(w:La)(A:K9)(s:δ)(kd:SortKind)(Z:Array Ll)(lt:Ll->Ll->Bool):Prop:=Cm prog w A s kd (λx=>x∈Z.toList) lt
theorem aB{β:Type}{i j:Nat}{Q:β->Lm->Prop}{f:Option Bool->StateT Lm Sem β}(b:Cn prog w A s kd Z lt)(c:Ln st=kd)(h:Bt Z Y st X)(hi:i<Z.size)(a:j<Z.size)(h':lt (att (Lj X) i) (att (Lj X) j)=true->wpS (K7 prog w) A E s (f (some true)) Q X)(d:lt (att (Lj X) i) (att (Lj X) j)=false->wpS (K7 prog w) A E s (f (some false)) Q X):wpS (K7 prog w) A E s (ltAt' i j >>= f) Q X:=by refine Ld ?_;rw[ltAt'_eq];refine gB (eB (by rw[h.sz];exact hi) (eB (by rw[h.sz];exact a) (wlt b (h.kd.trans c) (h.mem hi) (h.mem a) ?_)));cases e:lt (att (Lj X) i) (att (Lj X) j) with|true=>exact h' e|false=>exact d e
theorem wmv(h:Q () (Lp X (bubble (Lj X) p (p-q)))):wpS (K7 prog w) A E s (moveDown' p q) Q X:=by rw[moveDown'_eq];exact Li h
theorem qaT6(h:p<xs.size)(a:q<=p)(hi:i<q):att (bubble xs p (p-q)) i=att xs i:=by rw[qan8 h (zCo _ _),Nat.sub_sub_self a,if_neg (zAu hi),if_neg λc=>Nat.lt_asymm hi c.1]
theorem qbc3(h:p<xs.size)(a:q<=p):att (bubble xs p (p-q)) q=att xs p:=by rw[qan8 h (zCo _ _),Nat.sub_sub_self a,if_pos rfl]
theorem qbc2(h:p<xs.size)(a:q<=p)(h1:q<=i)(h2:i<p):att (bubble xs p (p-q)) (i+1)=att xs i:=by rw[qan8 h (zCo _ _),Nat.sub_sub_self a,if_neg (Nat.ne_of_gt (Nat.lt_succ_of_le h1)),if_pos ⟨Nat.lt_succ_of_le h1,h2⟩,Nat.add_sub_cancel]
theorem qaK6{F:Nat->Ll}{l:Nat}(e:Od lt)(c:l<=k)(s2:∀i j,i<=j->j<k->lt (f j) (f i)=false)(g:∀i,i<l->lt x (f i)=false)(n:∀i,l<=i->i<k->lt (f i) x=false)(h1:∀i,i<l->F i=f i)(h2:F l=x)(d:∀i,l<=i->i<k->F (i+1)=f i)(i j:Nat)(a:i<=j)(o:j<k+1):lt (F j) (F i)=false:=by rcases Nat.lt_trichotomy j l with h|h|h;{rw[h1 j h,h1 i (zCf a h)];exact s2 i j a (zAk h c)};{subst h;rw[h2];rcases Nat.lt_or_eq_of_le a with q|rfl;{rw[h1 i q];exact g i q};rw[h2];exact e.ir _};cases j with|zero=>exact absurd h (zCx _)|succ m=>have b:=Nat.lt_of_succ_lt_succ o;rw[d m (zC5 h) b];rcases Nat.lt_trichotomy i l with q|q|q;{rw[h1 i q];exact s2 i m (zAl (zBl q) (zC5 h)) b};{subst q;rw[h2];exact n m (zC5 h) b};cases i with|zero=>exact absurd q (zCx _)|succ p=>rw[d p (zC5 q) (zCf (Nat.le_of_succ_le_succ a) b)];exact s2 p m (Nat.le_of_succ_le_succ a) b
theorem wbin(D:Od lt)(J:Cn prog w A s kd Z lt)(L:Ln st=kd)(V:Y+n<=Z.size)(M:C<=n)(h1:1<=C)(N:Bt Z Y st X)(O:Srt lt (λi=>att (Lj X) (Y+i)) C)(h:∀e,Bt Z Y st e->Srt lt (λi=>att (Lj e) (Y+i)) n->Q true e):wpS (K7 prog w) A E s (binarySort' Y n C) Q X:=by
 rw[binarySort'_eq];refine fB (λk c e=>c=(none,())/\Bt Z Y st e/\Srt lt (λi=>att (Lj e) (Y+i)) (min k n)) (λc e=>c=(none,())/\Bt Z Y st e/\Srt lt (λi=>att (Lj e) (Y+i)) n) ?_ ?_ ⟨rfl,N,λi j a b=>O i j a ⋯⟩ ?_
 .rintro F z k c f P R ⟨rfl,m,g⟩ K p q;subst z;rw[show min k n=k by lia] at g;refine fB (λx c e=>e=f/\∃l r,c=(none,l,r)/\l<=r/\r<=k/\r-l<=k-x/\(∀i,i<l->lt (att (Lj f) (Y+k)) (att (Lj f) (Y+i))=false)/\(∀i,r<=i->i<k->lt (att (Lj f) (Y+i)) (att (Lj f) (Y+k))=false)) (λc e=>e=f/\∃l,c=(none,l,l)/\l<=k/\(∀i,i<l->lt (att (Lj f) (Y+k)) (att (Lj f) (Y+i))=false)/\(∀i,l<=i->i<k->lt (att (Lj f) (Y+i)) (att (Lj f) (Y+k))=false)) ?_ ?_ ⟨rfl,0,k,rfl,⋯,⋯,⋯,λi t=>⋯,λi h1 I=>⋯⟩ ?_;{rintro F z x c o-W ⟨rfl,l,r,rfl,S,u,T,v,B⟩ K p q;subst z;dsimp only;refine wif (λd=>?_) λd=>?_;{obtain rfl:l=r:=⋯;exact Lf (p _ _ ⟨rfl,l,rfl,u,v,B⟩)};exact aB J L m ⋯ ⋯ (λG=>Lf (q _ _ ⟨rfl,l,_,rfl,⋯,⋯,⋯,v,λi h1 I=>D.tr _ _ _ (D.as _ _ G) (g _ _ h1 I)⟩)) λG=>Lf (q _ _ ⟨rfl,_,r,rfl,⋯,⋯,⋯,λi h1=>D.tr _ _ _ (g i _ ⋯ ⋯) G,B⟩)};{rintro c o ⟨rfl,l,r,rfl,S,u,T,v,B⟩;obtain rfl:l=r:=⋯;exact⟨rfl,l,rfl,u,v,B⟩};rintro F z c o ⟨rfl,l,rfl,u,v,B⟩;subst z;dsimp only;have z:Y+k<(Lj o).size:=by rw[m.sz];lia
  have y:=Nat.add_le_add_left u Y;refine Ld (wmv (Lf (q _ _ ⟨rfl,m.set (bubble_perm _ _ _) λi t=>?_,?_⟩)));{exact qaT6 z y (zAk t (zBr _ _))};rw[show min (k+1) n=k+1 by lia];exact qaK6 D u g v B (λi t=>qaT6 z y (Nat.add_lt_add_left t Y)) (qbc3 z y) λi t H=>qbc2 z y (Nat.add_le_add_left t Y) (Nat.add_lt_add_left H Y)
 {rintro c f ⟨U,m,g⟩;rw[show min (max (max C 1) n) n=n by lia] at g;exact⟨U,m,g⟩};rintro F z c f ⟨rfl,m,g⟩;subst z;exact Lf (h f m g)
def Ds(lt:Ll->Ll->Bool)(Z:Array Ll):Prop:=Z.toList.Pairwise λx y=>lt x y=true∨lt y x=true
theorem Ds.at(h:Ds lt Z)(b:Bt Z Y st X)(c:i≠j)(hi:i<Z.size)(n:j<Z.size)(e:lt (att (Lj X) i) (att (Lj X) j)=false):lt (att (Lj X) j) (att (Lj X) i)=true:=by have d:(Lj X).toList.Pairwise λx y=>lt x y=true∨lt y x=true:=((zBs.mp b.pm).pairwise_iff λh=>h.symm).mpr h;rw[Mp] at d;have g:∀k,k<Z.size->∃a,(Lj X).toList[k]'a=att (Lj X) k:=λk a=>⟨by rw[zB8,b.sz];exact a,by simp[att,Array.getD,show k<(Lj X).size by rw[b.sz];exact a]⟩;obtain⟨f,l⟩:=g i hi;obtain⟨m,e2⟩:=g j n;rcases Nat.lt_or_gt_of_ne c with q|q;{have:=d i j f m q;rw[l,e2,e] at this;simpa using this};have:=d j i m f q;rw[l,e2,e] at this;simpa using this
theorem wcnt(v:Od lt)(D:Cn prog w A s kd Z lt)(M:Ds lt Z)(G:Ln st=kd)(T:Y+m<=Z.size)(h1:1<=m)(r:Bt Z Y st X)(h:∀n f,Bt Z Y st f->1<=n->n<=m->Srt lt (λi=>att (Lj f) (Y+i)) n->Q (some n) f):wpS (K7 prog w) A E s (countRun' Y m) Q X:=by
 rw[countRun'_eq];refine fB (λx c f=>f=X/\c=(none,x)/\Srt lt (λi=>att (Lj X) (Y+i)) x) (λc f=>f=X/\∃n,c=(none,n)/\1<=n/\n<=m/\Srt lt (λi=>att (Lj X) (Y+i)) n/\(n=m∨lt (att (Lj X) (Y+n)) (att (Lj X) (Y+n-1))=true)) ?_ ?_ ⟨rfl,rfl,λi j a b=>by rw[show i=j by lia];exact v.ir _⟩ ?_;{rintro F z x c g o N ⟨rfl,rfl,t⟩ K p q;subst z;exact aB D G r ⋯ ⋯ (λu=>Lf (p _ _ ⟨rfl,x,rfl,o,⋯,t,.inr u⟩)) λu=>Lf (q _ _ ⟨rfl,rfl,t.more v λ_=>by rw[<-Nat.add_sub_assoc o];exact u⟩)};{rintro c g ⟨rfl,rfl,t⟩;rw[show max 1 m=m by lia] at t ⊢;exact⟨rfl,m,rfl,h1,zA3 _,t,.inl rfl⟩};rintro F z c g ⟨rfl,n,rfl,J,L,t,d⟩;subst z;dsimp only;refine wif (λ_=>Lf (h n g r J L t)) λc=>?_;have d:=d.resolve_left (by simpa using c);refine wif (λP=>aB D G r ⋯ ⋯ (λ_=>Lf (h n g r J L t)) λe=>?_) λP=>?_;{rw[M.at r ⋯ ⋯ ⋯ (by rw[Nat.add_sub_assoc J];exact t 0 (n-1) ⋯ ⋯)] at e;cases e};obtain rfl:n=1:=⋯;simp at c;refine rB ?_;have O:Od λx y=>lt y x:=⟨λx y q=>v.as _ _ q,λx y z p q=>v.tr _ _ _ q p⟩;refine fB (λx c f=>f=g/\c=(none,x,0)/\Srt (λx y=>lt y x) (λi=>att (Lj g) (Y+i)) x) (λc f=>f=g/\∃n,c=(none,n,0)/\2<=n/\n<=m/\Srt (λx y=>lt y x) (λi=>att (Lj g) (Y+i)) n) ?_ ?_ ⟨rfl,rfl,?_⟩ ?_;{rintro F z x c l o N ⟨rfl,rfl,B⟩ K p q;subst z;exact aB D G r ⋯ ⋯ (λu=>wif (λ_=>wif (λc=>absurd c (zCg 0)) λ_=>Lf (q _ _ ⟨rfl,rfl,B.more O λ_=>by rw[<-Nat.add_sub_assoc ⋯];exact v.as _ _ u⟩)) λc=>absurd rfl c) λu=>aB D G r ⋯ ⋯ (λ_=>Lf (p _ _ ⟨rfl,x,rfl,o,⋯,B⟩)) λe=>by rw[M.at r ⋯ ⋯ ⋯ u] at e;cases e};{rintro c l ⟨rfl,rfl,B⟩;rw[show max (1+1) m=m by lia] at B ⊢;exact⟨rfl,m,rfl,⋯,zA3 _,B⟩};{refine Srt.more (λi j a b=>?_) O λ_=>v.as _ _ d;obtain rfl:i=j:=⋯;exact v.ir _};rintro F z c l ⟨rfl,n,rfl,J,L,B⟩;subst z;refine wif (λc=>absurd c (zCg 0)) λ_=>?_;dsimp only;have z:Y+n<=(Lj l).size:=by rw[r.sz];lia
 have H:=r.set (mirror_perm (Lj l) Y (Y+n) ((Y+n-Y)/2)) λi U=>by rw[qan7 z,if_neg ⋯]
 refine Ld (wpS_reverse ?_);refine fB (λx c f=>f=Lp l (mirror (Lj l) Y (Y+n) ((Y+n-Y)/2))/\c=(none,x)/\Srt lt (λi=>att (Lj f) (Y+i)) x) (λc f=>f=Lp l (mirror (Lj l) Y (Y+n) ((Y+n-Y)/2))/\∃k,c=(none,k)/\1<=k/\k<=m/\Srt lt (λi=>att (Lj f) (Y+i)) k) ?_ ?_ ⟨rfl,rfl,λi j a b=>?_⟩ ?_;{rintro F z x c I o N ⟨rfl,rfl,C⟩ K p q;subst z;exact aB D G H ⋯ ⋯ (λ_=>Lf (p _ _ ⟨rfl,x,rfl,⋯,⋯,C⟩)) λu=>Lf (q _ _ ⟨rfl,rfl,C.more v λ_=>by rw[<-Nat.add_sub_assoc ⋯];exact u⟩)};{rintro c I ⟨rfl,rfl,C⟩;rw[show max n m=m by lia] at C ⊢;exact⟨rfl,m,rfl,⋯,zA3 _,C⟩};{show lt (att (mirror _ _ _ _) _) (att (mirror _ _ _ _) _)=false;rw[qan7 z,qan7 z,if_pos ⋯,if_pos ⋯];have:=B (n-1-j) (n-1-i) ⋯ ⋯;rw[show Y+(Y+n)-1-(Y+j)=Y+(n-1-j) by lia,show Y+(Y+n)-1-(Y+i)=Y+(n-1-i) by lia];exact this};rintro F z c I ⟨rfl,k,rfl,R,S,C⟩;subst z;exact Lf (h k _ H R S C)
end
theorem qaZ0(i:Nat):mergeAt' i=(do
 let s<-get
 let (some (p,n,pw),some (q,m,_)):=((Lg s)[i]?,(Lg s)[i+1]?)|unsupported "internal:list.sort.pending"
 set (Lq s (((Lg s).setIfInBounds i (p,n+m,pw)).eraseIdxIfInBounds (i+1)))
 let some k<-gal false (<- elem' (Lj s) q) (Lj s) p n 0|return false
 let (p,n):=(p+k,n-k)
 if n==0 then return true
 let some m<-gal true (<- elem' (Lj s) (p+n-1)) (Lj s) q m (m-1)|return false
 if m==0 then return true
 let x:=(Lj s).extract p q
 let y:=(Lj s).extract q (q+m)
 let r<-if n<=m then mlo x y else mhi x y
 modify λs=>Lp s (r.toList.zipIdx.foldl (λa (z,j)=>a.setIfInBounds (p+j) z) (Lj s))
 return (Lh (<- get)).isNone):=rfl
theorem wr{p:Nat}:∀(L:List Ll)(n:Nat)(a:Array Ll),p+n+L.length<=a.size->((L.zipIdx n).foldl (λ(a:Array Ll)(z:Ll×Nat)=>a.setIfInBounds (p+z.2) z.1) a).toList=a.toList.take (p+n)++L++a.toList.drop (p+n+L.length)
 |[],n,a,_=>by simp|x::L,n,a,h=>by
  rw[zAn] at h;rw[Ms,Nk,wr L (n+1) _ (by rw[Array.size_setIfInBounds];lia),Array.toList_setIfInBounds,<-Nat.add_assoc,zAn,
   List.drop_set_of_lt ⋯,List.take_set,zBk,show a.toList[p+n]?.toList=[att a (p+n)] from ?_,Mx _ _ (by simp;lia),show p+n+1+L.length=p+n+(L.length+1) by lia]
  {simp[show min (p+n) a.size=p+n by lia]};rw[Array.getElem?_toList,qV7 ⋯];rfl
theorem qaA7(h:i+n<j)(b:j<=a.size):att (a.extract i j) n=att a (i+n):=qo6 (by rw[Array.getElem?_extract];rw[if_pos ⋯])
section
variable{prog:K8}{w:La}{A:K9}{E:V'->δ->Prop}{s:δ}{kd:SortKind}{lt:Ll->Ll->Bool}{st:Lm}{a0:Array Ll}
theorem wset(h:Q ⟨⟩ a):wpS (K7 prog w) A E s (set a:StateT Lm Sem PUnit) Q st:=by unfold wpS;rw[StateT.run_set];exact J' ⟨rfl,h⟩
theorem wmat(G:Od lt)(I:Cn prog w A s kd a0 lt)(J:Ln st=kd)(K:Lh st=none)(Y:Lg st = #[(0,n,F),(n,m,pv)])(H:(Lj st).Perm a0)(Z:0<n)(hm:0<m)(hz:n+m=a0.size)(h1:Srt lt (att (Lj st)) n)(h2:Srt lt (λi=>att (Lj st) (n+i)) m)(h:∀u,Lh u=none->Lg u = #[(0,n+m,F)]->(Lj u).toList=Lu ((Lj st).toList.take n) ((Lj st).toList.drop n) (lee lt)->Q true u):wpS (K7 prog w) A E s (mergeAt' 0) Q st:=by
 have a1:(Lj st).size=n+m:=H.size_eq.trans hz.symm;have D:∀i,i<(Lj st).size->att (Lj st) i∈a0.toList:=λi C=>(zBs.mp H).mem_iff.mp (qaA6 C);rw[qaZ0];refine gB ?_;rw[Y];have ep:(#[(0,n,F),(n,m,pv)].setIfInBounds 0 (0,n+m,F)).eraseIdxIfInBounds (0+1) = #[(0,n+m,F)]:=by simp[Array.eraseIdxIfInBounds]
 refine Ld (wset ?_);rw[ep];refine eB ⋯ (Ld (wgs G I J (D _ ⋯) ⋯ D (λi j a b=>by dsimp only;rw[zAe,zAe];exact h1 i j a b) Z λk S T N=>?_));simp only[zAe] at T N ⊢;have sD:(Lj st).toList.drop n=att (Lj st) n::(Lj st).toList.drop (n+1):=Ep ⋯;have O:Lu ((Lj st).toList.take n) ((Lj st).toList.drop n) (lee lt)=(Lj st).toList.take k++Lu (((Lj st).toList.drop k).take (n-k)) ((Lj st).toList.drop n) (lee lt):=by
  rw[<-List.drop_take,<-show ((Lj st).toList.take n).take k=(Lj st).toList.take k by rw[Nq,zCy S]];conv=>lhs;rw[<-zBh k ((Lj st).toList.take n)]
  rw[sD,Jv (le:=lee lt)];intro x L;rw[Nq,zCy S] at L;obtain⟨i,U,i2,rfl⟩:=Jx L;exact T i U
 refine wif (λc=>Lf (h _ K rfl ?_)) λc=>?_
 .obtain rfl:k=n:=by simp at c;lia
  rw[O,Nat.sub_self,M3,Np,zBh]
 have c:k<n:=by simp at c;lia
 rw[show k+(n-k)-1=n-1 by lia];refine eB ⋯ (Ld (wgs G I J (D _ ⋯) ⋯ D h2 ⋯ λv v1 v2 v3=>?_));have V:Lu (((Lj st).toList.drop k).take (n-k)) ((Lj st).toList.drop n) (lee lt)=Lu (((Lj st).toList.drop k).take (n-k)) (((Lj st).toList.drop n).take v) (lee lt)++(Lj st).toList.drop (n+v):=by
  conv=>lhs;rw[<-zBh v ((Lj st).toList.drop n)]
  rw[Mz,Hm (le:=lee lt)];intro y W x L;obtain⟨i,U,i2,rfl⟩:=qx3 L;rw[<-zAs (l:=(Lj st).toList.drop (n+v)) (zA3 _)] at W;obtain⟨j,_,j2,rfl⟩:=qx3 W;have e1:=h1 (k+i) (n-1) ⋯ ⋯;have e2:lt (att (Lj st) (n+(v+j))) (att (Lj st) (n-1))=false:=v3 (v+j) ⋯ ⋯;rw[<-Nat.add_assoc] at e2;show (!lt _ _)=true;rw[G.tr _ _ _ e1 e2];rfl
 dsimp only;refine wif (λc=>Lf (h _ K rfl ?_)) λd=>?_
 .obtain rfl:v=0:=by simpa using c
  rw[O,V,M3,Ni,Nat.add_zero,<-zAo,<-Nu,show k+(n-k)=n by lia,zBh]
 have d:0<v:=by simp at d;lia
 have P:((Lj st).extract k n).size=n-k:=by rw[Array.size_extract];lia
 have X:((Lj st).extract n (n+v)).size=v:=by rw[Array.size_extract];lia
 have g:∀i,i<n-k->att ((Lj st).extract k n) i=att (Lj st) (k+i):=λi C=>qaA7 ⋯ ⋯;have o:∀i,i<v->att ((Lj st).extract n (n+v)) i=att (Lj st) (n+i):=λi C=>qaA7 ⋯ ⋯;have post:∀(r:Array Ll)(f:Lm),R (Lq st #[(0,n+m,F)]) f->r.toList=Lu ((Lj st).extract k n).toList ((Lj st).extract n (n+v)).toList (lee lt)->wpS (K7 prog w) A E s (do
  modify λs=>Lp s (Mf (λ(a:Array Ll)(x:Ll×Nat)=>match x with|(z,j)=>a.setIfInBounds (k+j) z) (Lj s) r.toList.zipIdx)
  let t<-get
  pure (Lh t).isNone) Q f:=by
  intro r f M e;have len:r.toList.length=n-k+v:=by rw[e,List.length_merge,zB8,zB8,P,X]
  refine Ld (Li (gB ?_));show wpS _ _ _ _ (pure (Lh f).isNone) Q _;rw[M.2.2.2];show wpS _ _ _ _ (pure (Lh st).isNone) Q _;rw[K];refine Lf (h _ (M.2.2.2.trans K) M.2.2.1 ?_);show (Mf _ (Lj f) _).toList=_;rw[show Lj f=Lj st from M.2.1];have q:=wr (p:=k) r.toList 0 (Lj st) ⋯;rw[Nat.add_zero,len,show k+(n-k+v)=n+v by lia,e,qd9,qd9,show n+v-n=v by lia,zAo,<-V,<-O] at q;rw[e,qd9,qd9,show n+v-n=v by lia];exact q
 refine wif (λ_=>Ld (wmlo G I J (λi C=>?_) (λi C=>?_) (λi j a b=>?_) (λi j a b=>?_) ⋯ ⋯ ?_ (λi C=>?_) post)) λ_=>Ld (wmhi G I J (λi C=>?_) (λi C=>?_) (λi j a b=>?_) (λi j a b=>?_) ⋯ ⋯ (λi C=>?_) ?_ post);{rw[g i ⋯];exact D _ ⋯};{rw[o i ⋯];exact D _ ⋯};{rw[g i ⋯,g j ⋯];exact h1 _ _ ⋯ ⋯};{rw[o i ⋯,o j ⋯];exact h2 _ _ ⋯ ⋯};{rw[g 0 ⋯,o 0 ⋯];simpa[B] using N k (zA3 _) c};{rw[P,g _ ⋯,o i ⋯,show k+(n-k-1)=n-1 by lia];exact v2 i ⋯};{rw[g i ⋯];exact D _ ⋯};{rw[o i ⋯];exact D _ ⋯};{rw[g i ⋯,g j ⋯];exact h1 _ _ ⋯ ⋯};{rw[o i ⋯,o j ⋯];exact h2 _ _ ⋯ ⋯};{rw[g i ⋯,o 0 ⋯];simpa[B] using N (k+i) ⋯ ⋯};rw[P,X,g _ ⋯,o _ ⋯,show k+(n-k-1)=n-1 by lia];exact v2 _ ⋯
end
section
variable{prog:K8}{w:La}{A:K9}{E:V'->δ->Prop}{s:δ}{kd:SortKind}{lt:Ll->Ll->Bool}{st:Lm}{a0:Array Ll}
theorem qaB8(a:Srt lt (λj=>att xs (i+j)) n)(f:i+n<=xs.size):((xs.toList.drop i).take n).Pairwise λx y=>lee lt x y=true:=by
 rw[Mp];intro p q b c d;rw[zB5,zCe,zB8] at b c;have e:∀p (h:p<((xs.toList.drop i).take n).length),((xs.toList.drop i).take n)[p]=att xs (i+p):=λp h=>by rw[Nd,Nf];rw[zB5,zCe,zB8] at h;simp[att,Array.getD,show i+p<xs.size by lia]
 rw[e,e];show (!lt _ _)=true;rw[a p q ⋯ ⋯];rfl
def G2(lt:Ll->Ll->Bool)(a0:Array Ll)(st:Lm):Prop:=(Lj st).toList.Perm a0.toList/\(Lj st).toList.Pairwise (λx y=>lee lt x y=true)/\Lh st=none
structure One(lt:Ll->Ll->Bool)(kd:SortKind)(a0:Array Ll)(n:Nat)(st:Lm):Prop where
 pm:(Lj st).Perm a0
 k:Ln st=kd
 f:Lh st=none
 p:Lg st = #[(0,n,0)]
 s:Srt lt (att (Lj st)) n
structure Two(lt:Ll->Ll->Bool)(kd:SortKind)(a0:Array Ll)(n m pw:Nat)(st:Lm):Prop where
 pm:(Lj st).Perm a0
 k:Ln st=kd
 f:Lh st=none
 p:Lg st = #[(0,n,pw),(n,m,0)]
 s:Srt lt (att (Lj st)) n
 t:Srt lt (λi=>att (Lj st) (n+i)) m
theorem One.fin(h:One lt kd a0 n st)(c:n=a0.size):G2 lt a0 st:=by refine⟨zBs.mp h.pm,?_,h.f⟩;have:=qaB8 (i:=0) (n:=n) (xs:=Lj st) (λi j a b=>by dsimp only;rw[zAe,zAe];exact h.s i j a b) (by rw[h.pm.size_eq];lia);rwa[Ml,zAs (by rw[zB8,h.pm.size_eq];lia)] at this
theorem wrun(D:Od lt)(J:Cn prog w A s kd a0 lt)(T:Ds lt a0)(O:Ln st=kd)(hf:Lh st=none)(P:Lg st = #[])(L:(Lj st).Perm a0)(G:a0.size=64)(h:∀l,G2 lt a0 l->Q () l):wpS (K7 prog w) A E s sortRuns' Q st:=by
 rw[sortRuns'_eq];refine gB ?_;dsimp only;rw[L.size_eq.trans G];have hm:minRun' 64 64 0=32:=rfl;rw[hm];refine fB (λx c l=>(x=0/\c=(none,0)/\l=st)∨(x=1/\∃n,c=(none,n)/\32<=n/\n<=64/\One lt kd a0 n l)∨(2<=x/\c=(none,64)/\∃n m B,n+m=64/\0<n/\0<m/\Two lt kd a0 n m B l)) (λc l=>c=(none,64)/\(One lt kd a0 64 l∨∃n m B,n+m=64/\0<n/\0<m/\Two lt kd a0 n m B l)) ?_ ?_ (.inl ⟨rfl,rfl,rfl⟩) ?_
 .rintro F z x c u-hx (⟨rfl,rfl,rfl⟩|⟨rfl,n,rfl,I,n2,o⟩|⟨x2,rfl,n,m,B,e,I,R,o⟩) K p q<;>subst z
  .dsimp only;refine wif (λc=>absurd c ⋯) λ_=>?_;have S:Bt a0 0 u u:=⟨rfl,rfl,rfl,L,λ_ _=>rfl⟩;refine Ld (wcnt D J T O ⋯ ⋯ S λn r C I n2 M=>?_);have fin:∀k g,Bt a0 0 u g->32<=k->k<=64->Srt lt (λi=>att (Lj g) (0+i)) k->One lt kd a0 k (Lq g ((Lg g).push (0,k,0))):=λk g v _ _ H=>
    ⟨v.pm,v.kd.trans O,v.fl.trans hf,by show (Lg g).push _=_;rw[v.pd,P];rfl,λi j a b=>by have:=H i j a b;dsimp only at this;rwa[zAe,zAe] at this⟩
   refine wif (λc=>?_) λc=>?_;{refine rB ?_;refine Ld (wbin D J O ⋯ ⋯ I C M λg v H=>?_);refine wif (λc=>by cases c) λ_=>?_;refine gB ?_;rw[show (Lg g).back?=none by rw[v.pd,P];rfl];exact Ld (Li (Lf (q _ _ (.inr (.inl ⟨rfl,_,rfl,⋯,⋯,fin _ g v ⋯ ⋯ H⟩)))))};refine gB ?_;rw[show (Lg r).back?=none by rw[C.pd,P];rfl];exact Ld (Li (Lf (q _ _ (.inr (.inl ⟨rfl,_,rfl,⋯,⋯,by rw[zAe];exact fin _ r C ⋯ ⋯ M⟩)))))
  .dsimp only;refine wif (λc=>?_) λc=>?_;{obtain rfl:n=64:=⋯;exact Lf (p _ _ ⟨rfl,.inl o⟩)};have S:Bt a0 n u u:=⟨rfl,rfl,rfl,o.pm,λ_ _=>rfl⟩;refine Ld (wcnt D J T o.k ⋯ ⋯ S λk r C k1 k2 M=>?_);have U:∀q g,Bt a0 n u g->q=64-n->Srt lt (λi=>att (Lj g) (n+i)) q->∀B,Two lt kd a0 n q B (Lq (Lq g ((Lg g).modify ((Lg g).size-1) λx=>(x.fst,x.2.fst,B))) (((Lg g).modify ((Lg g).size-1) λx=>(x.fst,x.2.fst,B)).push (n,q,0))):=λq g v hq H B=>
    ⟨v.pm,v.kd.trans o.k,v.fl.trans o.f,by show ((Lg g).modify _ _).push _=_;rw[v.pd,o.p];rfl,λi j a b=>by show lt (att (Lj g) j) (att (Lj g) i)=false;rw[v.pr i ⋯,v.pr j b];exact o.s i j a b,H⟩
   have N:∀g,Bt a0 n u g->(Lg g).back?=some (0,n,0)/\¬(Lg g).size>1:=λg v=>by rw[v.pd,o.p];exact⟨rfl,zCg 1⟩
   refine wif (λd=>?_) λd=>?_;{refine rB ?_;refine Ld (wbin D J o.k ⋯ ⋯ k1 C M λg v H=>?_);refine wif (λc=>by cases c) λ_=>?_;refine gB ?_;rw[(N g v).1];refine fB (λx c l=>l=g/\c=(none,())) (λc l=>l=g/\c=(none,())) ?_ (λ_ _ h=>h) ⟨rfl,rfl⟩ ?_;{rintro F z x c y - - ⟨rfl,rfl⟩ K p q;subst z;refine gB ?_;rw[if_neg (N y v).2];exact Lf (p _ _ ⟨rfl,rfl⟩)};rintro F z c y ⟨rfl,rfl⟩;subst z;exact Ld (Li (Ld (Li (Lf (q _ _ (.inr (.inr ⟨zA3 2,by rw[show n+min (64-n) 32=64 by lia],n,_,_,⋯,⋯,⋯,U _ y v ⋯ H _⟩)))))))};refine gB ?_;rw[(N r C).1];refine fB (λx c l=>l=r/\c=(none,())) (λc l=>l=r/\c=(none,())) ?_ (λ_ _ h=>h) ⟨rfl,rfl⟩ ?_;{rintro F z x c y - - ⟨rfl,rfl⟩ K p q;subst z;refine gB ?_;rw[if_neg (N y C).2];exact Lf (p _ _ ⟨rfl,rfl⟩)};rintro F z c y ⟨rfl,rfl⟩;subst z;exact Ld (Li (Ld (Li (Lf (q _ _ (.inr (.inr ⟨zA3 2,by rw[show n+k=64 by lia],n,_,_,⋯,⋯,⋯,U _ y C ⋯ M _⟩)))))))
  dsimp only;exact wif (λ_=>Lf (p _ _ ⟨rfl,.inr ⟨n,m,B,e,I,R,o⟩⟩)) λc=>absurd (zA3 _) c
 {rintro c u (⟨V,_⟩|⟨V,_⟩|⟨x2,rfl,o⟩);{lia};{lia};exact⟨rfl,.inr o⟩};rintro F z c u ⟨rfl,o⟩;subst z;refine fB (λx c l=>c=(none,())/\(x=0/\l=u∨G2 lt a0 l/\(Lg l).size<=1)) (λc l=>c=(none,())/\G2 lt a0 l) ?_ ?_ ⟨rfl,.inl ⟨rfl,rfl⟩⟩ ?_;{rintro F t x c r - - ⟨rfl,⟨rfl,rfl⟩|⟨f,z⟩⟩ K W q'<;>subst t;{refine gB ?_;rcases o with o|⟨n,m,B,e,I,R,o⟩;{rw[if_pos (by rw[o.p];exact zA3 1)];exact Lf (W _ _ ⟨rfl,o.fin G.symm⟩)};rw[o.p];refine wif (λc=>absurd c (by simp)) λ_=>?_;refine Ld (wmat D J o.k o.f o.p o.pm I R ⋯ o.s o.t λg f3 p3 X=>?_);refine Lf (q' _ _ ⟨rfl,.inr ⟨⟨?_,?_,f3⟩,by rw[p3];exact zA3 1⟩⟩);{rw[X];have q:=List.merge_perm_append (le:=lee lt) (xs:=(Lj r).toList.take n) (ys:=(Lj r).toList.drop n);rw[zBh] at q;exact q.trans (zBs.mp o.pm)};rw[X];have sz:(Lj r).size=64:=o.pm.size_eq.trans G;refine List.pairwise_merge (λa b c Y Z=>?_) (λa b=>?_) _ _ ?_ ?_;{simp only[Bool.not_eq_true',lee] at Y Z ⊢;exact D.tr _ _ _ Y Z};{cases q:lt b a with|false=>simp[lee,q]|true=>simp[lee,q,D.as _ _ q]};{have:=qaB8 (i:=0) (n:=n) (xs:=Lj r) (λi j a b=>by dsimp only;rw[zAe,zAe];exact o.s i j a b) ⋯;rwa[Ml] at this};have:=qaB8 o.t ⋯;rwa[zAs (by rw[zCe,zB8];lia)] at this};refine gB ?_;rw[if_pos z];exact Lf (W _ _ ⟨rfl,f⟩)};{rintro c r ⟨rfl,⟨V,_⟩|⟨f,z⟩⟩;{lia};exact⟨rfl,f⟩};rintro F z c r ⟨rfl,f⟩;subst z;exact Lf (h r f)
end
noncomputable def plt(p q:Int×Int):Bool:=decide (p.1<q.1∨p.1=q.1/\p.2<q.2)
def TP(h:Heap)(v:V')(p:Int×Int):Prop:=∃b t u o n,v=.ref b/\h.get? b=some o/\o.cls=.type "tuple" /\ o.data=.seq #[.int p.1 t,.int p.2 u] n
section
variable{prog:K8}{w:La}{A:K9}{E:V'->δ->Prop}{s:δ}{kd:SortKind}{lt:Ll->Ll->Bool}{X:Lm}{U:Array Ll}
theorem wrunS(D:Od lt)(G:Cn prog w A s kd U lt)(I:Ds lt U)(u:Ln X=kd)(J:Lh X=none)(v:Lg X = #[])(t:(Lj X).Perm U)(h2:2<=U.size)(y:U.size<64)(h:∀d,G2 lt U d->Q () d):wpS (K7 prog w) A E s sortRuns' Q X:=by
 rw[sortRuns'_eq];refine gB ?_;obtain⟨f,L⟩:∃f,U.size=f+1:=⟨U.size-1,⋯⟩;have M:minRun' U.size U.size 0=U.size:=by
  conv=>lhs;rw[show minRun' U.size=minRun' (f+1) by rw[L]]
  rw[minRun'_succ,if_pos y];rfl
 dsimp only;rw[t.size_eq,M];refine fB (λx c d=>(x=0/\c=(none,0)/\d=X)∨(1<=x/\c=(none,U.size)/\One lt kd U U.size d)) (λc d=>c=(none,U.size)/\One lt kd U U.size d) ?_ ?_ (.inl ⟨rfl,rfl,rfl⟩) ?_
 .rintro F z x c l-R (⟨rfl,rfl,rfl⟩|⟨N,rfl,o⟩) K p q<;>subst z
  .dsimp only;refine wif (λc=>absurd c ⋯) λ_=>?_;have O:Bt U 0 l l:=⟨rfl,rfl,rfl,t,λ_ _=>rfl⟩;refine Ld (wcnt D G I u ⋯ ⋯ O λn m B P S H=>?_);have fin:∀k g,k=U.size->Bt U 0 l g->Srt lt (λi=>att (Lj g) (0+i)) k->One lt kd U U.size (Lq g ((Lg g).push (0,k,0))):=λk g e r C=>
    ⟨r.pm,r.kd.trans u,r.fl.trans J,by show (Lg g).push _=_;rw[r.pd,v,e];rfl,λi j a b=>by have:=C i j a ⋯;dsimp only at this;rwa[zAe,zAe] at this⟩
   refine wif (λc=>?_) λc=>?_;{refine rB ?_;refine Ld (wbin D G u ⋯ ⋯ P B H λg r C=>?_);refine wif (λc=>by cases c) λ_=>?_;refine gB ?_;rw[show (Lg g).back?=none by rw[r.pd,v];rfl];exact Ld (Li (Lf (q _ _ (.inr ⟨⋯,by rw[show 0+min (U.size-0) U.size=U.size by lia],fin _ g ⋯ r C⟩))))};refine gB ?_;rw[show (Lg m).back?=none by rw[B.pd,v];rfl];exact Ld (Li (Lf (q _ _ (.inr ⟨⋯,by rw[show 0+n=U.size by lia],fin _ m ⋯ B H⟩))))
  dsimp only;exact wif (λ_=>Lf (p _ _ ⟨rfl,o⟩)) λc=>absurd (zA3 _) c
 {rintro c l (⟨T,_⟩|⟨N,rfl,o⟩);{lia};exact⟨rfl,o⟩};rintro F z c l ⟨rfl,o⟩;subst z;refine fB (λx c d=>c=(none,())/\d=l) (λc d=>c=(none,())/\d=l) ?_ (λ_ _ h=>h) ⟨rfl,rfl⟩ ?_;{rintro F z x c m - - ⟨rfl,rfl⟩ K p q;subst z;refine gB ?_;rw[if_pos (by rw[o.p];exact zA3 1)];exact Lf (p _ _ ⟨rfl,rfl⟩)};rintro F z c m ⟨rfl,rfl⟩;subst z;exact Lf (h m (o.fin rfl))
theorem cmpP{q:Int×Int}(f:TP s.heap x p)(g:TP s.heap y q)(h:Q (plt p q) s):K6 (K7 prog w) A (keyLt' (tuples' true) x y) Q E s:=by obtain⟨b,t,u,o,n,rfl,i,_,j⟩:=f;obtain⟨c,m,v,B,C,rfl,k,_,l⟩:=g;have z:∀r:Bool,r=plt p q->Q r s:=λr e=>e ▸ h;refine W.kat_lt i j k l (W.kat_cons (wpAny_eqBool_int (W.kat_go (λa=>W.kat_yes (W.kat_cons (wpAny_eqBool_int (W.kat_go (λd=>W.kat_yes (W.kat_nil (z _ ?_))) λd=>W.kat_no (W.kat_one _ _ (lt_int (z _ ?_))))))) λa=>W.kat_no (oneLt_int (z _ ?_)))));{simp at a d;simp[plt,a,d]};{simp at a d;simp[plt,a]};simp at a;simp[plt,a]
theorem TP.keep(t:TP h v p)(k:∀b o,h.get? b=some o->o.cls=.type "tuple" -> h'.get? b=some o):TP h' v p:=by obtain⟨b,t,u,o,n,rfl,c,a,d⟩:=t;exact⟨b,t,u,o,n,rfl,k _ _ c a,a,d⟩
end
def kl(kf:V'->Int×Int)(x y:Ll):Bool:=plt (kf x.1) (kf y.1)
theorem kl_od(kf:V'->Int×Int):Od (kl kf):=⟨λx y h=>by simp[kl,plt] at h ⊢;lia,λx y z a b=>by simp[kl,plt] at a b ⊢;lia⟩
section
variable{prog:K8}{w:La}{A:K9}{E:V'->δ->Prop}{s:δ}
theorem kl_ds(c:(vs.map kf).Nodup):Ds (kl kf) (pairsOf vs):=by unfold Ds;rw[pairsOf_toList,show vs.zip vs=vs.map λv=>(v,v) by induction vs with|nil=>rfl|cons v vs d=>simp at c;rw[List.zip_cons_cons,d c.2];rfl,zBv];unfold List.Nodup at c;rw[zBv] at c;refine c.imp λ{a b} h=>?_;have e:¬((kf a).1=(kf b).1/\(kf a).2=(kf b).2):=λq=>h (Prod.ext q.1 q.2);simp only[kl,plt,zBd];lia
theorem qap7(g:s.heap.get? a=some (seqObj "list" vs.toArray n))(C:vs.length<=64)(k:(vs.map kf).Nodup)(D:∀h',(∀b o,s.heap.get? b=some o->o.cls=.type "tuple" -> h'.get? b=some o)->2<=vs.length->(∀(Q':SortKind->δ->Prop),Q' kd {s with heap:=h'}->K6 (K7 prog w) A (keyKind' vs.toArray) Q' E {s with heap:=h'})/\Cm prog w A {s with heap:=h'} kd (λx=>x.1∈vs) (kl kf))(h:∀out:List V',out.Perm vs->(out.map kf).Pairwise (λp q=>plt q p=false)->P (.done (.ret .none)) {s with heap:=sortedHeap s.heap a vs out.toArray}):K6 (K7 prog w) A (Builtin.«list.sort» ⟨[.ref a],[]⟩) P E s:=by
 have F:vs.toArray.size=vs.length:=zA7;have la:a<s.heap.objs.size:=zAc g;obtain⟨l,m⟩:∃e,(s.heap.update a (Obj.mapSeq λ_=>#[])).get? a=some (seqObj "list" #[] e):=⟨_,get?_update_seq g λ_=>#[]⟩;have r:(((s.heap.update a (Obj.mapSeq λ_=>#[])).push (seqObj "tuple" vs.toArray 0)).push (seqObj "list" #[] 0)).get? a=some (seqObj "list" #[] l):=zA2 _ (zA2 _ m);have G:∀b o,s.heap.get? b=some o->o.cls=.type "tuple" -> (((s.heap.update a (Obj.mapSeq λ_=>#[])).push (seqObj "tuple" vs.toArray 0)).push (seqObj "list" #[] 0)).get? b=some o:=λb o q H=>by
  have I:b≠a:=λz=>by rw[z,g] at q;cases q;simp at H
  exact zA2 _ (zA2 _ (by rw[Heap.get?_update_ne _ _ _ _ I];exact q))
 rw[list_sort_plain];refine E' (listItems_at g rfl (E' (listUpdate_at g rfl (E' (seqEpoch_at m rfl (E' (wpAny_newTuple (E' (wpAny_newList (Kn ?_) (zBo _))) (by show vs.length<=_;rw[Ks];lia))))) (by rw[F,Ks];lia) (zBo _))));show K6 (K7 prog w) A _ P E {s with heap:=((s.heap.update a (Obj.mapSeq λ_=>#[])).push (seqObj "tuple" vs.toArray 0)).push (seqObj "list" #[] 0)};have last:∀d:Lm,(Lj d).toList.Perm (pairsOf vs).toList->(Lj d).toList.Pairwise (λx y=>lee (kl kf) x y=true)->Lh d=none->P (.done (.ret .none)) {s with heap:=sortedHeap s.heap a vs ((Lj d).map (·.2))}/\((Lj d).map (·.2)).size<=Kk+1:=λd i J _=>by
  rw[pairsOf_toList] at i;have u:∀p∈(Lj d).toList,p.1=p.2:=λp K=>(mem_zip_self (i.mem_iff.mp K)).1;have e2:((Lj d).map (·.2))=((Lj d).toList.map (·.2)).toArray:=Array.toList_inj.mp (by rw[Array.toList_map]);have pv:((Lj d).toList.map (·.2)).Perm vs:=by have:=i.map Prod.snd;rwa[List.map_snd_zip (zA3 _)] at this
  rw[e2];refine⟨h _ pv ?_,by rw[zA7,pv.length_eq,Ks];lia⟩;rw[zC3,zBv];refine(List.Pairwise.and_mem.mp J).imp λ{x y} ⟨L,M,q⟩=>?_;show plt (kf y.2) (kf x.2)=false;rw[<-u x L,<-u y M];simpa[lee,kl] using q
 have tail:∀d:Lm,G2 (kl kf) (pairsOf vs) d->K6 (K7 prog w) A (do
  let t:=(<- seqEpoch a) != l
  Builtin.List.listUpdate (.ref a) λ_=>(Lj d).map (·.2)
  if let some e:=Lh d then rule "list.sort.comparison-raised";throw e
  if t then rule "list.sort.modified";raiseError "ValueError" "list modified during sort"
  ret .none) P E {s with heap:=((s.heap.update a (Obj.mapSeq λ_=>#[])).push (seqObj "tuple" vs.toArray 0)).push (seqObj "list" #[] 0)}:=λd f=>by
  have z:=last d f.1 f.2.1 f.2.2;refine E' (seqEpoch_at r rfl (E' (listUpdate_at r rfl ?_ (zBo _) z.2)));rw[f.2.2];simp only[bne_self_eq_false,zCw,if_false];exact J' z.1
 by_cases c:vs.toArray.size<2;{rw[if_pos c,if_pos c];refine E' (J' ?_);dsimp only;rw[StateT.run_pure];refine E' (J' (tail (SortSt.mk' general' (vs.toArray.zip vs.toArray) #[] 7 none) ⟨List.Perm.refl _,?_,rfl⟩));show (pairsOf vs).toList.Pairwise _;rw[pairsOf_toList];match vs,c with|[],_=>exact .nil|[v],_=>simp|_::_::_,c=>simp at c;lia};rw[if_neg c,if_neg c];obtain⟨N,O⟩:=D _ G ⋯;refine E' (N _ ?_);have B:Cn prog w A {s with heap:=((s.heap.update a (Obj.mapSeq λ_=>#[])).push (seqObj "tuple" vs.toArray 0)).push (seqObj "list" #[] 0)} kd (pairsOf vs) (kl kf):=λx y Q R=>O x y (mem_zip_self (pairsOf_toList vs ▸ Q)).2 (mem_zip_self (pairsOf_toList vs ▸ R)).2;have j:wpS (K7 prog w) A E {s with heap:=((s.heap.update a (Obj.mapSeq λ_=>#[])).push (seqObj "tuple" vs.toArray 0)).push (seqObj "list" #[] 0)} sortRuns' (λ_ d=>G2 (kl kf) (pairsOf vs) d) (SortSt.mk' kd (vs.toArray.zip vs.toArray) #[] 7 none):=by rcases Nat.lt_or_ge vs.length 64 with q|q;{exact wrunS (kl_od kf) B (kl_ds k) rfl rfl rfl (Array.Perm.refl _) (by rw[pairsOf_size];lia) (by rw[pairsOf_size];exact q) λ_ f=>f};exact wrun (kl_od kf) B (kl_ds k) rfl rfl rfl (Array.Perm.refl _) (by rw[pairsOf_size];lia) λ_ f=>f
 refine E' (Kw j ?_ λ_ _ e=>e);rintro⟨⟨⟩,d⟩ S ⟨rfl,f⟩;exact tail d f
theorem sorted6{l:γ}(f:s.heap.IsList l vs.toArray)(a:vs.length<=64)(g:(vs.map kf).Nodup)(i:∀(A:K9)(E:V'->δ->Prop) h',(∀b o,s.heap.get? b=some o->o.cls=.type "tuple" -> h'.get? b=some o)->2<=vs.length->(∀(Q':SortKind->δ->Prop),Q' kd {s with heap:=h'}->K6 (K7 prog w) A (keyKind' vs.toArray) Q' E {s with heap:=h'})/\Cm prog w A {s with heap:=h'} kd (λx=>x.1∈vs) (kl kf))(h:∀out:List V',out.Perm vs->(out.map kf).Pairwise (λp q=>plt q p=false)->Q (.ref (s.heap.objs.size+1)) {s with heap:=sortedAll s.heap vs out.toArray}):K6 (K7 prog w) A (call (.builtin "sorted") [.ref l]) Q E s:=by
 refine Calls.call_function_entry kind_sorted plain_sorted entry_sorted (args_sorted1 _) ?_;unfold Builtin.«sorted»;refine E' (m:=checkCount "sorted" 1 1 _) (J' (E' (collect_list f (E' (wpAny_newList ?_ (by rw[Ks];lia))) (by rw[Ks];lia))));have d:((s.heap.push (seqObj "list" #[] 0)).update s.heap.objs.size (Obj.mapSeq (·++vs.toArray))).objs.size=s.heap.objs.size+1:=by rw[Heap.size_update,size_push']
 have e:(((s.heap.push (seqObj "list" #[] 0)).update s.heap.objs.size (Obj.mapSeq (·++vs.toArray))).push (seqObj "list" vs.toArray 0)).get? (s.heap.objs.size+1)=some (seqObj "list" vs.toArray 0):=by rw[<-d];exact zAp _ rfl
 have j:∀b o,s.heap.get? b=some o->(((s.heap.push (seqObj "list" #[] 0)).update s.heap.objs.size (Obj.mapSeq (·++vs.toArray))).push (seqObj "list" vs.toArray 0)).get? b=some o:=λb o q=>
  zA2 _ (by rw[Heap.get?_update_ne _ _ _ _ (zAu (zAc q))];exact zA2 _ q)
 show K6 _ _ _ _ _ {s with heap:=((s.heap.push (seqObj "list" #[] 0)).update s.heap.objs.size (Obj.mapSeq (·++vs.toArray))).push (seqObj "list" vs.toArray 0)};rw[d];refine E' (Kn (wpAny_call_entry slot_list_sort ⟨_,e,rfl⟩ entry_list_sort (qap7 e a g (λh' k c=>i _ _ h' (λb o q n=>k b o (j _ _ q) n) c) λout r t=>⟨_,rfl,?_⟩) (args_list_sort _)));exact J' ⟨_,rfl,h out r t⟩
end
end S6
namespace LV
open PySem L2 PyProof.Rows
variable{ps:List (Int×Int)}
abbrev Dr(ps:List (Int×Int)):List (Int×Int):=ps.mergeSort λp q=>!S6.plt q p
def PrA(H:Hp)(v:V)(p:Int×Int):Prop:=∃b,v=.ref b/\H b=some (.q [.int p.1,.int p.2])
noncomputable def kfh(h:Heap):V'->Int×Int
 |.ref b=>match h.get? b with|some o=>(match o.data with|.seq xs _=>(numOf (xs.getD 0 .none),numOf (xs.getD 1 .none))|_=>(0,0))|none=>(0,0)
 |_=>(0,0)
theorem qaZ4(t:S6.TP h v p):kfh h v=p:=by obtain⟨b,t,u,o,n,rfl,a,d,c⟩:=t;simp only[kfh,a,c];rfl
noncomputable def vOf:V'->V|.ref b=>.ref b|_=>.non
section
variable{X:Cx}{D8:List (γ×Obj)}{σ:List (Option V)}{H:Hp}{s:δ}
theorem qaM6(I:Pb X D8 σ H s)(r:O9 vs its)(t:Paired (PrA H) vs ps):its.map (kfh s.heap)=ps/\∀u∈its,S6.TP s.heap u (kfh s.heap u)/\∃b,u=.ref b/\H b=some (.q [.int (kfh s.heap u).1,.int (kfh s.heap u).2]):=by
 induction t generalizing its with
 |nil=>cases r;exact⟨rfl,nofun⟩|@cons v p vs ps h t f=>
  cases r with
  |@cons _ u _ its ru rt=>
   obtain⟨b,rfl,c⟩:=h;cases ru;obtain⟨w,q,⟨o,g,i,n,j⟩,_⟩:=I.tuple (.inl (.inl c));have d:S6.TP s.heap (.ref b) p:=by obtain⟨x,y,rfl,⟨t1,rfl⟩,t2,rfl⟩:=O9.two q;exact⟨b,t1,t2,o,n,rfl,g,i,j⟩
   have e:=qaZ4 d;obtain⟨k,l⟩:=f rt;refine⟨by rw[zAy,e,k],λu a=>?_⟩;rcases zAh.mp a with rfl|a;{rw[e];exact⟨d,b,rfl,c⟩};exact l u a
theorem qax6{h:Heap}:∀{out:List V'},(∀u∈out,∃b,u=.ref b/\H b=some (.q [.int (kfh h u).1,.int (kfh h u).2]))->O9 (out.map vOf) out/\Paired (PrA H) (out.map vOf) (out.map (kfh h))|[],_=>⟨.nil,.nil⟩|u::out,k=>by obtain⟨b,rfl,c⟩:=k u zAf;have a:=qax6 (out:=out) λv d=>k v (zA9 _ d);exact⟨.cons rfl a.1,.cons ⟨b,rfl,c⟩ a.2⟩
theorem qW1{h:Heap}{kf:V'->Int×Int}:∀{its:List V'},(∀u∈its,S6.TP h u (kf u))->∃fs,W.KatTups h its fs/\fs.length=its.length/\∀f∈fs,∃i t,f=Ny i t|[],_=>⟨[],trivial,rfl,nofun⟩|u::its,k=>by obtain⟨fs,f1,f2,f3⟩:=qW1 (its:=its) λv c=>k v (zA9 _ c);obtain⟨b,t,w,o,n,rfl,d,e,g⟩:=k u zAf;refine⟨Ny _ t::fs,W.KatTups.cons d e g rfl f1,by rw[zAn,f2];rfl,λf a=>?_⟩;rcases zAh.mp a with rfl|a;{exact⟨_,_,rfl⟩};exact f3 f a
theorem qaf7(ps:List (Int×Int)):(Dr ps).Pairwise λp q=>S6.plt q p=false:=by
 refine(List.pairwise_mergeSort (λa b c d e=>?_) (λa b=>?_) ps).imp λ{a b} h=>by simpa using h
 {simp[S6.plt] at d e ⊢;lia};simp[S6.plt];lia
theorem qaC0(d:c.Perm ps)(e:c.Pairwise λp q=>S6.plt q p=false):c=Dr ps:=by refine List.Perm.eq_of_pairwise (le:=λp q=>S6.plt q p=false) (λa b _ _ f g=>?_) e (qaf7 ps) (d.trans (M6 _ _).symm);simp[S6.plt] at f g;exact Prod.ext ⋯ ⋯
def qaL7(K:Oa):List V->Hp->VK->Prop:=λxs H Q=>∃a vs ps,xs=[.ref a]/\SqL K H a vs/\Paired (PrA H) vs ps/\ps.Nodup/\ps.length<=64/\∀l b,H l=none->Paired (PrA H) b (Dr ps)->Q (.ref l) (upd H l (.l b))
theorem qan5:CallR X (.builtin "sorted") (qaL7 X.K):=by
 intro D8 s σ H V Y Q I r h;obtain⟨a,Z,B,rfl,C,t,D,hl,q⟩:=h;obtain⟨u,rfl,F⟩:=Dm r;cases F;obtain⟨f,G,J,hz⟩:=I.list C;obtain⟨j,g⟩:=qaM6 I G t;have L:f.length<=64:=by have:=congrArg Lv j;rw[zA5] at this;lia
 refine S6.sorted6 (kf:=kfh s.heap) (kd:=tuples' true) J.isList L (by rw[j];exact D) (λA E h' k c=>⟨λQ' l=>?_,λx y M N E Q l=>?_⟩) λd m O=>?_;{obtain⟨fs,f1,f2,f3⟩:=qW1 λu n=>(g u n).1.keep k;refine W.kat_kind (T:=.type "int") f1 ⋯ (λv P=>?_) rfl l;obtain⟨i,t,rfl⟩:=f3 v P;exact W.Looks.of_pure rfl};{exact S6.cmpP ((g _ M).1.keep k) ((g _ N).1.keep k) l};obtain⟨R,p⟩:=qax6 (H:=H) (h:=s.heap) (out:=d) λu n=>(g u (m.mem_iff.mp n)).2;obtain⟨e,S⟩:=sortedAll_at s.heap f d.toArray;have U:d.map (kfh s.heap)=Dr B:=qaC0 (j ▸ m.map _) O;rw[U] at p;refine⟨.ref _,_,I.laid (t':=s.toks) (λb o z=>sortedAll_old z) (Nat.le_succ _) (show ObjOk X.prog X.w _ _ _ (.l (d.map vOf)) from⟨?_,d,e,R,S⟩),rfl,q _ _ (I.hok.fresh (Nat.le_succ _)) p⟩;rw[zA5,m.length_eq,Ks];lia
noncomputable def Ie:D->Option (Int×Int)|.q [.int a,.int b]=>some (a,b)|_=>none
noncomputable def prD2(p:Int×Int):D:=.q [.int p.1,.int p.2]
def qaz4(x:D):Option D:=match x with|.l _ ys=>(ys.mapM Ie).bind λps=>gd (ps.Nodup/\ps.length<=64) (.l false ((Dr ps).map prD2))|_=>none
theorem qah0:∀{ys:List D}{ps:List (Int×Int)},ys.mapM Ie=some ps->ys=ps.map prD2|[],ps,h=>by cases h;rfl|y::ys,ps,h=>by rw[Nr] at h;obtain⟨p,a,h⟩:=zA1.mp h;obtain⟨c,b,h⟩:=zA1.mp h;cases h;rw[zAy,qah0 b];congr 1;unfold Ie at a;split at a;{cases a;rfl};cases a
theorem qaM7{F:γ->Prop}{H:Hp}:∀{ps:List (Int×Int)}{vs:List V}{A:List γ},O4 F H vs (ps.map prD2) A->Paired (PrA H) vs ps|[],_,_,r=>by cases r;exact .nil|p::ps,_,_,r=>by cases r with|cons h t=>obtain⟨a,d,rfl,e,r⟩:=h.tup_inv;obtain⟨v,w,_,_,rfl,b,c,_⟩:=r.two_inv;rw[b.int_inv,c.int_inv] at e;exact .cons ⟨_,rfl,e⟩ (qaM7 t)
theorem qaD2(t:Paired (PrA H) a ps):O4 F H a (ps.map prD2) []:=by induction t with|nil=>exact .nil|cons h t c=>obtain⟨b,rfl,d⟩:=h;exact .cons (A:=[]) (B:=[]) (.q d (.cons (A:=[]) (B:=[]) (.int _) (.cons (A:=[]) (B:=[]) (.int _) .nil))) c
theorem qaI3{K:Oa}:CS1 true (qaL7 K) qaz4:=by intro F H v x B d Q r h q;cases x with|l z n=>obtain⟨c,e,f⟩:=zA1.mp h;obtain⟨⟨g,i⟩,rfl⟩:=ql8 f;cases qah0 e;obtain⟨a,j,A,rfl,k,m,_⟩:=r.lst_inv;exact⟨a,j,c,rfl,.inl (.inl k),qaM7 m,g,i,λl o b t=>q _ _ [l] (qB7 b (qaD2 t)) (Same.new b) (qi2 b)⟩|_=>cases h
end
theorem qY3{F:γ->Prop}{H:Hp}:∀ns:List Int,O4 F H (ns.map V.int) (ns.map D.int) []|[]=>.nil|n::ns=>.cons (A:=[]) (B:=[]) (.int n) (qY3 ns)
end LV
namespace LV
open PySem L2
mutual
def D.plain:D->Bool|.q ds=>D.plains ds|.l z ds=>!z&&D.plains ds|.non=>true | .bl _=>true | .int _=>true | .str _=>true|_=>false
def D.plains:List D->Bool|[]=>true|d::r=>d.plain&&D.plains r
end
theorem Pa.plain{F F':γ->Prop}{H:Hp}{v:V}{d:D}{A:List γ}(r:Pa F H v d A):d.plain=true->Pa F' H v d A:=by induction r using Pa.rec (motive_2:=λc a A _=>D.plains a=true->O4 F' H c a A) with|q e r i=>exact λh=>.q e (i h)|l e r i=>exact λh=>.l e (i h)|non=>exact λ_=>.non|bl b=>exact λ_=>.bl b|int i=>exact λ_=>.int i|str x=>exact λ_=>.str x|nil=>exact O4.nil|cons _ _ i j h=>exact O4.cons (i (zAm.mp h).1) (j (zAm.mp h).2)|_=>nofun
section
variable{c:Vc}{X:Cx}{e:Lb}{Z:List Lb}{Y:VTB}{pos p:Pos}{x qual:Str}{st:Lc}{f:γ}{fd:ε}{ps:List Str}{k:Nat}{s:VSp}
def qaB5(s:VSp)(Y:VTB):VT:=λds Q xe=>Y ds (λxs ps ds1=>s (D.fzs xs) (λd _=>d.plain=true/\orF (Aq ps xs ds1) λa=>Q d a) (λ_ _=>False)) xe
theorem qaI9(n:Bo s)(p:VAs c X Z Y):∀W H Q,Bm c (qaB5 s Y) W H Q->G9 (Ey s) [] c.E (Ek c Y) W H Q:=by
 rintro W H Q ⟨F,r,A,t,S,x,q⟩;refine⟨F,r,A,t,S,x,p.m _ _ _ _ _ (λu R w q U H1 F1 T A1 a B S1 g C=>?_) (λ_ _ z=>z) q⟩;rw[zAd];refine⟨λb=>F1 b∨b∈T,D.fzs u,[],a.fz (λ_=>.inl) (λ_=>.inr),⟨λb=>by simp,λb _=>by simp,λb h=>h.elim (g.ex b) λh=>let ⟨o,e,_⟩:=a.cells b h;⟨o,e⟩⟩,n _ _ _ _ _ (λd G q v H2 F2 T2 A2 I V J i=>?_) (λy G q=>q.elim) q⟩;obtain⟨K,q⟩:=q;obtain⟨L,M,q⟩:=qa7.mp q;have f:Same H1 H2:=λb o e=>i.fr b o e (by simp);have j:New H1 T2:=⟨λb=>by have:=J.sep b;rw[zA0] at this;lia,λb o e=>by have:=i.sub b o e (by simp);rw[zA0] at this;lia⟩;obtain⟨A3,N,q2⟩:=qu3 (more:=[]) B (by rw[zAd];exact a.same f) (S1.loc.same f) M;have O:∀b∈T++A1,∃o,H1 b=some o/\Ed o=true:=λb P=>(zA6.mp P).elim (a.cells b) (S1.loc.cells b);have k:∀b,(T2++A3).count b<=(T2++(T++A1)).count b:=λb=>by simp only[zA0];have:=q2 b;lia
 have l:Ok F1 H2 (T2++A3):=(j.ok g O f).count k;exact q v H2 F1 T2 A3 (I.plain K) ⟨N,l.right,S.len,S.ag⟩ l ((C.trans (j.stp f)).count k)
theorem qaH9(D:Df X.K X.mg x qual st f fd ps)(G:Eu cm X.prog X.w X.K X.mg X.base k f fd ps s)(j:Lands X c.E)(l:Pe cm k X.A)(a:VAs c X (e::Z) Y)(n:Gl X x:=by rfl)(g:N' x:=by decide)(o:Kj (e::Z) X.env=(false,eval e X.env)::Kj Z X.env:=by rfl)(i:(backTo pos (Kj Z X.env)).any (·.1)=false:=by rfl):VE c X (.Call (.Name x p) (e::Z) [] pos) (qaB5 s Y):=⟨PE.mono (qah7 G.ok l n D.m D.F.kp D.b .nil j.passes a.h g o i) (qaI9 G.m a),λv Q Q' y q r t=>a.m _ _ _ _ _ (λB ps u=>G.m _ _ _ _ _ (λd C=>N7 (qa4 λz=>r _ _)) (λ_ _ z=>z)) t⟩
end
end LV
namespace LV
open PySem L2 PyProof.Rows
section
variable{c:Vc}{X:Cx}{e:Lb}{n o:VT}{s:VSp}
def tOrT(n o:VT):VT:=λds Q xe=>n ds Q xe∨o ds Q xe
theorem eAlt(g:VE c X e n)(i:VE c X e o):VE c X e (tOrT n o):=by refine⟨λD8 s l H Q I b=>?_,λd Q Q' f k j a=>O2 (g.m _ _ _ _ _ j a) (i.m _ _ _ _ _ j a)⟩;obtain⟨F,d,A,f,S,a,q⟩:=b;rcases q with q|q;{exact g.h D8 s l H Q I ⟨F,d,A,f,S,a,q⟩};exact i.h D8 s l H Q I ⟨F,d,A,f,S,a,q⟩
end
end LV
namespace L2
open PySem PySem.Spec PyProof.Rows
def qax1:V->List V->Hp->VK->Prop:=λx vs H Q=>∃(l:γ)(ns:List Int)(k:Int),x=.ref l/\vs=[.int k]/\H l=some (.l (ns.map V.int))/\k∈ns/\Q .non (upd H l (.l ((ns.erase k).map V.int)))
theorem qZ0{k:Int}:∀{ns:List Int},k∈ns->∃j,ns[j]?=some k/\(∀(m:Nat)(x:Int),m<j->ns[m]?=some x->x≠k)/\ns.eraseIdx j=ns.erase k|y::ns,h=>by by_cases e:y=k;{subst e;exact⟨0,rfl,λm x a=>absurd a (zCx _),by rw[List.erase_cons_head];rfl⟩};obtain⟨j,c,d,f⟩:=qZ0 ((zAh.mp h).resolve_left λz=>e z.symm);refine⟨j+1,c,λm x a b=>?_,by rw[List.erase_cons_tail (by simpa using e),<-f];rfl⟩;cases m with|zero=>cases b;exact e|succ m=>exact d m x ⋯ b
theorem qar6:MtM X "list.remove" qax1:=by
 intro D8 s U H x R v S Q I J K h;obtain⟨l,d,k,rfl,rfl,D,L,q⟩:=h;cases J;obtain⟨u,rfl,M,rfl⟩:=K.one;obtain⟨z,b,n,r,T,e⟩:=I.lstM D;have f:=r.length;rw[zA5] at f;have g:∀m (c:m<b.length),∃t,b[m]=Ny (d[m]'⋯) t:=λm c=>by obtain⟨w,E,t,rfl⟩:=r.get (i:=m) (x:=.int (d[m]'⋯)) (by simp[show m<d.length by lia]);exact⟨t,by rw[zB2 c] at E;exact N8 E⟩
 let G:V'->Bool:=λy=>match y with | .int i _=>i==k|_=>false
 obtain⟨j,N,p,A⟩:=qZ0 L;obtain⟨O,B⟩:=zA4.mp N;have o:∀m (c:m<b.toArray.size),G b.toArray[m]=(d[m]'(by simp at c;lia)==k):=λm c=>by
  obtain⟨t,e⟩:=g m (by simpa using c);have e:b.toArray[m]=Ny (d[m]'(by simp at c;lia)) t:=by simpa using e
  rw[e]
 refine Kz Os ⟨_,e,rfl⟩ F.entry_list_remove (F.args_list_remove_2 _ _) (MeetsSeq.list_remove l b.toArray n (.int k M) G (λy P=>?_) j (by simp;lia) ?_ (λm c C=>?_) (by rw[zA7];lia)) ⟨e,?_⟩;{obtain⟨m,c,rfl⟩:=List.getElem_of_mem (by simpa using P:y∈b);obtain⟨t,e⟩:=g m c;rw[e];exact MeetsSeq.EqGives.int _ _ _ _};{rw[o];simp[B]};{rw[o];exact zC8 (p m _ C (by simp[show m<d.length by simp at c;lia]))};refine⟨.non,_,I.lset (its':=b.eraseIdx j) (ys:=(d.erase k).map V.int) D e (by simp) ?_ ?_,rfl,q⟩;{rw[<-A,show (d.eraseIdx j).map V.int=(d.map V.int).eraseIdx j from by simp[Me,Mc,M5]];exact r.eraseIdx _};rw[zA5];have:=List.length_erase_le (a:=k) (l:=d);lia
end L2
namespace LV
open PySem L2 PyProof.Rows
def Ig(ys xs:Ds):Option (Ds×D):=match xs with|[.int k]=>(intsD ys).bind λns=>if k∈ns then some ((ns.erase k).map D.int,.non) else none|_=>none
theorem qaL5{ys xs:Ds}{z:Ds×D}(h:Ig ys xs=some z):∃k ns,xs=[.int k]/\intsD ys=some ns/\k∈ns/\z=((ns.erase k).map D.int,.non):=by unfold Ig at h;split at h;{rename_i k;obtain⟨ns,c,a⟩:=zA1.mp h;by_cases b:k∈ns;{rw[if_pos b] at a;exact⟨k,ns,rfl,c,b,(N8 a).symm⟩};rw[if_neg b] at a;cases a};cases h
theorem qaY5:Gj qax1 Ig:=by intro F H a n o Ael p s T f d Q g r i h q;obtain⟨k,j,rfl,l,m,e⟩:=qaL5 h;cases e;obtain⟨w,rfl,c⟩:=i.one_inv;obtain rfl:=c.int_inv;cases r.intsD l;exact⟨a,j,k,rfl,rfl,g,m,q _ .non [] [] (qY3 _) .non λb=>by simp⟩
end LV
namespace LV
open PySem L2
def tSlN(i:Nat)(tb:VT):VT:=λds Q xe=>(rdN i ds).isSome=true/\tb ds (λy ds1=>orF y.asI λh=>orF ((rdN i ds1).bind λx=>if noT x=true then gSl x none (some h) else none) λd=>Q d ds1) xe
theorem eslN(i:Nat)(k:VE c X b tb)(t:X.N[i]?=some x:=by rfl)(j:Vis X.env.scope x:=by first|exact O1 rfl|exact O0 (O1 rfl)|exact O0 (O0 rfl))(G:N' x:=by decide)(l:(x==("__classdict__" : Str))=false:=by decide):VE c X (.Subscript (.Name x p0) (.Slice none (some b) none p2) pos) (tSlN i tb):=by
 refine⟨λD8 s σ H Q I n=>?_,λu Q Q' C J K e=>N7 (k.m _ _ _ _ _ (λd f=>qa4 λh=>qa4 λz=>K z f) e)⟩;obtain⟨F,u,A,C,S,x,L,q⟩:=n;refine qI6 qW4 (qq8 t j G l) qW9 (qW8 k.h) D8 s σ H Q I ?_;have D:=qr6 t D8 σ H s I;obtain⟨W,o⟩:=zBb.mp L;obtain⟨v,B0,j,_,_⟩:=S.name D o;refine⟨v,j,F,u,A,C,S,x,k.m _ _ _ _ _ (λY f q w H1 F1 T A1 M S1 Z O=>?_) (λ_ _ z=>z) q⟩;have p:Pc F H A F1 H1 A1:=O.count λb=>by rw[zA0];lia
 obtain⟨h,P,q⟩:=qa7.mp q;obtain⟨d,a,q⟩:=qa7.mp q;obtain⟨y,R,a⟩:=zA1.mp a;obtain⟨v',B,g,U,_⟩:=S1.name D R;rw[j] at g;cases g;by_cases e:noT y=true;{rw[if_pos e] at a;refine⟨h,M.asI P,Ji U a (λys z=>by subst z;cases e) λw H' B' V r E=>?_⟩;exact q w H' F1 B' A1 V (S1.same r) (S1.new E r) (p.trans (E.stp r))};rw[if_neg e] at a;cases a
end LV
namespace L2
open PySem PySem.Spec PyProof.Rows
theorem Pe.u64(a:Pe cm k A):A.units+64<cLine:=a.units
end L2
namespace LV
open PySem L2
abbrev VH:=Exn->VTS
end LV
namespace LV
open PySem L2
section
variable{F:γ->Prop}{H:Hp}
theorem Locs.fz(r:Locs F H x ds A):(∀b,F b->F' b)->(∀b∈A,F' b)->Locs F' H x (D.fzs ds) []:=by induction r with|nil=>exact λ_ _=>.nil|no t a=>exact λh q=>.no (a h q)|so h t a=>exact λm q=>.so (h.fz m λb c=>q b (zA6.mpr (.inl c))) (a m λb c=>q b (zA6.mpr (.inr c)))
theorem Locs.but(L:Locs F H x ds A)(f:ds[i]?=some d)(g:τ.length=x.length)(k:∀j,j≠i->τ[j]?=x[j]?):∃A',Locs F H τ (ds.set i .u) A'/\∀b,A'.count b<=A.count b:=by
 obtain⟨σ1,o,σ2,l,n,A1,B,A2,rfl,rfl,p,q,rfl,r,w,s⟩:=L.split f;obtain⟨a,t⟩:∃a,τ[i]?=some a:=⟨_,zB2 (by rw[g,zA8,zAn];lia)⟩;have e:τ=σ1++a::σ2:=by apply List.ext_getElem?;intro j;by_cases c:j=i;{subst c;rw[t,qC4 p]};rw[k j c];rcases Nat.lt_or_ge j i with h|h;{rw[zAj ⋯,zAj ⋯]};rw[zBt ⋯,zBt ⋯];obtain⟨m,u⟩:∃m,j-σ1.length=m+1:=⟨j-σ1.length-1,⋯⟩;rw[u];rfl
 rw[e,qp1 q];refine⟨A1++([]++A2),r.append (Locs.cons (o:=a) (d:=.u) (B:=[]) (by cases a with|none=>exact .no|some v=>exact .so (.u v)) s),λb=>?_⟩;simp only[zA0,zAz];lia
end
end LV
namespace L2
open PySem PySem.Spec PyProof.Rows
variable{Q:V'->δ->Prop}{i1 i2 l1 l2 tI tO z:γ}{k:Nat}{x y:V'}{xs ys:Array V'}
abbrev qw6(h:Heap)(z tI tO:γ)(a f1:V'):Prop:=h.get? z=some {cls:=.type "zip",dict:=none,data:=.fields #[a,f1,.bool false,.ref tI,.ref tO],slots:=#[]}
section
variable{prog:K8}{w:La}{A:K9}{E:V'->δ->Prop}{s:δ}
theorem qV8{Q:Option Obj->δ->Prop}(b:s.heap.get? a=o)(h:Q o s):K6 (K7 prog w) A (loadIfAlive a) Q E s:=by subst b;exact λΓ p c=>(by simpa[loadIfAlive] using h)
theorem qao5{T:γ}(D:ZipApart z tI tO i1 i2 l1 l2)(b:qw6 s.heap z tI tO (rawInt T) (.bool f1))(r:s.heap.get? T=some o)(h:IsPair s.heap tI (.ref i1) (.ref i2))(h1:s.heap.IsListIter i1 l1 f)(h2:s.heap.IsListIter i2 l2 g)(i:s.heap.IsList l1 xs)(j:s.heap.IsList l2 ys)(t:xs[f]?=some x)(u:ys[g]?=some y)(B:∀h',qw6 h' z tI tO (rawInt T) (.bool true)->h'.IsListIter i1 l1 (f+1)->h'.IsListIter i2 l2 (g+1)->IsPair h' s.heap.objs.size x y->h'.objs.size=s.heap.objs.size+1->(∀c o,c≠z->c≠i1->c≠i2->s.heap.get? c=some o->h'.get? c=some o)->Q (.ref s.heap.objs.size) {s with heap:=h'}):K6 (K7 prog w) A (Builtin.«zip.__next__» ⟨[.ref z],[]⟩) (λfin s'=>∃v,fin=.done (.ret v)/\Q v s') E s:=by
 show K6 _ _ (field (.ref z) 2 >>= _) _ _ _;refine E' (wpAny_field b rfl (x:=.bool false) rfl ?_);show K6 _ _ (field (.ref z) 3 >>= _) _ _ _;refine E' (wpAny_field b rfl (x:=.ref tI) rfl ?_);refine E' (wpAny_seqItems h rfl ?_);show K6 _ _ (Builtin.SmallTypes.ownedTupleIsFree (.ref z) >>= _) _ _ _;refine E' ?_;unfold Builtin.SmallTypes.ownedTupleIsFree;refine E' (wpAny_field b rfl (x:=rawInt T) rfl ?_);show K6 _ _ (loadIfAlive T >>= _) _ _ _;refine E' (W.kdx_alive r ?_);rw[if_neg (by simp)];refine E' (wpAny_field b rfl (x:=.bool f1) rfl ?_);have k:∀K:Bool->δ->Prop,(∀h₁:Heap,qw6 h₁ z tI tO (rawInt T) (.bool true)->h₁.objs.size=s.heap.objs.size->(∀c o,c≠z->s.heap.get? c=some o->h₁.get? c=some o)->K false {s with heap:=h₁})->K6 (K7 prog w) A (if (N0 f1 != N0 true)=true then (setField (.ref z) 1 (.bool true) >>= λ_=>pure false) else pure false) K E s:=λK p=>by cases f1 with|true=>rw[if_neg (by simp)];exact J' (p s.heap b rfl λ_ _ _ e=>e)|false=>rw[if_pos (by simp)];exact E' (wpAny_setField_rec b (by simp) λh₁ hz₁ hs₁=>J' (p h₁ hz₁ hs₁.1 λc o C e=>hs₁.extBut c o C e))
 refine k _ λh₁ hz₁ l d=>?_;simp only[zCw,if_false,M9,L5,Mm];refine E' (E' (E' (Kn ?_)));show K6 _ _ (Builtin.SmallTypes.nextOf (.ref i1) >>= _) _ _ _;refine E' (wpAny_nextOf_list_item (h1.at λo e=>d _ o D.i1z e) (i.at λo e=>d _ o D.l1z e) t λh₂ h1₂ hs₂=>J' ?_);refine J' (E' (E' (Kn ?_)));show K6 _ _ (Builtin.SmallTypes.nextOf (.ref i2) >>= _) _ _ _;refine E' (wpAny_nextOf_list_item (((h2.at λo e=>d _ o D.i2z e).extBut hs₂.extBut D.i12.symm)) ((j.at λo e=>d _ o D.l2z e).extBut hs₂.extBut D.l2i1) u λh₃ h2₃ hs₃=>J' ?_);refine J' (J' ?_);show K6 _ _ (newTuple [x,y] >>= _) _ _ {s with heap:=h₃};refine E' (wpAny_newTuple (J' ⟨_,rfl,?_⟩));have a:h₃.objs.size=s.heap.objs.size:=by rw[hs₃.1,hs₂.1];exact l
 have q:∀c o,c≠i1->c≠i2->h₁.get? c=some o->(h₃.push {cls:=.type "tuple",data:=.seq #[x,y]}).get? c=some o:=λc o m n e=>zA2 _ (hs₃.extBut _ _ n (hs₂.extBut _ _ m e));have:=B (h₃.push {cls:=.type "tuple",data:=.seq #[x,y]}) (q _ _ D.i1z.symm D.i2z.symm hz₁) ((h1₂.extBut hs₃.extBut D.i12).at λo e=>zA2 _ e) (h2₃.at λo e=>zA2 _ e) (by rw[<-a];exact zAp _ rfl) (by rw[zCh,a]) λc o F m n e=>q c o m n (d c o F e);rw[<-a] at this;exact this
theorem qao6{T:γ}(D:ZipApart z tI tO i1 i2 l1 l2)(i:qw6 s.heap z tI tO (rawInt T) f1)(X:s.heap.get? T=none)(u:IsPair s.heap tI (.ref i1) (.ref i2))(B:IsPair s.heap tO a b)(h1:s.heap.IsListIter i1 l1 n)(h2:s.heap.IsListIter i2 l2 p)(C:s.heap.IsList l1 xs)(F:s.heap.IsList l2 ys)(Y:xs[n]?=some x)(Z:ys[p]?=some y)(hQ:∀h',qw6 h' z tI tO (rawInt s.heap.objs.size) (.bool false)->IsPair h' tO x y->h'.IsListIter i1 l1 (n+1)->h'.IsListIter i2 l2 (p+1)->IsPair h' s.heap.objs.size x y->h'.objs.size=s.heap.objs.size+1->(∀c o,c≠z->c≠tO->c≠i1->c≠i2->s.heap.get? c=some o->h'.get? c=some o)->Q (.ref s.heap.objs.size) {s with heap:=h'}):K6 (K7 prog w) A (Builtin.«zip.__next__» ⟨[.ref z],[]⟩) (λfin s'=>∃v,fin=.done (.ret v)/\Q v s') E s:=by
 show K6 _ _ (field (.ref z) 2 >>= _) _ _ _;refine E' (wpAny_field i rfl (x:=.bool false) rfl ?_);show K6 _ _ (field (.ref z) 3 >>= _) _ _ _;refine E' (wpAny_field i rfl (x:=.ref tI) rfl (E' (wpAny_seqItems u rfl ?_)));show K6 _ _ (Builtin.SmallTypes.ownedTupleIsFree (.ref z) >>= _) _ _ _;refine E' ?_;unfold Builtin.SmallTypes.ownedTupleIsFree;refine E' (wpAny_field i rfl (x:=rawInt T) rfl ?_);show K6 _ _ (loadIfAlive T >>= _) _ _ _;refine E' (qV8 (o:=none) X ?_);rw[if_pos (show (none:Option Obj).isNone=true from rfl)];refine J' ?_;simp only[if_true];refine E' (Kx (E' (wpAny_field i rfl (x:=.ref tO) rfl (E' (wpAny_setField_rec i (by simp) λha G sa=>?_)))));replace G:qw6 ha z tI tO .ellipsis f1:=G;refine E' ?_;simp only[Ms,Nl,L5,Mm];refine E' (E' (wpAny_onRaise ?_));show K6 _ _ (Builtin.SmallTypes.nextOf (.ref i1) >>= _) _ _ _;refine E' (wpAny_nextOf_list_item (h1.extBut sa.extBut D.i1z) (C.extBut sa.extBut D.l1z) Y λhb jb g=>J' ?_);have P:IsPair hb tO a b:=g.extBut _ _ D.TOi1 (sa.extBut _ _ D.TOz B);refine E' (wpAny_seqItems P rfl (E' (wpAny_updateSeq_pair P λhc H h=>E' (wpAny_letGo (J' ?_)))));replace H:IsPair hc tO x b:=H;refine E' (E' (wpAny_onRaise ?_));show K6 _ _ (Builtin.SmallTypes.nextOf (.ref i2) >>= _) _ _ _;refine E' (wpAny_nextOf_list_item (((h2.extBut sa.extBut D.i2z).extBut g.extBut D.i12.symm).extBut h.extBut D.TOi2.symm) (((F.extBut sa.extBut D.l2z).extBut g.extBut D.l2i1).extBut h.extBut D.l2TO) Z λhd jd j=>J' ?_);have R:IsPair hd tO x b:=j.extBut _ _ D.TOi2 H;refine E' (wpAny_seqItems R rfl (E' (wpAny_updateSeq_pair R λd te k=>E' (wpAny_letGo (J' (J' ?_))))));replace te:IsPair d tO x y:=te;refine E' (wpAny_seqItems te rfl (E' (wpAny_newTuple ?_)));have S:d.objs.size=s.heap.objs.size:=by rw[k.1,j.1,h.1,g.1,sa.1]
 have ke:∀c o,c≠z->c≠tO->c≠i1->c≠i2->s.heap.get? c=some o->d.get? c=some o:=λc o f q I J e=>k.extBut _ _ q (j.extBut _ _ J (h.extBut _ _ q (g.extBut _ _ I (sa.extBut _ _ f e))));have U:qw6 d z tI tO .ellipsis f1:=k.extBut _ _ D.TOz.symm (j.extBut _ _ D.i2z.symm (h.extBut _ _ D.TOz.symm (g.extBut _ _ D.i1z.symm G)));have V:z<d.objs.size:=zAc U;have K:d.IsListIter i1 l1 (n+1):=((jb.extBut h.extBut D.TOi1.symm).extBut j.extBut D.i12).extBut k.extBut D.TOi1.symm;have L:d.IsListIter i2 l2 (p+1):=jd.extBut k.extBut D.TOi2.symm;show K6 _ _ (Builtin.SmallTypes.ownedTupleHandOut (.ref z) (.ref d.objs.size) >>= _) _ _ _;refine E' ?_;unfold Builtin.SmallTypes.ownedTupleHandOut;have zf:qw6 (d.push {cls:=.type "tuple",data:=.seq #[x,y]}) z tI tO .ellipsis f1:=zA2 _ U;refine E' (wpAny_setField_rec zf (by simp) λhg M N=>?_);replace M:qw6 hg z tI tO (rawInt d.objs.size) f1:=M;refine wpAny_setField_rec M (by simp) λl r O=>J' ⟨_,rfl,?_⟩;replace r:qw6 l z tI tO (rawInt d.objs.size) (.bool false):=r;have t:∀c o,c≠z->d.get? c=some o->l.get? c=some o:=λc o f e=>O.extBut _ _ f (N.extBut _ _ f (zA2 _ e));have W:IsPair l d.objs.size x y:=O.extBut _ _ (Nat.ne_of_gt V) (N.extBut _ _ (Nat.ne_of_gt V) (zAp _ rfl));have m:l.objs.size=d.objs.size+1:=by rw[O.1,N.1,zCh]
 rw[S] at r W m;show Q (.ref d.objs.size) _;rw[S];exact hQ l r (t _ _ D.TOz te) (K.at λo e=>t _ o D.i1z e) (L.at λo e=>t _ o D.i2z e) W m λc o f q I J e=>t c o f (ke c o f q I J e)
def ZSt(z tI tO i1 i2 l1 l2:γ)(k:Nat)(h:Heap):Prop:=(∃c f1,qw6 h z tI tO c (.bool f1)/\(c=.none/\f1=false∨∃T:Nat,c=rawInt T))/\IsPair h tI (.ref i1) (.ref i2)/\(∃a b,IsPair h tO a b)/\h.IsListIter i1 l1 k/\h.IsListIter i2 l2 k
theorem ZSt.at_(st:ZSt z tI tO i1 i2 l1 l2 k h)(d:∀c∈[z,tI,tO,i1,i2],∀o,h.get? c=some o->h'.get? c=some o):ZSt z tI tO i1 i2 l1 l2 k h':=by obtain⟨⟨i,f1,j,l⟩,f,⟨a,b,g⟩,m,n⟩:=st;exact⟨⟨i,f1,d z (by simp) _ j,l⟩,d tI (by simp) _ f,⟨a,b,d tO (by simp) _ g⟩,m.at λo e=>d i1 (by simp) o e,n.at λo e=>d i2 (by simp) o e⟩
theorem ZSt.typ(st:ZSt z tI tO i1 i2 l1 l2 k s.heap):s.TypeIs (.ref z) "zip" := by
 obtain⟨⟨b,f1,a,_⟩,_⟩:=st;exact⟨_,a,rfl⟩
theorem qai9(D:ZipApart z tI tO i1 i2 l1 l2)(st:ZSt z tI tO i1 i2 l1 l2 k s.heap)(f:s.heap.IsList l1 xs)(g:s.heap.IsList l2 ys)(p:xs[k]?=some x)(q:ys[k]?=some y)(r:∀h',ZSt z tI tO i1 i2 l1 l2 (k+1) h'->IsPair h' s.heap.objs.size x y->h'.objs.size=s.heap.objs.size+1->(∀c o,c≠z->c≠tO->c≠i1->c≠i2->s.heap.get? c=some o->h'.get? c=some o)->Q (.ref s.heap.objs.size) {s with heap:=h'}):K6 (K7 prog w) A (Builtin.SmallTypes.nextOf (.ref z)) Q E s:=by unfold Builtin.SmallTypes.nextOf;refine E' (wpAny_callSpecial?_slot (name:=Str.ofString "__next__") st.typ Oi (wpAny_call_entry Oi st.typ Oq ?_ (Op _)));obtain⟨⟨K,f1,t,G⟩,d,⟨a,b,h⟩,u,v⟩:=st;rcases G with⟨rfl,rfl⟩|⟨T,rfl⟩;{exact zip_next_item D t d h u v f g p q λh' i B j l m n e=>J' (r h' ⟨⟨_,_,i,.inr ⟨_,rfl⟩⟩,e _ _ D.TIz D.TITO D.TIi1 D.TIi2 d,⟨_,_,B⟩,j,l⟩ m n e)};cases C:s.heap.get? T with|none=>exact qao6 D t C d h u v f g p q λh' i B j l m n e=>J' (r h' ⟨⟨_,_,i,.inr ⟨_,rfl⟩⟩,e _ _ D.TIz D.TITO D.TIi1 D.TIi2 d,⟨_,_,B⟩,j,l⟩ m n e)|some o=>exact qao5 D t C d u v f g p q λh' i j l m n e=>J' (r h' ⟨⟨_,_,i,.inr ⟨_,rfl⟩⟩,e _ _ D.TIz D.TIi1 D.TIi2 d,⟨_,_,e _ _ D.TOz D.TOi1 D.TOi2 h⟩,j,l⟩ m n λc o H _ I J=>e c o H I J)
theorem qJ0(l:A.handled=none)(D:ZipApart z tI tO i1 i2 l1 l2)(st:ZSt z tI tO i1 i2 l1 l2 k s.heap)(f:s.heap.IsList l1 xs)(m:s.heap.IsList l2 ys)(n:xs[k]?=none)(p:∀h' e,(∀c o,c≠z->c≠tO->c≠i1->c≠i2->s.heap.get? c=some o->h'.get? c=some o)->(∃o,h'.get? e=some o/\o.cls=.type "StopIteration")->E (.ref e) {s with heap:=h'}):K6 (K7 prog w) A (Builtin.SmallTypes.nextOf (.ref z)) Q E s:=by
 unfold Builtin.SmallTypes.nextOf;refine E' (wpAny_callSpecial?_slot (name:=Str.ofString "__next__") st.typ Oi (wpAny_call_entry Oi st.typ Oq ?_ (Op _)));obtain⟨⟨W,f1,d,O⟩,h,⟨a,b,r⟩,t,P⟩:=st;rcases O with⟨rfl,rfl⟩|⟨T,rfl⟩;{exact zip_next_end l D d h r t P f m (.inl n) p};show K6 _ _ (field (.ref z) 2 >>= _) _ _ _;refine E' (wpAny_field d rfl (x:=.bool false) rfl ?_);show K6 _ _ (field (.ref z) 3 >>= _) _ _ _;refine E' (wpAny_field d rfl (x:=.ref tI) rfl (E' (wpAny_seqItems h rfl ?_)));show K6 _ _ (Builtin.SmallTypes.ownedTupleIsFree (.ref z) >>= _) _ _ _;refine E' ?_;unfold Builtin.SmallTypes.ownedTupleIsFree;refine E' (wpAny_field d rfl (x:=rawInt T) rfl ?_);show K6 _ _ (loadIfAlive T >>= _) _ _ _;cases I:s.heap.get? T with
 |some o=>
  refine E' (qV8 I ?_);rw[if_neg (by simp)];refine E' (wpAny_field d rfl (x:=.bool f1) rfl ?_);have u:∀(B:K9)(K:Bool->δ->Prop)(F:V'->δ->Prop),(∀h₁:Heap,(∀c o,c≠z->s.heap.get? c=some o->h₁.get? c=some o)->K false {s with heap:=h₁})->K6 (K7 prog w) B (if (N0 f1 != N0 true)=true then (setField (.ref z) 1 (.bool true) >>= λ_=>pure false) else pure false) K F s:=λB K F J=>by cases f1 with|true=>rw[if_neg (by simp)];exact J' (J s.heap λ_ _ _ e=>e)|false=>rw[if_pos (by simp)];exact E' (wpAny_setField_rec d (by simp) λh₁ hz₁ hs₁=>J' (J h₁ λc o v e=>hs₁.extBut c o v e))
  refine u _ _ _ λh₁ y=>?_;simp only[zCw,if_false,M9,L5,Mm];refine E' (E' (E' (Kn ?_)));show K6 _ _ (Builtin.SmallTypes.nextOf (.ref i1) >>= _) _ _ _;exact E' (wpAny_nextOf_list_end l (t.at λo e=>y _ o D.i1z e) (f.at λo e=>y _ o D.l1z e) n λh₂ e hs₂ C=>p h₂ e (λc o j _ G _ q=>hs₂ _ _ G (y c o j q)) C)
 |none=>
  refine E' (qV8 I ?_);rw[if_pos (show (none:Option Obj).isNone=true from rfl)];refine J' ?_;simp only[if_true];refine E' (Kx (E' (wpAny_field d rfl (x:=.ref tO) rfl (E' (wpAny_setField_rec d (by simp) λR H sa=>?_)))));replace H:qw6 R z tI tO .ellipsis (.bool f1):=H;refine E' ?_;simp only[Ms,Nl,L5,Mm];refine E' (E' (wpAny_onRaise ?_));show K6 _ _ (Builtin.SmallTypes.nextOf (.ref i1) >>= _) _ _ _;refine E' (wpAny_nextOf_list_end l (t.extBut sa.extBut D.i1z) (f.extBut sa.extBut D.l1z) n λS e L C=>?_);obtain⟨U,g,i⟩:=C;have M:qw6 S z tI tO .ellipsis (.bool f1):=L _ _ D.i1z.symm H;have V:e≠z:=λq=>by subst q;rw[M] at g;cases g;simp at i
  exact wpAny_setField_rec M (by simp) λv _ N=>p v e (λc o j _ G _ q=>N.extBut _ _ j (L _ _ G (sa.extBut _ _ j q))) ⟨U,N.extBut _ _ V g,i⟩
theorem qaH7{i:Nat}{Q:Option V'->δ->Prop}(D:ZipApart z tI tO i1 i2 l1 l2)(h:IsEnum s.heap e z i a)(st:ZSt z tI tO i1 i2 l1 l2 i s.heap)(m:e∉[z,tI,tO,i1,i2])(n:s.heap.IsList l1 xs)(p:s.heap.IsList l2 ys)(U:xs[i]?=some x)(V:ys[i]?=some y)(W:∀h',IsEnumOut h' e z ((i:Int)+1) (.ref s.heap.objs.size) (s.heap.objs.size+1)->ZSt z tI tO i1 i2 l1 l2 (i+1) h'->IsPair h' s.heap.objs.size x y->IsPair h' (s.heap.objs.size+1) (.int i s.toks) (.ref s.heap.objs.size)->h'.objs.size=s.heap.objs.size+2->(∀c o,c≠e->c≠z->c≠tO->c≠i1->c≠i2->s.heap.get? c=some o->h'.get? c=some o)->Q (some (.ref (s.heap.objs.size+1))) {s with heap:=h',toks:=s.toks+1}):K6 (K7 prog w) A (pyNext (.ref e)) Q E s:=by
 have J:s.TypeIs (.ref e) "enumerate" := ⟨_,h,rfl⟩;have j:e≠z/\e≠tI/\e≠tO/\e≠i1/\e≠i2:=by simpa using m
 unfold pyNext;refine E' (wpAny_attempt (wpAny_callSpecial?_slot (name:=Str.ofString "__next__") J Og (wpAny_call_entry Og J On ?_ (Ol _))));show K6 _ _ (field (.ref e) 2 >>= _) _ _ _;refine E' (wpAny_field h rfl (x:=.ref z) rfl (E' (qai9 D st n p U V λf X Y sa K=>?_)));have r:IsEnum f e z i a:=K _ _ j.1 j.2.2.1 j.2.2.2.1 j.2.2.2.2 h;show K6 _ _ (field (.ref e) 3 >>= _) _ _ {s with heap:=f};refine E' (wpAny_field r rfl (x:=rawInt i) rfl ?_);show K6 _ _ (field (.ref e) 4 >>= _) _ _ {s with heap:=f};refine E' (wpAny_field r rfl (x:=.none) rfl ?_);show K6 _ _ (mkInt i >>= _) _ _ {s with heap:=f};refine E' (wpAny_mkInt ?_);show K6 _ _ (setField (.ref e) 3 (rawInt ((i:Int)+1)) >>= _) _ _ {s with heap:=f,toks:=s.toks+1};refine E' (wpAny_setField_rec r (by simp) λL t M=>?_);replace t:IsEnum L e z ((i:Int)+1) a:=t;show K6 _ _ (setField (.ref e) 4 .none >>= _) _ _ {s with heap:=L,toks:=s.toks+1};refine E' (wpAny_setField_rec t (by simp) λd ec N=>?_);replace ec:IsEnum d e z ((i:Int)+1) a:=ec;show K6 _ _ (newTuple [.int i s.toks,.ref s.heap.objs.size] >>= _) _ _ {s with heap:=d,toks:=s.toks+1};refine E' (wpAny_newTuple ?_);have u:d.objs.size=s.heap.objs.size+1:=by rw[N.1,M.1];exact sa
 have Z:∀c o,c≠e->f.get? c=some o->d.get? c=some o:=λc o b q=>N.extBut _ _ b (M.extBut _ _ b q);have el:e<d.objs.size:=zAc ec;generalize k:d.push {cls:=.type "tuple",data:=.seq #[.int i s.toks,.ref s.heap.objs.size]}=g;have zd:g.objs.size=s.heap.objs.size+2:=by rw[<-k,zCh,u]
 have td:IsPair g (s.heap.objs.size+1) (.int i s.toks) (.ref s.heap.objs.size):=by rw[<-k,<-u];exact zAp _ rfl
 have v:∀c o,c≠e->f.get? c=some o->g.get? c=some o:=λc o b q=>by rw[<-k];exact zA2 _ (Z c o b q)
 have B:IsEnum g e z ((i:Int)+1) a:=by rw[<-k];exact zA2 _ ec
 show K6 _ _ (Builtin.SmallTypes.ownedTupleIsFree (.ref e) >>= _) _ _ {s with heap:=g,toks:=s.toks+1};rw[u];refine E' ?_;unfold Builtin.SmallTypes.ownedTupleIsFree;refine E' (wpAny_field B rfl (x:=.none) rfl (J' ?_));simp only[if_true];refine E' (Kx (E' (wpAny_field B rfl (x:=a) rfl (E' (wpAny_setField_rec B (by simp) λO C P=>?_)))));replace C:IsEnum O e z ((i:Int)+1) (.ref s.heap.objs.size):=C;show K6 _ _ (Builtin.SmallTypes.ownedTupleHandOut (.ref e) (.ref (s.heap.objs.size+1)) >>= _) _ _ {s with heap:=O,toks:=s.toks+1};refine E' ?_;unfold Builtin.SmallTypes.ownedTupleHandOut;refine E' (wpAny_setField_rec C (by simp) λhg G R=>?_);replace G:IsEnumOut hg e z ((i:Int)+1) (.ref s.heap.objs.size) (s.heap.objs.size+1:Nat):=G;refine wpAny_setField_rec G (by simp) λH I S=>?_;replace I:IsEnumOut H e z ((i:Int)+1) (.ref s.heap.objs.size) (s.heap.objs.size+1:Nat):=I;have l:∀c o,c≠e->g.get? c=some o->H.get? c=some o:=λc o b q=>S.extBut _ _ b (R.extBut _ _ b (P.extBut _ _ b q));have T:s.heap.objs.size≠e:=Nat.ne_of_gt (zAc h);have e1:s.heap.objs.size+1≠e:=Nat.ne_of_gt (Nat.lt_succ_of_lt (zAc h));refine E' (wpAny_letGo (J' ⟨_,rfl,J' (W H I (X.at_ λc d o q=>l c o (λz=>m (z ▸ d)) (v c o (λz=>m (z ▸ d)) q)) (l _ _ T (v _ _ T Y)) (l _ _ e1 td) (by rw[S.1,R.1,P.1,zd]) λc o b c1 c2 c3 c4 q=>l c o b (v c o b (K c o c1 c2 c3 c4 q)))⟩))
end
end L2
namespace PySem
open Spec PyProof.Rows
theorem qr5(z tI tO:γ):Meets (Builtin.«enumerate.__new__» ⟨[.type "enumerate",.ref z],[]⟩) (λ_ R s=>IsZip s.heap z tI tO .none/\R (.ok (.ret (.ref s.heap.objs.size))) {s with heap:=s.heap.push {cls:=.type "enumerate",data:=.fields #[.none,.bool false,.ref z,rawInt 0,.none,.none]} }) :=
 .of_wp λprog w A R s h=>by
  obtain⟨e,g,d,f,i⟩:=s;obtain⟨a,h⟩:=h;have b:=sub_enumerate
  wp_walk using wpAny_loadPart' a
  refine wpAny_stack_any λj=>J' ?_
  split
  .rename_i c _ _ _ _ _
   cases (c==N3 "enumerate")
   .wp_walk using wpAny_loadPart' a,wpAny_pyIter_zip a
    exact⟨_,rfl,h⟩
   wp_walk using wpAny_loadPart' a,wpAny_pyIter_zip a
   exact⟨_,rfl,h⟩
  wp_walk using wpAny_loadPart' a,wpAny_pyIter_zip a
  exact⟨_,rfl,h⟩
end PySem
namespace L2
open PySem PySem.Spec PyProof.Rows
variable{tI tO z:γ}
section
variable{prog:K8}{w:La}{A:K9}{E:V'->δ->Prop}{s:δ}
theorem qw3(d:IsZip s.heap z tI tO .none)(h:∀h',IsEnum h' s.heap.objs.size z 0 .none->h'.objs.size=s.heap.objs.size+1->(∀b o,s.heap.get? b=some o->h'.get? b=some o)->Q (.ref s.heap.objs.size) {s with heap:=h'}):K6 (K7 prog w) A (call (.type "enumerate") [.ref z]) Q E s:=by refine callType_new F.called_enumerate ∅ (F.typeCall_enumerate_1 _) (F.newCall_enumerate_1 _) (λa=>F.args_object_init_2 a _) F.entry_enumerate_new (qr5 z tI tO) ⟨d,?_⟩;have c:IsEnum (s.heap.push {cls:=.type "enumerate",data:=.fields #[.none,.bool false,.ref z,rawInt 0,.none,.none]}) s.heap.objs.size z 0 .none:=zAp _ rfl;exact⟨⟨_,c,rfl⟩,h _ c (zCh ..) λb o x=>zA2 _ x⟩
theorem qaS9{i:Nat}(l:A.handled=none)(D:ZipApart z tI tO i1 i2 l1 l2)(j:IsEnum s.heap e z i a)(st:ZSt z tI tO i1 i2 l1 l2 i s.heap)(d:s.heap.IsList l1 xs)(f:s.heap.IsList l2 ys)(m:xs[i]?=none)(n:∀h',(∀c o,c≠z->c≠tO->c≠i1->c≠i2->s.heap.get? c=some o->h'.get? c=some o)->Q none {s with heap:=h'}):K6 (K7 prog w) A (pyNext (.ref e)) Q E s:=by have k:s.TypeIs (.ref e) "enumerate" := ⟨_,j,rfl⟩;unfold pyNext;refine E' (wpAny_attempt (wpAny_callSpecial?_slot (name:=Str.ofString "__next__") k Og (wpAny_call_entry Og k On ?_ (Ol _))));show K6 _ _ (field (.ref e) 2 >>= _) _ _ _;refine E' (wpAny_field j rfl (x:=.ref z) rfl ?_);refine E' (qJ0 l D st d f m λh' x g h=>?_);obtain⟨o,p,q⟩:=h;refine E' (wpAny_isInstance (T := "StopIteration") (b:=true) ⟨o,p,q⟩ isSubtype_stop ?_);exact J' (n _ g)
end
def Itz(K:Oa)(a b:γ):It:=⟨λi H=>∃xs ys x y,SqL K H a xs/\SqL K H b ys/\xs[i]?=some x/\ys[i]?=some y,
  λi H v H'=>∃t p x y,v=.ref t/\H p=none/\upd H p (.q [x,y]) t=none/\H'=upd (upd H p (.q [x,y])) t (.q [.int (i:Int),.ref p])/\(∀xs,SqL K H a xs->xs[i]?=some x)/\(∀ys,SqL K H b ys->ys[i]?=some y),
  λi H=>∃xs ys,SqL K H a xs/\SqL K H b ys/\xs.length<=i⟩
theorem qae5{P:K8}{w:La}{K:Oa}{elts:List Lb}{x1:Nat}{pos:Pos}{a b i1 i2 e:γ}(D:ZipApart z tI tO i1 i2 a b)(hn:e∉[z,tI,tO,i1,i2]):Gv P w K (.Tuple elts x1 pos) (Itz K a b) [e,z,tI,tO,i1,i2] e (λi h=>(∃g,IsEnum h e z (i:Nat) g)/\ZSt z tI tO i1 i2 a b i h) where
 mem:=by simp
 obj:=λi h l c d=>by
  obtain⟨⟨g,n⟩,⟨f0,f1,j,_⟩,A,⟨x,y,B⟩,⟨o1,G,_,d1⟩,⟨o2,C,_,d2⟩⟩:=l;simp only[zAh,zBg,zCv] at d;rcases d with rfl|rfl|rfl|rfl|rfl|rfl
  .exact⟨_,n,λv z=>by have F:Data.fields _=Data.cell v:=z;cases F⟩
  .exact⟨_,j,λv z=>by have F:Data.fields _=Data.cell v:=z;cases F⟩
  .exact⟨_,A,λv z=>by have F:Data.seq _ _=Data.cell v:=z;cases F⟩
  .exact⟨_,B,λv z=>by have F:Data.seq _ _=Data.cell v:=z;cases F⟩
  .exact⟨o1,G,λv z=>by rw[d1] at z;cases z⟩
  exact⟨o2,C,λv z=>by rw[d2] at z;cases z⟩
 keep:=λi h h' l k=>by
  obtain⟨⟨g,n⟩,l⟩:=l;exact⟨⟨g,k e (by simp) _ n⟩,l.at_ λc d o q=>k c (zA9 _ d) o q⟩
 item:=by
  intro X L M N d i D8 s W H E I J l O;subst L M N;obtain⟨xs,ys,x,y,p,r,Q,hy⟩:=O;obtain⟨⟨g,n⟩,j⟩:=l;obtain⟨ix,R,S,_⟩:=I.list p;obtain⟨iy,ry,T,_⟩:=I.list r;obtain⟨u,hu,ru⟩:=R.get Q;obtain⟨v,hv,rv⟩:=ry.get hy;have lt:∀c∈[e,z,tI,tO,i1,i2],c<s.heap.objs.size:=λc d=>by
   obtain⟨⟨f0,f1,j,_⟩,A,⟨x,y,B⟩,⟨o1,G,_,d1⟩,⟨o2,C,_,d2⟩⟩:=j;simp only[zAh,zBg,zCv] at d;rcases d with rfl|rfl|rfl|rfl|rfl|rfl
   .exact zAc n
   .exact zAc j
   .exact zAc A
   .exact zAc B
   .exact zAc G
   exact zAc C
  refine qaH7 D n j hn S.isList T.isList (x:=u) (y:=v) (by simpa using hu) (by simpa using hv) λG U V Y Z a3 a0=>?_
  refine⟨_,rfl,wpAny_letOwnedTupleGo_enum (s:={s with heap:=G,toks:=s.toks+1}) U λC a1 t=>?_⟩
  replace t:Heap.SameBut e G C:=t
  have I0:Pb X D8 W (upd H s.heap.objs.size (.q [x,y])) {s with heap:=s.heap.push {cls:=.type "tuple",data:=.seq #[u,v]},toks:=s.toks}:=I.laid (λb o q=>zA2 _ q) (zA3 _) ⟨by show 2<=Kk;decide,[u,v],.cons ru (.cons rv .nil),⟨_,zAp _ rfl,rfl,_,rfl⟩⟩
  have m:(s.heap.push {cls:=.type "tuple",data:=.seq #[u,v]}).objs.size=s.heap.objs.size+1:=zCh ..;generalize es:s.heap.push {cls:=.type "tuple",data:=.seq #[u,v]}=g1 at I0 m;have gp:g1.get? s.heap.objs.size=some {cls:=.type "tuple",data:=.seq #[u,v]}:=by rw[<-es];exact zAp _ rfl
  have a2:(upd H s.heap.objs.size (.q [x,y])) (s.heap.objs.size+1)=none:=I0.hok.fresh (by show g1.objs.size<=_;rw[m];exact zA3 _);have I1:Pb X D8 W (upd (upd H s.heap.objs.size (.q [x,y])) (s.heap.objs.size+1) (.q [.int (i:Int),.ref s.heap.objs.size])) {s with heap:=g1.push {cls:=.type "tuple",data:=.seq #[.int i s.toks,.ref s.heap.objs.size]},toks:=s.toks+1}:=by
   refine I0.laid (s:={s with heap:=g1,toks:=s.toks}) (λb o q=>zA2 _ q) (by show g1.objs.size<=_;rw[m];exact zA3 _) ⟨by show 2<=Kk;decide,[.int i s.toks,.ref s.heap.objs.size],.cons ⟨_,rfl⟩ (.cons rfl .nil),⟨{cls:=.type "tuple",data:=.seq #[.int i s.toks,.ref s.heap.objs.size]},?_,rfl,_,rfl⟩⟩;rw[<-m];exact zAp _ rfl
  have nb:∀c∈[e,z,tI,tO,i1,i2],(upd (upd H s.heap.objs.size (.q [x,y])) (s.heap.objs.size+1) (.q [.int (i:Int),.ref s.heap.objs.size])) c=none:=λc d=>by
   rw[qd6 (zAu (Nat.lt_succ_of_lt (lt c d))),qd6 (zAu (lt c d))];exact(J c d).1
  have I2:Pb X D8 W (upd (upd H s.heap.objs.size (.q [x,y])) (s.heap.objs.size+1) (.q [.int (i:Int),.ref s.heap.objs.size])) {s with heap:=C,toks:=s.toks+1}:=by
   refine Pb.turnedL (s:={s with heap:=g1.push {cls:=.type "tuple",data:=.seq #[.int i s.toks,.ref s.heap.objs.size]},toks:=s.toks+1}) (h':=C) (ch:=[e,z,tI,tO,i1,i2]) (t':=s.toks+1) I1 (λb o f q=>?_) (λb f=>⟨nb b f,(J b f).2⟩);simp only[zAh,zBg,zCv,not_or] at f;refine t.extBut b o f.1 ?_;rcases Heap.get?_push_cases (show (g1.push {cls:=.type "tuple",data:=.seq #[.int i s.toks,.ref s.heap.objs.size]}).get? b=some o from q) with⟨rfl,rfl⟩|q
   .rw[m];exact Z
   rw[<-es] at q;rcases Heap.get?_push_cases q with⟨rfl,rfl⟩|q
   .exact Y
   exact a0 b o f.1 f.2.1 f.2.2.2.1 f.2.2.2.2.1 f.2.2.2.2.2 q
  refine⟨.ref (s.heap.objs.size+1),_,I2,rfl,⟨_,s.heap.objs.size,x,y,rfl,I.hok.fresh (zA3 _),a2,rfl,λzs j=>by rw[I.list_inj j p];exact Q,λzs j=>by rw[I.list_inj j r];exact hy⟩,⟨⟨.ref s.heap.objs.size,?_⟩,?_⟩,nb⟩
  .have:((i+1:Nat):Int)=(i:Int)+1:=by push_cast;rfl
   rw[this];exact a1
  exact V.at_ λc d o q=>t.extBut c o (λz=>hn (z ▸ d)) q
 done:=by
  intro X L M N d i D8 s W H E I J l O;subst L M N;obtain⟨xs,ys,p,r,Q⟩:=O;obtain⟨⟨g,n⟩,j⟩:=l;obtain⟨ix,R,S,_⟩:=I.list p;obtain⟨iy,ry,T,_⟩:=I.list r;have hl:=R.length;refine qaS9 (I.ok.hd d) D n j S.isList T.isList (by simp;lia) λh' eb=>⟨rfl,Pb.turnedL (ch:=[e,z,tI,tO,i1,i2]) (t':=s.toks) I (λb o f q=>?_) J⟩
  simp only[zAh,zBg,zCv,not_or] at f;exact eb b o f.2.1 f.2.2.2.1 f.2.2.2.2.1 f.2.2.2.2.2 q
 self:=λ_ _ _ _ _ l h=>by
  obtain⟨⟨g,n⟩,_⟩:=l;exact wpAny_pyIter_enum n h
section
variable{X:Cx}
def iEnz(K:Oa)(ta:TA):TI:=λσ H R=>ta σ H λvs H1=>∃a b,vs=[.ref a,.ref b]/\(∃xs,SqL K H1 a xs)/\(∃ys,SqL K H1 b ys)/\R (Itz K a b) H1
theorem qaW3(N:Gl X "enumerate")(hm:X.mg "enumerate"=none)(u:Gl X "zip")(v:X.mg "zip"=none)(O:PA X [l,r] ta)(P:Kj [l,r] X.env=[(false,eval l X.env),(false,eval r X.env)]:=by rfl)(f:Kj [r] X.env=[(false,eval r X.env)]:=by rfl)(w:Kj [.Call (.Name "zip" p2) [l,r] [] pos2] X.env=[(false,eval (.Call (.Name "zip" p2) [l,r] [] pos2) X.env)]:=by rfl):PI X (.Tuple elts M tpos) (.Call (.Name "enumerate" p) [.Call (.Name "zip" p2) [l,r] [] pos2] [] pos) (iEnz X.K ta):=by
 intro D8 s σ H R I h;refine Call_ (qO4 I N hm boot_enumerate (PyProof.Rows.callWith_type1 ?_ w rfl));show K6 _ _ (spliced ((false,eval _ X.env)::[])) _ _ s;refine Calls.spliced_cons ?_;refine Call_ (qO4 I u v boot_zip (PyProof.Rows.callWith_type1 (thn (O pos2 D8 s σ H _ I h) λY d x=>?_) (by rw[P,f]) (by rw[f];rfl)));obtain⟨Z,H1,I1,Q,S⟩:=x;obtain⟨a,b,e,⟨xs,y⟩,⟨ys,z⟩,q⟩:=S;subst e;cases Q with
 |cons r A=>cases A with
 |cons T A=>
  cases A;cases r;cases T;obtain⟨ix,rx,E,_⟩:=I1.list y;obtain⟨iy,ry,F,_⟩:=I1.list z;have la:a<d.heap.objs.size:=by obtain⟨o,B,_⟩:=E.isList;exact zAc B
  have lb:b<d.heap.objs.size:=by obtain⟨o,B,_⟩:=F.isList;exact zAc B
  refine call_zip_2 E.isList F.isList λg G C D i j k U=>?_;refine Calls.spliced_nil ?_;refine qw3 (s:={d with heap:=g}) G λV t J m=>?_;replace t:IsEnum V g.objs.size (d.heap.objs.size+4) 0 .none:=t;refine wpAny_pyIter_enum t ?_;have W:g.objs.size∉[d.heap.objs.size+4,d.heap.objs.size+2,d.heap.objs.size+3,d.heap.objs.size,d.heap.objs.size+1]:=by rw[k];simp
  refine⟨g.objs.size,_,_,_,H1,rfl,I1.kept (t':=d.toks) λb o q=>m b o (U b o q),qae5 (zipApart_new la lb) W,⟨⟨_,t⟩,?_⟩,λc L=>?_,q⟩;{exact ZSt.at_ (h:=g) ⟨⟨_,_,G,.inl ⟨rfl,rfl⟩⟩,C,⟨_,_,D⟩,i,j⟩ λc _ o q=>m c o q};have n:d.heap.objs.size<=c:=by simp only[zAh,zBg,zCv] at L;rcases L with rfl|rfl|rfl|rfl|rfl|rfl;{rw[k];exact zBr _ _};{exact zBr _ _};{exact zBr _ _};{exact zBr _ _};{exact zA3 _};exact zBr _ _
  exact I1.fpOk n (I1.hok.fresh n)
end
theorem qaS4{K:Oa}{g:TG}{tb:TS}{D:Dn}(h:xs.length=ys.length)(Pv:Nat->St->Hp->Prop)(k:Pv 0 E H)(l:∀i E H,Pv i E H->SqL K H a xs/\SqL K H b ys)(n:∀(i:Nat) x y E H p t,xs[i]?=some x->ys[i]?=some y->Pv i E H->H p=none->upd H p (.q [x,y]) t=none->g (.ref t) E (upd (upd H p (.q [x,y])) t (.q [.int (i:Int),.ref p])) λσ2 H2=>tb {D with nx:=Pv (i+1),ct:=Pv (i+1),bk:=D.nx} σ2 H2)(o:∀E H,Pv xs.length E H->D.nx E H):∃W:Nat->Nat->St->Hp->Prop,(∃m,W 0 m E H)/\∀i m E H,W i m E H->((Itz K a b).stop i H/\D.nx E H)∨((Itz K a b).go i H/\∃N:St->Hp->Prop,(∀E' H',N E' H'->∃j,j<m/\W (i+1) j E' H')/\∀x H',(Itz K a b).yld i H x H'->g x E H' λσ2 H2=>tb {D with nx:=N,ct:=N,bk:=D.nx} σ2 H2):=by refine⟨λi m E H=>m=xs.length-i/\i<=xs.length/\Pv i E H,⟨xs.length,by simp,zBo _,k⟩,?_⟩;rintro i m E H ⟨rfl,C,p⟩;obtain⟨d,f⟩:=l i E H p;by_cases c:i<xs.length;{refine .inr ⟨⟨xs,ys,xs[i],ys[i]'(h ▸ c),d,f,by simp[c],by simp[h ▸ c]⟩,Pv (i+1),λE' H' q=>⟨xs.length-(i+1),⋯,rfl,c,q⟩,λx H' y=>?_⟩;obtain⟨t,r,u,v,e,s,w,z,A,B⟩:=y;subst e z;exact n i u v E _ r t (A xs d) (B ys f) p s w};have e:i=xs.length:=⋯;subst e;exact .inl ⟨⟨xs,ys,d,f,zA3 _⟩,o E H p⟩
end L2
namespace LV
open PySem L2
variable{xs:Ds}
noncomputable def zipD(xs ys:Ds):Ds:=Nw (λx y=>D.q [x,y]) xs ys
noncomputable def twoL:Ds->Option (Ds×Ds)|[.l _ xs,.l _ ys]=>some (xs,ys)|_=>none
theorem qaJ8(h:twoL xs=some q):∃z z',xs=[.l z q.1,.l z' q.2]:=by unfold twoL at h;split at h;{cases h;exact⟨_,_,rfl⟩};cases h
section
variable{c:Vc}{X:Cx}{tg e l r:Lb}{body:List Lc}{g:VTG}{t:VTS}{tr:VTB}{pos:Pos}{F:γ->Prop}{H:Hp}{σ:St}{ds:Ds}{A:List γ}{E:Dn}{en:VEnds}
theorem qav7{i:Nat}(a:xs[i]?=some x)(b:ys[i]?=some y):(enD (zipD xs ys))[i]?=some (.q [.int (i:Int),.q [x,y]]):=by refine qaH8 ?_;unfold zipD;rw[List.getElem?_zipWith,a,b]
theorem qU8(P:VG c X tg g)(S:Pd c F H σ ds A)(l:Lk c E F H A en)(e:Held F H a vs z xs T A)(d:Held F H b k z' ys U A)(hm:D.imms xs=true)(n:D.imms ys=true)(Q:xs.length=ys.length)(q:Db g t en (enD (zipD xs ys)) ds):∃W:Nat->Nat->St->Hp->Prop,(∃m,W 0 m σ H)/\∀i m σ H,W i m σ H->((Itz K a b).stop i H/\E.nx σ H)∨((Itz K a b).go i H/\∃N:St->Hp->Prop,(∀σ' H',N σ' H'->∃J,J<m/\W (i+1) J σ' H')/\∀x H',(Itz K a b).yld i H x H'->Fa c g x σ H' λσ2 H2=>Ez c t {E with nx:=N,ct:=N,bk:=E.nx} σ2 H2):=by refine qaS4 (xs:=vs) (ys:=k) (by rw[e.len,d.len,Q]) (λi σ H=>∃F ds A,Pd c F H σ ds A/\Lk c E F H A en/\Held F H a vs z xs T A/\Held F H b k z' ys U A/\Db g t en ((enD (zipD xs ys)).drop i) ds) ⟨F,ds,A,S,l,e,d,q⟩ ?_ ?_ ?_;{rintro i σ H ⟨F,ds,A,S,l,e,d,q⟩;exact⟨.inl (.inl e.h),.inl (.inl d.h)⟩};{rintro i x y σ H p L R Y ⟨F,ds,A,S,l,e,d,q⟩ M f;obtain⟨u,Z,ru⟩:=e.get hm R;obtain⟨v,hv,rv⟩:=d.get n Y;rw[qj0 (qav7 Z hv)] at q;have o:=Same.new (u:=.q [x,y]) M;have r:=Same.new (u:=.q [.int (i:Int),.ref p]) f;have rp:Pa F (upd H p (.q [x,y])) (.ref p) (.q [u,v]) []:=qO0 M (.cons (A:=[]) (B:=[]) ru (.cons (A:=[]) (B:=[]) rv .nil));have s:Pa F (upd (upd H p (.q [x,y])) L (.q [.int (i:Int),.ref p])) (.ref L) (.q [.int (i:Int),.q [u,v]]) []:=qO0 f (.cons (A:=[]) (B:=[]) (.int _) (.cons (A:=[]) (B:=[]) rp .nil));have j:=o.trans r;have S1:=S.same j;have O:=l.step (Pc.same (F:=F) (A:=A) j);have w:=e.step S S1 (Pc.same j);have C:=d.step S S1 (Pc.same j);exact qL5 P S1 O s (λG σ' H' F' A' q' S' I=>⟨F',G,A',S',O.step I,w.step S1 S' I,C.step S1 S' I,q'⟩) q};rintro σ H ⟨F,ds,A,S,l,e,d,q⟩;rw[zCa (by rw[qad5,e.len];unfold zipD;rw[Mi];exact Nat.min_le_left _ _)] at q;exact l.nx _ _ _ _ _ q S Pc.refl
def qaV7(tr:VTB)(g:VTG)(t:VTS):VTS:=λe ds=>tr ds (λxs _ ds1=>orF (twoL xs) λq=>D.imms q.1=true/\D.imms q.2=true/\q.1.length=q.2.length/\Db g t e (enD (zipD q.1 q.2)) ds1) e.xe
theorem qaV5(N:PassesOwn (K7 X.prog X.w) X.A X.env X.xe)(hm:X.mg "enumerate"=none)(i:X.mg "zip"=none)(j:VAs c X [l,r] tr)(k:VG c X (.Tuple elts B tpos) g)(C:VSs c X body t)(n:Gl X "enumerate" := by rfl)(d:Gl X "zip" := by rfl)(O:Kj [l,r] X.env=[(false,eval l X.env),(false,eval r X.env)]:=by rfl)(o:Kj [r] X.env=[(false,eval r X.env)]:=by rfl)(s:Kj [.Call (.Name "zip" p2) [l,r] [] pos2] X.env=[(false,eval (.Call (.Name "zip" p2) [l,r] [] pos2) X.env)]:=by rfl)(P:X.calm=true:=by rfl):VS c X (.For (.Tuple elts B tpos) (.Call (.Name "enumerate" p) [.Call (.Name "zip" p2) [l,r] [] pos2] [] cpos) body [] pos) (qaV7 tr g t):=by
 refine⟨PS.mono (Iv N P (qaW3 n hm d i j.h O o s) k.h C.h) λE σ H u=>?_,λD Q G f=>j.m _ _ _ _ _ (λR _ e=>qa4 λq=>N7 (N7 (N7 (ql9 k C f _ e)))) f.xe⟩;obtain⟨F,G,A,D,S,l,q⟩:=u;refine⟨F,G,A,D.xe,S,l.xe,j.m _ _ _ _ _ (λR ps e q vs H1 F1 T A1 U pk S1 I V=>?_) (λ_ _ z=>z) q⟩;obtain⟨⟨ys,zs⟩,W,v,x,f,Y⟩:=qa7.mp q;obtain⟨z,z',rfl⟩:=qaJ8 W;cases U with|@cons _ _ Ta _ _ _ J t2=>cases t2 with|@cons _ _ Tb _ _ _ K Z=>
 cases Z;obtain⟨a,va,_,rfl,L,_,_⟩:=J.lst_inv;obtain⟨b,vb,_,rfl,M,_,_⟩:=K.lst_inv;have y:Pc F H A F1 H1 A1:=V.count λb=>by rw[zA0];lia
 exact⟨a,b,rfl,⟨va,.inl (.inl L)⟩,⟨vb,.inl (.inl M)⟩,qU8 k S1 (l.step y) ⟨J,L,I.count λb=>by simp only[zA0];lia⟩ ⟨K,M,I.count λb=>by simp only[zA0];lia⟩ v x f Y⟩
end
end LV
namespace L2
open PySem PySem.Spec PyProof.Rows
noncomputable def Itv(K:Oa)(a:γ)(n:Nat):It:=⟨λi H=>∃xs,SqL K H a xs/\xs.length=n/\i<n,λi H x H'=>H'=H/\∀xs,SqL K H a xs->xs[n-1-i]?=some x,λi _=>i=n⟩
theorem qaB1{P:K8}{w:La}{K:Oa}{tg:Lb}(a it:γ)(n:Nat):Gv P w K tg (Itv K a n) [it] it (λi h=>i<=n/\h.IsRevIter it a ((n:Int)-1-i)) where
 mem:=by simp
 obj:=λi h g b l=>by
  have e:b=it:=by simpa using l
  subst e;obtain⟨_,o,e,c,d⟩:=g;exact⟨o,e,λv z=>by rw[d] at z;cases z⟩
 keep:=λi h q g k=>⟨g.1,g.2.at λo e=>k it (by simp) o e⟩
 item:=by
  intro X t y A G i D8 s T H E I r g B;subst t y A;obtain⟨j,J,rfl,L⟩:=B;obtain⟨M,N,p,Y⟩:=I.list J;obtain⟨u,O,Q⟩:=N.get (i:=j.length-1-i) (x:=j[j.length-1-i]) (zB2 _);obtain⟨C,f1,f2,f3,D,F⟩:=r it (by simp);have R:((j.length:Int)-1-i)=((j.length-1-i:Nat):Int):=⋯
  have f:=g.2;rw[R] at f;refine wpAny_pyNext_rev_item f p.isList (x:=u) (by simpa using O) λq m S=>?_
  have I1:Pb X D8 T H {s with heap:=q}:=I.turned (t':=s.toks) (λb o l e=>(S.2 b l).trans e) C f1 f3 D F;obtain⟨o,e,c,d⟩:=id m;refine⟨u,rfl,Ir (s:={s with heap:=q}) e c d ∅ ⟨j[j.length-1-i],H,I1,Q,⟨rfl,λZ U=>by rw[I.list_inj U J];exact zB2 _⟩,⟨L,?_⟩,λb l=>(r b l).1⟩⟩;rw[show ((j.length:Int)-1-((i+1:Nat):Int))=((j.length-1-i:Nat):Int)-1 by lia];exact m
 done:=by
  intro X t y A G i D8 s T H E I r g B;subst t y A;obtain rfl:i=n:=B;obtain⟨C,f1,f2,f3,D,F⟩:=r it (by simp);have f:=g.2;rw[show ((i:Int)-1-(i:Int)) = -1 by lia] at f;exact wpAny_pyNext_rev_end (I.ok.hd G) f λq V=>⟨rfl,I.turned (t':=s.toks) (λb o l e=>V b o l e) C f1 f3 D F⟩
 self:=λ_ _ _ _ _ g h=>wpAny_pyIter_revIter g.2 h
section
variable{X:Cx}
def iRev(K:Oa)(ta:TA):TI:=λC H R=>ta C H λvs H1=>∃a xs,vs=[.ref a]/\SqL K H1 a xs/\R (Itv K a xs.length) H1
theorem qaM8(j:Gl X "reversed")(hm:X.mg "reversed"=none)(k:PA X [l] ta)(m:Kj [l] X.env=[(false,eval l X.env)]:=by rfl):PI X tg (.Call (.Name "reversed" p) [l] [] pos) (iRev X.K ta):=by
 intro D8 s C H R I h;refine Call_ (qO4 I j hm boot_reversed (PyProof.Rows.callWith_type1 (thn (k pos D8 s C H _ I h) λz d f=>?_) m rfl));obtain⟨A,H1,I1,n,t⟩:=f;obtain⟨a,g,e,u,q⟩:=t;subst e;cases n with
 |cons r v=>
  cases v;cases r;obtain⟨c,w,x,B⟩:=I1.list u;have i:(d.heap.push (revObj a ((c.toArray.size:Int)-1))).IsRevIter d.heap.objs.size a ((g.length:Int)-1-(0:Nat)):=by refine⟨_,zAp _ rfl,rfl,?_⟩;have:=w.length;show Data.fields #[.ref a,rawInt ((c.toArray.size:Int)-1)]=_;rw[show ((c.toArray.size:Int)-1)=((g.length:Int)-1-(0:Nat)) by simp;lia]
  refine call_reversed_list x.isList (wpAny_pyIter_revIter i ?_);exact⟨d.heap.objs.size,[d.heap.objs.size],_,_,H1,rfl,I1.kept (t':=d.toks) λb o q=>zA2 _ q,qaB1 a d.heap.objs.size g.length,⟨zBo _,i⟩,λb y=>by rw[zAb.mp y];exact I1.fpOk (zA3 _) (I1.hok.fresh (zA3 _)),q⟩
end
theorem qaS3{K:Oa}{g:TG}{tb:TS}{D:Dn}(Pv:Nat->St->Hp->Prop)(d:Pv 0 n H)(f:∀i n H,Pv i n H->SqL K H a xs)(h:∀i x n H,i<xs.length->xs[xs.length-1-i]?=some x->Pv i n H->g x n H λσ2 H2=>tb {D with nx:=Pv (i+1),ct:=Pv (i+1),bk:=D.nx} σ2 H2)(j:∀n H,Pv xs.length n H->D.nx n H):∃W:Nat->Nat->St->Hp->Prop,(∃m,W 0 m n H)/\∀i m n H,W i m n H->((Itv K a xs.length).stop i H/\D.nx n H)∨((Itv K a xs.length).go i H/\∃N:St->Hp->Prop,(∀n' H',N n' H'->∃c,c<m/\W (i+1) c n' H')/\∀x H',(Itv K a xs.length).yld i H x H'->g x n H' λσ2 H2=>tb {D with nx:=N,ct:=N,bk:=D.nx} σ2 H2):=by refine⟨λi m n H=>m=xs.length-i/\i<=xs.length/\Pv i n H,⟨xs.length,by simp,zBo _,d⟩,?_⟩;rintro i m n H ⟨rfl,l,p⟩;have q:=f i n H p;by_cases b:i<xs.length;{refine .inr ⟨⟨xs,q,rfl,b⟩,Pv (i+1),λn' H' k=>⟨xs.length-(i+1),⋯,rfl,b,k⟩,λx H' y=>?_⟩;obtain⟨e,y⟩:=y;subst e;exact h i x n _ b (y xs q) p};have e:i=xs.length:=⋯;subst e;exact .inl ⟨rfl,j n H p⟩
theorem qaI4{K:Oa}(Pv:Nat->St->Hp->Prop)(c:Pv 0 n H)(d:∀i n H,Pv i n H->SqL K H a xs)(f:∀(i:Nat) x n H,i<xs.length->xs[xs.length-1-i]?=some x->Pv i n H->g x n H λσ2 H2=>tf σ2 H2 λh H3=>if h=true then te σ2 H3 λv H4=>∃ys,H4 D=some (.l ys)/\ys.length<Kk/\Pv (i+1) σ2 (upd H4 D (.l (ys++[v]))) else Pv (i+1) σ2 H3)(j:∀n H,Pv xs.length n H->R H):qD1 (Itv K a xs.length) g tf te D R n H:=by refine⟨λi m n H=>m=xs.length-i/\i<=xs.length/\Pv i n H,⟨xs.length,by simp,zBo _,c⟩,?_⟩;rintro i m n H ⟨rfl,l,p⟩;have q:=d i n H p;by_cases b:i<xs.length;{refine .inr ⟨⟨xs,q,rfl,b⟩,Pv (i+1),λn' H' k=>⟨xs.length-(i+1),⋯,rfl,b,k⟩,λx H' y=>?_⟩;obtain⟨e,y⟩:=y;subst e;exact f i x n _ b (y xs q) p};have e:i=xs.length:=⋯;subst e;exact .inl ⟨rfl,j n H p⟩
end L2
namespace LV
open PySem L2
theorem qax0{ys:Ds}(hi:i<ys.length)(h:ys[ys.length-1-i]?=some y):ys.reverse[i]?=some y:=by rw[List.getElem?_reverse hi];exact h
section
variable{c:Vc}{X:Cx}{tg e:Lb}{body:List Lc}{g:VTG}{t:VTS}{te:VT}{pos:Pos}{F:γ->Prop}{H:Hp}{σ:St}{ds:Ds}{A:List γ}{E:Dn}{en:VEnds}
def sForV(te:VT)(g:VTG)(t:VTS):VTS:=λe ds=>te ds (λd ds1=>orF d.lstOf λys=>D.imms ys=true/\Db g t e ys.reverse ds1) e.xe
theorem sforV(P:PassesOwn (K7 X.prog X.w) X.A X.env X.xe)(hm:X.mg "reversed"=none)(hi:VE c X e te)(r:VG c X tg g)(J:VSs c X body t)(s:Gl X "reversed" := by rfl)(K:Kj [e] X.env=[(false,eval e X.env)]:=by rfl)(Q:X.calm=true:=by rfl):VS c X (.For tg (.Call (.Name "reversed" p) [e] [] cpos) body [] pos) (sForV te g t):=by
 refine⟨PS.mono (Iv P Q (qaM8 s hm (qc5 hi.h ql4 K) K) r.h J.h) λE σ H u=>?_,λn R f o=>hi.m _ _ _ _ _ (λd j=>qa4 λB=>N7 (ql9 r J o _ j)) o.xe⟩;obtain⟨F,f,A,n,S,l,q⟩:=u;refine⟨F,f,A,n.xe,S,l.xe,hi.m _ _ _ _ _ (λd j q v H1 F1 T A1 L S1 U V=>?_) (λ_ _ z=>z) q⟩;obtain⟨B,W,C,Y⟩:=qa7.mp q;obtain⟨z,rfl⟩:=qr7 W;obtain⟨a,D,Ael,rfl,M,rs,_⟩:=L.lst_inv;have G:Pc F H A F1 H1 A1:=V.count λb=>by rw[zA0];lia
 refine⟨a,D,rfl,.inl (.inl M),qaS3 (xs:=D) (λi σ H=>∃F f A,Pd c F H σ f A/\Lk c E F H A n/\Held F H a D z B T A/\Db g t n (B.reverse.drop i) f) ⟨F1,j,A1,S1,l.step G,⟨L,M,U⟩,Y⟩ ?_ ?_ ?_⟩;{rintro i σ H ⟨F,f,A,S,l,k,q⟩;exact .inl (.inl k.h)};{rintro i x σ H hi Z ⟨F,f,A,S,l,k,q⟩;obtain⟨y,N,ry⟩:=k.get C Z;have o:=k.len;rw[o] at N hi;rw[qj0 (qax0 hi N)] at q;exact qL5 r S l ry (λI σ' H' F' A' q' S' O=>⟨F',I,A',S',l.step O,k.step S S' O,q'⟩) q};rintro σ H ⟨F,f,A,S,l,k,q⟩;rw[zCa (by rw[zC7,k.len];exact zA3 _)] at q;exact l.nx _ _ _ _ _ q S Pc.refl
end
section
variable{c:Vc}{X:Cx}{NY:List Str}{W:Scope}{src:List (Option Nat)}{Z R e:Lb}{O:List Lb}{g:VTG}{N:VTT}{te U:VT}{pos:Pos}{av:List (Option V)}{T:List γ}{τ:List (Option V)}{o0:Ds}{Y:γ}{F0:γ->Prop}{H0 H:Hp}{A0:List γ}{K:Ds->Ds->Prop}
theorem qaB0{J':St}(b:Blk X NY W src Z O R g N te)(hm:D.imms ys=true)(m:Mid src av (λF H=>Pa F H (.ref a) (.l z ys) T/\H a=some (.l vs)) T τ o0 Y F0 H0 A0 g N te K ys.reverse J' H)(j:∀σ2 H2,Mid src av (λF H=>Pa F H (.ref a) (.l z ys) T/\H a=some (.l vs)) T τ o0 Y F0 H0 A0 g N te K [] σ2 H2->Q H2):qD1 (Itv K' a vs.length) (qt8 src g) (qt7 src N) (B9 src te) Y Q J' H:=by obtain⟨_,_,_,_,_,_,_,_,d,_⟩:=id m;have c:=qaF7 d.1 d.2;refine qaI4 (xs:=vs) (λi J H=>Mid src av (λF H=>Pa F H (.ref a) (.l z ys) T/\H a=some (.l vs)) T τ o0 Y F0 H0 A0 g N te K (ys.reverse.drop i) J H) m ?_ ?_ ?_;{rintro i J H ⟨_,_,_,_,_,_,_,_,e,_⟩;exact .inl (.inl e.2)};{rintro i x J H f k ⟨F,M,A,l,B,Ao,S1,r,e,L,n,s,q⟩;obtain⟨y,h,o⟩:=qaG9 e.1 e.2 hm k;rw[c] at h f;rw[qj0 (qax0 f h)] at q;exact qK9 b qm8 S1 r e L n s o q};intro J H m;rw[zCa (by rw[zC7,c];exact zA3 _)] at m;exact j _ _ m
def tCV(src:List (Option Nat))(U:VT)(g:VTG)(N:VTT)(te:VT):VT:=λds Q xe=>U ds (λd ds1=>orF d.lstOf λys=>D.imms ys=true/\Hk src g N te ys.reverse ds1 Q) xe
theorem qba3{K:Oa}(b:Blk X NY W src Z O R g N te)(hi:VE c X e U):Imp c X (tCV src U g N te) (Eh (iRev K (Iy (Bm c U) tNil)) src (qt8 src g) (qt7 src N) (B9 src te)):=by rintro D8 s J H Q I ⟨F,k,A,l,S,x,q⟩;have f:=b.lt D8 J H s I;refine⟨F,k,A,l,S,x,hi.m _ _ _ _ _ (λd n q v H1 F1 T A1 i S1 o p=>?_) (λ_ _ z=>z) q⟩;obtain⟨E,t,u,h⟩:=qa7.mp q;obtain⟨z,rfl⟩:=qr7 t;obtain⟨a,w,Ael,rfl,j,G,_⟩:=i.lst_inv;refine⟨a,w,rfl,.inl (.inl j),λY y=>qaB0 b u (qL0 f S1 o ⟨i,j⟩ qm8 y (qm3 b (λC M q v H' F' B A' r S' _ D s=>q v H' F' B A' r S' (D.count λb=>by simp only[zA0];lia) ((p.trans s).count λb=>by simp only[zA0];lia)) _ _ _ h)) λσ2 H2 m=>qL1 f S1 m⟩
theorem ecV(hm:X.mg "reversed"=none)(hi:VE c X e U)(bl:Blk X NY W src Z O R g N te)(b:Gl X "reversed" := by rfl)(a:Kj [e] X.env=[(false,eval e X.env)]:=by rfl)(f:X.calm=true:=by rfl)(i:qw1 X NY src W=true:=by rfl)(j:∀x,Km (.Call (.Name "reversed" p) [e] [] cpos) X.env x=pure x:=by intro _;rfl):VE c X (.ListComp R [⟨Z,.Call (.Name "reversed" p) [e] [] cpos,O,0⟩] W pos) (tCV src U g N te):=Jr (qF9 NY src (qaM8 b hm (qc5 hi.h ql4 a) a) bl.pg bl.pf bl.pe f i j) (qba3 bl hi) λq Q Q' r k l n=>hi.m _ _ _ _ _ (λd o=>qa4 λs=>N7 (qL6 bl l)) n
end
def G3(L:List Nat)(ds:Ds):Ds:=L.foldl (λds i=>ds.set i .u) ds
theorem Locs.buts{F:γ->Prop}{H:Hp}:∀{L:List Nat}{o τ:List (Option V)}{ds:Ds}{A:List γ},Locs F H o ds A->τ.length=o.length->(∀j,L.contains j=false->τ[j]?=o[j]?)->∃A',Locs F H τ (G3 L ds) A'/\∀b,A'.count b<=A.count b
 |[],o,τ,ds,A,h,hl,he=>by obtain rfl:τ=o:=List.ext_getElem? λj=>he j rfl;exact⟨A,h,λ_=>zA3 _⟩|i::L,o,τ,ds,A,h,hl,he=>by
  by_cases c:i<o.length
  .obtain⟨d,k⟩:∃d,ds[i]?=some d:=⟨_,zB2 (by rw[<-h.len];exact c)⟩;obtain⟨A1,l,m⟩:=h.but (τ:=o.set i (τ[i]'(hl ▸ c))) k (by simp) λj a=>zBm (Ne.symm a);obtain⟨A2,f,g⟩:=Locs.buts (L:=L) (τ:=τ) l (by simp[hl]) λj a=>by by_cases e:j=i;{subst e;rw[zCb c];exact zB2 (hl ▸ c)};rw[zBm (Ne.symm e)];exact he j (by rw[M',a,Bool.or_false];exact zC8 e)
   exact⟨A2,f,λb=>zAl (g b) (m b)⟩
  have n:ds.set i .u=ds:=List.set_eq_of_length_le (by rw[<-h.len];lia);obtain⟨A2,f,g⟩:=Locs.buts (L:=L) (τ:=τ) h hl λj a=>by by_cases e:j=i;{subst e;rw[zBx ⋯,zBx ⋯]};exact he j (by rw[M',a,Bool.or_false];exact zC8 e)
  refine⟨A2,?_,g⟩;show Locs F H τ (G3 L (ds.set i .u)) A2;rw[n];exact f
section
variable{c:Vc}{X:Cx}{N:Lc}{t:VTS}
def qaL3(L:List Nat)(t:VTS):VTS:=λe ds=>t ⟨λ_=>e.nx (G3 L ds),λd _=>d.plain=true/\e.rt d (G3 L ds),λ_=>False,λ_=>False,λ_ _=>False⟩ (D.fzs ds)
theorem qaK9(L:List Nat)(h:∀av,VS ⟨c.E,λj=>!(L.contains j),av,c.gv⟩ X N t)(B:∀i,L.contains i=true->c.W i=false:=by exact λ_ _=>rfl):VS c X N (qaL3 L t):=by
 refine⟨λD8 s M H E I q=>?_,λe K n f q=>?_⟩;rotate_left
 {refine(h []).m _ _ _ ?_ q;exact⟨λ_=>f.nx _,λd _ z=>⟨z.1,f.rt _ _ z.2⟩,λ_ z=>z,λ_ z=>z,λ_ _ z=>z⟩};obtain⟨F,n,A,e,S,l,q⟩:=q;refine(h (M++c.gv)).h D8 s M H E I ⟨λb=>F b∨b∈A,D.fzs n,[],_,⟨S.loc.fz (λ_=>.inl) (λ_=>.inr),⟨λb=>by simp,λb _=>by simp,λb h=>h.elim (S.ok.ex b) λh=>let ⟨o,e,_⟩:=S.loc.cells b h;⟨o,e⟩⟩,rfl,λ_ _=>rfl⟩,?_,q⟩;have fin:∀{a M' H' F' A' T},Pd ⟨c.E,λj=>!(L.contains j),M++c.gv,c.gv⟩ F' H' M' a A'->Ok F' H' (T++A')->Pc (λb=>F b∨b∈A) H [] F' H' (T++A')->∃A2,Pd c F H' M' (G3 L n) A2/\Ok F H' (T++A2)/\Pc F H A F H' (T++A2):=λ{a M' H' F' A' T} S' C s=>by
  have p:Same H H':=λb o e=>s.fr b o e (by simp);have f:(M'++c.gv).length=(M++c.gv).length:=S'.len.symm;have w:∀j,L.contains j=false->(M'++c.gv)[j]?=(M++c.gv)[j]? := λj g=>S'.ag j (show (!(L.contains j))=true by rw[g];rfl);obtain⟨A2,L2,G⟩:=(S.loc.same p).buts f w;have x:New H T:=⟨λb=>by have:=C.sep b;rw[zA0] at this;lia,λb o e=>by have:=s.sub b o e (by simp);rw[zA0] at this;lia⟩;have k:∀b,(T++A2).count b<=(T++A).count b:=λb=>by rw[zA0,zA0];have:=G b;lia
  have y:Ok F H' (T++A2):=(x.ok S.ok S.loc.cells p).count k;exact⟨A2,⟨L2,y.right,by rw[S.len,f],λj g=>by cases z:L.contains j with|true=>rw[B j z] at g;cases g|false=>rw[w j z];exact S.ag j g⟩,y,(x.stp p).count k⟩
 refine⟨λa M' H' F' A' q S' s=>?_,λd a v M' H' F' T A' q r S' o s=>?_,λ_ _ _ _ _ q=>q.elim,λ_ _ _ _ _ q=>q.elim,λ_ _ _ _ _ _ _ q=>q.elim⟩;{obtain⟨A2,S2,_,u⟩:=fin (T:=[]) S' S'.ok s;exact l.nx _ _ _ _ _ q S2 u};obtain⟨A2,S2,J,u⟩:=fin S' o s;exact l.rt _ _ _ _ _ _ _ _ q.2 (r.plain q.1) S2 J u
end
theorem qak3(q:t ⟨λ_=>e.nx (G3 L ds),λd _=>d.plain=true/\e.rt d (G3 L ds),λ_=>False,λ_=>False,λ_ _=>False⟩ (D.fzs ds)):qaL3 L t e ds:=q
def rSlB(K:Oa):R2:=λx y H Q=>∃h,y=.int h/\rSlL K x none (some h) H Q
def gSlB(x y:D):Option D:=y.asI.bind λh=>if noT x=true then gSl x none (some h) else none
theorem p_sl:P2 X (.Subscript a (.Slice none (some b) none p2) pos) a b (rSlB X.K):=λ_ _ c d=>PE.mono (qI6 qW4 c qW9 (qW8 d)) λe H Q q=>q
theorem qaO2:Bb true (rSlB K) gSlB:=by
 intro F H v w x y B d Q r h q;cases r with|@cons _ _ A _ _ _ b t=>cases t with|@cons _ _ A2 _ _ _ c _=>
 obtain⟨j,e,h⟩:=zA1.mp h;by_cases a:noT x=true;{rw[if_pos a] at h;exact⟨j,c.asI e,Ji b h (λk z=>by subst z;cases a) λw H' B' f g i=>q w H' B' f g i⟩};rw[if_neg a] at h;cases h
end LV
namespace LV.My
open PySem L2 Row _root_.My
variable{Q:DK}{R:Ds->D->Prop}{S ks ns:List Int}{b z':Bool}{d x y:D}{ds ys:Ds}{e:VEnds}{f fa fb:FV}{fs:List (Str×D)}{g':Nat->Option Int}{j l r:Nat}{m:Str}{o:Option Int}{pf:PF}{qc:VTT}{s:VSp}{t u:VTS}{ta tb te:VT}{tr:VTB}{xe:XKd}{α:Type}
noncomputable def _root_.LV.D.whole:D->Bool|.int _=>true|_=>false
noncomputable def _root_.LV.D.within(l m:Int):D->Bool|.int i=>decide (l<=i)&&decide (i<=m)|_=>false
def _root_.LV.D.num:D->Bool:=D.within 0 1000000000000000000
noncomputable def fx3(g:D->D->D->Option D):Ds->Option D|[x,y,z]=>g x y z|_=>none
theorem qak5(h:Dh (fx1 g) ds Q xe):ds.length=1:=by match ds,h with|[_],_=>rfl
theorem qaQ4(h:Dh (fx3 g) ds Q xe):ds.length=3:=by match ds,h with|[_,_,_],_=>rfl
theorem imm1(h:Dh (fx1 g) ds Q xe):G0 (wOf [true]) 0 ds=true:=by match ds,h with|[_],_=>rfl
theorem imm3(h:Dh (fx3 g) ds Q xe):G0 (wOf [true,true,true]) 0 ds=true:=by match ds,h with|[_,_,_],_=>rfl
theorem Jy(h:Dh (fx1 g) ds Q xe):∃x d,ds=[x]/\g x=some d/\Q d [x]:=by match ds,h with|[x],h=>obtain⟨d,e,q⟩:=qa7.mp h;exact⟨x,d,rfl,e,q⟩
theorem pure3(h:Dh (fx3 g) ds Q xe):∃x y z d,ds=[x,y,z]/\g x y z=some d/\Q d [x,y,z]:=by match ds,h with|[x,y,z],h=>obtain⟨d,e,q⟩:=qa7.mp h;exact⟨x,y,z,d,rfl,e,q⟩
theorem qO6{t:String}(h:x.kind=some t):x.known=true:=by cases x<;>first|rfl|cases h
def A5(P:Ds->D->Prop):VSp:=λds Q _=>∃d,P ds d/\Q d ds
theorem qb2:Bo (A5 P):=λ_ _ _ _ _ a _ ⟨d,p,q⟩=>⟨d,p,a _ _ q⟩
noncomputable def O7(ps:Pr):Ds:=ps.map λp=>.q [.int p.1,.int p.2]
noncomputable def kvD(ps:Pr):List (Key×D):=ps.map λp=>(.inl p.1,.int p.2)
def Ad(z:Bool)(C:γ)(n:Int)(wr:Bool)(ps:Pr):D:=.ins z C [("rooms",.int n),("wraps",.bl wr),("homes",.l z (O7 ps)),("home_numbers",.dct z (kvD ps))]
noncomputable def Bk:Option Int->D|none=>.non|some k=>.int k
def O6(n:Nat)(g:Nat->Option Int):Ds:=(Lr n).map λi=>Bk (g i)
noncomputable def O5(ks:List Int):Ds:=ks.map .int
theorem qC2:∀ps:Pr,D.imms (O7 ps)=true|[]=>rfl|p::r=>by show (D.imms [.int p.1,.int p.2]&&D.imms (O7 r))=true;rw[qC2 r];rfl
theorem qd0:∀ks:List Int,D.imms (O5 ks)=true|[]=>rfl|k::r=>by show (true&&D.imms (O5 r))=true;rw[qd0 r];rfl
theorem qal3{α:Type}{f:α->D}(h:∀a,(f a).imm=true):∀l:List α,D.imms (l.map f)=true|[]=>rfl|a::r=>by show ((f a).imm&&D.imms (r.map f))=true;rw[h a,qal3 h r];rfl
theorem qal4(o:Option Int):(Bk o).imm=true:=by cases o<;>rfl
theorem qp7(n:Nat)(g:Nat->Option Int):D.imms (O6 n g)=true:=qal3 (λi=>qal4 _) _
theorem qal1:∀ks:List Int,intsD (O5 ks)=some ks|[]=>rfl|k::r=>by show (intsD (O5 r)).map (λis=>k::is)=some (k::r);rw[qal1 r];rfl
theorem qK3:∀ks:List Int,flats (O5 ks)=some (ks.map V.int)|[]=>rfl|k::r=>by show (Option.bind (some (V.int k)) λv=>(flats (O5 r)).bind λa=>some (v::a))=_;rw[qK3 r];rfl
theorem qg6(ks:List Int):(O5 ks).length=ks.length:=zA5 _
theorem qh2(n:Nat)(g:Nat->Option Int):(O6 n g).length=n:=by simp[O6]
theorem qC3(h:i<n):(O6 n g)[i]?=some (Bk (g i)):=by unfold O6;rw[zB7,List.getElem?_range h];rfl
theorem qag0:(O6 n g).set i (Bk o)=O6 n (λj=>if j=i then o else g j):=by apply List.ext_getElem?;intro j;by_cases a:j<n;{rw[qC3 a];by_cases e:i=j;{subst e;rw[zCb (by rw[qh2];exact a),if_pos rfl]};rw[zBm e,qC3 a,if_neg (Ne.symm e)]};rw[zBx (by rw[Mu,qh2];lia),zBx (by rw[qh2];lia)]
theorem qai0:∀ps:Pr,Hx (O7 ps)=some (kvD ps)|[]=>rfl|p::r=>by show (Option.bind (some ((Sum.inl p.1:Key),D.int p.2)) λq=>(Hx (O7 r)).bind λps=>some (q::ps))=_;rw[qai0 r];rfl
theorem qaq4{m:Int}(h:¬k∈ps.map (·.1)):E8 (kvD ps) (.inl k) (.int m)=kvD (ps++[(k,m)]):=by unfold E8;rw[if_neg];{unfold kvD;rw[zBa];rfl};intro e;obtain⟨q,a,e⟩:=List.any_eq_true.mp e;obtain⟨r,b,rfl⟩:=zAx.mp a;have e:(Sum.inl r.1:Key)=Sum.inl k:=zAi e;exact h (zAx.mpr ⟨r,b,Sum.inl.inj e⟩)
theorem qX4:∀(a ps:Pr),((ps++a).map (·.1)).Nodup->qx2 (kvD ps) (kvD a)=kvD (ps++a)
 |[],ps,_=>by rw[zAd];rfl|q::a,ps,h=>by
  show qx2 (E8 (kvD ps) (.inl q.1) (.int q.2)) (kvD a)=_;have b:¬q.1∈ps.map (·.1):=by rw[zBa,zAy,zBj] at h;exact λz=>h.2.2 _ z _ zAf rfl
  rw[qaq4 b,qX4 a (ps++[(q.1,q.2)]) (by rw[zAo];exact h),zAo];rfl
theorem qar7(h:(ps.map (·.1)).Nodup):qx2 [] (kvD ps)=kvD ps:=qX4 ps [] h
theorem qaz9(h:(ps.map (·.1)).Nodup):Hf (.l z (O7 ps))=some (.dct false (kvD ps)):=by show (Hx (O7 ps)).map (λps=>D.dct false (qx2 [] ps))=_;rw[qai0];show some (D.dct false (qx2 [] (kvD ps)))=_;rw[qar7 h]
theorem qav9(k:Int):∀ps:Pr,Dw (kvD ps) (.inl k)=(ps.lookup k).map .int
 |[]=>rfl|(p,m)::r=>by
  show Dw ((.inl p,.int m)::kvD r) _=_;by_cases e:p=k;{subst e;simp[Dw,zAv]};have a:Dw ((.inl p,D.int m)::kvD r) (.inl k)=Dw (kvD r) (.inl k):=by simp[Dw,zC6,e]
  rw[a,qav9 k r];have:(k==p)=false:=by simpa using λz=>e z.symm
  simp only[zAv,this]
theorem qa0{o:Option α}{a:α}{k:α->Prop}(e:o=some a)(h:k a):orF o k:=by rw[e];exact h
theorem Dt{p:Prop}[Decidable p]{a b:Prop}(h:p)(x:a):if p then a else b:=by rw[if_pos h];exact x
theorem Da{p:Prop}[Decidable p]{a b:Prop}(h:¬p)(x:b):if p then a else b:=by rw[if_neg h];exact x
theorem ite_b{a b:Prop}(h1:p=true->a)(h2:p=false->b):if p=true then a else b:=by cases p with|true=>exact h1 rfl|false=>exact h2 rfl
noncomputable def Ih:Option Int->D|some f=>.int f|none=>.non
theorem qav1(b:rdN i ds=some x)(h:s [x] (λd ys=>orF (Aq [.sl i] ys (ds.set i .u)) λa=>Q d a) (λe ys=>orF (Aq [.sl i] ys (ds.set i .u)) λa=>xe e a)):qk6 s [] (tbN i A7) ds Q xe:=⟨by rw[b];rfl,by show orF (rdN i ds) _;rw[b];exact h⟩
theorem qI5(e:f ds=some d)(q:Q d ds):Dh f ds Q xe:=qa0 e q
theorem qr8(e:R ds d)(q:Q d ds):A5 R ds Q xe:=⟨d,e,q⟩
theorem qc0(a:rdN i ds=some x)(h:tr ds (λxs ps ds1=>orF (rdN i ds1) λd=>K (d::xs) (.sl i::ps) (ds1.set i .u)) xe):tbN i tr ds K xe:=⟨by rw[a];rfl,h⟩
theorem qk0(b:f ds=some y)(h:tr ds (λxs ps a=>K (y::xs) (.no::ps) a) xe):tbV (B6 f) tr ds K xe:=qa0 (k:=λy=>tr ds (λxs ps a=>K (y::xs) (.no::ps) a) xe) b h
theorem rd0{r:Ds}(h:d.known=true):rdN 0 (d::r)=some d:=qn3.mpr ⟨rfl,h⟩
theorem qK1{β:Type}(f:α->β)(l:List α):l.filterMap (λa=>some (f a))=l.map f:=by simp
section
variable{z:Bool}{C:γ}{n:Int}{wr:Bool}{ps:Pr}
theorem qG8{f:Str}(h:fs.lookup f=some d):D.fld C f (.ins z C fs)=some d:=by show (if C=C then fs.lookup f else none)=some d;rw[if_pos rfl,h]
theorem qe0:D.fld C "rooms" (Ad z C n wr ps)=some (.int n):=qG8 (by rfl)
theorem qo5:D.fld C "wraps" (Ad z C n wr ps)=some (.bl wr):=qG8 (by rfl)
theorem qad4:D.fld C "home_numbers" (Ad z C n wr ps)=some (.dct z (kvD ps)):=qG8 (by rfl)
theorem qay9(h:fs.lookup m=none):(D.ins z C fs).isM C m=true:=by show (decide (C=C)&&(fs.lookup m).isNone)=true;rw[zAg rfl,h];rfl
theorem qf8(h:([("rooms",.int n),("wraps",.bl wr),("homes",.l z (O7 ps)),("home_numbers",.dct z (kvD ps))]:List (Str×D)).lookup m=none):(Ad z C n wr ps).isM C m=true:=qay9 h
theorem Ay(h:fa ds=some x)(h':g x=some y):f1 g fa ds=some y:=qaH6.mpr ⟨x,h,h'⟩
theorem Ag(h:fa ds=some x)(h':fb ds=some y)(h2:g x y=some d):f2 g fa fb ds=some d:=qaH5.mpr ⟨x,y,h,h',h2⟩
theorem qi7:(D.ins false C fs).ownI C=some fs:=by show (if C=C then some fs else none)=some fs;rw[if_pos rfl]
end
theorem qE6(b:rdN i ds=some p)(hm:p.isM C m=true)(h:tr ds (λxs ps ds1=>orF (rdN i ds1) λd=>s (d::(xs++[])) (λr ys=>orF (Aq (.sl i::ps) ys (ds1.set i .u)) λa=>Q r a) (λx ys=>orF (Aq (.sl i::ps) ys (ds1.set i .u)) λa=>xe x a)) xe):qD0 C m s [] i tr ds Q xe:=⟨qa0 b hm,h⟩
theorem Ii(a:rdN i ds=some x)(e:f [x]=some d)(b:Aq [.sl i] [x] (ds.set i .u)=some ds)(q:Q d ds):qk6 (Dh f) [] (tbN i A7) ds Q xe:=qav1 a (qI5 e (qa0 b q))
theorem qr9(c:rdN i ds=some x)(b:rdN j ds=some y)(a:rdN i (ds.set j .u)=some x)(r:R [x,y] d)(e:Aq [.sl i,.sl j] [x,y] ((ds.set j .u).set i .u)=some ds)(q:Q d ds):qk6 (A5 R) [] (tbN i (tbN j A7)) ds Q xe:=qc0 c (qc0 b (qa0 b (qa0 a (qr8 r (qa0 e q)))))
theorem Ij(e:rdN i ds=some x)(f:rdN j ds=some y)(c:rdN l ds=some w)(a:rdN j (ds.set l .u)=some y)(b:rdN i ((ds.set l .u).set j .u)=some x)(r:R [x,y,w] d)(g:Aq [.sl i,.sl j,.sl l] [x,y,w] (((ds.set l .u).set j .u).set i .u)=some ds)(q:Q d ds):qk6 (A5 R) [] (tbN i (tbN j (tbN l A7))) ds Q xe:=qc0 e (qc0 f (qc0 c (qa0 c (qa0 a (qa0 b (qr8 r (qa0 g q)))))))
theorem qO2(c:rdN i ds=some p)(hm:p.isM C m=true)(b:rdN j ds=some x)(a:rdN i (ds.set j .u)=some p)(r:R [p,x] d)(e:Aq [.sl i,.sl j] [p,x] ((ds.set j .u).set i .u)=some ds)(q:Q d ds):qD0 C m (A5 R) [] i (tbN j A7) ds Q xe:=qE6 c hm (qc0 b (qa0 b (qa0 a (qr8 r (qa0 e q)))))
theorem qar8(e:rdN i ds=some p)(hm:p.isM C m=true)(f:rdN j ds=some x)(c:rdN l ds=some y)(a:rdN j (ds.set l .u)=some x)(b:rdN i ((ds.set l .u).set j .u)=some p)(r:R [p,x,y] d)(g:Aq [.sl i,.sl j,.sl l] [p,x,y] (((ds.set l .u).set j .u).set i .u)=some ds)(q:Q d ds):qD0 C m (A5 R) [] i (tbN j (tbN l A7)) ds Q xe:=qE6 e hm (qc0 f (qc0 c (qa0 c (qa0 a (qa0 b (qr8 r (qa0 g q)))))))
theorem Fv{t:VT}(h:∀(Q:DK)(xe:XKd),Q (.bl true) ds->t ds Q xe)(h2:u e ds):Gi (sIf (Bw (ttE t)) n Gh) u e ds:=h _ _ h2
theorem if_e{t:VT}(h:∀(Q:DK)(xe:XKd),Q (.bl b) ds->t ds Q xe)(h1:b=true->u e ds)(h2:b=false->v e ds):sIf (ttE t) u v e ds:=h _ _ (by
 show if b=true then u e ds else v e ds
 exact ite_b h1 h2)
theorem if_v(h:f ds=some (.bl b))(h1:b=true->u e ds)(h2:b=false->v e ds):sIf (ttV f) u v e ds:=by show orF ((f ds).bind D.asB) _;rw[h];exact ite_b h1 h2
theorem Fw{u:VT}(h:f ds=some (.bl b))(h1:b=true->u ds Q xe)(h2:b=false->v ds Q xe):tIfE (ttV f) u v ds Q xe:=by show orF ((f ds).bind D.asB) _;rw[h];exact ite_b h1 h2
theorem qn7(e:f ds=some d)(q:Q d ds):B6 f ds Q xe:=qa0 e q
theorem qm7(b:Bool)(h:f ds=some (.bl b))(h1:b=true->u {e with nx:=w e} ds)(h2:b=false->w e ds):Gi (sIf (ttV f) u Gh) w e ds:=if_v (u:=u) (v:=Gh) h h1 h2
theorem qg5{t:VT}(h:t ds e.rt e.xe):sRet t e ds:=h
theorem qi0(d:D)(h:f ds=some d)(q:e.rt d ds):sRet (B6 f) e ds:=qa0 h q
theorem Au(a:Ds)(h:ds=a)(q:t e a):t e ds:=h ▸ q
theorem qU4(h:rdN i ds=some (.l z ys)):Bh (fx2 gIsi) (Ba (rdN i) (Ba (kC (D.ty "list")) λ_=>some [])) ds=some (.bl true):=by unfold Bh Ba;rw[h];rfl
theorem qC0(h:rdN i ds=some (.l z ys)):Bh (fx1 Fj) (Ba (rdN i) λ_=>some []) ds=some (.int (ys.length:Nat)):=by unfold Bh Ba;rw[h];rfl
theorem qj9{Q:Bool->Ds->Prop}(h:f ds=some (.bl b))(q:Q b ds):ttV f ds Q xe:=by show orF ((f ds).bind D.asB) _;rw[h];exact q
theorem qs5{Q:Bool->Ds->Prop}(h:f ds=some (.bl b))(q:Q (!b) ds):Bw (ttV f) ds Q xe:=qj9 (Q:=λb ds=>Q (!b) ds) h q
theorem qF1{t u:VTT}{Q:Bool->Ds->Prop}(b c:Bool)(h1:∀Q:Bool->Ds->Prop,Q b ds->t ds Q xe)(h2:b=false->∀Q:Bool->Ds->Prop,Q c ds->u ds Q xe)(q:Q (b||c) ds):ttOr t u ds Q xe:=h1 _ (by
 cases b with
 |false=>exact h2 rfl _ q
 |true=>exact q)
theorem qp9{t u:VTT}{Q:Bool->Ds->Prop}(b c:Bool)(h1:∀Q:Bool->Ds->Prop,Q b ds->t ds Q xe)(h2:b=true->∀Q:Bool->Ds->Prop,Q c ds->u ds Q xe)(q:Q (b&&c) ds):Jj t u ds Q xe:=h1 _ (by
 cases b with
 |false=>exact q
 |true=>exact h2 rfl _ q)
theorem Jz(b:Bool)(h:∀Q:Bool->Ds->Prop,Q b ds->qc ds Q e.xe)(h1:b=true->t e ds)(h2:b=false->u e ds):sIf qc t u e ds:=h _ (ite_b h1 h2)
theorem qo0(b:Bool)(h:∀Q:Bool->Ds->Prop,Q b ds->qc ds Q e.xe)(h1:b=true->t {e with nx:=w e} ds)(h2:b=false->w e ds):Gi (sIf qc t Gh) w e ds:=h _ (ite_b h1 h2)
theorem qal8{t:VT}(h:∀(Q:DK)(xe:XKd),Q (.bl true) ds->t ds Q xe)(h2:e.nx ds):sIf (Bw (ttE t)) n Gh e ds:=h _ _ h2
theorem qaR4(h:f ds=some (.bl true))(h2:u e ds):Gi (sIf (Bw (ttV f)) n Gh) u e ds:=qs5 (Q:=λk a=>if k=true then n {e with nx:=u e} a else u e a) (xe:=e.xe) h h2
theorem qaG3:gIsO C (Ad z C n wr ps) (.adr C)=some (.bl true):=by show (if C=C then (Ad z C n wr ps).isC C else none)=_;rw[if_pos rfl];show (if C=C then some (D.bl true) else none)=_;rw[if_pos rfl]
theorem qd4{g:VTG}{t:VTS}{e:VEnds}(I:Nat->Ds->Prop):∀(xs:List D)(i:Nat)(ds:Ds),I i ds->(∀(j:Nat)(x:D),xs[j]?=some x->∀ds,I (i+j) ds->∀K:Ds->Prop,(∀a,I (i+j+1) a->K a)->g x ds λds1=>t {e with nx:=K,ct:=K,bk:=e.nx} ds1)->(∀a,I (i+xs.length) a->e.nx a)->Db g t e xs ds|[],_,ds,h,_,hn=>hn ds h|x::xs,i,ds,h,hs,hn=>hs 0 x rfl ds h _ λa f=>qd4 I xs (i+1) a f (λj y k b c K l=>hs (j+1) y k b (by rw[show i+(j+1)=i+1+j by lia];exact c) K λd m=>l d (by rw[show i+1+j+1=i+(j+1)+1 by lia];exact m)) λb c=>hn b (by rw[zAn,show i+(xs.length+1)=i+1+xs.length by lia];exact c)
theorem qU9(h:f ds=some (.int n))(a:Gz n=true)(k:Db g t e (Ee 0 n.toNat) ds):qaq0 (Js (tbV (Bu f) A7)) g t e ds:=by show orF (f ds) _;rw[h];exact⟨rfl,a,k⟩
theorem J0(a:0<=n)(h1:n<=1000):Gz n=true:=by unfold Gz;rw[zAg ⋯,zAg ⋯];rfl
theorem qT2{m:Nat}(h:(Ee 0 m)[j]?=some x):j<m/\x=.int (j:Int):=by by_cases a:j<m;{rw[qaw9 a] at h;cases h;exact⟨a,by rw[Int.zero_add]⟩};rw[zBx (by unfold Ee;rw[zA5,zB4];lia)] at h;cases h
def E3(p:Int->Bool)(y:D):Option D:=y.asI.bind λk=>if p k=true then some (.int k) else none
theorem qX9(h:p k=true):E3 p (.int k)=some (.int k):=if_pos h
theorem qY0(h:p k=false):E3 p (.int k)=none:=if_neg (by rw[h];decide)
theorem qC1(p:Int->Bool):∀ks:List Int,(O5 ks).filterMap (E3 p)=O5 (ks.filter p)|[]=>rfl|k::ks=>by show Nt (E3 p) (D.int k::O5 ks)=_;rw[zBu];cases h:p k with|true=>rw[qX9 h,L9 h];show D.int k::(O5 ks).filterMap (E3 p)=_;rw[qC1 p ks];rfl|false=>rw[qY0 h,L8 (by rw[h];decide),qC1 p ks]
theorem qbb1(h1:fa ds=some (.bl a))(h2:fb ds=some (.bl b)):fOr fa fb ds=some (.bl (a||b)):=by unfold fOr;rw[h1,h2];cases a<;>rfl
theorem qaz7(h1:fa ds=some (.bl a))(h2:fb ds=some (.bl b)):fAnd fa fb ds=some (.bl (a&&b)):=by unfold fAnd;rw[h1,h2];cases a<;>rfl
theorem qb0(ds1:Ds)(h1:∀K:Ds->Prop,K ds1->t {e with nx:=K} ds)(h2:u e ds1):Gi t u e ds:=h1 (u e) h2
theorem qc1(R:Ds->Prop)(h1:∀K:Ds->Prop,(∀ds1,R ds1->K ds1)->t {e with nx:=K} ds)(h2:∀ds1,R ds1->u e ds1):Gi t u e ds:=h1 (u e) h2
theorem qae1(I:Nat->Ds->Prop)(n:Nat)(h:I n ds)(c:∀n ds,I n ds->∀K:Ds->Prop,(∀m a,m<n->I m a->K a)->qc ds (λb ds1=>if b=true then t {e with nx:=K,ct:=K,bk:=e.nx} ds1 else e.nx ds1) e.xe):qaL2 qc t e ds:=by
 have d:∀N n ds,n<N->I n ds->whN qc t e N ds:=by intro N;induction N with|zero=>intro n ds h;exact absurd h (zCx _)|succ N f=>intro n ds i h;exact c n ds h _ λm a j g=>f m a ⋯ g
 exact⟨n+1,d (n+1) n ds (Nat.lt_succ_self n) h⟩
theorem qaT5(f:rdN i ds=some x)(c:rdN j ds=some y)(b:rdN i (ds.set j .u)=some x)(h:s [x,y] (λd ys=>orF (Aq [.sl i,.sl j] ys ((ds.set j .u).set i .u)) λa=>Q d a) (λe ys=>orF (Aq [.sl i,.sl j] ys ((ds.set j .u).set i .u)) λa=>xe e a)):qk6 s [] (tbN i (tbN j A7)) ds Q xe:=qc0 f (qc0 c (qa0 c (qa0 b h)))
theorem qbc0(g:rdN i ds=some x)(k:rdN j ds=some y)(f:rdN l ds=some w)(b:rdN j (ds.set l .u)=some y)(c:rdN i ((ds.set l .u).set j .u)=some x)(h:s [x,y,w] (λd ys=>orF (Aq [.sl i,.sl j,.sl l] ys (((ds.set l .u).set j .u).set i .u)) λa=>Q d a) (λe ys=>orF (Aq [.sl i,.sl j,.sl l] ys (((ds.set l .u).set j .u).set i .u)) λa=>xe e a)):qk6 s [] (tbN i (tbN j (tbN l A7))) ds Q xe:=qc0 g (qc0 k (qc0 f (qa0 f (qa0 b (qa0 c h)))))
theorem qaZ1(f:rdN i ds=some p)(hm:p.isM C m=true)(g:rdN j ds=some x)(h:rdN l ds=some y)(e:rdN k ds=some w)(a:rdN l (ds.set k .u)=some y)(b:rdN j ((ds.set k .u).set l .u)=some x)(c:rdN i (((ds.set k .u).set l .u).set j .u)=some p)(r:R [p,x,y,w] d)(n:Aq [.sl i,.sl j,.sl l,.sl k] [p,x,y,w] ((((ds.set k .u).set l .u).set j .u).set i .u)=some ds)(q:Q d ds):qD0 C m (A5 R) [] i (tbN j (tbN l (tbN k A7))) ds Q xe:=qE6 f hm (qc0 g (qc0 h (qc0 e (qa0 e (qa0 a (qa0 b (qa0 c (qr8 r (qa0 n q)))))))))
theorem qaC1(h:ds[j]?=some d):ds.set j d=ds:=by obtain⟨a,e⟩:=zA4.mp h;rw[<-e];exact List.set_getElem_self a
theorem qk2(h:ds[i]?=some d)(a:d.known=true):rdN i ds=some d:=qn3.mpr ⟨h,a⟩
def Pf(ns:List Int)(b:D):Prop:=∃x y z,b=bagD x y z ns/\Bg x y z ns
theorem Pf.known{b:D}(h:Pf ns b):b.known=true:=by obtain⟨x,y,z,rfl,_⟩:=h;rfl
def qH6:VSp:=λds Q _=>∃b m ns,ds=[b,.int m]/\Pf ns b/\0<m/\m<2 ^ 200/\∀v a,0<=v->v<m->Pf ns a->Q (.int v) [a,.int m]
theorem qc4{b:D}{m:Int}(d:ds[i]?=some b)(B:Pf ns b)(e:f ds=some (.int m))(g:0<m)(h1:m<2 ^ 200)(q:∀v a,0<=v->v<m->Pf ns a->Q (.int v) (ds.set i a)):qk6 qH6 [] (tbN i (tbV (B6 f) A7)) ds Q xe:=by have c:=qk2 d B.known;refine qc0 c (qk0 e (qa0 c ⟨b,m,ns,rfl,B,g,h1,λv a h j B'=>?_⟩));show Q (.int v) ((ds.set i .u).set i a);rw[Na];exact q v a h j B'
theorem qy8{b:D}{m:Int}(f:ds[i]?=some b)(B:Pf ns b)(c:ds[j]?=some (.int m))(d:i≠j)(g:0<m)(h1:m<2 ^ 200)(q:∀v a,0<=v->v<m->Pf ns a->Q (.int v) (ds.set i a)):qk6 qH6 [] (tbN i (tbN j A7)) ds Q xe:=by
 have h:=qk2 f B.known;have k:rdN j ds=some (.int m):=qk2 c rfl;have o:j<ds.length:=(zA4.mp c).1;refine qaT5 h k (qk2 (by rw[zBm (Ne.symm d)];exact f) B.known) ⟨b,m,ns,rfl,B,g,h1,λv a l n B'=>?_⟩;show Q (.int v) ((((ds.set j .u).set i .u).set i a).set j (.int m));have e:(((ds.set j .u).set i .u).set i a).set j (.int m)=ds.set i a:=by rw[Na,List.set_comm _ _ (Ne.symm d),Na];exact qaC1 (by rw[zBm d];exact c)
 rw[e];exact q v a l n B'
theorem J1{i j:Int}(h:small j=true):F7 (.int i) (.int j)=some (.int (i*j)):=qh4 (by rw[h,Bool.or_true])
theorem mulL{i j:Int}(h:small i=true):F7 (.int i) (.int j)=some (.int (i*j)):=qh4 (by rw[h,Bool.true_or])
theorem qaI0{j:Int}(h:0<j)(h1:j<2 ^ 200):gDiv (.int i) (.int j)=some (.int (i/j)):=qh4 (by show (decide (0<j)&&decide (j<2 ^ 200))=true;rw[zAg h,zAg h1];rfl)
theorem Ef{x:Int}(h:0<n):Hw (.int x) (.int n)=some (.int (x%n)):=qh4 (zAg h)
theorem qS0(h:-(2 ^ 64)<i)(h':i<2 ^ 64):small i=true:=by unfold small;rw[zAg h,zAg h'];rfl
theorem Du(h:r<N):gIx (.l z (O6 N g)) (.int (r:Int))=some (Bk (g r)):=qaA8 (qC3 h)
theorem Ik(h:r<N):ixN (O6 N g).length (r:Int)=some r:=by rw[qh2];unfold ixN;simp[h]
theorem qH9:(O6 n g).set i (.int c)=O6 n (Row.set g i c):=qag0 (o:=some c)
theorem qaE8(N:Nat):(Ls N [D.non]).flatten=O6 N (λ_=>none):=by unfold O6;induction N with|zero=>rfl|succ N a=>rw[List.replicate_succ',List.flatten_append,a,Nm,zBa];rfl
theorem qaj1(a:0<=n)(h1:n<=64):F7 (.l false [.non]) (.int n)=some (.l false (O6 n.toNat λ_=>none)):=by show gd _ _=_;rw[<-qaE8];exact qh4 ⟨rfl,by show 1*n.toNat<=1000000;lia,⋯,⋯⟩
theorem qt1(h:∀i,i<N->g i=g' i):O6 N g=O6 N g':=by unfold O6;apply List.map_congr_left;intro i a;rw[h i (zAq.mp a)]
theorem qK0(h:f ds=some (.int n))(a:Gz n=true)(k:Db g t e (Ee 0 n.toNat) ds):qaq0 (Js (tbV (B6 f) A7)) g t e ds:=by show orF (f ds) _;rw[h];exact⟨a,k⟩
theorem qat1(h:rdN i ds=some (.int n))(a:Gz n=true)(k:Db g t e (Ee 0 n.toNat) (ds.set i .u)):qaq0 (Js (tbN i A7)) g t e ds:=by refine⟨by rw[h];rfl,?_⟩;exact qa0 h ⟨a,k⟩
theorem qai7:Jh true (.int k) (.l z (O5 ks))=some (.bl (!decide (k∈ks))):=by show ((flats (O5 ks)).bind λa=>some (D.bl (if true=true then !inV (.int k) a else inV (.int k) a)))=_;rw[qK3];show some (D.bl (!inV (.int k) (ks.map V.int)))=_;rw[qaG6]
theorem qak4(lo:Int)(n:Nat):(Ee lo n).length=n:=by unfold Ee;rw[zA5,zB4]
theorem qn9(e:f ds=some d)(hi:d.imm=true)(q:Q d ds):Bu f ds Q xe:=qa0 (a:=d) (k:=λ(d:D)=>d.imm=true/\Q d ds) e ⟨hi,q⟩
theorem qw7(h:f ds=some d)(hi:d.imm=true)(q:e.nx (ds.set i d)):El (Bu f) (gNm i) e ds:=qn9 (Q:=λd a=>gNm i d a e.nx) h hi q
theorem qp0(h:f ds=some d)(q:e.nx (ds.set i d)):El (B6 f) (gNm i) e ds:=qn7 (Q:=λd a=>gNm i d a e.nx) h q
theorem qaz3(hi:ds[i]?=some (.l false ys))(b:fb ds=some (.int k))(c:ixN ys.length k=some n)(q:K (ds.set i (.l false (ys.set n d)))):Fs (λ_=>some (i,[])) fb d ds K:=by refine qa0 (a:=(i,([]:List Nat))) rfl ?_;refine qa0 (a:=ys) (by show (Bc ds i []).bind D.own=_;rw[qJ9 hi];rfl) ?_;refine qa0 (a:=k) (by rw[b];rfl) ?_;refine qa0 c ?_;show K (Bj ds i [] (.l false (ys.set n d)));rw[qH8 hi];exact q
theorem qL7(b:f ds=some d)(c:d.imm=true)(hi:ds[i]?=some (.l false ys))(g:fb ds=some (.int k))(h:ixN ys.length k=some n)(q:e.nx (ds.set i (.l false (ys.set n d)))):El (Bu f) (Fs (λ_=>some (i,[])) fb) e ds:=qn9 (Q:=λd a=>Fs (λ_=>some (i,[])) fb d a e.nx) b c (qaz3 hi g h q)
theorem qW2(b:f ds=some d)(hi:ds[i]?=some (.l false ys))(c:fb ds=some (.int k))(g:ixN ys.length k=some n)(q:e.nx (ds.set i (.l false (ys.set n d)))):El (B6 f) (Fs (λ_=>some (i,[])) fb) e ds:=qn7 (Q:=λd a=>Fs (λ_=>some (i,[])) fb d a e.nx) b (qaz3 hi c g q)
theorem qb8(c:f ds=some y)(hi:y.imm=true)(h:tr ds (λxs ps a=>K (y::xs) (.no::ps) a) xe):tbV (Bu f) tr ds K xe:=qn9 (Q:=λy b=>tr b (λxs ps a=>K (y::xs) (.no::ps) a) xe) c hi h
theorem qH0(hi:ds[i]?=some (.l false ys))(b:f ds=some d)(c:ys.length<big)(q:Q .non (ds.set i (.l false (ys++[d])))):Em Gk i (tbV (B6 f) A7) ds Q xe:=by
 have e:(rdN i ds).bind D.own=some ys:=by rw[qk2 hi rfl];rfl
 refine⟨by rw[e];rfl,qk0 b ?_⟩;refine qa0 (k:=λys=>orF (Gk ys [d]) λz=>Q z.2 (ds.set i (.l false z.1))) e ?_;exact qa0 (a:=(ys++[d],D.non)) (if_pos c) q
theorem qaJ1(hi:ds[i]?=some (.l false ys))(b:ds[j]?=some d)(c:d.known=true)(f:i≠j)(g:ys.length<big)(q:Q .non ((ds.set j .u).set i (.l false (ys++[d])))):Em Gk i (tbN j A7) ds Q xe:=by
 have e:(rdN i ds).bind D.own=some ys:=by rw[qk2 hi rfl];rfl
 have e2:(rdN i (ds.set j .u)).bind D.own=some ys:=by rw[qk2 (d:=.l false ys) (by rw[zBm (Ne.symm f)];exact hi) rfl];rfl
 refine⟨by rw[e];rfl,qc0 (qk2 b c) ?_⟩;refine qa0 (k:=λd=>orF ((rdN i (ds.set j .u)).bind D.own) λys=>orF (Gk ys [d]) λz=>Q z.2 ((ds.set j .u).set i (.l false z.1))) (qk2 b c) ?_;refine qa0 (k:=λys=>orF (Gk ys [d]) λz=>Q z.2 ((ds.set j .u).set i (.l false z.1))) e2 ?_;exact qa0 (a:=(ys++[d],D.non)) (if_pos g) q
theorem qaj0(h1:pf ds=some (i,p))(h2:(Bc ds i p).bind D.own=some ys)(a:ds[i]?=some d0)(h:tr (ds.set i .u) (λxs _ ds1=>orF (g ys xs) λz=>Q z.2 (Bj (ds1.set i d0) i p (.l false z.1))) xe):E2 g pf tr ds Q xe:=by unfold E2;rw[h1];show orF ((Bc ds i p).bind D.own) _;rw[h2];show orF ds[i]? _;rw[a];exact h
theorem qbc6{f:Int->Int->Int}{b:FV}{x y:Int}(hi:ds[i]?=some (.l false ys))(c:fb ds=some (.int k))(d:0<=k)(g:ys[k.toNat]?=some (.int x))(h:b ds=some (.int y))(q:e.nx (ds.set i (.l false (ys.set k.toNat (.int (f x y)))))):sAugV f (λ_=>some (i,[])) fb b e ds:=by refine qa0 (a:=(i,([]:List Nat))) rfl ?_;refine qa0 (a:=ys) (by show (Bc ds i []).bind D.own=_;rw[qJ9 hi];rfl) ?_;refine qa0 (a:=k) (by rw[c];rfl) ⟨d,?_⟩;refine qa0 (a:=x) (by rw[g];rfl) ?_;refine qa0 (a:=y) (by rw[h];rfl) ?_;show e.nx (Bj ds i [] _);rw[qH8 hi];exact q
theorem Ff(b:Bool)(h:fa ds=some (.bl b))(h1:b=true->tb ds Q xe)(h2:b=false->Q (.bl false) ds):Hg (B6 fa) tb ds Q xe:=qn7 (xe:=xe) (Q:=λx ds=>orF x.asB λk=>if k=true then tb ds Q xe else Q (.bl false) ds) h (ite_b h1 h2)
theorem qj6(h:K (ds.set i d)):gNm i d ds K:=h
theorem qb6(h:K [] [] ds):A7 ds K xe:=h
theorem qf2(h:te ds (λ_ a=>e.nx a) e.xe):sExpr te e ds:=h
theorem qs1(h:K ((ds.set i x).set j y)):Jn 2 (Jm (gNm i) (Jm (gNm j) Jl)) (.q [x,y]) ds K:=⟨rfl,h⟩
theorem qQ3{Q:Bool->Ds->Prop}(h:Q true ds):qYes ds Q xe:=h
theorem qG6:O5 S++[.int k]=O5 (S++[k]):=by unfold O5;rw[zBa];rfl
theorem qaw0(h:tr ds (λxs _ ds1=>xs.length<=big/\a ds1 (λys c b=>K (.q xs::ys) (.no::c) b) xe) xe):tbV (Jk tr) a ds K xe:=h
theorem qd7(h:ta ds (λx ds1=>tr ds1 (λxs ps a=>K (x::xs) (.no::ps) a) xe) xe):tbV ta tr ds K xe:=h
theorem qaw1(a:fa ds=some x)(b:fb ds=some y)(c:x.imm=true)(d:y.imm=true):Bh gTup (Ba fa (Ba fb λ_=>some [])) ds=some (.q [x,y]):=by unfold Bh Ba;rw[a,b];show gd (D.imms [x,y]=true/\[x,y].length<=big) (.q [x,y])=_;refine qh4 ⟨?_,by show 2<=1000000;decide⟩;show (x.imm&&(y.imm&&true))=true;rw[c,d];rfl
theorem qK7:By ys none (some (r:Int))=ys.take r:=by unfold By;have a:HT.sIx ys.length ys.length (some ((r:Nat):Int))=min r ys.length:=HT.qag6 _ _ r;rw[a,HT.qT0,Ml,Nat.sub_zero];by_cases h:r<=ys.length;{rw[zCy h]};rw[Nat.min_eq_right ⋯,zCd,zAs ⋯]
theorem qbb2(h:y∈enD ys):∃i v,y=.q [.int (i:Nat),v]/\ys[i]?=some v:=by obtain⟨⟨v,i⟩,a,rfl⟩:=zAx.mp h;exact⟨i,v,rfl,List.mem_zipIdx_iff_getElem?.mp a⟩
theorem J2(h:d∈O6 N g):d=.non∨∃k,d=.int k:=by unfold O6 at h;obtain⟨i,_,rfl⟩:=zAx.mp h;cases g i with|none=>exact .inl rfl|some k=>exact .inr ⟨k,rfl⟩
theorem qA9{Q:Bool->Ds->Prop}(h:ta ds (λx ds1=>orF ((fb ds1).bind (g x)) λd=>orF d.asB λb=>Q b ds1) xe):ttE (t2v g ta fb) ds Q xe:=h
theorem qg7(h:tr ds (λxs ps ds1=>s (xs++[]) (λd ys=>orF (Aq ps ys ds1) λa=>Q d a) (λx ys=>orF (Aq ps ys ds1) λa=>xe x a)) xe):qk6 s [] tr ds Q xe:=h
theorem Ka:∀(l:Ds),(∀d∈l,d=.non∨∃k,d=.int k)->Ej (eqN 20) l l=some true
 |[],_=>rfl|d::l,h=>by
  have c:eqN 20 d d=some true:=by rcases h d zAf with rfl|⟨k,rfl⟩;{rfl};show some (k==k)=_;rw[zBc]
  show ((eqN 20 d d).bind λa=>(Ej (eqN 20) l l).bind λb=>some (a&&b))=_;rw[c,Ka l λx e=>h x (zA9 _ e)];rfl
theorem qba9(h:∀i,i<N->g i=g' i):gEq (.l z (O6 N g)) (.l z' (O6 N g'))=some (.bl true):=by rw[qt1 h];show (Ej (eqN 20) (O6 N g') (O6 N g')).map D.bl=_;rw[Ka _ λ_=>J2];rfl
theorem t2_of(c:fa ds=some x)(hi:x.imm=true)(h:tb ds (λy a=>orF (g x y) λd=>Q d a) xe):t2 g (Bu fa) tb ds Q xe:=qn9 (Q:=λx b=>tb b (λy a=>orF (g x y) λd=>Q d a) xe) c hi h
theorem qx8(c:fa ds=some x)(h:tb ds (λy a=>orF (g x y) λd=>Q d a) xe):t2 g (B6 fa) tb ds Q xe:=qn7 (xe:=xe) (Q:=λx b=>tb b (λy a=>orF (g x y) λd=>Q d a) xe) c h
theorem qR1(h:ta ds (λx ds1=>orF ((fb ds1).bind (g x)) λd=>Q d ds1) xe):t2v g ta fb ds Q xe:=h
theorem qaK3(h:ta ds (λx ds1=>orF (fb ds1) λy=>y.imm=true/\orF (g x y) λd=>Q d ds1) xe):Jd g ta fb ds Q xe:=h
theorem qB8(h:tr ds (λxs _ ds1=>xs.length<=big/\Q (.l false xs) ds1) xe):tLstV tr ds Q xe:=h
theorem qd5(h:te ds (λd a=>e.nx (a.set i d)) e.xe):El te (gNm i) e ds:=h
theorem qbc9(h:ta ds (λx ds1=>orF x.asB λk=>if k=true then tb ds1 Q xe else Q (.bl false) ds1) xe):Hg ta tb ds Q xe:=h
theorem qaj9(h:tr ds (λxs ps ds1=>s (.ins false C []::(xs++[])) (λd ys=>d.isN=some true/\orF ys.head? λself=>orF (Aq ps ys.tail ds1) λa=>Q self a) (λx ys=>orF (Aq ps ys.tail ds1) λa=>xe x a)) xe):Ic C s [] tr ds Q xe:=h
theorem qay7(h:rdN i ds=some (.l z (O5 S)):=by rfl):Bh (fx1 Fp) (Ba (rdN i) λ_=>some []) ds=some (.l false (O5 S)):=by unfold Bh Ba;rw[h];exact qh4 (qd0 S)
theorem Er(h:te ds (λd ds1=>Q d.fz ds1) xe):tFzV te ds Q xe:=h
def okN:Nat->D->Bool|n+1,.l _ xs=>xs.all (okN n)|n+1,.q xs=>xs.all (okN n)|_,x=>x.flat.isSome
theorem qu2{f:D->D->Option Bool}:∀{xs:List D},(∀x∈xs,f x x=some true)->Ej f xs xs=some true|[],_=>rfl|x::xs,h=>by show ((f x x).bind λa=>(Ej f xs xs).bind λb=>some (a&&b))=_;rw[h x zAf,qu2 λy c=>h y (zA9 _ c)];rfl
theorem qV0(h:x.flat.isSome=true):eqZ x x=some true:=by cases x with|non=>rfl|bl b=>show some (eqV (.bl b) (.bl b))=_;rw[qC6 rfl]|int i=>show some (eqV (.int i) (.int i))=_;rw[qC6 rfl]|str i=>show some (eqV (.str i) (.str i))=_;rw[qC6 rfl]|_=>cases h
theorem qK5:∀{n:Nat}{x:D},okN n x=true->eqN n x x=some true|0,x,h=>by rw[qV1];refine qV0 ?_;cases x<;>exact h|n+1,x,h=>by cases x with|l z b=>exact qu2 λy a=>qK5 (zBi.mp h y a)|q b=>exact qu2 λy a=>qK5 (zBi.mp h y a)|_=>exact qV0 h
theorem qU6(h:x.flat.isSome=true):gNe x x=some (.bl false):=by
 have e:eqT x x=some true:=by cases x with|l z a=>cases h|_=>exact qV0 h
 unfold gNe;rw[e];rfl
theorem qO5{i:Nat}(h:(O5 ks)[i]?=some y):∃z,ks[i]?=some z/\y=.int z:=by unfold O5 at h;rw[zB7] at h;cases e:ks[i]? with|none=>rw[e] at h;cases h|some z=>rw[e] at h;exact⟨z,rfl,(N8 h).symm⟩
theorem qy7(h:ks[i]?=some k):ks.take (i+1)=ks.take i++[k]:=by rw[zBk,h];rfl
theorem qU0(b:ks.Nodup)(h:ks[i]?=some k):¬k∈ks.take i:=λz=>by
 obtain⟨j,a⟩:=List.getElem?_of_mem z;rw[List.getElem?_take] at a;split at a
 .rename_i hlt
  obtain⟨d,c⟩:=zA4.mp h;obtain⟨e,e2⟩:=zA4.mp a
  have:=(Ng b).mp (e2.trans c.symm)
  lia
 cases a
theorem qaS0:∀ks:List Int,D.fzs (O5 ks)=O5 ks|[]=>rfl|k::r=>congrArg (D.int k::·) (qaS0 r)
theorem qx5:∀ps:Pr,D.fzs (O7 ps)=O7 ps|[]=>rfl|p::r=>congrArg (D.q [.int p.1,.int p.2]::·) (qx5 r)
theorem qaS1:∀ps:Pr,D.fzk (kvD ps)=kvD ps|[]=>rfl|p::r=>congrArg ((Sum.inl p.1,D.int p.2)::·) (qaS1 r)
theorem qaz5:(Ad z C n wr ps).fz=Ad true C n wr ps:=by show D.ins true C [("rooms",.int n),("wraps",.bl wr),("homes",.l true (D.fzs (O7 ps))),("home_numbers",.dct true (D.fzk (kvD ps)))]=_;rw[qx5,qaS1];rfl
theorem Di(ks:List Int):(D.l z (O5 ks)).fz=.l true (O5 ks):=congrArg (D.l true) (qaS0 ks)
theorem qbb7{l:Option Int}(a:rdN i ds=some (.l z (O5 S)))(h1:lo ds=some l)(h2:hi ds=some h)(e:By (O5 S) l h=O5 T):fsl (rdN i) lo hi ds=some (.l false (O5 T)):=by unfold fsl;rw[a,Option.bind_some,h1,Option.bind_some,h2,Option.bind_some,if_pos (show noT (D.l z (O5 S))=true from rfl)];show gd (D.imms (By (O5 S) l h)=true) (D.l false (By (O5 S) l h))=_;rw[e];exact qh4 (qd0 T)
theorem qav6(h:A.length+B.length<=1000):Fi (.l z (O5 A)) (.l z' (O5 B))=some (.l false (O5 (A++B))):=by show gd _ (D.l false (O5 A++O5 B))=_;rw[show O5 (A++B)=O5 A++O5 B from zBa];exact qh4 ⟨qd0 A,qd0 B,by rw[qg6,qg6];unfold big;lia⟩
theorem qaV8{Q:Bool->Ds->Prop}(h:ta ds (λx ds1=>tb ds1 (λy a=>orF (g x y) λd=>orF d.asB λb=>Q b a) xe) xe):ttE (t2 g ta tb) ds Q xe:=h
theorem Kb(h:tr ds (λxs _ ds1=>orF (gc xs) λd=>Q d ds1) xe):tcO gc (Js tr) ds Q xe:=h
theorem qU5(h:qc ds (λb a=>if b=true then t {e with nx:=w e} a else w e a) e.xe):Gi (sIf qc t Gh) w e ds:=h
theorem qaA4{g:VTG}{qf:VTT}{te:VT}{K:Ds->Ds->Prop}(I:Nat->Ds->Ds->Prop):∀(xs:Ds)(i:Nat)(acc l:Ds),I i acc l->(∀(j:Nat)(x:D),xs[j]?=some x->∀acc l,I (i+j) acc l->∀R:Ds->Ds->Prop,(∀acc' l',I (i+j+1) acc' l'->R acc' l')->g x l λι1=>qf ι1 (λb ι2=>if b=true then te ι2 (λd ι3=>acc.length<big/\R (acc++[d]) ι3) (λ_ _=>False) else R acc ι2) (λ_ _=>False))->(∀acc l,I (i+xs.length) acc l->K acc l)->Dp g qf te K xs acc l|[],_,acc,l,h,_,hn=>hn acc l h|x::xs,i,acc,l,h,hs,hn=>hs 0 x rfl acc l h _ λacc' l' c=>qaA4 I xs (i+1) acc' l' c (λj y e acc2 ι2 a R f=>hs (j+1) y e acc2 ι2 (by rw[show i+(j+1)=i+1+j by lia];exact a) R λacc3 ι3 k=>f acc3 ι3 (by rw[show i+1+j+1=i+(j+1)+1 by lia];exact k)) λacc2 ι2 a=>hn acc2 ι2 (by rw[zAn,show i+(xs.length+1)=i+1+xs.length by lia];exact a)
theorem qV9{l m n:Int}(h1:l<=n)(h2:n<=m):(D.int n).within l m=true:=by show (decide (l<=n)&&decide (n<=m))=true;rw[zAg h1,zAg h2];rfl
theorem qaj4(h1:g ds=some d)(hi:d.imm=true)(hm:d.isM C m=true)(h:tr ds (λxs ps ds1=>s (d::(xs++[])) (λr ys=>orF (Aq (.no::ps) ys ds1) λb=>Q r b) (λx ys=>orF (Aq (.no::ps) ys ds1) λb=>xe x b)) xe):Jt C m s [] g tr ds Q xe:=qa0 (a:=d) h1 ⟨hi,hm,h⟩
theorem qd1(h:Bc ds i p=some (.hole w)):Aq (.pl i p w::ps) (y::ys) ds=Aq ps ys (Bj ds i p y):=by show (match Bc ds i p with|some (.hole a)=>if a=w then Aq ps ys (Bj ds i p y) else none|_=>none)=_;rw[h];exact if_pos rfl
theorem qt6(a:rdN i ds=some p)(hm:p.isM C m=true)(r:R [p] d)(b:Aq [.sl i] [p] (ds.set i .u)=some ds)(q:Q d ds):qD0 C m (A5 R) [] i A7 ds Q xe:=qE6 a hm (qb6 (qa0 a (qr8 r (qa0 b q))))
theorem qJ1(h1:pf ds=some (i,p))(h2:Bc ds i p=some d)(hm:d.isM C m=true)(h:∀w,tr (Bj ds i p (.hole w)) (λxs ps ds1=>s (d::(xs++[])) (λr ys=>orF (Aq (Pl.pl i p w::ps) ys ds1) λb=>Q r b) (λx ys=>orF (Aq (Pl.pl i p w::ps) ys ds1) λb=>xe x b)) xe):Ib C m s [] pf tr ds Q xe:=qa0 (a:=(i,p)) h1 (qa0 (a:=d) h2 ⟨hm,h⟩)
theorem qaJ9(h:tr ds (λxs _ ds1=>xs.length<=big/\Q (.q xs) ds1) xe):Jk tr ds Q xe:=h
theorem qaK4(h:ta ds (λx ds1=>tb ds1 (λy a=>orF (g x y) λd=>Q d a) xe) xe):t2 g ta tb ds Q xe:=h
theorem qaU9(h:rdN i ds=some d)(q:Q d.fz (ds.set i d.fz)):tFz i ds Q xe:=qa0 h q
def Ae(n:Int)(wr:Bool)(ps:Pr):D:=.q [.int n,.bl wr,.l true (O7 ps)]
theorem qao1(hi:ds[i]?=some (.l false ys))(b:f ds=some d)(c:d.imm=true)(g:ys.length<big)(q:Q .non (ds.set i (.l false (ys++[d])))):Em Gk i (tbV (Bu f) A7) ds Q xe:=by
 have e:(rdN i ds).bind D.own=some ys:=by rw[qk2 hi rfl];rfl
 refine⟨by rw[e];rfl,qb8 b c ?_⟩;refine qa0 (k:=λys=>orF (Gk ys [d]) λz=>Q z.2 (ds.set i (.l false z.1))) e ?_;exact qa0 (a:=(ys++[d],D.non)) (if_pos g) q
local macro_rules | `(tactic| walk_at "s")=>`(tactic| exact⟨rfl,rfl,rfl,by decide +kernel,rfl,by decide +kernel,by decide +kernel⟩)
local macro_rules | `(tactic| walk_at "m")=>`(tactic| (intro _ _ _ _ _ k l;repeat' first|exact id|exact k _ _|exact l _ _|refine Exists.imp λ_=>?_|refine And.imp ?_ ?_|refine O2 ?_ ?_|refine forall_imp λ_=>?_))
local macro_rules | `(tactic| walk_at "l")=>`(tactic| (intro _ _ _ h;(repeat (first|refine Exists.elim h λ_ h=>?_|refine And.elim (λh _=>?_) h));rw[h];exact⟨rfl,rfl⟩))
theorem lt2:2<=big:=by show 2<=1000000;decide
theorem lt3:3<=big:=by show 3<=1000000;decide
theorem lt4:4<=big:=by show 4<=1000000;decide
noncomputable def top(i:Nat):Lc:=PySem.Challenge.pw_homeward_k84_whole_deeds_between.main.body.getD i (.Pass ⟨0,0,0,0⟩)
abbrev qaw5:Lc:=top 0
abbrev qA0:Lc:=top 13
abbrev qg8:Lc:=top 14
abbrev qv3:Lc:=top 15
abbrev qq5:Lc:=top 16
abbrev qh8:Lc:=top 17
abbrev qk8:Lc:=top 18
abbrev qv7:Lc:=qi3 (top 19) 0
abbrev ql0:Lc:=qi3 (top 19) 2
abbrev qv8:Lc:=qi3 (top 19) 4
abbrev qA6:Lc:=qi3 (top 19) 5
abbrev qg9:Lc:=qi3 (top 19) 6
abbrev qq4:Lc:=top 21
abbrev qf0:Lc:=top 22
abbrev qz8:Lc:=top 23
abbrev qv2:Lc:=top 24
abbrev qA1:Lc:=top 25
abbrev qv5:Lc:=top 27
abbrev qk9:Lc:=top 28
abbrev qk7:Lc:=top 29
abbrev qA2:Lc:=top 30
abbrev qn1:Lc:=top 32
abbrev qj3:Lc:=top 33
abbrev qv4:Lc:=top 34
abbrev qA5:Lc:=qi3 (top 35) 0
abbrev qh9:Lc:=qi3 (top 35) 1
abbrev qj5:Lc:=qi3 (top 35) 2
abbrev qM6:Lc:=qi3 (top 35) 3
abbrev qn2:Lc:=qi3 (top 35) 4
abbrev qI2:Lc:=qi3 (top 35) 5
abbrev qA4:Lc:=qi3 (top 35) 6
abbrev qA3:Lc:=qi3 (top 35) 7
abbrev qv6:Lc:=qi3 (top 35) 8
abbrev qq6:Lc:=qi3 (top 35) 9
abbrev qf4:Lc:=top 37
abbrev qj2:Lc:=top 38
abbrev qz9:Lc:=top 39
abbrev qI1:Lc:=top 40
abbrev qj4:Lc:=top 41
abbrev qaC5:Lc:=top 43
abbrev qag4:Lc:=top 44
abbrev qag5:Lc:=top 45
abbrev qA7:Lc:=top 46
abbrev qI3:Lc:=top 47
abbrev ql2:Lc:=top 48
abbrev qS9:Lc:=top 49
abbrev qA8:Lc:=top 50
abbrev qaC3:Lc:=top 51
abbrev ql1:Lc:=top 52
abbrev qaC4:Lc:=top 53
abbrev Gq:Lc:=top 54
set_option genInjectivity false in
set_option genSizeOf false in
structure Adr where
 f0:γ
 d0:ε
 f1:γ
 d1:ε
 f2:γ
 d2:ε
 f3:γ
 d3:ε
 f4:γ
 d4:ε
 f5:γ
 d5:ε
 f6:γ
 d6:ε
 f7:γ
 d7:ε
 f8:γ
 d8:ε
 f9:γ
 d9:ε
 f10:γ
 d10:ε
 f11:γ
 d11:ε
 f12:γ
 d12:ε
 f13:γ
 d13:ε
 f14:γ
 d14:ε
 f15:γ
 d15:ε
 f16:γ
 d16:ε
 f17:γ
 d17:ε
 f18:γ
 d18:ε
 f19:γ
 d19:ε
 f20:γ
 d20:ε
 f21:γ
 d21:ε
 f22:γ
 d22:ε
 f23:γ
 d23:ε
 f24:γ
 d24:ε
 f25:γ
 d25:ε
 f26:γ
 d26:ε
 f27:γ
 d27:ε
 f28:γ
 d28:ε
 f29:γ
 d29:ε
 f30:γ
 d30:ε
 f31:γ
 d31:ε
 f32:γ
 d32:ε
 f33:γ
 d33:ε
 f34:γ
 d34:ε
 f35:γ
 d35:ε
 f36:γ
 d36:ε
 f37:γ
 d37:ε
 f38:γ
 d38:ε
 f39:γ
 d39:ε
 f40:γ
 d40:ε
 f41:γ
 d41:ε
 f42:γ
 d42:ε
 f43:γ
 d43:ε
 f44:γ
 d44:ε
 f45:γ
 d45:ε
 f46:γ
 d46:ε
 f47:γ
 d47:ε
 f48:γ
 d48:ε
 f49:γ
 d49:ε
 f50:γ
 d50:ε
 Cd:Tok
 Cg:Tok
 Ch:Tok
 C3:γ
 C4:γ
structure Txt(K:Oa)(mg:Str->Option V')(a:Adr):Prop where
 d0:Df K mg "_wall" "_wall" qaw5 a.f0 a.d0 ["k"]
 d1:Df K mg "is_whole" "is_whole" qA0 a.f1 a.d1 ["thing"]
 d2:Df K mg "is_whole_within" "is_whole_within" qg8 a.f2 a.d2 ["thing", "least", "most"]
 d3:Df K mg "is_number" "is_number" qv3 a.f3 a.d3 ["thing"]
 d4:Df K mg "are_parted" "are_parted" qq5 a.f4 a.d4 ["numbers"]
 d5:Df K mg "is_number_pair" "is_number_pair" qh8 a.f5 a.d5 ["thing"]
 d6:Df K mg "is_home_list" "is_home_list" qk8 a.f6 a.d6 ["thing"]
 d7:Md K a.C3 "__init__" "Plan.__init__" qv7 a.f7 a.d7 ["self", "rooms", "wraps", "homes"]
 d8:Md K a.C3 "is_room" "Plan.is_room" ql0 a.f8 a.d8 ["self", "thing"]
 d9:Md K a.C3 "home" "Plan.home" qv8 a.f9 a.d9 ["self", "key"]
 d10:Md K a.C3 "far" "Plan.far" qA6 a.f10 a.d10 ["self", "key", "room"]
 d11:Md K a.C3 "goes_ahead" "Plan.goes_ahead" qg9 a.f11 a.d11 ["self", "room", "one", "other"]
 d12:Df K mg "room_ahead" "room_ahead" qq4 a.f12 a.d12 ["plan", "room"]
 d13:Df K mg "word_by_room_ahead" "word_by_room_ahead" qf0 a.f13 a.d13 ["plan", "rooms", "room"]
 d14:Df K mg "word_due" "word_due" qz8 a.f14 a.d14 ["plan", "rooms", "room"]
 d15:Df K mg "is_turned" "is_turned" qv2 a.f15 a.d15 ["plan", "rooms"]
 d16:Df K mg "fault_of" "fault_of" qA1 a.f16 a.d16 ["plan", "rooms"]
 d17:Df K mg "are_crowd" "are_crowd" qv5 a.f17 a.d17 ["plan", "keys", "room"]
 d18:Df K mg "crowded_room" "crowded_room" qk9 a.f18 a.d18 ["plan", "keys"]
 d19:Df K mg "refuse_crowd" "refuse_crowd" qk7 a.f19 a.d19 ["plan", "keys"]
 d20:Df K mg "bring_in" "bring_in" qA2 a.f20 a.d20 ["plan", "rooms", "key"]
 d21:Df K mg "room_behind" "room_behind" qn1 a.f21 a.d21 ["plan", "room"]
 d22:Df K mg "is_drawn_from" "is_drawn_from" qj3 a.f22 a.d22 ["plan", "rooms", "room"]
 d23:Df K mg "draw_back" "draw_back" qv4 a.f23 a.d23 ["plan", "rooms", "room"]
 d24:MdN K a.C4 "__init__" "Row.__init__" qA5 a.f24 a.d24 ["self", "plan", "rooms"]
 d25:Md K a.C4 "rooms_held" "Row.rooms_held" qh9 a.f25 a.d25 ["self"]
 d26:Md K a.C4 "keys_held" "Row.keys_held" qj5 a.f26 a.d26 ["self"]
 d27:Md K a.C4 "many" "Row.many" qM6 a.f27 a.d27 ["self"]
 d28:Md K a.C4 "room_of" "Row.room_of" qn2 a.f28 a.d28 ["self", "key"]
 d29:Md K a.C4 "put" "Row.put" qI2 a.f29 a.d29 ["self", "key"]
 d30:Md K a.C4 "take" "Row.take" qA4 a.f30 a.d30 ["self", "key"]
 d31:Md K a.C4 "undo" "Row.undo" qA3 a.f31 a.d31 ["self"]
 d32:Md K a.C4 "deeds" "Row.deeds" qv6 a.f32 a.d32 ["self"]
 d33:Md K a.C4 "copied" "Row.copied" qq6 a.f33 a.d33 ["self"]
 d34:Df K mg "are_alike_at_home" "are_alike_at_home" qf4 a.f34 a.d34 ["one", "other", "keys"]
 d35:Df K mg "refuse_unlike" "refuse_unlike" qj2 a.f35 a.d35 ["one", "other"]
 d36:Df K mg "parts_at" "parts_at" qz9 a.f36 a.d36 ["one", "other"]
 d37:Df K mg "only_in" "only_in" qI1 a.f37 a.d37 ["one", "other"]
 d38:Df K mg "deeds_between" "deeds_between" qj4 a.f38 a.d38 ["one", "other"]
 d39:Df K mg "_law_bag" "_law_bag" qaC5 a.f39 a.d39 ["_law_script"]
 d40:Df K mg "_law_take" "_law_take" qag4 a.f40 a.d40 ["_law_bag_here", "_law_many"]
 d41:Df K mg "_law_home" "_law_home" qag5 a.f41 a.d41 ["_law_plan", "_law_key"]
 d42:Df K mg "_law_passing" "_law_passing" qA7 a.f42 a.d42 ["_law_plan", "_law_keys"]
 d43:Df K mg "_law_housed" "_law_housed" qI3 a.f43 a.d43 ["_law_plan", "_law_keys"]
 d44:Df K mg "_law_drawn_homes" "_law_drawn_homes" ql2 a.f44 a.d44 ["_law_bag_here", "_law_size", "_law_many"]
 d45:Df K mg "_law_drawn" "_law_drawn" qS9 a.f45 a.d45 ["_law_bag_here", "_law_most"]
 d46:Df K mg "_law_fitting" "_law_fitting" qA8 a.f46 a.d46 ["_law_plan", "_law_keys"]
 d47:Df K mg "_law_two" "_law_two" qaC3 a.f47 a.d47 ["_law_bag_here", "_law_plan", "_law_keys"]
 d48:Df K mg "_law_other_homes" "_law_other_homes" ql1 a.f48 a.d48 ["_law_bag_here", "_law_plan", "_law_keys"]
 d49:Df K mg "_law_led" "_law_led" qaC4 a.f49 a.d49 ["_law_plan", "_law_one", "_law_other", "_law_keys"]
 d50:Df K mg "law" "law" Gq a.f50 a.d50 ["_law_script"]
 Ck:mg "MOST_NUMBER"=some (.int 1000000000000000000 a.Cd)
 Cq:mg "MOST_ROOMS"=some (.int 64 a.Cg)
 Cr:mg "MOST_HOMES"=some (.int 64 a.Ch)
 D7:mg "abs"=none
 Cu:mg "all"=none
 Ct:mg "bool"=none
 Cw:mg "dict"=none
 Co:mg "enumerate"=none
 Cy:mg "int"=none
 C8:mg "isinstance"=none
 Cj:mg "len"=none
 Ce:mg "list"=none
 D4:mg "max"=none
 Cz:mg "min"=none
 Ci:mg "range"=none
 Cp:mg "reversed"=none
 D6:mg "set"=none
 D0:mg "sorted"=none
 Cv:mg "tuple"=none
 D5:mg "zip"=none
 C6:Cl K mg "Plan" a.C3
 D3:Mk K a.C3 a.f7
 C7:qh0 K a.C3 "rooms"
 Cb:qh0 K a.C3 "wraps"
 Cs:qh0 K a.C3 "homes"
 Cf:qh0 K a.C3 "home_numbers"
 D2:IsO K a.C3
 C5:Cl K mg "Row" a.C4
 D1:Mk K a.C4 a.f24
 C9:qh0 K a.C4 "plan"
 Ca:qh0 K a.C4 "held"
 Cc:qh0 K a.C4 "done"
section
variable{P:K8}{w:La}{K:Oa}{mg:Str->Option V'}{base:Heap}{a:Adr}
theorem qF4:qa8 ["thing"] ["thing"] (qa3 qA0):=by walk_at "s"
def qaa9:VSp:=Dh (fx1 λx=>x.kind.map λ_=>.bl x.whole)
theorem qac3(T:Txt K mg a):VFn P w K mg base 1 a.f1 a.d1 ["thing"] qaa9:=by refine VFn.mk' T.d1.F qF4 (wOf [true]) qy5 (λ_ _ _=>qak5) (λ_ _ _=>imm1) (λ_ _ _ _ _ _ _ c=>⟨_,(Aj (Av (qa5 (vand (vbi qi5 qK8.ops T.C8 (qa2 (vnm 0) (qa2 (vty "int" T.Cy) qa6 rfl) rfl)) (vone (vnot (vbi qi5 qK8.ops T.C8 (qa2 (vnm 0) (qa2 (vty "bool" T.Ct) qa6 rfl) rfl)))))))),λf Q g h=>?_⟩);obtain⟨x,d,rfl,e,q⟩:=Jy h;obtain⟨t,b,rfl⟩:=zAa.mp e;cases x<;>first|exact q|cases b
theorem qk1:qa8 ["thing", "least", "most"] ["thing", "least", "most"] (qa3 qg8):=by walk_at "s"
def qu4:VSp:=Dh (fx3 λx l m=>x.kind.bind λ_=>l.asI.bind λi=>m.asI.map λj=>.bl (x.within i j))
theorem qg3(T:Txt K mg a):VFn P w K mg base 2 a.f2 a.d2 ["thing", "least", "most"] qu4:=by
 refine VFn.mk' T.d2.F qk1 (wOf [true,true,true]) qy5 (λ_ _ _=>qaQ4) (λ_ _ _=>imm3) (λ_ _ _ _ _ _ _ b=>⟨_,(Aj (Av (F8 (Ak T.d1 (qac3 T) qa1 (rm b) (vaN 0 Ac)) (Ia (qa5 (vch G6 os_le G6 os_le (vnm 1) (vnm 0) (vnm 2))))))),λo Q p h=>?_⟩);obtain⟨x,l,m,d,rfl,e,q⟩:=pure3 h;obtain⟨t,c,e⟩:=zA1.mp e;obtain⟨i,f,e⟩:=zA1.mp e;obtain⟨j,g,rfl⟩:=zAa.mp e;cases l<;>cases f;cases m<;>cases g;cases x with
 |int n=>
  refine⟨rfl,?_⟩;show orF (f3 gLe gLe (rdN 1) (rdN 0) (rdN 2) [.int n,.int i,.int j]) _;have k:f3 gLe gLe (rdN 1) (rdN 0) (rdN 2) [.int n,.int i,.int j]=some (.bl (decide (i<=n)&&decide (n<=j))):=by show (if decide (i<=n)=true then some (D.bl (decide (n<=j))) else some (.bl false))=_;cases decide (i<=n)<;>rfl
  rw[k];exact q
 |_=>first|exact⟨rfl,q⟩|cases c
theorem qM5:qa8 ["numbers"] ["numbers"] (qa3 qq5):=by walk_at "s"
def qM0:VSp:=A5 λds d=>∃z ks,ds=[.l z (O5 ks)]/\ks.length<=1000/\d=.bl (decide ks.Nodup)
theorem qN4(T:Txt K mg a):VFn P w K mg base 1 a.f4 a.d4 ["numbers"] qM0:=by
 refine VFn.mk2 T.d4.F qM5 (wOf [true]) qb2 (by walk_at "l") (λ_ _ _ _ _ _ _ e=>⟨_,(Aj (Av (qa5 (v2 (A6 (qm6 e.u64) (qa9 _)) Bq (vlenS T.Cj T.D6 (vnm 0)) (vbi qC8 qC7.ops T.Cj (qa2 (vnm 0) qa6 rfl)))))),λj Q k h=>?_⟩);obtain⟨d,⟨z,b,rfl,f,rfl⟩,q⟩:=h;have g:f1 Hl (rdN 0) [.l z (O5 b)]=some (.int (qo1 b)):=by show ((intsD (O5 b)).bind λc=>gd (c.length<=1000) (.int (qo1 c)))=_;rw[qal1];exact qh4 f
 have e2:f2 gEq (f1 Hl (rdN 0)) (Bh (fx1 Fj) (Ba (rdN 0) λx=>some [])) [.l z (O5 b)]=some (.bl (decide b.Nodup)):=by show ((f1 Hl (rdN 0) [.l z (O5 b)]).bind λx=>gEq x (.int (O5 b).length))=_;rw[g,qg6];show some (D.bl ((qo1 b:Int)==(b.length:Int)))=_;have:=qV2 b;by_cases h:b.Nodup;{rw[zAg h,this.mpr h,zBc]};have i:¬((qo1 b:Int)=(b.length:Int)):=λz=>h (this.mp (by exact_mod_cast z));rw[zB3 h,zC8 i]
 exact qa0 e2 q
theorem qz5:qa8 ["thing"] ["thing"] (qa3 qv3):=by walk_at "s"
def qq1:VSp:=Dh (fx1 λx=>x.kind.map λ_=>.bl x.num)
theorem qd3(T:Txt K mg a):VFn P w K mg base 3 a.f3 a.d3 ["thing"] qq1:=by refine VFn.mk' T.d3.F qz5 (wOf [true]) qy5 (λ_ _ _=>qak5) (λ_ _ _=>imm1) (λ_ _ _ _ _ _ _ b=>⟨_,(Aj (Av (Ak T.d2 (qg3 T) qa1 (rm b) (vaN 0 (vaV (qa5 Af) (vaV (qa5 (vgi T.Ck)) Ac)))))),λf Q g h=>?_⟩);obtain⟨x,d,rfl,e,q⟩:=Jy h;obtain⟨t,c,rfl⟩:=zAa.mp e;cases x<;>first|exact⟨rfl,q⟩|cases c
theorem qy1:qa8 ["thing"] ["thing"] (qa3 qh8):=by walk_at "s"
def _root_.LV.D.pairB:D->Bool|.q [x,y]=>x.num&&y.num|_=>false
def _root_.LV.D.kinded:D->Bool|.q ds=>(ds.all λd=>d.kind.isSome&&d.imm)&&decide (ds.length<=1000)|_=>true
def qx9:VSp:=Dh (fx1 λx=>if x.kinded=true then x.kind.map λ_=>.bl x.pairB else none)
theorem qy3(T:Txt K mg a):VFn P w K mg base 4 a.f5 a.d5 ["thing"] qx9:=by
 refine VFn.mk' T.d5.F qy1 (wOf [true]) qy5 (λ_ _ _=>qak5) (λ_ _ _=>imm1) (λ_ _ _ _ _ _ _ f=>⟨_,(Aj (Av (F8 (qa5 (vbi qi5 qK8.ops T.C8 (qa2 (vnm 0) (qa2 (vty "tuple" T.Cv) qa6 rfl) rfl))) (F8 (qa5 (v2 (A6 (qm6 f.u64) (qa9 _)) Bq (vbi qC8 qC7.ops T.Cj (qa2 (vnm 0) qa6 rfl)) Af)) (F8 (Ak T.d3 (qd3 T) qa1 (rm f) (vaV (qb3 (v2 (Aw qb5) Ap (vnm 0) Af)) Ac)) (Ia (Ak T.d3 (qd3 T) qa1 (rm f) (vaV (qb3 (v2 (Aw qb5) Ap (vnm 0) Af)) Ac)))))))),λb Q m h=>?_⟩);obtain⟨x,d,rfl,e,q⟩:=Jy h;cases x with
 |q b=>
  by_cases c:(D.q b).kinded=true
  .rw[if_pos c] at e;cases e;have c:=zAm.mp c;have i:=zBi.mp c.1;match b with
   |[]=>exact q|[_]=>exact q|[x,y]=>
    have j:=zAm.mp (i x (by simp));have l:=zAm.mp (i y (by simp));obtain⟨t,n⟩:=zBb.mp j.1;obtain⟨u,o⟩:=zBb.mp l.1;refine⟨j.2,?_⟩;refine qa0 (a:=D.bl x.num) (by show (x.kind.map _)=_;rw[n];rfl) ?_;refine ite_b (λg=>⟨l.2,qa0 (a:=D.bl y.num) (by show (y.kind.map _)=_;rw[o];rfl) ?_⟩) λg=>?_
    .have:(D.q [x,y]).pairB=y.num:=by show (x.num&&y.num)=_;rw[g];rfl
     rw[this] at q;exact q
    have:(D.q [x,y]).pairB=false:=by show (x.num&&y.num)=_;rw[g];rfl
    rw[this] at q;exact q
   |x::y::z::r=>
    have e2:f2 gEq (Bh (fx1 Fj) (Ba (rdN 0) λx=>some [])) (kC (D.int 2)) [.q (x::y::z::r)]=some (.bl false):=by
     show some (D.bl (((x::y::z::r).length:Int)==2))=_;have:(((x::y::z::r).length:Int)==2)=false:=by
      have:((x::y::z::r).length:Int)≠2:=by simp;lia
      simpa using this
     rw[this]
    have:orF (f2 gEq (Bh (fx1 Fj) (Ba (rdN 0) λx=>some [])) (kC (D.int 2)) [.q (x::y::z::r)]) (λd=>orF d.asB λk=>if k=true then Hg (qk6 qq1 [] (tbV (Bu (f2 gIx (rdN 0) (kC (D.int 0)))) A7)) (qk6 qq1 [] (tbV (Bu (f2 gIx (rdN 0) (kC (D.int 1)))) A7)) [.q (x::y::z::r)] (λd b=>Q d (fin (wOf [true]) 0 [.q (x::y::z::r)] b)) (λp b=>m p (fin (wOf [true]) 0 [.q (x::y::z::r)] b)) else Q (.bl false) [.q (x::y::z::r)]):=by rw[e2];exact q
    exact this
  rw[if_neg c] at e;cases e
 |_=>first|(cases e;exact q)|cases e
theorem qD8:qa8 ["thing"] ["thing"] (qa3 qk8):=by walk_at "s"
noncomputable def G4:D->Option Int|.q (.int k::_)=>some k|_=>none
def _root_.LV.D.homesB:D->Bool|.l _ ys=>decide (ys.length<=64)&&(ys.all D.pairB&&decide (ys.filterMap G4).Nodup)|_=>false
def _root_.LV.D.lstOk(p:D->Bool):D->Bool|.l _ ys=>D.imms ys&&ys.all p&&decide (ys.length<=1000)|x=>x.kind.isSome
def Kc(y:D):Bool:=y.kind.isSome&&y.kinded
theorem qaP2(h:x.num=true):∃n,x=.int n/\An n:=by cases x with|int n=>have:=zAm.mp h;exact⟨n,rfl,zAi this.1,zAi this.2⟩|_=>cases h
theorem qI8(h:An n):(D.int n).num=true:=by show (decide (0<=n)&&decide (n<=1000000000000000000))=true;rw[zAg h.1,zAg h.2];rfl
theorem qaN8(h:y.pairB=true):∃k m,y=.q [.int k,.int m]/\An k/\An m:=by cases y with|q a=>(match a,h with|[x,y],h=>have h:=zAm.mp h;obtain⟨k,rfl,b⟩:=qaP2 h.1;obtain⟨m,rfl,c⟩:=qaP2 h.2;exact⟨k,m,rfl,b,c⟩)|_=>cases h
theorem qah0:∀{ys:Ds},ys.all D.pairB=true->∃ps:Pr,ys=O7 ps/\∀p∈ps,An p.1/\An p.2|[],_=>⟨[],rfl,λp h=>by simp at h⟩|y::r,h=>by rw[Ly,zBq] at h;obtain⟨k,m,rfl,b,c⟩:=qaN8 h.1;obtain⟨ps,rfl,d⟩:=qah0 h.2;refine⟨(k,m)::ps,rfl,λp a=>?_⟩;rcases zAh.mp a with rfl|a;{exact⟨b,c⟩};exact d p a
theorem qak9:∀ps:Pr,(O7 ps).filterMap G4=ps.map (·.1)|[]=>rfl|p::r=>by show p.1::(O7 r).filterMap G4=_;rw[qak9 r];rfl
theorem qaT9:∀{ps:Pr},(∀p∈ps,An p.1/\An p.2)->(O7 ps).all D.pairB=true|[],_=>rfl|p::r,h=>by show (((D.int p.1).num&&(D.int p.2).num)&&(O7 r).all D.pairB)=true;rw[qI8 (h p zAf).1,qI8 (h p zAf).2,qaT9 λq a=>h q (zA9 _ a)];rfl
theorem qaU0:∀ps:Pr,(O7 ps).all Kc=true|[]=>rfl|p::r=>by show (true&&(O7 r).all Kc)=true;rw[qaU0 r];rfl
theorem qO8(h:qL4 ps):(D.l z (O7 ps)).homesB=true/\(D.l z (O7 ps)).lstOk Kc=true:=by
 have a:(O7 ps).length<=64:=by simpa[O7] using h.len
 constructor;{show (decide ((O7 ps).length<=64)&&((O7 ps).all D.pairB&&decide ((O7 ps).filterMap G4).Nodup))=true;rw[zAg a,qaT9 h.nums,qak9,zAg h.nd];rfl};show (D.imms (O7 ps)&&(O7 ps).all Kc&&decide ((O7 ps).length<=1000))=true;rw[qC2,qaU0,zAg ⋯];rfl
theorem qaa0{α:Type}(f:α->Bool):∀l:List α,bools (l.map λa=>.bl (f a))=some (l.map f)|[]=>rfl|a::r=>by show (bools (r.map λa=>D.bl (f a))).map (λb=>f a::b)=_;rw[qaa0 f r];rfl
theorem qav3(f:α->Bool)(l:List α):gAll (.l false (l.map λa=>.bl (f a)))=some (.bl (l.all f)):=by show (bools (l.map λa=>D.bl (f a))).map (λb=>D.bl (b.all id))=_;rw[qaa0];show some (D.bl ((l.map f).all id))=_;rw[Nv];rfl
def qD3:VSp:=A5 λds d=>∃x,ds=[x]/\x.lstOk Kc=true/\d=.bl x.homesB
theorem qE2(T:Txt K mg a):VFn P w K mg base 5 a.f6 a.d6 ["thing"] qD3:=by
 refine VFn.mk2 T.d6.F qD8 (wOf [true]) qb2 (by walk_at "l") (λ_ _ _ _ _ _ _ A=>⟨_,(Ab (sif (tor (Br (tv (vbi qi5 qK8.ops T.C8 (qa2 (vnm 0) (qa2 (vty "list" T.Ce) qa6 rfl) rfl)))) (Ge (q2 (As Bs (qa9 _)) Dg (vbi qC8 qC7.ops T.Cj (qa2 (vnm 0) qa6 rfl)) (vgi T.Cr)))).te (Aj (Av (qa5 vbl))) A4) (Aj (Av (F8 (ebi (qy6 rfl) qau1.ops T.Cu (Ev (vaV (ecN (NY:=["pair"]) (src:=[none]) 0 (blk (λf C g H0 i=>(A9 0 (show (["pair"]:List Str).Nodup by decide +kernel))) (λf C g H0 i=>Ec) (λf C g H0 i=>(Ak T.d5 (qy3 T) L2.qa1 (rm A) (vaN 0 Ac))))) Ac))) (Ia (Ak T.d4 (qN4 T) qa1 (rm A) (vaV (ecN (NY:=["pair"]) (src:=[none]) 0 (blk (λf C g H0 i=>(A9 0 (show (["pair"]:List Str).Nodup by decide +kernel))) (λf C g H0 i=>Ec) (λf C g H0 i=>(qb3 (v2 (Aw qb5) Ap (vnm 0) Af))))) Ac))))))),λJ Q L h=>?_⟩);obtain⟨d,⟨x,rfl,j,rfl⟩,q⟩:=h;cases x with
 |l z b=>
  have j:=zAm.mp j;have k:=zAm.mp j.1;have B:=zAi j.2;refine ite_b (p:=decide ((64:Int)<(b.length:Nat))) (λh=>?_) (λh=>?_)
  .have o:¬b.length<=64:=by have:=zAi h;lia
   have:(D.l z b).homesB=false:=by show (decide (b.length<=64)&&_)=false;rw[zB3 o];rfl
   rw[this] at q;exact q
  have o:b.length<=64:=by have:=zBp h;lia
  have E:(D.l z b).homesB=(b.all D.pairB&&decide (b.filterMap G4).Nodup):=by show (decide (b.length<=64)&&_)=_;rw[zAg o];rfl
  have m:=zBi.mp k.2;refine⟨k.1,?_⟩;refine qh3 (λι=>∃d,ι=[d]) (λy=>some (.bl y.pairB)) b [] _ (by show 0+b.length<big;unfold big;lia) ⟨_,rfl⟩ ?_ ?_;{rintro y s ι u ⟨d,rfl⟩ R v c;have G:=zAm.mp (m y s);obtain⟨t,H⟩:=zBb.mp G.1;refine qav1 (x:=y) (rd0 (qO6 H)) (qa0 (a:=D.bl y.pairB) ?_ ?_);{show (if y.kinded=true then y.kind.map _ else none)=_;rw[if_pos G.2,H];rfl};exact⟨c,v _ ⟨_,rfl⟩⟩};rintro ι ⟨d,rfl⟩;rw[zAz,qK1];refine qa0 (qav3 D.pairB b) (ite_b (λr=>?_) λr=>?_)
  .obtain⟨n,rfl,M⟩:=qah0 r;refine⟨qC2 n,qh3 (λι=>∃d,ι=[d]) (λy=>(G4 y).map .int) (O7 n) [] _ (by show 0+(O7 n).length<big;unfold big;lia) ⟨_,rfl⟩ ?_ ?_⟩;{rintro y s ι u ⟨d,rfl⟩ R v c;obtain⟨p,I,rfl⟩:=zAx.mp s;exact⟨rfl,c,v _ ⟨_,rfl⟩⟩};rintro ι ⟨d,rfl⟩;have e:[]++(O7 n).filterMap (λy=>(G4 y).map D.int)=O5 (n.map (·.1)):=by rw[zAz];unfold O7 O5;rw[Nb,zC3];exact qK1 _ _
   rw[e];rw[E,r,qak9] at q;exact⟨_,⟨false,_,rfl,by simp;simp[O7] at o;lia,rfl⟩,q⟩
  rw[E,r] at q;exact q
 |_=>first|exact q|cases j
theorem qS7:qa8 ["self", "rooms", "wraps", "homes"] ["self", "rooms", "wraps", "homes"] (qa3 qv7):=by walk_at "s"
def qR8(C:γ):VSp:=λds Q _=>∃n wr z ps,ds=[.ins false C [],.int n,.bl wr,.l z (O7 ps)]/\1<=n/\n<=64/\qL4 ps/\Q .non [Ad false C n wr ps,.int n,.bl wr,.l z (O7 ps)]
theorem qay6:Fp (.l z (O7 ps))=some (.l false (O7 ps)):=qh4 (qC2 ps)
theorem qT9(T:Txt K mg a):VFn P w K mg base 6 a.f7 a.d7 ["self", "rooms", "wraps", "homes"] (qR8 a.C3):=by refine VFn.mk2 T.d7.F qS7 (wOf [true,true,true,true]) (by walk_at "m") (by walk_at "l") (λ_ _ _ _ _ _ _ f=>⟨_,(Ab (sif (Br (te (Ak T.d2 (qg3 T) qa1 (rm f) (vaN 1 (vaV (qa5 Af) (vaV (qa5 (vgi T.Cq)) Ac)))))) (Aj qm5) A4) (Ab (sif (Br (tv (vbi qi5 qK8.ops T.C8 (qa2 (vnm 2) (qa2 (vty "bool" T.Ct) qa6 rfl) rfl)))) (Aj qm5) A4) (Ab (sif (Br (te (Ak T.d6 (qE2 T) qa1 (rm f) (vaN 3 Ac)))) (Aj qm5) A4) (Ab (Gm rfl (vpn 0) (qb3 (vnm 1)) T.C6.cl T.C7) (Ab (Gm rfl (vpn 0) (qb3 (vnm 2)) T.C6.cl T.Cb) (Ab (Gm rfl (vpn 0) (qa5 (E9 qe3 qx6.ops T.Ce (qa2 (vnm 3) qa6 rfl))) T.C6.cl T.Cs) (Aj (Gm rfl (vpn 0) (qa5 (E9 (qP8 rfl) qaA2.ops T.Cw (qa2 (vnm 3) qa6 rfl))) T.C6.cl T.Cf)))))))),λk Q g h=>?_⟩);obtain⟨n,wr,z,c,rfl,i,j,e,q⟩:=h;refine qb0 [.ins false a.C3 [],.int n,.bl wr,.l z (O7 c)] (λK b=>?_) (qb0 [.ins false a.C3 [],.int n,.bl wr,.l z (O7 c)] (λK b=>b) (qb0 [.ins false a.C3 [],.int n,.bl wr,.l z (O7 c)] (λK b=>?_) ?_));{refine qal8 (λQ g q=>qg7 (qc0 (x:=.int n) rfl (qk0 (y:=.int 1) rfl (qk0 (y:=.int 64) rfl (qb6 (qa0 (a:=D.int n) rfl (qI5 (d:=D.bl true) ?_ q))))))) b;show some (D.bl ((D.int n).within 1 64))=_;rw[qV9 i j]};{refine qav1 rfl ⟨D.bl true,⟨_,rfl,(qO8 e).2,by rw[(qO8 e).1]⟩,b⟩};refine qb0 [.ins false a.C3 [("rooms",.int n)],.int n,.bl wr,.l z (O7 c)] (λK b=>⟨rfl,qa0 (a:=(0,[])) rfl (qa0 qi7 ⟨∅,b⟩)⟩) ?_;refine qb0 [.ins false a.C3 [("rooms",.int n),("wraps",.bl wr)],.int n,.bl wr,.l z (O7 c)] (λK b=>⟨rfl,qa0 (a:=(0,[])) rfl (qa0 qi7 ⟨by show 1<100;decide,b⟩)⟩) ?_;refine qb0 [.ins false a.C3 [("rooms",.int n),("wraps",.bl wr),("homes",.l false (O7 c))],.int n,.bl wr,.l z (O7 c)] (λK b=>?_) ?_;{refine qa0 (qay6 (z:=z)) ?_;exact qa0 (a:=(0,[])) rfl (qa0 qi7 ⟨by show 2<100;decide,b⟩)};refine qa0 (qaz9 (z:=z) e.nd) ?_;exact qa0 (a:=(0,[])) rfl (qa0 qi7 ⟨by show 3<100;decide,q⟩)
theorem qD9:qa8 ["self", "thing"] ["self", "thing"] (qa3 ql0):=by walk_at "s"
def qD5(C:γ):VSp:=A5 λds d=>∃z n wr ps x t,ds=[Ad z C n wr ps,x]/\x.kind=some t/\d=.bl (x.within 0 (n-1))
theorem qp6(T:Txt K mg a):VFn P w K mg base 3 a.f8 a.d8 ["self", "thing"] (qD5 a.C3):=by refine VFn.mk2 T.d8.F qD9 (wOf [true,true]) qb2 (by walk_at "l") (λ_ _ _ _ _ _ _ f=>⟨_,(Aj (Av (Ak T.d2 (qg3 T) qa1 (rm f) (vaN 1 (vaV (qa5 Af) (vaV (qa5 (v2 (Al qr0) qq9 (Bd rfl (vnm 0) T.C6.cl T.C7) Af)) Ac)))))),λi Q j h=>?_⟩);obtain⟨d,⟨z,n,wr,b,x,t,rfl,c,rfl⟩,q⟩:=h;have e:rdN 1 [Ad z a.C3 n wr b,x]=some x:=qn3.mpr ⟨rfl,qO6 c⟩;have g:f2 gSub (f1 (D.fld a.C3 "rooms") (rdN 0)) (kC (.int 1)) [Ad z a.C3 n wr b,x]=some (.int (n-1)):=Ag (Ay rfl qe0) rfl rfl;show qk6 _ _ (tbN 1 _) [Ad z a.C3 n wr b,x] _ _;refine qc0 e ?_;refine qk0 (y:=.int 0) rfl ?_;refine qk0 g ?_;refine qa0 e ?_;refine qI5 (d:=.bl (x.within 0 (n-1))) ?_ (qa0 rfl q);show x.kind.bind _=_;rw[c];rfl
theorem qS8:qa8 ["self", "key"] ["self", "key"] (qa3 qv8):=by walk_at "s"
def qR9(C:γ):VSp:=A5 λds d=>∃z n wr ps k,ds=[Ad z C n wr ps,.int k]/\1<=n/\An k/\d=.int (qb4 n ps k)
theorem qam0(h:fa ds=some (.dct z (kvD ps)))(a:rdN i ds=some (.int k)):fget fa (rdN i) (rdN i) ds=some (.int ((ps.lookup k).getD k)):=by unfold fget;rw[h,a];show gd (((Dw (kvD ps) (.inl k)).getD (.int k)).imm=true) ((Dw (kvD ps) (.inl k)).getD (.int k))=_;rw[qav9];cases ps.lookup k<;>rfl
theorem qaP8{x:Int}(h:1<=n):Hw (.int x) (.int n)=some (.int (x%n)):=qh4 (zAg ⋯)
theorem qi1(T:Txt K mg a):VFn P w K mg base 4 a.f9 a.d9 ["self", "key"] (qR9 a.C3):=by refine VFn.mk2 T.d9.F qS8 (wOf [true,true]) qb2 (by walk_at "l") (λ_ _ _ _ _ _ _ b=>⟨_,(Ab (sif (Br (te (Ak T.d3 (qd3 T) qa1 (rm b) (vaN 1 Ac)))) (Aj qm5) A4) (Aj (Av (qa5 (v2 (Al qn5) qn4 (vget (hu_of b) (Bd rfl (vnm 0) T.C6.cl T.Cf) (vnm 1) (vnm 1) ⟨rfl,rfl,rfl,rfl⟩) (Bd rfl (vnm 0) T.C6.cl T.C7)))))),λg Q i h=>?_⟩);obtain⟨d,⟨z,n,wr,c,k,rfl,e,f,rfl⟩,q⟩:=h;have key:orF (f2 Hw (fget (f1 (D.fld a.C3 "home_numbers") (rdN 0)) (rdN 1) (rdN 1)) (f1 (D.fld a.C3 "rooms") (rdN 0)) [Ad z a.C3 n wr c,.int k]) (λd=>Q d [Ad z a.C3 n wr c,.int k]):=qa0 (Ag (qam0 (Ay rfl qad4) rfl) (Ay rfl qe0) (qaP8 e)) q;exact qav1 rfl (qI5 (d:=D.bl true) (by show some (D.bl (D.int k).num)=_;rw[qI8 f]) (qa0 rfl (qa0 (a:=true) rfl key)))
theorem qF7:qa8 ["self", "key", "room", "steps"] ["self", "key", "room"] (qa3 qA6):=by walk_at "s"
def qab5(C:γ):VSp:=A5 λds d=>∃z n wr ps k r,ds=[Ad z C n wr ps,.int k,.int r]/\1<=n/\An k/\0<=r/\r<n/\d=Ih (De n wr ps k r)
theorem Il(a:An k):fx1 (λx=>x.kind.map λ_=>.bl x.num) [.int k]=some (.bl true):=by show some (D.bl (D.int k).num)=_;rw[qI8 a]
theorem qaw8{r:Int}(d:0<=r)(h1:r<n):∃z' c a b x t,[Ad z C n wr ps,.int r]=[Ad z' C c a b,x]/\x.kind=some t/\D.bl true=.bl (x.within 0 (c-1)):=⟨z,n,wr,ps,_,_,rfl,rfl,by rw[qV9 d ⋯]⟩
theorem qk5(T:Txt K mg a):VFn P w K mg base 5 a.f10 a.d10 ["self", "key", "room"] (qab5 a.C3):=by refine VFn.mk2 T.d10.F qF7 (wOf [true,true,true]) qb2 (by walk_at "l") (λ_ _ _ _ _ _ _ e=>⟨_,(Ab (sif (Br (te (Ak T.d3 (qd3 T) qa1 (rm e) (vaN 1 Ac)))) (Aj qm5) A4) (Ab (sif (Br (te (qm0 0 T.d8 T.C6.cl (qp6 T) qa1 (rm e) (vaN 2 Ac)))) (Aj qm5) A4) (Ab (Am 3 qF7.nd (e2n 2 (Al qr0) qq9 (qm0 0 T.d9 T.C6.cl (qi1 T) qa1 (rm e) (vaN 1 Ac)))) (Ab (sif (tv (Bd rfl (vnm 0) T.C6.cl T.Cb)) (Aj (Av (qa5 (v2 (Al qn5) qn4 (vnm 3) (Bd rfl (vnm 0) T.C6.cl T.C7))))) A4) (Aj (Av (eif (q2 (As G7 (qa9 _)) Jf (vnm 3) Af) (qb3 (vnm 3)) (qa5 Bf)))))))),λs Q i h=>?_⟩);obtain⟨d,⟨z,n,wr,c,k,r,rfl,j,m,f,g,rfl⟩,q⟩:=h;refine Fv (λQ i q=>Ii (x:=.int k) rfl (Il m) rfl q) ?_;refine Fv (λQ i q=>qO2 (p:=Ad z a.C3 n wr c) (x:=.int r) rfl (qf8 rfl) rfl rfl (qaw8 f g) rfl q) ?_;refine qb0 [Ad z a.C3 n wr c,.int k,.int r,.int (r-qb4 n c k)] (λK o=>?_) ?_;{exact⟨rfl,qO2 (p:=Ad z a.C3 n wr c) (x:=.int k) (d:=.int (qb4 n c k)) rfl (qf8 rfl) rfl rfl ⟨z,n,wr,c,k,rfl,j,m,rfl⟩ rfl (qa0 (a:=D.int (r-qb4 n c k)) rfl o)⟩};unfold De at q;refine qm7 wr (Ay rfl qo5) (λh=>?_) (λh=>?_);{subst h;exact qi0 (.int ((r-qb4 n c k)%n)) (Ag rfl (Ay rfl qe0) (qaP8 j)) q};subst h;refine qg5 (Fw (b:=decide (0<=r-qb4 n c k)) rfl (λh=>?_) (λh=>?_));{rw[if_neg ∅,if_pos (zAi h)] at q;exact⟨rfl,q⟩};rw[if_neg ∅,if_neg (zBp h)] at q;exact q
theorem qg2:qa8 ["self", "room", "one", "other", "one_far", "other_far"] ["self", "room", "one", "other"] (qa3 qg9):=by walk_at "s"
def qu5(C:γ):VSp:=A5 λds d=>∃z n wr ps r x y,ds=[Ad z C n wr ps,.int r,.int x,.int y]/\1<=n/\0<=r/\r<n/\An x/\An y/\d=.bl (qH1 n wr ps r x y)
theorem qat3{r:Int}(h1:1<=n)(f:An k)(g:0<=r)(h:r<n):∃z' c a b e d,[Ad z C n wr ps,.int k,.int r]=[Ad z' C c a b,.int e,.int d]/\1<=c/\An e/\0<=d/\d<c/\Ih (De n wr ps k r)=Ih (De c a b e d):=⟨z,n,wr,ps,k,r,rfl,h1,f,g,h,rfl⟩
theorem qk4(T:Txt K mg a):VFn P w K mg base 6 a.f11 a.d11 ["self", "room", "one", "other"] (qu5 a.C3):=by
 refine VFn.mk2 T.d11.F qg2 (wOf [true,true,true,true]) qb2 (by walk_at "l") (λ_ _ _ _ _ _ _ j=>⟨_,(Ab (sif (Br (te (qm0 0 T.d8 T.C6.cl (qp6 T) qa1 (rm j) (vaN 1 Ac)))) (Aj qm5) A4) (Ab (sif (Br (te (Ak T.d3 (qd3 T) qa1 (rm j) (vaN 2 Ac)))) (Aj qm5) A4) (Ab (sif (Br (te (Ak T.d3 (qd3 T) qa1 (rm j) (vaN 3 Ac)))) (Aj qm5) A4) (Ab (Am 4 qg2.nd (qm0 0 T.d10 T.C6.cl (qk5 T) qa1 (rm j) (vaN 2 (vaN 1 Ac)))) (Ab (Am 5 qg2.nd (qm0 0 T.d10 T.C6.cl (qk5 T) qa1 (rm j) (vaN 3 (vaN 1 Ac)))) (Ab (sif (q2 (As Ei (qa9 _)) Ew (vnm 4) Bf) (Aj (Av (qa5 vbl))) A4) (Ab (sif (q2 (As Ei (qa9 _)) Ew (vnm 5) Bf) (Aj (Av (qa5 vbl))) A4) (Aj (Av (qa5 (vor (v2 (A6 Bs (qa9 _)) Dg (vnm 4) (vnm 5)) (vone (vand (v2 (A6 (qm6 j.u64) (qa9 _)) Bq (vnm 4) (vnm 5)) (vone (v2 (A6 Iw (qa9 _)) Je (vnm 2) (vnm 3)))))))))))))))),λA Q k h=>?_⟩);obtain⟨d,⟨z,n,wr,c,r,x,y,rfl,o,e,i,s,t,rfl⟩,q⟩:=h;refine Fv (λQ k q=>qO2 (p:=Ad z a.C3 n wr c) (x:=.int r) rfl (qf8 rfl) rfl rfl (qaw8 e i) rfl q) ?_;refine Fv (λQ k q=>Ii (x:=.int x) rfl (Il s) rfl q) ?_;refine Fv (λQ k q=>Ii (x:=.int y) rfl (Il t) rfl q) ?_;refine qb0 [Ad z a.C3 n wr c,.int r,.int x,.int y,Ih (De n wr c x r),.u] (λK m=>?_) ?_;{exact qar8 (p:=Ad z a.C3 n wr c) (x:=.int x) (y:=.int r) rfl (qf8 rfl) rfl rfl rfl rfl (qat3 o s e i) rfl m};refine qb0 [Ad z a.C3 n wr c,.int r,.int x,.int y,Ih (De n wr c x r),Ih (De n wr c y r)] (λK m=>?_) ?_;{exact qar8 (p:=Ad z a.C3 n wr c) (x:=.int y) (y:=.int r) rfl (qf8 rfl) rfl rfl rfl rfl (qat3 o t e i) rfl m};unfold qH1 at q;cases u:De n wr c x r with
 |none=>rw[u] at q;exact q|some f=>
  rw[u] at q;cases v:De n wr c y r with
  |none=>rw[v] at q;exact q|some g=>
   rw[v] at q;refine qm7 false rfl nofun λ_=>?_
   refine qm7 false rfl nofun λ_=>?_
   exact qi0 _ (qbb1 (a:=decide (g<f)) rfl (qaz7 (a:=decide (f=g)) (b:=decide (x<y)) rfl rfl)) q
theorem qM4:qa8 ["plan", "room"] ["plan", "room"] (qa3 qq4):=by walk_at "s"
def qL9(C:γ):VSp:=A5 λds d=>∃z n wr ps r,ds=[Ad z C n wr ps,.int r]/\d=(if 0<r then .int (r-1) else if wr=true then .int (n-1) else .non)
theorem qN2(T:Txt K mg a):VFn P w K mg base 1 a.f12 a.d12 ["plan", "room"] (qL9 a.C3):=by refine VFn.mk2 T.d12.F qM4 (wOf [true,true]) qb2 (by walk_at "l") (λ_ _ _ _ _ _ _ e=>⟨_,(Ab (sif (q2 (As Bs (qa9 _)) Dg (vnm 1) Af) (Aj (Av (qa5 (v2 (Al qr0) qq9 (vnm 1) Af)))) A4) (Aj (Av (eif (tv (Bd rfl (vnm 0) T.C6.cl T.Cb)) (qa5 (v2 (Al qr0) qq9 (Bd rfl (vnm 0) T.C6.cl T.C7) Af)) (qa5 Bf))))),λf Q g h=>?_⟩);obtain⟨d,⟨z,n,wr,c,r,rfl,rfl⟩,q⟩:=h;refine Au [Ad z a.C3 n wr c,.int r] rfl ?_;refine qm7 (decide (0<r)) rfl (λh=>?_) λh=>?_;{rw[if_pos (zAi h)] at q;exact q};rw[if_neg (zBp h)] at q;refine qg5 (Fw (b:=wr) (Ay rfl qo5) (λh=>?_) (λh=>?_));{rw[if_pos h] at q;exact qn7 (d:=.int (n-1)) (Ag (Ay rfl qe0) rfl rfl) q};rw[if_neg (by rw[h];decide)] at q;exact q
theorem qe7:qa8 ["plan", "rooms", "room", "ahead", "thing"] ["plan", "rooms", "room"] (qa3 qf0):=by walk_at "s"
def okG(n:Int)(wr:Bool)(ps:Pr)(g:Nat->Option Int):Prop:=∃S,Kept n.toNat wr (O3 n ps) g S/\∀k∈S,An k
theorem okG.num(h:okG n wr ps g)(hi:i<n.toNat)(e:g i=some k):An k:=let ⟨_,K,q⟩:=h;q k ((K.h.2 k).mpr ⟨i,hi,e⟩)
def qo7(C:γ):VSp:=A5 λds d=>∃z n wr ps z' g r k,ds=[Ad z C n wr ps,.l z' (O6 n.toNat g),.int (r:Nat)]/\1<=n/\r<n.toNat/\okG n wr ps g/\g r=some k/\0<Aa n.toNat (O3 n ps k) r/\d=.non
theorem qo9(T:Txt K mg a):VFn P w K mg base 7 a.f13 a.d13 ["plan", "rooms", "room"] (qo7 a.C3):=by
 refine VFn.mk2 T.d13.F qe7 (wOf [true,true,true]) qb2 (by walk_at "l") (λ_ _ _ _ _ _ _ s=>⟨_,(Ab (Am 3 qe7.nd (Ak T.d12 (qN2 T) qa1 (rm s) (vaN 0 (vaN 2 Ac)))) (Ab (Am 4 qe7.nd (qb3 (v2 (Aw qb5) Ap (vnm 1) (vnm 3)))) (Ab (sif (q2 (As Ei (qa9 _)) Ew (vnm 4) Bf) (Aj (Av (qa5 Dx))) A4) (Ab (sif (Hy (te (Ak T.d3 (qd3 T) qa1 (rm s) (vaN 4 Ac))) (Fq (Br (te (qm0 0 T.d11 T.C6.cl (qk4 T) qa1 (rm s) (vaN 3 (vaN 4 (vaV (qb3 (v2 (Aw qb5) Ap (vnm 1) (vnm 2))) Ac)))))))).te (Aj (Av (qa5 Dx))) A4) (Aj (Av (qa5 Bf))))))),λL Q M h=>?_⟩);obtain⟨d,⟨z,n,wr,b,t,g,r,k,rfl,A,c,u,j,G,rfl⟩,q⟩:=h;obtain⟨S,KP,N⟩:=id u;have H:=u.num c j;have e:=Row.qp5 (n:=n.toNat) c;obtain⟨x,m,I⟩:=KP.o.ord r k c j G;have f:=u.num e m;have B:=λi=>KP.ln i r k c j;have O:=dor n.toNat (O3 n b k) r;have J:=por n.toNat r;have C:=(qL3 (ps:=b) A e (λi=>KP.ln i _ x e m) (λi=>by have:=B i;lia)).mpr I;have E:(if 0<((r:Nat):Int) then D.int ((r:Int)-1) else if wr=true then D.int (n-1) else .non)=.int (Row.prev n.toNat r:Nat):=by rcases J with⟨e1,e2⟩|⟨e1,e2⟩;{rw[if_neg ⋯,if_pos (by cases wr with|true=>rfl|false=>have:=B rfl;lia),e2];congr 1;lia};rw[if_pos ⋯,e2];congr 1;lia
 generalize Row.prev n.toNat r=p at e E m C;refine Au [Ad z a.C3 n wr b,.l t (O6 n.toNat g),.int (r:Nat),.u,.u] rfl ?_;refine qb0 [Ad z a.C3 n wr b,.l t (O6 n.toNat g),.int (r:Nat),.int (p:Nat),.u] (λK v=>qr9 (x:=Ad z a.C3 n wr b) (y:=.int (r:Nat)) (d:=.int (p:Nat)) rfl rfl rfl ⟨z,n,wr,b,(r:Nat),rfl,E.symm⟩ rfl v) ?_;refine qb0 [Ad z a.C3 n wr b,.l t (O6 n.toNat g),.int (r:Nat),.int (p:Nat),.int x] (λK v=>qw7 (d:=.int x) (Ag rfl rfl ((Du e).trans (by rw[m];rfl))) rfl v) ?_;refine qm7 false rfl nofun λ_=>?_
 refine qo0 false (λQ q=>qp9 true false (λQ q=>Ii (x:=.int x) (d:=.bl true) rfl (Il f) rfl q) (λ_ Q q=>?_) q) nofun λ_=>q
 refine qE6 (p:=Ad z a.C3 n wr b) rfl (qf8 rfl) (qc0 (x:=.int (p:Nat)) rfl (qc0 (x:=.int x) rfl (qb8 (y:=.int k) (Ag rfl rfl ((Du c).trans (by rw[j];rfl))) rfl (qb6 (qa0 (a:=D.int x) rfl (qa0 (a:=D.int (p:Nat)) rfl (qa0 (a:=Ad z a.C3 n wr b) rfl (qr8 (d:=.bl (qH1 n wr b (p:Int) x k)) ⟨z,n,wr,b,(p:Nat),x,k,rfl,A,⋯,⋯,f,H,rfl⟩ ?_))))))));rw[C];exact q
theorem qu6:qa8 ["plan", "rooms", "room", "key", "far"] ["plan", "rooms", "room"] (qa3 qz8):=by walk_at "s"
theorem qaO1{k:Int}{g:Nat->Option Int}:∀l:List Nat,(∀i∈l,g i≠some k)->∃a,flats (l.map λi=>Bk (g i))=some a/\inV (.int k) a=false|[],_=>⟨[],rfl,rfl⟩|i::l,h=>by obtain⟨a,d,e2⟩:=qaO1 l λj f=>h j (zA9 _ f);have m:=h i zAf;rw[zAy];cases c:g i with|none=>exact⟨.non::a,by show ((flats _).bind λb=>some (V.non::b))=_;rw[d];rfl,by show (eqV .non (.int k)||inV (.int k) a)=_;rw[e2];rfl⟩|some j=>exact⟨.int j::a,by show ((flats _).bind λb=>some (V.int j::b))=_;rw[d];rfl,by show (decide (j=k)||inV (.int k) a)=_;rw[e2,zB3 λe=>m (by rw[c,e])];rfl⟩
def qaa7(C:γ):VSp:=A5 λds d=>∃z n wr ps z' g r,ds=[Ad z C n wr ps,.l z' (O6 n.toNat g),.int (r:Nat)]/\1<=n/\r<n.toNat/\okG n wr ps g/\d=.non
theorem qac1(T:Txt K mg a):VFn P w K mg base 8 a.f14 a.d14 ["plan", "rooms", "room"] (qaa7 a.C3):=by
 refine VFn.mk2 T.d14.F qu6 (wOf [true,true,true]) qb2 (by walk_at "l") (λ_ _ _ _ _ _ _ s=>⟨_,(Ab (Am 3 qu6.nd (qb3 (v2 (Aw qb5) Ap (vnm 1) (vnm 2)))) (Ab (sif (q2 (As Ei (qa9 _)) Ew (vnm 3) Bf) (Aj (Av (qa5 Bf))) A4) (Ab (sif (Br (te (Ak T.d3 (qd3 T) qa1 (rm s) (vaN 3 Ac)))) (Aj (Av (qa5 Dx))) A4) (Ab (sif (q2 (As qI7 (by with_unfolding_all rfl)) Fo (vnm 3) (vsl (vnm 1) Hh (Hi (vnm 2)))) (Aj (Av (qa5 Dx))) A4) (Ab (Am 4 qu6.nd (qm0 0 T.d10 T.C6.cl (qk5 T) qa1 (rm s) (vaN 3 (vaN 2 Ac)))) (Ab (sif (q2 (As Ei (qa9 _)) Ew (vnm 4) Bf) (Aj (Av (qa5 Dx))) A4) (Ab (sif (q2 (As (qm6 s.u64) (qa9 _)) Bq (vnm 4) Af) (Aj (Av (qa5 Bf))) A4) (Aj (Av (Ak T.d13 (qo9 T) qa1 (rm s) (vaN 0 (vaN 1 (vaN 2 Ac))))))))))))),λJ Q L h=>?_⟩);obtain⟨d,⟨z,n,wr,c,f,g,r,rfl,u,b,v,rfl⟩,q⟩:=h;obtain⟨S,KP,M⟩:=id v;refine Au [Ad z a.C3 n wr c,.l f (O6 n.toNat g),.int (r:Nat),.u,.u] rfl ?_;cases j:g r with
 |none=>refine qb0 [Ad z a.C3 n wr c,.l f (O6 n.toNat g),.int (r:Nat),.non,.u] (λK m=>qw7 (d:=.non) (Ag rfl rfl ((Du b).trans (by rw[j];rfl))) rfl m) ?_;exact qm7 true rfl (λ_=>q) nofun|some k=>
  have B:=v.num b j;refine qb0 [Ad z a.C3 n wr c,.l f (O6 n.toNat g),.int (r:Nat),.int k,.u] (λK m=>qw7 (d:=.int k) (Ag rfl rfl ((Du b).trans (by rw[j];rfl))) rfl m) ?_;refine qm7 false rfl nofun λ_=>?_
  refine qo0 false (λQ q=>(show Bw _ _ _ _ from(show ttE _ _ _ _ from Ii (x:=.int k) (d:=.bl true) rfl (Il B) rfl (qa0 (a:=true) rfl q)))) nofun λ_=>?_
  obtain⟨t,C,E⟩:=qaO1 (k:=k) (g:=g) (Lr r) λi G e=>by have:=zAq.mp G;have:=KP.o.inj i r k ⋯ b e j;lia
  have A:By (O6 n.toNat g) none (some (r:Int))=O6 r g:=by rw[qK7];unfold O6;rw[<-Mc,List.take_range,zCy ⋯]
  refine qm7 false (Ag (x:=.int k) (y:=.l false (O6 r g)) rfl ?_ ?_) nofun λ_=>?_
  {show gd (D.imms (By (O6 n.toNat g) none (some (r:Int)))=true) (D.l false (By (O6 n.toNat g) none (some (r:Int))))=_;rw[A];exact qh4 (qp7 _ _)};{show ((flats (O6 r g)).bind λt=>some (D.bl (if false=true then !inV (.int k) t else inV (.int k) t)))=_;unfold O6;rw[C];show some (D.bl (inV (.int k) t))=_;rw[E]};have H:=qP4 (ps:=c) u b λI=>KP.ln I r k b j;refine qb0 [Ad z a.C3 n wr c,.l f (O6 n.toNat g),.int (r:Nat),.int k,.int (Aa n.toNat (O3 n c k) r:Nat)] (λK m=>qd5 (qar8 (p:=Ad z a.C3 n wr c) (x:=.int k) (y:=.int (r:Nat)) rfl (qf8 rfl) rfl rfl rfl rfl (qat3 u B ⋯ ⋯) rfl (by rw[H];exact m))) ?_;refine qm7 false rfl nofun λ_=>?_
  refine qm7 (decide (Aa n.toNat (O3 n c k) r=0)) (Ag rfl rfl (by show some (D.bl (((Aa n.toNat (O3 n c k) r:Nat):Int)==0))=_;congr 2;by_cases h:Aa n.toNat (O3 n c k) r=0<;>simp[h])) (λ_=>q) λh=>?_;exact qg5 (Ij (x:=Ad z a.C3 n wr c) (y:=.l f (O6 n.toNat g)) (w:=.int (r:Nat)) rfl rfl rfl rfl rfl ⟨z,n,wr,c,f,g,r,k,rfl,u,b,v,j,by have:=zBp h;lia,rfl⟩ rfl q)
theorem qS4:qa8 ["plan", "rooms"] ["plan", "rooms"] (qa3 qv2):=by walk_at "s"
def farP(n:Int)(ps:Pr):D->Bool|.q [.int i,.int k]=>decide (0<Aa n.toNat (O3 n ps k) i.toNat)|_=>false
theorem qad5(ys:Ds):(enD ys).length=ys.length:=by unfold enD;rw[zA5,List.length_zipIdx]
def qR4(C:γ):VSp:=A5 λds d=>∃z n wr ps z' g,ds=[Ad z C n wr ps,.l z' (O6 n.toNat g)]/\1<=n/\n<=64/\okG n wr ps g/\d=.bl false
theorem qT6(T:Txt K mg a):VFn P w K mg base 6 a.f15 a.d15 ["plan", "rooms"] (qR4 a.C3):=by
 refine VFn.mk2 T.d15.F qS4 (wOf [true,true]) qb2 (by walk_at "l") (λ_ _ _ _ _ _ _ E=>⟨_,(Aj (Av (ebi (qy6 rfl) qau1.ops T.Cu (Ev (vaV (ecEN (NY:=["room", "key", "plan"]) (src:=[none,none,some 0]) 1 T.Co (blk (λs C t H0 u=>(Fc (n:=2) rfl (qu0 (A9 0 (show (["room", "key", "plan"]:List Str).Nodup by decide +kernel)) (qu0 (A9 1 (show (["room", "key", "plan"]:List Str).Nodup by decide +kernel)) Fb)))) (λs C t H0 u=>Ec) (λs C t H0 u=>(F8 (qa5 (v2 (A6 qk3 (qa9 _)) qo8 (vnm 1) Bf)) (Ia (e2v (A6 Bs (qa9 _)) Dg (qm0 2 T.d10 T.C6.cl (qk5 T) L2.qa1 (rm E) (vaN 1 (vaN 0 Ac))) Af)))))) Ac))))),λM Q N h=>?_⟩);obtain⟨d,⟨z,n,wr,b,G,g,rfl,m,O,A,rfl⟩,q⟩:=h;obtain⟨S,KP,U⟩:=id A;refine Au [Ad z a.C3 n wr b,.l G (O6 n.toNat g)] rfl (qg5 ⟨qp7 _ _,?_⟩);refine qh3 (λι=>∃o r,ι=[o,r,Ad z a.C3 n wr b]) (λy=>some (.bl (farP n b y))) (enD (O6 n.toNat g)) [] _ (by show 0+(enD _).length<big;rw[qad5,qh2];unfold big;lia) ⟨_,_,rfl⟩ ?_ ?_
 .rintro y H ι I ⟨o,r,rfl⟩ R B f;obtain⟨i,v,rfl,j⟩:=qbb2 H;have e:i<n.toNat:=by have:=(zA4.mp j).1;rwa[qh2] at this
  rw[qC3 e] at j;obtain rfl:=N8 j;refine qs1 (qQ3 (Dt rfl ?_));cases c:g i with|none=>exact Ff false rfl nofun λ_=>⟨f,by have:=B [.int (i:Nat),Bk (g i),Ad z a.C3 n wr b] ⟨_,_,rfl⟩;rw[c] at this;exact this⟩|some k=>refine Ff true rfl (λ_=>?_) nofun;refine qar8 (p:=Ad z a.C3 n wr b) (x:=.int k) (y:=.int (i:Nat)) rfl (qf8 rfl) rfl rfl rfl rfl (qat3 m (A.num e c) ⋯ ⋯) rfl ?_;have this:=B [.int (i:Nat),Bk (g i),Ad z a.C3 n wr b] ⟨_,_,rfl⟩;rw[c] at this;rw[qP4 m e λJ=>KP.ln J i k e c];refine qa0 (a:=D.bl (decide (0<Aa n.toNat (O3 n b k) i))) ?_ ⟨f,this⟩;show some (D.bl (decide (((Aa n.toNat (O3 n b k) i:Nat):Int)>0)))=_;congr 2;exact zC2.mpr ⋯
 rintro ι ⟨o,r,rfl⟩;rw[zAz,qK1];refine qa0 (qav3 (farP n b) (enD (O6 n.toNat g))) ?_;obtain⟨i,j,L⟩:=KP.c;rw[show (enD (O6 n.toNat g)).all (farP n b)=false from List.all_eq_false.mpr ⟨_,zB0 (LV.qaH8 (qC3 j)),?_⟩];{exact q};cases c:g i with|none=>exact nofun|some k=>show ¬decide (0<Aa n.toNat (O3 n b k) i)=true;rw[(qc2 (Fn m k) j).mpr (L k c).symm];exact nofun
theorem qu8:qa8 ["plan", "rooms", "room", "word"] ["plan", "rooms"] (qa3 qA1):=by walk_at "s"
def qab0(C:γ):VSp:=A5 λds d=>∃z n wr ps z' g,ds=[Ad z C n wr ps,.l z' (O6 n.toNat g)]/\1<=n/\n<=64/\okG n wr ps g/\d=.non
theorem qac4(T:Txt K mg a):VFn P w K mg base 9 a.f16 a.d16 ["plan", "rooms"] (qab0 a.C3):=by
 refine VFn.mk2 T.d16.F qu8 (wOf [true,true]) qb2 (by walk_at "l") (λ_ _ _ _ _ _ _ o=>⟨_,(Ab (sif (tor (Br (tv (vbi qi5 qK8.ops T.C8 (qa2 (vnm 1) (qa2 (vty "list" T.Ce) qa6 rfl) rfl)))) (Ge (q2 (As (qr1 o.u64) (qa9 _)) Dq (vbi qC8 qC7.ops T.Cj (qa2 (vnm 1) qa6 rfl)) (Bd rfl (vnm 0) T.C6.cl T.C7)))).te (Aj (Av (qa5 (Dy (qa2 Dx (qa2 Af qa6 rfl) rfl))))) A4) (Ab (qS2 N9 T.Ci (Ev (vaV (qb3 (Bd rfl (vnm 0) T.C6.cl T.C7)) Ac)) (A9 2 qu8.nd) (Ab (Am 3 qu8.nd (Ak T.d14 (qac1 T) qa1 (rm o) (vaN 0 (vaN 1 (vaN 2 Ac))))) (Aj (sif (q2 (As qk3 (qa9 _)) qo8 (vnm 3) Bf) (Aj (Av (qa5 (Dy (qa2 (vnm 3) (qa2 (vnm 2) qa6 rfl) rfl))))) A4)))) (Aj (Av (eif (te (Ak T.d15 (qT6 T) qa1 (rm o) (vaN 0 (vaN 1 Ac)))) (qa5 (Dy (qa2 Dx (qa2 Af qa6 rfl) rfl))) (qa5 Bf)))))),λf Q v h=>?_⟩);obtain⟨d,⟨z,n,wr,c,e,g,rfl,p,s,r,rfl⟩,q⟩:=h;refine Au [Ad z a.C3 n wr c,.l e (O6 n.toNat g),.u,.u] rfl ?_;have i:f2 gNe (Bh (fx1 Fj) (Ba (rdN 1) λ_=>some [])) (f1 (D.fld a.C3 "rooms") (rdN 0)) [Ad z a.C3 n wr c,.l e (O6 n.toNat g),.u,.u]=some (.bl false):=Ag (qC0 rfl) (Ay rfl qe0) (by rw[qh2,show ((n.toNat:Nat):Int)=n by lia];exact qU6 rfl);refine qo0 false (λQ q=>qF1 false false (λQ q=>qs5 (qU4 rfl) q) (λ_ Q q=>qj9 i q) q) nofun λ_=>?_
 refine qc1 (λf=>∃d k,f=[Ad z a.C3 n wr c,.l e (O6 n.toNat g),d,k]) (λK m=>?_) ?_;{refine qU9 (Ay rfl qe0) (J0 ⋯ ⋯) ?_;refine qd4 (λ_ f=>∃d k,f=[Ad z a.C3 n wr c,.l e (O6 n.toNat g),d,k]) _ 0 _ ⟨_,_,rfl⟩ ?_ λf h=>m _ h;rintro j x t f ⟨d,k,rfl⟩ K m;obtain⟨u,rfl⟩:=qT2 t;refine qb0 [Ad z a.C3 n wr c,.l e (O6 n.toNat g),.int (j:Nat),.non] (λK m=>Ij (x:=Ad z a.C3 n wr c) (y:=.l e (O6 n.toNat g)) (w:=.int (j:Nat)) rfl rfl rfl rfl rfl ⟨z,n,wr,c,e,g,j,rfl,p,u,r,rfl⟩ rfl m) ?_;exact if_v (b:=false) rfl nofun λ_=>m _ ⟨_,_,rfl⟩};rintro f ⟨d,k,rfl⟩;exact qg5 (qr9 (x:=Ad z a.C3 n wr c) (y:=.l e (O6 n.toNat g)) (d:=.bl false) rfl rfl rfl ⟨z,n,wr,c,e,g,rfl,p,s,r,rfl⟩ rfl (qa0 (a:=false) rfl (Da ∅ q)))
theorem qu9:qa8 ["self", "plan", "rooms", "held", "fault"] ["self", "plan", "rooms"] (qa3 qA5):=by walk_at "s"
def Ah(zr:Bool)(C CP:γ)(n:Int)(wr:Bool)(ps:Pr)(g:Nat->Option Int)(dn:Ds):D:=.ins zr C [("plan",Ad true CP n wr ps),("held",.l zr (O6 n.toNat g)),("done",.l zr dn)]
abbrev rA(a:Adr)(n:Int)(wr:Bool)(ps:Pr)(g:Nat->Option Int)(dn:Ds):D:=Ah false a.C4 a.C3 n wr ps g dn
abbrev kL(S:List Int):D:=.l false (O5 S)
abbrev rL(n:Int)(g:Nat->Option Int):D:=.l false (O6 n.toNat g)
section
variable{zr:Bool}{C CP:γ}{n:Int}{wr:Bool}{ps:Pr}{g:Nat->Option Int}{dn:Ds}
theorem qe9:D.fld C "plan" (Ah zr C CP n wr ps g dn)=some (Ad true CP n wr ps):=qG8 (by rfl)
theorem qo3:D.fld C "held" (Ah zr C CP n wr ps g dn)=some (.l zr (O6 n.toNat g)):=qG8 (by rfl)
theorem qW6:D.fld C "done" (Ah zr C CP n wr ps g dn)=some (.l zr dn):=qG8 (by rfl)
theorem qd2(h:([("plan",Ad true CP n wr ps),("held",.l zr (O6 n.toNat g)),("done",.l zr dn)]:List (Str×D)).lookup m=none):(Ah zr C CP n wr ps g dn).isM C m=true:=qay9 h
end
theorem qu1:D.fidx C "held" (Ah zr C CP n wr ps g dn)=some 1:=by show (if C=C then List.findIdx? (λq:Str×D=>("held" : Str)==q.1) [("plan",Ad true CP n wr ps),("held",.l zr (O6 n.toNat g)),("done",.l zr dn)] else none)=_;rw[if_pos rfl];rfl
theorem qbc4{w:V}(h:Bc ds i p=some (.hole w)):bk1 i p w d0 ds=some (Bj ds i p d0):=by unfold bk1 Aq;rw[h];simp only[if_true];unfold Aq;rfl
theorem qat2{f:Str}(h:te ds (λd ds1=>orF (pf ds1) λq=>orF ((Bc ds1 q.1 q.2).bind (D.ownI C)) λfs=>fs.length<100/\e.nx (Bj ds1 q.1 q.2 (.ins false C (Fd f d fs)))) e.xe):sFldV C f te pf e ds:=h
theorem mv_to(h:rdN i ds=some d)(q:Q d (ds.set i .u)):tMv i ds Q xe:=qa0 h q
def qab4(C CP:γ):VSp:=λds Q _=>∃n wr ps r g S,ds=[.ins false C [],Ad true CP n wr ps,r]/\1<=n/\n<=64/\(∀k∈S,An k)/\Kept n.toNat wr (O3 n ps) g S/\(r=.non/\g=(λ_=>none)∨∃z,r=.l z (O6 n.toNat g))/\Q .non [Ah false C CP n wr ps g [],Ad true CP n wr ps,r]
theorem qG1(T:Txt K mg a):VFn P w K mg base 10 a.f24 a.d24 ["self", "plan", "rooms"] (qab4 a.C4 a.C3):=by
 refine VFn.mkE T.d24.F qu9 (wOf [true,true,true]) (λj Q Q' k o p _ h=>by obtain⟨n,wr,c,r,g,S,e,s,t,u,v,A,q⟩:=h;exact⟨n,wr,c,r,g,S,e,s,t,u,v,A,p _ _ q⟩) (λj Q k h=>by obtain⟨n,wr,c,r,g,S,e,_⟩:=h;rw[e];rfl) (λj Q k h=>by obtain⟨n,wr,c,r,g,S,e,_⟩:=h;rw[e];rfl) (λ_ _ _ _ _ _ _ i=>⟨_,(Ab (sif (Br (tv (vbi (qaI7 T.D2 T.C6.cl) qbb8.ops T.C8 (qa2 (vnm 1) (qa2 (vcls a.C3 T.C6.m) qa6 rfl) rfl)))) (Aj qm5) A4) (Ab (sif (Hy (q2 (As qk3 (qa9 _)) qo8 (vnm 2) Bf) (Fq (Br (tv (vbi qi5 qK8.ops T.C8 (qa2 (vnm 2) (qa2 (vty "list" T.Ce) qa6 rfl) rfl)))))).te (Aj qm5) A4) (Ab (Am 3 qu9.nd (eif (q2 (As Ei (qa9 _)) Ew (vnm 2) Bf) (qa5 (v2 (Al qB2) qB1 (Bz (qa2 Bf qa6 rfl)) (Bd rfl (vnm 1) T.C6.cl T.C7))) (qa5 (E9 qe3 qx6.ops T.Ce (qa2 (vnm 2) qa6 rfl))))) (Ab (Am 4 qu9.nd (Ak T.d16 (qac4 T) qa1 (rm i) (vaN 1 (vaN 3 Ac)))) (Ab (sif (q2 (As qk3 (qa9 _)) qo8 (vnm 4) Bf) (Aj qm5) A4) (Ab (Gm rfl (vpn 0) (qb3 (vnm 1)) T.C5.cl T.C9) (Ab (Gm rfl (vpn 0) (emv 3) T.C5.cl T.Ca) (Aj (Gm rfl (vpn 0) (qa5 (Bz qa6)) T.C5.cl T.Cc))))))))),λj Q k h=>?_⟩);obtain⟨n,wr,c,r,g,S,rfl,B,l,C,KP,i,q⟩:=h;have D:r.known=true:=by rcases i with⟨rfl,_⟩|⟨z,rfl⟩<;>rfl
 refine Au [.ins false a.C4 [],Ad true a.C3 n wr c,r,.u,.u] rfl ?_;refine qaR4 (show gIsO a.C3 (Ad true a.C3 n wr c) (.adr a.C3)=some (.bl true) from qaG3) ?_;refine qo0 false (λQ q=>?_) nofun λ_=>?_
 {rcases i with⟨rfl,_⟩|⟨z,rfl⟩;{exact qp9 false false (λQ q=>qj9 (b:=false) (Ag rfl rfl rfl) q) nofun q};exact qp9 true false (λQ q=>qj9 (b:=true) (Ag rfl rfl rfl) q) (λ_ Q q=>qs5 (b:=true) (qU4 rfl) q) q};refine qb0 [.ins false a.C4 [],Ad true a.C3 n wr c,r,rL n g,.u] (λK f=>qd5 ?_) ?_;{rcases i with⟨rfl,rfl⟩|⟨z,rfl⟩;{exact Fw (b:=true) (Ag rfl rfl rfl) (λ_=>qn7 (Ag rfl (Ay rfl qe0) (qaj1 ⋯ l)) f) nofun};exact Fw (b:=false) (Ag rfl rfl rfl) nofun λ_=>qn7 (d:=rL n g) (show Fp (.l z (O6 n.toNat g))=_ from qh4 (qp7 _ _)) f};refine qb0 [.ins false a.C4 [],Ad true a.C3 n wr c,r,rL n g,.non] (λK f=>qd5 ?_) ?_;{exact qr9 (x:=Ad true a.C3 n wr c) (y:=rL n g) (d:=.non) rfl rfl rfl ⟨true,n,wr,c,false,g,rfl,B,l,⟨S,KP,C⟩,rfl⟩ rfl f};refine qo0 false (λQ q=>qj9 (b:=false) (Ag rfl rfl rfl) q) nofun λ_=>?_
 refine qb0 [.ins false a.C4 [("plan",Ad true a.C3 n wr c)],Ad true a.C3 n wr c,r,rL n g,.non] (λK f=>qat2 (qn9 (d:=Ad true a.C3 n wr c) rfl rfl (qa0 (a:=(0,[])) rfl (qa0 qi7 ⟨∅,f⟩)))) ?_;refine qb0 [.ins false a.C4 [("plan",Ad true a.C3 n wr c),("held",rL n g)],Ad true a.C3 n wr c,r,.u,.non] (λK f=>qat2 (mv_to (d:=rL n g) rfl (qa0 (a:=(0,[])) rfl (qa0 qi7 ⟨by show 1<100;decide,f⟩)))) ?_;exact qat2 (qn7 (d:=.l false []) rfl (qa0 (a:=(0,[])) rfl (qa0 qi7 ⟨by show 2<100;decide,q⟩)))
theorem qS5:qa8 ["plan", "keys", "room"] ["plan", "keys", "room"] (qa3 qv5):=by walk_at "s"
def qR6(C:γ):VSp:=A5 λds d=>∃z n wr ps z' ks r,ds=[Ad z C n wr ps,.l z' (O5 ks),.int r]/\1<=n/\(∀k∈ks,An k)/\ks.length<=1000/\d=.bl (if wr=true then decide (r=0)&&decide (n<(ks.length:Int)) else decide (n-r<((ks.filter λk=>decide (r<=qb4 n ps k)).length:Int)))
theorem qT7(T:Txt K mg a):VFn P w K mg base 5 a.f17 a.d17 ["plan", "keys", "room"] (qR6 a.C3):=by refine VFn.mk2 T.d17.F qS5 (wOf [true,true,true]) qb2 (by walk_at "l") (λ_ _ _ _ _ _ _ m=>⟨_,(Ab (sif (tv (Bd rfl (vnm 0) T.C6.cl T.Cb)) (Aj (Av (qa5 (vand (v2 (A6 (qm6 m.u64) (qa9 _)) Bq (vnm 2) Af) (vone (v2 (A6 Bs (qa9 _)) Dg (vbi qC8 qC7.ops T.Cj (qa2 (vnm 1) qa6 rfl)) (Bd rfl (vnm 0) T.C6.cl T.C7))))))) A4) (Aj (Av (e2v (A6 Bs (qa9 _)) Dg (ebi qC8 qC7.ops T.Cj (Ev (vaV (ecN (NY:=["key", "room", "plan"]) (src:=[none,some 2,some 0]) 1 (blk (λo C s H0 t=>(A9 0 (show (["key", "room", "plan"]:List Str).Nodup by decide +kernel))) (λo C s H0 t=>(Eo (q2v (A6 G7 (qa9 _)) (As G7 (qa9 _)) Jf (qm0 2 T.d9 T.C6.cl (qi1 T) L2.qa1 (rm m) (vaN 0 Ac)) (vnm 1)))) (λo C s H0 t=>(qb3 (vnm 0))))) Ac))) (v2 (Al qr0) qq9 (Bd rfl (vnm 0) T.C6.cl T.C7) (vnm 2)))))),λE Q G h=>?_⟩);obtain⟨d,⟨z,n,wr,b,f,c,r,rfl,u,v,H,rfl⟩,q⟩:=h;refine Au [Ad z a.C3 n wr b,.l f (O5 c),.int r] rfl ?_;refine qm7 wr (Ay rfl qo5) (λh=>?_) λh=>?_;{rw[if_pos h] at q;have g:f2 gGt (Bh (fx1 Fj) (Ba (rdN 1) λ_=>some [])) (f1 (D.fld a.C3 "rooms") (rdN 0)) [Ad z a.C3 n wr b,.l f (O5 c),.int r]=some (.bl (decide (n<(c.length:Int)))):=Ag (qC0 rfl) (Ay rfl qe0) (by rw[qg6];rfl);exact qi0 _ (qaz7 (a:=decide (r=0)) rfl g) q};rw[if_neg (by rw[h];decide)] at q;refine qg5 ?_;refine⟨qd0 c,?_⟩;refine qh3 (λι=>∃d,ι=[d,.int r,Ad z a.C3 n wr b]) (E3 λk=>decide (r<=qb4 n b k)) (O5 c) [] _ (by show 0+(O5 c).length<big;rw[qg6];unfold big;lia) ⟨_,rfl⟩ ?_ ?_;{rintro y A ι i ⟨d,rfl⟩ R B e;obtain⟨k,j,rfl⟩:=zAx.mp A;refine qO2 (p:=Ad z a.C3 n wr b) (x:=.int k) (d:=.int (qb4 n b k)) rfl (qf8 rfl) rfl rfl ⟨z,n,wr,b,k,rfl,u,v k j,rfl⟩ rfl ?_;have this:=B _ ⟨.int k,rfl⟩;refine qa0 (a:=D.bl (decide (r<=qb4 n b k))) rfl (qa0 (a:=decide (r<=qb4 n b k)) rfl (ite_b (λh=>?_) λh=>?_));{rw[qX9 (p:=λk=>decide (r<=qb4 n b k)) h] at this;exact⟨rfl,e,this⟩};rw[qY0 (p:=λk=>decide (r<=qb4 n b k)) h] at this;have this:R (i++[]) _:=this;rw[zAd] at this;exact this};rintro ι ⟨d,rfl⟩;rw[zAz,qC1];refine qa0 (a:=D.bl (decide (n-r<((c.filter λk=>decide (r<=qb4 n b k)).length:Int)))) ?_ q;show (f2 gSub (f1 (D.fld a.C3 "rooms") (rdN 0)) (rdN 2) [Ad z a.C3 n wr b,.l f (O5 c),.int r]).bind (gGt (D.int ((O5 (c.filter λk=>decide (r<=qb4 n b k))).length:Nat)))=_;rw[Ag (Ay rfl qe0) rfl rfl,qg6];rfl
theorem qp3:qa8 ["plan", "keys", "room"] ["plan", "keys"] (qa3 qk9):=by walk_at "s"
def qP5(n:Int)(wr:Bool)(ps:Pr)(ks:List Int)(r:Int):Bool:=if wr=true then decide (r=0)&&decide (n<(ks.length:Int)) else decide (n-r<((ks.filter λk=>decide (r<=qb4 n ps k)).length:Int))
def qZ4(n:Int)(wr:Bool)(ps:Pr)(ks:List Int):Option Nat:=(Lr n.toNat).find? λr=>qP5 n wr ps ks (r:Int)
noncomputable def natD:Option Nat->D|none=>.non|some k=>.int (k:Int)
def qD4(C:γ):VSp:=A5 λds d=>∃z n wr ps z' ks,ds=[Ad z C n wr ps,.l z' (O5 ks)]/\1<=n/\n<=64/\(∀k∈ks,An k)/\ks.length<=1000/\d=natD (qZ4 n wr ps ks)
theorem qE3(T:Txt K mg a):VFn P w K mg base 6 a.f18 a.d18 ["plan", "keys"] (qD4 a.C3):=by
 refine VFn.mk2 T.d18.F qp3 (wOf [true,true]) qb2 (by walk_at "l") (λ_ _ _ _ _ _ _ t=>⟨_,(Ab (qS2 N9 T.Ci (Ev (vaV (qb3 (Bd rfl (vnm 0) T.C6.cl T.C7)) Ac)) (A9 2 qp3.nd) (Aj (sif (te (Ak T.d17 (qT7 T) qa1 (rm t) (vaN 0 (vaN 1 (vaN 2 Ac))))) (Aj (Av (emv 2))) A4))) (Aj (Av (qa5 Bf)))),λg Q u h=>?_⟩);obtain⟨d,⟨z,n,wr,c,o,f,rfl,v,E,A,B,rfl⟩,q⟩:=h;refine Au [Ad z a.C3 n wr c,.l o (O5 f),.u] rfl ?_;refine qc1 (λg=>(∀i,i<n.toNat->qP5 n wr c f (i:Int)=false)/\∃d,g=[Ad z a.C3 n wr c,.l o (O5 f),d]) (λK p=>?_) ?_;{refine qU9 (Ay rfl qe0) (J0 ⋯ ⋯) ?_;refine qd4 (λi g=>(∀j,j<i->qP5 n wr c f (j:Int)=false)/\∃d,g=[Ad z a.C3 n wr c,.l o (O5 f),d]) _ 0 _ ⟨λj r=>absurd r (zCx _),_,rfl⟩ ?_ ?_;{rintro j x C g ⟨k,d,rfl⟩ K p;rw[zAe] at k p;obtain⟨r,rfl⟩:=qT2 C;refine if_e (b:=qP5 n wr c f (j:Int)) (λQ u q=>Ij (x:=Ad z a.C3 n wr c) (y:=.l o (O5 f)) (w:=.int (j:Int)) rfl rfl rfl rfl rfl ⟨z,n,wr,c,o,f,_,rfl,v,A,B,rfl⟩ rfl q) (λs=>?_) (λs=>?_);{have e:qZ4 n wr c f=some j:=List.find?_range_eq_some.mpr ⟨s,zAq.mpr r,λi m=>by rw[k i m];rfl⟩;rw[e] at q;exact q};refine p _ ⟨λi m=>?_,_,rfl⟩;rcases Nat.lt_succ_iff_lt_or_eq.mp m with h|rfl;{exact k i h};exact s};rintro g ⟨k,D⟩;refine p _ ⟨λi m=>k i ?_,D⟩;unfold Ee;rw[zA5,zB4,zAe];exact m};rintro g ⟨k,d,rfl⟩;have e:qZ4 n wr c f=none:=List.find?_range_eq_none.mpr λi m=>by rw[k i m];rfl
 rw[e] at q;exact q
theorem qp2:qa8 ["plan", "keys", "room"] ["plan", "keys"] (qa3 qk7):=by walk_at "s"
theorem _root_.Row.Kept.perm(KP:Kept n wr hm g S):((Lr n).filterMap g).Perm S:=by refine(Mo ?_ KP.h.1).mpr λk=>?_;{refine List.pairwise_filterMap.mpr (List.Pairwise.imp_of_mem (R:=(·≠·)) (λ{i j} a d f b l m c e=>?_) Mq);subst e;exact f (KP.o.inj i j b (zAq.mp a) (zAq.mp d) l c)};rw[KP.h.2 k,zCu];exact⟨λ⟨i,a,e⟩=>⟨i,zAq.mp a,e⟩,λ⟨i,a,e⟩=>⟨i,zAq.mpr a,e⟩⟩
def qN9(n:Int)(wr:Bool)(ps:Pr)(ks:List Int):Prop:=∀r:Nat,r<n.toNat->qP5 n wr ps ks (r:Int)=false
theorem qV3(h:qN9 n wr ps ks):qZ4 n wr ps ks=none:=List.find?_range_eq_none.mpr λi a=>by rw[h i a];rfl
theorem qau2(h1:1<=n)(a:r<n.toNat):qP5 n wr ps ks (r:Int)=true↔Crowd n.toNat wr (O3 n ps) ks r:=by
 unfold qP5 Crowd;cases wr with
 |true=>simp only[if_true,zBq,zBd];lia|false=>
  have e:(ks.filter λk=>decide ((r:Int)<=qb4 n ps k))=ks.filter λk=>decide (r<=O3 n ps k):=by apply Ma;intro k _;have:=qO9 (ps:=ps) h1 k;apply zC2.mpr;lia
  simp only[zCw,if_false,e,zBd];lia
theorem qN9.of(h1:1<=n)(h:∀q,¬Crowd n.toNat wr (O3 n ps) ks q):qN9 n wr ps ks:=λr a=>by
 cases e:qP5 n wr ps ks (r:Int) with
 |false=>rfl
 |true=>exact absurd ((qau2 h1 a).mp e) (h r)
def qD2(C:γ):VSp:=A5 λds d=>∃z n wr ps z' ks,ds=[Ad z C n wr ps,.l z' (O5 ks)]/\1<=n/\n<=64/\(∀k∈ks,An k)/\ks.length<=1000/\qN9 n wr ps ks/\d=.non
theorem qE1(T:Txt K mg a):VFn P w K mg base 7 a.f19 a.d19 ["plan", "keys"] (qD2 a.C3):=by refine VFn.mk2 T.d19.F qp2 (wOf [true,true]) qb2 (by walk_at "l") (λ_ _ _ _ _ _ _ g=>⟨_,(Ab (Am 2 qp2.nd (Ak T.d18 (qE3 T) qa1 (rm g) (vaN 0 (vaN 1 Ac)))) (Aj (sif (q2 (As qk3 (qa9 _)) qo8 (vnm 2) Bf) (Aj qm5) A4))),λr Q s h=>?_⟩);obtain⟨d,⟨z,n,wr,c,e,f,rfl,i,j,k,m,o,rfl⟩,q⟩:=h;refine Au [Ad z a.C3 n wr c,.l e (O5 f),.u] rfl ?_;refine qb0 [Ad z a.C3 n wr c,.l e (O5 f),.non] (λK p=>?_) ?_;{exact qr9 (x:=Ad z a.C3 n wr c) (y:=.l e (O5 f)) (d:=.non) rfl rfl rfl ⟨z,n,wr,c,e,f,rfl,i,j,k,m,by rw[qV3 o];rfl⟩ rfl p};exact if_v (b:=false) rfl nofun λ_=>q
theorem qh5:qa8 ["plan", "rooms", "key", "came", "room", "held"] ["plan", "rooms", "key"] (qa3 qA2):=by walk_at "s"
def qab1(C:γ):VSp:=λds Q _=>∃z n wr ps g S key,ds=[Ad z C n wr ps,rL n g,.int key]/\1<=n/\n<=64/\An key/\(∀k∈S,An k)/\Kept n.toNat wr (O3 n ps) g S/\¬key∈S/\(∃e,Ja n.toNat wr (O3 n ps) g key e)/\∀came g',Kept n.toNat wr (O3 n ps) g' (S++[key])->Q (.l false came) [Ad z C n wr ps,rL n g',.int key]
theorem qG0(T:Txt K mg a):VFn P w K mg base 7 a.f20 a.d20 ["plan", "rooms", "key"] (qab1 a.C3):=by
 refine VFn.mk2 T.d20.F qh5 (wOf [true,true,false]) (by walk_at "m") (by walk_at "l") (λ_ _ _ _ _ _ _ j=>⟨_,(Ab (Am 3 qh5.nd (qa5 (Bz qa6))) (Ab (Am 4 qh5.nd (qm0 0 T.d9 T.C6.cl (qi1 T) qa1 (rm j) (vaN 2 Ac))) (Ab (qaw3 N9 (q2 (As qk3 (qa9 _)) qo8 (v2 (Aw qb5) Ap (vnm 1) (vnm 4)) Bf) (Ab (Am 5 qh5.nd (qb3 (v2 (Aw qb5) Ap (vnm 1) (vnm 4)))) (Ab (sif (te (qm0 0 T.d11 T.C6.cl (qk4 T) qa1 (rm j) (vaN 4 (vaN 2 (vaN 5 Ac))))) (Ab (Be (B7 3 qr3 Oc Oe Of qc9 (vaV (qa5 (Dy (qa2 (vnm 2) (qa2 (vnm 4) qa6 rfl) rfl))) Ac))) (Ab (Fl (qb3 (vnm 2)) (En (vpn 1) (vnm 4))) (Aj (Am 2 qh5.nd (qb3 (vnm 5)))))) A4) (Aj (Am 4 qh5.nd (qa5 (v2 (Al qn5) qn4 (v2 (Al qg0) qf9 (vnm 4) Af) (Bd rfl (vnm 0) T.C6.cl T.C7)))))))) (Ab (Be (B7 3 qr3 Oc Oe Of qc9 (vaV (qa5 (Dy (qa2 (vnm 2) (qa2 (vnm 4) qa6 rfl) rfl))) Ac))) (Ab (Fl (qb3 (vnm 2)) (En (vpn 1) (vnm 4))) (Aj (Av (emv 3)))))))),λo Q J h=>?_⟩);obtain⟨z,n,wr,f,g,S,key,rfl,u,X,s,L,KP,A,⟨e,Fr⟩,q⟩:=h;have M:=Fn (ps:=f) u key;have H:∀x∈S++[key],An x:=λx v=>by rcases zA6.mp v with h|h;{exact L x h};rw[zAb.mp h];exact s
 have E:(S++[key]).Nodup:=zBj.mpr ⟨KP.h.1,(by simp),λx v y B e=>A (by rw[<-zAb.mp B,<-e];exact v)⟩;refine Au [Ad z a.C3 n wr f,rL n g,.int key,.u,.u,.u] rfl ?_;refine qb0 [Ad z a.C3 n wr f,rL n g,.int key,.l false [],.u,.u] (λK i=>i) ?_;refine qb0 [Ad z a.C3 n wr f,rL n g,.int key,.l false [],.int (O3 n f key:Nat),.u] (λK i=>?_) ?_;{exact qO2 (p:=Ad z a.C3 n wr f) (x:=.int key) (d:=.int (O3 n f key:Nat)) rfl (qf8 rfl) rfl rfl ⟨z,n,wr,f,key,rfl,u,s,by rw[qO9 u]⟩ rfl i};refine qc1 (λo=>∃g2 c r came t,o=[Ad z a.C3 n wr f,rL n g2,.int c,.l false came,.int (r:Nat),t]/\Row.Walk n.toNat wr (O3 n f) (S++[key]) key e g2 c r/\g2 r=none/\came.length<=64) (λK i=>?_) ?_;{have W0:=KP.start A Fr;refine qae1 (λm o=>∃g2 c r came t,o=[Ad z a.C3 n wr f,rL n g2,.int c,.l false came,.int (r:Nat),t]/\Row.Walk n.toNat wr (O3 n f) (S++[key]) key e g2 c r/\m=Aa n.toNat (O3 n f key) e-Aa n.toNat (O3 n f key) r/\came.length+m<=64) _ ⟨g,key,O3 n f key,[],_,rfl,W0,rfl,by have:=qj1 Fr.1 M;show 0+_<=64;lia⟩ ?_;rintro m o ⟨g2,c,r,came,t,rfl,W,rfl,N⟩ K2 G;have j:=W.hr;cases k:g2 r with|none=>refine qj9 (b:=false) (Ag (Ag rfl rfl (Du j)) rfl (by rw[k];rfl)) ?_;exact i _ ⟨g2,c,r,came,t,rfl,W,k,⋯⟩|some y=>refine qj9 (b:=true) (Ag (Ag rfl rfl (Du j)) rfl (by rw[k];rfl)) ?_;have v:wr=false->O3 n f c<=r:=λh=>(W.ln h).2.1;have B:wr=false->O3 n f y<=r:=λh=>(W.ln h).2.2 r y j k;have O:An c:=H c ((W.all c).mpr (.inl rfl));have R:An y:=H y ((W.all y).mpr (.inr ⟨r,j,k⟩));have Y:=W.lt k;have I:=W.nx k;refine Dt rfl ?_;refine qb0 [Ad z a.C3 n wr f,rL n g2,.int c,.l false came,.int (r:Nat),.int y] (λK i=>?_) ?_;{exact qw7 (d:=.int y) (Ag rfl rfl (by rw[Du j,k];rfl)) rfl i};refine qc1 (λo=>∃g3 C came3,o=[Ad z a.C3 n wr f,rL n g3,.int C,.l false came3,.int (r:Nat),.int y]/\Row.Walk n.toNat wr (O3 n f) (S++[key]) key e g3 C (Row.next n.toNat r)/\came3.length<=came.length+1) (λK i=>?_) ?_;{refine if_e (b:=qH1 n wr f (r:Nat) c y) (λQ J q=>qaZ1 (p:=Ad z a.C3 n wr f) (x:=.int (r:Nat)) (y:=.int c) (w:=.int y) rfl (qf8 rfl) rfl rfl rfl rfl rfl rfl ⟨z,n,wr,f,(r:Nat),c,y,rfl,u,⋯,⋯,O,R,rfl⟩ rfl q) (λD=>?_) (λD=>?_);{have U:=(qL3 u j v B).mp D;refine qb0 [Ad z a.C3 n wr f,rL n g2,.int c,.l false (came++[.q [.int c,.int (r:Nat)]]),.int (r:Nat),.int y] (λK i=>?_) ?_;{exact qH0 (ys:=came) (d:=.q [.int c,.int (r:Nat)]) rfl rfl (by show came.length<1000000;lia) i};refine qb0 [Ad z a.C3 n wr f,rL n (Row.set g2 r c),.int c,.l false (came++[.q [.int c,.int (r:Nat)]]),.int (r:Nat),.int y] (λK i=>?_) ?_;{refine qL7 (d:=.int c) (ys:=O6 n.toNat g2) rfl rfl rfl rfl (Ik j) ?_;rw[qH9];exact i};exact qw7 (d:=.int y) rfl rfl (i _ ⟨Row.set g2 r c,y,_,rfl,W.swap k U,by rw[zA8];exact zA3 _⟩)};exact i _ ⟨g2,c,came,rfl,W.on k (λh=>by rw[(qL3 u j v B).mpr h] at D;cases D),⋯⟩};rintro o ⟨g3,C,came3,rfl,W3,V⟩;refine qp0 (d:=.int (Row.next n.toNat r:Nat)) (Ag (Ag rfl rfl rfl) (Ay rfl qe0) (by rw[Ef ⋯,qaE9 u j])) ?_;exact G _ _ (by rw[I];lia) ⟨g3,C,_,came3,_,rfl,W3,rfl,by rw[I];lia⟩};rintro o ⟨g2,c,r,came,t,rfl,W,k,N⟩;have j:=W.hr;refine qb0 [Ad z a.C3 n wr f,rL n g2,.int c,.l false (came++[.q [.int c,.int (r:Nat)]]),.int (r:Nat),t] (λK i=>?_) ?_;{exact qH0 (ys:=came) (d:=.q [.int c,.int (r:Nat)]) rfl rfl (by show came.length<1000000;lia) i};refine qb0 [Ad z a.C3 n wr f,rL n (Row.set g2 r c),.int c,.l false (came++[.q [.int c,.int (r:Nat)]]),.int (r:Nat),t] (λK i=>?_) ?_;{refine qL7 (d:=.int c) (ys:=O6 n.toNat g2) rfl rfl rfl rfl (Ik j) ?_;rw[qH9];exact i};exact q _ _ (W.done E k)
theorem qz7:qa8 ["self"] ["self"] (qa3 qj5):=by walk_at "s"
noncomputable def Gr(y:D):Option D:=match y with|.int k=>some (.int k)|_=>none
theorem qal0(N:Nat)(g:Nat->Option Int):(O6 N g).filterMap Gr=O5 ((Lr N).filterMap g):=by unfold O6 O5;rw[Nb,List.map_filterMap];refine congrArg (λf=>Nt f (Lr N)) (funext λi=>?_);show Gr (Bk (g i))=(g i).map D.int;cases g i<;>rfl
def qz1(C CP:γ):VSp:=A5 λds d=>∃zr n wr ps g dn,ds=[Ah zr C CP n wr ps g dn]/\n<=64/\d=.l false (O5 ((Lr n.toNat).filterMap g))
theorem qf6(T:Txt K mg a):VFn P w K mg base 1 a.f26 a.d26 ["self"] (qz1 a.C4 a.C3):=by
 refine VFn.mk2 T.d26.F qz7 (wOf [true]) qb2 (by walk_at "l") (λ_ _ _ _ _ _ _ u=>⟨_,(Aj (Av (eAlt (ecP (NY:=["key"]) (src:=[none]) (Ex rfl (vpn 0) T.C5.cl T.Ca) (blk (λi C j H0 m=>(A9 0 (show (["key"]:List Str).Nodup by decide +kernel))) (λi C j H0 m=>(Eo (q2 (As qk3 (qa9 _)) qo8 (vnm 0) Bf))) (λi C j H0 m=>(qb3 (vnm 0))))) (ecL (NY:=["key"]) (src:=[none]) (qb3 (Bd rfl (vnm 0) T.C5.cl T.Ca)) (blk (λi C j H0 m=>(A9 0 (show (["key"]:List Str).Nodup by decide +kernel))) (λi C j H0 m=>(Eo (q2 (As qk3 (qa9 _)) qo8 (vnm 0) Bf))) (λi C j H0 m=>(qb3 (vnm 0)))))))),λv Q x h=>?_⟩);obtain⟨d,⟨r,n,wr,s,g,t,rfl,z,rfl⟩,q⟩:=h;refine Au [Ah r a.C4 a.C3 n wr s g t] rfl ?_;have step:∀(y:D),y∈O6 n.toNat g->∀(d:D)(c:Ds)(R:Ds->Ds->Prop),(∀ι',(∃d,ι'=[d])->R (c++(Gr y).toList) ι')->c.length<big->gNm 0 y [d] λι1=>ttV (f2 Jg (rdN 0) (kC .non)) ι1 (λb ι2=>if b=true then Bu (rdN 0) ι2 (λd ι3=>c.length<big/\R (c++[d]) ι3) (λ_ _=>False) else R c ι2) (λ_ _=>False):=λy o d c R p f=>by have this:=p [y] ⟨_,rfl⟩;refine qj6 ?_;rcases J2 o with rfl|⟨k,rfl⟩;{have this:R (c++[]) _:=this;rw[zAd] at this;exact qj9 (b:=false) (Ag rfl rfl rfl) (Da ∅ this)};exact qj9 (b:=true) (Ag rfl rfl rfl) (Dt rfl (qn9 (d:=.int k) rfl rfl ⟨f,this⟩))
 cases r with|false=>refine qg5 (.inl (qa0 (a:=(0,[1])) (by show (D.fidx a.C4 "held" (rA a n wr s g t)).map (λn=>(0,[n]))=_;rw[qu1];rfl) (qa0 (a:=D.l false (O6 n.toNat g)) rfl (qa0 (a:=O6 n.toNat g) rfl ⟨qp7 _ _,λw=>?_⟩))));refine qh3 (λι=>∃d,ι=[d]) Gr _ [] _ (by show 0+_<1000000;rw[qh2];lia) ⟨_,rfl⟩ (λy o ι c ⟨d,e⟩ R p f=>e ▸ step y o d c R p f) ?_;rintro ι ⟨d,rfl⟩;rw[qal0,zAz];exact qa0 (qbc4 rfl) q|true=>refine qg5 (.inr (qn9 (d:=.l true (O6 n.toNat g)) (Ay rfl qo3) rfl (qa0 (a:=O6 n.toNat g) rfl ⟨qp7 _ _,?_⟩)));refine qh3 (λι=>∃d,ι=[d]) Gr _ [] _ (by show 0+_<1000000;rw[qh2];lia) ⟨_,rfl⟩ (λy o ι c ⟨d,e⟩ R p f=>e ▸ step y o d c R p f) ?_;rintro ι ⟨d,rfl⟩;rw[qal0,zAz];exact q
theorem qt0:qa8 ["self", "key"] ["self", "key"] (qa3 qn2):=by walk_at "s"
noncomputable def Gs:Option Int->V|some k=>.int k|none=>.non
theorem qK2(N:Nat)(g:Nat->Option Int):flats (O6 N g)=some ((Lr N).map λi=>Gs (g i)):=by
 have:∀l:List Nat,flats (l.map λi=>Bk (g i))=some (l.map λi=>Gs (g i)):=λl=>by induction l with|nil=>rfl|cons a l b=>show ((Bk (g a)).flat.bind λv=>(flats (l.map λi=>Bk (g i))).bind λc=>some (v::c))=_;rw[b,zAy];cases g a<;>rfl
 exact this _
noncomputable def Bl(N:Nat)(g:Nat->Option Int)(k:Int):Option Nat:=(Lr N).findIdx? λi=>decide (g i=some k)
def Dk(N:Nat)(g:Nat->Option Int)(k:Int):D:=match Bl N g k with|some i=>.int (i:Nat)|none=>.non
theorem qaz8:eqV (Gs o) (.int k)=decide (o=some k):=by cases o with|none=>rfl|some a=>show decide (a=k)=_;exact zC2.mpr ⟨λh=>by rw[h],λh=>N8 h⟩
theorem qal5{k:Int}{g:Nat->Option Int}:∀l:List Nat,Dl (.int k) (l.map λi=>Gs (g i))=l.findIdx? λi=>decide (g i=some k)|[]=>rfl|a::l=>by show (if eqV (Gs (g a)) (.int k)=true then some 0 else (Dl (.int k) (l.map λi=>Gs (g i))).map (· + 1))=_;rw[qaz8,qal5 l,zCt]
theorem qaG5{k:Int}{g:Nat->Option Int}:∀l:List Nat,inV (.int k) (l.map λi=>Gs (g i))=(l.findIdx? λi=>decide (g i=some k)).isSome|[]=>rfl|a::l=>by have b:=qaG5 (k:=k) (g:=g) l;unfold inV at b ⊢;rw[zAy,zCq,b,zCt];have e:=qaz8 (o:=g a) (k:=k);cases h:decide (g a=some k) with|true=>rw[h] at e;simp[e]|false=>rw[h] at e;simp[e]
theorem qaq1(h:∀i,i<N->g i≠some k):Dk N g k=.non:=by have:Bl N g k=none:=List.findIdx?_eq_none_iff.mpr λi a=>zB3 (h i (zAq.mp a));unfold Dk;rw[this]
theorem qW5(hi:i<N)(e:g i=some k):∃j:Nat,Dk N g k=.int (j:Nat):=by unfold Dk;cases h:Bl N g k with|some j=>exact⟨j,rfl⟩|none=>have:=List.findIdx?_eq_none_iff.mp h i (zAq.mpr hi);rw[zAg e] at this;cases this
def qH5(C CP:γ):VSp:=A5 λds d=>∃zr n wr ps g dn k,ds=[Ah zr C CP n wr ps g dn,.int k]/\An k/\d=Dk n.toNat g k
theorem ql6(T:Txt K mg a):VFn P w K mg base 4 a.f28 a.d28 ["self", "key"] (qH5 a.C4 a.C3):=by
 refine VFn.mk2 T.d28.F qt0 (wOf [true,true]) qb2 (by walk_at "l") (λ_ _ _ _ _ _ _ r=>⟨_,(Ab (sif (Br (te (Ak T.d3 (qd3 T) qa1 (rm r) (vaN 1 Ac)))) (Aj qm5) A4) (Aj (Av (eif (q2 (As qI7 (by with_unfolding_all rfl)) Fo (vnm 1) (Bd rfl (vnm 0) T.C5.cl T.Ca)) (qa5 (vbm qaO3 Oc Oh Oj qU1 (Bd rfl (vnm 0) T.C5.cl T.Ca) (vnm 1) qaz1)) (qa5 Bf))))),λu Q s h=>?_⟩);obtain⟨d,⟨f,n,wr,o,g,p,k,rfl,t,rfl⟩,q⟩:=h;refine Au [Ah f a.C4 a.C3 n wr o g p,.int k] rfl ?_;refine Fv (λQ s q=>Ii (x:=.int k) (d:=.bl true) rfl (Il t) rfl q) (qg5 ?_);have m:f2 (Jh false) (rdN 1) (f1 (D.fld a.C4 "held") (rdN 0)) [Ah f a.C4 a.C3 n wr o g p,.int k]=some (.bl (Bl n.toNat g k).isSome):=by refine Ag (x:=.int k) (y:=.l f (O6 n.toNat g)) rfl (Ay rfl qo3) ?_;show ((flats (O6 n.toNat g)).bind λb=>some (D.bl (if false=true then !inV (.int k) b else inV (.int k) b)))=_;rw[qK2];show some (D.bl (inV (.int k) _))=_;rw[qaG5];rfl
 refine Fw m (λh=>?_) λh=>?_;{obtain⟨i,c⟩:=zBb.mp h;refine qn7 (d:=.int (i:Nat)) (Ag (Ay rfl qo3) rfl ?_) ?_;{show ((some (V.int k)).bind λv=>(flats (O6 n.toNat g)).bind λb=>(Dl v b).map λj=>D.int (j:Nat))=_;rw[qK2];show (Dl (.int k) _).map _=_;rw[qal5];show (Bl n.toNat g k).map _=_;rw[c];rfl};unfold Dk at q;rw[c] at q;exact q};refine qn7 (d:=.non) rfl ?_;have c:Bl n.toNat g k=none:=by cases e:Bl n.toNat g k with|none=>rfl|some i=>rw[e] at h;cases h
 unfold Dk at q;rw[c] at q;exact q
theorem qag3:qa8 ["self", "key"] ["self", "key"] (qa3 qI2):=by walk_at "s"
theorem qK4:D.fidx C "done" (Ah false C CP n wr ps g dn)=some 2:=by show (if C=C then List.findIdx? (λq:Str×D=>("done" : Str)==q.1) [("plan",Ad true CP n wr ps),("held",rL n g),("done",.l false dn)] else none)=_;rw[if_pos rfl];rfl
def qaf5(C CP:γ):VSp:=λds Q _=>∃n wr ps g dn S k,ds=[Ah false C CP n wr ps g dn,.int k]/\1<=n/\n<=64/\An k/\(∀x∈S,An x)/\Kept n.toNat wr (O3 n ps) g S/\¬k∈S/\(∀q,¬Crowd n.toNat wr (O3 n ps) (S++[k]) q)/\dn.length<=1000/\∀came g',Kept n.toNat wr (O3 n ps) g' (S++[k])->Q (.l false came) [Ah false C CP n wr ps g' (dn++[.q [.str "put",.int k]]),.int k]
theorem qN5(T:Txt K mg a):VFn P w K mg base 8 a.f29 a.d29 ["self", "key"] (qaf5 a.C4 a.C3):=by
 refine VFn.mk2 T.d29.F qag3 (wOf [true,true]) (by walk_at "m") (by walk_at "l") (λ_ _ _ _ _ _ _ r=>⟨_,(Ab (sif (q2v (A6 qk3 (qa9 _)) (As qk3 (qa9 _)) qo8 (qm0 0 T.d28 T.C5.cl (ql6 T) qa1 (rm r) (vaN 1 Ac)) Bf) (Aj qm5) A4) (Ab (Be (Ak T.d19 (qE1 T) qa1 (rm r) (vaV (qb3 (Bd rfl (vnm 0) T.C5.cl T.C9)) (vaV (e2v (Al qg0) qf9 (qi9 0 T.d26 T.C5.cl (qf6 T) qa1 (rm r)) (Bz (qa2 (vnm 1) qa6 rfl))) Ac)))) (Ab (Be (emutP qr3 Oc Oe Of qc9 (Ex rfl (vpn 0) T.C5.cl T.Cc) (vaV (qa5 (Dy (qa2 Dx (qa2 (vnm 1) qa6 rfl) rfl))) Ac))) (Aj (Av (Ak T.d20 (qG0 T) qa1 (rm r) (vaV (qb3 (Bd rfl (vnm 0) T.C5.cl T.C9)) (vaB (Ex rfl (vpn 0) T.C5.cl T.Ca) (vaN 1 Ac))))))))),λL Q M h=>?_⟩);obtain⟨n,wr,b,g,f,S,k,rfl,s,t,u,A,KP,j,C,H,q⟩:=h;have E:=KP.perm;have N:((Lr n.toNat).filterMap g).length<=64:=by have:=zBz g (Lr n.toNat);rw[zB4] at this;lia
 refine Au [rA a n wr b g f,.int k] rfl ?_;refine qo0 false (λQ q=>qA9 ?_) nofun λ_=>?_
 {refine qO2 (p:=rA a n wr b g f) (x:=.int k) (d:=.non) rfl (qd2 rfl) rfl rfl ⟨false,n,wr,b,g,f,k,rfl,u,(qaq1 λi I e=>j ((KP.h.2 k).mpr ⟨i,I,e⟩)).symm⟩ rfl ?_;exact qa0 (a:=D.bl false) rfl (qa0 (a:=false) rfl q)};refine qb0 [rA a n wr b g f,.int k] (λK v=>qf2 (qg7 ?_)) ?_;{refine qb8 (y:=Ad true a.C3 n wr b) (Ay rfl qe9) rfl (qd7 (qR1 ?_));refine qt6 (p:=rA a n wr b g f) (d:=kL ((Lr n.toNat).filterMap g)) rfl (qd2 rfl) ⟨false,n,wr,b,g,f,rfl,t,rfl⟩ rfl ?_;refine qa0 (a:=D.l false (O5 ((Lr n.toNat).filterMap g++[k]))) (qav6 (z:=false) (z':=false) (B:=[k]) (by show _+1<=1000;lia)) (qb6 ?_);refine⟨_,⟨true,n,wr,b,false,_,rfl,s,t,λx J=>?_,by rw[zA8];show _+1<=1000;lia,qN9.of s λq c=>C q (c.perm (E.append_right [k])),rfl⟩,v⟩;rcases zA6.mp J with h|h;{exact A x (E.subset h)};rw[zAb.mp h];exact u};refine qb0 [rA a n wr b g (f++[.q [.str "put",.int k]]),.int k] (λK v=>qf2 ?_) ?_;{refine qaj0 (i:=0) (p:=[2]) (ys:=f) (d0:=rA a n wr b g f) (by show (D.fidx a.C4 "done" (rA a n wr b g f)).map (λn=>(0,[n]))=_;rw[qK4];rfl) rfl rfl ?_;exact qk0 (y:=.q [.str "put",.int k]) rfl (qb6 (qa0 (a:=(f++[D.q [.str "put",.int k]],D.non)) (if_pos (show f.length<big by unfold big;lia)) v))};generalize f++[.q [.str "put",.int k]]=o at q ⊢;refine qg5 (qg7 (qb8 (y:=Ad true a.C3 n wr b) (Ay rfl qe9) rfl ?_));refine qa0 (a:=(0,[1])) (by show (D.fidx a.C4 "held" (rA a n wr b g o)).map (λn=>(0,[n]))=_;rw[qu1];rfl) (qa0 (a:=D.l false (O6 n.toNat g)) rfl ⟨rfl,λw=>?_⟩);refine qc0 (x:=.int k) rfl (qb6 (qa0 (a:=D.int k) rfl ?_));refine⟨true,n,wr,b,g,S,k,rfl,s,t,u,A,KP,j,?_,λcame G K'=>?_⟩;{by_cases h:∃e,Ja n.toNat wr (O3 n b) g k e;{exact h};obtain⟨q,c⟩:=KP.crowd λe z=>h ⟨e,z⟩;exact absurd c (C q)};refine qa0 (a:=[rA a n wr b G o,.int k]) ?_ (q came G K');show Aq (.pl 0 [1] w::_) _ _=_;rw[qd1 rfl];rfl
theorem qI0:qa8 ["plan", "room"] ["plan", "room"] (qa3 qn1):=by walk_at "s"
def qs8(C:γ):VSp:=A5 λds d=>∃z n wr ps r,ds=[Ad z C n wr ps,.int r]/\d=(if r<n-1 then .int (r+1) else if wr=true then .int 0 else .non)
theorem qt3(T:Txt K mg a):VFn P w K mg base 1 a.f21 a.d21 ["plan", "room"] (qs8 a.C3):=by refine VFn.mk2 T.d21.F qI0 (wOf [true,true]) qb2 (by walk_at "l") (λ_ _ _ _ _ _ _ e=>⟨_,(Ab (sif (q2 (As Iw (qa9 _)) Je (vnm 1) (v2 (Al qr0) qq9 (Bd rfl (vnm 0) T.C6.cl T.C7) Af)) (Aj (Av (qa5 (v2 (Al qg0) qf9 (vnm 1) Af)))) A4) (Aj (Av (eif (tv (Bd rfl (vnm 0) T.C6.cl T.Cb)) (qa5 Af) (qa5 Bf))))),λf Q g h=>?_⟩);obtain⟨d,⟨z,n,wr,c,r,rfl,rfl⟩,q⟩:=h;refine Au [Ad z a.C3 n wr c,.int r] rfl ?_;refine qm7 (decide (r<n-1)) (Ag rfl (Ag (Ay rfl qe0) rfl rfl) rfl) (λh=>?_) λh=>?_;{rw[if_pos (zAi h)] at q;exact qi0 (.int (r+1)) rfl q};rw[if_neg (zBp h)] at q;refine qg5 (Fw (b:=wr) (Ay rfl qo5) (λh=>?_) (λh=>?_));{rw[if_pos h] at q;exact qn7 (d:=.int 0) rfl q};rw[if_neg (by rw[h];decide)] at q;exact q
theorem qz6:qa8 ["plan", "rooms", "room"] ["plan", "rooms", "room"] (qa3 qj3):=by walk_at "s"
def qz0(C:γ):VSp:=A5 λds d=>∃z n wr ps z' g x,ds=[Ad z C n wr ps,.l z' (O6 n.toNat g),x]/\1<=n/\(x=.non/\d=.bl false∨∃r:Nat,r<n.toNat/\x=.int (r:Nat)/\(g r=none/\d=.bl false∨∃k,g r=some k/\An k/\(wr=false->O3 n ps k<=r)/\d=.bl (decide (0<Aa n.toNat (O3 n ps k) r))))
theorem qB3(T:Txt K mg a):VFn P w K mg base 6 a.f22 a.d22 ["plan", "rooms", "room"] (qz0 a.C3):=by refine VFn.mk2 T.d22.F qz6 (wOf [true,true,true]) qb2 (by walk_at "l") (λ_ _ _ _ _ _ _ c=>⟨_,(Aj (Av (F8 (qa5 (v2 (A6 qk3 (qa9 _)) qo8 (vnm 2) Bf)) (F8 (qa5 (v2 (A6 qk3 (qa9 _)) qo8 (v2 (Aw qb5) Ap (vnm 1) (vnm 2)) Bf)) (Ia (e2v (A6 Bs (qa9 _)) Dg (qm0 0 T.d10 T.C6.cl (qk5 T) qa1 (rm c) (vaV (qb3 (v2 (Aw qb5) Ap (vnm 1) (vnm 2))) (vaN 2 Ac))) Af)))))),λi Q j h=>?_⟩);obtain⟨d,⟨z,n,wr,b,e,g,x,rfl,f,h⟩,q⟩:=h;refine Au [Ad z a.C3 n wr b,.l e (O6 n.toNat g),x] rfl ?_;rcases h with⟨rfl,rfl⟩|⟨r,c,rfl,h⟩;{exact qg5 (Ff false rfl nofun λ_=>q)};rcases h with⟨hg,rfl⟩|⟨k,hg,hk,hl,rfl⟩;{exact qg5 (Ff true rfl (λ_=>Ff false (Ag (Ag rfl rfl (Du c)) rfl (by rw[hg];rfl)) nofun λ_=>q) nofun)};refine qg5 (Ff true rfl (λ_=>Ff true (Ag (Ag rfl rfl (Du c)) rfl (by rw[hg];rfl)) (λ_=>qR1 ?_) nofun) nofun);refine qE6 (p:=Ad z a.C3 n wr b) rfl (qf8 rfl) (qb8 (y:=.int k) (Ag rfl rfl (by rw[Du c,hg];rfl)) rfl (qc0 (x:=.int (r:Nat)) rfl (qb6 (qa0 (a:=D.int (r:Nat)) rfl (qa0 (a:=Ad z a.C3 n wr b) rfl ⟨_,⟨z,n,wr,b,k,(r:Nat),rfl,f,hk,⋯,⋯,rfl⟩,?_⟩)))));rw[qP4 f c hl];refine qa0 (a:=[Ad z a.C3 n wr b,.l e (O6 n.toNat g),.int (r:Nat)]) rfl ?_;refine qa0 (a:=D.bl (decide (0<((Aa n.toNat (O3 n b k) r:Nat):Int)))) rfl ?_;rw[zC2.mpr (show (0<((Aa n.toNat (O3 n b k) r:Nat):Int))↔0<Aa n.toNat (O3 n b k) r by lia)];exact q
theorem qh7:qa8 ["plan", "rooms", "room", "came", "behind"] ["plan", "rooms", "room"] (qa3 qv4):=by walk_at "s"
noncomputable def qx7(N:Nat)(wr:Bool)(p:Nat):D:=if p+1<N then .int (p+1:Nat) else if wr=true then .int 0 else .non
theorem qav2(a:1<=n)(b:p<n.toNat):(if ((p:Nat):Int)<n-1 then D.int (((p:Nat):Int)+1) else if wr=true then D.int 0 else D.non)=qx7 n.toNat wr p:=by unfold qx7;by_cases h:p+1<n.toNat;{rw[if_pos ⋯,if_pos h];rfl};rw[if_neg ⋯,if_neg h]
theorem qad8(a:p<N):qx7 N wr p=.int (Row.next N p:Nat)∨(qx7 N wr p=.non/\wr=false/\p+1=N):=by unfold qx7;have h:=nor N p;by_cases e:p+1<N;{rw[if_pos e];exact .inl (by rw[show Row.next N p=p+1 by lia])};rw[if_neg e];cases wr with|true=>exact .inl (by rw[if_pos rfl,show Row.next N p=0 by lia];rfl)|false=>exact .inr ⟨rfl,rfl,⋯⟩
def qR5(C:γ):VSp:=λds Q _=>∃z n wr ps g S k r,ds=[Ad z C n wr ps,rL n g,.int (r:Nat)]/\1<=n/\n<=64/\(∀x∈S,An x)/\Kept n.toNat wr (O3 n ps) g S/\r<n.toNat/\g r=some k/\∀came g',Kept n.toNat wr (O3 n ps) g' (S.filter λx=>decide (x≠k))->Q (.l false came) [Ad z C n wr ps,rL n g',.int (r:Nat)]
abbrev qq0 (z) (a:Adr) (n:Int) (wr:Bool) (ps:Pr) (r) (J) (came) (x) (nx) (p1:D):=([Ad z a.C3 n wr ps,p1,.int (rot n.toNat r J:Nat),.l false (came++[D.q [.int x,.int (rot n.toNat r J:Nat)]]),.int (nx:Nat)]:Ds)
theorem qB4(T:Txt K mg a):VFn P w K mg base 7 a.f23 a.d23 ["plan", "rooms", "room"] (qR5 a.C3):=by
 refine VFn.mk2 T.d23.F qh7 (wOf [true,true,false]) (by walk_at "m") (by walk_at "l") (λ_ _ _ _ _ _ _ b=>⟨_,(Ab (Am 3 qh7.nd (qa5 (Bz qa6))) (Ab (Fl (qa5 Bf) (En (vpn 1) (vnm 2))) (Ab (Am 4 qh7.nd (Ak T.d21 (qt3 T) qa1 (rm b) (vaN 0 (vaN 2 Ac)))) (Ab (qaw3 N9 (te (Ak T.d22 (qB3 T) qa1 (rm b) (vaN 0 (vaN 1 (vaN 4 Ac))))) (Ab (Be (B7 3 qr3 Oc Oe Of qc9 (vaV (qa5 (Dy (qa2 (v2 (Aw qb5) Ap (vnm 1) (vnm 4)) (qa2 (vnm 2) qa6 rfl) rfl))) Ac))) (Ab (Fl (qb3 (v2 (Aw qb5) Ap (vnm 1) (vnm 4))) (En (vpn 1) (vnm 2))) (Ab (Fl (qa5 Bf) (En (vpn 1) (vnm 4))) (Ab (Am 2 qh7.nd (qb3 (vnm 4))) (Aj (Am 4 qh7.nd (Ak T.d21 (qt3 T) qa1 (rm b) (vaN 0 (vaN 2 Ac)))))))))) (Aj (Av (emv 3))))))),λG Q Y h=>?_⟩);obtain⟨z,n,wr,f,g,S,k,r,rfl,I,n2,hS,KP,b,Z,q⟩:=h;refine Au [Ad z a.C3 n wr f,rL n g,.int (r:Nat),.u,.u] rfl ?_;refine qb0 [Ad z a.C3 n wr f,rL n g,.int (r:Nat),.l false [],.u] (λK t=>t) ?_;have e0:O6 n.toNat (λj=>if j=r then none else g j)=O6 n.toNat (Ax n.toNat g r 0):=qt1 λi hi=>(qz2 b hi).symm;refine qb0 [Ad z a.C3 n wr f,rL n (Ax n.toNat g r 0),.int (rot n.toNat r 0:Nat),.l false [],.u] (λK t=>?_) ?_;{refine qW2 (d:=.non) (ys:=O6 n.toNat g) rfl rfl rfl (Ik b) ?_;rw[show (O6 n.toNat g).set r .non=O6 n.toNat (λj=>if j=r then none else g j) from qag0 (o:=none),e0];rw[qag7 b] at t;exact t};have bh:∀(J:Nat)(K:Ds->Prop)(Y:XKd)(H L:D),J<n.toNat->K [Ad z a.C3 n wr f,rL n (Ax n.toNat g r J),.int (rot n.toNat r J:Nat),H,qx7 n.toNat wr (rot n.toNat r J)]->qk6 (qs8 a.C3) [] (tbN 0 (tbN 2 A7)) [Ad z a.C3 n wr f,rL n (Ax n.toNat g r J),.int (rot n.toNat r J:Nat),H,L] (λd a0=>K (a0.set 4 d)) Y:=λJ K Y H L hJ t=>
  qr9 (x:=Ad z a.C3 n wr f) (y:=.int (rot n.toNat r J:Nat)) rfl rfl rfl ⟨z,n,wr,f,_,rfl,(qav2 I (qT1 b hJ)).symm⟩ rfl t
 refine qb0 [Ad z a.C3 n wr f,rL n (Ax n.toNat g r 0),.int (rot n.toNat r 0:Nat),.l false [],qx7 n.toNat wr (rot n.toNat r 0)] (λK t=>qd5 (bh 0 _ _ _ _ ⋯ t)) ?_;refine qc1 (λG=>∃J came L,G=[Ad z a.C3 n wr f,rL n (Ax n.toNat g r J),.int (rot n.toNat r J:Nat),.l false came,L]/\Sh n.toNat (O3 n f) g r J/\Stop n.toNat wr (O3 n f) g r J) (λK t=>?_) ?_
 .refine qae1 (λm G=>∃J came,G=[Ad z a.C3 n wr f,rL n (Ax n.toNat g r J),.int (rot n.toNat r J:Nat),.l false came,qx7 n.toNat wr (rot n.toNat r J)]/\Sh n.toNat (O3 n f) g r J/\came.length=J/\m+J=n.toNat) n.toNat ⟨0,[],rfl,Sh.start b,rfl,⋯⟩ ?_;rintro m G ⟨J,came,rfl,v,hc,hm⟩ K2 a1;have hJ:=v.hJ;have hp:=qT1 b hJ;rcases qad8 (wr:=wr) hp with V|⟨V,hw,hl⟩
  .have s:=Row.qm4 hp;have M:∀x,Ax n.toNat g r J (Row.next n.toNat (rot n.toNat r J))=some x->0<Aa n.toNat (O3 n f x) (Row.next n.toNat (rot n.toNat r J))->J+1<n.toNat/\g (rot n.toNat r (J+1))=some x:=λx s A=>by by_cases p:J+1<n.toNat;{rw[qB6 b p,qz3 b p] at s;exact⟨p,s⟩};rw[qx1 b ⋯] at s A;by_cases N:0<J;{rw[qF3 b N] at s;have:=v.round KP.o KP.c b Z ⋯ s N;lia};have hz:J=0:=⋯;subst hz;rw[qz2 b b,if_pos rfl] at s;cases s
   have C:∀x,Ax n.toNat g r J (Row.next n.toNat (rot n.toNat r J))=some x->An x/\(wr=false->O3 n f x<=Row.next n.toNat (rot n.toNat r J)):=λx s=>by by_cases p:J+1<n.toNat;{have e:=qB6 b p;rw[e,qz3 b p] at s;exact⟨hS x ((KP.h.2 x).mpr ⟨_,qT1 b p,s⟩),λhw=>by rw[e];exact KP.ln hw _ x (qT1 b p) s⟩};have e:=qx1 b (show J+1=n.toNat by lia);rw[e] at s ⊢;by_cases N:0<J;{rw[qF3 b N] at s;have A:=v.round KP.o KP.c b Z ⋯ s N;exact⟨hS x ((KP.h.2 x).mpr ⟨_,Row.qm4 b,s⟩),λ_=>by rw[(qc2 (Fn I x) b).mp A];exact zA3 _⟩};have hz:J=0:=⋯;subst hz;rw[qz2 b b,if_pos rfl] at s;cases s
   generalize E:Row.next n.toNat (rot n.toNat r J)=u at s M C V;rw[V];cases B:Ax n.toNat g r J u with
   |none=>refine Ij (x:=Ad z a.C3 n wr f) (y:=rL n (Ax n.toNat g r J)) (w:=.int (u:Nat)) (d:=.bl false) rfl rfl rfl rfl rfl ⟨z,n,wr,f,false,_,_,rfl,I,.inr ⟨u,s,rfl,.inl ⟨B,rfl⟩⟩⟩ rfl ?_;exact t _ ⟨J,came,_,rfl,v,.inr λx h=>by rw[E,B] at h;cases h⟩|some x=>
    refine Ij (x:=Ad z a.C3 n wr f) (y:=rL n (Ax n.toNat g r J)) (w:=.int (u:Nat)) rfl rfl rfl rfl rfl ⟨z,n,wr,f,false,_,_,rfl,I,.inr ⟨u,s,rfl,.inr ⟨x,B,(C x B).1,(C x B).2,rfl⟩⟩⟩ rfl ?_;refine qa0 (a:=decide (0<Aa n.toNat (O3 n f x) u)) rfl (ite_b (λh=>?_) λh=>?_)
    .have A:=zAi h;obtain⟨p,O⟩:=M x B A;have R:u=rot n.toNat r (J+1):=by rw[<-E,qB6 b p]
     have U:∀H,f2 gIx (rdN 1) (rdN 4) [Ad z a.C3 n wr f,rL n (Ax n.toNat g r J),.int (rot n.toNat r J:Nat),H,.int (u:Nat)]=some (.int x):=λH=>Ag rfl rfl (by rw[Du s,B];rfl);refine qb0 (qq0 z a n wr f r J came x u (rL n (Ax n.toNat g r J))) (λK t=>qf2 ?_) ?_;{exact qH0 (ys:=came) (d:=.q [.int x,.int (rot n.toNat r J:Nat)]) rfl (qaw1 (U _) rfl rfl rfl) (by unfold big;lia) t};refine qb0 (qq0 z a n wr f r J came x u (rL n (Row.set (Ax n.toNat g r J) (rot n.toNat r J) x))) (λK t=>?_) ?_;{refine qL7 (d:=.int x) (ys:=O6 n.toNat (Ax n.toNat g r J)) (U _) rfl rfl rfl (Ik hp) ?_;rw[qH9];exact t};refine qb0 (qq0 z a n wr f r J came x u (rL n (Ax n.toNat g r (J+1)))) (λK t=>?_) ?_
     .refine qW2 (d:=.non) (ys:=O6 n.toNat (Row.set (Ax n.toNat g r J) (rot n.toNat r J) x)) rfl rfl rfl (Ik s) ?_;rw[show (O6 n.toNat (Row.set (Ax n.toNat g r J) (rot n.toNat r J) x)).set u .non=O6 n.toNat (λj=>if j=u then none else Row.set (Ax n.toNat g r J) (rot n.toNat r J) x j) from qag0 (o:=none)];have e:O6 n.toNat (λj=>if j=u then none else Row.set (Ax n.toNat g r J) (rot n.toNat r J) x j)=O6 n.toNat (Ax n.toNat g r (J+1)):=qt1 λi hi=>by rw[qaf8 b p hi,R];by_cases W:i=rot n.toNat r (J+1);{rw[if_pos W,if_pos W]};rw[if_neg W,if_neg W];by_cases X:i=rot n.toNat r J;{rw[if_pos X,X,Row.qc3,O]};rw[if_neg X,Row.qe2 X]
      rw[e];exact t
     refine qb0 [Ad z a.C3 n wr f,rL n (Ax n.toNat g r (J+1)),.int (u:Nat),.l false (came++[D.q [.int x,.int (rot n.toNat r J:Nat)]]),.int (u:Nat)] (λK t=>qw7 (d:=.int (u:Nat)) rfl rfl t) ?_;rw[R] at A ⊢;refine qd5 (bh (J+1) _ _ _ _ p (a1 (m-1) _ ⋯ ⟨J+1,_,rfl,v.step p O A,by rw[zA8,hc];rfl,⋯⟩))
    have A:=zBp h;exact t _ ⟨J,came,_,rfl,v,.inr λy h=>by rw[E] at h ⊢;rw[B] at h;cases h;lia⟩
  rw[V];refine Ij (x:=Ad z a.C3 n wr f) (y:=rL n (Ax n.toNat g r J)) (w:=.non) (d:=.bl false) rfl rfl rfl rfl rfl ⟨z,n,wr,f,false,_,_,rfl,I,.inl ⟨rfl,rfl⟩⟩ rfl ?_;exact t _ ⟨J,came,_,rfl,v,.inl ⟨hw,hl⟩⟩
 rintro G ⟨J,came,L,rfl,v,st⟩;exact qg5 (mv_to rfl (q came _ (KP.taken b Z v st)))
theorem qF6:qa8 ["self", "key", "room"] ["self", "key"] (qa3 qA4):=by walk_at "s"
def qab3(C CP:γ):VSp:=λds Q _=>∃n wr ps g dn S k,ds=[Ah false C CP n wr ps g dn,.int k]/\1<=n/\n<=64/\(∀x∈S,An x)/\Kept n.toNat wr (O3 n ps) g S/\k∈S/\dn.length<=1000/\∀(r:Nat) came g',Kept n.toNat wr (O3 n ps) g' (S.filter λx=>decide (x≠k))->Q (.q [.int (r:Nat),.l false came]) [Ah false C CP n wr ps g' (dn++[.q [.str "take",.int k]]),.int k]
theorem qaw7(h:Dk N g k=.int (j:Nat)):j<N/\g j=some k:=by unfold Dk at h;cases e:Bl N g k with|none=>rw[e] at h;cases h|some i=>rw[e] at h;have h:D.int (i:Nat)=D.int (j:Nat):=h;injection h with h;have h:i=j:=⋯;subst h;obtain⟨a,b,_⟩:=List.findIdx?_eq_some_iff_getElem.mp e;rw[zB4] at a;rw[Nc] at b;exact⟨a,zAi b⟩
theorem qw0(T:Txt K mg a):VFn P w K mg base 8 a.f30 a.d30 ["self", "key"] (qab3 a.C4 a.C3):=by
 refine VFn.mk2 T.d30.F qF6 (wOf [true,true]) (by walk_at "m") (by walk_at "l") (λ_ _ _ _ _ _ _ u=>⟨_,(Ab (Am 2 qF6.nd (qm0 0 T.d28 T.C5.cl (ql6 T) qa1 (rm u) (vaN 1 Ac))) (Ab (sif (q2 (As Ei (qa9 _)) Ew (vnm 2) Bf) (Aj qm5) A4) (Ab (Be (emutP qr3 Oc Oe Of qc9 (Ex rfl (vpn 0) T.C5.cl T.Cc) (vaV (qa5 (Dy (qa2 Dx (qa2 (vnm 1) qa6 rfl) rfl))) Ac))) (Aj (Av (Gy (vaV (qb3 (vnm 2)) (vaV (Ak T.d23 (qB4 T) qa1 (rm u) (vaV (qb3 (Bd rfl (vnm 0) T.C5.cl T.C9)) (vaB (Ex rfl (vpn 0) T.C5.cl T.Ca) (vaN 2 Ac)))) Ac)))))))),λI Q J h=>?_⟩);obtain⟨n,wr,c,g,f,S,k,rfl,C,E,v,KP,z,G,q⟩:=h;obtain⟨i,H,e⟩:=(KP.h.2 k).mp z;obtain⟨j,A⟩:=qW5 H e;obtain⟨r,s⟩:=qaw7 A;refine Au [rA a n wr c g f,.int k,.u] rfl ?_;refine qb0 [rA a n wr c g f,.int k,.int (j:Nat)] (λK t=>?_) ?_;{exact qd5 (qO2 (p:=rA a n wr c g f) (x:=.int k) (d:=.int (j:Nat)) rfl (qd2 rfl) rfl rfl ⟨false,n,wr,c,g,f,k,rfl,v k z,A.symm⟩ rfl t)};refine qo0 false (λQ q=>qj9 (b:=false) rfl q) nofun λ_=>?_
 refine qb0 [rA a n wr c g (f++[.q [.str "take",.int k]]),.int k,.int (j:Nat)] (λK t=>qf2 ?_) ?_;{refine qaj0 (i:=0) (p:=[2]) (ys:=f) (d0:=rA a n wr c g f) (by show (D.fidx a.C4 "done" (rA a n wr c g f)).map (λn=>(0,[n]))=_;rw[qK4];rfl) rfl rfl ?_;exact qk0 (y:=.q [.str "take",.int k]) rfl (qb6 (qa0 (a:=(f++[D.q [.str "take",.int k]],D.non)) (if_pos (show f.length<big by unfold big;lia)) t))};generalize f++[.q [.str "take",.int k]]=o at q ⊢;refine qg5 (qaJ9 (qb8 (y:=.int (j:Nat)) rfl rfl (qd7 (qg7 (qb8 (y:=Ad true a.C3 n wr c) (Ay rfl qe9) rfl ?_)))));refine qa0 (a:=(0,[1])) (by show (D.fidx a.C4 "held" (rA a n wr c g o)).map (λn=>(0,[n]))=_;rw[qu1];rfl) (qa0 (a:=D.l false (O6 n.toNat g)) rfl ⟨rfl,λw=>?_⟩);refine qc0 (x:=.int (j:Nat)) rfl (qb6 (qa0 (a:=D.int (j:Nat)) rfl ?_));refine⟨true,n,wr,c,g,S,k,j,rfl,C,E,v,KP,r,s,λcame B K'=>?_⟩;refine qa0 (a:=[rA a n wr c B o,.int k,.int (j:Nat)]) ?_ (qb6 ⟨lt2,q j came B K'⟩);show Aq (.pl 0 [1] w::_) _ _=_;rw[qd1 rfl];rfl
theorem qF5:qa8 ["self", "deed"] ["self"] (qa3 qA3):=by walk_at "s"
def qR3:Sp:=λvs H Q _=>∃x t,vs=[x]/\Bn H x=some t/\Q (.bl (Jc x)) H
theorem qT5(T:Txt K mg a):Eg P w K mg base CX0 1 a.f1 a.d1 ["thing"] qR3:=by
 refine T.d1.F.ok qF4 (λd H Q E h=>?_) (λf A outer s H d Q E i h=>?_);{obtain⟨x,t,rfl,_⟩:=h;rfl};obtain⟨x,t,rfl,b,q⟩:=h;refine⟨_,(qB0 (Ho (qar0 (cbi qi5 T.C8 (qc5 (pv 0) (qc5 (qaD8 "int" T.Cy) ql4))) (qaq7 (qaN4 (cbi qi5 T.C8 (qc5 (pv 0) (qc5 (qaD8 "bool" T.Ct) ql4)))))))),?_⟩;refine⟨_,rfl,x,_,t,rfl,b,∅,_,rfl,?_⟩;have g:=qaG1 b;have e2:=qas1 b;rw[g];refine ite2 (λc=>⟨_,rfl,x,_,t,rfl,b,∅,_,rfl,?_⟩) (λc=>?_);{rw[e2];cases x<;>first|exact q|(simp[Jc] at c)};have:Jc x=false:=by cases e:Jc x with|false=>rfl|true=>rw[e] at c;exact absurd rfl c
 rw[this] at q;exact q
def qs7:Sp:=λvs H Q _=>∃x t l m,vs=[x,.int l,.int m]/\Bn H x=some t/\Q (.bl (qav8 l m x)) H
theorem qt2(T:Txt K mg a):Eg P w K mg base CX0 2 a.f2 a.d2 ["thing", "least", "most"] qs7:=by refine T.d2.F.ok qk1 (λc H Q E h=>?_) (λd A outer s H c Q E e h=>?_);{obtain⟨x,t,l,m,rfl,_⟩:=h;rfl};obtain⟨x,t,l,m,rfl,f,q⟩:=h;refine⟨_,(qB0 (Ho (qar0 (Hb T.d1 (qT5 T) (rm e) (qc5 (pv 0) ql4)) (qaq7 (qah6 G6 G6 (pv 1) (pv 0) (pv 2)))))),?_⟩;refine⟨_,rfl,x,t,rfl,f,_,rfl,?_⟩;cases x with|int i=>refine iteT ⟨_,rfl,_,rfl,_,_,rfl,rfl,_,rfl,?_⟩;by_cases b:l<=i;{rw[zAg b];refine iteT ⟨_,rfl,_,_,rfl,rfl,?_⟩;have q:Q (.bl (decide (l<=i)&&decide (i<=m))) H:=q;rw[zAg b,Bool.true_and] at q;exact q};rw[zB3 b];refine iteF ?_;have q:Q (.bl (decide (l<=i)&&decide (i<=m))) H:=q;rw[zB3 b,Bool.false_and] at q;exact q|_=>exact iteF q
def qL8:Sp:=λvs H Q _=>∃x t,vs=[x]/\Bn H x=some t/\Q (.bl (numV x)) H
theorem qN1(T:Txt K mg a):Eg P w K mg base CX0 3 a.f3 a.d3 ["thing"] qL8:=by refine T.d3.F.ok qz5 (λb H Q E h=>?_) (λc A outer s H b Q E d h=>?_);{obtain⟨x,t,rfl,_⟩:=h;rfl};obtain⟨x,t,rfl,e,q⟩:=h;refine⟨_,(qB0 (Ho (Hb T.d2 (qt2 T) (rm d) (qc5 (pv 0) (qc5 qM7 (qc5 (qay0 T.Ck) ql4)))))),?_⟩;exact⟨_,rfl,x,t,_,_,rfl,e,q⟩
def Hn(C:γ)(x y:D):Option D:=match y with
 |.int k=>if (D.int k).num=true then (D.fld C "held" x).bind λl=>match l with|.l _ ys=>((flats ys).map λa=>match Dl (.int k) a with|some j=>.int (j:Nat)|none=>.non)|_=>none else none
 |_=>none
theorem qaz0{v:V}:∀a:List V,inV v a=(Dl v a).isSome|[]=>rfl|y::r=>by have b:=qaz0 (v:=v) r;unfold inV at b ⊢;rw[zCq,b];show _=(if eqV y v=true then some 0 else (Dl v r).map (· + 1)).isSome;cases eqV y v<;>simp
theorem qaq3(a:An k):Hn C (Ah zr C CP n wr ps g dn) (.int k)=some (Dk n.toNat g k):=by show (if (D.int k).num=true then (D.fld C "held" (Ah zr C CP n wr ps g dn)).bind _ else none)=_;rw[if_pos (show (D.int k).num=true from qaP3.mpr a),qo3];show (flats (O6 n.toNat g)).map _=_;rw[qK2];show some (match Dl (.int k) ((Lr n.toNat).map λi=>Gs (g i)) with|some j=>D.int (j:Nat)|none=>.non)=_;rw[qal5];rfl
theorem qE0(T:Txt K mg a):Eg P w K mg base CX0 4 a.f28 a.d28 ["self", "key"] (spPu (Hn a.C4)):=by
 refine T.d28.F.ok qt0 (λc H Q E h=>?_) (λR A outer s H c Q E S h=>?_)
 . obtain⟨F,u,x,d,e,o,A,B,w,rfl,_⟩:=h
   rfl
 obtain⟨F,u,x,d,e,o,A,B,w,rfl,U,V,b,t,q⟩:=h;cases o with
 |int k=>
   cases V;have b:(if (D.int k).num=true then (D.fld a.C4 "held" e).bind λl=>match l with
     |.l _ g=>(flats g).map λf=>match Dl (.int k) f with
       |some j=>D.int (j:Nat)
       |none=>.non
     |_=>none else none)=some d:=b
   by_cases i:(D.int k).num=true
   . rw[if_pos i] at b
     cases m:D.fld a.C4 "held" e with
     |none=>rw[m] at b;cases b
     |some l=>
     rw[m] at b;obtain⟨p,C,y,G,v,rfl,I,J,L,M,B1,W⟩:=qaO4 (K:=K) T.C5.cl T.Ca F H u e A l (λv H'=>∃B,Pa F H' v l B) U m (λv H' B' r _ _=>⟨B',r⟩);cases l with
     |l z g=>
       have b:((flats g).map λf=>match Dl (.int k) f with
         |some j=>D.int (j:Nat)
         |none=>.non)=some d:=b
       obtain⟨f,X,b⟩:=zAa.mp b;obtain⟨N,c,A3,rfl,n,Y,_⟩:=W.lst_inv;obtain⟨rfl,O⟩:=Y.flats X;refine⟨_,(qT3 (ps_if (qaM2 (qaC9 (Hb T.d3 (qN1 T) (rm S) (qc5 (pv 1) ql4))))
   (qB0 qaD1)
   qax4)
   (qB0 (Ho (qah5 (qax3 qI7 (pv 1) (qaq8 (pv 0) rfl) (by with_unfolding_all rfl)) (Ha Oc Oh Oj qU1 (qaq8 (pv 0) rfl) (qc5 (pv 1) ql4)) qaN5)))),?_⟩
       refine⟨_,rfl,.int k, "int",rfl,rfl,_,rfl,?_⟩;rw[show numV (.int k)=true from i];refine iteF ⟨_,rfl,_,rfl,p,C,y,G,_,rfl,I,J,L,M,N,c,rfl,.inl (SqL.of n),rfl,O,_,rfl,?_⟩;show if inV (.int k) c=true then _ else _
       rw[qaz0];cases e2:Dl (.int k) c with
       |some j=>
         rw[e2] at b;have b:D.int (j:Nat)=d:=b;subst b;cases t;obtain⟨Z,i1,i2,i3⟩:=qal6 e2;exact iteT ⟨_,rfl,p,C,y,G,_,rfl,I,J,L,M,.inl ⟨rfl,_,SqL.of n⟩,_,rfl,N,c,.int k,j,Z,rfl,rfl,n,rfl,O,i1,i2,i3,q⟩
       |none=>
         rw[e2] at b;have b:D.non=d:=b;subst b;cases t;exact iteF q
     |_=>cases b
   rw[if_neg i] at b;cases b
 |_=>cases b
def qab2(C CP:γ):VSp:=λds Q _=>∃n wr ps g dn S,ds=[Ah false C CP n wr ps g dn]/\1<=n/\n<=64/\(∀x∈S,An x)/\Kept n.toNat wr (O3 n ps) g S/\(dn=[]/\Q (.bl false) ds∨∃a k,An k/\(dn=a++[.q [.str "put",.int k]]/\k∈S/\(∀g',Kept n.toNat wr (O3 n ps) g' (S.filter λx=>decide (x≠k))->Q (.bl true) [Ah false C CP n wr ps g' a])∨dn=a++[.q [.str "take",.int k]]/\¬k∈S/\(∀q,¬Crowd n.toNat wr (O3 n ps) (S++[k]) q)/\∀g',Kept n.toNat wr (O3 n ps) g' (S++[k])->Q (.bl true) [Ah false C CP n wr ps g' a]))
theorem qac5(T:Txt K mg a):VFn P w K mg base 8 a.f31 a.d31 ["self"] (qab2 a.C4 a.C3):=by
 refine VFn.mk2 T.d31.F qF5 (wOf [true]) (by walk_at "m") (by walk_at "l") (λ_ _ _ _ _ _ _ B=>⟨_,(Ab (sif (q2 (As (qm6 B.u64) (qa9 _)) Bq (vbi qC8 qC7.ops T.Cj (qa2 (Bd rfl (vnm 0) T.C5.cl T.Cc) qa6 rfl)) Af) (Aj (Av (qa5 vbl))) A4) (Ab (Am 1 qF5.nd (qbb3 qaY6 Oc Ov F.type_list_pop qaY7 (Ex rfl (vpn 0) T.C5.cl T.Cc))) (Ab (sif (q2 (As (qm6 B.u64) (qa9 _)) Bq (v2 (Aw qb5) Ap (vnm 1) Af) Dx) (Aj (Be (Ak T.d23 (qB4 T) qa1 (rm B) (vaV (qb3 (Bd rfl (vnm 0) T.C5.cl T.C9)) (vaBV (Ex rfl (vpn 0) T.C5.cl T.Ca) (qaU6 0 T.d28 T.C5.cl (qE0 T) (rm B) (v2 (Aw qb5) Ap (vnm 1) Af))))))) (Aj (Be (Ak T.d20 (qG0 T) qa1 (rm B) (vaV (qb3 (Bd rfl (vnm 0) T.C5.cl T.C9)) (vaB (Ex rfl (vpn 0) T.C5.cl T.Ca) (vaV (qb3 (v2 (Aw qb5) Ap (vnm 1) Af)) Ac))))))) (Aj (Av (qa5 vbl)))))),λv Q E h=>?_⟩);obtain⟨n,wr,o,g,A,S,rfl,J,L,M,KP,h⟩:=h;have s:∀(A:Ds) N,f2 gEq (Bh (fx1 Fj) (Ba (f1 (D.fld a.C4 "done") (rdN 0)) λ_=>some [])) (kC (.int 0)) [rA a n wr o g A,N]=some (.bl (((A.length:Nat):Int)==0)):=λA N=>by refine Ag (x:=.int (A.length:Nat)) (y:=.int 0) ?_ rfl rfl;unfold Bh Ba;rw[Ay rfl qW6];rfl
 refine Au [rA a n wr o g A,.u] rfl ?_;have u:∀(f:Ds)(d:D)(K:Ds->Prop)(E:XKd),D.imm d=true->K [rA a n wr o g f,d]->E2 gPop (λv=>(D.fidx a.C4 "done" (rA a n wr o g (f++[d]))).map λn=>(0,[n])) A7 [rA a n wr o g (f++[d]),.u] (λd G=>K (G.set 1 d)) E:=λf d K E _ t=>by refine qaj0 (i:=0) (p:=[2]) (ys:=f++[d]) (d0:=rA a n wr o g (f++[d])) (by show (D.fidx a.C4 "done" (rA a n wr o g (f++[d]))).map (λn=>(0,[n]))=_;rw[qK4];rfl) rfl rfl (qb6 (qa0 (a:=(f,d)) ?_ t));show ((f++[d])[(f++[d]).length-1]?).map (λR=>((f++[d]).dropLast,R))=_;rw[zA8,show f.length+[d].length-1=f.length from rfl,zBt (zA3 _),Nat.sub_self,Mh];rfl
 rcases h with⟨rfl,q⟩|⟨f,k,hk,h⟩;{exact qm7 true (s [] _) (λ_=>qi0 (.bl false) rfl q) nofun};have C:∀d:D,((((f++[d]).length:Nat):Int)==0)=false:=λd=>by rw[zA8];exact zC9.mpr (by show ((f.length+1:Nat):Int)≠0;lia)
 rcases h with⟨rfl,hin,q⟩|⟨rfl,nin,nc,q⟩
 .refine qm7 false ((s _ _).trans (by rw[C])) nofun λ_=>?_
  refine qb0 [rA a n wr o g f,.q [.str "put",.int k]] (λK t=>qd5 (u f _ K _ rfl t)) ?_;obtain⟨i,U,e⟩:=(KP.h.2 k).mp hin;obtain⟨j,O⟩:=qW5 U e;obtain⟨H,I⟩:=qaw7 O;refine qc1 (λv=>∃r,v=[rA a n wr o r f,.q [.str "put",.int k]]/\Kept n.toNat wr (O3 n o) r (S.filter λx=>decide (x≠k))) (λK t=>if_v (b:=true) rfl (λ_=>qf2 (qg7 ?_)) nofun) ?_;{refine qb8 (y:=Ad true a.C3 n wr o) (Ay rfl qe9) rfl ?_;refine qa0 (a:=(0,[1])) (by show (D.fidx a.C4 "held" (rA a n wr o g f)).map (λn=>(0,[n]))=_;rw[qu1];rfl) ?_;refine qa0 (a:=D.l false (O6 n.toNat g)) rfl ?_;refine⟨rfl,qa0 (a:=D.int (j:Nat)) ?_ ⟨rfl,λw=>?_⟩⟩;{show (if (rA a n wr o g f).isM a.C4 "room_of"=true then (some (D.int k)).bind λy=>(Hn a.C4 (rA a n wr o g f) y).bind λd=>d.flat.map λ_=>d else none)=_;rw[if_pos (qd2 rfl)];show (Hn a.C4 (rA a n wr o g f) (.int k)).bind _=_;rw[qaq3 hk,O];rfl};refine⟨true,n,wr,o,g,S,k,j,rfl,J,L,M,KP,H,I,λcame r K'=>?_⟩;refine qa0 (a:=[rA a n wr o r f,D.q [.str "put",.int k]]) ?_ (t _ ⟨r,rfl,K'⟩);show Aq (.pl 0 [1] w::_) _ _=_;rw[qd1 rfl];rfl};rintro v ⟨r,rfl,K'⟩;exact qi0 (.bl true) rfl (q r K')
 refine qm7 false ((s _ _).trans (by rw[C])) nofun λ_=>?_
 refine qb0 [rA a n wr o g f,.q [.str "take",.int k]] (λK t=>qd5 (u f _ K _ rfl t)) ?_;refine qc1 (λv=>∃r,v=[rA a n wr o r f,.q [.str "take",.int k]]/\Kept n.toNat wr (O3 n o) r (S++[k])) (λK t=>if_v (b:=false) rfl nofun λ_=>qf2 (qg7 ?_)) ?_;{refine qb8 (y:=Ad true a.C3 n wr o) (Ay rfl qe9) rfl ?_;refine qa0 (a:=(0,[1])) (by show (D.fidx a.C4 "held" (rA a n wr o g f)).map (λn=>(0,[n]))=_;rw[qu1];rfl) ?_;refine qa0 (a:=D.l false (O6 n.toNat g)) rfl ?_;refine⟨rfl,λw=>qb8 (y:=D.int k) rfl rfl (qb6 ?_)⟩;refine⟨true,n,wr,o,g,S,k,rfl,J,L,hk,M,KP,nin,?_,λcame r K'=>?_⟩;{by_cases h:∃e,Ja n.toNat wr (O3 n o) g k e;{exact h};obtain⟨q,c⟩:=KP.crowd λe z=>h ⟨e,z⟩;exact absurd c (nc q)};refine qa0 (a:=[rA a n wr o r f,D.q [.str "take",.int k]]) ?_ (t _ ⟨r,rfl,K'⟩);show Aq (.pl 0 [1] w::_) _ _=_;rw[qd1 rfl];rfl};rintro v ⟨r,rfl,K'⟩;exact qi0 (.bl true) rfl (q r K')
theorem qq3:qa8 ["one", "other", "keys"] ["one", "other", "keys"] (qa3 qf4):=by walk_at "s"
theorem t2_to(h:ta ds (λx ds1=>tb ds1 (λy a=>orF (g x y) λd=>Q d a) xe) xe):t2 g ta tb ds Q xe:=h
def qq2(C CP:γ):VSp:=A5 λds d=>∃z z' n wr b ps a g g' dn c y ks,ds=[Ah z C CP n wr ps g dn,Ah z' C CP n b a g' c,.l y (O5 ks)]/\1<=n/\(∀k∈ks,An k)/\ks.length<=1000/\(∀k∈ks,qb4 n ps k=qb4 n a k)/\d=.bl true
theorem qr2(T:Txt K mg a):VFn P w K mg base 5 a.f34 a.d34 ["one", "other", "keys"] (qq2 a.C4 a.C3):=by refine VFn.mk2 T.d34.F qq3 (wOf [true,true,true]) qb2 (by walk_at "l") (λ_ _ _ _ _ _ _ s=>⟨_,(Aj (Av (ebi (qy6 rfl) qau1.ops T.Cu (Ev (vaV (ecN (NY:=["key", "one", "other"]) (src:=[none,some 0,some 1]) 2 (blk (λu C v H0 A=>(A9 0 (show (["key", "one", "other"]:List Str).Nodup by decide +kernel))) (λu C v H0 A=>Ec) (λu C v H0 A=>(e2 (A6 (qm6 s.u64) (qa9 _)) Bq (qaT0 T.d9 T.C6.cl (qi1 T) L2.qa1 (rm s) (Bd rfl (vnm 1) T.C5.cl T.C9) (vaN 0 Ac)) (qaT0 T.d9 T.C6.cl (qi1 T) L2.qa1 (rm s) (Bd rfl (vnm 2) T.C5.cl T.C9) (vaN 0 Ac)))))) Ac))))),λJ Q L h=>?_⟩);obtain⟨d,⟨z,j,n,wr,c,f,b,g,m,o,e,y,p,rfl,B,E,M,G,rfl⟩,q⟩:=h;refine Au [Ah z a.C4 a.C3 n wr f g o,Ah j a.C4 a.C3 n c b m e,.l y (O5 p)] rfl ?_;refine qg5 (Kb (qd7 (qa0 (a:=D.l y (O5 p)) rfl (qa0 (a:=O5 p) rfl ⟨qd0 p,?_⟩))));refine qh3 (λι=>∃d,ι=[d,Ah z a.C4 a.C3 n wr f g o,Ah j a.C4 a.C3 n c b m e]) (λ_=>some (.bl true)) _ [] _ (by show 0+_<1000000;rw[qg6];lia) ⟨_,rfl⟩ ?_ ?_;{rintro y H ι t ⟨d,rfl⟩ R I r;obtain⟨k,i,rfl⟩:=zAx.mp H;have this:R (t++[D.bl true]) _:=I [.int k,Ah z a.C4 a.C3 n wr f g o,Ah j a.C4 a.C3 n c b m e] ⟨_,rfl⟩;refine qj6 (qQ3 (Dt rfl (t2_to (qaj4 (d:=Ad true a.C3 n wr f) (Ay rfl qe9) rfl (qf8 rfl) (qc0 (x:=.int k) rfl (qb6 (qa0 (a:=D.int k) rfl ⟨_,⟨true,n,wr,f,k,rfl,B,E k i,rfl⟩,?_⟩)))))));refine qa0 (a:=[.int k,Ah z a.C4 a.C3 n wr f g o,Ah j a.C4 a.C3 n c b m e]) rfl ?_;refine qaj4 (d:=Ad true a.C3 n c b) (Ay rfl qe9) rfl (qf8 rfl) (qc0 (x:=.int k) rfl (qb6 (qa0 (a:=D.int k) rfl ⟨_,⟨true,n,c,b,k,rfl,B,E k i,rfl⟩,?_⟩)));refine qa0 (a:=[.int k,Ah z a.C4 a.C3 n wr f g o,Ah j a.C4 a.C3 n c b m e]) rfl (qa0 (a:=D.bl true) ?_ ⟨r,this⟩);rw[G k i];show some (D.bl (qb4 n b k==qb4 n b k))=_;rw[zBc]};rintro ι ⟨d,rfl⟩;rw[zAz,qK1];refine qb6 (qa0 (a:=D.bl true) ?_ q);rw[show fx1 gAll [D.l false ((O5 p).map λ_=>D.bl true)]=_ from qav3 (λ_=>true) _,zBi.mpr λ_ _=>rfl]
theorem qz4:qa8 ["one", "other"] ["one", "other"] (qa3 qj2):=by walk_at "s"
def qy9(C CP:γ):VSp:=A5 λds d=>∃z z' n wr ps a g g' dn b,ds=[Ah z C CP n wr ps g dn,Ah z' C CP n wr a g' b]/\1<=n/\n<=64/\(∀i k,i<n.toNat->g i=some k∨g' i=some k->An k/\qb4 n ps k=qb4 n a k)/\d=.non
theorem qn6(T:Txt K mg a):VFn P w K mg base 6 a.f35 a.d35 ["one", "other"] (qy9 a.C4 a.C3):=by
 refine VFn.mk2 T.d35.F qz4 (wOf [true,true]) qb2 (by walk_at "l") (λ_ _ _ _ _ _ _ r=>⟨_,(Ab (sif (tor (q2 (As (qr1 r.u64) (qa9 _)) Dq (Bd rfl (Bd rfl (vnm 0) T.C5.cl T.C9) T.C6.cl T.C7) (Bd rfl (Bd rfl (vnm 1) T.C5.cl T.C9) T.C6.cl T.C7)) (Ge (q2 (As (qr1 r.u64) (qa9 _)) Dq (Bd rfl (Bd rfl (vnm 0) T.C5.cl T.C9) T.C6.cl T.Cb) (Bd rfl (Bd rfl (vnm 1) T.C5.cl T.C9) T.C6.cl T.Cb)))).te (Aj qm5) A4) (Aj (sif (Br (te (Ak T.d34 (qr2 T) qa1 (rm r) (vaN 0 (vaN 1 (vaV (e2 (Al qg0) qf9 (qi9 0 T.d26 T.C5.cl (qf6 T) qa1 (rm r)) (qi9 1 T.d26 T.C5.cl (qf6 T) qa1 (rm r))) Ac)))))) (Aj qm5) A4))),λC Q D h=>?_⟩);obtain⟨d,⟨z,m,n,wr,j,b,g,f,o,c,rfl,y,s,t,rfl⟩,q⟩:=h;refine Au [Ah z a.C4 a.C3 n wr j g o,Ah m a.C4 a.C3 n wr b f c] rfl ?_;refine qo0 false (λQ q=>qF1 false false (λQ q=>qj9 (Ag (Ay (Ay rfl qe9) qe0) (Ay (Ay rfl qe9) qe0) (qU6 rfl)) q) (λ_ Q q=>qj9 (Ag (Ay (Ay rfl qe9) qo5) (Ay (Ay rfl qe9) qo5) (qU6 rfl)) q) q) nofun λ_=>?_
 have A:=zBz g (Lr n.toNat);have B:=zBz f (Lr n.toNat);rw[zB4] at A B;have u:∀k∈(Lr n.toNat).filterMap g++(Lr n.toNat).filterMap f,An k/\qb4 n j k=qb4 n b k:=λk h=>by rcases zA6.mp h with h|h<;>obtain⟨i,v,e⟩:=zCu.mp h;{exact t i k (zAq.mp v) (.inl e)};exact t i k (zAq.mp v) (.inr e)
 refine Jz false (λQ q=>(show Bw _ _ _ _ from(show ttE _ _ _ _ from ?_))) nofun λ_=>q
 refine qg7 (qc0 (x:=Ah z a.C4 a.C3 n wr j g o) rfl (qc0 (x:=Ah m a.C4 a.C3 n wr b f c) rfl (qd7 (t2_to ?_))));refine qt6 (p:=Ah z a.C4 a.C3 n wr j g o) (d:=kL ((Lr n.toNat).filterMap g)) rfl (qd2 rfl) ⟨z,n,wr,j,g,o,rfl,s,rfl⟩ rfl ?_;refine qt6 (p:=Ah m a.C4 a.C3 n wr b f c) (d:=kL ((Lr n.toNat).filterMap f)) rfl (qd2 rfl) ⟨m,n,wr,b,f,c,rfl,s,rfl⟩ rfl ?_;refine qa0 (qav6 ⋯) (qb6 (qa0 (a:=Ah m a.C4 a.C3 n wr b f c) rfl (qa0 (a:=Ah z a.C4 a.C3 n wr j g o) rfl ?_)));exact⟨_,⟨z,m,n,wr,wr,j,b,g,f,o,c,false,_,rfl,y,λk h=>(u k h).1,by rw[zA8];lia,λk h=>(u k h).2,rfl⟩,qa0 (a:=[Ah z a.C4 a.C3 n wr j g o,Ah m a.C4 a.C3 n wr b f c]) rfl (qa0 (a:=true) rfl q)⟩
theorem qag2:qa8 ["one", "other"] ["one", "other"] (qa3 qI1):=by walk_at "s"
def Bp(N:Nat)(g g':Nat->Option Int):List Int:=((Lr N).filterMap g).filter λk=>!(Bl N g' k).isSome
def qaf4(C CP:γ):VSp:=A5 λds d=>∃z z' n wr ps a g g' dn b,ds=[Ah z C CP n wr ps g dn,Ah z' C CP n wr a g' b]/\1<=n/\n<=64/\(∀i k,i<n.toNat->g i=some k∨g' i=some k->An k/\qb4 n ps k=qb4 n a k)/\d=.l false (O5 (Bp n.toNat g g'))
theorem qN3(T:Txt K mg a):VFn P w K mg base 7 a.f37 a.d37 ["one", "other"] (qaf4 a.C4 a.C3):=by
 refine VFn.mk2 T.d37.F qag2 (wOf [true,true]) qb2 (by walk_at "l") (λ_ _ _ _ _ _ _ s=>⟨_,(Ab (Be (Ak T.d35 (qn6 T) qa1 (rm s) (vaN 0 (vaN 1 Ac)))) (Aj (Av (ecL (NY:=["key", "other"]) (src:=[none,some 1]) (qi9 0 T.d26 T.C5.cl (qf6 T) qa1 (rm s)) (blk (λv C A H0 B=>(A9 0 (show (["key", "other"]:List Str).Nodup by decide +kernel))) (λv C A H0 B=>(Eo (q2v (A6 Ei (qa9 _)) (As Ei (qa9 _)) Ew (qm0 1 T.d28 T.C5.cl (ql6 T) L2.qa1 (rm s) (vaN 0 Ac)) Bf))) (λv C A H0 B=>(qb3 (vnm 0)))))))),λS Q U h=>?_⟩);obtain⟨d,⟨z,j,n,wr,m,b,g,f,o,c,rfl,H,E,G,rfl⟩,q⟩:=h;refine Au [Ah z a.C4 a.C3 n wr m g o,Ah j a.C4 a.C3 n wr b f c] rfl ?_;refine qb0 [Ah z a.C4 a.C3 n wr m g o,Ah j a.C4 a.C3 n wr b f c] (λK I=>qf2 (qr9 (x:=Ah z a.C4 a.C3 n wr m g o) (y:=Ah j a.C4 a.C3 n wr b f c) rfl rfl rfl ⟨z,j,n,wr,m,b,g,f,o,c,rfl,H,E,G,rfl⟩ rfl I)) ?_;have J:=zBz g (Lr n.toNat);rw[zB4] at J;refine qg5 (qt6 (p:=Ah z a.C4 a.C3 n wr m g o) (d:=kL ((Lr n.toNat).filterMap g)) rfl (qd2 rfl) ⟨z,n,wr,m,g,o,rfl,E,rfl⟩ rfl (qa0 (a:=O5 ((Lr n.toNat).filterMap g)) rfl ⟨qd0 _,?_⟩));refine qh3 (λι=>∃d,ι=[d,Ah j a.C4 a.C3 n wr b f c]) (E3 λk=>!(Bl n.toNat f k).isSome) _ [] _ (by show 0+_<1000000;rw[qg6];lia) ⟨_,rfl⟩ ?_ ?_
 .rintro y L ι t ⟨d,rfl⟩ R M r;obtain⟨k,u,rfl⟩:=zAx.mp L;obtain⟨i,N,e⟩:=zCu.mp u;have this:=M [.int k,Ah j a.C4 a.C3 n wr b f c] ⟨_,rfl⟩;refine qj6 (qA9 (qO2 (p:=Ah j a.C4 a.C3 n wr b f c) (x:=.int k) (d:=Dk n.toNat f k) rfl (qd2 rfl) rfl rfl ⟨j,n,wr,b,f,c,k,rfl,(G i k (zAq.mp N) (.inl e)).1,rfl⟩ rfl ?_));have O:gIs (Dk n.toNat f k) .non=some (.bl !(Bl n.toNat f k).isSome):=by unfold Dk;cases Bl n.toNat f k<;>rfl
  refine qa0 (a:=D.bl !(Bl n.toNat f k).isSome) O (qa0 (a:=!(Bl n.toNat f k).isSome) rfl (ite_b (λh=>?_) λh=>?_));{rw[qX9 (by exact h)] at this;exact qn9 (d:=.int k) rfl rfl ⟨r,this⟩};rw[qY0 (by exact h)] at this;have this:R (t++[]) _:=this;rw[zAd] at this;exact this
 rintro ι ⟨d,rfl⟩;rw[qC1,zAz];exact q
theorem qn0:qa8 ["one", "other", "takes"] ["one", "other"] (qa3 qj4):=by walk_at "s"
noncomputable def wS(p:Bool):Str:=cond p "put" "take"
def stD(st:List (Bool×Int)):Ds:=st.map λq=>.q [.str (wS q.1),.int q.2]
theorem ql7(st:List (Bool×Int)):(stD st).length=st.length:=zA5 _
theorem qi4:∀st:List (Bool×Int),D.imms (stD st)=true|[]=>rfl|q::st=>by show (true&&D.imms (stD st))=true;rw[qi4 st];rfl
def A8(N:Nat)(g g':Nat->Option Int):List (Bool×Int):=(Bp N g g').map (λk=>(false,k))++(Bp N g' g).map λk=>(true,k)
def tagF(p:Bool)(x:D):D:=match x with|.int k=>.q [.str (wS p),.int k]|d=>d
theorem qaV0(p:Bool)(L:List Int):(O5 L).map (tagF p)=stD (L.map λk=>(p,k)):=by unfold O5 stD;rw[zC3,zC3];rfl
theorem qJ3:(Bp N g g').length<=N:=by have:=zBz g (Lr N);rw[zB4] at this;exact zAl (Lw _ _) this
def qm9(C CP:γ):VSp:=A5 λds d=>∃z z' n wr ps a g g' dn b,ds=[Ah z C CP n wr ps g dn,Ah z' C CP n wr a g' b]/\1<=n/\n<=64/\(∀i k,i<n.toNat->g i=some k∨g' i=some k->An k/\qb4 n ps k=qb4 n a k)/\d=.l false (stD (A8 n.toNat g g'))
theorem qf5(T:Txt K mg a):VFn P w K mg base 8 a.f38 a.d38 ["one", "other"] (qm9 a.C4 a.C3):=by
 refine VFn.mk2 T.d38.F qn0 (wOf [true,true]) qb2 (by walk_at "l") (λ_ _ _ _ _ _ _ A=>⟨_,(Ab (scL (NY:=["key"]) (src:=[none]) 2 qn0.nd (Ak T.d37 (qN3 T) qa1 (rm A) (vaN 0 (vaN 1 Ac))) (blk (λo C r H0 s=>(A9 0 (show (["key"]:List Str).Nodup by decide +kernel))) (λo C r H0 s=>Ec) (λo C r H0 s=>(qa5 (Dy (qa2 Dx (qa2 (vnm 0) qa6 rfl) rfl)))))) (Aj (Av (e2n 2 (Al qg0) qf9 (ecL (NY:=["key"]) (src:=[none]) (Ak T.d37 (qN3 T) qa1 (rm A) (vaN 1 (vaN 0 Ac))) (blk (λo C r H0 s=>(A9 0 (show (["key"]:List Str).Nodup by decide +kernel))) (λo C r H0 s=>Ec) (λo C r H0 s=>(qa5 (Dy (qa2 Dx (qa2 (vnm 0) qa6 rfl) rfl)))))))))),λO Q S h=>?_⟩);obtain⟨d,⟨z,f,n,wr,j,c,g,b,m,e,rfl,B,E,u,rfl⟩,q⟩:=h;have U:=qJ3 (N:=n.toNat) (g:=g) (g':=b);have V:=qJ3 (N:=n.toNat) (g:=b) (g':=g);have cmp:∀(p:Bool)(w:Str)(_:w=wS p)(L:List Int)(K:Ds->Ds->Prop)(d:D),L.length<=64->(∀d,K (stD (L.map λk=>(p,k))) [d])->Dp (gNm 0) qYes (B6 (Bh gTup (Ba (kC (.str w)) (Ba (rdN 0) λ_=>some [])))) K (O5 L) [] [d]:=λp w H L K d W v=>by subst H;refine qh3 (λι=>∃d,ι=[d]) (λx=>some (tagF p x)) _ [] _ (by show 0+_<1000000;rw[qg6];lia) ⟨_,rfl⟩ ?_ ?_;{rintro y I ι J ⟨d,rfl⟩ R M t;obtain⟨k,_,rfl⟩:=zAx.mp I;exact qj6 (qQ3 (Dt rfl (qn7 (d:=.q [.str (wS p),.int k]) rfl ⟨t,M [.int k] ⟨_,rfl⟩⟩)))};rintro ι ⟨d,rfl⟩;rw[zAz,qK1,qaV0];exact v d
 refine Au [Ah z a.C4 a.C3 n wr j g m,Ah f a.C4 a.C3 n wr c b e,.u] rfl ?_;refine qb0 [Ah z a.C4 a.C3 n wr j g m,Ah f a.C4 a.C3 n wr c b e,.l false (stD ((Bp n.toNat g b).map λk=>(false,k)))] (λK v=>qd5 (qr9 (x:=Ah z a.C4 a.C3 n wr j g m) (y:=Ah f a.C4 a.C3 n wr c b e) rfl rfl rfl ⟨z,f,n,wr,j,c,g,b,m,e,rfl,B,E,u,rfl⟩ rfl (qa0 (a:=O5 (Bp n.toNat g b)) rfl ⟨qd0 _,cmp false "take" rfl _ _ _ ⋯ λ_=>v⟩))) ?_;refine qg5 ⟨rfl,qr9 (x:=Ah f a.C4 a.C3 n wr c b e) (y:=Ah z a.C4 a.C3 n wr j g m) rfl rfl rfl ⟨f,z,n,wr,c,j,b,g,e,m,rfl,B,E,λi k G h=>⟨(u i k G h.symm).1,(u i k G h.symm).2.symm⟩,rfl⟩ rfl (qa0 (a:=O5 (Bp n.toNat b g)) rfl ⟨qd0 _,cmp true "put" rfl _ _ _ ⋯ λ_=>qa0 (a:=D.l false (stD (A8 n.toNat g b))) ?_ q⟩)⟩;show Fi (D.l false (stD _)) (D.l false (stD _))=_;refine(qh4 ⟨qi4 _,qi4 _,?_⟩).trans ?_;{unfold A8 stD;rw[zBa]};rw[ql7,ql7,zA5,zA5];unfold big;lia
theorem qaL1:qa8 ["_law_script"] ["_law_script"] (qa3 qaC5):=by walk_at "s"
theorem qaP0(T:Txt K mg a):Eg P w K mg base CX0 1 a.f39 a.d39 ["_law_script"] (qaV4 K):=by
 refine T.d39.F.ok qaL1 (λJ H Q E h=>?_) (λL A outer s H J Q E O h=>?_);{obtain⟨l,d,rfl,_⟩:=h;rfl};obtain⟨l,d,rfl,M,R,k⟩:=h;refine⟨_,(qB0 (Ho (qaD6 (qc5 qM7 (qc5 qM7 (qc5 qM7 (qc5 (qF9 ["_law_cell"] [none] (qx0 (qI6 qW4 (pv 0) qW9 (qW8 qM7))) (λC B H0 G=>(gnm 0 (show (["_law_cell"]:List Str).Nodup by decide +kernel))) (λC B H0 G=>qaN1) (λC B H0 G=>(cbi qaI8 T.D7 (qc5 (pv 0) ql4)))) ql4))))))),?_⟩;refine⟨_,rfl,_,rfl,l,_,rfl,M,λc N=>?_⟩;have ec:Gb (d.map V.int) none (some 63)=d.map V.int:=by unfold Gb;have t:HT.sIx (d.map V.int).length (d.map V.int).length (some (63:Int))=min 63 (d.map V.int).length:=HT.qag6 _ _ 63;rw[t,HT.qT0,Ml,Nat.sub_zero];apply zAs;rw[zA5];lia
 rw[ec];refine⟨c,rfl,⟨_,SqL.of qc6⟩,λD r=>?_⟩;have I:D≠c:=λz=>by rw[z,qc6] at r;cases r
 have g:H D=none:=by rw[qd6 I] at r;exact r
 refine qZ6 (K:=K) (xs:=d.map V.int) (λi σ H1=>∃v,σ=[v]/\H1=upd (upd H c (.l (d.map V.int))) D (.l (((d.take i).map λn=>if n<0 then -n else n).map V.int))) ⟨none,rfl,rfl⟩ ?_ ?_ ?_;{rintro i σ H1 _ ⟨v,rfl,rfl⟩;refine SqL.of ?_;rw[qd6 I.symm,qc6]}
 .rintro i x σ H1 j ⟨v,rfl,rfl⟩;obtain⟨n,u,rfl⟩:∃n,d[i]?=some n/\V.int n=x:=by rw[zB7] at j;cases e:d[i]? with|none=>rw[e] at j;cases j|some z=>rw[e] at j;exact⟨z,rfl,N8 j⟩
  refine⟨_,rfl,_,rfl,_,qc6,?_,_,rfl,?_⟩;{rw[zA5,zA5,zB5];exact qap8 ⋯};rw[qaJ6];congr 1;rw[zBk,u];simp
 rintro σ H1 ⟨v,rfl,rfl⟩;rw[zA5,zAs (zA3 _)];refine⟨by show 4<=Kk;decide,λp f=>?_⟩;have q:p≠D:=λz=>by rw[z,qc6] at f;cases f
 rw[qd6 q] at f;have y:p≠c:=λz=>by rw[z,qc6] at f;cases f
 rw[qd6 y] at f;refine k p D _ f g (λb o e=>?_) ⟨0,1234567891,0,d.map λn=>if n<0 then -n else n,qc6,?_,∅,∅,∅,∅,?_⟩;{rw[qd6 (qf7 e f),qd6 (qf7 e g),qd6 (qf7 e N)];exact e};{rw[qd6 q.symm,qc6]};intro n u;obtain⟨m,_,rfl⟩:=zAx.mp u;split<;>lia
theorem qv0:qa8 ["_law_bag_here", "_law_many", "_law_cell", "_law_value", "_law_first", "_law_second"] ["_law_bag_here", "_law_many"] (qa3 qag4):=by walk_at "s"
theorem qb7(T:Txt K mg a):VFn P w K mg base 1 a.f40 a.d40 ["_law_bag_here", "_law_many"] qH6:=by refine VFn.mk' T.d40.F qv0 (wOf [true,true]) (λr Q Q' u J L _ h=>by obtain⟨b,m,g,e,H,A,M,q⟩:=h;exact⟨b,m,g,e,H,A,M,λv N O R B=>L _ _ (q v N O R B)⟩) (λr Q u ⟨b,m,g,e,_⟩=>by rw[e];rfl) (λr Q u h=>by obtain⟨b,m,g,e,⟨x,y,z,S,_⟩,_⟩:=h;rw[e,S];rfl) (λ_ _ _ _ _ _ _ U=>⟨_,(Ab (sif (q2 (As (qm6 U.u64) (qa9 _)) Bq (v2 (Aw qb5) Ap (vnm 0) Af) Af) (Ab (Am 2 qv0.nd (qa5 Af)) (Ab (sif (q2 (As Iw (qa9 _)) Je (v2 (Aw qb5) Ap (vnm 0) Af) (vbi qC8 qC7.ops T.Cj (qa2 (v2 (Aw qb5) Ap (vnm 0) Af) qa6 rfl))) (Aj (Am 2 qv0.nd (qb3 (v2 (Aw qb5) Ap (v2 (Aw qb5) Ap (vnm 0) Af) (v2 (Aw qb5) Ap (vnm 0) Af))))) A4) (Ab (saug (vpn 0) Af Af qba2) (Ab (sif (q2 (As G7 (qa9 _)) Jf (vnm 2) Af) (Aj (Fl (qb3 (vnm 2)) (En (vpn 0) Af))) A4) (Aj (Fl (qa5 (v2 (Al qn5) qn4 (v2 (Al qg0) qf9 (v2 (Al qg0) qf9 (v2 (Al qB2) qB1 (v2 (Aw qb5) Ap (vnm 0) Af) Af) (v2 (Al qn5) qn4 (vnm 2) Af)) (v2 (Al qB2) qB1 Af (v2 (Aw qb5) Ap (vnm 0) Af))) Af)) (En (vpn 0) Af))))))) A4) (Ab (sif (q2 (As Bs (qa9 _)) Dg (v2 (Aw qb5) Ap (vnm 0) Af) Af) (Ab (Am 3 qv0.nd (qa5 (v2 (Al qn5) qn4 (v2 (Aw qb5) Ap (vnm 0) Af) (vnm 1)))) (Ab (Fl (qa5 (v2 (Al qT4) qaE2 (v2 (Aw qb5) Ap (vnm 0) Af) (vnm 1))) (En (vpn 0) Af)) (Aj (Av (emv 3))))) A4) (Ab (Am 4 qv0.nd (qa5 (v2 (Al qn5) qn4 (v2 (Al qB2) qB1 (v2 (Al qg0) qf9 (v2 (Aw qb5) Ap (vnm 0) Af) Af) Af) Af))) (Ab (Am 5 qv0.nd (qa5 (v2 (Al qn5) qn4 (v2 (Al qB2) qB1 (v2 (Al qn5) qn4 (v2 (Al qB2) qB1 (vnm 4) (vnm 4)) Af) Af) Af))) (Ab (sif (q2 (As Bs (qa9 _)) Dg (vnm 1) Af) (Aj (Av (qa5 (v2 (Al qn5) qn4 (v2 (Al qg0) qf9 (v2 (Al qB2) qB1 (vnm 5) Af) (vnm 4)) (vnm 1))))) A4) (Aj (Av (qa5 (v2 (Al qn5) qn4 (v2 (Al qT4) qaE2 (vnm 5) Af) (vnm 1)))))))))),λr Q u h=>?_⟩);obtain⟨b,m,g,rfl,⟨x,y,z,rfl,B⟩,p,C,k⟩:=h;refine Au [bagD x y z g,.int m,.u,.u,.u,.u] rfl ?_;refine qc1 (λr=>∃j o t c,r=[bagD j o t g,.int m,c,.u,.u,.u]/\Bg j o t g) (λK l=>?_) ?_;{refine if_v (b:=decide (x=0)) rfl (λ_=>?_) (λ_=>l _ ⟨x,y,z,_,rfl,B⟩);refine qb0 [bagD x y z g,.int m,.int 0,.u,.u,.u] (λK l=>l) ?_;refine qc1 (λr=>∃c:Int,0<=c/\r=[bagD x y z g,.int m,.int c,.u,.u,.u]) (λK l=>?_) ?_;{refine if_v (b:=decide (z<(((g.map D.int).length:Nat):Int))) rfl (λA=>?_) (λ_=>l _ ⟨0,∅,rfl⟩);obtain⟨v,V,e⟩:=qP9 (xs:=g.map D.int) (i:=z) B.z0 (zAi A);obtain⟨c,E,rfl⟩:=zAx.mp V;exact qw7 (Ag (y:=.int z) (x:=.l false (g.map .int)) rfl rfl e) rfl (l _ ⟨c,B.nn c E,rfl⟩)};rintro r ⟨c,E,rfl⟩;refine qb0 [bagD x y (z+1) g,.int m,.int c,.u,.u,.u] (λK l=>?_) ?_;{exact qbc6 (k:=2) (x:=z) (y:=1) (ys:=[.int x,.int y,.int z,.l false (g.map .int)]) rfl rfl ∅ rfl rfl l};refine qc1 (λr=>∃j:Int,0<=j/\r=[bagD j y (z+1) g,.int m,.int c,.u,.u,.u]) (λK l=>?_) ?_;{refine if_v (b:=decide (1000000000000000000<=c)) rfl (λ_=>?_) (λ_=>l _ ⟨x,B.x0,rfl⟩);exact qL7 (d:=.int c) (ys:=[.int x,.int y,.int (z+1),.l false (g.map .int)]) (k:=0) (n:=0) rfl rfl rfl rfl rfl (l _ ⟨c,E,rfl⟩)};rintro r ⟨j,G,rfl⟩;have W:f2 Hw (f2 Fi (f2 Fi (f2 F7 (f2 gIx (rdN 0) (kC (.int 1))) (kC (.int 48271))) (f2 Hw (rdN 2) (kC (.int 2147483647)))) (f2 F7 (kC (.int 7919)) (f2 gIx (rdN 0) (kC (.int 2))))) (kC (.int 2147483647)) [bagD j y (z+1) g,.int m,.int c,.u,.u,.u]=some (.int ((y*48271+c%2147483647+7919*(z+1))%2147483647)):=Ag (Ag (Ag (Ag (x:=.int y) rfl rfl (J1 ∅)) (Ag rfl rfl (Ef ∅)) rfl) (Ag (y:=.int (z+1)) rfl rfl (mulL ∅)) rfl) rfl (Ef ∅);exact qW2 (ys:=[.int j,.int y,.int (z+1),.l false (g.map .int)]) (k:=1) (n:=1) W rfl rfl rfl (l _ ⟨j,_,z+1,_,rfl,G,zCm _ ∅,zC0 _ ∅,by have:=B.z0;lia,B.nn⟩)};rintro r ⟨j,o,t,c,rfl,B'⟩;refine qm7 (decide (0<j)) rfl (λH=>?_) λ_=>?_;{refine qb0 [bagD j o t g,.int m,c,.int (j%m),.u,.u] (λK l=>qa0 (Ag (x:=.int j) rfl rfl (Ef p)) l) ?_;refine qb0 [bagD (j/m) o t g,.int m,c,.int (j%m),.u,.u] (λK l=>?_) ?_;{exact qW2 (ys:=[.int j,.int o,.int t,.l false (g.map .int)]) (k:=0) (n:=0) (Ag (x:=.int j) rfl rfl (qaI0 p C)) rfl rfl rfl l};exact k (j%m) _ (zCm _ ⋯) (zC0 _ p) ⟨_,_,_,rfl,Int.ediv_nonneg B'.x0 ⋯,B'.y0,B'.y1,B'.z0,B'.nn⟩};have X:0<=(o+1)*39373%1000000007:=zCm _ ∅;have f1:(o+1)*39373%1000000007<1000000007:=zC0 _ ∅;refine qb0 [bagD j o t g,.int m,c,.u,.int ((o+1)*39373%1000000007),.u] (λK l=>qa0 (Ag (Ag (Ag (x:=.int o) rfl rfl rfl) rfl (J1 ∅)) rfl (Ef ∅)) l) ?_;generalize (o+1)*39373%1000000007=f at X f1;refine qb0 [bagD j o t g,.int m,c,.u,.int f,.int (f*f%998244353*30011%998244353)] (λK l=>qa0 (Ag (Ag (Ag (Ag rfl rfl (mulL (qS0 ⋯ ⋯))) rfl (Ef ∅)) rfl (J1 ∅)) rfl (Ef ∅)) l) ?_;generalize f*f%998244353*30011%998244353=s;have I:∀v,Q (.int (v%m)) [bagD j o t g,.int m]:=λv=>k _ _ (zCm _ ⋯) (zC0 _ p) ⟨_,_,_,rfl,B'⟩;refine qm7 (decide (1000000<m)) rfl (λ_=>?_) λ_=>?_;{exact qi0 _ (Ag (Ag (Ag rfl rfl (J1 ∅)) rfl rfl) rfl (Ef p)) (I _)};exact qi0 _ (Ag (Ag rfl rfl (qaI0 ∅ ∅)) rfl (Ef p)) (I _)
theorem qaC2:qa8 ["_law_plan", "_law_key"] ["_law_plan", "_law_key"] (qa3 qag5):=by walk_at "s"
def qaB9:VSp:=A5 λds d=>∃n wr ps k,ds=[Ae n wr ps,.int k]/\1<=n/\(ps.map (·.1)).Nodup/\d=.int (qb4 n ps k)
theorem qai6(T:Txt K mg a):VFn P w K mg base 1 a.f41 a.d41 ["_law_plan", "_law_key"] qaB9:=by
 refine VFn.mk2 T.d41.F qaC2 (wOf [true,true]) qb2 (by walk_at "l") (λ_ _ _ _ _ _ _ c=>⟨_,(Aj (Av (qa5 (v2 (Al qn5) qn4 (vget (hu_of c) (E9 (qP8 rfl) qaA2.ops T.Cw (qa2 (v2 (Aw qb5) Ap (vnm 0) Af) qa6 rfl)) (vnm 1) (vnm 1) ⟨rfl,rfl,rfl,rfl⟩) (v2 (Aw qb5) Ap (vnm 0) Af))))),λg Q i h=>?_⟩);obtain⟨d,⟨n,wr,b,k,rfl,j,e,rfl⟩,q⟩:=h;have f:Bh (fx1 Hf) (Ba (f2 gIx (rdN 0) (kC (.int 2))) λ_=>some []) [Ae n wr b,.int k]=some (.dct false (kvD b)):=by show Hf (.l true (O7 b))=_;exact qaz9 e
 exact qi0 _ (Ag (qam0 f rfl) (y:=.int n) rfl (Ef ⋯)) q
theorem qf1:qa8 ["_law_plan", "_law_keys", "_law_homes", "_law_found", "_law_on", "_law_turn", "_law_room"] ["_law_plan", "_law_keys"] (qa3 qA7):=by walk_at "s"
theorem qau4(a:1<=n)(ks:List Int)(r:Nat):Jp (.l z (O5 (ks.map (qb4 n ps)))) (.int (r:Nat))=some (.int (Fh (O3 n ps) ks r:Nat)):=by show ((flats (O5 (ks.map (qb4 n ps)))).bind λb=>some (D.int (b.countP (λz=>eqV z (.int (r:Nat))):Nat)))=_;rw[qK3];show some (D.int (((ks.map (qb4 n ps)).map V.int).countP (λz=>eqV z (.int (r:Nat))):Nat))=_;congr 3;unfold Fh;rw[Nn,Nn,List.countP_eq_length_filter];congr 1;refine Ma λk _=>?_;show decide (qb4 n ps k=(r:Nat))=_;have:=qO9 (ps:=ps) a k;exact zC2.mpr ⋯
def onT(n:Int)(ps:Pr)(ks:List Int):Nat->Int:=onC (cR n.toNat (O3 n ps) ks)
def Bi(n:Int)(ps:Pr)(ks:List Int)(i m:Nat):List Int:=(Lr m).map λr=>onT n ps ks (n.toNat*i+r+1)
theorem qM8{m:Nat}:Bi n ps ks i m++[onT n ps ks (n.toNat*i+m+1)]=Bi n ps ks i (m+1):=by unfold Bi;rw[Nm,zBa];rfl
def qab6:VSp:=A5 λds d=>∃n wr ps z ks,ds=[Ae n wr ps,.l z (O5 ks)]/\1<=n/\n<=64/\(ps.map (·.1)).Nodup/\ks.length<=200/\d=.l false (O5 (Bi n ps ks wr.toNat n.toNat))
theorem qac6(T:Txt K mg a):VFn P w K mg base 2 a.f42 a.d42 ["_law_plan", "_law_keys"] qab6:=by
 refine VFn.mk2 T.d42.F qf1 (wOf [true,true]) qb2 (by walk_at "l") (λ_ _ _ _ _ _ _ L=>⟨_,(Ab (scN (NY:=["_law_key", "_law_plan"]) (src:=[none,some 0]) 2 1 qf1.nd (blk (λB C E H0 G=>(A9 0 (show (["_law_key", "_law_plan"]:List Str).Nodup by decide +kernel))) (λB C E H0 G=>Ec) (λB C E H0 G=>(Ak T.d41 (qai6 T) L2.qa1 (rm L) (vaN 1 (vaN 0 Ac)))))) (Ab (Am 3 qf1.nd (qa5 (Bz qa6))) (Ab (Am 4 qf1.nd (qa5 Af)) (Ab (qS2 N9 T.Ci (Ev (vaV (qa5 (v2 (Al qg0) qf9 Af (E9 qav0 qbb9.ops T.Cy (qa2 (v2 (Aw qb5) Ap (vnm 0) Af) qa6 rfl)))) Ac)) (A9 5 qf1.nd) (Ab (Am 3 qf1.nd (qa5 (Bz qa6))) (Aj (qS2 N9 T.Ci (Ev (vaV (qb3 (v2 (Aw qb5) Ap (vnm 0) Af)) Ac)) (A9 6 qf1.nd) (Ab (Am 4 qf1.nd (qa5 (vbi (qZ9 rfl) qaA1.ops T.D4 (qa2 Af (qa2 (v2 (Al qr0) qq9 (v2 (Al qg0) qf9 (vnm 4) (vbm qaX1 Oc Oo PySem.F.type_list_count qaF0 (vnm 2) (vnm 6) qaT3)) Af) qa6 rfl) rfl)))) (Aj (Be (B7 3 qr3 Oc Oe Of qc9 (vaV (qb3 (vnm 4)) Ac))))))))) (Aj (Av (emv 3))))))),λf Q Y h=>?_⟩);obtain⟨d,⟨n,wr,b,z,c,rfl,H,Z,M,hl,rfl⟩,q⟩:=h;refine Au [Ae n wr b,.l z (O5 c),.u,.u,.u,.u,.u] rfl ?_;refine qb0 [Ae n wr b,.l z (O5 c),kL (c.map (qb4 n b)),.u,.u,.u,.u] (λK o=>qd5 (qa0 (a:=D.l z (O5 c)) rfl (qa0 (a:=O5 c) rfl ⟨qd0 c,?_⟩))) ?_
 .refine qh3 (λι=>∃d,ι=[d,Ae n wr b]) (λx=>some (match x with | .int k=>.int (qb4 n b k)|d=>d)) _ [] _ (by show 0+_<1000000;rw[qg6];lia) ⟨_,rfl⟩ ?_ ?_;{rintro y N ι O ⟨d,rfl⟩ R S s;obtain⟨k,_,rfl⟩:=zAx.mp N;exact qj6 (qQ3 (Dt rfl (qr9 (x:=Ae n wr b) (y:=.int k) (d:=.int (qb4 n b k)) rfl rfl rfl ⟨n,wr,b,k,rfl,H,M,rfl⟩ rfl ⟨s,S [.int k,Ae n wr b] ⟨_,rfl⟩⟩)))};rintro ι ⟨d,rfl⟩;rw[zAz,qK1];have U:((O5 c).map λx=>match x with | .int k=>D.int (qb4 n b k)|d=>d)=O5 (c.map (qb4 n b)):=by unfold O5;rw[zC3,zC3];rfl
  rw[U];exact o
 generalize t:kL (c.map (qb4 n b))=p;refine qb0 [Ae n wr b,.l z (O5 c),p,.l false [],.u,.u,.u] (λK o=>o) ?_;refine qb0 [Ae n wr b,.l z (O5 c),p,.l false [],.int 0,.u,.u] (λK o=>o) ?_;refine qc1 (λf=>∃I r m,f=[Ae n wr b,.l z (O5 c),p,kL (Bi n b c wr.toNat n.toNat),I,r,m]) (λK o=>?_) ?_
 .refine qK0 (n:=((1+wr.toNat:Nat):Int)) (by cases wr<;>rfl) (J0 ⋯ (by cases wr<;>decide)) ?_;refine qd4 (λi f=>∃F r m,f=[Ae n wr b,.l z (O5 c),p,.l false F,.int (onT n b c (n.toNat*i)),r,m]/\(0<i->F=O5 (Bi n b c (i-1) n.toNat))) _ 0 _ ⟨_,_,_,rfl,λh=>absurd h ⋯⟩ ?_ ?_
  .rintro i x A f ⟨F,r,m,rfl,_⟩ K2 u;rw[zAe] at u ⊢;obtain⟨hi,rfl⟩:=qT2 A;refine qj6 (Au [Ae n wr b,.l z (O5 c),p,.l false F,.int (onT n b c (n.toNat*i)),.int (i:Nat),m] rfl ?_);refine qb0 [Ae n wr b,.l z (O5 c),p,.l false [],.int (onT n b c (n.toNat*i)),.int (i:Nat),m] (λK o=>o) ?_;refine qU9 (n:=n) rfl (J0 ⋯ ⋯) ?_;refine qd4 (λj f=>∃m,f=[Ae n wr b,.l z (O5 c),p,kL (Bi n b c i j),.int (onT n b c (n.toNat*i+j)),.int (i:Nat),m]) _ 0 _ ⟨_,rfl⟩ ?_ ?_
   .rintro j x A f ⟨m,rfl⟩ K3 v;rw[zAe] at v ⊢;obtain⟨V,rfl⟩:=qT2 A;refine qj6 (Au [Ae n wr b,.l z (O5 c),p,kL (Bi n b c i j),.int (onT n b c (n.toNat*i+j)),.int (i:Nat),.int (j:Nat)] rfl ?_);refine qb0 [Ae n wr b,.l z (O5 c),p,kL (Bi n b c i j),.int (onT n b c (n.toNat*i+j+1)),.int (i:Nat),.int (j:Nat)] (λK o=>qp0 ?_ o) ?_
    .have W:Jp p (.int (j:Nat))=some (.int (Fh (O3 n b) c j:Nat)):=by rw[<-t];exact qau4 H c j
     have e:=Ag (g:=gSub) (y:=.int 1) (Ag (g:=Fi) (fa:=rdN 4) (ds:=[Ae n wr b,.l z (O5 c),p,kL (Bi n b c i j),.int (onT n b c (n.toNat*i+j)),.int (i:Nat),.int (j:Nat)]) (x:=.int (onT n b c (n.toNat*i+j))) rfl (Ag (g:=Jp) (fa:=rdN 2) (fb:=rdN 6) (by rw[<-t];rfl) rfl W) rfl) (fb:=kC (.int 1)) rfl rfl;unfold Bh Ba;rw[e];have X:cR n.toNat (O3 n b) c (n.toNat*i+j)=Fh (O3 n b) c j:=by unfold cR;rw[Nat.mul_add_mod,zCs V]
     show some (D.int (if onT n b c (n.toNat*i+j)+(Fh (O3 n b) c j:Nat)-1>0 then onT n b c (n.toNat*i+j)+(Fh (O3 n b) c j:Nat)-1 else 0))=some (D.int (if onC (cR n.toNat (O3 n b) c) (n.toNat*i+j)+(cR n.toNat (O3 n b) c (n.toNat*i+j):Int)-1>0 then onC (cR n.toNat (O3 n b) c) (n.toNat*i+j)+(cR n.toNat (O3 n b) c (n.toNat*i+j):Int)-1 else 0));rw[X];rfl
    refine qao1 (ys:=O5 (Bi n b c i j)) (d:=.int (onT n b c (n.toNat*i+j+1))) rfl rfl rfl (by rw[qg6];unfold Bi big;rw[zA5,zB4];lia) ?_;rw[qG6,qM8];exact v _ ⟨_,rfl⟩
   rintro f ⟨m,rfl⟩;rw[zAe,qak4,show n.toNat*i+n.toNat=n.toNat*(i+1) by rw[Nat.mul_add,Nat.mul_one]];exact u _ ⟨_,_,_,rfl,λ_=>rfl⟩
  rintro f ⟨F,r,m,rfl,J⟩;rw[zAe,qak4,Int.toNat_natCast] at J;rw[J ⋯,show 1+wr.toNat-1=wr.toNat by lia];exact o _ ⟨_,_,_,rfl⟩
 rintro f ⟨I,r,m,rfl⟩;exact q
theorem qf3:qa8 ["_law_plan", "_law_keys", "_law_passing_here", "_law_begin", "_law_found", "_law_at", "_law_on", "_law_key"] ["_law_plan", "_law_keys"] (qa3 qI3):=by walk_at "s"
theorem qay4:∀ps:List (Int×Int),(O7 ps).mapM Ie=some ps|[]=>rfl|p::r=>by show List.mapM Ie (D.q [.int p.1,.int p.2]::O7 r)=_;rw[Nr,qay4 r];rfl
theorem qap6{f:Int->Int}(e:L=S.map λk=>(f k,k))(a:S.Nodup)(b:S.length<=64):qaz4 (.l z (O7 L))=some (.l false (O7 (Dr L))):=by show ((O7 _).mapM Ie).bind _=_;rw[qay4];refine qh4 ⟨?_,by rw[e,zA5];exact b⟩;rw[e];exact zBv.mpr (a.imp λh z=>h (congrArg Prod.snd z))
theorem qai2{f:Int->Nat}:((Dr (ks.map λk=>(((f k:Nat):Int),k))).map (·.2)).Perm ks:=by have h:((Dr (ks.map λk=>(((f k:Nat):Int),k))).map (·.2)).Perm ((ks.map λk=>(((f k:Nat):Int),k)).map (·.2)):=(M6 _ _).map _;rw[zC3] at h;have e:ks.map ((·.2) ∘ λk=>(((f k:Nat):Int),k))=ks:=List.map_id ks;rwa[e] at h
theorem qai3{f:Int->Nat}(a:p∈Dr (ks.map λk=>(((f k:Nat):Int),k))):p.1=(f p.2:Nat):=by rw[List.mem_mergeSort] at a;obtain⟨k,_,rfl⟩:=zAx.mp a;rfl
theorem qaX2{f:Int->Nat}(b:ks.Nodup):((Dr (ks.map λk=>(((f k:Nat):Int),k))).map (·.2)).Pairwise (Jb f):=by have a:=(qai2 (f:=f)).nodup_iff.mpr b;unfold List.Nodup at a;rw[zBv] at a ⊢;refine((qaf7 _).and a).imp_of_mem λ{p q} c d h=>?_;have g:=qai3 c;have i:=qai3 d;have e:=h.1;simp only[S6.plt,decide_eq_false_iff_not] at e;have j:=h.2;unfold Jb;lia
theorem qba5:∀{L R:List Int},¬k∈L->gIdx (.l z (O5 (L++k::R))) (.int k)=some (.int (L.length:Nat)):=by
 intro L R h;have e:Dl (.int k) ((L++k::R).map V.int)=some L.length:=by induction L with|nil=>show (if decide (k=k)=true then some 0 else _)=_;rw[if_pos (zAg rfl)];rfl|cons a L b=>rw[zAh,not_or] at h;show (if decide (a=k)=true then some 0 else (Dl (.int k) ((L++k::R).map V.int)).map (· + 1))=_;rw[if_neg (by simpa using λz=>h.1 z.symm),b h.2];rfl
 show ((flats (O5 (L++k::R))).bind λc=>(Dl (.int k) c).map λj=>D.int (j:Nat))=_;rw[qK3];show (Dl (.int k) ((L++k::R).map V.int)).map (λj=>D.int (j:Nat))=_;rw[e];rfl
theorem qah8(h:1<=n):gIx (.l z (O5 (Bi n ps ks i n.toNat))) (.int (-1))=some (.int (onT n ps ks (n.toNat*i+n.toNat))):=by
 obtain⟨m,e⟩:∃m,n.toNat=m+1:=⟨n.toNat-1,⋯⟩;have e2:Bi n ps ks i n.toNat=Bi n ps ks i m++[onT n ps ks (n.toNat*i+m+1)]:=by rw[qM8,e]
 rw[e2,show n.toNat*i+n.toNat=n.toNat*i+m+1 by lia];unfold O5;rw[zBa];exact qaJ0 _ _
def qaf6:VSp:=λds Q _=>∃n wr ps z ks,ds=[Ae n wr ps,.l z (O5 ks)]/\1<=n/\n<=64/\(ps.map (·.1)).Nodup/\ks.Nodup/\ks.length<=200/\((∃q,Crowd n.toNat wr (O3 n ps) ks q)->Q .non ds)/\((∀q,¬Crowd n.toNat wr (O3 n ps) ks q)->∀g,Kept n.toNat wr (O3 n ps) g ks->Q (rL n g) ds)
theorem qB5(T:Txt K mg a):VFn P w K mg base 3 a.f43 a.d43 ["_law_plan", "_law_keys"] qaf6:=by
 refine VFn.mk2 T.d43.F qf3 (wOf [true,true]) (by walk_at "m") (by walk_at "l") (λ_ _ _ _ _ _ _ u=>⟨_,(Ab (sif (q2 (As Bs (qa9 _)) Dg (vbi qC8 qC7.ops T.Cj (qa2 (vnm 1) qa6 rfl)) (v2 (Aw qb5) Ap (vnm 0) Af)) (Aj (Av (qa5 Bf))) A4) (Ab (Am 2 qf3.nd (Ak T.d42 (qac6 T) qa1 (rm u) (vaN 0 (vaN 1 Ac)))) (Ab (sif (Hy (Br (tv (v2 (Aw qb5) Ap (vnm 0) Af))) (Fq (q2 (As Bs (qa9 _)) Dg (v2 (Aw qb5) Ap (vnm 2) (vneg Af)) Af))).te (Aj (Av (qa5 Bf))) A4) (Ab (Am 3 qf3.nd (qa5 Af)) (Ab (sif (tv (v2 (Aw qb5) Ap (vnm 0) Af)) (Aj (Am 3 qf3.nd (qa5 (v2 (Al qg0) qf9 (vbm qaO3 Oc Oh Oj qU1 (vnm 2) Af qaz1) Af)))) A4) (Ab (Am 4 qf3.nd (qa5 (v2 (Al qB2) qB1 (Bz (qa2 Bf qa6 rfl)) (v2 (Aw qb5) Ap (vnm 0) Af)))) (Ab (Am 5 qf3.nd (qa5 (vneg Af))) (Ab (Ft N9 (ebi qan5 qaI3.ops T.D0 (Ev (vaV (ecN (NY:=["_law_key", "_law_begin", "_law_plan"]) (src:=[none,some 3,some 0]) 1 (blk (λav C s0 H0 ex=>(A9 0 (show (["_law_key", "_law_begin", "_law_plan"]:List Str).Nodup by decide +kernel))) (λav C s0 H0 ex=>Ec) (λav C s0 H0 ex=>(Gy (vaV (e2v (Al qn5) qn4 (e2v (Al qr0) qq9 (Ak T.d41 (qai6 T) L2.qa1 (rm u) (vaN 2 (vaN 0 Ac))) (vnm 1)) (v2 (Aw qb5) Ap (vnm 2) Af)) (vaV (qb3 (vnm 0)) Ac)))))) Ac))) (Fc (n:=2) rfl (qu0 (A9 6 qf3.nd) (qu0 (A9 7 qf3.nd) Fb))) (Ab (Am 5 qf3.nd (qa5 (vbi (qZ9 rfl) qaA1.ops T.D4 (qa2 (v2 (Al qg0) qf9 (vnm 5) Af) (qa2 (vnm 6) qa6 rfl) rfl)))) (Aj (Fl (qb3 (vnm 7)) (En (vpn 4) (v2 (Al qn5) qn4 (v2 (Al qg0) qf9 (vnm 3) (vnm 5)) (v2 (Aw qb5) Ap (vnm 0) Af))))))) (Aj (Av (emv 4))))))))))),λv Q xe h=>?_⟩);obtain⟨n,wr,j,z,o,rfl,M,n2,nd,N,hl,q,q'⟩:=h;have B:=Fn (ps:=j) M;have oc:=qar1 (T:=o) ⋯ B;refine Au [Ae n wr j,.l z (O5 o),.u,.u,.u,.u,.u,.u] rfl ?_;refine qm7 (decide (n<(o.length:Int))) (Ag (qC0 rfl) (y:=.int n) rfl (by rw[qg6];rfl)) (λh=>qi0 .non rfl (q ⟨0,⋯,?_⟩)) λh=>?_;{have h:=zAi h;cases wr with|true=>rw[if_pos rfl];exact⟨rfl,⋯⟩|false=>rw[if_neg ∅,List.filter_eq_self.mpr λ_ _=>zAg (zBo _)];lia};have a0:o.length<=n.toNat:=by have:=zBp h;lia
 refine qb0 [Ae n wr j,.l z (O5 o),kL (Bi n j o wr.toNat n.toNat),.u,.u,.u,.u,.u] (λK t=>qd5 (qr9 (x:=Ae n wr j) (y:=.l z (O5 o)) rfl rfl rfl ⟨n,wr,j,z,o,rfl,M,n2,nd,hl,rfl⟩ rfl t)) ?_;refine qo0 (!wr&&decide (0<onT n j o (n.toNat*wr.toNat+n.toNat))) (λQ q=>qp9 (!wr) (decide (0<onT n j o (n.toNat*wr.toNat+n.toNat))) (λQ q=>qs5 (b:=wr) rfl q) (λ_ Q q=>qj9 (Ag (Ag rfl rfl (qah8 M)) rfl rfl) q) q) (λh=>qi0 .non rfl (q ?_)) λh=>?_;{cases wr with|true=>cases h|false=>have h:=zAi h;rw[show n.toNat*false.toNat+n.toNat=n.toNat by show n.toNat*0+_=_;lia] at h;exact oc.mp h};refine qb0 [Ae n wr j,.l z (O5 o),kL (Bi n j o wr.toNat n.toNat),.int 0,.u,.u,.u,.u] (λK t=>t) ?_;refine qc1 (λv=>∃s:Nat,v=[Ae n wr j,.l z (O5 o),kL (Bi n j o wr.toNat n.toNat),.int (s:Nat),.u,.u,.u,.u]/\s<=n.toNat/\(wr=false->s=0)/\(∀q,¬Crowd n.toNat wr (O3 n j) o q)/\∀q,¬Crowd n.toNat false (λk=>Aa n.toNat (s%n.toNat) (O3 n j k)) o q) (λK t=>?_) ?_
 .refine if_v (b:=wr) rfl (λE=>?_) λE=>t _ ⟨0,rfl,⋯,λ_=>rfl,?_,?_⟩
  .subst E;obtain⟨r,u,h0⟩:=qaE4 (T:=o) ⋯ B a0;have hm:(0:Int)∈Bi n j o 1 n.toNat:=zAx.mpr ⟨r,zAq.mpr u,by rw[Nat.mul_one];exact h0⟩;obtain⟨L,R,O,nL⟩:=List.eq_append_cons_of_mem hm;have S:L.length<n.toNat:=by have:=congrArg Lv O;unfold Bi at this;simp at this;lia
   have Y:onT n j o (n.toNat+L.length+1)=0:=by
    have:(Bi n j o 1 n.toNat)[L.length]?=some 0:=by rw[O];simp
    unfold Bi at this;rw[zB7,List.getElem?_range S,Nat.mul_one] at this;exact N8 this
   refine qp0 (d:=.int ((L.length+1:Nat):Int)) (Ag (g:=Fi) (y:=.int 1) (Ag (g:=gIdx) (x:=kL (L++0::R)) (y:=.int 0) (by rw[<-O];rfl) rfl (qba5 nL)) rfl rfl) (t _ ⟨L.length+1,rfl,⋯,λh=>absurd h ∅,λq c=>?_,qN8 S B Y⟩);have c:=c.2;rw[if_pos rfl] at c;lia
  {subst E;have h:decide _=false:=h;rw[show n.toNat*false.toNat+n.toNat=n.toNat by show n.toNat*0+_=_;lia] at h;exact λq c=>zBp h (oc.mpr ⟨q,c⟩)};subst E;have h:decide _=false:=h;rw[show n.toNat*false.toNat+n.toNat=n.toNat by show n.toNat*0+_=_;lia] at h;rw[Nat.zero_mod,show (λk=>Aa n.toNat 0 (O3 n j k))=O3 n j from funext λk=>Hc];exact λq c=>zBp h (oc.mpr ⟨q,c⟩)
 rintro v ⟨s,rfl,hs,E,nc,a1⟩;have G:s%n.toNat<n.toNat:=Nat.mod_lt _ ⋯;generalize eP:kL (Bi n j o wr.toNat n.toNat)=H;refine qb0 [Ae n wr j,.l z (O5 o),H,.int (s:Nat),.l false (O6 n.toNat λ_=>none),.u,.u,.u] (λK t=>qp0 (Ag rfl (y:=.int n) rfl (qaj1 ⋯ n2)) t) ?_;refine qb0 [Ae n wr j,.l z (O5 o),H,.int (s:Nat),.l false (O6 n.toNat λ_=>none),.int (-1),.u,.u] (λK t=>t) ?_;refine qc1 (λv=>∃g d5 I J,v=[Ae n wr j,.l z (O5 o),H,.int (s:Nat),rL n g,d5,I,J]/\Kept n.toNat wr (O3 n j) g o) (λK t=>?_) ?_
 .refine Kb (qd7 (qa0 (a:=D.l z (O5 o)) rfl (qa0 (a:=O5 o) rfl ⟨qd0 o,?_⟩)));refine qh3 (λι=>∃d,ι=[d,.int (s:Nat),Ae n wr j]) (λx=>some (match x with | .int k=>.q [.int (Aa n.toNat (s%n.toNat) (O3 n j k):Nat),.int k] | d=>d)) _ [] _ (by show 0+_<1000000;rw[qg6];lia) ⟨_,rfl⟩ ?_ ?_;{rintro y U ι a4 ⟨d,rfl⟩ R hR V;obtain⟨k,_,rfl⟩:=zAx.mp U;have this:=hR [.int k,.int (s:Nat),Ae n wr j] ⟨_,rfl⟩;refine qj6 (qQ3 (Dt rfl (qd7 (qR1 (qR1 (qr9 (x:=Ae n wr j) (y:=.int k) (d:=.int (qb4 n j k)) rfl rfl rfl ⟨n,wr,j,k,rfl,M,nd,rfl⟩ rfl ?_))))));refine qa0 (a:=D.int (qb4 n j k-(s:Nat))) rfl (qa0 (a:=D.int (Aa n.toNat (s%n.toNat) (O3 n j k):Nat)) ((Ef ⋯).trans ?_) (qb8 (y:=.int k) rfl rfl (qb6 ⟨lt2,V,this⟩)));have Y:=qaF1 (B k) hs;rw[qO9 M k,show ((n.toNat:Nat):Int)=n by lia] at Y;rw[Y]};rintro ι ⟨d,rfl⟩;rw[zAz,qK1];have O:((O5 o).map λx=>match x with | .int k=>D.q [.int (Aa n.toNat (s%n.toNat) (O3 n j k):Nat),.int k] | d=>d)=O7 (o.map λk=>((Aa n.toNat (s%n.toNat) (O3 n j k):Nat),k)):=by unfold O5 O7;rw[zC3,zC3];rfl
  rw[O];have pw:=qaX2 (f:=λk=>Aa n.toNat (s%n.toNat) (O3 n j k)) N;have Z:=qai2 (f:=λk=>Aa n.toNat (s%n.toNat) (O3 n j k)) (ks:=o);have of:=λp=>qai3 (f:=λk=>Aa n.toNat (s%n.toNat) (O3 n j k)) (ks:=o) (p:=p);have es:=qap6 (z:=false) (L:=o.map λk=>(((Aa n.toNat (s%n.toNat) (O3 n j k):Nat):Int),k)) rfl N ⋯;generalize Dr (o.map λk=>(((Aa n.toNat (s%n.toNat) (O3 n j k):Nat):Int),k))=L at pw Z of es;refine qb6 (qa0 (a:=D.l false (O7 L)) es (qa0 (a:=O7 L) rfl ⟨qC2 L,?_⟩));refine qd4 (λi v=>∃g top I J,v=[Ae n wr j,.l z (O5 o),H,.int (s:Nat),.l false (O6 n.toNat λi=>g (Aa n.toNat (s%n.toNat) i)),.int ((top:Nat)-1:Int),I,J]/\Fill n.toNat (λk=>Aa n.toNat (s%n.toNat) (O3 n j k)) g ((L.take i).map (·.2)) top) _ 0 _ ⟨_,0,_,_,rfl,Fill.start ⋯ λk=>qj1 (B k) G⟩ ?_ ?_
  .rintro i y U v ⟨g,top,I,J,rfl,F⟩ K2 W;rw[zAe] at F W;unfold O7 at U;rw[zB7] at U;obtain⟨⟨h0,k⟩,hp,rfl⟩:=zAa.mp U;obtain rfl:h0=((Aa n.toNat (s%n.toNat) (O3 n j k):Nat):Int):=of _ (zB0 hp);have a2:=(zA4.mp hp).1;have a3:L.map (·.2)=((L.take i).map (·.2)++[k])++(L.drop (i+1)).map (·.2):=by
    conv=>lhs;rw[<-zBh i L,zCi a2,(zA4.mp hp).2]
    simp
   have tk:(L.take (i+1)).map (·.2)=(L.take i).map (·.2)++[k]:=by rw[zBk,hp,zBa];rfl
   rw[a3] at pw Z;have A:∀x∈(L.take i).map (·.2),Jb (λk=>Aa n.toNat (s%n.toNat) (O3 n j k)) x k:=λx hx=>(List.pairwise_append.mp (List.pairwise_append.mp pw).1).2.2 x hx k (zAb.mpr rfl);have nk:¬k∈(L.take i).map (·.2):=λh=>by rcases A k h with z|z<;>lia
   have u:=F.room A λq c=>a1 q ((c.mono (L6 _ _)).perm Z);have F':=F.put nk A u;generalize er:max top (Aa n.toNat (s%n.toNat) (O3 n j k))=r at u F';refine qs1 (Au [Ae n wr j,.l z (O5 o),H,.int (s:Nat),.l false (O6 n.toNat λi=>g (Aa n.toNat (s%n.toNat) i)),.int ((top:Nat)-1:Int),.int (Aa n.toNat (s%n.toNat) (O3 n j k):Nat),.int k] rfl ?_);refine qb0 [Ae n wr j,.l z (O5 o),H,.int (s:Nat),.l false (O6 n.toNat λi=>g (Aa n.toNat (s%n.toNat) i)),.int (r:Nat),.int (Aa n.toNat (s%n.toNat) (O3 n j k):Nat),.int k] (λK t=>qp0 (d:=.int (r:Nat)) ?_ t) ?_;{show some (D.int (if ((Aa n.toNat (s%n.toNat) (O3 n j k):Nat):Int)>(top:Nat)-1+1 then ((Aa n.toNat (s%n.toNat) (O3 n j k):Nat):Int) else (top:Nat)-1+1))=_;congr 2;split<;>lia};have em:(((s:Nat):Int)+(r:Nat))%n=(rot n.toNat (s%n.toNat) r:Nat):=by have:((s+r:Nat):Int)%((n.toNat:Nat):Int)=((s+r)%n.toNat:Nat):=⋯;rw[show ((n.toNat:Nat):Int)=n by lia,Nat.add_mod,zCs u,qaw6 G u] at this;rw[<-this];congr 1
   refine qL7 (ys:=O6 n.toNat λi=>g (Aa n.toNat (s%n.toNat) i)) (d:=.int k) (k:=(rot n.toNat (s%n.toNat) r:Nat)) rfl rfl rfl (Ag (x:=.int ((s:Nat)+(r:Nat))) (y:=.int n) rfl rfl ((Ef ⋯).trans (by rw[em]))) (Ik (qT1 G u)) ?_;rw[qH9];have ec:O6 n.toNat (Row.set (λi=>g (Aa n.toNat (s%n.toNat) i)) (rot n.toNat (s%n.toNat) r) k)=O6 n.toNat λi=>Row.set g r k (Aa n.toNat (s%n.toNat) i):=qt1 λi hi=>by by_cases e:i=rot n.toNat (s%n.toNat) r;{subst e;rw[qc3,qs3 G u,qc3]};rw[qe2 e,qe2 λz=>e (by rw[<-z,qq7 G hi])]
   refine W _ ⟨_,r+1,.int (Aa n.toNat (s%n.toNat) (O3 n j k):Nat),.int k,?_,by rw[tk];exact F'⟩;rw[<-ec,show (((r+1:Nat):Int)-1)=((r:Nat):Int) by lia];rfl
  rintro v ⟨g,top,I,J,rfl,F⟩;have X:(O7 L).length=L.length:=zA5 _;rw[zAe,X,zCd] at F;refine t _ ⟨_,_,_,_,rfl,?_⟩;have K1:=F.k.of_perm Z;cases wr with|true=>exact K1.turn G B|false=>obtain rfl:=E rfl;rw[Nat.zero_mod] at K1 ⊢;rw[show (λk=>Aa n.toNat 0 (O3 n j k))=O3 n j from funext λk=>Hc] at K1;rw[show (λi=>g (Aa n.toNat 0 i))=g from funext λi=>by rw[Hc]];exact K1
 rintro v ⟨g,d5,I,J,rfl,KP⟩;exact q' nc g KP
theorem qc8:qa8 ["_law_bag_here", "_law_size", "_law_many", "_law_way", "_law_one", "_law_other", "_law_homes", "_law_k", "_law_some"] ["_law_bag_here", "_law_size", "_law_many"] (qa3 ql2):=by walk_at "s"
def qD7:VSp:=λds Q _=>∃b n m ns,ds=[b,.int n,.int m]/\Pf ns b/\1<=n/\n<=64/\0<=m/\m<=100/\∀c a,Pf ns c->(∀h∈a,0<=h/\h<n)->a.length=m.toNat->Q (kL a) [c,.int n,.u]
theorem qaU8{x y:Int}(c:0<=i)(h1:i<2){P:Int->Prop}(d:P x)(e:P y):∃v,atI [D.int x,D.int y] i=some (.int v)/\P v:=by obtain⟨v,a,b⟩:=qP9 (xs:=[D.int x,D.int y]) c h1;simp only[zAh,zBg,zCv] at a;rcases a with rfl|rfl;{exact⟨x,b,d⟩};exact⟨y,b,e⟩
theorem qY6{x y w:Int}(c:0<=i)(h1:i<4){P:Int->Prop}(d:P x)(e:P y)(f:P z)(g:P w):∃v,atI [D.int x,D.int y,D.int z,D.int w] i=some (.int v)/\P v:=by obtain⟨v,b,a⟩:=qP9 (xs:=[D.int x,D.int y,D.int z,D.int w]) c h1;simp only[zAh,zBg,zCv] at b;rcases b with rfl|rfl|rfl|rfl;{exact⟨x,a,d⟩};{exact⟨y,a,e⟩};{exact⟨z,a,f⟩};exact⟨w,a,g⟩
theorem qE5(T:Txt K mg a):VFn P w K mg base 2 a.f44 a.d44 ["_law_bag_here", "_law_size", "_law_many"] qD7:=by
 refine VFn.mk' T.d44.F qc8 (wOf [true,true,true]) (λc Q Q' M X Y _ h=>by obtain⟨b,n,m,j,e,N,O,R,A,Z,q⟩:=h;exact⟨b,n,m,j,e,N,O,R,A,Z,λs f S a2 a3=>Y _ _ (q s f S a2 a3)⟩) (λc Q M h=>by obtain⟨b,n,m,j,e,_⟩:=h;rw[e];rfl) (λc Q M h=>by obtain⟨b,n,m,j,e,⟨x,y,z,eb,_⟩,_⟩:=h;rw[e,eb];rfl) (λ_ _ _ _ _ _ _ C=>⟨_,(Ab (Am 3 qc8.nd (Ak T.d40 (qb7 T) qa1 (rm C) (vaN 0 (vaV (qa5 Af) Ac)))) (Ab (Am 4 qc8.nd (Ak T.d40 (qb7 T) qa1 (rm C) (vaN 0 (vaN 1 Ac)))) (Ab (Am 5 qc8.nd (Ak T.d40 (qb7 T) qa1 (rm C) (vaN 0 (vaN 1 Ac)))) (Ab (Am 6 qc8.nd (qa5 (Bz qa6))) (Ab (qS2 N9 T.Ci (Ev (vaN 2 Ac)) (A9 7 qc8.nd) (Ab (Am 8 qc8.nd (Gx (vaV (Ak T.d40 (qb7 T) qa1 (rm C) (vaN 0 (vaN 1 Ac))) (vaV (qb3 (vnm 4)) (vaV (e2 (Al qr0) qq9 (qa5 (v2 (Al qr0) qq9 (vnm 1) Af)) (Ak T.d40 (qb7 T) qa1 (rm C) (vaN 0 (vaV (qa5 (vbi (qL2 rfl) qan1.ops T.Cz (qa2 Af (qa2 (vnm 1) qa6 rfl) rfl))) Ac)))) (vaV (qa5 (v2 (Aw qb5) Ap (Bz (qa2 (vnm 4) (qa2 (vnm 5) qa6 rfl) rfl)) (v2 (Al qn5) qn4 (vnm 7) Af))) Ac)))))) (Aj (Be (B7 6 qr3 Oc Oe Of qc9 (vaV (qb3 (v2 (Aw qb5) Ap (vnm 8) (vnm 3))) Ac)))))) (Aj (Av (emv 6)))))))),λc Q M h=>?_⟩);obtain⟨b,n,m,j,rfl,B,n1,n2,m0,m1,q⟩:=h;refine Au [b,.int n,.int m,.u,.u,.u,.u,.u,.u] rfl ?_;refine qc1 (λc=>∃b w,c=[b,.int n,.int m,.int w,.u,.u,.u,.u,.u]/\Pf j b/\0<=w/\w<4) (λK g=>?_) ?_;{exact qc4 rfl B rfl ∅ ∅ λv s E G B'=>g _ ⟨s,v,rfl,B',E,G⟩};rintro c ⟨b,way,rfl,B,w0,w1⟩;refine qc1 (λc=>∃b o,c=[b,.int n,.int m,.int way,.int o,.u,.u,.u,.u]/\Pf j b/\0<=o/\o<n) (λK g=>?_) ?_;{exact qy8 (m:=n) rfl B rfl ∅ ⋯ ⋯ λv s E G B'=>g _ ⟨s,v,rfl,B',E,G⟩};rintro c ⟨b,o,rfl,B,V,W⟩;refine qc1 (λc=>∃b p,c=[b,.int n,.int m,.int way,.int o,.int p,.u,.u,.u]/\Pf j b/\0<=p/\p<n) (λK g=>?_) ?_;{exact qy8 (m:=n) rfl B rfl ∅ ⋯ ⋯ λv s E G B'=>g _ ⟨s,v,rfl,B',E,G⟩};rintro c ⟨b,p,rfl,B,p0,p1⟩;refine qb0 [b,.int n,.int m,.int way,.int o,.int p,kL [],.u,.u] (λK g=>g) ?_;refine qc1 (λc=>∃b f t k,c=[b,.int n,.u,.int way,.int o,.int p,kL f,t,k]/\Pf j b/\(∀h∈f,0<=h/\h<n)/\f.length=m.toNat) (λK g=>?_) ?_
 .refine qat1 (n:=m) rfl (J0 ⋯ ⋯) ?_;refine qd4 (λi c=>∃b f t k,c=[b,.int n,.u,.int way,.int o,.int p,kL f,t,k]/\Pf j b/\(∀h∈f,0<=h/\h<n)/\f.length=i) _ 0 _ ⟨b,[],_,_,rfl,B,nofun,rfl⟩ ?_ ?_
  .rintro i x hx c ⟨b,f,t,k,rfl,B,U,L⟩ K2 H;rw[zAe] at L H;obtain⟨hi,rfl⟩:=qT2 hx;refine Au [b,.int n,.u,.int way,.int o,.int p,kL f,.int (i:Nat),k] rfl ?_;refine qc1 (λc=>∃b u I l r,c=[b,.int n,.u,.int way,.int o,.int p,kL f,.int (i:Nat),.l false [.int u,.int I,.int l,.int r]]/\Pf j b/\(0<=u/\u<n)/\(0<=I/\I<n)/\(0<=l/\l<n)/\(0<=r/\r<n)) (λK g=>?_) ?_
   .refine qd5 (qB8 (qd7 ?_));refine qy8 (ds:=[b,.int n,.u,.int way,.int o,.int p,kL f,.int (i:Nat),k]) (m:=n) rfl B rfl ∅ ⋯ ⋯ λu b1 a0 S B1=>?_;refine qb8 (y:=.int o) rfl rfl (qd7 (qx8 (x:=.int (n-1)) rfl ?_));refine qc4 (ds:=[b1,.int n,.u,.int way,.int o,.int p,kL f,.int (i:Nat),k]) (m:=if n<4 then n else 4) rfl B1 rfl (by split<;>lia) (by split<;>lia) λl b2 c0 c1 B2=>?_;have c2:l<n:=by revert c1;split<;>lia
    refine qa0 (a:=D.int (n-1-l)) rfl ?_;obtain⟨r,e4,A⟩:=qaU8 (x:=o) (y:=p) (i:=((i:Nat):Int)%2) ⋯ ⋯ (P:=λv=>0<=v/\v<n) ⟨V,W⟩ ⟨p0,p1⟩;refine qk0 (y:=.int r) (Ag (x:=.l false [.int o,.int p]) rfl (Ag (x:=.int (i:Nat)) (y:=.int 2) rfl rfl (Ef ∅)) e4) (qb6 ⟨lt4,?_⟩);exact g _ ⟨b2,u,o,n-1-l,r,rfl,B2,⟨a0,S⟩,⟨V,W⟩,⟨⋯,⋯⟩,A⟩
   rintro c ⟨b,u,I,l,r,rfl,B,N,O,R,A⟩;obtain⟨v,ev,hv⟩:=qY6 (P:=λv=>0<=v/\v<n) w0 w1 N O R A;refine qao1 (ys:=O5 f) (d:=.int v) rfl (Ag (x:=.l false [.int u,.int I,.int l,.int r]) rfl rfl ev) rfl (by rw[qg6];unfold big;lia) ?_;rw[qG6];refine H _ ⟨b,f++[v],_,_,rfl,B,λh J=>?_,by rw[zA8,L];rfl⟩;rcases zA6.mp J with J|J;{exact U h J};rw[zAb.mp J];exact hv
  rintro c ⟨b,f,t,k,rfl,h⟩;rw[zAe,qak4] at h;exact g _ ⟨b,f,t,k,rfl,h⟩
 rintro c ⟨b,f,t,k,rfl,B,U,L⟩;exact q b f B U L
theorem qe4:qa8 ["_law_bag_here", "_law_most", "_law_way", "_law_size", "_law_wraps", "_law_many", "_law_told", "_law_great", "_law_keys", "_law_home_here", "_law_key", "_law_homes", "_law_number"] ["_law_bag_here", "_law_most"] (qa3 qS9):=by walk_at "s"
def qap5:VSp:=λds Q _=>∃b M ns,ds=[b,.int M]/\Pf ns b/\1<=M/\M<=64/\∀a n wr ps ks,Pf ns a->1<=n->n<=64->qL4 ps->ks.Nodup->(∀k∈ks,An k)->ks.length<=66->(∃t,ps.map (·.1)=ks.take t)->Q (.q [Ae n wr ps,kL ks]) [a,.int M]
theorem qaB2{x y:Int}(c:0<=i)(h1:i<3){P:Int->Prop}(d:P x)(e:P y)(f:P z):∃v,atI [D.int x,D.int y,D.int z] i=some (.int v)/\P v:=by obtain⟨v,b,a⟩:=qP9 (xs:=[D.int x,D.int y,D.int z]) c h1;simp only[zAh,zBg,zCv] at b;rcases b with rfl|rfl|rfl;{exact⟨x,a,d⟩};{exact⟨y,a,e⟩};exact⟨z,a,f⟩
theorem qaS5{x:Int}(b:0<=i)(h1:i<5)(d:0<=x/\x<=64):∃v,atI [D.int 0,D.int 0,D.int 1,D.int 6,D.int x] i=some (.int v)/\0<=v/\v<=64:=by obtain⟨v,a,c⟩:=qP9 (xs:=[D.int 0,D.int 0,D.int 1,D.int 6,D.int x]) b h1;simp only[zAh,zBg,zCv] at a;rcases a with rfl|rfl|rfl|rfl|rfl<;>exact⟨_,c,⋯,⋯⟩
theorem qah1{m:Int}:O7 ps++[.q [.int k,.int m]]=O7 (ps++[(k,m)]):=by unfold O7;rw[zBa];rfl
theorem qO3(ps:Pr):(O7 ps).length=ps.length:=zA5 _
abbrev qe8 (M) (way) (n:Int) (wr:Bool) (told) (gr) (p0 d e f a b c:D):=([p0,.int M,.int way,.int n,.bl wr,d,.int told,.int gr,e,f,a,b,c]:Ds)
theorem qar2(T:Txt K mg a):VFn P w K mg base 3 a.f45 a.d45 ["_law_bag_here", "_law_most"] qap5:=by
 refine VFn.mk' T.d45.F qe4 (wOf [true,true]) (λc Q Q' xe a9 hQ _ h=>by obtain⟨b,M,s,e,h1,h2,h3,q⟩:=h;exact⟨b,M,s,e,h1,h2,h3,λO n wr j f a1 H a3 a4 a5 a6 a7 zz=>hQ _ _ (q O n wr j f a1 H a3 a4 a5 a6 a7 zz)⟩) (λc Q xe ⟨b,M,s,e,_⟩=>by rw[e];rfl) (λc Q xe h=>by obtain⟨b,M,s,e,⟨x,y,z,eb,_⟩,_⟩:=h;rw[e,eb];rfl) (λ_ _ _ _ _ _ _ t=>⟨_,(Ab (Am 2 qe4.nd (Ak T.d40 (qb7 T) qa1 (rm t) (vaN 0 (vaV (qa5 Af) Ac)))) (Ab (Am 3 qe4.nd (e2vP (Aw qb5) Ap (Gx (vaV (e2 (Al qg0) qf9 (qa5 Af) (Ak T.d40 (qb7 T) qa1 (rm t) (vaN 0 (vaV (qa5 (vbi (qL2 rfl) qan1.ops T.Cz (qa2 Af (qa2 (vnm 1) qa6 rfl) rfl))) Ac)))) (vaV (e2 (Al qg0) qf9 (qa5 Af) (Ak T.d40 (qb7 T) qa1 (rm t) (vaN 0 (vaV (qa5 (vbi (qL2 rfl) qan1.ops T.Cz (qa2 Af (qa2 (vnm 1) qa6 rfl) rfl))) Ac)))) (vaV (e2 (Al qg0) qf9 (qa5 Af) (Ak T.d40 (qb7 T) qa1 (rm t) (vaN 0 (vaN 1 Ac)))) (vaV (qb3 (vnm 1)) Ac))))) (vnm 2))) (Ab (Am 4 qe4.nd (e2v (A6 (qm6 t.u64) (qa9 _)) Bq (Ak T.d40 (qb7 T) qa1 (rm t) (vaN 0 (vaV (qa5 Af) Ac))) Af)) (Ab (Am 5 qe4.nd (e2P (Aw qb5) Ap (Gx (vaV (qb3 (vnm 3)) (vaV (qa5 (v2 (Al qg0) qf9 (vnm 3) Af)) (vaV (qa5 (v2 (Al qg0) qf9 Af (v2 (Al qT4) qaE2 (v2 (Al qB2) qB1 (vnm 3) Af) Af))) (vaV (Ak T.d40 (qb7 T) qa1 (rm t) (vaN 0 (vaV (qa5 (v2 (Al qg0) qf9 (vnm 3) Af)) Ac))) Ac))))) (Ak T.d40 (qb7 T) qa1 (rm t) (vaN 0 (vaV (qa5 Af) Ac))))) (Ab (Am 6 qe4.nd (e2P (Aw qb5) Ap (qa5 (Bz (qa2 Af (qa2 Af (qa2 Af (qa2 Af (qa2 Af qa6 rfl) rfl) rfl) rfl) rfl))) (Ak T.d40 (qb7 T) qa1 (rm t) (vaN 0 (vaV (qa5 Af) Ac))))) (Ab (Am 7 qe4.nd (e2P (Aw qb5) Ap (qa5 (Bz (qa2 Af (qa2 Af (qa2 Af (qa2 (vpow 10000000000000000) qa6 rfl) rfl) rfl) rfl))) (Ak T.d40 (qb7 T) qa1 (rm t) (vaN 0 (vaV (qa5 Af) Ac))))) (Ab (Am 8 qe4.nd (qa5 (Bz qa6))) (Ab (Ft N9 (Ak T.d44 (qE5 T) qa1 (rm t) (vaN 0 (vaN 3 (vaN 5 Ac)))) (A9 9 qe4.nd) (Ab (Am 10 qe4.nd (e2n 9 (Al qg0) qf9 (e2n 3 (Al qB2) qB1 (Ak T.d40 (qb7 T) qa1 (rm t) (vaN 0 (vaN 7 Ac)))))) (Aj (sif (q2 (As ql5 (by with_unfolding_all rfl)) Fo (vnm 10) (vnm 8)) (Aj (Be (B7 8 qr3 Oc Oe Of qc9 (vaN 10 Ac)))) A4)))) (Ab (Am 11 qe4.nd (qa5 (Bz qa6))) (Ab (Ft N9 (qa5 (vsl (vnm 8) Hh (Hi (vnm 6)))) (A9 10 qe4.nd) (Ab (Am 12 qe4.nd (e2P (Aw qb5) Ap (Gx (vaV (Ak T.d40 (qb7 T) qa1 (rm t) (vaN 0 (vaN 3 Ac))) (vaV (e2 (Al qr0) qq9 (qa5 (vpow 1000000000000000000)) (Ak T.d40 (qb7 T) qa1 (rm t) (vaN 0 (vaN 3 Ac)))) (vaV (Ak T.d40 (qb7 T) qa1 (rm t) (vaN 0 (vaV (qa5 (vpow 1000000000000000000)) Ac))) Ac)))) (Ak T.d40 (qb7 T) qa1 (rm t) (vaN 0 (vaV (qa5 Af) Ac))))) (Aj (Be (B7 11 qr3 Oc Oe Of qc9 (vaV (qa5 (Dy (qa2 (vnm 10) (qa2 (vnm 12) qa6 rfl) rfl))) Ac)))))) (Aj (Av (Gy (vaV (Gy (vaV (qb3 (vnm 3)) (vaV (qb3 (vnm 4)) (vaV (efz 11) Ac)))) (vaV (emv 8) Ac))))))))))))))),λc Q xe h=>?_⟩);obtain⟨b,M,s,rfl,B,M0,M1,q⟩:=h;refine Au [b,.int M,.u,.u,.u,.u,.u,.u,.u,.u,.u,.u,.u] rfl ?_;refine qc1 (λc=>∃b way,c=[b,.int M,.int way,.u,.u,.u,.u,.u,.u,.u,.u,.u,.u]/\Pf s b/\0<=way/\way<4) (λK o=>?_) ?_;{exact qc4 rfl B rfl ∅ ∅ λv O X v1 B'=>o _ ⟨O,v,rfl,B',X,v1⟩};rintro c ⟨b,way,rfl,B,w0,w1⟩;refine qc1 (λc=>∃b n,c=[b,.int M,.int way,.int n,.u,.u,.u,.u,.u,.u,.u,.u,.u]/\Pf s b/\1<=n/\n<=64) (λK o=>?_) ?_
 .refine qd5 (qaK3 (qB8 (qd7 (qx8 (x:=.int 1) rfl ?_))));refine qc4 (ds:=[b,.int M,.int way,.u,.u,.u,.u,.u,.u,.u,.u,.u,.u]) (m:=if M<8 then M else 8) rfl B rfl (by split<;>lia) (by split<;>lia) λR L a1 c1 B1=>?_;have e1:R<M:=by revert c1;split<;>lia
  refine qa0 (a:=D.int (1+R)) rfl (qd7 (qx8 (x:=.int 1) rfl ?_));refine qc4 (ds:=[L,.int M,.int way,.u,.u,.u,.u,.u,.u,.u,.u,.u,.u]) (m:=if M<16 then M else 16) rfl B1 rfl (by split<;>lia) (by split<;>lia) λI J H N B2=>?_;have e2:I<M:=by revert N;split<;>lia
  refine qa0 (a:=D.int (1+I)) rfl (qd7 (qx8 (x:=.int 1) rfl ?_));refine qy8 (ds:=[J,.int M,.int way,.u,.u,.u,.u,.u,.u,.u,.u,.u,.u]) (m:=M) rfl B2 rfl ∅ ⋯ ⋯ λx3 b3 a3 c3 B3=>?_;refine qa0 (a:=D.int (1+x3)) rfl (qb8 (y:=.int M) rfl rfl (qb6 ⟨lt4,qa0 (a:=D.int way) rfl ⟨rfl,?_⟩⟩));obtain⟨n,en,hn⟩:=qY6 (P:=λv=>1<=v/\v<=64) w0 w1 (x:=1+R) (y:=1+I) (z:=1+x3) (w:=M) ⟨⋯,⋯⟩ ⟨⋯,⋯⟩ ⟨⋯,⋯⟩ ⟨M0,M1⟩;exact qa0 en (o _ ⟨b3,n,rfl,B3,hn.1,hn.2⟩)
 rintro c ⟨b,n,rfl,B,n1,n2⟩;refine qc1 (λc=>∃b wr,c=[b,.int M,.int way,.int n,.bl wr,.u,.u,.u,.u,.u,.u,.u,.u]/\Pf s b) (λK o=>?_) ?_;{refine qd5 (qR1 (qc4 rfl B rfl ∅ ∅ λv O X v1 B'=>?_));exact qa0 (a:=D.bl (decide (v=1))) rfl (o _ ⟨O,_,rfl,B'⟩)};rintro c ⟨b,wr,rfl,B⟩;refine qc1 (λc=>∃b m,c=[b,.int M,.int way,.int n,.bl wr,.int m,.u,.u,.u,.u,.u,.u,.u]/\Pf s b/\0<=m/\m<=66) (λK o=>?_) ?_;{refine qd5 (qaK4 (qB8 (qb8 (y:=.int n) rfl rfl (qk0 (y:=.int (n+2)) rfl (qk0 (y:=.int (1+n*3/4)) (Ag (x:=.int 1) rfl (Ag (x:=.int (n*3)) (y:=.int 4) (Ag (x:=.int n) (y:=.int 3) rfl rfl (J1 ∅)) rfl (qaI0 ∅ ∅)) rfl) (qd7 ?_))))));refine qc4 (ds:=[b,.int M,.int way,.int n,.bl wr,.u,.u,.u,.u,.u,.u,.u,.u]) (m:=n+1) rfl B rfl ⋯ ⋯ λR L a1 c1 B1=>?_;refine qb6 ⟨lt4,?_⟩;refine qc4 (ds:=[L,.int M,.int way,.int n,.bl wr,.u,.u,.u,.u,.u,.u,.u,.u]) (m:=4) rfl B1 rfl ∅ ∅ λI J H N B2=>?_;obtain⟨m,Y,A⟩:=qY6 (P:=λv=>0<=v/\v<=66) H N (x:=n) (y:=n+2) (z:=1+n*3/4) (w:=R) ⟨⋯,⋯⟩ ⟨⋯,⋯⟩ ⟨⋯,⋯⟩ ⟨⋯,⋯⟩;exact qa0 Y (o _ ⟨J,m,rfl,B2,A.1,A.2⟩)};rintro c ⟨b,m,rfl,B,m0,m1⟩;refine qc1 (λc=>∃b told,c=[b,.int M,.int way,.int n,.bl wr,.int m,.int told,.u,.u,.u,.u,.u,.u]/\Pf s b/\0<=told/\told<=64) (λK o=>?_) ?_;{refine qd5 (qx8 (x:=.l false [.int 0,.int 0,.int 1,.int 6,.int 64]) rfl (qc4 (ds:=[b,.int M,.int way,.int n,.bl wr,.int m,.u,.u,.u,.u,.u,.u,.u]) (m:=5) rfl B rfl ∅ ∅ λI J H N B2=>?_));obtain⟨m,Y,A⟩:=qaS5 (x:=64) H N ∅;exact qa0 Y (o _ ⟨J,m,rfl,B2,A.1,A.2⟩)};rintro c ⟨b,told,rfl,B,t0,t1⟩;refine qc1 (λc=>∃b r,c=(qe8 M way n wr told r b (.int m) .u .u .u .u .u)/\Pf s b/\1<=r/\r<=10000000000000000) (λK o=>?_) ?_;{refine qd5 (qx8 (x:=.l false [.int 9,.int 9,.int 9,.int 10000000000000000]) rfl (qc4 (ds:=[b,.int M,.int way,.int n,.bl wr,.int m,.int told,.u,.u,.u,.u,.u,.u]) (m:=4) rfl B rfl ∅ ∅ λI J H N B2=>?_));obtain⟨m,Y,A⟩:=qY6 (P:=λv=>1<=v/\v<=10000000000000000) H N (x:=9) (y:=9) (z:=9) (w:=10000000000000000) ∅ ∅ ∅ ∅;exact qa0 Y (o _ ⟨J,m,rfl,B2,A.1,A.2⟩)};rintro c ⟨b,r,rfl,B,g0,g1⟩;refine qb0 (qe8 M way n wr told r b (.int m) (kL []) .u .u .u .u) (λK o=>o) ?_;refine qc1 (λc=>∃b f u g,c=(qe8 M way n wr told r b .u (kL f) u g .u .u)/\Pf s b/\f.Nodup/\(∀k∈f,An k)/\f.length<=66) (λK o=>?_) ?_
 .refine qbc0 (x:=b) (y:=.int n) (w:=.int m) (qk2 rfl B.known) rfl rfl rfl (qk2 rfl B.known) ⟨b,n,m,s,rfl,B,n1,n2,m0,⋯,λL hs B1 hh hl=>?_⟩;refine qa0 (a:=(qe8 M way n wr told r L .u (kL []) .u .u .u .u)) rfl (qa0 (a:=O5 hs) rfl ⟨qd0 hs,?_⟩);refine qd4 (λi c=>∃b f u g,c=(qe8 M way n wr told r b .u (kL f) u g .u .u)/\Pf s b/\f.Nodup/\(∀k∈f,An k)/\f.length<=i) _ 0 _ ⟨L,[],_,_,rfl,B1,No,nofun,zA3 _⟩ ?_ ?_
  .rintro i x S c ⟨b,f,u,g,rfl,B,U,V,C⟩ K2 E;rw[zAe] at C E;obtain⟨h,hi,rfl⟩:=qO5 S;obtain⟨h0,h1⟩:=hh h (zB0 hi);have a0:i<66:=by have:=(zA4.mp hi).1;lia
   refine qj6 (Au (qe8 M way n wr told r b .u (kL f) (.int h) g .u .u) rfl ?_);refine qc1 (λc=>∃b W,c=(qe8 M way n wr told r b .u (kL f) (.int h) (.int W) .u .u)/\Pf s b/\An W) (λK o=>?_) ?_;{refine qd5 ⟨rfl,rfl,?_⟩;refine qy8 (ds:=[b,.int M,.int way,.int n,.bl wr,.u,.int told,.int r,kL f,.int h,g,.u,.u]) (m:=r) rfl B rfl ∅ ⋯ ⋯ λv O X v1 B'=>?_;have e2:0<=n*v:=Int.mul_nonneg ⋯ X;have e3:n*v<=64*v:=Int.mul_le_mul_of_nonneg_right n2 X;exact qa0 (a:=D.int (n*v)) (mulL (qS0 ⋯ ⋯)) (qa0 (a:=D.int (h+n*v)) rfl (o _ ⟨O,h+n*v,rfl,B',⋯,⋯⟩))};rintro c ⟨b,W,rfl,B,a8⟩;refine if_v (b:=!decide (W∈f)) (Ag rfl rfl qai7) (λhb=>?_) λhb=>E _ ⟨b,f,_,_,rfl,B,U,V,⋯⟩;have A:¬W∈f:=λz=>by rw[zAg z] at hb;cases hb
   refine qaJ1 (ys:=O5 f) (d:=.int W) rfl rfl rfl ∅ (by rw[qg6];unfold big;lia) ?_;rw[qG6];refine E _ ⟨b,f++[W],_,_,rfl,B,zBj.mpr ⟨U,(by simp),λx S y hy e=>A (by rw[<-zAb.mp hy,<-e];exact S)⟩,λx S=>?_,by rw[zA8];exact Nat.add_le_add_right C 1⟩;rcases zA6.mp S with h|h;{exact V x h};rw[zAb.mp h];exact a8
  rintro c ⟨b,f,u,g,rfl,B,U,V,C⟩;rw[zAe,qg6] at C;exact o _ ⟨b,f,u,g,rfl,B,U,V,⋯⟩
 rintro c ⟨b,f,u,g,rfl,B,U,V,C⟩;refine qb0 (qe8 M way n wr told r b .u (kL f) u g (.l false (O7 [])) .u) (λK o=>o) ?_;refine qc1 (λc=>∃b j g l,c=(qe8 M way n wr told r b .u (kL f) u g (.l false (O7 j)) l)/\Pf s b/\j.map (·.1)=f.take told.toNat/\∀p∈j,An p.2) (λK o=>?_) ?_
 .have ec:By (O5 f) none (some told)=O5 (f.take told.toNat):=by rw[show told=((told.toNat:Nat):Int) by lia,qK7,Int.toNat_natCast];unfold O5;rw[Mc]
  refine qn7 (qbb7 rfl rfl rfl ec) (qa0 (a:=O5 (f.take told.toNat)) rfl ⟨qd0 _,?_⟩);refine qd4 (λi c=>∃b j g l,c=(qe8 M way n wr told r b .u (kL f) u g (.l false (O7 j)) l)/\Pf s b/\j.map (·.1)=(f.take told.toNat).take i/\∀p∈j,An p.2) _ 0 _ ⟨b,[],_,_,rfl,B,rfl,nofun⟩ ?_ ?_
  .rintro i x S c ⟨b,j,g,l,rfl,B,G,Z⟩ K2 E;rw[zAe] at G E;obtain⟨k,hi,rfl⟩:=qO5 S;have a0:j.length<=64:=by have:=congrArg Lv G;simp at this;lia
   refine qj6 (Au (qe8 M way n wr told r b .u (kL f) u (.int k) (.l false (O7 j)) l) rfl ?_);refine qc1 (λc=>∃b v,c=(qe8 M way n wr told r b .u (kL f) u (.int k) (.l false (O7 j)) (.int v))/\Pf s b/\An v) (λK o=>?_) ?_;{refine qd5 (qaK4 (qB8 (qd7 ?_)));refine qy8 (ds:=[b,.int M,.int way,.int n,.bl wr,.u,.int told,.int r,kL f,u,.int k,.l false (O7 j),l]) (m:=n) rfl B rfl ∅ ⋯ ⋯ λR L a1 c1 B1=>qd7 (qx8 (x:=.int 1000000000000000000) rfl ?_);refine qy8 (ds:=[L,.int M,.int way,.int n,.bl wr,.u,.int told,.int r,kL f,u,.int k,.l false (O7 j),l]) (m:=n) rfl B1 rfl ∅ ⋯ ⋯ λI J H N B2=>qa0 (a:=D.int (1000000000000000000-I)) rfl (qd7 ?_);refine qc4 (ds:=[J,.int M,.int way,.int n,.bl wr,.u,.int told,.int r,kL f,u,.int k,.l false (O7 j),l]) (m:=1000000000000000000) rfl B2 rfl ∅ ∅ λx3 b3 a3 c3 B3=>qb6 ⟨lt3,?_⟩;refine qc4 (ds:=[b3,.int M,.int way,.int n,.bl wr,.u,.int told,.int r,kL f,u,.int k,.l false (O7 j),l]) (m:=3) rfl B3 rfl ∅ ∅ λx4 b4 a4 c4 B4=>?_;obtain⟨v,ev,hv⟩:=qaB2 (P:=An) a4 c4 (x:=R) (y:=1000000000000000000-I) (z:=x3) ⟨⋯,⋯⟩ ⟨⋯,⋯⟩ ⟨⋯,⋯⟩;exact qa0 ev (o _ ⟨b4,v,rfl,B4,hv⟩)};rintro c ⟨b,v,rfl,B,hv⟩;refine qH0 (ys:=O7 j) (d:=.q [.int k,.int v]) rfl rfl (by rw[qO3];unfold big;lia) ?_;rw[qah1];refine E _ ⟨b,j++[(k,v)],_,_,rfl,B,by rw[zBa,G,qy7 hi];rfl,λp A=>?_⟩;rcases zA6.mp A with h|h;{exact Z p h};rw[zAb.mp h];exact hv
  rintro c ⟨b,j,g,l,rfl,B,G,Z⟩;rw[zAe,qg6,zCd] at G;exact o _ ⟨b,j,g,l,rfl,B,G,Z⟩
 rintro c ⟨b,j,g,l,rfl,B,G,Z⟩;have hG:qL4 j:=⟨by have:=congrArg Lv G;simp at this;lia,by rw[G];exact U.sublist (zC4 _ _),λp A=>⟨V _ (zBe (by rw[<-G];exact Mj A)),Z p A⟩⟩;refine qg5 (qaJ9 (qaw0 (qb8 (y:=.int n) rfl rfl (qb8 (y:=.bl wr) rfl rfl (qd7 (qaU9 (d:=.l false (O7 j)) rfl (qb6 ⟨lt3,?_⟩)))))));refine qd7 (qa0 (a:=D.l false (O5 f)) rfl (qb6 ⟨lt2,?_⟩));have e:(D.l false (O7 j)).fz=.l true (O7 j):=congrArg (D.l true) (qx5 j);rw[e];exact q b n wr j f B n1 n2 hG U V C ⟨_,G⟩
theorem qv1:qa8 ["_law_plan", "_law_keys", "_law_found", "_law_key"] ["_law_plan", "_law_keys"] (qa3 qA8):=by walk_at "s"
def qab7:VSp:=λds Q _=>∃n wr ps z ks,ds=[Ae n wr ps,.l z (O5 ks)]/\1<=n/\n<=64/\(ps.map (·.1)).Nodup/\ks.Nodup/\ks.length<=100/\∀S,S.Sublist ks->(∀q,¬Crowd n.toNat wr (O3 n ps) S q)->Q (kL S) ds
theorem qG2(T:Txt K mg a):VFn P w K mg base 4 a.f46 a.d46 ["_law_plan", "_law_keys"] qab7:=by refine VFn.mk2 T.d46.F qv1 (wOf [true,true]) (by walk_at "m") (by walk_at "l") (λ_ _ _ _ _ _ _ H=>⟨_,(Ab (Am 2 qv1.nd (qa5 (Bz qa6))) (Ab (sforP N9 (vpn 1) (A9 3 qv1.nd) (Aj (sif (q2v (A6 qk3 (qa9 _)) (As qk3 (qa9 _)) qo8 (Ak T.d43 (qB5 T) qa1 (rm H) (vaN 0 (vaV (qa5 (v2 (Al qg0) qf9 (vnm 2) (Bz (qa2 (vnm 3) qa6 rfl)))) Ac))) Bf) (Aj (Be (B7 2 qr3 Oc Oe Of qc9 (vaN 3 Ac)))) A4))) (Aj (Av (emv 2))))),λj Q N h=>?_⟩);obtain⟨n,wr,c,z,f,rfl,E,I,J,r,L,q⟩:=h;refine Au [Ae n wr c,.l z (O5 f),.u,.u] rfl ?_;refine qb0 [Ae n wr c,.l z (O5 f),kL [],.u] (λK t=>t) ?_;refine qc1 (λj=>∃S o,j=[Ae n wr c,.l z (O5 f),kL S,o]/\S.Sublist f/\∀q,¬Crowd n.toNat wr (O3 n c) S q) (λK t=>?_) ?_;{refine qa0 (a:=(1,[])) rfl (qa0 (a:=D.l z (O5 f)) rfl (qa0 (a:=O5 f) rfl ⟨qd0 f,λw=>?_⟩));refine qd4 (λi j=>∃S o,j=[Ae n wr c,.hole w,kL S,o]/\S.Sublist (f.take i)/\∀q,¬Crowd n.toNat wr (O3 n c) S q) _ 0 _ ⟨[],_,rfl,.slnil,λq=>(Kept.none ⋯ (Fn E)).no_crowd q⟩ ?_ ?_;{rintro i y u j ⟨S,o,rfl,b,s⟩ K2 p;rw[zAe] at b p;obtain⟨k,v,rfl⟩:=qO5 u;have A:¬k∈S:=λz=>qU0 r v (b.subset z);have B:S.Nodup:=r.sublist (b.trans (zC4 _ _));have G:S.length<=100:=zAl (b.trans (zC4 _ _)).length_le L;refine qj6 (Au [Ae n wr c,.hole w,kL S,.int k] rfl ?_);refine qA9 (qg7 (qc0 (x:=Ae n wr c) rfl (qk0 (y:=kL (S++[k])) (Ag (x:=kL S) (y:=kL [k]) rfl rfl (qav6 (by show _+1<=1000;lia))) (qb6 (qa0 (a:=Ae n wr c) rfl ?_)))));refine⟨n,wr,c,false,S++[k],rfl,E,I,J,zBj.mpr ⟨B,(by simp),λx M y u e=>A (by rw[<-zAb.mp u,<-e];exact M)⟩,by rw[zA8];show _+1<=200;lia,λ_=>?_,λC g _=>?_⟩;{refine qa0 (a:=[Ae n wr c,.hole w,kL S,.int k]) rfl (qa0 (a:=D.bl false) rfl (qa0 (a:=false) rfl (Da ∅ (p _ ⟨S,_,rfl,b.trans ?_,s⟩))));rw[qy7 v];exact L6 _ _};refine qa0 (a:=[Ae n wr c,.hole w,kL S,.int k]) rfl (qa0 (a:=D.bl true) rfl (qa0 (a:=true) rfl (Dt rfl ?_)));refine qaJ1 (ys:=O5 S) (d:=.int k) rfl rfl rfl ∅ (by rw[qg6];unfold big;lia) ?_;rw[qG6];refine p _ ⟨S++[k],_,rfl,?_,C⟩;rw[qy7 v];exact b.append (List.Sublist.refl _)};rintro j ⟨S,o,rfl,b,s⟩;rw[zAe,qg6,zCd] at b;exact qa0 (qaA5 rfl) (t _ ⟨S,o,rfl,b,s⟩)};rintro j ⟨S,o,rfl,b,s⟩;exact q S b s
theorem qw9:qa8 ["_law_bag_here", "_law_plan", "_law_keys", "_law_way", "_law_one", "_law_other", "_law_at"] ["_law_bag_here", "_law_plan", "_law_keys"] (qa3 qaC3):=by walk_at "s"
def NCd(n:Int)(wr:Bool)(ps:Pr)(S:List Int):Prop:=∀q,¬Crowd n.toNat wr (O3 n ps) S q
def okL(n:Int)(wr:Bool)(ps:Pr)(ks S:List Int):Prop:=S.Nodup/\(∀x∈S,x∈ks)/\NCd n wr ps S
theorem okL.sub(h:okL n wr ps ks S)(s:T.Sublist S):okL n wr ps ks T:=⟨h.1.sublist s,λx a=>h.2.1 x (s.subset a),λq c=>h.2.2 q (c.mono s)⟩
theorem qas7{j:Int}(h:0<=j):gSl (.l z (O5 ks)) none (some j)=some (kL (ks.take j.toNat)):=by
 have e:By (O5 ks) none (some j)=O5 (ks.take j.toNat):=by rw[show j=((j.toNat:Nat):Int) by lia,qK7,Int.toNat_natCast];unfold O5;rw[Mc]
 show gd (D.imms (By (O5 ks) none (some j))=true) (.l false (By (O5 ks) none (some j)))=_;rw[e];exact qh4 (qd0 _)
theorem qaI2:By ys (some (r:Int)) none=ys.drop r:=by unfold By;rw[HT.qag6,HT.qT0];by_cases h:r<=ys.length;{rw[zCy h];exact zAs (by rw[zCe];lia)};rw[Nat.min_eq_right ⋯,Mb (zA3 _),Mb ⋯,List.take_nil]
theorem qba6{j:Int}(h:0<=j):gSl (.l z (O5 ks)) (some j) none=some (kL (ks.drop j.toNat)):=by
 have e:By (O5 ks) (some j) none=O5 (ks.drop j.toNat):=by rw[show j=((j.toNat:Nat):Int) by lia,qaI2,Int.toNat_natCast];unfold O5;rw[M5]
 show gd (D.imms (By (O5 ks) (some j) none)=true) (.l false (By (O5 ks) (some j) none))=_;rw[e];exact qh4 (qd0 _)
theorem ne_ks(ks:List Int):gNe (.l z (O5 ks)) (.l z' [])=some (.bl (!decide (ks=[]))):=by cases ks<;>rfl
theorem qah3{b:D}{m:Int}{K:Ds->Ds->Prop}(B:Pf ns b)(q:∀v:Int,∃t:Bool,g (.int v) (.int c)=some (.bl t))(w:xs.length<=100)(hm:0<m/\m<100)(h:∀b d L,Pf ns b->L.Sublist xs->K (O5 L) [d,b]):Dp (gNm 0) (ttE (t2v g (qk6 qH6 [] (tbN 1 (tbV (B6 (kC (.int m))) A7))) (kC (.int c)))) (Bu (rdN 0)) K (O5 xs) [] [d,b]:=by
 refine qaA4 (λi e ι=>∃b d L,ι=[d,b]/\Pf ns b/\e=O5 L/\L.Sublist (xs.take i)) _ 0 [] _ ⟨b,_,[],rfl,B,rfl,List.nil_sublist _⟩ ?_ ?_
 .rintro j y r e ι ⟨b,d,L,rfl,B,rfl,f⟩ R l;rw[zAe] at f l;obtain⟨k,s,rfl⟩:=qO5 r;have n:=f.length_le;rw[zB5] at n;have o:(xs.take (j+1))=xs.take j++[k]:=by rw[zBk,s];rfl
  refine qj6 (qA9 (qc4 (ds:=[.int k,b]) (i:=1) (m:=m) rfl B rfl hm.1 ⋯ λv p x z B'=>?_));obtain⟨t,u⟩:=q v;refine qa0 (a:=D.bl t) u (qa0 (a:=t) rfl (ite_b (λ_=>?_) λ_=>?_));{exact qn9 (d:=.int k) rfl rfl ⟨by rw[qg6];unfold big;lia,l _ _ ⟨p,_,L++[k],rfl,B',qG6,by rw[o];exact f.append (List.Sublist.refl _)⟩⟩};exact l _ _ ⟨p,_,L,rfl,B',rfl,by rw[o];exact f.trans (L6 _ _)⟩
 rintro e ι ⟨b,d,L,rfl,B,rfl,f⟩;exact h b d L B (f.trans (zC4 _ _))
theorem qaG7(h:qc ds (λb a=>if b=true then t e a else u e a) e.xe):sIf qc t u e ds:=h
theorem qar4(b:1<=n)(a:NCd n wr ps S):S.length<=n.toNat:=by by_cases h:n.toNat<S.length;{refine absurd ⟨⋯,?_⟩ (a 0);cases wr with|true=>rw[if_pos rfl];exact⟨rfl,h⟩|false=>rw[if_neg ∅,List.filter_eq_self.mpr λ_ _=>zAg (zBo _)];lia};lia
def qaK7:VSp:=λds Q _=>∃b ns n wr ps ks,ds=[b,Ae n wr ps,.l true (O5 ks)]/\Pf ns b/\1<=n/\n<=64/\(ps.map (·.1)).Nodup/\ks.Nodup/\ks.length<=66/\∀a S T,Pf ns a->okL n wr ps ks S->okL n wr ps ks T->Q (.q [.l true (O5 S),.l true (O5 T)]) [a,Ae n wr ps,.l true (O5 ks)]
abbrev qs6(n:Int)(wr:Bool)(ps:Pr) (ks) (way) (p0 a b c:D):=([p0,Ae n wr ps,.l true (O5 ks),.int way,a,b,c]:Ds)
theorem qaO9(T:Txt K mg a):VFn P w K mg base 5 a.f47 a.d47 ["_law_bag_here", "_law_plan", "_law_keys"] qaK7:=by
 refine VFn.mk' T.d47.F qw9 (wOf [true,true,true]) (λg Q Q' J Y Z _ h=>by obtain⟨b,p,n,wr,f,c,e,h1,h2,h3,h4,h5,h6,q⟩:=h;exact⟨b,p,n,wr,f,c,e,h1,h2,h3,h4,h5,h6,λr S T a1 a2 a3=>Z _ _ (q r S T a1 a2 a3)⟩) (λg Q J h=>by obtain⟨b,p,n,wr,f,c,e,_⟩:=h;rw[e];rfl) (λg Q J h=>by obtain⟨b,p,n,wr,f,c,e,⟨x,y,w,eb,_⟩,_⟩:=h;rw[e,eb];rfl) (λ_ _ _ _ _ _ _ k=>⟨_,(Ab (Am 3 qw9.nd (Ak T.d40 (qb7 T) qa1 (rm k) (vaN 0 (vaV (qa5 Af) Ac)))) (Ab (Am 4 qw9.nd (Ak T.d46 (qG2 T) qa1 (rm k) (vaN 1 (vaV (ecN (NY:=["_law_key", "_law_bag_here"]) (src:=[none,some 0]) 2 (blk (λu C A H0 E=>(A9 0 (show (["_law_key", "_law_bag_here"]:List Str).Nodup by decide +kernel))) (λu C A H0 E=>(Eo (q2v (A6 Bs (qa9 _)) (As Bs (qa9 _)) Dg (Ak T.d40 (qb7 T) L2.qa1 (rm k) (vaN 1 (vaV (qa5 Af) Ac))) Af))) (λu C A H0 E=>(qb3 (vnm 0))))) Ac)))) (Ab (Am 5 qw9.nd (Ak T.d46 (qG2 T) qa1 (rm k) (vaN 1 (vaV (ecV (NY:=["_law_key", "_law_bag_here"]) (src:=[none,some 0]) T.Cp (qb3 (vnm 2)) (blk (λu C A H0 E=>(A9 0 (show (["_law_key", "_law_bag_here"]:List Str).Nodup by decide +kernel))) (λu C A H0 E=>(Eo (q2v (A6 Bs (qa9 _)) (As Bs (qa9 _)) Dg (Ak T.d40 (qb7 T) L2.qa1 (rm k) (vaN 1 (vaV (qa5 Af) Ac))) Af))) (λu C A H0 E=>(qb3 (vnm 0))))) Ac)))) (Ab (sif (q2 (As (qm6 k.u64) (qa9 _)) Bq (vnm 3) Af) (Aj (Am 5 qw9.nd (qa5 (E9 qe3 qx6.ops T.Ce (qa2 (vnm 4) qa6 rfl))))) A4) (Ab (sif (q2 (As (qm6 k.u64) (qa9 _)) Bq (vnm 3) Af) (Aj (Am 5 qw9.nd (eslN 4 (Ak T.d40 (qb7 T) qa1 (rm k) (vaN 0 (vaV (qa5 (v2 (Al qg0) qf9 (vbi qC8 qC7.ops T.Cj (qa2 (vnm 4) qa6 rfl)) Af)) Ac)))))) A4) (Ab (sif (Hy (q2 (As (qm6 k.u64) (qa9 _)) Bq (vnm 3) Af) (Fq (q2 (As (qr1 k.u64) (qa9 _)) Dq (vnm 4) (Bz qa6)))).te (Ab (Am 6 qw9.nd (Ak T.d40 (qb7 T) qa1 (rm k) (vaN 0 (vaV (qa5 (vbi qC8 qC7.ops T.Cj (qa2 (vnm 4) qa6 rfl))) Ac)))) (Aj (Am 5 qw9.nd (qa5 (v2 (Al qg0) qf9 (vsl (vnm 4) Hh (Hi (vnm 6))) (vsl (vnm 4) (Hi (v2 (Al qg0) qf9 (vnm 6) Af)) Hh)))))) A4) (Ab (sif (q2v (A6 (qm6 k.u64) (qa9 _)) (As (qm6 k.u64) (qa9 _)) Bq (Ak T.d40 (qb7 T) qa1 (rm k) (vaN 0 (vaV (qa5 Af) Ac))) Af) (Aj (Av (Gy (vaV (efz 4) (vaV (efz 5) Ac))))) A4) (Aj (Av (Gy (vaV (efz 5) (vaV (efz 4) Ac)))))))))))),λg Q J h=>?_⟩);obtain⟨b,p,n,wr,f,c,rfl,B,M,V,W,G,a0,q⟩:=h;refine Au [b,Ae n wr f,.l true (O5 c),.u,.u,.u,.u] rfl ?_;refine qc1 (λg=>∃b way,g=(qs6 n wr f c way b .u .u .u)/\Pf p b) (λK j=>qd5 (qc4 rfl B rfl ∅ ∅ λv r s H B'=>j _ ⟨r,v,rfl,B'⟩)) ?_;clear B;rintro g ⟨b,way,rfl,B⟩;refine qc1 (λg=>∃b S,g=(qs6 n wr f c way b (kL S) .u .u)/\Pf p b/\okL n wr f c S) (λK j=>qd5 (qg7 (qc0 (x:=Ae n wr f) rfl (qd7 (qa0 (a:=D.l true (O5 c)) rfl (qa0 (a:=O5 c) rfl ⟨qd0 c,?_⟩)))))) ?_;{refine qah3 B (λv=>⟨decide (0<v),rfl⟩) ⋯ ∅ λb d L B t=>?_;have I:=t.length_le;have o:L.Nodup:=G.sublist t;refine qb6 (qa0 (a:=Ae n wr f) rfl ⟨n,wr,f,false,L,rfl,M,V,W,o,⋯,λS2 h N=>qa0 (a:=(qs6 n wr f c way b .u .u .u)) rfl (j _ ⟨b,S2,rfl,B,o.sublist h,λx O=>t.subset (h.subset O),N⟩)⟩)};clear B;rintro g ⟨b,S,rfl,B,l⟩;refine qc1 (λg=>∃b T,g=(qs6 n wr f c way b (kL S) (kL T) .u)/\Pf p b/\okL n wr f c T) (λK j=>qd5 (qg7 (qc0 (x:=Ae n wr f) rfl (qd7 (qn9 (d:=.l true (O5 c)) rfl rfl (qa0 (a:=O5 c) rfl ⟨qd0 c,?_⟩)))))) ?_;{rw[show (O5 c).reverse=O5 c.reverse from List.map_reverse.symm];refine qah3 B (λv=>⟨decide (0<v),rfl⟩) (by rw[zC7];lia) ∅ λb d L B t=>?_;have I:=t.length_le;have o:L.Nodup:=(List.pairwise_reverse.mpr (G.imp Ne.symm)).sublist t;refine qb6 (qa0 (a:=Ae n wr f) rfl ⟨n,wr,f,false,L,rfl,M,V,W,o,by rw[zC7] at I;lia,λS2 h N=>qa0 (a:=(qs6 n wr f c way b (kL S) .u .u)) rfl (j _ ⟨b,S2,rfl,B,o.sublist h,λx O=>List.mem_reverse.mp (t.subset (h.subset O)),N⟩)⟩)};clear B;rintro g ⟨b,T,rfl,B,i⟩;have a4:=qar4 M l.2.2;refine qc1 (λg=>∃T,g=(qs6 n wr f c way b (kL S) (kL T) .u)/\okL n wr f c T) (λK j=>if_v (b:=decide (way=1)) rfl (λ_=>qp0 (d:=kL S) (qay7 (z:=false)) (j _ ⟨S,rfl,l⟩)) λ_=>j _ ⟨T,rfl,i⟩) ?_;clear i;rintro g ⟨T,rfl,i⟩;refine qc1 (λg=>∃b T,g=(qs6 n wr f c way b (kL S) (kL T) .u)/\Pf p b/\okL n wr f c T) (λK j=>if_v (b:=decide (way=2)) rfl (λ_=>qd5 ⟨rfl,qc4 (ds:=[b,Ae n wr f,.l true (O5 c),.int way,kL S,kL T,.u]) (m:=(S.length:Nat)+1) rfl B ?_ ⋯ ⋯ λv r s H B'=>qa0 (a:=v) rfl (qa0 (qas7 (z:=false) s) (j _ ⟨r,_,rfl,B',l.sub (zC4 _ _)⟩))⟩) λ_=>j _ ⟨b,T,rfl,B,i⟩) ?_;{refine Ag (x:=.int (S.length:Nat)) (y:=.int 1) ?_ rfl rfl;rw[qC0 (z:=false) (ys:=O5 S) rfl,qg6]};clear i B;rintro g ⟨b,T,rfl,B,i⟩;refine qc1 (λg=>∃b T R,g=(qs6 n wr f c way b (kL S) (kL T) R)/\Pf p b/\okL n wr f c T) (λK j=>Jz (decide (way=3)&&!decide (S=[])) (λQ q=>qp9 _ _ (λQ q=>qj9 rfl q) (λ_ Q q=>qj9 (Ag rfl rfl (ne_ks S)) q) q) (λh=>?_) λ_=>j _ ⟨b,T,_,rfl,B,i⟩) ?_
 .have U:S≠[]:=λe=>by subst e;simp at h
  have X:=List.length_pos_iff.mpr U;refine qc1 (λg=>∃b v,g=(qs6 n wr f c way b (kL S) (kL T) (.int v))/\Pf p b/\0<=v/\v<(S.length:Nat)) (λK j=>qd5 (qc4 rfl B ?_ ⋯ ⋯ λv r s H B'=>j _ ⟨r,v,rfl,B',s,H⟩)) ?_;{rw[qC0 (z:=false) (ys:=O5 S) rfl,qg6]};rintro g ⟨b,v,rfl,B,s,H⟩;refine qp0 (d:=kL (S.take v.toNat++S.drop (v+1).toNat)) (Ag (x:=kL (S.take v.toNat)) (y:=kL (S.drop (v+1).toNat)) (qas7 (z:=false) s) (qba6 (z:=false) ⋯) (qav6 (by rw[zB5,zCe];lia))) (j _ ⟨b,_,_,rfl,B,l.sub ?_⟩);rw[show (v+1).toNat=v.toNat+1 by lia,<-Me];exact List.eraseIdx_sublist ..
 clear i B;rintro g ⟨b,T,R,rfl,B,i⟩;refine qU5 (qA9 (qc4 (ds:=[b,Ae n wr f,.l true (O5 c),.int way,kL S,kL T,R]) rfl B rfl ∅ ∅ λv r s H B'=>qa0 (a:=D.bl (decide (v=0))) rfl (qa0 (a:=decide (v=0)) rfl (ite_b (λ_=>?_) λ_=>?_))));{refine qg5 (qd7 (qa0 (a:=D.l false (O5 S)) rfl (qd7 (qa0 (a:=D.l false (O5 T)) rfl (qb6 ⟨lt2,?_⟩)))));rw[Di,Di];exact q r S T B' l i};refine qg5 (qd7 (qa0 (a:=D.l false (O5 T)) rfl (qd7 (qa0 (a:=D.l false (O5 S)) rfl (qb6 ⟨lt2,?_⟩)))));rw[Di,Di];exact q r T S B' i l
theorem qc7:qa8 ["_law_bag_here", "_law_plan", "_law_keys", "_law_size", "_law_homes", "_law_key", "_law_number", "_law_told"] ["_law_bag_here", "_law_plan", "_law_keys"] (qa3 ql1):=by walk_at "s"
theorem qaP6(h1:ds[i]?=some (.l false ys))(h:tr ds (λxs _ ds1=>orF ((rdN i ds1).bind D.own) λys=>orF (g ys xs) λz=>Q z.2 (ds1.set i (.l false z.1))) xe):Em g i tr ds Q xe:=⟨by rw[qk2 h1 rfl];rfl,h⟩
theorem qak2{k m:Int}:∀{ps:Pr},(ps.map (·.1)).Nodup->(k,m)∈ps->ps.lookup k=some m|[],_,h=>nomatch h|(a,b)::ps,nd,h=>by rw[zAy,zCn] at nd;rcases zAh.mp h with h|h;{cases h;exact List.lookup_cons_self};rw[zAv,show (k==a)=false from zC8 λe=>nd.1 (e ▸ Mj (f:=(·.1)) h)];exact qak2 nd.2 h
theorem qX6{k:Int}:∀{ps:Pr},¬k∈ps.map (·.1)->ps.lookup k=none|[],_=>rfl|(a,b)::ps,h=>by rw[zAy,zAh,not_or] at h;rw[zAv,show (k==a)=false from zC8 h.1];exact qX6 h.2
theorem qal7{m:Int}(a:(ps.map (·.1)).Nodup)(h:(k,m)∈ps):qb4 n ps k=m%n:=by unfold qb4;rw[qak2 a h];rfl
theorem qJ8(h:¬k∈ps.map (·.1)):qb4 n ps k=k%n:=by unfold qb4;rw[qX6 h];rfl
theorem qaQ7{K:Ds->Ds->Prop}{b:D}(l:F.length<1000)(h:∀d e,K (O5 (F.map (·.1))) [d,e]):Dp (Jn 2 (Jm (gNm 0) (Jm (gNm 1) Jl))) qYes (Bu (rdN 0)) K (O7 F) [] [b,c]:=by
 refine qh3 (λι=>∃d e,ι=[d,e]) (λx=>some (match x with | .q [.int k,.int _]=>.int k|d=>d)) _ [] _ (by show 0+_<1000000;rw[qO3];lia) ⟨_,_,rfl⟩ ?_ ?_;{rintro y g ι i ⟨d,e,rfl⟩ R j a;obtain⟨⟨k,f⟩,_,rfl⟩:=zAx.mp g;have this:=j [.int k,.int f] ⟨_,_,rfl⟩;exact qs1 (qQ3 (Dt rfl (qn9 (d:=.int k) rfl rfl ⟨a,this⟩)))};rintro ι ⟨d,e,rfl⟩;rw[zAz,qK1];have e:((O7 F).map λx=>match x with | .q [.int k,.int _]=>D.int k|d=>d)=O5 (F.map (·.1)):=by unfold O7 O5;rw[zC3,zC3];rfl
 rw[e];exact h _ _
def qD6:VSp:=λds Q _=>∃b ns n wr ps ks,ds=[b,Ae n wr ps,.l true (O5 ks)]/\Pf ns b/\1<=n/\n<=64/\qL4 ps/\ks.Nodup/\(∀k∈ks,An k)/\(∃t,ps.map (·.1)=ks.take t)/\∀c a,Pf ns c->qL4 a->(∀k,qb4 n a k=qb4 n ps k)->Q (.l false (O7 a)) [c,Ae n wr ps,.l true (O5 ks)]
abbrev qd8(n:Int)(wr:Bool)(ps:Pr) (ks) (qs) (p0 a b c:D):=([p0,Ae n wr ps,.l true (O5 ks),.int n,.l false (O7 qs),a,b,c]:Ds)
theorem qE4(T:Txt K mg a):VFn P w K mg base 2 a.f48 a.d48 ["_law_bag_here", "_law_plan", "_law_keys"] qD6:=by
 refine VFn.mk' T.d48.F qc7 (wOf [true,true,true]) (λo Q Q' Z a9 hQ _ h=>by obtain⟨b,L,n,wr,g,l,e,u,N,V,W,h5,h6,h7,q⟩:=h;exact⟨b,L,n,wr,g,l,e,u,N,V,W,h5,h6,h7,λb' f a1 a2 a3=>hQ _ _ (q b' f a1 a2 a3)⟩) (λo Q Z h=>by obtain⟨b,L,n,wr,g,l,e,_⟩:=h;rw[e];rfl) (λo Q Z h=>by obtain⟨b,L,n,wr,g,l,e,⟨x,y,w,eb,_⟩,_⟩:=h;rw[e,eb];rfl) (λ_ _ _ _ _ _ _ hr=>⟨_,(Ab (Am 3 qc7.nd (qb3 (v2 (Aw qb5) Ap (vnm 1) Af))) (Ab (Am 4 qc7.nd (qa5 (Bz qa6))) (Ab (sforV N9 T.Cp (qb3 (v2 (Aw qb5) Ap (vnm 1) Af)) (Fc (n:=2) rfl (qu0 (A9 5 qc7.nd) (qu0 (A9 6 qc7.nd) Fb))) (Aj (Be (B7 4 qr3 Oc Oe Of qc9 (vaV (Gy (vaV (qb3 (vnm 5)) (vaV (e2 (Al qg0) qf9 (qa5 (v2 (Al qn5) qn4 (vnm 6) (vnm 3))) (e2n 3 (Al qB2) qB1 (Ak T.d40 (qb7 T) qa1 (rm hr) (vaN 0 (vaV (qa5 Af) Ac))))) Ac))) Ac))))) (Ab (scN (NY:=["_law_key", "_law_number"]) (src:=[none,none]) 7 4 qc7.nd (blk (λav C s0 H0 ex=>(Fc (n:=2) rfl (qu0 (A9 0 (show (["_law_key", "_law_number"]:List Str).Nodup by decide +kernel)) (qu0 (A9 1 (show (["_law_key", "_law_number"]:List Str).Nodup by decide +kernel)) Fb)))) (λav C s0 H0 ex=>Ec) (λav C s0 H0 ex=>(qb3 (vnm 0))))) (Ab (Ft N9 (eslN 2 (Ak T.d40 (qb7 T) qa1 (rm hr) (vaN 0 (vaV (qa5 Af) Ac)))) (A9 5 qc7.nd) (Aj (sif (q2 (As ql5 (by with_unfolding_all rfl)) Fo (vnm 5) (vnm 7)) (Aj (Be (B7 4 qr3 Oc Oe Of qc9 (vaV (qa5 (Dy (qa2 (vnm 5) (qa2 (v2 (Al qn5) qn4 (vnm 5) (vnm 3)) qa6 rfl) rfl))) Ac)))) A4))) (Aj (Av (emv 4)))))))),λo Q Z h=>?_⟩);obtain⟨b,L,n,wr,g,l,rfl,B,n1,n2,G,a0,hk,⟨tt,X⟩,q⟩:=h;have a4:=G.len;refine Au [b,Ae n wr g,.l true (O5 l),.u,.u,.u,.u,.u] rfl ?_;refine qb0 [b,Ae n wr g,.l true (O5 l),.int n,.u,.u,.u,.u] (λK J=>qw7 (d:=.int n) rfl rfl J) ?_;refine qb0 [b,Ae n wr g,.l true (O5 l),.int n,.l false (O7 []),.u,.u,.u] (λK J=>qp0 rfl J) ?_;refine qc1 (λo=>∃b f s r,o=(qd8 n wr g l f b s r .u)/\Pf L b/\f.map (·.1)=g.reverse.map (·.1)/\∀p∈f,An p.2/\p.2%n=qb4 n g p.1) (λK J=>?_) ?_
 .refine qn9 (d:=.l true (O7 g)) rfl rfl (qa0 (a:=O7 g) rfl ⟨qC2 g,?_⟩);rw[show (O7 g).reverse=O7 g.reverse from List.map_reverse.symm];refine qd4 (λi o=>∃b f s r,o=(qd8 n wr g l f b s r .u)/\Pf L b/\f.map (·.1)=(g.reverse.take i).map (·.1)/\∀p∈f,An p.2/\p.2%n=qb4 n g p.1) _ 0 _ ⟨b,[],_,_,rfl,B,rfl,nofun⟩ ?_ ?_
  .rintro i y M o ⟨b,f,s,r,rfl,B,H,I⟩ K2 A;rw[zAe] at H A;obtain⟨⟨k,m⟩,O,rfl⟩:∃q,g.reverse[i]?=some q/\y=.q [.int q.1,.int q.2]:=by unfold O7 at M;rw[zB7] at M;obtain⟨q,u,N⟩:=zAa.mp M;exact⟨q,u,N.symm⟩
   have R:(k,m)∈g:=List.mem_reverse.mp (zB0 O);have a5:f.length<=64:=by have:=congrArg Lv H;rw[zA5,zA5,zB5,zC7] at this;lia
   refine qs1 (Au (qd8 n wr g l f b (.int k) (.int m) .u) rfl ?_);refine qf2 (qaP6 (ys:=O7 f) rfl (qaw0 (qb8 (y:=.int k) rfl rfl (qd7 (qx8 (x:=.int (m%n)) (Ag rfl rfl (Ef ⋯)) ⟨rfl,qc4 (ds:=[b,Ae n wr g,.l true (O5 l),.int n,.l false (O7 f),.int k,.int m,.u]) (m:=9) rfl B rfl ∅ ∅ λv b Y v1 B=>?_⟩)))));refine qa0 (a:=D.int (n*v)) (show F7 (.int n) (.int v)=_ from mulL (qS0 ⋯ ⋯)) (qa0 (a:=D.int (m%n+n*v)) rfl (qb6 ⟨lt2,qb6 (qa0 (a:=O7 f) rfl (qa0 (a:=(O7 (f++[(k,m%n+n*v)]),D.non)) ?_ (A _ ⟨b,_,_,_,rfl,B,?_,?_⟩)))⟩));{rw[<-qah1];exact if_pos (by rw[qO3];unfold big;lia)};{rw[zBa,H,zBk,O,zBa];rfl};intro p h;rcases zA6.mp h with h|h;{exact I p h};rw[zAb.mp h];have u:=zCm m (show n≠0 by lia);have N:=zC0 m (show 0<n by lia);have V:0<=n*v:=Int.mul_nonneg ⋯ Y;have W:n*v<=64*9:=Int.mul_le_mul n2 ⋯ Y ∅;refine⟨⟨⋯,⋯⟩,?_⟩;show (m%n+n*v)%n=qb4 n g k;rw[qal7 G.nd R,Int.add_mul_emod_self_left,Int.emod_emod_of_dvd _ (Int.dvd_refl n)]
  rintro o ⟨b,f,s,r,rfl,B,H,I⟩;rw[zAe,qO3,zCd] at H;exact J _ ⟨b,f,s,r,rfl,B,H,I⟩
 rintro o ⟨b,c,s,r,rfl,B,H,I⟩;have a6:c.length=g.length:=by have:=congrArg Lv H;rwa[zA5,zA5,zC7] at this
 refine qb0 [b,Ae n wr g,.l true (O5 l),.int n,.l false (O7 c),s,r,kL (c.map Prod.fst)] (λK J=>qd5 (qa0 (a:=D.l false (O7 c)) rfl (qa0 (a:=O7 c) rfl ⟨qC2 c,qaQ7 ⋯ λ_ _=>J⟩))) ?_;have mem0:∀k,k∈c.map (·.1)↔k∈l.take tt:=λk=>by rw[H,Nj,List.mem_reverse,X]
 have a7:(c.map (·.1)).Nodup:=by rw[H,Nj];exact List.pairwise_reverse.mpr (G.nd.imp Ne.symm)
 refine qc1 (λo=>∃b f s r,o=(qd8 n wr g l f b s r (kL (c.map Prod.fst)))/\Pf L b/\∃j,j<=2/\f.map (·.1)=c.map (·.1)++(l.take j).filter (λk=>!decide (k∈c.map (·.1)))/\∀p∈f,An p.2/\p.2%n=qb4 n g p.1) (λK J=>?_) ?_
 .refine⟨rfl,qc4 (ds:=[b,Ae n wr g,.l true (O5 l),.int n,.l false (O7 c),s,r,kL (c.map Prod.fst)]) (m:=3) rfl B rfl ∅ ∅ λv b Y v1 B=>qa0 (a:=v) rfl (qa0 (qas7 (z:=true) Y) (qa0 (a:=O5 (l.take v.toNat)) rfl ⟨qd0 _,?_⟩))⟩;refine qd4 (λi o=>∃b f s r,o=(qd8 n wr g l f b s r (kL (c.map Prod.fst)))/\Pf L b/\f.map (·.1)=c.map (·.1)++(((l.take v.toNat).take i).filter λk=>!decide (k∈c.map (·.1)))/\∀p∈f,An p.2/\p.2%n=qb4 n g p.1) _ 0 _ ⟨b,c,_,_,rfl,B,by rw[M3,Mv,zAd],I⟩ ?_ ?_
  .rintro i y M o ⟨b,f,s,r,rfl,B,E,I⟩ K2 A;rw[zAe] at E A;obtain⟨k,O,rfl⟩:=qO5 M;have b0:An k:=hk k (zBe (zB0 O));have a8:=Lw (λk=>!decide (k∈c.map (·.1))) ((l.take v.toNat).take i);have a5:f.length<=100:=by have:=congrArg Lv E;rw[zA8,zA5,zA5] at this;rw[zB5,zB5] at a8;lia
   refine qj6 (Au (qd8 n wr g l f b (.int k) r (kL (c.map Prod.fst))) rfl ?_);refine if_v (b:=!decide (k∈c.map (·.1))) (Ag rfl rfl qai7) (λh=>?_) λh=>A _ ⟨b,f,_,_,rfl,B,?_,I⟩;{refine qf2 (qH0 (ys:=O7 f) (d:=.q [.int k,.int (k%n)]) rfl (qaw1 rfl (Ag rfl rfl (Ef ⋯)) rfl rfl) (by rw[qO3];unfold big;lia) ?_);rw[qah1];refine A _ ⟨b,_,_,_,rfl,B,?_,λp t=>?_⟩;{rw[zBa,E,zBk,O,Mn,zAo];show _++(_++[k])=_++(_++[k].filter _);rw[Lx,if_pos h,Mv]};rcases zA6.mp t with u|u;{exact I p u};rw[zAb.mp u];have u:=zCm k (show n≠0 by lia);have N:=zC0 k (show 0<n by lia);refine⟨⟨u,by show k%n<=_;lia⟩,?_⟩;show k%n%n=qb4 n g k;rw[qJ8,Int.emod_emod_of_dvd _ (Int.dvd_refl n)];intro z;rw[X] at z;rw[zAg ((mem0 k).mpr z)] at h;cases h};rw[E,zBk,O,Mn];show _++_=_++(_++[k].filter _);rw[Lx,if_neg (by rw[h];decide),Mv,zAd]
  rintro o ⟨b,f,s,r,rfl,B,E,I⟩;rw[zAe,qg6,zCd] at E;exact J _ ⟨b,f,s,r,rfl,B,v.toNat,⋯,E,I⟩
 rintro o ⟨b,f,b1,b2,rfl,B,j,hj,E,S⟩;have U:(f.map (·.1)).Nodup:=by rw[E];exact zBj.mpr ⟨a7,(a0.sublist (zC4 _ _)).filter _,λx hx y M e=>by have h:=(zAt.mp M).2;rw[<-e,zAg hx] at h;cases h⟩
 refine q b f B ⟨?_,U,λp t=>⟨?_,(S p t).1⟩⟩ λk=>?_;{have u:=congrArg Lv E;rw[zA8,zA5,zA5,a6] at u;by_cases N:2<=tt;{rw[List.filter_eq_nil_iff.mpr λx hx=>by rw[zAg ((mem0 x).mpr ((List.take_prefix_take_left ⋯).subset hx))];decide] at u;show f.length<=64;simpa using (show f.length<=64 by rw[u];simpa using a4)};have V:=Lw (λk=>!decide (k∈c.map (·.1))) (l.take j);have W:=congrArg Lv X;rw[zA5,zB5] at W;rw[zB5] at V;show f.length<=64;lia};{have:p.1∈f.map (·.1):=Mj t;rw[E,zA6] at this;rcases this with h|h;{exact hk _ (zBe ((mem0 _).mp h))};exact hk _ (zBe (zAt.mp h).1)};by_cases h:k∈f.map (·.1);{obtain⟨p,t,rfl⟩:=zAx.mp h;rw[qal7 U (show (p.1,p.2)∈f from t)];exact(S p t).2};rw[qJ8 h,qJ8];rw[X];intro z;refine h ?_;rw[E];exact zCj _ ((mem0 k).mpr z)
theorem qy2:qa8 ["self"] ["self"] (qa3 qh9):=by walk_at "s"
def qy0(C CP:γ):VSp:=A5 λds d=>∃zr n wr ps g dn,ds=[Ah zr C CP n wr ps g dn]/\d=.l false (O6 n.toNat g)
theorem qb9(T:Txt K mg a):VFn P w K mg base 1 a.f25 a.d25 ["self"] (qy0 a.C4 a.C3):=by refine VFn.mk2 T.d25.F qy2 (wOf [true]) qb2 (by walk_at "l") (λ_ _ _ _ _ _ _ f=>⟨_,(Aj (Av (qa5 (E9 qe3 qx6.ops T.Ce (qa2 (Bd rfl (vnm 0) T.C5.cl T.Ca) qa6 rfl))))),λi Q j h=>?_⟩);obtain⟨d,⟨b,n,wr,c,g,e,rfl,rfl⟩,q⟩:=h;refine Au [Ah b a.C4 a.C3 n wr c g e] rfl ?_;refine qi0 (rL n g) ?_ q;unfold Bh Ba;rw[Ay rfl qo3];exact qh4 (qp7 _ _)
theorem qS6:qa8 ["self"] ["self"] (qa3 qv6):=by walk_at "s"
def qR7(C CP:γ):VSp:=A5 λds d=>∃zr n wr ps g dn,ds=[Ah zr C CP n wr ps g dn]/\D.imms dn=true/\d=.l false dn
theorem qT8(T:Txt K mg a):VFn P w K mg base 1 a.f32 a.d32 ["self"] (qR7 a.C4 a.C3):=by refine VFn.mk2 T.d32.F qS6 (wOf [true]) qb2 (by walk_at "l") (λ_ _ _ _ _ _ _ i=>⟨_,(Aj (Av (qa5 (E9 qe3 qx6.ops T.Ce (qa2 (Bd rfl (vnm 0) T.C5.cl T.Cc) qa6 rfl))))),λj Q k h=>?_⟩);obtain⟨d,⟨c,n,wr,e,g,b,rfl,f,rfl⟩,q⟩:=h;refine Au [Ah c a.C4 a.C3 n wr e g b] rfl ?_;refine qi0 (.l false b) ?_ q;unfold Bh Ba;rw[Ay rfl qW6];exact qh4 f
theorem qw8:qa8 ["self", "other"] ["self"] (qa3 qq6):=by walk_at "s"
def qM1(C CP:γ):VSp:=A5 λds d=>∃n wr ps g dn S,ds=[Ah true C CP n wr ps g dn]/\1<=n/\n<=64/\(∀x∈S,An x)/\Kept n.toNat wr (O3 n ps) g S/\D.imms dn=true/\d=Ah false C CP n wr ps g dn
theorem qN6(T:Txt K mg a):VFn P w K mg base 12 a.f33 a.d33 ["self"] (qM1 a.C4 a.C3):=by refine VFn.mk2 T.d33.F qw8 (wOf [true]) qb2 (by walk_at "l") (λ_ _ _ _ _ _ _ f=>⟨_,(Ab (Am 1 qw8.nd (qaT1 T.C5 T.D1 T.d24 (qG1 T) qa1 (rm f) (vaV (qb3 (Bd rfl (vnm 0) T.C5.cl T.C9)) (vaV (qb3 (Bd rfl (vnm 0) T.C5.cl T.Ca)) Ac)))) (Ab (Gm rfl (vpn 1) (qi9 0 T.d32 T.C5.cl (qT8 T) qa1 (rm f)) T.C5.cl T.Cc) (Aj (Av (emv 1))))),λo Q r h=>?_⟩);obtain⟨d,⟨n,wr,b,g,c,S,rfl,i,j,k,KP,m,rfl⟩,q⟩:=h;refine Au [Ah true a.C4 a.C3 n wr b g c,.u] rfl ?_;refine qb0 [Ah true a.C4 a.C3 n wr b g c,rA a n wr b g []] (λK e=>qd5 (qaj9 (qb8 (y:=Ad true a.C3 n wr b) (Ay rfl qe9) rfl (qb8 (y:=.l true (O6 n.toNat g)) (Ay rfl qo3) rfl (qb6 ?_))))) ?_;{exact⟨n,wr,b,_,g,S,rfl,i,j,k,KP,.inr ⟨true,rfl⟩,rfl,qa0 (a:=rA a n wr b g []) rfl (qa0 (a:=[Ah true a.C4 a.C3 n wr b g c,.u]) rfl e)⟩};refine qb0 [Ah true a.C4 a.C3 n wr b g c,rA a n wr b g c] (λK e=>qat2 ?_) ?_;{refine qt6 (p:=Ah true a.C4 a.C3 n wr b g c) (d:=.l false c) rfl (qd2 rfl) ⟨true,n,wr,b,g,c,rfl,m,rfl⟩ rfl ?_;refine qa0 (a:=(1,[])) rfl ?_;refine qa0 (a:=([("plan",Ad true a.C3 n wr b),("held",D.l false (O6 n.toNat g)),("done",D.l false [])]:List (Str×D))) qi7 ?_;exact⟨by show 3<100;decide,e⟩};exact qg5 (mv_to rfl q)
theorem qu7:qa8 ["one", "other", "room", "pair"] ["one", "other"] (qa3 qz9):=by walk_at "s"
noncomputable def Kd(N:Nat)(g g':Nat->Option Int):Option Nat:=(Lr N).find? λi=>decide (g i≠g' i)
def partD(N:Nat)(g g':Nat->Option Int):D:=match Kd N g g' with|some i=>.q [.int (i:Nat),Bk (g i),Bk (g' i)]|none=>.non
theorem qah9(hi:i<N)(h:g i≠g' i)(a:∀j,j<i->g j=g' j):Kd N g g'=some i:=List.find?_range_eq_some.mpr ⟨zAg h,zAq.mpr hi,λj b=>by rw[zB3 λz=>z (a j b)];rfl⟩
theorem qM9(a:∀j,j<N->g j=g' j):Kd N g g'=none:=List.find?_range_eq_none.mpr λj b=>by rw[zB3 λz=>z (a j b)];rfl
theorem qaY3:gNe (Bk o) (Bk o')=some (.bl (decide (o≠o'))):=by cases o with|none=>(cases o' with|none=>rfl|some k=>rfl)|some j=>cases o' with|none=>rfl|some k=>show some (D.bl (!(j==k)))=_;congr 2;by_cases h:j=k;{subst h;rw[zBc,zB3 λz=>z rfl];rfl};rw[zC8 h];exact(zAg (show some j≠some k from λz=>h (N8 z))).symm
theorem qaU5(h:(enD (zipD (O6 N g) (O6 N g')))[i]?=some y):i<N/\y=.q [.int (i:Nat),.q [Bk (g i),Bk (g' i)]]:=by by_cases a:i<N;{have:=qav7 (qC3 (g:=g) a) (qC3 (g:=g') a);rw[this] at h;exact⟨a,(N8 h).symm⟩};rw[zBx (by rw[qad5];unfold zipD;rw[Mi,qh2,qh2];lia)] at h;cases h
def qaa8(C CP:γ):VSp:=A5 λds d=>∃z z' n wr ps a g g' dn b,ds=[Ah z C CP n wr ps g dn,Ah z' C CP n wr a g' b]/\1<=n/\n<=64/\(∀i k,i<n.toNat->g i=some k∨g' i=some k->An k/\qb4 n ps k=qb4 n a k)/\d=partD n.toNat g g'
theorem qac2(T:Txt K mg a):VFn P w K mg base 7 a.f36 a.d36 ["one", "other"] (qaa8 a.C4 a.C3):=by refine VFn.mk2 T.d36.F qu7 (wOf [true,true]) qb2 (by walk_at "l") (λ_ _ _ _ _ _ _ A=>⟨_,(Ab (Be (Ak T.d35 (qn6 T) qa1 (rm A) (vaN 0 (vaN 1 Ac)))) (Ab (qaV5 N9 T.Co T.D5 (vaV (qi9 0 T.d25 T.C5.cl (qb9 T) qa1 (rm A)) (vaV (qi9 1 T.d25 T.C5.cl (qb9 T) qa1 (rm A)) Ac)) (Fc (n:=2) rfl (qu0 (A9 2 qu7.nd) (qu0 (A9 3 qu7.nd) Fb))) (Aj (sif (q2 (As (qr1 A.u64) (qa9 _)) Dq (v2 (Aw qb5) Ap (vnm 3) Af) (v2 (Aw qb5) Ap (vnm 3) Af)) (Aj (Av (qa5 (Dy (qa2 (vnm 2) (qa2 (v2 (Aw qb5) Ap (vnm 3) Af) (qa2 (v2 (Aw qb5) Ap (vnm 3) Af) qa6 rfl) rfl) rfl))))) A4))) (Aj (Av (qa5 Bf))))),λr Q L h=>?_⟩);obtain⟨d,⟨z,k,n,wr,m,c,g,e,o,f,rfl,C,D,E,rfl⟩,q⟩:=h;refine Au [Ah z a.C4 a.C3 n wr m g o,Ah k a.C4 a.C3 n wr c e f,.u,.u] rfl ?_;refine qb0 [Ah z a.C4 a.C3 n wr m g o,Ah k a.C4 a.C3 n wr c e f,.u,.u] (λK B=>qf2 (qr9 (x:=Ah z a.C4 a.C3 n wr m g o) (y:=Ah k a.C4 a.C3 n wr c e f) rfl rfl rfl ⟨z,k,n,wr,m,c,g,e,o,f,rfl,C,D,E,rfl⟩ rfl B)) ?_;refine qc1 (λr=>∃s t,r=[Ah z a.C4 a.C3 n wr m g o,Ah k a.C4 a.C3 n wr c e f,s,t]/\∀j,j<n.toNat->g j=e j) (λK B=>?_) ?_;{refine qd7 (qt6 (p:=Ah z a.C4 a.C3 n wr m g o) (d:=rL n g) rfl (qd2 rfl) ⟨z,n,wr,m,g,o,rfl,rfl⟩ rfl (qd7 (qt6 (p:=Ah k a.C4 a.C3 n wr c e f) (d:=rL n e) rfl (qd2 rfl) ⟨k,n,wr,c,e,f,rfl,rfl⟩ rfl (qb6 (qa0 (a:=(O6 n.toNat g,O6 n.toNat e)) rfl ⟨qp7 _ _,qp7 _ _,by show (O6 _ _).length=(O6 _ _).length;rw[qh2,qh2],?_⟩)))));refine qd4 (λi r=>∃s t,r=[Ah z a.C4 a.C3 n wr m g o,Ah k a.C4 a.C3 n wr c e f,s,t]/\∀j,j<i->g j=e j) _ 0 _ ⟨_,_,rfl,nofun⟩ ?_ ?_;{rintro i y G r ⟨s,t,rfl,u⟩ K2 v;rw[zAe] at u v;obtain⟨H,rfl⟩:=qaU5 G;refine qs1 (Au [Ah z a.C4 a.C3 n wr m g o,Ah k a.C4 a.C3 n wr c e f,.int (i:Nat),.q [Bk (g i),Bk (e i)]] rfl ?_);refine if_v (b:=decide (g i≠e i)) (Ag (Ag (y:=.int 0) rfl rfl rfl) (Ag (y:=.int 1) rfl rfl rfl) qaY3) (λh=>?_) λh=>?_;{unfold partD at q;rw[qah9 H (zAi h) u] at q;refine qg5 (qn7 (d:=.q [.int (i:Nat),Bk (g i),Bk (e i)]) ?_ q);show gTup [_,Bk (g i),Bk (e i)]=_;exact qh4 ⟨by show (true&&((Bk (g i)).imm&&((Bk (e i)).imm&&true)))=true;rw[qal4,qal4];rfl,lt3⟩};refine v _ ⟨_,_,rfl,λj I=>?_⟩;rcases Nat.lt_succ_iff_lt_or_eq.mp I with J|rfl;{exact u j J};exact Decidable.not_not.mp (zBp h)};rintro r ⟨s,t,rfl,u⟩;refine B _ ⟨s,t,rfl,λj h=>u j ?_⟩;rw[zAe,qad5];unfold zipD;show j<(Nw _ (O6 n.toNat g) (O6 n.toNat e)).length;rw[Mi,qh2,qh2,Nat.min_self];exact h};rintro r ⟨s,t,rfl,u⟩;unfold partD at q;rw[qM9 u] at q;exact qi0 .non rfl q
theorem qp4:qa8 ["_law_plan", "_law_one", "_law_other", "_law_keys", "_law_first", "_law_second", "_law_due", "_law_found", "_law_row", "_law_there", "_law_word", "_law_key"] ["_law_plan", "_law_one", "_law_other", "_law_keys"] (qa3 qaC4):=by walk_at "s"
theorem Ke(N:Nat)(g:Nat->Option Int):D.fzs (O6 N g)=O6 N g:=by
 unfold O6;induction Lr N with
 |nil=>rfl|cons a l b=>
  show (Bk (g a)).fz::D.fzs (l.map λi=>Bk (g i))=_;have e:(Bk (g a)).fz=Bk (g a):=by cases g a<;>rfl
  rw[b,e];rfl
theorem qF2:stD st++[.q [.str (wS p),.int k]]=stD (st++[(p,k)]):=by unfold stD;rw[zBa];rfl
theorem ne_st(st:List (Bool×Int)):gNe (.l z (stD st)) (.l z' (stD st))=some (.bl false):=by show (Ej (eqN 20) (stD st) (stD st)).map (λx=>D.bl !x)=_;rw[qu2 λx a=>?_];{rfl};obtain⟨q,_,rfl⟩:=zAx.mp a;exact qK5 rfl
theorem qba8(h:∀i,i<N->g i=g' i):gNe (.l z (O6 N g)) (.l z' (O6 N g'))=some (.bl false):=by rw[qt1 h];show (Ej (eqN 20) (O6 N g') (O6 N g')).map (λx=>D.bl !x)=_;rw[Ka _ λ_=>J2];rfl
theorem qaS7(a:S.Nodup):(S.filter λx=>decide (x≠k))=S.erase k:=by rw[a.erase_eq_filter];apply Ma;intro x _;by_cases h:x=k;{subst h;simp};simp[h]
theorem qaR6(h:k∈S):Ig (O5 S) [.int k]=some (O5 (S.erase k),.non):=by show (intsD (O5 S)).bind _=_;rw[qal1];exact if_pos h
theorem qaL6(hi:ds[i]?=some (kL S))(b:f ds=some (.int k))(c:k∈S)(q:Q .non (ds.set i (kL (S.erase k)))):Em Ig i (tbV (Bu f) A7) ds Q xe:=by
 have e:(rdN i ds).bind D.own=some (O5 S):=by rw[qk2 hi rfl];rfl
 refine⟨by rw[e];rfl,qb8 b rfl ?_⟩;refine qa0 (k:=λd=>orF (Ig d [.int k]) λz=>Q z.2 (ds.set i (.l false z.1))) e ?_;exact qa0 (a:=(O5 (S.erase k),D.non)) (qaR6 c) q
theorem qaP5(h:S.Nodup)(a:¬k∈S):(S++[k]).Nodup:=zBj.mpr ⟨h,by simp,λx b y c e=>a (by rw[<-zAb.mp c,<-e];exact b)⟩
theorem qaY4(h:NCd n wr ps G)(b:S.Nodup)(a:G.Nodup)(d:∀x∈S,x∈G):NCd n wr ps S:=λq c=>by
 refine h q ((c.perm ((Mo b (a.filter λx=>decide (x∈S))).mpr λx=>?_)).mono List.filter_sublist);rw[zAt,zBd];exact⟨λh=>⟨d x h,h⟩,λh=>h.2⟩
theorem qaq2(KP:Kept N wr hm g S):(Bl N g k).isSome=decide (k∈S):=by cases h:Bl N g k with|some i=>have b:=List.findIdx?_eq_some_iff_getElem.mp h;obtain⟨a,e,_⟩:=b;rw[Nc] at e;rw[zB4] at a;exact(zAg ((KP.h.2 k).mpr ⟨i,a,zAi e⟩)).symm|none=>refine(zB3 λz=>?_).symm;obtain⟨i,a,e⟩:=(KP.h.2 k).mp z;have:=List.findIdx?_eq_none_iff.mp h i (zAq.mpr a);rw[zAg e] at this;cases this
theorem qv9{a:Bool}{b:Int->Nat}(K:Kept N wr hm g S)(K':Kept N a b g' S'):k∈Bp N g g'↔k∈S/\¬k∈S':=by unfold Bp;rw[zAt,K.perm.mem_iff,qaq2 K'];simp
theorem qay1(K:Kept N wr hm g S):(Bp N g g').Nodup:=(K.perm.nodup_iff.mpr K.h.1).filter _
def Fx(p:Bool)(N:Nat)(g':Nat->Option Int)(x:D):Option D:=match x with|.int k=>if (!(Bl N g' k).isSome)=true then some (.q [.str (wS p),.int k]) else none|_=>none
theorem qaG2(p:Bool)(N:Nat)(g g':Nat->Option Int):(O6 N g).filterMap (Fx p N g')=stD ((Bp N g g').map λk=>(p,k)):=by unfold O6 Bp;induction Lr N with|nil=>rfl|cons i l a=>rw[zAy,zBu,zBu];cases g i with|none=>exact a|some k=>by_cases h:(!(Bl N g' k).isSome)=true;{rw[show Fx p N g' (Bk (some k))=some (D.q [.str (wS p),.int k]) from if_pos h];show _::_=stD (((k::l.filterMap g).filter _).map _);rw[Lx,if_pos h];exact congrArg _ a};rw[show Fx p N g' (Bk (some k))=none from if_neg h];show _=stD (((k::l.filterMap g).filter _).map _);rw[Lx,if_neg h];exact a
section
variable{N:Nat}{wr:Bool}{hm:Int->Nat}{g1 g2:Nat->Option Int}{K1 K2:List Int}{i:Nat}{p:Bool}{k:Int}
theorem qaA0(A:Kept N wr hm g1 K1)(B:Kept N wr hm g2 K2):(A8 N g1 g2).Nodup:=by unfold A8;refine zBj.mpr ⟨zBv.mpr ((qay1 A).imp λh z=>h (congrArg Prod.snd z)),zBv.mpr ((qay1 B).imp λh z=>h (congrArg Prod.snd z)),λx a y b e=>?_⟩;obtain⟨k,_,rfl⟩:=zAx.mp a;obtain⟨j,_,rfl⟩:=zAx.mp b;cases e
theorem qaI1(A:Kept N wr hm g1 K1)(B:Kept N wr hm g2 K2):(false,k)∈A8 N g1 g2↔k∈K1/\¬k∈K2:=by unfold A8;rw[zA6,<-qv9 A B];constructor;{rintro (h|h)<;>obtain⟨j,h,e⟩:=zAx.mp h<;>cases e;exact h};exact λh=>.inl (zAx.mpr ⟨k,h,rfl⟩)
theorem Kf(A:Kept N wr hm g1 K1)(B:Kept N wr hm g2 K2):(true,k)∈A8 N g1 g2↔k∈K2/\¬k∈K1:=by unfold A8;rw[zA6,<-qv9 B A];constructor;{rintro (h|h)<;>obtain⟨j,h,e⟩:=zAx.mp h<;>cases e;exact h};exact λh=>.inr (zAx.mpr ⟨k,h,rfl⟩)
theorem qan0(h:(A8 N g1 g2)[i]?=some (true,k)){x:Int}(a:(false,x)∈A8 N g1 g2):(false,x)∈(A8 N g1 g2).take i:=by
 unfold A8 at h a ⊢;have b:(Bp N g1 g2).length<=i:=by rcases Nat.lt_or_ge i (Bp N g1 g2).length with z|z;{rw[zAj (by rw[zA5];exact z),zB7] at h;obtain⟨_,_,e⟩:=zAa.mp h;cases e};exact z
 rw[List.take_append,zAs (by rw[zA5];exact b)];refine zCj _ ?_;rcases zA6.mp a with h|h;{exact h};obtain⟨_,_,e⟩:=zAx.mp h;cases e
def At(K1:List Int)(D:List (Bool×Int))(i:Nat)(S:List Int):Prop:=S.Nodup/\∀x,x∈S↔x∈K1/\¬(false,x)∈D.take i∨(true,x)∈D.take i
theorem qae9{D:List (Bool×Int)}(a:D.Nodup)(h:D[i]?=some (p,k)):¬(p,k)∈D.take i:=λz=>by
 obtain⟨b,e⟩:=zA4.mp h
 have:=zCi b
 rw[<-zBh i D,this,e] at a;exact(zBj.mp a).2.2 _ z _ zAf rfl
theorem At.put(A:Kept N wr hm g1 K1)(B:Kept N wr hm g2 K2)(h:At K1 (A8 N g1 g2) i S)(a:(A8 N g1 g2)[i]?=some (true,k)):¬k∈S/\k∈K2/\(∀x∈S,x∈K2)/\At K1 (A8 N g1 g2) (i+1) (S++[k]):=by have hm:=(Kf A B).mp (zB0 a);have b:¬k∈S:=λz=>((h.2 k).mp z).elim (λq=>hm.2 q.1) (qae9 (qaA0 A B) a);refine⟨b,hm.1,λx c=>?_,qaP5 h.1 b,λx=>?_⟩;{rcases (h.2 x).mp c with q|q;{exact Classical.byContradiction λz=>q.2 (qan0 a ((qaI1 A B).mpr ⟨q.1,z⟩))};exact((Kf A B).mp (zBe q)).1};rw[zBk,a,zA6,zAb,h.2];show _↔x∈K1/\¬(false,x)∈_++[(true,k)]∨(true,x)∈_++[(true,k)];rw[zA6,zA6,zAb,zAb];simp only[Prod.mk.injEq,zCw,false_and,zCv,true_and];exact or_assoc
theorem At.take(A:Kept N wr hm g1 K1)(B:Kept N wr hm g2 K2)(h:At K1 (A8 N g1 g2) i S)(b:(A8 N g1 g2)[i]?=some (false,k)):k∈S/\At K1 (A8 N g1 g2) (i+1) (S.erase k):=by have hm:=(qaI1 A B).mp (zB0 b);refine⟨(h.2 k).mpr (.inl ⟨hm.1,qae9 (qaA0 A B) b⟩),h.1.sublist List.erase_sublist,λx=>?_⟩;rw[zBk,b,h.1.mem_erase_iff,h.2];show _↔x∈K1/\¬(false,x)∈_++[(false,k)]∨(true,x)∈_++[(false,k)];rw[zA6,zA6,zAb,zAb];simp only[Prod.mk.injEq,Bool.true_eq_false,false_and,zCv,true_and,not_or];constructor;{rintro⟨c,a|a⟩;{exact .inl ⟨a.1,a.2,c⟩};exact .inr a};rintro (a|a);{exact⟨a.2.2,.inl ⟨a.1,a.2.1⟩⟩};refine⟨λe=>?_,.inr a⟩;subst e;exact((Kf A B).mp (zBe a)).2 hm.1
theorem At.fin(A:Kept N wr hm g1 K1)(B:Kept N wr hm g2 K2)(h:At K1 (A8 N g1 g2) (A8 N g1 g2).length S)(x:Int):x∈S↔x∈K2:=by rw[h.2,zCd,qaI1 A B,Kf A B];by_cases a:x∈K1<;>by_cases b:x∈K2<;>simp[a,b]
theorem qai5(A:Kept N wr hm g1 K1)(B:Kept N wr hm g2 K2)(h:∀x,x∈K1↔x∈K2):A8 N g1 g2=[]:=by have b:Bp N g1 g2=[]:=List.eq_nil_iff_forall_not_mem.mpr λx a=>((qv9 A B).mp a).2 ((h x).mp ((qv9 A B).mp a).1);have e2:Bp N g2 g1=[]:=List.eq_nil_iff_forall_not_mem.mpr λx a=>((qv9 B A).mp a).2 ((h x).mpr ((qv9 B A).mp a).1);unfold A8;rw[b,e2];rfl
end
def qaK8(C CP:γ):VSp:=A5 λds d=>∃n wr ps b g1 a c g2 e K1 K2,ds=[Ae n wr ps,Ah true C CP n wr b g1 a,Ah true C CP n wr c g2 e,.l true (O5 K1)]/\1<=n/\n<=64/\(ps.map (·.1)).Nodup/\(∀k,qb4 n b k=qb4 n ps k)/\(∀k,qb4 n c k=qb4 n ps k)/\Kept n.toNat wr (O3 n ps) g1 K1/\Kept n.toNat wr (O3 n ps) g2 K2/\(∀x∈K1,An x)/\(∀x∈K2,An x)/\D.imms a=true/\a.length<=100/\d=.bl true
abbrev qh6(n:Int)(wr:Bool)(ps:Pr)(a:Adr) (ps1) (g1) (dn1) (ps2) (g2) (dn2) (K1) (d e f g b c:D):=([Ae n wr ps,Ah true a.C4 a.C3 n wr ps1 g1 dn1,Ah true a.C4 a.C3 n wr ps2 g2 dn2,.l true (O5 K1),.l true (O6 n.toNat g1),.l true (O6 n.toNat g2),d,e,f,g,b,c]:Ds)
theorem qN7(T:Txt K mg a):VFn P w K mg base 13 a.f49 a.d49 ["_law_plan", "_law_one", "_law_other", "_law_keys"] (qaK8 a.C4 a.C3):=by
 refine VFn.mk2 T.d49.F qp4 (wOf [true,true,true,true]) qb2 (by walk_at "l") (λ_ _ _ _ _ _ _ E=>⟨_,(Ab (Am 4 qp4.nd (Gn (qi9 1 T.d25 T.C5.cl (qb9 T) qa1 (rm E)))) (Ab (Am 5 qp4.nd (Gn (qi9 2 T.d25 T.C5.cl (qb9 T) qa1 (rm E)))) (Ab (scN (NY:=["_law_key", "_law_second"]) (src:=[none,some 5]) 6 4 qp4.nd (blk (λV C W H0 X=>(A9 0 (show (["_law_key", "_law_second"]:List Str).Nodup by decide +kernel))) (λV C W H0 X=>(Eo (Hy (q2 (As qk3 (qa9 _)) qo8 (vnm 0) Bf) (Fq (q2 (As ql5 (by with_unfolding_all rfl)) Fo (vnm 0) (vnm 1)))).te)) (λV C W H0 X=>(qa5 (Dy (qa2 Dx (qa2 (vnm 0) qa6 rfl) rfl)))))) (Ab (Am 6 qp4.nd (e2n 6 (Al qg0) qf9 (ecN (NY:=["_law_key", "_law_first"]) (src:=[none,some 4]) 5 (blk (λV C W H0 X=>(A9 0 (show (["_law_key", "_law_first"]:List Str).Nodup by decide +kernel))) (λV C W H0 X=>(Eo (Hy (q2 (As qk3 (qa9 _)) qo8 (vnm 0) Bf) (Fq (q2 (As ql5 (by with_unfolding_all rfl)) Fo (vnm 0) (vnm 1)))).te)) (λV C W H0 X=>(qa5 (Dy (qa2 Dx (qa2 (vnm 0) qa6 rfl) rfl)))))))) (Ab (Am 7 qp4.nd (Ak T.d38 (qf5 T) qa1 (rm E) (vaN 1 (vaN 2 Ac)))) (Ab (sif (VTw.te (tor (Br (tv (vbi qi5 qK8.ops T.C8 (qa2 (vnm 7) (qa2 (vty "list" T.Ce) qa6 rfl) rfl)))) (tor (q2 (As (qr1 E.u64) (qa9 _)) Dq (vnm 7) (vnm 6)) (Ge (Br (te (ebi (qy6 rfl) qau1.ops T.Cu (Ev (vaV (ecN (NY:=["_law_deed"]) (src:=[none]) 7 (blk (λV C W H0 X=>(A9 0 (show (["_law_deed"]:List Str).Nodup by decide +kernel))) (λV C W H0 X=>Ec) (λV C W H0 X=>(qa5 (vbi qi5 qK8.ops T.C8 (qa2 (vnm 0) (qa2 (vty "tuple" T.Cv) qa6 rfl) rfl)))))) Ac))))))))) (Aj (Av (qa5 vbl))) A4) (Ab (Am 8 qp4.nd (qi9 1 T.d33 T.C5.cl (qN6 T) qa1 (rm E))) (Ab (Am 9 qp4.nd (qa5 (E9 qe3 qx6.ops T.Ce (qa2 (vnm 3) qa6 rfl)))) (Ab (sforP N9 (vpn 7) (Fc (n:=2) rfl (qu0 (A9 10 qp4.nd) (qu0 (A9 11 qp4.nd) Fb))) (Ab (sif (q2 (As (qm6 E.u64) (qa9 _)) Bq (vnm 10) Dx) (Ab (Be (qm0 8 T.d29 T.C5.cl (qN5 T) qa1 (rm E) (vaN 11 Ac))) (Aj (Be (B7 9 qr3 Oc Oe Of qc9 (vaV (qb3 (vnm 11)) Ac))))) (Ab (Be (qm0 8 T.d30 T.C5.cl (qw0 T) qa1 (rm E) (vaN 11 Ac))) (Aj (Be (B7 9 qaY5 Oc Os F.type_list_remove qar6 (vaV (qb3 (vnm 11)) Ac)))))) (Aj (sif (q2e (A6 (qr1 E.u64) (qa9 _)) (As (qr1 E.u64) (qa9 _)) Dq (qi9 8 T.d25 T.C5.cl (qb9 T) qa1 (rm E)) (Ak T.d43 (qB5 T) qa1 (rm E) (vaN 0 (vaN 9 Ac)))) (Aj (Av (qa5 vbl))) A4)))) (Ab (Be (B7 7 qr3 Oc Oe Of qc9 (vaV (qa5 (Dy (qa2 Dx (qa2 Af qa6 rfl) rfl))) Ac))) (Ab (sif (tor (q2v (A6 (qr1 E.u64) (qa9 _)) (As (qr1 E.u64) (qa9 _)) Dq (Ak T.d38 (qf5 T) qa1 (rm E) (vaN 1 (vaN 2 Ac))) (vnm 6)) (tor (q2v (A6 (qr1 E.u64) (qa9 _)) (As (qr1 E.u64) (qa9 _)) Dq (Ak T.d38 (qf5 T) qa1 (rm E) (vaN 8 (vaN 2 Ac))) (Bz qa6)) (Ge (q2v (A6 qk3 (qa9 _)) (As qk3 (qa9 _)) qo8 (Ak T.d36 (qac2 T) qa1 (rm E) (vaN 8 (vaN 2 Ac))) Bf)))).te (Aj (Av (qa5 vbl))) A4) (Aj (Av (F8 (e2v (A6 (qm6 E.u64) (qa9 _)) Bq (qi9 8 T.d25 T.C5.cl (qb9 T) qa1 (rm E)) (vnm 5)) (Ia (e2v (A6 (qm6 E.u64) (qa9 _)) Bq (Gx (vaV (Gn (qi9 1 T.d25 T.C5.cl (qb9 T) qa1 (rm E))) (vaV (Gn (qi9 2 T.d25 T.C5.cl (qb9 T) qa1 (rm E))) Ac))) (Bz (qa2 (vnm 4) (qa2 (vnm 5) qa6 rfl) rfl)))))))))))))))))),λB Q xe h=>?_⟩);obtain⟨d,⟨n,wr,v,f,g1,j,m,g2,o,K1,K2,rfl,n1,n2,nd,h1,h2,KA,KB,hA,hB,im,b1,rfl⟩,q⟩:=h;have e1:O3 n f=O3 n v:=funext λk=>by unfold O3;rw[h1]
 have lA:=KA.len;have lB:=KB.len;have hk:∀i k,i<n.toNat->g1 i=some k∨g2 i=some k->An k/\qb4 n f k=qb4 n m k:=λi k U h=>⟨h.elim (λe=>hA k ((KA.h.2 k).mpr ⟨i,U,e⟩)) λe=>hB k ((KB.h.2 k).mpr ⟨i,U,e⟩),by rw[h1,h2]⟩;have l1:=qJ3 (N:=n.toNat) (g:=g1) (g':=g2);have l2:=qJ3 (N:=n.toNat) (g:=g2) (g':=g1);have b0:(A8 n.toNat g1 g2).length<=128:=by unfold A8;rw[zA8,zA5,zA5];lia
 have cmp:∀(p:Bool)(w:Str)(_:w=wS p)(g G:Nat->Option Int)(K:Ds->Ds->Prop)(d:D),(∀d,K (stD ((Bp n.toNat g G).map λk=>(p,k))) [d,.l true (O6 n.toNat G)])->Dp (gNm 0) (Jj (ttV (f2 Jg (rdN 0) (kC .non))) (ttV (f2 (Jh true) (rdN 0) (rdN 1)))) (B6 (Bh gTup (Ba (kC (.str w)) (Ba (rdN 0) λ_=>some [])))) K (O6 n.toNat g) [] [d,.l true (O6 n.toNat G)]:=λp w hw g G K d A=>by
  subst hw;refine qh3 (λι=>∃d,ι=[d,.l true (O6 n.toNat G)]) (Fx p n.toNat G) _ [] _ (by show 0+_<1000000;rw[qh2];lia) ⟨_,rfl⟩ ?_ ?_
  .rintro y hy ι a0 ⟨d,rfl⟩ R hR L;have this:=hR [y,.l true (O6 n.toNat G)] ⟨_,rfl⟩;refine qj6 ?_;rcases J2 hy with rfl|⟨k,rfl⟩;{have this:R (a0++[]) _:=this;rw[zAd] at this;exact qp9 false false (λQ q=>qj9 (b:=false) (Ag rfl rfl rfl) q) nofun (Da ∅ this)};have a6:f2 (Jh true) (rdN 0) (rdN 1) [.int k,.l true (O6 n.toNat G)]=some (.bl !(Bl n.toNat G k).isSome):=by refine Ag (x:=.int k) (y:=.l true (O6 n.toNat G)) rfl rfl ?_;show ((flats (O6 n.toNat G)).bind λws=>some (D.bl (if true=true then !inV (.int k) ws else inV (.int k) ws)))=_;rw[qK2];show some (D.bl !(inV (.int k) _))=_;rw[qaG5];rfl
   refine qp9 true (!(Bl n.toNat G k).isSome) (λQ q=>qj9 (b:=true) (Ag rfl rfl rfl) q) (λ_ Q q=>qj9 a6 q) (ite_b (λh=>?_) λh=>?_);{have e:Fx p n.toNat G (.int k)=some (.q [.str (wS p),.int k]):=if_pos h;rw[e] at this;exact qn7 (d:=.q [.str (wS p),.int k]) rfl ⟨L,this⟩};have e:Fx p n.toNat G (.int k)=none:=if_neg (by rw[show (!(Bl n.toNat G k).isSome)=false from h];decide);rw[e] at this;have this:R (a0++[]) _:=this;rw[zAd] at this;exact this
  rintro ι ⟨d,rfl⟩;rw[zAz,qaG2];exact A d
 refine Au [Ae n wr v,Ah true a.C4 a.C3 n wr f g1 j,Ah true a.C4 a.C3 n wr m g2 o,.l true (O5 K1),.u,.u,.u,.u,.u,.u,.u,.u] rfl ?_;refine qb0 [Ae n wr v,Ah true a.C4 a.C3 n wr f g1 j,Ah true a.C4 a.C3 n wr m g2 o,.l true (O5 K1),.l true (O6 n.toNat g1),.u,.u,.u,.u,.u,.u,.u] (λK A=>qd5 (Er (qt6 (p:=Ah true a.C4 a.C3 n wr f g1 j) (d:=rL n g1) rfl (qd2 rfl) ⟨true,n,wr,f,g1,j,rfl,rfl⟩ rfl ?_))) ?_;{rw[show (rL n g1).fz=.l true (O6 n.toNat g1) from congrArg (D.l true) (Ke _ _)];exact A};refine qb0 (qh6 n wr v a f g1 j m g2 o K1 .u .u .u .u .u .u) (λK A=>qd5 (Er (qt6 (p:=Ah true a.C4 a.C3 n wr m g2 o) (d:=rL n g2) rfl (qd2 rfl) ⟨true,n,wr,m,g2,o,rfl,rfl⟩ rfl ?_))) ?_;{rw[show (rL n g2).fz=.l true (O6 n.toNat g2) from congrArg (D.l true) (Ke _ _)];exact A};refine qb0 [Ae n wr v,Ah true a.C4 a.C3 n wr f g1 j,Ah true a.C4 a.C3 n wr m g2 o,.l true (O5 K1),.l true (O6 n.toNat g1),.l true (O6 n.toNat g2),.l false (stD ((Bp n.toNat g1 g2).map λk=>(false,k))),.u,.u,.u,.u,.u] (λK A=>qd5 (qa0 (a:=D.l true (O6 n.toNat g1)) rfl (qa0 (a:=O6 n.toNat g1) rfl ⟨qp7 _ _,cmp false "take" rfl g1 g2 _ _ λ_=>A⟩))) ?_;refine qb0 (qh6 n wr v a f g1 j m g2 o K1 (.l false (stD (A8 n.toNat g1 g2))) .u .u .u .u .u) (λK A=>qd5 ⟨rfl,qa0 (a:=D.l true (O6 n.toNat g2)) rfl (qa0 (a:=O6 n.toNat g2) rfl ⟨qp7 _ _,cmp true "put" rfl g2 g1 _ _ λ_=>qa0 (a:=D.l false (stD (A8 n.toNat g1 g2))) ?_ A⟩)⟩) ?_;{show Fi (D.l false (stD _)) (D.l false (stD _))=_;refine(qh4 ⟨qi4 _,qi4 _,?_⟩).trans ?_;{unfold A8 stD;rw[zBa]};rw[ql7,ql7,zA5,zA5];unfold big;lia};have db:∀(B:Ds)(Q:DK)(xe:XKd),rdN 1 B=some (Ah true a.C4 a.C3 n wr f g1 j)->rdN 2 B=some (Ah true a.C4 a.C3 n wr m g2 o)->rdN 1 (B.set 2 .u)=some (Ah true a.C4 a.C3 n wr f g1 j)->Aq [.sl 1,.sl 2] [Ah true a.C4 a.C3 n wr f g1 j,Ah true a.C4 a.C3 n wr m g2 o] ((B.set 2 .u).set 1 .u)=some B->Q (.l false (stD (A8 n.toNat g1 g2))) B->qk6 (qm9 a.C4 a.C3) [] (tbN 1 (tbN 2 A7)) B Q xe:=λB Q xe a1 a2 a3 a4 q=>qr9 a1 a2 a3 ⟨true,true,n,wr,f,m,g1,g2,j,o,rfl,n1,n2,hk,rfl⟩ a4 q;generalize M:A8 n.toNat g1 g2=t at db b0;refine qb0 (qh6 n wr v a f g1 j m g2 o K1 (.l false (stD t)) (.l false (stD t)) .u .u .u .u) (λK A=>qd5 (db _ _ _ rfl rfl rfl rfl A)) ?_;refine qo0 false (λQ q=>qF1 false false (λQ q=>qs5 (b:=true) (qU4 rfl) q) (λ_ Q q=>qF1 false false (λQ q=>qj9 (b:=false) (Ag rfl rfl (ne_st t)) q) (λ_ Q q=>(show Bw _ _ _ _ from(show ttE _ _ _ _ from Kb (qd7 (qa0 (a:=D.l false (stD t)) rfl (qa0 (a:=stD t) rfl ⟨qi4 t,?_⟩)))))) q) q) nofun λ_=>?_
 {refine qh3 (λι=>∃d,ι=[d]) (λ_=>some (.bl true)) _ [] _ (by show 0+_<1000000;rw[ql7];lia) ⟨_,rfl⟩ ?_ ?_;{rintro y hy ι a0 ⟨d,rfl⟩ R hR L;obtain⟨⟨p,k⟩,_,rfl⟩:=zAx.mp hy;exact qj6 (qQ3 (Dt rfl (qn7 (d:=.bl true) rfl ⟨L,hR [.q [.str (wS p),.int k]] ⟨_,rfl⟩⟩)))};rintro ι ⟨d,rfl⟩;rw[zAz,qK1];refine qb6 (qa0 (a:=D.bl true) ?_ (qa0 (a:=true) rfl q));rw[show fx1 gAll [D.l false ((stD t).map λ_=>D.bl true)]=_ from qav3 (λ_=>true) _,zBi.mpr λ_ _=>rfl]};refine qb0 (qh6 n wr v a f g1 j m g2 o K1 (.l false (stD t)) (.l false (stD t)) (rA a n wr f g1 j) .u .u .u) (λK A=>qd5 (qt6 (p:=Ah true a.C4 a.C3 n wr f g1 j) (d:=rA a n wr f g1 j) rfl (qd2 rfl) ⟨n,wr,f,g1,j,K1,rfl,n1,n2,hA,by rw[e1];exact KA,im,rfl⟩ rfl A)) ?_;refine qb0 (qh6 n wr v a f g1 j m g2 o K1 (.l false (stD t)) (.l false (stD t)) (rA a n wr f g1 j) (kL K1) .u .u) (λK A=>qp0 (qay7 (z:=true)) A) ?_;refine qc1 (λB=>∃g s S Y Z,B=(qh6 n wr v a f g1 j m g2 o K1 (.l false (stD t)) (.l false (stD t)) (rA a n wr f g s) (kL S) Y Z)/\Kept n.toNat wr (O3 n v) g S/\∀x,x∈S↔x∈K2) (λK A=>?_) ?_
 .refine qa0 (a:=(7,[])) rfl (qa0 (a:=D.l false (stD t)) rfl (qa0 (a:=stD t) rfl ⟨qi4 t,λu=>?_⟩));refine qd4 (λi B=>∃g s S Y Z,B=(qh6 n wr v a f g1 j m g2 o K1 (.l false (stD t)) (.hole u) (rA a n wr f g s) (kL S) Y Z)/\Kept n.toNat wr (O3 n v) g S/\At K1 t i S/\s.length=j.length+i) _ 0 _ ⟨g1,j,K1,_,_,rfl,KA,⟨KA.h.1,λx=>by simp⟩,rfl⟩ ?_ ?_
  .rintro i y hy B ⟨g,s,S,Y,Z,rfl,KS,H,J⟩ K2' a7;rw[zAe] at H a7 J;obtain⟨⟨p,k⟩,U,rfl⟩:∃pk:Bool×Int,t[i]?=some pk/\y=.q [.str (wS pk.1),.int pk.2]:=by unfold stD at hy;rw[zB7] at hy;obtain⟨pk,h1,h2⟩:=zAa.mp hy;exact⟨pk,h1,h2.symm⟩
   have b2:=(zA4.mp U).1;have lS:=KS.len;have hS:∀x∈S,An x:=λx hx=>by rcases (H.2 x).mp hx with q|q;{exact hA x q.1};rw[<-M] at q;exact hB x ((Kf KA KB).mp (zBe q)).1
   refine qs1 (Au (qh6 n wr v a f g1 j m g2 o K1 (.l false (stD t)) (.hole u) (rA a n wr f g s) (kL S) (.str (wS p)) (.int k)) rfl ?_);refine qc1 (λB=>∃g s S,B=(qh6 n wr v a f g1 j m g2 o K1 (.l false (stD t)) (.hole u) (rA a n wr f g s) (kL S) (.str (wS p)) (.int k))/\Kept n.toNat wr (O3 n v) g S/\At K1 t (i+1) S/\s.length=j.length+(i+1)) (λK A=>?_) ?_
   .rw[<-M] at U H;cases p with
    |true=>
     obtain⟨nk,k2,sK,O⟩:=H.put KA KB U;rw[M] at O;have nc:NCd n wr v (S++[k]):=qaY4 KB.no_crowd (qaP5 KS.h.1 nk) KB.h.1 λx hx=>by rcases zA6.mp hx with h|h;{exact sK x h};rw[zAb.mp h];exact k2
     refine if_v (b:=true) rfl (λ_=>?_) nofun;refine qc1 (λB=>∃g I,B=(qh6 n wr v a f g1 j m g2 o K1 (.l false (stD t)) (.hole u) (rA a n wr f g I) (kL S) (.str (wS true)) (.int k))/\Kept n.toNat wr (O3 n v) g (S++[k])/\I.length=j.length+(i+1)) (λK A=>?_) ?_
     {refine qf2 (qE6 (p:=rA a n wr f g s) rfl (qd2 rfl) (qc0 (x:=.int k) rfl (qb6 (qa0 (a:=D.int k) rfl (qa0 (a:=rA a n wr f g s) rfl ⟨n,wr,f,g,s,S,k,rfl,n1,n2,hB k k2,hS,by rw[e1];exact KS,nk,by rw[e1];exact nc,⋯,λcame G K'=>?_⟩)))));rw[e1] at K';exact qa0 (a:=(qh6 n wr v a f g1 j m g2 o K1 (.l false (stD t)) (.hole u) (rA a n wr f G (s++[D.q [.str "put",.int k]])) (kL S) (.str (wS true)) (.int k))) rfl (A _ ⟨G,_,rfl,K',by rw[zA8,J];rfl⟩)};rintro B ⟨g,I,rfl,K1',a5⟩;exact qf2 (qao1 (ys:=O5 S) (d:=.int k) rfl rfl rfl (by rw[qg6];unfold big;lia) (by rw[qG6];exact A _ ⟨g,I,_,rfl,K1',O,a5⟩))
    |false=>
     obtain⟨k1,O⟩:=H.take KA KB U;rw[M] at O;refine if_v (b:=false) rfl nofun λ_=>?_
     refine qc1 (λB=>∃g I,B=(qh6 n wr v a f g1 j m g2 o K1 (.l false (stD t)) (.hole u) (rA a n wr f g I) (kL S) (.str (wS false)) (.int k))/\Kept n.toNat wr (O3 n v) g (S.erase k)/\I.length=j.length+(i+1)) (λK A=>?_) ?_;{refine qf2 (qE6 (p:=rA a n wr f g s) rfl (qd2 rfl) (qc0 (x:=.int k) rfl (qb6 (qa0 (a:=D.int k) rfl (qa0 (a:=rA a n wr f g s) rfl ⟨n,wr,f,g,s,S,k,rfl,n1,n2,hS,by rw[e1];exact KS,k1,⋯,λr came G K'=>?_⟩)))));rw[e1,qaS7 KS.h.1] at K';exact qa0 (a:=(qh6 n wr v a f g1 j m g2 o K1 (.l false (stD t)) (.hole u) (rA a n wr f G (s++[D.q [.str "take",.int k]])) (kL S) (.str (wS false)) (.int k))) rfl (A _ ⟨G,_,rfl,K',by rw[zA8,J];rfl⟩)};rintro B ⟨g,I,rfl,K1',a5⟩;exact qf2 (qaL6 (S:=S) (k:=k) rfl rfl k1 (A _ ⟨g,I,_,rfl,K1',O,a5⟩))
   rintro B ⟨g,s,S,rfl,KS,H,J⟩;have lS:=KS.len;exact Jz false (λQ q=>qaV8 (qt6 (p:=rA a n wr f g s) (d:=rL n g) rfl (qd2 rfl) ⟨false,n,wr,f,g,s,rfl,rfl⟩ rfl (qaT5 (x:=Ae n wr v) (y:=kL S) rfl rfl rfl ⟨n,wr,v,false,S,rfl,n1,n2,nd,KS.h.1,⋯,λ⟨q,c⟩=>absurd c (KS.no_crowd q),λ_ gh Kh=>qa0 (a:=(qh6 n wr v a f g1 j m g2 o K1 (.l false (stD t)) (.hole u) (rA a n wr f g s) (kL S) (.str (wS p)) (.int k))) rfl (qa0 (a:=D.bl false) (qba8 (KS.same Kh λ_=>Iff.rfl)) (qa0 (a:=false) rfl q))⟩))) nofun λ_=>a7 _ ⟨g,s,S,_,_,rfl,KS,H,J⟩
  rintro B ⟨g,s,S,Y,Z,rfl,KS,H,J⟩;rw[zAe,ql7,<-M] at H;exact qa0 (qaA5 rfl) (A _ ⟨g,s,S,Y,Z,rfl,KS,H.fin KA KB⟩)
 rintro B ⟨g,s,S,Y,Z,rfl,KS,a8⟩;have same:=KS.same KB a8;have a9:∀i k,i<n.toNat->g i=some k∨g2 i=some k->An k/\qb4 n f k=qb4 n m k:=λi k U h=>hk i k U (.inr (h.elim (λe=>by rw[<-same i U];exact e) id));refine qb0 (qh6 n wr v a f g1 j m g2 o K1 (.l false (stD t)) (.l false (stD t++[D.q [.str "put",.int 5]])) (rA a n wr f g s) (kL S) Y Z) (λK A=>qf2 (qH0 (ys:=stD t) (d:=.q [.str "put",.int 5]) rfl rfl (by rw[ql7];unfold big;lia) A)) ?_;refine qo0 false (λQ q=>qF1 false false (λQ q=>qA9 (db _ _ _ rfl rfl rfl rfl (qa0 (a:=D.bl false) (ne_st t) (qa0 (a:=false) rfl q)))) (λ_ Q q=>qF1 false false (λQ q=>qA9 (qr9 (x:=rA a n wr f g s) (y:=Ah true a.C4 a.C3 n wr m g2 o) rfl rfl rfl ⟨false,true,n,wr,f,m,g,g2,s,o,rfl,n1,n2,a9,rfl⟩ rfl (qa0 (a:=D.bl false) (by rw[qai5 KS KB a8];rfl) (qa0 (a:=false) rfl q)))) (λ_ Q q=>qA9 (qr9 (x:=rA a n wr f g s) (y:=Ah true a.C4 a.C3 n wr m g2 o) rfl rfl rfl ⟨false,true,n,wr,f,m,g,g2,s,o,rfl,n1,n2,a9,rfl⟩ rfl (qa0 (a:=D.bl false) (by unfold partD;rw[qM9 same];rfl) (qa0 (a:=false) rfl q)))) q) q) nofun λ_=>?_
 refine qg5 (qbc9 (qR1 ?_));refine qt6 (p:=rA a n wr f g s) (d:=rL n g) rfl (qd2 rfl) ⟨false,n,wr,f,g,s,rfl,rfl⟩ rfl ?_;refine qa0 (a:=D.bl true) (qba9 same) (qa0 (a:=true) rfl (Dt rfl (qR1 (qB8 (qd7 (Er ?_))))));refine qt6 (p:=Ah true a.C4 a.C3 n wr f g1 j) (d:=rL n g1) rfl (qd2 rfl) ⟨true,n,wr,f,g1,j,rfl,rfl⟩ rfl (qd7 (Er ?_));refine qt6 (p:=Ah true a.C4 a.C3 n wr m g2 o) (d:=rL n g2) rfl (qd2 rfl) ⟨true,n,wr,m,g2,o,rfl,rfl⟩ rfl (qb6 ⟨lt2,qa0 (a:=D.bl true) ?_ q⟩);rw[show (rL n g1).fz=.l true (O6 n.toNat g1) from congrArg (D.l true) (Ke _ _),show (rL n g2).fz=.l true (O6 n.toNat g2) from congrArg (D.l true) (Ke _ _)];show (Ej (eqN 20) [D.l true (O6 n.toNat g1),D.l true (O6 n.toNat g2)] [D.l true (O6 n.toNat g1),D.l true (O6 n.toNat g2)]).map D.bl=_;rw[qu2 λx hx=>qK5 ?_];{rfl};have ok:∀g,okN 20 (D.l true (O6 n.toNat g))=true:=λg=>zBi.mpr λx hx=>by rcases J2 hx with rfl|⟨k,rfl⟩<;>rfl
 simp only[zAh,zBg,zCv] at hx;rcases hx with rfl|rfl;{exact ok g1};exact ok g2
theorem qs9:qa8 ["_law_script", "_law_bag_here", "_law_plan", "_law_keys", "_law_lists", "_law_homes", "_law_rows", "_law_k", "_law_row", "_law_key", "_law_some", "_law_both"] ["_law_script"] (qa3 Gq):=by walk_at "s"
theorem qaT8(h:te ds (λd a=>g d a e.nx) e.xe):El te g e ds:=h
theorem qw4:Aq (.sl i::ps) (y::ys) ds=Aq ps ys (ds.set i y):=rfl
theorem Gu{t u:VTT}{Q:Bool->Ds->Prop}(h:t ds (λk ds1=>if k=true then Q true ds1 else u ds1 Q xe) xe):ttOr t u ds Q xe:=h
theorem qw2(h:tr ds (λxs ps ds1=>s (D.fzs xs) (λd _=>d.plain=true/\orF (Aq ps xs ds1) λa=>Q d a) (λ_ _=>False)) xe):qaB5 s tr ds Q xe:=h
theorem qas8:(Ah zr C CP n wr ps g dn).fz=Ah true C CP n wr ps g (D.fzs dn):=by show D.ins true C [("plan",(Ad true CP n wr ps).fz),("held",.l true (D.fzs (O6 n.toNat g))),("done",.l true (D.fzs dn))]=_;rw[Ke,qaz5];rfl
theorem Ki:∀st:List (Bool×Int),D.fzs (stD st)=stD st|[]=>rfl|q::st=>by show D.q [.str (wS q.1),.int q.2]::D.fzs (stD st)=_;rw[Ki st];rfl
theorem qam5:(Ae n wr ps).fz=Ae n wr ps:=by show D.q [.int n,.bl wr,.l true (D.fzs (O7 ps))]=_;rw[qx5];rfl
theorem Im{y:Bool}{s t:List (Bool×Int)}{K:List Int}:D.fzs [Ae n wr ps,Ah z C CP n wr p g (stD s),Ah z' C CP n wr q h (stD t),.l y (O5 K)]=[Ae n wr ps,Ah true C CP n wr p g (stD s),Ah true C CP n wr q h (stD t),.l true (O5 K)]:=by show [(Ae n wr ps).fz,(Ah z C CP n wr p g (stD s)).fz,(Ah z' C CP n wr q h (stD t)).fz,(D.l y (O5 K)).fz]=_;rw[qam5,qas8,qas8,Di,Ki,Ki]
theorem qC5(a:S.Nodup)(h:k∈S):((S.filter λy=>decide (y≠k))++[k]).Perm S:=by rw[qaS7 a];exact List.perm_append_comm.trans (List.perm_cons_erase h).symm
theorem slB{j:Int}(h:0<=j):gSlB (.l z (O5 ks)) (.int j)=some (kL (ks.take j.toNat)):=qas7 (z:=z) h
theorem qaz6{x:Int}{K:Ds->Ds->Prop}(i:S.length<=1000)(h:∀d,K (O5 (S.filter λy=>decide (y≠x))) [d,.int x]):Dp (gNm 0) (ttV (f2 gNe (rdN 0) (rdN 1))) (Bu (rdN 0)) K (O5 S) [] [d,.int x]:=by
 refine qh3 (λι=>∃d,ι=[d,.int x]) (E3 λy=>decide (y≠x)) _ [] _ (by show 0+_<1000000;rw[qg6];lia) ⟨_,rfl⟩ ?_ ?_
 .rintro y f ι c ⟨d,rfl⟩ R g a;obtain⟨k,_,rfl⟩:=zAx.mp f;have this:=g [.int k,.int x] ⟨_,rfl⟩;have e:gNe (.int k) (.int x)=some (.bl (decide (k≠x))):=by show some (D.bl (!(k==x)))=_;by_cases h:k=x;{subst h;rw[zBc,zB3 λz=>z rfl];rfl};rw[zC8 h,zAg h];rfl
  refine qj6 (qj9 (b:=decide (k≠x)) (Ag rfl rfl e) (ite_b (λh=>?_) λh=>?_));{rw[qX9 (by exact h)] at this;exact qn9 (d:=.int k) rfl rfl ⟨a,this⟩};rw[qY0 (by exact h)] at this;have this:R (c++[]) _:=this;rw[zAd] at this;exact this
 rintro ι ⟨d,rfl⟩;rw[qC1,zAz];exact h d
def okR(C CP:γ)(n:Int)(wr:Bool)(ps a:Pr)(S0 S1:List Int)(m:Nat)(d:D):Prop:=m=0/\(∃g st,d=Ah false C CP n wr ps g (stD st)/\Kept n.toNat wr (O3 n ps) g S0/\st.length<=20)∨m=1/\∃g st,d=Ah false C CP n wr a g (stD st)/\Kept n.toNat wr (O3 n ps) g S1/\st.length<=20
abbrev qi6 (u) (n:Int) (wr:Bool) (ps:Pr) (ks) (S0) (S1) (qs) (p1 c d e f a b:D):=([.hole u,p1,Ae n wr ps,.l true (O5 ks),.q [.l true (O5 S0),.l true (O5 S1)],.l false [.l true (O7 ps),.l true (O7 qs)],c,d,e,f,a,b]:Ds)
theorem qaY2(T:Txt K mg a):Eg P w K mg base (CX1 P w) 14 a.f50 a.d50 ["_law_script"] (Hd K):=by
 refine T.d50.F.okX qs9 (λvs H Q E h=>?_) (λa8 A outer s H vs Q E hr h=>?_);{obtain⟨l,ns,rfl,_⟩:=h;rfl};obtain⟨l,ns,rfl,hS,hl,k⟩:=h;refine⟨_,qT3 (sset 1 qs9.nd (Hb T.d39 (qaP0 T) (rm hr) (qc5 (pv 0) ql4))) (show VSs ⟨λ_=>E,λ_=>false,Ls 12 none,[]⟩ (Et true (CX1 P w) P w K mg base ["_law_script", "_law_bag_here", "_law_plan", "_law_keys", "_law_lists", "_law_homes", "_law_rows", "_law_k", "_law_row", "_law_key", "_law_some", "_law_both"] "law" (qa3 Gq) a.f50 a8 A outer s H E) _ _ from(Ab (Fl (Ak T.d45 (qar2 T) qa1 (rm hr) (vaN 1 (vaV (qa5 Af) Ac))) (Fc (n:=2) rfl (qu0 (A9 2 qs9.nd) (qu0 (A9 3 qs9.nd) Fb)))) (Ab (Am 4 qs9.nd (Ak T.d47 (qaO9 T) qa1 (rm hr) (vaN 1 (vaN 2 (vaV (efz 3) Ac))))) (Ab (Am 5 qs9.nd (Gx (vaV (Gn (qa5 (E9 qe3 qx6.ops T.Ce (qa2 (v2 (Aw qb5) Ap (vnm 2) Af) qa6 rfl)))) (vaV (Gn (Ak T.d48 (qE4 T) qa1 (rm hr) (vaN 1 (vaN 2 (vaN 3 Ac))))) Ac)))) (Ab (Am 6 qs9.nd (qa5 (Bz qa6))) (Ab (qS2 N9 T.Ci (Ev (vaV (qa5 Af) Ac)) (A9 7 qs9.nd) (Ab (Am 8 qs9.nd (qaT1 T.C5 T.D1 T.d24 (qG1 T) qa1 (rm hr) (vaV (Gn (emake T.C6 T.D3 T.d7 (qT9 T) qa1 (rm hr) (vaV (qb3 (v2 (Aw qb5) Ap (vnm 2) Af)) (vaV (qb3 (v2 (Aw qb5) Ap (vnm 2) Af)) (vaV (qb3 (v2 (Aw qb5) Ap (vnm 5) (vnm 7))) Ac))))) (vaV (Ak T.d43 (qB5 T) qa1 (rm hr) (vaN 2 (vaV (qb3 (v2 (Aw qb5) Ap (vnm 4) (vnm 7))) Ac))) Ac)))) (Ab (Ft N9 (e2 p_sl qaO2 (qb3 (v2 (Aw qb5) Ap (vnm 4) (vnm 7))) (Ak T.d40 (qb7 T) qa1 (rm hr) (vaN 1 (vaV (qa5 Af) Ac)))) (A9 9 qs9.nd) (Ab (Be (qm0 8 T.d30 T.C5.cl (qw0 T) qa1 (rm hr) (vaN 9 Ac))) (Aj (Be (qm0 8 T.d29 T.C5.cl (qN5 T) qa1 (rm hr) (vaN 9 Ac)))))) (Aj (Be (B7 6 qr3 Oc Oe Of qc9 (vaN 8 Ac))))))) (Ab (qaK9 [] (λav=>(sif (tor (Br (te (Ak T.d49 (qN7 T) qa1 (rm hr) (vaN 2 (vaV (qb3 (v2 (Aw qb5) Ap (vnm 6) Af)) (vaV (qb3 (v2 (Aw qb5) Ap (vnm 6) Af)) (vaV (qb3 (v2 (Aw qb5) Ap (vnm 4) Af)) Ac))))))) (Ge (q2v (A6 (qr1 hr.u64) (qa9 _)) (As (qr1 hr.u64) (qa9 _)) Dq (Ak T.d38 (qf5 T) qa1 (rm hr) (vaV (qb3 (v2 (Aw qb5) Ap (vnm 6) Af)) (vaV (qb3 (v2 (Aw qb5) Ap (vnm 6) Af)) Ac))) (Bz qa6)))).te (Aj (Av (qa5 vbl))) A4))) (Ab (qS2 N9 T.Ci (Ev (vaV (qa5 Af) Ac)) (A9 7 qs9.nd) (Aj (Ft N9 (e2 p_sl qaO2 (qa5 (E9 qe3 qx6.ops T.Ce (qa2 (v2 (Aw qb5) Ap (vnm 4) (vnm 7)) qa6 rfl))) (e2 (Al qg0) qf9 (qa5 Af) (Ak T.d40 (qb7 T) qa1 (rm hr) (vaN 1 (vaV (qa5 Af) Ac))))) (A9 9 qs9.nd) (Ab (scL (NY:=["_law_one", "_law_key"]) (src:=[none,some 9]) 10 qs9.nd (qb3 (v2 (Aw qb5) Ap (vnm 4) (vnm 7))) (blk (λav C o H0 ex=>(A9 0 (show (["_law_one", "_law_key"]:List Str).Nodup by decide +kernel))) (λav C o H0 ex=>(Eo (q2 (As (qr1 hr.u64) (qa9 _)) Dq (vnm 0) (vnm 1)))) (λav C o H0 ex=>(qb3 (vnm 0))))) (Ab (Be (emeth T.d30 T.C5.cl (qw0 T) qa1 (rm hr) (Gg (vpn 6) (vnm 7)) (vaN 9 Ac))) (Ab (Am 11 qs9.nd (Gx (vaV (efz 10) (vaV (Gn (qb3 (v2 (Aw qb5) Ap (vnm 4) (v2 (Al qr0) qq9 Af (vnm 7))))) Ac)))) (Ab (sif (tor (Br (te (qaH9 T.d49 (qN7 T) qa1 (rm hr) (vaN 2 (vaB (Gg (vpn 6) (vnm 7)) (vaB (Gg (vpn 6) (v2 (Al qr0) qq9 Af (vnm 7))) (vaV (qb3 (v2 (Aw qb5) Ap (vnm 11) Af)) Ac))))))) (Ge (Br (te (qaH9 T.d49 (qN7 T) qa1 (rm hr) (vaN 2 (vaB (Gg (vpn 6) (v2 (Al qr0) qq9 Af (vnm 7))) (vaB (Gg (vpn 6) (vnm 7)) (vaV (qb3 (v2 (Aw qb5) Ap (vnm 11) Af)) Ac))))))))).te (Aj (Av (qa5 vbl))) A4) (Aj (sif (tor (q2v (A6 qk3 (qa9 _)) (As qk3 (qa9 _)) qo8 (qbb4 T.d31 T.C5.cl (qac5 T) qa1 (rm hr) (Gg (vpn 6) (vnm 7))) vbl) (Ge (Br (te (qaH9 T.d49 (qN7 T) qa1 (rm hr) (vaN 2 (vaB (Gg (vpn 6) (vnm 7)) (vaB (Gg (vpn 6) (v2 (Al qr0) qq9 Af (vnm 7))) (vaV (qb3 (v2 (Aw qb5) Ap (vnm 4) (vnm 7))) Ac))))))))).te (Aj (Av (qa5 vbl))) A4))))))))) (Aj (qaK9 [] (λav=>(Av (Ak T.d49 (qN7 T) qa1 (rm hr) (vaN 2 (vaV (qb3 (v2 (Aw qb5) Ap (vnm 6) Af)) (vaV (qb3 (v2 (Aw qb5) Ap (vnm 6) Af)) (vaV (qb3 (v2 (Aw qb5) Ap (vnm 4) Af)) Ac))))))))))))))))).h,?_⟩;refine⟨_,rfl,l,ns,rfl,hS,hl,λp L H' hp hL kp B=>?_⟩;obtain⟨x,y,z,Z,B⟩:=B;refine qas0 (rest:=[]) (X:=Et true (CX1 P w) P w K mg base [] "law" (qa3 Gq) a.f50 a8 A outer s H E) (n:=10) (x:=x) (y:=y) (z:=z) (ns:=Z) rfl (λ_=>rfl) rfl B.at_ B.li B.ne (λH'=>k H') ?_;have B0:Pf Z (bagD x y z Z):=⟨x,y,z,rfl,B.x0,B.y0,B.y1,B.z0,B.nn⟩;generalize bagD x y z Z=b at B0;generalize V.ref l=u;refine Au [.hole u,b,.u,.u,.u,.u,.u,.u,.u,.u,.u,.u] rfl ?_;refine qc1 (λR=>∃b n wr e M,R=[.hole u,b,Ae n wr e,kL M,.u,.u,.u,.u,.u,.u,.u,.u]/\Pf Z b/\1<=n/\n<=64/\qL4 e/\M.Nodup/\(∀k∈M,An k)/\M.length<=66/\∃t,e.map (·.1)=M.take t) (λK hK=>?_) ?_;{refine qaT8 (qg7 (qc0 (x:=b) (qk2 rfl B0.known) (qk0 (y:=.int 64) rfl (qb6 (qa0 (a:=b) (qk2 rfl B0.known) ?_)))));exact⟨b,64,Z,rfl,B0,∅,∅,λb' n wr e M B' n1 n2 G nd hk a7 ht=>qa0 (a:=[.hole u,b',.u,.u,.u,.u,.u,.u,.u,.u,.u,.u]) rfl (qs1 (hK _ ⟨b',n,wr,e,M,rfl,B',n1,n2,G,nd,hk,a7,ht⟩))⟩};rintro R ⟨b,n,wr,e,M,rfl,B,n1,n2,GP,a9,hk,a7,b2⟩;refine qc1 (λR=>∃b S0 S1,R=[.hole u,b,Ae n wr e,.l true (O5 M),.q [.l true (O5 S0),.l true (O5 S1)],.u,.u,.u,.u,.u,.u,.u]/\Pf Z b/\okL n wr e M S0/\okL n wr e M S1) (λK hK=>?_) ?_;{refine qd5 (qg7 (qc0 (x:=b) (qk2 rfl B.known) (qc0 (x:=Ae n wr e) rfl (qd7 (qa0 (a:=D.l false (O5 M)) rfl ?_)))));rw[Di];refine qb6 (qa0 (a:=Ae n wr e) rfl (qa0 (a:=b) (qk2 rfl B.known) ⟨b,Z,n,wr,e,M,rfl,B,n1,n2,GP.nd,a9,a7,λb' S T B' o1 o2=>qa0 (a:=[.hole u,b',Ae n wr e,.l true (O5 M),.u,.u,.u,.u,.u,.u,.u,.u]) rfl (hK _ ⟨b',S,T,rfl,B',o1,o2⟩)⟩))};clear B;rintro R ⟨b,S0,S1,rfl,B,o0,o1⟩;have hA:∀x∈S0,An x:=λx hx=>hk x (o0.2.1 x hx);have hB:∀x∈S1,An x:=λx hx=>hk x (o1.2.1 x hx);have b7:=qar4 n1 o0.2.2;have b8:=qar4 n1 o1.2.2;refine qc1 (λR=>∃b f,R=(qi6 u n wr e M S0 S1 f b .u .u .u .u .u .u)/\Pf Z b/\qL4 f/\∀k,qb4 n f k=qb4 n e k) (λK hK=>?_) ?_;{refine qd5 (qB8 (qd7 (Er (qn7 (d:=.l false (O7 e)) (qay6 (z:=true)) (qd7 (Er (qg7 (qc0 (x:=b) (qk2 rfl B.known) (qc0 (x:=Ae n wr e) rfl (qc0 (x:=.l true (O5 M)) rfl (qb6 (qa0 (a:=D.l true (O5 M)) rfl (qa0 (a:=Ae n wr e) rfl (qa0 (a:=b) (qk2 rfl B.known) ⟨b,Z,n,wr,e,M,rfl,B,n1,n2,GP,a9,hk,b2,λb' f B' G' hq=>qa0 (a:=[.hole u,b',Ae n wr e,.l true (O5 M),.q [.l true (O5 S0),.l true (O5 S1)],.u,.u,.u,.u,.u,.u,.u]) rfl (qb6 ⟨lt2,?_⟩)⟩))))))))))))));rw[show (D.l false (O7 e)).fz=.l true (O7 e) from congrArg (D.l true) (qx5 e),show (D.l false (O7 f)).fz=.l true (O7 f) from congrArg (D.l true) (qx5 f)];exact hK _ ⟨b',f,rfl,B',G',hq⟩};clear B;rintro R ⟨b,f,rfl,B,GQ,hq⟩;have a2:O3 n f=O3 n e:=funext λk=>by unfold O3;rw[hq]
 refine qb0 (qi6 u n wr e M S0 S1 f b (.l false []) .u .u .u .u .u) (λK hK=>qp0 rfl hK) ?_;refine qc1 (λR=>∃b J o g1 I d7 O W,R=(qi6 u n wr e M S0 S1 f b (.l false [rA a n wr e J (stD o),rA a n wr f g1 (stD I)]) d7 O W .u .u)/\Pf Z b/\Kept n.toNat wr (O3 n e) J S0/\Kept n.toNat wr (O3 n e) g1 S1/\o.length<=20/\I.length<=20) (λK hK=>?_) ?_
 .refine qK0 (n:=2) rfl ∅ ?_;refine qd4 (λi R=>∃b rs d7 O W,R=(qi6 u n wr e M S0 S1 f b (.l false rs) d7 O W .u .u)/\Pf Z b/\rs.length=i/\∀m d,rs[m]?=some d->okR a.C4 a.C3 n wr e f S0 S1 m d) _ 0 _ ⟨b,[],_,_,_,rfl,B,rfl,nofun⟩ ?_ ?_
  .rintro j y hy R ⟨b,rs,d7,O,W,rfl,B,a6,a3⟩ K2 a1;obtain⟨hj,rfl⟩:=qT2 hy;rw[zAe] at a6 a1;obtain⟨pp,Sx,b3,b0,Gp,ep,a4,fin⟩:∃pp Sx,gIx (.l false [.l true (O7 e),.l true (O7 f)]) (.int (j:Nat))=some (.l true (O7 pp))/\gIx (.q [.l true (O5 S0),.l true (O5 S1)]) (.int (j:Nat))=some (.l true (O5 Sx))/\qL4 pp/\O3 n pp=O3 n e/\okL n wr e M Sx/\∀g st,Kept n.toNat wr (O3 n e) g Sx->st.length<=20->okR a.C4 a.C3 n wr e f S0 S1 j (rA a n wr pp g (stD st)):=by rcases (show j=0∨j=1 by lia) with rfl|rfl;{exact⟨e,S0,rfl,rfl,GP,rfl,o0,λg st h1 h2=>.inl ⟨rfl,g,st,rfl,h1,h2⟩⟩};exact⟨f,S1,rfl,rfl,GQ,a2,o1,λg st h1 h2=>.inr ⟨rfl,g,st,rfl,h1,h2⟩⟩
   have hx:∀x∈Sx,An x:=λx h=>hk x (a4.2.1 x h);have b9:=qar4 n1 a4.2.2;refine qj6 (Au (qi6 u n wr e M S0 S1 f b (.l false rs) (.int (j:Nat)) O W .u .u) rfl ?_);refine qc1 (λR=>∃g,R=(qi6 u n wr e M S0 S1 f b (.l false rs) (.int (j:Nat)) (rA a n wr pp g []) W .u .u)/\Kept n.toNat wr (O3 n e) g Sx) (λK hK=>?_) ?_;{refine qd5 (qaj9 (qd7 (Er (qaj9 (qb8 (y:=.int n) rfl rfl (qb8 (y:=.bl wr) rfl rfl (qb8 (y:=.l true (O7 pp)) (Ag rfl rfl b3) rfl (qb6 ⟨n,wr,true,pp,rfl,n1,n2,Gp,rfl,qa0 (a:=Ad false a.C3 n wr pp) rfl (qa0 (a:=(qi6 u n wr e M S0 S1 f b (.l false rs) (.int (j:Nat)) O W .u .u)) rfl ?_)⟩))))))));rw[qaz5];refine qd7 (qg7 (qc0 (x:=Ae n wr e) rfl (qb8 (y:=.l true (O5 Sx)) (Ag rfl rfl b0) rfl (qb6 (qa0 (a:=Ae n wr e) rfl ⟨n,wr,e,true,Sx,rfl,n1,n2,GP.nd,a4.1,⋯,λ⟨q,c⟩=>absurd c (a4.2.2 q),λ_ g Kg=>qa0 (a:=(qi6 u n wr e M S0 S1 f b (.l false rs) (.int (j:Nat)) O W .u .u)) rfl (qb6 ⟨n,wr,pp,_,g,Sx,rfl,n1,n2,hx,by rw[ep];exact Kg,.inr ⟨false,rfl⟩,rfl,qa0 (a:=rA a n wr pp g []) rfl (qa0 (a:=(qi6 u n wr e M S0 S1 f b (.l false rs) (.int (j:Nat)) O W .u .u)) rfl (hK _ ⟨g,rfl,Kg⟩))⟩)⟩)))))};rintro R ⟨g,rfl,Kg⟩;refine qc1 (λR=>∃b g st W,R=(qi6 u n wr e M S0 S1 f b (.l false rs) (.int (j:Nat)) (rA a n wr pp g (stD st)) W .u .u)/\Pf Z b/\Kept n.toNat wr (O3 n e) g Sx/\st.length<=20) (λK hK=>?_) ?_;{refine t2_of (x:=.l true (O5 Sx)) (Ag rfl rfl b0) rfl (qc4 (ds:=[.hole u,b,Ae n wr e,.l true (O5 M),.q [.l true (O5 S0),.l true (O5 S1)],.l false [.l true (O7 e),.l true (O7 f)],.l false rs,.int (j:Nat),rA a n wr pp g [],W,.u,.u]) (m:=3) rfl B rfl ∅ ∅ λv b v0 v1 B=>qa0 (a:=D.l false (O5 (Sx.take v.toNat))) (slB v0) (qa0 (a:=O5 (Sx.take v.toNat)) rfl ⟨qd0 _,?_⟩));refine qd4 (λi R=>∃g st W,R=(qi6 u n wr e M S0 S1 f b (.l false rs) (.int (j:Nat)) (rA a n wr pp g (stD st)) W .u .u)/\Kept n.toNat wr (O3 n e) g Sx/\st.length=2*i) _ 0 _ ⟨g,[],_,rfl,Kg,rfl⟩ ?_ ?_;{rintro i y hy R ⟨g,st,W,rfl,Kg,a5⟩ K3 b1;rw[zAe] at a5 b1;obtain⟨x,hi,rfl⟩:=qO5 hy;have b4:=(zA4.mp hi).1;rw[zB5] at b4;have a0:x∈Sx:=zBe (zB0 hi);refine qj6 (Au (qi6 u n wr e M S0 S1 f b (.l false rs) (.int (j:Nat)) (rA a n wr pp g (stD st)) (.int x) .u .u) rfl ?_);refine qc1 (λR=>∃g,R=(qi6 u n wr e M S0 S1 f b (.l false rs) (.int (j:Nat)) (rA a n wr pp g (stD (st++[(false,x)]))) (.int x) .u .u)/\Kept n.toNat wr (O3 n e) g (Sx.filter λy=>decide (y≠x))) (λK hK=>?_) ?_;{refine qf2 (qE6 (p:=rA a n wr pp g (stD st)) rfl (qd2 rfl) (qc0 (x:=.int x) rfl (qb6 (qa0 (a:=D.int x) rfl (qa0 (a:=rA a n wr pp g (stD st)) rfl ⟨n,wr,pp,g,stD st,Sx,x,rfl,n1,n2,hx,by rw[ep];exact Kg,a0,by rw[ql7];lia,λr came Y K'=>?_⟩)))));rw[ep] at K';refine qa0 (a:=(qi6 u n wr e M S0 S1 f b (.l false rs) (.int (j:Nat)) (rA a n wr pp Y (stD (st++[(false,x)]))) (.int x) .u .u)) ?_ (hK _ ⟨Y,rfl,K'⟩);rw[<-qF2];rfl};rintro R ⟨g,rfl,Kg⟩;have pm:=qC5 a4.1 a0;refine qf2 (qE6 (p:=rA a n wr pp g (stD (st++[(false,x)]))) rfl (qd2 rfl) (qc0 (x:=.int x) rfl (qb6 (qa0 (a:=D.int x) rfl (qa0 (a:=rA a n wr pp g (stD (st++[(false,x)]))) rfl ⟨n,wr,pp,g,_,_,x,rfl,n1,n2,hx x a0,λy hy=>hx y (zAt.mp hy).1,by rw[ep];exact Kg,λh=>by simpa using (zAt.mp h).2,λq c=>a4.2.2 q (by rw[ep] at c;exact c.perm pm),by rw[ql7,zA8];show _+1<=1000;lia,λcame Y K'=>?_⟩)))));rw[ep] at K';refine qa0 (a:=(qi6 u n wr e M S0 S1 f b (.l false rs) (.int (j:Nat)) (rA a n wr pp Y (stD ((st++[(false,x)])++[(true,x)]))) (.int x) .u .u)) ?_ (b1 _ ⟨Y,_,_,rfl,K'.of_perm pm,by rw[zA8,zA8,a5];show 2*i+1+1=_;lia⟩);rw[<-qF2 (p:=true)];rfl};rintro R ⟨g,st,W,rfl,Kg,a5⟩;rw[zAe,qg6,zB5] at a5;exact hK _ ⟨b,g,st,W,rfl,B,Kg,⋯⟩};clear B;rintro R ⟨b,g,st,W,rfl,B,Kg,a5⟩;refine qf2 (qaJ1 (ys:=rs) (d:=rA a n wr pp g (stD st)) rfl rfl rfl ∅ (by unfold big;lia) (a1 _ ⟨b,_,_,_,_,rfl,B,by rw[zA8,a6];rfl,λm d h=>?_⟩));rcases Nat.lt_or_ge m rs.length with hm|hm;{rw[zAj hm] at h;exact a3 m d h};rw[zBt hm] at h;have b5:m-rs.length=0:=by have:=(zA4.mp h).1;simp at this;lia
   rw[b5] at h;obtain rfl:rA a n wr pp g (stD st)=d:=N8 h;obtain rfl:m=j:=⋯;exact fin g st Kg a5
  rintro R ⟨b,rs,d7,O,W,rfl,B,a6,a3⟩;match rs,a6,a3 with|[r0,r1],_,a3=>rcases a3 0 r0 rfl with⟨_,J,o,rfl,KA,l0⟩|⟨h,_⟩;{rcases a3 1 r1 rfl with⟨h,_⟩|⟨_,g1,I,rfl,KB,l1⟩;{cases h};exact hK _ ⟨b,J,o,g1,I,_,_,_,rfl,B,KA,KB,l0,l1⟩};cases h
 clear B;rintro R ⟨b,J,o,g1,I,d7,O,W,rfl,B,KA,KB,l0,l1⟩;have eZ:∀(b d7 O W U N:D)(J g1:Nat->Option Int)(o I:List (Bool×Int)),D.fzs [.hole u,b,Ae n wr e,.l true (O5 M),.q [.l true (O5 S0),.l true (O5 S1)],.l false [.l true (O7 e),.l true (O7 f)],.l false [rA a n wr e J (stD o),rA a n wr f g1 (stD I)],d7,O,W,U,N]=[.hole u,b.fz,Ae n wr e,.l true (O5 M),.q [.l true (O5 S0),.l true (O5 S1)],.l true [.l true (O7 e),.l true (O7 f)],.l true [Ah true a.C4 a.C3 n wr e J (stD o),Ah true a.C4 a.C3 n wr f g1 (stD I)],d7.fz,O.fz,W.fz,U.fz,N.fz]:=λb d7 O W U N J g1 o I=>by show [D.hole u,b.fz,(Ae n wr e).fz,(D.l true (O5 M)).fz,.q [(D.l true (O5 S0)).fz,(D.l true (O5 S1)).fz],.l true [.l true (D.fzs (O7 e)),.l true (D.fzs (O7 f))],.l true [(rA a n wr e J (stD o)).fz,(rA a n wr f g1 (stD I)).fz],d7.fz,O.fz,W.fz,U.fz,N.fz]=_;rw[qam5,Di,Di,Di,qx5,qx5,qas8,qas8,Ki,Ki]
 refine qb0 (qi6 u n wr e M S0 S1 f b (.l false [rA a n wr e J (stD o),rA a n wr f g1 (stD I)]) d7 O W .u .u) (λK hK=>qak3 ?_) ?_;{rw[eZ];refine qaG7 (Gu (show Bw _ _ _ _ from(show ttE _ _ _ _ from ?_)));refine qg7 (qc0 (x:=Ae n wr e) rfl (qb8 (y:=Ah true a.C4 a.C3 n wr e J (stD o)) rfl rfl (qb8 (y:=Ah true a.C4 a.C3 n wr f g1 (stD I)) rfl rfl (qb8 (y:=.l true (O5 S0)) rfl rfl (qb6 (qa0 (a:=Ae n wr e) rfl ⟨.bl true,⟨n,wr,e,e,J,stD o,f,g1,stD I,S0,S1,rfl,n1,n2,GP.nd,λ_=>rfl,hq,KA,KB,hA,hB,qi4 _,by rw[ql7];lia,rfl⟩,qa0 (a:=[.hole u,b.fz,Ae n wr e,.l true (O5 M),.q [.l true (O5 S0),.l true (O5 S1)],.l true [.l true (O7 e),.l true (O7 f)],.l true [Ah true a.C4 a.C3 n wr e J (stD o),Ah true a.C4 a.C3 n wr f g1 (stD I)],d7.fz,O.fz,W.fz,(D.u).fz,(D.u).fz]) rfl (qa0 (a:=true) rfl (Da ∅ ?_))⟩))))));refine qA9 (qg7 (qb8 (y:=Ah true a.C4 a.C3 n wr e J (stD o)) rfl rfl (qb8 (y:=Ah true a.C4 a.C3 n wr e J (stD o)) rfl rfl (qb6 ⟨_,⟨true,true,n,wr,e,e,J,J,stD o,stD o,rfl,n1,n2,λi k hi h=>⟨hA k ((KA.h.2 k).mpr ⟨i,hi,h.elim id id⟩),rfl⟩,rfl⟩,qa0 (a:=[.hole u,b.fz,Ae n wr e,.l true (O5 M),.q [.l true (O5 S0),.l true (O5 S1)],.l true [.l true (O7 e),.l true (O7 f)],.l true [Ah true a.C4 a.C3 n wr e J (stD o),Ah true a.C4 a.C3 n wr f g1 (stD I)],d7.fz,O.fz,W.fz,(D.u).fz,(D.u).fz]) rfl (qa0 (a:=D.bl false) (by rw[qai5 KA KA λ_=>Iff.rfl];rfl) (qa0 (a:=false) rfl (Da ∅ hK)))⟩))))};refine qc1 (λR=>∃b J o g1 I d7 O W U N,R=(qi6 u n wr e M S0 S1 f b (.l false [rA a n wr e J (stD o),rA a n wr f g1 (stD I)]) d7 O W U N)/\Pf Z b/\Kept n.toNat wr (O3 n e) J S0/\Kept n.toNat wr (O3 n e) g1 S1/\o.length<=20/\I.length<=20) (λK hK=>?_) ?_
 .refine qK0 (n:=2) rfl ∅ ?_;refine qd4 (λ_ R=>∃b J o g1 I d7 O W U N,R=(qi6 u n wr e M S0 S1 f b (.l false [rA a n wr e J (stD o),rA a n wr f g1 (stD I)]) d7 O W U N)/\Pf Z b/\Kept n.toNat wr (O3 n e) J S0/\Kept n.toNat wr (O3 n e) g1 S1/\o.length<=20/\I.length<=20) _ 0 _ ⟨b,J,o,g1,I,_,_,_,_,_,rfl,B,KA,KB,l0,l1⟩ ?_ λR h=>hK _ h;clear B KA KB l0 l1;rintro j y hy R ⟨b,J,o,g1,I,d7,O,W,U,N,rfl,B,KA,KB,l0,l1⟩ K2 a1;obtain⟨hj,rfl⟩:=qT2 hy;refine qj6 (show sForL _ _ _ _ _ from ?_);rcases (show j=0∨j=1 by lia) with rfl|rfl
  .refine qx8 (x:=kL S0) (show Fp (.l true (O5 S0))=_ from qh4 (qd0 _)) (qx8 (x:=.int 1) rfl (qc4 (ds:=[.hole u,b,Ae n wr e,.l true (O5 M),.q [.l true (O5 S0),.l true (O5 S1)],.l false [.l true (O7 e),.l true (O7 f)],.l false [rA a n wr e J (stD o),rA a n wr f g1 (stD I)],.int ((0:Nat):Int),O,W,U,N]) (m:=2) rfl B rfl ∅ ∅ λv b v0 v1 B=>qa0 (a:=D.int (1+v)) rfl (qa0 (a:=D.l false (O5 (S0.take (1+v).toNat))) (slB ⋯) (qa0 (a:=O5 (S0.take (1+v).toNat)) rfl ⟨qd0 _,?_⟩))));refine qd4 (λ_ R=>∃b J o g1 I O W U N,R=(qi6 u n wr e M S0 S1 f b (.l false [rA a n wr e J (stD o),rA a n wr f g1 (stD I)]) (.int ((0:Nat):Int)) O W U N)/\Pf Z b/\Kept n.toNat wr (O3 n e) J S0/\Kept n.toNat wr (O3 n e) g1 S1/\o.length<=20/\I.length<=20) _ 0 _ ⟨b,J,o,g1,I,_,_,_,_,rfl,B,KA,KB,l0,l1⟩ ?_ ?_;rotate_left
   {rintro R ⟨b,J,o,g1,I,O,W,U,N,rfl,B,KA,KB,l0,l1⟩;exact a1 _ ⟨b,J,o,g1,I,_,_,_,_,_,rfl,B,KA,KB,l0,l1⟩};rintro jx y hy R ⟨b,J,o,g1,I,O,W,U,N,rfl,B,KA,KB,l0,l1⟩ K3 a1;obtain⟨x,hx,rfl⟩:=qO5 hy;refine qj6 (Au (qi6 u n wr e M S0 S1 f b (.l false [rA a n wr e J (stD o),rA a n wr f g1 (stD I)]) (.int ((0:Nat):Int)) O (.int x) U N) rfl ?_);have a0:x∈S0:=zBe (zB0 hx);refine qb0 [.hole u,b,Ae n wr e,.l true (O5 M),.q [.l true (O5 S0),.l true (O5 S1)],.l false [.l true (O7 e),.l true (O7 f)],.l false [rA a n wr e J (stD o),rA a n wr f g1 (stD I)],.int ((0:Nat):Int),O,.int x,kL (S0.filter λy=>decide (y≠x)),N] (λK hK=>qd5 (qn9 (d:=.l true (O5 S0)) rfl rfl (qa0 (a:=O5 S0) rfl ⟨qd0 _,qaz6 ⋯ λ_=>hK⟩))) ?_;refine qc1 (λR=>∃Y,R=[.hole u,b,Ae n wr e,.l true (O5 M),.q [.l true (O5 S0),.l true (O5 S1)],.l false [.l true (O7 e),.l true (O7 f)],.l false [rA a n wr e Y (stD (o++[(false,x)])),rA a n wr f g1 (stD I)],.int ((0:Nat):Int),O,.int x,kL (S0.filter λy=>decide (y≠x)),N]/\Kept n.toNat wr (O3 n e) Y (S0.filter λy=>decide (y≠x))) (λK hK=>?_) ?_;{refine qf2 (qJ1 (i:=6) (p:=[0]) (d:=rA a n wr e J (stD o)) rfl rfl (qd2 rfl) λw=>qc0 (x:=.int x) rfl (qb6 (qa0 (a:=D.int x) rfl ⟨n,wr,e,J,stD o,S0,x,rfl,n1,n2,hA,KA,a0,by rw[ql7];lia,λr came Y K'=>?_⟩)));skip;refine qa0 (a:=[.hole u,b,Ae n wr e,.l true (O5 M),.q [.l true (O5 S0),.l true (O5 S1)],.l false [.l true (O7 e),.l true (O7 f)],.l false [rA a n wr e Y (stD (o++[(false,x)])),rA a n wr f g1 (stD I)],.int ((0:Nat):Int),O,.int x,kL (S0.filter λy=>decide (y≠x)),N]) ?_ (hK _ ⟨Y,rfl,K'⟩);show Aq (.pl 6 [0] w::.sl 9::_) (_::_) _=_;rw[qd1 rfl,show stD o++[D.q [.str "take",.int x]]=stD (o++[(false,x)]) from qF2 (p:=false)];rfl};rintro R ⟨Y,rfl,K'⟩;have hF:∀y∈(S0.filter λy=>decide (y≠x)),An y:=λy hy=>hA y (zAt.mp hy).1;have b6:((o++[(false,x)])).length<=21:=by rw[zA8];show _+1<=21;lia
   refine qb0 [.hole u,b,Ae n wr e,.l true (O5 M),.q [.l true (O5 S0),.l true (O5 S1)],.l false [.l true (O7 e),.l true (O7 f)],.l false [rA a n wr e Y (stD (o++[(false,x)])),rA a n wr f g1 (stD I)],.int ((0:Nat):Int),O,.int x,.l true (O5 (S0.filter λy=>decide (y≠x))),.l false [.l true (O5 (S0.filter λy=>decide (y≠x))),.l true (O5 S1)]] (λK hK=>qd5 (qB8 (qd7 (qa0 (a:=D.l false (O5 (S0.filter λy=>decide (y≠x)))) rfl (qd7 (Er (qn9 (d:=.l true (O5 S1)) rfl rfl (qb6 ⟨lt2,?_⟩)))))))) ?_;{rw[Di,Di];exact hK};refine qU5 (Gu (show Bw _ _ _ _ from(show ttE _ _ _ _ from ?_)));refine qw2 (qc0 (x:=Ae n wr e) rfl (qa0 (a:=(6,[0])) rfl (qa0 (a:=rA a n wr e Y (stD (o++[(false,x)]))) rfl ⟨rfl,λw=>qa0 (a:=(6,[1])) rfl (qa0 (a:=rA a n wr f g1 (stD I)) rfl ⟨rfl,λw'=>qb8 (y:=.l true (O5 (S0.filter λy=>decide (y≠x)))) rfl rfl (qb6 (qa0 (a:=Ae n wr e) rfl ?_))⟩)⟩)));rw[Im];refine⟨.bl true,⟨n,wr,e,e,Y,stD (o++[(false,x)]),f,g1,stD I,(S0.filter λy=>decide (y≠x)),S1,rfl,n1,n2,GP.nd,(λ_=>rfl),hq,K',KB,hF,hB,qi4 _,by rw[ql7];lia,rfl⟩,rfl,qa0 (a:=[.hole u,b,Ae n wr e,.l true (O5 M),.q [.l true (O5 S0),.l true (O5 S1)],.l false [.l true (O7 e),.l true (O7 f)],.l false [rA a n wr e Y (stD (o++[(false,x)])),rA a n wr f g1 (stD I)],.int ((0:Nat):Int),O,.int x,.l true (O5 (S0.filter λy=>decide (y≠x))),.l false [.l true (O5 (S0.filter λy=>decide (y≠x))),.l true (O5 S1)]]) ?_ (qa0 (a:=true) rfl ?_)⟩;{show Aq (.sl 2::.pl 6 [0] w::.pl 6 [1] w'::_) (_::_::_::_) _=_;rw[qw4,qd1 rfl,qd1 rfl];rfl};refine Da ∅ (show Bw _ _ _ _ from(show ttE _ _ _ _ from ?_));refine qw2 (qc0 (x:=Ae n wr e) rfl (qa0 (a:=(6,[1])) rfl (qa0 (a:=rA a n wr f g1 (stD I)) rfl ⟨rfl,λw=>qa0 (a:=(6,[0])) rfl (qa0 (a:=rA a n wr e Y (stD (o++[(false,x)]))) rfl ⟨rfl,λw'=>qb8 (y:=.l true (O5 S1)) rfl rfl (qb6 (qa0 (a:=Ae n wr e) rfl ?_))⟩)⟩)));rw[Im];refine⟨.bl true,⟨n,wr,e,f,g1,stD I,e,Y,stD (o++[(false,x)]),S1,(S0.filter λy=>decide (y≠x)),rfl,n1,n2,GP.nd,hq,(λ_=>rfl),KB,K',hB,hF,qi4 _,by rw[ql7];lia,rfl⟩,rfl,qa0 (a:=[.hole u,b,Ae n wr e,.l true (O5 M),.q [.l true (O5 S0),.l true (O5 S1)],.l false [.l true (O7 e),.l true (O7 f)],.l false [rA a n wr e Y (stD (o++[(false,x)])),rA a n wr f g1 (stD I)],.int ((0:Nat):Int),O,.int x,.l true (O5 (S0.filter λy=>decide (y≠x))),.l false [.l true (O5 (S0.filter λy=>decide (y≠x))),.l true (O5 S1)]]) ?_ (qa0 (a:=true) rfl ?_)⟩;{show Aq (.sl 2::.pl 6 [1] w::.pl 6 [0] w'::_) (_::_::_::_) _=_;rw[qw4,qd1 rfl,qd1 rfl];rfl};refine Da ∅ ?_;refine qaG7 (Gu (qA9 (qJ1 (i:=6) (p:=[0]) (d:=rA a n wr e Y (stD (o++[(false,x)]))) rfl rfl (qd2 rfl) λw=>qb6 ⟨n,wr,e,Y,_,(S0.filter λy=>decide (y≠x)),rfl,n1,n2,hF,K',.inr ⟨stD o,x,hA x a0,.inr ⟨(qF2 (p:=false)).symm,λh=>by simpa using (zAt.mp h).2,λq c=>KA.no_crowd q ((c).perm (qC5 KA.h.1 a0)),λg2 K2=>?_⟩⟩⟩)));skip;replace K2:=K2.of_perm (qC5 KA.h.1 a0);refine qa0 (a:=[.hole u,b,Ae n wr e,.l true (O5 M),.q [.l true (O5 S0),.l true (O5 S1)],.l false [.l true (O7 e),.l true (O7 f)],.l false [rA a n wr e g2 (stD o),rA a n wr f g1 (stD I)],.int ((0:Nat):Int),O,.int x,.l true (O5 (S0.filter λy=>decide (y≠x))),.l false [.l true (O5 (S0.filter λy=>decide (y≠x))),.l true (O5 S1)]]) ?_ (qa0 (a:=D.bl false) rfl (qa0 (a:=false) rfl (Da ∅ (show Bw _ _ _ _ from(show ttE _ _ _ _ from ?_)))));{show Aq (.pl 6 [0] w::_) (_::_) _=_;rw[qd1 rfl];rfl};refine qw2 (qc0 (x:=Ae n wr e) rfl (qa0 (a:=(6,[0])) rfl (qa0 (a:=rA a n wr e g2 (stD o)) rfl ⟨rfl,λw=>qa0 (a:=(6,[1])) rfl (qa0 (a:=rA a n wr f g1 (stD I)) rfl ⟨rfl,λw'=>qb8 (y:=.l true (O5 S0)) rfl rfl (qb6 (qa0 (a:=Ae n wr e) rfl ?_))⟩)⟩)));rw[Im];refine⟨.bl true,⟨n,wr,e,e,g2,stD o,f,g1,stD I,S0,S1,rfl,n1,n2,GP.nd,(λ_=>rfl),hq,K2,KB,hA,hB,qi4 _,by rw[ql7];lia,rfl⟩,rfl,qa0 (a:=[.hole u,b,Ae n wr e,.l true (O5 M),.q [.l true (O5 S0),.l true (O5 S1)],.l false [.l true (O7 e),.l true (O7 f)],.l false [rA a n wr e g2 (stD o),rA a n wr f g1 (stD I)],.int ((0:Nat):Int),O,.int x,.l true (O5 (S0.filter λy=>decide (y≠x))),.l false [.l true (O5 (S0.filter λy=>decide (y≠x))),.l true (O5 S1)]]) ?_ (qa0 (a:=true) rfl ?_)⟩;{show Aq (.sl 2::.pl 6 [0] w::.pl 6 [1] w'::_) (_::_::_::_) _=_;rw[qw4,qd1 rfl,qd1 rfl];rfl};exact Da ∅ (a1 _ ⟨b,g2,o,g1,I,_,_,_,_,rfl,B,K2,KB,l0,l1⟩)
  refine qx8 (x:=kL S1) (show Fp (.l true (O5 S1))=_ from qh4 (qd0 _)) (qx8 (x:=.int 1) rfl (qc4 (ds:=[.hole u,b,Ae n wr e,.l true (O5 M),.q [.l true (O5 S0),.l true (O5 S1)],.l false [.l true (O7 e),.l true (O7 f)],.l false [rA a n wr e J (stD o),rA a n wr f g1 (stD I)],.int ((1:Nat):Int),O,W,U,N]) (m:=2) rfl B rfl ∅ ∅ λv b v0 v1 B=>qa0 (a:=D.int (1+v)) rfl (qa0 (a:=D.l false (O5 (S1.take (1+v).toNat))) (slB ⋯) (qa0 (a:=O5 (S1.take (1+v).toNat)) rfl ⟨qd0 _,?_⟩))));refine qd4 (λ_ R=>∃b J o g1 I O W U N,R=(qi6 u n wr e M S0 S1 f b (.l false [rA a n wr e J (stD o),rA a n wr f g1 (stD I)]) (.int ((1:Nat):Int)) O W U N)/\Pf Z b/\Kept n.toNat wr (O3 n e) J S0/\Kept n.toNat wr (O3 n e) g1 S1/\o.length<=20/\I.length<=20) _ 0 _ ⟨b,J,o,g1,I,_,_,_,_,rfl,B,KA,KB,l0,l1⟩ ?_ ?_;rotate_left
  {rintro R ⟨b,J,o,g1,I,O,W,U,N,rfl,B,KA,KB,l0,l1⟩;exact a1 _ ⟨b,J,o,g1,I,_,_,_,_,_,rfl,B,KA,KB,l0,l1⟩};rintro jx y hy R ⟨b,J,o,g1,I,O,W,U,N,rfl,B,KA,KB,l0,l1⟩ K3 a1;obtain⟨x,hx,rfl⟩:=qO5 hy;refine qj6 (Au (qi6 u n wr e M S0 S1 f b (.l false [rA a n wr e J (stD o),rA a n wr f g1 (stD I)]) (.int ((1:Nat):Int)) O (.int x) U N) rfl ?_);have a0:x∈S1:=zBe (zB0 hx);refine qb0 [.hole u,b,Ae n wr e,.l true (O5 M),.q [.l true (O5 S0),.l true (O5 S1)],.l false [.l true (O7 e),.l true (O7 f)],.l false [rA a n wr e J (stD o),rA a n wr f g1 (stD I)],.int ((1:Nat):Int),O,.int x,kL (S1.filter λy=>decide (y≠x)),N] (λK hK=>qd5 (qn9 (d:=.l true (O5 S1)) rfl rfl (qa0 (a:=O5 S1) rfl ⟨qd0 _,qaz6 ⋯ λ_=>hK⟩))) ?_;refine qc1 (λR=>∃Y,R=[.hole u,b,Ae n wr e,.l true (O5 M),.q [.l true (O5 S0),.l true (O5 S1)],.l false [.l true (O7 e),.l true (O7 f)],.l false [rA a n wr e J (stD o),rA a n wr f Y (stD (I++[(false,x)]))],.int ((1:Nat):Int),O,.int x,kL (S1.filter λy=>decide (y≠x)),N]/\Kept n.toNat wr (O3 n e) Y (S1.filter λy=>decide (y≠x))) (λK hK=>?_) ?_;{refine qf2 (qJ1 (i:=6) (p:=[1]) (d:=rA a n wr f g1 (stD I)) rfl rfl (qd2 rfl) λw=>qc0 (x:=.int x) rfl (qb6 (qa0 (a:=D.int x) rfl ⟨n,wr,f,g1,stD I,S1,x,rfl,n1,n2,hB,by rw[a2];exact KB,a0,by rw[ql7];lia,λr came Y K'=>?_⟩)));rw[a2] at K';refine qa0 (a:=[.hole u,b,Ae n wr e,.l true (O5 M),.q [.l true (O5 S0),.l true (O5 S1)],.l false [.l true (O7 e),.l true (O7 f)],.l false [rA a n wr e J (stD o),rA a n wr f Y (stD (I++[(false,x)]))],.int ((1:Nat):Int),O,.int x,kL (S1.filter λy=>decide (y≠x)),N]) ?_ (hK _ ⟨Y,rfl,K'⟩);show Aq (.pl 6 [1] w::.sl 9::_) (_::_) _=_;rw[qd1 rfl,show stD I++[D.q [.str "take",.int x]]=stD (I++[(false,x)]) from qF2 (p:=false)];rfl};rintro R ⟨Y,rfl,K'⟩;have hF:∀y∈(S1.filter λy=>decide (y≠x)),An y:=λy hy=>hB y (zAt.mp hy).1;have b6:((I++[(false,x)])).length<=21:=by rw[zA8];show _+1<=21;lia
  refine qb0 [.hole u,b,Ae n wr e,.l true (O5 M),.q [.l true (O5 S0),.l true (O5 S1)],.l false [.l true (O7 e),.l true (O7 f)],.l false [rA a n wr e J (stD o),rA a n wr f Y (stD (I++[(false,x)]))],.int ((1:Nat):Int),O,.int x,.l true (O5 (S1.filter λy=>decide (y≠x))),.l false [.l true (O5 (S1.filter λy=>decide (y≠x))),.l true (O5 S0)]] (λK hK=>qd5 (qB8 (qd7 (qa0 (a:=D.l false (O5 (S1.filter λy=>decide (y≠x)))) rfl (qd7 (Er (qn9 (d:=.l true (O5 S0)) rfl rfl (qb6 ⟨lt2,?_⟩)))))))) ?_;{rw[Di,Di];exact hK};refine qU5 (Gu (show Bw _ _ _ _ from(show ttE _ _ _ _ from ?_)));refine qw2 (qc0 (x:=Ae n wr e) rfl (qa0 (a:=(6,[1])) rfl (qa0 (a:=rA a n wr f Y (stD (I++[(false,x)]))) rfl ⟨rfl,λw=>qa0 (a:=(6,[0])) rfl (qa0 (a:=rA a n wr e J (stD o)) rfl ⟨rfl,λw'=>qb8 (y:=.l true (O5 (S1.filter λy=>decide (y≠x)))) rfl rfl (qb6 (qa0 (a:=Ae n wr e) rfl ?_))⟩)⟩)));rw[Im];refine⟨.bl true,⟨n,wr,e,f,Y,stD (I++[(false,x)]),e,J,stD o,(S1.filter λy=>decide (y≠x)),S0,rfl,n1,n2,GP.nd,hq,(λ_=>rfl),K',KA,hF,hA,qi4 _,by rw[ql7];lia,rfl⟩,rfl,qa0 (a:=[.hole u,b,Ae n wr e,.l true (O5 M),.q [.l true (O5 S0),.l true (O5 S1)],.l false [.l true (O7 e),.l true (O7 f)],.l false [rA a n wr e J (stD o),rA a n wr f Y (stD (I++[(false,x)]))],.int ((1:Nat):Int),O,.int x,.l true (O5 (S1.filter λy=>decide (y≠x))),.l false [.l true (O5 (S1.filter λy=>decide (y≠x))),.l true (O5 S0)]]) ?_ (qa0 (a:=true) rfl ?_)⟩;{show Aq (.sl 2::.pl 6 [1] w::.pl 6 [0] w'::_) (_::_::_::_) _=_;rw[qw4,qd1 rfl,qd1 rfl];rfl};refine Da ∅ (show Bw _ _ _ _ from(show ttE _ _ _ _ from ?_));refine qw2 (qc0 (x:=Ae n wr e) rfl (qa0 (a:=(6,[0])) rfl (qa0 (a:=rA a n wr e J (stD o)) rfl ⟨rfl,λw=>qa0 (a:=(6,[1])) rfl (qa0 (a:=rA a n wr f Y (stD (I++[(false,x)]))) rfl ⟨rfl,λw'=>qb8 (y:=.l true (O5 S0)) rfl rfl (qb6 (qa0 (a:=Ae n wr e) rfl ?_))⟩)⟩)));rw[Im];refine⟨.bl true,⟨n,wr,e,e,J,stD o,f,Y,stD (I++[(false,x)]),S0,(S1.filter λy=>decide (y≠x)),rfl,n1,n2,GP.nd,(λ_=>rfl),hq,KA,K',hA,hF,qi4 _,by rw[ql7];lia,rfl⟩,rfl,qa0 (a:=[.hole u,b,Ae n wr e,.l true (O5 M),.q [.l true (O5 S0),.l true (O5 S1)],.l false [.l true (O7 e),.l true (O7 f)],.l false [rA a n wr e J (stD o),rA a n wr f Y (stD (I++[(false,x)]))],.int ((1:Nat):Int),O,.int x,.l true (O5 (S1.filter λy=>decide (y≠x))),.l false [.l true (O5 (S1.filter λy=>decide (y≠x))),.l true (O5 S0)]]) ?_ (qa0 (a:=true) rfl ?_)⟩;{show Aq (.sl 2::.pl 6 [0] w::.pl 6 [1] w'::_) (_::_::_::_) _=_;rw[qw4,qd1 rfl,qd1 rfl];rfl};refine Da ∅ ?_;refine qaG7 (Gu (qA9 (qJ1 (i:=6) (p:=[1]) (d:=rA a n wr f Y (stD (I++[(false,x)]))) rfl rfl (qd2 rfl) λw=>qb6 ⟨n,wr,f,Y,_,(S1.filter λy=>decide (y≠x)),rfl,n1,n2,hF,by rw[a2];exact K',.inr ⟨stD I,x,hB x a0,.inr ⟨(qF2 (p:=false)).symm,λh=>by simpa using (zAt.mp h).2,λq c=>KB.no_crowd q (((a2 ▸ c:Crowd n.toNat wr (O3 n e) _ q)).perm (qC5 KB.h.1 a0)),λg2 K2=>?_⟩⟩⟩)));rw[a2] at K2;replace K2:=K2.of_perm (qC5 KB.h.1 a0);refine qa0 (a:=[.hole u,b,Ae n wr e,.l true (O5 M),.q [.l true (O5 S0),.l true (O5 S1)],.l false [.l true (O7 e),.l true (O7 f)],.l false [rA a n wr e J (stD o),rA a n wr f g2 (stD I)],.int ((1:Nat):Int),O,.int x,.l true (O5 (S1.filter λy=>decide (y≠x))),.l false [.l true (O5 (S1.filter λy=>decide (y≠x))),.l true (O5 S0)]]) ?_ (qa0 (a:=D.bl false) rfl (qa0 (a:=false) rfl (Da ∅ (show Bw _ _ _ _ from(show ttE _ _ _ _ from ?_)))));{show Aq (.pl 6 [1] w::_) (_::_) _=_;rw[qd1 rfl];rfl};refine qw2 (qc0 (x:=Ae n wr e) rfl (qa0 (a:=(6,[1])) rfl (qa0 (a:=rA a n wr f g2 (stD I)) rfl ⟨rfl,λw=>qa0 (a:=(6,[0])) rfl (qa0 (a:=rA a n wr e J (stD o)) rfl ⟨rfl,λw'=>qb8 (y:=.l true (O5 S1)) rfl rfl (qb6 (qa0 (a:=Ae n wr e) rfl ?_))⟩)⟩)));rw[Im];refine⟨.bl true,⟨n,wr,e,f,g2,stD I,e,J,stD o,S1,S0,rfl,n1,n2,GP.nd,hq,(λ_=>rfl),K2,KA,hB,hA,qi4 _,by rw[ql7];lia,rfl⟩,rfl,qa0 (a:=[.hole u,b,Ae n wr e,.l true (O5 M),.q [.l true (O5 S0),.l true (O5 S1)],.l false [.l true (O7 e),.l true (O7 f)],.l false [rA a n wr e J (stD o),rA a n wr f g2 (stD I)],.int ((1:Nat):Int),O,.int x,.l true (O5 (S1.filter λy=>decide (y≠x))),.l false [.l true (O5 (S1.filter λy=>decide (y≠x))),.l true (O5 S0)]]) ?_ (qa0 (a:=true) rfl ?_)⟩;{show Aq (.sl 2::.pl 6 [1] w::.pl 6 [0] w'::_) (_::_::_::_) _=_;rw[qw4,qd1 rfl,qd1 rfl];rfl};exact Da ∅ (a1 _ ⟨b,J,o,g2,I,_,_,_,_,rfl,B,KA,K2,l0,l1⟩)
 rintro R ⟨b,J,o,g1,I,d7,O,W,U,N,rfl,B,KA,KB,l0,l1⟩;refine qak3 ?_;rw[eZ];refine qg5 (qg7 (qc0 (x:=Ae n wr e) rfl (qb8 (y:=Ah true a.C4 a.C3 n wr f g1 (stD I)) rfl rfl (qb8 (y:=Ah true a.C4 a.C3 n wr e J (stD o)) rfl rfl (qb8 (y:=.l true (O5 S1)) rfl rfl (qb6 (qa0 (a:=Ae n wr e) rfl ⟨.bl true,⟨n,wr,e,f,g1,stD I,e,J,stD o,S1,S0,rfl,n1,n2,GP.nd,hq,λ_=>rfl,KB,KA,hB,hA,qi4 _,by rw[ql7];lia,rfl⟩,qa0 (a:=[.hole u,b.fz,Ae n wr e,.l true (O5 M),.q [.l true (O5 S0),.l true (O5 S1)],.l true [.l true (O7 e),.l true (O7 f)],.l true [Ah true a.C4 a.C3 n wr e J (stD o),Ah true a.C4 a.C3 n wr f g1 (stD I)],d7.fz,O.fz,W.fz,U.fz,N.fz]) rfl ⟨rfl,rfl⟩⟩)))))))
end
theorem dfX{x:Str}{f:γ}{m:Array (Option V')}{kV e d j:V'}(X:K.In h)(G:h.Ns Kt mg)(a:W.nsIn K Kt x=some (some (.ref f)))(l:K.lookup f=some ⟨oc,n,.func (W.fnOf x qual (qg1 st) (qe1 st) (qa3 st) .none kV e i g d j),m⟩)(c:W.codeIn K d qual=true)(k:W.keepIn K (.ref f)=true)(b:∀(kV e i:V')(g:Option γ)(d j:V')(us:List V'),us.length=ps.length->bindArgs (W.fnOf x qual (qg1 st) (qe1 st) (qa3 st) .none kV e i g d j) ⟨us,[]⟩=pure (ps.zip us)):Df K mg x qual st f (W.fnOf x qual (qg1 st) (qe1 st) (qa3 st) .none kV e i g d j) ps:=dfmk l c k (W.mg_of X G a) b
theorem qbd0{l:W.OpenLaw}{fa f1 f2 f3 d f o t u x y D Q R S V:γ}{b:ε}(h0:mg "law"=some (.ref fa))(j0:Df K mg "_wall" "_wall" qaw5 f0 d0 ["k"])(j1:Df K mg "is_whole" "is_whole" qA0 f1 d1 ["thing"])(j2:Df K mg "is_whole_within" "is_whole_within" qg8 f2 d2 ["thing", "least", "most"])(j3:Df K mg "is_number" "is_number" qv3 f3 d3 ["thing"])(j4:Df K mg "are_parted" "are_parted" qq5 f4 d4 ["numbers"])(j5:Df K mg "is_number_pair" "is_number_pair" qh8 f5 d5 ["thing"])(j6:Df K mg "is_home_list" "is_home_list" qk8 f6 d6 ["thing"])(j7:Md K C0 "__init__" "Plan.__init__" qv7 f7 d7 ["self", "rooms", "wraps", "homes"])(j8:Md K C0 "is_room" "Plan.is_room" ql0 f8 d8 ["self", "thing"])(j9:Md K C0 "home" "Plan.home" qv8 f9 d9 ["self", "key"])(h1:Md K C0 "far" "Plan.far" qA6 d Z ["self", "key", "room"])(h2:Md K C0 "goes_ahead" "Plan.goes_ahead" qg9 f a0 ["self", "room", "one", "other"])(h3:Df K mg "room_ahead" "room_ahead" qq4 g a1 ["plan", "room"])(h4:Df K mg "word_by_room_ahead" "word_by_room_ahead" qf0 h a2 ["plan", "rooms", "room"])(h5:Df K mg "word_due" "word_due" qz8 i a3 ["plan", "rooms", "room"])(h6:Df K mg "is_turned" "is_turned" qv2 j a4 ["plan", "rooms"])(h7:Df K mg "fault_of" "fault_of" qA1 n a5 ["plan", "rooms"])(h8:Df K mg "are_crowd" "are_crowd" qv5 o a6 ["plan", "keys", "room"])(h9:Df K mg "crowded_room" "crowded_room" qk9 p a7 ["plan", "keys"])(i0:Df K mg "refuse_crowd" "refuse_crowd" qk7 q a8 ["plan", "keys"])(i1:Df K mg "bring_in" "bring_in" qA2 r a9 ["plan", "rooms", "key"])(i2:Df K mg "room_behind" "room_behind" qn1 t b0 ["plan", "room"])(i3:Df K mg "is_drawn_from" "is_drawn_from" qj3 u b1 ["plan", "rooms", "room"])(i4:Df K mg "draw_back" "draw_back" qv4 x b2 ["plan", "rooms", "room"])(i5:MdN K C1 "__init__" "Row.__init__" qA5 c b3 ["self", "plan", "rooms"])(i6:Md K C1 "rooms_held" "Row.rooms_held" qh9 y b4 ["self"])(i7:Md K C1 "keys_held" "Row.keys_held" qj5 z b5 ["self"])(i8:Md K C1 "many" "Row.many" qM6 A b6 ["self"])(i9:Md K C1 "room_of" "Row.room_of" qn2 B b7 ["self", "key"])(k0:Md K C1 "put" "Row.put" qI2 C b8 ["self", "key"])(k1:Md K C1 "take" "Row.take" qA4 D b9 ["self", "key"])(k2:Md K C1 "undo" "Row.undo" qA3 E c0 ["self"])(k3:Md K C1 "deeds" "Row.deeds" qv6 F c1 ["self"])(k4:Md K C1 "copied" "Row.copied" qq6 G c2 ["self"])(k5:Df K mg "are_alike_at_home" "are_alike_at_home" qf4 H c3 ["one", "other", "keys"])(k6:Df K mg "refuse_unlike" "refuse_unlike" qj2 I c4 ["one", "other"])(k7:Df K mg "parts_at" "parts_at" qz9 J c5 ["one", "other"])(k8:Df K mg "only_in" "only_in" qI1 L c6 ["one", "other"])(k9:Df K mg "deeds_between" "deeds_between" qj4 M c7 ["one", "other"])(l0:Df K mg "_law_bag" "_law_bag" qaC5 N c8 ["_law_script"])(l1:Df K mg "_law_take" "_law_take" qag4 O c9 ["_law_bag_here", "_law_many"])(l2:Df K mg "_law_home" "_law_home" qag5 P e0 ["_law_plan", "_law_key"])(l3:Df K mg "_law_passing" "_law_passing" qA7 Q e1 ["_law_plan", "_law_keys"])(l4:Df K mg "_law_housed" "_law_housed" qI3 R e3 ["_law_plan", "_law_keys"])(l5:Df K mg "_law_drawn_homes" "_law_drawn_homes" ql2 S e4 ["_law_bag_here", "_law_size", "_law_many"])(l6:Df K mg "_law_drawn" "_law_drawn" qS9 T e5 ["_law_bag_here", "_law_most"])(l7:Df K mg "_law_fitting" "_law_fitting" qA8 U e6 ["_law_plan", "_law_keys"])(l8:Df K mg "_law_two" "_law_two" qaC3 V e7 ["_law_bag_here", "_law_plan", "_law_keys"])(l9:Df K mg "_law_other_homes" "_law_other_homes" ql1 X e8 ["_law_bag_here", "_law_plan", "_law_keys"])(m0:Df K mg "_law_led" "_law_led" qaC4 Y e9 ["_law_plan", "_law_one", "_law_other", "_law_keys"])(g0:Df K mg "law" "law" Gq g9 b ["_law_script"])(m1:mg "MOST_NUMBER"=some (.int 1000000000000000000 Cd))(m2:mg "MOST_ROOMS"=some (.int 64 Cg))(m3:mg "MOST_HOMES"=some (.int 64 Ch))(m4:mg "abs"=none)(m5:mg "all"=none)(m6:mg "bool"=none)(m7:mg "dict"=none)(m8:mg "enumerate"=none)(m9:mg "int"=none)(n0:mg "isinstance"=none)(n1:mg "len"=none)(n2:mg "list"=none)(n3:mg "max"=none)(n4:mg "min"=none)(n5:mg "range"=none)(n6:mg "reversed"=none)(n7:mg "set"=none)(n8:mg "sorted"=none)(n9:mg "tuple"=none)(o0:mg "zip"=none)(o1:Cl K mg "Plan" C0)(o2:Mk K C0 f7)(o3:qh0 K C0 "rooms")(o4:qh0 K C0 "wraps")(o5:qh0 K C0 "homes")(o6:qh0 K C0 "home_numbers")(o7:IsO K C0)(o8:Cl K mg "Row" C1)(o9:Mk K C1 c)(p0:qh0 K C1 "plan")(p2:qh0 K C1 "held")(p3:qh0 K C1 "done")(hb:∀(s:δ)(v:V'),BindsTo s b ⟨[v],[]⟩ [("_law_script",v)]):∃fd:ε,(∀(s:δ)(v:V'),BindsTo s fd ⟨[v],[]⟩ [("_law_script",v)])/\∀base:Heap,K.In base->base.Ns Kt mg->Eg l.prog w K mg base (CX1 l.prog w) 14 fa fd ["_law_script"] (Hd K):=by have e:=h0.symm.trans g0.m;injection e with e;injection e with e;subst e;exact⟨b,hb,λbase _ _=>qaY2 (a:=⟨f0,d0,f1,d1,f2,d2,f3,d3,f4,d4,f5,d5,f6,d6,f7,d7,f8,d8,f9,d9,d,Z,f,a0,g,a1,h,a2,i,a3,j,a4,n,a5,o,a6,p,a7,q,a8,r,a9,t,b0,u,b1,x,b2,c,b3,y,b4,z,b5,A,b6,B,b7,C,b8,D,b9,E,c0,F,c1,G,c2,H,c3,I,c4,J,c5,L,c6,M,c7,N,c8,O,c9,P,e0,Q,e1,R,e3,S,e4,T,e5,U,e6,V,e7,X,e8,Y,e9,fa,b,Cd,Cg,Ch,C0,C1⟩) ⟨j0,j1,j2,j3,j4,j5,j6,j7,j8,j9,h1,h2,h3,h4,h5,h6,h7,h8,h9,i0,i1,i2,i3,i4,i5,i6,i7,i8,i9,k0,k1,k2,k3,k4,k5,k6,k7,k8,k9,l0,l1,l2,l3,l4,l5,l6,l7,l8,l9,m0,g0,m1,m2,m3,m4,m5,m6,m7,m8,m9,n0,n1,n2,n3,n4,n5,n6,n7,n8,n9,o0,o1,o2,o3,o4,o5,o6,o7,o8,o9,p0,p2,p3⟩⟩
theorem walk{l:W.OpenLaw}{d:DefRec}{K:Params->Oa}(c:l.most=some 63)(b:d.params.defaults=[])(e:∀(w:La)(h:Heap),YP w h->(K w.params).In h)(F:∀(w:La)(mg:Str->Option V')(fa:γ)(h:Heap),(K w.params).In h->h.Ns Kt mg->mg d.name=some (.ref fa)->∃fd:ε,(∀(s:δ)(u:V'),BindsTo s fd ⟨[u],[]⟩ [("_law_script",u)])/\∀base:Heap,(K w.params).In base->base.Ns Kt mg->Eg l.prog w (K w.params) mg base (CX1 l.prog w) 14 fa fd ["_law_script"] (Hd (K w.params))):W.WalkO q loose XP YP l.row.toRowW d [] (λf vs=>PySem.call f vs):=L2.qaJ2 (n:=63) (k:=14) (x := "_law_script") (CX:=λw=>CX1 l.prog w) (sp:=λw=>Hd (K w.params)) c ∅ b ⟨λ_=>rfl,∅,∅⟩ e F (λ_ _ a g i _ j=>⟨a,g,rfl,j,i,λ_=>rfl⟩) λ_ _ _ _ _ z=>z
end LV.My
open PySem PySem.W PyProof.Rows L2
local macro_rules | `(tactic| walk_at "u")=>`(tactic| (intro _ _ _ _ _ _;repeat' first|exact LV.ec0 (rfl)|refine LV.ec1 λ_=>?_))
local macro_rules | `(tactic| walk_at "d")=>`(tactic| (refine' LV.My.dfX (by assumption) (by assumption) ?a ?l ?c ?k ?b;(case a|l|c|k=>k_is);(case b=>walk_at "u")))
local macro_rules | `(tactic| walk_at "e")=>`(tactic| (refine' mdmk ?l ?c ?k ?a ?i ?b;(case a|i|l|c|k=>k_is);(case b=>walk_at "u")))
local macro_rules | `(tactic| walk_at "c")=>`(tactic| (refine' mg_of (by assumption) (by assumption) ?a;k_is))
local macro_rules | `(tactic| walk_at "z")=>`(tactic| (refine' mg_none_of (by assumption) (by assumption) ?a;k_is))
local macro_rules | `(tactic| walk_at "q")=>`(tactic| (first|k_is|kernel_rfl|rfl))
local macro_rules | `(tactic| walk_at "n")=>`(tactic| (show findIn _ _ _=some none;k_is))
theorem PySem.Challenge.cw_homeward_k84_whole_deeds_between_holds : PySem.Challenge.rw_homeward_k84_whole_deeds_between.Holds := by
 w_on;o_law;k_head;(case hw=>w_witness2)
 k_fill
 refine LV.My.walk (l:=PySem.Challenge.rw_homeward_k84_whole_deeds_between) rfl rfl (λw h Y=>PySem.W.kIn_of Y) ?F
 case F=>
 intro w g j h KX G f;refine' LV.My.qbd0 f ?j0 ?j1 ?j2 ?j3 ?j4 ?j5 ?j6 ?j7 ?j8 ?j9 ?j10 ?j11 ?j12 ?j13 ?j14 ?j15 ?j16 ?j17 ?j18 ?j19 ?j20 ?j21 ?j22 ?j23 ?j24 ?j25 ?j26 ?j27 ?j28 ?j29 ?j30 ?j31 ?j32 ?j33 ?j34 ?j35 ?j36 ?j37 ?j38 ?j39 ?j40 ?j41 ?j42 ?j43 ?j44 ?j45 ?j46 ?j47 ?j48 ?j49 ?j50 ?j51 ?j52 ?j53 ?j54 ?j55 ?j56 ?j57 ?j58 ?j59 ?j60 ?j61 ?j62 ?j63 ?j64 ?j65 ?j66 ?j67 ?j68 ?j69 ?j70 ?j71 ?j72 ?j73 ?j74 ?j75 ?j76 ?j77 ?j78 ?j79 ?j80 ?j81 ?j82 ?hb
 case j51|j52|j53=>walk_at "c"
 case j71|j78=>refine' ⟨⟨?_,?_,?_,?_⟩,mg_of (by assumption) (by assumption) ?a⟩;(case a=>k_is);k_is;k_is;k_is;k_is
 case j0|j1|j2|j3|j4|j5|j6|j12|j13|j14|j15|j16|j17|j18|j19|j20|j21|j22|j23|j34|j35|j36|j37|j38|j39|j40|j41|j42|j43|j44|j45|j46|j47|j48|j49|j50=>walk_at "d"
 case j7|j8|j9|j10|j11|j25|j26|j27|j28|j29|j30|j31|j32|j33=>walk_at "e"
 case j24=>refine' LV.mdmkN ?l ?c ?k ?a ?i ?t ?b ?bn;(case a|i|l|c|k|t=>k_is);(case b=>intro _ _ _ _ _ _;repeat' first|exact LV.ec0 (⟨_,rfl,rfl⟩)|refine LV.ec1 λ_=>?_);(case bn=>intro _ _ _ _ _ _;refine LV.ec2 ?_;repeat' first|exact LV.ec0 (⟨_,rfl,rfl⟩)|refine LV.ec1 λ_=>?_)
 case j54|j55|j56|j57|j58|j59|j60|j61|j62|j63|j64|j65|j66|j67|j68|j69|j70=>walk_at "z"
 case j73|j74|j75|j76|j80|j81|j82=>walk_at "n"
 case j77=>refine⟨?_,?_,?_,?_,kf_of ?_ ?_ ?_ ?_ ?_ ?_ ?_⟩<;>walk_at "q"
 case j72|j79=>refine⟨?_,?_,?_,?_⟩<;>k_is
 case hb=>exact λs v=>.of_eq rfl
#print axioms PySem.Challenge.cw_homeward_k84_whole_deeds_between_holds
