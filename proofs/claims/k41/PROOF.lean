import PyProof.Rows.All
import Wide.All
import OpenK.AllK
import Wide.FinOn
import Lean
import PyProof.EqAt
import PyProof.EqKinds
import PyProof.TupleCall
import PyProof.CompFree
import KE.KIsAll
import PyProof.AttrMiss
import PyProof.IsiH_list
import KE.KDictOf
import PyProof.ConsumeWalk
import PyProof.Rows.SetFrom
import PyProof.NeKinds
import KE.KEqDict
import PyProof.AutoListH
import PyProof.EnumMake
import PyProof.EnumFor
import PyProof.EnumStmt
import PyProof.LayNew
import PyProof.Rows.EnumRows
import KE.KDictList
import KE.KItemsList
import PyProof.ZipIter
import PyProof.Rows.ZipGen
import KE.KRevIter
import PySem.Challenge.RW_homeward_k41_looks
local macro_rules|`(⋯)=>`(by lia)|`(∅)=>`(by decide)
set_option linter.all false
set_option Elab.async false
def zA0:=@List.count_append
def zA1:=@Option.bind_eq_some_iff
def zA2:=@PySem.Heap.get?_push_of_some
def zA3:=@Nat.le_refl
def zA4:=@List.mem_cons_of_mem
def zA5:=@List.size_toArray
def zA6:=@List.getElem?_eq_some_iff
def zA7:=@PySem.Heap.lt_size
def zA8:=@Option.map_eq_some_iff
def zA9:=@List.mem_cons_self
def zAa:=@List.mem_cons
def zAb:=@List.length_map
def zAc:=@Nat.lt_of_lt_of_le
def zAd:=@List.mem_append
def zAe:=@List.append_nil
def zAf:=@List.length_append
def zAg:=@Nat.le_trans
def zAh:=@Nat.zero_add
def zAi:=@Nat.ne_of_lt
def zAj:=@List.length_cons
def zAk:=@List.mem_singleton
def zAl:=@Bool.and_eq_true_iff
def zAm:=@PySem.Heap.get?_push_size
def zAn:=@of_decide_eq_true
def zAo:=@decide_eq_true
def zAp:=@List.lookup_cons
def zAq:=@List.getElem?_append_left
def zAr:=@List.not_mem_nil
def zAs:=@Bool.false_ne_true
def zAt:=@List.getElem?_map
def zAu:=@List.take_of_length_le
def zAv:=@List.count_cons
def zAw:=@List.mem_of_getElem?
def zAx:=@List.append_assoc
def zAy:=@List.map_cons
def zAz:=@List.mem_append_right
def zB0:=@Bool.and_eq_true
def zB1:=@List.forall_mem_cons
def zB2:=@List.getElem?_eq_none
def zB3:=@Array.toList_append
def zB4:=@List.mem_map
def zB5:=@Option.isSome_iff_exists
def zB6:=@List.getElem?_set_ne
def zB7:=@List.mem_range
def zB8:=@Array.length_toList
def zB9:=@List.cons_merge_cons
def zBa:=@List.nil_append
def zBb:=@beq_self_eq_true
def zBc:=@List.map_append
def zBd:=@PySem.Heap.get?_update_other
def zBe:=@List.forall_mem_append
def zBf:=@List.take_append_drop
def zBg:=@decide_eq_false
def zBh:=@Nat.le_of_lt
def zBi:=@Nat.zero_le
def zBj:=@beq_iff_eq
def zBk:=@List.getElem?_set_self
def zBl:=@List.all_eq_true
def zBm:=@beq_eq_false_iff_ne
def zBn:=@PySem.Heap.get?_update_self
def zBo:=@decide_eq_true_eq
def zBp:=@of_decide_eq_false
def zBq:=@Nat.mod_eq_of_lt
def zBr:=@Array.perm_iff_toList_perm
def zBs:=@List.replicate_succ
def zBt:=@List.getElem?_range
def zBu:=@List.take_add_one
def zBv:=@List.length_range
def zBw:=@Int.emod_lt_of_pos
def zBx:=@List.getElem?_eq_getElem
def zBy:=@List.cons_append
def zBz:=@List.length_take
def zC0:=@Nat.le_of_eq
def zC1:=@PySem.Heap.size_push
def zC2:=@Nat.le_of_lt_succ
def zC3:=@List.length_set
def zC4:=@List.find?_cons
def zC5:=@List.filterMap_cons
def zC6:=@List.drop_of_length_le
def zC7:=@List.map_map
def zC8:=@Nat.lt_irrefl
def zC9:=@or_false
def zCa:=@Nat.lt_of_le_of_lt
def zCb:=@List.drop_eq_getElem_cons
def zCc:=@List.mem_append_left
def zCd:=@Int.emod_eq_of_lt
def zCe:=@List.pairwise_map
def zCf:=@List.flatten_cons
def zCg:=@Nat.lt_of_succ_lt
def zCh:=@List.mem_filter
def zCi:=@Int.emod_nonneg
def zCj:=@Nat.sub_le
def zCk:=@Nat.le_add_right
def zCl:=@Nat.succ_le_succ
def zCm:=@List.length_nil
def zCn:=@List.nodup_cons
def zCo:=@Nat.ne_of_gt
set_option genSizeOf false
set_option genInjectivity false
set_option maxRecDepth 100000
noncomputable section
structure PySem.W.Fast:Prop where
 (tw9678837898234912374 tw6298395355595004811 tw12134120967654515889 tw10526778246444594469 tw3066479774141530361 tw12871044102313080497 tw11578279073032138208 tw14069036735992621073 tw6700616904265687833 tw14335282875684846766 tw2829226694673922309 tw8647558149723082999 tw10616270932677168725 tw16882362871365408463 tw7037884331597910913 tw10553237360149774572 tw17164905712343904694 tw12831537745929863285 tw2357925721841339141 tw7239928522044587817 tw10537749511139344484 tw15673057198204355867 tw9212279321221809444 tw7597437924887520068 tw3144830290787343779 tw16944150980267978396 tw7597241212084807164 tw6478458973499518457 tw12605551596376302170 tw3978878075234832994 tw15783201159489711959 tw301104612558714761 tw8275178175544380088 tw15951978939125219869 tw17346847535395510053 tw13428912968129558035 tw2489067702228155647 tw9105684009234738590 tw5507452722099378116 tw3667470553616022414
 tw3924268081392548890 tw483673633482052987 tw16996444424824145646 tw5149667046463156357 tw2450288472660456955 tw18239113120732200392 tw14924203340242526833 tw18335939470184517272 tw6900849067040709673 tw269438126086061968 tw17488790652339993753 tw13601311056856069170 tw13708335236711528054 tw7661932294546756112 tw7980415288945079004 tw3373109198192183205 tw1976884188756548082 tw152466213824182210 tw197023458106445987 tw14813551890420336548 tw10321801262031642558 tw16688059724042041114 tw16631404991005745561 tw11871345384315723447 tw9124326910821489885 tw8139107649203258648 tw11919892674519025219 tw13777425162705425689 tw14927505654435916357 tw12249198476254371530 tw7518947302400535506 tw3238579996915139939 tw1858522869890789368 tw8189324939228531017 tw7521359124038763561 tw5092133066668400401 tw14097006170034152678 tw2973556926028360165 tw8932381872613446853 tw8476819612338900213
 tw14685807458446516583 tw1242356989203694333 tw17940038603816014122 tw18423405883100567034 tw9508210827184106201 tw16351250008791710938 tw3724869349682776452 tw504166663235336870 tw1136376425141362411 tw15296535484219804304 tw8452599242677143600 tw11001501799583644609 tw12148815443609541251 tw1522895660903376831 tw17371380719049825185 tw7332821608484060073 tw1228756498659208755 tw3350552897960470442 tw6455813610348503131 tw4625441603137488912 tw10034078392853936104 tw7043579300380475035 tw16156492059296320640 tw8262425086132625389 tw15529781094426460737 tw6516536225187200036 tw13329311254477267894 tw15293106761891580426 tw2981609779963591669 tw12076567189278815573 tw3174937789457289065 tw14064659338774562028 tw13612834695149173723 tw2670474169159862527 tw8816306158079419401 tw16249094360796640039 tw14918245799221922299 tw16256276308293430150 tw9273598540565048658 tw8982071585049815189
 tw19930747858991524 tw4562078380736605772 tw4297529332329825132 tw4142931404942341447 tw14952458162857639363 tw9426764087458697374 tw3446360314333441776 tw7940022532432492443 tw7912971804131219939 tw16398687546434445980 tw12376870258334081905 tw8656067946266422240 tw2270563548003857489 tw9477398741816963480 tw16942344923305480934 tw7641890010162376382 tw14959903555598370973 tw10267219972114860422 tw7886961034318357606 tw3641664747369561750 tw5766625636270665583 tw4990098306996755698 tw11993395119077154393 tw14763141357043931880 tw10659098804372188792 tw17973971872874685026 tw12405364075651109268 tw7736516416509716951 tw16561424703987555259 tw17416134588808848700 tw10755318290780711154 tw89936713589955020 tw5277474963700646361 tw13593893226549211923 tw1738663202312693233 tw6539272157338858946 tw382887454722246920 tw1679414075820743442 tw14396051409795899156 tw13691325687521845847
 tw9125702665679705805 tw7216475173049434465 tw14585003971157848099 tw18260340069328479352 tw5653335144151713425 tw8501475476090271454 tw5747785555922580295 tw14535705930742446820 tw8604423286819744136 tw4997465443443424696 tw4986561306209944566 tw12159582751103815841 tw18031232117090339583 tw9672269682693187971 tw8745646791507016588 tw149955442951762397 tw4030605573100485432 tw12827198944081670189 tw1823736430032858187 tw1190990801357376547 tw5244288251899157237 tw4597021613141785150 tw14243826312966136384 tw7872993781373176475 tw7705085252387115651 tw18350056508077967442 tw3577249889310099662 tw5204027068976880611 tw17698521553304799712 tw12902936193013821076 tw6858142525183660727 tw16780419170304741529 tw9300772555998664235 tw1940674274013703769 tw13781961474146966462 tw4992540585728393442 tw6860352910157301988 tw11663072042469086530 tw2928609057487717473 tw3157322007372727403
 tw9986266310755808214 tw5517011050448217894 tw5773053264041981319 tw2561632759435944381 tw2050013213544012889 tw1541156113635034265 tw4919337416840210089 tw15515669149561673764 tw18250634842252709139 tw12663153416571009920 tw4480914477023271229 tw9381802144971543839 tw9743430026832689694 tw39937872658944427 tw14200354875635957618 tw12635904574710683158 tw5958656045634563112 tw16716180682932370226 tw10677654265370933913 tw15201550985650002517 tw13071470890859097063 tw5830310104234262954 tw16770855034590651070 tw14783988912503986590 tw4302071722680219325 tw4306819872017747835 tw9852210126869358577 tw8376336862431727314 tw7465110593988790216 tw718787497682074406 tw6909155080221922692 tw4546784836141328020 tw4067152620896114361 tw3939850348159488688 tw3568926795464175472 tw252481016649116464 tw17067177660649915646 tw13769568758726100493 tw13629449724002934035 tw12495392356725180527
 tw14790679708389245173 tw9450714908731612705:True)
abbrev N'(x:PySem.Str):Prop:=(x==("__debug__" : PySem.Str))=false
abbrev γ:=PySem.Addr
abbrev V':=PySem.Value
abbrev Sh:=PySem.Shared
abbrev δ:=PySem.FuncData
open PySem renaming wpAny_bind→J',wpAny_pure→Kv,starEach→Kw,sizeLine→Kx,compareOp→Ky,foldedSetIterable→Kz,wpAny_holding→K4,bootBuiltins→K5,wpAny_truthy_bool→K6,attributeBase→K7,sizeLine_eq→K8,mainGlobals→K9,wpAny_loadPart_at→La,sysModules→Lb,keywordEach→Lc,wpAny_mono→Ld,wpAny_rule→Lf,wpAny_passesOwn→Lg,call_meets→Lh,assignEach→Li,binaryOp→Lj,wpAny→Ll,model→Lm,Program→Ln,Around→Lp,World→Lq,Expr→Lr,Stmt→Ls
open PyProof.Rows renaming wpS_bind→Lu,wpS_pure→Lv,pendingOf→Lw,failedOf→Lx,wpS_modify→Ly,arrOf→Lz,Keyed→L5,SortSt→L6,kindOf→L7,setArr→L8,setPending→L9
open _root_.List renaming replicate→Ma,merge→Mb,range→Mc,lookup→Me,length→Mf,length_drop→Mg,drop_length→Mh,any_cons→Mi,map_nil→Mj,filter_cons_of_neg→Ml,filter_cons_of_pos→Mm,reverse_cons→Mn,all_cons→Mo,take_length→Mp,range_succ→Mq,set_append_left→Mr,map_congr_left→Ms,drop_zero→Mt,filterMap_map→Mu,foldl→Mv,pairwise_iff_getElem→Mw,nodup_range→Mx,zipIdx_cons→Mz,set_set→M0,sublist_append_left→M1,of_mem_zip→M3,forIn_cons→M4,set_append_right→M5,drop_drop→M6,dropLast_concat→M7,length_reverse→M8,mergeSort_perm→M9,flatten_append→M',getD→Na,filterMap_nil→Nb,contains_cons→Nc,filter_append→Nd,nodup_append→Nf,getElem_take→Ng,getElem_drop→Nh,merge_right→Ni,foldl_cons→Nj,zipIdx_nil→Nk,count_nil→Nl,nil_merge→Nm,take_take→Nn,take_zero→No,mapM_cons→Np,forIn_nil→Nq,filterMap→Nr,map_take→Nt,take_add→Nu,all_map→Nv
open PySem.Value renaming ref→Nw,none→Nx,int→Ny,str→Nz,builtin→N0,bool→N1,float→N2,type→N3,isStrOf→N4,isInt→N5,bytes→N6
open And renaming imp_right→N7
open Option.some renaming inj→N8
open PySem.PassesOwn renaming leaving→N9
open PySem.W renaming Frag→Oa,kitOne→Ob
open PySem.F renaming plainAttrs_list→Oc,slot_list_append→Oe,type_list_append→Of,slot_tuple_iterator_next→Og,slot_zip_next→Oh,args_tuple_iterator_next_1→Oi,entry_tuple_iterator_next→Oj,slot_dict_get→Ol,excAttr_ValueError→Om,slot_list_index→On,args_dict_get_3→Oo,args_zip_next_1→Op,entry_dict_get→Oq,entry_zip_next→Os,slot_list_pop→Ot,slot_int_rmul→Ou,entry_bexc_ga→Ov,args_bexc_ga→Ow
open PySem.NameKind renaming free→Ox,cell→Oy
open False renaming elim→Oz
open Or renaming inr→O0,inl→O1,imp→O2
namespace L2
open PySem PySem.Spec PyProof.Rows
variable{M:Model}{N:List Str}{base:Heap}{body:List Ls}{ch fp:List γ}{i n t':Nat}{kw:List (Str×V')}{mg:Str->Option V'}{op:CmpOp}{pl:Sem Bool}{us:List V'}
abbrev Key:=Sum Int Str
noncomputable def Fo:Key->V'->Bool|.inl k,v=>N5 k v|.inr x,v=>N4 x v
noncomputable def keyH(w:Lq):Key->Int|.inl k=>hashInt k|.inr x=>hashStr w x
theorem qd5:∀{k:Key}{v:V'},Fo k v=true->(∃i t,k=Sum.inl i/\v=Ny i t)∨(∃x t,k=Sum.inr x/\v=Nz x t)|.inl i,v,h=>by obtain⟨t,e⟩:=Value.isInt_shape h;exact .inl ⟨i,t,rfl,e⟩|.inr x,v,h=>by obtain⟨t,e⟩:=Value.isStrOf_shape h;exact .inr ⟨x,t,rfl,e⟩
theorem qal5(i:Int)(t:Tok):Fo (.inl i) (.int i t)=true:=by simp[Fo,N5]
theorem qal4(x:Str)(t:Tok):Fo (.inr x) (.str x t)=true:=by simp[Fo,N4]
theorem qaZ5(a b:Int):decide ((Sum.inl a:Key)=Sum.inl b)=(a==b):=by grind
theorem qaZ2(a b:Str):decide ((Sum.inr a:Key)=Sum.inr b)=decide (a=b):=by grind
theorem qaZ4(a:Int)(b:Str):decide ((Sum.inl a:Key)=Sum.inr b)=false:=zBg (λq=>nomatch q)
theorem qaZ3(a:Str)(b:Int):decide ((Sum.inr a:Key)=Sum.inl b)=false:=zBg (λq=>nomatch q)
def qd2(prog:Ln)(w:Lq):PySem.KeyKind prog w Key where
 is:=Fo
 hash:=keyH w
 inj:=λv a b g f=>by
  rcases qd5 g with⟨i,t,rfl,rfl⟩|⟨x,t,rfl,rfl⟩
  .rcases qd5 f with⟨j,u,rfl,e⟩|⟨y,u,rfl,e⟩
   .injection e with c _;rw[c]
   exact nomatch e
  rcases qd5 f with⟨j,u,rfl,e⟩|⟨y,u,rfl,e⟩
  .exact nomatch e
  injection e with c _;rw[c]
 byValue:=λk v h=>by
  rcases qd5 h with⟨i,t,rfl,rfl⟩|⟨x,t,rfl,rfl⟩<;>rfl
 pyHash:=λd h=>by
  rcases qd5 d with⟨i,t,rfl,rfl⟩|⟨x,t,rfl,rfl⟩
  .exact wpAny_pyHash_int h
  exact wpAny_pyHash_str h
 eqBool:=λl d h=>by
  rcases qd5 l with⟨i,t,rfl,rfl⟩|⟨x,t,rfl,rfl⟩
  .rcases qd5 d with⟨j,u,rfl,rfl⟩|⟨y,u,rfl,rfl⟩
   .rw[qaZ5] at h;exact wpAny_eqBool_int h
   rw[qaZ4] at h;exact SeqAt.EqAt.int_str i t y u _ _ _ _ h
  rcases qd5 d with⟨j,u,rfl,rfl⟩|⟨y,u,rfl,rfl⟩
  .rw[qaZ3] at h;exact SeqAt.EqAt.str_int x t j u _ _ _ _ h
  rw[qaZ2] at h;exact wpAny_eqBool_str h
 «strs»:=λk x t v h=>by
  rcases qd5 h with⟨i,u,rfl,e⟩|⟨y,u,rfl,e⟩
  .exact nomatch e
  injection e with c _
  subst c;cases v<;>rfl
theorem qV5(prog:Ln)(w:Lq)(i:Int)(t:Tok):(qd2 prog w).is (.inl i) (.int i t)=true:=qal5 i t
theorem qV4(prog:Ln)(w:Lq)(x:Str)(t:Tok):(qd2 prog w).is (.inr x) (.str x t)=true:=qal4 x t
inductive V where
 |non|bl (b:Bool)|int (i:Int)|str (x:Str)|byt (b:Array UInt8)|flt (b:UInt64)|ref (a:γ)|ty (n:String)
 deriving DecidableEq
def O8:V->V'->Prop|.non,u=>u=Nx|.bl b,u=>u=N1 b|.int i,u=>∃t,u=Ny i t|.str x,u=>∃t,u=Nz x t|.byt b,u=>∃t,u=N6 b t|.flt b,u=>∃t,u=N2 b t|.ref a,u=>u=Nw a|.ty n,u=>u=N3 n
abbrev O9:List V->List V'->Prop:=Paired O8
theorem O9.length(r:O9 xs us):xs.length=us.length:=Paired.length r
theorem O9.get:∀{xs:List V}{us:List V'}{i:Nat}{x:V},O9 xs us->xs[i]?=some x->∃u,us[i]?=some u/\O8 x u|_,_,_,_,.nil,e=>by simp at e|_,_,0,_,.cons r _,e=>by simp at e;subst e;exact⟨_,rfl,r⟩|_,_,i+1,x,.cons _ t,e=>by obtain⟨u,a,b⟩:=O9.get t (by simpa using e);exact⟨u,by simpa using a,b⟩
theorem O9.set{x:V}{u:V'}(r:O8 x u):∀{xs:List V}{us:List V'}(i:Nat),O9 xs us->O9 (xs.set i x) (us.set i u)|_,_,_,.nil=>.nil|_,_,0,.cons _ t=>.cons r t|_,_,i+1,.cons q t=>.cons q (O9.set r i t)
theorem O9.append(h:O9 xs us)(s:O9 ys a):O9 (xs++ys) (us++a):=by induction h with|nil=>exact s|cons r t i=>exact .cons r i
theorem O9.take:∀{xs:List V}{us:List V'}(n:Nat),O9 xs us->O9 (xs.take n) (us.take n)|_,_,0,_=>.nil|_,_,_+1,.nil=>.nil|_,_,n+1,.cons r t=>.cons r (O9.take n t)
theorem O9.drop:∀{xs:List V}{us:List V'}(n:Nat),O9 xs us->O9 (xs.drop n) (us.drop n)|_,_,0,r=>r|_,_,_+1,.nil=>.nil|_,_,n+1,.cons _ t=>O9.drop n t
def RelO:Option V->Option V'->Prop|some v,some u=>O8 v u|none,none=>True|_,_=>False
def KV{a:Type}:List (a×V)->List (a×V')->Prop:=Paired λ(p:a×V)(q:a×V')=>p.1=q.1/\O8 p.2 q.2
noncomputable def kV:Key->V|.inl i=>.int i|.inr x=>.str x
inductive HO where
 |l (xs:List V)
 |q (xs:List V)
 |dK (kvs:List (Key×V))|dT (kvs:List (List Key×V))
 |set (S:Int->Bool) (n:Nat)
 |ins (C dx:γ) (fs:List (Str×V))
 |own (x:γ)
 |xd (fs:List (Str×V))
 |met (f x:γ)
 |rng (lo hi:Int)
 |frz (o:Obj) (u:HO)
 |tbl (ps:Array V')
 |ext (φ:Heap->Prop)
noncomputable abbrev Hp:=γ->Option HO
noncomputable def upd(H:Hp)(a:γ)(o:HO):Hp:=λb=>if b=a then some o else H b
theorem qb3:upd H a o a=some o:=by unfold upd;rw[if_pos rfl]
theorem qb4(h:b≠a):upd H a o b=H b:=by unfold upd;rw[if_neg h]
theorem qaF5:upd (upd H a o) a u=upd H a u:=by funext b;unfold upd;split<;>rfl
theorem ne_of{H:Hp}(h:H a=some o)(h':H b=some u)(d:o≠u):a≠b:=by intro e;subst e;rw[h] at h';exact d (N8 h')
theorem qc2{H:Hp}(h:H a=some o)(h':H b=none):a≠b:=by grind
section
variable(P:Ln)(w:Lq)
def ObjOk(H:Hp)(h:Heap)(a:γ):HO->Prop
 |.l xs=>xs.length<=Kx/\∃(its:List V')(n:Nat),O9 xs its/\h.get? a=some {cls:=.type "list",data:=.seq its.toArray n}|.q xs=>xs.length<=Kx/\∃its:List V',O9 xs its/\IsTup h a its.toArray|.dK kvs=>kvs.length<=Kx/\(a==Lb)=false/\∃vs,KV kvs vs/\h.DictOf (qd2 P w) a vs|.dT kvs=>kvs.length<=Kx/\(a==Lb)=false/\∃xs:List (List Key×γ×V'),
  Paired (λ(p:List Key×V)(q:List Key×γ×V')=>p.1=q.1/\H q.2.1=some (.q (p.1.map kV))/\O8 p.2 q.2.2) kvs xs/\∃o es b,h.get? a=some o/\o.ExactDict/\o.data=.dict es b/\es.toList=xs.map (entryOfKey (tupleKind (qd2 P w)))/\(xs.map (·.1)).Nodup
 |.set S n=>h.SetOf (intKind P w) a S n|.ins C dx fs=>H dx=some (.own a)/\fs.length<=1000/\dx≠a/\h.get? a=some (W.instObj C dx)/\∃mA,h.Ns1 dx mA/\(∀f,RelO (fs.lookup f) (mA f))/\PySem.Within mA (fs.map (·.1))|.own _=>∃o,h.get? a=some o|.xd fs=>∃mA,h.Ns1 a mA/\∀f,RelO (fs.lookup f) (mA f)|.rng lo hi=>∃t u v,h.get? a=some {cls:=.type "range",data:=.fields #[.int lo t,.int hi u,.int 1 v]}|.frz o u=>h.get? a=some o/\ObjOk H h a u|.tbl ps=>h.get? a=some {cls:=.none,data:=.fields ps}|.met f x=>h.get? a=some (W.methodObj (.ref f) (.ref x))|.ext φ=>φ h/\(∃o,h.get? a=some o)/\∀h1 h2:Heap,φ h1->(∀o,h1.get? a=some o->h2.get? a=some o)->φ h2
def HOk(H:Hp)(h:Heap):Prop:=∀a o,H a=some o->ObjOk P w H h a o
end
section
variable{P:Ln}{w:Lq}{H H':Hp}{h h':Heap}{a:γ}{o:HO}
theorem ObjOk.lt(x:ObjOk P w H h a o):a<h.objs.size:=by cases o with|l c=>obtain⟨_,_,_,_,e⟩:=x;exact zA7 e|q c=>obtain⟨_,_,_,p⟩:=x;exact p.lt|dK b=>obtain⟨_,_,_,_,o,_,_,e,_⟩:=x;exact zA7 e|dT b=>obtain⟨_,_,_,_,o,_,_,e,_⟩:=x;exact zA7 e|set S n=>obtain⟨o,_,_,_,e,_⟩:=x;exact zA7 e|ins C g d=>obtain⟨_,_,_,e,_⟩:=x;exact zA7 e|own y=>obtain⟨_,e⟩:=x;exact zA7 e|xd d=>obtain⟨_,⟨_,_,_,e,_⟩,_⟩:=x;exact zA7 e|rng i j=>obtain⟨_,_,_,e⟩:=x;exact zA7 e|frz k u=>obtain⟨e,_⟩:=x;exact zA7 e|tbl l=>exact zA7 (show h.get? a=some _ from x)|met f y=>exact zA7 (show h.get? a=some _ from x)|ext φ=>obtain⟨_,⟨_,e⟩,_⟩:=x;exact zA7 e
theorem Paired.mapP{α β:Type}{F G:α->β->Prop}{l:List α}{m:List β}(h:Paired F l m)(f:∀a b,F a b->G a b):Paired G l m:=by induction h with|nil=>exact .nil|cons r t i=>exact .cons (f _ _ r) i
theorem ObjOk.stay(x:ObjOk P w H h a o)(k:∀b u,(b=a∨H b=some (.own a))->h.get? b=some u->h'.get? b=some u)(D:∀b,H b=some (.own a)->H' b=some (.own a))(E:∀b xs,H b=some (.q xs)->H' b=some (.q xs)):ObjOk P w H' h' a o:=by induction o with|l xs=>obtain⟨z,l,n,r,e⟩:=x;exact⟨z,l,n,r,k _ _ (.inl rfl) e⟩|q xs=>obtain⟨z,l,r,g,e,c⟩:=x;exact⟨z,l,r,g,k _ _ (.inl rfl) e,c⟩|dK m=>obtain⟨z,y,F,r,g,i,j,e,c⟩:=x;exact⟨z,y,F,r,g,i,j,k _ _ (.inl rfl) e,c⟩|dT m=>obtain⟨z,y,xs,r,g,i,j,e,c⟩:=x;exact⟨z,y,xs,Paired.mapP r λp q z=>⟨z.1,E _ _ z.2.1,z.2.2⟩,g,i,j,k _ _ (.inl rfl) e,c⟩|set S n=>obtain⟨g,i,j,t,e,c⟩:=x;exact⟨g,i,j,t,k _ _ (.inl rfl) e,c⟩|ins C K G=>obtain⟨d,z,I,e,s,⟨A,i,j,e2,c⟩,r⟩:=x;exact⟨D _ d,z,I,k _ _ (.inl rfl) e,s,⟨A,i,j,k _ _ (.inr d) e2,c⟩,r⟩|own y=>obtain⟨g,e⟩:=x;exact⟨g,k _ _ (.inl rfl) e⟩|xd G=>obtain⟨s,⟨A,i,j,e,c⟩,r⟩:=x;exact⟨s,⟨A,i,j,k _ _ (.inl rfl) e,c⟩,r⟩|rng L M=>obtain⟨t,u,v,e⟩:=x;exact⟨t,u,v,k _ _ (.inl rfl) e⟩|frz g u J=>obtain⟨e,q⟩:=x;exact⟨k _ _ (.inl rfl) e,J q⟩|tbl N=>have e:=x;exact k a _ (.inl rfl) e|met f y=>have e:=x;exact k a _ (.inl rfl) e|ext φ=>obtain⟨p,⟨o,e⟩,B⟩:=x;exact⟨B _ _ p λo q=>k _ _ (.inl rfl) q,⟨o,k _ _ (.inl rfl) e⟩,B⟩
theorem HOk.lt(x:HOk P w H h)(e:H a=some o):a<h.objs.size:=(x a o e).lt
theorem HOk.fresh(x:HOk P w H h)(e:h.objs.size<=a):H a=none:=by cases q:H a with|none=>rfl|some u=>exact absurd (zAc (x.lt q) e) (zC8 _)
theorem HOk.kept(x:HOk P w H h)(k:∀b u,h.get? b=some u->h'.get? b=some u):HOk P w H h':=λa o e=>
 (x a o e).stay (λb u _ q=>k b u q) (λ_ q=>q) λ_ _ q=>q
theorem HOk.laid(x:HOk P w H h)(k:∀b u,h.get? b=some u->h'.get? b=some u)(i:h.objs.size<=a)(d:ObjOk P w (upd H a o) h' a o):HOk P w (upd H a o) h':=λb u e=>by
 have f:=x.fresh i;by_cases g:b=a
 .subst g;rw[qb3] at e;cases e;exact d
 rw[qb4 g] at e;exact(x b u e).stay (λc v _ q=>k c v q) (λc q=>by rw[qb4 (qc2 q f)];exact q) λc j q=>by rw[qb4 (qc2 q f)];exact q
end
def Rd(H:Hp)(a:γ)(u:HO):Prop:=H a=some u∨∃o,H a=some (.frz o u)
theorem Rd.ok(r:Rd H a u)(x:HOk P w H h):ObjOk P w H h a u:=by rcases r with r|⟨o,r⟩;{exact x a u r};obtain⟨_,q⟩:=x a _ r;exact q
def Mut:Option HO->Prop|some (.l _)=>True|some (.dK _)=>True|some (.dT _)=>True|some (.set _ _)=>True|some (.ins _ _ _)=>True|some (.ext _)=>True|_=>False
section
variable{P:Ln}{w:Lq}{H:Hp}{h h':Heap}{x e:γ}{o':HO}
theorem HOk.write(o:HOk P w H h)(d:Mut (H x))(m:e=x∨H e=some (.own x))(k:∀b u,b≠e->h.get? b=some u->h'.get? b=some u)(j:∃u,h'.get? e=some u)(l:ObjOk P w (upd H x o') h' x o'):HOk P w (upd H x o') h':=λb u q=>by
 have nown:∀c y,H c=some (.own y)->c≠x:=λc y r z=>by subst z;rw[r] at d;exact d
 have ntup:∀c f,H c=some (.q f)->c≠x:=λc f r z=>by subst z;rw[r] at d;exact d
 by_cases g:b=x
 .subst g;rw[qb3] at q;cases q;exact l
 rw[qb4 g] at q;by_cases a:b=e
 .have n:H b=some (.own x):=by
   rcases m with z|z
   .exact absurd (a.trans z) g
   rw[a];exact z
  rw[q] at n;cases n;obtain⟨v,p⟩:=j;exact⟨v,by rw[a];exact p⟩
 refine(o b u q).stay (λc v i r=>k c v ?_ r) (λc r=>by rw[qb4 (nown c b r)];exact r) λc f r=>by rw[qb4 (ntup c f r)];exact r
 rcases i with rfl|i
 .exact a
 rintro rfl;rcases m with z|z
 .exact nown c b i z
 rw[i] at z;cases z;exact g rfl
end
structure Un(fs ex:List γ)(H H':Hp)(h h':Heap):Prop where
 keep:∀b o,h.get? b=some o->H b=none->b∉fs->b∉ex->h'.get? b=some o
 slot:∀b o,h.get? b=some o->H b=none->b∈fs->b∉ex->∃sl,h'.get? b=some {o with slots:=sl}
 free:∀b o,h.get? b=some o->H b=none->b∉ex->H' b=none
 there:∀b o,h.get? b=some o->b∉ex->∃o',h'.get? b=some o'
 tups:∀b xs,H b=some (.q xs)->H' b=some (.q xs)
 frzs:∀b o u,H b=some (.frz o u)->H' b=some (.frz o u)
 tbls:∀b ps,H b=some (.tbl ps)->∃more,H' b=some (.tbl (ps++more))
section
variable{fs s:List γ}{H v y:Hp}{h t w h':Heap}{a x e:γ}{o:HO}
theorem Un.any(u:Un fs s H v h t)(q:h.get? b=some ob)(n:H b=none)(a:b∉s):∃d,t.get? b=some {ob with slots:=d}:=by by_cases c:b∈fs;{exact u.slot b ob q n c a};exact⟨ob.slots,u.keep b ob q n c a⟩
theorem Un.trans(a:Un fs s H v h t)(b:Un fs s v y t w):Un fs s H y h w where
 keep:=λc d q n g e=>b.keep c d (a.keep c d q n g e) (a.free c d q n e) g e
 slot:=λc d q n g e=>by
  obtain⟨p,f⟩:=a.slot c d q n g e;obtain⟨j,e2⟩:=b.slot c _ f (a.free c d q n e) g e;exact⟨j,e2⟩
 free:=λc d q n e=>by
  obtain⟨k,f⟩:=a.there c d q e;exact b.free c k f (a.free c d q n e) e
 there:=λc d q e=>by
  obtain⟨k,f⟩:=a.there c d q e;exact b.there c k f e
 tups:=λc i q=>b.tups c i (a.tups c i q)
 frzs:=λc d i q=>b.frzs c d i (a.frzs c d i q)
 tbls:=λc l q=>by
  obtain⟨m,f⟩:=a.tbls c l q;obtain⟨o,e2⟩:=b.tbls c _ f;exact⟨m++o,by rw[e2,Array.append_assoc]⟩
theorem Un.kept(k:∀b u,h.get? b=some u->h'.get? b=some u):Un fs s H H h h':=⟨λb a q _ _ _=>k b a q,λb a q _ _ _=>⟨a.slots,k b a q⟩,λ_ _ _ n _=>n,λb a q _=>⟨a,k b a q⟩,λ_ _ q=>q,λ_ _ _ q=>q,λ_ c q=>⟨#[],by rw[q];simp⟩⟩
theorem Un.refl:Un fs s H H h h:=Un.kept λ_ _ q=>q
theorem Un.laid(k:∀b u,h.get? b=some u->h'.get? b=some u)(d:h.objs.size<=a)(c:H a=none):Un fs s H (upd H a o) h h' where
 keep:=λb u q _ _ _=>k b u q
 slot:=λb u q _ _ _=>⟨u.slots,k b u q⟩
 free:=λb u q n _=>by rw[qb4 (zAi (zAc (zA7 q) d))];exact n
 there:=λb u q _=>⟨u,k b u q⟩
 tups:=λb e q=>by rw[qb4 (qc2 q c)];exact q
 frzs:=λb u e q=>by rw[qb4 (qc2 q c)];exact q
 tbls:=λb f q=>⟨#[],by rw[qb4 (qc2 q c),q];simp⟩
theorem Un.write(c:Mut (H x))(j:e=x∨H e=some (.own x))(k:∀b u,b≠e->h.get? b=some u->h'.get? b=some u)(d:∃u,h'.get? e=some u):Un fs s H (upd H x o) h h':=by
 have g:∀b,H b=none->b≠x:=λb n z=>by subst z;rw[n] at c;exact c
 have i:∀b,H b=none->b≠e:=λb n z=>by subst z;rcases j with r|r;{exact g b n r};grind
 have f:∀b u,H b=some u->¬Mut (some u)->b≠x:=λb u q l z=>by subst z;rw[q] at c;exact l c
 refine⟨λb u q n _ _=>k b u (i b n) q,λb u q n _ _=>⟨u.slots,k b u (i b n) q⟩,λb u q n _=>by rw[qb4 (g b n)];exact n,λb u q _=>?_,
  λb m q=>by rw[qb4 (f b _ q λz=>z)];exact q,λb u m q=>by rw[qb4 (f b _ q λz=>z)];exact q,λb p q=>⟨#[],by rw[qb4 (f b _ q λz=>z),q];simp⟩⟩
 by_cases a:b=e;{subst a;exact d};exact⟨u,k b u a q⟩
end
noncomputable def trk(h:Heap)(H:Hp):List γ:=(Mc h.objs.size).filter λa=>(H a).isSome
def Gu(h:Heap)(H:Hp):Heap:=W.hideAll h (trk h H)
theorem qal7(h:Heap)(H:Hp):(Gu h H).objs.size=h.objs.size:=W.hideAll_size _ _
theorem qaB1(e:h.get? b=some o)(n:H b=none):(Gu h H).get? b=some o:=W.hideAll_get _ e λa=>by
 have q:=(zCh.mp a).2;rw[n] at q;simp at q
theorem qaM3(e:(Gu h H).get? b=some o):h.get? b=some o/\H b=none:=by have a:=W.of_hideAll (trk h H) e;refine⟨a,?_⟩;cases q:H b with|none=>rfl|some x=>have z:(Gu h H).get? b=none:=W.hideAll_none (trk h H) (zCh.mpr ⟨zB7.mpr (zA7 a),by simp[q]⟩);grind
structure Mod(K:Oa)(mg:Str->Option V')(base:Heap):Prop where
 kin:K.In base
 glob:base.Ns K9 mg
 blt:∃mb,base.Ns builtinsNs mb/\∀x:Str,x ≠ "__name__" -> mb x=K5 x
 nolimit:base.NoLimit
structure Cx where
 prog:Ln
 w:Lq
 K:Oa
 mg:Str->Option V'
 base:Heap
 A:Lp
 N:List Str
 s₀:Sh
 H₀:Hp
 env:Env
 outer:List Env
 stack:List Env
 ex:List γ
 fn:Str->Bool
 calm:Bool
 pn:List (γ×Obj)
 xe:V'->Sh->Prop
noncomputable def frs(l:List Env):List γ:=l.filterMap (·.frame)
abbrev Cx.fs(X:Cx):List γ:=frs X.outer
def Vis(sc:Scope)(x:Str):Prop:=sc.names.lookup x=some .local∨sc.names.lookup x=some .cell∨sc.names.lookup x=some .free
def Loc(sc:Scope)(x:Str):Prop:=sc.names.lookup x=some .local∨sc.names.lookup x=some .cell
def Look(env:Env)(h:Heap)(m:Str->Option V')(x:Str)(u:V'):Prop:=(env.kindOf x=some .local/\m x=some u)∨((env.kindOf x=some .cell∨env.kindOf x=some .free)/\∃c,env.cells.lookup x=some c/\h.IsCell c (some u))
structure Cx.Ok(X:Cx):Prop where
 mod:Mod X.K X.mg X.base
 kind:X.env.scope.kind=.function
 glob:X.env.globals=K9
 blt:X.env.builtins=builtinsNs
 above:X.s₀.heap.objs.size<=X.env.locals
 inj:∀x y c,X.env.cells.lookup x=some c->X.env.cells.lookup y=some c->x=y
 has:∀x,(X.env.kindOf x=some .cell∨X.env.kindOf x=some .free)->∃c,X.env.cells.lookup x=some c
 cab:∀x c,X.fn x=true->X.env.cells.lookup x=some c->X.s₀.heap.objs.size<=c
 hd:X.calm=true->X.A.handled=none
 frames:X.A.frames=some X.stack
 stk:X.stack=X.outer∨(X.stack=X.env::X.outer/\X.env.frame=some X.env.locals)
 exf:∀b∈X.ex,b≠X.env.locals/\∀x c,X.env.cells.lookup x=some c->c≠b
 bs:∀b o,X.base.get? b=some o->X.s₀.heap.get? b=some o/\X.H₀ b=none
 bsz:X.base.objs.size<=X.s₀.heap.objs.size
 noex:∀b o,X.base.get? b=some o->b∉X.ex
 exfs:∀b∈X.ex,b∉X.fs
 funs:X.s₀.heap.FunFrames X.base X.outer
 frf:∀b∈X.fs,X.H₀ b=none
structure Pb(X:Cx)(E6:List (γ×Obj))(a:List (Option V))(H:Hp)(s:Sh):Prop where
 ok:X.Ok
 os:s.os=X.s₀.os
 bare:AllBare s.gens
 base:Un X.fs X.ex X.H₀ H X.s₀.heap s.heap
 loc:∃m,s.heap.Ns X.env.locals m/\∀(i:Nat)(x:Str)(v:V),X.N[i]?=some x->a[i]?=some (some v)->Vis X.env.scope x->∃u,O8 v u/\Look X.env s.heap m x u
 cell:∀x c,X.env.cells.lookup x=some c->∃v,s.heap.IsCell c v
 free:H X.env.locals=none
 freeC:∀x c,X.env.cells.lookup x=some c->H c=none
 pin:∀p∈X.pn++E6,s.heap.get? p.1=some p.2/\H p.1=none/\p.1≠X.env.locals/\p.1∉X.fs/\∀v,p.2.data≠.cell v
 hok:HOk X.prog X.w H s.heap
 len:a.length=X.N.length
section
variable{X:Cx}{E6:List (γ×Obj)}{σ:List (Option V)}{H H':Hp}{s:Sh}{h':Heap}
theorem Cx.Ok.nofr(a:X.Ok)(e:X.base.get? b=some o):b∉X.fs:=λc=>by
 have:=(a.funs.mem c).1
 rw[e] at this;cases this
theorem Pb.bs(I:Pb X E6 σ H s):∀b o,X.base.get? b=some o->s.heap.get? b=some o/\H b=none:=λb o e=>
 ⟨I.base.keep b o (I.ok.bs b o e).1 (I.ok.bs b o e).2 (I.ok.nofr e) (I.ok.noex b o e),I.base.free b o (I.ok.bs b o e).1 (I.ok.bs b o e).2 (I.ok.noex b o e)⟩
theorem Pb.bk(I:Pb X E6 σ H s):∀b o,X.base.get? b=some o->s.heap.get? b=some o:=λb o e=>(I.bs b o e).1
theorem Pb.mod(I:Pb X E6 σ H s):Mod X.K X.mg X.base:=I.ok.mod
theorem Pb.kIn(I:Pb X E6 σ H s):X.K.In s.heap:=I.ok.mod.kin.keeps I.bk
theorem Pb.lt(I:Pb X E6 σ H s):X.env.locals<s.heap.objs.size:=let ⟨_,hn,_⟩:=I.loc;hn.lt
theorem Pb.sz(I:Pb X E6 σ H s):X.s₀.heap.objs.size<=s.heap.objs.size:=zAg I.ok.above (zBh I.lt)
theorem Pb.nofs(I:Pb X E6 σ H s)(h:s.heap.objs.size<=a):a∉X.fs:=λb=>by
 obtain⟨_,o,c,_⟩:=I.ok.funs.mem b;exact absurd (zAc (zA7 c) (zAg I.sz h)) (zC8 _)
theorem Pb.cne(I:Pb X E6 σ H s):∀x c,X.env.cells.lookup x=some c->c≠X.env.locals:=λx c e z=>by
 obtain⟨v,o,d,f⟩:=I.cell x c e;obtain⟨m,⟨g,h,i,a,b,_⟩,_⟩:=I.loc;rw[z,a] at d;cases d;rw[b] at f;cases f
theorem Pb.funs(I:Pb X E6 σ H s):s.heap.FunFrames X.base X.outer:=by
 have all:∀(l:List Env),(∀b∈frs l,b∈X.fs)->X.s₀.heap.FunFrames X.base l->s.heap.FunFrames X.base l:=by intro l;induction l with|nil=>intro _ _;trivial|cons g r h=>intro f i;obtain⟨j,⟨L,o,a,k,m,n⟩,p⟩:=i;have c:=f L (by unfold frs;rw[zC5,a];exact zA9);obtain⟨q,e⟩:=I.base.slot L o m (I.ok.frf L c) c λz=>I.ok.exfs L z c;exact⟨j,⟨L,_,a,k,e,n⟩,h (λb d=>f b (by unfold frs;rw[zC5,a];exact zA4 _ d)) p⟩
 exact all X.outer (λ_ d=>d) I.ok.funs
theorem Pb.stack(I:Pb X E6 σ H s):s.heap.FunFrames X.base X.stack:=by rcases I.ok.stk with e|⟨e,a⟩;{rw[e];exact I.funs};rw[e];obtain⟨m,b,_⟩:=I.loc;refine .cons (by rw[I.ok.kind];decide) a b ?_ I.funs;exact Heap.get?_none_of_le (zAg I.ok.bsz I.ok.above)
theorem Pb.stkSub(I:Pb X E6 σ H s):∀b∈frs X.stack,b∈X.env.locals::X.fs:=λb a=>by
 rcases I.ok.stk with e|⟨e,c⟩
 .rw[e] at a;exact zA4 _ a
 rw[e] at a;unfold frs at a;rw[zC5,c] at a;exact a
theorem Pb.stkFree(I:Pb X E6 σ H s):∀b∈frs X.stack,H b=none:=λb a=>by
 rcases zAa.mp (I.stkSub b a) with e|a
 .rw[e];exact I.free
 obtain⟨_,o,c,_⟩:=I.ok.funs.mem a;exact I.base.free b o c (I.ok.frf b a) λz=>I.ok.exfs b z a
theorem Pb.step(I:Pb X E6 σ H s)(f:∀b∈ch,(b∈X.ex∨X.s₀.heap.objs.size<=b)/\b≠X.env.locals/\(∀x c,X.env.cells.lookup x=some c->c≠b)/\∀p∈X.pn++E6,p.1≠b)(keep:∀b o,b≠X.env.locals->b∉X.fs->b∉ch->s.heap.get? b=some o->H b=none->h'.get? b=some o)(slot:∀b o,b≠X.env.locals->b∈X.fs->b∉ch->s.heap.get? b=some o->H b=none->∃B,h'.get? b=some {o with slots:=B})(free:∀b o,b∉ch->s.heap.get? b=some o->H b=none->H' b=none)(there:∀b o,b∉ch->s.heap.get? b=some o->∃o',h'.get? b=some o')(tups:∀b xs,H b=some (.q xs)->H' b=some (.q xs))(frzs:∀b o u,H b=some (.frz o u)->H' b=some (.frz o u))(tbls:∀b ps,H b=some (.tbl ps)->∃more,H' b=some (.tbl (ps++more)))(ns:∀m,s.heap.Ns X.env.locals m->h'.Ns X.env.locals m)(C:HOk X.prog X.w H' h')(K:AllBare g'):Pb X E6 σ H' {s with heap:=h',gens:=g',drawn:=d',toks:=t'}:=by
 have A:∀b o,X.s₀.heap.get? b=some o->b≠X.env.locals:=λb o e=>zAi (zAc (zA7 e) I.ok.above);have h:∀b o,X.s₀.heap.get? b=some o->b∉X.ex->b∉ch:=λb o e a t=>by rcases (f b t).1 with z|z;{exact a z};exact absurd (zAc (zA7 e) z) (zC8 _)
 have cellK:∀x c,X.env.cells.lookup x=some c->∀v,s.heap.IsCell c v->h'.IsCell c v:=λx c e v ⟨o,y,D⟩=>by have g:=λz=>(f c z).2.2.1 x c e rfl;by_cases F:c∈X.fs;{obtain⟨B,q⟩:=slot c o (I.cne x c e) F g y (I.freeC x c e);exact⟨_,q,D⟩};exact⟨o,keep c o (I.cne x c e) F g y (I.freeC x c e),D⟩
 refine⟨I.ok,I.os,K,⟨λb o e n t a=>?_,λb o e n t a=>?_,λb o e n a=>?_,λb o e a=>?_,λb xs e=>tups b xs (I.base.tups b xs e),λb o xs e=>frzs b o xs (I.base.frzs b o xs e),λb ps e=>?_⟩,?_,λx c e=>?_,?_,λx c e=>?_,λp G=>?_,C,I.len⟩;{exact keep b o (A b o e) t (h b o e a) (I.base.keep b o e n t a) (I.base.free b o e n a)};{obtain⟨B,j⟩:=I.base.slot b o e n t a;obtain⟨E,e2⟩:=slot b _ (A b o e) t (h b o e a) j (I.base.free b o e n a);exact⟨E,e2⟩};{obtain⟨o',j⟩:=I.base.there b o e a;exact free b o' (h b o e a) j (I.base.free b o e n a)};{obtain⟨o',j⟩:=I.base.there b o e a;exact there b o' (h b o e a) j};{obtain⟨L,j⟩:=I.base.tbls b ps e;obtain⟨M,e2⟩:=tbls b _ j;exact⟨L++M,by rw[e2,Array.append_assoc]⟩};{obtain⟨m,N,O⟩:=I.loc;refine⟨m,ns m N,λi x v j e2 P=>?_⟩;obtain⟨u,r,l⟩:=O i x v j e2 P;refine⟨u,r,?_⟩;rcases l with l|⟨k,c,e,z⟩;{exact .inl l};exact .inr ⟨k,c,e,cellK x c e _ z⟩};{obtain⟨v,z⟩:=I.cell x c e;exact⟨v,cellK x c e v z⟩};{obtain⟨m,⟨o,_,_,y,_⟩,_⟩:=I.loc;exact free _ o (λz=>(f _ z).2.1 rfl) y I.free};{obtain⟨v,o,y,D⟩:=I.cell x c e;exact free c o (λz=>(f c z).2.2.1 x c e rfl) y (I.freeC x c e)};obtain⟨e,n,J,nf,d⟩:=I.pin p G;have g:=λz=>(f p.1 z).2.2.2 p G rfl;exact⟨keep p.1 p.2 J nf g e n,free p.1 p.2 g e n,J,nf,d⟩
theorem Pb.un(I:Pb X E6 σ H s)(u:Un X.fs [] H H' s.heap h')(c:HOk X.prog X.w H' h'):Pb X E6 σ H' {s with heap:=h',toks:=t'}:=by obtain⟨m,⟨o,l,p,h,r⟩,_⟩:=id I.loc;obtain⟨q,i⟩:=u.any h I.free (by simp);exact I.step (ch:=[]) (λ_ z=>nomatch z) (λb o _ d _ e n=>u.keep b o e n d (by simp)) (λb o _ d _ e n=>u.slot b o e n d (by simp)) (λb o _ e n=>u.free b o e n (by simp)) (λb o _ e=>u.there b o e (by simp)) u.tups u.frzs u.tbls (λt j=>by obtain⟨v,f,g,a,k⟩:=j;rw[h] at a;cases a;exact⟨_,f,g,i,k⟩) c I.bare
theorem Pb.call(I:Pb X E6 σ H s)(u:Un (frs X.stack) ch H H' s.heap h')(g:HOk X.prog X.w H' h')(l:AllBare g')(d:∀b∈ch,(b∈X.ex∨X.s₀.heap.objs.size<=b)/\b≠X.env.locals/\(∀x c,X.env.cells.lookup x=some c->c≠b)/\∀p∈X.pn++E6,p.1≠b):Pb X E6 σ H' {s with heap:=h',gens:=g',drawn:=d',toks:=t'}:=by obtain⟨m,⟨o,y,A,k,r⟩,_⟩:=id I.loc;obtain⟨B,h⟩:=u.any k I.free λz=>(d _ z).2.1 rfl;exact I.step d (λb o h q a e n=>u.keep b o e n (λz=>(zAa.mp (I.stkSub b z)).elim h q) a) (λb o _ _ a e n=>u.any e n a) (λb o a e n=>u.free b o e n a) (λb o a e=>u.there b o e a) u.tups u.frzs u.tbls (λC t=>by obtain⟨D,i,j,f,v⟩:=t;rw[k] at f;cases f;exact⟨_,i,j,h,v⟩) g l
theorem Pb.turned(I:Pb X E6 σ H s)(k:∀b o,b≠it->s.heap.get? b=some o->h'.get? b=some o)(g:H it=none)(f:it≠X.env.locals)(h1:it∈X.ex∨X.s₀.heap.objs.size<=it)(h2:∀x c,X.env.cells.lookup x=some c->c≠it)(h:∀p∈X.pn++E6,p.1≠it):Pb X E6 σ H {s with heap:=h',toks:=t'}:=by
 have d:∀b u,H b=some u->b≠it:=λb u e z=>by rw[z,g] at e;cases e
 refine I.step (ch:=[it]) (λb i=>?_) (λb o _ _ a e _=>k b o (λz=>a (by simp[z])) e) (λb o _ _ a e _=>⟨o.slots,k b o (λz=>a (by simp[z])) e⟩) (λ_ _ _ _ n=>n)
  (λb o a e=>⟨o,k b o (λz=>a (by simp[z])) e⟩) (λ_ _ e=>e) (λ_ _ _ e=>e) (λb y e=>⟨#[],by rw[e];simp⟩) (λm j=>?_) (λb u e=>?_) I.bare
 .have e:b=it:=by simpa using i
  subst e;exact⟨h1,f,h2,h⟩
 {obtain⟨o,l,t,w,r⟩:=j;exact⟨o,l,t,k _ o (Ne.symm f) w,r⟩};refine(I.hok b u e).stay (λc v a q=>k c v ?_ q) (λ_ q=>q) λ_ _ q=>q;rcases a with z|z;{rw[z];exact d b u e};exact d c _ z
theorem Pb.tok(I:Pb X E6 σ H s)(t:Nat):Pb X E6 σ H {s with toks:=t}:=I.un Un.refl I.hok
theorem Pb.kept(I:Pb X E6 σ H s)(k:∀b u,s.heap.get? b=some u->h'.get? b=some u):Pb X E6 σ H {s with heap:=h',toks:=t'}:=I.un (Un.kept k) (I.hok.kept k)
theorem Pb.laid(I:Pb X E6 σ H s)(k:∀b u,s.heap.get? b=some u->h'.get? b=some u)(c:s.heap.objs.size<=a)(d:ObjOk X.prog X.w (upd H a o) h' a o):Pb X E6 σ (upd H a o) {s with heap:=h',toks:=t'}:=I.un (Un.laid k c (I.hok.fresh c)) (I.hok.laid k c d)
theorem Pb.write(I:Pb X E6 σ H s)(d:Mut (H x))(f:e=x∨H e=some (.own x))(k:∀b u,b≠e->s.heap.get? b=some u->h'.get? b=some u)(a:∃u,h'.get? e=some u)(c:ObjOk X.prog X.w (upd H x o) h' x o):Pb X E6 σ (upd H x o) {s with heap:=h',toks:=t'}:=I.un (Un.write d f k a) (I.hok.write d f k a c)
theorem Pb.weak{σ':List (Option V)}(I:Pb X E6 σ H s)(a:σ'.length=σ.length)(w:∀(i:Nat) v,σ'[i]?=some (some v)->σ[i]?=some (some v)):Pb X E6 σ' H s:=⟨I.ok,I.os,I.bare,I.base,let ⟨m,hn,hl'⟩:=I.loc;⟨m,hn,λi x v b e2 c=>hl' i x v b (w i v e2) c⟩,I.cell,I.free,I.freeC,I.pin,I.hok,a.trans I.len⟩
theorem Pb.pins_of(I:Pb X E6 σ H s)(h:∀p∈pins',s.heap.get? p.1=some p.2/\H p.1=none/\p.1≠X.env.locals/\p.1∉X.fs/\∀v,p.2.data≠.cell v):Pb X pins' σ H s:=⟨I.ok,I.os,I.bare,I.base,I.loc,I.cell,I.free,I.freeC,λp a=>(zAd.mp a).elim (λz=>I.pin p (zCc _ z)) (h p),I.hok,I.len⟩
theorem qL5(c:N.Nodup)(a:N[i]?=some x)(b:N[j]?=some x):i=j:=by obtain⟨e,d⟩:=zA6.mp a;obtain⟨f,e2⟩:=zA6.mp b;exact(List.getElem_inj c).mp (d.trans e2.symm)
theorem qah6(I:Pb X E6 σ H s)(hN:X.N.Nodup)(hi:X.N[i]?=some x)(l:Loc X.env.scope x)(r:O8 v u)(h:∀s',Pb X E6 (σ.set i (some v)) H s'->(∃a,Heap.SameBut a s.heap s'.heap/\(a=X.env.locals∨X.env.cells.lookup x=some a))->Q () s')(hf:X.fn x=true∨X.env.scope.names.lookup x=some .local:=by first|exact .inl rfl|exact .inr rfl|assumption):Ll M A (storeName X.env x u) Q E s:=by
 obtain⟨m,W,hl⟩:=id I.loc;have K:(X.env.scope.kind==.class||(X.env.scope.kind==.module&&X.env.locals != X.env.globals))=false:=by rw[I.ok.kind];rfl
 have hiσ:i<σ.length:=by rw[I.len];exact(zA6.mp hi).1
 have C:=I.cne;have tracked:∀{a:γ}{J:Heap},(∃o,s.heap.get? a=some o/\H a=none)->Heap.SameBut a s.heap J->HOk X.prog X.w H J:=λ{a J} ha f b ob e=>by obtain⟨_,_,hfree⟩:=ha;refine(I.hok b ob e).stay (λc S t q=>(f.2 c ?_).trans q) (λ_ q=>q) λ_ _ q=>q;grind
 rcases l with B|B;{refine wpAny_storeName_local B W (λJ Y f=>?_) K;obtain⟨oL,_,_,Z,_⟩:=id W;refine h _ ⟨I.ok,I.os,I.bare,⟨λb o e n D l=>?_,λb o e n D l=>?_,I.base.free,λb o e l=>?_,I.base.tups,I.base.frzs,I.base.tbls⟩,⟨_,Y,λj y v' g e2 e3=>?_⟩,λy c e=>?_,I.free,I.freeC,λp hp=>?_,tracked ⟨oL,Z,I.free⟩ f,by simpa using I.len⟩ ⟨_,f,.inl rfl⟩;{exact(f.2 b (zAi (zAc (zA7 e) I.ok.above))).trans (I.base.keep b o e n D l)};{obtain⟨sl,g⟩:=I.base.slot b o e n D l;exact⟨sl,(f.2 b (zAi (zAc (zA7 e) I.ok.above))).trans g⟩};{obtain⟨o',g⟩:=I.base.there b o e l;exact⟨o',(f.2 b (zAi (zAc (zA7 e) I.ok.above))).trans g⟩};{by_cases F:j=i;{subst F;rw[hi] at g;cases g;rw[zBk hiσ] at e2;cases e2;exact⟨u,r,.inl ⟨B,by simp⟩⟩};rw[zB6 (Ne.symm F)] at e2;obtain⟨u',r',q⟩:=hl j y v' g e2 e3;refine⟨u',r',?_⟩;rcases q with⟨k,e⟩|⟨k,c,e,z⟩;{refine .inl ⟨k,?_⟩;have:y≠x:=λe=>F (qL5 hN g (e ▸ hi));simp[this,e]};exact .inr ⟨k,c,e,z.sameBut f (C y c e)⟩};{obtain⟨S,z⟩:=I.cell y c e;exact⟨S,z.sameBut f (C y c e)⟩};obtain⟨e,n,T,nf,d⟩:=I.pin p hp;exact⟨(f.2 p.1 T).trans e,n,T,nf,d⟩};have G:X.fn x=true:=by rcases hf with z|z;{exact z};rw[z] at B;cases B
 obtain⟨c,t⟩:=I.ok.has x (.inl B);obtain⟨S,z⟩:=I.cell x c t;refine wpAny_storeName_cell I.ok.kind B t z (λJ L f=>?_);obtain⟨oc,O,P⟩:=id z;refine h {s with heap:=J} ⟨I.ok,I.os,I.bare,⟨λb o e n D l=>?_,λb o e n D l=>?_,I.base.free,λb o e l=>?_,I.base.tups,I.base.frzs,I.base.tbls⟩,⟨m,W.sameBut f (Ne.symm (C x c t)),λj y v' g e2 e3=>?_⟩,λy U e=>?_,I.free,I.freeC,λp hp=>?_,tracked ⟨oc,O,I.freeC x c t⟩ f,by simpa using I.len⟩ ⟨c,f,.inr t⟩;{exact(f.2 b (zAi (zAc (zA7 e) (I.ok.cab x c G t)))).trans (I.base.keep b o e n D l)};{obtain⟨sl,g⟩:=I.base.slot b o e n D l;exact⟨sl,(f.2 b (zAi (zAc (zA7 e) (I.ok.cab x c G t)))).trans g⟩};{obtain⟨o',g⟩:=I.base.there b o e l;exact⟨o',(f.2 b (zAi (zAc (zA7 e) (I.ok.cab x c G t)))).trans g⟩};{by_cases F:j=i;{subst F;rw[hi] at g;cases g;rw[zBk hiσ] at e2;cases e2;exact⟨u,r,.inr ⟨.inl B,c,t,L⟩⟩};rw[zB6 (Ne.symm F)] at e2;obtain⟨u',r',q⟩:=hl j y v' g e2 e3;refine⟨u',r',?_⟩;rcases q with q|⟨k,U,e,z'⟩;{exact .inl q};refine .inr ⟨k,U,e,z'.sameBut f ?_⟩;rintro rfl;exact F (qL5 hN g (I.ok.inj _ _ _ e t ▸ hi))};{by_cases R:U=c;{subst R;exact⟨_,L⟩};obtain⟨w2,z2⟩:=I.cell y U e;exact⟨w2,z2.sameBut f R⟩};obtain⟨e,n,T,nf,d⟩:=I.pin p hp;refine⟨(f.2 p.1 ?_).trans e,n,T,nf,d⟩;intro q;rw[q,O] at e;have q':oc=p.2:=N8 e;exact d S (by rw[<-q'];exact P)
theorem qB3(I:Pb X E6 σ H s)(a:X.N.Nodup)(hi:X.N[i]?=some x)(b:Loc X.env.scope x)(r:O8 v u)(h:∀s',Pb X E6 (σ.set i (some v)) H s'->Q () s')(c:X.fn x=true∨X.env.scope.names.lookup x=some .local:=by first|exact .inl rfl|exact .inr rfl|assumption):Ll M A (storeName X.env x u) Q E s:=qah6 I a hi b r (λs' I' _=>h s' I') c
theorem Pb.call'(I:Pb X E6 σ H s)(e:s'.os=s.os)(u:Un (frs X.stack) ch H H' s.heap s'.heap)(a:HOk X.prog X.w H' s'.heap)(f:AllBare s'.gens)(d:∀b∈ch,(b∈X.ex∨X.s₀.heap.objs.size<=b)/\b≠X.env.locals/\(∀x c,X.env.cells.lookup x=some c->c≠b)/\∀p∈X.pn++E6,p.1≠b):Pb X E6 σ H' s':=by obtain⟨g,h,i,j,k⟩:=s';subst (e);exact I.call u a f d
end
abbrev XK:=V'->Option γ->Hp->Prop
abbrev St:=List (Option V)
abbrev VK:=V->Hp->Prop
abbrev TE:=St->Hp->VK->Prop
abbrev TT:=St->Hp->(Bool->Hp->Prop)->Prop
abbrev TA:=St->Hp->(List V->Hp->Prop)->Prop
structure Bs where
 nx:St->Hp->Prop
 rt:VK
 bk:St->Hp->Prop:=λ_ _=>False
 ct:St->Hp->Prop:=λ_ _=>False
abbrev TS:=Bs->St->Hp->Prop
def EP(X:Cx)(E6:List (γ×Obj))(a:St)(Q:VK)(u:V')(s':Sh):Prop:=∃v H',Pb X E6 a H' s'/\O8 v u/\Q v H'
def TP(X:Cx)(E6:List (γ×Obj))(a:St)(Q:Bool->Hp->Prop)(b:Bool)(s':Sh):Prop:=∃H',Pb X E6 a H' s'/\Q b H'
def AP(X:Cx)(E6:List (γ×Obj))(a:St)(Q:List V->Hp->Prop)(us:List V')(s':Sh):Prop:=∃vs H',Pb X E6 a H' s'/\O9 vs us/\Q vs H'
def SP(X:Cx)(E6:List (γ×Obj))(D:Bs)(f:Flow)(s':Sh):Prop:=match f with|.next=>∃a' H',Pb X E6 a' H' s'/\D.nx a' H'|.brk=>∃a' H',Pb X E6 a' H' s'/\D.bk a' H'|.cont=>∃a' H',Pb X E6 a' H' s'/\D.ct a' H'|.ret u=>∃v a' H',Pb X E6 a' H' s'/\O8 v u/\D.rt v H'
def PE(X:Cx)(e:Lr)(t:TE):Prop:=∀(E6:List (γ×Obj))(s:Sh)(a:St)(H:Hp)(Q:VK),Pb X E6 a H s->t a H Q->Ll (Lm X.prog X.w) X.A (eval e X.env) (EP X E6 a Q) X.xe s
def PT(X:Cx)(e:Lr)(t:TT):Prop:=∀(E6:List (γ×Obj))(s:Sh)(a:St)(H:Hp)(Q:Bool->Hp->Prop),Pb X E6 a H s->t a H Q->Ll (Lm X.prog X.w) X.A (isTrue e X.env (eval e X.env)) (TP X E6 a Q) X.xe s
def PW(X:Cx)(e:Lr)(t:TT):Prop:=∀(whole:Sem V')(E6:List (γ×Obj))(s:Sh)(a:St)(H:Hp)(Q:Bool->Hp->Prop),Pb X E6 a H s->t a H Q->Ll (Lm X.prog X.w) X.A (isTrue e X.env whole) (TP X E6 a Q) X.xe s
theorem PW.pt(h:PW X e t):PT X e t:=h _
def PA(X:Cx)(es:List Lr)(t:TA):Prop:=∀(pos:Pos)(E6:List (γ×Obj))(s:Sh)(a:St)(H:Hp)(Q:List V->Hp->Prop),Pb X E6 a H s->t a H Q->Ll (Lm X.prog X.w) X.A (spliced (backTo pos (Kw es X.env))) (AP X E6 a Q) X.xe s
def PS(X:Cx)(st:Ls)(t:TS):Prop:=∀(E6:List (γ×Obj))(s:Sh)(a:St)(H:Hp)(D:Bs),Pb X E6 a H s->t D a H->Ll (Lm X.prog X.w) X.A (exec st X.env) (SP X E6 D) X.xe s
def PSs(X:Cx)(st:List Ls)(t:TS):Prop:=∀(E6:List (γ×Obj))(s:Sh)(a:St)(H:Hp)(D:Bs),Pb X E6 a H s->t D a H->Ll (Lm X.prog X.w) X.A (execs st X.env) (SP X E6 D) X.xe s
theorem thn{α:Type}{t:Sem α}{Q Q':α->Sh->Prop}{A:Lp}{E:V'->Sh->Prop}{s:Sh}(h:Ll M A t Q E s)(b:∀a s,Q a s->Q' a s):Ll M A t Q' E s:=Ld h b λ_ _ x=>x
section
variable{X:Cx}
def F5(i:Nat):TE:=λn H Q=>∃v,n[i]?=some (some v)/\Q v H
def tC(v:V):TE:=λ_ H Q=>Q v H
theorem ql3(f:X.N[i]?=some x)(g:Vis X.env.scope x)(b:N' x:=by decide)(d:(x==("__classdict__" : Str))=false:=by decide):PE X (.Name x pos) (F5 i):=by intro E6 s n H Q I h;obtain⟨v,e,h⟩:=h;obtain⟨m,j,k⟩:=I.loc;obtain⟨u,r,l⟩:=k i x v f e g;have fin:EP X E6 n Q u s:=⟨v,H,I,r,h⟩;rcases l with⟨a,hm⟩|⟨a,c,hc,hcell⟩;{exact wpAny_Name (wpAny_loadName_local I.ok.kind a j hm fin) b};rcases a with a|a;{exact wpAny_Name (wpAny_loadName_cell I.ok.kind a hc hcell fin) b};exact wpAny_Name (wpAny_loadName_free I.ok.kind a hc hcell fin d) b
theorem qE0{i j pos}:PE X (.Constant (.int i) j pos) (tC (.int i)):=λ_ _ _ H _ I h=>wpAny_Constant_int ⟨.int i,H,I.tok _,⟨_,rfl⟩,h⟩
theorem pe_bl{b j pos}:PE X (.Constant (.bool b) j pos) (tC (.bl b)):=λ_ _ _ H _ I h=>Constant_bool ⟨.bl b,H,I,rfl,h⟩
theorem qaW3{j pos}:PE X (.Constant .none j pos) (tC .non):=λ_ _ _ H _ I h=>Constant_none ⟨.non,H,I,rfl,h⟩
theorem qaW0{x j pos}:PE X (.Constant (.str x) j pos) (tC (.str x)):=λ_ _ _ H _ I h=>Calls.Constant_str ⟨.str x,H,I.tok _,⟨_,rfl⟩,h⟩
def Gl(X:Cx)(x:Str):Prop:=X.env.kindOf x=some .globalImplicit
theorem qF3{n:St}(I:Pb X E6 n H s)(a:Gl X x)(hm:X.mg x=some u)(h:Q u s)(b:N' x:=by decide):Ll (Lm X.prog X.w) X.A (eval (.Name x pos) X.env) Q E s:=Calls.Name_function_global I.ok.kind a (Calls.loadGlobal_global (by rw[I.ok.glob];exact I.mod.glob.keeps I.bk) hm h) b
theorem qM0{n:St}(I:Pb X E6 n H s)(a:Gl X x)(hm:X.mg x=none)(b:K5 x=some u)(h:Q u s)(c:x ≠ "__name__" := by decide)(d:N' x:=by decide):Ll (Lm X.prog X.w) X.A (eval (.Name x pos) X.env) Q E s:=by obtain⟨g,e,f⟩:=I.mod.blt;exact Calls.Name_function_global I.ok.kind a (Calls.loadGlobal_builtin (by rw[I.ok.glob];exact I.mod.glob.keeps I.bk) hm (by rw[I.ok.blt];exact e.keeps I.bk) ((f x c).trans b) h) d
theorem qaa8(a:Gl X x)(hm:X.mg x=some u)(r:O8 v u)(b:N' x:=by decide):PE X (.Name x pos) (tC v):=λ_ _ _ H _ I h=>qF3 I a hm ⟨v,H,I,r,h⟩ b
theorem qaL2(a:Gl X x)(hm:X.mg x=none)(b:K5 x=some u)(r:O8 v u)(c:x ≠ "__name__" := by decide)(d:N' x:=by decide):PE X (.Name x pos) (tC v):=λ_ _ _ H _ I h=>qM0 I a hm b ⟨v,H,I,r,h⟩ c d
variable{a b:Lr}{o p:TE}{pos:Pos}
def tB(t:TE):TT:=λn H Q=>t n H λx H1=>∃c,x=.bl c/\Q c H1
theorem qaI8(h:PE X e t)(b:∀whole,isTrue e X.env whole=(do let v<-whole;standAt e.pos;holding [v] (truthy v)):=by intro _;rfl):PT X e (tB t):=by intro E6 s n H Q I c;refine isTrue_plain (thn (h E6 s n H _ I c) λv i a=>?_) (b _);obtain⟨x,H1,I1,f,g⟩:=a;obtain⟨d,rfl,q⟩:=g;cases f;exact K6 ⟨H1,I1,q⟩
variable{y tB':TT}{rest:List Lr}
def tAnd(t u:TT):TT:=λn H Q=>t n H λc H1=>if c=true then u n H1 Q else Q false H1
def tOr(t u:TT):TT:=λn H Q=>t n H λc H1=>if c=true then Q true H1 else u n H1 Q
def tNot(t:TT):TT:=λn H Q=>t n H λc H1=>Q (!c) H1
theorem qaI7(b:PT X a y):PW X (.BoolOp .And [a] pos) y:=by intro d E6 s n H Q I h;refine isTrue_and (thn (b E6 s n H Q I h) λc f e=>?_);cases c with|true=>exact isTrue_and_nil e|false=>exact e
theorem qaU7(b:PT X a y):PW X (.BoolOp .Or [a] pos) y:=by intro d E6 s n H Q I h;refine isTrue_or (thn (b E6 s n H Q I h) λc f e=>?_);cases c with|false=>exact isTrue_or_nil e|true=>exact e
theorem qaU8(f:PT X a y)(g:PW X (.BoolOp .And (b::rest) pos) tB'):PW X (.BoolOp .And (a::b::rest) pos) (tAnd y tB'):=by intro i E6 s n H Q I h;refine isTrue_and (thn (f E6 s n H _ I h) λc j d=>?_);obtain⟨H1,I1,e⟩:=d;cases c with|true=>exact g i E6 j n H1 Q I1 e|false=>exact⟨H1,I1,e⟩
theorem pw_or(f:PT X a y)(g:PW X (.BoolOp .Or (b::rest) pos) tB'):PW X (.BoolOp .Or (a::b::rest) pos) (tOr y tB'):=by intro i E6 s n H Q I h;refine isTrue_or (thn (f E6 s n H _ I h) λc j d=>?_);obtain⟨H1,I1,e⟩:=d;cases c with|true=>exact⟨H1,I1,e⟩|false=>exact g i E6 j n H1 Q I1 e
theorem qaU9(b:PT X a y):PT X (.UnaryOp .Not a pos) (tNot y):=by intro E6 s n H Q I h;exact isTrue_not (b E6 s n H (λc H1=>Q (!c) H1) I h)
def tAndV(o p:TE):TE:=λn H Q=>o n H λx H1=>∃c,x=.bl c/\if c=true then p n H1 Q else Q (.bl false) H1
def tOrV(o p:TE):TE:=λn H Q=>o n H λx H1=>∃c,x=.bl c/\if c=true then Q (.bl true) H1 else p n H1 Q
def tNotV(o:TE):TE:=λn H Q=>o n H λx H1=>∃c,x=.bl c/\Q (.bl (!c)) H1
theorem qaK3{op}(h:PE X a t):PE X (.BoolOp op [a] pos) t:=λE6 s n H Q I b=>BoolOp_one (h E6 s n H Q I b)
theorem qaL3(f:PE X a o)(g:PE X (.BoolOp .And (b::rest) pos) p):PE X (.BoolOp .And (a::b::rest) pos) (tAndV o p):=by intro E6 s n H Q I h;refine BoolOp_and (thn (f E6 s n H _ I h) λv i e=>?_);obtain⟨x,H1,I1,j,d⟩:=e;obtain⟨c,rfl,d⟩:=d;cases j;refine K6 ?_;cases c with|true=>exact g E6 i n H1 Q I1 d|false=>exact⟨.bl false,H1,I1,rfl,d⟩
theorem pe_or(f:PE X a o)(g:PE X (.BoolOp .Or (b::rest) pos) p):PE X (.BoolOp .Or (a::b::rest) pos) (tOrV o p):=by intro E6 s n H Q I h;refine BoolOp_or (thn (f E6 s n H _ I h) λv i e=>?_);obtain⟨x,H1,I1,j,d⟩:=e;obtain⟨c,rfl,d⟩:=d;cases j;refine K6 ?_;cases c with|false=>exact g E6 i n H1 Q I1 d|true=>exact⟨.bl true,H1,I1,rfl,d⟩
theorem qaK4(e:PE X a o):PE X (.UnaryOp .Not a pos) (tNotV o):=by intro E6 s n H Q I h;refine UnaryOp_ (thn (e E6 s n H _ I h) λv g b=>?_);obtain⟨x,H1,I1,f,d⟩:=b;obtain⟨c,rfl,d⟩:=d;cases f;exact not_of (K6 ⟨.bl (!c),H1,I1,rfl,d⟩)
def tIf(t:TT)(o p:TE):TE:=λn H Q=>t n H λc H1=>if c=true then o n H1 Q else p n H1 Q
theorem qay0(i:PT X c y)(j:PE X a o)(k:PE X b p):PE X (.IfExp c a b pos) (tIf y o p):=by intro E6 s n H Q I h;refine wpAny_IfExp (thn (i E6 s n H _ I h) λd f e=>?_);obtain⟨H1,I1,g⟩:=e;cases d with|true=>exact j E6 f n H1 Q I1 g|false=>exact k E6 f n H1 Q I1 g
end
def SqL(K:Oa)(H:Hp)(a:γ)(xs:List V):Prop:=Rd H a (.l xs)∨∃(o:Obj)(its:Array V')(n:Nat),K.lookup a=some o/\o.cls=.type "list" /\ o.dict=none/\o.data=.seq its n/\its.size<=Kx/\O9 xs its.toList
def SqT(K:Oa)(H:Hp)(a:γ)(xs:List V):Prop:=Rd H a (.q xs)∨∃(o:Obj)(its:Array V')(n:Nat),K.lookup a=some o/\o.cls=.type "tuple" /\ o.data=.seq its n/\its.size<=Kx/\O9 xs its.toList
noncomputable def absV:V'->Option V|.none=>some .non|.bool b=>some (.bl b)|.int i _=>some (.int i)|.str x _=>some (.str x)|.bytes b _=>some (.byt b)|.float b _=>some (.flt b)|.ref a=>some (.ref a)|.type n=>some (.ty n)|_=>none
theorem O8.abs(r:O8 x u):absV u=some x:=by cases x with|non=>cases r;rfl|bl _=>cases r;rfl|int _=>obtain⟨t,rfl⟩:=r;rfl|str _=>obtain⟨t,rfl⟩:=r;rfl|byt _=>obtain⟨t,rfl⟩:=r;rfl|flt _=>obtain⟨t,rfl⟩:=r;rfl|ref _=>cases r;rfl|ty _=>cases r;rfl
theorem O8.inj(r:O8 x u)(q:O8 y u):x=y:=N8 (r.abs.symm.trans q.abs)
theorem O9.inj(h:O9 xs us)(g:O9 ys us):xs=ys:=by induction h generalizing ys with|nil=>cases g;rfl|cons r t i=>cases g with|cons q u=>rw[r.inj q,i u]
section
variable{X:Cx}{q:List (γ×Obj)}{m:St}{H:Hp}{s:Sh}{a:γ}{xs ys:List V}
theorem SqL.of{K:Oa}(h:H a=some (.l xs)):SqL K H a xs:=.inl (.inl h)
theorem Pb.list(I:Pb X q m H s)(h:SqL X.K H a xs):∃its:List V',O9 xs its/\PlainL s.heap a its.toArray/\xs.length<=Kx:=by rcases h with h|⟨o,its,n,b,c,d,f,g,r⟩;{obtain⟨z,its,n,r,e⟩:=h.ok I.hok;exact⟨its,r,⟨_,n,e,rfl,rfl,rfl⟩,z⟩};refine⟨its.toList,r,⟨o,n,I.kIn a o b,c,d,by simpa using f⟩,?_⟩;have e:=r.length;grind
theorem Pb.tuple(I:Pb X q m H s)(h:SqT X.K H a xs):∃its:List V',O9 xs its/\IsTup s.heap a its.toArray/\xs.length<=Kx:=by rcases h with h|⟨o,its,n,b,c,d,f,r⟩;{obtain⟨z,its,r,p⟩:=h.ok I.hok;exact⟨its,r,p,z⟩};refine⟨its.toList,r,⟨o,I.kIn a o b,c,n,by simpa using d⟩,?_⟩;have e:=r.length;simp only[zB8] at e;lia
theorem Pb.list_inj(I:Pb X q m H s)(h:SqL X.K H a xs)(h':SqL X.K H a ys):xs=ys:=by
 obtain⟨b,r,⟨o,n,e,_,_,d⟩,_⟩:=I.list h;obtain⟨its',g,⟨j,k,c,_,_,f⟩,_⟩:=I.list h';rw[e] at c;cases c;rw[d] at f;injection f with i _;have:b=its':=by simpa using congrArg Array.toList i
 subst this;exact r.inj g
theorem Pb.tuple_inj(I:Pb X q m H s)(h:SqT X.K H a xs)(h':SqT X.K H a ys):xs=ys:=by
 obtain⟨b,r,⟨o,e,_,n,d⟩,_⟩:=I.tuple h;obtain⟨its',g,⟨j,c,_,k,f⟩,_⟩:=I.tuple h';rw[e] at c;cases c;rw[d] at f;injection f with i _;have:b=its':=by simpa using congrArg Array.toList i
 subst this;exact r.inj g
end
noncomputable abbrev Cx.wish(X:Cx)(E:V'->Sh->Prop):Cx:={X with xe:=E}
abbrev Cx.nox(X:Cx):Cx:=X.wish λ_ _=>False
theorem Cx.Ok.wish{X:Cx}(a:X.Ok)(E:V'->Sh->Prop):(X.wish E).Ok:=⟨a.mod,a.kind,a.glob,a.blt,a.above,a.inj,a.has,a.cab,a.hd,a.frames,a.stk,a.exf,a.bs,a.bsz,a.noex,a.exfs,a.funs,a.frf⟩
theorem Cx.Ok.unwish{X:Cx}(a:(X.wish E).Ok):X.Ok:=⟨a.mod,a.kind,a.glob,a.blt,a.above,a.inj,a.has,a.cab,a.hd,a.frames,a.stk,a.exf,a.bs,a.bsz,a.noex,a.exfs,a.funs,a.frf⟩
section
variable{X:Cx}{c:List (γ×Obj)}{b:St}{H:Hp}{s:Sh}{E:V'->Sh->Prop}
theorem Pb.wish(I:Pb X c b H s)(E:V'->Sh->Prop):Pb (X.wish E) c b H s:=⟨I.ok.wish E,I.os,I.bare,I.base,I.loc,I.cell,I.free,I.freeC,I.pin,I.hok,I.len⟩
theorem Pb.unwish(I:Pb (X.wish E) c b H s):Pb X c b H s:=⟨I.ok.unwish,I.os,I.bare,I.base,I.loc,I.cell,I.free,I.freeC,I.pin,I.hok,I.len⟩
theorem SP.unwish(h:SP (X.wish E) c D f s'):SP X c D f s':=by cases f with|next=>obtain⟨b',H',I,q⟩:=h;exact⟨b',H',I.unwish,q⟩|brk=>obtain⟨b',H',I,q⟩:=h;exact⟨b',H',I.unwish,q⟩|cont=>obtain⟨b',H',I,q⟩:=h;exact⟨b',H',I.unwish,q⟩|ret u=>obtain⟨v,b',H',I,r,q⟩:=h;exact⟨v,b',H',I.unwish,r,q⟩
theorem PSs.nox{st:List Ls}(h:PSs X.nox st t):PSs X st t:=λc s b H D I a=>
 Ld (h c s b H D (I.wish _) a) (λ_ _ q=>q.unwish) λ_ _ z=>Oz z
end
section
variable{X:Cx}{n:Ls}{rest:List Ls}{t u:TS}{e:Lr}{te:TE}{m:Pos}
def tNext:TS:=λD l H=>D.nx l H
def tSeq(t u:TS):TS:=λD l H=>t {D with nx:=u D} l H
theorem qaJ0:PSs X [] tNext:=λ_ _ l H _ I h=>wpAny_execs_nil ⟨l,H,I,h⟩
theorem qaa2(h1:PS X n t)(h2:PSs X rest u):PSs X (n::rest) (tSeq t u):=by intro E6 s l H D I h;refine wpAny_execs_cons (thn (h1 E6 s l H {D with nx:=u D} I h) λf a q=>?_);cases f with|next=>obtain⟨l',H',I',q⟩:=q;exact h2 E6 a l' H' D I' q|ret v=>exact q|brk=>exact q|cont=>exact q
theorem qaa1(h1:PS X n t):PSs X [n] t:=by intro E6 s l H D I h;refine wpAny_execs_cons (thn (h1 E6 s l H D I h) λf a q=>?_);cases f with|next=>exact wpAny_execs_nil q|ret v=>exact q|brk=>exact q|cont=>exact q
def qaT4:TS:=λD l H=>D.bk l H
theorem qax2:PS X (.Break m) qaT4:=λ_ _ l H _ I h=>wpAny_Break ⟨l,H,I,h⟩
theorem Pb.quiet(I:Pb X E6 l H s):interactive X.env=false:=by simp[interactive,I.ok.kind]
def tDrop(te:TE):TS:=λD l H=>te l H λ_ H1=>D.nx l H1
theorem qaJ3(a:PE X e te)(b:swapsWith e none m.line X.env=pure false:=by rfl):PS X (.Expr e m) (tDrop te):=by intro E6 s l H D I h;exact wpAny_Expr_any (thn (a E6 s l H _ I h) λv d ⟨x,H1,I1,f,c⟩=>⟨l,H1,I1,c⟩) I.quiet b
def tRet(te:TE):TS:=λD l H=>te l H D.rt
theorem qaJ2(a:PE X e te):PS X (.Return (some e) m) (tRet te):=by intro E6 s l H D I h;exact wpAny_Return_some (thn (a E6 s l H _ I h) λv d ⟨x,H1,I1,b,c⟩=>⟨x,l,H1,I1,b,c⟩)
def tIfS(c:TT)(t u:TS):TS:=λD l H=>c l H λb H1=>if b=true then t D l H1 else u D l H1
theorem ps_if(i:PT X c tc)(j:PSs X a t)(k:PSs X b u):PS X (.If c a b m) (tIfS tc t u):=by intro E6 s l H D I h;refine wpAny_If (thn (i E6 s l H _ I h) λd f e=>?_);obtain⟨H1,I1,g⟩:=e;cases d with|true=>exact j E6 f l H1 D I1 g|false=>exact k E6 f l H1 D I1 g
end
abbrev TG:=V->St->Hp->(St->Hp->Prop)->Prop
abbrev TGs:=List V->St->Hp->(St->Hp->Prop)->Prop
def PG(X:Cx)(target:Lr)(t:TG):Prop:=∀(E6:List (γ×Obj))(s:Sh)(a:St)(H:Hp)(v:V)(u:V')(Q:St->Hp->Prop),Pb X E6 a H s->O8 v u->t v a H Q->Ll (Lm X.prog X.w) X.A (assign target X.env u) (λ_ s'=>∃a' H',Pb X E6 a' H' s'/\Q a' H') X.xe s
def PGs(X:Cx)(ts:List Lr)(t:TGs):Prop:=∀(E6:List (γ×Obj))(s:Sh)(a:St)(H:Hp)(vs:List V)(us:List V')(Q:St->Hp->Prop),Pb X E6 a H s->O9 vs us->t vs a H Q->Ll (Lm X.prog X.w) X.A (assignInOrder ((Li ts X.env).map (·.2)) us) (λ_ s'=>∃a' H',Pb X E6 a' H' s'/\Q a' H') X.xe s
abbrev Jh:=V->V->V->Hp->(Hp->Prop)->Prop
def PSet(X:Cx)(t:Jh):Prop:=∀(E6:List (γ×Obj))(s:Sh)(a:St)(H:Hp)(o i v:V)(ov iv u:V')(Q:Hp->Prop),Pb X E6 a H s->O8 o ov->O8 i iv->O8 v u->t o i v H Q->Ll (Lm X.prog X.w) X.A (setItem ov iv u) (λ_ s'=>∃H',Pb X E6 a H' s'/\Q H') X.xe s
abbrev TIp:=V->V->Hp->VK->Prop
def PIp(X:Cx)(op:Operator)(t:TIp):Prop:=∀(E6:List (γ×Obj))(s:Sh)(a:St)(H:Hp)(x y:V)(v u:V')(Q:VK),Pb X E6 a H s->O8 x v->O8 y u->t x y H Q->Ll (Lm X.prog X.w) X.A (inplaceOp op v u) (EP X E6 a Q) X.xe s
section
variable{X:Cx}{pos:Pos}
def Gf(i:Nat):TG:=λv R H Q=>Q (R.set i (some v)) H
theorem qaq9(a:X.N.Nodup)(hi:X.N[i]?=some x)(b:Loc X.env.scope x)(c:X.fn x=true∨X.env.scope.names.lookup x=some .local:=by first|exact .inl rfl|exact .inr rfl|assumption):PG X (.Name x pos) (Gf i):=by intro E6 s R H v u Q I r h;exact wpAny_assign_Name (qB3 I a hi b r (λd I'=>⟨_,H,I',h⟩) c)
def gNil:TGs:=λvs R H Q=>vs=[]/\Q R H
def gCons(t:TG)(u:TGs):TGs:=λvs R H Q=>∃v r,vs=v::r/\t v R H λR' H'=>u r R' H' Q
theorem qaJ9:PGs X [] gNil:=by intro E6 s R H a b Q I r h;obtain⟨e,h⟩:=h;subst e;cases r;exact assignInOrder_nil ⟨R,H,I,h⟩
theorem qax7(h1:PG X e t)(h2:PGs X es u)(a:(Li (e::es) X.env).map (·.2)=assign e X.env::(Li es X.env).map (·.2):=by rfl):PGs X (e::es) (gCons t u):=by intro E6 s R H g i Q I r h;obtain⟨v,j,b,h⟩:=h;subst b;cases r with|cons r c=>rw[a];exact assignInOrder_cons (thn (h1 E6 s R H _ _ _ I r h) λ_ d ⟨σ1,H1,I1,f⟩=>(h2 E6 d σ1 H1 _ _ Q I1 c f))
def gTup(K:Oa)(n:Nat)(t:TGs):TG:=λv R H Q=>∃a xs,v=.ref a/\SqT K H a xs/\xs.length=n/\t xs R H Q
theorem qaV7(g:X.calm=true)(h:PGs X es t)(i:(Li es X.env).length=n:=by rfl)(c:(Li es X.env).findIdx? (·.1)=none:=by rfl):PG X (.Tuple es k pos) (gTup X.K n t):=by intro E6 s R H v u Q I r d;obtain⟨a,j,l,m,p,d⟩:=d;subst l;cases r;obtain⟨q,f,w,y⟩:=I.tuple m;exact assign_Tuple_tuple (I.ok.hd g) w (by simp[i,<-p,f.length]) c λz x=>(h E6 _ R H j _ Q (I.kept λb o e=>x b o (zAi (zA7 e)) e) (by simpa using f) d)
def gSub(to ti:TE)(t:Jh):TG:=λv R H Q=>to R H λo H1=>ti R H1 λi H2=>t o i v H2 λH3=>Q R H3
theorem qaV8{o i:Lr}{to ti:TE}{t:Jh}(a:PE X o to)(hi:PE X i ti)(b:PSet X t)(c:∀v,assign (.Subscript o i pos) X.env v=(do
 let ov<-holding [v] (eval o X.env)
 let iv<-holding [v,ov] (eval i X.env)
 standAt pos
 holding [v,ov,iv] (setItem ov iv v)
 release [v,ov,iv] []):=by intro _;rfl):PG X (.Subscript o i pos) (gSub to ti t):=by intro E6 s R H v u Q I r h;rw[c];exact J' (K4 (thn (a E6 s R H _ I h) λov d ⟨x,H1,I1,e,f⟩=>(J' (K4 (thn (hi E6 d R H1 _ I1 f) λiv g ⟨y,H2,I2,j,q2⟩=>(J' (wpAny_standAt (J' (K4 (thn (b E6 g R H2 x y v ov iv u _ I2 e j r q2) λ_ l ⟨H3,I3,k⟩=>(wpAny_release ⟨R,H3,I3,k⟩)))))))))))
def Iz(te:TE)(g:TG):TS:=λD R H=>te R H λx H1=>g x R H1 D.nx
theorem qaV2(b:PE X e te)(c:PG X tg g)(d:swapsWithSole [tg] e pos.line X.env=pure false:=by rfl)(f:swappedStores [tg] e X.env=pure none:=by rfl)(h1:(Li [tg] X.env).map (·.2)=[assign tg X.env]:=by rfl):PS X (.Assign [tg] e pos) (Iz te g):=by intro E6 s R H D I h;refine wpAny_Assign_stores (thn (b E6 s R H _ I h) λv i a=>?_) d f;obtain⟨x,H1,I1,j,k⟩:=a;rw[h1];exact thn (c E6 i R H1 x v _ I1 j k) λ_ l q=>q
theorem qaJ1(a:X.N.Nodup)(hi:X.N[i]?=some x)(b:Loc X.env.scope x)(c:PE X e te)(d:swapsWith e (some (.Name x pos')) pos.line X.env=pure false:=by rfl)(f:X.fn x=true∨X.env.scope.names.lookup x=some .local:=by first|exact .inl rfl|exact .inr rfl|assumption):PS X (.Assign [.Name x pos'] e pos) (Iz te (Gf i)):=by intro E6 s R H D I h;exact wpAny_Assign_Name (thn (c E6 s R H _ I h) λv k ⟨y,H1,I1,g,j⟩=>(qB3 I1 a hi b g (λl I2=>⟨_,H1,I2,j⟩) f)) d
def tAugS(to ti te:TE)(tget:V->V->Hp->VK->Prop)(a:TIp)(tset:Jh):TS:=λD R H=>to R H λo H1=>ti R H1 λi H2=>tget o i H2 λx H3=>te R H3 λy H4=>a x y H4 λz H5=>tset o i z H5 λH6=>D.nx R H6
def PGet(X:Cx)(t:V->V->Hp->VK->Prop):Prop:=∀(E6:List (γ×Obj))(s:Sh)(R:St)(H:Hp)(o i:V)(ov iv:V')(Q:VK),Pb X E6 R H s->O8 o ov->O8 i iv->t o i H Q->Ll (Lm X.prog X.w) X.A (getItem ov iv) (EP X E6 R Q) X.xe s
theorem qaq4{i:Lr}{op:Operator}(m:PE X o to)(hi:PE X i ti)(n:PGet X tget)(p:PE X e te)(q:PIp X op d)(r:PSet X tset)(t:∀b c a,augStore i b c a=(do holding [a,b,c] (setItem b c a);release [a,b,c] [];pure .next):=by intros;rfl):PS X (.AugAssign (.Subscript o i tpos) op e pos) (tAugS to ti te tget d tset):=by intro E6 s R H D I h;exact wpAny_AugAssign_SubscriptAny (thn (m E6 s R H _ I h) λb u ⟨g,H1,I1,j,w⟩=>(thn (hi E6 u R H1 _ I1 w) λc x ⟨k,H2,I2,l,q2⟩=>(thn (n E6 x R H2 g k b c _ I2 j l q2) λf y ⟨z,H3,I3,A,B⟩=>(thn (p E6 y R H3 _ I3 B) λv C ⟨E,H4,I4,F,G⟩=>(thn (q E6 C R H4 z E f v _ I4 A F G) λa J ⟨K,H5,I5,L,M⟩=>(thn (r E6 J R H5 g k K b c a _ I5 j l L M) λ_ O ⟨H6,I6,N⟩=>⟨R,H6,I6,N⟩)))))) t
def ipI(f:Int->Int->Int):TIp:=λx y H Q=>∃i j,x=.int i/\y=.int j/\Q (.int (f i j)) H
theorem qaO3:PIp X .Add (ipI λi j=>i+j):=by intro E6 s R H x y v u Q I a b h;obtain⟨i,j,c,e2,q⟩:=h;subst c;subst e2;obtain⟨t,rfl⟩:=a;obtain⟨d,rfl⟩:=b;exact iadd_int ⟨.int _,H,I.tok _,⟨_,rfl⟩,q⟩
end
section
variable{X:Cx}{B:Pos}
def qaT1(c:TT)(tb:TS):TS:=λD z H=>∃W:Nat->St->Hp->Prop,(∃m,W m z H)/\∀m z H,W m z H->c z H λb H1=>if b=true then ∃N:St->Hp->Prop,(∀z' H',N z' H'->∃a,a<m/\W a z' H')/\tb {D with nx:=N,ct:=N,bk:=D.nx} z H1 else D.nx z H1
theorem qaw9(k:PassesOwn (Lm X.prog X.w) X.A X.env X.xe)(m:PT X c tc)(o:PSs X body tb):PS X (.While c body [] B) (qaT1 tc tb):=by intro E6 s z H D I h;obtain⟨W,⟨p,q⟩,turn⟩:=h;refine wpAny_While (codeAny_whileLoop (λn r=>∃z' H',Pb X E6 z' H' r/\W n z' H') ?_ p ⟨z,H,I,q⟩);rintro n t ⟨σ1,H1,I1,u⟩;refine Lg k (thn (m E6 t σ1 H1 _ I1 (turn n σ1 H1 u)) λb x d=>?_);obtain⟨H2,I2,q2⟩:=d;cases b with|true=>(obtain⟨N,l,q2⟩:=q2;rw[if_pos rfl];refine Lg k (thn (o E6 x σ1 H2 _ I2 q2) λf y a=>?_);cases f with|next=>obtain⟨σ3,H3,I3,e⟩:=a;obtain⟨g,i,j⟩:=l σ3 H3 e;exact⟨g,i,σ3,H3,I3,j⟩|cont=>obtain⟨σ3,H3,I3,e⟩:=a;obtain⟨g,i,j⟩:=l σ3 H3 e;exact⟨g,i,σ3,H3,I3,j⟩|brk=>exact a|ret v=>exact a)|false=>rw[if_neg zAs];exact wpAny_execs_nil ⟨σ1,H2,I2,q2⟩
end
structure It where
 go:Nat->Hp->Prop
 yld:Nat->Hp->V->Hp->Prop
 stop:Nat->Hp->Prop
def Gv(X:Cx)(E6:List (γ×Obj))(H:Hp)(b:γ):Prop:=H b=none/\b≠X.env.locals/\b∉X.fs/\(b∈X.ex∨X.s₀.heap.objs.size<=b)/\(∀x c,X.env.cells.lookup x=some c->c≠b)/\∀p∈X.pn++E6,p.1≠b
theorem Pb.fpOk(I:Pb X E6 g H s)(a:s.heap.objs.size<=b)(d:H' b=none):Gv X E6 H' b:=by refine⟨d,zCo (zAc I.lt a),I.nofs a,.inr (zAg I.sz a),λx c e z=>?_,λp f z=>?_⟩;{obtain⟨v,q⟩:=I.cell x c e;exact absurd (zAc q.lt (by rw[z];exact a)) (zC8 _)};exact absurd (zAc (zA7 (I.pin p f).1) (by rw[z];exact a)) (zC8 _)
structure I8(P:Ln)(w:Lq)(K:Oa)(tg:Lr)(J:It)(fp:List γ)(it:γ)(tn:Nat->Heap->Prop):Prop where
 mem:it∈fp
 obj:∀i h,tn i h->∀b∈fp,∃o,h.get? b=some o/\∀v,o.data≠.cell v
 keep:∀i h h',tn i h->(∀b∈fp,∀o,h.get? b=some o->h'.get? b=some o)->tn i h'
 item:∀(X:Cx),X.prog=P->X.w=w->X.K=K->X.calm=true->∀(i:Nat)(E6:List (γ×Obj))(s:Sh)(a:St)(H:Hp)(E:V'->Sh->Prop),Pb X E6 a H s->(∀b∈fp,Gv X E6 H b)->tn i s.heap->J.go i H->Ll (Lm P w) X.A (pyNext (.ref it)) (λr s1=>∃u,r=some u/\Ll (Lm P w) X.A (letOwnedTupleGo tg (.ref it) u) (λ_ s2=>∃x H',Pb X E6 a H' s2/\O8 x u/\J.yld i H x H'/\tn (i+1) s2.heap/\∀b∈fp,H' b=none) E s1) E s
 done:∀(X:Cx),X.prog=P->X.w=w->X.K=K->X.calm=true->∀(i:Nat)(E6:List (γ×Obj))(s:Sh)(a:St)(H:Hp)(E:V'->Sh->Prop),Pb X E6 a H s->(∀b∈fp,Gv X E6 H b)->tn i s.heap->J.stop i H->Ll (Lm P w) X.A (pyNext (.ref it)) (λr s1=>r=none/\Pb X E6 a H s1) E s
 self:∀(A:Lp)(i:Nat)(s:Sh)(Q:V'->Sh->Prop)(E:V'->Sh->Prop),tn i s.heap->Q (.ref it) s->Ll (Lm P w) A (pyIter (.ref it)) Q E s
abbrev TI:=St->Hp->(It->Hp->Prop)->Prop
def PIE(X:Cx)(E6:List (γ×Obj))(c:St)(tg:Lr)(R:It->Hp->Prop)(a:V')(s2:Sh):Prop:=∃(it:γ)(fp:List γ)(tn:Nat->Heap->Prop)(J:It)(H':Hp),a=.ref it/\Pb X E6 c H' s2/\I8 X.prog X.w X.K tg J fp it tn/\tn 0 s2.heap/\(∀b∈fp,Gv X E6 H' b)/\R J H'
def PI(X:Cx)(tg iter:Lr)(wi:TI):Prop:=∀(E6:List (γ×Obj))(s:Sh)(b:St)(H:Hp)(R:It->Hp->Prop),Pb X E6 b H s->wi b H R->Ll (Lm X.prog X.w) X.A (eval iter X.env) (λv a=>Ll (Lm X.prog X.w) X.A (pyIter v) (PIE X E6 b tg R) X.xe a) X.xe s
theorem go_of{n:String}(b:s.heap.get? it=some o)(c:o.cls=.type n)(d:o.data=.fields vs)(e:["enumerate", "zip", "dict_itemiterator", "dict_reverseitemiterator", "odict_iterator", "itertools.zip_longest", "itertools.pairwise"].contains n=false)(a:Q () s):Ll M A (letOwnedTupleGo tg (.ref it) u) Q E s:=by
 unfold letOwnedTupleGo;cases tg<;>first
  |exact Kv a
  |(cases u<;>first
   |exact Kv a
   |(refine J' (wpAny_load b ?_);rw[c,d];show Ll M A (if (["enumerate", "zip", "dict_itemiterator", "dict_reverseitemiterator", "odict_iterator", "itertools.zip_longest", "itertools.pairwise"].contains n&&vs[0]?==some (rawInt _))=true then _ else _) Q E s;rw[if_neg (by grind)];exact Kv a))
noncomputable def Itl(K:Oa)(a:γ):It:=⟨λi H=>∃xs x,SqL K H a xs/\xs[i]?=some x,λi H x H'=>H'=H/\∀xs,SqL K H a xs->xs[i]?=some x,λi H=>∃xs,SqL K H a xs/\xs.length<=i⟩
noncomputable def Itr(lo:Int)(n:Nat):It:=⟨λi _=>i<n,λi H x H'=>H'=H/\x=.int (lo+i),λi _=>n<=i⟩
theorem qah0{P:Ln}{w:Lq}{K:Oa}{tg:Lr}(a it:γ):I8 P w K tg (Itl K a) [it] it (λi h=>h.IsListIter it a i) where
 mem:=by simp
 obj:=λi h f b g=>by
  have e:b=it:=by simpa using g
  subst e;obtain⟨o,e,c,d⟩:=f;exact⟨o,e,λv z=>by rw[d] at z;cases z⟩
 keep:=λi h l f k=>f.at λo e=>k it (by simp) o e
 item:=by
  intro X q r t J i E6 s R H E I m f y;subst q r t;obtain⟨L,x,n,A⟩:=y;obtain⟨B,C,p,M⟩:=I.list n;obtain⟨u,N,O⟩:=C.get A;obtain⟨D,f1,f2,f3,F,G⟩:=m it (by simp);refine wpAny_pyNext_list_item f p.isList (x:=u) (by simpa using N) λl j Q=>?_
  have I1:Pb X E6 R H {s with heap:=l}:=I.turned (t':=s.toks) (λb o g e=>(Q.2 b g).trans e) D f1 f3 F G;obtain⟨o,e,c,d⟩:=id j;exact⟨u,rfl,go_of (s:={s with heap:=l}) e c d ∅ ⟨x,H,I1,O,⟨rfl,λU S=>by rw[I.list_inj S n];exact A⟩,j,λb g=>(m b g).1⟩⟩
 done:=by
  intro X q r t J i E6 s R H E I m f y;subst q r t;obtain⟨L,n,A⟩:=y;obtain⟨B,C,p,M⟩:=I.list n;obtain⟨D,f1,f2,f3,F,G⟩:=m it (by simp);have V:=C.length;exact wpAny_pyNext_list_end (I.ok.hd J) f p.isList (by simp;lia) λl T=>⟨rfl,I.turned (t':=s.toks) (λb o g e=>T b o g e) D f1 f3 F G⟩
 self:=λ_ _ _ _ _ f h=>wpAny_pyIter_listiter f h
theorem qW5{P:Ln}{w:Lq}{K:Oa}{tg:Lr}(it:γ)(lo:Int)(n:Nat):I8 P w K tg (Itr lo n) [it] it (λi h=>IsRangeIter h it (lo+(i:Nat)*1) ((n:Int)-(i:Nat)) 1) where
 mem:=by simp
 obj:=λi h a b c=>by
   have e:b=it:=by simpa using c
   subst e;exact⟨_,a,λv z=>by
     cases (z)⟩
 keep:=λi h g a k=>k it (by simp) _ a
 item:=by
   intro X r u x j i E6 s D H E I f a l;subst r u x;obtain⟨m,f1,f2,f3,p,q⟩:=f it (by simp);have W:=Walks.range (prog:=X.prog) (w:=X.w) (I.ok.hd j) it lo 1 n;refine W.item i s _ _ l a λv g y A d B=>?_
   obtain⟨t,rfl⟩:=A;have I1:Pb X E6 D H {s with heap:=g,toks:=y}:=I.turned (λb o c e=>B b o (by simpa using c) e) m f1 f3 p q;refine⟨_,rfl,go_of d rfl rfl ∅ ⟨.int (lo+i),H,I1,⟨t,?_⟩,⟨rfl,rfl⟩,d,λb c=>(f b c).1⟩⟩;rw[Int.mul_one]
 done:=by
   intro X r u x j i E6 s D H E I f a l;obtain⟨m,f1,f2,f3,p,q⟩:=f it (by simp);exact wpAny_pyNext_range_end (I.ok.hd j) a (by have:n<=i:=l;lia) λg C=>⟨rfl,I.turned (λb o c e=>C b o c e) m f1 f3 p q⟩
 self:=λ_ _ _ _ _ a h=>wpAny_pyIter_rangeiter a h
section
variable{X:Cx}{tg:Lr}
def Hw(K:Oa)(tl:TE):TI:=λσ H R=>tl σ H λx H1=>∃a,x=.ref a/\(∃xs,SqL K H1 a xs)/\R (Itl K a) H1
theorem qs7(f:PE X l tl):PI X tg l (Hw X.K tl):=by
 intro E6 s σ H R I h;refine thn (f E6 s σ H _ I h) λv c d=>?_;obtain⟨x,H1,I1,g,i⟩:=d;obtain⟨a,e,⟨n,j⟩,q⟩:=i;subst e;cases g;obtain⟨k,r,p,t⟩:=I1.list j;refine wpAny_pyIter_list p.isList ?_;refine⟨c.heap.objs.size,[c.heap.objs.size],_,_,H1,rfl,I1.kept λb o e=>zA2 _ e,qah0 a _,⟨_,zAm _ rfl,rfl,rfl⟩,λb m=>?_,q⟩;have e:b=c.heap.objs.size:=by simpa using m
 subst e;exact I1.fpOk (zA3 _) (I1.hok.fresh (zA3 _))
theorem qZ8{lo:Int}(I:Pb X E6 σ H s)(h1:-(2 ^ 62)<=lo)(h2:lo<2 ^ 62)(c:-(2 ^ 62)<=hi)(d:hi<2 ^ 62)(q:R (Itr lo (hi-lo).toNat) H):Ll (Lm X.prog X.w) X.A (pyIter (.ref s.heap.objs.size)) (PIE X E6 σ tg R) E {s with heap:=s.heap.push {cls:=.type "range",data:=.fields #[.int lo t,.int hi u,.int 1 v]},toks:=a}:=by
 refine wpAny_pyIter_range (IsRange.new ..) (small_one h1 h2 c d) ?_;have I1:Pb X E6 σ H {s with heap:=s.heap.push {cls:=.type "range",data:=.fields #[.int lo t,.int hi u,.int 1 v]},toks:=a}:=I.kept λb o e=>zA2 _ e;refine⟨(s.heap.push {cls:=.type "range",data:=.fields #[.int lo t,.int hi u,.int 1 v]}).objs.size,[(s.heap.push {cls:=.type "range",data:=.fields #[.int lo t,.int hi u,.int 1 v]}).objs.size],_,_,H,rfl,
  I1.kept λb o e=>zA2 _ e,qW5 _ lo (hi-lo).toNat,?_,λb f=>?_,q⟩
 .have g:lo+((0:Nat):Int)*1=lo:=by simp
  have e2:(((hi-lo).toNat:Nat):Int)-((0:Nat):Int)=Builtin.Range.rangeSize lo hi 1:=by rw[rangeSize_one];split<;>lia
  rw[g,e2];exact zAm _ rfl
 have e:b=(s.heap.push {cls:=.type "range",data:=.fields #[.int lo t,.int hi u,.int 1 v]}).objs.size:=by simpa using f
 subst e;exact I1.fpOk (zA3 _) (I1.hok.fresh (zA3 _))
def iRng1(ta:TA):TI:=λσ H R=>ta σ H λvs H1=>∃j:Int,vs=[.int j]/\-(2 ^ 62)<=j/\j<2 ^ 62/\R (Itr 0 j.toNat) H1
def iRng2(ta:TA):TI:=λσ H R=>ta σ H λvs H1=>∃i j:Int,vs=[.int i,.int j]/\(-(2 ^ 62)<=i/\i<2 ^ 62/\-(2 ^ 62)<=j/\j<2 ^ 62)/\R (Itr i (j-i).toNat) H1
theorem qP3(d:Gl X "range")(hm:X.mg "range"=none)(f:PA X [a] ta)(g:Kw [a] X.env=[(false,eval a X.env)]:=by rfl):PI X tg (.Call (.Name "range" p) [a] [] pos) (iRng1 ta):=by intro E6 s σ H R I h;refine Call_ (qM0 I d hm boot_range (PyProof.Rows.callWith_type1 (thn (f pos E6 s σ H _ I h) λl m b=>?_) g rfl));obtain⟨n,H1,I1,i,c⟩:=b;obtain⟨j,e,c,q2,q⟩:=c;subst e;cases i with|cons r k=>cases k;obtain⟨t,rfl⟩:=r;exact call_range_1 (qZ8 I1 ⋯ ⋯ c q2 (by simpa using q))
theorem qaj5{a b:Lr}{ta:TA}{p pos:Pos}(k:Gl X "range")(hm:X.mg "range"=none)(l:PA X [a,b] ta)(m:Kw [a,b] X.env=[(false,eval a X.env),(false,eval b X.env)]:=by rfl)(c:Kw [b] X.env=[(false,eval b X.env)]:=by rfl):PI X tg (.Call (.Name "range" p) [a,b] [] pos) (iRng2 ta):=by intro E6 s σ H R I h;refine Call_ (qM0 I k hm boot_range (PyProof.Rows.callWith_type1 (thn (l pos E6 s σ H _ I h) λw x d=>?_) (by rw[m,c]) (by rw[c];rfl)));obtain⟨y,H1,I1,n,f⟩:=d;obtain⟨i,j,e,⟨f,q2,o,u⟩,q⟩:=f;subst e;cases n with|cons r g=>cases g with|cons v g=>cases g;obtain⟨t,rfl⟩:=r;obtain⟨z,rfl⟩:=v;exact call_range_2 (qZ8 I1 f q2 o u q)
def tFor(wi:TI)(g:TG)(tb:TS):TS:=λD σ H=>wi σ H λJ H1=>∃W:Nat->Nat->St->Hp->Prop,(∃m,W 0 m σ H1)/\∀i m σ H,W i m σ H->(J.stop i H/\D.nx σ H)∨(J.go i H/\∃N:St->Hp->Prop,(∀σ' H',N σ' H'->∃a,a<m/\W (i+1) a σ' H')/\∀x H',J.yld i H x H'->g x σ H' λσ2 H2=>tb {D with nx:=N,ct:=N,bk:=D.nx} σ2 H2)
noncomputable def Ji(fp:List γ)(h:Heap):List (γ×Obj):=fp.filterMap λb=>(h.get? b).map λo=>(b,o)
theorem qo4(a:b∈fp)(e:h.get? b=some o):(b,o)∈Ji fp h:=List.mem_filterMap.mpr ⟨b,a,by rw[e];rfl⟩
theorem qak8(a:p∈Ji fp h):p.1∈fp/\h.get? p.1=some p.2:=by obtain⟨b,c,e⟩:=List.mem_filterMap.mp a;cases q:h.get? b with|none=>rw[q] at e;cases e|some o=>rw[q] at e;have d:=N8 e;subst d;exact⟨c,q⟩
theorem Pb.pinned(I:Pb X E6 σ H s)(f:∀b∈fp,Gv X E6 H b)(g:∀b∈fp,∃o,s.heap.get? b=some o/\∀v,o.data≠.cell v):Pb X (E6++Ji fp s.heap) σ H s:=I.pins_of λp h=>(zAd.mp h).elim (λz=>I.pin p (zAz _ z)) λz=>by
 obtain⟨a,e⟩:=qak8 z;obtain⟨i,f1,f2,_⟩:=f p.1 a;obtain⟨o,c,d⟩:=g p.1 a;rw[e] at c;cases c;exact⟨e,i,f1,f2,d⟩
theorem Pb.unpinned{pl:List (γ×Obj)}(I:Pb X (E6++pl) σ H s):Pb X E6 σ H s:=I.pins_of λp a=>I.pin p (zAz _ (zCc _ a))
theorem Jj(l:PassesOwn (Lm X.prog X.w) X.A X.env X.xe)(F:X.calm=true)(hi:PI X tg iter wi)(O:PG X tg g)(c:PSs X body tb)(P:∀x,Kz iter X.env x=pure x:=by intro _;rfl):PS X (.For tg iter body [] pos) (tFor wi g tb):=by
 intro E6 s σ H D I h;refine wpAny_For (thn (hi E6 s σ H _ I h) λv s1 Q=>thn Q λR s2 S=>?_) P;obtain⟨it,p,G,J,H2,e,I2,T,z,f2,W,⟨U,V⟩,turn⟩:=S;subst e;have stat:∀{H':Hp},(∀b∈p,H' b=none)->∀b∈p,Gv X E6 H' b:=λY b c=>⟨Y b c,(f2 b c).2⟩;refine codeAny_forLoop_any (λn K=>∃i σ' H',Pb X E6 σ' H' K/\G i K.heap/\(∀b∈p,H' b=none)/\W i n σ' H') ?_ U ⟨0,σ,H2,I2,z,λb c=>(f2 b c).1,V⟩;rintro n L ⟨i,σ3,H3,I3,q,t,Z⟩;rcases turn i n σ3 H3 Z with⟨stop,qn⟩|⟨go,N,hN,step⟩;{refine Lg l (thn (T.done X rfl rfl rfl F i E6 L σ3 H3 X.xe I3 (stat t) q stop) λr s4 a=>?_);obtain⟨B,I4⟩:=a;subst B;exact wpAny_execs_nil ⟨σ3,H3,I4,qn⟩};refine Lg l (thn (T.item X rfl rfl rfl F i E6 L σ3 H3 X.xe I3 (stat t) q go) λr s4 a=>?_);obtain⟨u,B,h4⟩:=a;subst B;refine Lg l (thn h4 λ_ M a=>?_);obtain⟨x,H5,I5,r5,y5,k,C⟩:=a;refine Lg l (thn (O _ M σ3 H5 x u _ (I5.pinned (stat C) (T.obj _ _ k)) r5 (step x H5 y5)) λ_ s6 a=>?_);obtain⟨σ6,H6,I6,q6⟩:=a;refine Lg l (thn (c _ s6 σ6 H6 _ I6 q6) λf E j=>?_);have again:∀{σ7:St}{H7:Hp},Pb X (E6++Ji p M.heap) σ7 H7 E->N σ7 H7->∃m,m<n/\∃i σ' H',Pb X E6 σ' H' E/\G i E.heap/\(∀b∈p,H' b=none)/\W i m σ' H':=λ{σ7 H7} I7 y=>by obtain⟨m',hm,w7⟩:=hN σ7 H7 y;refine⟨m',hm,i+1,σ7,H7,I7.unpinned,T.keep _ _ _ k λb c o e=>(I7.pin (b,o) (zAz _ (zAz _ (qo4 c e)))).1,λb c=>?_,w7⟩;obtain⟨o,e,d⟩:=T.obj _ _ k b c;exact(I7.pin (b,o) (zAz _ (zAz _ (qo4 c e)))).2.1
 cases f with|next=>obtain⟨σ7,H7,I7,y⟩:=j;exact again I7 y|cont=>obtain⟨σ7,H7,I7,y⟩:=j;exact again I7 y|brk=>obtain⟨σ7,H7,I7,j⟩:=j;exact⟨σ7,H7,I7.unpinned,j⟩|ret v=>obtain⟨x7,σ7,H7,I7,r7,j⟩:=j;exact⟨x7,σ7,H7,I7.unpinned,r7,j⟩
end
theorem qae8{K:Oa}{g:TG}{tb:TS}{D:Bs}{n:St}(Pv:Nat->St->Hp->Prop)(d:Pv 0 n H)(f:∀i n H,i<=xs.length->Pv i n H->SqL K H a xs)(h:∀i x n H,xs[i]?=some x->Pv i n H->g x n H λσ2 H2=>tb {D with nx:=Pv (i+1),ct:=Pv (i+1),bk:=D.nx} σ2 H2)(j:∀n H,Pv xs.length n H->D.nx n H):∃W:Nat->Nat->St->Hp->Prop,(∃m,W 0 m n H)/\∀i m n H,W i m n H->((Itl K a).stop i H/\D.nx n H)∨((Itl K a).go i H/\∃N:St->Hp->Prop,(∀n' H',N n' H'->∃c,c<m/\W (i+1) c n' H')/\∀x H',(Itl K a).yld i H x H'->g x n H' λσ2 H2=>tb {D with nx:=N,ct:=N,bk:=D.nx} σ2 H2):=by refine⟨λi m n H=>m=xs.length-i/\i<=xs.length/\Pv i n H,⟨xs.length,by simp,zBi _,d⟩,?_⟩;rintro i m n H ⟨rfl,k,p⟩;have q:=f i n H k p;by_cases b:i<xs.length;{refine .inr ⟨⟨xs,xs[i],q,by simp[b]⟩,Pv (i+1),λn' H' l=>⟨xs.length-(i+1),⋯,rfl,b,l⟩,λx H' y=>?_⟩;obtain⟨e,y⟩:=y;subst e;exact h i x n _ (y xs q) p};have e:i=xs.length:=⋯;subst e;exact .inl ⟨⟨xs,q,zA3 _⟩,j n H p⟩
theorem qam0{lo:Int}{g:TG}{tb:TS}{D:Bs}(Pv:Nat->St->Hp->Prop)(c:Pv 0 k H)(d:∀i k H,i<n->Pv i k H->g (.int (lo+i)) k H λσ2 H2=>tb {D with nx:=Pv (i+1),ct:=Pv (i+1),bk:=D.nx} σ2 H2)(f:∀k H,Pv n k H->D.nx k H):∃W:Nat->Nat->St->Hp->Prop,(∃m,W 0 m k H)/\∀i m k H,W i m k H->((Itr lo n).stop i H/\D.nx k H)∨((Itr lo n).go i H/\∃N:St->Hp->Prop,(∀k' H',N k' H'->∃b,b<m/\W (i+1) b k' H')/\∀x H',(Itr lo n).yld i H x H'->g x k H' λσ2 H2=>tb {D with nx:=N,ct:=N,bk:=D.nx} σ2 H2):=by refine⟨λi m k H=>m=n-i/\i<=n/\Pv i k H,⟨n,by simp,zBi _,c⟩,?_⟩;rintro i m k H ⟨rfl,j,p⟩;by_cases a:i<n;{refine .inr ⟨a,Pv (i+1),λk' H' h=>⟨n-(i+1),⋯,rfl,a,h⟩,λx H' y=>?_⟩;obtain⟨e,y⟩:=y;subst e y;exact d i k _ a p};have e:i=n:=⋯;subst e;exact .inl ⟨zA3 _,f k H p⟩
abbrev R2:=V->V->Hp->VK->Prop
def OpR(X:Cx)(f:V'->V'->Sem V')(r:R2):Prop:=∀(E6:List (γ×Obj))(s:Sh)(a:St)(H:Hp)(x y:V)(v u:V')(Q:VK),Pb X E6 a H s->O8 x v->O8 y u->r x y H Q->Ll (Lm X.prog X.w) X.A (f v u) (EP X E6 a Q) X.xe s
def UnR(X:Cx)(f:V'->Sem V')(r:V->Hp->VK->Prop):Prop:=∀(E6:List (γ×Obj))(s:Sh)(a:St)(H:Hp)(x:V)(v:V')(Q:VK),Pb X E6 a H s->O8 x v->r x H Q->Ll (Lm X.prog X.w) X.A (f v) (EP X E6 a Q) X.xe s
def CallR(X:Cx)(f:V')(r:List V->Hp->VK->Prop):Prop:=∀(E6:List (γ×Obj))(s:Sh)(a:St)(H:Hp)(xs:List V)(us:List V')(Q:VK),Pb X E6 a H s->O9 xs us->r xs H Q->Ll (Lm X.prog X.w) X.A (call f us) (EP X E6 a Q) X.xe s
def tOp(r:R2)(ta tb:TE):TE:=λa H Q=>ta a H λx H1=>tb a H1 λy H2=>r x y H2 Q
def tUn(r:V->Hp->VK->Prop)(ta:TE):TE:=λa H Q=>ta a H λx H1=>r x H1 Q
def rI(C:Int->Int->Prop)(g:Int->Int->V):R2:=λx y H Q=>∃i j,x=.int i/\y=.int j/\C i j/\Q (g i j) H
def rI0(g:Int->Int->V):R2:=λx y H Q=>∃i j,x=.int i/\y=.int j/\Q (g i j) H
def rU(g:Int->V):V->Hp->VK->Prop:=λx H Q=>∃i,x=.int i/\Q (g i) H
section
variable{X:Cx}{a b:Lr}{m o:TE}{n:Pos}
theorem binT(c:PE X a m)(d:PE X b o){R:V->V->Hp->Prop}(I:Pb X E6 l H s)(h:m l H λx H1=>o l H1 λy H2=>R x y H2){f:V'->V'->Sem V'}(e:∀v u s2 x y H2,Pb X E6 l H2 s2->O8 x v->O8 y u->R x y H2->Ll (Lm X.prog X.w) X.A (f v u) Q X.xe s2):Ll (Lm X.prog X.w) X.A (eval a X.env) (λv s₁=>Ll (Lm X.prog X.w) X.A (eval b X.env) (λu s₂=>Ll (Lm X.prog X.w) X.A (f v u) Q X.xe s₂) X.xe s₁) X.xe s:=by exact thn (c E6 s l H _ I h) λv g ⟨x,H1,I1,i,j⟩=>(thn (d E6 g l H1 _ I1 j) λu s2 ⟨y,H2,I2,k,q2⟩=>(e v u s2 x y H2 I2 i k q2))
theorem pe_op{op:Operator}(c:OpR X (Lj op) r)(d:PE X a m)(e:PE X b o):PE X (.BinOp a op b n) (tOp r m o):=by intro E6 s l H Q I h;exact wpAny_BinOp (binT d e I h λv u f x y H2 I2 g i q=>c E6 f l H2 x y v u Q I2 g i q)
theorem pe_un{op:UnaryOp}(b:UnR X (unaryOp op) r)(c:PE X a m):PE X (.UnaryOp op a n) (tUn r m):=by intro E6 s l H Q I h;exact UnaryOp_ (thn (c E6 s l H _ I h) λv d ⟨x,H1,I1,e,f⟩=>b E6 d l H1 x v Q I1 e f)
theorem opI{g:Int->Int->Int}(rule:∀(i j:Int)(t u:Tok)(s:Sh)(Q:V'->Sh->Prop)(E:V'->Sh->Prop),C i j->Q (.int (g i j) s.toks) {s with toks:=s.toks+1}->Ll (Lm X.prog X.w) X.A (f (.int i t) (.int j u)) Q E s):OpR X f (rI C λi j=>.int (g i j)):=by intro E6 s l H x y v u Q I a b h;obtain⟨i,j,rfl,rfl,c,q⟩:=h;obtain⟨t,rfl⟩:=a;obtain⟨d,rfl⟩:=b;exact rule i j t d s _ _ c ⟨.int (g i j),H,I.tok _,⟨_,rfl⟩,q⟩
theorem opI0{g:Int->Int->Int}(rule:∀(i j:Int)(t u:Tok)(s:Sh)(Q:V'->Sh->Prop)(E:V'->Sh->Prop),Q (.int (g i j) s.toks) {s with toks:=s.toks+1}->Ll (Lm X.prog X.w) X.A (f (.int i t) (.int j u)) Q E s):OpR X f (rI0 λi j=>.int (g i j)):=by intro E6 s l H x y v u Q I a b h;obtain⟨i,j,rfl,rfl,q⟩:=h;obtain⟨t,rfl⟩:=a;obtain⟨c,rfl⟩:=b;exact rule i j t c s _ _ ⟨.int (g i j),H,I.tok _,⟨_,rfl⟩,q⟩
theorem opB0{g:Int->Int->Bool}(rule:∀(i j:Int)(t u:Tok)(s:Sh)(Q:V'->Sh->Prop)(E:V'->Sh->Prop),Q (.bool (g i j)) s->Ll (Lm X.prog X.w) X.A (f (.int i t) (.int j u)) Q E s):OpR X f (rI0 λi j=>.bl (g i j)):=by intro E6 s l H x y v u Q I a b h;obtain⟨i,j,rfl,rfl,q⟩:=h;obtain⟨t,rfl⟩:=a;obtain⟨c,rfl⟩:=b;exact rule i j t c s _ _ ⟨.bl (g i j),H,I,rfl,q⟩
def CPow(i j:Int):Prop:=0<=j/\j<=1000000/\i.natAbs<2 ^ 64
def CMul(i j:Int):Prop:=(-(2 ^ 64)<i/\i<2 ^ 64)∨(-(2 ^ 64)<j/\j<2 ^ 64)
theorem CMul.ok{i j:Int}(h:CMul i j):IntMulOk i j:=by rcases h with⟨h1,h2⟩|⟨h1,h2⟩;{exact .of_left (intBits_le_64 h1 h2)};exact .of_right (intBits_le_64 h1 h2)
theorem qaX8:OpR X (Lj .Add) (rI0 λi j=>.int (i+j)):=opI0 λ_ _ _ _ _ _ _ q=>add_int q
theorem qz2:OpR X (Lj .Sub) (rI0 λi j=>.int (i-j)):=opI0 λ_ _ _ _ _ _ _ q=>sub_int q
theorem qaX2:OpR X (Lj .Mult) (rI CMul λi j=>.int (i*j)):=opI λ_ _ _ _ _ _ _ a q=>mul_int q a.ok
theorem qg9:OpR X (Lj .Mod) (rI (λ_ j=>0<j) λi j=>.int (i%j)):=opI λi j _ _ _ _ _ a q=>by
 have b:=a;exact mod_int' ⋯ (by rw[Int.fmod_eq_emod_of_nonneg i ⋯];exact q)
theorem qaX0:OpR X (Lj .Pow) (rI CPow λi j=>.int (i ^ j.toNat)):=opI λ_ _ _ _ _ _ _ a q=>pow_int_small a.1 a.2.1 a.2.2 q
theorem unI{g:Int->Int}(rule:∀(i:Int)(t:Tok)(s:Sh)(Q:V'->Sh->Prop)(E:V'->Sh->Prop),Q (.int (g i) s.toks) {s with toks:=s.toks+1}->Ll (Lm X.prog X.w) X.A (f (.int i t)) Q E s):UnR X f (rU λi=>.int (g i)):=by intro E6 s l H x v Q I a h;obtain⟨i,rfl,q⟩:=h;obtain⟨t,rfl⟩:=a;exact rule i t s _ _ ⟨.int (g i),H,I.tok _,⟨_,rfl⟩,q⟩
theorem qaF6:UnR X (unaryOp .USub) (rU λi=>.int (-i)):=unI λ_ _ _ _ _ q=>neg_int q
end
section
variable{X:Cx}{a b c:Lr}{L M O:TE}{N:Pos}
theorem qaQ1{K:St}{a:Bool}(I:Pb X E6 K H s)(q:Q (.bl k) H)(e:k=a):EP X E6 K Q (.bool a) s:=by subst e;exact⟨.bl k,H,I,rfl,q⟩
theorem G4:OpR X (Ky .Lt) (rI0 λi j=>.bl (decide (i<j))):=opB0 λ_ _ _ _ _ _ _ q=>lt_int q
theorem Jk:OpR X (Ky .LtE) (rI0 λi j=>.bl (decide (i<=j))):=opB0 λ_ _ _ _ _ _ _ q=>le_int q
theorem Fc:OpR X (Ky .Gt) (rI0 λi j=>.bl (decide (j<i))):=opB0 λ_ _ _ _ _ _ _ q=>gt_int q
theorem Jl:OpR X (Ky .GtE) (rI0 λi j=>.bl (decide (j<=i))):=opB0 λ_ _ _ _ _ _ _ q=>ge_int q
theorem qaX3:OpR X (Ky .Is) (λx y H Q=>y=.non/\Q (.bl (decide (x=.non))) H):=by
 intro E6 s K H x y v u Q I a b h;obtain⟨rfl,q⟩:=h;cases b;refine is_none_gen (qaQ1 I q ?_);cases x<;>first
  |(cases a;rfl)
  |(obtain⟨t,rfl⟩:=a;rfl)
theorem qaL9:OpR X (Ky .IsNot) (λx y H Q=>y=.non/\Q (.bl (!decide (x=.non))) H):=by
 intro E6 s K H x y v u Q I a b h;obtain⟨rfl,q⟩:=h;cases b;refine isnot_none_gen (qaQ1 I q ?_);cases x<;>first
  |(cases a;rfl)
  |(obtain⟨t,rfl⟩:=a;rfl)
theorem OpR.or{a:R2}(h:OpR X f r)(h':OpR X f a):OpR X f (λx y H Q=>r x y H Q∨a x y H Q):=by intro E6 s K H x y v u Q I b c q;rcases q with q|q;{exact h E6 s K H x y v u Q I b c q};exact h' E6 s K H x y v u Q I b c q
theorem qa9(b:Lr)(h:op≠.In:=by decide)(h2:op≠.NotIn:=by decide):behindInMarks op b=false:=by
 have a:(op==CmpOp.In)=false:=by grind
 have e2:(op==CmpOp.NotIn)=false:=by grind
 cases b<;>simp[behindInMarks,a,e2]
theorem qaL0(c:OpR X (Ky op) r)(d:PE X a L)(e:PE X b M)(hm:behindInMarks op b=false):PE X (.Compare a [op] [b] N) (tOp r L M):=by intro E6 s K H Q I h;exact wpAny_Compare1 (binT d e I h λv u f x y H2 I2 g i q=>c E6 f K H2 x y v u Q I2 g i q) hm
def tTest(t:TE):TT:=λK H Q=>t K H λx H'=>∃k,x=.bl k/\Q k H'
theorem qaI9(d:OpR X (Ky op) r)(f:PE X a L)(g:PE X b M)(hm:behindInMarks op b=false):PT X (.Compare a [op] [b] N) (tTest (tOp r L M)):=by
 intro E6 s K H Q I h;refine wpAny_isTrue_Compare1 (thn (f E6 s K H _ I h) λv i ⟨x,H1,I1,j,l⟩=>thn (g E6 i K H1 _ I1 l) λu m ⟨y,H2,I2,n,q2⟩=>
  thn (d E6 m K H2 x y v u _ I2 j n q2) λc q ⟨z,H3,I3,o,k,e,p⟩=>?_) hm
 subst e;cases o;exact K6 ⟨H3,I3,p⟩
def qaG9(r a:R2)(L M O:TE):TE:=λK H Q=>L K H λx H1=>M K H1 λy H2=>r x y H2 λz H3=>∃k,z=.bl k/\(if k=true then O K H3 λb H4=>a y b H4 Q else Q (.bl false) H3)
theorem qay3{i:R2}(m:OpR X (Ky op) r)(g:OpR X (Ky f) i)(n:PE X a L)(o:PE X b M)(p:PE X c O)(hm:lastMarks [op,f] [b,c]=false:=by with_unfolding_all rfl):PE X (.Compare a [op,f] [b,c] N) (qaG9 r i L M O):=by
 intro E6 s K H Q I h;refine Compare_chain (thn (n E6 s K H _ I h) λv q ⟨x,H1,I1,t,w⟩=>chain_link (thn (o E6 q K H1 _ I1 w) λu A ⟨y,H2,I2,j,q2⟩=>
  thn (m E6 A K H2 x y v u _ I2 t j q2) λd B ⟨z,H3,I3,C,k,e,l⟩=>?_)) hm
 subst e;cases C;refine K6 ?_;cases k with|false=>exact ite_ff ⟨.bl false,H3,I3,rfl,l⟩|true=>exact ite_tt (chain_last (thn (p E6 B K H3 _ I3 l) λD E ⟨F,H4,I4,G,J⟩=>g E6 E K H4 y F u D Q I4 j G J))
theorem qL8:(Kx:Nat)<2 ^ 63:=by rw[K8];decide
theorem qab4:OpR X (Lj .Add) (λx y H Q=>∃i j,x=.str i/\y=.str j/\i.length+j.length<=Kx/\Q (.str (i++j)) H):=by intro E6 s K H x y v u Q I a b h;obtain⟨i,j,rfl,rfl,c,q⟩:=h;obtain⟨t,rfl⟩:=a;obtain⟨d,rfl⟩:=b;exact add_str (λd e=>⟨.str (i++j),H,I.tok _,⟨_,rfl⟩,q⟩) c
theorem Ea(r:O9 [x] us):∃u,us=[u]/\O8 x u:=by cases r with|cons a b=>cases b;exact⟨_,rfl,a⟩
theorem Fp(r:O9 [x,y] us):∃u a,us=[u,a]/\O8 x u/\O8 y a:=by cases r with|cons b c=>cases c with|cons d e=>cases e;exact⟨_,_,rfl,b,d⟩
theorem qaE1:CallR X (.builtin "abs") (λxs H Q=>∃i,xs=[.int i]/\Q (.int (if i<0 then -i else i)) H):=by intro E6 s K H xs a Q I r h;obtain⟨i,rfl,q⟩:=h;obtain⟨u,rfl,t,rfl⟩:=Ea r;exact call_abs_int λu b=>⟨.int (if i<0 then -i else i),H,I.tok _,⟨_,rfl⟩,q⟩
theorem qS2(b:X.calm=true):CallR X (.builtin "max") (λxs H Q=>∃i j,xs=[.int i,.int j]/\Q (.int (if j>i then j else i)) H):=by intro E6 s K H xs c Q I r h;obtain⟨i,j,rfl,q⟩:=h;obtain⟨u,d,rfl,⟨t,rfl⟩,⟨e,rfl⟩⟩:=Fp r;refine max_two_ints (I.ok.hd b) λf g k=>⟨_,H,I.kept k,?_,q⟩;by_cases a:j>i;{rw[if_pos a,if_pos a];exact⟨_,rfl⟩};rw[if_neg a,if_neg a];exact⟨_,rfl⟩
theorem qu8:CallR X (.type "int") (λxs H Q=>(∃i,xs=[.int i]/\Q (.int i) H)∨∃k,xs=[.bl k]/\Q (.int (if k then 1 else 0)) H):=by intro E6 s K H xs b Q I r h;rcases h with⟨i,rfl,q⟩|⟨k,rfl,q⟩;{obtain⟨u,rfl,t,rfl⟩:=Ea r;exact call_int_int ⟨.int i,H,I,⟨_,rfl⟩,q⟩};obtain⟨u,rfl,a⟩:=Ea r;cases a;exact call_int_bool ⟨.int (if k then 1 else 0),H,I.tok _,⟨_,rfl⟩,q⟩
end
structure ObjM(h:Heap)(x dx C:γ)(mA:Str->Option V'):Prop where
 obj:h.get? x=some (W.instObj C dx)
 ns:h.Ns1 dx mA
 ne:dx≠x
theorem qo6{h:Heap}(n:h.Ns1 dx mA):∃od,h.get? dx=some od/\∀name,W.lookIn name od=some (mA name):=by
 obtain⟨o,c,l,d,f,g,_,i⟩:=n;refine⟨o,d,λname=>?_⟩;have e:=i name;unfold nsFind findBy at e;rw[<-Array.find?_toList] at e;unfold W.lookIn;rw[f];dsimp only;split;{rename_i y q;rw[q] at e;exact congrArg some e};rename_i q;rw[q] at e;have a:c.toList.any (·.refKey)=false:=by rw[List.any_eq_false];intro y j;obtain⟨z,t,b⟩:=g y (Array.mem_toList_iff.mp j);simp[DictEntry.refKey,b]
 have k:¬c.toList.any (·.refKey)=true:=by rw[a];exact zAs
 rw[if_neg k];exact congrArg some e
theorem ObjM.look(I:ObjM h x dx C mA):∃od,W.InstAt h x (W.instObj C dx) C (some od)/\∀name,W.lookIn name od=some (mA name):=let ⟨od,ho,hl⟩:=qo6 I.ns
 ⟨od,⟨I.obj,rfl,rfl,ho⟩,hl⟩
section
variable{prog:Ln}{w:Lq}{A:Lp}{E:V'->Sh->Prop}{s:Sh}{K:Oa}{x B C f:γ}{z:Str->Option V'}{name:Str}{v:V'}
theorem qaP3(X:K.In s.heap)(I:ObjM s.heap x B C z)(b:W.plainGet K C name=true)(c:W.hasDictIn K C=true)(d:W.findIn K (.ref C) name=some none)(e:z name=some v)(a:W.handedIn v=true)(h:Q v {s with toks:=s.toks+1}):Ll (Lm prog w) A (getAttr (.ref x) name expr) Q E s:=by obtain⟨g,J,f⟩:=I.look;exact W.get_value X J (W.plainGet_of b).1 (W.findObj_own c d rfl (by rw[f,e])) a h
theorem qaB3(X:K.In s.heap)(I:ObjM s.heap x B C z)(a:W.plainGet K C name=true)(b:W.findIn K (.ref C) name=some (some (.ref f)))(c:W.isFn K (.ref f)=true)(d:z name=none)(h:Q (.ref f,[.ref x]) s):Ll (Lm prog w) A (getMethod (.ref x) name pl) Q E s:=by obtain⟨e,J,g⟩:=I.look;exact W.method_fn X J (W.plainGet_of a).1 (W.plainGet_of a).2 b (zBj.mp c) (by show (W.lookIn name e).map (·.isSome)=some false;rw[g,d];rfl) h
theorem qaH7(X:K.In s.heap)(I:ObjM s.heap x B C z)(i:W.findIn K (.ref C) "__setattr__"=some (some (.builtin "object.__setattr__")))(j:W.plainOver K C=true)(k:W.takerIn K C name=some none)(l:W.hasDictIn K C=true)(m:PySem.Within z ns)(hsz:ns.length<=Kx)(h:∀h',ObjM h' x B C (λy=>if y=name then some v else z y)->Heap.SameBut B s.heap h'->Q () {s with heap:=h',toks:=s.toks+2}):Ll (Lm prog w) A (setAttr (.ref x) name v) Q E s:=by obtain⟨q,J,r⟩:=I.look;refine W.set_plain X J i (W.osa_open X J j k λb=>?_);obtain⟨t,n,d⟩:=W.any_some l;refine J' (Kv (J' (J' (wpAny_loadPart (I.obj) (J' (W.Looks.here (W.looks_clsIn X n) ?_))))));rw[d];refine Kv (J' (Kv (J' ?_)));refine wpAny_nsSet1 I.ns λh' a c=>?_;obtain⟨u,o,p,e,f,g⟩:=a.count (PySem.Within.cons name v m);refine J' (wpAny_lookBehind e (by rw[f];exact pastItsLine_dict (zAg g (by grind))) ?_);exact Kv (h _ ⟨(c.2 _ (Ne.symm I.ne)).trans I.obj,a,I.ne⟩ c)
theorem qaz7(X:K.In s.heap)(hm:W.makesIn K C=true)(hi:W.findIn K (.ref C) "__init__"=some (some (.ref f)))(a:W.typeIn K (.ref f)=some (.type "function"))(h:codeAny (Lm prog w) (A.under (.builtin "type.__call__" ⟨.ref C::vs,kw⟩)) (.call (.ref f) ⟨.ref (s.heap.objs.size+1)::vs,kw⟩) (W.InitBack (s.heap.objs.size+1) R)
 {s with heap:=(s.heap.push W.emptyDict).push (W.instObj C s.heap.objs.size)}):codeAny (Lm prog w) A (.call (.ref C) ⟨vs,kw⟩) R s:=by obtain⟨b,g,d,t,c⟩:=s;exact W.make_core (W.makes_of X hm) (W.looks_findIn X hi) (λself=>W.bind_fn X self a) (.inl rfl) h
end
noncomputable def Bn(f:Str)(v:V):List (Str×V)->List (Str×V)|[]=>[(f,v)]|(g,x)::r=>if g=f then (g,v)::r else (g,x)::Bn f v r
theorem qs1(f g:Str)(v:V):∀fs:List (Str×V),(Bn f v fs).lookup g=if g=f then some v else fs.lookup g|[]=>by show Me g [(f,v)]=_;by_cases h:g=f;{have b:=zBj.mpr h;simp only[Me,b,if_pos h]};simp only[Me,(zBm.mpr h),if_neg h]|(k,x)::r=>by rw[show Bn f v ((k,x)::r)=(if k=f then (k,v)::r else (k,x)::Bn f v r) from rfl];by_cases a:k=f;{rw[if_pos a];by_cases h:g=k;{simp only[Me,(zBj.mpr h),if_pos (h.trans a)]};simp only[Me,(zBm.mpr h),if_neg (λe:g=f=>h (e.trans a.symm))]};rw[if_neg a];by_cases h:g=k;{simp only[Me,(zBj.mpr h),if_neg (λe:g=f=>a (h.symm.trans e))]};simp only[Me,(zBm.mpr h)];exact(qs1 f g v r)
theorem qp0(f:Str)(v:V):∀fs:List (Str×V),f∈(Bn f v fs).map (·.1)/\∀g,g∈fs.map (·.1)->g∈(Bn f v fs).map (·.1)|[]=>⟨by simp[Bn],λg h=>by simp at h⟩|(k,x)::r=>by obtain⟨b,c⟩:=qp0 f v r;rw[show Bn f v ((k,x)::r)=(if k=f then (k,v)::r else (k,x)::Bn f v r) from rfl];by_cases a:k=f;{rw[if_pos a];subst a;exact⟨by simp,λg h=>by simpa using h⟩};rw[if_neg a];refine⟨?_,λg h=>?_⟩;{rw[zAy];exact zA4 _ b};rw[zAy] at h ⊢;rcases zAa.mp h with e|e;{exact zAa.mpr (.inl e)};exact zA4 _ (c g e)
theorem qs3(f:Str)(v:V):∀fs:List (Str×V),(Bn f v fs).length<=fs.length+1|[]=>by simp[Bn]|(k,x)::r=>by have b:=qs3 f v r;rw[show Bn f v ((k,x)::r)=(if k=f then (k,v)::r else (k,x)::Bn f v r) from rfl];by_cases a:k=f;{rw[if_pos a,zAj,zAj];lia};rw[if_neg a,zAj,zAj];lia
theorem RelO.some_of(r:RelO (some v) o):∃u,o=some u/\O8 v u:=by cases o with|none=>exact(show False from r).elim|some u=>exact⟨u,rfl,r⟩
theorem RelO.none_of(r:RelO none o):o=none:=by cases o with|none=>rfl|some u=>exact(show False from r).elim
theorem qQ5(r:O8 v u):W.handedIn u=true:=by cases v with|non=>cases (show u=Nx from r);rfl|bl b=>cases (show u=N1 b from r);rfl|int i=>obtain⟨t,e⟩:=(show ∃t,u=Ny i t from r);cases e;rfl|str x=>obtain⟨t,e⟩:=(show ∃t,u=Nz x t from r);cases e;rfl|byt b=>obtain⟨t,e⟩:=(show ∃t,u=N6 b t from r);cases e;rfl|flt b=>obtain⟨t,e⟩:=(show ∃t,u=N2 b t from r);cases e;rfl|ref a=>cases (show u=Nw a from r);rfl|ty n=>cases (show u=N3 n from r);rfl
section
variable{P:Ln}{w:Lq}{H:Hp}{h:Heap}{a C i:γ}{fs:List (Str×V)}
theorem qF5(b:HOk P w H h)(e:H a=some (.ins C i fs)):∃mA,ObjM h a i C mA/\(∀f,RelO (fs.lookup f) (mA f))/\PySem.Within mA (fs.map (·.1))/\fs.length<=1000/\H i=some (.own a):=by obtain⟨d,z,c,g,mA,n,r,q⟩:=(show ObjOk P w H h a (.ins C i fs) from b a _ e);exact⟨mA,⟨g,n,c⟩,r,q,z,d⟩
end
structure Cls(K:Oa)(C:γ):Prop where
 pg:W.plainGet K C Str.empty=true
 hd:W.hasDictIn K C=true
 po:W.plainOver K C=true
 sa:W.findIn K (.ref C) "__setattr__"=some (some (.builtin "object.__setattr__"))
theorem Cls.get{K:Oa}(c:Cls K C)(f:Str):W.plainGet K C f=true:=c.pg
def qd7(K:Oa)(C:γ)(f:Str):Prop:=W.findIn K (.ref C) f=some none
theorem qd7.taker{K:Oa}(n:qd7 K C f):W.takerIn K C f=some none:=by unfold W.takerIn;rw[show W.findIn K (.ref C) f=some none from n];rfl
structure Jm(K:Oa)(C:γ)(m:Str)(f:γ):Prop where
 at_:W.findIn K (.ref C) m=some (some (.ref f))
 fn:W.isFn K (.ref f)=true
 kp:W.keepIn K (.ref f)=true
section
variable{X:Cx}{F:List (γ×Obj)}{D:St}{H:Hp}{s:Sh}{a C G:γ}{fs:List (Str×V)}{f:Str}{v:V}{A:Lp}{E:V'->Sh->Prop}
theorem qae4(I:Pb X F D H s)(e:H a=some (.ins C G fs))(c:Cls X.K C)(n:qd7 X.K C f)(l:fs.lookup f=some v)(h:∀u s',Pb X F D H s'->O8 v u->Q u s'):Ll (Lm X.prog X.w) A (getAttr (.ref a) f b) Q E s:=by obtain⟨i,O,r,_,_,_⟩:=qF5 I.hok e;obtain⟨u,g,d⟩:=RelO.some_of (by rw[<-l];exact r f);exact qaP3 I.kIn O (c.get f) c.hd n g (qQ5 d) (h u _ (I.tok _) d)
theorem qF8(I:Pb X F D H s)(e:H a=some (.ins C G fs))(c:Cls X.K C)(k:Jm X.K C m g)(l:fs.lookup m=none)(h:Q (.ref g,[.ref a]) s):Ll (Lm X.prog X.w) A (getMethod (.ref a) m pl) Q E s:=by obtain⟨d,O,r,_,_,_⟩:=qF5 I.hok e;have b:=RelO.none_of (by rw[<-l];exact r m);exact qaB3 I.kIn O (c.get m) k.at_ k.fn b h
theorem qY7(I:Pb X F D H s)(e:H a=some (.ins C G fs))(c:Cls X.K C)(n:qd7 X.K C f)(B:fs.length<1000)(k:O8 y u)(h:∀s',Pb X F D (upd H a (.ins C G (Bn f y fs))) s'->Q () s'):Ll (Lm X.prog X.w) A (setAttr (.ref a) f u) Q E s:=by
 obtain⟨d,O,r,i,_,j⟩:=qF5 I.hok e;have l:(fs.map (·.1)).length<=Kx:=by rw[zAb,K8];lia
 refine qaH7 I.kIn O c.sa c.po n.taker c.hd i l λm O' p=>h _ ?_;have t:∃o,m.get? G=some o:=let ⟨o,_,_,e',_⟩:=O'.ns;⟨o,e'⟩
 refine I.write (by rw[e];exact True.intro) (.inr j) (λb q v z=>(p.2 b v).trans z) t ?_;refine⟨by rw[qb4 O.ne];exact j,?_,O.ne,O'.obj,_,O'.ns,λg=>?_,λg x=>?_⟩;{have:=qs3 f y fs;lia};{show RelO ((Bn f y fs).lookup g) (if g=f then some u else d g);rw[qs1];by_cases q:g=f;{rw[if_pos q,if_pos q];exact k};rw[if_neg q,if_neg q];exact r g};by_cases q:g=f;{rw[q];exact(qp0 f y fs).1};refine(qp0 f y fs).2 g (i g λz=>x ?_);show (if g=f then some u else d g)=none;rw[if_neg q];exact z
theorem Pb.made(I:Pb X F D H s):Pb X F D (upd (upd H s.heap.objs.size (.own (s.heap.objs.size+1))) (s.heap.objs.size+1) (.ins C s.heap.objs.size []))
 {s with heap:=(s.heap.push W.emptyDict).push (W.instObj C s.heap.objs.size)}:=by
 have a:(s.heap.push W.emptyDict).get? s.heap.objs.size=some W.emptyDict:=zAm s.heap rfl;have e2:((s.heap.push W.emptyDict).push (W.instObj C s.heap.objs.size)).get? (s.heap.objs.size+1)=some (W.instObj C s.heap.objs.size):=by have:=zAm (s.heap.push W.emptyDict) (o:=W.instObj C s.heap.objs.size) rfl;rwa[zC1] at this
 refine(I.laid (o:=.own (s.heap.objs.size+1)) (t':=s.toks) (λb u q=>zA2 _ q) (zA3 _) ⟨_,a⟩).laid (λb u q=>zA2 _ q) (zC0 (zC1 _ _)) ?_;have c:s.heap.objs.size≠s.heap.objs.size+1:=zAi (Nat.lt_succ_self _);refine⟨by rw[qb4 c,qb3],zBi _,c,e2,λ_=>none,(Heap.Ns1.of_empty (⟨W.emptyDict,#[],_,a,rfl,(λe d=>absurd d (by simp)),λ_=>rfl⟩)).at λo q=>zA2 _ q,λ_=>True.intro,λy f=>absurd rfl f⟩
theorem qau0{f:Str}{s:Sh}(a:K7 e f env (eval e env)=eval e env)(h:Ll (Lm prog w) A (eval e env) (λo s₁=>Ll (Lm prog w) A (getAttr o f true) Q E s₁) E s):Ll (Lm prog w) A (eval (.Attribute e f pos) env) Q E s:=Attribute_any_ h (by rw[arm_eval_Attribute,a])
end
def tFld(K:Oa)(ta:TE)(f:Str):TE:=λb H Q=>ta b H λx H1=>∃a C dx fs v,x=.ref a/\H1 a=some (.ins C dx fs)/\Cls K C/\qd7 K C f/\fs.lookup f=some v/\Q v H1
def sFld(K:Oa)(ta tv:TE)(f:Str):TS:=λD b H=>tv b H λy H1=>ta b H1 λx H2=>∃a C dx fs,x=.ref a/\H2 a=some (.ins C dx fs)/\Cls K C/\qd7 K C f/\fs.length<1000/\D.nx b (upd H2 a (.ins C dx (Bn f y fs)))
section
variable{X:Cx}{o e B:Lr}{f:Str}{pos pos':Pos}{E tv:TE}
theorem qaK8(d:PE X e E)(g:K7 e f X.env (eval e X.env)=eval e X.env):PE X (.Attribute e f pos) (tFld X.K E f):=by intro E6 s A H Q I h;refine qau0 g (thn (d E6 s A H _ I h) λu o b=>?_);obtain⟨x,H1,I1,i,a,C,p,r,v,j,k,c,n,l,q⟩:=b;subst j;obtain rfl:u=Nw a:=i;exact qae4 I1 k c n l λt w I2 m=>⟨v,H1,I2,m,q⟩
theorem qaV1(d:PE X o E)(e:PE X B tv)(g:swapsWith B (some (.Attribute o f pos')) pos.line X.env=pure false):PS X (.Assign [.Attribute o f pos'] B pos) (sFld X.K E tv f):=by intro E6 s A H D I h;refine plainObj_wpAny_Assign_Attribute (thn (e E6 s A H _ I h) λu i b=>?_) g;obtain⟨y,H1,I1,j,q⟩:=b;refine thn (d E6 i A H1 _ I1 q) λk t b=>?_;obtain⟨x,H2,I2,m,a,C,v,w,p,r,c,n,l,q2⟩:=b;subst p;obtain rfl:k=Nw a:=m;exact qY7 I2 r c n l j λz I3=>⟨A,_,I3,q2⟩
end
section
variable{X:Cx}{F:List (γ×Obj)}{D:St}{H:Hp}{s:Sh}{A:Lp}{E Q:V'->Sh->Prop}{c:V'}{b:Bool}
inductive Es(K:Oa)(H:Hp):V->V'->Prop where
 |non:Es K H .non (.type "NoneType")
 |bl (x:Bool):Es K H (.bl x) (.type "bool")
 |int (i:Int):Es K H (.int i) (.type "int")
 |str (x:Str):Es K H (.str x) (.type "str")
 |flt (x:UInt64):Es K H (.flt x) (.type "float")
 |l {a:γ} {xs:List V} (e:H a=some (.l xs)):Es K H (.ref a) (.type "list")
 |frz {a:γ} {o:Obj} {xs:List V} (e:H a=some (.frz o (.l xs))):Es K H (.ref a) (.type "list")
 |q {a:γ} {xs:List V} (e:H a=some (.q xs)):Es K H (.ref a) (.type "tuple")
 |dK {a:γ} {kvs:List (Key×V)} (e:H a=some (.dK kvs)):Es K H (.ref a) (.type "dict")
 |dT {a:γ} {kvs:List (List Key×V)} (e:H a=some (.dT kvs)):Es K H (.ref a) (.type "dict")
 |ins {a C dx:γ} {fs:List (Str×V)} (e:H a=some (.ins C dx fs)) (cl:Cls K C) (ha:W.findIn K (.ref C) "__class__"=some (some (.builtin "object.__class__")))
  (hn:W.specialIn K (.builtin "object.__class__") "__get__"=some (some (.builtin "getset_descriptor.__get__"))) (htk:W.takesIn K (.builtin "object.__class__")=some true)
  (hm:W.mroIn K C (.type "object")=some true):Es K H (.ref a) (.ref C)
theorem qC6(I:Pb X F D H s)(d:O8 x u)(ty:Es X.K H x t)(e:Ob X.K t c=some b)(h:∀k,Q (.bool b) {s with toks:=k}):Ll (Lm X.prog X.w) A (call (.builtin "isinstance") [u,c]) Q E s:=by cases ty with|non=>cases (show u=Nx from d);exact W.kia_one W.kitx_none I.kIn True.intro e (λz=>nomatch z) h|bl y=>cases (show u=N1 y from d);exact W.kia_one W.kitx_bool I.kIn True.intro e (λz=>nomatch z) h|int i=>obtain⟨t,q⟩:=(show ∃t,u=Ny i t from d);cases q;exact W.kia_one W.kitx_int I.kIn True.intro e (λz=>nomatch z) h|str y=>obtain⟨t,q⟩:=(show ∃t,u=Nz y t from d);cases q;exact W.kia_one W.kitx_str I.kIn True.intro e (λz=>nomatch z) h|flt y=>obtain⟨t,q⟩:=(show ∃t,u=N2 y t from d);cases q;exact W.kia_one W.kitx_float I.kIn True.intro e (λz=>nomatch z) h|@l a g ea=>cases (show u=Nw a from d);obtain⟨_,_,n,_,f⟩:=(show ObjOk X.prog X.w H s.heap a (.l g) from I.hok a _ ea);exact W.kia_one W.kitx_list I.kIn ⟨_,f,rfl⟩ e (λz=>nomatch z) h|@frz a ob g ea=>cases (show u=Nw a from d);obtain⟨_,_,_,n,_,f⟩:=(show ObjOk X.prog X.w H s.heap a (.frz ob (.l g)) from I.hok a _ ea);exact W.kia_one W.kitx_list I.kIn ⟨_,f,rfl⟩ e (λz=>nomatch z) h|@q a g ea=>cases (show u=Nw a from d);obtain⟨_,_,_,p⟩:=(show ObjOk X.prog X.w H s.heap a (.q g) from I.hok a _ ea);obtain⟨o,f,j,_⟩:=p;exact W.kia_one W.kitx_tuple I.kIn ⟨o,f,j⟩ e (λz=>nomatch z) h|@dK a kvs ea=>cases (show u=Nw a from d);obtain⟨_,_,r,_,p⟩:=(show ObjOk X.prog X.w H s.heap a (.dK kvs) from I.hok a _ ea);obtain⟨o,l,m,f,j,_⟩:=p;exact W.kia_one W.kitx_dict I.kIn ⟨o,f,j.1⟩ e (λz=>nomatch z) h|@dT a kvs ea=>cases (show u=Nw a from d);obtain⟨_,_,g,_,o,l,m,f,j,_⟩:=(show ObjOk X.prog X.w H s.heap a (.dT kvs) from I.hok a _ ea);exact W.kia_one W.kitx_dict I.kIn ⟨o,f,j.1⟩ e (λz=>nomatch z) h|@ins a C dx fs ea cl ha hn htk hm=>cases (show u=Nw a from d);obtain⟨v,O,_⟩:=qF5 I.hok ea;obtain⟨B,J,_⟩:=O.look;exact W.kia_one (W.kitx_own (cl.get _) cl.hd ha hn htk hm) I.kIn J e (λz=>nomatch z) h
end
structure Pe(cm:Bool)(k:Nat)(A:Lp):Prop where
 hd:cm=true->A.handled=none
 dp:A.depth+3*k+5<recursionLimit
 un:A.units+16*k+200<cLine
abbrev Room:=Pe true
theorem Pe.mono(r:Pe cm k A)(h:j<=k):Pe cm j A:=⟨r.hd,by have:=r.dp;lia,by have:=r.un;lia⟩
theorem Pe.deeper(r:Pe cm (k+1) A)(env:Env):Pe cm k (A.deeper env):=⟨r.hd,by have:=r.dp;show A.depth+1+3*k+5<_;lia,by have:=r.un;show A.units+3+16*k+200<_;lia⟩
theorem qac6{A:Lp}:(A.under (.builtin "type.__call__" ⟨.ref C::us,kw⟩)).depth=A.depth+1:=by first|rfl|simp[Around.under,Code.weight,Code.isCreation,Code.isGuard,Code.isCaller,Code.frames,Code.isFrame,guardIds]
theorem qac4{A:Lp}:(A.under (.builtin "type.__call__" ⟨.ref C::us,kw⟩)).units=A.units+1:=by first|rfl|simp[Around.under,Code.cUnits,Code.frames,Code.isFrame]
theorem Pe.make(r:Pe cm (k+1) A)(C:γ)(us:List V')(kw:List (Str×V')):Pe cm k (A.under (.builtin "type.__call__" ⟨.ref C::us,kw⟩)):=⟨r.hd,by have:=r.dp;rw[qac6];lia,by have:=r.un;rw[qac4];lia⟩
theorem Pe.depth(r:Pe cm k A):A.depth<recursionLimit:=by have:=r.dp;lia
theorem Pe.units(r:Pe cm k A):A.units+64<cLine:=by have:=r.un;lia
def tNil:TA:=λ_ H Q=>Q [] H
def tCons(ta:TE)(tr:TA):TA:=λa H Q=>ta a H λx H1=>tr a H1 λxs H2=>Q (x::xs) H2
section
variable{X:Cx}{e:Lr}{o:List Lr}{te:TE}{t:TA}{n:Pos}
theorem qu0:PA X [] tNil:=λ_ _ _ _ H Q I h=>Calls.spliced_nil ⟨[],H,I,.nil,h⟩
theorem qe7(a:PE X e te)(b:PA X o t)(c:Kw (e::o) X.env=(false,eval e X.env)::Kw o X.env:=by rfl):PA X (e::o) (tCons te t):=by intro n E6 s m H Q I h;rw[c];exact Calls.spliced_cons (thn (a E6 s m H _ I h) λu d ⟨x,H1,I1,f,g⟩=>(thn (b n E6 d m H1 _ I1 g) λk l ⟨i,H2,I2,j,q2⟩=>⟨x::i,H2,I2,.cons f j,q2⟩))
def tTup(t:TA):TE:=λm H Q=>t m H λxs H1=>xs.length<=Kx/\∀p,H1 p=none->Q (.ref p) (upd H1 p (.q xs))
def tLst(t:TA):TE:=λm H Q=>t m H λxs H1=>xs.length<=Kx/\∀p,H1 p=none->Q (.ref p) (upd H1 p (.l xs))
theorem qaK1{x1}(h:PA X o t):PE X (.Tuple o x1 n) (tTup t):=by intro E6 s m H Q I d;refine wpAny_Tuple_spliced (thn (h n E6 s m H _ I d) λf c a=>?_);obtain⟨g,H1,I1,r,z,q⟩:=a;refine⟨by rw[<-r.length];exact z,?_⟩;refine⟨.ref c.heap.objs.size,upd H1 c.heap.objs.size (.q g),I1.laid (λb u e=>zA2 _ e) (zA3 _) ?_,rfl,q _ (I1.hok.fresh (zA3 _))⟩;exact⟨z,f,r,⟨_,zAm _ rfl,rfl,_,rfl⟩⟩
theorem qax9(h:PA X o t):PE X (.List o n) (tLst t):=by intro E6 s m H Q I d;refine wpAny_List_spliced (thn (h n E6 s m H _ I d) λf c a=>?_);obtain⟨g,H1,I1,r,z,q⟩:=a;refine⟨by rw[<-r.length];exact z,?_⟩;refine⟨.ref c.heap.objs.size,upd H1 c.heap.objs.size (.l g),I1.laid (λb u e=>zA2 _ e) (zA3 _) ?_,rfl,q _ (I1.hok.fresh (zA3 _))⟩;exact⟨z,f,0,r,zAm _ rfl⟩
end
abbrev Sp:=List V->Hp->VK->XK->Prop
abbrev CXT:=List Env->Hp->Sh->XK->V'->Sh->Prop
structure Env0(P:Ln)(w:Lq)(K:Oa)(mg:Str->Option V')(base:Heap)(A:Lp)(outer:List Env)(s:Sh)(H:Hp):Prop where
 frames:A.frames=some outer
 mod:Mod K mg base
 bs:∀b o,base.get? b=some o->s.heap.get? b=some o/\H b=none
 bsz:base.objs.size<=s.heap.objs.size
 funs:s.heap.FunFrames base outer
 frf:∀b∈frs outer,H b=none
 hok:HOk P w H s.heap
 bare:AllBare s.gens
def CE(outer:List Env)(P:Ln)(w:Lq)(H:Hp)(s:Sh)(Q:VK)(u:V')(s':Sh):Prop:=∃v H',s'.os=s.os/\AllBare s'.gens/\Un (frs outer) [] H H' s.heap s'.heap/\HOk P w H' s'.heap/\O8 v u/\Q v H'
def CR(CX:CXT)(outer:List Env)(P:Ln)(w:Lq)(H:Hp)(s:Sh)(Q:VK)(E:XK)(r:Result)(s':Sh):Prop:=match r with|.ok (.ret u)=>CE outer P w H s Q u s'|.ok _=>False|.error e=>CX outer H s E e s'
structure Eo(cm:Bool)(P:Ln)(w:Lq)(K:Oa)(mg:Str->Option V')(base:Heap)(CX:CXT)(k:Nat)(f:γ)(fd:δ)(ps:List Str)(sp:Sp):Prop where
 len:∀vs H Q E,sp vs H Q E->vs.length=ps.length
 run:∀(A:Lp)(outer:List Env)(s:Sh)(H:Hp)(args:Args)(us:List V')(vs:List V)(Q:VK)(E:XK),Pe cm k A->Env0 P w K mg base A outer s H->BindsTo s fd args (ps.zip us)->O9 vs us->sp vs H Q E->codeAny (Lm P w) A (.call (.ref f) args) (CR CX outer P w H s Q E) s
abbrev Fi:=Eo true
theorem Env0.make{K:Oa}(e:Env0 P w K mg base A outer s H)(C:γ)(us:List V')(kw:List (Str×V')):Env0 P w K mg base (A.under (.builtin "type.__call__" ⟨.ref C::us,kw⟩)) outer s H:=⟨by first|exact e.frames|(simpa[Around.under,Code.envs,Code.isFrame,pushEnvs] using e.frames),e.mod,e.bs,e.bsz,e.funs,e.frf,e.hok,e.bare⟩
section
variable{X:Cx}{k:List (γ×Obj)}{j:St}{H:Hp}{s s':Sh}
theorem Pb.env0(I:Pb X k j H s):Env0 X.prog X.w X.K X.mg X.base X.A X.stack s H:=⟨I.ok.frames,I.ok.mod,I.bs,zAg I.ok.bsz I.sz,I.stack,I.stkFree,I.hok,I.bare⟩
theorem Pb.after(I:Pb X k j H s)(h:CE X.stack X.prog X.w H s Q u s'):EP X k j Q u s':=by obtain⟨v,H',e,bare,f,a,r,q⟩:=h;obtain⟨i,g,d,t,c⟩:=s';obtain rfl:c=s.os:=e;exact⟨v,H',I.call f a bare (λb z=>absurd z (by simp)),r,q⟩
end
def Hx(sp:Sp)(dvs:List V)(E:St->XK)(t:TA):TE:=λa H Q=>t a H λvs H1=>sp (vs++dvs) H1 Q (E a)
def Jn(C:γ)(m:Str)(sp:Sp)(dvs:List V)(E:St->XK)(ta:TE)(t:TA):TE:=λb H Q=>ta b H λx H1=>∃a dx fs,x=.ref a/\H1 a=some (.ins C dx fs)/\fs.lookup m=none/\t b H1 λvs H2=>sp (x::(vs++dvs)) H2 Q (E b)
def tMake(C:γ)(sp:Sp)(dvs:List V)(E:St->XK)(t:TA):TE:=λa H Q=>t a H λvs H1=>∀x dx,H1 x=none->H1 dx=none->dx≠x->sp (.ref x::(vs++dvs)) (upd (upd H1 dx (.own x)) x (.ins C dx [])) (λv H2=>v=.non/\Q (.ref x) H2) (E a)
def Binds(K:Oa)(fd:δ)(ps:List Str)(ds:List V'):Prop:=∀(s:Sh)(us:List V'),K.In s.heap->(us++ds).length=ps.length->BindsTo s fd ⟨us,[]⟩ (ps.zip (us++ds))
theorem Binds.all{K:Oa}(h:∀us:List V',us.length=ps.length->bindArgs fd ⟨us,[]⟩=pure (ps.zip us)):Binds K fd ps []:=λs us _ a=>by
 rw[zAe] at a ⊢;exact .of_eq (h us a)
def qH2(CX:CXT)(X:Cx)(E:St->XK):Prop:=∀(E6:List (γ×Obj))(a:St)(H:Hp)(s:Sh)(e:V')(s':Sh),Pb X E6 a H s->CX X.stack H s (E a) e s'->X.xe e s'
section
variable{X:Cx}{Z:Bool}{CX:CXT}{k:Nat}{f C:γ}{fd:δ}{ps:List Str}{sp:Sp}{T:List V}{ds:List V'}{E:St->XK}{x m:Str}{p S U:Pos}{e o:Lr}{Y:List Lr}{ta:TE}{t:TA}
theorem qaw7(F:Eo Z X.prog X.w X.K X.mg X.base CX k f fd ps sp)(c:Pe Z k X.A)(d:Binds X.K fd ps ds)(g:O9 T ds)(i:qH2 CX X E)(I:Pb X E6 R H s)(r:O9 vs us)(h:sp (vs++T) H Q (E R)):Ll (Lm X.prog X.w) X.A (call (.ref f) us) (EP X E6 R Q) X.xe s:=by
 have b:=r.append g;have j:(us++ds).length=ps.length:=by rw[<-b.length];exact F.len _ _ _ _ h
 refine wpAny_call (codeAny_mono (F.run X.A X.stack s H ⟨us,[]⟩ (us++ds) (vs++T) Q (E R) c I.env0 (d s us I.kIn j) b h) λr l a=>?_);cases r with|error e=>exact i E6 R H s e l I a|ok m=>cases m with|ret u=>exact I.after a|next=>exact Oz a|brk=>exact Oz a|cont=>exact Oz a
theorem qaa9(F:Eo Z X.prog X.w X.K X.mg X.base CX k f fd ps sp)(c:Pe Z k X.A)(d:Gl X x)(hm:X.mg x=some (.ref f))(g:W.keepIn X.K (.ref f)=true)(i:Binds X.K fd ps ds)(j:O9 T ds)(l:qH2 CX X E)(m:PA X (e::Y) t)(a:N' x:=by decide)(n:Kw (e::Y) X.env=(false,eval e X.env)::Kw Y X.env:=by rfl)(b:(backTo S (Kw Y X.env)).any (·.1)=false:=by rfl):PE X (.Call (.Name x p) (e::Y) [] S) (Hx sp T E t):=by intro E6 s R H Q I h;exact wpAny_Call_Name_kw (qF3 I d hm (W.callWith_K (h₀:=X.base) I.ok.mod.kin g (thn (m S E6 s R H _ I h) λo u ⟨v,H1,I1,r,q⟩=>⟨I1.kIn,(qaw7 F c i j l I1 r q)⟩) n b) a)
theorem qaK5(j:PE X o ta)(c:Cls X.K C)(hm:Jm X.K C m f)(F:Eo Z X.prog X.w X.K X.mg X.base CX k f fd ps sp)(n:Pe Z k X.A)(p:Binds X.K fd ps ds)(v:O9 T ds)(y:qH2 CX X E)(z:PA X (e::Y) t)(b:Kw (e::Y) X.env=(false,eval e X.env)::Kw Y X.env:=by rfl)(d:(backTo S (Kw Y X.env)).any (·.1)=false:=by rfl)(B:eval (.Call (.Attribute o m U) (e::Y) [] S) X.env=(do
 let ov<-eval o X.env
 standAt U.atName
 let (f,first)<-holding [ov] (getMethod ov m pl)
 callWith S f first (backTo S (Kw (e::Y) X.env)) (backToKw S (Lc [] X.env))):=by rfl):PE X (.Call (.Attribute o m U) (e::Y) [] S) (Jn C m sp T E ta t):=by intro E6 s R H Q I h;refine W.methodCall_KW (thn (j E6 s R H _ I h) λu D g=>?_) B;obtain⟨x,H1,I1,G,a,M,N,J,L,l,q⟩:=g;subst J;obtain rfl:u=Nw a:=G;exact qF8 I1 L c hm l (W.callWith_K (h₀:=X.base) I.ok.mod.kin hm.kp (thn (z S E6 D R H1 _ I1 q) λO P ⟨i,H2,I2,r,q2⟩=>⟨I2.kIn,(qaw7 (vs:=.ref a::i) F n p v y I2 (.cons rfl r) q2)⟩) b d)
theorem qax8(d:PE X o ta)(c:Cls X.K C)(hm:Jm X.K C m f)(F:Eo Z X.prog X.w X.K X.mg X.base CX k f fd ps sp)(e:Pe Z k X.A)(g:Binds X.K fd ps ds)(i:O9 T ds)(j:qH2 CX X E)(n:eval (.Call (.Attribute o m U) [] [] S) X.env=(do
 let ov<-eval o X.env
 standAt U.atName
 let (f,first)<-holding [ov] (getMethod ov m pl)
 callWith S f first (backTo S (Kw [] X.env)) (backToKw S (Lc [] X.env))):=by rfl):PE X (.Call (.Attribute o m U) [] [] S) (Jn C m sp T E ta tNil):=by intro E6 s R H Q I h;refine W.methodCall_KW (thn (d E6 s R H _ I h) λu v b=>?_) n;obtain⟨x,H1,I1,p,a,y,z,r,t,l,q⟩:=b;subst r;obtain rfl:u=Nw a:=p;exact qF8 I1 t c hm l (W.callWith_K0 I1.kIn hm.kp (qaw7 (vs:=[.ref a]) F e g i j I1 (.cons rfl .nil) q))
structure Mk(K:Oa)(C f:γ):Prop where
 makes:W.makesIn K C=true
 init:W.findIn K (.ref C) "__init__"=some (some (.ref f))
 fn:W.isFn K (.ref f)=true
 kp:W.keepIn K (.ref C)=true
theorem qaw6(M:Mk X.K C f)(F:Eo Z X.prog X.w X.K X.mg X.base CX k f fd ps sp)(d:Pe Z (k+1) X.A)(g:Binds X.K fd ps ds)(i:O9 T ds)(j:qH2 CX X E)(I:Pb X E6 R H s)(r:O9 vs us)(h:∀x dx,H x=none->H dx=none->dx≠x->sp (.ref x::(vs++T)) (upd (upd H dx (.own x)) x (.ins C dx [])) (λv H2=>v=.non/\Q (.ref x) H2) (E R)):Ll (Lm X.prog X.w) X.A (call (.ref C) us) (EP X E6 R Q) X.xe s:=by
 have b:=h (s.heap.objs.size+1) s.heap.objs.size (I.hok.fresh (Nat.le_succ _)) (I.hok.fresh (zA3 _)) (zAi (Nat.lt_succ_self _));have I2:=Pb.made (C:=C) I;have c:O9 (V.ref (s.heap.objs.size+1)::(vs++T)) (Nw (s.heap.objs.size+1)::(us++ds)):=.cons rfl (r.append i);have l:(Nw (s.heap.objs.size+1)::us++ds).length=ps.length:=by have e:=c.length;rw[F.len _ _ _ _ b] at e;exact e.symm
 refine wpAny_call (qaz7 I.kIn M.makes M.init (zBj.mp M.fn) (codeAny_mono (F.run _ X.stack _ _ ⟨Nw (s.heap.objs.size+1)::us,[]⟩ (Nw (s.heap.objs.size+1)::(us++ds)) _ _ (E R) (d.make C us [])
  (I2.env0.make C us []) (g _ (Nw (s.heap.objs.size+1)::us) I2.kIn l) c b) λr m a=>?_))
 cases r with|error e=>exact j E6 R _ _ e m I2 a|ok n=>cases n with|ret u=>obtain⟨v,H',I3,o,p,q⟩:=I2.after a;subst p;exact⟨o,⟨V.ref (s.heap.objs.size+1),H',I3,rfl,q⟩⟩|next=>exact Oz a|brk=>exact Oz a|cont=>exact Oz a
theorem qar0(M:Mk X.K C f)(F:Eo Z X.prog X.w X.K X.mg X.base CX k f fd ps sp)(c:Pe Z (k+1) X.A)(d:Gl X x)(hm:X.mg x=some (.ref C))(g:Binds X.K fd ps ds)(i:O9 T ds)(j:qH2 CX X E)(l:PA X (e::Y) t)(a:N' x:=by decide)(m:Kw (e::Y) X.env=(false,eval e X.env)::Kw Y X.env:=by rfl)(b:(backTo S (Kw Y X.env)).any (·.1)=false:=by rfl):PE X (.Call (.Name x p) (e::Y) [] S) (tMake C sp T E t):=by intro E6 s R H Q I h;exact wpAny_Call_Name_kw (qF3 I d hm (W.callWith_K (h₀:=X.base) I.ok.mod.kin M.kp (thn (l S E6 s R H _ I h) λn o ⟨u,H1,I1,r,q⟩=>⟨I1.kIn,(qaw6 M F c g i j I1 r q)⟩) m b) a)
end
structure qa8(N P:List Str)(sc:Scope):Prop where
 kind:sc.kind=.function
 co:sc.isCoroutine=false
 gen:sc.isGenerator=false
 nd:N.Nodup
 pre:N.take P.length=P
 par:∀x∈P,sc.names.lookup x=some .local∨sc.names.lookup x=some .cell
 nofree:∀y∈sc.names,y.2≠.free
theorem qS4{L7:Str->Option NameKind}{x:Str}:∀{binds:List (Str×V')}{m:Str->Option V'},(∀v,(x,v)∉binds)->bindL L7 binds m x=m x
 |[],_,_=>rfl|(n,v)::r,m,h=>by
  unfold bindL;rw[qS4 λw a=>h w (zA4 _ a)];split
  .have:x≠n:=by rintro rfl;exact h v zA9
   simp[this]
  rfl
theorem qS6{L7:Str->Option NameKind}{x:Str}:∀{binds:List (Str×V')}{m:Str->Option V'},(∀v,(x,v)∉binds)->bindC L7 binds m x=m x
 |[],_,_=>rfl|(n,v)::r,m,h=>by
  unfold bindC;rw[qS6 λw a=>h w (zA4 _ a)];split;{rfl};have:x≠n:=by rintro rfl;exact h v zA9
  simp[this]
theorem qS5{L7:Str->Option NameKind}{x:Str}{v:V'}:∀{P:List Str}{vs:List V'}{i:Nat}{m:Str->Option V'},P.Nodup->P[i]?=some x->vs[i]?=some v->L7 x=some .local->bindL L7 (P.zip vs) m x=some v|[],_,_,_,_,h,_,_=>by simp at h|_::_,[],_,_,_,_,h,_=>by simp at h|p::P,w::vs,0,m,nd,h1,h2,hk=>by simp at h1 h2;subst h1;subst h2;show bindL L7 ((p,w)::P.zip vs) m p=_;unfold bindL;rw[qS4 λv a=>(zCn.mp nd).1 (M3 a).1,if_pos hk];simp|p::P,w::vs,i+1,m,nd,h1,h2,hk=>by show bindL L7 ((p,w)::P.zip vs) m x=_;unfold bindL;exact qS5 (i:=i) (zCn.mp nd).2 (by simpa using h1) (by simpa using h2) hk
theorem qS7{L7:Str->Option NameKind}{x:Str}{v:V'}:∀{P:List Str}{vs:List V'}{i:Nat}{m:Str->Option V'},P.Nodup->P[i]?=some x->vs[i]?=some v->L7 x≠some .local->bindC L7 (P.zip vs) m x=some v|[],_,_,_,_,h,_,_=>by simp at h|_::_,[],_,_,_,_,h,_=>by simp at h|p::P,w::vs,0,m,nd,h1,h2,hk=>by simp at h1 h2;subst h1;subst h2;show bindC L7 ((p,w)::P.zip vs) m p=_;unfold bindC;rw[qS6 λv a=>(zCn.mp nd).1 (M3 a).1,if_neg hk];simp|p::P,w::vs,i+1,m,nd,h1,h2,hk=>by show bindC L7 ((p,w)::P.zip vs) m x=_;unfold bindC;exact qS7 (i:=i) (zCn.mp nd).2 (by simpa using h1) (by simpa using h2) hk
noncomputable def start(N:List Str)(vs:List V):St:=vs.map some++Ma (N.length-vs.length) none
noncomputable def E8(cm:Bool)(CX:CXT)(P:Ln)(w:Lq)(K:Oa)(mg:Str->Option V')(base:Heap)(N:List Str)(qual:Str)(scope:Scope)(f:γ)(cd:V')(A:Lp)(outer:List Env)(s:Sh)(H:Hp)(E:XK):Cx where
 prog:=P
 w:=w
 K:=K
 mg:=mg
 base:=base
 A:=A.deeper (envOfC qual scope s.heap.objs.size f cd)
 N:=N
 s₀:=s
 H₀:=H
 env:=envOfC qual scope s.heap.objs.size f cd
 outer:=outer
 stack:=envOfC qual scope s.heap.objs.size f cd::outer
 ex:=[]
 calm:=cm
 fn:=λ_=>true
 pn:=[]
 xe:=λe s'=>Ll (Lm P w) (A.deeper (envOfC qual scope s.heap.objs.size f cd)) (leaving (envOfC qual scope s.heap.objs.size f cd) e) (λ_ a=>CX outer H s E e a) (λb a=>CX outer H s E b a) s'
theorem qaf7{sc:Scope}(h:sc.names.lookup x=some .cell):∃c,(cellsFrom n sc.names []).lookup x=some c:=by exact zB5.mp (W.cellsFrom_some sc.names n [] (.inl h))
theorem qal6{K:Oa}(S:qa8 N ps scope)(F:cm=true->A.handled=none)(g:Env0 P w K mg base A outer s H)(L:vs.length=ps.length)(r:O9 vs us)(x:InCallC s s.heap.objs.size (bindL (envOfC qual scope s.heap.objs.size f cd).kindOf (ps.zip us) λ_=>none) (cellsFrom (s.heap.objs.size+1) scope.names []) (bindC (envOfC qual scope s.heap.objs.size f cd).kindOf (ps.zip us) λ_=>none) B):Pb (E8 cm CX P w K mg base N qual scope f cd A outer s H E) [] (start N vs) H B:=by
 have G:ps.length<=N.length:=by have:=congrArg Mf S.pre;rw[zBz] at this;lia
 obtain⟨o,M,rfl,C⟩:=x.done;have j:∀b:γ,b∉(E8 cm CX P w K mg base N qual scope f cd A outer s H E).ex:=λb z=>absurd (show b∈([]:List γ) from z) (by simp);refine⟨⟨g.mod,S.kind,rfl,rfl,zA3 _,λy z c o d=>?_,λy l=>?_,λy c _ h=>?_,F,Around.frames_deeper g.frames,.inr ⟨rfl,rfl⟩,λb z=>absurd z (j b),g.bs,g.bsz,λb _ _=>j b,λb z=>absurd z (j b),g.funs,g.frf⟩,
  rfl,g.bare,Un.kept C,⟨_,x.toInCall.ns,λi y v o d O=>?_⟩,λy c h=>⟨_,x.cell y c h⟩,g.hok.fresh (zA3 _),λy c h=>?_,λp m=>absurd (show p∈([]:List (γ×Obj)) from m) (by simp),g.hok.kept C,?_⟩
 {exact name_of_addr x.apart (PySem.mem_of_lookup o) (PySem.mem_of_lookup d)};{have l:=l;rcases l with l|l;{exact qaf7 l};exact absurd rfl (S.nofree _ (PySem.mem_of_lookup l))};{exact zBh (x.above y c (PySem.mem_of_lookup h))}
 .have t:i<vs.length:=by unfold start at d;by_cases t:i<vs.length;{exact t};rw[List.getElem?_append_right (by simpa using t)] at d;rw[List.getElem?_replicate] at d;split at d<;>cases d
  have I:vs[i]?=some v:=by unfold start at d;rw[zAq (by simpa using t),zAt] at d;cases e:vs[i]? with|none=>rw[e] at d;cases d|some a=>rw[e] at d;cases d;rfl
  obtain⟨u,D,J⟩:=r.get I;have m:ps[i]?=some y:=by rw[<-S.pre,List.getElem?_take_of_lt ⋯];exact o
  have n:ps.Nodup:=by rw[<-S.pre];exact S.nd.sublist (List.take_sublist _ _)
  refine⟨u,J,?_⟩;rcases S.par y (zAw m) with k|k;{exact .inl ⟨k,qS5 n m D k⟩};obtain⟨c,e⟩:=qaf7 k;refine .inr ⟨.inl k,c,e,?_⟩;have q:=x.cell y c e;rw[qS7 n m D (by show scope.names.lookup y≠_;rw[k];decide)] at q;exact q
 {exact g.hok.fresh (zBh (x.above y c (PySem.mem_of_lookup h)))};unfold start;show _=N.length;grind
theorem Jo{K:Oa}{kV:V'}{i:Array (Option V')}(F:K.lookup f=some ⟨oc,od,.func (W.fnOf name qual params body scope z kV d B D a C),i⟩)(j:W.codeIn K a qual=true)(S:qa8 N ps scope)(len:∀vs H Q E,sp vs H Q E->vs.length=ps.length)(hbody:∀(A:Lp)(outer:List Env)(s:Sh)(H:Hp)(vs:List V)(Q:VK)(E:XK),Pe cm k (A.deeper (envOfC qual scope s.heap.objs.size f a))->sp vs H Q E->∃t,PSs (E8 cm CX P w K mg base N qual scope f a A outer s H E) body t/\t {nx:=λ_ H'=>Q .non H',rt:=Q} (start N vs) H):Eo cm P w K mg base CX (k+1) f (W.fnOf name qual params body scope z kV d B D a C) ps sp:=by
 refine⟨len,λA outer s H args G vs Q E l g I r h=>?_⟩;have KX:=g.mod.kin.keeps λb o e=>(g.bs b o e).1;have hkind:∀y∈ps.zip G,scope.names.lookup y.1=some .local∨(scope.names.lookup y.1=some .cell/\((cellsFrom (s.heap.objs.size+1) scope.names []).lookup y.1).isSome=true):=λ⟨n,v⟩ L=>by rcases S.par n (M3 L).1 with q|q;{exact .inl q};exact .inr ⟨q,W.cellsFrom_some _ _ _ (.inl q)⟩
 refine codeAny_call_function l.depth (KX _ _ F) rfl S.co S.gen rfl (W.codeRec_of KX j) (I _ _ _ _ ?_);refine wpAny_newFunctionEnv_cells S.kind hkind λM O R x=>?_;subst O;refine⟨(g.mod.nolimit.keeps λb o e=>(g.bs b o e).1).keeps x.toInCall.keep,codeAny_func ?_⟩;obtain⟨t,T,U⟩:=hbody A outer s H vs Q E (l.deeper _) h;refine Ld (T [] R (start N vs) H _ (qal6 S l.hd g (len _ _ _ _ h) r x) U) (λX m c=>?_) λe m c=>c;have fin:∀{Y':St}{H':Hp}{v:V}{u:V'},Pb (E8 cm CX P w K mg base N qual scope f a A outer s H E) [] Y' H' m->O8 v u->Q v H'->CE outer P w H s Q u m:=λ{Y' H' v u} J p q=>⟨v,H',J.os,J.bare,J.base,J.hok,p,q⟩;cases X with|ret u=>obtain⟨v,Y',H',J,p,q⟩:=c;exact fin J p q|next=>obtain⟨Y',H',J,q⟩:=c;exact fin (v:=V.non) J rfl q|brk=>obtain⟨_,_,_,q⟩:=c;exact Oz q|cont=>obtain⟨_,_,_,q⟩:=c;exact Oz q
section
variable{X:Cx}{x:Str}{p u:Pos}{e:Lr}{v:List Lr}{t:TA}{w T:String}{r:List V->Hp->VK->Prop}
def tCB(r:List V->Hp->VK->Prop)(t:TA):TE:=λq H Q=>t q H λvs H1=>r vs H1 Q
theorem qay4(c:CallR X (.builtin w) r)(d:Gl X x)(hm:X.mg x=none)(f:K5 x=some (.builtin w))(g:PA X (e::v) t)(i:x ≠ "__name__" := by decide)(a:N' x:=by decide)(j:Kw (e::v) X.env=(false,eval e X.env)::Kw v X.env:=by rfl)(b:(backTo u (Kw v X.env)).any (·.1)=false:=by rfl):PE X (.Call (.Name x p) (e::v) [] u) (tCB r t):=by intro E6 s q H Q I h;exact wpAny_Call_Name_kw (qM0 I d hm f (PyProof.Rows.callWith_builtin1 (thn (g u E6 s q H _ I h) λk l ⟨m,H1,I1,n,o⟩=>c E6 l q H1 m k Q I1 n o) j b) i a)
theorem qaj6(c:CallR X (.type T) r)(d:Gl X x)(hm:X.mg x=none)(f:K5 x=some (.type T))(g:PA X (e::v) t)(i:x ≠ "__name__" := by decide)(a:N' x:=by decide)(j:Kw (e::v) X.env=(false,eval e X.env)::Kw v X.env:=by rfl)(b:(backTo u (Kw v X.env)).any (·.1)=false:=by rfl):PE X (.Call (.Name x p) (e::v) [] u) (tCB r t):=by intro E6 s q H Q I h;exact wpAny_Call_Name_kw (qM0 I d hm f (PyProof.Rows.callWith_type1 (thn (g u E6 s q H _ I h) λk l ⟨m,H1,I1,n,o⟩=>c E6 l q H1 m k Q I1 n o) j b) i a)
end
end L2
namespace HT
open PySem PyProof.Rows
section
noncomputable def sIx(n d:Nat):Option Int->Nat|none=>d|some v=>if v<0 then (v+(n:Int)).toNat else min v.toNat n
theorem qZ4(n d:Nat):sIx n d none=d:=rfl
theorem qap8(n d k:Nat):sIx n d (some (k:Int))=min k n:=by show (if (k:Int)<0 then ((k:Int)+(n:Int)).toNat else min (k:Int).toNat n)=min k n;rw[if_neg ⋯,Int.toNat_natCast]
end
end HT
namespace L2
open PySem PySem.Spec PyProof.Rows
variable{its us:List V'}{n:Nat}{x:V}{α:Type}
abbrev TO:=St->Hp->(Option Int->Hp->Prop)->Prop
def PO(X:Cx)(e:Option Lr)(t:TO):Prop:=∀(E6:List (γ×Obj))(s:Sh)(a:St)(H:Hp)(Q:Option Int->Hp->Prop),Pb X E6 a H s->t a H Q->Ll (Lm X.prog X.w) X.A (evalPart e X.env) (λu s'=>∃o H',Pb X E6 a H' s'/\IsPart u o/\Q o H') X.xe s
def qaG8:TO:=λ_ H Q=>Q none H
def tPart(t:TE):TO:=λa H Q=>t a H λx H1=>∃i,x=.int i/\Q (some i) H1
theorem qae2:∀{us:List V'},O9 (ns.map V.int) us->IntsAre us ns:=by induction ns with|nil=>intro us r;rw[Mj] at r;cases r;exact .nil|cons n ns a=>intro us r;rw[zAy] at r;cases r with|cons b c=>obtain⟨t,e⟩:=b;subst e;exact .cons n t (a c)
section
variable{X:Cx}{e:Lr}{te:TE}{E F:Option Lr}{G J:TO}{K L:Pos}
theorem qaq8:PO X none qaG8:=by intro E6 s D H Q I h;rw[evalPart_none];exact Kv ⟨none,H,I,.none,h⟩
theorem qaq7(h:PE X e te):PO X (some e) (tPart te):=by intro E6 s D H Q I b;rw[evalPart_some];refine thn (h E6 s D H _ I b) λu f a=>?_;obtain⟨x,H1,I1,c,d⟩:=a;obtain⟨i,rfl,q⟩:=d;obtain⟨t,rfl⟩:=c;exact⟨some i,H1,I1,.int i t,q⟩
def SlR(X:Cx)(r:V->Option Int->Option Int->Hp->VK->Prop):Prop:=∀(E6:List (γ×Obj))(s:Sh)(D:St)(H:Hp)(x:V)(v vl vu:V')(E F:Option Int)(sl:γ)(Q:VK),Pb X E6 D H s->O8 x v->s.heap.IsSliceOf sl vl vu .none->IsPart vl E->IsPart vu F->r x E F H Q->∃T id,typeLookup (.type T) "__getitem__"=pure (some (.builtin id))/\s.TypeIs v T/\Ll (Lm X.prog X.w) X.A (getItem v (.ref sl)) (EP X E6 D Q) X.xe s
def tSl(r:V->Option Int->Option Int->Hp->VK->Prop)(te:TE)(G J:TO):TE:=λD H Q=>te D H λx H1=>G D H1 λl H2=>J D H2 λu H3=>r x l u H3 Q
theorem qaa7(g:SlR X r)(i:PE X e te)(j:PO X E G)(k:PO X F J):PE X (.Subscript e (.Slice E F none L) K) (tSl r te G J):=by intro E6 s D H Q I h;refine Subscript_ (thn (i E6 s D H _ I h) λv m a=>?_);obtain⟨x,H1,I1,n,o⟩:=a;refine wpAny_Slice (thn (j E6 m D H1 _ I1 o) λd p a=>?_);obtain⟨l,H2,I2,t,q2⟩:=a;refine thn (k E6 p D H2 _ I2 q2) λf c a=>?_;obtain⟨u,H3,I3,w,y⟩:=a;rw[evalPart_none];refine Kv ?_;have I4:Pb X E6 D H3 {c with heap:=c.heap.push {cls:=.type "slice",data:=.fields #[d,f,.none]} }:=I3.kept λb C q=>zA2 _ q;obtain⟨T,id,z,A,B⟩:=g E6 {c with heap:=c.heap.push {cls:=.type "slice",data:=.fields #[d,f,.none]} } D H3 x v d f l u c.heap.objs.size Q I4 n (Heap.IsSliceOf.new ..) t w y;exact tail_any A z B (by with_unfolding_all rfl)
def Hm(xs:List V)(E F:Option Int):List V:=(xs.drop (HT.sIx xs.length 0 E)).take (HT.sIx xs.length xs.length F-HT.sIx xs.length 0 E)
theorem qV9(xs:List V)(E F:Option Int):(Hm xs E F).length<=xs.length:=by unfold Hm;rw[zBz,Mg];lia
end
noncomputable def ixN(n:Nat)(i:Int):Option Nat:=if 0<=i then (if i<n then some i.toNat else none) else if -(n:Int)<=i then some (i+n).toNat else none
def atI{α:Type}(xs:List α)(i:Int):Option α:=(ixN xs.length i).bind λj=>xs[j]?
theorem qQ0(h:ixN n i=some j):seqIndex? i n=some j/\j<n/\-(n:Int)<=i/\i<n:=by unfold ixN at h;by_cases b:0<=i;{rw[if_pos b] at h;by_cases a:i<n;{rw[if_pos a] at h;have e:=N8 h;exact⟨by rw[seqIndex_of b a,e],⋯,⋯,a⟩};rw[if_neg a] at h;cases h};rw[if_neg b] at h;by_cases a:-(n:Int)<=i;{rw[if_pos a] at h;have e:=N8 h;exact⟨by rw[seqIndex_neg ⋯ a,e],⋯,a,⋯⟩};rw[if_neg a] at h;cases h
theorem qag4(h:atI xs i=some v):∃j,seqIndex? i xs.length=some j/\xs[j]?=some v/\j<xs.length/\-(xs.length:Int)<=i/\i<xs.length:=by unfold atI at h;cases e:ixN xs.length i with|none=>rw[e] at h;cases h|some j=>rw[e] at h;obtain⟨a,b,c,d⟩:=qQ0 e;exact⟨j,a,h,b,c,d⟩
theorem qS8{j:Nat}(h:xs[j]?=some v):atI xs (j:Int)=some v:=by
 have a:=(zA6.mp h).1;have e:ixN xs.length (j:Int)=some j:=by unfold ixN;rw[if_pos ⋯,if_pos ⋯];simp
 unfold atI;rw[e];exact h
theorem qaE5(xs:List α)(v:α):atI (xs++[v]) (-1)=some v:=by
 have a:(xs++[v]).length=xs.length+1:=by simp
 have e:ixN (xs++[v]).length (-1)=some xs.length:=by unfold ixN;grind
 unfold atI;rw[e];simp
def qT0(b:Lr):Prop:=∀o i,subscripted b false o i=operate [o,i] (getItem o i)
def IxR(X:Cx)(r:R2):Prop:=∀(value slice:Lr)(E6:List (γ×Obj))(s:Sh)(a:St)(H:Hp)(x y:V)(v u:V')(Q:VK),Pb X E6 a H s->O8 x v->O8 y u->r x y H Q->subscripted slice false v u=operate [v,u] (getItem v u)->Ll (Lm X.prog X.w) X.A (subscriptTail value slice v u) (EP X E6 a Q) X.xe s
def MtR(X:Cx)(id:String)(r:V->List V->Hp->VK->Prop):Prop:=∀(E6:List (γ×Obj))(s:Sh)(a:St)(H:Hp)(x:V)(xs:List V)(v:V')(us:List V')(Q:VK),Pb X E6 a H s->O8 x v->O9 xs us->r x xs H Q->Ll (Lm X.prog X.w) X.A (call (.builtin id) (v::us)) (EP X E6 a Q) X.xe s
section
variable{X:Cx}{a b:Lr}{Z tb:TE}{Y:Pos}
theorem IxR.or{a:R2}(h:IxR X r)(h':IxR X a):IxR X (λx y H Q=>r x y H Q∨a x y H Q):=by intro value slice E6 s L H x y v u Q I b c q d;rcases q with q|q;{exact h value slice E6 s L H x y v u Q I b c q d};exact h' value slice E6 s L H x y v u Q I b c q d
theorem Jp(c:IxR X r)(d:PE X a Z)(e:PE X b tb)(f:qT0 b):PE X (.Subscript a b Y) (tOp r Z tb):=by intro E6 s L H Q I h;exact Subscript_ (binT d e I h λv u g x y H2 I2 i j q=>c a b E6 g L H2 x y v u Q I2 i j q (f _ _))
def rIxL(K:Oa):R2:=λx y H Q=>∃p xs i v,x=.ref p/\y=.int i/\SqL K H p xs/\atI xs i=some v/\Q v H
def rIxT(K:Oa):R2:=λx y H Q=>∃p xs i v,x=.ref p/\y=.int i/\SqT K H p xs/\atI xs i=some v/\Q v H
def rIxS:R2:=λx y H Q=>∃z i c,x=.str z/\y=.int i/\z.length<=Kx/\atI z.cps.toList i=some c/\Q (.str ⟨#[c]⟩) H
theorem qaO1:IxR X (rIxL X.K):=by
 intro value slice E6 s L H x y v u Q I l m h f;obtain⟨p,E,i,z,rfl,rfl,n,o,q⟩:=h;cases l;obtain⟨t,rfl⟩:=m;obtain⟨b,r,c,F⟩:=I.list n;obtain⟨j,a,A,G,B,C⟩:=qag4 o;obtain⟨w,g,d⟩:=r.get A;have D:=r.length;have J:=qL8;have fin:EP X E6 L Q w s:=⟨z,H,I,d,q⟩;by_cases k:0<=i
 .have e:i.toNat=j:=by rw[seqIndex_of k C] at a;exact N8 a
  exact item_listR c.isList k ⋯ (by rw[e];simpa using g) fin f
 have e:(i+(b.toArray.size:Int)).toNat=j:=by rw[seqIndex_neg ⋯ B] at a;rw[zA5,<-D];exact N8 a
 exact subscriptTail_builtinR c.isList.typeIs slot_list_getitem.lookup
  (wpAny_getItem_list_neg c.isList ⋯ (by rw[zA5]<;>lia) ⋯ (by rw[e];simpa using g) ⟨rfl,fin⟩) f
theorem qaZ8:IxR X (rIxT X.K):=by
 intro value slice E6 s L H x y v u Q I c d h e;obtain⟨p,o,i,z,rfl,rfl,f,g,q⟩:=h;cases c;obtain⟨t,rfl⟩:=d;obtain⟨k,r,b,A⟩:=I.tuple f;obtain⟨j,l,m,B,C,D⟩:=qag4 g;obtain⟨w,n,a⟩:=r.get m;have E:=qL8;exact subscriptTail_builtinR b.typeIs slot_tuple_getitem.lookup
  (getItem_tuple b ⋯ ⋯ (by rw[zA5,<-(r.length)];exact l) (by simpa using n) ⟨rfl,(⟨z,H,I,a,q⟩)⟩) e
theorem qaZ9:IxR X rIxS:=by
 intro value slice E6 s L H x y v u Q I b d h e;obtain⟨z,i,c,rfl,rfl,n,f,q⟩:=h;obtain⟨t,rfl⟩:=b;obtain⟨o,rfl⟩:=d;obtain⟨j,a,g,p,k,l⟩:=qag4 f;have m:z.cps.toList.length=z.length:=by simp[Str.length]
 rw[m] at a k l;have r:=qL8;exact tail_any (typeIs_str s z t) slot_str_getitem.lookup (getItem_str (by rw[(zBg ⋯),(zBg ⋯),Bool.or_false]) (by rw[a];simpa using g) ⟨.str ⟨#[c]⟩,H,I.tok _,⟨_,rfl⟩,q⟩) e
def rIx(K:Oa):R2:=λx y H Q=>rIxL K x y H Q∨rIxT K x y H Q∨rIxS x y H Q
theorem qb7:IxR X (rIx X.K):=qaO1.or (qaZ8.or qaZ9)
theorem qac3(its:List V')(n j:Nat)(u:V'):Obj.mapSeq (·.setIfInBounds j u) {cls:=.type "list",data:=.seq its.toArray n}={cls:=.type "list",data:=.seq (its.set j u).toArray n}:=by simp[Obj.mapSeq]
theorem Pb.l(I:Pb X E6 L H s)(h:H p=some (.l xs)):∃(its:List V')(n:Nat),O9 xs its/\s.heap.get? p=some {cls:=.type "list",data:=.seq its.toArray n}/\xs.length<=Kx:=by obtain⟨z,its,n,r,e⟩:=I.hok p _ h;exact⟨its,n,r,e,z⟩
theorem Pb.lstUpd{a:Nat}(I:Pb X E6 L H s)(h:H p=some (.l xs))(d:s.heap.get? p=some {cls:=.type "list",data:=.seq its.toArray n})(c:f {cls:=.type "list",data:=.seq its.toArray n}={cls:=.type "list",data:=.seq its'.toArray a})(r:O9 ys its')(g:ys.length<=Kx)(t:Nat):Pb X E6 L (upd H p (.l ys)) {s with heap:=s.heap.update p f,toks:=t}:=by
 have e:(s.heap.update p f).get? p=some {cls:=.type "list",data:=.seq its'.toArray a}:=by rw[zBn f d (by rw[c]<;>rfl),c]
 refine I.write (by rw[h];trivial) (.inl rfl) (λb u i q=>(zBd _ _ (Ne.symm i)).trans q) ⟨_,e⟩ ?_;exact⟨g,its',a,r,e⟩
def rSetL:V->V->V->Hp->(Hp->Prop)->Prop:=λo i v H Q=>∃p xs k j,o=.ref p/\i=.int k/\H p=some (.l xs)/\ixN xs.length k=some j/\Q (upd H p (.l (xs.set j v)))
theorem qI8:PSet X rSetL:=by
 intro E6 s L H o i v B C u Q I w x y h;obtain⟨p,D,k,j,rfl,rfl,f,z,q⟩:=h;cases w;obtain⟨t,rfl⟩:=x;obtain⟨a,n,r,c,A⟩:=I.l f;obtain⟨b,E,g,l⟩:=qQ0 z;have d:=r.length;have F:=qL8;have I':=I.lstUpd f c (qac3 a n j u) (r.set y j) (by rw[zC3];exact A) s.toks;by_cases m:0<=k
 .have e:k.toNat=j:=by rw[seqIndex_of m l] at b;exact N8 b
  exact W.ki_setAt c m ⋯ (by rw[zA5,<-d];exact l) (by rw[e];exact⟨_,I',q⟩)
 have e:(k+(a.toArray.size:Int)).toNat=j:=by rw[seqIndex_neg ⋯ g] at b;rw[zA5,<-d];exact N8 b
 exact W.ki_setBack c ⋯ (by rw[zA5,<-d];exact g) ⋯ (by rw[e];exact⟨_,I',q⟩)
theorem qI7(lo hi:Option Int)(n:Nat):(sliceBounds lo hi none n).1=((HT.sIx n 0 lo:Nat):Int)/\(sliceBounds lo hi none n).2.1=((HT.sIx n n hi:Nat):Int)/\(sliceBounds lo hi none n).2.2=1:=by refine⟨?_,?_,rfl⟩;{cases lo with|none=>simp[sliceBounds,HT.sIx]|some i=>simp only[sliceBounds,HT.sIx,Option.getD_none,show (1:Int)>0 by decide,if_true];by_cases h:i<0;{simp only[h,if_true]<;>lia};simp only[h,if_false]<;>lia};cases hi with|none=>simp[sliceBounds,HT.sIx]|some i=>simp only[sliceBounds,HT.sIx,Option.getD_none,show (1:Int)>0 by decide,if_true];by_cases h:i<0;{simp only[h,if_true]<;>lia};simp only[h,if_false]<;>lia
theorem qD4(its:List V')(lo hi:Option Int):slicePick its.toArray lo hi none=((its.drop (HT.sIx its.length 0 lo)).take (HT.sIx its.length its.length hi-HT.sIx its.length 0 lo)).toArray:=by obtain⟨a,b,c⟩:=qI7 lo hi its.toArray.size;unfold slicePick;rw[a,b,c];simp only[sliceRange_one,pick_run,zA5]<;>rfl
def rSlL(K:Oa):V->Option Int->Option Int->Hp->VK->Prop:=λx lo hi H Q=>∃a xs,x=.ref a/\SqL K H a xs/\∀p,H p=none->Q (.ref p) (upd H p (.l (Hm xs lo hi)))
theorem qap6:SlR X (rSlL X.K):=by intro E6 s L H x v p t e f u Q I i j k l h;obtain⟨a,c,rfl,m,q⟩:=h;cases i;obtain⟨n,r,g,o⟩:=I.list m;have d:=r.length;refine⟨"list",_,slot_list_getitem.lookup,g.isList.typeIs,?_⟩;refine wpAny_getItem_list_slice g.isList j k l .none (by simp) ?_ (by grind);rw[qD4,<-d];refine⟨.ref s.heap.objs.size,_,I.laid (λb w q=>zA2 _ q) (zA3 _) ?_,rfl,q _ (I.hok.fresh (zA3 _))⟩;exact⟨zAg (qV9 c e f) o,_,0,(r.drop (HT.sIx c.length 0 e)).take (HT.sIx c.length c.length f-HT.sIx c.length 0 e),zAm _ rfl⟩
noncomputable def flatV:V->Bool|.non=>true|.bl _=>true|.int _=>true|.str _=>true|_=>false
noncomputable def eqV:V->V->Bool|.non,.non=>true|.bl a,.bl b=>a==b|.bl a,.int b=>(if a then 1 else 0)==b|.int a,.bl b=>a==(if b then 1 else 0)|.int a,.int b=>a==b|.str a,.str b=>a==b|_,_=>false
theorem qaD0(e:O8 y u)(c:O8 x v)(g:flatV y=true)(f:flatV x=true):SeqAt.EqAt A s u v (eqV y x):=by cases y with|non=>(cases e;cases x with|non=>cases c;exact SeqAt.EqAt.same _|bl b=>cases c;exact SeqAt.EqAt.none_bool b|int b=>obtain⟨t,rfl⟩:=c;exact SeqAt.EqAt.none_int b t|str b=>obtain⟨t,rfl⟩:=c;exact SeqAt.EqAt.none_str b t|_=>exact absurd (show false=true from f) zAs)|bl a=>(cases e;cases x with|non=>cases c;exact SeqAt.EqAt.bool_none a|bl b=>cases c;exact SeqAt.EqAt.bool_bool a b|int b=>obtain⟨t,rfl⟩:=c;exact SeqAt.EqAt.bool_int a b t|str b=>obtain⟨t,rfl⟩:=c;exact SeqAt.EqAt.bool_str a b t|_=>exact absurd (show false=true from f) zAs)|int a=>(obtain⟨d,rfl⟩:=e;cases x with|non=>cases c;exact SeqAt.EqAt.int_none a d|bl b=>cases c;exact SeqAt.EqAt.int_bool a d b|int b=>obtain⟨t,rfl⟩:=c;exact SeqAt.EqAt.int_int a d b t|str b=>obtain⟨t,rfl⟩:=c;exact SeqAt.EqAt.int_str a d b t|_=>exact absurd (show false=true from f) zAs)|str a=>(obtain⟨d,rfl⟩:=e;cases x with|non=>cases c;exact SeqAt.EqAt.str_none a d|bl b=>cases c;exact SeqAt.EqAt.str_bool a d b|int b=>obtain⟨t,rfl⟩:=c;exact SeqAt.EqAt.str_int a d b t|str b=>obtain⟨t,rfl⟩:=c;exact SeqAt.EqAt.str_str a d b t|_=>exact absurd (show false=true from f) zAs)|_=>exact absurd (show false=true from g) zAs
def eqU(x:V)(u:V'):Bool:=match u with|.none=>eqV .non x|.bool b=>eqV (.bl b) x|.int i _=>eqV (.int i) x|.str z _=>eqV (.str z) x|_=>false
theorem qaC9(r:O8 y u)(f:flatV y=true):eqU x u=eqV y x:=by cases y with|non=>cases r;rfl|bl b=>cases r;rfl|int i=>obtain⟨t,rfl⟩:=r;rfl|str z=>obtain⟨t,rfl⟩:=r;rfl|_=>exact absurd (show false=true from f) zAs
theorem qH0{x:V}:∀{xs:List V}{us:List V'},O9 xs us->xs.all flatV=true->us.any (eqU x)=xs.any λy=>eqV y x|_,_,.nil,_=>rfl|y::xs,u::us,.cons r t,f=>by rw[Mo,zB0] at f;rw[Mi,Mi,qaC9 r f.1,qH0 t f.2]
theorem qs0{A:Lp}{s:Sh}{x:V}{v:V'}(b:O8 x v)(c:flatV x=true):∀{xs:List V}{us:List V'},O9 xs us->xs.all flatV=true->∀u∈us,SeqAt.EqAt A s u v (eqU x u)|_,_,.nil,_=>λu a=>by cases a|y::xs,u::us,.cons r t,f=>λd a=>by rw[Mo,zB0] at f;rcases zAa.mp a with rfl|a;{rw[qaC9 r f.1];exact qaD0 r b f.1 c};exact qs0 b c t f.2 d a
def inV(x:V)(xs:List V):Bool:=xs.any λy=>eqV y x
def rIn(K:Oa)(neg:Bool):R2:=λx y H Q=>∃p xs,y=.ref p/\(SqL K H p xs∨SqT K H p xs)/\flatV x=true/\xs.all flatV=true/\Q (.bl (if neg then !inV x xs else inV x xs)) H
theorem qaj8:OpR X (Ky .In) (rIn X.K false):=by intro E6 s L H x y v u Q I f i h;obtain⟨p,k,rfl,b,g,c,q⟩:=h;cases i;rcases b with b|b;{obtain⟨a,r,d,j⟩:=I.list b;refine SeqAt.in_listAt (eqU x) d.isList (λw e=>qs0 f g r c w (by simpa using e)) ⟨.bl _,H,I,rfl,?_⟩;rw[show a.toArray.any (eqU x)=a.any (eqU x) by simp,qH0 r c];exact q};obtain⟨a,r,d,j⟩:=I.tuple b;refine SeqAt.in_tupleAt (eqU x) d (λw e=>qs0 f g r c w (by simpa using e)) ⟨.bl _,H,I,rfl,?_⟩;rw[show a.toArray.any (eqU x)=a.any (eqU x) by simp,qH0 r c];exact q
theorem qf3:OpR X (Ky .NotIn) (rIn X.K true):=by intro E6 s L H x y v u Q I f i h;obtain⟨p,k,rfl,b,g,c,q⟩:=h;cases i;rcases b with b|b;{obtain⟨a,r,d,j⟩:=I.list b;refine SeqAt.notIn_listAt (eqU x) d.isList (λw e=>qs0 f g r c w (by simpa using e)) ⟨.bl _,H,I,rfl,?_⟩;rw[show a.toArray.any (eqU x)=a.any (eqU x) by simp,qH0 r c];exact q};obtain⟨a,r,d,j⟩:=I.tuple b;refine SeqAt.notIn_tupleAt (eqU x) d (λw e=>qs0 f g r c w (by simpa using e)) ⟨.bl _,H,I,rfl,?_⟩;rw[show a.toArray.any (eqU x)=a.any (eqU x) by simp,qH0 r c];exact q
theorem qN2:CallR X (.builtin "len") (λxs H Q=>∃p ys,xs=[.ref p]/\(SqL X.K H p ys∨SqT X.K H p ys)/\Q (.int ys.length) H):=by intro E6 s L H xs i Q I r h;obtain⟨p,ys,rfl,b,q⟩:=h;obtain⟨u,rfl,f⟩:=Ea r;cases f;have j:=qL8;rcases b with b|b;{obtain⟨c,d,e,g⟩:=I.list b;have a:=d.length;exact Calls.call_len_list e.isList (by simp only[zA5]<;>lia) ⟨.int ys.length,H,I.tok _,⟨s.toks+1,by rw[zA5,a]⟩,q⟩};obtain⟨c,d,e,g⟩:=I.tuple b;have a:=d.length;exact len_tuple e (by simp only[zA5]<;>lia) ⟨.int ys.length,H,I.tok _,⟨s.toks+1,by rw[zA5,a]⟩,q⟩
theorem qN1:CallR X (.builtin "len") (λxs H Q=>∃z,xs=[.str z]/\z.length<=Kx/\Q (.int z.length) H):=by intro E6 s L H xs a Q I r h;obtain⟨z,rfl,b,q⟩:=h;obtain⟨u,rfl,t,rfl⟩:=Ea r;have c:=qL8;exact len_str ⋯ ⟨.int z.length,H,I.tok _,⟨_,rfl⟩,q⟩
theorem CallR.or{a:List V->Hp->VK->Prop}(h:CallR X f r)(h':CallR X f a):CallR X f (λxs H Q=>r xs H Q∨a xs H Q):=by intro E6 s L H xs b Q I c q;rcases q with q|q;{exact h E6 s L H xs b Q I c q};exact h' E6 s L H xs b Q I c q
theorem qd3:CallR X (.type "list") (λxs H Q=>∃p ys,xs=[.ref p]/\(SqL X.K H p ys∨SqT X.K H p ys)/\∀l,H l=none->Q (.ref l) (upd H l (.l ys))):=by
 intro E6 s L H xs A Q I r h;obtain⟨p,ys,rfl,g,q⟩:=h;obtain⟨u,rfl,z⟩:=Ea r;cases z;have fin:∀(a:List V'),O9 ys a->ys.length<=Kx->∀(c:Heap)(d:Nat),(∀b y,s.heap.get? b=some y->c.get? b=some y)->c.get? s.heap.objs.size=some {cls:=.type "list",dict:=none,data:=.seq a.toArray d,slots:=#[]}->EP X E6 L Q (.ref s.heap.objs.size) {s with heap:=c}:=λa f i c d j e=>
  ⟨.ref s.heap.objs.size,_,I.laid j (zA3 _) (show ObjOk X.prog X.w _ c _ (.l ys) from⟨i,a,d,f,e⟩),rfl,q _ (I.hok.fresh (zA3 _))⟩
 rcases g with g|g;{obtain⟨a,f,m,i⟩:=I.list g;have k:=f.length;obtain⟨o,t,v,n,x⟩:=m.isList;exact call_list_seq p (.inl rfl) t v x (λc d j e=>fin a f i c d j e) (by simp only[zA5]<;>lia)};obtain⟨a,f,m,i⟩:=I.tuple g;have k:=f.length;obtain⟨o,t,v,n,x⟩:=m;exact call_list_seq p (.inr rfl) t v x (λc d j e=>fin a f i c d j e) (by simp only[zA5]<;>lia)
def tyV(K:Oa)(T:String)(x:V)(H:Hp):Prop:=match x with|.str _=>T="str"|.int _=>T="int"|.ref p=>(T="list" /\ ∃xs,SqL K H p xs)∨(T="tuple" /\ ∃o,K.lookup p=some o/\o.cls=.type "tuple" /\ o.dict=none)∨(T="dict" /\ ((∃kvs,H p=some (.dK kvs))∨∃kvs,H p=some (.dT kvs)))∨(T="set" /\ ∃S n,H p=some (.set S n))|_=>False
theorem qaF7(I:Pb X E6 L H s)(r:O8 x v)(ty:tyV X.K T x H):s.TypeIs v T/\∀a,v=.ref a->∃ob,s.heap.get? a=some ob/\ob.dict=none:=by
 cases x with
 |str z=>obtain⟨t,rfl⟩:=r;cases (show T="str" from ty);exact⟨typeIs_str s z t,λ_ e=>nomatch e⟩|int i=>obtain⟨t,rfl⟩:=r;cases (show T="int" from ty);exact⟨typeIs_int s i t,λ_ e=>nomatch e⟩|ref p=>
  cases r;rcases ty with⟨rfl,xs,hq⟩|⟨rfl,o,hk,hc,d⟩|⟨rfl,hk⟩|⟨rfl,S,n,hk⟩;{obtain⟨g,_,f,_⟩:=I.list hq;refine⟨f.isList.typeIs,λa e=>?_⟩;cases e;obtain⟨o,n,e,c,d,_⟩:=f;exact⟨o,e,d⟩};{refine⟨⟨o,I.kIn p o hk,hc⟩,λa e=>?_⟩;cases e;exact⟨o,I.kIn _ o hk,d⟩}
  .have z:∃o,s.heap.get? p=some o/\o.ExactDict:=by rcases hk with⟨kvs,hk⟩|⟨kvs,hk⟩;{obtain⟨_,_,_,_,o,_,_,e,b,_⟩:=I.hok p _ hk;exact⟨o,e,b⟩};obtain⟨_,_,_,_,o,_,_,e,b,_⟩:=I.hok p _ hk;exact⟨o,e,b⟩
   obtain⟨o,e,b⟩:=z;refine⟨⟨o,e,b.1⟩,λa e2=>?_⟩;cases e2;exact⟨o,e,b.2.1⟩
  obtain⟨o,_,_,_,e,b,_⟩:=I.hok p _ hk;refine⟨⟨o,e,b.1⟩,λa e2=>?_⟩;cases e2;exact⟨o,e,b.2.1⟩
 |_=>exact Oz ty
def tBM0(K:Oa)(T:String)(r:V->List V->Hp->VK->Prop)(O:TE):TE:=λL H Q=>O L H λx H1=>tyV K T x H1/\r x [] H1 Q
def tBM(K:Oa)(T:String)(r:V->List V->Hp->VK->Prop)(O:TE)(t:TA):TE:=λL H Q=>O L H λx H1=>tyV K T x H1/\t L H1 λxs H2=>r x xs H2 Q
variable{o e:Lr}{R:List Lr}{O:TE}{t:TA}{name:Str}{N M:Pos}{T U:String}{r:V->List V->Hp->VK->Prop}
theorem qaW4(d:PlainAttrs T)(slot:Slot T name U)(a:typeOf (.builtin U)=pure (.type "method_descriptor"))(hm:MtR X U r)(e:PE X o O)(hbase:K7 o name X.env (eval o X.env)=eval o X.env:=by rfl)(hline:(N.endLine==M.line)=true:=by rfl):PE X (.Call (.Attribute o name N) [] [] M) (tBM0 X.K T r O):=by intro E6 s L H Q I h;refine wpAny_Call_method0_late hbase hline (thn (e E6 s L H _ I h) λv f b=>?_);obtain⟨x,H1,I1,c,ty,g⟩:=b;obtain⟨i,j⟩:=qaF7 I1 c ty;exact⟨T,U,d,slot,a,i,j,Calls.callWith_builtin rfl (PySem.evalArgs_none (hm E6 f L H1 x [] v [] Q I1 c .nil g))⟩
theorem Jq(g:PlainAttrs T)(slot:Slot T name U)(b:typeOf (.builtin U)=pure (.type "method_descriptor"))(hm:MtR X U r)(i:PE X o O)(j:PA X (e::R) t)(hbase:K7 o name X.env (eval o X.env)=eval o X.env:=by rfl)(a:((backTo M (Kw (e::R) X.env)).all (λx=>!x.1)&&(backToKw M (Lc [] X.env)).all (λx=>x.1.isSome)
 && decide ((e::R).length+([]:List Keyword).length+(if ([]:List Keyword).isEmpty then 0 else 1)<30))=true:=by rfl)(hline:(N.endLine==M.line)=true:=by rfl)(k:Kw (e::R) X.env=(false,eval e X.env)::Kw R X.env:=by rfl)(hplain:(backTo M (Kw R X.env)).any (·.1)=false:=by rfl):PE X (.Call (.Attribute o name N) (e::R) [] M) (tBM X.K T r O t):=by intro E6 s L H Q I h;refine wpAny_Call_method_late hbase a hline rfl (thn (i E6 s L H _ I h) λv l c=>?_);obtain⟨x,H1,I1,d,ty,m⟩:=c;obtain⟨n,p⟩:=qaF7 I1 d ty;refine⟨T,U,g,slot,b,n,p,?_⟩;have f:=j M E6 l L H1 _ I1 m;rw[k] at f ⊢;refine Calls.callWith_builtin (by show (false||(backTo M (Kw R X.env)).any (·.1))=false;rw[hplain]<;>rfl) (Calls.evalArgs_plain ?_);exact thn f λq u ⟨w,H2,I2,y,q2⟩=>hm E6 u L H2 x w v q Q I2 d y q2
/- xs.append(e),list.index on a module's tuple .. are MtR facts of 06m -/
end
def MtM(X:Cx)(id:String)(r:V->List V->Hp->VK->Prop):Prop:=∀(E6:List (γ×Obj))(s:Sh)(a:St)(H:Hp)(x:V)(xs:List V)(v:V')(us:List V')(Q:VK),Pb X E6 a H s->O8 x v->O9 xs us->r x xs H Q->Ll (Lm X.prog X.w) X.A (call (.builtin id) (v::us)) (EP X E6 a Q) X.xe s
theorem O9.one(h:O9 [x] us):∃u,us=[u]/\O8 x u:=by cases h with|cons r t=>cases t;exact⟨_,rfl,r⟩
theorem O9.two(h:O9 [x,y] us):∃u v,us=[u,v]/\O8 x u/\O8 y v:=by cases h with|cons r t=>cases t with|cons q t=>cases t;exact⟨_,_,rfl,r,q⟩
theorem O9.zero:∀{us:List V'},O9 [] us->us=[]|_,.nil=>rfl
theorem O9.dropLast(h:O9 xs us):O9 xs.dropLast us.dropLast:=by induction h with|nil=>exact .nil|cons r t a=>cases t with|nil=>exact .nil|cons q b=>exact .cons r a
theorem O9.reverse{xs:List V}(h:O9 xs us):O9 xs.reverse us.reverse:=by induction h with|nil=>exact .nil|cons r t a=>rw[Mn,Mn];exact O9.append a (.cons r .nil)
theorem O9.rep{xs:List V}{us:List V'}(h:O9 xs us):∀k:Nat,O9 (Ma k xs).flatten (Ma k us).flatten|0=>.nil|k+1=>by rw[zBs,zBs,zCf,zCf];exact O9.append h (O9.rep h k)
theorem qaf0(l:List α):l.eraseIdx (l.length-1)=l.dropLast:=by grind
theorem qR0(its:List V'):∀(k:Nat)(acc:List V'),
 Mv (λa b=>a++b) acc.toArray (Ma k its.toArray)=(acc++(Ma k its).flatten).toArray
 |0,acc=>by simp
 |k+1,acc=>by
  have e:acc.toArray++its.toArray=(acc++its).toArray:=by simp
  have e2:(acc++its)++(Ma k its).flatten=acc++(Ma (k+1) its).flatten:=by
   rw[zBs,zCf,zAx]
  rw[<-e2,<-qR0 its k (acc++its),<-e,zBs,Nj]
section
variable{X:Cx}{k:List (γ×Obj)}{j:St}{H:Hp}{s:Sh}{l:γ}{xs ys:List V}
theorem Pb.lset(I:Pb X k j H s)(a:H l=some (.l xs))(e:s.heap.get? l=some {cls:=.type "list",data:=.seq its.toArray n})(b:f its.toArray=its'.toArray)(c:O9 ys its')(d:ys.length<=Kx):Pb X k j (upd H l (.l ys)) {s with heap:=s.heap.update l (Obj.mapSeq f),toks:=t'}:=by have q:=PySem.IsL.update e f;rw[b] at q;refine I.write (by rw[a];exact trivial) (.inl rfl) (λi u g h=>(zBd s.heap (Obj.mapSeq f) (Ne.symm g)).trans h) ⟨_,q⟩ ?_;exact⟨d,its',_,c,q⟩
theorem Pb.lnew(I:Pb X k j H s)(a:O9 ys its)(b:ys.length<=Kx):Pb X k j (upd H s.heap.objs.size (.l ys)) {s with heap:=s.heap.push {cls:=.type "list",data:=.seq its.toArray},toks:=t'}:=I.laid (λ_ _ q=>zA2 _ q) (zA3 _) ⟨b,its,0,a,zAm _ rfl⟩
theorem Pb.fresh(I:Pb X k j H s):H s.heap.objs.size=none:=I.hok.fresh (zA3 _)
theorem Pb.lstM(I:Pb X k j H s)(a:H l=some (.l xs)):xs.length<=Kx/\∃(its:List V')(n:Nat),O9 xs its/\xs.length=its.length/\s.heap.get? l=some {cls:=.type "list",data:=.seq its.toArray n}:=by obtain⟨z,its,n,r,e⟩:=I.hok l _ a;exact⟨z,its,n,r,r.length,e⟩
theorem qaz2(h:n<=Kx):Builtin.List.listTooLong n=false:=by unfold Builtin.List.listTooLong;grind
end
section
variable{X:Cx}
def qaq2:V->List V->Hp->VK->Prop:=λx vs H Q=>∃l xs y,x=.ref l/\vs=[y]/\H l=some (.l xs)/\xs.length<Kx/\Q .non (upd H l (.l (xs++[y])))
theorem qh0:MtM X "list.append" qaq2:=by intro E6 s L H x g v i Q I c d h;obtain⟨l,j,y,rfl,rfl,b,k,q⟩:=h;cases c;obtain⟨u,rfl,f⟩:=d.one;obtain⟨z,a,n,r,m,e⟩:=I.lstM b;refine Lh Oe ⟨_,e,rfl⟩ F.entry_list_append (F.args_list_append_2 _ _) (PySem.list_append l a.toArray n u (by grind)) ⟨e,?_⟩;refine⟨.non,_,I.lset b e (by simp) (r.append (.cons f .nil)) ?_,rfl,q⟩;grind
def rPop:V->List V->Hp->VK->Prop:=λx vs H Q=>∃l xs y,x=.ref l/\vs=[]/\H l=some (.l xs)/\xs[xs.length-1]?=some y/\Q y (upd H l (.l xs.dropLast))
theorem qaY3:MtM X "list.pop" rPop:=by
 intro E6 s L H x o v p Q I f g h;obtain⟨l,t,y,rfl,rfl,d,i,q⟩:=h;cases f;have b:=g.zero;subst b;obtain⟨z,a,n,r,j,e⟩:=I.lstM d;obtain⟨u,k,m⟩:=r.get i;have c:a.toArray[a.toArray.size-1]?=some u:=by show a.toArray[a.length-1]?=some u;rw[<-Array.getElem?_toList,<-j];exact k
 refine Lh Ot ⟨_,e,rfl⟩ F.entry_list_pop (F.args_list_pop_1 _) (MeetsSeq.list_pop_last l a.toArray n u c (by rw[zA5];lia)) ⟨e,?_⟩;refine⟨y,_,I.lset d e ?_ r.dropLast ?_,m,q⟩;{show a.toArray.eraseIdxIfInBounds (a.toArray.size-1)=a.dropLast.toArray;rw[zA5,List.eraseIdxIfInBounds_toArray,qaf0]};rw[List.length_dropLast];lia
def rCat:R2:=λx y H Q=>∃l b xs a,x=.ref l/\y=.ref b/\H l=some (.l xs)/\H b=some (.l a)/\xs.length+a.length<=Kx/\∀p,H p=none->Q (.ref p) (upd H p (.l (xs++a)))
theorem qaX7:OpR X (Lj .Add) rCat:=by
 intro E6 s L H x y v u Q I c d h;obtain⟨l,b,m,o,rfl,rfl,f,g,p,q⟩:=h;cases c;cases d;obtain⟨z,a,n,r,t,e⟩:=I.lstM f;obtain⟨w,its2,A,i,j,e2⟩:=I.lstM g;refine PySem.P.add_list e e2 ?_ (by rw[zA5,zA5];lia);have k:a.toArray++its2.toArray=(a++its2).toArray:=by simp
 rw[k];exact⟨.ref _,_,I.lnew (r.append i) (by rw[zAf];lia),rfl,q _ I.fresh⟩
def rRep:R2:=λx y H Q=>∃l k xs,x=.ref l/\y=.int k/\H l=some (.l xs)/\-(2 ^ 63)<=k/\k<2 ^ 63/\xs.length*k.toNat<=Kx/\∀p,H p=none->Q (.ref p) (upd H p (.l (Ma k.toNat xs).flatten))
theorem qaN4(xs:List α)(k:Nat):(Ma k xs).flatten.length=k*xs.length:=by induction k with|zero=>simp|succ k a=>rw[zBs,zCf,zAf,a,Nat.succ_mul,Nat.add_comm]
theorem qaW9:OpR X (Lj .Mult) rRep:=by
 intro E6 s L H x y v u Q I j o h;obtain⟨l,k,J,rfl,rfl,p,w,A,i,q⟩:=h;cases j;obtain⟨t,rfl⟩:=o;obtain⟨z,b,n,r,B,e⟩:=I.lstM p;have c:b.toArray.size*k.toNat<=Kx:=by rw[zA5,<-B];exact i
 have d:¬b.toArray.size*k.toNat>(2 ^ 63-1)/8:=by have:(Kx:Nat)<=(2 ^ 63-1)/8:=∅;lia
 have f:¬(!Builtin.List.listFitsIndex k)=true:=by rw[fitsIndex_both w A];grind
 have hlong:¬Builtin.List.listTooLong (b.toArray.size*k.toNat)=true:=by rw[qaz2 c];exact zAs
 have g:Mv (λC D=>C++D) #[] (Ma (if b.toArray.isEmpty=true then 0 else k.toNat) b.toArray)=(Ma k.toNat b).flatten.toArray:=by
  have E:=λm=>by have:=qR0 b m [];rw[zBa] at this;exact this
  rw[E];cases b with|nil=>simp|cons a K=>rw[if_neg (by simp)]
 refine wpAny_binaryOp_repeat_ref ∅ ⟨_,e,rfl⟩ (λG=>typeIs_int G k t) noFill_list_mul F.fills_int_mul Ou repeat_list F.slot_int_index.lookup
  (Lh Ou (typeIs_int s k t) F.entry_int_rmul (F.args_int_rmul_2 _ _) (int___rmul___int_list k t l b.toArray n)
   ⟨e,rfl,⟨_,e,rfl⟩,Lh F.slot_list_mul ⟨_,e,rfl⟩ F.entry_list_mul (F.args_list_mul_2 _ _) (AutoListH.list___mul___list_int_3 l b.toArray n k t f d hlong) ⟨e,?_⟩⟩)
 rw[g];exact⟨.ref _,_,I.lnew (r.rep k.toNat) (by rw[qaN4,Nat.mul_comm];exact i),rfl,q _ I.fresh⟩
end
section
variable{f:Type}[DecidableEq f]
noncomputable def Fj(kvs:List (f×V))(k:f):Option V:=(kvs.find? λa=>decide (a.1=k)).map (·.2)
noncomputable def putK(kvs:List (f×V))(k:f)(v:V):List (f×V):=if (kvs.any λa=>decide (a.1=k))=true then kvs.map (λa=>if a.1=k then (a.1,v) else a) else kvs++[(k,v)]
theorem qH7{k:f}(e:p.1=k):Fj (p::r) k=some p.2:=by simp[Fj,zC4,e]
theorem qH8{k:f}(e:¬p.1=k):Fj (p::r) k=Fj r k:=by simp[Fj,zC4,e]
theorem qV7(kvs:List (f×V))(k:f)(v:V):(putK kvs k v).length<=kvs.length+1:=by unfold putK;grind
theorem RelO.getD(r:RelO o u)(a:O8 d d'):O8 (o.getD d) (u.getD d'):=by cases o with|none=>(cases u with|none=>exact a|some _=>exact(show False from r).elim)|some _=>cases u with|none=>exact(show False from r).elim|some _=>exact r
theorem KV.val(r:KV kvs vs)(k:f):RelO (Fj kvs k) (valueAt vs k):=by
 unfold KV at r;induction r with
 |nil=>exact True.intro|@cons p q ps qs h t ih=>
  obtain⟨c,d⟩:=h;by_cases e:p.1=k
  .have a:=c.symm.trans e;have b:valueAt (q::qs) k=some q.2:=by simp[valueAt,zC4,a]
   rw[qH7 e,b];exact d
  have a:¬q.1=k:=λz=>e (c.trans z);have b:valueAt (q::qs) k=valueAt qs k:=by simp[valueAt,zC4,a]
  rw[qH8 e,b];exact ih
theorem KV.any(r:KV kvs vs)(k:f):(kvs.any λa=>decide (a.1=k))=vs.any λa=>decide (a.1=k):=by unfold KV at r;induction r with|nil=>rfl|cons h t b=>rw[Mi,Mi,b,h.1]
theorem KV.repl(r:KV kvs vs)(k:f)(c:O8 y u):KV (kvs.map λa=>if a.1=k then (a.1,y) else a) (vs.map λa=>if a.1=k then (a.1,u) else a):=by unfold KV at r ⊢;induction r with|nil=>exact .nil|@cons p q ps qs h t ih=>rw[zAy,zAy];refine .cons ?_ ih;obtain⟨b,d⟩:=h;by_cases e:p.1=k;{rw[if_pos e,if_pos (b.symm.trans e)];exact⟨b,c⟩};rw[if_neg e,if_neg (λz=>e (b.trans z))];exact⟨b,d⟩
theorem KV.put(r:KV kvs vs)(k:f)(a:O8 y u):KV (putK kvs k y) (stored vs k u):=by unfold putK stored;rw[r.any k];by_cases e:(vs.any λb=>decide (b.1=k))=true;{rw[if_pos e,if_pos e];exact r.repl k a};rw[if_neg e,if_neg e];exact Paired.snoc r ⟨rfl,a⟩
theorem KV.length{vs:List (f×V')}(r:KV kvs vs):kvs.length=vs.length:=Paired.length r
end
theorem Jr(r:O8 (kV k) u):(qd2 P w).is k u=true:=by cases k with|inl i=>obtain⟨t,e⟩:=(show ∃t,u=Ny i t from r);subst e;exact qV5 P w i t|inr x=>obtain⟨t,e⟩:=(show ∃t,u=Nz x t from r);subst e;exact qV4 P w x t
theorem qQ1{P:Ln}{w:Lq}:∀{ks:List Key}{us:List V'},O9 (ks.map kV) us->ItemsAre (qd2 P w) ks us|[],_,r=>by rw[Mj] at r;cases r;exact .nil|k::ks,_,r=>by rw[zAy] at r;cases r with|cons h t=>exact .cons (Jr h) (qQ1 t)
abbrev KT(H:Hp):List (List Key×V)->List (List Key×γ×V')->Prop:=Paired λp q=>p.1=q.1/\H q.2.1=some (.q (p.1.map kV))/\O8 p.2 q.2.2
theorem KT.val(r:KT H kvs xs)(k:List Key):RelO (Fj kvs k) ((atKey xs k).map (·.2)):=by
 induction r with
 |nil=>exact True.intro|@cons p q ps qs h t ih=>
  obtain⟨c,_,d⟩:=h;by_cases e:p.1=k
  .have a:=c.symm.trans e;have b:atKey (q::qs) k=some q.2:=by simp[atKey,zC4,a]
   rw[qH7 e,b];exact d
  have a:¬q.1=k:=λz=>e (c.trans z);have b:atKey (q::qs) k=atKey qs k:=by simp[atKey,zC4,a]
  rw[qH8 e,b];exact ih
section
variable{P:Ln}{w:Lq}{H:Hp}{h:Heap}{a:γ}
theorem rd_of(b:HOk P w H h)(e:Rd H a u):ObjOk P w H h a u:=e.ok b
theorem Js(b:HOk P w H h)(e:Rd H a (.dK kvs)):kvs.length<=Kx/\(a==Lb)=false/\∃vs,KV kvs vs/\h.DictOf (qd2 P w) a vs:=show ObjOk P w H h a (.dK kvs) from rd_of b e
theorem qaO0(c:HOk P w H h)(e:H a=some (.q (ks.map kV))):(tupleKind (qd2 P w)).is h ks a:=by obtain⟨_,b,r,o,d,f,n,g⟩:=(show ObjOk P w H h a (.q (ks.map kV)) from c a _ e);exact⟨o,b.toArray,n,d,f,g,by simpa using qQ1 r⟩
theorem dt_rd(c:HOk P w H h)(e:Rd H a (.dT kvs)):kvs.length<=Kx/\(a==Lb)=false/\∃xs,KT H kvs xs/\h.DictOfH (tupleKind (qd2 P w)) a xs:=by
 obtain⟨z,y,xs,r,o,d,f,g,i,j,k,n⟩:=(show ObjOk P w H h a (.dT kvs) from rd_of c e);refine⟨z,y,xs,r,o,d,f,g,i,j,k,λx b=>?_,n⟩;have all:∀{l:List (List Key×V)}{m:List (List Key×γ×V')},KT H l m->∀x∈m,(tupleKind (qd2 P w)).is h x.1 x.2.1:=by intro l m q;induction q with|nil=>intro x b;exact nomatch b|@cons p q ps qs hq t ih=>intro x b;rcases zAa.mp b with e|b;{subst e;exact qaO0 c (by rw[<-hq.1];exact hq.2.1)};exact ih x b
 exact all r x b
end
def DGet(H:Hp)(a:γ)(y:V)(r:Option V):Prop:=(∃kvs k,Rd H a (.dK kvs)/\y=kV k/\r=Fj kvs k)∨∃kvs k b,Rd H a (.dT kvs)/\y=.ref b/\H b=some (.q (k.map kV))/\r=Fj kvs k
section
variable{X:Cx}{b:List (γ×Obj)}{a:St}{H:Hp}{s:Sh}
theorem Pb.big(I:Pb X b a H s):Lb<s.heap.objs.size:=by exact Nat.lt_trans ∅ ((I.mod.glob.keeps I.bk).lt)
end
section
variable{X:Cx}{g:List (γ×Obj)}{f:St}{H:Hp}{s:Sh}{a:γ}{kvs:List (Key×V)}{A:Lp}{E:V'->Sh->Prop}
theorem d_len(I:Pb X g f H s)(e:Rd H a (.dK kvs))(h:∀t s',Pb X g f H s'->Q (.int kvs.length t) s'):Ll (Lm X.prog X.w) A (call (.builtin "len") [.ref a]) Q E s:=by obtain⟨z,b,d,rel,c⟩:=Js I.hok e;refine call_len_dict b c (by rw[<-rel.length];rw[K8] at z;lia) ?_;rw[<-rel.length];exact h _ _ (I.tok _)
end
theorem qaD2{P:Ln}{w:Lq}{H:Hp}(h:Heap)(a:Lb<h.objs.size):ObjOk P w H (h.push {cls:=.type "dict",data:=.dict #[]}) h.objs.size (.dK []):=⟨zBi _,zBm.mpr (Ne.symm (zAi a)),[],.nil,Heap.DictOf.new h⟩
def qaT2:TE:=λ_ H Q=>∀p,H p=none->Q (.ref p) (upd H p (.dK []))
section
variable{X:Cx}{b:Pos}
theorem qay1:PE X (.Dict [] [] b) qaT2:=λE6 s a H Q I h=>
 wpAny_Dict_empty ⟨.ref s.heap.objs.size,_,I.laid (λ_ _ q=>zA2 _ q) (zA3 _) (qaD2 s.heap I.big),rfl,h _ (I.hok.fresh (zA3 _))⟩
end
def qz4(kvs more:List (Key×V)):List (Key×V):=more.foldl (λacc a=>putK acc a.1 a.2) kvs
theorem qt1:∀(more kvs:List (Key×V)),(qz4 kvs more).length<=kvs.length+more.length|[],kvs=>by show kvs.length<=kvs.length+0;lia|p::r,kvs=>by have a:=qt1 r (putK kvs p.1 p.2);have b:=qV7 kvs p.1 p.2;show (qz4 (putK kvs p.1 p.2) r).length<=_;rw[zAj];lia
structure M2(X:Cx)(o:Lr)(m:Str)(apos:Pos)(e f:Lr)(cpos:Pos):Prop where
 base:K7 o m X.env (eval o X.env)=eval o X.env
 few:((backTo cpos (Kw [e,f] X.env)).all (λx=>!x.1)&&(backToKw cpos (Lc [] X.env)).all (λx=>x.1.isSome)
   && decide (([e,f]:List Lr).length+([]:List Keyword).length+(if ([]:List Keyword).isEmpty then 0 else 1)<30))=true
 line:(apos.endLine==cpos.line)=true
 trees:backTo cpos (Kw [e,f] X.env)=[(false,eval e X.env),(false,eval f X.env)]
def IsD(H:Hp)(a:γ):Prop:=(∃kvs,Rd H a (.dK kvs))∨∃kvs,Rd H a (.dT kvs)
theorem qba0(I:Pb X E6 k H s)(d:IsD H a):s.TypeIs (.ref a) "dict" /\ (∀b,Nw a=.ref b->∃ob,s.heap.get? b=some ob/\ob.dict=none)/\(a==Lb)=false:=by rcases d with⟨kvs,e⟩|⟨kvs,e⟩;{obtain⟨_,f,i,_,c⟩:=Js I.hok e;refine⟨c.typeIs,λb q=>?_,f⟩;cases q;obtain⟨ob,_,_,g,h,_⟩:=c;exact⟨ob,g,h.2.1⟩};obtain⟨_,f,j,_,c⟩:=dt_rd I.hok e;refine⟨c.typeIs,λb q=>?_,f⟩;cases q;obtain⟨ob,_,_,g,h,_⟩:=c;exact⟨ob,g,h.2.1⟩
section
variable{X:Cx}{v:List (γ×Obj)}{t:St}{H:Hp}{s:Sh}{a:γ}{y d:V}{u r:V'}{o:Option V}{A:Lp}{E:V'->Sh->Prop}
theorem qbb6(n:A.units+1<cLine)(I:Pb X v t H s)(g:DGet H a y o)(i:O8 y u)(j:O8 d r)(h:∀m s',Pb X v t H s'->O8 (o.getD d) m->Q m s'):Ll (Lm X.prog X.w) A (call (.builtin "dict.get") [.ref a,u,r]) Q E s:=by rcases g with⟨kvs,k,e,ey,l⟩|⟨kvs,k,b,e,ey,eb,l⟩;{subst ey;obtain⟨z,f,q,rel,c⟩:=Js I.hok e;refine call_meetsIn Ol c.typeIs Oq (Oo _ _ _) (meets_dict_get_default (qd2 X.prog X.w) a (Jr i) f r) ⟨_,c.mapOf,h _ _ (I.tok _) ?_⟩;rw[l];exact(rel.val k).getD j};subst ey;cases (show u=Nw b from i);obtain⟨z,f,p,rel,c⟩:=dt_rd I.hok e;refine call_meetsIn Ol c.typeIs Oq (Oo _ _ _) (meetsH_dict_get_default (tupleKind (qd2 X.prog X.w)) a b f r) ⟨tupleKind_room_in1 n,k,p,qaO0 I.hok eb,c,h _ _ (I.tok _) ?_⟩;rw[l];exact(rel.val k).getD j
end
def qaT3(td ty tx:TE):TE:=λb H Q=>td b H λx H1=>∃a,x=.ref a/\IsD H1 a/\ty b H1 λy H2=>tx b H2 λz H3=>∃o,DGet H3 a y o/\Q (o.getD z) H3
section
variable{X:Cx}{o e f:Lr}{M N:Pos}{R S O:TE}
theorem qay2(i:X.A.units+1<cLine)(j:PE X o R)(k:PE X e S)(l:PE X f O)(m:M2 X o "get" M e f N):PE X (.Call (.Attribute o "get" M) [e,f] [] N) (qaT3 R S O):=by
 intro E6 s L H Q I h;refine wpAny_Call_method m.base m.few m.line F.plainAttrs_dict Ol F.type_dict_get (thn (j E6 s L H _ I h) λu n b=>?_);obtain⟨x,H1,I1,p,a,q,d,r⟩:=b;subst q;obtain rfl:u=Nw a:=p;obtain⟨t1,t2,_⟩:=qba0 I1 d;refine⟨t1,t2,?_⟩;rw[m.trees];refine Calls.callWith_builtin rfl (Calls.evalArgs_plain (Calls.spliced_cons (thn (k E6 n L H1 _ I1 r) λC t ⟨y,H2,I2,v,q2⟩=>
  Calls.spliced_cons (thn (l E6 t L H2 _ I2 q2) λD E ⟨z,H3,I3,w,G,g,B⟩=>Calls.spliced_nil ?_))))
 exact qbb6 i I3 g v w λJ K I4 c=>⟨_,H3,I4,c,B⟩
end
end L2
namespace Att
open PySem PySem.W PySem.Calls PyProof.Rows
theorem qz7:∀(ns:List Int)(vs:List V'),WellAll P h vs (ns.map WData.int)->IntsAre vs ns:=by intro ns;induction ns with|nil=>intro vs w;rw[Mj] at w;cases w;exact .nil|cons n ns c=>intro vs w;rw[zAy] at w;cases w with|cons a b=>cases a;exact .cons _ _ (c _ b)
theorem qai8{l:OpenLaw}(m:l.most=some n)(b:l.row.toRowW.claim.pre args=true)(i:WellAll P h vals args):∃a vs ns,vals=[Nw a]/\args=[WData.list (ns.map WData.int)]/\h.get? a=some {cls:=.type "list",data:=.seq vs.toArray}/\IntsAre vs ns/\ns.length<=n:=by
 have j:WShape.hasAll [] args [.list .int]=true:=(pre_splitW b).1;have k:l.pre.holds [] {args:=args}=true:=(pre_splitW b).2;obtain⟨d,r,rfl,o,p⟩:=hasAllW_cons j;obtain rfl:=hasAllW_nil p;obtain⟨x,rfl,s⟩:=hasW_list o;obtain⟨ns,rfl⟩:=items_int s;have c:ns.length<=n:=by
  unfold OpenLaw.pre at k;have f:(WTm.not (.lt (.lit (.int (n:Int))) (.len (.arg 0)))).holds [] {args:=[.list (ns.map .int)]}=true:=by have f:=(holds_andW k).1;rw[m] at f;exact f
  have g:=condW_of f (w_not (w_lt w_lit (w_len_list (w_arg rfl))));rw[zAb] at g;refine Nat.le_of_not_lt λq=>?_;have t:(n:Int)<((ns.length:Nat):Int):=⋯;first
   |(rw[zAo t] at g;exact absurd g ∅)
   |(simp at g;lia)
 cases i with|cons u v=>cases v;cases u with|list w e=>exact⟨_,_,ns,rfl,rfl,w,qz7 ns _ e,c⟩
theorem qaj4(l:OpenLaw)(args:List WData):l.row.toRowW.claim.post args (.bool true) args=true:=postW_of (r:=l.row.toRowW) (X:=(true==true))
 (show WShape.has [] (.bool true) .bool=true by first|rfl|decide|simp[WShape.has,WShape.arms,WShape.armsAll])
 (show (WTm.eq .res (.lit (.bool true))).value [] {args:=args,res:=some (.bool true),after:=args}=some (.bool (true==true)) from w_eq_bool (w_res rfl) w_lit) rfl
theorem qW1{l:OpenLaw}(u:l.most=some n)(h:d.params.defaults=[])(call:∀(w:Lq)(s₀ s₁:Sh)(mg i:Str->Option V')(fa:γ)(o:Obj)(j cd b:V')(a:γ)(vs:List V')(ns:List Int),
 Ground q loose [] XP w s₀ mg i s₁.heap->YP w s₁.heap->s₁.heap.get? fa=some o->o.data=.func (docDef d.name d.params d.body d.scope j cd b)->s₁.heap.CodeRec cd d.name->mg d.name=some (.ref fa)->s₁.heap.get? a=some {cls:=.type "list",data:=.seq vs.toArray}->IntsAre vs ns->ns.length<=n->s₁.gens = #[]->codeAny (Lm l.prog w) callerA (.call (.ref fa) ⟨[.ref a],[]⟩) (λr s'=>r=.ok (.ret (.bool true))/\OldK s₁.heap s'.heap/\s'.os=s₁.os/\AllBare s'.gens) s₁):WalkO q loose XP YP l.row.toRowW d [] (λf vs=>PySem.call f vs):=by intro w s₀ s₁ mg i G Y fa o j cd b v kV x y k s m z args vals I c t A p B;obtain rfl:v=.none:=Dflts.none s h;obtain rfl:kV=.none:=Dflts.noKw s;obtain⟨a,vs,ns,rfl,rfl,e,hints,g⟩:=qai8 u c p;refine enter_call (codeAny_mono (call w s₀ s₁ mg i fa o j cd b a vs ns G Y x (fd_plain y) k m e hints g z) λr s' C=>?_);obtain⟨rfl,D,E,F⟩:=C;exact⟨.inl ⟨.bool true,.bool true,[],rfl,λ_=>rfl,.bool true,qaj4 l _,λ_=>⟨List.Pairwise.nil,λ_ H=>(nomatch H)⟩⟩,D,E,F⟩
end Att
namespace L2
open PySem PySem.Spec PyProof.Rows
theorem qN7:∀{vs:List V'}{ns:List Int},IntsAre vs ns->O9 (ns.map V.int) vs|_,_,.nil=>.nil|_,_,.cons n t h=>.cons ⟨t,rfl⟩ (qN7 h)
def Only(H:Hp):Prop:=∀b,H b=none∨∃o xs,H b=some (.frz o (.l xs))
theorem qaA3{K:Oa}(KX:K.In s₁.heap)(g:s₁.heap.Ns K9 mg)(c:s₁.heap.Ns builtinsNs C)(D:∀x:Str,x ≠ "__name__" -> C x=K5 x)(i:s₁.heap.NoLimit)(T:s₁.gens = #[])(B:s₁.heap.get? a=some {cls:=.type "list",data:=.seq vs.toArray})(hi:IntsAre vs ns)(M:ns.length<=Kx)(U:Room k callerA)(F:∀base:Heap,K.In base->base.Ns K9 mg->Fi P w K mg base CX k fa fd [x] sp)(hbind:∀(s:Sh)(u:V'),BindsTo s fd ⟨[u],[]⟩ [(x,u)])(E:∀H:Hp,Only H->SqL K H a (ns.map V.int)->sp [.ref a] H (λv _=>v=.bl true) λ_ _ _=>False)(G:∀H e s',CX [] H s₁ (λ_ _ _=>False) e s'->False):codeAny (Lm P w) callerA (.call (.ref fa) ⟨[.ref a],[]⟩) (λr s'=>r=.ok (.ret (.bool true))/\OldK s₁.heap s'.heap/\s'.os=s₁.os/\AllBare s'.gens) s₁:=by
 have N:=qN7 hi;have lenV:=hi.length;have core:∀H:Hp,Only H->SqL K H a (ns.map V.int)->HOk P w H s₁.heap->(∀b,H b≠none->b=a)->(H a≠none->K.lookup a=none)->codeAny (Lm P w) callerA (.call (.ref fa) ⟨[.ref a],[]⟩) (λr s'=>r=.ok (.ret (.bool true))/\OldK s₁.heap s'.heap/\s'.os=s₁.os/\AllBare s'.gens) s₁:=by
  intro H O X j Q Y;have base_of:∀{b:γ}{o:Obj},s₁.heap.get? b=some o->H b=none->(Gu s₁.heap H).get? b=some o:=λe n=>qaB1 e n;have I:∀{b:γ}{o:Obj}{l:Array DictEntry}{p:Nat},s₁.heap.get? b=some o->o.data=.dict l p->H b=none:=λ{b o l p} e d=>by cases q:H b with|none=>rfl|some u=>have J:b=a:=Q b (by rw[q];simp);subst J;rw[B] at e;cases e;have Z:Data.seq vs.toArray _=Data.dict l p:=d;cases Z
  have f:∀{b:γ}{m:Str->Option V'},s₁.heap.Ns b m->(Gu s₁.heap H).Ns b m:=λ{b m} ⟨o,l,p,e,d,r⟩=>⟨o,l,p,base_of e (I e d),d,r⟩;have t:K.In (Gu s₁.heap H):=λb o e=>base_of (KX b o e) (by cases q:H b with|none=>rfl|some u=>have J:b=a:=Q b (by rw[q];simp);subst J;rw[Y (by rw[q];simp)] at e;cases e);have hM:Mod K mg (Gu s₁.heap H):=⟨t,f g,⟨C,f c,D⟩,let ⟨mc,h1,h2⟩:=i;⟨mc,f h1,h2⟩⟩;have e0:Env0 P w K mg (Gu s₁.heap H) callerA [] s₁ H:=⟨rfl,hM,λb o e=>qaM3 e,zC0 (qal7 _ _),trivial,λb c=>absurd (show b∈([]:List γ) from c) (by simp),j,.of_eq T⟩;refine codeAny_mono ((F _ t (f g)).run callerA [] s₁ H ⟨[.ref a],[]⟩ [.ref a] [.ref a] _ _ U e0 (hbind s₁ (.ref a)) (.cons rfl .nil) (E H O X)) λr s' h=>?_;cases r with|error e=>exact(G H e s' h).elim|ok fl=>cases fl with|next=>exact Oz h|brk=>exact Oz h|cont=>exact Oz h|ret u=>obtain⟨v,H',os,bare,R,y,r',q⟩:=h;have q':v=.bl true:=q;subst q';obtain rfl:u=N1 true:=r';refine⟨rfl,OldK.of_keep λb o e=>?_,os,bare⟩;cases q:H b with|none=>exact R.keep b o e q (by intro z;exact absurd (show b∈([]:List γ) from z) (by simp)) (by simp)|some u=>rcases O b with z|⟨ob,xs,z⟩;{rw[q] at z;cases z};have z2:=R.frzs b ob _ z;obtain⟨S,_⟩:=j b _ z;obtain⟨e2,_⟩:=y b _ z2;rw[e] at S;cases S;exact e2
 cases L:K.lookup a with|some o=>have e:=KX a o L;rw[B] at e;cases e;refine core (λ_=>none) (λ_=>.inl rfl) (.inr ⟨_,vs.toArray,_,L,rfl,rfl,rfl,by rw[zA5,lenV];exact M,by simpa using N⟩) (λb u z=>by have A:(none:Option HO)=some u:=z;cases A) (λb z=>absurd rfl z) λz=>absurd rfl z|none=>refine core (λb=>if b=a then some (.frz {cls:=.type "list",data:=.seq vs.toArray} (.l (ns.map V.int))) else none) (λb=>?_) (.inl (.inr ⟨{cls:=.type "list",data:=.seq vs.toArray},if_pos rfl⟩)) (λb u z=>?_) (λb z=>?_) λ_=>L;{by_cases c:b=a;{exact .inr ⟨_,_,if_pos c⟩};exact .inl (if_neg c)};{by_cases c:b=a;{have A:=(if_pos c).symm.trans z;cases A;subst c;exact⟨B,by rw[zAb];exact M,vs,_,N,B⟩};have A:=(if_neg c).symm.trans z;cases A};by_cases c:b=a;{exact c};exact absurd (if_neg c) z
theorem qaF1{l:W.OpenLaw}{K:Params->Oa}{CX:Lq->CXT}{sp:Lq->Sp}(y:l.most=some n)(j:n<=Kx)(m:d.params.defaults=[])(z:Room k callerA)(A:∀(w:Lq)(h:Heap),YP w h->(K w.params).In h)(F:∀(w:Lq)(mg:Str->Option V')(fa:γ)(h:Heap),(K w.params).In h->h.Ns K9 mg->mg d.name=some (.ref fa)->∃fd:δ,(∀(s:Sh)(u:V'),BindsTo s fd ⟨[u],[]⟩ [(x,u)])/\∀base:Heap,(K w.params).In base->base.Ns K9 mg->Fi l.prog w (K w.params) mg base (CX w) k fa fd [x] (sp w))(p:∀(w:Lq)(H:Hp)(a:γ)(ns:List Int),ns.length<=n->Only H->SqL (K w.params) H a (ns.map V.int)->sp w [.ref a] H (λv _=>v=.bl true) λ_ _ _=>False)(r:∀(w:Lq)(H:Hp)(s:Sh)(e:V')(s':Sh),CX w [] H s (λ_ _ _=>False) e s'->False):W.WalkO q loose XP YP l.row.toRowW d [] (λf vs=>PySem.call f vs):=by refine Att.qW1 y m λw s₀ s₁ mg M fa o N O B a vs ns G Y P Q C t i hints c D=>?_;have KX:=A w _ Y;obtain⟨fd,E,I⟩:=F w mg fa _ KX G.T.g t;exact qaA3 KX G.T.g G.T.b G.T.builtins G.T.nolimit D i hints (zAg c j) z I E (λH J L=>p w H a ns c J L) λH e s'=>r w H s₁ e s'
end L2
/- THE LAST THEOREM (shape;LID,My.* are yours):My.Adr: a structure of the addresses that your layer names (classes,functions);My.Txt K t: a structure (Prop) of the equations over K;
 My.txt_mk:{K} {implicit addresses ..} (e1:nsIn K K9 "law"=some (some (.ref f))) (e2:K.lookup f=some ⟨oc,od,.func (fnOf "law" "law" params body scope dV kV doc pm an cdv ct),sl⟩) (e3:codeIn K cdv "law"=true) .. : ∃t,My.Txt K t
(the tactic k_is has no namespace: write k_is) -/
namespace L2
open PySem PySem.Spec PyProof.Rows
variable{f:γ}{qual x:Str}{st:Ls}
noncomputable def qk4(s:Ls)(j:Nat):Ls:=match s with|.ClassDef _ _ _ body _ _ _ _ _ _ _=>body.getD j (.Pass ⟨0,0,0,0⟩)|_=>.Pass ⟨0,0,0,0⟩
noncomputable def qe9(s:Ls):Arguments:=match s with|.FunctionDef _ a _ _ _ _ _ _ _ _=>a|_=>{posonlyargs:=[],args:=[],vararg:=none,kwonlyargs:=[],kw_defaults:=[],kwarg:=none,defaults:=[]}
noncomputable def qd0(s:Ls):List Ls:=match s with|.FunctionDef _ _ b _ _ _ _ _ _ _=>b|_=>[]
noncomputable def qa3(s:Ls):Scope:=match s with|.FunctionDef _ _ _ _ _ _ sc _ _ _=>sc|_=>{kind:=.function,names:=[],isGenerator:=false,isCoroutine:=false}
abbrev CX0:CXT:=λ_ _ _ _ _ _=>False
abbrev E0:XK:=λ_ _ _=>False
theorem pass0:qH2 CX0 X (λ_=>E0):=λ_ _ _ _ _ _ _ h=>h.elim
structure Fun(K:Oa)(x qual:Str)(st:Ls)(f:γ)(fd:δ):Prop where
 ex:∃(oc:V')(od:Option γ)(kV doc pm:V')(an:Option γ)(cdv ct:V')(osl:Array (Option V')),
  fd=W.fnOf x qual (qe9 st) (qd0 st) (qa3 st) .none kV doc pm an cdv ct/\K.lookup f=some ⟨oc,od,.func fd,osl⟩/\W.codeIn K cdv qual=true
 kp:W.keepIn K (.ref f)=true
section
variable{P:Ln}{w:Lq}{K:Oa}{r:Str->Option V'}{p:Heap}
theorem Fun.ok(F:Fun K x qual st f fd)(S:qa8 N ps (qa3 st))(len:∀vs H Q E,sp vs H Q E->vs.length=ps.length)(hbody:∀(a:V')(A:Lp)(outer:List Env)(s:Sh)(H:Hp)(vs:List V)(Q:VK)(E:XK),Room k (A.deeper (envOfC qual (qa3 st) s.heap.objs.size f a))->sp vs H Q E->∃t,PSs (E8 true CX0 P w K r p N qual (qa3 st) f a A outer s H E).nox (qd0 st) t/\t {nx:=λ_ H'=>Q .non H',rt:=Q} (start N vs) H):Fi P w K r p CX0 (k+1) f fd ps sp:=by obtain⟨j,l,kV,d,m,n,a,o,e,rfl,g,b⟩:=F.ex;refine Jo g b S len λA outer s H vs Q E i c=>?_;obtain⟨t,h,q⟩:=hbody a A outer s H vs Q E i c;exact⟨t,h.nox,q⟩
theorem Fun.binds(F:Fun K x qual st f fd)(h:∀(kV a c:V')(d:Option γ)(b e:V')(us:List V'),us.length=ps.length->bindArgs (W.fnOf x qual (qe9 st) (qd0 st) (qa3 st) .none kV a c d b e) ⟨us,[]⟩=pure (ps.zip us)):Binds K fd ps []:=by obtain⟨j,k,kV,a,c,d,b,e,g,rfl,l,i⟩:=F.ex;exact .all (h kV a c d b e)
theorem qal9{kV:V'}(l:K.lookup f=some ⟨oc,od,.func (W.fnOf x qual (qe9 st) (qd0 st) (qa3 st) .none kV b g e a h),d⟩)(c:W.codeIn K a qual=true)(k:W.keepIn K (.ref f)=true):Fun K x qual st f (W.fnOf x qual (qe9 st) (qd0 st) (qa3 st) .none kV b g e a h):=⟨⟨oc,od,kV,b,g,e,a,h,d,rfl,l,c⟩,k⟩
end
theorem hu_of{A:Lp}(a:Room k A):A.units+1<cLine:=zCa (Nat.add_le_add_left (by decide:1<=64) _) a.units
theorem qai7(h:n<=1000):n<Kx:=zCa h ∅
section
variable{X:Cx}
theorem pv(i:Nat)(b:X.N[i]?=some x:=by rfl)(c:Vis X.env.scope x:=by first|exact O1 rfl|exact O0 (O1 rfl)|exact O0 (O0 rfl))(d:N' x:=by decide)(a:(x==("__classdict__" : Str))=false:=by decide):PE X (.Name x pos) (F5 i):=ql3 b c d a
theorem qao4:CallR X (.builtin "len") (λxs H Q=>∃a kvs,xs=[V.ref a]/\H a=some (.dK kvs)/\Q (.int kvs.length) H):=by intro E6 s f H xs d Q I r h;obtain⟨a,kvs,rfl,b,q⟩:=h;obtain⟨u,rfl,c⟩:=Ea r;cases c;exact d_len I (.inl b) λt e I'=>⟨.int kvs.length,H,I',⟨t,rfl⟩,q⟩
end
def Same(H H':Hp):Prop:=∀b o,H b=some o->H' b=some o
theorem Same.trans(a:Same H H1)(b:Same H1 H2):Same H H2:=λc o h=>b c o (a c o h)
end L2
set_option maxHeartbeats 4000000
namespace L2
open PySem PySem.Spec PyProof.Rows
variable{H:Hp}{a:γ}{e:Lr}{es:List Lr}{i:Int}{p:Pos}{t:TA}{x:Str}{xs:List V}{α:Type}
theorem I9{t:Sem α}(h:Ll M A t Q (λ_ _=>False) s)(b:∀a s,Q a s->Q' a s):Ll M A t Q' E s:=Ld h b λ_ _ x=>x.elim
noncomputable def Fk(env:Env):List (Str×NameKind)->List (Str×γ)->List (Str×γ)|[],acc=>acc|(n,k)::r,acc=>Fk env r (if k==Ox then (n,(env.cells.lookup n).getD 0)::acc else acc)
theorem qy3{env:Env}:∀(l:List (Str×NameKind))(acc:List (Str×γ)),(∀x∈l,x.2=Ox->∃c,env.cells.lookup x.1=some c)->(forIn l acc λ(x:Str×NameKind)(r:List (Str×γ))=>
     (match x with
     |(name,kind)=>if (kind==Ox)=true then (do let c<-cellOf env name;pure (ForInStep.yield ((name,c)::r)):Sem (ForInStep (List (Str×γ)))) else pure (ForInStep.yield r)))=(pure (Fk env l acc):Sem _)
 |[],acc,_=>rfl
 |(n,k)::r,acc,h=>by
   rw[M4];by_cases a:(k==Ox)=true
   . obtain⟨c,b⟩:=h (n,k) zA9 (by simpa using a)
     have b:=b;dsimp only;rw[if_pos a];have e:cellOf env n=pure c:=by unfold cellOf;rw[b]
     rw[e];show (forIn r ((n,c)::acc) _:Sem _)=_;rw[qy3 r ((n,c)::acc) λx d=>h x (zA4 _ d)];show _=(pure (Fk env r (if (k==Ox)=true then (n,(env.cells.lookup n).getD 0)::acc else acc)):Sem _)
     rw[if_pos a,b];rfl
   dsimp only;rw[if_neg a];show (forIn r acc _:Sem _)=_;rw[qy3 r acc λx d=>h x (zA4 _ d)];show _=(pure (Fk env r (if (k==Ox)=true then (n,(env.cells.lookup n).getD 0)::acc else acc)):Sem _)
   rw[if_neg a]
theorem qG9(h:∀x∈sc.names,x.2=Ox->∃c,env.cells.lookup x.1=some c):closureFor sc env=pure (Fk env sc.names []):=by unfold closureFor;show (forIn sc.names [] _ >>= _)=_;have:=qy3 sc.names [] h;rw[show (forIn sc.names ([]:List (Str×γ)) _:Sem _)=pure (Fk env sc.names []) from this];rfl
theorem qaf5{env:Env}:∀(l:List (Str×NameKind))(acc:List (Str×γ))(x:Str)(c:γ),(x,c)∈Fk env l acc->(x,c)∈acc∨((x,Ox)∈l/\c=(env.cells.lookup x).getD 0)|[],acc,x,c,h=>.inl h|(n,k)::r,acc,x,c,h=>by rcases qaf5 r _ x c h with h|⟨h,e⟩;{by_cases a:(k==Ox)=true;{rw[if_pos a] at h;rcases zAa.mp h with h|h;{cases h;exact .inr ⟨by rw[show k=Ox by simpa using a];exact zA9,rfl⟩};exact .inl h};rw[if_neg a] at h;exact .inl h};exact .inr ⟨zA4 _ h,e⟩
theorem qaf6{env:Env}:∀(l:List (Str×NameKind))(acc:List (Str×γ))(x:Str),(∃c,(x,c)∈acc)->∃c,(x,c)∈Fk env l acc|[],acc,x,h=>h|(n,k)::r,acc,x,⟨c,h⟩=>qaf6 r _ x ⟨c,by split;exact zA4 _ h;exact h⟩
theorem qN0{env:Env}:∀(l:List (Str×NameKind))(acc:List (Str×γ))(x:Str),(x,Ox)∈l->∃c,(x,c)∈Fk env l acc|[],acc,x,h=>by simp at h|(n,k)::r,acc,x,h=>by rcases zAa.mp h with h|h;{cases h;exact qaf6 r _ _ ⟨_,by rw[if_pos (by rfl)];exact zA9⟩};exact qN0 r _ x h
theorem qx3{α:Type}:∀{l:List (Str×α)}{x:Str},(∃c,(x,c)∈l)->∃c,l.lookup x=some c|[],x,⟨c,h⟩=>by simp at h|(n,a)::r,x,⟨c,h⟩=>by cases b:x==n with|true=>exact⟨a,by simp only[zAp,b]⟩|false=>rcases zAa.mp h with h|h;{cases h;simp at b};obtain⟨d,e⟩:=qx3 ⟨c,h⟩;exact⟨d,by simp only[zAp,b];exact e⟩
noncomputable def Eg(a:St)(src:List (Option Nat)):St:=src.map λo=>match o with|none=>none|some j=>(a[j]?).getD none
noncomputable def qp7(X:Cx)(NY:List Str)(src:List (Option Nat))(sc:Scope):Bool:=(sc.kind==.function)&&(src.length==NY.length) &&
 (sc.names.all λx=>x.2 != .cell&&(x.2 != .local||sc.names.lookup x.1==some .local)&&(x.2 != .free||(X.env.scope.names.lookup x.1==some .cell||X.env.scope.names.lookup x.1==some .free))) &&
 ((NY.zip src).all λp=>match p.2 with|none=>true|some j=>X.N[j]?==some p.1&&sc.names.lookup p.1==some .free)
def qj2(X:Cx)(NY:List Str)(sc:Scope)(C:γ)(a:Sh)(H0:Hp)(ex:List γ):Cx where
 prog:=X.prog
 w:=X.w
 K:=X.K
 mg:=X.mg
 base:=X.base
 A:=X.A
 N:=NY
 s₀:=a
 H₀:=H0
 env:=compEnvC sc (Fk X.env sc.names []) C X.env
 outer:=X.stack
 stack:=X.stack
 ex:=ex
 fn:=λ_=>false
 calm:=X.calm
 pn:=[]
 xe:=λ_ _=>False
def PFs(X:Cx)(ifs:List Lr)(t:TT):Prop:=∀(E6:List (γ×Obj))(s:Sh)(b:St)(H:Hp)(Q:Bool->Hp->Prop),Pb X E6 b H s->t b H Q->Ll (Lm X.prog X.w) X.A (forIn ifs true λc r=>if r=true then do let a<-isTrue c X.env (eval c X.env);pure (ForInStep.yield a) else pure (ForInStep.yield r)) (TP X E6 b Q) X.xe s
def tYes:TT:=λ_ H Q=>Q true H
theorem qaK0:PFs X [] tYes:=λ_ _ _ H _ I h=>wpAny_tests_nil ⟨H,I,h⟩
theorem qaV9{t:TT}(h:PT X c t):PFs X [c] t:=λE6 s a H Q I q=>wpAny_tests_one (h E6 s a H Q I q)
theorem qn7(I:Nat->Sh->Prop)(turn:∀n s,I n s->Ll (Lm prog w) A (pyNext it) (λr s₁=>match r with
     |none=>R (.ok .next) s₁
     |some v=>Ll (Lm prog w) A (letOwnedTupleGo target it v) (λ_ s₁'=>Ll (Lm prog w) A (assign target env v) (λ_ s₂=>
         Ll (Lm prog w) A (forIn ifs true λc r=>if r=true then do let a<-isTrue c env (eval c env);pure (ForInStep.yield a) else pure (ForInStep.yield r)) (λa s₃=>
           if a=true then Ll (Lm prog w) A (eval elt env) (λx s₄=>
             Ll (Lm prog w) A (call (.builtin "list.append") [acc,x]) (λ_ s₅=>∃m,m<n/\I m s₅) (λ_ _=>False) s₄) (λ_ _=>False) s₃
           else ∃m,m<n/\I m s₃) (λ_ _=>False) s₂) (λ_ _=>False) s₁') (λ_ _=>False) s₁) (λ_ _=>False) s)(n:Nat)(h:I n s):codeAny (Lm prog w) A (.compLoop (.ListComp elt [⟨target,iter,ifs,0⟩] scope pos) 0 it acc env) R s:=by
 refine codeAny_loop rfl I (λn s b=>?_) n h;show Ll _ A ((compTurn (.ListComp elt [⟨target,iter,ifs,0⟩] scope pos) 0 it acc env).onRaise (λx=>do noteFrame x env;theTreesLotGoes x)) _ _ s;refine wpAny_noted ?_;rw[compTurn_list];refine J' (wpAny_standAt (J' (I9 (turn n s b) λr s₁ h₁=>?_)));cases r with
 |none=>exact Kv h₁
 |some v=>
   refine J' (I9 h₁ λ_ s₁' h₁'=>?_);refine J' (I9 h₁' λ_ s₂ h₂=>J' (I9 h₂ λa s₃ h₃=>?_));cases a with
   |false=>exact Kv ⟨rfl,h₃⟩
   |true=>
     exact J' (J' (I9 h₃ λx s₄ h₄=>J' (I9 h₄ λ_ s₅ h₅=>Kv (Kv ⟨rfl,h₅⟩))))
def qq1(J:It)(g:TG)(tf:TT)(te:TE)(D:γ)(R:Hp->Prop)(σ0:St)(H0:Hp):Prop:=∃W:Nat->Nat->St->Hp->Prop,(∃m,W 0 m σ0 H0)/\∀i m c H,W i m c H->(J.stop i H/\R H)∨(J.go i H/\∃N:St->Hp->Prop,(∀c' H',N c' H'->∃a,a<m/\W (i+1) a c' H')/\∀x H',J.yld i H x H'->g x c H' λσ2 H2=>tf σ2 H2 λb H3=>
     if b=true then te σ2 H3 λv H4=>∃xs,H4 D=some (.l xs)/\xs.length<Kx/\N σ2 (upd H4 D (.l (xs++[v]))) else N σ2 H3)
theorem qo5{env:Env}{x:Str}:∀{names:List (Str×NameKind)},(∀y∈names,y.2≠.cell)->((names.map λ(n,k)=>if (k==Ox&&env.scope.kind==.function&&env.kindOf n==some .cell) then (n,Oy) else (n,k)).lookup x=some .cell∨(names.map λ(n,k)=>if (k==Ox&&env.scope.kind==.function&&env.kindOf n==some .cell) then (n,Oy) else (n,k)).lookup x=some .free)->names.lookup x=some .free
 |[],_,h=>by simp at h|(n,k)::r,hc,h=>by
  have c:=@qo5 env x r λy d=>hc y (zA4 _ d);simp only[zAy] at h;cases b:x==n with
  |true=>
   simp only[zAp,b];by_cases a:(k==Ox&&env.scope.kind==.function&&env.kindOf n==some .cell)=true
   .have:k=Ox:=by simp only[zB0,zBj] at a;exact a.1.1
    rw[this]
   rw[if_neg a] at h;simp only[zAp,b] at h;rcases h with h|h;{exact absurd (N8 h) (hc (n,k) zA9)};exact h
  |false=>simp only[zAp,b];apply c;by_cases a:(k==Ox&&env.scope.kind==.function&&env.kindOf n==some .cell)=true;{rw[if_pos a] at h;simpa only[zAp,b] using h};rw[if_neg a] at h;simpa only[zAp,b] using h
theorem qh9{env:Env}{x:Str}:∀{names:List (Str×NameKind)},names.lookup x=some .free->((names.map λ(n,k)=>if (k==Ox&&env.scope.kind==.function&&env.kindOf n==some .cell) then (n,Oy) else (n,k)).lookup x=some .cell∨(names.map λ(n,k)=>if (k==Ox&&env.scope.kind==.function&&env.kindOf n==some .cell) then (n,Oy) else (n,k)).lookup x=some .free)|[],h=>by simp at h|(n,k)::r,h=>by have c:=@qh9 env x r;simp only[zAy];cases a:x==n with|true=>simp only[zAp,a] at h;have h:=N8 h;by_cases b:(k==Ox&&env.scope.kind==.function&&env.kindOf n==some .cell)=true;{rw[if_pos b];simp only[zAp,a];exact .inl trivial};rw[if_neg b];simp only[zAp,a];rw[h];exact .inr rfl|false=>simp only[zAp,a] at h;by_cases b:(k==Ox&&env.scope.kind==.function&&env.kindOf n==some .cell)=true;{rw[if_pos b];simp only[zAp,a];exact c h};rw[if_neg b];simp only[zAp,a];exact c h
section
variable{X:Cx}{E6:List (γ×Obj)}{σ:St}{H2:Hp}{s2:Sh}{elt tg iter:Lr}{ifs:List Lr}{sc:Scope}{pos:Pos}{NY:List Str}{src:List (Option Nat)}{J:It}{fp:List γ}{it:γ}{tn:Nat->Heap->Prop}{g:TG}{tf:TT}{te:TE}
theorem qS0{R:γ->Hp->Prop}{RR:V'->γ->Result->Sh->Prop}(ck:qp7 X NY src sc=true)(hc:X.calm=true)(I2:Pb X E6 σ H2 s2)(T:I8 X.prog X.w X.K tg J fp it tn)(I:tn 0 s2.heap)(f2:∀b∈fp,Gv X E6 H2 b)(hg:∀C P H0,PG (qj2 X NY sc C P H0 fp) tg g)(hf:∀C P H0,PFs (qj2 X NY sc C P H0 fp) ifs tf)(he:∀C P H0,PE (qj2 X NY sc C P H0 fp) elt te)(rd:∀D,H2 D=none->qq1 J g tf te D (R D) (Eg σ src) (upd H2 D (.l [])))(fin:∀D C H' s',Pb X E6 σ H' s'->R D H'->H' C=none->X.s₀.heap.objs.size<=C->C≠X.env.locals->(∀x c,X.env.cells.lookup x=some c->c≠C)->(∀p∈X.pn++E6,p.1≠C)->C∉X.fs->(∃m,s'.heap.Ns C m)->RR (.ref D) C (.ok .next) s'):Ll (Lm X.prog X.w) X.A (newList []) (λacc s₃=>Ll (Lm X.prog X.w) X.A (newFunctionEnv sc X.env.globals (Fk X.env sc.names []) [] X.env.qual none .none (some X.env)) (λcenv s₄=>
 codeAny (Lm X.prog X.w) X.A (.compStart (.ListComp elt [⟨tg,iter,ifs,0⟩] sc pos) 0 (.ref it) acc {cenv with scope:=relabel sc X.env}) (RR acc cenv.locals) s₄) E s₃) E s2:=by
 unfold qp7 at ck;simp only[zB0,zBj,zBl] at ck;obtain⟨⟨⟨hkind,G⟩,Q⟩,S⟩:=ck;have hcell:∀y∈sc.names,y.2≠.cell:=λy U e=>by have:=(Q y U).1.1;rw[e] at this;exact absurd this ∅
 have hfree:∀y∈sc.names,y.2=.free->(X.env.kindOf y.1=some .cell∨X.env.kindOf y.1=some .free):=λy U e=>by have:=(Q y U).2;rw[e] at this;show X.env.scope.names.lookup y.1=some .cell∨X.env.scope.names.lookup y.1=some .free;simpa using this
 have clsub:∀x c,(Fk X.env sc.names []).lookup x=some c->X.env.cells.lookup x=some c:=λx c e=>by rcases qaf5 _ _ x c (PySem.mem_of_lookup e) with h|⟨h,q⟩;{simp at h};obtain⟨d,M⟩:=I2.ok.has x (hfree _ h rfl);rw[M] at q;rw[M,q];rfl
 refine wpAny_newObj_type (wpAny_newFunctionEnv hcell (by intro y U;simp at U) (λh₁ hns₁ hsb₁=>?_) hkind);dsimp only at hns₁ hsb₁ ⊢;have I3:=I2.lnew (ys:=[]) (its:=[]) (t':=s2.toks) .nil (zBi _);have hD:H2 s2.heap.objs.size=none:=I2.fresh;generalize t:s2.heap.objs.size=D at hns₁ hsb₁ I3 hD ⊢;generalize V:s2.heap.push {cls:=.type "list",dict:=none,data:=.seq ([]:List V').toArray}=h3 at hns₁ hsb₁ I3 ⊢;have Z:h3.objs.size=D+1:=by rw[<-V,zC1,t]
 generalize s:h3.objs.size=C at hns₁ hsb₁ Z ⊢;have I3:Pb X E6 σ (upd H2 D (.l [])) {s2 with heap:=h3,toks:=s2.toks}:=I3;have B:∀b o,h3.get? b=some o->h₁.get? b=some o:=λb o e=>hsb₁.extBut b o (by rw[<-s];exact zAi (zA7 e)) (zA2 _ e);have a0:∀b o,h3.get? b=some o->b≠C:=λb o e=>by rw[<-s];exact zAi (zA7 e)
 have a1:X.env.locals≠C:=by rw[<-s];exact zAi I3.lt
 have b0:∀x c,X.env.cells.lookup x=some c->c≠C:=λx c e=>by obtain⟨v,o,F,_⟩:=I3.cell x c e;exact a0 c o F
 have a2:∀b∈fp,b≠C:=λb f=>by obtain⟨o,F,_⟩:=T.obj _ _ I b f;have:=zA7 F;rw[t] at this;exact zAi (Nat.lt_trans this (by rw[Z];exact Nat.lt_succ_self _))
 have b1:∀b∈fp,b≠D:=λb f=>by obtain⟨o,F,_⟩:=T.obj _ _ I b f;have:=zA7 F;rw[t] at this;exact zAi this
 have a3:∀b o,s2.heap.get? b=some o->h3.get? b=some o:=λb o e=>by rw[<-V];exact zA2 _ e
 have pinC:∀p∈X.pn++E6,p.1≠C:=λp hp=>a0 _ _ (I3.pin p hp).1;have a4:C∉X.fs:=by rw[<-s];exact I3.nofs (zA3 _)
 have b2:X.s₀.heap.objs.size<=C:=by rw[<-s];exact I3.sz
 have stkC:∀b∈frs X.stack,b≠C:=λb f e=>by rcases zAa.mp (I3.stkSub b f) with z|z;{exact a1 (z.symm.trans e)};exact a4 (e ▸ z)
 have HC:upd H2 D (.l []) C=none:=I3.hok.fresh (by show h3.objs.size<=C;exact zC0 s);have a5:∀b∈fp,b∉frs X.stack:=λb f z=>by obtain⟨_,h1,h2,_⟩:=f2 b f;rcases zAa.mp (I2.stkSub b z) with q|q;{exact h1 q};exact h2 q
 let Y:Cx:=qj2 X NY sc C {s2 with heap:=h3} (upd H2 D (.l [])) fp;have a6:(Eg σ src).length=NY.length:=by unfold Eg;rw[zAb];exact G
 have IY:Pb Y [] (Eg σ src) (upd H2 D (.l [])) {s2 with heap:=h₁,toks:=s2.toks+0}:=by
  refine⟨⟨I2.ok.mod,hkind,I2.ok.glob,I2.ok.blt,(by show h3.objs.size<=C;exact zC0 s),λx y c h1 h2=>I2.ok.inj x y c (clsub x c h1) (clsub y c h2),λx hx=>?_,λ_ _ z _=>(zAs z).elim,I2.ok.hd,I2.ok.frames,.inl rfl,λb f=>⟨a2 b f,λx c e=>(f2 b f).2.2.2.2.1 x c (clsub x c e)⟩,
   λb o e=>?_,?_,λb o e f=>?_,λb f=>a5 b f,?_,λb f=>?_⟩,rfl,I2.bare,Un.kept B,⟨_,hns₁,λi x v e1 e2 e3=>?_⟩,λx c e=>?_,HC,λx c e=>I3.freeC x c (clsub x c e),λp hp=>absurd (show p∈([]:List (γ×Obj)) from hp) (by simp),I3.hok.kept B,a6⟩
  {have hx:=qo5 hcell hx;exact qx3 (qN0 _ _ _ (PySem.mem_of_lookup hx))};{exact I3.bs b o e};{exact zAg I2.ok.bsz (zAg (zAg I2.sz (by rw[t];exact zA3 _)) (by show D<=h3.objs.size;lia))};{rcases (f2 b f).2.2.2.1 with z|z;{exact I2.ok.noex b o e z};exact absurd (zAc (zA7 (I2.ok.bs b o e).1) z) (zC8 _)};{exact I3.stack};{exact I3.stkFree b f}
  .have hi:i<src.length:=by have:=(zA6.mp e2).1;rw[a6,<-G] at this;exact this
   have e1:NY[i]?=some x:=e1;have es:src[i]?=some src[i]:=by simp[hi]
   have ep:(Eg σ src)[i]?=some (match src[i] with|none=>none|some j=>(σ[j]?).getD none):=by unfold Eg;rw[zAt,es];rfl
   rw[ep] at e2;cases hj:src[i] with
   |none=>rw[hj] at e2;cases e2|some j=>
    rw[hj] at e2;have e2:(σ[j]?).getD none=some v:=N8 e2;have ej:σ[j]?=some (some v):=by cases q:σ[j]? with|none=>rw[q] at e2;cases e2|some o=>rw[q] at e2;rw[show o=some v from e2]
    have hm:(x,some j)∈NY.zip src:=by
     have:(NY.zip src)[i]?=some (x,some j):=by rw[List.getElem?_zip_eq_some];exact⟨e1,by rw[es,hj]⟩
     exact zAw this
    have q:=S _ hm;simp only[zB0,zBj] at q;obtain⟨qN,qf⟩:=q;have H:=hfree _ (PySem.mem_of_lookup qf) rfl;obtain⟨m,hn,hl⟩:=I3.loc;obtain⟨u,r,l⟩:=hl j x v qN ej (H.elim (λz=>.inr (.inl z)) λz=>.inr (.inr z));refine⟨u,r,.inr ⟨qh9 qf,?_⟩⟩;rcases l with⟨z,_⟩|⟨_,c,ec,o,F,M⟩;{have H:X.env.kindOf x=some .cell∨X.env.kindOf x=some .free:=H;rw[z] at H;rcases H with H|H<;>cases H};obtain⟨c',a7⟩:=qx3 (qN0 (env:=X.env) sc.names [] x (PySem.mem_of_lookup qf));have:=clsub x c' a7;rw[ec] at this;cases this;exact⟨c,a7,o,B c o F,M⟩
  obtain⟨v,o,F,M⟩:=I3.cell x c (clsub x c e);exact⟨v,o,B c o F,M⟩
 have st₁:tn 0 h₁:=T.keep _ _ _ I λb f o e=>B b o (a3 b o e);have stat:∀{H':Hp},(∀b∈fp,H' b=none)->∀b∈fp,Gv Y [] H' b:=λhn b f=>by refine⟨hn b f,a2 b f,a5 b f,.inl f,λx c e=>(f2 b f).2.2.2.2.1 x c (clsub x c e),λp hp=>absurd (show p∈([]:List (γ×Obj)) from hp) (by simp)⟩
 have loop:codeAny (Lm X.prog X.w) X.A (.compLoop (.ListComp elt [⟨tg,iter,ifs,0⟩] sc pos) 0 (.ref it) (.ref D) Y.env) (RR (.ref D) C) {s2 with heap:=h₁,toks:=s2.toks+0}:=by
  obtain⟨W,⟨m0,w0⟩,turn⟩:=rd D hD;refine qn7 (λn s'=>∃i σ' H',Pb Y [] σ' H' s'/\tn i s'.heap/\(∀b∈fp,H' b=none)/\W i n σ' H') ?_ m0 ⟨0,_,_,IY,st₁,λb f=>by rw[qb4 (b1 b f)];exact(f2 b f).1,w0⟩;rintro n s3 ⟨i,σ3,H3,J3,a8,a9,w3⟩;rcases turn i n σ3 H3 w3 with⟨stop,qn⟩|⟨go,N,hN,step⟩;{refine thn (T.done Y rfl rfl rfl hc i [] s3 σ3 H3 _ J3 (stat a9) a8 stop) λr s4 k=>?_;obtain⟨hr,J4⟩:=k;subst hr;have b3:H3 C=none:=J4.free;refine fin D C H3 s4 ?_ qn b3 b2 (Ne.symm a1) b0 pinC a4 (let ⟨m,hn,_⟩:=J4.loc;⟨m,hn⟩);refine I2.call' (ch:=fp) J4.os ?_ J4.hok J4.bare λb f=>?_;{have u1:Un (frs X.stack) fp H2 (upd H2 D (.l [])) s2.heap h3:=Un.laid a3 (zC0 t) hD;exact u1.trans J4.base};obtain⟨_,h1,_,b4,h4,h5⟩:=f2 b f;exact⟨b4,h1,h4,h5⟩};refine thn (T.item Y rfl rfl rfl hc i [] s3 σ3 H3 _ J3 (stat a9) a8 go) λr s4 k=>?_;obtain⟨u,hr,h4⟩:=k;subst hr;refine thn h4 λ_ s5 k=>?_;obtain⟨x,H5,J5,r5,y5,L,b5⟩:=k;have J5':=J5.pinned (stat b5) (T.obj _ _ L);have again:∀{σ7:St}{H7:Hp}{O:Sh},Pb Y ([]++Ji fp s5.heap) σ7 H7 O->N σ7 H7->∃m,m<n/\∃i σ' H',Pb Y [] σ' H' O/\tn i O.heap/\(∀b∈fp,H' b=none)/\W i m σ' H':=λ{σ7 H7 O} I7 n7=>by obtain⟨m',hm,w7⟩:=hN σ7 H7 n7;refine⟨m',hm,i+1,σ7,H7,I7.unpinned,T.keep _ _ _ L λb f o e=>(I7.pin (b,o) (zAz _ (zAz _ (qo4 f e)))).1,λb f=>?_,w7⟩;obtain⟨o,e,d⟩:=T.obj _ _ L b f;exact(I7.pin (b,o) (zAz _ (zAz _ (qo4 f e)))).2.1
  refine thn (hg C _ _ _ s5 σ3 H5 x u _ J5' r5 (step x H5 y5)) λ_ s6 k=>?_;obtain⟨σ6,H6,J6,q6⟩:=k;refine thn (hf C _ _ _ s6 σ6 H6 _ J6 q6) λok O k=>?_;obtain⟨H7,J7,q7⟩:=k;cases ok with|false=>exact again J7 (by simpa using q7)|true=>rw[if_pos rfl] at q7 ⊢;refine thn (he C _ _ _ O σ6 H7 _ J7 q7) λy s8 k=>?_;obtain⟨v,H8,J8,r8,xs,b6,b7,q8⟩:=k;refine thn (qh0 (X:=Y) _ s8 σ6 H8 (.ref D) [v] (.ref D) [y] (λ_ H'=>N σ6 H') J8 rfl (.cons r8 .nil) ⟨D,xs,v,rfl,rfl,b6,b7,q8⟩) λ_ s9 k=>?_;obtain⟨_,H9,J9,_,q9⟩:=k;exact again J9 q9
 exact codeAny_compStart_list loop (T.self _ 0 _ _ _ st₁ loop)
end
def Ep(wi:TI)(src:List (Option Nat))(g:TG)(tf:TT)(te:TE):TE:=λa H Q=>wi a H λJ H1=>∀D,H1 D=none->qq1 J g tf te D (λH'=>Q (.ref D) H') (Eg a src) (upd H1 D (.l []))
section
variable{X:Cx}{elt tg iter:Lr}{ifs:List Lr}{sc:Scope}{pos:Pos}{NY:List Str}{src:List (Option Nat)}{wi:TI}{g:TG}{tf:TT}{te:TE}
theorem qG8(b:qp7 X NY src sc=true):sc.kind=.function/\(∀y∈sc.names,y.2=.local->sc.names.lookup y.1=some .local)/\(∀y∈sc.names,y.2=.free->(X.env.kindOf y.1=some .cell∨X.env.kindOf y.1=some .free)):=by unfold qp7 at b;simp only[zB0,zBj,zBl] at b;obtain⟨⟨⟨hkind,d⟩,a⟩,f⟩:=b;refine⟨hkind,λy c e=>?_,λy c e=>?_⟩;{have:=(a y c).1.2;rw[e] at this;simpa using this};have:=(a y c).2;rw[e] at this;show X.env.scope.names.lookup y.1=some .cell∨X.env.scope.names.lookup y.1=some .free;simpa using this
theorem qw6(NY:List Str)(src:List (Option Nat))(hi:PI X tg iter wi)(l:∀C a H0 ex,PG (qj2 X NY sc C a H0 ex) tg g)(n:∀C a H0 ex,PFs (qj2 X NY sc C a H0 ex) ifs tf)(p:∀C a H0 ex,PE (qj2 X NY sc C a H0 ex) elt te)(r:X.calm=true:=by rfl)(k:qp7 X NY src sc=true:=by rfl)(t:∀x,Kz iter X.env x=pure x:=by intro _;rfl):PE X (.ListComp elt [⟨tg,iter,ifs,0⟩] sc pos) (Ep wi src g tf te):=by intro E6 s σ H Q I h;obtain⟨hkind,hnames,hfree⟩:=qG8 k;rw[eval_ListComp];refine wpAny_comprehension_free rfl t (qG9 λx u e=>I.ok.has x.1 (hfree x u e)) hkind hnames ?_;refine thn (hi E6 s σ H _ I h) λv G c=>thn c λw K d=>?_;obtain⟨L,f,M,J,H2,rfl,I2,T,i,f2,y⟩:=d;refine qS0 k r I2 T i f2 (λC a H0=>l C a H0 f) (λC a H0=>n C a H0 f) (λC a H0=>p C a H0 f) y ?_;intro D C H' N I' q z c d A B O ⟨m,E⟩;exact⟨m,E,λP j=>⟨.ref D,H',(I'.turned (λb o F e=>j.extBut b o F e) z d (.inr c) A B),rfl,q⟩⟩
theorem qaq3(i:Nat)(NY:List Str)(src:List (Option Nat))(E:X.N.Nodup)(hi:PI X tg iter wi)(F:∀C a H0 ex,PG (qj2 X NY sc C a H0 ex) tg g)(G:∀C a H0 ex,PFs (qj2 X NY sc C a H0 ex) ifs tf)(K:∀C a H0 ex,PE (qj2 X NY sc C a H0 ex) elt te)(f:X.N[i]?=some x:=by rfl)(j:Loc X.env.scope x:=by first|exact O1 rfl|exact O0 rfl)(L:X.calm=true:=by rfl)(y:qp7 X NY src sc=true:=by rfl)(k:swapsWith (.ListComp elt [⟨tg,iter,ifs,0⟩] sc pos) (some (.Name x px)) spos.line X.env=pure true:=by rfl)(M:∀x,Kz iter X.env x=pure x:=by intro _;rfl)(l:X.fn x=true∨X.env.scope.names.lookup x=some .local:=by first|exact .inl rfl|exact .inr rfl|assumption):PS X (.Assign [.Name x px] (.ListComp elt [⟨tg,iter,ifs,0⟩] sc pos) spos) (Iz (Ep wi src g tf te) (Gf i)):=by
 intro E6 s σ H D I h;obtain⟨hkind,hnames,hfree⟩:=qG8 y;rw[exec_Assign_Name_used _ _ _ _ k];refine J' (wpAny_standAt (J' ?_));refine J' (Ld (wpAny_comprehension_free (Q:=λ_ c=>SP X E6 D .next c) rfl M (qG9 λx j e=>I.ok.has x.1 (hfree x j e)) hkind hnames ?_) (λ_ c O=>Kv (Kv O)) λ_ _ e=>e);refine thn (hi E6 s σ H _ I h) λv s1 n=>thn n λP s2 d=>?_;obtain⟨R,r,tn,J,H2,rfl,I2,T,t,f2,S⟩:=d;refine qS0 y L I2 T t f2 (λC a H0=>F C a H0 r) (λC a H0=>G C a H0 r) (λC a H0=>K C a H0 r) S ?_;intro D' C H' c I' q A n d U V W ⟨m,Y⟩;obtain⟨o,Z,ep,ho,B,hr⟩:=Y;have Ip:Pb X (E6++[(C,o)]) σ H' c:=I'.pins_of λp hp=>(zAd.mp hp).elim (λz=>I'.pin p (zAz _ z)) λz=>by
  have e:p=(C,o):=by simpa using z
  subst e;exact⟨ho,A,d,W,λv e=>by rw[B] at e;cases e⟩
 refine wpAny_assign_Name (qB3 (v:=.ref D') Ip E f j rfl (λu I''=>?_) l);refine⟨m,⟨o,Z,ep,((I''.pin (C,o) (by simp)).1),B,hr⟩,λh' w=>⟨_,H',?_,q⟩⟩;exact I''.unpinned.turned (t':=u.toks) (it:=C) (λb o hb e=>w.extBut b o hb e) A d (.inr n) U V
end
theorem qR9{K:Oa}(Pv:Nat->St->Hp->Prop)(c:Pv 0 n H)(d:∀i n H,i<=xs.length->Pv i n H->SqL K H a xs)(f:∀i x n H,xs[i]?=some x->Pv i n H->g x n H λσ2 H2=>tf σ2 H2 λh H3=>if h=true then te σ2 H3 λv H4=>∃ys,H4 D=some (.l ys)/\ys.length<Kx/\Pv (i+1) σ2 (upd H4 D (.l (ys++[v]))) else Pv (i+1) σ2 H3)(j:∀n H,Pv xs.length n H->R H):qq1 (Itl K a) g tf te D R n H:=by refine⟨λi m n H=>m=xs.length-i/\i<=xs.length/\Pv i n H,⟨xs.length,by simp,zBi _,c⟩,?_⟩;rintro i m n H ⟨rfl,k,p⟩;have q:=d i n H k p;by_cases b:i<xs.length;{refine .inr ⟨⟨xs,xs[i],q,by simp[b]⟩,Pv (i+1),λn' H' l=>⟨xs.length-(i+1),⋯,rfl,b,l⟩,λx H' y=>?_⟩;obtain⟨e,y⟩:=y;subst e;exact f i x n _ (y xs q) p};have e:i=xs.length:=⋯;subst e;exact .inl ⟨⟨xs,q,zA3 _⟩,j n H p⟩
theorem qaf4{D:γ}{lo:Int}{n:Nat}{g:TG}{tf:TT}{te:TE}{R:Hp->Prop}{k:St}(Pv:Nat->St->Hp->Prop)(b:Pv 0 k H)(c:∀i k H,i<n->Pv i k H->g (.int (lo+i)) k H λσ2 H2=>tf σ2 H2 λd H3=>if d=true then te σ2 H3 λv H4=>∃ys,H4 D=some (.l ys)/\ys.length<Kx/\Pv (i+1) σ2 (upd H4 D (.l (ys++[v]))) else Pv (i+1) σ2 H3)(f:∀k H,Pv n k H->R H):qq1 (Itr lo n) g tf te D R k H:=by refine⟨λi m k H=>m=n-i/\i<=n/\Pv i k H,⟨n,by simp,zBi _,b⟩,?_⟩;rintro i m k H ⟨rfl,j,p⟩;by_cases a:i<n;{refine .inr ⟨a,Pv (i+1),λk' H' h=>⟨n-(i+1),⋯,rfl,a,h⟩,λx H' y=>?_⟩;obtain⟨e,y⟩:=y;subst e y;exact c i k _ a p};have e:i=n:=⋯;subst e;exact .inl ⟨zA3 _,f k H p⟩
section
variable{X:Cx}
theorem sset(i:Nat)(a:X.N.Nodup)(b:PE X e te)(hi:X.N[i]?=some x:=by rfl)(c:Loc X.env.scope x:=by first|exact O1 rfl|exact O0 rfl)(d:swapsWith e (some (.Name x pos')) pos.line X.env=pure false:=by rfl)(f:X.fn x=true∨X.env.scope.names.lookup x=some .local:=by first|exact .inl rfl|exact .inr rfl|assumption):PS X (.Assign [.Name x pos'] e pos) (Iz te (Gf i)):=qaJ1 a hi c b d f
theorem gnm(i:Nat)(a:X.N.Nodup)(hi:X.N[i]?=some x:=by rfl)(b:Loc X.env.scope x:=by first|exact O1 rfl|exact O0 rfl)(c:X.fn x=true∨X.env.scope.names.lookup x=some .local:=by first|exact .inl rfl|exact .inr rfl|assumption):PG X (.Name x pos) (Gf i):=qaq9 a hi b c
def CDivB(_ j:Int):Prop:=0<j/\j<2 ^ 200
theorem qL0:OpR X (Lj .FloorDiv) (rI CDivB λi j=>.int (i/j)):=opI λi j _ _ _ _ _ a q=>by
 have c:=a.1;have d:=a.2;refine floordiv_int ⋯ (by rw[Int.fdiv_eq_ediv_of_nonneg i ⋯];exact q) (.inl (PyProof.noPylong_of_log2 ?_));have b:j.natAbs<2 ^ 200:=⋯
 have e:=(Nat.log2_lt ⋯).mpr b;lia
theorem qaK2(k:Int){a:Nat}(c:i ^ j.toNat=k:=by decide)(d:0<=j:=by decide)(h1:j<=1000000:=by decide)(h2:i.natAbs<2 ^ 64:=by decide):PE X (.BinOp (.Constant (.int i) a p) .Pow (.Constant (.int j) b q) pos) (tC (.int k)):=by intro E6 s m H Q I h;refine(pe_op qaX0 qE0 qE0) E6 s m H Q I ⟨_,_,rfl,rfl,⟨d,h1,h2⟩,?_⟩;show Q (.int (i ^ j.toNat)) H;rw[c];exact h
theorem qaX4:OpR X (Ky .Is) (λx y H Q=>∃b c,x=.bl b/\y=.bl c/\Q (.bl (b==c)) H):=by intro E6 s m H x y v u Q I a d h;obtain⟨b,c,rfl,rfl,q⟩:=h;cases a;cases d;exact is_bool ⟨.bl _,H,I,rfl,q⟩
def Eb(H:Hp):V->Option String
 |.non=>some "NoneType" | .bl _=>some "bool" | .int _=>some "int" | .str _=>some "str"|.ref a=>match H a with|some (.l _)=>some "list" | some (.q _)=>some "tuple" | some (.dK _)=>some "dict" | some (.frz _ (.l _))=>some "list"|_=>none
 |_=>none
noncomputable def subT(t n:String):Bool:=t==n||(t=="bool" && n=="int")
theorem qad5(K:Oa){t:String}(a:t∈["NoneType", "bool", "int", "str", "list", "tuple", "dict"])(b:n∈["bool", "int", "str", "list", "tuple", "dict"]):Ob K (.type t) (.type n)=some (subT t n):=by simp only[zAa,zAr,zC9] at a b;rcases a with rfl|rfl|rfl|rfl|rfl|rfl|rfl<;>rcases b with rfl|rfl|rfl|rfl|rfl|rfl<;>rfl
theorem qM1{K:Oa}{x:V}{t:String}(h:Eb H x=some t):Es K H x (.type t)/\t∈["NoneType", "bool", "int", "str", "list", "tuple", "dict"]:=by cases x with|non=>cases h;exact⟨.non,∅⟩|bl b=>cases h;exact⟨.bl b,∅⟩|int b=>cases h;exact⟨.int b,∅⟩|str b=>cases h;exact⟨.str b,∅⟩|byt b=>cases h|flt b=>cases h|ty b=>cases h|ref a=>unfold Eb at h;dsimp only at h;split at h;{cases h;exact⟨.l (by assumption),∅⟩};{cases h;exact⟨.q (by assumption),∅⟩};{cases h;exact⟨.dK (by assumption),∅⟩};{cases h;exact⟨.frz (by assumption),∅⟩};cases h
def rIsi:List V->Hp->VK->Prop:=λxs H Q=>∃x n t,xs=[x,.ty n]/\Eb H x=some t/\n∈["bool", "int", "str", "list", "tuple", "dict"]/\Q (.bl (subT t n)) H
theorem qd4:CallR X (.builtin "isinstance") rIsi:=by intro E6 s m H g i Q I r h;obtain⟨x,n,t,rfl,b,c,q⟩:=h;obtain⟨u,j,rfl,d,a⟩:=Fp r;cases a;obtain⟨ty,e⟩:=qM1 b;exact qC6 I d ty (qad5 X.K e c) λf=>⟨.bl _,H,I.tok f,rfl,q⟩
theorem qaL1(n:String)(hm:X.mg x=none)(a:Gl X x:=by rfl)(b:K5 x=some (.type n):=by rfl)(c:x ≠ "__name__" := by decide)(d:N' x:=by decide):PE X (.Name x pos) (tC (.ty n)):=qaL2 a hm b rfl c d
theorem qaK7{t:Tok}(hm:X.mg x=some (.int n t))(a:Gl X x:=by rfl)(b:N' x:=by decide):PE X (.Name x pos) (tC (.int n)):=qaa8 a hm ⟨t,rfl⟩ b
theorem cbi{id:String}(c:CallR X (.builtin id) r)(hm:X.mg x=none)(d:PA X (e::es) t)(f:Gl X x:=by rfl)(g:K5 x=some (.builtin id):=by rfl)(h:x ≠ "__name__" := by decide)(a:N' x:=by decide)(i:Kw (e::es) X.env=(false,eval e X.env)::Kw es X.env:=by rfl)(b:(backTo pos (Kw es X.env)).any (·.1)=false:=by rfl):PE X (.Call (.Name x p) (e::es) [] pos) (tCB r t):=qay4 c f hm g d h a i b
theorem cty{id:String}(c:CallR X (.type id) r)(hm:X.mg x=none)(d:PA X (e::es) t)(f:Gl X x:=by rfl)(g:K5 x=some (.type id):=by rfl)(h:x ≠ "__name__" := by decide)(a:N' x:=by decide)(i:Kw (e::es) X.env=(false,eval e X.env)::Kw es X.env:=by rfl)(b:(backTo pos (Kw es X.env)).any (·.1)=false:=by rfl):PE X (.Call (.Name x p) (e::es) [] pos) (tCB r t):=qaj6 c f hm g d h a i b
end
theorem ix{X:Cx}{a b:Lr}{ta tb:TE}{pos:Pos}{r:R2}(c:IxR X r)(d:PE X a ta)(e:PE X b tb)(f:qT0 b:=by exact λ_ _=>rfl):PE X (.Subscript a b pos) (tOp r ta tb):=Jp c d e f
def rGetL:V->V->Hp->VK->Prop:=λo i H Q=>∃p xs k v,o=.ref p/\i=.int k/\H p=some (.l xs)/\0<=k/\xs[k.toNat]?=some v/\Q v H
theorem qae5:PGet X rGetL:=by intro E6 s B H o i w x Q I b c h;obtain⟨p,y,k,v,rfl,rfl,d,e,a,q⟩:=h;cases b;obtain⟨t,rfl⟩:=c;obtain⟨f,n,r,g,z⟩:=I.l d;obtain⟨u,j,l⟩:=r.get a;have m:=(zA6.mp a).1;have A:=qL8;refine wpAny_getItem_list ⟨_,g,rfl,n,rfl⟩ e ⋯ (by simpa using j) ⟨v,H,I,l,q⟩
theorem qbc3{xs:List α}(b:0<=i)(h1:i<xs.length):∃v,xs[i.toNat]?=some v/\atI xs i=some v:=by have a:i.toNat<xs.length:=⋯;have e:(i.toNat:Int)=i:=⋯;refine⟨xs[i.toNat],by simp[a],?_⟩;have:=qS8 (xs:=xs) (j:=i.toNat) (v:=xs[i.toNat]) (by simp[a]);rw[e] at this;exact this
theorem qm9{xs:List α}(a:0<=i)(h1:i<xs.length):∃v,v∈xs/\atI xs i=some v:=by obtain⟨v,h,e⟩:=qbc3 a h1;exact⟨v,zAw h,e⟩
theorem qad6(h:H a=some (.l xs)):Eb H (.ref a)=some "list" := by
 unfold Eb;dsimp only;rw[h]
theorem qaA6(h:H a=some (.q xs)):Eb H (.ref a)=some "tuple" := by
 unfold Eb;dsimp only;rw[h]
theorem qas1{xs:List (Key×V)}(h:H a=some (.dK xs)):Eb H (.ref a)=some "dict" := by
 unfold Eb;dsimp only;rw[h]
theorem Same.new(h:H q=none):Same H (upd H q u):=λb o e=>by rw[qb4 (qc2 e h)];exact e
structure Df(K:Oa)(mg:Str->Option V')(x qual:Str)(st:Ls)(f:γ)(fd:δ)(ps:List Str):Prop where
 F:Fun K x qual st f fd
 b:Binds K fd ps []
 m:mg x=some (.ref f)
theorem dfmk{K:Oa}{st:Ls}{i:Array (Option V')}{kV e a:V'}(l:K.lookup f=some ⟨oc,od,.func (W.fnOf x qual (qe9 st) (qd0 st) (qa3 st) .none kV b e d a g),i⟩)(c:W.codeIn K a qual=true)(k:W.keepIn K (.ref f)=true)(m:mg x=some (.ref f))(h:∀(kV b e:V')(d:Option γ)(a g:V')(us:List V'),us.length=ps.length->bindArgs (W.fnOf x qual (qe9 st) (qd0 st) (qa3 st) .none kV b e d a g) ⟨us,[]⟩=pure (ps.zip us)):Df K mg x qual st f (W.fnOf x qual (qe9 st) (qd0 st) (qa3 st) .none kV b e d a g) ps:=⟨qal9 l c k,(qal9 l c k).binds h,m⟩
theorem callD{st:Ls}(D:Df X.K X.mg x qual st f fd ps)(G:Fi X.prog X.w X.K X.mg X.base CX0 k f fd ps sp)(d:Room k X.A)(g:PA X (e::es) t)(h:Gl X x:=by rfl)(a:N' x:=by decide)(i:Kw (e::es) X.env=(false,eval e X.env)::Kw es X.env:=by rfl)(c:(backTo pos (Kw es X.env)).any (·.1)=false:=by rfl):PE X (.Call (.Name x p) (e::es) [] pos) (Hx sp [] (λ_=>E0) t):=qaa9 G d h D.m D.F.kp D.b .nil pass0 g a i c
end L2
namespace LB
open PySem PySem.Spec PyProof.Rows
theorem qL7:typeLookup (.type "list") "keys"=pure none:=by rw[typeLookup_type,builtinLookup_eq_fast];kernel_rfl
theorem qz5:typeLookup (.type "list") "__getattr__"=pure none:=by rw[typeLookup_type,builtinLookup_eq_fast];kernel_rfl
section
variable{prog:Ln}{w:Lq}{A:Lp}{E:V'->Sh->Prop}{h:Heap}{g:Array GenState}{d:Drawn}{t:Nat}{u:OsState}{a:γ}{its:Array V'}{n:Nat}
theorem qz6(c:h.get? a=some {cls:=.type "list",data:=.seq its n})(f:A.handled=none)(i:∀h' b e,Heap.NewAttrErr h h' e (.ref a) "keys" -> E (.ref e) ⟨h',g,d,b,u⟩):Ll (Lm prog w) A (Builtin.«object.__getattribute__» ⟨[.ref a,.str "keys" b],[]⟩) Q E ⟨h,g,d,t,u⟩:=by
 have j:(⟨h,g,d,t,u⟩:Sh).TypeIs (.ref a) "list" := ⟨_,c,rfl⟩;have k:=qL7;repeat (any_goals (first|assumption|wp_step))
 exact wpAny_raiseAttrError f (i) (attrMsg_fits (by decide +kernel) (by decide +kernel))
theorem qC5(i:h.get? a=some {cls:=.type "list",data:=.seq its n})(k:A.handled=none)(l:∀h' f,(∀b o,h.get? b=some o->h'.get? b=some o)->Q none ⟨h',g,d,f,u⟩):Ll (Lm prog w) A (getAttr? (.ref a) "keys") Q E ⟨h,g,d,t,u⟩:=by
 have j:∀f,(⟨h,g,d,f,u⟩:Sh).TypeIs (.ref a) "list" := λ_=>⟨_,i,rfl⟩;have m:=j t;have f1:=sub_AttributeError;have f2:=F.slot_list_getattribute.lookup;have f3:=F.slot_list_getattribute.bind (.ref a);have p:=qz5;unfold getAttr? getAttrBy? getAttrBy;repeat (any_goals (first|assumption|wp_step))
 refine codeAny_call_builtin F.slot_list_getattribute.plain F.entry_list_ga (F.slot_list_getattribute.check _ _ _ _ _ _ _ _ (j _) (F.args_list_getattribute_2 _ _) (qz6 i k λh' f e c=>?_));obtain⟨q,r,s⟩:=c.there;show Ll _ _ (getattributeRaised _ _ _ _ _ _ _) _ _ _;unfold getattributeRaised;repeat (any_goals (first|assumption|wp_step))
 exact l _ _ c.keeps
end
theorem qm8:entryFor table "dict.update.loop"=some Builtin.«dict.update.loop»:=entryFor_of_tree (by kernel_rfl)
theorem qf7:plainId "dict.update.loop"=true:=by decide +kernel
section
variable{prog:Ln}{w:Lq}{K:Type}[DecidableEq K]{knd:KeyKind prog w K}{A:Lp}{R:Result->Sh->Prop}
theorem qan5(U:A.handled=none)(y:ax≠I)(g:d≠I)(z:ax≠d):∀(rest:List (K×V'))(i:Nat)(ix:Int)(kvs:List (K×V'))(s:Sh),
 (∀(j:Nat) a,rest[j]?=some a->∃t key,items[i+j]?=some (.ref t)/\IsTup s.heap t #[key,a.2]/\knd.is a.1 key=true/\t≠I/\t≠d)->items.size=i+rest.length->s.heap.IsListIter I ax i->s.heap.IsList ax items->s.heap.DictOf knd d kvs->kvs.length+rest.length<=Kx->(∀h' B,h'.DictOf knd d (rest.foldl (λacc a=>stored acc a.1 a.2) kvs)->(∀b o,b≠I->b≠d->s.heap.get? b=some o->h'.get? b=some o)->R (.ok (.ret .none)) {s with heap:=h',toks:=B})->codeAny (Lm prog w) A (.builtin "dict.update.loop" ⟨[.ref d,.ref I,rawInt ix,.none],[]⟩) R s:=by
 intro rest;induction rest with
 |nil=>
  intro i ix kvs s C f h v D P E;refine codeAny_builtin qm8 ?_;rw[Around.under_plainId qf7 _];show Ll _ A.in1 (pyNext (.ref I) >>= _) _ _ s;refine J' (wpAny_pyNext_list_end U h v (by simp at f;simp[f]) λh' Q=>?_);show Ll _ _ (Builtin.Dict.addKeywords d [] >>= _) _ _ _;refine J' (Kv (Kv ?_));have k:h'.DictOf knd d kvs:=by obtain⟨o,F,G,l,r⟩:=D;exact⟨o,F,G,Q d o g l,r⟩
  exact E h' s.toks k λb o x _ e=>Q b o x e
 |cons a rest V=>
  intro i ix kvs s C f h v D P E;obtain⟨t,key,W,X,Y,Z,h5⟩:=C 0 a rfl;refine codeAny_builtin qm8 ?_;rw[Around.under_plainId qf7 _];show Ll _ A.in1 (pyNext (.ref I) >>= _) _ _ s;refine J' (wpAny_pyNext_list_item h v W λh' m p=>?_);have H:IsTup h' t #[key,a.2]:=X.extBut p.extBut Z;obtain⟨o,l,J,n,L⟩:=H;refine J' (K4 ?_);refine J' (wpAny_tryCatch ?_);unfold Builtin.Dict.pairItems;refine J' (wpAny_typeOf (T := "tuple") ⟨o,l,J⟩ ?_);rw[if_pos ∅];refine J' (wpAny_seqItems l L (Kv ?_));dsimp only[Option.getD];have k:h'.DictOf knd d kvs:=by obtain⟨o,F,G,l,r⟩:=D;exact⟨o,F,G,p.extBut d o g l,r⟩
  simp only[zAj] at P f;show Ll _ _ (holding [key,a.2] (dictSet d key a.2)) _ _ _;refine K4 (wpAny_dictSet_pairs (hsz:=by lia) Y k λa0 q c=>?_);refine Kv ⟨plainId_quiet qf7 _,?_⟩;have S:(stored kvs a.1 a.2).length<=kvs.length+1:=by unfold stored;split;{rw[zAb];lia};rw[zAf];simp
  refine V (i+1) (ix+1) (stored kvs a.1 a.2) _ (λj M hj=>?_) ⋯ ?_ ?_ q ⋯ λN B O k3=>?_;{obtain⟨t',key',g1,g2,g3,g4,g5⟩:=C (j+1) M hj;exact⟨t',key',by rw[show i+1+j=i+(j+1) by lia];exact g1,(g2.extBut p.extBut g4).extBut c.extBut g5,g3,g4,g5⟩};{exact m.at λo e=>c.extBut I o (Ne.symm g) e};{exact(v.at λo e=>p.extBut ax o y e).at λo e=>c.extBut ax o z e};exact E N B O λb o x u e=>k3 b o x u (c.extBut b o u (p.extBut b o x e))
end
end LB
namespace L2
open PySem PySem.Spec PyProof.Rows
section
variable{X:Cx}
theorem KV.fold:∀{more:List (Key×V)}{a:List (Key×V')}{kvs:List (Key×V)}{vs:List (Key×V')},KV more a->KV kvs vs->KV (qz4 kvs more) (a.foldl (λacc b=>stored acc b.1 b.2) vs):=by intro more a kvs vs r;unfold KV at r;induction r generalizing kvs vs with|nil=>intro q;exact q|@cons p q _ _ h _ ih=>intro c;show KV (qz4 (putK kvs p.1 p.2) _) (Mv _ (stored vs q.1 q.2) _);refine ih ?_;rw[<-h.1];exact c.put p.1 h.2
def qau4(H:Hp)(ys:List V)(kvs:List (Key×V)):Prop:=Paired (λy (a:Key×V)=>∃t,y=.ref t/\H t=some (.q [kV a.1,a.2])) ys kvs
def qaI5:List V->Hp->VK->Prop:=λxs H Q=>∃a ys kvs,xs=[.ref a]/\H a=some (.l ys)/\qau4 H ys kvs/\∀p,H p=none->Q (.ref p) (upd H p (.dK (qz4 [] kvs)))
theorem qag0(hc:X.calm=true):CallR X (.type "dict") qaI5:=by
 intro E6 s σ H xs us Q I r h;obtain⟨a,ys,g,rfl,ha,N,q⟩:=h;obtain⟨u,rfl,ru⟩:=Ea r;cases ru;have hh:=I.ok.hd hc;obtain⟨z,f,n,rv,O,e⟩:=I.lstM ha;obtain⟨x,J,P⟩:∃x:List (Key×V'),KV g x/\∀(j:Nat) k,x[j]?=some k->∃t i,f[j]?=some (.ref t)/\IsTup s.heap t #[i,k.2]/\(qd2 X.prog X.w).is k.1 i=true:=by clear q e O n ha z;induction N generalizing f with|nil=>exact⟨[],.nil,λj k C=>by simp at C⟩|@cons y k ys g hy _ ih=>cases rv with|@cons _ u _ us' hu hr=>obtain⟨t,rfl,ht⟩:=hy;cases hu;obtain⟨_,its',rt,o,p,R,n,S⟩:=I.hok t _ ht;obtain⟨i,U,rfl,r1,r2⟩:=rt.two;obtain⟨x,J,P⟩:=ih _ hr;refine⟨(k.1,U)::x,.cons ⟨rfl,r2⟩ J,λj V C=>?_⟩;cases j with|zero=>cases C;exact⟨t,i,rfl,⟨o,p,R,n,S⟩,Jr r1⟩|succ j=>exact P j V C
 have D:x.length=f.length:=by rw[<-O,<-Paired.length J,<-Paired.length N]
 have big:=I.big;obtain⟨c,gn,dr,W,Y⟩:=s;refine callType_codes (Q₁:=λE s₁=>E=.ref c.objs.size/\s₁={heap:=c.push {cls:=.type "dict",data:=.dict #[]},gens:=gn,drawn:=dr,toks:=W,os:=Y}) F.kt_called_dict (F.kt_typeCall_dict_1 _) F.entry_dict_init (kt_code_dict_new _ ⟨rfl,rfl⟩) ?_;rintro E s₁ ⟨rfl,rfl⟩;have l:(c.push {cls:=.type "dict",data:=.dict #[]}).DictOf (qd2 X.prog X.w) c.objs.size []:=Heap.DictOf.new c;have Z:(c.push {cls:=.type "dict",data:=.dict #[]}).get? a=some {cls:=.type "list",data:=.seq f.toArray n}:=zA2 _ e;have G:a<c.objs.size:=zA7 e;refine⟨l.typeIs,F.args_dict_init_2 _ _,?_⟩;unfold Builtin.«dict.__init__»;refine J' ?_;unfold Builtin.Dict.selfAndRest;refine J' (wpAny_notOrdered_dict l.typeIs ?_);show Ll _ _ (pure (c.objs.size,[Nw a])) _ _ _;refine Kv ?_;show Ll _ _ (Builtin.Dict.updateFrom "dict.__init__" c.objs.size (.ref a) [] .none) _ _ _;unfold Builtin.Dict.updateFrom;refine J' (wpAny_typeOf (T := "list") ⟨_,Z,rfl⟩ ?_);rw[if_pos ∅];refine J' (LB.qC5 Z hh λB a2 K=>?_);rw[if_pos (by rfl)];have e1:B.get? a=some {cls:=.type "list",data:=.seq f.toArray n}:=K _ _ Z;have d1:B.DictOf (qd2 X.prog X.w) c.objs.size []:=by obtain⟨o,L,M,p,r⟩:=l;exact⟨o,L,M,K _ _ p,r⟩
 refine J' (Lf ?_);have hlist:B.IsList a f.toArray:=⟨_,e1,rfl,n,rfl⟩;refine J' (wpAny_pyIter_list hlist ?_);have v:c.objs.size<B.objs.size:=by obtain⟨o,L,M,p,r⟩:=d1;exact zA7 p
 refine Kv ⟨plainId_quiet LB.qf7 _,?_⟩;refine LB.qan5 (knd:=qd2 X.prog X.w) (A:=X.A.in1) hh (I:=B.objs.size) (ax:=a) (d:=c.objs.size) (items:=f.toArray) (zAi (Nat.lt_trans G v)) (zAi v) (zAi G) x 0 0 [] _ (λj k C=>?_) (by simp[D]) ?_ ?_ ?_ ?_ λh2 a0 d2 k2=>?_;{obtain⟨t,i,g1,g2,g3⟩:=P j k C;obtain⟨o,p,r⟩:=g2;have m:=zA7 p;exact⟨t,i,by simpa using g1,⟨o,zA2 _ (K _ _ (zA2 _ p)),r⟩,g3,zAi (Nat.lt_trans m v),zAi m⟩};{exact⟨_,zAm _ rfl,rfl,rfl⟩};{exact⟨_,zA2 _ e1,rfl,n,rfl⟩};{obtain⟨o,L,M,p,r⟩:=d1;exact⟨o,L,M,zA2 _ p,r⟩};{simp only[zCm,zAh];rw[D,<-O];exact z};refine⟨rfl,?_⟩;have hf:H c.objs.size=none:=I.hok.fresh (zA3 _);have keep:∀b o,c.get? b=some o->h2.get? b=some o:=λb o eb=>by have m:=zA7 eb;exact k2 b o (zAi (Nat.lt_trans m v)) (zAi m) (zA2 _ (K _ _ (zA2 _ eb)))
 have rm:KV (qz4 [] g) (x.foldl (λa1 k=>stored a1 k.1 k.2) []):=KV.fold J .nil;have hz:(qz4 [] g).length<=Kx:=by have B:=qt1 g [];have h2:=Paired.length N;simp only[zCm] at B;lia
 refine⟨.ref c.objs.size,_,I.laid (t':=a0) (o:=.dK (qz4 [] g)) keep (zA3 _) ?_,rfl,q _ hf⟩;exact⟨hz,zBm.mpr (Ne.symm (zAi big)),_,rm,d2⟩
end
section
variable{X:Cx}
theorem qD1(t:X.calm=true):CallR X (.builtin "all") (λxs H Q=>∃(a:γ)(bs:List Bool),xs=[.ref a]/\SqL X.K H a (bs.map V.bl)/\Q (.bl (bs.all id)) H):=by
 intro E6 s J H xs D Q I r h;obtain⟨a,bs,rfl,w,q⟩:=h;obtain⟨u,rfl,j⟩:=Ea r;cases j;obtain⟨d,k,l,E⟩:=I.list w;refine call_all_walk (wpAny_pyIter_list l.isList ?_);have m:=let ⟨o,ho,_⟩:=l.isList;zA7 ho
 refine⟨s.heap.objs.size,_,_,_,_,_,λi=>bs.getD i false,rfl,Walks.list (A:=X.A.in1) (I.ok.hd t) _ a (zAi m) d.toArray,⟨⟨_,zAm _ rfl,rfl,rfl⟩,?_⟩,?_,?_⟩;{exact l.isList.at λo e=>zA2 _ e}
 .intro i v y Q1 E1 f g;have f:d[i]?=some v:=by simpa using f
  have c:i<bs.length:=by have F:=(zA6.mp f).1;have n:=k.length;grind
  obtain⟨u,p,j⟩:=k.get (i:=i) (x:=.bl bs[i]) (by simp[c]);rw[f] at p;cases p;cases j;refine K6 ?_;have e:bs.getD i false=bs[i]:=by simp[Na,c]
  have g:Q1 (bs.getD i false) y:=g;rw[e] at g;exact g
 intro G z B;have e:(Mc d.toArray.size).all (λi=>bs.getD i false)=bs.all id:=by have n:=k.length;rw[zAb] at n;rw[zA5,<-n];rw[Bool.eq_iff_iff];simp only[zBl,zB7,id_eq];constructor;{intro h b C;obtain⟨i,c,rfl⟩:=List.mem_iff_getElem.mp C;have:=h i c;simpa[Na,c] using this};intro h i c;have:=h bs[i] (List.getElem_mem c);simpa[Na,c] using this
 rw[e];refine⟨.bl _,H,?_,rfl,q⟩;exact I.kept (t':=z) λb o e=>B b o (by simp;exact zAi (zA7 e)) (zA2 _ e)
noncomputable def qn6(ns:List Int):Nat:=(firstMet (λi=>ns.getD i 0) ns.length).length
def rSetI(K:Oa):List V->Hp->VK->Prop:=λxs H Q=>∃(a:γ)(ns:List Int),xs=[.ref a]/\SqL K H a (ns.map V.int)/\ns.length<=1000/\∀p S,H p=none->Q (.ref p) (upd H p (.set S (qn6 ns)))
theorem qao1(k:X.calm=true):CallR X (.type "set") (rSetI X.K):=by
 intro E6 s J H t v Q I r h;obtain⟨a,f,rfl,l,w,q⟩:=h;obtain⟨u,rfl,m⟩:=Ea r;cases m;obtain⟨d,i,n,x⟩:=I.list l;have c:d.length=f.length:=by have:=i.length;rw[zAb] at this;exact this.symm
 refine call_set_list (I.ok.hd k) n.isList (by simpa using (qae2 i)) (by rw[zA5,c];show f.length+1<4096;lia) λy z j p=>?_;have g:d.toArray.size=f.length:=by rw[zA5,c]
 rw[g] at j;refine⟨.ref s.heap.objs.size,_,I.laid (o:=.set _ (qn6 f)) (λb o e=>p b o (zA7 e) e) (zA3 _) j,rfl,q _ _ (I.hok.fresh (zA3 _))⟩
theorem qao3:CallR X (.builtin "len") (λxs H Q=>∃(a:γ)(S:Int->Bool)(n:Nat),xs=[.ref a]/\H a=some (.set S n)/\Q (.int n) H):=by intro E6 s J H xs l Q I r h;obtain⟨a,S,n,rfl,d,q⟩:=h;obtain⟨u,rfl,e⟩:=Ea r;cases e;obtain⟨o,f,m,t,g,b,i,_,_,c,j,k⟩:=I.hok a _ d;subst k;have c:f.size<4096:=c;exact call_len_set g b i j ⋯ ⟨.int _,H,I.tok _,⟨_,rfl⟩,q⟩
end
theorem qM8(ns:List Int):qn6 ns=ns.length↔ns.Nodup:=by
 have f:∀i,i<=ns.length->(∀k,k∈firstMet (λi=>ns.getD i 0) i↔k∈ns.take i)/\((firstMet (λi=>ns.getD i 0) i).length=i↔(ns.take i).Nodup):=by
  intro i;induction i with
  |zero=>intro _;rw[firstMet_zero];simp|succ i j=>
   intro p;obtain⟨c,q⟩:=j ⋯;have l:=firstMet_length_le (λi=>ns.getD i 0) i;have a:i<ns.length:=⋯;have m:ns.take (i+1)=ns.take i++[ns[i]]:=by rw[zBu];simp[a]
   have n:ns.getD i 0=ns[i]:=by simp[Na,a]
   rw[firstMet_succ,m,n];unfold step_dedup;by_cases d:ns[i]∈firstMet (λi=>ns.getD i 0) i;{have b:ns[i]∈ns.take i:=(c _).mp d;have g:(firstMet (λi=>ns.getD i 0) i).any (· == ns[i])=true:=List.any_eq_true.mpr ⟨_,d,by simp⟩;rw[if_pos g];refine⟨λk=>?_,?_⟩;{rw[c];simp only[zAd,zAk];exact⟨.inl,λh=>h.elim id λe=>by rw[e];exact b⟩};grind};have b:=λh=>d ((c _).mpr h);have g:¬(firstMet (λi=>ns.getD i 0) i).any (· == ns[i])=true:=λh=>by obtain⟨x,o,e⟩:=List.any_eq_true.mp h;exact d (by rw[<-(zBj.mp e)];exact o)
   rw[if_neg g];refine⟨λk=>?_,?_⟩;{simp only[zAd,zAk];rw[c]};rw[zAf,Nf];simp only[List.length_singleton];grind
 have:=(f ns.length (zA3 _)).2;rw[zAu (zA3 _)] at this;exact this
end L2
namespace L2
open PySem PySem.Spec PyProof.Rows PySem.SeqAt
variable{A:Lp}{a:γ}{xs:List V}
noncomputable def kvO:Option (Int×Int)->List (Key×V)|none=>[]|some (k,i)=>[(.inl k,.int i)]
inductive EqD(H:Hp):Nat->V->V->Bool->Prop
 |flat {n:Nat} {x y:V} (hx:flatV x=true) (hy:flatV y=true):EqD H n x y (eqV x y)
 |same {n:Nat} (a:γ):EqD H n (.ref a) (.ref a) true
 |lsts {n:Nat} {a b:γ} {xs ys:List V} {e:Nat->Bool} (ne:a≠b) (ha:H a=some (.l xs)) (hb:H b=some (.l ys)) (hl:xs.length=ys.length) (he:∀i x y,xs[i]?=some x->ys[i]?=some y->EqD H n x y (e i)):EqD H (n+1) (.ref a) (.ref b) ((Mc xs.length).all e)
 |lens {n:Nat} {a b:γ} {xs ys:List V} (ne:a≠b) (ha:H a=some (.l xs)) (hb:H b=some (.l ys)) (hl:xs.length≠ys.length):EqD H (n+1) (.ref a) (.ref b) false
 |tups {n:Nat} {a b:γ} {xs ys:List V} {e:Nat->Bool} (ne:a≠b) (ha:H a=some (.q xs)) (hb:H b=some (.q ys)) (he:∀i x y,xs[i]?=some x->ys[i]?=some y->EqD H n x y (e i)):EqD H (n+1) (.ref a) (.ref b) ((Mc (min xs.length ys.length)).all e&&xs.length==ys.length)
inductive RcD(H:Hp):V->V->Bool->Prop
 |flat {x y:V} (hx:flatV x=true) (hy:flatV y=true):RcD H x y (eqV x y)
 |lsts {a b:γ} {xs ys:List V} {e:Nat->Bool} (ha:H a=some (.l xs)) (hb:H b=some (.l ys)) (hl:xs.length=ys.length) (he:∀i x y,xs[i]?=some x->ys[i]?=some y->EqD H 20 x y (e i)):RcD H (.ref a) (.ref b) ((Mc xs.length).all e)
 |lens {a b:γ} {xs ys:List V} (ha:H a=some (.l xs)) (hb:H b=some (.l ys)) (hl:xs.length≠ys.length):RcD H (.ref a) (.ref b) false
section
variable{X:Cx}{M:List (γ×Obj)}{L:St}{H:Hp}{s:Sh}
theorem Pb.lstI(I:Pb X M L H s)(h:H a=some (.l xs)):∃its:List V',O9 xs its/\s.heap.IsList a its.toArray:=by obtain⟨z,its,n,r,_,e⟩:=I.lstM h;exact⟨its,r,_,e,rfl,n,rfl⟩
theorem Pb.tupI(I:Pb X M L H s)(h:H a=some (.q xs)):∃its:List V',O9 xs its/\s.heap.IsTuple a its.toArray:=by obtain⟨z,its,r,o,b,c,n,d⟩:=I.hok a _ h;exact⟨its,r,o,b,c,n,d⟩
theorem qaj7{P P':Ln}{w f:Lq}{es:List DictEntry}{kvs:List (Key×V')}(h:Pairs (qd2 P w) es kvs):(∀p∈kvs,∃i,p.1=Sum.inl i)->Pairs (qd2 P' f) es kvs/\∀e∈es,∃i,Fo (.inl i) e.key=true:=by induction h with|nil=>exact λ_=>⟨.nil,λ_ z=>absurd z zAr⟩|@cons e kv es kvs a b _ ih=>intro d;obtain⟨p,q⟩:=ih λx c=>d x (.tail _ c);obtain⟨i,g⟩:=d kv (.head _);exact⟨.cons a b p,λx c=>(zAa.mp c).elim (λz=>z ▸ ⟨i,g ▸ a⟩) (q x)⟩
theorem qD0{P P':Ln}{w f:Lq}{h:Heap}{kvs:List (Key×V')}(d:h.DictOf (qd2 P w) a kvs)(g:∀p∈kvs,∃i,p.1=Sum.inl i):h.DictOf (qd2 P' f) a kvs:=by obtain⟨o,j,l,m,n,r,s,t,u⟩:=d;obtain⟨p,q⟩:=qaj7 t g;refine⟨o,j,l,m,n,r,λe b=>?_,p,u⟩;obtain⟨k,c,v⟩:=s e b;obtain⟨i,x⟩:=q e (Array.mem_toList_iff.mpr b);cases (qd2 P w).inj _ _ (.inl i) c x;exact⟨.inl i,c,v⟩
theorem qbc6(I:Pb X M L H s){b:γ}{o:Option (Int×Int)}(C:H a=some (.dK (kvO o)))(D:H b=some (.dK (kvO o)))(l:A.units<cLine):RcAt A s (.ref a) (.ref b) true/\RcNeAt A s (.ref a) (.ref b) false:=by
 obtain⟨_,m,c,r,d⟩:=I.hok a _ C;obtain⟨_,n,f,u,B⟩:=I.hok b _ D;have q:W.KeqHits A.in1 s f c true/\(c.length==f.length&&true)=true/\(∀p∈c,∃i,p.1=Sum.inl i)/\∀p∈f,∃i,p.1=Sum.inl i:=by obtain _|⟨k,i⟩:=o;{cases r;cases u;exact⟨.nil,rfl,λ_ z=>absurd z zAr,λ_ z=>absurd z zAr⟩};obtain _|⟨⟨e,t,p⟩,z⟩:=r;obtain _|⟨⟨F,g,G⟩,J⟩:=u;cases z;cases J;rename_i x y;obtain⟨x,w⟩:=x;obtain⟨y,K⟩:=y;cases e;cases F;cases p;cases G;have:=W.KeqHits.hit (A:=A.in1) (s:=s) (kb:=[(.inl k,.int i g)]) (k:=(.inl k:Key)) (v:=.int i t) (r:=[]) (y:=.int i g) (show Option.map _ (List.find? _ _)=_ by rw[List.find?_cons_of_pos (by exact zAo rfl)];rfl) (qaD0 (x:=.int i) (y:=.int i) ⟨t,rfl⟩ ⟨g,rfl⟩ rfl rfl) .nil;rw[show eqV (.int i) (.int i)=true from zAo rfl] at this;exact⟨this,rfl,λp j=>⟨k,congrArg Prod.fst (zAk.mp j)⟩,λp j=>⟨k,congrArg Prod.fst (zAk.mp j)⟩⟩
 exact⟨λprog w E Q h=>W.keq_eq (knd:=qd2 prog w) m n (qD0 d q.2.2.1) (qD0 B q.2.2.2) l (λ_=>q.1) (by rw[q.2.1];exact h),λprog w E Q h=>W.keq_ne (knd:=qd2 prog w) m n (qD0 d q.2.2.1) (qD0 B q.2.2.2) l (λ_=>q.1) (by rw[q.2.1];exact h)⟩
theorem qB0(A:Lp):A.in1.units<=A.units+1:=zA3 _
theorem qW4{P:V->V->Nat->Prop}{e:Nat->Bool}{ys:List V}{its its2:List V'}(r:O9 xs its)(a:O9 ys its2)(k:∀i x y u v,xs[i]?=some x->ys[i]?=some y->O8 x u->O8 y v->EqAt A s u v (e i)):∀j (h1:j<its.toArray.size) (h2:j<its2.toArray.size),EqAt A s its.toArray[j] its2.toArray[j] (e j):=by
 intro j h1 h2;rw[zA5] at h1 h2;have h:=r.length;have l:=a.length;obtain⟨u,b,d⟩:=r.get (i:=j) (x:=xs[j]'⋯) (by simp);obtain⟨v,c,f⟩:=a.get (i:=j) (x:=ys[j]'⋯) (by simp);have g:its.toArray[j]=u:=by
  have:its[j]?=some its[j]:=by simp[h1]
  rw[this] at b;simpa using N8 b
 have e2:its2.toArray[j]=v:=by
  have:its2[j]?=some its2[j]:=by simp[h2]
  rw[this] at c;simpa using N8 c
 rw[g,e2];exact k j _ _ u v (by simp) (by simp) d f
theorem EqD.at(I:Pb X M L H s)(h:EqD H n x y b):∀{A:Lp}{u v:V'},O8 x u->O8 y v->A.units+n+1<cLine->EqAt A s u v b:=by
 induction h with
 |flat t w=>intro A u v c d _;exact qaD0 c d t w|same a=>intro A u v c d _;cases c;cases d;exact EqAt.same _|@lsts n a b xs ys e ne ha hb hl he ih=>
  intro A u v c d o;cases c;cases d;obtain⟨f,r,p⟩:=I.lstI ha;obtain⟨its2,g,j⟩:=I.lstI hb;have z:f.toArray.size=its2.toArray.size:=by rw[zA5,zA5,<-r.length,<-g.length,hl]
  have q:=EqAt.of_refs ne (RcAt.lists (A:=A) p j z ⋯ (e:=e) (qW4 (P:=λ_ _ _=>True) r g λi x y u v k e2 l m=>ih i x y k e2 l m (by have:=qB0 A;lia)));rw[zA5,<-r.length] at q;exact q
 |@lens n a b xs ys ne ha hb hl=>intro A u v c d o;cases c;cases d;obtain⟨f,r,p⟩:=I.lstI ha;obtain⟨its2,g,j⟩:=I.lstI hb;exact EqAt.of_refs ne (RcAt.lists_lengths p j (by rw[zA5,zA5,<-r.length,<-g.length];simpa using hl) ⋯)|@tups n a b xs ys e ne ha hb he ih=>intro A u v c d o;cases c;cases d;obtain⟨f,r,p⟩:=I.tupI ha;obtain⟨its2,g,j⟩:=I.tupI hb;have q:=EqAt.of_refs ne (RcAt.tuples (A:=A) p j ⋯ (e:=e) (qW4 (P:=λ_ _ _=>True) r g λi x y u v k e2 l m=>ih i x y k e2 l m (by have:=qB0 A;lia)));rw[zA5,zA5,<-r.length,<-g.length] at q;exact q
theorem RcD.at(I:Pb X M L H s)(h:RcD H x y b)(g:O8 x u)(c:O8 y v)(C:A.units+60<cLine):RcAt A s u v b/\RcNeAt A s u v (!b):=by
 cases h with
 |flat q m=>cases x with|non=>(cases g;cases y with|non=>cases c;exact⟨RcAt.none_none,RcNeAt.none_none⟩|bl b=>cases c;exact⟨RcAt.none_bool b,RcNeAt.none_bool b⟩|int b=>obtain⟨t,rfl⟩:=c;exact⟨RcAt.none_int b t,RcNeAt.none_int b t⟩|str b=>obtain⟨t,rfl⟩:=c;exact⟨RcAt.none_str b t,RcNeAt.none_str b t⟩|_=>exact absurd (show false=true from m) zAs)|bl a=>(cases g;cases y with|non=>cases c;exact⟨RcAt.bool_none a,RcNeAt.bool_none a⟩|bl b=>cases c;exact⟨RcAt.bool_bool a b,RcNeAt.bool_bool a b⟩|int b=>obtain⟨t,rfl⟩:=c;exact⟨RcAt.bool_int a b t,RcNeAt.bool_int a b t⟩|str b=>obtain⟨t,rfl⟩:=c;exact⟨RcAt.bool_str a b t,RcNeAt.bool_str a b t⟩|_=>exact absurd (show false=true from m) zAs)|int a=>(obtain⟨d,rfl⟩:=g;cases y with|non=>cases c;exact⟨RcAt.int_none a d,RcNeAt.int_none a d⟩|bl b=>cases c;exact⟨RcAt.int_bool a d b,RcNeAt.int_bool a d b⟩|int b=>obtain⟨t,rfl⟩:=c;exact⟨RcAt.int_int a d b t,RcNeAt.int_int a d b t⟩|str b=>obtain⟨t,rfl⟩:=c;exact⟨RcAt.int_str a d b t,RcNeAt.int_str a d b t⟩|_=>exact absurd (show false=true from m) zAs)|str a=>(obtain⟨d,rfl⟩:=g;cases y with|non=>cases c;exact⟨RcAt.str_none a d,RcNeAt.str_none a d⟩|bl b=>cases c;exact⟨RcAt.str_bool a d b,RcNeAt.str_bool a d b⟩|int b=>obtain⟨t,rfl⟩:=c;exact⟨RcAt.str_int a d b t,RcNeAt.str_int a d b t⟩|str b=>obtain⟨t,rfl⟩:=c;exact⟨RcAt.str_str a d b t,RcNeAt.str_str a d b t⟩|_=>exact absurd (show false=true from m) zAs)|_=>exact absurd (show false=true from q) zAs
 |@lsts a b xs ys e ha hb hl he=>
  cases g;cases c;obtain⟨f,r,p⟩:=I.lstI ha;obtain⟨its2,n,j⟩:=I.lstI hb;have l:f.toArray.size=its2.toArray.size:=by rw[zA5,zA5,<-r.length,<-n.length,hl]
  have k:=qW4 (P:=λ_ _ _=>True) (e:=e) (A:=A.in1) (s:=s) r n λi x y u v w e2 z B=>(he i x y w e2).at I z B (by have:=qB0 A;lia);have o:=RcAt.lists p j l ⋯ k;have q2:=RcNeAt.lists p j l ⋯ k;rw[zA5,<-r.length] at o q2;exact⟨o,q2⟩
 |@lens a b xs ys ha hb hl=>
  cases g;cases c;obtain⟨f,r,p⟩:=I.lstI ha;obtain⟨its2,n,j⟩:=I.lstI hb;have l:(f.toArray.size != its2.toArray.size)=true:=by rw[zA5,zA5,<-r.length,<-n.length];simpa using hl
  exact⟨RcAt.lists_lengths p j l ⋯,RcNeAt.lists_lengths p j l ⋯⟩
end
def rEqD:R2:=λx y H Q=>∃b,RcD H x y b/\Q (.bl b) H
def rNeD:R2:=λx y H Q=>∃b,RcD H x y b/\Q (.bl (!b)) H
theorem qe3(e:X.A.units+64<cLine):OpR X (Ky .Eq) rEqD:=by intro E6 s f H x y v u Q I a c ⟨b,d,q⟩;exact(d.at I a c ⋯).1 X.prog X.w X.xe _ ⟨.bl b,H,I,rfl,q⟩
theorem qU7(e:X.A.units+64<cLine):OpR X (Ky .NotEq) rNeD:=by intro E6 s f H x y v u Q I a c ⟨b,d,q⟩;exact(d.at I a c ⋯).2 X.prog X.w X.xe _ ⟨.bl (!b),H,I,rfl,q⟩
theorem qx8:∀{x:V},flatV x=true->eqV x x=true:=by intro x h;cases x with|non=>rfl|bl b=>exact zBb b|int b=>exact zBb b|str b=>exact zBb b|_=>exact absurd (show false=true from h) zAs
theorem Room.u64(a:Room k A):A.units+64<cLine:=a.units
end L2
namespace L2
open PySem PySem.Spec PyProof.Rows
variable{vs:Array V'}
section
variable{X:Cx}
def gAll(to:TE):TG:=λv C H Q=>to C H λo H1=>∃l b xs ys,o=.ref l/\v=.ref b/\l≠b/\H1 l=some (.l xs)/\H1 b=some (.l ys)/\xs.length+ys.length<=Kx/\Q C (upd H1 l (.l ys))
def tRev(K:Oa)(te:TE):TE:=λC H Q=>te C H λx H1=>∃a xs,x=.ref a/\SqL K H1 a xs/\∀p,H1 p=none->Q (.ref p) (upd H1 p (.l xs.reverse))
theorem qax4(its:List V'):slicePick its.toArray none none (some (-1))=its.reverse.toArray:=by
 unfold slicePick sliceBounds sliceRange;simp only[Option.getD_some,zA5];have c:¬((-1:Int)>0):=∅;simp only[c,if_false];apply Array.toList_inj.mp;simp only[List.toList_toArray];by_cases d:its.length=0;{have:its=[]:=List.length_eq_zero_iff.mp d;subst this;rfl};rw[if_pos ⋯];have f:(((its.length:Int)-1 - -1 - -1-1)/(- -1)).toNat=its.length:=by have:((its.length:Int)-1 - -1 - -1-1)=its.length:=⋯;rw[this];simp
 rw[f,Mu];apply List.ext_getElem?;intro k;have a:∀m,m<=its.length->(Mc m).filterMap ((λx=>its.toArray[x]?) ∘ λ(k:Nat)=>((its.length:Int)-1 + -1*(k:Int)).toNat)=(its.reverse).take m:=by intro m;induction m with|zero=>intro _;rfl|succ m g=>intro h;rw[Mq,List.filterMap_append,g ⋯,zBu];congr 1;have e:((its.length:Int)-1 + -1*(m:Int)).toNat=its.length-1-m:=⋯;simp only[zC5,Nb,Function.comp];rw[e,List.getElem?_reverse ⋯];have b:its.length-1-m<its.length:=⋯;simp[b]
 rw[a _ (zA3 _),zAu (by simp)]
theorem qaW1{e:Lr}{te:TE}{i:Nat}{p q p2 pos:Pos}(k:PE X e te):PE X (.Subscript e (.Slice none none (some (.UnaryOp .USub (.Constant (.int 1) i p) q)) p2) pos) (tRev X.K te):=by intro E6 s C H Q I h;refine Subscript_ (thn (k E6 s C H _ I h) λv l d=>?_);obtain⟨x,H1,I1,m,f⟩:=d;obtain⟨a,E,rfl,n,f⟩:=f;cases m;refine wpAny_Slice ?_;simp only[evalPart_none,evalPart_some];refine Kv (Kv (thn ((pe_un qaF6 qE0) E6 l C H1 (λv H'=>v=.int (-1)/\H'=H1) I1 ⟨1,rfl,rfl,rfl⟩) λu c d=>?_));obtain⟨y,H2,I2,o,z,B⟩:=d;subst z B;obtain⟨t,rfl⟩:=o;have I3:Pb X E6 C H2 {c with heap:=c.heap.push {cls:=.type "slice",data:=.fields #[.none,.none,.int (-1) t]} }:=I2.kept (t':=c.toks) λb F q=>zA2 _ q;obtain⟨D,r,g,j⟩:=I3.list n;show Ll (Lm X.prog X.w) X.A (subscriptTail e _ (.ref a) (.ref c.heap.objs.size)) (EP X E6 C Q) X.xe {c with heap:=c.heap.push {cls:=.type "slice",data:=.fields #[.none,.none,.int (-1) t]} };refine tail_any (ops:=[.ref a,.ref c.heap.objs.size]) g.isList.typeIs slot_list_getitem.lookup (wpAny_getItem_list_slice g.isList (Heap.IsSliceOf.new ..) .none .none (.int (-1) t) ∅ ?_ (by rw[zA5,<-r.length];exact j)) (by with_unfolding_all rfl);rw[qax4];exact⟨.ref (c.heap.push {cls:=.type "slice",data:=.fields #[.none,.none,.int (-1) t]}).objs.size,_,I3.lnew (t':=c.toks) r.reverse (by rw[M8];exact j),rfl,f _ I3.fresh⟩
end
structure Cl(K:Oa)(mg:Str->Option V')(x:Str)(C:γ):Prop where
 cl:Cls K C
 m:mg x=some (.ref C)
structure Md(K:Oa)(C:γ)(m qual:Str)(st:Ls)(f:γ)(fd:δ)(ps:List Str):Prop where
 F:Fun K m qual st f fd
 b:Binds K fd ps []
 me:Jm K C m f
 isf:W.isFn K (.ref f)=true
theorem mdmk{K:Oa}{st:Ls}{kV:V'}(l:K.lookup f=some ⟨oc,od,.func (W.fnOf m qual (qe9 st) (qd0 st) (qa3 st) .none kV d g e b j),n⟩)(c:W.codeIn K b qual=true)(k:W.keepIn K (.ref f)=true)(a:W.findIn K (.ref C) m=some (some (.ref f)))(i:W.isFn K (.ref f)=true)(h:∀(kV d g:V')(e:Option γ)(b j:V')(us:List V'),us.length=ps.length->bindArgs (W.fnOf m qual (qe9 st) (qd0 st) (qa3 st) .none kV d g e b j) ⟨us,[]⟩=pure (ps.zip us)):Md K C m qual st f (W.fnOf m qual (qe9 st) (qd0 st) (qa3 st) .none kV d g e b j) ps:=⟨qal9 l c k,(qal9 l c k).binds h,⟨a,i,k⟩,i⟩
section
variable{M:Model}{A:Lp}{E:V'->Sh->Prop}{s:Sh}
structure Left(h h':Heap)(f:List γ)(e T:γ)(oe:Obj)(old:Option V'):Prop where
 new:h.objs.size<=T
 keep:∀b o,h.get? b=some o->b≠e->old≠some (.ref b)->b∉f->h'.get? b=some o
 slot:∀b o,h.get? b=some o->b∈f->∃sl,h'.get? b=some {o with slots:=sl}
 there:∀b o,h.get? b=some o->∃o',h'.get? b=some o'
 exc:∃vs oT ts,h'.get? e=some {oe with data:=.fields vs}/\1<vs.size/\vs[1]?=some (.ref T)/\T≠e/\h'.get? T=some oT/\oT.data=.fields ts/\ts[3]?=some .none
theorem qar6{o:Obj}(e:o.data=.fields vs)(g:Array V'->Array V'):Obj.mapFields g o={o with data:=.fields (g vs)}:=by obtain⟨a,b,c,d⟩:=o;cases e;rfl
theorem qG5{base:Heap}{env:Env}{outer:List Env}{L e:γ}{oe:Obj}{c:V'}{P:Bool}{old:Option V'}{Q:Unit->Sh->Prop}(m:A.frames=some (env::outer))(B:s.heap.FunFrames base (env::outer))(R:env.frame=some L)(l:s.heap.get? e=some oe)(g:oe.data=.fields vs)(hsz:1<vs.size)(h:∀h' T,Left s.heap h' ((env::outer).filterMap (·.frame)) e T oe old->Q () {s with heap:=h'}):Ll M A (do let a<-frameOf env;let pl<-entryPlaceOf L P;let b<-EntryCells.newEntry c a .none (rawInt L) .none pl;setField (.ref e) 1 b)
 (λ_ s'=>Ll M A (setFlight (.ref e) none) Q E s') E s:=by
 have i:∀b o n,s.heap.get? b=some o->o.data=.fields n->b∉(env::outer).filterMap (·.frame):=λb o n p q2 q=>by obtain⟨_,W,C,S⟩:=B.mem q;rw[p] at C;cases C;exact S n q2
 refine J' (wpAny_frameOf_fun m B R λg1 p=>?_);refine J' (wpAny_entryPlaceOf λpl r=>?_);unfold EntryCells.newEntry newFields;refine J' (wpAny_newObj_type ?_ (r.sizeOk5 _ _ _ _ _));obtain⟨U,D,F⟩:=p;have G:g1.get? e=some oe:=(D e (i e oe vs l g)).trans l;generalize j:({cls:=.type "traceback",dict:=none,data:=.fields ([c,.ref L,.none,rawInt L,.none]++(if pl.isEmpty then Ma 6 Nx else pl)).toArray}:Obj)=oT;have k:∃t,oT.data=.fields t/\3<t.size:=by refine⟨([c,.ref L,.none,rawInt L,.none]++(if pl.isEmpty then Ma 6 Nx else pl)).toArray,by rw[<-j],?_⟩;simp only[zA5,zAf,zAj,zCm];lia
 have nf:oT.isFreed=false:=by rw[<-j];rfl
 obtain⟨t,k,H⟩:=k;have e2:=zA2 (h:=g1) oT G;refine wpAny_setField e2 g hsz ?_;have u:g1.objs.size≠e:=zCo (zA7 G);have I:=Obj.data_mapFields g (·.setIfInBounds 1 (Nw g1.objs.size));have J:=zBn (Obj.mapFields (·.setIfInBounds 1 (Nw g1.objs.size))) e2 (Obj.isFreed_of_fields I);have K:((g1.push oT).update e (Obj.mapFields (·.setIfInBounds 1 (Nw g1.objs.size)))).get? g1.objs.size=some oT:=(zBd _ _ (Ne.symm u)).trans (zAm g1 nf);unfold setFlight;refine J' (wpAny_field J I (x:=.ref g1.objs.size) (by simp[hsz]) ?_);rw[if_pos (show (Nw g1.objs.size != Nx)=true from by simp)];refine wpAny_setField K k H (h _ g1.objs.size ?_);have keep:∀b o,b≠e->g1.get? b=some o->(((g1.push oT).update e (Obj.mapFields (·.setIfInBounds 1 (Nw g1.objs.size)))).update g1.objs.size (Obj.mapFields (·.setIfInBounds 3 ((none:Option γ).elim Nx λf=>rawInt f)))).get? b=some o:=λb o v w=>by rw[zBd _ _ (zCo (zA7 w)),zBd _ _ (Ne.symm v)];exact zA2 _ w
 have N:(((g1.push oT).update e (Obj.mapFields (·.setIfInBounds 1 (Nw g1.objs.size)))).update g1.objs.size (Obj.mapFields (·.setIfInBounds 3 ((none:Option γ).elim Nx λf=>rawInt f)))).get? e=some {oe with data:=.fields (vs.setIfInBounds 1 (Nw g1.objs.size))}:=by rw[zBd _ _ u,J,qar6 g]
 refine⟨zC0 U.symm,λb o d v w V=>keep b o v ((D b V).trans d),λb o d q=>?_,λb o d=>?_,_,_,_,N,by simpa using hsz,by simp[hsz],u,zBn _ K (Obj.isFreed_of_fields (Obj.data_mapFields k _)),Obj.data_mapFields k _,by simp[H]⟩;{obtain⟨O,y⟩:=F b o d;refine⟨O,keep b _ (λz=>?_) y⟩;subst z;rw[l] at d;cases d;exact i b _ vs l g q};obtain⟨O,y⟩:=F b o d;by_cases z:b=e;{subst z;exact⟨_,N⟩};exact⟨_,keep b _ z y⟩
theorem qF2{base:Heap}{env:Env}{outer:List Env}{L e:γ}{oe:Obj}{Q:Unit->Sh->Prop}(d:A.frames=some (env::outer))(p:s.heap.FunFrames base (env::outer))(r:env.frame=some L)(g:s.heap.get? e=some oe)(i:oe.data=.fields vs)(hsz:1<vs.size)(B:vs[1]?=some .none∨∃T j ts,vs[1]?=some (.ref T)/\T≠e/\s.heap.get? T=some j/\j.data=.fields ts/\ts[3]?=some .none)(h:∀h' T,Left s.heap h' ((env::outer).filterMap (·.frame)) e T oe vs[1]? -> Q () {s with heap:=h'}):Ll M A (noteFrame (.ref e) env) (λ_ s'=>Ll M A (setFlight (.ref e) none) Q E s') E s:=by
 unfold noteFrame;simp only[r];rcases B with k|⟨T,j,ts,k,t,f,c,x⟩;{refine J' (wpAny_field g i k ?_);rw[if_neg ∅];exact qG5 (old:=vs[1]?) d p r g i hsz h};refine J' (wpAny_field g i k ?_);rw[if_pos (show (Nw T != Nx)=true from by simp)];refine J' (wpAny_field f c x ?_);rw[if_neg (show ¬((Nx==rawInt L)=true) from by simp[rawInt])];have C:=(Array.getElem?_eq_some_iff.mp x).1;refine J' (wpAny_setField f c C ?_);have other:∀b,b≠T->(s.heap.update T (Obj.mapFields (·.setIfInBounds 3 Nx))).get? b=s.heap.get? b:=λb a=>zBd _ _ (Ne.symm a);have D:∀b∈(env::outer).filterMap (·.frame),b≠T:=λb l z=>by obtain⟨_,K,m,n⟩:=p.mem l;subst z;rw[f] at m;cases m;exact n ts c
 have F:(s.heap.update T (Obj.mapFields (·.setIfInBounds 3 Nx))).get? T=some {j with data:=.fields (ts.setIfInBounds 3 .none)}:=by rw[zBn _ f (Obj.isFreed_of_fields (Obj.data_mapFields c _)),qar6 c]
 have v:(s.heap.update T (Obj.mapFields (·.setIfInBounds 3 Nx))).FunFrames base (env::outer):=p.of_keeps λb o a w=>⟨o,(other b λz=>by subst z;rw[f] at a;cases a;exact w ts c).trans a,rfl⟩;refine qG5 (s:={s with heap:=s.heap.update T (Obj.mapFields (·.setIfInBounds 3 Nx))}) (old:=vs[1]?) d v r ((other e (Ne.symm t)).trans g) i hsz λh' T' q=>h h' T' ?_;obtain⟨G,q2,m,n,H⟩:=q;refine⟨by rwa[show (s.heap.update T (Obj.mapFields (·.setIfInBounds 3 Nx))).objs.size=s.heap.objs.size from Heap.size_update _ _ _] at G,λb o a I y J=>?_,λb o a l=>m b o ((other b (D b l)).trans a) l,λb o a=>?_,H⟩;{exact q2 b o ((other b λz=>y (by rw[k,z])).trans a) I y J};by_cases z:b=T;{subst z;exact n _ _ F};exact n b o ((other b z).trans a)
end
end L2
namespace L2
open PySem PySem.Spec PyProof.Rows Builtin Builtin.ObjectAttr
variable{ox:Obj}
noncomputable def Jt:List V'->Bool|.ref _::r=>Jt r|.type n::r=>N3 n::r==[.type "ValueError",.type "Exception",.type "BaseException",.type "object"]|_=>false
theorem qK7(self:V'):∀{l:List V'},Jt l=true->refuseLoop self "__setattr__" l=pure ():=by intro l;induction l with|nil=>intro e;cases e|cons c r b=>intro e;cases c with|ref a=>rw[refuseLoop_ref];exact b e|type n=>rw[show (N3 n::r)=[.type "ValueError",.type "Exception",.type "BaseException",.type "object"] from zBj.mp e];exact F.store_ValueError.passes self|_=>cases e
structure Exc(K:Oa)(C:γ):Prop where
 mro:(W.clsIn K C).any (λcd=>Jt cd.mro)=true
 hd:W.hasDictIn K C=true
 kts:W.ktsIn K C "ValueError"=true
 sa:W.findIn K (.ref C) "__setattr__"=some (some (.builtin "object.__setattr__"))
 ga:W.findIn K (.ref C) "__getattribute__"=some (some (.builtin "BaseException.__getattribute__"))
 gt:W.findIn K (.ref C) "__getattr__"=some none
 be:W.mroIn K C (.type "BaseException")=some true
 ob:W.mroIn K C (.type "object")=some true
 ty:W.typeIn K (.ref C)=some (.type "type")
section
variable{prog:Ln}{w:Lq}{A:Lp}{E:V'->Sh->Prop}{s:Sh}{K:Oa}{x C:γ}{name:Str}{v:V'}
theorem qat4{R:Result->Sh->Prop}{od:Option Obj}{a:Tok}(X:K.In s.heap)(I:W.InstAt s.heap x ox C od)(c:Exc K C)(b:W.findIn K (.ref C) name=some none)(h:Ll (Lm prog w) A.in1 (storeInOwnDict (.ref x) (.ref C) (.str name a) name v false)
 (λfin s'=>match fin with | .done f=>R (.ok f) s' | .again c'=>c'.quiet=true/\codeAny (Lm prog w) A c' R s') (λe s'=>R (.error e) s') s):codeAny (Lm prog w) A (.call (.builtin "object.__setattr__") ⟨[.ref x,.str name a,v],[]⟩) R s:=by have SF:=F.store_object;obtain⟨d,g,i⟩:=W.any_some c.mro;refine codeAny_call_builtin SF.slot.plain SF.entry (@W.check_slot (Lm prog w) _ _ s "object.__setattr__" "object" "__setattr__" (.ref x) [.str name a,v] [] _ SF.kind SF.split (I.type.andThen (W.looks_mroIn X c.ob)) (SF.args (.ref x) (.str name a) v) ?_);have j:W.Looks (Lm prog w) s.heap (mroOf (.ref C)) d.mro:=(W.looks_clsIn X g).andThen .now;rw[W.osa_eq,refuse_eq];refine J' (J' (I.type.here (J' (j.here ?_))));rw[qK7 _ i];exact Kv (J' (I.type.here (J' ((W.looks_findIn X b).here (J' (Kv h))))))
theorem qaC5{Q:Unit->Sh->Prop}{vs:Array V'}(X:K.In s.heap)(c:Exc K C)(i:s.heap.get? x=some ox)(a:ox.cls=.ref C)(d:ox.data=.fields vs)(f:ox.dict=none)(u:W.findIn K (.ref C) name=some none)(h:∀h' j,h'.get? x=some {ox with dict:=some s.heap.objs.size}->h'.Ns1 s.heap.objs.size (λy=>if y=name then some v else none)->(∀b o,b≠x->s.heap.get? b=some o->h'.get? b=some o)->Q () {s with heap:=h',toks:=j}):Ll (Lm prog w) A (setAttr (.ref x) name v) Q E s:=by obtain⟨M,z,B,g⟩:=ox;dsimp only at a d f;subst a d f;have I:W.InstAt s.heap x ⟨.ref C,none,.fields vs,g⟩ C none:=⟨i,rfl,rfl,True.intro⟩;refine W.set_plain X I c.sa (qat4 X I c u ?_);obtain⟨N,D,k⟩:=W.any_some c.hd;refine J' (Kv (J' (J' (wpAny_loadPart i (J' (W.Looks.here (W.looks_clsIn X D) ?_))))));rw[k];have p:(s.heap.push {cls:=.type "dict",data:=.dict #[]}).get? x=some ⟨.ref C,none,.fields vs,g⟩:=zA2 _ i;have q:x≠s.heap.objs.size:=zAi (zA7 i);rw[if_neg (by simp[typeHasDict])];refine J' (wpAny_alloc ?_);refine J' (wpAny_update p (Kv ?_));have gd:((s.heap.push {cls:=.type "dict",data:=.dict #[]}).update x λo=>{o with dict:=some s.heap.objs.size}).get? s.heap.objs.size=some {cls:=.type "dict",data:=.dict #[]}:=(Heap.get?_update_ne _ _ _ _ (Ne.symm q)).trans (Heap.get?_push_at rfl rfl);have F:((s.heap.push {cls:=.type "dict",data:=.dict #[]}).update x λo=>{o with dict:=some s.heap.objs.size}).Ns s.heap.objs.size (λ_=>none):=⟨_,#[],_,gd,rfl,λe G=>absurd G (by simp),λ_=>rfl⟩;unfold storeInDict newKeyGuard;refine J' (Kv (J' (wpAny_nsSet1 (Heap.Ns1.of_empty F) λh' r t=>?_)));obtain⟨O,H,J,l,m,n⟩:=r.count (Within.cons name v Within.nil);refine J' (wpAny_lookBehind l (by rw[m];exact pastItsLine_dict (zAg n (by rw[zAj,zCm,K8];lia))) ?_);refine Kv (h h' _ ?_ r λb o L e=>?_);{exact(t.2 x q).trans (zBn _ p rfl)};exact(t.2 b (zAi (zA7 e))).trans ((Heap.get?_update_ne _ _ _ _ L).trans (zA2 _ e))
theorem qaC4{Q:Unit->Sh->Prop}{vs:Array V'}{dx:γ}{mA:Str->Option V'}{ns:List Str}(X:K.In s.heap)(c:Exc K C)(p:s.heap.get? x=some ox)(a:ox.cls=.ref C)(d:ox.data=.fields vs)(f:ox.dict=some dx)(q:s.heap.Ns1 dx mA)(t:Within mA ns)(M:ns.length<=1000)(u:W.findIn K (.ref C) name=some none)(h:∀h' g,h'.Ns1 dx (λy=>if y=name then some v else mA y)->(∀b o,b≠dx->s.heap.get? b=some o->h'.get? b=some o)->Q () {s with heap:=h',toks:=g}):Ll (Lm prog w) A (setAttr (.ref x) name v) Q E s:=by obtain⟨N,z,B,i⟩:=ox;subst a d f;obtain⟨D,j,_⟩:=qo6 q;have I:W.InstAt s.heap x ⟨.ref C,some dx,.fields vs,i⟩ C (some D):=⟨p,rfl,rfl,j⟩;refine W.set_plain X I c.sa (qat4 X I c u ?_);obtain⟨O,F,k⟩:=W.any_some c.hd;refine J' (Kv (J' (J' (wpAny_loadPart p (J' (W.Looks.here (W.looks_clsIn X F) ?_))))));rw[k];refine Kv (J' (Kv (J' ?_)));refine wpAny_nsSet1 q λh' r G=>?_;obtain⟨P,H,J,l,m,n⟩:=r.count (Within.cons name v t);refine J' (wpAny_lookBehind l (by rw[m];exact pastItsLine_dict (zAg n (by rw[zAj,K8];lia))) ?_);exact Kv (h h' _ r λb o L e=>(G.2 b L).trans e)
theorem qaQ4{Q:V'->Sh->Prop}{od:Obj}{expr:Bool}(X:K.In s.heap)(c:Exc K C)(I:W.InstAt s.heap x ox C (some od))(b:W.findObj K C (some od) name=some (.value v))(e:W.handedIn v=true)(h:∀a,Q v {s with toks:=a}):Ll (Lm prog w) A (getAttr (.ref x) name expr) Q E s:=by
 have FB:=Om;obtain⟨k,g,d,t,l⟩:=s;have L0:=I.type (M:=Lm prog w);have L1:=W.looks_findIn (M:=Lm prog w) X c.ga;have L2:=W.looks_findIn (M:=Lm prog w) X c.gt;have L3:=W.looks_find (M:=Lm prog w) X I b;have f:builtinKind "BaseException.__getattribute__"=some .slot:=by decide +kernel
 have i:splitId "BaseException.__getattribute__"=some ("BaseException", "__getattribute__"):=by decide +kernel
 unfold getAttr getAttrBy;refine J' (wpAny_mkText (K4 (J' (L0.at (J' (L1.at ?_))))));dsimp only;have j:(N0 "BaseException.__getattribute__"==N0 "object.__getattribute__")=false:=by decide +kernel
 rw[j,Bool.and_false,if_neg zAs];unfold getAttrByItsOwn hookBefore;refine J' ?_;rw[if_pos (by rfl)];refine L2.at ?_;unfold callGetattribute boundAndCalled;rw[if_neg (by cases expr<;>decide)];refine J' (wpAny_attempt (K4 ?_));rw[FB.ga.bind (.ref x)];refine J' (Kv (wpAny_call ?_));refine codeAny_call_builtin FB.ga.plain Ov (@W.check_slot (Lm prog w) _ _ _ "BaseException.__getattribute__" "BaseException" "__getattribute__" (.ref x) [.str name t] [] _ f i (L0.andThen (W.looks_mroIn X c.be)) (Ow (.ref x) (.str name t)) ?_);unfold Builtin.«object.__getattribute__»;refine J' (Kv (J' (Kv (J' (L0.at (J' (L3.at ?_)))))));refine Kv ?_;show Ll _ _ (handedOut v) _ _ _;rw[W.handedOut_of e];exact Kv (h _)
end
end L2
namespace L2
open PySem PySem.Spec PyProof.Rows
variable{Q:Unit->Sh->Prop}{fr:Bool}{xe:V'->Sh->Prop}
noncomputable abbrev mroVE:List V':=[.type "ValueError",.type "Exception",.type "BaseException",.type "object"]
def G5(K:Oa)(C:γ):Bool:=W.ktsIn K C "ValueError" && (K.lookup C).any λo=>o.slots.toList[4]?==some (some (.builtin "ValueError.__new__"))&&(match o.data with|.cls cd=>W.tailIn K mroVE cd.mro.tail|_=>false)
theorem qae9{K:Oa}{h:Heap}{C:γ}(X:K.In h)(q:G5 K C=true):∃f g N bs d a i sub j b k l m p r s,
 h.get? C=some (excClassObj f g C N bs d a i sub j b k l m p r s "ValueError.__new__")/\OwnTail h mroVE d:=by unfold G5 at q;rw[zB0] at q;obtain⟨f,g,N,bs,d,a,i,sub,j,b,k,l,m,p,r,s,n,t,_⟩:=W.kts_cls X q.1;have q2:=q.2;rw[Option.any_eq_true] at q2;obtain⟨o,u,q2⟩:=q2;have e:=(X _ _ u).symm.trans t;injection e with e;subst e;rw[zB0] at q2;have c:=eq_of_beq q2.1;injection c with c;injection c with c;injection c with c;subst c;exact⟨f,g,N,bs,d,a,i,sub,j,b,k,l,m,p,r,s,t,W.tail_of_in X q2.2⟩
section
variable{prog:Ln}{w:Lq}{A:Lp}{K:Oa}{C R:γ}{h:Heap}{g:Array GenState}{d:Drawn}{t:Nat}{S:OsState}
theorem qam7{rest:List V'}{Q:Fin->Sh->Prop}{E:V'->Sh->Prop}(X:K.In h)(m:G5 K C=true)(hi:W.findIn K (.ref C) "__init__"=some (some (.ref R)))(i:W.typeIn K (.ref R)=some (.type "function"))(hrest:rest.length<=Kx)(j:Ll (Lm prog w) A (call (.ref R) (.ref (h.objs.size+1)::rest)) (λr s'=>r=.none/\Q (.done (.ret (.ref (h.objs.size+1)))) s') E
 ⟨(h.push {cls:=.type "tuple",data:=.seq rest.toArray}).push {cls:=.ref C,data:=.fields #[.ref h.objs.size,.none,.none,.none,.bool false,.none]},g,d,t,S⟩):Ll (Lm prog w) A (Builtin.«type.__call__» ⟨.ref C::rest,[]⟩) Q E ⟨h,g,d,t,S⟩:=by
 have F:=PySem.F.excBase_ValueError;obtain⟨v,x,N,y,k,f,B,sub,D,l,G,H,I,J,L,O,a,T⟩:=qae9 X m;repeat (first|with_reducible refine La a ?_|with_reducible refine wpAny_madeBy_exc a ?_|wp_step)
 refine codeAny_call_builtin_code (Code.quiet_builtin _ F.quiet) (wpAny_check_new_subT F T a ?_);refine codeAny_exc_new_subT F T a ?_ hrest;show Ll _ _ _ _ _ _;have c:∀b o,h.get? b=some o->((h.push {cls:=.type "tuple",data:=.seq rest.toArray}).push {cls:=.ref C,data:=.fields #[.ref h.objs.size,.none,.none,.none,.bool false,.none]}).get? b=some o:=λb o e=>zA2 _ (zA2 _ e);have n:=c _ _ a;have p:((h.push {cls:=.type "tuple",data:=.seq rest.toArray}).push {cls:=.ref C,data:=.fields #[.ref h.objs.size,.none,.none,.none,.bool false,.none]}).get? (h.objs.size+1)=some {cls:=.ref C,data:=.fields #[.ref h.objs.size,.none,.none,.none,.bool false,.none]}:=by heap_get
 have q:(Nw C::k).contains (.ref C)=true:=by simp
 unfold isInstance;repeat (first|with_reducible refine La p ?_|(with_reducible refine wpAny_isSubtype_exc n ?_;rw[q])|wp_step)
 show Ll _ _ (typeLookup (.ref C) _) _ _ _;have s:=(W.looks_findIn (M:=Lm prog w) X hi).keeps c;have u:=(W.bind_fn (M:=Lm prog w) X (.ref (h.objs.size+1)) i).keeps c;refine s.at (K4 (J' (u.at (J' (Ld j (λr s' z=>?_) λ_ _ z=>z)))));obtain⟨rfl,z⟩:=z;exact Kv (Kv z)
theorem qaC6{rest:List V'}{Q E:V'->Sh->Prop}(X:K.In h)(m:G5 K C=true)(hi:W.findIn K (.ref C) "__init__"=some (some (.ref R)))(c:W.typeIn K (.ref R)=some (.type "function"))(hrest:rest.length<=Kx)(e:Ll (Lm prog w) (A.under (.builtin "type.__call__" ⟨.ref C::rest,[]⟩)) (call (.ref R) (.ref (h.objs.size+1)::rest)) (λr s'=>r=.none/\Q (.ref (h.objs.size+1)) s') E
 ⟨(h.push {cls:=.type "tuple",data:=.seq rest.toArray}).push {cls:=.ref C,data:=.fields #[.ref h.objs.size,.none,.none,.none,.bool false,.none]},g,d,t,S⟩):Ll (Lm prog w) A (call (.ref C) rest) Q E ⟨h,g,d,t,S⟩:=by
 obtain⟨i,j,N,k,l,b,n,sub,o,f,p,q,s,u,v,x,a,T⟩:=qae9 X m;have f1:=tc_lookup;have f2:=tc_bind (.ref C);have y:(⟨h,g,d,t,S⟩:Sh).TypeIs (.ref C) "type" := ⟨_,a,rfl⟩;refine wpAny_call (codeAny_of_tree ?_);repeat (any_goals (first|assumption|with_reducible refine La a ?_|wp_step))
 exact⟨rfl,(codeAny_call_builtin_at (Code.quiet_builtin _ (by decide +kernel)) entry_typeCall (wpAny_check_type_call_sub a (qam7 X m hi c hrest e)))⟩
end
section
variable{M:Model}{A:Lp}{E:V'->Sh->Prop}{s:Sh}{env:Env}
theorem qZ9{K:Oa}{x:Sem V'}{Q:Flow->Sh->Prop}(l:A.handled=none)(h:Ll M A x (λv s₁=>∃e oe vs C,v=.ref e/\K.In s₁.heap/\Exc K C/\s₁.heap.get? e=some oe/\oe.cls=.ref C/\oe.data=.fields vs/\vs[1]?=some .none/\E (.ref e) s₁) E s):Ll M A (raiseStmt env (some x) none) Q E s:=by
 unfold raiseStmt;refine J' (Ld h (λv s₁ q=>?_) λ_ _ x=>x);obtain⟨e,oe,vs,C,rfl,X,c,i,a,b,m,n⟩:=q;obtain⟨y,o,p,r⟩:=oe;subst a b;obtain⟨z,B,N,D,t,j,F,sub,G,u,H,I,J,L,O,P,newId,k,w,_⟩:=W.kts_cls X c.kts;obtain⟨R,g,d,S,T⟩:=s₁;have f:(Nw C::t).contains (.type "BaseException")=true:=by rw[Nc,w,Bool.or_true]
 repeat (first|with_reducible refine La i ?_|with_reducible refine La k ?_|(with_reducible refine wpAny_isSubtype_exc k ?_;rw[f])|with_reducible refine wpAny_field i rfl m ?_|wp_step)
 exact wpAny_raiseNew_none l n
theorem qam9{K:Oa}{e C D:γ}{oe:Obj}{b:Bool}{Q:Bool->Sh->Prop}(X:K.In s.heap)(d:Exc K D)(k:s.heap.get? e=some oe)(a:oe.cls=.ref C)(hm:W.mroIn K C (.ref D)=some b)(h:Q b s):Ll M A (excMatches (.ref e) (.ref D)) Q E s:=by
 obtain⟨o,p,N,q,l,i,r,sub,t,m,u,v,w,x,y,z,newId,j,n,_⟩:=W.kts_cls X d.kts;obtain⟨B,g,F,G,H⟩:=s;have c:(Nw D::l).contains (.type "BaseException")=true:=by rw[Nc,n,Bool.or_true]
 have f:=tc_notTuple;unfold excMatches;repeat (first|(with_reducible refine La k ?_;rw[a])|with_reducible refine La j ?_|(with_reducible refine wpAny_isSubtype_exc j ?_;rw[c])|with_reducible refine(W.looks_mroIn X hm).at ?_|wp_step)
 cases b<;>(wp_walk;exact h)
end
def Ju(e C:γ)(od:Option γ)(fr:Bool)(h:Heap):Prop:=∃oe vs,h.get? e=some oe/\oe.cls=.ref C/\oe.dict=od/\oe.data=.fields vs/\1<vs.size/\(fr=true->vs[1]?=some .none)
noncomputable abbrev Bi(e C:γ)(od:Option γ)(fr:Bool):HO:=.ext (Ju e C od fr)
def xdIs(d:γ)(fs:List (Str×V))(h:Heap):Prop:=∃mA,h.Ns1 d mA/\(∀f,RelO (fs.lookup f) (mA f))/\PySem.Within mA (fs.map (·.1))/\fs.length<=1000
abbrev XD(d:γ)(fs:List (Str×V)):HO:=.ext (xdIs d fs)
section
variable{P:Ln}{w:Lq}{H:Hp}{h:Heap}
theorem qam8{e C:γ}{od:Option γ}(q:Ju e C od fr h):ObjOk P w H h e (Bi e C od fr):=⟨q,let ⟨c,_,a,_⟩:=q;⟨c,a⟩,λf g ⟨c,d,a,b⟩ k=>⟨c,d,k _ a,b⟩⟩
theorem xd_ok{d:γ}{fs:List (Str×V)}(q:xdIs d fs h):ObjOk P w H h d (XD d fs):=⟨q,let ⟨_,⟨o,_,_,a,_⟩,_⟩:=q;⟨o,a⟩,λg i ⟨c,⟨o,e,f,a,r⟩,b⟩ k=>⟨c,⟨o,e,f,k _ a,r⟩,b⟩⟩
theorem qG4{e C:γ}{od:Option γ}(a:HOk P w H h)(q:H e=some (Bi e C od fr)):Ju e C od fr h:=(a e _ q).1
theorem Hy{d:γ}{fs:List (Str×V)}(a:HOk P w H h)(q:H d=some (XD d fs)):xdIs d fs h:=(a d _ q).1
end
section
variable{X:Cx}{E6:List (γ×Obj)}{Z:St}{H:Hp}{s:Sh}{a C dx:γ}{fs:List (Str×V)}{f:Str}{v:V}{A:Lp}{E:V'->Sh->Prop}
theorem qaC8{y:V}{u:V'}(I:Pb X E6 Z H s)(e:H a=some (Bi a C none true))(c:Exc X.K C)(n:qd7 X.K C f)(G:O8 y u)(h:∀dx s',H dx=none->dx≠a->Pb X E6 Z (upd (upd H dx (XD dx [(f,y)])) a (Bi a C (some dx) true)) s'->Q () s'):Ll (Lm X.prog X.w) A (setAttr (.ref a) f u) Q E s:=by obtain⟨T,J,q,t,L,v,M,N⟩:=qG4 I.hok e;refine qaC5 I.kIn c q t v L n λU m x q2 l=>?_;have j:H s.heap.objs.size=none:=I.hok.fresh (zA3 _);refine h s.heap.objs.size _ j (Ne.symm (zAi (zA7 q))) (I.un (t':=m) ⟨λb o z i _ _=>l b o (λd=>?_) z,λb o z i _ _=>⟨o.slots,l b o (λd=>?_) z⟩,λb o z i _=>?_,λb o z _=>?_,λb B z=>?_,λb W B z=>?_,λb Y z=>?_⟩ λb O z=>?_);{rw[d,e] at i;cases i};{rw[d,e] at i;cases i};{rw[qb4 (λd=>by rw[d,e] at i;cases i),qb4 ((λb o z=>zAi (zA7 z)) b o z)];exact i};{by_cases d:b=a;{rw[d];exact⟨_,x⟩};exact⟨o,l b o d z⟩};{rw[qb4 (λd=>by rw[d,e] at z;cases z),qb4 (qc2 z j)];exact z};{rw[qb4 (λd=>by rw[d,e] at z;cases z),qb4 (qc2 z j)];exact z};{exact⟨#[],by rw[qb4 (λd=>by rw[d,e] at z;cases z),qb4 (qc2 z j)];simpa using z⟩};by_cases D:b=a;{subst D;rw[qb3] at z;cases z;exact qam8 ⟨_,J,x,t,rfl,v,M,N⟩};rw[qb4 D] at z;by_cases F:b=s.heap.objs.size;{subst F;rw[qb3] at z;cases z;refine xd_ok ⟨_,q2,λg=>?_,λg P=>?_,by simp⟩;{show RelO (([(f,y)]:List (Str×V)).lookup g) (if g=f then some u else none);by_cases k:g=f;{subst k;rw[if_pos rfl];simp only[Me,zBb];exact G};have:(g==f)=false:=zBm.mpr k;simp[Me,this,k,RelO]};by_cases k:g=f;{simp[k]};exact absurd (by show (if g=f then some u else none)=none;rw[if_neg k]) P};rw[qb4 F] at z;refine(I.hok b O z).stay (λp R S r=>l p R ?_ r) (λp r=>?_) λp B r=>?_;{grind};{rw[qb4 (λd=>by rw[d,e] at r;cases r),qb4 (qc2 r j)];exact r};rw[qb4 (λd=>by rw[d,e] at r;cases r),qb4 (qc2 r j)];exact r
theorem qaC7{y:V}{u:V'}(I:Pb X E6 Z H s)(e:H a=some (Bi a C (some dx) true))(b:H dx=some (XD dx fs))(D:fs.length<1000)(c:Exc X.K C)(n:qd7 X.K C f)(k:O8 y u)(h:∀s',Pb X E6 Z (upd H dx (XD dx (Bn f y fs))) s'->Q () s'):Ll (Lm X.prog X.w) A (setAttr (.ref a) f u) Q E s:=by obtain⟨F,G,l,m,p,t,J,L⟩:=qG4 I.hok e;obtain⟨d,v,r,i,_⟩:=Hy I.hok b;refine qaC4 I.kIn c l m t p v i (by rw[zAb];lia) n λM x j q2=>h _ ?_;refine I.write (by rw[b];exact True.intro) (.inl rfl) q2 (let ⟨o,_,_,z,_⟩:=j;⟨o,z⟩) (xd_ok ⟨_,j,λg=>?_,λg B=>?_,?_⟩);{show RelO ((Bn f y fs).lookup g) (if g=f then some u else d g);rw[qs1];by_cases q:g=f;{rw[if_pos q,if_pos q];exact k};rw[if_neg q,if_neg q];exact r g};{by_cases q:g=f;{rw[q];exact(qp0 f y fs).1};refine(qp0 f y fs).2 g (i g λz=>B ?_);show (if g=f then some u else d g)=none;rw[if_neg q];exact z};have:=qs3 f y fs;lia
theorem qaQ9{b:Bool}{Q:V'->Sh->Prop}(I:Pb X E6 Z H s)(e:H a=some (Bi a C (some dx) fr))(i:H dx=some (XD dx fs))(c:Exc X.K C)(n:qd7 X.K C f)(l:fs.lookup f=some v)(h:∀u s',Pb X E6 Z H s'->O8 v u->Q u s'):Ll (Lm X.prog X.w) A (getAttr (.ref a) f b) Q E s:=by obtain⟨j,F,k,m,o,p,_⟩:=qG4 I.hok e;obtain⟨G,q,r,J,_⟩:=Hy I.hok i;obtain⟨u,t,g⟩:=RelO.some_of (by rw[<-l];exact r f);obtain⟨L,x,d⟩:=qo6 q;obtain⟨M,y,z,B⟩:=j;subst m o p;exact qaQ4 I.kIn c (⟨k,rfl,rfl,x⟩) (W.findObj_own c.hd n rfl (by rw[d,t])) (qQ5 g) λD=>h u _ (I.tok D) g
end
structure Fly(n:Nat)(H:Hp)(h:Heap)(a:γ):Prop where
 ge:n<=a
 tr:∃C od,H a=some (Bi a C od false)
 ob:∃oe vs,h.get? a=some oe/\oe.data=.fields vs/\1<vs.size/\(vs[1]?=some .none∨∃T oT ts,vs[1]?=some (.ref T)/\n<=T/\H T=none/\T≠a/\h.get? T=some oT/\oT.data=.fields ts/\ts[3]?=some .none)
theorem Fly.mono{m n:Nat}{H:Hp}{h:Heap}{a:γ}(F:Fly n H h a)(l:m<=n):Fly m H h a:=by obtain⟨b,c,d,e,f,g⟩:=F.ob;refine⟨zAg l F.ge,F.tr,b,c,d,e,f,?_⟩;rcases g with z|⟨T,i,j,k,o,z⟩;{exact .inl z};exact .inr ⟨T,i,j,k,zAg l o,z⟩
def CX1(P:Ln)(w:Lq):CXT:=λouter H s E e s'=>∃a H',e=.ref a/\s'.os=s.os/\AllBare s'.gens/\Un (frs outer) [] H H' s.heap s'.heap/\HOk P w H' s'.heap/\Fly s.heap.objs.size H' s'.heap a/\E e none H'
structure Old(X:Cx)(E6:List (γ×Obj))(n:Nat):Prop where
 st:X.s₀.heap.objs.size<=n
 loc:X.env.locals<n
 cell:∀x c,X.env.cells.lookup x=some c->c<n
 pin:∀p∈X.pn++E6,p.1<n
theorem Pb.old{X:Cx}{E6:List (γ×Obj)}{b:St}{H:Hp}{s:Sh}(I:Pb X E6 b H s):Old X E6 s.heap.objs.size:=⟨I.sz,I.lt,λx c e=>let ⟨_,_,z,_⟩:=I.cell x c e;zA7 z,λp a=>zA7 (I.pin p a).1⟩
noncomputable def G6:Option V'->List γ|some (.ref b)=>[b]|_=>[]
section
variable{X:Cx}{E6:List (γ×Obj)}{σ:St}{H:Hp}{s:Sh}{a T:γ}{n:Nat}{h':Heap}{oe:Obj}{vs:Array V'}
theorem Pb.left(I:Pb X E6 σ H s)(F:Fly n H s.heap a)(O:Old X E6 n)(m:s.heap.get? a=some oe)(N:oe.data=.fields vs)(L:Left s.heap h' (frs X.stack) a T oe vs[1]?):Pb X E6 σ H {s with heap:=h'}/\Fly n H h' a:=by
 obtain⟨C,P,i⟩:=F.tr;obtain⟨t,y,D,q2,q3,E⟩:=F.ob;rw[m] at D;cases D;rw[N] at q2;cases q2;obtain⟨G,Q,R,J,e2,S,V,W,Y,Z⟩:=L.exc;have j:∀b,vs[1]?=some (.ref b)->n<=b/\H b=none/\b≠a:=λb z=>by rcases E with q|⟨T',_,_,q,r1,r2,r3,_⟩;{rw[q] at z;cases z};rw[q] at z;cases z;exact⟨r1,r2,r3⟩
 have A:HOk X.prog X.w H h':=λb u h=>by by_cases z:b=a;{subst z;rw[i] at h;cases h;obtain⟨t,y,p1,p2,p3,p4,p5,p6⟩:=qG4 I.hok i;rw[m] at p1;cases p1;exact qam8 ⟨_,G,J,p2,p3,rfl,e2,λz=>nomatch z⟩};have K:∀c,H c≠none->c∉frs X.stack:=λc d hm=>d (I.stkFree c hm);refine(I.hok b u h).stay (λc v d r=>L.keep c v r ?_ (λf=>?_) ?_) (λ_ z=>z) λ_ _ z=>z;{rcases d with rfl|d;{exact z};intro f;rw[f,i] at d;cases d};{have:=(j c f).2.1;grind};rcases d with rfl|d;{exact K c (by rw[h];exact λz=>nomatch z)};exact K c (by rw[d];exact λz=>nomatch z)
 refine⟨?_,F.ge,⟨C,P,i⟩,_,G,J,rfl,e2,.inr ⟨T,Q,R,S,zAg (zAg F.ge (zBh (zA7 m))) L.new,I.hok.fresh L.new,V,W,Y,Z⟩⟩;have k:∀b,b∈G6 vs[1]? ↔ vs[1]?=some (.ref b):=λb=>by rcases E with q|⟨T',_,_,q,_⟩;{rw[q];simp[G6]};rw[q];simp[G6,eq_comm]
 have U:Un (frs X.stack) (G6 vs[1]?) H H s.heap h':=by refine⟨λb o z l B M=>L.keep b o z (λf=>?_) (λf=>M ((k b).mpr f)) B,λb o z l B M=>L.slot b o z B,λ_ _ _ l _=>l,λb o z _=>L.there b o z,λ_ _ z=>z,λ_ _ _ z=>z,λb ps z=>⟨#[],by rw[z];simp⟩⟩;rw[f,i] at l;cases l
 exact I.call (g':=s.gens) (t':=s.toks) (d':=s.drawn) (ch:=G6 vs[1]?) U A I.bare λb h=>by have g:=(j b ((k b).mp h)).1;refine⟨.inr (zAg O.st g),zCo (zAc O.loc g),λx c e=>zAi (zAc (O.cell x c e) g),λp hp=>zAi (zAc (O.pin p hp) g)⟩
end
def Lands(X:Cx)(E:St->XK):Prop:=∀(E6:List (γ×Obj))(b:St)(H:Hp)(s:Sh)(a:γ)(n:Nat),Pb X E6 b H s->Fly n H s.heap a->Old X E6 n->E b (.ref a) none H->X.xe (.ref a) s
theorem Lands.passes{X:Cx}{E:St->XK}(h:Lands X E):qH2 (CX1 X.prog X.w) X E:=λE6 g H s e b I q=>by
 obtain⟨a,H',rfl,c,d,u,f,F,q⟩:=q;exact h E6 g H' b a _ (I.call' c u f d λ_ z=>nomatch z) F I.old q
theorem qa1{cm:Bool}{P:Ln}{w:Lq}{K:Oa}{mg:Str->Option V'}{base:Heap}{N:List Str}{qual:Str}{scope:Scope}{f:γ}{cd:V'}{A:Lp}{outer:List Env}{s₀:Sh}{H₀:Hp}{E:XK}:Lands (E8 cm (CX1 P w) P w K mg base N qual scope f cd A outer s₀ H₀ E) (λ_=>E):=λE6 t H s a n I F O q=>by
 obtain⟨o,p,b,c,d,e⟩:=id F.ob;show Ll _ _ (leaving _ _) _ _ s;unfold leaving;refine J' (qF2 I.ok.frames I.stack rfl b c d ?_ λr T L=>?_)
 .rcases e with z|⟨T,g,h,i,_,_,j,k,l,m⟩
  .exact .inl z
  exact .inr ⟨T,g,h,i,j,k,l,m⟩
 obtain⟨J,F'⟩:=I.left F O b c L;exact⟨a,H,rfl,J.os,J.bare,J.base,J.hok,F'.mono O.st,q⟩
section
variable{X:Cx}{o e B:Lr}{pos pos':Pos}{E tv:TE}{f:Str}
def sEF(K:Oa)(E tv:TE)(f:Str):TS:=λD A H=>tv A H λy H1=>E A H1 λx H2=>∃a C,x=.ref a/\Exc K C/\qd7 K C f/\((H2 a=some (Bi a C none true)/\∀dx,H2 dx=none->dx≠a->D.nx A (upd (upd H2 dx (XD dx [(f,y)])) a (Bi a C (some dx) true)))
  ∨ ∃dx fs,H2 a=some (Bi a C (some dx) true)/\H2 dx=some (XD dx fs)/\fs.length<1000/\D.nx A (upd H2 dx (XD dx (Bn f y fs))))
theorem qaJ4(g:PE X o E)(i:PE X B tv)(j:swapsWith B (some (.Attribute o f pos')) pos.line X.env=pure false:=by rfl):PS X (.Assign [.Attribute o f pos'] B pos) (sEF X.K E tv f):=by intro E6 s A H D I h;refine plainObj_wpAny_Assign_Attribute (thn (i E6 s A H _ I h) λu k b=>?_) j;obtain⟨y,H1,I1,d,q⟩:=b;refine thn (g E6 k A H1 _ I1 q) λl w b=>?_;obtain⟨x,H2,I2,m,a,C,p,c,n,q2⟩:=b;subst p;obtain rfl:l=Nw a:=m;rcases q2 with⟨ea,q2⟩|⟨e,fs,ea,ed,hl,q2⟩;{exact qaC8 I2 ea c n d λe r t v I3=>⟨A,_,I3,q2 e t v⟩};exact qaC7 I2 ea ed hl c n d λr I3=>⟨A,_,I3,q2⟩
def tEF(K:Oa)(E:TE)(f:Str):TE:=λA H Q=>E A H λx H1=>∃a C dx fr fs v,x=.ref a/\H1 a=some (Bi a C (some dx) fr)/\H1 dx=some (XD dx fs)/\Exc K C/\qd7 K C f/\fs.lookup f=some v/\Q v H1
theorem qaK9(d:PE X e E)(g:K7 e f X.env (eval e X.env)=eval e X.env:=by rfl):PE X (.Attribute e f pos) (tEF X.K E f):=by intro E6 s A H Q I h;refine qau0 g (thn (d E6 s A H _ I h) λu p b=>?_);obtain⟨x,H1,I1,i,a,C,r,t,w,v,j,k,m,c,n,l,q⟩:=b;subst j;obtain rfl:u=Nw a:=i;exact qaQ9 I1 k m c n l λy z I2 o=>⟨v,H1,I2,o,q⟩
theorem qaK6{x:Str}(C:γ){pos:Pos}(hm:X.mg x=some (.ref C))(a:Gl X x:=by rfl)(b:N' x:=by decide):PE X (.Name x pos) (tC (.ref C)):=qaa8 a hm rfl b
end
structure MkE(K:Oa)(C f:γ):Prop where
 exc:Exc K C
 mke:G5 K C=true
 init:W.findIn K (.ref C) "__init__"=some (some (.ref f))
 fn:W.isFn K (.ref f)=true
 kp:W.keepIn K (.ref C)=true
def qaU2(C:γ)(sp:Sp)(E:St->XK)(t:TA):TS:=λD c H=>t c H λvs H1=>vs.length<=1000/\∀a,H1 a=none->sp (.ref a::vs) (upd H1 a (Bi a C none true)) (λv H2=>v=.non/\∃b,H2 a=some (Bi a C b true)/\E c (.ref a) none (upd H2 a (Bi a C b false))) E0
section
variable{X:Cx}{k:Nat}{f C:γ}{fd:δ}{ps:List Str}{sp:Sp}{E:St->XK}{x:Str}{np cpos pos:Pos}{e:Lr}{es:List Lr}{t:TA}
theorem qax0(M:MkE X.K C f)(F:Fi X.prog X.w X.K X.mg X.base CX0 k f fd ps sp)(J:Room (k+1) X.A)(hm:X.mg x=some (.ref C))(T:Binds X.K fd ps [])(U:Lands X E)(Y:PA X (e::es) t)(Z:Gl X x:=by rfl)(l:N' x:=by decide)(he:Kw (e::es) X.env=(false,eval e X.env)::Kw es X.env:=by rfl)(m:(backTo cpos (Kw es X.env)).any (·.1)=false:=by rfl):PS X (.Raise (some (.Call (.Name x np) (e::es) [] cpos)) none pos) (qaU2 C sp E t):=by
 intro E6 s σ H D I h;rw[arm_exec_Raise];refine J' (wpAny_standAt (qZ9 (K:=X.K) (J.hd rfl) ?_));refine J' (wpAny_Call_Name_kw (qF3 I Z hm ?_ l));refine W.callWith_K (h₀:=X.base) I.ok.mod.kin M.kp (thn (Y cpos E6 s σ H _ I h) λd s1 n=>?_) he m;obtain⟨vs,H1,I1,r,hz,q⟩:=n;refine⟨I1.kIn,?_⟩;obtain⟨c,g1,d1,t1,o1⟩:=s1;show Ll _ _ (call (.ref C) d) _ _ _;refine qaC6 I1.kIn M.mke M.init (zBj.mp M.fn) (by rw[<-r.length,K8];lia) ?_;have nz:H1 (c.objs.size+1)=none:=I1.hok.fresh (Nat.le_succ _);have L:=q (c.objs.size+1) nz;have I2:=I1.kept (h':=c.push {cls:=.type "tuple",data:=.seq d.toArray}) (t':=t1) λb u z=>zA2 _ z;have g2:((c.push {cls:=.type "tuple",data:=.seq d.toArray}).push {cls:=.ref C,data:=.fields #[.ref c.objs.size,.none,.none,.none,.bool false,.none]}).get? (c.objs.size+1)=some {cls:=.ref C,data:=.fields #[.ref c.objs.size,.none,.none,.none,.bool false,.none]}:=by heap_get
 have I3:=I2.laid (a:=c.objs.size+1) (o:=Bi (c.objs.size+1) C none true) (t':=t1)
  (λb u z=>zA2 _ z) (zC0 (zC1 _ _)) (qam8 ⟨_,_,g2,rfl,rfl,rfl,by simp,λ_=>by simp⟩)
 have N:O9 (V.ref (c.objs.size+1)::vs) (Nw (c.objs.size+1)::d):=.cons rfl r;have p:((Nw (c.objs.size+1)::d)++[]).length=ps.length:=by rw[zAe,<-N.length];exact F.len _ _ _ _ L
 have g:=T _ (Nw (c.objs.size+1)::d) I3.kIn p;rw[zAe] at g;refine wpAny_call (codeAny_mono (F.run _ X.stack _ _ ⟨Nw (c.objs.size+1)::d,[]⟩ (Nw (c.objs.size+1)::d) _ _ E0 (J.make C d []) (I3.env0.make C d []) g N L) λy i z=>?_);cases y with|error e=>exact z.elim|ok fl=>cases fl with|ret u=>obtain⟨v,H',I4,rv,ev,O,P,q4⟩:=I3.after z;subst ev;refine⟨rv,?_⟩;refine J' (wpAny_standAt (Kv ?_));obtain⟨j,B,p1,Q,p3,G,R,S⟩:=qG4 I4.hok P;refine⟨c.objs.size+1,j,B,C,rfl,I4.kIn,M.exc,p1,Q,G,S rfl,?_⟩;have I5:Pb X E6 σ (upd H' (c.objs.size+1) (Bi (c.objs.size+1) C O false)) i:=I4.write (x:=c.objs.size+1) (e:=c.objs.size+1) (h':=i.heap) (t':=i.toks) (by rw[P];exact True.intro) (.inl rfl) (λ_ _ _ z=>z) ⟨j,p1⟩ (qam8 ⟨j,B,p1,Q,p3,G,R,λz=>nomatch z⟩);exact U E6 σ _ i (c.objs.size+1) c.objs.size I5 ⟨Nat.le_succ _,⟨C,O,qb3⟩,j,B,p1,G,R,.inl (S rfl)⟩ I1.old q4|next=>exact Oz z|brk=>exact Oz z|cont=>exact Oz z
end
noncomputable def Xt(X:Cx)(xe:V'->Sh->Prop)(pn:List (γ×Obj)):Cx:={X with xe:=xe,pn:=pn}
noncomputable def Xh(X:Cx)(a:γ):Cx:={X with A:=X.A.mark (some (.ref a)),calm:=false,xe:=λ_ _=>False}
section
variable{X:Cx}{E6:List (γ×Obj)}{σ:St}{H:Hp}{s:Sh}{a:γ}{n:Nat}
theorem Cx.Ok.t{b:List (γ×Obj)}(a:X.Ok):(Xt X xe b).Ok:=⟨a.mod,a.kind,a.glob,a.blt,a.above,a.inj,a.has,a.cab,a.hd,a.frames,a.stk,a.exf,a.bs,a.bsz,a.noex,a.exfs,a.funs,a.frf⟩
theorem Cx.Ok.h(b:X.Ok):(Xh X a).Ok:=⟨b.mod,b.kind,b.glob,b.blt,b.above,b.inj,b.has,b.cab,λz=>(by cases z),b.frames,b.stk,b.exf,b.bs,b.bsz,b.noex,b.exfs,b.funs,b.frf⟩
theorem Pb.t(I:Pb X E6 σ H s):Pb (Xt X xe (X.pn++E6)) [] σ H s:=⟨I.ok.t,I.os,I.bare,I.base,I.loc,I.cell,I.free,I.freeC,λp a=>I.pin p (by rw[zAe] at a;exact a),I.hok,I.len⟩
theorem Pb.unt{pins':List (γ×Obj)}(a:X.Ok)(I:Pb (Xt X xe (X.pn++E6)) pins' σ H s):Pb X E6 σ H s:=⟨a,I.os,I.bare,I.base,I.loc,I.cell,I.free,I.freeC,λp b=>I.pin p (zCc _ b),I.hok,I.len⟩
theorem Pb.h(I:Pb X E6 σ H s):Pb (Xh X a) E6 σ H s:=⟨I.ok.h,I.os,I.bare,I.base,I.loc,I.cell,I.free,I.freeC,I.pin,I.hok,I.len⟩
theorem Pb.unh(b:X.Ok)(I:Pb (Xh X a) E6 σ H s):Pb X E6 σ H s:=⟨b,I.os,I.bare,I.base,I.loc,I.cell,I.free,I.freeC,I.pin,I.hok,I.len⟩
theorem qam2{M:Model}{A:Lp}{E:V'->Sh->Prop}(I:Pb X E6 σ H s)(F:Fly n H s.heap a)(O:Old X E6 n)(h:∀s',Pb X E6 σ H s'->Fly n H s'.heap a->Q () s'):Ll M A (setFlight (.ref a) none) Q E s:=by obtain⟨v,w,g,i,y,B⟩:=F.ob;unfold setFlight;rcases B with z|⟨T,G,J,l,d,m,r,t,j,C⟩;{refine J' (wpAny_field g i z ?_);rw[if_neg ∅];exact Kv (h s I F)};refine J' (wpAny_field g i l ?_);rw[if_pos (show (Nw T != Nx)=true from by simp)];have u:=(Array.getElem?_eq_some_iff.mp C).1;refine wpAny_setField t j u ?_;have other:∀b,b≠T->(s.heap.update T (Obj.mapFields (·.setIfInBounds 3 ((none:Option γ).elim Nx λf=>rawInt f)))).get? b=s.heap.get? b:=λb k=>zBd _ _ (Ne.symm k);exact h _ (I.turned (λb o k q=>(other b k).trans q) m (zCo (zAc O.loc d)) (.inr (zAg O.st d)) (λx c e=>zAi (zAc (O.cell x c e) d)) λp D=>zAi (zAc (O.pin p D) d)) (⟨F.ge,F.tr,v,w,(other a (Ne.symm r)).trans g,i,y,.inr ⟨T,_,_,l,d,m,r,(zBn (Obj.mapFields (·.setIfInBounds 3 ((none:Option γ).elim Nx λf=>rawInt f))) t (Obj.isFreed_of_fields (Obj.data_mapFields j _))),Obj.data_mapFields j _,by simp[u]⟩⟩)
theorem qQ7{M:Model}{A:Lp}{E:V'->Sh->Prop}{j:Nat}{x:Str}{pos:Pos}(I:Pb X E6 σ H s)(J:X.N.Nodup)(K:X.N[j]?=some x)(L:X.env.scope.names.lookup x=some .local)(h:∀s',Pb X E6 (σ.set j none) H s'->Q () s'):Ll M A (do bindName X.env x .none;unbindBehindTheSuite X.env x pos) Q E s:=by
 obtain⟨m,C,O⟩:=id I.loc;have f:(X.env.scope.kind==.class||(X.env.scope.kind==.module&&X.env.locals != X.env.globals))=false:=by rw[I.ok.kind];rfl
 have g:=I.cne;refine wpAny_nameGoes_keeps L C f λh' v u a=>?_;obtain⟨oL,_,_,P,_⟩:=id C;have w:∀b o,X.s₀.heap.get? b=some o->b≠X.env.locals:=λb o e=>zAi (zAc (zA7 e) I.ok.above);refine h _ ⟨I.ok,I.os,I.bare,⟨λb o e n B l=>?_,λb o e n B l=>?_,I.base.free,λb o e l=>?_,I.base.tups,I.base.frzs,I.base.tbls⟩,⟨_,u,λi y r D e2 R=>?_⟩,λy c e=>?_,I.free,I.freeC,λp S=>?_,λb T e=>?_,by simpa using I.len⟩;{exact(a.2 b (w b o e)).trans (I.base.keep b o e n B l)};{obtain⟨U,q⟩:=I.base.slot b o e n B l;exact⟨U,(a.2 b (w b o e)).trans q⟩};{obtain⟨V,q⟩:=I.base.there b o e l;exact⟨V,(a.2 b (w b o e)).trans q⟩}
 .have F:i≠j:=λz=>by subst z;by_cases W:i<σ.length;{rw[zBk W] at e2;cases e2};rw[zB2 (by rw[zC3];lia)] at e2;cases e2
  rw[zB6 (Ne.symm F)] at e2;obtain⟨Y,Z,q⟩:=O i y r D e2 R;refine⟨Y,Z,?_⟩;rcases q with⟨k,e⟩|⟨k,c,e,z⟩;{refine .inl ⟨k,?_⟩;have:y≠x:=λe=>F (qL5 J D (e ▸ K));simp[this,e]};exact .inr ⟨k,c,e,z.sameBut a (g y c e)⟩
 {obtain⟨r,z⟩:=I.cell y c e;exact⟨r,z.sameBut a (g y c e)⟩};{obtain⟨e,n,G,nf,d⟩:=I.pin p S;exact⟨(a.2 p.1 G).trans e,n,G,nf,d⟩};refine(I.hok b T e).stay (λc r t q=>(a.2 c ?_).trans q) (λ_ q=>q) λ_ _ q=>q;rintro rfl;rcases t with rfl|t;{rw[I.free] at e;cases e};rw[I.free] at t;cases t
end
def PH(X:Cx)(b:List ExceptHandler)(t:γ->TS):Prop:=∀(E6:List (γ×Obj))(s:Sh)(c:St)(H:Hp)(D:Bs)(a:γ)(n:Nat),Pb X E6 c H s->Fly n H s.heap a->Old X E6 n->t a D c H->Ll (Lm X.prog X.w) X.A (handleBy (.ref a) X.env b) (SP X E6 D) X.xe s
noncomputable def qaE4(j:Nat)(D:Bs):Bs:={nx:=λa H=>D.nx (a.set j none) H,rt:=D.rt,bk:=λa H=>D.bk (a.set j none) H,ct:=λa H=>D.ct (a.set j none) H}
section
variable{X:Cx}
theorem qaV5:PH X [] (λ_ _ _ _=>False):=λ_ _ _ _ _ _ _ _ _ _ h=>h.elim
def sTry(tb:(St->XK)->TS)(th:γ->TS):TS:=λD Z H=>∃E:St->XK,tb E D Z H/\∀a Z' H',E Z' (.ref a) none H'->∃Z'':St,Z''.length=Z'.length/\(∀(i:Nat)(v:V),Z''[i]?=some (some v)->Z'[i]?=some (some v))/\th a D Z'' H'
theorem qaV0{body:List Ls}{h₀:ExceptHandler}{c:List ExceptHandler}{pos:Pos}{tb:(St->XK)->TS}{th:γ->TS}(r:∀E xe l,Lands (Xt X xe l) E->PSs (Xt X xe l) body (tb E))(x:PH X (h₀::c) th)(b:X.stack=X.env::X.outer:=by rfl)(d:X.env.frame=some X.env.locals:=by rfl):PS X (.Try body (h₀::c) [] [] pos) (sTry tb th):=by
 intro E6 s Z H D I ⟨E,y,q2⟩;refine wpAny_Try_except ?_;let xe:V'->Sh->Prop:=λe s₁=>Ll (Lm X.prog X.w) X.A (noteFrame e X.env) (λ_ s₂=>Ll (Lm X.prog X.w) X.A (setFlight e none) (λ_ s₃=>Ll (Lm X.prog X.w) X.A (handleBy e X.env (h₀::c)) (SP X E6 D) X.xe s₃) X.xe s₂) X.xe s₁
 have B:Lands (Xt X xe (X.pn++E6)) E:=λpins' Z' H' C a n I' F O q=>by
  have J:=I'.unt I.ok;have O':Old X E6 n:=⟨O.st,O.loc,O.cell,λp G=>O.pin p (zCc _ G)⟩;obtain⟨U,V,m,o,K,M⟩:=id F.ob;have g:X.A.frames=some (X.env::X.outer):=by rw[J.ok.frames,b]
  have h:C.heap.FunFrames X.base (X.env::X.outer):=by have:=J.stack;rwa[b] at this
  refine qF2 g h d m o K ?_ λW T L=>?_;{rcases M with z|⟨T,N,P,i,_,_,j,k,Q,R⟩;{exact .inl z};exact .inr ⟨T,N,P,i,j,k,Q,R⟩};obtain⟨J2,F2⟩:=J.left F O' m o (by rw[b];exact L);obtain⟨Z'',i,j,k⟩:=q2 a Z' H' q;exact x E6 _ _ H' D a n (J2.weak i j) F2 O' k
 refine Ld (r E xe (X.pn++E6) B [] s Z H D I.t y) (λf Y z=>?_) λ_ _ z=>z;cases f with|next=>obtain⟨Z',H',J,z⟩:=z;exact wpAny_execs_nil ⟨Z',H',J.unt I.ok,z⟩|brk=>obtain⟨Z',H',J,z⟩:=z;exact⟨Z',H',J.unt I.ok,z⟩|cont=>obtain⟨Z',H',J,z⟩:=z;exact⟨Z',H',J.unt I.ok,z⟩|ret u=>obtain⟨v,Z',H',J,S,z⟩:=z;exact⟨v,Z',H',J.unt I.ok,S,z⟩
end
end L2
namespace L2
open PySem PySem.Spec PyProof.Rows PySem.SeqAt
open PySem.AutoSeq1 (wpAny_loadPart')
theorem Fun.okX{K:Oa}{st:Ls}(F:Fun K x qual st f fd)(S:qa8 N ps (qa3 st))(len:∀vs H Q E,sp vs H Q E->vs.length=ps.length)(hbody:∀(a:V')(A:Lp)(outer:List Env)(s:Sh)(H:Hp)(vs:List V)(Q:VK)(E:XK),Room k (A.deeper (envOfC qual (qa3 st) s.heap.objs.size f a))->sp vs H Q E->∃t,PSs (E8 true (CX1 P w) P w K mg base N qual (qa3 st) f a A outer s H E) (qd0 st) t/\t {nx:=λ_ H'=>Q .non H',rt:=Q} (start N vs) H):Fi P w K mg base (CX1 P w) (k+1) f fd ps sp:=by obtain⟨i,j,kV,d,l,m,a,n,e,rfl,g,b⟩:=F.ex;exact Jo g b S len λA outer s H vs Q E h c=>hbody a A outer s H vs Q E h c
end L2
namespace L2
open PySem PySem.Spec PyProof.Rows
section
variable{X:Cx}{A:List (γ×Obj)}{y:St}{H:Hp}{s:Sh}{h':Heap}
theorem Pb.turnedL{ch:List γ}(I:Pb X A y H s)(k:∀b o,b∉ch->s.heap.get? b=some o->h'.get? b=some o)(f:∀b∈ch,Gv X A H b):Pb X A y H {s with heap:=h',toks:=t'}:=by
 have d:∀b u,H b=some u->b∉ch:=λb u e z=>by rw[(f b z).1] at e;cases e
 refine I.step (λb g=>?_) (λb o _ _ a e _=>k b o a e) (λb o _ _ a e _=>⟨o.slots,k b o a e⟩) (λ_ _ _ _ n=>n)
  (λb o a e=>⟨o,k b o a e⟩) (λ_ _ e=>e) (λ_ _ _ e=>e) (λb w e=>⟨#[],by rw[e];simp⟩) (λm h=>?_) (λb u e=>?_) I.bare
 {obtain⟨x,f1,f2,f3,i,j⟩:=f b g;exact⟨f3,f1,i,j⟩};{obtain⟨o,l,p,t,r⟩:=h;exact⟨o,l,p,k _ o (λz=>(f _ z).2.1 rfl) t,r⟩};refine(I.hok b u e).stay (λc v a q=>k c v ?_ q) (λ_ q=>q) λ_ _ q=>q;rcases a with z|z;{rw[z];exact d b u e};exact d c _ z
end
def Ite(K:Oa)(a:γ):It:=⟨λi H=>∃xs x,SqL K H a xs/\xs[i]?=some x,λi H x H'=>∃t y,x=.ref t/\H t=none/\H'=upd H t (.q [.int (i:Int),y])/\∀xs,SqL K H a xs->xs[i]?=some y,λi H=>∃xs,SqL K H a xs/\xs.length<=i⟩
theorem qah1{P:Ln}{w:Lq}{K:Oa}{elts:List Lr}{x1:Nat}{pos:Pos}(a it e:γ)(m:e≠it):I8 P w K (.Tuple elts x1 pos) (Ite K a) [e,it] e (λi h=>(∃old,IsEnum h e it (i:Nat) old)/\h.IsListIter it a i) where
 mem:=by simp
 obj:=λi h d b c=>by
   obtain⟨⟨old,f⟩,o,ho,B,hd⟩:=d;rcases zAa.mp c with rfl|c
   . exact⟨_,f,λv z=>by
       cases (z)⟩
   rw[zAk.mp c];exact⟨o,ho,λv z=>by rw[hd] at z;cases z⟩
 keep:=λi h Y d k=>by
   obtain⟨⟨old,f⟩,d⟩:=d;exact⟨⟨old,k e (by simp) _ f⟩,d.at λo q=>k it (by simp) o q⟩
 item:=by
   intro X C D F B i E6 s W H E I n d G;subst C D F;obtain⟨xs,x,A,J⟩:=G;obtain⟨⟨old,f⟩,g⟩:=d;obtain⟨L,M,p,hz⟩:=I.list A;obtain⟨u,hu,ru⟩:=M.get J;have N:H s.heap.objs.size=none:=I.hok.fresh (zA3 _);obtain⟨oi,O,_⟩:=id g;have r:e<s.heap.objs.size:=zA7 f;have lt2:it<s.heap.objs.size:=zA7 O;refine wpAny_pyNext_enum_item f g p.isList (x:=u) (by simpa using hu) m λZ Q t R a0 S=>?_
   refine⟨_,rfl,wpAny_letOwnedTupleGo_enum (s:={s with heap:=Z,toks:=s.toks+1}) Q λT U j=>?_⟩
   replace j:Heap.SameBut e Z T:=j
   have I0:Pb X E6 W (upd H s.heap.objs.size (.q [.int (i:Int),x])) {s with heap:=s.heap.push {cls:=.type "tuple",data:=.seq #[.int i s.toks,u]},toks:=s.toks+1}:=I.laid (λb o q=>zA2 _ q) (zA3 _) ⟨by show 2<=Kx;decide,[.int i s.toks,u],.cons ⟨_,rfl⟩ (.cons ru .nil),⟨_,zAm _ rfl,rfl,_,rfl⟩⟩
   have I2:Pb X E6 W (upd H s.heap.objs.size (.q [.int (i:Int),x])) {s with heap:=T,toks:=s.toks+1}:=by
     refine Pb.turnedL (s:={s with heap:=s.heap.push {cls:=.type "tuple",data:=.seq #[.int i s.toks,u]},toks:=s.toks+1}) (h':=T) (ch:=[e,it]) (t':=s.toks+1) I0 (λb o c q=>?_) (λb c=>?_)
     . have y:b≠e:=λz=>c (by simp[z])
       have V:b≠it:=λz=>c (by simp[z])
       refine j.extBut b o y ?_;rcases Heap.get?_push_cases (show (s.heap.push {cls:=.type "tuple",data:=.seq #[.int i s.toks,u]}).get? b=some o from q) with⟨rfl,rfl⟩|q
       . exact R
       exact S b o y V q
     refine⟨?_,(n b c).2⟩;have l:b<s.heap.objs.size:=by
       rcases zAa.mp c with rfl|c
       . exact r
       rw[zAk.mp c];exact lt2
     rw[qb4 (zAi l)];exact(n b c).1
   refine⟨.ref s.heap.objs.size,_,I2,rfl,⟨_,x,rfl,N,rfl,λys hy=>by rw[I.list_inj hy A];exact J⟩,⟨⟨u,?_⟩,?_⟩,λb c=>?_⟩
   . have:((i+1:Nat):Int)=(i:Int)+1:=by push_cast;rfl
     rw[this];exact U
   . exact t.extBut j.extBut (Ne.symm m)
   have l:b<s.heap.objs.size:=by
     rcases zAa.mp c with rfl|c
     . exact r
     rw[zAk.mp c];exact lt2
   rw[qb4 (zAi l)];exact(n b c).1
 done:=by
   intro X C D F B i E6 s W H E I n d G;subst C D F;obtain⟨xs,A,J⟩:=G;obtain⟨⟨old,f⟩,g⟩:=d;obtain⟨L,M,p,hz⟩:=I.list A;obtain⟨f0,f1,f2,f3,f4,f5⟩:=n it (by simp);have hl:=M.length;exact wpAny_pyNext_enum_end (I.ok.hd B) f g p.isList (by simp;lia) λY eb=>⟨rfl,I.turned (t':=s.toks) (λb o c q=>eb b o c q) f0 f1 f3 f4 f5⟩
 self:=λ_ _ _ _ _ d h=>by
   obtain⟨⟨old,f⟩,_⟩:=d;exact wpAny_pyIter_enum f h
section
variable{X:Cx}
def iEnum(K:Oa)(ta:TA):TI:=λJ H R=>ta J H λvs H1=>∃a,vs=[.ref a]/\(∃xs,SqL K H1 a xs)/\R (Ite K a) H1
theorem qaJ8(k:Gl X "enumerate")(hm:X.mg "enumerate"=none)(m:PA X [l] ta)(n:Kw [l] X.env=[(false,eval l X.env)]:=by rfl):PI X (.Tuple elts j tpos) (.Call (.Name "enumerate" p) [l] [] pos) (iEnum X.K ta):=by
 intro E6 s J H R I h;refine Call_ (qM0 I k hm boot_enumerate (PyProof.Rows.callWith_type1 (thn (m pos E6 s J H _ I h) λB c f=>?_) n rfl));obtain⟨C,H1,I1,o,t⟩:=f;obtain⟨a,e,⟨D,u⟩,q⟩:=t;subst e;cases o with
 |cons r v=>
  cases v;cases r;obtain⟨w,E,x,F⟩:=I1.list u;refine call_enumerate_list x.isList λG i y z A=>?_;refine wpAny_pyIter_enum i ?_;refine⟨c.heap.objs.size+1,[c.heap.objs.size+1,c.heap.objs.size],_,_,H1,rfl,I1.kept A,qah1 a c.heap.objs.size (c.heap.objs.size+1) (Nat.succ_ne_self _),⟨⟨_,i⟩,y⟩,λb g=>?_,q⟩;have d:c.heap.objs.size<=b:=by rcases zAa.mp g with rfl|g;{exact Nat.le_succ _};rw[zAk.mp g];exact zA3 _
  exact I1.fpOk d (I1.hok.fresh d)
end
section
variable{X:Cx}
def qaI4:V->List V->Hp->VK->Prop:=λx vs H Q=>∃l xs y j z,x=.ref l/\vs=[y]/\H l=some (.l xs)/\flatV y=true/\xs.all flatV=true/\xs[j]?=some z/\eqV z y=true/\(∀m z',m<j->xs[m]?=some z'->eqV z' y=false)/\Q (.int (j:Nat)) H
theorem O9.getU(r:O9 xs us){j:Nat}(h:us[j]?=some u):∃x,xs[j]?=some x/\O8 x u:=by have c:=r.length;have d:=(zA6.mp h).1;obtain⟨e,a,b⟩:=r.get (show xs[j]?=some xs[j] by simp);rw[h] at a;cases a;exact⟨_,by simp,b⟩
theorem qaz4:MtM X "list.index" qaI4:=by
 intro E6 s R H x M v N Q I f B h;obtain⟨l,C,y,j,O,rfl,rfl,D,E,p,t,g,i,q⟩:=h;cases f;obtain⟨u,rfl,G⟩:=B.one;obtain⟨z,a,n,r,P,e⟩:=I.lstM D;have J:=(zA6.mp t).1;have A:=r.length;have small:((j:Nat):Int)<2 ^ 63-1:=by have:Kx<2 ^ 62:=∅;lia
 have eqAt:∀m (d:m<a.toArray.size),∃x,C[m]?=some x/\eqU y a.toArray[m]=eqV x y:=λm d=>by
  have K:m<a.length:=by simpa using d
  obtain⟨x,b,f⟩:=r.getU (show a[m]?=some a[m] by simp);refine⟨x,b,?_⟩;have:=qaC9 (x:=y) f (zBl.mp p x (zAw b));simpa using this
 have c:j<a.toArray.size:=by simp;lia
 refine Lh On ⟨_,e,rfl⟩ F.entry_list_index (F.args_list_index_2 _ _) (SeqAt.list_indexAt l a.toArray n none #[] u (eqU y) j c small ?_ ?_) ⟨e,λw L=>qs0 G E r p w (by simpa using L),⟨.int (j:Nat),H,I.tok _,⟨_,rfl⟩,q⟩⟩;{obtain⟨x,b,k⟩:=eqAt j c;rw[t] at b;cases b;rw[k];exact g};intro m d o;obtain⟨x,b,k⟩:=eqAt m d;rw[k];exact i m x o b
end
theorem qan8{K:Oa}(Pv:Nat->St->Hp->Prop)(c:Pv 0 u H)(d:∀i u H,i<=xs.length->Pv i u H->SqL K H a xs)(f:∀(i:Nat) x u H t,xs[i]?=some x->Pv i u H->H t=none->g (.ref t) u (upd H t (.q [.int (i:Int),x])) λσ2 H2=>tf σ2 H2 λh H3=>if h=true then te σ2 H3 λv H4=>∃ys,H4 D=some (.l ys)/\ys.length<Kx/\Pv (i+1) σ2 (upd H4 D (.l (ys++[v]))) else Pv (i+1) σ2 H3)(j:∀u H,Pv xs.length u H->R H):qq1 (Ite K a) g tf te D R u H:=by refine⟨λi m u H=>m=xs.length-i/\i<=xs.length/\Pv i u H,⟨xs.length,by simp,zBi _,c⟩,?_⟩;rintro i m u H ⟨rfl,k,p⟩;have q:=d i u H k p;by_cases b:i<xs.length;{refine .inr ⟨⟨xs,xs[i],q,by simp[b]⟩,Pv (i+1),λu' H' l=>⟨xs.length-(i+1),⋯,rfl,b,l⟩,λx H' y=>?_⟩;obtain⟨t,n,e,o,r,s⟩:=y;subst e r;exact f i n u _ t (s xs q) p o};have e:i=xs.length:=⋯;subst e;exact .inl ⟨⟨xs,q,zA3 _⟩,j u H p⟩
end L2
namespace L2
open PySem PySem.Spec PyProof.Rows
noncomputable def qaA5:List String:=["NoneType", "bool", "int", "str", "list", "tuple", "dict"]
structure IsO(K:Oa)(C:γ):Prop where
 ca:W.findIn K (.ref C) "__class__"=some (some (.builtin "object.__class__"))
 cn:W.specialIn K (.builtin "object.__class__") "__get__"=some (some (.builtin "getset_descriptor.__get__"))
 ct:W.takesIn K (.builtin "object.__class__")=some true
 cm:W.mroIn K C (.type "object")=some true
 kf:∀t∈qaA5,Ob K (.type t) (.ref C)=some false
theorem kf_of{K:Oa}(h1:Ob K (.type "NoneType") (.ref C)=some false)(h2:Ob K (.type "bool") (.ref C)=some false)(b:Ob K (.type "int") (.ref C)=some false)(c:Ob K (.type "str") (.ref C)=some false)(d:Ob K (.type "list") (.ref C)=some false)(e:Ob K (.type "tuple") (.ref C)=some false)(f:Ob K (.type "dict") (.ref C)=some false):∀t∈qaA5,Ob K (.type t) (.ref C)=some false:=by intro t a;unfold qaA5 at a;simp only[zAa,zAr,zC9] at a;rcases a with rfl|rfl|rfl|rfl|rfl|rfl|rfl<;>assumption
section
variable{X:Cx}
def rIsO(C:γ):List V->Hp->VK->Prop:=λxs H Q=>∃x,xs=[x,.ref C]/\((∃a dx fs,x=.ref a/\H a=some (.ins C dx fs)/\Q (.bl true) H)∨(∃t,Eb H x=some t/\Q (.bl false) H))
theorem qaf9(b:IsO X.K C)(g:Cls X.K C):CallR X (.builtin "isinstance") (rIsO C):=by
 intro E6 s m H j k Q I r h;obtain⟨x,rfl,h⟩:=h;obtain⟨u,l,rfl,f,c⟩:=Fp r;cases c;rcases h with⟨a,dx,fs,rfl,ha,q⟩|⟨t,hk,q⟩
 .have e:Ob X.K (.ref C) (.ref C)=some true:=by unfold Ob;rw[if_pos (by simp)]
  exact qC6 I f (.ins ha g b.ca b.cn b.ct b.cm) e λd=>⟨.bl true,H,I.tok d,rfl,q⟩
 obtain⟨ty,i⟩:=qM1 hk;exact qC6 I f ty (b.kf t i) λd=>⟨.bl false,H,I.tok d,rfl,q⟩
theorem qaW2(C:γ)(hm:X.mg x=some (.ref C))(a:Gl X x:=by rfl)(b:N' x:=by decide):PE X (.Name x pos) (tC (.ref C)):=qaa8 a hm rfl b
end
end L2
namespace Row
variable{a i j q r s t:Nat}
noncomputable def Af(n h r:Nat):Nat:=if h<=r then r-h else r+n-h
noncomputable def prev(n r:Nat):Nat:=if r=0 then n-1 else r-1
def ahead(n:Nat)(hm:Int->Nat)(r:Nat)(x y:Int):Prop:=Af n (hm y) r<Af n (hm x) r∨(Af n (hm x) r=Af n (hm y) r/\x<y)
theorem qW2{n:Nat}{hm:Int->Nat}{x y z:Int}(h:ahead n hm r x y)(h':ahead n hm r y z):ahead n hm r x z:=by unfold ahead at *;lia
theorem qD9{n:Nat}(h:r<n):prev n r<n:=by unfold prev;grind
theorem qG7{n:Nat}(h:r<n)(b:a<n):Af n a r<n:=by unfold Af;grind
theorem qaf3{n:Nat}(b:a<n)(h:r<n)(h':s<n)(e:Af n a r=Af n a s):r=s:=by unfold Af at e;grind
theorem qu5{n:Nat}(b:a<n)(h:r<n):Af n a r=0↔r=a:=by unfold Af;grind
theorem qu6{n:Nat}(b:a<n)(h:r<n)(c:0<Af n a r):Af n a (prev n r)=Af n a r-1:=by unfold Af prev at *;grind
theorem por(n s:Nat):(s=0/\prev n s=n-1)∨(s≠0/\prev n s=s-1):=by unfold prev;grind
theorem dor(n a r:Nat):(a<=r/\Af n a r+a=r)∨(r<a/\(a<=r+n->Af n a r+a=r+n)):=by unfold Af;grind
theorem Ia(b:a<n)(hi:i<n)(c:s<n)(h:Af n a i<=Af n a s):Af n a i+Af n i s=Af n a s:=by have d:=dor n a i;have e:=dor n a s;have f:=dor n i s;lia
theorem qbb5(b:a<n)(c:s<n)(d:t<n)(h:Af n a s<Af n a t):Af n t s+Af n a t=n+Af n a s:=by have e:=dor n a s;have f:=dor n a t;have g:=dor n t s;lia
theorem qan4(f:a<n)(c:b<n)(d:j<n)(hi:i<n)(h1:Af n a i<=Af n a j)(h2:Af n a j<=Af n b j):Af n b i+(Af n a j-Af n a i)=Af n b j:=by have g:=Ia f hi d h1;have h:=qG7 hi c;rcases Nat.lt_or_ge (Af n b j) (Af n b i) with e|e;{have:=qbb5 c d hi e;lia};have:=Ia c hi d e;lia
structure Ord(n:Nat)(hm:Int->Nat)(g:Nat->Option Int):Prop where
 home:∀k,hm k<n
 inj:∀i j k,i<n->j<n->g i=some k->g j=some k->i=j
 ord:∀i k,i<n->g i=some k->0<Af n (hm k) i->∃x,g (prev n i)=some x/\ahead n hm (prev n i) x k
def Calm(n:Nat)(hm:Int->Nat)(g:Nat->Option Int):Prop:=∃i,i<n/\∀k,g i=some k->hm k=i
theorem Ord.path(O:Ord n hm g):∀(m j i:Nat)(z:Int),j<n->i<n->g j=some z->Af n (hm z) i+m+1=Af n (hm z) j->∃x,g i=some x/\ahead n hm i x z
 |0,j,i,z,hj,hi,hz,e=>by have a:0<Af n (hm z) j:=⋯;obtain⟨x,b,c⟩:=O.ord j z hj hz a;have:=qu6 (O.home z) hj a;rw[(qaf3 (O.home z) hi (qD9 hj) ⋯)];exact⟨x,b,c⟩|m+1,j,i,z,hj,hi,hz,e=>by
  have a:0<Af n (hm z) j:=⋯;obtain⟨x,b,c⟩:=O.ord j z hj hz a;have l:=qu6 (O.home z) hj a;have d:=qD9 hj;have f:Af n (hm z) (prev n j)<=Af n (hm x) (prev n j):=by unfold ahead at c;lia
  have o:=qan4 (O.home z) (O.home x) d hi ⋯ f;obtain⟨y,h,k⟩:=O.path m (prev n j) i x d hi b ⋯;refine⟨y,h,qW2 k ?_⟩;unfold ahead at *;lia
theorem Ord.path'(O:Ord n hm g)(a:j<n)(hi:i<n)(b:g j=some z)(h:Af n (hm z) i<Af n (hm z) j):∃x,g i=some x/\ahead n hm i x z:=O.path (Af n (hm z) j-Af n (hm z) i-1) j i z a hi b ⋯
theorem qR3{α:Type}[DecidableEq α](x:α):∀(S:List α),S.Nodup->S.length<=(S.filter (λy=>decide (y≠x))).length+1
 |[],_=>by simp|a::S,h=>by
  have b:=zCn.mp h;by_cases e:a=x
  .subst e;have:S.filter (λy=>decide (y≠a))=S:=List.filter_eq_self.mpr λy c=>by simp only[ne_eq,zBo];intro z;subst z;exact b.1 c
   rw[Ml (by simp),this];simp
  rw[Mm (by simpa using e)];have:=qR3 x S b.2;simp only[zAj];lia
theorem qx7{α:Type}[DecidableEq α](x:α):∀(S:List α),x∈S->(S.filter (λy=>decide (y≠x))).length+1<=S.length|[],h=>by simp at h|a::S,h=>by by_cases e:a=x;{rw[Ml (by simp[e])];have:=List.length_filter_le (λy=>decide (y≠x)) S;simp only[zAj];lia};rw[Mm (by simpa using e)];have:=qx7 x S (by rcases zAa.mp h with z|z;exact absurd z.symm e;exact z);simp only[zAj];lia
theorem qP2{g:Nat->Option Int}:∀(L:List Nat)(S:List Int),S.Nodup->(∀k∈S,∃i∈L,g i=some k)->S.length<=L.length
 |[],S,_,h=>by cases S with|nil=>simp|cons k _=>obtain⟨i,f,_⟩:=h k (by simp);simp at f
 |i::L,S,hn,h=>by
  cases d:g i with
  |none=>
   have:=qP2 L S hn λk a=>by obtain⟨j,c,e⟩:=h k a;rcases zAa.mp c with z|z;{rw[z,d] at e;cases e};exact⟨j,z,e⟩
   simp only[zAj];lia
  |some x=>
   have l:=qP2 L (S.filter (λy=>decide (y≠x))) (hn.filter _) λk a=>by obtain⟨a,b⟩:=zCh.mp a;obtain⟨j,c,e⟩:=h k a;rcases zAa.mp c with z|z;{rw[z,d] at e;rw[(N8 e)] at b;simp at b};exact⟨j,z,e⟩
   have m:=qR3 x S hn;simp only[zAj];lia
theorem qaa6{g:Nat->Option Int}:∀(L:List Nat)(S:List Int),L.Nodup->(∀i∈L,∃k∈S,g i=some k)->(∀i∈L,∀j∈L,∀k,g i=some k->g j=some k->i=j)->L.length<=S.length|[],S,_,_,_=>by simp|i::L,S,c,h,inj=>by obtain⟨x,f,l⟩:=h i (by simp);have c:=zCn.mp c;have p:=qaa6 L (S.filter (λy=>decide (y≠x))) c.2 (λj d=>by obtain⟨k,m,e⟩:=h j (zA4 _ d);refine⟨k,zCh.mpr ⟨m,?_⟩,e⟩;simp only[ne_eq,zBo];intro z;subst z;have:=inj i (by simp) j (zA4 _ d) k l e;exact c.1 (this ▸ d)) λa n b o=>inj a (zA4 _ n) b (zA4 _ o);have q:=qx7 x S f;simp only[zAj];lia
def Holds(n:Nat)(g:Nat->Option Int)(S:List Int):Prop:=S.Nodup/\∀k,k∈S↔∃i,i<n/\g i=some k
noncomputable def set(g:Nat->Option Int)(r:Nat)(c:Int):Nat->Option Int:=λj=>if j=r then some c else g j
theorem qj6{g:Nat->Option Int}{c:Int}:set g r c r=some c:=by unfold set;rw[if_pos rfl]
theorem qt7{g:Nat->Option Int}{c:Int}(h:j≠r):set g r c j=g j:=by unfold set;rw[if_neg h]
section
variable{n:Nat}{wr:Bool}{hm:Int->Nat}{T:List Int}{k:Int}{e:Nat}{g:Nat->Option Int}{c:Int}
structure Kept(n:Nat)(wr:Bool)(hm:Int->Nat)(g:Nat->Option Int)(S:List Int):Prop where
 o:Ord n hm g
 c:Calm n hm g
 h:Holds n g S
 ln:wr=false->∀i x,i<n->g i=some x->hm x<=i
def Free(n:Nat)(wr:Bool)(hm:Int->Nat)(g:Nat->Option Int)(k:Int)(e:Nat):Prop:=e<n/\g e=none/\(wr=false->hm k<=e)
def Crowd(n:Nat)(wr:Bool)(hm:Int->Nat)(T:List Int)(q:Nat):Prop:=q<n/\if wr=true then q=0/\n<T.length else n-q<(T.filter (λk=>decide (q<=hm k))).length
theorem qI0(h:i∈(Mc (n-q)).map (q + ·)):q<=i/\i<n:=by obtain⟨j,a,rfl⟩:=zB4.mp h;grind
theorem qaz6(h:q<=i)(h':i<n):i∈(Mc (n-q)).map (q + ·):=zB4.mpr ⟨i-q,zB7.mpr ⋯,⋯⟩
theorem qX3:((Mc m).map (q + ·)).Nodup:=by rw[List.nodup_iff_pairwise_ne,zCe];exact(List.nodup_iff_pairwise_ne.mp Mx).imp λh=>⋯
theorem Kept.no_crowd(K:Kept n wr hm g S)(q:Nat):¬Crowd n wr hm S q:=by
 rintro⟨d,h⟩;cases wr with
 |true=>
  rw[if_pos rfl] at h;have:=qP2 (g:=g) (Mc n) S K.h.1 λk a=>by obtain⟨i,b,c⟩:=(K.h.2 k).mp a;exact⟨i,zB7.mpr b,c⟩
  rw[zBv] at this;lia
 |false=>
  rw[if_neg ∅] at h;have:=qP2 (g:=g) ((Mc (n-q)).map (q + ·)) (S.filter (λk=>decide (q<=hm k))) (K.h.1.filter _) λk a=>by obtain⟨a,d⟩:=zCh.mp a;obtain⟨i,b,c⟩:=(K.h.2 k).mp a;have:=K.ln rfl i k b c;have d:=zAn d;exact⟨i,qaz6 ⋯ b,c⟩
  grind
theorem Kept.crowd(K:Kept n wr hm g S)(t:∀e,¬Free n wr hm g k e):∃q,Crowd n wr hm (S++[k]) q:=by
 have u:=K.o.home k;have full:∀e,e<n->(wr=false->hm k<=e)->∃x,g e=some x:=λe l r=>by cases h:g e with|some x=>exact⟨x,rfl⟩|none=>exact absurd ⟨l,h,r⟩ (t e)
 cases wr with
 |true=>refine⟨0,⋯,?_⟩;rw[if_pos rfl];refine⟨rfl,?_⟩;have:=qaa6 (g:=g) (Mc n) S Mx (λi a=>by obtain⟨x,c⟩:=full i (zB7.mp a) (λz=>by cases z);exact⟨x,(K.h.2 x).mpr ⟨i,zB7.mp a,c⟩,c⟩) λi a j p x=>K.o.inj i j x (zB7.mp a) (zB7.mp p);rw[zBv] at this;rw[zAf];simp only[zAj,zCm];lia|false=>
  have v:∀m,m<=hm k->(∀e,m<=e->e<n->∃x,g e=some x)->∃q,q<=hm k/\(∀e,q<=e->e<n->∃x,g e=some x)/\(q=0∨g (q-1)=none):=by intro m;induction m with|zero=>exact λd b=>⟨0,d,b,.inl rfl⟩|succ m F=>intro d b;cases h:g m with|none=>exact⟨m+1,d,b,.inr h⟩|some x=>grind
  obtain⟨q,w,A,f⟩:=v (hm k) (zA3 _) λe l B=>full e B λ_=>l;refine⟨q,⋯,?_⟩;rw[if_neg ∅];have:=qaa6 (g:=g) ((Mc (n-q)).map (q + ·)) (S.filter (λk=>decide (q<=hm k))) qX3 (λi a=>by obtain⟨d,b⟩:=qI0 a;obtain⟨x,c⟩:=A i d b;refine⟨x,zCh.mpr ⟨(K.h.2 x).mpr ⟨i,b,c⟩,zAo ?_⟩,c⟩;have C:=K.o.home x;have r:=K.ln rfl i x b c;refine Nat.le_of_not_lt λD=>?_;rcases f with f|f;{lia};obtain⟨y,s,_⟩:=K.o.path' (i:=q-1) b ⋯ c (by have G:=dor n (hm x) (q-1);have H:=dor n (hm x) i;lia);rw[f] at s;cases s) λi a j p x=>K.o.inj i j x (qI0 a).2 (qI0 p).2;rw[zAb,zBv] at this;have E:([k].filter (λk=>decide (q<=hm k))).length=1:=by simp[w]
  rw[Nd,zAf,E];lia
theorem Crowd.mono{T:List Int}(h:Crowd n wr hm S q)(b:S.Sublist T):Crowd n wr hm T q:=by obtain⟨a,h⟩:=h;refine⟨a,?_⟩;grind
theorem Crowd.perm{T:List Int}(h:Crowd n wr hm S q)(a:S.Perm T):Crowd n wr hm T q:=by obtain⟨b,h⟩:=h;refine⟨b,?_⟩;rw[<-a.length_eq,<-(a.filter _).length_eq];exact h
theorem Kept.none(a:0<n)(b:∀k,hm k<n):Kept n wr hm (λ_=>none) []:=⟨⟨b,(λ_ _ _ _ _ h=>by cases h),λ_ _ _ h=>by cases h⟩,⟨0,a,λ_ h=>by cases h⟩,⟨List.nodup_nil,λk=>⟨λh=>by simp at h,λ⟨_,_,h⟩=>by cases h⟩⟩,λ_ _ _ _ h=>by cases h⟩
end
noncomputable def rot(n s t:Nat):Nat:=if s+t<n then s+t else s+t-n
theorem qaI0(a:s<n)(b:t<n):rot n s t<n:=by unfold rot;split<;>lia
theorem qM9(a:s<n)(b:t<n):Af n s (rot n s t)=t:=by have d:=dor n s (rot n s t);unfold rot at d ⊢;grind
theorem qZ6(a:s<n)(hi:i<n):rot n s (Af n s i)=i:=by have d:=dor n s i;unfold rot;grind
theorem qap9(a:s<n)(b:t<n):(s+t)%n=rot n s t:=by unfold rot;split;{exact zBq (by assumption)};rw[Nat.mod_eq_sub_mod ⋯];exact zBq ⋯
def Jv(hm:Int->Nat)(x y:Int):Prop:=hm x<hm y∨(hm x=hm y/\x<y)
structure Fill(n:Nat)(hm:Int->Nat)(g:Nat->Option Int)(S:List Int)(top:Nat):Prop where
 k:Kept n false hm g S
 free:∀i,top<=i->i<n->g i=none
 last:0<top->∃x,g (top-1)=some x/\x∈S
 le:top<=n
theorem Fill.start(a:0<n)(b:∀k,hm k<n):Fill n hm (λ_=>none) [] 0:=⟨Kept.none a b,λ_ _ _=>rfl,λh=>absurd h ⋯,⋯⟩
section
variable{n:Nat}{hm:Int->Nat}{g:Nat->Option Int}{S:List Int}{top:Nat}{k:Int}
theorem Fill.put(F:Fill n hm g S top)(l:¬k∈S)(C:∀x∈S,Jv hm x k)(m:max top (hm k)<n):Fill n hm (set g (max top (hm k)) k) (S++[k]) (max top (hm k)+1):=by
 generalize J:max top (hm k)=r at m ⊢;have p:top<=r:=⋯;have q:hm k<=r:=⋯;have D:g r=none:=F.free r p m;have below:∀i x,i<n->g i=some x->i<top:=λi x b a=>by by_cases h:top<=i;{rw[F.free i h b] at a;cases a};lia
 have s:∀i x,i<n->set g r k i=some x->hm x<=i:=λi x b a=>by by_cases e:i=r;{subst e;rw[qj6] at a;cases a;exact q};rw[qt7 e] at a;exact F.k.ln rfl i x b a
 have mem:∀i x,i<n->g i=some x->x∈S:=λi x b a=>(F.k.h.2 x).mpr ⟨i,b,a⟩;refine⟨⟨⟨F.k.o.home,λi j x b z a d=>?_,λi x b a t=>?_⟩,⟨0,⋯,λx E=>?_⟩,⟨?_,λx=>⟨λc=>?_,λ⟨i,b,a⟩=>?_⟩⟩,λ_ i x b a=>s i x b a⟩,λi b G=>?_,λ_=>⟨k,by rw[Nat.add_sub_cancel,qj6],zAz _ (zAk.mpr rfl)⟩,⋯⟩;{by_cases u:i=r;{by_cases e2:j=r;{rw[u,e2]};subst u;rw[qj6] at a;cases a;rw[qt7 e2] at d;exact absurd (mem j _ z d) l};rw[qt7 u] at a;by_cases e2:j=r;{subst e2;rw[qj6] at d;cases d;exact absurd (mem i _ b a) l};rw[qt7 e2] at d;exact F.k.o.inj i j x b z a d}
 .have c:=s i x b a;have K:i≠0:=λe=>by have:=(qu5 (F.k.o.home x) b).mpr ⋯;lia
  have A:prev n i=i-1:=by rcases por n i with h|h<;>lia
  by_cases e:i=r
  .subst e;rw[qj6] at a;cases a;have H:hm k<i:=by unfold Af at t;split at t<;>lia
   have B:top=i:=⋯;obtain⟨y,f,v⟩:=F.last ⋯;have w:hm y<=i-1:=F.k.ln rfl (i-1) y ⋯ (by rw[<-B];exact f);refine⟨y,by rw[A,qt7 ⋯,<-B];exact f,?_⟩;rw[A];unfold ahead Af;rw[if_pos ⋯,if_pos w];rcases C y v with h|h;{exact .inl ⋯};exact .inr ⟨⋯,h.2⟩
  rw[qt7 e] at a;have L:=below i x b a;obtain⟨y,f,I⟩:=F.k.o.ord i x b a t;exact⟨y,by rw[qt7 ⋯];exact f,I⟩
 {have:=s 0 x ⋯ E;lia};{refine List.nodup_append.mpr ⟨F.k.h.1,(by simp),λx c y v e=>?_⟩;rw[zAk.mp v] at e;exact l (e ▸ c)};{rcases zAd.mp c with c|c;{obtain⟨i,b,a⟩:=(F.k.h.2 x).mp c;exact⟨i,b,by rw[qt7 λe=>by rw[e,D] at a;cases a];exact a⟩};rw[zAk.mp c];exact⟨r,m,qj6⟩};{by_cases e:i=r;{subst e;rw[qj6] at a;grind};rw[qt7 e] at a;exact zCc _ (mem i x b a)};rw[qt7 ⋯];exact F.free i ⋯ G
theorem Fill.room(F:Fill n hm g S top)(d:∀x∈S,Jv hm x k)(f:∀q,¬Crowd n false hm (S++[k]) q):max top (hm k)<n:=by
 have p:=F.k.o.home k;have i:=F.le;by_cases h:top<n;{lia};have r:top=n:=⋯;obtain⟨q,c⟩:=F.k.crowd (k:=k) λe ⟨j,s,a⟩=>by
  have a:=a rfl;obtain⟨y,b,l⟩:=F.last ⋯;have m:hm y<=hm k:=by rcases d y l with h|h<;>lia
  by_cases t:e=top-1;{grind};obtain⟨x,u,_⟩:=F.k.o.path' ⋯ j b (show Af n (hm y) e<Af n (hm y) (top-1) by unfold Af;rw[if_pos ⋯,if_pos (F.k.ln rfl (top-1) y ⋯ b)];lia);grind
 exact absurd c (f q)
end
noncomputable def Ef(hm:Int->Nat)(T:List Int)(r:Nat):Nat:=(T.filter λk=>decide (hm k=r)).length
noncomputable def Fq(hm:Int->Nat)(T:List Int)(q r:Nat):Nat:=(T.filter λk=>decide (q<=hm k/\hm k<r)).length
theorem qS1{hm:Int->Nat}{q r:Nat}(h:q<=r):∀T:List Int,Fq hm T q (r+1)=Fq hm T q r+Ef hm T r|[]=>rfl|k::T=>by have a:=qS1 (hm:=hm) h T;unfold Fq Ef at a ⊢;simp only[List.filter_cons,zBo];split<;>split<;>split<;>(try simp only[zAj])<;>lia
theorem qan9{hm:Int->Nat}(T:List Int):Fq hm T r r=0:=by unfold Fq;rw[List.length_eq_zero_iff,List.filter_eq_nil_iff];grind
noncomputable def onC(c:Nat->Nat):Nat->Int|0=>0|r+1=>if onC c r+(c r:Int)-1>0 then onC c r+(c r:Int)-1 else 0
noncomputable def sumC(c:Nat->Nat)(q:Nat):Nat->Nat|0=>0|m+1=>sumC c q m+c (q+m)
section
variable{c:Nat->Nat}
theorem qE1:∀r:Nat,0<=onC c r|0=>Int.le_refl _|r+1=>by unfold onC;split<;>lia
theorem qay9{q:Nat}:∀m:Nat,(sumC c q m:Int)-(m:Int)<=onC c (q+m)|0=>by have:=qE1 (c:=c) q;show ((0:Nat):Int)-_<=_;rw[Nat.add_zero];lia|m+1=>by have:=qay9 (q:=q) m;show ((sumC c q m+c (q+m):Nat):Int)-_<=onC c (q+m+1);unfold onC;split<;>lia
theorem qaz0:∀r:Nat,onC c r=0∨∃q m,q+m=r/\0<m/\onC c r=(sumC c q m:Int)-(m:Int)|0=>.inl rfl|r+1=>by by_cases h:onC c r+(c r:Int)-1>0;{right;have e:onC c (r+1)=onC c r+(c r:Int)-1:=if_pos h;rcases qaz0 r with b|⟨q,m,a,d,f⟩;{exact⟨r,1,rfl,⋯,by rw[e];show _=((0+c (r+0):Nat):Int)-_;rw[Nat.add_zero];lia⟩};exact⟨q,m+1,⋯,⋯,by rw[e];show _=((sumC c q m+c (q+m):Nat):Int)-_;rw[a];lia⟩};exact .inl (if_neg h)
theorem qX6{q m:Nat}:∀l:Nat,sumC c q (m+l)=sumC c q m+sumC c (q+m) l|0=>rfl|l+1=>by show sumC c q (m+l)+c (q+(m+l))=sumC c q m+(sumC c (q+m) l+c (q+m+l));rw[qX6 l,show q+(m+l)=q+m+l by lia];lia
end
section
variable{n b:Nat}{hm:Int->Nat}{T:List Int}
def cR(n:Nat)(hm:Int->Nat)(T:List Int):Nat->Nat:=λt=>Ef hm T (t%n)
theorem qbb7:cR n hm T (n+t)=cR n hm T t:=by unfold cR;rw[Nat.add_mod_left]
theorem qap3{q:Nat}:∀m,sumC (cR n hm T) (n+q) m=sumC (cR n hm T) q m|0=>rfl|m+1=>by show sumC _ (n+q) m+cR n hm T (n+q+m)=_;rw[qap3 m,Nat.add_assoc,qbb7];rfl
theorem qB2{s q:Nat}(a:b<n)(c:s%n=b)(d:∀k,hm k<n):∀m,q+m<=n->sumC (cR n hm T) (s+q) m=Fq (λk=>Af n b (hm k)) T q (q+m)
 |0,_=>by rw[Nat.add_zero,qan9];rfl|m+1,h=>by
  show sumC _ (s+q) m+cR n hm T (s+q+m)=_;rw[qB2 a c d m ⋯,show q+(m+1)=q+m+1 by lia,qS1 ⋯];congr 1;unfold cR Ef;congr 1;refine List.filter_congr λk _=>decide_eq_decide.mpr ?_;have e:(s+q+m)%n=rot n b (q+m):=by rw[Nat.add_assoc,Nat.add_mod,c,zBq (show q+m<n by lia),qap9 a ⋯]
  rw[e];constructor;{intro z;show Af n b (hm k)=_;rw[z,qM9 a ⋯]};intro z;rw[<-show Af n b (hm k)=_ from z,qZ6 a (d k)]
theorem qaD8(a:∀k,hm k<n):Fq hm T 0 n=T.length:=by unfold Fq;rw[List.filter_eq_self.mpr λk _=>zAo ⟨zBi _,a k⟩]
theorem qaH2(a:0<n)(b:∀k,hm k<n):sumC (cR n hm T) 0 n=T.length:=by have:=qB2 (T:=T) (q:=0) a (Nat.zero_mod n) b n ⋯;rw[Nat.add_zero,zAh] at this;rw[this];refine(qaD8 λk=>qG7 (b k) a)
theorem qaj9(d:0<n)(a:∀k,hm k<n):0<onC (cR n hm T) n↔∃q,Crowd n false hm T q:=by
 have e:∀q,q<=n->sumC (cR n hm T) q (n-q)=(T.filter λk=>decide (q<=hm k)).length:=λq b=>by have:=qB2 (T:=T) (q:=q) d (Nat.zero_mod n) a (n-q) ⋯;rw[zAh,show q+(n-q)=n by lia] at this;rw[this];unfold Fq;congr 2;exact funext λk=>decide_eq_decide.mpr (by have:=a k;have g:Af n 0 (hm k)=hm k:=if_pos (zBi _);dsimp only;lia)
 constructor;{intro h;rcases qaz0 (c:=cR n hm T) n with i|⟨q,m,b,f,j⟩;{lia};refine⟨q,⋯,?_⟩;rw[if_neg ∅,<-e q ⋯,show n-q=m by lia];lia};rintro⟨q,b,h⟩;rw[if_neg ∅,<-e q ⋯] at h;have:=qay9 (c:=cR n hm T) (q:=q) (n-q);grind
theorem qay8(i:0<n)(j:∀k,hm k<n)(w:T.length<=n):∃r,r<n/\onC (cR n hm T) (n+r+1)=0:=by
 by_cases h:∃r,r<n/\onC (cR n hm T) (n+r+1)=0;{exact h};exfalso;have pos:∀r,r<n->0<onC (cR n hm T) (n+r+1):=λr g=>by have:=qE1 (c:=cR n hm T) (n+r+1);have:onC (cR n hm T) (n+r+1)≠0:=λe=>h ⟨r,g,e⟩;lia
 have a:∀r,r<=n->onC (cR n hm T) (n+r)=onC (cR n hm T) n+(sumC (cR n hm T) n r:Int)-(r:Int):=λr=>by
  induction r with
  |zero=>intro _;show _=_+((0:Nat):Int)-_;rw[Nat.add_zero];lia|succ r l=>
   intro g;have d:=pos r ⋯;have x:=l ⋯;have e:onC (cR n hm T) (n+r+1)=if onC (cR n hm T) (n+r)+(cR n hm T (n+r):Int)-1>0 then onC (cR n hm T) (n+r)+(cR n hm T (n+r):Int)-1 else 0:=rfl
   show onC (cR n hm T) (n+r+1)=_+((sumC (cR n hm T) n r+cR n hm T (n+r):Nat):Int)-_;rw[e] at d ⊢;split at d;{rw[if_pos (by assumption)];lia};lia
 have sa:=qaH2 (T:=T) i j;have b:∀m,sumC (cR n hm T) n m=sumC (cR n hm T) 0 m:=λm=>qap3 (q:=0) m;have e2:=a n (zA3 _);have o:=pos (n-1) ⋯;rw[show n+(n-1)+1=n+n by lia] at o;rw[b] at e2;rcases qaz0 (c:=cR n hm T) n with y|⟨q,m,p,s,d⟩;{lia};have t:=a q ⋯;rw[b] at t;have u:=qX6 (c:=cR n hm T) (q:=0) (m:=q) m;rw[zAh,p] at u;by_cases f:q=0;{subst f;have:sumC (cR n hm T) 0 0=0:=rfl;lia};have v:=pos (q-1) ⋯;rw[show n+(q-1)+1=n+q by lia] at v;lia
theorem qE7(e:r<n)(a:∀k,hm k<n)(d:onC (cR n hm T) (n+r+1)=0):∀q,¬Crowd n false (λk=>Af n ((r+1)%n) (hm k)) T q:=by
 rintro q ⟨f,c⟩;have b:(r+1)%n<n:=Nat.mod_lt _ ⋯;rw[if_neg ∅] at c;have g:=qay9 (c:=cR n hm T) (q:=r+1+q) (n-q);rw[show r+1+q+(n-q)=n+r+1 by lia,d,(qB2 b rfl a (n-q) ⋯),show q+(n-q)=n by lia] at g;have e2:Fq (λk=>Af n ((r+1)%n) (hm k)) T q n=(T.filter λk=>decide (q<=Af n ((r+1)%n) (hm k))).length:=by unfold Fq;congr 2;exact funext λk=>decide_eq_decide.mpr (by have:=qG7 (a k) b;dsimp only;lia)
 grind
theorem Kept.turn(c:b<n)(p:∀k,hm k<n)(K:Kept n false (λk=>Af n b (hm k)) g S):Kept n true hm (λi=>g (Af n b i)) S:=by
 have f:∀i,i<n->Af n b i<n:=λi a=>qG7 a c;have l:∀i x,i<n->g (Af n b i)=some x->Af n b (hm x)+Af n (hm x) i=Af n b i:=λi x a d=>Ia c (p x) a (K.ln rfl _ x (f i a) d);refine⟨⟨p,λi j x a m d u=>qaf3 c a m (K.o.inj _ _ x (f i a) (f j m) d u),λi x a d v=>?_⟩,⟨b,c,λx w=>?_⟩,⟨K.h.1,λx=>⟨λA=>?_,λ⟨i,a,d⟩=>(K.h.2 x).mpr ⟨_,f i a,d⟩⟩⟩,λh=>nomatch h⟩
 .have f1:=l i x a d;have q:=K.ln rfl _ x (f i a) d;have B:Af n (Af n b (hm x)) (Af n b i)=Af n (hm x) i:=by unfold Af at q ⊢;rw[if_pos q];unfold Af at f1;lia
  obtain⟨y,r,s⟩:=K.o.ord _ x (f i a) d (by rw[B];exact v);have C:prev n (Af n b i)=Af n b (prev n i):=by rw[qu6 c a ⋯];rcases por n (Af n b i) with h|h<;>lia
  rw[C] at r s;have t:=qD9 a;have f2:=l (prev n i) y t r;have D:=K.ln rfl _ y (f _ t) r;have f3:Af n b (hm x)+Af n (hm x) (prev n i)=Af n b (prev n i):=Ia c (p x) t (by rw[qu6 c a ⋯];lia);refine⟨y,r,?_⟩;have E:Af n (Af n b (hm y)) (Af n b (prev n i))=Af n (hm y) (prev n i):=by have:Af n (Af n b (hm y)) (Af n b (prev n i))=Af n b (prev n i)-Af n b (hm y):=if_pos D;lia
  have F:Af n (Af n b (hm x)) (Af n b (prev n i))=Af n (hm x) (prev n i):=by have:Af n (Af n b (hm x)) (Af n b (prev n i))=Af n b (prev n i)-Af n b (hm x):=if_pos ⋯;lia
  unfold ahead at s ⊢;rwa[E,F] at s
 {have q:=K.ln rfl _ x (f b c) w;have z:Af n b b=0:=(qu5 c c).mpr rfl;rw[z] at q;exact(qu5 c (p x)).mp ⋯};obtain⟨j,m,e⟩:=(K.h.2 x).mp A;exact⟨rot n b j,qaI0 c m,by show g (Af n b (rot n b j))=_;rw[qM9 c m];exact e⟩
end
theorem Kept.of_perm(K:Kept n wr hm g S)(p:S.Perm T):Kept n wr hm g T:=⟨K.1,K.2,⟨p.nodup_iff.mp K.h.1,λk=>p.mem_iff.symm.trans (K.h.2 k)⟩,K.4⟩
theorem Ib:Af n 0 i=i:=if_pos (zBi _)
theorem qaz5(b:a<n)(c:s<=n):((a:Int)-(s:Int))%(n:Int)=(Af n (s%n) a:Nat):=by by_cases e:s=n;{subst e;rw[Nat.mod_self,Ib,Int.sub_emod_right];exact zCd ⋯ ⋯};rw[zBq (show s<n by lia)];unfold Af;split;{rw[zCd ⋯ ⋯];lia};rw[<-Int.add_emod_right,zCd ⋯ ⋯];lia
end Row
namespace My
open PySem L2
noncomputable def bagL(x y z:Int)(L:γ):HO:=.l [.int x,.int y,.int z,.ref L]
structure BagAt(H:Hp)(p:γ)(x y z:Int)(L:γ)(ns:List Int):Prop where
 at_:H p=some (bagL x y z L)
 li:H L=some (.l (ns.map V.int))
 x0:0<=x
 y0:0<=y
 y1:y<2147483647
 z0:0<=z
 nn:∀n∈ns,0<=n
def Bag(H:Hp)(p L:γ):Prop:=∃x y z ns,BagAt H p x y z L ns
theorem qbc1{ns:List Int}:HO.l (ns.map V.int)≠bagL x y z L:=by
 intro e;have e:ns.map V.int=[.int x,.int y,.int z,.ref L]:=by injection e
 have e:=congrArg (·[3]?) e;rw[zAt] at e;cases h:ns[3]? <;> rw[h] at e<;>cases e
theorem BagAt.ne{H:Hp}{p L:γ}{x y z:Int}{ns:List Int}(B:BagAt H p x y z L ns):L≠p:=ne_of B.li B.at_ qbc1
def qaT5(K:Oa):Sp:=λvs H Q _=>∃(l:γ)(ns:List Int),vs=[.ref l]/\SqL K H l (ns.map V.int)/\ns.length<=63/\∀p L H',H p=none->H L=none->Same H H'->Bag H' p L->Q (.ref p) H'
def Ic(K:Oa):Sp:=λvs H Q _=>∃(l:γ)(ns:List Int),vs=[.ref l]/\SqL K H l (ns.map V.int)/\ns.length<=63/\∀H',Q (.bl true) H'
abbrev Pr:=List (Int×Int)
def An(n:Int):Prop:=0<=n/\n<=1000000000000000000
structure qq0(ps:Pr):Prop where
 len:ps.length<=64
 nd:(ps.map (·.1)).Nodup
 nums:∀p∈ps,An p.1/\An p.2
noncomputable def qe5(n:Int)(ps:Pr)(k:Int):Int:=((ps.lookup k).getD k)%n
def Be(n:Int)(wr:Bool)(ps:Pr)(k r:Int):Option Int:=if wr then some ((r-qe5 n ps k)%n) else if 0<=r-qe5 n ps k then some (r-qe5 n ps k) else none
def qy4(n:Int)(wr:Bool)(ps:Pr)(r a other:Int):Bool:=match Be n wr ps a r,Be n wr ps other r with|none,_=>false|some _,none=>true|some x,some y=>decide (y<x)||(decide (x=y)&&decide (a<other))
theorem qQ3(h:1<=n)(ps:Pr)(k:Int):0<=qe5 n ps k/\qe5 n ps k<n:=⟨zCi _ ⋯,zBw _ ⋯⟩
theorem qaB0(k:Int)(ks:List Int):inV (.int k) (ks.map V.int)=decide (k∈ks):=by unfold inV;rw[List.any_map,Bool.eq_iff_iff,List.any_eq_true,zBo];constructor;{rintro⟨x,a,e⟩;rw[<-zBj.mp (e)];exact a};intro h;exact⟨k,h,zBb k⟩
end My
namespace My
open PySem L2
open Row
variable{n:Int}{ps:Pr}{r:Nat}
def O3(n:Int)(ps:Pr)(k:Int):Nat:=(qe5 n ps k).toNat
theorem Eh(h:1<=n)(k:Int):O3 n ps k<n.toNat:=by have:=qQ3 h ps k;unfold O3;lia
theorem qQ4(h:1<=n)(k:Int):((O3 n ps k:Nat):Int)=qe5 n ps k:=by have:=qQ3 h ps k;unfold O3;lia
theorem qan3(a:1<=n)(b:h<n.toNat)(c:r<n.toNat):((r:Int)-(h:Int))%n=(Af n.toNat h r:Nat):=by
 rcases dor n.toNat h r with⟨h1,h2⟩|⟨h1,h2⟩;{rw[zCd ⋯ ⋯];lia};have e:((r:Int)-(h:Int))%n=((r:Int)-(h:Int)+n)%n:=by rw[Int.add_emod_right]
 rw[e,zCd ⋯ ⋯];grind
theorem qR4(a:1<=n)(c:r<n.toNat)(d:wr=false->O3 n ps k<=r):Be n wr ps k (r:Int)=some ((Af n.toNat (O3 n ps k) r:Nat):Int):=by have b:=qQ4 (ps:=ps) a k;unfold Be;cases wr with|true=>rw[if_pos rfl,<-b,qan3 a (Eh a k) c]|false=>have:=d rfl;rw[if_neg ∅,if_pos ⋯,<-b];have:=dor n.toNat (O3 n ps k) r;grind
theorem qao7(a:1<=n)(b:r<n.toNat)(c:wr=false->O3 n ps x<=r)(d:wr=false->O3 n ps y<=r):qy4 n wr ps (r:Int) x y=true↔ahead n.toNat (O3 n ps) r x y:=by unfold qy4 ahead;rw[qR4 a b c,qR4 a b d];grind
end My
namespace LV
open PySem L2
variable{Ao:List γ}{N:List Str}{P:List V'->Prop}{Q:VK}{base:Heap}{cd:Lr}{cm z:Bool}{i j n:Nat}{kvs:List (Key×V)}{lo:Int}{mg:Str->Option V'}{op:CmpOp}{p2:Pos}{v w:V}{vs:List V}{α:Type}{a':St}
inductive D where
 |non|bl (b:Bool)|int (i:Int)|str (x:Str)|ty (n:String)|adr (a:γ)
 |q (ds:List D)|l (z:Bool) (ds:List D)|dct (z:Bool) (kvs:List (Key×D))|ins (z:Bool) (C:γ) (fs:List (Str×D))
 |scr (ns:List Int)
 |exn (C:γ) (fs:List (Str×D))
 |hole (v:V)|u
mutual
def D.imm:D->Bool|.q ds=>D.imms ds|.l z _=>z|.dct z _=>z|.ins z _ _=>z|_=>true
def D.imms:List D->Bool|[]=>true|d::r=>d.imm&&D.imms r
end
mutual
def D.fz:D->D|.q ds=>.q (D.fzs ds)|.l _ ds=>.l true (D.fzs ds)|.dct _ kvs=>.dct true (D.fzk kvs)|.ins _ C fs=>.ins true C (D.fzf fs)|.exn C fs=>.exn C (D.fzf fs)|.non=>.non | .bl b=>.bl b | .int i=>.int i | .str x=>.str x | .ty n=>.ty n | .adr a=>.adr a | .scr ns=>.scr ns | .hole v=>.hole v | .u=>.u
def D.fzs:List D->List D|[]=>[]|d::r=>d.fz::D.fzs r
def D.fzk:List (Key×D)->List (Key×D)|[]=>[]|(k,d)::r=>(k,d.fz)::D.fzk r
def D.fzf:List (Str×D)->List (Str×D)|[]=>[]|(k,d)::r=>(k,d.fz)::D.fzf r
end
mutual
inductive Pa(F:γ->Prop)(H:Hp):V->D->List γ->Prop
 |non:Pa F H .non .non []
 |bl (b:Bool):Pa F H (.bl b) (.bl b) []
 |int (i:Int):Pa F H (.int i) (.int i) []
 |str (x:Str):Pa F H (.str x) (.str x) []
 |ty (n:String):Pa F H (.ty n) (.ty n) []
 |adr (a:γ):Pa F H (.ref a) (.adr a) []
 |q {a:γ} {vs:List V} {ds:List D} {A:List γ} (h:H a=some (.q vs)) (r:O4 F H vs ds A):Pa F H (.ref a) (.q ds) A
 |l {a:γ} {vs:List V} {ds:List D} {A:List γ} (h:H a=some (.l vs)) (r:O4 F H vs ds A):Pa F H (.ref a) (.l false ds) (a::A)
 |lstZ {a:γ} {vs:List V} {ds:List D} (h:H a=some (.l vs)) (f:F a) (r:O4 F H vs ds []):Pa F H (.ref a) (.l true ds) []
 |dct {a:γ} {kvs:List (Key×V)} {kds:List (Key×D)} {A:List γ} (h:H a=some (.dK kvs)) (e:kvs.map (·.1)=kds.map (·.1)) (r:O4 F H (kvs.map (·.2)) (kds.map (·.2)) A):Pa F H (.ref a) (.dct false kds) (a::A)
 |dctZ {a:γ} {kvs:List (Key×V)} {kds:List (Key×D)} (h:H a=some (.dK kvs)) (f:F a) (e:kvs.map (·.1)=kds.map (·.1)) (r:O4 F H (kvs.map (·.2)) (kds.map (·.2)) []):Pa F H (.ref a) (.dct true kds) []
 |ins {a C dx:γ} {fvs:List (Str×V)} {fds:List (Str×D)} {A:List γ} (h:H a=some (.ins C dx fvs)) (e:fvs.map (·.1)=fds.map (·.1)) (r:O4 F H (fvs.map (·.2)) (fds.map (·.2)) A):Pa F H (.ref a) (.ins false C fds) (a::A)
 |insZ {a C dx:γ} {fvs:List (Str×V)} {fds:List (Str×D)} (h:H a=some (.ins C dx fvs)) (f:F a) (e:fvs.map (·.1)=fds.map (·.1)) (r:O4 F H (fvs.map (·.2)) (fds.map (·.2)) []):Pa F H (.ref a) (.ins true C fds) []
 |scr {a:γ} {o:Obj} {ns:List Int} (h:H a=some (.frz o (.l (ns.map V.int)))):Pa F H (.ref a) (.scr ns) []
 |exn {a C dx:γ} {fvs:List (Str×V)} {fds:List (Str×D)} (h:H a=some (Bi a C (some dx) false)) (g:H dx=some (XD dx fvs)) (e:fvs.map (·.1)=fds.map (·.1)) (r:O4 F H (fvs.map (·.2)) (fds.map (·.2)) []):Pa F H (.ref a) (.exn C fds) []
 |hole (v:V):Pa F H v (.hole v) []
 |u (v:V):Pa F H v .u []
inductive O4(F:γ->Prop)(H:Hp):List V->List D->List γ->Prop
 |nil:O4 F H [] [] []
 |cons {v:V} {d:D} {A:List γ} {vs:List V} {ds:List D} {B:List γ} (h:Pa F H v d A) (t:O4 F H vs ds B):O4 F H (v::vs) (d::ds) (A++B)
end
noncomputable def Et:HO->Bool|.l _=>true|.dK _=>true|.ins _ _ _=>true|_=>false
section
variable{F F':γ->Prop}{H H':Hp}
def Cel(H:Hp)(A:List γ):Prop:=∀b∈A,∃o,H b=some o/\Et o=true
theorem Cel.cons(e:H a=some o)(m:Et o=true)(h:Cel H A):Cel H (a::A):=λb c=>(zAa.mp c).elim (λq=>q ▸ ⟨_,e,m⟩) (h b)
theorem Cel.app(h:Cel H A)(g:Cel H B):Cel H (A++B):=λb a=>(zAd.mp a).elim (h b) (g b)
theorem Pa.cells{v:V}{d:D}{A:List γ}(r:Pa F H v d A):Cel H A:=by induction r using Pa.rec with|q e r i=>exact i|l e r i=>exact Cel.cons e rfl i|dct e _ r i=>exact Cel.cons e rfl i|ins e _ r i=>exact Cel.cons e rfl i|cons _ _ i j=>exact Cel.app i j|_=>nofun
theorem O4.cells{vs:List V}{ds:List D}{A:List γ}(r:O4 F H vs ds A):Cel H A:=by induction r using O4.rec (motive_1:=λ_ _ _ _=>True) with|cons h _ i j=>exact Cel.app h.cells j|nil=>nofun|_=>trivial
structure Kp(F:γ->Prop)(H:Hp)(W F':γ->Prop)(H':Hp):Prop where
 fr:∀b o,H b=some o->¬W b->H' b=some o
 wm:∀b,W b->∃o,H b=some o/\Et o=true
 wf:∀b,W b->¬F b
 mF:∀b,F b->F' b
theorem Kp.q(k:Kp F H W F' H'){vs:List V}(h:H a=some (.q vs)):H' a=some (.q vs):=by refine k.fr a _ h λw=>?_;obtain⟨o,e,m⟩:=k.wm a w;rw[h] at e;cases e;cases m
theorem Kp.imm(k:Kp F H W F' H')(h:H a=some o)(n:Et o=false):H' a=some o:=by refine k.fr a _ h λw=>?_;obtain⟨o,e,m⟩:=k.wm a w;grind
theorem Kp.frz(k:Kp F H W F' H')(h:H a=some (.frz o u)):H' a=some (.frz o u):=by refine k.fr a _ h λw=>?_;obtain⟨o,e,m⟩:=k.wm a w;rw[h] at e;cases e;cases m
theorem Pa.keep{W:γ->Prop}(k:Kp F H W F' H'){v:V}{d:D}{A:List γ}(r:Pa F H v d A):(∀b∈A,¬W b)->Pa F' H' v d A:=by induction r using Pa.rec (motive_2:=λa c A _=>(∀b∈A,¬W b)->O4 F' H' a c A) with|q e r i=>exact λh=>.q (k.q e) (i h)|l e r i=>exact λh=>.l (k.fr _ _ e (zB1.mp h).1) (i (zB1.mp h).2)|lstZ e f r i=>exact λh=>.lstZ (k.fr _ _ e λw=>k.wf _ w f) (k.mF _ f) (i h)|dct e q r i=>exact λh=>.dct (k.fr _ _ e (zB1.mp h).1) q (i (zB1.mp h).2)|dctZ e f q r i=>exact λh=>.dctZ (k.fr _ _ e λw=>k.wf _ w f) (k.mF _ f) q (i h)|ins e q r i=>exact λh=>.ins (k.fr _ _ e (zB1.mp h).1) q (i (zB1.mp h).2)|insZ e f q r i=>exact λh=>.insZ (k.fr _ _ e λw=>k.wf _ w f) (k.mF _ f) q (i h)|scr e=>exact λ_=>.scr (k.frz e)|exn e g q r i=>exact λh=>.exn (k.imm e rfl) (k.imm g rfl) q (i h)|cons _ _ i j h=>exact O4.cons (i (zBe.mp h).1) (j (zBe.mp h).2)|nil=>constructor|_=>intro;constructor
theorem O4.keep{W:γ->Prop}(k:Kp F H W F' H'){vs:List V}{ds:List D}{A:List γ}(r:O4 F H vs ds A):(∀b∈A,¬W b)->O4 F' H' vs ds A:=by induction r using O4.rec (motive_1:=λ_ _ _ _=>True) with|nil=>exact λ_=>O4.nil|cons r _ i j=>exact λh=>O4.cons (r.keep k (zBe.mp h).1) (j (zBe.mp h).2)|_=>trivial
theorem Kp.same(s:Same H H'):Kp F H (λ_=>False) F H':=⟨λb o e _=>s b o e,λ_ w=>w.elim,λ_ w=>w.elim,λ_ f=>f⟩
theorem Pa.same(r:Pa F H v d A)(s:Same H H'):Pa F H' v d A:=r.keep (Kp.same s) λ_ _=>id
theorem O4.same(r:O4 F H vs ds A)(s:Same H H'):O4 F H' vs ds A:=r.keep (Kp.same s) λ_ _=>id
theorem Kp.more(m:∀b,F b->F' b):Kp F H (λ_=>False) F' H:=⟨λb o e _=>e,λ_ w=>w.elim,λ_ w=>w.elim,m⟩
mutual
theorem Pa.imm{v:V}{d:D}{A:List γ}(r:Pa F H v d A)(h:d.imm=true):A=[]:=by cases r with|q e r=>exact r.imms h|l=>cases h|dct=>cases h|ins=>cases h|_=>rfl
theorem O4.imms{vs:List V}{ds:List D}{A:List γ}(r:O4 F H vs ds A)(h:D.imms ds=true):A=[]:=by cases r with|nil=>rfl|cons r t=>have h:=zAl.mp h;rw[r.imm h.1,t.imms h.2];rfl
end
theorem qQ8(kds:List (Key×D)):(D.fzk kds).map (·.1)=kds.map (·.1)/\(D.fzk kds).map (·.2)=D.fzs (kds.map (·.2)):=by induction kds with|nil=>exact⟨rfl,rfl⟩|cons p r a=>obtain⟨k,d⟩:=p;simp only[D.fzk,D.fzs,zAy,a.1,a.2,and_self]
theorem qA7(kds:List (Str×D)):(D.fzf kds).map (·.1)=kds.map (·.1)/\(D.fzf kds).map (·.2)=D.fzs (kds.map (·.2)):=by induction kds with|nil=>exact⟨rfl,rfl⟩|cons p r a=>obtain⟨k,d⟩:=p;simp only[D.fzf,D.fzs,zAy,a.1,a.2,and_self]
theorem Pa.fz{v:V}{d:D}{A:List γ}(r:Pa F H v d A)(m:∀b,F b->F' b):(∀b∈A,F' b)->Pa F' H v d.fz []:=by induction r using Pa.rec (motive_2:=λa c A _=>(∀b∈A,F' b)->O4 F' H a (D.fzs c) []) with|q e r i=>exact λh=>.q e (i h)|l e r i=>exact λh=>.lstZ e (zB1.mp h).1 (i (zB1.mp h).2)|lstZ e f r i=>exact λh=>.lstZ e (m _ f) (i h)|dct e q r i=>exact λh=>.dctZ e (zB1.mp h).1 (q.trans (qQ8 _).1.symm) ((qQ8 _).2 ▸ i (zB1.mp h).2)|dctZ e f q r i=>exact λh=>.dctZ e (m _ f) (q.trans (qQ8 _).1.symm) ((qQ8 _).2 ▸ i h)|ins e q r i=>exact λh=>.insZ e (zB1.mp h).1 (q.trans (qA7 _).1.symm) ((qA7 _).2 ▸ i (zB1.mp h).2)|insZ e f q r i=>exact λh=>.insZ e (m _ f) (q.trans (qA7 _).1.symm) ((qA7 _).2 ▸ i h)|scr e=>exact λ_=>.scr e|exn e g q r i=>exact λh=>.exn e g (q.trans (qA7 _).1.symm) ((qA7 _).2 ▸ i h)|nil=>exact O4.nil|cons _ _ i j h=>exact O4.cons (i (zBe.mp h).1) (j (zBe.mp h).2)|_=>intro;constructor
theorem O4.fz{vs:List V}{ds:List D}{A:List γ}(r:O4 F H vs ds A)(m:∀b,F b->F' b):(∀b∈A,F' b)->O4 F' H vs (D.fzs ds) []:=by induction r using O4.rec (motive_1:=λ_ _ _ _=>True) with|nil=>exact λ_=>O4.nil|cons r _ i j=>exact λh=>O4.cons (r.fz m (zBe.mp h).1) (j (zBe.mp h).2)|_=>trivial
end
theorem ec:∀{us:List V'},us.length=n+1->∃a vs,us=a::vs/\vs.length=n|a::vs,h=>⟨a,vs,rfl,Nat.succ.inj h⟩
theorem ec0(h:P [])(us:List V')(e:us.length=0):P us:=List.length_eq_zero_iff.mp e ▸ h
theorem ec1(h:∀x us,us.length=n->P (x::us))(us:List V')(e:us.length=n+1):P us:=by obtain⟨x,a,rfl,b⟩:=ec e;exact h x a b
theorem ec2(h:∀us,us.length=n->P us)(us:List V')(e:us.length+1=n+1):P us:=h us (Nat.succ.inj e)
inductive Locs(F:γ->Prop)(H:Hp):List (Option V)->List D->List γ->Prop
 |nil:Locs F H [] [] []
 |no {a:List (Option V)} {ds:List D} {A:List γ} (t:Locs F H a ds A):Locs F H (none::a) (.u::ds) A
 |so {v:V} {d:D} {B:List γ} {a:List (Option V)} {ds:List D} {A:List γ} (h:Pa F H v d B) (t:Locs F H a ds A):Locs F H (some v::a) (d::ds) (B++A)
section
variable{F F':γ->Prop}{H H':Hp}
theorem Locs.cells{n:List (Option V)}(r:Locs F H n ds A):∀b∈A,∃o,H b=some o/\Et o=true:=by induction r with|nil=>intro b h;cases h|no t c=>exact c|so h t c=>intro b a;rcases zAd.mp a with a|a;{exact h.cells b a};exact c b a
theorem Locs.keep(k:Kp F H W F' H'){n:List (Option V)}(r:Locs F H n ds A):(∀b∈A,¬W b)->Locs F' H' n ds A:=by induction r with|nil=>exact λ_=>.nil|no t a=>exact λh=>.no (a h)|so h t a=>exact λq=>.so (h.keep k λb c=>q b (zAd.mpr (.inl c))) (a λb c=>q b (zAd.mpr (.inr c)))
theorem Locs.same{n:List (Option V)}(r:Locs F H n ds A)(s:Same H H'):Locs F H' n ds A:=r.keep (Kp.same s) λ_ _=>id
theorem Locs.len{n:List (Option V)}(r:Locs F H n ds A):n.length=ds.length:=by induction r with|nil=>rfl|no t a=>simp[a]|so h t a=>simp[a]
theorem Locs.append{n:List (Option V)}(r:Locs F H n ds A)(t:Locs F H p es B):Locs F H (n++p) (ds++es) (A++B):=by induction r with|nil=>exact t|no _ a=>exact .no a|so h _ a=>rw[zAx];exact .so h a
inductive Ie(F:γ->Prop)(H:Hp):Option V->D->List γ->Prop
 |no:Ie F H none .u []
 |so {v:V} {d:D} {B:List γ} (h:Pa F H v d B):Ie F H (some v) d B
theorem Locs.cons{n:List (Option V)}(h:Ie F H o d B)(t:Locs F H n ds A):Locs F H (o::n) (d::ds) (B++A):=by cases h with|no=>exact .no t|so h=>exact .so h t
theorem Locs.split:∀{ds:List D}{n:List (Option V)}{A:List γ}{i:Nat}{d:D},Locs F H n ds A->ds[i]?=some d->∃σ1 o σ2 ds1 a A1 B A2,n=σ1++o::σ2/\ds=ds1++d::a/\σ1.length=i/\ds1.length=i/\A=A1++(B++A2)/\Locs F H σ1 ds1 A1/\Ie F H o d B/\Locs F H σ2 a A2:=by
 intro ds;induction ds with
 |nil=>intro n A i d _ h;simp at h|cons e r m=>
  intro n A i d L h;cases i with
  |zero=>
   have:e=d:=by simpa using h
   subst this;cases L with|no t=>exact⟨[],none,_,[],_,[],[],_,rfl,rfl,rfl,rfl,rfl,.nil,.no,t⟩|so q t=>exact⟨[],some _,_,[],_,[],_,_,rfl,rfl,rfl,rfl,rfl,.nil,.so q,t⟩
  |succ i=>
   have h:r[i]?=some d:=by simpa using h
   cases L with|no t=>obtain⟨σ1,o,σ2,ds1,a,A1,B,A2,b,e2,c,f,g,j,k,l⟩:=m t h;exact⟨none::σ1,o,σ2,_::ds1,a,A1,B,A2,by rw[b];rfl,by rw[e2];rfl,by simp[c],by simp[f],g,.no j,k,l⟩|@so v _ B0 _ _ A0 q t=>obtain⟨σ1,o,σ2,ds1,a,A1,B,A2,b,e2,c,f,g,j,k,l⟩:=m t h;exact⟨some v::σ1,o,σ2,_::ds1,a,B0++A1,B,A2,by rw[b];rfl,by rw[e2];rfl,by simp[c],by simp[f],by rw[g,zAx],.so q j,k,l⟩
end
theorem qo1{x:α}(h:l1.length=i):(l1++x::l2).set i y=l1++y::l2:=by subst h;rw[M5 _ _ (zA3 _),Nat.sub_self];rfl
theorem qA6{x:α}(h:l1.length=i):(l1++x::l2)[i]?=some x:=by subst h;simp
structure Ok(F:γ->Prop)(H:Hp)(A:List γ):Prop where
 sep:∀b,A.count b<=1
 fro:∀b,F b->A.count b=0
 ex:∀b,F b->∃o,H b=some o
structure Pc(F:γ->Prop)(H:Hp)(A:List γ)(F':γ->Prop)(H':Hp)(A':List γ):Prop where
 fr:∀b o,H b=some o->A.count b=0->H' b=some o
 sub:∀b o,H b=some o->A.count b=0->A'.count b=0
 mono:∀b,F b->F' b
 fnew:∀b o,H b=some o->A.count b=0->F' b->F b
section
variable{F k l:γ->Prop}{H i m:Hp}{A j A2 T:List γ}
theorem Pc.refl:Pc F H A F H A:=⟨λ_ _ e _=>e,λ_ _ _ e=>e,λ_ f=>f,λ_ _ _ _ f=>f⟩
theorem Pc.trans(s:Pc F H A k i j)(t:Pc k i j l m A2):Pc F H A l m A2:=⟨λb o e q=>t.fr b o (s.fr b o e q) (s.sub b o e q),λb o e q=>t.sub b o (s.fr b o e q) (s.sub b o e q),λb f=>t.mono b (s.mono b f),λb o e q f=>s.fnew b o e q (t.fnew b o (s.fr b o e q) (s.sub b o e q) f)⟩
theorem Pc.same(s:Same H i):Pc F H A F i A:=⟨λb o e _=>s b o e,λ_ _ _ e=>e,λ_ f=>f,λ_ _ _ _ f=>f⟩
theorem qb6{A:List γ}:b∈A↔A.count b≠0:=by grind
theorem Pc.kp(s:Pc F H A k i j)(o:Ok F H A)(c:∀b∈A,∃o,H b=some o/\Et o=true):Kp F H (λb=>A.count b≠0) k i:=⟨λb u e w=>s.fr b u e ⋯,λb w=>c b (qb6.mpr w),λb w f=>w (o.fro b f),s.mono⟩
theorem Ok.left(o:Ok F H (T++A)):Ok F H T:=⟨λb=>by have:=o.sep b;rw[zA0] at this;lia,λb f=>by have:=o.fro b f;rw[zA0] at this;lia,o.ex⟩
theorem Ok.right(o:Ok F H (T++A)):Ok F H A:=⟨λb=>by have:=o.sep b;rw[zA0] at this;lia,λb f=>by have:=o.fro b f;rw[zA0] at this;lia,o.ex⟩
theorem Ok.count(o:Ok F H A)(h:∀b,j.count b<=A.count b):Ok F H j:=⟨λb=>zAg (h b) (o.sep b),λb f=>by have:=o.fro b f;have:=h b;lia,o.ex⟩
theorem Pc.frame(s:Pc F H A k i j)(o:Ok F H (T++A))(c:∀b∈T,∃o,H b=some o/\Et o=true)(d:Ok k i j):Ok k i (T++j)/\Pc F H (T++A) k i (T++j):=by
 have a:∀b,T.count b≠0->∃u,H b=some u/\A.count b=0:=λb h=>by obtain⟨u,e,_⟩:=c b (qb6.mpr h);have:=o.sep b;grind
 refine⟨⟨λb=>?_,λb f=>?_,d.ex⟩,λb u e q=>?_,λb u e q=>?_,s.mono,λb u e q f=>?_⟩;{rw[zA0];by_cases h:T.count b=0;{have:=d.sep b;lia};obtain⟨u,e,q⟩:=a b h;have g:=s.sub b u e q;have:=o.sep b;grind};{rw[zA0,d.fro b f];by_cases h:T.count b=0;{lia};obtain⟨u,e,q⟩:=a b h;have:=o.fro b (s.fnew b u e q f);grind};{rw[zA0] at q;exact s.fr b u e ⋯};{rw[zA0] at q ⊢;have:=s.sub b u e ⋯;lia};rw[zA0] at q;exact s.fnew b u e ⋯ f
theorem Pc.count(s:Pc F H A k i j)(h:∀b,A2.count b<=j.count b):Pc F H A k i A2:=⟨s.fr,λb o e q=>by have:=s.sub b o e q;have:=h b;lia,s.mono,s.fnew⟩
theorem Pc.pre(s:Pc F H A k i j)(h:∀b,A.count b=A2.count b):Pc F H A2 k i j:=⟨λb o e q=>s.fr b o e (by rw[h];exact q),λb o e q=>s.sub b o e (by rw[h];exact q),s.mono,λb o e q f=>s.fnew b o e (by rw[h];exact q) f⟩
end
structure New(H:Hp)(B:List γ):Prop where
 one:∀b,B.count b<=1
 new:∀b o,H b=some o->B.count b=0
section
variable{F:γ->Prop}{H H':Hp}{A B:List γ}
theorem New.nil:New H []:=⟨λb=>by simp,λb o _=>by simp⟩
theorem New.ok(n:New H B)(o:Ok F H A)(c:∀b∈A,∃o,H b=some o/\Et o=true)(s:Same H H'):Ok F H' (B++A):=by refine⟨λb=>?_,λb f=>?_,λb f=>?_⟩;{rw[zA0];have a:=n.one b;have d:=o.sep b;by_cases h:A.count b=0;{lia};obtain⟨u,e,_⟩:=c b (qb6.mpr h);have:=n.new b u e;lia};{rw[zA0,o.fro b f];obtain⟨u,e⟩:=o.ex b f;rw[n.new b u e]};obtain⟨u,e⟩:=o.ex b f;exact⟨u,s b u e⟩
theorem New.append(n:New H B)(s:Same H H1)(c:∀b∈B,∃o,H1 b=some o/\Et o=true)(a:New H1 B1):New H (B++B1):=by refine⟨λb=>?_,λb o e=>?_⟩;{rw[zA0];have d:=n.one b;have f:=a.one b;by_cases h:B.count b=0;{lia};obtain⟨u,e,_⟩:=c b (qb6.mpr h);have:=a.new b u e;lia};rw[zA0,n.new b o e,a.new b o (s b o e)]
theorem Ok.same(o:Ok F H A)(s:Same H H'):Ok F H' A:=⟨o.sep,o.fro,λb f=>let ⟨u,e⟩:=o.ex b f;⟨u,s b u e⟩⟩
theorem New.stp(n:New H B)(s:Same H H'):Pc F H A F H' (B++A):=⟨λb o e _=>s b o e,λb o e q=>by rw[zA0,n.new b o e,q],λ_ f=>f,λ_ _ _ _ f=>f⟩
end
structure Exn where
 C:γ
 fs:List (Str×D)
def RepX(F:γ->Prop)(H:Hp)(e:γ)(x:Exn):Prop:=∃b,H e=some (Bi e x.C b false)/\(x.fs=[]∨∃dx a,b=some dx/\H dx=some (XD dx a)/\a.map (·.1)=x.fs.map (·.1)/\O4 F H (a.map (·.2)) (x.fs.map (·.2)) [])
abbrev Ds:=List D
abbrev DK:=D->Ds->Prop
abbrev XKd:=Exn->Ds->Prop
abbrev VT:=Ds->DK->XKd->Prop
abbrev VTT:=Ds->(Bool->Ds->Prop)->XKd->Prop
abbrev VTA:=Ds->(Ds->Ds->Prop)->XKd->Prop
abbrev FV:=Ds->Option D
structure Vc where
 E:St->XK
 W:Nat->Bool
 av:List (Option V)
 gv:List (Option V)
structure Pd(c:Vc)(F:γ->Prop)(H:Hp)(a:St)(ds:Ds)(A:List γ):Prop where
 loc:Locs F H (a++c.gv) ds A
 ok:Ok F H A
 len:c.av.length=(a++c.gv).length
 ag:∀i,c.W i=true->(a++c.gv)[i]?=c.av[i]?
theorem Pd.same(S:Pd c F H a ds A)(s:Same H H'):Pd c F H' a ds A:=⟨S.loc.same s,S.ok.same s,S.len,S.ag⟩
def Xc(c:Vc)(xe:XKd)(F:γ->Prop)(H:Hp)(A:List γ):Prop:=∀x a b' e H' F' A',xe x a->RepX F' H' e x->Pd c F' H' b' a A'->Pc F H A F' H' A'->c.E b' (.ref e) none H'
theorem Xc.step(x:Xc c xe F H A)(s:Pc F H A F1 H1 A1):Xc c xe F1 H1 A1:=λy a b' e H' F' A' h r S t=>x y a b' e H' F' A' h r S (s.trans t)
def kE(c:Vc)(b:St)(F:γ->Prop)(H:Hp)(A:List γ)(Q:VK):DK:=λd a=>∀v H' F' T A',Pa F' H' v d T->Pd c F' H' b a A'->Ok F' H' (T++A')->Pc F H A F' H' (T++A')->Q v H'
inductive LiftE(c:Vc)(t:VT)(a:St)(H:Hp)(Q:VK):Prop
 |mk (F:γ->Prop) (ds:Ds) (A:List γ) (xe:XKd) (S:Pd c F H a ds A) (x:Xc c xe F H A) (q:t ds (kE c a F H A Q) xe):LiftE c t a H Q
def Bf(c:Vc)(t:VT):TE:=LiftE c t
inductive LiftV(c:Vc)(own:Bool)(f:FV)(a:St)(H:Hp)(Q:VK):Prop
 |mk (F:γ->Prop) (ds:Ds) (A:List γ) (d:D) (S:Pd c F H a ds A) (e:f ds=some d) (q:∀v H' B,Pa F H' v d B->Same H H'->(own=true->New H B)->Q v H'):LiftV c own f a H Q
def liftV(c:Vc)(own:Bool)(f:FV):TE:=LiftV c own f
inductive qaS3(c:Vc)(own:Bool)(f:Ds->Option Ds)(a:St)(H:Hp)(Q:List V->Hp->Prop):Prop
 |mk (F:γ->Prop) (ds:Ds) (A:List γ) (xs:Ds) (S:Pd c F H a ds A) (e:f ds=some xs) (q:∀vs H' B,O4 F H' vs xs B->Same H H'->(own=true->New H B)->Q vs H'):qaS3 c own f a H Q
def qaN2(c:Vc)(own:Bool)(f:Ds->Option Ds):TA:=qaS3 c own f
inductive qaS5(c:Vc)(t:VTA)(a:St)(H:Hp)(Q:List V->Hp->Prop):Prop
 |mk (F:γ->Prop) (ds:Ds) (A:List γ) (xe:XKd) (S:Pd c F H a ds A) (x:Xc c xe F H A) (q:t ds (λxs ds'=>∀vs H' F' T A',O4 F' H' vs xs T->Pd c F' H' a ds' A'->Pc F H A F' H' A'->Q vs H') xe):qaS5 c t a H Q
def qaA0(c:Vc)(t:VTA):TA:=qaS5 c t
inductive LiftT(c:Vc)(t:VTT)(a:St)(H:Hp)(Q:Bool->Hp->Prop):Prop
 |mk (F:γ->Prop) (ds:Ds) (A:List γ) (xe:XKd) (S:Pd c F H a ds A) (x:Xc c xe F H A) (q:t ds (λb ds'=>∀H' F' A',Pd c F' H' a ds' A'->Pc F H A F' H' A'->Q b H') xe):LiftT c t a H Q
def Fd(c:Vc)(t:VTT):TT:=LiftT c t
structure VE(c:Vc)(X:Cx)(e:Lr)(t:VT):Prop where
 h:PE X e (Bf c t)
 m:∀ds (Q Q':DK) (xe xe':XKd),(∀d ds',Q d ds'->Q' d ds')->(∀x ds',xe x ds'->xe' x ds')->t ds Q xe->t ds Q' xe'
structure VV(c:Vc)(X:Cx)(e:Lr)(own:Bool)(f:FV):Prop where
 h:PE X e (liftV c own f)
structure VVs(c:Vc)(X:Cx)(es:List Lr)(own:Bool)(f:Ds->Option Ds):Prop where
 h:PA X es (qaN2 c own f)
structure VOs(c:Vc)(X:Cx)(es:List Lr)(t:VTA):Prop where
 h:PA X es (qaA0 c t)
 m:∀ds (Q Q':Ds->Ds->Prop) (xe xe':XKd),(∀d ds',Q d ds'->Q' d ds')->(∀x ds',xe x ds'->xe' x ds')->t ds Q xe->t ds Q' xe'
structure VTe(c:Vc)(X:Cx)(e:Lr)(t:VTT):Prop where
 h:PT X e (Fd c t)
 m:∀ds (Q Q':Bool->Ds->Prop) (xe xe':XKd),(∀d ds',Q d ds'->Q' d ds')->(∀x ds',xe x ds'->xe' x ds')->t ds Q xe->t ds Q' xe'
theorem PE.mono(h:PE X e t)(i:∀a H Q,t' a H Q->t a H Q):PE X e t':=λE6 s a H Q I q=>h E6 s a H Q I (i a H Q q)
theorem PT.mono(h:PT X e t)(i:∀a H Q,t' a H Q->t a H Q):PT X e t':=λE6 s a H Q I q=>h E6 s a H Q I (i a H Q q)
theorem PW.mono(h:PW X e t)(i:∀a H Q,t' a H Q->t a H Q):PW X e t':=λw E6 s a H Q I q=>h w E6 s a H Q I (i a H Q q)
theorem PA.mono(h:PA X es t)(i:∀a H Q,t' a H Q->t a H Q):PA X es t':=λp E6 s a H Q I q=>h p E6 s a H Q I (i a H Q q)
theorem PS.mono(h:PS X st t)(i:∀D a H,t' D a H->t D a H):PS X st t':=λE6 s a H D I q=>h E6 s a H D I (i D a H q)
theorem PSs.mono(h:PSs X st t)(i:∀D a H,t' D a H->t D a H):PSs X st t':=λE6 s a H D I q=>h E6 s a H D I (i D a H q)
def orF{α:Type}(o:Option α)(k:α->Prop):Prop:=match o with|some a=>k a|none=>False
theorem qa5(h:∀a,k a->b a):orF o k->orF o b:=by cases o with|none=>exact id|some a=>exact h a
theorem qa7:orF o k↔∃a,o=some a/\k a:=by cases o with|none=>exact⟨λh=>h.elim,λ⟨_,e,_⟩=>by cases e⟩|some a=>exact⟨λh=>⟨a,rfl,h⟩,λ⟨b,e,h⟩=>by cases e;exact h⟩
section
variable{c:Vc}{X:Cx}{e:Lr}{F:γ->Prop}{H H':Hp}{t:St}{ds:Ds}{A:List γ}
theorem Pd.new(S:Pd c F H t ds A)(n:New H B)(s:Same H H'):Ok F H' (B++A):=n.ok S.ok S.loc.cells s
def Bk(f:FV):VT:=λds Q _=>orF (f ds) λd=>Q d ds
def Bo(f:FV):VT:=λds Q _=>orF (f ds) λd=>d.imm=true/\Q d ds
theorem qa4(h:VV c X e true f):VE c X e (Bk f):=by refine⟨PE.mono h.h λt H Q a=>?_,λb Q Q' g i j _=>qa5 λd=>j d b⟩;obtain⟨F,b,A,g,S,x,q⟩:=a;obtain⟨d,e,q⟩:=qa7.mp q;exact⟨F,b,A,d,S,e,λv H' B r s n=>q v H' F B A r (S.same s) (S.new (n rfl) s) ((n rfl).stp s)⟩
theorem qb8(h:VV c X e own f):VE c X e (Bo f):=by refine⟨PE.mono h.h λt H Q a=>?_,λb Q Q' g i j _=>qa5 λd=>N7 (j d b)⟩;obtain⟨F,b,A,g,S,x,q⟩:=a;obtain⟨d,e,k,q⟩:=qa7.mp q;refine⟨F,b,A,d,S,e,λv H' B r s _=>?_⟩;have:=r.imm k;subst this;exact q v H' F [] A r (S.same s) (S.ok.same s) (.same s)
theorem G7(h:PE X e (tC v))(r:∀F H,Pa F H v d []):VV c X e true (λ_=>some d):=⟨PE.mono h λt H Q ⟨F,a,A,b,S,e,q⟩=>by cases e;exact q v H [] (r F H) (λ_ _ z=>z) λ_=>New.nil⟩
noncomputable def D.known:D->Bool|.u=>false|.hole _=>false|_=>true
def rdN(i:Nat):FV:=λds=>match ds[i]? with|some d=>if d.known=true then some d else none|none=>none
theorem qk2:rdN i ds=some d↔ds[i]?=some d/\d.known=true:=by unfold rdN;cases h:ds[i]? with|none=>simp|some x=>dsimp only;split;{rename_i hk;constructor;{intro e;grind};rintro⟨e,_⟩;exact e};grind
theorem Pd.at(S:Pd c F H t ds A)(hi:i<t.length)(h:ds[i]?=some d)(a:d.known=true):∃v B,t[i]?=some (some v)/\Pa F H v d B/\∀b,B.count b<=A.count b:=by
 obtain⟨σ1,o,σ2,e,f,A1,B,A2,g,e2,j,m,k,n,l,p⟩:=S.loc.split h;cases l with
 |no=>cases a|@so v _ _ r=>
  refine⟨v,B,?_,r,λb=>by rw[k];simp only[zA0];lia⟩;have:(t++c.gv)[i]?=some (some v):=by rw[g];exact qA6 j
  rwa[zAq hi] at this
theorem qaF2(h:PE X (.Name x pos) (F5 i))(hi:∀E6 t H s,Pb X E6 t H s->i<t.length):VV c X (.Name x pos) false (rdN i):=by refine⟨λE6 s t H Q I a=>?_⟩;obtain⟨F,g,A,d,S,e,q⟩:=a;refine h E6 s t H Q I ?_;obtain⟨e,b⟩:=qk2.mp e;obtain⟨v,B,f,r,_⟩:=S.at (hi E6 t H s I) e b;exact⟨v,f,q v H B r (λ_ _ z=>z) λz=>by cases z⟩
theorem qk9{X:Cx}(a:X.N[i]?=some x):∀E6 t H s,Pb X E6 t H s->i<t.length:=λE6 t H s I=>by
 rw[I.len];exact(zA6.mp a).1
end
def Sub(H:Hp)(B B':List γ):Prop:=∀b,B'.count b<=B.count b∨(B'.count b<=1/\H b=none)
theorem Sub.new(s:Sub H1 B B')(n:New H B)(q:Same H H1):New H B':=by refine⟨λb=>?_,λb o e=>?_⟩;{rcases s b with h|⟨h,_⟩;{have:=n.one b;lia};exact h};rcases s b with h|⟨_,h⟩;{have:=n.new b o e;lia};rw[q b o e] at h;cases h
def OpS(nw:Bool)(r:List V->Hp->VK->Prop)(g:Ds->Option D):Prop:=∀F H vs xs B d (Q:VK),O4 F H vs xs B->g xs=some d->(∀v H' B',Pa F H' v d B'->Same H H'->(if nw=true then New H B' else Sub H B B')->Q v H')->r vs H Q
def Ba(nw:Bool)(r:R2)(g:D->D->Option D):Prop:=∀F H v w x y B d (Q:VK),O4 F H [v,w] [x,y] B->g x y=some d->(∀v H' B',Pa F H' v d B'->Same H H'->(if nw=true then New H B' else Sub H B B')->Q v H')->r v w H Q
noncomputable def f2(g:D->D->Option D)(fa fb:FV):FV:=λds=>(fa ds).bind λx=>(fb ds).bind λy=>g x y
theorem qaQ3:f2 g fa fb ds=some d↔∃x y,fa ds=some x/\fb ds=some y/\g x y=some d:=by unfold f2;cases a:fa ds with|none=>simp|some x=>cases b:fb ds with|none=>simp|some y=>simp
noncomputable def f1(g:D->Option D)(fa:FV):FV:=λds=>(fa ds).bind g
theorem qam6:f1 g fa ds=some d↔∃x,fa ds=some x/\g x=some d:=by unfold f1;cases a:fa ds with|none=>simp|some x=>simp
theorem F6(r:Pa F H v d A)(s:Pa F H w e B):O4 F H [v,w] [d,e] (A++(B++[])):=.cons r (.cons s .nil)
section
variable{c:Vc}{X:Cx}{a b:Lr}{W Z U:Bool}{fa fb:FV}{r:R2}{g:D->D->Option D}{O R:VT}
theorem op_vv(h:Ba U r g):∀N H Q,liftV c (U||(W&&Z)) (f2 g fa fb) N H Q->tOp r (liftV c W fa) (liftV c Z fb) N H Q:=by rintro N H Q ⟨F,k,A,d,S,e,q⟩;obtain⟨x,y,m,n,p⟩:=qaQ3.mp e;refine⟨F,k,A,x,S,m,λv H1 B1 l a s=>⟨F,k,A,y,S.same a,n,λw H2 B2 t i z=>?_⟩⟩;refine h F H2 v w x y _ d Q (F6 (l.same i) t) p λu H3 B3 B C f=>?_;refine q u H3 B3 B ((a.trans i).trans C) λj=>?_;cases U with|true=>rw[if_pos rfl] at f;exact⟨f.one,λb o e=>f.new b o (i b o (a b o e))⟩|false=>rw[if_neg ∅] at f;have j:=zAl.mp j;have:=(s j.1).append a l.cells (z j.2);exact f.new (by rw[zAe];exact this) (a.trans i)
def t2(g:D->D->Option D)(O R:VT):VT:=λds Q xe=>O ds (λx ds1=>R ds1 (λy a=>orF (g x y) λd=>Q d a) xe) xe
theorem qap2(j:VE c X a O)(k:VE c X b R):∀ds (Q Q':DK) (xe f:XKd),(∀d e,Q d e->Q' d e)->(∀x e,xe x e->f x e)->t2 g O R ds Q xe->t2 g O R ds Q' f:=λds Q Q' xe f l i=>j.m _ _ _ _ _ (λd n=>k.m _ _ _ _ _ (λd h=>qa5 λz=>l z h) i) i
theorem op_ee(p:VE c X a O)(n:VE c X b R)(h:Ba true r g):∀N H Q,Bf c (t2 g O R) N H Q->tOp r (Bf c O) (Bf c R) N H Q:=by
 rintro N H Q ⟨F,s,A,o,S,x,q⟩;refine⟨F,s,A,o,S,x,p.m _ _ _ _ _ (λt i q v H1 F1 T A1 y S1 B C=>?_) (λ_ _ z=>z) q⟩;have e:Pc F H A F1 H1 A1:=C.count λb=>by rw[zA0];lia
 refine⟨F1,i,A1,o,S1,x.step e,n.m _ _ _ _ _ (λD E q w H2 F2 T2 A2 G S2 L I=>?_) (λ_ _ z=>z) q⟩;obtain⟨d,J,q⟩:=qa7.mp q;have f:Pc F1 H1 A1 F2 H2 A2:=I.count λb=>by rw[zA0];lia
 have j:=y.keep (f.kp S1.ok S1.loc.cells) λb n M=>by have:=B.sep b;grind
 refine h F2 H2 v w t D _ d Q (F6 j G) J λu H3 B3 K k l=>?_;rw[if_pos rfl] at l;exact q u H3 F2 B3 A2 K (S2.same k) (S2.new l k) ((e.trans f).trans (l.stp k))
def t2v(g:D->D->Option D)(O:VT)(fb:FV):VT:=λds Q xe=>O ds (λx ds1=>orF ((fb ds1).bind (g x)) λd=>Q d ds1) xe
theorem qav1(h:VE c X a O):∀ds (Q Q':DK) (xe e:XKd),(∀d b,Q d b->Q' d b)->(∀x b,xe x b->e x b)->t2v g O fb ds Q xe->t2v g O fb ds Q' e:=λds Q Q' xe e i j=>h.m _ _ _ _ _ (λd f=>qa5 λz=>i z f) j
theorem op_ev(s:VE c X a O)(h:Ba true r g):∀N H Q,Bf c (t2v g O fb) N H Q->tOp r (Bf c O) (liftV c Z fb) N H Q:=by
 rintro N H Q ⟨F,t,A,B,S,x,q⟩;refine⟨F,t,A,B,S,x,s.m _ _ _ _ _ (λC j q v H1 F1 T A1 D S1 L E=>?_) (λ_ _ z=>z) q⟩;have k:Pc F H A F1 H1 A1:=E.count λb=>by rw[zA0];lia
 obtain⟨d,l,q⟩:=qa7.mp q;obtain⟨y,G,l⟩:=zA1.mp l;refine⟨F1,j,A1,y,S1,G,λw H2 B2 I n _=>?_⟩;refine h F1 H2 v w C y _ d Q (F6 (D.same n) I) l λu H3 B3 J K p=>?_;rw[if_pos rfl] at p;have f:=n.trans K;have i:New H1 B3:=⟨p.one,λb o e=>p.new b o (n b o e)⟩;exact q u H3 F1 B3 A1 J (S1.same f) (S1.new i f) (k.trans (i.stp f))
def OpS1(U:Bool)(r:V->Hp->VK->Prop)(g:D->Option D):Prop:=∀F H v x B d (Q:VK),Pa F H v x B->g x=some d->(∀v H' B',Pa F H' v d B'->Same H H'->(if U=true then New H B' else Sub H B B')->Q v H')->r v H Q
def t1(g:D->Option D)(O:VT):VT:=λds Q xe=>O ds (λx ds1=>orF (g x) λd=>Q d ds1) xe
variable{Y:V->Hp->VK->Prop}{g1:D->Option D}
theorem op_v(h:OpS1 U Y g1):∀N H Q,liftV c (U||W) (f1 g1 fa) N H Q->liftV c W fa N H (λx H1=>Y x H1 Q):=by rintro N H Q ⟨F,g,A,d,S,e,q⟩;obtain⟨x,i,j⟩:=qam6.mp e;refine⟨F,g,A,x,S,i,λv H1 B1 Y f k=>?_⟩;refine h F H1 v x _ d Q Y j λu H3 B3 l m a=>?_;refine q u H3 B3 l (f.trans m) λn=>?_;cases U with|true=>rw[if_pos rfl] at a;exact⟨a.one,λb o e=>a.new b o (f b o e)⟩|false=>rw[if_neg ∅] at a;exact a.new (k n) f
end
theorem qP9(c:Ok F1 H1 (T++A1))(a:Pc F H A F1 H1 (T++A1))(j:∀b∈A1,∃o,H1 b=some o/\Et o=true)(i:Same H1 H3)(g:Sub H1 T B):Ok F1 H3 (B++A1)/\Pc F H A F1 H3 (B++A1):=by refine⟨⟨λb=>?_,λb f=>?_,λb f=>let ⟨u,e⟩:=c.ex b f;⟨u,i b u e⟩⟩,λb o e q=>i b o (a.fr b o e q),λb o e q=>?_,a.mono,a.fnew⟩;{have:=c.sep b;rw[zA0] at this ⊢;rcases g b with h|⟨h,d⟩;{lia};by_cases k:A1.count b=0;{lia};obtain⟨o,e,_⟩:=j b (qb6.mpr k);grind};{have:=c.fro b f;rw[zA0] at this ⊢;rcases g b with h|⟨h,d⟩;{lia};obtain⟨o,e⟩:=c.ex b f;grind};have:=a.sub b o e q;rw[zA0] at this ⊢;rcases g b with h|⟨h,d⟩;{lia};rw[a.fr b o e q] at d;cases d
section
variable{c:Vc}{X:Cx}{a b:Lr}{oa ob Z:Bool}{fa fb:FV}{r:R2}{g:D->D->Option D}{U Y:VT}
theorem qaX6(C:VE c X a U)(k:VE c X b Y)(h:Ba false r g):∀R H Q,Bf c (t2 g U Y) R H Q->tOp r (Bf c U) (Bf c Y) R H Q:=by
 rintro R H Q ⟨F,D,A,l,S,x,q⟩;refine⟨F,D,A,l,S,x,C.m _ _ _ _ _ (λE e q v H1 F1 T A1 n S1 o p=>?_) (λ_ _ z=>z) q⟩;have f:Pc F H A F1 H1 A1:=p.count λb=>by rw[zA0];lia
 refine⟨F1,e,A1,l,S1,x.step f,k.m _ _ _ _ _ (λG I q w H2 F2 T2 A2 J S2 K s=>?_) (λ_ _ z=>z) q⟩;obtain⟨d,L,q⟩:=qa7.mp q;have i:=n.keep (s.kp S1.ok S1.loc.cells) λb k P=>by have:=o.sep b;grind
 obtain⟨t,y⟩:=s.frame o n.cells K;refine h F2 H2 v w E G _ d Q (F6 i J) L λu H3 B3 M B j=>?_;rw[if_neg ∅] at j;rw[<-zAx] at t y;obtain⟨N,O⟩:=qP9 t (p.trans y) S2.loc.cells B (by rw[zAe] at j;exact j);exact q u H3 F2 B3 A2 M (S2.same B) N O
def Jw(g:D->D->Option D)(U:VT)(fb:FV):VT:=λds Q xe=>U ds (λx ds1=>orF (fb ds1) λy=>y.imm=true/\orF (g x y) λd=>Q d ds1) xe
theorem qah4(h:VE c X a U):∀ds (Q Q':DK) (xe e:XKd),(∀d b,Q d b->Q' d b)->(∀x b,xe x b->e x b)->Jw g U fb ds Q xe->Jw g U fb ds Q' e:=λds Q Q' xe e i j=>h.m _ _ _ _ _ (λd f=>qa5 λy=>N7 (qa5 λz=>i z f)) j
theorem qaX5(p:VE c X a U)(h:Ba false r g):∀R H Q,Bf c (Jw g U fb) R H Q->tOp r (Bf c U) (liftV c ob fb) R H Q:=by rintro R H Q ⟨F,s,A,t,S,x,q⟩;refine⟨F,s,A,t,S,x,p.m _ _ _ _ _ (λB i q v H1 F1 T A1 C S1 D E=>?_) (λ_ _ z=>z) q⟩;obtain⟨y,G,I,q⟩:=qa7.mp q;obtain⟨d,J,q⟩:=qa7.mp q;refine⟨F1,i,A1,y,S1,G,λw H2 B2 k j _=>?_⟩;have:=k.imm I;subst this;refine h F1 H2 v w B y _ d Q (F6 (C.same j) k) J λu H3 B3 K L l=>?_;rw[if_neg ∅,zAe,zAe] at l;have f:=j.trans L;have M:Sub H1 T B3:=λb=>(l b).imp id λ⟨N,n⟩=>⟨N,by cases e:H1 b with|none=>rfl|some o=>rw[j b o e] at n;cases n⟩;obtain⟨O,P⟩:=qP9 D E S1.loc.cells f M;exact q u H3 F1 B3 A1 K (S1.same f) O P
theorem qa6:VVs c X [] true (λ_=>some []):=⟨PA.mono qu0 λR H Q ⟨F,a,A,b,S,e,q⟩=>by cases e;exact q [] H [] .nil (λ_ _ z=>z) λ_=>New.nil⟩
noncomputable def Am(fa:FV)(fr:Ds->Option Ds):Ds->Option Ds:=λds=>(fa ds).bind λx=>(fr ds).bind λxs=>some (x::xs)
theorem qam5{fa:FV}{fr:Ds->Option Ds}:Am fa fr ds=some xs↔∃x r,fa ds=some x/\fr ds=some r/\xs=x::r:=by unfold Am;cases a:fa ds with|none=>simp|some x=>cases b:fr ds with|none=>simp|some y=>simp[eq_comm]
theorem qa0(j:VV c X e oa fa)(k:VVs c X es own fr)(l:Kw (e::es) X.env=(false,eval e X.env)::Kw es X.env):VVs c X (e::es) (oa&&own) (Am fa fr):=by refine⟨PA.mono (qe7 j.h k.h l) λR H Q b=>?_⟩;obtain⟨F,f,A,t,S,e,q⟩:=b;obtain⟨x,r,m,e2,rfl⟩:=qam5.mp e;refine⟨F,f,A,x,S,m,λv H1 B1 g d n=>⟨F,f,A,r,S.same d,e2,λo H2 B2 p i s=>?_⟩⟩;refine q (v::o) H2 (B1++B2) (.cons (g.same i) p) (d.trans i) λa=>?_;have a:=zAl.mp a;exact(n a.1).append d g.cells (s a.2)
variable{rc:List V->Hp->VK->Prop}{W:Ds->Option D}
theorem qaL8(h:OpS Z rc W):∀R H Q,liftV c (Z||own) (λds=>(f ds).bind W) R H Q->tCB rc (qaN2 c own f) R H Q:=by rintro R H Q ⟨F,ds,A,d,S,e,q⟩;obtain⟨i,j,e2⟩:=zA1.mp e;refine⟨F,ds,A,i,S,j,λk H1 B1 l g m=>h F H1 k i B1 d Q l e2 λu H3 B3 n p a=>q u H3 B3 n (g.trans p) λr=>?_⟩;cases Z with|true=>rw[if_pos rfl] at a;exact⟨a.one,λb o e=>a.new b o (g b o e)⟩|false=>rw[if_neg ∅] at a;exact a.new (m r) g
def tcO(W:Ds->Option D)(t:VTA):VT:=λds Q xe=>t ds (λxs ds1=>orF (W xs) λd=>Q d ds1) xe
theorem qX0(f:VOs c X es t):∀ds (Q Q':DK) (xe b:XKd),(∀d a,Q d a->Q' d a)->(∀x a,xe x a->b x a)->tcO W t ds Q xe->tcO W t ds Q' b:=λds Q Q' xe b g h=>f.m _ _ _ _ _ (λd e=>qa5 λz=>g z e) h
theorem opc_o(e:VOs c X es t)(h:OpS true rc W):∀R H Q,Bf c (tcO W t) R H Q->tCB rc (qaA0 c t) R H Q:=by rintro R H Q ⟨F,f,A,g,S,x,q⟩;refine⟨F,f,A,g,S,x,e.m _ _ _ _ _ (λi j q k H1 F1 T A1 l S1 n=>?_) (λ_ _ z=>z) q⟩;obtain⟨d,o,q⟩:=qa7.mp q;refine h F1 H1 k i T d Q l o λu H3 B3 p a b=>?_;rw[if_pos rfl] at b;exact q u H3 F1 B3 A1 p (S1.same a) (S1.new b a) (n.trans (b.stp a))
end
def D.kids:D->List D|.q ds=>ds|.l false ds=>ds|.dct false kvs=>kvs.map (·.2)|.ins false _ fs=>fs.map (·.2)|_=>[]
noncomputable def Ja{a:Type}:List (a×D)->Nat->D->List (a×D)|[],_,_=>[]|(k,_)::r,0,x=>(k,x)::r|p::r,n+1,x=>p::Ja r n x
theorem qI9{c:Type}:∀(l:List (c×D))(n:Nat)(x:D),(Ja l n x).map (·.1)=l.map (·.1)/\(Ja l n x).map (·.2)=(l.map (·.2)).set n x|[],_,_=>⟨rfl,rfl⟩|(k,_)::r,0,x=>⟨rfl,rfl⟩|p::r,n+1,x=>by obtain⟨a,b⟩:=qI9 r n x;simp only[Ja,zAy,a,b,List.set_cons_succ,and_self]
def D.setK:D->Nat->D->D|.q ds,n,x=>.q (ds.set n x)|.l z ds,n,x=>.l z (ds.set n x)|.dct z kvs,n,x=>.dct z (Ja kvs n x)|.ins z C fs,n,x=>.ins z C (Ja fs n x)|d,_,_=>d
def Lnk(H:Hp)(u:V)(n:Nat)(w:V):Prop:=∃a,u=.ref a/\((∃vs,H a=some (.q vs)/\vs[n]?=some w)∨(∃vs,H a=some (.l vs)/\vs[n]?=some w)∨(∃kvs,H a=some (.dK kvs)/\(kvs.map (·.2))[n]?=some w)∨∃C dx fs,H a=some (.ins C dx fs)/\(fs.map (·.2))[n]?=some w)
section
variable{F F':γ->Prop}{H H':Hp}
theorem O4.split:∀{ds:List D}{vs:List V}{A:List γ}{i:Nat}{d:D},O4 F H vs ds A->ds[i]?=some d->∃b v c ds1 a A1 B A2,vs=b++v::c/\ds=ds1++d::a/\b.length=i/\ds1.length=i/\A=A1++(B++A2)/\O4 F H b ds1 A1/\Pa F H v d B/\O4 F H c a A2:=by
 intro ds;induction ds with
 |nil=>intro K A i d _ h;simp at h|cons e r f=>
  intro K A i d L h;cases i with
  |zero=>
   have:e=d:=by simpa using h
   subst this;cases L with|cons q t=>exact⟨[],_,_,[],_,[],_,_,rfl,rfl,rfl,rfl,rfl,.nil,q,t⟩
  |succ i=>
   have h:r[i]?=some d:=by simpa using h
   cases L with|@cons v _ B0 _ _ A0 q t=>obtain⟨σ1,o,σ2,ds1,a,A1,B,A2,g,e2,j,k,l,m,n,p⟩:=f t h;exact⟨v::σ1,o,σ2,_::ds1,a,B0++A1,B,A2,by rw[g];rfl,by rw[e2];rfl,by simp[j],by simp[k],by rw[l,zAx],.cons q m,n,p⟩
theorem O4.append(r:O4 F H vs ds A)(t:O4 F H a es B):O4 F H (vs++a) (ds++es) (A++B):=by induction vs generalizing ds A with|nil=>cases r;exact t|cons v vs b=>cases r with|cons h c=>rw[zAx];exact .cons h (b c)
theorem O4.kid(r:O4 F H vs ds A)(h:ds[n]?=some d):∃(w:V)(B C:List γ),vs[n]?=some w/\Pa F H w d B/\(∀b,A.count b=B.count b+C.count b)/\∀{F':γ->Prop}{H':Hp}{W:γ->Prop}(d':D)(B':List γ),Kp F H W F' H'->(∀b∈C,¬W b)->Pa F' H' w d' B'->∃A':List γ,O4 F' H' vs (ds.set n d') A'/\∀b,A'.count b=B'.count b+C.count b:=by obtain⟨f,v,g,i,j,A1,B,A2,c,e2,l,m,o,p,q,s⟩:=r.split h;refine⟨v,B,A1++A2,by rw[c];exact qA6 l,q,λb=>by rw[o];simp only[zA0];lia,λ{F' H' W} d' B' k e t=>⟨A1++(B'++A2),?_,λb=>by simp only[zA0];lia⟩⟩;rw[c,e2,qo1 m];exact(p.keep k λb a=>e b (zAd.mpr (.inl a))).append (.cons t (s.keep k λb a=>e b (zAd.mpr (.inr a))))
theorem Pa.kid(r:Pa F H p d0 A)(h:d0.kids[n]?=some d):∃(w:V)(B C:List γ),Lnk H p n w/\Pa F H w d B/\(∀b,A.count b=B.count b+C.count b)/\∀{F':γ->Prop}{H':Hp}{W:γ->Prop}(d':D)(B':List γ),Kp F H W F' H'->(∀b∈C,¬W b)->Pa F' H' w d' B'->∃A':List γ,Pa F' H' p (d0.setK n d') A'/\∀b,A'.count b=B'.count b+C.count b:=by cases r with|@q a vs ds _ e r=>obtain⟨w,B,C,f,g,i,j⟩:=r.kid h;refine⟨w,B,C,⟨a,rfl,.inl ⟨vs,e,f⟩⟩,g,i,λ{F' H' W} d' B' k c l=>?_⟩;obtain⟨A',m,q2⟩:=j d' B' k c l;exact⟨A',.q (k.q e) m,q2⟩|@l a vs ds A e r=>obtain⟨w,B,C,f,g,i,j⟩:=r.kid h;refine⟨w,B,a::C,⟨a,rfl,.inr (.inl ⟨vs,e,f⟩)⟩,g,λb=>by rw[zAv,zAv,i];lia,λ{F' H' W} d' B' k c l=>?_⟩;obtain⟨A',m,q2⟩:=j d' B' k (λb o=>c b (zA4 _ o)) l;exact⟨a::A',.l (k.fr a _ e (c a zA9)) m,λb=>by rw[zAv,zAv,q2];lia⟩|@dct a kvs kds A e q r=>obtain⟨w,B,C,f,g,i,j⟩:=r.kid h;refine⟨w,B,a::C,⟨a,rfl,.inr (.inr (.inl ⟨kvs,e,f⟩))⟩,g,λb=>by rw[zAv,zAv,i];lia,λ{F' H' W} d' B' k c l=>?_⟩;obtain⟨A',m,q2⟩:=j d' B' k (λb o=>c b (zA4 _ o)) l;obtain⟨s,t⟩:=qI9 kds n d';exact⟨a::A',.dct (k.fr a _ e (c a zA9)) (q.trans s.symm) (by rw[t];exact m),λb=>by rw[zAv,zAv,q2];lia⟩|@ins a C0 dx fvs fds A e q r=>obtain⟨w,B,C,f,g,i,j⟩:=r.kid (n:=n) h;refine⟨w,B,a::C,⟨a,rfl,.inr (.inr (.inr ⟨C0,dx,fvs,e,f⟩))⟩,g,λb=>by rw[zAv,zAv,i];lia,λ{F' H' W} d' B' k c l=>?_⟩;obtain⟨A',m,q2⟩:=j d' B' k (λb o=>c b (zA4 _ o)) l;obtain⟨s,t⟩:=qI9 fds n d';exact⟨a::A',.ins (k.fr a _ e (c a zA9)) (q.trans s.symm) (by rw[t];exact m),λb=>by rw[zAv,zAv,q2];lia⟩|_=>cases (show (none:Option D)=some _ from h)
def D.getP:D->List Nat->Option D|d,[]=>some d|d,n::p=>match d.kids[n]? with|some e=>e.getP p|none=>none
def D.setP:D->List Nat->D->D|_,[],x=>x|d,n::p,x=>match d.kids[n]? with|some e=>d.setK n (e.setP p x)|none=>d
def Pg(H:Hp):V->List Nat->V->Prop|u,[],w=>u=w|u,n::p,w=>∃v,Lnk H u n v/\Pg H v p w
theorem Pa.path:∀{p:List Nat}{a:V}{d0 d:D}{A:List γ},Pa F H a d0 A->d0.getP p=some d->∃(w:V)(B C:List γ),Pg H a p w/\Pa F H w d B/\(∀b,A.count b=B.count b+C.count b)/\∀{F':γ->Prop}{H':Hp}{W:γ->Prop}(d':D)(B':List γ),Kp F H W F' H'->(∀b∈C,¬W b)->Pa F' H' w d' B'->∃A':List γ,Pa F' H' a (d0.setP p d') A'/\∀b,A'.count b=B'.count b+C.count b:=by intro p;induction p with|nil=>intro a d0 d A r h;cases h;exact⟨a,A,[],rfl,r,λb=>by simp,λ{F' H' W} d' B' k f g=>⟨B',g,λb=>by simp⟩⟩|cons n p j=>intro a d0 d A r h;unfold D.getP at h;cases c:d0.kids[n]? with|none=>rw[c] at h;cases h|some e=>rw[c] at h;obtain⟨l,B1,C1,m,o,q,s⟩:=r.kid c;obtain⟨w,B,C,t,u,v,x⟩:=j o h;refine⟨w,B,C++C1,⟨l,m,t⟩,u,λb=>by rw[q,v,zA0];lia,λ{F' H' W} d' B' k f g=>?_⟩;obtain⟨A1,y,q2⟩:=x d' B' k (λb i=>f b (zAd.mpr (.inl i))) g;obtain⟨A2,z,E⟩:=s (e.setP p d') A1 k (λb i=>f b (zAd.mpr (.inr i))) y;refine⟨A2,?_,λb=>by rw[E,q2,zA0];lia⟩;unfold D.setP;rw[c];exact z
def Bb(ds:Ds)(i:Nat)(p:List Nat):Option D:=match ds[i]? with|some d=>d.getP p|none=>none
def By(ds:Ds)(i:Nat)(p:List Nat)(x:D):Ds:=match ds[i]? with|some d=>ds.set i (d.setP p x)|none=>ds
theorem qae6(h:D.getP .u p=some d):p=[]/\d=.u:=by cases p with|nil=>cases h;exact⟨rfl,rfl⟩|cons n p=>cases (show (none:Option D)=some _ from h)
theorem Locs.place(L:Locs F H K ds A)(h:Bb ds i p=some d)(g:d≠.u):∃(u w:V)(B C:List γ),K[i]?=some (some u)/\Pg H u p w/\Pa F H w d B/\(∀b,A.count b=B.count b+C.count b)/\∀{F':γ->Prop}{H':Hp}{W:γ->Prop}(d':D)(B':List γ),Kp F H W F' H'->(∀b∈C,¬W b)->Pa F' H' w d' B'->∃A':List γ,Locs F' H' K (By ds i p d') A'/\∀b,A'.count b=B'.count b+C.count b:=by unfold Bb at h;cases c:ds[i]? with|none=>rw[c] at h;cases h|some J=>rw[c] at h;obtain⟨σ1,o,σ2,j,l,A1,B0,A2,f,e2,m,n,q,s,t,v⟩:=L.split c;cases t with|no=>exact absurd (qae6 h).2 g|@so u _ _ r=>obtain⟨w,B,C,x,y,z,E⟩:=r.path h;refine⟨u,w,B,A1++(C++A2),by rw[f];exact qA6 m,x,y,λb=>by rw[q];simp only[zA0,z];lia,λ{F' H' W} d' B' k e G=>?_⟩;obtain⟨A',I,q2⟩:=E d' B' k (λb a=>e b (zAd.mpr (.inr (zAd.mpr (.inl a))))) G;refine⟨A1++(A'++A2),?_,λb=>by simp only[zA0,q2];lia⟩;unfold By;rw[c,f];dsimp only;rw[e2,qo1 n];exact(s.keep k λb a=>e b (zAd.mpr (.inl a))).append (.so I (v.keep k λb a=>e b (zAd.mpr (.inr (zAd.mpr (.inr a))))))
theorem Lnk.fn(h:Lnk H u n v)(h':Lnk H u n w):v=w:=by obtain⟨a,rfl,h⟩:=h;obtain⟨b,e,h'⟩:=h';cases e;rcases h with⟨vs,e,h⟩|⟨vs,e,h⟩|⟨vs,e,h⟩|⟨C,dx,vs,e,h⟩<;>rcases h' with⟨vs',e',h'⟩|⟨vs',e',h'⟩|⟨vs',e',h'⟩|⟨C',dx',vs',e',h'⟩<;>rw[e] at e'<;>cases e'<;>rw[h] at h'<;>exact N8 h'
theorem Pg.fn:∀{p:List Nat}{u v w:V},Pg H u p v->Pg H u p w->v=w|[],_,_,_,h,h'=>h.symm.trans h'|n::p,_,_,_,⟨x,h1,h2⟩,⟨y,h3,h4⟩=>by cases h1.fn h3;exact Pg.fn h2 h4
theorem Lnk.same(h:Lnk H u n v)(s:Same H H'):Lnk H' u n v:=by obtain⟨a,rfl,h⟩:=h;refine⟨a,rfl,?_⟩;rcases h with⟨vs,e,h⟩|⟨vs,e,h⟩|⟨vs,e,h⟩|⟨C,dx,vs,e,h⟩;{exact .inl ⟨vs,s _ _ e,h⟩};{exact .inr (.inl ⟨vs,s _ _ e,h⟩)};{exact .inr (.inr (.inl ⟨vs,s _ _ e,h⟩))};exact .inr (.inr (.inr ⟨C,dx,vs,s _ _ e,h⟩))
theorem Pg.same:∀{p:List Nat}{u v:V},Pg H u p v->Same H H'->Pg H' u p v|[],_,_,h,_=>h|n::p,_,_,⟨x,h1,h2⟩,s=>⟨x,h1.same s,h2.same s⟩
end
section
variable{c:Vc}{X:Cx}{b:Lr}{V:Bool}{r:R2}{g:D->D->Option D}{U:VT}
def t2n(g:D->D->Option D)(i:Nat)(U:VT):VT:=λds Q xe=>(rdN i ds).isSome=true/\U ds (λy ds1=>orF ((rdN i ds1).bind λx=>g x y) λd=>Q d ds1) xe
theorem qav2(h:VE c X b U):∀ds (Q Q':DK) (xe e:XKd),(∀d a,Q d a->Q' d a)->(∀x a,xe x a->e x a)->t2n g i U ds Q xe->t2n g i U ds Q' e:=λds Q Q' xe e j k=>N7 (h.m _ _ _ _ _ (λd f=>qa5 λz=>j z f) k)
theorem Pd.name(S:Pd c F H R ds A)(hi:i<R.length)(h:rdN i ds=some d):∃v B,R[i]?=some (some v)/\Pa F H v d B/\∀b,B.count b<=A.count b:=let ⟨e,k⟩:=qk2.mp h
 S.at hi e k
theorem op_ne(o:VE c X b U)(h:Ba true r g)(hi:i<R.length)(q:Bf c (t2n g i U) R H Q):tOp r (F5 i) (Bf c U) R H Q:=by
 obtain⟨F,p,A,s,S,x,t,q⟩:=q;obtain⟨L,e⟩:=zB5.mp t;obtain⟨v,B0,n,_,_⟩:=S.name hi e;refine⟨v,n,F,p,A,s,S,x,o.m _ _ _ _ _ (λC D q w H1 F1 T A1 E S1 M G=>?_) (λ_ _ z=>z) q⟩;have f:Pc F H A F1 H1 A1:=G.count λb=>by rw[zA0];lia
 obtain⟨d,j,q⟩:=qa7.mp q;obtain⟨y,I,j⟩:=zA1.mp j;obtain⟨N,B,a,J,_⟩:=S1.name hi I;rw[n] at a;cases a;refine h F1 H1 v w y C _ d Q (F6 J E) j λu H3 B3 K k l=>?_;rw[if_pos rfl] at l;exact q u H3 F1 B3 A1 K (S1.same k) (S1.new l k) (f.trans (l.stp k))
def t2nP(g:D->D->Option D)(i:Nat)(U:VT):VT:=λds Q xe=>(rdN i ds).isSome=true/\U ds (λy ds1=>orF ((rdN i ds1).bind λx=>g x y) λd=>d.imm=true/\Q d ds1) xe
theorem qah5(h:VE c X b U):∀ds (Q Q':DK) (xe e:XKd),(∀d a,Q d a->Q' d a)->(∀x a,xe x a->e x a)->t2nP g i U ds Q xe->t2nP g i U ds Q' e:=λds Q Q' xe e j k=>N7 (h.m _ _ _ _ _ (λd f=>qa5 λz=>N7 (j z f)) k)
theorem qaX1{R:St}{H:Hp}(o:VE c X b U)(h:Ba V r g)(hi:i<R.length)(q:Bf c (t2nP g i U) R H Q):tOp r (F5 i) (Bf c U) R H Q:=by
 obtain⟨F,p,A,s,S,x,t,q⟩:=q;obtain⟨L,e⟩:=zB5.mp t;obtain⟨v,B0,l,_,_⟩:=S.name hi e;refine⟨v,l,F,p,A,s,S,x,o.m _ _ _ _ _ (λC D q w H1 F1 T A1 E S1 M G=>?_) (λ_ _ z=>z) q⟩;have f:Pc F H A F1 H1 A1:=G.count λb=>by rw[zA0];lia
 obtain⟨d,j,I,q⟩:=qa7.mp q;obtain⟨y,J,j⟩:=zA1.mp j;obtain⟨N,B,a,K,_⟩:=S1.name hi J;rw[l] at a;cases a;refine h F1 H1 v w y C _ d Q (F6 K E) j λu H3 B3 n k O=>?_;have:=n.imm I;subst this;exact q u H3 F1 [] A1 n (S1.same k) (S1.ok.same k) (f.trans (.same k))
end
section
variable{F:γ->Prop}{H:Hp}{K:Oa}
theorem Pa.lst_inv(r:Pa F H v (.l z ds) B):∃a vs A,v=.ref a/\H a=some (.l vs)/\O4 F H vs ds A/\∀b,A.count b<=B.count b:=by cases r with|l h r=>exact⟨_,_,_,rfl,h,r,λb=>by rw[zAv];lia⟩|lstZ h f r=>exact⟨_,_,_,rfl,h,r,λb=>zA3 _⟩
theorem Pa.tup_inv(r:Pa F H v (.q ds) B):∃a vs,v=.ref a/\H a=some (.q vs)/\O4 F H vs ds B:=by cases r with|q h r=>exact⟨_,_,rfl,h,r⟩
theorem Pa.dct_inv(r:Pa F H v (.dct z kds) B):∃a kvs A,v=.ref a/\H a=some (.dK kvs)/\kvs.map (·.1)=kds.map (·.1)/\O4 F H (kvs.map (·.2)) (kds.map (·.2)) A/\∀b,A.count b<=B.count b:=by cases r with|dct h e r=>exact⟨_,_,_,rfl,h,e,r,λb=>by rw[zAv];lia⟩|dctZ h f e r=>exact⟨_,_,_,rfl,h,e,r,λb=>zA3 _⟩
theorem Pa.ins_inv(r:Pa F H v (.ins z C c) B):∃a dx d A,v=.ref a/\H a=some (.ins C dx d)/\d.map (·.1)=c.map (·.1)/\O4 F H (d.map (·.2)) (c.map (·.2)) A/\∀b,A.count b<=B.count b:=by cases r with|ins h e r=>exact⟨_,_,_,_,rfl,h,e,r,λb=>by rw[zAv];lia⟩|insZ h f e r=>exact⟨_,_,_,_,rfl,h,e,r,λb=>zA3 _⟩
noncomputable def D.elems:D->Option Ds|.l _ ds=>some ds|.q ds=>some ds|_=>none
theorem Pa.elems(r:Pa F H v d B)(h:d.elems=some ds):∃a vs A,v=.ref a/\(SqL K H a vs∨SqT K H a vs)/\O4 F H vs ds A/\∀b,A.count b<=B.count b:=by cases d with|l z c=>cases h;obtain⟨a,vs,A,e,h,r,q⟩:=r.lst_inv;exact⟨a,vs,A,e,.inl (.inl (.inl h)),r,q⟩|q c=>cases h;obtain⟨a,vs,e,h,r⟩:=r.tup_inv;exact⟨a,vs,_,e,.inr (.inl (.inl h)),r,λ_=>zA3 _⟩|_=>cases h
theorem O4.len(r:O4 F H vs ds A):vs.length=ds.length:=by induction vs generalizing ds A with|nil=>cases r;rfl|cons v vs a=>cases r with|cons h t=>simp[a t]
theorem qe8(a:H p=none):New H [p]:=⟨λb=>by rw[zAv];simp;split<;>lia,λb o e=>by
 have:b≠p:=λz=>by rw[z,a] at e;cases e
 simp[zAv,Ne.symm this]⟩
theorem qs8(a:H p=none)(r:O4 F H vs ds []):Pa F (upd H p (.l vs)) (.ref p) (.l false ds) [p]:=.l qb3 (r.same (Same.new a))
theorem qE8(a:H p=none)(r:O4 F H vs ds A):Pa F (upd H p (.q vs)) (.ref p) (.q ds) A:=.q qb3 (r.same (Same.new a))
theorem O4.get(r:O4 F H vs ds A)(h:ds[n]?=some d):∃w B,vs[n]?=some w/\Pa F H w d B/\∀b,B.count b<=A.count b:=by obtain⟨w,B,C,a,c,e,_⟩:=r.kid h;exact⟨w,B,a,c,λb=>by have:=e b;lia⟩
theorem O4.atI{ds:List D}{A:List γ}{i:Int}{d:D}(r:O4 F H vs ds A)(h:L2.atI ds i=some d):∃w B,L2.atI vs i=some w/\Pa F H w d B/\∀b,B.count b<=A.count b:=by unfold L2.atI at h ⊢;rw[r.len];cases e:ixN ds.length i with|none=>rw[e] at h;cases h|some j=>rw[e] at h;exact r.get h
theorem O4.sub(r:O4 F H vs ds A)(n m:Nat):∃B,O4 F H ((vs.drop n).take m) ((ds.drop n).take m) B/\∀b,B.count b<=A.count b:=by induction n generalizing vs ds A with|zero=>(induction m generalizing vs ds A with|zero=>exact⟨[],.nil,λb=>by simp⟩|succ m a=>cases r with|nil=>exact⟨[],.nil,λb=>by simp⟩|cons h t=>obtain⟨B,c,q2⟩:=a t;exact⟨_,.cons h (by simpa using c),λb=>by simp only[zA0];have:=q2 b;lia⟩)|succ n a=>cases r with|nil=>exact⟨[],by simpa using O4.nil,λb=>by simp⟩|cons h t=>grind
noncomputable def D.flat:D->Option V|.non=>some .non|.bl b=>some (.bl b)|.int i=>some (.int i)|.str x=>some (.str x)|_=>none
theorem Pa.flat(r:Pa F H v d B)(h:d.flat=some w):v=w/\flatV v=true:=by cases r<;>cases h<;>exact⟨rfl,rfl⟩
end
noncomputable def big:Nat:=1000000
theorem qi7:big<=Kx:=∅
section
variable{F:γ->Prop}{H:Hp}
theorem O4.imms0(r:O4 F H vs ds A)(h:D.imms ds=true):O4 F H vs ds []:=by have:=r.imms h;subst this;exact r
theorem O4.rep(r:O4 F H vs ds []):∀k:Nat,O4 F H (Ma k vs).flatten (Ma k ds).flatten []|0=>.nil|k+1=>by rw[zBs,zBs,zCf,zCf];exact r.append (B:=[]) (r.rep k)
end
noncomputable def gd(p:Prop)[Decidable p](d:D):Option D:=if p then some d else none
theorem qj1{p:Prop}[Decidable p](h:gd p d=some e):p/\d=e:=by unfold gd at h;grind
theorem qg4{p:Prop}[Decidable p](h:p):gd p d=some d:=if_pos h
def Gw:D->D->Option D|.int i,.int j=>some (.int (i+j))|.str a,.str b=>gd (a.length+b.length<=big) (.str (a++b))|.l _ xs,.l _ ys=>gd (D.imms xs=true/\D.imms ys=true/\xs.length+ys.length<=big) (.l false (xs++ys))|_,_=>none
def rAddA:R2:=λx y H Q=>rI0 (λi j=>.int (i+j)) x y H Q∨(∃i j,x=.str i/\y=.str j/\i.length+j.length<=Kx/\Q (.str (i++j)) H)∨rCat x y H Q
theorem qf2:OpR X (Lj .Add) rAddA:=qaX8.or (qab4.or qaX7)
theorem O4.both{F:γ->Prop}{H:Hp}{x y:D}{B:List γ}(r:O4 F H [v,w] [x,y] B):∃A A2,Pa F H v x A/\Pa F H w y A2:=by cases r with|cons a t=>cases t with|cons b _=>exact⟨_,_,a,b⟩
theorem Pa.int_inv{F:γ->Prop}{H:Hp}{i:Int}{A:List γ}(r:Pa F H v (.int i) A):v=.int i:=by cases r;rfl
theorem Pa.bl_inv{F:γ->Prop}{H:Hp}{b:Bool}{A:List γ}(r:Pa F H v (.bl b) A):v=.bl b:=by cases r;rfl
theorem Pa.str_inv{F:γ->Prop}{H:Hp}{b:Str}{A:List γ}(r:Pa F H v (.str b) A):v=.str b:=by cases r;rfl
theorem qaB8{x y d:D}(h:Gw x y=some d):(∃i j,x=.int i/\y=.int j/\d=.int (i+j))∨(∃a b,x=.str a/\y=.str b/\a.length+b.length<=big/\d=.str (a++b))∨∃z z' xs ys,x=.l z xs/\y=.l z' ys/\(D.imms xs=true/\D.imms ys=true/\xs.length+ys.length<=big)/\d=.l false (xs++ys):=by unfold Gw at h;split at h;{exact .inl ⟨_,_,rfl,rfl,(N8 h).symm⟩};{exact .inr (.inl ⟨_,_,rfl,rfl,(qj1 h).1,(qj1 h).2.symm⟩)};{exact .inr (.inr ⟨_,_,_,_,rfl,rfl,(qj1 h).1,(qj1 h).2.symm⟩)};cases h
theorem qf1:Ba true rAddA Gw:=by intro F H v w x y B d Q r h q;obtain⟨A,A2,c,e⟩:=r.both;rcases qaB8 h with⟨i,j,rfl,rfl,rfl⟩|⟨a,b,rfl,rfl,hl,rfl⟩|⟨z,z2,xs,ys,rfl,rfl,hl,rfl⟩;{exact .inl ⟨i,j,c.int_inv,e.int_inv,q _ H [] (.int _) (λ_ _ z=>z) New.nil⟩};{exact .inr (.inl ⟨a,b,c.str_inv,e.str_inv,zAg hl qi7,q _ H [] (.str _) (λ_ _ z=>z) New.nil⟩)};obtain⟨a,k,_,l,m,g,_⟩:=c.lst_inv;obtain⟨b,n,_,e2,o,q2,_⟩:=e.lst_inv;refine .inr (.inr ⟨a,b,k,n,l,e2,m,o,by rw[g.len,q2.len];exact zAg hl.2.2 qi7,λp f=>?_⟩);exact q _ _ [p] (qs8 f ((g.imms0 hl.1).append (q2.imms0 hl.2.1))) (Same.new f) (qe8 f)
noncomputable def small(i:Int):Bool:=decide (-(2 ^ 64)<i)&&decide (i<2 ^ 64)
theorem qO2{i:Int}(h:small i=true):-(2 ^ 64)<i/\i<2 ^ 64:=by have:=zAl.mp h;exact⟨zAn this.1,zAn this.2⟩
def F7:D->D->Option D|.int i,.int j=>gd ((small i||small j)=true) (.int (i*j))|.l _ xs,.int k=>gd (D.imms xs=true/\xs.length*k.toNat<=big/\k<1000000/\-1000000<k) (.l false (Ma k.toNat xs).flatten)|_,_=>none
def rMulA:R2:=λx y H Q=>rI CMul (λi j=>.int (i*j)) x y H Q∨rRep x y H Q
theorem qk8:OpR X (Lj .Mult) rMulA:=qaX2.or qaW9
theorem qaB6{x y d:D}(h:F7 x y=some d):(∃i j,x=.int i/\y=.int j/\(small i||small j)=true/\d=.int (i*j))∨∃z xs k,x=.l z xs/\y=.int k/\(D.imms xs=true/\xs.length*k.toNat<=big/\k<1000000/\-1000000<k)/\d=.l false (Ma k.toNat xs).flatten:=by unfold F7 at h;split at h;{exact .inl ⟨_,_,rfl,rfl,(qj1 h).1,(qj1 h).2.symm⟩};{exact .inr ⟨_,_,_,rfl,rfl,(qj1 h).1,(qj1 h).2.symm⟩};cases h
theorem qk7:Ba true rMulA F7:=by intro F H v w x y B d Q r h q;obtain⟨A,A2,c,e⟩:=r.both;rcases qaB6 h with⟨i,j,rfl,rfl,hl,rfl⟩|⟨z,xs,k,rfl,rfl,hl,rfl⟩;{exact .inl ⟨i,j,c.int_inv,e.int_inv,(Bool.or_eq_true_iff.mp hl).imp qO2 qO2,q _ H [] (.int _) (λ_ _ z=>z) New.nil⟩};obtain⟨a,g,_,l,m,f,_⟩:=c.lst_inv;refine .inr ⟨a,k,g,l,e.int_inv,m,⋯,⋯,by rw[f.len];exact zAg hl.2.1 qi7,λp b=>?_⟩;exact q _ _ [p] (qs8 b ((f.imms0 hl.1).rep _)) (Same.new b) (qe8 b)
def gI(p:Int->Int->Bool)(f:Int->Int->D):D->D->Option D|.int i,.int j=>gd (p i j=true) (f i j)|_,_=>none
theorem qaP7{p:Int->Int->Bool}{f:Int->Int->D}{x y d:D}(h:gI p f x y=some d):∃i j,x=.int i/\y=.int j/\p i j=true/\d=f i j:=by unfold gI at h;split at h;{exact⟨_,_,rfl,rfl,(qj1 h).1,(qj1 h).2.symm⟩};cases h
theorem os_I(b:∀i j,p i j=true->C i j)(c:∀F H i j,Pa F H (a i j) (f i j) []):Ba true (rI C a) (gI p f):=by intro F H v w x y B d Q r h q;obtain⟨A,A2,e,g⟩:=r.both;obtain⟨i,j,rfl,rfl,k,rfl⟩:=qaP7 h;exact⟨i,j,e.int_inv,g.int_inv,b i j k,q _ H [] (c F H i j) (λ_ _ z=>z) New.nil⟩
theorem G8(b:∀F H i j,Pa F H (a i j) (f i j) []):Ba true (rI0 a) (gI (λ_ _=>true) f):=by intro F H v w x y B d Q r h q;obtain⟨i,j,c,e,_,g⟩:=os_I (λ_ _ _=>trivial) b F H v w x y B d Q r h q;exact⟨i,j,c,e,g⟩
def gSub:=gI (λ_ _=>true) λi j=>.int (i-j)
def gDiv:=gI (λ_ j=>decide (0<j)&&decide (j<2 ^ 200)) λi j=>.int (i/j)
def Gx:=gI (λ_ j=>decide (0<j)) λi j=>.int (i%j)
def gLt:=gI (λ_ _=>true) λi j=>.bl (decide (i<j))
def gLe:=gI (λ_ _=>true) λi j=>.bl (decide (i<=j))
def gGt:=gI (λ_ _=>true) λi j=>.bl (decide (j<i))
def gGe:=gI (λ_ _=>true) λi j=>.bl (decide (j<=i))
theorem qz1:Ba true (rI0 λi j=>.int (i-j)) gSub:=G8 λ_ _ _ _=>.int _
theorem qay7:Ba true (rI CDivB λi j=>.int (i/j)) gDiv:=os_I (λi j h=>by
 have:=zAl.mp h
 exact⟨zAn this.1,zAn this.2⟩) λ_ _ _ _=>.int _
theorem qg8:Ba true (rI (λ_ j=>0<j) λi j=>.int (i%j)) Gx:=os_I (λi j h=>zAn h) λ_ _ _ _=>.int _
theorem G9:Ba true (rI0 λi j=>.bl (decide (i<j))) gLt:=G8 λ_ _ _ _=>.bl _
theorem Jx:Ba true (rI0 λi j=>.bl (decide (i<=j))) gLe:=G8 λ_ _ _ _=>.bl _
theorem Fe:Ba true (rI0 λi j=>.bl (decide (j<i))) gGt:=G8 λ_ _ _ _=>.bl _
theorem Jy:Ba true (rI0 λi j=>.bl (decide (j<=i))) gGe:=G8 λ_ _ _ _=>.bl _
noncomputable def D.isN:D->Option Bool|.non=>some true|.u=>none|.hole _=>none|_=>some false
theorem Pa.isN(r:Pa F H v d B)(h:d.isN=some b):decide (v=.non)=b:=by cases r<;>cases h<;>rfl
def gIs:D->D->Option D|x,.non=>x.isN.map .bl|.bl a,.bl b=>some (.bl (a==b))|_,_=>none
def rIs:R2:=λx y H Q=>(y=.non/\Q (.bl (decide (x=.non))) H)∨(∃b c,x=.bl b/\y=.bl c/\Q (.bl (b==c)) H)
theorem qaP6{x y d:D}(h:gIs x y=some d):(y=.non/\∃b,x.isN=some b/\d=.bl b)∨∃a b,x=.bl a/\y=.bl b/\d=.bl (a==b):=by unfold gIs at h;split at h;{obtain⟨b,e,h⟩:=zA8.mp h;exact .inl ⟨rfl,b,e,h.symm⟩};{exact .inr ⟨_,_,rfl,rfl,(N8 h).symm⟩};cases h
theorem Pa.non_inv{F:γ->Prop}{H:Hp}{A:List γ}(r:Pa F H v .non A):v=.non:=zAn (r.isN rfl)
theorem Ec:Ba true rIs gIs:=by intro F H v w x y B d Q r h q;obtain⟨A,A2,c,f⟩:=r.both;rcases qaP6 h with⟨rfl,b,e,rfl⟩|⟨a,b,rfl,rfl,rfl⟩;{refine .inl ⟨f.non_inv,?_⟩;rw[c.isN e];exact q _ H [] (.bl _) (λ_ _ z=>z) New.nil};exact .inr ⟨a,b,c.bl_inv,f.bl_inv,q _ H [] (.bl _) (λ_ _ z=>z) New.nil⟩
theorem Ed:OpR X (Ky .Is) rIs:=qaX3.or qaX4
theorem qaM0:OpR X (Ky .IsNot) (λx y H Q=>∃b c,x=.bl b/\y=.bl c/\Q (.bl (b != c)) H):=by intro E6 s f H x y v u Q I a d ⟨b,c,e,e2,q⟩;subst e;subst e2;cases a;cases d;exact PyProof.Rows.isnot_bool ⟨.bl (b != c),H,I,rfl,q⟩
def gIsn:D->D->Option D|x,.non=>x.isN.map λb=>.bl (!b)|.bl a,.bl b=>some (.bl (a != b))|_,_=>none
def rIsn:R2:=λx y H Q=>(y=.non/\Q (.bl (!decide (x=.non))) H)∨(∃b c,x=.bl b/\y=.bl c/\Q (.bl (b != c)) H)
theorem qaB7{x y d:D}(h:gIsn x y=some d):(y=.non/\∃b,x.isN=some b/\d=.bl !b)∨∃a b,x=.bl a/\y=.bl b/\d=.bl (a != b):=by unfold gIsn at h;split at h;{obtain⟨b,e,h⟩:=zA8.mp h;exact .inl ⟨rfl,b,e,h.symm⟩};{exact .inr ⟨_,_,rfl,rfl,(N8 h).symm⟩};cases h
theorem qK8:Ba true rIsn gIsn:=by intro F H v w x y B d Q r h q;obtain⟨A,A2,c,f⟩:=r.both;rcases qaB7 h with⟨rfl,b,e,rfl⟩|⟨a,b,rfl,rfl,rfl⟩;{refine .inl ⟨f.non_inv,?_⟩;rw[c.isN e];exact q _ H [] (.bl _) (λ_ _ z=>z) New.nil};exact .inr ⟨a,b,c.bl_inv,f.bl_inv,q _ H [] (.bl _) (λ_ _ z=>z) New.nil⟩
theorem qK9:OpR X (Ky .IsNot) rIsn:=qaL9.or qaM0
noncomputable def Ei(f:D->D->Option Bool):List D->List D->Option Bool|[],[]=>some true|x::xs,y::ys=>(f x y).bind λa=>(Ei f xs ys).bind λb=>some (a&&b)|_,_=>some false
def eqF(x y:D):Option Bool:=match x.flat,y.flat with|some v,some w=>some (eqV v w)|_,_=>none
def eqZ(x y:D):Option Bool:=eqF x y
def eqN:Nat->D->D->Option Bool|0,x,y=>eqZ x y|n+1,.l _ xs,.l _ ys=>Ei (eqN n) xs ys|n+1,.q xs,.q ys=>Ei (eqN n) xs ys|_,x,y=>eqZ x y
theorem qC9{f:D->D->Option Bool}:∀{xs ys:List D}{b:Bool},Ei f xs ys=some b->∃e:Nat->Bool,(∀i x y,xs[i]?=some x->ys[i]?=some y->f x y=some (e i))/\b=((Mc (min xs.length ys.length)).all e&&xs.length==ys.length)
 |[],[],b,h=>by cases h;exact⟨λ_=>true,λi x y h=>by simp at h,by simp⟩|[],y::ys,b,h=>by cases h;exact⟨λ_=>true,λi x y h=>by simp at h,by simp⟩|x::xs,[],b,h=>by cases h;exact⟨λ_=>true,λi x y _ h=>by simp at h,by simp⟩|x::xs,y::ys,b,h=>by
  obtain⟨a,k,h⟩:=zA1.mp h;obtain⟨o,l,h⟩:=zA1.mp h;cases h;obtain⟨e,m,q2⟩:=qC9 l;refine⟨λi=>match i with|0=>a|i+1=>e i,λi c d g j=>?_,?_⟩
  .cases i with
   |zero=>
    have n:x=c:=by simpa using g
    have e2:y=d:=by simpa using j
    subst n;subst e2;exact k
   |succ i=>exact m i c d (by simpa using g) (by simpa using j)
  rw[q2,zAj,zAj,Nat.add_min_add_right,List.range_succ_eq_map,Mo,Nv];have:(xs.length+1==ys.length+1)=(xs.length==ys.length):=by by_cases h:xs.length=ys.length;{simp[h]};simp[h]
  rw[this,<-Bool.and_assoc];rfl
section
variable{F:γ->Prop}{H:Hp}
theorem Pa.eqF(r1:Pa F H v x A)(c:Pa F H w y B)(h:LV.eqF x y=some b):flatV v=true/\flatV w=true/\eqV v w=b:=by unfold LV.eqF at h;cases a:x.flat with|none=>rw[a] at h;cases h|some d=>cases e2:y.flat with|none=>rw[a,e2] at h;cases h|some e=>rw[a,e2] at h;obtain⟨rfl,f1⟩:=r1.flat a;obtain⟨rfl,f2⟩:=c.flat e2;exact⟨f1,f2,N8 h⟩
theorem qR7(n:Nat)(x y:D):(eqN (n+1) x y=LV.eqZ x y)∨(∃z xs z' ys,x=.l z xs/\y=.l z' ys)∨∃xs ys,x=.q xs/\y=.q ys:=by cases x with|l z xs=>(cases y with|l z' ys=>exact .inr (.inl ⟨_,_,_,_,rfl,rfl⟩)|_=>exact .inl rfl)|q xs=>(cases y with|q ys=>exact .inr (.inr ⟨_,_,rfl,rfl⟩)|_=>exact .inl rfl)|_=>exact .inl rfl
theorem qM7(x y:D):eqN 0 x y=LV.eqZ x y:=rfl
theorem qR8(f:∀{v:V}{x y:D}{A B:List γ}{b:Bool},Pa F H v x A->Pa F H v y B->eqN n x y=some b->b=true):∀{vs:List V}{xs ys:List D}{A B:List γ}{b:Bool},O4 F H vs xs A->O4 F H vs ys B->Ei (eqN n) xs ys=some b->b=true:=by
 intro vs;induction vs with
 |nil=>intro xs ys A B b c d h;cases c;cases d;cases h;rfl|cons v vs e=>
  intro xs ys A B b c d h;cases c with|cons p1 t1=>cases d with|cons g t2=>
  obtain⟨a,i,h⟩:=zA1.mp h;obtain⟨k,j,h⟩:=zA1.mp h;cases h;rw[f p1 g i,e t1 t2 j];rfl
theorem qaf2:∀{n:Nat}{v:V}{x y:D}{A B:List γ}{b:Bool},Pa F H v x A->Pa F H v y B->eqN n x y=some b->b=true:=by intro n;induction n with|zero=>intro v x y A B b c d h;rw[qM7] at h;obtain⟨f1,f2,rfl⟩:=c.eqF d h;exact qx8 f1|succ n k=>intro v x y A B b c d h;rcases qR7 n x y with e|⟨z,l,q,m,rfl,rfl⟩|⟨l,m,rfl,rfl⟩;{rw[e] at h;obtain⟨f1,f2,rfl⟩:=c.eqF d h;exact qx8 f1};{obtain⟨a,o,_,rfl,g,i,_⟩:=c.lst_inv;obtain⟨p,j,_,e,f,q2,_⟩:=d.lst_inv;cases e;rw[g] at f;cases f;exact qR8 k i q2 h};obtain⟨a,o,rfl,g,i⟩:=c.tup_inv;obtain⟨p,j,e,f,q2⟩:=d.tup_inv;cases e;rw[g] at f;cases f;exact qR8 k i q2 h
theorem O4.getV(r:O4 F H vs ds A)(h:vs[n]?=some w):∃d B,ds[n]?=some d/\Pa F H w d B:=by have c:=r.len;have e:=(zA6.mp h).1;obtain⟨f,B,a,b,_⟩:=r.get (n:=n) (d:=ds[n]'⋯) (by simp);rw[h] at a;cases a;exact⟨_,B,by simp,b⟩
theorem qR6(r1:Pa F H v x A)(a:Pa F H w y B)(h:LV.eqZ x y=some b):EqD H n v w b:=by obtain⟨f1,f2,rfl⟩:=r1.eqF a h;exact .flat f1 f2
theorem qan1:∀{n:Nat}{v w:V}{x y:D}{A B:List γ}{b:Bool},Pa F H v x A->Pa F H w y B->eqN n x y=some b->EqD H n v w b:=by
 intro n;induction n with
 |zero=>intro v w x y A B b c d h;rw[qM7] at h;exact qR6 c d h|succ n I=>
  intro v w x y A B b c d h;rcases qR7 n x y with e|⟨z,J,L,K,rfl,rfl⟩|⟨J,K,rfl,rfl⟩;{rw[e] at h;exact qR6 c d h}
  .obtain⟨a,m,_,rfl,k,g,_⟩:=c.lst_inv;obtain⟨o,r,_,rfl,l,q2,_⟩:=d.lst_inv;by_cases f:a=o;{subst f;cases qaf2 (n:=n+1) c d h;exact .same a};obtain⟨e,s,rfl⟩:=qC9 h;rw[<-g.len,<-q2.len];by_cases j:m.length=r.length;{rw[j,Nat.min_self,zBb,Bool.and_true,<-j];refine .lsts f k l j λi p q t e2=>?_;obtain⟨x,_,u,C⟩:=g.getV t;obtain⟨y,_,E,G⟩:=q2.getV e2;exact I C G (s i x y u E)};have:(m.length==r.length)=false:=by simpa using j
   rw[this,Bool.and_false];exact .lens f k l j
  obtain⟨a,m,rfl,k,g⟩:=c.tup_inv;obtain⟨o,r,rfl,l,q2⟩:=d.tup_inv;by_cases f:a=o;{subst f;cases qaf2 (n:=n+1) c d h;exact .same a};obtain⟨e,s,rfl⟩:=qC9 h;rw[<-g.len,<-q2.len];refine .tups f k l λi p q t e2=>?_;obtain⟨x,_,u,C⟩:=g.getV t;obtain⟨y,_,E,G⟩:=q2.getV e2;exact I C G (s i x y u E)
end
def eqT:D->D->Option Bool|.l _ xs,.l _ ys=>Ei (eqN 20) xs ys|x,y=>eqF x y
theorem Pa.rc(r1:Pa F H v x A)(d:Pa F H w y B)(h:eqT x y=some b):RcD H v w b:=by
 unfold eqT at h;split at h
 .obtain⟨a,f,_,rfl,g,j,_⟩:=r1.lst_inv;obtain⟨u,k,_,rfl,l,q2,_⟩:=d.lst_inv;obtain⟨e,m,rfl⟩:=qC9 h;rw[<-j.len,<-q2.len];by_cases c:f.length=k.length;{rw[c,Nat.min_self,zBb,Bool.and_true,<-c];refine .lsts g l c λi p q n e2=>?_;obtain⟨x,_,o,r⟩:=j.getV n;obtain⟨y,_,s,t⟩:=q2.getV e2;exact qan1 r t (m i x y o s)};have:(f.length==k.length)=false:=by simpa using c
  rw[this,Bool.and_false];exact .lens g l c
 obtain⟨f1,f2,rfl⟩:=r1.eqF d h;exact .flat f1 f2
def gEq(x y:D):Option D:=(eqT x y).map .bl
def gNe(x y:D):Option D:=(eqT x y).map λb=>.bl (!b)
theorem A9:Ba true rEqD gEq:=by intro F H v w x y B d Q r h q;obtain⟨A,A2,a,c⟩:=r.both;obtain⟨b,e,rfl⟩:=zA8.mp h;exact⟨b,a.rc c e,q _ H [] (.bl _) (λ_ _ z=>z) New.nil⟩
theorem Gg:Ba true rNeD gNe:=by intro F H v w x y B d Q r h q;obtain⟨A,A2,a,c⟩:=r.both;obtain⟨b,e,rfl⟩:=zA8.mp h;exact⟨b,a.rc c e,q _ H [] (.bl _) (λ_ _ z=>z) New.nil⟩
def flats:List D->Option (List V)|[]=>some []|d::r=>d.flat.bind λv=>(flats r).bind λvs=>some (v::vs)
theorem O4.flats:∀{vs a:List V}{ds:List D}{A:List γ},O4 F H vs ds A->LV.flats ds=some a->vs=a/\vs.all L2.flatV=true|_,_,_,_,.nil,h=>by cases h;exact⟨rfl,rfl⟩|_,_,_,_,.cons r t,h=>by obtain⟨v,b,h⟩:=zA1.mp h;obtain⟨vs,c,h⟩:=zA1.mp h;cases h;obtain⟨rfl,f⟩:=r.flat b;obtain⟨rfl,g⟩:=t.flats c;exact⟨rfl,by rw[Mo,f,g];rfl⟩
def gInB(neg:Bool)(x y:D):Option D:=x.flat.bind λv=>y.elems.bind λys=>(flats ys).bind λa=>some (.bl (if neg then !inV v a else inV v a))
theorem Ha:Ba true (rIn K neg) (gInB neg):=by intro F H v w x y B d Q r h q;obtain⟨A,A2,b,c⟩:=r.both;obtain⟨n,e,h⟩:=zA1.mp h;obtain⟨o,i,h⟩:=zA1.mp h;obtain⟨p,j,h⟩:=zA1.mp h;cases h;obtain⟨rfl,f⟩:=b.flat e;obtain⟨a,k,A3,rfl,l,m,_⟩:=c.elems (K:=K) i;obtain⟨rfl,g⟩:=m.flats j;exact⟨a,k,rfl,l,f,g,q _ H [] (.bl _) (λ_ _ z=>z) New.nil⟩
def gIx(x y:D):Option D:=match y with|.int i=>x.elems.bind λys=>atI ys i|_=>none
theorem qaP5{x y d:D}(h:gIx x y=some d):∃i ys,y=.int i/\x.elems=some ys/\atI ys i=some d:=by cases y with|int i=>obtain⟨ys,a,h⟩:=zA1.mp h;exact⟨i,ys,rfl,a,h⟩|_=>cases h
theorem Ap:Ba false (rIx K) gIx:=by
 intro F H v w x y B d Q r h q;cases r with|@cons _ _ A _ _ _ l t=>cases t with|@cons _ _ A2 _ _ _ m _=>
 obtain⟨i,p,rfl,n,h⟩:=qaP5 h;obtain rfl:=m.int_inv;obtain⟨a,j,A3,rfl,c,o,s⟩:=l.elems n;obtain⟨f,B',k,g,u⟩:=o.atI h;have e:=q f H B' g (λ_ _ z=>z) (by rw[if_neg ∅];exact λb=>.inl (by grind));rcases c with c|c;{exact .inl ⟨a,j,i,f,rfl,rfl,c,k,e⟩};exact .inr (.inl ⟨a,j,i,f,rfl,rfl,c,k,e⟩)
section
variable{F:γ->Prop}{H:Hp}
theorem O4.one_inv(r:O4 F H vs [x] B):∃v,vs=[v]/\Pa F H v x B:=by cases r with|cons h t=>cases t;exact⟨_,rfl,by rw[zAe];exact h⟩
theorem O4.two_inv(r:O4 F H vs [x,y] B):∃v w A C,vs=[v,w]/\Pa F H v x A/\Pa F H w y C/\∀b,B.count b=A.count b+C.count b:=by cases r with|cons h t=>cases t with|cons a t=>cases t;exact⟨_,_,_,_,rfl,h,a,λb=>by simp[zA0]⟩
end
noncomputable def fx1(g:D->Option D):Ds->Option D|[x]=>g x|_=>none
noncomputable def fx2(g:D->D->Option D):Ds->Option D|[x,y]=>g x y|_=>none
def CS1(nw:Bool)(r:List V->Hp->VK->Prop)(g:D->Option D):Prop:=∀F H v x B d (Q:VK),Pa F H v x B->g x=some d->(∀v H' B',Pa F H' v d B'->Same H H'->(if nw=true then New H B' else Sub H B B')->Q v H')->r [v] H Q
theorem CS1.ops(h:CS1 nw r g):OpS nw r (fx1 g):=by intro F H c a B d Q r e q;match a,e with|[x],e=>obtain⟨v,rfl,b⟩:=r.one_inv;exact h F H v x B d Q b e q
def Hb(x:D):Option D:=match x with|.str z=>gd (z.length<=big) (.int z.length)|.dct _ kvs=>some (.int kvs.length)|x=>x.elems.map λys=>.int ys.length
def rLenA(K:Oa):List V->Hp->VK->Prop:=λxs H Q=>(∃p ys,xs=[.ref p]/\(SqL K H p ys∨SqT K H p ys)/\Q (.int ys.length) H)∨(∃z,xs=[.str z]/\z.length<=Kx/\Q (.int z.length) H)∨(∃a kvs,xs=[V.ref a]/\H a=some (.dK kvs)/\Q (.int kvs.length) H)
theorem qp6:CallR X (.builtin "len") (rLenA X.K):=qN2.or (qN1.or qao4)
theorem qaN6{x d:D}(h:Hb x=some d):(∃z,x=.str z/\z.length<=big/\d=.int z.length)∨(∃z kvs,x=.dct z kvs/\d=.int kvs.length)∨∃ys,x.elems=some ys/\d=.int ys.length:=by unfold Hb at h;split at h;{exact .inl ⟨_,rfl,(qj1 h).1,(qj1 h).2.symm⟩};{exact .inr (.inl ⟨_,_,rfl,(N8 h).symm⟩)};obtain⟨ys,e,h⟩:=zA8.mp h;exact .inr (.inr ⟨ys,e,h.symm⟩)
theorem qp5:CS1 true (rLenA K) Hb:=by
 intro F H v x B d Q r h q;rcases qaN6 h with⟨z,rfl,hl,rfl⟩|⟨z,kds,rfl,rfl⟩|⟨ys,e,rfl⟩;{exact .inr (.inl ⟨z,by rw[r.str_inv],zAg hl qi7,q _ H [] (.int _) (λ_ _ z=>z) New.nil⟩)}
 .obtain⟨a,b,A,rfl,c,e,f,_⟩:=r.dct_inv;refine .inr (.inr ⟨a,b,rfl,c,?_⟩);have:b.length=kds.length:=by have:=congrArg Mf e;simpa using this
  rw[this];exact q _ H [] (.int _) (λ_ _ z=>z) New.nil
 obtain⟨a,g,A,rfl,c,f,_⟩:=r.elems e;refine .inl ⟨a,g,rfl,c,?_⟩;rw[f.len];exact q _ H [] (.int _) (λ_ _ z=>z) New.nil
noncomputable def gAbs:D->Option D|.int i=>some (.int (if i<0 then -i else i))|_=>none
noncomputable def gInt:D->Option D|.int i=>some (.int i)|.bl b=>some (.int (if b then 1 else 0))|_=>none
theorem qan7:CS1 true (λxs H Q=>(∃i,xs=[.int i]/\Q (.int i) H)∨∃k,xs=[.bl k]/\Q (.int (if k then 1 else 0)) H) gInt:=by intro F H v x B d Q r h q;cases x with|int i=>cases h;cases r;exact .inl ⟨i,rfl,q _ H [] (.int _) (λ_ _ z=>z) New.nil⟩|bl i=>cases h;cases r;exact .inr ⟨i,rfl,q _ H [] (.int _) (λ_ _ z=>z) New.nil⟩|_=>cases h
def Fr(x:D):Option D:=x.elems.bind λys=>gd (D.imms ys=true) (.l false ys)
theorem qt3:CS1 true (λxs H Q=>∃p ys,xs=[.ref p]/\(SqL K H p ys∨SqT K H p ys)/\∀l,H l=none->Q (.ref l) (upd H l (.l ys))) Fr:=by intro F H v x B d Q r h q;obtain⟨ys,e,h⟩:=zA1.mp h;obtain⟨c,rfl⟩:=qj1 h;obtain⟨a,f,A,rfl,g,i,_⟩:=r.elems e;exact⟨a,f,rfl,g,λp b=>q _ _ [p] (qs8 b (i.imms0 c)) (Same.new b) (qe8 b)⟩
noncomputable def D.intO:D->Option Int|.int k=>some k|_=>none
def pairK:D->Option (Key×D)|.q [a,x]=>a.intO.bind λk=>if x.imm=true then some (.inl k,x) else none|_=>none
def qU6:List D->Option (List (Key×D))|[]=>some []|d::r=>(pairK d).bind λp=>(qU6 r).bind λps=>some (p::ps)
noncomputable def Fs(kvs:List (Key×D))(k:Key)(v:D):List (Key×D):=if (kvs.any λa=>decide (a.1=k))=true then kvs.map (λa=>if a.1=k then (a.1,v) else a) else kvs++[(k,v)]
def qs9(kvs more:List (Key×D)):List (Key×D):=more.foldl (λacc a=>Fs acc a.1 a.2) kvs
abbrev KP(F:γ->Prop)(H:Hp)(kvs:List (Key×V))(kds:List (Key×D)):Prop:=Paired (λ(p:Key×V)(q:Key×D)=>p.1=q.1/\Pa F H p.2 q.2 []) kvs kds
section
variable{F:γ->Prop}{H:Hp}
theorem KP.maps(h:KP F H kvs kds):kvs.map (·.1)=kds.map (·.1)/\O4 F H (kvs.map (·.2)) (kds.map (·.2)) []:=by induction h with|nil=>exact⟨rfl,.nil⟩|cons a _ b=>exact⟨by rw[zAy,zAy,a.1,b.1],.cons a.2 b.2⟩
theorem KP.any(h:KP F H kvs kds)(k:Key):(kvs.any λb=>decide (b.1=k))=kds.any λb=>decide (b.1=k):=by induction h with|nil=>rfl|cons a _ c=>rw[Mi,Mi,a.1,c]
theorem KP.append(h:KP F H kvs kds)(h':KP F H kvs' kds'):KP F H (kvs++kvs') (kds++kds'):=by induction h with|nil=>exact h'|cons a _ b=>exact .cons a b
theorem KP.mapk(h:KP F H kvs kds)(r:Pa F H v d []):KP F H (kvs.map λb=>if b.1=k then (b.1,v) else b) (kds.map λb=>if b.1=k then (b.1,d) else b):=by induction h with|nil=>exact .nil|@cons p q _ _ a _ ih=>refine .cons ?_ ih;show (if p.1=k then (p.1,v) else p).1=(if q.1=k then (q.1,d) else q).1/\Pa F H (if p.1=k then (p.1,v) else p).2 (if q.1=k then (q.1,d) else q).2 [];rw[<-a.1];split;{exact⟨rfl,r⟩};exact a
theorem KP.put(h:KP F H kvs kds)(r:Pa F H v d []):KP F H (putK kvs k v) (Fs kds k d):=by unfold putK Fs;rw[h.any k];split;{exact h.mapk r};exact h.append (.cons ⟨rfl,r⟩ .nil)
theorem KP.merge(h:KP F H more mored):∀{kvs:List (Key×V)}{kds:List (Key×D)},KP F H kvs kds->KP F H (qz4 kvs more) (qs9 kds mored):=by induction h with|nil=>exact λh=>h|@cons p q _ _ a _ ih=>intro kvs kds h;have:=ih (h.put (k:=p.1) a.2);rw[a.1] at this;show KP F H (qz4 (putK kvs p.1 p.2) _) (qs9 (Fs kds q.1 q.2) _);rw[a.1];exact this
theorem qaA9{x:D}{i:Int}(h:x.intO=some i):x=.int i:=by cases x with|int k=>cases h;rfl|_=>cases h
theorem qay5(r:O4 F H vs ds A)(h:qU6 ds=some ps):∃kvs,qau4 H vs kvs/\KP F H kvs ps:=by induction ds generalizing vs A ps with|nil=>cases r;cases h;exact⟨[],.nil,.nil⟩|cons d ds g=>cases r with|cons j t=>obtain⟨p,b,h⟩:=zA1.mp h;obtain⟨ps,l,h⟩:=zA1.mp h;cases h;obtain⟨kvs,m,q2⟩:=g t l;unfold pairK at b;split at b;{rename_i k x;obtain⟨i,n,b⟩:=zA1.mp b;obtain rfl:=qaA9 n;split at b;{rename_i hm;cases b;obtain⟨a,s,rfl,o,e⟩:=j.tup_inv;obtain⟨u,q,A1,A2,rfl,f,c,_⟩:=e.two_inv;obtain rfl:=f.int_inv;have:=c.imm hm;subst this;exact⟨(.inl i,q)::kvs,.cons ⟨a,rfl,o⟩ m,.cons ⟨rfl,c⟩ q2⟩};cases b};cases b
theorem qaM5(a:H p=none)(r:KP F H kvs kds):Pa F (upd H p (.dK kvs)) (.ref p) (.dct false kds) [p]:=.dct qb3 r.maps.1 (r.maps.2.same (Same.new a))
end
def gDict(x:D):Option D:=match x with|.l _ ys=>(qU6 ys).map λps=>.dct false (qs9 [] ps)|_=>none
theorem qaR3:CS1 true qaI5 gDict:=by intro F H v x B d Q r h q;cases x with|l z k=>obtain⟨l,e,rfl⟩:=zA8.mp h;obtain⟨a,f,A,rfl,g,i,_⟩:=r.lst_inv;obtain⟨b,j,q2⟩:=qay5 i e;exact⟨a,f,b,rfl,g,j,λp c=>q _ _ [p] (qaM5 c (q2.merge .nil)) (Same.new c) (qe8 c)⟩|_=>cases h
noncomputable def D.kind:D->Option String|.non=>some "NoneType" | .bl _=>some "bool" | .int _=>some "int" | .str _=>some "str" | .l _ _=>some "list" | .q _=>some "tuple" | .dct _ _=>some "dict"|_=>none
theorem Pa.kind(r:Pa F H v d B)(h:d.kind=some t):Eb H v=some t:=by cases r with|q e _=>cases h;exact qaA6 e|l e _=>cases h;exact qad6 e|lstZ e _ _=>cases h;exact qad6 e|dct e _ _=>cases h;exact qas1 e|dctZ e _ _ _=>cases h;exact qas1 e|_=>cases h<;>rfl
noncomputable def F8(n:String):Bool:=n=="bool" || n=="int" || n=="str" || n=="list" || n=="tuple" || n=="dict"
def gIsi(x y:D):Option D:=match y with|.ty n=>if F8 n=true then x.kind.map λt=>.bl (subT t n) else none|_=>none
def CS2(nw:Bool)(r:List V->Hp->VK->Prop)(g:D->D->Option D):Prop:=∀F H v w x y A B d (Q:VK),Pa F H v x A->Pa F H w y B->g x y=some d->(∀v H' B',Pa F H' v d B'->Same H H'->(if nw=true then New H B' else Sub H (A++B) B')->Q v H')->r [v,w] H Q
theorem CS2.ops(h:CS2 nw r g):OpS nw r (fx2 g):=by intro F H l c B d Q r e q;match c,e with|[x,y],e=>obtain⟨v,w,A,C,rfl,f,i,j⟩:=r.two_inv;refine h F H v w x y A C d Q f i e λu H' B' k s a=>q u H' B' k s ?_;cases nw with|true=>exact a|false=>rw[if_neg ∅] at a ⊢;exact λb=>(a b).imp (λz=>by rw[zA0] at z;have:=j b;lia) id
theorem ql8:CS2 true rIsi gIsi:=by intro F H v w x y A B d Q b c e q;cases y with|ty n=>cases c;have e:(if F8 n=true then x.kind.map λt=>D.bl (subT t n) else none)=some d:=e;by_cases a:F8 n=true;{rw[if_pos a] at e;obtain⟨t,f,rfl⟩:=zA8.mp e;refine⟨v,n,t,rfl,b.kind f,?_,q _ H [] (.bl _) (λ_ _ z=>z) New.nil⟩;simp only[F8,Bool.or_eq_true,zBj] at a;simp only[zAa,zAr,zC9];rcases a with ((((h|h)|h)|h)|h)|h;{exact .inl h};{exact .inr (.inl h)};{exact .inr (.inr (.inl h))};{exact .inr (.inr (.inr (.inl h)))};{exact .inr (.inr (.inr (.inr (.inl h))))};exact .inr (.inr (.inr (.inr (.inr h))))};grind|_=>cases e
def D.isC(C:γ)(x:D):Option D:=match x with|.ins _ C' _=>if C'=C then some (.bl true) else none|x=>x.kind.map λ_=>.bl false
def Jz(C:γ)(x y:D):Option D:=match y with|.adr a=>if a=C then x.isC C else none|_=>none
theorem qaO2{C:γ}{x y d:D}(h:Jz C x y=some d):y=.adr C/\((∃z fs,x=.ins z C fs/\d=.bl true)∨∃t,x.kind=some t/\d=.bl false):=by
 cases y with
 |adr a=>
  have h:(if a=C then x.isC C else none)=some d:=h;by_cases b:a=C
  .rw[if_pos b] at h;subst b;refine⟨rfl,?_⟩;have k:(x.kind.map λ_=>D.bl false)=some d->∃t,x.kind=some t/\d=.bl false:=λe=>by obtain⟨t,c,e⟩:=zA8.mp e;exact⟨t,c,e.symm⟩
   cases x with|ins z C' fs=>have h:(if C'=a then some (D.bl true) else none)=some d:=h;by_cases b:C'=a;{rw[if_pos b] at h;exact .inl ⟨z,fs,by rw[b],(N8 h).symm⟩};grind|_=>exact .inr (k h)
  rw[if_neg b] at h;cases h
 |_=>cases h
theorem qaR2:CS2 true (rIsO C) (Jz C):=by intro F H v w x y A B d Q b c e q;obtain⟨rfl,h⟩:=qaO2 e;cases c;rcases h with⟨z,fs,rfl,rfl⟩|⟨t,ht,rfl⟩;{obtain⟨p,f,a,_,rfl,h,_,_,_⟩:=b.ins_inv;exact⟨_,rfl,.inl ⟨p,f,a,rfl,h,q _ H [] (.bl _) (λ_ _ z=>z) New.nil⟩⟩};exact⟨_,rfl,.inr ⟨t,b.kind ht,q _ H [] (.bl _) (λ_ _ z=>z) New.nil⟩⟩
def gMax2:=gI (λ_ _=>true) λi j=>.int (if j>i then j else i)
theorem cs_I2{f:Int->Int->Int}:CS2 true (λxs H Q=>∃i j,xs=[.int i,.int j]/\Q (.int (f i j)) H) (gI (λ_ _=>true) λi j=>.int (f i j)):=by intro F H v w x y A B d Q a b e q;obtain⟨i,j,rfl,rfl,_,rfl⟩:=qaP7 e;exact⟨i,j,by rw[a.int_inv,b.int_inv],q _ H [] (.int _) (λ_ _ z=>z) New.nil⟩
theorem qat7:CS2 true (λxs H Q=>∃i j,xs=[.int i,.int j]/\Q (.int (if j>i then j else i)) H) gMax2:=cs_I2
noncomputable def bools:List D->Option (List Bool)|[]=>some []|.bl b::r=>(bools r).map λbs=>b::bs|_=>none
theorem O4.bools:∀{vs:List V}{ds:List D}{A:List γ}{bs:List Bool},O4 F H vs ds A->LV.bools ds=some bs->vs=bs.map V.bl:=by intro vs ds;induction ds generalizing vs with|nil=>intro A bs r h;cases r;cases h;rfl|cons d ds a=>intro A bs r h;cases r with|cons c t=>cases d with|bl b=>obtain⟨e,f,rfl⟩:=zA8.mp h;cases c;rw[a t f];rfl|_=>cases h
def gAll(x:D):Option D:=match x with|.l _ ys=>(bools ys).map λbs=>.bl (bs.all id)|_=>none
theorem qaD5:CS1 true (λxs H Q=>∃(a:γ)(bs:List Bool),xs=[.ref a]/\SqL K H a (bs.map V.bl)/\Q (.bl (bs.all id)) H) gAll:=by intro F H v x B d Q r h q;cases x with|l z f=>obtain⟨bs,b,rfl⟩:=zA8.mp h;obtain⟨a,g,A,rfl,c,e,_⟩:=r.lst_inv;cases e.bools b;exact⟨a,bs,rfl,.inl (.inl c),q _ H [] (.bl _) (λ_ _ z=>z) New.nil⟩|_=>cases h
noncomputable def intsD:List D->Option (List Int)|[]=>some []|.int i::r=>(intsD r).map λis=>i::is|_=>none
theorem O4.intsD:∀{vs:List V}{ds:List D}{A:List γ}{bs:List Int},O4 F H vs ds A->LV.intsD ds=some bs->vs=bs.map V.int:=by intro vs ds;induction ds generalizing vs with|nil=>intro A bs r h;cases r;cases h;rfl|cons d ds a=>intro A bs r h;cases r with|cons c t=>cases d with|int b=>obtain⟨e,f,rfl⟩:=zA8.mp h;cases c;rw[a t f];rfl|_=>cases h
def F9(xs:List D)(lo hi:Option Int):List D:=(xs.drop (HT.sIx xs.length 0 lo)).take (HT.sIx xs.length xs.length hi-HT.sIx xs.length 0 lo)
def gSl(x:D)(lo hi:Option Int):Option D:=match x with|.l _ ys=>gd (D.imms (F9 ys lo hi)=true) (.l false (F9 ys lo hi))|.scr ns=>some (.l false ((ns.drop (HT.sIx ns.length 0 lo)).take (HT.sIx ns.length ns.length hi-HT.sIx ns.length 0 lo) |>.map .int))|.q ys=>gd (D.imms (F9 ys lo hi)=true/\(F9 ys lo hi).length<ys.length) (.q (F9 ys lo hi))|_=>none
theorem qB9{F:γ->Prop}{H:Hp}:∀ns:List Int,O4 F H (ns.map V.int) (ns.map D.int) []|[]=>.nil|n::r=>.cons (A:=[]) (B:=[]) (.int n) (qB9 r)
theorem os_sl{lo:Option Int}(r:Pa F H v x B)(h:gSl x lo hi=some d)(f:∀ys,x≠.q ys)(q:∀v H' B',Pa F H' v d B'->Same H H'->New H B'->Q v H'):rSlL K v lo hi H Q:=by cases x with|l z ys=>obtain⟨g,rfl⟩:=qj1 h;obtain⟨a,i,A,rfl,j,c,_⟩:=r.lst_inv;refine⟨a,i,rfl,.inl (.inl j),λp b=>q _ _ [p] (qs8 b ?_) (Same.new b) (qe8 b)⟩;obtain⟨B',k,l⟩:=c.sub (HT.sIx ys.length 0 lo) (HT.sIx ys.length ys.length hi-HT.sIx ys.length 0 lo);unfold Hm;rw[c.len];exact k.imms0 g|scr m=>(cases h;cases r with|scr e=>refine⟨_,_,rfl,.inl (.inr ⟨_,e⟩),λp b=>q _ _ [p] (qs8 b ?_) (Same.new b) (qe8 b)⟩;unfold Hm;rw[<-List.map_drop,<-Nt,zAb];exact qB9 _)|q ys=>exact absurd rfl (f ys)|_=>cases h
def D.fld(C:γ)(f:Str):D->Option D|.ins _ C' fs=>if C'=C then fs.lookup f else none|_=>none
theorem qac7:∀{c:List (Str×V)}{a:List (Str×D)}{A:List γ}{f:Str}{d:D},c.map (·.1)=a.map (·.1)->O4 F H (c.map (·.2)) (a.map (·.2)) A->a.lookup f=some d->∃v B,c.lookup f=some v/\Pa F H v d B/\∀b,B.count b<=A.count b:=by
 intro c;induction c with
 |nil=>intro a A f d e r h;cases a with|nil=>cases h|cons _ _=>simp at e
 |cons p c i=>
  intro a A f d e r h;cases a with
  |nil=>simp at e|cons q a=>
   obtain⟨k,v⟩:=p;obtain⟨g,j⟩:=q;have l:k=g:=by simp at e;exact e.1
   have e2:c.map (·.1)=a.map (·.1):=by simp at e;simpa using e.2
   cases r with|@cons _ _ A1 _ _ A2 r1 t=>grind
theorem qaW7(c:Cls K C)(n:qd7 K C f):OpS1 false (λx H Q=>∃a C dx fs v,x=.ref a/\H a=some (.ins C dx fs)/\Cls K C/\qd7 K C f/\fs.lookup f=some v/\Q v H) (D.fld C f):=by intro F H v x B d Q r h q;cases x with|ins z C' fs=>have g:(if C'=C then fs.lookup f else none)=some d:=h;by_cases i:C'=C;{rw[if_pos i] at g;subst i;obtain⟨a,dx,j,A,rfl,l,e,m,k⟩:=r.ins_inv;obtain⟨w,B',o,p,s⟩:=qac7 e m g;refine⟨a,C',dx,j,w,rfl,l,c,n,o,q w H B' p (λ_ _ z=>z) ?_⟩;rw[if_neg ∅];exact λb=>.inl (by grind)};rw[if_neg i] at g;cases g|_=>cases h
noncomputable def D.key:D->Option Key|.int i=>some (.inl i)|.str x=>some (.inr x)|_=>none
noncomputable def El(kds:List (Key×D))(k:Key):Option D:=(kds.find? λa=>decide (a.1=k)).map (·.2)
theorem Pa.key(r:Pa F H v x B)(h:x.key=some k):v=kV k:=by cases r<;>cases h<;>rfl
theorem qaF4:∀{kvs:List (Key×V)}{kds:List (Key×D)}{A:List γ}(k:Key),kvs.map (·.1)=kds.map (·.1)->O4 F H (kvs.map (·.2)) (kds.map (·.2)) A->(El kds k=none/\Fj kvs k=none)∨∃v d B,El kds k=some d/\Fj kvs k=some v/\Pa F H v d B/\∀b,B.count b<=A.count b:=by
 intro kvs;induction kvs with
 |nil=>intro kds A k e r;cases kds with|nil=>exact .inl ⟨rfl,rfl⟩|cons _ _=>simp at e
 |cons p kvs f=>
  intro kds A k e r;cases kds with
  |nil=>simp at e|cons q kds=>
   obtain⟨c,v⟩:=p;obtain⟨g,d⟩:=q;have i:c=g:=by simp at e;exact e.1
   have e2:kvs.map (·.1)=kds.map (·.1):=by simp at e;simpa using e.2
   subst i;cases r with
   |@cons _ _ A1 _ _ A2 r1 t=>
    by_cases a:c=k;{exact .inr ⟨v,d,A1,by simp[El,a],qH7 a,r1,λb=>by rw[zA0];lia⟩};have j:El ((c,d)::kds) k=El kds k:=by simp[El,zC4,a]
    rw[j,qH8 a];rcases f k e2 t with h|⟨w,l,B,m,n,o,s⟩;{exact .inl h};exact .inr ⟨w,l,B,m,n,o,λb=>by rw[zA0];have:=s b;lia⟩
section
variable{c:Vc}{X:Cx}{a b e:Lr}{M G own L:Bool}{fa fb f:FV}{r:R2}{g:D->D->Option D}{w y t:VT}{pos:Pos}
theorem vnm(i:Nat)(b:X.N[i]?=some x:=by rfl)(d:Vis X.env.scope x:=by first|exact O1 rfl|exact O0 (O1 rfl)|exact O0 (O0 rfl))(e:N' x:=by decide)(a:(x==("__classdict__" : Str))=false:=by decide):VV c X (.Name x pos) false (rdN i):=qaF2 (ql3 b d e a) (qk9 b)
noncomputable def kC(d:D):FV:=λ_=>some d
theorem Ae{i:Int}:VV c X (.Constant (.int i) j pos) true (kC (.int i)):=G7 qE0 λ_ _=>.int _
theorem vbl{i:Bool}:VV c X (.Constant (.bool i) j pos) true (kC (.bl i)):=G7 pe_bl λ_ _=>.bl _
theorem Bc:VV c X (.Constant .none j pos) true (kC .non):=G7 qaW3 λ_ _=>.non
theorem Gy{i:Str}:VV c X (.Constant (.str i) j pos) true (kC (.str i)):=G7 qaW0 λ_ _=>.str _
theorem vgi{x:Str}{n:Int}{k:Tok}(hm:X.mg x=some (.int n k))(a:Gl X x:=by rfl)(b:N' x:=by decide):VV c X (.Name x pos) true (kC (.int n)):=G7 (qaK7 hm a b) λ_ _=>.int _
theorem Jb(C:γ)(hm:X.mg x=some (.ref C))(a:Gl X x:=by rfl)(b:N' x:=by decide):VV c X (.Name x pos) true (kC (.adr C)):=G7 (qaW2 C hm a b) λ_ _=>.adr _
theorem vty(n:String)(hm:X.mg x=none)(a:Gl X x:=by rfl)(b:K5 x=some (.type n):=by rfl)(d:x ≠ "__name__" := by decide)(e:N' x:=by decide):VV c X (.Name x pos) true (kC (.ty n)):=G7 (qaL1 n hm a b d e) λ_ _=>.ty _
theorem J0{i j:Int}(k:Int)(a:i ^ j.toNat=k:=by decide)(b:0<=j:=by decide)(h1:j<=1000000:=by decide)(h2:i.natAbs<2 ^ 64:=by decide):VV c X (.BinOp (.Constant (.int i) m p) .Pow (.Constant (.int j) n q) pos) true (kC (.int k)):=G7 (qaK2 k a b h1 h2) λ_ _=>.int _
def P2(X:Cx)(e a b:Lr)(r:R2):Prop:=∀w y,PE X a w->PE X b y->PE X e (tOp r w y)
def T2(X:Cx)(e a b:Lr)(r:R2):Prop:=∀w y,PE X a w->PE X b y->PT X e (tTest (tOp r w y))
theorem Ah{op:Operator}(c:OpR X (Lj op) r):P2 X (.BinOp a op b pos) a b r:=λ_ _ d e=>pe_op c d e
theorem A6(c:OpR X (Ky op) r)(hm:behindInMarks op b=false):P2 X (.Compare a [op] [b] pos) a b r:=λ_ _ d e=>qaL0 c d e hm
theorem Aq(c:OpR X (Ky op) r)(hm:behindInMarks op b=false):T2 X (.Compare a [op] [b] pos) a b r:=λ_ _ d e=>qaI9 c d e hm
theorem A4(c:IxR X r)(d:qT0 b:=by exact λ_ _=>rfl):P2 X (.Subscript a b pos) a b r:=λ_ _ e f=>Jp c e f d
theorem v2(p:P2 X e a b r)(h:Ba L r g)(d:VV c X a M fa)(f:VV c X b G fb):VV c X e (L||(M&&G)) (f2 g fa fb):=⟨PE.mono (p _ _ d.h f.h) (op_vv h)⟩
theorem e2(p:P2 X e a b r)(h:Ba true r g)(d:VE c X a w)(f:VE c X b y):VE c X e (t2 g w y):=⟨PE.mono (p _ _ d.h f.h) (op_ee d f h),qap2 d f⟩
theorem e2v(p:P2 X e a b r)(h:Ba true r g)(d:VE c X a w)(f:VV c X b G fb):VE c X e (t2v g w fb):=⟨PE.mono (p _ _ d.h f.h) (op_ev d h),qav1 d⟩
theorem e2P(p:P2 X e a b r)(h:Ba false r g)(d:VE c X a w)(f:VE c X b y):VE c X e (t2 g w y):=⟨PE.mono (p _ _ d.h f.h) (qaX6 d f h),qap2 d f⟩
theorem e2vP(p:P2 X e a b r)(h:Ba false r g)(d:VE c X a w)(f:VV c X b G fb):VE c X e (Jw g w fb):=⟨PE.mono (p _ _ d.h f.h) (qaX5 d h),qah4 d⟩
theorem e2n(i:Nat)(p:P2 X e (.Name x p0) b r)(h:Ba true r g)(a:VE c X b y)(f:X.N[i]?=some x:=by rfl)(j:Vis X.env.scope x:=by first|exact O1 rfl|exact O0 (O1 rfl)|exact O0 (O0 rfl))(k:N' x:=by decide)(d:(x==("__classdict__" : Str))=false:=by decide):VE c X e (t2n g i y):=⟨λE6 s o H Q I q=>p _ _ (ql3 f j k d) a.h E6 s o H Q I (op_ne a h (qk9 f E6 o H s I) q),qav2 a⟩
theorem e2nP(i:Nat){x:Str}{p0:Pos}(p:P2 X e (.Name x p0) b r)(h:Ba L r g)(a:VE c X b y)(f:X.N[i]?=some x:=by rfl)(j:Vis X.env.scope x:=by first|exact O1 rfl|exact O0 (O1 rfl)|exact O0 (O0 rfl))(k:N' x:=by decide)(d:(x==("__classdict__" : Str))=false:=by decide):VE c X e (t2nP g i y):=⟨λE6 s o H Q I q=>p _ _ (ql3 f j k d) a.h E6 s o H Q I (qaX1 a h (qk9 f E6 o H s I) q),qah5 a⟩
noncomputable def D.asB:D->Option Bool|.bl b=>some b|_=>none
theorem Pa.asB(r:Pa F H v d B)(h:d.asB=some k):v=.bl k:=by cases r<;>cases h<;>rfl
def ttV(f:FV):VTT:=λds Q _=>orF ((f ds).bind D.asB) λb=>Q b ds
def ttE(t:VT):VTT:=λds Q xe=>t ds (λd a=>orF d.asB λb=>Q b a) xe
theorem qaG6:∀o H Q,Fd c (ttV f) o H Q->liftV c own f o H (λx H'=>∃k,x=.bl k/\Q k H'):=by rintro o H Q ⟨F,a,A,h,S,x,q⟩;obtain⟨b,e,q⟩:=qa7.mp q;obtain⟨d,g,e2⟩:=zA1.mp e;exact⟨F,a,A,d,S,g,λv H' B r s _=>⟨b,r.asB e2,q H' F A (S.same s) (.same s)⟩⟩
theorem qau9(h:VE c X e t):∀o H Q,Fd c (ttE t) o H Q->Bf c t o H (λx H'=>∃k,x=.bl k/\Q k H'):=by rintro o H Q ⟨F,a,A,f,S,x,q⟩;refine⟨F,a,A,f,S,x,h.m _ _ _ _ _ (λd g q v H1 F1 T A1 i S1 l j=>?_) (λ_ _ z=>z) q⟩;obtain⟨b,e,q⟩:=qa7.mp q;exact⟨b,i.asB e,q H1 F1 A1 S1 (j.count λb=>by rw[zA0];lia)⟩
theorem qW8:∀ds (Q Q':Bool->Ds->Prop) (xe b:XKd),(∀d a,Q d a->Q' d a)->(∀x a,xe x a->b x a)->ttV f ds Q xe->ttV f ds Q' b:=λds Q Q' xe b c _=>qa5 λd=>c d ds
theorem qH9(h:VE c X e t):∀ds (Q Q':Bool->Ds->Prop) (xe b:XKd),(∀d a,Q d a->Q' d a)->(∀x a,xe x a->b x a)->ttE t ds Q xe->ttE t ds Q' b:=λds Q Q' xe b f g=>h.m _ _ _ _ _ (λd a=>qa5 λz=>f z a) g
theorem tv(h:VV c X e own f)(a:∀whole,isTrue e X.env whole=(do let v<-whole;standAt e.pos;holding [v] (truthy v)):=by intro _;rfl):VTe c X e (ttV f):=⟨PT.mono (qaI8 h.h a) qaG6,qW8⟩
theorem te(h:VE c X e t)(a:∀whole,isTrue e X.env whole=(do let v<-whole;standAt e.pos;holding [v] (truthy v)):=by intro _;rfl):VTe c X e (ttE t):=⟨PT.mono (qaI8 h.h a) (qau9 h),qH9 h⟩
theorem q2(p:T2 X e a b r)(h:Ba L r g)(d:VV c X a M fa)(f:VV c X b G fb):VTe c X e (ttV (f2 g fa fb)):=⟨PT.mono (p _ _ d.h f.h) λo H Q q=>op_vv h o H _ (qaG6 o H Q q),qW8⟩
theorem q2v(p:P2 X e a b r)(i:T2 X e a b r)(h:Ba true r g)(d:VE c X a w)(f:VV c X b G fb):VTe c X e (ttE (t2v g w fb)):=⟨PT.mono (i _ _ d.h f.h) λo H Q q=>op_ev d h o H _ (qau9 (e2v p h d f) o H Q q),qH9 (e2v p h d f)⟩
theorem q2n(i:Nat){x:Str}{p0:Pos}(p:P2 X e (.Name x p0) b r)(l:T2 X e (.Name x p0) b r)(h:Ba true r g)(d:VE c X b y)(f:X.N[i]?=some x:=by rfl)(j:Vis X.env.scope x:=by first|exact O1 rfl|exact O0 (O1 rfl)|exact O0 (O0 rfl))(k:N' x:=by decide)(a:(x==("__classdict__" : Str))=false:=by decide):VTe c X e (ttE (t2n g i y)):=⟨λE6 s o H Q I q=>l _ _ (ql3 f j k a) d.h E6 s o H Q I (op_ne d h (qk9 f E6 o H s I) (qau9 (e2n i p h d f j k a) o H Q q)),qH9 (e2n i p h d f j k a)⟩
variable{E J:VTT}{rest:List Lr}
def Eu(t:VTT):VTT:=λds Q xe=>t ds (λb a=>Q (!b) a) xe
theorem Bu(h:VTe c X a E):VTe c X (.UnaryOp .Not a pos) (Eu E):=by refine⟨PT.mono (qaU9 h.h) λo H Q ⟨F,e,A,f,S,x,q⟩=>⟨F,e,A,f,S,x,q⟩,λe Q Q' f g i j=>h.m _ _ _ _ _ (λb d=>i _ d) j⟩
structure VTw(c:Vc)(X:Cx)(e:Lr)(t:VTT):Prop where
 h:PW X e (Fd c t)
 m:∀ds (Q Q':Bool->Ds->Prop) (xe xe':XKd),(∀d ds',Q d ds'->Q' d ds')->(∀x ds',xe x ds'->xe' x ds')->t ds Q xe->t ds Q' xe'
theorem VTw.te(h:VTw c X e E):VTe c X e E:=⟨h.h.pt,h.m⟩
theorem Ev(h:VTe c X a E):VTw c X (.BoolOp .And [a] pos) E:=⟨qaI7 h.h,h.m⟩
theorem Jc(h:VTe c X a E):VTw c X (.BoolOp .Or [a] pos) E:=⟨qaU7 h.h,h.m⟩
def Ig(t u:VTT):VTT:=λds Q xe=>t ds (λk ds1=>if k=true then u ds1 Q xe else Q false ds1) xe
def ttOr(t u:VTT):VTT:=λds Q xe=>t ds (λk ds1=>if k=true then Q true ds1 else u ds1 Q xe) xe
theorem qP8{k:Bool->St->Hp->(Bool->Hp->Prop)->Prop}{K:Bool->Ds->(Bool->Ds->Prop)->XKd->Prop}(h:VTe c X a E)(i:∀(b:Bool) F ds A xe o H (Q:Bool->Hp->Prop),Pd c F H o ds A->Xc c xe F H A->K b ds (λf e=>∀H' F' A',Pd c F' H' o e A'->Pc F H A F' H' A'->Q f H') xe->k b o H Q)(hm:∀(b:Bool) ds (Q Q':Bool->Ds->Prop) (xe:XKd),(∀d e,Q d e->Q' d e)->K b ds Q xe->K b ds Q' xe):∀o H Q,Fd c (λds Q xe=>E ds (λb ds1=>K b ds1 Q xe) xe) o H Q->Fd c E o H (λb H1=>k b o H1 Q):=by rintro o H Q ⟨F,ds,A,xe,S,x,q⟩;exact⟨F,ds,A,xe,S,x,h.m _ _ _ _ _ (λb ds1 q H1 F1 A1 S1 g=>(i b F1 ds1 A1 xe o H1 Q S1 (x.step g) (hm b ds1 _ _ xe (λf e q H' F' A' S' j=>q H' F' A' S' (g.trans j)) q))) (λ_ _ z=>z) q⟩
theorem Gz(e:VTe c X a E)(f:VTw c X (.BoolOp .And (b::rest) pos) J):VTw c X (.BoolOp .And (a::b::rest) pos) (Ig E J):=by refine⟨PW.mono (qaU8 e.h f.h) ?_,λg Q Q' i l d j=>e.m _ _ _ _ _ (λk n q=>?_) j⟩;{refine qP8 e ?_ ?_;{intro b F g A i o H Q S x q;cases b with|true=>rw[if_pos rfl] at q ⊢;exact⟨F,g,A,i,S,x,q⟩|false=>rw[if_neg ∅] at q ⊢;exact q H F A S Pc.refl};intro b g Q Q' i d;cases b with|true=>rw[if_pos rfl,if_pos rfl];exact f.m _ _ _ _ _ d λ_ _ z=>z|false=>rw[if_neg ∅,if_neg ∅];exact d _ _};cases k with|true=>rw[if_pos rfl] at q ⊢;exact f.m _ _ _ _ _ d j q|false=>rw[if_neg ∅] at q ⊢;exact d _ _ q
theorem tor(e:VTe c X a E)(f:VTw c X (.BoolOp .Or (b::rest) pos) J):VTw c X (.BoolOp .Or (a::b::rest) pos) (ttOr E J):=by refine⟨PW.mono (pw_or e.h f.h) ?_,λg Q Q' i l d j=>e.m _ _ _ _ _ (λk n q=>?_) j⟩;{refine qP8 e ?_ ?_;{intro b F g A i o H Q S x q;cases b with|false=>rw[if_neg ∅] at q ⊢;exact⟨F,g,A,i,S,x,q⟩|true=>rw[if_pos rfl] at q ⊢;exact q H F A S Pc.refl};intro b g Q Q' i d;cases b with|false=>rw[if_neg ∅,if_neg ∅];exact f.m _ _ _ _ _ d λ_ _ z=>z|true=>rw[if_pos rfl,if_pos rfl];exact d _ _};cases k with|false=>rw[if_neg ∅] at q ⊢;exact f.m _ _ _ _ _ d j q|true=>rw[if_pos rfl] at q ⊢;exact d _ _ q
end
section
variable{c:Vc}{X:Cx}{a b e:Lr}{oa ob own nw:Bool}{fa fb f:FV}{ta tb t:VT}{Y:Pos}{rest:List Lr}
def Ih(ta:VT)(k:D->VT):VT:=λds Q xe=>ta ds (λx ds1=>k x ds1 Q xe) xe
theorem qL9{k:V->St->Hp->VK->Prop}(i:VE c X a ta)(hm:∀x ds (Q Q':DK) (xe f:XKd),(∀d e,Q d e->Q' d e)->(∀x e,xe x e->f x e)->K x ds Q xe->K x ds Q' f)(j:∀F H W v x T,Pa F H v x T->∀Q,(∃ds A xe,Pd c F H W ds A/\Xc c xe F H A/\K x ds (λd e=>∀v H' F' T A',Pa F' H' v d T->Pd c F' H' W e A'->Ok F' H' (T++A')->Pc F H A F' H' (T++A')->Q v H') xe)->k v W H Q):∀W H Q,Bf c (Ih ta K) W H Q->Bf c ta W H (λx H1=>k x W H1 Q):=by
 rintro W H Q ⟨F,ds,A,xe,S,x,q⟩;refine⟨F,ds,A,xe,S,x,i.m _ _ _ _ _ (λd g q v H1 F1 T A1 l S1 p n=>?_) (λ_ _ z=>z) q⟩;have h:Pc F H A F1 H1 A1:=n.count λb=>by rw[zA0];lia
 exact j F1 H1 W v d T l Q ⟨g,A1,xe,S1,x.step h,hm d g _ _ _ _ (λt e q w H' F' T' A' r S' o s=>q w H' F' T' A' r S' o (h.trans s)) (λ_ _ z=>z) q⟩
def Ii(ta tb:VT):VT:=Ih ta λx ds Q xe=>orF x.asB λk=>if k=true then tb ds Q xe else Q (.bl false) ds
def tOrE(ta tb:VT):VT:=Ih ta λx ds Q xe=>orF x.asB λk=>if k=true then Q (.bl true) ds else tb ds Q xe
def tNotE(ta:VT):VT:=Ih ta λx ds Q xe=>orF x.asB λk=>Q (.bl (!k)) ds
theorem qx5{p q a b:Prop}(h1:p->a)(h2:q->b):(if k=true then p else q)->(if k=true then a else b):=by grind
theorem qag7(g:VE c X e tb):∀(x:D) ds (Q Q':DK) (xe b:XKd),(∀d a,Q d a->Q' d a)->(∀x a,xe x a->b x a)->(orF x.asB λk=>if k=true then tb ds Q xe else Q (.bl false) ds)->(orF x.asB λk=>if k=true then tb ds Q' b else Q' (.bl false) ds):=λx ds Q Q' xe b f h=>qa5 λk=>qx5 (g.m _ _ _ _ _ f h) (f _ _)
theorem qar1(g:VE c X e tb):∀(x:D) ds (Q Q':DK) (xe b:XKd),(∀d a,Q d a->Q' d a)->(∀x a,xe x a->b x a)->(orF x.asB λk=>if k=true then Q (.bl true) ds else tb ds Q xe)->(orF x.asB λk=>if k=true then Q' (.bl true) ds else tb ds Q' b):=λx ds Q Q' xe b f h=>qa5 λk=>qx5 (f _ _) (g.m _ _ _ _ _ f h)
theorem Ga{op:PySem.BoolOp}(h:VE c X a ta):VE c X (.BoolOp op [a] Y) ta:=⟨qaK3 h.h,h.m⟩
theorem Fl(e:VE c X a ta)(f:VE c X (.BoolOp .And (b::rest) Y) tb):VE c X (.BoolOp .And (a::b::rest) Y) (Ii ta tb):=by refine⟨PE.mono (qaL3 e.h f.h) ?_,λl Q Q' g i o n=>e.m _ _ _ _ _ (λd j=>qag7 f d j Q Q' g i o n) n⟩;refine qL9 e (qag7 f) ?_;rintro F H W v x T r Q ⟨l,A,g,S,p,q⟩;obtain⟨k,s,q⟩:=qa7.mp q;refine⟨k,r.asB s,?_⟩;cases k with|true=>rw[if_pos rfl] at q ⊢;exact⟨F,l,A,g,S,p,q⟩|false=>rw[if_neg ∅] at q ⊢;exact q _ H F [] A (.bl _) S S.ok Pc.refl
theorem eor(e:VE c X a ta)(f:VE c X (.BoolOp .Or (b::rest) Y) tb):VE c X (.BoolOp .Or (a::b::rest) Y) (tOrE ta tb):=by refine⟨PE.mono (pe_or e.h f.h) ?_,λl Q Q' g i o n=>e.m _ _ _ _ _ (λd j=>qar1 f d j Q Q' g i o n) n⟩;refine qL9 e (qar1 f) ?_;rintro F H W v x T r Q ⟨l,A,g,S,p,q⟩;obtain⟨k,s,q⟩:=qa7.mp q;refine⟨k,r.asB s,?_⟩;cases k with|false=>rw[if_neg ∅] at q ⊢;exact⟨F,l,A,g,S,p,q⟩|true=>rw[if_pos rfl] at q ⊢;exact q _ H F [] A (.bl _) S S.ok Pc.refl
theorem enot(b:VE c X a ta):VE c X (.UnaryOp .Not a Y) (tNotE ta):=by refine⟨PE.mono (qaK4 b.h) ?_,λj Q Q' i e f l=>b.m _ _ _ _ _ (λd g=>qa5 λk=>f _ _) l⟩;refine qL9 b (λd g Q Q' i e f _=>qa5 λk=>f _ _) ?_;rintro F H W v x T r Q ⟨j,A,i,S,o,q⟩;obtain⟨k,n,q⟩:=qa7.mp q;exact⟨k,r.asB n,q _ H F [] A (.bl _) S S.ok Pc.refl⟩
variable{qc:VTT}
def tIfE(qc:VTT)(ta tb:VT):VT:=λds Q xe=>qc ds (λk ds1=>if k=true then ta ds1 Q xe else tb ds1 Q xe) xe
theorem eif(i:VTe c X cd qc)(j:VE c X a ta)(l:VE c X b tb):VE c X (.IfExp cd a b Y) (tIfE qc ta tb):=by refine⟨PE.mono (qay0 i.h j.h l.h) ?_,λt Q Q' f w u n=>i.m _ _ _ _ _ (λk e=>qx5 (j.m _ _ _ _ _ u n) (l.m _ _ _ _ _ u n)) n⟩;rintro W H Q ⟨F,t,A,f,S,x,q⟩;refine⟨F,t,A,f,S,x,i.m _ _ _ _ _ (λk e q H1 F1 A1 S1 g=>?_) (λ_ _ z=>z) q⟩;cases k with|true=>rw[if_pos rfl] at q ⊢;exact⟨F1,e,A1,f,S1,x.step g,j.m _ _ _ _ _ (λd p q v H' F' T A' r S' o s=>q v H' F' T A' r S' o (g.trans s)) (λ_ _ z=>z) q⟩|false=>rw[if_neg ∅] at q ⊢;exact⟨F1,e,A1,f,S1,x.step g,l.m _ _ _ _ _ (λd p q v H' F' T A' r S' o s=>q v H' F' T A' r S' o (g.trans s)) (λ_ _ z=>z) q⟩
def fAnd(fa fb:FV):FV:=λds=>(fa ds).bind λx=>x.asB.bind λk=>if k=true then fb ds else some (.bl false)
def fOr(fa fb:FV):FV:=λds=>(fa ds).bind λx=>x.asB.bind λk=>if k=true then some (.bl true) else fb ds
def fNot(fa:FV):FV:=λds=>(fa ds).bind λx=>x.asB.map λk=>.bl (!k)
theorem Hc{op:PySem.BoolOp}(h:VV c X a oa fa):VV c X (.BoolOp op [a] Y) oa fa:=⟨qaK3 h.h⟩
theorem Jd(m:VV c X a oa fa)(n:VV c X (.BoolOp .And (b::rest) Y) ob fb):VV c X (.BoolOp .And (a::b::rest) Y) ob (fAnd fa fb):=by refine⟨PE.mono (qaL3 m.h n.h) λW H Q g=>?_⟩;obtain⟨F,i,A,d,S,e,q⟩:=g;obtain⟨x,p,e⟩:=zA1.mp e;obtain⟨k,r,e⟩:=zA1.mp e;refine⟨F,i,A,x,S,p,λv H1 B1 s f y=>⟨k,s.asB r,?_⟩⟩;cases k with|true=>rw[if_pos rfl] at e ⊢;exact⟨F,i,A,d,S.same f,e,λw H2 B2 t u j=>q w H2 B2 t (f.trans u) λl=>⟨(j l).one,λb o e=>(j l).new b o (f b o e)⟩⟩|false=>rw[if_neg ∅] at e ⊢;cases e;exact q _ H1 [] (.bl _) f λ_=>New.nil
theorem vor(m:VV c X a oa fa)(n:VV c X (.BoolOp .Or (b::rest) Y) ob fb):VV c X (.BoolOp .Or (a::b::rest) Y) ob (fOr fa fb):=by refine⟨PE.mono (pe_or m.h n.h) λW H Q g=>?_⟩;obtain⟨F,i,A,d,S,e,q⟩:=g;obtain⟨x,p,e⟩:=zA1.mp e;obtain⟨k,r,e⟩:=zA1.mp e;refine⟨F,i,A,x,S,p,λv H1 B1 s f y=>⟨k,s.asB r,?_⟩⟩;cases k with|false=>rw[if_neg ∅] at e ⊢;exact⟨F,i,A,d,S.same f,e,λw H2 B2 t u j=>q w H2 B2 t (f.trans u) λl=>⟨(j l).one,λb o e=>(j l).new b o (f b o e)⟩⟩|true=>rw[if_pos rfl] at e ⊢;cases e;exact q _ H1 [] (.bl _) f λ_=>New.nil
theorem J1(f:VV c X a oa fa):VV c X (.UnaryOp .Not a Y) true (fNot fa):=by refine⟨PE.mono (qaK4 f.h) λW H Q b=>?_⟩;obtain⟨F,g,A,d,S,e,q⟩:=b;obtain⟨x,i,e⟩:=zA1.mp e;obtain⟨k,j,rfl⟩:=zA8.mp e;exact⟨F,g,A,x,S,i,λv H1 B1 l m n=>⟨k,l.asB j,q _ H1 [] (.bl _) m λ_=>New.nil⟩⟩
noncomputable def gNeg:D->Option D|.int i=>some (.int (-i))|_=>none
theorem qaW5:OpS1 true (rU λi=>.int (-i)) gNeg:=by intro F H v x B d Q r h q;cases x with|int i=>cases h;cases r;exact⟨i,rfl,q _ H [] (.int _) (λ_ _ z=>z) New.nil⟩|_=>cases h
theorem vneg(b:VV c X a oa fa):VV c X (.UnaryOp .USub a Y) true (f1 gNeg fa):=⟨PE.mono (pe_un qaF6 b.h) (op_v qaW5)⟩
theorem B8{f:Str}(b:X.K=K)(d:VV c X a oa fa)(e:Cls K C)(n:qd7 K C f)(g:K7 a f X.env (eval a X.env)=eval a X.env:=by rfl):VV c X (.Attribute a f Y) oa (f1 (D.fld C f) fa):=by subst b;exact⟨PE.mono (qaK8 d.h g) (op_v (qaW7 e n))⟩
variable{rc:List V->Hp->VK->Prop}{gc:Ds->Option D}{x:Str}{p:Pos}{Z:List Lr}{fs:Ds->Option Ds}{tos:VTA}
def Ay(gc:Ds->Option D)(fs:Ds->Option Ds):FV:=λds=>(fs ds).bind gc
theorem vbi{id:String}(d:CallR X (.builtin id) rc)(h:OpS nw rc gc)(hm:X.mg x=none)(f:VVs c X (e::Z) own fs)(g:Gl X x:=by rfl)(i:K5 x=some (.builtin id):=by rfl)(j:x ≠ "__name__" := by decide)(a:N' x:=by decide)(k:Kw (e::Z) X.env=(false,eval e X.env)::Kw Z X.env:=by rfl)(b:((backTo Y (Kw Z X.env)).any λx=>x.1)=false:=by rfl):VV c X (.Call (.Name x p) (e::Z) [] Y) (nw||own) (Ay gc fs):=⟨PE.mono (cbi d hm f.h g i j a k b) (qaL8 h)⟩
theorem Fm{id:String}(d:CallR X (.type id) rc)(h:OpS nw rc gc)(hm:X.mg x=none)(f:VVs c X (e::Z) own fs)(g:Gl X x:=by rfl)(i:K5 x=some (.type id):=by rfl)(j:x ≠ "__name__" := by decide)(a:N' x:=by decide)(k:Kw (e::Z) X.env=(false,eval e X.env)::Kw Z X.env:=by rfl)(b:((backTo Y (Kw Z X.env)).any λx=>x.1)=false:=by rfl):VV c X (.Call (.Name x p) (e::Z) [] Y) (nw||own) (Ay gc fs):=⟨PE.mono (cty d hm f.h g i j a k b) (qaL8 h)⟩
theorem ebi{id:String}(f:CallR X (.builtin id) rc)(h:OpS true rc gc)(hm:X.mg x=none)(a:VOs c X (e::Z) tos)(g:Gl X x:=by rfl)(i:K5 x=some (.builtin id):=by rfl)(j:x ≠ "__name__" := by decide)(b:N' x:=by decide)(k:Kw (e::Z) X.env=(false,eval e X.env)::Kw Z X.env:=by rfl)(d:((backTo Y (Kw Z X.env)).any λx=>x.1)=false:=by rfl):VE c X (.Call (.Name x p) (e::Z) [] Y) (tcO gc tos):=⟨PE.mono (cbi f hm a.h g i j b k d) (opc_o a h),qX0 a⟩
theorem ecty{id:String}(f:CallR X (.type id) rc)(h:OpS true rc gc)(hm:X.mg x=none)(a:VOs c X (e::Z) tos)(g:Gl X x:=by rfl)(i:K5 x=some (.type id):=by rfl)(j:x ≠ "__name__" := by decide)(b:N' x:=by decide)(k:Kw (e::Z) X.env=(false,eval e X.env)::Kw Z X.env:=by rfl)(d:((backTo Y (Kw Z X.env)).any λx=>x.1)=false:=by rfl):VE c X (.Call (.Name x p) (e::Z) [] Y) (tcO gc tos):=⟨PE.mono (cty f hm a.h g i j b k d) (opc_o a h),qX0 a⟩
def Je(xs:Ds):Option D:=gd (D.imms xs=true/\xs.length<=big) (.l false xs)
def gTup(xs:Ds):Option D:=gd (D.imms xs=true/\xs.length<=big) (.q xs)
theorem Bl(k:VVs c X Z own fs):VV c X (.List Z Y) true (Ay Je fs):=by refine⟨PE.mono (qax9 k.h) λW H Q f=>?_⟩;obtain⟨F,l,A,d,S,e,q⟩:=f;obtain⟨m,n,e2⟩:=zA1.mp e;obtain⟨g,rfl⟩:=qj1 e2;refine⟨F,l,A,m,S,n,λr H1 B1 i j s=>⟨by rw[i.len];exact zAg g.2 qi7,λp a=>?_⟩⟩;exact q _ _ [p] (qs8 a (i.imms0 g.1)) (j.trans (Same.new a)) λ_=>⟨(qe8 a).one,λb o e=>(qe8 a).new b o (j b o e)⟩
theorem B9(i:VVs c X Z own fs):VV c X (.Tuple Z k Y) true (Ay gTup fs):=by refine⟨PE.mono (qaK1 i.h) λW H Q a=>?_⟩;obtain⟨F,j,A,d,S,e,q⟩:=a;obtain⟨l,m,e2⟩:=zA1.mp e;obtain⟨b,rfl⟩:=qj1 e2;refine⟨F,j,A,l,S,m,λo H1 B1 f n r=>⟨by rw[f.len];exact zAg b.2 qi7,λp g=>?_⟩⟩;exact q _ _ [] (qE8 g (f.imms0 b.1)) (n.trans (Same.new g)) λ_=>New.nil
def FO:=Ds->Option (Option Int)
inductive qaS4(c:Vc)(f:FO)(W:St)(H:Hp)(Q:Option Int->Hp->Prop):Prop
 |mk (F:γ->Prop) (ds:Ds) (A:List γ) (i:Option Int) (S:Pd c F H W ds A) (e:f ds=some i) (q:∀H',Same H H'->Q i H'):qaS4 c f W H Q
def qaY8(c:Vc)(f:FO):TO:=qaS4 c f
structure VPO(c:Vc)(X:Cx)(e:Option Lr)(f:FO):Prop where
 h:PO X e (qaY8 c f)
theorem PO.mono{X:Cx}{e:Option Lr}{t t':TO}(h:PO X e t)(i:∀W H Q,t' W H Q->t W H Q):PO X e t':=λE6 s W H Q I q=>h E6 s W H Q I (i W H Q q)
noncomputable def foN:FO:=λ_=>some none
noncomputable def D.asI:D->Option Int|.int i=>some i|_=>none
theorem Pa.asI(r:Pa F H v d B)(h:d.asI=some k):v=.int k:=by cases r<;>cases h<;>rfl
def foS(f:FV):FO:=λds=>(f ds).bind λd=>d.asI.map some
theorem vpo_n:VPO c X none foN:=⟨PO.mono qaq8 λW H Q ⟨F,a,A,i,S,e,q⟩=>by cases e;exact q H λ_ _ z=>z⟩
theorem vpo_s(h:VV c X e own f):VPO c X (some e) (foS f):=by refine⟨PO.mono (qaq7 h.h) λW H Q a=>?_⟩;obtain⟨F,b,A,i,S,e,q⟩:=a;obtain⟨d,g,e2⟩:=zA1.mp e;obtain⟨j,k,rfl⟩:=zA8.mp e2;exact⟨F,b,A,d,S,g,λv H' B r s _=>⟨j,r.asI k,q H' s⟩⟩
noncomputable def noT:D->Bool|.q _=>false|_=>true
def fsl(fa:FV)(lo hi:FO):FV:=λds=>(fa ds).bind λx=>(lo ds).bind λl=>(hi ds).bind λh=>if noT x=true then gSl x l h else none
theorem vsl{lo hi:Option Lr}{fl m:FO}(s:VV c X a oa fa)(t:VPO c X lo fl)(u:VPO c X hi m):VV c X (.Subscript a (.Slice lo hi none p2) Y) true (fsl fa fl m):=by refine⟨PE.mono (qaa7 qap6 s.h t.h u.h) λW H Q g=>?_⟩;obtain⟨F,i,A,d,S,e,q⟩:=g;obtain⟨x,y,e⟩:=zA1.mp e;obtain⟨l,e2,e⟩:=zA1.mp e;obtain⟨h,B,e⟩:=zA1.mp e;by_cases n:noT x=true;{rw[if_pos n] at e;refine⟨F,i,A,x,S,y,λv H1 B1 C j _=>⟨F,i,A,l,S.same j,e2,λH2 k=>⟨F,i,A,h,(S.same j).same k,B,λH3 p=>?_⟩⟩⟩;have f:=(j.trans k).trans p;refine os_sl ((C.same k).same p) e (λG z=>by subst z;cases n) λw H' B' D E r=>q w H' B' D (f.trans E) λ_=>⟨r.one,λb o e=>r.new b o (f b o e)⟩};grind
def gRev(x:D):Option D:=match x with|.l _ ys=>gd (D.imms ys=true) (.l false ys.reverse)|_=>none
theorem O4.rev{F:γ->Prop}{H:Hp}{ds:Ds}(r:O4 F H vs ds []):O4 F H vs.reverse ds.reverse []:=by induction vs generalizing ds with|nil=>cases r;exact .nil|cons v vs b=>generalize a:([]:List γ)=B at r;cases r with|@cons _ _ A1 _ _ A2 r1 t=>have c:=(List.append_eq_nil_iff.mp a.symm).1;have d:=(List.append_eq_nil_iff.mp a.symm).2;subst c;subst d;rw[Mn,Mn];exact(b t).append (.cons r1 .nil)
theorem vrev{p q:Pos}(k:VV c X a oa fa):VV c X (.Subscript a (.Slice none none (some (.UnaryOp .USub (.Constant (.int 1) i p) q)) p2) Y) true (f1 gRev fa):=by refine⟨PE.mono (qaW1 k.h) λW H Q g=>?_⟩;obtain⟨F,l,A,d,S,e,q⟩:=g;obtain⟨x,m,e2⟩:=qam6.mp e;cases x with|l z w=>obtain⟨n,rfl⟩:=qj1 e2;refine⟨F,l,A,_,S,m,λv H1 B1 r j y=>?_⟩;obtain⟨a,s,A2,rfl,t,u,_⟩:=r.lst_inv;exact⟨a,s,rfl,.inl (.inl t),λp f=>(q _ _ [p] (qs8 f (u.imms0 n).rev) (j.trans (Same.new f)) λ_=>⟨(qe8 f).one,λb o e=>(qe8 f).new b o (j b o e)⟩)⟩|_=>cases e2
def fget(fa a b:FV):FV:=λds=>(fa ds).bind λx=>(a ds).bind λy=>(b ds).bind λz=>match x with|.dct _ kvs=>y.key.bind λk=>gd (((El kvs k).getD z).imm=true) ((El kvs k).getD z)|_=>none
theorem vget{z:Lr}{D:Bool}{t:FV}(G:X.A.units+1<cLine)(I:VV c X a oa fa)(J:VV c X k D s)(K:VV c X z E t)(m:M2 X a "get" apos k z cpos):VV c X (.Call (.Attribute a "get" apos) [k,z] [] cpos) true (fget fa s t):=by refine⟨PE.mono (qay2 G I.h J.h K.h m) λW H Q j=>?_⟩;obtain⟨F,l,A,d,S,e,q⟩:=j;obtain⟨x,L,e⟩:=zA1.mp e;obtain⟨y,e2,e⟩:=zA1.mp e;obtain⟨w,M,e⟩:=zA1.mp e;cases x with|dct z N=>obtain⟨n,O,e⟩:=zA1.mp e;obtain⟨g,rfl⟩:=qj1 e;refine⟨F,l,A,_,S,L,λv H1 B1 P o _=>?_⟩;obtain⟨a,b,A2,rfl,B,R,T,_⟩:=P.dct_inv;refine⟨a,rfl,.inl ⟨b,.inl B⟩,F,l,A,y,S.same o,e2,λu H2 B2 U i _=>⟨F,l,A,w,(S.same o).same i,M,λV H3 B3 C p _=>?_⟩⟩;have r:=p _ _ (i _ _ B);refine⟨Fj b n,.inl ⟨b,n,.inl r,(U.key O),rfl⟩,?_⟩;have f:=(o.trans i).trans p;rcases qaF4 n R T with⟨n1,n2⟩|⟨vv,dd,BB,n1,n2,n3,n4⟩;{rw[n1] at g q;rw[n2];have:=C.imm g;subst this;exact q _ H3 [] C f λ_=>New.nil};rw[n1] at g q;rw[n2];have:=n3.imm g;subst this;exact q _ H3 [] ((n3.same i).same p) f λ_=>New.nil|_=>cases e
end
section
variable{c:Vc}{X:Cx}{a b e:Lr}{pos:Pos}{F F':γ->Prop}{H H':Hp}{σ:St}{ds:Ds}{A:List γ}
theorem Pd.put1(S:Pd c F H σ ds A)(h:ds[i]?=some d)(e:d≠.u):∃(v:V)(B C:List γ),(σ++c.gv)[i]?=some (some v)/\Pa F H v d B/\(∀b,A.count b=B.count b+C.count b)/\∀{F':γ->Prop}{H':Hp}{W:γ->Prop}(d':D)(B':List γ),Kp F H W F' H'->(∀b∈C,¬W b)->Pa F' H' v d' B'->∃A':List γ,Locs F' H' (σ++c.gv) (ds.set i d') A'/\∀b,A'.count b=B'.count b+C.count b:=by
 have f:Bb ds i []=some d:=by unfold Bb;rw[h];rfl
 obtain⟨u,w,B,C,g,j,l,m,n⟩:=S.loc.place f e;cases j;refine⟨u,B,C,g,l,m,λ{F' H' W} d' B' k o r=>?_⟩;obtain⟨A',a,q2⟩:=n d' B' k o r;refine⟨A',?_,q2⟩;unfold By at a;rw[h] at a;exact a
theorem qC4{d:D}(h:d.known=true):d≠.u:=λz=>by subst z;cases h
def tMv(i:Nat):VT:=λds Q _=>orF (rdN i ds) λd=>Q d (ds.set i .u)
theorem emv(i:Nat)(k:X.N[i]?=some x:=by rfl)(m:Vis X.env.scope x:=by first|exact O1 rfl|exact O0 (O1 rfl)|exact O0 (O0 rfl))(n:N' x:=by decide)(a:(x==("__classdict__" : Str))=false:=by decide):VE c X (.Name x pos) (tMv i):=by refine⟨λE6 s σ H Q I g=>?_,λp Q Q' r t u _=>qa5 λd=>u _ _⟩;obtain⟨F,p,A,r,S,x,q⟩:=g;refine ql3 k m n a E6 s σ H Q I ?_;obtain⟨d,h,q⟩:=qa7.mp q;obtain⟨h,w⟩:=qk2.mp h;obtain⟨v,B,C,l,y,j,D⟩:=S.put1 h (qC4 w);rw[zAq (qk9 k E6 σ H s I)] at l;obtain⟨A',E,q2⟩:=D .u [] (Kp.same (λ_ _ z=>z)) (λ_ _ z=>z) (.u v);refine⟨v,l,q v H F B A' y ⟨E,S.ok.count λb=>by rw[q2,j];simp,S.len,S.ag⟩ (S.ok.count λb=>by rw[zA0,q2,j];simp) ?_⟩;exact⟨λ_ _ e _=>e,λb o e z=>by rw[zA0,q2];have:=j b;simp;lia,λ_ f=>f,λ_ _ _ _ f=>f⟩
def tFz(i:Nat):VT:=λds Q _=>orF (rdN i ds) λd=>Q d.fz (ds.set i d.fz)
theorem share{B C:List γ}(o:Ok F H A)(a:∀b,A.count b=B.count b+C.count b)(d:∀b∈B,∃o,H b=some o/\Et o=true)(c:∀b,A'.count b=C.count b):Ok (λb=>F b∨b∈B) H A'/\Pc F H A (λb=>F b∨b∈B) H A':=by refine⟨⟨λb=>by rw[c];have:=o.sep b;have:=a b;lia,λb f=>?_,λb f=>?_⟩,λ_ _ e _=>e,λb o e z=>by rw[c];have:=a b;lia,λb f=>.inl f,λb u e z f=>?_⟩;{rw[c];rcases f with f|f;{have:=o.fro b f;have:=a b;lia};have:=qb6.mp f;have:=o.sep b;grind};{rcases f with f|f;{exact o.ex b f};exact let ⟨u,e,_⟩:=d b f;⟨u,e⟩};grind
theorem efz(i:Nat)(h:X.N[i]?=some x:=by rfl)(n:Vis X.env.scope x:=by first|exact O1 rfl|exact O0 (O1 rfl)|exact O0 (O0 rfl))(o:N' x:=by decide)(a:(x==("__classdict__" : Str))=false:=by decide):VE c X (.Name x pos) (tFz i):=by refine⟨λE6 s σ H Q I e=>?_,λp Q Q' r t u _=>qa5 λd=>u _ _⟩;obtain⟨F,p,A,r,S,x,q⟩:=e;refine ql3 h n o a E6 s σ H Q I ?_;obtain⟨d,g,q⟩:=qa7.mp q;obtain⟨g,w⟩:=qk2.mp g;obtain⟨v,B,C,j,k,y,D⟩:=S.put1 g (qC4 w);rw[zAq (qk9 h E6 σ H s I)] at j;have l:=k.fz (F':=λb=>F b∨b∈B) (λb f=>.inl f) λb E=>.inr E;obtain⟨A',G,q2⟩:=D d.fz [] (Kp.more λb f=>O1 f) (λ_ _ z=>z) l;obtain⟨m,J⟩:=share S.ok y k.cells (λb=>by rw[q2];simp);exact⟨v,j,q v H _ [] A' l ⟨G,m,S.len,S.ag⟩ m J⟩
abbrev PF:=Ds->Option (Nat×List Nat)
inductive LiftP(c:Vc)(pf:PF)(σ:St)(H:Hp)(Q:VK):Prop
 |mk (F:γ->Prop) (ds:Ds) (A:List γ) (i:Nat) (p:List Nat) (d:D) (S:Pd c F H σ ds A) (e:pf ds=some (i,p)) (g:Bb ds i p=some d) (n:d≠.u) (q:∀u w H',(σ++c.gv)[i]?=some (some u)->Pg H' u p w->Same H H'->Q w H'):LiftP c pf σ H Q
def Ij(c:Vc)(pf:PF):TE:=LiftP c pf
structure VP(c:Vc)(X:Cx)(e:Lr)(pf:PF):Prop where
 h:PE X e (Ij c pf)
theorem vpn(i:Nat)(h:X.N[i]?=some x:=by rfl)(l:Vis X.env.scope x:=by first|exact O1 rfl|exact O0 (O1 rfl)|exact O0 (O0 rfl))(m:N' x:=by decide)(b:(x==("__classdict__" : Str))=false:=by decide):VP c X (.Name x pos) (λ_=>some (i,[])):=by refine⟨λE6 s σ H Q I f=>?_⟩;obtain⟨F,r,A,j,p,d,S,e,n,g,q⟩:=f;refine ql3 h l m b E6 s σ H Q I ?_;cases e;obtain⟨u,w,B,C,k,o,t,v,y⟩:=S.loc.place n g;cases o;have a:=k;rw[zAq (qk9 h E6 σ H s I)] at a;exact⟨u,a,q u u H k rfl λ_ _ z=>z⟩
theorem qG0:∀{p:List Nat}{d x:D}{q:List Nat},d.getP (p++q)=some x->∃e,d.getP p=some e/\e.getP q=some x|[],d,x,q,h=>⟨d,rfl,h⟩|n::p,d,x,q,h=>by have h:D.getP d (n::(p++q))=some x:=h;unfold D.getP at h;cases a:d.kids[n]? with|none=>rw[a] at h;cases h|some y=>rw[a] at h;obtain⟨e,b,c⟩:=qG0 h;exact⟨e,by unfold D.getP;rw[a];exact b,c⟩
theorem qG1(h:Bb ds i (p++q)=some x):∃e,Bb ds i p=some e/\e.getP q=some x:=by unfold Bb at h ⊢;cases a:ds[i]? with|none=>rw[a] at h;cases h|some d=>rw[a] at h;exact qG0 h
theorem Pg.snoc:∀{p:List Nat}{u v w:V}{n:Nat},Pg H u p v->Lnk H v n w->Pg H u (p++[n]) w|[],_,_,w,n,h,l=>by cases h;exact⟨w,l,rfl⟩|m::p,_,_,_,_,⟨x,h1,h2⟩,l=>⟨x,h1,h2.snoc l⟩
theorem qaN9{d e:D}(h:d.getP [n]=some e):d≠.u:=λz=>by subst z;cases (show (none:Option D)=some _ from h)
theorem Pd.place(S:Pd c F H σ ds A)(h:Bb ds i p=some d)(e:d≠.u)(f:(σ++c.gv)[i]?=some (some u))(g:Pg H u p w):∃(B C:List γ),Pa F H w d B/\(∀b,A.count b=B.count b+C.count b)/\∀{F':γ->Prop}{H':Hp}{W:γ->Prop}(d':D)(B':List γ),Kp F H W F' H'->(∀b∈C,¬W b)->Pa F' H' w d' B'->∃A':List γ,Locs F' H' (σ++c.gv) (By ds i p d') A'/\∀b,A'.count b=B'.count b+C.count b:=by obtain⟨n,o,B,C,a,j,k,l,m⟩:=S.loc.place h e;rw[f] at a;cases a;cases g.fn j;exact⟨B,C,k,l,m⟩
def D.fidx(C:γ)(f:Str):D->Option Nat|.ins _ C' fs=>if C'=C then fs.findIdx? (λq=>f==q.1) else none|_=>none
theorem qA9{α:Type}:∀{fs:List (Str×α)}{f:Str}{n:Nat},fs.findIdx? (λq=>f==q.1)=some n->∃v,fs.lookup f=some v/\(fs.map (·.2))[n]?=some v|[],f,n,h=>by simp at h|(k,v)::r,f,n,h=>by rw[List.findIdx?_cons] at h;rw[zAp];cases a:f==k with|true=>simp[a] at h;subst h;exact⟨v,rfl,rfl⟩|false=>simp[a] at h;obtain⟨m,b,rfl⟩:=h;obtain⟨w,c,d⟩:=qA9 b;exact⟨w,c,by simpa using d⟩
theorem qR2{α β:Type}:∀{fs:List (Str×α)}{a:List (Str×β)}{f:Str},fs.map (·.1)=a.map (·.1)->fs.findIdx? (λq=>f==q.1)=a.findIdx? (λq=>f==q.1)
 |[],[],_,_=>rfl|[],_::_,_,h=>by simp at h|_::_,[],_,h=>by simp at h|(k,_)::r,(k',_)::r',f,h=>by
  have b:k=k':=by simp at h;exact h.1
  have c:r.map (·.1)=r'.map (·.1):=by simp at h;simpa using h.2
  subst b;rw[List.findIdx?_cons,List.findIdx?_cons,qR2 c]
def pfFld(C:γ)(f:Str)(pf:PF):PF:=λds=>(pf ds).bind λq=>(Bb ds q.1 q.2).bind λd=>(d.fidx C f).map λn=>(q.1,q.2++[n])
theorem vpfld(G:X.K=K)(l:VP c X a pf)(I:Cls K C)(J:qd7 K C f)(L:K7 a f X.env (eval a X.env)=eval a X.env:=by rfl):VP c X (.Attribute a f pos) (pfFld C f pf):=by subst G;refine⟨PE.mono (qaK8 l.h L) λσ H Q m=>?_⟩;obtain⟨F,M,A,i,p,d,S,e,N,Z,q⟩:=m;obtain⟨⟨j,O⟩,P,e⟩:=zA1.mp e;obtain⟨t,e2,e⟩:=zA1.mp e;obtain⟨n,x,e⟩:=zA8.mp e;cases e;obtain⟨R,g1,g2⟩:=qG1 N;rw[e2] at g1;cases g1;have b:=qaN9 g2;refine⟨F,M,A,j,O,t,S,P,e2,b,λu w H' y D s=>?_⟩;obtain⟨B,C0,r,_,_⟩:=(S.same s).place e2 b y D;cases t with|ins z C' T=>have g:(if C'=C then T.findIdx? (λq=>f==q.1) else none)=some n:=x;by_cases o:C'=C;{rw[if_pos o] at g;obtain⟨a,E,k,_,rfl,l,U,rs,_⟩:=r.ins_inv;rw[<-qR2 U] at g;obtain⟨v,V,Y⟩:=qA9 g;subst o;exact⟨a,C',E,k,v,rfl,l,I,J,V,q u v H' y (D.snoc ⟨a,rfl,.inr (.inr (.inr ⟨C',E,k,l,Y⟩))⟩) s⟩};rw[if_neg o] at g;cases g|_=>cases x
def pfIx(pf:PF)(fb:FV):PF:=λds=>(pf ds).bind λq=>(Bb ds q.1 q.2).bind λd=>d.elems.bind λys=>(fb ds).bind λy=>y.asI.bind λk=>(ixN ys.length k).map λn=>(q.1,q.2++[n])
theorem vpix(f:VP c X a pf)(N:VV c X b ob fb)(O:qT0 b:=by exact λ_ _=>rfl):VP c X (.Subscript a b pos) (pfIx pf fb):=by refine⟨PE.mono (Jp qb7 f.h N.h O) λσ H Q C=>?_⟩;obtain⟨F,J,A,i,p,d,S,e,P,hd,q⟩:=C;obtain⟨⟨j,R⟩,T,e⟩:=zA1.mp e;obtain⟨K,e2,e⟩:=zA1.mp e;obtain⟨ys,D,e⟩:=zA1.mp e;obtain⟨y,U,e⟩:=zA1.mp e;obtain⟨k,V,e⟩:=zA1.mp e;obtain⟨n,E,e⟩:=zA8.mp e;cases e;obtain⟨W,g1,g2⟩:=qG1 P;rw[e2] at g1;cases g1;have o:=qaN9 g2;refine⟨F,J,A,j,R,K,S,T,e2,o,λu w H1 G Y s=>?_⟩;refine⟨F,J,A,y,S.same s,U,λv2 H2 B2 Z L _=>?_⟩;have g:=s.trans L;have l:=Y.same L;obtain⟨B,C0,r,_,_⟩:=(S.same g).place e2 o G l;cases Z.asI V;have M:=(qQ0 E).2.1;cases K with|l z I=>cases D;obtain⟨a,m,A3,rfl,f,t,_⟩:=r.lst_inv;obtain⟨vn,v⟩:∃x,m[n]?=some x:=⟨_,zBx (by rw[t.len];exact M)⟩;refine .inl ⟨a,m,k,_,rfl,rfl,.inl (.inl f),?_,q u _ H2 G (l.snoc ⟨a,rfl,.inr (.inl ⟨m,f,v⟩)⟩) g⟩;unfold atI;rw[t.len,E];exact v|q I=>cases D;obtain⟨a,m,rfl,f,t⟩:=r.tup_inv;obtain⟨vn,v⟩:∃x,m[n]?=some x:=⟨_,zBx (by rw[t.len];exact M)⟩;refine .inr (.inl ⟨a,m,k,_,rfl,rfl,.inl (.inl f),?_,q u _ H2 G (l.snoc ⟨a,rfl,.inl ⟨m,f,v⟩⟩) g⟩);unfold atI;rw[t.len,E];exact v|_=>cases D
end
inductive Pl where
 |no
 |sl (i:Nat)
 |pl (i:Nat) (p:List Nat) (w:V)
abbrev VTB:=Ds->(Ds->List Pl->Ds->Prop)->XKd->Prop
inductive Gb(a:List (Option V)):List V->List Pl->Prop
 |nil:Gb a [] []
 |no {v:V} {vs:List V} {ps:List Pl} (t:Gb a vs ps):Gb a (v::vs) (.no::ps)
 |sl {v:V} {vs:List V} {ps:List Pl} {i:Nat} (h:a[i]?=some (some v)) (t:Gb a vs ps):Gb a (v::vs) (.sl i::ps)
 |so {v:V} {vs:List V} {ps:List Pl} {i:Nat} {p:List Nat} (t:Gb a vs ps):Gb a (v::vs) (.pl i p v::ps)
inductive LiftA(c:Vc)(t:VTB)(a:St)(H:Hp)(Q:List V->Hp->Prop):Prop
 |mk (F:γ->Prop) (ds:Ds) (A:List γ) (xe:XKd) (S:Pd c F H a ds A) (x:Xc c xe F H A) (q:t ds (λxs pls ds'=>∀vs H' F' T A',O4 F' H' vs xs T->Gb (a++c.gv) vs pls->Pd c F' H' a ds' A'->Ok F' H' (T++A')->Pc F H A F' H' (T++A')->Q vs H') xe):LiftA c t a H Q
def Ff(c:Vc)(t:VTB):TA:=LiftA c t
structure VAs(c:Vc)(X:Cx)(es:List Lr)(t:VTB):Prop where
 h:PA X es (Ff c t)
 m:∀ds (Q Q':Ds->List Pl->Ds->Prop) (xe xe':XKd),(∀d p ds',Q d p ds'->Q' d p ds')->(∀x ds',xe x ds'->xe' x ds')->t ds Q xe->t ds Q' xe'
section
variable{c:Vc}{X:Cx}{e:Lr}{es:List Lr}{ta:VT}{tr:VTB}{F F':γ->Prop}{H H':Hp}{σ:St}{ds:Ds}{A:List γ}
def A7:VTB:=λds Q _=>Q [] [] ds
theorem Ac:VAs c X [] A7:=⟨PA.mono qu0 λσ H Q ⟨F,a,A,b,S,x,q⟩=>q [] H F [] A .nil .nil S S.ok Pc.refl,λa Q Q' b d e _=>e _ _ _⟩
def tbV(ta:VT)(tr:VTB):VTB:=λds Q xe=>ta ds (λx ds1=>tr ds1 (λxs ps a=>Q (x::xs) (.no::ps) a) xe) xe
theorem vaV(f:VE c X e ta)(g:VAs c X es tr)(w:Kw (e::es) X.env=(false,eval e X.env)::Kw es X.env:=by rfl):VAs c X (e::es) (tbV ta tr):=by
 refine⟨PA.mono (qe7 f.h g.h w) λσ H Q i=>?_,λo Q Q' j y B p=>f.m _ _ _ _ _ (λd a=>g.m _ _ _ _ _ (λC D k=>B _ _ _) p) p⟩;obtain⟨F,o,A,j,S,x,q⟩:=i;refine⟨F,o,A,j,S,x,f.m _ _ _ _ _ (λM a q v H1 F1 T A1 r S1 s t=>?_) (λ_ _ z=>z) q⟩;have l:Pc F H A F1 H1 A1:=t.count λb=>by rw[zA0];lia
 refine⟨F1,a,A1,j,S1,x.step l,g.m _ _ _ _ _ (λC D k q E H2 F2 T2 A2 G I S2 J u=>?_) (λ_ _ z=>z) q⟩;have n:=r.keep (u.kp S1.ok S1.loc.cells) λb N O=>by have:=s.sep b;grind
 obtain⟨K,L⟩:=u.frame s r.cells J;exact q (v::E) H2 F2 (T++T2) A2 (.cons n G) (.no I) S2 (by rw[zAx];exact K) (by rw[zAx];exact t.trans L)
def tbN(i:Nat)(tr:VTB):VTB:=λds Q xe=>(rdN i ds).isSome=true/\tr ds (λxs ps ds1=>orF (rdN i ds1) λd=>Q (d::xs) (.sl i::ps) (ds1.set i .u)) xe
theorem vaN(i:Nat)(e:VAs c X es tr)(E:Kw (.Name x p::es) X.env=(false,eval (.Name x p) X.env)::Kw es X.env:=by rfl)(t:X.N[i]?=some x:=by rfl)(G:Vis X.env.scope x:=by first|exact O1 rfl|exact O0 (O1 rfl)|exact O0 (O0 rfl))(J:N' x:=by decide)(f:(x==("__classdict__" : Str))=false:=by decide):VAs c X (.Name x p::es) (tbN i tr):=by
 refine⟨λpos E6 s σ H Q I g=>?_,λu Q Q' w K L M=>N7 (e.m _ _ _ _ _ (λO P j=>qa5 λd=>L _ _ _) M)⟩;obtain⟨F,u,A,w,S,x,k,q⟩:=g;refine qe7 (ql3 t G J f) e.h E pos E6 s σ H Q I ?_;have y:=qk9 t E6 σ H s I;obtain⟨d0,R⟩:=zB5.mp k;obtain⟨v,B0,a,_,_⟩:=S.name y R;refine⟨v,a,F,u,A,w,S,x,e.m _ _ _ _ _ (λO P j q T H2 F2 T2 A2 U V S2 D W=>?_) (λ_ _ z=>z) q⟩;obtain⟨d,l,q⟩:=qa7.mp q;obtain⟨l,Y⟩:=qk2.mp l;obtain⟨v',B,C,n,Z,h3,h4⟩:=S2.put1 l (qC4 Y);have o:=n;rw[zAq y,a] at n;cases n;obtain⟨A3,q1,q2⟩:=h4 .u [] (Kp.same λ_ _ z=>z) (λ_ _ z=>z) (.u v);have r:∀b,((B++T2)++A3).count b<=(T2++A2).count b:=λb=>by simp only[zA0,q2,h3];simp;lia
 exact q (v::T) H2 F2 (B++T2) A3 (.cons Z U) (.sl o V) ⟨q1,(D.count r).right,S.len,S.ag⟩ (D.count r) (W.count r)
def Av:List Pl->Ds->Ds->Option Ds
 |[],_,ds=>some ds|.no::ps,_::ys,ds=>Av ps ys ds|.sl i::ps,y::ys,ds=>Av ps ys (ds.set i y)|.pl i p v::ps,y::ys,ds=>match Bb ds i p with|some (.hole w)=>if w=v then Av ps ys (By ds i p y) else none|_=>none
 |_::_,[],_=>none
theorem qB4{ds:Ds}(L:Locs F H τ ds C)(hi:τ[i]?=some (some v))(r:Pa F H v y B):∃A':List γ,Locs F H τ (ds.set i y) A'/\∀b,A'.count b<=B.count b+C.count b:=by
 have s:=L.len;have g:=(zA6.mp hi).1;obtain⟨d,h⟩:∃d,ds[i]?=some d:=⟨_,zBx ⋯⟩;obtain⟨σ1,o,σ2,a,c,A1,B0,A2,e,e2,j,k,m,n,t,p⟩:=L.split h;have f:τ[i]?=some o:=by rw[e];exact qA6 j
 rw[hi] at f;cases f;have q:ds.set i y=a++y::c:=by have:=congrArg (λl=>l.set i y) e2;rw[this,qo1 k]
 exact⟨A1++(B++A2),by rw[e,q];exact n.append (.so r p),λb=>by rw[m];simp only[zA0];lia⟩
theorem qp8{c:List Pl}{ds:Ds}{σ:List (Option V)}(e:Gb σ vs c)(r:O4 F H (vs++more) ys B)(L:Locs F H σ ds C)(h:Av c ys ds=some a):∃A':List γ,Locs F H σ a A'/\∀b,A'.count b<=B.count b+C.count b:=by
 induction e generalizing ys ds B C with
 |nil=>
  have h:some ds=some a:=by cases ys<;>exact h
  cases h;exact⟨C,L,λb=>⋯⟩
 |no e d=>cases r with|@cons _ _ A1 _ _ B1 r1 t=>obtain⟨A',f,q2⟩:=d t L h;grind
 |sl l e d=>cases r with|@cons _ _ A1 _ _ B1 r1 t=>obtain⟨A2,f,q2⟩:=qB4 L l r1;obtain⟨A',j,k⟩:=d t f h;exact⟨A',j,λb=>by rw[zA0];have:=k b;have:=q2 b;lia⟩
 |@so v _ _ i p e d=>cases r with|@cons _ y A1 _ _ B1 r1 t=>unfold Av at h;split at h;{rename_i w hg;by_cases g:w=v;{rw[if_pos g] at h;subst g;obtain⟨u,o,B2,C2,q,s,m,x,n⟩:=L.place hg (by grind);cases m;obtain⟨A2,f,q2⟩:=n y A1 (Kp.same λ_ _ z=>z) (λ_ _ z=>z) r1;obtain⟨A',j,k⟩:=d t f h;grind};rw[if_neg g] at h;cases h};cases h
abbrev VSp:=Ds->DK->XKd->Prop
inductive LiftF(s:VSp)(vs:List V)(H:Hp)(Q:VK)(E:XK):Prop
 |mk (F:γ->Prop) (ds:Ds) (A:List γ) (r:O4 F H vs ds A) (o:Ok F H A) (q:s ds (λd ys=>∀v H' F' T A',Pa F' H' v d T->O4 F' H' vs ys A'->Ok F' H' (T++A')->Pc F H A F' H' (T++A')->Q v H')
   (λx ys=>∀e H' F' A',RepX F' H' e x->O4 F' H' vs ys A'->Ok F' H' A'->Pc F H A F' H' A'->E (.ref e) none H')):LiftF s vs H Q E
def Gh(s:VSp):Sp:=LiftF s
def Bp(s:VSp):Prop:=∀ds (Q Q':DK) (xe xe':XKd),(∀d a,Q d a->Q' d a)->(∀x a,xe x a->xe' x a)->s ds Q xe->s ds Q' xe'
def qj3(s:VSp)(dv:Ds)(tr:VTB):VT:=λds Q xe=>tr ds (λxs ps ds1=>s (xs++dv) (λd ys=>orF (Av ps ys ds1) λa=>Q d a) (λx ys=>orF (Av ps ys ds1) λa=>xe x a)) xe
theorem qao2(f:Bp s)(g:VAs c X es tr):∀ds (Q Q':DK) (xe b:XKd),(∀d a,Q d a->Q' d a)->(∀x a,xe x a->b x a)->qj3 s dv tr ds Q xe->qj3 s dv tr ds Q' b:=λds Q Q' xe b h e=>g.m _ _ _ _ _ (λk l i=>f _ _ _ _ _ (λd j=>qa5 λz=>h _ _) (λx j=>qa5 λz=>e _ _)) e
def Ka(dvs:List V)(dv:Ds):Prop:=∀F H,O4 F H dvs dv []
theorem qy0:Ka [] []:=λ_ _=>.nil
theorem qaR5(C:Ka dvs dv)(D:Bp s)(G:VAs c X es tr):∀σ H Q,Bf c (qj3 s dv tr) σ H Q->Hx (Gh s) dvs c.E (Ff c tr) σ H Q:=by
 rintro σ H Q ⟨F,I,A,J,S,x,q⟩;refine⟨F,I,A,J,S,x,G.m _ _ _ _ _ (λK R L q U H1 F1 T A1 M u S1 a w=>?_) (λ_ _ z=>z) q⟩;have rall:=M.append (C F1 H1);rw[zAe] at rall;refine⟨F1,K++dv,T,rall,a.left,D _ _ _ _ _ (λd N q v H2 F2 T2 A2 O j k h=>?_) (λy N q e H2 F2 A2 P j k h=>?_) q⟩
 .obtain⟨i,l,q⟩:=qa7.mp q;have f:Ok F1 H1 (A1++T):=a.count λb=>by simp only[zA0];lia
  obtain⟨n,o⟩:=h.frame f S1.loc.cells k;have L1:=S1.loc.keep (h.kp a.left rall.cells) λb p g=>by have:=a.sep b;rw[zA0] at this;have:=qb6.mp p;lia
  obtain⟨A3,r,q2⟩:=qp8 u j L1 l;have g:∀b,(T2++A3).count b<=(A1++(T2++A2)).count b:=λb=>by simp only[zA0];have:=q2 b;lia
  have B:=n.count g;have t:=(w.trans (o.pre λb=>by simp only[zA0];lia)).count g;exact q v H2 F2 T2 A3 O ⟨r,B.right,S.len,S.ag⟩ B t
 obtain⟨i,l,q⟩:=qa7.mp q;have f:Ok F1 H1 (A1++T):=a.count λb=>by simp only[zA0];lia
 obtain⟨n,o⟩:=h.frame f S1.loc.cells k;have L1:=S1.loc.keep (h.kp a.left rall.cells) λb p g=>by have:=a.sep b;rw[zA0] at this;have:=qb6.mp p;lia
 obtain⟨A3,r,q2⟩:=qp8 u j L1 l;have g:∀b,A3.count b<=(A1++A2).count b:=λb=>by simp only[zA0];have:=q2 b;lia
 have t:Pc F H A F2 H2 A3:=(w.trans (o.pre λb=>by simp only[zA0];lia)).count g;exact x y i σ e H2 F2 A3 q P ⟨r,(n.count g),S.len,S.ag⟩ t
end
structure Gc(cm:Bool)(P:Ln)(w:Lq)(K:Oa)(mg:Str->Option V')(base:Heap)(k:Nat)(f:γ)(fd:δ)(ps:List Str)(s:VSp):Prop where
 ok:Eo cm P w K mg base (CX1 P w) k f fd ps (Gh s)
 m:Bp s
abbrev VFn:=Gc true
section
variable{c:Vc}{X:Cx}{a e:Lr}{es:List Lr}{tr:VTB}{F F1:γ->Prop}{H H1:Hp}{σ:St}{ds ds1:Ds}{A A1 T:List γ}{pos p apos:Pos}{x qual m:Str}{st:Ls}{f C:γ}{fd:δ}{ps:List Str}{k:Nat}{s:VSp}{dvs:List V}{dv:Ds}
theorem Ak(D:Df X.K X.mg x qual st f fd ps)(G:Gc cm X.prog X.w X.K X.mg X.base k f fd ps s)(i:Lands X c.E)(j:Pe cm k X.A)(a:VAs c X (e::es) tr)(l:Gl X x:=by rfl)(d:N' x:=by decide)(n:Kw (e::es) X.env=(false,eval e X.env)::Kw es X.env:=by rfl)(g:(backTo pos (Kw es X.env)).any (·.1)=false:=by rfl):VE c X (.Call (.Name x p) (e::es) [] pos) (qj3 s [] tr):=⟨PE.mono (qaa9 G.ok j l D.m D.F.kp D.b .nil i.passes a.h d n g) (qaR5 qy0 G.m a),qao2 G.m a⟩
theorem qaR6{f:List Pl}{K:DK}(C:Ka dvs dv)(D:Bp s)(S:Pd c F H σ ds A)(x:Xc c xe F H A)(r1:O4 F1 H1 vs xs T)(w:Gb (σ++c.gv) vs f)(S1:Pd c F1 H1 σ ds1 A1)(g:Ok F1 H1 (T++A1))(z:Pc F H A F1 H1 (T++A1))(G:∀d j,K d j->∀v H' F' T A',Pa F' H' v d T->Pd c F' H' σ j A'->Ok F' H' (T++A')->Pc F H A F' H' (T++A')->Q v H')(q:s (xs++dv) (λd ys=>orF (Av f ys ds1) λa=>K d a) (λx ys=>orF (Av f ys ds1) λa=>xe x a)):Gh s (vs++dvs) H1 Q (c.E σ):=by
 have rall:=r1.append (C F1 H1);rw[zAe] at rall;refine⟨F1,xs++dv,T,rall,g.left,D _ _ _ _ _ (λd ys q v H2 F2 T2 A2 I l m k=>?_) (λy ys q e H2 F2 A2 J l m k=>?_) q⟩
 .obtain⟨a,n,q⟩:=qa7.mp q;have h:Ok F1 H1 (A1++T):=g.count λb=>by simp only[zA0];lia
  obtain⟨o,p⟩:=k.frame h S1.loc.cells m;have L1:=S1.loc.keep (k.kp g.left rall.cells) λb r i=>by have:=g.sep b;rw[zA0] at this;have:=qb6.mp r;lia
  obtain⟨A3,t,q2⟩:=qp8 w l L1 n;have i:∀b,(T2++A3).count b<=(A1++(T2++A2)).count b:=λb=>by simp only[zA0];have:=q2 b;lia
  have B:Ok F2 H2 (T2++A3):=o.count i;have u:=(z.trans (p.pre λb=>by simp only[zA0];lia)).count i;exact G d a q v H2 F2 T2 A3 I ⟨t,B.right,S.len,S.ag⟩ B u
 obtain⟨a,n,q⟩:=qa7.mp q;have h:Ok F1 H1 (A1++T):=g.count λb=>by simp only[zA0];lia
 obtain⟨o,p⟩:=k.frame h S1.loc.cells m;have L1:=S1.loc.keep (k.kp g.left rall.cells) λb r i=>by have:=g.sep b;rw[zA0] at this;have:=qb6.mp r;lia
 obtain⟨A3,t,q2⟩:=qp8 w l L1 n;have i:∀b,A3.count b<=(A1++A2).count b:=λb=>by simp only[zA0];have:=q2 b;lia
 have u:Pc F H A F2 H2 A3:=(z.trans (p.pre λb=>by simp only[zA0];lia)).count i;exact x y a σ e H2 F2 A3 q J ⟨t,(o.count i),S.len,S.ag⟩ u
def D.isM(C:γ)(m:Str):D->Bool|.ins _ C' fs=>decide (C'=C)&&(fs.lookup m).isNone|_=>false
theorem qA4{α β:Type}:∀{fs:List (Str×α)}{a:List (Str×β)}{f:Str},fs.map (·.1)=a.map (·.1)->(fs.lookup f).isNone=(a.lookup f).isNone
 |[],[],_,_=>rfl|[],_::_,_,h=>by simp at h|_::_,[],_,h=>by simp at h|(k,_)::r,(k',_)::r',f,h=>by
  have b:k=k':=by simp at h;exact h.1
  have c:r.map (·.1)=r'.map (·.1):=by simp at h;simpa using h.2
  subst b;rw[zAp,zAp];cases f==k with|true=>rfl|false=>exact qA4 c
theorem Pa.isM(r:Pa F H v d B)(h:d.isM C m=true):∃a dx fs,v=.ref a/\H a=some (.ins C dx fs)/\fs.lookup m=none:=by cases d with|ins z C' f=>have h:=zAl.mp h;obtain⟨a,dx,b,A,rfl,g,e,i,_⟩:=r.ins_inv;have:=zAn h.1;subst this;refine⟨a,dx,b,rfl,g,?_⟩;have c:=h.2;rw[<-qA4 e] at c;exact Option.isNone_iff_eq_none.mp c|_=>cases h
def qy6(C:γ)(m:Str)(s:VSp)(dv:Ds)(i:Nat)(tr:VTB):VT:=λds Q xe=>(orF (rdN i ds) λd=>d.isM C m=true)/\tr ds (λxs ps ds1=>orF (rdN i ds1) λd=>s (d::(xs++dv)) (λr ys=>orF (Av (.sl i::ps) ys (ds1.set i .u)) λa=>Q r a) (λx ys=>orF (Av (.sl i::ps) ys (ds1.set i .u)) λa=>xe x a)) xe
theorem qF0(f:Bp s)(g:VAs c X es tr):∀ds (Q Q':DK) (xe b:XKd),(∀d a,Q d a->Q' d a)->(∀x a,xe x a->b x a)->qy6 C m s dv i tr ds Q xe->qy6 C m s dv i tr ds Q' b:=λds Q Q' xe b h e=>N7 (g.m _ _ _ _ _ (λl n j=>qa5 λd=>f _ _ _ _ _ (λd k=>qa5 λz=>h _ _) (λx k=>qa5 λz=>e _ _)) e)
theorem qac0{σ:St}{H:Hp}(t:Ka dvs dv)(u:Bp s)(w:VAs c X es tr)(hi:i<σ.length)(q:Bf c (qy6 C m s dv i tr) σ H Q):Jn C m (Gh s) dvs c.E (F5 i) (Ff c tr) σ H Q:=by
 obtain⟨F,y,A,D,S,x,f,q⟩:=q;obtain⟨W,G,f⟩:=qa7.mp f;obtain⟨v,B0,e,I,_⟩:=S.name hi G;obtain⟨a,J,K,rfl,g,j⟩:=I.isM f;refine⟨.ref a,e,a,J,K,rfl,g,j,F,y,A,D,S,x,w.m _ _ _ _ _ (λY Z L q vs H2 F2 T2 A2 M N S2 r O=>?_) (λ_ _ z=>z) q⟩;obtain⟨d,k,q⟩:=qa7.mp q;obtain⟨k,l⟩:=qk2.mp k;obtain⟨v',B,C0,n,P,R,T⟩:=S2.put1 k (qC4 l);have o:=n;rw[zAq hi,e] at n;cases n;obtain⟨A3,U,q2⟩:=T .u [] (Kp.same λ_ _ z=>z) (λ_ _ z=>z) (.u _);have p:∀b,((B++T2)++A3).count b<=(T2++A2).count b:=λb=>by simp only[zA0,q2,R];simp;lia
 exact qaR6 t u S x (.cons P M) (.sl o N) ⟨U,(r.count p).right,S.len,S.ag⟩ (r.count p) (O.count p) (λd V h=>h) q
theorem qx9{pl:Sem Bool}(i:Nat){xn:Str}{p0:Pos}(D:Md X.K C m qual st f fd ps)(n:Cls X.K C)(G:Gc cm X.prog X.w X.K X.mg X.base k f fd ps s)(o:Lands X c.E)(p:Pe cm k X.A)(a:VAs c X (e::es) tr)(l:X.N[i]?=some xn:=by rfl)(r:Vis X.env.scope xn:=by first|exact O1 rfl|exact O0 (O1 rfl)|exact O0 (O0 rfl))(t:N' xn:=by decide)(d:(xn==("__classdict__" : Str))=false:=by decide)(g:Kw (e::es) X.env=(false,eval e X.env)::Kw es X.env:=by rfl)(j:(backTo pos (Kw es X.env)).any (·.1)=false:=by rfl)(u:eval (.Call (.Attribute (.Name xn p0) m apos) (e::es) [] pos) X.env=(do
     let ov<-eval (.Name xn p0) X.env
     standAt apos.atName
     let (f,first)<-holding [ov] (getMethod ov m pl)
     callWith pos f first (backTo pos (Kw (e::es) X.env)) (backToKw pos (Lc [] X.env))):=by rfl):VE c X (.Call (.Attribute (.Name xn p0) m apos) (e::es) [] pos) (qy6 C m s [] i tr):=⟨λE6 s σ H Q I q=>qaK5 (ql3 l r t d) n D.me G.ok p D.b .nil o.passes a.h g j u E6 s σ H Q I (qac0 qy0 G.m a (qk9 l E6 σ H s I) q),qF0 G.m a⟩
theorem qG6{pl:Sem Bool}(i:Nat){xn:Str}{p0:Pos}(D:Md X.K C m qual st f fd ps)(j:Cls X.K C)(G:Gc cm X.prog X.w X.K X.mg X.base k f fd ps s)(l:Lands X c.E)(n:Pe cm k X.A)(g:X.N[i]?=some xn:=by rfl)(d:Vis X.env.scope xn:=by first|exact O1 rfl|exact O0 (O1 rfl)|exact O0 (O0 rfl))(o:N' xn:=by decide)(e:(xn==("__classdict__" : Str))=false:=by decide)(p:eval (.Call (.Attribute (.Name xn p0) m apos) [] [] pos) X.env=(do
     let ov<-eval (.Name xn p0) X.env
     standAt apos.atName
     let (f,first)<-holding [ov] (getMethod ov m pl)
     callWith pos f first (backTo pos (Kw [] X.env)) (backToKw pos (Lc [] X.env))):=by rfl):VE c X (.Call (.Attribute (.Name xn p0) m apos) [] [] pos) (qy6 C m s [] i A7):=⟨λE6 h σ H Q I q=>qax8 (ql3 g d o e) j D.me G.ok n D.b .nil l.passes p E6 h σ H Q I (by
   obtain⟨v,d,a,r,t,u,x,y,F2,z,A2,B,S2,F,q2⟩:=qac0 (X:=X) qy0 G.m Ac (qk9 g E6 σ H h I) q;exact⟨v,d,a,r,t,u,x,y,q2 [] H F2 [] A2 .nil .nil S2 S2.ok Pc.refl⟩),qF0 (c:=c) G.m (X:=X) Ac⟩
def qT3(C:γ)(s:VSp)(dv:Ds)(tr:VTB):VT:=λds Q xe=>tr ds (λxs ps ds1=>s (.ins false C []::(xs++dv)) (λd ys=>d.isN=some true/\orF ys.head? λself=>orF (Av ps ys.tail ds1) λa=>Q self a) (λx ys=>orF (Av ps ys.tail ds1) λa=>xe x a)) xe
theorem qP7(f:Bp s)(g:VAs c X es tr):∀ds (Q Q':DK) (xe b:XKd),(∀d a,Q d a->Q' d a)->(∀x a,xe x a->b x a)->qT3 C s dv tr ds Q xe->qT3 C s dv tr ds Q' b:=λds Q Q' xe b h e=>g.m _ _ _ _ _ (λk l i=>f _ _ _ _ _ (λd j=>N7 (qa5 λz=>qa5 λw=>h _ _)) (λx j=>qa5 λz=>e _ _)) e
theorem qar7(N:Ka dvs dv)(O:Bp s)(P:VAs c X es tr):∀σ H Q,Bf c (qT3 C s dv tr) σ H Q->tMake C (Gh s) dvs c.E (Ff c tr) σ H Q:=by
 rintro σ H Q ⟨F,R,A,U,S,x,q⟩;refine⟨F,R,A,U,S,x,P.m _ _ _ _ _ (λV ps h q W H1 F1 T A1 K L S1 Y Z=>?_) (λ_ _ z=>z) q⟩;intro y dy n o p;have same:Same H1 (upd (upd H1 dy (.own y)) y (.ins C dy [])):=(Same.new o).trans (Same.new (by rw[qb4 (Ne.symm p)];exact n));have rall:O4 F1 (upd (upd H1 dy (.own y)) y (.ins C dy [])) (.ref y::(W++dvs)) (.ins false C []::(V++dv)) ([y]++(T++[])) :=
  .cons (.ins qb3 rfl .nil) ((K.append (N F1 H1)).same same)
 rw[zAe] at rall;have i:=(qe8 n).ok Y (λb a=>by rcases zAd.mp a with a|a;{exact K.cells b a};exact S1.loc.cells b a) same;have r:Ok F1 (upd (upd H1 dy (.own y)) y (.ins C dy [])) ([y]++T):=i.count λb=>by simp only[zA0];lia
 have M:=Z.trans ((qe8 n).stp same);have S1':=S1.same same;refine⟨F1,_,[y]++T,rall,r,O _ _ _ _ _ (λd ys q v H2 F2 T2 A2 r2 t u j=>?_) (λex ys q e H2 F2 A2 rx t u j=>?_) q⟩
 .obtain⟨hn,q⟩:=q;have hv:v=.non:=by cases d with|non=>cases r2;rfl|_=>cases hn
  refine⟨hv,?_⟩;obtain⟨self,eh,q⟩:=qa7.mp q;obtain⟨k,w,B⟩:=qa7.mp q;have g:Ok F1 _ (A1++([y]++T)):=i.count λb=>by simp only[zA0];lia
  obtain⟨D,G⟩:=j.frame g S1'.loc.cells u;have L1:Locs F2 H2 (σ++c.gv) h A1:=S1'.loc.keep (j.kp r rall.cells) λb a f=>by have:=i.sep b;simp only[zA0] at this f;have:=qb6.mp a;lia
  cases t with
  |@cons _ d0 Aself _ ys' B' rself rrest=>
   cases eh;obtain⟨A3,I,q2⟩:=qp8 L rrest L1 w;have f:∀b,(Aself++A3).count b<=(A1++(T2++(Aself++B'))).count b:=λb=>by simp only[zA0];have:=q2 b;lia
   have l:=D.count f;have J:Pc F H A F2 H2 (Aself++A3):=(M.trans (G.pre λb=>by simp only[zA0];lia)).count f;exact B (.ref y) H2 F2 Aself A3 rself ⟨I,l.right,S.len,S.ag⟩ l J
 obtain⟨k,w,B⟩:=qa7.mp q;have g:Ok F1 _ (A1++([y]++T)):=i.count λb=>by simp only[zA0];lia
 obtain⟨D,G⟩:=j.frame g S1'.loc.cells u;have L1:Locs F2 H2 (σ++c.gv) h A1:=S1'.loc.keep (j.kp r rall.cells) λb a f=>by have:=i.sep b;simp only[zA0] at this f;have:=qb6.mp a;lia
 cases t with
 |@cons _ d0 Aself _ ys' B' rself rrest=>
  obtain⟨A3,I,q2⟩:=qp8 L rrest L1 w;have f:∀b,A3.count b<=(A1++(Aself++B')).count b:=λb=>by simp only[zA0];have:=q2 b;lia
  have l:=D.count f;have J:Pc F H A F2 H2 A3:=(M.trans (G.pre λb=>by simp only[zA0];lia)).count f;exact x ex k σ e H2 F2 A3 B rx ⟨I,l,S.len,S.ag⟩ J
theorem emake(i:Cl X.K X.mg x C)(M:Mk X.K C f)(D:Md X.K C m qual st f fd ps)(G:Gc cm X.prog X.w X.K X.mg X.base k f fd ps s)(j:Lands X c.E)(l:Pe cm (k+1) X.A)(a:VAs c X (e::es) tr)(n:Gl X x:=by rfl)(d:N' x:=by decide)(o:Kw (e::es) X.env=(false,eval e X.env)::Kw es X.env:=by rfl)(g:(backTo pos (Kw es X.env)).any (·.1)=false:=by rfl):VE c X (.Call (.Name x p) (e::es) [] pos) (qT3 C s [] tr):=⟨PE.mono (qar0 M G.ok l n i.m D.b .nil j.passes a.h d o g) (qar7 qy0 G.m a),qP7 G.m a⟩
def tLstV(tr:VTB):VT:=λds Q xe=>tr ds (λxs ps ds1=>xs.length<=big/\Q (.l false xs) ds1) xe
def tTupV(tr:VTB):VT:=λds Q xe=>tr ds (λxs ps ds1=>xs.length<=big/\Q (.q xs) ds1) xe
theorem Kb(d:VAs c X es tr):VE c X (.List es pos) (tLstV tr):=by refine⟨PE.mono (qax9 d.h) λσ H Q e=>?_,λj Q Q' k l n o=>d.m _ _ _ _ _ (λp r f=>N7 (n _ _)) o⟩;obtain⟨F,j,A,k,S,x,q⟩:=e;refine⟨F,j,A,k,S,x,d.m _ _ _ _ _ (λp r f q s H1 F1 T A1 g B S1 t v=>⟨by rw[g.len];exact zAg q.1 qi7,λy i=>?_⟩) (λ_ _ z=>z) q⟩;have same:=Same.new (u:=.l s) i;have w:=(qe8 i).ok t (λb a=>by rcases zAd.mp a with a|a;{exact g.cells b a};exact S1.loc.cells b a) same;exact q.2 (.ref y) _ F1 (y::T) A1 (.l qb3 (g.same same)) (S1.same same) w (v.trans ((qe8 i).stp same))
theorem Ft(a:VAs c X es tr):VE c X (.Tuple es n pos) (tTupV tr):=by refine⟨PE.mono (qaK1 a.h) λσ H Q b=>?_,λe Q Q' f j k l=>a.m _ _ _ _ _ (λo p d=>N7 (k _ _)) l⟩;obtain⟨F,e,A,f,S,x,q⟩:=b;refine⟨F,e,A,f,S,x,a.m _ _ _ _ _ (λo p d q r H1 F1 T A1 g v S1 s t=>⟨by rw[g.len];exact zAg q.1 qi7,λy i=>?_⟩) (λ_ _ z=>z) q⟩;have same:=Same.new (u:=.q r) i;exact q.2 (.ref y) _ F1 T A1 (qE8 i g) (S1.same same) (s.same same) (t.trans (.same same))
end
structure VEnds where
 nx:Ds->Prop
 rt:DK
 bk:Ds->Prop
 ct:Ds->Prop
 xe:XKd
abbrev VTS:=VEnds->Ds->Prop
structure VEnds.Le(e e':VEnds):Prop where
 nx:∀ds,e.nx ds->e'.nx ds
 rt:∀d ds,e.rt d ds->e'.rt d ds
 bk:∀ds,e.bk ds->e'.bk ds
 ct:∀ds,e.ct ds->e'.ct ds
 xe:∀x ds,e.xe x ds->e'.xe x ds
structure Lk(c:Vc)(E:Bs)(F:γ->Prop)(H:Hp)(A:List γ)(e:VEnds):Prop where
 nx:∀ds' a' H' F' A',e.nx ds'->Pd c F' H' a' ds' A'->Pc F H A F' H' A'->E.nx a' H'
 rt:∀d ds' v a' H' F' T A',e.rt d ds'->Pa F' H' v d T->Pd c F' H' a' ds' A'->Ok F' H' (T++A')->Pc F H A F' H' (T++A')->E.rt v H'
 bk:∀ds' a' H' F' A',e.bk ds'->Pd c F' H' a' ds' A'->Pc F H A F' H' A'->E.bk a' H'
 ct:∀ds' a' H' F' A',e.ct ds'->Pd c F' H' a' ds' A'->Pc F H A F' H' A'->E.ct a' H'
 xe:Xc c e.xe F H A
theorem Lk.step(l:Lk c E F H A e)(s:Pc F H A F1 H1 A1):Lk c E F1 H1 A1 e:=⟨λa b' H' F' A' h S t=>l.nx a b' H' F' A' h S (s.trans t),λd a v b' H' F' T A' h r S o t=>l.rt d a v b' H' F' T A' h r S o (s.trans t),λa b' H' F' A' h S t=>l.bk a b' H' F' A' h S (s.trans t),λa b' H' F' A' h S t=>l.ct a b' H' F' A' h S (s.trans t),l.xe.step s⟩
inductive LiftS(c:Vc)(t:VTS)(E:Bs)(a:St)(H:Hp):Prop
 |mk (F:γ->Prop) (ds:Ds) (A:List γ) (e:VEnds) (S:Pd c F H a ds A) (l:Lk c E F H A e) (q:t e ds):LiftS c t E a H
def Ew(c:Vc)(t:VTS):TS:=LiftS c t
structure VS(c:Vc)(X:Cx)(st:Ls)(t:VTS):Prop where
 h:PS X st (Ew c t)
 m:∀(e e':VEnds) ds,e.Le e'->t e ds->t e' ds
structure VSs(c:Vc)(X:Cx)(st:List Ls)(t:VTS):Prop where
 h:PSs X st (Ew c t)
 m:∀(e e':VEnds) ds,e.Le e'->t e ds->t e' ds
section
variable{c:Vc}{X:Cx}{a b e:Lr}{G:Ls}{rest:List Ls}{t u:VTS}{te:VT}{pos:Pos}
def G0:VTS:=λe ds=>e.nx ds
def Gd(t u:VTS):VTS:=λe ds=>t {e with nx:=u e} ds
theorem Au:VSs c X [] G0:=⟨PSs.mono qaJ0 λE C H ⟨F,a,A,e,S,l,q⟩=>l.nx a C H F A q S Pc.refl,λe b a h=>h.nx a⟩
theorem Aa(h1:VS c X G t)(h2:VSs c X rest u):VSs c X (G::rest) (Gd t u):=by exact⟨PSs.mono (qaa2 h1.h h2.h) λE C H ⟨F,a,A,e,S,l,q⟩=>(⟨F,a,A,{e with nx:=u e},S,⟨λb C' H' F' A' q S' s=>⟨F',b,A',e,S',l.step s,q⟩,l.rt,l.bk,l.ct,l.xe⟩,q⟩),λe d a h=>h1.m _ _ _ ⟨λa=>h2.m _ _ _ h,h.rt,h.bk,h.ct,h.xe⟩⟩
theorem Aj(h1:VS c X G t):VSs c X [G] t:=⟨qaa1 h1.h,h1.m⟩
def sRet(te:VT):VTS:=λe ds=>te ds e.rt e.xe
theorem As(h:VE c X e te):VS c X (.Return (some e) pos) (sRet te):=by refine⟨PS.mono (qaJ2 h.h) λE C H ⟨F,b,A,e,S,l,q⟩=>⟨F,b,A,e.xe,S,l.xe,h.m _ _ _ _ _ (λd a q v H' F' T A' r S' o s=>l.rt d a v C H' F' T A' q r S' o s) (λ_ _ z=>z) q⟩,λe g b f=>h.m _ _ _ _ _ f.rt f.xe⟩
def Kc(te:VT):VTS:=λe ds=>te ds (λ_ a=>e.nx a) e.xe
theorem Ej(h:VE c X e te)(i:swapsWith e none pos.line X.env=pure false:=by rfl):VS c X (.Expr e pos) (Kc te):=by refine⟨PS.mono (qaJ3 h.h i) λE C H ⟨F,f,A,e,S,l,q⟩=>⟨F,f,A,e.xe,S,l.xe,h.m _ _ _ _ _ (λd a q v H' F' T A' r S' o s=>l.nx a C H' F' A' q S' (s.count λb=>by rw[zA0];lia)) (λ_ _ z=>z) q⟩,λe j f g=>h.m _ _ _ _ _ (λ_=>g.nx) g.xe⟩
def sIf(qc:VTT)(t u:VTS):VTS:=λe ds=>qc ds (λk a=>if k=true then t e a else u e a) e.xe
theorem sif(b:VTe c X cd qc)(g:VSs c X x t)(i:VSs c X y u):VS c X (.If cd x y pos) (sIf qc t u):=by refine⟨PS.mono (ps_if b.h g.h i.h) λE C H d=>?_,λe n j f=>b.m _ _ _ _ _ (λk a=>qx5 (g.m _ _ _ f) (i.m _ _ _ f)) f.xe⟩;obtain⟨F,j,A,e,S,l,q⟩:=d;refine⟨F,j,A,e.xe,S,l.xe,b.m _ _ _ _ _ (λk a q H' F' A' S' s=>?_) (λ_ _ z=>z) q⟩;cases k with|true=>rw[if_pos rfl] at q ⊢;exact⟨F',a,A',e,S',l.step s,q⟩|false=>rw[if_neg ∅] at q ⊢;exact⟨F',a,A',e,S',l.step s,q⟩
def qaU5:VTS:=λe ds=>e.bk ds
theorem qaU1:VS c X (.Break pos) qaU5:=⟨PS.mono qax2 λE C H ⟨F,a,A,e,S,l,q⟩=>l.bk a C H F A q S Pc.refl,λe b a h=>h.bk a⟩
def qaU3:VTS:=λ_ _=>False
theorem qaT6:VS c X G qaU3:=⟨λ_ _ _ _ _ _ ⟨_,_,_,_,_,_,q⟩=>q.elim,λ_ _ _ _ q=>q.elim⟩
abbrev VTG:=D->Ds->(Ds->Prop)->Prop
inductive LiftG(c:Vc)(g:VTG)(v:V)(C:St)(H:Hp)(Q:St->Hp->Prop):Prop
 |mk (F:γ->Prop) (ds:Ds) (A T:List γ) (d:D) (r:Pa F H v d T) (S:Pd c F H C ds A) (o:Ok F H (T++A)) (q:g d ds (λds'=>∀C' H' F' A',Pd c F' H' C' ds' A'->Pc F H (T++A) F' H' A'->Q C' H')):LiftG c g v C H Q
def Fv(c:Vc)(g:VTG):TG:=LiftG c g
structure VG(c:Vc)(X:Cx)(e:Lr)(g:VTG):Prop where
 h:PG X e (Fv c g)
 m:∀d ds (Q Q':Ds->Prop),(∀ds',Q ds'->Q' ds')->g d ds Q->g d ds Q'
theorem PG.mono(h:PG X e g)(i:∀v C H Q,g' v C H Q->g v C H Q):PG X e g':=λE6 s C H v u Q I r q=>h E6 s C H v u Q I r (i v C H Q q)
theorem Pd.store(S:Pd c F H C ds A)(m:c.W i=false)(hi:i<C.length)(r:Pa F H v d T)(o:Ok F H (T++A)):∃A',Pd c F H (C.set i (some v)) (ds.set i d) A'/\Pc F H (T++A) F H A':=by
 have n:=S.loc.len;rw[zAf] at n;obtain⟨σ1,x,σ2,e,f,A1,B,A2,p,e2,q,s,t,u,y,w⟩:=S.loc.split (i:=i) (d:=ds[i]'⋯) (by simp);have hσ:C.set i (some v)++c.gv=σ1++some v::σ2:=by rw[<-Mr _ _ hi,p,qo1 q]
 have g:ds.set i d=e++d::f:=by have:=congrArg (λl=>l.set i d) e2;rw[this,qo1 s]
 have a:∀b,(A1++(T++A2)).count b<=(T++A).count b:=λb=>by rw[t];simp only[zA0];lia
 refine⟨A1++(T++A2),⟨by rw[hσ,g];exact u.append (.so r w),o.count a,?_,λj h=>?_⟩,Pc.refl.count a⟩;{rw[S.len,zAf,zAf,zC3]};have k:i≠j:=λz=>by subst z;rw[m] at h;cases h
 rw[<-S.ag j h,<-Mr _ _ hi,zB6 k]
def gNm(i:Nat):VTG:=λd ds Q=>Q (ds.set i d)
theorem Ax(i:Nat)(b:X.N.Nodup)(e:c.W i=false:=by rfl)(hi:X.N[i]?=some x:=by rfl)(f:Loc X.env.scope x:=by first|exact O1 rfl|exact O0 rfl)(g:X.fn x=true∨X.env.scope.names.lookup x=some .local:=by first|exact .inl rfl|exact .inr rfl|assumption):VG c X (.Name x pos) (gNm i):=by refine⟨λE6 s C H v h Q I j a=>?_,λd k Q Q' l=>l _⟩;obtain⟨F,k,A,T,d,r,S,o,q⟩:=a;refine qaq9 b hi f g E6 s C H v h Q I j ?_;obtain⟨A',S',m⟩:=S.store e (qk9 hi E6 C H s I) r o;exact q _ H F A' S' m
def Em(te:VT)(g:VTG):VTS:=λe ds=>te ds (λd a=>g d a e.nx) e.xe
theorem qbc4(h:VE c X e te)(f:VG c X tg g):∀E C H,Ew c (Em te g) E C H->Iz (Bf c te) (Fv c g) E C H:=by rintro E C H ⟨F,i,A,j,S,l,q⟩;exact⟨F,i,A,j.xe,S,l.xe,h.m _ _ _ _ _ (λd a q v H' F' T A' r S' o s=>(⟨F',a,A',T,d,r,S',o,f.m _ _ _ _ (λb q σ2 H2 F2 A2 S2 k=>l.nx b σ2 H2 F2 A2 q S2 (s.trans k)) q⟩)) (λ_ _ z=>z) q⟩
theorem qag5(h:VE c X e te)(f:VG c X tg g):∀(en a:VEnds) ds,en.Le a->Em te g en ds->Em te g a ds:=λen a ds b=>h.m _ _ _ _ _ (λd i=>f.m _ _ _ _ b.nx) b.xe
theorem E9(h:VE c X e te)(a:VG c X tg g)(b:swapsWithSole [tg] e pos.line X.env=pure false:=by rfl)(d:swappedStores [tg] e X.env=pure none:=by rfl)(h1:(Li [tg] X.env).map (·.2)=[assign tg X.env]:=by rfl):VS c X (.Assign [tg] e pos) (Em te g):=⟨PS.mono (qaV2 h.h a.h b d h1) (qbc4 h a),qag5 h a⟩
theorem Al(i:Nat)(a:X.N.Nodup)(h:VE c X e te)(b:c.W i=false:=by rfl)(hi:X.N[i]?=some x:=by rfl)(f:Loc X.env.scope x:=by first|exact O1 rfl|exact O0 rfl)(j:swapsWith e (some (.Name x pos')) pos.line X.env=pure false:=by rfl)(g:X.fn x=true∨X.env.scope.names.lookup x=some .local:=by first|exact .inl rfl|exact .inr rfl|assumption):VS c X (.Assign [.Name x pos'] e pos) (Em te (gNm i)):=by have k:VG c X (.Name x pos') (gNm i):=Ax i a b hi f g;refine⟨λE6 s C H E I q=>qaJ1 a hi f h.h j g E6 s C H E I ?_,qag5 h k⟩;obtain⟨F,n,A,p,S,l,q⟩:=q;refine⟨F,n,A,p.xe,S,l.xe,h.m _ _ _ _ _ (λd t q v H' F' T A' r S' o u=>?_) (λ_ _ z=>z) q⟩;obtain⟨A2,S2,w⟩:=S'.store b (qk9 hi E6 C H s I) r o;exact l.nx _ _ H' F' A2 q S2 (u.trans w)
abbrev G1:=Ds->Ds->(Ds->Prop)->Prop
inductive qaS6(c:Vc)(g:G1)(vs:List V)(C:St)(H:Hp)(Q:St->Hp->Prop):Prop
 |mk (F:γ->Prop) (ds:Ds) (A T:List γ) (xs:Ds) (r:O4 F H vs xs T) (S:Pd c F H C ds A) (o:Ok F H (T++A)) (q:g xs ds (λds'=>∀C' H' F' A',Pd c F' H' C' ds' A'->Pc F H (T++A) F' H' A'->Q C' H')):qaS6 c g vs C H Q
def qaY9(c:Vc)(g:G1):TGs:=qaS6 c g
structure VGs(c:Vc)(X:Cx)(es:List Lr)(g:G1):Prop where
 h:PGs X es (qaY9 c g)
 m:∀xs ds (Q Q':Ds->Prop),(∀ds',Q ds'->Q' ds')->g xs ds Q->g xs ds Q'
theorem PGs.mono(h:PGs X es g)(i:∀v C H Q,g' v C H Q->g v C H Q):PGs X es g':=λE6 s C H v u Q I r q=>h E6 s C H v u Q I r (i v C H Q q)
def Gi:G1:=λxs ds Q=>match xs with | []=>Q ds|_=>False
def qp4(g:VTG)(b:G1):G1:=λxs ds Q=>match xs with|x::r=>g x ds λa=>b r a Q | []=>False
theorem Bq:VGs c X [] Gi:=by refine⟨PGs.mono qaJ9 λf C H Q a=>?_,λb d Q Q' e q=>by cases b with|nil=>exact e _ q|cons _ _=>exact q.elim⟩;obtain⟨F,d,A,T,b,r,S,o,q⟩:=a;cases b with|nil=>cases r;exact⟨rfl,q C H F A S Pc.refl⟩|cons _ _=>exact q.elim
theorem qc8{j:G1}(h1:VG c X tg g)(h2:VGs c X es j)(p:(Li (tg::es) X.env).map (·.2)=assign tg X.env::(Li es X.env).map (·.2):=by rfl):VGs c X (tg::es) (qp4 g j):=by
 refine⟨PGs.mono (qax7 h1.h h2.h p) λk C H Q ⟨F,l,A,T,d,r,S,o,q⟩=>?_,λd l Q Q' s q=>by cases d with|nil=>exact q.elim|cons x r=>exact h1.m _ _ _ _ (λt=>h2.m _ _ _ _ s) q⟩;cases d with
 |nil=>exact q.elim|cons x d=>
  cases r with
  |@cons v _ T1 k _ T2 r1 rt=>
   refine⟨v,k,rfl,F,l,A,T1,x,r1,S,o.count λb=>by simp only[zA0];lia,h1.m _ _ _ _ (λe q σ1 H1 F1 A1 S1 n=>?_) q⟩;have f:Ok F H (T2++(T1++A)):=o.count λb=>by simp only[zA0];lia
   obtain⟨u,w⟩:=n.frame f rt.cells S1.ok;have i:=rt.keep (n.kp (f.right) λb a=>by
    rcases zAd.mp a with a|a;{exact r1.cells b a};exact S.loc.cells b a) λb a B=>by
    have:=f.sep b;grind
   exact⟨F1,e,A1,T2,d,i,S1,u,h2.m _ _ _ _ (λy q σ2 H2 F2 A2 S2 z=>q σ2 H2 F2 A2 S2 ((w.pre λb=>by simp only[zA0];lia).trans z)) q⟩
def Gj(n:Nat)(a:G1):VTG:=λd ds Q=>match d with | .q xs=>xs.length=n/\a xs ds Q|_=>False
theorem Br{e:G1}(j:X.calm=true)(h:VGs c X es e)(l:(Li es X.env).length=n:=by rfl)(b:(Li es X.env).findIdx? (·.1)=none:=by rfl):VG c X (.Tuple es k pos) (Gj n e):=by refine⟨PG.mono (qaV7 j h.h l b) λv C H Q ⟨F,f,A,T,d,r,S,o,q⟩=>?_,λd f Q Q' p q=>by cases d with|q g=>exact⟨q.1,h.m _ _ _ _ p q.2⟩|_=>exact q.elim⟩;cases d with|q g=>obtain⟨a,s,rfl,t,i⟩:=r.tup_inv;exact⟨a,s,rfl,.inl (.inl t),by rw[i.len];exact q.1,F,f,A,T,g,i,S,o,q.2⟩|_=>exact q.elim
end
section
variable{c:Vc}{F:γ->Prop}{H:Hp}{X:St}{ds:Ds}{A T:List γ}
theorem qH4(h:H a=some o)(hm:Et o=true)(c:¬F a):Kp F H (λb=>b=a) F (upd H a o'):=⟨λb u e w=>by rw[qb4 w];exact e,λb w=>by subst w;exact⟨o,h,hm⟩,λb w=>by subst w;exact c,λ_ f=>f⟩
theorem O4.setAt(r:O4 F H vs ys Ael)(s:n<ys.length)(e:Pa F H v d Tv):∃B,O4 F H (vs.set n v) (ys.set n d) B/\∀b,B.count b<=Ael.count b+Tv.count b:=by
 obtain⟨f,w,g,a,c,A1,B,A2,h,e2,j,k,m,o,t,p⟩:=r.split (i:=n) (d:=ys[n]) (by simp);have q:ys.set n d=a++d::c:=by have:=congrArg (λl=>l.set n d) e2;rw[this,qo1 k]
 rw[h,qo1 j,q];exact⟨A1++(Tv++A2),o.append (.cons e p),λb=>by rw[m];simp only[zA0];lia⟩
theorem qF1(r:Pa F H v (.l false ys) B):∃a vs Ael,v=.ref a/\H a=some (.l vs)/\O4 F H vs ys Ael/\B=a::Ael:=by cases r with|l h r=>exact⟨_,_,_,rfl,h,r,rfl⟩
theorem qh8(S:Pd c F H X ds A)(h:Bb ds i p=some (.l false ys))(J:(X++c.gv)[i]?=some (some u))(K:Pg H u p w):∃(a:γ)(vs:List V)(Ael:List γ),w=.ref a/\H a=some (.l vs)/\O4 F H vs ys Ael/\∀(g:List V)(l:List D)(B' R T:List γ),Ok F H (T++A)->O4 F H g l B'->(∀b,B'.count b+R.count b<=Ael.count b+T.count b)->(∃A',Pd c F (upd H a (.l g)) X (By ds i p (.l false l)) A'/\Ok F (upd H a (.l g)) (R++A')/\Pc F H (T++A) F (upd H a (.l g)) (R++A'))/\∀v d,Pa F H v d R->Pa F (upd H a (.l g)) v d R:=by
 obtain⟨B,C,r,L,M⟩:=S.place h (by intro z;cases z) J K;obtain⟨a,vs,Ael,rfl,y,N,rfl⟩:=qF1 r;refine⟨a,vs,Ael,rfl,y,N,λg l B' R T m O E=>?_⟩;have n:∀b,A.count b=(if b=a then 1 else 0)+Ael.count b+C.count b:=λb=>by rw[L,zAv];grind
 have s:=n a;rw[if_pos rfl] at s;have sa:=m.sep a;rw[zA0] at sa;have P:=E a;have G:¬F a:=λf=>by have:=m.fro a f;rw[zA0] at this;lia
 have k:=qH4 (F:=F) (o':=.l g) y rfl G;have rep':Pa F (upd H a (.l g)) (.ref a) (.l false l) (a::B'):=.l qb3 (O.keep k λb q w=>by subst w;have:=qb6.mp q;lia);obtain⟨A',Q,q2⟩:=M _ _ k (λb q w=>by subst w;have:=qb6.mp q;lia) rep';have t:∀b,A'.count b=(if b=a then 1 else 0)+B'.count b+C.count b:=λb=>by grind
 have j:∀b,(R++A').count b<=(T++A).count b:=λb=>by rw[zA0,zA0,t,n];have:=E b;lia
 have U:∀b,F b->∃o,upd H a (.l g) b=some o:=λb f=>by obtain⟨x,e⟩:=m.ex b f;exact⟨x,by rw[qb4 (show b≠a from λw=>G (w ▸ f))];exact e⟩
 have I:Ok F (upd H a (.l g)) (R++A'):=⟨λb=>zAg (j b) (m.sep b),λb f=>by have:=m.fro b f;have:=j b;lia,U⟩;refine⟨⟨A',⟨Q,I.right,S.len,S.ag⟩,I,λb u e z=>?_,λb u e z=>by have:=j b;lia,λ_ f=>f,λ_ _ _ _ f=>f⟩,λv d W=>W.keep k λb q w=>by subst w;have:=qb6.mp q;lia⟩;rw[qb4 λw=>?_];{exact e};grind
def Hn(r:V->List V->Hp->VK->Prop)(g:Ds->Ds->Option (Ds×D)):Prop:=∀F H a vs ys Ael f xs T c d (Q:VK),H a=some (.l vs)->O4 F H vs ys Ael->O4 F H f xs T->g ys xs=some (c,d)->(∀e v B' R,O4 F H e c B'->Pa F H v d R->(∀b,B'.count b+R.count b<=Ael.count b+T.count b)->Q v (upd H a (.l e)))->r (.ref a) f H Q
def gApp(ys xs:Ds):Option (Ds×D):=match xs with|[x]=>if ys.length<big then some (ys++[x],.non) else none|_=>none
theorem qE9:Hn qaq2 gApp:=by intro F H a i c Ael m j T e d Q k r l h q;match j,h with|[x],h=>obtain⟨w,rfl,f⟩:=l.one_inv;have h:(if c.length<big then some (c++[x],D.non) else none)=some (e,d):=h;by_cases g:c.length<big;{rw[if_pos g] at h;cases h;refine⟨a,i,w,rfl,rfl,k,by rw[r.len];exact zAc g qi7,?_⟩;exact q _ .non (Ael++(T++[])) [] (r.append (.cons f .nil)) .non λb=>by simp[zA0]};rw[if_neg g] at h;cases h
noncomputable def gPop(ys xs:Ds):Option (Ds×D):=match xs with|[]=>(ys[ys.length-1]?).map λd=>(ys.dropLast,d)|_=>none
theorem O4.last(r:O4 F H vs ys Ael)(h:ys[ys.length-1]?=some d):∃v B R,vs[vs.length-1]?=some v/\O4 F H vs.dropLast ys.dropLast B/\Pa F H v d R/\∀b,B.count b+R.count b<=Ael.count b:=by
 obtain⟨e,v,f,g,a,A1,B,A2,c,e2,o,i,j,k,l,m⟩:=r.split h;have n:a=[]:=by have:=congrArg Mf e2;rw[zAf,zAj,i] at this;cases a with|nil=>rfl|cons _ _=>simp at this;lia
 subst n;cases m;refine⟨v,A1,B,?_,?_,l,λb=>by rw[j];simp only[zA0,Nl];lia⟩;{rw[c];simp};rw[c,e2,M7,M7];exact k
theorem qaY2:Hn rPop gPop:=by intro F H a c s Ael t f T g d Q i r j h q;match f,h with|[],h=>cases j;obtain⟨e,k,l⟩:=zA8.mp h;cases l;obtain⟨v,B,R,m,n,o,p⟩:=r.last k;exact⟨a,c,v,rfl,rfl,i,m,q _ v B R n o λb=>by have:=p b;lia⟩
end
section
variable{c:Vc}{X:Cx}{a b e o:Lr}{pf:PF}{tr:VTB}{es:List Lr}{r:V->List V->Hp->VK->Prop}{g:Ds->Ds->Option (Ds×D)}
noncomputable def D.own:D->Option Ds|.l false ys=>some ys|_=>none
theorem qK6{d:D}(h:d.own=some ys):d=.l false ys:=by cases d with|l z a=>(cases z with|false=>cases h;rfl|true=>cases h)|_=>cases h
def Fg(g:Ds->Ds->Option (Ds×D))(i:Nat)(tr:VTB):VT:=λds Q xe=>((rdN i ds).bind D.own).isSome=true/\tr ds (λxs _ ds1=>orF ((rdN i ds1).bind D.own) λys=>orF (g ys xs) λz=>Q z.2 (ds1.set i (.l false z.1))) xe
theorem qs6(h:ds[i]?=some d):Bb ds i []=some d:=by unfold Bb;rw[h];rfl
theorem qv4(h:ds[i]?=some d):By ds i [] x=ds.set i x:=by unfold By;rw[h];rfl
theorem qar4(s:T="list")(hm:Hn r g)(t:VAs c X es tr)(hi:i<σ.length)(q:Bf c (Fg g i tr) σ H Q):tBM X.K T r (F5 i) (Ff c tr) σ H Q:=by
 subst s;obtain⟨F,u,A,w,S,x,y,q⟩:=q;obtain⟨B,b⟩:=zB5.mp y;obtain⟨d0,C,f⟩:=zA1.mp b;cases qK6 f;obtain⟨v,B0,o,D,_⟩:=S.name hi C;obtain⟨a,h,A0,rfl,j,_,_⟩:=D.lst_inv;refine⟨.ref a,o,.inl ⟨rfl,h,.inl (.inl j)⟩,F,u,A,w,S,x,t.m _ _ _ _ _ (λE ps G q I H1 F1 T A1 J pk S1 L M=>?_) (λ_ _ z=>z) q⟩;obtain⟨N,O,q⟩:=qa7.mp q;obtain⟨d1,e2,P⟩:=zA1.mp O;cases qK6 P;obtain⟨⟨e,d⟩,U,q⟩:=qa7.mp q;obtain⟨p,hk⟩:=qk2.mp e2;have V:(σ++c.gv)[i]?=some (some (.ref a)):=by rw[zAq hi];exact o
 obtain⟨a2,k,Ael,W,l,Y,wr⟩:=qh8 S1 (qs6 p) V rfl;cases W;refine hm F1 H1 a k N Ael I E T e d Q l Y J U λn v B' R Z h2 h3=>?_;obtain⟨⟨A',S2,o2,s2⟩,kr⟩:=wr n e B' R T L Z h3;rw[qv4 p] at S2;exact q v _ F1 R A' (kr v d h2) S2 o2 (M.trans s2)
theorem qP4(e:VAs c X es tr):∀ds (Q Q':DK) (xe b:XKd),(∀d a,Q d a->Q' d a)->(∀x a,xe x a->b x a)->Fg g i tr ds Q xe->Fg g i tr ds Q' b:=λds Q Q' xe b f h=>N7 (e.m _ _ _ _ _ (λk l j=>qa5 λy=>qa5 λz=>f _ _) h)
theorem Pa.nW{F F':γ->Prop}{H H':Hp}{W:γ->Prop}{a:γ}{d0 e:D}{B:List γ}(r:Pa F H (.ref a) d0 B)(k:Kp F H W F' H')(d:∀b∈B,¬W b)(f:d0.kids[n]?=some e):¬W a:=by cases r with|q c _=>intro w;obtain⟨o,e,m⟩:=k.wm a w;rw[c] at e;cases e;cases m|l c _=>exact d _ zA9|dct c _ _=>exact d _ zA9|ins c _ _=>exact d _ zA9|_=>cases (show (none:Option D)=some _ from f)
theorem qag8(k:Kp F H W F' H'):∀{p:List Nat}{f:V}{d0 d:D}{B:List γ}{w l:V},(∀b∈B,¬W b)->Pa F H f d0 B->d0.getP p=some d->Pg H f p w->Pg H' f p l->l=w:=by
 intro p;induction p with
 |nil=>intro f d0 d B w l _ _ _ h o;cases h;cases o;rfl|cons n p z=>
  intro f d0 d B w l q r g h o;unfold D.getP at g;cases i:d0.kids[n]? with
  |none=>rw[i] at g;cases g|some e=>
   rw[i] at g;obtain⟨x,A,E⟩:=h;obtain⟨K,s,t⟩:=o;obtain⟨y,B1,C1,v,G,L,_⟩:=r.kid i;obtain⟨M,B1',C1',j,_,_,_⟩:=(r.keep k q).kid i;cases A.fn v;cases s.fn j;have u:Lnk H' f n x:=by obtain⟨a,rfl,I⟩:=v;have m:=r.nW k q i;exact⟨a,rfl,I.imp (λ⟨c,e,h⟩=>⟨c,k.fr _ _ e m,h⟩) (O2 (λ⟨c,e,h⟩=>⟨c,k.fr _ _ e m,h⟩) (O2 (λ⟨c,e,h⟩=>⟨c,k.fr _ _ e m,h⟩) λ⟨C,J,c,e,h⟩=>⟨C,J,c,k.fr _ _ e m,h⟩))⟩
   cases u.fn j;exact z (λb N=>q b (qb6.mpr (by grind))) G g E t
def Gk(g:Ds->Ds->Option (Ds×D))(pf:PF)(tr:VTB):VT:=λds Q xe=>orF (pf ds) λq=>orF ((Bb ds q.1 q.2).bind D.own) λys=>orF ds[q.1]? λa=>tr (ds.set q.1 .u) (λxs _ ds1=>orF (g ys xs) λz=>Q z.2 (By (ds1.set q.1 a) q.1 q.2 (.l false z.1))) xe
theorem qak9(e:VAs c X es tr):∀ds (Q Q':DK) (xe b:XKd),(∀d a,Q d a->Q' d a)->(∀x a,xe x a->b x a)->Gk g pf tr ds Q xe->Gk g pf tr ds Q' b:=λds Q Q' xe b f h=>qa5 λq=>qa5 λj=>qa5 λk=>e.m _ _ _ _ _ (λl n i=>qa5 λz=>f _ _) h
theorem qaM6(hm:Hn r g)(ha:VAs c X es tr):∀σ H Q,Bf c (Gk g pf tr) σ H Q->tBM X.K "list" r (Ij c pf) (Ff c tr) σ H Q:=by
 rintro σ H Q ⟨F,Y,A,xe,S,x,q⟩;obtain⟨⟨i,p⟩,e1,q⟩:=qa7.mp q;obtain⟨l,e2,q⟩:=qa7.mp q;obtain⟨dl,h,e4⟩:=zA1.mp e2;cases qK6 e4;obtain⟨J,k,q⟩:=qa7.mp q;refine⟨F,Y,A,i,p,_,S,e1,h,D.noConfusion,λu w H1 n Z s0=>?_⟩;have S0:=S.same s0;obtain⟨a,L,Ael0,rfl,M,a0,_⟩:=qh8 S0 h n Z;refine⟨.inl ⟨rfl,L,.inl (.inl M)⟩,?_⟩;have N:J≠.u:=λz=>by subst z;have j:=h;unfold Bb at j;rw[k] at j;cases (qae6 j).2
 obtain⟨u',B,C,h1,I,h3,h4⟩:=S0.put1 k N;rw[n] at h1;cases h1;obtain⟨A1,q1,q2⟩:=h4 .u [] (Kp.same (F:=F) λ_ _ z=>z) (λ_ _ z=>z) (.u u);have O:Ok F H1 (B++A1):=S0.ok.count λb=>by rw[zA0,q2,h3];simp
 have s1:Pc F H A F H1 (B++A1):=⟨λb o e _=>s0 b o e,λb o e z=>by rw[zA0,q2];have:=h3 b;simp;lia,λ_ f=>f,λ_ _ _ _ f=>f⟩;have S1:Pd c F H1 σ (Y.set i .u) A1:=⟨q1,O.right,S.len,S.ag⟩;have P:Pc F H A F H1 A1:=s1.count λb=>by rw[zA0];lia
 refine⟨F,_,A1,xe,S1,x.step P,ha.m _ _ _ _ _ (λxs ps s q vs H2 F2 T2 A2 r2 pk S2 o2 s2=>?_) (λ_ _ z=>z) q⟩;obtain⟨⟨t,d⟩,e7,q⟩:=qa7.mp q;have kp:=s2.kp S1.ok S1.loc.cells;have hBout:∀b∈B,¬(A1.count b≠0):=λb hb hc=>by have:=O.sep b;rw[zA0] at this;have:=qb6.mp hb;lia
 have y:Pa F2 H2 u J B:=I.keep kp hBout;obtain⟨o3,s3⟩:=s2.frame O I.cells o2;obtain⟨A3,k1,k2⟩:=qB4 S2.loc n y;have E:∀b,A3.count b<=B.count b+A2.count b:=k2;have o4:Ok F2 H2 (T2++A3):=o3.count λb=>by simp only[zA0];have:=E b;lia
 have s4:Pc F H A F2 H2 (T2++A3):=(s1.trans s3).count λb=>by simp only[zA0];have:=E b;lia
 have G:i<s.length:=by rw[<-S2.loc.len];exact(zA6.mp n).1
 have e8:Bb (s.set i J) i p=some (.l false l):=by unfold Bb at h ⊢;rw[k] at h;rw[zBk G];exact h
 have T:Pg H2 u p (.ref a):=by
  obtain⟨w',_,_,w1,_,_,_⟩:=I.path (p:=p) (d:=.l false l) (by unfold Bb at h;rw[k] at h;exact h);cases Z.fn w1;obtain⟨w2,_,_,w3,_,_,_⟩:=y.path (p:=p) (d:=.l false l) (by unfold Bb at h;rw[k] at h;exact h);have:w2=.ref a:=by refine qag8 (d:=.l false l) kp hBout I ?_ w1 w3;unfold Bb at h;rw[k] at h;exact h
  rw[<-this];exact w3
 obtain⟨a2,U,Ael,ea,V,rs,wr⟩:=qh8 (⟨k1,o4.right,S.len,S.ag⟩) e8 n T;cases ea;refine hm F2 H2 a U l Ael vs xs T2 t d Q V rs r2 e7 λW v B' R z1 z2 z3=>?_;obtain⟨⟨A',S4,o5,s5⟩,kr⟩:=wr W t B' R T2 o4 z1 z3;exact q v _ F2 R A' (kr v d z2) S4 o5 (s4.trans s5)
end
section
variable{c:Vc}{X:Cx}{a b e o:Lr}{pos cpos apos:Pos}{pf:PF}{tr:VTB}{es:List Lr}{fb:FV}{ob:Bool}{r:V->List V->Hp->VK->Prop}{g:Ds->Ds->Option (Ds×D)}{name:Str}{id:String}
theorem Fw(i:Nat)(k:Hn r g)(l:PlainAttrs "list")(slot:Slot "list" name id)(b:typeOf (.builtin id)=pure (.type "method_descriptor"))(hm:MtM X id r)(d:VAs c X (e::es) tr)(j:X.N[i]?=some x:=by rfl)(m:Vis X.env.scope x:=by first|exact O1 rfl|exact O0 (O1 rfl)|exact O0 (O0 rfl))(n:N' x:=by decide)(f:(x==("__classdict__" : Str))=false:=by decide)(hbase:K7 (.Name x p0) name X.env (eval (.Name x p0) X.env)=eval (.Name x p0) X.env:=by rfl)(a:((backTo cpos (Kw (e::es) X.env)).all (λx=>!x.1)&&(backToKw cpos (Lc [] X.env)).all (λx=>x.1.isSome)
     && decide ((e::es).length+([]:List Keyword).length+(if ([]:List Keyword).isEmpty then 0 else 1)<30))=true:=by rfl)(hline:(apos.endLine==cpos.line)=true:=by rfl)(o:Kw (e::es) X.env=(false,eval e X.env)::Kw es X.env:=by rfl)(hplain:(backTo cpos (Kw es X.env)).any (·.1)=false:=by rfl):VE c X (.Call (.Attribute (.Name x p0) name apos) (e::es) [] cpos) (Fg g i tr):=⟨λE6 s σ H Q I q=>Jq l slot b hm (ql3 j m n f) d.h hbase a hline o hplain E6 s σ H Q I (qar4 rfl k d (qk9 j E6 σ H s I) q),qP4 d⟩
theorem qbb0(i:Nat){x:Str}{p0:Pos}(f:Hn r g)(h:PlainAttrs "list")(slot:Slot "list" name id)(a:typeOf (.builtin id)=pure (.type "method_descriptor"))(hm:MtM X id r)(e:X.N[i]?=some x:=by rfl)(b:Vis X.env.scope x:=by first|exact O1 rfl|exact O0 (O1 rfl)|exact O0 (O0 rfl))(j:N' x:=by decide)(d:(x==("__classdict__" : Str))=false:=by decide)(hbase:K7 (.Name x p0) name X.env (eval (.Name x p0) X.env)=eval (.Name x p0) X.env:=by rfl)(hline:(apos.endLine==cpos.line)=true:=by rfl):VE c X (.Call (.Attribute (.Name x p0) name apos) [] [] cpos) (Fg g i A7):=⟨λE6 s σ H Q I q=>qaW4 h slot a hm (ql3 e b j d) hbase hline E6 s σ H Q I (by
   obtain⟨v,b,a,F,k,A,l,S,x,q⟩:=qar4 rfl f Ac (qk9 e E6 σ H s I) q;exact⟨v,b,a,q [] H F [] A .nil .nil S S.ok Pc.refl⟩),qP4 (c:=c) (X:=X) Ac⟩
theorem emutP(f:Hn r g)(i:PlainAttrs "list")(slot:Slot "list" name id)(b:typeOf (.builtin id)=pure (.type "method_descriptor"))(hm:MtM X id r)(j:VP c X o pf)(d:VAs c X (e::es) tr)(hbase:K7 o name X.env (eval o X.env)=eval o X.env:=by rfl)(a:((backTo cpos (Kw (e::es) X.env)).all (λx=>!x.1)&&(backToKw cpos (Lc [] X.env)).all (λx=>x.1.isSome)
     && decide ((e::es).length+([]:List Keyword).length+(if ([]:List Keyword).isEmpty then 0 else 1)<30))=true:=by rfl)(hline:(apos.endLine==cpos.line)=true:=by rfl)(k:Kw (e::es) X.env=(false,eval e X.env)::Kw es X.env:=by rfl)(hplain:(backTo cpos (Kw es X.env)).any (·.1)=false:=by rfl):VE c X (.Call (.Attribute o name apos) (e::es) [] cpos) (Gk g pf tr):=⟨PE.mono (Jq i slot b hm j.h d.h hbase a hline k hplain) (qaM6 f d),qak9 d⟩
def Ik(pf:PF)(fb:FV):VTG:=λd ds Q=>orF (pf ds) λq=>orF ((Bb ds q.1 q.2).bind D.own) λys=>orF ((fb ds).bind D.asI) λk=>orF (ixN ys.length k) λn=>Q (By ds q.1 q.2 (.l false (ys.set n d)))
theorem Gm(y:VP c X o pf)(hi:VV c X b ob fb)(f:∀v,assign (.Subscript o b pos) X.env v=(do
 let ov<-holding [v] (eval o X.env)
 let iv<-holding [v,ov] (eval b X.env)
 standAt pos
 holding [v,ov,iv] (setItem ov iv v)
 release [v,ov,iv] []):=by intro _;rfl):VG c X (.Subscript o b pos) (Ik pf fb):=by
 refine⟨PG.mono (qaV8 y.h hi.h qI8 f) λv σ H Q g=>?_,λd j Q Q' z=>qa5 λ_=>qa5 λ_=>qa5 λ_=>qa5 λ_=>z _⟩;obtain⟨F,j,A,T,d,r,S,B,q⟩:=g;obtain⟨⟨i,p⟩,C,q⟩:=qa7.mp q;obtain⟨V,e2,q⟩:=qa7.mp q;obtain⟨W,l,E⟩:=zA1.mp e2;cases qK6 E;obtain⟨k,G,q⟩:=qa7.mp q;obtain⟨I,J,K⟩:=zA1.mp G;obtain⟨n,m,q⟩:=qa7.mp q;refine⟨F,j,A,i,p,_,S,C,l,D.noConfusion,λu w H1 L M s=>⟨F,j,A,I,S.same s,J,λY H2 B2 N t _=>?_⟩⟩;have e:=s.trans t;cases N.asI K;obtain⟨a,O,Ael,rfl,f,x,wr⟩:=qh8 (S.same e) l L (M.same t);obtain⟨B',P,R⟩:=x.setAt ((qQ0 m).2.1) (r.same e);obtain⟨⟨A',S3,Z,U⟩,_⟩:=wr _ _ B' [] T (B.same e) P λb=>by have:=R b;simp;lia
 exact⟨a,O,k,n,rfl,rfl,f,by rw[x.len];exact m,q σ _ F A' S3 ((Pc.same e).trans U)⟩
def sAugV(f:Int->Int->Int)(pf:PF)(fb a:FV):VTS:=λe ds=>orF (pf ds) λq=>orF ((Bb ds q.1 q.2).bind D.own) λys=>orF ((fb ds).bind D.asI) λk=>0<=k/\orF ((ys[k.toNat]?).bind D.asI) λx=>orF ((a ds).bind D.asI) λy=>e.nx (By ds q.1 q.2 (.l false (ys.set k.toNat (.int (f x y)))))
theorem saug{op:Operator}{N:FV}{oe:Bool}(V:VP c X o pf)(hi:VV c X b ob fb)(W:VV c X e oe N)(Y:PIp X op (ipI f))(Z:∀n r d,augStore b n r d=(do holding [d,n,r] (setItem n r d);release [d,n,r] [];pure .next):=by intros;rfl):VS c X (.AugAssign (.Subscript o b tpos) op e pos) (sAugV f pf fb N):=by
 refine⟨PS.mono (qaq4 V.h hi.h qae5 W.h Y qI8 Z) λE σ H t=>?_,λen a0 s hl=>qa5 λ_=>qa5 λ_=>qa5 λ_=>N7 (qa5 λ_=>qa5 λ_=>hl.nx _)⟩;obtain⟨F,s,A,en,S,l,q⟩:=t;obtain⟨⟨i,p⟩,e1,q⟩:=qa7.mp q;obtain⟨ys,e2,q⟩:=qa7.mp q;obtain⟨dl,v,e4⟩:=zA1.mp e2;cases qK6 e4;obtain⟨k,e5,O,q⟩:=qa7.mp q;obtain⟨dk,e6,e7⟩:=zA1.mp e5;obtain⟨x,e8,q⟩:=qa7.mp q;obtain⟨dx,P,z⟩:=zA1.mp e8;obtain⟨y,B,q⟩:=qa7.mp q;obtain⟨dy,C,G⟩:=zA1.mp B;refine⟨F,s,A,i,p,_,S,e1,v,D.noConfusion,λu w H1 Q R T=>⟨F,s,A,dk,S.same T,e6,λvk H2 B2 r2 I _=>?_⟩⟩;have g:=T.trans I;cases r2.asI e7;obtain⟨a,vs,Ael,rfl,J,K,_⟩:=qh8 (S.same g) v Q (R.same I);obtain⟨vx,Bx,hx,rx,_⟩:=K.get P;cases rx.asI z;refine⟨a,vs,k,_,rfl,rfl,J,O,hx,F,s,A,dy,S.same g,C,λvy H3 B3 r3 U _=>?_⟩;cases r3.asI G;have j:=g.trans U;have S3:=S.same j;obtain⟨a',L,Ael',ea,M,m,wr⟩:=qh8 S3 v Q ((R.same I).same U);cases ea;have hn:=(zA6.mp P).1;obtain⟨B',r4,h4⟩:=m.setAt hn (.int (f x y));obtain⟨⟨A',S4,o4,s4⟩,_⟩:=wr _ _ B' [] [] S3.ok r4 λb=>by have:=h4 b;simpa using this
 refine⟨x,y,rfl,rfl,a,L,k,k.toNat,rfl,rfl,M,?_,l.nx _ σ _ F A' q S4 ((Pc.same j).trans s4)⟩;rw[m.len];unfold ixN;rw[if_pos O,if_pos ⋯]
noncomputable def Fx(f:Str)(d:D):List (Str×D)->List (Str×D)|[]=>[(f,d)]|(g,x)::r=>if g=f then (g,d)::r else (g,x)::Fx f d r
end
section
variable{c:Vc}{X:Cx}{F:γ->Prop}{H:Hp}{W:St}{ds:Ds}{A T:List γ}{a b e o:Lr}{pos:Pos}{te:VT}{pf:PF}
theorem qP1:∀{a:List (Str×V)}{c:List (Str×D)}{B Tv:List γ}{f:Str}{v:V}{d:D},a.map (·.1)=c.map (·.1)->O4 F H (a.map (·.2)) (c.map (·.2)) B->Pa F H v d Tv->(Bn f v a).map (·.1)=(Fx f d c).map (·.1)/\∃B',O4 F H ((Bn f v a).map (·.2)) ((Fx f d c).map (·.2)) B'/\∀b,B'.count b<=B.count b+Tv.count b
 |[],[],B,Tv,f,v,d,_,r,rv=>⟨rfl,Tv++[],.cons rv .nil,λb=>by simp⟩|[],_::_,_,_,_,_,_,h,_,_=>by simp at h|_::_,[],_,_,_,_,_,h,_,_=>by simp at h|(k,w)::r,(k',x)::r',B,Tv,f,v,d,h,rs,rv=>by
  have i:k=k':=by simp at h;exact h.1
  have e:r.map (·.1)=r'.map (·.1):=by simp at h;simpa using h.2
  subst i;cases rs with|@cons _ _ B1 _ _ B2 q t=>by_cases g:k=f;{simp only[Bn,Fx,if_pos g,zAy,e,true_and];exact⟨Tv++B2,.cons rv t,λb=>by simp only[zA0];lia⟩};obtain⟨j,B',l,m⟩:=qP1 (f:=f) e t rv;simp only[Bn,Fx,if_neg g,zAy,j,true_and];exact⟨B1++B',.cons q l,λb=>by simp only[zA0];have:=m b;lia⟩
def D.ownI(C:γ):D->Option (List (Str×D))|.ins false C' fs=>if C'=C then some fs else none|_=>none
theorem qaL6{d:D}(h:d.ownI C=some fs):d=.ins false C fs:=by cases d with|ins z C' a=>(cases z with|false=>have h:(if C'=C then some a else none)=some fs:=h;grind|true=>cases h)|_=>cases h
theorem qaL5{j:List (Str×D)}(S:Pd c F H W ds A)(h:Bb ds i p=some (.ins false C j))(E:(W++c.gv)[i]?=some (some u))(G:Pg H u p w):∃(a dx:γ)(d:List (Str×V))(Ael:List γ),w=.ref a/\H a=some (.ins C dx d)/\d.map (·.1)=j.map (·.1)/\O4 F H (d.map (·.2)) (j.map (·.2)) Ael/\∀(fvs':List (Str×V))(fds':List (Str×D))(B' T:List γ),Ok F H (T++A)->fvs'.map (·.1)=fds'.map (·.1)->O4 F H (fvs'.map (·.2)) (fds'.map (·.2)) B'->(∀b,B'.count b<=Ael.count b+T.count b)->∃A',Pd c F (upd H a (.ins C dx fvs')) W (By ds i p (.ins false C fds')) A'/\Pc F H (T++A) F (upd H a (.ins C dx fvs')) A':=by
 obtain⟨B,C0,r,I,J⟩:=S.place h D.noConfusion E G;cases r with
 |@ins a _ dx d _ Ael ha hk rs=>
 refine⟨a,dx,d,Ael,rfl,ha,hk,rs,λfvs' fds' B' T l n K v=>?_⟩;have m:∀b,A.count b=(if b=a then 1 else 0)+Ael.count b+C0.count b:=λb=>by
  rw[I,zAv]
  grind
 have q:=m a;rw[if_pos rfl] at q;have sa:=l.sep a;rw[zA0] at sa;have L:=v a;have y:¬F a:=λf=>by have:=l.fro a f;rw[zA0] at this;lia
 have k:=qH4 (F:=F) (o':=.ins C dx fvs') ha rfl y;have rep':Pa F (upd H a (.ins C dx fvs')) (.ref a) (.ins false C fds') (a::B'):=.ins qb3 n (K.keep k λb s w=>by subst w;have:=qb6.mp s;lia);obtain⟨A',M,q2⟩:=J _ _ k (λb s w=>by subst w;have:=qb6.mp s;lia) rep';have t:∀b,A'.count b=(if b=a then 1 else 0)+B'.count b+C0.count b:=λb=>by
  grind
 have g:∀b,A'.count b<=(T++A).count b:=λb=>by rw[zA0,t,m];have:=v b;lia
 have N:∀b,F b->∃o,upd H a (.ins C dx fvs') b=some o:=λb f=>by
  obtain⟨x,e⟩:=l.ex b f;exact⟨x,by rw[qb4 (show b≠a from λw=>y (w ▸ f))];exact e⟩
 refine⟨A',⟨M,⟨λb=>zAg (g b) (l.sep b),λb f=>by have:=l.fro b f;have:=g b;lia,N⟩,S.len,S.ag⟩,λb u e z=>?_,λb u e z=>by have:=g b;lia,λ_ f=>f,λ_ _ _ _ f=>f⟩;rw[qb4 λw=>?_]
 .exact e
 grind
def sFldV(C:γ)(f:Str)(te:VT)(pf:PF):VTS:=λe ds=>te ds (λd ds1=>orF (pf ds1) λq=>orF ((Bb ds1 q.1 q.2).bind (D.ownI C)) λfs=>fs.length<100/\e.nx (By ds1 q.1 q.2 (.ins false C (Fx f d fs)))) e.xe
theorem Ho(G:X.K=K)(I:VP c X o pf)(k:VE c X e te)(J:Cls K C)(L:qd7 K C f)(M:swapsWith e (some (.Attribute o f pos')) pos.line X.env=pure false:=by rfl):VS c X (.Assign [.Attribute o f pos'] e pos) (sFldV C f te pf):=by
 subst G;refine⟨PS.mono (qaV1 I.h k.h M) λE W H n=>?_,λs N t r=>k.m _ _ _ _ _ (λd b=>qa5 λ_=>qa5 λ_=>N7 (r.nx _)) r.xe⟩;obtain⟨F,t,A,s,S,l,q⟩:=n;refine⟨F,t,A,s.xe,S,l.xe,k.m _ _ _ _ _ (λd b q v H1 F1 T A1 O S1 P Q=>?_) (λ_ _ z=>z) q⟩;obtain⟨⟨i,p⟩,R,q⟩:=qa7.mp q;obtain⟨U,e2,r,q⟩:=qa7.mp q;obtain⟨dl,x,V⟩:=zA1.mp e2;cases qaL6 V;refine⟨F1,b,A1,i,p,_,S1,R,x,D.noConfusion,λu w H2 Y Z j=>?_⟩;obtain⟨a,dx,g,Ael,rfl,ha,y,rs,wr⟩:=qaL5 (S1.same j) x Y Z;have B:g.length=U.length:=by have:=congrArg Mf y;simpa using this
 refine⟨a,C,dx,g,rfl,ha,J,L,⋯,?_⟩;obtain⟨m1,B',m2,m3⟩:=qP1 y rs (O.same j);obtain⟨A',S3,s3⟩:=wr _ _ B' T (P.same j) m1 m2 m3;exact l.nx _ W _ F1 A' q S3 (Q.trans ((Pc.same j).trans s3))
def Hd(x:V):List V->Option Nat|[]=>none|y::r=>if eqV y x=true then some 0 else (Hd x r).map (· + 1)
theorem qas7{x:V}:∀{xs:List V}{j:Nat},Hd x xs=some j->∃z,xs[j]?=some z/\eqV z x=true/\∀m z',m<j->xs[m]?=some z'->eqV z' x=false
 |[],j,h=>by cases h|y::r,j,h=>by
  unfold Hd at h;by_cases a:eqV y x=true;{rw[if_pos a] at h;cases h;exact⟨y,rfl,a,λm z' c=>⋯⟩};rw[if_neg a] at h;obtain⟨k,d,rfl⟩:=zA8.mp h;obtain⟨z,e,f,g⟩:=qas7 d;refine⟨z,by simpa using e,f,λm z' c b=>?_⟩;cases m with
  |zero=>
   have:y=z':=by simpa using b
   subst this;simpa using a
  |succ m=>exact g m z' ⋯ (by simpa using b)
def gIdx(x y:D):Option D:=match x with|.l _ ys=>y.flat.bind λv=>(flats ys).bind λa=>(Hd v a).map λj=>.int (j:Nat)|_=>none
def rL1(r:V->List V->Hp->VK->Prop):R2:=λx y H Q=>r x [y] H Q
theorem qaW6:Ba true (rL1 qaI4) gIdx:=by
 intro F H v w x y B d Q r h q;cases r with|@cons _ _ A _ _ _ b t=>cases t with|@cons _ _ A2 _ _ _ c _=>
 cases x with|l z s=>obtain⟨u,e,h⟩:=zA1.mp h;obtain⟨C,i,h⟩:=zA1.mp h;obtain⟨j,k,rfl⟩:=zA8.mp h;obtain⟨rfl,f⟩:=c.flat e;obtain⟨a,l,A3,rfl,m,n,_⟩:=b.lst_inv;obtain⟨rfl,g⟩:=n.flats i;obtain⟨z,o,q2,p⟩:=qas7 k;exact⟨a,l,w,j,z,rfl,rfl,m,f,g,o,q2,p,q _ H [] (.int _) (λ_ _ z=>z) New.nil⟩|_=>cases h
theorem qaO9:∀x y d,gIdx x y=some d->∃z ys,x=.l z ys:=λx y d h=>by cases x with|l z ys=>exact⟨z,ys,rfl⟩|_=>cases h
end
def Bz(g:VTG)(t:VTS)(e:VEnds):List D->Ds->Prop|[],ds=>e.nx ds|x::xs,ds=>g x ds λds1=>t {e with nx:=Bz g t e xs,ct:=Bz g t e xs,bk:=e.nx} ds1
def whN(qc:VTT)(t:VTS)(e:VEnds):Nat->Ds->Prop|0,_=>False|n+1,ds=>qc ds (λb ds1=>if b=true then t {e with nx:=whN qc t e n,ct:=whN qc t e n,bk:=e.nx} ds1 else e.nx ds1) e.xe
def qaH9(qc:VTT)(t:VTS):VTS:=λe ds=>∃n,whN qc t e n ds
section
variable{c:Vc}{X:Cx}{a b e tg:Lr}{body:List Ls}{g:VTG}{t:VTS}{te:VT}{qc:VTT}{pos:Pos}
theorem qk1(d:VG c X tg g)(e:VSs c X body t){en b:VEnds}(a:en.Le b):∀(xs:List D) ds,Bz g t en xs ds->Bz g t b xs ds|[],ds=>a.nx ds|x::xs,ds=>d.m _ _ _ _ λf=>e.m _ _ _ ⟨qk1 d e a xs,a.rt,a.nx,qk1 d e a xs,a.xe⟩
theorem qH5{cd:Lr}(e:VTe c X cd qc)(f:VSs c X body t){en d:VEnds}(a:en.Le d):∀(n:Nat) ds,whN qc t en n ds->whN qc t d n ds|0,ds=>id|n+1,ds=>e.m _ _ _ _ _ (λb g=>qx5 (f.m _ _ _ ⟨qH5 e f a n,a.rt,a.nx,qH5 e f a n,a.xe⟩) (a.nx _)) a.xe
theorem qaH1(r:PassesOwn (Lm X.prog X.w) X.A X.env X.xe)(g:VTe c X cd qc)(o:VSs c X body t):VS c X (.While cd body [] pos) (qaH9 qc t):=by refine⟨PS.mono (qaw9 r g.h o.h) λE σ H i=>?_,λd s e u ⟨n,q⟩=>⟨n,qH5 g o u n e q⟩⟩;obtain⟨F,e,A,d,S,l,n,q⟩:=i;refine⟨λm σ H=>∃F e A,Pd c F H σ e A/\Lk c E F H A d/\whN qc t d m e,⟨n,F,e,A,S,l,q⟩,?_⟩;rintro m σ H ⟨F,e,A,S,l,q⟩;cases m with|zero=>exact q.elim|succ m=>refine⟨F,e,A,d.xe,S,l.xe,g.m _ _ _ _ _ (λb j q H1 F1 A1 S1 p=>?_) (λ_ _ z=>z) q⟩;cases b with|false=>rw[if_neg ∅] at q ⊢;exact l.nx _ _ _ _ _ q S1 p|true=>rw[if_pos rfl] at q ⊢;have f:=l.step p;refine⟨λσ' H'=>∃F' a A',Pd c F' H' σ' a A'/\Lk c E F' H' A' d/\whN qc t d m a,λσ' H' h=>⟨m,⋯,h⟩,F1,j,A1,{d with nx:=whN qc t d m,ct:=whN qc t d m,bk:=d.nx},S1,⟨?_,f.rt,f.nx,?_,f.xe⟩,q⟩;{exact λa σ' H' F' A' q S' k=>⟨F',a,A',S',f.step k,q⟩};exact λa σ' H' F' A' q S' k=>⟨F',a,A',S',f.step k,q⟩
theorem qN8{N:St->Hp->Prop}{b:Ds->Prop}(i:VG c X tg g)(S:Pd c F H σ ds A)(l:Lk c E F H A en)(r:Pa F H x y [])(h:∀a σ' H' F' A',b a->Pd c F' H' σ' a A'->Pc F H A F' H' A'->N σ' H')(q:g y ds λds1=>t {en with nx:=b,ct:=b,bk:=en.nx} ds1):Fv c g x σ H λσ2 H2=>Ew c t {E with nx:=N,ct:=N,bk:=E.nx} σ2 H2:=by refine⟨F,ds,A,[],y,r,S,S.ok,i.m _ _ _ _ (λds1 q σ1 H1 F1 A1 S1 d=>?_) q⟩;have e:=l.step d;exact⟨F1,ds1,A1,{en with nx:=b,ct:=b,bk:=en.nx},S1,⟨λa σ' H' F' A' q S' f=>h a σ' H' F' A' q S' (Pc.trans d f),e.rt,e.nx,λa σ' H' F' A' q S' f=>h a σ' H' F' A' q S' (Pc.trans d f),e.xe⟩,q⟩
noncomputable def D.lstOf:D->Option Ds|.l _ ys=>some ys|_=>none
theorem qx2{d:D}(h:d.lstOf=some ys):∃z,d=.l z ys:=by cases d with|l z a=>cases h;grind|_=>cases h
theorem qn4:∀{ys:List D}{i:Nat}{y:D},D.imms ys=true->ys[i]?=some y->y.imm=true
 |[],i,y,_,h=>by simp at h|d::r,0,y,hm,h=>by
  have:d=y:=by simpa using h
  subst this;exact(zAl.mp hm).1
 |d::r,i+1,y,hm,h=>qn4 (zAl.mp hm).2 (by simpa using h)
theorem qi0{xs:List α}(h:xs[i]?=some x):xs.drop i=x::xs.drop (i+1):=by obtain⟨a,rfl⟩:=zA6.mp h;exact zCb a
def sForL(te:VT)(g:VTG)(t:VTS):VTS:=λe ds=>te ds (λd ds1=>orF d.lstOf λys=>D.imms ys=true/\Bz g t e ys ds1) e.xe
theorem Il(Z:PassesOwn (Lm X.prog X.w) X.A X.env X.xe)(hi:VE c X e te)(G:VG c X tg g)(P:VSs c X body t)(Q:X.calm=true:=by rfl)(I:∀v,Kz e X.env v=pure v:=by intro _;rfl):VS c X (.For tg e body [] pos) (sForL te g t):=by
 refine⟨PS.mono (Jj Z Q (qs7 hi.h) G.h P.h I) λE σ H J=>?_,λs a0 k R=>hi.m _ _ _ _ _ (λd n=>qa5 λu=>N7 (qk1 G P R u n)) R.xe⟩;obtain⟨F,k,A,s,S,l,q⟩:=J;refine⟨F,k,A,s.xe,S,l.xe,hi.m _ _ _ _ _ (λd n q v H1 F1 T A1 U S1 o1 s1=>?_) (λ_ _ z=>z) q⟩;obtain⟨u,ey,hm,qf⟩:=qa7.mp q;obtain⟨z,rfl⟩:=qx2 ey;obtain⟨a,C,Ael,rfl,j,rs,_⟩:=U.lst_inv;have K:Pc F H A F1 H1 A1:=s1.count λb=>by rw[zA0];lia
 refine⟨a,rfl,⟨C,.inl (.inl j)⟩,qae8 (xs:=C) (λi σ H=>∃F k A,Pd c F H σ k A/\Lk c E F H A s/\Pa F H (.ref a) (.l z u) T/\H a=some (.l C)/\Ok F H (T++A)/\Bz g t s (u.drop i) k) ⟨F1,n,A1,S1,l.step K,U,j,o1,qf⟩ ?_ ?_ ?_⟩;{rintro i σ H _ ⟨F,k,A,S,l,r,j,o,q⟩;exact .inl (.inl j)}
 .rintro i x σ H hx ⟨F,k,A,S,l,r,j,o,q⟩;obtain⟨a',a1,Ael',ea,p,L,_⟩:=r.lst_inv;cases ea;rw[j] at p;cases p;obtain⟨y,B,V,W⟩:=L.getV hx;have:=W.imm (qn4 hm V);subst this;rw[qi0 V] at q;refine qN8 G S l W (λM σ' H' F' A' q' S' N=>?_) q;have D:=N.kp S.ok S.loc.cells;have Y:∀b∈T,¬(A.count b≠0):=λb hb Q=>by have:=o.sep b;rw[zA0] at this;have:=qb6.mp hb;lia
  obtain⟨o',_⟩:=N.frame o r.cells S'.ok;have O:H' a=some (.l C):=by cases r with|l h _=>exact D.fr _ _ j (Y _ zA9)|lstZ h f _=>exact D.fr _ _ j λw=>D.wf _ w f
  exact⟨F',M,A',S',l.step N,(r.keep D Y),O,o',q'⟩
 rintro σ H ⟨F,k,A,S,l,r,j,o,q⟩;rw[rs.len,Mh] at q;exact l.nx _ _ _ _ _ q S Pc.refl
noncomputable def Bm(lo:Int)(n:Nat):List D:=(Mc n).map λ(i:Nat)=>.int (lo+(i:Int))
theorem qO7(h:i<n):(Bm lo n)[i]?=some (.int (lo+(i:Int))):=by unfold Bm;rw[zAt,zBt h];rfl
theorem qaq1(lo:Int)(n:Nat):(Bm lo n).length=n:=by simp[Bm]
noncomputable def Fy(i:Int):Bool:=decide (-(2 ^ 62)<=i)&&decide (i<2 ^ 62)
theorem qr9{i:Int}(h:Fy i=true):-(2 ^ 62)<=i/\i<2 ^ 62:=by have:=zAl.mp h;exact⟨zAn this.1,zAn this.2⟩
theorem qat2{E:Bs}{en:VEnds}{F:γ->Prop}{H:Hp}{σ:St}{ds:Ds}{A:List γ}(d:VG c X tg g)(S:Pd c F H σ ds A)(l:Lk c E F H A en)(q:Bz g t en (Bm lo n) ds):∃W:Nat->Nat->St->Hp->Prop,(∃m,W 0 m σ H)/\∀i m σ H,W i m σ H->((Itr lo n).stop i H/\E.nx σ H)∨((Itr lo n).go i H/\∃N:St->Hp->Prop,(∀σ' H',N σ' H'->∃b,b<m/\W (i+1) b σ' H')/\∀x H',(Itr lo n).yld i H x H'->Fv c g x σ H' λσ2 H2=>Ew c t {E with nx:=N,ct:=N,bk:=E.nx} σ2 H2):=by refine qam0 (λi σ H=>∃F ds A,Pd c F H σ ds A/\Lk c E F H A en/\Bz g t en ((Bm lo n).drop i) ds) ⟨F,ds,A,S,l,q⟩ ?_ ?_;{rintro i σ H e ⟨F,ds,A,S,l,q⟩;rw[qi0 (qO7 e)] at q;exact qN8 d S l (.int _) (λa σ' H' F' A' f S' h=>⟨F',a,A',S',l.step h,f⟩) q};rintro σ H ⟨F,ds,A,S,l,q⟩;rw[zC6 (by rw[qaq1];exact zA3 _)] at q;exact l.nx _ _ _ _ _ q S Pc.refl
noncomputable def Kd:Ds->Option Int|[.int j]=>some j|_=>none
noncomputable def two2:Ds->Option (Int×Int)|[.int i,.int j]=>some (i,j)|_=>none
theorem qar2{xs:Ds}{j:Int}(h:Kd xs=some j):xs=[.int j]:=by unfold Kd at h;split at h;{grind};cases h
theorem qaF9{xs:Ds}{z:Int×Int}(h:two2 xs=some z):xs=[.int z.1,.int z.2]:=by unfold two2 at h;split at h;{cases h;rfl};cases h
def qZ5(tr:VTA)(g:VTG)(t:VTS):VTS:=λe ds=>tr ds (λxs ds1=>orF (Kd xs) λj=>Fy j=true/\Bz g t e (Bm 0 j.toNat) ds1) e.xe
def qaU4(tr:VTA)(g:VTG)(t:VTS):VTS:=λe ds=>tr ds (λxs ds1=>orF (two2 xs) λz=>Fy z.1=true/\Fy z.2=true/\Bz g t e (Bm z.1 (z.2-z.1).toNat) ds1) e.xe
theorem qY6(s:PassesOwn (Lm X.prog X.w) X.A X.env X.xe)(hm:X.mg "range"=none)(d:VOs c X [a] tr)(e:VG c X tg g)(k:VSs c X body t)(f:Gl X "range" := by rfl)(u:Kw [a] X.env=[(false,eval a X.env)]:=by rfl)(x:X.calm=true:=by rfl):VS c X (.For tg (.Call (.Name "range" p) [a] [] cpos) body [] pos) (qZ5 tr g t):=by refine⟨PS.mono (Jj s x (qP3 f hm d.h u) e.h k.h) λE σ H i=>?_,λn y o r=>d.m _ _ _ _ _ (λB b=>qa5 λj=>N7 (qk1 e k r _ b)) r.xe⟩;obtain⟨F,o,A,n,S,l,q⟩:=i;refine⟨F,o,A,n.xe,S,l.xe,d.m _ _ _ _ _ (λB b q K H1 F1 T A1 C S1 D=>?_) (λ_ _ z=>z) q⟩;obtain⟨j,G,hm,I⟩:=qa7.mp q;cases qar2 G;obtain⟨v,rfl,J⟩:=C.one_inv;cases J;have:=qr9 hm;exact⟨j,rfl,this.1,this.2,qat2 e S1 (l.step D) I⟩
theorem qaT8{tr:VTA}{p cpos:Pos}(C:PassesOwn (Lm X.prog X.w) X.A X.env X.xe)(hm:X.mg "range"=none)(f:VOs c X [a,b] tr)(k:VG c X tg g)(u:VSs c X body t)(n:Gl X "range" := by rfl)(D:Kw [a,b] X.env=[(false,eval a X.env),(false,eval b X.env)]:=by rfl)(o:Kw [b] X.env=[(false,eval b X.env)]:=by rfl)(G:X.calm=true:=by rfl):VS c X (.For tg (.Call (.Name "range" p) [a,b] [] cpos) body [] pos) (qaU4 tr g t):=by refine⟨PS.mono (Jj C G (qaj5 n hm f.h D o) k.h u.h) λE σ H r=>?_,λx I y B=>f.m _ _ _ _ _ (λJ d=>qa5 λj=>N7 (N7 (qk1 k u B _ d))) B.xe⟩;obtain⟨F,y,A,x,S,l,q⟩:=r;refine⟨F,y,A,x.xe,S,l.xe,f.m _ _ _ _ _ (λJ d q O H1 F1 T A1 K S1 L=>?_) (λ_ _ z=>z) q⟩;obtain⟨⟨i,j⟩,M,e⟩:=qa7.mp q;cases qaF9 M;obtain⟨v,w,_,_,rfl,N,s,_⟩:=K.two_inv;cases N;cases s;exact⟨i,j,rfl,⟨(qr9 e.1).1,(qr9 e.1).2,(qr9 e.2.1).1,(qr9 e.2.1).2⟩,qat2 k S1 (l.step L) e.2.2⟩
def tFzV(te:VT):VT:=λds Q xe=>te ds (λd ds1=>Q d.fz ds1) xe
theorem B6(h:VE c X e te):VE c X e (tFzV te):=by refine⟨PE.mono h.h λσ H Q a=>?_,λi Q Q' j n o p=>h.m _ _ _ _ _ (λd g=>o _ _) p⟩;obtain⟨F,i,A,j,S,x,q⟩:=a;refine⟨F,i,A,j,S,x,h.m _ _ _ _ _ (λd g q v H1 F1 T A1 k S1 r s=>?_) (λ_ _ z=>z) q⟩;obtain⟨l,t⟩:=share (C:=A1) r (λb=>by rw[zA0]) k.cells (λb=>rfl);exact q v H1 _ [] A1 (k.fz (λb f=>.inl f) λb u=>.inr u) ⟨(S1.loc.keep (Kp.more λb f=>O1 f) λ_ _ z=>z),l,S1.len,S1.ag⟩ l (s.trans t)
end
def bk1(i:Nat)(p:List Nat)(w:V)(d0:D)(ds:Ds):Option Ds:=Av [.pl i p w] [d0] ds
def Im(i:Nat)(p:List Nat)(w:V)(d0:D)(e:VEnds):VEnds where
 nx ds:=orF (bk1 i p w d0 ds) e.nx
 rt d ds:=orF (bk1 i p w d0 ds) (e.rt d)
 bk ds:=orF (bk1 i p w d0 ds) e.bk
 ct ds:=orF (bk1 i p w d0 ds) e.ct
 xe x ds:=orF (bk1 i p w d0 ds) (e.xe x)
section
variable{c:Vc}{X:Cx}{a b e tg o:Lr}{body:List Ls}{g:VTG}{t:VTS}{pos:Pos}{pf:PF}{F F1:γ->Prop}{H H1:Hp}{σ:St}{ds ds1:Ds}{A A1 B:List γ}{E:Bs}{en:VEnds}
theorem qo7{a:Ds}(f:Ok F1 H1 (B++A1))(S1:Pd c F1 H1 σ ds1 A1)(r:Pa F1 H1 w d0 B)(S':Pd c F' H' σ' a A')(s':Pc F1 H1 A1 F' H' A')(h:bk1 i p w d0 a=some d):∃A2,Pd c F' H' σ' d A2/\Ok F' H' (B++A')/\Pc F1 H1 (B++A1) F' H' (B++A')/\∀b,A2.count b<=B.count b+A'.count b:=by
 obtain⟨g,j⟩:=s'.frame f r.cells S'.ok;have k:=r.keep (s'.kp S1.ok S1.loc.cells) λb m e=>by have:=f.sep b;grind
 obtain⟨A2,l,q2⟩:=qp8 (.so .nil) (.cons k .nil) S'.loc h;have e:=λb=>by have:=q2 b;simp only[zAe] at this;exact this
 exact⟨A2,⟨l,g.count λb=>by rw[zA0];exact e b,S'.len,S'.ag⟩,g,j,e⟩
theorem Lk.lend{p:List Nat}{d0:D}(l:Lk c E F H A en)(k:Pc F H A F1 H1 (B++A1))(j:Ok F1 H1 (B++A1))(S1:Pd c F1 H1 σ ds1 A1)(r:Pa F1 H1 w d0 B):Lk c E F1 H1 A1 (Im i p w d0 en) where
 nx ds' σ' H' F' A' q S' s':=by
  obtain⟨a,f,q⟩:=qa7.mp q;obtain⟨A2,S2,n,h,g⟩:=qo7 j S1 r S' s' f;exact l.nx _ _ _ _ A2 q S2 ((k.trans h).count λb=>by rw[zA0];exact g b)
 bk ds' σ' H' F' A' q S' s':=by
  obtain⟨a,f,q⟩:=qa7.mp q;obtain⟨A2,S2,n,h,g⟩:=qo7 j S1 r S' s' f;exact l.bk _ _ _ _ A2 q S2 ((k.trans h).count λb=>by rw[zA0];exact g b)
 ct ds' σ' H' F' A' q S' s':=by
  obtain⟨a,f,q⟩:=qa7.mp q;obtain⟨A2,S2,n,h,g⟩:=qo7 j S1 r S' s' f;exact l.ct _ _ _ _ A2 q S2 ((k.trans h).count λb=>by rw[zA0];exact g b)
 xe x ds' σ' e H' F' A' q rx S' s':=by
  obtain⟨a,f,q⟩:=qa7.mp q;obtain⟨A2,S2,n,h,g⟩:=qo7 j S1 r S' s' f;exact l.xe x a σ' e H' F' A2 q rx S2 ((k.trans h).count λb=>by rw[zA0];exact g b)
 rt d ds' v σ' H' F' T A' q rv S' oT s':=by
  obtain⟨a,f,q⟩:=qa7.mp q;have o:Pc F1 H1 A1 F' H' A':=s'.count λb=>by rw[zA0];lia
  obtain⟨A2,S2,n,h,g⟩:=qo7 j S1 r S' o f;obtain⟨s,t⟩:=s'.frame j r.cells oT;have m:∀b,(T++A2).count b<=(B++(T++A')).count b:=λb=>by simp only[zA0];have:=g b;lia
  exact l.rt d a v σ' H' F' T A2 q rv S2 (s.count m) ((k.trans t).count m)
theorem qaN3{en a:VEnds}(b:en.Le a):(Im i p w d0 en).Le (Im i p w d0 a):=⟨λc=>qa5 b.nx,λd c=>qa5 (b.rt d),λc=>qa5 b.bk,λc=>qa5 b.ct,λx c=>qa5 (b.xe x)⟩
structure Held(F:γ->Prop)(H:Hp)(a:γ)(vs:List V)(z:Bool)(ys:Ds)(T A:List γ):Prop where
 r:Pa F H (.ref a) (.l z ys) T
 h:H a=some (.l vs)
 o:Ok F H (T++A)
theorem Held.step{a:γ}{e:Ds}(h:Held F H a vs z ys T A)(S:Pd c F H σ ds A)(S':Pd c F' H' σ' e A')(s':Pc F H A F' H' A'):Held F' H' a vs z ys T A':=by
 obtain⟨r,g,o⟩:=h;have d:=s'.kp S.ok S.loc.cells;have i:∀b∈T,¬(A.count b≠0):=λb j k=>by have:=o.sep b;rw[zA0] at this;have:=qb6.mp j;lia
 refine⟨r.keep d i,?_,(s'.frame o r.cells S'.ok).1⟩;cases r with|l h _=>exact d.fr _ _ g (i _ zA9)|lstZ h f _=>exact d.fr _ _ g λw=>d.wf _ w f
theorem Held.get{a:γ}(h:Held F H a vs z ys T A)(hm:D.imms ys=true)(f:vs[i]?=some x):∃y,ys[i]?=some y/\Pa F H x y []:=by obtain⟨k,g,Ael',j,b,c,_⟩:=h.r.lst_inv;cases j;have:=h.h;rw[b] at this;cases this;obtain⟨y,B,d,e⟩:=c.getV f;have:=e.imm (qn4 hm d);subst this;exact⟨y,d,e⟩
theorem Held.len{a:γ}(h:Held F H a vs z ys T A):vs.length=ys.length:=by obtain⟨f,d,Ael',e,b,c,_⟩:=h.r.lst_inv;cases e;have:=h.h;rw[b] at this;cases this;exact c.len
theorem qM4{a:γ}(j:VG c X tg g)(S:Pd c F H σ ds A)(l:Lk c E F H A en)(b:Held F H a vs z ys T A)(hm:D.imms ys=true)(q:Bz g t en ys ds):∃W:Nat->Nat->St->Hp->Prop,(∃m,W 0 m σ H)/\∀i m σ H,W i m σ H->((Itl K a).stop i H/\E.nx σ H)∨((Itl K a).go i H/\∃N:St->Hp->Prop,(∀σ' H',N σ' H'->∃e,e<m/\W (i+1) e σ' H')/\∀x H',(Itl K a).yld i H x H'->Fv c g x σ H' λσ2 H2=>Ew c t {E with nx:=N,ct:=N,bk:=E.nx} σ2 H2):=by refine qae8 (xs:=vs) (λi σ H=>∃F ds A,Pd c F H σ ds A/\Lk c E F H A en/\Held F H a vs z ys T A/\Bz g t en (ys.drop i) ds) ⟨F,ds,A,S,l,b,q⟩ ?_ ?_ ?_;{rintro i σ H _ ⟨F,ds,A,S,l,b,q⟩;exact .inl (.inl b.h)};{rintro i x σ H k ⟨F,ds,A,S,l,b,q⟩;obtain⟨y,n,o⟩:=b.get hm k;rw[qi0 n] at q;exact qN8 j S l o (λd σ' H' F' A' p S' f=>⟨F',d,A',S',l.step f,b.step S S' f,p⟩) q};rintro σ H ⟨F,ds,A,S,l,b,q⟩;rw[b.len,Mh] at q;exact l.nx _ _ _ _ _ q S Pc.refl
def sForP(pf:PF)(g:VTG)(t:VTS):VTS:=λe ds=>orF (pf ds) λq=>orF (Bb ds q.1 q.2) λd=>orF d.lstOf λys=>D.imms ys=true/\∀w,Bz g t (Im q.1 q.2 w d e) ys (By ds q.1 q.2 (.hole w))
theorem sforP(J:PassesOwn (Lm X.prog X.w) X.A X.env X.xe)(hi:VP c X o pf)(j:VG c X tg g)(y:VSs c X body t)(K:X.calm=true:=by rfl)(k:∀v,Kz o X.env v=pure v:=by intro _;rfl):VS c X (.For tg o body [] pos) (sForP pf g t):=by
 refine⟨PS.mono (Jj J K (qs7 hi.h) j.h y.h k) λE σ H m=>?_,λL M n N=>qa5 λq=>qa5 λd=>qa5 λO=>N7 λh w=>qk1 j y (qaN3 N) _ _ (h w)⟩;obtain⟨F,n,A,L,S,l,q⟩:=m;obtain⟨⟨i,p⟩,P,q⟩:=qa7.mp q;obtain⟨d,e2,q⟩:=qa7.mp q;obtain⟨O,Q,R,q⟩:=qa7.mp q;obtain⟨z,rfl⟩:=qx2 Q;refine⟨F,n,A,i,p,_,S,P,e2,D.noConfusion,λu w H1 T U s=>?_⟩;obtain⟨B,C,r,G,V⟩:=(S.same s).place e2 D.noConfusion T U;obtain⟨A1,W,q2⟩:=V (.hole w) [] (Kp.same λ_ _ z=>z) (λ_ _ z=>z) (.hole w);have x:Ok F H1 (B++A1):=(S.same s).ok.count λb=>by rw[zA0,q2,G];simp
 have Y:Pc F H A F H1 (B++A1):=⟨λb o e _=>s b o e,λb o e z=>by rw[zA0,q2];have:=G b;simp;lia,λ_ f=>f,λ_ _ _ _ f=>f⟩;have S1:Pd c F H1 σ (By n i p (.hole w)) A1:=⟨W,x.right,S.len,S.ag⟩;obtain⟨a,Z,Ael,rfl,I,rs,_⟩:=r.lst_inv;exact⟨a,rfl,⟨Z,.inl (.inl I)⟩,qM4 j S1 (l.lend Y x S1 r) ⟨r,I,x⟩ R (q _)⟩
noncomputable def enD(ys:Ds):List D:=ys.zipIdx.map λp=>.q [.int (p.2:Int),p.1]
theorem qaQ7(h:ys[i]?=some y):(enD ys)[i]?=some (.q [.int (i:Int),y]):=by unfold enD;rw[zAt,List.getElem?_zipIdx,h];simp
theorem qaD1(ys:Ds):(enD ys).length=ys.length:=by simp[enD]
end
noncomputable def fin(W:Nat->Bool):Nat->Ds->Ds->Ds|k,d::r,d'::r'=>(if W k=true then d' else d)::fin W (k+1) r r'|_,_,_=>[]
noncomputable def G2(W:Nat->Bool):Nat->Ds->Bool|_,[]=>true|k,d::r=>(W k||d.imm)&&G2 W (k+1) r
def qan2(W:Nat->Bool)(ds:Ds)(Q:DK)(xe:XKd):VEnds where
 nx ds':=Q .non (fin W 0 ds ds')
 rt d ds':=Q d (fin W 0 ds ds')
 bk _:=False
 ct _:=False
 xe x ds':=xe x (fin W 0 ds ds')
section
variable{F F':γ->Prop}{H H':Hp}
theorem qba8(q:Kp F H Wr F' H'):∀{vs:List V}{ds:Ds}{A:List γ}{k:Nat}{w':List (Option V)}{a:Ds}{A':List γ},O4 F H vs ds A->G2 W k ds=true->Locs F' H' w' a A'->vs.length<=w'.length->(∀i,i<vs.length->W (k+i)=true->w'[i]?=(vs.map some)[i]?)->∃A2,O4 F' H' vs (fin W k ds a) A2/\∀b,A2.count b<=A'.count b:=by
 intro vs;induction vs with
 |nil=>intro ds A k w' a A' r g L n l;cases r;exact⟨[],by cases a<;>exact .nil,λb=>by simp⟩|cons v vs s=>
  intro ds A k w' a A' r g L n l;cases r with
  |@cons _ d B _ ds B2 r1 t=>
   have g:=zAl.mp g;have step:∀{σ2:List (Option V)}{c:Ds}{A2:List γ}(o:Option V),w'=o::σ2->Locs F' H' σ2 c A2->∃A3,O4 F' H' vs (fin W (k+1) ds c) A3/\∀b,A3.count b<=A2.count b:=λ{σ2 c A2} o e L2=>by subst e;refine s t g.2 L2 (by simpa using n) λi j f=>?_;have:=l (i+1) (by simpa using j) (by grind);simpa using this
   cases L with
   |nil=>simp at n|no L2=>
    obtain⟨A3,m,q2⟩:=step none rfl L2;by_cases f:W k=true;{have:=l 0 (by simp) (by simpa using f);simp at this};have j:d.imm=true:=by rcases Bool.or_eq_true_iff.mp g.1 with h|h;{exact absurd h f};exact h
    have:=r1.imm j;subst this;refine⟨[]++A3,?_,λb=>by simpa using q2 b⟩;show O4 F' H' (v::vs) ((if W k=true then _ else d)::_) _;rw[if_neg f];exact .cons (r1.keep q λb p=>by cases p) m
   |@so v' d' B' σ2 c A2 rr L2=>
    obtain⟨A3,m,q2⟩:=step (some v') rfl L2;by_cases f:W k=true;{have:=l 0 (by simp) (by simpa using f);simp at this;subst this;refine⟨B'++A3,?_,λb=>by simp only[zA0];have:=q2 b;lia⟩;show O4 F' H' (v'::vs) ((if W k=true then d' else d)::_) _;rw[if_pos f];exact .cons rr m};have j:d.imm=true:=by rcases Bool.or_eq_true_iff.mp g.1 with h|h;{exact absurd h f};exact h
    have:=r1.imm j;subst this;refine⟨[]++A3,?_,λb=>by simp only[zBa,zA0];have:=q2 b;lia⟩;show O4 F' H' (v::vs) ((if W k=true then d' else d)::_) _;rw[if_neg f];exact .cons (r1.keep q λb p=>by cases p) m
theorem O4.locs(r:O4 F H vs ds A):Locs F H (vs.map some) ds A:=by induction vs generalizing ds A with|nil=>cases r;exact .nil|cons v vs a=>cases r with|cons h t=>exact .so h (a t)
theorem qC3:∀n:Nat,Locs F H (Ma n none) (Ma n .u) []|0=>.nil|n+1=>.no (qC3 n)
end
structure FunE(K:Oa)(x qual:Str)(st:Ls)(f:γ)(fd:δ):Prop where
 ex:∃(oc:V')(od:Option γ)(dV kV doc pm:V')(an:Option γ)(cdv ct:V')(osl:Array (Option V')),
  fd=W.fnOf x qual (qe9 st) (qd0 st) (qa3 st) dV kV doc pm an cdv ct/\K.lookup f=some ⟨oc,od,.func fd,osl⟩/\W.codeIn K cdv qual=true
theorem FunE.of(F:Fun K x qual st f fd):FunE K x qual st f fd :=
 by obtain⟨g,h,kV,a,i,j,b,k,c,e,l,d⟩:=F.ex;exact⟨⟨g,h,.none,kV,a,i,j,b,k,c,e,l,d⟩⟩
theorem FunE.okX{P:Ln}{w:Lq}(F:FunE K x qual st f fd)(S:qa8 N ps (qa3 st))(len:∀vs H Q E,sp vs H Q E->vs.length=ps.length)(hbody:∀(a:V')(A:Lp)(outer:List Env)(s:Sh)(H:Hp)(vs:List V)(Q:VK)(E:XK),Pe cm k (A.deeper (PyProof.Rows.envOfC qual (qa3 st) s.heap.objs.size f a))->sp vs H Q E->∃t,PSs (E8 cm (CX1 P w) P w K mg base N qual (qa3 st) f a A outer s H E) (qd0 st) t/\t {nx:=λ_ H'=>Q .non H',rt:=Q} (L2.start N vs) H):Eo cm P w K mg base (CX1 P w) (k+1) f fd ps sp:=by obtain⟨i,j,l,kV,d,m,n,a,o,e,rfl,g,b⟩:=F.ex;exact Jo g b S len λA outer s H vs Q E h c=>hbody a A outer s H vs Q E h c
theorem VFn.mkE{P:Ln}{w:Lq}(Fu:FunE K x qual st f fd)(Sc:qa8 N ps (qa3 st))(W:Nat->Bool)(G:Bp s)(j:∀ds Q xe,s ds Q xe->ds.length=ps.length)(n:∀ds Q xe,s ds Q xe->G2 W 0 ds=true)(hbody:∀(g:V')(A:Lp)(outer:List Env)(B:Sh)(H:Hp)(E:XK)(av:List (Option V)),Pe cm k (A.deeper (PyProof.Rows.envOfC qual (qa3 st) B.heap.objs.size f g))->∃t,VSs ⟨λ_=>E,W,av,[]⟩ (E8 cm (CX1 P w) P w K mg base N qual (qa3 st) f g A outer B H E) (qd0 st) t/\∀ds Q xe,s ds Q xe->t (qan2 W ds Q xe) (ds++Ma (N.length-ds.length) .u)):Gc cm P w K mg base (k+1) f fd ps s:=by
 refine⟨Fu.okX Sc (λm H Q E ⟨F,ds,A,r,o,h⟩=>by rw[r.len];exact j _ _ _ h) λg Ar outer B H m Q E I C=>?_,G⟩;obtain⟨F,ds,A,r,o,h⟩:=C;obtain⟨t,J,L⟩:=hbody g Ar outer B H E (L2.start N m) I;have X:=j _ _ _ h;have M:=n _ _ _ h;have Y:ps.length<=N.length:=by have:=congrArg Mf Sc.pre;rw[zBz] at this;lia
 have L0:Locs F H (L2.start N m++[]) (ds++Ma (N.length-ds.length) .u) A:=by rw[zAe];unfold L2.start;rw[r.len];have:=r.locs.append (qC3 (F:=F) (H:=H) (N.length-ds.length));rwa[zAe] at this
 have l:∀{Z':St}{H':Hp}{F':γ->Prop}{a:Ds}{A' A2:List γ},Pd ⟨λ_=>E,W,L2.start N m,[]⟩ F' H' Z' a A'->Pc F H A F' H' A2->∃A3,O4 F' H' m (fin W 0 ds a) A3/\∀b,A3.count b<=A'.count b:=λ{Z' H' F' a A' A2} S' c=>by have hlen':=S'.len;simp only[zAe] at hlen';refine qba8 (c.kp o r.cells) r M (by have:=S'.loc;simpa using this) ?_ λi D O=>?_;{rw[<-hlen'];unfold L2.start;simp};have:=S'.ag i (by simpa using O);simp only[zAe] at this;rw[this];show (L2.start N m)[i]?=_;unfold L2.start;rw[zAq (by simpa using D)]
 refine⟨_,J.h,F,_,A,qan2 W ds _ _,(⟨L0,o,by simp,λi _=>by simp⟩),⟨?_,?_,λ_ _ _ _ _ z=>Oz z,λ_ _ _ _ _ z=>Oz z,?_⟩,L _ _ _ h⟩
 .intro a Z' H' F' A' q S' c;obtain⟨A3,p,q2⟩:=l S' c;have u:∀b,([]++A3).count b<=A'.count b:=λb=>by simpa using q2 b
  exact q .non H' F' [] A3 .non p (S'.ok.count u) (c.count u)
 .intro d a v Z' H' F' T A' q R S' S c;obtain⟨A3,p,q2⟩:=l S' c;have u:∀b,(T++A3).count b<=(T++A').count b:=λb=>by simp only[zA0];have:=q2 b;lia
  exact q v H' F' T A3 R p (S.count u) (c.count u)
 intro y a Z' e H' F' A' q U S' c;obtain⟨A3,p,q2⟩:=l S' c;exact q e H' F' A3 U p (S'.ok.count q2) (c.count q2)
theorem VFn.mk'{P:Ln}{w:Lq}(Fu:Fun K x qual st f fd)(Sc:qa8 N ps (qa3 st))(W:Nat->Bool)(e:Bp s)(a:∀ds Q xe,s ds Q xe->ds.length=ps.length)(b:∀ds Q xe,s ds Q xe->G2 W 0 ds=true)(hbody:∀(c:V')(A:Lp)(outer:List Env)(d:Sh)(H:Hp)(E:XK)(av:List (Option V)),Pe cm k (A.deeper (PyProof.Rows.envOfC qual (qa3 st) d.heap.objs.size f c))->∃t,VSs ⟨λ_=>E,W,av,[]⟩ (E8 cm (CX1 P w) P w K mg base N qual (qa3 st) f c A outer d H E) (qd0 st) t/\∀ds Q xe,s ds Q xe->t (qan2 W ds Q xe) (ds++Ma (N.length-ds.length) .u)):Gc cm P w K mg base (k+1) f fd ps s:=VFn.mkE (FunE.of Fu) Sc W e a b hbody
def Bw:List (Option Nat)->Ds->Ds×Ds|[],ds=>([],ds)|none::r,ds=>(.u::(Bw r ds).1,(Bw r ds).2)|some j::r,ds=>((ds[j]?).getD .u::(Bw r (ds.set j .u)).1,(Bw r (ds.set j .u)).2)
def F4:List (Option Nat)->Ds->Ds->Ds|none::r,_::i,o=>F4 r i o|some j::r,d::i,o=>F4 r i (o.set j d)|_,_,o=>o
def Fa(g:VTG)(qf:VTT)(te:VT)(K:Ds->Ds->Prop):List D->Ds->Ds->Prop|[],acc,a=>K acc a|x::xs,acc,a=>g x a λι1=>qf ι1 (λb ι2=>if b=true then te ι2 (λd ι3=>acc.length<big/\Fa g qf te K xs (acc++[d]) ι3) (λ_ _=>False) else Fa g qf te K xs acc ι2) (λ_ _=>False)
noncomputable def capW(src:List (Option Nat)):Nat->Bool:=λi=>match src[i]? with|some (some _)=>true|_=>false
abbrev cIn(src:List (Option Nat))(av:List (Option V)):Vc:=⟨λ_ _ _ _=>False,capW src,av,[]⟩
structure VF(c:Vc)(X:Cx)(ifs:List Lr)(t:VTT):Prop where
 h:PFs X ifs (Fd c t)
 m:∀ds (Q Q':Bool->Ds->Prop) (xe xe':XKd),(∀d ds',Q d ds'->Q' d ds')->(∀x ds',xe x ds'->xe' x ds')->t ds Q xe->t ds Q' xe'
def qYes:VTT:=λds Q _=>Q true ds
theorem Ex:VF c X [] qYes:=⟨λE6 s f H Q I ⟨F,a,A,b,S,x,q⟩=>qaK0 E6 s f H Q I (q H F A S Pc.refl),λa Q Q' b d e _=>e _ _⟩
theorem Ke(h:VTe c X e t):VF c X [e] t:=⟨qaV9 h.h,h.m⟩
section
variable{F F':γ->Prop}{H H':Hp}
theorem qX2:∀{src:List (Option Nat)}{J a:List (Option V)}{ds:Ds}{A:List γ},Locs F H (J++a) ds A->(∀j,some j∈src->j<J.length)->∃Ai Ao,Locs F H (Eg J src) (Bw src ds).1 Ai/\Locs F H (J++a) (Bw src ds).2 Ao/\∀b,A.count b=Ai.count b+Ao.count b
 |[],J,a,ds,A,L,_=>⟨[],A,.nil,L,λb=>by simp⟩|none::r,J,a,ds,A,L,h=>by obtain⟨Ai,Ao,f,q2,g⟩:=qX2 L λj c=>h j (zA4 _ c);exact⟨Ai,Ao,.no f,q2,g⟩|some j::r,J,a,ds,A,L,h=>by
  have c:=h j zA9;have t:=L.len;rw[zAf] at t;obtain⟨z,e⟩:∃d,ds[j]?=some d:=⟨_,zBx ⋯⟩;obtain⟨σ1,o,σ2,i,k,A1,B,A2,m,e2,u,w,x,n,p,q⟩:=L.split e;have s:(J++a)[j]?=some o:=by rw[m];exact qA6 u
  rw[zAq c] at s;have y:ds.set j .u=i++.u::k:=by have:=congrArg (λl=>l.set j .u) e2;rw[this,qo1 w]
  have L':Locs F H (J++a) (ds.set j .u) (A1++A2):=by rw[m,y];cases p with|no=>exact n.append (.no q)|@so v _ _ _=>exact n.append (.so (.u v) q)
  obtain⟨Ai,Ao,f,q2,g⟩:=qX2 L' λj c=>h j (zA4 _ c);refine⟨B++Ai,Ao,?_,q2,λb=>by rw[x];have:=g b;simp only[zA0] at *;lia⟩;show Locs F H (((J[j]?).getD none)::Eg J r) ((ds[j]?).getD .u::_) _;rw[s,e];exact Locs.cons p f
theorem qF7:∀{src:List (Option Nat)}{J c J':List (Option V)}{K o:Ds}{Ai Ao:List γ},Locs F H J' K Ai->Locs F H (J++c) o Ao->(∀j,some j∈src->j<J.length)->(∀(i j:Nat),src[i]?=some (some j)->J'[i]?=some ((J[j]?).getD none))->J'.length=src.length->∃A',Locs F H (J++c) (F4 src K o) A'/\∀b,A'.count b<=Ai.count b+Ao.count b
 |[],J,c,J',K,o,Ai,Ao,L,Lo,_,_,_=>⟨Ao,by cases K<;>exact Lo,λb=>⋯⟩|none::r,J,c,J',K,o,Ai,Ao,L,Lo,h,k,f=>by cases L with|nil=>simp at f|no L2=>obtain⟨A',g,q2⟩:=qF7 L2 Lo (λj a=>h j (zA4 _ a)) (λi j e=>by simpa using k (i+1) j (by simpa using e)) (by simpa using f);exact⟨A',g,q2⟩|so w L2=>obtain⟨A',g,q2⟩:=qF7 L2 Lo (λj a=>h j (zA4 _ a)) (λi j e=>by simpa using k (i+1) j (by simpa using e)) (by simpa using f);exact⟨A',g,λb=>by rw[zA0];have:=q2 b;lia⟩
 |some j::r,J,c,J',K,o,Ai,Ao,L,Lo,h,k,f=>by
  have a:=h j zA9;have m:=Lo.len;rw[zAf] at m;obtain⟨G,n⟩:∃d,o[j]?=some d:=⟨_,zBx ⋯⟩;obtain⟨σ1,p,σ2,q,s,A1,B,A2,t,e2,D,E,x,y,I,z⟩:=Lo.split n;have A:(J++c)[j]?=some p:=by rw[t];exact qA6 D
  rw[zAq a] at A;have u:=k 0 j rfl;rw[A] at u;have C:∀d,o.set j d=q++d::s:=λd=>by have:=congrArg (λl=>l.set j d) e2;rw[this,qo1 E]
  cases L with
  |nil=>simp at f|no L2=>
   have:p=none:=by simpa using u.symm
   subst this;have Lo':Locs F H (J++c) (o.set j .u) (A1++A2):=by rw[t,C];exact y.append (.no z)
   obtain⟨A',g,q2⟩:=qF7 L2 Lo' (λj a=>h j (zA4 _ a)) (λi j e=>by simpa using k (i+1) j (by simpa using e)) (by simpa using f);exact⟨A',g,λb=>by rw[x];have:=q2 b;simp only[zA0] at *;lia⟩
  |@so v d Bv _ _ _ w L2=>
   have:p=some v:=by simpa using u.symm
   subst this;have Lo':Locs F H (J++c) (o.set j d) (A1++(Bv++A2)):=by rw[t,C];exact y.append (.so w z)
   obtain⟨A',g,q2⟩:=qF7 L2 Lo' (λj a=>h j (zA4 _ a)) (λi j e=>by simpa using k (i+1) j (by simpa using e)) (by simpa using f);exact⟨A',g,λb=>by rw[x];have:=q2 b;simp only[zA0] at *;lia⟩
theorem qax5(J:St)(src:List (Option Nat)):(Eg J src).length=src.length:=by simp[Eg]
theorem qax6(h:src[i]?=some (some j)):(Eg J src)[i]?=some ((J[j]?).getD none):=by unfold Eg;rw[zAt,h];rfl
structure Hq(Pp:(γ->Prop)->Hp->Prop)(T:List γ):Prop where
 keep:∀{F F':γ->Prop}{H H':Hp}{W:γ->Prop},Kp F H W F' H'->(∀b∈T,¬W b)->Pp F H->Pp F' H'
 cells:∀{F:γ->Prop}{H:Hp},Pp F H->∀b∈T,∃o,H b=some o/\Et o=true
end
section
variable{c:Vc}{F F':γ->Prop}{H H':Hp}{M:(γ->Prop)->Hp->Prop}{G:List (Option V)}{o:Ds}{I:γ}{J:Ds}{T A A' K:List γ}{E:St}{ds:Ds}
noncomputable def Tot(B T Ao A:List γ):List γ:=B++(T++(Ao++A))
theorem qo2(st:Hq M T)(r:Pa F H (.ref I) (.l false J) B)(g:M F H)(L:Locs F H G o Ao)(h:Ok F H (Tot B T Ao A))(S:Pd c F H E ds A)(s:Pc F H A F' H' A')(o':Ok F' H' A'):Pa F' H' (.ref I) (.l false J) B/\M F' H'/\Locs F' H' G o Ao/\Ok F' H' (Tot B T Ao A')/\Pc F H (Tot B T Ao A) F' H' (Tot B T Ao A'):=by
 unfold Tot at *
 have f:=s.kp S.ok S.loc.cells;have i:∀b,(B++(T++(Ao++A))).count b=((B++(T++Ao))++A).count b:=λb=>by simp only[zA0];lia
 have d:∀b,b∈B∨b∈T∨b∈Ao->¬(A.count b≠0):=λb a j=>by have:=h.sep b;grind
 have k:∀b∈B++(T++Ao),∃o,H b=some o/\Et o=true:=λb a=>by rcases zAd.mp a with a|a;{exact r.cells b a};rcases zAd.mp a with a|a;{exact st.cells g b a};exact L.cells b a
 obtain⟨l,m⟩:=s.frame (h.count λb=>by rw[i];exact zA3 _) k o';have e:∀b,(B++(T++(Ao++A'))).count b=((B++(T++Ao))++A').count b:=λb=>by simp only[zA0];lia
 exact⟨r.keep f λb a=>d b (.inl a),st.keep f (λb a=>d b (.inr (.inl a))) g,L.keep f λb a=>d b (.inr (.inr a)),l.count λb=>by rw[e];exact zA3 _,(m.pre λb=>by rw[i]).count λb=>by rw[e];exact zA3 _⟩
theorem qay6(st:Hq M T)(r:Pa F H (.ref I) (.l false J) B)(p:M F H)(L:Locs F H G o Ao)(S:Pd c F H E ds A)(q:Pa F H v d K)(h:Ok F H (Tot B T Ao (K++A))):∃vs B',H I=some (.l vs)/\vs.length=J.length/\Pa F (upd H I (.l (vs++[v]))) (.ref I) (.l false (J++[d])) B'/\M F (upd H I (.l (vs++[v])))/\Locs F (upd H I (.l (vs++[v]))) G o Ao/\Pd c F (upd H I (.l (vs++[v]))) E ds A/\Ok F (upd H I (.l (vs++[v]))) (Tot B' T Ao A)/\Pc F H (Tot B T Ao (K++A)) F (upd H I (.l (vs++[v]))) (Tot B' T Ao A):=by
 unfold Tot at *
 obtain⟨a,vs,Ael,s,j,l,rfl⟩:=qF1 r;cases s;have t:=h.sep I;simp only[zA0,zAv,zBb,if_true] at t;have m:¬F I:=λf=>by have:=h.fro I f;simp only[zA0,zAv,zBb,if_true] at this;lia
 have k:=qH4 (o':=.l (vs++[v])) j rfl m;have i:∀X:List γ,X.count I=0->∀b∈X,¬b=I:=λX y b C w=>by subst w;exact(qb6.mp C) y
 have g:∀b,(I::(Ael++(K++[]))++(T++(Ao++A))).count b<=(I::Ael++(T++(Ao++(K++A)))).count b:=λb=>by simp only[zA0,zAv,Nl];lia
 have n:∀b,F b->∃o,upd H I (.l (vs++[v])) b=some o:=λb f=>by obtain⟨x,e⟩:=h.ex b f;exact⟨x,by rw[qb4 (show b≠I from λw=>m (w ▸ f))];exact e⟩
 refine⟨vs,I::(Ael++(K++[])),j,l.len,?_,st.keep k (i T ⋯) p,L.keep k (i Ao ⋯),⟨S.loc.keep k (i A ⋯),⟨S.ok.sep,S.ok.fro,n⟩,S.len,S.ag⟩,⟨λb=>zAg (g b) (h.sep b),λb f=>by have:=h.fro b f;have:=g b;lia,n⟩,λb u e z=>?_,λb u e z=>by have:=g b;lia,λ_ f=>f,λ_ _ _ _ f=>f⟩;{exact .l qb3 ((l.append (.cons q .nil)).keep k (i _ (by grind)))};rw[qb4 λw=>?_];{exact e};grind
end
def ql5(src:List (Option Nat))(g:VTG):TG:=λv a H Q=>∃av,Fv (cIn src av) g v a H Q
def ql4(src:List (Option Nat))(q:VTT):TT:=λa H Q=>∃av,Fd (cIn src av) q a H Q
def Bj(src:List (Option Nat))(t:VT):TE:=λa H Q=>∃av,Bf (cIn src av) t a H Q
structure Blk(X:Cx)(NY:List Str)(sc:Scope)(src:List (Option Nat))(tg:Lr)(ifs:List Lr)(elt:Lr)(g:VTG)(qf:VTT)(te:VT):Prop where
 g:∀av C s0 H0 ex,VG (cIn src av) (qj2 X NY sc C s0 H0 ex) tg g
 f:∀av C s0 H0 ex,VF (cIn src av) (qj2 X NY sc C s0 H0 ex) ifs qf
 e:∀av C s0 H0 ex,VE (cIn src av) (qj2 X NY sc C s0 H0 ex) elt te
 lt:∀E6 a H s,Pb X E6 a H s->∀j,some j∈src->j<a.length
section
variable{c:Vc}{X:Cx}{NY:List Str}{sc:Scope}{src:List (Option Nat)}{tg elt e:Lr}{ifs:List Lr}{g:VTG}{qf:VTT}{te:VT}
theorem Blk.pg(b:Blk X NY sc src tg ifs elt g qf te):∀C a H0 ex,PG (qj2 X NY sc C a H0 ex) tg (ql5 src g):=λC a H0 ex E6 s Y H v u Q I r ⟨c,q⟩=>(b.g c C a H0 ex).h E6 s Y H v u Q I r q
theorem Blk.pf(b:Blk X NY sc src tg ifs elt g qf te):∀C a H0 ex,PFs (qj2 X NY sc C a H0 ex) ifs (ql4 src qf):=λC a H0 ex E6 s Y H Q I ⟨c,q⟩=>(b.f c C a H0 ex).h E6 s Y H Q I q
theorem Blk.pe(b:Blk X NY sc src tg ifs elt g qf te):∀C a H0 ex,PE (qj2 X NY sc C a H0 ex) elt (Bj src te):=λC a H0 ex E6 s Y H Q I ⟨c,q⟩=>(b.e c C a H0 ex).h E6 s Y H Q I q
theorem Blk.gm(b:Blk X NY sc src tg ifs elt g qf te):∀d ds (Q Q':Ds->Prop),(∀a,Q a->Q' a)->g d ds Q->g d ds Q':=(b.g [] 0 {} (λ_=>none) []).m
theorem Blk.fm(b:Blk X NY sc src tg ifs elt g qf te):∀ds (Q Q':Bool->Ds->Prop) (xe c:XKd),(∀d a,Q d a->Q' d a)->(∀x a,xe x a->c x a)->qf ds Q xe->qf ds Q' c:=(b.f [] 0 {} (λ_=>none) []).m
theorem Blk.em(b:Blk X NY sc src tg ifs elt g qf te):∀ds (Q Q':DK) (xe c:XKd),(∀d a,Q d a->Q' d a)->(∀x a,xe x a->c x a)->te ds Q xe->te ds Q' c:=(b.e [] 0 {} (λ_=>none) []).m
theorem qi6(b:Blk X NY sc src tg ifs elt g qf te){K K':Ds->Ds->Prop}(h:∀acc Z,K acc Z->K' acc Z):∀(xs:List D) acc Z,Fa g qf te K xs acc Z->Fa g qf te K' xs acc Z|[],acc,Z=>h acc Z|x::xs,acc,Z=>b.gm _ _ _ _ λι1=>b.fm _ _ _ _ _ (λk ι2=>qx5 (b.em _ _ _ _ _ (λd ι3=>N7 (qi6 b h xs _ _)) λ_ _ z=>z) (qi6 b h xs _ _)) λ_ _ z=>z
variable{F F0:γ->Prop}{H H0:Hp}{Pp:(γ->Prop)->Hp->Prop}{τ:List (Option V)}{o0:Ds}{Dd:γ}{acc:Ds}{T A A0:List γ}{Y:St}{ds Z:Ds}{av:List (Option V)}{K:Ds->Ds->Prop}
def Mid(src:List (Option Nat))(av:List (Option V))(Pp:(γ->Prop)->Hp->Prop)(T:List γ)(τ:List (Option V))(o0:Ds)(Dd:γ)(F0:γ->Prop)(H0:Hp)(A0:List γ)(g:VTG)(qf:VTT)(te:VT)(K:Ds->Ds->Prop)(xs:List D)(Y:St)(H:Hp):Prop:=∃F Z A acc B Ao,Pd (cIn src av) F H Y Z A/\Pa F H (.ref Dd) (.l false acc) B/\Pp F H/\Locs F H τ o0 Ao/\Ok F H (Tot B T Ao A)/\Pc F0 H0 A0 F H (Tot B T Ao A)/\Fa g qf te K xs acc Z
theorem qu7(b:Blk X NY sc src tg ifs elt g qf te)(st:Hq Pp T)(S:Pd (cIn src av) F H Y Z A)(r:Pa F H (.ref Dd) (.l false acc) B)(t:Pp F H)(L:Locs F H τ o0 Ao)(u:Ok F H (Tot B T Ao A))(p:Pc F0 H0 A0 F H (Tot B T Ao A))(w:Pa F H x y [])(q:Fa g qf te K (y::xs) acc Z):ql5 src g x Y H λσ2 H2=>ql4 src qf σ2 H2 λh H3=>if h=true then Bj src te σ2 H3 λv H4=>∃ys,H4 Dd=some (.l ys)/\ys.length<Kx/\Mid src av Pp T τ o0 Dd F0 H0 A0 g qf te K xs σ2 (upd H4 Dd (.l (ys++[v]))) else Mid src av Pp T τ o0 Dd F0 H0 A0 g qf te K xs σ2 H3:=by have a:∀(F:γ->Prop)(H:Hp)(A:List γ),Xc (cIn src av) (λ_ _=>False) F H A:=λF H A x C Y' e H' F' A' z=>z.elim;refine⟨av,F,Z,A,[],y,w,S,S.ok,b.gm _ _ _ _ (λι1 q σ1 H1 F1 A1 S1 E=>?_) q⟩;obtain⟨G,i,L1,j,t1⟩:=qo2 st r t L u S (show Pc F H A F1 H1 A1 from E) S1.ok;refine⟨av,F1,ι1,A1,_,S1,a _ _ _,b.fm _ _ _ _ _ (λk ι2 q H2 F2 A2 S2 I=>?_) (λ_ _ z=>z) q⟩;obtain⟨s,c,L2,f,t2⟩:=qo2 st G i L1 j S1 I S2.ok;cases k with|false=>rw[if_neg ∅] at q ⊢;exact⟨F2,ι2,A2,acc,B,Ao,S2,s,c,L2,f,(p.trans t1).trans t2,q⟩|true=>rw[if_pos rfl] at q ⊢;refine⟨av,F2,ι2,A2,_,S2,a _ _ _,b.em _ _ _ _ _ (λd ι3 q v H3 F3 Tv A3 J S3 M N=>?_) (λ_ _ z=>z) q⟩;obtain⟨O,l,L3,m,P⟩:=qo2 st s c L2 f S2 N M;obtain⟨Q,B',R,e2,U,n,L4,S4,o,W⟩:=qay6 st O l L3 S3 J m;exact⟨Q,R,by rw[e2];exact zAc q.1 qi7,F3,ι3,A3,acc++[d],B',Ao,S4,U,n,L4,o,((p.trans t1).trans t2).trans (P.trans W),q.2⟩
theorem qy1(f:∀j,some j∈src->j<Y.length)(S:Pd c F H Y ds A)(n:Ok F H (T++A))(l:Pp F H)(st:Hq Pp T)(h:H Dd=none)(q:Fa g qf te K xs [] (Bw src ds).1):Mid src (Eg Y src) Pp T (Y++c.gv) (Bw src ds).2 Dd F H (T++A) g qf te K xs (Eg Y src) (upd H Dd (.l [])):=by
 obtain⟨Ai,Ao,o,q2,p⟩:=qX2 S.loc f;have a:=Same.new (u:=.l []) h;have okN:=(qe8 h).ok n (λb d=>by rcases zAd.mp d with d|d;{exact st.cells l b d};exact S.loc.cells b d) a;have m:∀b,(Tot [Dd] T Ao Ai).count b=([Dd]++(T++A)).count b:=λb=>by unfold Tot;simp only[zA0,p];lia
 have e:=okN.count λb=>by rw[m];exact zA3 _
 have k:Ok F (upd H Dd (.l [])) Ai:=e.count λb=>by unfold Tot;simp only[zA0];lia
 refine⟨F,_,Ai,[],[Dd],Ao,⟨by rw[zAe];exact o.same a,k,by simp,λi _=>by simp⟩,.l qb3 .nil,st.keep (Kp.same a) (λ_ _=>id) l,q2.same a,e,((qe8 h).stp a).count λb=>by rw[m];exact zA3 _,q⟩
theorem qy2(d:∀j,some j∈src->j<Y.length)(S:Pd c Fz Hz Y ds Az)(m:Mid src (Eg Y src) Pp T (Y++c.gv) o0 Dd F0 H0 A0 g qf te (λacc Z'=>∀v H' F' B A',Pa F' H' v (.l false acc) B->Pd c F' H' Y (F4 src Z' o0) A'->Pp F' H'->Ok F' H' (B++(T++A'))->Pc F0 H0 A0 F' H' (B++(T++A'))->Q v H') [] Y' H'):Q (.ref Dd) H':=by
 obtain⟨F,Z,A,acc,B,Ao,S1,r,k,L,l,s,q⟩:=m;have a:=S1.len;simp only[zAe] at a;obtain⟨A',n,o⟩:=qF7 (by have:=S1.loc;simpa using this) L d (λi j e=>by have:=S1.ag i (by show capW src i=true;unfold capW;rw[e]);simp only[zAe] at this;rw[this];exact qax6 e) (by rw[<-a,qax5]);have f:∀b,(B++(T++A')).count b<=(Tot B T Ao A).count b:=λb=>by unfold Tot;simp only[zA0];have:=o b;lia
 have h:=l.count f;exact q (.ref Dd) H' F B A' r ⟨n,h.right.right,S.len,S.ag⟩ k h (s.count f)
theorem qq2{a:γ}{ys:Ds}{T:List γ}:Hq (λF H=>Pa F H (.ref a) (.l z ys) T/\H a=some (.l vs)) T where
 keep:=λ{F F' H H' W} k h p=>by
  refine⟨p.1.keep k h,?_⟩;cases p.1 with
  |l _ _=>exact k.fr _ _ p.2 (h _ zA9)
  |lstZ _ f _=>exact k.fr _ _ p.2 λw=>k.wf _ w f
 cells:=λp=>p.1.cells
theorem qO1:Hq (λ_ _=>True) [] where
 keep:=λ_ _ p=>p
 cells:=λ_ b a=>by cases a
theorem qaP2{T:List γ}(r:Pa F H (.ref a) (.l z ys) T)(h:H a=some (.l vs))(hm:D.imms ys=true)(f:vs[i]?=some x):∃y,ys[i]?=some y/\Pa F H x y []:=by obtain⟨k,g,Ael',j,b,c,_⟩:=r.lst_inv;cases j;rw[h] at b;cases b;obtain⟨y,B,d,e⟩:=c.getV f;have:=e.imm (qn4 hm d);subst this;exact⟨y,d,e⟩
theorem qaN5{T:List γ}(r:Pa F H (.ref a) (.l z ys) T)(h:H a=some (.l vs)):vs.length=ys.length:=by obtain⟨f,d,Ael',e,b,c,_⟩:=r.lst_inv;cases e;rw[h] at b;cases b;exact c.len
theorem qH6{Q:Hp->Prop}(b:Blk X NY sc src tg ifs elt g qf te)(hm:D.imms ys=true)(m:Mid src av (λF H=>Pa F H (.ref a) (.l z ys) T/\H a=some (.l vs)) T τ o0 Dd F0 H0 A0 g qf te K ys Y' H)(e:∀σ2 H2,Mid src av (λF H=>Pa F H (.ref a) (.l z ys) T/\H a=some (.l vs)) T τ o0 Dd F0 H0 A0 g qf te K [] σ2 H2->Q H2):qq1 (Itl K' a) (ql5 src g) (ql4 src qf) (Bj src te) Dd Q Y' H:=by obtain⟨_,_,_,_,_,_,_,_,c,_⟩:=id m;refine qR9 (xs:=vs) (λi Y H=>Mid src av (λF H=>Pa F H (.ref a) (.l z ys) T/\H a=some (.l vs)) T τ o0 Dd F0 H0 A0 g qf te K (ys.drop i) Y H) m ?_ ?_ ?_;{rintro i Y H _ ⟨_,_,_,_,_,_,_,_,d,_⟩;exact .inl (.inl d.2)};{rintro i x Y H f ⟨F,Z,A,h,B,Ao,S1,r,d,L,j,s,q⟩;obtain⟨y,k,l⟩:=qaP2 d.1 d.2 hm f;rw[qi0 k] at q;exact qu7 b qq2 S1 r d L j s l q};intro Y H m;rw[(qaN5 c.1 c.2),Mh] at m;exact e _ _ m
theorem qag9{Q:Hp->Prop}(b:Blk X NY sc src tg ifs elt g qf te)(hm:D.imms ys=true)(m:Mid src av (λF H=>Pa F H (.ref a) (.l z ys) T/\H a=some (.l vs)) T τ o0 Dd F0 H0 A0 g qf te K (enD ys) Y' H)(k:∀σ2 H2,Mid src av (λF H=>Pa F H (.ref a) (.l z ys) T/\H a=some (.l vs)) T τ o0 Dd F0 H0 A0 g qf te K [] σ2 H2->Q H2):qq1 (Ite K' a) (ql5 src g) (ql4 src qf) (Bj src te) Dd Q Y' H:=by obtain⟨_,_,_,_,_,_,_,_,c,_⟩:=id m;refine qan8 (xs:=vs) (λi Y H=>Mid src av (λF H=>Pa F H (.ref a) (.l z ys) T/\H a=some (.l vs)) T τ o0 Dd F0 H0 A0 g qf te K ((enD ys).drop i) Y H) m ?_ ?_ ?_;{rintro i Y H _ ⟨_,_,_,_,_,_,_,_,d,_⟩;exact .inl (.inl d.2)};{rintro i x Y H w l ⟨F,Z,A,n,B,Ao,S1,r,d,L,o,s,q⟩ e;obtain⟨y,p,t⟩:=qaP2 d.1 d.2 hm l;rw[qi0 (qaQ7 p)] at q;have f:=Same.new (u:=.q [.int (i:Int),x]) e;obtain⟨v,h,L1,j,t1⟩:=qo2 qq2 r d L o S1 (Pc.same f) (S1.ok.same f);exact qu7 b qq2 (S1.same f) v h L1 j (s.trans t1) (qE8 e (.cons (.int _) (.cons t .nil))) q};intro Y H m;rw[zC6 (by rw[qaD1,(qaN5 c.1 c.2)];exact zA3 _)] at m;exact k _ _ m
theorem qau7{Q:Hp->Prop}(b:Blk X NY sc src tg ifs elt g qf te)(m:Mid src av (λ_ _=>True) [] τ o0 Dd F0 H0 A0 g qf te K (Bm lo n) Y' H)(a:∀σ2 H2,Mid src av (λ_ _=>True) [] τ o0 Dd F0 H0 A0 g qf te K [] σ2 H2->Q H2):qq1 (Itr lo n) (ql5 src g) (ql4 src qf) (Bj src te) Dd Q Y' H:=by refine qaf4 (λi Y H=>Mid src av (λ_ _=>True) [] τ o0 Dd F0 H0 A0 g qf te K ((Bm lo n).drop i) Y H) m ?_ ?_;{rintro i Y H c ⟨F,Z,A,d,B,Ao,S1,r,e,L,f,s,q⟩;rw[qi0 (qO7 c)] at q;exact qu7 b qO1 S1 r e L f s (.int _) q};intro Y H m;rw[zC6 (by rw[qaq1];exact zA3 _)] at m;exact a _ _ m
end
def Imp(c:Vc)(X:Cx)(t:VT)(tc:TE):Prop:=∀E6 s a H Q,Pb X E6 a H s->Bf c t a H Q->tc a H Q
def Gn(t:VT):Prop:=∀ds (Q Q':DK) (xe xe':XKd),(∀d a,Q d a->Q' d a)->(∀x a,xe x a->xe' x a)->t ds Q xe->t ds Q' xe'
section
variable{c:Vc}{X:Cx}{NY:List Str}{sc:Scope}{src:List (Option Nat)}{tg elt e o:Lr}{ifs:List Lr}{g:VTG}{qf:VTT}{te t0:VT}{pf:PF}
theorem qT2(h:PE X e tc)(i:Imp c X t tc)(m:Gn t):VE c X e t:=⟨λE6 s σ H Q I q=>h E6 s σ H Q I (i E6 s σ H Q I q),m⟩
theorem qaF3(h:PS X (.Assign [.Name x px] e spos) (Iz tc (Gf i)))(j:Imp c X t tc)(m:Gn t)(k:c.W i=false)(hi:X.N[i]?=some x):VS c X (.Assign [.Name x px] e spos) (Em t (gNm i)):=by refine⟨λE6 s σ H E I q=>h E6 s σ H E I (j E6 s σ H _ I ?_),λb n f g=>m _ _ _ _ _ (λd a=>g.nx _) g.xe⟩;obtain⟨F,f,A,b,S,l,q⟩:=q;refine⟨F,f,A,b.xe,S,l.xe,m _ _ _ _ _ (λd a q v H' F' T A' r S' o p=>?_) (λ_ _ z=>z) q⟩;obtain⟨A2,S2,u⟩:=S'.store k (qk9 hi E6 σ H s I) r o;exact l.nx _ _ H' F' A2 q S2 (p.trans u)
def Go(src:List (Option Nat))(g:VTG)(qf:VTT)(te:VT)(ys:List D):Ds->DK->Prop:=λds1 Q=>Fa g qf te (λacc ι'=>Q (.l false acc) (F4 src ι' (Bw src ds1).2)) ys [] (Bw src ds1).1
theorem qu9(b:Blk X NY sc src tg ifs elt g qf te){Q:DK}(h:∀d a,Q d a->Q' d a):Go src g qf te ys ds1 Q->Go src g qf te ys ds1 Q':=qi6 b (λc ι=>h _ _) _ _ _
def tCL(src:List (Option Nat))(t0:VT)(g:VTG)(qf:VTT)(te:VT):VT:=λds Q xe=>t0 ds (λd ds1=>orF d.lstOf λys=>D.imms ys=true/\Go src g qf te ys ds1 Q) xe
theorem qX4(b:Blk X NY sc src tg ifs elt g qf te)(hi:VE c X e t0):Gn (tCL src t0 g qf te):=λj Q Q' k a f h=>hi.m _ _ _ _ _ (λd i=>qa5 λl=>N7 (qu9 b f)) h
theorem qaO6(b:Blk X NY sc src tg ifs elt g qf te)(hi:VE c X e t0):Imp c X (tCL src t0 g qf te) (Ep (Hw K (Bf c t0)) src (ql5 src g) (ql4 src qf) (Bj src te)):=by rintro E6 s σ H Q I ⟨F,k,A,l,S,x,q⟩;have f:=b.lt E6 σ H s I;refine⟨F,k,A,l,S,x,hi.m _ _ _ _ _ (λd n q v H1 F1 T A1 i S1 o p=>?_) (λ_ _ z=>z) q⟩;obtain⟨E,t,u,h⟩:=qa7.mp q;obtain⟨z,rfl⟩:=qx2 t;obtain⟨a,w,Ael,rfl,j,G,_⟩:=i.lst_inv;refine⟨a,rfl,⟨w,.inl (.inl j)⟩,λDd y=>qH6 b u (qy1 f S1 o ⟨i,j⟩ qq2 y (qi6 b (λC ι q v H' F' B A' r S' _ D s=>q v H' F' B A' r S' (D.count λb=>by simp only[zA0];lia) ((p.trans s).count λb=>by simp only[zA0];lia)) _ _ _ h)) λσ2 H2 m=>qy2 f S1 m⟩
def tCPx(en:Ds->List D)(src:List (Option Nat))(pf:PF)(g:VTG)(qf:VTT)(te:VT):VT:=λds Q xe=>orF (pf ds) λq=>orF (Bb ds q.1 q.2) λd=>orF d.lstOf λys=>D.imms ys=true/\∀w,Fa g qf te (λacc ι'=>orF (bk1 q.1 q.2 w d (F4 src ι' (Bw src (By ds q.1 q.2 (.hole w))).2)) λa=>Q (.l false acc) a) (en ys) [] (Bw src (By ds q.1 q.2 (.hole w))).1
theorem qah3(b:Blk X NY sc src tg ifs elt g qf te):Gn (tCPx en src pf g qf te):=λf Q Q' i a c j=>qa5 λq=>qa5 λd=>qa5 λk=>N7 λh w=>qi6 b (λe ι=>qa5 λz=>c _ _) _ _ _ (h w)
theorem qaR4{J:γ->It}(b:Blk X NY sc src tg ifs elt g qf te)(M:∀{a:γ}{vs:List V}{z:Bool}{ys:Ds}{T:List γ}{τ:List (Option V)}{o0:Ds}{Dd:γ}{F0:γ->Prop}{H0 H:Hp}{A0:List γ}{K0:Ds->Ds->Prop}{av:List (Option V)}{Q:Hp->Prop}{σ':St},D.imms ys=true->Mid src av (λF H=>Pa F H (.ref a) (.l z ys) T/\H a=some (.l vs)) T τ o0 Dd F0 H0 A0 g qf te K0 (en ys) σ' H->(∀σ2 H2,Mid src av (λF H=>Pa F H (.ref a) (.l z ys) T/\H a=some (.l vs)) T τ o0 Dd F0 H0 A0 g qf te K0 [] σ2 H2->Q H2)->qq1 (J a) (ql5 src g) (ql4 src qf) (Bj src te) Dd Q σ' H)(j:∀σ H R,Ij c pf σ H (λx H1=>∃a,x=.ref a/\(∃xs,SqL K H1 a xs)/\R (J a) H1)->wi σ H R):Imp c X (tCPx en src pf g qf te) (Ep wi src (ql5 src g) (ql4 src qf) (Bj src te)):=by
 rintro E6 s σ H Q I ⟨F,t,A,xe,S,x,q⟩;have h:=b.lt E6 σ H s I;refine j σ H _ ?_;obtain⟨⟨i,p⟩,N,q⟩:=qa7.mp q;obtain⟨d,e2,q⟩:=qa7.mp q;obtain⟨ys,O,P,q⟩:=qa7.mp q;obtain⟨z,rfl⟩:=qx2 O;refine⟨F,t,A,i,p,_,S,N,e2,D.noConfusion,λu w H1 U k l=>?_⟩;obtain⟨B,C,r,y,Y⟩:=(S.same l).place e2 D.noConfusion U k;obtain⟨A1,Z,q2⟩:=Y (.hole w) [] (Kp.same λ_ _ z=>z) (λ_ _ z=>z) (.hole w);have E:Ok F H1 (B++A1):=(S.same l).ok.count λb=>by rw[zA0,q2,y];simp
 have s1:Pc F H A F H1 (B++A1):=⟨λb o e _=>l b o e,λb o e z=>by rw[zA0,q2];have:=y b;simp;lia,λ_ f=>f,λ_ _ _ _ f=>f⟩;have S1:Pd c F H1 σ (By t i p (.hole w)) A1:=⟨Z,E.right,S.len,S.ag⟩;obtain⟨a,vs,Ael,rfl,G,rs,_⟩:=r.lst_inv;refine⟨a,rfl,⟨vs,.inl (.inl G)⟩,λDd hD=>M P (qy1 h S1 E ⟨r,G⟩ qq2 hD (qi6 b (λa0 ι q v H' F' B' A' rv S' hp L s=>?_) _ _ _ (q (.ref a)))) λσ2 H2 m=>qy2 h S1 m⟩;obtain⟨a1,eb,q⟩:=qa7.mp q;obtain⟨A2,k1,k2⟩:=qp8 (.so .nil) (.cons hp.1 .nil) S'.loc eb;have n:∀b,(B'++A2).count b<=(B'++(B++A')).count b:=λb=>by have:=k2 b;simp only[zAe,zA0] at *;lia
 exact q v H' F' B' A2 rv ⟨k1,(L.count n).right,S.len,S.ag⟩ (L.count n) ((s1.trans s).count n)
theorem qba2(b:Blk X NY sc src tg ifs elt g qf te):Imp c X (tCPx (λys=>ys) src pf g qf te) (Ep (Hw K (Ij c pf)) src (ql5 src g) (ql4 src qf) (Bj src te)):=qaR4 b (λa m d=>qH6 b a m d) λσ H R h=>h
def tCR1(src:List (Option Nat))(tr:VTA)(g:VTG)(qf:VTT)(te:VT):VT:=λds Q xe=>tr ds (λxs ds1=>orF (Kd xs) λj=>Fy j=true/\Go src g qf te (Bm 0 j.toNat) ds1 Q) xe
theorem qah2{es:List Lr}{tr:VTA}(b:Blk X NY sc src tg ifs elt g qf te)(hi:VOs c X es tr):Gn (tCR1 src tr g qf te):=λi Q Q' j a e f=>hi.m _ _ _ _ _ (λd h=>qa5 λk=>N7 (qu9 b e)) f
theorem qaw8{F:γ->Prop}{H:Hp}{A:List γ}{F1:γ->Prop}{H1:Hp}{A1:List γ}{σ:St}{ds1:Ds}(b:Blk X NY sc src tg ifs elt g qf te)(a:∀j,some j∈src->j<σ.length)(S1:Pd c F1 H1 σ ds1 A1)(f:Pc F H A F1 H1 A1)(q:Go src g qf te (Bm lo n) ds1 (λd e=>∀v H' F' T A',Pa F' H' v d T->Pd c F' H' σ e A'->Ok F' H' (T++A')->Pc F H A F' H' (T++A')->Q v H')):∀Dd,H1 Dd=none->qq1 (Itr lo n) (ql5 src g) (ql4 src qf) (Bj src te) Dd (λH'=>Q (.ref Dd) H') (Eg σ src) (upd H1 Dd (.l [])):=λDd h=>
 qau7 b (qy1 a S1 S1.ok trivial qO1 h (qi6 b (λi ι q v H' F' B A' r S' _ k s=>q v H' F' B A' r S' k (f.trans s)) _ _ _ q)) λσ2 H2 m=>qy2 a S1 m
theorem qaO4{es:List Lr}{tr:VTA}(b:Blk X NY sc src tg ifs elt g qf te)(hi:VOs c X es tr):Imp c X (tCR1 src tr g qf te) (Ep (iRng1 (qaA0 c tr)) src (ql5 src g) (ql4 src qf) (Bj src te)):=by rintro E6 s σ H Q I ⟨F,d,A,e,S,x,q⟩;refine⟨F,d,A,e,S,x,hi.m _ _ _ _ _ (λo f q p H1 F1 T A1 h S1 i=>?_) (λ_ _ z=>z) q⟩;obtain⟨j,k,l,a⟩:=qa7.mp q;cases qar2 k;obtain⟨v,rfl,n⟩:=h.one_inv;cases n;have:=qr9 l;exact⟨j,rfl,this.1,this.2,qaw8 b (b.lt E6 σ H s I) S1 i a⟩
noncomputable def capOk(X:Cx)(src:List (Option Nat)):Bool:=src.all λo=>match o with|none=>true|some j=>decide (j<X.N.length)
theorem blk(b:∀av C a H0 ex,VG (cIn src av) (qj2 X NY sc C a H0 ex) tg g)(c:∀av C a H0 ex,VF (cIn src av) (qj2 X NY sc C a H0 ex) ifs qf)(d:∀av C a H0 ex,VE (cIn src av) (qj2 X NY sc C a H0 ex) elt te)(e:capOk X src=true:=by rfl):Blk X NY sc src tg ifs elt g qf te:=⟨b,c,d,λE6 σ H s I j f=>by
   have:=zBl.mp e _ f
   rw[I.len];exact zAn this⟩
end
theorem qs5{X:Cx}{NY:List Str}{sc:Scope}{C:γ}{a:Sh}{H0:Hp}{ex:List γ}{src:List (Option Nat)}{av:List (Option V)}:Lands (qj2 X NY sc C a H0 ex) (cIn src av).E:=λ_ _ _ _ _ _ _ _ _ z=>z.elim
section
variable{c:Vc}{X:Cx}{NY:List Str}{r:Scope}{src:List (Option Nat)}{t q n a:Lr}{o:List Lr}{g:VTG}{v:VTT}{te w:VT}{s y u:Pos}{pf:PF}{x:Str}
theorem ecL(hi:VE c X n w)(bl:Blk X NY r src t o q g v te)(a:X.calm=true:=by rfl)(b:qp7 X NY src r=true:=by rfl)(d:∀x,Kz n X.env x=pure x:=by intro _;rfl):VE c X (.ListComp q [⟨t,n,o,0⟩] r s) (tCL src w g v te):=qT2 (qw6 NY src (qs7 hi.h) bl.pg bl.pf bl.pe a b d) (qaO6 bl hi) (qX4 bl hi)
theorem ecP(hi:VP c X n pf)(bl:Blk X NY r src t o q g v te)(a:X.calm=true:=by rfl)(b:qp7 X NY src r=true:=by rfl)(d:∀x,Kz n X.env x=pure x:=by intro _;rfl):VE c X (.ListComp q [⟨t,n,o,0⟩] r s) (tCPx (λys=>ys) src pf g v te):=qT2 (qw6 NY src (qs7 hi.h) bl.pg bl.pf bl.pe a b d) (qba2 bl) (qah3 bl)
theorem ecR1{tr:VTA}{p cpos:Pos}(hm:X.mg "range"=none)(b:VOs c X [a] tr)(bl:Blk X NY r src t o q g v te)(d:Gl X "range" := by rfl)(e:Kw [a] X.env=[(false,eval a X.env)]:=by rfl)(f:X.calm=true:=by rfl)(i:qp7 X NY src r=true:=by rfl)(j:∀x,Kz (.Call (.Name "range" p) [a] [] cpos) X.env x=pure x:=by intro _;rfl):VE c X (.ListComp q [⟨t,.Call (.Name "range" p) [a] [] cpos,o,0⟩] r s) (tCR1 src tr g v te):=qT2 (qw6 NY src (qP3 d hm b.h e) bl.pg bl.pf bl.pe f i j) (qaO4 bl b) (qah2 bl b)
theorem scL(i:Nat)(e:X.N.Nodup)(hi:VE c X n w)(bl:Blk X NY r src t o q g v te)(f:c.W i=false:=by rfl)(a:X.N[i]?=some x:=by rfl)(j:Loc X.env.scope x:=by first|exact O1 rfl|exact O0 rfl)(k:X.calm=true:=by rfl)(l:qp7 X NY src r=true:=by rfl)(b:swapsWith (.ListComp q [⟨t,n,o,0⟩] r s) (some (.Name x y)) u.line X.env=pure true:=by rfl)(m:∀x,Kz n X.env x=pure x:=by intro _;rfl)(d:X.fn x=true∨X.env.scope.names.lookup x=some .local:=by first|exact .inl rfl|exact .inr rfl|assumption):VS c X (.Assign [.Name x y] (.ListComp q [⟨t,n,o,0⟩] r s) u) (Em (tCL src w g v te) (gNm i)):=qaF3 (qaq3 i NY src e (qs7 hi.h) bl.pg bl.pf bl.pe a j k l b m d) (qaO6 bl hi) (qX4 bl hi) f a
end
section
variable{c:Vc}{X:Cx}{t:List Lr}{p:VTB}
def Hr(p:VTB):VTA:=λds Q xe=>p ds (λxs _ ds1=>Q xs ds1) xe
theorem Fb(h:VAs c X t p):VOs c X t (Hr p):=⟨PA.mono h.h λn H Q ⟨F,d,A,e,S,x,q⟩=>⟨F,d,A,e,S,x,h.m _ _ _ _ _ (λf g a q i H' F' T A' r _ S' o s=>q i H' F' T A' r S' (s.count λb=>by rw[zA0];lia)) (λ_ _ z=>z) q⟩,λd Q Q' e j k l=>h.m _ _ _ _ _ (λf g a=>k _ _) l⟩
end
structure Bg(x y z:Int)(ns:List Int):Prop where
 x0:0<=x
 y0:0<=y
 y1:y<2147483647
 z0:0<=z
 nn:∀n∈ns,0<=n
noncomputable def bagD(x y z:Int)(ns:List Int):D:=.l false [.int x,.int y,.int z,.l false (ns.map .int)]
def lawE:VEnds where
 nx _:=False
 rt d _:=d.asB=some true
 bk _:=False
 ct _:=False
 xe _ _:=False
theorem qal3{c:Vc}{X:Cx}{rest:List Ls}{t:VTS}{H:Hp}{E:Bs}{p L:γ}{x y z:Int}{ns:List Int}(e:c.av.length=2+n)(k:∀i,c.W i=false)(a:c.gv=[])(l:H p=some (.l [.int x,.int y,.int z,.ref L]))(m:H L=some (.l (ns.map V.int)))(o:L≠p)(s:∀H',E.rt (.bl true) H')(u:t lawE (.hole w::bagD x y z ns::Ma n .u)):Ew c t E (some w::some (.ref p)::Ma n none) H:=by
 have L0:Locs (λ_=>False) H (some w::some (.ref p)::Ma n none) (.hole w::bagD x y z ns::Ma n .u) ([]++((p::([]++([]++([]++((L::[])++[])))))++[])) :=
  .so (.hole w) (.so (.l l (.cons (.int x) (.cons (.int y) (.cons (.int z) (.cons (.l m (qB9 ns)) .nil))))) (qC3 n))
 refine⟨λ_=>False,_,_,lawE,⟨by rw[a,zAe];exact L0,⟨λb=>?_,λb f=>f.elim,λb f=>f.elim⟩,by rw[a,e];simp;lia,λi h=>by rw[k i] at h;cases h⟩,⟨λ_ _ _ _ _ z=>Oz z,λd A v B' H' F' T A' q r _ _ _=>by rw[r.asB q];exact s H',λ_ _ _ _ _ z=>Oz z,λ_ _ _ _ _ z=>Oz z,λ_ _ _ _ _ _ _ z=>Oz z⟩,u⟩;by_cases g:p=b;{subst g;simp[o]};by_cases j:L=b;{subst j;simp[g]};simp[g,j]
section
variable{c:Vc}{b d e o:Lr}{Z Y oc:Bool}{fa fb X:FV}
def f3(g g':D->D->Option D)(fa fb X:FV):FV:=λds=>(fa ds).bind λx=>(fb ds).bind λy=>(g x y).bind λz=>z.asB.bind λk=>if k=true then (X ds).bind λu=>g' y u else some (.bl false)
theorem qaD9{j:R2}(h:Ba true r g)(h':Ba true j g'):∀W H Q,liftV c true (f3 g g' fa fb X) W H Q->qaG9 r j (liftV c Z fa) (liftV c Y fb) (liftV c oc X) W H Q:=by rintro W H Q ⟨F,f,A,d,S,e,q⟩;obtain⟨x,B,e⟩:=zA1.mp e;obtain⟨y,e2,e⟩:=zA1.mp e;obtain⟨z,C,e⟩:=zA1.mp e;obtain⟨k,E,e⟩:=zA1.mp e;refine⟨F,f,A,x,S,B,λv H1 B1 G l R=>⟨F,f,A,y,S.same l,e2,λw H2 B2 m n T=>?_⟩⟩;refine h F H2 v w x y _ z _ (F6 (G.same n) m) C λu H3 B3 I p U=>⟨k,I.asB E,?_⟩;have a:=(l.trans n).trans p;cases k with|false=>rw[if_neg ∅] at e ⊢;cases e;exact q _ H3 [] (.bl _) a λ_=>New.nil|true=>rw[if_pos rfl] at e ⊢;obtain⟨s,J,K⟩:=zA1.mp e;refine⟨F,f,A,s,S.same a,J,λL H4 B4 M i V=>?_⟩;refine h' F H4 w L y s _ d Q (F6 ((m.same p).same i) M) K λN H5 B5 O P t=>q N H5 B5 O ((a.trans i).trans P) λ_=>⟨t.one,λb o e=>t.new b o (i b o (a b o e))⟩
end
section
variable{c:Vc}{X:Cx}{a b d e:Lr}{N:Pos}{R T U:Bool}{fa fb O:FV}
theorem vch{e:CmpOp}{i:R2}(j:OpR X (Ky op) r)(h:Ba true r g)(f:OpR X (Ky e) i)(h':Ba true i g')(k:VV c X a R fa)(l:VV c X b T fb)(m:VV c X d U O)(hm:lastMarks [op,e] [b,d]=false:=by with_unfolding_all rfl):VV c X (.Compare a [op,e] [b,d] N) true (f3 g g' fa fb O):=⟨PE.mono (qay3 j f k.h l.h m.h hm) (qaD9 h h')⟩
def Iq(x:D):Option D:=match x with|.l _ ys=>(intsD ys).bind λns=>gd (ns.length<=1000) (.int (qn6 ns))|_=>none
theorem vlenS{p cpos:Pos}(g:X.mg "len"=none)(i:X.mg "set"=none)(o:VV c X a R fa)(j:Gl X "len" := by rfl)(k:Gl X "set" := by rfl)(r:X.calm=true:=by rfl)(n:Kw [a] X.env=(false,eval a X.env)::Kw [] X.env:=by rfl)(l:((backTo cpos (Kw [] X.env)).any λx=>x.1)=false:=by rfl)(b:Kw [.Call (.Name "set" p2) [a] [] cpos] X.env=(false,eval (.Call (.Name "set" p2) [a] [] cpos) X.env)::Kw [] X.env:=by rfl)(f:((backTo N (Kw [] X.env)).any λx=>x.1)=false:=by rfl):VV c X (.Call (.Name "len" p) [.Call (.Name "set" p2) [a] [] cpos] [] N) true (f1 Iq fa):=by refine⟨PE.mono (cbi qao3 g (qe7 (cty (qao1 r) i (qe7 o.h qu0 n) k (by rfl) ∅ ∅ n l) qu0 b) j (by rfl) ∅ ∅ b f) λM H Q m=>?_⟩;obtain⟨F,s,A,d,S,e,q⟩:=m;obtain⟨x,t,e2⟩:=qam6.mp e;cases x with|l z J=>obtain⟨u,w,y⟩:=zA1.mp e2;obtain⟨B,rfl⟩:=qj1 y;refine⟨F,s,A,_,S,t,λv H1 B1 C D K=>?_⟩;obtain⟨a,L,A2,rfl,E,G,_⟩:=C.lst_inv;cases G.intsD w;exact⟨a,u,rfl,.inl (.inl E),B,λp St I=>⟨p,St,_,rfl,qb3,(q _ _ [] (.int _) (D.trans (Same.new I)) λ_=>New.nil)⟩⟩|_=>cases e2
def B7(f:Ds->Option D):VSp:=λds Q _=>orF (f ds) λd=>Q d ds
theorem qu4:Bp (B7 f):=λa Q Q' e b c _=>qa5 λd=>c d a
noncomputable def wOf(l:List Bool)(i:Nat):Bool:=l.getD i false
end
section
variable{c:Vc}{X:Cx}{NY:List Str}{sc:Scope}{src:List (Option Nat)}{tg elt e o a b:Lr}{ifs:List Lr}{g:VTG}{qf:VTT}{te:VT}{pos px spos p0:Pos}{x xn:Str}
def Hs(en:Ds->List D)(src:List (Option Nat))(i:Nat)(g:VTG)(qf:VTT)(te:VT):VT:=λds Q xe=>orF (rdN i ds) λd=>orF d.lstOf λys=>D.imms ys=true/\Fa g qf te (λacc ι'=>Q (.l false acc) ((F4 src ι' (Bw src (ds.set i .u)).2).set i d)) (en ys) [] (Bw src (ds.set i .u)).1
theorem qB1(bl:Blk X NY sc src tg ifs elt g qf te):Gn (Hs en src i g qf te):=λe Q Q' f a b h=>qa5 λd=>qa5 λj=>N7 (qi6 bl (λc ι=>b _ _) _ _ _)
theorem qat8{J:γ->It}(bl:Blk X NY sc src tg ifs elt g qf te)(E:X.N[i]?=some xn)(G:∀{a:γ}{vs:List V}{z:Bool}{ys:Ds}{T:List γ}{τ:List (Option V)}{o0:Ds}{Dd:γ}{F0:γ->Prop}{H0 H:Hp}{A0:List γ}{K0:Ds->Ds->Prop}{av:List (Option V)}{Q:Hp->Prop}{σ':St},D.imms ys=true->Mid src av (λF H=>Pa F H (.ref a) (.l z ys) T/\H a=some (.l vs)) T τ o0 Dd F0 H0 A0 g qf te K0 (en ys) σ' H->(∀σ2 H2,Mid src av (λF H=>Pa F H (.ref a) (.l z ys) T/\H a=some (.l vs)) T τ o0 Dd F0 H0 A0 g qf te K0 [] σ2 H2->Q H2)->qq1 (J a) (ql5 src g) (ql4 src qf) (Bj src te) Dd Q σ' H)(j:∀σ H R,F5 i σ H (λx H1=>∃a,x=.ref a/\(∃xs,SqL K H1 a xs)/\R (J a) H1)->wi σ H R):Imp c X (Hs en src i g qf te) (Ep wi src (ql5 src g) (ql4 src qf) (Bj src te)):=by
 rintro E6 s σ H Q I ⟨F,L,A,xe,S,x,q⟩;have h:=bl.lt E6 σ H s I;refine j σ H _ ?_;obtain⟨d,k,q⟩:=qa7.mp q;obtain⟨k,hk⟩:=qk2.mp k;obtain⟨ys,M,O,q⟩:=qa7.mp q;obtain⟨z,rfl⟩:=qx2 M;obtain⟨v,B,C,l,r,t,P⟩:=S.put1 k D.noConfusion;have n:=l;rw[zAq (qk9 E E6 σ H s I)] at l;obtain⟨A1,U,q2⟩:=P .u [] (Kp.same λ_ _ z=>z) (λ_ _ z=>z) (.u v);have u:Ok F H (B++A1):=S.ok.count λb=>by rw[zA0,q2,t];simp
 have Y:Pc F H A F H (B++A1):=⟨λb o e _=>e,λb o e z=>by rw[zA0,q2];have:=t b;simp;lia,λ_ f=>f,λ_ _ _ _ f=>f⟩;have S1:Pd c F H σ (L.set i .u) A1:=⟨U,u.right,S.len,S.ag⟩;obtain⟨a,vs,Ael,rfl,w,rs,_⟩:=r.lst_inv;refine⟨.ref a,l,a,rfl,⟨vs,.inl (.inl w)⟩,λDd Z=>G O (qy1 h S1 u ⟨r,w⟩ qq2 Z (qi6 bl (λa0 ι q v H' F' B' A' rv S' hp y s=>?_) _ _ _ q)) λσ2 H2 m=>qy2 h S1 m⟩;obtain⟨A2,k1,k2⟩:=qB4 S'.loc n hp.1;have p:∀b,(B'++A2).count b<=(B'++(B++A')).count b:=λb=>by have:=k2 b;simp only[zA0] at *;lia
 exact q v H' F' B' A2 rv ⟨k1,(y.count p).right,S.len,S.ag⟩ (y.count p) ((Y.trans s).count p)
theorem qaO5(bl:Blk X NY sc src tg ifs elt g qf te)(a:X.N[i]?=some xn):Imp c X (Hs (λys=>ys) src i g qf te) (Ep (Hw K (F5 i)) src (ql5 src g) (ql4 src qf) (Bj src te)):=qat8 bl a (λb m d=>qH6 bl b m d) λσ H R h=>h
theorem qaO7(bl:Blk X NY sc src tg ifs elt g qf te)(b:X.N[i]?=some xn):Imp c X (Hs enD src i g qf te) (Ep (iEnum K (tCons (F5 i) tNil)) src (ql5 src g) (ql4 src qf) (Bj src te)):=qat8 bl b (λd m f=>qag9 bl d m f) λσ H R ⟨v,h,a,e,j,k⟩=>⟨v,h,a,by rw[e],j,k⟩
theorem ecN(i:Nat)(bl:Blk X NY sc src tg ifs elt g qf te)(b:X.N[i]?=some xn:=by rfl)(d:Vis X.env.scope xn:=by first|exact O1 rfl|exact O0 (O1 rfl)|exact O0 (O0 rfl))(e:N' xn:=by decide)(a:(xn==("__classdict__" : Str))=false:=by decide)(f:X.calm=true:=by rfl)(h:qp7 X NY src sc=true:=by rfl)(j:∀x,Kz (.Name xn p0) X.env x=pure x:=by intro _;rfl):VE c X (.ListComp elt [⟨tg,.Name xn p0,ifs,0⟩] sc pos) (Hs (λys=>ys) src i g qf te):=qT2 (qw6 NY src (qs7 (ql3 b d e a)) bl.pg bl.pf bl.pe f h j) (qaO5 bl b) (qB1 bl)
theorem ecEN(i:Nat){e:Nat}(hm:X.mg "enumerate"=none)(bl:Blk X NY sc src (.Tuple elts e tpos) ifs elt g qf te)(f:X.N[i]?=some xn:=by rfl)(h:Vis X.env.scope xn:=by first|exact O1 rfl|exact O0 (O1 rfl)|exact O0 (O0 rfl))(j:N' xn:=by decide)(b:(xn==("__classdict__" : Str))=false:=by decide)(d:Gl X "enumerate" := by rfl)(a:Kw [.Name xn p0] X.env=[(false,eval (.Name xn p0) X.env)]:=by rfl)(k:X.calm=true:=by rfl)(l:qp7 X NY src sc=true:=by rfl)(m:∀x,Kz (.Call (.Name "enumerate" p) [.Name xn p0] [] cpos) X.env x=pure x:=by intro _;rfl):VE c X (.ListComp elt [⟨.Tuple elts e tpos,.Call (.Name "enumerate" p) [.Name xn p0] [] cpos,ifs,0⟩] sc pos) (Hs enD src i g qf te):=qT2 (qw6 NY src (qaJ8 d hm (qe7 (ql3 f h j b) qu0 a) a) bl.pg bl.pf bl.pe k l m) (qaO7 bl f) (qB1 bl)
theorem scN(i j:Nat)(b:X.N.Nodup)(bl:Blk X NY sc src tg ifs elt g qf te)(k:c.W i=false:=by rfl)(h:X.N[j]?=some xn:=by rfl)(l:Vis X.env.scope xn:=by first|exact O1 rfl|exact O0 (O1 rfl)|exact O0 (O0 rfl))(m:N' xn:=by decide)(d:(xn==("__classdict__" : Str))=false:=by decide)(a:X.N[i]?=some x:=by rfl)(n:Loc X.env.scope x:=by first|exact O1 rfl|exact O0 rfl)(o:X.calm=true:=by rfl)(p:qp7 X NY src sc=true:=by rfl)(e:swapsWith (.ListComp elt [⟨tg,.Name xn p0,ifs,0⟩] sc pos) (some (.Name x px)) spos.line X.env=pure true:=by rfl)(q:∀x,Kz (.Name xn p0) X.env x=pure x:=by intro _;rfl)(f:X.fn x=true∨X.env.scope.names.lookup x=some .local:=by first|exact .inl rfl|exact .inr rfl|assumption):VS c X (.Assign [.Name x px] (.ListComp elt [⟨tg,.Name xn p0,ifs,0⟩] sc pos) spos) (Em (Hs (λys=>ys) src j g qf te) (gNm i)):=qaF3 (qaq3 i NY src b (qs7 (ql3 h l m d)) bl.pg bl.pf bl.pe a n o p e q f) (qaO5 bl h) (qB1 bl) k a
theorem qag1(h:ds[i]?=some (.hole w)):bk1 i [] w d0 ds=some (ds.set i d0):=by unfold bk1 Av;rw[qs6 h];simp only[if_true];unfold Av;rw[qv4 h]
theorem qk5{g:VTG}{qf:VTT}{te:VT}{K:Ds->Ds->Prop}(I:Ds->Prop)(f:D->Option D):∀(xs:List D)(acc ι:Ds),acc.length+xs.length<big->I ι->(∀x∈xs,∀ι acc,I ι->∀R:Ds->Ds->Prop,(∀ι',I ι'->R (acc++(f x).toList) ι')->acc.length<big->g x ι λι1=>qf ι1 (λb ι2=>if b=true then te ι2 (λd ι3=>acc.length<big/\R (acc++[d]) ι3) (λ_ _=>False) else R acc ι2) (λ_ _=>False))->(∀ι',I ι'->K (acc++xs.filterMap f) ι')->Fa g qf te K xs acc ι|[],acc,ι,_,h,_,hK=>by have:=hK ι h;rw[Nb,zAe] at this;exact this|x::xs,acc,ι,hl,h,hs,hK=>by refine hs x zA9 ι acc h (λa i=>Fa g qf te K xs a i) (λι' hι=>?_) (by simp at hl;lia);refine qk5 I f xs _ ι' ?_ hι (λy e=>hs y (zA4 _ e)) λι2 j=>?_;{cases c:f x with|none=>simp at hl ⊢;lia|some y=>simp at hl ⊢;lia};have:=hK ι2 j;rw[zC5] at this;cases c:f x with|none=>rw[c] at this;simpa using this|some y=>rw[c] at this;simpa using this
end
def spX1(C:γ)(fl:Str):Sp:=λvs H Q _=>∃(e:γ)(v:V),vs=[.ref e,v]/\H e=some (Bi e C none true)/\∀dx,H dx=none->dx≠e->Q .non (upd (upd H dx (XD dx [(fl,v)])) e (Bi e C (some dx) true))
section
variable{c:Vc}{X:Cx}{e:Lr}{te:VT}{pos cpos np:Pos}{k:Nat}{f C:γ}{fd:δ}{ps:List Str}{x fl:Str}
def qO6(C:γ)(fl:Str)(te:VT):VTS:=λe ds=>te ds (λd a=>d.imm=true/\e.xe ⟨C,[(fl,d)]⟩ a) e.xe
theorem qq3(M:MkE X.K C f)(Fn:Fi X.prog X.w X.K X.mg X.base CX0 k f fd ps (spX1 C fl))(L:Room (k+1) X.A)(hm:X.mg x=some (.ref C))(N:Binds X.K fd ps [])(O:Lands X c.E)(n:VE c X e te)(P:Gl X x:=by rfl)(p:N' x:=by decide)(I:Kw [e] X.env=(false,eval e X.env)::Kw [] X.env:=by rfl)(t:(backTo cpos (Kw [] X.env)).any (·.1)=false:=by rfl):VS c X (.Raise (some (.Call (.Name x np) [e] [] cpos)) none pos) (qO6 C fl te):=by
 refine⟨PS.mono (qax0 M Fn L hm N O (qe7 n.h qu0 I) P p I t) λE Z H y=>?_,λe Y J h=>n.m _ _ _ _ _ (λd i z=>⟨z.1,h.xe _ _ z.2⟩) h.xe⟩;obtain⟨F,J,A,ends,S,l,q⟩:=y;refine⟨F,J,A,ends.xe,S,l.xe,n.m _ _ _ _ _ (λd i ⟨Q,q⟩ v H' F' T A' r S' o s=>?_) (λ_ _ z=>z) q⟩;refine⟨by show 1<=1000;decide,λa R=>⟨a,v,rfl,qb3,λg U B=>⟨rfl,some g,qb3,?_⟩⟩⟩;have V:H' g=none:=by rwa[qb4 B] at U
 obtain rfl:=r.imm Q;have D:Same H' (upd (upd (upd (upd H' a (Bi a C none true)) g (XD g [(fl,v)])) a (Bi a C (some g) true)) a (Bi a C (some g) false)):=λb u j=>by
  have G:b≠a:=λz=>by rw[z,R] at j;cases j
  have W:b≠g:=λz=>by rw[z,V] at j;cases j
  rw[qb4 G,qb4 G,qb4 W,qb4 G];exact j
 refine l.xe ⟨C,[(fl,d)]⟩ i Z a _ F' A' q ⟨some g,qb3,.inr ⟨g,[(fl,v)],rfl,?_,rfl,?_⟩⟩ (S'.same D) ((s.count λb=>by rw[zA0];lia).trans (Pc.same D));{rw[qb4 B,qb4 B,qb3]};exact .cons (r.same D) .nil
end
theorem vdct0{c:Vc}{X:Cx}{pos:Pos}:VV c X (.Dict [] [] pos) true (λ_=>some (.dct false [])):=⟨PE.mono qay1 λf H Q ⟨F,b,A,d,S,e,q⟩ p a=>by
   cases e;exact q _ _ [p] (.dct (kvs:=[]) (kds:=[]) qb3 rfl .nil) (Same.new a) λ_=>qe8 a⟩
structure MdN(K:Oa)(C:γ)(m qual:Str)(st:Ls)(f:γ)(fd:δ)(ps:List Str):Prop where
 F:FunE K m qual st f fd
 b:Binds K fd ps []
 bn:Binds K fd ps [.none]
 me:Jm K C m f
 isf:W.isFn K (.ref f)=true
section
variable{X:Cx}{c:Vc}
theorem qaQ8(i:Cl X.K X.mg x C)(M:Mk X.K C f)(D:MdN X.K C m qual st f fd ps)(G:Gc cm X.prog X.w X.K X.mg X.base k f fd ps s)(j:Lands X c.E)(l:Pe cm (k+1) X.A)(a:VAs c X (e::es) tr)(n:Gl X x:=by rfl)(d:N' x:=by decide)(o:Kw (e::es) X.env=(false,eval e X.env)::Kw es X.env:=by rfl)(g:(backTo pos (Kw es X.env)).any (·.1)=false:=by rfl):VE c X (.Call (.Name x p) (e::es) [] pos) (qT3 C s [] tr):=⟨PE.mono (qar0 M G.ok l n i.m D.b .nil j.passes a.h d o g) (qar7 qy0 G.m a),qP7 G.m a⟩
end
theorem mdmkN{od:Option γ}{kV j:V'}(l:K.lookup f=some ⟨oc,od,.func (W.fnOf m qual (qe9 st) (qd0 st) (qa3 st) (.ref T) kV e h g d j),p⟩)(c:W.codeIn K d qual=true)(k:W.keepIn K (.ref f)=true)(a:W.findIn K (.ref C) m=some (some (.ref f)))(i:W.isFn K (.ref f)=true)(t:K.lookup T=some ⟨to,td,.seq #[.none] n,q⟩)(b:∀(kV e h:V')(g:Option γ)(d j:V')(us:List V'),us.length=ps.length->∃k,bindArgs (W.fnOf m qual (qe9 st) (qd0 st) (qa3 st) (.ref T) kV e h g d j) ⟨us,[]⟩=seqItems? (.ref T) >>= k/\k (some #[.none])=pure (ps.zip us))(v:∀(kV e h:V')(g:Option γ)(d j:V')(us:List V'),us.length+1=ps.length->∃k,bindArgs (W.fnOf m qual (qe9 st) (qd0 st) (qa3 st) (.ref T) kV e h g d j) ⟨us,[]⟩=seqItems? (.ref T) >>= k/\k (some #[.none])=pure (ps.zip (us++[.none]))):MdN K C m qual st f (W.fnOf m qual (qe9 st) (qd0 st) (qa3 st) (.ref T) kV e h g d j) ps:=⟨⟨⟨_,_,_,_,_,_,_,_,_,_,rfl,l,c⟩⟩,λs us X o=>(by
   rw[zAe] at o ⊢;obtain⟨k,r,u⟩:=b kV e h g d j us o;exact W.binds_K X rfl t rfl r u),λs us X o=>(by
   obtain⟨k,r,u⟩:=v kV e h g d j us (by rw[zAf] at o;exact o);exact W.binds_K X rfl t rfl r u),⟨a,i,k⟩,i⟩
end LV
namespace L2
open PySem PySem.Spec PyProof.Rows
section
variable{prog:Ln}{w:Lq}{A:Lp}{E:V'->Sh->Prop}{s:Sh}{K:Oa}{x C:γ}
theorem qan0{Q:Option V'->Sh->Prop}{ox:Obj}{a:Option Obj}(X:K.In s.heap)(c:Exc K C)(I:W.InstAt s.heap x ox C a)(b:W.findObj K C a "__class__"=some (.bind (.builtin "getset_descriptor.__get__") (.builtin "object.__class__")))(hm:W.mroIn K C (.type "object")=some true)(h:Q (some (.ref C)) {s with toks:=s.toks+1}):Ll (Lm prog w) A (getAttr? (.ref x) "__class__") Q E s:=by
 have FB:=Om;obtain⟨e,g,d,t,f⟩:=s;have L0:=I.type (M:=Lm prog w);have L1:=W.looks_findIn (M:=Lm prog w) X c.ga;have L2:=W.looks_findIn (M:=Lm prog w) X c.gt;have L3:=W.looks_find (M:=Lm prog w) X I b;have i:builtinKind "BaseException.__getattribute__"=some .slot:=by decide +kernel
 have j:splitId "BaseException.__getattribute__"=some ("BaseException", "__getattribute__"):=by decide +kernel
 unfold getAttr? getAttrBy? getAttrBy;refine J' (wpAny_mkText (J' (wpAny_attempt (K4 (J' (L0.at (J' (L1.at ?_))))))));dsimp only;have k:(N0 "BaseException.__getattribute__"==N0 "object.__getattribute__")=false:=by decide +kernel
 rw[k,Bool.and_false,if_neg zAs];unfold getAttrByItsOwn hookBefore;refine J' ?_;rw[if_pos (by rfl)];refine L2.at ?_;unfold callGetattribute boundAndCalled;rw[if_neg ∅];refine J' (wpAny_attempt (K4 ?_));rw[FB.ga.bind (.ref x)];refine J' (Kv (wpAny_call ?_));refine codeAny_call_builtin FB.ga.plain Ov (@W.check_slot (Lm prog w) _ _ _ "BaseException.__getattribute__" "BaseException" "__getattribute__" (.ref x) [.str "__class__" t] [] _ i j (L0.andThen (W.looks_mroIn X c.be)) (Ow (.ref x) (.str "__class__" t)) ?_);unfold Builtin.«object.__getattribute__»;refine J' (Kv (J' (Kv (J' (L0.at (J' (L3.at ?_)))))));dsimp only;refine J' (K4 (wpAny_call (W.class_get (s:=⟨e,g,d,t+1,f⟩) (ox:=ox) (od:=a) X I hm ?_)));refine Kv ?_;exact W.handed_on rfl (Kv h)
end
structure IsX(K:Oa)(C:γ):Prop where
 ex:Exc K C
 ca:W.findIn K (.ref C) "__class__"=some (some (.builtin "object.__class__"))
 cn:W.specialIn K (.builtin "object.__class__") "__get__"=some (some (.builtin "getset_descriptor.__get__"))
 ct:W.takesIn K (.builtin "object.__class__")=some true
theorem qad4{K:Oa}{x C:γ}{ox od:Obj}(i:IsX K C):W.KitX K (.ref x) (.ref C) (λh=>W.InstAt h x ox C (some od)) where
 ty:=λ_ _ _ I=>I.type
 it:=λ_ _ X _=>by
  obtain⟨b,a,_⟩:=W.any_some i.ex.hd;unfold W.clsIn at a;split at a
  .rename_i c' d' cd' sl' ho
   intro A' Q' E' g k q;unfold isType loadHead;exact J' (wpAny_loadPart (k _ _ (X _ _ ho)) (Kv q))
  cases a
 ne:=λh j l d n m X c=>by
  obtain⟨b,a,_⟩:=W.any_some i.ex.hd;refine Bool.eq_false_iff.mpr λq=>?_
  have e:=Value.ref.inj (zBj.mp q);subst e;unfold W.clsIn at a;split at a
  .rename_i c' d' cd' sl' ho
   cases ((X _ _ ho).symm.trans c)
  cases a
 ca:=λX I k=>qan0 X i.ex I (W.findObj_data (by obtain⟨o,f,_⟩:=W.any_some i.ex.hd;rw[f];rfl) i.ca i.cn i.ct) i.ex.ob k
def rIsX(K:Oa):List V->Hp->VK->Prop:=λxs H Q=>∃a d u C dx fr fs b,xs=[.ref a,d]/\O8 d u/\(∀c,O8 d c->c=u)/\H a=some (Bi a C (some dx) fr)/\H dx=some (XD dx fs)/\IsX K C/\Ob K (.ref C) u=some b/\Q (.bl b) H
theorem qaE0{X:Cx}:CallR X (.builtin "isinstance") (rIsX X.K):=by intro E6 s T H D E Q I r h;obtain⟨a,d,u,C,F,G,J,b,rfl,L,c,e,f,ix,g,q⟩:=h;obtain⟨i,M,rfl,j,k⟩:=Fp r;obtain rfl:i=Nw a:=j;obtain rfl:=c _ k;obtain⟨l,N,m,n,o,p,_⟩:=qG4 I.hok e;obtain⟨O,t,r,P,_⟩:=Hy I.hok f;obtain⟨R,v,w⟩:=qo6 t;obtain⟨S,x,y,A⟩:=l;subst n o p;exact W.kia_one (qad4 ix) I.kIn (⟨m,rfl,rfl,v⟩) g (λz=>nomatch z) λB=>⟨.bl b,H,I.tok B,rfl,q⟩
end L2
namespace LV
open PySem L2
section
theorem qA3{F:γ->Prop}{H:Hp}{f:Str}{d:D}:∀(a:List (Str×V))(b:List (Str×D)),a.map (·.1)=b.map (·.1)->O4 F H (a.map (·.2)) (b.map (·.2)) []->b.lookup f=some d->∃v,a.lookup f=some v/\Pa F H v d []|[],[],_,_,h=>by cases h|[],_::_,e,_,_=>by cases e|_::_,[],e,_,_=>by cases e|(k,v)::a,(k',d')::b,e,r,h=>by have g:=(List.cons.inj e).1;subst g;have r:=r;generalize i:([]:List γ)=N at r;cases r with|@cons _ _ B _ _ B' h1 t=>obtain⟨rfl,rfl⟩:=List.append_eq_nil_iff.mp i.symm;rw[zAp] at h ⊢;cases c:f==k with|true=>rw[c] at h;cases h;exact⟨v,rfl,h1⟩|false=>rw[c] at h;exact qA3 a b (List.cons.inj e).2 t h
end
theorem rm(r:Pe cm k A)(h:j<=k:=by decide):Pe cm j A:=r.mono h
theorem VFn.mk2(Fu:Fun K x qual st f fd)(Sc:qa8 N ps (qa3 st))(W:Nat->Bool)(c:Bp s)(h:∀ds Q xe,s ds Q xe->ds.length=ps.length/\G2 W 0 ds=true)(hbody:∀(a:V')(A:Lp)(outer:List Env)(b:Sh)(H:Hp)(E:XK)(av:List (Option V)),Pe cm k (A.deeper (PyProof.Rows.envOfC qual (qa3 st) b.heap.objs.size f a))->∃t,VSs ⟨λ_=>E,W,av,[]⟩ (E8 cm (CX1 P w) P w K mg base N qual (qa3 st) f a A outer b H E) (qd0 st) t/\∀ds Q xe,s ds Q xe->t (qan2 W ds Q xe) (ds++Ma (N.length-ds.length) .u)):Gc cm P w K mg base (k+1) f fd ps s:=VFn.mk' Fu Sc W c (λds Q xe z=>(h ds Q xe z).1) (λds Q xe z=>(h ds Q xe z).2) hbody
end LV
namespace S6
open PySem PyProof.Rows
variable{N bs q:Nat}{arr xs:Array L5}{f:Nat->L5}{key:L5}{kf:V'->Int×Int}{l:Bool}{vs:List V'}
section
variable{f:Type}{le:f->f->Bool}
theorem mg_l{A2:List f}:∀{A1 Y:List f},(∀a∈A1,∀y∈Y,le a y=true)->Mb (A1++A2) Y le=A1++Mb A2 Y le|[],_,_=>rfl|x::A1,[],_=>by simp|x::A1,y::Y,h=>by rw[zBy,zB9,if_pos (h x (by simp) y (by simp)),mg_l λa b=>h a (by simp[b])];rfl
theorem mg_r{B2:List f}:∀{B1 X:List f},(∀b∈B1,∀x∈X,le x b=false)->Mb X (B1++B2) le=B1++Mb X B2 le|[],_,_=>rfl|b::B1,[],_=>by simp|b::B1,x::X,h=>by rw[zBy,zB9,if_neg (by simp[h b (by simp) x (by simp)]),mg_r λa c=>h a (by simp[c])];rfl
theorem Kf{A2:List f}:∀{A1 Y:List f},(∀a∈A2,∀y∈Y,le a y=false)->Mb (A1++A2) Y le=Mb A1 Y le++A2|[],Y,h=>by have:=mg_r (B2:=[]) λy c a b=>h a b y c;simpa using this|x::A1,[],_=>by simp|x::A1,y::Y,h=>by rw[zBy,zB9,zB9];split;{rw[Kf h];rfl};rw[<-zBy,Kf λa b z d=>h a b z (by simp[d])];rfl
theorem Ir{B2:List f}:∀{B1 X:List f},(∀b∈B2,∀x∈X,le x b=true)->Mb X (B1++B2) le=Mb X B1 le++B2|[],X,h=>by have:=mg_l (A2:=[]) λy d a c=>h a c y d;simpa using this|b::B1,[],_=>by simp|b::B1,x::X,h=>by rw[zBy,zB9,zB9];split;{rw[<-zBy,Ir λa c z e=>h a c z (by simp[e])];rfl};rw[Ir h];rfl
end
noncomputable def gal:Bool->L5->Array L5->Nat->Nat->Nat->StateT L6 Sem (Option Nat):=sortPriv% PySem.Builtin.gallop
def bey(l:Bool)(key:L5)(arr:Array L5)(i:Nat):StateT L6 Sem (Option Bool):=do
 let x<-elem' arr i
 if l then lt' x key else return (<- lt' key x).map (!·)
theorem qba5(l:Bool)(key:L5)(arr:Array L5)(bs n g:Nat):gal l key arr bs n g=(do
 let mut p:=0
 let mut o:=1
 let mut u:=0
 let mut v:=0
 let some t<-bey l key arr (bs+g)|return none
 if t then
   let mo:=n-g
   for _ in [0:n] do
     if o ≥ mo then break
     let some c<-bey l key arr (bs+(g+o))|return none
     if !c then break
     p:=o
     o:=2*o+1
   u:=g+p+1
   v:=g+min o mo
 else
   let mo:=g+1
   for _ in [0:n] do
     if o ≥ mo then break
     let some c<-bey l key arr (bs+(g-o))|return none
     if c then break
     p:=o
     o:=2*o+1
   u:=g+1-min o mo
   v:=g-p
 for _ in [0:n] do
   if u ≥ v then break
   let m:=u+(v-u)/2
   let some c<-bey l key arr (bs+m)|return none
   if c then u:=m+1 else v:=m
 return some v):=rfl
section
variable{M:Model}{A:Lp}{E:V'->Sh->Prop}{s:Sh}{l n o:Type}{Q:o->l->Prop}{m:l}
theorem gB{f:l->StateT l Sem o}(h:wpS M A E s (f m) Q m):wpS M A E s (get >>= f) Q m:=Lu (wpS_get h)
theorem rB{f:Unit->StateT l Sem o}(h:wpS M A E s (f ()) Q m):wpS M A E s (liftM (rule t) >>= f) Q m:=Lu (wpS_lift (Lf ⟨rfl,h⟩))
theorem fB{f:Nat->n->StateT l Sem (ForInStep n)}(I:Nat->n->l->Prop)(R:n->l->Prop)(h1:∀F,f=F->∀i c m,a<=i->i<b->I i c m->∀K:ForInStep n->l->Prop,(∀e d,R e d->K (.done e) d)->(∀e d,I (i+1) e d->K (.yield e) d)->wpS M A E s (F i c) K m)(h2:∀c m,I (max a b) c m->R c m)(j:I a c m)(k:∀F,g=F->∀c m,R c m->wpS M A E s (F c) Q m):wpS M A E s (forIn [a:b] c f >>= g) Q m:=Lu (wpS_mono (wpS_forRange I (λi c m x y z=>h1 f rfl i c m x y z _ (λ_ _ h=>h) λ_ _ h=>h) h2 j) (k g rfl))
end
structure Od(lt:L5->L5->Bool):Prop where
 as:∀x y,lt x y=true->lt y x=false
 tr:∀x y z,lt y x=false->lt z y=false->lt z x=false
def Cm(prog:Ln)(w:Lq)(A:Lp)(s:Sh)(kd:SortKind)(P:L5->Prop)(lt:L5->L5->Bool):Prop:=∀x y,P x->P y->∀(E:V'->Sh->Prop)(Q:Bool->Sh->Prop),Q (lt x y) s->Ll (Lm prog w) A (keyLt' kd x.1 y.1) Q E s
section
variable{prog:Ln}{w:Lq}{A:Lp}{E:V'->Sh->Prop}{s:Sh}{kd:SortKind}{P:L5->Prop}{lt:L5->L5->Bool}{st:L6}
theorem Od.ir(h:Od lt)(x:L5):lt x x=false:=by cases e:lt x x with|false=>rfl|true=>rw[h.as x x e] at e;cases e
theorem wlt(a:Cm prog w A s kd P lt)(b:L7 st=kd)(c:P x)(d:P y)(h:Q (some (lt x y)) st):wpS (Lm prog w) A E s (lt' x y) Q st:=by rw[lt'_eq];refine gB ?_;rw[b];exact Lu (wpS_lift (wpAny_attempt (a x y c d _ _ ⟨rfl,Lv h⟩)))
theorem wel(hi:arr[i]?=some p)(h:Q p st):wpS (Lm prog w) A E s (elem' arr i) Q st:=by rw[elem'_eq,hi];exact Lv h
def B(lt:L5->L5->Bool)(l:Bool)(key x:L5):Bool:=if l then lt x key else !lt key x
theorem wif{α:Type}{c:Prop}[Decidable c]{m n:StateT L6 Sem α}{Q:α->L6->Prop}(h1:c->wpS (Lm prog w) A E s m Q st)(h2:¬c->wpS (Lm prog w) A E s n Q st):wpS (Lm prog w) A E s (if c then m else n) Q st:=by by_cases h:c;{rw[if_pos h];exact h1 h};rw[if_neg h];exact h2 h
section
variable{u v n x i g o p:Nat}
theorem l2o(o:Nat):o+1<=2*o+1:=⋯
theorem g1(c:¬u ≥ v)(h:v-u<=n-x):u+(v-u)/2<v/\v-(u+(v-u)/2+1)<=n-(x+1)/\u+(v-u)/2-u<=n-(x+1):=by
 have q:=Nat.div_lt_self (Nat.sub_pos_of_lt (Nat.lt_of_not_le c)) (zA3 2);generalize (v-u)/2=m at *
 have t:=Nat.sub_le_sub_right h 1;exact⟨Nat.add_lt_of_lt_sub' q,zAg (Nat.sub_le_sub_left (zCl (zCk u m)) v) t,by rw[Nat.add_sub_cancel_left];exact zAg (Nat.le_pred_of_lt q) t⟩
theorem g2(h:v-u<=n-max 0 n)(hi:i<v):i<u:=⋯
theorem g3(h:max 0 n+1<=o)(h':o<n-g):False:=⋯
theorem g8(h:max 0 n+1<=o)(a:g<n)(h':o<g+1):False:=⋯
theorem g4(h:p<o)(h':g+p<n):g+p+1<=g+min o (n-g)/\g+min o (n-g)<=n:=⋯
theorem g5(h:g+min o (n-g)<=i)(h':i<n):g+o<=i/\o<n-g:=⋯
theorem g6(h:p<o)(h':p<=g):g+1-min o (g+1)<=g-p:=⋯
theorem g7(h:i<g+1-min o (g+1)):i<=g-o/\o<g+1:=by by_cases c:o<g+1;{grind};rw[Nat.min_eq_right (Nat.le_of_not_lt c),Nat.sub_self] at h;exact absurd h (Nat.not_lt_zero _)
end
theorem yB{β:Type}{x:L5}{i:Nat}{f:Option Bool->StateT L6 Sem β}{Q:β->L6->Prop}(a:Cm prog w A s kd P lt)(b:L7 st=kd)(hi:arr[i]?=some x)(c:P x)(d:P key)(h:B lt l key x=true->wpS (Lm prog w) A E s (f (some true)) Q st)(h':B lt l key x=false->wpS (Lm prog w) A E s (f (some false)) Q st):wpS (Lm prog w) A E s (bey l key arr i >>= f) Q st:=by
 have e:wpS (Lm prog w) A E s (f (some (B lt l key x))) Q st:=by cases e:B lt l key x with|true=>exact h e|false=>exact h' e
 refine Lu ?_;unfold bey;refine Lu (wel hi ?_);cases l with|true=>exact wlt a b c d e|false=>exact Lu (wlt a b d c (Lv e))
theorem wgal(O:Cm prog w A s kd P lt)(R:L7 st=kd)(S:P key)(T:∀i,i<n->arr[bs+i]?=some (f i))(U:∀i,i<n->P (f i))(hm:∀i j,i<=j->j<n->B lt l key (f j)=true->B lt l key (f i)=true)(J:g<n)(h:∀k,k<=n->(∀i,i<k->B lt l key (f i)=true)->(∀i,k<=i->i<n->B lt l key (f i)=false)->Q (some k) st):wpS (Lm prog w) A E s (gal l key arr bs n g) Q st:=by
 have L:∀i j,i<=j->j<n->B lt l key (f i)=false->B lt l key (f j)=false:=λi j a b c=>by cases e:B lt l key (f j) with|false=>rfl|true=>rw[hm i j a b e] at c;cases c
 have fin:∀u v,u<=v->v<=n->(∀i,i<u->B lt l key (f i)=true)->(∀i,v<=i->i<n->B lt l key (f i)=false)->wpS (Lm prog w) A E s (do
  let mut u:=u
  let mut v:=v
  for _ in [0:n] do
   if u ≥ v then break
   let m:=u+(v-u)/2
   let some c<-bey l key arr (bs+m)|return none
   if c then u:=m+1 else v:=m
  return some v) Q st:=by
  intro u v Z X a3 a4;refine fB (λx c d=>d=st/\c.1=none/\c.2.1<=c.2.2/\c.2.2<=n/\c.2.2-c.2.1<=n-x/\(∀i,i<c.2.1->B lt l key (f i)=true)/\(∀i,c.2.2<=i->i<n->B lt l key (f i)=false)) (λc d=>d=st/\c.1=none/\c.2.2<=n/\(∀i,i<c.2.2->B lt l key (f i)=true)/\(∀i,c.2.2<=i->i<n->B lt l key (f i)=false)) ?_ ?_ ⟨rfl,rfl,Z,X,zAg (zCj v u) X,a3,a4⟩ ?_
  .rintro F z x ⟨_,u,v⟩ d-Y ⟨rfl,rfl,y,C,t,r,H⟩ K p q
   subst z;refine wif (λc=>Lv (p _ _ ⟨rfl,rfl,C,λi I=>r i (zAc I c),H⟩)) λc=>?_
   have m:=g1 (u:=u) (v:=v) c t;have V:=zAc m.1 C;exact yB O R (T _ V) (U _ V) S (λG=>Lv (q _ _ ⟨rfl,rfl,m.1,C,m.2.1,λi I=>hm i _ (zC2 I) V G,H⟩)) λG=>Lv (q _ _ ⟨rfl,rfl,zCk _ _,zBh V,m.2.2,r,λi D M=>L _ i D M G⟩)
  .exact λc d ⟨N,D,y,C,t,r,H⟩=>⟨N,D,C,λi I=>r i (g2 t I),H⟩
  rintro F z ⟨_,u,v⟩ d ⟨rfl,rfl,C,r,H⟩;subst z;exact Lv (h v C r H)
 rw[qba5];refine yB O R (T _ J) (U _ J) S (λW=>wif (λ_=>?_) λc=>absurd rfl c) λW=>wif (λc=>nomatch c) λ_=>?_;{refine fB (λx c d=>d=st/\c.1=none/\c.2.1<c.2.2/\x+1<=c.2.2/\g+c.2.1<n/\B lt l key (f (g+c.2.1))=true) (λc d=>d=st/\c.1=none/\c.2.1<c.2.2/\g+c.2.1<n/\B lt l key (f (g+c.2.1))=true/\(c.2.2<n-g->B lt l key (f (g+c.2.2))=false)) ?_ ?_ ⟨rfl,rfl,Nat.one_pos,zA3 _,J,W⟩ ?_;{rintro F z x ⟨_,p,o⟩ d-Y ⟨rfl,rfl,y,C,t,r⟩ K u v;subst z;refine wif (λc=>Lv (u _ _ ⟨rfl,rfl,y,t,r,λh=>absurd h (Nat.not_lt_of_le c)⟩)) λc=>?_;have m:g+o<n:=Nat.add_lt_of_lt_sub' (Nat.lt_of_not_le c);exact yB O R (T _ m) (U _ m) S (λG=>Lv (v _ _ ⟨rfl,rfl,l2o o,zAg (zCl C) (l2o o),m,G⟩)) λG=>Lv (u _ _ ⟨rfl,rfl,y,t,r,λ_=>G⟩)};{exact λc d ⟨N,D,y,C,t,r⟩=>⟨N,D,y,t,r,λh=>(g3 C h).elim⟩};rintro F z ⟨_,p,o⟩ d ⟨rfl,rfl,y,t,r,H⟩;subst z;exact fin (g+p+1) (g+min o (n-g)) (g4 y t).1 (g4 y t).2 (λi I=>hm i _ (zC2 I) t r) λi D M=>L (g+o) i (g5 D M).1 M (H (g5 D M).2)};refine fB (λx c d=>d=st/\c.1=none/\c.2.1<c.2.2/\x+1<=c.2.2/\c.2.1<=g/\B lt l key (f (g-c.2.1))=false) (λc d=>d=st/\c.1=none/\c.2.1<c.2.2/\c.2.1<=g/\B lt l key (f (g-c.2.1))=false/\(c.2.2<g+1->B lt l key (f (g-c.2.2))=true)) ?_ ?_ ⟨rfl,rfl,Nat.one_pos,zA3 _,zBi _,W⟩ ?_;{rintro F z x ⟨_,p,o⟩ d-Y ⟨rfl,rfl,y,C,t,r⟩ K u v;subst z;have m:g-o<n:=zCa (zCj g o) J;exact wif (λc=>Lv (u _ _ ⟨rfl,rfl,y,t,r,λh=>absurd h (Nat.not_lt_of_le c)⟩)) λc=>yB O R (T _ m) (U _ m) S (λG=>Lv (u _ _ ⟨rfl,rfl,y,t,r,λ_=>G⟩)) λG=>Lv (v _ _ ⟨rfl,rfl,l2o o,zAg (zCl C) (l2o o),zC2 (Nat.lt_of_not_le c),G⟩)};{exact λc d ⟨N,D,y,C,t,r⟩=>⟨N,D,y,t,r,λh=>(g8 C J h).elim⟩};rintro F z ⟨_,p,o⟩ d ⟨rfl,rfl,y,t,r,H⟩;subst z;exact fin (g+1-min o (g+1)) (g-p) (g6 y t) (zAg (zCj g p) (zBh J)) (λi I=>hm i (g-o) (g7 I).1 (zCa (zCj g o) J) (H (g7 I).2)) λi D M=>L _ i D M r
end
noncomputable abbrev lee(lt:L5->L5->Bool):L5->L5->Bool:=λx y=>!lt y x
section
variable{d:Type}{le:d->d->Bool}
theorem Kh{A2 Y:List d}{y:d}:∀{A1:List d},(∀a∈A1,le a y=true)->Mb (A1++A2) (y::Y) le=A1++Mb A2 (y::Y) le|[],_=>rfl|x::A1,h=>by rw[zBy,zB9,if_pos (h x (by simp)),Kh λa b=>h a (by simp[b])];rfl
theorem Ki{B2 X:List d}{x:d}:∀{B1:List d},(∀b∈B1,le x b=false)->Mb (x::X) (B1++B2) le=B1++Mb (x::X) B2 le|[],_=>rfl|b::B1,h=>by rw[zBy,zB9,if_neg (by simp[h b (by simp)]),Ki λa c=>h a (by simp[c])];rfl
end
noncomputable def att(a:Array L5)(i:Nat):L5:=a.getD i (Nx,Nx)
theorem qN4(h:i<a.size):a[i]?=some (att a i):=by simp[att,Array.getD,h]
theorem Ey(h:i<a.size):a.toList.drop i=att a i::a.toList.drop (i+1):=by rw[zCb (by simpa using h)];simp[att,Array.getD,h]
def Srt(lt:L5->L5->Bool)(f:Nat->L5)(n:Nat):Prop:=∀i j,i<=j->j<n->lt (f j) (f i)=false
theorem Srt.drop(h:Srt lt f n):Srt lt (λi=>f (k+i)) (n-k):=λi j a b=>h _ _ ⋯ ⋯
theorem qt0(h:x∈(a.toList.drop i).take k):∃j,j<k/\i+j<a.size/\x=att a (i+j):=by obtain⟨j,b,e⟩:=List.mem_iff_getElem.mp h;rw[zBz,Mg,zB8] at b;refine⟨j,⋯,⋯,?_⟩;rw[<-e,Ng,Nh];simp[att,Array.getD,show i+j<a.size by lia]
theorem qc9{a:Array L5}:(a.extract i j).toList=(a.toList.drop i).take (j-i):=by simp[List.take_drop]
section
variable{prog:Ln}{w:Lq}{A:Lp}{E:V'->Sh->Prop}{s:Sh}{kd:SortKind}{P:L5->Prop}{lt:L5->L5->Bool}{st:L6}
theorem wgs(b:Od lt)(f:Cm prog w A s kd P lt)(m:L7 st=kd)(o:P key)(v:bs+n<=arr.size)(p:∀i,i<arr.size->P (att arr i))(q:Srt lt (λi=>att arr (bs+i)) n)(r:g<n)(h:∀k,k<=n->(∀i,i<k->B lt l key (att arr (bs+i))=true)->(∀i,k<=i->i<n->B lt l key (att arr (bs+i))=false)->Q (some k) st):wpS (Lm prog w) A E s (gal l key arr bs n g) Q st:=by
 refine wgal f m o (λi t=>qN4 ⋯) (λi t=>p _ ⋯) (λi j a u c=>?_) r h;have d:=q i j a u;cases l with
 |false=>
  have e:lt key (att arr (bs+j))=false:=by simpa[B] using c
  show (!lt key (att arr (bs+i)))=true;rw[b.tr _ _ _ d e];rfl
 |true=>show lt (att arr (bs+i)) key=true;cases e:lt (att arr (bs+i)) key with|true=>rfl|false=>have:=b.tr _ _ _ e d;rw[show lt (att arr (bs+j)) key=true from c] at this;grind
def R(st a:L6):Prop:=L7 a=L7 st/\Lz a=Lz st/\Lw a=Lw st/\Lx a=Lx st
noncomputable def mlo:Array L5->Array L5->StateT L6 Sem (Array L5):=sortPriv% PySem.Builtin.mergeLo
noncomputable def smg:Nat->StateT L6 Sem Unit:=sortPriv% PySem.Builtin.setMinGallop
theorem qaY4(a b:Array L5):mlo a b=(do
 rule "list.sort.merge-lo"
 let tt:=a.size+b.size
 let dn (o:Array L5) (i j:Nat):=o++a.extract i a.size++b.extract j b.size
 let la (o:Array L5) (i j:Nat):=o++b.extract j b.size++a.extract i a.size
 let mut o:Array L5:=#[<-elem' b 0]
 let mut i:=0
 let mut j:=1
 if j==b.size then return dn o i j
 if i+1==a.size then return la o i j
 let mut g:=gallopOf (<- get)
 for _ in [0:tt] do
   let mut x:=0
   let mut y:=0
   for _ in [0:tt] do
     let some t<-lt' (<- elem' b j) (<- elem' a i)|return dn o i j
     if t then
       o:=o.push (<- elem' b j);j:=j+1;y:=y+1;x:=0
       if j==b.size then return dn o i j
       if y ≥ g then break
     else
       o:=o.push (<- elem' a i);i:=i+1;x:=x+1;y:=0
       if i+1==a.size then return la o i j
       if x ≥ g then break
   rule "list.sort.gallop"
   g:=g+1
   for _ in [0:tt] do
     if g>1 then g:=g-1
     smg g
     let some k<-gal false (<- elem' b j) a i (a.size-i) 0|return dn o i j
     x:=k
     if k>0 then
       o:=o++a.extract i (i+k);i:=i+k
       if i+1==a.size then return la o i j
       if i==a.size then return dn o i j
     o:=o.push (<- elem' b j);j:=j+1
     if j==b.size then return dn o i j
     let some k<-gal true (<- elem' a i) b j (b.size-j) 0|return dn o i j
     y:=k
     if k>0 then
       o:=o++b.extract j (j+k);j:=j+k
       if j==b.size then return dn o i j
     o:=o.push (<- elem' a i);i:=i+1
     if i+1==a.size then return la o i j
     if x<7&&y<7 then break
   g:=g+1
   smg g
 unsupported "internal:list.sort.merge-bound"):=rfl
def Eq2(lt:L5->L5->Bool)(a b o:Array L5)(i j:Nat):Prop:=o.toList++Mb (a.toList.drop i) (b.toList.drop j) (lee lt)=Mb a.toList b.toList (lee lt)
variable{a b o:Array L5}{i j k:Nat}
theorem Eq2.done(h:Eq2 lt a b o i j)(c:j=b.size∨i=a.size):(o++a.extract i a.size++b.extract j b.size).toList=Mb a.toList b.toList (lee lt):=by rw[<-h,zB3,zB3,qc9,qc9,zAx];congr 1;rw[zAu (by simp),zAu (by simp)];rcases c with rfl|rfl;{rw[show b.toList.drop b.size=[] by simp,zAe,Ni]};rw[show a.toList.drop a.size=[] by simp,zBa,Nm]
theorem Eq2.last(h:Eq2 lt a b o i j)(hi:i+1=a.size)(d:∀n,n<b.size->lt (att b n) (att a i)=true):(o++b.extract j b.size++a.extract i a.size).toList=Mb a.toList b.toList (lee lt):=by
 rw[<-h,zB3,zB3,qc9,qc9,zAx];congr 1;rw[zAu (by simp),zAu (by simp),Ey (i:=i) ⋯,show a.toList.drop (i+1)=[] from List.drop_eq_nil_of_le (by simp;lia)];have:=Ki (le:=lee lt) (B2:=[]) (X:=[]) (x:=att a i) (B1:=b.toList.drop j) λx c=>by rw[<-zAu (l:=b.toList.drop j) (zA3 _)] at c;obtain⟨n,_,e,rfl⟩:=qt0 c;simp[d _ e]
 rw[zAe] at this;rw[this];simp
theorem Eq2.pb(h:Eq2 lt a b o i j)(hi:i<a.size)(c:j<b.size)(d:lt (att b j) (att a i)=true):Eq2 lt a b (o.push (att b j)) i (j+1):=by unfold Eq2 at h ⊢;rw[<-h,Array.toList_push,zAx,Ey hi,Ey c,zB9,if_neg (by simp[d])];rfl
theorem Eq2.pa(h:Eq2 lt a b o i j)(hi:i<a.size)(c:j<b.size)(d:lt (att b j) (att a i)=false):Eq2 lt a b (o.push (att a i)) (i+1) j:=by unfold Eq2 at h ⊢;rw[<-h,Array.toList_push,zAx,Ey hi,Ey c,zB9,if_pos (by simp[d])];rfl
theorem Eq2.ga(h:Eq2 lt a b o i j)(c:j<b.size)(d:∀n,n<k->i+n<a.size->lt (att b j) (att a (i+n))=false):Eq2 lt a b (o++a.extract i (i+k)) (i+k) j:=by
 unfold Eq2 at h ⊢;rw[<-h,zB3,qc9,zAx,show i+k-i=k by lia,Ey c];congr 1;conv=>rhs;rw[<-zBf k (a.toList.drop i)]
 rw[Kh,M6];intro x e;obtain⟨n,f,g,rfl⟩:=qt0 e;simp[d n f g]
theorem Eq2.gb(h:Eq2 lt a b o i j)(hi:i<a.size)(c:∀n,n<k->j+n<b.size->lt (att b (j+n)) (att a i)=true):Eq2 lt a b (o++b.extract j (j+k)) i (j+k):=by
 unfold Eq2 at h ⊢;rw[<-h,zB3,qc9,zAx,show j+k-j=k by lia,Ey hi];congr 1;conv=>rhs;rw[<-zBf k (b.toList.drop j)]
 rw[Ki,M6];intro x d;obtain⟨n,e,f,rfl⟩:=qt0 d;simp[c n e f]
section
variable{β:Type}{Q:β->L6->Prop}
theorem eB{f:L5->StateT L6 Sem β}(hi:i<a.size)(h:wpS (Lm prog w) A E s (f (att a i)) Q st):wpS (Lm prog w) A E s (elem' a i >>= f) Q st:=Lu (wel (qN4 hi) h)
theorem lB{f:Option Bool->StateT L6 Sem β}(a:Cm prog w A s kd P lt)(b:L7 st=kd)(c:P x)(d:P y)(h:lt x y=true->wpS (Lm prog w) A E s (f (some true)) Q st)(h':lt x y=false->wpS (Lm prog w) A E s (f (some false)) Q st):wpS (Lm prog w) A E s (lt' x y >>= f) Q st:=Lu (wlt a b c d (by cases e:lt x y<;>simp_all))
theorem mB{a:L6}{f:Unit->StateT L6 Sem β}(c:R a st)(h:∀b,R a b->wpS (Lm prog w) A E s (f ()) Q b):wpS (Lm prog w) A E s (smg g >>= f) Q st:=Lu (Ly (h _ c))
theorem sB{f:Option Nat->StateT L6 Sem β}(e:Od lt)(g:Cm prog w A s kd P lt)(j:L7 st=kd)(m:P key)(n:∀i,i<arr.size->P (att arr i))(o:Srt lt (att arr) arr.size)(p:bs<arr.size)(h:∀k,bs+k<=arr.size->(∀i,i<k->B lt l key (att arr (bs+i))=true)->(bs+k<arr.size->B lt l key (att arr (bs+k))=false)->wpS (Lm prog w) A E s (f (some k)) Q st):wpS (Lm prog w) A E s (gal l key arr bs (arr.size-bs) 0 >>= f) Q st:=Lu (wgs e g j m ⋯ n o.drop ⋯ λk a b c=>h k ⋯ b λd=>c k (zA3 _) ⋯)
end
theorem ltn{y:Nat}(h:¬(x==y)=true)(h':x<=y):x<y:=Nat.lt_of_le_of_ne h' λe=>h (zBj.mpr e)
theorem sa{i j:Nat}(h:x<=i+j):x+1<=i+1+j:=Nat.succ_add i j ▸ zCl h
theorem la{i j k:Nat}(h:x<=i+j):x<=i+(j+k):=⋯
theorem lb{i j k:Nat}(h:x<=i+j):x<=i+k+j:=⋯
theorem nt{b:Bool}(h:(!b)=true):b=false:=by grind
theorem nf{b:Bool}(h:(!b)=false):b=true:=by grind
theorem wmlo(hO:Od lt)(Y:Cm prog w A s kd P lt)(Z:L7 st=kd)(L:∀n,n<a.size->P (att a n))(M:∀n,n<b.size->P (att b n))(a0:Srt lt (att a) a.size)(a1:Srt lt (att b) b.size)(V:0<a.size)(N:0<b.size)(h0:lt (att b 0) (att a 0)=true)(hl:∀n,n<b.size->lt (att b n) (att a (a.size-1))=true)(h:∀r f,R st f->r.toList=Mb a.toList b.toList (lee lt)->Q r f):wpS (Lm prog w) A E s (mlo a b) Q st:=by
 have H:∀i,i+1=a.size->∀n,n<b.size->lt (att b n) (att a i)=true:=λi e n hn=>by rw[Nat.eq_sub_of_add_eq e];exact hl n hn
 have e1:Eq2 lt a b #[att b 0] 0 1:=Eq2.pb (o:=#[]) (i:=0) (j:=0) rfl V N h0;rw[qaY4];refine rB (eB N (wif (λc=>Lv (h _ st ⟨rfl,rfl,rfl,rfl⟩ (e1.done (.inl (eq_of_beq c))))) λc1=>wif (λc=>Lv (h _ st ⟨rfl,rfl,rfl,rfl⟩ (e1.last (eq_of_beq c) (H 0 (eq_of_beq c))))) λc2=>gB ?_));let D (c:Option (Array L5)):Prop:=∃r,c=some r/\r.toList=Mb a.toList b.toList (lee lt)
 let G (n:Nat) (o:Array L5) (i j:Nat):Prop:=Eq2 lt a b o i j/\i+1<a.size/\j<b.size/\n<=i+j;refine fB (λx c f=>R st f/\c.1=none/\G (x+1) c.2.1 c.2.2.1 c.2.2.2.1) (λc f=>R st f/\D c.1) ?_ ?_ ⟨⟨rfl,rfl,rfl,rfl⟩,rfl,e1,ltn c2 V,ltn c1 N,zA3 _⟩ ?_
 .rintro F z x ⟨_,o,i,j,g⟩ O-hx ⟨W,rfl,g1,g2,g3,g4⟩ K p n;subst z;refine fB (λy c f=>R st f/\c.1=none/\G (x+1+y) c.2.1 c.2.2.1 c.2.2.2.1) (λc f=>R st f/\(D c.1∨c.1=none/\G (x+2) c.2.1 c.2.2.1 c.2.2.2.1)) ?_ ?_ ⟨W,rfl,g1,g2,g3,g4⟩ ?_;{rintro F z y ⟨_,o,i,j,_,_⟩ S-hy ⟨m,rfl,v,t,l,B⟩ K p n;subst z;have I:=zCg t;have k6:=zAg (zCk (x+1) y) B;refine eB l (eB I (lB Y (m.1.trans Z) (M _ l) (L _ I) (λhb=>?_) λhb=>?_));{have e2:=v.pb I l hb;exact eB l (wif (λc=>Lv (p _ _ ⟨m,.inl ⟨_,rfl,e2.done (.inl (eq_of_beq c))⟩⟩)) λc=>wif (λ_=>Lv (p _ _ ⟨m,.inr ⟨rfl,e2,t,ltn c l,zCl k6⟩⟩)) λ_=>Lv (n _ _ ⟨m,rfl,e2,t,ltn c l,zCl B⟩))};have e2:=v.pa I l hb;exact eB I (wif (λc=>Lv (p _ _ ⟨m,.inl ⟨_,rfl,e2.last (eq_of_beq c) (H _ (eq_of_beq c))⟩⟩)) λc=>wif (λ_=>Lv (p _ _ ⟨m,.inr ⟨rfl,e2,ltn c t,l,sa k6⟩⟩)) λ_=>Lv (n _ _ ⟨m,rfl,e2,ltn c t,l,sa B⟩))};{rintro c S ⟨m,k0,v,t,l,B⟩;exact⟨m,.inr ⟨k0,v,t,l,⋯⟩⟩};rintro F z ⟨c,c'⟩ S ⟨m,⟨r,rfl,e⟩|⟨e,v,t,l,B⟩⟩;{subst z;exact Lv (p _ _ ⟨m,r,rfl,e⟩)};cases e;subst z;refine rB (fB (λy c f=>R st f/\c.1=none/\G (x+2) c.2.1 c.2.2.1 c.2.2.2.1) (λc f=>R st f/\(D c.1∨c.1=none/\G (x+2) c.2.1 c.2.2.1 c.2.2.2.1)) ?_ ?_ ⟨m,rfl,v,t,l,B⟩ ?_)
  .rintro F z y ⟨_,o,i,j,g,_,_⟩ a2-hy ⟨r3,rfl,v,t,l,B⟩ K p n;subst z;have I:=zCg t;dsimp -zeta only;extract_lets +onlyGivenNames _ _ _ _ _ _ _ _ _ _ _ _ J;suffices u:∀g,wpS (Lm prog w) A E s (J () g) K a2 from wif (λ_=>u _) λ_=>u _
   intro g;dsimp +zetaDelta -zeta only;refine mB r3 λT C=>eB l (sB hO Y (C.1.trans Z) (M _ l) L a0 I λk q1 q2 q3=>?_);dsimp -zeta only;extract_lets +onlyGivenNames _ J;have ea:=v.ga (k:=k) l λn h1 _=>nt (q2 n h1);suffices u:∀o i,Eq2 lt a b o i j->i+1<a.size->x+2<=i+j->lt (att b j) (att a i)=true->wpS (Lm prog w) A E s (J () o i) K T from wif (λc=>wif (λd=>Lv (p _ _ ⟨C,.inl ⟨_,rfl,ea.last (eq_of_beq d) (H _ (eq_of_beq d))⟩⟩)) λd=>wif (λX=>Lv (p _ _ ⟨C,.inl ⟨_,rfl,ea.done (.inr (eq_of_beq X))⟩⟩)) λX=>u _ _ ea (ltn d (ltn X q1)) (lb B) (nf (q3 (ltn X q1)))) λc=>by obtain rfl:=Nat.eq_zero_of_not_pos c;exact u _ _ v t B (nf (q3 I))
   intro o i e z1 zb z;dsimp +zetaDelta -zeta only;have U:=zCg z1;have e2:=e.pb U l z;refine eB l (wif (λd=>Lv (p _ _ ⟨C,.inl ⟨_,rfl,e2.done (.inl (eq_of_beq d))⟩⟩)) λd=>?_);have z2:=ltn d l;refine eB U (sB hO Y (C.1.trans Z) (L _ U) M a1 z2 λq p1 p2 p3=>?_);dsimp -zeta only;extract_lets +onlyGivenNames _ _ J;have eb:=e2.gb (k:=q) U λn h1 h2=>p2 n h1;suffices u:∀o j,Eq2 lt a b o i j->j<b.size->x+2<=i+j->lt (att b j) (att a i)=false->wpS (Lm prog w) A E s (J () o j) K T from wif (λc=>wif (λd=>Lv (p _ _ ⟨C,.inl ⟨_,rfl,eb.done (.inl (eq_of_beq d))⟩⟩)) λd=>u _ _ eb (ltn d p1) (la (la zb)) (p3 (ltn d p1))) λc=>by obtain rfl:=Nat.eq_zero_of_not_pos c;exact u _ _ e2 z2 (la zb) (p3 z2)
   intro o j e3 z3 zc z4;have z5:=e3.pa U z3 z4;refine eB U (wif (λd=>Lv (p _ _ ⟨C,.inl ⟨_,rfl,z5.last (eq_of_beq d) (H _ (eq_of_beq d))⟩⟩)) λd=>?_);exact wif (λ_=>Lv (p _ _ ⟨C,.inr ⟨rfl,z5,ltn d z1,z3,lb zc⟩⟩)) λ_=>Lv (n _ _ ⟨C,rfl,z5,ltn d z1,z3,lb zc⟩)
  {exact λ_ _ z=>⟨z.1,.inr z.2⟩};rintro F z ⟨c,c'⟩ S ⟨m,⟨r,rfl,e⟩|⟨e,v,t,l,B⟩⟩<;>subst z;{exact Lv (p _ _ ⟨m,r,rfl,e⟩)};cases e;exact mB m λT C=>Lv (n _ _ ⟨C,rfl,v,t,l,B⟩)
 {rintro c O ⟨W,_,g1,g2,g3,g4⟩;lia};rintro F z ⟨c,c'⟩ O ⟨W,r,rfl,e⟩;subst z;exact Lv (h r O W e)
end
section
variable{prog:Ln}{w:Lq}{A:Lp}{E:V'->Sh->Prop}{s:Sh}{kd:SortKind}{P:L5->Prop}{lt:L5->L5->Bool}{st:L6}
noncomputable def mhi:Array L5->Array L5->StateT L6 Sem (Array L5):=sortPriv% PySem.Builtin.mergeHi
theorem qaY5(a b:Array L5):mhi a b=(do
 rule "list.sort.merge-hi"
 let tt:=a.size+b.size
 let dn (o:Array L5) (i j:Nat):=a.extract 0 i++b.extract 0 j++o.reverse
 let fb (o:Array L5) (i j:Nat):=b.extract 0 j++a.extract 0 i++o.reverse
 let mut i:=a.size-1
 let mut j:=b.size
 let mut o:Array L5:=#[<-elem' a i]
 if i==0 then return dn o i j
 if j==1 then return fb o i j
 let mut g:=gallopOf (<- get)
 for _ in [0:tt] do
   let mut x:=0
   let mut y:=0
   for _ in [0:tt] do
     let some t<-lt' (<- elem' b (j-1)) (<- elem' a (i-1))|return dn o i j
     if t then
       i:=i-1;o:=o.push (<- elem' a i);x:=x+1;y:=0
       if i==0 then return dn o i j
       if x ≥ g then break
     else
       j:=j-1;o:=o.push (<- elem' b j);y:=y+1;x:=0
       if j==1 then return fb o i j
       if y ≥ g then break
   rule "list.sort.gallop"
   g:=g+1
   for _ in [0:tt] do
     if g>1 then g:=g-1
     smg g
     let some q<-gal false (<- elem' b (j-1)) a 0 i (i-1)|return dn o i j
     let k:=i-q
     x:=k
     if k>0 then
       o:=o++(a.extract q i).reverse;i:=q
       if i==0 then return dn o i j
     j:=j-1;o:=o.push (<- elem' b j)
     if j==1 then return fb o i j
     let some q<-gal true (<- elem' a (i-1)) b 0 j (j-1)|return dn o i j
     let k:=j-q
     y:=k
     if k>0 then
       o:=o++(b.extract q j).reverse;j:=q
       if j==1 then return fb o i j
       if j==0 then return dn o i j
     i:=i-1;o:=o.push (<- elem' a i)
     if i==0 then return dn o i j
     if x<7&&y<7 then break
   g:=g+1
   smg g
 unsupported "internal:list.sort.merge-bound"):=rfl
def Eq3(lt:L5->L5->Bool)(a b o:Array L5)(i j:Nat):Prop:=Mb (a.toList.take i) (b.toList.take j) (lee lt)++o.toList.reverse=Mb a.toList b.toList (lee lt)
variable{a b o:Array L5}{i j k:Nat}
theorem Kj{a:Array L5}{k:Nat}(h:x∈a.toList.take k):∃j,j<k/\j<a.size/\x=att a j:=by obtain⟨j,b,c,e⟩:=qt0 (i:=0) (by simpa using h);exact⟨j,b,⋯,by rw[e,zAh]⟩
theorem qW9{a:Array L5}{i:Nat}(h:q<=i):a.toList.take i=a.toList.take q++(a.extract q i).toList:=by rw[qc9];conv=>lhs;rw[show i=q+(i-q) by lia,Nu]
theorem ext1{a:Array L5}{i:Nat}(h:0<i)(hi:i<=a.size):(a.extract (i-1) i).toList=[att a (i-1)]:=by rw[qc9,Ey ⋯,show i-(i-1)=1 by lia];rfl
theorem Eq3.done(h:Eq3 lt a b o i j)(c:i=0∨j=0):(a.extract 0 i++b.extract 0 j++o.reverse).toList=Mb a.toList b.toList (lee lt):=by rw[<-h,zB3,zB3,qc9,qc9,Array.toList_reverse];congr 1;rcases c with rfl|rfl;{simp};simp
theorem Eq3.first(h:Eq3 lt a b o i j)(c:j=1)(k:0<b.size)(d:∀n,n<a.size->lt (att b 0) (att a n)=true):(b.extract 0 j++a.extract 0 i++o.reverse).toList=Mb a.toList b.toList (lee lt):=by
 rw[<-h,zB3,zB3,qc9,qc9,Array.toList_reverse];congr 1;subst c;have:=mg_r (le:=lee lt) (B2:=[]) (B1:=b.toList.take 1) (X:=a.toList.take i) λy e x f=>by obtain⟨n,_,g,rfl⟩:=Kj f;obtain⟨m,l,p,rfl⟩:=Kj e;obtain rfl:m=0:=⋯;simp[d _ g]
 rw[zAe] at this;rw[this];simp
theorem Eq3.ga(h:Eq3 lt a b o i j)(f:Od lt)(c:Srt lt (att b) b.size)(g:q<=i)(s:0<j)(k:j<=b.size)(l:∀n,q<=n->n<i->n<a.size->lt (att b (j-1)) (att a n)=true):Eq3 lt a b (o++(a.extract q i).reverse) q j:=by unfold Eq3 at h ⊢;rw[<-h,qW9 g,Kf];{simp};intro x d y p;rw[qc9] at d;obtain⟨n,t,r,rfl⟩:=qt0 d;obtain⟨m,u,v,rfl⟩:=Kj p;have e:=l (q+n) ⋯ ⋯ r;show (!lt (att b m) (att a (q+n)))=false;cases e2:lt (att b m) (att a (q+n)) with|true=>rfl|false=>rw[f.tr _ _ _ e2 (c m (j-1) ⋯ ⋯)] at e;cases e
theorem Eq3.gb(h:Eq3 lt a b o i j)(e:Od lt)(c:Srt lt (att a) a.size)(f:q<=j)(hi:0<i)(g:i<=a.size)(k:∀n,q<=n->n<j->n<b.size->lt (att b n) (att a (i-1))=false):Eq3 lt a b (o++(b.extract q j).reverse) i q:=by unfold Eq3 at h ⊢;rw[<-h,qW9 f,Ir];{simp};intro y d x l;rw[qc9] at d;obtain⟨n,r,p,rfl⟩:=qt0 d;obtain⟨m,s,t,rfl⟩:=Kj l;show (!lt (att b (q+n)) (att a m))=true;rw[e.tr _ _ _ (c m (i-1) ⋯ ⋯) (k (q+n) ⋯ ⋯ p)];rfl
theorem Eq3.pa(h:Eq3 lt a b o i j)(f:Od lt)(c:Srt lt (att b) b.size)(hi:0<i)(d:i<=a.size)(g:0<j)(e:j<=b.size)(k:lt (att b (j-1)) (att a (i-1))=true):Eq3 lt a b (o.push (att a (i-1))) (i-1) j:=by
 have:=h.ga f c (q:=i-1) ⋯ g e λn l m _=>by rw[show n=i-1 by lia];exact k
 rwa[show o++(a.extract (i-1) i).reverse=o.push (att a (i-1)) from Array.toList_inj.mp (by rw[zB3,Array.toList_reverse,ext1 hi d,Array.toList_push];rfl)] at this
theorem Eq3.pb(h:Eq3 lt a b o i j)(f:Od lt)(c:Srt lt (att a) a.size)(hi:0<i)(d:i<=a.size)(g:0<j)(e:j<=b.size)(k:lt (att b (j-1)) (att a (i-1))=false):Eq3 lt a b (o.push (att b (j-1))) i (j-1):=by
 have:=h.gb f c (q:=j-1) ⋯ hi d λn l m _=>by rw[show n=j-1 by lia];exact k
 rwa[show o++(b.extract (j-1) j).reverse=o.push (att b (j-1)) from Array.toList_inj.mp (by rw[zB3,Array.toList_reverse,ext1 g e,Array.toList_push];rfl)] at this
theorem pz(h:¬(x==0)=true):0<x:=Nat.pos_of_ne_zero λe=>h (zBj.mpr e)
theorem p1(h:¬(x==1)=true)(h':0<x):1<x:=Nat.lt_of_le_of_ne h' λe=>h (zBj.mpr e.symm)
theorem dy{i j:Nat}(h:x+y+i+j<=N):x+i+j<=N:=⋯
theorem lc{i j:Nat}(h:x+i+j<=N)(h':q<=i):x+q+j<=N:=⋯
theorem ld{i j:Nat}(h:x+i+j<=N)(h':q<=j):x+i+q<=N:=⋯
theorem mw{i j:Nat}(h:x+i+j<=N)(h':0<i):x+1+(i-1)+j<=N:=⋯
theorem mv{i j:Nat}(h:x+i+j<=N)(h':0<j):x+1+i+(j-1)<=N:=⋯
theorem sH{β:Type}{Q:β->L6->Prop}{n:Nat}{f:Option Nat->StateT L6 Sem β}(e:Od lt)(g:Cm prog w A s kd P lt)(m:L7 st=kd)(o:P key)(p:∀i,i<arr.size->P (att arr i))(r:Srt lt (att arr) arr.size)(t:0<n)(u:n<=arr.size)(h:∀q,q<=n->(0<q->B lt l key (att arr (q-1))=true)->(∀i,q<=i->i<n->B lt l key (att arr i)=false)->wpS (Lm prog w) A E s (f (some q)) Q st):wpS (Lm prog w) A E s (gal l key arr 0 n (n-1) >>= f) Q st:=Lu (wgs e g m o ⋯ p (λi j a b=>r _ _ ⋯ ⋯) ⋯ λk a b c=>h k a (λd=>zAh (k-1) ▸ b _ (Nat.sub_one_lt_of_lt d)) λi x y=>zAh i ▸ c i x y)
theorem wmhi(S:Od lt)(hC:Cm prog w A s kd P lt)(hk:L7 st=kd)(W:∀n,n<a.size->P (att a n))(X:∀n,n<b.size->P (att b n))(T:Srt lt (att a) a.size)(L:Srt lt (att b) b.size)(Y:0<a.size)(B:0<b.size)(h0:∀n,n<a.size->lt (att b 0) (att a n)=true)(hl:lt (att b (b.size-1)) (att a (a.size-1))=true)(h:∀r f,R st f->r.toList=Mb a.toList b.toList (lee lt)->Q r f):wpS (Lm prog w) A E s (mhi a b) Q st:=by
 have e1:Eq3 lt a b #[att a (a.size-1)] (a.size-1) b.size:=Eq3.pa (o:=#[]) (i:=a.size) (j:=b.size) (by unfold Eq3;rw[show a.toList.take a.size=a.toList from zAu (zC0 zB8),show b.toList.take b.size=b.toList from zAu (zC0 zB8)];simp) S L Y (zA3 _) B (zA3 _) hl;rw[qaY5];refine rB (eB (Nat.sub_one_lt_of_lt Y) (wif (λc=>Lv (h _ st ⟨rfl,rfl,rfl,rfl⟩ (e1.done (.inl (eq_of_beq c))))) λc1=>wif (λc=>Lv (h _ st ⟨rfl,rfl,rfl,rfl⟩ (e1.first (eq_of_beq c) B h0))) λc2=>gB ?_));let D (c:Option (Array L5)):Prop:=∃r,c=some r/\r.toList=Mb a.toList b.toList (lee lt)
 let G (n:Nat) (o:Array L5) (i j:Nat):Prop:=Eq3 lt a b o i j/\0<i/\i<=a.size/\1<j/\j<=b.size/\n+i+j<=a.size+b.size;refine fB (λx c f=>R st f/\c.1=none/\G (x+1) c.2.2.2.1 c.2.1 c.2.2.1) (λc f=>R st f/\D c.1) ?_ ?_ ⟨⟨rfl,rfl,rfl,rfl⟩,rfl,e1,pz c1,zCj _ _,p1 c2 B,zA3 _,mw (x:=0) ⋯ Y⟩ ?_
 .rintro F z x ⟨_,i,j,o,g⟩ Z-hx ⟨r1,rfl,g1,g2,g3,g4,g5,g6⟩ K p n;subst z;refine fB (λy c f=>R st f/\c.1=none/\G (x+1+y) c.2.2.2.1 c.2.1 c.2.2.1) (λc f=>R st f/\(D c.1∨c.1=none/\G (x+2) c.2.2.2.1 c.2.1 c.2.2.1)) ?_ ?_ ⟨r1,rfl,g1,g2,g3,g4,g5,g6⟩ ?_;{rintro F z y ⟨_,i,j,o,_,_⟩ a0-hy ⟨l,rfl,M,k,m,C,v,H⟩ K p n;subst z;have U:=zCg C;have N:=Nat.sub_one_lt_of_le k m;have I:=Nat.sub_one_lt_of_le U v;refine eB I (eB N (lB hC (l.1.trans hk) (X _ I) (W _ N) (λhb=>?_) λhb=>?_));{have e2:=M.pa S L k m U v hb;exact eB N (wif (λc=>Lv (p _ _ ⟨l,.inl ⟨_,rfl,e2.done (.inl (eq_of_beq c))⟩⟩)) λc=>wif (λ_=>Lv (p _ _ ⟨l,.inr ⟨rfl,e2,pz c,zBh N,C,v,mw (dy H) k⟩⟩)) λ_=>Lv (n _ _ ⟨l,rfl,e2,pz c,zBh N,C,v,mw H k⟩))};have e2:=M.pb S T k m U v hb;have y0:=Nat.sub_pos_of_lt C;exact eB I (wif (λc=>Lv (p _ _ ⟨l,.inl ⟨_,rfl,e2.first (eq_of_beq c) B h0⟩⟩)) λc=>wif (λ_=>Lv (p _ _ ⟨l,.inr ⟨rfl,e2,k,m,p1 c y0,zBh I,mv (dy H) U⟩⟩)) λ_=>Lv (n _ _ ⟨l,rfl,e2,k,m,p1 c y0,zBh I,mv H U⟩))};{rintro c a0 ⟨l,k0,M,k,m,C,v,H⟩;exact⟨l,.inr ⟨k0,M,k,m,C,v,⋯⟩⟩};rintro F z ⟨c,c'⟩ a0 ⟨l,⟨r,rfl,e⟩|⟨e,M,k,m,C,v,H⟩⟩;{subst z;exact Lv (p _ _ ⟨l,r,rfl,e⟩)};cases e;subst z;refine rB (fB (λy c f=>R st f/\c.1=none/\G (x+2) c.2.2.2.1 c.2.1 c.2.2.1) (λc f=>R st f/\(D c.1∨c.1=none/\G (x+2) c.2.2.2.1 c.2.1 c.2.2.1)) ?_ ?_ ⟨l,rfl,M,k,m,C,v,H⟩ ?_)
  .rintro F z y ⟨_,i,j,o,g,_,_⟩ a2-hy ⟨r3,rfl,M,k,m,C,v,H⟩ K p n;subst z;have U:=zCg C;have I:=Nat.sub_one_lt_of_le U v;have y0:=Nat.sub_pos_of_lt C;dsimp -zeta only;extract_lets +onlyGivenNames _ _ _ _ _ _ _ _ _ _ _ _ J;suffices u:∀g,wpS (Lm prog w) A E s (J () g) K a2 from wif (λ_=>u _) λ_=>u _
   intro g;dsimp +zetaDelta -zeta only;refine mB r3 λa1 O=>eB I (sH S hC (O.1.trans hk) (X _ I) W T k m λq V q2 q3=>?_);dsimp -zeta only;extract_lets +onlyGivenNames _ _ J;have ea:=M.ga S L V U v λn h1 h2 _=>nf (q3 n h1 h2);suffices u:∀i o,Eq3 lt a b o i j->0<i->i<=a.size->x+2+i+j<=a.size+b.size->lt (att b (j-1)) (att a (i-1))=false->wpS (Lm prog w) A E s (J () i o) K a1 from wif (λc=>wif (λd=>Lv (p _ _ ⟨O,.inl ⟨_,rfl,ea.done (.inl (eq_of_beq d))⟩⟩)) λd=>u _ _ ea (pz d) (zAg V m) (lc H V) (nt (q2 (pz d)))) λc=>by obtain rfl:=Nat.le_antisymm V (Nat.le_of_sub_eq_zero (Nat.eq_zero_of_not_pos c));exact u _ _ M k m H (nt (q2 k))
   intro i o e z1 z2 zb z;dsimp +zetaDelta -zeta only;have N:=Nat.sub_one_lt_of_le z1 z2;have e2:=e.pb S T z1 z2 U v z;refine eB I (wif (λd=>Lv (p _ _ ⟨O,.inl ⟨_,rfl,e2.first (eq_of_beq d) B h0⟩⟩)) λd=>?_);refine eB N (sH S hC (O.1.trans hk) (W _ N) X L y0 (zBh I) λq V q2 q3=>?_);dsimp -zeta only;extract_lets +onlyGivenNames _ _ _ J;have eb:=e2.gb S T V z1 z2 λn h1 h2 _=>q3 n h1 h2;suffices u:∀j o,Eq3 lt a b o i j->1<j->j<=b.size->x+2+i+j<=a.size+b.size->lt (att b (j-1)) (att a (i-1))=true->wpS (Lm prog w) A E s (J () j o) K a1 from wif (λc=>wif (λd=>Lv (p _ _ ⟨O,.inl ⟨_,rfl,eb.first (eq_of_beq d) B h0⟩⟩)) λd=>wif (λt=>Lv (p _ _ ⟨O,.inl ⟨_,rfl,eb.done (.inr (eq_of_beq t))⟩⟩)) λt=>u _ _ eb (p1 d (pz t)) (zAg V (zBh I)) (ld (ld zb (zCj _ 1)) V) (q2 (pz t))) λc=>by obtain rfl:=Nat.le_antisymm V (Nat.le_of_sub_eq_zero (Nat.eq_zero_of_not_pos c));exact u _ _ e2 (p1 d y0) (zBh I) (ld zb (zCj _ 1)) (q2 y0)
   intro j o e3 y1 y2 y5 y4;have e4:=e3.pa S L z1 z2 (zCg y1) y2 y4;exact eB N (wif (λd=>Lv (p _ _ ⟨O,.inl ⟨_,rfl,e4.done (.inl (eq_of_beq d))⟩⟩)) λd=>wif (λ_=>Lv (p _ _ ⟨O,.inr ⟨rfl,e4,pz d,zBh N,y1,y2,lc y5 (zCj _ 1)⟩⟩)) λ_=>Lv (n _ _ ⟨O,rfl,e4,pz d,zBh N,y1,y2,lc y5 (zCj _ 1)⟩))
  {exact λ_ _ z=>⟨z.1,.inr z.2⟩};rintro F z ⟨c,c'⟩ a0 ⟨l,⟨r,rfl,e⟩|⟨e,M,k,m,C,v,H⟩⟩<;>subst z;{exact Lv (p _ _ ⟨l,r,rfl,e⟩)};cases e;exact mB l λa1 O=>Lv (n _ _ ⟨O,rfl,M,k,m,C,v,H⟩)
 {rintro c Z ⟨r1,_,g1,g2,g3,g4,g5,g6⟩;lia};rintro F z ⟨c,c'⟩ Z ⟨r1,r,rfl,e⟩;subst z;exact Lv (h r Z r1 e)
end
theorem qm2(h:xs[i]?=ys[j]?):att xs i=att ys j:=by
 have e:∀(a:Array L5) k,att a k=(a[k]?).getD (Nx,Nx):=λa k=>by simp[att,Array.getD_eq_getD_getElem?]
 rw[e,e,h]
theorem qag3(a:src<xs.size)(b:d<=src)(k:Nat):att (bubble xs src d) k=if k=src-d then att xs src else if src-d<k/\k<=src then att xs (k-1) else att xs k:=by have e:=getElem?_bubble a d b k;split at e;{rw[if_pos (by assumption)];exact qm2 e};rw[if_neg (by assumption)];split at e;{rw[if_pos (by assumption)];exact qm2 e};rw[if_neg (by assumption)];exact qm2 e
theorem qag2(a:j<=xs.size)(k:Nat):att (mirror xs i j ((j-i)/2)) k=if i<=k/\k<j then att xs (i+j-1-k) else att xs k:=by have e:=getElem?_mirror_all (i:=i) a k;split at e;{rw[if_pos (by assumption)];exact qm2 e};rw[if_neg (by assumption)];exact qm2 e
theorem qau1(h:i<a.size):att a i∈a.toList:=by simp[att,Array.getD,h]
theorem Srt.more(h:Srt lt f x)(d:Od lt)(e:0<x->lt (f x) (f (x-1))=false):Srt lt f (x+1):=λi j a b=>by
 by_cases c:j<x
 .exact h i j a c
 obtain rfl:j=x:=⋯
 by_cases q:i=j
 .rw[q];exact d.ir _
 exact d.tr _ _ _ (h i (j-1) ⋯ ⋯) (e ⋯)
structure Bt(a0:Array L5)(lo:Nat)(st st':L6):Prop where
 kd:L7 st'=L7 st
 fl:Lx st'=Lx st
 pd:Lw st'=Lw st
 pm:(Lz st').Perm a0
 pr:∀i,i<lo->att (Lz st') i=att (Lz st) i
section
variable{prog:Ln}{w:Lq}{A:Lp}{E:V'->Sh->Prop}{s:Sh}{kd:SortKind}{lt:L5->L5->Bool}{Z W:L6}{Y:Array L5}{X:Nat}
theorem Bt.sz(h:Bt Y X Z W):(Lz W).size=Y.size:=h.pm.size_eq
theorem Bt.mem(h:Bt Y X Z W)(hi:i<Y.size):att (Lz W) i∈Y.toList:=(zBr.mp h.pm).mem_iff.mp (qau1 (by rw[h.sz];exact hi))
theorem Bt.set(h:Bt Y X Z W)(b:xs.Perm (Lz W))(c:∀i,i<X->att xs i=att (Lz W) i):Bt Y X Z (L8 W xs):=⟨h.kd,h.fl,h.pd,b.trans h.pm,λi a=>(c i a).trans (h.pr i a)⟩
abbrev Cn(prog:Ln)(w:Lq)(A:Lp)(s:Sh)(kd:SortKind)(Y:Array L5)(lt:L5->L5->Bool):Prop:=Cm prog w A s kd (λx=>x∈Y.toList) lt
theorem aB{β:Type}{i j:Nat}{Q:β->L6->Prop}{f:Option Bool->StateT L6 Sem β}(b:Cn prog w A s kd Y lt)(c:L7 Z=kd)(h:Bt Y X Z W)(hi:i<Y.size)(a:j<Y.size)(h':lt (att (Lz W) i) (att (Lz W) j)=true->wpS (Lm prog w) A E s (f (some true)) Q W)(d:lt (att (Lz W) i) (att (Lz W) j)=false->wpS (Lm prog w) A E s (f (some false)) Q W):wpS (Lm prog w) A E s (ltAt' i j >>= f) Q W:=by refine Lu ?_;rw[ltAt'_eq];refine gB (eB (by rw[h.sz];exact hi) (eB (by rw[h.sz];exact a) (wlt b (h.kd.trans c) (h.mem hi) (h.mem a) ?_)));cases e:lt (att (Lz W) i) (att (Lz W) j) with|true=>exact h' e|false=>exact d e
theorem wmv(h:Q () (L8 W (bubble (Lz W) p (p-q)))):wpS (Lm prog w) A E s (moveDown' p q) Q W:=by rw[moveDown'_eq];exact Ly h
theorem qaR7(h:p<xs.size)(a:q<=p)(hi:i<q):att (bubble xs p (p-q)) i=att xs i:=by rw[qag3 h (zCj _ _),Nat.sub_sub_self a,if_neg (zAi hi),if_neg λc=>Nat.lt_asymm hi c.1]
theorem qbb9(h:p<xs.size)(a:q<=p):att (bubble xs p (p-q)) q=att xs p:=by rw[qag3 h (zCj _ _),Nat.sub_sub_self a,if_pos rfl]
theorem qbb8(h:p<xs.size)(a:q<=p)(h1:q<=i)(h2:i<p):att (bubble xs p (p-q)) (i+1)=att xs i:=by rw[qag3 h (zCj _ _),Nat.sub_sub_self a,if_neg (zCo (Nat.lt_succ_of_le h1)),if_pos ⟨Nat.lt_succ_of_le h1,h2⟩,Nat.add_sub_cancel]
theorem qaH3{F:Nat->L5}{l:Nat}(e:Od lt)(c:l<=k)(s2:∀i j,i<=j->j<k->lt (f j) (f i)=false)(g:∀i,i<l->lt x (f i)=false)(n:∀i,l<=i->i<k->lt (f i) x=false)(h1:∀i,i<l->F i=f i)(h2:F l=x)(d:∀i,l<=i->i<k->F (i+1)=f i)(i j:Nat)(a:i<=j)(o:j<k+1):lt (F j) (F i)=false:=by rcases Nat.lt_trichotomy j l with h|h|h;{rw[h1 j h,h1 i (zCa a h)];exact s2 i j a (zAc h c)};{subst h;rw[h2];rcases Nat.lt_or_eq_of_le a with q|rfl;{rw[h1 i q];exact g i q};rw[h2];exact e.ir _};cases j with|zero=>exact absurd h (Nat.not_lt_zero _)|succ m=>have b:=Nat.lt_of_succ_lt_succ o;rw[d m (zC2 h) b];rcases Nat.lt_trichotomy i l with q|q|q;{rw[h1 i q];exact s2 i m (zAg (zBh q) (zC2 h)) b};{subst q;rw[h2];exact n m (zC2 h) b};cases i with|zero=>exact absurd q (Nat.not_lt_zero _)|succ p=>rw[d p (zC2 q) (zCa (Nat.le_of_succ_le_succ a) b)];exact s2 p m (Nat.le_of_succ_le_succ a) b
theorem wbin(D:Od lt)(J:Cn prog w A s kd Y lt)(L:L7 Z=kd)(U:X+n<=Y.size)(M:C<=n)(h1:1<=C)(N:Bt Y X Z W)(O:Srt lt (λi=>att (Lz W) (X+i)) C)(h:∀e,Bt Y X Z e->Srt lt (λi=>att (Lz e) (X+i)) n->Q true e):wpS (Lm prog w) A E s (binarySort' X n C) Q W:=by
 rw[binarySort'_eq];refine fB (λk c e=>c=(none,())/\Bt Y X Z e/\Srt lt (λi=>att (Lz e) (X+i)) (min k n)) (λc e=>c=(none,())/\Bt Y X Z e/\Srt lt (λi=>att (Lz e) (X+i)) n) ?_ ?_ ⟨rfl,N,λi j a b=>O i j a ⋯⟩ ?_
 .rintro F z k c f P R ⟨rfl,B,m⟩ K p q;subst z;rw[show min k n=k by lia] at m;refine fB (λx c e=>e=f/\∃l r,c=(none,l,r)/\l<=r/\r<=k/\r-l<=k-x/\(∀i,i<l->lt (att (Lz f) (X+k)) (att (Lz f) (X+i))=false)/\(∀i,r<=i->i<k->lt (att (Lz f) (X+i)) (att (Lz f) (X+k))=false)) (λc e=>e=f/\∃l,c=(none,l,l)/\l<=k/\(∀i,i<l->lt (att (Lz f) (X+k)) (att (Lz f) (X+i))=false)/\(∀i,l<=i->i<k->lt (att (Lz f) (X+i)) (att (Lz f) (X+k))=false)) ?_ ?_ ⟨rfl,0,k,rfl,⋯,⋯,⋯,λi o=>⋯,λi h1 I=>⋯⟩ ?_;{rintro F z x c g-V ⟨rfl,l,r,rfl,S,t,T,u,v⟩ K p q;subst z;dsimp only;refine wif (λd=>?_) λd=>?_;{obtain rfl:l=r:=⋯;exact Lv (p _ _ ⟨rfl,l,rfl,t,u,v⟩)};exact aB J L B ⋯ ⋯ (λG=>Lv (q _ _ ⟨rfl,l,_,rfl,⋯,⋯,⋯,u,λi h1 I=>D.tr _ _ _ (D.as _ _ G) (m _ _ h1 I)⟩)) λG=>Lv (q _ _ ⟨rfl,_,r,rfl,⋯,⋯,⋯,λi h1=>D.tr _ _ _ (m i _ ⋯ ⋯) G,v⟩)};{rintro c g ⟨rfl,l,r,rfl,S,t,T,u,v⟩;obtain rfl:l=r:=⋯;exact⟨rfl,l,rfl,t,u,v⟩};rintro F z c g ⟨rfl,l,rfl,t,u,v⟩;subst z;dsimp only;have z:X+k<(Lz g).size:=by rw[B.sz];lia
  have y:=Nat.add_le_add_left t X;refine Lu (wmv (Lv (q _ _ ⟨rfl,B.set (bubble_perm _ _ _) λi o=>?_,?_⟩)));{exact qaR7 z y (zAc o (zCk _ _))};rw[show min (k+1) n=k+1 by lia];exact qaH3 D t m u v (λi o=>qaR7 z y (Nat.add_lt_add_left o X)) (qbb9 z y) λi o H=>qbb8 z y (Nat.add_le_add_left o X) (Nat.add_lt_add_left H X)
 {grind};rintro F z c f ⟨rfl,B,m⟩;subst z;exact Lv (h f B m)
def Ds(lt:L5->L5->Bool)(Y:Array L5):Prop:=Y.toList.Pairwise λx y=>lt x y=true∨lt y x=true
theorem Ds.at(h:Ds lt Y)(b:Bt Y X Z W)(c:i≠j)(hi:i<Y.size)(n:j<Y.size)(e:lt (att (Lz W) i) (att (Lz W) j)=false):lt (att (Lz W) j) (att (Lz W) i)=true:=by have d:=((zBr.mp b.pm).pairwise_iff λh=>h.symm).mpr h;rw[Mw] at d;have g:∀k,k<Y.size->∃a,(Lz W).toList[k]'a=att (Lz W) k:=λk a=>⟨by rw[zB8,b.sz];exact a,by simp[att,Array.getD,show k<(Lz W).size by rw[b.sz];exact a]⟩;obtain⟨f,l⟩:=g i hi;obtain⟨m,e2⟩:=g j n;rcases Nat.lt_or_gt_of_ne c with q|q;{have:=d i j f m q;rw[l,e2,e] at this;simpa using this};have:=d j i m f q;rw[l,e2,e] at this;simpa using this
theorem wcnt(v:Od lt)(D:Cn prog w A s kd Y lt)(M:Ds lt Y)(G:L7 Z=kd)(T:X+m<=Y.size)(h1:1<=m)(r:Bt Y X Z W)(h:∀n f,Bt Y X Z f->1<=n->n<=m->Srt lt (λi=>att (Lz f) (X+i)) n->Q (some n) f):wpS (Lm prog w) A E s (countRun' X m) Q W:=by
 rw[countRun'_eq];refine fB (λx c f=>f=W/\c=(none,x)/\Srt lt (λi=>att (Lz W) (X+i)) x) (λc f=>f=W/\∃n,c=(none,n)/\1<=n/\n<=m/\Srt lt (λi=>att (Lz W) (X+i)) n/\(n=m∨lt (att (Lz W) (X+n)) (att (Lz W) (X+n-1))=true)) ?_ ?_ ⟨rfl,rfl,λi j a b=>by rw[show i=j by lia];exact v.ir _⟩ ?_;{rintro F z x c g o N ⟨rfl,rfl,t⟩ K p q;subst z;exact aB D G r ⋯ ⋯ (λu=>Lv (p _ _ ⟨rfl,x,rfl,o,⋯,t,.inr u⟩)) λu=>Lv (q _ _ ⟨rfl,rfl,t.more v λ_=>by rw[<-Nat.add_sub_assoc o];exact u⟩)};{rintro c g ⟨rfl,rfl,t⟩;rw[show max 1 m=m by lia] at t ⊢;exact⟨rfl,m,rfl,h1,zA3 _,t,.inl rfl⟩};rintro F z c g ⟨rfl,n,rfl,J,L,t,d⟩;subst z;dsimp only;refine wif (λ_=>Lv (h n g r J L t)) λc=>?_;have d:=d.resolve_left (by simpa using c);refine wif (λP=>aB D G r ⋯ ⋯ (λ_=>Lv (h n g r J L t)) λe=>?_) λP=>?_;{rw[M.at r ⋯ ⋯ ⋯ (by rw[Nat.add_sub_assoc J];exact t 0 (n-1) ⋯ ⋯)] at e;cases e};obtain rfl:n=1:=⋯;simp at c;refine rB ?_;have O:Od λx y=>lt y x:=⟨λx y q=>v.as _ _ q,λx y z p q=>v.tr _ _ _ q p⟩;refine fB (λx c f=>f=g/\c=(none,x,0)/\Srt (λx y=>lt y x) (λi=>att (Lz g) (X+i)) x) (λc f=>f=g/\∃n,c=(none,n,0)/\2<=n/\n<=m/\Srt (λx y=>lt y x) (λi=>att (Lz g) (X+i)) n) ?_ ?_ ⟨rfl,rfl,?_⟩ ?_;{rintro F z x c l o N ⟨rfl,rfl,B⟩ K p q;subst z;exact aB D G r ⋯ ⋯ (λu=>wif (λ_=>wif (λc=>absurd c (zC8 0)) λ_=>Lv (q _ _ ⟨rfl,rfl,B.more O λ_=>by rw[<-Nat.add_sub_assoc ⋯];exact v.as _ _ u⟩)) λc=>absurd rfl c) λu=>aB D G r ⋯ ⋯ (λ_=>Lv (p _ _ ⟨rfl,x,rfl,o,⋯,B⟩)) λe=>by rw[M.at r ⋯ ⋯ ⋯ u] at e;cases e};{rintro c l ⟨rfl,rfl,B⟩;rw[show max (1+1) m=m by lia] at B ⊢;exact⟨rfl,m,rfl,⋯,zA3 _,B⟩};{refine Srt.more (λi j a b=>?_) O λ_=>v.as _ _ d;obtain rfl:i=j:=⋯;exact v.ir _};rintro F z c l ⟨rfl,n,rfl,J,L,B⟩;subst z;refine wif (λc=>absurd c (zC8 0)) λ_=>?_;dsimp only;have z:X+n<=(Lz l).size:=by rw[r.sz];lia
 have H:=r.set (mirror_perm (Lz l) X (X+n) ((X+n-X)/2)) λi U=>by rw[qag2 z,if_neg ⋯]
 refine Lu (wpS_reverse ?_);refine fB (λx c f=>f=L8 l (mirror (Lz l) X (X+n) ((X+n-X)/2))/\c=(none,x)/\Srt lt (λi=>att (Lz f) (X+i)) x) (λc f=>f=L8 l (mirror (Lz l) X (X+n) ((X+n-X)/2))/\∃k,c=(none,k)/\1<=k/\k<=m/\Srt lt (λi=>att (Lz f) (X+i)) k) ?_ ?_ ⟨rfl,rfl,λi j a b=>?_⟩ ?_;{rintro F z x c I o N ⟨rfl,rfl,C⟩ K p q;subst z;exact aB D G H ⋯ ⋯ (λ_=>Lv (p _ _ ⟨rfl,x,rfl,⋯,⋯,C⟩)) λu=>Lv (q _ _ ⟨rfl,rfl,C.more v λ_=>by rw[<-Nat.add_sub_assoc ⋯];exact u⟩)};{rintro c I ⟨rfl,rfl,C⟩;rw[show max n m=m by lia] at C ⊢;exact⟨rfl,m,rfl,⋯,zA3 _,C⟩};{show lt (att (mirror _ _ _ _) _) (att (mirror _ _ _ _) _)=false;rw[qag2 z,qag2 z,if_pos ⋯,if_pos ⋯];have:=B (n-1-j) (n-1-i) ⋯ ⋯;rw[show X+(X+n)-1-(X+j)=X+(n-1-j) by lia,show X+(X+n)-1-(X+i)=X+(n-1-i) by lia];exact this};rintro F z c I ⟨rfl,k,rfl,R,S,C⟩;subst z;exact Lv (h k _ H R S C)
end
theorem qaY6(i:Nat):mergeAt' i=(do
 let s<-get
 let (some (p,n,pw),some (q,m,_)):=((Lw s)[i]?,(Lw s)[i+1]?)|unsupported "internal:list.sort.pending"
 set (L9 s (((Lw s).setIfInBounds i (p,n+m,pw)).eraseIdxIfInBounds (i+1)))
 let some k<-gal false (<- elem' (Lz s) q) (Lz s) p n 0|return false
 let (p,n):=(p+k,n-k)
 if n==0 then return true
 let some m<-gal true (<- elem' (Lz s) (p+n-1)) (Lz s) q m (m-1)|return false
 if m==0 then return true
 let x:=(Lz s).extract p q
 let y:=(Lz s).extract q (q+m)
 let r<-if n<=m then mlo x y else mhi x y
 modify λs=>L8 s (r.toList.zipIdx.foldl (λa (z,j)=>a.setIfInBounds (p+j) z) (Lz s))
 return (Lx (<- get)).isNone):=rfl
theorem wr{p:Nat}:∀(L:List L5)(n:Nat)(a:Array L5),p+n+L.length<=a.size->((L.zipIdx n).foldl (λ(a:Array L5)(z:L5×Nat)=>a.setIfInBounds (p+z.2) z.1) a).toList=a.toList.take (p+n)++L++a.toList.drop (p+n+L.length)
 |[],n,a,_=>by simp|x::L,n,a,h=>by
  rw[zAj] at h;rw[Mz,Nj,wr L (n+1) _ (by rw[Array.size_setIfInBounds];lia),Array.toList_setIfInBounds,<-Nat.add_assoc,zAj,
   List.drop_set_of_lt ⋯,List.take_set,zBu,show a.toList[p+n]?.toList=[att a (p+n)] from ?_,M5 _ _ (by simp;lia),show p+n+1+L.length=p+n+(L.length+1) by lia]
  {simp[show min (p+n) a.size=p+n by lia]};rw[Array.getElem?_toList,qN4 ⋯];rfl
theorem qau2(h:i+n<j)(b:j<=a.size):att (a.extract i j) n=att a (i+n):=qm2 (by rw[Array.getElem?_extract];rw[if_pos ⋯])
section
variable{prog:Ln}{w:Lq}{A:Lp}{E:V'->Sh->Prop}{s:Sh}{kd:SortKind}{lt:L5->L5->Bool}{st:L6}{a0:Array L5}
theorem wset(h:Q ⟨⟩ a):wpS (Lm prog w) A E s (set a:StateT L6 Sem PUnit) Q st:=by unfold wpS;rw[StateT.run_set];exact Kv ⟨rfl,h⟩
theorem wmat(G:Od lt)(I:Cn prog w A s kd a0 lt)(J:L7 st=kd)(K:Lx st=none)(Y:Lw st = #[(0,n,F),(n,m,pv)])(H:(Lz st).Perm a0)(Z:0<n)(hm:0<m)(hz:n+m=a0.size)(h1:Srt lt (att (Lz st)) n)(h2:Srt lt (λi=>att (Lz st) (n+i)) m)(h:∀u,Lx u=none->Lw u = #[(0,n+m,F)]->(Lz u).toList=Mb ((Lz st).toList.take n) ((Lz st).toList.drop n) (lee lt)->Q true u):wpS (Lm prog w) A E s (mergeAt' 0) Q st:=by
 have a1:(Lz st).size=n+m:=H.size_eq.trans hz.symm;have D:∀i,i<(Lz st).size->att (Lz st) i∈a0.toList:=λi C=>(zBr.mp H).mem_iff.mp (qau1 C);rw[qaY6];refine gB ?_;rw[Y];have ep:(#[(0,n,F),(n,m,pv)].setIfInBounds 0 (0,n+m,F)).eraseIdxIfInBounds (0+1) = #[(0,n+m,F)]:=by simp[Array.eraseIdxIfInBounds]
 refine Lu (wset ?_);rw[ep];refine eB ⋯ (Lu (wgs G I J (D _ ⋯) ⋯ D (λi j a b=>by dsimp only;rw[zAh,zAh];exact h1 i j a b) Z λk S T N=>?_));simp only[zAh] at T N ⊢;have sD:(Lz st).toList.drop n=att (Lz st) n::(Lz st).toList.drop (n+1):=Ey ⋯;have O:Mb ((Lz st).toList.take n) ((Lz st).toList.drop n) (lee lt)=(Lz st).toList.take k++Mb (((Lz st).toList.drop k).take (n-k)) ((Lz st).toList.drop n) (lee lt):=by
  rw[<-List.drop_take,<-show ((Lz st).toList.take n).take k=(Lz st).toList.take k by rw[Nn,Nat.min_eq_left S]];conv=>lhs;rw[<-zBf k ((Lz st).toList.take n)]
  rw[sD,Kh (le:=lee lt)];intro x L;rw[Nn,Nat.min_eq_left S] at L;obtain⟨i,U,i2,rfl⟩:=Kj L;exact T i U
 refine wif (λc=>Lv (h _ K rfl ?_)) λc=>?_
 .obtain rfl:k=n:=by simp at c;lia
  rw[O,Nat.sub_self,No,Nm,zBf]
 have c:k<n:=by simp at c;lia
 rw[show k+(n-k)-1=n-1 by lia];refine eB ⋯ (Lu (wgs G I J (D _ ⋯) ⋯ D h2 ⋯ λv v1 v2 v3=>?_));have V:Mb (((Lz st).toList.drop k).take (n-k)) ((Lz st).toList.drop n) (lee lt)=Mb (((Lz st).toList.drop k).take (n-k)) (((Lz st).toList.drop n).take v) (lee lt)++(Lz st).toList.drop (n+v):=by
  conv=>lhs;rw[<-zBf v ((Lz st).toList.drop n)]
  rw[M6,Ir (le:=lee lt)];intro y W x L;obtain⟨i,U,i2,rfl⟩:=qt0 L;rw[<-zAu (l:=(Lz st).toList.drop (n+v)) (zA3 _)] at W;obtain⟨j,_,j2,rfl⟩:=qt0 W;have e1:=h1 (k+i) (n-1) ⋯ ⋯;have e2:lt (att (Lz st) (n+(v+j))) (att (Lz st) (n-1))=false:=v3 (v+j) ⋯ ⋯;rw[<-Nat.add_assoc] at e2;show (!lt _ _)=true;rw[G.tr _ _ _ e1 e2];rfl
 dsimp only;refine wif (λc=>Lv (h _ K rfl ?_)) λd=>?_
 .obtain rfl:v=0:=by simpa using c
  rw[O,V,No,Ni,Nat.add_zero,<-zAx,<-Nu,show k+(n-k)=n by lia,zBf]
 have d:0<v:=by simp at d;lia
 have P:((Lz st).extract k n).size=n-k:=by rw[Array.size_extract];lia
 have X:((Lz st).extract n (n+v)).size=v:=by rw[Array.size_extract];lia
 have g:∀i,i<n-k->att ((Lz st).extract k n) i=att (Lz st) (k+i):=λi C=>qau2 ⋯ ⋯;have o:∀i,i<v->att ((Lz st).extract n (n+v)) i=att (Lz st) (n+i):=λi C=>qau2 ⋯ ⋯;have post:∀(r:Array L5)(f:L6),R (L9 st #[(0,n+m,F)]) f->r.toList=Mb ((Lz st).extract k n).toList ((Lz st).extract n (n+v)).toList (lee lt)->wpS (Lm prog w) A E s (do
  modify λs=>L8 s (Mv (λ(a:Array L5)(x:L5×Nat)=>match x with|(z,j)=>a.setIfInBounds (k+j) z) (Lz s) r.toList.zipIdx)
  let t<-get
  pure (Lx t).isNone) Q f:=by
  intro r f M e;have len:r.toList.length=n-k+v:=by rw[e,List.length_merge,zB8,zB8,P,X]
  refine Lu (Ly (gB ?_));show wpS _ _ _ _ (pure (Lx f).isNone) Q _;rw[M.2.2.2];show wpS _ _ _ _ (pure (Lx st).isNone) Q _;rw[K];refine Lv (h _ (M.2.2.2.trans K) M.2.2.1 ?_);show (Mv _ (Lz f) _).toList=_;rw[show Lz f=Lz st from M.2.1];have q:=wr (p:=k) r.toList 0 (Lz st) ⋯;rw[Nat.add_zero,len,show k+(n-k+v)=n+v by lia,e,qc9,qc9,show n+v-n=v by lia,zAx,<-V,<-O] at q;rw[e,qc9,qc9,show n+v-n=v by lia];exact q
 refine wif (λ_=>Lu (wmlo G I J (λi C=>?_) (λi C=>?_) (λi j a b=>?_) (λi j a b=>?_) ⋯ ⋯ ?_ (λi C=>?_) post)) λ_=>Lu (wmhi G I J (λi C=>?_) (λi C=>?_) (λi j a b=>?_) (λi j a b=>?_) ⋯ ⋯ (λi C=>?_) ?_ post);{rw[g i ⋯];exact D _ ⋯};{rw[o i ⋯];exact D _ ⋯};{rw[g i ⋯,g j ⋯];exact h1 _ _ ⋯ ⋯};{rw[o i ⋯,o j ⋯];exact h2 _ _ ⋯ ⋯};{rw[g 0 ⋯,o 0 ⋯];simpa[B] using N k (zA3 _) c};{rw[P,g _ ⋯,o i ⋯,show k+(n-k-1)=n-1 by lia];exact v2 i ⋯};{rw[g i ⋯];exact D _ ⋯};{rw[o i ⋯];exact D _ ⋯};{rw[g i ⋯,g j ⋯];exact h1 _ _ ⋯ ⋯};{rw[o i ⋯,o j ⋯];exact h2 _ _ ⋯ ⋯};{rw[g i ⋯,o 0 ⋯];simpa[B] using N (k+i) ⋯ ⋯};rw[P,X,g _ ⋯,o _ ⋯,show k+(n-k-1)=n-1 by lia];exact v2 _ ⋯
end
section
variable{prog:Ln}{w:Lq}{A:Lp}{E:V'->Sh->Prop}{s:Sh}{kd:SortKind}{lt:L5->L5->Bool}{st:L6}{a0:Array L5}
theorem qav4(a:Srt lt (λj=>att xs (i+j)) n)(f:i+n<=xs.size):((xs.toList.drop i).take n).Pairwise λx y=>lee lt x y=true:=by
 rw[Mw];intro p q b c d;rw[zBz,Mg,zB8] at b c;have e:∀p (h:p<((xs.toList.drop i).take n).length),((xs.toList.drop i).take n)[p]=att xs (i+p):=λp h=>by rw[Ng,Nh];rw[zBz,Mg,zB8] at h;simp[att,Array.getD,show i+p<xs.size by lia]
 rw[e,e];show (!lt _ _)=true;rw[a p q ⋯ ⋯];rfl
def Ht(lt:L5->L5->Bool)(a0:Array L5)(st:L6):Prop:=(Lz st).toList.Perm a0.toList/\(Lz st).toList.Pairwise (λx y=>lee lt x y=true)/\Lx st=none
structure One(lt:L5->L5->Bool)(kd:SortKind)(a0:Array L5)(n:Nat)(st:L6):Prop where
 pm:(Lz st).Perm a0
 k:L7 st=kd
 f:Lx st=none
 p:Lw st = #[(0,n,0)]
 s:Srt lt (att (Lz st)) n
structure Two(lt:L5->L5->Bool)(kd:SortKind)(a0:Array L5)(n m pw:Nat)(st:L6):Prop where
 pm:(Lz st).Perm a0
 k:L7 st=kd
 f:Lx st=none
 p:Lw st = #[(0,n,pw),(n,m,0)]
 s:Srt lt (att (Lz st)) n
 t:Srt lt (λi=>att (Lz st) (n+i)) m
theorem One.fin(h:One lt kd a0 n st)(c:n=a0.size):Ht lt a0 st:=by refine⟨zBr.mp h.pm,?_,h.f⟩;have:=qav4 (λi j a b=>by dsimp only;rw[zAh,zAh];exact h.s i j a b) (by rw[h.pm.size_eq];lia);rwa[Mt,zAu (by rw[zB8,h.pm.size_eq];lia)] at this
theorem wrun(D:Od lt)(J:Cn prog w A s kd a0 lt)(T:Ds lt a0)(O:L7 st=kd)(hf:Lx st=none)(P:Lw st = #[])(L:(Lz st).Perm a0)(G:a0.size=64)(h:∀l,Ht lt a0 l->Q () l):wpS (Lm prog w) A E s sortRuns' Q st:=by
 rw[sortRuns'_eq];refine gB ?_;dsimp only;rw[L.size_eq.trans G];have hm:minRun' 64 64 0=32:=rfl;rw[hm];refine fB (λx c l=>(x=0/\c=(none,0)/\l=st)∨(x=1/\∃n,c=(none,n)/\32<=n/\n<=64/\One lt kd a0 n l)∨(2<=x/\c=(none,64)/\∃n m B,n+m=64/\0<n/\0<m/\Two lt kd a0 n m B l)) (λc l=>c=(none,64)/\(One lt kd a0 64 l∨∃n m B,n+m=64/\0<n/\0<m/\Two lt kd a0 n m B l)) ?_ ?_ (.inl ⟨rfl,rfl,rfl⟩) ?_
 .rintro F z x c u-hx (⟨rfl,rfl,rfl⟩|⟨rfl,n,rfl,I,n2,o⟩|⟨x2,rfl,n,m,B,e,I,R,o⟩) K p q<;>subst z
  .dsimp only;refine wif (λc=>absurd c ⋯) λ_=>?_;have S:Bt a0 0 u u:=⟨rfl,rfl,rfl,L,λ_ _=>rfl⟩;refine Lu (wcnt D J T O ⋯ ⋯ S λn r C I n2 M=>?_);have fin:∀k g,Bt a0 0 u g->32<=k->k<=64->Srt lt (λi=>att (Lz g) (0+i)) k->One lt kd a0 k (L9 g ((Lw g).push (0,k,0))):=λk g v _ _ H=>
    ⟨v.pm,v.kd.trans O,v.fl.trans hf,by show (Lw g).push _=_;rw[v.pd,P];rfl,λi j a b=>by have:=H i j a b;dsimp only at this;rwa[zAh,zAh] at this⟩
   refine wif (λc=>?_) λc=>?_;{refine rB ?_;refine Lu (wbin D J O ⋯ ⋯ I C M λg v H=>?_);refine wif (λc=>by cases c) λ_=>?_;refine gB ?_;rw[show (Lw g).back?=none by rw[v.pd,P];rfl];exact Lu (Ly (Lv (q _ _ (.inr (.inl ⟨rfl,_,rfl,⋯,⋯,fin _ g v ⋯ ⋯ H⟩)))))};refine gB ?_;rw[show (Lw r).back?=none by rw[C.pd,P];rfl];exact Lu (Ly (Lv (q _ _ (.inr (.inl ⟨rfl,_,rfl,⋯,⋯,by rw[zAh];exact fin _ r C ⋯ ⋯ M⟩)))))
  .dsimp only;refine wif (λc=>?_) λc=>?_;{obtain rfl:n=64:=⋯;exact Lv (p _ _ ⟨rfl,.inl o⟩)};have S:Bt a0 n u u:=⟨rfl,rfl,rfl,o.pm,λ_ _=>rfl⟩;refine Lu (wcnt D J T o.k ⋯ ⋯ S λk r C k1 k2 M=>?_);have U:∀q g,Bt a0 n u g->q=64-n->Srt lt (λi=>att (Lz g) (n+i)) q->∀B,Two lt kd a0 n q B (L9 (L9 g ((Lw g).modify ((Lw g).size-1) λx=>(x.fst,x.2.fst,B))) (((Lw g).modify ((Lw g).size-1) λx=>(x.fst,x.2.fst,B)).push (n,q,0))):=λq g v hq H B=>
    ⟨v.pm,v.kd.trans o.k,v.fl.trans o.f,by show ((Lw g).modify _ _).push _=_;rw[v.pd,o.p];rfl,λi j a b=>by show lt (att (Lz g) j) (att (Lz g) i)=false;rw[v.pr i ⋯,v.pr j b];exact o.s i j a b,H⟩
   have N:∀g,Bt a0 n u g->(Lw g).back?=some (0,n,0)/\¬(Lw g).size>1:=λg v=>by rw[v.pd,o.p];exact⟨rfl,zC8 1⟩
   refine wif (λd=>?_) λd=>?_;{refine rB ?_;refine Lu (wbin D J o.k ⋯ ⋯ k1 C M λg v H=>?_);refine wif (λc=>by cases c) λ_=>?_;refine gB ?_;rw[(N g v).1];refine fB (λx c l=>l=g/\c=(none,())) (λc l=>l=g/\c=(none,())) ?_ (λ_ _ h=>h) ⟨rfl,rfl⟩ ?_;{rintro F z x c y - - ⟨rfl,rfl⟩ K p q;subst z;refine gB ?_;rw[if_neg (N y v).2];exact Lv (p _ _ ⟨rfl,rfl⟩)};rintro F z c y ⟨rfl,rfl⟩;subst z;exact Lu (Ly (Lu (Ly (Lv (q _ _ (.inr (.inr ⟨zA3 2,by rw[show n+min (64-n) 32=64 by lia],n,_,_,⋯,⋯,⋯,U _ y v ⋯ H _⟩)))))))};refine gB ?_;rw[(N r C).1];refine fB (λx c l=>l=r/\c=(none,())) (λc l=>l=r/\c=(none,())) ?_ (λ_ _ h=>h) ⟨rfl,rfl⟩ ?_;{rintro F z x c y - - ⟨rfl,rfl⟩ K p q;subst z;refine gB ?_;rw[if_neg (N y C).2];exact Lv (p _ _ ⟨rfl,rfl⟩)};rintro F z c y ⟨rfl,rfl⟩;subst z;exact Lu (Ly (Lu (Ly (Lv (q _ _ (.inr (.inr ⟨zA3 2,by rw[show n+k=64 by lia],n,_,_,⋯,⋯,⋯,U _ y C ⋯ M _⟩)))))))
  dsimp only;exact wif (λ_=>Lv (p _ _ ⟨rfl,.inr ⟨n,m,B,e,I,R,o⟩⟩)) λc=>absurd (zA3 _) c
 {rintro c u (⟨V,_⟩|⟨V,_⟩|⟨x2,rfl,o⟩);{lia};{lia};exact⟨rfl,.inr o⟩};rintro F z c u ⟨rfl,o⟩;subst z;refine fB (λx c l=>c=(none,())/\(x=0/\l=u∨Ht lt a0 l/\(Lw l).size<=1)) (λc l=>c=(none,())/\Ht lt a0 l) ?_ ?_ ⟨rfl,.inl ⟨rfl,rfl⟩⟩ ?_;{rintro F t x c r - - ⟨rfl,⟨rfl,rfl⟩|⟨f,z⟩⟩ K W q'<;>subst t;{refine gB ?_;rcases o with o|⟨n,m,B,e,I,R,o⟩;{rw[if_pos (by rw[o.p];exact zA3 1)];exact Lv (W _ _ ⟨rfl,o.fin G.symm⟩)};rw[o.p];refine wif (λc=>absurd c (by simp)) λ_=>?_;refine Lu (wmat D J o.k o.f o.p o.pm I R ⋯ o.s o.t λg f3 p3 X=>?_);refine Lv (q' _ _ ⟨rfl,.inr ⟨⟨?_,?_,f3⟩,by rw[p3];exact zA3 1⟩⟩);{rw[X];have q:=List.merge_perm_append (le:=lee lt) (xs:=(Lz r).toList.take n) (ys:=(Lz r).toList.drop n);rw[zBf] at q;exact q.trans (zBr.mp o.pm)};rw[X];have sz:(Lz r).size=64:=o.pm.size_eq.trans G;refine List.pairwise_merge (λa b c Y Z=>?_) (λa b=>?_) _ _ ?_ ?_;{simp only[Bool.not_eq_true',lee] at Y Z ⊢;exact D.tr _ _ _ Y Z};{cases q:lt b a with|false=>simp[lee,q]|true=>simp[lee,q,D.as _ _ q]};{have:=qav4 (i:=0) (n:=n) (xs:=Lz r) (λi j a b=>by dsimp only;rw[zAh,zAh];exact o.s i j a b) ⋯;rwa[Mt] at this};have:=qav4 o.t ⋯;rwa[zAu (by rw[Mg,zB8];lia)] at this};refine gB ?_;rw[if_pos z];exact Lv (W _ _ ⟨rfl,f⟩)};{rintro c r ⟨rfl,⟨V,_⟩|⟨f,z⟩⟩;{lia};exact⟨rfl,f⟩};rintro F z c r ⟨rfl,f⟩;subst z;exact Lv (h r f)
end
noncomputable def plt(p q:Int×Int):Bool:=decide (p.1<q.1∨p.1=q.1/\p.2<q.2)
def TP(h:Heap)(v:V')(p:Int×Int):Prop:=∃b t u o n,v=.ref b/\h.get? b=some o/\o.cls=.type "tuple" /\ o.data=.seq #[.int p.1 t,.int p.2 u] n
section
variable{prog:Ln}{w:Lq}{A:Lp}{E:V'->Sh->Prop}{s:Sh}{kd:SortKind}{lt:L5->L5->Bool}{X:L6}{U:Array L5}
theorem wrunS(D:Od lt)(G:Cn prog w A s kd U lt)(I:Ds lt U)(u:L7 X=kd)(J:Lx X=none)(v:Lw X = #[])(t:(Lz X).Perm U)(h2:2<=U.size)(y:U.size<64)(h:∀d,Ht lt U d->Q () d):wpS (Lm prog w) A E s sortRuns' Q X:=by
 rw[sortRuns'_eq];refine gB ?_;obtain⟨f,L⟩:∃f,U.size=f+1:=⟨U.size-1,⋯⟩;have M:minRun' U.size U.size 0=U.size:=by
  conv=>lhs;rw[show minRun' U.size=minRun' (f+1) by rw[L]]
  rw[minRun'_succ,if_pos y];rfl
 dsimp only;rw[t.size_eq,M];refine fB (λx c d=>(x=0/\c=(none,0)/\d=X)∨(1<=x/\c=(none,U.size)/\One lt kd U U.size d)) (λc d=>c=(none,U.size)/\One lt kd U U.size d) ?_ ?_ (.inl ⟨rfl,rfl,rfl⟩) ?_
 .rintro F z x c l-R (⟨rfl,rfl,rfl⟩|⟨N,rfl,o⟩) K p q<;>subst z
  .dsimp only;refine wif (λc=>absurd c ⋯) λ_=>?_;have O:Bt U 0 l l:=⟨rfl,rfl,rfl,t,λ_ _=>rfl⟩;refine Lu (wcnt D G I u ⋯ ⋯ O λn m B P S H=>?_);have fin:∀k g,k=U.size->Bt U 0 l g->Srt lt (λi=>att (Lz g) (0+i)) k->One lt kd U U.size (L9 g ((Lw g).push (0,k,0))):=λk g e r C=>
    ⟨r.pm,r.kd.trans u,r.fl.trans J,by show (Lw g).push _=_;rw[r.pd,v,e];rfl,λi j a b=>by have:=C i j a ⋯;dsimp only at this;rwa[zAh,zAh] at this⟩
   refine wif (λc=>?_) λc=>?_;{refine rB ?_;refine Lu (wbin D G u ⋯ ⋯ P B H λg r C=>?_);refine wif (λc=>by cases c) λ_=>?_;refine gB ?_;rw[show (Lw g).back?=none by rw[r.pd,v];rfl];exact Lu (Ly (Lv (q _ _ (.inr ⟨⋯,by rw[show 0+min (U.size-0) U.size=U.size by lia],fin _ g ⋯ r C⟩))))};refine gB ?_;rw[show (Lw m).back?=none by rw[B.pd,v];rfl];exact Lu (Ly (Lv (q _ _ (.inr ⟨⋯,by rw[show 0+n=U.size by lia],fin _ m ⋯ B H⟩))))
  dsimp only;exact wif (λ_=>Lv (p _ _ ⟨rfl,o⟩)) λc=>absurd (zA3 _) c
 {rintro c l (⟨T,_⟩|⟨N,rfl,o⟩);{lia};exact⟨rfl,o⟩};rintro F z c l ⟨rfl,o⟩;subst z;refine fB (λx c d=>c=(none,())/\d=l) (λc d=>c=(none,())/\d=l) ?_ (λ_ _ h=>h) ⟨rfl,rfl⟩ ?_;{rintro F z x c m - - ⟨rfl,rfl⟩ K p q;subst z;refine gB ?_;rw[if_pos (by rw[o.p];exact zA3 1)];exact Lv (p _ _ ⟨rfl,rfl⟩)};rintro F z c m ⟨rfl,rfl⟩;subst z;exact Lv (h m (o.fin rfl))
theorem cmpP{q:Int×Int}(f:TP s.heap x p)(g:TP s.heap y q)(h:Q (plt p q) s):Ll (Lm prog w) A (keyLt' (tuples' true) x y) Q E s:=by obtain⟨b,t,u,o,n,rfl,i,_,j⟩:=f;obtain⟨c,m,v,B,C,rfl,k,_,l⟩:=g;have z:∀r:Bool,r=plt p q->Q r s:=λr e=>e ▸ h;refine W.kat_lt i j k l (W.kat_cons (wpAny_eqBool_int (W.kat_go (λa=>W.kat_yes (W.kat_cons (wpAny_eqBool_int (W.kat_go (λd=>W.kat_yes (W.kat_nil (z _ ?_))) λd=>W.kat_no (W.kat_one _ _ (lt_int (z _ ?_))))))) λa=>W.kat_no (oneLt_int (z _ ?_)))));{simp at a d;simp[plt,a,d]};{simp at a d;simp[plt,a]};simp at a;simp[plt,a]
theorem TP.keep(t:TP h v p)(k:∀b o,h.get? b=some o->o.cls=.type "tuple" -> h'.get? b=some o):TP h' v p:=by obtain⟨b,t,u,o,n,rfl,c,a,d⟩:=t;exact⟨b,t,u,o,n,rfl,k _ _ c a,a,d⟩
end
def kl(kf:V'->Int×Int)(x y:L5):Bool:=plt (kf x.1) (kf y.1)
theorem kl_od(kf:V'->Int×Int):Od (kl kf):=⟨λx y h=>by simp[kl,plt] at h ⊢;lia,λx y z a b=>by simp[kl,plt] at a b ⊢;lia⟩
section
variable{prog:Ln}{w:Lq}{A:Lp}{E:V'->Sh->Prop}{s:Sh}
theorem kl_ds(c:(vs.map kf).Nodup):Ds (kl kf) (pairsOf vs):=by unfold Ds;rw[pairsOf_toList,show vs.zip vs=vs.map λv=>(v,v) by induction vs with|nil=>rfl|cons v vs d=>simp at c;rw[List.zip_cons_cons,d c.2];rfl,zCe];unfold List.Nodup at c;rw[zCe] at c;refine c.imp λ{a b} h=>?_;have e:¬((kf a).1=(kf b).1/\(kf a).2=(kf b).2):=λq=>h (Prod.ext q.1 q.2);simp only[kl,plt,zBo];lia
theorem qai6(i:s.heap.get? a=some (seqObj "list" vs.toArray n))(D:vs.length<=64)(l:(vs.map kf).Nodup)(F:∀h',(∀b o,s.heap.get? b=some o->o.cls=.type "tuple" -> h'.get? b=some o)->2<=vs.length->(∀(Q':SortKind->Sh->Prop),Q' kd {s with heap:=h'}->Ll (Lm prog w) A (keyKind' vs.toArray) Q' E {s with heap:=h'})/\Cm prog w A {s with heap:=h'} kd (λx=>x.1∈vs) (kl kf))(h:∀g:List V',g.Perm vs->(g.map kf).Pairwise (λp q=>plt q p=false)->P (.done (.ret .none)) {s with heap:=sortedHeap s.heap a vs g.toArray}):Ll (Lm prog w) A (Builtin.«list.sort» ⟨[.ref a],[]⟩) P E s:=by
 have G:vs.toArray.size=vs.length:=zA5;have la:a<s.heap.objs.size:=zA7 i;obtain⟨m,r⟩:∃e,(s.heap.update a (Obj.mapSeq λ_=>#[])).get? a=some (seqObj "list" #[] e):=⟨_,get?_update_seq i λ_=>#[]⟩;have u:(((s.heap.update a (Obj.mapSeq λ_=>#[])).push (seqObj "tuple" vs.toArray 0)).push (seqObj "list" #[] 0)).get? a=some (seqObj "list" #[] m):=zA2 _ (zA2 _ r);have H:∀b o,s.heap.get? b=some o->o.cls=.type "tuple" -> (((s.heap.update a (Obj.mapSeq λ_=>#[])).push (seqObj "tuple" vs.toArray 0)).push (seqObj "list" #[] 0)).get? b=some o:=λb o q I=>by
  have J:b≠a:=λz=>by rw[z,i] at q;cases q;simp at I
  exact zA2 _ (zA2 _ (by rw[Heap.get?_update_ne _ _ _ _ J];exact q))
 rw[list_sort_plain];refine J' (listItems_at i rfl (J' (listUpdate_at i rfl (J' (seqEpoch_at r rfl (J' (wpAny_newTuple (J' (wpAny_newList (K4 ?_) (zBi _))) (by show vs.length<=_;rw[K8];lia))))) (by rw[G,K8];lia) (zBi _))));show Ll (Lm prog w) A _ P E {s with heap:=((s.heap.update a (Obj.mapSeq λ_=>#[])).push (seqObj "tuple" vs.toArray 0)).push (seqObj "list" #[] 0)};have last:∀d:L6,(Lz d).toList.Perm (pairsOf vs).toList->(Lz d).toList.Pairwise (λx y=>lee (kl kf) x y=true)->Lx d=none->P (.done (.ret .none)) {s with heap:=sortedHeap s.heap a vs ((Lz d).map (·.2))}/\((Lz d).map (·.2)).size<=Kx+1:=λd j K _=>by
  rw[pairsOf_toList] at j;have B:∀p∈(Lz d).toList,p.1=p.2:=λp L=>(mem_zip_self (j.mem_iff.mp L)).1;have e2:((Lz d).map (·.2))=((Lz d).toList.map (·.2)).toArray:=Array.toList_inj.mp (by rw[Array.toList_map]);have pv:((Lz d).toList.map (·.2)).Perm vs:=by have:=j.map Prod.snd;rwa[List.map_snd_zip (zA3 _)] at this
  rw[e2];refine⟨h _ pv ?_,by rw[zA5,pv.length_eq,K8];lia⟩;rw[zC7,zCe];refine(List.Pairwise.and_mem.mp K).imp λ{x y} ⟨M,N,q⟩=>?_;show plt (kf y.2) (kf x.2)=false;rw[<-B x M,<-B y N];simpa[lee,kl] using q
 have tail:∀d:L6,Ht (kl kf) (pairsOf vs) d->Ll (Lm prog w) A (do
  let t:=(<- seqEpoch a) != m
  Builtin.List.listUpdate (.ref a) λ_=>(Lz d).map (·.2)
  if let some e:=Lx d then rule "list.sort.comparison-raised";throw e
  if t then rule "list.sort.modified";raiseError "ValueError" "list modified during sort"
  ret .none) P E {s with heap:=((s.heap.update a (Obj.mapSeq λ_=>#[])).push (seqObj "tuple" vs.toArray 0)).push (seqObj "list" #[] 0)}:=λd f=>by
  have z:=last d f.1 f.2.1 f.2.2;refine J' (seqEpoch_at u rfl (J' (listUpdate_at u rfl ?_ (zBi _) z.2)));rw[f.2.2];simp only[bne_self_eq_false,Bool.false_eq_true,if_false];exact Kv z.1
 by_cases c:vs.toArray.size<2;{rw[if_pos c,if_pos c];refine J' (Kv ?_);dsimp only;rw[StateT.run_pure];refine J' (Kv (tail (SortSt.mk' general' (vs.toArray.zip vs.toArray) #[] 7 none) ⟨List.Perm.refl _,?_,rfl⟩));show (pairsOf vs).toList.Pairwise _;rw[pairsOf_toList];match vs,c with|[],_=>exact .nil|[v],_=>simp|_::_::_,c=>simp at c;lia};rw[if_neg c,if_neg c];obtain⟨O,Q⟩:=F _ H ⋯;refine J' (O _ ?_);have C:Cn prog w A {s with heap:=((s.heap.update a (Obj.mapSeq λ_=>#[])).push (seqObj "tuple" vs.toArray 0)).push (seqObj "list" #[] 0)} kd (pairsOf vs) (kl kf):=λx y R S=>Q x y (mem_zip_self (pairsOf_toList vs ▸ R)).2 (mem_zip_self (pairsOf_toList vs ▸ S)).2;have k:wpS (Lm prog w) A E {s with heap:=((s.heap.update a (Obj.mapSeq λ_=>#[])).push (seqObj "tuple" vs.toArray 0)).push (seqObj "list" #[] 0)} sortRuns' (λ_ d=>Ht (kl kf) (pairsOf vs) d) (SortSt.mk' kd (vs.toArray.zip vs.toArray) #[] 7 none):=by rcases Nat.lt_or_ge vs.length 64 with q|q;{exact wrunS (kl_od kf) C (kl_ds l) rfl rfl rfl (Array.Perm.refl _) (by rw[pairsOf_size];lia) (by rw[pairsOf_size];exact q) λ_ f=>f};exact wrun (kl_od kf) C (kl_ds l) rfl rfl rfl (Array.Perm.refl _) (by rw[pairsOf_size];lia) λ_ f=>f
 refine J' (Ld k ?_ λ_ _ e=>e);rintro⟨⟨⟩,d⟩ T ⟨rfl,f⟩;exact tail d f
theorem sorted6{l:γ}(g:s.heap.IsList l vs.toArray)(d:vs.length<=64)(i:(vs.map kf).Nodup)(j:∀(A:Lp)(E:V'->Sh->Prop) h',(∀b o,s.heap.get? b=some o->o.cls=.type "tuple" -> h'.get? b=some o)->2<=vs.length->(∀(Q':SortKind->Sh->Prop),Q' kd {s with heap:=h'}->Ll (Lm prog w) A (keyKind' vs.toArray) Q' E {s with heap:=h'})/\Cm prog w A {s with heap:=h'} kd (λx=>x.1∈vs) (kl kf))(h:∀a:List V',a.Perm vs->(a.map kf).Pairwise (λp q=>plt q p=false)->Q (.ref (s.heap.objs.size+1)) {s with heap:=sortedAll s.heap vs a.toArray}):Ll (Lm prog w) A (call (.builtin "sorted") [.ref l]) Q E s:=by
 refine Calls.call_function_entry kind_sorted plain_sorted entry_sorted (args_sorted1 _) ?_;unfold Builtin.«sorted»;refine J' (Kv (J' (collect_list g (J' (wpAny_newList ?_ (by rw[K8];lia))) (by rw[K8];lia))));have e:((s.heap.push (seqObj "list" #[] 0)).update s.heap.objs.size (Obj.mapSeq (·++vs.toArray))).objs.size=s.heap.objs.size+1:=by rw[Heap.size_update,size_push']
 have f:(((s.heap.push (seqObj "list" #[] 0)).update s.heap.objs.size (Obj.mapSeq (·++vs.toArray))).push (seqObj "list" vs.toArray 0)).get? (s.heap.objs.size+1)=some (seqObj "list" vs.toArray 0):=by rw[<-e];exact zAm _ rfl
 have m:∀b o,s.heap.get? b=some o->(((s.heap.push (seqObj "list" #[] 0)).update s.heap.objs.size (Obj.mapSeq (·++vs.toArray))).push (seqObj "list" vs.toArray 0)).get? b=some o:=λb o q=>
  zA2 _ (by rw[Heap.get?_update_ne _ _ _ _ (zAi (zA7 q))];exact zA2 _ q)
 rw[e];exact J' (K4 (wpAny_call_entry slot_list_sort ⟨_,f,rfl⟩ entry_list_sort (qai6 f d i (λh' k c=>j _ _ h' (λb o q n=>k b o (m _ _ q) n) c) λa r t=>⟨_,rfl,(Kv ⟨_,rfl,h a r t⟩)⟩) (args_list_sort _)))
end
end S6
namespace LV
open PySem L2 PyProof.Rows
variable{ps:List (Int×Int)}
abbrev Er(ps:List (Int×Int)):List (Int×Int):=ps.mergeSort λp q=>!S6.plt q p
def PrA(H:Hp)(v:V)(p:Int×Int):Prop:=∃b,v=.ref b/\H b=some (.q [.int p.1,.int p.2])
noncomputable def kfh(h:Heap):V'->Int×Int
 |.ref b=>match h.get? b with|some o=>(match o.data with|.seq xs _=>(numOf (xs.getD 0 .none),numOf (xs.getD 1 .none))|_=>(0,0))|none=>(0,0)
 |_=>(0,0)
theorem qaZ1(t:S6.TP h v p):kfh h v=p:=by obtain⟨b,t,u,o,n,rfl,a,d,c⟩:=t;simp only[kfh,a,c];rfl
noncomputable def vOf:V'->V|.ref b=>.ref b|_=>.non
section
variable{X:Cx}{E6:List (γ×Obj)}{σ:List (Option V)}{H:Hp}{s:Sh}
theorem qaJ5(I:Pb X E6 σ H s)(r:O9 vs its)(t:Paired (PrA H) vs ps):its.map (kfh s.heap)=ps/\∀u∈its,S6.TP s.heap u (kfh s.heap u)/\∃b,u=.ref b/\H b=some (.q [.int (kfh s.heap u).1,.int (kfh s.heap u).2]):=by
 induction t generalizing its with
 |nil=>cases r;exact⟨rfl,nofun⟩|@cons v p vs ps h t f=>
  cases r with
  |@cons _ u _ its ru rt=>
   obtain⟨b,rfl,c⟩:=h;cases ru;obtain⟨w,q,⟨o,g,i,n,j⟩,_⟩:=I.tuple (.inl (.inl c));have d:S6.TP s.heap (.ref b) p:=by obtain⟨x,y,rfl,⟨t1,rfl⟩,t2,rfl⟩:=O9.two q;exact⟨b,t1,t2,o,n,rfl,g,i,j⟩
   have e:=qaZ1 d;obtain⟨k,l⟩:=f rt;refine⟨by rw[zAy,e,k],λu a=>?_⟩;rcases zAa.mp a with rfl|a;{rw[e];exact⟨d,b,rfl,c⟩};exact l u a
theorem qaq6{h:Heap}:∀{a:List V'},(∀u∈a,∃b,u=.ref b/\H b=some (.q [.int (kfh h u).1,.int (kfh h u).2]))->O9 (a.map vOf) a/\Paired (PrA H) (a.map vOf) (a.map (kfh h))|[],_=>⟨.nil,.nil⟩|u::a,k=>by obtain⟨b,rfl,d⟩:=k u zA9;have c:=qaq6 λv e=>k v (zA4 _ e);exact⟨.cons rfl c.1,.cons ⟨b,rfl,d⟩ c.2⟩
theorem qN9{h:Heap}{kf:V'->Int×Int}:∀{its:List V'},(∀u∈its,S6.TP h u (kf u))->∃fs,W.KatTups h its fs/\fs.length=its.length/\∀f∈fs,∃i t,f=Ny i t|[],_=>⟨[],trivial,rfl,nofun⟩|u::its,k=>by obtain⟨fs,f1,f2,f3⟩:=qN9 λv c=>k v (zA4 _ c);obtain⟨b,t,w,o,n,rfl,d,e,g⟩:=k u zA9;refine⟨Ny _ t::fs,W.KatTups.cons d e g rfl f1,by rw[zAj,f2];rfl,λf a=>?_⟩;rcases zAa.mp a with rfl|a;{exact⟨_,_,rfl⟩};exact f3 f a
theorem qY4(ps:List (Int×Int)):(Er ps).Pairwise λp q=>S6.plt q p=false:=by
 refine(List.pairwise_mergeSort (λa b c d e=>?_) (λa b=>?_) ps).imp λ{a b} h=>by simpa using h
 {simp[S6.plt] at d e ⊢;lia};simp[S6.plt];lia
theorem qav9(d:c.Perm ps)(e:c.Pairwise λp q=>S6.plt q p=false):c=Er ps:=by refine List.Perm.eq_of_pairwise (λa b _ _ f g=>?_) e (qY4 ps) (d.trans (M9 _ _).symm);simp[S6.plt] at f g;grind
def qaI3(K:Oa):List V->Hp->VK->Prop:=λxs H Q=>∃a vs ps,xs=[.ref a]/\SqL K H a vs/\Paired (PrA H) vs ps/\ps.Nodup/\ps.length<=64/\∀l b,H l=none->Paired (PrA H) b (Er ps)->Q (.ref l) (upd H l (.l b))
theorem qaf8:CallR X (.builtin "sorted") (qaI3 X.K):=by
 intro E6 s σ H S U Q I r h;obtain⟨a,V,Y,rfl,B,t,C,Z,q⟩:=h;obtain⟨u,rfl,D⟩:=Ea r;cases D;obtain⟨f,F,G,hz⟩:=I.list B;obtain⟨j,g⟩:=qaJ5 I F t;have J:f.length<=64:=by have:=congrArg Mf j;rw[zAb] at this;lia
 refine S6.sorted6 (kd:=tuples' true) G.isList J (by rw[j];exact C) (λA E h' k c=>⟨λQ' l=>?_,λx y L M E Q l=>?_⟩) λd m N=>?_;{obtain⟨fs,f1,f2,f3⟩:=qN9 λu n=>(g u n).1.keep k;refine W.kat_kind (T:=.type "int") f1 ⋯ (λv O=>?_) rfl l;obtain⟨i,t,rfl⟩:=f3 v O;exact W.Looks.of_pure rfl};{exact S6.cmpP ((g _ L).1.keep k) ((g _ M).1.keep k) l};obtain⟨P,p⟩:=qaq6 λu n=>(g u (m.mem_iff.mp n)).2;obtain⟨e,R⟩:=sortedAll_at s.heap f d.toArray;rw[(qav9 (j ▸ m.map _) N)] at p;refine⟨.ref _,_,I.laid (λb o z=>sortedAll_old z) (Nat.le_succ _) (show ObjOk X.prog X.w _ _ _ (.l (d.map vOf)) from⟨?_,d,e,P,R⟩),rfl,q _ _ (I.hok.fresh (Nat.le_succ _)) p⟩;rw[zAb,m.length_eq,K8];lia
noncomputable def Jf:D->Option (Int×Int)|.q [.int a,.int b]=>some (a,b)|_=>none
noncomputable def prD2(p:Int×Int):D:=.q [.int p.1,.int p.2]
def qat0(x:D):Option D:=match x with|.l _ ys=>(ys.mapM Jf).bind λps=>gd (ps.Nodup/\ps.length<=64) (.l false ((Er ps).map prD2))|_=>none
theorem qaa4:∀{ys:List D}{ps:List (Int×Int)},ys.mapM Jf=some ps->ys=ps.map prD2|[],ps,h=>by cases h;rfl|y::ys,ps,h=>by rw[Np] at h;obtain⟨p,a,h⟩:=zA1.mp h;obtain⟨c,b,h⟩:=zA1.mp h;cases h;rw[zAy,qaa4 b];congr 1;unfold Jf at a;split at a;{cases a;rfl};cases a
theorem qaJ6{F:γ->Prop}{H:Hp}:∀{ps:List (Int×Int)}{vs:List V}{A:List γ},O4 F H vs (ps.map prD2) A->Paired (PrA H) vs ps|[],_,_,r=>by cases r;exact .nil|p::ps,_,_,r=>by cases r with|cons h t=>obtain⟨a,d,rfl,e,r⟩:=h.tup_inv;obtain⟨v,w,_,_,rfl,b,c,_⟩:=r.two_inv;rw[b.int_inv,c.int_inv] at e;exact .cons ⟨_,rfl,e⟩ (qaJ6 t)
theorem qax3{H:Hp}(t:Paired (PrA H) a ps):O4 F H a (ps.map prD2) []:=by induction t with|nil=>exact .nil|cons h t c=>obtain⟨b,rfl,d⟩:=h;exact .cons (.q d (.cons (.int _) (.cons (.int _) .nil))) c
theorem qaD4{K:Oa}:CS1 true (qaI3 K) qat0:=by intro F H v x B d Q r h q;cases x with|l z n=>obtain⟨c,e,f⟩:=zA1.mp h;obtain⟨⟨g,i⟩,rfl⟩:=qj1 f;cases qaa4 e;obtain⟨a,j,A,rfl,k,m,_⟩:=r.lst_inv;exact⟨a,j,c,rfl,.inl (.inl k),qaJ6 m,g,i,λl o b t=>q _ _ [l] (qs8 b (qax3 t)) (Same.new b) (qe8 b)⟩|_=>cases h
end
end LV
namespace LV
open PySem L2
mutual
def D.plain:D->Bool|.q ds=>D.plains ds|.l z ds=>!z&&D.plains ds|.non=>true | .bl _=>true | .int _=>true | .str _=>true|_=>false
def D.plains:List D->Bool|[]=>true|d::r=>d.plain&&D.plains r
end
theorem Pa.plain{F F':γ->Prop}{H:Hp}{v:V}{d:D}{A:List γ}(r:Pa F H v d A):d.plain=true->Pa F' H v d A:=by induction r using Pa.rec (motive_2:=λc a A _=>D.plains a=true->O4 F' H c a A) with|q e r i=>exact λh=>.q e (i h)|l e r i=>exact λh=>.l e (i h)|non=>exact λ_=>.non|bl b=>exact λ_=>.bl b|int i=>exact λ_=>.int i|str x=>exact λ_=>.str x|nil=>exact O4.nil|cons _ _ i j h=>exact O4.cons (i (zAl.mp h).1) (j (zAl.mp h).2)|_=>nofun
section
variable{c:Vc}{X:Cx}{e:Lr}{Y:List Lr}{W:VTB}{Z p:Pos}{x qual:Str}{st:Ls}{f:γ}{fd:δ}{ps:List Str}{k:Nat}{s:VSp}
def qaH0(s:VSp)(W:VTB):VT:=λds Q xe=>W ds (λxs ps ds1=>s (D.fzs xs) (λd _=>d.plain=true/\orF (Av ps xs ds1) λa=>Q d a) (λ_ _=>False)) xe
theorem qaE2(n:Bp s)(p:VAs c X Y W):∀V H Q,Bf c (qaH0 s W) V H Q->Hx (Gh s) [] c.E (Ff c W) V H Q:=by
 rintro V H Q ⟨F,r,A,t,S,x,q⟩;refine⟨F,r,A,t,S,x,p.m _ _ _ _ _ (λu P w q R H1 F1 T A1 a B S1 g C=>?_) (λ_ _ z=>z) q⟩;rw[zAe];refine⟨λb=>F1 b∨b∈T,D.fzs u,[],a.fz (λ_=>.inl) (λ_=>.inr),⟨λb=>by simp,λb _=>by simp,λb h=>h.elim (g.ex b) λh=>let ⟨o,e,_⟩:=a.cells b h;⟨o,e⟩⟩,n _ _ _ _ _ (λd G q v H2 F2 T2 A2 I U J i=>?_) (λy G q=>q.elim) q⟩;obtain⟨K,q⟩:=q;obtain⟨L,M,q⟩:=qa7.mp q;have f:=λb o e=>i.fr b o e (by simp);have j:New H1 T2:=⟨λb=>by have:=J.sep b;rw[zA0] at this;lia,λb o e=>by have:=i.sub b o e (by simp);rw[zA0] at this;lia⟩;obtain⟨A3,N,q2⟩:=qp8 B (by rw[zAe];exact a.same f) (S1.loc.same f) M;have k:∀b,(T2++A3).count b<=(T2++(T++A1)).count b:=λb=>by simp only[zA0];have:=q2 b;lia
 have l:=(j.ok g (λb O=>(zAd.mp O).elim (a.cells b) (S1.loc.cells b)) f).count k;exact q v H2 F1 T2 A3 (I.plain K) ⟨N,l.right,S.len,S.ag⟩ l ((C.trans (j.stp f)).count k)
theorem qbb4(D:Df X.K X.mg x qual st f fd ps)(G:Gc cm X.prog X.w X.K X.mg X.base k f fd ps s)(j:Lands X c.E)(l:Pe cm k X.A)(a:VAs c X (e::Y) W)(n:Gl X x:=by rfl)(g:N' x:=by decide)(o:Kw (e::Y) X.env=(false,eval e X.env)::Kw Y X.env:=by rfl)(i:(backTo Z (Kw Y X.env)).any (·.1)=false:=by rfl):VE c X (.Call (.Name x p) (e::Y) [] Z) (qaH0 s W):=⟨PE.mono (qaa9 G.ok l n D.m D.F.kp D.b .nil j.passes a.h g o i) (qaE2 G.m a),λv Q Q' y q r t=>a.m _ _ _ _ _ (λB ps u=>G.m _ _ _ _ _ (λd C=>N7 (qa5 λz=>r _ _)) (λ_ _ z=>z)) t⟩
end
end LV
namespace LV
open PySem L2 PyProof.Rows
section
variable{c:Vc}{X:Cx}{e:Lr}{n o:VT}{s:VSp}
def tOrT(n o:VT):VT:=λds Q xe=>n ds Q xe∨o ds Q xe
theorem eAlt(g:VE c X e n)(i:VE c X e o):VE c X e (tOrT n o):=by refine⟨λE6 s l H Q I b=>?_,λd Q Q' f k j a=>O2 (g.m _ _ _ _ _ j a) (i.m _ _ _ _ _ j a)⟩;obtain⟨F,d,A,f,S,a,q⟩:=b;rcases q with q|q;{exact g.h E6 s l H Q I ⟨F,d,A,f,S,a,q⟩};exact i.h E6 s l H Q I ⟨F,d,A,f,S,a,q⟩
end
end LV
namespace L2
open PySem PySem.Spec PyProof.Rows
def tHdM(M:γ->Option Bool)(j:Nat)(ts tr:γ->TS):γ->TS:=λa D d H=>∃C c b,H a=some (Bi a C c false)/\M C=some b/\if b=true then ts a (qaE4 j D) (d.set j (some (.ref a))) H else tr a D d H
theorem Pe.u64(a:Pe cm k A):A.units+64<cLine:=a.units
section
variable{X:Cx}
theorem hd_go{j:Nat}{y:Str}{pos:Pos}{b₀:Ls}{suite:List Ls}{rest:List ExceptHandler}{ts tr:γ->TS}{E6:List (γ×Obj)}{s:Sh}{B:St}{H:Hp}{D:Bs}{a:γ}{n:Nat}{b:Bool}(d:X.N.Nodup)(i:∀a,PSs (Xh X a) (b₀::suite) (ts a))(k:PH X rest tr)(e:X.N[j]?=some y)(c:X.env.scope.names.lookup y=some .local)(I:Pb X E6 B H s)(F:Fly n H s.heap a)(O:Old X E6 n)(q:if b=true then ts a (qaE4 j D) (B.set j (some (.ref a))) H else tr a D B H):(match (Except.ok (if b then Flow.brk else Flow.next):Result) with
     |.ok .brk=>codeAny (Lm X.prog X.w) (X.A.mark (some (.ref a))) (.handlers (.ref a) [.ExceptHandler none (some y) (b₀::suite) pos] X.env) (λr s₂=>match r with
         |.ok f=>Ll (Lm X.prog X.w) X.A (do bindName X.env y .none;unbindBehindTheSuite X.env y pos) (λ_ s₃=>SP X E6 D f s₃) X.xe s₂
         |.error x=>cameBackBy (Lm X.prog X.w) X.A X.env X.xe x s₂) s
     |.ok _=>Ll (Lm X.prog X.w) X.A (handleBy (.ref a) X.env rest) (SP X E6 D) X.xe s
     |.error x=>cameBackBy (Lm X.prog X.w) X.A X.env X.xe x s):=by
 cases b with
 |false=>
   exact k E6 s B H D a n I F O q
 |true=>
   refine codeAny_handlers_suite_as (qam2 I F O λo I1 F1=>?_);refine qB3 (X:=Xh X a) (v:=.ref a) I1.h d e (.inl c) rfl (λl I2=>?_) (.inr c);refine Ld (i a E6 l (B.set j (some (.ref a))) H (qaE4 j D) I2 q) (λf p z=>?_) λ_ _ z=>z.elim
   cases f with
   |next=>obtain⟨B',H',J,z⟩:=z;exact qQ7 (J.unh I.ok) d e c λg J4=>⟨_,H',J4,z⟩
   |brk=>obtain⟨B',H',J,z⟩:=z;exact qQ7 (J.unh I.ok) d e c λg J4=>⟨_,H',J4,z⟩
   |cont=>obtain⟨B',H',J,z⟩:=z;exact qQ7 (J.unh I.ok) d e c λg J4=>⟨_,H',J4,z⟩
   |ret u=>obtain⟨v,B',H',J,m,z⟩:=z;exact qQ7 (J.unh I.ok) d e c λg J4=>⟨v,_,H',J4,m,z⟩
theorem qaV6(j:Nat){x y:Str}{C':γ}{np pos:Pos}{b₀:Ls}{suite:List Ls}{rest:List ExceptHandler}{ts tr:γ->TS}(d:X.N.Nodup)(c:Exc X.K C')(hm:X.mg x=some (.ref C'))(e:∀a,PSs (Xh X a) (b₀::suite) (ts a))(f:PH X rest tr)(g:X.N[j]?=some y:=by rfl)(i:X.env.scope.names.lookup y=some .local:=by rfl)(k:Gl X x:=by rfl)(l:N' x:=by decide):PH X (.ExceptHandler (some (.Name x np)) (some y) (b₀::suite) pos::rest) (tHdM (λC=>W.mroIn X.K C (.ref C')) j ts tr):=by intro E6 s B H D a n I F O h;obtain⟨C,r,b,m,o,q⟩:=h;obtain⟨t,u,p1,p,_⟩:=qG4 I.hok m;refine wpAny_handleBy_cons (codeAny_handlers_test (qF3 I.h k hm ?_ l)) (by intro z;cases z);exact qam9 I.kIn c p1 p o (hd_go d e f g i I F O q)
end
end L2
namespace LV
open PySem L2
abbrev VH:=Exn->VTS
inductive Iu(c:Vc)(t:VH)(a:γ)(E:Bs)(b:St)(H:Hp):Prop
 |mk (x:Exn) (F:γ->Prop) (ds:Ds) (A:List γ) (e:VEnds) (r:RepX F H a x) (S:Pd c F H b ds A) (l:Lk c E F H A e) (q:t x e ds):Iu c t a E b H
structure VHs(c:Vc)(X:Cx)(hs:List ExceptHandler)(t:VH):Prop where
 h:PH X hs (Iu c t)
 m:∀x (e e':VEnds) ds,e.Le e'->t x e ds->t x e' ds
section
variable{c:Vc}{X:Cx}{K:Pos}
theorem PH.mono{b:List ExceptHandler}{t t':γ->TS}(h:PH X b t)(i:∀a D J H,t' a D J H->t a D J H):PH X b t':=λE6 s J H D a n I F O q=>h E6 s J H D a n I F O (i a D J H q)
theorem vhnil:VHs c X [] (λ_ _ _=>False):=⟨PH.mono qaV5 λ_ _ _ _ ⟨_,_,_,_,_,_,_,_,q⟩=>q,λ_ _ _ _ _ z=>z⟩
noncomputable abbrev cNo(c:Vc):Vc:={c with E:=λ_ _ _ _=>False}
theorem RepX.rep{F:γ->Prop}{H:Hp}{a:γ}{x:Exn}(r:RepX F H a x)(h:x.fs≠[]):Pa F H (.ref a) (.exn x.C x.fs) []:=by obtain⟨g,e,q|⟨i,b,rfl,c,d,f⟩⟩:=r;{exact absurd q h};exact .exn e c d f
def sTryW(t:VTS)(th:VH):VTS:=λe ds=>t {e with xe:=λx a=>th x e a} ds
theorem stryW{body:List Ls}{h₀:ExceptHandler}{o:List ExceptHandler}{t:VTS}{th:VH}(p:∀E xe f,Lands (Xt X xe f) E->VSs {c with E:=E} (Xt X xe f) body t)(s:VHs c X (h₀::o) th)(g:X.stack=X.env::X.outer:=by rfl)(i:X.env.frame=some X.env.locals:=by rfl):VS c X (.Try body (h₀::o) [] [] K) (sTryW t th):=by refine⟨PS.mono (qaV0 (λE xe f w=>(p E xe f w).h) s.h g i) λD J H j=>?_,λe G u h=>(p (λ_ _ _ _=>False) (λ_ _=>True) [] λ_ _ _ _ _ _ _ _ _ z=>z.elim).m _ _ _ ⟨h.nx,h.rt,h.bk,h.ct,λx b=>s.m x _ _ _ h⟩⟩;obtain⟨F,u,A,e,S,l,q⟩:=j;refine⟨λJ' y _ H'=>∃x a b F' A',y=.ref a/\th x e b/\RepX F' H' a x/\Pd c F' H' J' b A'/\Pc F H A F' H' A',⟨F,u,A,_,⟨S.loc,S.ok,S.len,S.ag⟩,⟨?_,?_,?_,?_,?_⟩,q⟩,λa J' H' ⟨x,I,b,F',A',B,C,k,S',n⟩=>?_⟩;{exact λb J' H' F' A' q S'=>l.nx b J' H' F' A' q ⟨S'.loc,S'.ok,S'.len,S'.ag⟩};{exact λd b v J' H' F' T A' q r S'=>l.rt d b v J' H' F' T A' q r ⟨S'.loc,S'.ok,S'.len,S'.ag⟩};{exact λb J' H' F' A' q S'=>l.bk b J' H' F' A' q ⟨S'.loc,S'.ok,S'.len,S'.ag⟩};{exact λb J' H' F' A' q S'=>l.ct b J' H' F' A' q ⟨S'.loc,S'.ok,S'.len,S'.ag⟩};{exact λx b J' a H' F' A' q k S' n=>⟨x,a,b,F',A',rfl,q,k,⟨S'.loc,S'.ok,S'.len,S'.ag⟩,n⟩};cases B;exact⟨J',rfl,λ_ _ z=>z,x,F',b,A',e,k,S',l.step n,C⟩
end
section
variable{c:Vc}{X:Cx}{e e2:Lr}{W p:Pos}{own:Bool}{f:FV}
theorem Pa.exn_inv{F:γ->Prop}{H:Hp}{v:V}{C:γ}{fs:List (Str×D)}{B:List γ}(r:Pa F H v (.exn C fs) B):∃a dx b,v=.ref a/\B=[]/\H a=some (Bi a C (some dx) false)/\H dx=some (XD dx b)/\b.map (·.1)=fs.map (·.1)/\O4 F H (b.map (·.2)) (fs.map (·.2)) []:=by cases r with|exn h g e r=>exact⟨_,_,_,rfl,rfl,h,g,e,r⟩
def Kk(K:Oa)(f:FV)(u:V'):VT:=λds Q _=>orF (f ds) λd=>∃C fs b,d=.exn C fs/\IsX K C/\Ob K (.ref C) u=some b/\Q (.bl b) ds
theorem eisX{d:V}{u:V'}(hm:X.mg "isinstance"=none)(o:VV c X e own f)(t:PE X e2 (tC d))(w:O8 d u)(g:∀l,O8 d l->l=u)(y:Gl X "isinstance" := by rfl)(h1:Kw [e,e2] X.env=(false,eval e X.env)::Kw [e2] X.env:=by rfl)(h2:Kw [e2] X.env=(false,eval e2 X.env)::Kw [] X.env:=by rfl)(i:((backTo W (Kw [e2] X.env)).any λx=>x.1)=false:=by rfl):VE c X (.Call (.Name "isinstance" p) [e,e2] [] W) (Kk X.K f u):=by refine⟨PE.mono (cbi qaE0 hm (qe7 o.h (qe7 t qu0 h2) h1) y rfl ∅ ∅ h1 i) λU H Q j=>?_,λm Q Q' z D E _=>qa5 λd ⟨C,n,b,h1,h2,G,I⟩=>⟨C,n,b,h1,h2,G,E _ _ I⟩⟩;obtain⟨F,m,A,z,S,x,q⟩:=j;obtain⟨P,J,C,n,b,rfl,ix,L,q⟩:=qa7.mp q;refine⟨F,m,A,_,S,J,λv H1 B r s _=>?_⟩;obtain⟨a,M,k,rfl,rfl,N,O,_⟩:=r.exn_inv;exact⟨a,d,u,C,M,false,k,b,rfl,w,g,N,O,ix,L,q _ _ F [] A (.bl b) (S.same s) (S.same s).ok (.same s)⟩
theorem eisXc{x:Str}(C':γ){np:Pos}(hm:X.mg "isinstance"=none)(d:VV c X e own f)(g:X.mg x=some (.ref C'))(h:Gl X "isinstance" := by rfl)(a:Gl X x:=by rfl)(i:N' x:=by decide)(h1:Kw [e,.Name x np] X.env=(false,eval e X.env)::Kw [.Name x np] X.env:=by rfl)(h2:Kw [.Name x np] X.env=(false,eval (.Name x np) X.env)::Kw [] X.env:=by rfl)(b:((backTo W (Kw [.Name x np] X.env)).any λx=>x.1)=false:=by rfl):VE c X (.Call (.Name "isinstance" p) [e,.Name x np] [] W) (Kk X.K f (.ref C')):=eisX hm d (qaK6 C' g a i) rfl (λ_ z=>z) h h1 h2 b
theorem eisXt{x:Str}(n:String){np:Pos}(hm:X.mg "isinstance"=none)(g:VV c X e own f)(a:X.mg x=none)(h:Gl X "isinstance" := by rfl)(b:Gl X x:=by rfl)(i:K5 x=some (.type n):=by rfl)(j:x ≠ "__name__" := by decide)(k:N' x:=by decide)(h1:Kw [e,.Name x np] X.env=(false,eval e X.env)::Kw [.Name x np] X.env:=by rfl)(h2:Kw [.Name x np] X.env=(false,eval (.Name x np) X.env)::Kw [] X.env:=by rfl)(d:((backTo W (Kw [.Name x np] X.env)).any λx=>x.1)=false:=by rfl):VE c X (.Call (.Name "isinstance" p) [e,.Name x np] [] W) (Kk X.K f (.type n)):=eisX hm g (qaL1 n a b i j k) rfl (λ_ z=>z) h h1 h2 d
def tEFX(K:Oa)(f:FV)(fl:Str):VT:=λds Q _=>orF (f ds) λd=>∃C fs v,d=.exn C fs/\Exc K C/\qd7 K C fl/\fs.lookup fl=some v/\Q v ds
theorem eefld{fl:Str}{K:Oa}(k:X.K=K)(l:VV c X e own f)(m:K7 e fl X.env (eval e X.env)=eval e X.env:=by rfl):VE c X (.Attribute e fl W) (tEFX K f fl):=by subst k;refine⟨PE.mono (qaK9 l.h m) λU H Q g=>?_,λj Q Q' o p t _=>qa5 λd ⟨C,i,v,u,w,y,z,D⟩=>⟨C,i,v,u,w,y,z,t _ _ D⟩⟩;obtain⟨F,j,A,o,S,x,q⟩:=g;obtain⟨T,E,C,i,d,rfl,G,n,I,q⟩:=qa7.mp q;refine⟨F,j,A,_,S,E,λv H1 B r s _=>?_⟩;obtain⟨a,J,b,rfl,rfl,L,M,N,O⟩:=r.exn_inv;obtain⟨v,P,R⟩:=qA3 b i N O I;exact⟨a,C,J,false,b,v,rfl,L,M,G,n,P,q _ _ F [] A R (S.same s) (S.same s).ok (.same s)⟩
end
end LV
namespace LV
open PySem L2
noncomputable def Ez(xs ys:Ds):Ds:=List.zipWith (λx y=>D.q [x,y]) xs ys
end LV
namespace LV
open PySem L2
section
variable{c:Vc}{X:Cx}{b e o:Lr}{ti ta:VT}{pos:Pos}{ob:Bool}{fb:FV}
def sAugE(f:Int->Int->Int)(i:Nat)(ti:VT)(a:FV):VTS:=λe ds=>((rdN i ds).bind D.own).isSome=true/\ti ds (λb ds1=>orF b.asI λk=>orF ((rdN i ds1).bind D.own) λys=>0<=k/\orF ((ys[k.toNat]?).bind D.asI) λx=>orF ((a ds1).bind D.asI) λy=>e.nx (ds1.set i (.l false (ys.set k.toNat (.int (f x y)))))) e.xe
theorem saugE(i:Nat){x:Str}{p0:Pos}{op:Operator}{f:Int->Int->Int}{W:FV}{oe:Bool}{tpos:Pos}(hi:VE c X b ti)(he:VV c X e oe W)(hp:PIp X op (ipI f))(Y:X.N[i]?=some x:=by rfl)(hv:Vis X.env.scope x:=by first|exact O1 rfl|exact O0 (O1 rfl)|exact O0 (O0 rfl))(hd:N' x:=by decide)(u:(x==("__classdict__" : Str))=false:=by decide)(ha:∀r t d,augStore b r t d=(do holding [d,r,t] (setItem r t d);release [d,r,t] [];pure .next):=by intros;rfl):VS c X (.AugAssign (.Subscript (.Name x p0) b tpos) op e pos) (sAugE f i ti W):=by
 refine⟨λE6 s σ H E I q=>qaq4 (ql3 Y hv hd u) hi.h qae5 he.h hp qI8 ha E6 s σ H E I ?_,λZ a0 ds hl=>N7 (hi.m _ _ _ _ _ (λ_ _=>qa5 λ_=>qa5 λ_=>N7 (qa5 λ_=>qa5 λ_=>hl.nx _)) hl.xe)⟩;obtain⟨F,ds,A,Z,S,l,hs,q⟩:=q;have g:=qk9 Y E6 σ H s I;obtain⟨a1,j⟩:=zB5.mp hs;obtain⟨d0,e0,B⟩:=zA1.mp j;cases qK6 B;obtain⟨v,B0,n,r0,_⟩:=S.name g e0;obtain⟨a,a3,A0,rfl,a4,_,_⟩:=r0.lst_inv;refine⟨.ref a,n,F,ds,A,Z.xe,S,l.xe,hi.m _ _ _ _ _ (λdk C q vk H1 F1 T A1 rk S1 o1 s1=>?_) (λ_ _ z=>z) q⟩;obtain⟨k,ek,q⟩:=qa7.mp q;obtain⟨ys,e1,h0,q⟩:=qa7.mp q;obtain⟨d1,e2,e3⟩:=zA1.mp e1;cases qK6 e3;obtain⟨D,_⟩:=qk2.mp e2;obtain⟨x0,e8,q⟩:=qa7.mp q;obtain⟨dx,e9,G⟩:=zA1.mp e8;obtain⟨y,J,q⟩:=qa7.mp q;obtain⟨dy,K,L⟩:=zA1.mp J;cases rk.asI ek;have M:Pc F H A F1 H1 A1:=s1.count λb=>by rw[zA0];lia
 have hu:(σ++c.gv)[i]?=some (some (.ref a)):=by rw[zAq g];exact n
 obtain⟨a2,O,Ael,P,Q,R,_⟩:=qh8 S1 (qs6 D) hu (p:=[]) (w:=.ref a) rfl;cases P;obtain⟨vx,Bx,hx,rx,_⟩:=R.get e9;cases rx.asI G;refine⟨a,O,k,_,rfl,rfl,Q,h0,hx,F1,C,A1,dy,S1,K,λvy H3 B3 r3 s3 _=>?_⟩;cases r3.asI L;have S3:=S1.same s3;obtain⟨a',U,Ael',P,V,o,wr⟩:=qh8 S3 (qs6 D) hu (p:=[]) (w:=.ref a) rfl;cases P;have hn:=(zA6.mp e9).1;obtain⟨B',r4,h4⟩:=o.setAt hn (.int (f x0 y));obtain⟨⟨A',S4,o4,s4⟩,_⟩:=wr _ _ B' [] [] S3.ok r4 λb=>by have:=h4 b;simpa using this
 rw[qv4 D] at S4;refine⟨x0,y,rfl,rfl,a,U,k,k.toNat,rfl,rfl,V,?_,l.nx _ σ _ F1 A' q S4 (M.trans ((Pc.same s3).trans s4))⟩;rw[o.len];unfold ixN;rw[if_pos h0,if_pos ⋯]
theorem ebm{r:V->List V->Hp->VK->Prop}{g:D->D->Option D}{name:Str}{id:String}{apos cpos:Pos}(L:Ba true (rL1 r) g)(M:PlainAttrs "list")(slot:Slot "list" name id)(j:typeOf (.builtin id)=pure (.type "method_descriptor"))(hm:MtM X id r)(k:VE c X o ta)(N:VV c X b ob fb)(O:∀x y d,g x y=some d->∃z ys,x=.l z ys)(hbase:K7 o name X.env (eval o X.env)=eval o X.env:=by rfl)(i:((backTo cpos (Kw [b] X.env)).all (λx=>!x.1)&&(backToKw cpos (Lc [] X.env)).all (λx=>x.1.isSome)
 && decide (([b]:List Lr).length+([]:List Keyword).length+(if ([]:List Keyword).isEmpty then 0 else 1)<30))=true:=by rfl)(hline:(apos.endLine==cpos.line)=true:=by rfl)(B:Kw [b] X.env=(false,eval b X.env)::Kw [] X.env:=by rfl)(hplain:(backTo cpos (Kw [] X.env)).any (·.1)=false:=by rfl):VE c X (.Call (.Attribute o name apos) [b] [] cpos) (t2v g ta fb):=by
 refine⟨PE.mono (Jq M slot j hm k.h (qe7 N.h qu0 B) hbase i hline B hplain) λσ H Q l=>?_,λC Q Q' E P R U=>k.m _ _ _ _ _ (λ_ _=>qa5 λ_=>R _ _) U⟩;obtain⟨F,C,A,E,S,x,q⟩:=l;refine⟨F,C,A,E,S,x,k.m _ _ _ _ _ (λW n q v H1 F1 T A1 G S1 o1 Y=>?_) (λ_ _ z=>z) q⟩;obtain⟨d,e,q2⟩:=qa7.mp q;have p:Pc F H A F1 H1 A1:=Y.count λb=>by rw[zA0];lia
 obtain⟨y,Z,I⟩:=zA1.mp e;obtain⟨z,ys,rfl⟩:=O W y d I;obtain⟨a,vs,A3,rfl,s,rs,_⟩:=G.lst_inv;refine⟨.inl ⟨rfl,vs,.inl (.inl s)⟩,F1,n,A1,y,S1,Z,λw H2 B2 r2 t n2=>?_⟩;refine L F1 H2 _ w _ y _ d Q (F6 (G.same t) r2) I λu H3 B3 r3 s3 J=>?_;have f:=t.trans s3;have K:New H1 B3:=⟨J.one,λb o e=>J.new b o (t b o e)⟩;exact q2 u H3 F1 B3 A1 r3 (S1.same f) (S1.new K f) (p.trans (K.stp f))
end
end LV
namespace L2
open PySem PySem.Spec PyProof.Rows
variable{Q:V'->Sh->Prop}{h h':Heap}{i1 i2 l l1 l2 tI tO z:γ}{k:Nat}{xs:Array V'}
noncomputable def itn:Bool->String|true=> "tuple_iterator"|false=> "list_iterator"
def Src:Bool->Heap->γ->γ->Nat->Prop|true,h,i,l,k=>h.IsTupleIter i l k|false,h,i,l,k=>h.IsListIter i l k
def Ssq:Bool->Heap->γ->Array V'->Prop|true,h,l,xs=>h.IsTuple l xs|false,h,l,xs=>h.IsList l xs
theorem Src.at{tp:Bool}{i:γ}(x:Src tp h i l k)(e:∀o,h.get? i=some o->h'.get? i=some o):Src tp h' i l k:=by cases tp with|true=>exact Heap.IsTupleIter.at x e|false=>exact Heap.IsListIter.at x e
theorem Ssq.at{tp:Bool}(x:Ssq tp h l xs)(e:∀o,h.get? l=some o->h'.get? l=some o):Ssq tp h' l xs:=by cases tp with|true=>obtain⟨o,a,r⟩:=x;exact⟨o,e _ a,r⟩|false=>exact Heap.IsList.at x e
theorem Src.obj{tp:Bool}{i:γ}(x:Src tp h i l k):∃o,h.get? i=some o/\∀v,o.data≠.cell v:=by cases tp with|true=>obtain⟨o,e,_,d⟩:=x;exact⟨o,e,λv z=>by rw[d] at z;cases z⟩|false=>obtain⟨o,e,_,d⟩:=x;exact⟨o,e,λv z=>by rw[d] at z;cases z⟩
section
variable{prog:Ln}{w:Lq}{A:Lp}{E:V'->Sh->Prop}{s:Sh}{F:Bool}
theorem qX8(a:Ssq F s.heap l xs)(b:Q (.ref s.heap.objs.size) {s with heap:=s.heap.push {cls:=.type (itn F),data:=.fields #[.ref l,.int 0 0]} }):Ll (Lm prog w) A (pyIter (.ref l)) Q E s:=by cases F with|true=>exact wpAny_pyIter_tuple a b|false=>exact wpAny_pyIter_list a b
theorem qX9{it:γ}{i:Nat}{x:V'}(h1:Src F s.heap it l i)(h2:Ssq F s.heap l xs)(e:xs[i]?=some x)(f:∀h',Src F h' it l (i+1)->Heap.SameBut it s.heap h'->Q x {s with heap:=h'}):Ll (Lm prog w) A (Builtin.SmallTypes.nextOf (.ref it)) Q E s:=by cases F with|false=>exact wpAny_nextOf_list_item h1 h2 e f|true=>have ty:=Heap.IsTupleIter.typeIs h1;obtain⟨o,b,g,a⟩:=h1;obtain⟨h,c,_,j,d⟩:=h2;unfold Builtin.SmallTypes.nextOf;refine J' (wpAny_callSpecial?_slot (name:=Str.ofString "__next__") ty Og (wpAny_call_entry Og ty Oj ?_ (Oi _)));show Ll _ _ (field (.ref it) 0 >>= _) _ _ s;refine J' (wpAny_field b a (x:=.ref l) rfl ?_);show Ll _ _ (if (Nw l==Nx)=true then _ else _) _ _ s;rw[if_neg (by simp)];show Ll _ _ (field (.ref it) 1 >>= _) _ _ s;refine J' (wpAny_field b a (x:=.int i 0) rfl ?_);show Ll _ _ (seqItems? (.ref l) >>= _) _ _ s;refine J' (wpAny_seqItems c d ?_);simp only[Int.toNat_natCast,e];refine J' (wpAny_setField b a (by simp) (Kv ⟨x,rfl,Kv (f _ ?_ (Heap.SameBut.update ..))⟩));exact⟨_,zBn _ b (Obj.isFreed_of_fields (Obj.data_mapFields a _)),(Obj.cls_mapFields ..).trans g,by rw[Obj.data_mapFields a];simp[rawInt]⟩
theorem qaH4{it:γ}{i:Nat}(b:A.handled=none)(h1:Src F s.heap it l i)(h2:Ssq F s.heap l xs)(h:xs[i]?=none)(j:∀h' e,Heap.ExtBut it s.heap h'->(∃o,h'.get? e=some o/\o.cls=.type "StopIteration")->E (.ref e) {s with heap:=h'}):Ll (Lm prog w) A (Builtin.SmallTypes.nextOf (.ref it)) Q E s:=by
 cases F with
 |false=>exact wpAny_nextOf_list_end b h1 h2 h j|true=>
  have ty:=Heap.IsTupleIter.typeIs h1;obtain⟨o,c,k,d⟩:=h1;obtain⟨n,f,_,p,g⟩:=h2;unfold Builtin.SmallTypes.nextOf;refine J' (wpAny_callSpecial?_slot (name:=Str.ofString "__next__") ty Og (wpAny_call_entry Og ty Oj ?_ (Oi _)));show Ll _ _ (field (.ref it) 0 >>= _) _ _ s;refine J' (wpAny_field c d (x:=.ref l) rfl ?_);show Ll _ _ (if (Nw l==Nx)=true then _ else _) _ _ s;rw[if_neg (by simp)];show Ll _ _ (field (.ref it) 1 >>= _) _ _ s;refine J' (wpAny_field c d (x:=.int i 0) rfl ?_);show Ll _ _ (seqItems? (.ref l) >>= _) _ _ s;refine J' (wpAny_seqItems f g ?_);simp only[Int.toNat_natCast,h];refine J' (Lf (J' (wpAny_setField c d (by simp) ?_)));show Ll _ _ (newExc (.type "StopIteration") [] >>= _) _ _ _;refine J' ?_;simp only[newExc,newTuple];refine J' (wpAny_newObj_type ?_ (by size_fits));refine J' (m:=firstArgMember _ _) (wpAny_of_eq (a:=Nx) (by first|rfl|(simp only[firstArgMember];rfl)) ?_);refine wpAny_newObj_type ?_ (by size_fits);simp only[raiseNew];refine J' (wpAny_handled ?_);first|rw[show A.in1.handled=none from b] | rw[b]
  exact J' (Kv (wpAny_throw (j _ _ (((Heap.SameBut.update ..).extBut.push _).push _) ⟨_,zAm _ rfl,rfl⟩)))
def ZSs(F:Bool)(z tI tO i1 i2 l1 l2:γ)(k:Nat)(h:Heap):Prop:=IsZip h z tI tO .none/\IsPair h tI (.ref i1) (.ref i2)/\(∃a b,IsPair h tO a b)/\Src F h i1 l1 k/\Src F h i2 l2 k
theorem ZSs.at_(st:ZSs F z tI tO i1 i2 l1 l2 k h)(d:∀c∈[z,tI,tO,i1,i2],∀o,h.get? c=some o->h'.get? c=some o):ZSs F z tI tO i1 i2 l1 l2 k h':=by obtain⟨i,f,⟨a,b,g⟩,j,l⟩:=st;exact⟨d z (by simp) _ i,d tI (by simp) _ f,⟨a,b,d tO (by simp) _ g⟩,j.at λo e=>d i1 (by simp) o e,l.at λo e=>d i2 (by simp) o e⟩
theorem qaE7{ys:Array V'}{x y:V'}{Q:Option V'->Sh->Prop}(D:ZipApart z tI tO i1 i2 l1 l2)(st:ZSs F z tI tO i1 i2 l1 l2 k s.heap)(v:Ssq F s.heap l1 xs)(B:Ssq F s.heap l2 ys)(Y:xs[k]?=some x)(Z:ys[k]?=some y)(hQ:∀h',IsZip h' z tI tO (rawInt s.heap.objs.size)->(∀h2,IsZip h2 z tI tO .none->Heap.SameBut z h' h2->ZSs F z tI tO i1 i2 l1 l2 (k+1) h2)->IsPair h' s.heap.objs.size x y->h'.objs.size=s.heap.objs.size+1->(∀c o,c≠z->c≠tO->c≠i1->c≠i2->s.heap.get? c=some o->h'.get? c=some o)->Q (some (.ref s.heap.objs.size)) {s with heap:=h'}):Ll (Lm prog w) A (pyNext (.ref z)) Q E s:=by
 obtain⟨g,j,⟨a,b,C⟩,h1,h2⟩:=st;have P:s.TypeIs (.ref z) "zip" := ⟨_,g,rfl⟩;unfold pyNext;refine J' (wpAny_attempt (wpAny_callSpecial?_slot (name:=Str.ofString "__next__") P Oh (wpAny_call_entry Oh P Os ?_ (Op _))));show Ll _ _ (field (.ref z) 2 >>= _) _ _ _;refine J' (wpAny_field g rfl (x:=.bool false) rfl ?_);show Ll _ _ (field (.ref z) 3 >>= _) _ _ _;refine J' (wpAny_field g rfl (x:=.ref tI) rfl (J' (wpAny_seqItems j rfl ?_)));show Ll _ _ (Builtin.SmallTypes.ownedTupleIsFree (.ref z) >>= _) _ _ _;refine J' ?_;unfold Builtin.SmallTypes.ownedTupleIsFree;refine J' (wpAny_field g rfl (x:=.none) rfl (Kv ?_));simp only[if_true];refine J' (Lf (J' (wpAny_field g rfl (x:=.ref tO) rfl (J' (wpAny_setField_rec g (by simp) λha G sa=>?_)))));replace G:IsZip ha z tI tO .ellipsis:=G;refine J' ?_;simp only[Mz,Nk,M4,Nq];refine J' (J' (wpAny_onRaise ?_));show Ll _ _ (Builtin.SmallTypes.nextOf (.ref i1) >>= _) _ _ _;refine J' (qX9 (h1.at λo e=>sa.extBut _ _ D.i1z e) (v.at λo e=>sa.extBut _ _ D.l1z e) Y λhb jb h=>Kv ?_);have R:IsPair hb tO a b:=h.extBut _ _ D.TOi1 (sa.extBut _ _ D.TOz C);refine J' (wpAny_seqItems R rfl (J' (wpAny_updateSeq_pair R λhc H i=>J' (wpAny_letGo (Kv ?_)))));replace H:IsPair hc tO x b:=H;refine J' (J' (wpAny_onRaise ?_));show Ll _ _ (Builtin.SmallTypes.nextOf (.ref i2) >>= _) _ _ _;refine J' (qX9 (h2.at λo e=>i.extBut _ _ D.TOi2.symm (h.extBut _ _ D.i12.symm (sa.extBut _ _ D.i2z e))) (B.at λo e=>i.extBut _ _ D.l2TO (h.extBut _ _ D.l2i1 (sa.extBut _ _ D.l2z e))) Z λhd jd l=>Kv ?_);have S:IsPair hd tO x b:=l.extBut _ _ D.TOi2 H;refine J' (wpAny_seqItems S rfl (J' (wpAny_updateSeq_pair S λd te m=>J' (wpAny_letGo (Kv (Kv ?_))))));replace te:IsPair d tO x y:=te;refine J' (wpAny_seqItems te rfl (J' (wpAny_newTuple ?_)));have T:d.objs.size=s.heap.objs.size:=by rw[m.1,l.1,i.1,h.1,sa.1]
 have U:∀c o,c≠z->c≠tO->c≠i1->c≠i2->s.heap.get? c=some o->d.get? c=some o:=λc o f r I J e=>m.extBut _ _ r (l.extBut _ _ J (i.extBut _ _ r (h.extBut _ _ I (sa.extBut _ _ f e))));have V:IsZip d z tI tO .ellipsis:=m.extBut _ _ D.TOz.symm (l.extBut _ _ D.i2z.symm (i.extBut _ _ D.TOz.symm (h.extBut _ _ D.i1z.symm G)));have W:z<d.objs.size:=zA7 V;have K:Src F d i1 l1 (k+1):=jb.at λo e=>m.extBut _ _ D.TOi1.symm (l.extBut _ _ D.i12 (i.extBut _ _ D.TOi1.symm e));have L:Src F d i2 l2 (k+1):=jd.at λo e=>m.extBut _ _ D.TOi2.symm e;show Ll _ _ (Builtin.SmallTypes.ownedTupleHandOut (.ref z) (.ref d.objs.size) >>= _) _ _ _;refine J' ?_;unfold Builtin.SmallTypes.ownedTupleHandOut;have zf:IsZip (d.push {cls:=.type "tuple",data:=.seq #[x,y]}) z tI tO .ellipsis:=zA2 _ V;refine J' (wpAny_setField_rec zf (by simp) λhg M N=>?_);replace M:IsZip hg z tI tO (rawInt d.objs.size):=M;refine wpAny_setField_rec M (by simp) λn t O=>Kv ⟨_,rfl,Kv ?_⟩;replace t:IsZip n z tI tO (rawInt d.objs.size):=t;have p:∀c o,c≠z->d.get? c=some o->n.get? c=some o:=λc o f e=>O.extBut _ _ f (N.extBut _ _ f (zA2 _ e));have X:IsPair n d.objs.size x y:=O.extBut _ _ (zCo W) (N.extBut _ _ (zCo W) (zAm _ rfl));have q:n.objs.size=d.objs.size+1:=by rw[O.1,N.1,zC1]
 rw[T] at t X q;rw[T];exact hQ n t (λh2 z2 u=>⟨z2,u.extBut _ _ D.TIz (p _ _ D.TIz (U _ _ D.TIz D.TITO D.TIi1 D.TIi2 j)),⟨x,y,u.extBut _ _ D.TOz (p _ _ D.TOz te)⟩,K.at λo e=>u.extBut _ _ D.i1z (p _ o D.i1z e),L.at λo e=>u.extBut _ _ D.i2z (p _ o D.i2z e)⟩) X q λc o f r I J e=>p c o f (U c o f r I J e)
theorem qaS7{Q:Option V'->Sh->Prop}(t:A.handled=none)(D:ZipApart z tI tO i1 i2 l1 l2)(st:ZSs F z tI tO i1 i2 l1 l2 k s.heap)(h:Ssq F s.heap l1 xs)(u:xs[k]?=none)(v:∀h',(∀c o,c≠z->c≠tO->c≠i1->c≠i2->s.heap.get? c=some o->h'.get? c=some o)->Q none {s with heap:=h'}):Ll (Lm prog w) A (pyNext (.ref z)) Q E s:=by
 obtain⟨f,i,⟨a,b,y⟩,B,L⟩:=st;have l:s.TypeIs (.ref z) "zip" := ⟨_,f,rfl⟩;unfold pyNext;refine J' (wpAny_attempt (wpAny_callSpecial?_slot (name:=Str.ofString "__next__") l Oh (wpAny_call_entry Oh l Os ?_ (Op _))));show Ll _ _ (field (.ref z) 2 >>= _) _ _ _;refine J' (wpAny_field f rfl (x:=.bool false) rfl ?_);show Ll _ _ (field (.ref z) 3 >>= _) _ _ _;refine J' (wpAny_field f rfl (x:=.ref tI) rfl (J' (wpAny_seqItems i rfl ?_)));show Ll _ _ (Builtin.SmallTypes.ownedTupleIsFree (.ref z) >>= _) _ _ _;refine J' ?_;unfold Builtin.SmallTypes.ownedTupleIsFree;refine J' (wpAny_field f rfl (x:=.none) rfl (Kv ?_));simp only[if_true];refine J' (Lf (J' (wpAny_field f rfl (x:=.ref tO) rfl (J' (wpAny_setField_rec f (by simp) λC j sa=>?_)))));replace j:IsZip C z tI tO .ellipsis:=j;refine J' ?_;simp only[Mz,Nk,M4,Nq];refine J' (J' (wpAny_onRaise ?_));show Ll _ _ (Builtin.SmallTypes.nextOf (.ref i1) >>= _) _ _ _;refine J' (qaH4 t (B.at λo e=>sa.extBut _ _ D.i1z e) (h.at λo e=>sa.extBut _ _ D.l1z e) u λG e m H=>?_);obtain⟨I,d,g⟩:=H;have n:IsZip G z tI tO .ellipsis:=m _ _ D.i1z.symm j;have J:e≠z:=λq=>by subst q;rw[n] at d;cases d;simp at g
 refine wpAny_setField_rec n (by simp) λM _ p=>?_;refine J' (wpAny_isInstance (T := "StopIteration") (b:=true) ⟨I,p.extBut _ _ J d,g⟩ isSubtype_stop ?_);exact Kv (v _ λc o r _ K _ q=>p.extBut _ _ r (m _ _ K (sa.extBut _ _ r q)))
end
end L2
namespace PySem
open Spec PyProof.Rows L2
abbrev zp1(tp:Bool)(h:Heap)(a:γ):Heap:=h.push {cls:=.type (itn tp),data:=.fields #[.ref a,.int 0 0]}
abbrev zp3(tp:Bool)(h:Heap)(a b:γ):Heap:=(zp1 tp (zp1 tp h a) b).push {cls:=.type "tuple",data:=.seq #[.ref h.objs.size,.ref (zp1 tp h a).objs.size]}
abbrev zp4(tp:Bool)(h:Heap)(a b:γ):Heap:=(zp3 tp h a b).push {cls:=.type "tuple",data:=.seq #[.none,.none]}
abbrev zp5(tp:Bool)(h:Heap)(a b:γ):Heap:=(zp4 tp h a b).push {cls:=.type "zip",data:=.fields #[.none,.bool false,.bool false,.ref (zp1 tp (zp1 tp h a) b).objs.size,.ref (zp3 tp h a b).objs.size]}
theorem qac2(tp:Bool)(a b:γ)(xs ys:Array V'):Meets (Builtin.«zip.__new__» ⟨[.type "zip",.ref a,.ref b],[]⟩) (λ_ R s=>Ssq tp s.heap a xs/\Ssq tp s.heap b ys/\R (.ok (.ret (.ref (zp4 tp s.heap a b).objs.size))) {s with heap:=zp5 tp s.heap a b}) :=
 .of_wp λprog w A R s h=>by
  obtain⟨c,g,d,f,i⟩:=s;obtain⟨k,l,h⟩:=h;have j:=sub_zip;have m:Ssq tp (Shared.heap ⟨c,g,d,f,i⟩) a xs:=k;have n:Ssq tp (Shared.heap ⟨c.push {cls:=.type (itn tp),data:=.fields #[.ref a,.int 0 0]},g,d,f,i⟩) b ys:=l.at λo e=>zA2 _ e
  wp_walk using qX8 m,qX8 n
  exact⟨_,rfl,h⟩
end PySem
namespace L2
open PySem PySem.Spec PyProof.Rows
variable{H:Hp}{a b:γ}{c:St}
section
variable{prog:Ln}{w:Lq}{A:Lp}{E:V'->Sh->Prop}{s:Sh}{m:Bool}
theorem qap5{h:Heap}{i l:γ}(e:h.get? i=some {cls:=.type (itn m),data:=.fields #[.ref l,.int 0 0]}):Src m h i l 0:=by cases m<;>exact⟨_,e,rfl,rfl⟩
theorem qao0{xs ys:Array V'}{Q:V'->Sh->Prop}(h1:Ssq m s.heap a xs)(h2:Ssq m s.heap b ys)(h:∀h',ZSs m (s.heap.objs.size+4) (s.heap.objs.size+2) (s.heap.objs.size+3) s.heap.objs.size (s.heap.objs.size+1) a b 0 h'->(∀c o,s.heap.get? c=some o->h'.get? c=some o)->Q (.ref (s.heap.objs.size+4)) {s with heap:=h'}):Ll (Lm prog w) A (call (.type "zip") [.ref a,.ref b]) Q E s:=by refine callType_new F.called_zip ∅ (F.typeCall_zip_2 _ _) (F.newCall_zip_2 _ _) (λd=>F.args_object_init_3 d _ _) F.entry_zip_new (qac2 m a b xs ys) ⟨h1,h2,?_⟩;have u:∀(h:Heap)(j:Obj) c o,h.get? c=some o->(h.push j).get? c=some o:=λh j c o e=>zA2 _ e;have f:(zp1 m s.heap a).objs.size=s.heap.objs.size+1:=zC1 ..;have g:(zp1 m (zp1 m s.heap a) b).objs.size=s.heap.objs.size+2:=(zC1 ..).trans (congrArg (· + 1) f);have i:(zp3 m s.heap a b).objs.size=s.heap.objs.size+3:=(zC1 ..).trans (congrArg (· + 1) g);have k:(zp4 m s.heap a b).objs.size=s.heap.objs.size+4:=(zC1 ..).trans (congrArg (· + 1) i);have g5:(zp5 m s.heap a b).get? (zp4 m s.heap a b).objs.size=some {cls:=.type "zip",data:=.fields #[.none,.bool false,.bool false,.ref (zp1 m (zp1 m s.heap a) b).objs.size,.ref (zp3 m s.heap a b).objs.size]}:=zAm _ rfl;have g4:(zp4 m s.heap a b).get? (zp3 m s.heap a b).objs.size=some {cls:=.type "tuple",data:=.seq #[.none,.none]}:=zAm _ rfl;have g3:(zp3 m s.heap a b).get? (zp1 m (zp1 m s.heap a) b).objs.size=some {cls:=.type "tuple",data:=.seq #[.ref s.heap.objs.size,.ref (zp1 m s.heap a).objs.size]}:=zAm _ rfl;have g2:(zp1 m (zp1 m s.heap a) b).get? (zp1 m s.heap a).objs.size=some {cls:=.type (itn m),data:=.fields #[.ref b,.int 0 0]}:=zAm _ rfl;have g1:(zp1 m s.heap a).get? s.heap.objs.size=some {cls:=.type (itn m),data:=.fields #[.ref a,.int 0 0]}:=zAm _ rfl;show _/\_;rw[g,i,k] at g5;rw[i] at g4;rw[f,g] at g3;rw[f] at g2;rw[k];exact⟨⟨_,g5,rfl⟩,h _ ⟨g5,u _ _ _ _ (u _ _ _ _ g3),⟨_,_,u _ _ _ _ g4⟩,qap5 (u _ _ _ _ (u _ _ _ _ (u _ _ _ _ (u _ _ _ _ g1)))),qap5 (u _ _ _ _ (u _ _ _ _ (u _ _ _ _ g2)))⟩ λc o e=>u _ _ _ _ (u _ _ _ _ (u _ _ _ _ (u _ _ _ _ (u _ _ _ _ e))))⟩
end
def Sq:Bool->Oa->Hp->γ->List V->Prop|true,K,H,a,xs=>SqT K H a xs|false,K,H,a,xs=>SqL K H a xs
theorem Pb.sq{X:Cx}{E6:List (γ×Obj)}{s:Sh}{tp:Bool}{xs:List V}(I:Pb X E6 e H s)(h:Sq tp X.K H a xs):∃its:List V',O9 xs its/\Ssq tp s.heap a its.toArray/\a<s.heap.objs.size/\∀ys,Sq tp X.K H a ys->ys=xs:=by cases tp with|true=>obtain⟨its,b,p,_⟩:=I.tuple h;have p:s.heap.IsTuple a its.toArray:=p;exact⟨its,b,p,by obtain⟨o,c,_⟩:=p;exact zA7 c,λys d=>I.tuple_inj d h⟩|false=>obtain⟨its,b,p,_⟩:=I.list h;exact⟨its,b,p.isList,by obtain⟨o,c,_⟩:=p.isList;exact zA7 c,λys d=>I.list_inj d h⟩
def Itp(tp:Bool)(K:Oa)(a b:γ):It:=⟨λi H=>∃xs ys x y,Sq tp K H a xs/\Sq tp K H b ys/\xs[i]?=some x/\ys[i]?=some y,
  λi H v H'=>∃p x y,v=.ref p/\H p=none/\H'=upd H p (.q [x,y])/\(∀xs,Sq tp K H a xs->xs[i]?=some x)/\(∀ys,Sq tp K H b ys->ys[i]?=some y),
  λi H=>∃xs,Sq tp K H a xs/\xs.length<=i⟩
theorem qau8{P:Ln}{w:Lq}{K:Oa}{tp:Bool}{elts:List Lr}{Z:Nat}{pos:Pos}{z tI tO i1 i2:γ}(D:ZipApart z tI tO i1 i2 a b):I8 P w K (.Tuple elts Z pos) (Itp tp K a b) [z,tI,tO,i1,i2] z (λi h=>ZSs tp z tI tO i1 i2 a b i h) where
 mem:=by simp
 obj:=λi h f c e=>by
  obtain⟨l,m,⟨x,y,n⟩,r,j⟩:=f;simp only[zAa,zAr,zC9] at e;rcases e with rfl|rfl|rfl|rfl|rfl
  .exact⟨_,l,λv z=>by have t:Data.fields _=Data.cell v:=z;cases t⟩
  .exact⟨_,m,λv z=>by have t:Data.seq _ _=Data.cell v:=z;cases t⟩
  .exact⟨_,n,λv z=>by have t:Data.seq _ _=Data.cell v:=z;cases t⟩
  .exact r.obj
  exact j.obj
 keep:=λi h U f k=>f.at_ k
 item:=by
  intro X B C F e i E6 s W H E I A f G;subst B C F;obtain⟨xs,ys,x,y,p,J,L,V⟩:=G;obtain⟨ix,M,N,_,jx⟩:=I.sq p;obtain⟨iy,ry,py,_,jy⟩:=I.sq J;obtain⟨u,hu,ru⟩:=M.get L;obtain⟨v,hv,rv⟩:=ry.get V;have lt:∀c∈[z,tI,tO,i1,i2],c<s.heap.objs.size:=λc e=>by
   obtain⟨l,m,⟨x,y,n⟩,r,j⟩:=f;simp only[zAa,zAr,zC9] at e;rcases e with rfl|rfl|rfl|rfl|rfl
   .exact zA7 l
   .exact zA7 m
   .exact zA7 n
   .obtain⟨o,h,_⟩:=r.obj;exact zA7 h
   obtain⟨o,h,_⟩:=j.obj;exact zA7 h
  refine qaE7 D f N py (x:=u) (y:=v) (by simpa using hu) (by simpa using hv) λr O Q R a0 S=>?_
  refine⟨_,rfl,wpAny_letOwnedTupleGo_zip (s:={s with heap:=r}) O λj T g=>?_⟩
  replace g:Heap.SameBut z r j:=g
  have I0:Pb X E6 W (upd H s.heap.objs.size (.q [x,y])) {s with heap:=s.heap.push {cls:=.type "tuple",data:=.seq #[u,v]},toks:=s.toks}:=I.laid (λb o q=>zA2 _ q) (zA3 _) ⟨by show 2<=Kx;decide,[u,v],.cons ru (.cons rv .nil),⟨_,zAm _ rfl,rfl,_,rfl⟩⟩
  have Y:∀c∈[z,tI,tO,i1,i2],(upd H s.heap.objs.size (.q [x,y])) c=none:=λc e=>by
   rw[qb4 (zAi (lt c e))];exact(A c e).1
  have I2:Pb X E6 W (upd H s.heap.objs.size (.q [x,y])) {s with heap:=j,toks:=s.toks}:=by
   refine Pb.turnedL (s:={s with heap:=s.heap.push {cls:=.type "tuple",data:=.seq #[u,v]},toks:=s.toks}) (h':=j) (ch:=[z,tI,tO,i1,i2]) (t':=s.toks) I0 (λb o d q=>?_) (λb d=>⟨Y b d,(A b d).2⟩);simp only[zAa,zAr,zC9,not_or] at d;refine g.extBut b o d.1 ?_;rcases Heap.get?_push_cases (show (s.heap.push {cls:=.type "tuple",data:=.seq #[u,v]}).get? b=some o from q) with⟨rfl,rfl⟩|q
   .exact R
   exact S b o d.1 d.2.2.1 d.2.2.2.1 d.2.2.2.2 q
  exact⟨.ref s.heap.objs.size,_,I2,rfl,⟨s.heap.objs.size,x,y,rfl,I.hok.fresh (zA3 _),rfl,λzs l=>by rw[jx _ l];exact L,λzs l=>by rw[jy _ l];exact V⟩,Q j T g,Y⟩
 done:=by
  intro X B C F e i E6 s W H E I A f G;subst B C F;obtain⟨xs,p,L⟩:=G;obtain⟨ix,M,N,_⟩:=I.sq p;have hl:=M.length;refine qaS7 (I.ok.hd e) D f N (by simp;lia) λU eb=>⟨rfl,Pb.turnedL (ch:=[z,tI,tO,i1,i2]) (t':=s.toks) I (λb o d q=>?_) A⟩
  simp only[zAa,zAr,zC9,not_or] at d;exact eb b o d.1 d.2.2.1 d.2.2.2.1 d.2.2.2.2 q
 self:=λ_ _ _ _ _ f h=>wpAny_pyIter_zip f.1 h
section
variable{X:Cx}
def iZip(K:Oa)(ta:TA):TI:=λS H R=>ta S H λvs H1=>∃a b tp,vs=[.ref a,.ref b]/\(∃xs,Sq tp K H1 a xs)/\(∃ys,Sq tp K H1 b ys)/\R (Itp tp K a b) H1
theorem qaJ7{l r:Lr}{ta:TA}{elts:List Lr}{u:Nat}{p2 pos2 tpos:Pos}(g:Gl X "zip")(i:X.mg "zip"=none)(v:PA X [l,r] ta)(w:Kw [l,r] X.env=[(false,eval l X.env),(false,eval r X.env)]:=by rfl)(d:Kw [r] X.env=[(false,eval r X.env)]:=by rfl):PI X (.Tuple elts u tpos) (.Call (.Name "zip" p2) [l,r] [] pos2) (iZip X.K ta):=by
 intro E6 s S H R I h;refine Call_ (qM0 I g i boot_zip (PyProof.Rows.callWith_type1 (thn (v pos2 E6 s S H _ I h) λD j k=>?_) (by rw[w,d]) (by rw[d];rfl)));obtain⟨E,H1,I1,x,y⟩:=k;obtain⟨a,b,F,e,⟨G,m⟩,⟨J,n⟩,q⟩:=y;subst e;cases x with
 |cons r o=>cases o with
 |cons z o=>
  cases o;cases r;cases z;obtain⟨ix,L,A,la,_⟩:=I1.sq m;obtain⟨M,N,B,lb,_⟩:=I1.sq n;refine qao0 A B λO p C=>?_;refine wpAny_pyIter_zip p.1 ?_;refine⟨j.heap.objs.size+4,_,_,_,H1,rfl,I1.kept (t':=j.toks) C,qau8 (zipApart_new la lb),p,λc t=>?_,q⟩;have f:j.heap.objs.size<=c:=by simp only[zAa,zAr,zC9] at t;rcases t with rfl|rfl|rfl|rfl|rfl<;>first|exact zA3 _|exact zCk _ _
  exact I1.fpOk f (I1.hok.fresh f)
end
theorem qaD6{K:Oa}{tp:Bool}{D:γ}{n:Nat}{g:TG}{tf:TT}{te:TE}{R:Hp->Prop}(Pv:Nat->St->Hp->Prop)(h:Pv 0 C H)(j:∀i C H,Pv i C H->∃xs ys,Sq tp K H a xs/\Sq tp K H b ys/\xs.length=n/\ys.length=n)(k:∀i x y C H p,(∀xs,Sq tp K H a xs->xs[i]?=some x)->(∀ys,Sq tp K H b ys->ys[i]?=some y)->H p=none->Pv i C H->g (.ref p) C (upd H p (.q [x,y])) λσ2 H2=>tf σ2 H2 λl H3=>if l=true then te σ2 H3 λv H4=>∃ys,H4 D=some (.l ys)/\ys.length<Kx/\Pv (i+1) σ2 (upd H4 D (.l (ys++[v]))) else Pv (i+1) σ2 H3)(o:∀C H,Pv n C H->R H):qq1 (Itp tp K a b) g tf te D R C H:=by refine⟨λi m C H=>m=n-i/\i<=n/\Pv i C H,⟨n,by simp,zBi _,h⟩,?_⟩;rintro i m C H ⟨rfl,B,p⟩;obtain⟨xs,ys,d,q,f,e2⟩:=j i C H p;by_cases c:i<n;{refine .inr ⟨⟨xs,ys,xs[i]'(f ▸ c),ys[i]'(e2 ▸ c),d,q,by simp,by simp⟩,Pv (i+1),λC' H' r=>⟨n-(i+1),⋯,rfl,c,r⟩,λx H' y=>?_⟩;obtain⟨t,u,v,e,s,w,z,A⟩:=y;subst e w;exact k i u v C _ t z A s p};have e:i=n:=⋯;subst e;exact .inl ⟨⟨xs,d,zC0 f⟩,o C H p⟩
theorem qaP9{K:Oa}{tp:Bool}{n:Nat}{g:TG}{tb:TS}{D:Bs}(Pv:Nat->St->Hp->Prop)(j:Pv 0 C H)(k:∀i C H,Pv i C H->∃xs ys,Sq tp K H a xs/\Sq tp K H b ys/\xs.length=n/\ys.length=n)(l:∀(i:Nat) x y C H p,(∀xs,Sq tp K H a xs->xs[i]?=some x)->(∀ys,Sq tp K H b ys->ys[i]?=some y)->H p=none->Pv i C H->g (.ref p) C (upd H p (.q [x,y])) λσ2 H2=>tb {D with nx:=Pv (i+1),ct:=Pv (i+1),bk:=D.nx} σ2 H2)(o:∀C H,Pv n C H->D.nx C H):∃W:Nat->Nat->St->Hp->Prop,(∃m,W 0 m C H)/\∀i m C H,W i m C H->((Itp tp K a b).stop i H/\D.nx C H)∨((Itp tp K a b).go i H/\∃N:St->Hp->Prop,(∀C' H',N C' H'->∃d,d<m/\W (i+1) d C' H')/\∀x H',(Itp tp K a b).yld i H x H'->g x C H' λσ2 H2=>tb {D with nx:=N,ct:=N,bk:=D.nx} σ2 H2):=by refine⟨λi m C H=>m=n-i/\i<=n/\Pv i C H,⟨n,by simp,zBi _,j⟩,?_⟩;rintro i m C H ⟨rfl,B,p⟩;obtain⟨xs,ys,f,q,h,e2⟩:=k i C H p;by_cases c:i<n;{refine .inr ⟨⟨xs,ys,xs[i]'(h ▸ c),ys[i]'(e2 ▸ c),f,q,by simp,by simp⟩,Pv (i+1),λC' H' r=>⟨n-(i+1),⋯,rfl,c,r⟩,λx H' y=>?_⟩;obtain⟨t,u,v,e,s,w,z,A⟩:=y;subst e w;exact l i u v C _ t z A s p};have e:i=n:=⋯;subst e;exact .inl ⟨⟨xs,f,zC0 h⟩,o C H p⟩
end L2
namespace LV
open PySem L2
variable{a:γ}{d d':D}{tp:Bool}{xs ys:Ds}
noncomputable def D.seqF:D->Option (Bool×Ds)|.l true ys=>some (false,ys)|.q ys=>some (true,ys)|_=>none
def twoS:Ds->Option (Bool×Ds×Ds)|[x,y]=>x.seqF.bind λp=>y.seqF.bind λq=>if p.1=q.1/\x.imm=true/\y.imm=true then some (p.1,p.2,q.2) else none|_=>none
theorem qap0{q:Bool×Ds×Ds}(h:twoS xs=some q):∃x y,xs=[x,y]/\x.seqF=some (q.1,q.2.1)/\y.seqF=some (q.1,q.2.2)/\x.imm=true/\y.imm=true:=by match xs,h with|[x,y],h=>obtain⟨p,a,h⟩:=zA1.mp h;obtain⟨r,b,h⟩:=zA1.mp h;split at h;{rename_i hc;cases h;exact⟨x,y,rfl,a,by rw[b,hc.1],hc.2.1,hc.2.2⟩};cases h
theorem Pa.sq_inv{K:Oa}{F:γ->Prop}{H:Hp}{v:V}{B:List γ}(r:Pa F H v d B)(h:d.seqF=some (tp,ys)):∃a vs A,v=.ref a/\Sq tp K H a vs/\O4 F H vs ys A:=by match d,h with|.l true ys,rfl=>obtain⟨a,vs,A,rfl,b,c,_⟩:=r.lst_inv;exact⟨a,vs,A,rfl,.inl (.inl b),c⟩|.q ys,rfl=>obtain⟨a,vs,rfl,b,c⟩:=r.tup_inv;exact⟨a,vs,B,rfl,.inl (.inl b),c⟩
theorem Iv{K:Oa}{F:γ->Prop}{H:Hp}{B:List γ}{i:Nat}{x:V}(r:Pa F H (.ref a) d B)(h:d.seqF=some (tp,ys))(hm:D.imms ys=true)(e:∀xs,Sq tp K H a xs->xs[i]?=some x):∃u,ys[i]?=some u/\Pa F H x u []:=by obtain⟨j,k,A,f,sa,g⟩:=r.sq_inv (K:=K) h;cases f;obtain⟨u,C,b,c⟩:=g.getV (e _ sa);have:=c.imm (qn4 hm b);subst this;exact⟨u,b,c⟩
theorem qao8{i:Nat}{x y:D}(a:xs[i]?=some x)(b:ys[i]?=some y):(Ez xs ys)[i]?=some (.q [x,y]):=by unfold Ez;rw[List.getElem?_zipWith,a,b]
theorem qH3(h:xs.length=ys.length):(Ez xs ys).length=xs.length:=by unfold Ez;rw[List.length_zipWith,h,Nat.min_self]
section
variable{c:Vc}{X:Cx}{tg e l r:Lr}{body:List Ls}{g:VTG}{t:VTS}{tr:VTB}{pos:Pos}{F:γ->Prop}{H:Hp}{σ:St}{ds:Ds}{A:List γ}{E:Bs}{en:VEnds}
theorem qM3{K:Oa}{h:Ds}{b:γ}(J:VG c X tg g)(S:Pd c F H σ ds A)(l:Lk c E F H A en)(e:Pa F H (.ref a) d [])(f:Pa F H (.ref b) d' [])(s:d.seqF=some (tp,ys))(e2:d'.seqF=some (tp,h))(hm:D.imms ys=true)(k:D.imms h=true)(w:ys.length=h.length)(q:Bz g t en (Ez ys h) ds):∃W:Nat->Nat->St->Hp->Prop,(∃m,W 0 m σ H)/\∀i m σ H,W i m σ H->((Itp tp K a b).stop i H/\E.nx σ H)∨((Itp tp K a b).go i H/\∃N:St->Hp->Prop,(∀σ' H',N σ' H'->∃z,z<m/\W (i+1) z σ' H')/\∀x H',(Itp tp K a b).yld i H x H'->Fv c g x σ H' λσ2 H2=>Ew c t {E with nx:=N,ct:=N,bk:=E.nx} σ2 H2):=by refine qaP9 (n:=ys.length) (λi σ H=>∃F ds A,Pd c F H σ ds A/\Lk c E F H A en/\Pa F H (.ref a) d []/\Pa F H (.ref b) d' []/\Bz g t en ((Ez ys h).drop i) ds) ⟨F,ds,A,S,l,e,f,q⟩ ?_ ?_ ?_;{rintro i σ H ⟨F,ds,A,S,l,e,f,q⟩;obtain⟨a',L,B,M,sa,O⟩:=e.sq_inv (K:=K) s;obtain⟨b',P,C,Q,R,T⟩:=f.sq_inv (K:=K) e2;cases M;cases Q;exact⟨L,P,sa,R,O.len,by rw[T.len,w]⟩};{rintro i x y σ H p U V G ⟨F,ds,A,S,l,e,f,q⟩;obtain⟨u,Y,Z⟩:=Iv e s hm U;obtain⟨v,hv,rv⟩:=Iv f e2 k V;rw[qi0 (qao8 Y hv)] at q;have j:=Same.new (u:=.q [x,y]) G;have rp:Pa F (upd H p (.q [x,y])) (.ref p) (.q [u,v]) []:=qE8 G (.cons (A:=[]) (B:=[]) Z (.cons (A:=[]) (B:=[]) rv .nil));have S1:=S.same j;have I:=l.step (Pc.same (F:=F) (A:=A) j);exact qN8 J S1 I rp (λo σ' H' F' A' q' S' r=>⟨F',o,A',S',I.step r,(e.same j).keep (r.kp S1.ok S1.loc.cells) nofun,(f.same j).keep (r.kp S1.ok S1.loc.cells) nofun,q'⟩) q};rintro σ H ⟨F,ds,A,S,l,e,f,q⟩;rw[zC6 (by rw[qH3 w];exact zA3 _)] at q;exact l.nx _ _ _ _ _ q S Pc.refl
def sForZ(tr:VTB)(g:VTG)(t:VTS):VTS:=λe ds=>tr ds (λxs _ ds1=>orF (twoS xs) λq=>D.imms q.2.1=true/\D.imms q.2.2=true/\q.2.1.length=q.2.2.length/\Bz g t e (Ez q.2.1 q.2.2) ds1) e.xe
theorem sforZ{elts:List Lr}{y:Nat}{p2 pos2 tpos:Pos}(I:PassesOwn (Lm X.prog X.w) X.A X.env X.xe)(j:X.mg "zip"=none)(k:VAs c X [l,r] tr)(n:VG c X (.Tuple elts y tpos) g)(B:VSs c X body t)(e:Gl X "zip" := by rfl)(J:Kw [l,r] X.env=[(false,eval l X.env),(false,eval r X.env)]:=by rfl)(o:Kw [r] X.env=[(false,eval r X.env)]:=by rfl)(L:X.calm=true:=by rfl):VS c X (.For (.Tuple elts y tpos) (.Call (.Name "zip" p2) [l,r] [] pos2) body [] pos) (sForZ tr g t):=by
 refine⟨PS.mono (Jj I L (qaJ7 e j k.h J o) n.h B.h) λE σ H p=>?_,λC M D i=>k.m _ _ _ _ _ (λN _ f=>qa5 λq=>N7 (N7 (N7 (qk1 n B i _ f)))) i.xe⟩;obtain⟨F,D,A,C,S,l,q⟩:=p;refine⟨F,D,A,C.xe,S,l.xe,k.m _ _ _ _ _ (λN ps f q vs H1 F1 T A1 O pk S1 o1 P=>?_) (λ_ _ z=>z) q⟩;obtain⟨⟨Q,ys,zs⟩,R,s,u,i,U⟩:=qa7.mp q;obtain⟨d,d',rfl,G,e2,V,W⟩:=qap0 R;cases O with|@cons _ _ Ta _ _ _ v t2=>cases t2 with|@cons _ _ Tb _ _ _ x Y=>
 cases Y;have:=v.imm V;subst this;have:=x.imm W;subst this;obtain⟨a,Z,_,rfl,h1,_⟩:=v.sq_inv (K:=X.K) G;obtain⟨b,vb,_,rfl,h2,_⟩:=x.sq_inv (K:=X.K) e2;exact⟨a,b,Q,rfl,⟨Z,h1⟩,⟨vb,h2⟩,qM3 n S1 (l.step P) v x G e2 s u i U⟩
end
section
variable{c:Vc}{X:Cx}{NY:List Str}{sc:Scope}{src:List (Option Nat)}{tg elt l r:Lr}{ifs:List Lr}{g:VTG}{qf:VTT}{te:VT}{tr:VTB}{pos:Pos}{x:Str}{av:List (Option V)}{T:List γ}{τ:List (Option V)}{o0:Ds}{Dd:γ}{F0:γ->Prop}{H0 H:Hp}{A0:List γ}{K:Ds->Ds->Prop}
theorem qI1{v a:V}:Hq (λF H=>Pa F H v d []/\Pa F H a d' []) [] where
 keep:=λk h p=>⟨p.1.keep k h,p.2.keep k h⟩
 cells:=nofun
theorem qau6{K':Oa}{b:γ}{e:Ds}{Q:Hp->Prop}{W':St}(bl:Blk X NY sc src tg ifs elt g qf te)(o:d.seqF=some (tp,ys))(e2:d'.seqF=some (tp,e))(hm:D.imms ys=true)(h:D.imms e=true)(t:ys.length=e.length)(m:Mid src av (λF H=>Pa F H (.ref a) d []/\Pa F H (.ref b) d' []) [] τ o0 Dd F0 H0 A0 g qf te K (Ez ys e) W' H)(w:∀σ2 H2,Mid src av (λF H=>Pa F H (.ref a) d []/\Pa F H (.ref b) d' []) [] τ o0 Dd F0 H0 A0 g qf te K [] σ2 H2->Q H2):qq1 (Itp tp K' a b) (ql5 src g) (ql4 src qf) (Bj src te) Dd Q W' H:=by refine qaD6 (n:=ys.length) (λi W' H'=>Mid src av (λF H=>Pa F H (.ref a) d []/\Pa F H (.ref b) d' []) [] τ o0 Dd F0 H0 A0 g qf te K ((Ez ys e).drop i) W' H') m ?_ ?_ ?_;{rintro i W' H' ⟨_,_,_,_,_,_,_,_,c,_⟩;obtain⟨a',z,B,E,sa,G⟩:=c.1.sq_inv (K:=K') o;obtain⟨b',I,C,J,M,N⟩:=c.2.sq_inv (K:=K') e2;cases E;cases J;exact⟨z,I,sa,M,G.len,by rw[N.len,t]⟩};{rintro i x y W' H' p O P f ⟨F,ι,A,R,B,Ao,S2,r,c,L,S,s,q⟩;obtain⟨u,T,U⟩:=Iv c.1 o hm O;obtain⟨v,V,Y⟩:=Iv c.2 e2 h P;rw[qi0 (qao8 T V)] at q;have j:=Same.new (u:=.q [x,y]) f;have Z:Pa F (upd H' p (.q [x,y])) (.ref p) (.q [u,v]) []:=qE8 f (.cons (A:=[]) (B:=[]) U (.cons (A:=[]) (B:=[]) Y .nil));obtain⟨r1,k,L1,l,t1⟩:=qo2 qI1 r c L S S2 (Pc.same j) (S2.ok.same j);exact qu7 bl qI1 (S2.same j) r1 k L1 l (s.trans t1) Z q};intro W' H' m;rw[zC6 (by rw[qH3 t];exact zA3 _)] at m;exact w _ _ m
def tCZ(src:List (Option Nat))(tr:VTB)(g:VTG)(qf:VTT)(te:VT):VT:=λds Q xe=>tr ds (λxs _ ds1=>orF (twoS xs) λq=>D.imms q.2.1=true/\D.imms q.2.2=true/\q.2.1.length=q.2.2.length/\Go src g qf te (Ez q.2.1 q.2.2) ds1 Q) xe
theorem qba1{K:Oa}(bl:Blk X NY sc src tg ifs elt g qf te)(o:VAs c X [l,r] tr):Imp c X (tCZ src tr g qf te) (Ep (iZip K (Ff c tr)) src (ql5 src g) (ql4 src qf) (Bj src te)):=by
 rintro E6 s W H Q I ⟨F,p,A,t,S,x,q⟩;have e:=bl.lt E6 W H s I;refine⟨F,p,A,t,S,x,o.m _ _ _ _ _ (λZ ps u q vs H1 F1 T A1 w pk S1 y C=>?_) (λ_ _ z=>z) q⟩;obtain⟨⟨D,ys,zs⟩,E,f,h,G,i⟩:=qa7.mp q;obtain⟨d,d',rfl,n,e2,J,L⟩:=qap0 E;cases w with|@cons _ _ Ta _ _ _ j t2=>cases t2 with|@cons _ _ Tb _ _ _ k M=>
 cases M;have:=j.imm J;subst this;have:=k.imm L;subst this;obtain⟨a,N,_,rfl,O,_⟩:=j.sq_inv (K:=K) n;obtain⟨b,P,_,rfl,R,_⟩:=k.sq_inv (K:=K) e2;exact⟨a,b,D,rfl,⟨N,O⟩,⟨P,R⟩,λDd U=>qau6 bl n e2 f h G (qy1 e S1 y ⟨j,k⟩ qI1 U (qi6 bl (λV ι q v H' F' B A' r S' _ Y s=>q v H' F' B A' r S' (Y.count λb=>by simp only[zA0];lia) ((C.trans s).count λb=>by simp only[zA0];lia)) _ _ _ i)) λσ2 H2 m=>qy2 e S1 m⟩
theorem ecZ{elts:List Lr}{f:Nat}{p cpos tpos:Pos}(hm:X.mg "zip"=none)(a:VAs c X [l,r] tr)(bl:Blk X NY sc src (.Tuple elts f tpos) ifs elt g qf te)(b:Gl X "zip" := by rfl)(d:Kw [l,r] X.env=[(false,eval l X.env),(false,eval r X.env)]:=by rfl)(e:Kw [r] X.env=[(false,eval r X.env)]:=by rfl)(i:X.calm=true:=by rfl)(j:qp7 X NY src sc=true:=by rfl)(k:∀x,Kz (.Call (.Name "zip" p) [l,r] [] cpos) X.env x=pure x:=by intro _;rfl):VE c X (.ListComp elt [⟨.Tuple elts f tpos,.Call (.Name "zip" p) [l,r] [] cpos,ifs,0⟩] sc pos) (tCZ src tr g qf te):=qT2 (qw6 NY src (qaJ7 b hm a.h d e) bl.pg bl.pf bl.pe i j k) (qba1 bl a) (λu Q Q' v n o s=>a.m _ _ _ _ _ (λw _ t=>qa5 λq=>N7 (N7 (N7 (qu9 bl o)))) s)
end
end LV
namespace L2
open PySem PySem.Spec PyProof.Rows
section
variable{X:Cx}{E6:List (γ×Obj)}{σ:St}{H:Hp}{s:Sh}
theorem qaZ0{x:V}{u t:V'}(I:Pb X E6 σ H s)(b:O8 x u)(ty:Es X.K H x t):∃P:Heap->Prop,W.KitX X.K u t P/\P s.heap/\u≠.builtin "__main__.__loader__#opaque" := by
 cases ty with
 |non=>cases (show u=Nx from b);exact⟨_,W.kitx_none,True.intro,nofun⟩
 |bl y=>cases (show u=N1 y from b);exact⟨_,W.kitx_bool,True.intro,nofun⟩
 |int i=>obtain⟨t,q⟩:=(show ∃t,u=Ny i t from b);cases q;exact⟨_,W.kitx_int,True.intro,nofun⟩
 |str y=>obtain⟨t,q⟩:=(show ∃t,u=Nz y t from b);cases q;exact⟨_,W.kitx_str,True.intro,nofun⟩
 |flt y=>obtain⟨t,q⟩:=(show ∃t,u=N2 y t from b);cases q;exact⟨_,W.kitx_float,True.intro,nofun⟩
 |@l a f c=>
  cases (show u=Nw a from b);obtain⟨_,_,n,_,d⟩:=(show ObjOk X.prog X.w H s.heap a (.l f) from I.hok a _ c)
  exact⟨_,W.kitx_list,⟨_,d,rfl⟩,nofun⟩
 |@frz a l f c=>
  cases (show u=Nw a from b);obtain⟨_,_,_,n,_,d⟩:=(show ObjOk X.prog X.w H s.heap a (.frz l (.l f)) from I.hok a _ c)
  exact⟨_,W.kitx_list,⟨_,d,rfl⟩,nofun⟩
 |@q a f c=>
  cases (show u=Nw a from b);obtain⟨_,_,_,p⟩:=(show ObjOk X.prog X.w H s.heap a (.q f) from I.hok a _ c)
  obtain⟨o,d,g,_⟩:=p;exact⟨_,W.kitx_tuple,⟨o,d,g⟩,nofun⟩
 |@dK a e c=>
  cases (show u=Nw a from b);obtain⟨_,_,B,_,p⟩:=(show ObjOk X.prog X.w H s.heap a (.dK e) from I.hok a _ c)
  obtain⟨o,m,r,d,g,_⟩:=p;exact⟨_,W.kitx_dict,⟨o,d,g.1⟩,nofun⟩
 |@dT a e c=>
  cases (show u=Nw a from b);obtain⟨_,_,f,_,o,m,r,d,g,_⟩:=(show ObjOk X.prog X.w H s.heap a (.dT e) from I.hok a _ c)
  exact⟨_,W.kitx_dict,⟨o,d,g.1⟩,nofun⟩
 |@ins a C D E c j v z h A=>
  cases (show u=Nw a from b);obtain⟨F,O,_⟩:=qF5 I.hok c;obtain⟨G,J,_⟩:=O.look;exact⟨_,W.kitx_own (j.get _) j.hd v z h A,J,nofun⟩
theorem qW6{p:γ}{xs:List V}(I:Pb X E6 σ H s)(h:H p=some (.q xs)):∃its a n b,O9 xs its/\s.heap.get? p=some ⟨.type "tuple",a,.seq its.toArray n,b⟩:=by obtain⟨_,its,d,o,e,f,n,g⟩:=(show ObjOk X.prog X.w H s.heap p (.q xs) from I.hok p _ h);obtain⟨c,a,i,b⟩:=o;cases (show c=_ from f);cases (show i=_ from g);exact⟨its,a,n,b,d,e⟩
def rIsi2:List V->Hp->VK->Prop:=λxs H Q=>∃x p n m t,xs=[x,.ref p]/\H p=some (.q [.ty n,.ty m])/\Eb H x=some t/\n∈["bool", "int", "str", "list", "tuple", "dict"]/\m∈["bool", "int", "str", "list", "tuple", "dict"]/\Q (.bl (subT t n||subT t m)) H
theorem qao5:CallR X (.builtin "isinstance") rIsi2:=by intro E6 s σ H B C Q I r h;obtain⟨x,p,n,m,t,rfl,d,e,f,g,q⟩:=h;obtain⟨u,D,rfl,i,a⟩:=Fp r;cases a;obtain⟨ty,c⟩:=qM1 (K:=X.K) e;obtain⟨P,Z,j,l⟩:=qaZ0 I i ty;obtain⟨o,E,k,F,v,w⟩:=qW6 I d;obtain⟨G,J,rfl,y,z⟩:=Fp v;cases y;cases z;refine W.kia_tup Z I.kIn j w (b:=subT t n||subT t m) ?_ l λA=>⟨.bl _,H,I.tok A,rfl,q⟩;unfold W.kitAny W.kitAny W.kitAny;rw[qad5 X.K c f,qad5 X.K c g];cases subT t n<;>cases subT t m<;>rfl
def rIsXT(K:Oa):List V->Hp->VK->Prop:=λxs H Q=>∃(a p:γ)(cs:List γ)(C dx:γ)(fr:Bool)(fs:List (Str×V))(b:Bool),xs=[.ref a,.ref p]/\H p=some (.q (cs.map V.ref))/\H a=some (Bi a C (some dx) fr)/\H dx=some (XD dx fs)/\IsX K C/\W.kitAny K (.ref C) (cs.map Nw)=some b/\Q (.bl b) H
theorem qN6:∀{a:List γ}{its:List V'},O9 (a.map V.ref) its->its=a.map Nw|[],_,.nil=>rfl|c::a,_,.cons r rr=>by rw[qN6 rr];cases r;rfl
theorem qao6:CallR X (.builtin "isinstance") (rIsXT X.K):=by intro E6 s σ H O P Q I r h;obtain⟨a,p,R,C,g,S,T,b,rfl,i,j,l,ix,m,q⟩:=h;obtain⟨n,o,rfl,t,u⟩:=Fp r;obtain rfl:n=Nw a:=t;obtain rfl:o=Nw p:=u;obtain⟨v,U,k,V,w,x⟩:=qW6 I i;obtain rfl:=qN6 w;obtain⟨y,A,B,d,e,f,_⟩:=qG4 I.hok j;obtain⟨Y,D,r,Z,_⟩:=Hy I.hok l;obtain⟨E,F,G⟩:=qo6 D;obtain⟨oc,L,M,c⟩:=y;dsimp only at d e f;subst d e f;have J:W.InstAt s.heap a ⟨.ref C,some g,.fields A,c⟩ C (some E):=⟨B,rfl,rfl,F⟩;exact W.kia_tup (qad4 ix) I.kIn J x m (λz=>nomatch z) λN=>⟨.bl b,H,I.tok N,rfl,q⟩
end
end L2
namespace LV
open PySem L2
variable{H:Hp}{x:Str}
def gIsi2(x y:D):Option D:=match y with|.q [.ty n,.ty m]=>if (F8 n&&F8 m)=true then x.kind.map λt=>.bl (subT t n||subT t m) else none|_=>none
theorem qae1{n:String}(h:F8 n=true):n∈["bool", "int", "str", "list", "tuple", "dict"]:=by simp only[F8,Bool.or_eq_true,zBj] at h;simp only[zAa,zAr,zC9];rcases h with ((((h|h)|h)|h)|h)|h<;>subst h<;>simp
theorem qaR1:CS2 true rIsi2 gIsi2:=by intro F H v w x y A B d Q a b e q;unfold gIsi2 at e;split at e;{rename_i n m;split at e;{rename_i hc;rw[zB0] at hc;obtain⟨t,c,rfl⟩:=zA8.mp e;obtain⟨p,i,rfl,f,g⟩:=b.tup_inv;obtain⟨j,v2,_,_,rfl,h,q2,_⟩:=g.two_inv;cases h;cases q2;exact⟨v,p,n,m,t,rfl,f,a.kind c,qae1 hc.1,qae1 hc.2,q _ H [] (.bl _) (λ_ _ z=>z) New.nil⟩};cases e};cases e
section
variable{c:Vc}{X:Cx}{e e2:Lr}{pos p:Pos}{own Z:Bool}{f f2:FV}
theorem qZ7{F:γ->Prop}{H:Hp}:∀{a:List γ}{vs:List V}{B:List γ},O4 F H vs (a.map D.adr) B->vs=a.map V.ref|[],_,_,.nil=>rfl|c::a,_,_,.cons r rr=>by rw[qZ7 rr];cases r;rfl
def tIsXT(K:Oa)(f f2:FV):VT:=λds Q _=>orF (f ds) λd=>orF (f2 ds) λa=>∃(C:γ)(fs:List (Str×D))(cs:List γ)(b:Bool),d=.exn C fs/\a=.q (cs.map D.adr)/\IsX K C/\W.kitAny K (.ref C) (cs.map Nw)=some b/\Q (.bl b) ds
theorem eisXT(hm:X.mg "isinstance"=none)(o:VV c X e own f)(t:VV c X e2 Z f2)(u:Gl X "isinstance" := by rfl)(h1:Kw [e,e2] X.env=(false,eval e X.env)::Kw [e2] X.env:=by rfl)(h2:Kw [e2] X.env=(false,eval e2 X.env)::Kw [] X.env:=by rfl)(i:((backTo pos (Kw [e2] X.env)).any λx=>x.1)=false:=by rfl):VE c X (.Call (.Name "isinstance" p) [e,e2] [] pos) (tIsXT X.K f f2):=by refine⟨PE.mono (cbi qao6 hm (qe7 o.h (qe7 t.h qu0 h2) h1) u rfl ∅ ∅ h1 i) λY H Q j=>?_,λk Q Q' w y z _=>qa5 λd=>qa5 λD ⟨C,n,l,b,h1,h2,E,G,I⟩=>⟨C,n,l,b,h1,h2,E,G,z _ _ I⟩⟩;obtain⟨F,k,A,w,S,x,q⟩:=j;obtain⟨U,J,q⟩:=qa7.mp q;obtain⟨D,e2,C,n,l,b,rfl,rfl,ix,L,q⟩:=qa7.mp q;refine⟨F,k,A,_,S,J,λv H1 B r s _=>?_⟩;refine⟨F,k,A,_,S.same s,e2,λv2 H2 B2 M g _=>?_⟩;obtain⟨a,N,m,rfl,rfl,O,P,_⟩:=(r.same g).exn_inv;obtain⟨p,V,rfl,R,T⟩:=M.tup_inv;obtain rfl:=qZ7 T;exact⟨a,p,l,C,N,false,m,b,rfl,R,O,P,ix,L,q _ _ F [] A (.bl b) (S.same (s.trans g)) (S.same (s.trans g)).ok (.same (s.trans g))⟩
theorem qaA4{K:Oa}{t a b c d:V'}(h1:Ob K t a=some false)(h2:Ob K t b=some false)(e:Ob K t c=some false)(f:Ob K t d=some false):W.kitAny K t [a,b,c,d]=some false:=by simp only[W.kitAny,h1,h2,e,f]
end
theorem Locs.drop{F:γ->Prop}{e:List (Option V)}{ds:List D}{A:List γ}(l:Locs F H e ds A):∀i,∃A',Locs F H (e.set i none) (ds.set i .u) A'/\∀b,A'.count b<=A.count b:=by induction l with|nil=>exact λi=>⟨[],.nil,λ_=>zA3 _⟩|no t a=>(intro i;cases i with|zero=>exact⟨_,.no t,λ_=>zA3 _⟩|succ i=>obtain⟨A',h,c⟩:=a i;exact⟨A',.no h,c⟩)|so h t a=>intro i;cases i with|zero=>exact⟨_,.no t,λb=>by rw[zA0];lia⟩|succ i=>obtain⟨A',d,c⟩:=a i;exact⟨_,.so h d,λb=>by rw[zA0,zA0];have:=c b;lia⟩
theorem Pd.drop{c:Vc}{F:γ->Prop}{f:St}{ds:Ds}{A:List γ}{i:Nat}(S:Pd c F H f ds A)(d:c.W i=false)(hi:i<f.length):∃A',Pd c F H (f.set i none) (ds.set i .u) A'/\Pc F H A F H A':=by obtain⟨A',h,b⟩:=S.loc.drop i;have e:(f++c.gv).set i none=f.set i none++c.gv:=Mr i none hi;rw[e] at h;refine⟨A',⟨h,S.ok.count b,?_,λj a=>?_⟩,Pc.refl.count b⟩;{rw[<-e,zC3];exact S.len};rw[<-e,zB6 λz=>by rw[<-z,d] at a;cases a];exact S.ag j a
section
variable{c:Vc}{X:Cx}{Y Z:Pos}{j:Nat}{R:VTS}{U:VH}{V:Ls}{L:List Ls}{rest:List ExceptHandler}{y:Str}{M:γ->Option Bool}
def nxR(j:Nat)(e:VEnds):VEnds:=⟨λds=>e.nx (ds.set j .u),e.rt,λ_=>False,λ_=>False,λ_ _=>False⟩
def Kl(M:γ->Option Bool)(j:Nat)(R:VTS)(U:VH):VH:=λx e ds=>x.fs≠[]/\∃b,M x.C=some b/\if b=true then R (nxR j e) (ds.set j (.exn x.C x.fs)) else U x e ds
theorem qba4{X':Cx}{st:List Ls}(f:VSs (cNo c) X' st R)(g:VHs c X rest U):∀x (e a:VEnds) ds,e.Le a->Kl M j R U x e ds->Kl M j R U x a ds:=λx e a ds d ⟨h,b,i,q⟩=>⟨h,b,i,qx5 (f.m (nxR j e) (nxR j a) _ ⟨λ_ z=>d.nx _ z,d.rt,λ_ z=>z,λ_ z=>z,λ_ _ z=>z⟩) (g.m x e a ds d) q⟩
theorem qaP1(k:c.W j=false){g:TS}(h:g=Ew (cNo c) R){a:γ}{D:Bs}{J:St}(n:j<J.length)(q:Iu c (Kl M j R U) a D J H):tHdM M j (λ_=>g) (Iu c U) a D J H:=by
 subst h;obtain⟨x,F,p,A,e,r,S,l,i,b,t,q⟩:=q;obtain⟨u,w,_⟩:=id r;refine⟨x.C,u,b,w,t,?_⟩;cases b with
 |false=>exact⟨x,F,p,A,e,r,S,l,q⟩|true=>
  obtain⟨A',S',m⟩:=S.store k n (r.rep i) (by simpa using S.ok);refine⟨F,_,A',nxR j e,⟨S'.loc,S'.ok,S'.len,S'.ag⟩,⟨λf J' H' F' A2 q S2 y=>?_,λd f v J' H' F' T A2 q r S2 o s=>l.rt d f v J' H' F' T A2 q r ⟨S2.loc,S2.ok,S2.len,S2.ag⟩ o (m.trans s),λ_ _ _ _ _ z=>z.elim,λ_ _ _ _ _ z=>z.elim,λ_ _ _ _ _ _ _ z=>z.elim⟩,q⟩;have S3:Pd c F' H' J' f A2:=⟨S2.loc,S2.ok,S2.len,S2.ag⟩;have B:j<J'.length:=by have E:=S.len;have G:=S3.len;rw[zAf] at E G;lia
  obtain⟨A3,S4,I⟩:=S3.drop k B;exact l.nx _ _ H' F' A3 q S4 ((m.trans y).trans I)
theorem vhasN(j:Nat){C':γ}(f:X.N.Nodup)(ex:Exc X.K C')(hm:X.mg x=some (.ref C'))(b:∀a,VSs (cNo c) (Xh X a) (V::L) R)(d:VHs c X rest U)(g:c.W j=false:=by rfl)(e:X.N[j]?=some y:=by rfl)(i:X.env.scope.names.lookup y=some .local:=by rfl)(k:Gl X x:=by rfl)(l:N' x:=by decide):VHs c X (.ExceptHandler (some (.Name x Z)) (some y) (V::L) Y::rest) (Kl (λC=>W.mroIn X.K C (.ref C')) j R U):=⟨λE6 s J H D a n I F O q=>qaV6 j f ex hm (λa=>(b a).h) d.h e i k l E6 s J H D a n I F O (qaP1 g rfl (qk9 e E6 J H s I) q),qba4 (b 0) d⟩
end
section
variable{c:Vc}{X:Cx}{K:Oa}{e e2:Lr}{m p:Pos}{own o:Bool}{f f2:FV}
theorem qbb2(d:X.K=K)(C':γ){np:Pos}(hm:X.mg "isinstance"=none)(g:VV c X e own f)(h:X.mg x=some (.ref C'))(i:Gl X "isinstance" := by rfl)(a:Gl X x:=by rfl)(j:N' x:=by decide)(h1:Kw [e,.Name x np] X.env=(false,eval e X.env)::Kw [.Name x np] X.env:=by rfl)(h2:Kw [.Name x np] X.env=(false,eval (.Name x np) X.env)::Kw [] X.env:=by rfl)(b:((backTo m (Kw [.Name x np] X.env)).any λx=>x.1)=false:=by rfl):VE c X (.Call (.Name "isinstance" p) [e,.Name x np] [] m) (Kk K f (.ref C')):=d ▸ eisXc C' hm g h i a j h1 h2 b
theorem qbb1(g:X.K=K)(n:String){np:Pos}(hm:X.mg "isinstance"=none)(h:VV c X e own f)(a:X.mg x=none)(i:Gl X "isinstance" := by rfl)(b:Gl X x:=by rfl)(j:K5 x=some (.type n):=by rfl)(k:x ≠ "__name__" := by decide)(l:N' x:=by decide)(h1:Kw [e,.Name x np] X.env=(false,eval e X.env)::Kw [.Name x np] X.env:=by rfl)(h2:Kw [.Name x np] X.env=(false,eval (.Name x np) X.env)::Kw [] X.env:=by rfl)(d:((backTo m (Kw [.Name x np] X.env)).any λx=>x.1)=false:=by rfl):VE c X (.Call (.Name "isinstance" p) [e,.Name x np] [] m) (Kk K f (.type n)):=g ▸ eisXt n hm h a i b j k l h1 h2 d
theorem qbb3(b:X.K=K)(hm:X.mg "isinstance"=none)(d:VV c X e own f)(g:VV c X e2 o f2)(h:Gl X "isinstance" := by rfl)(h1:Kw [e,e2] X.env=(false,eval e X.env)::Kw [e2] X.env:=by rfl)(h2:Kw [e2] X.env=(false,eval e2 X.env)::Kw [] X.env:=by rfl)(a:((backTo m (Kw [e2] X.env)).any λx=>x.1)=false:=by rfl):VE c X (.Call (.Name "isinstance" p) [e,e2] [] m) (tIsXT K f f2):=b ▸ eisXT hm d g h h1 h2 a
end
end LV
namespace LV.My
open PySem L2 Row _root_.My
variable{L S ks ns:List Int}{N i j l r:Nat}{Q:DK}{R:Ds->D->Prop}{b z':Bool}{d p x y:D}{ds xs ys:Ds}{e:VEnds}{f fa fb fc:FV}{fs:List (Str×D)}{g':Nat->Option Int}{hm:Int->Nat}{k m:Int}{o:Option Int}{qc:VTT}{s:VSp}{t u:VTS}{ta tb te:VT}{tr:VTB}{xe:XKd}{α:Type}
noncomputable def _root_.LV.D.whole:D->Bool|.int _=>true|_=>false
noncomputable def _root_.LV.D.within(l m:Int):D->Bool|.int i=>decide (l<=i)&&decide (i<=m)|_=>false
def _root_.LV.D.num:D->Bool:=D.within 0 1000000000000000000
noncomputable def fx3(g:D->D->D->Option D):Ds->Option D|[x,y,z]=>g x y z|_=>none
theorem qad0(h:B7 (fx1 g) ds Q xe):ds.length=1:=by match ds,h with|[_],_=>rfl
theorem qaN7(h:B7 (fx3 g) ds Q xe):ds.length=3:=by match ds,h with|[_,_,_],_=>rfl
theorem imm1(h:B7 (fx1 g) ds Q xe):G2 (wOf [true]) 0 ds=true:=by match ds,h with|[_],_=>rfl
theorem imm3(h:B7 (fx3 g) ds Q xe):G2 (wOf [true,true,true]) 0 ds=true:=by match ds,h with|[_,_,_],_=>rfl
theorem Km(h:B7 (fx1 g) ds Q xe):∃x d,ds=[x]/\g x=some d/\Q d [x]:=by match ds,h with|[x],h=>obtain⟨d,e,q⟩:=qa7.mp h;exact⟨x,d,rfl,e,q⟩
theorem pure3(h:B7 (fx3 g) ds Q xe):∃x y z d,ds=[x,y,z]/\g x y z=some d/\Q d [x,y,z]:=by match ds,h with|[x,y,z],h=>obtain⟨d,e,q⟩:=qa7.mp h;exact⟨x,y,z,d,rfl,e,q⟩
theorem qg0{t:String}(h:x.kind=some t):x.known=true:=by cases x<;>first|rfl|cases h
def A5(P:Ds->D->Prop):VSp:=λds Q _=>∃d,P ds d/\Q d ds
theorem qb0:Bp (A5 P):=λ_ _ _ _ _ a _ ⟨d,p,q⟩=>⟨d,p,a _ _ q⟩
noncomputable def O7(ps:Pr):Ds:=ps.map λp=>.q [.int p.1,.int p.2]
noncomputable def kvD(ps:Pr):List (Key×D):=ps.map λp=>(.inl p.1,.int p.2)
def Ag(z:Bool)(C:γ)(n:Int)(wr:Bool)(ps:Pr):D:=.ins z C [("rooms",.int n),("wraps",.bl wr),("homes",.l z (O7 ps)),("home_numbers",.dct z (kvD ps))]
noncomputable def A8:Option Int->D|none=>.non|some k=>.int k
def O6(n:Nat)(g:Nat->Option Int):Ds:=(Mc n).map λi=>A8 (g i)
noncomputable def O5(ks:List Int):Ds:=ks.map .int
theorem qp2:∀ps:Pr,D.imms (O7 ps)=true|[]=>rfl|p::r=>by show (D.imms [.int p.1,.int p.2]&&D.imms (O7 r))=true;rw[qp2 r];rfl
theorem qp3:∀ks:List Int,D.imms (O5 ks)=true|[]=>rfl|k::r=>by show (true&&D.imms (O5 r))=true;rw[qp3 r];rfl
theorem qx4{α:Type}{f:α->D}(h:∀a,(f a).imm=true):∀l:List α,D.imms (l.map f)=true|[]=>rfl|a::r=>by show ((f a).imm&&D.imms (r.map f))=true;rw[h a,qx4 h r];rfl
theorem qQ2(o:Option Int):(A8 o).imm=true:=by cases o<;>rfl
theorem qt2(n:Nat)(g:Nat->Option Int):D.imms (O6 n g)=true:=qx4 (λi=>qQ2 _) _
theorem qas5:∀ks:List Int,intsD (O5 ks)=some ks|[]=>rfl|k::r=>by show (intsD (O5 r)).map (λis=>k::is)=some (k::r);rw[qas5 r];rfl
theorem qM5:∀ks:List Int,flats (O5 ks)=some (ks.map V.int)|[]=>rfl|k::r=>by show (Option.bind (some (V.int k)) λv=>(flats (O5 r)).bind λa=>some (v::a))=_;rw[qM5 r];rfl
theorem qm5(ks:List Int):(O5 ks).length=ks.length:=zAb _
theorem qo8(n:Nat)(g:Nat->Option Int):(O6 n g).length=n:=by simp[O6]
theorem qF9{n:Nat}{g:Nat->Option Int}(h:i<n):(O6 n g)[i]?=some (A8 (g i)):=by unfold O6;rw[zAt,zBt h];rfl
theorem qaH6{n:Nat}{g:Nat->Option Int}:(O6 n g).set i (A8 o)=O6 n (λj=>if j=i then o else g j):=by apply List.ext_getElem?;intro j;by_cases a:j<n;{rw[qF9 a];by_cases e:i=j;{subst e;rw[zBk (by rw[qo8];exact a),if_pos rfl]};rw[zB6 e,qF9 a,if_neg (Ne.symm e)]};rw[zB2 (by rw[zC3,qo8];lia),zB2 (by rw[qo8];lia)]
theorem qab1:∀ps:Pr,qU6 (O7 ps)=some (kvD ps)|[]=>rfl|p::r=>by show (Option.bind (some ((Sum.inl p.1:Key),D.int p.2)) λq=>(qU6 (O7 r)).bind λps=>some (q::ps))=_;rw[qab1 r];rfl
theorem qaj3{ps:Pr}(h:¬k∈ps.map (·.1)):Fs (kvD ps) (.inl k) (.int m)=kvD (ps++[(k,m)]):=by unfold Fs;rw[if_neg];{unfold kvD;rw[zBc];rfl};intro e;obtain⟨q,a,e⟩:=List.any_eq_true.mp e;obtain⟨r,b,rfl⟩:=zB4.mp a;exact h (zB4.mpr ⟨r,b,Sum.inl.inj (zAn e)⟩)
theorem qP6:∀(a ps:Pr),((ps++a).map (·.1)).Nodup->qs9 (kvD ps) (kvD a)=kvD (ps++a)
 |[],ps,_=>by rw[zAe];rfl|q::a,ps,h=>by
  show qs9 (Fs (kvD ps) (.inl q.1) (.int q.2)) (kvD a)=_;have b:¬q.1∈ps.map (·.1):=by rw[zBc,zAy,Nf] at h;exact λz=>h.2.2 _ z _ zA9 rfl
  rw[qaj3 b,qP6 a (ps++[(q.1,q.2)]) (by rw[zAx];exact h),zAx];rfl
theorem qal0(h:(ps.map (·.1)).Nodup):qs9 [] (kvD ps)=kvD ps:=qP6 ps [] h
theorem qaR0(h:(ps.map (·.1)).Nodup):gDict (.l z (O7 ps))=some (.dct false (kvD ps)):=by show (qU6 (O7 ps)).map (λps=>D.dct false (qs9 [] ps))=_;rw[qab1];show some (D.dct false (qs9 [] (kvD ps)))=_;rw[qal0 h]
theorem qao9(k:Int):∀ps:Pr,El (kvD ps) (.inl k)=(ps.lookup k).map .int
 |[]=>rfl|(p,m)::r=>by
  show El ((.inl p,.int m)::kvD r) _=_;by_cases e:p=k;{subst e;simp[El,zAp]};have a:El ((.inl p,D.int m)::kvD r) (.inl k)=El (kvD r) (.inl k):=by simp[El,zC4,e]
  rw[a,qao9 k r];have:(k==p)=false:=by simpa using λz=>e z.symm
  simp only[zAp,this]
theorem qa2{o:Option α}{a:α}{k:α->Prop}(e:o=some a)(h:k a):orF o k:=by rw[e];exact h
theorem Bh{p:Prop}[Decidable p]{a b:Prop}(h:p)(x:a):if p then a else b:=by rw[if_pos h];exact x
theorem E7{p:Prop}[Decidable p]{a b:Prop}(h:¬p)(x:b):if p then a else b:=by rw[if_neg h];exact x
theorem ite_b{p:Bool}{a b:Prop}(h1:p=true->a)(h2:p=false->b):if p=true then a else b:=by cases p with|true=>exact h1 rfl|false=>exact h2 rfl
noncomputable def Ge:Option Int->D|some f=>.int f|none=>.non
theorem qN3(b:rdN i ds=some x)(h:s [x] (λd ys=>orF (Av [.sl i] ys (ds.set i .u)) λa=>Q d a) (λe ys=>orF (Av [.sl i] ys (ds.set i .u)) λa=>xe e a)):qj3 s [] (tbN i A7) ds Q xe:=⟨by rw[b];rfl,by show orF (rdN i ds) _;rw[b];exact h⟩
theorem qC0{f:Ds->Option D}(e:f ds=some d)(q:Q d ds):B7 f ds Q xe:=qa2 e q
theorem qf5(e:R ds d)(q:Q d ds):A5 R ds Q xe:=⟨d,e,q⟩
theorem qc3{K:Ds->List Pl->Ds->Prop}(a:rdN i ds=some x)(h:tr ds (λxs ps ds1=>orF (rdN i ds1) λd=>K (d::xs) (.sl i::ps) (ds1.set i .u)) xe):tbN i tr ds K xe:=⟨by rw[a];rfl,h⟩
theorem qe0(b:f ds=some y)(h:tr ds (λxs ps a=>K (y::xs) (.no::ps) a) xe):tbV (Bk f) tr ds K xe:=qa2 b h
theorem rd0{r:Ds}(h:d.known=true):rdN 0 (d::r)=some d:=qk2.mpr ⟨rfl,h⟩
theorem qG3{β:Type}(f:α->β)(l:List α):l.filterMap (λa=>some (f a))=l.map f:=by simp
section
variable{z:Bool}{C:γ}{n:Int}{wr:Bool}{ps:Pr}
theorem qA8{f:Str}(h:fs.lookup f=some d):D.fld C f (.ins z C fs)=some d:=by show (if C=C then fs.lookup f else none)=some d;rw[if_pos rfl,h]
theorem qf8:D.fld C "rooms" (Ag z C n wr ps)=some (.int n):=qA8 (by rfl)
theorem qC7:D.fld C "wraps" (Ag z C n wr ps)=some (.bl wr):=qA8 (by rfl)
theorem qV8:D.fld C "home_numbers" (Ag z C n wr ps)=some (.dct z (kvD ps)):=qA8 (by rfl)
theorem qas3{m:Str}(h:fs.lookup m=none):(D.ins z C fs).isM C m=true:=by show (decide (C=C)&&(fs.lookup m).isNone)=true;rw[zAo rfl,h];rfl
theorem qh4{m:Str}(h:([("rooms",.int n),("wraps",.bl wr),("homes",.l z (O7 ps)),("home_numbers",.dct z (kvD ps))]:List (Str×D)).lookup m=none):(Ag z C n wr ps).isM C m=true:=qas3 h
theorem Bd(h:fa ds=some x)(h':g x=some y):f1 g fa ds=some y:=qam6.mpr ⟨x,h,h'⟩
theorem f2_of(h:fa ds=some x)(h':fb ds=some y)(h2:g x y=some d):f2 g fa fb ds=some d:=qaQ3.mpr ⟨x,y,h,h',h2⟩
theorem qk0:(D.ins false C fs).ownI C=some fs:=by show (if C=C then some fs else none)=some fs;rw[if_pos rfl]
end
theorem qV6{C:γ}{m:Str}(b:rdN i ds=some p)(hm:p.isM C m=true)(h:tr ds (λxs ps ds1=>orF (rdN i ds1) λd=>s (d::(xs++[])) (λr ys=>orF (Av (.sl i::ps) ys (ds1.set i .u)) λa=>Q r a) (λx ys=>orF (Av (.sl i::ps) ys (ds1.set i .u)) λa=>xe x a)) xe):qy6 C m s [] i tr ds Q xe:=⟨qa2 b hm,h⟩
theorem qK5{f:Ds->Option D}(a:rdN i ds=some x)(e:f [x]=some d)(b:Av [.sl i] [x] (ds.set i .u)=some ds)(q:Q d ds):qj3 (B7 f) [] (tbN i A7) ds Q xe:=qN3 a (qC0 e (qa2 b q))
theorem qs2(c:rdN i ds=some x)(b:rdN j ds=some y)(a:rdN i (ds.set j .u)=some x)(r:R [x,y] d)(e:Av [.sl i,.sl j] [x,y] ((ds.set j .u).set i .u)=some ds)(q:Q d ds):qj3 (A5 R) [] (tbN i (tbN j A7)) ds Q xe:=qc3 c (qc3 b (qa2 b (qa2 a (qf5 r (qa2 e q)))))
theorem Kn{w:D}(e:rdN i ds=some x)(f:rdN j ds=some y)(c:rdN l ds=some w)(a:rdN j (ds.set l .u)=some y)(b:rdN i ((ds.set l .u).set j .u)=some x)(r:R [x,y,w] d)(g:Av [.sl i,.sl j,.sl l] [x,y,w] (((ds.set l .u).set j .u).set i .u)=some ds)(q:Q d ds):qj3 (A5 R) [] (tbN i (tbN j (tbN l A7))) ds Q xe:=qc3 e (qc3 f (qc3 c (qa2 c (qa2 a (qa2 b (qf5 r (qa2 g q)))))))
theorem qal2{C:γ}{m:Str}(c:rdN i ds=some p)(hm:p.isM C m=true)(b:rdN j ds=some x)(a:rdN i (ds.set j .u)=some p)(r:R [p,x] d)(e:Av [.sl i,.sl j] [p,x] ((ds.set j .u).set i .u)=some ds)(q:Q d ds):qy6 C m (A5 R) [] i (tbN j A7) ds Q xe:=qV6 c hm (qc3 b (qa2 b (qa2 a (qf5 r (qa2 e q)))))
theorem qal1{C:γ}{m:Str}(e:rdN i ds=some p)(hm:p.isM C m=true)(f:rdN j ds=some x)(c:rdN l ds=some y)(a:rdN j (ds.set l .u)=some x)(b:rdN i ((ds.set l .u).set j .u)=some p)(r:R [p,x,y] d)(g:Av [.sl i,.sl j,.sl l] [p,x,y] (((ds.set l .u).set j .u).set i .u)=some ds)(q:Q d ds):qy6 C m (A5 R) [] i (tbN j (tbN l A7)) ds Q xe:=qV6 e hm (qc3 f (qc3 c (qa2 c (qa2 a (qa2 b (qf5 r (qa2 g q)))))))
theorem He{t:VT}(h:∀(Q:DK)(xe:XKd),Q (.bl true) ds->t ds Q xe)(h2:u e ds):Gd (sIf (Eu (ttE t)) n G0) u e ds:=h _ _ h2
theorem if_e{t:VT}(h:∀(Q:DK)(xe:XKd),Q (.bl b) ds->t ds Q xe)(h1:b=true->u e ds)(h2:b=false->v e ds):sIf (ttE t) u v e ds:=h _ _ (by
 exact ite_b h1 h2)
theorem if_v(h:f ds=some (.bl b))(h1:b=true->u e ds)(h2:b=false->v e ds):sIf (ttV f) u v e ds:=by show orF ((f ds).bind D.asB) _;rw[h];exact ite_b h1 h2
theorem Hf{u:VT}(h:f ds=some (.bl b))(h1:b=true->u ds Q xe)(h2:b=false->v ds Q xe):tIfE (ttV f) u v ds Q xe:=by show orF ((f ds).bind D.asB) _;rw[h];exact ite_b h1 h2
theorem qo3(e:f ds=some d)(q:Q d ds):Bk f ds Q xe:=qa2 e q
theorem qg1(b:Bool)(h:f ds=some (.bl b))(h1:b=true->u {e with nx:=w e} ds)(h2:b=false->w e ds):Gd (sIf (ttV f) u G0) w e ds:=if_v h h1 h2
theorem qg7{t:VT}(h:t ds e.rt e.xe):sRet t e ds:=h
theorem qg5(d:D)(h:f ds=some d)(q:e.rt d ds):sRet (Bk f) e ds:=qa2 h q
theorem At(a:Ds)(h:ds=a)(q:t e a):t e ds:=h ▸ q
theorem qae0{z:Bool}(h:rdN i ds=some (.l z ys)):Ay (fx2 gIsi) (Am (rdN i) (Am (kC (D.ty "list")) λ_=>some [])) ds=some (.bl true):=by unfold Ay Am;rw[h];rfl
theorem qs4{z:Bool}(h:rdN i ds=some (.l z ys)):Ay (fx1 Hb) (Am (rdN i) λ_=>some []) ds=some (.int (ys.length:Nat)):=by unfold Ay Am;rw[h];rfl
theorem qe4{Q:Bool->Ds->Prop}(h:f ds=some (.bl b))(q:Q b ds):ttV f ds Q xe:=by show orF ((f ds).bind D.asB) _;rw[h];exact q
theorem qn8{Q:Bool->Ds->Prop}(h:f ds=some (.bl b))(q:Q (!b) ds):Eu (ttV f) ds Q xe:=qe4 h q
theorem qz8{t u:VTT}{Q:Bool->Ds->Prop}(b c:Bool)(h1:∀Q:Bool->Ds->Prop,Q b ds->t ds Q xe)(h2:b=false->∀Q:Bool->Ds->Prop,Q c ds->u ds Q xe)(q:Q (b||c) ds):ttOr t u ds Q xe:=h1 _ (by
 cases b with
 |false=>exact h2 rfl _ q
 |true=>exact q)
theorem ql0{t u:VTT}{Q:Bool->Ds->Prop}(b c:Bool)(h1:∀Q:Bool->Ds->Prop,Q b ds->t ds Q xe)(h2:b=true->∀Q:Bool->Ds->Prop,Q c ds->u ds Q xe)(q:Q (b&&c) ds):Ig t u ds Q xe:=h1 _ (by
 cases b with
 |false=>exact q
 |true=>exact h2 rfl _ q)
theorem Hg(b:Bool)(h:∀Q:Bool->Ds->Prop,Q b ds->qc ds Q e.xe)(h1:b=true->t e ds)(h2:b=false->u e ds):sIf qc t u e ds:=h _ (ite_b h1 h2)
theorem ql6(b:Bool)(h:∀Q:Bool->Ds->Prop,Q b ds->qc ds Q e.xe)(h1:b=true->t {e with nx:=w e} ds)(h2:b=false->w e ds):Gd (sIf qc t G0) w e ds:=h _ (ite_b h1 h2)
theorem qx6{t:VT}(h:∀(Q:DK)(xe:XKd),Q (.bl true) ds->t ds Q xe)(h2:e.nx ds):sIf (Eu (ttE t)) n G0 e ds:=h _ _ h2
theorem qas8(h:f ds=some (.bl true))(h2:u e ds):Gd (sIf (Eu (ttV f)) n G0) u e ds:=qn8 (Q:=λk a=>if k=true then n {e with nx:=u e} a else u e a) (xe:=e.xe) h h2
theorem qaA7:Jz C (Ag z C n wr ps) (.adr C)=some (.bl true):=by show (if C=C then (Ag z C n wr ps).isC C else none)=_;rw[if_pos rfl];show (if C=C then some (D.bl true) else none)=_;rw[if_pos rfl]
theorem qe6{g:VTG}{t:VTS}{e:VEnds}(I:Nat->Ds->Prop):∀(xs:List D)(i:Nat)(ds:Ds),I i ds->(∀(j:Nat)(x:D),xs[j]?=some x->∀ds,I (i+j) ds->∀K:Ds->Prop,(∀a,I (i+j+1) a->K a)->g x ds λds1=>t {e with nx:=K,ct:=K,bk:=e.nx} ds1)->(∀a,I (i+xs.length) a->e.nx a)->Bz g t e xs ds|[],_,ds,h,_,hn=>hn ds h|x::xs,i,ds,h,hs,hn=>hs 0 x rfl ds h _ λa f=>qe6 I xs (i+1) a f (λj y k b c K l=>hs (j+1) y k b (by rw[show i+(j+1)=i+1+j by lia];exact c) K λd m=>l d (by rw[show i+1+j+1=i+(j+1)+1 by lia];exact m)) λb c=>hn b (by rw[zAj,show i+(xs.length+1)=i+1+xs.length by lia];exact c)
theorem qaC1(h:f ds=some (.int n))(a:Fy n=true)(k:Bz g t e (Bm 0 n.toNat) ds):qZ5 (Hr (tbV (Bo f) A7)) g t e ds:=by show orF (f ds) _;rw[h];exact⟨rfl,a,k⟩
theorem qL6(a:0<=n)(h1:n<=1000):Fy n=true:=by unfold Fy;grind
theorem qaj1{m:Nat}(h:(Bm 0 m)[j]?=some x):j<m/\x=.int (j:Int):=by by_cases a:j<m;{rw[qO7 a] at h;cases h;exact⟨a,by rw[Int.zero_add]⟩};rw[zB2 (by unfold Bm;rw[zAb,zBv];lia)] at h;cases h
def Gp(p:Int->Bool)(y:D):Option D:=y.asI.bind λk=>if p k=true then some (.int k) else none
theorem qas2{p:Int->Bool}(h:p k=true):Gp p (.int k)=some (.int k):=if_pos h
theorem qad9{p:Int->Bool}(h:p k=false):Gp p (.int k)=none:=if_neg (by grind)
theorem qM2(p:Int->Bool):∀ks:List Int,(O5 ks).filterMap (Gp p)=O5 (ks.filter p)|[]=>rfl|k::ks=>by show Nr (Gp p) (D.int k::O5 ks)=_;rw[zC5];cases h:p k with|true=>rw[qas2 h,Mm h];show D.int k::(O5 ks).filterMap (Gp p)=_;rw[qM2 p ks];rfl|false=>rw[qad9 h,Ml (by rw[h];decide),qM2 p ks]
theorem qaQ2(h1:fa ds=some (.bl a))(h2:fb ds=some (.bl b)):fOr fa fb ds=some (.bl (a||b)):=by unfold fOr;rw[h1,h2];cases a<;>rfl
theorem qR5(h1:fa ds=some (.bl a))(h2:fb ds=some (.bl b)):fAnd fa fb ds=some (.bl (a&&b)):=by unfold fAnd;rw[h1,h2];cases a<;>rfl
theorem qb1(ds1:Ds)(h1:∀K:Ds->Prop,K ds1->t {e with nx:=K} ds)(h2:u e ds1):Gd t u e ds:=h1 (u e) h2
theorem qb9(R:Ds->Prop)(h1:∀K:Ds->Prop,(∀ds1,R ds1->K ds1)->t {e with nx:=K} ds)(h2:∀ds1,R ds1->u e ds1):Gd t u e ds:=h1 (u e) h2
theorem qau5(I:Nat->Ds->Prop)(n:Nat)(h:I n ds)(c:∀n ds,I n ds->∀K:Ds->Prop,(∀m a,m<n->I m a->K a)->qc ds (λb ds1=>if b=true then t {e with nx:=K,ct:=K,bk:=e.nx} ds1 else e.nx ds1) e.xe):qaH9 qc t e ds:=by
 have d:∀N n ds,n<N->I n ds->whN qc t e N ds:=by intro N;induction N with|zero=>intro n ds h;exact absurd h (Nat.not_lt_zero _)|succ N f=>intro n ds i h;exact c n ds h _ λm a j g=>f m a ⋯ g
 exact⟨n+1,d (n+1) n ds (Nat.lt_succ_self n) h⟩
theorem qW0(f:rdN i ds=some x)(c:rdN j ds=some y)(b:rdN i (ds.set j .u)=some x)(h:s [x,y] (λd ys=>orF (Av [.sl i,.sl j] ys ((ds.set j .u).set i .u)) λa=>Q d a) (λe ys=>orF (Av [.sl i,.sl j] ys ((ds.set j .u).set i .u)) λa=>xe e a)):qj3 s [] (tbN i (tbN j A7)) ds Q xe:=qc3 f (qc3 c (qa2 c (qa2 b h)))
theorem qaE3{w:D}(g:rdN i ds=some x)(k:rdN j ds=some y)(f:rdN l ds=some w)(b:rdN j (ds.set l .u)=some y)(c:rdN i ((ds.set l .u).set j .u)=some x)(h:s [x,y,w] (λd ys=>orF (Av [.sl i,.sl j,.sl l] ys (((ds.set l .u).set j .u).set i .u)) λa=>Q d a) (λe ys=>orF (Av [.sl i,.sl j,.sl l] ys (((ds.set l .u).set j .u).set i .u)) λa=>xe e a)):qj3 s [] (tbN i (tbN j (tbN l A7))) ds Q xe:=qc3 g (qc3 k (qc3 f (qa2 f (qa2 b (qa2 c h)))))
theorem qaY7{C:γ}{m:Str}{k:Nat}{w:D}(f:rdN i ds=some p)(hm:p.isM C m=true)(g:rdN j ds=some x)(h:rdN l ds=some y)(e:rdN k ds=some w)(a:rdN l (ds.set k .u)=some y)(b:rdN j ((ds.set k .u).set l .u)=some x)(c:rdN i (((ds.set k .u).set l .u).set j .u)=some p)(r:R [p,x,y,w] d)(n:Av [.sl i,.sl j,.sl l,.sl k] [p,x,y,w] ((((ds.set k .u).set l .u).set j .u).set i .u)=some ds)(q:Q d ds):qy6 C m (A5 R) [] i (tbN j (tbN l (tbN k A7))) ds Q xe:=qV6 f hm (qc3 g (qc3 h (qc3 e (qa2 e (qa2 a (qa2 b (qa2 c (qf5 r (qa2 n q)))))))))
theorem qaw0(h:ds[j]?=some d):ds.set j d=ds:=by obtain⟨a,e⟩:=zA6.mp h;rw[<-e];exact List.set_getElem_self a
theorem qc4(h:ds[i]?=some d)(a:d.known=true):rdN i ds=some d:=qk2.mpr ⟨h,a⟩
def Pf(ns:List Int)(b:D):Prop:=∃x y z,b=bagD x y z ns/\Bg x y z ns
theorem Pf.known{b:D}(h:Pf ns b):b.known=true:=by obtain⟨x,y,z,rfl,_⟩:=h;rfl
def qv2:VSp:=λds Q _=>∃b m ns,ds=[b,.int m]/\Pf ns b/\0<m/\m<2 ^ 200/\∀v a,0<=v->v<m->Pf ns a->Q (.int v) [a,.int m]
theorem qc1{b:D}(d:ds[i]?=some b)(B:Pf ns b)(e:f ds=some (.int m))(g:0<m)(h1:m<2 ^ 200)(q:∀v a,0<=v->v<m->Pf ns a->Q (.int v) (ds.set i a)):qj3 qv2 [] (tbN i (tbV (Bk f) A7)) ds Q xe:=by have c:=qc4 d B.known;refine qc3 c (qe0 e (qa2 c ⟨b,m,ns,rfl,B,g,h1,λv a h j B'=>?_⟩));show Q (.int v) ((ds.set i .u).set i a);rw[M0];exact q v a h j B'
theorem qav0{b:D}(d:ds[i]?=some b)(B:Pf ns b)(e:f ds=some (.int m))(g:0<m)(h1:m<2 ^ 200)(q:∀v a,0<=v->v<m->Pf ns a->Q (.int v) (ds.set i a)):qj3 qv2 [] (tbN i (tbV (Bo f) A7)) ds Q xe:=by have c:=qc4 d B.known;refine qc3 c (qa2 e ⟨rfl,qa2 c ⟨b,m,ns,rfl,B,g,h1,λv a h j B'=>?_⟩⟩);show Q (.int v) ((ds.set i .u).set i a);rw[M0];exact q v a h j B'
theorem qO0{b:D}(f:ds[i]?=some b)(B:Pf ns b)(c:ds[j]?=some (.int m))(d:i≠j)(g:0<m)(h1:m<2 ^ 200)(q:∀v a,0<=v->v<m->Pf ns a->Q (.int v) (ds.set i a)):qj3 qv2 [] (tbN i (tbN j A7)) ds Q xe:=by
 have l:=(zA6.mp c).1;refine qW0 (qc4 f B.known) (qc4 c rfl) (qc4 (by rw[zB6 (Ne.symm d)];exact f) B.known) ⟨b,m,ns,rfl,B,g,h1,λv a h k B'=>?_⟩;show Q (.int v) ((((ds.set j .u).set i .u).set i a).set j (.int m));have e:(((ds.set j .u).set i .u).set i a).set j (.int m)=ds.set i a:=by rw[M0,List.set_comm _ _ (Ne.symm d),M0];exact qaw0 (by rw[zB6 d];exact c)
 rw[e];exact q v a h k B'
theorem Hh{i j:Int}(h:small j=true):F7 (.int i) (.int j)=some (.int (i*j)):=qg4 (by grind)
theorem Ko{i j:Int}(h:small i=true):F7 (.int i) (.int j)=some (.int (i*j)):=qg4 (by grind)
theorem qaD3{i j:Int}(h:0<j)(h1:j<2 ^ 200):gDiv (.int i) (.int j)=some (.int (i/j)):=qg4 (by show (decide (0<j)&&decide (j<2 ^ 200))=true;rw[zAo h,zAo h1];rfl)
theorem modP{x:Int}(h:0<n):Gx (.int x) (.int n)=some (.int (x%n)):=qg4 (zAo h)
theorem qv3{i:Int}(h:-(2 ^ 64)<i)(h':i<2 ^ 64):small i=true:=by unfold small;rw[zAo h,zAo h'];rfl
theorem Ee{z:Bool}{g:Nat->Option Int}(h:r<N):gIx (.l z (O6 N g)) (.int (r:Int))=some (A8 (g r)):=qS8 (qF9 h)
theorem qaZ6{g:Nat->Option Int}(h:r<N):ixN (O6 N g).length (r:Int)=some r:=by rw[qo8];unfold ixN;simp[h]
theorem qaw1{n:Nat}{g:Nat->Option Int}{c:Int}:(O6 n g).set i (.int c)=O6 n (Row.set g i c):=qaH6 (o:=some c)
theorem qaz3(N:Nat):(Ma N [D.non]).flatten=O6 N (λ_=>none):=by unfold O6;induction N with|zero=>rfl|succ N a=>rw[List.replicate_succ',M',a,Mq,zBc];rfl
theorem qab9(a:0<=n)(h1:n<=64):F7 (.l false [.non]) (.int n)=some (.l false (O6 n.toNat λ_=>none)):=by rw[<-qaz3];exact qg4 ⟨rfl,by show 1*n.toNat<=1000000;lia,⋯,⋯⟩
theorem qO8{g:Nat->Option Int}(h:∀i,i<N->g i=g' i):O6 N g=O6 N g':=by unfold O6;apply Ms;intro i a;rw[h i (zB7.mp a)]
theorem qQ9(h:f ds=some (.int n))(a:Fy n=true)(k:Bz g t e (Bm 0 n.toNat) ds):qZ5 (Hr (tbV (Bk f) A7)) g t e ds:=by show orF (f ds) _;rw[h];exact⟨a,k⟩
theorem qam1{g:VTG}{n:Int}(h:rdN i ds=some (.int n))(a:Fy n=true)(k:Bz g t e (Bm 0 n.toNat) (ds.set i .u)):qZ5 (Hr (tbN i A7)) g t e ds:=by refine⟨by rw[h];rfl,?_⟩;exact qa2 h ⟨a,k⟩
theorem qx1{z:Bool}:gInB true (.int k) (.l z (O5 ks))=some (.bl (!decide (k∈ks))):=by show ((flats (O5 ks)).bind λa=>some (D.bl (if true=true then !inV (.int k) a else inV (.int k) a)))=_;rw[qM5];show some (D.bl (!inV (.int k) (ks.map V.int)))=_;rw[qaB0]
theorem qA5(lo:Int)(n:Nat):(Bm lo n).length=n:=by unfold Bm;grind
theorem qn5(e:f ds=some d)(hi:d.imm=true)(q:Q d ds):Bo f ds Q xe:=qa2 e ⟨hi,q⟩
theorem qO4(h:f ds=some d)(hi:d.imm=true)(q:e.nx (ds.set i d)):Em (Bo f) (gNm i) e ds:=qn5 h hi q
theorem ql1(h:f ds=some d)(q:e.nx (ds.set i d)):Em (Bk f) (gNm i) e ds:=qo3 h q
theorem qas9{n:Nat}{K:Ds->Prop}(hi:ds[i]?=some (.l false ys))(a:fb ds=some (.int k))(b:ixN ys.length k=some n)(q:K (ds.set i (.l false (ys.set n d)))):Ik (λ_=>some (i,[])) fb d ds K:=by refine qa2 rfl ?_;refine qa2 (by show (Bb ds i []).bind D.own=_;rw[qs6 hi];rfl) ?_;refine qa2 (by rw[a];rfl) ?_;refine qa2 b ?_;rw[qv4 hi];exact q
theorem qX7{n:Nat}(a:f ds=some d)(b:d.imm=true)(hi:ds[i]?=some (.l false ys))(c:fb ds=some (.int k))(g:ixN ys.length k=some n)(q:e.nx (ds.set i (.l false (ys.set n d)))):Em (Bo f) (Ik (λ_=>some (i,[])) fb) e ds:=qn5 a b (qas9 hi c g q)
theorem qap4{n:Nat}(a:f ds=some d)(hi:ds[i]?=some (.l false ys))(b:fb ds=some (.int k))(c:ixN ys.length k=some n)(q:e.nx (ds.set i (.l false (ys.set n d)))):Em (Bk f) (Ik (λ_=>some (i,[])) fb) e ds:=qo3 a (qas9 hi b c q)
theorem qe1(b:f ds=some y)(hi:y.imm=true)(h:tr ds (λxs ps a=>K (y::xs) (.no::ps) a) xe):tbV (Bo f) tr ds K xe:=qn5 b hi h
theorem qS9(hi:ds[i]?=some (.l false ys))(a:f ds=some d)(b:ys.length<big)(q:Q .non (ds.set i (.l false (ys++[d])))):Fg gApp i (tbV (Bk f) A7) ds Q xe:=by
 have e:(rdN i ds).bind D.own=some ys:=by rw[qc4 hi rfl];rfl
 refine⟨by rw[e];rfl,qe0 a ?_⟩;exact qa2 e (qa2 (if_pos b) q)
theorem qaR9(hi:ds[i]?=some (.l false ys))(a:ds[j]?=some d)(b:d.known=true)(c:i≠j)(f:ys.length<big)(q:Q .non ((ds.set j .u).set i (.l false (ys++[d])))):Fg gApp i (tbN j A7) ds Q xe:=by
 have e:(rdN i ds).bind D.own=some ys:=by rw[qc4 hi rfl];rfl
 have e2:(rdN i (ds.set j .u)).bind D.own=some ys:=by rw[qc4 (by rw[zB6 (Ne.symm c)];exact hi) rfl];rfl
 refine⟨by rw[e];rfl,qc3 (qc4 a b) ?_⟩;exact qa2 (qc4 a b) (qa2 e2 (qa2 (if_pos f) q))
theorem qaM7{p:List Nat}(h1:pf ds=some (i,p))(h2:(Bb ds i p).bind D.own=some ys)(a:ds[i]?=some d0)(h:tr (ds.set i .u) (λxs _ ds1=>orF (g ys xs) λz=>Q z.2 (By (ds1.set i d0) i p (.l false z.1))) xe):Gk g pf tr ds Q xe:=by unfold Gk;rw[h1];show orF ((Bb ds i p).bind D.own) _;rw[h2];rw[a];exact h
theorem qbc2{f:Int->Int->Int}{a:FV}{x y:Int}(hi:ds[i]?=some (.l false ys))(b:fb ds=some (.int k))(c:0<=k)(d:ys[k.toNat]?=some (.int x))(g:a ds=some (.int y))(q:e.nx (ds.set i (.l false (ys.set k.toNat (.int (f x y)))))):sAugV f (λ_=>some (i,[])) fb a e ds:=by refine qa2 rfl ?_;refine qa2 (by show (Bb ds i []).bind D.own=_;rw[qs6 hi];rfl) ?_;refine qa2 (by rw[b];rfl) ⟨c,?_⟩;refine qa2 (by rw[d];rfl) ?_;refine qa2 (by rw[g];rfl) ?_;rw[qv4 hi];exact q
theorem Iw(b:Bool)(h:fa ds=some (.bl b))(h1:b=true->tb ds Q xe)(h2:b=false->Q (.bl false) ds):Ii (Bk fa) tb ds Q xe:=qo3 (xe:=xe) (Q:=λx ds=>orF x.asB λk=>if k=true then tb ds Q xe else Q (.bl false) ds) h (ite_b h1 h2)
theorem qu2{K:Ds->Prop}(h:K (ds.set i d)):gNm i d ds K:=h
theorem qc0(h:K [] [] ds):A7 ds K xe:=h
theorem qm7(h:te ds (λ_ a=>e.nx a) e.xe):Kc te e ds:=h
theorem ql7{K:Ds->Prop}(h:K ((ds.set i x).set j y)):Gj 2 (qp4 (gNm i) (qp4 (gNm j) Gi)) (.q [x,y]) ds K:=⟨rfl,h⟩
theorem qT1{Q:Bool->Ds->Prop}(h:Q true ds):qYes ds Q xe:=h
theorem qad3:O5 S++[.int k]=O5 (S++[k]):=by unfold O5;rw[zBc];rfl
theorem qe2(h:ta ds (λx ds1=>tr ds1 (λxs ps a=>K (x::xs) (.no::ps) a) xe) xe):tbV ta tr ds K xe:=h
theorem qap1(a:fa ds=some x)(b:fb ds=some y)(c:x.imm=true)(d:y.imm=true):Ay gTup (Am fa (Am fb λ_=>some [])) ds=some (.q [x,y]):=by unfold Ay Am;rw[a,b];refine qg4 ⟨?_,by show 2<=1000000;decide⟩;show (x.imm&&(y.imm&&true))=true;rw[c,d];rfl
theorem qan6:F9 ys none (some (r:Int))=ys.take r:=by unfold F9;rw[(HT.qap8 _ _ r),HT.qZ4,Mt,Nat.sub_zero];grind
theorem qba9(h:y∈enD ys):∃i v,y=.q [.int (i:Nat),v]/\ys[i]?=some v:=by obtain⟨⟨v,i⟩,a,rfl⟩:=zB4.mp h;exact⟨i,v,rfl,List.mem_zipIdx_iff_getElem?.mp a⟩
theorem qaI1{g:Nat->Option Int}(h:d∈O6 N g):d=.non∨∃k,d=.int k:=by unfold O6 at h;obtain⟨i,_,rfl⟩:=zB4.mp h;cases g i with|none=>exact .inl rfl|some k=>exact .inr ⟨k,rfl⟩
theorem qaI6{Q:Bool->Ds->Prop}(h:ta ds (λx ds1=>orF ((fb ds1).bind (g x)) λd=>orF d.asB λb=>Q b ds1) xe):ttE (t2v g ta fb) ds Q xe:=h
theorem qk6(h:tr ds (λxs ps ds1=>s (xs++[]) (λd ys=>orF (Av ps ys ds1) λa=>Q d a) (λx ys=>orF (Av ps ys ds1) λa=>xe x a)) xe):qj3 s [] tr ds Q xe:=h
theorem eq_rl:∀(l:Ds),(∀d∈l,d=.non∨∃k,d=.int k)->Ei (eqN 20) l l=some true
 |[],_=>rfl|d::l,h=>by
  have c:eqN 20 d d=some true:=by rcases h d zA9 with rfl|⟨k,rfl⟩;{rfl};show some (k==k)=_;rw[zBb]
  show ((eqN 20 d d).bind λa=>(Ei (eqN 20) l l).bind λb=>some (a&&b))=_;rw[c,eq_rl l λx e=>h x (zA4 _ e)];rfl
theorem qba6{z:Bool}{g:Nat->Option Int}(h:∀i,i<N->g i=g' i):gEq (.l z (O6 N g)) (.l z' (O6 N g'))=some (.bl true):=by rw[qO8 h];show (Ei (eqN 20) (O6 N g') (O6 N g')).map D.bl=_;rw[eq_rl _ λ_=>qaI1];rfl
theorem t2_of(b:fa ds=some x)(hi:x.imm=true)(h:tb ds (λy a=>orF (g x y) λd=>Q d a) xe):t2 g (Bo fa) tb ds Q xe:=qn5 b hi h
theorem qT4(b:fa ds=some x)(h:tb ds (λy a=>orF (g x y) λd=>Q d a) xe):t2 g (Bk fa) tb ds Q xe:=qo3 b h
theorem qn9(h:ta ds (λx ds1=>orF ((fb ds1).bind (g x)) λd=>Q d ds1) xe):t2v g ta fb ds Q xe:=h
theorem qX5(h:ta ds (λx ds1=>orF (fb ds1) λy=>y.imm=true/\orF (g x y) λd=>Q d ds1) xe):Jw g ta fb ds Q xe:=h
theorem qF1(h:tr ds (λxs _ ds1=>xs.length<=big/\Q (.l false xs) ds1) xe):tLstV tr ds Q xe:=h
theorem qc6(h:te ds (λd a=>e.nx (a.set i d)) e.xe):Em te (gNm i) e ds:=h
theorem qag6(h:ta ds (λx ds1=>orF x.asB λk=>if k=true then tb ds1 Q xe else Q (.bl false) ds1) xe):Ii ta tb ds Q xe:=h
theorem qac5(h:tr ds (λxs ps ds1=>s (.ins false C []::(xs++[])) (λd ys=>d.isN=some true/\orF ys.head? λself=>orF (Av ps ys.tail ds1) λa=>Q self a) (λx ys=>orF (Av ps ys.tail ds1) λa=>xe x a)) xe):qT3 C s [] tr ds Q xe:=h
theorem qaN1{z:Bool}(h:rdN i ds=some (.l z (O5 S)):=by rfl):Ay (fx1 Fr) (Am (rdN i) λ_=>some []) ds=some (.l false (O5 S)):=by unfold Ay Am;rw[h];exact qg4 (qp3 S)
noncomputable def psD(n:Nat)(p:Nat->Nat):Ds:=(Mc n).map λi=>.int ((p i:Nat):Int)
theorem qaV3(n:Nat)(p:Nat->Nat):psD n p=O5 ((Mc n).map λi=>((p i:Nat):Int)):=by unfold psD O5;rw[zC7];rfl
theorem qaA1(n:Nat)(p:Nat->Nat):(psD n p).length=n:=by simp[psD]
theorem qal8{n:Nat}{p:Nat->Nat}(h:i<n):(psD n p)[i]?=some (.int ((p i:Nat):Int)):=by unfold psD;rw[zAt,zBt h];rfl
theorem ix_ps{z:Bool}{p:Nat->Nat}(h:r<N):gIx (.l z (psD N p)) (.int (r:Int))=some (.int ((p r:Nat):Int)):=qS8 (qal8 h)
theorem qax1{p q:Nat->Nat}(h:∀i,i<N->p i=q i):psD N p=psD N q:=by unfold psD;apply Ms;intro i a;rw[h i (zB7.mp a)]
theorem qaT9{p:Nat->Nat}:(psD N p).set r (.int (((p r:Nat):Int)+1))=psD N (λi=>if i=r then p i+1 else p i):=by apply List.ext_getElem?;intro j;by_cases a:j<N;{rw[qal8 a];by_cases e:r=j;{subst e;rw[zBk (by rw[qaA1];exact a),if_pos rfl];grind};rw[zB6 e,qal8 a,if_neg (Ne.symm e)]};rw[zB2 (by rw[zC3,qaA1];lia),zB2 (by rw[qaA1];lia)]
theorem qaE9(N:Nat):(Ma N [D.int 0]).flatten=psD N (λ_=>0):=by unfold psD;induction N with|zero=>rfl|succ N a=>rw[List.replicate_succ',M',a,Mq,zBc];rfl
theorem mul_zero{n:Int}(a:0<=n)(h1:n<=64):F7 (.l false [.int 0]) (.int n)=some (.l false (psD n.toNat λ_=>0)):=by rw[<-qaE9];exact qg4 ⟨rfl,by show 1*n.toNat<=1000000;lia,⋯,⋯⟩
theorem eq_ks:∀ks c:List Int,Ei (eqN 20) (O5 ks) (O5 c)=some (decide (ks=c))|[],[]=>rfl|[],_::_=>rfl|_::_,[]=>rfl|k::ks,l::c=>by show ((some (k==l)).bind λa=>(Ei (eqN 20) (O5 ks) (O5 c)).bind λb=>some (a&&b))=_;rw[eq_ks ks c];show some ((k==l)&&decide (ks=c))=_;by_cases h:k=l;{subst h;simp};simp[h]
theorem qaP4{z:Bool}(ks a:List Int):gNe (.l z (O5 ks)) (.l z' (O5 a))=some (.bl (!decide (ks=a))):=by show (Ei (eqN 20) (O5 ks) (O5 a)).map (λb=>D.bl (!b))=_;rw[eq_ks];rfl
theorem qh5{K:Ds->List Pl->Ds->Prop}(b:f ds=some y)(h:tr ds (λxs ps a=>K (y.fz::xs) (.no::ps) a) xe):tbV (tFzV (Bk f)) tr ds K xe:=qa2 b h
theorem qaG7{K:Ds->List Pl->Ds->Prop}(b:f ds=some y)(hi:y.imm=true)(h:tr ds (λxs ps a=>K (y.fz::xs) (.no::ps) a) xe):tbV (tFzV (Bo f)) tr ds K xe:=qn5 (xe:=xe) b hi h
theorem Gq(h:te ds (λd ds1=>Q d.fz ds1) xe):tFzV te ds Q xe:=h
def okN:Nat->D->Bool|n+1,.l _ xs=>xs.all (okN n)|n+1,.q xs=>xs.all (okN n)|_,x=>x.flat.isSome
theorem qC8{f:D->D->Option Bool}:∀{xs:List D},(∀x∈xs,f x x=some true)->Ei f xs xs=some true|[],_=>rfl|x::xs,h=>by show ((f x x).bind λa=>(Ei f xs xs).bind λb=>some (a&&b))=_;rw[h x zA9,qC8 λy c=>h y (zA4 _ c)];rfl
theorem qM6(h:x.flat.isSome=true):eqZ x x=some true:=by cases x with|non=>rfl|bl b=>show some (eqV (.bl b) (.bl b))=_;rw[qx8 rfl]|int i=>show some (eqV (.int i) (.int i))=_;rw[qx8 rfl]|str i=>show some (eqV (.str i) (.str i))=_;rw[qx8 rfl]|_=>cases h
theorem qaf1:∀{n:Nat}{x:D},okN n x=true->eqN n x x=some true|0,x,h=>by rw[qM7];refine qM6 ?_;cases x<;>exact h|n+1,x,h=>by cases x with|l z b=>exact qC8 λy a=>qaf1 (zBl.mp h y a)|q b=>exact qC8 λy a=>qaf1 (zBl.mp h y a)|_=>exact qM6 h
theorem qaB5(h:x.flat.isSome=true):gNe x x=some (.bl false):=by
 have e:eqT x x=some true:=by cases x with|l z a=>cases h|_=>exact qM6 h
 unfold gNe;rw[e];rfl
theorem qaN8(h:(O5 ks)[i]?=some y):∃z,ks[i]?=some z/\y=.int z:=by unfold O5 at h;rw[zAt] at h;cases e:ks[i]? with|none=>rw[e] at h;cases h|some z=>rw[e] at h;exact⟨z,rfl,(N8 h).symm⟩
theorem qX1(h:ks[i]?=some k):ks.take (i+1)=ks.take i++[k]:=by rw[zBu,h];rfl
theorem qG2:∀ps:Pr,D.fzs (O7 ps)=O7 ps|[]=>rfl|p::r=>congrArg (D.q [.int p.1,.int p.2]::·) (qG2 r)
theorem qaP8:∀ps:Pr,D.fzk (kvD ps)=kvD ps|[]=>rfl|p::r=>congrArg ((Sum.inl p.1,D.int p.2)::·) (qaP8 r)
theorem qae7:(Ag z C n wr ps).fz=Ag true C n wr ps:=by show D.ins true C [("rooms",.int n),("wraps",.bl wr),("homes",.l true (D.fzs (O7 ps))),("home_numbers",.dct true (D.fzk (kvD ps)))]=_;rw[qG2,qaP8];rfl
theorem qaS2(h:A.length+B.length<=1000):Gw (.l z (O5 A)) (.l z' (O5 B))=some (.l false (O5 (A++B))):=by rw[show O5 (A++B)=O5 A++O5 B from zBc];exact qg4 ⟨qp3 A,qp3 B,by rw[qm5,qm5];unfold big;lia⟩
theorem Ix(h:tr ds (λxs _ ds1=>orF (gc xs) λd=>Q d ds1) xe):tcO gc (Hr tr) ds Q xe:=h
theorem qat9{g:VTG}{qf:VTT}{te:VT}{K:Ds->Ds->Prop}(I:Nat->Ds->Ds->Prop):∀(xs:Ds)(i:Nat)(acc l:Ds),I i acc l->(∀(j:Nat)(x:D),xs[j]?=some x->∀acc l,I (i+j) acc l->∀R:Ds->Ds->Prop,(∀acc' l',I (i+j+1) acc' l'->R acc' l')->g x l λι1=>qf ι1 (λb ι2=>if b=true then te ι2 (λd ι3=>acc.length<big/\R (acc++[d]) ι3) (λ_ _=>False) else R acc ι2) (λ_ _=>False))->(∀acc l,I (i+xs.length) acc l->K acc l)->Fa g qf te K xs acc l|[],_,acc,l,h,_,hn=>hn acc l h|x::xs,i,acc,l,h,hs,hn=>hs 0 x rfl acc l h _ λacc' l' c=>qat9 I xs (i+1) acc' l' c (λj y e acc2 ι2 a R f=>hs (j+1) y e acc2 ι2 (by rw[show i+(j+1)=i+1+j by lia];exact a) R λacc3 ι3 k=>f acc3 ι3 (by rw[show i+1+j+1=i+(j+1)+1 by lia];exact k)) λacc2 ι2 a=>hn acc2 ι2 (by rw[zAj,show i+(xs.length+1)=i+1+xs.length by lia];exact a)
theorem qp1{C:γ}(h:x.isC C=some d):x.known=true:=by cases x with|u=>cases h|hole v=>cases h|_=>rfl
theorem qaI2{C:γ}{fl:Str}{n:Int}(h:f ds=some (.bl false))(q:e.xe ⟨C,[(fl,.int n)]⟩ ds):Gd (sIf (Eu (ttV f)) (qO6 C fl (Bk (kC (.int n)))) G0) u e ds:=qn8 (Q:=λk a=>if k=true then qO6 C fl (Bk (kC (.int n))) {e with nx:=u e} a else u e a) (xe:=e.xe) h ⟨rfl,q⟩
theorem qaa0{t:VT}{C:γ}{fl:Str}{n:Int}(h:∀(Q:DK)(xe:XKd),Q (.bl false) ds->t ds Q xe)(q:e.xe ⟨C,[(fl,.int n)]⟩ ds):sIf (Eu (ttE t)) (qO6 C fl (Bk (kC (.int n)))) G0 e ds:=h _ _ ⟨rfl,q⟩
theorem qN5{l n:Int}(h1:l<=n)(h2:n<=m):(D.int n).within l m=true:=by show (decide (l<=n)&&decide (n<=m))=true;rw[zAo h1,zAo h2];rfl
theorem qaC3(h:te ds (λ_ a=>u e a) e.xe):Gd (Kc te) u e ds:=h
theorem numD(h:(D.int k).num=true):An k:=by have h:(decide (0<=k)&&decide (k<=1000000000000000000))=true:=h;rw[zB0,zBo,zBo] at h;exact h
theorem qac8{C:γ}{m:Str}(a:rdN i ds=some p)(hm:p.isM C m=true)(r:R [p] d)(b:Av [.sl i] [p] (ds.set i .u)=some ds)(q:Q d ds):qy6 C m (A5 R) [] i A7 ds Q xe:=qV6 a hm (qc0 (qa2 a (qf5 r (qa2 b q))))
theorem qy5(h:tr ds (λxs _ ds1=>xs.length<=big/\Q (.q xs) ds1) xe):tTupV tr ds Q xe:=h
theorem qav3(h:ta ds (λx ds1=>tb ds1 (λy a=>orF (g x y) λd=>Q d a) xe) xe):t2 g ta tb ds Q xe:=h
theorem qaG5(h:rdN i ds=some d)(q:Q d.fz (ds.set i d.fz)):tFz i ds Q xe:=qa2 h q
def Ad(n:Int)(wr:Bool)(ps:Pr):D:=.q [.int n,.bl wr,.l true (O7 ps)]
local macro_rules | `(tactic| walk_at "s")=>`(tactic| exact⟨rfl,rfl,rfl,by decide +kernel,rfl,by decide +kernel,by decide +kernel⟩)
local macro_rules | `(tactic| walk_at "m")=>`(tactic| (intro _ _ _ _ _ k l;repeat' first|exact id|exact k _ _|exact l _ _|refine Exists.imp λ_=>?_|refine And.imp ?_ ?_|refine O2 ?_ ?_|refine forall_imp λ_=>?_))
local macro_rules | `(tactic| walk_at "l")=>`(tactic| (intro _ _ _ h;(repeat (first|refine Exists.elim h λ_ h=>?_|refine And.elim (λh _=>?_) h));rw[h];exact⟨rfl,rfl⟩))
theorem lt2:2<=big:=by show 2<=1000000;decide
noncomputable def top(i:Nat):Ls:=PySem.Challenge.pw_homeward_k41_looks.main.body.getD i (.Pass ⟨0,0,0,0⟩)
abbrev qap7:Ls:=top 0
abbrev qn3:Ls:=qk4 (top 3) 0
abbrev qv9:Ls:=top 12
abbrev qg2:Ls:=top 13
abbrev qr4:Ls:=top 14
abbrev qn2:Ls:=top 15
abbrev qh2:Ls:=top 16
abbrev qj8:Ls:=top 17
abbrev qr7:Ls:=qk4 (top 18) 0
abbrev qj9:Ls:=qk4 (top 18) 2
abbrev qi4:Ls:=qk4 (top 18) 3
abbrev qr8:Ls:=qk4 (top 18) 4
abbrev qw3:Ls:=qk4 (top 18) 5
abbrev qg3:Ls:=qk4 (top 18) 6
abbrev qn1:Ls:=top 20
abbrev qd9:Ls:=top 21
abbrev qv7:Ls:=top 22
abbrev qr3:Ls:=top 23
abbrev qw0:Ls:=top 24
abbrev qw2:Ls:=qk4 (top 26) 0
abbrev qh3:Ls:=qk4 (top 26) 1
abbrev qi3:Ls:=qk4 (top 26) 2
abbrev qw1:Ls:=qk4 (top 26) 3
abbrev qr6:Ls:=qk4 (top 26) 8
abbrev qc5:Ls:=top 27
abbrev qJ6:Ls:=top 29
abbrev qr5:Ls:=top 30
abbrev qv8:Ls:=top 31
abbrev qaw5:Ls:=top 33
abbrev qY9:Ls:=top 34
abbrev qZ2:Ls:=top 35
abbrev qaw4:Ls:=top 36
abbrev qK4:Ls:=top 37
abbrev qB6:Ls:=top 38
abbrev qZ3:Ls:=top 39
abbrev qB8:Ls:=top 40
abbrev qw5:Ls:=top 41
abbrev qK1:Ls:=top 42
abbrev qK0:Ls:=top 43
abbrev qJ9:Ls:=top 44
abbrev qZ0:Ls:=top 45
abbrev qJ8:Ls:=top 46
abbrev qK3:Ls:=top 47
abbrev qZ1:Ls:=top 48
abbrev qK2:Ls:=top 49
abbrev qw4:Ls:=top 50
abbrev qJ7:Ls:=top 51
abbrev qB7:Ls:=top 52
abbrev Hi:Ls:=top 53
set_option genInjectivity false in
set_option genSizeOf false in
structure Adr where
 f0:γ
 d0:δ
 f1:γ
 d1:δ
 f2:γ
 d2:δ
 f3:γ
 d3:δ
 f4:γ
 d4:δ
 f5:γ
 d5:δ
 f6:γ
 d6:δ
 f7:γ
 d7:δ
 f8:γ
 d8:δ
 f9:γ
 d9:δ
 f10:γ
 d10:δ
 f11:γ
 d11:δ
 f12:γ
 d12:δ
 f13:γ
 d13:δ
 f14:γ
 d14:δ
 f15:γ
 d15:δ
 f16:γ
 d16:δ
 f17:γ
 d17:δ
 f18:γ
 d18:δ
 f19:γ
 d19:δ
 f20:γ
 d20:δ
 f21:γ
 d21:δ
 f22:γ
 d22:δ
 f23:γ
 d23:δ
 f24:γ
 d24:δ
 f25:γ
 d25:δ
 f26:γ
 d26:δ
 f27:γ
 d27:δ
 f28:γ
 d28:δ
 f29:γ
 d29:δ
 f30:γ
 d30:δ
 f31:γ
 d31:δ
 f32:γ
 d32:δ
 f33:γ
 d33:δ
 f34:γ
 d34:δ
 f35:γ
 d35:δ
 f36:γ
 d36:δ
 f37:γ
 d37:δ
 f38:γ
 d38:δ
 f39:γ
 d39:δ
 f40:γ
 d40:δ
 f41:γ
 d41:δ
 f42:γ
 d42:δ
 f43:γ
 d43:δ
 f44:γ
 d44:δ
 f45:γ
 d45:δ
 f46:γ
 d46:δ
 f47:γ
 d47:δ
 f48:γ
 d48:δ
 Ci:Tok
 Ck:Tok
 Cp:Tok
 C8:γ
 Ca:γ
 Cu:γ
 Cc:γ
 Cv:γ
 D1:γ
 Cr:γ
 Cw:γ
structure Txt(K:Oa)(mg:Str->Option V')(a:Adr):Prop where
 d0:Df K mg "_wall" "_wall" qap7 a.f0 a.d0 ["k"]
 d1:Md K a.Cc "__init__" "Wrong.__init__" qn3 a.f1 a.d1 ["self", "at"]
 d2:Df K mg "is_whole" "is_whole" qv9 a.f2 a.d2 ["thing"]
 d3:Df K mg "is_whole_within" "is_whole_within" qg2 a.f3 a.d3 ["thing", "least", "most"]
 d4:Df K mg "is_number" "is_number" qr4 a.f4 a.d4 ["thing"]
 d5:Df K mg "are_parted" "are_parted" qn2 a.f5 a.d5 ["numbers"]
 d6:Df K mg "is_number_pair" "is_number_pair" qh2 a.f6 a.d6 ["thing"]
 d7:Df K mg "is_home_list" "is_home_list" qj8 a.f7 a.d7 ["thing"]
 d8:Md K a.C8 "__init__" "Plan.__init__" qr7 a.f8 a.d8 ["self", "rooms", "wraps", "homes"]
 d9:Md K a.C8 "is_room" "Plan.is_room" qj9 a.f9 a.d9 ["self", "thing"]
 d10:Md K a.C8 "rooms_on" "Plan.rooms_on" qi4 a.f10 a.d10 ["self", "first", "many"]
 d11:Md K a.C8 "home" "Plan.home" qr8 a.f11 a.d11 ["self", "key"]
 d12:Md K a.C8 "far" "Plan.far" qw3 a.f12 a.d12 ["self", "key", "room"]
 d13:Md K a.C8 "goes_ahead" "Plan.goes_ahead" qg3 a.f13 a.d13 ["self", "room", "one", "other"]
 d14:Df K mg "room_ahead" "room_ahead" qn1 a.f14 a.d14 ["plan", "room"]
 d15:Df K mg "word_by_room_ahead" "word_by_room_ahead" qd9 a.f15 a.d15 ["plan", "rooms", "room"]
 d16:Df K mg "word_due" "word_due" qv7 a.f16 a.d16 ["plan", "rooms", "room"]
 d17:Df K mg "is_turned" "is_turned" qr3 a.f17 a.d17 ["plan", "rooms"]
 d18:Df K mg "fault_of" "fault_of" qw0 a.f18 a.d18 ["plan", "rooms"]
 d19:MdN K a.Ca "__init__" "Row.__init__" qw2 a.f19 a.d19 ["self", "plan", "rooms"]
 d20:Md K a.Ca "rooms_held" "Row.rooms_held" qh3 a.f20 a.d20 ["self"]
 d21:Md K a.Ca "keys_held" "Row.keys_held" qi3 a.f21 a.d21 ["self"]
 d22:Md K a.Ca "many" "Row.many" qw1 a.f22 a.d22 ["self"]
 d23:Md K a.Ca "deeds" "Row.deeds" qr6 a.f23 a.d23 ["self"]
 d24:Df K mg "refuse_wrong_row_or_key" "refuse_wrong_row_or_key" qc5 a.f24 a.d24 ["row", "key"]
 d25:Df K mg "way_of" "way_of" qJ6 a.f25 a.d25 ["plan", "key"]
 d26:Df K mg "gives_way" "gives_way" qr5 a.f26 a.d26 ["plan", "key", "room", "held"]
 d27:Df K mg "look_for" "look_for" qv8 a.f27 a.d27 ["row", "key"]
 d28:Df K mg "_law_bag" "_law_bag" qaw5 a.f28 a.d28 ["_law_script"]
 d29:Df K mg "_law_take" "_law_take" qY9 a.f29 a.d29 ["_law_bag_here", "_law_many"]
 d30:Df K mg "_law_home" "_law_home" qZ2 a.f30 a.d30 ["_law_shape", "_law_key"]
 d31:Df K mg "_law_far" "_law_far" qaw4 a.f31 a.d31 ["_law_shape", "_law_key", "_law_room"]
 d32:Df K mg "_law_ahead" "_law_ahead" qK4 a.f32 a.d32 ["_law_shape", "_law_room", "_law_one", "_law_other"]
 d33:Df K mg "_law_passes" "_law_passes" qB6 a.f33 a.d33 ["_law_shape", "_law_keys"]
 d34:Df K mg "_law_fits" "_law_fits" qZ3 a.f34 a.d34 ["_law_shape", "_law_keys"]
 d35:Df K mg "_law_housed" "_law_housed" qB8 a.f35 a.d35 ["_law_shape", "_law_keys"]
 d36:Df K mg "_law_fitting" "_law_fitting" qw5 a.f36 a.d36 ["_law_shape", "_law_keys"]
 d37:Df K mg "_law_drawn" "_law_drawn" qK1 a.f37 a.d37 ["_law_bag_here", "_law_rooms", "_law_many"]
 d38:Df K mg "_law_homes" "_law_homes" qK0 a.f38 a.d38 ["_law_bag_here", "_law_rooms", "_law_keys"]
 d39:Df K mg "_law_scene" "_law_scene" qJ9 a.f39 a.d39 ["_law_bag_here"]
 d40:Df K mg "_law_plan" "_law_plan" qZ0 a.f40 a.d40 ["_law_shape"]
 d41:Df K mg "_law_whole" "_law_whole" qJ8 a.f41 a.d41 ["_law_found"]
 d42:Df K mg "_law_alike" "_law_alike" qK3 a.f42 a.d42 ["_law_found", "_law_due"]
 d43:Df K mg "_law_look" "_law_look" qZ1 a.f43 a.d43 ["_law_shape", "_law_held", "_law_key"]
 d44:Df K mg "_law_asked" "_law_asked" qK2 a.f44 a.d44 ["_law_bag_here", "_law_shape", "_law_keys"]
 d45:Df K mg "_law_refused" "_law_refused" qw4 a.f45 a.d45 ["_law_row", "_law_key"]
 d46:Df K mg "_law_wrong" "_law_wrong" qJ7 a.f46 a.d46 ["_law_bag_here", "_law_row", "_law_held"]
 d47:Df K mg "_law_others" "_law_others" qB7 a.f47 a.d47 ["_law_bag_here", "_law_shape", "_law_held", "_law_keys", "_law_asked_here"]
 d48:Df K mg "law" "law" Hi a.f48 a.d48 ["_law_script"]
 Db:mg "MOST_NUMBER"=some (.int 1000000000000000000 a.Ci)
 Dj:mg "MOST_ROOMS"=some (.int 64 a.Ck)
 Dg:mg "MOST_HOMES"=some (.int 64 a.Cp)
 Dh:mg "ValueError"=none
 E5:mg "abs"=none
 Dq:mg "all"=none
 D6:mg "bool"=none
 E3:mg "dict"=none
 Dl:mg "enumerate"=none
 De:mg "int"=none
 C9:mg "isinstance"=none
 Cq:mg "len"=none
 Ch:mg "list"=none
 Dy:mg "max"=none
 Cs:mg "range"=none
 E4:mg "set"=none
 Dn:mg "sorted"=none
 Dx:mg "str"=none
 D4:mg "tuple"=none
 Dz:mg "zip"=none
 Cb:Cl K mg "Plan" a.C8
 Dw:Mk K a.C8 a.f8
 Cd:qd7 K a.C8 "rooms"
 Co:qd7 K a.C8 "wraps"
 Di:qd7 K a.C8 "homes"
 Cj:qd7 K a.C8 "home_numbers"
 Du:IsO K a.C8
 Cf:Cl K mg "Row" a.Ca
 Dt:Mk K a.Ca a.f19
 Cy:qd7 K a.Ca "plan"
 Ct:qd7 K a.Ca "held"
 D8:qd7 K a.Ca "done"
 E2:IsO K a.Ca
 Dk:mg "HomeError"=some (.ref a.Cu)
 Cg:mg "Wrong"=some (.ref a.Cc)
 D7:Exc K a.Cc
 Do:Ob K (.ref a.Cc) (.type "ValueError")=some true
 Ce:MkE K a.Cc a.f1
 D5:qd7 K a.Cc "at"
 Da:IsX K a.Cc
 Cz:Ob K (.ref a.Cc) (.ref a.Cu)=some true
 D3:Ob K (.ref a.Cc) (.ref a.Cv)=some false
 D9:Ob K (.ref a.Cc) (.ref a.D1)=some false
 D0:Ob K (.ref a.Cc) (.ref a.Cr)=some false
 D2:Ob K (.ref a.Cc) (.ref a.Cw)=some false
 Dc:W.mroIn K a.Cc (.ref a.Cc)=some true
 Dp:mg "NoRoom"=some (.ref a.Cv)
 Dv:mg "There"=some (.ref a.D1)
 Dm:mg "NotThere"=some (.ref a.Cr)
 Dr:mg "Unkept"=some (.ref a.Cw)
section
variable{P:Ln}{w:Lq}{K:Oa}{mg:Str->Option V'}{base:Heap}{a:Adr}
theorem qD7:qa8 ["self", "at"] ["self", "at"] (qa3 qn3):=by walk_at "s"
theorem qb2(T:Txt K mg a):Fi P w K mg base CX0 1 a.f1 a.d1 ["self", "at"] (spX1 a.Cc "at"):=by refine T.d1.F.ok qD7 (λb H Q E h=>?_) (λc A outer s H b Q E j h=>?_);{obtain⟨e,v,rfl,_⟩:=h;rfl};obtain⟨e,v,rfl,d,k⟩:=h;exact⟨_,(qaa1 (qaJ4 (pv 0) (pv 1))),_,rfl,_,rfl,e,a.Cc,rfl,T.D7,T.D5,.inl ⟨d,λf g i=>k f g i⟩⟩
theorem qU4:qa8 ["thing"] ["thing"] (qa3 qv9):=by walk_at "s"
def qT7:VSp:=B7 (fx1 λx=>x.kind.map λ_=>.bl x.whole)
theorem qU9(T:Txt K mg a):VFn P w K mg base 1 a.f2 a.d2 ["thing"] qT7:=by refine VFn.mk' T.d2.F qU4 (wOf [true]) qu4 (λ_ _ _=>qad0) (λ_ _ _=>imm1) (λ_ _ _ _ _ _ _ c=>⟨_,(Aj (As (qa4 (Jd (vbi qd4 ql8.ops T.C9 (qa0 (vnm 0) (qa0 (vty "int" T.De) qa6 rfl) rfl)) (Hc (J1 (vbi qd4 ql8.ops T.C9 (qa0 (vnm 0) (qa0 (vty "bool" T.D6) qa6 rfl) rfl)))))))),λf Q g h=>?_⟩);obtain⟨x,d,rfl,e,q⟩:=Km h;obtain⟨t,b,rfl⟩:=zA8.mp e;cases x<;>first|exact q|cases b
theorem qq8:qa8 ["thing", "least", "most"] ["thing", "least", "most"] (qa3 qg2):=by walk_at "s"
def qq4:VSp:=B7 (fx3 λx l m=>x.kind.bind λ_=>l.asI.bind λi=>m.asI.map λj=>.bl (x.within i j))
theorem qf4(T:Txt K mg a):VFn P w K mg base 2 a.f3 a.d3 ["thing", "least", "most"] qq4:=by
 refine VFn.mk' T.d3.F qq8 (wOf [true,true,true]) qu4 (λ_ _ _=>qaN7) (λ_ _ _=>imm3) (λ_ _ _ _ _ _ _ b=>⟨_,(Aj (As (Fl (Ak T.d2 (qU9 T) qa1 (rm b) (vaN 0 Ac)) (Ga (qa4 (vch Jk Jx Jk Jx (vnm 1) (vnm 0) (vnm 2))))))),λo Q p h=>?_⟩);obtain⟨x,l,m,d,rfl,e,q⟩:=pure3 h;obtain⟨t,c,e⟩:=zA1.mp e;obtain⟨i,f,e⟩:=zA1.mp e;obtain⟨j,g,rfl⟩:=zA8.mp e;cases l<;>cases f;cases m<;>cases g;cases x with
 |int n=>
  refine⟨rfl,?_⟩;show orF (f3 gLe gLe (rdN 1) (rdN 0) (rdN 2) [.int n,.int i,.int j]) _;have k:f3 gLe gLe (rdN 1) (rdN 0) (rdN 2) [.int n,.int i,.int j]=some (.bl (decide (i<=n)&&decide (n<=j))):=by show (if decide (i<=n)=true then some (D.bl (decide (n<=j))) else some (.bl false))=_;cases decide (i<=n)<;>rfl
  rw[k];exact q
 |_=>first|exact⟨rfl,q⟩|cases c
theorem qD6:qa8 ["numbers"] ["numbers"] (qa3 qn2):=by walk_at "s"
def qD3:VSp:=A5 λds d=>∃z ks,ds=[.l z (O5 ks)]/\ks.length<=1000/\d=.bl (decide ks.Nodup)
theorem qE3(T:Txt K mg a):VFn P w K mg base 1 a.f5 a.d5 ["numbers"] qD3:=by
 refine VFn.mk2 T.d5.F qD6 (wOf [true]) qb0 (by walk_at "l") (λ_ _ _ _ _ _ _ e=>⟨_,(Aj (As (qa4 (v2 (A6 (qe3 e.u64) (qa9 _)) A9 (vlenS T.Cq T.E4 (vnm 0)) (vbi qp6 qp5.ops T.Cq (qa0 (vnm 0) qa6 rfl)))))),λi Q j h=>?_⟩);obtain⟨d,⟨z,b,rfl,f,rfl⟩,q⟩:=h;have g:f1 Iq (rdN 0) [.l z (O5 b)]=some (.int (qn6 b)):=by show ((intsD (O5 b)).bind λc=>gd (c.length<=1000) (.int (qn6 c)))=_;rw[qas5];exact qg4 f
 have e2:f2 gEq (f1 Iq (rdN 0)) (Ay (fx1 Hb) (Am (rdN 0) λx=>some [])) [.l z (O5 b)]=some (.bl (decide b.Nodup)):=by show ((f1 Iq (rdN 0) [.l z (O5 b)]).bind λx=>gEq x (.int (O5 b).length))=_;rw[g,qm5];show some (D.bl ((qn6 b:Int)==(b.length:Int)))=_;have:=qM8 b;by_cases h:b.Nodup;{rw[zAo h,this.mpr h,zBb]};rw[zBg h,beq_false_of_ne (λz=>h (this.mp (by exact_mod_cast z)))]
 exact qa2 e2 q
theorem qJ1:qa8 ["thing"] ["thing"] (qa3 qr4):=by walk_at "s"
def qn0:VSp:=B7 (fx1 λx=>x.kind.map λ_=>.bl x.num)
theorem qc7(T:Txt K mg a):VFn P w K mg base 3 a.f4 a.d4 ["thing"] qn0:=by refine VFn.mk' T.d4.F qJ1 (wOf [true]) qu4 (λ_ _ _=>qad0) (λ_ _ _=>imm1) (λ_ _ _ _ _ _ _ b=>⟨_,(Aj (As (Ak T.d3 (qf4 T) qa1 (rm b) (vaN 0 (vaV (qa4 Ae) (vaV (qa4 (vgi T.Db)) Ac)))))),λf Q g h=>?_⟩);obtain⟨x,d,rfl,e,q⟩:=Km h;obtain⟨t,c,rfl⟩:=zA8.mp e;cases x<;>first|exact⟨rfl,q⟩|cases c
theorem qt8:qa8 ["thing"] ["thing"] (qa3 qh2):=by walk_at "s"
def _root_.LV.D.pairB:D->Bool|.q [x,y]=>x.num&&y.num|_=>false
def _root_.LV.D.kinded:D->Bool|.q ds=>(ds.all λd=>d.kind.isSome&&d.imm)&&decide (ds.length<=1000)|_=>true
def qt5:VSp:=B7 (fx1 λx=>if x.kinded=true then x.kind.map λ_=>.bl x.pairB else none)
theorem qu1(T:Txt K mg a):VFn P w K mg base 4 a.f6 a.d6 ["thing"] qt5:=by
 refine VFn.mk' T.d6.F qt8 (wOf [true]) qu4 (λ_ _ _=>qad0) (λ_ _ _=>imm1) (λ_ _ _ _ _ _ _ f=>⟨_,(Aj (As (Fl (qa4 (vbi qd4 ql8.ops T.C9 (qa0 (vnm 0) (qa0 (vty "tuple" T.D4) qa6 rfl) rfl))) (Fl (qa4 (v2 (A6 (qe3 f.u64) (qa9 _)) A9 (vbi qp6 qp5.ops T.Cq (qa0 (vnm 0) qa6 rfl)) Ae)) (Fl (Ak T.d4 (qc7 T) qa1 (rm f) (vaV (qb8 (v2 (A4 qb7) Ap (vnm 0) Ae)) Ac)) (Ga (Ak T.d4 (qc7 T) qa1 (rm f) (vaV (qb8 (v2 (A4 qb7) Ap (vnm 0) Ae)) Ac)))))))),λb Q m h=>?_⟩);obtain⟨x,d,rfl,e,q⟩:=Km h;cases x with
 |q b=>
  by_cases c:(D.q b).kinded=true
  .rw[if_pos c] at e;cases e;have c:=zAl.mp c;have i:=zBl.mp c.1;match b with
   |[]=>exact q|[_]=>exact q|[x,y]=>
    have j:=zAl.mp (i x (by simp));have l:=zAl.mp (i y (by simp));obtain⟨t,n⟩:=zB5.mp j.1;obtain⟨u,o⟩:=zB5.mp l.1;refine⟨j.2,?_⟩;refine qa2 (a:=D.bl x.num) (by show (x.kind.map _)=_;rw[n];rfl) ?_;refine ite_b (λg=>⟨l.2,qa2 (a:=D.bl y.num) (by show (y.kind.map _)=_;rw[o];rfl) ?_⟩) λg=>?_
    .have:(D.q [x,y]).pairB=y.num:=by show (x.num&&y.num)=_;rw[g];rfl
     rw[this] at q;exact q
    have:(D.q [x,y]).pairB=false:=by show (x.num&&y.num)=_;rw[g];rfl
    rw[this] at q;exact q
   |x::y::z::r=>
    have e2:f2 gEq (Ay (fx1 Hb) (Am (rdN 0) λx=>some [])) (kC (D.int 2)) [.q (x::y::z::r)]=some (.bl false):=by
     show some (D.bl (((x::y::z::r).length:Int)==2))=_;have:(((x::y::z::r).length:Int)==2)=false:=by
      have:((x::y::z::r).length:Int)≠2:=by simp;lia
      simpa using this
     rw[this]
    have:orF (f2 gEq (Ay (fx1 Hb) (Am (rdN 0) λx=>some [])) (kC (D.int 2)) [.q (x::y::z::r)]) (λd=>orF d.asB λk=>if k=true then Ii (qj3 qn0 [] (tbV (Bo (f2 gIx (rdN 0) (kC (D.int 0)))) A7)) (qj3 qn0 [] (tbV (Bo (f2 gIx (rdN 0) (kC (D.int 1)))) A7)) [.q (x::y::z::r)] (λd b=>Q d (fin (wOf [true]) 0 [.q (x::y::z::r)] b)) (λp b=>m p (fin (wOf [true]) 0 [.q (x::y::z::r)] b)) else Q (.bl false) [.q (x::y::z::r)]):=by rw[e2];exact q
    exact this
  rw[if_neg c] at e;cases e
 |_=>first|(cases e;exact q)|cases e
theorem qy9:qa8 ["thing"] ["thing"] (qa3 qj8):=by walk_at "s"
noncomputable def Hu:D->Option Int|.q (.int k::_)=>some k|_=>none
def _root_.LV.D.homesB:D->Bool|.l _ ys=>decide (ys.length<=64)&&(ys.all D.pairB&&decide (ys.filterMap Hu).Nodup)|_=>false
def _root_.LV.D.lstOk(p:D->Bool):D->Bool|.l _ ys=>D.imms ys&&ys.all p&&decide (ys.length<=1000)|x=>x.kind.isSome
def Kq(y:D):Bool:=y.kind.isSome&&y.kinded
theorem qaM4(h:x.num=true):∃n,x=.int n/\An n:=by cases x with|int n=>have:=zAl.mp h;exact⟨n,rfl,zAn this.1,zAn this.2⟩|_=>cases h
theorem qx0(h:An n):(D.int n).num=true:=by show (decide (0<=n)&&decide (n<=1000000000000000000))=true;rw[zAo h.1,zAo h.2];rfl
theorem qaL4(h:y.pairB=true):∃k m,y=.q [.int k,.int m]/\An k/\An m:=by cases y with|q a=>(match a,h with|[x,y],h=>have h:=zAl.mp h;obtain⟨k,rfl,b⟩:=qaM4 h.1;obtain⟨m,rfl,c⟩:=qaM4 h.2;exact⟨k,m,rfl,b,c⟩)|_=>cases h
theorem qaa4:∀{ys:Ds},ys.all D.pairB=true->∃ps:Pr,ys=O7 ps/\∀p∈ps,An p.1/\An p.2|[],_=>⟨[],rfl,λp h=>by simp at h⟩|y::r,h=>by rw[Mo,zB0] at h;obtain⟨k,m,rfl,b,c⟩:=qaL4 h.1;obtain⟨ps,rfl,d⟩:=qaa4 h.2;refine⟨(k,m)::ps,rfl,λp a=>?_⟩;rcases zAa.mp a with rfl|a;{exact⟨b,c⟩};exact d p a
theorem qad7:∀ps:Pr,(O7 ps).filterMap Hu=ps.map (·.1)|[]=>rfl|p::r=>by show p.1::(O7 r).filterMap Hu=_;rw[qad7 r];rfl
theorem qaS0:∀{ps:Pr},(∀p∈ps,An p.1/\An p.2)->(O7 ps).all D.pairB=true|[],_=>rfl|p::r,h=>by show (((D.int p.1).num&&(D.int p.2).num)&&(O7 r).all D.pairB)=true;rw[qx0 (h p zA9).1,qx0 (h p zA9).2,qaS0 λq a=>h q (zA4 _ a)];rfl
theorem qaS1:∀ps:Pr,(O7 ps).all Kq=true|[]=>rfl|p::r=>by show (true&&(O7 r).all Kq)=true;rw[qaS1 r];rfl
theorem qF6(h:qq0 ps):(D.l z (O7 ps)).homesB=true/\(D.l z (O7 ps)).lstOk Kq=true:=by
 have a:(O7 ps).length<=64:=by simpa[O7] using h.len
 constructor;{show (decide ((O7 ps).length<=64)&&((O7 ps).all D.pairB&&decide ((O7 ps).filterMap Hu).Nodup))=true;rw[zAo a,qaS0 h.nums,qad7,zAo h.nd];rfl};show (D.imms (O7 ps)&&(O7 ps).all Kq&&decide ((O7 ps).length<=1000))=true;rw[qp2,qaS1,zAo ⋯];rfl
theorem qS3{α:Type}(f:α->Bool):∀l:List α,bools (l.map λa=>.bl (f a))=some (l.map f)|[]=>rfl|a::r=>by show (bools (r.map λa=>D.bl (f a))).map (λb=>f a::b)=_;rw[qS3 f r];rfl
theorem qaE6(f:α->Bool)(l:List α):gAll (.l false (l.map λa=>.bl (f a)))=some (.bl (l.all f)):=by show (bools (l.map λa=>D.bl (f a))).map (λb=>D.bl (b.all id))=_;rw[qS3];show some (D.bl ((l.map f).all id))=_;rw[Nv];rfl
def qy7:VSp:=A5 λds d=>∃x,ds=[x]/\x.lstOk Kq=true/\d=.bl x.homesB
theorem qz3(T:Txt K mg a):VFn P w K mg base 5 a.f7 a.d7 ["thing"] qy7:=by
 refine VFn.mk2 T.d7.F qy9 (wOf [true]) qb0 (by walk_at "l") (λ_ _ _ _ _ _ _ A=>⟨_,(Aa (sif (tor (Bu (tv (vbi qd4 ql8.ops T.C9 (qa0 (vnm 0) (qa0 (vty "list" T.Ch) qa6 rfl) rfl)))) (Jc (q2 (Aq Fc (qa9 _)) Fe (vbi qp6 qp5.ops T.Cq (qa0 (vnm 0) qa6 rfl)) (vgi T.Dg)))).te (Aj (As (qa4 vbl))) Au) (Aj (As (Fl (ebi (qD1 rfl) qaD5.ops T.Dq (Fb (vaV (ecN (NY:=["pair"]) (src:=[none]) 0 (blk (λf C g H0 i=>(Ax 0 (show (["pair"]:List Str).Nodup by decide +kernel))) (λf C g H0 i=>Ex) (λf C g H0 i=>(Ak T.d6 (qu1 T) qs5 (rm A) (vaN 0 Ac))))) Ac))) (Ga (Ak T.d5 (qE3 T) qa1 (rm A) (vaV (ecN (NY:=["pair"]) (src:=[none]) 0 (blk (λf C g H0 i=>(Ax 0 (show (["pair"]:List Str).Nodup by decide +kernel))) (λf C g H0 i=>Ex) (λf C g H0 i=>(qb8 (v2 (A4 qb7) Ap (vnm 0) Ae))))) Ac))))))),λJ Q L h=>?_⟩);obtain⟨d,⟨x,rfl,j,rfl⟩,q⟩:=h;cases x with
 |l z b=>
  have j:=zAl.mp j;have k:=zAl.mp j.1;have B:=zAn j.2;refine ite_b (p:=decide ((64:Int)<(b.length:Nat))) (λh=>?_) (λh=>?_)
  .have o:¬b.length<=64:=by have:=zAn h;lia
   have:(D.l z b).homesB=false:=by show (decide (b.length<=64)&&_)=false;rw[zBg o];rfl
   rw[this] at q;exact q
  have o:b.length<=64:=by have:=zBp h;lia
  have E:(D.l z b).homesB=(b.all D.pairB&&decide (b.filterMap Hu).Nodup):=by show (decide (b.length<=64)&&_)=_;rw[zAo o];rfl
  have m:=zBl.mp k.2;refine⟨k.1,?_⟩;refine qk5 (λι=>∃d,ι=[d]) (λy=>some (.bl y.pairB)) b [] _ (by show 0+b.length<big;unfold big;lia) ⟨_,rfl⟩ ?_ ?_;{rintro y s ι u ⟨d,rfl⟩ R v c;have G:=zAl.mp (m y s);obtain⟨t,H⟩:=zB5.mp G.1;refine qN3 (x:=y) (rd0 (qg0 H)) (qa2 (a:=D.bl y.pairB) ?_ ?_);{show (if y.kinded=true then y.kind.map _ else none)=_;rw[if_pos G.2,H];rfl};exact⟨c,v _ ⟨_,rfl⟩⟩};rintro ι ⟨d,rfl⟩;rw[zBa,qG3];refine qa2 (qaE6 D.pairB b) (ite_b (λr=>?_) λr=>?_)
  .obtain⟨n,rfl,M⟩:=qaa4 r;refine⟨qp2 n,qk5 (λι=>∃d,ι=[d]) (λy=>(Hu y).map .int) (O7 n) [] _ (by show 0+(O7 n).length<big;unfold big;lia) ⟨_,rfl⟩ ?_ ?_⟩;{rintro y s ι u ⟨d,rfl⟩ R v c;obtain⟨p,I,rfl⟩:=zB4.mp s;exact⟨rfl,c,v _ ⟨_,rfl⟩⟩};rintro ι ⟨d,rfl⟩;have e:[]++(O7 n).filterMap (λy=>(Hu y).map D.int)=O5 (n.map (·.1)):=by rw[zBa];unfold O7 O5;rw[Mu,zC7];exact qG3 _ _
   rw[e];rw[E,r,qad7] at q;exact⟨_,⟨false,_,rfl,by simp;simp[O7] at o;lia,rfl⟩,q⟩
  rw[E,r] at q;exact q
 |_=>first|exact q|cases j
theorem qJ4:qa8 ["self", "rooms", "wraps", "homes"] ["self", "rooms", "wraps", "homes"] (qa3 qr7):=by walk_at "s"
def qI5(C:γ):VSp:=λds Q _=>∃n wr z ps,ds=[.ins false C [],.int n,.bl wr,.l z (O7 ps)]/\1<=n/\n<=64/\qq0 ps/\Q .non [Ag false C n wr ps,.int n,.bl wr,.l z (O7 ps)]
theorem qas0:Fr (.l z (O7 ps))=some (.l false (O7 ps)):=qg4 (qp2 ps)
theorem qL4(T:Txt K mg a):VFn P w K mg base 6 a.f8 a.d8 ["self", "rooms", "wraps", "homes"] (qI5 a.C8):=by refine VFn.mk2 T.d8.F qJ4 (wOf [true,true,true,true]) (by walk_at "m") (by walk_at "l") (λ_ _ _ _ _ _ _ f=>⟨_,(Aa (sif (Bu (te (Ak T.d3 (qf4 T) qa1 (rm f) (vaN 1 (vaV (qa4 Ae) (vaV (qa4 (vgi T.Dj)) Ac)))))) (Aj (qq3 T.Ce (qb2 T) (rm f) T.Cg T.d1.b qa1 (qa4 Ae))) Au) (Aa (sif (Bu (tv (vbi qd4 ql8.ops T.C9 (qa0 (vnm 2) (qa0 (vty "bool" T.D6) qa6 rfl) rfl)))) (Aj (qq3 T.Ce (qb2 T) (rm f) T.Cg T.d1.b qa1 (qa4 Ae))) Au) (Aa (sif (Bu (te (Ak T.d7 (qz3 T) qa1 (rm f) (vaN 3 Ac)))) (Aj (qq3 T.Ce (qb2 T) (rm f) T.Cg T.d1.b qa1 (qa4 Ae))) Au) (Aa (Ho rfl (vpn 0) (qb8 (vnm 1)) T.Cb.cl T.Cd) (Aa (Ho rfl (vpn 0) (qb8 (vnm 2)) T.Cb.cl T.Co) (Aa (Ho rfl (vpn 0) (qa4 (Fm qd3 qt3.ops T.Ch (qa0 (vnm 3) qa6 rfl))) T.Cb.cl T.Di) (Aj (Ho rfl (vpn 0) (qa4 (Fm (qag0 rfl) qaR3.ops T.E3 (qa0 (vnm 3) qa6 rfl))) T.Cb.cl T.Cj)))))))),λo Q i h=>?_⟩);obtain⟨n,wr,z,e,rfl,j,k,g,q⟩:=h;refine qb1 [.ins false a.C8 [],.int n,.bl wr,.l z (O7 e)] (λK c=>?_) (qb1 [.ins false a.C8 [],.int n,.bl wr,.l z (O7 e)] (λK c=>c) (qb1 [.ins false a.C8 [],.int n,.bl wr,.l z (O7 e)] (λK c=>?_) ?_));{refine qx6 (λQ i q=>qk6 (qc3 (x:=.int n) rfl (qe0 (y:=.int 1) rfl (qe0 (y:=.int 64) rfl (qc0 (qa2 (a:=D.int n) rfl (qC0 (d:=D.bl true) ?_ q))))))) c;show some (D.bl ((D.int n).within 1 64))=_;rw[qN5 j k]};{refine qN3 rfl ⟨D.bl true,⟨_,rfl,(qF6 g).2,by rw[(qF6 g).1]⟩,c⟩};refine qb1 [.ins false a.C8 [("rooms",.int n)],.int n,.bl wr,.l z (O7 e)] (λK c=>⟨rfl,qa2 (a:=(0,[])) rfl (qa2 qk0 ⟨∅,c⟩)⟩) ?_;refine qb1 [.ins false a.C8 [("rooms",.int n),("wraps",.bl wr)],.int n,.bl wr,.l z (O7 e)] (λK c=>⟨rfl,qa2 (a:=(0,[])) rfl (qa2 qk0 ⟨by show 1<100;decide,c⟩)⟩) ?_;refine qb1 [.ins false a.C8 [("rooms",.int n),("wraps",.bl wr),("homes",.l false (O7 e))],.int n,.bl wr,.l z (O7 e)] (λK c=>?_) ?_;{refine qa2 (qas0 (z:=z)) ?_;exact qa2 (a:=(0,[])) rfl (qa2 qk0 ⟨by show 2<100;decide,c⟩)};refine qa2 (qaR0 (z:=z) g.nd) ?_;exact qa2 (a:=(0,[])) rfl (qa2 qk0 ⟨by show 3<100;decide,q⟩)
theorem qz0:qa8 ["self", "thing"] ["self", "thing"] (qa3 qj9):=by walk_at "s"
def qy8(C:γ):VSp:=A5 λds d=>∃z n wr ps x t,ds=[Ag z C n wr ps,x]/\x.kind=some t/\d=.bl (x.within 0 (n-1))
theorem qm6(T:Txt K mg a):VFn P w K mg base 3 a.f9 a.d9 ["self", "thing"] (qy8 a.C8):=by refine VFn.mk2 T.d9.F qz0 (wOf [true,true]) qb0 (by walk_at "l") (λ_ _ _ _ _ _ _ f=>⟨_,(Aj (As (Ak T.d3 (qf4 T) qa1 (rm f) (vaN 1 (vaV (qa4 Ae) (vaV (qa4 (v2 (Ah qz2) qz1 (B8 rfl (vnm 0) T.Cb.cl T.Cd) Ae)) Ac)))))),λi Q j h=>?_⟩);obtain⟨d,⟨z,n,wr,b,x,t,rfl,c,rfl⟩,q⟩:=h;have e:rdN 1 [Ag z a.C8 n wr b,x]=some x:=qk2.mpr ⟨rfl,qg0 c⟩;have g:f2 gSub (f1 (D.fld a.C8 "rooms") (rdN 0)) (kC (.int 1)) [Ag z a.C8 n wr b,x]=some (.int (n-1)):=f2_of (Bd rfl qf8) rfl rfl;show qj3 _ _ (tbN 1 _) [Ag z a.C8 n wr b,x] _ _;refine qc3 e ?_;refine qe0 (y:=.int 0) rfl ?_;refine qe0 g ?_;refine qa2 e ?_;refine qC0 (d:=.bl (x.within 0 (n-1))) ?_ (qa2 rfl q);show x.kind.bind _=_;rw[c];rfl
theorem qJ5:qa8 ["self", "key"] ["self", "key"] (qa3 qr8):=by walk_at "s"
def qI6(C:γ):VSp:=A5 λds d=>∃z n wr ps k,ds=[Ag z C n wr ps,.int k]/\1<=n/\An k/\d=.int (qe5 n ps k)
theorem qaB4{z:Bool}{ps:Pr}(h:fa ds=some (.dct z (kvD ps)))(a:rdN i ds=some (.int k)):fget fa (rdN i) (rdN i) ds=some (.int ((ps.lookup k).getD k)):=by unfold fget;rw[h,a];show gd (((El (kvD ps) (.inl k)).getD (.int k)).imm=true) ((El (kvD ps) (.inl k)).getD (.int k))=_;rw[qao9];cases ps.lookup k<;>rfl
theorem qaM8{x:Int}(h:1<=n):Gx (.int x) (.int n)=some (.int (x%n)):=qg4 (zAo ⋯)
theorem qw9(T:Txt K mg a):VFn P w K mg base 4 a.f11 a.d11 ["self", "key"] (qI6 a.C8):=by refine VFn.mk2 T.d11.F qJ5 (wOf [true,true]) qb0 (by walk_at "l") (λ_ _ _ _ _ _ _ c=>⟨_,(Aa (sif (Bu (te (Ak T.d4 (qc7 T) qa1 (rm c) (vaN 1 Ac)))) (Aj (qq3 T.Ce (qb2 T) (rm c) T.Cg T.d1.b qa1 (qa4 Ae))) Au) (Aj (As (qa4 (v2 (Ah qg9) qg8 (vget (hu_of c) (B8 rfl (vnm 0) T.Cb.cl T.Cj) (vnm 1) (vnm 1) ⟨rfl,rfl,rfl,rfl⟩) (B8 rfl (vnm 0) T.Cb.cl T.Cd)))))),λi Q j h=>?_⟩);obtain⟨d,⟨z,n,wr,e,k,rfl,f,g,rfl⟩,q⟩:=h;have key:orF (f2 Gx (fget (f1 (D.fld a.C8 "home_numbers") (rdN 0)) (rdN 1) (rdN 1)) (f1 (D.fld a.C8 "rooms") (rdN 0)) [Ag z a.C8 n wr e,.int k]) (λd=>Q d [Ag z a.C8 n wr e,.int k]):=qa2 (f2_of (qaB4 (Bd rfl qV8) rfl) (Bd rfl qf8) (qaM8 f)) q;exact qN3 rfl (qC0 (d:=D.bl true) (by show some (D.bl (D.int k).num)=_;rw[qx0 g]) (qa2 rfl (qa2 (a:=true) rfl key)))
theorem qz9:qa8 ["self", "key", "room", "steps"] ["self", "key", "room"] (qa3 qw3):=by walk_at "s"
def qU1(C:γ):VSp:=A5 λds d=>∃z n wr ps k r,ds=[Ag z C n wr ps,.int k,.int r]/\1<=n/\An k/\0<=r/\r<n/\d=Ge (Be n wr ps k r)
theorem Kr(a:An k):fx1 (λx=>x.kind.map λ_=>.bl x.num) [.int k]=some (.bl true):=by show some (D.bl (D.int k).num)=_;rw[qx0 a]
theorem qaq0{r:Int}(d:0<=r)(h1:r<n):∃z' c a b x t,[Ag z C n wr ps,.int r]=[Ag z' C c a b,x]/\x.kind=some t/\D.bl true=.bl (x.within 0 (c-1)):=⟨z,n,wr,ps,_,_,rfl,rfl,by rw[qN5 d ⋯]⟩
theorem qm1(T:Txt K mg a):VFn P w K mg base 5 a.f12 a.d12 ["self", "key", "room"] (qU1 a.C8):=by refine VFn.mk2 T.d12.F qz9 (wOf [true,true,true]) qb0 (by walk_at "l") (λ_ _ _ _ _ _ _ e=>⟨_,(Aa (sif (Bu (te (Ak T.d4 (qc7 T) qa1 (rm e) (vaN 1 Ac)))) (Aj (qq3 T.Ce (qb2 T) (rm e) T.Cg T.d1.b qa1 (qa4 Ae))) Au) (Aa (sif (Bu (te (qx9 0 T.d9 T.Cb.cl (qm6 T) qa1 (rm e) (vaN 2 Ac)))) (Aj (qq3 T.Ce (qb2 T) (rm e) T.Cg T.d1.b qa1 (qa4 Ae))) Au) (Aa (Al 3 qz9.nd (e2n 2 (Ah qz2) qz1 (qx9 0 T.d11 T.Cb.cl (qw9 T) qa1 (rm e) (vaN 1 Ac)))) (Aa (sif (tv (B8 rfl (vnm 0) T.Cb.cl T.Co)) (Aj (As (qa4 (v2 (Ah qg9) qg8 (vnm 3) (B8 rfl (vnm 0) T.Cb.cl T.Cd))))) Au) (Aj (As (eif (q2 (Aq Jl (qa9 _)) Jy (vnm 3) Ae) (qb8 (vnm 3)) (qa4 Bc)))))))),λs Q i h=>?_⟩);obtain⟨d,⟨z,n,wr,c,k,r,rfl,j,m,f,g,rfl⟩,q⟩:=h;refine He (λQ i q=>qK5 (x:=.int k) rfl (Kr m) rfl q) ?_;refine He (λQ i q=>qal2 (p:=Ag z a.C8 n wr c) (x:=.int r) rfl (qh4 rfl) rfl rfl (qaq0 f g) rfl q) ?_;refine qb1 [Ag z a.C8 n wr c,.int k,.int r,.int (r-qe5 n c k)] (λK o=>?_) ?_;{exact⟨rfl,qal2 (p:=Ag z a.C8 n wr c) (x:=.int k) (d:=.int (qe5 n c k)) rfl (qh4 rfl) rfl rfl ⟨z,n,wr,c,k,rfl,j,m,rfl⟩ rfl (qa2 (a:=D.int (r-qe5 n c k)) rfl o)⟩};unfold Be at q;refine qg1 wr (Bd rfl qC7) (λh=>?_) (λh=>?_);{subst h;exact qg5 (.int ((r-qe5 n c k)%n)) (f2_of rfl (Bd rfl qf8) (qaM8 j)) q};subst h;refine qg7 (Hf (b:=decide (0<=r-qe5 n c k)) rfl (λh=>?_) (λh=>?_));{rw[if_neg ∅,if_pos (zAn h)] at q;exact⟨rfl,q⟩};rw[if_neg ∅,if_neg (zBp h)] at q;exact q
theorem qf0:qa8 ["self", "room", "one", "other", "one_far", "other_far"] ["self", "room", "one", "other"] (qa3 qg3):=by walk_at "s"
def qq5(C:γ):VSp:=A5 λds d=>∃z n wr ps r x y,ds=[Ag z C n wr ps,.int r,.int x,.int y]/\1<=n/\0<=r/\r<n/\An x/\An y/\d=.bl (qy4 n wr ps r x y)
theorem qam4{C:γ}{z:Bool}{n:Int}{wr:Bool}{ps:Pr}{r:Int}(h1:1<=n)(f:An k)(g:0<=r)(h:r<n):∃z' c a b e d,[Ag z C n wr ps,.int k,.int r]=[Ag z' C c a b,.int e,.int d]/\1<=c/\An e/\0<=d/\d<c/\Ge (Be n wr ps k r)=Ge (Be c a b e d):=⟨z,n,wr,ps,k,r,rfl,h1,f,g,h,rfl⟩
theorem qj0(T:Txt K mg a):VFn P w K mg base 6 a.f13 a.d13 ["self", "room", "one", "other"] (qq5 a.C8):=by
 refine VFn.mk2 T.d13.F qf0 (wOf [true,true,true,true]) qb0 (by walk_at "l") (λ_ _ _ _ _ _ _ e=>⟨_,(Aa (sif (Bu (te (qx9 0 T.d9 T.Cb.cl (qm6 T) qa1 (rm e) (vaN 1 Ac)))) (Aj (qq3 T.Ce (qb2 T) (rm e) T.Cg T.d1.b qa1 (qa4 Ae))) Au) (Aa (sif (Bu (te (Ak T.d4 (qc7 T) qa1 (rm e) (vaN 2 Ac)))) (Aj (qq3 T.Ce (qb2 T) (rm e) T.Cg T.d1.b qa1 (qa4 Ae))) Au) (Aa (sif (Bu (te (Ak T.d4 (qc7 T) qa1 (rm e) (vaN 3 Ac)))) (Aj (qq3 T.Ce (qb2 T) (rm e) T.Cg T.d1.b qa1 (qa4 Ae))) Au) (Aa (Al 4 qf0.nd (qx9 0 T.d12 T.Cb.cl (qm1 T) qa1 (rm e) (vaN 2 (vaN 1 Ac)))) (Aa (Al 5 qf0.nd (qx9 0 T.d12 T.Cb.cl (qm1 T) qa1 (rm e) (vaN 3 (vaN 1 Ac)))) (Aa (sif (q2 (Aq Ed (qa9 _)) Ec (vnm 4) Bc) (Aj (As (qa4 vbl))) Au) (Aa (sif (q2 (Aq Ed (qa9 _)) Ec (vnm 5) Bc) (Aj (As (qa4 vbl))) Au) (Aj (As (qa4 (vor (v2 (A6 Fc (qa9 _)) Fe (vnm 4) (vnm 5)) (Hc (Jd (v2 (A6 (qe3 e.u64) (qa9 _)) A9 (vnm 4) (vnm 5)) (Hc (v2 (A6 G4 (qa9 _)) G9 (vnm 2) (vnm 3)))))))))))))))),λA Q k h=>?_⟩);obtain⟨d,⟨z,n,wr,c,r,x,y,rfl,o,i,j,s,t,rfl⟩,q⟩:=h;refine He (λQ k q=>qal2 (p:=Ag z a.C8 n wr c) (x:=.int r) rfl (qh4 rfl) rfl rfl (qaq0 i j) rfl q) ?_;refine He (λQ k q=>qK5 (x:=.int x) rfl (Kr s) rfl q) ?_;refine He (λQ k q=>qK5 (x:=.int y) rfl (Kr t) rfl q) ?_;refine qb1 [Ag z a.C8 n wr c,.int r,.int x,.int y,Ge (Be n wr c x r),.u] (λK m=>?_) ?_;{exact qal1 (p:=Ag z a.C8 n wr c) (x:=.int x) (y:=.int r) rfl (qh4 rfl) rfl rfl rfl rfl (qam4 o s i j) rfl m};refine qb1 [Ag z a.C8 n wr c,.int r,.int x,.int y,Ge (Be n wr c x r),Ge (Be n wr c y r)] (λK m=>?_) ?_;{exact qal1 (p:=Ag z a.C8 n wr c) (x:=.int y) (y:=.int r) rfl (qh4 rfl) rfl rfl rfl rfl (qam4 o t i j) rfl m};unfold qy4 at q;cases u:Be n wr c x r with
 |none=>rw[u] at q;exact q|some f=>
  rw[u] at q;cases v:Be n wr c y r with
  |none=>rw[v] at q;exact q|some g=>
   rw[v] at q;refine qg1 false rfl nofun λ_=>?_
   refine qg1 false rfl nofun λ_=>?_
   exact qg5 _ (qaQ2 (a:=decide (g<f)) rfl (qR5 (a:=decide (f=g)) (b:=decide (x<y)) rfl rfl)) q
theorem qD5:qa8 ["plan", "room"] ["plan", "room"] (qa3 qn1):=by walk_at "s"
def qD2(C:γ):VSp:=A5 λds d=>∃z n wr ps r,ds=[Ag z C n wr ps,.int r]/\d=(if 0<r then .int (r-1) else if wr=true then .int (n-1) else .non)
theorem qE2(T:Txt K mg a):VFn P w K mg base 1 a.f14 a.d14 ["plan", "room"] (qD2 a.C8):=by refine VFn.mk2 T.d14.F qD5 (wOf [true,true]) qb0 (by walk_at "l") (λ_ _ _ _ _ _ _ c=>⟨_,(Aa (sif (q2 (Aq Fc (qa9 _)) Fe (vnm 1) Ae) (Aj (As (qa4 (v2 (Ah qz2) qz1 (vnm 1) Ae)))) Au) (Aj (As (eif (tv (B8 rfl (vnm 0) T.Cb.cl T.Co)) (qa4 (v2 (Ah qz2) qz1 (B8 rfl (vnm 0) T.Cb.cl T.Cd) Ae)) (qa4 Bc))))),λe Q f h=>?_⟩);obtain⟨d,⟨z,n,wr,b,r,rfl,rfl⟩,q⟩:=h;refine At [Ag z a.C8 n wr b,.int r] rfl ?_;refine qg1 (decide (0<r)) rfl (λh=>?_) λh=>?_;{rw[if_pos (zAn h)] at q;exact q};rw[if_neg (zBp h)] at q;refine qg7 (Hf (Bd rfl qC7) (λh=>?_) (λh=>?_));{rw[if_pos h] at q;exact qo3 (f2_of (Bd rfl qf8) rfl rfl) q};rw[if_neg (by grind)] at q;exact q
theorem qd6:qa8 ["plan", "rooms", "room", "ahead", "thing"] ["plan", "rooms", "room"] (qa3 qd9):=by walk_at "s"
def okG(n:Int)(wr:Bool)(ps:Pr)(g:Nat->Option Int):Prop:=∃S,Kept n.toNat wr (O3 n ps) g S/\∀k∈S,An k
theorem okG.num{n:Int}{wr:Bool}{ps:Pr}{g:Nat->Option Int}(h:okG n wr ps g)(hi:i<n.toNat)(e:g i=some k):An k:=let ⟨_,K,q⟩:=h;q k ((K.h.2 k).mpr ⟨i,hi,e⟩)
def qm3(C:γ):VSp:=A5 λds d=>∃z n wr ps z' g r k,ds=[Ag z C n wr ps,.l z' (O6 n.toNat g),.int (r:Nat)]/\1<=n/\r<n.toNat/\okG n wr ps g/\g r=some k/\0<Af n.toNat (O3 n ps k) r/\d=.non
theorem qm4(T:Txt K mg a):VFn P w K mg base 7 a.f15 a.d15 ["plan", "rooms", "room"] (qm3 a.C8):=by
 refine VFn.mk2 T.d15.F qd6 (wOf [true,true,true]) qb0 (by walk_at "l") (λ_ _ _ _ _ _ _ s=>⟨_,(Aa (Al 3 qd6.nd (Ak T.d14 (qE2 T) qa1 (rm s) (vaN 0 (vaN 2 Ac)))) (Aa (Al 4 qd6.nd (qb8 (v2 (A4 qb7) Ap (vnm 1) (vnm 3)))) (Aa (sif (q2 (Aq Ed (qa9 _)) Ec (vnm 4) Bc) (Aj (As (qa4 Gy))) Au) (Aa (sif (Gz (te (Ak T.d4 (qc7 T) qa1 (rm s) (vaN 4 Ac))) (Ev (Bu (te (qx9 0 T.d13 T.Cb.cl (qj0 T) qa1 (rm s) (vaN 3 (vaN 4 (vaV (qb8 (v2 (A4 qb7) Ap (vnm 1) (vnm 2))) Ac)))))))).te (Aj (As (qa4 Gy))) Au) (Aj (As (qa4 Bc))))))),λJ Q L h=>?_⟩);obtain⟨d,⟨z,n,wr,c,t,g,r,k,rfl,A,b,u,j,E,rfl⟩,q⟩:=h;obtain⟨S,KP,M⟩:=id u;have G:=u.num b j;have e:=Row.qD9 b;obtain⟨x,m,H⟩:=KP.o.ord r k b j E;have f:=u.num e m;have I:=λi=>KP.ln i r k b j;have N:=dor n.toNat (O3 n c k) r;have O:=por n.toNat r;have B:=(qao7 (ps:=c) A e (λi=>KP.ln i _ x e m) (λi=>by have:=I i;lia)).mpr H;have C:(if 0<((r:Nat):Int) then D.int ((r:Int)-1) else if wr=true then D.int (n-1) else .non)=.int (Row.prev n.toNat r:Nat):=by grind
 generalize Row.prev n.toNat r=p at e C m B;refine At [Ag z a.C8 n wr c,.l t (O6 n.toNat g),.int (r:Nat),.u,.u] rfl ?_;refine qb1 [Ag z a.C8 n wr c,.l t (O6 n.toNat g),.int (r:Nat),.int (p:Nat),.u] (λK v=>qs2 rfl rfl rfl ⟨z,n,wr,c,(r:Nat),rfl,C.symm⟩ rfl v) ?_;refine qb1 [Ag z a.C8 n wr c,.l t (O6 n.toNat g),.int (r:Nat),.int (p:Nat),.int x] (λK v=>qO4 (f2_of rfl rfl ((Ee e).trans (by rw[m];rfl))) rfl v) ?_;refine qg1 false rfl nofun λ_=>?_
 refine ql6 false (λQ q=>ql0 true false (λQ q=>qK5 (x:=.int x) rfl (Kr f) rfl q) (λ_ Q q=>?_) q) nofun λ_=>q
 refine qV6 rfl (qh4 rfl) (qc3 rfl (qc3 (x:=.int x) rfl (qe1 (y:=.int k) (f2_of rfl rfl ((Ee b).trans (by rw[j];rfl))) rfl (qc0 (qa2 rfl (qa2 rfl (qa2 rfl (qf5 ⟨z,n,wr,c,(p:Nat),x,k,rfl,A,⋯,⋯,f,G,rfl⟩ ?_))))))));rw[B];exact q
theorem qq6:qa8 ["plan", "rooms", "room", "key", "far"] ["plan", "rooms", "room"] (qa3 qv7):=by walk_at "s"
theorem qaL7{k:Int}{g:Nat->Option Int}:∀l:List Nat,(∀i∈l,g i≠some k)->∃a,flats (l.map λi=>A8 (g i))=some a/\inV (.int k) a=false|[],_=>⟨[],rfl,rfl⟩|i::l,h=>by obtain⟨a,d,e2⟩:=qaL7 l λj f=>h j (zA4 _ f);rw[zAy];cases c:g i with|none=>exact⟨.non::a,by show ((flats _).bind λb=>some (V.non::b))=_;rw[d];rfl,by show (eqV .non (.int k)||inV (.int k) a)=_;rw[e2];rfl⟩|some j=>exact⟨.int j::a,by show ((flats _).bind λb=>some (V.int j::b))=_;rw[d];rfl,by show (decide (j=k)||inV (.int k) a)=_;rw[e2,zBg λe=>(h i zA9) (by rw[c,e])];rfl⟩
def qT5(C:γ):VSp:=A5 λds d=>∃z n wr ps z' g r,ds=[Ag z C n wr ps,.l z' (O6 n.toNat g),.int (r:Nat)]/\1<=n/\r<n.toNat/\okG n wr ps g/\d=.non
theorem qU8(T:Txt K mg a):VFn P w K mg base 8 a.f16 a.d16 ["plan", "rooms", "room"] (qT5 a.C8):=by
 refine VFn.mk2 T.d16.F qq6 (wOf [true,true,true]) qb0 (by walk_at "l") (λ_ _ _ _ _ _ _ p=>⟨_,(Aa (Al 3 qq6.nd (qb8 (v2 (A4 qb7) Ap (vnm 1) (vnm 2)))) (Aa (sif (q2 (Aq Ed (qa9 _)) Ec (vnm 3) Bc) (Aj (As (qa4 Bc))) Au) (Aa (sif (Bu (te (Ak T.d4 (qc7 T) qa1 (rm p) (vaN 3 Ac)))) (Aj (As (qa4 Gy))) Au) (Aa (sif (q2 (Aq qaj8 (by with_unfolding_all rfl)) Ha (vnm 3) (vsl (vnm 1) vpo_n (vpo_s (vnm 2)))) (Aj (As (qa4 Gy))) Au) (Aa (Al 4 qq6.nd (qx9 0 T.d12 T.Cb.cl (qm1 T) qa1 (rm p) (vaN 3 (vaN 2 Ac)))) (Aa (sif (q2 (Aq Ed (qa9 _)) Ec (vnm 4) Bc) (Aj (As (qa4 Gy))) Au) (Aa (sif (q2 (Aq (qe3 p.u64) (qa9 _)) A9 (vnm 4) Ae) (Aj (As (qa4 Bc))) Au) (Aj (As (Ak T.d15 (qm4 T) qa1 (rm p) (vaN 0 (vaN 1 (vaN 2 Ac))))))))))))),λI Q J h=>?_⟩);obtain⟨d,⟨z,n,wr,c,f,g,r,rfl,t,b,u,rfl⟩,q⟩:=h;obtain⟨S,KP,L⟩:=id u;refine At [Ag z a.C8 n wr c,.l f (O6 n.toNat g),.int (r:Nat),.u,.u] rfl ?_;cases j:g r with
 |none=>refine qb1 [Ag z a.C8 n wr c,.l f (O6 n.toNat g),.int (r:Nat),.non,.u] (λK m=>qO4 (d:=.non) (f2_of rfl rfl ((Ee b).trans (by rw[j];rfl))) rfl m) ?_;exact qg1 true rfl (λ_=>q) nofun|some k=>
  have A:=u.num b j;refine qb1 [Ag z a.C8 n wr c,.l f (O6 n.toNat g),.int (r:Nat),.int k,.u] (λK m=>qO4 (d:=.int k) (f2_of rfl rfl ((Ee b).trans (by rw[j];rfl))) rfl m) ?_;refine qg1 false rfl nofun λ_=>?_
  refine ql6 false (λQ q=>(show Eu _ _ _ _ from(show ttE _ _ _ _ from qK5 (x:=.int k) (d:=.bl true) rfl (Kr A) rfl (qa2 (a:=true) rfl q)))) nofun λ_=>?_
  obtain⟨s,B,C⟩:=qaL7 (k:=k) (g:=g) (Mc r) λi E e=>by have:=zB7.mp E;have:=KP.o.inj i r k ⋯ b e j;lia
  have v:F9 (O6 n.toNat g) none (some (r:Int))=O6 r g:=by rw[qan6];unfold O6;rw[<-Nt,List.take_range,Nat.min_eq_left ⋯]
  refine qg1 false (f2_of (x:=.int k) (y:=.l false (O6 r g)) rfl ?_ ?_) nofun λ_=>?_
  {show gd (D.imms (F9 (O6 n.toNat g) none (some (r:Int)))=true) (D.l false (F9 (O6 n.toNat g) none (some (r:Int))))=_;rw[v];exact qg4 (qt2 _ _)};{show ((flats (O6 r g)).bind λs=>some (D.bl (if false=true then !inV (.int k) s else inV (.int k) s)))=_;unfold O6;rw[B];show some (D.bl (inV (.int k) s))=_;rw[C]};have G:=qR4 (ps:=c) t b λH=>KP.ln H r k b j;refine qb1 [Ag z a.C8 n wr c,.l f (O6 n.toNat g),.int (r:Nat),.int k,.int (Af n.toNat (O3 n c k) r:Nat)] (λK m=>qc6 (qal1 (x:=.int k) (y:=.int (r:Nat)) rfl (qh4 rfl) rfl rfl rfl rfl (qam4 t A ⋯ ⋯) rfl (by rw[G];exact m))) ?_;refine qg1 false rfl nofun λ_=>?_
  refine qg1 (decide (Af n.toNat (O3 n c k) r=0)) (f2_of rfl rfl (by show some (D.bl (((Af n.toNat (O3 n c k) r:Nat):Int)==0))=_;congr 2;by_cases h:Af n.toNat (O3 n c k) r=0<;>simp[h])) (λ_=>q) λh=>?_;exact qg7 (Kn (y:=.l f (O6 n.toNat g)) (w:=.int (r:Nat)) rfl rfl rfl rfl rfl ⟨z,n,wr,c,f,g,r,k,rfl,t,b,u,j,by have:=zBp h;lia,rfl⟩ rfl q)
theorem qJ0:qa8 ["plan", "rooms"] ["plan", "rooms"] (qa3 qr3):=by walk_at "s"
def farP(n:Int)(ps:Pr):D->Bool|.q [.int i,.int k]=>decide (0<Af n.toNat (O3 n ps k) i.toNat)|_=>false
theorem qaD1(ys:Ds):(enD ys).length=ys.length:=by unfold enD;rw[zAb,List.length_zipIdx]
def qI2(C:γ):VSp:=A5 λds d=>∃z n wr ps z' g,ds=[Ag z C n wr ps,.l z' (O6 n.toNat g)]/\1<=n/\n<=64/\okG n wr ps g/\d=.bl false
theorem qL1(T:Txt K mg a):VFn P w K mg base 6 a.f17 a.d17 ["plan", "rooms"] (qI2 a.C8):=by
 refine VFn.mk2 T.d17.F qJ0 (wOf [true,true]) qb0 (by walk_at "l") (λ_ _ _ _ _ _ _ E=>⟨_,(Aj (As (ebi (qD1 rfl) qaD5.ops T.Dq (Fb (vaV (ecEN (NY:=["room", "key", "plan"]) (src:=[none,none,some 0]) 1 T.Dl (blk (λs C t H0 u=>(Br (n:=2) rfl (qc8 (Ax 0 (show (["room", "key", "plan"]:List Str).Nodup by decide +kernel)) (qc8 (Ax 1 (show (["room", "key", "plan"]:List Str).Nodup by decide +kernel)) Bq)))) (λs C t H0 u=>Ex) (λs C t H0 u=>(Fl (qa4 (v2 (A6 qK9 (qa9 _)) qK8 (vnm 1) Bc)) (Ga (e2v (A6 Fc (qa9 _)) Fe (qx9 2 T.d12 T.Cb.cl (qm1 T) qs5 (rm E) (vaN 1 (vaN 0 Ac))) Ae)))))) Ac))))),λM Q N h=>?_⟩);obtain⟨d,⟨z,n,wr,b,G,g,rfl,m,O,A,rfl⟩,q⟩:=h;obtain⟨S,KP,U⟩:=id A;refine At [Ag z a.C8 n wr b,.l G (O6 n.toNat g)] rfl (qg7 ⟨qt2 _ _,?_⟩);refine qk5 (λι=>∃o r,ι=[o,r,Ag z a.C8 n wr b]) (λy=>some (.bl (farP n b y))) (enD (O6 n.toNat g)) [] _ (by show 0+(enD _).length<big;rw[qaD1,qo8];unfold big;lia) ⟨_,_,rfl⟩ ?_ ?_
 .rintro y H ι I ⟨o,r,rfl⟩ R B f;obtain⟨i,v,rfl,j⟩:=qba9 H;have e:i<n.toNat:=by have:=(zA6.mp j).1;rwa[qo8] at this
  rw[qF9 e] at j;obtain rfl:=N8 j;refine ql7 (qT1 (Bh rfl ?_));cases c:g i with|none=>exact Iw false rfl nofun λ_=>⟨f,by have:=B [.int (i:Nat),A8 (g i),Ag z a.C8 n wr b] ⟨_,_,rfl⟩;rw[c] at this;exact this⟩|some k=>refine Iw true rfl (λ_=>?_) nofun;refine qal1 (p:=Ag z a.C8 n wr b) (x:=.int k) (y:=.int (i:Nat)) rfl (qh4 rfl) rfl rfl rfl rfl (qam4 m (A.num e c) ⋯ ⋯) rfl ?_;have this:=B [.int (i:Nat),A8 (g i),Ag z a.C8 n wr b] ⟨_,_,rfl⟩;rw[c] at this;rw[qR4 m e λJ=>KP.ln J i k e c];refine qa2 (a:=D.bl (decide (0<Af n.toNat (O3 n b k) i))) ?_ ⟨f,this⟩;show some (D.bl (decide (((Af n.toNat (O3 n b k) i:Nat):Int)>0)))=_;congr 2;exact decide_eq_decide.mpr ⋯
 rintro ι ⟨o,r,rfl⟩;rw[zBa,qG3];refine qa2 (qaE6 (farP n b) (enD (O6 n.toNat g))) ?_;obtain⟨i,j,L⟩:=KP.c;rw[show (enD (O6 n.toNat g)).all (farP n b)=false from List.all_eq_false.mpr ⟨_,zAw (LV.qaQ7 (qF9 j)),?_⟩];{exact q};cases c:g i with|none=>exact nofun|some k=>show ¬decide (0<Af n.toNat (O3 n b k) i)=true;rw[(qu5 (Eh m k) j).mpr (L k c).symm];exact nofun
theorem qq9:qa8 ["plan", "rooms", "room", "word"] ["plan", "rooms"] (qa3 qw0):=by walk_at "s"
def qT8(C:γ):VSp:=A5 λds d=>∃z n wr ps z' g,ds=[Ag z C n wr ps,.l z' (O6 n.toNat g)]/\1<=n/\n<=64/\okG n wr ps g/\d=.non
theorem qV0(T:Txt K mg a):VFn P w K mg base 9 a.f18 a.d18 ["plan", "rooms"] (qT8 a.C8):=by
 refine VFn.mk2 T.d18.F qq9 (wOf [true,true]) qb0 (by walk_at "l") (λ_ _ _ _ _ _ _ o=>⟨_,(Aa (sif (tor (Bu (tv (vbi qd4 ql8.ops T.C9 (qa0 (vnm 1) (qa0 (vty "list" T.Ch) qa6 rfl) rfl)))) (Jc (q2 (Aq (qU7 o.u64) (qa9 _)) Gg (vbi qp6 qp5.ops T.Cq (qa0 (vnm 1) qa6 rfl)) (B8 rfl (vnm 0) T.Cb.cl T.Cd)))).te (Aj (As (qa4 (B9 (qa0 Gy (qa0 Ae qa6 rfl) rfl))))) Au) (Aa (qY6 N9 T.Cs (Fb (vaV (qb8 (B8 rfl (vnm 0) T.Cb.cl T.Cd)) Ac)) (Ax 2 qq9.nd) (Aa (Al 3 qq9.nd (Ak T.d16 (qU8 T) qa1 (rm o) (vaN 0 (vaN 1 (vaN 2 Ac))))) (Aj (sif (q2 (Aq qK9 (qa9 _)) qK8 (vnm 3) Bc) (Aj (As (qa4 (B9 (qa0 (vnm 3) (qa0 (vnm 2) qa6 rfl) rfl))))) Au)))) (Aj (As (eif (te (Ak T.d17 (qL1 T) qa1 (rm o) (vaN 0 (vaN 1 Ac)))) (qa4 (B9 (qa0 Gy (qa0 Ae qa6 rfl) rfl))) (qa4 Bc)))))),λe Q v h=>?_⟩);obtain⟨d,⟨z,n,wr,f,c,g,rfl,p,s,r,rfl⟩,q⟩:=h;refine At [Ag z a.C8 n wr f,.l c (O6 n.toNat g),.u,.u] rfl ?_;have i:f2 gNe (Ay (fx1 Hb) (Am (rdN 1) λ_=>some [])) (f1 (D.fld a.C8 "rooms") (rdN 0)) [Ag z a.C8 n wr f,.l c (O6 n.toNat g),.u,.u]=some (.bl false):=f2_of (qs4 rfl) (Bd rfl qf8) (by rw[qo8,show ((n.toNat:Nat):Int)=n by lia];exact qaB5 rfl);refine ql6 false (λQ q=>qz8 false false (λQ q=>qn8 (qae0 rfl) q) (λ_ Q q=>qe4 i q) q) nofun λ_=>?_
 refine qb9 (λe=>∃d k,e=[Ag z a.C8 n wr f,.l c (O6 n.toNat g),d,k]) (λK m=>?_) ?_;{refine qaC1 (Bd rfl qf8) (qL6 ⋯ ⋯) ?_;refine qe6 (λ_ e=>∃d k,e=[Ag z a.C8 n wr f,.l c (O6 n.toNat g),d,k]) _ 0 _ ⟨_,_,rfl⟩ ?_ λe h=>m _ h;rintro j x t e ⟨d,k,rfl⟩ K m;obtain⟨u,rfl⟩:=qaj1 t;refine qb1 [Ag z a.C8 n wr f,.l c (O6 n.toNat g),.int (j:Nat),.non] (λK m=>Kn (y:=.l c (O6 n.toNat g)) (w:=.int (j:Nat)) rfl rfl rfl rfl rfl ⟨z,n,wr,f,c,g,j,rfl,p,u,r,rfl⟩ rfl m) ?_;exact if_v (b:=false) rfl nofun λ_=>m _ ⟨_,_,rfl⟩};rintro e ⟨d,k,rfl⟩;exact qg7 (qs2 (y:=.l c (O6 n.toNat g)) (d:=.bl false) rfl rfl rfl ⟨z,n,wr,f,c,g,rfl,p,s,r,rfl⟩ rfl (qa2 (a:=false) rfl (E7 ∅ q)))
theorem qr0:qa8 ["self", "plan", "rooms", "held", "fault"] ["self", "plan", "rooms"] (qa3 qw2):=by walk_at "s"
def Aw(zr:Bool)(C CP:γ)(n:Int)(wr:Bool)(ps:Pr)(g:Nat->Option Int)(dn:Ds):D:=.ins zr C [("plan",Ag true CP n wr ps),("held",.l zr (O6 n.toNat g)),("done",.l zr dn)]
abbrev rA(a:Adr)(n:Int)(wr:Bool)(ps:Pr)(g:Nat->Option Int)(dn:Ds):D:=Aw false a.Ca a.C8 n wr ps g dn
abbrev kL(S:List Int):D:=.l false (O5 S)
abbrev rL(n:Int)(g:Nat->Option Int):D:=.l false (O6 n.toNat g)
section
variable{zr:Bool}{C CP:γ}{n:Int}{wr:Bool}{ps:Pr}{g:Nat->Option Int}{dn:Ds}
theorem qO9:D.fld C "plan" (Aw zr C CP n wr ps g dn)=some (Ag true CP n wr ps):=qA8 (by rfl)
theorem qP0:D.fld C "held" (Aw zr C CP n wr ps g dn)=some (.l zr (O6 n.toNat g)):=qA8 (by rfl)
theorem qaj2:D.fld C "done" (Aw zr C CP n wr ps g dn)=some (.l zr dn):=qA8 (by rfl)
theorem qF4{m:Str}(h:([("plan",Ag true CP n wr ps),("held",.l zr (O6 n.toNat g)),("done",.l zr dn)]:List (Str×D)).lookup m=none):(Aw zr C CP n wr ps g dn).isM C m=true:=qas3 h
end
theorem qam3:D.fidx C "held" (Aw zr C CP n wr ps g dn)=some 1:=by show (if C=C then List.findIdx? (λq:Str×D=>("held" : Str)==q.1) [("plan",Ag true CP n wr ps),("held",.l zr (O6 n.toNat g)),("done",.l zr dn)] else none)=_;rw[if_pos rfl];rfl
theorem qbc0{p:List Nat}{w:V}{d0:D}(h:Bb ds i p=some (.hole w)):bk1 i p w d0 ds=some (By ds i p d0):=by unfold bk1 Av;rw[h];simp only[if_true];unfold Av;rfl
theorem qaC2{C:γ}{f:Str}{pf:PF}(h:te ds (λd ds1=>orF (pf ds1) λq=>orF ((Bb ds1 q.1 q.2).bind (D.ownI C)) λfs=>fs.length<100/\e.nx (By ds1 q.1 q.2 (.ins false C (Fx f d fs)))) e.xe):sFldV C f te pf e ds:=h
theorem Gr(h:rdN i ds=some d)(q:Q d (ds.set i .u)):tMv i ds Q xe:=qa2 h q
theorem qas4{zr:Bool}{C CP:γ}{n:Int}{wr:Bool}{ps:Pr}{g:Nat->Option Int}{dn:Ds}:(Aw zr C CP n wr ps g dn).isC C=some (.bl true):=if_pos rfl
def qU0(C CP:γ):VSp:=λds Q _=>∃n wr ps r g S,ds=[.ins false C [],Ag true CP n wr ps,r]/\1<=n/\n<=64/\(∀k∈S,An k)/\Kept n.toNat wr (O3 n ps) g S/\(r=.non/\g=(λ_=>none)∨∃z,r=.l z (O6 n.toNat g))/\Q .non [Aw false C CP n wr ps g [],Ag true CP n wr ps,r]
theorem qA2(T:Txt K mg a):VFn P w K mg base 10 a.f19 a.d19 ["self", "plan", "rooms"] (qU0 a.Ca a.C8):=by
 refine VFn.mkE T.d19.F qr0 (wOf [true,true,true]) (λj Q Q' k o p _ h=>by obtain⟨n,wr,c,r,g,S,e,s,t,u,v,A,q⟩:=h;exact⟨n,wr,c,r,g,S,e,s,t,u,v,A,p _ _ q⟩) (λj Q k h=>by obtain⟨n,wr,c,r,g,S,e,_⟩:=h;rw[e];rfl) (λj Q k h=>by obtain⟨n,wr,c,r,g,S,e,_⟩:=h;rw[e];rfl) (λ_ _ _ _ _ _ _ i=>⟨_,(Aa (sif (Bu (tv (vbi (qaf9 T.Du T.Cb.cl) qaR2.ops T.C9 (qa0 (vnm 1) (qa0 (Jb a.C8 T.Cb.m) qa6 rfl) rfl)))) (Aj (qq3 T.Ce (qb2 T) (rm i) T.Cg T.d1.b qa1 (qa4 Ae))) Au) (Aa (sif (Gz (q2 (Aq qK9 (qa9 _)) qK8 (vnm 2) Bc) (Ev (Bu (tv (vbi qd4 ql8.ops T.C9 (qa0 (vnm 2) (qa0 (vty "list" T.Ch) qa6 rfl) rfl)))))).te (Aj (qq3 T.Ce (qb2 T) (rm i) T.Cg T.d1.b qa1 (qa4 Ae))) Au) (Aa (Al 3 qr0.nd (eif (q2 (Aq Ed (qa9 _)) Ec (vnm 2) Bc) (qa4 (v2 (Ah qk8) qk7 (Bl (qa0 Bc qa6 rfl)) (B8 rfl (vnm 1) T.Cb.cl T.Cd))) (qa4 (Fm qd3 qt3.ops T.Ch (qa0 (vnm 2) qa6 rfl))))) (Aa (Al 4 qr0.nd (Ak T.d18 (qV0 T) qa1 (rm i) (vaN 1 (vaN 3 Ac)))) (Aa (sif (q2 (Aq qK9 (qa9 _)) qK8 (vnm 4) Bc) (Aj qaT6) Au) (Aa (Ho rfl (vpn 0) (qb8 (vnm 1)) T.Cf.cl T.Cy) (Aa (Ho rfl (vpn 0) (emv 3) T.Cf.cl T.Ct) (Aj (Ho rfl (vpn 0) (qa4 (Bl qa6)) T.Cf.cl T.D8))))))))),λj Q k h=>?_⟩);obtain⟨n,wr,c,r,g,S,rfl,B,l,C,KP,i,q⟩:=h;have D:r.known=true:=by rcases i with⟨rfl,_⟩|⟨z,rfl⟩<;>rfl
 refine At [.ins false a.Ca [],Ag true a.C8 n wr c,r,.u,.u] rfl ?_;refine qas8 (show Jz a.C8 (Ag true a.C8 n wr c) (.adr a.C8)=some (.bl true) from qaA7) ?_;refine ql6 false (λQ q=>?_) nofun λ_=>?_
 {rcases i with⟨rfl,_⟩|⟨z,rfl⟩;{exact ql0 false false (λQ q=>qe4 (b:=false) (f2_of rfl rfl rfl) q) nofun q};exact ql0 true false (λQ q=>qe4 (b:=true) (f2_of rfl rfl rfl) q) (λ_ Q q=>qn8 (b:=true) (qae0 rfl) q) q};refine qb1 [.ins false a.Ca [],Ag true a.C8 n wr c,r,rL n g,.u] (λK f=>qc6 ?_) ?_;{rcases i with⟨rfl,rfl⟩|⟨z,rfl⟩;{exact Hf (b:=true) (f2_of rfl rfl rfl) (λ_=>qo3 (f2_of rfl (Bd rfl qf8) (qab9 ⋯ l)) f) nofun};exact Hf (b:=false) (f2_of rfl rfl rfl) nofun λ_=>qo3 (d:=rL n g) (show Fr (.l z (O6 n.toNat g))=_ from qg4 (qt2 _ _)) f};refine qb1 [.ins false a.Ca [],Ag true a.C8 n wr c,r,rL n g,.non] (λK f=>qc6 ?_) ?_;{exact qs2 (x:=Ag true a.C8 n wr c) (y:=rL n g) (d:=.non) rfl rfl rfl ⟨true,n,wr,c,false,g,rfl,B,l,⟨S,KP,C⟩,rfl⟩ rfl f};refine ql6 false (λQ q=>qe4 (b:=false) (f2_of rfl rfl rfl) q) nofun λ_=>?_
 refine qb1 [.ins false a.Ca [("plan",Ag true a.C8 n wr c)],Ag true a.C8 n wr c,r,rL n g,.non] (λK f=>qaC2 (qn5 (d:=Ag true a.C8 n wr c) rfl rfl (qa2 (a:=(0,[])) rfl (qa2 qk0 ⟨∅,f⟩)))) ?_;refine qb1 [.ins false a.Ca [("plan",Ag true a.C8 n wr c),("held",rL n g)],Ag true a.C8 n wr c,r,.u,.non] (λK f=>qaC2 (Gr (d:=rL n g) rfl (qa2 (a:=(0,[])) rfl (qa2 qk0 ⟨by show 1<100;decide,f⟩)))) ?_;exact qaC2 (qo3 (d:=.l false []) rfl (qa2 (a:=(0,[])) rfl (qa2 qk0 ⟨by show 2<100;decide,q⟩)))
theorem qt9:qa8 ["self"] ["self"] (qa3 qh3):=by walk_at "s"
def qt6(C CP:γ):VSp:=A5 λds d=>∃zr n wr ps g dn,ds=[Aw zr C CP n wr ps g dn]/\d=.l false (O6 n.toNat g)
theorem qk3(T:Txt K mg a):VFn P w K mg base 1 a.f20 a.d20 ["self"] (qt6 a.Ca a.C8):=by refine VFn.mk2 T.d20.F qt9 (wOf [true]) qb0 (by walk_at "l") (λ_ _ _ _ _ _ _ f=>⟨_,(Aj (As (qa4 (Fm qd3 qt3.ops T.Ch (qa0 (B8 rfl (vnm 0) T.Cf.cl T.Ct) qa6 rfl))))),λi Q j h=>?_⟩);obtain⟨d,⟨b,n,wr,c,g,e,rfl,rfl⟩,q⟩:=h;refine At [Aw b a.Ca a.C8 n wr c g e] rfl ?_;refine qg5 (rL n g) ?_ q;unfold Ay Am;rw[Bd rfl qP0];exact qg4 (qt2 _ _)
theorem qv5:qa8 ["self"] ["self"] (qa3 qi3):=by walk_at "s"
theorem _root_.Row.Kept.perm{n:Nat}{wr:Bool}{g:Nat->Option Int}(KP:Kept n wr hm g S):((Mc n).filterMap g).Perm S:=by refine(List.perm_ext_iff_of_nodup ?_ KP.h.1).mpr λk=>?_;{refine List.pairwise_filterMap.mpr (List.Pairwise.imp_of_mem (λ{i j} a d f b l m c e=>?_) Mx);subst e;exact f (KP.o.inj i j b (zB7.mp a) (zB7.mp d) l c)};rw[KP.h.2 k,List.mem_filterMap];exact⟨λ⟨i,a,e⟩=>⟨i,zB7.mp a,e⟩,λ⟨i,a,e⟩=>⟨i,zB7.mpr a,e⟩⟩
noncomputable def Hj(y:D):Option D:=match y with|.int k=>some (.int k)|_=>none
theorem qad8(N:Nat)(g:Nat->Option Int):(O6 N g).filterMap Hj=O5 ((Mc N).filterMap g):=by unfold O6 O5;rw[Mu,List.map_filterMap];refine congrArg (λf=>Nr f (Mc N)) (funext λi=>?_);show Hj (A8 (g i))=(g i).map D.int;cases g i<;>rfl
def qv0(C CP:γ):VSp:=A5 λds d=>∃zr n wr ps g dn,ds=[Aw zr C CP n wr ps g dn]/\n<=64/\d=.l false (O5 ((Mc n.toNat).filterMap g))
theorem qw7(T:Txt K mg a):VFn P w K mg base 1 a.f21 a.d21 ["self"] (qv0 a.Ca a.C8):=by
 refine VFn.mk2 T.d21.F qv5 (wOf [true]) qb0 (by walk_at "l") (λ_ _ _ _ _ _ _ u=>⟨_,(Aj (As (eAlt (ecP (NY:=["key"]) (src:=[none]) (vpfld rfl (vpn 0) T.Cf.cl T.Ct) (blk (λi C j H0 m=>(Ax 0 (show (["key"]:List Str).Nodup by decide +kernel))) (λi C j H0 m=>(Ke (q2 (Aq qK9 (qa9 _)) qK8 (vnm 0) Bc))) (λi C j H0 m=>(qb8 (vnm 0))))) (ecL (NY:=["key"]) (src:=[none]) (qb8 (B8 rfl (vnm 0) T.Cf.cl T.Ct)) (blk (λi C j H0 m=>(Ax 0 (show (["key"]:List Str).Nodup by decide +kernel))) (λi C j H0 m=>(Ke (q2 (Aq qK9 (qa9 _)) qK8 (vnm 0) Bc))) (λi C j H0 m=>(qb8 (vnm 0)))))))),λv Q x h=>?_⟩);obtain⟨d,⟨r,n,wr,s,g,t,rfl,z,rfl⟩,q⟩:=h;refine At [Aw r a.Ca a.C8 n wr s g t] rfl ?_;have step:∀(y:D),y∈O6 n.toNat g->∀(d:D)(c:Ds)(R:Ds->Ds->Prop),(∀ι',(∃d,ι'=[d])->R (c++(Hj y).toList) ι')->c.length<big->gNm 0 y [d] λι1=>ttV (f2 gIsn (rdN 0) (kC .non)) ι1 (λb ι2=>if b=true then Bo (rdN 0) ι2 (λd ι3=>c.length<big/\R (c++[d]) ι3) (λ_ _=>False) else R c ι2) (λ_ _=>False):=λy o d c R p f=>by have this:=p [y] ⟨_,rfl⟩;refine qu2 ?_;rcases qaI1 o with rfl|⟨k,rfl⟩;{have this:R (c++[]) _:=this;rw[zAe] at this;exact qe4 (b:=false) (f2_of rfl rfl rfl) (E7 ∅ this)};exact qe4 (b:=true) (f2_of rfl rfl rfl) (Bh rfl (qn5 (d:=.int k) rfl rfl ⟨f,this⟩))
 cases r with|false=>refine qg7 (.inl (qa2 (a:=(0,[1])) (by show (D.fidx a.Ca "held" (rA a n wr s g t)).map (λn=>(0,[n]))=_;rw[qam3];rfl) (qa2 (a:=D.l false (O6 n.toNat g)) rfl (qa2 (a:=O6 n.toNat g) rfl ⟨qt2 _ _,λw=>?_⟩))));refine qk5 (λι=>∃d,ι=[d]) Hj _ [] _ (by show 0+_<1000000;rw[qo8];lia) ⟨_,rfl⟩ (λy o ι c ⟨d,e⟩ R p f=>e ▸ step y o d c R p f) ?_;rintro ι ⟨d,rfl⟩;rw[qad8,zBa];exact qa2 (qbc0 rfl) q|true=>refine qg7 (.inr (qn5 (d:=.l true (O6 n.toNat g)) (Bd rfl qP0) rfl (qa2 (a:=O6 n.toNat g) rfl ⟨qt2 _ _,?_⟩)));refine qk5 (λι=>∃d,ι=[d]) Hj _ [] _ (by show 0+_<1000000;rw[qo8];lia) ⟨_,rfl⟩ (λy o ι c ⟨d,e⟩ R p f=>e ▸ step y o d c R p f) ?_;rintro ι ⟨d,rfl⟩;rw[qad8,zBa];exact q
theorem qU5:qa8 ["self"] ["self"] (qa3 qw1):=by walk_at "s"
def qT9(C CP:γ):VSp:=A5 λds d=>∃zr n wr ps g dn S,ds=[Aw zr C CP n wr ps g dn]/\n<=64/\Kept n.toNat wr (O3 n ps) g S/\d=.int (S.length:Nat)
theorem qV1(T:Txt K mg a):VFn P w K mg base 2 a.f22 a.d22 ["self"] (qT9 a.Ca a.C8):=by refine VFn.mk2 T.d22.F qU5 (wOf [true]) qb0 (by walk_at "l") (λ_ _ _ _ _ _ _ f=>⟨_,(Aj (As (ebi qp6 qp5.ops T.Cq (Fb (vaV (qG6 0 T.d21 T.Cf.cl (qw7 T) qa1 (rm f)) Ac))))),λj Q k h=>?_⟩);obtain⟨d,⟨b,n,wr,c,g,e,S,rfl,i,KP,rfl⟩,q⟩:=h;refine At [Aw b a.Ca a.C8 n wr c g e] rfl ?_;refine qg7 (Ix (qe2 (qac8 (p:=Aw b a.Ca a.C8 n wr c g e) (d:=kL ((Mc n.toNat).filterMap g)) rfl (qF4 rfl) ⟨b,n,wr,c,g,e,rfl,i,rfl⟩ rfl (qc0 (qa2 (a:=D.int (S.length:Nat)) ?_ q)))));show some (D.int ((O5 ((Mc n.toNat).filterMap g)).length:Nat))=_;rw[qm5,KP.perm.length_eq]
theorem qJ3:qa8 ["self"] ["self"] (qa3 qr6):=by walk_at "s"
def qI4(C CP:γ):VSp:=A5 λds d=>∃zr n wr ps g dn,ds=[Aw zr C CP n wr ps g dn]/\D.imms dn=true/\d=.l false dn
theorem qL3(T:Txt K mg a):VFn P w K mg base 1 a.f23 a.d23 ["self"] (qI4 a.Ca a.C8):=by refine VFn.mk2 T.d23.F qJ3 (wOf [true]) qb0 (by walk_at "l") (λ_ _ _ _ _ _ _ i=>⟨_,(Aj (As (qa4 (Fm qd3 qt3.ops T.Ch (qa0 (B8 rfl (vnm 0) T.Cf.cl T.D8) qa6 rfl))))),λj Q k h=>?_⟩);obtain⟨d,⟨c,n,wr,e,g,b,rfl,f,rfl⟩,q⟩:=h;refine At [Aw c a.Ca a.C8 n wr e g b] rfl ?_;refine qg5 (.l false b) ?_ q;unfold Ay Am;rw[Bd rfl qaj2];exact qg4 f
theorem qv6:qa8 ["self", "first", "many"] ["self", "first", "many"] (qa3 qi4):=by walk_at "s"
noncomputable def onD(n h:Int)(m:Nat):Ds:=(Mc m).map λ(s:Nat)=>D.int ((h+(0+(s:Int)))%n)
theorem qaU6{n h:Int}{m:Nat}:((Bm 0 m).map λx=>match x with | .int s=>.int ((h+s)%n)|d=>d)=onD n h m:=by unfold Bm onD;rw[zC7];rfl
def qv1(C:γ):VSp:=λds Q _=>∃z n wr ps h m,ds=[Ag z C n wr ps,.int h,.int m]/\1<=n/\0<=m/\m<=64/\Q (.l false (onD n h m.toNat)) [Ag z C n wr ps,.int h,.u]
theorem qw8(T:Txt K mg a):VFn P w K mg base 1 a.f10 a.d10 ["self", "first", "many"] (qv1 a.C8):=by refine VFn.mk2 T.d10.F qv6 (wOf [true,true,true]) (by walk_at "m") (by walk_at "l") (λ_ _ _ _ _ _ _ p=>⟨_,(Aj (As (ecR1 (NY:=["step", "first", "self"]) (src:=[none,some 1,some 0]) T.Cs (Fb (vaN 2 Ac)) (blk (λc C e H0 f=>(Ax 0 (show (["step", "first", "self"]:List Str).Nodup by decide +kernel))) (λc C e H0 f=>Ex) (λc C e H0 f=>(qa4 (v2 (Ah qg9) qg8 (v2 (Ah qf2) qf1 (vnm 1) (vnm 0)) (B8 rfl (vnm 2) T.Cb.cl T.Cd)))))))),λr Q t h=>?_⟩);obtain⟨z,n,wr,g,h,m,rfl,u,i,v,q⟩:=h;refine At [Ag z a.C8 n wr g,.int h,.int m] rfl ?_;refine qg7 ?_;refine⟨rfl,qc0 (qa2 (a:=D.int m) rfl (qa2 (a:=m) rfl ⟨qL6 i ⋯,?_⟩))⟩;refine qk5 (λι=>∃d,ι=[d,.int h,Ag z a.C8 n wr g]) (λx=>some (match x with | .int s=>.int ((h+s)%n)|d=>d)) (Bm 0 m.toNat) [] _ (by show 0+_<big;rw[qA5];unfold big;lia) ⟨_,rfl⟩ ?_ ?_;{rintro y j ι k ⟨d,rfl⟩ R o b;obtain⟨s,A,rfl⟩:=zB4.mp j;have this:=o _ ⟨.int (0+(s:Nat)),rfl⟩;refine qa2 (a:=D.int ((h+(0+(s:Nat)))%n)) (f2_of (x:=.int (h+(0+(s:Nat)))) rfl (Bd rfl qf8) (modP ⋯)) ⟨b,this⟩};rintro ι ⟨d,rfl⟩;rw[zBa,qG3,qaU6];exact q
theorem qi2:qa8 ["row", "key"] ["row", "key"] (qa3 qc5):=by walk_at "s"
def qi1(C CW:γ):VSp:=λds Q xe=>∃r k a,ds=[r,k]/\r.isC C=some (.bl a)/\(∃t,k.kind=some t)/\(a=false->xe ⟨CW,[("at",.int 0)]⟩ ds)/\(a=true->k.num=false->xe ⟨CW,[("at",.int 1)]⟩ ds)/\(a=true->k.num=true->Q .non ds)
theorem qi5(T:Txt K mg a):VFn P w K mg base 4 a.f24 a.d24 ["row", "key"] (qi1 a.Ca a.Cc):=by
 refine VFn.mk2 T.d24.F qi2 (wOf [true,true]) (by walk_at "m") (by walk_at "l") (λ_ _ _ _ _ _ _ d=>⟨_,(Aa (sif (Bu (tv (vbi (qaf9 T.E2 T.Cf.cl) qaR2.ops T.C9 (qa0 (vnm 0) (qa0 (Jb a.Ca T.Cf.m) qa6 rfl) rfl)))) (Aj (qq3 T.Ce (qb2 T) (rm d) T.Cg T.d1.b qa1 (qa4 Ae))) Au) (Aj (sif (Bu (te (Ak T.d4 (qc7 T) qa1 (rm d) (vaN 1 Ac)))) (Aj (qq3 T.Ce (qb2 T) (rm d) T.Cg T.d1.b qa1 (qa4 Ae))) Au))),λu Q e h=>?_⟩);obtain⟨r,k,f,rfl,g,⟨t,i⟩,p,s,q2⟩:=h;have j:=qg0 i;refine At [r,k] rfl ?_;have n:Ay (fx2 (Jz a.Ca)) (Am (rdN 0) (Am (kC (D.adr a.Ca)) λ_=>some [])) [r,k]=some (.bl f):=by unfold Ay Am;rw[rd0 (qp1 g)];show (if a.Ca=a.Ca then r.isC a.Ca else none)=_;rw[if_pos rfl,g]
 have o:(λx:D=>x.kind.map λ_=>D.bl x.num) k=some (.bl k.num):=by show (k.kind.map λ_=>D.bl k.num)=_;rw[i];rfl
 cases f with|false=>exact qaI2 n (p rfl)|true=>refine qas8 n ?_;cases c:k.num with|true=>exact qx6 (λQ e q=>qK5 (x:=k) (qc4 rfl j) (by rw[<-c];exact o) rfl q) (q2 rfl c)|false=>exact qaa0 (λQ e q=>qK5 (x:=k) (qc4 rfl j) (by rw[<-c];exact o) rfl q) (s rfl c)
theorem qO5:qa8 ["plan", "key", "home"] ["plan", "key"] (qa3 qJ6):=by walk_at "s"
def Gs(n:Int)(wr:Bool)(ps:Pr)(k:Int)(r:Nat):Option Int->Bool|none=>true|some x=>qy4 n wr ps (r:Nat) k x
def Fh(n:Int)(wr:Bool)(ps:Pr)(g:Nat->Option Int)(k:Int):List Nat->Ds->D|[],acc=>.q [.non,.l false acc]|r::rs,acc=>if g r=some k then .q [.int (r:Nat),.l false (acc++[.q [.int (r:Nat),A8 (g r)]])] else if Gs n wr ps k r (g r)=true then .q [.non,.l false (acc++[.q [.int (r:Nat),A8 (g r)]])] else Fh n wr ps g k rs (acc++[.q [.int (r:Nat),A8 (g r)]])
noncomputable def Hv(N h m:Nat):List Nat:=(Mc m).map λj=>(h+j)%N
def G3(n:Int)(wr:Bool)(ps:Pr)(k:Int):Nat:=if wr=true then n.toNat else n.toNat-O3 n ps k
def En(n:Int)(wr:Bool)(ps:Pr)(k:Int):List Nat:=Hv n.toNat (O3 n ps k) (G3 n wr ps k)
noncomputable def nsD(a:List Nat):Ds:=a.map λr=>.int (r:Nat)
def Hk(n:Int)(wr:Bool)(ps:Pr)(g:Nat->Option Int)(k:Int):D:=Fh n wr ps g k (En n wr ps k) []
theorem qaO8(a:List Nat):D.imms (nsD a)=true:=qx4 (λ_=>rfl) _
theorem qaS9{n:Int}{wr:Bool}{ps:Pr}(a:1<=n)(h:r∈En n wr ps k):r<n.toNat:=by obtain⟨j,_,rfl⟩:=zB4.mp h;exact Nat.mod_lt _ ⋯
theorem qW3{n:Int}{wr:Bool}{ps:Pr}:(En n wr ps k).length<=n.toNat:=by unfold En Hv G3;rw[zAb,zBv];split<;>lia
theorem modC{n:Int}(a:1<=n)(j:Nat):((j:Nat):Int)%n=(j%n.toNat:Nat):=by have:((j:Nat):Int)%((n.toNat:Nat):Int)=(j%n.toNat:Nat):=⋯;rwa[show ((n.toNat:Nat):Int)=n by lia] at this
theorem qaM1{n:Int}(a:1<=n){h m:Nat}:onD n (h:Nat) m=nsD (Hv n.toNat h m):=by unfold onD nsD Hv;rw[zC7];refine Ms λj _=>?_;show D.int (((h:Nat)+(0+(j:Nat)):Int)%n)=D.int (((h+j)%n.toNat:Nat):Int);rw[<-modC a,Int.zero_add,Int.natCast_add]
def qah7(CP:γ):VSp:=A5 λds d=>∃z n wr ps k,ds=[Ag z CP n wr ps,.int k]/\1<=n/\n<=64/\An k/\d=.l false (nsD (En n wr ps k))
theorem qak0(T:Txt K mg a):VFn P w K mg base 5 a.f25 a.d25 ["plan", "key"] (qah7 a.C8):=by refine VFn.mk2 T.d25.F qO5 (wOf [true,true]) qb0 (by walk_at "l") (λ_ _ _ _ _ _ _ f=>⟨_,(Aa (Al 2 qO5.nd (qx9 0 T.d11 T.Cb.cl (qw9 T) qa1 (rm f) (vaN 1 Ac))) (Aj (As (qx9 0 T.d10 T.Cb.cl (qw8 T) qa1 (rm f) (vaN 2 (vaV (eif (tv (B8 rfl (vnm 0) T.Cb.cl T.Co)) (qb8 (B8 rfl (vnm 0) T.Cb.cl T.Cd)) (qa4 (v2 (Ah qz2) qz1 (B8 rfl (vnm 0) T.Cb.cl T.Cd) (vnm 2)))) Ac)))))),λm Q o h=>?_⟩);obtain⟨d,⟨z,n,wr,c,k,rfl,e,g,i,rfl⟩,q⟩:=h;have r:=Eh (ps:=c) e k;refine At [Ag z a.C8 n wr c,.int k,.u] rfl ?_;refine qb1 [Ag z a.C8 n wr c,.int k,.int (O3 n c k:Nat)] (λK j=>qc6 (qal2 (p:=Ag z a.C8 n wr c) (x:=.int k) (d:=.int (O3 n c k:Nat)) rfl (qh4 rfl) rfl rfl ⟨z,n,wr,c,k,rfl,e,i,by rw[qQ4 e]⟩ rfl j)) ?_;refine qg7 (qV6 (p:=Ag z a.C8 n wr c) rfl (qh4 rfl) (qc3 (x:=.int (O3 n c k:Nat)) rfl (qe2 (Hf (b:=wr) (Bd rfl qC7) (λh=>qn5 (d:=.int n) (Bd rfl qf8) rfl ?_) λh=>qo3 (d:=.int (n-(O3 n c k:Nat))) (f2_of (Bd rfl qf8) rfl rfl) ?_))));{refine qc0 (qa2 (a:=D.int (O3 n c k:Nat)) rfl (qa2 (a:=Ag z a.C8 n wr c) rfl ⟨z,n,wr,c,_,_,rfl,e,⋯,g,qa2 (a:=[Ag z a.C8 n wr c,.int k,.int (O3 n c k:Nat)]) rfl ?_⟩));subst h;rw[qaM1 e];exact q};refine qc0 (qa2 (a:=D.int (O3 n c k:Nat)) rfl (qa2 (a:=Ag z a.C8 n wr c) rfl ⟨z,n,wr,c,_,_,rfl,e,⋯,⋯,qa2 (a:=[Ag z a.C8 n wr c,.int k,.int (O3 n c k:Nat)]) rfl ?_⟩));subst h;rw[qaM1 e,show (n-(O3 n c k:Nat)).toNat=n.toNat-O3 n c k by lia];exact q
theorem qJ2:qa8 ["plan", "key", "room", "held"] ["plan", "key", "room", "held"] (qa3 qr5):=by walk_at "s"
def qI3(CP:γ):VSp:=A5 λds d=>∃z n wr ps k r o,ds=[Ag z CP n wr ps,.int k,.int (r:Nat),A8 o]/\1<=n/\r<n.toNat/\An k/\(∀x,o=some x->An x)/\d=.bl (Gs n wr ps k r o)
theorem or_v(b:Bool)(h:fa ds=some (.bl b))(h1:b=true->Q (.bl true) ds)(h2:b=false->tb ds Q xe):tOrE (Bk fa) tb ds Q xe:=qo3 (xe:=xe) (Q:=λx ds=>orF x.asB λk=>if k=true then Q (.bl true) ds else tb ds Q xe) h (ite_b h1 h2)
theorem qL2(T:Txt K mg a):VFn P w K mg base 7 a.f26 a.d26 ["plan", "key", "room", "held"] (qI3 a.C8):=by refine VFn.mk' T.d26.F qJ2 (wOf [true,true,true,true]) qb0 (λc Q f h=>by obtain⟨d,⟨z,n,wr,b,k,r,o,e,_⟩,_⟩:=h;rw[e];rfl) (λc Q f h=>by obtain⟨d,⟨z,n,wr,b,k,r,o,e,_⟩,_⟩:=h;rw[e];cases o<;>rfl) (λ_ _ _ _ _ _ _ g=>⟨_,(Aj (As (eor (qa4 (v2 (A6 Ed (qa9 _)) Ec (vnm 3) Bc)) (Ga (qx9 0 T.d13 T.Cb.cl (qj0 T) qa1 (rm g) (vaN 2 (vaN 1 (vaN 3 Ac)))))))),λc Q f h=>?_⟩);obtain⟨d,⟨z,n,wr,b,k,r,o,rfl,i,g,j,l,rfl⟩,q⟩:=h;refine At [Ag z a.C8 n wr b,.int k,.int (r:Nat),A8 o] rfl ?_;cases o with|none=>exact qg7 (or_v true rfl (λ_=>q) nofun)|some x=>exact qg7 (or_v false rfl nofun λ_=>qaY7 (p:=Ag z a.C8 n wr b) (x:=.int (r:Nat)) (y:=.int k) (w:=.int x) rfl (qh4 rfl) rfl rfl rfl rfl rfl rfl ⟨z,n,wr,b,_,k,x,rfl,i,⋯,⋯,j,l x rfl,rfl⟩ rfl q)
theorem ql9:qa8 ["row", "key", "rooms", "seen", "room"] ["row", "key"] (qa3 qv8):=by walk_at "s"
theorem qat6{l:List α}{x:α}(h:l[i]?=some x):l.drop i=x::l.drop (i+1):=by obtain⟨a,b⟩:=zA6.mp h;rw[zCb a,b]
theorem qaQ6:gEq (A8 o) (.int k)=some (.bl (decide (o=some k))):=by cases o with|none=>rfl|some x=>show some (D.bl (decide (x=k)))=_;congr 2;exact decide_eq_decide.mpr ⟨λh=>h ▸ rfl,λh=>N8 h⟩
def qT6(C CP CW:γ):VSp:=λds Q xe=>∃r k a,ds=[r,k]/\r.isC C=some (.bl a)/\(∃t,k.kind=some t)/\(a=false->xe ⟨CW,[("at",.int 0)]⟩ ds)/\(a=true->k.num=false->xe ⟨CW,[("at",.int 1)]⟩ ds)/\(a=true->k.num=true->∃zr n wr ps g dn S b,r=Aw zr C CP n wr ps g dn/\k=.int b/\1<=n/\n<=64/\(∀x∈S,An x)/\Kept n.toNat wr (O3 n ps) g S/\Q (Hk n wr ps g b) ds)
theorem qA1(T:Txt K mg a):VFn P w K mg base 8 a.f27 a.d27 ["row", "key"] (qT6 a.Ca a.C8 a.Cc):=by
 refine VFn.mk2 T.d27.F ql9 (wOf [true,true]) (by walk_at "m") (by walk_at "l") (λ_ _ _ _ _ _ _ v=>⟨_,(Aa (Ej (Ak T.d24 (qi5 T) qa1 (rm v) (vaN 0 (vaN 1 Ac)))) (Aa (Al 2 ql9.nd (qG6 0 T.d20 T.Cf.cl (qk3 T) qa1 (rm v))) (Aa (Al 3 ql9.nd (qa4 (Bl qa6))) (Aa (Il N9 (Ak T.d25 (qak0 T) qa1 (rm v) (vaV (qb8 (B8 rfl (vnm 0) T.Cf.cl T.Cy)) (vaN 1 Ac))) (Ax 4 ql9.nd) (Aa (Ej (Fw 3 qE9 Oc Oe Of qh0 (vaV (qa4 (B9 (qa0 (vnm 4) (qa0 (v2 (A4 qb7) Ap (vnm 2) (vnm 4)) qa6 rfl) rfl))) Ac))) (Aa (sif (q2 (Aq (qe3 v.u64) (qa9 _)) A9 (v2 (A4 qb7) Ap (vnm 2) (vnm 4)) (vnm 1)) (Aj (As (Ft (vaV (qb8 (vnm 4)) (vaV (emv 3) Ac))))) Au) (Aj (sif (te (Ak T.d26 (qL2 T) qa1 (rm v) (vaV (qb8 (B8 rfl (vnm 0) T.Cf.cl T.Cy)) (vaN 1 (vaN 4 (vaV (qb8 (v2 (A4 qb7) Ap (vnm 2) (vnm 4))) Ac)))))) (Aj qaU1) Au))))) (Aj (As (Ft (vaV (qa4 Bc) (vaV (emv 3) Ac))))))))),λA Q V h=>?_⟩);obtain⟨r,k,W,rfl,O,R,X,Y,q2⟩:=h;have U:=qp1 O;have Z:k.known=true:=by obtain⟨t,ht⟩:=R;exact qg0 ht
 refine At [r,k,.u,.u,.u] rfl ?_;refine qaC3 (qW0 (x:=r) (y:=k) (qc4 rfl U) (qc4 rfl Z) (qc4 rfl U) ⟨r,k,W,rfl,O,R,λh=>qa2 (a:=[r,k,.u,.u,.u]) rfl (X h),λh I=>qa2 (a:=[r,k,.u,.u,.u]) rfl (Y h I),λh I=>qa2 (a:=[r,k,.u,.u,.u]) rfl ?_⟩);obtain⟨o,n,wr,f,g,s,S,j,rfl,rfl,J,n2,hS,KP,q⟩:=q2 h I;have C:=numD I;have hg:∀i,i<n.toNat->∀x,g i=some x->An x:=λi hi x e=>hS x ((KP.h.2 x).mpr ⟨i,hi,e⟩);refine qb1 [Aw o a.Ca a.C8 n wr f g s,.int j,rL n g,.u,.u] (λK z=>qc6 (qac8 (p:=Aw o a.Ca a.C8 n wr f g s) (d:=rL n g) rfl (qF4 rfl) ⟨o,n,wr,f,g,s,rfl,rfl⟩ rfl z)) ?_;refine qb1 [Aw o a.Ca a.C8 n wr f g s,.int j,rL n g,.l false [],.u] (λK z=>z) ?_;refine qb9 (λA=>∃c B,A=[Aw o a.Ca a.C8 n wr f g s,.int j,rL n g,.l false c,B]/\Q (.q [.non,.l false c]) [Aw o a.Ca a.C8 n wr f g s,.int j]) (λK z=>?_) ?_;{refine qk6 (qe1 (y:=Ag true a.C8 n wr f) (Bd rfl qO9) rfl (qc3 (x:=.int j) rfl (qc0 (qa2 (a:=D.int j) rfl (qf5 (d:=.l false (nsD (En n wr f j))) ⟨true,n,wr,f,j,rfl,J,n2,C,rfl⟩ (qa2 (a:=[Aw o a.Ca a.C8 n wr f g s,.int j,rL n g,.l false [],.u]) rfl (qa2 (a:=nsD (En n wr f j)) rfl ⟨qaO8 _,?_⟩)))))));have E:=λr=>qaS9 (n:=n) (wr:=wr) (ps:=f) (k:=j) (r:=r) J;have G:=qW3 (n:=n) (wr:=wr) (ps:=f) (k:=j);unfold Hk at q;generalize En n wr f j=L at E G q;refine qe6 (λi A=>∃c B,A=[Aw o a.Ca a.C8 n wr f g s,.int j,rL n g,.l false c,B]/\c.length=i/\Q (Fh n wr f g j (L.drop i) c) [Aw o a.Ca a.C8 n wr f g s,.int j]) _ 0 _ ⟨[],_,rfl,rfl,q⟩ ?_ ?_;{rintro i y M A ⟨c,B,rfl,N,q⟩ K2 H;rw[zAh] at N H q;unfold nsD at M;rw[zAt] at M;obtain⟨r,v,rfl⟩:=zA8.mp M;have a0:=(zA6.mp v).1;have u:=E r (zAw v);rw[qat6 v] at q;unfold Fh at q;refine qu2 (At [Aw o a.Ca a.C8 n wr f g s,.int j,rL n g,.l false c,.int (r:Nat)] rfl ?_);refine qb1 [Aw o a.Ca a.C8 n wr f g s,.int j,rL n g,.l false (c++[D.q [D.int (r:Nat),A8 (g r)]]),.int (r:Nat)] (λK z=>qm7 (qS9 (ys:=c) (d:=.q [.int (r:Nat),A8 (g r)]) rfl (qap1 rfl (f2_of rfl rfl (Ee u)) rfl (qQ2 _)) (by unfold big;lia) z)) ?_;refine qg1 (decide (g r=some j)) (f2_of (f2_of rfl rfl (Ee u)) rfl qaQ6) (λh=>?_) λh=>?_;{rw[if_pos (zAn h)] at q;exact qg7 (qy5 (qe1 (y:=.int (r:Nat)) rfl rfl (qe2 (Gr (d:=.l false (c++[D.q [D.int (r:Nat),A8 (g r)]])) rfl (qc0 ⟨by show 1+1<=1000000;decide,q⟩)))))};rw[if_neg (zBp h)] at q;refine if_e (b:=Gs n wr f j r (g r)) (λQ V q=>qk6 (qe1 (y:=Ag true a.C8 n wr f) (Bd rfl qO9) rfl (qc3 (x:=.int j) rfl (qc3 (x:=.int (r:Nat)) rfl (qe1 (y:=A8 (g r)) (f2_of rfl rfl (Ee u)) (qQ2 _) (qc0 (qa2 (a:=D.int (r:Nat)) rfl (qa2 (a:=D.int j) rfl (qf5 (d:=.bl (Gs n wr f j r (g r))) ⟨true,n,wr,f,j,r,g r,rfl,J,u,C,hg r u,rfl⟩ (qa2 (a:=[Aw o a.Ca a.C8 n wr f g s,.int j,rL n g,.l false (c++[D.q [D.int (r:Nat),A8 (g r)]]),.int (r:Nat)]) rfl q)))))))))) (λh=>?_) λh=>?_;{rw[if_pos h] at q;exact z _ ⟨_,_,rfl,q⟩};rw[if_neg (by rw[h];decide)] at q;exact H _ ⟨_,_,rfl,by rw[zAf,N];rfl,q⟩};rintro A ⟨c,B,rfl,N,q⟩;rw[zAh,show (nsD L).length=L.length from zAb _,Mh] at q;exact z _ ⟨c,B,rfl,q⟩};rintro A ⟨c,B,rfl,q⟩;exact qg7 (qy5 (qe0 (y:=.non) rfl (qe2 (Gr (d:=.l false c) rfl (qc0 ⟨by show 1+1<=1000000;decide,q⟩)))))
theorem qaH8:qa8 ["_law_script"] ["_law_script"] (qa3 qaw5):=by walk_at "s"
theorem qaM2(T:Txt K mg a):Fi P w K mg base CX0 1 a.f28 a.d28 ["_law_script"] (qaT5 K):=by
 refine T.d28.F.ok qaH8 (λJ H Q E h=>?_) (λL A outer s H J Q E O h=>?_);{obtain⟨l,d,rfl,_⟩:=h;rfl};obtain⟨l,d,rfl,M,R,k⟩:=h;refine⟨_,(qaa1 (qaJ2 (qax9 (qe7 qE0 (qe7 qE0 (qe7 qE0 (qe7 (qw6 ["_law_cell"] [none] (qs7 (qaa7 qap6 (pv 0) qaq8 (qaq7 qE0))) (λC B H0 G=>(gnm 0 (show (["_law_cell"]:List Str).Nodup by decide +kernel))) (λC B H0 G=>qaK0) (λC B H0 G=>(cbi qaE1 T.E5 (qe7 (pv 0) qu0)))) qu0))))))),?_⟩;refine⟨_,rfl,_,rfl,l,_,rfl,M,λc N=>?_⟩;have ec:Hm (d.map V.int) none (some 63)=d.map V.int:=by unfold Hm;have t:HT.sIx (d.map V.int).length (d.map V.int).length (some (63:Int))=min 63 (d.map V.int).length:=HT.qap8 _ _ 63;rw[t,HT.qZ4,Mt,Nat.sub_zero];apply zAu;rw[zAb];lia
 rw[ec];refine⟨c,rfl,⟨_,SqL.of qb3⟩,λD r=>?_⟩;have I:D≠c:=λz=>by rw[z,qb3] at r;cases r
 have g:H D=none:=by rw[qb4 I] at r;exact r
 refine qR9 (K:=K) (xs:=d.map V.int) (λi σ H1=>∃v,σ=[v]/\H1=upd (upd H c (.l (d.map V.int))) D (.l (((d.take i).map λn=>if n<0 then -n else n).map V.int))) ⟨none,rfl,rfl⟩ ?_ ?_ ?_;{rintro i σ H1 _ ⟨v,rfl,rfl⟩;refine SqL.of ?_;rw[qb4 I.symm,qb3]}
 .rintro i x σ H1 j ⟨v,rfl,rfl⟩;obtain⟨n,u,rfl⟩:∃n,d[i]?=some n/\V.int n=x:=by rw[zAt] at j;cases e:d[i]? with|none=>rw[e] at j;cases j|some z=>rw[e] at j;exact⟨z,rfl,N8 j⟩
  refine⟨_,rfl,_,rfl,_,qb3,?_,_,rfl,?_⟩;{rw[zAb,zAb,zBz];exact qai7 ⋯};rw[qaF5];congr 1;rw[zBu,u];simp
 rintro σ H1 ⟨v,rfl,rfl⟩;rw[zAb,zAu (zA3 _)];refine⟨by show 4<=Kx;decide,λp f=>?_⟩;have q:p≠D:=λz=>by rw[z,qb3] at f;cases f
 rw[qb4 q] at f;have y:p≠c:=λz=>by rw[z,qb3] at f;cases f
 rw[qb4 y] at f;refine k p D _ f g (λb o e=>?_) ⟨0,1234567891,0,d.map λn=>if n<0 then -n else n,qb3,?_,∅,∅,∅,∅,?_⟩;{rw[qb4 (qc2 e f),qb4 (qc2 e g),qb4 (qc2 e N)];exact e};{rw[qb4 q.symm,qb3]};intro n u;obtain⟨m,_,rfl⟩:=zB4.mp u;split<;>lia
theorem qr2:qa8 ["_law_shape", "_law_key", "_law_rooms", "_law_wraps", "_law_homes_here", "_law_one", "_law_number"] ["_law_shape", "_law_key"] (qa3 qZ2):=by walk_at "s"
theorem Jg{a b c:Nat}{z:D}(h:rdN i ds=some (.q [x,y,z]))(hi:(D.q [x,y,z]).imm=true)(q:e.nx (((ds.set a x).set b y).set c z)):Em (Bo (rdN i)) (Gj 3 (qp4 (gNm a) (qp4 (gNm b) (qp4 (gNm c) Gi)))) e ds:=qn5 (Q:=λd f=>Gj 3 (qp4 (gNm a) (qp4 (gNm b) (qp4 (gNm c) Gi))) d f e.nx) h hi ⟨rfl,q⟩
theorem qar9{k m:Int}:∀{ps:Pr}{i:Nat},ps[i]?=some (k,m)->(∀p∈ps.take i,p.1≠k)->ps.lookup k=some m|[],_,h,_=>by cases h|p::r,0,h,_=>by cases h;rw[zAp,zBb]|p::r,i+1,h,hn=>by have a:=hn p zA9;rw[zAp,show (k==p.1)=false from zBm.mpr λz=>a z.symm];exact qar9 (i:=i) h λq b=>hn q (zA4 _ b)
theorem qC2{k:Int}:∀{ps:Pr},(∀p∈ps,p.1≠k)->ps.lookup k=none|[],_=>rfl|p::r,hn=>by rw[zAp,show (k==p.1)=false from zBm.mpr λz=>hn p zA9 z.symm];exact qC2 λq a=>hn q (zA4 _ a)
def qav7:VSp:=A5 λds d=>∃n wr ps k,ds=[Ad n wr ps,.int k]/\1<=n/\d=.int (qe5 n ps k)
theorem qC1(T:Txt K mg a):VFn P w K mg base 1 a.f30 a.d30 ["_law_shape", "_law_key"] qav7:=by
 refine VFn.mk2 T.d30.F qr2 (wOf [true,true]) qb0 (by walk_at "l") (λ_ _ _ _ _ _ _ A=>⟨_,(Aa (E9 (qb8 (vnm 0)) (Br (n:=3) rfl (qc8 (Ax 2 qr2.nd) (qc8 (Ax 3 qr2.nd) (qc8 (Ax 4 qr2.nd) Bq))))) (Aa (sforP N9 (vpn 4) (Br (n:=2) rfl (qc8 (Ax 5 qr2.nd) (qc8 (Ax 6 qr2.nd) Bq))) (Aj (sif (q2 (Aq (qe3 A.u64) (qa9 _)) A9 (vnm 5) (vnm 1)) (Aj (As (qa4 (v2 (Ah qg9) qg8 (vnm 6) (vnm 2))))) Au))) (Aj (As (qa4 (v2 (Ah qg9) qg8 (vnm 1) (vnm 2))))))),λf Q B h=>?_⟩);obtain⟨d,⟨n,wr,c,k,rfl,C,rfl⟩,q⟩:=h;refine At [Ad n wr c,.int k,.u,.u,.u,.u,.u] rfl ?_;refine qb1 [Ad n wr c,.int k,.int n,.bl wr,.l true (O7 c),.u,.u] (λK t=>Jg rfl rfl t) ?_;refine qb9 (λf=>∃g j,f=[Ad n wr c,.int k,.int n,.bl wr,.l true (O7 c),g,j]/\c.lookup k=none) (λK t=>?_) ?_
 .refine qa2 (a:=(4,[])) rfl (qa2 (a:=D.l true (O7 c)) rfl (qa2 (a:=O7 c) rfl ⟨qp2 c,λw=>?_⟩));refine qe6 (λi f=>∃g j,f=[Ad n wr c,.int k,.int n,.bl wr,.hole w,g,j]/\∀p∈c.take i,p.1≠k) _ 0 _ ⟨_,_,rfl,nofun⟩ ?_ ?_
  .rintro i y u f ⟨g,j,rfl,o⟩ K2 r;rw[zAh] at o r;unfold O7 at u;rw[zAt] at u;obtain⟨⟨x,m⟩,v,rfl⟩:=zA8.mp u;refine ql7 (At [Ad n wr c,.int k,.int n,.bl wr,.hole w,.int x,.int m] rfl ?_);refine if_v (b:=decide (x=k)) rfl (λh=>?_) λh=>r _ ⟨_,_,rfl,?_⟩
   .obtain rfl:=zAn h;refine qg5 (.int (m%n)) (f2_of rfl rfl (modP ⋯)) (qa2 (qag1 rfl) ?_);have e:qe5 n c x=m%n:=by unfold qe5;rw[qar9 v o];rfl
    rw[<-e];exact q
   intro p s;rw[zBu,v] at s;rcases zAd.mp s with z|z;{exact o p z};cases zAk.mp z;exact zBp h
  rintro f ⟨g,j,rfl,o⟩;rw[zAh,show (O7 c).length=c.length from zAb _,Mp] at o;exact qa2 (qag1 rfl) (t _ ⟨g,j,rfl,qC2 o⟩)
 rintro f ⟨g,j,rfl,e⟩;refine qg5 (.int (k%n)) (f2_of rfl rfl (modP ⋯)) ?_;have e:qe5 n c k=k%n:=by unfold qe5;rw[e];rfl
 rw[<-e];exact q
theorem qd8:qa8 ["_law_shape", "_law_keys", "_law_rooms", "_law_wraps", "_law_homes_here", "_law_many", "_law_key", "_law_found", "_law_goes", "_law_spot"] ["_law_shape", "_law_keys"] (qa3 qB6):=by walk_at "s"
theorem qaD7:Ef hm (S++[k]) r=if r=hm k then Ef hm S r+1 else Ef hm S r:=by unfold Ef;rw[Nd,zAf];by_cases h:r=hm k;{rw[if_pos h];simp[h]};rw[if_neg h];simpa using λz=>h z.symm
def onT(n:Int)(ps:Pr)(ks:List Int):Nat->Int:=onC (cR n.toNat (O3 n ps) ks)
def passT(n:Int)(ps:Pr)(ks:List Int)(i m:Nat):List Int:=(Mc m).map λr=>onT n ps ks (n.toNat*i+r+1)
theorem qP5{n:Int}(h:1<=n)(j:Nat):Gx (.int (j:Nat)) (.int n)=some (.int (j%n.toNat:Nat)):=by rw[modP ⋯];have:((j:Nat):Int)%((n.toNat:Nat):Int)=(j%n.toNat:Nat):=⋯;rw[show ((n.toNat:Nat):Int)=n by lia] at this;rw[this]
theorem qaU0{x:Int}:(O5 L).set r (.int x)=O5 (L.set r x):=by unfold O5;rw[List.map_set]
theorem qaF0{n:Int}:psD n.toNat (λ_=>0)=O5 (Ma n.toNat 0):=by rw[qaV3];congr 1;apply List.ext_getElem?;intro j;rw[zAt];by_cases h:j<n.toNat;{rw[zBt h,List.getElem?_replicate_of_lt h];rfl};rw[zB2 (by simp;lia),zB2 (by simp;lia)];rfl
theorem qaZ7(a:L.length=N)(h:r<N):ixN (O5 L).length (r:Int)=some r:=by rw[qm5,a];unfold ixN;simp[h]
theorem qaB9{n:Int}{ps:Pr}{w:Nat}(h1:1<=n)(b:L.length=n.toNat)(h:∀t,n.toNat*(w+1)<=t+n.toNat->t<n.toNat*(w+1)->L[t%n.toNat]?=some (onT n ps ks (t+1))):L=passT n ps ks w n.toNat:=by
 apply List.ext_getElem?;intro r;unfold passT;rw[zAt];by_cases a:r<n.toNat
 .have e:n.toNat*(w+1)=n.toNat*w+n.toNat:=by rw[Nat.mul_add,Nat.mul_one]
  have:=h (n.toNat*w+r) ⋯ ⋯;rw[Nat.mul_add_mod,zBq a] at this;rw[this,zBt a];rfl
 rw[zB2 ⋯,zB2 (by rw[zBv];lia)];rfl
theorem qR1(h:0<N):ks.length<=N↔∀q,¬Crowd N true hm ks q:=by constructor;{intro a q c;have c:=c.2;rw[if_pos rfl] at c;lia};intro b;have:=b 0;by_cases a:ks.length<=N;{exact a};exact absurd ⟨h,by rw[if_pos rfl];exact⟨rfl,⋯⟩⟩ this
theorem qat3{wr:Bool}(h:0<N)(a:∀q,¬Crowd N wr hm ks q):ks.length<=N:=by cases wr with|true=>exact(qR1 h).mpr a|false=>by_cases b:ks.length<=N;{exact b};refine absurd ⟨h,?_⟩ (a 0);rw[if_neg ∅,List.filter_eq_self.mpr λ_ _=>zAo (zBi _)];lia
def qY0:VSp:=A5 λds d=>∃n wr ps z ks,ds=[Ad n wr ps,.l z (O5 ks)]/\1<=n/\n<=64/\d=.l false (O5 (passT n ps ks wr.toNat n.toNat))
abbrev qh1(n:Int)(wr:Bool)(ps:Pr) (z) (ks) (a b c d:D):=([Ad n wr ps,.l z (O5 ks),.int n,.bl wr,.l true (O7 ps),.l false (psD n.toNat (Ef (O3 n ps) ks)),a,b,c,d]:Ds)
theorem qE4(T:Txt K mg a):VFn P w K mg base 2 a.f33 a.d33 ["_law_shape", "_law_keys"] qY0:=by
 refine VFn.mk2 T.d33.F qd8 (wOf [true,true]) qb0 (by walk_at "l") (λ_ _ _ _ _ _ _ A=>⟨_,(Aa (E9 (qb8 (vnm 0)) (Br (n:=3) rfl (qc8 (Ax 2 qd8.nd) (qc8 (Ax 3 qd8.nd) (qc8 (Ax 4 qd8.nd) Bq))))) (Aa (Al 5 qd8.nd (qa4 (v2 (Ah qk8) qk7 (Bl (qa0 Ae qa6 rfl)) (vnm 2)))) (Aa (sforP N9 (vpn 1) (Ax 6 qd8.nd) (Aj (saugE 5 (Ak T.d30 (qC1 T) qa1 (rm A) (vaN 0 (vaN 6 Ac))) Ae qaO3))) (Aa (Al 7 qd8.nd (qa4 (v2 (Ah qk8) qk7 (Bl (qa0 Ae qa6 rfl)) (vnm 2)))) (Aa (Al 8 qd8.nd (qa4 Ae)) (Aa (qY6 N9 T.Cs (Fb (vaV (qa4 (v2 (Ah qk8) qk7 (vnm 2) (v2 (Ah qf2) qf1 Ae (Fm qu8 qan7.ops T.De (qa0 (vnm 3) qa6 rfl))))) Ac)) (Ax 9 qd8.nd) (Aa (Al 8 qd8.nd (qa4 (vbi (qS2 rfl) qat7.ops T.Dy (qa0 Ae (qa0 (v2 (Ah qz2) qz1 (v2 (Ah qf2) qf1 (vnm 8) (v2 (A4 qb7) Ap (vnm 5) (v2 (Ah qg9) qg8 (vnm 9) (vnm 2)))) Ae) qa6 rfl) rfl)))) (Aj (E9 (qb8 (vnm 8)) (Gm (vpn 7) (v2 (Ah qg9) qg8 (vnm 9) (vnm 2))))))) (Aj (As (emv 7))))))))),λf Q S h=>?_⟩);obtain⟨d,⟨n,wr,b,z,c,rfl,s,C,rfl⟩,q⟩:=h;have G:=Eh (ps:=b) s;refine At [Ad n wr b,.l z (O5 c),.u,.u,.u,.u,.u,.u,.u,.u] rfl ?_;refine qb1 [Ad n wr b,.l z (O5 c),.int n,.bl wr,.l true (O7 b),.u,.u,.u,.u,.u] (λK o=>Jg rfl rfl o) ?_;refine qb1 [Ad n wr b,.l z (O5 c),.int n,.bl wr,.l true (O7 b),.l false (psD n.toNat λ_=>0),.u,.u,.u,.u] (λK o=>ql1 (f2_of rfl (y:=.int n) rfl (mul_zero ⋯ C)) o) ?_;refine qb9 (λf=>∃m,f=(qh1 n wr b z c m .u .u .u)) (λK o=>?_) ?_
 .refine qa2 (a:=(1,[])) rfl (qa2 (a:=D.l z (O5 c)) rfl (qa2 (a:=O5 c) rfl ⟨qp3 c,λw=>?_⟩));refine qe6 (λi f=>∃m,f=[Ad n wr b,.hole w,.int n,.bl wr,.l true (O7 b),.l false (psD n.toNat (Ef (O3 n b) (c.take i))),m,.u,.u,.u]) _ 0 _ ⟨_,rfl⟩ ?_ ?_
  .rintro i y H f ⟨m,rfl⟩ K2 p;rw[zAh] at p ⊢;obtain⟨k,I,rfl⟩:=qaN8 H;have J:=qQ3 s b k;refine qu2 (At [Ad n wr b,.hole w,.int n,.bl wr,.l true (O7 b),.l false (psD n.toNat (Ef (O3 n b) (c.take i))),.int k,.u,.u,.u] rfl ?_);refine⟨rfl,qs2 (x:=Ad n wr b) (y:=.int k) (d:=.int (qe5 n b k)) rfl rfl rfl ⟨n,wr,b,k,rfl,s,rfl⟩ rfl (qa2 (a:=qe5 n b k) rfl (qa2 (a:=psD n.toNat (Ef (O3 n b) (c.take i))) rfl ⟨J.1,qa2 (a:=((Ef (O3 n b) (c.take i) (O3 n b k):Nat):Int)) ?_ (qa2 (a:=1) rfl ?_)⟩))⟩;{show ((psD n.toNat (Ef (O3 n b) (c.take i)))[O3 n b k]?).bind D.asI=_;rw[qal8 (G k)];rfl};have e:(psD n.toNat (Ef (O3 n b) (c.take i))).set (O3 n b k) (.int (((Ef (O3 n b) (c.take i) (O3 n b k):Nat):Int)+1))=psD n.toNat (Ef (O3 n b) (c.take (i+1))):=by rw[qaT9,qX1 I];exact qax1 λr _=>qaD7.symm
   refine p _ ⟨.int k,?_⟩;rw[<-e];rfl
  rintro f ⟨m,rfl⟩;rw[zAh,qm5,Mp];exact qa2 (qag1 rfl) (o _ ⟨m,rfl⟩)
 rintro f ⟨m,rfl⟩;refine qb1 (qh1 n wr b z c m (kL (Ma n.toNat 0)) .u .u) (λK o=>ql1 (f2_of rfl (y:=.int n) rfl ((mul_zero ⋯ C).trans (congrArg (λl=>some (D.l false l)) qaF0))) o) ?_;refine qb1 (qh1 n wr b z c m (kL (Ma n.toNat 0)) (.int 0) .u) (λK o=>o) ?_;refine qb9 (λf=>∃E u,f=(qh1 n wr b z c m (kL (passT n b c wr.toNat n.toNat)) E u)) (λK o=>?_) ?_
 .have M:n*(1+(wr.toNat:Int))=((n.toNat*(wr.toNat+1):Nat):Int):=by rw[Int.natCast_mul,show ((n.toNat:Nat):Int)=n by lia,show ((wr.toNat+1:Nat):Int)=1+(wr.toNat:Int) by lia]
  have U:n.toNat*(wr.toNat+1)<=128:=by cases wr<;>simp only[Bool.toNat_true,Bool.toNat_false]<;>lia
  refine qQ9 (n:=((n.toNat*(wr.toNat+1):Nat):Int)) (f2_of (x:=.int n) (y:=.int (1+(wr.toNat:Int))) rfl (by cases wr<;>rfl) ((Hh (by cases wr<;>rfl)).trans (by rw[M]))) (qL6 ⋯ ⋯) ?_;refine qe6 (λj f=>∃L u,f=(qh1 n wr b z c m (kL L) (.int (onT n b c j)) u)/\L.length=n.toNat/\∀t,j<=t+n.toNat->t<j->L[t%n.toNat]?=some (onT n b c (t+1))) _ 0 _ ⟨_,_,rfl,List.length_replicate,λt _ h=>absurd h (Nat.not_lt_zero _)⟩ ?_ ?_
  .rintro j x N f ⟨L,u,rfl,B,v⟩ K2 p;rw[zAh] at p v;rw[zAh];obtain⟨V,rfl⟩:=qaj1 N;have A:j%n.toNat<n.toNat:=Nat.mod_lt _ ⋯;refine qu2 (At (qh1 n wr b z c m (kL L) (.int (onT n b c j)) (.int (j:Nat))) rfl ?_);refine qb1 (qh1 n wr b z c m (kL L) (.int (onT n b c (j+1))) (.int (j:Nat))) (λK o=>ql1 ?_ o) ?_;{have e:=f2_of (g:=gSub) (y:=.int 1) (fb:=kC (.int 1)) (f2_of (g:=Gw) (fa:=rdN 8) (ds:=[Ad n wr b,.l z (O5 c),.int n,.bl wr,.l true (O7 b),.l false (psD n.toNat (Ef (O3 n b) c)),m,kL L,.int (onT n b c j),.int (j:Nat)]) (x:=.int (onT n b c j)) rfl (f2_of (g:=gIx) (fa:=rdN 5) rfl (f2_of (g:=Gx) (fa:=rdN 9) (fb:=rdN 2) rfl rfl (qP5 s j)) (ix_ps A)) rfl) rfl rfl;unfold Ay Am;rw[e];rfl};refine qX7 (ys:=O5 L) (d:=.int (onT n b c (j+1))) (k:=(j%n.toNat:Nat)) rfl rfl rfl (f2_of rfl rfl (qP5 s j)) (qaZ7 B A) ?_;rw[qaU0];refine p _ ⟨L.set (j%n.toNat) (onT n b c (j+1)),_,rfl,by rw[zC3];exact B,λt W X=>?_⟩;by_cases e:t=j;{subst e;rw[zBk ⋯]};have O:=v t ⋯ ⋯;rw[zB6 λz=>?_];{exact O};have R:(j-t)%n.toNat=0:=by have:=Nat.sub_mod_eq_zero_of_mod_eq z;exact this
   rw[zBq ⋯] at R;lia
  rintro f ⟨L,u,rfl,B,v⟩;rw[zAh,qA5,Int.toNat_natCast] at v;rw[qaB9 s B v];exact o _ ⟨_,_,rfl⟩
 rintro f ⟨E,u,rfl⟩;exact q
theorem qd1:qa8 ["_law_shape", "_law_keys", "_law_rooms", "_law_wraps", "_law_homes_here", "_law_start", "_law_found", "_law_spot", "_law_way", "_law_key"] ["_law_shape", "_law_keys"] (qa3 qB8):=by walk_at "s"
theorem qar5:∀ps:List (Int×Int),(O7 ps).mapM Jf=some ps|[]=>rfl|p::r=>by show List.mapM Jf (D.q [.int p.1,.int p.2]::O7 r)=_;rw[Np,qar5 r];rfl
theorem qai5{L:Pr}{f:Int->Int}(e:L=S.map λk=>(f k,k))(a:S.Nodup)(b:S.length<=64):qat0 (.l z (O7 L))=some (.l false (O7 (Er L))):=by show ((O7 _).mapM Jf).bind _=_;rw[qar5];refine qg4 ⟨?_,by rw[e,zAb];exact b⟩;rw[e];exact zCe.mpr (a.imp λh z=>h (congrArg Prod.snd z))
theorem qab2{f:Int->Nat}:((Er (ks.map λk=>(((f k:Nat):Int),k))).map (·.2)).Perm ks:=by have h:((Er (ks.map λk=>(((f k:Nat):Int),k))).map (·.2)).Perm ((ks.map λk=>(((f k:Nat):Int),k)).map (·.2)):=(M9 _ _).map _;rw[zC7] at h;have e:ks.map ((·.2) ∘ λk=>(((f k:Nat):Int),k))=ks:=List.map_id ks;rwa[e] at h
theorem qab3{f:Int->Nat}{p:Int×Int}(a:p∈Er (ks.map λk=>(((f k:Nat):Int),k))):p.1=(f p.2:Nat):=by rw[List.mem_mergeSort] at a;obtain⟨k,_,rfl⟩:=zB4.mp a;rfl
theorem qaW8{f:Int->Nat}(b:ks.Nodup):((Er (ks.map λk=>(((f k:Nat):Int),k))).map (·.2)).Pairwise (Jv f):=by have a:=(qab2 (f:=f)).nodup_iff.mpr b;unfold List.Nodup at a;rw[zCe] at a ⊢;refine((qY4 _).and a).imp_of_mem λ{p q} c d h=>?_;have g:=qab3 c;have i:=qab3 d;have e:=h.1;simp only[S6.plt,decide_eq_false_iff_not] at e;have j:=h.2;unfold Jv;lia
theorem qba3{z:Bool}:∀{L R:List Int},¬k∈L->gIdx (.l z (O5 (L++k::R))) (.int k)=some (.int (L.length:Nat)):=by
 intro L R h;have e:Hd (.int k) ((L++k::R).map V.int)=some L.length:=by induction L with|nil=>show (if decide (k=k)=true then some 0 else _)=_;rw[if_pos (zAo rfl)];rfl|cons a L b=>rw[zAa,not_or] at h;show (if decide (a=k)=true then some 0 else (Hd (.int k) ((L++k::R).map V.int)).map (· + 1))=_;rw[if_neg (by simpa using λz=>h.1 z.symm),b h.2];rfl
 show ((flats (O5 (L++k::R))).bind λc=>(Hd (.int k) c).map λj=>D.int (j:Nat))=_;rw[qM5];show (Hd (.int k) ((L++k::R).map V.int)).map (λj=>D.int (j:Nat))=_;rw[e];rfl
def qY2:VSp:=λds Q _=>∃n wr ps z ks,ds=[Ad n wr ps,.l z (O5 ks)]/\1<=n/\n<=64/\ks.Nodup/\(∀q,¬Crowd n.toNat wr (O3 n ps) ks q)/\∀g,Kept n.toNat wr (O3 n ps) g ks->Q (rL n g) ds
theorem qE5(T:Txt K mg a):VFn P w K mg base 3 a.f35 a.d35 ["_law_shape", "_law_keys"] qY2:=by
 refine VFn.mk2 T.d35.F qd1 (wOf [true,true]) (by walk_at "m") (by walk_at "l") (λ_ _ _ _ _ _ _ u=>⟨_,(Aa (E9 (qb8 (vnm 0)) (Br (n:=3) rfl (qc8 (Ax 2 qd1.nd) (qc8 (Ax 3 qd1.nd) (qc8 (Ax 4 qd1.nd) Bq))))) (Aa (Al 5 qd1.nd (qa4 Ae)) (Aa (sif (tv (vnm 3)) (Aj (Al 5 qd1.nd (e2v (Ah qg9) qg8 (e2v (Ah qf2) qf1 (ebm qaW6 Oc On PySem.F.type_list_index qaz4 (Ak T.d33 (qE4 T) qa1 (rm u) (vaN 0 (vaN 1 Ac))) Ae qaO9) Ae) (vnm 2)))) Au) (Aa (Al 6 qd1.nd (qa4 (v2 (Ah qk8) qk7 (Bl (qa0 Bc qa6 rfl)) (vnm 2)))) (Aa (Al 7 qd1.nd (qa4 (vneg Ae))) (Aa (Il N9 (ebi qaf8 qaD4.ops T.Dn (Fb (vaV (ecN (NY:=["_law_key", "_law_rooms", "_law_start", "_law_shape"]) (src:=[none,some 2,some 5,some 0]) 1 (blk (λav C s0 H0 ex=>(Ax 0 (show (["_law_key", "_law_rooms", "_law_start", "_law_shape"]:List Str).Nodup by decide +kernel))) (λav C s0 H0 ex=>Ex) (λav C s0 H0 ex=>(Ft (vaV (e2v (Ah qg9) qg8 (e2v (Ah qz2) qz1 (Ak T.d30 (qC1 T) qs5 (rm u) (vaN 3 (vaN 0 Ac))) (vnm 2)) (vnm 1)) (vaV (qb8 (vnm 0)) Ac)))))) Ac))) (Br (n:=2) rfl (qc8 (Ax 8 qd1.nd) (qc8 (Ax 9 qd1.nd) Bq))) (Aa (Al 7 qd1.nd (qa4 (vbi (qS2 rfl) qat7.ops T.Dy (qa0 (vnm 8) (qa0 (v2 (Ah qf2) qf1 (vnm 7) Ae) qa6 rfl) rfl)))) (Aj (E9 (qb8 (vnm 9)) (Gm (vpn 6) (v2 (Ah qg9) qg8 (v2 (Ah qf2) qf1 (vnm 5) (vnm 7)) (vnm 2))))))) (Aj (As (emv 6))))))))),λv Q xe h=>?_⟩);obtain⟨n,wr,j,z,o,rfl,H,n2,I,nc,q⟩:=h;have J:=Eh (ps:=j) H;have a0:=qat3 ⋯ nc;refine At [Ad n wr j,.l z (O5 o),.u,.u,.u,.u,.u,.u,.u,.u] rfl ?_;refine qb1 [Ad n wr j,.l z (O5 o),.int n,.bl wr,.l true (O7 j),.u,.u,.u,.u,.u] (λK t=>Jg rfl rfl t) ?_;refine qb1 [Ad n wr j,.l z (O5 o),.int n,.bl wr,.l true (O7 j),.int 0,.u,.u,.u,.u] (λK t=>t) ?_;refine qb9 (λv=>∃s:Nat,v=[Ad n wr j,.l z (O5 o),.int n,.bl wr,.l true (O7 j),.int (s:Nat),.u,.u,.u,.u]/\s<n.toNat/\(wr=false->s=0)/\∀q,¬Crowd n.toNat false (λk=>Af n.toNat s (O3 n j k)) o q) (λK t=>?_) ?_
 .refine if_v (b:=wr) rfl (λM=>?_) λM=>t _ ⟨0,rfl,⋯,λ_=>rfl,?_⟩
  .subst M;obtain⟨r,u,h0⟩:=qay8 (T:=o) ⋯ J a0;have hm:(0:Int)∈passT n j o 1 n.toNat:=zB4.mpr ⟨r,zB7.mpr u,by rw[Nat.mul_one];exact h0⟩;obtain⟨L,R,N,nL⟩:=List.eq_append_cons_of_mem hm;have O:L.length<n.toNat:=by have:=congrArg Mf N;unfold passT at this;simp at this;lia
   have X:onT n j o (n.toNat+L.length+1)=0:=by
    have:(passT n j o 1 n.toNat)[L.length]?=some 0:=by rw[N];simp
    unfold passT at this;rw[zAt,zBt O,Nat.mul_one] at this;exact N8 this
   refine qc6 (qn9 (qn9 (qn9 (qs2 (x:=Ad n true j) (y:=.l z (O5 o)) rfl rfl rfl ⟨n,true,j,z,o,rfl,H,n2,rfl⟩ rfl (qa2 (a:=D.int (L.length:Nat)) ?_ (qa2 (a:=D.int ((L.length+1:Nat):Int)) rfl (qa2 (a:=D.int (((L.length+1)%n.toNat:Nat):Int)) (qP5 H _) (t _ ⟨(L.length+1)%n.toNat,rfl,Nat.mod_lt _ ⋯,λh=>absurd h ∅,qE7 O J X⟩))))))));show gIdx (kL (passT n j o 1 n.toNat)) (.int 0)=_;rw[N];exact qba3 nL
  subst M;rw[show (λk=>Af n.toNat 0 (O3 n j k))=O3 n j from funext λk=>Ib];exact nc
 rintro v ⟨s,rfl,A,M,a1⟩;refine qb1 [Ad n wr j,.l z (O5 o),.int n,.bl wr,.l true (O7 j),.int (s:Nat),.l false (O6 n.toNat λ_=>none),.u,.u,.u] (λK t=>ql1 (f2_of rfl (y:=.int n) rfl (qab9 ⋯ n2)) t) ?_;refine qb1 [Ad n wr j,.l z (O5 o),.int n,.bl wr,.l true (O7 j),.int (s:Nat),.l false (O6 n.toNat λ_=>none),.int (-1),.u,.u] (λK t=>t) ?_;refine qb9 (λv=>∃g d5 E G,v=[Ad n wr j,.l z (O5 o),.int n,.bl wr,.l true (O7 j),.int (s:Nat),rL n g,d5,E,G]/\Kept n.toNat wr (O3 n j) g o) (λK t=>?_) ?_
 .refine Ix (qe2 (qa2 (a:=D.l z (O5 o)) rfl (qa2 (a:=O5 o) rfl ⟨qp3 o,?_⟩)));refine qk5 (λι=>∃d,ι=[d,.int n,.int (s:Nat),Ad n wr j]) (λx=>some (match x with | .int k=>.q [.int (Af n.toNat s (O3 n j k):Nat),.int k] | d=>d)) _ [] _ (by show 0+_<1000000;rw[qm5];lia) ⟨_,rfl⟩ ?_ ?_;{rintro y S ι a4 ⟨d,rfl⟩ R hR U;obtain⟨k,_,rfl⟩:=zB4.mp S;have this:=hR [.int k,.int n,.int (s:Nat),Ad n wr j] ⟨_,rfl⟩;refine qu2 (qT1 (Bh rfl (qe2 (qn9 (qn9 (qs2 (x:=Ad n wr j) (y:=.int k) (d:=.int (qe5 n j k)) rfl rfl rfl ⟨n,wr,j,k,rfl,H,rfl⟩ rfl ?_))))));refine qa2 (a:=D.int (qe5 n j k-(s:Nat))) rfl (qa2 (a:=D.int (Af n.toNat s (O3 n j k):Nat)) ((modP ⋯).trans ?_) (qe1 (y:=.int k) rfl rfl (qc0 ⟨lt2,U,this⟩)));have X:=qaz5 (s:=s) (J k) ⋯;rw[qQ4 H k,show ((n.toNat:Nat):Int)=n by lia,zBq A] at X;rw[X]};rintro ι ⟨d,rfl⟩;rw[zBa,qG3];have N:((O5 o).map λx=>match x with | .int k=>D.q [.int (Af n.toNat (s) (O3 n j k):Nat),.int k] | d=>d)=O7 (o.map λk=>((Af n.toNat (s) (O3 n j k):Nat),k)):=by unfold O5 O7;rw[zC7,zC7];rfl
  rw[N];have pw:=qaW8 (f:=λk=>Af n.toNat (s) (O3 n j k)) I;have Y:=qab2 (f:=λk=>Af n.toNat (s) (O3 n j k)) (ks:=o);have of:=λp=>qab3 (f:=λk=>Af n.toNat (s) (O3 n j k)) (ks:=o) (p:=p);have es:=qai5 (z:=false) (L:=o.map λk=>(((Af n.toNat (s) (O3 n j k):Nat):Int),k)) rfl I ⋯;generalize Er (o.map λk=>(((Af n.toNat (s) (O3 n j k):Nat):Int),k))=L at pw Y of es;refine qc0 (qa2 (a:=D.l false (O7 L)) es (qa2 (a:=O7 L) rfl ⟨qp2 L,?_⟩));refine qe6 (λi v=>∃g top E G,v=[Ad n wr j,.l z (O5 o),.int n,.bl wr,.l true (O7 j),.int (s:Nat),.l false (O6 n.toNat λi=>g (Af n.toNat (s) i)),.int ((top:Nat)-1:Int),E,G]/\Fill n.toNat (λk=>Af n.toNat (s) (O3 n j k)) g ((L.take i).map (·.2)) top) _ 0 _ ⟨_,0,_,_,rfl,Fill.start ⋯ λk=>qG7 (J k) A⟩ ?_ ?_
  .rintro i y S v ⟨g,top,E,G,rfl,F⟩ K2 V;rw[zAh] at F V;unfold O7 at S;rw[zAt] at S;obtain⟨⟨h0,k⟩,Z,rfl⟩:=zA8.mp S;obtain rfl:h0=((Af n.toNat (s) (O3 n j k):Nat):Int):=of _ (zAw Z);have a2:=(zA6.mp Z).1;have a3:L.map (·.2)=((L.take i).map (·.2)++[k])++(L.drop (i+1)).map (·.2):=by
    conv=>lhs;rw[<-zBf i L,zCb a2,(zA6.mp Z).2]
    simp
   have tk:(L.take (i+1)).map (·.2)=(L.take i).map (·.2)++[k]:=by rw[zBu,Z,zBc];rfl
   rw[a3] at pw Y;have B:∀x∈(L.take i).map (·.2),Jv (λk=>Af n.toNat (s) (O3 n j k)) x k:=λx hx=>(List.pairwise_append.mp (List.pairwise_append.mp pw).1).2.2 x hx k (zAk.mpr rfl);have nk:¬k∈(L.take i).map (·.2):=λh=>by rcases B k h with z|z<;>lia
   have u:=F.room B λq c=>a1 q ((c.mono (M1 _ _)).perm Y);have F':=F.put nk B u;generalize er:max top (Af n.toNat (s) (O3 n j k))=r at u F';refine ql7 (At [Ad n wr j,.l z (O5 o),.int n,.bl wr,.l true (O7 j),.int (s:Nat),.l false (O6 n.toNat λi=>g (Af n.toNat (s) i)),.int ((top:Nat)-1:Int),.int (Af n.toNat (s) (O3 n j k):Nat),.int k] rfl ?_);refine qb1 [Ad n wr j,.l z (O5 o),.int n,.bl wr,.l true (O7 j),.int (s:Nat),.l false (O6 n.toNat λi=>g (Af n.toNat (s) i)),.int (r:Nat),.int (Af n.toNat (s) (O3 n j k):Nat),.int k] (λK t=>ql1 (d:=.int (r:Nat)) ?_ t) ?_;{show some (D.int (if ((top:Nat):Int)-1+1>((Af n.toNat s (O3 n j k):Nat):Int) then ((top:Nat):Int)-1+1 else ((Af n.toNat s (O3 n j k):Nat):Int)))=_;congr 2;split<;>lia};have em:(((s:Nat):Int)+(r:Nat))%n=(rot n.toNat (s) r:Nat):=by have:((s+r:Nat):Int)%((n.toNat:Nat):Int)=((s+r)%n.toNat:Nat):=⋯;rw[show ((n.toNat:Nat):Int)=n by lia,Nat.add_mod,zBq u,zBq A,qap9 A u] at this;rw[<-this];congr 1
   refine qX7 (ys:=O6 n.toNat λi=>g (Af n.toNat (s) i)) (d:=.int k) (k:=(rot n.toNat (s) r:Nat)) rfl rfl rfl (f2_of (x:=.int ((s:Nat)+(r:Nat))) (y:=.int n) rfl rfl ((modP ⋯).trans (by rw[em]))) (qaZ6 (qaI0 A u)) ?_;rw[qaw1];have ec:O6 n.toNat (Row.set (λi=>g (Af n.toNat (s) i)) (rot n.toNat (s) r) k)=O6 n.toNat λi=>Row.set g r k (Af n.toNat (s) i):=qO8 λi hi=>by by_cases e:i=rot n.toNat (s) r;{subst e;rw[qj6,qM9 A u,qj6]};rw[qt7 e,qt7 λz=>e (by rw[<-z,qZ6 A hi])]
   refine V _ ⟨_,r+1,.int (Af n.toNat (s) (O3 n j k):Nat),.int k,?_,by rw[tk];exact F'⟩;rw[<-ec,show (((r+1:Nat):Int)-1)=((r:Nat):Int) by lia];rfl
  rintro v ⟨g,top,E,G,rfl,F⟩;have W:(O7 L).length=L.length:=zAb _;rw[zAh,W,Mp] at F;refine t _ ⟨_,_,_,_,rfl,?_⟩;have K1:=F.k.of_perm Y;cases wr with|true=>exact K1.turn A J|false=>obtain rfl:=M rfl;rw[show (λk=>Af n.toNat 0 (O3 n j k))=O3 n j from funext λk=>Ib] at K1;rw[show (λi=>g (Af n.toNat 0 i))=g from funext λi=>by rw[Ib]];exact K1
 rintro v ⟨g,d5,E,G,rfl,KP⟩;exact q g KP
theorem qr1:qa8 ["_law_bag_here", "_law_many", "_law_cell", "_law_value", "_law_first", "_law_second"] ["_law_bag_here", "_law_many"] (qa3 qY9):=by walk_at "s"
theorem qb5(T:Txt K mg a):VFn P w K mg base 1 a.f29 a.d29 ["_law_bag_here", "_law_many"] qv2:=by refine VFn.mk' T.d29.F qr1 (wOf [true,true]) (λr Q Q' u J L _ h=>by obtain⟨b,m,g,e,H,A,M,q⟩:=h;exact⟨b,m,g,e,H,A,M,λv N O R B=>L _ _ (q v N O R B)⟩) (λr Q u ⟨b,m,g,e,_⟩=>by rw[e];rfl) (λr Q u h=>by obtain⟨b,m,g,e,⟨x,y,z,S,_⟩,_⟩:=h;rw[e,S];rfl) (λ_ _ _ _ _ _ _ U=>⟨_,(Aa (sif (q2 (Aq (qe3 U.u64) (qa9 _)) A9 (v2 (A4 qb7) Ap (vnm 0) Ae) Ae) (Aa (Al 2 qr1.nd (qa4 Ae)) (Aa (sif (q2 (Aq G4 (qa9 _)) G9 (v2 (A4 qb7) Ap (vnm 0) Ae) (vbi qp6 qp5.ops T.Cq (qa0 (v2 (A4 qb7) Ap (vnm 0) Ae) qa6 rfl))) (Aj (Al 2 qr1.nd (qb8 (v2 (A4 qb7) Ap (v2 (A4 qb7) Ap (vnm 0) Ae) (v2 (A4 qb7) Ap (vnm 0) Ae))))) Au) (Aa (saug (vpn 0) Ae Ae qaO3) (Aa (sif (q2 (Aq Jl (qa9 _)) Jy (vnm 2) Ae) (Aj (E9 (qb8 (vnm 2)) (Gm (vpn 0) Ae))) Au) (Aj (E9 (qa4 (v2 (Ah qg9) qg8 (v2 (Ah qf2) qf1 (v2 (Ah qf2) qf1 (v2 (Ah qk8) qk7 (v2 (A4 qb7) Ap (vnm 0) Ae) Ae) (v2 (Ah qg9) qg8 (vnm 2) Ae)) (v2 (Ah qk8) qk7 Ae (v2 (A4 qb7) Ap (vnm 0) Ae))) Ae)) (Gm (vpn 0) Ae))))))) Au) (Aa (sif (q2 (Aq Fc (qa9 _)) Fe (v2 (A4 qb7) Ap (vnm 0) Ae) Ae) (Aa (Al 3 qr1.nd (qa4 (v2 (Ah qg9) qg8 (v2 (A4 qb7) Ap (vnm 0) Ae) (vnm 1)))) (Aa (E9 (qa4 (v2 (Ah qL0) qay7 (v2 (A4 qb7) Ap (vnm 0) Ae) (vnm 1))) (Gm (vpn 0) Ae)) (Aj (As (emv 3))))) Au) (Aa (Al 4 qr1.nd (qa4 (v2 (Ah qg9) qg8 (v2 (Ah qk8) qk7 (v2 (Ah qf2) qf1 (v2 (A4 qb7) Ap (vnm 0) Ae) Ae) Ae) Ae))) (Aa (Al 5 qr1.nd (qa4 (v2 (Ah qg9) qg8 (v2 (Ah qk8) qk7 (v2 (Ah qg9) qg8 (v2 (Ah qk8) qk7 (vnm 4) (vnm 4)) Ae) Ae) Ae))) (Aa (sif (q2 (Aq Fc (qa9 _)) Fe (vnm 1) Ae) (Aj (As (qa4 (v2 (Ah qg9) qg8 (v2 (Ah qf2) qf1 (v2 (Ah qk8) qk7 (vnm 5) Ae) (vnm 4)) (vnm 1))))) Au) (Aj (As (qa4 (v2 (Ah qg9) qg8 (v2 (Ah qL0) qay7 (vnm 5) Ae) (vnm 1)))))))))),λr Q u h=>?_⟩);obtain⟨b,m,g,rfl,⟨x,y,z,rfl,B⟩,p,C,k⟩:=h;refine At [bagD x y z g,.int m,.u,.u,.u,.u] rfl ?_;refine qb9 (λr=>∃j o t c,r=[bagD j o t g,.int m,c,.u,.u,.u]/\Bg j o t g) (λK l=>?_) ?_;{refine if_v (b:=decide (x=0)) rfl (λ_=>?_) (λ_=>l _ ⟨x,y,z,_,rfl,B⟩);refine qb1 [bagD x y z g,.int m,.int 0,.u,.u,.u] (λK l=>l) ?_;refine qb9 (λr=>∃c:Int,0<=c/\r=[bagD x y z g,.int m,.int c,.u,.u,.u]) (λK l=>?_) ?_;{refine if_v (b:=decide (z<(((g.map D.int).length:Nat):Int))) rfl (λA=>?_) (λ_=>l _ ⟨0,∅,rfl⟩);obtain⟨v,V,e⟩:=qm9 (xs:=g.map D.int) (i:=z) B.z0 (zAn A);obtain⟨c,E,rfl⟩:=zB4.mp V;exact qO4 (f2_of (y:=.int z) (x:=.l false (g.map .int)) rfl rfl e) rfl (l _ ⟨c,B.nn c E,rfl⟩)};rintro r ⟨c,E,rfl⟩;refine qb1 [bagD x y (z+1) g,.int m,.int c,.u,.u,.u] (λK l=>?_) ?_;{exact qbc2 (k:=2) (x:=z) (y:=1) (ys:=[.int x,.int y,.int z,.l false (g.map .int)]) rfl rfl ∅ rfl rfl l};refine qb9 (λr=>∃j:Int,0<=j/\r=[bagD j y (z+1) g,.int m,.int c,.u,.u,.u]) (λK l=>?_) ?_;{refine if_v (b:=decide (1000000000000000000<=c)) rfl (λ_=>?_) (λ_=>l _ ⟨x,B.x0,rfl⟩);exact qX7 (d:=.int c) (ys:=[.int x,.int y,.int (z+1),.l false (g.map .int)]) (k:=0) (n:=0) rfl rfl rfl rfl rfl (l _ ⟨c,E,rfl⟩)};rintro r ⟨j,G,rfl⟩;have W:f2 Gx (f2 Gw (f2 Gw (f2 F7 (f2 gIx (rdN 0) (kC (.int 1))) (kC (.int 48271))) (f2 Gx (rdN 2) (kC (.int 2147483647)))) (f2 F7 (kC (.int 7919)) (f2 gIx (rdN 0) (kC (.int 2))))) (kC (.int 2147483647)) [bagD j y (z+1) g,.int m,.int c,.u,.u,.u]=some (.int ((y*48271+c%2147483647+7919*(z+1))%2147483647)):=f2_of (f2_of (f2_of (f2_of (x:=.int y) rfl rfl (Hh ∅)) (f2_of rfl rfl (modP ∅)) rfl) (f2_of (y:=.int (z+1)) rfl rfl (Ko ∅)) rfl) rfl (modP ∅);exact qap4 (ys:=[.int j,.int y,.int (z+1),.l false (g.map .int)]) (k:=1) (n:=1) W rfl rfl rfl (l _ ⟨j,_,z+1,_,rfl,G,zCi _ ∅,zBw _ ∅,by have:=B.z0;lia,B.nn⟩)};rintro r ⟨j,o,t,c,rfl,B'⟩;refine qg1 (decide (0<j)) rfl (λH=>?_) λ_=>?_;{refine qb1 [bagD j o t g,.int m,c,.int (j%m),.u,.u] (λK l=>qa2 (f2_of (x:=.int j) rfl rfl (modP p)) l) ?_;refine qb1 [bagD (j/m) o t g,.int m,c,.int (j%m),.u,.u] (λK l=>?_) ?_;{exact qap4 (ys:=[.int j,.int o,.int t,.l false (g.map .int)]) (k:=0) (n:=0) (f2_of (x:=.int j) rfl rfl (qaD3 p C)) rfl rfl rfl l};exact k (j%m) _ (zCi _ ⋯) (zBw _ p) ⟨_,_,_,rfl,Int.ediv_nonneg B'.x0 ⋯,B'.y0,B'.y1,B'.z0,B'.nn⟩};have X:0<=(o+1)*39373%1000000007:=zCi _ ∅;have f1:(o+1)*39373%1000000007<1000000007:=zBw _ ∅;refine qb1 [bagD j o t g,.int m,c,.u,.int ((o+1)*39373%1000000007),.u] (λK l=>qa2 (f2_of (f2_of (f2_of (x:=.int o) rfl rfl rfl) rfl (Hh ∅)) rfl (modP ∅)) l) ?_;generalize (o+1)*39373%1000000007=f at X f1;refine qb1 [bagD j o t g,.int m,c,.u,.int f,.int (f*f%998244353*30011%998244353)] (λK l=>qa2 (f2_of (f2_of (f2_of (f2_of rfl rfl (Ko (qv3 ⋯ ⋯))) rfl (modP ∅)) rfl (Hh ∅)) rfl (modP ∅)) l) ?_;generalize f*f%998244353*30011%998244353=s;have I:∀v,Q (.int (v%m)) [bagD j o t g,.int m]:=λv=>k _ _ (zCi _ ⋯) (zBw _ p) ⟨_,_,_,rfl,B'⟩;refine qg1 (decide (1000000<m)) rfl (λ_=>?_) λ_=>?_;{exact qg5 _ (f2_of (f2_of (f2_of rfl rfl (Hh ∅)) rfl rfl) rfl (modP p)) (I _)};exact qg5 _ (f2_of (f2_of rfl rfl (qaD3 ∅ ∅)) rfl (modP p)) (I _)
theorem qaw3:qa8 ["_law_shape", "_law_keys"] ["_law_shape", "_law_keys"] (qa3 qZ3):=by walk_at "s"
theorem qaX9{c:Nat->Nat}:∀r,0<=onC c r|0=>Int.le_refl 0|r+1=>by unfold onC;split<;>lia
theorem qab0{n:Int}{ps:Pr}{z:Bool}(h:1<=n):gIx (.l z (O5 (passT n ps ks i n.toNat))) (.int (-1))=some (.int (onT n ps ks (n.toNat*i+n.toNat))):=by
 obtain⟨m,e⟩:∃m,n.toNat=m+1:=⟨n.toNat-1,⋯⟩;have e2:passT n ps ks i n.toNat=passT n ps ks i m++[onT n ps ks (n.toNat*i+m+1)]:=by
  unfold passT;conv=>lhs;rw[e,Mq,zBc]
  rw[e];rfl
 rw[e2,show n.toNat*i+n.toNat=n.toNat*i+m+1 by lia];unfold O5;rw[zBc];exact qaE5 _ _
def qav8:VSp:=A5 λds d=>∃n wr ps z ks b,ds=[Ad n wr ps,.l z (O5 ks)]/\1<=n/\n<=64/\(b=true↔∀q,¬Crowd n.toNat wr (O3 n ps) ks q)/\d=.bl b
theorem qab7(T:Txt K mg a):VFn P w K mg base 3 a.f34 a.d34 ["_law_shape", "_law_keys"] qav8:=by
 refine VFn.mk2 T.d34.F qaw3 (wOf [true,true]) qb0 (by walk_at "l") (λ_ _ _ _ _ _ _ k=>⟨_,(Aa (sif (tv (v2 (A4 qb7) Ap (vnm 0) Ae)) (Aj (As (qa4 (v2 (A6 Jk (qa9 _)) Jx (vbi qp6 qp5.ops T.Cq (qa0 (vnm 1) qa6 rfl)) (v2 (A4 qb7) Ap (vnm 0) Ae))))) Au) (Aj (As (e2v (A6 (qe3 k.u64) (qa9 _)) A9 (e2vP (A4 qb7) Ap (Ak T.d33 (qE4 T) qa1 (rm k) (vaN 0 (vaN 1 Ac))) (vneg Ae)) Ae)))),λs Q t h=>?_⟩);obtain⟨d,⟨n,wr,g,z,f,b,rfl,i,p,m,rfl⟩,q⟩:=h;refine At [Ad n wr g,.l z (O5 f)] rfl ?_;refine qg1 wr rfl (λh=>?_) λh=>?_
 .subst h;refine qg5 (.bl (decide ((f.length:Int)<=n))) (f2_of (qs4 rfl) (y:=.int n) rfl (by rw[qm5];rfl)) ?_;have e:decide ((f.length:Int)<=n)=b:=by rw[Bool.eq_iff_iff,m,zBo,<-qR1 ⋯];lia
  rw[e];exact q
 subst h;refine qg7 (qn9 (qX5 (qs2 (x:=Ad n false g) (y:=.l z (O5 f)) rfl rfl rfl ⟨n,false,g,z,f,rfl,i,p,rfl⟩ rfl (qa2 (a:=D.int (-1)) rfl ⟨rfl,qa2 (qab0 i) (qa2 (a:=D.bl (decide (onT n g f (n.toNat*0+n.toNat)=0))) rfl ?_)⟩))));have e:decide (onT n g f (n.toNat*0+n.toNat)=0)=b:=by rw[Bool.eq_iff_iff,m,zBo,Nat.mul_zero,zAh];have o:=qaj9 (T:=f) (n:=n.toNat) (hm:=O3 n g) ⋯ (Eh i);have u:=qaX9 (c:=cR n.toNat (O3 n g) f) n.toNat;constructor;{intro j q c;have:=o.mpr ⟨q,c⟩;unfold onT at j;lia};intro r;by_cases j:0<onC (cR n.toNat (O3 n g) f) n.toNat;{obtain⟨q,c⟩:=o.mp j;exact absurd c (r q)};unfold onT;lia
 rw[e];exact q
theorem qA0:qa8 ["_law_shape", "_law_keys", "_law_some"] ["_law_shape", "_law_keys"] (qa3 qw5):=by walk_at "s"
theorem qaV4(hi:ds[i]?=some (.l false (ys++[x])))(q:Q x (ds.set i (.l false ys))):Fg gPop i A7 ds Q xe:=by
 have e:(rdN i ds).bind D.own=some (ys++[x]):=by rw[qc4 hi rfl];rfl
 refine⟨by rw[e];rfl,qc0 ?_⟩;refine qa2 (k:=λys=>orF (gPop ys []) λz=>Q z.2 (ds.set i (.l false z.1))) e ?_;refine qa2 (a:=(ys,x)) ?_ q;show ((ys++[x])[(ys++[x]).length-1]?).map (λd=>((ys++[x]).dropLast,d))=_;simp
def qU3:VSp:=λds Q _=>∃n wr ps z ks,ds=[Ad n wr ps,.l z (O5 ks)]/\1<=n/\n<=64/\∀S,S.Sublist ks->(∀q,¬Crowd n.toNat wr (O3 n ps) S q)->Q (kL S) ds
theorem qV3(T:Txt K mg a):VFn P w K mg base 4 a.f36 a.d36 ["_law_shape", "_law_keys"] qU3:=by
 refine VFn.mk2 T.d36.F qA0 (wOf [true,true]) (by walk_at "m") (by walk_at "l") (λ_ _ _ _ _ _ _ o=>⟨_,(Aa (Al 2 qA0.nd (qa4 (Fm qd3 qt3.ops T.Ch (qa0 (vnm 1) qa6 rfl)))) (Aa (qaH1 N9 (Bu (te (Ak T.d34 (qab7 T) qa1 (rm o) (vaN 0 (vaN 2 Ac))))) (Aj (Ej (qbb0 2 qaY2 Oc Ot F.type_list_pop qaY3)))) (Aj (As (emv 2))))),λd Q r h=>?_⟩);obtain⟨n,wr,b,z,c,rfl,g,k,q⟩:=h;refine At [Ad n wr b,.l z (O5 c),.u] rfl ?_;refine qb1 [Ad n wr b,.l z (O5 c),kL c] (λK i=>ql1 (qaN1 rfl) i) ?_;refine qb9 (λd=>∃S,d=[Ad n wr b,.l z (O5 c),kL S]/\S.Sublist c/\∀q,¬Crowd n.toNat wr (O3 n b) S q) (λK i=>?_) ?_
 .refine qau5 (λm d=>∃S,d=[Ad n wr b,.l z (O5 c),kL S]/\S.Sublist c/\S.length=m) c.length ⟨c,rfl,List.Sublist.refl _,rfl⟩ ?_;rintro m d ⟨S,rfl,sub,p⟩ K2 j;by_cases e:∀q,¬Crowd n.toNat wr (O3 n b) S q;{exact qs2 (x:=Ad n wr b) (y:=kL S) rfl rfl rfl ⟨n,wr,b,false,S,true,rfl,g,k,⟨λ_=>e,λ_=>rfl⟩,rfl⟩ rfl (qa2 (a:=true) rfl (E7 ∅ (i _ ⟨S,rfl,sub,e⟩)))};refine qs2 (x:=Ad n wr b) (y:=kL S) rfl rfl rfl ⟨n,wr,b,false,S,false,rfl,g,k,⟨nofun,λh=>absurd h e⟩,rfl⟩ rfl (qa2 (a:=false) rfl (Bh rfl ?_));have f:S≠[]:=λh=>by subst h;exact e λq=>(Kept.none ⋯ (Eh g)).no_crowd q
  obtain⟨S',x,rfl⟩:∃S' x,S=S'++[x]:=⟨S.dropLast,S.getLast f,(List.dropLast_concat_getLast f).symm⟩;refine qm7 (qaV4 (ys:=O5 S') (x:=.int x) (by rw[qad3];rfl) (j S'.length _ (by rw[<-p,zAf];exact Nat.lt_succ_self _) ⟨S',rfl,(M1 _ _).trans sub,rfl⟩))
 rintro d ⟨S,rfl,sub,e⟩;exact q S sub e
theorem qf6:qa8 ["_law_bag_here", "_law_rooms", "_law_many", "_law_heap", "_law_far_here", "_law_spot", "_law_keys", "_law_k", "_law_home_here", "_law_key"] ["_law_bag_here", "_law_rooms", "_law_many"] (qa3 qK1):=by walk_at "s"
theorem mulB{a v A C:Int}(h1:0<=a)(h2:a<=A)(b:0<=v)(c:v<=C):0<=a*v/\a*v<=A*C:=⟨Int.mul_nonneg h1 b,Int.mul_le_mul h2 c b (Int.le_trans h1 h2)⟩
theorem lst4{fd:FV}{z u:D}(a:fa ds=some x)(b:fb ds=some y)(c:fc ds=some z)(d:fd ds=some u)(hi:D.imms [x,y,z,u]=true):Ay Je (Am fa (Am fb (Am fc (Am fd λ_=>some [])))) ds=some (.l false [x,y,z,u]):=by unfold Ay Am;rw[a,b,c,d];exact qg4 ⟨hi,by show 3+1<=1000000;decide⟩
theorem qaA8(h:d∈O5 L):∃x,d=.int x:=by obtain⟨x,_,rfl⟩:=zB4.mp h;exact⟨x,rfl⟩
theorem qaG0{u:VTT}{Q:Bool->Ds->Prop}(h:f ds=some (.bl true))(q:Q true ds):ttOr (ttV f) u ds Q xe:=qe4 (Q:=λk a=>if k=true then Q true a else u a Q xe) h (Bh rfl q)
theorem qaG1{u:VTT}{Q:Bool->Ds->Prop}(h:f ds=some (.bl false))(q:u ds Q xe):ttOr (ttV f) u ds Q xe:=qe4 (Q:=λk a=>if k=true then Q true a else u a Q xe) h (E7 ∅ q)
theorem Iy(h:qc ds (λb a=>if b=true then t e a else u e a) e.xe):sIf qc t u e ds:=h
theorem Ks{x y:Int}(h:x=y):gEq (.int x) (.int y)=some (.bl true):=(show some (D.bl (decide (x=y)))=some (.bl true) by rw[zAo h])
theorem eq_f{x y:Int}(h:¬x=y):gEq (.int x) (.int y)=some (.bl false):=(show some (D.bl (decide (x=y)))=some (.bl false) by rw[zBg h])
def qai2:VSp:=λds Q _=>∃ns b n m,ds=[b,.int n,.int m]/\Pf ns b/\1<=n/\n<=64/\0<=m/\m<=100/\∀a ks,Pf ns a->ks.Nodup->(∀k∈ks,An k)->ks.length<=m.toNat->Q (kL ks) [a,.int n,.u]
theorem qak5(T:Txt K mg a):VFn P w K mg base 2 a.f37 a.d37 ["_law_bag_here", "_law_rooms", "_law_many"] qai2:=by
 refine VFn.mk2 T.d37.F qf6 (wOf [true,true,true]) (by walk_at "m") (by walk_at "l") (λ_ _ _ _ _ _ _ t=>⟨_,(Aa (Al 3 qf6.nd (Ak T.d29 (qb5 T) qa1 (rm t) (vaN 0 (vaV (qa4 Ae) Ac)))) (Aa (Al 4 qf6.nd (e2v (A6 (qe3 t.u64) (qa9 _)) A9 (Ak T.d29 (qb5 T) qa1 (rm t) (vaN 0 (vaV (qa4 Ae) Ac))) Ae)) (Aa (Al 5 qf6.nd (Ak T.d29 (qb5 T) qa1 (rm t) (vaN 0 (vaN 1 Ac)))) (Aa (Al 6 qf6.nd (qa4 (Bl qa6))) (Aa (qY6 N9 T.Cs (Fb (vaN 2 Ac)) (Ax 7 qf6.nd) (Aa (Al 8 qf6.nd (qa4 (v2 (Ah qg9) qg8 (v2 (A4 qb7) Ap (Bl (qa0 Ae (qa0 (vnm 5) (qa0 (v2 (Ah qz2) qz1 (vnm 1) Ae) (qa0 (v2 (Ah qf2) qf1 (vnm 5) (v2 (Ah qk8) qk7 (v2 (Ah qg9) qg8 (vnm 7) Ae) (v2 (Ah qL0) qay7 (vnm 1) Ae))) qa6 rfl) rfl) rfl) rfl)) (vnm 3)) (vnm 1)))) (Aa (sif (tor (q2 (Aq (qe3 t.u64) (qa9 _)) A9 (vnm 3) Ae) (Jc (q2v (A6 (qe3 t.u64) (qa9 _)) (Aq (qe3 t.u64) (qa9 _)) A9 (Ak T.d29 (qb5 T) qa1 (rm t) (vaN 0 (vaV (qa4 Ae) Ac))) Ae))).te (Aj (Al 8 qf6.nd (Ak T.d29 (qb5 T) qa1 (rm t) (vaN 0 (vaN 1 Ac))))) Au) (Aa (Al 9 qf6.nd (e2n 8 (Ah qf2) qf1 (e2n 1 (Ah qk8) qk7 (Ak T.d29 (qb5 T) qa1 (rm t) (vaN 0 (vaV (qa4 Ae) Ac)))))) (Aa (sif (tv (vnm 4)) (Aj (Al 9 qf6.nd (e2n 9 (Ah qf2) qf1 (e2n 1 (Ah qk8) qk7 (Ak T.d29 (qb5 T) qa1 (rm t) (vaN 0 (vaV (qa4 (J0 10000000000000000)) Ac))))))) Au) (Aj (sif (q2 (Aq qf3 (by with_unfolding_all rfl)) Ha (vnm 9) (vnm 6)) (Aj (Ej (Fw 6 qE9 Oc Oe Of qh0 (vaN 9 Ac)))) Au))))))) (Aj (As (emv 6)))))))),λc Q xe h=>?_⟩);obtain⟨H,b,n,m,rfl,B,n1,X,m0,m1,q⟩:=h;refine At [b,.int n,.int m,.u,.u,.u,.u,.u,.u,.u] rfl ?_;refine qb9 (λc=>∃b o,c=[b,.int n,.int m,.int o,.u,.u,.u,.u,.u,.u]/\Pf H b/\0<=o/\o<4) (λK g=>qc6 (qc1 rfl B rfl ∅ ∅ λv r u I B'=>g _ ⟨r,v,rfl,B',u,I⟩)) ?_;rintro c ⟨b,o,rfl,B,p0,p1⟩;refine qb9 (λc=>∃b s,c=[b,.int n,.int m,.int o,.bl s,.u,.u,.u,.u,.u]/\Pf H b) (λK g=>qc6 (qn9 (qc1 rfl B rfl ∅ ∅ λv r u I B'=>qa2 (a:=D.bl (decide (v=0))) rfl (g _ ⟨r,_,rfl,B'⟩)))) ?_;rintro c ⟨b,s,rfl,B⟩;refine qb9 (λc=>∃b p,c=[b,.int n,.int m,.int o,.bl s,.int p,.u,.u,.u,.u]/\Pf H b/\0<=p/\p<n) (λK g=>qc6 (qO0 (j:=1) rfl B rfl ∅ ⋯ ⋯ λv r u I B'=>g _ ⟨r,v,rfl,B',u,I⟩)) ?_;rintro c ⟨b,p,rfl,B,s0,s1⟩;refine qb1 [b,.int n,.int m,.int o,.bl s,.int p,kL [],.u,.u,.u] (λK g=>g) ?_;refine qb9 (λc=>∃b f L J E,c=[b,.int n,.u,.int o,.bl s,.int p,kL f,L,J,E]/\Pf H b/\f.Nodup/\(∀k∈f,An k)/\f.length<=m.toNat) (λK g=>qam1 (n:=m) rfl (qL6 m0 ⋯) (qe6 (λi c=>∃b f L J E,c=[b,.int n,.u,.int o,.bl s,.int p,kL f,L,J,E]/\Pf H b/\f.Nodup/\(∀k∈f,An k)/\f.length<=i) _ 0 _ ⟨b,[],_,_,_,rfl,B,.nil,nofun,zA3 _⟩ ?_ λc h=>?_)) ?_;rotate_left
 {obtain⟨b,f,L,J,E,e,B,N,O,R⟩:=h;rw[zAh,qA5] at R;exact g _ ⟨b,f,L,J,E,e,B,N,O,R⟩};{rintro c ⟨b,f,L,J,E,rfl,B,N,O,R⟩;exact q b f B N O R};rintro i y S c ⟨b,f,L,J,E,rfl,B,N,O,R⟩ K2 M;rw[zAh] at R M;obtain⟨hi,rfl⟩:=qaj1 S;generalize hz:((i:Nat):Int)=G;have z0:0<=G:=⋯;refine qu2 (At [b,.int n,.u,.int o,.bl s,.int p,kL f,.int G,J,E] rfl ?_);refine qb9 (λc=>∃h:Int,c=[b,.int n,.u,.int o,.bl s,.int p,kL f,.int G,.int h,E]/\0<=h/\h<n) (λK g=>?_) ?_;{obtain⟨d,hd,ed⟩:=qm9 (xs:=O5 [0,p,n-1,p+G%2*(n/2)]) (i:=o) p0 p1;obtain⟨x,rfl⟩:=qaA8 hd;refine ql1 (d:=.int (x%n)) (f2_of (f2_of (x:=kL [0,p,n-1,p+G%2*(n/2)]) (lst4 rfl rfl rfl (f2_of (x:=.int p) rfl (f2_of (f2_of (x:=.int G) rfl rfl (modP ∅)) (f2_of (x:=.int n) rfl rfl (qaD3 ∅ ∅)) (Hh (qv3 ⋯ ⋯))) rfl) rfl) (y:=.int o) rfl ed) (y:=.int n) rfl (modP ⋯)) (g _ ⟨x%n,rfl,zCi _ ⋯,zBw _ ⋯⟩)};rintro c ⟨h,rfl,Y,Z⟩;refine qb9 (λc=>∃b h,c=[b,.int n,.u,.int o,.bl s,.int p,kL f,.int G,.int h,E]/\Pf H b/\0<=h/\h<n) (λK g=>?_) ?_;{have hT:∀b,Pf H b->∀e:VEnds,e.nx=K->Em (qj3 qv2 [] (tbN 0 (tbN 1 A7))) (gNm 8) e [b,.int n,.u,.int o,.bl s,.int p,kL f,.int G,.int h,E]:=λb B e he=>qc6 (qO0 (j:=1) rfl B rfl ∅ ⋯ ⋯ λv r u I B'=>he ▸ g _ ⟨r,v,rfl,B',u,I⟩);by_cases e0:o=0;{exact Iy (qaG0 (f2_of rfl rfl (Ks e0)) (Bh rfl (hT b B _ rfl)))};refine Iy (qaG1 (f2_of rfl rfl (eq_f e0)) ?_);refine qaI6 (qc1 rfl B rfl ∅ ∅ λv r u I B'=>qa2 (a:=D.bl (decide (v=0))) rfl (qa2 (a:=decide (v=0)) rfl ?_));exact ite_b (λ_=>hT r B' _ rfl) λ_=>g _ ⟨r,h,rfl,B',Y,Z⟩};rintro c ⟨b,h,rfl,B,Y,Z⟩;refine qb9 (λc=>∃b k,c=[b,.int n,.u,.int o,.bl s,.int p,kL f,.int G,.int h,.int k]/\Pf H b/\0<=k/\k<=1000) (λK g=>qc6 ⟨rfl,⟨rfl,qc1 rfl B rfl ∅ ∅ λv r u I B'=>qa2 (a:=D.int (n*v)) (Ko (qv3 ⋯ ⋯)) (qa2 (a:=D.int (h+n*v)) rfl (g _ ⟨r,h+n*v,rfl,B',?_⟩))⟩⟩) ?_;{have:=mulB (A:=64) (C:=8) (by lia:0<=n) X u ⋯;lia};rintro c ⟨b,k,rfl,B,k0,k1⟩;refine qb9 (λc=>∃b k,c=[b,.int n,.u,.int o,.bl s,.int p,kL f,.int G,.int h,.int k]/\Pf H b/\An k) (λK g=>if_v (b:=s) rfl (λ_=>qc6 ⟨rfl,⟨rfl,qc1 rfl B rfl ∅ ∅ λv r u I B'=>qa2 (a:=D.int (n*v)) (Ko (qv3 ⋯ ⋯)) (qa2 (a:=D.int (k+n*v)) rfl (g _ ⟨r,k+n*v,rfl,B',?_⟩))⟩⟩) λ_=>g _ ⟨b,k,rfl,B,k0,⋯⟩) ?_;{have:=mulB (A:=64) (C:=10000000000000000) (by lia:0<=n) X u ⋯;exact⟨⋯,⋯⟩};rintro c ⟨b,k,rfl,B,U⟩;refine if_v (b:=!decide (k∈f)) (f2_of (x:=.int k) rfl rfl qx1) (λhn=>?_) λhn=>M _ ⟨b,f,_,_,_,rfl,B,N,O,⋯⟩;have V:¬k∈f:=by simpa using hn
 refine qm7 (qaR9 (ys:=O5 f) (d:=.int k) rfl rfl rfl ∅ (by rw[qm5];unfold big;lia) ?_);rw[qad3];refine M _ ⟨b,f++[k],_,_,_,rfl,B,List.nodup_append.mpr ⟨N,(by simp),λx W y S e=>V (by rw[<-zAk.mp S,<-e];exact W)⟩,λx W=>?_,by rw[zAf];show _+1<=_;lia⟩;rcases zAd.mp W with z|z;{exact O x z};rw[zAk.mp z];exact U
theorem qh7:qa8 ["_law_bag_here", "_law_rooms", "_law_keys", "_law_told", "_law_k", "_law_way", "_law_near", "_law_number", "_law_key"] ["_law_bag_here", "_law_rooms", "_law_keys"] (qa3 qK0):=by walk_at "s"
theorem qaC0{g:VTG}(h:tr ds (λxs _ ds1=>orF (Kd xs) λj=>Fy j=true/\Bz g t e (Bm 0 j.toNat) ds1) e.xe):qZ5 (Hr tr) g t e ds:=h
noncomputable def fstD:D->D|.q [u,_]=>u|d=>d
theorem qaQ0{ps:Pr}:((O7 ps).map λx=>fstD x)=O5 (ps.map (·.1)):=by unfold O7 O5;rw[zC7,zC7];rfl
theorem qQ6{ps:Pr}(G:qq0 ps)(f:ps.length<64)(b:An k)(hm:An m)(h:¬k∈ps.map (·.1)):qq0 (ps++[(k,m)]):=by refine⟨by rw[zAf];show _+1<=_;lia,?_,λp c=>?_⟩;{rw[zBc];refine List.nodup_append.mpr ⟨G.nd,(by simp),λx d y a e=>h ?_⟩;have a:y=k:=zAk.mp a;rw[<-a,<-e];exact d};rcases zAd.mp c with z|z;{exact G.nums p z};rw[zAk.mp z];exact⟨b,hm⟩
theorem qaq5{ps:Pr}:O7 ps++[.q [.int k,.int m]]=O7 (ps++[(k,m)]):=by unfold O7;rw[zBc];rfl
def qai1:VSp:=λds Q _=>∃ns b n z ks,ds=[b,.int n,.l z (O5 ks)]/\Pf ns b/\1<=n/\n<=64/\(∀k∈ks,An k)/\ks.length<=200/\∀a ps,Pf ns a->qq0 ps->ps.length<=12->Q (.l false (O7 ps)) [a,.int n,.l z (O5 ks)]
abbrev qh6(n:Int) (z) (ks) (ps:Pr) (p0 a b c d e:D):=([p0,.int n,.l z (O5 ks),.l false (O7 ps),a,b,c,d,e]:Ds)
theorem qak4(T:Txt K mg a):VFn P w K mg base 2 a.f38 a.d38 ["_law_bag_here", "_law_rooms", "_law_keys"] qai1:=by
 refine VFn.mk2 T.d38.F qh7 (wOf [true,true,true]) (by walk_at "m") (by walk_at "l") (λ_ _ _ _ _ _ _ J=>⟨_,(Aa (Al 3 qh7.nd (qa4 (Bl qa6))) (Aa (qY6 N9 T.Cs (Fb (vaV (e2P (A4 qb7) Ap (qa4 (Bl (qa0 Ae (qa0 Ae (qa0 Ae (qa0 Ae (qa0 Ae qa6 rfl) rfl) rfl) rfl) rfl))) (Ak T.d29 (qb5 T) qa1 (rm J) (vaN 0 (vaV (qa4 Ae) Ac)))) Ac)) (Ax 4 qh7.nd) (Aa (Al 5 qh7.nd (Ak T.d29 (qb5 T) qa1 (rm J) (vaN 0 (vaV (qa4 Ae) Ac)))) (Aa (Al 6 qh7.nd (Ak T.d29 (qb5 T) qa1 (rm J) (vaN 0 (vaV (qa4 Ae) Ac)))) (Aa (Al 7 qh7.nd (e2vP (A4 qb7) Ap (Kb (vaV (qa4 (v2 (Ah qz2) qz1 (vnm 1) Ae)) (vaV (Ak T.d29 (qb5 T) qa1 (rm J) (vaN 0 (vaN 1 Ac))) (vaV (e2v (Ah qf2) qf1 (Ak T.d29 (qb5 T) qa1 (rm J) (vaN 0 (vaV (qa4 (J0 1000000000000000000)) Ac))) Ae) Ac)))) (vnm 5))) (Aa (Al 8 qh7.nd (Ak T.d29 (qb5 T) qa1 (rm J) (vaN 0 (vaV (qa4 (v2 (Ah qk8) qk7 (vnm 1) Ae)) Ac)))) (Aa (sif (Gz (q2 (Aq Fc (qa9 _)) Fe (vnm 6) Ae) (Ev (q2 (Aq (qU7 J.u64) (qa9 _)) Gg (vnm 2) (Bl qa6)))).te (Aj (Al 8 qh7.nd (e2nP 2 (A4 qb7) Ap (Ak T.d29 (qb5 T) qa1 (rm J) (vaN 0 (vaV (qa4 (vbi qp6 qp5.ops T.Cq (qa0 (vnm 2) qa6 rfl))) Ac)))))) Au) (Aj (sif (q2n 8 (A6 qf3 (by with_unfolding_all rfl)) (Aq qf3 (by with_unfolding_all rfl)) Ha (ecN (NY:=["_law_one", "_law_other"]) (src:=[none,none]) 3 (blk (λav C s0 H0 ex=>(Br (n:=2) rfl (qc8 (Ax 0 (show (["_law_one", "_law_other"]:List Str).Nodup by decide +kernel)) (qc8 (Ax 1 (show (["_law_one", "_law_other"]:List Str).Nodup by decide +kernel)) Bq)))) (λav C s0 H0 ex=>Ex) (λav C s0 H0 ex=>(qb8 (vnm 0)))))) (Aj (Ej (Fw 3 qE9 Oc Oe Of qh0 (vaV (qa4 (B9 (qa0 (vnm 8) (qa0 (vnm 7) qa6 rfl) rfl))) Ac)))) Au)))))))) (Aj (As (emv 3))))),λg Q xe h=>?_⟩);obtain⟨O,b,n,z,o,rfl,B,n1,n2,hk,hl,q⟩:=h;refine At [b,.int n,.l z (O5 o),.u,.u,.u,.u,.u,.u] rfl ?_;refine qb1 [b,.int n,.l z (O5 o),.l false (O7 []),.u,.u,.u,.u,.u] (λK r=>r) ?_;refine qb9 (λg=>∃b f S L E u s,g=(qh6 n z o f b S L E u s)/\Pf O b/\qq0 f/\f.length<=12) (λK r=>qaC0 (qe2 (qT4 (x:=kL [0,0,2,6,12]) rfl (qc1 rfl B rfl ∅ ∅ λv H M I B'=>?_)))) ?_;rotate_left
 {rintro g ⟨b,f,S,L,E,u,s,rfl,B,G,t⟩;exact q b f B G t};obtain⟨d,N,X⟩:=qm9 (xs:=O5 [0,0,2,6,12]) (i:=v) M I;obtain⟨c,c0,c1,rfl⟩:∃c:Int,0<=c/\c<=12/\d=.int c:=by simp only[O5,zAy,Mj,zAa,zAr,zC9] at N;rcases N with rfl|rfl|rfl|rfl|rfl;{exact⟨0,∅,∅,rfl⟩};{exact⟨0,∅,∅,rfl⟩};{exact⟨2,∅,∅,rfl⟩};{exact⟨6,∅,∅,rfl⟩};exact⟨12,∅,∅,rfl⟩
 refine qa2 (a:=D.int c) X (qc0 (qa2 (a:=c) rfl ⟨qL6 c0 ⋯,qe6 (λi g=>∃b f S L E u s,g=(qh6 n z o f b S L E u s)/\Pf O b/\qq0 f/\f.length<=i) _ 0 _ ⟨H,[],_,_,_,_,_,rfl,B',⟨∅,.nil,nofun⟩,zA3 _⟩ ?_ λg h=>?_⟩));rotate_left
 {obtain⟨b,f,S,L,E,u,s,e,B,G,t⟩:=h;rw[zAh,qA5] at t;exact r _ ⟨b,f,S,L,E,u,s,e,B,G,⋯⟩};clear X N B' B;rintro i y hy g ⟨b,f,S,L,E,u,s,rfl,B,G,t⟩ K2 U;rw[zAh] at t U;obtain⟨hi,rfl⟩:=qaj1 hy;generalize D.int ((i:Nat):Int)=Y;refine qu2 (At (qh6 n z o f b Y L E u s) rfl ?_);refine qb9 (λg=>∃b A,g=(qh6 n z o f b Y (.int A) E u s)/\Pf O b/\0<=A/\A<3) (λK r=>qc6 (qc1 rfl B rfl ∅ ∅ λv H M I B'=>r _ ⟨H,v,rfl,B',M,I⟩)) ?_;rintro g ⟨b,A,rfl,B,w0,w1⟩;refine qb9 (λg=>∃b V,g=(qh6 n z o f b Y (.int A) (.int V) u s)/\Pf O b) (λK r=>qc6 (qc1 rfl B rfl ∅ ∅ λv H M I B'=>r _ ⟨H,v,rfl,B'⟩)) ?_;rintro g ⟨b,V,rfl,B⟩;refine qb9 (λg=>∃b m,g=(qh6 n z o f b Y (.int A) (.int V) (.int m) s)/\Pf O b/\An m) (λK r=>qc6 (qX5 (qF1 (qe0 (y:=.int (n-1)) rfl (qe2 (qO0 (j:=1) rfl B rfl ∅ ⋯ ⋯ λI b1 a6 a7 B1=>qe2 (qn9 (qc1 rfl B1 rfl ∅ ∅ λv2 b2 a8 a9 B2=>qa2 (a:=D.int (v2+1)) rfl (qc0 ⟨by show 2+1<=1000000;decide,qa2 (a:=D.int A) rfl ⟨rfl,?_⟩⟩)))))))))  ?_
 .obtain⟨d,N,X⟩:=qm9 (xs:=O5 [n-1,I,v2+1]) (i:=A) w0 w1;obtain⟨m,hm,rfl⟩:∃m:Int,An m/\d=.int m:=by simp only[O5,zAy,Mj,zAa,zAr,zC9] at N;rcases N with rfl|rfl|rfl;{exact⟨_,⟨⋯,⋯⟩,rfl⟩};{exact⟨_,⟨⋯,⋯⟩,rfl⟩};exact⟨_,⟨⋯,⋯⟩,rfl⟩
  exact qa2 (a:=D.int m) X (r _ ⟨b2,m,rfl,B2,hm⟩)
 rintro g ⟨b,m,rfl,B,hm⟩;refine qb9 (λg=>∃b k,g=(qh6 n z o f b Y (.int A) (.int V) (.int m) (.int k))/\Pf O b/\An k) (λK r=>qc6 (qc1 (m:=n*10) rfl B (f2_of rfl rfl (Hh rfl)) ⋯ ⋯ λv H M I B'=>r _ ⟨H,v,rfl,B',M,⋯⟩)) ?_;rintro g ⟨b,k,rfl,B,W⟩;refine qb9 (λg=>∃b k,g=(qh6 n z o f b Y (.int A) (.int V) (.int m) (.int k))/\Pf O b/\An k) (λK r=>Hg (decide (0<V)&&!decide (o=[])) (λQ q=>ql0 (decide (0<V)) (!decide (o=[])) (λQ q=>qe4 (f2_of rfl rfl rfl) q) (λ_ Q q=>qe4 (f2_of (y:=kL []) rfl rfl (qaP4 o [])) q) q) (λh=>?_) λ_=>r _ ⟨b,k,rfl,B,W⟩) ?_
 .rw[zB0] at h;have a3:o≠[]:=by simpa using h.2
  have a5:=List.length_pos_iff.mpr a3;refine qc6 ⟨rfl,qc1 (m:=(o.length:Nat)) rfl B ((qs4 rfl).trans (by rw[qm5])) ⋯ ⋯ λv H M I B'=>?_⟩;obtain⟨d,N,X⟩:=qm9 (xs:=O5 o) (i:=v) M (by rw[qm5];exact I);obtain⟨x,hx,rfl⟩:=zB4.mp N;exact qa2 (a:=D.int x) X ⟨rfl,r _ ⟨H,x,rfl,B',hk x hx⟩⟩
 rintro g ⟨b,k,rfl,B,W⟩;have a4:f.length<64:=⋯;refine Iy ⟨rfl,qa2 (a:=D.l false (O7 f)) rfl (qa2 (a:=O7 f) rfl ⟨qp2 f,?_⟩)⟩;refine qk5 (λι=>∃d d',ι=[d,d']) (λx=>some (fstD x)) _ [] _ (by show 0+(O7 f).length<1000000;unfold O7;rw[zAb];lia) ⟨_,_,rfl⟩ ?_ ?_;{rintro y hy ι b0 ⟨d,d',rfl⟩ R hR a0;obtain⟨p,_,rfl⟩:=zB4.mp hy;exact ql7 (qT1 (Bh rfl (qn5 (d:=.int p.1) rfl rfl ⟨a0,hR [.int p.1,.int p.2] ⟨_,_,rfl⟩⟩)))};rintro ι ⟨d,d',rfl⟩;rw[zBa,qG3,qaQ0];obtain⟨Z,a1⟩:∃Z:List Int,f.map (·.1)=Z:=⟨_,rfl⟩;rw[a1];refine qa2 (a:=D.bl (!decide (k∈Z))) (qx1 (k:=k) (z:=false) (ks:=Z)) (qa2 (a:=!decide (k∈Z)) rfl (ite_b (λhn=>?_) λhn=>U _ ⟨b,f,_,_,_,_,_,rfl,B,G,⋯⟩));have a2:¬k∈Z:=by simpa using hn
 rw[<-a1] at a2;refine qm7 (qS9 (ys:=O7 f) (d:=.q [.int k,.int m]) rfl rfl (by unfold O7 big;rw[zAb];lia) ?_);rw[qaq5];exact U _ ⟨b,f++[(k,m)],_,_,_,_,_,rfl,B,qQ6 G a4 W hm a2,by rw[zAf];show _+1<=_;lia⟩
theorem qj7:qa8 ["_law_bag_here", "_law_way", "_law_rooms", "_law_wraps", "_law_many", "_law_keys", "_law_shape"] ["_law_bag_here"] (qa3 qJ9):=by walk_at "s"
theorem qY8{a:Int}(d:0<=a)(h1:a<8):∃m c:Int,(∀b r,f2 gIx (Ay Je (Am (kC (.int 4)) (Am (kC (.int 8)) (Am (kC (.int 8)) (Am (kC (.int 16)) (Am (kC (.int 16)) (Am (kC (.int 32)) (Am (kC (.int 64)) (Am (kC (.int 1)) λ_=>some []))))))))) (rdN 1) (b::.int a::r)=some (.int m))/\(∀b r,f2 F7 (kC (.int 63)) (Ay (fx1 gInt) (Am (f2 gEq (rdN 1) (kC (.int 7))) λ_=>some [])) (b::.int a::r)=some (.int c))/\1<=m/\0<=c/\m+c<=64:=by have h:a=0∨a=1∨a=2∨a=3∨a=4∨a=5∨a=6∨a=7:=⋯;rcases h with rfl|rfl|rfl|rfl|rfl|rfl|rfl|rfl;{exact⟨4,0,λ_ _=>rfl,λ_ _=>rfl,∅,∅,∅⟩};{exact⟨8,0,λ_ _=>rfl,λ_ _=>rfl,∅,∅,∅⟩};{exact⟨8,0,λ_ _=>rfl,λ_ _=>rfl,∅,∅,∅⟩};{exact⟨16,0,λ_ _=>rfl,λ_ _=>rfl,∅,∅,∅⟩};{exact⟨16,0,λ_ _=>rfl,λ_ _=>rfl,∅,∅,∅⟩};{exact⟨32,0,λ_ _=>rfl,λ_ _=>rfl,∅,∅,∅⟩};{exact⟨64,0,λ_ _=>rfl,λ_ _=>rfl,∅,∅,∅⟩};exact⟨1,63,λ_ _=>rfl,λ_ _=>rfl,∅,∅,∅⟩
def qai0:VSp:=λds Q _=>∃ns b,ds=[b]/\Pf ns b/\∀a n wr ps ks,Pf ns a->1<=n->n<=64->qq0 ps->ps.length<=12->ks.Nodup->(∀k∈ks,An k)->(∀q,¬Crowd n.toNat wr (O3 n ps) ks q)->Q (.q [Ad n wr ps,kL ks]) [a]
theorem qak3(T:Txt K mg a):VFn P w K mg base 5 a.f39 a.d39 ["_law_bag_here"] qai0:=by refine VFn.mk2 T.d39.F qj7 (wOf [true]) (by walk_at "m") (by walk_at "l") (λ_ _ _ _ _ _ _ o=>⟨_,(Aa (Al 1 qj7.nd (Ak T.d29 (qb5 T) qa1 (rm o) (vaN 0 (vaV (qa4 Ae) Ac)))) (Aa (Al 2 qj7.nd (e2v (Ah qf2) qf1 (e2 (Ah qf2) qf1 (qa4 Ae) (Ak T.d29 (qb5 T) qa1 (rm o) (vaN 0 (vaV (qb8 (v2 (A4 qb7) Ap (Bl (qa0 Ae (qa0 Ae (qa0 Ae (qa0 Ae (qa0 Ae (qa0 Ae (qa0 Ae (qa0 Ae qa6 rfl) rfl) rfl) rfl) rfl) rfl) rfl) rfl)) (vnm 1))) Ac)))) (v2 (Ah qk8) qk7 Ae (Fm qu8 qan7.ops T.De (qa0 (v2 (A6 (qe3 o.u64) (qa9 _)) A9 (vnm 1) Ae) qa6 rfl))))) (Aa (Al 3 qj7.nd (e2v (A6 (qe3 o.u64) (qa9 _)) A9 (Ak T.d29 (qb5 T) qa1 (rm o) (vaN 0 (vaV (qa4 Ae) Ac))) Ae)) (Aa (Al 4 qj7.nd (e2P (A4 qb7) Ap (Kb (vaV (Ak T.d29 (qb5 T) qa1 (rm o) (vaN 0 (vaV (qa4 (v2 (Ah qf2) qf1 (vnm 2) Ae)) Ac))) (vaV (qa4 (v2 (Ah qf2) qf1 (vnm 2) Ae)) Ac))) (ecty qu8 qan7.ops T.De (Fb (vaV (e2v (A6 (qe3 o.u64) (qa9 _)) A9 (Ak T.d29 (qb5 T) qa1 (rm o) (vaN 0 (vaV (qa4 Ae) Ac))) Ae) Ac))))) (Aa (Al 5 qj7.nd (Ak T.d37 (qak5 T) qa1 (rm o) (vaN 0 (vaN 2 (vaN 4 Ac))))) (Aa (Al 6 qj7.nd (Ft (vaV (qb8 (vnm 2)) (vaV (qb8 (vnm 3)) (vaV (B6 (Ak T.d38 (qak4 T) qa1 (rm o) (vaN 0 (vaN 2 (vaN 5 Ac))))) Ac))))) (Aj (As (Ft (vaV (qb8 (vnm 6)) (vaV (Ak T.d36 (qV3 T) qa1 (rm o) (vaN 6 (vaN 5 Ac))) Ac))))))))))),λd Q X h=>?_⟩);obtain⟨p,b,rfl,B,q⟩:=h;refine At [b,.u,.u,.u,.u,.u,.u] rfl ?_;refine qb9 (λd=>∃b e,d=[b,.int e,.u,.u,.u,.u,.u]/\Pf p b/\0<=e/\e<8) (λK j=>qc6 (qc1 rfl B rfl ∅ ∅ λv i A s B'=>j _ ⟨i,v,rfl,B',A,s⟩)) ?_;rintro d ⟨b,e,rfl,B,I,J⟩;obtain⟨m,c,L,e2,Y,Z,mc⟩:=qY8 I J;refine qb9 (λd=>∃b n,d=[b,.int e,.int n,.u,.u,.u,.u]/\Pf p b/\1<=n/\n<=64) (λK j=>qc6 (qn9 (qT4 (x:=.int 1) rfl (qav0 (m:=m) rfl B (L _ _) ⋯ ⋯ λv i A s B'=>qa2 (a:=D.int (1+v)) rfl (qa2 (a:=D.int (1+v+c)) (by rw[show [b,D.int e,.u,.u,.u,.u,.u].set 0 i=i::.int e::[.u,.u,.u,.u,.u] from rfl,e2];rfl) (j _ ⟨i,1+v+c,rfl,B',⋯,⋯⟩)))))) ?_;rintro d ⟨b,n,rfl,B,t,u⟩;refine qb9 (λd=>∃b wr,d=[b,.int e,.int n,.bl wr,.u,.u,.u]/\Pf p b) (λK j=>qc6 (qn9 (qc1 rfl B rfl ∅ ∅ λv i A s B'=>qa2 (a:=D.bl (decide (v=1))) rfl (j _ ⟨i,_,rfl,B'⟩)))) ?_;rintro d ⟨b,wr,rfl,B⟩;refine qb9 (λd=>∃b m,d=[b,.int e,.int n,.bl wr,.int m,.u,.u]/\Pf p b/\0<=m/\m<=66) (λK j=>qc6 (qav3 (qF1 (qe2 (qc1 (m:=n+1) rfl B rfl ⋯ ⋯ λs b1 M N B1=>qe0 (y:=.int (n+2)) rfl (qc0 ⟨by show 1+1<=1000000;decide,Ix (qe2 (qn9 (qc1 rfl B1 rfl ∅ ∅ λv2 H O R B2=>qa2 (a:=D.bl (decide (v2=1))) rfl (qc0 ?_))))⟩)))))) ?_;{cases decide (v2=1) with|true=>exact qa2 (a:=D.int 1) rfl (qa2 (a:=D.int (n+2)) rfl (j _ ⟨H,n+2,rfl,B2,⋯,⋯⟩))|false=>exact qa2 (a:=D.int 0) rfl (qa2 (a:=D.int s) rfl (j _ ⟨H,s,rfl,B2,⋯,⋯⟩))};rintro d ⟨b,m,rfl,B,U,m2⟩;refine qb9 (λd=>∃b f,d=[b,.int e,.int n,.bl wr,.u,kL f,.u]/\Pf p b/\f.Nodup/\(∀k∈f,An k)/\f.length<=66) (λK j=>qc6 (qaE3 (x:=b) (y:=.int n) (w:=.int m) (qc4 rfl B.known) rfl rfl rfl (qc4 rfl B.known) ⟨p,b,n,m,rfl,B,t,u,U,⋯,λi f B' C z V=>qa2 (a:=[i,.int e,.int n,.bl wr,.u,.u,.u]) rfl (j _ ⟨i,f,rfl,B',C,z,⋯⟩)⟩)) ?_;rintro d ⟨b,f,rfl,B,C,z,V⟩;refine qb9 (λd=>∃b g,d=[b,.int e,.int n,.bl wr,.u,kL f,Ad n wr g]/\Pf p b/\qq0 g/\g.length<=12) (λK j=>qc6 (qy5 (qe1 (y:=.int n) rfl rfl (qe1 (y:=.bl wr) rfl rfl (qe2 (Gq (qaE3 (x:=b) (y:=.int n) (w:=kL f) (qc4 rfl B.known) rfl rfl rfl (qc4 rfl B.known) ⟨p,b,n,false,f,rfl,B,t,u,z,⋯,λi g B' G r=>qa2 (a:=[i,.int e,.int n,.bl wr,.u,kL f,.u]) rfl (qc0 ⟨by show 2+1<=1000000;decide,?_⟩)⟩))))))) ?_;{rw[show (D.l false (O7 g)).fz=.l true (O7 g) from congrArg (D.l true) (qG2 g)];exact j _ ⟨i,g,rfl,B',G,r⟩};rintro d ⟨b,g,rfl,B,G,r⟩;exact qg7 (qy5 (qe1 (y:=Ad n wr g) rfl rfl (qe2 (qW0 (x:=Ad n wr g) (y:=kL f) rfl rfl rfl ⟨n,wr,g,false,f,rfl,t,u,λS sub W=>qa2 (a:=[b,.int e,.int n,.bl wr,.u,kL f,Ad n wr g]) rfl (qc0 ⟨by show 1+1<=1000000;decide,q b n wr g S B t u G r (C.sublist sub) (λk E=>z k (sub.subset E)) W⟩)⟩))))
theorem qaw2:qa8 ["_law_shape"] ["_law_shape"] (qa3 qZ0):=by walk_at "s"
def qav5(CP:γ):VSp:=λds Q _=>∃n wr ps,ds=[Ad n wr ps]/\1<=n/\n<=64/\qq0 ps/\Q (Ag false CP n wr ps) ds
theorem qab5(T:Txt K mg a):VFn P w K mg base 8 a.f40 a.d40 ["_law_shape"] (qav5 a.C8):=by refine VFn.mk2 T.d40.F qaw2 (wOf [true]) (by walk_at "m") (by walk_at "l") (λ_ _ _ _ _ _ _ c=>⟨_,(Aj (As (emake T.Cb T.Dw T.d8 (qL4 T) qa1 (rm c) (vaV (qb8 (v2 (A4 qb7) Ap (vnm 0) Ae)) (vaV (qb8 (v2 (A4 qb7) Ap (vnm 0) Ae)) (vaV (qa4 (Fm qd3 qt3.ops T.Ch (qa0 (v2 (A4 qb7) Ap (vnm 0) Ae) qa6 rfl))) Ac)))))),λf Q g h=>?_⟩);obtain⟨n,wr,b,rfl,d,e,G,q⟩:=h;refine At [Ad n wr b] rfl ?_;exact qg7 (qac5 (qe1 (y:=.int n) rfl rfl (qe1 (y:=.bl wr) rfl rfl (qe0 (y:=.l false (O7 b)) (qas0 (z:=true)) (qc0 ⟨n,wr,false,b,rfl,d,e,G,rfl,qa2 (a:=Ag false a.C8 n wr b) rfl (qa2 (a:=[Ad n wr b]) rfl q)⟩)))))
theorem qai9:qa8 ["_law_found"] ["_law_found"] (qa3 qJ8):=by walk_at "s"
def qah9:VSp:=A5 λds d=>∃x t,ds=[x]/\x.kind=some t/\d=.bl (subT t "int" && !(subT t "bool"))
theorem qak2(T:Txt K mg a):VFn P w K mg base 1 a.f41 a.d41 ["_law_found"] qah9:=by
 refine VFn.mk2 T.d41.F qai9 (wOf [true]) qb0 (by walk_at "l") (λ_ _ _ _ _ _ _ f=>⟨_,(Aj (As (qa4 (Jd (vbi qd4 ql8.ops T.C9 (qa0 (vnm 0) (qa0 (vty "int" T.De) qa6 rfl) rfl)) (Hc (J1 (vbi qd4 ql8.ops T.C9 (qa0 (vnm 0) (qa0 (vty "bool" T.D6) qa6 rfl) rfl)))))))),λg Q i h=>?_⟩);obtain⟨d,⟨x,t,rfl,b,rfl⟩,q⟩:=h;refine At [x] rfl ?_;have c:∀n:String,F8 n=true->Ay (fx2 gIsi) (Am (rdN 0) (Am (kC (D.ty n)) λ_=>some [])) [x]=some (.bl (subT t n)):=λn e=>by unfold Ay Am;rw[rd0 (qg0 b)];show (if F8 n=true then x.kind.map λt=>D.bl (subT t n) else none)=_;rw[if_pos e,b];rfl
 exact qg5 _ (qR5 (c "int" rfl) (Bd (c "bool" rfl) rfl)) q
theorem qaj0:qa8 ["_law_found", "_law_due"] ["_law_found", "_law_due"] (qa3 qK3):=by walk_at "s"
def Ek(x:D):Prop:=x=.non∨(∃i,x=.int i)∨∃b,x=.bl b
def alk:Nat->D->D->Prop|0,x,y=>x=y/\Ek x|j+1,x,y=>(x=y/\Ek x)∨∃xs ys,(x=.l true xs/\y=.l true ys∨x=.q xs/\y=.q ys)/\D.imms xs=true/\D.imms ys=true/\xs.length=ys.length/\xs.length<=1000/\∀(i:Nat) u v,xs[i]?=some u->ys[i]?=some v->alk j u v
theorem qo9(h:Ek x):x.known=true:=by rcases h with rfl|⟨_,rfl⟩|⟨_,rfl⟩<;>rfl
theorem qp9:∀{j:Nat}{x y:D},alk j x y->x.known=true/\y.known=true|0,_,_,⟨rfl,h⟩=>⟨qo9 h,qo9 h⟩|_+1,_,_,.inl ⟨rfl,h⟩=>⟨qo9 h,qo9 h⟩|_+1,_,_,.inr ⟨_,_,.inl ⟨rfl,rfl⟩,_⟩=>⟨rfl,rfl⟩|_+1,_,_,.inr ⟨_,_,.inr ⟨rfl,rfl⟩,_⟩=>⟨rfl,rfl⟩
def spA:Nat->VSp|0=>λ_ _ _=>False|j+1=>A5 λds d=>∃x y,ds=[x,y]/\alk j x y/\x.imm=true/\y.imm=true/\d=.bl true
theorem qY3:∀j,Bp (spA j)|0=>λ_ _ _ _ _ _ _ h=>h|_+1=>qb0
theorem qaE8(h:d∈Ez xs ys):∃(i:Nat)(u v:D),d=.q [u,v]/\xs[i]?=some u/\ys[i]?=some v:=by obtain⟨i,a⟩:=List.getElem?_of_mem h;unfold Ez at a;rw[List.getElem?_zipWith] at a;cases b:xs[i]? with|none=>rw[b] at a;cases a|some u=>cases c:ys[i]? with|none=>rw[b,c] at a;cases a|some v=>rw[b,c] at a;cases a;exact⟨i,u,v,rfl,b,c⟩
theorem qaF8{tp:Bool}(a:x.seqF=some (tp,xs))(b:y.seqF=some (tp,ys))(ix:x.imm=true)(c:y.imm=true):twoS [x,y]=some (tp,xs,ys):=by show (x.seqF.bind λp=>y.seqF.bind λq=>if p.1=q.1/\x.imm=true/\y.imm=true then some (p.1,p.2,q.2) else none)=_;rw[a,b];exact if_pos ⟨rfl,ix,c⟩
theorem qE6(T:Txt K mg a):∀j,VFn P w K mg base (j+2) a.f42 a.d42 ["_law_found", "_law_due"] (spA j)
 |0=>⟨⟨λN H Q E ⟨_,_,_,_,_,h⟩=>Oz h,λA outer s H args us N Q E _ _ _ _ ⟨_,_,_,_,_,h⟩=>Oz h⟩,qY3 0⟩|j+1=>by
  have qu3:∀_:Txt K mg a,VFn P w K mg base (j+2) a.f42 a.d42 ["_law_found", "_law_due"] (spA j):=λT=>qE6 T j;refine VFn.mk' T.d42.F qaj0 (wOf [true,true]) (qY3 _) (λt Q l h=>by obtain⟨d,⟨x,y,e,_⟩,_⟩:=h;rw[e];rfl) (λt Q l h=>by obtain⟨d,⟨x,y,e,_,O,S,_⟩,_⟩:=h;rw[e];simp[G2,wOf,O,S]) (λ_ _ _ _ _ _ _ g=>⟨_,(Aa (sif (tv (vbi qao5 qaR1.ops T.C9 (qa0 (vnm 1) (qa0 (B9 (qa0 (vty "list" T.Ch) (qa0 (vty "tuple" T.D4) qa6 rfl) rfl)) qa6 rfl) rfl))) (Aa (sif (tor (q2 (Aq (qU7 g.u64) (qa9 _)) Gg (vbi qd4 ql8.ops T.C9 (qa0 (vnm 0) (qa0 (vty "list" T.Ch) qa6 rfl) rfl)) (vbi qd4 ql8.ops T.C9 (qa0 (vnm 1) (qa0 (vty "list" T.Ch) qa6 rfl) rfl))) (Jc (q2 (Aq (qU7 g.u64) (qa9 _)) Gg (vbi qd4 ql8.ops T.C9 (qa0 (vnm 0) (qa0 (vty "tuple" T.D4) qa6 rfl) rfl)) (vbi qd4 ql8.ops T.C9 (qa0 (vnm 1) (qa0 (vty "tuple" T.D4) qa6 rfl) rfl))))).te (Aj (As (qa4 vbl))) Au) (Aj (As (Fl (qa4 (v2 (A6 (qe3 g.u64) (qa9 _)) A9 (vbi qp6 qp5.ops T.Cq (qa0 (vnm 0) qa6 rfl)) (vbi qp6 qp5.ops T.Cq (qa0 (vnm 1) qa6 rfl)))) (Ga (ebi (qD1 rfl) qaD5.ops T.Dq (Fb (vaV (ecZ (NY:=["_law_one", "_law_other"]) (src:=[none,none]) T.Dz (vaV (qb8 (vnm 0)) (vaV (qb8 (vnm 1)) Ac)) (blk (λB C G H0 I=>(Br (n:=2) rfl (qc8 (Ax 0 (show (["_law_one", "_law_other"]:List Str).Nodup by decide +kernel)) (qc8 (Ax 1 (show (["_law_one", "_law_other"]:List Str).Nodup by decide +kernel)) Bq)))) (λB C G H0 I=>Ex) (λB C G H0 I=>(Ak T.d42 (qu3 T) qs5 (g.mono ⋯) (vaN 0 (vaN 1 Ac)))))) Ac)))))))) Au) (Aa (sif (q2 (Aq Ed (qa9 _)) Ec (vnm 1) Bc) (Aj (As (qa4 (v2 (A6 Ed (qa9 _)) Ec (vnm 0) Bc)))) Au) (Aa (sif (tv (vbi qd4 ql8.ops T.C9 (qa0 (vnm 1) (qa0 (vty "bool" T.D6) qa6 rfl) rfl))) (Aj (As (qa4 (Jd (vbi qd4 ql8.ops T.C9 (qa0 (vnm 0) (qa0 (vty "bool" T.D6) qa6 rfl) rfl)) (Hc (v2 (A6 (qe3 g.u64) (qa9 _)) A9 (vnm 0) (vnm 1))))))) Au) (Aa (sif (tv (vbi qd4 ql8.ops T.C9 (qa0 (vnm 1) (qa0 (vty "str" T.Dx) qa6 rfl) rfl))) (Aj (As (qa4 (Jd (vbi qd4 ql8.ops T.C9 (qa0 (vnm 0) (qa0 (vty "str" T.Dx) qa6 rfl) rfl)) (Hc (v2 (A6 (qe3 g.u64) (qa9 _)) A9 (vnm 0) (vnm 1))))))) Au) (Aj (As (Fl (Ak T.d41 (qak2 T) qa1 (g.mono ⋯) (vaV (qb8 (vnm 0)) Ac)) (Ga (qa4 (v2 (A6 (qe3 g.u64) (qa9 _)) A9 (vnm 0) (vnm 1))))))))))),λt Q l h=>?_⟩);obtain⟨d,⟨x,y,rfl,o,ix,J,rfl⟩,q⟩:=h;have U:=(qp9 o).1;have V:=(qp9 o).2;refine At [x,y] rfl ?_;have z:(x=y/\Ek x)∨∃k c f,j=k+1/\(x=.l true c/\y=.l true f∨x=.q c/\y=.q f)/\D.imms c=true/\D.imms f=true/\c.length=f.length/\c.length<=1000/\∀(i:Nat) u v,c[i]?=some u->f[i]?=some v->alk k u v:=by cases j with|zero=>exact .inl o|succ k=>exact o.imp id λ⟨c,f,h⟩=>⟨k,c,f,rfl,h⟩
  rcases z with⟨rfl,lf⟩|⟨k,c,f,rfl,e,m1,m2,hl,hb,al'⟩
  .rcases lf with rfl|⟨i,rfl⟩|⟨b,rfl⟩
   .refine qg1 false rfl nofun λ_=>?_
    exact qg1 true rfl (λ_=>qg5 (.bl true) rfl q) nofun
   .refine qg1 false rfl nofun λ_=>?_
    refine qg1 false rfl nofun λ_=>?_
    refine qg1 false rfl nofun λ_=>?_
    refine qg1 false rfl nofun λ_=>?_
    exact qg7 (qag6 (qk6 (qe1 (y:=.int i) rfl rfl (qc0 (qf5 (d:=.bl true) ⟨_,_,rfl,rfl,rfl⟩ (qa2 (a:=[.int i,.int i]) rfl (qa2 (a:=true) rfl (Bh rfl (qo3 (xe:=l) (ds:=[.int i,.int i]) (d:=.bl true) (f2_of (x:=.int i) (y:=.int i) rfl rfl (Ks rfl)) q)))))))))
   refine qg1 false rfl nofun λ_=>?_
   refine qg1 false rfl nofun λ_=>?_
   exact qg1 true rfl (λ_=>qg5 (.bl true) (qR5 (a:=true) (b:=true) rfl (f2_of (x:=.bl b) (y:=.bl b) rfl rfl (by cases b<;>rfl))) q) nofun
  have step:∀(Q2:DK),Q2 (.bl true) [x,y]->∀p,x.seqF=some (p,c)->y.seqF=some (p,f)->tcO (fx1 gAll) (Hr (tbV (tCZ [none,none] (tbV (Bo (rdN 0)) (tbV (Bo (rdN 1)) A7)) (Gj 2 (qp4 (gNm 0) (qp4 (gNm 1) Gi))) qYes (qj3 (spA (k+1)) [] (tbN 0 (tbN 1 A7)))) A7)) [x,y] Q2 l:=λQ2 q2 p W X=>by refine Ix (qe2 (qe1 (y:=x) (qc4 rfl U) ix (qe1 (y:=y) (qc4 rfl V) J (qc0 (qa2 (a:=(p,c,f)) (qaF8 W X ix J) ⟨m1,m2,hl,?_⟩)))));refine qk5 (λι=>∃d Y,ι=[d,Y]) (λ_=>some (.bl true)) _ [] _ (by show 0+(Ez c f).length<1000000;rw[qH3 hl];lia) ⟨_,_,rfl⟩ ?_ ?_;{rintro d Z ι a0 ⟨d1,d2,rfl⟩ R hR m;obtain⟨i,u,v,rfl,L,M⟩:=qaE8 Z;have r:=al' i u v L M;exact ql7 (qT1 (Bh rfl (qs2 (x:=u) (y:=v) (qc4 rfl (qp9 r).1) (qc4 rfl (qp9 r).2) (qc4 rfl (qp9 r).1) ⟨u,v,rfl,r,qn4 m1 L,qn4 m2 M,rfl⟩ rfl ⟨m,hR _ ⟨_,_,rfl⟩⟩)))};rintro ι ⟨d1,d2,rfl⟩;rw[zBa,qG3];exact qc0 (qa2 (a:=D.bl true) (by rw[show fx1 gAll [D.l false ((Ez c f).map λ_=>D.bl true)]=_ from qaE6 (λ_=>true) _,zBl.mpr λ_ _=>rfl]) q2)
  rcases e with⟨rfl,rfl⟩|⟨rfl,rfl⟩
  .refine qg1 true rfl (λ_=>?_) nofun
   refine ql6 false (λQ q=>qz8 false false (λQ q=>qe4 (b:=false) rfl q) (λ_ Q q=>qe4 (b:=false) rfl q) q) nofun λ_=>?_
   exact qg7 (Iw true (f2_of (qs4 rfl) (qs4 rfl) (Ks (by rw[hl]))) (λ_=>step _ q false rfl rfl) nofun)
  refine qg1 true rfl (λ_=>?_) nofun;refine ql6 false (λQ q=>qz8 false false (λQ q=>qe4 (b:=false) rfl q) (λ_ Q q=>qe4 (b:=false) rfl q) q) nofun λ_=>?_
  exact qg7 (Iw true (f2_of (x:=.int (c.length:Nat)) (y:=.int (f.length:Nat)) rfl rfl (Ks (by rw[hl]))) (λ_=>step _ q true rfl rfl) nofun)
theorem qu3(T:Txt K mg a):VFn P w K mg base 6 a.f42 a.d42 ["_law_found", "_law_due"] (spA 4):=qE6 T 4
theorem qD8:qa8 ["_law_shape", "_law_key", "_law_room", "_law_rooms", "_law_wraps", "_law_homes_here", "_law_way"] ["_law_shape", "_law_key", "_law_room"] (qa3 qaw4):=by walk_at "s"
def qaH5:VSp:=A5 λds d=>∃n wr ps k r,ds=[Ad n wr ps,.int k,.int r]/\1<=n/\0<=r/\r<n/\d=Ge (Be n wr ps k r)
theorem qar3(T:Txt K mg a):VFn P w K mg base 2 a.f31 a.d31 ["_law_shape", "_law_key", "_law_room"] qaH5:=by
 refine VFn.mk2 T.d31.F qD8 (wOf [true,true,true]) qb0 (by walk_at "l") (λ_ _ _ _ _ _ _ g=>⟨_,(Aa (E9 (qb8 (vnm 0)) (Br (n:=3) rfl (qc8 (Ax 3 qD8.nd) (qc8 (Ax 4 qD8.nd) (qc8 (Ax 5 qD8.nd) Bq))))) (Aa (Al 6 qD8.nd (e2n 2 (Ah qz2) qz1 (Ak T.d30 (qC1 T) qa1 (rm g) (vaN 0 (vaN 1 Ac))))) (Aa (sif (Gz (q2 (Aq G4 (qa9 _)) G9 (vnm 6) Ae) (Ev (Bu (tv (vnm 4))))).te (Aj (As (qa4 Bc))) Au) (Aj (As (qa4 (v2 (Ah qg9) qg8 (vnm 6) (vnm 3)))))))),λj Q m h=>?_⟩);obtain⟨d,⟨n,wr,c,k,r,rfl,f,o,p,rfl⟩,q⟩:=h;refine At [Ad n wr c,.int k,.int r,.u,.u,.u,.u] rfl ?_;refine qb1 [Ad n wr c,.int k,.int r,.int n,.bl wr,.l true (O7 c),.u] (λK e=>Jg rfl rfl e) ?_;refine qb1 [Ad n wr c,.int k,.int r,.int n,.bl wr,.l true (O7 c),.int (r-qe5 n c k)] (λK e=>⟨rfl,qs2 (x:=Ad n wr c) (y:=.int k) (d:=.int (qe5 n c k)) rfl rfl rfl ⟨n,wr,c,k,rfl,f,rfl⟩ rfl (qa2 (a:=D.int (r-qe5 n c k)) rfl e)⟩) ?_;have s:=qQ3 f c k;unfold Be at q;refine ql6 (decide (r-qe5 n c k<0)&&!wr) (λQ q=>ql0 (decide (r-qe5 n c k<0)) (!wr) (λQ q=>qe4 (f2_of rfl rfl rfl) q) (λ_ Q q=>qn8 (b:=wr) rfl q) q) (λh=>?_) λh=>?_
 .rw[zB0] at h;have i:wr=false:=by cases wr with|true=>cases h.2|false=>rfl
  subst i;have:=zAn h.1;rw[if_neg ∅,if_neg ⋯] at q;exact qg5 .non rfl q
 refine qg5 (.int ((r-qe5 n c k)%n)) (f2_of rfl (y:=.int n) rfl (modP ⋯)) ?_;cases wr with|true=>rw[if_pos rfl] at q;exact q|false=>rw[Bool.not_false,Bool.and_true] at h;have:=zBp h;rw[if_neg ∅,if_pos ⋯] at q;rw[zCd ⋯ ⋯];exact q
theorem qB5:qa8 ["_law_shape", "_law_room", "_law_one", "_law_other", "_law_mine", "_law_others_here"] ["_law_shape", "_law_room", "_law_one", "_law_other"] (qa3 qK4):=by walk_at "s"
def qai4:VSp:=A5 λds d=>∃n wr ps r x y,ds=[Ad n wr ps,.int r,.int x,.int y]/\1<=n/\0<=r/\r<n/\d=.bl (qy4 n wr ps r x y)
theorem qak7(T:Txt K mg a):VFn P w K mg base 3 a.f32 a.d32 ["_law_shape", "_law_room", "_law_one", "_law_other"] qai4:=by
 refine VFn.mk2 T.d32.F qB5 (wOf [true,true,true,true]) qb0 (by walk_at "l") (λ_ _ _ _ _ _ _ e=>⟨_,(Aa (Al 4 qB5.nd (Ak T.d31 (qar3 T) qa1 (rm e) (vaN 0 (vaN 2 (vaN 1 Ac))))) (Aa (Al 5 qB5.nd (Ak T.d31 (qar3 T) qa1 (rm e) (vaN 0 (vaN 3 (vaN 1 Ac))))) (Aa (sif (tor (q2 (Aq Ed (qa9 _)) Ec (vnm 4) Bc) (Jc (q2 (Aq Ed (qa9 _)) Ec (vnm 5) Bc))).te (Aj (As (qa4 (v2 (A6 qK9 (qa9 _)) qK8 (vnm 4) Bc)))) Au) (Aj (As (qa4 (vor (v2 (A6 Fc (qa9 _)) Fe (vnm 4) (vnm 5)) (Hc (Jd (v2 (A6 (qe3 e.u64) (qa9 _)) A9 (vnm 4) (vnm 5)) (Hc (v2 (A6 G4 (qa9 _)) G9 (vnm 2) (vnm 3)))))))))))),λs Q t h=>?_⟩);obtain⟨d,⟨n,wr,c,r,x,y,rfl,j,k,m,rfl⟩,q⟩:=h;refine At [Ad n wr c,.int r,.int x,.int y,.u,.u] rfl ?_;refine qb1 [Ad n wr c,.int r,.int x,.int y,Ge (Be n wr c x r),.u] (λK i=>Kn (x:=Ad n wr c) (y:=.int x) (w:=.int r) rfl rfl rfl rfl rfl ⟨n,wr,c,x,r,rfl,j,k,m,rfl⟩ rfl i) ?_;refine qb1 [Ad n wr c,.int r,.int x,.int y,Ge (Be n wr c x r),Ge (Be n wr c y r)] (λK i=>Kn (x:=Ad n wr c) (y:=.int y) (w:=.int r) rfl rfl rfl rfl rfl ⟨n,wr,c,y,r,rfl,j,k,m,rfl⟩ rfl i) ?_;unfold qy4 at q;cases o:Be n wr c x r with
 |none=>rw[o] at q;exact ql6 true (λQ q=>qz8 true true (λQ q=>qe4 (b:=true) rfl q) nofun q) (λ_=>q) nofun|some f=>
  rw[o] at q;cases p:Be n wr c y r with
  |none=>rw[p] at q;exact ql6 true (λQ q=>qz8 false true (λQ q=>qe4 (b:=false) rfl q) (λ_ Q q=>qe4 (b:=true) rfl q) q) (λ_=>q) nofun|some g=>
   rw[p] at q;refine ql6 false (λQ q=>qz8 false false (λQ q=>qe4 (b:=false) rfl q) (λ_ Q q=>qe4 (b:=false) rfl q) q) nofun λ_=>?_
   exact qg5 _ (qaQ2 (a:=decide (g<f)) rfl (qR5 (a:=decide (f=g)) (b:=decide (x<y)) rfl rfl)) q
theorem ql2:qa8 ["_law_shape", "_law_held", "_law_key", "_law_rooms", "_law_wraps", "_law_homes_here", "_law_seen", "_law_home_here", "_law_spot", "_law_room"] ["_law_shape", "_law_held", "_law_key"] (qa3 qZ1):=by walk_at "s"
theorem qaM9{lo:Int}{m:Nat}(h:(Bm lo m)[j]?=some x):j<m/\x=.int (lo+(j:Nat)):=by by_cases a:j<m;{rw[qO7 a] at h;cases h;exact⟨a,rfl⟩};rw[zB2 (by rw[qA5];lia)] at h;cases h
theorem qaT0{n:Int}{wr:Bool}{ps:Pr}(h:i<G3 n wr ps k):(En n wr ps k)[i]?=some ((O3 n ps k+i)%n.toNat):=by unfold En Hv;rw[zAt,zBt h];rfl
def qav6:VSp:=A5 λds d=>∃n wr ps z g k,ds=[Ad n wr ps,.l z (O6 n.toNat g),.int k]/\1<=n/\n<=64/\d=Hk n wr ps g k
abbrev qj5(n:Int)(wr:Bool)(ps:Pr) (z) (g) (kk) (a b c d:D):=([Ad n wr ps,.l z (O6 n.toNat g),.int kk,.int n,.bl wr,.l true (O7 ps),a,b,c,d]:Ds)
theorem qaz1(T:Txt K mg a):VFn P w K mg base 4 a.f43 a.d43 ["_law_shape", "_law_held", "_law_key"] qav6:=by
 refine VFn.mk2 T.d43.F ql2 (wOf [true,true,true]) qb0 (by walk_at "l") (λ_ _ _ _ _ _ _ A=>⟨_,(Aa (E9 (qb8 (vnm 0)) (Br (n:=3) rfl (qc8 (Ax 3 ql2.nd) (qc8 (Ax 4 ql2.nd) (qc8 (Ax 5 ql2.nd) Bq))))) (Aa (Al 6 ql2.nd (qa4 (Bl qa6))) (Aa (Al 7 ql2.nd (Ak T.d30 (qC1 T) qa1 (rm A) (vaN 0 (vaN 2 Ac)))) (Aa (qaT8 N9 T.Cs (Fb (vaN 7 (vaV (qa4 (v2 (A4 qb7) Ap (Bl (qa0 (vnm 3) (qa0 (v2 (Ah qf2) qf1 (vnm 7) (vnm 3)) qa6 rfl) rfl)) (Fm qu8 qan7.ops T.De (qa0 (vnm 4) qa6 rfl)))) Ac))) (Ax 8 ql2.nd) (Aa (Al 9 ql2.nd (qa4 (v2 (Ah qg9) qg8 (vnm 8) (vnm 3)))) (Aa (Ej (Fw 6 qE9 Oc Oe Of qh0 (vaV (qa4 (B9 (qa0 (vnm 9) (qa0 (v2 (A4 qb7) Ap (vnm 1) (vnm 9)) qa6 rfl) rfl))) Ac))) (Aa (sif (q2 (Aq (qe3 A.u64) (qa9 _)) A9 (v2 (A4 qb7) Ap (vnm 1) (vnm 9)) (vnm 2)) (Aj (As (Ft (vaV (qb8 (vnm 9)) (vaV (emv 6) Ac))))) Au) (Aj (sif (tor (q2 (Aq Ed (qa9 _)) Ec (v2 (A4 qb7) Ap (vnm 1) (vnm 9)) Bc) (Jc (te (Ak T.d32 (qak7 T) qa1 (rm A) (vaN 0 (vaN 9 (vaN 2 (vaV (qb8 (v2 (A4 qb7) Ap (vnm 1) (vnm 9))) Ac)))))))).te (Aj (As (Ft (vaV (qa4 Bc) (vaV (emv 6) Ac))))) Au)))))) (Aj (As (Ft (vaV (qa4 Bc) (vaV (emv 6) Ac))))))))),λt Q V h=>?_⟩);obtain⟨d,⟨n,wr,b,z,g,c,rfl,B,W,rfl⟩,q⟩:=h;have X:=Eh (ps:=b) B c;refine At [Ad n wr b,.l z (O6 n.toNat g),.int c,.u,.u,.u,.u,.u,.u,.u] rfl ?_;refine qb1 (qj5 n wr b z g c .u .u .u .u) (λK j=>Jg rfl rfl j) ?_;refine qb1 (qj5 n wr b z g c (.l false []) .u .u .u) (λK j=>j) ?_;refine qb1 (qj5 n wr b z g c (.l false []) (.int (O3 n b c:Nat)) .u .u) (λK j=>qc6 (qs2 (x:=Ad n wr b) (y:=.int c) rfl rfl rfl ⟨n,wr,b,c,rfl,B,by rw[qQ4 B]⟩ rfl j)) ?_;refine qb9 (λt=>∃e u p,t=(qj5 n wr b z g c (.l false e) .u u p)/\Q (.q [.non,.l false e]) [Ad n wr b,.l z (O6 n.toNat g),.int c]) (λK j=>?_) ?_
 .obtain⟨M,J,L,N⟩:∃M:Int,f2 gIx (Ay Je (Am (rdN 3) (Am (f2 Gw (rdN 7) (rdN 3)) λ_=>some []))) (Ay (fx1 gInt) (Am (rdN 4) λ_=>some [])) [Ad n wr b,.l z (O6 n.toNat g),.int c,.int n,.bl wr,.l true (O7 b),.l false [],.int (O3 n b c:Nat),.u,.u]=some (.int M)/\(M-(O3 n b c:Nat)).toNat=G3 n wr b c/\0<=M/\M<=200:=by unfold G3;cases wr with|true=>exact⟨(O3 n b c:Nat)+n,rfl,by rw[if_pos rfl];lia,⋯,⋯⟩|false=>exact⟨n,rfl,by rw[if_neg ∅];lia,⋯,⋯⟩
  refine⟨rfl,qe0 (y:=.int M) J (qc0 (qa2 (a:=D.int (O3 n b c:Nat)) rfl (qa2 (a:=(((O3 n b c:Nat):Int),M)) rfl ⟨qL6 ⋯ ⋯,qL6 N.1 ⋯,?_⟩)))⟩;rw[L];unfold Hk at q;have v:=λi=>qaT0 (n:=n) (wr:=wr) (ps:=b) (k:=c) (i:=i);have f:(En n wr b c).length=G3 n wr b c:=by unfold En Hv;rw[zAb,zBv]
  have O:G3 n wr b c<=n.toNat:=by rw[<-f];exact qW3
  generalize En n wr b c=R at v f q;generalize G3 n wr b c=m at v f O;refine qe6 (λi t=>∃e u p,t=(qj5 n wr b z g c (.l false e) .u u p)/\e.length=i/\Q (Fh n wr b g c (R.drop i) e) [Ad n wr b,.l z (O6 n.toNat g),.int c]) _ 0 _ ⟨[],_,_,rfl,rfl,q⟩ ?_ ?_
  .rintro i y S t ⟨e,u,p,rfl,G,q⟩ K2 C;rw[zAh] at G C q;obtain⟨U,rfl⟩:=qaM9 S;have A:=v i U;obtain⟨r,H⟩:∃r,(O3 n b c+i)%n.toNat=r:=⟨_,rfl⟩;rw[H] at A;have o:r<n.toNat:=by rw[<-H];exact Nat.mod_lt _ ⋯
   rw[qat6 A] at q;unfold Fh at q;have I:Gx (.int ((O3 n b c:Nat)+(i:Nat))) (.int n)=some (.int (r:Nat)):=by rw[<-Int.natCast_add,qP5 B,H]
   generalize ((O3 n b c:Nat):Int)+(i:Nat)=s at I;refine qu2 (At (qj5 n wr b z g c (.l false e) .u (.int s) p) rfl ?_);refine qb1 (qj5 n wr b z g c (.l false e) .u (.int s) (.int (r:Nat))) (λK j=>ql1 (f2_of (x:=.int s) (y:=.int n) rfl rfl I) j) ?_;refine qb1 (qj5 n wr b z g c (.l false (e++[D.q [D.int (r:Nat),A8 (g r)]])) .u (.int s) (.int (r:Nat))) (λK j=>qm7 (qS9 (ys:=e) (d:=.q [.int (r:Nat),A8 (g r)]) rfl (qap1 rfl (f2_of rfl rfl (Ee o)) rfl (qQ2 _)) (by unfold big;lia) j)) ?_;refine qg1 (decide (g r=some c)) (f2_of (f2_of rfl rfl (Ee o)) rfl qaQ6) (λh=>?_) λh=>?_;{rw[if_pos (zAn h)] at q;exact qg7 (qy5 (qe1 (y:=.int (r:Nat)) rfl rfl (qe2 (Gr (d:=.l false (e++[D.q [D.int (r:Nat),A8 (g r)]])) rfl (qc0 ⟨by show 1+1<=1000000;decide,q⟩)))))};rw[if_neg (zBp h)] at q;refine Hg (Gs n wr b c r (g r)) (λQ q=>?_) (λh=>?_) λh=>?_;{cases E:g r with|none=>rw[E] at q;exact qaG0 (f2_of (f2_of rfl rfl (Ee o)) rfl (by rw[E];rfl)) q|some x=>rw[E] at q;refine qaG1 (f2_of (f2_of rfl rfl (Ee o)) rfl (by rw[E];rfl)) ?_;exact qk6 (qc3 (x:=Ad n wr b) rfl (qc3 (x:=.int (r:Nat)) rfl (qc3 (x:=.int c) rfl (qe1 (y:=.int x) (f2_of rfl rfl ((Ee (z:=z) (g:=g) o).trans (by rw[E];rfl))) rfl (qc0 (qa2 (a:=D.int c) rfl (qa2 (a:=D.int (r:Nat)) rfl (qa2 (a:=Ad n wr b) rfl (qf5 (d:=.bl (Gs n wr b c r (some x))) ⟨n,wr,b,_,c,x,rfl,B,⋯,⋯,rfl⟩ (qa2 (a:=(qj5 n wr b z g c (.l false (e++[D.q [D.int (r:Nat),A8 (some x)]])) .u (.int s) (.int (r:Nat)))) rfl (qa2 rfl q)))))))))))};{rw[if_pos h] at q;exact qg7 (qy5 (qe0 (y:=.non) rfl (qe2 (Gr (d:=.l false (e++[D.q [D.int (r:Nat),A8 (g r)]])) rfl (qc0 ⟨by show 1+1<=1000000;decide,q⟩)))))};rw[if_neg (by rw[h];decide)] at q;exact C _ ⟨_,_,_,rfl,by rw[zAf,G];rfl,q⟩
  rintro t ⟨e,u,p,rfl,G,q⟩;rw[zAh,qA5,<-f,Mh] at q;exact j _ ⟨e,u,p,rfl,q⟩
 rintro t ⟨e,u,p,rfl,q⟩;exact qg7 (qy5 (qe0 (y:=.non) rfl (qe2 (Gr (d:=.l false e) rfl (qc0 ⟨by show 1+1<=1000000;decide,q⟩)))))
theorem qg6:qa8 ["_law_bag_here", "_law_shape", "_law_keys", "_law_asked_here", "_law_k", "_law_way", "_law_one"] ["_law_bag_here", "_law_shape", "_law_keys"] (qa3 qK2):=by walk_at "s"
theorem lst2(a:fa ds=some x)(b:fb ds=some y)(hi:D.imms [x,y]=true):Ay Je (Am fa (Am fb λ_=>some [])) ds=some (.l false [x,y]):=by unfold Ay Am;rw[a,b];exact qg4 ⟨hi,by show 1+1<=1000000;decide⟩
theorem ne_pr{ps:Pr}:gNe (.l true (O7 ps)) (.l false [])=some (.bl (!decide (ps=[]))):=by cases ps<;>rfl
theorem num3:An 3:=⟨∅,∅⟩
def qai3:VSp:=λds Q _=>∃ns b n wr ps z ks,ds=[b,Ad n wr ps,.l z (O5 ks)]/\Pf ns b/\1<=n/\n<=64/\qq0 ps/\(∀k∈ks,An k)/\ks.length<=64/\∀a L,Pf ns a->(∀k∈L,An k)->L.length=12->Q (kL L) [a,Ad n wr ps,.l z (O5 ks)]
theorem qak6(T:Txt K mg a):VFn P w K mg base 2 a.f44 a.d44 ["_law_bag_here", "_law_shape", "_law_keys"] qai3:=by
 refine VFn.mk2 T.d44.F qg6 (wOf [true,true,true]) (by walk_at "m") (by walk_at "l") (λ_ _ _ _ _ _ _ r=>⟨_,(Aa (Al 3 qg6.nd (qa4 (Bl qa6))) (Aa (qY6 N9 T.Cs (Fb (vaV (qa4 Ae) Ac)) (Ax 4 qg6.nd) (Aa (Al 5 qg6.nd (Ak T.d29 (qb5 T) qa1 (rm r) (vaN 0 (vaV (qa4 Ae) Ac)))) (Aa (Al 6 qg6.nd (e2P (A4 qb7) Ap (qa4 (v2 (Ah qf2) qf1 (vnm 2) (Bl (qa0 Ae qa6 rfl)))) (Ak T.d29 (qb5 T) qa1 (rm r) (vaN 0 (vaV (qa4 (v2 (Ah qf2) qf1 (vbi qp6 qp5.ops T.Cq (qa0 (vnm 2) qa6 rfl)) Ae)) Ac))))) (Aa (sif (q2 (Aq (qe3 r.u64) (qa9 _)) A9 (vnm 5) Ae) (Aj (Al 6 qg6.nd (e2 (Ah qf2) qf1 (qa4 (v2 (Ah qg9) qg8 (vnm 6) (J0 100000000000000000))) (e2 (Ah qk8) qk7 (qb8 (v2 (A4 qb7) Ap (vnm 1) Ae)) (e2 (Ah qf2) qf1 (qa4 Ae) (Ak T.d29 (qb5 T) qa1 (rm r) (vaN 0 (vaV (qa4 Ae) Ac)))))))) Au) (Aa (sif (q2 (Aq (qe3 r.u64) (qa9 _)) A9 (vnm 5) Ae) (Aj (Al 6 qg6.nd (Ak T.d29 (qb5 T) qa1 (rm r) (vaN 0 (vaV (e2P (A4 qb7) Ap (qa4 (Bl (qa0 (v2 (Ah qk8) qk7 (v2 (A4 qb7) Ap (vnm 1) Ae) Ae) (qa0 (v2 (Ah qf2) qf1 (J0 1000000000000000000) Ae) qa6 rfl) rfl))) (Ak T.d29 (qb5 T) qa1 (rm r) (vaN 0 (vaV (qa4 Ae) Ac)))) Ac))))) Au) (Aa (sif (Gz (q2 (Aq (qe3 r.u64) (qa9 _)) A9 (vnm 5) Ae) (Ev (q2 (Aq Jl (qa9 _)) Jy (vnm 6) (v2 (A4 qb7) Ap (vnm 1) Ae)))).te (Aj (Al 6 qg6.nd (qa4 (v2 (Ah qg9) qg8 (vnm 6) (v2 (A4 qb7) Ap (vnm 1) Ae))))) Au) (Aa (sif (Gz (q2 (Aq (qe3 r.u64) (qa9 _)) A9 (vnm 5) Ae) (Ev (q2 (Aq (qU7 r.u64) (qa9 _)) Gg (v2 (A4 qb7) Ap (vnm 1) Ae) (Bl qa6)))).te (Aj (Al 6 qg6.nd (e2vP (A4 qb7) Ap (e2P (A4 qb7) Ap (qb8 (v2 (A4 qb7) Ap (vnm 1) Ae)) (Ak T.d29 (qb5 T) qa1 (rm r) (vaN 0 (vaV (qa4 (vbi qp6 qp5.ops T.Cq (qa0 (v2 (A4 qb7) Ap (vnm 1) Ae) qa6 rfl))) Ac)))) Ae))) Au) (Aj (Ej (Fw 3 qE9 Oc Oe Of qh0 (vaN 6 Ac))))))))))) (Aj (As (emv 3))))),λc Q xe h=>?_⟩);obtain⟨E,b,n,wr,e,z,g,rfl,B,n1,n2,G,hk,a2,q⟩:=h;refine At [b,Ad n wr e,.l z (O5 g),.u,.u,.u,.u] rfl ?_;refine qb1 [b,Ad n wr e,.l z (O5 g),kL [],.u,.u,.u] (λK f=>f) ?_;refine qb9 (λc=>∃b L O M H,c=[b,Ad n wr e,.l z (O5 g),kL L,O,M,H]/\Pf E b/\(∀k∈L,An k)/\L.length=12) (λK f=>qQ9 (n:=12) rfl rfl (qe6 (λi c=>∃b L O M H,c=[b,Ad n wr e,.l z (O5 g),kL L,O,M,H]/\Pf E b/\(∀k∈L,An k)/\L.length=i) _ 0 _ ⟨b,[],_,_,_,rfl,B,nofun,rfl⟩ ?_ λc h=>f _ h)) ?_;rotate_left
 {rintro c ⟨b,L,O,M,H,rfl,B,W,V⟩;exact q b L B W V};rintro i y hy c ⟨b,L,O,M,H,rfl,B,W,V⟩ K2 R;rw[zAh] at V R;have hi:i<12:=(zA6.mp hy).1;refine qu2 (At [b,Ad n wr e,.l z (O5 g),kL L,y,M,H] rfl ?_);refine qb9 (λc=>∃b j,c=[b,Ad n wr e,.l z (O5 g),kL L,y,.int j,H]/\Pf E b) (λK f=>qc6 (qc1 rfl B rfl ∅ ∅ λv s I J B'=>f _ ⟨s,v,rfl,B'⟩)) ?_;rintro c ⟨b,j,rfl,B⟩;refine qb9 (λc=>∃b o,c=[b,Ad n wr e,.l z (O5 g),kL L,y,.int j,.int o]/\Pf E b/\An o) (λK f=>qc6 (qT4 (x:=kL (g++[3])) (f2_of rfl rfl (qaS2 (A:=g) (B:=[3]) (by show _+1<=1000;lia))) (qc1 (m:=((g.length+1:Nat):Int)) rfl B (f2_of (qs4 rfl) rfl (by rw[qm5];rfl)) ⋯ ⋯ λv s I J B'=>?_))) ?_;{obtain⟨d,N,S⟩:=qm9 (xs:=O5 (g++[3])) (i:=v) I (by rw[qm5,zAf];exact J);obtain⟨x,X,rfl⟩:=zB4.mp N;refine qa2 (a:=D.int x) S (f _ ⟨s,x,rfl,B',?_⟩);rcases zAd.mp X with w|w;{exact hk x w};rw[zAk.mp w];exact num3};rintro c ⟨b,o,rfl,B,t⟩;refine qb9 (λc=>∃b o,c=[b,Ad n wr e,.l z (O5 g),kL L,y,.int j,.int o]/\Pf E b/\An o) (λK f=>if_v (b:=decide (j=1)) (f2_of rfl rfl rfl) (λ_=>?_) λ_=>f _ ⟨b,o,rfl,B,t⟩) ?_;{refine qc6 (qT4 (x:=.int (o%100000000000000000)) (f2_of rfl rfl (modP ∅)) (t2_of (x:=.int n) rfl rfl (qT4 (x:=.int 1) rfl (qc1 rfl B rfl ∅ ∅ λv s I J B'=>qa2 (a:=D.int (1+v)) rfl (qa2 (a:=D.int (n*(1+v))) (Ko (qv3 ⋯ ⋯)) (qa2 (a:=D.int (o%100000000000000000+n*(1+v))) rfl (f _ ⟨s,_,rfl,B',?_⟩)))))));have:=mulB (A:=64) (C:=3) (by lia:0<=n) n2 (by lia:0<=1+v) ⋯;exact⟨⋯,⋯⟩};rintro c ⟨b,o,rfl,B,t⟩;refine qb9 (λc=>∃b o,c=[b,Ad n wr e,.l z (O5 g),kL L,y,.int j,.int o]/\Pf E b/\An o) (λK f=>if_v (b:=decide (j=2)) (f2_of rfl rfl rfl) (λ_=>?_) λ_=>f _ ⟨b,o,rfl,B,t⟩) ?_
 .refine qc6 (qk6 (qc3 (x:=b) (qc4 rfl B.known) (qe2 (qT4 (x:=kL [n*10,1000000000000000001]) (lst2 (f2_of (x:=.int n) rfl rfl (Hh rfl)) rfl rfl) (qc1 rfl B rfl ∅ ∅ λv s I J B'=>?_)))));obtain⟨d,N,S⟩:=qm9 (xs:=O5 [n*10,1000000000000000001]) (i:=v) I J;obtain⟨m,m0,m1,rfl⟩:∃m:Int,0<m/\m<=1000000000000000001/\d=.int m:=by simp only[O5,zAy,Mj,zAa,zAr,zC9] at N;rcases N with rfl|rfl;{exact⟨_,⋯,⋯,rfl⟩};exact⟨_,∅,∅,rfl⟩
  exact qa2 (a:=D.int m) S (qc0 (qa2 (a:=s) (qc4 rfl B'.known) ⟨s,m,E,rfl,B',m0,⋯,λu Z u0 u1 B2=>qa2 (a:=[Z,Ad n wr e,.l z (O5 g),kL L,y,.int j,.int o]) rfl (f _ ⟨Z,u,rfl,B2,u0,⋯⟩)⟩))
 rintro c ⟨b,o,rfl,B,t⟩;refine qb9 (λc=>∃o,c=[b,Ad n wr e,.l z (O5 g),kL L,y,.int j,.int o]/\An o) (λK f=>Hg (decide (j=3)&&decide (n<=o)) (λQ q=>ql0 (decide (j=3)) (decide (n<=o)) (λQ q=>qe4 (f2_of rfl rfl rfl) q) (λ_ Q q=>qe4 (f2_of (x:=.int o) (y:=.int n) rfl rfl rfl) q) q) (λ_=>ql1 (d:=.int (o%n)) (f2_of (x:=.int o) (y:=.int n) rfl rfl (modP ⋯)) (f _ ⟨o%n,rfl,zCi _ ⋯,?_⟩)) λ_=>f _ ⟨o,rfl,t⟩) ?_;{have:=zBw o (by lia:0<n);lia};rintro c ⟨o,rfl,t⟩;refine qb9 (λc=>∃b o,c=[b,Ad n wr e,.l z (O5 g),kL L,y,.int j,.int o]/\Pf E b/\An o) (λK f=>Hg (decide (j=4)&&!decide (e=[])) (λQ q=>ql0 (decide (j=4)) (!decide (e=[])) (λQ q=>qe4 (f2_of rfl rfl rfl) q) (λ_ Q q=>qe4 (f2_of (x:=.l true (O7 e)) (y:=.l false []) rfl rfl ne_pr) q) q) (λh=>?_) λ_=>f _ ⟨b,o,rfl,B,t⟩) ?_
 .rw[zB0] at h;have Y:e≠[]:=by simpa using h.2
  have a0:=List.length_pos_iff.mpr Y;have a1:=G.len;have U:(O7 e).length=e.length:=zAb _;refine qc6 (qX5 (t2_of (x:=.l true (O7 e)) rfl rfl (qc1 (m:=((e.length:Nat):Int)) rfl B (show some (D.int ((O7 e).length:Nat))=_ by rw[U]) ⋯ ⋯ λv s I J B'=>?_)));obtain⟨d,N,S⟩:=qm9 (xs:=O7 e) (i:=v) I (by rw[U];exact J);obtain⟨p,hp,rfl⟩:=zB4.mp N;exact qa2 (a:=D.q [.int p.1,.int p.2]) S (qa2 (a:=D.int 0) rfl ⟨rfl,qa2 (a:=D.int p.1) rfl (f _ ⟨s,p.1,rfl,B',(G.nums p hp).1⟩)⟩)
 rintro c ⟨b,o,rfl,B,t⟩;refine qm7 (qaR9 (ys:=O5 L) (d:=.int o) rfl rfl rfl ∅ (by rw[qm5];unfold big;lia) ?_);rw[qad3];refine R _ ⟨b,L++[o],_,_,_,rfl,B,λx X=>?_,by rw[zAf,V];rfl⟩;rcases zAd.mp X with w|w;{exact W x w};rw[zAk.mp w];exact t
theorem qi8:qa8 ["_law_row", "_law_key", "_law_told", "e", "_law_alone"] ["_law_row", "_law_key"] (qa3 qw4):=by walk_at "s"
theorem qaG4{th:VH}(h:∀(N:Ds->Prop)(X:XKd),(∀a,u e a->N a)->(∀x a,th x {e with nx:=u e} a->X x a)->t {e with nx:=N,xe:=X} ds):Gd (sTryW t th) u e ds:=h _ _ (λ_ z=>z) λ_ _ z=>z
theorem asN_t{M:γ->Option Bool}{ts:VTS}{tr:VH}{C:γ}{p:Str×D}{r:List (Str×D)}(a:M C=some true)(h:ts (nxR j e) (ds.set j (.exn C (p::r)))):Kl M j ts tr ⟨C,p::r⟩ e ds:=⟨λz=>(nomatch z),true,a,Bh rfl h⟩
theorem qaY1(h:ta ds (λx ds1=>orF x.asB λk=>Q (.bl (!k)) ds1) xe):tNotE ta ds Q xe:=h
def qU2(C:γ):VSp:=A5 λds d=>∃r k a v,ds=[r,k]/\r.isC C=some (.bl a)/\(∃t,k.kind=some t)/\r.imm=true/\k.imm=true/\(a=false/\v=0∨a=true/\k.num=false/\v=1)/\d=.q [.int v,.bl true]
theorem qV2(T:Txt K mg a):VFn P w K mg base 9 a.f45 a.d45 ["_law_row", "_law_key"] (qU2 a.Ca):=by
 refine VFn.mk' T.d45.F qi8 (wOf [true,true]) qb0 (λj Q c h=>by obtain⟨d,⟨r,k,f,v,e,_⟩,_⟩:=h;rw[e];rfl) (λj Q c h=>by obtain⟨d,⟨r,k,f,v,e,_,_,s,b,_⟩,_⟩:=h;rw[e];simp[G2,wOf,s,b]) (λ_ _ _ _ _ _ _ u=>⟨_,(Aa (Al 2 qi8.nd (qa4 (B9 (qa0 (vneg Ae) (qa0 vbl qa6 rfl) rfl)))) (Aa (stryW (λE' c E z=>(Aj (Ej (Ak T.d27 (qA1 T) z (rm u) (vaN 0 (vaN 1 Ac)))))) (vhasN 3 qi8.nd T.D7 T.Cg (λG=>(Aa (Al 4 qi8.nd (Fl (qbb2 (K:=K) rfl a.Cu T.C9 (vnm 3) T.Dk) (Ga (qbb1 (K:=K) rfl "ValueError" T.C9 (vnm 3) T.Dh)))) (Aj (Al 2 qi8.nd (Ft (vaV (eefld (K:=K) rfl (vnm 3)) (vaV (Fl (qb8 (vnm 4)) (Ga (enot (qbb3 (K:=K) rfl T.C9 (vnm 3) (B9 (qa0 (Jb a.Cv T.Dp) (qa0 (Jb a.Cr T.Dm) (qa0 (Jb a.D1 T.Dv) (qa0 (Jb a.Cw T.Dr) qa6 rfl) rfl) rfl) rfl)))))) Ac))))))) vhnil)) (Aj (As (emv 2))))),λj Q c h=>?_⟩);obtain⟨d,⟨r,k,f,v,rfl,l,m,H,I,g,rfl⟩,q⟩:=h;have n:=qp1 l;have A:k.known=true:=by obtain⟨t,B⟩:=m;exact qg0 B
 refine At [r,k,.u,.u,.u] rfl ?_;refine qb1 [r,k,.q [.int (-1),.bl false],.u,.u] (λK i=>ql1 rfl i) ?_;refine qaG4 λN X J C=>?_;have o:X ⟨a.Cc,[("at",.int v)]⟩ [r,k,.q [.int (-1),.bl false],.u,.u]:=by refine C _ _ (asN_t T.Dc ?_);refine qb1 [r,k,.q [.int (-1),.bl false],.exn a.Cc [("at",.int v)],.bl true] (λK i=>qc6 (qag6 (qa2 (a:=D.exn a.Cc [("at",.int v)]) rfl ⟨_,_,true,rfl,T.Da,T.Cz,qa2 (a:=true) rfl (Bh rfl (qa2 (a:=D.exn a.Cc [("at",.int v)]) rfl ⟨_,_,true,rfl,T.Da,T.Do,i⟩))⟩))) ?_;refine qc6 (qy5 (qe2 (qa2 (a:=D.exn a.Cc [("at",.int v)]) rfl ⟨_,_,.int v,rfl,T.D7,T.D5,rfl,qe2 (qag6 (qn5 (d:=.bl true) rfl rfl (qa2 (a:=true) rfl (Bh rfl (qaY1 (qa2 (a:=D.exn a.Cc [("at",.int v)]) rfl (qa2 (a:=D.q [.adr a.Cv,.adr a.Cr,.adr a.D1,.adr a.Cw]) rfl ⟨_,_,[a.Cv,a.Cr,a.D1,a.Cw],false,rfl,rfl,T.Da,qaA4 T.D3 T.D0 T.D9 T.D2,qa2 (a:=false) rfl (qc0 ⟨by show 1+1<=1000000;decide,q⟩)⟩)))))))⟩)))
 refine qm7 (qW0 (x:=r) (y:=k) (qc4 rfl n) (qc4 rfl A) (qc4 rfl n) ⟨r,k,f,rfl,l,m,λh=>?_,λh p=>?_,λh p=>?_⟩);{rcases g with⟨_,rfl⟩|⟨b,_⟩;{exact qa2 (a:=[r,k,.q [.int (-1),.bl false],.u,.u]) rfl o};rw[h] at b;cases b};{rcases g with⟨b,_⟩|⟨_,_,rfl⟩;{rw[h] at b;cases b};exact qa2 (a:=[r,k,.q [.int (-1),.bl false],.u,.u]) rfl o};rcases g with⟨b,_⟩|⟨_,b,_⟩;{rw[h] at b;cases b};rw[p] at b;cases b
theorem qm0:qa8 ["_law_bag_here", "_law_row", "_law_held", "_law_bad", "_law_none", "_law_one", "_law_key", "_law_at"] ["_law_bag_here", "_law_row", "_law_held"] (qa3 qJ7):=by walk_at "s"
theorem qad2(h:Ek x):alk j x x:=by cases j with|zero=>exact⟨rfl,h⟩|succ j=>exact .inl ⟨rfl,h⟩
theorem qau3(h:∀x∈xs,Ek x)(hm:D.imms xs=true)(c:xs.length<=1000):alk (j+1) (.q xs) (.q xs) :=
 .inr ⟨xs,xs,.inr ⟨rfl,rfl⟩,hm,hm,rfl,c,λi u v a b=>by
   rw[a] at b;cases b;exact qad2 (h u (zAw a))⟩
theorem Kt{z:Bool}{g:Nat->Option Int}:(D.l z (O6 N g)).fz=.l true (O6 N g):=by
 have a:∀l:List Nat,D.fzs (l.map λi=>A8 (g i))=l.map λi=>A8 (g i):=λl=>by induction l with|nil=>rfl|cons i l b=>show (A8 (g i)).fz::D.fzs (l.map λi=>A8 (g i))=A8 (g i)::(l.map λi=>A8 (g i));rw[b];congr 1;cases g i<;>rfl
 exact congrArg (D.l true) (a _)
theorem qW7{z:D}(a:fa ds=some x)(b:fb ds=some y)(c:fc ds=some z)(hm:D.imms [x,y,z]=true):Ay gTup (Am fa (Am fb (Am fc λ_=>some []))) ds=some (.q [x,y,z]):=by unfold Ay Am;rw[a,b,c];exact qg4 ⟨hm,by show 2+1<=1000000;decide⟩
theorem qaN0{z:D}(a:fa ds=some x)(b:fb ds=some y)(c:fc ds=some z)(hm:D.imms [x,y,z]=true):Ay Je (Am fa (Am fb (Am fc λ_=>some []))) ds=some (.l false [x,y,z]):=by unfold Ay Am;rw[a,b,c];exact qg4 ⟨hm,by show 2+1<=1000000;decide⟩
structure Bad(x:D):Prop where
 kd:∃t,x.kind=some t
 nn:x.num=false
 im:x.imm=true
structure NoRow(C:γ)(x:D):Prop where
 is:x.isC C=some (.bl false)
 im:x.imm=true
theorem qaB2{z:D}{K:Ds->Prop}(h:K (((ds.set i x).set j y).set l z)):Gj 3 (qp4 (gNm i) (qp4 (gNm j) (qp4 (gNm l) Gi))) (.q [x,y,z]) ds K:=⟨rfl,h⟩
def qah8(C CP:γ):VSp:=λds Q _=>∃ns b n wr ps g dn,ds=[b,Aw true C CP n wr ps g dn,.l true (O6 n.toNat g)]/\Pf ns b/\∀a,Pf ns a->Q (.bl true) [a,Aw true C CP n wr ps g dn,.l true (O6 n.toNat g)]
abbrev qj4(a:Adr)(n:Int)(wr:Bool)(ps:Pr) (g) (dn) (p0 b c d e f:D):=([p0,Aw true a.Ca a.C8 n wr ps g dn,.l true (O6 n.toNat g),b,c,d,e,f]:Ds)
theorem qak1(T:Txt K mg a):VFn P w K mg base 10 a.f46 a.d46 ["_law_bag_here", "_law_row", "_law_held"] (qah8 a.Ca a.C8):=by
 refine VFn.mk2 T.d46.F qm0 (wOf [true,true,true]) (by walk_at "m") (by walk_at "l") (λ_ _ _ _ _ _ _ H=>⟨_,(Aa (Al 3 qm0.nd (e2P (A4 qb7) Ap (Kb (vaV (B6 (qa4 Bc)) (vaV (B6 (qa4 vbl)) (vaV (B6 (qa4 (vneg Ae))) (vaV (B6 (qa4 (v2 (Ah qf2) qf1 (J0 1000000000000000000) Ae))) (vaV (B6 (qa4 Gy)) (vaV (B6 (qa4 (Bl (qa0 Ae qa6 rfl)))) (vaV (B6 (qa4 (B9 (qa0 Ae qa6 rfl)))) (vaV (B6 (qa4 vdct0)) (vaV (B6 (qa4 vbl)) Ac)))))))))) (Ak T.d29 (qb5 T) qa1 (rm H) (vaN 0 (vaV (qa4 Ae) Ac))))) (Aa (Al 4 qm0.nd (e2P (A4 qb7) Ap (Kb (vaV (B6 (qa4 Bc)) (vaV (B6 (qa4 Ae)) (vaV (B6 (qb8 (vnm 2))) (vaV (B6 (qa4 (Bl qa6))) (vaV (B6 (qa4 Gy)) (vaV (B6 (qa4 vbl)) Ac))))))) (Ak T.d29 (qb5 T) qa1 (rm H) (vaN 0 (vaV (qa4 Ae) Ac))))) (Aa (Il N9 (qa4 (Bl (qa0 (B9 (qa0 (vnm 4) (qa0 Ae (qa0 Ae qa6 rfl) rfl) rfl)) (qa0 (B9 (qa0 (vnm 4) (qa0 (vnm 3) (qa0 Ae qa6 rfl) rfl) rfl)) (qa0 (B9 (qa0 (vnm 1) (qa0 (vnm 3) (qa0 Ae qa6 rfl) rfl) rfl)) qa6 rfl) rfl) rfl))) (Br (n:=3) rfl (qc8 (Ax 5 qm0.nd) (qc8 (Ax 6 qm0.nd) (qc8 (Ax 7 qm0.nd) Bq)))) (Aj (sif (Bu (te (Ak T.d42 (qu3 T) qa1 (rm H) (vaV (Ak T.d45 (qV2 T) qa1 (rm H) (vaN 5 (vaN 6 Ac))) (vaV (qa4 (B9 (qa0 (vnm 7) (qa0 vbl qa6 rfl) rfl))) Ac))))) (Aj (As (qa4 vbl))) Au))) (Aj (As (qa4 vbl)))))),λj Q xe h=>?_⟩);obtain⟨R,b,n,wr,e,g,f,rfl,B,q⟩:=h;refine At (qj4 a n wr e g f b .u .u .u .u .u) rfl ?_;refine qb9 (λj=>∃b x,j=(qj4 a n wr e g f b x .u .u .u .u)/\Pf R b/\Bad x) (λK r=>?_) ?_;{refine qc6 (qav3 (qF1 ?_));refine qh5 (y:=.non) rfl ?_;refine qh5 (y:=.bl true) rfl ?_;refine qh5 (y:=.int (-1)) rfl ?_;refine qh5 (y:=.int 1000000000000000001) rfl ?_;refine qh5 (y:=.str "3") rfl ?_;refine qh5 (y:=.l false [.int 3]) rfl ?_;refine qh5 (y:=.q [.int 3]) rfl ?_;refine qh5 (y:=.dct false []) rfl ?_;refine qh5 (y:=.bl false) rfl ?_;refine qc0 ⟨by show 8+1<=1000000;decide,?_⟩;refine qc1 (ds:=[b,Aw true a.Ca a.C8 n wr e g f,.l true (O6 n.toNat g),.u,.u,.u,.u,.u]) rfl B rfl ∅ ∅ λi I J L B'=>?_;obtain⟨d,s,M⟩:=qm9 (xs:=([.non,.bl true,.int (-1),.int 1000000000000000001,.str "3",.l true [.int 3],.q [.int 3],.dct true [],.bl false]:Ds)) (i:=i) J L;refine qa2 (a:=d) M (r _ ⟨I,d,rfl,B',?_⟩);simp only[zAa,zAr,zC9] at s;rcases s with rfl|rfl|rfl|rfl|rfl|rfl|rfl|rfl|rfl<;>exact⟨⟨_,rfl⟩,rfl,rfl⟩};rintro j ⟨b,x,rfl,B,c⟩;obtain⟨tx,hx⟩:=c.kd;have kx:=qg0 hx;refine qb9 (λj=>∃b u,j=(qj4 a n wr e g f b x u .u .u .u)/\Pf R b/\NoRow a.Ca u) (λK r=>?_) ?_;{refine qc6 (qav3 (qF1 ?_));refine qh5 (y:=.non) rfl ?_;refine qh5 (y:=.int 3) rfl ?_;refine qaG7 (y:=.l true (O6 n.toNat g)) rfl rfl ?_;refine qh5 (y:=.l false []) rfl ?_;refine qh5 (y:=.str "row") rfl ?_;refine qh5 (y:=.bl true) rfl ?_;refine qc0 ⟨by show 5+1<=1000000;decide,?_⟩;refine qc1 (ds:=[b,Aw true a.Ca a.C8 n wr e g f,.l true (O6 n.toNat g),x,.u,.u,.u,.u]) rfl B rfl ∅ ∅ λi I J L B'=>?_;rw[Kt];obtain⟨d,s,M⟩:=qm9 (xs:=([.non,.int 3,.l true (O6 n.toNat g),.l true [],.str "row",.bl true]:Ds)) (i:=i) J L;refine qa2 (a:=d) M (r _ ⟨I,d,rfl,B',?_⟩);simp only[zAa,zAr,zC9] at s;rcases s with rfl|rfl|rfl|rfl|rfl|rfl<;>exact⟨rfl,rfl⟩};rintro j ⟨b,u,rfl,B,p⟩;have ku:=qp1 p.is;have N:∀y:Ds,D.imms y=true->(D.q y).imm=true:=λ_ h=>h;have S:D.imms [u,.int 3,.int 0]=true:=by show (u.imm&&true)=true;rw[p.im];rfl
 have U:D.imms [u,x,.int 0]=true:=by show (u.imm&&(x.imm&&true))=true;rw[p.im,c.im];rfl
 have V:D.imms [Aw true a.Ca a.C8 n wr e g f,x,.int 1]=true:=by show (true&&(x.imm&&true))=true;rw[c.im];rfl
 have W:D.imms [.q [u,.int 3,.int 0],.q [u,x,.int 0],.q [Aw true a.Ca a.C8 n wr e g f,x,.int 1]]=true:=by show ((D.q [u,.int 3,.int 0]).imm&&((D.q [u,x,.int 0]).imm&&((D.q [Aw true a.Ca a.C8 n wr e g f,x,.int 1]).imm&&true)))=true;rw[N _ S,N _ U,N _ V];rfl
 refine qb9 (λj=>∃A C E,j=(qj4 a n wr e g f b x u A C E)) (λK r=>qo3 (d:=.l false [.q [u,.int 3,.int 0],.q [u,x,.int 0],.q [Aw true a.Ca a.C8 n wr e g f,x,.int 1]]) ?_ (qa2 (a:=[.q [u,.int 3,.int 0],.q [u,x,.int 0],.q [Aw true a.Ca a.C8 n wr e g f,x,.int 1]]) rfl ⟨?_,qe6 (λ_ j=>∃A C E,j=(qj4 a n wr e g f b x u A C E)) _ 0 _ ⟨_,_,_,rfl⟩ ?_ λj h=>r _ h⟩)) ?_;{have X:rdN 4 [b,Aw true a.Ca a.C8 n wr e g f,.l true (O6 n.toNat g),x,u,.u,.u,.u]=some u:=qc4 rfl ku;have Y:rdN 3 [b,Aw true a.Ca a.C8 n wr e g f,.l true (O6 n.toNat g),x,u,.u,.u,.u]=some x:=qc4 rfl kx;exact qaN0 (qW7 X rfl rfl S) (qW7 X Y rfl U) (qW7 rfl Y rfl V) W};{exact W}
 .rintro i y hy j ⟨A,C,E,rfl⟩ K2 O;obtain⟨o,k,v,G,rfl,Z,h2,h3,h4,h5⟩:∃o k v G,y=.q [o,k,.int v]/\o.isC a.Ca=some (.bl G)/\(∃t,k.kind=some t)/\o.imm=true/\k.imm=true/\(G=false/\v=0∨G=true/\k.num=false/\v=1):=by have hm:=zAw hy;simp only[zAa,zAr,zC9] at hm;rcases hm with rfl|rfl|rfl;{exact⟨u,.int 3,0,false,rfl,p.is,⟨_,rfl⟩,p.im,rfl,.inl ⟨rfl,rfl⟩⟩};{exact⟨u,x,0,false,rfl,p.is,c.kd,p.im,c.im,.inl ⟨rfl,rfl⟩⟩};exact⟨_,x,1,true,rfl,qas4,c.kd,rfl,c.im,.inr ⟨rfl,c.nn,rfl⟩⟩
  have ko:=qp1 Z;have kk:k.known=true:=by obtain⟨t,ht⟩:=h2;exact qg0 ht
  refine qaB2 (At (qj4 a n wr e g f b x u o k (.int v)) rfl ?_);refine qx6 (λQ xe q=>qk6 (qe2 (qs2 (x:=o) (y:=k) (qc4 rfl ko) (qc4 rfl kk) (qc4 rfl ko) ⟨o,k,G,v,rfl,Z,h2,h3,h4,h5,rfl⟩ rfl (qe0 (y:=.q [.int v,.bl true]) rfl (qc0 ⟨.bl true,⟨_,_,rfl,qau3 (λz hz=>?_) rfl (by show 2<=1000;decide),rfl,rfl,rfl⟩,qa2 (a:=(qj4 a n wr e g f b x u o k (.int v))) rfl q⟩))))) (O _ ⟨_,_,_,rfl⟩);simp only[zAa,zAr,zC9] at hz;rcases hz with rfl|rfl;{exact .inr (.inl ⟨_,rfl⟩)};exact .inr (.inr ⟨_,rfl⟩)
 rintro j ⟨A,C,E,rfl⟩;exact qg5 (.bl true) rfl (q b B)
theorem qi9:qa8 ["_law_bag_here", "_law_shape", "_law_held", "_law_keys", "_law_asked_here", "_law_rooms", "_law_wraps", "_law_homes_here", "_law_absent", "_law_others_here"] ["_law_bag_here", "_law_shape", "_law_held", "_law_keys", "_law_asked_here"] (qa3 qB7):=by walk_at "s"
theorem _root_.Row.Kept.congr{n:Nat}{wr:Bool}{f:Int->Nat}{g:Nat->Option Int}(K:Kept n wr hm g S)(u:∀k,f k<n)(l:∀k∈S,f k=hm k)(d:∀i,i<n->g' i=g i):Kept n wr f g' S:=by have b:∀i k,i<n->g i=some k->k∈S:=λi k a e=>(K.h.2 k).mpr ⟨i,a,e⟩;refine⟨⟨u,λi j k a m e v=>K.o.inj i j k a m (d i a ▸ e) (d j m ▸ v),λi k a e p=>?_⟩,?_,⟨K.h.1,λk=>(K.h.2 k).trans ⟨λ⟨i,a,e⟩=>⟨i,a,(d i a).trans e⟩,λ⟨i,a,e⟩=>⟨i,a,(d i a).symm.trans e⟩⟩⟩,λw i x a e=>?_⟩;{rw[d i a] at e;have q:=b i k a e;rw[l k q] at p;obtain⟨x,r,s⟩:=K.o.ord i k a e p;have t:=qD9 a;refine⟨x,(d _ t).trans r,?_⟩;unfold ahead at s ⊢;rw[l k q,l x (b _ x t r)];exact s};{obtain⟨i,a,c⟩:=K.c;exact⟨i,a,λk e=>by rw[d i a] at e;rw[l k (b i k a e)];exact c k e⟩};rw[d i a] at e;rw[l x (b i x a e)];exact K.ln w i x a e
theorem qaP0{n:Int}{ps:Pr}{x:Int}(h:k≠x):O3 n (ps++[(x,m)]) k=O3 n ps k:=by unfold O3 qe5;rw[List.lookup_append,show Me k [(x,m)]=none from qC2 λp a=>by rw[zAk.mp a];exact λz=>h z.symm,Option.or_none]
theorem qat5{g g':Nat->Option Int}:∀l:List Nat,∃b,Ei (eqN 20) (l.map λi=>A8 (g i)) (l.map λi=>A8 (g' i))=some b/\(b=true->∀i∈l,g i=g' i)
 |[]=>⟨true,rfl,nofun⟩|i::l=>by
  obtain⟨b,d,f⟩:=qat5 (g:=g) (g':=g') l;obtain⟨c,k,m⟩:∃c,eqN 20 (A8 (g i)) (A8 (g' i))=some c/\(c=true->g i=g' i):=by cases g i with|none=>(cases g' i with|none=>exact⟨true,rfl,λ_=>rfl⟩|some y=>exact⟨false,rfl,nofun⟩)|some x=>cases g' i with|none=>exact⟨false,rfl,nofun⟩|some y=>exact⟨x==y,rfl,λh=>by rw[eq_of_beq h]⟩
  refine⟨c&&b,?_,λh=>?_⟩;{show ((eqN 20 (A8 (g i)) (A8 (g' i))).bind λa=>(Ei (eqN 20) (l.map λi=>A8 (g i)) (l.map λi=>A8 (g' i))).bind λb=>some (a&&b))=_;rw[k,d];rfl};rw[zB0] at h;exact λj n=>(zAa.mp n).elim (λe=>e ▸ m h.1) (f h.2 j)
theorem qaQ5{z:Bool}{g:Nat->Option Int}:∃b,gEq (.l z (O6 N g)) (.l z' (O6 N g'))=some (.bl b)/\(b=true->∀i,i<N->g i=g' i):=by obtain⟨b,a,c⟩:=qat5 (g:=g) (g':=g') (Mc N);refine⟨b,?_,λh i d=>c h i (zB7.mpr d)⟩;show (Ei (eqN 20) (O6 N g) (O6 N g')).map D.bl=_;unfold O6;rw[a];rfl
def shD(n:Int)(L:List (Bool×Pr)):Ds:=L.map λs=>Ad n s.1 s.2
theorem qas6{n:Int}(L:List (Bool×Pr)):D.imms (shD n L)=true:=qx4 (λ_=>rfl) _
theorem qaT7{n:Int}{L:List (Bool×Pr)}{wr:Bool}{ps:Pr}:shD n L++[Ad n wr ps]=shD n (L++[(wr,ps)]):=by unfold shD;rw[zBc];rfl
def Ku(n:Int)(g:Nat->Option Int)(ks:List Int)(s:Bool×Pr):Prop:=qq0 s.2/\Kept n.toNat s.1 (O3 n s.2) g ks
theorem qaG2{u:VTT}{Q:Bool->Ds->Prop}(h:f ds=some (.bl true))(q:u ds Q xe):Ig (ttV f) u ds Q xe:=qe4 (Q:=λk a=>if k=true then u a Q xe else Q false a) h (Bh rfl q)
theorem qaG3{u:VTT}{Q:Bool->Ds->Prop}(h:f ds=some (.bl false))(q:Q false ds):Ig (ttV f) u ds Q xe:=qe4 (Q:=λk a=>if k=true then u a Q xe else Q false a) h (E7 ∅ q)
def Hl(ks fs:List Int)(k:Int):Bool:=!decide (k∈ks)&&!decide (k∈fs)
def qY1:VSp:=λds Q _=>∃ns b n wr ps g z ks y L,ds=[b,Ad n wr ps,.l true (O6 n.toNat g),.l z (O5 ks),.l y (O5 L)]/\Pf ns b/\1<=n/\n<=64/\qq0 ps/\ps.length<=12/\ks.Nodup/\Kept n.toNat wr (O3 n ps) g ks/\(∀k∈L,An k)/\L.length<=100/\∀a M,Pf ns a->(∀s∈M,Ku n g ks s)->M.length<=3->Q (.l false (shD n M)) [a,Ad n wr ps,.l true (O6 n.toNat g),.l z (O5 ks),.l y (O5 L)]
abbrev qf9(n:Int)(wr:Bool)(ps:Pr) (g) (z) (ks) (y) (L) (p0 a b:D):=([p0,Ad n wr ps,.l true (O6 n.toNat g),.l z (O5 ks),.l y (O5 L),.int n,.bl wr,.l true (O7 ps),a,b]:Ds)
theorem qab6(T:Txt K mg a):VFn P w K mg base 4 a.f47 a.d47 ["_law_bag_here", "_law_shape", "_law_held", "_law_keys", "_law_asked_here"] qY1:=by
 refine VFn.mk2 T.d47.F qi9 (wOf [true,true,true,true,true]) (by walk_at "m") (by walk_at "l") (λ_ _ _ _ _ _ _ H=>⟨_,(Aa (E9 (qb8 (vnm 1)) (Br (n:=3) rfl (qc8 (Ax 5 qi9.nd) (qc8 (Ax 6 qi9.nd) (qc8 (Ax 7 qi9.nd) Bq))))) (Aa (scN (NY:=["_law_key", "_law_keys", "_law_homes_here"]) (src:=[none,some 3,some 7]) 8 4 qi9.nd (blk (λO C S H0 U=>(Ax 0 (show (["_law_key", "_law_keys", "_law_homes_here"]:List Str).Nodup by decide +kernel))) (λO C S H0 U=>(Ke (VTw.te (Gz (q2 (Aq qf3 (by with_unfolding_all rfl)) Ha (vnm 0) (vnm 1)) (Ev (q2n 0 (A6 qf3 (by with_unfolding_all rfl)) (Aq qf3 (by with_unfolding_all rfl)) Ha (ecN (NY:=["_law_one", "_law_number"]) (src:=[none,none]) 2 (blk (λO C S H0 U=>(Br (n:=2) rfl (qc8 (Ax 0 (show (["_law_one", "_law_number"]:List Str).Nodup by decide +kernel)) (qc8 (Ax 1 (show (["_law_one", "_law_number"]:List Str).Nodup by decide +kernel)) Bq)))) (λO C S H0 U=>Ex) (λO C S H0 U=>(qb8 (vnm 0))))))))))) (λO C S H0 U=>(qb8 (vnm 0))))) (Aa (Al 9 qi9.nd (qa4 (Bl (qa0 (vnm 1) qa6 rfl)))) (Aa (sif (Gz (te (Ak T.d34 (qab7 T) qa1 (rm H) (vaV (qa4 (B9 (qa0 (vnm 5) (qa0 (J1 (vnm 6)) (qa0 (vnm 7) qa6 rfl) rfl) rfl))) (vaN 3 Ac)))) (Ev (q2v (A6 (qe3 H.u64) (qa9 _)) (Aq (qe3 H.u64) (qa9 _)) A9 (Ak T.d35 (qE5 T) qa1 (rm H) (vaV (qa4 (B9 (qa0 (vnm 5) (qa0 (J1 (vnm 6)) (qa0 (vnm 7) qa6 rfl) rfl) rfl))) (vaN 3 Ac))) (vnm 2)))).te (Aj (Ej (Fw 9 qE9 Oc Oe Of qh0 (vaV (qa4 (B9 (qa0 (vnm 5) (qa0 (J1 (vnm 6)) (qa0 (vnm 7) qa6 rfl) rfl) rfl))) Ac)))) Au) (Aa (sif (Gz (q2 (Aq (qU7 H.u64) (qa9 _)) Gg (vnm 8) (Bl qa6)) (Ev (q2 (Aq G4 (qa9 _)) G9 (vbi qp6 qp5.ops T.Cq (qa0 (vnm 7) qa6 rfl)) Ae))).te (Aj (Ej (Fw 9 qE9 Oc Oe Of qh0 (vaV (Ft (vaV (qb8 (vnm 5)) (vaV (qb8 (vnm 6)) (vaV (B6 (e2n 7 (Ah qf2) qf1 (Kb (vaV (Ft (vaV (qb8 (v2 (A4 qb7) Ap (vnm 8) Ae)) (vaV (Ak T.d29 (qb5 T) qa1 (rm H) (vaN 0 (vaN 5 Ac))) Ac))) Ac)))) Ac)))) Ac)))) Au) (Aj (As (emv 9)))))))),λI Q xe h=>?_⟩);obtain⟨ns,b,n,wr,c,g,z,f,y,L,rfl,B,V,n2,G,lp,nd,KP,hL,hl,q⟩:=h;have hh:=Eh (ps:=c) V;refine At [b,Ad n wr c,.l true (O6 n.toNat g),.l z (O5 f),.l y (O5 L),.u,.u,.u,.u,.u] rfl ?_;refine qb1 (qf9 n wr c g z f y L b .u .u) (λK o=>Jg rfl rfl o) ?_;obtain⟨r,W⟩:∃r:List Int,c.map (·.1)=r:=⟨_,rfl⟩;refine qb1 (qf9 n wr c g z f y L b (kL (L.filter (Hl f r))) .u) (λK o=>qc6 (qa2 (a:=D.l y (O5 L)) rfl (qa2 (a:=O5 L) rfl ⟨qp3 L,?_⟩))) ?_;{refine qk5 (λι=>∃d,ι=[d,.l z (O5 f),.l true (O7 c)]) (Gp (Hl f r)) _ [] _ (by show 0+_<1000000;rw[qm5];lia) ⟨_,rfl⟩ ?_ ?_;{rintro w hw ι A ⟨d,rfl⟩ R hR t;obtain⟨k,_,rfl⟩:=zB4.mp hw;have this:=hR [.int k,.l z (O5 f),.l true (O7 c)] ⟨_,rfl⟩;refine qu2 ?_;by_cases J:k∈f;{refine qaG3 (f2_of (x:=.int k) (y:=.l z (O5 f)) rfl rfl (qx1.trans (by rw[zAo J];rfl))) (E7 ∅ ?_);rw[qad9 (by unfold Hl;rw[zAo J];rfl)] at this;rw[<-zAe A];exact this};refine qaG2 (f2_of (x:=.int k) (y:=.l z (O5 f)) rfl rfl (qx1.trans (by rw[zBg J];rfl))) ⟨rfl,qa2 (a:=D.l true (O7 c)) rfl (qa2 (a:=O7 c) rfl ⟨qp2 c,?_⟩)⟩;refine qk5 (λι=>∃d d',ι=[d,d']) (λx=>some (fstD x)) (O7 c) [] _ (by show 0+(O7 c).length<1000000;unfold O7;rw[zAb];lia) ⟨_,_,rfl⟩ ?_ ?_;{rintro w hw ι A ⟨d,d',rfl⟩ R hR t;obtain⟨p,_,rfl⟩:=zB4.mp hw;exact ql7 (qT1 (Bh rfl (qn5 (d:=.int p.1) rfl rfl ⟨t,hR [.int p.1,.int p.2] ⟨_,_,rfl⟩⟩)))};rintro ι ⟨d1,d2,rfl⟩;rw[zBa,qG3,qaQ0,W];refine qa2 (a:=D.bl (!decide (k∈r))) (qx1 (k:=k) (z:=false) (ks:=r)) (qa2 (a:=!decide (k∈r)) rfl ?_);by_cases u:k∈r;{rw[qad9 (by unfold Hl;rw[zAo u,Bool.not_true,Bool.and_false])] at this;rw[zAo u];refine E7 ∅ ?_;rw[<-zAe A];exact this};rw[qas2 (by unfold Hl;rw[zBg J,zBg u];rfl)] at this;rw[zBg u];exact Bh rfl (qn5 (d:=.int k) rfl rfl ⟨t,this⟩)};rintro ι ⟨d,rfl⟩;rw[zBa,qM2];exact o};have hA:∀k∈L.filter (Hl f r),An k/\¬k∈f/\¬k∈r:=λk hk=>by obtain⟨J,u⟩:=zCh.mp hk;unfold Hl at u;rw[zB0] at u;exact⟨hL k J,by simpa using u.1,by simpa using u.2⟩
 generalize L.filter (Hl f r)=Ab at hA;refine qb1 (qf9 n wr c g z f y L b (kL Ab) (.l false (shD n [(wr,c)]))) (λK o=>ql1 (d:=.l false (shD n [(wr,c)])) rfl o) ?_;refine qb9 (λI=>∃M,I=(qf9 n wr c g z f y L b (kL Ab) (.l false (shD n M)))/\(∀s∈M,Ku n g f s)/\M.length<=2) (λK o=>?_) ?_
 .have X:∀s∈[(wr,c)],Ku n g f s:=λs E=>by rw[zAk.mp E];exact⟨G,KP⟩
  refine Iy ?_;by_cases nc:∀q,¬Crowd n.toNat (!wr) (O3 n c) f q;{refine qk6 (qe0 (y:=Ad n (!wr) c) rfl (qc3 (x:=.l z (O5 f)) rfl (qc0 (qa2 (a:=D.l z (O5 f)) rfl (qf5 (d:=.bl true) ⟨n,!wr,c,z,f,true,rfl,V,n2,⟨λ_=>nc,λ_=>rfl⟩,rfl⟩ (qa2 (a:=(qf9 n wr c g z f y L b (kL Ab) (.l false (shD n [(wr,c)])))) rfl (qa2 (a:=true) rfl (Bh rfl ?_))))))));refine qaI6 (qk6 (qe0 (y:=Ad n (!wr) c) rfl (qc3 (x:=.l z (O5 f)) rfl (qc0 (qa2 (a:=D.l z (O5 f)) rfl ⟨n,!wr,c,z,f,rfl,V,n2,nd,nc,λg' Kg=>qa2 (a:=(qf9 n wr c g z f y L b (kL Ab) (.l false (shD n [(wr,c)])))) rfl ?_⟩)))));obtain⟨bb,e1,e2⟩:=qaQ5 (z:=false) (z':=true) (N:=n.toNat) (g:=g') (g':=g);refine qa2 (a:=D.bl bb) e1 (qa2 (a:=bb) rfl (ite_b (λh=>?_) λ_=>o _ ⟨_,rfl,X,by show 1<=2;decide⟩));refine qm7 (qS9 (ys:=shD n [(wr,c)]) (d:=Ad n (!wr) c) rfl rfl (by show 1<1000000;decide) (o _ ⟨[(wr,c),(!wr,c)],rfl,λs E=>?_,zA3 _⟩));rcases zAa.mp E with e|E;{rw[e];exact⟨G,KP⟩};rw[zAk.mp E];exact⟨G,Kg.congr hh (λ_ _=>rfl) λi hi=>(e2 h i hi).symm⟩};exact qk6 (qe0 (y:=Ad n (!wr) c) rfl (qc3 (x:=.l z (O5 f)) rfl (qc0 (qa2 (a:=D.l z (O5 f)) rfl (qf5 (d:=.bl false) ⟨n,!wr,c,z,f,false,rfl,V,n2,⟨nofun,λh=>absurd h nc⟩,rfl⟩ (qa2 (a:=(qf9 n wr c g z f y L b (kL Ab) (.l false (shD n [(wr,c)])))) rfl (qa2 (a:=false) rfl (E7 ∅ (E7 ∅ (o _ ⟨_,rfl,X,by show 1<=2;decide⟩))))))))))
 rintro I ⟨M,rfl,Z,lM⟩;refine qb9 (λI=>∃b M,I=(qf9 n wr c g z f y L b (kL Ab) (.l false (shD n M)))/\Pf ns b/\(∀s∈M,Ku n g f s)/\M.length<=3) (λK o=>?_) ?_
 .have Y:(O7 c).length=c.length:=zAb _;refine Hg (!decide (Ab=[])&&true) (λQ q=>ql0 (!decide (Ab=[])) true (λQ q=>qe4 (f2_of (x:=kL Ab) (y:=kL []) rfl rfl (qaP4 Ab [])) q) (λ_ Q q=>qe4 (f2_of (x:=.int (c.length:Nat)) (show some (D.int ((O7 c).length:Nat))=_ by rw[Y]) rfl (show some (D.bl (decide (((c.length:Nat):Int)<64)))=_ by rw[zAo ⋯])) q) q) (λh=>?_) λ_=>o _ ⟨b,M,rfl,B,Z,⋯⟩;rw[Bool.and_true] at h;have a0:Ab≠[]:=by simpa using h
  obtain⟨x,A',rfl⟩:∃x A',Ab=x::A':=by cases Ab with|nil=>exact absurd rfl a0|cons x A'=>exact⟨x,A',rfl⟩
  obtain⟨nx,nk,nf⟩:=hA x zA9;refine qm7 ⟨rfl,qe2 (qy5 (qe1 (y:=.int n) rfl rfl (qe1 (y:=.bl wr) rfl rfl (qe2 (Gq ⟨rfl,qF1 (qe2 (qy5 (qe1 (y:=.int x) (f2_of (x:=kL (x::A')) rfl rfl (show gIx (kL (x::A')) (.int ((0:Nat):Int))=some (.int x) from qS8 rfl)) rfl (qe2 (qO0 (j:=5) rfl B rfl ∅ ⋯ ⋯ λv b' v0 v1 B'=>qc0 ⟨by show 1+1<=1000000;decide,qc0 ⟨by show 0+1<=1000000;decide,qa2 (a:=D.l false (O7 (c++[(x,v)]))) ?_ ?_⟩⟩)))))⟩)))))⟩;{show gd _ (D.l false (O7 c++[.q [.int x,.int v]]))=_;rw[qaq5];exact qg4 ⟨qp2 c,rfl,by rw[Y];show _+1<=1000000;lia⟩};dsimp only;rw[show (D.l false (O7 (c++[(x,v)]))).fz=.l true (O7 (c++[(x,v)])) from congrArg (D.l true) (qG2 _)];refine qc0 ⟨by show 2+1<=1000000;decide,qc0 (qa2 (a:=shD n M) rfl (qa2 (a:=(shD n M++[Ad n wr (c++[(x,v)])],D.non)) (if_pos ?_) ?_))⟩;{unfold shD big;rw[zAb];lia};rw[qaT7];refine o _ ⟨b',M++[(wr,c++[(x,v)])],rfl,B',λs E=>?_,by rw[zAf];show _+1<=_;lia⟩;rcases zAd.mp E with e|e;{exact Z s e};rw[zAk.mp e];exact⟨qQ6 G ⋯ nx ⟨v0,⋯⟩ (by rw[W];exact nf),KP.congr (Eh V) (λk hk=>qaP0 λe=>nk (e ▸ hk)) λ_ _=>rfl⟩
 rintro I ⟨b,M,rfl,B,Z,lM⟩;exact q b M B Z lM
theorem qq7:qa8 ["_law_script", "_law_bag_here", "_law_shape", "_law_keys", "_law_held", "_law_asked_here", "_law_row", "_law_shapes", "_law_rows", "_law_key", "_law_one", "_law_here", "_law_found"] ["_law_script"] (qa3 Hi):=by walk_at "s"
theorem qaR8(h:te ds (λd a=>g d a e.nx) e.xe):Em te g e ds:=h
theorem qae3{t:VT}{n:VTS}(h:t ds (λd a=>orF d.asB λk=>if (!k)=true then n e a else e.nx a) e.xe):sIf (Eu (ttE t)) n G0 e ds:=h
def qH1(d:D):Prop:=∃(r:Nat)(o:Option Int),d=.q [.int (r:Nat),A8 o]
theorem qaA2(o:Option Int):Ek (A8 o):=by cases o with|none=>exact .inl rfl|some x=>exact .inr (.inl ⟨x,rfl⟩)
theorem qO3(h:qH1 d):d.imm=true/\d.fz=d/\alk 1 d d:=by obtain⟨r,o,rfl⟩:=h;refine⟨?_,?_,qau3 (j:=0) (λx a=>?_) ?_ (by show 2<=1000;decide)⟩;{cases o<;>rfl};{cases o<;>rfl};{simp only[zAa,zAr,zC9] at a;rcases a with rfl|rfl;{exact .inr (.inl ⟨_,rfl⟩)};exact qaA2 o};cases o<;>rfl
theorem qo0:∀{l:Ds},(∀d∈l,qH1 d)->D.imms l=true/\D.fzs l=l|[],_=>⟨rfl,rfl⟩|d::l,h=>by obtain⟨a,b⟩:=qo0 λx c=>h x (zA4 _ c);obtain⟨e,f,_⟩:=qO3 (h d zA9);exact⟨by show (d.imm&&D.imms l)=true;rw[e,a];rfl,by show d.fz::D.fzs l=_;rw[f,b]⟩
theorem qY5{acc:Ds}(h:∀d∈acc,qH1 d):∀d∈acc++[D.q [.int (r:Nat),A8 o]],qH1 d:=λd a=>(zAd.mp a).elim (h d) λe=>⟨r,o,zAk.mp e⟩
theorem qar8{n:Int}{wr:Bool}{ps:Pr}{g:Nat->Option Int}{k:Int}:∀(b:List Nat)(acc:Ds),(∀d∈acc,qH1 d)->∃r seen,Fh n wr ps g k b acc=.q [r,.l false seen]/\Ek r/\(∀d∈seen,qH1 d)/\seen.length<=acc.length+b.length/\(b≠[]∨acc≠[]->seen≠[])
 |[],acc,h=>⟨.non,acc,rfl,.inl rfl,h,zCk _ _,λz=>z.elim (λw=>absurd rfl w) id⟩|r::b,acc,h=>by
  have c:=qY5 (r:=r) (o:=g r) h;have e:(acc++[D.q [.int (r:Nat),A8 (g r)]]).length=acc.length+1:=by rw[zAf];rfl
  have a:acc++[D.q [.int (r:Nat),A8 (g r)]]≠[]:=by simp
  unfold Fh;split;{exact⟨_,_,rfl,.inr (.inl ⟨_,rfl⟩),c,by rw[e,zAj];lia,λ_=>a⟩};split;{exact⟨_,_,rfl,.inl rfl,c,by rw[e,zAj];lia,λ_=>a⟩};obtain⟨x,seen,f,e2,i,j,l⟩:=qar8 b _ c;exact⟨x,seen,f,e2,i,by rw[e] at j;rw[zAj];lia,λ_=>l (.inr a)⟩
theorem qaS8{n:Int}{wr:Bool}{ps:Pr}(a:1<=n):En n wr ps k≠[]:=by have b:=Eh (ps:=ps) a k;intro e;have e:=congrArg Mf e;unfold En Hv G3 at e;rw[zAb,zBv] at e;have e:(if wr=true then n.toNat else n.toNat-O3 n ps k)=0:=e;split at e<;>lia
theorem qaz9{n:Int}{wr:Bool}{ps:Pr}{g:Nat->Option Int}(a:1<=n):∃r seen,Hk n wr ps g k=.q [r,.l false seen]/\Ek r/\(∀d∈seen,qH1 d)/\seen.length<=n.toNat/\seen≠[]:=by obtain⟨r,seen,b,e2,c,e,f⟩:=qar8 (n:=n) (wr:=wr) (ps:=ps) (g:=g) (k:=k) (En n wr ps k) [] nofun;exact⟨r,seen,b,e2,c,zAg e (by rw[zCm,zAh];exact qW3),f (.inl (qaS8 a))⟩
theorem qad1{r:D}(h:Ek r):r.fz=r/\r.imm=true:=by rcases h with rfl|⟨_,rfl⟩|⟨_,rfl⟩<;>exact⟨rfl,rfl⟩
theorem qaz8{r:D}{seen:Ds}(c:Ek r)(h:∀d∈seen,qH1 d)(f:seen.length<=1000):alk 3 (.q [r,.l true seen]) (.q [r,.l true seen]):=by
 have e:D.imms [r,.l true seen]=true:=by show (r.imm&&true)=true;rw[(qad1 c).2];rfl
 refine .inr ⟨_,_,.inr ⟨rfl,rfl⟩,e,e,rfl,by show 2<=1000;decide,λi x y a b=>?_⟩;rw[a] at b;cases b;have a:=zAw a;simp only[zAa,zAr,zC9] at a;rcases a with rfl|rfl;{exact qad2 c};refine .inr ⟨seen,seen,.inl ⟨rfl,rfl⟩,(qo0 h).1,(qo0 h).1,rfl,f,λi x y a b=>?_⟩;rw[a] at b;cases b;exact(qO3 (h _ (zAw a))).2.2
def rwD(z:Bool)(a:Adr)(n:Int)(g:Nat->Option Int)(M:List (Bool×Pr)):Ds:=M.map λs=>Aw z a.Ca a.C8 n s.1 s.2 g []
theorem qat1{z:Bool}{a:Adr}{n:Int}{wr:Bool}{ps:Pr}{g:Nat->Option Int}:(Aw z a.Ca a.C8 n wr ps g []).fz=Aw true a.Ca a.C8 n wr ps g []:=by show D.ins true a.Ca [("plan",(Ag true a.C8 n wr ps).fz),("held",(D.l z (O6 n.toNat g)).fz),("done",.l true [])]=_;rw[qae7,Kt];rfl
theorem qba7{z:Bool}{a:Adr}{n:Int}{g:Nat->Option Int}{M:List (Bool×Pr)}:(D.l z (rwD z a n g M)).fz=.l true (rwD true a n g M):=by refine congrArg (D.l true) ?_;induction M with|nil=>rfl|cons s M b=>show (Aw z a.Ca a.C8 n s.1 s.2 g []).fz::D.fzs (rwD z a n g M)=_;rw[b,qat1];rfl
theorem fz_sh{n:Int}{M:List (Bool×Pr)}:(D.l false (shD n M)).fz=.l true (shD n M):=by refine congrArg (D.l true) ?_;induction M with|nil=>rfl|cons s M a=>show (Ad n s.1 s.2).fz::D.fzs (shD n M)=_;rw[a];show D.q [.int n,.bl s.1,.l true (D.fzs (O7 s.2))]::_=_;rw[qG2];rfl
abbrev qt4 (u) (n:Int) (wr:Bool) (ps:Pr) (ks) (g) (a:Adr) (M) (p1 e f h b c d:D):=([D.hole u,p1,Ad n wr ps,kL ks,.l true (O6 n.toNat g),e,rA a n wr ps g [],.l true (shD n M),f,h,b,c,d]:Ds)
theorem qaY0(T:Txt K mg a):Fi P w K mg base (CX1 P w) 12 a.f48 a.d48 ["_law_script"] (Ic K):=by
 refine T.d48.F.okX qq7 (λvs H Q E h=>?_) (λa1 A outer s H vs Q E O h=>?_);{obtain⟨l,ns,rfl,_⟩:=h;rfl};obtain⟨l,ns,rfl,hS,hl,k⟩:=h;refine⟨_,qaa2 (sset 1 qq7.nd (callD T.d28 (qaM2 T) (rm O) (qe7 (pv 0) qu0))) (show VSs ⟨λ_=>E,λ_=>false,Ma 13 none,[]⟩ (E8 true (CX1 P w) P w K mg base ["_law_script", "_law_bag_here", "_law_shape", "_law_keys", "_law_held", "_law_asked_here", "_law_row", "_law_shapes", "_law_rows", "_law_key", "_law_one", "_law_here", "_law_found"] "law" (qa3 Hi) a.f48 a1 A outer s H E) _ _ from(Aa (E9 (Ak T.d39 (qak3 T) qa1 (rm O) (vaN 1 Ac)) (Br (n:=2) rfl (qc8 (Ax 2 qq7.nd) (qc8 (Ax 3 qq7.nd) Bq)))) (Aa (Al 4 qq7.nd (B6 (Ak T.d35 (qE5 T) qa1 (rm O) (vaN 2 (vaN 3 Ac))))) (Aa (Al 5 qq7.nd (Ak T.d44 (qak6 T) qa1 (rm O) (vaN 1 (vaN 2 (vaN 3 Ac))))) (Aa (Al 6 qq7.nd (qaQ8 T.Cf T.Dt T.d19 (qA2 T) qa1 (rm O) (vaV (B6 (Ak T.d40 (qab5 T) qa1 (rm O) (vaN 2 Ac))) (vaV (qa4 (Fm qd3 qt3.ops T.Ch (qa0 (vnm 4) qa6 rfl))) Ac)))) (Aa (Al 7 qq7.nd (B6 (Ak T.d47 (qab6 T) qa1 (rm O) (vaN 1 (vaN 2 (vaN 4 (vaN 3 (vaN 5 Ac)))))))) (Aa (scL (NY:=["_law_one", "_law_held"]) (src:=[none,some 4]) 8 qq7.nd (qb8 (vnm 7)) (blk (λav C s0 H0 ex=>(Ax 0 (show (["_law_one", "_law_held"]:List Str).Nodup by decide +kernel))) (λav C s0 H0 ex=>Ex) (λav C s0 H0 ex=>(qaQ8 T.Cf T.Dt T.d19 (qA2 T) qs5 (rm O) (vaV (B6 (Ak T.d40 (qab5 T) qs5 (rm O) (vaN 0 Ac))) (vaV (qa4 (Fm qd3 qt3.ops T.Ch (qa0 (vnm 1) qa6 rfl))) Ac)))))) (Aa (Il N9 (qa4 (v2 (Ah qf2) qf1 (vnm 5) (vrev (vnm 5)))) (Ax 9 qq7.nd) (Aj (sforZ N9 T.Dz (vaV (qb8 (vnm 7)) (vaV (efz 8) Ac)) (Br (n:=2) rfl (qc8 (Ax 10 qq7.nd) (qc8 (Ax 11 qq7.nd) Bq))) (Aa (Al 12 qq7.nd (Ak T.d27 (qA1 T) qa1 (rm O) (vaN 11 (vaN 9 Ac)))) (Aa (sif (Bu (te (qbb4 T.d42 (qu3 T) qa1 (rm O) (vaN 12 (vaV (Ak T.d43 (qaz1 T) qa1 (rm O) (vaN 10 (vaN 4 (vaN 9 Ac)))) Ac))))) (Aj (As (qa4 vbl))) Au) (Aa (E9 (qa4 (B9 (qa0 Ae (qa0 Ae qa6 rfl) rfl))) (Gm (vpix (vpn 12) Ae) Ae)) (Aj (Ej (emutP qE9 Oc Oe Of qh0 (vpix (vpn 12) Ae) (vaV (qa4 (B9 (qa0 Ae (qa0 Bc qa6 rfl) rfl))) Ac)))))))))) (Aa (sif (Bu (te (Ak T.d46 (qak1 T) qa1 (rm O) (vaN 1 (vaV (efz 6) (vaN 4 Ac)))))) (Aj (As (qa4 vbl))) Au) (Aj (As (Fl (e2v (A6 (qe3 O.u64) (qa9 _)) A9 (qG6 6 T.d20 T.Cf.cl (qk3 T) qa1 (rm O)) (vnm 4)) (Fl (e2v (A6 (qe3 O.u64) (qa9 _)) A9 (qG6 6 T.d22 T.Cf.cl (qV1 T) qa1 (rm O)) (vbi qp6 qp5.ops T.Cq (qa0 (vnm 3) qa6 rfl))) (Ga (e2v (A6 (qe3 O.u64) (qa9 _)) A9 (qG6 6 T.d23 T.Cf.cl (qL3 T) qa1 (rm O)) (Bl qa6)))))))))))))))).h,?_⟩;refine⟨_,rfl,l,ns,rfl,hS,hl,λp L H' hp hL kp B=>?_⟩;obtain⟨x,y,z,I,B⟩:=B;refine qal3 (rest:=[]) (X:=E8 true (CX1 P w) P w K mg base [] "law" (qa3 Hi) a.f48 a1 A outer s H E) (n:=11) (x:=x) (y:=y) (z:=z) (ns:=I) rfl (λ_=>rfl) rfl B.at_ B.li B.ne (λH'=>k H') ?_;have B0:Pf I (bagD x y z I):=⟨x,y,z,rfl,B.x0,B.y0,B.y1,B.z0,B.nn⟩;generalize bagD x y z I=b at B0;generalize V.ref l=u;clear B hp hL kp hS hl k;refine At [D.hole u,b,.u,.u,.u,.u,.u,.u,.u,.u,.u,.u,.u] rfl ?_;refine qb9 (λJ=>∃b n wr c f,J=[D.hole u,b,Ad n wr c,kL f,.u,.u,.u,.u,.u,.u,.u,.u,.u]/\Pf I b/\1<=n/\n<=64/\qq0 c/\c.length<=12/\f.Nodup/\(∀k∈f,An k)/\∀q,¬Crowd n.toNat wr (O3 n c) f q) (λK N=>?_) ?_;{exact qaR8 (qN3 (x:=b) (qc4 rfl B0.known) ⟨I,b,rfl,B0,λZ n wr c f B' W Y G lp nd hk nc=>qa2 (a:=[D.hole u,Z,.u,.u,.u,.u,.u,.u,.u,.u,.u,.u,.u]) rfl (ql7 (N _ ⟨Z,n,wr,c,f,rfl,B',W,Y,G,lp,nd,hk,nc⟩))⟩)};rintro J ⟨b,n,wr,c,f,rfl,B,W,Y,G,lp,nd,hk,nc⟩;have a8:=qat3 ⋯ nc;refine qb9 (λJ=>∃g,J=[D.hole u,b,Ad n wr c,kL f,.l true (O6 n.toNat g),.u,.u,.u,.u,.u,.u,.u,.u]/\Kept n.toNat wr (O3 n c) g f) (λK N=>?_) ?_;{refine qc6 (Gq (qW0 (x:=Ad n wr c) (y:=kL f) rfl rfl rfl ⟨n,wr,c,false,f,rfl,W,Y,nd,nc,λg Kg=>qa2 (a:=[D.hole u,b,Ad n wr c,kL f,.u,.u,.u,.u,.u,.u,.u,.u,.u]) rfl ?_⟩));rw[Kt];exact N _ ⟨g,rfl,Kg⟩};rintro J ⟨g,rfl,Kg⟩;refine qb9 (λJ=>∃b L,J=[D.hole u,b,Ad n wr c,kL f,.l true (O6 n.toNat g),kL L,.u,.u,.u,.u,.u,.u,.u]/\Pf I b/\(∀k∈L,An k)/\L.length=12) (λK N=>qc6 (qaE3 (x:=b) (y:=Ad n wr c) (w:=kL f) (qc4 rfl B.known) rfl rfl rfl (qc4 rfl B.known) ⟨I,b,n,wr,c,false,f,rfl,B,W,Y,G,hk,⋯,λZ L B' hL hl=>qa2 (a:=[D.hole u,Z,Ad n wr c,kL f,.l true (O6 n.toNat g),.u,.u,.u,.u,.u,.u,.u,.u]) rfl (N _ ⟨Z,L,rfl,B',hL,hl⟩)⟩)) ?_;rintro J ⟨b,L,rfl,B,hL,hl⟩;have lh:Ay (fx1 Fr) (Am (rdN 4) λ_=>some []) [D.hole u,b,Ad n wr c,kL f,.l true (O6 n.toNat g),kL L,.u,.u,.u,.u,.u,.u,.u]=some (rL n g):=show Fr (.l true (O6 n.toNat g))=_ from qg4 (qt2 _ _);refine qb1 [D.hole u,b,Ad n wr c,kL f,.l true (O6 n.toNat g),kL L,rA a n wr c g [],.u,.u,.u,.u,.u,.u] (λK N=>qc6 (qac5 (qe2 (Gq (qN3 (x:=Ad n wr c) rfl ⟨n,wr,c,rfl,W,Y,G,qa2 (a:=[D.hole u,b,Ad n wr c,kL f,.l true (O6 n.toNat g),kL L,.u,.u,.u,.u,.u,.u,.u]) rfl ?_⟩))))) ?_;{rw[qae7];exact qe0 (y:=rL n g) lh (qc0 ⟨n,wr,c,_,g,f,rfl,W,Y,hk,Kg,.inr ⟨false,rfl⟩,rfl,qa2 (a:=rA a n wr c g []) rfl (qa2 (a:=[D.hole u,b,Ad n wr c,kL f,.l true (O6 n.toNat g),kL L,.u,.u,.u,.u,.u,.u,.u]) rfl N)⟩)};refine qb9 (λJ=>∃b M,J=(qt4 u n wr c f g a M b (kL L) .u .u .u .u .u)/\Pf I b/\(∀s∈M,Ku n g f s)/\M.length<=3) (λK N=>?_) ?_;{refine qc6 (Gq (qk6 (qc3 (x:=b) (qc4 rfl B.known) (qc3 (x:=Ad n wr c) rfl (qc3 (x:=.l true (O6 n.toNat g)) rfl (qc3 (x:=kL f) rfl (qc3 (x:=kL L) rfl (qc0 (qa2 (a:=D.l false (O5 L)) rfl (qa2 (a:=D.l false (O5 f)) rfl (qa2 (a:=D.l true (O6 n.toNat g)) rfl (qa2 (a:=Ad n wr c) rfl (qa2 (a:=b) (qc4 rfl B.known) ⟨I,b,n,wr,c,g,false,f,false,L,rfl,B,W,Y,G,lp,nd,Kg,hL,⋯,λZ M B' hM lM=>qa2 (a:=[D.hole u,Z,Ad n wr c,kL f,.l true (O6 n.toNat g),kL L,rA a n wr c g [],.u,.u,.u,.u,.u,.u]) rfl ?_⟩)))))))))))));rw[fz_sh];exact N _ ⟨Z,M,rfl,B',hM,lM⟩};rintro J ⟨b,M,rfl,B,hM,lM⟩;refine qb1 (qt4 u n wr c f g a M b (kL L) (.l false (rwD false a n g M)) .u .u .u .u) (λK N=>qc6 (qn5 (d:=.l true (shD n M)) rfl rfl (qa2 (a:=shD n M) rfl ⟨qas6 M,?_⟩))) ?_;{refine qat9 (λi a0 ι=>∃d,ι=[d,.l true (O6 n.toNat g)]/\a0=rwD false a n g (M.take i)) _ 0 _ _ ⟨_,rfl,rfl⟩ ?_ ?_;{rintro i w hw a0 ι ⟨d,rfl,rfl⟩ R hR;rw[zAh] at hR ⊢;unfold shD at hw;rw[zAt] at hw;obtain⟨s,hs,rfl⟩:=zA8.mp hw;obtain⟨G',K'⟩:=hM s (zAw hs);have hi:=(zA6.mp hs).1;refine qu2 (qT1 (Bh rfl (qac5 (qe2 (Gq (qN3 (x:=Ad n s.1 s.2) rfl ⟨n,s.1,s.2,rfl,W,Y,G',qa2 (a:=[Ad n s.1 s.2,.l true (O6 n.toNat g)]) rfl ?_⟩))))));rw[qae7];refine qe0 (y:=rL n g) (show Fr (.l true (O6 n.toNat g))=_ from qg4 (qt2 _ _)) (qc0 ⟨n,s.1,s.2,_,g,f,rfl,W,Y,hk,K',.inr ⟨false,rfl⟩,rfl,qa2 (a:=rA a n s.1 s.2 g []) rfl (qa2 (a:=[Ad n s.1 s.2,.l true (O6 n.toNat g)]) rfl ⟨?_,hR _ _ ⟨_,rfl,?_⟩⟩)⟩);{unfold rwD big;rw[zAb,zBz];lia};unfold rwD;rw[zBu,hs,zBc];rfl};rintro a0 ι ⟨d,rfl,rfl⟩;rw[zAh,show (shD n M).length=M.length from zAb _,Mp];exact N};obtain⟨L2,e2,a3⟩:∃L2:List Int,Gw (kL L) (.l false (O5 L).reverse)=some (kL L2)/\∀k∈L2,An k:=by refine⟨L++L.reverse,?_,λk h=>(zAd.mp h).elim (hL k) λh=>hL k (List.mem_reverse.mp h)⟩;rw[show (O5 L).reverse=O5 L.reverse from(List.map_reverse ..).symm];exact qaS2 (by rw[M8];lia)
 refine qb9 (λJ=>∃S d9 o t m,J=(qt4 u n wr c f g a M b (kL L) (.l S (rwD S a n g M)) d9 o t m)) (λK N=>qo3 (d:=kL L2) (f2_of (x:=kL L) rfl (Bd (x:=kL L) rfl (show gRev (kL L)=some (.l false (O5 L).reverse) from qg4 (qp3 L))) e2) (qa2 (a:=O5 L2) rfl ⟨qp3 L2,qe6 (λ_ J=>∃S d9 o t m,J=(qt4 u n wr c f g a M b (kL L) (.l S (rwD S a n g M)) d9 o t m)) _ 0 _ ⟨false,_,_,_,_,rfl⟩ ?_ λJ h=>N _ h⟩)) ?_
 .rintro i w hw J ⟨S,d9,o,t,m,rfl⟩ K2 a4;obtain⟨U,a5,rfl⟩:=qaN8 hw;have nk:=a3 U (zAw a5);refine qu2 (At (qt4 u n wr c f g a M b (kL L) (.l S (rwD S a n g M)) (.int U) o t m) rfl ?_);refine qe1 (y:=.l true (shD n M)) rfl rfl (qe2 (qaG5 (d:=.l S (rwD S a n g M)) rfl ?_));rw[qba7];have mr:D.imms (rwD true a n g M)=true:=qx4 (λ_=>rfl) _;refine qc0 (qa2 (a:=(false,shD n M,rwD true a n g M)) rfl ⟨qas6 M,mr,by show (shD n M).length=(rwD true a n g M).length;unfold shD rwD;rw[zAb,zAb],?_⟩);refine qe6 (λ_ J=>∃o t m,J=(qt4 u n wr c f g a M b (kL L) (.l true (rwD true a n g M)) (.int U) o t m)) _ 0 _ ⟨_,_,_,rfl⟩ ?_ λJ ⟨o,t,m,e⟩=>a4 _ ⟨true,_,o,t,m,e⟩;clear o t m;rintro j v hv J ⟨o,t,m,rfl⟩ K3 a6;obtain⟨i',p1,p2,rfl,h1,h2⟩:=qaE8 (zAw hv);unfold shD at h1;unfold rwD at h2;rw[zAt] at h1 h2;obtain⟨s,hs,rfl⟩:=zA8.mp h1;rw[hs] at h2;cases h2;obtain⟨G',K'⟩:=hM s (zAw hs);obtain⟨r,seen,el,lr,a2,a9,a7⟩:=qaz9 (n:=n) (wr:=s.1) (ps:=s.2) (g:=g) (k:=U) W;refine ql7 (At (qt4 u n wr c f g a M b (kL L) (.l true (rwD true a n g M)) (.int U) (Ad n s.1 s.2) (Aw true a.Ca a.C8 n s.1 s.2 g []) m) rfl ?_);refine qb1 (qt4 u n wr c f g a M b (kL L) (.l true (rwD true a n g M)) (.int U) (Ad n s.1 s.2) (Aw true a.Ca a.C8 n s.1 s.2 g []) (.q [r,.l false seen])) (λK N=>qc6 (qW0 (x:=Aw true a.Ca a.C8 n s.1 s.2 g []) (y:=.int U) rfl rfl rfl ⟨_,_,true,rfl,qas4,⟨_,rfl⟩,nofun,(λ_ h=>by rw[qx0 nk] at h;cases h),λ_ _=>⟨true,n,s.1,s.2,g,[],f,U,rfl,rfl,W,Y,hk,K',qa2 (a:=(qt4 u n wr c f g a M b (kL L) (.l true (rwD true a n g M)) (.int U) (Ad n s.1 s.2) (Aw true a.Ca a.C8 n s.1 s.2 g []) m)) rfl (by rw[el];exact N)⟩⟩)) ?_;obtain⟨sm,sf⟩:=qo0 a2;refine qb1 (qt4 u n wr c f g a M b (kL L) (.l true (rwD true a n g M)) (.int U) (Ad n s.1 s.2) (Aw true a.Ca a.C8 n s.1 s.2 g []) (.q [r,.l false seen])) (λK N=>qae3 ?_) ?_
  .refine qc3 (x:=.q [r,.l false seen]) rfl (qe2 (Kn (x:=Ad n s.1 s.2) (y:=.l true (O6 n.toNat g)) (w:=.int U) (d:=.q [r,.l false seen]) rfl rfl rfl rfl rfl ⟨n,s.1,s.2,true,g,U,rfl,W,Y,el.symm⟩ rfl (qc0 (qa2 (a:=D.q [r,.l false seen]) rfl ?_))));have ef:D.fzs [.q [r,.l false seen],.q [r,.l false seen]]=[.q [r,.l true seen],.q [r,.l true seen]]:=by show [D.q [r.fz,.l true (D.fzs seen)],D.q [r.fz,.l true (D.fzs seen)]]=_;rw[(qad1 lr).1,sf]
   rw[ef];have im:(D.q [r,.l true seen]).imm=true:=by show (r.imm&&true)=true;rw[(qad1 lr).2];rfl
   exact⟨.bl true,⟨_,_,rfl,qaz8 lr a2 ⋯,im,im,rfl⟩,rfl,qa2 (a:=(qt4 u n wr c f g a M b (kL L) (.l true (rwD true a n g M)) (.int U) (Ad n s.1 s.2) (Aw true a.Ca a.C8 n s.1 s.2 g []) (.q [r,.l false seen]))) rfl (qa2 (a:=true) rfl N)⟩
  refine qb1 (qt4 u n wr c f g a M b (kL L) (.l true (rwD true a n g M)) (.int U) (Ad n s.1 s.2) (Aw true a.Ca a.C8 n s.1 s.2 g []) (.q [r,.l false (seen.set 0 (.q [.int 7,.int 7]))])) (λK N=>qo3 (d:=.q [.int 7,.int 7]) rfl (qa2 (a:=(12,[1])) rfl (qa2 (a:=seen) rfl (qa2 (a:=(0:Int)) rfl (qa2 (a:=0) ?_ N))))) ?_;{have:=List.length_pos_iff.mpr a7;unfold ixN;simp[this]};exact qm7 (qaM7 (i:=12) (p:=[1]) (ys:=seen.set 0 (.q [.int 7,.int 7])) (d0:=.q [r,.l false (seen.set 0 (.q [.int 7,.int 7]))]) rfl rfl rfl (qe0 (y:=.q [.int 0,.non]) rfl (qc0 (qa2 (a:=(seen.set 0 (.q [.int 7,.int 7])++[D.q [D.int 0,D.non]],D.non)) (if_pos (show (seen.set 0 (.q [.int 7,.int 7])).length<big by unfold big;rw[zC3];lia)) (a6 _ ⟨_,_,_,rfl⟩)))))
 rintro J ⟨S,d9,o,t,m,rfl⟩;refine qb9 (λJ=>∃b,J=[D.hole u,b,Ad n wr c,kL f,.l true (O6 n.toNat g),kL L,Aw true a.Ca a.C8 n wr c g [],.l true (shD n M),.l S (rwD S a n g M),d9,o,t,m]/\Pf I b) (λK N=>qae3 (qk6 (qc3 (x:=b) (qc4 rfl B.known) (qe2 (qaG5 (d:=rA a n wr c g []) rfl ?_))))) ?_;{rw[qat1];exact qc3 (x:=.l true (O6 n.toNat g)) rfl (qc0 (qa2 (a:=D.l true (O6 n.toNat g)) rfl (qa2 (a:=b) (qc4 rfl B.known) ⟨I,b,n,wr,c,g,[],rfl,B,λZ B'=>qa2 (a:=[D.hole u,Z,Ad n wr c,kL f,.l true (O6 n.toNat g),kL L,Aw true a.Ca a.C8 n wr c g [],.l true (shD n M),.l S (rwD S a n g M),d9,o,t,m]) rfl (qa2 (a:=true) rfl (N _ ⟨Z,rfl,B'⟩))⟩)))};rintro J ⟨b,rfl,B⟩;refine qg7 (qag6 (qn9 (qac8 (p:=Aw true a.Ca a.C8 n wr c g []) (d:=rL n g) rfl (qF4 rfl) ⟨true,n,wr,c,g,[],rfl,rfl⟩ rfl (qa2 (a:=D.bl true) (qba6 λ_ _=>rfl) (qa2 (a:=true) rfl (Bh rfl (qag6 (qn9 (qac8 (p:=Aw true a.Ca a.C8 n wr c g []) (d:=.int (f.length:Nat)) rfl (qF4 rfl) ⟨true,n,wr,c,g,[],f,rfl,Y,Kg,rfl⟩ rfl (qa2 (a:=D.bl true) ?_ (qa2 (a:=true) rfl (Bh rfl (qn9 (qac8 (p:=Aw true a.Ca a.C8 n wr c g []) (d:=.l false []) rfl (qF4 rfl) ⟨true,n,wr,c,g,[],rfl,rfl,rfl⟩ rfl (qa2 (a:=D.bl true) rfl rfl)))))))))))))));show (some (D.int ((O5 f).length:Nat))).bind (gEq (.int (f.length:Nat)))=_;rw[qm5];exact Ks rfl
end
theorem dfX{x:Str}{f:γ}{m:Array (Option V')}{kV e i d j:V'}(X:K.In h)(G:h.Ns K9 mg)(a:W.nsIn K K9 x=some (some (.ref f)))(l:K.lookup f=some ⟨oc,od,.func (W.fnOf x qual (qe9 st) (qd0 st) (qa3 st) .none kV e i g d j),m⟩)(c:W.codeIn K d qual=true)(k:W.keepIn K (.ref f)=true)(b:∀(kV e i:V')(g:Option γ)(d j:V')(us:List V'),us.length=ps.length->bindArgs (W.fnOf x qual (qe9 st) (qd0 st) (qa3 st) .none kV e i g d j) ⟨us,[]⟩=pure (ps.zip us)):Df K mg x qual st f (W.fnOf x qual (qe9 st) (qd0 st) (qa3 st) .none kV e i g d j) ps:=dfmk l c k (W.mg_of X G a) b
theorem qbc5{l:W.OpenLaw}{w:Lq}{K:Oa}{mg:Str->Option V'}{fa f0 f1 f2 f3 f4 f5 f6 f7 f8 f9 d f g h i j n o p c q r t u x y z A B C D E F G H I J L M N O P Q R S T U V e7 C0 C1 C2 C3 C4 C5 C6 C7:γ}{d0 d1 d2 d3 d4 d5 d6 d7 d8 d9 X Y Z a0 a1 a2 a3 a4 a5 a6 a7 a8 a9 b0 b1 b2 b3 b4 b5 b6 b7 b8 b9 c0 c1 c2 c3 c4 c5 c6 c7 c8 c9 e0 e1 e3 e4 e5 b:δ}{Ci Ck Cp:Tok}(e8:mg "law"=some (.ref fa))(j0:Df K mg "_wall" "_wall" qap7 f0 d0 ["k"])(j1:Md K C3 "__init__" "Wrong.__init__" qn3 f1 d1 ["self", "at"])(j2:Df K mg "is_whole" "is_whole" qv9 f2 d2 ["thing"])(j3:Df K mg "is_whole_within" "is_whole_within" qg2 f3 d3 ["thing", "least", "most"])(j4:Df K mg "is_number" "is_number" qr4 f4 d4 ["thing"])(j5:Df K mg "are_parted" "are_parted" qn2 f5 d5 ["numbers"])(j6:Df K mg "is_number_pair" "is_number_pair" qh2 f6 d6 ["thing"])(j7:Df K mg "is_home_list" "is_home_list" qj8 f7 d7 ["thing"])(j8:Md K C0 "__init__" "Plan.__init__" qr7 f8 d8 ["self", "rooms", "wraps", "homes"])(j9:Md K C0 "is_room" "Plan.is_room" qj9 f9 d9 ["self", "thing"])(e9:Md K C0 "rooms_on" "Plan.rooms_on" qi4 d X ["self", "first", "many"])(g0:Md K C0 "home" "Plan.home" qr8 f Y ["self", "key"])(g9:Md K C0 "far" "Plan.far" qw3 g Z ["self", "key", "room"])(h0:Md K C0 "goes_ahead" "Plan.goes_ahead" qg3 h a0 ["self", "room", "one", "other"])(h1:Df K mg "room_ahead" "room_ahead" qn1 i a1 ["plan", "room"])(h2:Df K mg "word_by_room_ahead" "word_by_room_ahead" qd9 j a2 ["plan", "rooms", "room"])(h3:Df K mg "word_due" "word_due" qv7 n a3 ["plan", "rooms", "room"])(h4:Df K mg "is_turned" "is_turned" qr3 o a4 ["plan", "rooms"])(h5:Df K mg "fault_of" "fault_of" qw0 p a5 ["plan", "rooms"])(h6:MdN K C1 "__init__" "Row.__init__" qw2 c a6 ["self", "plan", "rooms"])(h7:Md K C1 "rooms_held" "Row.rooms_held" qh3 q a7 ["self"])(h8:Md K C1 "keys_held" "Row.keys_held" qi3 r a8 ["self"])(h9:Md K C1 "many" "Row.many" qw1 t a9 ["self"])(i0:Md K C1 "deeds" "Row.deeds" qr6 u b0 ["self"])(i1:Df K mg "refuse_wrong_row_or_key" "refuse_wrong_row_or_key" qc5 x b1 ["row", "key"])(i2:Df K mg "way_of" "way_of" qJ6 y b2 ["plan", "key"])(i3:Df K mg "gives_way" "gives_way" qr5 z b3 ["plan", "key", "room", "held"])(i4:Df K mg "look_for" "look_for" qv8 A b4 ["row", "key"])(i5:Df K mg "_law_bag" "_law_bag" qaw5 B b5 ["_law_script"])(i6:Df K mg "_law_take" "_law_take" qY9 C b6 ["_law_bag_here", "_law_many"])(i7:Df K mg "_law_home" "_law_home" qZ2 D b7 ["_law_shape", "_law_key"])(i8:Df K mg "_law_far" "_law_far" qaw4 E b8 ["_law_shape", "_law_key", "_law_room"])(i9:Df K mg "_law_ahead" "_law_ahead" qK4 F b9 ["_law_shape", "_law_room", "_law_one", "_law_other"])(k0:Df K mg "_law_passes" "_law_passes" qB6 G c0 ["_law_shape", "_law_keys"])(k1:Df K mg "_law_fits" "_law_fits" qZ3 H c1 ["_law_shape", "_law_keys"])(k2:Df K mg "_law_housed" "_law_housed" qB8 I c2 ["_law_shape", "_law_keys"])(k3:Df K mg "_law_fitting" "_law_fitting" qw5 J c3 ["_law_shape", "_law_keys"])(k4:Df K mg "_law_drawn" "_law_drawn" qK1 L c4 ["_law_bag_here", "_law_rooms", "_law_many"])(k5:Df K mg "_law_homes" "_law_homes" qK0 M c5 ["_law_bag_here", "_law_rooms", "_law_keys"])(k6:Df K mg "_law_scene" "_law_scene" qJ9 N c6 ["_law_bag_here"])(k7:Df K mg "_law_plan" "_law_plan" qZ0 O c7 ["_law_shape"])(k8:Df K mg "_law_whole" "_law_whole" qJ8 P c8 ["_law_found"])(k9:Df K mg "_law_alike" "_law_alike" qK3 Q c9 ["_law_found", "_law_due"])(l0:Df K mg "_law_look" "_law_look" qZ1 R e0 ["_law_shape", "_law_held", "_law_key"])(l1:Df K mg "_law_asked" "_law_asked" qK2 S e1 ["_law_bag_here", "_law_shape", "_law_keys"])(l2:Df K mg "_law_refused" "_law_refused" qw4 T e3 ["_law_row", "_law_key"])(l3:Df K mg "_law_wrong" "_law_wrong" qJ7 U e4 ["_law_bag_here", "_law_row", "_law_held"])(l4:Df K mg "_law_others" "_law_others" qB7 V e5 ["_law_bag_here", "_law_shape", "_law_held", "_law_keys", "_law_asked_here"])(e6:Df K mg "law" "law" Hi e7 b ["_law_script"])(l5:mg "MOST_NUMBER"=some (.int 1000000000000000000 Ci))(l6:mg "MOST_ROOMS"=some (.int 64 Ck))(l7:mg "MOST_HOMES"=some (.int 64 Cp))(l8:mg "ValueError"=none)(l9:mg "abs"=none)(m0:mg "all"=none)(m1:mg "bool"=none)(m2:mg "dict"=none)(m3:mg "enumerate"=none)(m4:mg "int"=none)(m5:mg "isinstance"=none)(m6:mg "len"=none)(m7:mg "list"=none)(m8:mg "max"=none)(m9:mg "range"=none)(n0:mg "set"=none)(n1:mg "sorted"=none)(n2:mg "str"=none)(n3:mg "tuple"=none)(n4:mg "zip"=none)(n5:Cl K mg "Plan" C0)(n6:Mk K C0 f8)(n7:qd7 K C0 "rooms")(n8:qd7 K C0 "wraps")(n9:qd7 K C0 "homes")(o0:qd7 K C0 "home_numbers")(o1:IsO K C0)(o2:Cl K mg "Row" C1)(o3:Mk K C1 c)(o4:qd7 K C1 "plan")(o5:qd7 K C1 "held")(o6:qd7 K C1 "done")(o7:IsO K C1)(o8:mg "HomeError"=some (.ref C2))(o9:mg "Wrong"=some (.ref C3))(p0:Exc K C3)(p2:Ob K (.ref C3) (.type "ValueError")=some true)(p3:MkE K C3 f1)(p4:qd7 K C3 "at")(p5:IsX K C3)(p6:Ob K (.ref C3) (.ref C2)=some true)(p7:Ob K (.ref C3) (.ref C4)=some false)(p8:Ob K (.ref C3) (.ref C5)=some false)(p9:Ob K (.ref C3) (.ref C6)=some false)(q0:Ob K (.ref C3) (.ref C7)=some false)(q1:W.mroIn K C3 (.ref C3)=some true)(q3:mg "NoRoom"=some (.ref C4))(q4:mg "There"=some (.ref C5))(q5:mg "NotThere"=some (.ref C6))(q6:mg "Unkept"=some (.ref C7))(hb:∀(s:Sh)(v:V'),BindsTo s b ⟨[v],[]⟩ [("_law_script",v)]):∃fd:δ,(∀(s:Sh)(v:V'),BindsTo s fd ⟨[v],[]⟩ [("_law_script",v)])/\∀base:Heap,K.In base->base.Ns K9 mg->Fi l.prog w K mg base (CX1 l.prog w) 12 fa fd ["_law_script"] (Ic K):=by have e:=e8.symm.trans e6.m;injection e with e;injection e with e;subst e;exact⟨b,hb,λbase _ _=>qaY0 (a:=⟨f0,d0,f1,d1,f2,d2,f3,d3,f4,d4,f5,d5,f6,d6,f7,d7,f8,d8,f9,d9,d,X,f,Y,g,Z,h,a0,i,a1,j,a2,n,a3,o,a4,p,a5,c,a6,q,a7,r,a8,t,a9,u,b0,x,b1,y,b2,z,b3,A,b4,B,b5,C,b6,D,b7,E,b8,F,b9,G,c0,H,c1,I,c2,J,c3,L,c4,M,c5,N,c6,O,c7,P,c8,Q,c9,R,e0,S,e1,T,e3,U,e4,V,e5,fa,b,Ci,Ck,Cp,C0,C1,C2,C3,C4,C5,C6,C7⟩) ⟨j0,j1,j2,j3,j4,j5,j6,j7,j8,j9,e9,g0,g9,h0,h1,h2,h3,h4,h5,h6,h7,h8,h9,i0,i1,i2,i3,i4,i5,i6,i7,i8,i9,k0,k1,k2,k3,k4,k5,k6,k7,k8,k9,l0,l1,l2,l3,l4,e6,l5,l6,l7,l8,l9,m0,m1,m2,m3,m4,m5,m6,m7,m8,m9,n0,n1,n2,n3,n4,n5,n6,n7,n8,n9,o0,o1,o2,o3,o4,o5,o6,o7,o8,o9,p0,p2,p3,p4,p5,p6,p7,p8,p9,q0,q1,q3,q4,q5,q6⟩⟩
theorem walk{l:W.OpenLaw}{d:DefRec}{K:Params->Oa}(c:l.most=some 63)(b:d.params.defaults=[])(e:∀(w:Lq)(h:Heap),YP w h->(K w.params).In h)(F:∀(w:Lq)(mg:Str->Option V')(fa:γ)(h:Heap),(K w.params).In h->h.Ns K9 mg->mg d.name=some (.ref fa)->∃fd:δ,(∀(s:Sh)(u:V'),BindsTo s fd ⟨[u],[]⟩ [("_law_script",u)])/\∀base:Heap,(K w.params).In base->base.Ns K9 mg->Fi l.prog w (K w.params) mg base (CX1 l.prog w) 12 fa fd ["_law_script"] (Ic (K w.params))):W.WalkO q loose XP YP l.row.toRowW d [] (λf vs=>PySem.call f vs):=L2.qaF1 (n:=63) (k:=12) (x := "_law_script") (CX:=λw=>CX1 l.prog w) (sp:=λw=>Ic (K w.params)) c ∅ b ⟨λ_=>rfl,∅,∅⟩ e F (λ_ _ a g i _ j=>⟨a,g,rfl,j,i,λ_=>rfl⟩) λ_ _ _ _ _ ⟨_,_,_,_,_,_,_,_,z⟩=>z
end LV.My
open PySem PySem.W PyProof.Rows L2
local macro_rules | `(tactic| walk_at "u")=>`(tactic| (intro _ _ _ _ _ _;repeat' first|exact LV.ec0 (rfl)|refine LV.ec1 λ_=>?_))
local macro_rules | `(tactic| walk_at "d")=>`(tactic| (refine' LV.My.dfX (by assumption) (by assumption) ?a ?l ?c ?k ?b;(case a|l|c|k=>k_is);(case b=>walk_at "u")))
local macro_rules | `(tactic| walk_at "e")=>`(tactic| (refine' mdmk ?l ?c ?k ?a ?i ?b;(case a|i|l|c|k=>k_is);(case b=>walk_at "u")))
local macro_rules | `(tactic| walk_at "c")=>`(tactic| (refine' mg_of (by assumption) (by assumption) ?a;k_is))
local macro_rules | `(tactic| walk_at "z")=>`(tactic| (refine' mg_none_of (by assumption) (by assumption) ?a;k_is))
local macro_rules | `(tactic| walk_at "q")=>`(tactic| (first|k_is|kernel_rfl|rfl))
local macro_rules | `(tactic| walk_at "n")=>`(tactic| (show findIn _ _ _=some none;k_is))
local macro_rules | `(tactic| walk_at "x9")=>`(tactic| (refine⟨?_,?_,?_,?_,?_,?_,?_,?_,?_⟩<;>walk_at "q"))
local macro_rules | `(tactic| walk_at "ix")=>`(tactic| (refine⟨⟨?_,?_,?_,?_,?_,?_,?_,?_,?_⟩,?_,?_,?_⟩<;>walk_at "q"))
local macro_rules | `(tactic| walk_at "me")=>`(tactic| (refine⟨⟨?_,?_,?_,?_,?_,?_,?_,?_,?_⟩,?_,?_,?_,?_⟩<;>walk_at "q"))
theorem PySem.Challenge.cw_homeward_k41_looks_holds : PySem.Challenge.rw_homeward_k41_looks.Holds := by
 w_on;o_law;k_head;(case hw=>w_witness2)
 k_fill
 refine LV.My.walk (l:=PySem.Challenge.rw_homeward_k41_looks) rfl rfl (λw h Y=>PySem.W.kIn_of Y) ?F
 case F=>
 intro w g j h KX G f;refine' LV.My.qbc5 f ?j0 ?j1 ?j2 ?j3 ?j4 ?j5 ?j6 ?j7 ?j8 ?j9 ?j10 ?j11 ?j12 ?j13 ?j14 ?j15 ?j16 ?j17 ?j18 ?j19 ?j20 ?j21 ?j22 ?j23 ?j24 ?j25 ?j26 ?j27 ?j28 ?j29 ?j30 ?j31 ?j32 ?j33 ?j34 ?j35 ?j36 ?j37 ?j38 ?j39 ?j40 ?j41 ?j42 ?j43 ?j44 ?j45 ?j46 ?j47 ?j48 ?j49 ?j50 ?j51 ?j52 ?j53 ?j54 ?j55 ?j56 ?j57 ?j58 ?j59 ?j60 ?j61 ?j62 ?j63 ?j64 ?j65 ?j66 ?j67 ?j68 ?j69 ?j70 ?j71 ?j72 ?j73 ?j74 ?j75 ?j76 ?j77 ?j78 ?j79 ?j80 ?j81 ?j82 ?j83 ?j84 ?j85 ?j86 ?j87 ?j88 ?j89 ?j90 ?j91 ?j92 ?j93 ?j94 ?j95 ?j96 ?j97 ?j98 ?hb
 case j49|j50|j51|j82|j83|j95|j96|j97|j98=>walk_at "c"
 case j69|j76=>refine' ⟨⟨?_,?_,?_,?_⟩,mg_of (by assumption) (by assumption) ?a⟩;(case a=>k_is);k_is;k_is;k_is;k_is
 case j0|j2|j3|j4|j5|j6|j7|j14|j15|j16|j17|j18|j24|j25|j26|j27|j28|j29|j30|j31|j32|j33|j34|j35|j36|j37|j38|j39|j40|j41|j42|j43|j44|j45|j46|j47|j48=>walk_at "d"
 case j1|j8|j9|j10|j11|j12|j13|j20|j21|j22|j23=>walk_at "e"
 case j19=>refine' LV.mdmkN ?l ?c ?k ?a ?i ?t ?b ?bn;(case a|i|l|c|k|t=>k_is);(case b=>intro _ _ _ _ _ _;repeat' first|exact LV.ec0 (⟨_,rfl,rfl⟩)|refine LV.ec1 λ_=>?_);(case bn=>intro _ _ _ _ _ _;refine LV.ec2 ?_;repeat' first|exact LV.ec0 (⟨_,rfl,rfl⟩)|refine LV.ec1 λ_=>?_)
 case j52|j53|j54|j55|j56|j57|j58|j59|j60|j61|j62|j63|j64|j65|j66|j67|j68=>walk_at "z"
 case j71|j72|j73|j74|j78|j79|j80|j87=>walk_at "n"
 case j75|j81=>refine⟨?_,?_,?_,?_,kf_of ?_ ?_ ?_ ?_ ?_ ?_ ?_⟩<;>walk_at "q"
 case j84=>walk_at "x9"
 case j85|j89|j90|j91|j92|j93|j94=>walk_at "q"
 case j88=>walk_at "ix"
 case j70|j77=>refine⟨?_,?_,?_,?_⟩<;>k_is
 case j86=>walk_at "me"
 case hb=>exact λs v=>.of_eq rfl
#print axioms PySem.Challenge.cw_homeward_k41_looks_holds
