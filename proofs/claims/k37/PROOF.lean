import PyProof.Rows.All
import Wide.All
import OpenK.AllK
import Wide.FinOn
import Lean
import PyProof.EqAt
import PyProof.EqKinds
import PyProof.TupleCall
import PyProof.CompFree
import KE.KIsAll
import PyProof.AttrMiss
import PyProof.IsiH_list
import KE.KDictOf
import PyProof.ConsumeWalk
import PyProof.Rows.SetFrom
import PyProof.NeKinds
import PyProof.AutoListH
import PyProof.EnumMake
import PyProof.EnumFor
import PyProof.EnumStmt
import PyProof.LayNew
import PyProof.Rows.EnumRows
import KE.KDictList
import PySem.Challenge.RW_homeward_k37_whole_line_hangs
def zA0:=@List.count_append
def zA1:=@Option.bind_eq_some_iff
def zA2:=@Nat.le_refl
def zA3:=@PySem.Heap.get?_push_of_some
def zA4:=@List.size_toArray
def zA5:=@List.getElem?_eq_some_iff
def zA6:=@List.mem_cons_of_mem
def zA7:=@List.length_append
def zA8:=@List.mem_singleton
def zA9:=@List.mem_cons_self
def zAa:=@List.length_map
def zAb:=@List.mem_append
def zAc:=@PySem.Heap.lt_size
def zAd:=@List.append_nil
def zAe:=@Option.map_eq_some_iff
def zAf:=@of_decide_eq_true
def zAg:=@Nat.lt_of_lt_of_le
def zAh:=@Bool.and_eq_true_iff
def zAi:=@List.append_assoc
def zAj:=@Bool.false_ne_true
def zAk:=@List.length_cons
def zAl:=@List.count_cons
def zAm:=@List.mem_cons
def zAn:=@Nat.le_trans
def zAo:=@Nat.zero_add
def zAp:=@List.mem_append_right
def zAq:=@decide_eq_true
def zAr:=@Nat.ne_of_lt
def zAs:=@List.take_of_length_le
def zAt:=@List.getElem?_append_left
def zAu:=@List.lookup_cons
def zAv:=@List.mem_range
def zAw:=@List.mem_filter
def zAx:=@List.map_cons
def zAy:=@List.length_eq_zero_iff
def zAz:=@List.nil_append
def zB0:=@PySem.Heap.get?_push_size
def zB1:=@Array.length_toList
def zB2:=@List.forall_mem_cons
def zB3:=@Array.toList_append
def zB4:=@Option.isSome_iff_exists
def zB5:=@decide_eq_true_eq
def zB6:=@List.cons_merge_cons
def zB7:=@List.sublist_append_left
def zB8:=@List.getElem?_map
def zB9:=@List.length_range
def zBa:=@List.mem_of_getElem?
def zBb:=@decide_eq_false
def zBc:=@List.mem_map
def zBd:=@List.take_append_drop
def zBe:=@List.all_eq_true
def zBf:=@PySem.Heap.get?_update_other
def zBg:=@Bool.and_eq_true
def zBh:=@List.replicate_succ
def zBi:=@List.nodup_append
def zBj:=@List.map_map
def zBk:=@List.getElem?_set_ne
def zBl:=@List.cons_append
def zBm:=@beq_self_eq_true
def zBn:=@List.perm_ext_iff_of_nodup
def zBo:=@Array.perm_iff_toList_perm
def zBp:=@List.forall_mem_append
def zBq:=@List.map_append
def zBr:=@List.pairwise_append
def zBs:=@List.find?_cons
def zBt:=@Nat.zero_le
def zBu:=@List.filterMap_cons
def zBv:=@List.not_mem_nil
def zBw:=@List.length_take
def zBx:=@Int.emod_lt_of_pos
def zBy:=@of_decide_eq_false
def zBz:=@Nat.lt_irrefl
def zC0:=@List.take_sublist
def zC1:=@List.flatten_cons
def zC2:=@beq_iff_eq
def zC3:=@List.pairwise_map
def zC4:=@List.filter_cons_of_pos
def zC5:=@beq_eq_false_iff_ne
def zC6:=@List.filter_cons_of_neg
def zC7:=@Nat.le_of_not_lt
def zC8:=@Nat.lt_succ_self
def zC9:=@List.findIdx?_cons
def zCa:=@List.length_nil
def zCb:=@List.nodup_cons
def zCc:=@Nat.le_of_eq
def zCd:=@Int.emod_nonneg
def zCe:=@List.any_cons
set_option Elab.async false
set_option linter.all false
set_option maxRecDepth 100000
namespace PySem.W.Fast
theorem tw6800944687790272049 : True := trivial
theorem tw15234132037528172738 : True := trivial
theorem tw6759555762203650683 : True := trivial
theorem tw9622772728393089484 : True := trivial
theorem tw3499916161943751893 : True := trivial
theorem tw11813450842120755648 : True := trivial
theorem tw5366948374291550641 : True := trivial
theorem tw18362121552687988052 : True := trivial
theorem tw6575437771128046382 : True := trivial
theorem tw12470802677616153388 : True := trivial
theorem tw13613194683474893902 : True := trivial
theorem tw3379514228368154966 : True := trivial
theorem tw10592896144949708976 : True := trivial
theorem tw9102527143689801054 : True := trivial
theorem tw3411054754135994693 : True := trivial
theorem tw7202988084286862949 : True := trivial
theorem tw1140045318090507597 : True := trivial
theorem tw13360720629353894851 : True := trivial
theorem tw4419274922259914714 : True := trivial
theorem tw1707992921556289119 : True := trivial
theorem tw10265437548676180776 : True := trivial
theorem tw1280683147539124685 : True := trivial
theorem tw14569116630837967767 : True := trivial
theorem tw5212720116005743955 : True := trivial
theorem tw6628587819181553528 : True := trivial
theorem tw5425199250855008558 : True := trivial
theorem tw2269427164103957520 : True := trivial
theorem tw11642035428234865596 : True := trivial
theorem tw9801999264384315137 : True := trivial
theorem tw16936877715009142627 : True := trivial
theorem tw5045312777690533286 : True := trivial
theorem tw7385960093839090797 : True := trivial
theorem tw10762272404125916869 : True := trivial
theorem tw5725260179610810652 : True := trivial
theorem tw4573968373799445857 : True := trivial
theorem tw7835166238373530579 : True := trivial
theorem tw3201414129494512601 : True := trivial
theorem tw8405274426917715864 : True := trivial
theorem tw1437394701740036553 : True := trivial
theorem tw1578427436484022424 : True := trivial
theorem tw12602683148757907336 : True := trivial
theorem tw11331058215714846561 : True := trivial
theorem tw8250559541603807070 : True := trivial
theorem tw1544593273942308065 : True := trivial
theorem tw10280670076302952393 : True := trivial
theorem tw7413993654493173021 : True := trivial
theorem tw921628589819773842 : True := trivial
theorem tw4263061143040736418 : True := trivial
theorem tw10308822594891941812 : True := trivial
theorem tw16377794931464434000 : True := trivial
theorem tw14049289104879936039 : True := trivial
theorem tw8126822666082123760 : True := trivial
theorem tw607568640205316459 : True := trivial
theorem tw12116643411726887582 : True := trivial
theorem tw4774793109560625562 : True := trivial
theorem tw10618131165326732569 : True := trivial
theorem tw17317060713717691839 : True := trivial
theorem tw4493259892608418793 : True := trivial
theorem tw4930764337768361240 : True := trivial
theorem tw9308222043457063784 : True := trivial
theorem tw12630439816067484587 : True := trivial
theorem tw15562179438185137162 : True := trivial
theorem tw11122881699035685559 : True := trivial
theorem tw14551629866634885545 : True := trivial
theorem tw15034862920066634963 : True := trivial
theorem tw5798745937748806221 : True := trivial
theorem tw10484118649762659376 : True := trivial
theorem tw8217173055693233399 : True := trivial
theorem tw69885437653460962 : True := trivial
theorem tw17562011731637987537 : True := trivial
theorem tw5391472010832877387 : True := trivial
theorem tw15489693257865814508 : True := trivial
theorem tw16632856420917223707 : True := trivial
theorem tw14087063614002348821 : True := trivial
theorem tw15624083208626793655 : True := trivial
theorem tw8586291312527175951 : True := trivial
theorem tw10211536527256312988 : True := trivial
theorem tw17505836943990403793 : True := trivial
theorem tw2057808605150850297 : True := trivial
theorem tw2717418861335117202 : True := trivial
theorem tw14137186660210713805 : True := trivial
theorem tw15924730333516909816 : True := trivial
theorem tw279346495732261208 : True := trivial
theorem tw2787225650238376152 : True := trivial
theorem tw6344665494381625953 : True := trivial
theorem tw12344804828449163834 : True := trivial
theorem tw2103457147777302184 : True := trivial
theorem tw18194294917392128674 : True := trivial
theorem tw13950907598792316379 : True := trivial
theorem tw11278688150293861005 : True := trivial
theorem tw1028734384623292364 : True := trivial
theorem tw7407667307880555122 : True := trivial
theorem tw11791276619407234846 : True := trivial
theorem tw3234201169603422459 : True := trivial
theorem tw9019048808726314366 : True := trivial
theorem tw12457990668723819808 : True := trivial
theorem tw11014954522402144998 : True := trivial
theorem tw6491793680018829482 : True := trivial
theorem tw5370908412491821094 : True := trivial
theorem tw9382388322528869550 : True := trivial
theorem tw4823996112457381091 : True := trivial
theorem tw18410628532513098127 : True := trivial
theorem tw17536364416539706715 : True := trivial
theorem tw14613397752544122367 : True := trivial
theorem tw8875031648673259877 : True := trivial
theorem tw2968319845354078079 : True := trivial
theorem tw8298950038033449118 : True := trivial
theorem tw16063154495998051655 : True := trivial
theorem tw5028450575700188968 : True := trivial
theorem tw15354793127729171820 : True := trivial
theorem tw5040706913527710895 : True := trivial
theorem tw2760702642385542963 : True := trivial
theorem tw12066997421560030028 : True := trivial
theorem tw14808451777170892400 : True := trivial
theorem tw14151551015315839641 : True := trivial
theorem tw13535149498584763680 : True := trivial
theorem tw5476747319990305613 : True := trivial
theorem tw5390452198168150457 : True := trivial
theorem tw11748451570441888704 : True := trivial
theorem tw11026572019769113719 : True := trivial
theorem tw3444823782647750218 : True := trivial
theorem tw9009373370636602661 : True := trivial
theorem tw17416316260067321183 : True := trivial
theorem tw15543217768735593024 : True := trivial
theorem tw17088669165614027618 : True := trivial
theorem tw8097566726516061728 : True := trivial
theorem tw12364860101879247540 : True := trivial
theorem tw256941163091396781 : True := trivial
theorem tw6587905233168277327 : True := trivial
theorem tw2240632860714032917 : True := trivial
theorem tw14357483655802779199 : True := trivial
theorem tw10875587846287842625 : True := trivial
theorem tw812913372198037129 : True := trivial
theorem tw837405834144053609 : True := trivial
theorem tw12760901430464983080 : True := trivial
theorem tw196779762339895791 : True := trivial
theorem tw15837564250479011219 : True := trivial
theorem tw13645949589424877177 : True := trivial
theorem tw10024372191540769475 : True := trivial
theorem tw12535545558203169031 : True := trivial
theorem tw5372371935325058448 : True := trivial
theorem tw4075363779618181208 : True := trivial
theorem tw2544304690108491965 : True := trivial
theorem tw16649094456816154148 : True := trivial
theorem tw9205149076295062174 : True := trivial
theorem tw15567902334957949453 : True := trivial
theorem tw14747537407021294552 : True := trivial
theorem tw5556711361360233904 : True := trivial
theorem tw3350029863669395257 : True := trivial
theorem tw2130876628060918879 : True := trivial
theorem tw13870375299982222928 : True := trivial
theorem tw11617838798530506761 : True := trivial
theorem tw10762545080826503363 : True := trivial
theorem tw13845060250411486533 : True := trivial
theorem tw9506930291300536582 : True := trivial
theorem tw17612430120199271566 : True := trivial
theorem tw13555484219575497220 : True := trivial
theorem tw1472885067417708276 : True := trivial
theorem tw17835145128146572721 : True := trivial
theorem tw2180604555642776183 : True := trivial
theorem tw17559010438105790242 : True := trivial
theorem tw12559072055797947335 : True := trivial
theorem tw894707354486920954 : True := trivial
theorem tw6798195761305916610 : True := trivial
theorem tw15007235065858178716 : True := trivial
theorem tw10271728617496596583 : True := trivial
theorem tw8356166773786803928 : True := trivial
theorem tw1427649469173964802 : True := trivial
theorem tw16502961765078876647 : True := trivial
theorem tw6530244684982870944 : True := trivial
theorem tw10239011342266155537 : True := trivial
theorem tw5781258660622782818 : True := trivial
theorem tw2694428426921176806 : True := trivial
theorem tw4998484224311313853 : True := trivial
theorem tw9540227276427878446 : True := trivial
theorem tw6068170966563651005 : True := trivial
theorem tw3365316599715066458 : True := trivial
theorem tw13003924994831142198 : True := trivial
theorem tw218621271446478920 : True := trivial
theorem tw12961094923901088781 : True := trivial
theorem tw5621978296998093460 : True := trivial
theorem tw9679852460786219152 : True := trivial
theorem tw5611401294512828135 : True := trivial
theorem tw3398185804755603598 : True := trivial
theorem tw17842673872796573349 : True := trivial
theorem tw16410196739432400414 : True := trivial
theorem tw1079518980443550124 : True := trivial
theorem tw5122837656586763160 : True := trivial
theorem tw10150998396120178494 : True := trivial
theorem tw5494315871181013887 : True := trivial
theorem tw4440219441087787619 : True := trivial
theorem tw6141447222054634250 : True := trivial
theorem tw17209546937759654228 : True := trivial
theorem tw11107804638092849326 : True := trivial
theorem tw5962315212167374840 : True := trivial
theorem tw17230283636139693102 : True := trivial
theorem tw14334034467563229240 : True := trivial
theorem tw13736925529952297876 : True := trivial
theorem tw17895941924010652226 : True := trivial
theorem tw12637332609327143726 : True := trivial
theorem tw3684000534367076077 : True := trivial
theorem tw4747227342791405307 : True := trivial
theorem tw2935082717246122492 : True := trivial
theorem tw17250120431855385408 : True := trivial
theorem tw711100447822945969 : True := trivial
theorem tw10743529950895572698 : True := trivial
theorem tw4577567657573197865 : True := trivial
theorem tw3013319864864362694 : True := trivial
theorem tw5179976995917808819 : True := trivial
theorem tw17651383006125611796 : True := trivial
theorem tw14135811075973991889 : True := trivial
theorem tw604988392667213585 : True := trivial
theorem tw5701915215252920568 : True := trivial
theorem tw15000202097771670709 : True := trivial
theorem tw64628489183171350 : True := trivial
theorem tw5452190753363775463 : True := trivial
theorem tw4247278449520084360 : True := trivial
theorem tw2746932206585827744 : True := trivial
theorem tw9988753156771851953 : True := trivial
theorem tw9319954412691654881 : True := trivial
theorem tw8215994607511996450 : True := trivial
theorem tw5067137853795801441 : True := trivial
theorem tw16169591635601263337 : True := trivial
theorem tw14955153693679295681 : True := trivial
theorem tw14866203652142127749 : True := trivial
theorem tw14273408702666279297 : True := trivial
theorem tw1205969747736432103 : True := trivial
theorem tw11775728862671964385 : True := trivial
theorem tw17283677420643142070 : True := trivial
theorem tw16100518092396755638 : True := trivial
theorem tw17207304220806151120 : True := trivial
theorem tw2743783057055062204 : True := trivial
theorem tw9318432338817803915 : True := trivial
theorem tw8446799595836644737 : True := trivial
theorem tw3850940015842825217 : True := trivial
theorem tw13431423852583375287 : True := trivial
theorem tw10011399554620363625 : True := trivial
theorem tw16788789479842774372 : True := trivial
theorem tw14035234300160558696 : True := trivial
theorem tw17608167323740107215 : True := trivial
theorem tw8028713810715528506 : True := trivial
theorem tw6039871753048788124 : True := trivial
theorem tw17240109833430743196 : True := trivial
theorem tw5659069076811456121 : True := trivial
theorem tw9386759936755871949 : True := trivial
theorem tw7609268277509047852 : True := trivial
theorem tw4924149019040644316 : True := trivial
theorem tw2919491232670532015 : True := trivial
theorem tw17784213457038728962 : True := trivial
theorem tw16799040369118618738 : True := trivial
theorem tw14932774814842170270 : True := trivial
theorem tw14639257779503076785 : True := trivial
theorem tw1450450755803041544 : True := trivial
theorem tw11499133933570890986 : True := trivial
theorem tw7213236954367726119 : True := trivial
theorem tw6288070342446052669 : True := trivial
theorem tw6162115911185814223 : True := trivial
theorem tw5497876127347195304 : True := trivial
theorem tw4842969802713579699 : True := trivial
theorem tw1820622191520368395 : True := trivial
theorem tw1794010981028286597 : True := trivial
theorem tw17797010929154867427 : True := trivial
theorem tw17552935452121015661 : True := trivial
theorem tw17546166689557186662 : True := trivial
theorem tw15563373568463788129 : True := trivial
theorem tw15112384037223685254 : True := trivial
theorem tw15031343266416062785 : True := trivial
theorem tw13635369286104078579 : True := trivial
theorem tw12145579566944118039 : True := trivial
theorem tw11675458055156192728 : True := trivial
theorem tw2236689289772962847 : True := trivial
theorem tw2490965900934796682 : True := trivial
theorem tw12575388451623460039 : True := trivial
theorem tw2510375802941719289 : True := trivial
theorem tw2903043348509275036 : True := trivial
theorem tw18304566039112267711 : True := trivial
theorem tw17714003252420279207 : True := trivial
theorem tw1182905435300899425 : True := trivial
theorem tw8996258630661310973 : True := trivial
theorem tw16291118352374322098 : True := trivial
theorem tw1423456989059328169 : True := trivial
theorem tw11982111696860926356 : True := trivial
theorem tw10017921636479641959 : True := trivial
theorem tw13847928848030424662 : True := trivial
theorem tw2834493277526111642 : True := trivial
theorem tw7656779255109183410 : True := trivial
theorem tw12184924238131334010 : True := trivial
theorem tw13253184517908036556 : True := trivial
theorem tw16036433240426174400 : True := trivial
theorem tw4460078360597372162 : True := trivial
theorem tw15435458532146285735 : True := trivial
theorem tw10464511883526561356 : True := trivial
theorem tw9887876709186655648 : True := trivial
theorem tw17734506330733770058 : True := trivial
theorem tw13811238373285147426 : True := trivial
theorem tw11968933631748187427 : True := trivial
end PySem.W.Fast
namespace L2
open PySem PySem.Spec PyProof.Rows
variable{M:Model}{N:List Str}{base:Heap}{body:List Stmt}{ch fp:List Addr}{i n t':Nat}{kw:List (Str×Value)}{mg:Str->Option Value}{op:CmpOp}{pl:Sem Bool}{us:List Value}
abbrev Key:=Sum Int Str
def Eh:Key->Value->Bool
 | .inl k,v=>Value.isInt k v
 | .inr x,v=>Value.isStrOf x v
def keyH(w:World):Key->Int
 | .inl k=>hashInt k
 | .inr x=>hashStr w x
theorem qc4:∀{k:Key}{v:Value},Eh k v=true->(∃ i t,k=Sum.inl i/\v=Value.int i t)∨(∃ x t,k=Sum.inr x/\v=Value.str x t)
 | .inl i,v,h=>by
   obtain⟨t,e⟩:=Value.isInt_shape (k:=i) (v:=v) h;exact .inl ⟨i,t,rfl,e⟩
 | .inr x,v,h=>by
   obtain⟨t,e⟩:=Value.isStrOf_shape (x:=x) (v:=v) h;exact .inr ⟨x,t,rfl,e⟩
theorem qag3(i:Int)(t:Tok):Eh (.inl i) (.int i t)=true:=by simp[Eh,Value.isInt]
theorem qag2(x:Str)(t:Tok):Eh (.inr x) (.str x t)=true:=by simp[Eh,Value.isStrOf]
theorem qaK8(a b:Int):decide ((Sum.inl a:Key)=Sum.inl b)=(a == b):=by
 by_cases e:a=b
 . subst e;simp
 have h:¬ (Sum.inl a:Key)=Sum.inl b:=λ q=>e (Sum.inl.inj q)
 rw[zBb h];exact(zC5.mpr e).symm
theorem qaK5(a b:Str):decide ((Sum.inr a:Key)=Sum.inr b)=decide (a=b):=by
 by_cases e:a=b
 . subst e;simp
 have h:¬ (Sum.inr a:Key)=Sum.inr b:=λ q=>e (Sum.inr.inj q)
 rw[zBb h,zBb e]
theorem qaK7(a:Int)(b:Str):decide ((Sum.inl a:Key)=Sum.inr b)=false:=zBb (λ q=>nomatch q)
theorem qaK6(a:Str)(b:Int):decide ((Sum.inr a:Key)=Sum.inl b)=false:=zBb (λ q=>nomatch q)
def qe1(prog:Program)(w:World):PySem.KeyKind prog w Key where
 is:=Eh
 hash:=keyH w
 inj:=λ v a b ha hb=>by
   rcases qc4 ha with⟨i,t,rfl,rfl⟩ | ⟨x,t,rfl,rfl⟩
   . rcases qc4 hb with⟨j,u,rfl,e⟩ | ⟨y,u,rfl,e⟩
     . injection e with e1 _;rw[e1]
     exact nomatch e
   rcases qc4 hb with⟨j,u,rfl,e⟩ | ⟨y,u,rfl,e⟩
   . exact nomatch e
   injection e with e1 _;rw[e1]
 byValue:=λ k v h=>by
   rcases qc4 h with⟨i,t,rfl,rfl⟩ | ⟨x,t,rfl,rfl⟩<;>rfl
 pyHash:=λ hv h=>by
   rcases qc4 hv with⟨i,t,rfl,rfl⟩ | ⟨x,t,rfl,rfl⟩
   . exact wpAny_pyHash_int h
   exact wpAny_pyHash_str h
 eqBool:=λ hu hv h=>by
   rcases qc4 hu with⟨i,t,rfl,rfl⟩ | ⟨x,t,rfl,rfl⟩
   . rcases qc4 hv with⟨j,u,rfl,rfl⟩ | ⟨y,u,rfl,rfl⟩
     . rw[qaK8] at h;exact wpAny_eqBool_int h
     rw[qaK7] at h;exact SeqAt.EqAt.int_str i t y u _ _ _ _ h
   rcases qc4 hv with⟨j,u,rfl,rfl⟩ | ⟨y,u,rfl,rfl⟩
   . rw[qaK6] at h;exact SeqAt.EqAt.str_int x t j u _ _ _ _ h
   rw[qaK5] at h;exact wpAny_eqBool_str h
 «strs»:=λ k x t v h=>by
   rcases qc4 h with⟨i,u,rfl,e⟩ | ⟨y,u,rfl,e⟩
   . exact nomatch e
   injection e with e1 _
   subst e1;cases v<;>rfl
theorem qS9(prog:Program)(w:World)(i:Int)(t:Tok):(qe1 prog w).is (.inl i) (.int i t)=true:=qag3 i t
theorem qS8(prog:Program)(w:World)(x:Str)(t:Tok):(qe1 prog w).is (.inr x) (.str x t)=true:=qag2 x t
inductive V where
 | non | bl (b:Bool) | int (i:Int) | str (x:Str) | byt (b:Array UInt8) | flt (b:UInt64) | ref (a:Addr) | ty (n:String)
 deriving DecidableEq
def RelV:V->Value->Prop
 | .non,u=>u=Value.none
 | .bl b,u=>u=Value.bool b
 | .int i,u=>∃ t,u=Value.int i t
 | .str x,u=>∃ t,u=Value.str x t
 | .byt b,u=>∃ t,u=Value.bytes b t
 | .flt b,u=>∃ t,u=Value.float b t
 | .ref a,u=>u=Value.ref a
 | .ty n,u=>u=Value.type n
abbrev Vals:List V->List Value->Prop:=Paired RelV
theorem Vals.length{xs:List V}(r:Vals xs us):xs.length=us.length:=Paired.length r
theorem Vals.get:∀{xs:List V}{us:List Value}{i:Nat}{x:V},Vals xs us->xs[i]? = some x->∃ u,us[i]? = some u/\RelV x u
 | _,_,_,_,.nil,e=>by simp at e
 | _,_,0,_,.cons r _,e=>by simp at e;subst e;exact⟨_,rfl,r⟩
 | _,_,i+1,x,.cons _ t,e=>by
   obtain⟨u,h1,h2⟩:=Vals.get (i:=i) (x:=x) t (by simpa using e);exact⟨u,by simpa using h1,h2⟩
theorem Vals.set{x:V}{u:Value}(r:RelV x u):∀{xs:List V}{us:List Value}(i:Nat),Vals xs us->Vals (xs.set i x) (us.set i u)
 | _,_,_,.nil=>.nil
 | _,_,0,.cons _ t=>.cons r t
 | _,_,i+1,.cons q t=>.cons q (Vals.set r i t)
theorem Vals.append:∀{xs ys:List V}{us ws:List Value},Vals xs us->Vals ys ws->Vals (xs++ys) (us++ws)
 | _,_,_,_,.nil,s=>s
 | _,_,_,_,.cons r t,s=>.cons r (Vals.append t s)
theorem Vals.take:∀{xs:List V}{us:List Value}(n:Nat),Vals xs us->Vals (xs.take n) (us.take n)
 | _,_,0,_=>.nil
 | _,_,_+1,.nil=>.nil
 | _,_,n+1,.cons r t=>.cons r (Vals.take n t)
theorem Vals.drop:∀{xs:List V}{us:List Value}(n:Nat),Vals xs us->Vals (xs.drop n) (us.drop n)
 | _,_,0,r=>r
 | _,_,_+1,.nil=>.nil
 | _,_,n+1,.cons _ t=>Vals.drop n t
def RelO:Option V->Option Value->Prop
 | some v,some u=>RelV v u
 | none,none=>True
 | _,_=>False
def KV{κ:Type}:List (κ×V)->List (κ×Value)->Prop:=Paired λ(p:κ×V)(q:κ×Value)=>p.1=q.1/\RelV p.2 q.2
def kV:Key->V
 | .inl i=>.int i
 | .inr x=>.str x
inductive HO where
   | lst (xs:List V)
   | tup (xs:List V)
   | dK (kvs:List (Key×V)) | dT (kvs:List (List Key×V))
   | set (S:Int->Bool) (n:Nat)
   | ins (C dx:Addr) (fs:List (Str×V))
   | own (x:Addr)
   | xd (fs:List (Str×V))
   | met (f x:Addr)
   | rng (lo hi:Int)
   | frz (o:Obj) (u:HO)
   | tbl (ps:Array Value)
   | ext (φ:Heap->Prop)
abbrev Hp:=Addr->Option HO
def upd(H:Hp)(a:Addr)(o:HO):Hp:=λ b=>if b=a then some o else H b
theorem qb8{H:Hp}{a:Addr}{o:HO}:upd H a o a=some o:=by unfold upd;rw[if_pos rfl]
theorem qc7{H:Hp}{a b:Addr}{o:HO}(h:b≠a):upd H a o b=H b:=by unfold upd;rw[if_neg h]
theorem qav1{H:Hp}{a:Addr}{o u:HO}:upd (upd H a o) a u=upd H a u:=by
 funext b;unfold upd;split<;>rfl
theorem ne_of{H:Hp}{a b:Addr}{o u:HO}(h:H a=some o)(h':H b=some u)(d:o≠u):a≠b:=by
 intro e;subst e;rw[h] at h';exact d (Option.some.inj h')
theorem qd6{H:Hp}{a b:Addr}{o:HO}(h:H a=some o)(h':H b=none):a≠b:=by
 intro e;subst e;rw[h] at h';cases h'
section
variable(P:Program)(w:World)
def ObjOk(H:Hp)(h:Heap)(a:Addr):HO->Prop
 | .lst xs=>xs.length<=sizeLine/\∃(its:List Value)(n:Nat),Vals xs its/\h.get? a=some { cls:=.type "list",data:=.seq its.toArray n }
 | .tup xs=>xs.length<=sizeLine/\∃ its:List Value,Vals xs its/\IsTup h a its.toArray
 | .dK kvs=>kvs.length<=sizeLine/\(a == sysModules)=false/\∃ vs,KV kvs vs/\h.DictOf (qe1 P w) a vs
 | .dT kvs=>kvs.length<=sizeLine/\(a == sysModules)=false/\∃ xs:List (List Key×Addr×Value),
     Paired (λ(p:List Key×V)(q:List Key×Addr×Value)=>p.1=q.1/\H q.2.1=some (.tup (p.1.map kV))/\RelV p.2 q.2.2) kvs xs /\
     ∃ o es ep,h.get? a=some o/\o.ExactDict/\o.data=.dict es ep/\es.toList=xs.map (entryOfKey (tupleKind (qe1 P w)))/\(xs.map (·.1)).Nodup
 | .set S n=>h.SetOf (intKind P w) a S n
 | .ins C dx fs=>H dx=some (.own a)/\fs.length<=1000/\dx≠a/\h.get? a=some (PySem.W.instObj C dx) /\
     ∃ mA,h.Ns1 dx mA/\(∀ f,RelO (fs.lookup f) (mA f))/\PySem.Within mA (fs.map (·.1))
 | .own _=>∃ o,h.get? a=some o
 | .xd fs=>∃ mA,h.Ns1 a mA/\∀ f,RelO (fs.lookup f) (mA f)
 | .rng lo hi=>∃ t u v,h.get? a=some { cls:=.type "range",data:=.fields #[.int lo t,.int hi u,.int 1 v] }
 | .frz o u=>h.get? a=some o/\ObjOk H h a u
 | .tbl ps=>h.get? a=some { cls:=.none,data:=.fields ps }
 | .met f x=>h.get? a=some (PySem.W.methodObj (.ref f) (.ref x))
 | .ext φ=>φ h/\(∃ o,h.get? a=some o)/\∀ h1 h2:Heap,φ h1->(∀ o,h1.get? a=some o->h2.get? a=some o)->φ h2
def HOk(H:Hp)(h:Heap):Prop:=∀ a o,H a=some o->ObjOk P w H h a o
end
section
variable{P:Program}{w:World}{H H':Hp}{h h':Heap}{a:Addr}{o:HO}
theorem ObjOk.lt(x:ObjOk P w H h a o):a < h.objs.size:=by
 cases o with
 | lst xs=>obtain⟨_,_,_,_,e⟩:=x;exact zAc e
 | tup xs=>obtain⟨_,_,_,p⟩:=x;exact p.lt
 | dK kvs=>obtain⟨_,_,_,_,o,_,_,e,_⟩:=x;exact zAc e
 | dT kvs=>obtain⟨_,_,_,_,o,_,_,e,_⟩:=x;exact zAc e
 | set S n=>obtain⟨o,_,_,_,e,_⟩:=x;exact zAc e
 | ins C dx fs=>obtain⟨_,_,_,e,_⟩:=x;exact zAc e
 | own y=>obtain⟨_,e⟩:=x;exact zAc e
 | xd fs=>obtain⟨_,⟨_,_,_,e,_⟩,_⟩:=x;exact zAc e
 | rng lo hi=>obtain⟨_,_,_,e⟩:=x;exact zAc e
 | frz ob u=>obtain⟨e,_⟩:=x;exact zAc e
 | tbl ps=>exact zAc (show h.get? a=some _ from x)
 | met f y=>exact zAc (show h.get? a=some _ from x)
 | ext φ=>obtain⟨_,⟨_,e⟩,_⟩:=x;exact zAc e
theorem Paired.mapP{α β:Type}{F G:α->β->Prop}:∀{l₁:List α}{l₂:List β},Paired F l₁ l₂->(∀ a b,F a b->G a b)->Paired G l₁ l₂
 | _,_,.nil,_=>.nil
 | _,_,.cons r t,f=>.cons (f _ _ r) (Paired.mapP t f)
theorem ObjOk.stay(x:ObjOk P w H h a o)(k:∀ b u,(b=a∨H b=some (.own a))->h.get? b=some u->h'.get? b=some u)(ho:∀ b,H b=some (.own a)->H' b=some (.own a))(ht:∀ b xs,H b=some (.tup xs)->H' b=some (.tup xs)):ObjOk P w H' h' a o:=by
 induction o with
 | lst xs=>obtain⟨z,its,n,r,e⟩:=x;exact⟨z,its,n,r,k _ _ (.inl rfl) e⟩
 | tup xs=>obtain⟨z,its,r,ob,e,c⟩:=x;exact⟨z,its,r,ob,k _ _ (.inl rfl) e,c⟩
 | dK kvs=>obtain⟨z,y,vs,r,ob,es,ep,e,c⟩:=x;exact⟨z,y,vs,r,ob,es,ep,k _ _ (.inl rfl) e,c⟩
 | dT kvs =>
   obtain⟨z,y,xs,r,ob,es,ep,e,c⟩:=x;exact⟨z,y,xs,Paired.mapP r λ p q z=>⟨z.1,ht _ _ z.2.1,z.2.2⟩,ob,es,ep,k _ _ (.inl rfl) e,c⟩
 | set S n=>obtain⟨ob,es,ep,t,e,c⟩:=x;exact⟨ob,es,ep,t,k _ _ (.inl rfl) e,c⟩
 | ins C dx fs =>
   obtain⟨d,z,ne,e,mA,⟨od,es,ep,e2,c⟩,r⟩:=x;exact⟨ho _ d,z,ne,k _ _ (.inl rfl) e,mA,⟨od,es,ep,k _ _ (.inr d) e2,c⟩,r⟩
 | own y=>obtain⟨ob,e⟩:=x;exact⟨ob,k _ _ (.inl rfl) e⟩
 | xd fs=>obtain⟨mA,⟨od,es,ep,e,c⟩,r⟩:=x;exact⟨mA,⟨od,es,ep,k _ _ (.inl rfl) e,c⟩,r⟩
 | rng lo hi=>obtain⟨t,u,v,e⟩:=x;exact⟨t,u,v,k _ _ (.inl rfl) e⟩
 | frz ob u ih=>obtain⟨e,q⟩:=x;exact⟨k _ _ (.inl rfl) e,ih q⟩
 | tbl ps =>
   have e:h.get? a=some { cls:=.none,data:=.fields ps }:=x;show h'.get? a=some { cls:=.none,data:=.fields ps };exact k a _ (.inl rfl) e
 | met f y =>
   have e:h.get? a=some (PySem.W.methodObj (.ref f) (.ref y)):=x;show h'.get? a=some (PySem.W.methodObj (.ref f) (.ref y));exact k a _ (.inl rfl) e
 | ext φ=>obtain⟨p,⟨o,e⟩,st⟩:=x;exact⟨st _ _ p λ o q=>k _ _ (.inl rfl) q,⟨o,k _ _ (.inl rfl) e⟩,st⟩
theorem HOk.lt(x:HOk P w H h)(e:H a=some o):a < h.objs.size:=(x a o e).lt
theorem HOk.fresh(x:HOk P w H h)(e:h.objs.size<=a):H a=none:=by
 cases q:H a with
 | none=>rfl
 | some u=>exact absurd (zAg (x.lt q) e) (zBz _)
theorem HOk.kept(x:HOk P w H h)(k:∀ b u,h.get? b=some u->h'.get? b=some u):HOk P w H h':=λ a o e =>
 (x a o e).stay (λ b u _ q=>k b u q) (λ _ q=>q) λ _ _ q=>q
theorem HOk.laid(x:HOk P w H h)(k:∀ b u,h.get? b=some u->h'.get? b=some u)(hp:h.objs.size<=a)(new:ObjOk P w (upd H a o) h' a o):HOk P w (upd H a o) h':=λ b u e=>by
 have hn:=x.fresh hp;by_cases hb:b=a
 . subst hb;rw[qb8] at e;cases e;exact new
 rw[qc7 hb] at e;exact(x b u e).stay (λ c v _ q=>k c v q) (λ c q=>by rw[qc7 (qd6 q hn)];exact q) λ c xs q=>by rw[qc7 (qd6 q hn)];exact q
end
def Rd(H:Hp)(a:Addr)(u:HO):Prop:=H a=some u∨∃ o,H a=some (.frz o u)
theorem Rd.ok{P:Program}{w:World}{H:Hp}{h:Heap}{a:Addr}{u:HO}(r:Rd H a u)(x:HOk P w H h):ObjOk P w H h a u:=by
 rcases r with r | ⟨o,r⟩
 . exact x a u r
 obtain⟨_,q⟩:=x a _ r;exact q
def Mut:Option HO->Prop
 | some (.lst _)=>True
 | some (.dK _)=>True
 | some (.dT _)=>True
 | some (.set _ _)=>True
 | some (.ins _ _ _)=>True
 | some (.ext _)=>True
 | _=>False
section
variable{P:Program}{w:World}{H:Hp}{h h':Heap}{x e:Addr}{o':HO}
theorem HOk.write(ok:HOk P w H h)(mu:Mut (H x))(he:e=x∨H e=some (.own x))(k:∀ b u,b≠e->h.get? b=some u->h'.get? b=some u)(heo:∃ u,h'.get? e=some u)(new:ObjOk P w (upd H x o') h' x o'):HOk P w (upd H x o') h':=λ b u q=>by
 have nown:∀ c y,H c=some (.own y)->c≠x:=λ c y r z=>by subst z;rw[r] at mu;exact mu
 have ntup:∀ c xs,H c=some (.tup xs)->c≠x:=λ c xs r z=>by subst z;rw[r] at mu;exact mu
 by_cases hb:b=x
 . subst hb;rw[qb8] at q;cases q;exact new
 rw[qc7 hb] at q;by_cases hbe:b=e
 . have q':H b=some (.own x):=by
     rcases he with z | z
     . exact absurd (hbe.trans z) hb
     rw[hbe];exact z
   rw[q] at q';cases q';obtain⟨v,hv⟩:=heo;exact⟨v,by rw[hbe];exact hv⟩
 refine(ok b u q).stay (λ c v hc r=>k c v ?_ r) (λ c r=>by rw[qc7 (nown c b r)];exact r) λ c xs r=>by rw[qc7 (ntup c xs r)];exact r
 rcases hc with rfl | hc
 . exact hbe
 rintro rfl;rcases he with z | z
 . exact nown c b hc z
 rw[hc] at z;cases z;exact hb rfl
end
structure Un(fs ex:List Addr)(H H':Hp)(h h':Heap):Prop where
 keep:∀ b o,h.get? b=some o->H b=none->b∉fs->b∉ex->h'.get? b=some o
 slot:∀ b o,h.get? b=some o->H b=none->b∈fs->b∉ex->∃ sl,h'.get? b=some { o with slots:=sl }
 free:∀ b o,h.get? b=some o->H b=none->b∉ex->H' b=none
 there:∀ b o,h.get? b=some o->b∉ex->∃ o',h'.get? b=some o'
 tups:∀ b xs,H b=some (.tup xs)->H' b=some (.tup xs)
 frzs:∀ b o u,H b=some (.frz o u)->H' b=some (.frz o u)
 tbls:∀ b ps,H b=some (.tbl ps)->∃ more,H' b=some (.tbl (ps++more))
section
variable{fs ex:List Addr}{H H1 H2:Hp}{h h1 h2 h':Heap}{a x e:Addr}{o:HO}
theorem Un.any(u:Un fs ex H H1 h h1){b:Addr}{ob:Obj}(q:h.get? b=some ob)(n:H b=none)(hx:b∉ex):∃ sl,h1.get? b=some { ob with slots:=sl }:=by
 by_cases hb:b∈fs
 . exact u.slot b ob q n hb hx
 exact⟨ob.slots,u.keep b ob q n hb hx⟩
theorem Un.trans(a:Un fs ex H H1 h h1)(b:Un fs ex H1 H2 h1 h2):Un fs ex H H2 h h2 where
 keep:=λ c ob q n hc hx=>b.keep c ob (a.keep c ob q n hc hx) (a.free c ob q n hx) hc hx
 slot:=λ c ob q n hc hx=>by
   obtain⟨sl,e1⟩:=a.slot c ob q n hc hx;obtain⟨sl',e2⟩:=b.slot c _ e1 (a.free c ob q n hx) hc hx;exact⟨sl',e2⟩
 free:=λ c ob q n hx=>by
   obtain⟨o',e1⟩:=a.there c ob q hx;exact b.free c o' e1 (a.free c ob q n hx) hx
 there:=λ c ob q hx=>by
   obtain⟨o',e1⟩:=a.there c ob q hx;exact b.there c o' e1 hx
 tups:=λ c xs q=>b.tups c xs (a.tups c xs q)
 frzs:=λ c ob xs q=>b.frzs c ob xs (a.frzs c ob xs q)
 tbls:=λ c ps q=>by
   obtain⟨m1,e1⟩:=a.tbls c ps q;obtain⟨m2,e2⟩:=b.tbls c _ e1;exact⟨m1++m2,by rw[e2,Array.append_assoc]⟩
theorem Un.kept(k:∀ b u,h.get? b=some u->h'.get? b=some u):Un fs ex H H h h' :=
 ⟨λ b ob q _ _ _=>k b ob q,λ b ob q _ _ _=>⟨ob.slots,k b ob q⟩,λ _ _ _ n _=>n,λ b ob q _=>⟨ob,k b ob q⟩,λ _ _ q=>q,λ _ _ _ q=>q,λ _ ps q=>⟨#[],by rw[q];simp⟩⟩
theorem Un.refl:Un fs ex H H h h:=Un.kept λ _ _ q=>q
theorem Un.laid(k:∀ b u,h.get? b=some u->h'.get? b=some u)(hp:h.objs.size<=a)(hn:H a=none):Un fs ex H (upd H a o) h h' where
 keep:=λ b u q _ _ _=>k b u q
 slot:=λ b u q _ _ _=>⟨u.slots,k b u q⟩
 free:=λ b u q n _=>by rw[qc7 (zAr (zAg (zAc q) hp))];exact n
 there:=λ b u q _=>⟨u,k b u q⟩
 tups:=λ b xs q=>by rw[qc7 (qd6 q hn)];exact q
 frzs:=λ b u xs q=>by rw[qc7 (qd6 q hn)];exact q
 tbls:=λ b ps q=>⟨#[],by rw[qc7 (qd6 q hn),q];simp⟩
theorem Un.write(mu:Mut (H x))(he:e=x∨H e=some (.own x))(k:∀ b u,b≠e->h.get? b=some u->h'.get? b=some u)(heo:∃ u,h'.get? e=some u):Un fs ex H (upd H x o) h h':=by
 have hx:∀ b,H b=none->b≠x:=λ b n z=>by subst z;rw[n] at mu;exact mu
 have hb:∀ b,H b=none->b≠e:=λ b n z=>by
   subst z;rcases he with r | r
   . exact hx b n r
   rw[n] at r;cases r
 have hm:∀ b u,H b=some u->¬ Mut (some u)->b≠x:=λ b u q nm z=>by subst z;rw[q] at mu;exact nm mu
 refine⟨λ b u q n _ _=>k b u (hb b n) q,λ b u q n _ _=>⟨u.slots,k b u (hb b n) q⟩,λ b u q n _=>by rw[qc7 (hx b n)];exact n,λ b u q _=>?_,
   λ b xs q=>by rw[qc7 (hm b _ q λ z=>z)];exact q,λ b u xs q=>by rw[qc7 (hm b _ q λ z=>z)];exact q,λ b ps q=>⟨#[],by rw[qc7 (hm b _ q λ z=>z),q];simp⟩⟩
 by_cases hbe:b=e
 . subst hbe;exact heo
 exact⟨u,k b u hbe q⟩
end
def trk(h:Heap)(H:Hp):List Addr:=(List.range h.objs.size).filter λ a=>(H a).isSome
def E7(h:Heap)(H:Hp):Heap:=PySem.W.hideAll h (trk h H)
theorem qag5(h:Heap)(H:Hp):(E7 h H).objs.size=h.objs.size:=PySem.W.hideAll_size _ _
theorem qat1{h:Heap}{H:Hp}{b:Addr}{o:Obj}(e:h.get? b=some o)(n:H b=none):(E7 h H).get? b=some o :=
 PySem.W.hideAll_get _ e λ hm=>by
   have q:(H b).isSome=true:=(zAw.mp hm).2;rw[n] at q;simp at q
theorem qaA6{h:Heap}{H:Hp}{b:Addr}{o:Obj}(e:(E7 h H).get? b=some o):h.get? b=some o/\H b=none:=by
 have e':h.get? b=some o:=PySem.W.of_hideAll (trk h H) e;refine⟨e',?_⟩;cases q:H b with
 | none=>rfl
 | some x =>
   have hm:b∈trk h H:=zAw.mpr ⟨zAv.mpr (zAc e'),by simp[q]⟩;have z:(E7 h H).get? b=none:=PySem.W.hideAll_none (trk h H) hm;rw[z] at e;cases e
structure Mod(K:PySem.W.Frag)(mg:Str->Option Value)(base:Heap):Prop where
 kin:K.In base
 glob:base.Ns mainGlobals mg
 blt:∃ mb,base.Ns builtinsNs mb/\∀ x:Str,x ≠ "__name__" -> mb x=bootBuiltins x
 nolimit:base.NoLimit
structure Cx where
 prog:Program
 w:World
 K:PySem.W.Frag
 mg:Str->Option Value
 base:Heap
 A:Around
 N:List Str
 s₀:Shared
 H₀:Hp
 env:Env
 outer:List Env
 stack:List Env
 ex:List Addr
 fn:Str->Bool
 calm:Bool
 pn:List (Addr×Obj)
 xe:Value->Shared->Prop
def frs(l:List Env):List Addr:=l.filterMap (·.frame)
abbrev Cx.fs(X:Cx):List Addr:=frs X.outer
def Vis(sc:Scope)(x:Str):Prop:=sc.names.lookup x=some .local∨sc.names.lookup x=some .cell∨sc.names.lookup x=some .free
def Loc(sc:Scope)(x:Str):Prop:=sc.names.lookup x=some .local∨sc.names.lookup x=some .cell
def Look(env:Env)(h:Heap)(m:Str->Option Value)(x:Str)(u:Value):Prop :=
 (env.kindOf x=some .local/\m x=some u)∨((env.kindOf x=some .cell∨env.kindOf x=some .free)/\∃ c,env.cells.lookup x=some c/\h.IsCell c (some u))
structure Cx.Ok(X:Cx):Prop where
 mod:Mod X.K X.mg X.base
 kind:X.env.scope.kind=.function
 glob:X.env.globals=mainGlobals
 blt:X.env.builtins=builtinsNs
 above:X.s₀.heap.objs.size<=X.env.locals
 inj:∀ x y c,X.env.cells.lookup x=some c->X.env.cells.lookup y=some c->x=y
 has:∀ x,(X.env.kindOf x=some .cell∨X.env.kindOf x=some .free)->∃ c,X.env.cells.lookup x=some c
 cab:∀ x c,X.fn x=true->X.env.cells.lookup x=some c->X.s₀.heap.objs.size<=c
 hd:X.calm=true->X.A.handled=none
 frames:X.A.frames=some X.stack
 stk:X.stack=X.outer∨(X.stack=X.env::X.outer/\X.env.frame=some X.env.locals)
 exf:∀ b∈X.ex,b≠X.env.locals/\∀ x c,X.env.cells.lookup x=some c->c≠b
 bs:∀ b o,X.base.get? b=some o->X.s₀.heap.get? b=some o/\X.H₀ b=none
 bsz:X.base.objs.size<=X.s₀.heap.objs.size
 noex:∀ b o,X.base.get? b=some o->b∉X.ex
 exfs:∀ b∈X.ex,b∉X.fs
 funs:X.s₀.heap.FunFrames X.base X.outer
 frf:∀ b∈X.fs,X.H₀ b=none
structure Inv(X:Cx)(D6:List (Addr×Obj))(σ:List (Option V))(H:Hp)(s:Shared):Prop where
 ok:X.Ok
 os:s.os=X.s₀.os
 bare:AllBare s.gens
 base:Un X.fs X.ex X.H₀ H X.s₀.heap s.heap
 loc:∃ m,s.heap.Ns X.env.locals m/\∀(i:Nat)(x:Str)(v:V),X.N[i]? = some x->σ[i]? = some (some v)->Vis X.env.scope x->∃ u,RelV v u/\Look X.env s.heap m x u
 cell:∀ x c,X.env.cells.lookup x=some c->∃ v,s.heap.IsCell c v
 free:H X.env.locals=none
 freeC:∀ x c,X.env.cells.lookup x=some c->H c=none
 pin:∀ p∈X.pn++D6,s.heap.get? p.1=some p.2/\H p.1=none/\p.1≠X.env.locals/\p.1∉X.fs/\∀ v,p.2.data≠.cell v
 hok:HOk X.prog X.w H s.heap
 len:σ.length=X.N.length
section
variable{X:Cx}{D6:List (Addr×Obj)}{σ:List (Option V)}{H H':Hp}{s:Shared}{h':Heap}
theorem Cx.Ok.nofr(ok:X.Ok){b:Addr}{o:Obj}(e:X.base.get? b=some o):b∉X.fs:=λ hb=>by
 have:=(ok.funs.mem hb).1
 rw[e] at this;cases this
theorem Inv.bs(I:Inv X D6 σ H s):∀ b o,X.base.get? b=some o->s.heap.get? b=some o/\H b=none:=λ b o e =>
 ⟨I.base.keep b o (I.ok.bs b o e).1 (I.ok.bs b o e).2 (I.ok.nofr e) (I.ok.noex b o e),I.base.free b o (I.ok.bs b o e).1 (I.ok.bs b o e).2 (I.ok.noex b o e)⟩
theorem Inv.bk(I:Inv X D6 σ H s):∀ b o,X.base.get? b=some o->s.heap.get? b=some o:=λ b o e=>(I.bs b o e).1
theorem Inv.mod(I:Inv X D6 σ H s):Mod X.K X.mg X.base:=I.ok.mod
theorem Inv.kIn(I:Inv X D6 σ H s):X.K.In s.heap:=I.ok.mod.kin.keeps I.bk
theorem Inv.lt(I:Inv X D6 σ H s):X.env.locals < s.heap.objs.size:=let ⟨_,hn,_⟩:=I.loc;hn.lt
theorem Inv.sz(I:Inv X D6 σ H s):X.s₀.heap.objs.size<=s.heap.objs.size:=zAn I.ok.above (Nat.le_of_lt I.lt)
theorem Inv.nofs(I:Inv X D6 σ H s){a:Addr}(h:s.heap.objs.size<=a):a∉X.fs:=λ hb=>by
 obtain⟨_,o,ho,_⟩:=I.ok.funs.mem hb;exact absurd (zAg (zAc ho) (zAn I.sz h)) (zBz _)
theorem Inv.cne(I:Inv X D6 σ H s):∀ x c,X.env.cells.lookup x=some c->c≠X.env.locals:=λ x c e z=>by
 obtain⟨v,o,ho,hd⟩:=I.cell x c e;obtain⟨m,⟨o',es,ep,ho',hd',_⟩,_⟩:=I.loc;rw[z,ho'] at ho;cases ho;rw[hd'] at hd;cases hd
theorem Inv.funs(I:Inv X D6 σ H s):s.heap.FunFrames X.base X.outer:=by
 have all:∀(l:List Env),(∀ b∈frs l,b∈X.fs)->X.s₀.heap.FunFrames X.base l->s.heap.FunFrames X.base l:=by
   intro l
   induction l with
   | nil=>intro _ _;trivial
   | cons env r ih =>
     intro hs hl;obtain⟨hk,⟨L,o,hf,hn,ho,hd⟩,hr⟩:=hl;have hL:L∈X.fs:=hs L (by unfold frs;rw[zBu,hf];exact zA9);obtain⟨sl,e⟩:=I.base.slot L o ho (I.ok.frf L hL) hL λ z=>I.ok.exfs L z hL
     exact⟨hk,⟨L,_,hf,hn,e,hd⟩,ih (λ b hb=>hs b (by unfold frs;rw[zBu,hf];exact zA6 _ hb)) hr⟩
 exact all X.outer (λ _ hb=>hb) I.ok.funs
theorem Inv.stack(I:Inv X D6 σ H s):s.heap.FunFrames X.base X.stack:=by
 rcases I.ok.stk with e | ⟨e,hf⟩
 . rw[e];exact I.funs
 rw[e];obtain⟨m,hn,_⟩:=I.loc;refine .cons (by rw[I.ok.kind];decide) hf hn ?_ I.funs;exact Heap.get?_none_of_le (zAn I.ok.bsz I.ok.above)
theorem Inv.stkSub(I:Inv X D6 σ H s):∀ b∈frs X.stack,b∈X.env.locals::X.fs:=λ b hb=>by
 rcases I.ok.stk with e | ⟨e,hf⟩
 . rw[e] at hb;exact zA6 _ hb
 rw[e] at hb;unfold frs at hb;rw[zBu,hf] at hb;exact hb
theorem Inv.stkFree(I:Inv X D6 σ H s):∀ b∈frs X.stack,H b=none:=λ b hb=>by
 rcases zAm.mp (I.stkSub b hb) with e | hb
 . rw[e];exact I.free
 obtain⟨_,o,ho,_⟩:=I.ok.funs.mem hb;exact I.base.free b o ho (I.ok.frf b hb) λ z=>I.ok.exfs b z hb
theorem Inv.step{g':Array GenState}{d':Drawn}(I:Inv X D6 σ H s)(hch:∀ b∈ch,(b∈X.ex∨X.s₀.heap.objs.size<=b)/\b≠X.env.locals/\(∀ x c,X.env.cells.lookup x=some c->c≠b)/\∀ p∈X.pn++D6,p.1≠b)(keep:∀ b o,b≠X.env.locals->b∉X.fs->b∉ch->s.heap.get? b=some o->H b=none->h'.get? b=some o)(slot:∀ b o,b≠X.env.locals->b∈X.fs->b∉ch->s.heap.get? b=some o->H b=none->∃ sl,h'.get? b=some { o with slots:=sl })(free:∀ b o,b∉ch->s.heap.get? b=some o->H b=none->H' b=none)(there:∀ b o,b∉ch->s.heap.get? b=some o->∃ o',h'.get? b=some o')(tups:∀ b xs,H b=some (.tup xs)->H' b=some (.tup xs))(frzs:∀ b o u,H b=some (.frz o u)->H' b=some (.frz o u))(tbls:∀ b ps,H b=some (.tbl ps)->∃ more,H' b=some (.tbl (ps++more)))(ns:∀ m,s.heap.Ns X.env.locals m->h'.Ns X.env.locals m)(hok:HOk X.prog X.w H' h')(hg:AllBare g') :
   Inv X D6 σ H' { s with heap:=h',gens:=g',drawn:=d',toks:=t' }:=by
 have neL:∀ b o,X.s₀.heap.get? b=some o->b≠X.env.locals:=λ b o e=>zAr (zAg (zAc e) I.ok.above)
 have neC:∀ b o,X.s₀.heap.get? b=some o->b∉X.ex->b∉ch:=λ b o e hx hb=>by
   rcases (hch b hb).1 with z | z
   . exact hx z
   exact absurd (zAg (zAc e) z) (zBz _)
 have cellK:∀ x c,X.env.cells.lookup x=some c->∀ v,s.heap.IsCell c v->h'.IsCell c v:=λ x c e v ⟨o,ho,hd⟩=>by
   have nch:c∉ch:=λ z=>(hch c z).2.2.1 x c e rfl
   by_cases hc:c∈X.fs
   . obtain⟨sl,q⟩:=slot c o (I.cne x c e) hc nch ho (I.freeC x c e)
     exact⟨_,q,hd⟩
   exact⟨o,keep c o (I.cne x c e) hc nch ho (I.freeC x c e),hd⟩
 refine⟨I.ok,I.os,hg,⟨λ b o e n hb hx=>?_,λ b o e n hb hx=>?_,λ b o e n hx=>?_,λ b o e hx=>?_,λ b xs e=>tups b xs (I.base.tups b xs e),λ b o xs e=>frzs b o xs (I.base.frzs b o xs e),λ b ps e=>?_⟩,?_,λ x c e=>?_,?_,λ x c e=>?_,λ p hp=>?_,hok,I.len⟩
 . exact keep b o (neL b o e) hb (neC b o e hx) (I.base.keep b o e n hb hx) (I.base.free b o e n hx)
 . obtain⟨sl,e1⟩:=I.base.slot b o e n hb hx
   obtain⟨sl',e2⟩:=slot b _ (neL b o e) hb (neC b o e hx) e1 (I.base.free b o e n hx);exact⟨sl',e2⟩
 . obtain⟨o',e1⟩:=I.base.there b o e hx
   exact free b o' (neC b o e hx) e1 (I.base.free b o e n hx)
 . obtain⟨o',e1⟩:=I.base.there b o e hx
   exact there b o' (neC b o e hx) e1
 . obtain⟨m1,e1⟩:=I.base.tbls b ps e
   obtain⟨m2,e2⟩:=tbls b _ e1;exact⟨m1++m2,by rw[e2,Array.append_assoc]⟩
 . obtain⟨m,hn,hl⟩:=I.loc
   refine⟨m,ns m hn,λ i x v e1 e2 e3=>?_⟩;obtain⟨u,r,l⟩:=hl i x v e1 e2 e3;refine⟨u,r,?_⟩;rcases l with l | ⟨k,c,e,z⟩
   . exact .inl l
   exact .inr ⟨k,c,e,cellK x c e _ z⟩
 . obtain⟨v,z⟩:=I.cell x c e
   exact⟨v,cellK x c e v z⟩
 . obtain⟨m,⟨o,_,_,ho,_⟩,_⟩:=I.loc
   exact free _ o (λ z=>(hch _ z).2.1 rfl) ho I.free
 . obtain⟨v,o,ho,hd⟩:=I.cell x c e
   exact free c o (λ z=>(hch c z).2.2.1 x c e rfl) ho (I.freeC x c e)
 obtain⟨e,n,ne,nf,d⟩:=I.pin p hp;have nch:p.1∉ch:=λ z=>(hch p.1 z).2.2.2 p hp rfl
 exact⟨keep p.1 p.2 ne nf nch e n,free p.1 p.2 nch e n,ne,nf,d⟩
theorem Inv.un(I:Inv X D6 σ H s)(u:Un X.fs [] H H' s.heap h')(hok:HOk X.prog X.w H' h'):Inv X D6 σ H' { s with heap:=h',toks:=t' }:=by
 obtain⟨m,⟨o,es,ep,ho,r⟩,_⟩:=id I.loc;obtain⟨sl,hL⟩:=u.any ho I.free (by simp);exact I.step (g':=s.gens) (d':=s.drawn) (ch:=[]) (λ _ z=>nomatch z) (λ b o _ hb _ e n=>u.keep b o e n hb (by simp)) (λ b o _ hb _ e n=>u.slot b o e n hb (by simp)) (λ b o _ e n=>u.free b o e n (by simp)) (λ b o _ e=>u.there b o e (by simp)) u.tups u.frzs u.tbls (λ m' hm=>by
   obtain⟨o',es',ep',ho',r'⟩:=hm;rw[ho] at ho';cases ho';exact⟨_,es',ep',hL,r'⟩) hok I.bare
theorem Inv.call{g':Array GenState}{d':Drawn}(I:Inv X D6 σ H s)(u:Un (frs X.stack) ch H H' s.heap h')(hok:HOk X.prog X.w H' h')(hg:AllBare g')(hch:∀ b∈ch,(b∈X.ex∨X.s₀.heap.objs.size<=b)/\b≠X.env.locals/\(∀ x c,X.env.cells.lookup x=some c->c≠b)/\∀ p∈X.pn++D6,p.1≠b) :
   Inv X D6 σ H' { s with heap:=h',gens:=g',drawn:=d',toks:=t' }:=by
 obtain⟨m,⟨o,es,ep,ho,r⟩,_⟩:=id I.loc;obtain⟨sl,hL⟩:=u.any ho I.free λ z=>(hch _ z).2.1 rfl
 exact I.step (ch:=ch) hch (λ b o hL hb hc e n=>u.keep b o e n (λ z=>(zAm.mp (I.stkSub b z)).elim hL hb) hc) (λ b o _ _ hc e n=>u.any e n hc) (λ b o hc e n=>u.free b o e n hc) (λ b o hc e=>u.there b o e hc) u.tups u.frzs u.tbls (λ m' hm=>by
   obtain⟨o',es',ep',ho',r'⟩:=hm;rw[ho] at ho';cases ho';exact⟨_,es',ep',hL,r'⟩) hok hg
theorem Inv.turned{it:Addr}(I:Inv X D6 σ H s)(k:∀ b o,b≠it->s.heap.get? b=some o->h'.get? b=some o)(hn:H it=none)(hL:it≠X.env.locals)(h1:it∈X.ex∨X.s₀.heap.objs.size<=it)(h2:∀ x c,X.env.cells.lookup x=some c->c≠it)(h3:∀ p∈X.pn++D6,p.1≠it):Inv X D6 σ H { s with heap:=h',toks:=t' }:=by
 have nit:∀ b u,H b=some u->b≠it:=λ b u e z=>by rw[z,hn] at e;cases e
 refine I.step (g':=s.gens) (d':=s.drawn) (ch:=[it]) (λ b hb=>?_) (λ b o _ _ hc e _=>k b o (λ z=>hc (by simp[z])) e) (λ b o _ _ hc e _=>⟨o.slots,k b o (λ z=>hc (by simp[z])) e⟩) (λ _ _ _ _ n=>n)
   (λ b o hc e=>⟨o,k b o (λ z=>hc (by simp[z])) e⟩) (λ _ _ e=>e) (λ _ _ _ e=>e) (λ b ps e=>⟨#[],by rw[e];simp⟩) (λ m hm=>?_) (λ b u e=>?_) I.bare
 . have e:b=it:=by simpa using hb
   subst e;exact⟨h1,hL,h2,h3⟩
 . obtain⟨o,es,ep,ho,r⟩:=hm
   exact⟨o,es,ep,k _ o (Ne.symm hL) ho,r⟩
 refine(I.hok b u e).stay (λ c v hc q=>k c v ?_ q) (λ _ q=>q) λ _ _ q=>q
 rcases hc with z | z
 . rw[z];exact nit b u e
 exact nit c _ z
theorem Inv.tok(I:Inv X D6 σ H s)(t:Nat):Inv X D6 σ H { s with toks:=t }:=I.un (h':=s.heap) (t':=t) Un.refl I.hok
theorem Inv.kept(I:Inv X D6 σ H s)(k:∀ b u,s.heap.get? b=some u->h'.get? b=some u):Inv X D6 σ H { s with heap:=h',toks:=t' }:=I.un (Un.kept k) (I.hok.kept k)
theorem Inv.laid{a:Addr}{o:HO}(I:Inv X D6 σ H s)(k:∀ b u,s.heap.get? b=some u->h'.get? b=some u)(hp:s.heap.objs.size<=a)(new:ObjOk X.prog X.w (upd H a o) h' a o) :
   Inv X D6 σ (upd H a o) { s with heap:=h',toks:=t' }:=I.un (Un.laid k hp (I.hok.fresh hp)) (I.hok.laid k hp new)
theorem Inv.write{x e:Addr}{o:HO}(I:Inv X D6 σ H s)(mu:Mut (H x))(he:e=x∨H e=some (.own x))(k:∀ b u,b≠e->s.heap.get? b=some u->h'.get? b=some u)(heo:∃ u,h'.get? e=some u)(new:ObjOk X.prog X.w (upd H x o) h' x o):Inv X D6 σ (upd H x o) { s with heap:=h',toks:=t' }:=I.un (Un.write mu he k heo) (I.hok.write mu he k heo new)
theorem Inv.pins_of{pins':List (Addr×Obj)}(I:Inv X D6 σ H s)(h:∀ p∈pins',s.heap.get? p.1=some p.2/\H p.1=none/\p.1≠X.env.locals/\p.1∉X.fs/\∀ v,p.2.data≠.cell v):Inv X pins' σ H s :=
 ⟨I.ok,I.os,I.bare,I.base,I.loc,I.cell,I.free,I.freeC,λ p hp=>(zAb.mp hp).elim (λ z=>I.pin p (List.mem_append_left _ z)) (h p),I.hok,I.len⟩
theorem qX6(hN:N.Nodup){j:Nat}{x:Str}(a:N[i]? = some x)(b:N[j]? = some x):i=j:=by
 obtain⟨h1,e1⟩:=zA5.mp a;obtain⟨h2,e2⟩:=zA5.mp b;exact(List.getElem_inj hN).mp (e1.trans e2.symm)
theorem qad3{A:Around}{E:Value->Shared->Prop}{x:Str}{v:V}{u:Value}{Q:Unit->Shared->Prop}(I:Inv X D6 σ H s)(hN:X.N.Nodup)(hi:X.N[i]? = some x)(hx:Loc X.env.scope x)(r:RelV v u)(h:∀ s',Inv X D6 (σ.set i (some v)) H s'->(∃ a,Heap.SameBut a s.heap s'.heap/\(a=X.env.locals∨X.env.cells.lookup x=some a))->Q () s')(hf:X.fn x=true∨X.env.scope.names.lookup x=some .local:=by first | exact .inl rfl | exact .inr rfl | assumption):wpAny M A (storeName X.env x u) Q E s:=by
 obtain⟨m,hn,hl⟩:=id I.loc;have hcls:(X.env.scope.kind == .class||(X.env.scope.kind == .module&&X.env.locals != X.env.globals))=false:=by rw[I.ok.kind];rfl
 have hiσ:i < σ.length:=by rw[I.len];exact(zA5.mp hi).1
 have cne:=I.cne;have tracked:∀{a:Addr}{h':Heap},(∃ o,s.heap.get? a=some o/\H a=none)->Heap.SameBut a s.heap h'->HOk X.prog X.w H h':=λ{a h'} ha hs b ob e=>by
   obtain⟨_,_,hfree⟩:=ha;refine(I.hok b ob e).stay (λ c w' hc q=>(hs.2 c ?_).trans q) (λ _ q=>q) λ _ _ q=>q
   rintro rfl;rcases hc with rfl | hc
   . rw[hfree] at e;cases e
   rw[hfree] at hc;cases hc
 rcases hx with hk | hk
 . refine wpAny_storeName_local hk hn (λ h' hn' hs=>?_) hcls
   obtain⟨oL,_,_,hoL,_⟩:=id hn;refine h _ ⟨I.ok,I.os,I.bare,⟨λ b o e n hb hx=>?_,λ b o e n hb hx=>?_,I.base.free,λ b o e hx=>?_,I.base.tups,I.base.frzs,I.base.tbls⟩,⟨_,hn',λ j y v' e1 e2 e3=>?_⟩,λ y c e=>?_,I.free,I.freeC,λ p hp=>?_,tracked ⟨oL,hoL,I.free⟩ hs,by simpa using I.len⟩ ⟨_,hs,.inl rfl⟩
   . exact(hs.2 b (zAr (zAg (zAc e) I.ok.above))).trans (I.base.keep b o e n hb hx)
   . obtain⟨sl,e1⟩:=I.base.slot b o e n hb hx
     exact⟨sl,(hs.2 b (zAr (zAg (zAc e) I.ok.above))).trans e1⟩
   . obtain⟨o',e1⟩:=I.base.there b o e hx
     exact⟨o',(hs.2 b (zAr (zAg (zAc e) I.ok.above))).trans e1⟩
   . by_cases hj:j=i
     . subst hj
       rw[hi] at e1;cases e1;rw[List.getElem?_set_self hiσ] at e2;cases e2;exact⟨u,r,.inl ⟨hk,by simp⟩⟩
     rw[zBk (Ne.symm hj)] at e2;obtain⟨u',r',q⟩:=hl j y v' e1 e2 e3;refine⟨u',r',?_⟩;rcases q with⟨k,e⟩ | ⟨k,c,e,z⟩
     . refine .inl ⟨k,?_⟩
       have:y≠x:=λ e=>hj (qX6 hN e1 (e ▸ hi))
       simp[this,e]
     exact .inr ⟨k,c,e,z.sameBut hs (cne y c e)⟩
   . obtain⟨w',z⟩:=I.cell y c e
     exact⟨w',z.sameBut hs (cne y c e)⟩
   obtain⟨e,n,ne,nf,d⟩:=I.pin p hp;exact⟨(hs.2 p.1 ne).trans e,n,ne,nf,d⟩
 have hfn:X.fn x=true:=by
   rcases hf with z | z
   . exact z
   rw[z] at hk;cases hk
 obtain⟨c,hc⟩:=I.ok.has x (.inl hk);obtain⟨w',z⟩:=I.cell x c hc;refine wpAny_storeName_cell I.ok.kind hk hc z (λ h' hc' hs=>?_);obtain⟨oc,hoc,hocd⟩:=id z;refine h { s with heap:=h' } ⟨I.ok,I.os,I.bare,⟨λ b o e n hb hx=>?_,λ b o e n hb hx=>?_,I.base.free,λ b o e hx=>?_,I.base.tups,I.base.frzs,I.base.tbls⟩,⟨m,hn.sameBut hs (Ne.symm (cne x c hc)),λ j y v' e1 e2 e3=>?_⟩,λ y c' e=>?_,I.free,I.freeC,λ p hp=>?_,tracked ⟨oc,hoc,I.freeC x c hc⟩ hs,by simpa using I.len⟩ ⟨c,hs,.inr hc⟩
 . exact(hs.2 b (zAr (zAg (zAc e) (I.ok.cab x c hfn hc)))).trans (I.base.keep b o e n hb hx)
 . obtain⟨sl,e1⟩:=I.base.slot b o e n hb hx
   exact⟨sl,(hs.2 b (zAr (zAg (zAc e) (I.ok.cab x c hfn hc)))).trans e1⟩
 . obtain⟨o',e1⟩:=I.base.there b o e hx
   exact⟨o',(hs.2 b (zAr (zAg (zAc e) (I.ok.cab x c hfn hc)))).trans e1⟩
 . by_cases hj:j=i
   . subst hj
     rw[hi] at e1;cases e1;rw[List.getElem?_set_self hiσ] at e2;cases e2;exact⟨u,r,.inr ⟨.inl hk,c,hc,hc'⟩⟩
   rw[zBk (Ne.symm hj)] at e2;obtain⟨u',r',q⟩:=hl j y v' e1 e2 e3;refine⟨u',r',?_⟩;rcases q with q | ⟨k,c',e,z'⟩
   . exact .inl q
   refine .inr ⟨k,c',e,z'.sameBut hs ?_⟩;rintro rfl;exact hj (qX6 hN e1 (I.ok.inj _ _ _ e hc ▸ hi))
 . by_cases hcc:c'=c
   . subst hcc;exact⟨_,hc'⟩
   obtain⟨w2,z2⟩:=I.cell y c' e;exact⟨w2,z2.sameBut hs hcc⟩
 obtain⟨e,n,ne,nf,d⟩:=I.pin p hp;refine⟨(hs.2 p.1 ?_).trans e,n,ne,nf,d⟩;intro q;rw[q,hoc] at e;have q':oc=p.2:=Option.some.inj e;exact d w' (by rw[<- q'];exact hocd)
theorem qG9{A:Around}{E:Value->Shared->Prop}{x:Str}{v:V}{u:Value}{Q:Unit->Shared->Prop}(I:Inv X D6 σ H s)(hN:X.N.Nodup)(hi:X.N[i]? = some x)(hx:Loc X.env.scope x)(r:RelV v u)(h:∀ s',Inv X D6 (σ.set i (some v)) H s'->Q () s')(hf:X.fn x=true∨X.env.scope.names.lookup x=some .local:=by first | exact .inl rfl | exact .inr rfl | assumption):wpAny M A (storeName X.env x u) Q E s :=
 qad3 I hN hi hx r (λ s' I' _=>h s' I') hf
theorem Inv.call'{s':Shared}(I:Inv X D6 σ H s)(ho:s'.os=s.os)(u:Un (frs X.stack) ch H H' s.heap s'.heap)(hok:HOk X.prog X.w H' s'.heap)(hg:AllBare s'.gens)(hch:∀ b∈ch,(b∈X.ex∨X.s₀.heap.objs.size<=b)/\b≠X.env.locals/\(∀ x c,X.env.cells.lookup x=some c->c≠b)/\∀ p∈X.pn++D6,p.1≠b):Inv X D6 σ H' s':=by
 obtain⟨h',g',d',t',o'⟩:=s';have e:o'=s.os:=ho;subst e;exact I.call (g':=g') (t':=t') (d':=d') u hok hg hch
end
abbrev XK:=Value->Option Addr->Hp->Prop
abbrev St:=List (Option V)
abbrev VK:=V->Hp->Prop
abbrev TE:=St->Hp->VK->Prop
abbrev TT:=St->Hp->(Bool->Hp->Prop)->Prop
abbrev TA:=St->Hp->(List V->Hp->Prop)->Prop
structure Dl where
 nx:St->Hp->Prop
 rt:VK
 bk:St->Hp->Prop:=λ _ _=>False
 ct:St->Hp->Prop:=λ _ _=>False
abbrev TS:=Dl->St->Hp->Prop
def EP(X:Cx)(D6:List (Addr×Obj))(σ:St)(Q:VK)(u:Value)(s':Shared):Prop:=∃ v H',Inv X D6 σ H' s'/\RelV v u/\Q v H'
def TP(X:Cx)(D6:List (Addr×Obj))(σ:St)(Q:Bool->Hp->Prop)(b:Bool)(s':Shared):Prop:=∃ H',Inv X D6 σ H' s'/\Q b H'
def AP(X:Cx)(D6:List (Addr×Obj))(σ:St)(Q:List V->Hp->Prop)(us:List Value)(s':Shared):Prop:=∃ vs H',Inv X D6 σ H' s'/\Vals vs us/\Q vs H'
def SP(X:Cx)(D6:List (Addr×Obj))(D:Dl)(f:Flow)(s':Shared):Prop :=
 match f with
 | .next=>∃ σ' H',Inv X D6 σ' H' s'/\D.nx σ' H'
 | .brk=>∃ σ' H',Inv X D6 σ' H' s'/\D.bk σ' H'
 | .cont=>∃ σ' H',Inv X D6 σ' H' s'/\D.ct σ' H'
 | .ret u=>∃ v σ' H',Inv X D6 σ' H' s'/\RelV v u/\D.rt v H'
def PE(X:Cx)(e:Expr)(t:TE):Prop :=
 ∀(D6:List (Addr×Obj))(s:Shared)(σ:St)(H:Hp)(Q:VK),Inv X D6 σ H s->t σ H Q->wpAny (model X.prog X.w) X.A (eval e X.env) (EP X D6 σ Q) X.xe s
def PT(X:Cx)(e:Expr)(t:TT):Prop :=
 ∀(D6:List (Addr×Obj))(s:Shared)(σ:St)(H:Hp)(Q:Bool->Hp->Prop),Inv X D6 σ H s->t σ H Q->wpAny (model X.prog X.w) X.A (isTrue e X.env (eval e X.env)) (TP X D6 σ Q) X.xe s
def PW(X:Cx)(e:Expr)(t:TT):Prop :=
 ∀(whole:Sem Value)(D6:List (Addr×Obj))(s:Shared)(σ:St)(H:Hp)(Q:Bool->Hp->Prop),Inv X D6 σ H s->t σ H Q->wpAny (model X.prog X.w) X.A (isTrue e X.env whole) (TP X D6 σ Q) X.xe s
theorem PW.pt{X:Cx}{e:Expr}{t:TT}(h:PW X e t):PT X e t:=h _
def PA(X:Cx)(es:List Expr)(t:TA):Prop :=
 ∀(pos:Pos)(D6:List (Addr×Obj))(s:Shared)(σ:St)(H:Hp)(Q:List V->Hp->Prop),Inv X D6 σ H s->t σ H Q->wpAny (model X.prog X.w) X.A (spliced (backTo pos (starEach es X.env))) (AP X D6 σ Q) X.xe s
def PS(X:Cx)(st:Stmt)(t:TS):Prop :=
 ∀(D6:List (Addr×Obj))(s:Shared)(σ:St)(H:Hp)(D:Dl),Inv X D6 σ H s->t D σ H->wpAny (model X.prog X.w) X.A (exec st X.env) (SP X D6 D) X.xe s
def PSs(X:Cx)(st:List Stmt)(t:TS):Prop :=
 ∀(D6:List (Addr×Obj))(s:Shared)(σ:St)(H:Hp)(D:Dl),Inv X D6 σ H s->t D σ H->wpAny (model X.prog X.w) X.A (execs st X.env) (SP X D6 D) X.xe s
theorem thn{α:Type}{t:Sem α}{Q Q':α->Shared->Prop}{A:Around}{E:Value->Shared->Prop}{s:Shared}(h:wpAny M A t Q E s)(hQ:∀ a s,Q a s->Q' a s):wpAny M A t Q' E s:=wpAny_mono h hQ λ _ _ x=>x
section
variable{X:Cx}
theorem bin{a b:Expr}{ta tb:TE}(ha:PE X a ta)(hb:PE X b tb){D6:List (Addr×Obj)}{s:Shared}{σ:St}{H:Hp}{R:V->V->Hp->Prop}(I:Inv X D6 σ H s)(h:ta σ H λ x H1=>tb σ H1 λ y H2=>R x y H2){α:Type}{Q:α->Shared->Prop}{f:Value->Value->Sem α}(hf:∀ v u s2 x y H2,Inv X D6 σ H2 s2->RelV x v->RelV y u->R x y H2->wpAny (model X.prog X.w) X.A (f v u) Q X.xe s2) :
   wpAny (model X.prog X.w) X.A (eval a X.env) (λ v s₁=>wpAny (model X.prog X.w) X.A (eval b X.env) (λ u s₂=>wpAny (model X.prog X.w) X.A (f v u) Q X.xe s₂) X.xe s₁) X.xe s:=by
 refine thn (ha D6 s σ H _ I h) λ v s1 ⟨x,H1,I1,r1,q1⟩=>?_
 refine thn (hb D6 s1 σ H1 _ I1 q1) λ u s2 ⟨y,H2,I2,r2,q2⟩=>?_
 exact hf v u s2 x y H2 I2 r1 r2 q2
def Er(i:Nat):TE:=λ σ H Q=>∃ v,σ[i]? = some (some v)/\Q v H
def tC(v:V):TE:=λ _ H Q=>Q v H
theorem qm3{x:Str}{pos:Pos}(hN:X.N[i]? = some x)(hv:Vis X.env.scope x)(hd:(x == ("__debug__" : Str))=false:=by decide)(hcd:(x == ("__classdict__" : Str))=false:=by decide):PE X (.Name x pos) (Er i):=by
 intro D6 s σ H Q I h;obtain⟨v,e,h⟩:=h;obtain⟨m,hn,hl⟩:=I.loc;obtain⟨u,r,l⟩:=hl i x v hN e hv;have fin:EP X D6 σ Q u s:=⟨v,H,I,r,h⟩
 rcases l with⟨hk,hm⟩ | ⟨hk,c,hc,hcell⟩
 . exact wpAny_Name (wpAny_loadName_local I.ok.kind hk hn hm fin) hd
 rcases hk with hk | hk
 . exact wpAny_Name (wpAny_loadName_cell I.ok.kind hk hc hcell fin) hd
 exact wpAny_Name (wpAny_loadName_free I.ok.kind hk hc hcell fin hcd) hd
theorem qI7{i j pos}:PE X (.Constant (.int i) j pos) (tC (.int i)):=λ _ _ _ H _ I h=>wpAny_Constant_int ⟨.int i,H,I.tok _,⟨_,rfl⟩,h⟩
theorem pe_bl{b j pos}:PE X (.Constant (.bool b) j pos) (tC (.bl b)):=λ _ _ _ H _ I h=>Constant_bool ⟨.bl b,H,I,rfl,h⟩
theorem qaI0{j pos}:PE X (.Constant .none j pos) (tC .non):=λ _ _ _ H _ I h=>Constant_none ⟨.non,H,I,rfl,h⟩
theorem qaH7{x j pos}:PE X (.Constant (.str x) j pos) (tC (.str x)):=λ _ _ _ H _ I h=>Calls.Constant_str ⟨.str x,H,I.tok _,⟨_,rfl⟩,h⟩
def Gl(X:Cx)(x:Str):Prop:=X.env.kindOf x=some .globalImplicit
theorem qY8{E:Value->Shared->Prop}{D6:List (Addr×Obj)}{s:Shared}{σ:St}{H:Hp}{x:Str}{u:Value}{pos:Pos}{Q:Value->Shared->Prop}(I:Inv X D6 σ H s)(hg:Gl X x)(hm:X.mg x=some u)(h:Q u s)(hd:(x == ("__debug__" : Str))=false:=by decide):wpAny (model X.prog X.w) X.A (eval (.Name x pos) X.env) Q E s :=
 Calls.Name_function_global I.ok.kind hg (Calls.loadGlobal_global (by rw[I.ok.glob];exact I.mod.glob.keeps I.bk) hm h) hd
theorem qY9{E:Value->Shared->Prop}{D6:List (Addr×Obj)}{s:Shared}{σ:St}{H:Hp}{x:Str}{u:Value}{pos:Pos}{Q:Value->Shared->Prop}(I:Inv X D6 σ H s)(hg:Gl X x)(hm:X.mg x=none)(hv:bootBuiltins x=some u)(h:Q u s)(hn:x ≠ "__name__" := by decide)(hd:(x == ("__debug__" : Str))=false:=by decide):wpAny (model X.prog X.w) X.A (eval (.Name x pos) X.env) Q E s:=by
 obtain⟨mb,h1,h2⟩:=I.mod.blt;exact Calls.Name_function_global I.ok.kind hg (Calls.loadGlobal_builtin (by rw[I.ok.glob];exact I.mod.glob.keeps I.bk) hm (by rw[I.ok.blt];exact h1.keeps I.bk) ((h2 x hn).trans hv) h) hd
theorem qak6{x:Str}{v:V}{u:Value}{pos:Pos}(hg:Gl X x)(hm:X.mg x=some u)(r:RelV v u)(hd:(x == ("__debug__" : Str))=false:=by decide):PE X (.Name x pos) (tC v) :=
 λ _ _ _ H _ I h=>qY8 I hg hm ⟨v,H,I,r,h⟩ hd
theorem qaz4{x:Str}{v:V}{u:Value}{pos:Pos}(hg:Gl X x)(hm:X.mg x=none)(hv:bootBuiltins x=some u)(r:RelV v u)(hn:x ≠ "__name__" := by decide)(hd:(x == ("__debug__" : Str))=false:=by decide):PE X (.Name x pos) (tC v) :=
 λ _ _ _ H _ I h=>qY9 I hg hm hv ⟨v,H,I,r,h⟩ hn hd
variable{a b:Expr}{ta tb:TE}{pos:Pos}
def tB(t:TE):TT:=λ σ H Q=>t σ H λ x H1=>∃ c,x=.bl c/\Q c H1
theorem qax2{e:Expr}{t:TE}(h:PE X e t)(he:∀ whole,isTrue e X.env whole=(do let v <- whole;standAt e.pos;holding [v] (truthy v)):=by intro _;rfl):PT X e (tB t):=by
 intro D6 s σ H Q I hw;refine isTrue_plain (thn (h D6 s σ H _ I hw) λ v s1 ⟨x,H1,I1,r1,q1⟩=>?_) (he _);obtain⟨d,rfl,q⟩:=q1;cases r1;exact wpAny_truthy_bool ⟨H1,I1,q⟩
variable{tA tB':TT}{rest:List Expr}
def tAnd(t u:TT):TT:=λ σ H Q=>t σ H λ c H1=>if c=true then u σ H1 Q else Q false H1
def tOr(t u:TT):TT:=λ σ H Q=>t σ H λ c H1=>if c=true then Q true H1 else u σ H1 Q
def tNot(t:TT):TT:=λ σ H Q=>t σ H λ c H1=>Q (!c) H1
theorem qax1(ha:PT X a tA):PW X (.BoolOp .And [a] pos) tA:=by
 intro wh D6 s σ H Q I h;refine isTrue_and (thn (ha D6 s σ H Q I h) λ c s1 e=>?_);cases c with
 | true=>exact isTrue_and_nil e
 | false=>exact e
theorem qaG9(ha:PT X a tA):PW X (.BoolOp .Or [a] pos) tA:=by
 intro wh D6 s σ H Q I h;refine isTrue_or (thn (ha D6 s σ H Q I h) λ c s1 e=>?_);cases c with
 | false=>exact isTrue_or_nil e
 | true=>exact e
theorem qaH0(ha:PT X a tA)(hb:PW X (.BoolOp .And (b::rest) pos) tB'):PW X (.BoolOp .And (a::b::rest) pos) (tAnd tA tB'):=by
 intro wh D6 s σ H Q I h;refine isTrue_and (thn (ha D6 s σ H _ I h) λ c s1 ⟨H1,I1,q1⟩=>?_);cases c with
 | true=>exact hb wh D6 s1 σ H1 Q I1 q1
 | false=>exact⟨H1,I1,q1⟩
theorem pw_or(ha:PT X a tA)(hb:PW X (.BoolOp .Or (b::rest) pos) tB'):PW X (.BoolOp .Or (a::b::rest) pos) (tOr tA tB'):=by
 intro wh D6 s σ H Q I h;refine isTrue_or (thn (ha D6 s σ H _ I h) λ c s1 ⟨H1,I1,q1⟩=>?_);cases c with
 | true=>exact⟨H1,I1,q1⟩
 | false=>exact hb wh D6 s1 σ H1 Q I1 q1
theorem qaH1(ha:PT X a tA):PT X (.UnaryOp .Not a pos) (tNot tA):=by
 intro D6 s σ H Q I h;exact isTrue_not (ha D6 s σ H (λ c H1=>Q (!c) H1) I h)
def tAndV(ta tb:TE):TE:=λ σ H Q=>ta σ H λ x H1=>∃ c,x=.bl c/\if c=true then tb σ H1 Q else Q (.bl false) H1
def tOrV(ta tb:TE):TE:=λ σ H Q=>ta σ H λ x H1=>∃ c,x=.bl c/\if c=true then Q (.bl true) H1 else tb σ H1 Q
def tNotV(ta:TE):TE:=λ σ H Q=>ta σ H λ x H1=>∃ c,x=.bl c/\Q (.bl (!c)) H1
theorem qay8{op}{t:TE}(h:PE X a t):PE X (.BoolOp op [a] pos) t:=λ D6 s σ H Q I hw=>BoolOp_one (h D6 s σ H Q I hw)
theorem qaz5(ha:PE X a ta)(hb:PE X (.BoolOp .And (b::rest) pos) tb):PE X (.BoolOp .And (a::b::rest) pos) (tAndV ta tb):=by
 intro D6 s σ H Q I h;refine BoolOp_and (thn (ha D6 s σ H _ I h) λ v s1 ⟨x,H1,I1,r1,q1⟩=>?_);obtain⟨c,rfl,q1⟩:=q1;cases r1;refine wpAny_truthy_bool ?_;cases c with
 | true=>exact hb D6 s1 σ H1 Q I1 q1
 | false=>exact⟨.bl false,H1,I1,rfl,q1⟩
theorem pe_or(ha:PE X a ta)(hb:PE X (.BoolOp .Or (b::rest) pos) tb):PE X (.BoolOp .Or (a::b::rest) pos) (tOrV ta tb):=by
 intro D6 s σ H Q I h;refine BoolOp_or (thn (ha D6 s σ H _ I h) λ v s1 ⟨x,H1,I1,r1,q1⟩=>?_);obtain⟨c,rfl,q1⟩:=q1;cases r1;refine wpAny_truthy_bool ?_;cases c with
 | false=>exact hb D6 s1 σ H1 Q I1 q1
 | true=>exact⟨.bl true,H1,I1,rfl,q1⟩
theorem qaH9(ha:PE X a ta):PE X (.UnaryOp .Not a pos) (tNotV ta):=by
 intro D6 s σ H Q I h;refine UnaryOp_ (thn (ha D6 s σ H _ I h) λ v s1 ⟨x,H1,I1,r1,q1⟩=>?_);obtain⟨c,rfl,q1⟩:=q1;cases r1;exact not_of (wpAny_truthy_bool ⟨.bl (!c),H1,I1,rfl,q1⟩)
def tIf(t:TT)(ta tb:TE):TE:=λ σ H Q=>t σ H λ c H1=>if c=true then ta σ H1 Q else tb σ H1 Q
theorem qaq1{c:Expr}(hc:PT X c tA)(ha:PE X a ta)(hb:PE X b tb):PE X (.IfExp c a b pos) (tIf tA ta tb):=by
 intro D6 s σ H Q I h;refine wpAny_IfExp (thn (hc D6 s σ H _ I h) λ d s1 ⟨H1,I1,q1⟩=>?_);cases d with
 | true=>exact ha D6 s1 σ H1 Q I1 q1
 | false=>exact hb D6 s1 σ H1 Q I1 q1
end
def SqL(K:PySem.W.Frag)(H:Hp)(a:Addr)(xs:List V):Prop :=
 Rd H a (.lst xs) ∨
   ∃(o:Obj)(its:Array Value)(n:Nat),K.lookup a=some o/\o.cls=.type "list" /\ o.dict=none/\o.data=.seq its n/\its.size<=sizeLine/\Vals xs its.toList
def SqT(K:PySem.W.Frag)(H:Hp)(a:Addr)(xs:List V):Prop :=
 Rd H a (.tup xs) ∨
   ∃(o:Obj)(its:Array Value)(n:Nat),K.lookup a=some o/\o.cls=.type "tuple" /\ o.data=.seq its n/\its.size<=sizeLine/\Vals xs its.toList
def absV:Value->Option V
 | .none=>some .non
 | .bool b=>some (.bl b)
 | .int i _=>some (.int i)
 | .str x _=>some (.str x)
 | .bytes b _=>some (.byt b)
 | .float b _=>some (.flt b)
 | .ref a=>some (.ref a)
 | .type n=>some (.ty n)
 | _=>none
theorem RelV.abs{x:V}{u:Value}(r:RelV x u):absV u=some x:=by
 cases x with
 | non=>cases r;rfl
 | bl _=>cases r;rfl
 | int _=>obtain⟨t,rfl⟩:=r;rfl
 | str _=>obtain⟨t,rfl⟩:=r;rfl
 | byt _=>obtain⟨t,rfl⟩:=r;rfl
 | flt _=>obtain⟨t,rfl⟩:=r;rfl
 | ref _=>cases r;rfl
 | ty _=>cases r;rfl
theorem RelV.inj{x y:V}{u:Value}(r:RelV x u)(q:RelV y u):x=y:=Option.some.inj (r.abs.symm.trans q.abs)
theorem Vals.inj:∀{xs ys:List V}{us:List Value},Vals xs us->Vals ys us->xs=ys
 | _,_,_,.nil,.nil=>rfl
 | _,_,_,.cons r t,.cons r' t'=>by rw[r.inj r',Vals.inj t t']
section
variable{X:Cx}{D6:List (Addr×Obj)}{σ:St}{H:Hp}{s:Shared}{a:Addr}{xs ys:List V}
theorem SqL.of{K:PySem.W.Frag}(h:H a=some (.lst xs)):SqL K H a xs:=.inl (.inl h)
theorem Inv.list(I:Inv X D6 σ H s)(h:SqL X.K H a xs):∃ its:List Value,Vals xs its/\PlainL s.heap a its.toArray/\xs.length<=sizeLine:=by
 rcases h with h | ⟨o,its,n,hk,hc,hd,hs,hz,r⟩
 . obtain⟨z,its,n,r,e⟩:=h.ok I.hok
   exact⟨its,r,⟨_,n,e,rfl,rfl,rfl⟩,z⟩
 refine⟨its.toList,r,⟨o,n,I.kIn a o hk,hc,hd,by simpa using hs⟩,?_⟩;have e:=r.length;simp only[zB1] at e;lia
theorem Inv.tuple(I:Inv X D6 σ H s)(h:SqT X.K H a xs):∃ its:List Value,Vals xs its/\IsTup s.heap a its.toArray/\xs.length<=sizeLine:=by
 rcases h with h | ⟨o,its,n,hk,hc,hs,hz,r⟩
 . obtain⟨z,its,r,p⟩:=h.ok I.hok
   exact⟨its,r,p,z⟩
 refine⟨its.toList,r,⟨o,I.kIn a o hk,hc,n,by simpa using hs⟩,?_⟩;have e:=r.length;simp only[zB1] at e;lia
theorem Inv.list_inj(I:Inv X D6 σ H s)(h:SqL X.K H a xs)(h':SqL X.K H a ys):xs=ys:=by
 obtain⟨its,r,⟨o,n,e,_,_,d⟩,_⟩:=I.list h;obtain⟨its',r',⟨o',n',e',_,_,d'⟩,_⟩:=I.list h';rw[e] at e';cases e';rw[d] at d';injection d' with d1 _
 have:its=its':=by simpa using congrArg Array.toList d1
 subst this;exact r.inj r'
end
abbrev Cx.wish(X:Cx)(E:Value->Shared->Prop):Cx:={ X with xe:=E }
abbrev Cx.nox(X:Cx):Cx:=X.wish λ _ _=>False
theorem Cx.Ok.wish{X:Cx}(ok:X.Ok)(E:Value->Shared->Prop):(X.wish E).Ok :=
 ⟨ok.mod,ok.kind,ok.glob,ok.blt,ok.above,ok.inj,ok.has,ok.cab,ok.hd,ok.frames,ok.stk,ok.exf,ok.bs,ok.bsz,ok.noex,ok.exfs,ok.funs,ok.frf⟩
theorem Cx.Ok.unwish{X:Cx}{E:Value->Shared->Prop}(ok:(X.wish E).Ok):X.Ok :=
 ⟨ok.mod,ok.kind,ok.glob,ok.blt,ok.above,ok.inj,ok.has,ok.cab,ok.hd,ok.frames,ok.stk,ok.exf,ok.bs,ok.bsz,ok.noex,ok.exfs,ok.funs,ok.frf⟩
section
variable{X:Cx}{D6:List (Addr×Obj)}{σ:St}{H:Hp}{s:Shared}{E:Value->Shared->Prop}
theorem Inv.wish(I:Inv X D6 σ H s)(E:Value->Shared->Prop):Inv (X.wish E) D6 σ H s:=⟨I.ok.wish E,I.os,I.bare,I.base,I.loc,I.cell,I.free,I.freeC,I.pin,I.hok,I.len⟩
theorem Inv.unwish(I:Inv (X.wish E) D6 σ H s):Inv X D6 σ H s:=⟨I.ok.unwish,I.os,I.bare,I.base,I.loc,I.cell,I.free,I.freeC,I.pin,I.hok,I.len⟩
theorem SP.unwish{D:Dl}{f:Flow}{s':Shared}(h:SP (X.wish E) D6 D f s'):SP X D6 D f s':=by
 cases f with
 | next=>obtain⟨σ',H',I,q⟩:=h;exact⟨σ',H',I.unwish,q⟩
 | brk=>obtain⟨σ',H',I,q⟩:=h;exact⟨σ',H',I.unwish,q⟩
 | cont=>obtain⟨σ',H',I,q⟩:=h;exact⟨σ',H',I.unwish,q⟩
 | ret u=>obtain⟨v,σ',H',I,r,q⟩:=h;exact⟨v,σ',H',I.unwish,r,q⟩
theorem PSs.nox{st:List Stmt}{t:TS}(h:PSs X.nox st t):PSs X st t:=λ D6 s σ H D I hw =>
 wpAny_mono (h D6 s σ H D (I.wish _) hw) (λ _ _ q=>q.unwish) λ _ _ z=>False.elim z
end
section
variable{X:Cx}{st:Stmt}{rest:List Stmt}{t u:TS}{e:Expr}{te:TE}{pos:Pos}
def tNext:TS:=λ D σ H=>D.nx σ H
def tSeq(t u:TS):TS:=λ D σ H=>t { D with nx:=u D } σ H
theorem qax4:PSs X [] tNext:=λ _ _ σ H _ I h=>wpAny_execs_nil ⟨σ,H,I,h⟩
theorem qW7(h1:PS X st t)(h2:PSs X rest u):PSs X (st::rest) (tSeq t u):=by
 intro D6 s σ H D I h;refine wpAny_execs_cons (thn (h1 D6 s σ H { D with nx:=u D } I h) λ f s1 q=>?_);cases f with
 | next =>
   obtain⟨σ',H',I',q⟩:=q;exact h2 D6 s1 σ' H' D I' q
 | ret v=>exact q
 | brk=>exact q
 | cont=>exact q
theorem qak0(h1:PS X st t):PSs X [st] t:=by
 intro D6 s σ H D I h;refine wpAny_execs_cons (thn (h1 D6 s σ H D I h) λ f s1 q=>?_);cases f with
 | next=>exact wpAny_execs_nil q
 | ret v=>exact q
 | brk=>exact q
 | cont=>exact q
theorem Inv.quiet{D6:List (Addr×Obj)}{σ:St}{H:Hp}{s:Shared}(I:Inv X D6 σ H s):interactive X.env=false:=by simp[interactive,I.ok.kind]
def tDrop(te:TE):TS:=λ D σ H=>te σ H λ _ H1=>D.nx σ H1
theorem qax7(he:PE X e te)(hs:swapsWith e none pos.line X.env=pure false:=by rfl):PS X (.Expr e pos) (tDrop te):=by
 intro D6 s σ H D I h;exact wpAny_Expr_any (thn (he D6 s σ H _ I h) λ v s1 ⟨x,H1,I1,r1,q1⟩=>⟨σ,H1,I1,q1⟩) I.quiet hs
def tRet(te:TE):TS:=λ D σ H=>te σ H D.rt
theorem qax6(he:PE X e te):PS X (.Return (some e) pos) (tRet te):=by
 intro D6 s σ H D I h;exact wpAny_Return_some (thn (he D6 s σ H _ I h) λ v s1 ⟨x,H1,I1,r1,q1⟩=>⟨x,σ,H1,I1,r1,q1⟩)
def tIfS(c:TT)(t u:TS):TS:=λ D σ H=>c σ H λ b H1=>if b=true then t D σ H1 else u D σ H1
theorem ps_if{c:Expr}{a b:List Stmt}{tc:TT}(hc:PT X c tc)(ha:PSs X a t)(hb:PSs X b u):PS X (.If c a b pos) (tIfS tc t u):=by
 intro D6 s σ H D I h;refine wpAny_If (thn (hc D6 s σ H _ I h) λ d s1 ⟨H1,I1,q1⟩=>?_);cases d with
 | true=>exact ha D6 s1 σ H1 D I1 q1
 | false=>exact hb D6 s1 σ H1 D I1 q1
end
abbrev TG:=V->St->Hp->(St->Hp->Prop)->Prop
abbrev TGs:=List V->St->Hp->(St->Hp->Prop)->Prop
def PG(X:Cx)(target:Expr)(t:TG):Prop :=
 ∀(D6:List (Addr×Obj))(s:Shared)(σ:St)(H:Hp)(v:V)(u:Value)(Q:St->Hp->Prop),Inv X D6 σ H s->RelV v u->t v σ H Q ->
   wpAny (model X.prog X.w) X.A (assign target X.env u) (λ _ s'=>∃ σ' H',Inv X D6 σ' H' s'/\Q σ' H') X.xe s
def PGs(X:Cx)(ts:List Expr)(t:TGs):Prop :=
 ∀(D6:List (Addr×Obj))(s:Shared)(σ:St)(H:Hp)(vs:List V)(us:List Value)(Q:St->Hp->Prop),Inv X D6 σ H s->Vals vs us->t vs σ H Q ->
   wpAny (model X.prog X.w) X.A (assignInOrder ((assignEach ts X.env).map (·.2)) us) (λ _ s'=>∃ σ' H',Inv X D6 σ' H' s'/\Q σ' H') X.xe s
abbrev G8:=V->V->V->Hp->(Hp->Prop)->Prop
def PSet(X:Cx)(t:G8):Prop :=
 ∀(D6:List (Addr×Obj))(s:Shared)(σ:St)(H:Hp)(o i v:V)(ov iv u:Value)(Q:Hp->Prop),Inv X D6 σ H s->RelV o ov->RelV i iv->RelV v u->t o i v H Q ->
   wpAny (model X.prog X.w) X.A (setItem ov iv u) (λ _ s'=>∃ H',Inv X D6 σ H' s'/\Q H') X.xe s
abbrev TIp:=V->V->Hp->VK->Prop
def PIp(X:Cx)(op:Operator)(t:TIp):Prop :=
 ∀(D6:List (Addr×Obj))(s:Shared)(σ:St)(H:Hp)(x y:V)(v u:Value)(Q:VK),Inv X D6 σ H s->RelV x v->RelV y u->t x y H Q ->
   wpAny (model X.prog X.w) X.A (inplaceOp op v u) (EP X D6 σ Q) X.xe s
section
variable{X:Cx}{pos:Pos}
def Ei(i:Nat):TG:=λ v σ H Q=>Q (σ.set i (some v)) H
theorem qak4{x:Str}(hN:X.N.Nodup)(hi:X.N[i]? = some x)(hx:Loc X.env.scope x)(hf:X.fn x=true∨X.env.scope.names.lookup x=some .local:=by first | exact .inl rfl | exact .inr rfl | assumption):PG X (.Name x pos) (Ei i):=by
 intro D6 s σ H v u Q I r h;exact wpAny_assign_Name (qG9 I hN hi hx r (λ s' I'=>⟨_,H,I',h⟩) hf)
def gNil:TGs:=λ vs σ H Q=>vs=[]/\Q σ H
def gCons(t:TG)(u:TGs):TGs:=λ vs σ H Q=>∃ v r,vs=v::r/\t v σ H λ σ' H'=>u r σ' H' Q
theorem qay4:PGs X [] gNil:=by
 intro D6 s σ H vs us Q I r h;obtain⟨e,h⟩:=h;subst e;cases r;exact assignInOrder_nil ⟨σ,H,I,h⟩
theorem qap8{e:Expr}{es:List Expr}{t:TG}{u:TGs}(h1:PG X e t)(h2:PGs X es u)(hs:(assignEach (e::es) X.env).map (·.2)=assign e X.env::(assignEach es X.env).map (·.2):=by rfl):PGs X (e::es) (gCons t u):=by
 intro D6 s σ H vs us Q I r h;obtain⟨v,vr,e1,h⟩:=h;subst e1;cases r with
 | cons r rr =>
   rw[hs];refine assignInOrder_cons (thn (h1 D6 s σ H _ _ _ I r h) λ _ s1 ⟨σ1,H1,I1,q1⟩=>?_);exact h2 D6 s1 σ1 H1 _ _ Q I1 rr q1
def gTup(K:PySem.W.Frag)(n:Nat)(t:TGs):TG:=λ v σ H Q=>∃ a xs,v=.ref a/\SqT K H a xs/\xs.length=n/\t xs σ H Q
theorem qaH4{es:List Expr}{k:Nat}{t:TGs}(hc:X.calm=true)(h:PGs X es t)(hn:(assignEach es X.env).length=n:=by rfl)(hst:(assignEach es X.env).findIdx? (·.1)=none:=by rfl):PG X (.Tuple es k pos) (gTup X.K n t):=by
 intro D6 s σ H v u Q I r hw;obtain⟨a,xs,e1,hq,hl,hw⟩:=hw;subst e1;cases r;obtain⟨its,rv,ht,hz⟩:=I.tuple hq;refine assign_Tuple_tuple (I.ok.hd hc) ht (by simp[hn,<- hl,rv.length]) hst λ h' hx=>?_
 have I1:Inv X D6 σ H { s with heap:=h' }:=I.kept (t':=s.toks) λ b o e=>hx b o (zAr (zAc e)) e
 exact h D6 _ σ H xs _ Q I1 (by simpa using rv) hw
def gSub(to ti:TE)(t:G8):TG:=λ v σ H Q=>to σ H λ o H1=>ti σ H1 λ i H2=>t o i v H2 λ H3=>Q σ H3
theorem qaH5{o i:Expr}{to ti:TE}{t:G8}(ho:PE X o to)(hi:PE X i ti)(hs:PSet X t)(ha:∀ v,assign (.Subscript o i pos) X.env v=(do
     let ov <- holding [v] (eval o X.env)
     let iv <- holding [v,ov] (eval i X.env)
     standAt pos
     holding [v,ov,iv] (setItem ov iv v)
     release [v,ov,iv] []):=by intro _;rfl):PG X (.Subscript o i pos) (gSub to ti t):=by
 intro D6 s σ H v u Q I r h;rw[ha];refine wpAny_bind (wpAny_holding (thn (ho D6 s σ H _ I h) λ ov s1 ⟨x,H1,I1,r1,q1⟩=>?_));refine wpAny_bind (wpAny_holding (thn (hi D6 s1 σ H1 _ I1 q1) λ iv s2 ⟨y,H2,I2,r2,q2⟩=>?_));refine wpAny_bind (wpAny_standAt (wpAny_bind (wpAny_holding (thn (hs D6 s2 σ H2 x y v ov iv u _ I2 r1 r2 r q2) λ _ s3 ⟨H3,I3,q3⟩=>?_))));exact wpAny_release ⟨σ,H3,I3,q3⟩
def Gs(te:TE)(g:TG):TS:=λ D σ H=>te σ H λ x H1=>g x σ H1 D.nx
theorem qaH3{tg e:Expr}{te:TE}{g:TG}(he:PE X e te)(hg:PG X tg g)(hs:swapsWithSole [tg] e pos.line X.env=pure false:=by rfl)(hw:swappedStores [tg] e X.env=pure none:=by rfl)(h1:(assignEach [tg] X.env).map (·.2)=[assign tg X.env]:=by rfl):PS X (.Assign [tg] e pos) (Gs te g):=by
 intro D6 s σ H D I h;refine wpAny_Assign_stores (thn (he D6 s σ H _ I h) λ v s1 ⟨x,H1,I1,r1,q1⟩=>?_) hs hw;rw[h1];exact thn (hg D6 s1 σ H1 x v _ I1 r1 q1) λ _ s2 q=>q
theorem qax5{x:Str}{e:Expr}{te:TE}{pos':Pos}(hN:X.N.Nodup)(hi:X.N[i]? = some x)(hx:Loc X.env.scope x)(he:PE X e te)(hs:swapsWith e (some (.Name x pos')) pos.line X.env=pure false:=by rfl)(hf:X.fn x=true∨X.env.scope.names.lookup x=some .local:=by first | exact .inl rfl | exact .inr rfl | assumption) :
   PS X (.Assign [.Name x pos'] e pos) (Gs te (Ei i)):=by
 intro D6 s σ H D I h;refine wpAny_Assign_Name (thn (he D6 s σ H _ I h) λ v s1 ⟨y,H1,I1,r1,q1⟩=>?_) hs;exact qG9 I1 hN hi hx r1 (λ s2 I2=>⟨_,H1,I2,q1⟩) hf
def tAugS(to ti te:TE)(tget:V->V->Hp->VK->Prop)(tip:TIp)(tset:G8):TS:=λ D σ H=>to σ H λ o H1=>ti σ H1 λ i H2=>tget o i H2 λ x H3=>te σ H3 λ y H4=>tip x y H4 λ z H5=>tset o i z H5 λ H6=>D.nx σ H6
def PGet(X:Cx)(t:V->V->Hp->VK->Prop):Prop :=
 ∀(D6:List (Addr×Obj))(s:Shared)(σ:St)(H:Hp)(o i:V)(ov iv:Value)(Q:VK),Inv X D6 σ H s->RelV o ov->RelV i iv->t o i H Q ->
   wpAny (model X.prog X.w) X.A (getItem ov iv) (EP X D6 σ Q) X.xe s
theorem qax9{o i e:Expr}{to ti te:TE}{tget:V->V->Hp->VK->Prop}{tip:TIp}{tset:G8}{op:Operator}{tpos:Pos}(ho:PE X o to)(hi:PE X i ti)(hg:PGet X tget)(he:PE X e te)(hp:PIp X op tip)(hs:PSet X tset)(ha:∀ ov iv new,augStore i ov iv new=(do holding [new,ov,iv] (setItem ov iv new);release [new,ov,iv] [];pure .next):=by intros;rfl):PS X (.AugAssign (.Subscript o i tpos) op e pos) (tAugS to ti te tget tip tset):=by
 intro D6 s σ H D I h;refine wpAny_AugAssign_SubscriptAny (thn (ho D6 s σ H _ I h) λ ov s1 ⟨x1,H1,I1,r1,q1⟩=>?_) ha;refine thn (hi D6 s1 σ H1 _ I1 q1) λ iv s2 ⟨x2,H2,I2,r2,q2⟩=>?_
 refine thn (hg D6 s2 σ H2 x1 x2 ov iv _ I2 r1 r2 q2) λ old s3 ⟨x3,H3,I3,r3,q3⟩=>?_
 refine thn (he D6 s3 σ H3 _ I3 q3) λ v s4 ⟨x4,H4,I4,r4,q4⟩=>?_
 refine thn (hp D6 s4 σ H4 x3 x4 old v _ I4 r3 r4 q4) λ new s5 ⟨x5,H5,I5,r5,q5⟩=>?_
 exact thn (hs D6 s5 σ H5 x1 x2 x5 ov iv new _ I5 r1 r2 r5 q5) λ _ s6 ⟨H6,I6,q6⟩=>⟨σ,H6,I6,q6⟩
def ipI(f:Int->Int->Int):TIp:=λ x y H Q=>∃ i j,x=.int i/\y=.int j/\Q (.int (f i j)) H
theorem qaL3:PIp X .Add (ipI λ i j=>i+j):=by
 intro D6 s σ H x y v u Q I r1 r2 h;obtain⟨i,j,e1,e2,q⟩:=h;subst e1;subst e2;obtain⟨t,rfl⟩:=r1;obtain⟨t',rfl⟩:=r2;exact iadd_int ⟨.int _,H,I.tok _,⟨_,rfl⟩,q⟩
end
section
variable{X:Cx}{pos:Pos}
def qaG3(c:TT)(tb:TS):TS:=λ D σ H=>∃ W:Nat->St->Hp->Prop,(∃ m,W m σ H)/\∀ m σ H,W m σ H ->
 c σ H λ b H1=>if b=true then ∃ N:St->Hp->Prop,(∀ σ' H',N σ' H'->∃ m',m' < m/\W m' σ' H')/\tb { D with nx:=N,ct:=N,bk:=D.nx } σ H1 else D.nx σ H1
theorem qap2{c:Expr}{tc:TT}{tb:TS}(hp:PassesOwn (model X.prog X.w) X.A X.env X.xe)(hc:PT X c tc)(hb:PSs X body tb):PS X (.While c body [] pos) (qaG3 tc tb):=by
 intro D6 s σ H D I h;obtain⟨W,⟨m0,w0⟩,turn⟩:=h;refine wpAny_While (codeAny_whileLoop (λ n s'=>∃ σ' H',Inv X D6 σ' H' s'/\W n σ' H') ?_ m0 ⟨σ,H,I,w0⟩);rintro n s1 ⟨σ1,H1,I1,w1⟩;refine wpAny_passesOwn hp (thn (hc D6 s1 σ1 H1 _ I1 (turn n σ1 H1 w1)) λ b s2 ⟨H2,I2,q2⟩=>?_);cases b with
 | true =>
   obtain⟨N,hN,q2⟩:=q2;rw[if_pos rfl];refine wpAny_passesOwn hp (thn (hb D6 s2 σ1 H2 _ I2 q2) λ f s3 q3=>?_);cases f with
   | next =>
     obtain⟨σ3,H3,I3,n3⟩:=q3;obtain⟨m',hm,w3⟩:=hN σ3 H3 n3;exact⟨m',hm,σ3,H3,I3,w3⟩
   | cont =>
     obtain⟨σ3,H3,I3,n3⟩:=q3;obtain⟨m',hm,w3⟩:=hN σ3 H3 n3;exact⟨m',hm,σ3,H3,I3,w3⟩
   | brk=>exact q3
   | ret v=>exact q3
 | false =>
   rw[if_neg zAj];exact wpAny_execs_nil ⟨σ1,H2,I2,q2⟩
end
structure It where
 go:Nat->Hp->Prop
 yld:Nat->Hp->V->Hp->Prop
 stop:Nat->Hp->Prop
def E8(X:Cx)(D6:List (Addr×Obj))(H:Hp)(b:Addr):Prop :=
 H b=none/\b≠X.env.locals/\b∉X.fs/\(b∈X.ex∨X.s₀.heap.objs.size<=b)/\(∀ x c,X.env.cells.lookup x=some c->c≠b)/\∀ p∈X.pn++D6,p.1≠b
theorem Inv.fpOk{X:Cx}{D6:List (Addr×Obj)}{σ:St}{H H':Hp}{s:Shared}{b:Addr}(I:Inv X D6 σ H s)(hb:s.heap.objs.size<=b)(hn:H' b=none):E8 X D6 H' b:=by
 refine⟨hn,Nat.ne_of_gt (zAg I.lt hb),I.nofs hb,.inr (zAn I.sz hb),λ x c e z=>?_,λ p hp z=>?_⟩
 . obtain⟨v,q⟩:=I.cell x c e
   exact absurd (zAg q.lt (by rw[z];exact hb)) (zBz _)
 exact absurd (zAg (zAc (I.pin p hp).1) (by rw[z];exact hb)) (zBz _)
structure G9(P:Program)(w:World)(K:PySem.W.Frag)(tg:Expr)(J:It)(fp:List Addr)(it:Addr)(tn:Nat->Heap->Prop):Prop where
 mem:it∈fp
 obj:∀ i h,tn i h->∀ b∈fp,∃ o,h.get? b=some o/\∀ v,o.data≠.cell v
 keep:∀ i h h',tn i h->(∀ b∈fp,∀ o,h.get? b=some o->h'.get? b=some o)->tn i h'
 item:∀(X:Cx),X.prog=P->X.w=w->X.K=K->X.calm=true->∀(i:Nat)(D6:List (Addr×Obj))(s:Shared)(σ:St)(H:Hp)(E:Value->Shared->Prop),Inv X D6 σ H s->(∀ b∈fp,E8 X D6 H b)->tn i s.heap->J.go i H ->
   wpAny (model P w) X.A (pyNext (.ref it)) (λ r s1=>∃ u,r=some u /\
     wpAny (model P w) X.A (letOwnedTupleGo tg (.ref it) u) (λ _ s2=>∃ x H',Inv X D6 σ H' s2/\RelV x u/\J.yld i H x H'/\tn (i+1) s2.heap/\∀ b∈fp,H' b=none) E s1) E s
 done:∀(X:Cx),X.prog=P->X.w=w->X.K=K->X.calm=true->∀(i:Nat)(D6:List (Addr×Obj))(s:Shared)(σ:St)(H:Hp)(E:Value->Shared->Prop),Inv X D6 σ H s->(∀ b∈fp,E8 X D6 H b)->tn i s.heap->J.stop i H ->
   wpAny (model P w) X.A (pyNext (.ref it)) (λ r s1=>r=none/\Inv X D6 σ H s1) E s
 self:∀(A:Around)(i:Nat)(s:Shared)(Q:Value->Shared->Prop)(E:Value->Shared->Prop),tn i s.heap->Q (.ref it) s->wpAny (model P w) A (pyIter (.ref it)) Q E s
abbrev TI:=St->Hp->(It->Hp->Prop)->Prop
def PIE(X:Cx)(D6:List (Addr×Obj))(σ:St)(tg:Expr)(R:It->Hp->Prop)(itv:Value)(s2:Shared):Prop :=
 ∃(it:Addr)(fp:List Addr)(tn:Nat->Heap->Prop)(J:It)(H':Hp),itv=.ref it/\Inv X D6 σ H' s2/\G9 X.prog X.w X.K tg J fp it tn/\tn 0 s2.heap/\(∀ b∈fp,E8 X D6 H' b)/\R J H'
def PI(X:Cx)(tg iter:Expr)(wi:TI):Prop :=
 ∀(D6:List (Addr×Obj))(s:Shared)(σ:St)(H:Hp)(R:It->Hp->Prop),Inv X D6 σ H s->wi σ H R ->
   wpAny (model X.prog X.w) X.A (eval iter X.env) (λ v s1=>wpAny (model X.prog X.w) X.A (pyIter v) (PIE X D6 σ tg R) X.xe s1) X.xe s
theorem go_of{A:Around}{E:Value->Shared->Prop}{s:Shared}{tg:Expr}{it:Addr}{u:Value}{o:Obj}{n:String}{vs:Array Value}{Q:Unit->Shared->Prop}(ho:s.heap.get? it=some o)(hc:o.cls=.type n)(hd:o.data=.fields vs)(hn:["enumerate", "zip", "dict_itemiterator", "dict_reverseitemiterator", "odict_iterator", "itertools.zip_longest", "itertools.pairwise"].contains n=false)(hQ:Q () s):wpAny M A (letOwnedTupleGo tg (.ref it) u) Q E s:=by
 unfold letOwnedTupleGo;cases tg<;>first
   | exact wpAny_pure hQ
   | (cases u<;>first
       | exact wpAny_pure hQ
       | (refine wpAny_bind (wpAny_load ho ?_)
          rw[hc,hd];show wpAny M A (if (["enumerate", "zip", "dict_itemiterator", "dict_reverseitemiterator", "odict_iterator", "itertools.zip_longest", "itertools.pairwise"].contains n&&vs[0]? == some (rawInt _))=true then _ else _) Q E s;rw[if_neg (by intro h;rw[hn,Bool.false_and] at h;cases h)];exact wpAny_pure hQ))
def Itl(K:PySem.W.Frag)(a:Addr):It :=
 ⟨λ i H=>∃ xs x,SqL K H a xs/\xs[i]? = some x,λ i H x H'=>H'=H/\∀ xs,SqL K H a xs->xs[i]? = some x,λ i H=>∃ xs,SqL K H a xs/\xs.length<=i⟩
def Itr(lo:Int)(n:Nat):It:=⟨λ i _=>i < n,λ i H x H'=>H'=H/\x=.int (lo+i),λ i _=>n<=i⟩
theorem qac8{P:Program}{w:World}{K:PySem.W.Frag}{tg:Expr}(a it:Addr):G9 P w K tg (Itl K a) [it] it (λ i h=>h.IsListIter it a i) where
 mem:=by simp
 obj:=λ i h st b hb=>by
   have e:b=it:=by simpa using hb
   subst e;obtain⟨o,e,c,d⟩:=st;exact⟨o,e,λ v z=>by rw[d] at z;cases z⟩
 keep:=λ i h h' st k=>st.at λ o e=>k it (by simp) o e
 item:=by
   intro X hP hw hK hc i D6 s σ H E I hf st hg;subst hP hw hK;obtain⟨xs,x,hq,hx⟩:=hg;obtain⟨its,rv,p,hz⟩:=I.list hq;obtain⟨u,hu,ru⟩:=rv.get hx;obtain⟨f0,f1,f2,f3,f4,f5⟩:=hf it (by simp);refine wpAny_pyNext_list_item st p.isList (x:=u) (by simpa using hu) λ h' st' sb=>?_
   have I1:Inv X D6 σ H { s with heap:=h' }:=I.turned (t':=s.toks) (λ b o hb e=>(sb.2 b hb).trans e) f0 f1 f3 f4 f5;obtain⟨o,e,c,d⟩:=id st';exact⟨u,rfl,go_of (s:={ s with heap:=h' }) e c d (by decide) ⟨x,H,I1,ru,⟨rfl,λ ys hy=>by rw[I.list_inj hy hq];exact hx⟩,st',λ b hb=>(hf b hb).1⟩⟩
 done:=by
   intro X hP hw hK hc i D6 s σ H E I hf st hg;subst hP hw hK;obtain⟨xs,hq,hx⟩:=hg;obtain⟨its,rv,p,hz⟩:=I.list hq;obtain⟨f0,f1,f2,f3,f4,f5⟩:=hf it (by simp);have hl:=rv.length;exact wpAny_pyNext_list_end (I.ok.hd hc) st p.isList (by simp;lia) λ h' eb=>⟨rfl,I.turned (t':=s.toks) (λ b o hb e=>eb b o hb e) f0 f1 f3 f4 f5⟩
 self:=λ _ _ _ _ _ st h=>wpAny_pyIter_listiter st h
theorem qU3{P:Program}{w:World}{K:PySem.W.Frag}{tg:Expr}(it:Addr)(lo:Int)(n:Nat):G9 P w K tg (Itr lo n) [it] it (λ i h=>IsRangeIter h it (lo+(i:Nat) * 1) ((n:Int) - (i:Nat)) 1) where
 mem:=by simp
 obj:=λ i h st b hb=>by
   have e:b=it:=by simpa using hb
   subst e;exact⟨_,st,λ v z=>by
     have z':Data.fields _=Data.cell v:=z;cases z'⟩
 keep:=λ i h h' st k=>k it (by simp) _ st
 item:=by
   intro X hP hw hK hc i D6 s σ H E I hf st hg;subst hP hw hK;obtain⟨f0,f1,f2,f3,f4,f5⟩:=hf it (by simp);have W:=Walks.range (prog:=X.prog) (w:=X.w) (I.ok.hd hc) it lo 1 n;refine W.item i s _ _ hg st λ v h' tk hv st' kk=>?_
   obtain⟨t,rfl⟩:=hv;have I1:Inv X D6 σ H { s with heap:=h',toks:=tk }:=I.turned (λ b o hb e=>kk b o (by simpa using hb) e) f0 f1 f3 f4 f5;refine⟨_,rfl,go_of (s:={ s with heap:=h',toks:=tk }) (n := "range_iterator") st' rfl rfl (by decide) ⟨.int (lo+i),H,I1,⟨t,?_⟩,⟨rfl,rfl⟩,st',λ b hb=>(hf b hb).1⟩⟩;rw[Int.mul_one]
 done:=by
   intro X hP hw hK hc i D6 s σ H E I hf st hg;subst hP hw hK;obtain⟨f0,f1,f2,f3,f4,f5⟩:=hf it (by simp);exact wpAny_pyNext_range_end (I.ok.hd hc) st (by have:n<=i:=hg;lia) λ h' eb=>⟨rfl,I.turned (t':=s.toks) (λ b o hb e=>eb b o hb e) f0 f1 f3 f4 f5⟩
 self:=λ _ _ _ _ _ st h=>wpAny_pyIter_rangeiter st h
section
variable{X:Cx}{tg:Expr}
def Ga(K:PySem.W.Frag)(tl:TE):TI:=λ σ H R=>tl σ H λ x H1=>∃ a,x=.ref a/\(∃ xs,SqL K H1 a xs)/\R (Itl K a) H1
theorem qt5{l:Expr}{tl:TE}(hl:PE X l tl):PI X tg l (Ga X.K tl):=by
 intro D6 s σ H R I h;refine thn (hl D6 s σ H _ I h) λ v s1 ⟨x,H1,I1,r1,q1⟩=>?_
 obtain⟨a,e,⟨xs,hq⟩,q⟩:=q1;subst e;cases r1;obtain⟨its,rv,p,hz⟩:=I1.list hq;refine wpAny_pyIter_list p.isList ?_;refine⟨s1.heap.objs.size,[s1.heap.objs.size],_,_,H1,rfl,I1.kept (t':=s1.toks) λ b o e=>zA3 _ e,qac8 a _,⟨_,zB0 _ rfl,rfl,rfl⟩,λ b hb=>?_,q⟩;have e:b=s1.heap.objs.size:=by simpa using hb
 subst e;exact I1.fpOk (zA2 _) (I1.hok.fresh (zA2 _))
theorem qap1{D6:List (Addr×Obj)}{σ:St}{H:Hp}{s:Shared}{R:It->Hp->Prop}{E:Value->Shared->Prop}{lo hi:Int}{t u v:Tok}{tk:Nat}(I:Inv X D6 σ H s)(h1:-(2 ^ 62)<=lo)(h2:lo < 2 ^ 62)(h3:-(2 ^ 62)<=hi)(h4:hi < 2 ^ 62)(q:R (Itr lo (hi - lo).toNat) H):wpAny (model X.prog X.w) X.A (pyIter (.ref s.heap.objs.size)) (PIE X D6 σ tg R) E { s with heap:=s.heap.push { cls:=.type "range",data:=.fields #[.int lo t,.int hi u,.int 1 v] },toks:=tk }:=by
 refine wpAny_pyIter_range (IsRange.new ..) (small_one h1 h2 h3 h4) ?_;have I1:Inv X D6 σ H { s with heap:=s.heap.push { cls:=.type "range",data:=.fields #[.int lo t,.int hi u,.int 1 v] },toks:=tk }:=I.kept λ b o e=>zA3 _ e
 refine⟨(s.heap.push { cls:=.type "range",data:=.fields #[.int lo t,.int hi u,.int 1 v] }).objs.size,[(s.heap.push { cls:=.type "range",data:=.fields #[.int lo t,.int hi u,.int 1 v] }).objs.size],_,_,H,rfl,
   I1.kept (t':=tk) λ b o e=>zA3 _ e,qU3 _ lo (hi - lo).toNat,?_,λ b hb=>?_,q⟩
 . have e1:lo+((0:Nat):Int) * 1=lo:=by simp
   have e2:(((hi - lo).toNat:Nat):Int) - ((0:Nat):Int)=Builtin.Range.rangeSize lo hi 1:=by rw[rangeSize_one];split<;>lia
   show IsRangeIter _ _ (lo+((0:Nat):Int) * 1) ((((hi - lo).toNat:Nat):Int) - ((0:Nat):Int)) 1;rw[e1,e2];exact zB0 _ rfl
 have e:b=(s.heap.push { cls:=.type "range",data:=.fields #[.int lo t,.int hi u,.int 1 v] }).objs.size:=by simpa using hb
 subst e;exact I1.fpOk (zA2 _) (I1.hok.fresh (zA2 _))
def iRng1(ta:TA):TI:=λ σ H R=>ta σ H λ vs H1=>∃ j:Int,vs=[.int j]/\-(2 ^ 62)<=j/\j < 2 ^ 62/\R (Itr 0 j.toNat) H1
theorem qae8{a:Expr}{ta:TA}{p pos:Pos}(hg:Gl X "range")(hm:X.mg "range" = none)(ha:PA X [a] ta)(hs:starEach [a] X.env=[(false,eval a X.env)]:=by rfl):PI X tg (.Call (.Name "range" p) [a] [] pos) (iRng1 ta):=by
 intro D6 s σ H R I h;refine Call_ (qY9 I hg hm boot_range (PyProof.Rows.callWith_type1 (thn (ha pos D6 s σ H _ I h) λ us s1 ⟨vs,H1,I1,r1,q1⟩=>?_) hs rfl));obtain⟨j,e,q1,q2,q⟩:=q1;subst e;cases r1 with
 | cons r rr =>
   cases rr;obtain⟨t,rfl⟩:=r;exact call_range_1 (qap1 I1 (by lia) (by lia) q1 q2 (by simpa using q))
def tFor(wi:TI)(g:TG)(tb:TS):TS:=λ D σ H=>wi σ H λ J H1=>∃ W:Nat->Nat->St->Hp->Prop,(∃ m,W 0 m σ H1)/\∀ i m σ H,W i m σ H ->
 (J.stop i H/\D.nx σ H)∨(J.go i H/\∃ N:St->Hp->Prop,(∀ σ' H',N σ' H'->∃ m',m' < m/\W (i+1) m' σ' H')/\∀ x H',J.yld i H x H'->g x σ H' λ σ2 H2=>tb { D with nx:=N,ct:=N,bk:=D.nx } σ2 H2)
def qW9(fp:List Addr)(h:Heap):List (Addr×Obj):=fp.filterMap λ b=>(h.get? b).map λ o=>(b,o)
theorem qm6{h:Heap}{b:Addr}{o:Obj}(hb:b∈fp)(e:h.get? b=some o):(b,o)∈qW9 fp h:=List.mem_filterMap.mpr ⟨b,hb,by rw[e];rfl⟩
theorem qaf5{h:Heap}{p:Addr×Obj}(hp:p∈qW9 fp h):p.1∈fp/\h.get? p.1=some p.2:=by
 obtain⟨b,hb,e⟩:=List.mem_filterMap.mp hp;cases q:h.get? b with
 | none=>rw[q] at e;cases e
 | some o =>
   rw[q] at e;have e':(b,o)=p:=Option.some.inj e;subst e';exact⟨hb,q⟩
theorem Inv.pinned{D6:List (Addr×Obj)}{σ:St}{H:Hp}{s:Shared}(I:Inv X D6 σ H s)(hf:∀ b∈fp,E8 X D6 H b)(ho:∀ b∈fp,∃ o,s.heap.get? b=some o/\∀ v,o.data≠.cell v):Inv X (D6++qW9 fp s.heap) σ H s :=
 I.pins_of λ p hp=>(zAb.mp hp).elim (λ z=>I.pin p (zAp _ z)) λ z=>by
   obtain⟨hb,e⟩:=qaf5 z;obtain⟨f0,f1,f2,_⟩:=hf p.1 hb;obtain⟨o,e',d⟩:=ho p.1 hb;rw[e] at e';cases e';exact⟨e,f0,f1,f2,d⟩
theorem Inv.unpinned{D6 pl:List (Addr×Obj)}{σ:St}{H:Hp}{s:Shared}(I:Inv X (D6++pl) σ H s):Inv X D6 σ H s:=I.pins_of λ p hp=>I.pin p (zAp _ (List.mem_append_left _ hp))
theorem qap3{iter:Expr}{wi:TI}{g:TG}{tb:TS}{pos:Pos}(hp:PassesOwn (model X.prog X.w) X.A X.env X.xe)(hc:X.calm=true)(hi:PI X tg iter wi)(hg:PG X tg g)(hb:PSs X body tb)(hs:∀ x,foldedSetIterable iter X.env x=pure x:=by intro _;rfl):PS X (.For tg iter body [] pos) (tFor wi g tb):=by
 intro D6 s σ H D I h;refine wpAny_For (thn (hi D6 s σ H _ I h) λ v s1 h1=>thn h1 λ itv s2 h2=>?_) hs;obtain⟨it,fp,tn,J,H2,e,I2,T,st2,f2,W,⟨m0,w0⟩,turn⟩:=h2;subst e;have stat:∀{H':Hp},(∀ b∈fp,H' b=none)->∀ b∈fp,E8 X D6 H' b:=λ hn b hb=>⟨hn b hb,(f2 b hb).2⟩
 refine codeAny_forLoop_any (λ n s'=>∃ i σ' H',Inv X D6 σ' H' s'/\tn i s'.heap/\(∀ b∈fp,H' b=none)/\W i n σ' H') ?_ m0 ⟨0,σ,H2,I2,st2,λ b hb=>(f2 b hb).1,w0⟩;rintro n s3 ⟨i,σ3,H3,I3,st3,fr3,w3⟩;rcases turn i n σ3 H3 w3 with⟨stop,qn⟩ | ⟨go,N,hN,step⟩
 . refine wpAny_passesOwn hp (thn (T.done X rfl rfl rfl hc i D6 s3 σ3 H3 X.xe I3 (stat fr3) st3 stop) λ r s4 ⟨hr,I4⟩=>?_)
   subst hr;exact wpAny_execs_nil ⟨σ3,H3,I4,qn⟩
 refine wpAny_passesOwn hp (thn (T.item X rfl rfl rfl hc i D6 s3 σ3 H3 X.xe I3 (stat fr3) st3 go) λ r s4 ⟨u,hr,h4⟩=>?_);subst hr;refine wpAny_passesOwn hp (thn h4 λ _ s5 ⟨x,H5,I5,r5,y5,st5,fr5⟩=>?_);have I5':=I5.pinned (stat fr5) (T.obj _ _ st5);refine wpAny_passesOwn hp (thn (hg _ s5 σ3 H5 x u _ I5' r5 (step x H5 y5)) λ _ s6 ⟨σ6,H6,I6,q6⟩=>?_);refine wpAny_passesOwn hp (thn (hb _ s6 σ6 H6 _ I6 q6) λ f s7 q7=>?_);have again:∀{σ7:St}{H7:Hp},Inv X (D6++qW9 fp s5.heap) σ7 H7 s7->N σ7 H7->∃ m,m < n/\∃ i σ' H',Inv X D6 σ' H' s7/\tn i s7.heap/\(∀ b∈fp,H' b=none)/\W i m σ' H':=λ{σ7 H7} I7 n7=>by
   obtain⟨m',hm,w7⟩:=hN σ7 H7 n7;refine⟨m',hm,i+1,σ7,H7,I7.unpinned,T.keep _ _ _ st5 λ b hb o e=>(I7.pin (b,o) (zAp _ (zAp _ (qm6 hb e)))).1,λ b hb=>?_,w7⟩;obtain⟨o,e,d⟩:=T.obj _ _ st5 b hb;exact(I7.pin (b,o) (zAp _ (zAp _ (qm6 hb e)))).2.1
 cases f with
 | next=>obtain⟨σ7,H7,I7,n7⟩:=q7;exact again I7 n7
 | cont=>obtain⟨σ7,H7,I7,n7⟩:=q7;exact again I7 n7
 | brk=>obtain⟨σ7,H7,I7,q7⟩:=q7;exact⟨σ7,H7,I7.unpinned,q7⟩
 | ret v=>obtain⟨x7,σ7,H7,I7,r7,q7⟩:=q7;exact⟨x7,σ7,H7,I7.unpinned,r7,q7⟩
end
theorem qaa1{K:PySem.W.Frag}{a:Addr}{xs:List V}{g:TG}{tb:TS}{D:Dl}{σ:St}{H:Hp}(Pv:Nat->St->Hp->Prop)(h0:Pv 0 σ H)(hl:∀ i σ H,i<=xs.length->Pv i σ H->SqL K H a xs)(hs:∀ i x σ H,xs[i]? = some x->Pv i σ H->g x σ H λ σ2 H2=>tb { D with nx:=Pv (i+1),ct:=Pv (i+1),bk:=D.nx } σ2 H2)(hd:∀ σ H,Pv xs.length σ H->D.nx σ H) :
   ∃ W:Nat->Nat->St->Hp->Prop,(∃ m,W 0 m σ H)/\∀ i m σ H,W i m σ H ->
     ((Itl K a).stop i H/\D.nx σ H)∨((Itl K a).go i H/\∃ N:St->Hp->Prop,(∀ σ' H',N σ' H'->∃ m',m' < m/\W (i+1) m' σ' H')/\∀ x H',(Itl K a).yld i H x H'->g x σ H' λ σ2 H2=>tb { D with nx:=N,ct:=N,bk:=D.nx } σ2 H2):=by
 refine⟨λ i m σ H=>m=xs.length - i/\i<=xs.length/\Pv i σ H,⟨xs.length,by simp,zBt _,h0⟩,?_⟩;rintro i m σ H ⟨rfl,hi,p⟩;have q:=hl i σ H hi p;by_cases hlt:i < xs.length
 . refine .inr ⟨⟨xs,xs[i],q,by simp[hlt]⟩,Pv (i+1),λ σ' H' p'=>⟨xs.length - (i+1),by lia,rfl,hlt,p'⟩,λ x H' y=>?_⟩
   obtain⟨e,y⟩:=y;subst e;exact hs i x σ _ (y xs q) p
 have e:i=xs.length:=by lia
 subst e;exact .inl ⟨⟨xs,q,zA2 _⟩,hd σ H p⟩
theorem qag8{lo:Int}{g:TG}{tb:TS}{D:Dl}{σ:St}{H:Hp}(Pv:Nat->St->Hp->Prop)(h0:Pv 0 σ H)(hs:∀ i σ H,i < n->Pv i σ H->g (.int (lo+i)) σ H λ σ2 H2=>tb { D with nx:=Pv (i+1),ct:=Pv (i+1),bk:=D.nx } σ2 H2)(hd:∀ σ H,Pv n σ H->D.nx σ H) :
   ∃ W:Nat->Nat->St->Hp->Prop,(∃ m,W 0 m σ H)/\∀ i m σ H,W i m σ H ->
     ((Itr lo n).stop i H/\D.nx σ H)∨((Itr lo n).go i H/\∃ N:St->Hp->Prop,(∀ σ' H',N σ' H'->∃ m',m' < m/\W (i+1) m' σ' H')/\∀ x H',(Itr lo n).yld i H x H'->g x σ H' λ σ2 H2=>tb { D with nx:=N,ct:=N,bk:=D.nx } σ2 H2):=by
 refine⟨λ i m σ H=>m=n - i/\i<=n/\Pv i σ H,⟨n,by simp,zBt _,h0⟩,?_⟩;rintro i m σ H ⟨rfl,hi,p⟩;by_cases hlt:i < n
 . refine .inr ⟨hlt,Pv (i+1),λ σ' H' p'=>⟨n - (i+1),by lia,rfl,hlt,p'⟩,λ x H' y=>?_⟩
   obtain⟨e,y⟩:=y;subst e y;exact hs i σ _ hlt p
 have e:i=n:=by lia
 subst e;exact .inl ⟨zA2 _,hd σ H p⟩
abbrev R2:=V->V->Hp->VK->Prop
def OpR(X:Cx)(f:Value->Value->Sem Value)(r:R2):Prop :=
 ∀(D6:List (Addr×Obj))(s:Shared)(σ:St)(H:Hp)(x y:V)(v u:Value)(Q:VK),Inv X D6 σ H s->RelV x v->RelV y u->r x y H Q ->
   wpAny (model X.prog X.w) X.A (f v u) (EP X D6 σ Q) X.xe s
def UnR(X:Cx)(f:Value->Sem Value)(r:V->Hp->VK->Prop):Prop :=
 ∀(D6:List (Addr×Obj))(s:Shared)(σ:St)(H:Hp)(x:V)(v:Value)(Q:VK),Inv X D6 σ H s->RelV x v->r x H Q ->
   wpAny (model X.prog X.w) X.A (f v) (EP X D6 σ Q) X.xe s
def CallR(X:Cx)(f:Value)(r:List V->Hp->VK->Prop):Prop :=
 ∀(D6:List (Addr×Obj))(s:Shared)(σ:St)(H:Hp)(xs:List V)(us:List Value)(Q:VK),Inv X D6 σ H s->Vals xs us->r xs H Q ->
   wpAny (model X.prog X.w) X.A (call f us) (EP X D6 σ Q) X.xe s
def tOp(r:R2)(ta tb:TE):TE:=λ σ H Q=>ta σ H λ x H1=>tb σ H1 λ y H2=>r x y H2 Q
def tUn(r:V->Hp->VK->Prop)(ta:TE):TE:=λ σ H Q=>ta σ H λ x H1=>r x H1 Q
def rI(C:Int->Int->Prop)(g:Int->Int->V):R2:=λ x y H Q=>∃ i j,x=.int i/\y=.int j/\C i j/\Q (g i j) H
def rI0(g:Int->Int->V):R2:=λ x y H Q=>∃ i j,x=.int i/\y=.int j/\Q (g i j) H
def rU(g:Int->V):V->Hp->VK->Prop:=λ x H Q=>∃ i,x=.int i/\Q (g i) H
section
variable{X:Cx}{a b:Expr}{ta tb:TE}{pos:Pos}
theorem binT(ha:PE X a ta)(hb:PE X b tb){D6:List (Addr×Obj)}{s:Shared}{σ:St}{H:Hp}{R:V->V->Hp->Prop}(I:Inv X D6 σ H s)(h:ta σ H λ x H1=>tb σ H1 λ y H2=>R x y H2){Q:Value->Shared->Prop}{f:Value->Value->Sem Value}(hf:∀ v u s2 x y H2,Inv X D6 σ H2 s2->RelV x v->RelV y u->R x y H2->wpAny (model X.prog X.w) X.A (f v u) Q X.xe s2) :
   wpAny (model X.prog X.w) X.A (eval a X.env) (λ v s₁=>wpAny (model X.prog X.w) X.A (eval b X.env) (λ u s₂=>wpAny (model X.prog X.w) X.A (f v u) Q X.xe s₂) X.xe s₁) X.xe s:=by
 refine thn (ha D6 s σ H _ I h) λ v s1 ⟨x,H1,I1,r1,q1⟩=>?_
 refine thn (hb D6 s1 σ H1 _ I1 q1) λ u s2 ⟨y,H2,I2,r2,q2⟩=>?_
 exact hf v u s2 x y H2 I2 r1 r2 q2
theorem pe_op{op:Operator}{r:R2}(ho:OpR X (binaryOp op) r)(ha:PE X a ta)(hb:PE X b tb):PE X (.BinOp a op b pos) (tOp r ta tb):=by
 intro D6 s σ H Q I h;exact wpAny_BinOp (binT ha hb I h λ v u s2 x y H2 I2 rx ry q=>ho D6 s2 σ H2 x y v u Q I2 rx ry q)
theorem pe_un{op:UnaryOp}{r:V->Hp->VK->Prop}(ho:UnR X (unaryOp op) r)(ha:PE X a ta):PE X (.UnaryOp op a pos) (tUn r ta):=by
 intro D6 s σ H Q I h;exact UnaryOp_ (thn (ha D6 s σ H _ I h) λ v s1 ⟨x,H1,I1,r1,q1⟩=>ho D6 s1 σ H1 x v Q I1 r1 q1)
theorem opI{f:Value->Value->Sem Value}{C:Int->Int->Prop}{g:Int->Int->Int}(rule:∀(i j:Int)(t u:Tok)(s:Shared)(Q:Value->Shared->Prop)(E:Value->Shared->Prop),C i j->Q (.int (g i j) s.toks) { s with toks:=s.toks+1 }->wpAny (model X.prog X.w) X.A (f (.int i t) (.int j u)) Q E s) :
   OpR X f (rI C λ i j=>.int (g i j)):=by
 intro D6 s σ H x y v u Q I rx ry h;obtain⟨i,j,rfl,rfl,hc,q⟩:=h;obtain⟨t,rfl⟩:=rx;obtain⟨t',rfl⟩:=ry;exact rule i j t t' s _ _ hc ⟨.int (g i j),H,I.tok _,⟨_,rfl⟩,q⟩
theorem opI0{f:Value->Value->Sem Value}{g:Int->Int->Int}(rule:∀(i j:Int)(t u:Tok)(s:Shared)(Q:Value->Shared->Prop)(E:Value->Shared->Prop),Q (.int (g i j) s.toks) { s with toks:=s.toks+1 }->wpAny (model X.prog X.w) X.A (f (.int i t) (.int j u)) Q E s) :
   OpR X f (rI0 λ i j=>.int (g i j)):=by
 intro D6 s σ H x y v u Q I rx ry h;obtain⟨i,j,rfl,rfl,q⟩:=h;obtain⟨t,rfl⟩:=rx;obtain⟨t',rfl⟩:=ry;exact rule i j t t' s _ _ ⟨.int (g i j),H,I.tok _,⟨_,rfl⟩,q⟩
theorem opB0{f:Value->Value->Sem Value}{g:Int->Int->Bool}(rule:∀(i j:Int)(t u:Tok)(s:Shared)(Q:Value->Shared->Prop)(E:Value->Shared->Prop),Q (.bool (g i j)) s->wpAny (model X.prog X.w) X.A (f (.int i t) (.int j u)) Q E s) :
   OpR X f (rI0 λ i j=>.bl (g i j)):=by
 intro D6 s σ H x y v u Q I rx ry h;obtain⟨i,j,rfl,rfl,q⟩:=h;obtain⟨t,rfl⟩:=rx;obtain⟨t',rfl⟩:=ry;exact rule i j t t' s _ _ ⟨.bl (g i j),H,I,rfl,q⟩
def CPow(i j:Int):Prop:=0<=j/\j<=1000000/\i.natAbs < 2 ^ 64
def CMul(i j:Int):Prop:=(-(2 ^ 64) < i/\i < 2 ^ 64)∨(-(2 ^ 64) < j/\j < 2 ^ 64)
theorem CMul.ok{i j:Int}(h:CMul i j):IntMulOk i j:=by
 rcases h with⟨h1,h2⟩ | ⟨h1,h2⟩
 . exact .of_left (intBits_le_64 h1 h2)
 exact .of_right (intBits_le_64 h1 h2)
theorem qaJ5:OpR X (binaryOp .Add) (rI0 λ i j=>.int (i+j)):=opI0 λ _ _ _ _ _ _ _ q=>add_int q
theorem qA2:OpR X (binaryOp .Sub) (rI0 λ i j=>.int (i - j)):=opI0 λ _ _ _ _ _ _ _ q=>sub_int q
theorem qaI9:OpR X (binaryOp .Mult) (rI CMul λ i j=>.int (i * j)):=opI λ _ _ _ _ _ _ _ hc q=>mul_int q hc.ok
theorem qk9:OpR X (binaryOp .Mod) (rI (λ _ j=>0 < j) λ i j=>.int (i % j)):=opI λ i j _ _ _ _ _ hc q=>by
 have h1:(0:Int) < j:=hc;exact mod_int' (by lia) (by rw[Int.fmod_eq_emod_of_nonneg i (by lia)];exact q)
theorem qaI7:OpR X (binaryOp .Pow) (rI CPow λ i j=>.int (i ^ j.toNat)):=opI λ _ _ _ _ _ _ _ hc q=>pow_int_small hc.1 hc.2.1 hc.2.2 q
theorem unI{f:Value->Sem Value}{g:Int->Int}(rule:∀(i:Int)(t:Tok)(s:Shared)(Q:Value->Shared->Prop)(E:Value->Shared->Prop),Q (.int (g i) s.toks) { s with toks:=s.toks+1 }->wpAny (model X.prog X.w) X.A (f (.int i t)) Q E s) :
   UnR X f (rU λ i=>.int (g i)):=by
 intro D6 s σ H x v Q I rx h;obtain⟨i,rfl,q⟩:=h;obtain⟨t,rfl⟩:=rx;exact rule i t s _ _ ⟨.int (g i),H,I.tok _,⟨_,rfl⟩,q⟩
theorem qaF9:UnR X (unaryOp .USub) (rU λ i=>.int (-i)):=unI λ _ _ _ _ _ q=>neg_int q
end
section
variable{X:Cx}{a b c:Expr}{ta tb tc:TE}{pos:Pos}
theorem qaD7{D6:List (Addr×Obj)}{σ:St}{H:Hp}{s:Shared}{Q:VK}{k k':Bool}(I:Inv X D6 σ H s)(q:Q (.bl k) H)(e:k=k'):EP X D6 σ Q (.bool k') s:=by
 subst e;exact⟨.bl k,H,I,rfl,q⟩
theorem Ha:OpR X (compareOp .Lt) (rI0 λ i j=>.bl (decide (i < j))):=opB0 λ _ _ _ _ _ _ _ q=>lt_int q
theorem op_le:OpR X (compareOp .LtE) (rI0 λ i j=>.bl (decide (i<=j))):=opB0 λ _ _ _ _ _ _ _ q=>le_int q
theorem De:OpR X (compareOp .Gt) (rI0 λ i j=>.bl (decide (j < i))):=opB0 λ _ _ _ _ _ _ _ q=>gt_int q
theorem Gb:OpR X (compareOp .GtE) (rI0 λ i j=>.bl (decide (j<=i))):=opB0 λ _ _ _ _ _ _ _ q=>ge_int q
theorem qaJ0:OpR X (compareOp .Is) (λ x y H Q=>y=.non/\Q (.bl (decide (x=.non))) H):=by
 intro D6 s σ H x y v u Q I rx ry h;obtain⟨rfl,q⟩:=h;cases ry;refine is_none_gen (qaD7 I q ?_);cases x<;>first
   | (cases rx;rfl)
   | (obtain⟨t,rfl⟩:=rx;rfl)
theorem qaA0:OpR X (compareOp .IsNot) (λ x y H Q=>y=.non/\Q (.bl (!decide (x=.non))) H):=by
 intro D6 s σ H x y v u Q I rx ry h;obtain⟨rfl,q⟩:=h;cases ry;refine isnot_none_gen (qaD7 I q ?_);cases x<;>first
   | (cases rx;rfl)
   | (obtain⟨t,rfl⟩:=rx;rfl)
theorem OpR.or{f:Value->Value->Sem Value}{r r':R2}(h:OpR X f r)(h':OpR X f r'):OpR X f (λ x y H Q=>r x y H Q∨r' x y H Q):=by
 intro D6 s σ H x y v u Q I rx ry q;rcases q with q | q
 . exact h D6 s σ H x y v u Q I rx ry q
 exact h' D6 s σ H x y v u Q I rx ry q
theorem qb3(b:Expr)(h:op≠.In:=by decide)(h2:op≠.NotIn:=by decide):behindInMarks op b=false:=by
 have e1:(op == CmpOp.In)=false:=by cases op<;>first | rfl | exact absurd rfl h
 have e2:(op == CmpOp.NotIn)=false:=by cases op<;>first | rfl | exact absurd rfl h2
 cases b<;>simp[behindInMarks,e1,e2]
theorem qaz3{r:R2}(ho:OpR X (compareOp op) r)(ha:PE X a ta)(hb:PE X b tb)(hm:behindInMarks op b=false):PE X (.Compare a [op] [b] pos) (tOp r ta tb):=by
 intro D6 s σ H Q I h;exact wpAny_Compare1 (binT ha hb I h λ v u s2 x y H2 I2 rx ry q=>ho D6 s2 σ H2 x y v u Q I2 rx ry q) hm
def tTest(t:TE):TT:=λ σ H Q=>t σ H λ x H'=>∃ k,x=.bl k/\Q k H'
theorem qax3{r:R2}(ho:OpR X (compareOp op) r)(ha:PE X a ta)(hb:PE X b tb)(hm:behindInMarks op b=false):PT X (.Compare a [op] [b] pos) (tTest (tOp r ta tb)):=by
 intro D6 s σ H Q I h;refine wpAny_isTrue_Compare1 (thn (ha D6 s σ H _ I h) λ v s1 ⟨x,H1,I1,r1,q1⟩=>thn (hb D6 s1 σ H1 _ I1 q1) λ u s2 ⟨y,H2,I2,r2,q2⟩ =>
   thn (ho D6 s2 σ H2 x y v u _ I2 r1 r2 q2) λ c s3 ⟨z,H3,I3,r3,k,e,q3⟩=>?_) hm
 subst e;cases r3;exact wpAny_truthy_bool ⟨H3,I3,q3⟩
def qav8(r r':R2)(ta tb tc:TE):TE:=λ σ H Q=>ta σ H λ x H1=>tb σ H1 λ y H2=>r x y H2 λ z H3=>∃ k,z=.bl k /\
 (if k=true then tc σ H3 λ w' H4=>r' y w' H4 Q else Q (.bl false) H3)
theorem qaq3{op':CmpOp}{r r':R2}(ho:OpR X (compareOp op) r)(ho':OpR X (compareOp op') r')(ha:PE X a ta)(hb:PE X b tb)(hc:PE X c tc)(hm:lastMarks [op,op'] [b,c]=false:=by with_unfolding_all rfl):PE X (.Compare a [op,op'] [b,c] pos) (qav8 r r' ta tb tc):=by
 intro D6 s σ H Q I h;refine Compare_chain (thn (ha D6 s σ H _ I h) λ v s1 ⟨x,H1,I1,r1,q1⟩=>chain_link (thn (hb D6 s1 σ H1 _ I1 q1) λ u s2 ⟨y,H2,I2,r2,q2⟩ =>
   thn (ho D6 s2 σ H2 x y v u _ I2 r1 r2 q2) λ d s3 ⟨z,H3,I3,r3,k,e,q3⟩=>?_)) hm
 subst e;cases r3;refine wpAny_truthy_bool ?_;cases k with
 | false=>exact ite_ff ⟨.bl false,H3,I3,rfl,q3⟩
 | true=>exact ite_tt (chain_last (thn (hc D6 s3 σ H3 _ I3 q3) λ w' s4 ⟨z',H4,I4,r4,q4⟩=>ho' D6 s4 σ H4 y z' u w' Q I4 r2 r4 q4))
theorem qJ8:(sizeLine:Nat) < 2 ^ 63:=by rw[sizeLine_eq];decide
theorem qX4:OpR X (binaryOp .Add) (λ x y H Q=>∃ i j,x=.str i/\y=.str j/\i.length+j.length<=sizeLine/\Q (.str (i++j)) H):=by
 intro D6 s σ H x y v u Q I rx ry h;obtain⟨i,j,rfl,rfl,hz,q⟩:=h;obtain⟨t,rfl⟩:=rx;obtain⟨t',rfl⟩:=ry;exact add_str (λ t' tk=>⟨.str (i++j),H,I.tok _,⟨_,rfl⟩,q⟩) hz
theorem Bl{x:V}(r:Vals [x] us):∃ u,us=[u]/\RelV x u:=by
 cases r with
 | cons r1 r2=>cases r2;exact⟨_,rfl,r1⟩
theorem Gc{x y:V}(r:Vals [x,y] us):∃ u w',us=[u,w']/\RelV x u/\RelV y w':=by
 cases r with
 | cons r1 r2 =>
   cases r2 with
   | cons r3 r4=>cases r4;exact⟨_,_,rfl,r1,r3⟩
theorem qau5:CallR X (.builtin "abs") (λ xs H Q=>∃ i,xs=[.int i]/\Q (.int (if i < 0 then -i else i)) H):=by
 intro D6 s σ H xs us Q I r h;obtain⟨i,rfl,q⟩:=h;obtain⟨u,rfl,t,rfl⟩:=Bl r;exact call_abs_int λ u tk=>⟨.int (if i < 0 then -i else i),H,I.tok _,⟨_,rfl⟩,q⟩
theorem qC5(hc:X.calm=true):CallR X (.builtin "max") (λ xs H Q=>∃ i j,xs=[.int i,.int j]/\Q (.int (if j > i then j else i)) H):=by
 intro D6 s σ H xs us Q I r h;obtain⟨i,j,rfl,q⟩:=h;obtain⟨u,w',rfl,⟨t,rfl⟩,⟨t',rfl⟩⟩:=Gc r;refine max_two_ints (I.ok.hd hc) λ h' tk k=>⟨_,H,I.kept k,?_,q⟩
 by_cases hj:j > i
 . rw[if_pos hj,if_pos hj];exact⟨_,rfl⟩
 rw[if_neg hj,if_neg hj];exact⟨_,rfl⟩
theorem qr5(hc:X.calm=true):CallR X (.builtin "min") (λ xs H Q=>∃ i j,xs=[.int i,.int j]/\Q (.int (if j < i then j else i)) H):=by
 intro D6 s σ H xs us Q I r h;obtain⟨i,j,rfl,q⟩:=h;obtain⟨u,w',rfl,⟨t,rfl⟩,⟨t',rfl⟩⟩:=Gc r;refine min_two_ints (I.ok.hd hc) λ h' tk k=>⟨_,H,I.kept k,?_,q⟩
 by_cases hj:j < i
 . rw[if_pos hj,if_pos hj];exact⟨_,rfl⟩
 rw[if_neg hj,if_neg hj];exact⟨_,rfl⟩
theorem qai4:CallR X (.type "int") (λ xs H Q=>(∃ i,xs=[.int i]/\Q (.int i) H)∨∃ k,xs=[.bl k]/\Q (.int (if k then 1 else 0)) H):=by
 intro D6 s σ H xs us Q I r h;rcases h with⟨i,rfl,q⟩ | ⟨k,rfl,q⟩
 . obtain⟨u,rfl,t,rfl⟩:=Bl r
   exact call_int_int ⟨.int i,H,I,⟨_,rfl⟩,q⟩
 obtain⟨u,rfl,r1⟩:=Bl r;cases r1;exact call_int_bool ⟨.int (if k then 1 else 0),H,I.tok _,⟨_,rfl⟩,q⟩
end
structure ObjM(h:Heap)(x dx C:Addr)(mA:Str->Option Value):Prop where
 obj:h.get? x=some (PySem.W.instObj C dx)
 ns:h.Ns1 dx mA
 ne:dx≠x
theorem qag0{h:Heap}{dx:Addr}{mA:Str->Option Value}(n:h.Ns1 dx mA):∃ od,h.get? dx=some od/\∀ name,PySem.W.lookIn name od=some (mA name):=by
 obtain⟨o,es,ep,ho,hd,hk,_,hm⟩:=n;refine⟨o,ho,λ name=>?_⟩;have e:=hm name;unfold nsFind findBy at e;rw[<- Array.find?_toList] at e;unfold PySem.W.lookIn;rw[hd];dsimp only;split
 . rename_i y q
   rw[q] at e;exact congrArg some e
 rename_i q
 rw[q] at e;have a:es.toList.any (·.refKey)=false:=by
   rw[List.any_eq_false];intro y hy;obtain⟨z,t,hkey⟩:=hk y (Array.mem_toList_iff.mp hy);simp[DictEntry.refKey,hkey]
 have a':¬ es.toList.any (·.refKey)=true:=by rw[a];exact zAj
 rw[if_neg a'];exact congrArg some e
theorem ObjM.look{h:Heap}{x dx C:Addr}{mA:Str->Option Value}(I:ObjM h x dx C mA):∃ od,PySem.W.InstAt h x (PySem.W.instObj C dx) C (some od)/\∀ name,PySem.W.lookIn name od=some (mA name) :=
 let ⟨od,ho,hl⟩:=qag0 I.ns
 ⟨od,⟨I.obj,rfl,rfl,ho⟩,hl⟩
section
variable{prog:Program}{w:World}{A:Around}{E:Value->Shared->Prop}{s:Shared}{K:PySem.W.Frag}{x dx C f:Addr}{mA:Str->Option Value}{name:Str}{v:Value}
theorem qaD2{expr:Bool}{Q:Value->Shared->Prop}(X:K.In s.heap)(I:ObjM s.heap x dx C mA)(hg:PySem.W.plainGet K C name=true)(hh:PySem.W.hasDictIn K C=true)(ha:PySem.W.findIn K (.ref C) name=some none)(hv:mA name=some v)(hv':PySem.W.handedIn v=true)(h:Q v { s with toks:=s.toks+1 }) :
   wpAny (model prog w) A (getAttr (.ref x) name expr) Q E s:=by
 obtain⟨od,J,hl⟩:=I.look;exact PySem.W.get_value X J (PySem.W.plainGet_of hg).1 (PySem.W.findObj_own hh ha rfl (by rw[hl,hv])) hv' h
theorem qat2{Q:Value×List Value->Shared->Prop}(X:K.In s.heap)(I:ObjM s.heap x dx C mA)(hg:PySem.W.plainGet K C name=true)(hf:PySem.W.findIn K (.ref C) name=some (some (.ref f)))(ht:PySem.W.isFn K (.ref f)=true)(hv:mA name=none)(h:Q (.ref f,[.ref x]) s) :
   wpAny (model prog w) A (getMethod (.ref x) name pl) Q E s:=by
 obtain⟨od,J,hl⟩:=I.look;exact PySem.W.method_fn X J (PySem.W.plainGet_of hg).1 (PySem.W.plainGet_of hg).2 hf (zC2.mp ht) (by show (PySem.W.lookIn name od).map (·.isSome)=some false;rw[hl,hv];rfl) h
theorem qaw2{ns:List Str}{Q:Unit->Shared->Prop}(X:K.In s.heap)(I:ObjM s.heap x dx C mA)(hs:PySem.W.findIn K (.ref C) "__setattr__" = some (some (.builtin "object.__setattr__")))(hp:PySem.W.plainOver K C=true)(ht:PySem.W.takerIn K C name=some none)(hh:PySem.W.hasDictIn K C=true)(hw:PySem.Within mA ns)(hsz:ns.length<=sizeLine)(h:∀ h',ObjM h' x dx C (λ y=>if y=name then some v else mA y)->Heap.SameBut dx s.heap h'->Q () { s with heap:=h',toks:=s.toks+2 }) :
   wpAny (model prog w) A (setAttr (.ref x) name v) Q E s:=by
 obtain⟨od,J,hl⟩:=I.look;refine PySem.W.set_plain X J hs (PySem.W.osa_open (s:={ s with toks:=s.toks+1 }) (r:=none) X J hp ht λ b=>?_);obtain⟨cd,hc,hd'⟩:=PySem.W.any_some hh;have hx:s.heap.get? x=some ⟨.ref C,some dx,.plain,#[]⟩:=I.obj;refine wpAny_bind (wpAny_pure (wpAny_bind (wpAny_bind (wpAny_loadPart hx (wpAny_bind (PySem.W.Looks.here (s:={ s with toks:=s.toks+1 }) (PySem.W.looks_clsIn X hc) ?_))))));rw[hd'];refine wpAny_pure (a:=some dx) (wpAny_bind (wpAny_pure (wpAny_bind ?_)));refine wpAny_nsSet1 (s:={ s with toks:=s.toks+1 }) I.ns λ h' hn2 hs2=>?_
 obtain⟨oD,esD,epD,hoD,hdD,hcD⟩:=hn2.count (PySem.Within.cons name v hw);refine wpAny_bind (wpAny_lookBehind hoD (by rw[hdD];exact pastItsLine_dict (zAn hcD (by rw[zAk];lia))) ?_);exact wpAny_pure (h _ ⟨(hs2.2 _ (Ne.symm I.ne)).trans I.obj,hn2,I.ne⟩ hs2)
theorem qar9{R:Result->Shared->Prop}{vs:List Value}(X:K.In s.heap)(hm:PySem.W.makesIn K C=true)(hi:PySem.W.findIn K (.ref C) "__init__" = some (some (.ref f)))(hf:PySem.W.typeIn K (.ref f)=some (.type "function"))(h:codeAny (model prog w) (A.under (.builtin "type.__call__" ⟨.ref C::vs,kw⟩)) (.call (.ref f) ⟨.ref (s.heap.objs.size+1)::vs,kw⟩) (PySem.W.InitBack (s.heap.objs.size+1) R)
     { s with heap:=(s.heap.push PySem.W.emptyDict).push (PySem.W.instObj C s.heap.objs.size) }) :
   codeAny (model prog w) A (.call (.ref C) ⟨vs,kw⟩) R s:=by
 obtain⟨hh,g,d,t,os⟩:=s;exact PySem.W.make_core (PySem.W.makes_of X hm) (PySem.W.looks_findIn X hi) (λ self=>PySem.W.bind_fn X self hf) (.inl rfl) h
end
def Bm(f:Str)(v:V):List (Str×V)->List (Str×V)
 | []=>[(f,v)]
 | (g,x)::r=>if g=f then (g,v)::r else (g,x)::Bm f v r
theorem qy0(f g:Str)(v:V):∀ fs:List (Str×V),(Bm f v fs).lookup g=if g=f then some v else fs.lookup g
 | []=>by
   show List.lookup g [(f,v)]=_;by_cases h:g=f
   . have hb:(g == f)=true:=zC2.mpr h
     simp only[List.lookup,hb,if_pos h]
   have hb:(g == f)=false:=zC5.mpr h;simp only[List.lookup,hb,if_neg h]
 | (k,x)::r=>by
   have ih:=qy0 f g v r;rw[show Bm f v ((k,x)::r)=(if k=f then (k,v)::r else (k,x)::Bm f v r) from rfl];by_cases hk:k=f
   . rw[if_pos hk]
     by_cases h:g=k
     . have hb:(g == k)=true:=zC2.mpr h
       simp only[List.lookup,hb,if_pos (h.trans hk)]
     have hb:(g == k)=false:=zC5.mpr h;simp only[List.lookup,hb,if_neg (λ e:g=f=>h (e.trans hk.symm))]
   rw[if_neg hk];by_cases h:g=k
   . have hb:(g == k)=true:=zC2.mpr h
     simp only[List.lookup,hb,if_neg (λ e:g=f=>hk (h.symm.trans e))]
   have hb:(g == k)=false:=zC5.mpr h;simp only[List.lookup,hb];exact ih
theorem qB2(f:Str)(v:V):∀ fs:List (Str×V),f∈(Bm f v fs).map (·.1)/\∀ g,g∈fs.map (·.1)->g∈(Bm f v fs).map (·.1)
 | []=>⟨by simp[Bm],λ g h=>by simp at h⟩
 | (k,x)::r=>by
   obtain⟨i1,i2⟩:=qB2 f v r;rw[show Bm f v ((k,x)::r)=(if k=f then (k,v)::r else (k,x)::Bm f v r) from rfl];by_cases hk:k=f
   . rw[if_pos hk]
     subst hk;exact⟨by simp,λ g h=>by simpa using h⟩
   rw[if_neg hk];refine⟨?_,λ g h=>?_⟩
   . rw[zAx]
     exact zA6 _ i1
   rw[zAx] at h ⊢;rcases zAm.mp h with e | e
   . exact zAm.mpr (.inl e)
   exact zA6 _ (i2 g e)
theorem qy2(f:Str)(v:V):∀ fs:List (Str×V),(Bm f v fs).length<=fs.length+1
 | []=>by simp[Bm]
 | (k,x)::r=>by
   have ih:=qy2 f v r;rw[show Bm f v ((k,x)::r)=(if k=f then (k,v)::r else (k,x)::Bm f v r) from rfl];by_cases hk:k=f
   . rw[if_pos hk,zAk,zAk];lia
   rw[if_neg hk,zAk,zAk];lia
theorem RelO.some_of{v:V}{o:Option Value}(r:RelO (some v) o):∃ u,o=some u/\RelV v u:=by
 cases o with
 | none=>exact(show False from r).elim
 | some u=>exact⟨u,rfl,r⟩
theorem RelO.none_of{o:Option Value}(r:RelO none o):o=none:=by
 cases o with
 | none=>rfl
 | some u=>exact(show False from r).elim
theorem qag6{v:V}{u:Value}(r:RelV v u):PySem.W.handedIn u=true:=by
 cases v with
 | non=>cases (show u=Value.none from r);rfl
 | bl b=>cases (show u=Value.bool b from r);rfl
 | int i=>obtain⟨t,e⟩:=(show ∃ t,u=Value.int i t from r);cases e;rfl
 | str x=>obtain⟨t,e⟩:=(show ∃ t,u=Value.str x t from r);cases e;rfl
 | byt b=>obtain⟨t,e⟩:=(show ∃ t,u=Value.bytes b t from r);cases e;rfl
 | flt b=>obtain⟨t,e⟩:=(show ∃ t,u=Value.float b t from r);cases e;rfl
 | ref a=>cases (show u=Value.ref a from r);rfl
 | ty n=>cases (show u=Value.type n from r);rfl
section
variable{P:Program}{w:World}{H:Hp}{h:Heap}{a C dx:Addr}{fs:List (Str×V)}
theorem qN6(hok:HOk P w H h)(e:H a=some (.ins C dx fs)):∃ mA,ObjM h a dx C mA/\(∀ f,RelO (fs.lookup f) (mA f))/\PySem.Within mA (fs.map (·.1))/\fs.length<=1000/\H dx=some (.own a):=by
 obtain⟨d,z,ne,ob,mA,n,r,q⟩:=(show ObjOk P w H h a (.ins C dx fs) from hok a _ e)
 exact⟨mA,⟨ob,n,ne⟩,r,q,z,d⟩
end
structure Cls(K:PySem.W.Frag)(C:Addr):Prop where
 pg:PySem.W.plainGet K C Str.empty=true
 hd:PySem.W.hasDictIn K C=true
 po:PySem.W.plainOver K C=true
 sa:PySem.W.findIn K (.ref C) "__setattr__" = some (some (.builtin "object.__setattr__"))
theorem Cls.get{K:PySem.W.Frag}{C:Addr}(c:Cls K C)(f:Str):PySem.W.plainGet K C f=true:=c.pg
def qf1(K:PySem.W.Frag)(C:Addr)(f:Str):Prop:=PySem.W.findIn K (.ref C) f=some none
theorem qf1.taker{K:PySem.W.Frag}{C:Addr}{f:Str}(n:qf1 K C f):PySem.W.takerIn K C f=some none:=by
 unfold PySem.W.takerIn;rw[show PySem.W.findIn K (.ref C) f=some none from n];rfl
structure Gu(K:PySem.W.Frag)(C:Addr)(m:Str)(f:Addr):Prop where
 at_:PySem.W.findIn K (.ref C) m=some (some (.ref f))
 fn:PySem.W.isFn K (.ref f)=true
 kp:PySem.W.keepIn K (.ref f)=true
section
variable{X:Cx}{D6:List (Addr×Obj)}{σ:St}{H:Hp}{s:Shared}{a C dx:Addr}{fs:List (Str×V)}{f:Str}{v:V}{A:Around}{E:Value->Shared->Prop}
theorem qZ6{b:Bool}{Q:Value->Shared->Prop}(I:Inv X D6 σ H s)(e:H a=some (.ins C dx fs))(c:Cls X.K C)(n:qf1 X.K C f)(l:fs.lookup f=some v)(h:∀ u s',Inv X D6 σ H s'->RelV v u->Q u s'):wpAny (model X.prog X.w) A (getAttr (.ref a) f b) Q E s:=by
 obtain⟨mA,O,r,_,_,_⟩:=qN6 I.hok e;obtain⟨u,hu,ru⟩:=RelO.some_of (v:=v) (o:=mA f) (by rw[<- l];exact r f);exact qaD2 I.kIn O (c.get f) c.hd n hu (qag6 ru) (h u _ (I.tok _) ru)
theorem qu4{m:Str}{g:Addr}{Q:Value×List Value->Shared->Prop}(I:Inv X D6 σ H s)(e:H a=some (.ins C dx fs))(c:Cls X.K C)(k:Gu X.K C m g)(l:fs.lookup m=none)(h:Q (.ref g,[.ref a]) s):wpAny (model X.prog X.w) A (getMethod (.ref a) m pl) Q E s:=by
 obtain⟨mA,O,r,_,_,_⟩:=qN6 I.hok e;have hn:mA m=none:=RelO.none_of (by rw[<- l];exact r m);exact qat2 I.kIn O (c.get m) k.at_ k.fn hn h
theorem qV8{y:V}{u:Value}{Q:Unit->Shared->Prop}(I:Inv X D6 σ H s)(e:H a=some (.ins C dx fs))(c:Cls X.K C)(n:qf1 X.K C f)(hl:fs.length < 1000)(ry:RelV y u)(h:∀ s',Inv X D6 σ (upd H a (.ins C dx (Bm f y fs))) s'->Q () s'):wpAny (model X.prog X.w) A (setAttr (.ref a) f u) Q E s:=by
 obtain⟨mA,O,r,wi,_,ho⟩:=qN6 I.hok e;have hz:(fs.map (·.1)).length<=sizeLine:=by rw[zAa,sizeLine_eq];lia
 refine qaw2 I.kIn O c.sa c.po n.taker c.hd wi hz λ h' O' sb=>h _ ?_
 have hd:∃ o,h'.get? dx=some o:=let ⟨o,_,_,e',_⟩:=O'.ns;⟨o,e'⟩
 refine I.write (x:=a) (e:=dx) (by rw[e];exact True.intro) (.inr ho) (λ b q hb z=>(sb.2 b hb).trans z) hd ?_;refine⟨by rw[qc7 O.ne];exact ho,?_,O.ne,O'.obj,_,O'.ns,λ g=>?_,λ g hg=>?_⟩
 . have:=qy2 f y fs;lia
 . show RelO ((Bm f y fs).lookup g) (if g=f then some u else mA g)
   rw[qy0];by_cases q:g=f
   . rw[if_pos q,if_pos q];exact ry
   rw[if_neg q,if_neg q];exact r g
 by_cases q:g=f
 . rw[q];exact(qB2 f y fs).1
 refine(qB2 f y fs).2 g (wi g λ z=>hg ?_);show (if g=f then some u else mA g)=none;rw[if_neg q];exact z
theorem Inv.made(I:Inv X D6 σ H s):Inv X D6 σ (upd (upd H s.heap.objs.size (.own (s.heap.objs.size+1))) (s.heap.objs.size+1) (.ins C s.heap.objs.size []))
   { s with heap:=(s.heap.push PySem.W.emptyDict).push (PySem.W.instObj C s.heap.objs.size) }:=by
 have e1:(s.heap.push PySem.W.emptyDict).get? s.heap.objs.size=some PySem.W.emptyDict:=zB0 s.heap rfl;have e2:((s.heap.push PySem.W.emptyDict).push (PySem.W.instObj C s.heap.objs.size)).get? (s.heap.objs.size+1)=some (PySem.W.instObj C s.heap.objs.size):=by
   have:=zB0 (s.heap.push PySem.W.emptyDict) (o:=PySem.W.instObj C s.heap.objs.size) rfl
   rwa[Heap.size_push] at this
 have e3:(s.heap.push PySem.W.emptyDict).Ns s.heap.objs.size (λ _=>none):=⟨PySem.W.emptyDict,#[],_,e1,rfl,(λ e he=>absurd he (by simp)),λ _=>rfl⟩
 have I1:=I.laid (a:=s.heap.objs.size) (o:=.own (s.heap.objs.size+1)) (h':=s.heap.push PySem.W.emptyDict) (t':=s.toks) (λ b u q=>zA3 _ q) (zA2 _) ⟨_,e1⟩;refine I1.laid (a:=s.heap.objs.size+1) (o:=.ins C s.heap.objs.size []) (t':=s.toks) (λ b u q=>zA3 _ q) (zCc (Heap.size_push _ _)) ?_;have ne:s.heap.objs.size≠s.heap.objs.size+1:=zAr (zC8 _);refine⟨by rw[qc7 ne,qb8],zBt _,ne,e2,λ _=>none,(Heap.Ns1.of_empty e3).at λ o q=>zA3 _ q,λ _=>True.intro,λ y hy=>absurd rfl hy⟩
theorem qaE9{prog:Program}{w:World}{env:Env}{e:Expr}{f:Str}{pos:Pos}{s:Shared}{Q:Value->Shared->Prop}(hb:attributeBase e f env (eval e env)=eval e env)(h:wpAny (model prog w) A (eval e env) (λ o s₁=>wpAny (model prog w) A (getAttr o f true) Q E s₁) E s):wpAny (model prog w) A (eval (.Attribute e f pos) env) Q E s :=
 Attribute_any_ h (by rw[arm_eval_Attribute,hb])
end
def tFld(K:PySem.W.Frag)(ta:TE)(f:Str):TE:=λ σ H Q=>ta σ H λ x H1=>∃ a C dx fs v,x=.ref a/\H1 a=some (.ins C dx fs)/\Cls K C/\qf1 K C f/\fs.lookup f=some v/\Q v H1
def sFld(K:PySem.W.Frag)(ta tv:TE)(f:Str):TS:=λ D σ H=>tv σ H λ y H1=>ta σ H1 λ x H2=>∃ a C dx fs,x=.ref a/\H2 a=some (.ins C dx fs)/\Cls K C/\qf1 K C f/\fs.length < 1000 /\
 D.nx σ (upd H2 a (.ins C dx (Bm f y fs)))
section
variable{X:Cx}{o e value:Expr}{f:Str}{pos pos':Pos}{ta tv:TE}
theorem qaz1(he:PE X e ta)(hb:attributeBase e f X.env (eval e X.env)=eval e X.env):PE X (.Attribute e f pos) (tFld X.K ta f):=by
 intro D6 s σ H Q I h;refine qaE9 hb (thn (he D6 s σ H _ I h) λ u s1 ⟨x,H1,I1,rx,a,C,dx,fs,v,ex,ea,c,n,l,q⟩=>?_);subst ex;obtain rfl:u=Value.ref a:=rx;exact qZ6 I1 ea c n l λ u' s2 I2 ru=>⟨v,H1,I2,ru,q⟩
theorem qaH2(ha:PE X o ta)(hv:PE X value tv)(hs:swapsWith value (some (.Attribute o f pos')) pos.line X.env=pure false):PS X (.Assign [.Attribute o f pos'] value pos) (sFld X.K ta tv f):=by
 intro D6 s σ H D I h;refine plainObj_wpAny_Assign_Attribute (thn (hv D6 s σ H _ I h) λ u s1 ⟨y,H1,I1,ry,q⟩=>thn (ha D6 s1 σ H1 _ I1 q) λ ov s2 ⟨x,H2,I2,rx,a,C,dx,fs,ex,ea,c,n,l,q2⟩=>?_) hs;subst ex;obtain rfl:ov=Value.ref a:=rx;exact qV8 I2 ea c n l ry λ s3 I3=>⟨σ,_,I3,q2⟩
theorem qau8{m:Str}{apos:Pos}{args:List Expr}{D6:List (Addr×Obj)}{s:Shared}{σ:St}{H:Hp}{Q:Value->Shared->Prop}{te:TE}(he:PE X e te)(I:Inv X D6 σ H s)(h:te σ H λ x H1=>∃ a C dx fs g,x=.ref a/\H1 a=some (.ins C dx fs)/\Cls X.K C/\Gu X.K C m g/\fs.lookup m=none /\
     ∀ s1,Inv X D6 σ H1 s1->wpAny (model X.prog X.w) X.A (callWith pos (.ref g) [.ref a] (backTo pos (starEach args X.env)) (backToKw pos (keywordEach [] X.env))) Q X.xe s1)(ht:eval (.Call (.Attribute e m apos) args [] pos) X.env=(do
     let ov <- eval e X.env
     standAt apos.atName
     let (f,first) <- holding [ov] (getMethod ov m pl)
     callWith pos f first (backTo pos (starEach args X.env)) (backToKw pos (keywordEach [] X.env)))) :
   wpAny (model X.prog X.w) X.A (eval (.Call (.Attribute e m apos) args [] pos) X.env) Q X.xe s:=by
 refine PySem.W.methodCall_KW (pl:=pl) (thn (he D6 s σ H _ I h) λ u s1 ⟨x,H1,I1,rx,a,C,dx,fs,g,ex,ea,c,k,l,q⟩=>?_) ht;subst ex;obtain rfl:u=Value.ref a:=rx;exact qu4 I1 ea c k l (q s1 I1)
end
section
variable{X:Cx}{D6:List (Addr×Obj)}{σ:St}{H:Hp}{s:Shared}{A:Around}{E Q:Value->Shared->Prop}{c:Value}{b:Bool}
inductive Du(K:PySem.W.Frag)(H:Hp):V->Value->Prop where
 | non:Du K H .non (.type "NoneType")
 | bl (x:Bool):Du K H (.bl x) (.type "bool")
 | int (i:Int):Du K H (.int i) (.type "int")
 | str (x:Str):Du K H (.str x) (.type "str")
 | flt (x:UInt64):Du K H (.flt x) (.type "float")
 | lst {a:Addr} {xs:List V} (e:H a=some (.lst xs)):Du K H (.ref a) (.type "list")
 | frz {a:Addr} {o:Obj} {xs:List V} (e:H a=some (.frz o (.lst xs))):Du K H (.ref a) (.type "list")
 | tup {a:Addr} {xs:List V} (e:H a=some (.tup xs)):Du K H (.ref a) (.type "tuple")
 | dK {a:Addr} {kvs:List (Key×V)} (e:H a=some (.dK kvs)):Du K H (.ref a) (.type "dict")
 | dT {a:Addr} {kvs:List (List Key×V)} (e:H a=some (.dT kvs)):Du K H (.ref a) (.type "dict")
 | ins {a C dx:Addr} {fs:List (Str×V)} (e:H a=some (.ins C dx fs)) (cl:Cls K C) (ha:PySem.W.findIn K (.ref C) "__class__" = some (some (.builtin "object.__class__")))
     (hn:PySem.W.specialIn K (.builtin "object.__class__") "__get__" = some (some (.builtin "getset_descriptor.__get__"))) (htk:PySem.W.takesIn K (.builtin "object.__class__")=some true)
     (hm:PySem.W.mroIn K C (.type "object")=some true):Du K H (.ref a) (.ref C)
theorem qB4{x:V}{u t:Value}(I:Inv X D6 σ H s)(rx:RelV x u)(ty:Du X.K H x t)(e:PySem.W.kitOne X.K t c=some b)(h:∀ tk,Q (.bool b) { s with toks:=tk }) :
   wpAny (model X.prog X.w) A (call (.builtin "isinstance") [u,c]) Q E s:=by
 cases ty with
 | non=>cases (show u=Value.none from rx);exact PySem.W.kia_one PySem.W.kitx_none I.kIn True.intro e (λ z=>nomatch z) h
 | bl y=>cases (show u=Value.bool y from rx);exact PySem.W.kia_one PySem.W.kitx_bool I.kIn True.intro e (λ z=>nomatch z) h
 | int i=>obtain⟨t,q⟩:=(show ∃ t,u=Value.int i t from rx);cases q;exact PySem.W.kia_one PySem.W.kitx_int I.kIn True.intro e (λ z=>nomatch z) h
 | str y=>obtain⟨t,q⟩:=(show ∃ t,u=Value.str y t from rx);cases q;exact PySem.W.kia_one PySem.W.kitx_str I.kIn True.intro e (λ z=>nomatch z) h
 | flt y=>obtain⟨t,q⟩:=(show ∃ t,u=Value.float y t from rx);cases q;exact PySem.W.kia_one PySem.W.kitx_float I.kIn True.intro e (λ z=>nomatch z) h
 | @lst a xs ea =>
   cases (show u=Value.ref a from rx);obtain⟨_,_,n,_,h1⟩:=(show ObjOk X.prog X.w H s.heap a (.lst xs) from I.hok a _ ea)
   exact PySem.W.kia_one PySem.W.kitx_list I.kIn ⟨_,h1,rfl⟩ e (λ z=>nomatch z) h
 | @frz a ob xs ea =>
   cases (show u=Value.ref a from rx);obtain⟨_,_,_,n,_,h1⟩:=(show ObjOk X.prog X.w H s.heap a (.frz ob (.lst xs)) from I.hok a _ ea)
   exact PySem.W.kia_one PySem.W.kitx_list I.kIn ⟨_,h1,rfl⟩ e (λ z=>nomatch z) h
 | @tup a xs ea =>
   cases (show u=Value.ref a from rx);obtain⟨_,_,_,p⟩:=(show ObjOk X.prog X.w H s.heap a (.tup xs) from I.hok a _ ea)
   obtain⟨o,h1,h2,_⟩:=p;exact PySem.W.kia_one PySem.W.kitx_tuple I.kIn ⟨o,h1,h2⟩ e (λ z=>nomatch z) h
 | @dK a kvs ea =>
   cases (show u=Value.ref a from rx);obtain⟨_,_,vs,_,p⟩:=(show ObjOk X.prog X.w H s.heap a (.dK kvs) from I.hok a _ ea)
   obtain⟨o,es,ep,h1,h2,_⟩:=p;exact PySem.W.kia_one PySem.W.kitx_dict I.kIn ⟨o,h1,h2.1⟩ e (λ z=>nomatch z) h
 | @dT a kvs ea =>
   cases (show u=Value.ref a from rx);obtain⟨_,_,xs,_,o,es,ep,h1,h2,_⟩:=(show ObjOk X.prog X.w H s.heap a (.dT kvs) from I.hok a _ ea)
   exact PySem.W.kia_one PySem.W.kitx_dict I.kIn ⟨o,h1,h2.1⟩ e (λ z=>nomatch z) h
 | @ins a C dx fs ea cl ha hn htk hm =>
   cases (show u=Value.ref a from rx);obtain⟨mA,O,_⟩:=qN6 I.hok ea;obtain⟨od,J,_⟩:=O.look;exact PySem.W.kia_one (PySem.W.kitx_own (cl.get _) cl.hd ha hn htk hm) I.kIn J e (λ z=>nomatch z) h
end
structure Room(k:Nat)(A:Around):Prop where
 hd:A.handled=none
 dp:A.depth+3 * k+5 < recursionLimit
 un:A.units+16 * k+200 < cLine
theorem Room.mono{j k:Nat}{A:Around}(r:Room k A)(h:j<=k):Room j A:=⟨r.hd,by have:=r.dp;lia,by have:=r.un;lia⟩
theorem Room.deeper{k:Nat}{A:Around}(r:Room (k+1) A)(env:Env):Room k (A.deeper env) :=
 ⟨r.hd,by have:=r.dp;show A.depth+1+3 * k+5 < _;lia,by have:=r.un;show A.units+3+16 * k+200 < _;lia⟩
theorem qY4{A:Around}{C:Addr}:(A.under (.builtin "type.__call__" ⟨.ref C::us,kw⟩)).depth=A.depth+1:=by
 first | rfl | simp[Around.under,Code.weight,Code.isCreation,Code.isGuard,Code.isCaller,Code.frames,Code.isFrame,guardIds]
theorem qY3{A:Around}{C:Addr}:(A.under (.builtin "type.__call__" ⟨.ref C::us,kw⟩)).units=A.units+1:=by
 first | rfl | simp[Around.under,Code.cUnits,Code.frames,Code.isFrame]
theorem Room.make{k:Nat}{A:Around}(r:Room (k+1) A)(C:Addr)(us:List Value)(kw:List (Str×Value)):Room k (A.under (.builtin "type.__call__" ⟨.ref C::us,kw⟩)) :=
 ⟨r.hd,by have:=r.dp;rw[qY4];lia,by have:=r.un;rw[qY3];lia⟩
theorem Room.depth{k:Nat}{A:Around}(r:Room k A):A.depth < recursionLimit:=by have:=r.dp;lia
theorem Room.units{k:Nat}{A:Around}(r:Room k A):A.units+64 < cLine:=by have:=r.un;lia
def tNil:TA:=λ _ H Q=>Q [] H
def tCons(ta:TE)(tr:TA):TA:=λ σ H Q=>ta σ H λ x H1=>tr σ H1 λ xs H2=>Q (x::xs) H2
section
variable{X:Cx}{e:Expr}{es:List Expr}{te:TE}{t:TA}{pos:Pos}
theorem qA0:PA X [] tNil:=λ _ _ _ _ H Q I h=>Calls.spliced_nil ⟨[],H,I,.nil,h⟩
theorem qg4(ha:PE X e te)(hr:PA X es t)(hs:starEach (e::es) X.env=(false,eval e X.env)::starEach es X.env:=by rfl):PA X (e::es) (tCons te t):=by
 intro pos D6 s σ H Q I h;rw[hs];show wpAny _ _ (spliced ((false,eval e X.env)::backTo pos (starEach es X.env))) _ _ s;refine Calls.spliced_cons (thn (ha D6 s σ H _ I h) λ u s1 ⟨x,H1,I1,r1,q1⟩=>?_);exact thn (hr pos D6 s1 σ H1 _ I1 q1) λ us s2 ⟨xs,H2,I2,r2,q2⟩=>⟨x::xs,H2,I2,.cons r1 r2,q2⟩
def tTup(t:TA):TE:=λ σ H Q=>t σ H λ xs H1=>xs.length<=sizeLine/\∀ p,H1 p=none->Q (.ref p) (upd H1 p (.tup xs))
def tLst(t:TA):TE:=λ σ H Q=>t σ H λ xs H1=>xs.length<=sizeLine/\∀ p,H1 p=none->Q (.ref p) (upd H1 p (.lst xs))
theorem qay6{x1}(h:PA X es t):PE X (.Tuple es x1 pos) (tTup t):=by
 intro D6 s σ H Q I hq;refine wpAny_Tuple_spliced (thn (h pos D6 s σ H _ I hq) λ us s1 ⟨xs,H1,I1,r,z,q⟩=>⟨by rw[<- r.length];exact z,?_⟩);have hf:H1 s1.heap.objs.size=none:=I1.hok.fresh (zA2 _);refine⟨.ref s1.heap.objs.size,upd H1 s1.heap.objs.size (.tup xs),I1.laid (t':=s1.toks) (λ b u e=>zA3 _ e) (zA2 _) ?_,rfl,q _ hf⟩;exact⟨z,us,r,⟨_,zB0 _ rfl,rfl,_,rfl⟩⟩
theorem qaq0(h:PA X es t):PE X (.List es pos) (tLst t):=by
 intro D6 s σ H Q I hq;refine wpAny_List_spliced (thn (h pos D6 s σ H _ I hq) λ us s1 ⟨xs,H1,I1,r,z,q⟩=>⟨by rw[<- r.length];exact z,?_⟩);have hf:H1 s1.heap.objs.size=none:=I1.hok.fresh (zA2 _);refine⟨.ref s1.heap.objs.size,upd H1 s1.heap.objs.size (.lst xs),I1.laid (t':=s1.toks) (λ b u e=>zA3 _ e) (zA2 _) ?_,rfl,q _ hf⟩;exact⟨z,us,0,r,zB0 _ rfl⟩
end
abbrev Sp:=List V->Hp->VK->XK->Prop
abbrev CXT:=List Env->Hp->Shared->XK->Value->Shared->Prop
structure Env0(P:Program)(w:World)(K:PySem.W.Frag)(mg:Str->Option Value)(base:Heap)(A:Around)(outer:List Env)(s:Shared)(H:Hp):Prop where
 frames:A.frames=some outer
 mod:Mod K mg base
 bs:∀ b o,base.get? b=some o->s.heap.get? b=some o/\H b=none
 bsz:base.objs.size<=s.heap.objs.size
 funs:s.heap.FunFrames base outer
 frf:∀ b∈frs outer,H b=none
 hok:HOk P w H s.heap
 bare:AllBare s.gens
def CE(outer:List Env)(P:Program)(w:World)(H:Hp)(s:Shared)(Q:VK)(u:Value)(s':Shared):Prop :=
 ∃ v H',s'.os=s.os/\AllBare s'.gens/\Un (frs outer) [] H H' s.heap s'.heap/\HOk P w H' s'.heap/\RelV v u/\Q v H'
def CR(CX:CXT)(outer:List Env)(P:Program)(w:World)(H:Hp)(s:Shared)(Q:VK)(E:XK)(r:Result)(s':Shared):Prop :=
 match r with
 | .ok (.ret u)=>CE outer P w H s Q u s'
 | .ok _=>False
 | .error e=>CX outer H s E e s'
structure By(P:Program)(w:World)(K:PySem.W.Frag)(mg:Str->Option Value)(base:Heap)(CX:CXT)(k:Nat)(f:Addr)(fd:FuncData)(ps:List Str)(sp:Sp):Prop where
 len:∀ vs H Q E,sp vs H Q E->vs.length=ps.length
 run:∀(A:Around)(outer:List Env)(s:Shared)(H:Hp)(args:Args)(us:List Value)(vs:List V)(Q:VK)(E:XK),Room k A->Env0 P w K mg base A outer s H->BindsTo s fd args (ps.zip us)->Vals vs us->sp vs H Q E ->
   codeAny (model P w) A (.call (.ref f) args) (CR CX outer P w H s Q E) s
theorem Env0.make{P:Program}{w:World}{K:PySem.W.Frag}{A:Around}{outer:List Env}{s:Shared}{H:Hp}(e:Env0 P w K mg base A outer s H)(C:Addr)(us:List Value)(kw:List (Str×Value)) :
   Env0 P w K mg base (A.under (.builtin "type.__call__" ⟨.ref C::us,kw⟩)) outer s H:=⟨by first | exact e.frames | (simpa[Around.under,Code.envs,Code.isFrame,pushEnvs] using e.frames),e.mod,e.bs,e.bsz,e.funs,e.frf,e.hok,e.bare⟩
section
variable{X:Cx}{D6:List (Addr×Obj)}{σ:St}{H:Hp}{s s':Shared}
theorem Inv.env0(I:Inv X D6 σ H s):Env0 X.prog X.w X.K X.mg X.base X.A X.stack s H :=
 ⟨I.ok.frames,I.ok.mod,I.bs,zAn I.ok.bsz I.sz,I.stack,I.stkFree,I.hok,I.bare⟩
theorem Inv.after{Q:VK}{u:Value}(I:Inv X D6 σ H s)(h:CE X.stack X.prog X.w H s Q u s'):EP X D6 σ Q u s':=by
 obtain⟨v,H',os,bare,un,hok,r,q⟩:=h;obtain⟨hh,g,d,t,os'⟩:=s';obtain rfl:os'=s.os:=os;exact⟨v,H',I.call (h':=hh) (g':=g) (d':=d) (t':=t) (ch:=[]) un hok bare (λ b z=>absurd z (by simp)),r,q⟩
end
def Hb(sp:Sp)(dvs:List V)(E:XK)(t:TA):TE:=λ σ H Q=>t σ H λ vs H1=>sp (vs++dvs) H1 Q E
def Hc(C:Addr)(m:Str)(sp:Sp)(dvs:List V)(E:XK)(ta:TE)(t:TA):TE:=λ σ H Q=>ta σ H λ x H1=>∃ a dx fs,x=.ref a/\H1 a=some (.ins C dx fs)/\fs.lookup m=none /\
 t σ H1 λ vs H2=>sp (x::(vs++dvs)) H2 Q E
def tMake(C:Addr)(sp:Sp)(dvs:List V)(E:XK)(t:TA):TE:=λ σ H Q=>t σ H λ vs H1=>∀ x dx,H1 x=none->H1 dx=none->dx≠x ->
 sp (.ref x::(vs++dvs)) (upd (upd H1 dx (.own x)) x (.ins C dx [])) (λ v H2=>v=.non/\Q (.ref x) H2) E
def Binds(K:PySem.W.Frag)(fd:FuncData)(ps:List Str)(ds:List Value):Prop :=
 ∀(s:Shared)(us:List Value),K.In s.heap->(us++ds).length=ps.length->BindsTo s fd ⟨us,[]⟩ (ps.zip (us++ds))
theorem Binds.all{K:PySem.W.Frag}{fd:FuncData}{ps:List Str}(h:∀ us:List Value,us.length=ps.length->bindArgs fd ⟨us,[]⟩=pure (ps.zip us)):Binds K fd ps []:=λ s us _ hl=>by
 rw[zAd] at hl ⊢;exact .of_eq (h us hl)
def qG0(CX:CXT)(X:Cx)(E:XK):Prop:=∀(D6:List (Addr×Obj))(σ:St)(H:Hp)(s:Shared)(e:Value)(s':Shared),Inv X D6 σ H s->CX X.stack H s E e s'->X.xe e s'
section
variable{X:Cx}{CX:CXT}{k:Nat}{f C:Addr}{fd:FuncData}{ps:List Str}{sp:Sp}{dvs:List V}{ds:List Value}{E:XK}{x m:Str}{p pos apos:Pos}{e o:Expr}{es:List Expr}{ta:TE}{t:TA}
theorem qap0{D6:List (Addr×Obj)}{σ:St}{H:Hp}{s:Shared}{Q:VK}{vs:List V}(F:By X.prog X.w X.K X.mg X.base CX k f fd ps sp)(hr:Room k X.A)(hb:Binds X.K fd ps ds)(hd:Vals dvs ds)(hx:qG0 CX X E)(I:Inv X D6 σ H s)(r:Vals vs us)(h:sp (vs++dvs) H Q E):wpAny (model X.prog X.w) X.A (call (.ref f) us) (EP X D6 σ Q) X.xe s:=by
 have r2:Vals (vs++dvs) (us++ds):=r.append hd;have hl:(us++ds).length=ps.length:=by rw[<- r2.length];exact F.len _ _ _ _ h
 refine wpAny_call (codeAny_mono (F.run X.A X.stack s H ⟨us,[]⟩ (us++ds) (vs++dvs) Q E hr I.env0 (hb s us I.kIn hl) r2 h) λ r s' hq=>?_);cases r with
 | error e=>exact hx D6 σ H s e s' I hq
 | ok fl =>
   cases fl with
   | ret u=>exact I.after hq
   | next=>exact False.elim hq
   | brk=>exact False.elim hq
   | cont=>exact False.elim hq
theorem qak7(F:By X.prog X.w X.K X.mg X.base CX k f fd ps sp)(hr:Room k X.A)(hg:Gl X x)(hm:X.mg x=some (.ref f))(hk:PySem.W.keepIn X.K (.ref f)=true)(hb:Binds X.K fd ps ds)(hd:Vals dvs ds)(hx:qG0 CX X E)(ha:PA X (e::es) t)(hdb:(x == ("__debug__" : Str))=false:=by decide)(he:starEach (e::es) X.env=(false,eval e X.env)::starEach es X.env:=by rfl)(hpl:(backTo pos (starEach es X.env)).any (·.1)=false:=by rfl) :
   PE X (.Call (.Name x p) (e::es) [] pos) (Hb sp dvs E t):=by
 intro D6 s σ H Q I h;refine wpAny_Call_Name_kw (qY8 I hg hm ?_ hdb);refine PySem.W.callWith_K (h₀:=X.base) I.ok.mod.kin hk (thn (ha pos D6 s σ H _ I h) λ us s1 ⟨vs,H1,I1,r,q⟩=>⟨I1.kIn,?_⟩) he hpl;exact qap0 F hr hb hd hx I1 r q
theorem qay9(he:PE X o ta)(c:Cls X.K C)(hm:Gu X.K C m f)(F:By X.prog X.w X.K X.mg X.base CX k f fd ps sp)(hr:Room k X.A)(hb:Binds X.K fd ps ds)(hd:Vals dvs ds)(hx:qG0 CX X E)(ha:PA X (e::es) t)(hst:starEach (e::es) X.env=(false,eval e X.env)::starEach es X.env:=by rfl)(hpl:(backTo pos (starEach es X.env)).any (·.1)=false:=by rfl)(ht:eval (.Call (.Attribute o m apos) (e::es) [] pos) X.env=(do
     let ov <- eval o X.env
     standAt apos.atName
     let (f,first) <- holding [ov] (getMethod ov m pl)
     callWith pos f first (backTo pos (starEach (e::es) X.env)) (backToKw pos (keywordEach [] X.env))):=by rfl) :
   PE X (.Call (.Attribute o m apos) (e::es) [] pos) (Hc C m sp dvs E ta t):=by
 intro D6 s σ H Q I h;refine PySem.W.methodCall_KW (pl:=pl) (thn (he D6 s σ H _ I h) λ u s1 ⟨x,H1,I1,rx,a,dx,fs,ex,ea,l,q⟩=>?_) ht;subst ex;obtain rfl:u=Value.ref a:=rx;refine qu4 I1 ea c hm l ?_;refine PySem.W.callWith_K (first:=[.ref a]) (h₀:=X.base) I.ok.mod.kin hm.kp (thn (ha pos D6 s1 σ H1 _ I1 q) λ us s2 ⟨vs,H2,I2,r,q2⟩=>⟨I2.kIn,?_⟩) hst hpl;exact qap0 (us:=.ref a::us) (vs:=.ref a::vs) F hr hb hd hx I2 (.cons rfl r) q2
theorem qap9(he:PE X o ta)(c:Cls X.K C)(hm:Gu X.K C m f)(F:By X.prog X.w X.K X.mg X.base CX k f fd ps sp)(hr:Room k X.A)(hb:Binds X.K fd ps ds)(hd:Vals dvs ds)(hx:qG0 CX X E)(ht:eval (.Call (.Attribute o m apos) [] [] pos) X.env=(do
     let ov <- eval o X.env
     standAt apos.atName
     let (f,first) <- holding [ov] (getMethod ov m pl)
     callWith pos f first (backTo pos (starEach [] X.env)) (backToKw pos (keywordEach [] X.env))):=by rfl) :
   PE X (.Call (.Attribute o m apos) [] [] pos) (Hc C m sp dvs E ta tNil):=by
 intro D6 s σ H Q I h;refine PySem.W.methodCall_KW (pl:=pl) (thn (he D6 s σ H _ I h) λ u s1 ⟨x,H1,I1,rx,a,dx,fs,ex,ea,l,q⟩=>?_) ht;subst ex;obtain rfl:u=Value.ref a:=rx;refine qu4 I1 ea c hm l ?_;exact PySem.W.callWith_K0 (first:=[.ref a]) I1.kIn hm.kp (qap0 (us:=[.ref a]) (vs:=[.ref a]) F hr hb hd hx I1 (.cons rfl .nil) q)
structure Mk(K:PySem.W.Frag)(C f:Addr):Prop where
 makes:PySem.W.makesIn K C=true
 init:PySem.W.findIn K (.ref C) "__init__" = some (some (.ref f))
 fn:PySem.W.isFn K (.ref f)=true
 kp:PySem.W.keepIn K (.ref C)=true
theorem qao9{D6:List (Addr×Obj)}{σ:St}{H:Hp}{s:Shared}{Q:VK}{vs:List V}(M:Mk X.K C f)(F:By X.prog X.w X.K X.mg X.base CX k f fd ps sp)(hr:Room (k+1) X.A)(hb:Binds X.K fd ps ds)(hd:Vals dvs ds)(hx:qG0 CX X E)(I:Inv X D6 σ H s)(r:Vals vs us)(h:∀ x dx,H x=none->H dx=none->dx≠x->sp (.ref x::(vs++dvs)) (upd (upd H dx (.own x)) x (.ins C dx [])) (λ v H2=>v=.non/\Q (.ref x) H2) E) :
   wpAny (model X.prog X.w) X.A (call (.ref C) us) (EP X D6 σ Q) X.xe s:=by
 have hq:=h (s.heap.objs.size+1) s.heap.objs.size (I.hok.fresh (Nat.le_succ _)) (I.hok.fresh (zA2 _)) (zAr (zC8 _));have I2:=Inv.made (C:=C) I;have r2:Vals (V.ref (s.heap.objs.size+1)::(vs++dvs)) (Value.ref (s.heap.objs.size+1)::(us++ds)):=.cons rfl (r.append hd);have hl:(Value.ref (s.heap.objs.size+1)::us++ds).length=ps.length:=by
   have e:=r2.length;rw[F.len _ _ _ _ hq] at e;exact e.symm
 refine wpAny_call (qar9 (f:=f) I.kIn M.makes M.init (zC2.mp M.fn) (codeAny_mono (F.run _ X.stack _ _ ⟨Value.ref (s.heap.objs.size+1)::us,[]⟩ (Value.ref (s.heap.objs.size+1)::(us++ds)) _ _ E (hr.make C us [])
   (I2.env0.make C us []) (hb _ (Value.ref (s.heap.objs.size+1)::us) I2.kIn hl) r2 hq) λ r s' hq'=>?_))
 cases r with
 | error e=>exact hx D6 σ _ _ e s' I2 hq'
 | ok fl =>
   cases fl with
   | ret u =>
     obtain⟨v,H',I3,rv,ev,q3⟩:=I2.after hq';subst ev;exact⟨rv,⟨V.ref (s.heap.objs.size+1),H',I3,rfl,q3⟩⟩
   | next=>exact False.elim hq'
   | brk=>exact False.elim hq'
   | cont=>exact False.elim hq'
theorem qak5(M:Mk X.K C f)(F:By X.prog X.w X.K X.mg X.base CX k f fd ps sp)(hr:Room (k+1) X.A)(hg:Gl X x)(hm:X.mg x=some (.ref C))(hb:Binds X.K fd ps ds)(hd:Vals dvs ds)(hx:qG0 CX X E)(ha:PA X (e::es) t)(hdb:(x == ("__debug__" : Str))=false:=by decide)(he:starEach (e::es) X.env=(false,eval e X.env)::starEach es X.env:=by rfl)(hpl:(backTo pos (starEach es X.env)).any (·.1)=false:=by rfl) :
   PE X (.Call (.Name x p) (e::es) [] pos) (tMake C sp dvs E t):=by
 intro D6 s σ H Q I h;refine wpAny_Call_Name_kw (qY8 I hg hm ?_ hdb);refine PySem.W.callWith_K (h₀:=X.base) I.ok.mod.kin M.kp (thn (ha pos D6 s σ H _ I h) λ us s1 ⟨vs,H1,I1,r,q⟩=>⟨I1.kIn,?_⟩) he hpl;exact qao9 M F hr hb hd hx I1 r q
end
structure qa9(N P:List Str)(sc:Scope):Prop where
 kind:sc.kind=.function
 co:sc.isCoroutine=false
 gen:sc.isGenerator=false
 nd:N.Nodup
 pre:N.take P.length=P
 par:∀ x∈P,sc.names.lookup x=some .local∨sc.names.lookup x=some .cell
 nofree:∀ y∈sc.names,y.2≠.free
theorem qQ0{kindOf:Str->Option NameKind}{x:Str}:∀{binds:List (Str×Value)}{m:Str->Option Value},(∀ v,(x,v)∉binds)->bindL kindOf binds m x=m x
 | [],_,_=>rfl
 | (n,v)::r,m,h=>by
   unfold bindL;rw[qQ0 λ w hw=>h w (zA6 _ hw)];split
   . have:x≠n:=by rintro rfl;exact h v zA9
     simp[this]
   rfl
theorem qQ2{kindOf:Str->Option NameKind}{x:Str}:∀{binds:List (Str×Value)}{m:Str->Option Value},(∀ v,(x,v)∉binds)->bindC kindOf binds m x=m x
 | [],_,_=>rfl
 | (n,v)::r,m,h=>by
   unfold bindC;rw[qQ2 λ w hw=>h w (zA6 _ hw)];split
   . rfl
   have:x≠n:=by rintro rfl;exact h v zA9
   simp[this]
theorem qQ1{kindOf:Str->Option NameKind}{x:Str}{v:Value}:∀{P:List Str}{vs:List Value}{i:Nat}{m:Str->Option Value},P.Nodup->P[i]? = some x->vs[i]? = some v->kindOf x=some .local ->
   bindL kindOf (P.zip vs) m x=some v
 | [],_,_,_,_,h,_,_=>by simp at h
 | _::_,[],_,_,_,_,h,_=>by simp at h
 | p::P,w::vs,0,m,nd,h1,h2,hk=>by
   simp at h1 h2;subst h1;subst h2;show bindL kindOf ((p,w)::P.zip vs) m p=_;unfold bindL;rw[qQ0 λ v hv=>(zCb.mp nd).1 (List.of_mem_zip hv).1,if_pos hk];simp
 | p::P,w::vs,i+1,m,nd,h1,h2,hk=>by
   show bindL kindOf ((p,w)::P.zip vs) m x=_;unfold bindL;exact qQ1 (i:=i) (zCb.mp nd).2 (by simpa using h1) (by simpa using h2) hk
theorem qQ3{kindOf:Str->Option NameKind}{x:Str}{v:Value}:∀{P:List Str}{vs:List Value}{i:Nat}{m:Str->Option Value},P.Nodup->P[i]? = some x->vs[i]? = some v->kindOf x≠some .local ->
   bindC kindOf (P.zip vs) m x=some v
 | [],_,_,_,_,h,_,_=>by simp at h
 | _::_,[],_,_,_,_,h,_=>by simp at h
 | p::P,w::vs,0,m,nd,h1,h2,hk=>by
   simp at h1 h2;subst h1;subst h2;show bindC kindOf ((p,w)::P.zip vs) m p=_;unfold bindC;rw[qQ2 λ v hv=>(zCb.mp nd).1 (List.of_mem_zip hv).1,if_neg hk];simp
 | p::P,w::vs,i+1,m,nd,h1,h2,hk=>by
   show bindC kindOf ((p,w)::P.zip vs) m x=_;unfold bindC;exact qQ3 (i:=i) (zCb.mp nd).2 (by simpa using h1) (by simpa using h2) hk
def start(N:List Str)(vs:List V):St:=vs.map some++List.replicate (N.length - vs.length) none
def Dn(CX:CXT)(P:Program)(w:World)(K:PySem.W.Frag)(mg:Str->Option Value)(base:Heap)(N:List Str)(qual:Str)(scope:Scope)(f:Addr)(cd:Value)(A:Around)(outer:List Env)(s:Shared)(H:Hp)(E:XK):Cx where
 prog:=P
 w:=w
 K:=K
 mg:=mg
 base:=base
 A:=A.deeper (envOfC qual scope s.heap.objs.size f cd)
 N:=N
 s₀:=s
 H₀:=H
 env:=envOfC qual scope s.heap.objs.size f cd
 outer:=outer
 stack:=envOfC qual scope s.heap.objs.size f cd::outer
 ex:=[]
 calm:=true
 fn:=λ _=>true
 pn:=[]
 xe:=λ e s'=>wpAny (model P w) (A.deeper (envOfC qual scope s.heap.objs.size f cd)) (leaving (envOfC qual scope s.heap.objs.size f cd) e) (λ _ s''=>CX outer H s E e s'') (λ e' s''=>CX outer H s E e' s'') s'
theorem qab3{sc:Scope}{x:Str}(h:sc.names.lookup x=some .cell):∃ c,(cellsFrom n sc.names []).lookup x=some c:=by
 have q:=PySem.W.cellsFrom_some sc.names n [] (.inl h);exact zB4.mp q
theorem qag4{CX:CXT}{P:Program}{w:World}{K:PySem.W.Frag}{ps:List Str}{qual:Str}{scope:Scope}{f:Addr}{cd:Value}{A:Around}{outer:List Env}{s s1:Shared}{H:Hp}{E:XK}{vs:List V}(S:qa9 N ps scope)(hd:A.handled=none)(e0:Env0 P w K mg base A outer s H)(hl:vs.length=ps.length)(r:Vals vs us)(x:InCallC s s.heap.objs.size (bindL (envOfC qual scope s.heap.objs.size f cd).kindOf (ps.zip us) λ _=>none) (cellsFrom (s.heap.objs.size+1) scope.names []) (bindC (envOfC qual scope s.heap.objs.size f cd).kindOf (ps.zip us) λ _=>none) s1) :
   Inv (Dn CX P w K mg base N qual scope f cd A outer s H E) [] (start N vs) H s1:=by
 have hpl:ps.length<=N.length:=by have:=congrArg List.length S.pre;rw[zBw] at this;lia
 obtain⟨h1,tk,rfl,hk⟩:=x.done;have noA:∀ b:Addr,b∉(Dn CX P w K mg base N qual scope f cd A outer s H E).ex:=λ b z=>absurd (show b∈([]:List Addr) from z) (by simp)
 refine⟨⟨e0.mod,S.kind,rfl,rfl,zA2 _,λ y z c h1 h2=>?_,λ y hy=>?_,λ y c _ h=>?_,λ _=>hd,Around.frames_deeper e0.frames,.inr ⟨rfl,rfl⟩,λ b z=>absurd z (noA b),e0.bs,e0.bsz,λ b _ _=>noA b,λ b z=>absurd z (noA b),e0.funs,e0.frf⟩,
   rfl,e0.bare,Un.kept hk,⟨_,x.toInCall.ns,λ i y v h1 h2 h3=>?_⟩,λ y c h=>⟨_,x.cell y c h⟩,e0.hok.fresh (zA2 _),λ y c h=>?_,λ p hp=>absurd (show p∈([]:List (Addr×Obj)) from hp) (by simp),e0.hok.kept hk,?_⟩
 . exact name_of_addr x.apart (PySem.mem_of_lookup h1) (PySem.mem_of_lookup h2)
 . have hy:scope.names.lookup y=some .cell∨scope.names.lookup y=some .free:=hy
   rcases hy with hy | hy
   . exact qab3 hy
   exact absurd rfl (S.nofree _ (PySem.mem_of_lookup hy))
 . exact Nat.le_of_lt (x.above y c (PySem.mem_of_lookup h))
 . have hi:i < vs.length:=by
     unfold start at h2;by_cases hi:i < vs.length
     . exact hi
     rw[List.getElem?_append_right (by simpa using hi)] at h2;rw[List.getElem?_replicate] at h2;split at h2<;>cases h2
   have ha:vs[i]? = some v:=by
     unfold start at h2;rw[zAt (by simpa using hi),zB8] at h2;cases e:vs[i]? with
     | none=>rw[e] at h2;cases h2
     | some a=>rw[e] at h2;cases h2;rfl
   obtain⟨u,hu,rv⟩:=r.get ha;have hp:ps[i]? = some y:=by
     rw[<- S.pre,List.getElem?_take_of_lt (by lia)];exact h1
   have ndP:ps.Nodup:=by rw[<- S.pre];exact S.nd.sublist (zC0 _ _)
   refine⟨u,rv,?_⟩;rcases S.par y (zBa hp) with k | k
   . exact .inl ⟨k,qQ1 ndP hp hu k⟩
   obtain⟨c,e⟩:=qab3 (n:=s.heap.objs.size+1) k;refine .inr ⟨.inl k,c,e,?_⟩;have q:=x.cell y c e;rw[qQ3 ndP hp hu (by show scope.names.lookup y≠_;rw[k];decide)] at q;exact q
 . exact e0.hok.fresh (Nat.le_of_lt (x.above y c (PySem.mem_of_lookup h)))
 unfold start;show _=N.length;rw[zA7,zAa,List.length_replicate];lia
theorem Hd{CX:CXT}{P:Program}{w:World}{K:PySem.W.Frag}{k:Nat}{f:Addr}{name qual:Str}{params:Arguments}{scope:Scope}{dV kV doc pm cdv ct oc:Value}{an od:Option Addr}{osl:Array (Option Value)}{ps:List Str}{sp:Sp}(lk:K.lookup f=some ⟨oc,od,.func (PySem.W.fnOf name qual params body scope dV kV doc pm an cdv ct),osl⟩)(hcd:PySem.W.codeIn K cdv qual=true)(S:qa9 N ps scope)(len:∀ vs H Q E,sp vs H Q E->vs.length=ps.length)(hbody:∀(A:Around)(outer:List Env)(s:Shared)(H:Hp)(vs:List V)(Q:VK)(E:XK),Room k (A.deeper (envOfC qual scope s.heap.objs.size f cdv))->sp vs H Q E ->
     ∃ t,PSs (Dn CX P w K mg base N qual scope f cdv A outer s H E) body t/\t { nx:=λ _ H'=>Q .non H',rt:=Q } (start N vs) H) :
   By P w K mg base CX (k+1) f (PySem.W.fnOf name qual params body scope dV kV doc pm an cdv ct) ps sp:=by
 refine⟨len,λ A outer s H args us vs Q E hr e0 hb r hsp=>?_⟩;have hl:=len _ _ _ _ hsp;have KX:K.In s.heap:=e0.mod.kin.keeps λ b o e=>(e0.bs b o e).1
 have lim:s.heap.NoLimit:=e0.mod.nolimit.keeps λ b o e=>(e0.bs b o e).1
 have hkind:∀ y∈ps.zip us,scope.names.lookup y.1=some .local∨(scope.names.lookup y.1=some .cell/\((cellsFrom (s.heap.objs.size+1) scope.names []).lookup y.1).isSome=true):=λ ⟨n,v⟩ hy=>by
   rcases S.par n (List.of_mem_zip hy).1 with q | q
   . exact .inl q
   exact .inr ⟨q,PySem.W.cellsFrom_some _ _ _ (.inl q)⟩
 refine codeAny_call_function hr.depth (KX _ _ lk) rfl S.co S.gen rfl (PySem.W.codeRec_of KX hcd) (hb _ _ _ _ ?_);refine wpAny_newFunctionEnv_cells S.kind hkind λ env he s1 x=>?_
 subst he;refine⟨lim.keeps x.toInCall.keep,codeAny_func ?_⟩;obtain⟨t,ht,hq⟩:=hbody A outer s H vs Q E (hr.deeper _) hsp;have I:Inv (Dn CX P w K mg base N qual scope f cdv A outer s H E) [] (start N vs) H s1:=qag4 S hr.hd e0 hl r x;refine wpAny_mono (ht [] s1 (start N vs) H _ I hq) (λ fl s' hs=>?_) λ e s' hs=>hs
 have fin:∀{σ':St}{H':Hp}{v:V}{u:Value},Inv (Dn CX P w K mg base N qual scope f cdv A outer s H E) [] σ' H' s'->RelV v u->Q v H'->CE outer P w H s Q u s' :=
   λ{σ' H' v u} J rv q=>⟨v,H',J.os,J.bare,J.base,J.hok,rv,q⟩
 cases fl with
 | ret u =>
   obtain⟨v,σ',H',J,rv,q⟩:=hs;exact fin J rv q
 | next =>
   obtain⟨σ',H',J,q⟩:=hs;exact fin (v:=V.non) (u:=Value.none) J rfl q
 | brk =>
   obtain⟨_,_,_,q⟩:=hs;exact False.elim q
 | cont =>
   obtain⟨_,_,_,q⟩:=hs;exact False.elim q
section
variable{X:Cx}{x:Str}{p pos:Pos}{e:Expr}{es:List Expr}{t:TA}{id T:String}{r:List V->Hp->VK->Prop}
def tCB(r:List V->Hp->VK->Prop)(t:TA):TE:=λ σ H Q=>t σ H λ vs H1=>r vs H1 Q
theorem qaq4(hc:CallR X (.builtin id) r)(hg:Gl X x)(hm:X.mg x=none)(hv:bootBuiltins x=some (.builtin id))(ha:PA X (e::es) t)(hn:x ≠ "__name__" := by decide)(hdb:(x == ("__debug__" : Str))=false:=by decide)(he:starEach (e::es) X.env=(false,eval e X.env)::starEach es X.env:=by rfl)(hpl:(backTo pos (starEach es X.env)).any (·.1)=false:=by rfl):PE X (.Call (.Name x p) (e::es) [] pos) (tCB r t):=by
 intro D6 s σ H Q I h;refine wpAny_Call_Name_kw (qY9 I hg hm hv ?_ hn hdb);exact PyProof.Rows.callWith_builtin1 (thn (ha pos D6 s σ H _ I h) λ us s1 ⟨vs,H1,I1,r1,q1⟩=>hc D6 s1 σ H1 vs us Q I1 r1 q1) he hpl
theorem qae9(hc:CallR X (.type T) r)(hg:Gl X x)(hm:X.mg x=none)(hv:bootBuiltins x=some (.type T))(ha:PA X (e::es) t)(hn:x ≠ "__name__" := by decide)(hdb:(x == ("__debug__" : Str))=false:=by decide)(he:starEach (e::es) X.env=(false,eval e X.env)::starEach es X.env:=by rfl)(hpl:(backTo pos (starEach es X.env)).any (·.1)=false:=by rfl):PE X (.Call (.Name x p) (e::es) [] pos) (tCB r t):=by
 intro D6 s σ H Q I h;refine wpAny_Call_Name_kw (qY9 I hg hm hv ?_ hn hdb);exact PyProof.Rows.callWith_type1 (thn (ha pos D6 s σ H _ I h) λ us s1 ⟨vs,H1,I1,r1,q1⟩=>hc D6 s1 σ H1 vs us Q I1 r1 q1) he hpl
end
end L2
namespace HT
open PySem PyProof.Rows
section
def sIx(n d:Nat):Option Int->Nat
 | none=>d
 | some v=>if v < 0 then (v+(n:Int)).toNat else min v.toNat n
theorem qW4(n d:Nat):sIx n d none=d:=rfl
theorem qaj4(n d k:Nat):sIx n d (some (k:Int))=min k n:=by
 show (if (k:Int) < 0 then ((k:Int)+(n:Int)).toNat else min (k:Int).toNat n)=min k n;rw[if_neg (by lia),Int.toNat_natCast]
end
end HT
namespace L2
open PySem PySem.Spec PyProof.Rows
variable{Q:Value->Shared->Prop}{its:List Value}{n:Nat}{x:V}{α:Type}
abbrev TO:=St->Hp->(Option Int->Hp->Prop)->Prop
def PO(X:Cx)(e:Option Expr)(t:TO):Prop :=
 ∀(D6:List (Addr×Obj))(s:Shared)(σ:St)(H:Hp)(Q:Option Int->Hp->Prop),Inv X D6 σ H s->t σ H Q ->
   wpAny (model X.prog X.w) X.A (evalPart e X.env) (λ u s'=>∃ o H',Inv X D6 σ H' s'/\IsPart u o/\Q o H') X.xe s
def qav7:TO:=λ _ H Q=>Q none H
def tPart(t:TE):TO:=λ σ H Q=>t σ H λ x H1=>∃ i,x=.int i/\Q (some i) H1
theorem qZ4{ns:List Int}:∀{us:List Value},Vals (ns.map V.int) us->IntsAre us ns:=by
 induction ns with
 | nil=>intro us r;rw[List.map_nil] at r;cases r;exact .nil
 | cons n ns ih =>
   intro us r;rw[zAx] at r;cases r with
   | cons r1 r2 =>
     obtain⟨t,e⟩:=r1;subst e;exact .cons n t (ih r2)
section
variable{X:Cx}{e:Expr}{te:TE}{lo hi:Option Expr}{tl th:TO}{pos p2:Pos}
theorem qak3:PO X none qav7:=by
 intro D6 s σ H Q I h;rw[evalPart_none];exact wpAny_pure ⟨none,H,I,.none,h⟩
theorem qak2(h:PE X e te):PO X (some e) (tPart te):=by
 intro D6 s σ H Q I hw;rw[evalPart_some];refine thn (h D6 s σ H _ I hw) λ u s1 ⟨x,H1,I1,r1,q1⟩=>?_
 obtain⟨i,rfl,q⟩:=q1;obtain⟨t,rfl⟩:=r1;exact⟨some i,H1,I1,.int i t,q⟩
def SlR(X:Cx)(r:V->Option Int->Option Int->Hp->VK->Prop):Prop :=
 ∀(D6:List (Addr×Obj))(s:Shared)(σ:St)(H:Hp)(x:V)(v vl vu:Value)(lo hi:Option Int)(sl:Addr)(Q:VK),Inv X D6 σ H s->RelV x v->s.heap.IsSliceOf sl vl vu .none->IsPart vl lo->IsPart vu hi->r x lo hi H Q ->
   ∃ T id,typeLookup (.type T) "__getitem__" = pure (some (.builtin id))/\s.TypeIs v T/\wpAny (model X.prog X.w) X.A (getItem v (.ref sl)) (EP X D6 σ Q) X.xe s
def tSl(r:V->Option Int->Option Int->Hp->VK->Prop)(te:TE)(tl th:TO):TE:=λ σ H Q=>te σ H λ x H1=>tl σ H1 λ l H2=>th σ H2 λ u H3=>r x l u H3 Q
theorem qX0{r:V->Option Int->Option Int->Hp->VK->Prop}(hr:SlR X r)(he:PE X e te)(hl:PO X lo tl)(hu:PO X hi th):PE X (.Subscript e (.Slice lo hi none p2) pos) (tSl r te tl th):=by
 intro D6 s σ H Q I h;refine Subscript_ (thn (he D6 s σ H _ I h) λ v s1 ⟨x,H1,I1,r1,q1⟩=>?_);refine wpAny_Slice (thn (hl D6 s1 σ H1 _ I1 q1) λ vl s2 ⟨l,H2,I2,pl,q2⟩=>thn (hu D6 s2 σ H2 _ I2 q2) λ vu s3 ⟨u,H3,I3,pu,q3⟩=>?_);rw[evalPart_none];refine wpAny_pure ?_;have I4:Inv X D6 σ H3 { s3 with heap:=s3.heap.push { cls:=.type "slice",data:=.fields #[vl,vu,.none] } }:=I3.kept (t':=s3.toks) λ b ob q=>zA3 _ q
 obtain⟨T,id,hT,ht,hg⟩:=hr D6 { s3 with heap:=s3.heap.push { cls:=.type "slice",data:=.fields #[vl,vu,.none] } } σ H3 x v vl vu l u s3.heap.objs.size Q I4 r1 (Heap.IsSliceOf.new ..) pl pu q3;show wpAny (model X.prog X.w) X.A (subscriptTail e (.Slice lo hi none p2) v (.ref s3.heap.objs.size)) (EP X D6 σ Q) X.xe { s3 with heap:=s3.heap.push { cls:=.type "slice",data:=.fields #[vl,vu,.none] } };exact tail_any (ops:=[.ref s3.heap.objs.size,v]) ht hT hg (by with_unfolding_all rfl)
def Fd(xs:List V)(lo hi:Option Int):List V:=(xs.drop (HT.sIx xs.length 0 lo)).take (HT.sIx xs.length xs.length hi - HT.sIx xs.length 0 lo)
theorem qT6(xs:List V)(lo hi:Option Int):(Fd xs lo hi).length<=xs.length:=by
 unfold Fd;rw[zBw,List.length_drop];lia
end
def ixN(n:Nat)(i:Int):Option Nat:=if 0<=i then (if i < n then some i.toNat else none) else if -(n:Int)<=i then some (i+n).toNat else none
def atI{α:Type}(xs:List α)(i:Int):Option α:=(ixN xs.length i).bind λ j=>xs[j]?
theorem qZ3{i:Int}{j:Nat}(h:ixN n i=some j):seqIndex? i n=some j/\j < n/\-(n:Int)<=i/\i < n:=by
 unfold ixN at h;by_cases h0:0<=i
 . rw[if_pos h0] at h
   by_cases h1:i < n
   . rw[if_pos h1] at h
     have e:i.toNat=j:=Option.some.inj h;exact⟨by rw[seqIndex_of h0 h1,e],by lia,by lia,h1⟩
   rw[if_neg h1] at h;cases h
 rw[if_neg h0] at h;by_cases h1:-(n:Int)<=i
 . rw[if_pos h1] at h
   have e:(i+n).toNat=j:=Option.some.inj h;exact⟨by rw[seqIndex_neg (by lia) h1,e],by lia,h1,by lia⟩
 rw[if_neg h1] at h;cases h
theorem qab9{xs:List α}{i:Int}{v:α}(h:atI xs i=some v):∃ j,seqIndex? i xs.length=some j/\xs[j]? = some v/\j < xs.length/\-(xs.length:Int)<=i/\i < xs.length:=by
 unfold atI at h;cases e:ixN xs.length i with
 | none=>rw[e] at h;cases h
 | some j =>
   rw[e] at h;obtain⟨h1,h2,h3,h4⟩:=qZ3 e;exact⟨j,h1,h,h2,h3,h4⟩
theorem qab8{xs:List α}{j:Nat}{v:α}(h:xs[j]? = some v):atI xs (j:Int)=some v:=by
 have hj:j < xs.length:=(zA5.mp h).1;have e:ixN xs.length (j:Int)=some j:=by
   unfold ixN;rw[if_pos (by lia),if_pos (by lia)];simp
 unfold atI;rw[e];exact h
theorem qau6(xs:List α)(v:α):atI (xs++[v]) (-1)=some v:=by
 have hl:(xs++[v]).length=xs.length+1:=by simp
 have e:ixN (xs++[v]).length (-1)=some xs.length:=by
   unfold ixN;rw[hl,if_neg (by decide),if_pos (by lia)];congr 1;lia
 unfold atI;rw[e];show (xs++[v])[xs.length]? = some v;simp
def qan4(b:Expr):Prop:=∀ o i,subscripted b false o i=operate [o,i] (getItem o i)
def IxR(X:Cx)(r:R2):Prop :=
 ∀(value slice:Expr)(D6:List (Addr×Obj))(s:Shared)(σ:St)(H:Hp)(x y:V)(v u:Value)(Q:VK),Inv X D6 σ H s->RelV x v->RelV y u->r x y H Q ->
   subscripted slice false v u=operate [v,u] (getItem v u)->wpAny (model X.prog X.w) X.A (subscriptTail value slice v u) (EP X D6 σ Q) X.xe s
def MtR(X:Cx)(id:String)(r:V->List V->Hp->VK->Prop):Prop :=
 ∀(D6:List (Addr×Obj))(s:Shared)(σ:St)(H:Hp)(x:V)(xs:List V)(v:Value)(us:List Value)(Q:VK),Inv X D6 σ H s->RelV x v->Vals xs us->r x xs H Q ->
   wpAny (model X.prog X.w) X.A (call (.builtin id) (v::us)) (EP X D6 σ Q) X.xe s
section
variable{X:Cx}{a b:Expr}{ta tb:TE}{pos:Pos}
theorem IxR.or{r r':R2}(h:IxR X r)(h':IxR X r'):IxR X (λ x y H Q=>r x y H Q∨r' x y H Q):=by
 intro value slice D6 s σ H x y v u Q I rx ry q hs;rcases q with q | q
 . exact h value slice D6 s σ H x y v u Q I rx ry q hs
 exact h' value slice D6 s σ H x y v u Q I rx ry q hs
theorem pe_ix{r:R2}(hr:IxR X r)(ha:PE X a ta)(hb:PE X b tb)(hs:qan4 b):PE X (.Subscript a b pos) (tOp r ta tb):=by
 intro D6 s σ H Q I h;exact Subscript_ (binT ha hb I h λ v u s2 x y H2 I2 rx ry q=>hr a b D6 s2 σ H2 x y v u Q I2 rx ry q (hs _ _))
def rIxL(K:PySem.W.Frag):R2:=λ x y H Q=>∃ p xs i v,x=.ref p/\y=.int i/\SqL K H p xs/\atI xs i=some v/\Q v H
def rIxT(K:PySem.W.Frag):R2:=λ x y H Q=>∃ p xs i v,x=.ref p/\y=.int i/\SqT K H p xs/\atI xs i=some v/\Q v H
def rIxS:R2:=λ x y H Q=>∃ z i c,x=.str z/\y=.int i/\z.length<=sizeLine/\atI z.cps.toList i=some c/\Q (.str ⟨#[c]⟩) H
theorem qaC4:IxR X (rIxL X.K):=by
 intro value slice D6 s σ H x y v u Q I rx ry h hs;obtain⟨p,xs,i,z,rfl,rfl,hq,he,q⟩:=h;cases rx;obtain⟨t,rfl⟩:=ry;obtain⟨its,r,pl,hz⟩:=I.list hq;obtain⟨j,h1,h2,h3,h4,h5⟩:=qab9 he;obtain⟨w,ew,rw'⟩:=r.get h2;have hl:=r.length;have hn:=qJ8;have fin:EP X D6 σ Q w s:=⟨z,H,I,rw',q⟩
 by_cases h0:0<=i
 . have hj:i.toNat=j:=by
     rw[seqIndex_of h0 h5] at h1;exact Option.some.inj h1
   exact item_listR pl.isList h0 (by lia) (by rw[hj];simpa using ew) fin hs
 have hj:(i+(its.toArray.size:Int)).toNat=j:=by
   rw[seqIndex_neg (by lia) h4] at h1;rw[zA4,<- hl];exact Option.some.inj h1
 exact subscriptTail_builtinR (x:=w) pl.isList.typeIs slot_list_getitem.lookup
   (wpAny_getItem_list_neg (Q:=λ r s'=>r=w/\EP X D6 σ Q r s') pl.isList (by lia) (by rw[zA4]<;>lia) (by lia) (by rw[hj];simpa using ew) ⟨rfl,fin⟩) hs
theorem qaL0:IxR X (rIxT X.K):=by
 intro value slice D6 s σ H x y v u Q I rx ry h hs;obtain⟨p,xs,i,z,rfl,rfl,hq,he,q⟩:=h;cases rx;obtain⟨t,rfl⟩:=ry;obtain⟨its,r,pl,hz⟩:=I.tuple hq;obtain⟨j,h1,h2,h3,h4,h5⟩:=qab9 he;obtain⟨w,ew,rw'⟩:=r.get h2;have hl:=r.length;have hn:=qJ8;have fin:EP X D6 σ Q w s:=⟨z,H,I,rw',q⟩
 exact subscriptTail_builtinR (x:=w) pl.typeIs slot_tuple_getitem.lookup
   (getItem_tuple (j:=j) (Q:=λ r s'=>r=w/\EP X D6 σ Q r s') pl (by lia) (by lia) (by rw[zA4,<- hl];exact h1) (by simpa using ew) ⟨rfl,fin⟩) hs
theorem qaL1:IxR X rIxS:=by
 intro value slice D6 s σ H x y v u Q I rx ry h hs;obtain⟨z,i,c,rfl,rfl,hz,he,q⟩:=h;obtain⟨t,rfl⟩:=rx;obtain⟨t',rfl⟩:=ry;obtain⟨j,h1,h2,h3,h4,h5⟩:=qab9 he;have hl:z.cps.toList.length=z.length:=by simp[Str.length]
 rw[hl] at h1 h4 h5;have hn:=qJ8;exact tail_any (typeIs_str s z t) slot_str_getitem.lookup (getItem_str (c:=c) (by
   have e1:decide (i < -(2 ^ 63:Int))=false:=zBb (by lia);have e2:decide (i ≥ 2 ^ 63)=false:=zBb (by lia);rw[e1,e2,Bool.or_false]) (by rw[h1];simpa using h2) ⟨.str ⟨#[c]⟩,H,I.tok _,⟨_,rfl⟩,q⟩) hs
def rIx(K:PySem.W.Frag):R2:=λ x y H Q=>rIxL K x y H Q∨rIxT K x y H Q∨rIxS x y H Q
theorem qb6:IxR X (rIx X.K):=qaC4.or (qaL0.or qaL1)
theorem qY2(its:List Value)(n j:Nat)(u:Value):Obj.mapSeq (·.setIfInBounds j u) { cls:=.type "list",data:=.seq its.toArray n }={ cls:=.type "list",data:=.seq (its.set j u).toArray n }:=by
 simp[Obj.mapSeq]
theorem Inv.lst{D6:List (Addr×Obj)}{σ:St}{H:Hp}{s:Shared}{p:Addr}{xs:List V}(I:Inv X D6 σ H s)(h:H p=some (.lst xs)) :
   ∃(its:List Value)(n:Nat),Vals xs its/\s.heap.get? p=some { cls:=.type "list",data:=.seq its.toArray n }/\xs.length<=sizeLine:=by
 obtain⟨z,its,n,r,e⟩:=I.hok p _ h;exact⟨its,n,r,e,z⟩
theorem Inv.lstUpd{D6:List (Addr×Obj)}{σ:St}{H:Hp}{s:Shared}{p:Addr}{xs ys:List V}{its':List Value}{n':Nat}{f:Obj->Obj}(I:Inv X D6 σ H s)(h:H p=some (.lst xs))(ho:s.heap.get? p=some { cls:=.type "list",data:=.seq its.toArray n })(hf:f { cls:=.type "list",data:=.seq its.toArray n }={ cls:=.type "list",data:=.seq its'.toArray n' })(r:Vals ys its')(hz:ys.length<=sizeLine)(t:Nat) :
   Inv X D6 σ (upd H p (.lst ys)) { s with heap:=s.heap.update p f,toks:=t }:=by
 have e:(s.heap.update p f).get? p=some { cls:=.type "list",data:=.seq its'.toArray n' }:=by
   rw[Heap.get?_update_self f ho (by rw[hf]<;>rfl),hf]
 refine I.write (x:=p) (e:=p) (by rw[h];trivial) (.inl rfl) (λ b u hb q=>(zBf _ _ (Ne.symm hb)).trans q) ⟨_,e⟩ ?_;exact⟨hz,its',n',r,e⟩
def rSetL:V->V->V->Hp->(Hp->Prop)->Prop:=λ o i v H Q=>∃ p xs k j,o=.ref p/\i=.int k/\H p=some (.lst xs)/\ixN xs.length k=some j/\Q (upd H p (.lst (xs.set j v)))
theorem qW0:PSet X rSetL:=by
 intro D6 s σ H o i v ov iv u Q I ro ri rv h;obtain⟨p,xs,k,j,rfl,rfl,hp,hj,q⟩:=h;cases ro;obtain⟨t,rfl⟩:=ri;obtain⟨its,n,r,ho,hz⟩:=I.lst hp;obtain⟨h1,h2,h3,h4⟩:=qZ3 hj;have hl:=r.length;have hn:=qJ8;have I':Inv X D6 σ (upd H p (.lst (xs.set j v))) { s with heap:=s.heap.update p (Obj.mapSeq (·.setIfInBounds j u)) } :=
   I.lstUpd hp ho (qY2 its n j u) (r.set rv j) (by rw[List.length_set];exact hz) s.toks
 by_cases h0:0<=k
 . have hk:k.toNat=j:=by
     rw[seqIndex_of h0 h4] at h1;exact Option.some.inj h1
   exact PySem.W.ki_setAt ho h0 (by lia) (by rw[zA4,<- hl];exact h4) (by rw[hk];exact⟨_,I',q⟩)
 have hk:(k+(its.toArray.size:Int)).toNat=j:=by
   rw[seqIndex_neg (by lia) h3] at h1;rw[zA4,<- hl];exact Option.some.inj h1
 exact PySem.W.ki_setBack ho (by lia) (by rw[zA4,<- hl];exact h3) (by lia) (by rw[hk];exact⟨_,I',q⟩)
theorem qH6(lo hi:Option Int)(n:Nat):(sliceBounds lo hi none n).1=((HT.sIx n 0 lo:Nat):Int)/\(sliceBounds lo hi none n).2.1=((HT.sIx n n hi:Nat):Int)/\(sliceBounds lo hi none n).2.2=1:=by
 refine⟨?_,?_,rfl⟩
 . cases lo with
   | none=>simp[sliceBounds,HT.sIx]
   | some i =>
     simp only[sliceBounds,HT.sIx,Option.getD_none,show (1:Int) > 0 by decide,if_true];by_cases h:i < 0
     . simp only[h,if_true]<;>lia
     simp only[h,if_false]<;>lia
 cases hi with
 | none=>simp[sliceBounds,HT.sIx]
 | some i =>
   simp only[sliceBounds,HT.sIx,Option.getD_none,show (1:Int) > 0 by decide,if_true];by_cases h:i < 0
   . simp only[h,if_true]<;>lia
   simp only[h,if_false]<;>lia
theorem qC9(its:List Value)(lo hi:Option Int):slicePick its.toArray lo hi none=((its.drop (HT.sIx its.length 0 lo)).take (HT.sIx its.length its.length hi - HT.sIx its.length 0 lo)).toArray:=by
 obtain⟨h1,h2,h3⟩:=qH6 lo hi its.toArray.size;unfold slicePick;rw[h1,h2,h3];simp only[sliceRange_one,pick_run,zA4]<;>rfl
def rSlL(K:PySem.W.Frag):V->Option Int->Option Int->Hp->VK->Prop:=λ x lo hi H Q=>∃ a xs,x=.ref a/\SqL K H a xs/\∀ p,H p=none->Q (.ref p) (upd H p (.lst (Fd xs lo hi)))
theorem qaj2:SlR X (rSlL X.K):=by
 intro D6 s σ H x v vl vu lo hi sl Q I rx hs pl pu h;obtain⟨a,xs,rfl,hx,q⟩:=h;cases rx;obtain⟨its,r,ht,hz⟩:=I.list hx;have hlen:=r.length;refine⟨"list",_,slot_list_getitem.lookup,ht.isList.typeIs,?_⟩;refine wpAny_getItem_list_slice ht.isList hs pl pu .none (by simp) ?_ (by rw[zA4]<;>lia);rw[qC9,<- hlen];refine⟨.ref s.heap.objs.size,_,I.laid (t':=s.toks) (o:=.lst (Fd xs lo hi)) (λ b ob q=>zA3 _ q) (zA2 _) ?_,rfl,q _ (I.hok.fresh (zA2 _))⟩;exact⟨zAn (qT6 xs lo hi) hz,_,0,(r.drop (HT.sIx xs.length 0 lo)).take (HT.sIx xs.length xs.length hi - HT.sIx xs.length 0 lo),zB0 _ rfl⟩
def flatV:V->Bool
 | .non=>true
 | .bl _=>true
 | .int _=>true
 | .str _=>true
 | _=>false
def eqV:V->V->Bool
 | .non,.non=>true
 | .bl a,.bl b=>a == b
 | .bl a,.int b=>(if a then 1 else 0) == b
 | .int a,.bl b=>a == (if b then 1 else 0)
 | .int a,.int b=>a == b
 | .str a,.str b=>a == b
 | _,_=>false
theorem qaE0{A:Around}{s:Shared}{y:V}{u v:Value}(ry:RelV y u)(rx:RelV x v)(fy:flatV y=true)(fx:flatV x=true):SeqAt.EqAt A s u v (eqV y x):=by
 cases y with
 | non =>
   cases ry;cases x with
   | non=>cases rx;exact SeqAt.EqAt.same _
   | bl b=>cases rx;exact SeqAt.EqAt.none_bool b
   | int b=>obtain⟨t,rfl⟩:=rx;exact SeqAt.EqAt.none_int b t
   | str b=>obtain⟨t,rfl⟩:=rx;exact SeqAt.EqAt.none_str b t
   | _=>exact absurd (show false=true from fx) zAj
 | bl a =>
   cases ry;cases x with
   | non=>cases rx;exact SeqAt.EqAt.bool_none a
   | bl b=>cases rx;exact SeqAt.EqAt.bool_bool a b
   | int b=>obtain⟨t,rfl⟩:=rx;exact SeqAt.EqAt.bool_int a b t
   | str b=>obtain⟨t,rfl⟩:=rx;exact SeqAt.EqAt.bool_str a b t
   | _=>exact absurd (show false=true from fx) zAj
 | int a =>
   obtain⟨t',rfl⟩:=ry;cases x with
   | non=>cases rx;exact SeqAt.EqAt.int_none a t'
   | bl b=>cases rx;exact SeqAt.EqAt.int_bool a t' b
   | int b=>obtain⟨t,rfl⟩:=rx;exact SeqAt.EqAt.int_int a t' b t
   | str b=>obtain⟨t,rfl⟩:=rx;exact SeqAt.EqAt.int_str a t' b t
   | _=>exact absurd (show false=true from fx) zAj
 | str a =>
   obtain⟨t',rfl⟩:=ry;cases x with
   | non=>cases rx;exact SeqAt.EqAt.str_none a t'
   | bl b=>cases rx;exact SeqAt.EqAt.str_bool a t' b
   | int b=>obtain⟨t,rfl⟩:=rx;exact SeqAt.EqAt.str_int a t' b t
   | str b=>obtain⟨t,rfl⟩:=rx;exact SeqAt.EqAt.str_str a t' b t
   | _=>exact absurd (show false=true from fx) zAj
 | _=>exact absurd (show false=true from fy) zAj
def eqU(x:V)(u:Value):Bool:=match u with
 | .none=>eqV .non x
 | .bool b=>eqV (.bl b) x
 | .int i _=>eqV (.int i) x
 | .str z _=>eqV (.str z) x
 | _=>false
theorem qah1{y:V}{u:Value}(r:RelV y u)(f:flatV y=true):eqU x u=eqV y x:=by
 cases y with
 | non=>cases r;rfl
 | bl b=>cases r;rfl
 | int i=>obtain⟨t,rfl⟩:=r;rfl
 | str z=>obtain⟨t,rfl⟩:=r;rfl
 | _=>exact absurd (show false=true from f) zAj
theorem qF7{x:V}:∀{xs:List V}{us:List Value},Vals xs us->xs.all flatV=true->us.any (eqU x)=xs.any λ y=>eqV y x
 | _,_,.nil,_=>rfl
 | y::xs,u::us,.cons r t,f=>by
   rw[List.all_cons,zBg] at f;rw[zCe,zCe,qah1 r f.1,qF7 t f.2]
theorem ql2{A:Around}{s:Shared}{x:V}{v:Value}(rx:RelV x v)(fx:flatV x=true):∀{xs:List V}{us:List Value},Vals xs us->xs.all flatV=true->∀ u∈us,SeqAt.EqAt A s u v (eqU x u)
 | _,_,.nil,_=>λ u hu=>by cases hu
 | y::xs,u::us,.cons r t,f=>λ u' hu=>by
   rw[List.all_cons,zBg] at f;rcases zAm.mp hu with rfl | hu
   . rw[qah1 r f.1];exact qaE0 r rx f.1 fx
   exact ql2 rx fx t f.2 u' hu
def inV(x:V)(xs:List V):Bool:=xs.any λ y=>eqV y x
def rIn(K:PySem.W.Frag)(neg:Bool):R2:=λ x y H Q=>∃ p xs,y=.ref p/\(SqL K H p xs∨SqT K H p xs)/\flatV x=true/\xs.all flatV=true/\Q (.bl (if neg then !inV x xs else inV x xs)) H
theorem qaf1:OpR X (compareOp .In) (rIn X.K false):=by
 intro D6 s σ H x y v u Q I rx ry h;obtain⟨p,xs,rfl,hq,fx,fs,q⟩:=h;cases ry;rcases hq with hq | hq
 . obtain⟨its,r,pl,hz⟩:=I.list hq
   refine SeqAt.in_listAt (eqU x) pl.isList (λ w hw=>ql2 rx fx r fs w (by simpa using hw)) ⟨.bl _,H,I,rfl,?_⟩;rw[show its.toArray.any (eqU x)=its.any (eqU x) by simp,qF7 r fs];exact q
 obtain⟨its,r,pl,hz⟩:=I.tuple hq;refine SeqAt.in_tupleAt (eqU x) pl (λ w hw=>ql2 rx fx r fs w (by simpa using hw)) ⟨.bl _,H,I,rfl,?_⟩;rw[show its.toArray.any (eqU x)=its.any (eqU x) by simp,qF7 r fs];exact q
theorem qI8:OpR X (compareOp .NotIn) (rIn X.K true):=by
 intro D6 s σ H x y v u Q I rx ry h;obtain⟨p,xs,rfl,hq,fx,fs,q⟩:=h;cases ry;rcases hq with hq | hq
 . obtain⟨its,r,pl,hz⟩:=I.list hq
   refine SeqAt.notIn_listAt (eqU x) pl.isList (λ w hw=>ql2 rx fx r fs w (by simpa using hw)) ⟨.bl _,H,I,rfl,?_⟩;rw[show its.toArray.any (eqU x)=its.any (eqU x) by simp,qF7 r fs];exact q
 obtain⟨its,r,pl,hz⟩:=I.tuple hq;refine SeqAt.notIn_tupleAt (eqU x) pl (λ w hw=>ql2 rx fx r fs w (by simpa using hw)) ⟨.bl _,H,I,rfl,?_⟩;rw[show its.toArray.any (eqU x)=its.any (eqU x) by simp,qF7 r fs];exact q
theorem qL5:CallR X (.builtin "len") (λ xs H Q=>∃ p ys,xs=[.ref p]/\(SqL X.K H p ys∨SqT X.K H p ys)/\Q (.int ys.length) H):=by
 intro D6 s σ H xs us Q I r h;obtain⟨p,ys,rfl,hq,q⟩:=h;obtain⟨u,rfl,rx⟩:=Bl r;cases rx;have hn:=qJ8;rcases hq with hq | hq
 . obtain⟨its,r',pl,hz⟩:=I.list hq
   have hlen:=r'.length;exact Calls.call_len_list pl.isList (by simp only[zA4]<;>lia) ⟨.int ys.length,H,I.tok _,⟨s.toks+1,by rw[zA4,hlen]⟩,q⟩
 obtain⟨its,r',pl,hz⟩:=I.tuple hq;have hlen:=r'.length;exact len_tuple pl (by simp only[zA4]<;>lia) ⟨.int ys.length,H,I.tok _,⟨s.toks+1,by rw[zA4,hlen]⟩,q⟩
theorem qL4:CallR X (.builtin "len") (λ xs H Q=>∃ z,xs=[.str z]/\z.length<=sizeLine/\Q (.int z.length) H):=by
 intro D6 s σ H xs us Q I r h;obtain⟨z,rfl,hz,q⟩:=h;obtain⟨u,rfl,t,rfl⟩:=Bl r;have hn:=qJ8;exact len_str (by lia) ⟨.int z.length,H,I.tok _,⟨_,rfl⟩,q⟩
theorem CallR.or{f:Value}{r r':List V->Hp->VK->Prop}(h:CallR X f r)(h':CallR X f r'):CallR X f (λ xs H Q=>r xs H Q∨r' xs H Q):=by
 intro D6 s σ H xs us Q I rs q;rcases q with q | q
 . exact h D6 s σ H xs us Q I rs q
 exact h' D6 s σ H xs us Q I rs q
theorem ql7:CallR X (.type "list") (λ xs H Q=>∃ p ys,xs=[.ref p]/\(SqL X.K H p ys∨SqT X.K H p ys)/\∀ l,H l=none->Q (.ref l) (upd H l (.lst ys))):=by
 intro D6 s σ H xs us Q I r h;obtain⟨p,ys,rfl,hq,q⟩:=h;obtain⟨u,rfl,rx⟩:=Bl r;cases rx;have fin:∀(its:List Value),Vals ys its->ys.length<=sizeLine->∀(h':Heap)(c':Nat),(∀ b o',s.heap.get? b=some o'->h'.get? b=some o') ->
     h'.get? s.heap.objs.size=some { cls:=.type "list",dict:=none,data:=.seq its.toArray c',slots:=#[] }->EP X D6 σ Q (.ref s.heap.objs.size) { s with heap:=h' }:=λ its r' hz h' c' kp e =>
   ⟨.ref s.heap.objs.size,_,I.laid (t':=s.toks) kp (zA2 _) (show ObjOk X.prog X.w _ h' _ (.lst ys) from⟨hz,its,c',r',e⟩),rfl,q _ (I.hok.fresh (zA2 _))⟩
 rcases hq with hq | hq
 . obtain⟨its,r',pl,hz⟩:=I.list hq
   have hlen:=r'.length;obtain⟨o,ho,hc,n,hd⟩:=pl.isList;exact call_list_seq p (.inl rfl) ho hc hd (λ h' c' kp e=>fin its r' hz h' c' kp e) (by simp only[zA4]<;>lia)
 obtain⟨its,r',pl,hz⟩:=I.tuple hq;have hlen:=r'.length;obtain⟨o,ho,hc,n,hd⟩:=pl;exact call_list_seq p (.inr rfl) ho hc hd (λ h' c' kp e=>fin its r' hz h' c' kp e) (by simp only[zA4]<;>lia)
def tyV(K:PySem.W.Frag)(T:String)(x:V)(H:Hp):Prop:=match x with
 | .str _=>T = "str"
 | .int _=>T = "int"
 | .ref p=>(T = "list" /\ ∃ xs,SqL K H p xs)∨(T = "tuple" /\ ∃ o,K.lookup p=some o/\o.cls=.type "tuple" /\ o.dict=none) ∨
     (T = "dict" /\ ((∃ kvs,H p=some (.dK kvs))∨∃ kvs,H p=some (.dT kvs)))∨(T = "set" /\ ∃ S n,H p=some (.set S n))
 | _=>False
theorem qaG0{D6:List (Addr×Obj)}{σ:St}{H:Hp}{s:Shared}{T:String}{v:Value}(I:Inv X D6 σ H s)(r:RelV x v)(ty:tyV X.K T x H) :
   s.TypeIs v T/\∀ a,v=.ref a->∃ ob,s.heap.get? a=some ob/\ob.dict=none:=by
 cases x with
 | str z =>
   obtain⟨t,rfl⟩:=r;cases (show T = "str" from ty);exact⟨typeIs_str s z t,λ _ e=>nomatch e⟩
 | int i =>
   obtain⟨t,rfl⟩:=r;cases (show T = "int" from ty);exact⟨typeIs_int s i t,λ _ e=>nomatch e⟩
 | ref p =>
   cases r;rcases ty with⟨rfl,xs,hq⟩ | ⟨rfl,o,hk,hc,hd⟩ | ⟨rfl,hk⟩ | ⟨rfl,S,n,hk⟩
   . obtain⟨its,_,pl,_⟩:=I.list hq
     refine⟨pl.isList.typeIs,λ a e=>?_⟩;cases e;obtain⟨o,n,e,c,hd,_⟩:=pl;exact⟨o,e,hd⟩
   . refine⟨⟨o,I.kIn p o hk,hc⟩,λ a e=>?_⟩
     cases e;exact⟨o,I.kIn _ o hk,hd⟩
   . have z:∃ o,s.heap.get? p=some o/\o.ExactDict:=by
       rcases hk with⟨kvs,hk⟩ | ⟨kvs,hk⟩
       . obtain⟨_,_,_,_,o,_,_,e,ex,_⟩:=I.hok p _ hk
         exact⟨o,e,ex⟩
       obtain⟨_,_,_,_,o,_,_,e,ex,_⟩:=I.hok p _ hk;exact⟨o,e,ex⟩
     obtain⟨o,e,ex⟩:=z;refine⟨⟨o,e,ex.1⟩,λ a e2=>?_⟩;cases e2;exact⟨o,e,ex.2.1⟩
   obtain⟨o,_,_,_,e,ex,_⟩:=I.hok p _ hk;refine⟨⟨o,e,ex.1⟩,λ a e2=>?_⟩;cases e2;exact⟨o,e,ex.2.1⟩
 | _=>exact False.elim ty
def tBM(K:PySem.W.Frag)(T:String)(r:V->List V->Hp->VK->Prop)(to:TE)(t:TA):TE:=λ σ H Q=>to σ H λ x H1=>tyV K T x H1/\t σ H1 λ xs H2=>r x xs H2 Q
variable{o e:Expr}{es:List Expr}{to:TE}{t:TA}{name:Str}{apos cpos:Pos}{T id:String}{r:V->List V->Hp->VK->Prop}
theorem He(pa:PlainAttrs T)(slot:Slot T name id)(hty:typeOf (.builtin id)=pure (.type "method_descriptor"))(hm:MtR X id r)(ho:PE X o to)(ha:PA X (e::es) t)(hbase:attributeBase o name X.env (eval o X.env)=eval o X.env:=by rfl)(hfew:((backTo cpos (starEach (e::es) X.env)).all (λ x=>!x.1)&&(backToKw cpos (keywordEach [] X.env)).all (λ x=>x.1.isSome)
     && decide ((e::es).length+([]:List Keyword).length+(if ([]:List Keyword).isEmpty then 0 else 1) < 30))=true:=by rfl)(hline:(apos.endLine == cpos.line)=true:=by rfl)(hs:starEach (e::es) X.env=(false,eval e X.env)::starEach es X.env:=by rfl)(hplain:(backTo cpos (starEach es X.env)).any (·.1)=false:=by rfl) :
   PE X (.Call (.Attribute o name apos) (e::es) [] cpos) (tBM X.K T r to t):=by
 intro D6 s σ H Q I h;refine wpAny_Call_method_late hbase hfew hline rfl (thn (ho D6 s σ H _ I h) λ v s1 ⟨x,H1,I1,r1,ty,q1⟩=>?_);obtain⟨h1,h2⟩:=qaG0 I1 r1 ty;refine⟨T,id,pa,slot,hty,h1,h2,?_⟩;have hA:=ha cpos D6 s1 σ H1 _ I1 q1;rw[hs] at hA ⊢;refine Calls.callWith_builtin (by show (false||(backTo cpos (starEach es X.env)).any (·.1))=false;rw[hplain]<;>rfl) (Calls.evalArgs_plain ?_);exact thn hA λ us s2 ⟨vs,H2,I2,r2,q2⟩=>hm D6 s2 σ H2 x vs v us Q I2 r1 r2 q2
/- xs.append(e),list.index on a module's tuple .. are MtR facts of 06m -/
end
def MtM(X:Cx)(id:String)(r:V->List V->Hp->VK->Prop):Prop :=
 ∀(D6:List (Addr×Obj))(s:Shared)(σ:St)(H:Hp)(x:V)(xs:List V)(v:Value)(us:List Value)(Q:VK),Inv X D6 σ H s->RelV x v->Vals xs us->r x xs H Q ->
   wpAny (model X.prog X.w) X.A (call (.builtin id) (v::us)) (EP X D6 σ Q) X.xe s
theorem Vals.one{us:List Value}(h:Vals [x] us):∃ u,us=[u]/\RelV x u:=by
 cases h with
 | cons r t=>cases t;exact⟨_,rfl,r⟩
theorem Vals.two{y:V}{us:List Value}(h:Vals [x,y] us):∃ u v,us=[u,v]/\RelV x u/\RelV y v:=by
 cases h with
 | cons r t =>
   cases t with
   | cons q t=>cases t;exact⟨_,_,rfl,r,q⟩
theorem Vals.rep{xs:List V}{us:List Value}(h:Vals xs us):∀ k:Nat,Vals (List.replicate k xs).flatten (List.replicate k us).flatten
 | 0=>.nil
 | k+1=>by
   rw[zBh,zBh,zC1,zC1];exact Vals.append h (Vals.rep h k)
theorem qO3(its:List Value):∀(k:Nat)(acc:List Value),
   List.foldl (λ x1 x2=>x1++x2) acc.toArray (List.replicate k its.toArray)=(acc++(List.replicate k its).flatten).toArray
 | 0,acc=>by simp
 | k+1,acc=>by
   have e:acc.toArray++its.toArray=(acc++its).toArray:=by simp
   have e2:(acc++its)++(List.replicate k its).flatten=acc++(List.replicate (k+1) its).flatten:=by
     rw[zBh,zC1,zAi]
   rw[<- e2,<- qO3 its k (acc++its),<- e,zBh,List.foldl_cons]
section
variable{X:Cx}{D6:List (Addr×Obj)}{σ:St}{H:Hp}{s:Shared}{l:Addr}{xs ys:List V}
theorem Inv.lset{its':List Value}{f:Array Value->Array Value}{t':Nat}(I:Inv X D6 σ H s)(hH:H l=some (.lst xs))(e:s.heap.get? l=some { cls:=.type "list",data:=.seq its.toArray n })(hf:f its.toArray=its'.toArray)(hv:Vals ys its')(hz:ys.length<=sizeLine) :
   Inv X D6 σ (upd H l (.lst ys)) { s with heap:=s.heap.update l (Obj.mapSeq f),toks:=t' }:=by
 have q:=PySem.IsL.update e f;rw[hf] at q;refine I.write (x:=l) (e:=l) (by rw[hH];exact trivial) (.inl rfl) (λ b' u hb hu=>(zBf s.heap (Obj.mapSeq f) (Ne.symm hb)).trans hu) ⟨_,q⟩ ?_;exact⟨hz,its',_,hv,q⟩
theorem Inv.lnew{t':Nat}(I:Inv X D6 σ H s)(hv:Vals ys its)(hz:ys.length<=sizeLine) :
   Inv X D6 σ (upd H s.heap.objs.size (.lst ys)) { s with heap:=s.heap.push { cls:=.type "list",data:=.seq its.toArray },toks:=t' } :=
 I.laid (λ _ _ q=>zA3 _ q) (zA2 _) ⟨hz,its,0,hv,zB0 _ rfl⟩
theorem Inv.fresh(I:Inv X D6 σ H s):H s.heap.objs.size=none:=I.hok.fresh (zA2 _)
theorem Inv.lstM(I:Inv X D6 σ H s)(hH:H l=some (.lst xs)):xs.length<=sizeLine/\∃(its:List Value)(n:Nat),Vals xs its/\xs.length=its.length/\s.heap.get? l=some { cls:=.type "list",data:=.seq its.toArray n }:=by
 obtain⟨z,its,n,r,e⟩:=I.hok l _ hH;exact⟨z,its,n,r,r.length,e⟩
theorem qar2(h:n<=sizeLine):Builtin.List.listTooLong n=false:=by
 unfold Builtin.List.listTooLong;exact zBb (by lia)
end
section
variable{X:Cx}
def qaj9:V->List V->Hp->VK->Prop:=λ x vs H Q=>∃ l xs y,x=.ref l/\vs=[y]/\H l=some (.lst xs)/\xs.length < sizeLine/\Q .non (upd H l (.lst (xs++[y])))
theorem qd7:MtM X "list.append" qaj9:=by
 intro D6 s σ H x vs v us Q I rx rv h;obtain⟨l,xs,y,rfl,rfl,hH,hz,q⟩:=h;cases rx;obtain⟨u,rfl,ru⟩:=rv.one;obtain⟨z,its,n,r,hl,e⟩:=I.lstM hH;refine call_meets F.slot_list_append ⟨_,e,rfl⟩ F.entry_list_append (F.args_list_append_2 _ _) (PySem.list_append l its.toArray n u (by rw[zA4];lia)) ⟨e,?_⟩;refine⟨.non,_,I.lset (its':=its++[u]) hH e (by simp) (r.append (.cons ru .nil)) ?_,rfl,q⟩;rw[zA7,List.length_singleton];lia
def rCat:R2:=λ x y H Q=>∃ l b xs zs,x=.ref l/\y=.ref b/\H l=some (.lst xs)/\H b=some (.lst zs)/\xs.length+zs.length<=sizeLine/\∀ p,H p=none->Q (.ref p) (upd H p (.lst (xs++zs)))
theorem qaJ4:OpR X (binaryOp .Add) rCat:=by
 intro D6 s σ H x y v u Q I rx ry h;obtain⟨l,b,xs,zs,rfl,rfl,hH,hB,hz,q⟩:=h;cases rx;cases ry;obtain⟨z,its,n,r,hl,e⟩:=I.lstM hH;obtain⟨z2,its2,n2,r2,hl2,e2⟩:=I.lstM hB;refine PySem.P.add_list e e2 ?_ (by rw[zA4,zA4];lia);have ea:its.toArray++its2.toArray=(its++its2).toArray:=by simp
 rw[ea];exact⟨.ref _,_,I.lnew (t':=s.toks) (r.append r2) (by rw[zA7];lia),rfl,q _ I.fresh⟩
def rRep:R2:=λ x y H Q=>∃ l k xs,x=.ref l/\y=.int k/\H l=some (.lst xs)/\-(2 ^ 63)<=k/\k < 2 ^ 63/\xs.length * k.toNat<=sizeLine /\
 ∀ p,H p=none->Q (.ref p) (upd H p (.lst (List.replicate k.toNat xs).flatten))
theorem qaB9(xs:List α)(k:Nat):(List.replicate k xs).flatten.length=k * xs.length:=by
 induction k with
 | zero=>simp
 | succ k ih=>rw[zBh,zC1,zA7,ih,Nat.succ_mul,Nat.add_comm]
theorem qaI6:OpR X (binaryOp .Mult) rRep:=by
 intro D6 s σ H x y v u Q I rx ry h;obtain⟨l,k,xs,rfl,rfl,hH,h1,h2,hz,q⟩:=h;cases rx;obtain⟨t,rfl⟩:=ry;obtain⟨z,its,n,r,hl,e⟩:=I.lstM hH;have hlen:its.toArray.size * k.toNat<=sizeLine:=by rw[zA4,<- hl];exact hz
 have hcap:¬ its.toArray.size * k.toNat > (2 ^ 63 - 1) / 8:=by
   have:(sizeLine:Nat)<=(2 ^ 63 - 1) / 8:=by decide
   lia
 have hfit:¬ (!Builtin.List.listFitsIndex k)=true:=by
   rw[fitsIndex_both h1 h2];exact zAj
 have hlong:¬ Builtin.List.listTooLong (its.toArray.size * k.toNat)=true:=by
   rw[qar2 hlen];exact zAj
 have hnew:List.foldl (λ x1 x2=>x1++x2) #[] (List.replicate (if its.toArray.isEmpty=true then 0 else k.toNat) its.toArray)=(List.replicate k.toNat its).flatten.toArray:=by
   have f0:∀ m:Nat,List.foldl (λ x1 x2=>x1++x2) #[] (List.replicate m its.toArray)=(List.replicate m its).flatten.toArray:=λ m=>by
     have:=qO3 its m []
     rw[zAz] at this;exact this
   rw[f0];cases its with
   | nil=>simp
   | cons a r'=>rw[if_neg (by simp)]
 refine wpAny_binaryOp_repeat_ref (T := "list") (U := "int") (by decide) ⟨_,e,rfl⟩ (λ s'=>typeIs_int s' k t) noFill_list_mul F.fills_int_mul F.slot_int_rmul repeat_list F.slot_int_index.lookup
   (call_meets F.slot_int_rmul (typeIs_int s k t) F.entry_int_rmul (F.args_int_rmul_2 _ _) (int___rmul___int_list k t l its.toArray n)
     ⟨e,rfl,⟨_,e,rfl⟩,call_meets F.slot_list_mul ⟨_,e,rfl⟩ F.entry_list_mul (F.args_list_mul_2 _ _) (AutoListH.list___mul___list_int_3 l its.toArray n k t hfit hcap hlong) ⟨e,?_⟩⟩)
 rw[hnew];exact⟨.ref _,_,I.lnew (t':=s.toks) (r.rep k.toNat) (by rw[qaB9,Nat.mul_comm];exact hz),rfl,q _ I.fresh⟩
end
section
variable{κ:Type}[DecidableEq κ]
def Ec(kvs:List (κ×V))(k:κ):Option V:=(kvs.find? λ kv=>decide (kv.1=k)).map (·.2)
def putK(kvs:List (κ×V))(k:κ)(v:V):List (κ×V) :=
 if (kvs.any λ kv=>decide (kv.1=k))=true then kvs.map (λ kv=>if kv.1=k then (kv.1,v) else kv) else kvs++[(k,v)]
theorem qG4{p:κ×V}{r:List (κ×V)}{k:κ}(e:p.1=k):Ec (p::r) k=some p.2:=by simp[Ec,zBs,e]
theorem qG5{p:κ×V}{r:List (κ×V)}{k:κ}(e:¬ p.1=k):Ec (p::r) k=Ec r k:=by simp[Ec,zBs,e]
theorem qT0(kvs:List (κ×V))(k:κ)(v:V):(putK kvs k v).length<=kvs.length+1:=by
 unfold putK;split
 . rw[zAa];lia
 rw[zA7,zAk,zCa];lia
theorem RelO.getD{o:Option V}{u:Option Value}{d:V}{d':Value}(r:RelO o u)(rd:RelV d d'):RelV (o.getD d) (u.getD d'):=by
 cases o with
 | none=>cases u with
   | none=>exact rd
   | some _=>exact(show False from r).elim
 | some _=>cases u with
   | none=>exact(show False from r).elim
   | some _=>exact r
theorem KV.val{kvs:List (κ×V)}{vs:List (κ×Value)}(r:KV kvs vs)(k:κ):RelO (Ec kvs k) (valueAt vs k):=by
 unfold KV at r
 induction r with
 | nil=>exact True.intro
 | @cons p q ps qs h t ih =>
   obtain⟨h1,h2⟩:=h;by_cases e:p.1=k
   . have e':q.1=k:=h1.symm.trans e
     have b:valueAt (q::qs) k=some q.2:=by simp[valueAt,zBs,e']
     rw[qG4 e,b];exact h2
   have e':¬ q.1=k:=λ z=>e (h1.trans z)
   have b:valueAt (q::qs) k=valueAt qs k:=by simp[valueAt,zBs,e']
   rw[qG5 e,b];exact ih
theorem KV.any{kvs:List (κ×V)}{vs:List (κ×Value)}(r:KV kvs vs)(k:κ):(kvs.any λ kv=>decide (kv.1=k))=vs.any λ kv=>decide (kv.1=k):=by
 unfold KV at r
 induction r with
 | nil=>rfl
 | cons h t ih=>rw[zCe,zCe,ih,h.1]
theorem KV.repl{kvs:List (κ×V)}{vs:List (κ×Value)}(r:KV kvs vs)(k:κ){y:V}{u:Value}(ry:RelV y u) :
   KV (kvs.map λ kv=>if kv.1=k then (kv.1,y) else kv) (vs.map λ kv=>if kv.1=k then (kv.1,u) else kv):=by
 unfold KV at r ⊢
 induction r with
 | nil=>exact .nil
 | @cons p q ps qs h t ih =>
   rw[zAx,zAx];refine .cons ?_ ih;obtain⟨h1,h2⟩:=h;by_cases e:p.1=k
   . rw[if_pos e,if_pos (h1.symm.trans e)];exact⟨h1,ry⟩
   rw[if_neg e,if_neg (λ z=>e (h1.trans z))];exact⟨h1,h2⟩
theorem KV.put{kvs:List (κ×V)}{vs:List (κ×Value)}(r:KV kvs vs)(k:κ){y:V}{u:Value}(ry:RelV y u):KV (putK kvs k y) (stored vs k u):=by
 unfold putK stored;rw[r.any k];by_cases e:(vs.any λ kv=>decide (kv.1=k))=true
 . rw[if_pos e,if_pos e];exact r.repl k ry
 rw[if_neg e,if_neg e];exact Paired.snoc r ⟨rfl,ry⟩
theorem KV.length{kvs:List (κ×V)}{vs:List (κ×Value)}(r:KV kvs vs):kvs.length=vs.length:=Paired.length r
end
theorem Gd{P:Program}{w:World}{k:Key}{u:Value}(r:RelV (kV k) u):(qe1 P w).is k u=true:=by
 cases k with
 | inl i=>obtain⟨t,e⟩:=(show ∃ t,u=Value.int i t from r);subst e;exact qS9 P w i t
 | inr x=>obtain⟨t,e⟩:=(show ∃ t,u=Value.str x t from r);subst e;exact qS8 P w x t
theorem qN5{P:Program}{w:World}:∀{ks:List Key}{us:List Value},Vals (ks.map kV) us->ItemsAre (qe1 P w) ks us
 | [],_,r=>by rw[List.map_nil] at r;cases r;exact .nil
 | k::ks,_,r=>by
   rw[zAx] at r;cases r with
   | cons h t=>exact .cons (Gd h) (qN5 t)
abbrev KT(H:Hp):List (List Key×V)->List (List Key×Addr×Value)->Prop:=Paired λ p q=>p.1=q.1/\H q.2.1=some (.tup (p.1.map kV))/\RelV p.2 q.2.2
theorem KT.val{H:Hp}{kvs:List (List Key×V)}{xs:List (List Key×Addr×Value)}(r:KT H kvs xs)(k:List Key):RelO (Ec kvs k) ((atKey xs k).map (·.2)):=by
 induction r with
 | nil=>exact True.intro
 | @cons p q ps qs h t ih =>
   obtain⟨h1,_,h2⟩:=h;by_cases e:p.1=k
   . have e':q.1=k:=h1.symm.trans e
     have b:atKey (q::qs) k=some q.2:=by simp[atKey,zBs,e']
     rw[qG4 e,b];exact h2
   have e':¬ q.1=k:=λ z=>e (h1.trans z)
   have b:atKey (q::qs) k=atKey qs k:=by simp[atKey,zBs,e']
   rw[qG5 e,b];exact ih
section
variable{P:Program}{w:World}{H:Hp}{h:Heap}{a:Addr}
theorem rd_of{u:HO}(ok:HOk P w H h)(e:Rd H a u):ObjOk P w H h a u:=e.ok ok
theorem Ex{kvs:List (Key×V)}(ok:HOk P w H h)(e:Rd H a (.dK kvs)):kvs.length<=sizeLine/\(a == sysModules)=false/\∃ vs,KV kvs vs/\h.DictOf (qe1 P w) a vs :=
 show ObjOk P w H h a (.dK kvs) from rd_of ok e
theorem dk_of{kvs:List (Key×V)}(ok:HOk P w H h)(e:H a=some (.dK kvs)):kvs.length<=sizeLine/\(a == sysModules)=false/\∃ vs,KV kvs vs/\h.DictOf (qe1 P w) a vs:=Ex ok (.inl e)
theorem qas5{ks:List Key}(ok:HOk P w H h)(e:H a=some (.tup (ks.map kV))):(tupleKind (qe1 P w)).is h ks a:=by
 obtain⟨_,its,r,o,h1,h2,n,h3⟩:=(show ObjOk P w H h a (.tup (ks.map kV)) from ok a _ e)
 exact⟨o,its.toArray,n,h1,h2,h3,by simpa using qN5 r⟩
theorem Ge{kvs:List (List Key×V)}(ok:HOk P w H h)(e:Rd H a (.dT kvs)):kvs.length<=sizeLine/\(a == sysModules)=false /\
   ∃ xs,KT H kvs xs/\h.DictOfH (tupleKind (qe1 P w)) a xs:=by
 obtain⟨z,y,xs,r,o,es,ep,h1,h2,h3,h4,h5⟩:=(show ObjOk P w H h a (.dT kvs) from rd_of ok e)
 refine⟨z,y,xs,r,o,es,ep,h1,h2,h3,h4,λ x hx=>?_,h5⟩;have all:∀{l:List (List Key×V)}{m:List (List Key×Addr×Value)},KT H l m->∀ x∈m,(tupleKind (qe1 P w)).is h x.1 x.2.1:=by
   intro l m q
   induction q with
   | nil=>intro x hx;exact nomatch hx
   | @cons p q ps qs hq t ih =>
     intro x hx;rcases zAm.mp hx with e | hx
     . subst e
       exact qas5 ok (by rw[<- hq.1];exact hq.2.1)
     exact ih x hx
 exact all r x hx
end
def Gv(H:Hp)(a:Addr)(y:V)(r:Option V):Prop :=
 (∃ kvs k,Rd H a (.dK kvs)/\y=kV k/\r=Ec kvs k)∨∃ kvs k b,Rd H a (.dT kvs)/\y=.ref b/\H b=some (.tup (k.map kV))/\r=Ec kvs k
section
variable{X:Cx}{D6:List (Addr×Obj)}{σ:St}{H:Hp}{s:Shared}{a:Addr}{y v:V}{u:Value}{o:Option V}{A:Around}{E:Value->Shared->Prop}
theorem Inv.big(I:Inv X D6 σ H s):sysModules < s.heap.objs.size:=by
 have h:mainGlobals < s.heap.objs.size:=(I.mod.glob.keeps I.bk).lt;exact Nat.lt_trans (by decide) h
theorem qah6(hu:A.units+1 < cLine)(I:Inv X D6 σ H s)(g:Gv H a y (some v))(ry:RelV y u)(h:∀ w' s',Inv X D6 σ H s'->RelV v w'->Q w' s') :
   wpAny (model X.prog X.w) A (getItem (.ref a) u) Q E s:=by
 rcases g with⟨kvs,k,e,ey,l⟩ | ⟨kvs,k,b,e,ey,eb,l⟩
 . subst ey
   obtain⟨z,hd,vs,rel,dd⟩:=Ex I.hok e;obtain⟨w',hw,rw'⟩:=RelO.some_of (v:=v) (o:=valueAt vs k) (by rw[l];exact rel.val k);exact wpAny_getItem_of (Gd ry) dd.mapOf hw (h w' _ (I.tok _) rw')
 subst ey;cases (show u=Value.ref b from ry);obtain⟨z,hd,xs,rel,dd⟩:=Ge I.hok e;obtain⟨w',hw,rw'⟩:=RelO.some_of (v:=v) (o:=(atKey xs k).map (·.2)) (by rw[l];exact rel.val k);obtain⟨p,hp,hp2⟩:=zAe.mp hw;refine wpAny_getItem_heap (tupleKind_room_in1 hu) (qas5 I.hok eb) dd hp ?_;rw[hp2];exact h w' _ (I.tok _) rw'
end
section
variable{X:Cx}{D6:List (Addr×Obj)}{σ:St}{H:Hp}{s:Shared}{a:Addr}{kvs:List (Key×V)}{A:Around}{E:Value->Shared->Prop}
theorem d_len(I:Inv X D6 σ H s)(e:Rd H a (.dK kvs))(h:∀ t s',Inv X D6 σ H s'->Q (.int kvs.length t) s'):wpAny (model X.prog X.w) A (call (.builtin "len") [.ref a]) Q E s:=by
 obtain⟨z,hd,vs,rel,dd⟩:=Ex I.hok e;refine call_len_dict hd dd (by rw[<- rel.length];rw[sizeLine_eq] at z;lia) ?_;rw[<- rel.length];exact h _ _ (I.tok _)
end
def NoSl(i:Expr):Prop:=∀ ov iv,subscripted i false ov iv=operate [ov,iv] (getItem ov iv)
theorem qaw1{prog:Program}{w:World}{A:Around}{E:Value->Shared->Prop}{s:Shared}{env:Env}{value slice:Expr}{pos:Pos}{T id:String}(hl:typeLookup (.type T) "__getitem__" = pure (some (.builtin id)))(hs:NoSl slice)(h:wpAny (model prog w) A (eval value env) (λ o s₁=>wpAny (model prog w) A (eval slice env) (λ i s₂=>s₂.TypeIs o T/\wpAny (model prog w) A (getItem o i) Q E s₂) E s₁) E s) :
   wpAny (model prog w) A (eval (.Subscript value slice pos) env) Q E s:=by
 refine Subscript_ (wpAny_mono h (λ o s₁ h₁=>wpAny_mono h₁ (λ i s₂ h₂=>?_) λ _ _ x=>x) λ _ _ x=>x);obtain⟨hT,h₂⟩:=h₂;unfold subscriptTail;refine wpAny_bind ?_;rw[getitemInPython_of_ne hT.not_modules];refine wpAny_bind (wpAny_specialOf hT hl ?_);have fin:wpAny (model prog w) A (subscripted slice false o i) (λ r s₃=>wpAny (model prog w) A (letTemporaryGo value o r >>= λ _=>pure r) Q E s₃) E s₂:=by
   rw[hs o i];exact wpAny_operating (wpAny_mono h₂ (λ r s₃ h₃=>wpAny_bind (wpAny_letTemporaryGo (wpAny_pure h₃))) λ _ _ x=>x)
 first
   | exact wpAny_pure (wpAny_bind fin)
   | exact wpAny_bind (wpAny_pure (wpAny_bind fin))
   | exact wpAny_bind fin
theorem qT4{X:Cx}{D6:List (Addr×Obj)}{σ:St}{H:Hp}{s:Shared}{a:Addr}{y:V}{o:Option V}(I:Inv X D6 σ H s)(g:Gv H a y o):s.TypeIs (.ref a) "dict" := by
 rcases g with⟨kvs,k,e,_,_⟩ | ⟨kvs,k,b,e,_,_,_⟩
 . obtain⟨_,_,vs,_,dd⟩:=Ex I.hok e
   exact dd.typeIs
 obtain⟨_,_,xs,_,dd⟩:=Ge I.hok e;exact dd.typeIs
def tDGet(td ty:TE):TE:=λ σ H Q=>td σ H λ x H1=>ty σ H1 λ y H2=>∃ a v,x=.ref a/\Gv H2 a y (some v)/\Q v H2
section
variable{X:Cx}{o i:Expr}{pos:Pos}{td ty:TE}
theorem qaz2(hu:X.A.units+1 < cLine)(ho:PE X o td)(hi:PE X i ty)(hs:NoSl i):PE X (.Subscript o i pos) (tDGet td ty):=by
 intro D6 s σ H Q I h;refine qaw1 PySem.F.slot_dict_getitem.lookup hs (thn (ho D6 s σ H _ I h) λ u s1 ⟨x,H1,I1,rx,q1⟩=>thn (hi D6 s1 σ H1 _ I1 q1) λ iv s2 ⟨y,H2,I2,ry,a,v,ex,g,q2⟩=>?_);subst ex;obtain rfl:u=Value.ref a:=rx;exact⟨qT4 I2 g,qah6 hu I2 g ry λ w' s3 I3 rw'=>⟨v,H2,I3,rw',q2⟩⟩
end
def qw6(kvs more:List (Key×V)):List (Key×V):=more.foldl (λ acc kv=>putK acc kv.1 kv.2) kvs
theorem qp8:∀(more kvs:List (Key×V)),(qw6 kvs more).length<=kvs.length+more.length
 | [],kvs=>by show kvs.length<=kvs.length+0;lia
 | p::r,kvs=>by
   have h1:=qp8 r (putK kvs p.1 p.2);have h2:=qT0 kvs p.1 p.2;show (qw6 (putK kvs p.1 p.2) r).length<=_;rw[zAk];lia
structure M2(X:Cx)(o:Expr)(m:Str)(apos:Pos)(e f:Expr)(cpos:Pos):Prop where
 base:attributeBase o m X.env (eval o X.env)=eval o X.env
 few:((backTo cpos (starEach [e,f] X.env)).all (λ x=>!x.1)&&(backToKw cpos (keywordEach [] X.env)).all (λ x=>x.1.isSome)
   && decide (([e,f]:List Expr).length+([]:List Keyword).length+(if ([]:List Keyword).isEmpty then 0 else 1) < 30))=true
 line:(apos.endLine == cpos.line)=true
 trees:backTo cpos (starEach [e,f] X.env)=[(false,eval e X.env),(false,eval f X.env)]
def IsD(H:Hp)(a:Addr):Prop:=(∃ kvs,Rd H a (.dK kvs))∨∃ kvs,Rd H a (.dT kvs)
theorem qaL2{X:Cx}{D6:List (Addr×Obj)}{σ:St}{H:Hp}{s:Shared}{a:Addr}(I:Inv X D6 σ H s)(d:IsD H a) :
   s.TypeIs (.ref a) "dict" /\ (∀ b,Value.ref a=.ref b->∃ ob,s.heap.get? b=some ob/\ob.dict=none)/\(a == sysModules)=false:=by
 rcases d with⟨kvs,e⟩ | ⟨kvs,e⟩
 . obtain⟨_,hd,vs,_,dd⟩:=Ex I.hok e
   refine⟨dd.typeIs,λ b q=>?_,hd⟩;cases q;obtain⟨ob,_,_,h1,h2,_⟩:=dd;exact⟨ob,h1,h2.2.1⟩
 obtain⟨_,hd,xs,_,dd⟩:=Ge I.hok e;refine⟨dd.typeIs,λ b q=>?_,hd⟩;cases q;obtain⟨ob,_,_,h1,h2,_⟩:=dd;exact⟨ob,h1,h2.2.1⟩
section
variable{X:Cx}{D6:List (Addr×Obj)}{σ:St}{H:Hp}{s:Shared}{a:Addr}{y d:V}{u r:Value}{o:Option V}{A:Around}{E:Value->Shared->Prop}
theorem qaM6(hu:A.units+1 < cLine)(I:Inv X D6 σ H s)(g:Gv H a y o)(ry:RelV y u)(rd:RelV d r)(h:∀ w' s',Inv X D6 σ H s'->RelV (o.getD d) w'->Q w' s') :
   wpAny (model X.prog X.w) A (call (.builtin "dict.get") [.ref a,u,r]) Q E s:=by
 rcases g with⟨kvs,k,e,ey,l⟩ | ⟨kvs,k,b,e,ey,eb,l⟩
 . subst ey
   obtain⟨z,hd,vs,rel,dd⟩:=Ex I.hok e;refine call_meetsIn PySem.F.slot_dict_get dd.typeIs PySem.F.entry_dict_get (PySem.F.args_dict_get_3 _ _ _) (meets_dict_get_default (qe1 X.prog X.w) a (Gd ry) hd r) ⟨_,dd.mapOf,h _ _ (I.tok _) ?_⟩;rw[l];exact(rel.val k).getD rd
 subst ey;cases (show u=Value.ref b from ry);obtain⟨z,hd,xs,rel,dd⟩:=Ge I.hok e;refine call_meetsIn PySem.F.slot_dict_get dd.typeIs PySem.F.entry_dict_get (PySem.F.args_dict_get_3 _ _ _) (meetsH_dict_get_default (tupleKind (qe1 X.prog X.w)) a b hd r) ⟨tupleKind_room_in1 hu,k,xs,qas5 I.hok eb,dd,h _ _ (I.tok _) ?_⟩;rw[l];exact(rel.val k).getD rd
end
def qaG4(td ty tx:TE):TE:=λ σ H Q=>td σ H λ x H1=>∃ a,x=.ref a/\IsD H1 a/\ty σ H1 λ y H2=>tx σ H2 λ z H3=>∃ o,Gv H3 a y o/\Q (o.getD z) H3
section
variable{X:Cx}{o e f:Expr}{apos cpos:Pos}{td ty tx:TE}
theorem qaq2(hu:X.A.units+1 < cLine)(ho:PE X o td)(he:PE X e ty)(hf:PE X f tx)(m:M2 X o "get" apos e f cpos):PE X (.Call (.Attribute o "get" apos) [e,f] [] cpos) (qaG4 td ty tx):=by
 intro D6 s σ H Q I h;refine wpAny_Call_method m.base m.few m.line PySem.F.plainAttrs_dict PySem.F.slot_dict_get PySem.F.type_dict_get (thn (ho D6 s σ H _ I h) λ u s1 ⟨x,H1,I1,rx,a,ex,d,q1⟩=>?_);subst ex;obtain rfl:u=Value.ref a:=rx;obtain⟨t1,t2,_⟩:=qaL2 I1 d;refine⟨t1,t2,?_⟩;rw[m.trees];refine Calls.callWith_builtin rfl (Calls.evalArgs_plain (Calls.spliced_cons (thn (he D6 s1 σ H1 _ I1 q1) λ iv s2 ⟨y,H2,I2,ry,q2⟩ =>
   Calls.spliced_cons (thn (hf D6 s2 σ H2 _ I2 q2) λ fv s3 ⟨z,H3,I3,rz,ov,g,q3⟩=>Calls.spliced_nil ?_))))
 exact qaM6 hu I3 g ry rz λ w' s4 I4 rw'=>⟨_,H3,I4,rw',q3⟩
end
end L2
namespace Att
open PySem PySem.W PySem.Calls PyProof.Rows
theorem qw9{P:Params}{h:Heap}:∀(ns:List Int)(vs:List Value),WellAll P h vs (ns.map WData.int)->IntsAre vs ns:=by
 intro ns
 induction ns with
 | nil =>
   intro vs w;rw[List.map_nil] at w;cases w;exact .nil
 | cons n ns ih =>
   intro vs w;rw[zAx] at w;cases w with
   | cons a b =>
     cases a;exact .cons _ _ (ih _ b)
theorem qae0{l:OpenLaw}{n:Nat}(hn:l.most=some n){P:Params}{h:Heap}{args:List WData}{vals:List Value}(hpre:l.row.toRowW.claim.pre args=true)(hwl:WellAll P h vals args) :
   ∃ a vs ns,vals=[Value.ref a]/\args=[WData.list (ns.map WData.int)]/\h.get? a=some { cls:=.type "list",data:=.seq vs.toArray }/\IntsAre vs ns/\ns.length<=n:=by
 have hsh:WShape.hasAll [] args [.list .int]=true:=(pre_splitW hpre).1;have hc:l.pre.holds [] { args:=args }=true:=(pre_splitW hpre).2;obtain⟨d,r,rfl,h1,h2⟩:=hasAllW_cons hsh;obtain rfl:=hasAllW_nil h2;obtain⟨xs,rfl,h3⟩:=hasW_list h1;obtain⟨ns,rfl⟩:=items_int h3;have hlen:ns.length<=n:=by
   unfold OpenLaw.pre at hc;have h4:(WTm.not (.lt (.lit (.int (n:Int))) (.len (.arg 0)))).holds [] { args:=[.list (ns.map .int)] }=true:=by
     have h4:=(holds_andW hc).1;rw[hn] at h4;exact h4
   have h5:=condW_of h4 (w_not (w_lt w_lit (w_len_list (w_arg rfl))));rw[zAa] at h5;refine zC7 λ q=>?_
   have q':(n:Int) < ((ns.length:Nat):Int):=by lia
   first
     | (rw[zAq q'] at h5;exact absurd h5 (by decide))
     | (simp at h5;lia)
 cases hwl with
 | cons w1 w2 =>
   cases w2;cases w1 with
   | list ho hall=>exact⟨_,_,ns,rfl,rfl,ho,qw9 ns _ hall,hlen⟩
theorem qae7(l:OpenLaw)(args:List WData):l.row.toRowW.claim.post args (.bool true) args=true :=
 postW_of (r:=l.row.toRowW) (X:=(true == true))
   (show WShape.has [] (.bool true) .bool=true by first | rfl | decide | simp[WShape.has,WShape.arms,WShape.armsAll])
   (show (WTm.eq .res (.lit (.bool true))).value [] { args:=args,res:=some (.bool true),after:=args }=some (.bool (true == true)) from w_eq_bool (w_res rfl) w_lit) rfl
theorem qT8{l:OpenLaw}{n:Nat}{q:Program}{loose:List Str}{XP:(Str->Option Value)->Heap->Prop}{YP:World->Heap->Prop}{d:DefRec}(hn:l.most=some n)(hdf:d.params.defaults=[])(call:∀(w:World)(s₀ s₁:Shared)(mg mb:Str->Option Value)(fa:Addr)(o:Obj)(pm cd doc:Value)(a:Addr)(vs:List Value)(ns:List Int),
     Ground q loose [] XP w s₀ mg mb s₁.heap->YP w s₁.heap ->
     s₁.heap.get? fa=some o->o.data=.func (docDef d.name d.params d.body d.scope pm cd doc)->s₁.heap.CodeRec cd d.name->mg d.name=some (.ref fa) ->
     s₁.heap.get? a=some { cls:=.type "list",data:=.seq vs.toArray }->IntsAre vs ns->ns.length<=n->s₁.gens = #[] ->
     codeAny (model l.prog w) callerA (.call (.ref fa) ⟨[.ref a],[]⟩) (λ r s'=>r=.ok (.ret (.bool true))/\OldK s₁.heap s'.heap/\s'.os=s₁.os/\AllBare s'.gens) s₁) :
   WalkO q loose XP YP l.row.toRowW d [] (λ f vs=>PySem.call f vs):=by
 intro w s₀ s₁ mg mb G Y fa o pm cd doc dV kV ho hd hcd hD hmg hg args vals as hpre hlay hrd hwl hlo;obtain rfl:dV=.none:=Dflts.none hD hdf;obtain rfl:kV=.none:=Dflts.noKw hD;obtain⟨a,vs,ns,rfl,rfl,hobj,hints,hlen⟩:=qae0 hn hpre hwl;refine enter_call (codeAny_mono (call w s₀ s₁ mg mb fa o pm cd doc a vs ns G Y ho (fd_plain hd) hcd hmg hobj hints hlen hg) λ r s' hq=>?_);obtain⟨rfl,h2,h3,h4⟩:=hq;exact⟨.inl ⟨.bool true,.bool true,[],rfl,λ _=>rfl,.bool true,qae7 l _,λ _=>⟨List.Pairwise.nil,λ _ hm=>(nomatch hm)⟩⟩,h2,h3,h4⟩
end Att
namespace L2
open PySem PySem.Spec PyProof.Rows
theorem qL7:∀{vs:List Value}{ns:List Int},IntsAre vs ns->Vals (ns.map V.int) vs
 | _,_,.nil=>.nil
 | _,_,.cons n t h=>.cons ⟨t,rfl⟩ (qL7 h)
def Only(H:Hp):Prop:=∀ b,H b=none∨∃ o xs,H b=some (.frz o (.lst xs))
theorem qas2{P:Program}{w:World}{K:PySem.W.Frag}{mg mb:Str->Option Value}{CX:CXT}{k:Nat}{fa a:Addr}{fd:FuncData}{x:Str}{sp:Sp}{s₁:Shared}{vs:List Value}{ns:List Int}(KX:K.In s₁.heap)(hns:s₁.heap.Ns mainGlobals mg)(hb:s₁.heap.Ns builtinsNs mb)(hbb:∀ x:Str,x ≠ "__name__" -> mb x=bootBuiltins x)(hlim:s₁.heap.NoLimit)(hg:s₁.gens = #[])(ha:s₁.heap.get? a=some { cls:=.type "list",data:=.seq vs.toArray })(hi:IntsAre vs ns)(hl:ns.length<=sizeLine)(hr:Room k callerA)(F:∀ base:Heap,K.In base->base.Ns mainGlobals mg->By P w K mg base CX k fa fd [x] sp)(hbind:∀(s:Shared)(u:Value),BindsTo s fd ⟨[u],[]⟩ [(x,u)])(hsp:∀ H:Hp,Only H->SqL K H a (ns.map V.int)->sp [.ref a] H (λ v _=>v=.bl true) λ _ _ _=>False)(hCX:∀ H e s',CX [] H s₁ (λ _ _ _=>False) e s'->False) :
   codeAny (model P w) callerA (.call (.ref fa) ⟨[.ref a],[]⟩) (λ r s'=>r=.ok (.ret (.bool true))/\OldK s₁.heap s'.heap/\s'.os=s₁.os/\AllBare s'.gens) s₁:=by
 have rv:=qL7 hi;have lenV:=hi.length;have core:∀ H:Hp,Only H->SqL K H a (ns.map V.int)->HOk P w H s₁.heap->(∀ b,H b≠none->b=a)->(H a≠none->K.lookup a=none) ->
     codeAny (model P w) callerA (.call (.ref fa) ⟨[.ref a],[]⟩) (λ r s'=>r=.ok (.ret (.bool true))/\OldK s₁.heap s'.heap/\s'.os=s₁.os/\AllBare s'.gens) s₁:=by
   intro H hO hS hok hA hK;have base_of:∀{b:Addr}{o:Obj},s₁.heap.get? b=some o->H b=none->(E7 s₁.heap H).get? b=some o:=λ e n=>qat1 e n
   have noA:∀{b:Addr}{o:Obj}{es:Array DictEntry}{ep:Nat},s₁.heap.get? b=some o->o.data=.dict es ep->H b=none:=λ{b o es ep} e d=>by
     cases q:H b with
     | none=>rfl
     | some u =>
       have e':b=a:=hA b (by rw[q];simp);subst e';rw[ha] at e;cases e;have d':Data.seq vs.toArray _=Data.dict es ep:=d;cases d'
   have nsK:∀{b:Addr}{m:Str->Option Value},s₁.heap.Ns b m->(E7 s₁.heap H).Ns b m:=λ{b m} ⟨o,es,ep,e,d,r⟩=>⟨o,es,ep,base_of e (noA e d),d,r⟩
   have hKb:K.In (E7 s₁.heap H):=λ b o e=>base_of (KX b o e) (by
     cases q:H b with
     | none=>rfl
     | some u =>
       have e':b=a:=hA b (by rw[q];simp);subst e';rw[hK (by rw[q];simp)] at e;cases e)
   have hM:Mod K mg (E7 s₁.heap H):=⟨hKb,nsK hns,⟨mb,nsK hb,hbb⟩,let ⟨mc,h1,h2⟩:=hlim;⟨mc,nsK h1,h2⟩⟩
   have e0:Env0 P w K mg (E7 s₁.heap H) callerA [] s₁ H:=⟨rfl,hM,λ b o e=>qaA6 e,zCc (qag5 _ _),trivial,λ b hb=>absurd (show b∈([]:List Addr) from hb) (by simp),hok,.of_eq hg⟩
   refine codeAny_mono ((F _ hKb (nsK hns)).run callerA [] s₁ H ⟨[.ref a],[]⟩ [.ref a] [.ref a] _ _ hr e0 (hbind s₁ (.ref a)) (.cons rfl .nil) (hsp H hO hS)) λ r s' h=>?_
   cases r with
   | error e=>exact(hCX H e s' h).elim
   | ok fl =>
     cases fl with
     | next=>exact False.elim h
     | brk=>exact False.elim h
     | cont=>exact False.elim h
     | ret u =>
       obtain⟨v,H',os,bare,un,hok',r',q⟩:=h;have q':v=.bl true:=q;subst q';obtain rfl:u=Value.bool true:=r';refine⟨rfl,OldK.of_keep λ b o e=>?_,os,bare⟩;cases q:H b with
       | none=>exact un.keep b o e q (by intro z;exact absurd (show b∈([]:List Addr) from z) (by simp)) (by simp)
       | some u =>
         rcases hO b with z | ⟨ob,xs,z⟩
         . rw[q] at z;cases z
         have z2:=un.frzs b ob _ z;obtain⟨e1,_⟩:=hok b _ z;obtain⟨e2,_⟩:=hok' b _ z2;rw[e] at e1;cases e1;exact e2
 cases hk:K.lookup a with
 | some o =>
   have e:=KX a o hk;rw[ha] at e;cases e;refine core (λ _=>none) (λ _=>.inl rfl) (.inr ⟨_,vs.toArray,_,hk,rfl,rfl,rfl,by rw[zA4,lenV];exact hl,by simpa using rv⟩) (λ b u z=>by have z':(none:Option HO)=some u:=z;cases z') (λ b z=>absurd rfl z) λ z=>absurd rfl z
 | none =>
   refine core (λ b=>if b=a then some (.frz { cls:=.type "list",data:=.seq vs.toArray } (.lst (ns.map V.int))) else none) (λ b=>?_) (.inl (.inr ⟨{ cls:=.type "list",data:=.seq vs.toArray },if_pos rfl⟩)) (λ b u z=>?_) (λ b z=>?_) λ _=>hk
   . by_cases hb:b=a
     . exact .inr ⟨_,_,if_pos hb⟩
     exact .inl (if_neg hb)
   . by_cases hb:b=a
     . have z':=(if_pos hb).symm.trans z
       cases z';subst hb;exact⟨ha,by rw[zAa];exact hl,vs,_,rv,ha⟩
     have z':=(if_neg hb).symm.trans z;cases z'
   by_cases hb:b=a
   . exact hb
   exact absurd (if_neg hb) z
theorem qau9{l:PySem.W.OpenLaw}{n k:Nat}{q:Program}{loose:List Str}{XP:(Str->Option Value)->Heap->Prop}{YP:World->Heap->Prop}{d:DefRec}{K:Params->PySem.W.Frag}{CX:World->CXT}{sp:World->Sp}{x:Str}(hn:l.most=some n)(hn2:n<=sizeLine)(hdf:d.params.defaults=[])(hr:Room k callerA)(hY:∀(w:World)(h:Heap),YP w h->(K w.params).In h)(F:∀(w:World)(mg:Str->Option Value)(fa:Addr)(h:Heap),(K w.params).In h->h.Ns mainGlobals mg->mg d.name=some (.ref fa) ->
     ∃ fd:FuncData,(∀(s:Shared)(u:Value),BindsTo s fd ⟨[u],[]⟩ [(x,u)]) /\
       ∀ base:Heap,(K w.params).In base->base.Ns mainGlobals mg->By l.prog w (K w.params) mg base (CX w) k fa fd [x] (sp w))(hsp:∀(w:World)(H:Hp)(a:Addr)(ns:List Int),ns.length<=n->Only H->SqL (K w.params) H a (ns.map V.int)->sp w [.ref a] H (λ v _=>v=.bl true) λ _ _ _=>False)(hCX:∀(w:World)(H:Hp)(s:Shared)(e:Value)(s':Shared),CX w [] H s (λ _ _ _=>False) e s'->False) :
   PySem.W.WalkO q loose XP YP l.row.toRowW d [] (λ f vs=>PySem.call f vs):=by
 refine Att.qT8 hn hdf λ w s₀ s₁ mg mb fa o pm cd doc a vs ns G Y ho hd hcd hmg hobj hints hlen hg=>?_
 have KX:=hY w _ Y;obtain⟨fd,hb,hF⟩:=F w mg fa _ KX G.T.g hmg;exact qas2 KX G.T.g G.T.b G.T.builtins G.T.nolimit hg hobj hints (zAn hlen hn2) hr hF hb (λ H hO hS=>hsp w H a ns hlen hO hS) λ H e s'=>hCX w H s₁ e s'
end L2
/- THE LAST THEOREM (shape;LID,My.* are yours):
  My.Adr: a structure of the addresses that your layer names (classes,functions);My.Txt K t: a structure (Prop) of the equations over K;
  My.txt_mk:{K} {implicit addresses ..} (e1:nsIn K mainGlobals "law" = some (some (.ref f))) (e2:K.lookup f=some ⟨oc,od,.func (fnOf "law" "law" params body scope dV kV doc pm an cdv ct),sl⟩) (e3:codeIn K cdv "law" = true) .. : ∃ t,My.Txt K t
(the tactic k_is has no namespace: write k_is) -/
namespace L2
open PySem PySem.Spec PyProof.Rows
variable{f:Addr}{qual x:Str}{st:Stmt}
def qj2(s:Stmt)(j:Nat):Stmt:=match s with
 | .ClassDef _ _ _ body _ _ _ _ _ _ _=>body.getD j (.Pass ⟨0,0,0,0⟩)
 | _=>.Pass ⟨0,0,0,0⟩
def qe2(s:Stmt):Arguments:=match s with
 | .FunctionDef _ a _ _ _ _ _ _ _ _=>a
 | _=>{ posonlyargs:=[],args:=[],vararg:=none,kwonlyargs:=[],kw_defaults:=[],kwarg:=none,defaults:=[] }
def qc6(s:Stmt):List Stmt:=match s with
 | .FunctionDef _ _ b _ _ _ _ _ _ _=>b
 | _=>[]
def qa3(s:Stmt):Scope:=match s with
 | .FunctionDef _ _ _ _ _ _ sc _ _ _=>sc
 | _=>{ kind:=.function,names:=[],isGenerator:=false,isCoroutine:=false }
abbrev CX0:CXT:=λ _ _ _ _ _ _=>False
abbrev E0:XK:=λ _ _ _=>False
theorem pass0{X:Cx}:qG0 CX0 X E0:=λ _ _ _ _ _ _ _ h=>h.elim
structure Fun(K:PySem.W.Frag)(x qual:Str)(st:Stmt)(f:Addr)(fd:FuncData):Prop where
 ex:∃(oc:Value)(od:Option Addr)(kV doc pm:Value)(an:Option Addr)(cdv ct:Value)(osl:Array (Option Value)),
   fd=PySem.W.fnOf x qual (qe2 st) (qc6 st) (qa3 st) .none kV doc pm an cdv ct/\K.lookup f=some ⟨oc,od,.func fd,osl⟩/\PySem.W.codeIn K cdv qual=true
 kp:PySem.W.keepIn K (.ref f)=true
section
variable{P:Program}{w:World}{K:PySem.W.Frag}{mg:Str->Option Value}{base:Heap}
theorem Fun.ok{fd:FuncData}{N ps:List Str}{k:Nat}{sp:Sp}(F:Fun K x qual st f fd)(S:qa9 N ps (qa3 st))(len:∀ vs H Q E,sp vs H Q E->vs.length=ps.length)(hbody:∀(cdv:Value)(A:Around)(outer:List Env)(s:Shared)(H:Hp)(vs:List V)(Q:VK)(E:XK),Room k (A.deeper (envOfC qual (qa3 st) s.heap.objs.size f cdv))->sp vs H Q E ->
     ∃ t,PSs (Dn CX0 P w K mg base N qual (qa3 st) f cdv A outer s H E).nox (qc6 st) t/\t { nx:=λ _ H'=>Q .non H',rt:=Q } (start N vs) H):By P w K mg base CX0 (k+1) f fd ps sp:=by
 obtain⟨oc,od,kV,doc,pm,an,cdv,ct,osl,rfl,lk,hcd⟩:=F.ex;refine Hd lk hcd S len λ A outer s H vs Q E hr hsp=>?_
 obtain⟨t,h,q⟩:=hbody cdv A outer s H vs Q E hr hsp;exact⟨t,h.nox,q⟩
theorem Fun.binds{fd:FuncData}{ps:List Str}(F:Fun K x qual st f fd)(h:∀(kV doc pm:Value)(an:Option Addr)(cdv ct:Value)(us:List Value),us.length=ps.length->bindArgs (PySem.W.fnOf x qual (qe2 st) (qc6 st) (qa3 st) .none kV doc pm an cdv ct) ⟨us,[]⟩=pure (ps.zip us)):Binds K fd ps []:=by
 obtain⟨oc,od,kV,doc,pm,an,cdv,ct,osl,rfl,lk,hcd⟩:=F.ex;exact .all (h kV doc pm an cdv ct)
theorem qag7{oc:Value}{od an:Option Addr}{osl:Array (Option Value)}{kV doc pm cdv ct:Value}(l:K.lookup f=some ⟨oc,od,.func (PySem.W.fnOf x qual (qe2 st) (qc6 st) (qa3 st) .none kV doc pm an cdv ct),osl⟩)(c:PySem.W.codeIn K cdv qual=true)(k:PySem.W.keepIn K (.ref f)=true):Fun K x qual st f (PySem.W.fnOf x qual (qe2 st) (qc6 st) (qa3 st) .none kV doc pm an cdv ct):=⟨⟨oc,od,kV,doc,pm,an,cdv,ct,osl,rfl,l,c⟩,k⟩
end
theorem Hf{A:Around}{k:Nat}(hr:Room k A):A.units+1 < cLine:=Nat.lt_of_le_of_lt (Nat.add_le_add_left (by decide:1<=64) _) hr.units
theorem qad9{n:Nat}(h:n<=1000):n < sizeLine:=Nat.lt_of_le_of_lt h (by decide)
section
variable{X:Cx}
theorem pv(i:Nat){pos:Pos}(hN:X.N[i]? = some x:=by rfl)(hv:Vis X.env.scope x:=by first | exact Or.inl rfl | exact Or.inr (Or.inl rfl) | exact Or.inr (Or.inr rfl))(hd:(x == ("__debug__" : Str))=false:=by decide)(hcd:(x == ("__classdict__" : Str))=false:=by decide):PE X (.Name x pos) (Er i):=qm3 hN hv hd hcd
theorem qai3:CallR X (.builtin "len") (λ xs H Q=>∃ a kvs,xs=[V.ref a]/\H a=some (.dK kvs)/\Q (.int kvs.length) H):=by
 intro D6 s σ H xs us Q I r h;obtain⟨a,kvs,rfl,ha,q⟩:=h;obtain⟨u,rfl,ru⟩:=Bl r;cases ru;exact d_len I (.inl ha) λ t s' I'=>⟨.int kvs.length,H,I',⟨t,rfl⟩,q⟩
end
def Same(H H':Hp):Prop:=∀ b o,H b=some o->H' b=some o
theorem Same.trans{H H1 H2:Hp}(a:Same H H1)(b:Same H1 H2):Same H H2:=λ c o h=>b c o (a c o h)
end L2
set_option maxHeartbeats 4000000
namespace L2
open PySem PySem.Spec PyProof.Rows
variable{H:Hp}{a:Addr}{e:Expr}{es:List Expr}{i:Int}{p:Pos}{t:TA}{x:Str}{xs:List V}{α:Type}
theorem Gw{t:Sem α}{Q Q':α->Shared->Prop}{M:Model}{A:Around}{E:Value->Shared->Prop}{s:Shared}(h:wpAny M A t Q (λ _ _=>False) s)(hQ:∀ a s,Q a s->Q' a s):wpAny M A t Q' E s :=
 wpAny_mono h hQ λ _ _ x=>x.elim
def Ed(env:Env):List (Str×NameKind)->List (Str×Addr)->List (Str×Addr)
 | [],acc=>acc
 | (n,k)::r,acc=>Ed env r (if k == NameKind.free then (n,(env.cells.lookup n).getD 0)::acc else acc)
theorem qu9{env:Env}:∀(l:List (Str×NameKind))(acc:List (Str×Addr)),(∀ x∈l,x.2=NameKind.free->∃ c,env.cells.lookup x.1=some c) ->
   (forIn l acc λ(x:Str×NameKind)(r:List (Str×Addr)) =>
     (match x with
     | (name,kind)=>if (kind == NameKind.free)=true then (do let c <- cellOf env name;pure (ForInStep.yield ((name,c)::r)):Sem (ForInStep (List (Str×Addr)))) else pure (ForInStep.yield r)))=(pure (Ed env l acc):Sem _)
 | [],acc,_=>rfl
 | (n,k)::r,acc,h=>by
   rw[List.forIn_cons];by_cases hk:(k == NameKind.free)=true
   . obtain⟨c,hc⟩:=h (n,k) zA9 (by simpa using hk)
     have hc:env.cells.lookup n=some c:=hc;dsimp only;rw[if_pos hk];have e:cellOf env n=pure c:=by unfold cellOf;rw[hc]
     rw[e];show (forIn r ((n,c)::acc) _:Sem _)=_;rw[qu9 r ((n,c)::acc) λ x hx=>h x (zA6 _ hx)];show _=(pure (Ed env r (if (k == NameKind.free)=true then (n,(env.cells.lookup n).getD 0)::acc else acc)):Sem _)
     rw[if_pos hk,hc];rfl
   dsimp only;rw[if_neg hk];show (forIn r acc _:Sem _)=_;rw[qu9 r acc λ x hx=>h x (zA6 _ hx)];show _=(pure (Ed env r (if (k == NameKind.free)=true then (n,(env.cells.lookup n).getD 0)::acc else acc)):Sem _)
   rw[if_neg hk]
theorem qF4{env:Env}{sc:Scope}(h:∀ x∈sc.names,x.2=NameKind.free->∃ c,env.cells.lookup x.1=some c):closureFor sc env=pure (Ed env sc.names []):=by
 unfold closureFor;show (forIn sc.names [] _ >>= _)=_
 have:=qu9 (env:=env) sc.names [] h
 rw[show (forIn sc.names ([]:List (Str×Addr)) _:Sem _)=pure (Ed env sc.names []) from this];rfl
theorem qab1{env:Env}:∀(l:List (Str×NameKind))(acc:List (Str×Addr))(x:Str)(c:Addr),(x,c)∈Ed env l acc->(x,c)∈acc∨((x,NameKind.free)∈l/\c=(env.cells.lookup x).getD 0)
 | [],acc,x,c,h=>.inl h
 | (n,k)::r,acc,x,c,h=>by
   rcases qab1 r _ x c h with h | ⟨h,e⟩
   . by_cases hk:(k == NameKind.free)=true
     . rw[if_pos hk] at h
       rcases zAm.mp h with h | h
       . cases h
         exact .inr ⟨by rw[show k=NameKind.free by simpa using hk];exact zA9,rfl⟩
       exact .inl h
     rw[if_neg hk] at h;exact .inl h
   exact .inr ⟨zA6 _ h,e⟩
theorem qab2{env:Env}:∀(l:List (Str×NameKind))(acc:List (Str×Addr))(x:Str),(∃ c,(x,c)∈acc)->∃ c,(x,c)∈Ed env l acc
 | [],acc,x,h=>h
 | (n,k)::r,acc,x,⟨c,h⟩=>qab2 r _ x ⟨c,by split;exact zA6 _ h;exact h⟩
theorem qL3{env:Env}:∀(l:List (Str×NameKind))(acc:List (Str×Addr))(x:Str),(x,NameKind.free)∈l->∃ c,(x,c)∈Ed env l acc
 | [],acc,x,h=>by simp at h
 | (n,k)::r,acc,x,h=>by
   rcases zAm.mp h with h | h
   . cases h
     exact qab2 r _ _ ⟨_,by rw[if_pos (by rfl)];exact zA9⟩
   exact qL3 r _ x h
theorem qu0{α:Type}:∀{l:List (Str×α)}{x:Str},(∃ c,(x,c)∈l)->∃ c,l.lookup x=some c
 | [],x,⟨c,h⟩=>by simp at h
 | (n,a)::r,x,⟨c,h⟩=>by
   cases hx:x == n with
   | true=>exact⟨a,by simp only[zAu,hx]⟩
   | false =>
     rcases zAm.mp h with h | h
     . cases h;simp at hx
     obtain⟨d,hd⟩:=qu0 ⟨c,h⟩;exact⟨d,by simp only[zAu,hx];exact hd⟩
def Db(σ:St)(src:List (Option Nat)):St:=src.map λ o=>match o with | none=>none | some j=>(σ[j]?).getD none
def qu8(X:Cx)(NY:List Str)(src:List (Option Nat))(sc:Scope):Bool :=
 (sc.kind == .function)&&(src.length == NY.length) &&
 (sc.names.all λ x=>x.2 != .cell&&(x.2 != .local||sc.names.lookup x.1 == some .local)&&(x.2 != .free||(X.env.scope.names.lookup x.1 == some .cell||X.env.scope.names.lookup x.1 == some .free))) &&
 ((NY.zip src).all λ p=>match p.2 with | none=>true | some j=>X.N[j]? == some p.1&&sc.names.lookup p.1 == some .free)
def qh1(X:Cx)(NY:List Str)(sc:Scope)(C:Addr)(s0:Shared)(H0:Hp)(ex:List Addr):Cx where
 prog:=X.prog
 w:=X.w
 K:=X.K
 mg:=X.mg
 base:=X.base
 A:=X.A
 N:=NY
 s₀:=s0
 H₀:=H0
 env:=compEnvC sc (Ed X.env sc.names []) C X.env
 outer:=X.stack
 stack:=X.stack
 ex:=ex
 fn:=λ _=>false
 calm:=X.calm
 pn:=[]
 xe:=λ _ _=>False
def PFs(X:Cx)(ifs:List Expr)(t:TT):Prop :=
 ∀(D6:List (Addr×Obj))(s:Shared)(σ:St)(H:Hp)(Q:Bool->Hp->Prop),Inv X D6 σ H s->t σ H Q ->
   wpAny (model X.prog X.w) X.A (forIn ifs true λ c r=>if r=true then do let ok <- isTrue c X.env (eval c X.env);pure (ForInStep.yield ok) else pure (ForInStep.yield r)) (TP X D6 σ Q) X.xe s
def tYes:TT:=λ _ H Q=>Q true H
theorem qay5{X:Cx}:PFs X [] tYes:=λ _ _ _ H _ I h=>wpAny_tests_nil ⟨H,I,h⟩
theorem qaH6{X:Cx}{c:Expr}{t:TT}(h:PT X c t):PFs X [c] t:=λ D6 s σ H Q I q=>wpAny_tests_one (h D6 s σ H Q I q)
theorem ql6{prog:Program}{w:World}{A:Around}{R:Result->Shared->Prop}{s:Shared}{elt target iter:Expr}{ifs:List Expr}{scope:Scope}{pos:Pos}{it acc:Value}{env:Env}(I:Nat->Shared->Prop)(turn:∀ n s,I n s->wpAny (model prog w) A (pyNext it) (λ r s₁=>match r with
     | none=>R (.ok .next) s₁
     | some v=>wpAny (model prog w) A (letOwnedTupleGo target it v) (λ _ s₁'=>wpAny (model prog w) A (assign target env v) (λ _ s₂ =>
         wpAny (model prog w) A (forIn ifs true λ c r=>if r=true then do let ok <- isTrue c env (eval c env);pure (ForInStep.yield ok) else pure (ForInStep.yield r)) (λ ok s₃ =>
           if ok=true then wpAny (model prog w) A (eval elt env) (λ x s₄ =>
             wpAny (model prog w) A (call (.builtin "list.append") [acc,x]) (λ _ s₅=>∃ m,m < n/\I m s₅) (λ _ _=>False) s₄) (λ _ _=>False) s₃
           else ∃ m,m < n/\I m s₃) (λ _ _=>False) s₂) (λ _ _=>False) s₁') (λ _ _=>False) s₁) (λ _ _=>False) s)(n:Nat)(h:I n s) :
   codeAny (model prog w) A (.compLoop (.ListComp elt [⟨target,iter,ifs,0⟩] scope pos) 0 it acc env) R s:=by
 refine codeAny_loop rfl I (λ n s hI=>?_) n h;show wpAny _ A ((compTurn (.ListComp elt [⟨target,iter,ifs,0⟩] scope pos) 0 it acc env).onRaise (λ x=>do noteFrame x env;theTreesLotGoes x)) _ _ s;refine wpAny_noted ?_;rw[compTurn_list];refine wpAny_bind (wpAny_standAt (wpAny_bind (Gw (turn n s hI) λ r s₁ h₁=>?_)));cases r with
 | none=>exact wpAny_pure h₁
 | some v =>
   refine wpAny_bind (Gw h₁ λ _ s₁' h₁'=>?_);refine wpAny_bind (Gw h₁' λ _ s₂ h₂=>wpAny_bind (Gw h₂ λ ok s₃ h₃=>?_));cases ok with
   | false=>exact wpAny_pure ⟨rfl,h₃⟩
   | true =>
     exact wpAny_bind (wpAny_bind (Gw h₃ λ x s₄ h₄=>wpAny_bind (Gw h₄ λ _ s₅ h₅=>wpAny_pure (wpAny_pure ⟨rfl,h₅⟩))))
def qC6(J:It)(g:TG)(tf:TT)(te:TE)(D:Addr)(R:Hp->Prop)(σ0:St)(H0:Hp):Prop :=
 ∃ W:Nat->Nat->St->Hp->Prop,(∃ m,W 0 m σ0 H0)/\∀ i m σ H,W i m σ H ->
   (J.stop i H/\R H)∨(J.go i H/\∃ N:St->Hp->Prop,(∀ σ' H',N σ' H'->∃ m',m' < m/\W (i+1) m' σ' H')/\∀ x H',J.yld i H x H'->g x σ H' λ σ2 H2=>tf σ2 H2 λ ok H3 =>
     if ok=true then te σ2 H3 λ v H4=>∃ xs,H4 D=some (.lst xs)/\xs.length < sizeLine/\N σ2 (upd H4 D (.lst (xs++[v]))) else N σ2 H3)
theorem qm8{env:Env}{x:Str}:∀{names:List (Str×NameKind)},(∀ y∈names,y.2≠.cell) ->
   ((names.map λ (n,k)=>if (k == NameKind.free&&env.scope.kind == .function&&env.kindOf n == some .cell) then (n,NameKind.cell) else (n,k)).lookup x=some .cell ∨
    (names.map λ (n,k)=>if (k == NameKind.free&&env.scope.kind == .function&&env.kindOf n == some .cell) then (n,NameKind.cell) else (n,k)).lookup x=some .free)->names.lookup x=some .free
 | [],_,h=>by simp at h
 | (n,k)::r,hc,h=>by
   have ih:=@qm8 env x r λ y hy=>hc y (zA6 _ hy)
   have hk:k≠.cell:=hc (n,k) zA9;simp only[zAx] at h;cases hx:x == n with
   | true =>
     simp only[zAu,hx];by_cases hq:(k == NameKind.free&&env.scope.kind == .function&&env.kindOf n == some .cell)=true
     . have:k=NameKind.free:=by
         simp only[zBg,zC2] at hq;exact hq.1.1
       rw[this]
     rw[if_neg hq] at h;simp only[zAu,hx] at h;rcases h with h | h
     . exact absurd (Option.some.inj h) hk
     exact h
   | false =>
     simp only[zAu,hx];apply ih;by_cases hq:(k == NameKind.free&&env.scope.kind == .function&&env.kindOf n == some .cell)=true
     . rw[if_pos hq] at h
       simpa only[zAu,hx] using h
     rw[if_neg hq] at h;simpa only[zAu,hx] using h
theorem qg5{env:Env}{x:Str}:∀{names:List (Str×NameKind)},names.lookup x=some .free ->
   ((names.map λ (n,k)=>if (k == NameKind.free&&env.scope.kind == .function&&env.kindOf n == some .cell) then (n,NameKind.cell) else (n,k)).lookup x=some .cell ∨
    (names.map λ (n,k)=>if (k == NameKind.free&&env.scope.kind == .function&&env.kindOf n == some .cell) then (n,NameKind.cell) else (n,k)).lookup x=some .free)
 | [],h=>by simp at h
 | (n,k)::r,h=>by
   have ih:=@qg5 env x r;simp only[zAx];cases hx:x == n with
   | true =>
     simp only[zAu,hx] at h;have h:k=.free:=Option.some.inj h;by_cases hq:(k == NameKind.free&&env.scope.kind == .function&&env.kindOf n == some .cell)=true
     . rw[if_pos hq];simp only[zAu,hx];exact .inl trivial
     rw[if_neg hq];simp only[zAu,hx];rw[h];exact .inr rfl
   | false =>
     simp only[zAu,hx] at h;by_cases hq:(k == NameKind.free&&env.scope.kind == .function&&env.kindOf n == some .cell)=true
     . rw[if_pos hq];simp only[zAu,hx];exact ih h
     rw[if_neg hq];simp only[zAu,hx];exact ih h
section
variable{X:Cx}{D6:List (Addr×Obj)}{σ:St}{H2:Hp}{s2:Shared}{elt tg iter:Expr}{ifs:List Expr}{sc:Scope}{pos:Pos}{NY:List Str}{src:List (Option Nat)}{J:It}{fp:List Addr}{it:Addr}{tn:Nat->Heap->Prop}{g:TG}{tf:TT}{te:TE}
theorem qP7{R:Addr->Hp->Prop}{E:Value->Shared->Prop}{RR:Value->Addr->Result->Shared->Prop}(ck:qu8 X NY src sc=true)(hc:X.calm=true)(I2:Inv X D6 σ H2 s2)(T:G9 X.prog X.w X.K tg J fp it tn)(st2:tn 0 s2.heap)(f2:∀ b∈fp,E8 X D6 H2 b)(hg:∀ C s0 H0,PG (qh1 X NY sc C s0 H0 fp) tg g)(hf:∀ C s0 H0,PFs (qh1 X NY sc C s0 H0 fp) ifs tf)(he:∀ C s0 H0,PE (qh1 X NY sc C s0 H0 fp) elt te)(rd:∀ D,H2 D=none->qC6 J g tf te D (R D) (Db σ src) (upd H2 D (.lst [])))(fin:∀ D C H' s',Inv X D6 σ H' s'->R D H'->H' C=none->X.s₀.heap.objs.size<=C->C≠X.env.locals->(∀ x c,X.env.cells.lookup x=some c->c≠C)->(∀ p∈X.pn++D6,p.1≠C)->C∉X.fs->(∃ m,s'.heap.Ns C m)->RR (.ref D) C (.ok .next) s') :
   wpAny (model X.prog X.w) X.A (newList []) (λ acc s₃=>wpAny (model X.prog X.w) X.A (newFunctionEnv sc X.env.globals (Ed X.env sc.names []) [] X.env.qual none .none (some X.env)) (λ cenv s₄ =>
     codeAny (model X.prog X.w) X.A (.compStart (.ListComp elt [⟨tg,iter,ifs,0⟩] sc pos) 0 (.ref it) acc { cenv with scope:=relabel sc X.env }) (RR acc cenv.locals) s₄) E s₃) E s2:=by
 unfold qu8 at ck;simp only[zBg,zC2,zBe] at ck;obtain⟨⟨⟨hkind,hlen⟩,hnm⟩,hsrc⟩:=ck;have hcell:∀ y∈sc.names,y.2≠.cell:=λ y hy e=>by
   have:=(hnm y hy).1.1
   rw[e] at this;exact absurd this (by decide)
 have hfree:∀ y∈sc.names,y.2=.free->(X.env.kindOf y.1=some .cell∨X.env.kindOf y.1=some .free):=λ y hy e=>by
   have:=(hnm y hy).2
   rw[e] at this;show X.env.scope.names.lookup y.1=some .cell∨X.env.scope.names.lookup y.1=some .free;simpa using this
 have clsub:∀ x c,(Ed X.env sc.names []).lookup x=some c->X.env.cells.lookup x=some c:=λ x c e=>by
   rcases qab1 _ _ x c (PySem.mem_of_lookup e) with h | ⟨h,q⟩
   . simp at h
   obtain⟨d,hd⟩:=I2.ok.has x (hfree _ h rfl);rw[hd] at q;rw[hd,q];rfl
 refine wpAny_newObj_type (wpAny_newFunctionEnv hcell (by intro y hy;simp at hy) (λ h₁ hns₁ hsb₁=>?_) hkind);dsimp only at hns₁ hsb₁ ⊢;have I3:=I2.lnew (ys:=[]) (its:=[]) (t':=s2.toks) .nil (zBt _);have hD:H2 s2.heap.objs.size=none:=I2.fresh;generalize hDn:s2.heap.objs.size=D at hns₁ hsb₁ I3 hD ⊢;generalize hH3:s2.heap.push { cls:=.type "list",dict:=none,data:=.seq ([]:List Value).toArray }=h3 at hns₁ hsb₁ I3 ⊢;have hs3:h3.objs.size=D+1:=by rw[<- hH3,Heap.size_push,hDn]
 generalize hCn:h3.objs.size=C at hns₁ hsb₁ hs3 ⊢;have I3:Inv X D6 σ (upd H2 D (.lst [])) { s2 with heap:=h3,toks:=s2.toks }:=I3;have old:∀ b o,h3.get? b=some o->h₁.get? b=some o:=λ b o e=>hsb₁.extBut b o (by rw[<- hCn];exact zAr (zAc e)) (zA3 _ e)
 have neC:∀ b o,h3.get? b=some o->b≠C:=λ b o e=>by rw[<- hCn];exact zAr (zAc e)
 have hLC:X.env.locals≠C:=by rw[<- hCn];exact zAr I3.lt
 have cLC:∀ x c,X.env.cells.lookup x=some c->c≠C:=λ x c e=>by
   obtain⟨v,o,ho,_⟩:=I3.cell x c e;exact neC c o ho
 have fpC:∀ b∈fp,b≠C:=λ b hb=>by
   obtain⟨o,ho,_⟩:=T.obj _ _ st2 b hb
   have:=zAc ho
   rw[hDn] at this;exact zAr (Nat.lt_trans this (by rw[hs3];exact zC8 _))
 have fpD:∀ b∈fp,b≠D:=λ b hb=>by
   obtain⟨o,ho,_⟩:=T.obj _ _ st2 b hb
   have:=zAc ho
   rw[hDn] at this;exact zAr this
 have k23:∀ b o,s2.heap.get? b=some o->h3.get? b=some o:=λ b o e=>by rw[<- hH3];exact zA3 _ e
 have pinC:∀ p∈X.pn++D6,p.1≠C:=λ p hp=>neC _ _ (I3.pin p hp).1
 have fsC:C∉X.fs:=by rw[<- hCn];exact I3.nofs (zA2 _)
 have ovC:X.s₀.heap.objs.size<=C:=by rw[<- hCn];exact I3.sz
 have stkC:∀ b∈frs X.stack,b≠C:=λ b hb e=>by
   rcases zAm.mp (I3.stkSub b hb) with z | z
   . exact hLC (z.symm.trans e)
   exact fsC (e ▸ z)
 have HC:upd H2 D (.lst []) C=none:=I3.hok.fresh (by show h3.objs.size<=C;exact zCc hCn);have fpO:∀ b∈fp,b∉frs X.stack:=λ b hb z=>by
   obtain⟨_,h1,h2,_⟩:=f2 b hb;rcases zAm.mp (I2.stkSub b z) with q | q
   . exact h1 q
   exact h2 q
 let Y:Cx:=qh1 X NY sc C { s2 with heap:=h3 } (upd H2 D (.lst [])) fp
 have sc0:(Db σ src).length=NY.length:=by unfold Db;rw[zAa];exact hlen
 have IY:Inv Y [] (Db σ src) (upd H2 D (.lst [])) { s2 with heap:=h₁,toks:=s2.toks+0 }:=by
   refine⟨⟨I2.ok.mod,hkind,I2.ok.glob,I2.ok.blt,(by show h3.objs.size<=C;exact zCc hCn),λ x y c h1 h2=>I2.ok.inj x y c (clsub x c h1) (clsub y c h2),λ x hx=>?_,λ _ _ z _=>(zAj z).elim,I2.ok.hd,I2.ok.frames,.inl rfl,λ b hb=>⟨fpC b hb,λ x c e=>(f2 b hb).2.2.2.2.1 x c (clsub x c e)⟩,
     λ b o e=>?_,?_,λ b o e hb=>?_,λ b hb=>fpO b hb,?_,λ b hb=>?_⟩,rfl,I2.bare,Un.kept old,⟨_,hns₁,λ i x v e1 e2 e3=>?_⟩,λ x c e=>?_,HC,λ x c e=>I3.freeC x c (clsub x c e),λ p hp=>absurd (show p∈([]:List (Addr×Obj)) from hp) (by simp),I3.hok.kept old,sc0⟩
   . have hx:=qm8 hcell hx
     exact qu0 (qL3 _ _ _ (PySem.mem_of_lookup hx))
   . exact I3.bs b o e
   . exact zAn I2.ok.bsz (zAn (zAn I2.sz (by rw[hDn];exact zA2 _)) (by show D<=h3.objs.size;lia))
   . rcases (f2 b hb).2.2.2.1 with z | z
     . exact I2.ok.noex b o e z
     exact absurd (zAg (zAc (I2.ok.bs b o e).1) z) (zBz _)
   . exact I3.stack
   . exact I3.stkFree b hb
   . -- a captured name
     have hi:i < src.length:=by
       have:=(zA5.mp e2).1
       rw[sc0,<- hlen] at this;exact this
     have e1:NY[i]? = some x:=e1;have es:src[i]? = some src[i]:=by simp[hi]
     have ep:(Db σ src)[i]? = some (match src[i] with | none=>none | some j=>(σ[j]?).getD none):=by
       unfold Db;rw[zB8,es];rfl
     rw[ep] at e2;cases hj:src[i] with
     | none=>rw[hj] at e2;cases e2
     | some j =>
       rw[hj] at e2;have e2:(σ[j]?).getD none=some v:=Option.some.inj e2;have ej:σ[j]? = some (some v):=by
         cases q:σ[j]? with
         | none=>rw[q] at e2;cases e2
         | some o=>rw[q] at e2;rw[show o=some v from e2]
       have hm:(x,some j)∈NY.zip src:=by
         have:(NY.zip src)[i]? = some (x,some j):=by
           rw[List.getElem?_zip_eq_some];exact⟨e1,by rw[es,hj]⟩
         exact zBa this
       have q:=hsrc _ hm;simp only[zBg,zC2] at q;obtain⟨qN,qf⟩:=q;have qk:=hfree _ (PySem.mem_of_lookup qf) rfl;obtain⟨m,hn,hl⟩:=I3.loc;obtain⟨u,r,l⟩:=hl j x v qN ej (qk.elim (λ z=>.inr (.inl z)) λ z=>.inr (.inr z));refine⟨u,r,.inr ⟨qg5 qf,?_⟩⟩;rcases l with⟨z,_⟩ | ⟨_,c,ec,o,ho,hd⟩
       . have qk:X.env.kindOf x=some .cell∨X.env.kindOf x=some .free:=qk
         rw[z] at qk;rcases qk with qk | qk<;>cases qk
       obtain⟨c',ec'⟩:=qu0 (qL3 (env:=X.env) sc.names [] x (PySem.mem_of_lookup qf))
       have:=clsub x c' ec'
       rw[ec] at this;cases this;exact⟨c,ec',o,old c o ho,hd⟩
   obtain⟨v,o,ho,hd⟩:=I3.cell x c (clsub x c e);exact⟨v,o,old c o ho,hd⟩
 have st₁:tn 0 h₁:=T.keep _ _ _ st2 λ b hb o e=>old b o (k23 b o e)
 have stat:∀{H':Hp},(∀ b∈fp,H' b=none)->∀ b∈fp,E8 Y [] H' b:=λ hn b hb=>by
   refine⟨hn b hb,fpC b hb,fpO b hb,.inl hb,λ x c e=>(f2 b hb).2.2.2.2.1 x c (clsub x c e),λ p hp=>absurd (show p∈([]:List (Addr×Obj)) from hp) (by simp)⟩
 have loop:codeAny (model X.prog X.w) X.A (.compLoop (.ListComp elt [⟨tg,iter,ifs,0⟩] sc pos) 0 (.ref it) (.ref D) Y.env) (RR (.ref D) C) { s2 with heap:=h₁,toks:=s2.toks+0 }:=by
   obtain⟨W,⟨m0,w0⟩,turn⟩:=rd D hD;refine ql6 (λ n s'=>∃ i σ' H',Inv Y [] σ' H' s'/\tn i s'.heap/\(∀ b∈fp,H' b=none)/\W i n σ' H') ?_ m0 ⟨0,_,_,IY,st₁,λ b hb=>by rw[qc7 (fpD b hb)];exact(f2 b hb).1,w0⟩;rintro n s3 ⟨i,σ3,H3,J3,st3,fr3,w3⟩;rcases turn i n σ3 H3 w3 with⟨stop,qn⟩ | ⟨go,N,hN,step⟩
   . refine thn (T.done Y rfl rfl rfl hc i [] s3 σ3 H3 _ J3 (stat fr3) st3 stop) λ r s4 ⟨hr,J4⟩=>?_
     subst hr;have hcx:H3 C=none:=J4.free;refine fin D C H3 s4 ?_ qn hcx ovC (Ne.symm hLC) cLC pinC fsC (let ⟨m,hn,_⟩:=J4.loc;⟨m,hn⟩);refine I2.call' (ch:=fp) J4.os ?_ J4.hok J4.bare λ b hb=>?_
     . have u1:Un (frs X.stack) fp H2 (upd H2 D (.lst [])) s2.heap h3:=Un.laid k23 (zCc hDn) hD
       exact u1.trans J4.base
     obtain⟨_,h1,_,h3',h4,h5⟩:=f2 b hb;exact⟨h3',h1,h4,h5⟩
   refine thn (T.item Y rfl rfl rfl hc i [] s3 σ3 H3 _ J3 (stat fr3) st3 go) λ r s4 ⟨u,hr,h4⟩=>?_
   subst hr;refine thn h4 λ _ s5 ⟨x,H5,J5,r5,y5,st5,fr5⟩=>?_
   have J5':=J5.pinned (stat fr5) (T.obj _ _ st5);have again:∀{σ7:St}{H7:Hp}{s7:Shared},Inv Y ([]++qW9 fp s5.heap) σ7 H7 s7->N σ7 H7->∃ m,m < n/\∃ i σ' H',Inv Y [] σ' H' s7/\tn i s7.heap/\(∀ b∈fp,H' b=none)/\W i m σ' H':=λ{σ7 H7 s7} I7 n7=>by
     obtain⟨m',hm,w7⟩:=hN σ7 H7 n7;refine⟨m',hm,i+1,σ7,H7,I7.unpinned,T.keep _ _ _ st5 λ b hb o e=>(I7.pin (b,o) (zAp _ (zAp _ (qm6 hb e)))).1,λ b hb=>?_,w7⟩;obtain⟨o,e,d⟩:=T.obj _ _ st5 b hb;exact(I7.pin (b,o) (zAp _ (zAp _ (qm6 hb e)))).2.1
   refine thn (hg C _ _ _ s5 σ3 H5 x u _ J5' r5 (step x H5 y5)) λ _ s6 ⟨σ6,H6,J6,q6⟩=>?_
   refine thn (hf C _ _ _ s6 σ6 H6 _ J6 q6) λ ok s7 ⟨H7,J7,q7⟩=>?_
   cases ok with
   | false=>exact again J7 (by simpa using q7)
   | true =>
     rw[if_pos rfl] at q7 ⊢;refine thn (he C _ _ _ s7 σ6 H7 _ J7 q7) λ y s8 ⟨v,H8,J8,r8,xs,hx8,hz8,q8⟩=>?_
     refine thn (qd7 (X:=Y) _ s8 σ6 H8 (.ref D) [v] (.ref D) [y] (λ _ H'=>N σ6 H') J8 rfl (.cons r8 .nil) ⟨D,xs,v,rfl,rfl,hx8,hz8,q8⟩) λ _ s9 ⟨_,H9,J9,_,q9⟩=>?_
     exact again J9 q9
 exact codeAny_compStart_list loop (T.self _ 0 _ _ _ st₁ loop)
end
def D7(wi:TI)(src:List (Option Nat))(g:TG)(tf:TT)(te:TE):TE:=λ σ H Q=>wi σ H λ J H1=>∀ D,H1 D=none->qC6 J g tf te D (λ H'=>Q (.ref D) H') (Db σ src) (upd H1 D (.lst []))
section
variable{X:Cx}{elt tg iter:Expr}{ifs:List Expr}{sc:Scope}{pos:Pos}{NY:List Str}{src:List (Option Nat)}{wi:TI}{g:TG}{tf:TT}{te:TE}
theorem qF3(ck:qu8 X NY src sc=true):sc.kind=.function/\(∀ y∈sc.names,y.2=.local->sc.names.lookup y.1=some .local)/\(∀ y∈sc.names,y.2=.free->(X.env.kindOf y.1=some .cell∨X.env.kindOf y.1=some .free)):=by
 unfold qu8 at ck;simp only[zBg,zC2,zBe] at ck;obtain⟨⟨⟨hkind,hlen⟩,hnm⟩,hsrc⟩:=ck;refine⟨hkind,λ y hy e=>?_,λ y hy e=>?_⟩
 . have:=(hnm y hy).1.2
   rw[e] at this;simpa using this
 have:=(hnm y hy).2
 rw[e] at this;show X.env.scope.names.lookup y.1=some .cell∨X.env.scope.names.lookup y.1=some .free;simpa using this
theorem qD5(NY:List Str)(src:List (Option Nat))(hi:PI X tg iter wi)(hg:∀ C s0 H0 ex,PG (qh1 X NY sc C s0 H0 ex) tg g)(hf:∀ C s0 H0 ex,PFs (qh1 X NY sc C s0 H0 ex) ifs tf)(he:∀ C s0 H0 ex,PE (qh1 X NY sc C s0 H0 ex) elt te)(hc:X.calm=true:=by rfl)(ck:qu8 X NY src sc=true:=by rfl)(hs:∀ x,foldedSetIterable iter X.env x=pure x:=by intro _;rfl):PE X (.ListComp elt [⟨tg,iter,ifs,0⟩] sc pos) (D7 wi src g tf te):=by
 intro D6 s σ H Q I h;obtain⟨hkind,hnames,hfree⟩:=qF3 ck;rw[eval_ListComp];refine wpAny_comprehension_free (use:=none) rfl hs (qF4 λ x hx e=>I.ok.has x.1 (hfree x hx e)) hkind hnames ?_;refine thn (hi D6 s σ H _ I h) λ v s1 h1=>thn h1 λ itv s2 h2=>?_
 obtain⟨it,fp,tn,J,H2,rfl,I2,T,st2,f2,rd⟩:=h2;refine qP7 (R:=λ D H'=>Q (.ref D) H') (RR:=λ acc C=>compPost (model X.prog X.w) X.A X.xe none (EP X D6 σ Q) acc C) ck hc I2 T st2 f2 (λ C s0 H0=>hg C s0 H0 fp) (λ C s0 H0=>hf C s0 H0 fp) (λ C s0 H0=>he C s0 H0 fp) rd ?_;intro D C H' s' I' q hC h1 h2 h3 h4 h5 ⟨m,hn⟩;refine⟨m,hn,λ h' hs'=>⟨.ref D,H',?_,rfl,q⟩⟩;exact I'.turned (t':=s'.toks) (it:=C) (λ b o hb e=>hs'.extBut b o hb e) hC h2 (.inr h1) h3 h4
theorem qax8(i:Nat){px spos:Pos}(NY:List Str)(src:List (Option Nat))(hN:X.N.Nodup)(hi:PI X tg iter wi)(hg:∀ C s0 H0 ex,PG (qh1 X NY sc C s0 H0 ex) tg g)(hf:∀ C s0 H0 ex,PFs (qh1 X NY sc C s0 H0 ex) ifs tf)(he:∀ C s0 H0 ex,PE (qh1 X NY sc C s0 H0 ex) elt te)(hix:X.N[i]? = some x:=by rfl)(hx:Loc X.env.scope x:=by first | exact Or.inl rfl | exact Or.inr rfl)(hc:X.calm=true:=by rfl)(ck:qu8 X NY src sc=true:=by rfl)(hsw:swapsWith (.ListComp elt [⟨tg,iter,ifs,0⟩] sc pos) (some (.Name x px)) spos.line X.env=pure true:=by rfl)(hs:∀ x,foldedSetIterable iter X.env x=pure x:=by intro _;rfl)(hfn:X.fn x=true∨X.env.scope.names.lookup x=some .local:=by first | exact .inl rfl | exact .inr rfl | assumption):PS X (.Assign [.Name x px] (.ListComp elt [⟨tg,iter,ifs,0⟩] sc pos) spos) (Gs (D7 wi src g tf te) (Ei i)):=by
 intro D6 s σ H D I h;obtain⟨hkind,hnames,hfree⟩:=qF3 ck;rw[exec_Assign_Name_used _ _ _ _ hsw];refine wpAny_bind (wpAny_standAt (wpAny_bind ?_));show wpAny _ _ (do let _ <- comprehension (.ListComp elt [⟨tg,iter,ifs,0⟩] sc pos) sc X.env _ (newList []) false (eval iter X.env) (some (assign (.Name x px) X.env))) _ _ s;refine wpAny_bind (wpAny_mono (wpAny_comprehension_free (use:=some (assign (.Name x px) X.env)) (Q:=λ _ s'=>SP X D6 D .next s') rfl hs (qF4 λ x hx e=>I.ok.has x.1 (hfree x hx e)) hkind hnames ?_) (λ _ s' hq=>wpAny_pure (wpAny_pure hq)) λ _ _ e=>e);refine thn (hi D6 s σ H _ I h) λ v s1 h1=>thn h1 λ itv s2 h2=>?_
 obtain⟨it,fp,tn,J,H2,rfl,I2,T,st2,f2,rd⟩:=h2;refine qP7 (R:=λ D' H'=>Ei i (.ref D') σ H' D.nx) (RR:=λ acc C=>compPost (model X.prog X.w) X.A X.xe (some (assign (.Name x px) X.env)) (λ _ s'=>SP X D6 D .next s') acc C) ck hc I2 T st2 f2 (λ C s0 H0=>hg C s0 H0 fp) (λ C s0 H0=>hf C s0 H0 fp) (λ C s0 H0=>he C s0 H0 fp) rd ?_;intro D' C H' s' I' q hC h1 h2 h3 h4 h5 ⟨m,hn⟩;obtain⟨o,es,ep,ho,hd,hr⟩:=hn;have Ip:Inv X (D6++[(C,o)]) σ H' s':=I'.pins_of λ p hp=>(zAb.mp hp).elim (λ z=>I'.pin p (zAp _ z)) λ z=>by
   have e:p=(C,o):=by simpa using z
   subst e;exact⟨ho,hC,h2,h5,λ v e=>by rw[hd] at e;cases e⟩
 show wpAny _ _ (assign (.Name x px) X.env (.ref D')) _ _ _;refine wpAny_assign_Name (qG9 (v:=.ref D') Ip hN hix hx rfl (λ s'' I''=>?_) hfn);have ho'':s''.heap.get? C=some o:=(I''.pin (C,o) (by simp)).1;refine⟨m,⟨o,es,ep,ho'',hd,hr⟩,λ h' hs'=>⟨_,H',?_,q⟩⟩;exact I''.unpinned.turned (t':=s''.toks) (it:=C) (λ b o hb e=>hs'.extBut b o hb e) hC h2 (.inr h1) h3 h4
end
theorem qP6{K:PySem.W.Frag}{D:Addr}{g:TG}{tf:TT}{te:TE}{R:Hp->Prop}{σ:St}(Pv:Nat->St->Hp->Prop)(h0:Pv 0 σ H)(hl:∀ i σ H,i<=xs.length->Pv i σ H->SqL K H a xs)(hs:∀ i x σ H,xs[i]? = some x->Pv i σ H->g x σ H λ σ2 H2=>tf σ2 H2 λ ok H3=>if ok=true then te σ2 H3 λ v H4=>∃ ys,H4 D=some (.lst ys)/\ys.length < sizeLine/\Pv (i+1) σ2 (upd H4 D (.lst (ys++[v]))) else Pv (i+1) σ2 H3)(hd:∀ σ H,Pv xs.length σ H->R H) :
   qC6 (Itl K a) g tf te D R σ H:=by
 refine⟨λ i m σ H=>m=xs.length - i/\i<=xs.length/\Pv i σ H,⟨xs.length,by simp,zBt _,h0⟩,?_⟩;rintro i m σ H ⟨rfl,hi,p⟩;have q:=hl i σ H hi p;by_cases hlt:i < xs.length
 . refine .inr ⟨⟨xs,xs[i],q,by simp[hlt]⟩,Pv (i+1),λ σ' H' p'=>⟨xs.length - (i+1),by lia,rfl,hlt,p'⟩,λ x H' y=>?_⟩
   obtain⟨e,y⟩:=y;subst e;exact hs i x σ _ (y xs q) p
 have e:i=xs.length:=by lia
 subst e;exact .inl ⟨⟨xs,q,zA2 _⟩,hd σ H p⟩
section
variable{X:Cx}
theorem sset(i:Nat){te:TE}{pos pos':Pos}(hN:X.N.Nodup)(he:PE X e te)(hi:X.N[i]? = some x:=by rfl)(hx:Loc X.env.scope x:=by first | exact Or.inl rfl | exact Or.inr rfl)(hs:swapsWith e (some (.Name x pos')) pos.line X.env=pure false:=by rfl)(hf:X.fn x=true∨X.env.scope.names.lookup x=some .local:=by first | exact .inl rfl | exact .inr rfl | assumption):PS X (.Assign [.Name x pos'] e pos) (Gs te (Ei i)):=qax5 hN hi hx he hs hf
theorem gnm(i:Nat){pos:Pos}(hN:X.N.Nodup)(hi:X.N[i]? = some x:=by rfl)(hx:Loc X.env.scope x:=by first | exact Or.inl rfl | exact Or.inr rfl)(hf:X.fn x=true∨X.env.scope.names.lookup x=some .local:=by first | exact .inl rfl | exact .inr rfl | assumption):PG X (.Name x pos) (Ei i):=qak4 hN hi hx hf
def CDivB(_ j:Int):Prop:=0 < j/\j < 2 ^ 200
theorem qI9:OpR X (binaryOp .FloorDiv) (rI CDivB λ i j=>.int (i / j)):=opI λ i j _ _ _ _ _ hc q=>by
 have h1:(0:Int) < j:=hc.1;have h2:j < 2 ^ 200:=hc.2;refine floordiv_int (by lia) (by rw[Int.fdiv_eq_ediv_of_nonneg i (by lia)];exact q) (.inl (PyProof.noPylong_of_log2 ?_));have h3:j.natAbs < 2 ^ 200:=by lia
 have h4:j.natAbs.log2 < 200:=(Nat.log2_lt (by lia)).mpr h3;lia
theorem qay7{j:Int}(k:Int){a b:Nat}{q pos:Pos}(hk:i ^ j.toNat=k:=by decide)(h0:0<=j:=by decide)(h1:j<=1000000:=by decide)(h2:i.natAbs < 2 ^ 64:=by decide):PE X (.BinOp (.Constant (.int i) a p) .Pow (.Constant (.int j) b q) pos) (tC (.int k)):=by
 intro D6 s σ H Q I h;refine(pe_op qaI7 qI7 qI7) D6 s σ H Q I ⟨_,_,rfl,rfl,⟨h0,h1,h2⟩,?_⟩;show Q (.int (i ^ j.toNat)) H;rw[hk];exact h
theorem qaJ1:OpR X (compareOp .Is) (λ x y H Q=>∃ b c,x=.bl b/\y=.bl c/\Q (.bl (b == c)) H):=by
 intro D6 s σ H x y v u Q I rx ry h;obtain⟨b,c,rfl,rfl,q⟩:=h;cases rx;cases ry;exact is_bool ⟨.bl _,H,I,rfl,q⟩
def B6(H:Hp):V->Option String
 | .non=>some "NoneType" | .bl _=>some "bool" | .int _=>some "int" | .str _=>some "str"
 | .ref a=>match H a with
   | some (.lst _)=>some "list" | some (.tup _)=>some "tuple" | some (.dK _)=>some "dict" | some (.frz _ (.lst _))=>some "list"
   | _=>none
 | _=>none
def subT(t n:String):Bool:=t == n||(t == "bool" && n == "int")
theorem qaC3(K:PySem.W.Frag){t n:String}(ht:t∈["NoneType", "bool", "int", "str", "list", "tuple", "dict"])(hn:n∈["bool", "int", "str", "list", "tuple", "dict"]):PySem.W.kitOne K (.type t) (.type n)=some (subT t n):=by
 simp only[zAm,zBv,or_false] at ht hn;rcases ht with rfl | rfl | rfl | rfl | rfl | rfl | rfl<;>rcases hn with rfl | rfl | rfl | rfl | rfl | rfl<;>rfl
theorem qZ1{K:PySem.W.Frag}{x:V}{t:String}(h:B6 H x=some t):Du K H x (.type t)/\t∈["NoneType", "bool", "int", "str", "list", "tuple", "dict"]:=by
 cases x with
 | non=>cases h;exact⟨.non,by decide⟩
 | bl b=>cases h;exact⟨.bl b,by decide⟩
 | int b=>cases h;exact⟨.int b,by decide⟩
 | str b=>cases h;exact⟨.str b,by decide⟩
 | byt b=>cases h
 | flt b=>cases h
 | ty b=>cases h
 | ref a =>
   unfold B6 at h;dsimp only at h;split at h
   . cases h;exact⟨.lst (by assumption),by decide⟩
   . cases h;exact⟨.tup (by assumption),by decide⟩
   . cases h;exact⟨.dK (by assumption),by decide⟩
   . cases h;exact⟨.frz (by assumption),by decide⟩
   cases h
def rIsi:List V->Hp->VK->Prop:=λ xs H Q=>∃ x n t,xs=[x,.ty n]/\B6 H x=some t/\n∈["bool", "int", "str", "list", "tuple", "dict"]/\Q (.bl (subT t n)) H
theorem ql8:CallR X (.builtin "isinstance") rIsi:=by
 intro D6 s σ H xs us Q I r h;obtain⟨x,n,t,rfl,hk,hn,q⟩:=h;obtain⟨u,w',rfl,ru,rw'⟩:=Gc r;cases rw';obtain⟨ty,ht⟩:=qZ1 (K:=X.K) hk;exact qB4 I ru ty (qaC3 X.K ht hn) λ tk=>⟨.bl _,H,I.tok tk,rfl,q⟩
theorem qaI1(n:String){pos:Pos}(hm:X.mg x=none)(hg:Gl X x:=by rfl)(hv:bootBuiltins x=some (.type n):=by rfl)(hn:x ≠ "__name__" := by decide)(hd:(x == ("__debug__" : Str))=false:=by decide):PE X (.Name x pos) (tC (.ty n)):=qaz4 hg hm hv rfl hn hd
theorem qaz0{n:Int}{t:Tok}{pos:Pos}(hm:X.mg x=some (.int n t))(hg:Gl X x:=by rfl)(hd:(x == ("__debug__" : Str))=false:=by decide):PE X (.Name x pos) (tC (.int n)):=qak6 hg hm ⟨t,rfl⟩ hd
theorem cbi{id:String}{r:List V->Hp->VK->Prop}{pos:Pos}(hc:CallR X (.builtin id) r)(hm:X.mg x=none)(ha:PA X (e::es) t)(hg:Gl X x:=by rfl)(hv:bootBuiltins x=some (.builtin id):=by rfl)(hn:x ≠ "__name__" := by decide)(hdb:(x == ("__debug__" : Str))=false:=by decide)(he:starEach (e::es) X.env=(false,eval e X.env)::starEach es X.env:=by rfl)(hpl:(backTo pos (starEach es X.env)).any (·.1)=false:=by rfl):PE X (.Call (.Name x p) (e::es) [] pos) (tCB r t):=qaq4 hc hg hm hv ha hn hdb he hpl
theorem cty{id:String}{r:List V->Hp->VK->Prop}{pos:Pos}(hc:CallR X (.type id) r)(hm:X.mg x=none)(ha:PA X (e::es) t)(hg:Gl X x:=by rfl)(hv:bootBuiltins x=some (.type id):=by rfl)(hn:x ≠ "__name__" := by decide)(hdb:(x == ("__debug__" : Str))=false:=by decide)(he:starEach (e::es) X.env=(false,eval e X.env)::starEach es X.env:=by rfl)(hpl:(backTo pos (starEach es X.env)).any (·.1)=false:=by rfl):PE X (.Call (.Name x p) (e::es) [] pos) (tCB r t):=qae9 hc hg hm hv ha hn hdb he hpl
end
def rGetL:V->V->Hp->VK->Prop:=λ o i H Q=>∃ p xs k v,o=.ref p/\i=.int k/\H p=some (.lst xs)/\0<=k/\xs[k.toNat]? = some v/\Q v H
theorem qat3{X:Cx}:PGet X rGetL:=by
 intro D6 s σ H o i ov iv Q I ro ri h;obtain⟨p,xs,k,v,rfl,rfl,hp,h0,hv,q⟩:=h;cases ro;obtain⟨t,rfl⟩:=ri;obtain⟨its,n,r,ho,hz⟩:=I.lst hp;obtain⟨u,hu,ru⟩:=r.get hv;have hlt:=(zA5.mp hv).1;have hn:=qJ8;refine wpAny_getItem_list (items:=its.toArray) (x:=u) ⟨_,ho,rfl,n,rfl⟩ h0 (by lia) (by simpa using hu) ⟨v,H,I,ru,q⟩
theorem qaN3{xs:List α}(h0:0<=i)(h1:i < xs.length):∃ v,xs[i.toNat]? = some v/\atI xs i=some v:=by
 have hl:i.toNat < xs.length:=by lia
 have e:(i.toNat:Int)=i:=by lia
 refine⟨xs[i.toNat],by simp[hl],?_⟩
 have:=qab8 (xs:=xs) (j:=i.toNat) (v:=xs[i.toNat]) (by simp[hl])
 rw[e] at this;exact this
theorem qF6{xs:List α}(h0:0<=i)(h1:i < xs.length):∃ v,v∈xs/\atI xs i=some v:=by
 obtain⟨v,h,e⟩:=qaN3 h0 h1;exact⟨v,zBa h,e⟩
theorem qZ0(h:H a=some (.lst xs)):B6 H (.ref a)=some "list" := by
 unfold B6;dsimp only;rw[h]
theorem qas4(h:H a=some (.tup xs)):B6 H (.ref a)=some "tuple" := by
 unfold B6;dsimp only;rw[h]
theorem qal5{xs:List (Key×V)}(h:H a=some (.dK xs)):B6 H (.ref a)=some "dict" := by
 unfold B6;dsimp only;rw[h]
theorem Same.new{q:Addr}{u:HO}(h:H q=none):Same H (upd H q u):=λ b o e=>by rw[qc7 (qd6 e h)];exact e
structure Df(K:PySem.W.Frag)(mg:Str->Option Value)(x qual:Str)(st:Stmt)(f:Addr)(fd:FuncData)(ps:List Str):Prop where
 F:Fun K x qual st f fd
 b:Binds K fd ps []
 m:mg x=some (.ref f)
theorem dfmk{K:PySem.W.Frag}{mg:Str->Option Value}{qual:Str}{st:Stmt}{f:Addr}{ps:List Str}{oc:Value}{od an:Option Addr}{osl:Array (Option Value)}{kV doc pm cdv ct:Value}(l:K.lookup f=some ⟨oc,od,.func (PySem.W.fnOf x qual (qe2 st) (qc6 st) (qa3 st) .none kV doc pm an cdv ct),osl⟩)(c:PySem.W.codeIn K cdv qual=true)(k:PySem.W.keepIn K (.ref f)=true)(m:mg x=some (.ref f))(h:∀(kV doc pm:Value)(an:Option Addr)(cdv ct:Value)(us:List Value),us.length=ps.length->bindArgs (PySem.W.fnOf x qual (qe2 st) (qc6 st) (qa3 st) .none kV doc pm an cdv ct) ⟨us,[]⟩=pure (ps.zip us)) :
   Df K mg x qual st f (PySem.W.fnOf x qual (qe2 st) (qc6 st) (qa3 st) .none kV doc pm an cdv ct) ps:=⟨qag7 l c k,(qag7 l c k).binds h,m⟩
theorem callD{X:Cx}{qual:Str}{st:Stmt}{f:Addr}{fd:FuncData}{ps:List Str}{k:Nat}{sp:Sp}{pos:Pos}(D:Df X.K X.mg x qual st f fd ps)(G:By X.prog X.w X.K X.mg X.base CX0 k f fd ps sp)(hr:Room k X.A)(ha:PA X (e::es) t)(hg:Gl X x:=by rfl)(hdb:(x == ("__debug__" : Str))=false:=by decide)(he:starEach (e::es) X.env=(false,eval e X.env)::starEach es X.env:=by rfl)(hpl:(backTo pos (starEach es X.env)).any (·.1)=false:=by rfl):PE X (.Call (.Name x p) (e::es) [] pos) (Hb sp [] E0 t) :=
 qak7 G hr hg D.m D.F.kp D.b .nil pass0 ha hdb he hpl
end L2
namespace LB
open PySem PySem.Spec PyProof.Rows
theorem qJ7:typeLookup (.type "list") "keys" = pure none:=by rw[typeLookup_type,builtinLookup_eq_fast];kernel_rfl
theorem qw7:typeLookup (.type "list") "__getattr__" = pure none:=by rw[typeLookup_type,builtinLookup_eq_fast];kernel_rfl
section
variable{prog:Program}{w:World}{A:Around}{E:Value->Shared->Prop}{h:Heap}{g:Array GenState}{d:Drawn}{t:Nat}{os:OsState}{a:Addr}{its:Array Value}{n:Nat}
theorem qw8{tk:Tok}{Q:PySem.Fin->Shared->Prop}(hx:h.get? a=some { cls:=.type "list",data:=.seq its n })(hh:A.handled=none)(hq:∀ h' tk e,Heap.NewAttrErr h h' e (.ref a) "keys" -> E (.ref e) ⟨h',g,d,tk,os⟩) :
   wpAny (model prog w) A (Builtin.«object.__getattribute__» ⟨[.ref a,.str "keys" tk],[]⟩) Q E ⟨h,g,d,t,os⟩:=by
 have hT:(⟨h,g,d,t,os⟩:Shared).TypeIs (.ref a) "list" := ⟨_,hx,rfl⟩
 have f4:=qJ7
 repeat (any_goals (first | assumption | wp_step))
 refine wpAny_raiseAttrError hh ?_ (attrMsg_fits (by decide +kernel) (by decide +kernel));exact hq
theorem qB3{Q:Option Value->Shared->Prop}(hx:h.get? a=some { cls:=.type "list",data:=.seq its n })(hh:A.handled=none)(hq:∀ h' tk,(∀ b o,h.get? b=some o->h'.get? b=some o)->Q none ⟨h',g,d,tk,os⟩) :
   wpAny (model prog w) A (getAttr? (.ref a) "keys") Q E ⟨h,g,d,t,os⟩:=by
 have hT:∀ tk,(⟨h,g,d,tk,os⟩:Shared).TypeIs (.ref a) "list" := λ _=>⟨_,hx,rfl⟩
 have hT0:=hT t;have f1:=sub_AttributeError;have f2:=F.slot_list_getattribute.lookup;have f3:=F.slot_list_getattribute.bind (.ref a);have f5:=qw7;unfold getAttr? getAttrBy? getAttrBy
 repeat (any_goals (first | assumption | wp_step))
 refine codeAny_call_builtin F.slot_list_getattribute.plain F.entry_list_ga (F.slot_list_getattribute.check _ _ _ _ _ _ _ _ (hT _) (F.args_list_getattribute_2 _ _) (qw8 hx hh λ h' tk e hx'=>?_));obtain⟨t',u',he⟩:=hx'.there;show wpAny _ _ (getattributeRaised _ _ _ _ _ _ _) _ _ _;unfold getattributeRaised
 repeat (any_goals (first | assumption | wp_step))
 exact hq _ _ hx'.keeps
end
theorem qk3:entryFor table "dict.update.loop" = some Builtin.«dict.update.loop»:=entryFor_of_tree (by kernel_rfl)
theorem qe7:plainId "dict.update.loop" = true:=by decide +kernel
section
variable{prog:Program}{w:World}{K:Type}[DecidableEq K]{knd:KeyKind prog w K}{A:Around}{R:Result->Shared->Prop}
theorem qah4(hh:A.handled=none){I ax d:Addr}{items:Array Value}(hIx:ax≠I)(hdI:d≠I)(hdx:ax≠d):∀(rest:List (K×Value))(i:Nat)(ix:Int)(kvs:List (K×Value))(s:Shared),
   (∀(j:Nat) kv,rest[j]? = some kv->∃ t key,items[i+j]? = some (.ref t)/\IsTup s.heap t #[key,kv.2]/\knd.is kv.1 key=true/\t≠I/\t≠d)->items.size=i+rest.length ->
   s.heap.IsListIter I ax i->s.heap.IsList ax items->s.heap.DictOf knd d kvs->kvs.length+rest.length<=sizeLine ->
   (∀ h' tk,h'.DictOf knd d (rest.foldl (λ acc kv=>stored acc kv.1 kv.2) kvs)->(∀ b o,b≠I->b≠d->s.heap.get? b=some o->h'.get? b=some o)->R (.ok (.ret .none)) { s with heap:=h',toks:=tk }) ->
   codeAny (model prog w) A (.builtin "dict.update.loop" ⟨[.ref d,.ref I,rawInt ix,.none],[]⟩) R s:=by
 intro rest
 induction rest with
 | nil =>
   intro i ix kvs s hp hsz hit hl hd hk hR;refine codeAny_builtin qk3 ?_;rw[Around.under_plainId qe7 _];show wpAny _ A.in1 (pyNext (.ref I) >>= _) _ _ s;refine wpAny_bind (wpAny_pyNext_list_end hh hit hl (by simp at hsz;simp[hsz]) λ h' he=>?_);show wpAny _ _ (Builtin.Dict.addKeywords d [] >>= _) _ _ _;refine wpAny_bind (wpAny_pure (wpAny_pure ?_));have hd':h'.DictOf knd d kvs:=by
     obtain⟨o,es,ep,ho,r⟩:=hd;exact⟨o,es,ep,he d o hdI ho,r⟩
   exact hR h' s.toks hd' λ b o hb _ e=>he b o hb e
 | cons kv rest ih =>
   intro i ix kvs s hp hsz hit hl hd hk hR;obtain⟨t,key,h1,h2,h3,h4,h5⟩:=hp 0 kv rfl;refine codeAny_builtin qk3 ?_;rw[Around.under_plainId qe7 _];show wpAny _ A.in1 (pyNext (.ref I) >>= _) _ _ s;refine wpAny_bind (wpAny_pyNext_list_item hit hl h1 λ h' hit' hs=>?_);have h2':IsTup h' t #[key,kv.2]:=h2.extBut hs.extBut h4;obtain⟨o,ho,hoc,n,hod⟩:=h2';refine wpAny_bind (wpAny_holding ?_);refine wpAny_bind (wpAny_tryCatch ?_);unfold Builtin.Dict.pairItems;refine wpAny_bind (wpAny_typeOf (T := "tuple") ⟨o,ho,hoc⟩ ?_);rw[if_pos (by decide)];refine wpAny_bind (wpAny_seqItems ho hod (wpAny_pure ?_));dsimp only[Option.getD];have hd':h'.DictOf knd d kvs:=by
     obtain⟨o,es,ep,ho,r⟩:=hd;exact⟨o,es,ep,hs.extBut d o hdI ho,r⟩
   simp only[zAk] at hk hsz;show wpAny _ _ (holding [key,kv.2] (dictSet d key kv.2)) _ _ _;refine wpAny_holding (wpAny_dictSet_pairs (hsz:=by lia) h3 hd' λ h'' hd'' hs''=>?_);refine wpAny_pure ⟨plainId_quiet qe7 _,?_⟩;have hlen:(stored kvs kv.1 kv.2).length<=kvs.length+1:=by
     unfold stored;split
     . rw[zAa];lia
     rw[zA7];simp
   refine ih (i+1) (ix+1) (stored kvs kv.1 kv.2) _ (λ j kv' hj=>?_) (by lia) ?_ ?_ hd'' (by lia) λ h3' tk hd3 k3=>?_
   . obtain⟨t',key',g1,g2,g3,g4,g5⟩:=hp (j+1) kv' hj
     exact⟨t',key',by rw[show i+1+j=i+(j+1) by lia];exact g1,(g2.extBut hs.extBut g4).extBut hs''.extBut g5,g3,g4,g5⟩
   . exact hit'.at λ o e=>hs''.extBut I o (Ne.symm hdI) e
   . exact(hl.at λ o e=>hs.extBut ax o hIx e).at λ o e=>hs''.extBut ax o hdx e
   exact hR h3' tk hd3 λ b o hb hb' e=>k3 b o hb hb' (hs''.extBut b o hb' (hs.extBut b o hb e))
end
end LB
namespace L2
open PySem PySem.Spec PyProof.Rows
section
variable{X:Cx}
theorem KV.fold:∀{more:List (Key×V)}{rs:List (Key×Value)}{kvs:List (Key×V)}{vs:List (Key×Value)},KV more rs->KV kvs vs->KV (qw6 kvs more) (rs.foldl (λ acc kv=>stored acc kv.1 kv.2) vs):=by
 intro more rs kvs vs r;unfold KV at r
 induction r generalizing kvs vs with
 | nil=>intro q;exact q
 | @cons p q _ _ h _ ih =>
   intro r0;show KV (qw6 (putK kvs p.1 p.2) _) (List.foldl _ (stored vs q.1 q.2) _);refine ih ?_;rw[<- h.1];exact r0.put p.1 h.2
def qan5(H:Hp)(ys:List V)(kvs:List (Key×V)):Prop:=Paired (λ y (kv:Key×V)=>∃ t,y=.ref t/\H t=some (.tup [kV kv.1,kv.2])) ys kvs
def qaw9:List V->Hp->VK->Prop:=λ xs H Q=>∃ a ys kvs,xs=[.ref a]/\H a=some (.lst ys)/\qan5 H ys kvs/\∀ p,H p=none->Q (.ref p) (upd H p (.dK (qw6 [] kvs)))
theorem qv0(hc:X.calm=true):CallR X (.type "dict") qaw9:=by
 intro D6 s σ H xs us Q I r h;obtain⟨a,ys,kvs,rfl,ha,hp,q⟩:=h;obtain⟨u,rfl,ru⟩:=Bl r;cases ru;have hh:=I.ok.hd hc;obtain⟨z,its,n,rv,hl,e⟩:=I.lstM ha;obtain⟨rs,rk,ri⟩:∃ rs:List (Key×Value),KV kvs rs/\∀(j:Nat) kv,rs[j]? = some kv->∃ t key,its[j]? = some (.ref t)/\IsTup s.heap t #[key,kv.2]/\(qe1 X.prog X.w).is kv.1 key=true:=by
   clear q e hl n ha z
   induction hp generalizing its with
   | nil=>exact⟨[],.nil,λ j kv hj=>by simp at hj⟩
   | @cons y kv ys kvs hy _ ih =>
     cases rv with
     | @cons _ u _ us' hu hr =>
       obtain⟨t,rfl,ht⟩:=hy;cases hu;obtain⟨_,its',rt,o,ho,hoc,n,hod⟩:=I.hok t _ ht;obtain⟨key,val,rfl,r1,r2⟩:=rt.two;obtain⟨rs,rk,ri⟩:=ih _ hr;refine⟨(kv.1,val)::rs,.cons ⟨rfl,r2⟩ rk,λ j kv' hj=>?_⟩;cases j with
       | zero=>cases hj;exact⟨t,key,rfl,⟨o,ho,hoc,n,hod⟩,Gd r1⟩
       | succ j=>exact ri j kv' hj
 have hrl:rs.length=its.length:=by rw[<- hl,<- Paired.length rk,<- Paired.length hp]
 have big:=I.big;obtain⟨hp0,gn,dr,tk0,os0⟩:=s;refine callType_codes (Q₁:=λ obj s₁=>obj=.ref hp0.objs.size/\s₁={ heap:=hp0.push { cls:=.type "dict",data:=.dict #[] },gens:=gn,drawn:=dr,toks:=tk0,os:=os0 }) F.kt_called_dict (F.kt_typeCall_dict_1 _) F.entry_dict_init (kt_code_dict_new _ ⟨rfl,rfl⟩) ?_;rintro obj s₁ ⟨rfl,rfl⟩;have hnew:(hp0.push { cls:=.type "dict",data:=.dict #[] }).DictOf (qe1 X.prog X.w) hp0.objs.size []:=Heap.DictOf.new hp0;have e':(hp0.push { cls:=.type "dict",data:=.dict #[] }).get? a=some { cls:=.type "list",data:=.seq its.toArray n }:=zA3 _ e;have had:a < hp0.objs.size:=zAc e;refine⟨hnew.typeIs,F.args_dict_init_2 _ _,?_⟩;unfold Builtin.«dict.__init__»;refine wpAny_bind ?_;unfold Builtin.Dict.selfAndRest;refine wpAny_bind (wpAny_notOrdered_dict hnew.typeIs ?_);show wpAny _ _ (pure (hp0.objs.size,[Value.ref a])) _ _ _;refine wpAny_pure ?_;show wpAny _ _ (Builtin.Dict.updateFrom "dict.__init__" hp0.objs.size (.ref a) [] .none) _ _ _;unfold Builtin.Dict.updateFrom;refine wpAny_bind (wpAny_typeOf (T := "list") ⟨_,e',rfl⟩ ?_);rw[if_pos (by decide)];refine wpAny_bind (LB.qB3 e' hh λ h1 tk1 k1=>?_);rw[if_pos (by rfl)];have e1:h1.get? a=some { cls:=.type "list",data:=.seq its.toArray n }:=k1 _ _ e';have d1:h1.DictOf (qe1 X.prog X.w) hp0.objs.size []:=by
   obtain⟨o,es,ep,ho,r⟩:=hnew;exact⟨o,es,ep,k1 _ _ ho,r⟩
 refine wpAny_bind (wpAny_rule ?_);have hlist:h1.IsList a its.toArray:=⟨_,e1,rfl,n,rfl⟩
 refine wpAny_bind (wpAny_pyIter_list hlist ?_);have szd:hp0.objs.size < h1.objs.size:=by
   obtain⟨o,es,ep,ho,r⟩:=d1;exact zAc ho
 refine wpAny_pure ⟨plainId_quiet LB.qe7 _,?_⟩;refine LB.qah4 (knd:=qe1 X.prog X.w) (A:=X.A.in1) hh (I:=h1.objs.size) (ax:=a) (d:=hp0.objs.size) (items:=its.toArray) (zAr (Nat.lt_trans had szd)) (zAr szd) (zAr had) rs 0 0 [] _ (λ j kv hj=>?_) (by simp[hrl]) ?_ ?_ ?_ ?_ λ h2 tk2 d2 k2=>?_
 . obtain⟨t,key,g1,g2,g3⟩:=ri j kv hj
   obtain⟨o,ho,r⟩:=g2;have hlt:=zAc ho;exact⟨t,key,by simpa using g1,⟨o,zA3 _ (k1 _ _ (zA3 _ ho)),r⟩,g3,zAr (Nat.lt_trans hlt szd),zAr hlt⟩
 . exact⟨_,zB0 _ rfl,rfl,rfl⟩
 . exact⟨_,zA3 _ e1,rfl,n,rfl⟩
 . obtain⟨o,es,ep,ho,r⟩:=d1
   exact⟨o,es,ep,zA3 _ ho,r⟩
 . simp only[zCa,zAo];rw[hrl,<- hl];exact z
 refine⟨rfl,?_⟩;have hf:H hp0.objs.size=none:=I.hok.fresh (zA2 _);have keep:∀ b o,hp0.get? b=some o->h2.get? b=some o:=λ b o eb=>by
   have hlt:=zAc eb;exact k2 b o (zAr (Nat.lt_trans hlt szd)) (zAr hlt) (zA3 _ (k1 _ _ (zA3 _ eb)))
 have rm:KV (qw6 [] kvs) (rs.foldl (λ acc kv=>stored acc kv.1 kv.2) []):=KV.fold rk .nil;have hz:(qw6 [] kvs).length<=sizeLine:=by
   have h1:=qp8 kvs [];have h2:=Paired.length hp;simp only[zCa] at h1;lia
 refine⟨.ref hp0.objs.size,_,I.laid (t':=tk2) (o:=.dK (qw6 [] kvs)) keep (zA2 _) ?_,rfl,q _ hf⟩;exact⟨hz,zC5.mpr (Ne.symm (zAr big)),_,rm,d2⟩
end
section
variable{X:Cx}
theorem qP8(hc:X.calm=true):CallR X (.builtin "all") (λ xs H Q=>∃(a:Addr)(bs:List Bool),xs=[.ref a]/\SqL X.K H a (bs.map V.bl)/\Q (.bl (bs.all id)) H):=by
 intro D6 s σ H xs us Q I r h;obtain⟨a,bs,rfl,ha,q⟩:=h;obtain⟨u,rfl,ru⟩:=Bl r;cases ru;have hh:=I.ok.hd hc;obtain⟨its,rv,pl,hz⟩:=I.list ha;refine call_all_walk (wpAny_pyIter_list pl.isList ?_);have hlt:a < s.heap.objs.size:=let ⟨o,ho,_⟩:=pl.isList;zAc ho
 refine⟨s.heap.objs.size,_,_,_,_,_,λ i=>bs.getD i false,rfl,Walks.list (A:=X.A.in1) hh _ a (zAr hlt) its.toArray,⟨⟨_,zB0 _ rfl,rfl,rfl⟩,?_⟩,?_,?_⟩
 . exact pl.isList.at λ o e=>zA3 _ e
 . intro i v s1 Q1 E1 hv hq
   have hv:its[i]? = some v:=by simpa using hv
   have hi:i < bs.length:=by
     have h1:=(zA5.mp hv).1;have h2:=rv.length;rw[zAa] at h2;lia
   obtain⟨u,hu,ru⟩:=rv.get (i:=i) (x:=.bl bs[i]) (by simp[hi]);rw[hv] at hu;cases hu;cases ru;refine wpAny_truthy_bool ?_;have e:bs.getD i false=bs[i]:=by simp[List.getD,hi]
   have hq:Q1 (bs.getD i false) s1:=hq;rw[e] at hq;exact hq
 intro h' tk hk;have e:(List.range its.toArray.size).all (λ i=>bs.getD i false)=bs.all id:=by
   have h2:=rv.length;rw[zAa] at h2;rw[zA4,<- h2];rw[Bool.eq_iff_iff];simp only[zBe,zAv,id_eq];constructor
   . intro h b hb
     obtain⟨i,hi,rfl⟩:=List.mem_iff_getElem.mp hb
     have:=h i hi
     simpa[List.getD,hi] using this
   intro h i hi
   have:=h bs[i] (List.getElem_mem hi)
   simpa[List.getD,hi] using this
 rw[e];refine⟨.bl _,H,?_,rfl,q⟩;exact I.kept (t':=tk) λ b o e=>hk b o (by simp;exact zAr (zAc e)) (zA3 _ e)
def qj3(ns:List Int):Nat:=(firstMet (λ i=>ns.getD i 0) ns.length).length
def rSetI(K:PySem.W.Frag):List V->Hp->VK->Prop:=λ xs H Q=>∃(a:Addr)(ns:List Int),xs=[.ref a]/\SqL K H a (ns.map V.int)/\ns.length<=1000/\∀ p S,H p=none->Q (.ref p) (upd H p (.set S (qj3 ns)))
theorem qai0(hc:X.calm=true):CallR X (.type "set") (rSetI X.K):=by
 intro D6 s σ H xs us Q I r h;obtain⟨a,ns,rfl,ha,hl,q⟩:=h;obtain⟨u,rfl,ru⟩:=Bl r;cases ru;have hh:=I.ok.hd hc;obtain⟨its,rv,pl,hz⟩:=I.list ha;have hlen:its.length=ns.length:=by
   have:=rv.length
   rw[zAa] at this;exact this.symm
 have hi:IntsAre its ns:=qZ4 rv;refine call_set_list (items:=its.toArray) hh pl.isList (by simpa using hi) (by rw[zA4,hlen];show ns.length+1 < 4096;lia) λ h' tk hS hk=>?_
 have hsz:its.toArray.size=ns.length:=by rw[zA4,hlen]
 rw[hsz] at hS;refine⟨.ref s.heap.objs.size,_,I.laid (t':=tk) (o:=.set _ (qj3 ns)) (λ b o e=>hk b o (zAc e) e) (zA2 _) hS,rfl,q _ _ (I.hok.fresh (zA2 _))⟩
theorem qai2:CallR X (.builtin "len") (λ xs H Q=>∃(a:Addr)(S:Int->Bool)(n:Nat),xs=[.ref a]/\H a=some (.set S n)/\Q (.int n) H):=by
 intro D6 s σ H xs us Q I r h;obtain⟨a,S,n,rfl,ha,q⟩:=h;obtain⟨u,rfl,ru⟩:=Bl r;cases ru;obtain⟨o,es,ep,t,ho,hex,hd,_,_,hb,hf,hn⟩:=I.hok a _ ha;subst hn;have hb:es.size < 4096:=hb;exact call_len_set ho hex hd hf (by lia) ⟨.int _,H,I.tok _,⟨_,rfl⟩,q⟩
end
theorem qK8(ns:List Int):qj3 ns=ns.length↔ns.Nodup:=by
 have key:∀ i,i<=ns.length->(∀ k,k∈firstMet (λ i=>ns.getD i 0) i↔k∈ns.take i)/\((firstMet (λ i=>ns.getD i 0) i).length=i↔(ns.take i).Nodup):=by
   intro i
   induction i with
   | zero=>intro _;rw[firstMet_zero];simp
   | succ i ih =>
     intro hi;obtain⟨h1,h2⟩:=ih (by lia);have hle:=firstMet_length_le (λ i=>ns.getD i 0) i;have hlt:i < ns.length:=by lia
     have et:ns.take (i+1)=ns.take i++[ns[i]]:=by rw[List.take_add_one];simp[hlt]
     have eg:ns.getD i 0=ns[i]:=by simp[List.getD,hlt]
     rw[firstMet_succ,et,eg];unfold step_dedup;by_cases hm:ns[i]∈firstMet (λ i=>ns.getD i 0) i
     . have hm':ns[i]∈ns.take i:=(h1 _).mp hm
       have hc:(firstMet (λ i=>ns.getD i 0) i).any (· == ns[i])=true:=List.any_eq_true.mpr ⟨_,hm,by simp⟩;rw[if_pos hc];refine⟨λ k=>?_,?_⟩
       . rw[h1];simp only[zAb,zA8]
         exact⟨.inl,λ h=>h.elim id λ e=>by rw[e];exact hm'⟩
       constructor
       . intro h;lia
       intro h;rw[zBi] at h;exact absurd rfl (h.2.2 _ hm' _ (zA8.mpr rfl))
     have hm':¬ ns[i]∈ns.take i:=λ h=>hm ((h1 _).mpr h)
     have hc:¬ (firstMet (λ i=>ns.getD i 0) i).any (· == ns[i])=true:=λ h=>by
       obtain⟨x,hx,e⟩:=List.any_eq_true.mp h;exact hm (by rw[<- (zC2.mp e)];exact hx)
     rw[if_neg hc];refine⟨λ k=>?_,?_⟩
     . simp only[zAb,zA8]
       rw[h1]
     rw[zA7,zBi];simp only[List.length_singleton];constructor
     . intro h
       refine⟨h2.mp (by lia),by simp,λ x hx y hy=>?_⟩;rw[zA8.mp hy];exact λ e=>hm' (e ▸ hx)
     intro h
     have:=h2.mpr h.1
     lia
 have:=(key ns.length (zA2 _)).2
 rw[zAs (zA2 _)] at this;exact this
end L2
namespace LD
open PySem PySem.SeqAt MeetsSeq
open AutoSeq1 (wpAny_loadPart')
variable{b l:Addr}{dd:Option Addr}{n:Nat}{sl:Array (Option Value)}
theorem qat9(l b:Addr)(es:Array DictEntry)(items2:Array Value)(n n2:Nat)(dd dd2:Option Addr)(sl sl2:Array (Option Value)) :
   Meets (Builtin.«dict.__eq__» ⟨[.ref l,.ref b],[]⟩) (λ _ R s=>s.heap.get? l=some { cls:=.type "dict",dict:=dd,data:=.dict es n,slots:=sl }/\s.heap.get? b=some { cls:=.type "tuple",dict:=dd2,data:=.seq items2 n2,slots:=sl2 }/\R (.ok (.ret .notImplemented)) s) :=
 .of_wp λ prog w A R s h=>by obtain⟨hp,g,d,tk,os⟩:=s;obtain⟨hl,hb,h⟩:=h;have f1:=F.sub_tuple_dict;wp_walk using wpAny_loadPart' hl,wpAny_loadPart' hb;exact⟨_,rfl,h⟩
theorem qan7(l b:Addr)(es:Array DictEntry)(items2:Array Value)(n n2:Nat)(dd dd2:Option Addr)(sl sl2:Array (Option Value)) :
   Meets (Builtin.«tuple.__eq__» ⟨[.ref b,.ref l],[]⟩) (λ _ R s=>s.heap.get? l=some { cls:=.type "dict",dict:=dd,data:=.dict es n,slots:=sl }/\s.heap.get? b=some { cls:=.type "tuple",dict:=dd2,data:=.seq items2 n2,slots:=sl2 }/\R (.ok (.ret .notImplemented)) s) :=
 .of_wp λ prog w A R s h=>by obtain⟨hp,g,d,tk,os⟩:=s;obtain⟨hl,hb,h⟩:=h;have f1:=F.sub_dict_tuple;wp_walk using wpAny_loadPart' hl,wpAny_loadPart' hb;exact⟨_,rfl,h⟩
theorem qar5(l b:Addr)(es:Array DictEntry)(items2:Array Value)(n n2:Nat)(dd dd2:Option Addr)(sl sl2:Array (Option Value)) :
   Meets (Builtin.«dict.__ne__» ⟨[.ref l,.ref b],[]⟩) (λ _ R s=>s.heap.get? l=some { cls:=.type "dict",dict:=dd,data:=.dict es n,slots:=sl }/\s.heap.get? b=some { cls:=.type "tuple",dict:=dd2,data:=.seq items2 n2,slots:=sl2 }/\R (.ok (.ret .notImplemented)) s) :=
 .of_wp λ prog w A R s h=>by obtain⟨hp,g,d,tk,os⟩:=s;obtain⟨hl,hb,h⟩:=h;have f1:=F.sub_tuple_dict;wp_walk using wpAny_loadPart' hl,wpAny_loadPart' hb;exact⟨_,rfl,h⟩
theorem qan6(l b:Addr)(es:Array DictEntry)(items2:Array Value)(n n2:Nat)(dd dd2:Option Addr)(sl sl2:Array (Option Value)) :
   Meets (Builtin.«tuple.__ne__» ⟨[.ref b,.ref l],[]⟩) (λ _ R s=>s.heap.get? l=some { cls:=.type "dict",dict:=dd,data:=.dict es n,slots:=sl }/\s.heap.get? b=some { cls:=.type "tuple",dict:=dd2,data:=.seq items2 n2,slots:=sl2 }/\R (.ok (.ret .notImplemented)) s) :=
 .of_wp λ prog w A R s h=>by obtain⟨hp,g,d,tk,os⟩:=s;obtain⟨hl,hb,h⟩:=h;have f1:=F.sub_dict_tuple;wp_walk using wpAny_loadPart' hl,wpAny_loadPart' hb;exact⟨_,rfl,h⟩
theorem for0{β:Type}{m:Type->Type}[Monad m](b:β)(f:Nat->β->m (ForInStep β)):forIn [:0] b f=(pure b:m β):=by
 simp
theorem same0{M:Model}{A:Around}{E:Value->Shared->Prop}{s:Shared}{Q:Bool->Shared->Prop}{id:String}{n2:Nat}{dd2:Option Addr}{sl2:Array (Option Value)}(h1:(l == sysModules)=false)(h2:(b == sysModules)=false)(hl:s.heap.get? l=some { cls:=.type "dict",dict:=dd,data:=.dict #[] n,slots:=sl })(hb:s.heap.get? b=some { cls:=.type "dict",dict:=dd2,data:=.dict #[] n2,slots:=sl2 })(h:Q true s):wpAny M A (Builtin.Dict.samePairs id l b) Q E s:=by
 unfold Builtin.Dict.samePairs Builtin.Dict.showsAll;rw[if_neg (by rw[h1];decide),if_neg (by rw[h2];decide)];refine wpAny_bind (wpAny_pure (wpAny_bind (wpAny_pure ?_)));refine wpAny_bind (wpAny_dictEntries hl rfl ?_);refine wpAny_bind (wpAny_dictEntries hb rfl ?_);rw[if_neg (by decide)];refine wpAny_bind (wpAny_dictEpoch hl rfl ?_);have e0:(#[]:Array DictEntry).size=0:=rfl;simp only[e0];rw[for0];exact wpAny_bind (wpAny_pure (wpAny_pure h))
theorem qaD9(l b:Addr)(n n2:Nat)(dd dd2:Option Addr)(sl sl2:Array (Option Value))(h1:(l == sysModules)=false)(h2:(b == sysModules)=false) :
   Meets (Builtin.«dict.__eq__» ⟨[.ref l,.ref b],[]⟩) (λ _ R s=>s.heap.get? l=some { cls:=.type "dict",dict:=dd,data:=.dict #[] n,slots:=sl }/\s.heap.get? b=some { cls:=.type "dict",dict:=dd2,data:=.dict #[] n2,slots:=sl2 }/\R (.ok (.ret (.bool true))) s) :=
 .of_wp λ prog w A R s h=>by
   obtain⟨hp,g,d,tk,os⟩:=s;obtain⟨hl,hb,h⟩:=h;have f1:isSubtype (.type "dict") (.type "dict")=pure true:=F.sub_dict_dict
   wp_walk using wpAny_loadPart' hl,wpAny_loadPart' hb,same0 h1 h2 hl hb
   exact⟨_,rfl,h⟩
theorem qaA9(l b:Addr)(n n2:Nat)(dd dd2:Option Addr)(sl sl2:Array (Option Value))(h1:(l == sysModules)=false)(h2:(b == sysModules)=false) :
   Meets (Builtin.«dict.__ne__» ⟨[.ref l,.ref b],[]⟩) (λ _ R s=>s.heap.get? l=some { cls:=.type "dict",dict:=dd,data:=.dict #[] n,slots:=sl }/\s.heap.get? b=some { cls:=.type "dict",dict:=dd2,data:=.dict #[] n2,slots:=sl2 }/\R (.ok (.ret (.bool false))) s) :=
 .of_wp λ prog w A R s h=>by
   obtain⟨hp,g,d,tk,os⟩:=s;obtain⟨hl,hb,h⟩:=h;have f1:isSubtype (.type "dict") (.type "dict")=pure true:=F.sub_dict_dict
   wp_walk using wpAny_loadPart' hl,wpAny_loadPart' hb,same0 h1 h2 hl hb
   exact⟨_,rfl,h⟩
section
variable{A:Around}{s:Shared}
theorem qaj8{n2:Nat}{dd2:Option Addr}{sl2:Array (Option Value)}(h1:(l == sysModules)=false)(h2:(b == sysModules)=false)(ho:s.heap.get? l=some { cls:=.type "dict",dict:=dd,data:=.dict #[] n,slots:=sl })(ho2:s.heap.get? b=some { cls:=.type "dict",dict:=dd2,data:=.dict #[] n2,slots:=sl2 })(hu:A.units < cLine):RcAt A s (.ref l) (.ref b) true/\RcNeAt A s (.ref l) (.ref b) false :=
 ⟨λ prog w E Q h=>richCompare_meets_room (op:=.Eq) ⟨_,ho,rfl⟩ ⟨_,ho2,rfl⟩ F.slot_dict_eq F.entry_dict_eq (F.args_dict_eq_2 _ _) (qaD9 l b n n2 dd dd2 sl sl2 h1 h2) ⟨ho,ho2,show Value.bool true≠Value.notImplemented/\Q (.bool true) s from⟨(λ x=>nomatch x),h⟩⟩ hu,
  λ prog w E Q h=>richCompare_meets_room (op:=.NotEq) ⟨_,ho,rfl⟩ ⟨_,ho2,rfl⟩ F.slot_dict_ne F.entry_dict_ne (F.args_dict_ne_2 _ _) (qaA9 l b n n2 dd dd2 sl sl2 h1 h2) ⟨ho,ho2,show Value.bool false≠Value.notImplemented/\Q (.bool false) s from⟨(λ x=>nomatch x),h⟩⟩ hu⟩
theorem rc_dt{es:Array DictEntry}{items2:Array Value}(ho:s.heap.get? l=some { cls:=.type "dict",dict:=dd,data:=.dict es n,slots:=sl })(hb:s.heap.IsTuple b items2)(hu:A.units < cLine):RcAt A s (.ref l) (.ref b) false/\RcNeAt A s (.ref l) (.ref b) true:=by
 obtain⟨⟨cls2,dd2,data2,sl2⟩,ho2,hc2,n2,hd2⟩:=id hb;simp only at hc2 hd2;subst hc2 hd2;have hne:l≠b:=λ e=>by
   subst e;rw[ho] at ho2
   have:=congrArg (λ o:Option Obj=>o.map (·.cls)) ho2
   simp at this
 exact⟨λ prog w E Q h=>rc_eq_decline_or (k:=false) ⟨_,ho,rfl⟩ ⟨_,ho2,rfl⟩ (by decide) F.sub_tuple_dict F.slot_dict_eq F.slot_tuple_eq_refl
     (λ _ hq=>call_meets F.slot_dict_eq ⟨_,ho,rfl⟩ F.entry_dict_eq (F.args_dict_eq_2 _ _) (qat9 l b es items2 n n2 dd dd2 sl sl2) ⟨ho,ho2,hq⟩)
     (λ _ hq=>call_meets F.slot_tuple_eq_refl ⟨_,ho2,rfl⟩ F.entry_tuple_eq (F.args_tuple_eq_2 _ _) (qan7 l b es items2 n n2 dd dd2 sl sl2) ⟨ho,ho2,hq⟩)
     (λ _ hq=>wpAny_isSame_ref_other hne ho ho2 (by simp) hq) (.inr hu) h,
   λ prog w E Q h=>rc_ne_decline_or (k:=false) ⟨_,ho,rfl⟩ ⟨_,ho2,rfl⟩ (by decide) F.sub_tuple_dict F.slot_dict_ne F.slot_tuple_ne_refl
     (λ _ hq=>call_meets F.slot_dict_ne ⟨_,ho,rfl⟩ F.entry_dict_ne (F.args_dict_ne_2 _ _) (qar5 l b es items2 n n2 dd dd2 sl sl2) ⟨ho,ho2,hq⟩)
     (λ _ hq=>call_meets F.slot_tuple_ne_refl ⟨_,ho2,rfl⟩ F.entry_tuple_ne (F.args_tuple_ne_2 _ _) (qan6 l b es items2 n n2 dd dd2 sl sl2) ⟨ho,ho2,hq⟩)
     (λ _ hq=>wpAny_isSame_ref_other hne ho ho2 (by simp) hq) (.inr hu) h⟩
end
end LD
namespace L2
open PySem PySem.Spec PyProof.Rows PySem.SeqAt
variable{A:Around}{a:Addr}{xs:List V}
inductive EqD(H:Hp):Nat->V->V->Bool->Prop
 | flat {n:Nat} {x y:V} (hx:flatV x=true) (hy:flatV y=true):EqD H n x y (eqV x y)
 | same {n:Nat} (a:Addr):EqD H n (.ref a) (.ref a) true
 | lsts {n:Nat} {a b:Addr} {xs ys:List V} {e:Nat->Bool} (ne:a≠b) (ha:H a=some (.lst xs)) (hb:H b=some (.lst ys)) (hl:xs.length=ys.length) (he:∀ i x y,xs[i]? = some x->ys[i]? = some y->EqD H n x y (e i)):EqD H (n+1) (.ref a) (.ref b) ((List.range xs.length).all e)
 | lens {n:Nat} {a b:Addr} {xs ys:List V} (ne:a≠b) (ha:H a=some (.lst xs)) (hb:H b=some (.lst ys)) (hl:xs.length≠ys.length):EqD H (n+1) (.ref a) (.ref b) false
 | tups {n:Nat} {a b:Addr} {xs ys:List V} {e:Nat->Bool} (ne:a≠b) (ha:H a=some (.tup xs)) (hb:H b=some (.tup ys)) (he:∀ i x y,xs[i]? = some x->ys[i]? = some y->EqD H n x y (e i)):EqD H (n+1) (.ref a) (.ref b) ((List.range (min xs.length ys.length)).all e&&xs.length == ys.length)
 | dcts {n:Nat} {a b:Addr} (ne:a≠b) (ha:H a=some (.dK [])) (hb:H b=some (.dK [])):EqD H n (.ref a) (.ref b) true
inductive RcD(H:Hp):V->V->Bool->Prop
 | flat {x y:V} (hx:flatV x=true) (hy:flatV y=true):RcD H x y (eqV x y)
 | lsts {a b:Addr} {xs ys:List V} {e:Nat->Bool} (ha:H a=some (.lst xs)) (hb:H b=some (.lst ys)) (hl:xs.length=ys.length) (he:∀ i x y,xs[i]? = some x->ys[i]? = some y->EqD H 20 x y (e i)):RcD H (.ref a) (.ref b) ((List.range xs.length).all e)
 | lens {a b:Addr} {xs ys:List V} (ha:H a=some (.lst xs)) (hb:H b=some (.lst ys)) (hl:xs.length≠ys.length):RcD H (.ref a) (.ref b) false
 | tups {a b:Addr} {xs ys:List V} {e:Nat->Bool} (ha:H a=some (.tup xs)) (hb:H b=some (.tup ys)) (he:∀ i x y,xs[i]? = some x->ys[i]? = some y->EqD H 20 x y (e i)):RcD H (.ref a) (.ref b) ((List.range (min xs.length ys.length)).all e&&xs.length == ys.length)
 | lt {a b:Addr} {xs ys:List V} (ha:H a=some (.lst xs)) (hb:H b=some (.tup ys)):RcD H (.ref a) (.ref b) false
 | tl {a b:Addr} {xs ys:List V} (ha:H a=some (.tup xs)) (hb:H b=some (.lst ys)):RcD H (.ref a) (.ref b) false
 | lf {a:Addr} {xs:List V} {y:V} (ha:H a=some (.lst xs)) (hy:flatV y=true):RcD H (.ref a) y false
 | fl {a:Addr} {xs:List V} {y:V} (ha:H a=some (.lst xs)) (hy:flatV y=true):RcD H y (.ref a) false
 | tf {a:Addr} {xs:List V} {y:V} (ha:H a=some (.tup xs)) (hy:flatV y=true):RcD H (.ref a) y false
 | ft {a:Addr} {xs:List V} {y:V} (ha:H a=some (.tup xs)) (hy:flatV y=true):RcD H y (.ref a) false
 | dcts {a b:Addr} (ha:H a=some (.dK [])) (hb:H b=some (.dK [])):RcD H (.ref a) (.ref b) true
 | dt {a b:Addr} {kvs:List (Key×V)} {ys:List V} (ha:H a=some (.dK kvs)) (hb:H b=some (.tup ys)):RcD H (.ref a) (.ref b) false
section
variable{X:Cx}{D6:List (Addr×Obj)}{σ:St}{H:Hp}{s:Shared}
theorem Inv.lstI(I:Inv X D6 σ H s)(h:H a=some (.lst xs)):∃ its:List Value,Vals xs its/\s.heap.IsList a its.toArray:=by
 obtain⟨z,its,n,r,_,e⟩:=I.lstM h;exact⟨its,r,_,e,rfl,n,rfl⟩
theorem Inv.tupI(I:Inv X D6 σ H s)(h:H a=some (.tup xs)):∃ its:List Value,Vals xs its/\s.heap.IsTuple a its.toArray:=by
 obtain⟨z,its,r,o,h1,h2,n,h3⟩:=I.hok a _ h;exact⟨its,r,o,h1,h2,n,h3⟩
theorem Inv.dK0(I:Inv X D6 σ H s){kvs:List (Key×V)}(h:H a=some (.dK kvs)):(a == sysModules)=false/\∃ es n,s.heap.get? a=some { cls:=.type "dict",dict:=none,data:=.dict es n,slots:=#[] }/\(kvs=[]->es = #[]):=by
 obtain⟨_,h1,vs,kv,o,es,ep,h2,⟨c1,c2,c3⟩,h3,_,pr,_⟩:=I.hok a _ h;obtain⟨oc,od,dt,sl⟩:=o;simp only at c1 c2 c3 h3;subst c1 c2 c3 h3;refine⟨h1,es,ep,h2,λ e=>?_⟩;subst e;cases kv;have e:es.toList=[]:=by
   generalize es.toList=l at pr;cases pr;rfl
 exact Array.toList_eq_nil_iff.mp e
theorem qr1(A:Around):A.in1.units<=A.units+1:=zA2 _
theorem qL8{P:V->V->Nat->Prop}{e:Nat->Bool}{ys:List V}{its its2:List Value}(r:Vals xs its)(r2:Vals ys its2)(k:∀ i x y u v,xs[i]? = some x->ys[i]? = some y->RelV x u->RelV y v->EqAt A s u v (e i)) :
   ∀ j (h1:j < its.toArray.size) (h2:j < its2.toArray.size),EqAt A s its.toArray[j] its2.toArray[j] (e j):=by
 intro j h1 h2;rw[zA4] at h1 h2;have l1:=r.length;have l2:=r2.length;obtain⟨u,hu,ru⟩:=r.get (i:=j) (x:=xs[j]'(by lia)) (by simp);obtain⟨v,hv,rv⟩:=r2.get (i:=j) (x:=ys[j]'(by lia)) (by simp);have e1:its.toArray[j]=u:=by
   have:its[j]? = some its[j]:=by simp[h1]
   rw[this] at hu;simpa using Option.some.inj hu
 have e2:its2.toArray[j]=v:=by
   have:its2[j]? = some its2[j]:=by simp[h2]
   rw[this] at hv;simpa using Option.some.inj hv
 rw[e1,e2];exact k j _ _ u v (by simp) (by simp) ru rv
theorem EqD.at(I:Inv X D6 σ H s){n:Nat}{x y:V}{b:Bool}(h:EqD H n x y b):∀{A:Around}{u v:Value},RelV x u->RelV y v->A.units+n+1 < cLine->EqAt A s u v b:=by
 induction h with
 | flat hx hy=>intro A u v rx ry _;exact qaE0 rx ry hx hy
 | same a=>intro A u v rx ry _;cases rx;cases ry;exact EqAt.same _
 | @lsts n a b xs ys e ne ha hb hl he ih =>
   intro A u v rx ry hu;cases rx;cases ry;obtain⟨its,r,p⟩:=I.lstI ha;obtain⟨its2,r2,p2⟩:=I.lstI hb;have hs:its.toArray.size=its2.toArray.size:=by rw[zA4,zA4,<- r.length,<- r2.length,hl]
   have q:=EqAt.of_refs ne (RcAt.lists (A:=A) p p2 hs (by lia) (e:=e) (qL8 (P:=λ _ _ _=>True) r r2 λ i x y u v e1 e2 ru rv=>ih i x y e1 e2 ru rv (by have:=qr1 A;lia)));rw[zA4,<- r.length] at q;exact q
 | @lens n a b xs ys ne ha hb hl =>
   intro A u v rx ry hu;cases rx;cases ry;obtain⟨its,r,p⟩:=I.lstI ha;obtain⟨its2,r2,p2⟩:=I.lstI hb;exact EqAt.of_refs ne (RcAt.lists_lengths p p2 (by rw[zA4,zA4,<- r.length,<- r2.length];simpa using hl) (by lia))
 | @tups n a b xs ys e ne ha hb he ih =>
   intro A u v rx ry hu;cases rx;cases ry;obtain⟨its,r,p⟩:=I.tupI ha;obtain⟨its2,r2,p2⟩:=I.tupI hb;have q:=EqAt.of_refs ne (RcAt.tuples (A:=A) p p2 (by lia) (e:=e) (qL8 (P:=λ _ _ _=>True) r r2 λ i x y u v e1 e2 ru rv=>ih i x y e1 e2 ru rv (by have:=qr1 A;lia)));rw[zA4,zA4,<- r.length,<- r2.length] at q;exact q
 | @dcts n a b ne ha hb =>
   intro A u v rx ry hu;cases rx;cases ry;obtain⟨h1,es,m,h2,h3⟩:=I.dK0 ha;obtain⟨k1,es',m',k2,k3⟩:=I.dK0 hb;cases h3 rfl;cases k3 rfl;exact EqAt.of_refs ne (LD.qaj8 h1 k1 h2 k2 (by lia)).1
theorem RcD.at(I:Inv X D6 σ H s){x y:V}{b:Bool}(h:RcD H x y b){u v:Value}(rx:RelV x u)(ry:RelV y v)(hu:A.units+60 < cLine):RcAt A s u v b/\RcNeAt A s u v (!b):=by
 cases h with
 | flat hx hy =>
   cases x with
   | non =>
     cases rx;cases y with
     | non=>cases ry;exact⟨RcAt.none_none,RcNeAt.none_none⟩
     | bl b=>cases ry;exact⟨RcAt.none_bool b,RcNeAt.none_bool b⟩
     | int b=>obtain⟨t,rfl⟩:=ry;exact⟨RcAt.none_int b t,RcNeAt.none_int b t⟩
     | str b=>obtain⟨t,rfl⟩:=ry;exact⟨RcAt.none_str b t,RcNeAt.none_str b t⟩
     | _=>exact absurd (show false=true from hy) zAj
   | bl a =>
     cases rx;cases y with
     | non=>cases ry;exact⟨RcAt.bool_none a,RcNeAt.bool_none a⟩
     | bl b=>cases ry;exact⟨RcAt.bool_bool a b,RcNeAt.bool_bool a b⟩
     | int b=>obtain⟨t,rfl⟩:=ry;exact⟨RcAt.bool_int a b t,RcNeAt.bool_int a b t⟩
     | str b=>obtain⟨t,rfl⟩:=ry;exact⟨RcAt.bool_str a b t,RcNeAt.bool_str a b t⟩
     | _=>exact absurd (show false=true from hy) zAj
   | int a =>
     obtain⟨t',rfl⟩:=rx;cases y with
     | non=>cases ry;exact⟨RcAt.int_none a t',RcNeAt.int_none a t'⟩
     | bl b=>cases ry;exact⟨RcAt.int_bool a t' b,RcNeAt.int_bool a t' b⟩
     | int b=>obtain⟨t,rfl⟩:=ry;exact⟨RcAt.int_int a t' b t,RcNeAt.int_int a t' b t⟩
     | str b=>obtain⟨t,rfl⟩:=ry;exact⟨RcAt.int_str a t' b t,RcNeAt.int_str a t' b t⟩
     | _=>exact absurd (show false=true from hy) zAj
   | str a =>
     obtain⟨t',rfl⟩:=rx;cases y with
     | non=>cases ry;exact⟨RcAt.str_none a t',RcNeAt.str_none a t'⟩
     | bl b=>cases ry;exact⟨RcAt.str_bool a t' b,RcNeAt.str_bool a t' b⟩
     | int b=>obtain⟨t,rfl⟩:=ry;exact⟨RcAt.str_int a t' b t,RcNeAt.str_int a t' b t⟩
     | str b=>obtain⟨t,rfl⟩:=ry;exact⟨RcAt.str_str a t' b t,RcNeAt.str_str a t' b t⟩
     | _=>exact absurd (show false=true from hy) zAj
   | _=>exact absurd (show false=true from hx) zAj
 | @lsts a b xs ys e ha hb hl he =>
   cases rx;cases ry;obtain⟨its,r,p⟩:=I.lstI ha;obtain⟨its2,r2,p2⟩:=I.lstI hb;have hs:its.toArray.size=its2.toArray.size:=by rw[zA4,zA4,<- r.length,<- r2.length,hl]
   have k:=qL8 (P:=λ _ _ _=>True) (e:=e) (A:=A.in1) (s:=s) r r2 λ i x y u v e1 e2 ru rv=>(he i x y e1 e2).at I ru rv (by have:=qr1 A;lia)
   have q1:=RcAt.lists p p2 hs (by lia) k;have q2:=RcNeAt.lists p p2 hs (by lia) k;rw[zA4,<- r.length] at q1 q2;exact⟨q1,q2⟩
 | @lens a b xs ys ha hb hl =>
   cases rx;cases ry;obtain⟨its,r,p⟩:=I.lstI ha;obtain⟨its2,r2,p2⟩:=I.lstI hb;have hs:(its.toArray.size != its2.toArray.size)=true:=by rw[zA4,zA4,<- r.length,<- r2.length];simpa using hl
   exact⟨RcAt.lists_lengths p p2 hs (by lia),RcNeAt.lists_lengths p p2 hs (by lia)⟩
 | @tups a b xs ys e ha hb he =>
   cases rx;cases ry;obtain⟨its,r,p⟩:=I.tupI ha;obtain⟨its2,r2,p2⟩:=I.tupI hb;have k:=qL8 (P:=λ _ _ _=>True) (e:=e) (A:=A.in1) (s:=s) r r2 λ i x y u v e1 e2 ru rv=>(he i x y e1 e2).at I ru rv (by have:=qr1 A;lia)
   have q1:=RcAt.tuples p p2 (by lia) k;have q2:=RcNeAt.tuples p p2 (by lia) k;rw[zA4,zA4,<- r.length,<- r2.length] at q1 q2;exact⟨q1,q2⟩
 | lt ha hb =>
   cases rx;cases ry;obtain⟨its,r,p⟩:=I.lstI ha;obtain⟨its2,r2,p2⟩:=I.tupI hb;exact⟨RcAt.list_tuple p p2 (by lia),RcNeAt.list_tuple p p2 (by lia)⟩
 | tl ha hb =>
   cases rx;cases ry;obtain⟨its,r,p⟩:=I.tupI ha;obtain⟨its2,r2,p2⟩:=I.lstI hb;exact⟨RcAt.tuple_list p p2 (by lia),RcNeAt.tuple_list p p2 (by lia)⟩
 | lf ha hy =>
   cases rx;obtain⟨its,r,p⟩:=I.lstI ha;cases y with
   | non=>cases ry;exact⟨RcAt.list_none p (by lia),RcNeAt.list_none p (by lia)⟩
   | bl b=>cases ry;exact⟨RcAt.list_bool b p (by lia),RcNeAt.list_bool b p (by lia)⟩
   | int b=>obtain⟨t,rfl⟩:=ry;exact⟨RcAt.list_int b t p (by lia),RcNeAt.list_int b t p (by lia)⟩
   | str b=>obtain⟨t,rfl⟩:=ry;exact⟨RcAt.list_str b t p (by lia),RcNeAt.list_str b t p (by lia)⟩
   | _=>exact absurd (show false=true from hy) zAj
 | fl ha hy =>
   cases ry;obtain⟨its,r,p⟩:=I.lstI ha;cases x with
   | non=>cases rx;exact⟨RcAt.none_list p (by lia),RcNeAt.none_list p (by lia)⟩
   | bl b=>cases rx;exact⟨RcAt.bool_list b p (by lia),RcNeAt.bool_list b p (by lia)⟩
   | int b=>obtain⟨t,rfl⟩:=rx;exact⟨RcAt.int_list b t p (by lia),RcNeAt.int_list b t p (by lia)⟩
   | str b=>obtain⟨t,rfl⟩:=rx;exact⟨RcAt.str_list b t p (by lia),RcNeAt.str_list b t p (by lia)⟩
   | _=>exact absurd (show false=true from hy) zAj
 | tf ha hy =>
   cases rx;obtain⟨its,r,p⟩:=I.tupI ha;cases y with
   | non=>cases ry;exact⟨RcAt.tuple_none p (by lia),RcNeAt.tuple_none p (by lia)⟩
   | bl b=>cases ry;exact⟨RcAt.tuple_bool b p (by lia),RcNeAt.tuple_bool b p (by lia)⟩
   | int b=>obtain⟨t,rfl⟩:=ry;exact⟨RcAt.tuple_int b t p (by lia),RcNeAt.tuple_int b t p (by lia)⟩
   | str b=>obtain⟨t,rfl⟩:=ry;exact⟨RcAt.tuple_str b t p (by lia),RcNeAt.tuple_str b t p (by lia)⟩
   | _=>exact absurd (show false=true from hy) zAj
 | ft ha hy =>
   cases ry;obtain⟨its,r,p⟩:=I.tupI ha;cases x with
   | non=>cases rx;exact⟨RcAt.none_tuple p (by lia),RcNeAt.none_tuple p (by lia)⟩
   | bl b=>cases rx;exact⟨RcAt.bool_tuple b p (by lia),RcNeAt.bool_tuple b p (by lia)⟩
   | int b=>obtain⟨t,rfl⟩:=rx;exact⟨RcAt.int_tuple b t p (by lia),RcNeAt.int_tuple b t p (by lia)⟩
   | str b=>obtain⟨t,rfl⟩:=rx;exact⟨RcAt.str_tuple b t p (by lia),RcNeAt.str_tuple b t p (by lia)⟩
   | _=>exact absurd (show false=true from hy) zAj
 | dcts ha hb =>
   cases rx;cases ry;obtain⟨h1,es,m,h2,h3⟩:=I.dK0 ha;obtain⟨k1,es',m',k2,k3⟩:=I.dK0 hb;cases h3 rfl;cases k3 rfl;exact LD.qaj8 h1 k1 h2 k2 (by lia)
 | dt ha hb =>
   cases rx;cases ry;obtain⟨h1,es,m,h2,h3⟩:=I.dK0 ha;obtain⟨its2,r2,p2⟩:=I.tupI hb;exact LD.rc_dt h2 p2 (by lia)
end
def rEqD:R2:=λ x y H Q=>∃ b,RcD H x y b/\Q (.bl b) H
def rNeD:R2:=λ x y H Q=>∃ b,RcD H x y b/\Q (.bl (!b)) H
theorem qJ0{X:Cx}(hu:X.A.units+64 < cLine):OpR X (compareOp .Eq) rEqD:=by
 intro D6 s σ H x y v u Q I rx ry ⟨b,hb,q⟩;exact(hb.at I rx ry (A:=X.A) (by lia)).1 X.prog X.w X.xe _ ⟨.bl b,H,I,rfl,q⟩
theorem qD7{X:Cx}(hu:X.A.units+64 < cLine):OpR X (compareOp .NotEq) rNeD:=by
 intro D6 s σ H x y v u Q I rx ry ⟨b,hb,q⟩;exact(hb.at I rx ry (A:=X.A) (by lia)).2 X.prog X.w X.xe _ ⟨.bl (!b),H,I,rfl,q⟩
theorem qu6:∀{x:V},flatV x=true->eqV x x=true:=by
 intro x h;cases x with
 | non=>rfl
 | bl b=>simp[eqV]
 | int b=>simp[eqV]
 | str b=>simp[eqV]
 | _=>exact absurd (show false=true from h) zAj
theorem Room.u64{k:Nat}(hr:Room k A):A.units+64 < cLine:=hr.units
end L2
namespace L2
open PySem PySem.Spec PyProof.Rows
variable{vs:Array Value}
structure Cl(K:PySem.W.Frag)(mg:Str->Option Value)(x:Str)(C:Addr):Prop where
 cl:Cls K C
 m:mg x=some (.ref C)
structure Md(K:PySem.W.Frag)(C:Addr)(m qual:Str)(st:Stmt)(f:Addr)(fd:FuncData)(ps:List Str):Prop where
 F:Fun K m qual st f fd
 b:Binds K fd ps []
 me:Gu K C m f
 isf:PySem.W.isFn K (.ref f)=true
theorem mdmk{K:PySem.W.Frag}{C:Addr}{m qual:Str}{st:Stmt}{f:Addr}{ps:List Str}{oc:Value}{od an:Option Addr}{osl:Array (Option Value)}{kV doc pm cdv ct:Value}(l:K.lookup f=some ⟨oc,od,.func (PySem.W.fnOf m qual (qe2 st) (qc6 st) (qa3 st) .none kV doc pm an cdv ct),osl⟩)(c:PySem.W.codeIn K cdv qual=true)(k:PySem.W.keepIn K (.ref f)=true)(a:PySem.W.findIn K (.ref C) m=some (some (.ref f)))(i:PySem.W.isFn K (.ref f)=true)(h:∀(kV doc pm:Value)(an:Option Addr)(cdv ct:Value)(us:List Value),us.length=ps.length->bindArgs (PySem.W.fnOf m qual (qe2 st) (qc6 st) (qa3 st) .none kV doc pm an cdv ct) ⟨us,[]⟩=pure (ps.zip us)) :
   Md K C m qual st f (PySem.W.fnOf m qual (qe2 st) (qc6 st) (qa3 st) .none kV doc pm an cdv ct) ps:=⟨qag7 l c k,(qag7 l c k).binds h,⟨a,i,k⟩,i⟩
section
variable{M:Model}{A:Around}{E:Value->Shared->Prop}{s:Shared}
structure Left(h h':Heap)(f:List Addr)(e T:Addr)(oe:Obj)(old:Option Value):Prop where
 new:h.objs.size<=T
 keep:∀ b o,h.get? b=some o->b≠e->old≠some (.ref b)->b∉f->h'.get? b=some o
 slot:∀ b o,h.get? b=some o->b∈f->∃ sl,h'.get? b=some { o with slots:=sl }
 there:∀ b o,h.get? b=some o->∃ o',h'.get? b=some o'
 exc:∃ vs oT ts,h'.get? e=some { oe with data:=.fields vs }/\1 < vs.size/\vs[1]? = some (.ref T)/\T≠e/\h'.get? T=some oT/\oT.data=.fields ts/\ts[3]? = some .none
theorem qal1{o:Obj}(hd:o.data=.fields vs)(g:Array Value->Array Value):Obj.mapFields g o={ o with data:=.fields (g vs) }:=by
 obtain⟨a,b,c,d⟩:=o;cases hd;rfl
theorem qF1{base:Heap}{env:Env}{outer:List Env}{L e:Addr}{oe:Obj}{head:Value}{hn:Bool}{old:Option Value}{Q:Unit->Shared->Prop}(hfr:A.frames=some (env::outer))(hl:s.heap.FunFrames base (env::outer))(hf:env.frame=some L)(he:s.heap.get? e=some oe)(hd:oe.data=.fields vs)(hsz:1 < vs.size)(h:∀ h' T,Left s.heap h' ((env::outer).filterMap (·.frame)) e T oe old->Q () { s with heap:=h' }) :
   wpAny M A (do let a <- frameOf env;let pl <- entryPlaceOf L hn;let b <- EntryCells.newEntry head a .none (rawInt L) .none pl;setField (.ref e) 1 b)
     (λ _ s'=>wpAny M A (setFlight (.ref e) none) Q E s') E s:=by
 have nfr:∀ b o ws,s.heap.get? b=some o->o.data=.fields ws->b∉(env::outer).filterMap (·.frame):=λ b o ws q1 q2 hm=>by
   obtain⟨_,o',q3,q4⟩:=hl.mem hm;rw[q1] at q3;cases q3;exact q4 ws q2
 refine wpAny_bind (wpAny_frameOf_fun hfr hl hf λ g1 q1=>?_);refine wpAny_bind (wpAny_entryPlaceOf λ pl isp=>?_);unfold EntryCells.newEntry newFields;refine wpAny_bind (wpAny_newObj_type ?_ (isp.sizeOk5 _ _ _ _ _));obtain⟨qs,qk,qu⟩:=q1;have e1:g1.get? e=some oe:=(qk e (nfr e oe vs he hd)).trans he;generalize hto:({ cls:=.type "traceback",dict:=none,data:=.fields ([head,.ref L,.none,rawInt L,.none]++(if pl.isEmpty then List.replicate 6 Value.none else pl)).toArray }:Obj)=oT;have dT:∃ ts,oT.data=.fields ts/\3 < ts.size:=by
   refine⟨([head,.ref L,.none,rawInt L,.none]++(if pl.isEmpty then List.replicate 6 Value.none else pl)).toArray,by rw[<- hto],?_⟩;simp only[zA4,zA7,zAk,zCa];lia
 have nf:oT.isFreed=false:=by rw[<- hto];rfl
 obtain⟨ts,dT,d3⟩:=dT;have e2:=zA3 (h:=g1) oT e1;refine wpAny_setField e2 hd hsz ?_;have ne:g1.objs.size≠e:=Nat.ne_of_gt (zAc e1);have d4:=Obj.data_mapFields hd (·.setIfInBounds 1 (Value.ref g1.objs.size));have e3:=Heap.get?_update_self (Obj.mapFields (·.setIfInBounds 1 (Value.ref g1.objs.size))) e2 (Obj.isFreed_of_fields d4);have t3:((g1.push oT).update e (Obj.mapFields (·.setIfInBounds 1 (Value.ref g1.objs.size)))).get? g1.objs.size=some oT:=(zBf _ _ (Ne.symm ne)).trans (zB0 g1 nf);unfold setFlight;refine wpAny_bind (wpAny_field e3 d4 (x:=.ref g1.objs.size) (by simp[hsz]) ?_);rw[if_pos (show (Value.ref g1.objs.size != Value.none)=true from by simp)];refine wpAny_setField t3 dT d3 (h _ g1.objs.size ?_);have keep:∀ b o,b≠e->g1.get? b=some o->(((g1.push oT).update e (Obj.mapFields (·.setIfInBounds 1 (Value.ref g1.objs.size)))).update g1.objs.size (Obj.mapFields (·.setIfInBounds 3 ((none:Option Addr).elim Value.none λ f=>rawInt f)))).get? b=some o:=λ b o n1 n2=>by
   rw[zBf _ _ (Nat.ne_of_gt (zAc n2)),zBf _ _ (Ne.symm n1)];exact zA3 _ n2
 have ee:(((g1.push oT).update e (Obj.mapFields (·.setIfInBounds 1 (Value.ref g1.objs.size)))).update g1.objs.size (Obj.mapFields (·.setIfInBounds 3 ((none:Option Addr).elim Value.none λ f=>rawInt f)))).get? e=some { oe with data:=.fields (vs.setIfInBounds 1 (Value.ref g1.objs.size)) }:=by
   rw[zBf _ _ ne,e3,qal1 hd]
 refine⟨zCc qs.symm,λ b o hb n1 n2 n3=>keep b o n1 ((qk b n3).trans hb),λ b o hb hm=>?_,λ b o hb=>?_,_,_,_,ee,by simpa using hsz,by simp[hsz],ne,Heap.get?_update_self _ t3 (Obj.isFreed_of_fields (Obj.data_mapFields dT _)),Obj.data_mapFields dT _,by simp[d3]⟩
 . obtain⟨sl,hs⟩:=qu b o hb
   refine⟨sl,keep b _ (λ z=>?_) hs⟩;subst z;rw[he] at hb;cases hb;exact nfr b _ vs he hd hm
 obtain⟨sl,hs⟩:=qu b o hb;by_cases z:b=e
 . subst z;exact⟨_,ee⟩
 exact⟨_,keep b _ z hs⟩
theorem qY7{base:Heap}{env:Env}{outer:List Env}{L e:Addr}{oe:Obj}{Q:Unit->Shared->Prop}(hfr:A.frames=some (env::outer))(hl:s.heap.FunFrames base (env::outer))(hf:env.frame=some L)(he:s.heap.get? e=some oe)(hd:oe.data=.fields vs)(hsz:1 < vs.size)(ht:vs[1]? = some .none∨∃ T oT ts,vs[1]? = some (.ref T)/\T≠e/\s.heap.get? T=some oT/\oT.data=.fields ts/\ts[3]? = some .none)(h:∀ h' T,Left s.heap h' ((env::outer).filterMap (·.frame)) e T oe vs[1]? -> Q () { s with heap:=h' }) :
   wpAny M A (noteFrame (.ref e) env) (λ _ s'=>wpAny M A (setFlight (.ref e) none) Q E s') E s:=by
 unfold noteFrame;simp only[hf];rcases ht with h1 | ⟨T,oT,ts,h1,hTe,hT,dT,h3⟩
 . refine wpAny_bind (wpAny_field he hd h1 ?_)
   rw[if_neg (by decide)];exact qF1 (old:=vs[1]?) hfr hl hf he hd hsz h
 refine wpAny_bind (wpAny_field he hd h1 ?_);rw[if_pos (show (Value.ref T != Value.none)=true from by simp)];refine wpAny_bind (wpAny_field hT dT h3 ?_);rw[if_neg (show ¬ ((Value.none == rawInt L)=true) from by simp[rawInt])];have h4:=(Array.getElem?_eq_some_iff.mp h3).1;refine wpAny_bind (wpAny_setField hT dT h4 ?_);have other:∀ b,b≠T->(s.heap.update T (Obj.mapFields (·.setIfInBounds 3 Value.none))).get? b=s.heap.get? b:=λ b hb=>zBf _ _ (Ne.symm hb)
 have nT:∀ b∈(env::outer).filterMap (·.frame),b≠T:=λ b hm z=>by
   obtain⟨_,o',q3,q4⟩:=hl.mem hm;subst z;rw[hT] at q3;cases q3;exact q4 ts dT
 have sT:(s.heap.update T (Obj.mapFields (·.setIfInBounds 3 Value.none))).get? T=some { oT with data:=.fields (ts.setIfInBounds 3 .none) }:=by
   rw[Heap.get?_update_self _ hT (Obj.isFreed_of_fields (Obj.data_mapFields dT _)),qal1 dT]
 have hl':(s.heap.update T (Obj.mapFields (·.setIfInBounds 3 Value.none))).FunFrames base (env::outer):=hl.of_keeps λ b o hb hnf=>⟨o,(other b λ z=>by subst z;rw[hT] at hb;cases hb;exact hnf ts dT).trans hb,rfl⟩
 refine qF1 (s:={ s with heap:=s.heap.update T (Obj.mapFields (·.setIfInBounds 3 Value.none)) }) (old:=vs[1]?) hfr hl' hf ((other e (Ne.symm hTe)).trans he) hd hsz λ h' T' q=>h h' T' ?_
 obtain⟨q1,q2,q3,q4,q5⟩:=q;refine⟨by rwa[show (s.heap.update T (Obj.mapFields (·.setIfInBounds 3 Value.none))).objs.size=s.heap.objs.size from Heap.size_update _ _ _] at q1,λ b o hb n1 n2 n3=>?_,λ b o hb hm=>q3 b o ((other b (nT b hm)).trans hb) hm,λ b o hb=>?_,q5⟩
 . exact q2 b o ((other b λ z=>n2 (by rw[h1,z])).trans hb) n1 n2 n3
 by_cases z:b=T
 . subst z;exact q4 _ _ sT
 exact q4 b o ((other b z).trans hb)
end
end L2
namespace L2
open PySem PySem.Spec PyProof.Rows Builtin Builtin.ObjectAttr
end L2
namespace L2
open PySem PySem.Spec PyProof.Rows
def Hg(e C:Addr)(od:Option Addr)(fr:Bool)(h:Heap):Prop:=∃ oe vs,h.get? e=some oe/\oe.cls=.ref C/\oe.dict=od/\oe.data=.fields vs/\1 < vs.size/\(fr=true->vs[1]? = some .none)
abbrev ExcO(e C:Addr)(od:Option Addr)(fr:Bool):HO:=.ext (Hg e C od fr)
def xdIs(d:Addr)(fs:List (Str×V))(h:Heap):Prop:=∃ mA,h.Ns1 d mA/\(∀ f,RelO (fs.lookup f) (mA f))/\PySem.Within mA (fs.map (·.1))/\fs.length<=1000
abbrev XD(d:Addr)(fs:List (Str×V)):HO:=.ext (xdIs d fs)
section
variable{P:Program}{w:World}{H:Hp}{h:Heap}
theorem qaM0{e C:Addr}{od:Option Addr}{fr:Bool}(q:Hg e C od fr h):ObjOk P w H h e (ExcO e C od fr) :=
 ⟨q,let ⟨oe,_,a,_⟩:=q;⟨oe,a⟩,λ h1 h2 ⟨oe,vs,a,b⟩ k=>⟨oe,vs,k _ a,b⟩⟩
theorem qaM1{e C:Addr}{od:Option Addr}{fr:Bool}(ok:HOk P w H h)(q:H e=some (ExcO e C od fr)):Hg e C od fr h:=(ok e _ q).1
end
structure Fly(n:Nat)(H:Hp)(h:Heap)(a:Addr):Prop where
 ge:n<=a
 tr:∃ C od,H a=some (ExcO a C od false)
 ob:∃ oe vs,h.get? a=some oe/\oe.data=.fields vs/\1 < vs.size/\(vs[1]? = some .none∨∃ T oT ts,vs[1]? = some (.ref T)/\n<=T/\H T=none/\T≠a/\h.get? T=some oT/\oT.data=.fields ts/\ts[3]? = some .none)
theorem Fly.mono{m n:Nat}{H:Hp}{h:Heap}{a:Addr}(F:Fly n H h a)(l:m<=n):Fly m H h a:=by
 obtain⟨oe,vs,h1,h2,h3,h4⟩:=F.ob;refine⟨zAn l F.ge,F.tr,oe,vs,h1,h2,h3,?_⟩;rcases h4 with z | ⟨T,oT,ts,z1,z2,z⟩
 . exact .inl z
 exact .inr ⟨T,oT,ts,z1,zAn l z2,z⟩
def CX1(P:Program)(w:World):CXT:=λ outer H s E e s'=>∃ a H',e=.ref a/\s'.os=s.os/\AllBare s'.gens/\Un (frs outer) [] H H' s.heap s'.heap/\HOk P w H' s'.heap/\Fly s.heap.objs.size H' s'.heap a/\E e none H'
structure Old(X:Cx)(D6:List (Addr×Obj))(n:Nat):Prop where
 st:X.s₀.heap.objs.size<=n
 loc:X.env.locals < n
 cell:∀ x c,X.env.cells.lookup x=some c->c < n
 pin:∀ p∈X.pn++D6,p.1 < n
theorem Inv.old{X:Cx}{D6:List (Addr×Obj)}{σ:St}{H:Hp}{s:Shared}(I:Inv X D6 σ H s):Old X D6 s.heap.objs.size :=
 ⟨I.sz,I.lt,λ x c e=>let ⟨_,_,z,_⟩:=I.cell x c e;zAc z,λ p hp=>zAc (I.pin p hp).1⟩
def Fe:Option Value->List Addr
 | some (.ref b)=>[b]
 | _=>[]
section
variable{X:Cx}{D6:List (Addr×Obj)}{σ:St}{H:Hp}{s:Shared}{a T:Addr}{n:Nat}{h':Heap}{oe:Obj}{vs:Array Value}
theorem Inv.left(I:Inv X D6 σ H s)(F:Fly n H s.heap a)(O:Old X D6 n)(he:s.heap.get? a=some oe)(hd:oe.data=.fields vs)(L:Left s.heap h' (frs X.stack) a T oe vs[1]?) :
   Inv X D6 σ H { s with heap:=h' }/\Fly n H h' a:=by
 obtain⟨C,od,tr⟩:=F.tr;obtain⟨oe',vs',q1,q2,q3,q4⟩:=F.ob;rw[he] at q1;cases q1;rw[hd] at q2;cases q2;obtain⟨ws,oT,ts,e1,e2,e3,e4,e5,e6,e7⟩:=L.exc;have old:∀ b,vs[1]? = some (.ref b)->n<=b/\H b=none/\b≠a:=λ b z=>by
   rcases q4 with q | ⟨T',_,_,q,r1,r2,r3,_⟩
   . rw[q] at z;cases z
   rw[q] at z;cases z;exact⟨r1,r2,r3⟩
 have hok:HOk X.prog X.w H h':=λ b u hb=>by
   by_cases z:b=a
   . subst z
     rw[tr] at hb;cases hb;obtain⟨oe',vs',p1,p2,p3,p4,p5,p6⟩:=qaM1 I.hok tr;rw[he] at p1;cases p1;exact qaM0 ⟨_,ws,e1,p2,p3,rfl,e2,λ z=>nomatch z⟩
   have nn:∀ c,H c≠none->c∉frs X.stack:=λ c hc hm=>hc (I.stkFree c hm)
   refine(I.hok b u hb).stay (λ c v hc r=>L.keep c v r ?_ (λ z'=>?_) ?_) (λ _ z=>z) λ _ _ z=>z
   . rcases hc with rfl | hc
     . exact z
     intro z';rw[z',tr] at hc;cases hc
   . have:=(old c z').2.1
     rcases hc with rfl | hc
     . rw[this] at hb;cases hb
     rw[this] at hc;cases hc
   rcases hc with rfl | hc
   . exact nn c (by rw[hb];exact λ z=>nomatch z)
   exact nn c (by rw[hc];exact λ z=>nomatch z)
 refine⟨?_,F.ge,⟨C,od,tr⟩,_,ws,e1,rfl,e2,.inr ⟨T,oT,ts,e3,zAn (zAn F.ge (Nat.le_of_lt (zAc he))) L.new,I.hok.fresh L.new,e4,e5,e6,e7⟩⟩;have hch:∀ b,b∈Fe vs[1]? ↔ vs[1]? = some (.ref b):=λ b=>by
   rcases q4 with q | ⟨T',_,_,q,_⟩
   . rw[q];simp[Fe]
   rw[q];simp[Fe,eq_comm]
 have U:Un (frs X.stack) (Fe vs[1]?) H H s.heap h':=by
   refine⟨λ b o z n1 n2 n3=>L.keep b o z (λ z'=>?_) (λ z'=>n3 ((hch b).mpr z')) n2,λ b o z n1 n2 n3=>L.slot b o z n2,λ _ _ _ n1 _=>n1,λ b o z _=>L.there b o z,λ _ _ z=>z,λ _ _ _ z=>z,λ b ps z=>⟨#[],by rw[z];simp⟩⟩;rw[z',tr] at n1;cases n1
 exact I.call (g':=s.gens) (t':=s.toks) (d':=s.drawn) (ch:=Fe vs[1]?) U hok I.bare λ b hb=>by
   have g:=(old b ((hch b).mp hb)).1;refine⟨.inr (zAn O.st g),Nat.ne_of_gt (zAg O.loc g),λ x c e=>zAr (zAg (O.cell x c e) g),λ p hp=>zAr (zAg (O.pin p hp) g)⟩
end
def Lands(X:Cx)(E:XK):Prop:=∀(D6:List (Addr×Obj))(σ:St)(H:Hp)(s:Shared)(a:Addr)(n:Nat),Inv X D6 σ H s->Fly n H s.heap a->Old X D6 n->E (.ref a) none H->X.xe (.ref a) s
theorem Lands.passes{X:Cx}{E:XK}(h:Lands X E):qG0 (CX1 X.prog X.w) X E:=λ D6 σ H s e s' I q=>by
 obtain⟨a,H',rfl,o1,o2,u,ok,F,q⟩:=q;exact h D6 σ H' s' a _ (I.call' (ch:=[]) o1 u ok o2 λ _ z=>nomatch z) F I.old q
theorem qa1{P:Program}{w:World}{K:PySem.W.Frag}{mg:Str->Option Value}{base:Heap}{N:List Str}{qual:Str}{scope:Scope}{f:Addr}{cd:Value}{A:Around}{outer:List Env}{s₀:Shared}{H₀:Hp}{E:XK} :
   Lands (Dn (CX1 P w) P w K mg base N qual scope f cd A outer s₀ H₀ E) E:=λ D6 σ H s a n I F O q=>by
 obtain⟨oe,vs,h1,h2,h3,h4⟩:=id F.ob;show wpAny _ _ (leaving _ _) _ _ s;unfold leaving;refine wpAny_bind (qY7 (base:=base) (vs:=vs) I.ok.frames I.stack rfl h1 h2 h3 ?_ λ h' T L=>?_)
 . rcases h4 with z | ⟨T,oT,ts,z1,_,_,z2,z3,z4,z5⟩
   . exact .inl z
   exact .inr ⟨T,oT,ts,z1,z2,z3,z4,z5⟩
 obtain⟨J,F'⟩:=I.left (T:=T) F O h1 h2 L;exact⟨a,H,rfl,J.os,J.bare,J.base,J.hok,F'.mono O.st,q⟩
end L2
namespace L2
open PySem PySem.Spec PyProof.Rows PySem.SeqAt
open PySem.AutoSeq1 (wpAny_loadPart')
theorem Fun.okX{P:Program}{w:World}{K:PySem.W.Frag}{mg:Str->Option Value}{base:Heap}{x qual:Str}{st:Stmt}{f:Addr}{fd:FuncData}{N ps:List Str}{k:Nat}{sp:Sp}(F:Fun K x qual st f fd)(S:qa9 N ps (qa3 st))(len:∀ vs H Q E,sp vs H Q E->vs.length=ps.length)(hbody:∀(cdv:Value)(A:Around)(outer:List Env)(s:Shared)(H:Hp)(vs:List V)(Q:VK)(E:XK),Room k (A.deeper (envOfC qual (qa3 st) s.heap.objs.size f cdv))->sp vs H Q E ->
     ∃ t,PSs (Dn (CX1 P w) P w K mg base N qual (qa3 st) f cdv A outer s H E) (qc6 st) t/\t { nx:=λ _ H'=>Q .non H',rt:=Q } (start N vs) H):By P w K mg base (CX1 P w) (k+1) f fd ps sp:=by
 obtain⟨oc,od,kV,doc,pm,an,cdv,ct,osl,rfl,lk,hcd⟩:=F.ex;exact Hd lk hcd S len λ A outer s H vs Q E hr hsp=>hbody cdv A outer s H vs Q E hr hsp
end L2
namespace L2
open PySem PySem.Spec PyProof.Rows
variable{xs:List V}
section
variable{X:Cx}{D6:List (Addr×Obj)}{σ:St}{H:Hp}{s:Shared}{h':Heap}
theorem Inv.turnedL{t':Nat}{ch:List Addr}(I:Inv X D6 σ H s)(k:∀ b o,b∉ch->s.heap.get? b=some o->h'.get? b=some o)(hf:∀ b∈ch,E8 X D6 H b):Inv X D6 σ H { s with heap:=h',toks:=t' }:=by
 have nit:∀ b u,H b=some u->b∉ch:=λ b u e z=>by rw[(hf b z).1] at e;cases e
 refine I.step (g':=s.gens) (d':=s.drawn) (ch:=ch) (λ b hb=>?_) (λ b o _ _ hc e _=>k b o hc e) (λ b o _ _ hc e _=>⟨o.slots,k b o hc e⟩) (λ _ _ _ _ n=>n)
   (λ b o hc e=>⟨o,k b o hc e⟩) (λ _ _ e=>e) (λ _ _ _ e=>e) (λ b ps e=>⟨#[],by rw[e];simp⟩) (λ m hm=>?_) (λ b u e=>?_) I.bare
 . obtain⟨f0,f1,f2,f3,f4,f5⟩:=hf b hb
   exact⟨f3,f1,f4,f5⟩
 . obtain⟨o,es,ep,ho,r⟩:=hm
   exact⟨o,es,ep,k _ o (λ z=>(hf _ z).2.1 rfl) ho,r⟩
 refine(I.hok b u e).stay (λ c v hc q=>k c v ?_ q) (λ _ q=>q) λ _ _ q=>q
 rcases hc with z | z
 . rw[z];exact nit b u e
 exact nit c _ z
end
def Ite(K:PySem.W.Frag)(a:Addr):It :=
 ⟨λ i H=>∃ xs x,SqL K H a xs/\xs[i]? = some x,λ i H x H'=>∃ t y,x=.ref t/\H t=none/\H'=upd H t (.tup [.int (i:Int),y])/\∀ xs,SqL K H a xs->xs[i]? = some y,λ i H=>∃ xs,SqL K H a xs/\xs.length<=i⟩
theorem qac9{P:Program}{w:World}{K:PySem.W.Frag}{elts:List Expr}{x1:Nat}{pos:Pos}(a it e:Addr)(hne:e≠it):G9 P w K (.Tuple elts x1 pos) (Ite K a) [e,it] e (λ i h=>(∃ old,IsEnum h e it (i:Nat) old)/\h.IsListIter it a i) where
 mem:=by simp
 obj:=λ i h st b hb=>by
   obtain⟨⟨old,he⟩,o,ho,hc,hd⟩:=st;rcases zAm.mp hb with rfl | hb
   . exact⟨_,he,λ v z=>by
       have z':Data.fields _=Data.cell v:=z;cases z'⟩
   rw[zA8.mp hb];exact⟨o,ho,λ v z=>by rw[hd] at z;cases z⟩
 keep:=λ i h h' st k=>by
   obtain⟨⟨old,he⟩,st⟩:=st;exact⟨⟨old,k e (by simp) _ he⟩,st.at λ o q=>k it (by simp) o q⟩
 item:=by
   intro X hP hw hK hc i D6 s σ H E I hf st hg;subst hP hw hK;obtain⟨xs,x,hq,hx⟩:=hg;obtain⟨⟨old,he⟩,hit⟩:=st;obtain⟨its,rv,p,hz⟩:=I.list hq;obtain⟨u,hu,ru⟩:=rv.get hx;have hfr:H s.heap.objs.size=none:=I.hok.fresh (zA2 _);obtain⟨oi,hoi,_⟩:=id hit;have lt1:e < s.heap.objs.size:=zAc he;have lt2:it < s.heap.objs.size:=zAc hoi;refine wpAny_pyNext_enum_item he hit p.isList (x:=u) (by simpa using hu) hne λ h1 heo hit1 ht1 hz1 hk1=>?_
   refine⟨_,rfl,wpAny_letOwnedTupleGo_enum (s:={ s with heap:=h1,toks:=s.toks+1 }) heo λ h2 he2 hs2=>?_⟩
   replace hs2:Heap.SameBut e h1 h2:=hs2
   have I0:Inv X D6 σ (upd H s.heap.objs.size (.tup [.int (i:Int),x])) { s with heap:=s.heap.push { cls:=.type "tuple",data:=.seq #[.int i s.toks,u] },toks:=s.toks+1 } :=
     I.laid (λ b o q=>zA3 _ q) (zA2 _) ⟨by show 2<=sizeLine;decide,[.int i s.toks,u],.cons ⟨_,rfl⟩ (.cons ru .nil),⟨_,zB0 _ rfl,rfl,_,rfl⟩⟩
   have I2:Inv X D6 σ (upd H s.heap.objs.size (.tup [.int (i:Int),x])) { s with heap:=h2,toks:=s.toks+1 }:=by
     refine Inv.turnedL (s:={ s with heap:=s.heap.push { cls:=.type "tuple",data:=.seq #[.int i s.toks,u] },toks:=s.toks+1 }) (h':=h2) (ch:=[e,it]) (t':=s.toks+1) I0 (λ b o hb q=>?_) (λ b hb=>?_)
     . have nb1:b≠e:=λ z=>hb (by simp[z])
       have nb2:b≠it:=λ z=>hb (by simp[z])
       refine hs2.extBut b o nb1 ?_;rcases Heap.get?_push_cases (show (s.heap.push { cls:=.type "tuple",data:=.seq #[.int i s.toks,u] }).get? b=some o from q) with⟨rfl,rfl⟩ | q
       . exact ht1
       exact hk1 b o nb1 nb2 q
     refine⟨?_,(hf b hb).2⟩;have hb':b < s.heap.objs.size:=by
       rcases zAm.mp hb with rfl | hb
       . exact lt1
       rw[zA8.mp hb];exact lt2
     rw[qc7 (zAr hb')];exact(hf b hb).1
   refine⟨.ref s.heap.objs.size,_,I2,rfl,⟨_,x,rfl,hfr,rfl,λ ys hy=>by rw[I.list_inj hy hq];exact hx⟩,⟨⟨u,?_⟩,?_⟩,λ b hb=>?_⟩
   . have:((i+1:Nat):Int)=(i:Int)+1:=by push_cast;rfl
     rw[this];exact he2
   . exact hit1.extBut hs2.extBut (Ne.symm hne)
   have hb':b < s.heap.objs.size:=by
     rcases zAm.mp hb with rfl | hb
     . exact lt1
     rw[zA8.mp hb];exact lt2
   rw[qc7 (zAr hb')];exact(hf b hb).1
 done:=by
   intro X hP hw hK hc i D6 s σ H E I hf st hg;subst hP hw hK;obtain⟨xs,hq,hx⟩:=hg;obtain⟨⟨old,he⟩,hit⟩:=st;obtain⟨its,rv,p,hz⟩:=I.list hq;obtain⟨f0,f1,f2,f3,f4,f5⟩:=hf it (by simp);have hl:=rv.length;exact wpAny_pyNext_enum_end (I.ok.hd hc) he hit p.isList (by simp;lia) λ h' eb=>⟨rfl,I.turned (t':=s.toks) (λ b o hb q=>eb b o hb q) f0 f1 f3 f4 f5⟩
 self:=λ _ _ _ _ _ st h=>by
   obtain⟨⟨old,he⟩,_⟩:=st;exact wpAny_pyIter_enum he h
section
variable{X:Cx}
def iEnum(K:PySem.W.Frag)(ta:TA):TI:=λ σ H R=>ta σ H λ vs H1=>∃ a,vs=[.ref a]/\(∃ xs,SqL K H1 a xs)/\R (Ite K a) H1
theorem qay3{l:Expr}{ta:TA}{elts:List Expr}{x1:Nat}{p pos tpos:Pos}(hg:Gl X "enumerate")(hm:X.mg "enumerate" = none)(ha:PA X [l] ta)(hs:starEach [l] X.env=[(false,eval l X.env)]:=by rfl):PI X (.Tuple elts x1 tpos) (.Call (.Name "enumerate" p) [l] [] pos) (iEnum X.K ta):=by
 intro D6 s σ H R I h;refine Call_ (qY9 I hg hm boot_enumerate (PyProof.Rows.callWith_type1 (thn (ha pos D6 s σ H _ I h) λ us s1 ⟨vs,H1,I1,r1,q1⟩=>?_) hs rfl));obtain⟨a,e,⟨xs,hq⟩,q⟩:=q1;subst e;cases r1 with
 | cons r rr =>
   cases rr;cases r;obtain⟨its,rv,pl,hz⟩:=I1.list hq;refine call_enumerate_list pl.isList λ h' hE hI hsz hk=>?_
   refine wpAny_pyIter_enum hE ?_;refine⟨s1.heap.objs.size+1,[s1.heap.objs.size+1,s1.heap.objs.size],_,_,H1,rfl,I1.kept (t':=s1.toks) hk,qac9 a s1.heap.objs.size (s1.heap.objs.size+1) (Nat.succ_ne_self _),⟨⟨_,hE⟩,hI⟩,λ b hb=>?_,q⟩;have hb':s1.heap.objs.size<=b:=by
     rcases zAm.mp hb with rfl | hb
     . exact Nat.le_succ _
     rw[zA8.mp hb];exact zA2 _
   exact I1.fpOk hb' (I1.hok.fresh hb')
end
section
variable{X:Cx}
def qaw8:V->List V->Hp->VK->Prop:=λ x vs H Q=>∃ l xs y j z,x=.ref l/\vs=[y]/\H l=some (.lst xs)/\flatV y=true/\xs.all flatV=true/\xs[j]? = some z/\eqV z y=true/\(∀ m z',m < j->xs[m]? = some z'->eqV z' y=false)/\Q (.int (j:Nat)) H
theorem Vals.getU{us:List Value}(r:Vals xs us){j:Nat}{u:Value}(h:us[j]? = some u):∃ x,xs[j]? = some x/\RelV x u:=by
 have hl:=r.length;have hj:j < us.length:=(zA5.mp h).1;obtain⟨u',hu',ru⟩:=r.get (show xs[j]? = some xs[j] by simp);rw[h] at hu';cases hu';exact⟨_,by simp,ru⟩
theorem qA8:MtM X "list.index" qaw8:=by
 intro D6 s σ H x vs v us Q I rx rv h;obtain⟨l,xs,y,j,zj,rfl,rfl,hH,fy,fs,hj,hit,hno,q⟩:=h;cases rx;obtain⟨u,rfl,ru⟩:=rv.one;obtain⟨z,its,n,r,hl,e⟩:=I.lstM hH;have hlt:j < xs.length:=(zA5.mp hj).1;have hlen:=r.length;have small:((j:Nat):Int) < 2 ^ 63 - 1:=by
   have:sizeLine < 2 ^ 62:=by decide
   lia
 have eqAt:∀ m (hm:m < its.toArray.size),∃ x,xs[m]? = some x/\eqU y its.toArray[m]=eqV x y:=λ m hm=>by
   have hm':m < its.length:=by simpa using hm
   obtain⟨x,hx,rx⟩:=r.getU (show its[m]? = some its[m] by simp);have fx:flatV x=true:=zBe.mp fs x (zBa hx);refine⟨x,hx,?_⟩
   have:=qah1 (x:=y) rx fx
   simpa using this
 have hja:j < its.toArray.size:=by simp;lia
 refine call_meets F.slot_list_index ⟨_,e,rfl⟩ F.entry_list_index (F.args_list_index_2 _ _) (SeqAt.list_indexAt l its.toArray n none #[] u (eqU y) j hja small ?_ ?_) ⟨e,λ w hw=>ql2 ru fy r fs w (by simpa using hw),⟨.int (j:Nat),H,I.tok _,⟨_,rfl⟩,q⟩⟩
 . obtain⟨x,hx,ex⟩:=eqAt j hja
   rw[hj] at hx;cases hx;rw[ex];exact hit
 intro m hm hmj;obtain⟨x,hx,ex⟩:=eqAt m hm;rw[ex];exact hno m x hmj hx
def qax0:V->List V->Hp->VK->Prop:=λ x vs H Q=>∃ l xs y,x=.ref l/\vs=[y]/\H l=some (.lst xs)/\flatV y=true/\xs.all flatV=true/\Q (.int (xs.countP (λ z=>eqV z y):Nat)) H
theorem qP4{x:V}:∀{xs:List V}{us:List Value},Vals xs us->xs.all flatV=true->us.countP (eqU x)=xs.countP λ y=>eqV y x
 | _,_,.nil,_=>rfl
 | y::xs,u::us,.cons r t,f=>by
   rw[List.all_cons,zBg] at f;rw[List.countP_cons,List.countP_cons,qah1 r f.1,qP4 t f.2]
theorem qar6:MtM X "list.count" qax0:=by
 intro D6 s σ H x vs v us Q I rx rv h;obtain⟨l,xs,y,rfl,rfl,hH,fy,fs,q⟩:=h;cases rx;obtain⟨u,rfl,ru⟩:=rv.one;obtain⟨z,its,n,r,hl,e⟩:=I.lstM hH;refine call_meets F.slot_list_count ⟨_,e,rfl⟩ F.entry_list_count (F.args_list_count_2 _ _) (SeqAt.list_countAt l its.toArray n none #[] u (eqU y)) ⟨e,λ w hw=>ql2 ru fy r fs w (by simpa using hw),⟨.int _,H,I.tok _,⟨_,rfl⟩,?_⟩⟩;rw[show its.toArray.toList.countP (eqU y)=its.countP (eqU y) by simp,qP4 r fs];exact q
end
theorem qaL7{K:PySem.W.Frag}{a:Addr}{g:TG}{tb:TS}{D:Dl}{σ:St}{H:Hp}(Pv:Nat->St->Hp->Prop)(h0:Pv 0 σ H)(hl:∀ i σ H,i<=xs.length->Pv i σ H->SqL K H a xs)(hs:∀(i:Nat) x σ H t,xs[i]? = some x->Pv i σ H->H t=none->g (.ref t) σ (upd H t (.tup [.int (i:Int),x])) λ σ2 H2=>tb { D with nx:=Pv (i+1),ct:=Pv (i+1),bk:=D.nx } σ2 H2)(hd:∀ σ H,Pv xs.length σ H->D.nx σ H) :
   ∃ W:Nat->Nat->St->Hp->Prop,(∃ m,W 0 m σ H)/\∀ i m σ H,W i m σ H ->
     ((Ite K a).stop i H/\D.nx σ H)∨((Ite K a).go i H/\∃ N:St->Hp->Prop,(∀ σ' H',N σ' H'->∃ m',m' < m/\W (i+1) m' σ' H')/\∀ x H',(Ite K a).yld i H x H'->g x σ H' λ σ2 H2=>tb { D with nx:=N,ct:=N,bk:=D.nx } σ2 H2):=by
 refine⟨λ i m σ H=>m=xs.length - i/\i<=xs.length/\Pv i σ H,⟨xs.length,by simp,zBt _,h0⟩,?_⟩;rintro i m σ H ⟨rfl,hi,p⟩;have q:=hl i σ H hi p;by_cases hlt:i < xs.length
 . refine .inr ⟨⟨xs,xs[i],q,by simp[hlt]⟩,Pv (i+1),λ σ' H' p'=>⟨xs.length - (i+1),by lia,rfl,hlt,p'⟩,λ x H' y=>?_⟩
   obtain⟨t,y',e,ht,e',hy⟩:=y;subst e e';exact hs i y' σ _ t (hy xs q) p ht
 have e:i=xs.length:=by lia
 subst e;exact .inl ⟨⟨xs,q,zA2 _⟩,hd σ H p⟩
theorem qah8{K:PySem.W.Frag}{a D:Addr}{g:TG}{tf:TT}{te:TE}{R:Hp->Prop}{σ:St}{H:Hp}(Pv:Nat->St->Hp->Prop)(h0:Pv 0 σ H)(hl:∀ i σ H,i<=xs.length->Pv i σ H->SqL K H a xs)(hs:∀(i:Nat) x σ H t,xs[i]? = some x->Pv i σ H->H t=none->g (.ref t) σ (upd H t (.tup [.int (i:Int),x])) λ σ2 H2=>tf σ2 H2 λ ok H3=>if ok=true then te σ2 H3 λ v H4=>∃ ys,H4 D=some (.lst ys)/\ys.length < sizeLine/\Pv (i+1) σ2 (upd H4 D (.lst (ys++[v]))) else Pv (i+1) σ2 H3)(hd:∀ σ H,Pv xs.length σ H->R H) :
   qC6 (Ite K a) g tf te D R σ H:=by
 refine⟨λ i m σ H=>m=xs.length - i/\i<=xs.length/\Pv i σ H,⟨xs.length,by simp,zBt _,h0⟩,?_⟩;rintro i m σ H ⟨rfl,hi,p⟩;have q:=hl i σ H hi p;by_cases hlt:i < xs.length
 . refine .inr ⟨⟨xs,xs[i],q,by simp[hlt]⟩,Pv (i+1),λ σ' H' p'=>⟨xs.length - (i+1),by lia,rfl,hlt,p'⟩,λ x H' y=>?_⟩
   obtain⟨t,y',e,ht,e',hy⟩:=y;subst e e';exact hs i y' σ _ t (hy xs q) p ht
 have e:i=xs.length:=by lia
 subst e;exact .inl ⟨⟨xs,q,zA2 _⟩,hd σ H p⟩
end L2
namespace L2
open PySem PySem.Spec PyProof.Rows PySem.SeqAt
end L2
namespace L2
open PySem PySem.Spec PyProof.Rows
def qas3:List String:=["NoneType", "bool", "int", "str", "list", "tuple", "dict"]
structure IsO(K:PySem.W.Frag)(C:Addr):Prop where
 ca:PySem.W.findIn K (.ref C) "__class__" = some (some (.builtin "object.__class__"))
 cn:PySem.W.specialIn K (.builtin "object.__class__") "__get__" = some (some (.builtin "getset_descriptor.__get__"))
 ct:PySem.W.takesIn K (.builtin "object.__class__")=some true
 cm:PySem.W.mroIn K C (.type "object")=some true
 kf:∀ t∈qas3,PySem.W.kitOne K (.type t) (.ref C)=some false
theorem kf_of{K:PySem.W.Frag}{C:Addr}(h1:PySem.W.kitOne K (.type "NoneType") (.ref C)=some false)(h2:PySem.W.kitOne K (.type "bool") (.ref C)=some false)(h3:PySem.W.kitOne K (.type "int") (.ref C)=some false)(h4:PySem.W.kitOne K (.type "str") (.ref C)=some false)(h5:PySem.W.kitOne K (.type "list") (.ref C)=some false)(h6:PySem.W.kitOne K (.type "tuple") (.ref C)=some false)(h7:PySem.W.kitOne K (.type "dict") (.ref C)=some false) :
   ∀ t∈qas3,PySem.W.kitOne K (.type t) (.ref C)=some false:=by
 intro t ht;unfold qas3 at ht;simp only[zAm,zBv,or_false] at ht;rcases ht with rfl | rfl | rfl | rfl | rfl | rfl | rfl<;>assumption
section
variable{X:Cx}
def rIsO(C:Addr):List V->Hp->VK->Prop:=λ xs H Q=>∃ x,xs=[x,.ref C]/\((∃ a dx fs,x=.ref a/\H a=some (.ins C dx fs)/\Q (.bl true) H)∨(∃ t,B6 H x=some t/\Q (.bl false) H))
theorem qau4{C:Addr}(io:IsO X.K C)(cl:Cls X.K C):CallR X (.builtin "isinstance") (rIsO C):=by
 intro D6 s σ H xs us Q I r h;obtain⟨x,rfl,h⟩:=h;obtain⟨u,w',rfl,ru,rw'⟩:=Gc r;cases rw';rcases h with⟨a,dx,fs,rfl,ha,q⟩ | ⟨t,hk,q⟩
 . have e:PySem.W.kitOne X.K (.ref C) (.ref C)=some true:=by
     unfold PySem.W.kitOne;rw[if_pos (by simp)]
   exact qB4 I ru (.ins ha cl io.ca io.cn io.ct io.cm) e λ tk=>⟨.bl true,H,I.tok tk,rfl,q⟩
 obtain⟨ty,ht⟩:=qZ1 (K:=X.K) hk;exact qB4 I ru ty (io.kf t ht) λ tk=>⟨.bl false,H,I.tok tk,rfl,q⟩
theorem qaH8{x:Str}(C:Addr){pos:Pos}(hm:X.mg x=some (.ref C))(hg:Gl X x:=by rfl)(hd:(x == ("__debug__" : Str))=false:=by decide):PE X (.Name x pos) (tC (.ref C)):=qak6 hg hm rfl hd
end
end L2
namespace Row
variable{a i j q s t:Nat}{g':Nat->Option Int}{x y:Int}
def Ad(n h r:Nat):Nat:=if h<=r then r - h else r+n - h
def A8(n r:Nat):Nat:=if r=0 then n - 1 else r - 1
def next(n r:Nat):Nat:=if r+1=n then 0 else r+1
def A4(n:Nat)(hm:Int->Nat)(r:Nat)(x y:Int):Prop:=Ad n (hm y) r < Ad n (hm x) r∨(Ad n (hm x) r=Ad n (hm y) r/\x < y)
theorem qp2{n:Nat}{hm:Int->Nat}{r:Nat}{z:Int}(h:A4 n hm r x y)(h':A4 n hm r y z):A4 n hm r x z:=by
 unfold A4 at *;lia
theorem qF8{n:Nat}{hm:Int->Nat}{r:Nat}(h:A4 n hm r x y)(h':A4 n hm r y x):False:=by
 unfold A4 at *;lia
theorem qai8{n:Nat}{hm:Int->Nat}{r:Nat}(h:A4 n hm r x x):False:=qF8 h h
theorem qai7{n:Nat}{hm:Int->Nat}{r:Nat}(h:x≠y)(h':¬ A4 n hm r x y):A4 n hm r y x:=by
 unfold A4 at *;lia
theorem qi4{n r:Nat}(h:r < n):next n r < n:=by unfold next;split<;>lia
theorem qp3{n r:Nat}(h:r < n):A8 n r < n:=by unfold A8;split<;>lia
theorem qh8{n r:Nat}(h:r < n):A8 n (next n r)=r:=by unfold A8 next;split<;>split<;>lia
theorem qA7{n r:Nat}(h:r < n):next n (A8 n r)=r:=by unfold A8 next;split<;>split<;>lia
theorem qk4{n r:Nat}(h:r < n)(ha:a < n):Ad n a r < n:=by unfold Ad;split<;>lia
theorem qi2{n r:Nat}(ha:a < n)(h:r < n)(h':s < n)(e:Ad n a r=Ad n a s):r=s:=by
 unfold Ad at e;split at e<;>split at e<;>lia
theorem qb7{n r:Nat}(ha:a < n)(h:r < n):Ad n a r=0↔r=a:=by unfold Ad;split<;>lia
theorem qd9{n r:Nat}(ha:a < n)(h:r < n)(hd:0 < Ad n a r):Ad n a (A8 n r)=Ad n a r - 1:=by
 unfold Ad A8 at *;split at hd<;>split<;>split<;>lia
theorem qi1{n r:Nat}(ha:a < n)(h:r < n)(hd:Ad n a r+1 < n):Ad n a (next n r)=Ad n a r+1:=by
 unfold Ad next at *;split at hd<;>split<;>split<;>lia
theorem nor(n s:Nat):(s+1=n/\next n s=0)∨(s+1≠n/\next n s=s+1):=by unfold next;split<;>lia
theorem por(n s:Nat):(s=0/\A8 n s=n - 1)∨(s≠0/\A8 n s=s - 1):=by unfold A8;split<;>lia
theorem dor(n a r:Nat):(a<=r/\Ad n a r+a=r)∨(r < a/\(a<=r+n->Ad n a r+a=r+n)):=by
 unfold Ad;split<;>lia
theorem D8{n:Nat}(ha:a < n)(hi:i < n)(hs:s < n)(h:Ad n a i<=Ad n a s):Ad n a i+Ad n i s=Ad n a s:=by
 have d1:=dor n a i;have d2:=dor n a s;have d3:=dor n i s;lia
theorem qT5{n:Nat}(ha:a < n)(hs:s < n)(ht:t < n)(h:Ad n a s < Ad n a t):Ad n t s+Ad n a t=n+Ad n a s:=by
 have d1:=dor n a s;have d2:=dor n a t;have d3:=dor n t s;lia
theorem qaM5{n:Nat}(hs:s < n):Ad n (next n s) s+1=n:=by
 have d1:=dor n (next n s) s;have d2:=nor n s;lia
theorem qah3{n b:Nat}(ha:a < n)(hb:b < n)(hj:j < n)(hi:i < n)(h1:Ad n a i<=Ad n a j)(h2:Ad n a j<=Ad n b j):Ad n b i+(Ad n a j - Ad n a i)=Ad n b j:=by
 have e1:=D8 ha hi hj h1;have l1:=qk4 hi hb;rcases Nat.lt_or_ge (Ad n b j) (Ad n b i) with h3 | h3
 . have:=qT5 hb hj hi h3
   lia
 have:=D8 hb hi hj h3
 lia
structure Ord(n:Nat)(hm:Int->Nat)(g:Nat->Option Int):Prop where
 home:∀ k,hm k < n
 inj:∀ i j k,i < n->j < n->g i=some k->g j=some k->i=j
 ord:∀ i k,i < n->g i=some k->0 < Ad n (hm k) i->∃ x,g (A8 n i)=some x/\A4 n hm (A8 n i) x k
def Gx(n:Nat)(hm:Int->Nat)(g:Nat->Option Int):Prop:=∃ i,i < n/\∀ k,g i=some k->hm k=i
theorem Ord.path{n:Nat}{hm:Int->Nat}{g:Nat->Option Int}(O:Ord n hm g):∀(m j i:Nat)(z:Int),j < n->i < n->g j=some z->Ad n (hm z) i+m+1=Ad n (hm z) j->∃ x,g i=some x/\A4 n hm i x z
 | 0,j,i,z,hj,hi,hz,e=>by
   have h1:0 < Ad n (hm z) j:=by lia
   obtain⟨x,hx,ax⟩:=O.ord j z hj hz h1
   have:=qd9 (O.home z) hj h1
   have e1:i=A8 n j:=qi2 (O.home z) hi (qp3 hj) (by lia);rw[e1];exact⟨x,hx,ax⟩
 | m+1,j,i,z,hj,hi,hz,e=>by
   have h1:0 < Ad n (hm z) j:=by lia
   obtain⟨x,hx,ax⟩:=O.ord j z hj hz h1;have h2:=qd9 (O.home z) hj h1;have hp:=qp3 hj;have h3:Ad n (hm z) (A8 n j)<=Ad n (hm x) (A8 n j):=by unfold A4 at ax;lia
   have h4:=qah3 (O.home z) (O.home x) hp hi (by lia) h3;obtain⟨y,hy,ay⟩:=O.path m (A8 n j) i x hp hi hx (by lia);refine⟨y,hy,qp2 ay ?_⟩;unfold A4 at *;lia
theorem Ord.path'{n:Nat}{hm:Int->Nat}{g:Nat->Option Int}(O:Ord n hm g){z:Int}(hj:j < n)(hi:i < n)(hz:g j=some z)(h:Ad n (hm z) i < Ad n (hm z) j):∃ x,g i=some x/\A4 n hm i x z :=
 O.path (Ad n (hm z) j - Ad n (hm z) i - 1) j i z hj hi hz (by lia)
def Es(n:Nat)(hm:Int->Nat)(g:Nat->Option Int)(s:Nat):Prop:=∀ j z,j < n->g j=some z->Ad n (hm z) j<=Ad n (hm z) s
theorem Ord.zero{n:Nat}{hm:Int->Nat}{g:Nat->Option Int}(O:Ord n hm g)(C:Gx n hm g):∃ s,s < n/\Es n hm g s:=by
 obtain⟨i,hi,hc⟩:=C;have hp:=qp3 hi;refine⟨A8 n i,hp,λ j z hj hz=>zC7 λ hlt=>?_⟩;have hz1:=O.home z;by_cases h0:Ad n (hm z) i=0
 . have e:=(qb7 hz1 hi).mp h0
   have:=qk4 hj hz1
   have e2:Ad n (hm z) (A8 n i)=n - 1:=by
     unfold Ad A8 at *
     split<;>split<;>lia
   lia
 have h1:=qd9 hz1 hi (by lia);by_cases hij:Ad n (hm z) i=Ad n (hm z) j
 . have e:i=j:=qi2 hz1 hi hj hij
   subst e
   have:=hc z hz
   rw[this,(qb7 hi hi).mpr rfl] at h0;exact h0 rfl
 obtain⟨x,hx,ax⟩:=O.path' hj hi hz (by lia);have e:=hc x hx
 have:Ad n (hm x) i=0:=(qb7 (O.home x) hi).mpr e.symm
 unfold A4 at ax;lia
theorem qO5{α:Type}[DecidableEq α](x:α):∀(S:List α),S.Nodup->S.length<=(S.filter (λ y=>decide (y≠x))).length+1
 | [],_=>by simp
 | a::S,h=>by
   have hn:=zCb.mp h;by_cases e:a=x
   . subst e
     have:S.filter (λ y=>decide (y≠a))=S:=List.filter_eq_self.mpr λ y hy=>by
       simp only[ne_eq,zB5];intro z;subst z;exact hn.1 hy
     rw[zC6 (by simp),this];simp
   rw[zC4 (by simpa using e)]
   have:=qO5 x S hn.2
   simp only[zAk];lia
theorem ql5{α:Type}[DecidableEq α](x:α):∀(S:List α),x∈S->(S.filter (λ y=>decide (y≠x))).length+1<=S.length
 | [],h=>by simp at h
 | a::S,h=>by
   by_cases e:a=x
   . rw[zC6 (by simp[e])]
     have:=List.length_filter_le (λ y=>decide (y≠x)) S
     simp only[zAk];lia
   rw[zC4 (by simpa using e)]
   have:=ql5 x S (by rcases zAm.mp h with z | z;exact absurd z.symm e;exact z)
   simp only[zAk];lia
theorem qx7{g:Nat->Option Int}:∀(L:List Nat)(S:List Int),S.Nodup->(∀ k∈S,∃ i∈L,g i=some k)->S.length<=L.length
 | [],S,_,h=>by
   cases S with
   | nil=>simp
   | cons k _=>obtain⟨i,hi,_⟩:=h k (by simp);simp at hi
 | i::L,S,hn,h=>by
   cases hg:g i with
   | none =>
     have:=qx7 L S hn λ k hk=>by
       obtain⟨j,hj,e⟩:=h k hk;rcases zAm.mp hj with z | z
       . rw[z,hg] at e;cases e
       exact⟨j,z,e⟩
     simp only[zAk];lia
   | some x =>
     have h1:=qx7 L (S.filter (λ y=>decide (y≠x))) (hn.filter _) λ k hk=>by
       obtain⟨hk,hkx⟩:=zAw.mp hk;obtain⟨j,hj,e⟩:=h k hk;rcases zAm.mp hj with z | z
       . rw[z,hg] at e
         have e':x=k:=Option.some.inj e;rw[e'] at hkx;simp at hkx
       exact⟨j,z,e⟩
     have h2:=qO5 x S hn;simp only[zAk];lia
theorem qM8{g:Nat->Option Int}:∀(L:List Nat)(S:List Int),L.Nodup->(∀ i∈L,∃ k∈S,g i=some k)->(∀ i∈L,∀ j∈L,∀ k,g i=some k->g j=some k->i=j)->L.length<=S.length
 | [],S,_,_,_=>by simp
 | i::L,S,hn,h,inj=>by
   obtain⟨x,hx,hg⟩:=h i (by simp);have hn:=zCb.mp hn;have h1:=qM8 L (S.filter (λ y=>decide (y≠x))) hn.2 (λ j hj=>by
     obtain⟨k,hk,e⟩:=h j (zA6 _ hj);refine⟨k,zAw.mpr ⟨hk,?_⟩,e⟩;simp only[ne_eq,zB5];intro z;subst z
     have:=inj i (by simp) j (zA6 _ hj) k hg e
     exact hn.1 (this ▸ hj)) λ a ha b hb=>inj a (zA6 _ ha) b (zA6 _ hb)
   have h2:=ql5 x S hx;simp only[zAk];lia
def Holds(n:Nat)(g:Nat->Option Int)(S:List Int):Prop:=S.Nodup/\∀ k,k∈S↔∃ i,i < n/\g i=some k
theorem qac4{n:Nat}{hm:Int->Nat}{g:Nat->Option Int}{S:List Int}(O:Ord n hm g)(O':Ord n hm g')(C':Gx n hm g')(hS:Holds n g S)(hS':Holds n g' S)(hs:s < n)(Z:Es n hm g s):Es n hm g' s:=by
 obtain⟨s',hs',Z'⟩:=O'.zero C';intro j z hj hz;refine zC7 λ hlt=>?_
 have ex:∀ m,(∃ t,t < n/\Ad n t s<=m/\Es n hm g' t)->∃ t,t < n/\Es n hm g' t/\∀ u,u < n->Ad n u s < Ad n t s->¬ Es n hm g' u:=by
   intro m
   induction m with
   | zero =>
     rintro⟨t,ht,hd,hz⟩;exact⟨t,ht,hz,λ u _ h=>absurd h (by lia)⟩
   | succ m ih =>
     rintro⟨t,ht,hd,hz⟩;by_cases hq:∃ u,u < n/\Ad n u s<=m/\Es n hm g' u
     . exact ih hq
     exact⟨t,ht,hz,λ u hu h zu=>hq ⟨u,hu,by lia,zu⟩⟩
 obtain⟨t,ht,Zt,near⟩:=ex (Ad n s' s) ⟨s',hs',zA2 _,Z'⟩
 let arc:Nat->Bool:=λ r=>decide (Ad n r s < Ad n t s)
 have arcOf:∀ r,arc r=true↔Ad n r s < Ad n t s:=λ r=>decide_eq_true_iff
 have hz0:=O'.home z;have zt:=Zt j z hj hz;have Dz:Ad n (hm z) s < Ad n t s:=by
   have e1:=qT5 hz0 hs ht (zAg hlt zt);have e2:=qk4 ht hz0;lia
 have Dj:¬ Ad n j s < Ad n t s:=by
   have e1:=qT5 hz0 hs ht (zAg hlt zt);have e2:=qT5 hz0 hs hj hlt;lia
 have zS:z∈S.filter (λ k=>arc (hm k)):=zAw.mpr ⟨(hS'.2 z).mpr ⟨j,hj,hz⟩,(arcOf _).mpr Dz⟩;have p1:(S.filter (λ k=>arc (hm k))).length<=((List.range n).filter arc).length:=by
   refine qx7 (g:=g) _ _ (hS.1.filter _) λ k hk=>?_
   obtain⟨hk,ak⟩:=zAw.mp hk;obtain⟨i,hi,gi⟩:=(hS.2 k).mp hk;have ak:=(arcOf _).mp ak;have zk:=Z i k hi gi;have hk0:=O.home k;refine⟨i,zAw.mpr ⟨zAv.mpr hi,(arcOf _).mpr ?_⟩,gi⟩;have e1:=D8 hk0 hi hs zk;lia
 have p2:((List.range n).filter arc).length<=((S.filter (λ k=>arc (hm k))).filter (λ y=>decide (y≠z))).length:=by
   refine qM8 (g:=g') _ _ (List.nodup_range.filter _) (λ i hi=>?_) λ a ha b hb k=>O'.inj a b k (zAv.mp (zAw.mp ha).1) (zAv.mp (zAw.mp hb).1)
   obtain⟨hi,ai⟩:=zAw.mp hi;have hi:=zAv.mp hi;have ai:=(arcOf _).mp ai;have nz:=near i hi ai;obtain⟨k,gk⟩:∃ k,g' i=some k:=by
     cases e:g' i with
     | some k=>exact⟨k,rfl⟩
     | none =>
       refine absurd (λ j' y hj' hy=>zC7 λ hlt'=>?_) nz;obtain⟨x,hx,_⟩:=O'.path' hj' hi hy hlt';rw[e] at hx;cases hx
   have ki:=Zt i k hi gk;have hk0:=O'.home k;refine⟨k,zAw.mpr ⟨zAw.mpr ⟨(hS'.2 k).mpr ⟨i,hi,gk⟩,(arcOf _).mpr ?_⟩,?_⟩,gk⟩
   . have l1:=qk4 ht hk0
     rcases Nat.lt_or_ge (Ad n (hm k) s) (Ad n (hm k) t) with h3 | h3
     . have:=qT5 hk0 hs ht h3
       lia
     have e1:=D8 hk0 ht hs h3;have e2:=D8 hk0 hi hs (zAn ki h3);lia
   simp only[ne_eq,zB5];intro e;subst e
   have:=O'.inj i j k hi hj gk hz
   subst this;exact Dj ai
 have p3:=ql5 z _ zS;lia
theorem qac2{n:Nat}{hm:Int->Nat}{g:Nat->Option Int}{S:List Int}(O:Ord n hm g)(O':Ord n hm g')(hS:Holds n g S)(hS':Holds n g' S)(hs:s < n)(Z:Es n hm g s)(Z':Es n hm g' s)(hj:j < n)(ih:∀ i,i < n->Ad n (next n s) i < Ad n (next n s) j->g i=g' i)(hx:g j=some x):g' j=some x:=by
 have hns:=qi4 hs;have pos:∀{f:Nat->Option Int},Es n hm f s->∀{i k},i < n->f i=some k->Ad n (next n s) (hm k)<=Ad n (next n s) i:=λ{f} Zf {i k} hi hk=>by
   have h1:=Zf i k hi hk;have hk0:=O.home k;have l1:=qaM5 hs;have l2:=qk4 hk0 hns;have e1:=D8 hns hk0 hs (by lia);refine zC7 λ h3=>?_
   have e2:=qT5 hns hi hk0 h3;lia
 have far:∀{i k},i < n->Ad n (next n s) (hm k)<=Ad n (next n s) j->Ad n (next n s) j < Ad n (next n s) i->Ad n (hm k) j < Ad n (hm k) i:=λ{i k} hi h1 h2=>by
   have hk0:=O.home k;have e1:=D8 hns hk0 hj h1;have e2:=D8 hns hk0 hi (zAn h1 (Nat.le_of_lt h2));lia
 obtain⟨j',hj',gx⟩:=(hS'.2 x).mp ((hS.2 x).mpr ⟨j,hj,hx⟩);have px:=pos Z hj hx;by_cases c1:Ad n (next n s) j' < Ad n (next n s) j
 . have e:=ih j' hj' c1
   rw[gx] at e
   have:=O.inj j' j x hj' hj e hx
   subst this;exact gx
 by_cases c2:Ad n (next n s) j'=Ad n (next n s) j
 . have e:=qi2 hns hj' hj c2
   subst e;exact gx
 exfalso;obtain⟨y,hy,ay⟩:=O'.path' hj' hj gx (far hj' px (by lia));obtain⟨i,hi,gy⟩:=(hS.2 y).mp ((hS'.2 y).mpr ⟨j,hj,hy⟩);have py:=pos Z' hj hy;by_cases c3:Ad n (next n s) i < Ad n (next n s) j
 . have e:=ih i hi c3
   rw[gy] at e
   have:=O'.inj i j y hi hj e.symm hy
   subst this;lia
 by_cases c4:Ad n (next n s) i=Ad n (next n s) j
 . have e:=qi2 hns hi hj c4
   subst e;rw[hx] at gy;cases gy;exact qai8 ay
 obtain⟨w,hw,aw⟩:=O.path' hi hj gy (far hi py (by lia));rw[hx] at hw;cases hw;exact qF8 ay aw
theorem qar0{n:Nat}{hm:Int->Nat}{g:Nat->Option Int}{S:List Int}(O:Ord n hm g)(O':Ord n hm g')(C:Gx n hm g)(C':Gx n hm g')(hS:Holds n g S)(hS':Holds n g' S):∀ j,j < n->g j=g' j:=by
 obtain⟨s,hs,Z⟩:=O.zero C;have Z':=qac4 O O' C' hS hS' hs Z;have main:∀ m j,j < n->Ad n (next n s) j < m->g j=g' j:=by
   intro m
   induction m with
   | zero=>intro j _ h;exact absurd h (by lia)
   | succ m ih =>
     intro j hj hd;have ih1:∀ i,i < n->Ad n (next n s) i < Ad n (next n s) j->g i=g' i:=λ i hi h=>ih i hi (by lia)
     cases e:g j with
     | some x=>exact(qac2 O O' hS hS' hs Z Z' hj ih1 e).symm
     | none =>
       cases e':g' j with
       | none=>rfl
       | some y =>
         have:=qac2 O' O hS' hS hs Z' Z hj (λ i hi h=>(ih1 i hi h).symm) e'
         rw[e] at this;cases this
 exact λ j hj=>main _ j hj (zC8 _)
def set(g:Nat->Option Int)(r:Nat)(c:Int):Nat->Option Int:=λ j=>if j=r then some c else g j
theorem qb4{g:Nat->Option Int}{r:Nat}{c:Int}:set g r c r=some c:=by unfold set;rw[if_pos rfl]
theorem qc9{g:Nat->Option Int}{r:Nat}{c:Int}(h:j≠r):set g r c j=g j:=by unfold set;rw[if_neg h]
structure Walk(n:Nat)(wr:Bool)(hm:Int->Nat)(T:List Int)(k:Int)(e:Nat)(g:Nat->Option Int)(c:Int)(r:Nat):Prop where
 o:Ord n hm g
 nin:∀ i,i < n->g i≠some c
 hr:r < n
 pth:∀ j,j < n->Ad n (hm c) j < Ad n (hm c) r->∃ x,g j=some x/\A4 n hm j x c
 he:e < n
 ge:g e=none
 lim:Ad n (hm k) r<=Ad n (hm k) e
 all:∀ x,x∈T↔(x=c∨∃ i,i < n/\g i=some x)
 ln:wr=false->hm k<=e/\hm c<=r/\∀ i x,i < n->g i=some x->hm x<=i
section
variable{n:Nat}{wr:Bool}{hm:Int->Nat}{T:List Int}{k:Int}{e:Nat}{g:Nat->Option Int}{c:Int}{r:Nat}
theorem Walk.lt(W:Walk n wr hm T k e g c r)(hy:g r=some y):Ad n (hm k) r < Ad n (hm k) e:=by
 have h1:=W.lim
 have:r≠e:=λ z=>by have:=W.ge;rw[<- z,hy] at this;cases this
 have h2:Ad n (hm k) r≠Ad n (hm k) e:=λ z=>this (qi2 (W.o.home k) W.hr W.he z)
 lia
theorem Walk.nx(W:Walk n wr hm T k e g c r)(hy:g r=some y):Ad n (hm k) (next n r)=Ad n (hm k) r+1:=by
 have h1:=W.lt hy;have h2:=qk4 W.he (W.o.home k);exact qi1 (W.o.home k) W.hr (by lia)
theorem way(hx:hm x < n)(hj:j < n)(he:e < n)(ge:g e=none)(hw:∀ i,i < n->Ad n (hm x) i<=Ad n (hm x) j->∃ y,g i=some y):Ad n (hm x) j+1 < n:=by
 have h1:=qk4 hj hx;have h2:=qk4 he hx;by_cases h:Ad n (hm x) e<=Ad n (hm x) j
 . obtain⟨y,q⟩:=hw e he h
   rw[ge] at q;cases q
 lia
theorem Walk.on(W:Walk n wr hm T k e g c r)(hy:g r=some y)(h:¬ A4 n hm r c y):Walk n wr hm T k e g c (next n r):=by
 have nx:=W.nx hy;have lt:=W.lt hy;have hc:=W.o.home c;have ne:c≠y:=λ z=>W.nin r W.hr (by rw[z];exact hy)
 have w:Ad n (hm c) r+1 < n:=way (g:=g) hc W.hr W.he W.ge λ i hi hd=>by
   by_cases q:Ad n (hm c) i=Ad n (hm c) r
   . rw[qi2 hc hi W.hr q];exact⟨y,hy⟩
   obtain⟨x,hx,_⟩:=W.pth i hi (by lia);exact⟨x,hx⟩
 have cn:=qi1 hc W.hr w;refine⟨W.o,W.nin,qi4 W.hr,λ j hj hd=>?_,W.he,W.ge,by lia,W.all,λ hw=>?_⟩
 . by_cases q:Ad n (hm c) j=Ad n (hm c) r
   . rw[qi2 hc hj W.hr q];exact⟨y,hy,qai7 ne h⟩
   exact W.pth j hj (by lia)
 obtain⟨l1,l2,l3⟩:=W.ln hw;refine⟨l1,?_,l3⟩;have d1:=dor n (hm k) r;have d2:=dor n (hm k) e;have d3:=nor n r
 have:=W.hr
 have:=W.he
 have:=W.o.home k
 lia
theorem Walk.swap(W:Walk n wr hm T k e g c r)(hy:g r=some y)(h:A4 n hm r c y):Walk n wr hm T k e (set g r c) y (next n r):=by
 have nx:=W.nx hy;have lt:=W.lt hy;have hc:=W.o.home c;have hyh:=W.o.home y;have ne:c≠y:=λ z=>W.nin r W.hr (by rw[z];exact hy)
 have re:e≠r:=λ z=>by have:=W.ge;rw[z,hy] at this;cases this
 have w:Ad n (hm y) r+1 < n:=way (g:=g) hyh W.hr W.he W.ge λ i hi hd=>by
   by_cases q:Ad n (hm y) i=Ad n (hm y) r
   . rw[qi2 hyh hi W.hr q];exact⟨y,hy⟩
   obtain⟨x,hx,_⟩:=W.o.path' W.hr hi hy (by lia);exact⟨x,hx⟩
 have yn:=qi1 hyh W.hr w;refine⟨⟨W.o.home,λ i j x hi hj gi gj=>?_,λ i x hi gi hd=>?_⟩,λ i hi gi=>?_,qi4 W.hr,λ j hj hd=>?_,W.he,by rw[qc9 re];exact W.ge,by lia,λ x=>?_,λ hw=>?_⟩
 . by_cases e1:i=r
   . by_cases e2:j=r
     . rw[e1,e2]
     rw[e1,qb4] at gi;rw[qc9 e2] at gj;cases gi;exact absurd gj (W.nin j hj)
   rw[qc9 e1] at gi;by_cases e2:j=r
   . rw[e2,qb4] at gj
     cases gj;exact absurd gi (W.nin i hi)
   rw[qc9 e2] at gj;exact W.o.inj i j x hi hj gi gj
 . have hp:=qp3 hi
   by_cases e1:i=r
   . subst e1
     rw[qb4] at gi;cases gi;have d:=qd9 hc hi hd;obtain⟨x,hx,ax⟩:=W.pth (A8 n i) hp (by lia)
     have:A8 n i≠i:=λ z=>by rw[z] at d;lia
     exact⟨x,by rw[qc9 this];exact hx,ax⟩
   rw[qc9 e1] at gi;obtain⟨z,hz,az⟩:=W.o.ord i x hi gi hd;by_cases e2:A8 n i=r
   . rw[e2] at hz az ⊢
     rw[hy] at hz;cases hz;exact⟨c,qb4,qp2 h az⟩
   exact⟨z,by rw[qc9 e2];exact hz,az⟩
 . by_cases e1:i=r
   . rw[e1,qb4] at gi
     exact ne (Option.some.inj gi)
   rw[qc9 e1] at gi;exact e1 (W.o.inj i r y hi W.hr gi hy)
 . by_cases q:Ad n (hm y) j=Ad n (hm y) r
   . rw[qi2 hyh hj W.hr q];exact⟨c,qb4,h⟩
   obtain⟨x,hx,ax⟩:=W.o.path' W.hr hj hy (by lia)
   have:j≠r:=λ z=>q (by rw[z])
   exact⟨x,by rw[qc9 this];exact hx,ax⟩
 . rw[W.all x]
   constructor
   . rintro (z | ⟨i,hi,gi⟩)
     . exact .inr ⟨r,W.hr,by rw[z];exact qb4⟩
     by_cases e1:i=r
     . rw[e1,hy] at gi
       exact .inl (Option.some.inj gi).symm
     exact .inr ⟨i,hi,by rw[qc9 e1];exact gi⟩
   rintro (z | ⟨i,hi,gi⟩)
   . exact .inr ⟨r,W.hr,by rw[z];exact hy⟩
   by_cases e1:i=r
   . rw[e1,qb4] at gi
     exact .inl (Option.some.inj gi).symm
   rw[qc9 e1] at gi;exact .inr ⟨i,hi,gi⟩
 obtain⟨l1,l2,l3⟩:=W.ln hw;have ly:=l3 r y W.hr hy;refine⟨l1,?_,λ i x hi gi=>?_⟩
 . have d1:=dor n (hm k) r
   have d2:=dor n (hm k) e;have d3:=nor n r
   have:=W.hr
   have:=W.he
   have:=W.o.home k
   lia
 by_cases e1:i=r
 . rw[e1,qb4] at gi
   cases gi;lia
 rw[qc9 e1] at gi;exact l3 i x hi gi
structure Kept(n:Nat)(wr:Bool)(hm:Int->Nat)(g:Nat->Option Int)(S:List Int):Prop where
 o:Ord n hm g
 c:Gx n hm g
 h:Holds n g S
 ln:wr=false->∀ i x,i < n->g i=some x->hm x<=i
theorem Walk.done(W:Walk n wr hm T k e g c r)(hT:T.Nodup)(hy:g r=none):Kept n wr hm (set g r c) T:=by
 have hc:=W.o.home c;have hnr:=qi4 W.hr;refine⟨⟨W.o.home,λ i j x hi hj gi gj=>?_,λ i x hi gi hd=>?_⟩,⟨next n r,hnr,λ x gx=>?_⟩,⟨hT,λ x=>?_⟩,λ hw=>?_⟩
 . by_cases e1:i=r
   . by_cases e2:j=r
     . rw[e1,e2]
     rw[e1,qb4] at gi;rw[qc9 e2] at gj;cases gi;exact absurd gj (W.nin j hj)
   rw[qc9 e1] at gi;by_cases e2:j=r
   . rw[e2,qb4] at gj
     cases gj;exact absurd gi (W.nin i hi)
   rw[qc9 e2] at gj;exact W.o.inj i j x hi hj gi gj
 . have hp:=qp3 hi
   by_cases e1:i=r
   . subst e1
     rw[qb4] at gi;cases gi;have d:=qd9 hc hi hd;obtain⟨x,hx,ax⟩:=W.pth (A8 n i) hp (by lia)
     have:A8 n i≠i:=λ z=>by rw[z] at d;lia
     exact⟨x,by rw[qc9 this];exact hx,ax⟩
   rw[qc9 e1] at gi;obtain⟨z,hz,az⟩:=W.o.ord i x hi gi hd;by_cases e2:A8 n i=r
   . rw[e2,hy] at hz;cases hz
   exact⟨z,by rw[qc9 e2];exact hz,az⟩
 . have hx:=W.o.home x
   by_cases e1:next n r=r
   . have:=nor n r
     have:=W.hr
     lia
   rw[qc9 e1] at gx;by_cases hd:0 < Ad n (hm x) (next n r)
   . obtain⟨z,hz,_⟩:=W.o.ord _ x hnr gx hd
     rw[qh8 W.hr,hy] at hz;cases hz
   exact((qb7 hx hnr).mp (by lia)).symm
 . rw[W.all x]
   constructor
   . rintro (z | ⟨i,hi,gi⟩)
     . exact⟨r,W.hr,by rw[z];exact qb4⟩
     exact⟨i,hi,by rw[qc9 (λ z=>by rw[z,hy] at gi;cases gi)];exact gi⟩
   rintro⟨i,hi,gi⟩;by_cases e1:i=r
   . rw[e1,qb4] at gi
     exact .inl (Option.some.inj gi).symm
   rw[qc9 e1] at gi;exact .inr ⟨i,hi,gi⟩
 obtain⟨l1,l2,l3⟩:=W.ln hw;intro i x hi gi;by_cases e1:i=r
 . rw[e1,qb4] at gi
   cases gi;lia
 rw[qc9 e1] at gi;exact l3 i x hi gi
def Free(n:Nat)(wr:Bool)(hm:Int->Nat)(g:Nat->Option Int)(k:Int)(e:Nat):Prop:=e < n/\g e=none/\(wr=false->hm k<=e)
theorem Kept.start{S:List Int}(K:Kept n wr hm g S)(hk:¬ k∈S)(F:Free n wr hm g k e):Walk n wr hm (S++[k]) k e g k (hm k):=by
 have hh:=K.o.home k;have z:=(qb7 hh hh).mpr rfl;refine⟨K.o,λ i hi gi=>hk ((K.h.2 k).mpr ⟨i,hi,gi⟩),hh,λ j _ hd=>by lia,F.1,F.2.1,by lia,λ x=>?_,λ hw=>⟨F.2.2 hw,zA2 _,K.ln hw⟩⟩;rw[zAb,zA8,K.h.2 x];exact⟨Or.symm,Or.symm⟩
def Crowd(n:Nat)(wr:Bool)(hm:Int->Nat)(T:List Int)(q:Nat):Prop:=q < n/\if wr=true then q=0/\n < T.length else n - q < (T.filter (λ k=>decide (q<=hm k))).length
theorem qG7(h:i∈(List.range (n - q)).map (q + ·)):q<=i/\i < n:=by
 obtain⟨j,hj,rfl⟩:=zBc.mp h
 have:=zAv.mp hj
 lia
theorem qar8(h:q<=i)(h':i < n):i∈(List.range (n - q)).map (q + ·):=zBc.mpr ⟨i - q,zAv.mpr (by lia),by lia⟩
theorem qV0{m:Nat}:((List.range m).map (q + ·)).Nodup:=by
 rw[List.nodup_iff_pairwise_ne,zC3];exact(List.nodup_iff_pairwise_ne.mp List.nodup_range).imp λ h=>by lia
theorem Kept.no_crowd{S:List Int}(K:Kept n wr hm g S)(q:Nat):¬ Crowd n wr hm S q:=by
 rintro⟨hq,h⟩;cases wr with
 | true =>
   rw[if_pos rfl] at h
   have:=qx7 (g:=g) (List.range n) S K.h.1 λ k hk=>by
     obtain⟨i,hi,gi⟩:=(K.h.2 k).mp hk;exact⟨i,zAv.mpr hi,gi⟩
   rw[zB9] at this;lia
 | false =>
   rw[if_neg (by decide)] at h
   have:=qx7 (g:=g) ((List.range (n - q)).map (q + ·)) (S.filter (λ k=>decide (q<=hm k))) (K.h.1.filter _) λ k hk=>by
     obtain⟨hk,hq⟩:=zAw.mp hk;obtain⟨i,hi,gi⟩:=(K.h.2 k).mp hk
     have:=K.ln rfl i k hi gi
     have hq:=zAf hq;exact⟨i,qar8 (by lia) hi,gi⟩
   rw[zAa,zB9] at this;lia
theorem Kept.crowd{S:List Int}(K:Kept n wr hm g S)(hF:∀ e,¬ Free n wr hm g k e):∃ q,Crowd n wr hm (S++[k]) q:=by
 have hk0:=K.o.home k;have full:∀ e,e < n->(wr=false->hm k<=e)->∃ x,g e=some x:=λ e he hl=>by
   cases h:g e with
   | some x=>exact⟨x,rfl⟩
   | none=>exact absurd ⟨he,h,hl⟩ (hF e)
 cases wr with
 | true =>
   refine⟨0,by lia,?_⟩;rw[if_pos rfl];refine⟨rfl,?_⟩
   have:=qM8 (g:=g) (List.range n) S List.nodup_range (λ i hi=>by
     obtain⟨x,hx⟩:=full i (zAv.mp hi) (λ z=>by cases z);exact⟨x,(K.h.2 x).mpr ⟨i,zAv.mp hi,hx⟩,hx⟩) λ i hi j hj x=>K.o.inj i j x (zAv.mp hi) (zAv.mp hj)
   rw[zB9] at this;rw[zA7];simp only[zAk,zCa];lia
 | false =>
   have ex:∀ m,m<=hm k->(∀ e,m<=e->e < n->∃ x,g e=some x)->∃ q,q<=hm k/\(∀ e,q<=e->e < n->∃ x,g e=some x)/\(q=0∨g (q - 1)=none):=by
     intro m
     induction m with
     | zero=>exact λ h1 h2=>⟨0,h1,h2,.inl rfl⟩
     | succ m ih =>
       intro h1 h2;cases h:g m with
       | none=>exact⟨m+1,h1,h2,.inr h⟩
       | some x =>
         refine ih (by lia) λ e he hn=>?_
         by_cases q:e=m
         . rw[q];exact⟨x,h⟩
         exact h2 e (by lia) hn
   obtain⟨q,hq,hf,h0⟩:=ex (hm k) (zA2 _) λ e he hn=>full e hn λ _=>he
   refine⟨q,by lia,?_⟩;rw[if_neg (by decide)]
   have:=qM8 (g:=g) ((List.range (n - q)).map (q + ·)) (S.filter (λ k=>decide (q<=hm k))) qV0 (λ i hi=>by
     obtain⟨h1,h2⟩:=qG7 hi;obtain⟨x,hx⟩:=hf i h1 h2;refine⟨x,zAw.mpr ⟨(K.h.2 x).mpr ⟨i,h2,hx⟩,zAq ?_⟩,hx⟩;have hx0:=K.o.home x;have hl:=K.ln rfl i x h2 hx;refine zC7 λ hlt=>?_
     rcases h0 with h0 | h0
     . lia
     obtain⟨y,hy,_⟩:=K.o.path' (i:=q - 1) h2 (by lia) hx (by
       have d1:=dor n (hm x) (q - 1);have d2:=dor n (hm x) i
       lia)
     rw[h0] at hy;cases hy) λ i hi j hj x=>K.o.inj i j x (qG7 hi).2 (qG7 hj).2
   rw[zAa,zB9] at this;have e1:([k].filter (λ k=>decide (q<=hm k))).length=1:=by simp[hq]
   rw[List.filter_append,zA7,e1];lia
theorem Crowd.mono{S T:List Int}(h:Crowd n wr hm S q)(hs:S.Sublist T):Crowd n wr hm T q:=by
 obtain⟨hq,h⟩:=h;refine⟨hq,?_⟩;cases wr with
 | true =>
   rw[if_pos rfl] at h ⊢
   have:=hs.length_le
   exact⟨h.1,by lia⟩
 | false =>
   rw[if_neg (by decide)] at h ⊢
   have:=(hs.filter (λ k=>decide (q<=hm k))).length_le
   lia
theorem Crowd.perm{S T:List Int}(h:Crowd n wr hm S q)(hs:S.Perm T):Crowd n wr hm T q:=by
 obtain⟨hq,h⟩:=h;refine⟨hq,?_⟩;rw[<- hs.length_eq,<- (hs.filter _).length_eq];exact h
theorem Kept.none(hn:0 < n)(hh:∀ k,hm k < n):Kept n wr hm (λ _=>none) [] :=
 ⟨⟨hh,(λ _ _ _ _ _ h=>by cases h),λ _ _ _ h=>by cases h⟩,⟨0,hn,λ _ h=>by cases h⟩,⟨List.nodup_nil,λ k=>⟨λ h=>by simp at h,λ ⟨_,_,h⟩=>by cases h⟩⟩,λ _ _ _ _ h=>by cases h⟩
theorem Kept.same{S S':List Int}(K:Kept n wr hm g S)(K':Kept n wr hm g' S')(hs:∀ k,k∈S↔k∈S'):∀ j,j < n->g j=g' j :=
 qar0 K.o K'.o K.c K'.c K.h ⟨K.h.1,λ k=>(hs k).trans (K'.h.2 k)⟩
end
def rot(n s t:Nat):Nat:=if s+t < n then s+t else s+t - n
theorem qW6{n:Nat}(hs:s < n)(ht:t < n):rot n s t < n:=by unfold rot;split<;>lia
theorem qC2{n:Nat}(hs:s < n)(ht:t < n):Ad n s (rot n s t)=t:=by
 have d:=dor n s (rot n s t);unfold rot at d ⊢;split at d<;>split<;>lia
theorem qt4{n:Nat}(hs:s < n)(hi:i < n):rot n s (Ad n s i)=i:=by
 have d:=dor n s i;unfold rot
 split<;>lia
def An(n:Nat)(g:Nat->Option Int)(r J:Nat):Nat->Option Int:=λ i=>if Ad n r i < J then g (next n i) else if Ad n r i=J then none else g i
structure Sh(n:Nat)(hm:Int->Nat)(g:Nat->Option Int)(r J:Nat):Prop where
 hJ:J < n
 mv:∀ t,1<=t->t<=J->∃ x,g (rot n r t)=some x/\0 < Ad n (hm x) (rot n r t)
section
variable{n:Nat}{wr:Bool}{hm:Int->Nat}{g:Nat->Option Int}{r J:Nat}{k:Int}{S:List Int}
theorem qW5(hr:r < n):rot n r 0=r:=by unfold rot;rw[if_pos (by lia)];rfl
theorem qt8(hr:r < n)(ht:t+1 < n):next n (rot n r t)=rot n r (t+1):=by
 unfold rot next
 split<;>split<;>split<;>lia
theorem qp4(hr:r < n)(hJ:J+1=n):next n (rot n r J)=r:=by
 unfold rot next
 split<;>split<;>lia
theorem Sh.start(hr:r < n):Sh n hm g r 0:=⟨by lia,λ t h1 h2=>by lia⟩
theorem Sh.step(h:Sh n hm g r J)(hJ:J+1 < n)(hx:g (rot n r (J+1))=some x)(hd:0 < Ad n (hm x) (rot n r (J+1))):Sh n hm g r (J+1):=⟨hJ,λ t h1 h2=>by
 by_cases e:t=J+1
 . subst e;exact⟨x,hx,hd⟩
 exact h.mv t h1 (by lia)⟩
theorem qs0(hr:r < n)(hi:i < n):An n g r 0 i=if i=r then none else g i:=by
 unfold An;rw[if_neg (by lia)];by_cases e:i=r
 . rw[if_pos e,if_pos ((qb7 hr hi).mpr e)]
 rw[if_neg e,if_neg λ z=>e ((qb7 hr hi).mp z)]
theorem qD0(hr:r < n)(hJ:J < n):An n g r J (rot n r J)=none:=by
 unfold An;rw[qC2 hr hJ,if_neg (by lia),if_pos rfl]
theorem qs1(hr:r < n)(hJ:J+1 < n):An n g r J (rot n r (J+1))=g (rot n r (J+1)):=by
 unfold An;rw[qC2 hr hJ,if_neg (by lia),if_neg (by lia)]
theorem qx2(hr:r < n)(hJ:0 < J):An n g r J r=g (next n r):=by
 unfold An;rw[(qb7 hr hr).mpr rfl,if_pos hJ]
theorem qV7(hr:r < n)(hJ:J+1 < n)(hi:i < n):An n g r (J+1) i=if i=rot n r (J+1) then none else if i=rot n r J then g (rot n r (J+1)) else An n g r J i:=by
 have e1:=qC2 hr hJ;have e2:=qC2 hr (show J < n by lia);by_cases h1:i=rot n r (J+1)
 . rw[if_pos h1,h1];exact qD0 hr hJ
 rw[if_neg h1];have n1:Ad n r i≠J+1:=λ z=>h1 (by rw[<- z,qt4 hr hi])
 by_cases h2:i=rot n r J
 . rw[if_pos h2,h2]
   unfold An;rw[e2,if_pos (by lia),qt8 hr hJ]
 rw[if_neg h2];have n2:Ad n r i≠J:=λ z=>h2 (by rw[<- z,qt4 hr hi])
 unfold An;by_cases h3:Ad n r i < J
 . rw[if_pos h3,if_pos (by lia)]
 rw[if_neg h3,if_neg (by lia),if_neg n1,if_neg n2]
theorem Sh.round(h:Sh n hm g r J)(O:Ord n hm g)(C:Gx n hm g)(hr:r < n)(hk:g r=some k)(hJ:J+1=n)(hx:g (next n r)=some x)(h0:0 < J):Ad n (hm x) r=0:=by
 obtain⟨i,hi,hc⟩:=C;have hi0:i=r:=by
   by_cases e:i=r
   . exact e
   have hd:=qk4 hi hr;have h1:Ad n r i≠0:=λ z=>e ((qb7 hr hi).mp z)
   obtain⟨y,hy,hp⟩:=h.mv (Ad n r i) (by lia) (by lia);rw[qt4 hr hi] at hy hp
   have:=(qb7 (O.home y) hi).mpr (hc y hy).symm
   lia
 subst hi0;have hkr:=(qb7 (O.home k) hi).mpr (hc k hk).symm;have e1:next n i=rot n i 1:=by
   have:=qt8 (t:=0) hi (by lia)
   rwa[qW5 hi] at this
 obtain⟨y,hy,hp⟩:=h.mv 1 (zA2 _) (by lia);rw[<- e1,hx] at hy;cases hy;rw[<- e1] at hp;obtain⟨z,hz,ha⟩:=O.ord (next n i) x (qi4 hi) hx hp;rw[qh8 hi,hk] at hz;cases hz;rw[qh8 hi] at ha;unfold A4 at ha;lia
def Stop(n:Nat)(wr:Bool)(hm:Int->Nat)(g:Nat->Option Int)(r J:Nat):Prop:=(wr=false/\rot n r J+1=n)∨∀ x,An n g r J (next n (rot n r J))=some x->Ad n (hm x) (next n (rot n r J))=0
theorem Kept.taken(K:Kept n wr hm g S)(hr:r < n)(hk:g r=some k)(h:Sh n hm g r J)(st:Stop n wr hm g r J):Kept n wr hm (An n g r J) (S.filter λ x=>decide (x≠k)):=by
 have hJ:=h.hJ;have O:=K.o;have mvd:∀ i x,i < n->Ad n r i < J->g (next n i)=some x->Ad n r (next n i)=Ad n r i+1/\0 < Ad n (hm x) (next n i)/\Ad n (hm x) i+1=Ad n (hm x) (next n i):=λ i x hi hd hx=>by
   have e:=qi1 hr hi (by lia);obtain⟨y,hy,hp⟩:=h.mv (Ad n r i+1) (by lia) (by lia);rw[<- e,qt4 hr (qi4 hi)] at hy hp;rw[hx] at hy;cases hy
   have:=qd9 (O.home x) (qi4 hi) hp
   rw[qh8 hi] at this;exact⟨e,hp,by lia⟩
 have val:∀ i x,i < n->An n g r J i=some x->(Ad n r i < J/\g (next n i)=some x)∨(J < Ad n r i/\g i=some x):=λ i x hi hx=>by
   unfold An at hx;split at hx
   . exact .inl ⟨by assumption,hx⟩
   split at hx
   . cases hx
   exact .inr ⟨by lia,hx⟩
 have src:∀ i x,i < n->An n g r J i=some x->∃ j,j < n/\g j=some x/\j≠r/\(j=next n i/\Ad n r i < J∨j=i/\J < Ad n r i):=λ i x hi hx=>by
   rcases val i x hi hx with⟨h1,h2⟩ | ⟨h1,h2⟩
   . refine⟨next n i,qi4 hi,h2,λ z=>?_,.inl ⟨rfl,h1⟩⟩
     have e:=qi1 hr hi (by lia);rw[z,(qb7 hr hr).mpr rfl] at e;lia
   refine⟨i,hi,h2,λ z=>?_,.inr ⟨rfl,h1⟩⟩;rw[z,(qb7 hr hr).mpr rfl] at h1;lia
 refine⟨⟨O.home,λ i j x hi hj h1 h2=>?_,λ i x hi hx hd=>?_⟩,?_,⟨K.h.1.filter _,λ x=>?_⟩,λ hw i x hi hx=>?_⟩
 . obtain⟨a,ha,ga,na,ca⟩:=src i x hi h1
   obtain⟨b,hb,gb,nb,cb⟩:=src j x hj h2
   have:=O.inj a b x ha hb ga gb
   subst this;rcases ca with⟨e1,d1⟩ | ⟨e1,d1⟩<;>rcases cb with⟨e2,d2⟩ | ⟨e2,d2⟩
   . have:=congrArg (A8 n) (e1.symm.trans e2)
     rwa[qh8 hi,qh8 hj] at this
   . have e:=qi1 hr hi (by lia)
     rw[<- e1,e2] at e;lia
   . have e:=qi1 hr hj (by lia)
     rw[<- e2,e1] at e;lia
   rw[<- e1,<- e2]
 . rcases val i x hi hx with⟨h1,h2⟩ | ⟨h1,h2⟩
   . obtain⟨e,hp,ed⟩:=mvd i x hi h1 h2
     obtain⟨y,hy,ha⟩:=O.ord (next n i) x (qi4 hi) h2 hp;rw[qh8 hi] at hy ha;have hyd:0 < Ad n (hm y) i:=by unfold A4 at ha;lia
     have e1:=qd9 (O.home x) hi hd;have e2:=qd9 (O.home y) hi hyd;have hpv:=qp3 hi;by_cases e0:Ad n r i=0
     . have:=(qb7 hr hi).mp e0
       subst this;have hlast:Ad n i (A8 n i)=n - 1:=by have d:=dor n i (A8 n i);have p:=por n i;lia
       by_cases hJn:J+1=n
       . have:=h.round O K.c hi hk hJn h2 (by lia)
         lia
       rw[hk] at hy;cases hy;obtain⟨z,hz,hb⟩:=O.ord i k hi hk hyd;refine⟨z,?_,?_⟩
       . unfold An
         rw[hlast,if_neg (by lia),if_neg (by lia)];exact hz
       refine qp2 hb ?_;unfold A4 at ha ⊢;lia
     have e3:=qd9 hr hi (by lia);refine⟨y,?_,?_⟩
     . unfold An
       rw[e3,if_pos (by lia),qA7 hi];exact hy
     unfold A4 at ha ⊢;lia
   obtain⟨y,hy,ha⟩:=O.ord i x hi h2 hd;refine⟨y,?_,ha⟩;have e3:=qd9 hr hi (by lia);by_cases e4:Ad n r (A8 n i)=J
   . exfalso
     have ei:A8 n i=rot n r J:=by rw[<- e4,qt4 hr (qp3 hi)]
     have en:next n (rot n r J)=i:=by rw[<- ei,qA7 hi]
     rcases st with⟨hw,hl⟩ | st
     . have:i=0:=by have p:=nor n (rot n r J);lia
       subst this
       have:=K.ln hw 0 x hi h2
       have d:=dor n (hm x) 0;lia
     rw[en] at st
     have:=st x hx
     lia
   unfold An;rw[if_neg (by lia),if_neg e4];exact hy
 . exact⟨rot n r J,qW6 hr hJ,λ x hx=>by rw[qD0 hr hJ] at hx;cases hx⟩
 . rw[zAw,K.h.2 x,zB5]
   constructor
   . rintro⟨⟨j,hj,gj⟩,ne⟩
     have jr:j≠r:=λ z=>ne (by rw[z,hk] at gj;exact(Option.some.inj gj).symm)
     have d0:Ad n r j≠0:=λ z=>jr ((qb7 hr hj).mp z)
     by_cases hd:Ad n r j<=J
     . have e:=qd9 hr hj (by lia)
       refine⟨A8 n j,qp3 hj,?_⟩;unfold An;rw[e,if_pos (by lia),qA7 hj];exact gj
     refine⟨j,hj,?_⟩;unfold An;rw[if_neg (by lia),if_neg (by lia)];exact gj
   rintro⟨i,hi,hx⟩;obtain⟨j,hj,gj,nj,_⟩:=src i x hi hx;refine⟨⟨j,hj,gj⟩,λ z=>?_⟩;subst z;exact nj (O.inj j r x hj hr gj hk)
 rcases val i x hi hx with⟨h1,h2⟩ | ⟨h1,h2⟩
 . obtain⟨e,hp,ed⟩:=mvd i x hi h1 h2
   have:=K.ln hw (next n i) x (qi4 hi) h2
   have nn:=nor n i;have d1:=dor n (hm x) (next n i);have d2:=dor n (hm x) i;lia
 exact K.ln hw i x hi h2
end
def B7(hm:Int->Nat)(x y:Int):Prop:=hm x < hm y∨(hm x=hm y/\x < y)
structure Fill(n:Nat)(hm:Int->Nat)(g:Nat->Option Int)(S:List Int)(top:Nat):Prop where
 k:Kept n false hm g S
 free:∀ i,top<=i->i < n->g i=none
 last:0 < top->∃ x,g (top - 1)=some x/\x∈S
 le:top<=n
theorem Fill.start{n:Nat}{hm:Int->Nat}(hn:0 < n)(hh:∀ k,hm k < n):Fill n hm (λ _=>none) [] 0:=⟨Kept.none hn hh,λ _ _ _=>rfl,λ h=>absurd h (by lia),by lia⟩
section
variable{n:Nat}{hm:Int->Nat}{g:Nat->Option Int}{S:List Int}{top:Nat}{k:Int}
theorem Fill.put(F:Fill n hm g S top)(hk:¬ k∈S)(hl:∀ x∈S,B7 hm x k)(hr:max top (hm k) < n):Fill n hm (set g (max top (hm k)) k) (S++[k]) (max top (hm k)+1):=by
 generalize er:max top (hm k)=r at hr ⊢;have hrt:top<=r:=by lia
 have hrk:hm k<=r:=by lia
 have gr:g r=none:=F.free r hrt hr;have below:∀ i x,i < n->g i=some x->i < top:=λ i x hi gi=>by
   by_cases h:top<=i
   . rw[F.free i h hi] at gi;cases gi
   lia
 have ln:∀ i x,i < n->set g r k i=some x->hm x<=i:=λ i x hi gi=>by
   by_cases e:i=r
   . subst e;rw[qb4] at gi;cases gi;exact hrk
   rw[qc9 e] at gi;exact F.k.ln rfl i x hi gi
 have mem:∀ i x,i < n->g i=some x->x∈S:=λ i x hi gi=>(F.k.h.2 x).mpr ⟨i,hi,gi⟩
 refine⟨⟨⟨F.k.o.home,λ i j x hi hj gi gj=>?_,λ i x hi gi hd=>?_⟩,⟨0,by lia,λ x gx=>?_⟩,⟨?_,λ x=>⟨λ hx=>?_,λ ⟨i,hi,gi⟩=>?_⟩⟩,λ _ i x hi gi=>ln i x hi gi⟩,λ i hi hn=>?_,λ _=>⟨k,by rw[Nat.add_sub_cancel,qb4],zAp _ (zA8.mpr rfl)⟩,by lia⟩
 . by_cases e1:i=r
   . by_cases e2:j=r
     . rw[e1,e2]
     subst e1;rw[qb4] at gi;cases gi;rw[qc9 e2] at gj;exact absurd (mem j _ hj gj) hk
   rw[qc9 e1] at gi;by_cases e2:j=r
   . subst e2;rw[qb4] at gj;cases gj
     exact absurd (mem i _ hi gi) hk
   rw[qc9 e2] at gj;exact F.k.o.inj i j x hi hj gi gj
 . have hx:=ln i x hi gi
   have i0:i≠0:=λ e=>by
     have:=(qb7 (F.k.o.home x) hi).mpr (by lia)
     lia
   have ep:A8 n i=i - 1:=by rcases por n i with h | h<;>lia
   by_cases e:i=r
   . subst e
     rw[qb4] at gi;cases gi;have hd':hm k < i:=by
       unfold Ad at hd;split at hd<;>lia
     have et:top=i:=by lia
     obtain⟨y,gy,hy⟩:=F.last (by lia);have hy1:hm y<=i - 1:=F.k.ln rfl (i - 1) y (by lia) (by rw[<- et];exact gy);refine⟨y,by rw[ep,qc9 (by lia),<- et];exact gy,?_⟩;rw[ep];unfold A4 Ad;rw[if_pos (by lia),if_pos hy1];rcases hl y hy with h | h
     . exact .inl (by lia)
     exact .inr ⟨by lia,h.2⟩
   rw[qc9 e] at gi;have hb:=below i x hi gi;obtain⟨y,gy,ay⟩:=F.k.o.ord i x hi gi hd;exact⟨y,by rw[qc9 (by lia)];exact gy,ay⟩
 . have:=ln 0 x (by lia) gx
   lia
 . refine zBi.mpr ⟨F.k.h.1,(by simp),λ x hx y hy e=>?_⟩
   rw[zA8.mp hy] at e;exact hk (e ▸ hx)
 . rcases zAb.mp hx with hx | hx
   . obtain⟨i,hi,gi⟩:=(F.k.h.2 x).mp hx
     exact⟨i,hi,by rw[qc9 λ e=>by rw[e,gr] at gi;cases gi];exact gi⟩
   rw[zA8.mp hx];exact⟨r,hr,qb4⟩
 . by_cases e:i=r
   . subst e;rw[qb4] at gi;cases gi
     exact zAp _ (zA8.mpr rfl)
   rw[qc9 e] at gi;exact List.mem_append_left _ (mem i x hi gi)
 rw[qc9 (by lia)];exact F.free i (by lia) hn
theorem Fill.room(F:Fill n hm g S top)(hl:∀ x∈S,B7 hm x k)(nc:∀ q,¬ Crowd n false hm (S++[k]) q):max top (hm k) < n:=by
 have hk:=F.k.o.home k;have hle:=F.le;by_cases h:top < n
 . lia
 have et:top=n:=by lia
 obtain⟨q,c⟩:=F.k.crowd (k:=k) λ e ⟨he,ge,hke⟩=>by
   have hke:=hke rfl;obtain⟨y,gy,hy⟩:=F.last (by lia);have hy1:=F.k.ln rfl (top - 1) y (by lia) gy;have hyk:hm y<=hm k:=by rcases hl y hy with h | h<;>lia
   by_cases e1:e=top - 1
   . rw[e1,gy] at ge;cases ge
   obtain⟨x,gx,_⟩:=F.k.o.path' (by lia) he gy (show Ad n (hm y) e < Ad n (hm y) (top - 1) by unfold Ad;rw[if_pos (by lia),if_pos hy1];lia);rw[gx] at ge;cases ge
 exact absurd c (nc q)
theorem qK5:∀(R:List Int){g:Nat->Option Int}{S:List Int}{top:Nat},Fill n hm g S top->(S++R).Pairwise (B7 hm)->(∀ q,¬ Crowd n false hm (S++R) q)->∃ g' top',Fill n hm g' (S++R) top'/\∀ j,j < top->g' j=g j
 | [],g,S,top,F,_,_=>⟨g,top,by rw[zAd];exact F,λ _ _=>rfl⟩
 | k::R,g,S,top,F,hp,nc=>by
   have e:S++k::R=(S++[k])++R:=by simp
   have hl:∀ x∈S,B7 hm x k:=λ x hx=>(zBr.mp hp).2.2 x hx k zA9
   have hk:¬ k∈S:=λ h=>by
     rcases hl k h with h | h<;>lia
   have hr:=F.room hl λ q c=>nc q (c.mono (by rw[e];exact zB7 _ _))
   obtain⟨g',top',F',h'⟩:=qK5 R (F.put hk hl hr) (by rw[<- e];exact hp) (by rw[<- e];exact nc);refine⟨g',top',by rw[e];exact F',λ j hj=>?_⟩;rw[h' j (by lia),qc9 (by lia)]
end
def cntH(hm:Int->Nat)(T:List Int)(r:Nat):Nat:=(T.filter λ k=>decide (hm k=r)).length
def cntW(hm:Int->Nat)(T:List Int)(q r:Nat):Nat:=(T.filter λ k=>decide (q<=hm k/\hm k < r)).length
def onI(hm:Int->Nat)(T:List Int):Nat->Int
 | 0=>0
 | r+1=>if onI hm T r+(cntH hm T r:Int) - 1 > 0 then onI hm T r+(cntH hm T r:Int) - 1 else 0
theorem qr4{hm:Int->Nat}{q r:Nat}(h:q<=r):∀ T:List Int,cntW hm T q (r+1)=cntW hm T q r+cntH hm T r
 | []=>rfl
 | k::T=>by
   have ih:=qr4 (hm:=hm) h T;unfold cntW cntH at ih ⊢;simp only[List.filter_cons,zB5]
   split<;>split<;>split<;>(try simp only[zAk])<;>lia
theorem qC4{hm:Int->Nat}{r:Nat}(T:List Int):cntW hm T r r=0:=by
 unfold cntW;rw[zAy,List.filter_eq_nil_iff];intro k _ h
 have:=zAf h
 lia
theorem qaA3{hm:Int->Nat}{T:List Int}:∀{r q:Nat},q<=r->(cntW hm T q r:Int) - ((r:Int) - (q:Int))<=onI hm T r
 | 0,q,h=>by
   have e:q=0:=by lia
   subst e;rw[qC4];show _<=(0:Int)
   lia
 | r+1,q,h=>by
   unfold onI;by_cases e:q=r+1
   . subst e
     rw[qC4]
     split<;>lia
   have:=qaA3 (hm:=hm) (T:=T) (r:=r) (q:=q) (by lia)
   rw[qr4 (by lia)]
   split<;>lia
theorem qaA4{hm:Int->Nat}{T:List Int}:∀ r:Nat,onI hm T r=0∨∃ q,q < r/\onI hm T r=(cntW hm T q r:Int) - ((r:Int) - (q:Int))
 | 0=>.inl rfl
 | r+1=>by
   unfold onI;split
   . right
     rcases qaA4 (hm:=hm) (T:=T) r with h | ⟨q,hq,h⟩
     . refine⟨r,by lia,?_⟩
       have:=qr4 (hm:=hm) (zA2 r) T
       rw[qC4] at this;lia
     refine⟨q,by lia,?_⟩
     have:=qr4 (hm:=hm) (show q<=r by lia) T
     lia
   exact .inl rfl
theorem qaf2{n:Nat}{hm:Int->Nat}{T:List Int}(hh:∀ k,hm k < n):0 < onI hm T n↔∃ q,Crowd n false hm T q:=by
 have e:∀ q,cntW hm T q n=(T.filter λ k=>decide (q<=hm k)).length:=λ q=>by
   unfold cntW;congr 2;exact funext λ k=>decide_eq_decide.mpr (by have:=hh k;lia)
 constructor
 . intro h
   rcases qaA4 (hm:=hm) (T:=T) n with h0 | ⟨q,hq,h1⟩
   . lia
   refine⟨q,hq,?_⟩;rw[if_neg (by decide),<- e q];lia
 rintro⟨q,hq,c⟩;rw[if_neg (by decide),<- e q] at c
 have:=qaA3 (hm:=hm) (T:=T) (show q<=n by lia)
 lia
section
variable{n:Nat}{hm:Int->Nat}{g g1:Nat->Option Int}{S L R:List Int}{top:Nat}{k:Int}
theorem Fill.agree(F:Fill n hm g1 L top)(KP:Kept n false hm g S)(hp:(L++R).Pairwise (B7 hm))(pm:(L++R).Perm S):∀ j,j < top->g j=g1 j:=by
 obtain⟨g2,t2,F2,h2⟩:=qK5 R F hp λ q c=>KP.no_crowd q (c.perm pm)
 intro j hj;have e:=F.le;rw[KP.same F2.k (λ x=>pm.mem_iff.symm) j (by lia),h2 j hj]
theorem Fill.at(F:Fill n hm g1 L top)(h:x∈L):∃ j,j < top/\j < n/\g1 j=some x:=by
 obtain⟨j,hj,e⟩:=(F.k.h.2 x).mp h;refine⟨j,?_,hj,e⟩;by_cases z:top<=j
 . rw[F.free j z hj] at e;cases e
 lia
theorem Kept.len{wr:Bool}(KP:Kept n wr hm g S):S.length<=n:=by
 have:=qx7 (g:=g) (List.range n) S KP.h.1 λ k hk=>by
   obtain⟨i,hi,e⟩:=(KP.h.2 k).mp hk;exact⟨i,zAv.mpr hi,e⟩
 rwa[zB9] at this
theorem qB0{S' R':List Int}(hn:0 < n)(hh:∀ k,hm k < n)(KP:Kept n false hm g S)(KP':Kept n false hm g' S')(hp:(L++R).Pairwise (B7 hm))(pm:(L++R).Perm S)(hp':(L++R').Pairwise (B7 hm))(pm':(L++R').Perm S') :
   ∀ x∈L,∃ j,j < n/\g j=some x/\g' j=some x:=by
 obtain⟨g1,top,F,_⟩:=qK5 L (Fill.start hn hh) (by rw[zAz];exact(zBr.mp hp).1) λ q c=>KP.no_crowd q ((c.mono (by rw[zAz];exact zB7 L R)).perm pm)
 rw[zAz] at F;intro x hx;obtain⟨j,h1,h2,e⟩:=F.at hx;exact⟨j,h2,by rw[F.agree KP hp pm j h1];exact e,by rw[F.agree KP' hp' pm' j h1];exact e⟩
end
end Row
namespace My
open PySem L2
def bagL(x y z:Int)(L:Addr):HO:=.lst [.int x,.int y,.int z,.ref L]
structure BagAt(H:Hp)(p:Addr)(x y z:Int)(L:Addr)(ns:List Int):Prop where
 at_:H p=some (bagL x y z L)
 li:H L=some (.lst (ns.map V.int))
 x0:0<=x
 y0:0<=y
 y1:y < 2147483647
 z0:0<=z
 nn:∀ n∈ns,0<=n
def Bag(H:Hp)(p L:Addr):Prop:=∃ x y z ns,BagAt H p x y z L ns
theorem qaN1{L:Addr}{x y z:Int}{ns:List Int}:HO.lst (ns.map V.int)≠bagL x y z L:=by
 intro e;have e:ns.map V.int=[.int x,.int y,.int z,.ref L]:=HO.lst.inj e;have e:=congrArg (·[3]?) e;rw[zB8] at e;cases h:ns[3]? <;> rw[h] at e<;>cases e
theorem BagAt.ne{H:Hp}{p L:Addr}{x y z:Int}{ns:List Int}(B:BagAt H p x y z L ns):L≠p:=ne_of B.li B.at_ qaN1
def qaG5(K:PySem.W.Frag):Sp:=λ vs H Q _=>∃(l:Addr)(ns:List Int),vs=[.ref l]/\SqL K H l (ns.map V.int)/\ns.length<=63 /\
 ∀ p L H',H p=none->H L=none->Same H H'->Bag H' p L->Q (.ref p) H'
def Gf(K:PySem.W.Frag):Sp:=λ vs H Q _=>∃(l:Addr)(ns:List Int),vs=[.ref l]/\SqL K H l (ns.map V.int)/\ns.length<=63/\∀ H',Q (.bl true) H'
abbrev Pr:=List (Int×Int)
def Am(n:Int):Prop:=0<=n/\n<=1000000000000000000
structure Hh(ps:Pr):Prop where
 len:ps.length<=64
 nd:(ps.map (·.1)).Nodup
 nums:∀ p∈ps,Am p.1/\Am p.2
def qb0(n:Int)(ps:Pr)(k:Int):Int:=((ps.lookup k).getD k) % n
def Bn(n:Int)(wr:Bool)(ps:Pr)(k r:Int):Option Int :=
 if wr then some ((r - qb0 n ps k) % n) else if 0<=r - qb0 n ps k then some (r - qb0 n ps k) else none
def qF9(n:Int)(wr:Bool)(ps:Pr)(r one other:Int):Bool :=
 match Bn n wr ps one r,Bn n wr ps other r with
 | none,_=>false
 | some _,none=>true
 | some x,some y=>decide (y < x)||(decide (x=y)&&decide (one < other))
theorem qam3{n:Int}(h:1<=n)(ps:Pr)(k:Int):0<=qb0 n ps k/\qb0 n ps k < n:=⟨zCd _ (by lia),zBx _ (by lia)⟩
theorem qas9(k:Int)(ks:List Int):inV (.int k) (ks.map V.int)=decide (k∈ks):=by
 unfold inV;rw[List.any_map,Bool.eq_iff_iff,List.any_eq_true,zB5];constructor
 . rintro⟨x,hx,e⟩
   have e:(x == k)=true:=e;rw[<- zC2.mp e];exact hx
 intro h;exact⟨k,h,zBm k⟩
end My
namespace My
open PySem L2
open Row
variable{n:Int}{ps:Pr}{r:Nat}
def hmOf(n:Int)(ps:Pr)(k:Int):Nat:=(qb0 n ps k).toNat
theorem B8(h:1<=n)(k:Int):hmOf n ps k < n.toNat:=by
 have:=qam3 h ps k
 unfold hmOf;lia
theorem qu3(h:1<=n)(k:Int):((hmOf n ps k:Nat):Int)=qb0 n ps k:=by
 have:=qam3 h ps k
 unfold hmOf;lia
theorem qah2(hn:1<=n){h:Nat}(hh:h < n.toNat)(hr:r < n.toNat):((r:Int) - (h:Int)) % n=(Ad n.toNat h r:Nat):=by
 rcases dor n.toNat h r with⟨h1,h2⟩ | ⟨h1,h2⟩
 . rw[Int.emod_eq_of_lt (by lia) (by lia)];lia
 have e:((r:Int) - (h:Int)) % n=((r:Int) - (h:Int)+n) % n:=by rw[Int.add_emod_right]
 rw[e,Int.emod_eq_of_lt (by lia) (by lia)]
 have:=h2 (by lia)
 lia
theorem qaa3{wr:Bool}{k:Int}(hn:1<=n)(hr:r < n.toNat)(hl:wr=false->hmOf n ps k<=r):Bn n wr ps k (r:Int)=some ((Ad n.toNat (hmOf n ps k) r:Nat):Int):=by
 have hh:=B8 (ps:=ps) hn k;have hc:=qu3 (ps:=ps) hn k;unfold Bn;cases wr with
 | true=>rw[if_pos rfl,<- hc,qah2 hn hh hr]
 | false =>
   have:=hl rfl
   rw[if_neg (by decide),if_pos (by lia),<- hc]
   have:=dor n.toNat (hmOf n ps k) r
   congr 1;lia
theorem qQ5{wr:Bool}{x y:Int}(hn:1<=n)(hr:r < n.toNat)(hx:wr=false->hmOf n ps x<=r)(hy:wr=false->hmOf n ps y<=r):qF9 n wr ps (r:Int) x y=true↔A4 n.toNat (hmOf n ps) r x y:=by
 unfold qF9 A4;rw[qaa3 hn hr hx,qaa3 hn hr hy];show (decide _||(decide _&&decide _))=true↔_;simp only[Bool.or_eq_true,zBg,zB5];lia
theorem qar4(hn:1<=n)(hr:r < n.toNat):((r:Int)+1) % n=(Row.next n.toNat r:Nat):=by
 rcases nor n.toNat r with⟨h,e⟩ | ⟨h,e⟩
 . rw[e,show ((r:Int)+1)=n by lia];simp
 rw[e,Int.emod_eq_of_lt (by lia) (by lia)];rfl
end My
namespace LV
open PySem L2
variable{Ao:List Addr}{N:List Str}{P:Program}{Q:VK}{base:Heap}{cd:Expr}{i j n:Nat}{kvs:List (Key×V)}{mg:Str->Option Value}{op:CmpOp}{v w:V}{vs:List V}{z:Bool}{α:Type}{σ':St}
inductive D where
 | non | bl (b:Bool) | int (i:Int) | str (x:Str) | ty (n:String) | adr (a:Addr)
 | tup (ds:List D) | lst (z:Bool) (ds:List D) | dct (z:Bool) (kvs:List (Key×D)) | ins (z:Bool) (C:Addr) (fs:List (Str×D))
 | scr (ns:List Int)
 | hole (v:V) | unk
mutual
def D.imm:D->Bool
 | .tup ds=>D.imms ds
 | .lst z _=>z
 | .dct z _=>z
 | .ins z _ _=>z
 | _=>true
def D.imms:List D->Bool
 | []=>true
 | d::r=>d.imm&&D.imms r
end
mutual
def D.fz:D->D
 | .tup ds=>.tup (D.fzs ds)
 | .lst _ ds=>.lst true (D.fzs ds)
 | .dct _ kvs=>.dct true (D.fzk kvs)
 | .ins _ C fs=>.ins true C (D.fzf fs)
 | .non=>.non | .bl b=>.bl b | .int i=>.int i | .str x=>.str x | .ty n=>.ty n | .adr a=>.adr a | .scr ns=>.scr ns | .hole v=>.hole v | .unk=>.unk
def D.fzs:List D->List D
 | []=>[]
 | d::r=>d.fz::D.fzs r
def D.fzk:List (Key×D)->List (Key×D)
 | []=>[]
 | (k,d)::r=>(k,d.fz)::D.fzk r
def D.fzf:List (Str×D)->List (Str×D)
 | []=>[]
 | (k,d)::r=>(k,d.fz)::D.fzf r
end
mutual
inductive Rep(F:Addr->Prop)(H:Hp):V->D->List Addr->Prop
 | non:Rep F H .non .non []
 | bl (b:Bool):Rep F H (.bl b) (.bl b) []
 | int (i:Int):Rep F H (.int i) (.int i) []
 | str (x:Str):Rep F H (.str x) (.str x) []
 | ty (n:String):Rep F H (.ty n) (.ty n) []
 | adr (a:Addr):Rep F H (.ref a) (.adr a) []
 | tup {a:Addr} {vs:List V} {ds:List D} {A:List Addr} (h:H a=some (.tup vs)) (r:Reps F H vs ds A):Rep F H (.ref a) (.tup ds) A
 | lst {a:Addr} {vs:List V} {ds:List D} {A:List Addr} (h:H a=some (.lst vs)) (r:Reps F H vs ds A):Rep F H (.ref a) (.lst false ds) (a::A)
 | lstZ {a:Addr} {vs:List V} {ds:List D} (h:H a=some (.lst vs)) (f:F a) (r:Reps F H vs ds []):Rep F H (.ref a) (.lst true ds) []
 | dct {a:Addr} {kvs:List (Key×V)} {kds:List (Key×D)} {A:List Addr} (h:H a=some (.dK kvs)) (e:kvs.map (·.1)=kds.map (·.1)) (r:Reps F H (kvs.map (·.2)) (kds.map (·.2)) A):Rep F H (.ref a) (.dct false kds) (a::A)
 | dctZ {a:Addr} {kvs:List (Key×V)} {kds:List (Key×D)} (h:H a=some (.dK kvs)) (f:F a) (e:kvs.map (·.1)=kds.map (·.1)) (r:Reps F H (kvs.map (·.2)) (kds.map (·.2)) []):Rep F H (.ref a) (.dct true kds) []
 | ins {a C dx:Addr} {fvs:List (Str×V)} {fds:List (Str×D)} {A:List Addr} (h:H a=some (.ins C dx fvs)) (e:fvs.map (·.1)=fds.map (·.1)) (r:Reps F H (fvs.map (·.2)) (fds.map (·.2)) A):Rep F H (.ref a) (.ins false C fds) (a::A)
 | insZ {a C dx:Addr} {fvs:List (Str×V)} {fds:List (Str×D)} (h:H a=some (.ins C dx fvs)) (f:F a) (e:fvs.map (·.1)=fds.map (·.1)) (r:Reps F H (fvs.map (·.2)) (fds.map (·.2)) []):Rep F H (.ref a) (.ins true C fds) []
 | scr {a:Addr} {o:Obj} {ns:List Int} (h:H a=some (.frz o (.lst (ns.map V.int)))):Rep F H (.ref a) (.scr ns) []
 | hole (v:V):Rep F H v (.hole v) []
 | unk (v:V):Rep F H v .unk []
inductive Reps(F:Addr->Prop)(H:Hp):List V->List D->List Addr->Prop
 | nil:Reps F H [] [] []
 | cons {v:V} {d:D} {A:List Addr} {vs:List V} {ds:List D} {B:List Addr} (h:Rep F H v d A) (t:Reps F H vs ds B):Reps F H (v::vs) (d::ds) (A++B)
end
def Dv:HO->Bool
 | .lst _=>true
 | .dK _=>true
 | .ins _ _ _=>true
 | _=>false
section
variable{F F':Addr->Prop}{H H':Hp}
def Cel(H:Hp)(A:List Addr):Prop:=∀ b∈A,∃ o,H b=some o/\Dv o=true
theorem Cel.cons{A:List Addr}{a:Addr}{o:HO}(e:H a=some o)(m:Dv o=true)(h:Cel H A):Cel H (a::A):=λ b hb=>(zAm.mp hb).elim (λ q=>q ▸ ⟨_,e,m⟩) (h b)
theorem Cel.app{A B:List Addr}(h:Cel H A)(g:Cel H B):Cel H (A++B):=λ b hb=>(zAb.mp hb).elim (h b) (g b)
theorem Rep.cells{v:V}{d:D}{A:List Addr}(r:Rep F H v d A):Cel H A:=by
 induction r using Rep.rec (motive_2:=λ _ _ A _=>Cel H A) with
 | tup e r i=>exact i
 | lst e r i=>exact Cel.cons e rfl i
 | dct e _ r i=>exact Cel.cons e rfl i
 | ins e _ r i=>exact Cel.cons e rfl i
 | cons _ _ i j=>exact Cel.app i j
 | _=>nofun
theorem Reps.cells{vs:List V}{ds:List D}{A:List Addr}(r:Reps F H vs ds A):Cel H A:=by
 induction r using Reps.rec (motive_1:=λ _ _ _ _=>True) with
 | cons h _ i j=>exact Cel.app h.cells j
 | nil=>nofun
 | _=>trivial
structure Kp(F:Addr->Prop)(H:Hp)(W F':Addr->Prop)(H':Hp):Prop where
 fr:∀ b o,H b=some o->¬ W b->H' b=some o
 wm:∀ b,W b->∃ o,H b=some o/\Dv o=true
 wf:∀ b,W b->¬ F b
 mF:∀ b,F b->F' b
theorem Kp.tup{W:Addr->Prop}(k:Kp F H W F' H'){a:Addr}{vs:List V}(h:H a=some (.tup vs)):H' a=some (.tup vs):=by
 refine k.fr a _ h λ w=>?_
 obtain⟨o,e,m⟩:=k.wm a w;rw[h] at e;cases e;cases m
theorem Kp.frz{W:Addr->Prop}(k:Kp F H W F' H'){a:Addr}{o:Obj}{u:HO}(h:H a=some (.frz o u)):H' a=some (.frz o u):=by
 refine k.fr a _ h λ w=>?_
 obtain⟨o,e,m⟩:=k.wm a w;rw[h] at e;cases e;cases m
theorem Rep.keep{W:Addr->Prop}(k:Kp F H W F' H'){v:V}{d:D}{A:List Addr}(r:Rep F H v d A):(∀ b∈A,¬ W b)->Rep F' H' v d A:=by
 induction r using Rep.rec (motive_2:=λ vs ds A _=>(∀ b∈A,¬ W b)->Reps F' H' vs ds A) with
 | tup e r i=>exact λ h=>.tup (k.tup e) (i h)
 | lst e r i=>exact λ h=>.lst (k.fr _ _ e (zB2.mp h).1) (i (zB2.mp h).2)
 | lstZ e f r i=>exact λ h=>.lstZ (k.fr _ _ e λ w=>k.wf _ w f) (k.mF _ f) (i h)
 | dct e q r i=>exact λ h=>.dct (k.fr _ _ e (zB2.mp h).1) q (i (zB2.mp h).2)
 | dctZ e f q r i=>exact λ h=>.dctZ (k.fr _ _ e λ w=>k.wf _ w f) (k.mF _ f) q (i h)
 | ins e q r i=>exact λ h=>.ins (k.fr _ _ e (zB2.mp h).1) q (i (zB2.mp h).2)
 | insZ e f q r i=>exact λ h=>.insZ (k.fr _ _ e λ w=>k.wf _ w f) (k.mF _ f) q (i h)
 | scr e=>exact λ _=>.scr (k.frz e)
 | cons _ _ i j h=>exact Reps.cons (i (zBp.mp h).1) (j (zBp.mp h).2)
 | nil=>constructor
 | _=>intro;constructor
theorem Reps.keep{W:Addr->Prop}(k:Kp F H W F' H'){vs:List V}{ds:List D}{A:List Addr}(r:Reps F H vs ds A):(∀ b∈A,¬ W b)->Reps F' H' vs ds A:=by
 induction r using Reps.rec (motive_1:=λ _ _ _ _=>True) with
 | nil=>exact λ _=>Reps.nil
 | cons r _ i j=>exact λ h=>Reps.cons (r.keep k (zBp.mp h).1) (j (zBp.mp h).2)
 | _=>trivial
theorem Kp.same(s:Same H H'):Kp F H (λ _=>False) F H':=⟨λ b o e _=>s b o e,λ _ w=>w.elim,λ _ w=>w.elim,λ _ f=>f⟩
theorem Rep.same{d:D}{A:List Addr}(r:Rep F H v d A)(s:Same H H'):Rep F H' v d A:=r.keep (Kp.same s) λ _ _=>id
theorem Reps.same{ds:List D}{A:List Addr}(r:Reps F H vs ds A)(s:Same H H'):Reps F H' vs ds A:=r.keep (Kp.same s) λ _ _=>id
theorem Kp.more(m:∀ b,F b->F' b):Kp F H (λ _=>False) F' H:=⟨λ b o e _=>e,λ _ w=>w.elim,λ _ w=>w.elim,m⟩
mutual
theorem Rep.imm{v:V}{d:D}{A:List Addr}(r:Rep F H v d A)(h:d.imm=true):A=[]:=by
 cases r with
 | tup e r=>exact r.imms h
 | lst=>cases h
 | dct=>cases h
 | ins=>cases h
 | _=>rfl
theorem Reps.imms{vs:List V}{ds:List D}{A:List Addr}(r:Reps F H vs ds A)(h:D.imms ds=true):A=[]:=by
 cases r with
 | nil=>rfl
 | cons r t =>
   have h:=zAh.mp h;rw[r.imm h.1,t.imms h.2];rfl
end
theorem qN9(kds:List (Key×D)):(D.fzk kds).map (·.1)=kds.map (·.1)/\(D.fzk kds).map (·.2)=D.fzs (kds.map (·.2)):=by
 induction kds with
 | nil=>exact⟨rfl,rfl⟩
 | cons p r ih=>obtain⟨k,d⟩:=p;simp only[D.fzk,D.fzs,zAx,ih.1,ih.2,and_self]
theorem qO0(kds:List (Str×D)):(D.fzf kds).map (·.1)=kds.map (·.1)/\(D.fzf kds).map (·.2)=D.fzs (kds.map (·.2)):=by
 induction kds with
 | nil=>exact⟨rfl,rfl⟩
 | cons p r ih=>obtain⟨k,d⟩:=p;simp only[D.fzf,D.fzs,zAx,ih.1,ih.2,and_self]
theorem Rep.fz{v:V}{d:D}{A:List Addr}(r:Rep F H v d A)(m:∀ b,F b->F' b):(∀ b∈A,F' b)->Rep F' H v d.fz []:=by
 induction r using Rep.rec (motive_2:=λ vs ds A _=>(∀ b∈A,F' b)->Reps F' H vs (D.fzs ds) []) with
 | tup e r i=>exact λ h=>.tup e (i h)
 | lst e r i=>exact λ h=>.lstZ e (zB2.mp h).1 (i (zB2.mp h).2)
 | lstZ e f r i=>exact λ h=>.lstZ e (m _ f) (i h)
 | dct e q r i=>exact λ h=>.dctZ e (zB2.mp h).1 (q.trans (qN9 _).1.symm) ((qN9 _).2 ▸ i (zB2.mp h).2)
 | dctZ e f q r i=>exact λ h=>.dctZ e (m _ f) (q.trans (qN9 _).1.symm) ((qN9 _).2 ▸ i h)
 | ins e q r i=>exact λ h=>.insZ e (zB2.mp h).1 (q.trans (qO0 _).1.symm) ((qO0 _).2 ▸ i (zB2.mp h).2)
 | insZ e f q r i=>exact λ h=>.insZ e (m _ f) (q.trans (qO0 _).1.symm) ((qO0 _).2 ▸ i h)
 | scr e=>exact λ _=>.scr e
 | nil=>exact Reps.nil
 | cons _ _ i j h=>exact Reps.cons (A:=[]) (B:=[]) (i (zBp.mp h).1) (j (zBp.mp h).2)
 | _=>intro;constructor
end
theorem ec:∀{us:List Value},us.length=n+1->∃ a vs,us=a::vs/\vs.length=n
 | a::vs,h=>⟨a,vs,rfl,Nat.succ.inj h⟩
inductive Locs(F:Addr->Prop)(H:Hp):List (Option V)->List D->List Addr->Prop
 | nil:Locs F H [] [] []
 | no {σ:List (Option V)} {ds:List D} {A:List Addr} (t:Locs F H σ ds A):Locs F H (none::σ) (.unk::ds) A
 | so {v:V} {d:D} {B:List Addr} {σ:List (Option V)} {ds:List D} {A:List Addr} (h:Rep F H v d B) (t:Locs F H σ ds A):Locs F H (some v::σ) (d::ds) (B++A)
section
variable{F F':Addr->Prop}{H H':Hp}
theorem Locs.cells{σ:List (Option V)}{ds:List D}{A:List Addr}(r:Locs F H σ ds A):∀ b∈A,∃ o,H b=some o/\Dv o=true:=by
 induction r with
 | nil=>intro b h;cases h
 | no t ih=>exact ih
 | so h t ih =>
   intro b hb;rcases zAb.mp hb with hb | hb
   . exact h.cells b hb
   exact ih b hb
theorem Locs.keep{W:Addr->Prop}(k:Kp F H W F' H'){σ:List (Option V)}{ds:List D}{A:List Addr}(r:Locs F H σ ds A):(∀ b∈A,¬ W b)->Locs F' H' σ ds A:=by
 induction r with
 | nil=>exact λ _=>.nil
 | no t ih=>exact λ h=>.no (ih h)
 | so h t ih=>exact λ q=>.so (h.keep k λ b hb=>q b (zAb.mpr (.inl hb))) (ih λ b hb=>q b (zAb.mpr (.inr hb)))
theorem Locs.same{σ:List (Option V)}{ds:List D}{A:List Addr}(r:Locs F H σ ds A)(s:Same H H'):Locs F H' σ ds A:=r.keep (Kp.same s) λ _ _=>id
theorem Locs.len{σ:List (Option V)}{ds:List D}{A:List Addr}(r:Locs F H σ ds A):σ.length=ds.length:=by
 induction r with
 | nil=>rfl
 | no t ih=>simp[ih]
 | so h t ih=>simp[ih]
theorem Locs.append{σ τ:List (Option V)}{ds es:List D}{A B:List Addr}(r:Locs F H σ ds A)(t:Locs F H τ es B):Locs F H (σ++τ) (ds++es) (A++B):=by
 induction r with
 | nil=>exact t
 | no _ ih=>exact .no ih
 | so h _ ih=>rw[zAi];exact .so h ih
inductive Gg(F:Addr->Prop)(H:Hp):Option V->D->List Addr->Prop
 | no:Gg F H none .unk []
 | so {v:V} {d:D} {B:List Addr} (h:Rep F H v d B):Gg F H (some v) d B
theorem Locs.cons{o:Option V}{d:D}{B:List Addr}{σ:List (Option V)}{ds:List D}{A:List Addr}(h:Gg F H o d B)(t:Locs F H σ ds A):Locs F H (o::σ) (d::ds) (B++A):=by
 cases h with
 | no=>exact .no t
 | so h=>exact .so h t
theorem Locs.split:∀{ds:List D}{σ:List (Option V)}{A:List Addr}{i:Nat}{d:D},Locs F H σ ds A->ds[i]? = some d ->
   ∃ σ1 o σ2 ds1 ds2 A1 B A2,σ=σ1++o::σ2/\ds=ds1++d::ds2/\σ1.length=i/\ds1.length=i/\A=A1++(B++A2)/\Locs F H σ1 ds1 A1/\Gg F H o d B/\Locs F H σ2 ds2 A2:=by
 intro ds
 induction ds with
 | nil=>intro σ A i d _ h;simp at h
 | cons e r ih =>
   intro σ A i d L h;cases i with
   | zero =>
     have:e=d:=by simpa using h
     subst this;cases L with
     | no t=>exact⟨[],none,_,[],_,[],[],_,rfl,rfl,rfl,rfl,rfl,.nil,.no,t⟩
     | so q t=>exact⟨[],some _,_,[],_,[],_,_,rfl,rfl,rfl,rfl,rfl,.nil,.so q,t⟩
   | succ i =>
     have h:r[i]? = some d:=by simpa using h
     cases L with
     | no t =>
       obtain⟨σ1,o,σ2,ds1,ds2,A1,B,A2,e1,e2,e3,e4,e5,l1,l2,l3⟩:=ih t h;exact⟨none::σ1,o,σ2,_::ds1,ds2,A1,B,A2,by rw[e1];rfl,by rw[e2];rfl,by simp[e3],by simp[e4],e5,.no l1,l2,l3⟩
     | @so v _ B0 _ _ A0 q t =>
       obtain⟨σ1,o,σ2,ds1,ds2,A1,B,A2,e1,e2,e3,e4,e5,l1,l2,l3⟩:=ih t h;exact⟨some v::σ1,o,σ2,_::ds1,ds2,B0++A1,B,A2,by rw[e1];rfl,by rw[e2];rfl,by simp[e3],by simp[e4],by rw[e5,zAi],.so q l1,l2,l3⟩
end
theorem qm0{l1 l2:List α}{x y:α}(h:l1.length=i):(l1++x::l2).set i y=l1++y::l2:=by
 subst h;rw[List.set_append_right _ _ (zA2 _),Nat.sub_self];rfl
theorem qy4{l1 l2:List α}{x:α}(h:l1.length=i):(l1++x::l2)[i]? = some x:=by
 subst h;simp
structure Ok(F:Addr->Prop)(H:Hp)(A:List Addr):Prop where
 sep:∀ b,A.count b<=1
 fro:∀ b,F b->A.count b=0
 ex:∀ b,F b->∃ o,H b=some o
structure Stp(F:Addr->Prop)(H:Hp)(A:List Addr)(F':Addr->Prop)(H':Hp)(A':List Addr):Prop where
 fr:∀ b o,H b=some o->A.count b=0->H' b=some o
 sub:∀ b o,H b=some o->A.count b=0->A'.count b=0
 mono:∀ b,F b->F' b
 fnew:∀ b o,H b=some o->A.count b=0->F' b->F b
section
variable{F F1 F2:Addr->Prop}{H H1 H2:Hp}{A A1 A2 T:List Addr}
theorem Stp.refl:Stp F H A F H A:=⟨λ _ _ e _=>e,λ _ _ _ e=>e,λ _ f=>f,λ _ _ _ _ f=>f⟩
theorem Stp.trans(s:Stp F H A F1 H1 A1)(t:Stp F1 H1 A1 F2 H2 A2):Stp F H A F2 H2 A2 :=
 ⟨λ b o e q=>t.fr b o (s.fr b o e q) (s.sub b o e q),λ b o e q=>t.sub b o (s.fr b o e q) (s.sub b o e q),λ b f=>t.mono b (s.mono b f),λ b o e q f=>s.fnew b o e q (t.fnew b o (s.fr b o e q) (s.sub b o e q) f)⟩
theorem Stp.same(s:Same H H1):Stp F H A F H1 A:=⟨λ b o e _=>s b o e,λ _ _ _ e=>e,λ _ f=>f,λ _ _ _ _ f=>f⟩
theorem qa8{b:Addr}{A:List Addr}:b∈A↔A.count b≠0:=by
 rw[<- List.count_pos_iff];lia
theorem Stp.kp(s:Stp F H A F1 H1 A1)(o:Ok F H A)(c:∀ b∈A,∃ o,H b=some o/\Dv o=true):Kp F H (λ b=>A.count b≠0) F1 H1 :=
 ⟨λ b u e w=>s.fr b u e (by lia),λ b w=>c b (qa8.mpr w),λ b w f=>w (o.fro b f),s.mono⟩
theorem Ok.left(o:Ok F H (T++A)):Ok F H T:=⟨λ b=>by have:=o.sep b;rw[zA0] at this;lia,λ b f=>by have:=o.fro b f;rw[zA0] at this;lia,o.ex⟩
theorem Ok.right(o:Ok F H (T++A)):Ok F H A:=⟨λ b=>by have:=o.sep b;rw[zA0] at this;lia,λ b f=>by have:=o.fro b f;rw[zA0] at this;lia,o.ex⟩
theorem Ok.count(o:Ok F H A)(h:∀ b,A1.count b<=A.count b):Ok F H A1:=⟨λ b=>zAn (h b) (o.sep b),λ b f=>by have:=o.fro b f;have:=h b;lia,o.ex⟩
theorem Stp.frame(s:Stp F H A F1 H1 A1)(o:Ok F H (T++A))(c:∀ b∈T,∃ o,H b=some o/\Dv o=true)(o1:Ok F1 H1 A1):Ok F1 H1 (T++A1)/\Stp F H (T++A) F1 H1 (T++A1):=by
 have key:∀ b,T.count b≠0->∃ u,H b=some u/\A.count b=0:=λ b h=>by
   obtain⟨u,e,_⟩:=c b (qa8.mpr h)
   have:=o.sep b
   rw[zA0] at this;exact⟨u,e,by lia⟩
 refine⟨⟨λ b=>?_,λ b f=>?_,o1.ex⟩,λ b u e q=>?_,λ b u e q=>?_,s.mono,λ b u e q f=>?_⟩
 . rw[zA0]
   by_cases h:T.count b=0
   . have:=o1.sep b;lia
   obtain⟨u,e,q⟩:=key b h;have h1:=s.sub b u e q
   have:=o.sep b
   rw[zA0] at this;lia
 . rw[zA0,o1.fro b f]
   by_cases h:T.count b=0
   . lia
   obtain⟨u,e,q⟩:=key b h
   have:=o.fro b (s.fnew b u e q f)
   rw[zA0] at this;lia
 . rw[zA0] at q;exact s.fr b u e (by lia)
 . rw[zA0] at q ⊢;have:=s.sub b u e (by lia);lia
 rw[zA0] at q;exact s.fnew b u e (by lia) f
theorem Stp.count(s:Stp F H A F1 H1 A1)(h:∀ b,A2.count b<=A1.count b):Stp F H A F1 H1 A2:=⟨s.fr,λ b o e q=>by have:=s.sub b o e q;have:=h b;lia,s.mono,s.fnew⟩
theorem Stp.pre(s:Stp F H A F1 H1 A1)(h:∀ b,A.count b=A2.count b):Stp F H A2 F1 H1 A1:=⟨λ b o e q=>s.fr b o e (by rw[h];exact q),λ b o e q=>s.sub b o e (by rw[h];exact q),s.mono,λ b o e q f=>s.fnew b o e (by rw[h];exact q) f⟩
end
structure New(H:Hp)(B:List Addr):Prop where
 one:∀ b,B.count b<=1
 new:∀ b o,H b=some o->B.count b=0
section
variable{F:Addr->Prop}{H H':Hp}{A B:List Addr}
theorem New.nil:New H []:=⟨λ b=>by simp,λ b o _=>by simp⟩
theorem New.ok(n:New H B)(o:Ok F H A)(c:∀ b∈A,∃ o,H b=some o/\Dv o=true)(s:Same H H'):Ok F H' (B++A):=by
 refine⟨λ b=>?_,λ b f=>?_,λ b f=>?_⟩
 . rw[zA0]
   have h1:=n.one b;have h2:=o.sep b;by_cases h:A.count b=0
   . lia
   obtain⟨u,e,_⟩:=c b (qa8.mpr h)
   have:=n.new b u e
   lia
 . rw[zA0,o.fro b f]
   obtain⟨u,e⟩:=o.ex b f;rw[n.new b u e]
 obtain⟨u,e⟩:=o.ex b f;exact⟨u,s b u e⟩
theorem New.append{H1:Hp}{B1:List Addr}(n:New H B)(s:Same H H1)(c:∀ b∈B,∃ o,H1 b=some o/\Dv o=true)(n1:New H1 B1):New H (B++B1):=by
 refine⟨λ b=>?_,λ b o e=>?_⟩
 . rw[zA0]
   have h1:=n.one b;have h2:=n1.one b;by_cases h:B.count b=0
   . lia
   obtain⟨u,e,_⟩:=c b (qa8.mpr h)
   have:=n1.new b u e
   lia
 rw[zA0,n.new b o e,n1.new b o (s b o e)]
theorem Ok.same(o:Ok F H A)(s:Same H H'):Ok F H' A:=⟨o.sep,o.fro,λ b f=>let ⟨u,e⟩:=o.ex b f;⟨u,s b u e⟩⟩
theorem New.stp(n:New H B)(s:Same H H'):Stp F H A F H' (B++A):=⟨λ b o e _=>s b o e,λ b o e q=>by rw[zA0,n.new b o e,q],λ _ f=>f,λ _ _ _ _ f=>f⟩
end
structure Exn where
 C:Addr
 fs:List (Str×D)
def RepX(F:Addr->Prop)(H:Hp)(e:Addr)(x:Exn):Prop :=
 ∃ od,H e=some (ExcO e x.C od false)/\(x.fs=[]∨∃ dx fvs,od=some dx/\H dx=some (XD dx fvs)/\fvs.map (·.1)=x.fs.map (·.1)/\Reps F H (fvs.map (·.2)) (x.fs.map (·.2)) [])
abbrev Ds:=List D
abbrev DK:=D->Ds->Prop
abbrev XKd:=Exn->Ds->Prop
abbrev VT:=Ds->DK->XKd->Prop
abbrev VTT:=Ds->(Bool->Ds->Prop)->XKd->Prop
abbrev VTA:=Ds->(Ds->Ds->Prop)->XKd->Prop
abbrev FV:=Ds->Option D
structure Vc where
 E:XK
 W:Nat->Bool
 av:List (Option V)
 gv:List (Option V)
structure Sta(c:Vc)(F:Addr->Prop)(H:Hp)(σ:St)(ds:Ds)(A:List Addr):Prop where
 loc:Locs F H (σ++c.gv) ds A
 ok:Ok F H A
 len:c.av.length=(σ++c.gv).length
 ag:∀ i,c.W i=true->(σ++c.gv)[i]? = c.av[i]?
theorem Sta.same{c:Vc}{F:Addr->Prop}{H H':Hp}{σ:St}{ds:Ds}{A:List Addr}(S:Sta c F H σ ds A)(s:Same H H'):Sta c F H' σ ds A:=⟨S.loc.same s,S.ok.same s,S.len,S.ag⟩
def Xc(c:Vc)(xe:XKd)(F:Addr->Prop)(H:Hp)(A:List Addr):Prop :=
 ∀ x ds' σ' e H' F' A',xe x ds'->RepX F' H' e x->Sta c F' H' σ' ds' A'->Stp F H A F' H' A'->c.E (.ref e) none H'
theorem Xc.step{c:Vc}{xe:XKd}{F F1:Addr->Prop}{H H1:Hp}{A A1:List Addr}(x:Xc c xe F H A)(s:Stp F H A F1 H1 A1):Xc c xe F1 H1 A1:=λ y ds' σ' e H' F' A' h r S t=>x y ds' σ' e H' F' A' h r S (s.trans t)
def kE(c:Vc)(σ:St)(F:Addr->Prop)(H:Hp)(A:List Addr)(Q:VK):DK:=λ d ds'=>∀ v H' F' T A',Rep F' H' v d T->Sta c F' H' σ ds' A'->Ok F' H' (T++A')->Stp F H A F' H' (T++A')->Q v H'
inductive LiftE(c:Vc)(t:VT)(σ:St)(H:Hp)(Q:VK):Prop
 | mk (F:Addr->Prop) (ds:Ds) (A:List Addr) (xe:XKd) (S:Sta c F H σ ds A) (x:Xc c xe F H A) (q:t ds (kE c σ F H A Q) xe):LiftE c t σ H Q
def Bd(c:Vc)(t:VT):TE:=LiftE c t
inductive LiftV(c:Vc)(own:Bool)(f:FV)(σ:St)(H:Hp)(Q:VK):Prop
 | mk (F:Addr->Prop) (ds:Ds) (A:List Addr) (d:D) (S:Sta c F H σ ds A) (e:f ds=some d) (q:∀ v H' B,Rep F H' v d B->Same H H'->(own=true->New H B)->Q v H'):LiftV c own f σ H Q
def liftV(c:Vc)(own:Bool)(f:FV):TE:=LiftV c own f
inductive qaF4(c:Vc)(own:Bool)(f:Ds->Option Ds)(σ:St)(H:Hp)(Q:List V->Hp->Prop):Prop
 | mk (F:Addr->Prop) (ds:Ds) (A:List Addr) (xs:Ds) (S:Sta c F H σ ds A) (e:f ds=some xs) (q:∀ vs H' B,Reps F H' vs xs B->Same H H'->(own=true->New H B)->Q vs H'):qaF4 c own f σ H Q
def qaB6(c:Vc)(own:Bool)(f:Ds->Option Ds):TA:=qaF4 c own f
inductive qaF6(c:Vc)(t:VTA)(σ:St)(H:Hp)(Q:List V->Hp->Prop):Prop
 | mk (F:Addr->Prop) (ds:Ds) (A:List Addr) (xe:XKd) (S:Sta c F H σ ds A) (x:Xc c xe F H A) (q:t ds (λ xs ds'=>∀ vs H' F' T A',Reps F' H' vs xs T->Sta c F' H' σ ds' A'->Stp F H A F' H' A'->Q vs H') xe):qaF6 c t σ H Q
def qaB7(c:Vc)(t:VTA):TA:=qaF6 c t
inductive LiftT(c:Vc)(t:VTT)(σ:St)(H:Hp)(Q:Bool->Hp->Prop):Prop
 | mk (F:Addr->Prop) (ds:Ds) (A:List Addr) (xe:XKd) (S:Sta c F H σ ds A) (x:Xc c xe F H A) (q:t ds (λ b ds'=>∀ H' F' A',Sta c F' H' σ ds' A'->Stp F H A F' H' A'->Q b H') xe):LiftT c t σ H Q
def Dg(c:Vc)(t:VTT):TT:=LiftT c t
structure VE(c:Vc)(X:Cx)(e:Expr)(t:VT):Prop where
 h:PE X e (Bd c t)
 m:∀ ds (Q Q':DK) (xe xe':XKd),(∀ d ds',Q d ds'->Q' d ds')->(∀ x ds',xe x ds'->xe' x ds')->t ds Q xe->t ds Q' xe'
structure VV(c:Vc)(X:Cx)(e:Expr)(own:Bool)(f:FV):Prop where
 h:PE X e (liftV c own f)
structure VVs(c:Vc)(X:Cx)(es:List Expr)(own:Bool)(f:Ds->Option Ds):Prop where
 h:PA X es (qaB6 c own f)
structure VOs(c:Vc)(X:Cx)(es:List Expr)(t:VTA):Prop where
 h:PA X es (qaB7 c t)
 m:∀ ds (Q Q':Ds->Ds->Prop) (xe xe':XKd),(∀ d ds',Q d ds'->Q' d ds')->(∀ x ds',xe x ds'->xe' x ds')->t ds Q xe->t ds Q' xe'
structure VTe(c:Vc)(X:Cx)(e:Expr)(t:VTT):Prop where
 h:PT X e (Dg c t)
 m:∀ ds (Q Q':Bool->Ds->Prop) (xe xe':XKd),(∀ d ds',Q d ds'->Q' d ds')->(∀ x ds',xe x ds'->xe' x ds')->t ds Q xe->t ds Q' xe'
theorem PE.mono{X:Cx}{e:Expr}{t t':TE}(h:PE X e t)(i:∀ σ H Q,t' σ H Q->t σ H Q):PE X e t':=λ D6 s σ H Q I q=>h D6 s σ H Q I (i σ H Q q)
theorem PT.mono{X:Cx}{e:Expr}{t t':TT}(h:PT X e t)(i:∀ σ H Q,t' σ H Q->t σ H Q):PT X e t':=λ D6 s σ H Q I q=>h D6 s σ H Q I (i σ H Q q)
theorem PW.mono{X:Cx}{e:Expr}{t t':TT}(h:PW X e t)(i:∀ σ H Q,t' σ H Q->t σ H Q):PW X e t':=λ w D6 s σ H Q I q=>h w D6 s σ H Q I (i σ H Q q)
theorem PA.mono{X:Cx}{es:List Expr}{t t':TA}(h:PA X es t)(i:∀ σ H Q,t' σ H Q->t σ H Q):PA X es t':=λ p D6 s σ H Q I q=>h p D6 s σ H Q I (i σ H Q q)
theorem PS.mono{X:Cx}{st:Stmt}{t t':TS}(h:PS X st t)(i:∀ D σ H,t' D σ H->t D σ H):PS X st t':=λ D6 s σ H D I q=>h D6 s σ H D I (i D σ H q)
theorem PSs.mono{X:Cx}{st:List Stmt}{t t':TS}(h:PSs X st t)(i:∀ D σ H,t' D σ H->t D σ H):PSs X st t':=λ D6 s σ H D I q=>h D6 s σ H D I (i D σ H q)
def orF{α:Type}(o:Option α)(k:α->Prop):Prop:=match o with | some a=>k a | none=>False
theorem qaq9{a:α}{k:α->Prop}:orF (some a) k=k a:=rfl
theorem qa4{o:Option α}{k k':α->Prop}(h:∀ a,k a->k' a):orF o k->orF o k':=by
 cases o with
 | none=>exact id
 | some a=>exact h a
theorem qa6{o:Option α}{k:α->Prop}:orF o k↔∃ a,o=some a/\k a:=by
 cases o with
 | none=>exact⟨λ h=>h.elim,λ ⟨_,e,_⟩=>by cases e⟩
 | some a=>exact⟨λ h=>⟨a,rfl,h⟩,λ ⟨b,e,h⟩=>by cases e;exact h⟩
section
variable{c:Vc}{X:Cx}{e:Expr}{F:Addr->Prop}{H H':Hp}{σ:St}{ds:Ds}{A:List Addr}
theorem Sta.new{B:List Addr}(S:Sta c F H σ ds A)(n:New H B)(s:Same H H'):Ok F H' (B++A):=n.ok S.ok S.loc.cells s
def Bu(f:FV):VT:=λ ds Q _=>orF (f ds) λ d=>Q d ds
def Dh(f:FV):VT:=λ ds Q _=>orF (f ds) λ d=>d.imm=true/\Q d ds
theorem qa5{f:FV}(h:VV c X e true f):VE c X e (Bu f):=by
 refine⟨PE.mono h.h λ σ H Q ⟨F,ds,A,xe,S,x,q⟩=>?_,λ ds Q Q' xe xe' hQ _=>qa4 λ d=>hQ d ds⟩;obtain⟨d,e,q⟩:=qa6.mp q;exact⟨F,ds,A,d,S,e,λ v H' B r s n=>q v H' F B A r (S.same s) (S.new (n rfl) s) ((n rfl).stp s)⟩
theorem qc2{own:Bool}{f:FV}(h:VV c X e own f):VE c X e (Dh f):=by
 refine⟨PE.mono h.h λ σ H Q ⟨F,ds,A,xe,S,x,q⟩=>?_,λ ds Q Q' xe xe' hQ _=>qa4 λ d=>And.imp_right (hQ d ds)⟩;obtain⟨d,e,hi,q⟩:=qa6.mp q;refine⟨F,ds,A,d,S,e,λ v H' B r s _=>?_⟩
 have:=r.imm hi
 subst this;exact q v H' F [] A r (S.same s) (S.ok.same s) (.same s)
theorem Ff{d:D}(h:PE X e (tC v))(r:∀ F H,Rep F H v d []):VV c X e true (λ _=>some d) :=
 ⟨PE.mono h λ σ H Q ⟨F,ds,A,d',S,e,q⟩=>by cases e;exact q v H [] (r F H) (λ _ _ z=>z) λ _=>New.nil⟩
def D.known:D->Bool
 | .unk=>false
 | .hole _=>false
 | _=>true
def rdN(i:Nat):FV:=λ ds=>match ds[i]? with
 | some d=>if d.known=true then some d else none
 | none=>none
theorem qj0{d:D}:rdN i ds=some d↔ds[i]? = some d/\d.known=true:=by
 unfold rdN;cases h:ds[i]? with
 | none=>simp
 | some x =>
   dsimp only;split
   . rename_i hk;constructor
     . intro e;cases e;exact⟨rfl,hk⟩
     rintro⟨e,_⟩;exact e
   rename_i hk;constructor
   . intro e;cases e
   rintro⟨e,h2⟩;cases e;exact absurd h2 hk
theorem Sta.at{d:D}(S:Sta c F H σ ds A)(hi:i < σ.length)(h:ds[i]? = some d)(hk:d.known=true):∃ v B,σ[i]? = some (some v)/\Rep F H v d B/\∀ b,B.count b<=A.count b:=by
 obtain⟨σ1,o,σ2,ds1,ds2,A1,B,A2,e1,e2,e3,e4,e5,l1,l2,l3⟩:=S.loc.split h;cases l2 with
 | no=>cases hk
 | @so v _ _ r =>
   refine⟨v,B,?_,r,λ b=>by rw[e5];simp only[zA0];lia⟩
   have:(σ++c.gv)[i]? = some (some v):=by rw[e1];exact qy4 e3
   rwa[zAt hi] at this
theorem qav0{x:Str}{pos:Pos}(h:PE X (.Name x pos) (Er i))(hi:∀ D6 σ H s,Inv X D6 σ H s->i < σ.length):VV c X (.Name x pos) false (rdN i):=by
 refine⟨λ D6 s σ H Q I ⟨F,ds,A,d,S,e,q⟩=>h D6 s σ H Q I ?_⟩;obtain⟨e,hk⟩:=qj0.mp e;obtain⟨v,B,h1,r,_⟩:=S.at (hi D6 σ H s I) e hk;exact⟨v,h1,q v H B r (λ _ _ z=>z) λ z=>by cases z⟩
theorem qm7{X:Cx}{x:Str}(hN:X.N[i]? = some x):∀ D6 σ H s,Inv X D6 σ H s->i < σ.length:=λ D6 σ H s I=>by
 rw[I.len];exact(zA5.mp hN).1
end
def Sub(H:Hp)(B B':List Addr):Prop:=∀ b,B'.count b<=B.count b∨(B'.count b<=1/\H b=none)
theorem Sub.new{H H1:Hp}{B B':List Addr}(s:Sub H1 B B')(n:New H B)(q:Same H H1):New H B':=by
 refine⟨λ b=>?_,λ b o e=>?_⟩
 . rcases s b with h | ⟨h,_⟩
   . have:=n.one b;lia
   exact h
 rcases s b with h | ⟨_,h⟩
 . have:=n.new b o e;lia
 rw[q b o e] at h;cases h
def OpS(nw:Bool)(r:List V->Hp->VK->Prop)(g:Ds->Option D):Prop:=∀ F H vs xs B d (Q:VK),Reps F H vs xs B->g xs=some d ->
 (∀ v H' B',Rep F H' v d B'->Same H H'->(if nw=true then New H B' else Sub H B B')->Q v H')->r vs H Q
def Ay(nw:Bool)(r:R2)(g:D->D->Option D):Prop:=∀ F H v w x y B d (Q:VK),Reps F H [v,w] [x,y] B->g x y=some d ->
 (∀ v H' B',Rep F H' v d B'->Same H H'->(if nw=true then New H B' else Sub H B B')->Q v H')->r v w H Q
def f2(g:D->D->Option D)(fa fb:FV):FV:=λ ds=>(fa ds).bind λ x=>(fb ds).bind λ y=>g x y
theorem qat7{g:D->D->Option D}{fa fb:FV}{ds:Ds}{d:D}:f2 g fa fb ds=some d↔∃ x y,fa ds=some x/\fb ds=some y/\g x y=some d:=by
 unfold f2;cases ha:fa ds with
 | none=>simp
 | some x=>cases hb:fb ds with
   | none=>simp
   | some y=>simp
def f1(g:D->Option D)(fa:FV):FV:=λ ds=>(fa ds).bind g
theorem qat8{g:D->Option D}{fa:FV}{ds:Ds}{d:D}:f1 g fa ds=some d↔∃ x,fa ds=some x/\g x=some d:=by
 unfold f1;cases ha:fa ds with
 | none=>simp
 | some x=>simp
theorem Et{F:Addr->Prop}{H:Hp}{d e:D}{A B:List Addr}(r:Rep F H v d A)(s:Rep F H w e B):Reps F H [v,w] [d,e] (A++(B++[])):=.cons r (.cons s .nil)
section
variable{c:Vc}{X:Cx}{a b:Expr}{oa ob nw:Bool}{fa fb:FV}{r:R2}{g:D->D->Option D}{ta tb:VT}
theorem op_vv(h:Ay nw r g):∀ σ H Q,liftV c (nw||(oa&&ob)) (f2 g fa fb) σ H Q->tOp r (liftV c oa fa) (liftV c ob fb) σ H Q:=by
 rintro σ H Q ⟨F,ds,A,d,S,e,q⟩;obtain⟨x,y,ea,eb,eg⟩:=qat7.mp e;refine⟨F,ds,A,x,S,ea,λ v H1 B1 r1 s1 n1=>⟨F,ds,A,y,S.same s1,eb,λ w H2 B2 r2 s2 n2=>?_⟩⟩;refine h F H2 v w x y _ d Q (Et (r1.same s2) r2) eg λ u H3 B3 r3 s3 h3=>?_
 refine q u H3 B3 r3 ((s1.trans s2).trans s3) λ ho=>?_
 cases nw with
 | true=>rw[if_pos rfl] at h3;exact⟨h3.one,λ b o e=>h3.new b o (s2 b o (s1 b o e))⟩
 | false =>
   rw[if_neg (by decide)] at h3;have ho:=zAh.mp ho
   have:=(n1 ho.1).append s1 r1.cells (n2 ho.2)
   exact h3.new (by rw[zAd];exact this) (s1.trans s2)
def t2(g:D->D->Option D)(ta tb:VT):VT:=λ ds Q xe=>ta ds (λ x ds1=>tb ds1 (λ y ds2=>orF (g x y) λ d=>Q d ds2) xe) xe
theorem qaj0(ha:VE c X a ta)(hb:VE c X b tb):∀ ds (Q Q':DK) (xe xe':XKd),(∀ d ds',Q d ds'->Q' d ds')->(∀ x ds',xe x ds'->xe' x ds')->t2 g ta tb ds Q xe->t2 g ta tb ds Q' xe' :=
 λ ds Q Q' xe xe' hQ hx=>ha.m _ _ _ _ _ (λ d ds1=>hb.m _ _ _ _ _ (λ d ds2=>qa4 λ z=>hQ z ds2) hx) hx
theorem op_ee(ha:VE c X a ta)(hb:VE c X b tb)(h:Ay true r g):∀ σ H Q,Bd c (t2 g ta tb) σ H Q->tOp r (Bd c ta) (Bd c tb) σ H Q:=by
 rintro σ H Q ⟨F,ds,A,xe,S,x,q⟩;refine⟨F,ds,A,xe,S,x,ha.m _ _ _ _ _ (λ d1 ds1 q v H1 F1 T A1 r1 S1 o1 s1=>?_) (λ _ _ z=>z) q⟩;have s1':Stp F H A F1 H1 A1:=s1.count λ b=>by rw[zA0];lia
 refine⟨F1,ds1,A1,xe,S1,x.step s1',hb.m _ _ _ _ _ (λ d2 ds2 q w H2 F2 T2 A2 r2 S2 o2 s2=>?_) (λ _ _ z=>z) q⟩;obtain⟨d,eg,q⟩:=qa6.mp q;have s2':Stp F1 H1 A1 F2 H2 A2:=s2.count λ b=>by rw[zA0];lia
 have r1':Rep F2 H2 v d1 T:=r1.keep (s2'.kp S1.ok S1.loc.cells) λ b hb hc=>by
   have:=o1.sep b
   rw[zA0] at this
   have:=qa8.mp hb
   lia
 refine h F2 H2 v w d1 d2 _ d Q (Et r1' r2) eg λ u H3 B3 r3 s3 n3=>?_
 rw[if_pos rfl] at n3;exact q u H3 F2 B3 A2 r3 (S2.same s3) (S2.new n3 s3) ((s1'.trans s2').trans (n3.stp s3))
def t2v(g:D->D->Option D)(ta:VT)(fb:FV):VT:=λ ds Q xe=>ta ds (λ x ds1=>orF ((fb ds1).bind (g x)) λ d=>Q d ds1) xe
theorem qao1(ha:VE c X a ta):∀ ds (Q Q':DK) (xe xe':XKd),(∀ d ds',Q d ds'->Q' d ds')->(∀ x ds',xe x ds'->xe' x ds')->t2v g ta fb ds Q xe->t2v g ta fb ds Q' xe' :=
 λ ds Q Q' xe xe' hQ hx=>ha.m _ _ _ _ _ (λ d ds1=>qa4 λ z=>hQ z ds1) hx
theorem op_ev(ha:VE c X a ta)(h:Ay true r g):∀ σ H Q,Bd c (t2v g ta fb) σ H Q->tOp r (Bd c ta) (liftV c ob fb) σ H Q:=by
 rintro σ H Q ⟨F,ds,A,xe,S,x,q⟩;refine⟨F,ds,A,xe,S,x,ha.m _ _ _ _ _ (λ d1 ds1 q v H1 F1 T A1 r1 S1 o1 s1=>?_) (λ _ _ z=>z) q⟩;have s1':Stp F H A F1 H1 A1:=s1.count λ b=>by rw[zA0];lia
 obtain⟨d,eg,q⟩:=qa6.mp q;obtain⟨y,eb,eg⟩:=zA1.mp eg;refine⟨F1,ds1,A1,y,S1,eb,λ w H2 B2 r2 s2 _=>?_⟩;refine h F1 H2 v w d1 y _ d Q (Et (r1.same s2) r2) eg λ u H3 B3 r3 s3 n3=>?_
 rw[if_pos rfl] at n3;have s23:=s2.trans s3;have n3':New H1 B3:=⟨n3.one,λ b o e=>n3.new b o (s2 b o e)⟩
 exact q u H3 F1 B3 A1 r3 (S1.same s23) (S1.new n3' s23) (s1'.trans (n3'.stp s23))
def OpS1(nw:Bool)(r:V->Hp->VK->Prop)(g:D->Option D):Prop:=∀ F H v x B d (Q:VK),Rep F H v x B->g x=some d ->
 (∀ v H' B',Rep F H' v d B'->Same H H'->(if nw=true then New H B' else Sub H B B')->Q v H')->r v H Q
def t1(g:D->Option D)(ta:VT):VT:=λ ds Q xe=>ta ds (λ x ds1=>orF (g x) λ d=>Q d ds1) xe
variable{r1:V->Hp->VK->Prop}{g1:D->Option D}
theorem op_v(h:OpS1 nw r1 g1):∀ σ H Q,liftV c (nw||oa) (f1 g1 fa) σ H Q->liftV c oa fa σ H (λ x H1=>r1 x H1 Q):=by
 rintro σ H Q ⟨F,ds,A,d,S,e,q⟩;obtain⟨x,ea,eg⟩:=qat8.mp e;refine⟨F,ds,A,x,S,ea,λ v H1 B1 r1 s1 n1=>?_⟩;refine h F H1 v x _ d Q r1 eg λ u H3 B3 r3 s3 h3=>?_
 refine q u H3 B3 r3 (s1.trans s3) λ ho=>?_
 cases nw with
 | true=>rw[if_pos rfl] at h3;exact⟨h3.one,λ b o e=>h3.new b o (s1 b o e)⟩
 | false=>rw[if_neg (by decide)] at h3;exact h3.new (n1 ho) s1
end
theorem qN4{F F1:Addr->Prop}{H H1 H3:Hp}{A A1 T B:List Addr}(o1:Ok F1 H1 (T++A1))(s1:Stp F H A F1 H1 (T++A1))(cA:∀ b∈A1,∃ o,H1 b=some o/\Dv o=true)(s3:Same H1 H3)(n3:Sub H1 T B):Ok F1 H3 (B++A1)/\Stp F H A F1 H3 (B++A1):=by
 refine⟨⟨λ b=>?_,λ b f=>?_,λ b f=>let ⟨u,e⟩:=o1.ex b f;⟨u,s3 b u e⟩⟩,λ b o e q=>s3 b o (s1.fr b o e q),λ b o e q=>?_,s1.mono,s1.fnew⟩
 . have:=o1.sep b
   rw[zA0] at this ⊢;rcases n3 b with h | ⟨h,hn⟩
   . lia
   by_cases hA:A1.count b=0
   . lia
   obtain⟨o,e,_⟩:=cA b (qa8.mpr hA);rw[e] at hn;cases hn
 . have:=o1.fro b f
   rw[zA0] at this ⊢;rcases n3 b with h | ⟨h,hn⟩
   . lia
   obtain⟨o,e⟩:=o1.ex b f;rw[e] at hn;cases hn
 have:=s1.sub b o e q
 rw[zA0] at this ⊢;rcases n3 b with h | ⟨h,hn⟩
 . lia
 rw[s1.fr b o e q] at hn;cases hn
section
variable{c:Vc}{X:Cx}{a b:Expr}{oa ob nw:Bool}{fa fb:FV}{r:R2}{g:D->D->Option D}{ta tb:VT}
theorem qaJ3(ha:VE c X a ta)(hb:VE c X b tb)(h:Ay false r g):∀ σ H Q,Bd c (t2 g ta tb) σ H Q->tOp r (Bd c ta) (Bd c tb) σ H Q:=by
 rintro σ H Q ⟨F,ds,A,xe,S,x,q⟩;refine⟨F,ds,A,xe,S,x,ha.m _ _ _ _ _ (λ d1 ds1 q v H1 F1 T A1 r1 S1 o1 s1=>?_) (λ _ _ z=>z) q⟩;have s1':Stp F H A F1 H1 A1:=s1.count λ b=>by rw[zA0];lia
 refine⟨F1,ds1,A1,xe,S1,x.step s1',hb.m _ _ _ _ _ (λ d2 ds2 q w H2 F2 T2 A2 r2 S2 o2 s2=>?_) (λ _ _ z=>z) q⟩;obtain⟨d,eg,q⟩:=qa6.mp q;have r1':Rep F2 H2 v d1 T:=r1.keep (s2.kp S1.ok S1.loc.cells) λ b hb hc=>by
   have:=o1.sep b
   rw[zA0] at this
   have:=qa8.mp hb
   lia
 obtain⟨o3,s3⟩:=s2.frame o1 r1.cells o2;refine h F2 H2 v w d1 d2 _ d Q (Et r1' r2) eg λ u H3 B3 r3 s4 n3=>?_
 rw[if_neg (by decide)] at n3;rw[<- zAi] at o3 s3;obtain⟨k1,k2⟩:=qN4 o3 (s1.trans s3) S2.loc.cells s4 (by rw[zAd] at n3;exact n3);exact q u H3 F2 B3 A2 r3 (S2.same s4) k1 k2
def Gy(g:D->D->Option D)(ta:VT)(fb:FV):VT:=λ ds Q xe=>ta ds (λ x ds1=>orF (fb ds1) λ y=>y.imm=true/\orF (g x y) λ d=>Q d ds1) xe
theorem qad1(ha:VE c X a ta):∀ ds (Q Q':DK) (xe xe':XKd),(∀ d ds',Q d ds'->Q' d ds')->(∀ x ds',xe x ds'->xe' x ds')->Gy g ta fb ds Q xe->Gy g ta fb ds Q' xe' :=
 λ ds Q Q' xe xe' hQ hx=>ha.m _ _ _ _ _ (λ d ds1=>qa4 λ y=>And.imp_right (qa4 λ z=>hQ z ds1)) hx
theorem qaJ2(ha:VE c X a ta)(h:Ay false r g):∀ σ H Q,Bd c (Gy g ta fb) σ H Q->tOp r (Bd c ta) (liftV c ob fb) σ H Q:=by
 rintro σ H Q ⟨F,ds,A,xe,S,x,q⟩;refine⟨F,ds,A,xe,S,x,ha.m _ _ _ _ _ (λ d1 ds1 q v H1 F1 T A1 r1 S1 o1 s1=>?_) (λ _ _ z=>z) q⟩;obtain⟨y,eb,hy,q⟩:=qa6.mp q;obtain⟨d,eg,q⟩:=qa6.mp q;refine⟨F1,ds1,A1,y,S1,eb,λ w H2 B2 r2 s2 _=>?_⟩
 have:=r2.imm hy
 subst this;refine h F1 H2 v w d1 y _ d Q (Et (r1.same s2) r2) eg λ u H3 B3 r3 s3 n3=>?_
 rw[if_neg (by decide),zAd,zAd] at n3;have s23:=s2.trans s3;have n4:Sub H1 T B3:=λ b=>(n3 b).imp id λ ⟨h1,h2⟩=>⟨h1,by
   cases e:H1 b with
   | none=>rfl
   | some o=>rw[s2 b o e] at h2;cases h2⟩
 obtain⟨k1,k2⟩:=qN4 o1 s1 S1.loc.cells s23 n4;exact q u H3 F1 B3 A1 r3 (S1.same s23) k1 k2
theorem qa7:VVs c X [] true (λ _=>some []):=⟨PA.mono qA0 λ σ H Q ⟨F,ds,A,xs,S,e,q⟩=>by cases e;exact q [] H [] .nil (λ _ _ z=>z) λ _=>New.nil⟩
def A9(fa:FV)(fr:Ds->Option Ds):Ds->Option Ds:=λ ds=>(fa ds).bind λ x=>(fr ds).bind λ xs=>some (x::xs)
theorem qah0{fa:FV}{fr:Ds->Option Ds}{ds xs:Ds}:A9 fa fr ds=some xs↔∃ x r,fa ds=some x/\fr ds=some r/\xs=x::r:=by
 unfold A9;cases ha:fa ds with
 | none=>simp
 | some x=>cases hb:fr ds with
   | none=>simp
   | some y=>simp[eq_comm]
theorem qa2{e:Expr}{es:List Expr}{own:Bool}{fr:Ds->Option Ds}(ha:VV c X e oa fa)(hr:VVs c X es own fr)(hs:starEach (e::es) X.env=(false,eval e X.env)::starEach es X.env):VVs c X (e::es) (oa&&own) (A9 fa fr):=by
 refine⟨PA.mono (qg4 ha.h hr.h hs) λ σ H Q ⟨F,ds,A,xs,S,e,q⟩=>?_⟩;obtain⟨x,r,e1,e2,rfl⟩:=qah0.mp e;refine⟨F,ds,A,x,S,e1,λ v H1 B1 r1 s1 n1=>⟨F,ds,A,r,S.same s1,e2,λ vs H2 B2 r2 s2 n2=>?_⟩⟩;refine q (v::vs) H2 (B1++B2) (.cons (r1.same s2) r2) (s1.trans s2) λ ho=>?_
 have ho:=zAh.mp ho;exact(n1 ho.1).append s1 r1.cells (n2 ho.2)
variable{rc:List V->Hp->VK->Prop}{gc:Ds->Option D}
theorem qaz9{own:Bool}{f:Ds->Option Ds}(h:OpS nw rc gc):∀ σ H Q,liftV c (nw||own) (λ ds=>(f ds).bind gc) σ H Q->tCB rc (qaB6 c own f) σ H Q:=by
 rintro σ H Q ⟨F,ds,A,d,S,e,q⟩;obtain⟨xs,e1,e2⟩:=zA1.mp e;refine⟨F,ds,A,xs,S,e1,λ vs H1 B1 r1 s1 n1=>h F H1 vs xs B1 d Q r1 e2 λ u H3 B3 r3 s3 h3=>q u H3 B3 r3 (s1.trans s3) λ ho=>?_⟩;cases nw with
 | true=>rw[if_pos rfl] at h3;exact⟨h3.one,λ b o e=>h3.new b o (s1 b o e)⟩
 | false=>rw[if_neg (by decide)] at h3;exact h3.new (n1 ho) s1
def tcO(gc:Ds->Option D)(t:VTA):VT:=λ ds Q xe=>t ds (λ xs ds1=>orF (gc xs) λ d=>Q d ds1) xe
theorem qU8{es:List Expr}{t:VTA}(ha:VOs c X es t):∀ ds (Q Q':DK) (xe xe':XKd),(∀ d ds',Q d ds'->Q' d ds')->(∀ x ds',xe x ds'->xe' x ds')->tcO gc t ds Q xe->tcO gc t ds Q' xe' :=
 λ ds Q Q' xe xe' hQ hx=>ha.m _ _ _ _ _ (λ d ds1=>qa4 λ z=>hQ z ds1) hx
theorem opc_o{es:List Expr}{t:VTA}(ha:VOs c X es t)(h:OpS true rc gc):∀ σ H Q,Bd c (tcO gc t) σ H Q->tCB rc (qaB7 c t) σ H Q:=by
 rintro σ H Q ⟨F,ds,A,xe,S,x,q⟩;refine⟨F,ds,A,xe,S,x,ha.m _ _ _ _ _ (λ xs ds1 q vs H1 F1 T A1 r1 S1 s1=>?_) (λ _ _ z=>z) q⟩;obtain⟨d,eg,q⟩:=qa6.mp q;refine h F1 H1 vs xs T d Q r1 eg λ u H3 B3 r3 s3 n3=>?_
 rw[if_pos rfl] at n3;exact q u H3 F1 B3 A1 r3 (S1.same s3) (S1.new n3 s3) (s1.trans (n3.stp s3))
end
def D.kids:D->List D
 | .tup ds=>ds
 | .lst false ds=>ds
 | .dct false kvs=>kvs.map (·.2)
 | .ins false _ fs=>fs.map (·.2)
 | _=>[]
def Gz{κ:Type}:List (κ×D)->Nat->D->List (κ×D)
 | [],_,_=>[]
 | (k,_)::r,0,x=>(k,x)::r
 | p::r,n+1,x=>p::Gz r n x
theorem qH7{κ:Type}:∀(l:List (κ×D))(n:Nat)(x:D),(Gz l n x).map (·.1)=l.map (·.1)/\(Gz l n x).map (·.2)=(l.map (·.2)).set n x
 | [],_,_=>⟨rfl,rfl⟩
 | (k,_)::r,0,x=>⟨rfl,rfl⟩
 | p::r,n+1,x=>by
   obtain⟨h1,h2⟩:=qH7 r n x;simp only[Gz,zAx,h1,h2,List.set_cons_succ,and_self]
def D.setK:D->Nat->D->D
 | .tup ds,n,x=>.tup (ds.set n x)
 | .lst z ds,n,x=>.lst z (ds.set n x)
 | .dct z kvs,n,x=>.dct z (Gz kvs n x)
 | .ins z C fs,n,x=>.ins z C (Gz fs n x)
 | d,_,_=>d
def Lnk(H:Hp)(u:V)(n:Nat)(w:V):Prop:=∃ a,u=.ref a /\
 ((∃ vs,H a=some (.tup vs)/\vs[n]? = some w)∨(∃ vs,H a=some (.lst vs)/\vs[n]? = some w)∨(∃ kvs,H a=some (.dK kvs)/\(kvs.map (·.2))[n]? = some w)∨∃ C dx fs,H a=some (.ins C dx fs)/\(fs.map (·.2))[n]? = some w)
section
variable{F F':Addr->Prop}{H H':Hp}
theorem Reps.split:∀{ds:List D}{vs:List V}{A:List Addr}{i:Nat}{d:D},Reps F H vs ds A->ds[i]? = some d ->
   ∃ vs1 v vs2 ds1 ds2 A1 B A2,vs=vs1++v::vs2/\ds=ds1++d::ds2/\vs1.length=i/\ds1.length=i/\A=A1++(B++A2)/\Reps F H vs1 ds1 A1/\Rep F H v d B/\Reps F H vs2 ds2 A2:=by
 intro ds
 induction ds with
 | nil=>intro σ A i d _ h;simp at h
 | cons e r ih =>
   intro σ A i d L h;cases i with
   | zero =>
     have:e=d:=by simpa using h
     subst this;cases L with
     | cons q t=>exact⟨[],_,_,[],_,[],_,_,rfl,rfl,rfl,rfl,rfl,.nil,q,t⟩
   | succ i =>
     have h:r[i]? = some d:=by simpa using h
     cases L with
     | @cons v _ B0 _ _ A0 q t =>
       obtain⟨σ1,o,σ2,ds1,ds2,A1,B,A2,e1,e2,e3,e4,e5,l1,l2,l3⟩:=ih t h;exact⟨v::σ1,o,σ2,_::ds1,ds2,B0++A1,B,A2,by rw[e1];rfl,by rw[e2];rfl,by simp[e3],by simp[e4],by rw[e5,zAi],.cons q l1,l2,l3⟩
theorem Reps.append{ws:List V}{ds es:List D}{A B:List Addr}(r:Reps F H vs ds A)(t:Reps F H ws es B):Reps F H (vs++ws) (ds++es) (A++B):=by
 induction vs generalizing ds A with
 | nil=>cases r;exact t
 | cons v vs ih =>
   cases r with
   | cons h t'=>rw[zAi];exact .cons h (ih t')
theorem Reps.kid{ds:List D}{A:List Addr}{d:D}(r:Reps F H vs ds A)(h:ds[n]? = some d):∃(w:V)(B C:List Addr),vs[n]? = some w/\Rep F H w d B/\(∀ b,A.count b=B.count b+C.count b) /\
   ∀{F':Addr->Prop}{H':Hp}{W:Addr->Prop}(d':D)(B':List Addr),Kp F H W F' H'->(∀ b∈C,¬ W b)->Rep F' H' w d' B'->∃ A':List Addr,Reps F' H' vs (ds.set n d') A'/\∀ b,A'.count b=B'.count b+C.count b:=by
 obtain⟨vs1,v,vs2,ds1,ds2,A1,B,A2,e1,e2,e3,e4,e5,l1,l2,l3⟩:=r.split h;refine⟨v,B,A1++A2,by rw[e1];exact qy4 e3,l2,λ b=>by rw[e5];simp only[zA0];lia,λ{F' H' W} d' B' k hc r'=>⟨A1++(B'++A2),?_,λ b=>by simp only[zA0];lia⟩⟩;rw[e1,e2,qm0 e4];exact(l1.keep k λ b hb=>hc b (zAb.mpr (.inl hb))).append (.cons r' (l3.keep k λ b hb=>hc b (zAb.mpr (.inr hb))))
theorem Rep.kid{v0:V}{d0 d:D}{A:List Addr}(r:Rep F H v0 d0 A)(h:d0.kids[n]? = some d):∃(w:V)(B C:List Addr),Lnk H v0 n w/\Rep F H w d B/\(∀ b,A.count b=B.count b+C.count b) /\
   ∀{F':Addr->Prop}{H':Hp}{W:Addr->Prop}(d':D)(B':List Addr),Kp F H W F' H'->(∀ b∈C,¬ W b)->Rep F' H' w d' B'->∃ A':List Addr,Rep F' H' v0 (d0.setK n d') A'/\∀ b,A'.count b=B'.count b+C.count b:=by
 cases r with
 | @tup a vs ds _ e r =>
   obtain⟨w,B,C,h1,h2,h3,h4⟩:=r.kid (n:=n) h;refine⟨w,B,C,⟨a,rfl,.inl ⟨vs,e,h1⟩⟩,h2,h3,λ{F' H' W} d' B' k hc r'=>?_⟩;obtain⟨A',q1,q2⟩:=h4 d' B' k hc r';exact⟨A',.tup (k.tup e) q1,q2⟩
 | @lst a vs ds A e r =>
   obtain⟨w,B,C,h1,h2,h3,h4⟩:=r.kid (n:=n) h;refine⟨w,B,a::C,⟨a,rfl,.inr (.inl ⟨vs,e,h1⟩)⟩,h2,λ b=>by rw[zAl,zAl,h3];lia,λ{F' H' W} d' B' k hc r'=>?_⟩;obtain⟨A',q1,q2⟩:=h4 d' B' k (λ b hb=>hc b (zA6 _ hb)) r';exact⟨a::A',.lst (k.fr a _ e (hc a zA9)) q1,λ b=>by rw[zAl,zAl,q2];lia⟩
 | @dct a kvs kds A e q r =>
   obtain⟨w,B,C,h1,h2,h3,h4⟩:=r.kid (n:=n) h;refine⟨w,B,a::C,⟨a,rfl,.inr (.inr (.inl ⟨kvs,e,h1⟩))⟩,h2,λ b=>by rw[zAl,zAl,h3];lia,λ{F' H' W} d' B' k hc r'=>?_⟩;obtain⟨A',q1,q2⟩:=h4 d' B' k (λ b hb=>hc b (zA6 _ hb)) r';obtain⟨m1,m2⟩:=qH7 kds n d';exact⟨a::A',.dct (k.fr a _ e (hc a zA9)) (q.trans m1.symm) (by rw[m2];exact q1),λ b=>by rw[zAl,zAl,q2];lia⟩
 | @ins a C0 dx fvs fds A e q r =>
   obtain⟨w,B,C,h1,h2,h3,h4⟩:=r.kid (n:=n) h;refine⟨w,B,a::C,⟨a,rfl,.inr (.inr (.inr ⟨C0,dx,fvs,e,h1⟩))⟩,h2,λ b=>by rw[zAl,zAl,h3];lia,λ{F' H' W} d' B' k hc r'=>?_⟩;obtain⟨A',q1,q2⟩:=h4 d' B' k (λ b hb=>hc b (zA6 _ hb)) r';obtain⟨m1,m2⟩:=qH7 fds n d';exact⟨a::A',.ins (k.fr a _ e (hc a zA9)) (q.trans m1.symm) (by rw[m2];exact q1),λ b=>by rw[zAl,zAl,q2];lia⟩
 | _=>simp[D.kids] at h
def D.getP:D->List Nat->Option D
 | d,[]=>some d
 | d,n::p=>match d.kids[n]? with
   | some e=>e.getP p
   | none=>none
def D.setP:D->List Nat->D->D
 | _,[],x=>x
 | d,n::p,x=>match d.kids[n]? with
   | some e=>d.setK n (e.setP p x)
   | none=>d
def Walk(H:Hp):V->List Nat->V->Prop
 | u,[],w=>u=w
 | u,n::p,w=>∃ v,Lnk H u n v/\Walk H v p w
theorem Rep.path:∀{p:List Nat}{v0:V}{d0 d:D}{A:List Addr},Rep F H v0 d0 A->d0.getP p=some d->∃(w:V)(B C:List Addr),Walk H v0 p w/\Rep F H w d B/\(∀ b,A.count b=B.count b+C.count b) /\
   ∀{F':Addr->Prop}{H':Hp}{W:Addr->Prop}(d':D)(B':List Addr),Kp F H W F' H'->(∀ b∈C,¬ W b)->Rep F' H' w d' B'->∃ A':List Addr,Rep F' H' v0 (d0.setP p d') A'/\∀ b,A'.count b=B'.count b+C.count b:=by
 intro p
 induction p with
 | nil =>
   intro v0 d0 d A r h;cases h;exact⟨v0,A,[],rfl,r,λ b=>by simp,λ{F' H' W} d' B' k hc r'=>⟨B',r',λ b=>by simp⟩⟩
 | cons n p ih =>
   intro v0 d0 d A r h;unfold D.getP at h;cases hk:d0.kids[n]? with
   | none=>rw[hk] at h;cases h
   | some e =>
     rw[hk] at h;obtain⟨w1,B1,C1,k1,k2,k3,k4⟩:=r.kid hk;obtain⟨w,B,C,h1,h2,h3,h4⟩:=ih k2 h;refine⟨w,B,C++C1,⟨w1,k1,h1⟩,h2,λ b=>by rw[k3,h3,zA0];lia,λ{F' H' W} d' B' k hc r'=>?_⟩;obtain⟨A1,q1,q2⟩:=h4 d' B' k (λ b hb=>hc b (zAb.mpr (.inl hb))) r';obtain⟨A2,q3,q4⟩:=k4 (e.setP p d') A1 k (λ b hb=>hc b (zAb.mpr (.inr hb))) q1;refine⟨A2,?_,λ b=>by rw[q4,q2,zA0];lia⟩;unfold D.setP;rw[hk];exact q3
def A6(ds:Ds)(i:Nat)(p:List Nat):Option D:=match ds[i]? with
 | some d=>d.getP p
 | none=>none
def Bf(ds:Ds)(i:Nat)(p:List Nat)(x:D):Ds:=match ds[i]? with
 | some d=>ds.set i (d.setP p x)
 | none=>ds
theorem qZ8{p:List Nat}{d:D}(h:D.getP .unk p=some d):p=[]/\d=.unk:=by
 cases p with
 | nil=>cases h;exact⟨rfl,rfl⟩
 | cons n p=>simp[D.getP,D.kids] at h
theorem Locs.place{σ:List (Option V)}{ds:Ds}{A:List Addr}{p:List Nat}{d:D}(L:Locs F H σ ds A)(h:A6 ds i p=some d)(hd:d≠.unk):∃(u w:V)(B C:List Addr),σ[i]? = some (some u)/\Walk H u p w/\Rep F H w d B/\(∀ b,A.count b=B.count b+C.count b) /\
   ∀{F':Addr->Prop}{H':Hp}{W:Addr->Prop}(d':D)(B':List Addr),Kp F H W F' H'->(∀ b∈C,¬ W b)->Rep F' H' w d' B'->∃ A':List Addr,Locs F' H' σ (Bf ds i p d') A'/\∀ b,A'.count b=B'.count b+C.count b:=by
 unfold A6 at h;cases hi:ds[i]? with
 | none=>rw[hi] at h;cases h
 | some d0 =>
   rw[hi] at h;obtain⟨σ1,o,σ2,ds1,ds2,A1,B0,A2,e1,e2,e3,e4,e5,l1,l2,l3⟩:=L.split hi;cases l2 with
   | no=>exact absurd (qZ8 h).2 hd
   | @so u _ _ r =>
     obtain⟨w,B,C,h1,h2,h3,h4⟩:=r.path h;refine⟨u,w,B,A1++(C++A2),by rw[e1];exact qy4 e3,h1,h2,λ b=>by rw[e5];simp only[zA0,h3];lia,λ{F' H' W} d' B' k hc r'=>?_⟩;obtain⟨A',q1,q2⟩:=h4 d' B' k (λ b hb=>hc b (zAb.mpr (.inr (zAb.mpr (.inl hb))))) r';refine⟨A1++(A'++A2),?_,λ b=>by simp only[zA0,q2];lia⟩;unfold Bf;rw[hi,e1];dsimp only;rw[e2,qm0 e4];exact(l1.keep k λ b hb=>hc b (zAb.mpr (.inl hb))).append (.so q1 (l3.keep k λ b hb=>hc b (zAb.mpr (.inr (zAb.mpr (.inr hb))))))
theorem Lnk.fn{u:V}(h:Lnk H u n v)(h':Lnk H u n w):v=w:=by
 obtain⟨a,rfl,h⟩:=h;obtain⟨b,e,h'⟩:=h';cases e;rcases h with⟨vs,e,h⟩ | ⟨vs,e,h⟩ | ⟨vs,e,h⟩ | ⟨C,dx,vs,e,h⟩<;>rcases h' with⟨vs',e',h'⟩ | ⟨vs',e',h'⟩ | ⟨vs',e',h'⟩ | ⟨C',dx',vs',e',h'⟩<;>rw[e] at e'<;>cases e'<;>rw[h] at h'<;>exact Option.some.inj h'
theorem Walk.fn:∀{p:List Nat}{u v w:V},Walk H u p v->Walk H u p w->v=w
 | [],_,_,_,h,h'=>h.symm.trans h'
 | n::p,_,_,_,⟨x,h1,h2⟩,⟨y,h3,h4⟩=>by
   cases h1.fn h3;exact Walk.fn h2 h4
theorem Lnk.same{u:V}(h:Lnk H u n v)(s:Same H H'):Lnk H' u n v:=by
 obtain⟨a,rfl,h⟩:=h;refine⟨a,rfl,?_⟩;rcases h with⟨vs,e,h⟩ | ⟨vs,e,h⟩ | ⟨vs,e,h⟩ | ⟨C,dx,vs,e,h⟩
 . exact .inl ⟨vs,s _ _ e,h⟩
 . exact .inr (.inl ⟨vs,s _ _ e,h⟩)
 . exact .inr (.inr (.inl ⟨vs,s _ _ e,h⟩))
 exact .inr (.inr (.inr ⟨C,dx,vs,s _ _ e,h⟩))
theorem Walk.same:∀{p:List Nat}{u v:V},Walk H u p v->Same H H'->Walk H' u p v
 | [],_,_,h,_=>h
 | n::p,_,_,⟨x,h1,h2⟩,s=>⟨x,h1.same s,h2.same s⟩
end
section
variable{c:Vc}{X:Cx}{b:Expr}{nw:Bool}{r:R2}{g:D->D->Option D}{tb:VT}
def t2n(g:D->D->Option D)(i:Nat)(tb:VT):VT:=λ ds Q xe=>(rdN i ds).isSome=true/\tb ds (λ y ds1=>orF ((rdN i ds1).bind λ x=>g x y) λ d=>Q d ds1) xe
theorem qao2(hb:VE c X b tb):∀ ds (Q Q':DK) (xe xe':XKd),(∀ d ds',Q d ds'->Q' d ds')->(∀ x ds',xe x ds'->xe' x ds')->t2n g i tb ds Q xe->t2n g i tb ds Q' xe' :=
 λ ds Q Q' xe xe' hQ hx=>And.imp_right (hb.m _ _ _ _ _ (λ d ds1=>qa4 λ z=>hQ z ds1) hx)
theorem Sta.name{F:Addr->Prop}{H:Hp}{σ:St}{ds:Ds}{A:List Addr}{d:D}(S:Sta c F H σ ds A)(hi:i < σ.length)(h:rdN i ds=some d):∃ v B,σ[i]? = some (some v)/\Rep F H v d B/\∀ b,B.count b<=A.count b :=
 let ⟨e,k⟩:=qj0.mp h
 S.at hi e k
theorem op_ne{σ:St}{H:Hp}(hb:VE c X b tb)(h:Ay true r g)(hi:i < σ.length)(q:Bd c (t2n g i tb) σ H Q):tOp r (Er i) (Bd c tb) σ H Q:=by
 obtain⟨F,ds,A,xe,S,x,hs,q⟩:=q;obtain⟨d0,hd0⟩:=zB4.mp hs;obtain⟨v,B0,hv,_,_⟩:=S.name hi hd0;refine⟨v,hv,F,ds,A,xe,S,x,hb.m _ _ _ _ _ (λ d1 ds1 q w H1 F1 T A1 r1 S1 o1 s1=>?_) (λ _ _ z=>z) q⟩;have s1':Stp F H A F1 H1 A1:=s1.count λ b=>by rw[zA0];lia
 obtain⟨d,eg,q⟩:=qa6.mp q;obtain⟨y,ey,eg⟩:=zA1.mp eg;obtain⟨v',B,hv',r2,_⟩:=S1.name hi ey;rw[hv] at hv';cases hv';refine h F1 H1 v w y d1 _ d Q (Et r2 r1) eg λ u H3 B3 r3 s3 n3=>?_
 rw[if_pos rfl] at n3;exact q u H3 F1 B3 A1 r3 (S1.same s3) (S1.new n3 s3) (s1'.trans (n3.stp s3))
def Hi(g:D->D->Option D)(i:Nat)(tb:VT):VT:=λ ds Q xe=>(rdN i ds).isSome=true/\tb ds (λ y ds1=>orF ((rdN i ds1).bind λ x=>g x y) λ d=>d.imm=true/\Q d ds1) xe
theorem qad2(hb:VE c X b tb):∀ ds (Q Q':DK) (xe xe':XKd),(∀ d ds',Q d ds'->Q' d ds')->(∀ x ds',xe x ds'->xe' x ds')->Hi g i tb ds Q xe->Hi g i tb ds Q' xe' :=
 λ ds Q Q' xe xe' hQ hx=>And.imp_right (hb.m _ _ _ _ _ (λ d ds1=>qa4 λ z=>And.imp_right (hQ z ds1)) hx)
theorem qaI8{σ:St}{H:Hp}(hb:VE c X b tb)(h:Ay nw r g)(hi:i < σ.length)(q:Bd c (Hi g i tb) σ H Q):tOp r (Er i) (Bd c tb) σ H Q:=by
 obtain⟨F,ds,A,xe,S,x,hs,q⟩:=q;obtain⟨d0,hd0⟩:=zB4.mp hs;obtain⟨v,B0,hv,_,_⟩:=S.name hi hd0;refine⟨v,hv,F,ds,A,xe,S,x,hb.m _ _ _ _ _ (λ d1 ds1 q w H1 F1 T A1 r1 S1 o1 s1=>?_) (λ _ _ z=>z) q⟩;have s1':Stp F H A F1 H1 A1:=s1.count λ b=>by rw[zA0];lia
 obtain⟨d,eg,hm,q⟩:=qa6.mp q;obtain⟨y,ey,eg⟩:=zA1.mp eg;obtain⟨v',B,hv',r2,_⟩:=S1.name hi ey;rw[hv] at hv';cases hv';refine h F1 H1 v w y d1 _ d Q (Et r2 r1) eg λ u H3 B3 r3 s3 n3=>?_
 have:=r3.imm hm
 subst this;exact q u H3 F1 [] A1 r3 (S1.same s3) (S1.ok.same s3) (s1'.trans (.same s3))
end
section
variable{F:Addr->Prop}{H:Hp}{K:PySem.W.Frag}
theorem Rep.lst_inv{ds:List D}{B:List Addr}(r:Rep F H v (.lst z ds) B):∃ a vs A,v=.ref a/\H a=some (.lst vs)/\Reps F H vs ds A/\∀ b,A.count b<=B.count b:=by
 cases r with
 | lst h r=>exact⟨_,_,_,rfl,h,r,λ b=>by rw[zAl];lia⟩
 | lstZ h f r=>exact⟨_,_,_,rfl,h,r,λ b=>zA2 _⟩
theorem Rep.tup_inv{ds:List D}{B:List Addr}(r:Rep F H v (.tup ds) B):∃ a vs,v=.ref a/\H a=some (.tup vs)/\Reps F H vs ds B:=by
 cases r with
 | tup h r=>exact⟨_,_,rfl,h,r⟩
theorem Rep.dct_inv{kds:List (Key×D)}{B:List Addr}(r:Rep F H v (.dct z kds) B):∃ a kvs A,v=.ref a/\H a=some (.dK kvs)/\kvs.map (·.1)=kds.map (·.1)/\Reps F H (kvs.map (·.2)) (kds.map (·.2)) A/\∀ b,A.count b<=B.count b:=by
 cases r with
 | dct h e r=>exact⟨_,_,_,rfl,h,e,r,λ b=>by rw[zAl];lia⟩
 | dctZ h f e r=>exact⟨_,_,_,rfl,h,e,r,λ b=>zA2 _⟩
theorem Rep.ins_inv{C:Addr}{fds:List (Str×D)}{B:List Addr}(r:Rep F H v (.ins z C fds) B):∃ a dx fvs A,v=.ref a/\H a=some (.ins C dx fvs)/\fvs.map (·.1)=fds.map (·.1)/\Reps F H (fvs.map (·.2)) (fds.map (·.2)) A/\∀ b,A.count b<=B.count b:=by
 cases r with
 | ins h e r=>exact⟨_,_,_,_,rfl,h,e,r,λ b=>by rw[zAl];lia⟩
 | insZ h f e r=>exact⟨_,_,_,_,rfl,h,e,r,λ b=>zA2 _⟩
def D.elems:D->Option Ds
 | .lst _ ds=>some ds
 | .tup ds=>some ds
 | _=>none
theorem Rep.elems{d:D}{ds:Ds}{B:List Addr}(r:Rep F H v d B)(h:d.elems=some ds):∃ a vs A,v=.ref a/\(SqL K H a vs∨SqT K H a vs)/\Reps F H vs ds A/\∀ b,A.count b<=B.count b:=by
 cases d with
 | lst z xs=>cases h;obtain⟨a,vs,A,e,h,r,q⟩:=r.lst_inv;exact⟨a,vs,A,e,.inl (.inl (.inl h)),r,q⟩
 | tup xs=>cases h;obtain⟨a,vs,e,h,r⟩:=r.tup_inv;exact⟨a,vs,_,e,.inr (.inl (.inl h)),r,λ _=>zA2 _⟩
 | _=>cases h
theorem Reps.len{ds:List D}{A:List Addr}(r:Reps F H vs ds A):vs.length=ds.length:=by
 induction vs generalizing ds A with
 | nil=>cases r;rfl
 | cons v vs ih=>cases r with | cons h t=>simp[ih t]
theorem qf2{p:Addr}(hp:H p=none):New H [p]:=⟨λ b=>by rw[zAl];simp;split<;>lia,λ b o e=>by
 have:b≠p:=λ z=>by rw[z,hp] at e;cases e
 simp[zAl,Ne.symm this]⟩
theorem qp5{p:Addr}{ds:Ds}(hp:H p=none)(r:Reps F H vs ds []):Rep F (upd H p (.lst vs)) (.ref p) (.lst false ds) [p]:=.lst qb8 (r.same (Same.new hp))
theorem qX7{p:Addr}{ds:Ds}{A:List Addr}(hp:H p=none)(r:Reps F H vs ds A):Rep F (upd H p (.tup vs)) (.ref p) (.tup ds) A:=.tup qb8 (r.same (Same.new hp))
theorem Reps.get{ds:List D}{A:List Addr}{d:D}(r:Reps F H vs ds A)(h:ds[n]? = some d):∃ w B,vs[n]? = some w/\Rep F H w d B/\∀ b,B.count b<=A.count b:=by
 obtain⟨w,B,C,h1,h2,h3,_⟩:=r.kid h;exact⟨w,B,h1,h2,λ b=>by have:=h3 b;lia⟩
theorem Reps.atI{ds:List D}{A:List Addr}{i:Int}{d:D}(r:Reps F H vs ds A)(h:L2.atI ds i=some d):∃ w B,L2.atI vs i=some w/\Rep F H w d B/\∀ b,B.count b<=A.count b:=by
 unfold L2.atI at h ⊢;rw[r.len];cases e:ixN ds.length i with
 | none=>rw[e] at h;cases h
 | some j =>
   rw[e] at h;exact r.get h
theorem Reps.sub{ds:List D}{A:List Addr}(r:Reps F H vs ds A)(n m:Nat):∃ B,Reps F H ((vs.drop n).take m) ((ds.drop n).take m) B/\∀ b,B.count b<=A.count b:=by
 induction n generalizing vs ds A with
 | zero =>
   induction m generalizing vs ds A with
   | zero=>exact⟨[],.nil,λ b=>by simp⟩
   | succ m ih =>
     cases r with
     | nil=>exact⟨[],.nil,λ b=>by simp⟩
     | cons h t =>
       obtain⟨B,q1,q2⟩:=ih t;exact⟨_,.cons h (by simpa using q1),λ b=>by simp only[zA0];have:=q2 b;lia⟩
 | succ n ih =>
   cases r with
   | nil=>exact⟨[],by simpa using Reps.nil,λ b=>by simp⟩
   | cons h t =>
     obtain⟨B,q1,q2⟩:=ih t;exact⟨B,by simpa using q1,λ b=>by simp only[zA0];have:=q2 b;lia⟩
def D.flat:D->Option V
 | .non=>some .non
 | .bl b=>some (.bl b)
 | .int i=>some (.int i)
 | .str x=>some (.str x)
 | _=>none
theorem Rep.flat{d:D}{B:List Addr}(r:Rep F H v d B)(h:d.flat=some w):v=w/\flatV v=true:=by
 cases r<;>cases h<;>exact⟨rfl,rfl⟩
end
def big:Nat:=1000000
theorem qg8:big<=sizeLine:=by decide
section
variable{F:Addr->Prop}{H:Hp}
theorem Reps.imms0{ds:Ds}{A:List Addr}(r:Reps F H vs ds A)(h:D.imms ds=true):Reps F H vs ds []:=by
 have:=r.imms h
 subst this;exact r
theorem Reps.rep{ds:Ds}(r:Reps F H vs ds []):∀ k:Nat,Reps F H (List.replicate k vs).flatten (List.replicate k ds).flatten []
 | 0=>.nil
 | k+1=>by
   rw[zBh,zBh,zC1,zC1];exact r.append (B:=[]) (r.rep k)
end
def gd(p:Prop)[Decidable p](d:D):Option D:=if p then some d else none
theorem qp1{p:Prop}[Decidable p]{d e:D}(h:gd p d=some e):p/\d=e:=by
 unfold gd at h;split at h
 . rename_i hp;exact⟨hp,Option.some.inj h⟩
 cases h
theorem qr0{p:Prop}[Decidable p]{d:D}(h:p):gd p d=some d:=if_pos h
def G0:D->D->Option D
 | .int i,.int j=>some (.int (i+j))
 | .str a,.str b=>gd (a.length+b.length<=big) (.str (a++b))
 | .lst _ xs,.lst _ ys=>gd (D.imms xs=true/\D.imms ys=true/\xs.length+ys.length<=big) (.lst false (xs++ys))
 | _,_=>none
def rAddA:R2:=λ x y H Q=>rI0 (λ i j=>.int (i+j)) x y H Q∨(∃ i j,x=.str i/\y=.str j/\i.length+j.length<=sizeLine/\Q (.str (i++j)) H)∨rCat x y H Q
theorem qg1{X:Cx}:OpR X (binaryOp .Add) rAddA:=qaJ5.or (qX4.or qaJ4)
theorem qg0:Ay true rAddA G0:=by
 intro F H v w x y B d Q r h q;cases r with | @cons _ _ A _ _ _ r1 t=>cases t with | @cons _ _ A2 _ _ _ r2 _ =>
 cases x with
 | int i =>
   cases y with
   | int j=>cases h;cases r1;cases r2;exact .inl ⟨i,j,rfl,rfl,q _ H [] (.int _) (λ _ _ z=>z) New.nil⟩
   | _=>cases h
 | str a =>
   cases y with
   | str b =>
     obtain⟨hl,rfl⟩:=qp1 h;cases r1;cases r2;exact .inr (.inl ⟨a,b,rfl,rfl,zAn hl qg8,q _ H [] (.str _) (λ _ _ z=>z) New.nil⟩)
   | _=>cases h
 | lst z xs =>
   cases y with
   | lst z2 ys =>
     obtain⟨hl,rfl⟩:=qp1 h;obtain⟨a,vs,_,rfl,h1,q1,_⟩:=r1.lst_inv;obtain⟨b,ws,_,rfl,h2,q2,_⟩:=r2.lst_inv;refine .inr (.inr ⟨a,b,vs,ws,rfl,rfl,h1,h2,by rw[q1.len,q2.len];exact zAn hl.2.2 qg8,λ p hp=>?_⟩);exact q _ _ [p] (qp5 hp ((q1.imms0 hl.1).append (q2.imms0 hl.2.1))) (Same.new hp) (qf2 hp)
   | _=>cases h
 | _=>cases h
def small(i:Int):Bool:=decide (-(2 ^ 64) < i)&&decide (i < 2 ^ 64)
theorem qM2{i:Int}(h:small i=true):-(2 ^ 64) < i/\i < 2 ^ 64:=by
 have:=zAh.mp h
 exact⟨zAf this.1,zAf this.2⟩
def G1:D->D->Option D
 | .int i,.int j=>gd ((small i||small j)=true) (.int (i * j))
 | .lst _ xs,.int k=>gd (D.imms xs=true/\xs.length * k.toNat<=big/\k < 1000000/\-1000000 < k) (.lst false (List.replicate k.toNat xs).flatten)
 | _,_=>none
def rMulA:R2:=λ x y H Q=>rI CMul (λ i j=>.int (i * j)) x y H Q∨rRep x y H Q
theorem qw0{X:Cx}:OpR X (binaryOp .Mult) rMulA:=qaI9.or qaI6
theorem qv9:Ay true rMulA G1:=by
 intro F H v w x y B d Q r h q;cases r with | @cons _ _ A _ _ _ r1 t=>cases t with | @cons _ _ A2 _ _ _ r2 _ =>
 cases x with
 | int i =>
   cases y with
   | int j =>
     obtain⟨hl,rfl⟩:=qp1 h;cases r1;cases r2;refine .inl ⟨i,j,rfl,rfl,?_,q _ H [] (.int _) (λ _ _ z=>z) New.nil⟩;rcases Bool.or_eq_true_iff.mp hl with h | h
     . exact .inl (qM2 h)
     exact .inr (qM2 h)
   | _=>cases h
 | lst z xs =>
   cases y with
   | int k =>
     obtain⟨hl,rfl⟩:=qp1 h;obtain⟨a,vs,_,rfl,h1,q1,_⟩:=r1.lst_inv;cases r2;refine .inr ⟨a,k,vs,rfl,rfl,h1,by lia,by lia,by rw[q1.len];exact zAn hl.2.1 qg8,λ p hp=>?_⟩;exact q _ _ [p] (qp5 hp ((q1.imms0 hl.1).rep _)) (Same.new hp) (qf2 hp)
   | _=>cases h
 | _=>cases h
def gI(p:Int->Int->Bool)(f:Int->Int->D):D->D->Option D
 | .int i,.int j=>gd (p i j=true) (f i j)
 | _,_=>none
theorem os_I{C:Int->Int->Prop}{p:Int->Int->Bool}{f:Int->Int->D}{fv:Int->Int->V}(hp:∀ i j,p i j=true->C i j)(hf:∀ F H i j,Rep F H (fv i j) (f i j) []):Ay true (rI C fv) (gI p f):=by
 intro F H v w x y B d Q r h q;cases r with | @cons _ _ A _ _ _ r1 t=>cases t with | @cons _ _ A2 _ _ _ r2 _ =>
 cases x with
 | int i =>
   cases y with
   | int j =>
     obtain⟨hl,rfl⟩:=qp1 h;cases r1;cases r2;exact⟨i,j,rfl,rfl,hp i j hl,q _ H [] (hf F H i j) (λ _ _ z=>z) New.nil⟩
   | _=>cases h
 | _=>cases h
theorem Fg{f:Int->Int->D}{fv:Int->Int->V}(hf:∀ F H i j,Rep F H (fv i j) (f i j) []):Ay true (rI0 fv) (gI (λ _ _=>true) f):=by
 intro F H v w x y B d Q r h q;obtain⟨i,j,h1,h2,_,h3⟩:=os_I (C:=λ _ _=>True) (fv:=fv) (λ _ _ _=>trivial) hf F H v w x y B d Q r h q;exact⟨i,j,h1,h2,h3⟩
def gSub:=gI (λ _ _=>true) λ i j=>.int (i - j)
def gDiv:=gI (λ _ j=>decide (0 < j)&&decide (j < 2 ^ 200)) λ i j=>.int (i / j)
def G2:=gI (λ _ j=>decide (0 < j)) λ i j=>.int (i % j)
def gLt:=gI (λ _ _=>true) λ i j=>.bl (decide (i < j))
def gLe:=gI (λ _ _=>true) λ i j=>.bl (decide (i<=j))
def gGt:=gI (λ _ _=>true) λ i j=>.bl (decide (j < i))
def gGe:=gI (λ _ _=>true) λ i j=>.bl (decide (j<=i))
theorem qA1:Ay true (rI0 λ i j=>.int (i - j)) gSub:=Fg λ _ _ _ _=>.int _
theorem qaq7:Ay true (rI CDivB λ i j=>.int (i / j)) gDiv:=os_I (λ i j h=>by
 have:=zAh.mp h
 exact⟨zAf this.1,zAf this.2⟩) λ _ _ _ _=>.int _
theorem qk8:Ay true (rI (λ _ j=>0 < j) λ i j=>.int (i % j)) G2:=os_I (λ i j h=>zAf h) λ _ _ _ _=>.int _
theorem Hj:Ay true (rI0 λ i j=>.bl (decide (i < j))) gLt:=Fg λ _ _ _ _=>.bl _
theorem os_le:Ay true (rI0 λ i j=>.bl (decide (i<=j))) gLe:=Fg λ _ _ _ _=>.bl _
theorem Di:Ay true (rI0 λ i j=>.bl (decide (j < i))) gGt:=Fg λ _ _ _ _=>.bl _
theorem Hk:Ay true (rI0 λ i j=>.bl (decide (j<=i))) gGe:=Fg λ _ _ _ _=>.bl _
def D.isN:D->Option Bool
 | .non=>some true
 | .unk=>none
 | .hole _=>none
 | _=>some false
theorem Rep.isN{F:Addr->Prop}{H:Hp}{d:D}{B:List Addr}{b:Bool}(r:Rep F H v d B)(h:d.isN=some b):decide (v=.non)=b:=by
 cases r<;>cases h<;>rfl
def gIs:D->D->Option D
 | x,.non=>x.isN.map .bl
 | .bl a,.bl b=>some (.bl (a == b))
 | _,_=>none
def rIs:R2:=λ x y H Q=>(y=.non/\Q (.bl (decide (x=.non))) H)∨(∃ b c,x=.bl b/\y=.bl c/\Q (.bl (b == c)) H)
theorem Fh:Ay true rIs gIs:=by
 intro F H v w x y B d Q r h q;cases r with | @cons _ _ A _ _ _ r1 t=>cases t with | @cons _ _ A2 _ _ _ r2 _ =>
 cases y with
 | non =>
   cases r2;have h:x.isN.map D.bl=some d:=by cases x<;>exact h
   cases e:x.isN with
   | none=>rw[e] at h;cases h
   | some b =>
     rw[e] at h;cases h;refine .inl ⟨rfl,?_⟩;rw[r1.isN e];exact q _ H [] (.bl _) (λ _ _ z=>z) New.nil
 | bl b =>
   cases x with
   | bl a=>cases h;cases r1;cases r2;exact .inr ⟨a,b,rfl,rfl,q _ H [] (.bl _) (λ _ _ z=>z) New.nil⟩
   | _=>cases h
 | _=>cases x<;>cases h
theorem Fi{X:Cx}:OpR X (compareOp .Is) rIs:=qaJ0.or qaJ1
theorem qaA1{X:Cx}:OpR X (compareOp .IsNot) (λ x y H Q=>∃ b c,x=.bl b/\y=.bl c/\Q (.bl (b != c)) H):=by
 intro D6 s σ H x y v u Q I rx ry ⟨b,c,e1,e2,q⟩;subst e1;subst e2;cases rx;cases ry;exact PyProof.Rows.isnot_bool ⟨.bl (b != c),H,I,rfl,q⟩
def gIsn:D->D->Option D
 | x,.non=>x.isN.map λ b=>.bl (!b)
 | .bl a,.bl b=>some (.bl (a != b))
 | _,_=>none
def rIsn:R2:=λ x y H Q=>(y=.non/\Q (.bl (!decide (x=.non))) H)∨(∃ b c,x=.bl b/\y=.bl c/\Q (.bl (b != c)) H)
theorem qt6:Ay true rIsn gIsn:=by
 intro F H v w x y B d Q r h q;cases r with | @cons _ _ A _ _ _ r1 t=>cases t with | @cons _ _ A2 _ _ _ r2 _ =>
 cases y with
 | non =>
   cases r2;have h:x.isN.map (λ b=>D.bl (!b))=some d:=by cases x<;>exact h
   cases e:x.isN with
   | none=>rw[e] at h;cases h
   | some b =>
     rw[e] at h;cases h;refine .inl ⟨rfl,?_⟩;rw[r1.isN e];exact q _ H [] (.bl _) (λ _ _ z=>z) New.nil
 | bl b =>
   cases x with
   | bl a=>cases h;cases r1;cases r2;exact .inr ⟨a,b,rfl,rfl,q _ H [] (.bl _) (λ _ _ z=>z) New.nil⟩
   | _=>cases h
 | _=>cases x<;>cases h
theorem qo7{X:Cx}:OpR X (compareOp .IsNot) rIsn:=qaA0.or qaA1
def E9(f:D->D->Option Bool):List D->List D->Option Bool
 | [],[]=>some true
 | x::xs,y::ys=>(f x y).bind λ a=>(E9 f xs ys).bind λ b=>some (a&&b)
 | _,_=>some false
def eqF(x y:D):Option Bool:=match x.flat,y.flat with
 | some v,some w=>some (eqV v w)
 | _,_=>none
def D.d0:D->Bool
 | .dct _ []=>true
 | _=>false
def eqZ(x y:D):Option Bool:=if (x.d0&&y.d0)=true then some true else eqF x y
def eqN:Nat->D->D->Option Bool
 | n+1,.lst _ xs,.lst _ ys=>E9 (eqN n) xs ys
 | n+1,.tup xs,.tup ys=>E9 (eqN n) xs ys
 | _,x,y=>eqZ x y
theorem qu7{f:D->D->Option Bool}:∀{xs ys:List D}{b:Bool},E9 f xs ys=some b->∃ e:Nat->Bool,(∀ i x y,xs[i]? = some x->ys[i]? = some y->f x y=some (e i))/\b=((List.range (min xs.length ys.length)).all e&&xs.length == ys.length)
 | [],[],b,h=>by cases h;exact⟨λ _=>true,λ i x y h=>by simp at h,by simp⟩
 | [],y::ys,b,h=>by cases h;exact⟨λ _=>true,λ i x y h=>by simp at h,by simp⟩
 | x::xs,[],b,h=>by cases h;exact⟨λ _=>true,λ i x y _ h=>by simp at h,by simp⟩
 | x::xs,y::ys,b,h=>by
   obtain⟨a,h1,h⟩:=zA1.mp h;obtain⟨b',h2,h⟩:=zA1.mp h;cases h;obtain⟨e,q1,q2⟩:=qu7 h2;refine⟨λ i=>match i with | 0=>a | i+1=>e i,λ i x' y' hx hy=>?_,?_⟩
   . cases i with
     | zero =>
       have e1:x=x':=by simpa using hx
       have e2:y=y':=by simpa using hy
       subst e1;subst e2;exact h1
     | succ i=>exact q1 i x' y' (by simpa using hx) (by simpa using hy)
   rw[q2,zAk,zAk,Nat.add_min_add_right,List.range_succ_eq_map,List.all_cons,List.all_map];show _=(_&&_&&_)
   have:(xs.length+1 == ys.length+1)=(xs.length == ys.length):=by
     by_cases h:xs.length=ys.length
     . simp[h]
     simp[h]
   rw[this,<- Bool.and_assoc];rfl
section
variable{F:Addr->Prop}{H:Hp}
theorem Rep.eqF{x y:D}{A B:List Addr}{b:Bool}(r1:Rep F H v x A)(r2:Rep F H w y B)(h:LV.eqF x y=some b):flatV v=true/\flatV w=true/\eqV v w=b:=by
 unfold LV.eqF at h;cases e1:x.flat with
 | none=>rw[e1] at h;cases h
 | some v' =>
   cases e2:y.flat with
   | none=>rw[e1,e2] at h;cases h
   | some w' =>
     rw[e1,e2] at h;obtain⟨rfl,f1⟩:=r1.flat e1;obtain⟨rfl,f2⟩:=r2.flat e2;exact⟨f1,f2,Option.some.inj h⟩
theorem Rep.d0{x:D}{A:List Addr}(r:Rep F H v x A)(h:x.d0=true):∃ a,v=.ref a/\H a=some (.dK []):=by
 cases x with
 | dct z kvs =>
   cases kvs with
   | nil =>
     cases r with
     | dct e q _=>exact⟨_,rfl,by rw[e,List.map_eq_nil_iff.mp q]⟩
     | dctZ e _ q _=>exact⟨_,rfl,by rw[e,List.map_eq_nil_iff.mp q]⟩
   | cons=>cases h
 | _=>cases h
theorem Rep.eqZ{x y:D}{A B:List Addr}{b:Bool}(r1:Rep F H v x A)(r2:Rep F H w y B)(h:LV.eqZ x y=some b):(flatV v=true/\flatV w=true/\eqV v w=b)∨(b=true/\∃ a a',v=.ref a/\w=.ref a'/\H a=some (.dK [])/\H a'=some (.dK [])):=by
 unfold LV.eqZ at h;split at h
 . rename_i hd
   obtain⟨h1,h2⟩:=zAh.mp hd;obtain⟨a,e1,q1⟩:=r1.d0 h1;obtain⟨a',e2,q2⟩:=r2.d0 h2;cases h;exact .inr ⟨rfl,a,a',e1,e2,q1,q2⟩
 exact .inl (r1.eqF r2 h)
theorem qO9(n:Nat)(x y:D):(eqN (n+1) x y=LV.eqZ x y)∨(∃ z xs z' ys,x=.lst z xs/\y=.lst z' ys)∨∃ xs ys,x=.tup xs/\y=.tup ys:=by
 cases x with
 | lst z xs=>cases y with
   | lst z' ys=>exact .inr (.inl ⟨_,_,_,_,rfl,rfl⟩)
   | _=>exact .inl rfl
 | tup xs=>cases y with
   | tup ys=>exact .inr (.inr ⟨_,_,rfl,rfl⟩)
   | _=>exact .inl rfl
 | _=>exact .inl rfl
theorem qK7(x y:D):eqN 0 x y=LV.eqZ x y:=by cases x<;>cases y<;>rfl
theorem qP0(ih:∀{v:V}{x y:D}{A B:List Addr}{b:Bool},Rep F H v x A->Rep F H v y B->eqN n x y=some b->b=true):∀{vs:List V}{xs ys:List D}{A B:List Addr}{b:Bool},Reps F H vs xs A->Reps F H vs ys B->E9 (eqN n) xs ys=some b->b=true:=by
 intro vs
 induction vs with
 | nil=>intro xs ys A B b r1 r2 h;cases r1;cases r2;cases h;rfl
 | cons v vs ihv =>
   intro xs ys A B b r1 r2 h;cases r1 with | cons p1 t1=>cases r2 with | cons p2 t2 =>
   obtain⟨a,h1,h⟩:=zA1.mp h;obtain⟨b',h2,h⟩:=zA1.mp h;cases h;rw[ih p1 p2 h1,ihv t1 t2 h2];rfl
theorem qaa4:∀{n:Nat}{v:V}{x y:D}{A B:List Addr}{b:Bool},Rep F H v x A->Rep F H v y B->eqN n x y=some b->b=true:=by
 intro n
 induction n with
 | zero =>
   intro v x y A B b r1 r2 h;rw[qK7] at h;rcases r1.eqZ r2 h with⟨f1,f2,rfl⟩ | ⟨rfl,_⟩
   . exact qu6 f1
   rfl
 | succ n ih =>
   intro v x y A B b r1 r2 h;rcases qO9 n x y with e | ⟨z,xs,z',ys,rfl,rfl⟩ | ⟨xs,ys,rfl,rfl⟩
   . rw[e] at h
     rcases r1.eqZ r2 h with⟨f1,f2,rfl⟩ | ⟨rfl,_⟩
     . exact qu6 f1
     rfl
   . obtain⟨a,vs,_,rfl,h1,q1,_⟩:=r1.lst_inv
     obtain⟨a',vs',_,e,h2,q2,_⟩:=r2.lst_inv;cases e;rw[h1] at h2;cases h2;exact qP0 ih q1 q2 h
   obtain⟨a,vs,rfl,h1,q1⟩:=r1.tup_inv;obtain⟨a',vs',e,h2,q2⟩:=r2.tup_inv;cases e;rw[h1] at h2;cases h2;exact qP0 ih q1 q2 h
theorem Reps.getV{ds:List D}{A:List Addr}(r:Reps F H vs ds A)(h:vs[n]? = some w):∃ d B,ds[n]? = some d/\Rep F H w d B:=by
 have hl:=r.len;have hn:n < vs.length:=(zA5.mp h).1;obtain⟨w',B,h1,h2,_⟩:=r.get (n:=n) (d:=ds[n]'(by lia)) (by simp);rw[h] at h1;cases h1;exact⟨_,B,by simp,h2⟩
theorem qO7{x y:D}{A B:List Addr}{b:Bool}(r1:Rep F H v x A)(r2:Rep F H w y B)(h:LV.eqZ x y=some b):EqD H n v w b:=by
 rcases r1.eqZ r2 h with⟨f1,f2,rfl⟩ | ⟨rfl,a,a',rfl,rfl,q1,q2⟩
 . exact .flat f1 f2
 by_cases ne:a=a'
 . subst ne;exact .same a
 exact .dcts ne q1 q2
theorem qO8:∀{n:Nat}{v w:V}{x y:D}{A B:List Addr}{b:Bool},Rep F H v x A->Rep F H w y B->eqN n x y=some b->EqD H n v w b:=by
 intro n
 induction n with
 | zero =>
   intro v w x y A B b r1 r2 h;rw[qK7] at h;exact qO7 r1 r2 h
 | succ n ih =>
   intro v w x y A B b r1 r2 h;rcases qO9 n x y with e | ⟨z,xs,z',ys,rfl,rfl⟩ | ⟨xs,ys,rfl,rfl⟩
   . rw[e] at h
     exact qO7 r1 r2 h
   . obtain⟨a,vs,_,rfl,h1,q1,_⟩:=r1.lst_inv
     obtain⟨a',ws,_,rfl,h2,q2,_⟩:=r2.lst_inv;by_cases ne:a=a'
     . subst ne
       cases qaa4 (n:=n+1) r1 r2 h;exact .same a
     obtain⟨e,k1,rfl⟩:=qu7 h;rw[<- q1.len,<- q2.len];by_cases hl:vs.length=ws.length
     . rw[hl,Nat.min_self,zBm,Bool.and_true,<- hl]
       refine .lsts ne h1 h2 hl λ i p q e1 e2=>?_
       obtain⟨x,_,ex,rx⟩:=q1.getV e1;obtain⟨y,_,ey,ry⟩:=q2.getV e2;exact ih rx ry (k1 i x y ex ey)
     have:(vs.length == ws.length)=false:=by simpa using hl
     rw[this,Bool.and_false];exact .lens ne h1 h2 hl
   obtain⟨a,vs,rfl,h1,q1⟩:=r1.tup_inv;obtain⟨a',ws,rfl,h2,q2⟩:=r2.tup_inv;by_cases ne:a=a'
   . subst ne
     cases qaa4 (n:=n+1) r1 r2 h;exact .same a
   obtain⟨e,k1,rfl⟩:=qu7 h;rw[<- q1.len,<- q2.len];refine .tups ne h1 h2 λ i p q e1 e2=>?_
   obtain⟨x,_,ex,rx⟩:=q1.getV e1;obtain⟨y,_,ey,ry⟩:=q2.getV e2;exact ih rx ry (k1 i x y ex ey)
end
def eqT:D->D->Option Bool
 | .lst _ xs,.lst _ ys=>E9 (eqN 20) xs ys
 | .tup xs,.tup ys=>E9 (eqN 20) xs ys
 | .lst _ _,.tup _=>some false
 | .tup _,.lst _ _=>some false
 | .lst _ _,y=>y.flat.map λ _=>false
 | .tup _,y=>y.flat.map λ _=>false
 | x,.lst _ _=>x.flat.map λ _=>false
 | .dct _ _,.tup _=>some false
 | x,.tup _=>x.flat.map λ _=>false
 | x,y=>eqZ x y
theorem Rep.flatV{F:Addr->Prop}{H:Hp}{d:D}{B:List Addr}{b:Bool}(r:Rep F H v d B)(h:(d.flat.map λ _=>false)=some b):L2.flatV v=true/\b=false:=by
 cases e:d.flat with
 | none=>rw[e] at h;cases h
 | some w=>rw[e] at h;cases h;exact⟨(r.flat e).2,rfl⟩
theorem Rep.rc{F:Addr->Prop}{H:Hp}{x y:D}{A B:List Addr}{b:Bool}(r1:Rep F H v x A)(r2:Rep F H w y B)(h:eqT x y=some b):RcD H v w b:=by
 have flat:LV.eqZ x y=some b->RcD H v w b:=λ h=>by
   rcases r1.eqZ r2 h with⟨f1,f2,rfl⟩ | ⟨rfl,a,a',rfl,rfl,q1,q2⟩
   . exact .flat f1 f2
   exact .dcts q1 q2
 cases x with
 | lst z xs =>
   obtain⟨a,vs,_,rfl,h1,q1,_⟩:=r1.lst_inv;cases y with
   | lst z' ys =>
     obtain⟨a',ws,_,rfl,h2,q2,_⟩:=r2.lst_inv;obtain⟨e,k1,rfl⟩:=qu7 h;rw[<- q1.len,<- q2.len];by_cases hl:vs.length=ws.length
     . rw[hl,Nat.min_self,zBm,Bool.and_true,<- hl]
       refine .lsts h1 h2 hl λ i p q e1 e2=>?_
       obtain⟨x,_,ex,rx⟩:=q1.getV e1;obtain⟨y,_,ey,ry⟩:=q2.getV e2;exact qO8 rx ry (k1 i x y ex ey)
     have:(vs.length == ws.length)=false:=by simpa using hl
     rw[this,Bool.and_false];exact .lens h1 h2 hl
   | tup ys=>obtain⟨a',ws,rfl,h2,q2⟩:=r2.tup_inv;cases h;exact .lt h1 h2
   | _=>obtain⟨f,rfl⟩:=r2.flatV h;exact .lf h1 f
 | tup xs =>
   obtain⟨a,vs,rfl,h1,q1⟩:=r1.tup_inv;cases y with
   | tup ys =>
     obtain⟨a',ws,rfl,h2,q2⟩:=r2.tup_inv;obtain⟨e,k1,rfl⟩:=qu7 h;rw[<- q1.len,<- q2.len];refine .tups h1 h2 λ i p q e1 e2=>?_
     obtain⟨x,_,ex,rx⟩:=q1.getV e1;obtain⟨y,_,ey,ry⟩:=q2.getV e2;exact qO8 rx ry (k1 i x y ex ey)
   | lst z ys=>obtain⟨a',ws,_,rfl,h2,q2,_⟩:=r2.lst_inv;cases h;exact .tl h1 h2
   | _=>obtain⟨f,rfl⟩:=r2.flatV h;exact .tf h1 f
 | dct z kvs =>
   cases y with
   | lst z ys=>cases h
   | tup ys =>
     obtain⟨a',ws,rfl,h2,q2⟩:=r2.tup_inv;cases h;cases r1 with
     | dct e _ _=>exact .dt e h2
     | dctZ e _ _ _=>exact .dt e h2
   | _=>exact flat h
 | _ =>
   cases y with
   | lst z ys=>obtain⟨a',ws,_,rfl,h2,q2,_⟩:=r2.lst_inv;obtain⟨f,rfl⟩:=r1.flatV h;exact .fl h2 f
   | tup ys=>obtain⟨a',ws,rfl,h2,q2⟩:=r2.tup_inv;obtain⟨f,rfl⟩:=r1.flatV h;exact .ft h2 f
   | _=>exact flat h
def gEq(x y:D):Option D:=(eqT x y).map .bl
def gNe(x y:D):Option D:=(eqT x y).map λ b=>.bl (!b)
theorem Ej:Ay true rEqD gEq:=by
 intro F H v w x y B d Q r h q;cases r with | @cons _ _ A _ _ _ r1 t=>cases t with | @cons _ _ A2 _ _ _ r2 _ =>
 obtain⟨b,e,rfl⟩:=zAe.mp h;exact⟨b,r1.rc r2 e,q _ H [] (.bl _) (λ _ _ z=>z) New.nil⟩
theorem Fj:Ay true rNeD gNe:=by
 intro F H v w x y B d Q r h q;cases r with | @cons _ _ A _ _ _ r1 t=>cases t with | @cons _ _ A2 _ _ _ r2 _ =>
 obtain⟨b,e,rfl⟩:=zAe.mp h;exact⟨b,r1.rc r2 e,q _ H [] (.bl _) (λ _ _ z=>z) New.nil⟩
def flats:List D->Option (List V)
 | []=>some []
 | d::r=>d.flat.bind λ v=>(flats r).bind λ vs=>some (v::vs)
theorem Reps.flats{F:Addr->Prop}{H:Hp}:∀{vs ws:List V}{ds:List D}{A:List Addr},Reps F H vs ds A->LV.flats ds=some ws->vs=ws/\vs.all L2.flatV=true
 | _,_,_,_,.nil,h=>by cases h;exact⟨rfl,rfl⟩
 | _,_,_,_,.cons r t,h=>by
   obtain⟨v,h1,h⟩:=zA1.mp h;obtain⟨vs,h2,h⟩:=zA1.mp h;cases h;obtain⟨rfl,f⟩:=r.flat h1;obtain⟨rfl,g⟩:=t.flats h2;exact⟨rfl,by rw[List.all_cons,f,g];rfl⟩
def gInB(neg:Bool)(x y:D):Option D:=x.flat.bind λ v=>y.elems.bind λ ys=>(flats ys).bind λ ws=>some (.bl (if neg then !inV v ws else inV v ws))
theorem os_in{K:PySem.W.Frag}{neg:Bool}:Ay true (rIn K neg) (gInB neg):=by
 intro F H v w x y B d Q r h q;cases r with | @cons _ _ A _ _ _ r1 t=>cases t with | @cons _ _ A2 _ _ _ r2 _ =>
 obtain⟨v',h1,h⟩:=zA1.mp h;obtain⟨ys,h2,h⟩:=zA1.mp h;obtain⟨ws,h3,h⟩:=zA1.mp h;cases h;obtain⟨rfl,f⟩:=r1.flat h1;obtain⟨a,vs,A3,rfl,hs,rs,_⟩:=r2.elems (K:=K) h2;obtain⟨rfl,g⟩:=rs.flats h3;exact⟨a,vs,rfl,hs,f,g,q _ H [] (.bl _) (λ _ _ z=>z) New.nil⟩
def gIx(x y:D):Option D:=match y with
 | .int i=>x.elems.bind λ ys=>atI ys i
 | _=>none
theorem Ap{K:PySem.W.Frag}:Ay false (rIx K) gIx:=by
 intro F H v w x y B d Q r h q;cases r with | @cons _ _ A _ _ _ r1 t=>cases t with | @cons _ _ A2 _ _ _ r2 _ =>
 cases y with
 | int i =>
   obtain⟨ys,h2,h⟩:=zA1.mp h;cases r2;obtain⟨a,vs,A3,rfl,hs,rs,hc⟩:=r1.elems (K:=K) h2;obtain⟨w',B',hw,rw',hb⟩:=rs.atI h;have key:=q w' H B' rw' (λ _ _ z=>z) (by
     rw[if_neg (by decide)];exact λ b=>.inl (by rw[zA0];have:=hb b;have:=hc b;lia))
   rcases hs with hs | hs
   . exact .inl ⟨a,vs,i,w',rfl,rfl,hs,hw,key⟩
   exact .inr (.inl ⟨a,vs,i,w',rfl,rfl,hs,hw,key⟩)
 | _=>cases h
section
variable{F:Addr->Prop}{H:Hp}
theorem Reps.one_inv{x:D}{B:List Addr}(r:Reps F H vs [x] B):∃ v,vs=[v]/\Rep F H v x B:=by
 cases r with | cons h t=>cases t;exact⟨_,rfl,by rw[zAd];exact h⟩
theorem Reps.two_inv{x y:D}{B:List Addr}(r:Reps F H vs [x,y] B):∃ v w A C,vs=[v,w]/\Rep F H v x A/\Rep F H w y C/\∀ b,B.count b=A.count b+C.count b:=by
 cases r with | cons h t=>cases t with | cons h' t=>cases t;exact⟨_,_,_,_,rfl,h,h',λ b=>by simp[zA0]⟩
end
def fx1(g:D->Option D):Ds->Option D
 | [x]=>g x
 | _=>none
def fx2(g:D->D->Option D):Ds->Option D
 | [x,y]=>g x y
 | _=>none
def CS1(nw:Bool)(r:List V->Hp->VK->Prop)(g:D->Option D):Prop:=∀ F H v x B d (Q:VK),Rep F H v x B->g x=some d ->
 (∀ v H' B',Rep F H' v d B'->Same H H'->(if nw=true then New H B' else Sub H B B')->Q v H')->r [v] H Q
theorem CS1.ops{nw:Bool}{r:List V->Hp->VK->Prop}{g:D->Option D}(h:CS1 nw r g):OpS nw r (fx1 g):=by
 intro F H vs xs B d Q r e q
 match xs,e with
 | [x],e =>
   obtain⟨v,rfl,r'⟩:=r.one_inv;exact h F H v x B d Q r' e q
def Fw(x:D):Option D:=match x with
 | .str z=>gd (z.length<=big) (.int z.length)
 | .dct _ kvs=>some (.int kvs.length)
 | x=>x.elems.map λ ys=>.int ys.length
def Hl(K:PySem.W.Frag):List V->Hp->VK->Prop:=λ xs H Q=>(∃ p ys,xs=[.ref p]/\(SqL K H p ys∨SqT K H p ys)/\Q (.int ys.length) H)∨(∃ z,xs=[.str z]/\z.length<=sizeLine/\Q (.int z.length) H)∨(∃ a kvs,xs=[V.ref a]/\H a=some (.dK kvs)/\Q (.int kvs.length) H)
theorem qx1{X:Cx}:CallR X (.builtin "len") (Hl X.K):=qL5.or (qL4.or qai3)
theorem qx0{K:PySem.W.Frag}:CS1 true (Hl K) Fw:=by
 intro F H v x B d Q r h q;have seq:∀ ys,x.elems=some ys->d=.int ys.length->Hl K [v] H Q:=λ ys e hd=>by
   subst hd;obtain⟨a,vs,A,rfl,hs,rs,_⟩:=r.elems (K:=K) e;refine .inl ⟨a,vs,rfl,hs,?_⟩;rw[rs.len];exact q _ H [] (.int _) (λ _ _ z=>z) New.nil
 cases x with
 | str z=>obtain⟨hl,rfl⟩:=qp1 h;cases r;exact .inr (.inl ⟨z,rfl,zAn hl qg8,q _ H [] (.int _) (λ _ _ z=>z) New.nil⟩)
 | dct z kds =>
   cases h;obtain⟨a,kvs,A,rfl,hs,e,rs,_⟩:=r.dct_inv;refine .inr (.inr ⟨a,kvs,rfl,hs,?_⟩)
   have:kvs.length=kds.length:=by have:=congrArg List.length e;simpa using this
   rw[this];exact q _ H [] (.int _) (λ _ _ z=>z) New.nil
 | lst z ys=>cases h;exact seq ys rfl rfl
 | tup ys=>cases h;exact seq ys rfl rfl
 | _=>cases h
def gInt:D->Option D
 | .int i=>some (.int i)
 | .bl b=>some (.int (if b then 1 else 0))
 | _=>none
theorem qaM8:CS1 true (λ xs H Q=>(∃ i,xs=[.int i]/\Q (.int i) H)∨∃ k,xs=[.bl k]/\Q (.int (if k then 1 else 0)) H) gInt:=by
 intro F H v x B d Q r h q;cases x with
 | int i=>cases h;cases r;exact .inl ⟨i,rfl,q _ H [] (.int _) (λ _ _ z=>z) New.nil⟩
 | bl i=>cases h;cases r;exact .inr ⟨i,rfl,q _ H [] (.int _) (λ _ _ z=>z) New.nil⟩
 | _=>cases h
def gList(x:D):Option D:=x.elems.bind λ ys=>gd (D.imms ys=true) (.lst false ys)
theorem qaa9{K:PySem.W.Frag}:CS1 true (λ xs H Q=>∃ p ys,xs=[.ref p]/\(SqL K H p ys∨SqT K H p ys)/\∀ l,H l=none->Q (.ref l) (upd H l (.lst ys))) gList:=by
 intro F H v x B d Q r h q;obtain⟨ys,e,h⟩:=zA1.mp h;obtain⟨hm,rfl⟩:=qp1 h;obtain⟨a,vs,A,rfl,hs,rs,_⟩:=r.elems (K:=K) e;exact⟨a,vs,rfl,hs,λ p hp=>q _ _ [p] (qp5 hp (rs.imms0 hm)) (Same.new hp) (qf2 hp)⟩
def pairK:D->Option (Key×D)
 | .tup [.int k,x]=>if x.imm=true then some (.inl k,x) else none
 | .tup [.str k,x]=>if x.imm=true then some (.inr k,x) else none
 | _=>none
def qS0:List D->Option (List (Key×D))
 | []=>some []
 | d::r=>(pairK d).bind λ p=>(qS0 r).bind λ ps=>some (p::ps)
def Ek(kvs:List (Key×D))(k:Key)(v:D):List (Key×D) :=
 if (kvs.any λ kv=>decide (kv.1=k))=true then kvs.map (λ kv=>if kv.1=k then (kv.1,v) else kv) else kvs++[(k,v)]
def qp6(kvs more:List (Key×D)):List (Key×D):=more.foldl (λ acc kv=>Ek acc kv.1 kv.2) kvs
abbrev KP(F:Addr->Prop)(H:Hp)(kvs:List (Key×V))(kds:List (Key×D)):Prop:=Paired (λ(p:Key×V)(q:Key×D)=>p.1=q.1/\Rep F H p.2 q.2 []) kvs kds
section
variable{F:Addr->Prop}{H:Hp}
theorem KP.maps{kds:List (Key×D)}(h:KP F H kvs kds):kvs.map (·.1)=kds.map (·.1)/\Reps F H (kvs.map (·.2)) (kds.map (·.2)) []:=by
 induction h with
 | nil=>exact⟨rfl,.nil⟩
 | cons a _ ih=>exact⟨by rw[zAx,zAx,a.1,ih.1],.cons (A:=[]) (B:=[]) a.2 ih.2⟩
theorem KP.any{kds:List (Key×D)}(h:KP F H kvs kds)(k:Key):(kvs.any λ kv=>decide (kv.1=k))=kds.any λ kv=>decide (kv.1=k):=by
 induction h with
 | nil=>rfl
 | cons a _ ih=>rw[zCe,zCe,a.1,ih]
theorem KP.append{kvs':List (Key×V)}{kds kds':List (Key×D)}(h:KP F H kvs kds)(h':KP F H kvs' kds'):KP F H (kvs++kvs') (kds++kds'):=by
 induction h with
 | nil=>exact h'
 | cons a _ ih=>exact .cons a ih
theorem KP.mapk{kds:List (Key×D)}(h:KP F H kvs kds){k:Key}{d:D}(r:Rep F H v d []):KP F H (kvs.map λ kv=>if kv.1=k then (kv.1,v) else kv) (kds.map λ kv=>if kv.1=k then (kv.1,d) else kv):=by
 induction h with
 | nil=>exact .nil
 | @cons p q _ _ a _ ih =>
   refine .cons ?_ ih;show (if p.1=k then (p.1,v) else p).1=(if q.1=k then (q.1,d) else q).1/\Rep F H (if p.1=k then (p.1,v) else p).2 (if q.1=k then (q.1,d) else q).2 [];rw[<- a.1];split
   . exact⟨rfl,r⟩
   exact a
theorem KP.put{kds:List (Key×D)}(h:KP F H kvs kds){k:Key}{d:D}(r:Rep F H v d []):KP F H (putK kvs k v) (Ek kds k d):=by
 unfold putK Ek;rw[h.any k];split
 . exact h.mapk r
 exact h.append (.cons ⟨rfl,r⟩ .nil)
theorem KP.merge{more:List (Key×V)}{mored:List (Key×D)}(h:KP F H more mored):∀{kvs:List (Key×V)}{kds:List (Key×D)},KP F H kvs kds->KP F H (qw6 kvs more) (qp6 kds mored):=by
 induction h with
 | nil=>exact λ h=>h
 | @cons p q _ _ a _ ih =>
   intro kvs kds h
   have:=ih (h.put (k:=p.1) a.2)
   rw[a.1] at this;show KP F H (qw6 (putK kvs p.1 p.2) _) (qp6 (Ek kds q.1 q.2) _);rw[a.1];exact this
theorem qaq5{ds:Ds}{A:List Addr}{ps:List (Key×D)}(r:Reps F H vs ds A)(h:qS0 ds=some ps):∃ kvs,qan5 H vs kvs/\KP F H kvs ps:=by
 induction ds generalizing vs A ps with
 | nil=>cases r;cases h;exact⟨[],.nil,.nil⟩
 | cons d ds ih =>
   cases r with
   | cons r1 t =>
     obtain⟨p,h1,h⟩:=zA1.mp h;obtain⟨ps,h2,h⟩:=zA1.mp h;cases h;obtain⟨kvs,q1,q2⟩:=ih t h2;unfold pairK at h1;split at h1
     . rename_i k x
       split at h1
       . rename_i hm
         cases h1;obtain⟨a,ws,rfl,ha,rw'⟩:=r1.tup_inv;obtain⟨w1,w2,A1,A2,rfl,r1',r2',_⟩:=rw'.two_inv;cases r1'
         have:=r2'.imm hm
         subst this;exact⟨(.inl k,w2)::kvs,.cons ⟨a,rfl,ha⟩ q1,.cons ⟨rfl,r2'⟩ q2⟩
       cases h1
     . rename_i k x
       split at h1
       . rename_i hm
         cases h1;obtain⟨a,ws,rfl,ha,rw'⟩:=r1.tup_inv;obtain⟨w1,w2,A1,A2,rfl,r1',r2',_⟩:=rw'.two_inv;cases r1'
         have:=r2'.imm hm
         subst this;exact⟨(.inr k,w2)::kvs,.cons ⟨a,rfl,ha⟩ q1,.cons ⟨rfl,r2'⟩ q2⟩
       cases h1
     cases h1
theorem qaA8{p:Addr}{kds:List (Key×D)}(hp:H p=none)(r:KP F H kvs kds):Rep F (upd H p (.dK kvs)) (.ref p) (.dct false kds) [p]:=.dct qb8 r.maps.1 (r.maps.2.same (Same.new hp))
end
def Gh(x:D):Option D:=match x with
 | .lst _ ys=>(qS0 ys).map λ ps=>.dct false (qp6 [] ps)
 | _=>none
theorem qab0:CS1 true qaw9 Gh:=by
 intro F H v x B d Q r h q;cases x with
 | lst z ys =>
   obtain⟨ps,h1,rfl⟩:=zAe.mp h;obtain⟨a,vs,A,rfl,hs,rs,_⟩:=r.lst_inv;obtain⟨kvs,q1,q2⟩:=qaq5 rs h1;exact⟨a,vs,kvs,rfl,hs,q1,λ p hp=>q _ _ [p] (qaA8 hp (q2.merge .nil)) (Same.new hp) (qf2 hp)⟩
 | _=>cases h
def D.kind:D->Option String
 | .non=>some "NoneType" | .bl _=>some "bool" | .int _=>some "int" | .str _=>some "str" | .lst _ _=>some "list" | .tup _=>some "tuple" | .dct _ _=>some "dict"
 | _=>none
theorem Rep.kind{F:Addr->Prop}{H:Hp}{d:D}{B:List Addr}{t:String}(r:Rep F H v d B)(h:d.kind=some t):B6 H v=some t:=by
 cases r with
 | tup e _=>cases h;exact qas4 e
 | lst e _=>cases h;exact qZ0 e
 | lstZ e _ _=>cases h;exact qZ0 e
 | dct e _ _=>cases h;exact qal5 e
 | dctZ e _ _ _=>cases h;exact qal5 e
 | _=>cases h<;>rfl
def isTy(n:String):Bool:=n == "bool" || n == "int" || n == "str" || n == "list" || n == "tuple" || n == "dict"
def gIsi(x y:D):Option D:=match y with
 | .ty n=>if isTy n=true then x.kind.map λ t=>.bl (subT t n) else none
 | _=>none
def CS2(nw:Bool)(r:List V->Hp->VK->Prop)(g:D->D->Option D):Prop:=∀ F H v w x y A B d (Q:VK),Rep F H v x A->Rep F H w y B->g x y=some d ->
 (∀ v H' B',Rep F H' v d B'->Same H H'->(if nw=true then New H B' else Sub H (A++B) B')->Q v H')->r [v,w] H Q
theorem CS2.ops{nw:Bool}{r:List V->Hp->VK->Prop}{g:D->D->Option D}(h:CS2 nw r g):OpS nw r (fx2 g):=by
 intro F H vs xs B d Q r e q
 match xs,e with
 | [x,y],e =>
   obtain⟨v,w,A,C,rfl,r1,r2,hc⟩:=r.two_inv;refine h F H v w x y A C d Q r1 r2 e λ u H' B' ru s hn=>q u H' B' ru s ?_
   cases nw with
   | true=>exact hn
   | false =>
     rw[if_neg (by decide)] at hn ⊢;exact λ b=>(hn b).imp (λ z=>by rw[zA0] at z;have:=hc b;lia) id
theorem qK9:CS2 true rIsi gIsi:=by
 intro F H v w x y A B d Q r1 r2 e q;cases y with
 | ty n =>
   cases r2;have e:(if isTy n=true then x.kind.map λ t=>D.bl (subT t n) else none)=some d:=e;by_cases hn:isTy n=true
   . rw[if_pos hn] at e
     obtain⟨t,ht,rfl⟩:=zAe.mp e;refine⟨v,n,t,rfl,r1.kind ht,?_,q _ H [] (.bl _) (λ _ _ z=>z) New.nil⟩;simp only[isTy,Bool.or_eq_true,zC2] at hn;simp only[zAm,zBv,or_false];rcases hn with ((((h | h) | h) | h) | h) | h
     . exact .inl h
     . exact .inr (.inl h)
     . exact .inr (.inr (.inl h))
     . exact .inr (.inr (.inr (.inl h)))
     . exact .inr (.inr (.inr (.inr (.inl h))))
     exact .inr (.inr (.inr (.inr (.inr h))))
   rw[if_neg hn] at e;cases e
 | _=>cases e
def D.isC(C:Addr)(x:D):Option D:=match x with
 | .ins _ C' _=>if C'=C then some (.bl true) else none
 | x=>x.kind.map λ _=>.bl false
def gIsO(C:Addr)(x y:D):Option D:=match y with
 | .adr a=>if a=C then x.isC C else none
 | _=>none
theorem qaM7{C:Addr}:CS2 true (rIsO C) (gIsO C):=by
 intro F H v w x y A B d Q r1 r2 e q;cases y with
 | adr a =>
   cases r2;have e:(if a=C then x.isC C else none)=some d:=e;by_cases hc:a=C
   . rw[if_pos hc] at e
     subst hc;have kind:(x.kind.map λ _=>D.bl false)=some d->rIsO a [v,.ref a] H Q:=λ e=>by
       obtain⟨t,ht,rfl⟩:=zAe.mp e;exact⟨_,rfl,.inr ⟨t,r1.kind ht,q _ H [] (.bl _) (λ _ _ z=>z) New.nil⟩⟩
     cases x with
     | ins z C' fs =>
       have e2:(if C'=a then some (D.bl true) else none)=some d:=e;by_cases hc:C'=a
       . rw[if_pos hc] at e2
         cases e2;subst hc;obtain⟨p,dx,fvs,_,rfl,h,_,_,_⟩:=r1.ins_inv;exact⟨_,rfl,.inl ⟨p,dx,fvs,rfl,h,q _ H [] (.bl _) (λ _ _ z=>z) New.nil⟩⟩
       rw[if_neg hc] at e2;cases e2
     | _=>exact kind e
   rw[if_neg hc] at e;cases e
 | _=>cases e
def gMax2:D->D->Option D
 | .int i,.int j=>some (.int (if j > i then j else i))
 | _,_=>none
def gMin2:D->D->Option D
 | .int i,.int j=>some (.int (if j < i then j else i))
 | _,_=>none
theorem qaa8:CS2 true (λ xs H Q=>∃ i j,xs=[.int i,.int j]/\Q (.int (if j > i then j else i)) H) gMax2:=by
 intro F H v w x y A B d Q r1 r2 e q;cases x with
 | int i=>cases y with
   | int j=>cases e;cases r1;cases r2;exact⟨i,j,rfl,q _ H [] (.int _) (λ _ _ z=>z) New.nil⟩
   | _=>cases e
 | _=>cases e
theorem qP2:CS2 true (λ xs H Q=>∃ i j,xs=[.int i,.int j]/\Q (.int (if j < i then j else i)) H) gMin2:=by
 intro F H v w x y A B d Q r1 r2 e q;cases x with
 | int i=>cases y with
   | int j=>cases e;cases r1;cases r2;exact⟨i,j,rfl,q _ H [] (.int _) (λ _ _ z=>z) New.nil⟩
   | _=>cases e
 | _=>cases e
def bools:List D->Option (List Bool)
 | []=>some []
 | .bl b::r=>(bools r).map λ bs=>b::bs
 | _=>none
theorem Reps.bools{F:Addr->Prop}{H:Hp}:∀{vs:List V}{ds:List D}{A:List Addr}{bs:List Bool},Reps F H vs ds A->LV.bools ds=some bs->vs=bs.map V.bl:=by
 intro vs ds
 induction ds generalizing vs with
 | nil=>intro A bs r h;cases r;cases h;rfl
 | cons d ds ih =>
   intro A bs r h;cases r with
   | cons r1 t =>
     cases d with
     | bl b =>
       obtain⟨bs',h1,rfl⟩:=zAe.mp h;cases r1;rw[ih t h1];rfl
     | _=>cases h
def gAll(x:D):Option D:=match x with
 | .lst _ ys=>(bools ys).map λ bs=>.bl (bs.all id)
 | _=>none
theorem qaE3{K:PySem.W.Frag}:CS1 true (λ xs H Q=>∃(a:Addr)(bs:List Bool),xs=[.ref a]/\SqL K H a (bs.map V.bl)/\Q (.bl (bs.all id)) H) gAll:=by
 intro F H v x B d Q r h q;cases x with
 | lst z ys =>
   obtain⟨bs,h1,rfl⟩:=zAe.mp h;obtain⟨a,vs,A,rfl,hs,rs,_⟩:=r.lst_inv;cases rs.bools h1;exact⟨a,bs,rfl,.inl (.inl hs),q _ H [] (.bl _) (λ _ _ z=>z) New.nil⟩
 | _=>cases h
def intsD:List D->Option (List Int)
 | []=>some []
 | .int i::r=>(intsD r).map λ is=>i::is
 | _=>none
theorem Reps.intsD{F:Addr->Prop}{H:Hp}:∀{vs:List V}{ds:List D}{A:List Addr}{bs:List Int},Reps F H vs ds A->LV.intsD ds=some bs->vs=bs.map V.int:=by
 intro vs ds
 induction ds generalizing vs with
 | nil=>intro A bs r h;cases r;cases h;rfl
 | cons d ds ih =>
   intro A bs r h;cases r with
   | cons r1 t =>
     cases d with
     | int b =>
       obtain⟨bs',h1,rfl⟩:=zAe.mp h;cases r1;rw[ih t h1];rfl
     | _=>cases h
def Ee(xs:List D)(lo hi:Option Int):List D:=(xs.drop (HT.sIx xs.length 0 lo)).take (HT.sIx xs.length xs.length hi - HT.sIx xs.length 0 lo)
def gSl(x:D)(lo hi:Option Int):Option D:=match x with
 | .lst _ ys=>gd (D.imms (Ee ys lo hi)=true) (.lst false (Ee ys lo hi))
 | .scr ns=>some (.lst false ((ns.drop (HT.sIx ns.length 0 lo)).take (HT.sIx ns.length ns.length hi - HT.sIx ns.length 0 lo) |>.map .int))
 | .tup ys=>gd (D.imms (Ee ys lo hi)=true/\(Ee ys lo hi).length < ys.length) (.tup (Ee ys lo hi))
 | _=>none
theorem qz8{F:Addr->Prop}{H:Hp}:∀ ns:List Int,Reps F H (ns.map V.int) (ns.map D.int) []
 | []=>.nil
 | n::r=>.cons (A:=[]) (B:=[]) (.int n) (qz8 r)
theorem os_sl{K:PySem.W.Frag}{F:Addr->Prop}{H:Hp}{x d:D}{lo hi:Option Int}{B:List Addr}(r:Rep F H v x B)(h:gSl x lo hi=some d)(hx:∀ ys,x≠.tup ys)(q:∀ v H' B',Rep F H' v d B'->Same H H'->New H B'->Q v H'):rSlL K v lo hi H Q:=by
 cases x with
 | lst z ys =>
   obtain⟨hm,rfl⟩:=qp1 h;obtain⟨a,vs,A,rfl,hs,rs,_⟩:=r.lst_inv;refine⟨a,vs,rfl,.inl (.inl hs),λ p hp=>q _ _ [p] (qp5 hp ?_) (Same.new hp) (qf2 hp)⟩;obtain⟨B',h1,h2⟩:=rs.sub (HT.sIx ys.length 0 lo) (HT.sIx ys.length ys.length hi - HT.sIx ys.length 0 lo);unfold Fd;rw[rs.len];exact h1.imms0 hm
 | scr ns =>
   cases h;cases r with
   | scr e =>
     refine⟨_,_,rfl,.inl (.inr ⟨_,e⟩),λ p hp=>q _ _ [p] (qp5 hp ?_) (Same.new hp) (qf2 hp)⟩;unfold Fd;rw[<- List.map_drop,<- List.map_take,zAa];exact qz8 _
 | tup ys=>exact absurd rfl (hx ys)
 | _=>cases h
def D.fld(C:Addr)(f:Str):D->Option D
 | .ins _ C' fs=>if C'=C then fs.lookup f else none
 | _=>none
theorem qY5{F:Addr->Prop}{H:Hp}:∀{fvs:List (Str×V)}{fds:List (Str×D)}{A:List Addr}{f:Str}{d:D},fvs.map (·.1)=fds.map (·.1)->Reps F H (fvs.map (·.2)) (fds.map (·.2)) A->fds.lookup f=some d->∃ v B,fvs.lookup f=some v/\Rep F H v d B/\∀ b,B.count b<=A.count b:=by
 intro fvs
 induction fvs with
 | nil=>intro fds A f d e r h;cases fds with
   | nil=>cases h
   | cons _ _=>simp at e
 | cons p fvs ih =>
   intro fds A f d e r h;cases fds with
   | nil=>simp at e
   | cons q fds =>
     obtain⟨k,v⟩:=p;obtain⟨k',d'⟩:=q;have e1:k=k':=by simp at e;exact e.1
     have e2:fvs.map (·.1)=fds.map (·.1):=by simp at e;simpa using e.2
     subst e1;cases r with
     | @cons _ _ A1 _ _ A2 r1 t =>
       rw[zAu] at h ⊢;cases hb:f == k with
       | true=>rw[hb] at h;cases h;exact⟨v,A1,rfl,r1,λ b=>by rw[zA0];lia⟩
       | false =>
         rw[hb] at h;obtain⟨w,B,h1,h2,h3⟩:=ih e2 t h;exact⟨w,B,h1,h2,λ b=>by rw[zA0];have:=h3 b;lia⟩
theorem qaI3{K:PySem.W.Frag}{C:Addr}{f:Str}(c:Cls K C)(n:qf1 K C f):OpS1 false (λ x H Q=>∃ a C dx fs v,x=.ref a/\H a=some (.ins C dx fs)/\Cls K C/\qf1 K C f/\fs.lookup f=some v/\Q v H) (D.fld C f):=by
 intro F H v x B d Q r h q;cases x with
 | ins z C' fs =>
   have h2:(if C'=C then fs.lookup f else none)=some d:=h;by_cases hc:C'=C
   . rw[if_pos hc] at h2
     subst hc;obtain⟨a,dx,fvs,A,rfl,ha,e,rs,hcnt⟩:=r.ins_inv;obtain⟨w,B',h3,h4,h5⟩:=qY5 e rs h2;refine⟨a,C',dx,fvs,w,rfl,ha,c,n,h3,q w H B' h4 (λ _ _ z=>z) ?_⟩;rw[if_neg (by decide)];exact λ b=>.inl (by have:=h5 b;have:=hcnt b;lia)
   rw[if_neg hc] at h2;cases h2
 | _=>cases h
def D.key:D->Option Key
 | .int i=>some (.inl i)
 | .str x=>some (.inr x)
 | _=>none
def Bz(kds:List (Key×D))(k:Key):Option D:=(kds.find? λ kv=>decide (kv.1=k)).map (·.2)
theorem Rep.key{F:Addr->Prop}{H:Hp}{x:D}{B:List Addr}{k:Key}(r:Rep F H v x B)(h:x.key=some k):v=kV k:=by
 cases r<;>cases h<;>rfl
theorem qai9{F:Addr->Prop}{H:Hp}:∀{kvs:List (Key×V)}{kds:List (Key×D)}{A:List Addr}(k:Key),kvs.map (·.1)=kds.map (·.1)->Reps F H (kvs.map (·.2)) (kds.map (·.2)) A ->
   (Bz kds k=none/\Ec kvs k=none)∨∃ v d B,Bz kds k=some d/\Ec kvs k=some v/\Rep F H v d B/\∀ b,B.count b<=A.count b:=by
 intro kvs
 induction kvs with
 | nil=>intro kds A k e r;cases kds with
   | nil=>exact .inl ⟨rfl,rfl⟩
   | cons _ _=>simp at e
 | cons p kvs ih =>
   intro kds A k e r;cases kds with
   | nil=>simp at e
   | cons q kds =>
     obtain⟨k1,v⟩:=p;obtain⟨k2,d⟩:=q;have e1:k1=k2:=by simp at e;exact e.1
     have e2:kvs.map (·.1)=kds.map (·.1):=by simp at e;simpa using e.2
     subst e1;cases r with
     | @cons _ _ A1 _ _ A2 r1 t =>
       by_cases hk:k1=k
       . exact .inr ⟨v,d,A1,by simp[Bz,hk],qG4 hk,r1,λ b=>by rw[zA0];lia⟩
       have h1:Bz ((k1,d)::kds) k=Bz kds k:=by simp[Bz,zBs,hk]
       rw[h1,qG5 (p:=(k1,v)) hk];rcases ih k e2 t with h | ⟨w,d',B,h2,h3,h4,h5⟩
       . exact .inl h
       exact .inr ⟨w,d',B,h2,h3,h4,λ b=>by rw[zA0];have:=h5 b;lia⟩
section
variable{c:Vc}{X:Cx}{a b e:Expr}{oa ob own nw:Bool}{fa fb f:FV}{r:R2}{g:D->D->Option D}{ta tb t:VT}{pos:Pos}
theorem vnm(i:Nat){x:Str}(hN:X.N[i]? = some x:=by rfl)(hv:Vis X.env.scope x:=by first | exact Or.inl rfl | exact Or.inr (Or.inl rfl) | exact Or.inr (Or.inr rfl))(hd:(x == ("__debug__" : Str))=false:=by decide)(hcd:(x == ("__classdict__" : Str))=false:=by decide) :
   VV c X (.Name x pos) false (rdN i):=qav0 (qm3 hN hv hd hcd) (qm7 hN)
def kC(d:D):FV:=λ _=>some d
theorem Ae{i:Int}:VV c X (.Constant (.int i) j pos) true (kC (.int i)):=Ff qI7 λ _ _=>.int _
theorem vbl{i:Bool}:VV c X (.Constant (.bool i) j pos) true (kC (.bl i)):=Ff pe_bl λ _ _=>.bl _
theorem Bh:VV c X (.Constant .none j pos) true (kC .non):=Ff qaI0 λ _ _=>.non
theorem Fk{i:Str}:VV c X (.Constant (.str i) j pos) true (kC (.str i)):=Ff qaH7 λ _ _=>.str _
theorem vgi{x:Str}{n:Int}{k:Tok}(hm:X.mg x=some (.int n k))(hg:Gl X x:=by rfl)(hd:(x == ("__debug__" : Str))=false:=by decide):VV c X (.Name x pos) true (kC (.int n)):=Ff (qaz0 hm hg hd) λ _ _=>.int _
theorem vcls{x:Str}(C:Addr)(hm:X.mg x=some (.ref C))(hg:Gl X x:=by rfl)(hd:(x == ("__debug__" : Str))=false:=by decide):VV c X (.Name x pos) true (kC (.adr C)):=Ff (qaH8 C hm hg hd) λ _ _=>.adr _
theorem vty{x:Str}(n:String)(hm:X.mg x=none)(hg:Gl X x:=by rfl)(hv:bootBuiltins x=some (.type n):=by rfl)(hn:x ≠ "__name__" := by decide)(hd:(x == ("__debug__" : Str))=false:=by decide):VV c X (.Name x pos) true (kC (.ty n)):=Ff (qaI1 n hm hg hv hn hd) λ _ _=>.ty _
theorem vpow{i j:Int}(k:Int){m:Nat}{p q:Pos}(hk:i ^ j.toNat=k:=by decide)(h0:0<=j:=by decide)(h1:j<=1000000:=by decide)(h2:i.natAbs < 2 ^ 64:=by decide):VV c X (.BinOp (.Constant (.int i) m p) .Pow (.Constant (.int j) n q) pos) true (kC (.int k)):=Ff (qay7 k hk h0 h1 h2) λ _ _=>.int _
def P2(X:Cx)(e a b:Expr)(r:R2):Prop:=∀ ta tb,PE X a ta->PE X b tb->PE X e (tOp r ta tb)
def T2(X:Cx)(e a b:Expr)(r:R2):Prop:=∀ ta tb,PE X a ta->PE X b tb->PT X e (tTest (tOp r ta tb))
theorem Ak{op:Operator}(ho:OpR X (binaryOp op) r):P2 X (.BinOp a op b pos) a b r:=λ _ _ ha hb=>pe_op ho ha hb
theorem Ba(ho:OpR X (compareOp op) r)(hm:behindInMarks op b=false):P2 X (.Compare a [op] [b] pos) a b r:=λ _ _ ha hb=>qaz3 ho ha hb hm
theorem Au(ho:OpR X (compareOp op) r)(hm:behindInMarks op b=false):T2 X (.Compare a [op] [b] pos) a b r:=λ _ _ ha hb=>qax3 ho ha hb hm
theorem Av(ho:IxR X r)(hs:qan4 b:=by exact λ _ _=>rfl):P2 X (.Subscript a b pos) a b r:=λ _ _ ha hb=>pe_ix ho ha hb hs
theorem v2(p:P2 X e a b r)(h:Ay nw r g)(ha:VV c X a oa fa)(hb:VV c X b ob fb):VV c X e (nw||(oa&&ob)) (f2 g fa fb):=⟨PE.mono (p _ _ ha.h hb.h) (op_vv h)⟩
theorem e2(p:P2 X e a b r)(h:Ay true r g)(ha:VE c X a ta)(hb:VE c X b tb):VE c X e (t2 g ta tb):=⟨PE.mono (p _ _ ha.h hb.h) (op_ee ha hb h),qaj0 ha hb⟩
theorem e2v(p:P2 X e a b r)(h:Ay true r g)(ha:VE c X a ta)(hb:VV c X b ob fb):VE c X e (t2v g ta fb):=⟨PE.mono (p _ _ ha.h hb.h) (op_ev ha h),qao1 ha⟩
theorem e2P(p:P2 X e a b r)(h:Ay false r g)(ha:VE c X a ta)(hb:VE c X b tb):VE c X e (t2 g ta tb):=⟨PE.mono (p _ _ ha.h hb.h) (qaJ3 ha hb h),qaj0 ha hb⟩
theorem e2vP(p:P2 X e a b r)(h:Ay false r g)(ha:VE c X a ta)(hb:VV c X b ob fb):VE c X e (Gy g ta fb):=⟨PE.mono (p _ _ ha.h hb.h) (qaJ2 ha h),qad1 ha⟩
theorem e2n(i:Nat){x:Str}{p0:Pos}(p:P2 X e (.Name x p0) b r)(h:Ay true r g)(hb:VE c X b tb)(hN:X.N[i]? = some x:=by rfl)(hv:Vis X.env.scope x:=by first | exact Or.inl rfl | exact Or.inr (Or.inl rfl) | exact Or.inr (Or.inr rfl))(hd:(x == ("__debug__" : Str))=false:=by decide)(hcd:(x == ("__classdict__" : Str))=false:=by decide) :
   VE c X e (t2n g i tb):=⟨λ D6 s σ H Q I q=>p _ _ (qm3 hN hv hd hcd) hb.h D6 s σ H Q I (op_ne hb h (qm7 hN D6 σ H s I) q),qao2 hb⟩
theorem e2nP(i:Nat){x:Str}{p0:Pos}(p:P2 X e (.Name x p0) b r)(h:Ay nw r g)(hb:VE c X b tb)(hN:X.N[i]? = some x:=by rfl)(hv:Vis X.env.scope x:=by first | exact Or.inl rfl | exact Or.inr (Or.inl rfl) | exact Or.inr (Or.inr rfl))(hd:(x == ("__debug__" : Str))=false:=by decide)(hcd:(x == ("__classdict__" : Str))=false:=by decide) :
   VE c X e (Hi g i tb):=⟨λ D6 s σ H Q I q=>p _ _ (qm3 hN hv hd hcd) hb.h D6 s σ H Q I (qaI8 hb h (qm7 hN D6 σ H s I) q),qad2 hb⟩
def D.asB:D->Option Bool
 | .bl b=>some b
 | _=>none
theorem Rep.asB{F:Addr->Prop}{H:Hp}{d:D}{B:List Addr}{k:Bool}(r:Rep F H v d B)(h:d.asB=some k):v=.bl k:=by
 cases r<;>cases h<;>rfl
def ttV(f:FV):VTT:=λ ds Q _=>orF ((f ds).bind D.asB) λ b=>Q b ds
def ttE(t:VT):VTT:=λ ds Q xe=>t ds (λ d ds'=>orF d.asB λ b=>Q b ds') xe
theorem qav6:∀ σ H Q,Dg c (ttV f) σ H Q->liftV c own f σ H (λ x H'=>∃ k,x=.bl k/\Q k H'):=by
 rintro σ H Q ⟨F,ds,A,xe,S,x,q⟩;obtain⟨b,e,q⟩:=qa6.mp q;obtain⟨d,e1,e2⟩:=zA1.mp e;exact⟨F,ds,A,d,S,e1,λ v H' B r s _=>⟨b,r.asB e2,q H' F A (S.same s) (.same s)⟩⟩
theorem qan9(h:VE c X e t):∀ σ H Q,Dg c (ttE t) σ H Q->Bd c t σ H (λ x H'=>∃ k,x=.bl k/\Q k H'):=by
 rintro σ H Q ⟨F,ds,A,xe,S,x,q⟩;refine⟨F,ds,A,xe,S,x,h.m _ _ _ _ _ (λ d ds1 q v H1 F1 T A1 r1 S1 o1 s1=>?_) (λ _ _ z=>z) q⟩;obtain⟨b,e,q⟩:=qa6.mp q;exact⟨b,r1.asB e,q H1 F1 A1 S1 (s1.count λ b=>by rw[zA0];lia)⟩
theorem qU5:∀ ds (Q Q':Bool->Ds->Prop) (xe xe':XKd),(∀ d ds',Q d ds'->Q' d ds')->(∀ x ds',xe x ds'->xe' x ds')->ttV f ds Q xe->ttV f ds Q' xe':=λ ds Q Q' xe xe' hQ _=>qa4 λ d=>hQ d ds
theorem qG6(h:VE c X e t):∀ ds (Q Q':Bool->Ds->Prop) (xe xe':XKd),(∀ d ds',Q d ds'->Q' d ds')->(∀ x ds',xe x ds'->xe' x ds')->ttE t ds Q xe->ttE t ds Q' xe':=λ ds Q Q' xe xe' hQ hx=>h.m _ _ _ _ _ (λ d ds'=>qa4 λ z=>hQ z ds') hx
theorem tv(h:VV c X e own f)(he:∀ whole,isTrue e X.env whole=(do let v <- whole;standAt e.pos;holding [v] (truthy v)):=by intro _;rfl):VTe c X e (ttV f):=⟨PT.mono (qax2 h.h he) qav6,qU5⟩
theorem te(h:VE c X e t)(he:∀ whole,isTrue e X.env whole=(do let v <- whole;standAt e.pos;holding [v] (truthy v)):=by intro _;rfl):VTe c X e (ttE t):=⟨PT.mono (qax2 h.h he) (qan9 h),qG6 h⟩
theorem q2(p:T2 X e a b r)(h:Ay nw r g)(ha:VV c X a oa fa)(hb:VV c X b ob fb):VTe c X e (ttV (f2 g fa fb)):=⟨PT.mono (p _ _ ha.h hb.h) λ σ H Q q=>op_vv h σ H _ (qav6 σ H Q q),qU5⟩
theorem q2e(p:P2 X e a b r)(p':T2 X e a b r)(h:Ay true r g)(ha:VE c X a ta)(hb:VE c X b tb):VTe c X e (ttE (t2 g ta tb)):=⟨PT.mono (p' _ _ ha.h hb.h) λ σ H Q q=>op_ee ha hb h σ H _ (qan9 (e2 p h ha hb) σ H Q q),qG6 (e2 p h ha hb)⟩
theorem q2v(p:P2 X e a b r)(p':T2 X e a b r)(h:Ay true r g)(ha:VE c X a ta)(hb:VV c X b ob fb):VTe c X e (ttE (t2v g ta fb)):=⟨PT.mono (p' _ _ ha.h hb.h) λ σ H Q q=>op_ev ha h σ H _ (qan9 (e2v p h ha hb) σ H Q q),qG6 (e2v p h ha hb)⟩
variable{qa qb:VTT}{rest:List Expr}
def Fl(t:VTT):VTT:=λ ds Q xe=>t ds (λ b ds'=>Q (!b) ds') xe
theorem Bs(h:VTe c X a qa):VTe c X (.UnaryOp .Not a pos) (Fl qa):=by
 refine⟨PT.mono (qaH1 h.h) λ σ H Q ⟨F,ds,A,xe,S,x,q⟩=>⟨F,ds,A,xe,S,x,q⟩,λ ds Q Q' xe xe' hQ hx=>h.m _ _ _ _ _ (λ b ds'=>hQ _ ds') hx⟩
structure VTw(c:Vc)(X:Cx)(e:Expr)(t:VTT):Prop where
 h:PW X e (Dg c t)
 m:∀ ds (Q Q':Bool->Ds->Prop) (xe xe':XKd),(∀ d ds',Q d ds'->Q' d ds')->(∀ x ds',xe x ds'->xe' x ds')->t ds Q xe->t ds Q' xe'
theorem VTw.te(h:VTw c X e qa):VTe c X e qa:=⟨h.h.pt,h.m⟩
theorem tand1(h:VTe c X a qa):VTw c X (.BoolOp .And [a] pos) qa:=⟨qax1 h.h,h.m⟩
theorem tor1(h:VTe c X a qa):VTw c X (.BoolOp .Or [a] pos) qa:=⟨qaG9 h.h,h.m⟩
def Hm(t u:VTT):VTT:=λ ds Q xe=>t ds (λ k ds1=>if k=true then u ds1 Q xe else Q false ds1) xe
def ttOr(t u:VTT):VTT:=λ ds Q xe=>t ds (λ k ds1=>if k=true then Q true ds1 else u ds1 Q xe) xe
theorem qN1{k:Bool->St->Hp->(Bool->Hp->Prop)->Prop}{K:Bool->Ds->(Bool->Ds->Prop)->XKd->Prop}(ha:VTe c X a qa)(hk:∀(b:Bool) F ds A xe σ H (Q:Bool->Hp->Prop),Sta c F H σ ds A->Xc c xe F H A->K b ds (λ b' ds'=>∀ H' F' A',Sta c F' H' σ ds' A'->Stp F H A F' H' A'->Q b' H') xe->k b σ H Q)(hm:∀(b:Bool) ds (Q Q':Bool->Ds->Prop) (xe:XKd),(∀ d ds',Q d ds'->Q' d ds')->K b ds Q xe->K b ds Q' xe):∀ σ H Q,Dg c (λ ds Q xe=>qa ds (λ b ds1=>K b ds1 Q xe) xe) σ H Q->Dg c qa σ H (λ b H1=>k b σ H1 Q):=by
 rintro σ H Q ⟨F,ds,A,xe,S,x,q⟩;refine⟨F,ds,A,xe,S,x,ha.m _ _ _ _ _ (λ b ds1 q H1 F1 A1 S1 s1=>?_) (λ _ _ z=>z) q⟩;exact hk b F1 ds1 A1 xe σ H1 Q S1 (x.step s1) (hm b ds1 _ _ xe (λ b' ds' q H' F' A' S' s'=>q H' F' A' S' (s1.trans s')) q)
theorem tand(ha:VTe c X a qa)(hb:VTw c X (.BoolOp .And (b::rest) pos) qb):VTw c X (.BoolOp .And (a::b::rest) pos) (Hm qa qb):=by
 refine⟨PW.mono (qaH0 ha.h hb.h) ?_,λ ds Q Q' xe xe' hQ hx=>ha.m _ _ _ _ _ (λ k ds1 q=>?_) hx⟩
 . refine qN1 (k:=λ b σ H Q=>if b=true then Dg c qb σ H Q else Q false H) (K:=λ b ds Q xe=>if b=true then qb ds Q xe else Q false ds) ha ?_ ?_
   . intro b F ds A xe σ H Q S x q
     cases b with
     | true=>rw[if_pos rfl] at q ⊢;exact⟨F,ds,A,xe,S,x,q⟩
     | false=>rw[if_neg (by decide)] at q ⊢;exact q H F A S Stp.refl
   intro b ds Q Q' xe hQ;cases b with
   | true=>rw[if_pos rfl,if_pos rfl];exact hb.m _ _ _ _ _ hQ λ _ _ z=>z
   | false=>rw[if_neg (by decide),if_neg (by decide)];exact hQ _ _
 cases k with
 | true=>rw[if_pos rfl] at q ⊢;exact hb.m _ _ _ _ _ hQ hx q
 | false=>rw[if_neg (by decide)] at q ⊢;exact hQ _ _ q
theorem tor(ha:VTe c X a qa)(hb:VTw c X (.BoolOp .Or (b::rest) pos) qb):VTw c X (.BoolOp .Or (a::b::rest) pos) (ttOr qa qb):=by
 refine⟨PW.mono (pw_or ha.h hb.h) ?_,λ ds Q Q' xe xe' hQ hx=>ha.m _ _ _ _ _ (λ k ds1 q=>?_) hx⟩
 . refine qN1 (k:=λ b σ H Q=>if b=true then Q true H else Dg c qb σ H Q) (K:=λ b ds Q xe=>if b=true then Q true ds else qb ds Q xe) ha ?_ ?_
   . intro b F ds A xe σ H Q S x q
     cases b with
     | false=>rw[if_neg (by decide)] at q ⊢;exact⟨F,ds,A,xe,S,x,q⟩
     | true=>rw[if_pos rfl] at q ⊢;exact q H F A S Stp.refl
   intro b ds Q Q' xe hQ;cases b with
   | false=>rw[if_neg (by decide),if_neg (by decide)];exact hb.m _ _ _ _ _ hQ λ _ _ z=>z
   | true=>rw[if_pos rfl,if_pos rfl];exact hQ _ _
 cases k with
 | false=>rw[if_neg (by decide)] at q ⊢;exact hb.m _ _ _ _ _ hQ hx q
 | true=>rw[if_pos rfl] at q ⊢;exact hQ _ _ q
end
section
variable{c:Vc}{X:Cx}{a b e:Expr}{oa ob own nw:Bool}{fa fb f:FV}{ta tb t:VT}{pos:Pos}{rest:List Expr}
def Fm(ta:VT)(k:D->VT):VT:=λ ds Q xe=>ta ds (λ x ds1=>k x ds1 Q xe) xe
theorem qas1{k:V->St->Hp->VK->Prop}{K:D->VT}(ha:VE c X a ta)(hm:∀ x ds (Q Q':DK) (xe xe':XKd),(∀ d ds',Q d ds'->Q' d ds')->(∀ x ds',xe x ds'->xe' x ds')->K x ds Q xe->K x ds Q' xe')(hk:∀ F H σ v x T,Rep F H v x T->∀ Q,(∃ ds A xe,Sta c F H σ ds A/\Xc c xe F H A/\K x ds (λ d ds'=>∀ v H' F' T A',Rep F' H' v d T->Sta c F' H' σ ds' A'->Ok F' H' (T++A')->Stp F H A F' H' (T++A')->Q v H') xe)->k v σ H Q) :
   ∀ σ H Q,Bd c (Fm ta K) σ H Q->Bd c ta σ H (λ x H1=>k x σ H1 Q):=by
 rintro σ H Q ⟨F,ds,A,xe,S,x,q⟩;refine⟨F,ds,A,xe,S,x,ha.m _ _ _ _ _ (λ d ds1 q v H1 F1 T A1 r1 S1 o1 s1=>?_) (λ _ _ z=>z) q⟩;have s1':Stp F H A F1 H1 A1:=s1.count λ b=>by rw[zA0];lia
 exact hk F1 H1 σ v d T r1 Q ⟨ds1,A1,xe,S1,x.step s1',hm d ds1 _ _ _ _ (λ d' ds' q w H' F' T' A' r S' o s=>q w H' F' T' A' r S' o (s1'.trans s)) (λ _ _ z=>z) q⟩
def Gi(ta tb:VT):VT:=Fm ta λ x ds Q xe=>orF x.asB λ k=>if k=true then tb ds Q xe else Q (.bl false) ds
def tOrE(ta tb:VT):VT:=Fm ta λ x ds Q xe=>orF x.asB λ k=>if k=true then Q (.bl true) ds else tb ds Q xe
def tNotE(ta:VT):VT:=Fm ta λ x ds Q xe=>orF x.asB λ k=>Q (.bl (!k)) ds
theorem qE5{k:Bool}{p q p' q':Prop}(h1:p->p')(h2:q->q'):(if k=true then p else q)->(if k=true then p' else q'):=by
 cases k with
 | true=>rw[if_pos rfl,if_pos rfl];exact h1
 | false=>rw[if_neg (by decide),if_neg (by decide)];exact h2
theorem qac1(hb:VE c X e tb):∀(x:D) ds (Q Q':DK) (xe xe':XKd),(∀ d ds',Q d ds'->Q' d ds')->(∀ x ds',xe x ds'->xe' x ds')->(orF x.asB λ k=>if k=true then tb ds Q xe else Q (.bl false) ds)->(orF x.asB λ k=>if k=true then tb ds Q' xe' else Q' (.bl false) ds) :=
 λ x ds Q Q' xe xe' hQ hx=>qa4 λ k=>qE5 (hb.m _ _ _ _ _ hQ hx) (hQ _ _)
theorem Hn{op:PySem.BoolOp}(h:VE c X a ta):VE c X (.BoolOp op [a] pos) ta:=⟨qay8 h.h,h.m⟩
theorem Fn(ha:VE c X a ta)(hb:VE c X (.BoolOp .And (b::rest) pos) tb):VE c X (.BoolOp .And (a::b::rest) pos) (Gi ta tb):=by
 refine⟨PE.mono (qaz5 ha.h hb.h) ?_,λ ds Q Q' xe xe' hQ hx=>ha.m _ _ _ _ _ (λ d ds1=>qac1 hb d ds1 Q Q' xe xe' hQ hx) hx⟩;refine qas1 (k:=λ v σ H Q=>∃ c',v=.bl c'/\if c'=true then Bd c tb σ H Q else Q (.bl false) H) ha (qac1 hb) ?_;rintro F H σ v x T r Q ⟨ds,A,xe,S,xc,q⟩;obtain⟨k,ek,q⟩:=qa6.mp q;refine⟨k,r.asB ek,?_⟩;cases k with
 | true=>rw[if_pos rfl] at q ⊢;exact⟨F,ds,A,xe,S,xc,q⟩
 | false=>rw[if_neg (by decide)] at q ⊢;exact q _ H F [] A (.bl _) S S.ok Stp.refl
variable{qc:VTT}
def tIfE(qc:VTT)(ta tb:VT):VT:=λ ds Q xe=>qc ds (λ k ds1=>if k=true then ta ds1 Q xe else tb ds1 Q xe) xe
theorem eif(hc:VTe c X cd qc)(ha:VE c X a ta)(hb:VE c X b tb):VE c X (.IfExp cd a b pos) (tIfE qc ta tb):=by
 refine⟨PE.mono (qaq1 hc.h ha.h hb.h) ?_,λ ds Q Q' xe xe' hQ hx=>hc.m _ _ _ _ _ (λ k ds1=>qE5 (ha.m _ _ _ _ _ hQ hx) (hb.m _ _ _ _ _ hQ hx)) hx⟩;rintro σ H Q ⟨F,ds,A,xe,S,x,q⟩;refine⟨F,ds,A,xe,S,x,hc.m _ _ _ _ _ (λ k ds1 q H1 F1 A1 S1 s1=>?_) (λ _ _ z=>z) q⟩;cases k with
 | true=>rw[if_pos rfl] at q ⊢;exact⟨F1,ds1,A1,xe,S1,x.step s1,ha.m _ _ _ _ _ (λ d ds' q v H' F' T A' r S' o s=>q v H' F' T A' r S' o (s1.trans s)) (λ _ _ z=>z) q⟩
 | false=>rw[if_neg (by decide)] at q ⊢;exact⟨F1,ds1,A1,xe,S1,x.step s1,hb.m _ _ _ _ _ (λ d ds' q v H' F' T A' r S' o s=>q v H' F' T A' r S' o (s1.trans s)) (λ _ _ z=>z) q⟩
def fAnd(fa fb:FV):FV:=λ ds=>(fa ds).bind λ x=>x.asB.bind λ k=>if k=true then fb ds else some (.bl false)
def fOr(fa fb:FV):FV:=λ ds=>(fa ds).bind λ x=>x.asB.bind λ k=>if k=true then some (.bl true) else fb ds
def fNot(fa:FV):FV:=λ ds=>(fa ds).bind λ x=>x.asB.map λ k=>.bl (!k)
theorem vone{op:PySem.BoolOp}(h:VV c X a oa fa):VV c X (.BoolOp op [a] pos) oa fa:=⟨qay8 h.h⟩
theorem vand(ha:VV c X a oa fa)(hb:VV c X (.BoolOp .And (b::rest) pos) ob fb):VV c X (.BoolOp .And (a::b::rest) pos) ob (fAnd fa fb):=by
 refine⟨PE.mono (qaz5 ha.h hb.h) λ σ H Q ⟨F,ds,A,d,S,e,q⟩=>?_⟩;obtain⟨x,h1,e⟩:=zA1.mp e;obtain⟨k,h2,e⟩:=zA1.mp e;refine⟨F,ds,A,x,S,h1,λ v H1 B1 r1 s1 n1=>⟨k,r1.asB h2,?_⟩⟩;cases k with
 | true=>rw[if_pos rfl] at e ⊢;exact⟨F,ds,A,d,S.same s1,e,λ w H2 B2 r2 s2 n2=>q w H2 B2 r2 (s1.trans s2) λ ho=>⟨(n2 ho).one,λ b o e=>(n2 ho).new b o (s1 b o e)⟩⟩
 | false=>rw[if_neg (by decide)] at e ⊢;cases e;exact q _ H1 [] (.bl _) s1 λ _=>New.nil
theorem vor(ha:VV c X a oa fa)(hb:VV c X (.BoolOp .Or (b::rest) pos) ob fb):VV c X (.BoolOp .Or (a::b::rest) pos) ob (fOr fa fb):=by
 refine⟨PE.mono (pe_or ha.h hb.h) λ σ H Q ⟨F,ds,A,d,S,e,q⟩=>?_⟩;obtain⟨x,h1,e⟩:=zA1.mp e;obtain⟨k,h2,e⟩:=zA1.mp e;refine⟨F,ds,A,x,S,h1,λ v H1 B1 r1 s1 n1=>⟨k,r1.asB h2,?_⟩⟩;cases k with
 | false=>rw[if_neg (by decide)] at e ⊢;exact⟨F,ds,A,d,S.same s1,e,λ w H2 B2 r2 s2 n2=>q w H2 B2 r2 (s1.trans s2) λ ho=>⟨(n2 ho).one,λ b o e=>(n2 ho).new b o (s1 b o e)⟩⟩
 | true=>rw[if_pos rfl] at e ⊢;cases e;exact q _ H1 [] (.bl _) s1 λ _=>New.nil
theorem vnot(ha:VV c X a oa fa):VV c X (.UnaryOp .Not a pos) true (fNot fa):=by
 refine⟨PE.mono (qaH9 ha.h) λ σ H Q ⟨F,ds,A,d,S,e,q⟩=>?_⟩;obtain⟨x,h1,e⟩:=zA1.mp e;obtain⟨k,h2,rfl⟩:=zAe.mp e;exact⟨F,ds,A,x,S,h1,λ v H1 B1 r1 s1 n1=>⟨k,r1.asB h2,q _ H1 [] (.bl _) s1 λ _=>New.nil⟩⟩
def gNeg:D->Option D
 | .int i=>some (.int (-i))
 | _=>none
theorem qaI2:OpS1 true (rU λ i=>.int (-i)) gNeg:=by
 intro F H v x B d Q r h q;cases x with
 | int i=>cases h;cases r;exact⟨i,rfl,q _ H [] (.int _) (λ _ _ z=>z) New.nil⟩
 | _=>cases h
theorem vneg(ha:VV c X a oa fa):VV c X (.UnaryOp .USub a pos) true (f1 gNeg fa):=⟨PE.mono (pe_un qaF9 ha.h) (op_v (nw:=true) qaI2)⟩
theorem Bo{f:Str}{C:Addr}{K:PySem.W.Frag}(hK:X.K=K)(ha:VV c X a oa fa)(cl:Cls K C)(n:qf1 K C f)(hb:attributeBase a f X.env (eval a X.env)=eval a X.env:=by rfl):VV c X (.Attribute a f pos) oa (f1 (D.fld C f) fa):=by
 subst hK;exact⟨PE.mono (qaz1 ha.h hb) (op_v (nw:=false) (qaI3 cl n))⟩
variable{rc:List V->Hp->VK->Prop}{gc:Ds->Option D}{x:Str}{p:Pos}{es:List Expr}{fs:Ds->Option Ds}{tos:VTA}
def Be(gc:Ds->Option D)(fs:Ds->Option Ds):FV:=λ ds=>(fs ds).bind gc
theorem vbi{id:String}(hc:CallR X (.builtin id) rc)(h:OpS nw rc gc)(hm:X.mg x=none)(ha:VVs c X (e::es) own fs)(hg:Gl X x:=by rfl)(hv:bootBuiltins x=some (.builtin id):=by rfl)(hn:x ≠ "__name__" := by decide)(hdb:(x == ("__debug__" : Str))=false:=by decide)(he:starEach (e::es) X.env=(false,eval e X.env)::starEach es X.env:=by rfl)(hpl:((backTo pos (starEach es X.env)).any λ x=>x.1)=false:=by rfl) :
   VV c X (.Call (.Name x p) (e::es) [] pos) (nw||own) (Be gc fs):=⟨PE.mono (cbi hc hm ha.h hg hv hn hdb he hpl) (qaz9 h)⟩
theorem Fx{id:String}(hc:CallR X (.type id) rc)(h:OpS nw rc gc)(hm:X.mg x=none)(ha:VVs c X (e::es) own fs)(hg:Gl X x:=by rfl)(hv:bootBuiltins x=some (.type id):=by rfl)(hn:x ≠ "__name__" := by decide)(hdb:(x == ("__debug__" : Str))=false:=by decide)(he:starEach (e::es) X.env=(false,eval e X.env)::starEach es X.env:=by rfl)(hpl:((backTo pos (starEach es X.env)).any λ x=>x.1)=false:=by rfl) :
   VV c X (.Call (.Name x p) (e::es) [] pos) (nw||own) (Be gc fs):=⟨PE.mono (cty hc hm ha.h hg hv hn hdb he hpl) (qaz9 h)⟩
theorem ebi{id:String}(hc:CallR X (.builtin id) rc)(h:OpS true rc gc)(hm:X.mg x=none)(ha:VOs c X (e::es) tos)(hg:Gl X x:=by rfl)(hv:bootBuiltins x=some (.builtin id):=by rfl)(hn:x ≠ "__name__" := by decide)(hdb:(x == ("__debug__" : Str))=false:=by decide)(he:starEach (e::es) X.env=(false,eval e X.env)::starEach es X.env:=by rfl)(hpl:((backTo pos (starEach es X.env)).any λ x=>x.1)=false:=by rfl) :
   VE c X (.Call (.Name x p) (e::es) [] pos) (tcO gc tos):=⟨PE.mono (cbi hc hm ha.h hg hv hn hdb he hpl) (opc_o ha h),qU8 ha⟩
theorem ecty{id:String}(hc:CallR X (.type id) rc)(h:OpS true rc gc)(hm:X.mg x=none)(ha:VOs c X (e::es) tos)(hg:Gl X x:=by rfl)(hv:bootBuiltins x=some (.type id):=by rfl)(hn:x ≠ "__name__" := by decide)(hdb:(x == ("__debug__" : Str))=false:=by decide)(he:starEach (e::es) X.env=(false,eval e X.env)::starEach es X.env:=by rfl)(hpl:((backTo pos (starEach es X.env)).any λ x=>x.1)=false:=by rfl) :
   VE c X (.Call (.Name x p) (e::es) [] pos) (tcO gc tos):=⟨PE.mono (cty hc hm ha.h hg hv hn hdb he hpl) (opc_o ha h),qU8 ha⟩
def gLst(xs:Ds):Option D:=gd (D.imms xs=true/\xs.length<=big) (.lst false xs)
def gTup(xs:Ds):Option D:=gd (D.imms xs=true/\xs.length<=big) (.tup xs)
theorem B9(ha:VVs c X es own fs):VV c X (.List es pos) true (Be gLst fs):=by
 refine⟨PE.mono (qaq0 ha.h) λ σ H Q ⟨F,ds,A,d,S,e,q⟩=>?_⟩;obtain⟨xs,e1,e2⟩:=zA1.mp e;obtain⟨hm,rfl⟩:=qp1 e2;refine⟨F,ds,A,xs,S,e1,λ vs H1 B1 r1 s1 n1=>⟨by rw[r1.len];exact zAn hm.2 qg8,λ p hp=>?_⟩⟩;exact q _ _ [p] (qp5 hp (r1.imms0 hm.1)) (s1.trans (Same.new hp)) λ _=>⟨(qf2 hp).one,λ b o e=>(qf2 hp).new b o (s1 b o e)⟩
theorem Eu{k:Nat}(ha:VVs c X es own fs):VV c X (.Tuple es k pos) true (Be gTup fs):=by
 refine⟨PE.mono (qay6 ha.h) λ σ H Q ⟨F,ds,A,d,S,e,q⟩=>?_⟩;obtain⟨xs,e1,e2⟩:=zA1.mp e;obtain⟨hm,rfl⟩:=qp1 e2;refine⟨F,ds,A,xs,S,e1,λ vs H1 B1 r1 s1 n1=>⟨by rw[r1.len];exact zAn hm.2 qg8,λ p hp=>?_⟩⟩;exact q _ _ [] (qX7 hp (r1.imms0 hm.1)) (s1.trans (Same.new hp)) λ _=>New.nil
def FO:=Ds->Option (Option Int)
inductive qaF5(c:Vc)(f:FO)(σ:St)(H:Hp)(Q:Option Int->Hp->Prop):Prop
 | mk (F:Addr->Prop) (ds:Ds) (A:List Addr) (i:Option Int) (S:Sta c F H σ ds A) (e:f ds=some i) (q:∀ H',Same H H'->Q i H'):qaF5 c f σ H Q
def qaK1(c:Vc)(f:FO):TO:=qaF5 c f
structure VPO(c:Vc)(X:Cx)(e:Option Expr)(f:FO):Prop where
 h:PO X e (qaK1 c f)
theorem PO.mono{X:Cx}{e:Option Expr}{t t':TO}(h:PO X e t)(i:∀ σ H Q,t' σ H Q->t σ H Q):PO X e t':=λ D6 s σ H Q I q=>h D6 s σ H Q I (i σ H Q q)
def foN:FO:=λ _=>some none
def D.asI:D->Option Int
 | .int i=>some i
 | _=>none
theorem Rep.asI{F:Addr->Prop}{H:Hp}{d:D}{B:List Addr}{k:Int}(r:Rep F H v d B)(h:d.asI=some k):v=.int k:=by
 cases r<;>cases h<;>rfl
def foS(f:FV):FO:=λ ds=>(f ds).bind λ d=>d.asI.map some
theorem Ho:VPO c X none foN:=⟨PO.mono qak3 λ σ H Q ⟨F,ds,A,i,S,e,q⟩=>by cases e;exact q H λ _ _ z=>z⟩
theorem Hq(h:VV c X e own f):VPO c X (some e) (foS f):=by
 refine⟨PO.mono (qak2 h.h) λ σ H Q ⟨F,ds,A,i,S,e,q⟩=>?_⟩;obtain⟨d,e1,e2⟩:=zA1.mp e;obtain⟨j,e3,rfl⟩:=zAe.mp e2;exact⟨F,ds,A,d,S,e1,λ v H' B r s _=>⟨j,r.asI e3,q H' s⟩⟩
def noT:D->Bool
 | .tup _=>false
 | _=>true
def fsl(fa:FV)(lo hi:FO):FV:=λ ds=>(fa ds).bind λ x=>(lo ds).bind λ l=>(hi ds).bind λ h=>if noT x=true then gSl x l h else none
theorem vsl{lo hi:Option Expr}{fl fh:FO}{p2:Pos}(ha:VV c X a oa fa)(hl:VPO c X lo fl)(hh:VPO c X hi fh):VV c X (.Subscript a (.Slice lo hi none p2) pos) true (fsl fa fl fh):=by
 refine⟨PE.mono (qX0 qaj2 ha.h hl.h hh.h) λ σ H Q ⟨F,ds,A,d,S,e,q⟩=>?_⟩;obtain⟨x,e1,e⟩:=zA1.mp e;obtain⟨l,e2,e⟩:=zA1.mp e;obtain⟨h,e3,e⟩:=zA1.mp e;by_cases hx:noT x=true
 . rw[if_pos hx] at e
   refine⟨F,ds,A,x,S,e1,λ v H1 B1 r1 s1 _=>⟨F,ds,A,l,S.same s1,e2,λ H2 s2=>⟨F,ds,A,h,(S.same s1).same s2,e3,λ H3 s3=>?_⟩⟩⟩;have s13:=(s1.trans s2).trans s3;refine os_sl ((r1.same s2).same s3) e (λ ys z=>by subst z;cases hx) λ w H' B' r' s' n'=>q w H' B' r' (s13.trans s') λ _=>⟨n'.one,λ b o e=>n'.new b o (s13 b o e)⟩
 rw[if_neg hx] at e;cases e
def fget(fa fk fz:FV):FV:=λ ds=>(fa ds).bind λ x=>(fk ds).bind λ y=>(fz ds).bind λ z=>match x with
 | .dct _ kvs=>y.key.bind λ k=>gd (((Bz kvs k).getD z).imm=true) ((Bz kvs k).getD z)
 | _=>none
theorem vget{k z:Expr}{ok oz:Bool}{fk fz:FV}{apos cpos:Pos}(hu:X.A.units+1 < cLine)(ha:VV c X a oa fa)(hk:VV c X k ok fk)(hz:VV c X z oz fz)(m:M2 X a "get" apos k z cpos):VV c X (.Call (.Attribute a "get" apos) [k,z] [] cpos) true (fget fa fk fz):=by
 refine⟨PE.mono (qaq2 hu ha.h hk.h hz.h m) λ σ H Q ⟨F,ds,A,d,S,e,q⟩=>?_⟩;obtain⟨x,e1,e⟩:=zA1.mp e;obtain⟨y,e2,e⟩:=zA1.mp e;obtain⟨w,e3,e⟩:=zA1.mp e;cases x with
 | dct z kds =>
   obtain⟨ky,e4,e⟩:=zA1.mp e;obtain⟨hm,rfl⟩:=qp1 e;refine⟨F,ds,A,_,S,e1,λ v H1 B1 r1 s1 _=>?_⟩;obtain⟨a,kvs,A2,rfl,hs,ek,rs,_⟩:=r1.dct_inv;refine⟨a,rfl,.inl ⟨kvs,.inl hs⟩,F,ds,A,y,S.same s1,e2,λ u H2 B2 r2 s2 _=>⟨F,ds,A,w,(S.same s1).same s2,e3,λ u3 H3 B3 r3 s3 _=>?_⟩⟩;have hs3:=s3 _ _ (s2 _ _ hs);refine⟨Ec kvs ky,.inl ⟨kvs,ky,.inl hs3,(r2.key e4),rfl⟩,?_⟩;have s13:=(s1.trans s2).trans s3;rcases qai9 ky ek rs with⟨n1,n2⟩ | ⟨vv,dd,BB,n1,n2,n3,n4⟩
   . rw[n1] at hm q;rw[n2]
     have:=r3.imm hm
     subst this;exact q _ H3 [] r3 s13 λ _=>New.nil
   rw[n1] at hm q;rw[n2]
   have:=n3.imm hm
   subst this;exact q _ H3 [] ((n3.same s2).same s3) s13 λ _=>New.nil
 | _=>cases e
end
section
variable{c:Vc}{X:Cx}{a b e:Expr}{pos:Pos}{F F':Addr->Prop}{H H':Hp}{σ:St}{ds:Ds}{A:List Addr}
theorem Sta.put1{d:D}(S:Sta c F H σ ds A)(h:ds[i]? = some d)(hd:d≠.unk):∃(v:V)(B C:List Addr),(σ++c.gv)[i]? = some (some v)/\Rep F H v d B/\(∀ b,A.count b=B.count b+C.count b) /\
   ∀{F':Addr->Prop}{H':Hp}{W:Addr->Prop}(d':D)(B':List Addr),Kp F H W F' H'->(∀ b∈C,¬ W b)->Rep F' H' v d' B'->∃ A':List Addr,Locs F' H' (σ++c.gv) (ds.set i d') A'/\∀ b,A'.count b=B'.count b+C.count b:=by
 have hg:A6 ds i []=some d:=by unfold A6;rw[h];rfl
 obtain⟨u,w,B,C,h1,h2,h3,h4,h5⟩:=S.loc.place hg hd;cases h2;refine⟨u,B,C,h1,h3,h4,λ{F' H' W} d' B' k hc r=>?_⟩;obtain⟨A',q1,q2⟩:=h5 d' B' k hc r;refine⟨A',?_,q2⟩;unfold Bf at q1;rw[h] at q1;exact q1
theorem qp0{d:D}(h:d.known=true):d≠.unk:=λ z=>by subst z;cases h
def tMv(i:Nat):VT:=λ ds Q _=>orF (rdN i ds) λ d=>Q d (ds.set i .unk)
theorem emv(i:Nat){x:Str}(hN:X.N[i]? = some x:=by rfl)(hv:Vis X.env.scope x:=by first | exact Or.inl rfl | exact Or.inr (Or.inl rfl) | exact Or.inr (Or.inr rfl))(hd:(x == ("__debug__" : Str))=false:=by decide)(hcd:(x == ("__classdict__" : Str))=false:=by decide) :
   VE c X (.Name x pos) (tMv i):=by
 refine⟨λ D6 s σ H Q I ⟨F,ds,A,xe,S,x,q⟩=>qm3 hN hv hd hcd D6 s σ H Q I ?_,λ ds Q Q' xe xe' hQ _=>qa4 λ d=>hQ _ _⟩;obtain⟨d,ed,q⟩:=qa6.mp q;obtain⟨ed,hk⟩:=qj0.mp ed;obtain⟨v,B,C,h1,h2,h3,h4⟩:=S.put1 ed (qp0 hk);have hi:=qm7 hN D6 σ H s I;rw[zAt hi] at h1;obtain⟨A',q1,q2⟩:=h4 .unk [] (Kp.same (λ _ _ z=>z)) (λ _ _ z=>z) (.unk v);refine⟨v,h1,q v H F B A' h2 ⟨q1,S.ok.count λ b=>by rw[q2,h3];simp,S.len,S.ag⟩ (S.ok.count λ b=>by rw[zA0,q2,h3];simp) ?_⟩;exact⟨λ _ _ e _=>e,λ b o e z=>by rw[zA0,q2];have:=h3 b;simp;lia,λ _ f=>f,λ _ _ _ _ f=>f⟩
def tFz(i:Nat):VT:=λ ds Q _=>orF (rdN i ds) λ d=>Q d.fz (ds.set i d.fz)
theorem share{B C:List Addr}(o:Ok F H A)(hc:∀ b,A.count b=B.count b+C.count b)(cb:∀ b∈B,∃ o,H b=some o/\Dv o=true){A':List Addr}(ha:∀ b,A'.count b=C.count b) :
   Ok (λ b=>F b∨b∈B) H A'/\Stp F H A (λ b=>F b∨b∈B) H A':=by
 refine⟨⟨λ b=>by rw[ha];have:=o.sep b;have:=hc b;lia,λ b f=>?_,λ b f=>?_⟩,λ _ _ e _=>e,λ b o e z=>by rw[ha];have:=hc b;lia,λ b f=>.inl f,λ b u e z f=>?_⟩
 . rw[ha]
   rcases f with f | f
   . have:=o.fro b f;have:=hc b;lia
   have:=qa8.mp f;have:=o.sep b;have:=hc b;lia
 . rcases f with f | f
   . exact o.ex b f
   exact let ⟨u,e,_⟩:=cb b f;⟨u,e⟩
 rcases f with f | f
 . exact f
 have:=qa8.mp f;have:=hc b;lia
theorem efz(i:Nat){x:Str}(hN:X.N[i]? = some x:=by rfl)(hv:Vis X.env.scope x:=by first | exact Or.inl rfl | exact Or.inr (Or.inl rfl) | exact Or.inr (Or.inr rfl))(hd:(x == ("__debug__" : Str))=false:=by decide)(hcd:(x == ("__classdict__" : Str))=false:=by decide) :
   VE c X (.Name x pos) (tFz i):=by
 refine⟨λ D6 s σ H Q I ⟨F,ds,A,xe,S,x,q⟩=>qm3 hN hv hd hcd D6 s σ H Q I ?_,λ ds Q Q' xe xe' hQ _=>qa4 λ d=>hQ _ _⟩;obtain⟨d,ed,q⟩:=qa6.mp q;obtain⟨ed,hk⟩:=qj0.mp ed;obtain⟨v,B,C,h1,h2,h3,h4⟩:=S.put1 ed (qp0 hk);have hi:=qm7 hN D6 σ H s I;rw[zAt hi] at h1;have rz:=h2.fz (F':=λ b=>F b∨b∈B) (λ b f=>.inl f) λ b hb=>.inr hb
 obtain⟨A',q1,q2⟩:=h4 d.fz [] (Kp.more (H:=H) λ b f=>Or.inl f) (λ _ _ z=>z) rz;obtain⟨o',s'⟩:=share S.ok h3 h2.cells (A':=A') (λ b=>by rw[q2];simp);exact⟨v,h1,q v H _ [] A' rz ⟨q1,o',S.len,S.ag⟩ o' s'⟩
abbrev PF:=Ds->Option (Nat×List Nat)
inductive LiftP(c:Vc)(pf:PF)(σ:St)(H:Hp)(Q:VK):Prop
 | mk (F:Addr->Prop) (ds:Ds) (A:List Addr) (i:Nat) (p:List Nat) (d:D) (S:Sta c F H σ ds A) (e:pf ds=some (i,p)) (g:A6 ds i p=some d) (n:d≠.unk) (q:∀ u w H',(σ++c.gv)[i]? = some (some u)->Walk H' u p w->Same H H'->Q w H'):LiftP c pf σ H Q
def Gj(c:Vc)(pf:PF):TE:=LiftP c pf
structure VP(c:Vc)(X:Cx)(e:Expr)(pf:PF):Prop where
 h:PE X e (Gj c pf)
theorem vpn(i:Nat){x:Str}(hN:X.N[i]? = some x:=by rfl)(hv:Vis X.env.scope x:=by first | exact Or.inl rfl | exact Or.inr (Or.inl rfl) | exact Or.inr (Or.inr rfl))(hd:(x == ("__debug__" : Str))=false:=by decide)(hcd:(x == ("__classdict__" : Str))=false:=by decide) :
   VP c X (.Name x pos) (λ _=>some (i,[])):=by
 refine⟨λ D6 s σ H Q I ⟨F,ds,A,j,p,d,S,e,hg,hd',q⟩=>qm3 hN hv hd hcd D6 s σ H Q I ?_⟩;cases e;obtain⟨u,w,B,C,h1,h2,h3,h4,h5⟩:=S.loc.place hg hd';cases h2;have hi:=qm7 hN D6 σ H s I;have h1':=h1;rw[zAt hi] at h1';exact⟨u,h1',q u u H h1 rfl λ _ _ z=>z⟩
theorem qE8:∀{p:List Nat}{d x:D}{q:List Nat},d.getP (p++q)=some x->∃ e,d.getP p=some e/\e.getP q=some x
 | [],d,x,q,h=>⟨d,rfl,h⟩
 | n::p,d,x,q,h=>by
   have h:D.getP d (n::(p++q))=some x:=h;unfold D.getP at h;cases hk:d.kids[n]? with
   | none=>rw[hk] at h;cases h
   | some y =>
     rw[hk] at h;obtain⟨e,h1,h2⟩:=qE8 (p:=p) h;exact⟨e,by unfold D.getP;rw[hk];exact h1,h2⟩
theorem qZ9{p q:List Nat}{x:D}(h:A6 ds i (p++q)=some x):∃ e,A6 ds i p=some e/\e.getP q=some x:=by
 unfold A6 at h ⊢;cases hi:ds[i]? with
 | none=>rw[hi] at h;cases h
 | some d=>rw[hi] at h;exact qE8 h
theorem Walk.snoc:∀{p:List Nat}{u v w:V}{n:Nat},Walk H u p v->Lnk H v n w->Walk H u (p++[n]) w
 | [],_,_,w,n,h,l=>by cases h;exact⟨w,l,rfl⟩
 | m::p,_,_,_,_,⟨x,h1,h2⟩,l=>⟨x,h1,h2.snoc l⟩
theorem qaK3{d e:D}(h:d.getP [n]=some e):d≠.unk:=λ z=>by subst z;simp[D.getP,D.kids] at h
theorem Sta.place{p:List Nat}{d:D}{u:V}(S:Sta c F H σ ds A)(h:A6 ds i p=some d)(hd:d≠.unk)(hu:(σ++c.gv)[i]? = some (some u))(hw:Walk H u p w):∃(B C:List Addr),Rep F H w d B/\(∀ b,A.count b=B.count b+C.count b) /\
   ∀{F':Addr->Prop}{H':Hp}{W:Addr->Prop}(d':D)(B':List Addr),Kp F H W F' H'->(∀ b∈C,¬ W b)->Rep F' H' w d' B'->∃ A':List Addr,Locs F' H' (σ++c.gv) (Bf ds i p d') A'/\∀ b,A'.count b=B'.count b+C.count b:=by
 obtain⟨u',w',B,C,h1,h2,h3,h4,h5⟩:=S.loc.place h hd;rw[hu] at h1;cases h1;cases hw.fn h2;exact⟨B,C,h3,h4,h5⟩
def D.fidx(C:Addr)(f:Str):D->Option Nat
 | .ins _ C' fs=>if C'=C then fs.findIdx? (λ q=>f == q.1) else none
 | _=>none
theorem qy5{α:Type}:∀{fs:List (Str×α)}{f:Str}{n:Nat},fs.findIdx? (λ q=>f == q.1)=some n->∃ v,fs.lookup f=some v/\(fs.map (·.2))[n]? = some v
 | [],f,n,h=>by simp at h
 | (k,v)::r,f,n,h=>by
   rw[zC9] at h;rw[zAu];cases hb:f == k with
   | true=>simp[hb] at h;subst h;exact⟨v,rfl,rfl⟩
   | false =>
     simp[hb] at h;obtain⟨m,hm,rfl⟩:=h;obtain⟨w,h1,h2⟩:=qy5 (fs:=r) hm;exact⟨w,h1,by simpa using h2⟩
theorem qO4{α β:Type}:∀{fs:List (Str×α)}{gs:List (Str×β)}{f:Str},fs.map (·.1)=gs.map (·.1)->fs.findIdx? (λ q=>f == q.1)=gs.findIdx? (λ q=>f == q.1)
 | [],[],_,_=>rfl
 | [],_::_,_,h=>by simp at h
 | _::_,[],_,h=>by simp at h
 | (k,_)::r,(k',_)::r',f,h=>by
   have h1:k=k':=by simp at h;exact h.1
   have h2:r.map (·.1)=r'.map (·.1):=by simp at h;simpa using h.2
   subst h1;rw[zC9,zC9,qO4 h2]
def pfFld(C:Addr)(f:Str)(pf:PF):PF:=λ ds=>(pf ds).bind λ q=>(A6 ds q.1 q.2).bind λ d=>(d.fidx C f).map λ n=>(q.1,q.2++[n])
theorem Fo{f:Str}{C:Addr}{K:PySem.W.Frag}{pf:PF}(hK:X.K=K)(ha:VP c X a pf)(cl:Cls K C)(na:qf1 K C f)(hb:attributeBase a f X.env (eval a X.env)=eval a X.env:=by rfl):VP c X (.Attribute a f pos) (pfFld C f pf):=by
 subst hK;refine⟨PE.mono (qaz1 ha.h hb) λ σ H Q ⟨F,ds,A,i,p,d,S,e,hg,hd,q⟩=>?_⟩;obtain⟨⟨j,p0⟩,e1,e⟩:=zA1.mp e;obtain⟨d0,e2,e⟩:=zA1.mp e;obtain⟨n,e3,e⟩:=zAe.mp e;cases e;obtain⟨d0',g1,g2⟩:=qZ9 hg;rw[e2] at g1;cases g1;have hne:=qaK3 g2;refine⟨F,ds,A,j,p0,d0,S,e1,e2,hne,λ u w H' hu hw s=>?_⟩;obtain⟨B,C0,r,_,_⟩:=(S.same s).place e2 hne hu hw;cases d0 with
 | ins z C' fs =>
   have e9:(if C'=C then fs.findIdx? (λ q=>f == q.1) else none)=some n:=e3;by_cases hc:C'=C
   . rw[if_pos hc] at e9
     obtain⟨a,dx,fvs,_,rfl,ha,hk,rs,_⟩:=r.ins_inv;rw[<- qO4 hk] at e9;obtain⟨v,l1,l2⟩:=qy5 e9;subst hc;exact⟨a,C',dx,fvs,v,rfl,ha,cl,na,l1,q u v H' hu (hw.snoc ⟨a,rfl,.inr (.inr (.inr ⟨C',dx,fvs,ha,l2⟩))⟩) s⟩
   rw[if_neg hc] at e9;cases e9
 | _=>cases e3
end
inductive Pl where
 | no
 | sl (i:Nat)
 | pl (i:Nat) (p:List Nat) (w:V)
abbrev VTB:=Ds->(Ds->List Pl->Ds->Prop)->XKd->Prop
inductive Ev(τ:List (Option V)):List V->List Pl->Prop
 | nil:Ev τ [] []
 | no {v:V} {vs:List V} {ps:List Pl} (t:Ev τ vs ps):Ev τ (v::vs) (.no::ps)
 | sl {v:V} {vs:List V} {ps:List Pl} {i:Nat} (h:τ[i]? = some (some v)) (t:Ev τ vs ps):Ev τ (v::vs) (.sl i::ps)
 | so {v:V} {vs:List V} {ps:List Pl} {i:Nat} {p:List Nat} (t:Ev τ vs ps):Ev τ (v::vs) (.pl i p v::ps)
inductive LiftA(c:Vc)(t:VTB)(σ:St)(H:Hp)(Q:List V->Hp->Prop):Prop
 | mk (F:Addr->Prop) (ds:Ds) (A:List Addr) (xe:XKd) (S:Sta c F H σ ds A) (x:Xc c xe F H A) (q:t ds (λ xs pls ds'=>∀ vs H' F' T A',Reps F' H' vs xs T->Ev (σ++c.gv) vs pls->Sta c F' H' σ ds' A'->Ok F' H' (T++A')->Stp F H A F' H' (T++A')->Q vs H') xe):LiftA c t σ H Q
def Ey(c:Vc)(t:VTB):TA:=LiftA c t
structure VAs(c:Vc)(X:Cx)(es:List Expr)(t:VTB):Prop where
 h:PA X es (Ey c t)
 m:∀ ds (Q Q':Ds->List Pl->Ds->Prop) (xe xe':XKd),(∀ d p ds',Q d p ds'->Q' d p ds')->(∀ x ds',xe x ds'->xe' x ds')->t ds Q xe->t ds Q' xe'
section
variable{c:Vc}{X:Cx}{e:Expr}{es:List Expr}{ta:VT}{tr:VTB}{pf:PF}{F F':Addr->Prop}{H H':Hp}{σ:St}{ds:Ds}{A:List Addr}
def A5:VTB:=λ ds Q _=>Q [] [] ds
theorem Ac:VAs c X [] A5:=⟨PA.mono qA0 λ σ H Q ⟨F,ds,A,xe,S,x,q⟩=>q [] H F [] A .nil .nil S S.ok Stp.refl,λ ds Q Q' xe xe' hQ _=>hQ _ _ _⟩
def tbV(ta:VT)(tr:VTB):VTB:=λ ds Q xe=>ta ds (λ x ds1=>tr ds1 (λ xs ps ds2=>Q (x::xs) (.no::ps) ds2) xe) xe
theorem vaV(ha:VE c X e ta)(hr:VAs c X es tr)(hs:starEach (e::es) X.env=(false,eval e X.env)::starEach es X.env:=by rfl):VAs c X (e::es) (tbV ta tr):=by
 refine⟨PA.mono (qg4 ha.h hr.h hs) λ σ H Q ⟨F,ds,A,xe,S,x,q⟩=>?_,λ ds Q Q' xe xe' hQ hx=>ha.m _ _ _ _ _ (λ d ds1=>hr.m _ _ _ _ _ (λ xs ps ds2=>hQ _ _ _) hx) hx⟩;refine⟨F,ds,A,xe,S,x,ha.m _ _ _ _ _ (λ d1 ds1 q v H1 F1 T A1 r1 S1 o1 s1=>?_) (λ _ _ z=>z) q⟩;have s1':Stp F H A F1 H1 A1:=s1.count λ b=>by rw[zA0];lia
 refine⟨F1,ds1,A1,xe,S1,x.step s1',hr.m _ _ _ _ _ (λ xs ps ds2 q vs H2 F2 T2 A2 r2 pk S2 o2 s2=>?_) (λ _ _ z=>z) q⟩;have r1':Rep F2 H2 v d1 T:=r1.keep (s2.kp S1.ok S1.loc.cells) λ b hb hc=>by
   have:=o1.sep b
   rw[zA0] at this
   have:=qa8.mp hb
   lia
 obtain⟨o3,s3⟩:=s2.frame o1 r1.cells o2;exact q (v::vs) H2 F2 (T++T2) A2 (.cons r1' r2) (.no pk) S2 (by rw[zAi];exact o3) (by rw[zAi];exact s1.trans s3)
def tbB(pf:PF)(tr:VTB):VTB:=λ ds Q xe=>orF (pf ds) λ q=>orF (A6 ds q.1 q.2) λ d=>d.known=true/\∀ w,tr (Bf ds q.1 q.2 (.hole w)) (λ xs ps ds2=>Q (d::xs) (.pl q.1 q.2 w::ps) ds2) xe
theorem vaB(ha:VP c X e pf)(hr:VAs c X es tr)(hs:starEach (e::es) X.env=(false,eval e X.env)::starEach es X.env:=by rfl):VAs c X (e::es) (tbB pf tr):=by
 refine⟨PA.mono (qg4 ha.h hr.h hs) λ σ H Q ⟨F,ds,A,xe,S,x,q⟩=>?_,λ ds Q Q' xe xe' hQ hx=>qa4 λ z=>qa4 λ d=>And.imp_right λ h w=>hr.m _ _ _ _ _ (λ xs ps ds2=>hQ _ _ _) hx (h w)⟩;obtain⟨⟨i,p⟩,e1,q⟩:=qa6.mp q;obtain⟨d,e2,hk,q⟩:=qa6.mp q;refine⟨F,ds,A,i,p,d,S,e1,e2,qp0 hk,λ u w H1 hu hw s=>?_⟩;obtain⟨B,C,r,h3,h4⟩:=(S.same s).place e2 (qp0 hk) hu hw;obtain⟨A1,q1,q2⟩:=h4 (.hole w) [] (Kp.same (F:=F) λ _ _ z=>z) (λ _ _ z=>z) (.hole w);have o1:Ok F H1 (B++A1):=(S.same s).ok.count λ b=>by rw[zA0,q2,h3];simp
 have s1:Stp F H A F H1 (B++A1):=⟨λ b o e _=>s b o e,λ b o e z=>by rw[zA0,q2];have:=h3 b;simp;lia,λ _ f=>f,λ _ _ _ _ f=>f⟩
 have S1:Sta c F H1 σ (Bf ds i p (.hole w)) A1:=⟨q1,o1.right,S.len,S.ag⟩
 have s1':Stp F H A F H1 A1:=s1.count λ b=>by rw[zA0];lia
 refine⟨F,_,A1,xe,S1,x.step s1',hr.m _ _ _ _ _ (λ xs ps ds2 q vs H2 F2 T2 A2 r2 pk S2 o2 s2=>?_) (λ _ _ z=>z) (q w)⟩;have r1':Rep F2 H2 w d B:=r.keep (s2.kp S1.ok S1.loc.cells) λ b hb hc=>by
   have:=o1.sep b
   rw[zA0] at this
   have:=qa8.mp hb
   lia
 obtain⟨o3,s3⟩:=s2.frame o1 r.cells o2;exact q (w::vs) H2 F2 (B++T2) A2 (.cons r1' r2) (.so pk) S2 (by rw[zAi];exact o3) (by rw[zAi];exact s1.trans s3)
def tbN(i:Nat)(tr:VTB):VTB:=λ ds Q xe=>(rdN i ds).isSome=true/\tr ds (λ xs ps ds1=>orF (rdN i ds1) λ d=>Q (d::xs) (.sl i::ps) (ds1.set i .unk)) xe
theorem vaN(i:Nat){x:Str}{p:Pos}(hr:VAs c X es tr)(hs:starEach (.Name x p::es) X.env=(false,eval (.Name x p) X.env)::starEach es X.env:=by rfl)(hN:X.N[i]? = some x:=by rfl)(hv:Vis X.env.scope x:=by first | exact Or.inl rfl | exact Or.inr (Or.inl rfl) | exact Or.inr (Or.inr rfl))(hd:(x == ("__debug__" : Str))=false:=by decide)(hcd:(x == ("__classdict__" : Str))=false:=by decide) :
   VAs c X (.Name x p::es) (tbN i tr):=by
 refine⟨λ pos D6 s σ H Q I ⟨F,ds,A,xe,S,x,hs',q⟩=>qg4 (qm3 hN hv hd hcd) hr.h hs pos D6 s σ H Q I ?_,λ ds Q Q' xe xe' hQ hx=>And.imp_right (hr.m _ _ _ _ _ (λ xs ps ds1=>qa4 λ d=>hQ _ _ _) hx)⟩;have hi:=qm7 hN D6 σ H s I;obtain⟨d0,e0⟩:=zB4.mp hs';obtain⟨v,B0,hv0,_,_⟩:=S.name hi e0;refine⟨v,hv0,F,ds,A,xe,S,x,hr.m _ _ _ _ _ (λ xs ps ds1 q vs H2 F2 T2 A2 r2 pk S2 o2 s2=>?_) (λ _ _ z=>z) q⟩;obtain⟨d,ed,q⟩:=qa6.mp q;obtain⟨ed,hk⟩:=qj0.mp ed;obtain⟨v',B,C,h1,h2,h3,h4⟩:=S2.put1 ed (qp0 hk);have h1':=h1;rw[zAt hi,hv0] at h1;cases h1;obtain⟨A3,q1,q2⟩:=h4 .unk [] (Kp.same (F:=F2) λ _ _ z=>z) (λ _ _ z=>z) (.unk v);have hc:∀ b,((B++T2)++A3).count b<=(T2++A2).count b:=λ b=>by simp only[zA0,q2,h3];simp;lia
 exact q (v::vs) H2 F2 (B++T2) A3 (.cons h2 r2) (.sl h1' pk) ⟨q1,(o2.count hc).right,S.len,S.ag⟩ (o2.count hc) (s2.count hc)
def Aq:List Pl->Ds->Ds->Option Ds
 | [],_,ds=>some ds
 | .no::ps,_::ys,ds=>Aq ps ys ds
 | .sl i::ps,y::ys,ds=>Aq ps ys (ds.set i y)
 | .pl i p v::ps,y::ys,ds=>match A6 ds i p with
   | some (.hole w)=>if w=v then Aq ps ys (Bf ds i p y) else none
   | _=>none
 | _::_,[],_=>none
theorem qy9{τ:List (Option V)}{ds:Ds}{C B:List Addr}{y:D}(L:Locs F H τ ds C)(hi:τ[i]? = some (some v))(r:Rep F H v y B):∃ A':List Addr,Locs F H τ (ds.set i y) A'/\∀ b,A'.count b<=B.count b+C.count b:=by
 have hl:=L.len;have hlt:i < τ.length:=(zA5.mp hi).1;obtain⟨d,hd⟩:∃ d,ds[i]? = some d:=⟨_,List.getElem?_eq_getElem (by lia)⟩
 obtain⟨σ1,o,σ2,ds1,ds2,A1,B0,A2,e1,e2,e3,e4,e5,l1,l2,l3⟩:=L.split hd;have ho:τ[i]? = some o:=by rw[e1];exact qy4 e3
 rw[hi] at ho;cases ho;have e6:ds.set i y=ds1++y::ds2:=by
   have:=congrArg (λ l=>l.set i y) e2
   rw[this,qm0 e4]
 exact⟨A1++(B++A2),by rw[e1,e6];exact l1.append (.so r l3),λ b=>by rw[e5];simp only[zA0];lia⟩
theorem qq1{pls:List Pl}{ys ds ds':Ds}{σ:List (Option V)}{B C:List Addr}{more:List V}(pk:Ev σ vs pls)(r:Reps F H (vs++more) ys B)(L:Locs F H σ ds C)(h:Aq pls ys ds=some ds'):∃ A':List Addr,Locs F H σ ds' A'/\∀ b,A'.count b<=B.count b+C.count b:=by
 induction pk generalizing ys ds B C with
 | nil =>
   have h:some ds=some ds':=by cases ys<;>exact h
   cases h;exact⟨C,L,λ b=>by lia⟩
 | no pk ih =>
   cases r with
   | @cons _ _ A1 _ _ B1 r1 t =>
     obtain⟨A',q1,q2⟩:=ih t L h;exact⟨A',q1,λ b=>by rw[zA0];have:=q2 b;lia⟩
 | sl hi pk ih =>
   cases r with
   | @cons _ _ A1 _ _ B1 r1 t =>
     obtain⟨A2,q1,q2⟩:=qy9 L hi r1;obtain⟨A',q3,q4⟩:=ih t q1 h;exact⟨A',q3,λ b=>by rw[zA0];have:=q4 b;have:=q2 b;lia⟩
 | @so v _ _ i p pk ih =>
   cases r with
   | @cons _ y A1 _ _ B1 r1 t =>
     unfold Aq at h;split at h
     . rename_i w hg
       by_cases hw:w=v
       . rw[if_pos hw] at h
         subst hw;obtain⟨u,w',B2,C2,h1,h2,h3,h4,h5⟩:=L.place hg (by intro z;cases z);cases h3;obtain⟨A2,q1,q2⟩:=h5 y A1 (Kp.same (F:=F) λ _ _ z=>z) (λ _ _ z=>z) r1;obtain⟨A',q3,q4⟩:=ih t q1 h;refine⟨A',q3,λ b=>?_⟩
         have:=q4 b
         have:=q2 b
         have:=h4 b
         simp only[List.count_nil,zA0] at *
         lia
       rw[if_neg hw] at h;cases h
     cases h
abbrev VSp:=Ds->DK->XKd->Prop
inductive LiftF(s:VSp)(vs:List V)(H:Hp)(Q:VK)(E:XK):Prop
 | mk (F:Addr->Prop) (ds:Ds) (A:List Addr) (r:Reps F H vs ds A) (o:Ok F H A) (q:s ds (λ d ys=>∀ v H' F' T A',Rep F' H' v d T->Reps F' H' vs ys A'->Ok F' H' (T++A')->Stp F H A F' H' (T++A')->Q v H')
   (λ x ys=>∀ e H' F' A',RepX F' H' e x->Reps F' H' vs ys A'->Ok F' H' A'->Stp F H A F' H' A'->E (.ref e) none H')):LiftF s vs H Q E
def Fp(s:VSp):Sp:=LiftF s
def Bp(s:VSp):Prop:=∀ ds (Q Q':DK) (xe xe':XKd),(∀ d ds',Q d ds'->Q' d ds')->(∀ x ds',xe x ds'->xe' x ds')->s ds Q xe->s ds Q' xe'
def qi6(s:VSp)(dv:Ds)(tr:VTB):VT:=λ ds Q xe=>tr ds (λ xs ps ds1=>s (xs++dv) (λ d ys=>orF (Aq ps ys ds1) λ ds2=>Q d ds2) (λ x ys=>orF (Aq ps ys ds1) λ ds2=>xe x ds2)) xe
theorem qai1{s:VSp}{dv:Ds}(hs:Bp s)(ha:VAs c X es tr):∀ ds (Q Q':DK) (xe xe':XKd),(∀ d ds',Q d ds'->Q' d ds')->(∀ x ds',xe x ds'->xe' x ds')->qi6 s dv tr ds Q xe->qi6 s dv tr ds Q' xe' :=
 λ ds Q Q' xe xe' hQ hx=>ha.m _ _ _ _ _ (λ xs ps ds1=>hs _ _ _ _ _ (λ d ys=>qa4 λ z=>hQ _ _) (λ x ys=>qa4 λ z=>hx _ _)) hx
def G3(dvs:List V)(dv:Ds):Prop:=∀ F H,Reps F H dvs dv []
theorem qC3:G3 [] []:=λ _ _=>.nil
theorem qah5:G3 [.non] [.non]:=λ _ _=>.cons (A:=[]) (B:=[]) .non .nil
theorem qaE6{s:VSp}{dvs:List V}{dv:Ds}(hd:G3 dvs dv)(hs:Bp s)(ha:VAs c X es tr):∀ σ H Q,Bd c (qi6 s dv tr) σ H Q->Hb (Fp s) dvs c.E (Ey c tr) σ H Q:=by
 rintro σ H Q ⟨F,ds,A,xe,S,x,q⟩;refine⟨F,ds,A,xe,S,x,ha.m _ _ _ _ _ (λ xs ps ds1 q vs H1 F1 T A1 r1 pk S1 o1 s1=>?_) (λ _ _ z=>z) q⟩;have rall:Reps F1 H1 (vs++dvs) (xs++dv) (T++[]):=r1.append (hd F1 H1);rw[zAd] at rall;refine⟨F1,xs++dv,T,rall,o1.left,hs _ _ _ _ _ (λ d ys q v H2 F2 T2 A2 r2 ra o2 s2=>?_) (λ y ys q e H2 F2 A2 rx ra o2 s2=>?_) q⟩
 . obtain⟨ds2,eb,q⟩:=qa6.mp q
   have o1':Ok F1 H1 (A1++T):=o1.count λ b=>by simp only[zA0];lia
   obtain⟨o3,s3⟩:=s2.frame o1' S1.loc.cells o2;have L1:Locs F2 H2 (σ++c.gv) ds1 A1:=S1.loc.keep (s2.kp o1.left rall.cells) λ b hb hc=>by
     have:=o1.sep b
     rw[zA0] at this
     have:=qa8.mp hb
     lia
   obtain⟨A3,q1,q2⟩:=qq1 pk ra L1 eb;have hc:∀ b,(T2++A3).count b<=(A1++(T2++A2)).count b:=λ b=>by simp only[zA0];have:=q2 b;lia
   have o4:Ok F2 H2 (T2++A3):=o3.count hc;have s4:Stp F H A F2 H2 (T2++A3):=(s1.trans (s3.pre λ b=>by simp only[zA0];lia)).count hc;exact q v H2 F2 T2 A3 r2 ⟨q1,o4.right,S.len,S.ag⟩ o4 s4
 obtain⟨ds2,eb,q⟩:=qa6.mp q;have o1':Ok F1 H1 (A1++T):=o1.count λ b=>by simp only[zA0];lia
 obtain⟨o3,s3⟩:=s2.frame o1' S1.loc.cells o2;have L1:Locs F2 H2 (σ++c.gv) ds1 A1:=S1.loc.keep (s2.kp o1.left rall.cells) λ b hb hc=>by
   have:=o1.sep b
   rw[zA0] at this
   have:=qa8.mp hb
   lia
 obtain⟨A3,q1,q2⟩:=qq1 pk ra L1 eb;have hc:∀ b,A3.count b<=(A1++A2).count b:=λ b=>by simp only[zA0];have:=q2 b;lia
 have o4:Ok F2 H2 A3:=o3.count hc;have s4:Stp F H A F2 H2 A3:=(s1.trans (s3.pre λ b=>by simp only[zA0];lia)).count hc;exact x y ds2 σ e H2 F2 A3 q rx ⟨q1,o4,S.len,S.ag⟩ s4
end
structure VFn(P:Program)(w:World)(K:PySem.W.Frag)(mg:Str->Option Value)(base:Heap)(k:Nat)(f:Addr)(fd:FuncData)(ps:List Str)(s:VSp):Prop where
 ok:By P w K mg base (CX1 P w) k f fd ps (Fp s)
 m:Bp s
section
variable{c:Vc}{X:Cx}{a e:Expr}{es:List Expr}{tr:VTB}{F F1:Addr->Prop}{H H1:Hp}{σ:St}{ds ds1:Ds}{A A1 T:List Addr}{pos p apos:Pos}{x qual m:Str}{st:Stmt}{f C:Addr}{fd:FuncData}{ps:List Str}{k:Nat}{s:VSp}{dvs:List V}{dv:Ds}
theorem Aj(D:Df X.K X.mg x qual st f fd ps)(G:VFn X.prog X.w X.K X.mg X.base k f fd ps s)(hl:Lands X c.E)(hr:Room k X.A)(ha:VAs c X (e::es) tr)(hg:Gl X x:=by rfl)(hdb:(x == ("__debug__" : Str))=false:=by decide)(he:starEach (e::es) X.env=(false,eval e X.env)::starEach es X.env:=by rfl)(hpl:(backTo pos (starEach es X.env)).any (·.1)=false:=by rfl):VE c X (.Call (.Name x p) (e::es) [] pos) (qi6 s [] tr) :=
 ⟨PE.mono (qak7 G.ok hr hg D.m D.F.kp D.b .nil hl.passes ha.h hdb he hpl) (qaE6 qC3 G.m ha),qai1 G.m ha⟩
theorem qaE7{xs:Ds}{pls:List Pl}{xe:XKd}{K:DK}(hd:G3 dvs dv)(hs:Bp s)(S:Sta c F H σ ds A)(x:Xc c xe F H A)(r1:Reps F1 H1 vs xs T)(pk:Ev (σ++c.gv) vs pls)(S1:Sta c F1 H1 σ ds1 A1)(o1:Ok F1 H1 (T++A1))(s1:Stp F H A F1 H1 (T++A1))(hK:∀ d ds',K d ds'->∀ v H' F' T A',Rep F' H' v d T->Sta c F' H' σ ds' A'->Ok F' H' (T++A')->Stp F H A F' H' (T++A')->Q v H')(q:s (xs++dv) (λ d ys=>orF (Aq pls ys ds1) λ ds2=>K d ds2) (λ x ys=>orF (Aq pls ys ds1) λ ds2=>xe x ds2)):Fp s (vs++dvs) H1 Q c.E:=by
 have rall:Reps F1 H1 (vs++dvs) (xs++dv) (T++[]):=r1.append (hd F1 H1);rw[zAd] at rall;refine⟨F1,xs++dv,T,rall,o1.left,hs _ _ _ _ _ (λ d ys q v H2 F2 T2 A2 r2 ra o2 s2=>?_) (λ y ys q e H2 F2 A2 rx ra o2 s2=>?_) q⟩
 . obtain⟨ds2,eb,q⟩:=qa6.mp q
   have o1':Ok F1 H1 (A1++T):=o1.count λ b=>by simp only[zA0];lia
   obtain⟨o3,s3⟩:=s2.frame o1' S1.loc.cells o2;have L1:Locs F2 H2 (σ++c.gv) ds1 A1:=S1.loc.keep (s2.kp o1.left rall.cells) λ b hb hc=>by
     have:=o1.sep b
     rw[zA0] at this
     have:=qa8.mp hb
     lia
   obtain⟨A3,q1,q2⟩:=qq1 pk ra L1 eb;have hc:∀ b,(T2++A3).count b<=(A1++(T2++A2)).count b:=λ b=>by simp only[zA0];have:=q2 b;lia
   have o4:Ok F2 H2 (T2++A3):=o3.count hc;have s4:Stp F H A F2 H2 (T2++A3):=(s1.trans (s3.pre λ b=>by simp only[zA0];lia)).count hc;exact hK d ds2 q v H2 F2 T2 A3 r2 ⟨q1,o4.right,S.len,S.ag⟩ o4 s4
 obtain⟨ds2,eb,q⟩:=qa6.mp q;have o1':Ok F1 H1 (A1++T):=o1.count λ b=>by simp only[zA0];lia
 obtain⟨o3,s3⟩:=s2.frame o1' S1.loc.cells o2;have L1:Locs F2 H2 (σ++c.gv) ds1 A1:=S1.loc.keep (s2.kp o1.left rall.cells) λ b hb hc=>by
   have:=o1.sep b
   rw[zA0] at this
   have:=qa8.mp hb
   lia
 obtain⟨A3,q1,q2⟩:=qq1 pk ra L1 eb;have hc:∀ b,A3.count b<=(A1++A2).count b:=λ b=>by simp only[zA0];have:=q2 b;lia
 have o4:Ok F2 H2 A3:=o3.count hc;have s4:Stp F H A F2 H2 A3:=(s1.trans (s3.pre λ b=>by simp only[zA0];lia)).count hc;exact x y ds2 σ e H2 F2 A3 q rx ⟨q1,o4,S.len,S.ag⟩ s4
def D.isM(C:Addr)(m:Str):D->Bool
 | .ins _ C' fs=>decide (C'=C)&&(fs.lookup m).isNone
 | _=>false
theorem qy1{α β:Type}:∀{fs:List (Str×α)}{gs:List (Str×β)}{f:Str},fs.map (·.1)=gs.map (·.1)->(fs.lookup f).isNone=(gs.lookup f).isNone
 | [],[],_,_=>rfl
 | [],_::_,_,h=>by simp at h
 | _::_,[],_,h=>by simp at h
 | (k,_)::r,(k',_)::r',f,h=>by
   have h1:k=k':=by simp at h;exact h.1
   have h2:r.map (·.1)=r'.map (·.1):=by simp at h;simpa using h.2
   subst h1;rw[zAu,zAu];cases f == k with
   | true=>rfl
   | false=>exact qy1 h2
theorem Rep.isM{d:D}{B:List Addr}(r:Rep F H v d B)(h:d.isM C m=true):∃ a dx fs,v=.ref a/\H a=some (.ins C dx fs)/\fs.lookup m=none:=by
 cases d with
 | ins z C' fds =>
   have h:=zAh.mp h;obtain⟨a,dx,fvs,A,rfl,ha,e,rs,_⟩:=r.ins_inv
   have:=zAf h.1
   subst this;refine⟨a,dx,fvs,rfl,ha,?_⟩;have h2:=h.2;rw[<- qy1 e] at h2;exact Option.isNone_iff_eq_none.mp h2
 | _=>cases h
def qr7(C:Addr)(m:Str)(s:VSp)(dv:Ds)(i:Nat)(tr:VTB):VT:=λ ds Q xe=>(orF (rdN i ds) λ d=>d.isM C m=true)/\tr ds (λ xs ps ds1=>orF (rdN i ds1) λ d=>s (d::(xs++dv)) (λ r ys=>orF (Aq (.sl i::ps) ys (ds1.set i .unk)) λ ds2=>Q r ds2) (λ x ys=>orF (Aq (.sl i::ps) ys (ds1.set i .unk)) λ ds2=>xe x ds2)) xe
theorem qE1(hs:Bp s)(ha:VAs c X es tr):∀ ds (Q Q':DK) (xe xe':XKd),(∀ d ds',Q d ds'->Q' d ds')->(∀ x ds',xe x ds'->xe' x ds')->qr7 C m s dv i tr ds Q xe->qr7 C m s dv i tr ds Q' xe' :=
 λ ds Q Q' xe xe' hQ hx=>And.imp_right (ha.m _ _ _ _ _ (λ xs ps ds1=>qa4 λ d=>hs _ _ _ _ _ (λ d ys=>qa4 λ z=>hQ _ _) (λ x ys=>qa4 λ z=>hx _ _)) hx)
theorem qY0{σ:St}{H:Hp}(hd:G3 dvs dv)(hs:Bp s)(ha:VAs c X es tr)(hi:i < σ.length)(q:Bd c (qr7 C m s dv i tr) σ H Q):Hc C m (Fp s) dvs c.E (Er i) (Ey c tr) σ H Q:=by
 obtain⟨F,ds,A,xe,S,x,hk,q⟩:=q;obtain⟨d0,e0,hk⟩:=qa6.mp hk;obtain⟨v,B0,hv0,r0,_⟩:=S.name hi e0;obtain⟨a,dx,fs,rfl,ha1,ha2⟩:=r0.isM hk;refine⟨.ref a,hv0,a,dx,fs,rfl,ha1,ha2,F,ds,A,xe,S,x,ha.m _ _ _ _ _ (λ xs ps ds2 q vs H2 F2 T2 A2 r2 pk S2 o2 s2=>?_) (λ _ _ z=>z) q⟩;obtain⟨d,ed,q⟩:=qa6.mp q;obtain⟨ed,hkn⟩:=qj0.mp ed;obtain⟨v',B,C0,h1,h2,h3,h4⟩:=S2.put1 ed (qp0 hkn);have h1':=h1;rw[zAt hi,hv0] at h1;cases h1;obtain⟨A3,q1,q2⟩:=h4 .unk [] (Kp.same (F:=F2) λ _ _ z=>z) (λ _ _ z=>z) (.unk _);have hc:∀ b,((B++T2)++A3).count b<=(T2++A2).count b:=λ b=>by simp only[zA0,q2,h3];simp;lia
 exact qaE7 (vs:=.ref a::vs) (xs:=d::xs) hd hs S x (.cons h2 r2) (.sl h1' pk) ⟨q1,(o2.count hc).right,S.len,S.ag⟩ (o2.count hc) (s2.count hc) (λ d ds' h=>h) q
theorem qh0{pl:Sem Bool}(i:Nat){xn:Str}{p0:Pos}(D:Md X.K C m qual st f fd ps)(cl:Cls X.K C)(G:VFn X.prog X.w X.K X.mg X.base k f fd ps s)(hl:Lands X c.E)(hr:Room k X.A)(ha:VAs c X (e::es) tr)(hN:X.N[i]? = some xn:=by rfl)(hv:Vis X.env.scope xn:=by first | exact Or.inl rfl | exact Or.inr (Or.inl rfl) | exact Or.inr (Or.inr rfl))(hd:(xn == ("__debug__" : Str))=false:=by decide)(hcd:(xn == ("__classdict__" : Str))=false:=by decide)(hst:starEach (e::es) X.env=(false,eval e X.env)::starEach es X.env:=by rfl)(hpl:(backTo pos (starEach es X.env)).any (·.1)=false:=by rfl)(ht:eval (.Call (.Attribute (.Name xn p0) m apos) (e::es) [] pos) X.env=(do
     let ov <- eval (.Name xn p0) X.env
     standAt apos.atName
     let (f,first) <- holding [ov] (getMethod ov m pl)
     callWith pos f first (backTo pos (starEach (e::es) X.env)) (backToKw pos (keywordEach [] X.env))):=by rfl):VE c X (.Call (.Attribute (.Name xn p0) m apos) (e::es) [] pos) (qr7 C m s [] i tr) :=
 ⟨λ D6 s σ H Q I q=>qay9 (qm3 hN hv hd hcd) cl D.me G.ok hr D.b .nil hl.passes ha.h hst hpl ht D6 s σ H Q I (qY0 qC3 G.m ha (qm7 hN D6 σ H s I) q),qE1 G.m ha⟩
theorem qam8{pl:Sem Bool}(i:Nat){xn:Str}{p0:Pos}(D:Md X.K C m qual st f fd ps)(cl:Cls X.K C)(G:VFn X.prog X.w X.K X.mg X.base k f fd ps s)(hl:Lands X c.E)(hr:Room k X.A)(hN:X.N[i]? = some xn:=by rfl)(hv:Vis X.env.scope xn:=by first | exact Or.inl rfl | exact Or.inr (Or.inl rfl) | exact Or.inr (Or.inr rfl))(hd:(xn == ("__debug__" : Str))=false:=by decide)(hcd:(xn == ("__classdict__" : Str))=false:=by decide)(ht:eval (.Call (.Attribute (.Name xn p0) m apos) [] [] pos) X.env=(do
     let ov <- eval (.Name xn p0) X.env
     standAt apos.atName
     let (f,first) <- holding [ov] (getMethod ov m pl)
     callWith pos f first (backTo pos (starEach [] X.env)) (backToKw pos (keywordEach [] X.env))):=by rfl):VE c X (.Call (.Attribute (.Name xn p0) m apos) [] [] pos) (qr7 C m s [] i A5) :=
 ⟨λ D6 s0 σ H Q I q=>qap9 (qm3 hN hv hd hcd) cl D.me G.ok hr D.b .nil hl.passes ht D6 s0 σ H Q I (by
   obtain⟨v,hv,a,dx,fs,h1,h2,h3,F2,ds2,A2,xe2,S2,x2,q2⟩:=qY0 (c:=c) (X:=X) qC3 G.m Ac (qm7 hN D6 σ H s0 I) q;exact⟨v,hv,a,dx,fs,h1,h2,h3,q2 [] H F2 [] A2 .nil .nil S2 S2.ok Stp.refl⟩),qE1 (c:=c) G.m (X:=X) Ac⟩
def qQ6(C:Addr)(s:VSp)(dv:Ds)(tr:VTB):VT:=λ ds Q xe=>tr ds (λ xs ps ds1=>s (.ins false C []::(xs++dv)) (λ d ys=>d.isN=some true/\orF ys.head? λ self=>orF (Aq ps ys.tail ds1) λ ds2=>Q self ds2) (λ x ys=>orF (Aq ps ys.tail ds1) λ ds2=>xe x ds2)) xe
theorem qN0(hs:Bp s)(ha:VAs c X es tr):∀ ds (Q Q':DK) (xe xe':XKd),(∀ d ds',Q d ds'->Q' d ds')->(∀ x ds',xe x ds'->xe' x ds')->qQ6 C s dv tr ds Q xe->qQ6 C s dv tr ds Q' xe' :=
 λ ds Q Q' xe xe' hQ hx=>ha.m _ _ _ _ _ (λ xs ps ds1=>hs _ _ _ _ _ (λ d ys=>And.imp_right (qa4 λ z=>qa4 λ w=>hQ _ _)) (λ x ys=>qa4 λ z=>hx _ _)) hx
theorem qal2(hd:G3 dvs dv)(hs:Bp s)(ha:VAs c X es tr):∀ σ H Q,Bd c (qQ6 C s dv tr) σ H Q->tMake C (Fp s) dvs c.E (Ey c tr) σ H Q:=by
 rintro σ H Q ⟨F,ds,A,xe,S,x,q⟩;refine⟨F,ds,A,xe,S,x,ha.m _ _ _ _ _ (λ xs ps ds1 q vs H1 F1 T A1 r1 pk S1 o1 s1=>?_) (λ _ _ z=>z) q⟩;intro y dy hy hdy hne;have same:Same H1 (upd (upd H1 dy (.own y)) y (.ins C dy [])):=(Same.new hdy).trans (Same.new (by rw[qc7 (Ne.symm hne)];exact hy));have rall:Reps F1 (upd (upd H1 dy (.own y)) y (.ins C dy [])) (.ref y::(vs++dvs)) (.ins false C []::(xs++dv)) ([y]++(T++[])) :=
   .cons (.ins qb8 rfl .nil) ((r1.append (hd F1 H1)).same same)
 rw[zAd] at rall;have oN:Ok F1 (upd (upd H1 dy (.own y)) y (.ins C dy [])) ([y]++(T++A1)):=(qf2 hy).ok o1 (λ b hb=>by
   rcases zAb.mp hb with hb | hb
   . exact r1.cells b hb
   exact S1.loc.cells b hb) same
 have oT:Ok F1 (upd (upd H1 dy (.own y)) y (.ins C dy [])) ([y]++T):=oN.count λ b=>by simp only[zA0];lia
 have sN:Stp F H A F1 (upd (upd H1 dy (.own y)) y (.ins C dy [])) ([y]++(T++A1)):=s1.trans ((qf2 hy).stp same);have S1':=S1.same same;refine⟨F1,_,[y]++T,rall,oT,hs _ _ _ _ _ (λ d ys q v H2 F2 T2 A2 r2 ra o2 s2=>?_) (λ ex ys q e H2 F2 A2 rx ra o2 s2=>?_) q⟩
 . obtain⟨hn,q⟩:=q
   have hv:v=.non:=by
     cases d with
     | non=>cases r2;rfl
     | _=>cases hn
   refine⟨hv,?_⟩;obtain⟨self,eh,q⟩:=qa6.mp q;obtain⟨ds2,eb,qf⟩:=qa6.mp q;have o1':Ok F1 _ (A1++([y]++T)):=oN.count λ b=>by simp only[zA0];lia
   obtain⟨o3,s3⟩:=s2.frame o1' S1'.loc.cells o2;have L1:Locs F2 H2 (σ++c.gv) ds1 A1:=S1'.loc.keep (s2.kp oT rall.cells) λ b hb hc=>by
     have:=oN.sep b
     simp only[zA0] at this hc
     have:=qa8.mp hb
     lia
   cases ra with
   | @cons _ d0 Aself _ ys' B' rself rrest =>
     cases eh;obtain⟨A3,q1,q2⟩:=qq1 pk rrest L1 eb;have hc:∀ b,(Aself++A3).count b<=(A1++(T2++(Aself++B'))).count b:=λ b=>by simp only[zA0];have:=q2 b;lia
     have o4:=o3.count hc;have s4:Stp F H A F2 H2 (Aself++A3):=(sN.trans (s3.pre λ b=>by simp only[zA0];lia)).count hc;exact qf (.ref y) H2 F2 Aself A3 rself ⟨q1,o4.right,S.len,S.ag⟩ o4 s4
 obtain⟨ds2,eb,qf⟩:=qa6.mp q;have o1':Ok F1 _ (A1++([y]++T)):=oN.count λ b=>by simp only[zA0];lia
 obtain⟨o3,s3⟩:=s2.frame o1' S1'.loc.cells o2;have L1:Locs F2 H2 (σ++c.gv) ds1 A1:=S1'.loc.keep (s2.kp oT rall.cells) λ b hb hc=>by
   have:=oN.sep b
   simp only[zA0] at this hc
   have:=qa8.mp hb
   lia
 cases ra with
 | @cons _ d0 Aself _ ys' B' rself rrest =>
   obtain⟨A3,q1,q2⟩:=qq1 pk rrest L1 eb;have hc:∀ b,A3.count b<=(A1++(Aself++B')).count b:=λ b=>by simp only[zA0];have:=q2 b;lia
   have o4:=o3.count hc;have s4:Stp F H A F2 H2 A3:=(sN.trans (s3.pre λ b=>by simp only[zA0];lia)).count hc;exact x ex ds2 σ e H2 F2 A3 qf rx ⟨q1,o4,S.len,S.ag⟩ s4
theorem emake(cl:Cl X.K X.mg x C)(M:Mk X.K C f)(D:Md X.K C m qual st f fd ps)(G:VFn X.prog X.w X.K X.mg X.base k f fd ps s)(hl:Lands X c.E)(hr:Room (k+1) X.A)(ha:VAs c X (e::es) tr)(hg:Gl X x:=by rfl)(hdb:(x == ("__debug__" : Str))=false:=by decide)(he:starEach (e::es) X.env=(false,eval e X.env)::starEach es X.env:=by rfl)(hpl:(backTo pos (starEach es X.env)).any (·.1)=false:=by rfl):VE c X (.Call (.Name x p) (e::es) [] pos) (qQ6 C s [] tr) :=
 ⟨PE.mono (qak5 M G.ok hr hg cl.m D.b .nil hl.passes ha.h hdb he hpl) (qal2 qC3 G.m ha),qN0 G.m ha⟩
theorem qaE1{ndv:List Value}(cl:Cl X.K X.mg x C)(M:Mk X.K C f)(b:Binds X.K fd ps [.none])(G:VFn X.prog X.w X.K X.mg X.base k f fd ps s)(hl:Lands X c.E)(hr:Room (k+1) X.A)(ha:VAs c X (e::es) tr)(hg:Gl X x:=by rfl)(hdb:(x == ("__debug__" : Str))=false:=by decide)(he:starEach (e::es) X.env=(false,eval e X.env)::starEach es X.env:=by rfl)(hpl:(backTo pos (starEach es X.env)).any (·.1)=false:=by rfl):VE c X (.Call (.Name x p) (e::es) [] pos) (qQ6 C s [.non] tr) :=
 ⟨PE.mono (qak5 M G.ok hr hg cl.m b (dvs:=[.non]) (.cons rfl .nil) hl.passes ha.h hdb he hpl) (qal2 qah5 G.m ha),qN0 G.m ha⟩
def tLstV(tr:VTB):VT:=λ ds Q xe=>tr ds (λ xs ps ds1=>xs.length<=big/\Q (.lst false xs) ds1) xe
def Hr(tr:VTB):VT:=λ ds Q xe=>tr ds (λ xs ps ds1=>xs.length<=big/\Q (.tup xs) ds1) xe
theorem elst(ha:VAs c X es tr):VE c X (.List es pos) (tLstV tr):=by
 refine⟨PE.mono (qaq0 ha.h) λ σ H Q ⟨F,ds,A,xe,S,x,q⟩=>?_,λ ds Q Q' xe xe' hQ hx=>ha.m _ _ _ _ _ (λ xs ps ds1=>And.imp_right (hQ _ _)) hx⟩;refine⟨F,ds,A,xe,S,x,ha.m _ _ _ _ _ (λ xs ps ds1 q vs H1 F1 T A1 r1 pk S1 o1 s1=>⟨by rw[r1.len];exact zAn q.1 qg8,λ y hy=>?_⟩) (λ _ _ z=>z) q⟩;have same:=Same.new (u:=.lst vs) hy;have oN:=(qf2 hy).ok o1 (λ b hb=>by
   rcases zAb.mp hb with hb | hb
   . exact r1.cells b hb
   exact S1.loc.cells b hb) same
 exact q.2 (.ref y) _ F1 (y::T) A1 (.lst qb8 (r1.same same)) (S1.same same) oN (s1.trans ((qf2 hy).stp same))
theorem G4(ha:VAs c X es tr):VE c X (.Tuple es n pos) (Hr tr):=by
 refine⟨PE.mono (qay6 ha.h) λ σ H Q ⟨F,ds,A,xe,S,x,q⟩=>?_,λ ds Q Q' xe xe' hQ hx=>ha.m _ _ _ _ _ (λ xs ps ds1=>And.imp_right (hQ _ _)) hx⟩;refine⟨F,ds,A,xe,S,x,ha.m _ _ _ _ _ (λ xs ps ds1 q vs H1 F1 T A1 r1 pk S1 o1 s1=>⟨by rw[r1.len];exact zAn q.1 qg8,λ y hy=>?_⟩) (λ _ _ z=>z) q⟩;have same:=Same.new (u:=.tup vs) hy;exact q.2 (.ref y) _ F1 T A1 (qX7 hy r1) (S1.same same) (o1.same same) (s1.trans (.same same))
end
structure VEnds where
 nx:Ds->Prop
 rt:DK
 bk:Ds->Prop
 ct:Ds->Prop
 xe:XKd
abbrev VTS:=VEnds->Ds->Prop
structure VEnds.Le(e e':VEnds):Prop where
 nx:∀ ds,e.nx ds->e'.nx ds
 rt:∀ d ds,e.rt d ds->e'.rt d ds
 bk:∀ ds,e.bk ds->e'.bk ds
 ct:∀ ds,e.ct ds->e'.ct ds
 xe:∀ x ds,e.xe x ds->e'.xe x ds
structure Lk(c:Vc)(E:Dl)(F:Addr->Prop)(H:Hp)(A:List Addr)(e:VEnds):Prop where
 nx:∀ ds' σ' H' F' A',e.nx ds'->Sta c F' H' σ' ds' A'->Stp F H A F' H' A'->E.nx σ' H'
 rt:∀ d ds' v σ' H' F' T A',e.rt d ds'->Rep F' H' v d T->Sta c F' H' σ' ds' A'->Ok F' H' (T++A')->Stp F H A F' H' (T++A')->E.rt v H'
 bk:∀ ds' σ' H' F' A',e.bk ds'->Sta c F' H' σ' ds' A'->Stp F H A F' H' A'->E.bk σ' H'
 ct:∀ ds' σ' H' F' A',e.ct ds'->Sta c F' H' σ' ds' A'->Stp F H A F' H' A'->E.ct σ' H'
 xe:Xc c e.xe F H A
theorem Lk.step{c:Vc}{E:Dl}{F F1:Addr->Prop}{H H1:Hp}{A A1:List Addr}{e:VEnds}(l:Lk c E F H A e)(s:Stp F H A F1 H1 A1):Lk c E F1 H1 A1 e :=
 ⟨λ ds' σ' H' F' A' h S t=>l.nx ds' σ' H' F' A' h S (s.trans t),λ d ds' v σ' H' F' T A' h r S o t=>l.rt d ds' v σ' H' F' T A' h r S o (s.trans t),λ ds' σ' H' F' A' h S t=>l.bk ds' σ' H' F' A' h S (s.trans t),λ ds' σ' H' F' A' h S t=>l.ct ds' σ' H' F' A' h S (s.trans t),l.xe.step s⟩
inductive LiftS(c:Vc)(t:VTS)(E:Dl)(σ:St)(H:Hp):Prop
 | mk (F:Addr->Prop) (ds:Ds) (A:List Addr) (e:VEnds) (S:Sta c F H σ ds A) (l:Lk c E F H A e) (q:t e ds):LiftS c t E σ H
def El(c:Vc)(t:VTS):TS:=LiftS c t
structure VS(c:Vc)(X:Cx)(st:Stmt)(t:VTS):Prop where
 h:PS X st (El c t)
 m:∀(e e':VEnds) ds,e.Le e'->t e ds->t e' ds
structure VSs(c:Vc)(X:Cx)(st:List Stmt)(t:VTS):Prop where
 h:PSs X st (El c t)
 m:∀(e e':VEnds) ds,e.Le e'->t e ds->t e' ds
section
variable{c:Vc}{X:Cx}{a b e:Expr}{st:Stmt}{rest:List Stmt}{t u:VTS}{te:VT}{pos:Pos}
def Fq:VTS:=λ e ds=>e.nx ds
def Fa(t u:VTS):VTS:=λ e ds=>t { e with nx:=u e } ds
theorem Ax:VSs c X [] Fq:=⟨PSs.mono qax4 λ E σ H ⟨F,ds,A,e,S,l,q⟩=>l.nx ds σ H F A q S Stp.refl,λ e e' ds h=>h.nx ds⟩
theorem Ab(h1:VS c X st t)(h2:VSs c X rest u):VSs c X (st::rest) (Fa t u):=by
 refine⟨PSs.mono (qW7 h1.h h2.h) λ E σ H ⟨F,ds,A,e,S,l,q⟩=>?_,λ e e' ds h=>h1.m _ _ _ ⟨λ ds=>h2.m _ _ _ h,h.rt,h.bk,h.ct,h.xe⟩⟩;exact⟨F,ds,A,{ e with nx:=u e },S,⟨λ ds' σ' H' F' A' q S' s=>⟨F',ds',A',e,S',l.step s,q⟩,l.rt,l.bk,l.ct,l.xe⟩,q⟩
theorem Ah(h1:VS c X st t):VSs c X [st] t:=⟨qak0 h1.h,h1.m⟩
def sRet(te:VT):VTS:=λ e ds=>te ds e.rt e.xe
theorem At(h:VE c X e te):VS c X (.Return (some e) pos) (sRet te):=by
 refine⟨PS.mono (qax6 h.h) λ E σ H ⟨F,ds,A,e,S,l,q⟩=>⟨F,ds,A,e.xe,S,l.xe,h.m _ _ _ _ _ (λ d ds' q v H' F' T A' r S' o s=>l.rt d ds' v σ H' F' T A' q r S' o s) (λ _ _ z=>z) q⟩,λ e e' ds hl=>h.m _ _ _ _ _ hl.rt hl.xe⟩
def Hs(te:VT):VTS:=λ e ds=>te ds (λ _ ds'=>e.nx ds') e.xe
theorem Bj(h:VE c X e te)(hs:swapsWith e none pos.line X.env=pure false:=by rfl):VS c X (.Expr e pos) (Hs te):=by
 refine⟨PS.mono (qax7 h.h hs) λ E σ H ⟨F,ds,A,e,S,l,q⟩=>⟨F,ds,A,e.xe,S,l.xe,h.m _ _ _ _ _ (λ d ds' q v H' F' T A' r S' o s=>l.nx ds' σ H' F' A' q S' (s.count λ b=>by rw[zA0];lia)) (λ _ _ z=>z) q⟩,λ e e' ds hl=>h.m _ _ _ _ _ (λ _=>hl.nx) hl.xe⟩
def sIf(qc:VTT)(t u:VTS):VTS:=λ e ds=>qc ds (λ k ds'=>if k=true then t e ds' else u e ds') e.xe
theorem sif{x y:List Stmt}{qc:VTT}(hc:VTe c X cd qc)(ha:VSs c X x t)(hb:VSs c X y u):VS c X (.If cd x y pos) (sIf qc t u):=by
 refine⟨PS.mono (ps_if hc.h ha.h hb.h) λ E σ H ⟨F,ds,A,e,S,l,q⟩=>⟨F,ds,A,e.xe,S,l.xe,hc.m _ _ _ _ _ (λ k ds' q H' F' A' S' s=>?_) (λ _ _ z=>z) q⟩,λ e e' ds hl=>hc.m _ _ _ _ _ (λ k ds'=>qE5 (ha.m _ _ _ hl) (hb.m _ _ _ hl)) hl.xe⟩;cases k with
 | true=>rw[if_pos rfl] at q ⊢;exact⟨F',ds',A',e,S',l.step s,q⟩
 | false=>rw[if_neg (by decide)] at q ⊢;exact⟨F',ds',A',e,S',l.step s,q⟩
def qaG6:VTS:=λ _ _=>False
theorem qg2:VS c X st qaG6:=⟨λ _ _ _ _ _ _ ⟨_,_,_,_,_,_,q⟩=>q.elim,λ _ _ _ _ q=>q.elim⟩
abbrev VTG:=D->Ds->(Ds->Prop)->Prop
inductive LiftG(c:Vc)(g:VTG)(v:V)(σ:St)(H:Hp)(Q:St->Hp->Prop):Prop
 | mk (F:Addr->Prop) (ds:Ds) (A T:List Addr) (d:D) (r:Rep F H v d T) (S:Sta c F H σ ds A) (o:Ok F H (T++A)) (q:g d ds (λ ds'=>∀ σ' H' F' A',Sta c F' H' σ' ds' A'->Stp F H (T++A) F' H' A'->Q σ' H')):LiftG c g v σ H Q
def Ez(c:Vc)(g:VTG):TG:=LiftG c g
structure VG(c:Vc)(X:Cx)(e:Expr)(g:VTG):Prop where
 h:PG X e (Ez c g)
 m:∀ d ds (Q Q':Ds->Prop),(∀ ds',Q ds'->Q' ds')->g d ds Q->g d ds Q'
theorem PG.mono{g g':TG}(h:PG X e g)(i:∀ v σ H Q,g' v σ H Q->g v σ H Q):PG X e g':=λ D6 s σ H v u Q I r q=>h D6 s σ H v u Q I r (i v σ H Q q)
theorem Sta.store{F:Addr->Prop}{H:Hp}{σ:St}{ds:Ds}{A T:List Addr}{d:D}(S:Sta c F H σ ds A)(hW:c.W i=false)(hi:i < σ.length)(r:Rep F H v d T)(o:Ok F H (T++A)) :
   ∃ A',Sta c F H (σ.set i (some v)) (ds.set i d) A'/\Stp F H (T++A) F H A':=by
 have hl:=S.loc.len;rw[zA7] at hl;obtain⟨σ1,o1,σ2,ds1,ds2,A1,B,A2,e1,e2,e3,e4,e5,l1,l2,l3⟩:=S.loc.split (i:=i) (d:=ds[i]'(by lia)) (by simp);have hσ:σ.set i (some v)++c.gv=σ1++some v::σ2:=by
   rw[<- List.set_append_left _ _ hi,e1,qm0 e3]
 have hds:ds.set i d=ds1++d::ds2:=by
   have:=congrArg (λ l=>l.set i d) e2
   rw[this,qm0 e4]
 have cnt:∀ b,(A1++(T++A2)).count b<=(T++A).count b:=λ b=>by rw[e5];simp only[zA0];lia
 refine⟨A1++(T++A2),⟨by rw[hσ,hds];exact l1.append (.so r l3),o.count cnt,?_,λ j hj=>?_⟩,Stp.refl.count cnt⟩
 . rw[S.len,zA7,zA7,List.length_set]
 have hne:i≠j:=λ z=>by subst z;rw[hW] at hj;cases hj
 rw[<- S.ag j hj,<- List.set_append_left _ _ hi,zBk hne]
def gNm(i:Nat):VTG:=λ d ds Q=>Q (ds.set i d)
theorem Bc(i:Nat){x:Str}(hN:X.N.Nodup)(hW:c.W i=false:=by rfl)(hi:X.N[i]? = some x:=by rfl)(hx:Loc X.env.scope x:=by first | exact Or.inl rfl | exact Or.inr rfl)(hf:X.fn x=true∨X.env.scope.names.lookup x=some .local:=by first | exact .inl rfl | exact .inr rfl | assumption):VG c X (.Name x pos) (gNm i):=by
 refine⟨λ D6 s σ H v u0 Q I r0 ⟨F,ds,A,T,d,r,S,o,q⟩=>qak4 hN hi hx hf D6 s σ H v u0 Q I r0 ?_,λ d ds Q Q' hQ=>hQ _⟩;obtain⟨A',S',s'⟩:=S.store hW (qm7 hi D6 σ H s I) r o;exact q _ H F A' S' s'
def Dw(te:VT)(g:VTG):VTS:=λ e ds=>te ds (λ d ds'=>g d ds' e.nx) e.xe
theorem qaN4{tg:Expr}{g:VTG}(h:VE c X e te)(hg:VG c X tg g):∀ E σ H,El c (Dw te g) E σ H->Gs (Bd c te) (Ez c g) E σ H:=by
 rintro E σ H ⟨F,ds,A,en,S,l,q⟩;refine⟨F,ds,A,en.xe,S,l.xe,h.m _ _ _ _ _ (λ d ds' q v H' F' T A' r S' o s=>?_) (λ _ _ z=>z) q⟩;exact⟨F',ds',A',T,d,r,S',o,hg.m _ _ _ _ (λ ds2 q σ2 H2 F2 A2 S2 s2=>l.nx ds2 σ2 H2 F2 A2 q S2 (s.trans s2)) q⟩
theorem qac0{tg:Expr}{g:VTG}(h:VE c X e te)(hg:VG c X tg g):∀(en en':VEnds) ds,en.Le en'->Dw te g en ds->Dw te g en' ds:=λ en en' ds hl=>h.m _ _ _ _ _ (λ d ds'=>hg.m _ _ _ _ hl.nx) hl.xe
theorem Ew{tg:Expr}{g:VTG}(h:VE c X e te)(hg:VG c X tg g)(hs:swapsWithSole [tg] e pos.line X.env=pure false:=by rfl)(hw:swappedStores [tg] e X.env=pure none:=by rfl)(h1:(assignEach [tg] X.env).map (·.2)=[assign tg X.env]:=by rfl):VS c X (.Assign [tg] e pos) (Dw te g) :=
 ⟨PS.mono (qaH3 h.h hg.h hs hw h1) (qaN4 h hg),qac0 h hg⟩
theorem Al(i:Nat){x:Str}{pos':Pos}(hN:X.N.Nodup)(h:VE c X e te)(hW:c.W i=false:=by rfl)(hi:X.N[i]? = some x:=by rfl)(hx:Loc X.env.scope x:=by first | exact Or.inl rfl | exact Or.inr rfl)(hs:swapsWith e (some (.Name x pos')) pos.line X.env=pure false:=by rfl)(hf:X.fn x=true∨X.env.scope.names.lookup x=some .local:=by first | exact .inl rfl | exact .inr rfl | assumption) :
   VS c X (.Assign [.Name x pos'] e pos) (Dw te (gNm i)):=by
 have hg:VG c X (.Name x pos') (gNm i):=Bc i hN hW hi hx hf;refine⟨λ D6 s σ H E I q=>qax5 hN hi hx h.h hs hf D6 s σ H E I ?_,qac0 h hg⟩;obtain⟨F,ds,A,en,S,l,q⟩:=q;refine⟨F,ds,A,en.xe,S,l.xe,h.m _ _ _ _ _ (λ d ds' q v H' F' T A' r S' o s0=>?_) (λ _ _ z=>z) q⟩;obtain⟨A2,S2,s2⟩:=S'.store hW (qm7 hi D6 σ H s I) r o;exact l.nx _ _ H' F' A2 q S2 (s0.trans s2)
abbrev Fb:=Ds->Ds->(Ds->Prop)->Prop
inductive qaF7(c:Vc)(g:Fb)(vs:List V)(σ:St)(H:Hp)(Q:St->Hp->Prop):Prop
 | mk (F:Addr->Prop) (ds:Ds) (A T:List Addr) (xs:Ds) (r:Reps F H vs xs T) (S:Sta c F H σ ds A) (o:Ok F H (T++A)) (q:g xs ds (λ ds'=>∀ σ' H' F' A',Sta c F' H' σ' ds' A'->Stp F H (T++A) F' H' A'->Q σ' H')):qaF7 c g vs σ H Q
def qaK2(c:Vc)(g:Fb):TGs:=qaF7 c g
structure VGs(c:Vc)(X:Cx)(es:List Expr)(g:Fb):Prop where
 h:PGs X es (qaK2 c g)
 m:∀ xs ds (Q Q':Ds->Prop),(∀ ds',Q ds'->Q' ds')->g xs ds Q->g xs ds Q'
theorem PGs.mono{es:List Expr}{g g':TGs}(h:PGs X es g)(i:∀ v σ H Q,g' v σ H Q->g v σ H Q):PGs X es g':=λ D6 s σ H v u Q I r q=>h D6 s σ H v u Q I r (i v σ H Q q)
def gNilV:Fb:=λ xs ds Q=>match xs with | []=>Q ds | _=>False
def qat5(g:VTG)(gs:Fb):Fb:=λ xs ds Q=>match xs with | x::r=>g x ds λ ds'=>gs r ds' Q | []=>False
theorem Gk:VGs c X [] gNilV:=by
 refine⟨PGs.mono qay4 λ vs σ H Q ⟨F,ds,A,T,xs,r,S,o,q⟩=>?_,λ xs ds Q Q' hQ q=>by cases xs with | nil=>exact hQ _ q | cons _ _=>exact q.elim⟩;cases xs with
 | nil=>cases r;exact⟨rfl,q σ H F A S Stp.refl⟩
 | cons _ _=>exact q.elim
theorem qE9{tg:Expr}{es:List Expr}{g:VTG}{gs:Fb}(h1:VG c X tg g)(h2:VGs c X es gs)(hs:(assignEach (tg::es) X.env).map (·.2)=assign tg X.env::(assignEach es X.env).map (·.2):=by rfl):VGs c X (tg::es) (qat5 g gs):=by
 refine⟨PGs.mono (qap8 h1.h h2.h hs) λ vs σ H Q ⟨F,ds,A,T,xs,r,S,o,q⟩=>?_,λ xs ds Q Q' hQ q=>by
   cases xs with
   | nil=>exact q.elim
   | cons x r=>exact h1.m _ _ _ _ (λ ds'=>h2.m _ _ _ _ hQ) q⟩
 cases xs with
 | nil=>exact q.elim
 | cons x xs =>
   cases r with
   | @cons v _ T1 vs _ T2 r1 rt =>
     refine⟨v,vs,rfl,F,ds,A,T1,x,r1,S,o.count λ b=>by simp only[zA0];lia,h1.m _ _ _ _ (λ ds1 q σ1 H1 F1 A1 S1 s1=>?_) q⟩;have o':Ok F H (T2++(T1++A)):=o.count λ b=>by simp only[zA0];lia
     obtain⟨o1,s2⟩:=s1.frame o' rt.cells S1.ok;have o1A:Ok F H (T1++A):=o'.right;have rt':Reps F1 H1 vs xs T2:=rt.keep (s1.kp o1A λ b hb=>by
       rcases zAb.mp hb with hb | hb
       . exact r1.cells b hb
       exact S.loc.cells b hb) λ b hb hc=>by
       have:=o'.sep b
       rw[zA0] at this
       have:=qa8.mp hb
       lia
     exact⟨F1,ds1,A1,T2,xs,rt',S1,o1,h2.m _ _ _ _ (λ ds2 q σ2 H2 F2 A2 S2 s3=>q σ2 H2 F2 A2 S2 ((s2.pre λ b=>by simp only[zA0];lia).trans s3)) q⟩
def gTupV(n:Nat)(gs:Fb):VTG:=λ d ds Q=>match d with | .tup xs=>xs.length=n/\gs xs ds Q | _=>False
theorem Gm{es:List Expr}{k:Nat}{gs:Fb}(hc:X.calm=true)(h:VGs c X es gs)(hn:(assignEach es X.env).length=n:=by rfl)(hst:(assignEach es X.env).findIdx? (·.1)=none:=by rfl):VG c X (.Tuple es k pos) (gTupV n gs):=by
 refine⟨PG.mono (qaH4 hc h.h hn hst) λ v σ H Q ⟨F,ds,A,T,d,r,S,o,q⟩=>?_,λ d ds Q Q' hQ q=>by
   cases d with
   | tup xs=>exact⟨q.1,h.m _ _ _ _ hQ q.2⟩
   | _=>exact q.elim⟩
 cases d with
 | tup xs =>
   obtain⟨a,vs,rfl,ha,rs⟩:=r.tup_inv;exact⟨a,vs,rfl,.inl (.inl ha),by rw[rs.len];exact q.1,F,ds,A,T,xs,rs,S,o,q.2⟩
 | _=>exact q.elim
end
section
variable{c:Vc}{F:Addr->Prop}{H:Hp}{σ:St}{ds:Ds}{A T:List Addr}
theorem qG1{a:Addr}{o o':HO}(h:H a=some o)(hm:Dv o=true)(hf:¬ F a):Kp F H (λ b=>b=a) F (upd H a o') :=
 ⟨λ b u e w=>by rw[qc7 w];exact e,λ b w=>by subst w;exact⟨o,h,hm⟩,λ b w=>by subst w;exact hf,λ _ f=>f⟩
theorem Reps.setAt{ys:List D}{Ael Tv:List Addr}{d:D}(r:Reps F H vs ys Ael)(hn:n < ys.length)(rv:Rep F H v d Tv):∃ B,Reps F H (vs.set n v) (ys.set n d) B/\∀ b,B.count b<=Ael.count b+Tv.count b:=by
 obtain⟨vs1,w,vs2,ys1,ys2,A1,B,A2,e1,e2,e3,e4,e5,l1,l2,l3⟩:=r.split (i:=n) (d:=ys[n]) (by simp);have e6:ys.set n d=ys1++d::ys2:=by
   have:=congrArg (λ l=>l.set n d) e2
   rw[this,qm0 e4]
 rw[e1,qm0 e3,e6];exact⟨A1++(Tv++A2),l1.append (.cons rv l3),λ b=>by rw[e5];simp only[zA0];lia⟩
theorem qJ5{ys:List D}{B:List Addr}(r:Rep F H v (.lst false ys) B):∃ a vs Ael,v=.ref a/\H a=some (.lst vs)/\Reps F H vs ys Ael/\B=a::Ael:=by
 cases r with
 | lst h r=>exact⟨_,_,_,rfl,h,r,rfl⟩
theorem qj6{p:List Nat}{ys:List D}{u:V}(S:Sta c F H σ ds A)(h:A6 ds i p=some (.lst false ys))(hu:(σ++c.gv)[i]? = some (some u))(hw:Walk H u p w) :
   ∃(a:Addr)(vs:List V)(Ael:List Addr),w=.ref a/\H a=some (.lst vs)/\Reps F H vs ys Ael /\
   ∀(vs':List V)(ys':List D)(B' R T:List Addr),Ok F H (T++A)->Reps F H vs' ys' B'->(∀ b,B'.count b+R.count b<=Ael.count b+T.count b) ->
     (∃ A',Sta c F (upd H a (.lst vs')) σ (Bf ds i p (.lst false ys')) A'/\Ok F (upd H a (.lst vs')) (R++A')/\Stp F H (T++A) F (upd H a (.lst vs')) (R++A'))/\∀ v d,Rep F H v d R->Rep F (upd H a (.lst vs')) v d R:=by
 obtain⟨B,C,r,h3,h4⟩:=S.place h (by intro z;cases z) hu hw;obtain⟨a,vs,Ael,rfl,ha,rs,rfl⟩:=qJ5 r;refine⟨a,vs,Ael,rfl,ha,rs,λ vs' ys' B' R T ok r' hc=>?_⟩;have h3':∀ b,A.count b=(if b=a then 1 else 0)+Ael.count b+C.count b:=λ b=>by
   rw[h3,zAl];by_cases hb:b=a
   . subst hb;simp;lia
   simp[hb,Ne.symm hb]
 have ha3:=h3' a;rw[if_pos rfl] at ha3;have sa:=ok.sep a;rw[zA0] at sa;have hca:=hc a;have hf:¬ F a:=λ f=>by have:=ok.fro a f;rw[zA0] at this;lia
 have k:=qG1 (F:=F) (o':=.lst vs') ha rfl hf;have rep':Rep F (upd H a (.lst vs')) (.ref a) (.lst false ys') (a::B'):=.lst qb8 (r'.keep k λ b hb w=>by subst w;have:=qa8.mp hb;lia);obtain⟨A',q1,q2⟩:=h4 _ _ k (λ b hb w=>by subst w;have:=qa8.mp hb;lia) rep';have q2':∀ b,A'.count b=(if b=a then 1 else 0)+B'.count b+C.count b:=λ b=>by
   rw[q2,zAl];by_cases hb:b=a
   . subst hb;simp;lia
   simp[hb,Ne.symm hb]
 have hcnt:∀ b,(R++A').count b<=(T++A).count b:=λ b=>by rw[zA0,zA0,q2',h3'];have:=hc b;lia
 have ex:∀ b,F b->∃ o,upd H a (.lst vs') b=some o:=λ b f=>by
   obtain⟨x,e⟩:=ok.ex b f;exact⟨x,by rw[qc7 (show b≠a from λ w=>hf (w ▸ f))];exact e⟩
 have o4:Ok F (upd H a (.lst vs')) (R++A'):=⟨λ b=>zAn (hcnt b) (ok.sep b),λ b f=>by have:=ok.fro b f;have:=hcnt b;lia,ex⟩
 refine⟨⟨A',⟨q1,o4.right,S.len,S.ag⟩,o4,λ b u e z=>?_,λ b u e z=>by have:=hcnt b;lia,λ _ f=>f,λ _ _ _ _ f=>f⟩,λ v d rv=>rv.keep k λ b hb w=>by subst w;have:=qa8.mp hb;lia⟩;rw[qc7 λ w=>?_]
 . exact e
 subst w;have:=h3' b;rw[if_pos rfl] at this;rw[zA0] at z;lia
def Ht(r:V->List V->Hp->VK->Prop)(g:Ds->Ds->Option (Ds×D)):Prop:=∀ F H a vs ys Ael ws xs T ys' d (Q:VK),H a=some (.lst vs)->Reps F H vs ys Ael->Reps F H ws xs T->g ys xs=some (ys',d) ->
 (∀ vs' v B' R,Reps F H vs' ys' B'->Rep F H v d R->(∀ b,B'.count b+R.count b<=Ael.count b+T.count b)->Q v (upd H a (.lst vs')))->r (.ref a) ws H Q
def Fs(ys xs:Ds):Option (Ds×D):=match xs with
 | [x]=>if ys.length < big then some (ys++[x],.non) else none
 | _=>none
theorem qw5:Ht qaj9 Fs:=by
 intro F H a vs ys Ael ws xs T ys' d Q ha r rx h q
 match xs,h with
 | [x],h =>
   obtain⟨w,rfl,rw'⟩:=rx.one_inv;have h:(if ys.length < big then some (ys++[x],D.non) else none)=some (ys',d):=h;by_cases hl:ys.length < big
   . rw[if_pos hl] at h
     cases h;refine⟨a,vs,w,rfl,rfl,ha,by rw[r.len];exact zAg hl qg8,?_⟩;exact q _ .non (Ael++(T++[])) [] (r.append (.cons rw' .nil)) .non λ b=>by simp[zA0]
   rw[if_neg hl] at h;cases h
end
section
variable{c:Vc}{X:Cx}{a b e o:Expr}{pf:PF}{tr:VTB}{es:List Expr}{r:V->List V->Hp->VK->Prop}{g:Ds->Ds->Option (Ds×D)}
def D.own:D->Option Ds
 | .lst false ys=>some ys
 | _=>none
theorem qX3{d:D}{ys:Ds}(h:d.own=some ys):d=.lst false ys:=by
 cases d with
 | lst z xs=>cases z with
   | false=>cases h;rfl
   | true=>cases h
 | _=>cases h
def Em(g:Ds->Ds->Option (Ds×D))(i:Nat)(tr:VTB):VT:=λ ds Q xe=>((rdN i ds).bind D.own).isSome=true/\tr ds (λ xs _ ds1=>orF ((rdN i ds1).bind D.own) λ ys=>orF (g ys xs) λ z=>Q z.2 (ds1.set i (.lst false z.1))) xe
theorem qB7{ds:Ds}{d:D}(h:ds[i]? = some d):A6 ds i []=some d:=by unfold A6;rw[h];rfl
theorem qz0{ds:Ds}{d x:D}(h:ds[i]? = some d):Bf ds i [] x=ds.set i x:=by unfold Bf;rw[h];rfl
theorem qaB1{T:String}(hT:T = "list"){σ:St}{H:Hp}(hm:Ht r g)(ha:VAs c X es tr)(hi:i < σ.length)(q:Bd c (Em g i tr) σ H Q):tBM X.K T r (Er i) (Ey c tr) σ H Q:=by
 subst hT;obtain⟨F,ds,A,xe,S,x,hs,q⟩:=q;obtain⟨ys0,hys0⟩:=zB4.mp hs;obtain⟨d0,e0,e0'⟩:=zA1.mp hys0;cases qX3 e0';obtain⟨v,B0,hv,r0,_⟩:=S.name hi e0;obtain⟨a,vs0,A0,rfl,ha0,_,_⟩:=r0.lst_inv;refine⟨.ref a,hv,.inl ⟨rfl,vs0,.inl (.inl ha0)⟩,F,ds,A,xe,S,x,ha.m _ _ _ _ _ (λ xs ps ds1 q vs H1 F1 T A1 r1 pk S1 o1 s1=>?_) (λ _ _ z=>z) q⟩;obtain⟨ys,e1,q⟩:=qa6.mp q;obtain⟨d1,e2,e3⟩:=zA1.mp e1;cases qX3 e3;obtain⟨⟨ys',d⟩,e4,q⟩:=qa6.mp q;obtain⟨e5,hk⟩:=qj0.mp e2;have hu:(σ++c.gv)[i]? = some (some (.ref a)):=by rw[zAt hi];exact hv
 obtain⟨a2,vs2,Ael,ea,ha2,rs,wr⟩:=qj6 S1 (qB7 e5) hu (p:=[]) (w:=.ref a) rfl;cases ea;refine hm F1 H1 a vs2 ys Ael vs xs T ys' d Q ha2 rs r1 e4 λ vs' v B' R h1 h2 h3=>?_
 obtain⟨⟨A',S2,o2,s2⟩,kr⟩:=wr vs' ys' B' R T o1 h1 h3;rw[qz0 e5] at S2;exact q v _ F1 R A' (kr v d h2) S2 o2 (s1.trans s2)
theorem qaf8(ha:VAs c X es tr):∀ ds (Q Q':DK) (xe xe':XKd),(∀ d ds',Q d ds'->Q' d ds')->(∀ x ds',xe x ds'->xe' x ds')->Em g i tr ds Q xe->Em g i tr ds Q' xe' :=
 λ ds Q Q' xe xe' hQ hx=>And.imp_right (ha.m _ _ _ _ _ (λ xs ps ds1=>qa4 λ y=>qa4 λ z=>hQ _ _) hx)
theorem qac5{F F':Addr->Prop}{H H':Hp}{W:Addr->Prop}(k:Kp F H W F' H'):∀{p:List Nat}{v0:V}{d0 d:D}{B:List Addr}{w w':V},(∀ b∈B,¬ W b)->Rep F H v0 d0 B->d0.getP p=some d->Walk H v0 p w->Walk H' v0 p w'->w'=w:=by
 intro p
 induction p with
 | nil=>intro v0 d0 d B w w' _ _ _ h h';cases h;cases h';rfl
 | cons n p ih =>
   intro v0 d0 d B w w' hB r hg h h';unfold D.getP at hg;cases hk:d0.kids[n]? with
   | none=>rw[hk] at hg;cases hg
   | some e =>
     rw[hk] at hg;obtain⟨x,l1,h1⟩:=h;obtain⟨x',l1',h1'⟩:=h';obtain⟨y,B1,C1,m1,m2,m3,_⟩:=r.kid hk;obtain⟨y',B1',C1',m1',_,_,_⟩:=(r.keep k hB).kid hk;cases l1.fn m1;cases l1'.fn m1';have hlk:Lnk H' v0 n x:=by
       obtain⟨a,rfl,hh⟩:=m1;refine⟨a,rfl,?_⟩;cases r with
       | tup e0 _ =>
         rcases hh with⟨vs,e,h⟩ | ⟨vs,e,h⟩ | ⟨vs,e,h⟩ | ⟨C,dx,vs,e,h⟩
         . exact .inl ⟨vs,k.tup e,h⟩
         . rw[e0] at e;cases e
         . rw[e0] at e;cases e
         rw[e0] at e;cases e
       | lst e0 _ =>
         have k0:=k.fr _ _ e0 (hB _ zA9);rcases hh with⟨vs,e,h⟩ | ⟨vs,e,h⟩ | ⟨vs,e,h⟩ | ⟨C,dx,vs,e,h⟩
         . rw[e0] at e;cases e
         . rw[e0] at e;cases e;exact .inr (.inl ⟨_,k0,h⟩)
         . rw[e0] at e;cases e
         rw[e0] at e;cases e
       | dct e0 _ _ =>
         have k0:=k.fr _ _ e0 (hB _ zA9);rcases hh with⟨vs,e,h⟩ | ⟨vs,e,h⟩ | ⟨vs,e,h⟩ | ⟨C,dx,vs,e,h⟩
         . rw[e0] at e;cases e
         . rw[e0] at e;cases e
         . rw[e0] at e;cases e;exact .inr (.inr (.inl ⟨_,k0,h⟩))
         rw[e0] at e;cases e
       | ins e0 _ _ =>
         have k0:=k.fr _ _ e0 (hB _ zA9);rcases hh with⟨vs,e,h⟩ | ⟨vs,e,h⟩ | ⟨vs,e,h⟩ | ⟨C,dx,vs,e,h⟩
         . rw[e0] at e;cases e
         . rw[e0] at e;cases e
         . rw[e0] at e;cases e
         rw[e0] at e;cases e;exact .inr (.inr (.inr ⟨_,_,_,k0,h⟩))
       | _=>simp[D.kids] at hk
     cases hlk.fn m1';exact ih (B:=B1) (λ b hb=>hB b (qa8.mpr (by have:=m3 b;have:=qa8.mp hb;lia))) m2 hg h1 h1'
def E2(g:Ds->Ds->Option (Ds×D))(pf:PF)(tr:VTB):VT:=λ ds Q xe=>orF (pf ds) λ q=>orF ((A6 ds q.1 q.2).bind D.own) λ ys=>orF ds[q.1]? λ d0=>tr (ds.set q.1 .unk) (λ xs _ ds1=>orF (g ys xs) λ z=>Q z.2 (Bf (ds1.set q.1 d0) q.1 q.2 (.lst false z.1))) xe
theorem qaf7(ha:VAs c X es tr):∀ ds (Q Q':DK) (xe xe':XKd),(∀ d ds',Q d ds'->Q' d ds')->(∀ x ds',xe x ds'->xe' x ds')->E2 g pf tr ds Q xe->E2 g pf tr ds Q' xe' :=
 λ ds Q Q' xe xe' hQ hx=>qa4 λ q=>qa4 λ ys=>qa4 λ d0=>ha.m _ _ _ _ _ (λ xs ps ds1=>qa4 λ z=>hQ _ _) hx
theorem qaB0(hm:Ht r g)(ha:VAs c X es tr):∀ σ H Q,Bd c (E2 g pf tr) σ H Q->tBM X.K "list" r (Gj c pf) (Ey c tr) σ H Q:=by
 rintro σ H Q ⟨F,ds,A,xe,S,x,q⟩;obtain⟨⟨i,p⟩,e1,q⟩:=qa6.mp q;obtain⟨ys,e2,q⟩:=qa6.mp q;obtain⟨dl,e3,e4⟩:=zA1.mp e2;cases qX3 e4;obtain⟨d0,e5,q⟩:=qa6.mp q;refine⟨F,ds,A,i,p,_,S,e1,e3,D.noConfusion,λ u w H1 hu hw s0=>?_⟩;have S0:=S.same s0;obtain⟨a,vs0,Ael0,rfl,ha0,rs0,_⟩:=qj6 S0 e3 hu hw;refine⟨.inl ⟨rfl,vs0,.inl (.inl ha0)⟩,?_⟩;have hd0:d0≠.unk:=λ z=>by
   subst z;have e3':=e3;unfold A6 at e3';rw[e5] at e3';cases (qZ8 e3').2
 obtain⟨u',B,C,h1,h2,h3,h4⟩:=S0.put1 e5 hd0;rw[hu] at h1;cases h1;obtain⟨A1,q1,q2⟩:=h4 .unk [] (Kp.same (F:=F) λ _ _ z=>z) (λ _ _ z=>z) (.unk u);have o1:Ok F H1 (B++A1):=S0.ok.count λ b=>by rw[zA0,q2,h3];simp
 have s1:Stp F H A F H1 (B++A1):=⟨λ b o e _=>s0 b o e,λ b o e z=>by rw[zA0,q2];have:=h3 b;simp;lia,λ _ f=>f,λ _ _ _ _ f=>f⟩
 have S1:Sta c F H1 σ (ds.set i .unk) A1:=⟨q1,o1.right,S.len,S.ag⟩
 have s1':Stp F H A F H1 A1:=s1.count λ b=>by rw[zA0];lia
 refine⟨F,_,A1,xe,S1,x.step s1',ha.m _ _ _ _ _ (λ xs ps ds2 q vs H2 F2 T2 A2 r2 pk S2 o2 s2=>?_) (λ _ _ z=>z) q⟩;obtain⟨⟨ys',d⟩,e7,q⟩:=qa6.mp q;have kp:=s2.kp S1.ok S1.loc.cells;have hBout:∀ b∈B,¬ (A1.count b≠0):=λ b hb hc=>by
   have:=o1.sep b
   rw[zA0] at this
   have:=qa8.mp hb
   lia
 have r1':Rep F2 H2 u d0 B:=h2.keep kp hBout;obtain⟨o3,s3⟩:=s2.frame o1 h2.cells o2;obtain⟨A3,k1,k2⟩:=qy9 S2.loc hu r1';have hc3:∀ b,A3.count b<=B.count b+A2.count b:=k2;have o4:Ok F2 H2 (T2++A3):=o3.count λ b=>by simp only[zA0];have:=hc3 b;lia
 have s4:Stp F H A F2 H2 (T2++A3):=(s1.trans s3).count λ b=>by simp only[zA0];have:=hc3 b;lia
 have S3:Sta c F2 H2 σ (ds2.set i d0) A3:=⟨k1,o4.right,S.len,S.ag⟩
 have hlen:i < ds2.length:=by rw[<- S2.loc.len];exact(zA5.mp hu).1
 have e8:A6 (ds2.set i d0) i p=some (.lst false ys):=by
   unfold A6 at e3 ⊢;rw[e5] at e3;rw[List.getElem?_set_self hlen];exact e3
 have hw2:Walk H2 u p (.ref a):=by
   obtain⟨w',_,_,w1,_,_,_⟩:=h2.path (p:=p) (d:=.lst false ys) (by unfold A6 at e3;rw[e5] at e3;exact e3);cases hw.fn w1;obtain⟨w2,_,_,w3,_,_,_⟩:=r1'.path (p:=p) (d:=.lst false ys) (by unfold A6 at e3;rw[e5] at e3;exact e3)
   have:w2=.ref a:=by
     refine qac5 (d:=.lst false ys) kp hBout h2 ?_ w1 w3;unfold A6 at e3;rw[e5] at e3;exact e3
   rw[<- this];exact w3
 obtain⟨a2,vs2,Ael,ea,ha2,rs,wr⟩:=qj6 S3 e8 hu hw2;cases ea;refine hm F2 H2 a vs2 ys Ael vs xs T2 ys' d Q ha2 rs r2 e7 λ vs' v B' R z1 z2 z3=>?_
 obtain⟨⟨A',S4,o5,s5⟩,kr⟩:=wr vs' ys' B' R T2 o4 z1 z3;exact q v _ F2 R A' (kr v d z2) S4 o5 (s4.trans s5)
end
section
variable{c:Vc}{X:Cx}{a b e o:Expr}{pos cpos apos:Pos}{pf:PF}{tr:VTB}{es:List Expr}{fb:FV}{ob:Bool}{r:V->List V->Hp->VK->Prop}{g:Ds->Ds->Option (Ds×D)}{name:Str}{id:String}
theorem D9(i:Nat){x:Str}{p0:Pos}(hg:Ht r g)(pa:PlainAttrs "list")(slot:Slot "list" name id)(hty:typeOf (.builtin id)=pure (.type "method_descriptor"))(hm:MtM X id r)(ha:VAs c X (e::es) tr)(hN:X.N[i]? = some x:=by rfl)(hv:Vis X.env.scope x:=by first | exact Or.inl rfl | exact Or.inr (Or.inl rfl) | exact Or.inr (Or.inr rfl))(hd:(x == ("__debug__" : Str))=false:=by decide)(hcd:(x == ("__classdict__" : Str))=false:=by decide)(hbase:attributeBase (.Name x p0) name X.env (eval (.Name x p0) X.env)=eval (.Name x p0) X.env:=by rfl)(hfew:((backTo cpos (starEach (e::es) X.env)).all (λ x=>!x.1)&&(backToKw cpos (keywordEach [] X.env)).all (λ x=>x.1.isSome)
     && decide ((e::es).length+([]:List Keyword).length+(if ([]:List Keyword).isEmpty then 0 else 1) < 30))=true:=by rfl)(hline:(apos.endLine == cpos.line)=true:=by rfl)(hs:starEach (e::es) X.env=(false,eval e X.env)::starEach es X.env:=by rfl)(hplain:(backTo cpos (starEach es X.env)).any (·.1)=false:=by rfl) :
   VE c X (.Call (.Attribute (.Name x p0) name apos) (e::es) [] cpos) (Em g i tr) :=
 ⟨λ D6 s σ H Q I q=>He pa slot hty hm (qm3 hN hv hd hcd) ha.h hbase hfew hline hs hplain D6 s σ H Q I (qaB1 rfl hg ha (qm7 hN D6 σ H s I) q),qaf8 ha⟩
theorem emutP(hg:Ht r g)(pa:PlainAttrs "list")(slot:Slot "list" name id)(hty:typeOf (.builtin id)=pure (.type "method_descriptor"))(hm:MtM X id r)(ho:VP c X o pf)(ha:VAs c X (e::es) tr)(hbase:attributeBase o name X.env (eval o X.env)=eval o X.env:=by rfl)(hfew:((backTo cpos (starEach (e::es) X.env)).all (λ x=>!x.1)&&(backToKw cpos (keywordEach [] X.env)).all (λ x=>x.1.isSome)
     && decide ((e::es).length+([]:List Keyword).length+(if ([]:List Keyword).isEmpty then 0 else 1) < 30))=true:=by rfl)(hline:(apos.endLine == cpos.line)=true:=by rfl)(hs:starEach (e::es) X.env=(false,eval e X.env)::starEach es X.env:=by rfl)(hplain:(backTo cpos (starEach es X.env)).any (·.1)=false:=by rfl) :
   VE c X (.Call (.Attribute o name apos) (e::es) [] cpos) (E2 g pf tr) :=
 ⟨PE.mono (He pa slot hty hm ho.h ha.h hbase hfew hline hs hplain) (qaB0 hg ha),qaf7 ha⟩
def E3(pf:PF)(fb:FV):VTG:=λ d ds Q=>orF (pf ds) λ q=>orF ((A6 ds q.1 q.2).bind D.own) λ ys=>orF ((fb ds).bind D.asI) λ k=>orF (ixN ys.length k) λ n=>Q (Bf ds q.1 q.2 (.lst false (ys.set n d)))
theorem Dp(ho:VP c X o pf)(hi:VV c X b ob fb)(ha:∀ v,assign (.Subscript o b pos) X.env v=(do
     let ov <- holding [v] (eval o X.env)
     let iv <- holding [v,ov] (eval b X.env)
     standAt pos
     holding [v,ov,iv] (setItem ov iv v)
     release [v,ov,iv] []):=by intro _;rfl):VG c X (.Subscript o b pos) (E3 pf fb):=by
 refine⟨PG.mono (qaH5 ho.h hi.h qW0 ha) λ v σ H Q ⟨F,ds,A,T,d,r,S,ok,q⟩=>?_,λ d ds Q Q' hQ=>qa4 λ _=>qa4 λ _=>qa4 λ _=>qa4 λ _=>hQ _⟩;obtain⟨⟨i,p⟩,e1,q⟩:=qa6.mp q;obtain⟨ys,e2,q⟩:=qa6.mp q;obtain⟨dl,e3,e4⟩:=zA1.mp e2;cases qX3 e4;obtain⟨k,e5,q⟩:=qa6.mp q;obtain⟨dk,e6,e7⟩:=zA1.mp e5;obtain⟨n,e8,q⟩:=qa6.mp q;refine⟨F,ds,A,i,p,_,S,e1,e3,D.noConfusion,λ u w H1 hu hw s1=>⟨F,ds,A,dk,S.same s1,e6,λ vk H2 B2 r2 s2 _=>?_⟩⟩;have s12:=s1.trans s2;have S2:=S.same s12;cases r2.asI e7;obtain⟨a,vs,Ael,rfl,ha,rs,wr⟩:=qj6 S2 e3 hu (hw.same s2);have hn:n < ys.length:=(qZ3 e8).2.1;obtain⟨B',r3,h3⟩:=rs.setAt hn (r.same s12);obtain⟨⟨A',S3,o3,s3⟩,_⟩:=wr _ _ B' [] T (ok.same s12) r3 λ b=>by have:=h3 b;simp;lia
 exact⟨a,vs,k,n,rfl,rfl,ha,by rw[rs.len];exact e8,q σ _ F A' S3 ((Stp.same s12).trans s3)⟩
def sAugV(f:Int->Int->Int)(pf:PF)(fb fe:FV):VTS:=λ e ds=>orF (pf ds) λ q=>orF ((A6 ds q.1 q.2).bind D.own) λ ys=>orF ((fb ds).bind D.asI) λ k=>0<=k/\orF ((ys[k.toNat]?).bind D.asI) λ x=>orF ((fe ds).bind D.asI) λ y=>e.nx (Bf ds q.1 q.2 (.lst false (ys.set k.toNat (.int (f x y)))))
theorem saug{op:Operator}{f:Int->Int->Int}{fe:FV}{oe:Bool}{tpos:Pos}(ho:VP c X o pf)(hi:VV c X b ob fb)(he:VV c X e oe fe)(hp:PIp X op (ipI f))(ha:∀ ov iv new,augStore b ov iv new=(do holding [new,ov,iv] (setItem ov iv new);release [new,ov,iv] [];pure .next):=by intros;rfl):VS c X (.AugAssign (.Subscript o b tpos) op e pos) (sAugV f pf fb fe):=by
 refine⟨PS.mono (qax9 ho.h hi.h qat3 he.h hp qW0 ha) λ E σ H ⟨F,ds,A,en,S,l,q⟩=>?_,λ en en' ds hl=>qa4 λ _=>qa4 λ _=>qa4 λ _=>And.imp_right (qa4 λ _=>qa4 λ _=>hl.nx _)⟩;obtain⟨⟨i,p⟩,e1,q⟩:=qa6.mp q;obtain⟨ys,e2,q⟩:=qa6.mp q;obtain⟨dl,e3,e4⟩:=zA1.mp e2;cases qX3 e4;obtain⟨k,e5,h0,q⟩:=qa6.mp q;obtain⟨dk,e6,e7⟩:=zA1.mp e5;obtain⟨x,e8,q⟩:=qa6.mp q;obtain⟨dx,e9,e10⟩:=zA1.mp e8;obtain⟨y,e11,q⟩:=qa6.mp q;obtain⟨dy,e12,e13⟩:=zA1.mp e11;refine⟨F,ds,A,i,p,_,S,e1,e3,D.noConfusion,λ u w H1 hu hw s1=>⟨F,ds,A,dk,S.same s1,e6,λ vk H2 B2 r2 s2 _=>?_⟩⟩;have s12:=s1.trans s2;cases r2.asI e7;obtain⟨a,vs,Ael,rfl,ha2,rs2,_⟩:=qj6 (S.same s12) e3 hu (hw.same s2);obtain⟨vx,Bx,hx,rx,_⟩:=rs2.get e9;cases rx.asI e10;refine⟨a,vs,k,_,rfl,rfl,ha2,h0,hx,F,ds,A,dy,S.same s12,e12,λ vy H3 B3 r3 s3 _=>?_⟩;cases r3.asI e13;have s13:=s12.trans s3;have S3:=S.same s13;obtain⟨a',vs',Ael',ea,ha3,rs3,wr⟩:=qj6 S3 e3 hu ((hw.same s2).same s3);cases ea;have hn:k.toNat < ys.length:=(zA5.mp e9).1;obtain⟨B',r4,h4⟩:=rs3.setAt hn (.int (f x y));obtain⟨⟨A',S4,o4,s4⟩,_⟩:=wr _ _ B' [] [] S3.ok r4 λ b=>by have:=h4 b;simpa using this
 refine⟨x,y,rfl,rfl,a,vs',k,k.toNat,rfl,rfl,ha3,?_,l.nx _ σ _ F A' q S4 ((Stp.same s13).trans s4)⟩;rw[rs3.len];unfold ixN;rw[if_pos h0,if_pos (by lia)]
def En(f:Str)(d:D):List (Str×D)->List (Str×D)
 | []=>[(f,d)]
 | (g,x)::r=>if g=f then (g,d)::r else (g,x)::En f d r
end
section
variable{c:Vc}{X:Cx}{F:Addr->Prop}{H:Hp}{σ:St}{ds:Ds}{A T:List Addr}{a b e o:Expr}{pos cpos apos:Pos}{te:VT}{pf:PF}{fa fb:FV}{oa ob:Bool}
theorem qM7:∀{fvs:List (Str×V)}{fds:List (Str×D)}{B Tv:List Addr}{f:Str}{v:V}{d:D},fvs.map (·.1)=fds.map (·.1)->Reps F H (fvs.map (·.2)) (fds.map (·.2)) B->Rep F H v d Tv->(Bm f v fvs).map (·.1)=(En f d fds).map (·.1)/\∃ B',Reps F H ((Bm f v fvs).map (·.2)) ((En f d fds).map (·.2)) B'/\∀ b,B'.count b<=B.count b+Tv.count b
 | [],[],B,Tv,f,v,d,_,r,rv=>⟨rfl,Tv++[],.cons rv .nil,λ b=>by simp⟩
 | [],_::_,_,_,_,_,_,h,_,_=>by simp at h
 | _::_,[],_,_,_,_,_,h,_,_=>by simp at h
 | (k,w)::r,(k',x)::r',B,Tv,f,v,d,h,rs,rv=>by
   have h1:k=k':=by simp at h;exact h.1
   have h2:r.map (·.1)=r'.map (·.1):=by simp at h;simpa using h.2
   subst h1;cases rs with
   | @cons _ _ B1 _ _ B2 q t =>
     by_cases hk:k=f
     . simp only[Bm,En,if_pos hk,zAx,h2,true_and]
       exact⟨Tv++B2,.cons rv t,λ b=>by simp only[zA0];lia⟩
     obtain⟨m1,B',m2,m3⟩:=qM7 (f:=f) h2 t rv;simp only[Bm,En,if_neg hk,zAx,m1,true_and];exact⟨B1++B',.cons q m2,λ b=>by simp only[zA0];have:=m3 b;lia⟩
def D.ownI(C:Addr):D->Option (List (Str×D))
 | .ins false C' fs=>if C'=C then some fs else none
 | _=>none
theorem qaz8{d:D}{C:Addr}{fs:List (Str×D)}(h:d.ownI C=some fs):d=.ins false C fs:=by
 cases d with
 | ins z C' xs=>cases z with
   | false =>
     have h:(if C'=C then some xs else none)=some fs:=h;by_cases hc:C'=C
     . rw[if_pos hc] at h;cases h;rw[hc]
     rw[if_neg hc] at h;cases h
   | true=>cases h
 | _=>cases h
theorem qaz7{p:List Nat}{C:Addr}{fds:List (Str×D)}{u:V}(S:Sta c F H σ ds A)(h:A6 ds i p=some (.ins false C fds))(hu:(σ++c.gv)[i]? = some (some u))(hw:Walk H u p w) :
   ∃(a dx:Addr)(fvs:List (Str×V))(Ael:List Addr),w=.ref a/\H a=some (.ins C dx fvs)/\fvs.map (·.1)=fds.map (·.1)/\Reps F H (fvs.map (·.2)) (fds.map (·.2)) Ael /\
   ∀(fvs':List (Str×V))(fds':List (Str×D))(B' T:List Addr),Ok F H (T++A)->fvs'.map (·.1)=fds'.map (·.1)->Reps F H (fvs'.map (·.2)) (fds'.map (·.2)) B'->(∀ b,B'.count b<=Ael.count b+T.count b) ->
     ∃ A',Sta c F (upd H a (.ins C dx fvs')) σ (Bf ds i p (.ins false C fds')) A'/\Stp F H (T++A) F (upd H a (.ins C dx fvs')) A':=by
 obtain⟨B,C0,r,h3,h4⟩:=S.place h D.noConfusion hu hw;cases r with
 | @ins a _ dx fvs _ Ael ha hk rs =>
 refine⟨a,dx,fvs,Ael,rfl,ha,hk,rs,λ fvs' fds' B' T ok hk' r' hc=>?_⟩;have h3':∀ b,A.count b=(if b=a then 1 else 0)+Ael.count b+C0.count b:=λ b=>by
   rw[h3,zAl];by_cases hb:b=a
   . subst hb;simp;lia
   simp[hb,Ne.symm hb]
 have ha3:=h3' a;rw[if_pos rfl] at ha3;have sa:=ok.sep a;rw[zA0] at sa;have hca:=hc a;have hf:¬ F a:=λ f=>by have:=ok.fro a f;rw[zA0] at this;lia
 have k:=qG1 (F:=F) (o':=.ins C dx fvs') ha rfl hf;have rep':Rep F (upd H a (.ins C dx fvs')) (.ref a) (.ins false C fds') (a::B'):=.ins qb8 hk' (r'.keep k λ b hb w=>by subst w;have:=qa8.mp hb;lia);obtain⟨A',q1,q2⟩:=h4 _ _ k (λ b hb w=>by subst w;have:=qa8.mp hb;lia) rep';have q2':∀ b,A'.count b=(if b=a then 1 else 0)+B'.count b+C0.count b:=λ b=>by
   rw[q2,zAl];by_cases hb:b=a
   . subst hb;simp;lia
   simp[hb,Ne.symm hb]
 have hcnt:∀ b,A'.count b<=(T++A).count b:=λ b=>by rw[zA0,q2',h3'];have:=hc b;lia
 have ex:∀ b,F b->∃ o,upd H a (.ins C dx fvs') b=some o:=λ b f=>by
   obtain⟨x,e⟩:=ok.ex b f;exact⟨x,by rw[qc7 (show b≠a from λ w=>hf (w ▸ f))];exact e⟩
 refine⟨A',⟨q1,⟨λ b=>zAn (hcnt b) (ok.sep b),λ b f=>by have:=ok.fro b f;have:=hcnt b;lia,ex⟩,S.len,S.ag⟩,λ b u e z=>?_,λ b u e z=>by have:=hcnt b;lia,λ _ f=>f,λ _ _ _ _ f=>f⟩;rw[qc7 λ w=>?_]
 . exact e
 subst w;have:=h3' b;rw[if_pos rfl] at this;rw[zA0] at z;lia
def Hu(C:Addr)(f:Str)(te:VT)(pf:PF):VTS:=λ e ds=>te ds (λ d ds1=>orF (pf ds1) λ q=>orF ((A6 ds1 q.1 q.2).bind (D.ownI C)) λ fs=>fs.length < 100/\e.nx (Bf ds1 q.1 q.2 (.ins false C (En f d fs)))) e.xe
theorem Fy{C:Addr}{f:Str}{K:PySem.W.Frag}{pos':Pos}(hK:X.K=K)(ho:VP c X o pf)(hv:VE c X e te)(cl:Cls K C)(na:qf1 K C f)(hs:swapsWith e (some (.Attribute o f pos')) pos.line X.env=pure false:=by rfl):VS c X (.Assign [.Attribute o f pos'] e pos) (Hu C f te pf):=by
 subst hK;refine⟨PS.mono (qaH2 ho.h hv.h hs) λ E σ H ⟨F,ds,A,en,S,l,q⟩=>?_,λ en en' ds hl=>hv.m _ _ _ _ _ (λ d ds1=>qa4 λ _=>qa4 λ _=>And.imp_right (hl.nx _)) hl.xe⟩;refine⟨F,ds,A,en.xe,S,l.xe,hv.m _ _ _ _ _ (λ d ds1 q v H1 F1 T A1 r1 S1 o1 s1=>?_) (λ _ _ z=>z) q⟩;obtain⟨⟨i,p⟩,e1,q⟩:=qa6.mp q;obtain⟨fs,e2,hl,q⟩:=qa6.mp q;obtain⟨dl,e3,e4⟩:=zA1.mp e2;cases qaz8 e4;refine⟨F1,ds1,A1,i,p,_,S1,e1,e3,D.noConfusion,λ u w H2 hu hw s2=>?_⟩;have S2:=S1.same s2;obtain⟨a,dx,fvs,Ael,rfl,ha,hk,rs,wr⟩:=qaz7 S2 e3 hu hw;have hlen:fvs.length=fs.length:=by have:=congrArg List.length hk;simpa using this
 refine⟨a,C,dx,fvs,rfl,ha,cl,na,by lia,?_⟩;obtain⟨m1,B',m2,m3⟩:=qM7 (f:=f) hk rs (r1.same s2);obtain⟨A',S3,s3⟩:=wr _ _ B' T (o1.same s2) m1 m2 m3;exact l.nx _ σ _ F1 A' q S3 (s1.trans ((Stp.same s2).trans s3))
def gAllV(pf:PF):VTG:=λ d ds Q=>orF (pf ds) λ q=>orF ((A6 ds q.1 q.2).bind D.own) λ xs=>orF (match d with | .lst _ ys=>some ys | _=>none) λ ys=>D.imms ys=true/\xs.length+ys.length<=big/\Q (Bf ds q.1 q.2 (.lst false ys))
def Ef(x:V):List V->Option Nat
 | []=>none
 | y::r=>if eqV y x=true then some 0 else (Ef x r).map (· + 1)
theorem qam2{x:V}:∀{xs:List V}{j:Nat},Ef x xs=some j->∃ z,xs[j]? = some z/\eqV z x=true/\∀ m z',m < j->xs[m]? = some z'->eqV z' x=false
 | [],j,h=>by cases h
 | y::r,j,h=>by
   unfold Ef at h;by_cases hy:eqV y x=true
   . rw[if_pos hy] at h;cases h
     exact⟨y,rfl,hy,λ m z' hm=>by lia⟩
   rw[if_neg hy] at h;obtain⟨k,hk,rfl⟩:=zAe.mp h;obtain⟨z,h1,h2,h3⟩:=qam2 hk;refine⟨z,by simpa using h1,h2,λ m z' hm hz=>?_⟩;cases m with
   | zero =>
     have:y=z':=by simpa using hz
     subst this;simpa using hy
   | succ m=>exact h3 m z' (by lia) (by simpa using hz)
def Hv(x y:D):Option D:=match x with
 | .lst _ ys=>y.flat.bind λ v=>(flats ys).bind λ ws=>(Ef v ws).map λ j=>.int (j:Nat)
 | _=>none
def gCnt(x y:D):Option D:=match x with
 | .lst _ ys=>y.flat.bind λ v=>(flats ys).bind λ ws=>some (.int (ws.countP (λ z=>eqV z v):Nat))
 | _=>none
def rL1(r:V->List V->Hp->VK->Prop):R2:=λ x y H Q=>r x [y] H Q
theorem qaf0:Ay true (rL1 qaw8) Hv:=by
 intro F H v w x y B d Q r h q;cases r with | @cons _ _ A _ _ _ r1 t=>cases t with | @cons _ _ A2 _ _ _ r2 _ =>
 cases x with
 | lst z ys =>
   obtain⟨v',h1,h⟩:=zA1.mp h;obtain⟨ws,h2,h⟩:=zA1.mp h;obtain⟨j,h3,rfl⟩:=zAe.mp h;obtain⟨rfl,f⟩:=r2.flat h1;obtain⟨a,vs,A3,rfl,hs,rs,_⟩:=r1.lst_inv;obtain⟨rfl,g⟩:=rs.flats h2;obtain⟨z,q1,q2,q3⟩:=qam2 h3;exact⟨a,vs,w,j,z,rfl,rfl,hs,f,g,q1,q2,q3,q _ H [] (.int _) (λ _ _ z=>z) New.nil⟩
 | _=>cases h
theorem qaI5:Ay true (rL1 qax0) gCnt:=by
 intro F H v w x y B d Q r h q;cases r with | @cons _ _ A _ _ _ r1 t=>cases t with | @cons _ _ A2 _ _ _ r2 _ =>
 cases x with
 | lst z ys =>
   obtain⟨v',h1,h⟩:=zA1.mp h;obtain⟨ws,h2,h⟩:=zA1.mp h;cases h;obtain⟨rfl,f⟩:=r2.flat h1;obtain⟨a,vs,A3,rfl,hs,rs,_⟩:=r1.lst_inv;obtain⟨rfl,g⟩:=rs.flats h2;exact⟨a,vs,w,rfl,rfl,hs,f,g,q _ H [] (.int _) (λ _ _ z=>z) New.nil⟩
 | _=>cases h
theorem vbm{r:V->List V->Hp->VK->Prop}{g:D->D->Option D}{name:Str}{id:String}(hg:Ay true (rL1 r) g)(pa:PlainAttrs "list")(slot:Slot "list" name id)(hty:typeOf (.builtin id)=pure (.type "method_descriptor"))(hm:MtM X id r)(ho:VV c X o oa fa)(hb:VV c X b ob fb)(hl:∀ x y d,g x y=some d->∃ z ys,x=.lst z ys)(hbase:attributeBase o name X.env (eval o X.env)=eval o X.env:=by rfl)(hfew:((backTo cpos (starEach [b] X.env)).all (λ x=>!x.1)&&(backToKw cpos (keywordEach [] X.env)).all (λ x=>x.1.isSome)
     && decide (([b]:List Expr).length+([]:List Keyword).length+(if ([]:List Keyword).isEmpty then 0 else 1) < 30))=true:=by rfl)(hline:(apos.endLine == cpos.line)=true:=by rfl)(hs:starEach [b] X.env=(false,eval b X.env)::starEach [] X.env:=by rfl)(hplain:(backTo cpos (starEach [] X.env)).any (·.1)=false:=by rfl) :
   VV c X (.Call (.Attribute o name apos) [b] [] cpos) true (f2 g fa fb):=by
 refine⟨PE.mono (He pa slot hty hm ho.h (qg4 hb.h qA0 hs) hbase hfew hline hs hplain) λ σ H Q ⟨F,ds,A,d,S,e,q⟩=>?_⟩;obtain⟨x,y,ea,eb,eg⟩:=qat7.mp e;obtain⟨z,ys,rfl⟩:=hl x y d eg;refine⟨F,ds,A,_,S,ea,λ v H1 B1 r1 s1 n1=>?_⟩;obtain⟨a,vs,A3,rfl,hs1,rs,_⟩:=r1.lst_inv;refine⟨.inl ⟨rfl,vs,.inl (.inl hs1)⟩,F,ds,A,y,S.same s1,eb,λ w H2 B2 r2 s2 n2=>?_⟩;exact hg F H2 _ w _ y _ d Q (Et (r1.same s2) r2) eg λ u H3 B3 r3 s3 h3=>q u H3 B3 r3 ((s1.trans s2).trans s3) λ _=>⟨h3.one,λ b o e=>h3.new b o (s2 b o (s1 b o e))⟩
theorem qN7:∀ x y d,Hv x y=some d->∃ z ys,x=.lst z ys:=λ x y d h=>by cases x with | lst z ys=>exact⟨z,ys,rfl⟩ | _=>cases h
theorem qaE5:∀ x y d,gCnt x y=some d->∃ z ys,x=.lst z ys:=λ x y d h=>by cases x with | lst z ys=>exact⟨z,ys,rfl⟩ | _=>cases h
end
def Dc(g:VTG)(t:VTS)(e:VEnds):List D->Ds->Prop
 | [],ds=>e.nx ds
 | x::xs,ds=>g x ds λ ds1=>t { e with nx:=Dc g t e xs,ct:=Dc g t e xs,bk:=e.nx } ds1
def whN(qc:VTT)(t:VTS)(e:VEnds):Nat->Ds->Prop
 | 0,_=>False
 | n+1,ds=>qc ds (λ b ds1=>if b=true then t { e with nx:=whN qc t e n,ct:=whN qc t e n,bk:=e.nx } ds1 else e.nx ds1) e.xe
def qaw4(qc:VTT)(t:VTS):VTS:=λ e ds=>∃ n,whN qc t e n ds
section
variable{c:Vc}{X:Cx}{a b e tg:Expr}{body:List Stmt}{g:VTG}{t:VTS}{te:VT}{qc:VTT}{pos:Pos}
theorem qn0(hg:VG c X tg g)(ht:VSs c X body t){en en':VEnds}(hl:en.Le en'):∀(xs:List D) ds,Dc g t en xs ds->Dc g t en' xs ds
 | [],ds=>hl.nx ds
 | x::xs,ds=>hg.m _ _ _ _ λ ds1=>ht.m _ _ _ ⟨qn0 hg ht hl xs,hl.rt,hl.nx,qn0 hg ht hl xs,hl.xe⟩
theorem qG2{cd:Expr}(hc:VTe c X cd qc)(ht:VSs c X body t){en en':VEnds}(hl:en.Le en'):∀(n:Nat) ds,whN qc t en n ds->whN qc t en' n ds
 | 0,ds=>id
 | n+1,ds=>hc.m _ _ _ _ _ (λ b ds1=>qE5 (ht.m _ _ _ ⟨qG2 hc ht hl n,hl.rt,hl.nx,qG2 hc ht hl n,hl.xe⟩) (hl.nx _)) hl.xe
theorem qaj1(hp:PassesOwn (model X.prog X.w) X.A X.env X.xe)(hc:VTe c X cd qc)(ht:VSs c X body t):VS c X (.While cd body [] pos) (qaw4 qc t):=by
 refine⟨PS.mono (qap2 hp hc.h ht.h) λ E σ H ⟨F,ds,A,en,S,l,n,q⟩=>?_,λ en en' ds hl ⟨n,q⟩=>⟨n,qG2 hc ht hl n ds q⟩⟩;refine⟨λ m σ H=>∃ F ds A,Sta c F H σ ds A/\Lk c E F H A en/\whN qc t en m ds,⟨n,F,ds,A,S,l,q⟩,?_⟩;rintro m σ H ⟨F,ds,A,S,l,q⟩;cases m with
 | zero=>exact q.elim
 | succ m =>
   refine⟨F,ds,A,en.xe,S,l.xe,hc.m _ _ _ _ _ (λ b ds1 q H1 F1 A1 S1 s1=>?_) (λ _ _ z=>z) q⟩;cases b with
   | false=>rw[if_neg (by decide)] at q ⊢;exact l.nx _ _ _ _ _ q S1 s1
   | true =>
     rw[if_pos rfl] at q ⊢;have l1:=l.step s1;refine⟨λ σ' H'=>∃ F' ds' A',Sta c F' H' σ' ds' A'/\Lk c E F' H' A' en/\whN qc t en m ds',λ σ' H' h=>⟨m,by lia,h⟩,F1,ds1,A1,{ en with nx:=whN qc t en m,ct:=whN qc t en m,bk:=en.nx },S1,⟨?_,l1.rt,l1.nx,?_,l1.xe⟩,q⟩
     . exact λ ds' σ' H' F' A' q S' s'=>⟨F',ds',A',S',l1.step s',q⟩
     exact λ ds' σ' H' F' A' q S' s'=>⟨F',ds',A',S',l1.step s',q⟩
theorem qU4{E:Dl}{en:VEnds}{F:Addr->Prop}{H:Hp}{σ:St}{ds:Ds}{A:List Addr}{x:V}{y:D}{N:St->Hp->Prop}{nxt:Ds->Prop}(hg:VG c X tg g)(S:Sta c F H σ ds A)(l:Lk c E F H A en)(r:Rep F H x y [])(hN:∀ ds' σ' H' F' A',nxt ds'->Sta c F' H' σ' ds' A'->Stp F H A F' H' A'->N σ' H')(q:g y ds λ ds1=>t { en with nx:=nxt,ct:=nxt,bk:=en.nx } ds1) :
   Ez c g x σ H λ σ2 H2=>El c t { E with nx:=N,ct:=N,bk:=E.nx } σ2 H2:=by
 refine⟨F,ds,A,[],y,r,S,S.ok,hg.m _ _ _ _ (λ ds1 q σ1 H1 F1 A1 S1 s1=>?_) q⟩;have l1:=l.step s1;exact⟨F1,ds1,A1,{ en with nx:=nxt,ct:=nxt,bk:=en.nx },S1,⟨λ ds' σ' H' F' A' q S' s'=>hN ds' σ' H' F' A' q S' (Stp.trans s1 s'),l1.rt,l1.nx,λ ds' σ' H' F' A' q S' s'=>hN ds' σ' H' F' A' q S' (Stp.trans s1 s'),l1.xe⟩,q⟩
def D.lstOf:D->Option Ds
 | .lst _ ys=>some ys
 | _=>none
theorem qt9{d:D}{ys:Ds}(h:d.lstOf=some ys):∃ z,d=.lst z ys:=by
 cases d with
 | lst z xs=>cases h;exact⟨z,rfl⟩
 | _=>cases h
theorem qB5:∀{ys:List D}{i:Nat}{y:D},D.imms ys=true->ys[i]? = some y->y.imm=true
 | [],i,y,_,h=>by simp at h
 | d::r,0,y,hm,h=>by
   have:d=y:=by simpa using h
   subst this;exact(zAh.mp hm).1
 | d::r,i+1,y,hm,h=>qB5 (zAh.mp hm).2 (by simpa using h)
theorem qn2{xs:List α}{x:α}(h:xs[i]? = some x):xs.drop i=x::xs.drop (i+1):=by
 obtain⟨hi,rfl⟩:=zA5.mp h;exact List.drop_eq_getElem_cons hi
def sForL(te:VT)(g:VTG)(t:VTS):VTS:=λ e ds=>te ds (λ d ds1=>orF d.lstOf λ ys=>D.imms ys=true/\Dc g t e ys ds1) e.xe
theorem E4(hp:PassesOwn (model X.prog X.w) X.A X.env X.xe)(hi:VE c X e te)(hg:VG c X tg g)(ht:VSs c X body t)(hc:X.calm=true:=by rfl)(hfs:∀ v,foldedSetIterable e X.env v=pure v:=by intro _;rfl):VS c X (.For tg e body [] pos) (sForL te g t):=by
 refine⟨PS.mono (qap3 hp hc (qt5 hi.h) hg.h ht.h hfs) λ E σ H ⟨F,ds,A,en,S,l,q⟩=>?_,λ en en' ds hl=>hi.m _ _ _ _ _ (λ d ds1=>qa4 λ ys=>And.imp_right (qn0 hg ht hl ys ds1)) hl.xe⟩;refine⟨F,ds,A,en.xe,S,l.xe,hi.m _ _ _ _ _ (λ d ds1 q v H1 F1 T A1 r1 S1 o1 s1=>?_) (λ _ _ z=>z) q⟩;obtain⟨ys,ey,hm,qf⟩:=qa6.mp q;obtain⟨z,rfl⟩:=qt9 ey;obtain⟨a,vs,Ael,rfl,ha,rs,_⟩:=r1.lst_inv;have s1':Stp F H A F1 H1 A1:=s1.count λ b=>by rw[zA0];lia
 refine⟨a,rfl,⟨vs,.inl (.inl ha)⟩,qaa1 (K:=X.K) (a:=a) (xs:=vs) (λ i σ H=>∃ F ds A,Sta c F H σ ds A/\Lk c E F H A en/\Rep F H (.ref a) (.lst z ys) T/\H a=some (.lst vs)/\Ok F H (T++A)/\Dc g t en (ys.drop i) ds) ⟨F1,ds1,A1,S1,l.step s1',r1,ha,o1,qf⟩ ?_ ?_ ?_⟩
 . rintro i σ H _ ⟨F,ds,A,S,l,r,ha,o,q⟩
   exact .inl (.inl ha)
 . rintro i x σ H hx ⟨F,ds,A,S,l,r,ha,o,q⟩
   obtain⟨a',vs',Ael',ea,ha',rs',_⟩:=r.lst_inv;cases ea;rw[ha] at ha';cases ha';obtain⟨y,B,hy,ry⟩:=rs'.getV hx
   have:=ry.imm (qB5 hm hy)
   subst this;rw[qn2 hy] at q;refine qU4 hg S l ry (λ ds' σ' H' F' A' q' S' s'=>?_) q;have kp:=s'.kp S.ok S.loc.cells;have hT:∀ b∈T,¬ (A.count b≠0):=λ b hb hc=>by
     have:=o.sep b
     rw[zA0] at this
     have:=qa8.mp hb
     lia
   have r':=r.keep kp hT;obtain⟨o',_⟩:=s'.frame o r.cells S'.ok;have ha2:H' a=some (.lst vs):=by
     cases r with
     | lst h _=>exact kp.fr _ _ ha (hT _ zA9)
     | lstZ h f _=>exact kp.fr _ _ ha λ w=>kp.wf _ w f
   exact⟨F',ds',A',S',l.step s',r',ha2,o',q'⟩
 rintro σ H ⟨F,ds,A,S,l,r,ha,o,q⟩;rw[rs.len,List.drop_length] at q;exact l.nx _ _ _ _ _ q S Stp.refl
def Dm(lo:Int)(n:Nat):List D:=(List.range n).map λ(i:Nat)=>.int (lo+(i:Int))
theorem qaj7{lo:Int}(h:i < n):(Dm lo n)[i]? = some (.int (lo+(i:Int))):=by
 unfold Dm;rw[zB8,List.getElem?_range h];rfl
theorem qaw5(lo:Int)(n:Nat):(Dm lo n).length=n:=by simp[Dm]
def F4(i:Int):Bool:=decide (-(2 ^ 62)<=i)&&decide (i < 2 ^ 62)
theorem qar7{i:Int}(h:F4 i=true):-(2 ^ 62)<=i/\i < 2 ^ 62:=by
 have:=zAh.mp h
 exact⟨zAf this.1,zAf this.2⟩
theorem qaD5{E:Dl}{en:VEnds}{F:Addr->Prop}{H:Hp}{σ:St}{ds:Ds}{A:List Addr}{lo:Int}(hg:VG c X tg g)(S:Sta c F H σ ds A)(l:Lk c E F H A en)(q:Dc g t en (Dm lo n) ds) :
   ∃ W:Nat->Nat->St->Hp->Prop,(∃ m,W 0 m σ H)/\∀ i m σ H,W i m σ H ->
     ((Itr lo n).stop i H/\E.nx σ H)∨((Itr lo n).go i H/\∃ N:St->Hp->Prop,(∀ σ' H',N σ' H'->∃ m',m' < m/\W (i+1) m' σ' H')/\∀ x H',(Itr lo n).yld i H x H'->Ez c g x σ H' λ σ2 H2=>El c t { E with nx:=N,ct:=N,bk:=E.nx } σ2 H2):=by
 refine qag8 (λ i σ H=>∃ F ds A,Sta c F H σ ds A/\Lk c E F H A en/\Dc g t en ((Dm lo n).drop i) ds) ⟨F,ds,A,S,l,q⟩ ?_ ?_
 . rintro i σ H hi ⟨F,ds,A,S,l,q⟩
   rw[qn2 (qaj7 hi)] at q;exact qU4 hg S l (.int _) (λ ds' σ' H' F' A' q' S' s'=>⟨F',ds',A',S',l.step s',q'⟩) q
 rintro σ H ⟨F,ds,A,S,l,q⟩;rw[List.drop_of_length_le (by rw[qaw5];exact zA2 _)] at q;exact l.nx _ _ _ _ _ q S Stp.refl
def one1:Ds->Option Int
 | [.int j]=>some j
 | _=>none
theorem qaA2{xs:Ds}{j:Int}(h:one1 xs=some j):xs=[.int j]:=by
 unfold one1 at h;split at h
 . cases h;rfl
 cases h
def qae2(tr:VTA)(g:VTG)(t:VTS):VTS:=λ e ds=>tr ds (λ xs ds1=>orF (one1 xs) λ j=>F4 j=true/\Dc g t e (Dm 0 j.toNat) ds1) e.xe
theorem qR6{tr:VTA}{p cpos:Pos}(hp:PassesOwn (model X.prog X.w) X.A X.env X.xe)(hm:X.mg "range" = none)(ha:VOs c X [a] tr)(hg:VG c X tg g)(ht:VSs c X body t)(hgl:Gl X "range" := by rfl)(hs:starEach [a] X.env=[(false,eval a X.env)]:=by rfl)(hc:X.calm=true:=by rfl) :
   VS c X (.For tg (.Call (.Name "range" p) [a] [] cpos) body [] pos) (qae2 tr g t):=by
 refine⟨PS.mono (qap3 hp hc (qae8 hgl hm ha.h hs) hg.h ht.h) λ E σ H ⟨F,ds,A,en,S,l,q⟩=>?_,λ en en' ds hl=>ha.m _ _ _ _ _ (λ xs ds1=>qa4 λ j=>And.imp_right (qn0 hg ht hl _ ds1)) hl.xe⟩;refine⟨F,ds,A,en.xe,S,l.xe,ha.m _ _ _ _ _ (λ xs ds1 q vs H1 F1 T A1 r1 S1 s1=>?_) (λ _ _ z=>z) q⟩;obtain⟨j,ej,hm,qf⟩:=qa6.mp q;cases qaA2 ej;obtain⟨v,rfl,rv⟩:=r1.one_inv;cases rv
 have:=qar7 hm
 exact⟨j,rfl,this.1,this.2,qaD5 hg S1 (l.step s1) qf⟩
def tFzV(te:VT):VT:=λ ds Q xe=>te ds (λ d ds1=>Q d.fz ds1) xe
theorem efzV(h:VE c X e te):VE c X e (tFzV te):=by
 refine⟨PE.mono h.h λ σ H Q ⟨F,ds,A,xe,S,x,q⟩=>⟨F,ds,A,xe,S,x,h.m _ _ _ _ _ (λ d ds1 q v H1 F1 T A1 r1 S1 o1 s1=>?_) (λ _ _ z=>z) q⟩,λ ds Q Q' xe xe' hQ hx=>h.m _ _ _ _ _ (λ d ds1=>hQ _ _) hx⟩;have rz:=r1.fz (F':=λ b=>F1 b∨b∈T) (λ b f=>.inl f) λ b hb=>.inr hb
 obtain⟨o',s'⟩:=share (A:=T++A1) (B:=T) (C:=A1) o1 (λ b=>by rw[zA0]) r1.cells (A':=A1) (λ b=>rfl);have L:=S1.loc.keep (Kp.more (H:=H1) λ b f=>Or.inl (b:=b∈T) f) λ _ _ z=>z
 exact q v H1 _ [] A1 rz ⟨L,o',S1.len,S1.ag⟩ o' (s1.trans s')
end
def bk1(i:Nat)(p:List Nat)(w:V)(d0:D)(ds:Ds):Option Ds:=Aq [.pl i p w] [d0] ds
def Gn(i:Nat)(p:List Nat)(w:V)(d0:D)(e:VEnds):VEnds where
 nx ds:=orF (bk1 i p w d0 ds) e.nx
 rt d ds:=orF (bk1 i p w d0 ds) (e.rt d)
 bk ds:=orF (bk1 i p w d0 ds) e.bk
 ct ds:=orF (bk1 i p w d0 ds) e.ct
 xe x ds:=orF (bk1 i p w d0 ds) (e.xe x)
section
variable{c:Vc}{X:Cx}{a b e tg o:Expr}{body:List Stmt}{g:VTG}{t:VTS}{pos:Pos}{pf:PF}{F F1:Addr->Prop}{H H1:Hp}{σ:St}{ds ds1:Ds}{A A1 B:List Addr}{E:Dl}{en:VEnds}
theorem qm9{p:List Nat}{d0:D}{F':Addr->Prop}{H':Hp}{ds' ds2:Ds}{A':List Addr}(o1:Ok F1 H1 (B++A1))(S1:Sta c F1 H1 σ ds1 A1)(r:Rep F1 H1 w d0 B)(S':Sta c F' H' σ' ds' A')(s':Stp F1 H1 A1 F' H' A')(h:bk1 i p w d0 ds'=some ds2) :
   ∃ A2,Sta c F' H' σ' ds2 A2/\Ok F' H' (B++A')/\Stp F1 H1 (B++A1) F' H' (B++A')/\∀ b,A2.count b<=B.count b+A'.count b:=by
 obtain⟨o2,s2⟩:=s'.frame o1 r.cells S'.ok;have r':Rep F' H' w d0 B:=r.keep (s'.kp S1.ok S1.loc.cells) λ b hb hc=>by
   have:=o1.sep b
   rw[zA0] at this
   have:=qa8.mp hb
   lia
 obtain⟨A2,q1,q2⟩:=qq1 (pls:=[.pl i p w]) (vs:=[w]) (more:=[]) (ys:=[d0]) (.so .nil) (.cons r' .nil) S'.loc h;have hc:∀ b,A2.count b<=B.count b+A'.count b:=λ b=>by have:=q2 b;simp only[zAd] at this;exact this
 exact⟨A2,⟨q1,o2.count λ b=>by rw[zA0];exact hc b,S'.len,S'.ag⟩,o2,s2,hc⟩
theorem Lk.lend{p:List Nat}{d0:D}(l:Lk c E F H A en)(s1:Stp F H A F1 H1 (B++A1))(o1:Ok F1 H1 (B++A1))(S1:Sta c F1 H1 σ ds1 A1)(r:Rep F1 H1 w d0 B):Lk c E F1 H1 A1 (Gn i p w d0 en) where
 nx ds' σ' H' F' A' q S' s':=by
   obtain⟨ds2,eb,q⟩:=qa6.mp q;obtain⟨A2,S2,o2,s2,hc⟩:=qm9 o1 S1 r S' s' eb;exact l.nx _ _ _ _ A2 q S2 ((s1.trans s2).count λ b=>by rw[zA0];exact hc b)
 bk ds' σ' H' F' A' q S' s':=by
   obtain⟨ds2,eb,q⟩:=qa6.mp q;obtain⟨A2,S2,o2,s2,hc⟩:=qm9 o1 S1 r S' s' eb;exact l.bk _ _ _ _ A2 q S2 ((s1.trans s2).count λ b=>by rw[zA0];exact hc b)
 ct ds' σ' H' F' A' q S' s':=by
   obtain⟨ds2,eb,q⟩:=qa6.mp q;obtain⟨A2,S2,o2,s2,hc⟩:=qm9 o1 S1 r S' s' eb;exact l.ct _ _ _ _ A2 q S2 ((s1.trans s2).count λ b=>by rw[zA0];exact hc b)
 xe x ds' σ' e H' F' A' q rx S' s':=by
   obtain⟨ds2,eb,q⟩:=qa6.mp q;obtain⟨A2,S2,o2,s2,hc⟩:=qm9 o1 S1 r S' s' eb;exact l.xe x ds2 σ' e H' F' A2 q rx S2 ((s1.trans s2).count λ b=>by rw[zA0];exact hc b)
 rt d ds' v σ' H' F' T A' q rv S' oT s':=by
   obtain⟨ds2,eb,q⟩:=qa6.mp q;have s'':Stp F1 H1 A1 F' H' A':=s'.count λ b=>by rw[zA0];lia
   obtain⟨A2,S2,o2,s2,hc⟩:=qm9 o1 S1 r S' s'' eb;obtain⟨o3,s3⟩:=s'.frame o1 r.cells oT;have hcc:∀ b,(T++A2).count b<=(B++(T++A')).count b:=λ b=>by simp only[zA0];have:=hc b;lia
   exact l.rt d ds2 v σ' H' F' T A2 q rv S2 (o3.count hcc) ((s1.trans s3).count hcc)
theorem qaB8{p:List Nat}{d0:D}{en en':VEnds}(hl:en.Le en'):(Gn i p w d0 en).Le (Gn i p w d0 en') :=
 ⟨λ ds=>qa4 hl.nx,λ d ds=>qa4 (hl.rt d),λ ds=>qa4 hl.bk,λ ds=>qa4 hl.ct,λ x ds=>qa4 (hl.xe x)⟩
structure Held(F:Addr->Prop)(H:Hp)(a:Addr)(vs:List V)(z:Bool)(ys:Ds)(T A:List Addr):Prop where
 r:Rep F H (.ref a) (.lst z ys) T
 h:H a=some (.lst vs)
 o:Ok F H (T++A)
theorem Held.step{ys:Ds}{T:List Addr}{a:Addr}{F':Addr->Prop}{H':Hp}{ds':Ds}{A':List Addr}(h:Held F H a vs z ys T A)(S:Sta c F H σ ds A)(S':Sta c F' H' σ' ds' A')(s':Stp F H A F' H' A'):Held F' H' a vs z ys T A':=by
 obtain⟨r,ha,o⟩:=h;have kp:=s'.kp S.ok S.loc.cells;have hT:∀ b∈T,¬ (A.count b≠0):=λ b hb hc=>by
   have:=o.sep b
   rw[zA0] at this
   have:=qa8.mp hb
   lia
 refine⟨r.keep kp hT,?_,(s'.frame o r.cells S'.ok).1⟩;cases r with
 | lst h _=>exact kp.fr _ _ ha (hT _ zA9)
 | lstZ h f _=>exact kp.fr _ _ ha λ w=>kp.wf _ w f
theorem Held.get{ys:Ds}{T:List Addr}{a:Addr}{x:V}(h:Held F H a vs z ys T A)(hm:D.imms ys=true)(hx:vs[i]? = some x):∃ y,ys[i]? = some y/\Rep F H x y []:=by
 obtain⟨a',vs',Ael',ea,ha',rs',_⟩:=h.r.lst_inv;cases ea
 have:=h.h
 rw[ha'] at this;cases this;obtain⟨y,B,hy,ry⟩:=rs'.getV hx
 have:=ry.imm (qB5 hm hy)
 subst this;exact⟨y,hy,ry⟩
theorem Held.len{ys:Ds}{T:List Addr}{a:Addr}(h:Held F H a vs z ys T A):vs.length=ys.length:=by
 obtain⟨a',vs',Ael',ea,ha',rs',_⟩:=h.r.lst_inv;cases ea
 have:=h.h
 rw[ha'] at this;cases this;exact rs'.len
theorem qK2{K:PySem.W.Frag}{ys:Ds}{T:List Addr}{a:Addr}(hg:VG c X tg g)(S:Sta c F H σ ds A)(l:Lk c E F H A en)(hd:Held F H a vs z ys T A)(hm:D.imms ys=true)(q:Dc g t en ys ds) :
   ∃ W:Nat->Nat->St->Hp->Prop,(∃ m,W 0 m σ H)/\∀ i m σ H,W i m σ H ->
     ((Itl K a).stop i H/\E.nx σ H)∨((Itl K a).go i H/\∃ N:St->Hp->Prop,(∀ σ' H',N σ' H'->∃ m',m' < m/\W (i+1) m' σ' H')/\∀ x H',(Itl K a).yld i H x H'->Ez c g x σ H' λ σ2 H2=>El c t { E with nx:=N,ct:=N,bk:=E.nx } σ2 H2):=by
 refine qaa1 (xs:=vs) (λ i σ H=>∃ F ds A,Sta c F H σ ds A/\Lk c E F H A en/\Held F H a vs z ys T A/\Dc g t en (ys.drop i) ds) ⟨F,ds,A,S,l,hd,q⟩ ?_ ?_ ?_
 . rintro i σ H _ ⟨F,ds,A,S,l,hd,q⟩
   exact .inl (.inl hd.h)
 . rintro i x σ H hx ⟨F,ds,A,S,l,hd,q⟩
   obtain⟨y,hy,ry⟩:=hd.get hm hx;rw[qn2 hy] at q;exact qU4 hg S l ry (λ ds' σ' H' F' A' q' S' s'=>⟨F',ds',A',S',l.step s',hd.step S S' s',q'⟩) q
 rintro σ H ⟨F,ds,A,S,l,hd,q⟩;rw[hd.len,List.drop_length] at q;exact l.nx _ _ _ _ _ q S Stp.refl
def sForP(pf:PF)(g:VTG)(t:VTS):VTS:=λ e ds=>orF (pf ds) λ q=>orF (A6 ds q.1 q.2) λ d=>orF d.lstOf λ ys=>D.imms ys=true/\∀ w,Dc g t (Gn q.1 q.2 w d e) ys (Bf ds q.1 q.2 (.hole w))
theorem sforP(hp:PassesOwn (model X.prog X.w) X.A X.env X.xe)(hi:VP c X o pf)(hg:VG c X tg g)(ht:VSs c X body t)(hc:X.calm=true:=by rfl)(hfs:∀ v,foldedSetIterable o X.env v=pure v:=by intro _;rfl):VS c X (.For tg o body [] pos) (sForP pf g t):=by
 refine⟨PS.mono (qap3 hp hc (qt5 hi.h) hg.h ht.h hfs) λ E σ H ⟨F,ds,A,en,S,l,q⟩=>?_,λ en en' ds hl=>qa4 λ q=>qa4 λ d=>qa4 λ ys=>And.imp_right λ h w=>qn0 hg ht (qaB8 hl) _ _ (h w)⟩;obtain⟨⟨i,p⟩,e1,q⟩:=qa6.mp q;obtain⟨d,e2,q⟩:=qa6.mp q;obtain⟨ys,ey,hm,q⟩:=qa6.mp q;obtain⟨z,rfl⟩:=qt9 ey;refine⟨F,ds,A,i,p,_,S,e1,e2,D.noConfusion,λ u w H1 hu hw s0=>?_⟩;obtain⟨B,C,r,h3,h4⟩:=(S.same s0).place e2 D.noConfusion hu hw;obtain⟨A1,q1,q2⟩:=h4 (.hole w) [] (Kp.same (F:=F) λ _ _ z=>z) (λ _ _ z=>z) (.hole w);have o1:Ok F H1 (B++A1):=(S.same s0).ok.count λ b=>by rw[zA0,q2,h3];simp
 have s1:Stp F H A F H1 (B++A1):=⟨λ b o e _=>s0 b o e,λ b o e z=>by rw[zA0,q2];have:=h3 b;simp;lia,λ _ f=>f,λ _ _ _ _ f=>f⟩
 have S1:Sta c F H1 σ (Bf ds i p (.hole w)) A1:=⟨q1,o1.right,S.len,S.ag⟩
 obtain⟨a,vs,Ael,rfl,ha,rs,_⟩:=r.lst_inv;exact⟨a,rfl,⟨vs,.inl (.inl ha)⟩,qK2 hg S1 (l.lend s1 o1 S1 r) ⟨r,ha,o1⟩ hm (q _)⟩
def enD(ys:Ds):List D:=ys.zipIdx.map λ p=>.tup [.int (p.2:Int),p.1]
theorem qaM4{ys:Ds}{y:D}(h:ys[i]? = some y):(enD ys)[i]? = some (.tup [.int (i:Int),y]):=by
 unfold enD;rw[zB8,List.getElem?_zipIdx,h];simp
theorem qaM3(ys:Ds):(enD ys).length=ys.length:=by simp[enD]
end
def fin(W:Nat->Bool):Nat->Ds->Ds->Ds
 | k,d::r,d'::r'=>(if W k=true then d' else d)::fin W (k+1) r r'
 | _,_,_=>[]
def F5(W:Nat->Bool):Nat->Ds->Bool
 | _,[]=>true
 | k,d::r=>(W k||d.imm)&&F5 W (k+1) r
def Hw(W:Nat->Bool)(ds:Ds)(Q:DK)(xe:XKd):VEnds where
 nx ds':=Q .non (fin W 0 ds ds')
 rt d ds':=Q d (fin W 0 ds ds')
 bk _:=False
 ct _:=False
 xe x ds':=xe x (fin W 0 ds ds')
section
variable{F F':Addr->Prop}{H H':Hp}
theorem qaL8{W:Nat->Bool}{Wr:Addr->Prop}(kp:Kp F H Wr F' H'):∀{vs:List V}{ds:Ds}{A:List Addr}{k:Nat}{σ':List (Option V)}{ds':Ds}{A':List Addr},Reps F H vs ds A->F5 W k ds=true->Locs F' H' σ' ds' A'->vs.length<=σ'.length->(∀ i,i < vs.length->W (k+i)=true->σ'[i]? = (vs.map some)[i]?) ->
   ∃ A2,Reps F' H' vs (fin W k ds ds') A2/\∀ b,A2.count b<=A'.count b:=by
 intro vs
 induction vs with
 | nil =>
   intro ds A k σ' ds' A' r hm L hl ag;cases r;exact⟨[],by cases ds'<;>exact .nil,λ b=>by simp⟩
 | cons v vs ih =>
   intro ds A k σ' ds' A' r hm L hl ag;cases r with
   | @cons _ d B _ ds B2 r1 t =>
     have hm:=zAh.mp hm;have step:∀{σ2:List (Option V)}{ds2:Ds}{A2:List Addr}(o:Option V),σ'=o::σ2->Locs F' H' σ2 ds2 A2->∃ A3,Reps F' H' vs (fin W (k+1) ds ds2) A3/\∀ b,A3.count b<=A2.count b:=λ{σ2 ds2 A2} o e L2=>by
       subst e;refine ih t hm.2 L2 (by simpa using hl) λ i hi hw=>?_
       have:=ag (i+1) (by simpa using hi) (by rw[<- hw];congr 1;lia)
       simpa using this
     cases L with
     | nil=>simp at hl
     | no L2 =>
       obtain⟨A3,q1,q2⟩:=step none rfl L2;by_cases hw:W k=true
       . have:=ag 0 (by simp) (by simpa using hw)
         simp at this
       have hi:d.imm=true:=by
         rcases Bool.or_eq_true_iff.mp hm.1 with h | h
         . exact absurd h hw
         exact h
       have:=r1.imm hi
       subst this;refine⟨[]++A3,?_,λ b=>by simpa using q2 b⟩;show Reps F' H' (v::vs) ((if W k=true then _ else d)::_) _;rw[if_neg hw];exact .cons (r1.keep kp λ b hb=>by cases hb) q1
     | @so v' d' B' σ2 ds2 A2 rr L2 =>
       obtain⟨A3,q1,q2⟩:=step (some v') rfl L2;by_cases hw:W k=true
       . have:=ag 0 (by simp) (by simpa using hw)
         simp at this;subst this;refine⟨B'++A3,?_,λ b=>by simp only[zA0];have:=q2 b;lia⟩;show Reps F' H' (v'::vs) ((if W k=true then d' else d)::_) _;rw[if_pos hw];exact .cons rr q1
       have hi:d.imm=true:=by
         rcases Bool.or_eq_true_iff.mp hm.1 with h | h
         . exact absurd h hw
         exact h
       have:=r1.imm hi
       subst this;refine⟨[]++A3,?_,λ b=>by simp only[zAz,zA0];have:=q2 b;lia⟩;show Reps F' H' (v::vs) ((if W k=true then d' else d)::_) _;rw[if_neg hw];exact .cons (r1.keep kp λ b hb=>by cases hb) q1
theorem Reps.locs{ds:Ds}{A:List Addr}(r:Reps F H vs ds A):Locs F H (vs.map some) ds A:=by
 induction vs generalizing ds A with
 | nil=>cases r;exact .nil
 | cons v vs ih=>cases r with | cons h t=>exact .so h (ih t)
theorem qA9:∀ n:Nat,Locs F H (List.replicate n none) (List.replicate n .unk) []
 | 0=>.nil
 | n+1=>.no (qA9 n)
end
structure FunE(K:PySem.W.Frag)(x qual:Str)(st:Stmt)(f:Addr)(fd:FuncData):Prop where
 ex:∃(oc:Value)(od:Option Addr)(dV kV doc pm:Value)(an:Option Addr)(cdv ct:Value)(osl:Array (Option Value)),
   fd=PySem.W.fnOf x qual (qe2 st) (qc6 st) (qa3 st) dV kV doc pm an cdv ct/\K.lookup f=some ⟨oc,od,.func fd,osl⟩/\PySem.W.codeIn K cdv qual=true
theorem FunE.of{K:PySem.W.Frag}{x qual:Str}{st:Stmt}{f:Addr}{fd:FuncData}(F:Fun K x qual st f fd):FunE K x qual st f fd :=
 let ⟨oc,od,kV,doc,pm,an,cdv,ct,osl,e,lk,hcd⟩:=F.ex
 ⟨⟨oc,od,.none,kV,doc,pm,an,cdv,ct,osl,e,lk,hcd⟩⟩
theorem FunE.okX{w:World}{K:PySem.W.Frag}{x qual:Str}{st:Stmt}{f:Addr}{fd:FuncData}{ps:List Str}{k:Nat}{sp:Sp}(F:FunE K x qual st f fd)(S:qa9 N ps (qa3 st))(len:∀ vs H Q E,sp vs H Q E->vs.length=ps.length)(hbody:∀(cdv:Value)(A:Around)(outer:List Env)(s:Shared)(H:Hp)(vs:List V)(Q:VK)(E:XK),Room k (A.deeper (PyProof.Rows.envOfC qual (qa3 st) s.heap.objs.size f cdv))->sp vs H Q E ->
     ∃ t,PSs (Dn (CX1 P w) P w K mg base N qual (qa3 st) f cdv A outer s H E) (qc6 st) t/\t { nx:=λ _ H'=>Q .non H',rt:=Q } (L2.start N vs) H):By P w K mg base (CX1 P w) (k+1) f fd ps sp:=by
 obtain⟨oc,od,dV,kV,doc,pm,an,cdv,ct,osl,rfl,lk,hcd⟩:=F.ex;exact Hd lk hcd S len λ A outer s H vs Q E hr hsp=>hbody cdv A outer s H vs Q E hr hsp
theorem VFn.mkE{w:World}{K:PySem.W.Frag}{x qual:Str}{st:Stmt}{f:Addr}{fd:FuncData}{ps:List Str}{k:Nat}{s:VSp}(Fu:FunE K x qual st f fd)(Sc:qa9 N ps (qa3 st))(W:Nat->Bool)(hs:Bp s)(hlen:∀ ds Q xe,s ds Q xe->ds.length=ps.length)(himm:∀ ds Q xe,s ds Q xe->F5 W 0 ds=true)(hbody:∀(cdv:Value)(A:Around)(outer:List Env)(sh:Shared)(H:Hp)(E:XK)(av:List (Option V)),Room k (A.deeper (PyProof.Rows.envOfC qual (qa3 st) sh.heap.objs.size f cdv)) ->
     ∃ t,VSs ⟨E,W,av,[]⟩ (Dn (CX1 P w) P w K mg base N qual (qa3 st) f cdv A outer sh H E) (qc6 st) t/\∀ ds Q xe,s ds Q xe->t (Hw W ds Q xe) (ds++List.replicate (N.length - ds.length) .unk)) :
   VFn P w K mg base (k+1) f fd ps s:=by
 refine⟨Fu.okX Sc (λ vs H Q E ⟨F,ds,A,r,o,h⟩=>by rw[r.len];exact hlen _ _ _ h) λ cdv Ar outer sh H vs Q E hr ⟨F,ds,A,r,o,h⟩=>?_,hs⟩;obtain⟨t,hv,ht⟩:=hbody cdv Ar outer sh H E (L2.start N vs) hr;have hl:=hlen _ _ _ h;have hi:=himm _ _ _ h;have hN:ps.length<=N.length:=by have:=congrArg List.length Sc.pre;rw[zBw] at this;lia
 have L0:Locs F H (L2.start N vs++[]) (ds++List.replicate (N.length - ds.length) .unk) A:=by
   rw[zAd];unfold L2.start;rw[r.len]
   have:=r.locs.append (qA9 (F:=F) (H:=H) (N.length - ds.length))
   rwa[zAd] at this
 have S0:Sta ⟨E,W,L2.start N vs,[]⟩ F H (L2.start N vs) (ds++List.replicate (N.length - ds.length) .unk) A:=⟨L0,o,by simp,λ i _=>by simp⟩
 have key:∀{σ':St}{H':Hp}{F':Addr->Prop}{ds':Ds}{A' A2:List Addr},Sta ⟨E,W,L2.start N vs,[]⟩ F' H' σ' ds' A'->Stp F H A F' H' A2->∃ A3,Reps F' H' vs (fin W 0 ds ds') A3/\∀ b,A3.count b<=A'.count b:=λ{σ' H' F' ds' A' A2} S' s'=>by
   have hlen':=S'.len;simp only[zAd] at hlen';refine qaL8 (s'.kp o r.cells) r hi (by have:=S'.loc;simpa using this) ?_ λ i hiv hw=>?_
   . rw[<- hlen'];unfold L2.start;simp
   have:=S'.ag i (by simpa using hw)
   simp only[zAd] at this;rw[this];show (L2.start N vs)[i]? = _;unfold L2.start;rw[zAt (by simpa using hiv)]
 refine⟨_,hv.h,F,_,A,Hw W ds _ _,S0,⟨?_,?_,λ _ _ _ _ _ z=>False.elim z,λ _ _ _ _ _ z=>False.elim z,?_⟩,ht _ _ _ h⟩
 . intro ds' σ' H' F' A' q S' s'
   obtain⟨A3,q1,q2⟩:=key S' s';have hc:∀ b,([]++A3).count b<=A'.count b:=λ b=>by simpa using q2 b
   exact q .non H' F' [] A3 .non q1 (S'.ok.count hc) (s'.count hc)
 . intro d ds' v σ' H' F' T A' q rv S' oT s'
   obtain⟨A3,q1,q2⟩:=key S' s';have hc:∀ b,(T++A3).count b<=(T++A').count b:=λ b=>by simp only[zA0];have:=q2 b;lia
   exact q v H' F' T A3 rv q1 (oT.count hc) (s'.count hc)
 intro y ds' σ' e H' F' A' q rx S' s';obtain⟨A3,q1,q2⟩:=key S' s';exact q e H' F' A3 rx q1 (S'.ok.count q2) (s'.count q2)
theorem VFn.mk'{w:World}{K:PySem.W.Frag}{x qual:Str}{st:Stmt}{f:Addr}{fd:FuncData}{ps:List Str}{k:Nat}{s:VSp}(Fu:Fun K x qual st f fd)(Sc:qa9 N ps (qa3 st))(W:Nat->Bool)(hs:Bp s)(hlen:∀ ds Q xe,s ds Q xe->ds.length=ps.length)(himm:∀ ds Q xe,s ds Q xe->F5 W 0 ds=true)(hbody:∀(cdv:Value)(A:Around)(outer:List Env)(sh:Shared)(H:Hp)(E:XK)(av:List (Option V)),Room k (A.deeper (PyProof.Rows.envOfC qual (qa3 st) sh.heap.objs.size f cdv)) ->
     ∃ t,VSs ⟨E,W,av,[]⟩ (Dn (CX1 P w) P w K mg base N qual (qa3 st) f cdv A outer sh H E) (qc6 st) t/\∀ ds Q xe,s ds Q xe->t (Hw W ds Q xe) (ds++List.replicate (N.length - ds.length) .unk)) :
   VFn P w K mg base (k+1) f fd ps s:=VFn.mkE (FunE.of Fu) Sc W hs hlen himm hbody
def Bi:List (Option Nat)->Ds->Ds×Ds
 | [],ds=>([],ds)
 | none::r,ds=>(.unk::(Bi r ds).1,(Bi r ds).2)
 | some j::r,ds=>((ds[j]?).getD .unk::(Bi r (ds.set j .unk)).1,(Bi r (ds.set j .unk)).2)
def Ea:List (Option Nat)->Ds->Ds->Ds
 | none::r,_::i,o=>Ea r i o
 | some j::r,d::i,o=>Ea r i (o.set j d)
 | _,_,o=>o
def Eg(g:VTG)(qf:VTT)(te:VT)(K:Ds->Ds->Prop):List D->Ds->Ds->Prop
 | [],acc,ι=>K acc ι
 | x::xs,acc,ι=>g x ι λ ι1=>qf ι1 (λ b ι2=>if b=true then te ι2 (λ d ι3=>acc.length < big/\Eg g qf te K xs (acc++[d]) ι3) (λ _ _=>False) else Eg g qf te K xs acc ι2) (λ _ _=>False)
def capW(src:List (Option Nat)):Nat->Bool:=λ i=>match src[i]? with | some (some _)=>true | _=>false
abbrev cIn(src:List (Option Nat))(av:List (Option V)):Vc:=⟨λ _ _ _=>False,capW src,av,[]⟩
structure VF(c:Vc)(X:Cx)(ifs:List Expr)(t:VTT):Prop where
 h:PFs X ifs (Dg c t)
 m:∀ ds (Q Q':Bool->Ds->Prop) (xe xe':XKd),(∀ d ds',Q d ds'->Q' d ds')->(∀ x ds',xe x ds'->xe' x ds')->t ds Q xe->t ds Q' xe'
def qYes:VTT:=λ ds Q _=>Q true ds
theorem Eo{c:Vc}{X:Cx}:VF c X [] qYes:=⟨λ D6 s σ H Q I ⟨F,ds,A,xe,S,x,q⟩=>qay5 D6 s σ H Q I (q H F A S Stp.refl),λ ds Q Q' xe xe' hQ _=>hQ _ _⟩
theorem Hx{c:Vc}{X:Cx}{e:Expr}{t:VTT}(h:VTe c X e t):VF c X [e] t:=⟨qaH6 h.h,h.m⟩
section
variable{F F':Addr->Prop}{H H':Hp}
theorem qU9:∀{src:List (Option Nat)}{σ gv:List (Option V)}{ds:Ds}{A:List Addr},Locs F H (σ++gv) ds A->(∀ j,some j∈src->j < σ.length) ->
   ∃ Ai Ao,Locs F H (Db σ src) (Bi src ds).1 Ai/\Locs F H (σ++gv) (Bi src ds).2 Ao/\∀ b,A.count b=Ai.count b+Ao.count b
 | [],σ,gv,ds,A,L,_=>⟨[],A,.nil,L,λ b=>by simp⟩
 | none::r,σ,gv,ds,A,L,h=>by
   obtain⟨Ai,Ao,q1,q2,q3⟩:=qU9 (src:=r) L λ j hj=>h j (zA6 _ hj)
   exact⟨Ai,Ao,.no q1,q2,q3⟩
 | some j::r,σ,gv,ds,A,L,h=>by
   have hj:=h j zA9;have hl:=L.len;rw[zA7] at hl;obtain⟨dj,hds⟩:∃ d,ds[j]? = some d:=⟨_,List.getElem?_eq_getElem (by lia)⟩
   obtain⟨σ1,o,σ2,ds1,ds2,A1,B,A2,e1,e2,e3,e4,e5,l1,l2,l3⟩:=L.split hds;have ho:(σ++gv)[j]? = some o:=by rw[e1];exact qy4 e3
   rw[zAt hj] at ho;have e6:ds.set j .unk=ds1++.unk::ds2:=by
     have:=congrArg (λ l=>l.set j .unk) e2
     rw[this,qm0 e4]
   have L':Locs F H (σ++gv) (ds.set j .unk) (A1++A2):=by
     rw[e1,e6];cases l2 with
     | no=>exact l1.append (.no l3)
     | @so v _ _ _=>exact l1.append (.so (B:=[]) (.unk v) l3)
   obtain⟨Ai,Ao,q1,q2,q3⟩:=qU9 (src:=r) L' λ j hj=>h j (zA6 _ hj)
   refine⟨B++Ai,Ao,?_,q2,λ b=>by rw[e5];have:=q3 b;simp only[zA0] at *;lia⟩;show Locs F H (((σ[j]?).getD none)::Db σ r) ((ds[j]?).getD .unk::_) _;rw[ho,hds];exact Locs.cons l2 q1
theorem qE7:∀{src:List (Option Nat)}{σ gv σ':List (Option V)}{ι o:Ds}{Ai Ao:List Addr},Locs F H σ' ι Ai->Locs F H (σ++gv) o Ao->(∀ j,some j∈src->j < σ.length)->(∀(i j:Nat),src[i]? = some (some j)->σ'[i]? = some ((σ[j]?).getD none))->σ'.length=src.length ->
   ∃ A',Locs F H (σ++gv) (Ea src ι o) A'/\∀ b,A'.count b<=Ai.count b+Ao.count b
 | [],σ,gv,σ',ι,o,Ai,Ao,L,Lo,_,_,_=>⟨Ao,by cases ι<;>exact Lo,λ b=>by lia⟩
 | none::r,σ,gv,σ',ι,o,Ai,Ao,L,Lo,h,ag,hl=>by
   cases L with
   | nil=>simp at hl
   | no L2 =>
     obtain⟨A',q1,q2⟩:=qE7 (src:=r) L2 Lo (λ j hj=>h j (zA6 _ hj)) (λ i j e=>by simpa using ag (i+1) j (by simpa using e)) (by simpa using hl);exact⟨A',q1,q2⟩
   | so r1 L2 =>
     obtain⟨A',q1,q2⟩:=qE7 (src:=r) L2 Lo (λ j hj=>h j (zA6 _ hj)) (λ i j e=>by simpa using ag (i+1) j (by simpa using e)) (by simpa using hl);exact⟨A',q1,λ b=>by rw[zA0];have:=q2 b;lia⟩
 | some j::r,σ,gv,σ',ι,o,Ai,Ao,L,Lo,h,ag,hl=>by
   have hj:=h j zA9;have hlo:=Lo.len;rw[zA7] at hlo;obtain⟨oj,hoj⟩:∃ d,o[j]? = some d:=⟨_,List.getElem?_eq_getElem (by lia)⟩
   obtain⟨σ1,ov,σ2,ds1,ds2,A1,B,A2,e1,e2,e3,e4,e5,l1,l2,l3⟩:=Lo.split hoj;have ho:(σ++gv)[j]? = some ov:=by rw[e1];exact qy4 e3
   rw[zAt hj] at ho;have h0:=ag 0 j rfl;rw[ho] at h0;have e6:∀ d,o.set j d=ds1++d::ds2:=λ d=>by
     have:=congrArg (λ l=>l.set j d) e2
     rw[this,qm0 e4]
   cases L with
   | nil=>simp at hl
   | no L2 =>
     have:ov=none:=by simpa using h0.symm
     subst this;have Lo':Locs F H (σ++gv) (o.set j .unk) (A1++A2):=by rw[e1,e6];exact l1.append (.no l3)
     obtain⟨A',q1,q2⟩:=qE7 (src:=r) L2 Lo' (λ j hj=>h j (zA6 _ hj)) (λ i j e=>by simpa using ag (i+1) j (by simpa using e)) (by simpa using hl);exact⟨A',q1,λ b=>by rw[e5];have:=q2 b;simp only[zA0] at *;lia⟩
   | @so v d Bv _ _ _ r1 L2 =>
     have:ov=some v:=by simpa using h0.symm
     subst this;have Lo':Locs F H (σ++gv) (o.set j d) (A1++(Bv++A2)):=by rw[e1,e6];exact l1.append (.so r1 l3)
     obtain⟨A',q1,q2⟩:=qE7 (src:=r) L2 Lo' (λ j hj=>h j (zA6 _ hj)) (λ i j e=>by simpa using ag (i+1) j (by simpa using e)) (by simpa using hl);exact⟨A',q1,λ b=>by rw[e5];have:=q2 b;simp only[zA0] at *;lia⟩
theorem qap6(σ:St)(src:List (Option Nat)):(Db σ src).length=src.length:=by simp[Db]
theorem qap7{σ:St}{src:List (Option Nat)}(h:src[i]? = some (some j)):(Db σ src)[i]? = some ((σ[j]?).getD none):=by
 unfold Db;rw[zB8,h];rfl
structure Hy(Pp:(Addr->Prop)->Hp->Prop)(T:List Addr):Prop where
 keep:∀{F F':Addr->Prop}{H H':Hp}{W:Addr->Prop},Kp F H W F' H'->(∀ b∈T,¬ W b)->Pp F H->Pp F' H'
 cells:∀{F:Addr->Prop}{H:Hp},Pp F H->∀ b∈T,∃ o,H b=some o/\Dv o=true
end
section
variable{c:Vc}{F F':Addr->Prop}{H H':Hp}{Pp:(Addr->Prop)->Hp->Prop}{τ:List (Option V)}{o:Ds}{Dd:Addr}{acc:Ds}{T A A' Tv:List Addr}{σ:St}{ds:Ds}
def Tot(B T Ao A:List Addr):List Addr:=B++(T++(Ao++A))
theorem qr2(st:Hy Pp T){B:List Addr}(r:Rep F H (.ref Dd) (.lst false acc) B)(hp:Pp F H)(L:Locs F H τ o Ao)(ok:Ok F H (Tot B T Ao A))(S:Sta c F H σ ds A)(s:Stp F H A F' H' A')(o':Ok F' H' A') :
   Rep F' H' (.ref Dd) (.lst false acc) B/\Pp F' H'/\Locs F' H' τ o Ao/\Ok F' H' (Tot B T Ao A')/\Stp F H (Tot B T Ao A) F' H' (Tot B T Ao A'):=by
 unfold Tot at *
 have kp:=s.kp S.ok S.loc.cells;have hc:∀ b,(B++(T++(Ao++A))).count b=((B++(T++Ao))++A).count b:=λ b=>by simp only[zA0];lia
 have hout:∀ b,b∈B∨b∈T∨b∈Ao->¬ (A.count b≠0):=λ b hb hcn=>by
   have:=ok.sep b
   simp only[zA0] at this;rcases hb with hb | hb | hb<;>have:=qa8.mp hb<;>lia
 have cT:∀ b∈B++(T++Ao),∃ o,H b=some o/\Dv o=true:=λ b hb=>by
   rcases zAb.mp hb with hb | hb
   . exact r.cells b hb
   rcases zAb.mp hb with hb | hb
   . exact st.cells hp b hb
   exact L.cells b hb
 obtain⟨o2,s2⟩:=s.frame (T:=B++(T++Ao)) (ok.count λ b=>by rw[hc];exact zA2 _) cT o';have hc':∀ b,(B++(T++(Ao++A'))).count b=((B++(T++Ao))++A').count b:=λ b=>by simp only[zA0];lia
 exact⟨r.keep kp λ b hb=>hout b (.inl hb),st.keep kp (λ b hb=>hout b (.inr (.inl hb))) hp,L.keep kp λ b hb=>hout b (.inr (.inr hb)),o2.count λ b=>by rw[hc'];exact zA2 _,(s2.pre λ b=>by rw[hc]).count λ b=>by rw[hc'];exact zA2 _⟩
theorem qaq6(st:Hy Pp T){B:List Addr}{d:D}(r:Rep F H (.ref Dd) (.lst false acc) B)(hp:Pp F H)(L:Locs F H τ o Ao)(S:Sta c F H σ ds A)(rv:Rep F H v d Tv)(ok:Ok F H (Tot B T Ao (Tv++A))) :
   ∃ vs B',H Dd=some (.lst vs)/\vs.length=acc.length/\Rep F (upd H Dd (.lst (vs++[v]))) (.ref Dd) (.lst false (acc++[d])) B'/\Pp F (upd H Dd (.lst (vs++[v])))/\Locs F (upd H Dd (.lst (vs++[v]))) τ o Ao/\Sta c F (upd H Dd (.lst (vs++[v]))) σ ds A/\Ok F (upd H Dd (.lst (vs++[v]))) (Tot B' T Ao A)/\Stp F H (Tot B T Ao (Tv++A)) F (upd H Dd (.lst (vs++[v]))) (Tot B' T Ao A):=by
 unfold Tot at *
 obtain⟨a,vs,Ael,ea,ha,rs,rfl⟩:=qJ5 r;cases ea;have hs:=ok.sep Dd;simp only[zA0,zAl,zBm,if_true] at hs;have hf:¬ F Dd:=λ f=>by have:=ok.fro Dd f;simp only[zA0,zAl,zBm,if_true] at this;lia
 have k:=qG1 (F:=F) (o':=.lst (vs++[v])) ha rfl hf;have no:∀ X:List Addr,X.count Dd=0->∀ b∈X,¬ b=Dd:=λ X hx b hb w=>by subst w;exact(qa8.mp hb) hx
 have hcnt:∀ b,(Dd::(Ael++(Tv++[]))++(T++(Ao++A))).count b<=(Dd::Ael++(T++(Ao++(Tv++A)))).count b:=λ b=>by simp only[zA0,zAl,List.count_nil];lia
 have ex:∀ b,F b->∃ o,upd H Dd (.lst (vs++[v])) b=some o:=λ b f=>by
   obtain⟨x,e⟩:=ok.ex b f;exact⟨x,by rw[qc7 (show b≠Dd from λ w=>hf (w ▸ f))];exact e⟩
 refine⟨vs,Dd::(Ael++(Tv++[])),ha,rs.len,?_,st.keep k (no T (by lia)) hp,L.keep k (no Ao (by lia)),⟨S.loc.keep k (no A (by lia)),⟨S.ok.sep,S.ok.fro,ex⟩,S.len,S.ag⟩,⟨λ b=>zAn (hcnt b) (ok.sep b),λ b f=>by have:=ok.fro b f;have:=hcnt b;lia,ex⟩,λ b u e z=>?_,λ b u e z=>by have:=hcnt b;lia,λ _ f=>f,λ _ _ _ _ f=>f⟩
 . exact .lst qb8 ((rs.append (.cons rv .nil)).keep k (no _ (by simp only[zA0,List.count_nil];lia)))
 rw[qc7 λ w=>?_]
 . exact e
 subst w;simp only[zA0,zAl,zBm,if_true] at z;lia
end
def qq9(src:List (Option Nat))(g:VTG):TG:=λ v σ H Q=>∃ av,Ez (cIn src av) g v σ H Q
def qq8(src:List (Option Nat))(q:VTT):TT:=λ σ H Q=>∃ av,Dg (cIn src av) q σ H Q
def Bw(src:List (Option Nat))(t:VT):TE:=λ σ H Q=>∃ av,Bd (cIn src av) t σ H Q
structure Blk(X:Cx)(NY:List Str)(sc:Scope)(src:List (Option Nat))(tg:Expr)(ifs:List Expr)(elt:Expr)(g:VTG)(qf:VTT)(te:VT):Prop where
 g:∀ av C s0 H0 ex,VG (cIn src av) (qh1 X NY sc C s0 H0 ex) tg g
 f:∀ av C s0 H0 ex,VF (cIn src av) (qh1 X NY sc C s0 H0 ex) ifs qf
 e:∀ av C s0 H0 ex,VE (cIn src av) (qh1 X NY sc C s0 H0 ex) elt te
 lt:∀ D6 σ H s,Inv X D6 σ H s->∀ j,some j∈src->j < σ.length
section
variable{c:Vc}{X:Cx}{NY:List Str}{sc:Scope}{src:List (Option Nat)}{tg elt e:Expr}{ifs:List Expr}{g:VTG}{qf:VTT}{te:VT}
theorem Blk.pg(b:Blk X NY sc src tg ifs elt g qf te):∀ C s0 H0 ex,PG (qh1 X NY sc C s0 H0 ex) tg (qq9 src g):=λ C s0 H0 ex D6 s σ H v u Q I r ⟨av,q⟩=>(b.g av C s0 H0 ex).h D6 s σ H v u Q I r q
theorem Blk.pf(b:Blk X NY sc src tg ifs elt g qf te):∀ C s0 H0 ex,PFs (qh1 X NY sc C s0 H0 ex) ifs (qq8 src qf):=λ C s0 H0 ex D6 s σ H Q I ⟨av,q⟩=>(b.f av C s0 H0 ex).h D6 s σ H Q I q
theorem Blk.pe(b:Blk X NY sc src tg ifs elt g qf te):∀ C s0 H0 ex,PE (qh1 X NY sc C s0 H0 ex) elt (Bw src te):=λ C s0 H0 ex D6 s σ H Q I ⟨av,q⟩=>(b.e av C s0 H0 ex).h D6 s σ H Q I q
theorem Blk.gm(b:Blk X NY sc src tg ifs elt g qf te):∀ d ds (Q Q':Ds->Prop),(∀ ds',Q ds'->Q' ds')->g d ds Q->g d ds Q':=(b.g [] 0 {} (λ _=>none) []).m
theorem Blk.fm(b:Blk X NY sc src tg ifs elt g qf te):∀ ds (Q Q':Bool->Ds->Prop) (xe xe':XKd),(∀ d ds',Q d ds'->Q' d ds')->(∀ x ds',xe x ds'->xe' x ds')->qf ds Q xe->qf ds Q' xe':=(b.f [] 0 {} (λ _=>none) []).m
theorem Blk.em(b:Blk X NY sc src tg ifs elt g qf te):∀ ds (Q Q':DK) (xe xe':XKd),(∀ d ds',Q d ds'->Q' d ds')->(∀ x ds',xe x ds'->xe' x ds')->te ds Q xe->te ds Q' xe':=(b.e [] 0 {} (λ _=>none) []).m
theorem qj4(b:Blk X NY sc src tg ifs elt g qf te){K K':Ds->Ds->Prop}(h:∀ acc ι,K acc ι->K' acc ι):∀(xs:List D) acc ι,Eg g qf te K xs acc ι->Eg g qf te K' xs acc ι
 | [],acc,ι=>h acc ι
 | x::xs,acc,ι=>b.gm _ _ _ _ λ ι1=>b.fm _ _ _ _ _ (λ k ι2=>qE5 (b.em _ _ _ _ _ (λ d ι3=>And.imp_right (qj4 b h xs _ _)) λ _ _ z=>z) (qj4 b h xs _ _)) λ _ _ z=>z
variable{F F0:Addr->Prop}{H H0:Hp}{Pp:(Addr->Prop)->Hp->Prop}{τ:List (Option V)}{o0:Ds}{Dd:Addr}{acc:Ds}{T A A0:List Addr}{σ:St}{ds ι:Ds}{av:List (Option V)}{K:Ds->Ds->Prop}
def Mid(src:List (Option Nat))(av:List (Option V))(Pp:(Addr->Prop)->Hp->Prop)(T:List Addr)(τ:List (Option V))(o0:Ds)(Dd:Addr)(F0:Addr->Prop)(H0:Hp)(A0:List Addr)(g:VTG)(qf:VTT)(te:VT)(K:Ds->Ds->Prop)(xs:List D)(σ:St)(H:Hp):Prop :=
 ∃ F ι A acc B Ao,Sta (cIn src av) F H σ ι A/\Rep F H (.ref Dd) (.lst false acc) B/\Pp F H/\Locs F H τ o0 Ao/\Ok F H (Tot B T Ao A)/\Stp F0 H0 A0 F H (Tot B T Ao A)/\Eg g qf te K xs acc ι
theorem qP5(b:Blk X NY sc src tg ifs elt g qf te)(st:Hy Pp T){B:List Addr}{x:V}{y:D}{xs:List D}(S:Sta (cIn src av) F H σ ι A)(r:Rep F H (.ref Dd) (.lst false acc) B)(hp:Pp F H)(L:Locs F H τ o0 Ao)(ok:Ok F H (Tot B T Ao A))(s0:Stp F0 H0 A0 F H (Tot B T Ao A))(ry:Rep F H x y [])(q:Eg g qf te K (y::xs) acc ι) :
   qq9 src g x σ H λ σ2 H2=>qq8 src qf σ2 H2 λ okk H3=>if okk=true then Bw src te σ2 H3 λ v H4=>∃ ys,H4 Dd=some (.lst ys)/\ys.length < sizeLine/\Mid src av Pp T τ o0 Dd F0 H0 A0 g qf te K xs σ2 (upd H4 Dd (.lst (ys++[v]))) else Mid src av Pp T τ o0 Dd F0 H0 A0 g qf te K xs σ2 H3:=by
 have noX:∀(F:Addr->Prop)(H:Hp)(A:List Addr),Xc (cIn src av) (λ _ _=>False) F H A:=λ F H A x ds' σ' e H' F' A' z=>z.elim
 refine⟨av,F,ι,A,[],y,ry,S,S.ok,b.gm _ _ _ _ (λ ι1 q σ1 H1 F1 A1 S1 s1=>?_) q⟩;obtain⟨r1,hp1,L1,ok1,t1⟩:=qr2 st r hp L ok S (show Stp F H A F1 H1 A1 from s1) S1.ok;refine⟨av,F1,ι1,A1,_,S1,noX _ _ _,b.fm _ _ _ _ _ (λ k ι2 q H2 F2 A2 S2 s2=>?_) (λ _ _ z=>z) q⟩;obtain⟨r2,hp2,L2,ok2,t2⟩:=qr2 st r1 hp1 L1 ok1 S1 s2 S2.ok;cases k with
 | false =>
   rw[if_neg (by decide)] at q ⊢;exact⟨F2,ι2,A2,acc,B,Ao,S2,r2,hp2,L2,ok2,(s0.trans t1).trans t2,q⟩
 | true =>
   rw[if_pos rfl] at q ⊢;refine⟨av,F2,ι2,A2,_,S2,noX _ _ _,b.em _ _ _ _ _ (λ d ι3 q v H3 F3 Tv A3 rv S3 o3 s3=>?_) (λ _ _ z=>z) q⟩;obtain⟨r3,hp3,L3,ok3,t3⟩:=qr2 st r2 hp2 L2 ok2 S2 s3 o3;obtain⟨vs,B',e1,e2,r4,hp4,L4,S4,ok4,t4⟩:=qaq6 st r3 hp3 L3 S3 rv ok3;exact⟨vs,e1,by rw[e2];exact zAg q.1 qg8,F3,ι3,A3,acc++[d],B',Ao,S4,r4,hp4,L4,ok4,((s0.trans t1).trans t2).trans (t3.trans t4),q.2⟩
theorem qL1{xs:List D}(hlt:∀ j,some j∈src->j < σ.length)(S:Sta c F H σ ds A)(ok:Ok F H (T++A))(hp:Pp F H)(st:Hy Pp T)(hD:H Dd=none)(q:Eg g qf te K xs [] (Bi src ds).1) :
   Mid src (Db σ src) Pp T (σ++c.gv) (Bi src ds).2 Dd F H (T++A) g qf te K xs (Db σ src) (upd H Dd (.lst [])):=by
 obtain⟨Ai,Ao,q1,q2,q3⟩:=qU9 S.loc hlt;have sm:=Same.new (u:=.lst []) hD;have kp:=Kp.same (F:=F) sm;have okN:Ok F (upd H Dd (.lst [])) ([Dd]++(T++A)):=(qf2 hD).ok ok (λ b hb=>by
   rcases zAb.mp hb with hb | hb
   . exact st.cells hp b hb
   exact S.loc.cells b hb) sm
 have hc:∀ b,(Tot [Dd] T Ao Ai).count b=([Dd]++(T++A)).count b:=λ b=>by unfold Tot;simp only[zA0,q3];lia
 have okT:Ok F (upd H Dd (.lst [])) (Tot [Dd] T Ao Ai):=okN.count λ b=>by rw[hc];exact zA2 _
 have okI:Ok F (upd H Dd (.lst [])) Ai:=okT.count λ b=>by unfold Tot;simp only[zA0];lia
 refine⟨F,_,Ai,[],[Dd],Ao,⟨by rw[zAd];exact q1.same sm,okI,by simp,λ i _=>by simp⟩,.lst qb8 .nil,st.keep kp (λ _ _=>id) hp,q2.same sm,okT,((qf2 hD).stp sm).count λ b=>by rw[hc];exact zA2 _,q⟩
theorem qL2{H':Hp}{Fz:Addr->Prop}{Hz:Hp}{Az:List Addr}(hlt:∀ j,some j∈src->j < σ.length)(S:Sta c Fz Hz σ ds Az)(m:Mid src (Db σ src) Pp T (σ++c.gv) o0 Dd F0 H0 A0 g qf te (λ acc ι'=>∀ v H' F' B A',Rep F' H' v (.lst false acc) B->Sta c F' H' σ (Ea src ι' o0) A'->Pp F' H'->Ok F' H' (B++(T++A'))->Stp F0 H0 A0 F' H' (B++(T++A'))->Q v H') [] σ' H'):Q (.ref Dd) H':=by
 obtain⟨F,ι,A,acc,B,Ao,S1,r,hp,L,ok,s,q⟩:=m;have hl1:=S1.len;simp only[zAd] at hl1;obtain⟨A',k1,k2⟩:=qE7 (src:=src) (by have:=S1.loc;simpa using this) L hlt (λ i j e=>by
   have:=S1.ag i (by show capW src i=true;unfold capW;rw[e])
   simp only[zAd] at this;rw[this];exact qap7 e) (by rw[<- hl1,qap6])
 have hc:∀ b,(B++(T++A')).count b<=(Tot B T Ao A).count b:=λ b=>by unfold Tot;simp only[zA0];have:=k2 b;lia
 have o1:=ok.count hc;exact q (.ref Dd) H' F B A' r ⟨k1,o1.right.right,S.len,S.ag⟩ hp o1 (s.count hc)
theorem qn3{a:Addr}{ys:Ds}{T:List Addr}:Hy (λ F H=>Rep F H (.ref a) (.lst z ys) T/\H a=some (.lst vs)) T where
 keep:=λ{F F' H H' W} k h p=>by
   refine⟨p.1.keep k h,?_⟩;cases p.1 with
   | lst _ _=>exact k.fr _ _ p.2 (h _ zA9)
   | lstZ _ f _=>exact k.fr _ _ p.2 λ w=>k.wf _ w f
 cells:=λ p=>p.1.cells
theorem qaD1{a:Addr}{ys:Ds}{T:List Addr}{x:V}(r:Rep F H (.ref a) (.lst z ys) T)(h:H a=some (.lst vs))(hm:D.imms ys=true)(hx:vs[i]? = some x):∃ y,ys[i]? = some y/\Rep F H x y []:=by
 obtain⟨a',vs',Ael',ea,ha',rs',_⟩:=r.lst_inv;cases ea;rw[h] at ha';cases ha';obtain⟨y,B,hy,ry⟩:=rs'.getV hx
 have:=ry.imm (qB5 hm hy)
 subst this;exact⟨y,hy,ry⟩
theorem qaC1{a:Addr}{ys:Ds}{T:List Addr}(r:Rep F H (.ref a) (.lst z ys) T)(h:H a=some (.lst vs)):vs.length=ys.length:=by
 obtain⟨a',vs',Ael',ea,ha',rs',_⟩:=r.lst_inv;cases ea;rw[h] at ha';cases ha';exact rs'.len
theorem qG3{K':PySem.W.Frag}{a:Addr}{ys:Ds}{Q:Hp->Prop}(b:Blk X NY sc src tg ifs elt g qf te)(hm:D.imms ys=true)(m:Mid src av (λ F H=>Rep F H (.ref a) (.lst z ys) T/\H a=some (.lst vs)) T τ o0 Dd F0 H0 A0 g qf te K ys σ' H)(hQ:∀ σ2 H2,Mid src av (λ F H=>Rep F H (.ref a) (.lst z ys) T/\H a=some (.lst vs)) T τ o0 Dd F0 H0 A0 g qf te K [] σ2 H2->Q H2):qC6 (Itl K' a) (qq9 src g) (qq8 src qf) (Bw src te) Dd Q σ' H:=by
 obtain⟨_,_,_,_,_,_,_,_,hp0,_⟩:=id m;have hlen:=qaC1 hp0.1 hp0.2;refine qP6 (xs:=vs) (λ i σ H=>Mid src av (λ F H=>Rep F H (.ref a) (.lst z ys) T/\H a=some (.lst vs)) T τ o0 Dd F0 H0 A0 g qf te K (ys.drop i) σ H) m ?_ ?_ ?_
 . rintro i σ H _ ⟨_,_,_,_,_,_,_,_,hp,_⟩
   exact .inl (.inl hp.2)
 . rintro i x σ H hx ⟨F,ι,A,acc,B,Ao,S1,r,hp,L,ok,s,q⟩
   obtain⟨y,hy,ry⟩:=qaD1 hp.1 hp.2 hm hx;rw[qn2 hy] at q;exact qP5 b qn3 S1 r hp L ok s ry q
 intro σ H m;rw[hlen,List.drop_length] at m;exact hQ _ _ m
theorem qac6{K':PySem.W.Frag}{a:Addr}{ys:Ds}{Q:Hp->Prop}(b:Blk X NY sc src tg ifs elt g qf te)(hm:D.imms ys=true)(m:Mid src av (λ F H=>Rep F H (.ref a) (.lst z ys) T/\H a=some (.lst vs)) T τ o0 Dd F0 H0 A0 g qf te K (enD ys) σ' H)(hQ:∀ σ2 H2,Mid src av (λ F H=>Rep F H (.ref a) (.lst z ys) T/\H a=some (.lst vs)) T τ o0 Dd F0 H0 A0 g qf te K [] σ2 H2->Q H2):qC6 (Ite K' a) (qq9 src g) (qq8 src qf) (Bw src te) Dd Q σ' H:=by
 obtain⟨_,_,_,_,_,_,_,_,hp0,_⟩:=id m;have hlen:=qaC1 hp0.1 hp0.2;refine qah8 (xs:=vs) (λ i σ H=>Mid src av (λ F H=>Rep F H (.ref a) (.lst z ys) T/\H a=some (.lst vs)) T τ o0 Dd F0 H0 A0 g qf te K ((enD ys).drop i) σ H) m ?_ ?_ ?_
 . rintro i σ H _ ⟨_,_,_,_,_,_,_,_,hp,_⟩
   exact .inl (.inl hp.2)
 . rintro i x σ H tt hx ⟨F,ι,A,acc,B,Ao,S1,r,hp,L,ok,s,q⟩ htt
   obtain⟨y,hy,ry⟩:=qaD1 hp.1 hp.2 hm hx;rw[qn2 (qaM4 hy)] at q;have sm:=Same.new (u:=.tup [.int (i:Int),x]) htt;have ry2:Rep F (upd H tt (.tup [.int (i:Int),x])) (.ref tt) (.tup [.int (i:Int),y]) []:=qX7 htt (.cons (A:=[]) (B:=[]) (.int _) (.cons (A:=[]) (B:=[]) ry .nil));obtain⟨r1,hp1,L1,ok1,t1⟩:=qr2 qn3 r hp L ok S1 (Stp.same sm) (S1.ok.same sm);exact qP5 b qn3 (S1.same sm) r1 hp1 L1 ok1 (s.trans t1) ry2 q
 intro σ H m;rw[List.drop_of_length_le (by rw[qaM3,hlen];exact zA2 _)] at m;exact hQ _ _ m
end
def Imp(c:Vc)(X:Cx)(t:VT)(tc:TE):Prop:=∀ D6 s σ H Q,Inv X D6 σ H s->Bd c t σ H Q->tc σ H Q
def Ft(t:VT):Prop:=∀ ds (Q Q':DK) (xe xe':XKd),(∀ d ds',Q d ds'->Q' d ds')->(∀ x ds',xe x ds'->xe' x ds')->t ds Q xe->t ds Q' xe'
section
variable{c:Vc}{X:Cx}{NY:List Str}{sc:Scope}{src:List (Option Nat)}{tg elt e o:Expr}{ifs:List Expr}{g:VTG}{qf:VTT}{te t0:VT}{pf:PF}
theorem qac7{tc:TE}{t:VT}(h:PE X e tc)(i:Imp c X t tc)(m:Ft t):VE c X e t:=⟨λ D6 s σ H Q I q=>h D6 s σ H Q I (i D6 s σ H Q I q),m⟩
theorem qaF8{tc:TE}{t:VT}{x:Str}{px spos:Pos}(h:PS X (.Assign [.Name x px] e spos) (Gs tc (Ei i)))(im:Imp c X t tc)(m:Ft t)(hW:c.W i=false)(hi:X.N[i]? = some x):VS c X (.Assign [.Name x px] e spos) (Dw t (gNm i)):=by
 refine⟨λ D6 s σ H E I q=>h D6 s σ H E I (im D6 s σ H _ I ?_),λ en en' ds hl=>m _ _ _ _ _ (λ d ds'=>hl.nx _) hl.xe⟩;obtain⟨F,ds,A,en,S,l,q⟩:=q;refine⟨F,ds,A,en.xe,S,l.xe,m _ _ _ _ _ (λ d ds' q v H' F' T A' r S' o s0=>?_) (λ _ _ z=>z) q⟩;obtain⟨A2,S2,s2⟩:=S'.store hW (qm7 hi D6 σ H s I) r o;exact l.nx _ _ H' F' A2 q S2 (s0.trans s2)
def Ia(src:List (Option Nat))(g:VTG)(qf:VTT)(te:VT)(ys:List D):Ds->DK->Prop:=λ ds1 Q=>Eg g qf te (λ acc ι'=>Q (.lst false acc) (Ea src ι' (Bi src ds1).2)) ys [] (Bi src ds1).1
theorem qV1(b:Blk X NY sc src tg ifs elt g qf te){ys:List D}{ds1:Ds}{Q Q':DK}(h:∀ d ds',Q d ds'->Q' d ds'):Ia src g qf te ys ds1 Q->Ia src g qf te ys ds1 Q':=qj4 b (λ acc ι=>h _ _) _ _ _
def tCL(src:List (Option Nat))(t0:VT)(g:VTG)(qf:VTT)(te:VT):VT:=λ ds Q xe=>t0 ds (λ d ds1=>orF d.lstOf λ ys=>D.imms ys=true/\Ia src g qf te ys ds1 Q) xe
theorem qao0(b:Blk X NY sc src tg ifs elt g qf te)(hi:VE c X e t0):Ft (tCL src t0 g qf te):=λ ds Q Q' xe xe' hQ hx=>hi.m _ _ _ _ _ (λ d ds1=>qa4 λ ys=>And.imp_right (qV1 b hQ)) hx
theorem qaL5{K:PySem.W.Frag}(b:Blk X NY sc src tg ifs elt g qf te)(hi:VE c X e t0):Imp c X (tCL src t0 g qf te) (D7 (Ga K (Bd c t0)) src (qq9 src g) (qq8 src qf) (Bw src te)):=by
 rintro D6 s σ H Q I ⟨F,ds,A,xe,S,x,q⟩;have hlt:=b.lt D6 σ H s I;refine⟨F,ds,A,xe,S,x,hi.m _ _ _ _ _ (λ d ds1 q v H1 F1 T A1 r1 S1 o1 s1=>?_) (λ _ _ z=>z) q⟩;obtain⟨ys,ey,hm,qf'⟩:=qa6.mp q;obtain⟨z,rfl⟩:=qt9 ey;obtain⟨a,vs,Ael,rfl,ha,rs,_⟩:=r1.lst_inv;refine⟨a,rfl,⟨vs,.inl (.inl ha)⟩,λ Dd hD=>qG3 b hm (qL1 hlt S1 o1 ⟨r1,ha⟩ qn3 hD (qj4 b (λ acc ι q v H' F' B A' r S' _ ok s=>q v H' F' B A' r S' (ok.count λ b=>by simp only[zA0];lia) ((s1.trans s).count λ b=>by simp only[zA0];lia)) _ _ _ qf')) λ σ2 H2 m=>qL2 hlt S1 m⟩
def tCPx(en:Ds->List D)(src:List (Option Nat))(pf:PF)(g:VTG)(qf:VTT)(te:VT):VT:=λ ds Q xe=>orF (pf ds) λ q=>orF (A6 ds q.1 q.2) λ d=>orF d.lstOf λ ys=>D.imms ys=true/\∀ w,Eg g qf te (λ acc ι'=>orF (bk1 q.1 q.2 w d (Ea src ι' (Bi src (Bf ds q.1 q.2 (.hole w))).2)) λ ds2=>Q (.lst false acc) ds2) (en ys) [] (Bi src (Bf ds q.1 q.2 (.hole w))).1
theorem qad0{en:Ds->List D}(b:Blk X NY sc src tg ifs elt g qf te):Ft (tCPx en src pf g qf te):=λ ds Q Q' xe xe' hQ hx=>qa4 λ q=>qa4 λ d=>qa4 λ ys=>And.imp_right λ h w=>qj4 b (λ acc ι=>qa4 λ z=>hQ _ _) _ _ _ (h w)
theorem qaE4{K:PySem.W.Frag}{en:Ds->List D}{wi:TI}{J:Addr->It}(b:Blk X NY sc src tg ifs elt g qf te)(hw:∀{a:Addr}{vs:List V}{z:Bool}{ys:Ds}{T:List Addr}{τ:List (Option V)}{o0:Ds}{Dd:Addr}{F0:Addr->Prop}{H0 H:Hp}{A0:List Addr}{K0:Ds->Ds->Prop}{av:List (Option V)}{Q:Hp->Prop}{σ':St},D.imms ys=true->Mid src av (λ F H=>Rep F H (.ref a) (.lst z ys) T/\H a=some (.lst vs)) T τ o0 Dd F0 H0 A0 g qf te K0 (en ys) σ' H ->
     (∀ σ2 H2,Mid src av (λ F H=>Rep F H (.ref a) (.lst z ys) T/\H a=some (.lst vs)) T τ o0 Dd F0 H0 A0 g qf te K0 [] σ2 H2->Q H2)->qC6 (J a) (qq9 src g) (qq8 src qf) (Bw src te) Dd Q σ' H)(hwi:∀ σ H R,Gj c pf σ H (λ x H1=>∃ a,x=.ref a/\(∃ xs,SqL K H1 a xs)/\R (J a) H1)->wi σ H R):Imp c X (tCPx en src pf g qf te) (D7 wi src (qq9 src g) (qq8 src qf) (Bw src te)):=by
 rintro D6 s σ H Q I ⟨F,ds,A,xe,S,x,q⟩;have hlt:=b.lt D6 σ H s I;refine hwi σ H _ ?_;obtain⟨⟨i,p⟩,e1,q⟩:=qa6.mp q;obtain⟨d,e2,q⟩:=qa6.mp q;obtain⟨ys,ey,hm,q⟩:=qa6.mp q;obtain⟨z,rfl⟩:=qt9 ey;refine⟨F,ds,A,i,p,_,S,e1,e2,D.noConfusion,λ u w H1 hu hwk s0=>?_⟩;obtain⟨B,C,r,h3,h4⟩:=(S.same s0).place e2 D.noConfusion hu hwk;obtain⟨A1,q1,q2⟩:=h4 (.hole w) [] (Kp.same (F:=F) λ _ _ z=>z) (λ _ _ z=>z) (.hole w);have o1:Ok F H1 (B++A1):=(S.same s0).ok.count λ b=>by rw[zA0,q2,h3];simp
 have s1:Stp F H A F H1 (B++A1):=⟨λ b o e _=>s0 b o e,λ b o e z=>by rw[zA0,q2];have:=h3 b;simp;lia,λ _ f=>f,λ _ _ _ _ f=>f⟩
 have S1:Sta c F H1 σ (Bf ds i p (.hole w)) A1:=⟨q1,o1.right,S.len,S.ag⟩
 obtain⟨a,vs,Ael,rfl,ha,rs,_⟩:=r.lst_inv;refine⟨a,rfl,⟨vs,.inl (.inl ha)⟩,λ Dd hD=>hw hm (qL1 hlt S1 o1 ⟨r,ha⟩ qn3 hD (qj4 b (λ acc ι q v H' F' B' A' rv S' hp ok s=>?_) _ _ _ (q (.ref a)))) λ σ2 H2 m=>qL2 hlt S1 m⟩;obtain⟨ds2,eb,q⟩:=qa6.mp q;obtain⟨A2,k1,k2⟩:=qq1 (pls:=[.pl i p (.ref a)]) (vs:=[.ref a]) (more:=[]) (ys:=[.lst z ys]) (.so .nil) (.cons hp.1 .nil) S'.loc eb;have hc:∀ b,(B'++A2).count b<=(B'++(B++A')).count b:=λ b=>by have:=k2 b;simp only[zAd,zA0] at *;lia
 exact q v H' F' B' A2 rv ⟨k1,(ok.count hc).right,S.len,S.ag⟩ (ok.count hc) ((s1.trans s).count hc)
theorem qaL4{K:PySem.W.Frag}(b:Blk X NY sc src tg ifs elt g qf te):Imp c X (tCPx (λ ys=>ys) src pf g qf te) (D7 (Ga K (Gj c pf)) src (qq9 src g) (qq8 src qf) (Bw src te)) :=
 qaE4 (K:=K) (J:=Itl K) b (λ hm m hQ=>qG3 b hm m hQ) λ σ H R h=>h
def capOk(X:Cx)(src:List (Option Nat)):Bool:=src.all λ o=>match o with | none=>true | some j=>decide (j < X.N.length)
theorem blk(hg:∀ av C s0 H0 ex,VG (cIn src av) (qh1 X NY sc C s0 H0 ex) tg g)(hf:∀ av C s0 H0 ex,VF (cIn src av) (qh1 X NY sc C s0 H0 ex) ifs qf)(he:∀ av C s0 H0 ex,VE (cIn src av) (qh1 X NY sc C s0 H0 ex) elt te)(hs:capOk X src=true:=by rfl):Blk X NY sc src tg ifs elt g qf te :=
 ⟨hg,hf,he,λ D6 σ H s I j hj=>by
   have:=zBe.mp hs _ hj
   rw[I.len];exact zAf this⟩
end
theorem ql3{X:Cx}{NY:List Str}{sc:Scope}{C:Addr}{s0:Shared}{H0:Hp}{ex:List Addr}{src:List (Option Nat)}{av:List (Option V)}:Lands (qh1 X NY sc C s0 H0 ex) (cIn src av).E:=λ _ _ _ _ _ _ _ _ _ z=>z.elim
section
variable{c:Vc}{X:Cx}{NY:List Str}{sc:Scope}{src:List (Option Nat)}{tg elt iter:Expr}{ifs:List Expr}{g:VTG}{qf:VTT}{te t0:VT}{pos:Pos}{pf:PF}{x:Str}
theorem ecL(hi:VE c X iter t0)(bl:Blk X NY sc src tg ifs elt g qf te)(hc:X.calm=true:=by rfl)(ck:qu8 X NY src sc=true:=by rfl)(hs:∀ x,foldedSetIterable iter X.env x=pure x:=by intro _;rfl):VE c X (.ListComp elt [⟨tg,iter,ifs,0⟩] sc pos) (tCL src t0 g qf te) :=
 qac7 (qD5 NY src (qt5 hi.h) bl.pg bl.pf bl.pe hc ck hs) (qaL5 bl hi) (qao0 bl hi)
theorem ecP(hi:VP c X iter pf)(bl:Blk X NY sc src tg ifs elt g qf te)(hc:X.calm=true:=by rfl)(ck:qu8 X NY src sc=true:=by rfl)(hs:∀ x,foldedSetIterable iter X.env x=pure x:=by intro _;rfl):VE c X (.ListComp elt [⟨tg,iter,ifs,0⟩] sc pos) (tCPx (λ ys=>ys) src pf g qf te) :=
 qac7 (qD5 NY src (qt5 hi.h) bl.pg bl.pf bl.pe hc ck hs) (qaL4 bl) (qad0 bl)
end
section
variable{c:Vc}{X:Cx}{es:List Expr}{tb:VTB}
def G5(tb:VTB):VTA:=λ ds Q xe=>tb ds (λ xs _ ds1=>Q xs ds1) xe
theorem Dx(h:VAs c X es tb):VOs c X es (G5 tb):=⟨PA.mono h.h λ σ H Q ⟨F,ds,A,xe,S,x,q⟩=>⟨F,ds,A,xe,S,x,h.m _ _ _ _ _ (λ xs ps ds1 q vs H' F' T A' r _ S' o s=>q vs H' F' T A' r S' (s.count λ b=>by rw[zA0];lia)) (λ _ _ z=>z) q⟩,λ ds Q Q' xe xe' hQ hx=>h.m _ _ _ _ _ (λ xs ps ds1=>hQ _ _) hx⟩
end
structure Bg(x y z:Int)(ns:List Int):Prop where
 x0:0<=x
 y0:0<=y
 y1:y < 2147483647
 z0:0<=z
 nn:∀ n∈ns,0<=n
def bagD(x y z:Int)(ns:List Int):D:=.lst false [.int x,.int y,.int z,.lst false (ns.map .int)]
def lawE:VEnds where
 nx _:=False
 rt d _:=d.asB=some true
 bk _:=False
 ct _:=False
 xe _ _:=False
theorem qag1{c:Vc}{X:Cx}{rest:List Stmt}{t:VTS}{H:Hp}{E:Dl}{p L:Addr}{x y z:Int}{ns:List Int}(hav:c.av.length=2+n)(hW:∀ i,c.W i=false)(hgv:c.gv=[])(hp:H p=some (.lst [.int x,.int y,.int z,.ref L]))(hL:H L=some (.lst (ns.map V.int)))(ne:L≠p)(hE:∀ H',E.rt (.bl true) H')(ht:t lawE (.hole w::bagD x y z ns::List.replicate n .unk)):El c t E (some w::some (.ref p)::List.replicate n none) H:=by
 have L0:Locs (λ _=>False) H (some w::some (.ref p)::List.replicate n none) (.hole w::bagD x y z ns::List.replicate n .unk) ([]++((p::([]++([]++([]++((L::[])++[])))))++[])) :=
   .so (.hole w) (.so (.lst hp (.cons (.int x) (.cons (.int y) (.cons (.int z) (.cons (.lst hL (qz8 ns)) .nil))))) (qA9 n))
 refine⟨λ _=>False,_,_,lawE,⟨by rw[hgv,zAd];exact L0,⟨λ b=>?_,λ b f=>f.elim,λ b f=>f.elim⟩,by rw[hgv,hav];simp;lia,λ i hi=>by rw[hW i] at hi;cases hi⟩,⟨λ _ _ _ _ _ z=>False.elim z,λ d ds' v σ' H' F' T A' q r _ _ _=>by rw[r.asB q];exact hE H',λ _ _ _ _ _ z=>False.elim z,λ _ _ _ _ _ z=>False.elim z,λ _ _ _ _ _ _ _ z=>False.elim z⟩,ht⟩;simp only[zAz,zAd,zAl,List.count_nil];by_cases h1:p=b
 . subst h1;simp[ne]
 by_cases h2:L=b
 . subst h2;simp[h1]
 simp[h1,h2]
section
variable{c:Vc}{b d e o:Expr}{oa ob oc:Bool}{fa fb fc:FV}
def f3(g g':D->D->Option D)(fa fb fc:FV):FV:=λ ds=>(fa ds).bind λ x=>(fb ds).bind λ y=>(g x y).bind λ z=>z.asB.bind λ k=>if k=true then (fc ds).bind λ u=>g' y u else some (.bl false)
theorem qau3{r r':R2}{g g':D->D->Option D}(h:Ay true r g)(h':Ay true r' g'):∀ σ H Q,liftV c true (f3 g g' fa fb fc) σ H Q->qav8 r r' (liftV c oa fa) (liftV c ob fb) (liftV c oc fc) σ H Q:=by
 rintro σ H Q ⟨F,ds,A,d,S,e,q⟩;obtain⟨x,e1,e⟩:=zA1.mp e;obtain⟨y,e2,e⟩:=zA1.mp e;obtain⟨z,e3,e⟩:=zA1.mp e;obtain⟨k,e4,e⟩:=zA1.mp e;refine⟨F,ds,A,x,S,e1,λ v H1 B1 r1 s1 n1=>⟨F,ds,A,y,S.same s1,e2,λ w H2 B2 r2 s2 n2=>?_⟩⟩;have s12:=s1.trans s2;refine h F H2 v w x y _ z _ (Et (r1.same s2) r2) e3 λ u H3 B3 r3 s3 h3=>⟨k,r3.asB e4,?_⟩
 have s13:=s12.trans s3;cases k with
 | false=>rw[if_neg (by decide)] at e ⊢;cases e;exact q _ H3 [] (.bl _) s13 λ _=>New.nil
 | true =>
   rw[if_pos rfl] at e ⊢;obtain⟨uu,e5,e6⟩:=zA1.mp e;refine⟨F,ds,A,uu,S.same s13,e5,λ w4 H4 B4 r4 s4 n4=>?_⟩;refine h' F H4 w w4 y uu _ d Q (Et ((r2.same s3).same s4) r4) e6 λ u5 H5 B5 r5 s5 h5=>q u5 H5 B5 r5 ((s13.trans s4).trans s5) λ _=>⟨h5.one,λ b o e=>h5.new b o (s4 b o (s13 b o e))⟩
end
section
variable{c:Vc}{X:Cx}{a b d e:Expr}{pos:Pos}{oa ob oc:Bool}{fa fb fc:FV}
theorem vch{op':CmpOp}{r r':R2}{g g':D->D->Option D}(ho:OpR X (compareOp op) r)(h:Ay true r g)(ho':OpR X (compareOp op') r')(h':Ay true r' g')(ha:VV c X a oa fa)(hb:VV c X b ob fb)(hc:VV c X d oc fc)(hm:lastMarks [op,op'] [b,d]=false:=by with_unfolding_all rfl) :
   VV c X (.Compare a [op,op'] [b,d] pos) true (f3 g g' fa fb fc):=⟨PE.mono (qaq3 ho ho' ha.h hb.h hc.h hm) (qau3 h h')⟩
def Go(x:D):Option D:=match x with
 | .lst _ ys=>(intsD ys).bind λ ns=>gd (ns.length<=1000) (.int (qj3 ns))
 | _=>none
theorem vlenS{p p2 cpos:Pos}(hml:X.mg "len" = none)(hms:X.mg "set" = none)(ha:VV c X a oa fa)(hgl:Gl X "len" := by rfl)(hgs:Gl X "set" := by rfl)(hc:X.calm=true:=by rfl)(he:starEach [a] X.env=(false,eval a X.env)::starEach [] X.env:=by rfl)(hpl:((backTo cpos (starEach [] X.env)).any λ x=>x.1)=false:=by rfl)(he2:starEach [.Call (.Name "set" p2) [a] [] cpos] X.env=(false,eval (.Call (.Name "set" p2) [a] [] cpos) X.env)::starEach [] X.env:=by rfl)(hpl2:((backTo pos (starEach [] X.env)).any λ x=>x.1)=false:=by rfl) :
   VV c X (.Call (.Name "len" p) [.Call (.Name "set" p2) [a] [] cpos] [] pos) true (f1 Go fa):=by
 refine⟨PE.mono (cbi qai2 hml (qg4 (cty (qai0 hc) hms (qg4 ha.h qA0 he) hgs (by rfl) (by decide) (by decide) he hpl) qA0 he2) hgl (by rfl) (by decide) (by decide) he2 hpl2) λ σ H Q ⟨F,ds,A,d,S,e,q⟩=>?_⟩;obtain⟨x,e1,e2⟩:=qat8.mp e;cases x with
 | lst z ys =>
   obtain⟨ns,e3,e4⟩:=zA1.mp e2;obtain⟨hl,rfl⟩:=qp1 e4;refine⟨F,ds,A,_,S,e1,λ v H1 B1 r1 s1 n1=>?_⟩;obtain⟨a,vs,A2,rfl,hs,rs,_⟩:=r1.lst_inv;cases rs.intsD e3;refine⟨a,ns,rfl,.inl (.inl hs),hl,λ p St hp=>⟨p,St,_,rfl,qb8,?_⟩⟩;exact q _ _ [] (.int _) (s1.trans (Same.new hp)) λ _=>New.nil
 | _=>cases e2
def Bk(f:Ds->Option D):VSp:=λ ds Q _=>orF (f ds) λ d=>Q d ds
theorem qr3{f:Ds->Option D}:Bp (Bk f):=λ ds Q Q' xe xe' hQ _=>qa4 λ d=>hQ d ds
def wOf(l:List Bool)(i:Nat):Bool:=l.getD i false
end
section
variable{c:Vc}{X:Cx}{NY:List Str}{sc:Scope}{src:List (Option Nat)}{tg elt e o a b:Expr}{ifs:List Expr}{g:VTG}{qf:VTT}{te:VT}{pos px spos p0:Pos}{x xn:Str}
def F6(en:Ds->List D)(src:List (Option Nat))(i:Nat)(g:VTG)(qf:VTT)(te:VT):VT:=λ ds Q xe=>orF (rdN i ds) λ d=>orF d.lstOf λ ys=>D.imms ys=true/\Eg g qf te (λ acc ι'=>Q (.lst false acc) ((Ea src ι' (Bi src (ds.set i .unk)).2).set i d)) (en ys) [] (Bi src (ds.set i .unk)).1
theorem qy7{en:Ds->List D}(bl:Blk X NY sc src tg ifs elt g qf te):Ft (F6 en src i g qf te):=λ ds Q Q' xe xe' hQ hx=>qa4 λ d=>qa4 λ ys=>And.imp_right (qj4 bl (λ acc ι=>hQ _ _) _ _ _)
theorem qam9{K:PySem.W.Frag}{en:Ds->List D}{wi:TI}{J:Addr->It}(bl:Blk X NY sc src tg ifs elt g qf te)(hN:X.N[i]? = some xn)(hw:∀{a:Addr}{vs:List V}{z:Bool}{ys:Ds}{T:List Addr}{τ:List (Option V)}{o0:Ds}{Dd:Addr}{F0:Addr->Prop}{H0 H:Hp}{A0:List Addr}{K0:Ds->Ds->Prop}{av:List (Option V)}{Q:Hp->Prop}{σ':St},D.imms ys=true->Mid src av (λ F H=>Rep F H (.ref a) (.lst z ys) T/\H a=some (.lst vs)) T τ o0 Dd F0 H0 A0 g qf te K0 (en ys) σ' H ->
     (∀ σ2 H2,Mid src av (λ F H=>Rep F H (.ref a) (.lst z ys) T/\H a=some (.lst vs)) T τ o0 Dd F0 H0 A0 g qf te K0 [] σ2 H2->Q H2)->qC6 (J a) (qq9 src g) (qq8 src qf) (Bw src te) Dd Q σ' H)(hwi:∀ σ H R,Er i σ H (λ x H1=>∃ a,x=.ref a/\(∃ xs,SqL K H1 a xs)/\R (J a) H1)->wi σ H R):Imp c X (F6 en src i g qf te) (D7 wi src (qq9 src g) (qq8 src qf) (Bw src te)):=by
 rintro D6 s σ H Q I ⟨F,ds,A,xe,S,x,q⟩;have hlt:=bl.lt D6 σ H s I;have hi:=qm7 hN D6 σ H s I;refine hwi σ H _ ?_;obtain⟨d,ed,q⟩:=qa6.mp q;obtain⟨ed,hk⟩:=qj0.mp ed;obtain⟨ys,ey,hm,q⟩:=qa6.mp q;obtain⟨z,rfl⟩:=qt9 ey;obtain⟨v,B,C,h1,h2,h3,h4⟩:=S.put1 ed D.noConfusion;have h1':=h1;rw[zAt hi] at h1;obtain⟨A1,q1,q2⟩:=h4 .unk [] (Kp.same (F:=F) λ _ _ z=>z) (λ _ _ z=>z) (.unk v);have o1:Ok F H (B++A1):=S.ok.count λ b=>by rw[zA0,q2,h3];simp
 have s1:Stp F H A F H (B++A1):=⟨λ b o e _=>e,λ b o e z=>by rw[zA0,q2];have:=h3 b;simp;lia,λ _ f=>f,λ _ _ _ _ f=>f⟩
 have S1:Sta c F H σ (ds.set i .unk) A1:=⟨q1,o1.right,S.len,S.ag⟩
 obtain⟨a,vs,Ael,rfl,ha,rs,_⟩:=h2.lst_inv;refine⟨.ref a,h1,a,rfl,⟨vs,.inl (.inl ha)⟩,λ Dd hD=>hw hm (qL1 hlt S1 o1 ⟨h2,ha⟩ qn3 hD (qj4 bl (λ acc ι q v H' F' B' A' rv S' hp ok s=>?_) _ _ _ q)) λ σ2 H2 m=>qL2 hlt S1 m⟩;obtain⟨A2,k1,k2⟩:=qy9 S'.loc h1' hp.1;have hc:∀ b,(B'++A2).count b<=(B'++(B++A')).count b:=λ b=>by have:=k2 b;simp only[zA0] at *;lia
 exact q v H' F' B' A2 rv ⟨k1,(ok.count hc).right,S.len,S.ag⟩ (ok.count hc) ((s1.trans s).count hc)
theorem qaC6{K:PySem.W.Frag}(bl:Blk X NY sc src tg ifs elt g qf te)(hN:X.N[i]? = some xn):Imp c X (F6 (λ ys=>ys) src i g qf te) (D7 (Ga K (Er i)) src (qq9 src g) (qq8 src qf) (Bw src te)) :=
 qam9 (K:=K) (J:=Itl K) bl hN (λ hm m hQ=>qG3 bl hm m hQ) λ σ H R h=>h
theorem qaC7{K:PySem.W.Frag}(bl:Blk X NY sc src tg ifs elt g qf te)(hN:X.N[i]? = some xn):Imp c X (F6 enD src i g qf te) (D7 (iEnum K (tCons (Er i) tNil)) src (qq9 src g) (qq8 src qf) (Bw src te)) :=
 qam9 (K:=K) (J:=Ite K) bl hN (λ hm m hQ=>qac6 bl hm m hQ) λ σ H R ⟨v,hv,a,e,hx,hr⟩=>⟨v,hv,a,by rw[e],hx,hr⟩
theorem ecN(i:Nat)(bl:Blk X NY sc src tg ifs elt g qf te)(hN:X.N[i]? = some xn:=by rfl)(hv:Vis X.env.scope xn:=by first | exact Or.inl rfl | exact Or.inr (Or.inl rfl) | exact Or.inr (Or.inr rfl))(hd:(xn == ("__debug__" : Str))=false:=by decide)(hcd:(xn == ("__classdict__" : Str))=false:=by decide)(hc:X.calm=true:=by rfl)(ck:qu8 X NY src sc=true:=by rfl)(hs:∀ x,foldedSetIterable (.Name xn p0) X.env x=pure x:=by intro _;rfl):VE c X (.ListComp elt [⟨tg,.Name xn p0,ifs,0⟩] sc pos) (F6 (λ ys=>ys) src i g qf te) :=
 qac7 (qD5 NY src (qt5 (qm3 hN hv hd hcd)) bl.pg bl.pf bl.pe hc ck hs) (qaC6 bl hN) (qy7 bl)
theorem ecEN(i:Nat){elts:List Expr}{x1:Nat}{p cpos tpos:Pos}(hm:X.mg "enumerate" = none)(bl:Blk X NY sc src (.Tuple elts x1 tpos) ifs elt g qf te)(hN:X.N[i]? = some xn:=by rfl)(hv:Vis X.env.scope xn:=by first | exact Or.inl rfl | exact Or.inr (Or.inl rfl) | exact Or.inr (Or.inr rfl))(hd:(xn == ("__debug__" : Str))=false:=by decide)(hcd:(xn == ("__classdict__" : Str))=false:=by decide)(hgl:Gl X "enumerate" := by rfl)(hs1:starEach [.Name xn p0] X.env=[(false,eval (.Name xn p0) X.env)]:=by rfl)(hc:X.calm=true:=by rfl)(ck:qu8 X NY src sc=true:=by rfl)(hs:∀ x,foldedSetIterable (.Call (.Name "enumerate" p) [.Name xn p0] [] cpos) X.env x=pure x:=by intro _;rfl):VE c X (.ListComp elt [⟨.Tuple elts x1 tpos,.Call (.Name "enumerate" p) [.Name xn p0] [] cpos,ifs,0⟩] sc pos) (F6 enD src i g qf te) :=
 qac7 (qD5 NY src (qay3 hgl hm (qg4 (qm3 hN hv hd hcd) qA0 hs1) hs1) bl.pg bl.pf bl.pe hc ck hs) (qaC7 bl hN) (qy7 bl)
theorem scN(i j:Nat)(hN0:X.N.Nodup)(bl:Blk X NY sc src tg ifs elt g qf te)(hW:c.W i=false:=by rfl)(hN:X.N[j]? = some xn:=by rfl)(hv:Vis X.env.scope xn:=by first | exact Or.inl rfl | exact Or.inr (Or.inl rfl) | exact Or.inr (Or.inr rfl))(hd:(xn == ("__debug__" : Str))=false:=by decide)(hcd:(xn == ("__classdict__" : Str))=false:=by decide)(hix:X.N[i]? = some x:=by rfl)(hx:Loc X.env.scope x:=by first | exact Or.inl rfl | exact Or.inr rfl)(hc:X.calm=true:=by rfl)(ck:qu8 X NY src sc=true:=by rfl)(hsw:swapsWith (.ListComp elt [⟨tg,.Name xn p0,ifs,0⟩] sc pos) (some (.Name x px)) spos.line X.env=pure true:=by rfl)(hs:∀ x,foldedSetIterable (.Name xn p0) X.env x=pure x:=by intro _;rfl)(hfn:X.fn x=true∨X.env.scope.names.lookup x=some .local:=by first | exact .inl rfl | exact .inr rfl | assumption):VS c X (.Assign [.Name x px] (.ListComp elt [⟨tg,.Name xn p0,ifs,0⟩] sc pos) spos) (Dw (F6 (λ ys=>ys) src j g qf te) (gNm i)) :=
 qaF8 (qax8 i NY src hN0 (qt5 (qm3 hN hv hd hcd)) bl.pg bl.pf bl.pe hix hx hc ck hsw hs hfn) (qaC6 bl hN) (qy7 bl) hW hix
theorem qan0{d0:D}{ds:Ds}(h:ds[i]? = some (.hole w)):bk1 i [] w d0 ds=some (ds.set i d0):=by
 unfold bk1 Aq;rw[qB7 h];simp only[if_true];unfold Aq;rw[qz0 h]
theorem qj5{g:VTG}{qf:VTT}{te:VT}{K:Ds->Ds->Prop}(I:Ds->Prop)(f:D->Option D):∀(xs:List D)(acc ι:Ds),acc.length+xs.length < big->I ι->(∀ x∈xs,∀ ι acc,I ι->∀ R:Ds->Ds->Prop,(∀ ι',I ι'->R (acc++(f x).toList) ι')->acc.length < big->g x ι λ ι1=>qf ι1 (λ b ι2=>if b=true then te ι2 (λ d ι3=>acc.length < big/\R (acc++[d]) ι3) (λ _ _=>False) else R acc ι2) (λ _ _=>False))->(∀ ι',I ι'->K (acc++xs.filterMap f) ι')->Eg g qf te K xs acc ι
 | [],acc,ι,_,h,_,hK=>by
   have:=hK ι h
   rw[List.filterMap_nil,zAd] at this;exact this
 | x::xs,acc,ι,hl,h,hs,hK=>by
   refine hs x zA9 ι acc h (λ a i=>Eg g qf te K xs a i) (λ ι' hι=>?_) (by simp at hl;lia);refine qj5 I f xs _ ι' ?_ hι (λ y hy=>hs y (zA6 _ hy)) λ ι2 h2=>?_
   . cases hf:f x with
     | none=>simp at hl ⊢;lia
     | some y=>simp at hl ⊢;lia
   have:=hK ι2 h2
   rw[zBu] at this;cases hf:f x with
   | none=>rw[hf] at this;simpa using this
   | some y=>rw[hf] at this;simpa using this
end
section
theorem qU1:∀{xs:List V}{us:List Value},xs.length=us.length->(∀(i:Nat)(x:V)(u:Value),xs[i]? = some x->us[i]? = some u->RelV x u)->Vals xs us
 | [],[],_,_=>.nil
 | x::xs,u::us,hl,h=>.cons (h 0 x u rfl rfl) (qU1 (Nat.succ.inj hl) λ i y v h1 h2=>h (i+1) y v h1 h2)
end
structure MdN(K:PySem.W.Frag)(C:Addr)(m qual:Str)(st:Stmt)(f:Addr)(fd:FuncData)(ps:List Str):Prop where
 F:FunE K m qual st f fd
 b:Binds K fd ps []
 bn:Binds K fd ps [.none]
 me:Gu K C m f
 isf:PySem.W.isFn K (.ref f)=true
theorem mdmkN{K:PySem.W.Frag}{C:Addr}{m qual:Str}{st:Stmt}{f T:Addr}{ps:List Str}{oc to:Value}{od td an:Option Addr}{osl tsl:Array (Option Value)}{kV doc pm cdv ct:Value}(l:K.lookup f=some ⟨oc,od,.func (PySem.W.fnOf m qual (qe2 st) (qc6 st) (qa3 st) (.ref T) kV doc pm an cdv ct),osl⟩)(c:PySem.W.codeIn K cdv qual=true)(k:PySem.W.keepIn K (.ref f)=true)(a:PySem.W.findIn K (.ref C) m=some (some (.ref f)))(i:PySem.W.isFn K (.ref f)=true)(t:K.lookup T=some ⟨to,td,.seq #[.none] n,tsl⟩)(b:∀(kV doc pm:Value)(an:Option Addr)(cdv ct:Value)(us:List Value),us.length=ps.length->∃ k,bindArgs (PySem.W.fnOf m qual (qe2 st) (qc6 st) (qa3 st) (.ref T) kV doc pm an cdv ct) ⟨us,[]⟩=seqItems? (.ref T) >>= k/\k (some #[.none])=pure (ps.zip us))(bn:∀(kV doc pm:Value)(an:Option Addr)(cdv ct:Value)(us:List Value),us.length+1=ps.length->∃ k,bindArgs (PySem.W.fnOf m qual (qe2 st) (qc6 st) (qa3 st) (.ref T) kV doc pm an cdv ct) ⟨us,[]⟩=seqItems? (.ref T) >>= k/\k (some #[.none])=pure (ps.zip (us++[.none]))) :
   MdN K C m qual st f (PySem.W.fnOf m qual (qe2 st) (qc6 st) (qa3 st) (.ref T) kV doc pm an cdv ct) ps :=
 ⟨⟨⟨_,_,_,_,_,_,_,_,_,_,rfl,l,c⟩⟩,λ s us X hl=>(by
   rw[zAd] at hl ⊢;obtain⟨k,h1,h2⟩:=b kV doc pm an cdv ct us hl;exact PySem.W.binds_K X rfl t rfl h1 h2),λ s us X hl=>(by
   obtain⟨k,h1,h2⟩:=bn kV doc pm an cdv ct us (by rw[zA7] at hl;exact hl);exact PySem.W.binds_K X rfl t rfl h1 h2),⟨a,i,k⟩,i⟩
end LV
namespace L2
open PySem PySem.Spec PyProof.Rows
end L2
namespace LV
open PySem L2
theorem rm{j k:Nat}{A:Around}(r:Room k A)(h:j<=k:=by decide):Room j A:=r.mono h
theorem VFn.mk2{P:Program}{w:World}{K:PySem.W.Frag}{mg:Str->Option Value}{base:Heap}{x qual:Str}{st:Stmt}{f:Addr}{fd:FuncData}{N ps:List Str}{k:Nat}{s:VSp}(Fu:Fun K x qual st f fd)(Sc:qa9 N ps (qa3 st))(W:Nat->Bool)(hs:Bp s)(h:∀ ds Q xe,s ds Q xe->ds.length=ps.length/\F5 W 0 ds=true)(hbody:∀(cdv:Value)(A:Around)(outer:List Env)(sh:Shared)(H:Hp)(E:XK)(av:List (Option V)),Room k (A.deeper (PyProof.Rows.envOfC qual (qa3 st) sh.heap.objs.size f cdv)) ->
     ∃ t,VSs ⟨E,W,av,[]⟩ (Dn (CX1 P w) P w K mg base N qual (qa3 st) f cdv A outer sh H E) (qc6 st) t/\∀ ds Q xe,s ds Q xe->t (Hw W ds Q xe) (ds++List.replicate (N.length - ds.length) .unk)) :
   VFn P w K mg base (k+1) f fd ps s:=VFn.mk' Fu Sc W hs (λ ds Q xe z=>(h ds Q xe z).1) (λ ds Q xe z=>(h ds Q xe z).2) hbody
end LV
namespace S6
open PySem PyProof.Rows
variable{Q:Unit->SortSt->Prop}{arr xs:Array Keyed}{f:Nat->Keyed}{g n q:Nat}{key x:Keyed}{kf:Value->Int×Int}{l:Bool}{vs:List Value}
section
variable{α:Type}{le:α->α->Bool}
theorem mg_l{A2:List α}:∀{A1 Y:List α},(∀ a∈A1,∀ y∈Y,le a y=true)->List.merge (A1++A2) Y le=A1++List.merge A2 Y le
 | [],_,_=>rfl
 | x::A1,[],_=>by simp
 | x::A1,y::Y,h=>by
   rw[zBl,zB6,if_pos (h x (by simp) y (by simp)),mg_l λ a ha=>h a (by simp[ha])];rfl
theorem mg_r{B2:List α}:∀{B1 X:List α},(∀ b∈B1,∀ x∈X,le x b=false)->List.merge X (B1++B2) le=B1++List.merge X B2 le
 | [],_,_=>rfl
 | b::B1,[],_=>by simp
 | b::B1,x::X,h=>by
   rw[zBl,zB6,if_neg (by simp[h b (by simp) x (by simp)]),mg_r λ a ha=>h a (by simp[ha])];rfl
theorem Ib{A2:List α}:∀{A1 Y:List α},(∀ a∈A2,∀ y∈Y,le a y=false)->List.merge (A1++A2) Y le=List.merge A1 Y le++A2
 | [],Y,h=>by
   have:=mg_r (B2:=[]) (B1:=Y) (X:=A2) (le:=le) λ y hy a ha=>h a ha y hy
   simpa using this
 | x::A1,[],_=>by simp
 | x::A1,y::Y,h=>by
   rw[zBl,zB6,zB6];split
   . rw[Ib h];rfl
   rw[<- zBl,Ib λ a ha z hz=>h a ha z (by simp[hz])];rfl
theorem Gp{B2:List α}:∀{B1 X:List α},(∀ b∈B2,∀ x∈X,le x b=true)->List.merge X (B1++B2) le=List.merge X B1 le++B2
 | [],X,h=>by
   have:=mg_l (A2:=[]) (A1:=X) (Y:=B2) (le:=le) λ y hy a ha=>h a ha y hy
   simpa using this
 | b::B1,[],_=>by simp
 | b::B1,x::X,h=>by
   rw[zBl,zB6,zB6];split
   . rw[<- zBl,Gp λ a ha z hz=>h a ha z (by simp[hz])];rfl
   rw[Gp h];rfl
end
def gal:Bool->Keyed->Array Keyed->Nat->Nat->Nat->StateT SortSt Sem (Option Nat):=sortPriv% PySem.Builtin.gallop
def bey(l:Bool)(key:Keyed)(arr:Array Keyed)(i:Nat):StateT SortSt Sem (Option Bool):=do
 let x <- elem' arr i
 if l then lt' x key else return (<- lt' key x).map (!·)
theorem qaL6(l:Bool)(key:Keyed)(arr:Array Keyed)(bs n g:Nat):gal l key arr bs n g=(do
 let mut p:=0
 let mut o:=1
 let mut u:=0
 let mut v:=0
 let some t <- bey l key arr (bs+g) | return none
 if t then
   let mo:=n - g
   for _ in [0:n] do
     if o ≥ mo then break
     let some c <- bey l key arr (bs+(g+o)) | return none
     if !c then break
     p:=o
     o:=2 * o+1
   u:=g+p+1
   v:=g+min o mo
 else
   let mo:=g+1
   for _ in [0:n] do
     if o ≥ mo then break
     let some c <- bey l key arr (bs+(g - o)) | return none
     if c then break
     p:=o
     o:=2 * o+1
   u:=g+1 - min o mo
   v:=g - p
 for _ in [0:n] do
   if u ≥ v then break
   let m:=u+(v - u) / 2
   let some c <- bey l key arr (bs+m) | return none
   if c then u:=m+1 else v:=m
 return some v):=rfl
structure Od(lt:Keyed->Keyed->Bool):Prop where
 as:∀ x y,lt x y=true->lt y x=false
 tr:∀ x y z,lt y x=false->lt z y=false->lt z x=false
def Cm(prog:Program)(w:World)(A:Around)(s:Shared)(kd:SortKind)(P:Keyed->Prop)(lt:Keyed->Keyed->Bool):Prop :=
 ∀ x y,P x->P y->∀(E:Value->Shared->Prop)(Q:Bool->Shared->Prop),Q (lt x y) s->wpAny (model prog w) A (keyLt' kd x.1 y.1) Q E s
section
variable{prog:Program}{w:World}{A:Around}{E:Value->Shared->Prop}{s:Shared}{kd:SortKind}{P:Keyed->Prop}{lt:Keyed->Keyed->Bool}{st:SortSt}
theorem Od.ir(h:Od lt)(x:Keyed):lt x x=false:=by
 cases e:lt x x with
 | false=>rfl
 | true=>rw[h.as x x e] at e;cases e
theorem wlt{y:Keyed}{Q:Option Bool->SortSt->Prop}(hC:Cm prog w A s kd P lt)(hk:kindOf st=kd)(hx:P x)(hy:P y)(h:Q (some (lt x y)) st):wpS (model prog w) A E s (lt' x y) Q st:=by
 rw[lt'_eq];refine wpS_bind (wpS_get ?_);rw[hk];exact wpS_bind (wpS_lift (wpAny_attempt (hC x y hx hy _ _ ⟨rfl,wpS_pure h⟩)))
theorem wel{i:Nat}{p:Keyed}{Q:Keyed->SortSt->Prop}(hi:arr[i]? = some p)(h:Q p st):wpS (model prog w) A E s (elem' arr i) Q st:=by
 rw[elem'_eq,hi];exact wpS_pure h
def B(lt:Keyed->Keyed->Bool)(l:Bool)(key x:Keyed):Bool:=if l then lt x key else !lt key x
theorem wbey{i:Nat}{Q:Option Bool->SortSt->Prop}(hC:Cm prog w A s kd P lt)(hk:kindOf st=kd)(hi:arr[i]? = some x)(hx:P x)(hy:P key)(h:Q (some (B lt l key x)) st):wpS (model prog w) A E s (bey l key arr i) Q st:=by
 unfold bey;refine wpS_bind (wel hi ?_);cases l with
 | true=>exact wlt hC hk hx hy h
 | false=>exact wpS_bind (wlt hC hk hy hx (wpS_pure h))
theorem wgal{bs:Nat}{Q:Option Nat->SortSt->Prop}(hC:Cm prog w A s kd P lt)(hk:kindOf st=kd)(hy:P key)(hf:∀ i,i < n->arr[bs+i]? = some (f i))(hP:∀ i,i < n->P (f i))(hm:∀ i j,i<=j->j < n->B lt l key (f j)=true->B lt l key (f i)=true)(hg:g < n)(h:∀ k,k<=n->(∀ i,i < k->B lt l key (f i)=true)->(∀ i,k<=i->i < n->B lt l key (f i)=false)->Q (some k) st):wpS (model prog w) A E s (gal l key arr bs n g) Q st:=by
 have hm':∀ i j,i<=j->j < n->B lt l key (f i)=false->B lt l key (f j)=false:=λ i j a b c=>by
   cases e:B lt l key (f j) with
   | false=>rfl
   | true=>rw[hm i j a b e] at c;cases c
 have fin:∀ u v,u<=v->v<=n->(∀ i,i < u->B lt l key (f i)=true)->(∀ i,v<=i->i < n->B lt l key (f i)=false) ->
    wpS (model prog w) A E s (do
      let mut u:=u
      let mut v:=v
      for _ in [0:n] do
       if u ≥ v then break
       let m:=u+(v - u) / 2
       let some c <- bey l key arr (bs+m) | return none
       if c then u:=m+1 else v:=m
      return some v) Q st:=by
   intro u v a1 a2 a3 a4;refine wpS_bind (wpS_mono (wpS_forRange (I:=λ x c st'=>st'=st/\∃ u v,c=(none,u,v)/\u<=v/\v<=n/\v - u<=n - x/\(∀ i,i < u->B lt l key (f i)=true)/\(∀ i,v<=i->i < n->B lt l key (f i)=false))
     (Q:=λ c st'=>st'=st/\∃ v,c=(none,v,v)/\v<=n/\(∀ i,i < v->B lt l key (f i)=true)/\(∀ i,v<=i->i < n->B lt l key (f i)=false)) ?_ ?_ ⟨rfl,u,v,rfl,a1,a2,by lia,a3,a4⟩) ?_)
   . rintro x c st' - hx ⟨rfl,u,v,rfl,b1,b2,b3,b4,b5⟩
     dsimp only;by_cases hu:u ≥ v
     . rw[if_pos hu]
       obtain rfl:u=v:=by lia
       exact wpS_pure ⟨rfl,u,rfl,b2,b4,b5⟩
     rw[if_neg hu];refine wpS_bind (wbey hC hk (hf _ (by lia)) (hP _ (by lia)) hy ?_);cases hb:B lt l key (f (u+(v - u) / 2)) with
     | true=>exact wpS_pure ⟨rfl,_,v,rfl,by lia,b2,by lia,λ i hi=>hm i _ (by lia) (by lia) hb,b5⟩
     | false=>exact wpS_pure ⟨rfl,u,_,rfl,by lia,by lia,by lia,b4,λ i h1 h2=>hm' _ i h1 h2 hb⟩
   . rintro c st' ⟨rfl,u,v,rfl,b1,b2,b3,b4,b5⟩
     obtain rfl:u=v:=by lia
     exact⟨rfl,u,rfl,b2,b4,b5⟩
   rintro c st' ⟨rfl,v,rfl,b2,b4,b5⟩;exact wpS_pure (h v b2 b4 b5)
 rw[qaL6];refine wpS_bind (wbey hC hk (hf _ hg) (hP _ hg) hy ?_);dsimp only;cases hr:B lt l key (f g) with
 | true =>
   rw[if_pos rfl];refine wpS_bind (wpS_mono (wpS_forRange (I:=λ x c st'=>st'=st/\∃ p o,c=(none,p,o)/\p < o/\x+1<=o/\g+p < n/\B lt l key (f (g+p))=true)
     (Q:=λ c st'=>st'=st/\∃ p o,c=(none,p,o)/\p < o/\g+p < n/\B lt l key (f (g+p))=true/\(o < n - g->B lt l key (f (g+o))=false)) ?_ ?_ ⟨rfl,0,1,rfl,by lia,by lia,by lia,hr⟩) ?_)
   . rintro x c st' - hx ⟨rfl,p,o,rfl,b1,b2,b3,b4⟩
     dsimp only;by_cases ho:o ≥ n - g
     . rw[if_pos ho];exact wpS_pure ⟨rfl,p,o,rfl,b1,b3,b4,λ h=>by lia⟩
     rw[if_neg ho];refine wpS_bind (wbey hC hk (hf _ (by lia)) (hP _ (by lia)) hy ?_);cases hb:B lt l key (f (g+o)) with
     | true=>exact wpS_pure ⟨rfl,o,_,rfl,by lia,by lia,by lia,hb⟩
     | false=>exact wpS_pure ⟨rfl,p,o,rfl,b1,b3,b4,λ _=>hb⟩
   . rintro c st' ⟨rfl,p,o,rfl,b1,b2,b3,b4⟩
     exact⟨rfl,p,o,rfl,b1,b3,b4,λ h=>by lia⟩
   rintro c st' ⟨rfl,p,o,rfl,b1,b3,b4,b5⟩;refine fin (g+p+1) (g+min o (n - g)) (by lia) (by lia) (λ i hi=>hm i _ (by lia) b3 b4) λ i h1 h2=>?_
   exact hm' (g+o) i (by lia) h2 (b5 (by lia))
 | false =>
   rw[if_neg (by decide)];refine wpS_bind (wpS_mono (wpS_forRange (I:=λ x c st'=>st'=st/\∃ p o,c=(none,p,o)/\p < o/\x+1<=o/\p<=g/\B lt l key (f (g - p))=false)
     (Q:=λ c st'=>st'=st/\∃ p o,c=(none,p,o)/\p < o/\p<=g/\B lt l key (f (g - p))=false/\(o < g+1->B lt l key (f (g - o))=true)) ?_ ?_ ⟨rfl,0,1,rfl,by lia,by lia,by lia,hr⟩) ?_)
   . rintro x c st' - hx ⟨rfl,p,o,rfl,b1,b2,b3,b4⟩
     dsimp only;by_cases ho:o ≥ g+1
     . rw[if_pos ho];exact wpS_pure ⟨rfl,p,o,rfl,b1,b3,b4,λ h=>by lia⟩
     rw[if_neg ho];refine wpS_bind (wbey hC hk (hf _ (by lia)) (hP _ (by lia)) hy ?_);cases hb:B lt l key (f (g - o)) with
     | true=>exact wpS_pure ⟨rfl,p,o,rfl,b1,b3,b4,λ _=>hb⟩
     | false=>exact wpS_pure ⟨rfl,o,_,rfl,by lia,by lia,by lia,hb⟩
   . rintro c st' ⟨rfl,p,o,rfl,b1,b2,b3,b4⟩
     exact⟨rfl,p,o,rfl,b1,b3,b4,λ h=>by lia⟩
   rintro c st' ⟨rfl,p,o,rfl,b1,b3,b4,b5⟩;refine fin (g+1 - min o (g+1)) (g - p) (by lia) (by lia) (λ i hi=>hm i (g - o) (by lia) (by lia) (b5 (by lia))) λ i h1 h2=>hm' _ i h1 h2 b4
end
abbrev lee(lt:Keyed->Keyed->Bool):Keyed->Keyed->Bool:=λ x y=>!lt y x
section
variable{α:Type}{le:α->α->Bool}
theorem Ic{A2 Y:List α}{y:α}:∀{A1:List α},(∀ a∈A1,le a y=true)->List.merge (A1++A2) (y::Y) le=A1++List.merge A2 (y::Y) le
 | [],_=>rfl
 | x::A1,h=>by rw[zBl,zB6,if_pos (h x (by simp)),Ic λ a ha=>h a (by simp[ha])];rfl
theorem Id{B2 X:List α}{x:α}:∀{B1:List α},(∀ b∈B1,le x b=false)->List.merge (x::X) (B1++B2) le=B1++List.merge (x::X) B2 le
 | [],_=>rfl
 | b::B1,h=>by rw[zBl,zB6,if_neg (by simp[h b (by simp)]),Id λ a ha=>h a (by simp[ha])];rfl
end
def att(a:Array Keyed)(i:Nat):Keyed:=a.getD i (Value.none,Value.none)
theorem qb5{a:Array Keyed}{i:Nat}(h:i < a.size):a[i]? = some (att a i):=by simp[att,Array.getD,h]
theorem Dq{a:Array Keyed}{i:Nat}(h:i < a.size):a.toList.drop i=att a i::a.toList.drop (i+1):=by
 rw[List.drop_eq_getElem_cons (by simpa using h)];simp[att,Array.getD,h]
def Srt(lt:Keyed->Keyed->Bool)(f:Nat->Keyed)(n:Nat):Prop:=∀ i j,i<=j->j < n->lt (f j) (f i)=false
theorem Srt.drop{lt:Keyed->Keyed->Bool}{k:Nat}(h:Srt lt f n):Srt lt (λ i=>f (k+i)) (n - k):=λ i j a b=>h _ _ (by lia) (by lia)
theorem qp7{a:Array Keyed}{i k:Nat}(h:x∈(a.toList.drop i).take k):∃ j,j < k/\i+j < a.size/\x=att a (i+j):=by
 obtain⟨j,hj,e⟩:=List.mem_iff_getElem.mp h;rw[zBw,List.length_drop,zB1] at hj;refine⟨j,by lia,by lia,?_⟩;rw[<- e,List.getElem_take,List.getElem_drop];simp[att,Array.getD,show i+j < a.size by lia]
theorem qc5{a:Array Keyed}{i j:Nat}:(a.extract i j).toList=(a.toList.drop i).take (j - i):=by simp[List.take_drop]
section
variable{prog:Program}{w:World}{A:Around}{E:Value->Shared->Prop}{s:Shared}{kd:SortKind}{P:Keyed->Prop}{lt:Keyed->Keyed->Bool}{st:SortSt}
theorem wgs{bs:Nat}{Q:Option Nat->SortSt->Prop}(hO:Od lt)(hC:Cm prog w A s kd P lt)(hk:kindOf st=kd)(hy:P key)(hz:bs+n<=arr.size)(hP:∀ i,i < arr.size->P (att arr i))(hs:Srt lt (λ i=>att arr (bs+i)) n)(hg:g < n)(h:∀ k,k<=n->(∀ i,i < k->B lt l key (att arr (bs+i))=true)->(∀ i,k<=i->i < n->B lt l key (att arr (bs+i))=false)->Q (some k) st):wpS (model prog w) A E s (gal l key arr bs n g) Q st:=by
 refine wgal (f:=λ i=>att arr (bs+i)) hC hk hy (λ i hi=>qb5 (by lia)) (λ i hi=>hP _ (by lia)) (λ i j hij hj hb=>?_) hg h;have hl:=hs i j hij hj;cases l with
 | false =>
   have e:lt key (att arr (bs+j))=false:=by simpa[B] using hb
   show (!lt key (att arr (bs+i)))=true;rw[hO.tr _ _ _ hl e];rfl
 | true =>
   show lt (att arr (bs+i)) key=true;cases e:lt (att arr (bs+i)) key with
   | true=>rfl
   | false=>have:=hO.tr _ _ _ e hl;rw[show lt (att arr (bs+j)) key=true from hb] at this;cases this
def R(st st':SortSt):Prop:=kindOf st'=kindOf st/\arrOf st'=arrOf st/\pendingOf st'=pendingOf st/\failedOf st'=failedOf st
def mlo:Array Keyed->Array Keyed->StateT SortSt Sem (Array Keyed):=sortPriv% PySem.Builtin.mergeLo
def smg:Nat->StateT SortSt Sem Unit:=sortPriv% PySem.Builtin.setMinGallop
theorem wsmg{st0:SortSt}(hr:R st0 st)(h:∀ st',R st0 st'->Q () st'):wpS (model prog w) A E s (smg g) Q st :=
 wpS_modify (h _ hr)
theorem qaJ7(a b:Array Keyed):mlo a b=(do
 rule "list.sort.merge-lo"
 let tt:=a.size+b.size
 let dn (o:Array Keyed) (i j:Nat):=o++a.extract i a.size++b.extract j b.size
 let la (o:Array Keyed) (i j:Nat):=o++b.extract j b.size++a.extract i a.size
 let mut o:Array Keyed:=#[<- elem' b 0]
 let mut i:=0
 let mut j:=1
 if j == b.size then return dn o i j
 if i+1 == a.size then return la o i j
 let mut g:=gallopOf (<- get)
 for _ in [0:tt] do
   let mut x:=0
   let mut y:=0
   for _ in [0:tt] do
     let some t <- lt' (<- elem' b j) (<- elem' a i) | return dn o i j
     if t then
       o:=o.push (<- elem' b j);j:=j+1;y:=y+1;x:=0
       if j == b.size then return dn o i j
       if y ≥ g then break
     else
       o:=o.push (<- elem' a i);i:=i+1;x:=x+1;y:=0
       if i+1 == a.size then return la o i j
       if x ≥ g then break
   rule "list.sort.gallop"
   g:=g+1
   for _ in [0:tt] do
     if g > 1 then g:=g - 1
     smg g
     let some k <- gal false (<- elem' b j) a i (a.size - i) 0 | return dn o i j
     x:=k
     if k > 0 then
       o:=o++a.extract i (i+k);i:=i+k
       if i+1 == a.size then return la o i j
       if i == a.size then return dn o i j
     o:=o.push (<- elem' b j);j:=j+1
     if j == b.size then return dn o i j
     let some k <- gal true (<- elem' a i) b j (b.size - j) 0 | return dn o i j
     y:=k
     if k > 0 then
       o:=o++b.extract j (j+k);j:=j+k
       if j == b.size then return dn o i j
     o:=o.push (<- elem' a i);i:=i+1
     if i+1 == a.size then return la o i j
     if x < 7&&y < 7 then break
   g:=g+1
   smg g
 unsupported "internal:list.sort.merge-bound"):=rfl
theorem wif{α:Type}{c:Prop}[Decidable c]{m n:StateT SortSt Sem α}{Q:α->SortSt->Prop}(h1:c->wpS (model prog w) A E s m Q st)(h2:¬ c->wpS (model prog w) A E s n Q st):wpS (model prog w) A E s (if c then m else n) Q st:=by
 by_cases h:c
 . rw[if_pos h];exact h1 h
 rw[if_neg h];exact h2 h
def Eq2(lt:Keyed->Keyed->Bool)(a b o:Array Keyed)(i j:Nat):Prop:=o.toList++List.merge (a.toList.drop i) (b.toList.drop j) (lee lt)=List.merge a.toList b.toList (lee lt)
variable{a b o:Array Keyed}{i j k:Nat}
theorem Eq2.done(h:Eq2 lt a b o i j)(hh:j=b.size∨i=a.size):(o++a.extract i a.size++b.extract j b.size).toList=List.merge a.toList b.toList (lee lt):=by
 rw[<- h,zB3,zB3,qc5,qc5,zAi];congr 1;rw[zAs (by simp),zAs (by simp)];rcases hh with rfl | rfl
 . rw[show b.toList.drop b.size=[] by simp,zAd,List.merge_right]
 rw[show a.toList.drop a.size=[] by simp,zAz,List.nil_merge]
theorem Eq2.last(h:Eq2 lt a b o i j)(hi:i+1=a.size)(hl:∀ n,n < b.size->lt (att b n) (att a i)=true):(o++b.extract j b.size++a.extract i a.size).toList=List.merge a.toList b.toList (lee lt):=by
 rw[<- h,zB3,zB3,qc5,qc5,zAi];congr 1;rw[zAs (by simp),zAs (by simp),Dq (a:=a) (i:=i) (by lia),show a.toList.drop (i+1)=[] from List.drop_eq_nil_of_le (by simp;lia)]
 have:=Id (le:=lee lt) (B2:=[]) (X:=[]) (x:=att a i) (B1:=b.toList.drop j) λ x hx=>by
   rw[<- zAs (l:=b.toList.drop j) (zA2 _)] at hx;obtain⟨n,_,h2,rfl⟩:=qp7 hx;simp[hl _ h2]
 rw[zAd] at this;rw[this];simp
theorem Eq2.pb(h:Eq2 lt a b o i j)(hi:i < a.size)(hj:j < b.size)(hl:lt (att b j) (att a i)=true):Eq2 lt a b (o.push (att b j)) i (j+1):=by
 unfold Eq2 at h ⊢;rw[<- h,Array.toList_push,zAi,Dq hi,Dq hj,zB6,if_neg (by simp[hl])];rfl
theorem Eq2.pa(h:Eq2 lt a b o i j)(hi:i < a.size)(hj:j < b.size)(hl:lt (att b j) (att a i)=false):Eq2 lt a b (o.push (att a i)) (i+1) j:=by
 unfold Eq2 at h ⊢;rw[<- h,Array.toList_push,zAi,Dq hi,Dq hj,zB6,if_pos (by simp[hl])];rfl
theorem Eq2.ga(h:Eq2 lt a b o i j)(hj:j < b.size)(hl:∀ n,n < k->i+n < a.size->lt (att b j) (att a (i+n))=false):Eq2 lt a b (o++a.extract i (i+k)) (i+k) j:=by
 unfold Eq2 at h ⊢;rw[<- h,zB3,qc5,zAi,show i+k - i=k by lia,Dq hj];congr 1
 conv=>rhs;rw[<- zBd k (a.toList.drop i)]
 rw[Ic (le:=lee lt),List.drop_drop];intro x hx;obtain⟨n,h1,h2,rfl⟩:=qp7 hx;simp[hl n h1 h2]
theorem Eq2.gb(h:Eq2 lt a b o i j)(hi:i < a.size)(hl:∀ n,n < k->j+n < b.size->lt (att b (j+n)) (att a i)=true):Eq2 lt a b (o++b.extract j (j+k)) i (j+k):=by
 unfold Eq2 at h ⊢;rw[<- h,zB3,qc5,zAi,show j+k - j=k by lia,Dq hi];congr 1
 conv=>rhs;rw[<- zBd k (b.toList.drop j)]
 rw[Id (le:=lee lt),List.drop_drop];intro x hx;obtain⟨n,h1,h2,rfl⟩:=qp7 hx;simp[hl n h1 h2]
theorem wmlo{Q:Array Keyed->SortSt->Prop}(hO:Od lt)(hC:Cm prog w A s kd P lt)(hk:kindOf st=kd)(hPa:∀ n,n < a.size->P (att a n))(hPb:∀ n,n < b.size->P (att b n))(hsa:Srt lt (att a) a.size)(hsb:Srt lt (att b) b.size)(h1a:0 < a.size)(h1b:0 < b.size)(h0:lt (att b 0) (att a 0)=true)(hl:∀ n,n < b.size->lt (att b n) (att a (a.size - 1))=true)(h:∀ r st',R st st'->r.toList=List.merge a.toList b.toList (lee lt)->Q r st'):wpS (model prog w) A E s (mlo a b) Q st:=by
 have hl':∀ i,i+1=a.size->∀ n,n < b.size->lt (att b n) (att a i)=true:=λ i e n hn=>by rw[show i=a.size - 1 by lia];exact hl n hn
 rw[qaJ7];refine wpS_bind (wpS_lift (wpAny_rule ⟨rfl,?_⟩));refine wpS_bind (wel (qb5 h1b) ?_);have e1:Eq2 lt a b #[att b 0] 0 1:=Eq2.pb (o:=#[]) (i:=0) (j:=0) rfl h1a h1b h0;by_cases c1:1=b.size
 . rw[if_pos (by simpa using c1)]
   exact wpS_pure (h _ st ⟨rfl,rfl,rfl,rfl⟩ (e1.done (.inl c1)))
 rw[if_neg (by simpa using c1)];by_cases c2:0+1=a.size
 . rw[if_pos (by simpa using c2)]
   exact wpS_pure (h _ st ⟨rfl,rfl,rfl,rfl⟩ (e1.last c2 (hl' 0 c2)))
 rw[if_neg (by simpa using c2)];refine wpS_bind (wpS_get ?_)
 let D (c:Option (Array Keyed)):Prop:=∃ r,c=some r/\r.toList=List.merge a.toList b.toList (lee lt)
 let G (n:Nat) (o:Array Keyed) (i j:Nat):Prop:=Eq2 lt a b o i j/\i+1 < a.size/\j < b.size/\n<=i+j
 refine wpS_bind (wpS_mono (wpS_forRange (I:=λ x c st'=>R st st'/\∃ o i j g,c=(none,o,i,j,g)/\G (x+1) o i j)
   (Q:=λ c st'=>R st st'/\D c.1) ?_ ?_ ⟨⟨rfl,rfl,rfl,rfl⟩,_,_,_,_,rfl,e1,by lia,by lia,by lia⟩) ?_)
 . rintro x c st1 - hx ⟨r1,o,i,j,g,rfl,g1,g2,g3,g4⟩
   refine wpS_bind (wpS_mono (wpS_forRange (I:=λ y c st'=>R st st'/\∃ o i j x' y',c=(none,o,i,j,x',y')/\G (x+1+y) o i j)
     (Q:=λ c st'=>R st st'/\(D c.1∨∃ o i j x' y',c=(none,o,i,j,x',y')/\G (x+2) o i j)) ?_ ?_ ⟨r1,_,_,_,_,_,rfl,g1,g2,g3,g4⟩) ?_)
   . rintro y c st2 - hy ⟨r2,o,i,j,x',y',rfl,k1,k2,k3,k4⟩
     dsimp only;refine wpS_bind (wel (qb5 k3) (wpS_bind (wel (qb5 (show i < a.size by lia)) (wpS_bind (wlt hC (r2.1.trans hk) (hPb _ k3) (hPa _ (by lia)) ?_)))));cases hb:lt (att b j) (att a i) with
     | true =>
       refine wpS_bind (wel (qb5 k3) ?_);have e2:=k1.pb (by lia) k3 hb;by_cases c3:j+1=b.size
       . rw[if_pos (by simpa using c3)]
         exact wpS_pure ⟨r2,.inl ⟨_,rfl,e2.done (.inl c3)⟩⟩
       rw[if_neg (by simpa using c3)];by_cases c4:y'+1 ≥ g
       . rw[if_pos c4];exact wpS_pure ⟨r2,.inr ⟨_,_,_,_,_,rfl,e2,k2,by lia,by lia⟩⟩
       rw[if_neg c4];exact wpS_pure ⟨r2,_,_,_,_,_,rfl,e2,k2,by lia,by lia⟩
     | false =>
       refine wpS_bind (wel (qb5 (show i < a.size by lia)) ?_);have e2:=k1.pa (by lia) k3 hb;by_cases c3:i+1+1=a.size
       . rw[if_pos (by simpa using c3)]
         exact wpS_pure ⟨r2,.inl ⟨_,rfl,e2.last c3 (hl' _ c3)⟩⟩
       rw[if_neg (by simpa using c3)];by_cases c4:x'+1 ≥ g
       . rw[if_pos c4];exact wpS_pure ⟨r2,.inr ⟨_,_,_,_,_,rfl,e2,by lia,k3,by lia⟩⟩
       rw[if_neg c4];exact wpS_pure ⟨r2,_,_,_,_,_,rfl,e2,by lia,k3,by lia⟩
   . rintro c st2 ⟨r2,o,i,j,x',y',rfl,k1,k2,k3,k4⟩
     exact⟨r2,.inr ⟨_,_,_,_,_,rfl,k1,k2,k3,by lia⟩⟩
   rintro⟨c,c'⟩ st2 ⟨r2,⟨r,rfl,e⟩ | ⟨o,i,j,x',y',e,k1,k2,k3,k4⟩⟩
   . exact wpS_pure ⟨r2,r,rfl,e⟩
   cases e;refine wpS_bind (wpS_lift (wpAny_rule ⟨rfl,?_⟩));refine wpS_bind (wpS_mono (wpS_forRange (I:=λ y c st'=>R st st'/\∃ o i j g x' y',c=(none,o,i,j,g,x',y')/\G (x+2) o i j)
     (Q:=λ c st'=>R st st'/\(D c.1∨∃ o i j g x' y',c=(none,o,i,j,g,x',y')/\G (x+2) o i j)) ?_ ?_ ⟨r2,_,_,_,_,_,_,rfl,k1,k2,k3,k4⟩) ?_)
   . rintro y c st3 - hy ⟨r3,o,i,j,g,x',y',rfl,k1,k2,k3,k4⟩
     dsimp only;refine wif (λ _=>?_) λ _=>?_
     all_goals
       refine wpS_bind (wsmg r3 λ st4 r4=>?_);refine wpS_bind (wel (qb5 k3) ?_);refine wpS_bind (wgs hO hC (r4.1.trans hk) (hPb _ k3) (by lia) hPa hsa.drop (by lia) λ k q1 q2 q3=>?_);have ea:=k1.ga (k:=k) k3 λ n h1 h2=>by simpa[B] using q2 n h1
       have zz:i+k < a.size->lt (att b j) (att a (i+k))=true:=λ h=>by simpa[B] using q3 k (zA2 _) (by lia)
       refine wif (λ c=>wif (λ d=>wpS_pure ⟨r4,.inl ⟨_,rfl,ea.last (by simpa using d) (hl' _ (by simpa using d))⟩⟩) λ d=>wif (λ d'=>wpS_pure ⟨r4,.inl ⟨_,rfl,ea.done (.inr (by simpa using d'))⟩⟩) λ d'=>?_) λ c=>?_
       all_goals first
         | (have z1:i+k+1 < a.size:=by (simp at d d';lia)
            have e:=ea;have z:=zz (by lia);have zb:x+2<=i+k+j:=by lia)
         | (obtain rfl:k=0:=by lia
            have e:=k1;have z1:=k2;have z:=zz (by lia);have zb:=k4)
       all_goals
         refine wpS_bind (wel (qb5 k3) (wif (λ d=>wpS_pure ⟨r4,.inl ⟨_,rfl,(e.pb (by lia) k3 z).done (.inl (by simpa using d))⟩⟩) λ d=>?_));have e2:=e.pb (by lia) k3 z;have z2:j+1 < b.size:=by simp at d;lia
         refine wpS_bind (wel (qb5 (by lia)) (wpS_bind (wgs hO hC (r4.1.trans hk) (hPa _ (by lia)) (by lia) hPb hsb.drop (by lia) λ q p1 p2 p3=>?_)));have eb:=e2.gb (k:=q) (by lia) λ n h1 h2=>p2 n h1
         refine wif (λ c=>wif (λ d=>wpS_pure ⟨r4,.inl ⟨_,rfl,eb.done (.inl (by simpa using d))⟩⟩) λ d2=>?_) λ c=>?_
         all_goals first
           | (have z3:j+1+q < b.size:=by (simp at d2;lia)
              have e3:=eb;have z4:=p3 q (zA2 _) (by lia))
           | (obtain rfl:q=0:=by lia
              have e3:=e2;have z3:=z2;have z4:=p3 0 (zA2 _) (by lia))
         all_goals
           refine wpS_bind (wel (qb5 (by lia)) (wif (λ d=>wpS_pure ⟨r4,.inl ⟨_,rfl,(e3.pa (by lia) z3 z4).last (by simpa using d) (hl' _ (by simpa using d))⟩⟩) λ d=>?_));have z5:=e3.pa (by lia) z3 z4;exact wif (λ _=>wpS_pure ⟨r4,.inr ⟨_,_,_,_,_,_,rfl,z5,by simp at d;lia,z3,by lia⟩⟩) λ _=>wpS_pure ⟨r4,_,_,_,_,_,_,rfl,z5,by simp at d;lia,z3,by lia⟩
   . rintro c st2 ⟨r2,o,i,j,g,x',y',rfl,k1,k2,k3,k4⟩
     exact⟨r2,.inr ⟨_,_,_,_,_,_,rfl,k1,k2,k3,k4⟩⟩
   rintro⟨c,c'⟩ st2 ⟨r2,⟨r,rfl,e⟩ | ⟨o,i,j,g,x',y',e,k1,k2,k3,k4⟩⟩
   . exact wpS_pure ⟨r2,r,rfl,e⟩
   cases e;exact wpS_bind (wsmg r2 λ st4 r4=>wpS_pure ⟨r4,_,_,_,_,rfl,k1,k2,k3,k4⟩)
 . rintro c st1 ⟨r1,o,i,j,g,rfl,g1,g2,g3,g4⟩
   lia
 rintro⟨c,c'⟩ st1 ⟨r1,r,rfl,e⟩;exact wpS_pure (h r st1 r1 e)
end
section
variable{prog:Program}{w:World}{A:Around}{E:Value->Shared->Prop}{s:Shared}{kd:SortKind}{P:Keyed->Prop}{lt:Keyed->Keyed->Bool}{st:SortSt}
def mhi:Array Keyed->Array Keyed->StateT SortSt Sem (Array Keyed):=sortPriv% PySem.Builtin.mergeHi
theorem qaJ8(a b:Array Keyed):mhi a b=(do
 rule "list.sort.merge-hi"
 let tt:=a.size+b.size
 let dn (o:Array Keyed) (i j:Nat):=a.extract 0 i++b.extract 0 j++o.reverse
 let fb (o:Array Keyed) (i j:Nat):=b.extract 0 j++a.extract 0 i++o.reverse
 let mut i:=a.size - 1
 let mut j:=b.size
 let mut o:Array Keyed:=#[<- elem' a i]
 if i == 0 then return dn o i j
 if j == 1 then return fb o i j
 let mut g:=gallopOf (<- get)
 for _ in [0:tt] do
   let mut x:=0
   let mut y:=0
   for _ in [0:tt] do
     let some t <- lt' (<- elem' b (j - 1)) (<- elem' a (i - 1)) | return dn o i j
     if t then
       i:=i - 1;o:=o.push (<- elem' a i);x:=x+1;y:=0
       if i == 0 then return dn o i j
       if x ≥ g then break
     else
       j:=j - 1;o:=o.push (<- elem' b j);y:=y+1;x:=0
       if j == 1 then return fb o i j
       if y ≥ g then break
   rule "list.sort.gallop"
   g:=g+1
   for _ in [0:tt] do
     if g > 1 then g:=g - 1
     smg g
     let some q <- gal false (<- elem' b (j - 1)) a 0 i (i - 1) | return dn o i j
     let k:=i - q
     x:=k
     if k > 0 then
       o:=o++(a.extract q i).reverse;i:=q
       if i == 0 then return dn o i j
     j:=j - 1;o:=o.push (<- elem' b j)
     if j == 1 then return fb o i j
     let some q <- gal true (<- elem' a (i - 1)) b 0 j (j - 1) | return dn o i j
     let k:=j - q
     y:=k
     if k > 0 then
       o:=o++(b.extract q j).reverse;j:=q
       if j == 1 then return fb o i j
       if j == 0 then return dn o i j
     i:=i - 1;o:=o.push (<- elem' a i)
     if i == 0 then return dn o i j
     if x < 7&&y < 7 then break
   g:=g+1
   smg g
 unsupported "internal:list.sort.merge-bound"):=rfl
def Eq3(lt:Keyed->Keyed->Bool)(a b o:Array Keyed)(i j:Nat):Prop:=List.merge (a.toList.take i) (b.toList.take j) (lee lt)++o.toList.reverse=List.merge a.toList b.toList (lee lt)
variable{a b o:Array Keyed}{i j k:Nat}
theorem qY1{a:Array Keyed}{k:Nat}(h:x∈a.toList.take k):∃ j,j < k/\j < a.size/\x=att a j:=by
 obtain⟨j,h1,h2,e⟩:=qp7 (i:=0) (k:=k) (by simpa using h);exact⟨j,h1,by lia,by rw[e,zAo]⟩
theorem qU7{a:Array Keyed}{i:Nat}(h:q<=i):a.toList.take i=a.toList.take q++(a.extract q i).toList:=by
 rw[qc5]
 conv=>lhs;rw[show i=q+(i - q) by lia,List.take_add]
theorem ext1{a:Array Keyed}{i:Nat}(h:0 < i)(hi:i<=a.size):(a.extract (i - 1) i).toList=[att a (i - 1)]:=by
 rw[qc5,Dq (by lia),show i - (i - 1)=1 by lia];rfl
theorem Eq3.done(h:Eq3 lt a b o i j)(hh:i=0∨j=0):(a.extract 0 i++b.extract 0 j++o.reverse).toList=List.merge a.toList b.toList (lee lt):=by
 rw[<- h,zB3,zB3,qc5,qc5,Array.toList_reverse];congr 1;rcases hh with rfl | rfl
 . simp
 simp
theorem Eq3.first(h:Eq3 lt a b o i j)(hj:j=1)(hb:0 < b.size)(hl:∀ n,n < a.size->lt (att b 0) (att a n)=true):(b.extract 0 j++a.extract 0 i++o.reverse).toList=List.merge a.toList b.toList (lee lt):=by
 rw[<- h,zB3,zB3,qc5,qc5,Array.toList_reverse];congr 1;subst hj
 have:=mg_r (le:=lee lt) (B2:=[]) (B1:=b.toList.take 1) (X:=a.toList.take i) λ y hy x hx=>by
   obtain⟨n,_,h2,rfl⟩:=qY1 hx;obtain⟨m,h3,h4,rfl⟩:=qY1 hy;obtain rfl:m=0:=by lia
   simp[hl _ h2]
 rw[zAd] at this;rw[this];simp
theorem Eq3.ga(h:Eq3 lt a b o i j)(hO:Od lt)(hsb:Srt lt (att b) b.size)(hq:q<=i)(hj:0 < j)(hj2:j<=b.size)(hl:∀ n,q<=n->n < i->n < a.size->lt (att b (j - 1)) (att a n)=true) :
   Eq3 lt a b (o++(a.extract q i).reverse) q j:=by
 unfold Eq3 at h ⊢;rw[<- h,qU7 hq,Ib (le:=lee lt)]
 . simp
 intro x hx y hy;rw[qc5] at hx;obtain⟨n,h1,h2,rfl⟩:=qp7 hx;obtain⟨m,h3,h4,rfl⟩:=qY1 hy;have e:=hl (q+n) (by lia) (by lia) h2;show (!lt (att b m) (att a (q+n)))=false;cases e2:lt (att b m) (att a (q+n)) with
 | true=>rfl
 | false=>rw[hO.tr _ _ _ e2 (hsb m (j - 1) (by lia) (by lia))] at e;cases e
theorem Eq3.gb(h:Eq3 lt a b o i j)(hO:Od lt)(hsa:Srt lt (att a) a.size)(hq:q<=j)(hi:0 < i)(hi2:i<=a.size)(hl:∀ n,q<=n->n < j->n < b.size->lt (att b n) (att a (i - 1))=false) :
   Eq3 lt a b (o++(b.extract q j).reverse) i q:=by
 unfold Eq3 at h ⊢;rw[<- h,qU7 hq,Gp (le:=lee lt)]
 . simp
 intro y hy x hx;rw[qc5] at hy;obtain⟨n,h1,h2,rfl⟩:=qp7 hy;obtain⟨m,h3,h4,rfl⟩:=qY1 hx;have e:=hl (q+n) (by lia) (by lia) h2;show (!lt (att b (q+n)) (att a m))=true;rw[hO.tr _ _ _ (hsa m (i - 1) (by lia) (by lia)) e];rfl
theorem Eq3.pa(h:Eq3 lt a b o i j)(hO:Od lt)(hsb:Srt lt (att b) b.size)(hi:0 < i)(hi2:i<=a.size)(hj:0 < j)(hj2:j<=b.size)(hl:lt (att b (j - 1)) (att a (i - 1))=true):Eq3 lt a b (o.push (att a (i - 1))) (i - 1) j:=by
 have:=h.ga hO hsb (q:=i - 1) (by lia) hj hj2 λ n h1 h2 _=>by rw[show n=i - 1 by lia];exact hl
 rwa[show o++(a.extract (i - 1) i).reverse=o.push (att a (i - 1)) from Array.toList_inj.mp (by rw[zB3,Array.toList_reverse,ext1 hi hi2,Array.toList_push];rfl)] at this
theorem Eq3.pb(h:Eq3 lt a b o i j)(hO:Od lt)(hsa:Srt lt (att a) a.size)(hi:0 < i)(hi2:i<=a.size)(hj:0 < j)(hj2:j<=b.size)(hl:lt (att b (j - 1)) (att a (i - 1))=false):Eq3 lt a b (o.push (att b (j - 1))) i (j - 1):=by
 have:=h.gb hO hsa (q:=j - 1) (by lia) hi hi2 λ n h1 h2 _=>by rw[show n=j - 1 by lia];exact hl
 rwa[show o++(b.extract (j - 1) j).reverse=o.push (att b (j - 1)) from Array.toList_inj.mp (by rw[zB3,Array.toList_reverse,ext1 hj hj2,Array.toList_push];rfl)] at this
theorem wmhi{Q:Array Keyed->SortSt->Prop}(hO:Od lt)(hC:Cm prog w A s kd P lt)(hk:kindOf st=kd)(hPa:∀ n,n < a.size->P (att a n))(hPb:∀ n,n < b.size->P (att b n))(hsa:Srt lt (att a) a.size)(hsb:Srt lt (att b) b.size)(h1a:0 < a.size)(h1b:0 < b.size)(h0:∀ n,n < a.size->lt (att b 0) (att a n)=true)(hl:lt (att b (b.size - 1)) (att a (a.size - 1))=true)(h:∀ r st',R st st'->r.toList=List.merge a.toList b.toList (lee lt)->Q r st'):wpS (model prog w) A E s (mhi a b) Q st:=by
 rw[qaJ8];refine wpS_bind (wpS_lift (wpAny_rule ⟨rfl,?_⟩));refine wpS_bind (wel (qb5 (by lia)) ?_);have e1:Eq3 lt a b #[att a (a.size - 1)] (a.size - 1) b.size :=
   Eq3.pa (o:=#[]) (i:=a.size) (j:=b.size) (by unfold Eq3;rw[show a.toList.take a.size=a.toList from zAs (zCc zB1),show b.toList.take b.size=b.toList from zAs (zCc zB1)];simp) hO hsb h1a (zA2 _) h1b (zA2 _) hl
 refine wif (λ c=>wpS_pure (h _ st ⟨rfl,rfl,rfl,rfl⟩ (e1.done (.inl (by simpa using c))))) λ c1=>?_
 refine wif (λ c=>wpS_pure (h _ st ⟨rfl,rfl,rfl,rfl⟩ (e1.first (by simpa using c) h1b h0))) λ c2=>?_
 refine wpS_bind (wpS_get ?_)
 let D (c:Option (Array Keyed)):Prop:=∃ r,c=some r/\r.toList=List.merge a.toList b.toList (lee lt)
 let G (n:Nat) (o:Array Keyed) (i j:Nat):Prop:=Eq3 lt a b o i j/\0 < i/\i<=a.size/\1 < j/\j<=b.size/\n+i+j<=a.size+b.size
 simp at c1 c2;refine wpS_bind (wpS_mono (wpS_forRange (I:=λ x c st'=>R st st'/\∃ i j o g,c=(none,i,j,o,g)/\G (x+1) o i j)
   (Q:=λ c st'=>R st st'/\D c.1) ?_ ?_ ⟨⟨rfl,rfl,rfl,rfl⟩,_,_,_,_,rfl,e1,by lia,by lia,by lia,by lia,by lia⟩) ?_)
 . rintro x c st1 - hx ⟨r1,i,j,o,g,rfl,g1,g2,g3,g4,g5,g6⟩
   refine wpS_bind (wpS_mono (wpS_forRange (I:=λ y c st'=>R st st'/\∃ i j o x' y',c=(none,i,j,o,x',y')/\G (x+1+y) o i j)
     (Q:=λ c st'=>R st st'/\(D c.1∨∃ i j o x' y',c=(none,i,j,o,x',y')/\G (x+2) o i j)) ?_ ?_ ⟨r1,_,_,_,_,_,rfl,g1,g2,g3,g4,g5,by lia⟩) ?_)
   . rintro y c st2 - hy ⟨r2,i,j,o,x',y',rfl,k1,k2,k3,k4,k5,k6⟩
     dsimp only;refine wpS_bind (wel (qb5 (by lia)) (wpS_bind (wel (qb5 (by lia)) (wpS_bind (wlt hC (r2.1.trans hk) (hPb _ (by lia)) (hPa _ (by lia)) ?_)))));cases hb:lt (att b (j - 1)) (att a (i - 1)) with
     | true =>
       refine wpS_bind (wel (qb5 (by lia)) ?_);have e2:=k1.pa hO hsb k2 k3 (by lia) k5 hb;refine wif (λ c=>wpS_pure ⟨r2,.inl ⟨_,rfl,e2.done (.inl (by simpa using c))⟩⟩) λ c=>?_
       simp at c;exact wif (λ _=>wpS_pure ⟨r2,.inr ⟨_,_,_,_,_,rfl,e2,by lia,by lia,k4,k5,by lia⟩⟩) λ _=>wpS_pure ⟨r2,_,_,_,_,_,rfl,e2,by lia,by lia,k4,k5,by lia⟩
     | false =>
       refine wpS_bind (wel (qb5 (by lia)) ?_);have e2:=k1.pb hO hsa k2 k3 (by lia) k5 hb;refine wif (λ c=>wpS_pure ⟨r2,.inl ⟨_,rfl,e2.first (by simpa using c) h1b h0⟩⟩) λ c=>?_
       simp at c;exact wif (λ _=>wpS_pure ⟨r2,.inr ⟨_,_,_,_,_,rfl,e2,k2,k3,by lia,by lia,by lia⟩⟩) λ _=>wpS_pure ⟨r2,_,_,_,_,_,rfl,e2,k2,k3,by lia,by lia,by lia⟩
   . rintro c st2 ⟨r2,i,j,o,x',y',rfl,k1,k2,k3,k4,k5,k6⟩
     exact⟨r2,.inr ⟨_,_,_,_,_,rfl,k1,k2,k3,k4,k5,by lia⟩⟩
   rintro⟨c,c'⟩ st2 ⟨r2,⟨r,rfl,e⟩ | ⟨i,j,o,x',y',e,k1,k2,k3,k4,k5,k6⟩⟩
   . exact wpS_pure ⟨r2,r,rfl,e⟩
   cases e;refine wpS_bind (wpS_lift (wpAny_rule ⟨rfl,?_⟩));refine wpS_bind (wpS_mono (wpS_forRange (I:=λ y c st'=>R st st'/\∃ i j o g x' y',c=(none,i,j,o,g,x',y')/\G (x+2) o i j)
     (Q:=λ c st'=>R st st'/\(D c.1∨∃ i j o g x' y',c=(none,i,j,o,g,x',y')/\G (x+2) o i j)) ?_ ?_ ⟨r2,_,_,_,_,_,_,rfl,k1,k2,k3,k4,k5,k6⟩) ?_)
   . rintro y c st3 - hy ⟨r3,i,j,o,g,x',y',rfl,k1,k2,k3,k4,k5,k6⟩
     dsimp only;refine wif (λ _=>?_) λ _=>?_
     all_goals
       refine wpS_bind (wsmg r3 λ st4 r4=>?_);refine wpS_bind (wel (qb5 (by lia)) ?_);refine wpS_bind (wgs hO hC (r4.1.trans hk) (hPb _ (by lia)) (by lia) hPa (λ n m h1 h2=>hsa _ _ (by lia) (by lia)) (by lia) λ q q1 q2 q3=>?_);have ea:=k1.ga hO hsb q1 (by lia) k5 λ n h1 h2 _=>by simpa[B] using q3 n h1 h2
       have zz:0 < q->lt (att b (j - 1)) (att a (q - 1))=false:=λ h=>by simpa[B] using q2 (q - 1) (by lia)
       refine wif (λ c=>wif (λ d=>wpS_pure ⟨r4,.inl ⟨_,rfl,ea.done (.inl (by simpa using d))⟩⟩) λ d'=>?_) λ c=>?_
       all_goals first
         | (have z1:0 < q:=by (simp at d';lia)
            have e:=ea;have z2:q<=a.size:=by lia
            have z:=zz z1;have zb:x+2+q+j<=a.size+b.size:=by lia)
         | (obtain rfl:q=i:=by lia
            have e:=k1;have z1:=k2;have z2:=k3;have z:=zz z1;have zb:=k6)
       all_goals
         have e2:=e.pb hO hsa z1 z2 (by lia) k5 z;refine wpS_bind (wel (qb5 (by lia)) (wif (λ d=>wpS_pure ⟨r4,.inl ⟨_,rfl,e2.first (by simpa using d) h1b h0⟩⟩) λ d=>?_));simp at d;refine wpS_bind (wel (qb5 (by lia)) (wpS_bind (wgs hO hC (r4.1.trans hk) (hPa _ (by lia)) (by lia) hPb (λ n m h1 h2=>hsb _ _ (by lia) (by lia)) (by lia) λ p p1 p2 p3=>?_)));have eb:=e2.gb hO hsa p1 z1 z2 λ n h1 h2 _=>by simpa[B] using p3 n h1 h2
         have yy:0 < p->lt (att b (p - 1)) (att a (_ - 1))=true:=λ h=>by simpa[B] using p2 (p - 1) (by lia)
         refine wif (λ c=>wif (λ d=>wpS_pure ⟨r4,.inl ⟨_,rfl,eb.first (by simpa using d) h1b h0⟩⟩) λ d1=>wif (λ d=>wpS_pure ⟨r4,.inl ⟨_,rfl,eb.done (.inr (by simpa using d))⟩⟩) λ d2=>?_) λ c=>?_
         all_goals first
           | (have y1:1 < p:=by (simp at d1 d2;lia)
              have e3:=eb;have y2:p<=b.size:=by lia
              have y4:=yy (by lia);have y5:x+2+_+p<=a.size+b.size:=zAn (Nat.add_le_add_left (by lia:p<=j) _) zb)
           | (obtain rfl:p=j - 1:=by lia
              have e3:=e2;have y1:1 < j - 1:=by lia
              have y2:j - 1<=b.size:=by lia
              have y4:=yy (by lia);have y5:x+2+_+(j - 1)<=a.size+b.size:=zAn (Nat.add_le_add_left (by lia:j - 1<=j) _) zb)
         all_goals
           have e4:=e3.pa hO hsb z1 z2 (by lia) y2 y4;refine wpS_bind (wel (qb5 (by lia)) (wif (λ d=>wpS_pure ⟨r4,.inl ⟨_,rfl,e4.done (.inl (by simpa using d))⟩⟩) λ d=>?_));simp at d;exact wif (λ _=>wpS_pure ⟨r4,.inr ⟨_,_,_,_,_,_,rfl,e4,by lia,by lia,y1,y2,by lia⟩⟩) λ _=>wpS_pure ⟨r4,_,_,_,_,_,_,rfl,e4,by lia,by lia,y1,y2,by lia⟩
   . rintro c st2 ⟨r2,i,j,o,g,x',y',rfl,k1,k2,k3,k4,k5,k6⟩
     exact⟨r2,.inr ⟨_,_,_,_,_,_,rfl,k1,k2,k3,k4,k5,k6⟩⟩
   rintro⟨c,c'⟩ st2 ⟨r2,⟨r,rfl,e⟩ | ⟨i,j,o,g,x',y',e,k1,k2,k3,k4,k5,k6⟩⟩
   . exact wpS_pure ⟨r2,r,rfl,e⟩
   cases e;exact wpS_bind (wsmg r2 λ st4 r4=>wpS_pure ⟨r4,_,_,_,_,rfl,k1,k2,k3,k4,k5,by lia⟩)
 . rintro c st1 ⟨r1,i,j,o,g,rfl,g1,g2,g3,g4,g5,g6⟩
   lia
 rintro⟨c,c'⟩ st1 ⟨r1,r,rfl,e⟩;exact wpS_pure (h r st1 r1 e)
end
theorem qj8{ys:Array Keyed}{i j:Nat}(h:xs[i]? = ys[j]?):att xs i=att ys j:=by
 have e:∀(zs:Array Keyed) k,att zs k=(zs[k]?).getD (Value.none,Value.none):=λ zs k=>by simp[att,Array.getD_eq_getD_getElem?]
 rw[e,e,h]
theorem qab7{src d:Nat}(hs:src < xs.size)(hd:d<=src)(k:Nat) :
   att (bubble xs src d) k=if k=src - d then att xs src else if src - d < k/\k<=src then att xs (k - 1) else att xs k:=by
 have e:=getElem?_bubble hs d hd k;split at e
 . rw[if_pos (by assumption)];exact qj8 e
 rw[if_neg (by assumption)];split at e
 . rw[if_pos (by assumption)];exact qj8 e
 rw[if_neg (by assumption)];exact qj8 e
theorem qab6{i j:Nat}(hj:j<=xs.size)(k:Nat) :
   att (mirror xs i j ((j - i) / 2)) k=if i<=k/\k < j then att xs (i+j - 1 - k) else att xs k:=by
 have e:=getElem?_mirror_all (i:=i) hj k;split at e
 . rw[if_pos (by assumption)];exact qj8 e
 rw[if_neg (by assumption)];exact qj8 e
theorem qan1{a:Array Keyed}{i:Nat}(h:i < a.size):att a i∈a.toList:=by simp[att,Array.getD,h]
theorem Srt.more{lt:Keyed->Keyed->Bool}{x:Nat}(h:Srt lt f x)(hO:Od lt)(e:0 < x->lt (f x) (f (x - 1))=false):Srt lt f (x+1):=λ i j a b=>by
 by_cases c:j < x
 . exact h i j a c
 obtain rfl:j=x:=by lia
 by_cases q:i=j
 . rw[q];exact hO.ir _
 exact hO.tr _ _ _ (h i (j - 1) (by lia) (by lia)) (e (by lia))
structure Bt(a0:Array Keyed)(lo:Nat)(st st':SortSt):Prop where
 kd:kindOf st'=kindOf st
 fl:failedOf st'=failedOf st
 pd:pendingOf st'=pendingOf st
 pm:(arrOf st').Perm a0
 pr:∀ i,i < lo->att (arrOf st') i=att (arrOf st) i
section
variable{prog:Program}{w:World}{A:Around}{E:Value->Shared->Prop}{s:Shared}{kd:SortKind}{lt:Keyed->Keyed->Bool}{st st1:SortSt}{a0:Array Keyed}{lo:Nat}
theorem Bt.sz(h:Bt a0 lo st st1):(arrOf st1).size=a0.size:=h.pm.size_eq
theorem Bt.mem(h:Bt a0 lo st st1){i:Nat}(hi:i < a0.size):att (arrOf st1) i∈a0.toList:=(zBo.mp h.pm).mem_iff.mp (qan1 (by rw[h.sz];exact hi))
theorem Bt.set(h:Bt a0 lo st st1)(hp:xs.Perm (arrOf st1))(hr:∀ i,i < lo->att xs i=att (arrOf st1) i):Bt a0 lo st (setArr st1 xs) :=
 ⟨h.kd,h.fl,h.pd,hp.trans h.pm,λ i hi=>(hr i hi).trans (h.pr i hi)⟩
abbrev Cn(prog:Program)(w:World)(A:Around)(s:Shared)(kd:SortKind)(a0:Array Keyed)(lt:Keyed->Keyed->Bool):Prop:=Cm prog w A s kd (λ x=>x∈a0.toList) lt
theorem wat{i j:Nat}{Q:Option Bool->SortSt->Prop}(hC:Cn prog w A s kd a0 lt)(hk:kindOf st=kd)(h:Bt a0 lo st st1)(hi:i < a0.size)(hj:j < a0.size)(hq:Q (some (lt (att (arrOf st1) i) (att (arrOf st1) j))) st1):wpS (model prog w) A E s (ltAt' i j) Q st1:=by
 rw[ltAt'_eq];refine wpS_bind (wpS_get ?_);exact wpS_bind (wel (qb5 (by rw[h.sz];exact hi)) (wpS_bind (wel (qb5 (by rw[h.sz];exact hj)) (wlt hC (h.kd.trans hk) (h.mem hi) (h.mem hj) hq))))
theorem wmv{p:Nat}(h:Q () (setArr st1 (bubble (arrOf st1) p (p - q)))):wpS (model prog w) A E s (moveDown' p q) Q st1:=by
 rw[moveDown'_eq];exact wpS_modify h
theorem wbin{ok:Nat}{Q:Bool->SortSt->Prop}(hO:Od lt)(hC:Cn prog w A s kd a0 lt)(hk:kindOf st=kd)(hn:lo+n<=a0.size)(hok:ok<=n)(h1:1<=ok)(hB:Bt a0 lo st st1)(hs:Srt lt (λ i=>att (arrOf st1) (lo+i)) ok)(h:∀ st',Bt a0 lo st st'->Srt lt (λ i=>att (arrOf st') (lo+i)) n->Q true st'):wpS (model prog w) A E s (binarySort' lo n ok) Q st1:=by
 rw[binarySort'_eq];refine wpS_bind (wpS_mono (wpS_forRange (I:=λ k c st'=>c=(none,())/\Bt a0 lo st st'/\Srt lt (λ i=>att (arrOf st') (lo+i)) (min k n))
   (Q:=λ c st'=>c=(none,())/\Bt a0 lo st st'/\Srt lt (λ i=>att (arrOf st') (lo+i)) n) ?_ ?_ ⟨rfl,hB,λ i j a b=>hs i j a (by lia)⟩) ?_)
 . rintro k c st2 hk1 hk2 ⟨rfl,b2,s2⟩
   rw[show min k n=k by lia] at s2;refine wpS_bind (wpS_mono (wpS_forRange (I:=λ x c st'=>st'=st2/\∃ l r,c=(none,l,r)/\l<=r/\r<=k/\r - l<=k - x /\
       (∀ i,i < l->lt (att (arrOf st2) (lo+k)) (att (arrOf st2) (lo+i))=false)/\(∀ i,r<=i->i < k->lt (att (arrOf st2) (lo+i)) (att (arrOf st2) (lo+k))=false))
     (Q:=λ c st'=>st'=st2/\∃ l,c=(none,l,l)/\l<=k /\
       (∀ i,i < l->lt (att (arrOf st2) (lo+k)) (att (arrOf st2) (lo+i))=false)/\(∀ i,l<=i->i < k->lt (att (arrOf st2) (lo+i)) (att (arrOf st2) (lo+k))=false)) ?_ ?_ ⟨rfl,0,k,rfl,by lia,by lia,by lia,λ i hi=>by lia,λ i h1 h2=>by lia⟩) ?_)
   . rintro x c st3 - hx ⟨rfl,l,r,rfl,c1,c2,c3,c4,c5⟩
     dsimp only;refine wif (λ d=>?_) λ d=>?_
     . obtain rfl:l=r:=by lia
       exact wpS_pure ⟨rfl,l,rfl,c2,c4,c5⟩
     refine wpS_bind (wat hC hk b2 (by lia) (by lia) ?_);cases hb:lt (att (arrOf st3) (lo+k)) (att (arrOf st3) (lo+(l+r) / 2)) with
     | true=>exact wpS_pure ⟨rfl,l,_,rfl,by lia,by lia,by lia,c4,λ i h1 h2=>hO.tr _ _ _ (hO.as _ _ hb) (s2 _ _ h1 h2)⟩
     | false=>exact wpS_pure ⟨rfl,_,r,rfl,by lia,by lia,by lia,λ i h1=>hO.tr _ _ _ (s2 i _ (by lia) (by lia)) hb,c5⟩
   . rintro c st3 ⟨rfl,l,r,rfl,c1,c2,c3,c4,c5⟩
     obtain rfl:l=r:=by lia
     exact⟨rfl,l,rfl,c2,c4,c5⟩
   rintro c st3 ⟨rfl,l,rfl,c2,c4,c5⟩;dsimp only;have z:lo+k < (arrOf st3).size:=by rw[b2.sz];lia
   refine wpS_bind (wmv (wpS_pure ⟨rfl,b2.set (bubble_perm _ _ _) λ i hi=>?_,?_⟩))
   . rw[qab7 z (by lia),if_neg (by lia),if_neg (by lia)]
   rw[show min (k+1) n=k+1 by lia];intro i j hij hj;show lt (att (bubble _ _ _) _) (att (bubble _ _ _) _)=false;rw[qab7 z (by lia),qab7 z (by lia)]
   repeat' split
   all_goals first
     | (exfalso;lia)
     | exact hO.ir _
     | exact c4 _ (by lia)
     | (rw[show lo+j - 1=lo+(j - 1) by lia];exact c5 _ (by lia) (by lia))
     | (rw[show lo+j - 1=lo+(j - 1) by lia];exact s2 _ _ (by lia) (by lia))
     | (rw[show lo+j - 1=lo+(j - 1) by lia,show lo+i - 1=lo+(i - 1) by lia];exact s2 _ _ (by lia) (by lia))
     | exact s2 _ _ (by lia) (by lia)
 . rintro c st2 ⟨hc,b2,s2⟩
   rw[show min (max (max ok 1) n) n=n by lia] at s2;exact⟨hc,b2,s2⟩
 rintro c st2 ⟨rfl,b2,s2⟩;exact wpS_pure (h st2 b2 s2)
def Ds(lt:Keyed->Keyed->Bool)(a0:Array Keyed):Prop:=a0.toList.Pairwise λ x y=>lt x y=true∨lt y x=true
theorem Ds.at(h:Ds lt a0)(b:Bt a0 lo st st1){i j:Nat}(hij:i≠j)(hi:i < a0.size)(hj:j < a0.size)(hn:lt (att (arrOf st1) i) (att (arrOf st1) j)=false):lt (att (arrOf st1) j) (att (arrOf st1) i)=true:=by
 have h':(arrOf st1).toList.Pairwise λ x y=>lt x y=true∨lt y x=true:=((zBo.mp b.pm).pairwise_iff λ h=>h.symm).mpr h
 rw[List.pairwise_iff_getElem] at h';have g:∀ k,k < a0.size->∃ hk,(arrOf st1).toList[k]'hk=att (arrOf st1) k:=λ k hk=>⟨by rw[zB1,b.sz];exact hk,by simp[att,Array.getD,show k < (arrOf st1).size by rw[b.sz];exact hk]⟩
 obtain⟨h1,e1⟩:=g i hi;obtain⟨h2,e2⟩:=g j hj;rcases Nat.lt_or_gt_of_ne hij with q | q
 . have:=h' i j h1 h2 q
   rw[e1,e2,hn] at this;simpa using this
 have:=h' j i h2 h1 q
 rw[e1,e2,hn] at this;simpa using this
theorem wcnt{m:Nat}{Q:Option Nat->SortSt->Prop}(hO:Od lt)(hC:Cn prog w A s kd a0 lt)(hD:Ds lt a0)(hk:kindOf st=kd)(hn:lo+m<=a0.size)(h1:1<=m)(hB:Bt a0 lo st st1)(h:∀ n st',Bt a0 lo st st'->1<=n->n<=m->Srt lt (λ i=>att (arrOf st') (lo+i)) n->Q (some n) st'):wpS (model prog w) A E s (countRun' lo m) Q st1:=by
 rw[countRun'_eq];refine wpS_bind (wpS_mono (wpS_forRange (I:=λ x c st'=>st'=st1/\c=(none,x)/\Srt lt (λ i=>att (arrOf st1) (lo+i)) x)
   (Q:=λ c st'=>st'=st1/\∃ n,c=(none,n)/\1<=n/\n<=m/\Srt lt (λ i=>att (arrOf st1) (lo+i)) n/\(n=m∨lt (att (arrOf st1) (lo+n)) (att (arrOf st1) (lo+n - 1))=true)) ?_ ?_ ⟨rfl,rfl,λ i j a b=>by rw[show i=j by lia];exact hO.ir _⟩) ?_)
 . rintro x c st2 hx1 hx ⟨rfl,rfl,s2⟩
   refine wpS_bind (wat hC hk hB (by lia) (by lia) ?_);cases hb:lt (att (arrOf st2) (lo+x)) (att (arrOf st2) (lo+x - 1)) with
   | true=>exact wpS_pure ⟨rfl,x,rfl,hx1,by lia,s2,.inr hb⟩
   | false=>exact wpS_pure ⟨rfl,rfl,s2.more hO λ _=>by rw[<- Nat.add_sub_assoc hx1];exact hb⟩
 . rintro c st2 ⟨rfl,rfl,s2⟩
   rw[show max 1 m=m by lia] at s2 ⊢;exact⟨rfl,m,rfl,h1,zA2 _,s2,.inl rfl⟩
 rintro c st2 ⟨rfl,n,rfl,n1,n2,s2,d⟩;dsimp only;refine wif (λ _=>wpS_pure (h n st2 hB n1 n2 s2)) λ c=>?_
 have d:=d.resolve_left (by simpa using c);refine wif (λ c2=>wpS_bind (wat hC hk hB (by lia) (by lia) ?_)) λ c2=>?_
 . have e:lt (att (arrOf st2) lo) (att (arrOf st2) (lo+n - 1))=true:=hD.at hB (by lia) (by lia) (by lia) (by rw[Nat.add_sub_assoc n1];exact s2 0 (n - 1) (by lia) (by lia))
   rw[e];exact wpS_pure (h n st2 hB n1 n2 s2)
 obtain rfl:n=1:=by lia
 simp at c;refine wpS_bind (wpS_lift (wpAny_rule ⟨rfl,?_⟩));have hF:Od λ x y=>lt y x:=⟨λ x y q=>hO.as _ _ q,λ x y z p q=>hO.tr _ _ _ q p⟩
 refine wpS_bind (wpS_mono (wpS_forRange (I:=λ x c st'=>st'=st2/\c=(none,x,0)/\Srt (λ x y=>lt y x) (λ i=>att (arrOf st2) (lo+i)) x)
   (Q:=λ c st'=>st'=st2/\∃ n,c=(none,n,0)/\2<=n/\n<=m/\Srt (λ x y=>lt y x) (λ i=>att (arrOf st2) (lo+i)) n) ?_ ?_ ⟨rfl,rfl,?_⟩) ?_)
 . rintro x c st3 hx1 hx ⟨rfl,rfl,s3⟩
   dsimp only;refine wpS_bind (wat hC hk hB (by lia) (by lia) ?_);dsimp only;cases hb:lt (att (arrOf st3) (lo+x)) (att (arrOf st3) (lo+x - 1)) with
   | true=>exact wif (λ _=>wif (λ c=>absurd c (zBz 0)) λ _=>wpS_pure ⟨rfl,rfl,s3.more hF λ _=>by rw[<- Nat.add_sub_assoc (by lia)];exact hO.as _ _ hb⟩) λ c=>absurd rfl c
   | false =>
     refine wpS_bind (wat hC hk hB (by lia) (by lia) ?_);rw[hD.at hB (by lia) (by lia) (by lia) hb];exact wpS_pure ⟨rfl,x,rfl,hx1,by lia,s3⟩
 . rintro c st3 ⟨rfl,rfl,s3⟩
   rw[show max (1+1) m=m by lia] at s3 ⊢;exact⟨rfl,m,rfl,by lia,zA2 _,s3⟩
 . refine Srt.more (λ i j a b=>?_) hF λ _=>hO.as _ _ d
   obtain rfl:i=j:=by lia
   exact hO.ir _
 rintro c st3 ⟨rfl,n,rfl,n1,n2,s3⟩;refine wif (λ c=>absurd c (zBz 0)) λ _=>?_
 dsimp only;have z:lo+n<=(arrOf st3).size:=by rw[hB.sz];lia
 have hB':=hB.set (mirror_perm (arrOf st3) lo (lo+n) ((lo+n - lo) / 2)) λ i hi=>by rw[qab6 z,if_neg (by lia)]
 refine wpS_bind (wpS_reverse ?_);refine wpS_bind (wpS_mono (wpS_forRange (I:=λ x c st'=>st'=setArr st3 (mirror (arrOf st3) lo (lo+n) ((lo+n - lo) / 2))/\c=(none,x)/\Srt lt (λ i=>att (arrOf st') (lo+i)) x)
   (Q:=λ c st'=>st'=setArr st3 (mirror (arrOf st3) lo (lo+n) ((lo+n - lo) / 2))/\∃ k,c=(none,k)/\1<=k/\k<=m/\Srt lt (λ i=>att (arrOf st') (lo+i)) k) ?_ ?_ ⟨rfl,rfl,λ i j a b=>?_⟩) ?_)
 . rintro x c st4 hx1 hx ⟨rfl,rfl,s4⟩
   refine wpS_bind (wat hC hk hB' (by lia) (by lia) ?_);cases hb:lt (att (arrOf (setArr st3 (mirror (arrOf st3) lo (lo+n) ((lo+n - lo) / 2)))) (lo+x)) (att (arrOf (setArr st3 (mirror (arrOf st3) lo (lo+n) ((lo+n - lo) / 2)))) (lo+x - 1)) with
   | true=>exact wpS_pure ⟨rfl,x,rfl,by lia,by lia,s4⟩
   | false=>exact wpS_pure ⟨rfl,rfl,s4.more hO λ _=>by rw[<- Nat.add_sub_assoc (by lia)];exact hb⟩
 . rintro c st4 ⟨rfl,rfl,s4⟩
   rw[show max n m=m by lia] at s4 ⊢;exact⟨rfl,m,rfl,by lia,zA2 _,s4⟩
 . show lt (att (mirror _ _ _ _) _) (att (mirror _ _ _ _) _)=false
   rw[qab6 z,qab6 z,if_pos (by lia),if_pos (by lia)]
   have:=s3 (n - 1 - j) (n - 1 - i) (by lia) (by lia)
   rw[show lo+(lo+n) - 1 - (lo+j)=lo+(n - 1 - j) by lia,show lo+(lo+n) - 1 - (lo+i)=lo+(n - 1 - i) by lia];exact this
 rintro c st4 ⟨rfl,k,rfl,k1,k2,s4⟩;exact wpS_pure (h k _ hB' k1 k2 s4)
end
theorem qaJ9(i:Nat):mergeAt' i=(do
 let s <- get
 let (some (p,n,pw),some (q,m,_)):=((pendingOf s)[i]?,(pendingOf s)[i+1]?) | unsupported "internal:list.sort.pending"
 set (setPending s (((pendingOf s).setIfInBounds i (p,n+m,pw)).eraseIdxIfInBounds (i+1)))
 let some k <- gal false (<- elem' (arrOf s) q) (arrOf s) p n 0 | return false
 let (p,n):=(p+k,n - k)
 if n == 0 then return true
 let some m <- gal true (<- elem' (arrOf s) (p+n - 1)) (arrOf s) q m (m - 1) | return false
 if m == 0 then return true
 let x:=(arrOf s).extract p q
 let y:=(arrOf s).extract q (q+m)
 let r <- if n<=m then mlo x y else mhi x y
 modify λ s=>setArr s (r.toList.zipIdx.foldl (λ a (z,j)=>a.setIfInBounds (p+j) z) (arrOf s))
 return (failedOf (<- get)).isNone):=rfl
theorem wr{p:Nat}:∀(L:List Keyed)(n:Nat)(a:Array Keyed),p+n+L.length<=a.size ->
   ((L.zipIdx n).foldl (λ(a:Array Keyed)(z:Keyed×Nat)=>a.setIfInBounds (p+z.2) z.1) a).toList=a.toList.take (p+n)++L++a.toList.drop (p+n+L.length)
 | [],n,a,_=>by simp
 | x::L,n,a,h=>by
   rw[zAk] at h;rw[List.zipIdx_cons,List.foldl_cons,wr L (n+1) _ (by rw[Array.size_setIfInBounds];lia),Array.toList_setIfInBounds,<- Nat.add_assoc,zAk,
     List.drop_set_of_lt (by lia),List.take_set,List.take_add_one,show a.toList[p+n]?.toList=[att a (p+n)] from ?_,List.set_append_right _ _ (by simp;lia),show p+n+1+L.length=p+n+(L.length+1) by lia]
   . simp[show min (p+n) a.size=p+n by lia]
   rw[Array.getElem?_toList,qb5 (by lia)];rfl
theorem qan2{a:Array Keyed}{i j:Nat}(h:i+n < j)(hj:j<=a.size):att (a.extract i j) n=att a (i+n) :=
 qj8 (by rw[Array.getElem?_extract];rw[if_pos (by lia)])
section
variable{prog:Program}{w:World}{A:Around}{E:Value->Shared->Prop}{s:Shared}{kd:SortKind}{lt:Keyed->Keyed->Bool}{st:SortSt}{a0:Array Keyed}
theorem wset{st':SortSt}{Q:PUnit->SortSt->Prop}(h:Q ⟨⟩ st'):wpS (model prog w) A E s (set st':StateT SortSt Sem PUnit) Q st:=by
 unfold wpS;rw[StateT.run_set];exact wpAny_pure ⟨rfl,h⟩
theorem wmat{Q:Bool->SortSt->Prop}{m pw pv:Nat}(hO:Od lt)(hC:Cn prog w A s kd a0 lt)(hk:kindOf st=kd)(hf:failedOf st=none)(hp:pendingOf st = #[(0,n,pw),(n,m,pv)])(hpm:(arrOf st).Perm a0)(hn:0 < n)(hm:0 < m)(hz:n+m=a0.size)(h1:Srt lt (att (arrOf st)) n)(h2:Srt lt (λ i=>att (arrOf st) (n+i)) m)(h:∀ st',failedOf st'=none->pendingOf st' = #[(0,n+m,pw)]->(arrOf st').toList=List.merge ((arrOf st).toList.take n) ((arrOf st).toList.drop n) (lee lt)->Q true st'):wpS (model prog w) A E s (mergeAt' 0) Q st:=by
 have hsz:(arrOf st).size=n+m:=hpm.size_eq.trans hz.symm;have hP:∀ i,i < (arrOf st).size->att (arrOf st) i∈a0.toList:=λ i hi=>(zBo.mp hpm).mem_iff.mp (qan1 hi)
 rw[qaJ9];refine wpS_bind (wpS_get ?_);rw[hp];have ep:(#[(0,n,pw),(n,m,pv)].setIfInBounds 0 (0,n+m,pw)).eraseIdxIfInBounds (0+1) = #[(0,n+m,pw)]:=by simp[Array.eraseIdxIfInBounds]
 refine wpS_bind (wset ?_);rw[ep];refine wpS_bind (wel (qb5 (by lia)) (wpS_bind (wgs hO hC hk (hP _ (by lia)) (by lia) hP (λ i j a b=>by dsimp only;rw[zAo,zAo];exact h1 i j a b) hn λ k k1 k2 k3=>?_)));simp only[zAo] at k2 k3 ⊢;have sD:(arrOf st).toList.drop n=att (arrOf st) n::(arrOf st).toList.drop (n+1):=Dq (by lia);have c0:List.merge ((arrOf st).toList.take n) ((arrOf st).toList.drop n) (lee lt)=(arrOf st).toList.take k++List.merge (((arrOf st).toList.drop k).take (n - k)) ((arrOf st).toList.drop n) (lee lt):=by
   rw[<- List.drop_take,<- show ((arrOf st).toList.take n).take k=(arrOf st).toList.take k by rw[List.take_take,Nat.min_eq_left k1]]
   conv=>lhs;rw[<- zBd k ((arrOf st).toList.take n)]
   rw[sD,Ic (le:=lee lt)];intro x hx;rw[List.take_take,Nat.min_eq_left k1] at hx;obtain⟨i,i1,i2,rfl⟩:=qY1 hx;exact k2 i i1
 refine wif (λ c=>wpS_pure (h _ hf rfl ?_)) λ c=>?_
 . obtain rfl:k=n:=by simp at c;lia
   rw[c0,Nat.sub_self,List.take_zero,List.nil_merge,zBd]
 have c:k < n:=by simp at c;lia
 rw[show k+(n - k) - 1=n - 1 by lia];refine wpS_bind (wel (qb5 (by lia)) (wpS_bind (wgs hO hC hk (hP _ (by lia)) (by lia) hP h2 (by lia) λ v v1 v2 v3=>?_)));have c1:List.merge (((arrOf st).toList.drop k).take (n - k)) ((arrOf st).toList.drop n) (lee lt)=List.merge (((arrOf st).toList.drop k).take (n - k)) (((arrOf st).toList.drop n).take v) (lee lt)++(arrOf st).toList.drop (n+v):=by
   conv=>lhs;rw[<- zBd v ((arrOf st).toList.drop n)]
   rw[List.drop_drop,Gp (le:=lee lt)];intro y hy x hx;obtain⟨i,i1,i2,rfl⟩:=qp7 hx;rw[<- zAs (l:=(arrOf st).toList.drop (n+v)) (zA2 _)] at hy;obtain⟨j,_,j2,rfl⟩:=qp7 hy;have e1:=h1 (k+i) (n - 1) (by lia) (by lia);have e2:lt (att (arrOf st) (n+(v+j))) (att (arrOf st) (n - 1))=false:=v3 (v+j) (by lia) (by lia);rw[<- Nat.add_assoc] at e2;show (!lt _ _)=true;rw[hO.tr _ _ _ e1 e2];rfl
 dsimp only;refine wif (λ c=>wpS_pure (h _ hf rfl ?_)) λ d=>?_
 . obtain rfl:v=0:=by simpa using c
   rw[c0,c1,List.take_zero,List.merge_right,Nat.add_zero,<- zAi,<- List.take_add,show k+(n - k)=n by lia,zBd]
 have d:0 < v:=by simp at d;lia
 have xs:((arrOf st).extract k n).size=n - k:=by rw[Array.size_extract];lia
 have ys:((arrOf st).extract n (n+v)).size=v:=by rw[Array.size_extract];lia
 have xa:∀ i,i < n - k->att ((arrOf st).extract k n) i=att (arrOf st) (k+i):=λ i hi=>qan2 (by lia) (by lia)
 have ya:∀ i,i < v->att ((arrOf st).extract n (n+v)) i=att (arrOf st) (n+i):=λ i hi=>qan2 (by lia) (by lia)
 have post:∀(r:Array Keyed)(st3:SortSt),R (setPending st #[(0,n+m,pw)]) st3 ->
     r.toList=List.merge ((arrOf st).extract k n).toList ((arrOf st).extract n (n+v)).toList (lee lt)->wpS (model prog w) A E s (do
       modify λ s=>setArr s (List.foldl (λ(a:Array Keyed)(x:Keyed×Nat)=>match x with | (z,j)=>a.setIfInBounds (k+j) z) (arrOf s) r.toList.zipIdx)
       let t <- get
       pure (failedOf t).isNone) Q st3:=by
   intro r st3 r3 e;have len:r.toList.length=n - k+v:=by rw[e,List.length_merge,zB1,zB1,xs,ys]
   refine wpS_bind (wpS_modify (wpS_bind (wpS_get ?_)));show wpS _ _ _ _ (pure (failedOf st3).isNone) Q _;rw[r3.2.2.2];show wpS _ _ _ _ (pure (failedOf st).isNone) Q _;rw[hf];refine wpS_pure (h _ (r3.2.2.2.trans hf) r3.2.2.1 ?_);show (List.foldl _ (arrOf st3) _).toList=_;rw[show arrOf st3=arrOf st from r3.2.1];have q:=wr (p:=k) r.toList 0 (arrOf st) (by lia);rw[Nat.add_zero,len,show k+(n - k+v)=n+v by lia,e,qc5,qc5,show n+v - n=v by lia,zAi,<- c1,<- c0] at q;rw[e,qc5,qc5,show n+v - n=v by lia];exact q
 refine wif (λ _=>wpS_bind (wmlo hO hC hk (λ i hi=>?_) (λ i hi=>?_) (λ i j a b=>?_) (λ i j a b=>?_) (by lia) (by lia) ?_ (λ i hi=>?_) post)) λ _=>wpS_bind (wmhi hO hC hk (λ i hi=>?_) (λ i hi=>?_) (λ i j a b=>?_) (λ i j a b=>?_) (by lia) (by lia) (λ i hi=>?_) ?_ post)
 . rw[xa i (by lia)];exact hP _ (by lia)
 . rw[ya i (by lia)];exact hP _ (by lia)
 . rw[xa i (by lia),xa j (by lia)];exact h1 _ _ (by lia) (by lia)
 . rw[ya i (by lia),ya j (by lia)];exact h2 _ _ (by lia) (by lia)
 . rw[xa 0 (by lia),ya 0 (by lia)];simpa[B] using k3 k (zA2 _) c
 . rw[xs,xa _ (by lia),ya i (by lia),show k+(n - k - 1)=n - 1 by lia];exact v2 i (by lia)
 . rw[xa i (by lia)];exact hP _ (by lia)
 . rw[ya i (by lia)];exact hP _ (by lia)
 . rw[xa i (by lia),xa j (by lia)];exact h1 _ _ (by lia) (by lia)
 . rw[ya i (by lia),ya j (by lia)];exact h2 _ _ (by lia) (by lia)
 . rw[xa i (by lia),ya 0 (by lia)];simpa[B] using k3 (k+i) (by lia) (by lia)
 rw[xs,ys,xa _ (by lia),ya _ (by lia),show k+(n - k - 1)=n - 1 by lia];exact v2 _ (by lia)
end
section
variable{prog:Program}{w:World}{A:Around}{E:Value->Shared->Prop}{s:Shared}{kd:SortKind}{lt:Keyed->Keyed->Bool}{st:SortSt}{a0:Array Keyed}
theorem qao3{i:Nat}(hs:Srt lt (λ j=>att xs (i+j)) n)(hz:i+n<=xs.size):((xs.toList.drop i).take n).Pairwise λ x y=>lee lt x y=true:=by
 rw[List.pairwise_iff_getElem];intro p q h1 h2 hpq;rw[zBw,List.length_drop,zB1] at h1 h2;have e:∀ p (h:p < ((xs.toList.drop i).take n).length),((xs.toList.drop i).take n)[p]=att xs (i+p):=λ p h=>by
   rw[List.getElem_take,List.getElem_drop];rw[zBw,List.length_drop,zB1] at h;simp[att,Array.getD,show i+p < xs.size by lia]
 rw[e,e];show (!lt _ _)=true;rw[hs p q (by lia) (by lia)];rfl
def F7(lt:Keyed->Keyed->Bool)(a0:Array Keyed)(st:SortSt):Prop:=(arrOf st).toList.Perm a0.toList/\(arrOf st).toList.Pairwise (λ x y=>lee lt x y=true)/\failedOf st=none
structure One(lt:Keyed->Keyed->Bool)(kd:SortKind)(a0:Array Keyed)(n:Nat)(st:SortSt):Prop where
 pm:(arrOf st).Perm a0
 k:kindOf st=kd
 f:failedOf st=none
 p:pendingOf st = #[(0,n,0)]
 s:Srt lt (att (arrOf st)) n
structure Two(lt:Keyed->Keyed->Bool)(kd:SortKind)(a0:Array Keyed)(n m pw:Nat)(st:SortSt):Prop where
 pm:(arrOf st).Perm a0
 k:kindOf st=kd
 f:failedOf st=none
 p:pendingOf st = #[(0,n,pw),(n,m,0)]
 s:Srt lt (att (arrOf st)) n
 t:Srt lt (λ i=>att (arrOf st) (n+i)) m
theorem One.fin(h:One lt kd a0 n st)(hn:n=a0.size):F7 lt a0 st:=by
 refine⟨zBo.mp h.pm,?_,h.f⟩
 have:=qao3 (i:=0) (n:=n) (xs:=arrOf st) (λ i j a b=>by dsimp only;rw[zAo,zAo];exact h.s i j a b) (by rw[h.pm.size_eq];lia)
 rwa[List.drop_zero,zAs (by rw[zB1,h.pm.size_eq];lia)] at this
theorem wrun(hO:Od lt)(hC:Cn prog w A s kd a0 lt)(hD:Ds lt a0)(hk:kindOf st=kd)(hf:failedOf st=none)(hp:pendingOf st = #[])(hpm:(arrOf st).Perm a0)(h64:a0.size=64)(h:∀ st',F7 lt a0 st'->Q () st'):wpS (model prog w) A E s sortRuns' Q st:=by
 rw[sortRuns'_eq];refine wpS_bind (wpS_get ?_);dsimp only;simp only[hpm.size_eq,h64];have hm:minRun' 64 64 0=32:=rfl;rw[hm];refine wpS_bind (wpS_mono (wpS_forRange
   (I:=λ x c st'=>(x=0/\c=(none,0)/\st'=st)∨(x=1/\∃ n,c=(none,n)/\32<=n/\n<=64/\One lt kd a0 n st')∨(2<=x/\c=(none,64)/\∃ n m pw,n+m=64/\0 < n/\0 < m/\Two lt kd a0 n m pw st'))
   (Q:=λ c st'=>c=(none,64)/\(One lt kd a0 64 st'∨∃ n m pw,n+m=64/\0 < n/\0 < m/\Two lt kd a0 n m pw st')) ?_ ?_ (.inl ⟨rfl,rfl,rfl⟩)) ?_)
 . rintro x c st1 - hx (⟨rfl,rfl,rfl⟩ | ⟨rfl,n,rfl,n1,n2,o⟩ | ⟨x2,rfl,n,m,pw,e,n1,m1,o⟩)
   . dsimp only
     refine wif (λ c=>absurd c (by lia)) λ _=>?_
     have b0:Bt a0 0 st1 st1:=⟨rfl,rfl,rfl,hpm,λ _ _=>rfl⟩
     refine wpS_bind (wcnt hO hC hD hk (by lia) (by lia) b0 λ n st2 b2 n1 n2 s2=>?_);have fin:∀ k st3,Bt a0 0 st1 st3->32<=k->k<=64->Srt lt (λ i=>att (arrOf st3) (0+i)) k->One lt kd a0 k (setPending st3 ((pendingOf st3).push (0,k,0))):=λ k st3 b3 _ _ s3 =>
       ⟨b3.pm,b3.kd.trans hk,b3.fl.trans hf,by show (pendingOf st3).push _=_;rw[b3.pd,hp];rfl,λ i j a b=>by have:=s3 i j a b;dsimp only at this;rwa[zAo,zAo] at this⟩
     refine wif (λ c=>?_) λ c=>?_
     . refine wpS_bind (wpS_lift (wpAny_rule ⟨rfl,?_⟩))
       refine wpS_bind (wbin hO hC hk (by lia) (by lia) n1 b2 s2 λ st3 b3 s3=>?_);refine wif (λ c=>by cases c) λ _=>?_
       refine wpS_bind (wpS_get ?_);rw[show (pendingOf st3).back? = none by rw[b3.pd,hp];rfl];exact wpS_bind (wpS_modify (wpS_pure (.inr (.inl ⟨rfl,_,rfl,by lia,by lia,fin _ st3 b3 (by lia) (by lia) s3⟩))))
     refine wpS_bind (wpS_get ?_);rw[show (pendingOf st2).back? = none by rw[b2.pd,hp];rfl];exact wpS_bind (wpS_modify (wpS_pure (.inr (.inl ⟨rfl,_,rfl,by lia,by lia,by rw[zAo];exact fin _ st2 b2 (by lia) (by lia) s2⟩))))
   . dsimp only
     refine wif (λ c=>?_) λ c=>?_
     . obtain rfl:n=64:=by lia
       exact wpS_pure ⟨rfl,.inl o⟩
     have b0:Bt a0 n st1 st1:=⟨rfl,rfl,rfl,o.pm,λ _ _=>rfl⟩
     refine wpS_bind (wcnt hO hC hD o.k (by lia) (by lia) b0 λ k st2 b2 k1 k2 s2=>?_);have z3:∀ q st3,Bt a0 n st1 st3->q=64 - n->Srt lt (λ i=>att (arrOf st3) (n+i)) q->∀ pw,Two lt kd a0 n q pw (setPending (setPending st3 ((pendingOf st3).modify ((pendingOf st3).size - 1) λ x=>(x.fst,x.2.fst,pw))) (((pendingOf st3).modify ((pendingOf st3).size - 1) λ x=>(x.fst,x.2.fst,pw)).push (n,q,0))):=λ q st3 b3 hq s3 pw =>
       ⟨b3.pm,b3.kd.trans o.k,b3.fl.trans o.f,by show ((pendingOf st3).modify _ _).push _=_;rw[b3.pd,o.p];rfl,λ i j a b=>by show lt (att (arrOf st3) j) (att (arrOf st3) i)=false;rw[b3.pr i (by lia),b3.pr j b];exact o.s i j a b,s3⟩
     have z4:∀ st3,Bt a0 n st1 st3->(pendingOf st3).back? = some (0,n,0)/\¬ (pendingOf st3).size > 1:=λ st3 b3=>by rw[b3.pd,o.p];exact⟨rfl,zBz 1⟩
     refine wif (λ d=>?_) λ d=>?_
     . refine wpS_bind (wpS_lift (wpAny_rule ⟨rfl,?_⟩))
       refine wpS_bind (wbin hO hC o.k (by lia) (by lia) k1 b2 s2 λ st3 b3 s3=>?_);refine wif (λ c=>by cases c) λ _=>?_
       refine wpS_bind (wpS_get ?_);rw[(z4 st3 b3).1];refine wpS_bind (wpS_mono (wpS_forRange (I:=λ x c st'=>st'=st3/\c=(none,())) (Q:=λ c st'=>st'=st3/\c=(none,())) ?_ (λ _ _ h=>h) ⟨rfl,rfl⟩) ?_)
       . rintro x c st4 - - ⟨rfl,rfl⟩
         refine wpS_bind (wpS_get ?_);rw[if_neg (z4 st4 b3).2];exact wpS_pure ⟨rfl,rfl⟩
       rintro c st4 ⟨rfl,rfl⟩;exact wpS_bind (wpS_modify (wpS_bind (wpS_modify (wpS_pure (.inr (.inr ⟨zA2 2,by rw[show n+min (64 - n) 32=64 by lia],n,_,_,by lia,by lia,by lia,z3 _ st4 b3 (by lia) s3 _⟩))))))
     refine wpS_bind (wpS_get ?_);rw[(z4 st2 b2).1];refine wpS_bind (wpS_mono (wpS_forRange (I:=λ x c st'=>st'=st2/\c=(none,())) (Q:=λ c st'=>st'=st2/\c=(none,())) ?_ (λ _ _ h=>h) ⟨rfl,rfl⟩) ?_)
     . rintro x c st4 - - ⟨rfl,rfl⟩
       refine wpS_bind (wpS_get ?_);rw[if_neg (z4 st4 b2).2];exact wpS_pure ⟨rfl,rfl⟩
     rintro c st4 ⟨rfl,rfl⟩;exact wpS_bind (wpS_modify (wpS_bind (wpS_modify (wpS_pure (.inr (.inr ⟨zA2 2,by rw[show n+k=64 by lia],n,_,_,by lia,by lia,by lia,z3 _ st4 b2 (by lia) s2 _⟩))))))
   dsimp only;exact wif (λ _=>wpS_pure ⟨rfl,.inr ⟨n,m,pw,e,n1,m1,o⟩⟩) λ c=>absurd (zA2 _) c
 . rintro c st1 (⟨h0,_⟩ | ⟨h0,_⟩ | ⟨x2,rfl,o⟩)
   . lia
   . lia
   exact⟨rfl,.inr o⟩
 rintro c st1 ⟨rfl,o⟩;dsimp only;refine wpS_bind (wpS_mono (wpS_forRange (I:=λ x c st'=>c=(none,())/\(x=0/\st'=st1∨F7 lt a0 st'/\(pendingOf st').size<=1)) (Q:=λ c st'=>c=(none,())/\F7 lt a0 st') ?_ ?_ ⟨rfl,.inl ⟨rfl,rfl⟩⟩) ?_)
 . rintro x c st2 - - ⟨rfl,⟨rfl,rfl⟩ | ⟨f,z⟩⟩
   . refine wpS_bind (wpS_get ?_)
     rcases o with o | ⟨n,m,pw,e,n1,m1,o⟩
     . rw[if_pos (by rw[o.p];exact zA2 1)]
       exact wpS_pure ⟨rfl,o.fin h64.symm⟩
     rw[o.p];refine wif (λ c=>absurd c (by simp)) λ _=>?_
     refine wpS_bind (wmat hO hC o.k o.f o.p o.pm n1 m1 (by lia) o.s o.t λ st3 f3 p3 a3=>?_);refine wpS_pure ⟨rfl,.inr ⟨⟨?_,?_,f3⟩,by rw[p3];exact zA2 1⟩⟩
     . rw[a3]
       have q:=List.merge_perm_append (le:=lee lt) (xs:=(arrOf st2).toList.take n) (ys:=(arrOf st2).toList.drop n);rw[zBd] at q;exact q.trans (zBo.mp o.pm)
     rw[a3];have sz:(arrOf st2).size=64:=o.pm.size_eq.trans h64;refine List.pairwise_merge (λ a b c h1 h2=>?_) (λ a b=>?_) _ _ ?_ ?_
     . simp only[Bool.not_eq_true',lee] at h1 h2 ⊢
       exact hO.tr _ _ _ h1 h2
     . cases q:lt b a with
       | false=>simp[lee,q]
       | true=>simp[lee,q,hO.as _ _ q]
     . have:=qao3 (i:=0) (n:=n) (xs:=arrOf st2) (λ i j a b=>by dsimp only;rw[zAo,zAo];exact o.s i j a b) (by lia)
       rwa[List.drop_zero] at this
     have:=qao3 o.t (by lia)
     rwa[zAs (by rw[List.length_drop,zB1];lia)] at this
   refine wpS_bind (wpS_get ?_);rw[if_pos z];exact wpS_pure ⟨rfl,f⟩
 . rintro c st2 ⟨rfl,⟨h0,_⟩ | ⟨f,z⟩⟩
   . lia
   exact⟨rfl,f⟩
 rintro c st2 ⟨rfl,f⟩;exact wpS_pure (h st2 f)
end
def plt(p q:Int×Int):Bool:=decide (p.1 < q.1∨p.1=q.1/\p.2 < q.2)
def TP(h:Heap)(v:Value)(p:Int×Int):Prop:=∃ b t u o n,v=.ref b/\h.get? b=some o/\o.cls=.type "tuple" /\ o.data=.seq #[.int p.1 t,.int p.2 u] n
section
variable{prog:Program}{w:World}{A:Around}{E:Value->Shared->Prop}{s:Shared}{kd:SortKind}{lt:Keyed->Keyed->Bool}{st:SortSt}{a0:Array Keyed}
theorem wrunS(hO:Od lt)(hC:Cn prog w A s kd a0 lt)(hD:Ds lt a0)(hk:kindOf st=kd)(hf:failedOf st=none)(hp:pendingOf st = #[])(hpm:(arrOf st).Perm a0)(h2:2<=a0.size)(h64:a0.size < 64)(h:∀ st',F7 lt a0 st'->Q () st'):wpS (model prog w) A E s sortRuns' Q st:=by
 rw[sortRuns'_eq];refine wpS_bind (wpS_get ?_);obtain⟨f,ef⟩:∃ f,a0.size=f+1:=⟨a0.size - 1,by lia⟩
 have hm:minRun' a0.size a0.size 0=a0.size:=by
   conv=>lhs;rw[show minRun' a0.size=minRun' (f+1) by rw[ef]]
   rw[minRun'_succ,if_pos h64];rfl
 dsimp only;simp only[hpm.size_eq,hm];refine wpS_bind (wpS_mono (wpS_forRange
   (I:=λ x c st'=>(x=0/\c=(none,0)/\st'=st)∨(1<=x/\c=(none,a0.size)/\One lt kd a0 a0.size st'))
   (Q:=λ c st'=>c=(none,a0.size)/\One lt kd a0 a0.size st') ?_ ?_ (.inl ⟨rfl,rfl,rfl⟩)) ?_)
 . rintro x c st1 - hx (⟨rfl,rfl,rfl⟩ | ⟨x2,rfl,o⟩)
   . dsimp only
     refine wif (λ c=>absurd c (by lia)) λ _=>?_
     have b0:Bt a0 0 st1 st1:=⟨rfl,rfl,rfl,hpm,λ _ _=>rfl⟩
     refine wpS_bind (wcnt hO hC hD hk (by lia) (by lia) b0 λ n st2 b2 n1 n2 s2=>?_);have fin:∀ k st3,k=a0.size->Bt a0 0 st1 st3->Srt lt (λ i=>att (arrOf st3) (0+i)) k->One lt kd a0 a0.size (setPending st3 ((pendingOf st3).push (0,k,0))):=λ k st3 e b3 s3 =>
       ⟨b3.pm,b3.kd.trans hk,b3.fl.trans hf,by show (pendingOf st3).push _=_;rw[b3.pd,hp,e];rfl,λ i j a b=>by have:=s3 i j a (by lia);dsimp only at this;rwa[zAo,zAo] at this⟩
     refine wif (λ c=>?_) λ c=>?_
     . refine wpS_bind (wpS_lift (wpAny_rule ⟨rfl,?_⟩))
       refine wpS_bind (wbin hO hC hk (by lia) (by lia) n1 b2 s2 λ st3 b3 s3=>?_);refine wif (λ c=>by cases c) λ _=>?_
       refine wpS_bind (wpS_get ?_);rw[show (pendingOf st3).back? = none by rw[b3.pd,hp];rfl];exact wpS_bind (wpS_modify (wpS_pure (.inr ⟨by lia,by rw[show 0+min (a0.size - 0) a0.size=a0.size by lia],fin _ st3 (by lia) b3 s3⟩)))
     refine wpS_bind (wpS_get ?_);rw[show (pendingOf st2).back? = none by rw[b2.pd,hp];rfl];exact wpS_bind (wpS_modify (wpS_pure (.inr ⟨by lia,by rw[show 0+n=a0.size by lia],fin _ st2 (by lia) b2 s2⟩)))
   dsimp only;exact wif (λ _=>wpS_pure ⟨rfl,o⟩) λ c=>absurd (zA2 _) c
 . rintro c st1 (⟨h0,_⟩ | ⟨x2,rfl,o⟩)
   . lia
   exact⟨rfl,o⟩
 rintro c st1 ⟨rfl,o⟩;dsimp only;refine wpS_bind (wpS_mono (wpS_forRange (I:=λ x c st'=>c=(none,())/\st'=st1) (Q:=λ c st'=>c=(none,())/\st'=st1) ?_ (λ _ _ h=>h) ⟨rfl,rfl⟩) ?_)
 . rintro x c st2 - - ⟨rfl,rfl⟩
   refine wpS_bind (wpS_get ?_);rw[if_pos (by rw[o.p];exact zA2 1)];exact wpS_pure ⟨rfl,rfl⟩
 rintro c st2 ⟨rfl,rfl⟩;exact wpS_pure (h st2 (o.fin rfl))
theorem cmpP{x y:Value}{p q:Int×Int}{Q:Bool->Shared->Prop}(hx:TP s.heap x p)(hy:TP s.heap y q)(h:Q (plt p q) s):wpAny (model prog w) A (keyLt' (tuples' true) x y) Q E s:=by
 obtain⟨b,t,u,o,n,rfl,hb,_,db⟩:=hx;obtain⟨c,t',u',o',n',rfl,hc,_,dc⟩:=hy;have z:∀ r:Bool,r=plt p q->Q r s:=λ r e=>e ▸ h
 refine W.kat_lt hb db hc dc (W.kat_cons (wpAny_eqBool_int (W.kat_go (λ h1=>W.kat_yes (W.kat_cons (wpAny_eqBool_int (W.kat_go (λ h2=>W.kat_yes (W.kat_nil (z _ ?_))) λ h2=>W.kat_no (W.kat_one _ _ (lt_int (z _ ?_))))))) λ h1=>W.kat_no (oneLt_int (z _ ?_)))))
 . simp at h1 h2;simp[plt,h1,h2]
 . simp at h1 h2;simp[plt,h1]
 simp at h1;simp[plt,h1]
theorem TP.keep{h h':Heap}{v:Value}{p:Int×Int}(t:TP h v p)(k:∀ b o,h.get? b=some o->o.cls=.type "tuple" -> h'.get? b=some o):TP h' v p:=by
 obtain⟨b,t,u,o,n,rfl,hb,hc,hd⟩:=t;exact⟨b,t,u,o,n,rfl,k _ _ hb hc,hc,hd⟩
end
def kl(kf:Value->Int×Int)(x y:Keyed):Bool:=plt (kf x.1) (kf y.1)
theorem kl_od(kf:Value->Int×Int):Od (kl kf) :=
 ⟨λ x y h=>by simp[kl,plt] at h ⊢;lia,λ x y z h1 h2=>by simp[kl,plt] at h1 h2 ⊢;lia⟩
section
variable{prog:Program}{w:World}{A:Around}{E:Value->Shared->Prop}{s:Shared}
theorem kl_ds(hn:(vs.map kf).Nodup):Ds (kl kf) (pairsOf vs):=by
 unfold Ds;rw[pairsOf_toList,show vs.zip vs=vs.map λ v=>(v,v) by induction vs with | nil=>rfl | cons v vs ih=>simp at hn;rw[List.zip_cons_cons,ih hn.2];rfl,zC3];unfold List.Nodup at hn;rw[zC3] at hn;refine hn.imp λ{a b} h=>?_
 have h':¬ ((kf a).1=(kf b).1/\(kf a).2=(kf b).2):=λ q=>h (Prod.ext q.1 q.2)
 simp only[kl,plt,zB5];lia
theorem qad8{a:Addr}{P:PySem.Fin->Shared->Prop}{kd:SortKind}(ho:s.heap.get? a=some (seqObj "list" vs.toArray n))(h64:vs.length<=64)(hn:(vs.map kf).Nodup)(hK:∀ h',(∀ b o,s.heap.get? b=some o->o.cls=.type "tuple" -> h'.get? b=some o)->2<=vs.length ->
     (∀(Q':SortKind->Shared->Prop),Q' kd { s with heap:=h' }->wpAny (model prog w) A (keyKind' vs.toArray) Q' E { s with heap:=h' })/\Cm prog w A { s with heap:=h' } kd (λ x=>x.1∈vs) (kl kf))(h:∀ out:List Value,out.Perm vs->(out.map kf).Pairwise (λ p q=>plt q p=false)->P (.done (.ret .none)) { s with heap:=sortedHeap s.heap a vs out.toArray }) :
   wpAny (model prog w) A (Builtin.«list.sort» ⟨[.ref a],[]⟩) P E s:=by
 have ln:vs.toArray.size=vs.length:=zA4;have la:a < s.heap.objs.size:=zAc ho;obtain⟨e1,o1⟩:∃ e,(s.heap.update a (Obj.mapSeq λ _=>#[])).get? a=some (seqObj "list" #[] e):=⟨_,get?_update_seq ho λ _=>#[]⟩
 have o2:(((s.heap.update a (Obj.mapSeq λ _=>#[])).push (seqObj "tuple" vs.toArray 0)).push (seqObj "list" #[] 0)).get? a=some (seqObj "list" #[] e1):=zA3 _ (zA3 _ o1);have kp:∀ b o,s.heap.get? b=some o->o.cls=.type "tuple" -> (((s.heap.update a (Obj.mapSeq λ _=>#[])).push (seqObj "tuple" vs.toArray 0)).push (seqObj "list" #[] 0)).get? b=some o:=λ b o q qc=>by
   have nb:b≠a:=λ z=>by rw[z,ho] at q;cases q;simp at qc
   exact zA3 _ (zA3 _ (by rw[Heap.get?_update_ne _ _ _ _ nb];exact q))
 rw[list_sort_plain];refine wpAny_bind (listItems_at ho rfl (wpAny_bind (listUpdate_at ho rfl (wpAny_bind (seqEpoch_at o1 rfl (wpAny_bind (wpAny_newTuple (wpAny_bind (wpAny_newList (wpAny_holding ?_) (zBt _))) (by show vs.length<=_;rw[sizeLine_eq];lia))))) (by rw[ln,sizeLine_eq];lia) (zBt _))));show wpAny (model prog w) A _ P E { s with heap:=((s.heap.update a (Obj.mapSeq λ _=>#[])).push (seqObj "tuple" vs.toArray 0)).push (seqObj "list" #[] 0) };have last:∀ st':SortSt,(arrOf st').toList.Perm (pairsOf vs).toList->(arrOf st').toList.Pairwise (λ x y=>lee (kl kf) x y=true)->failedOf st'=none ->
     P (.done (.ret .none)) { s with heap:=sortedHeap s.heap a vs ((arrOf st').map (·.2)) }/\((arrOf st').map (·.2)).size<=sizeLine+1:=λ st' pm pw _=>by
   rw[pairsOf_toList] at pm;have me:∀ p∈(arrOf st').toList,p.1=p.2:=λ p hp=>(mem_zip_self (pm.mem_iff.mp hp)).1
   have e2:((arrOf st').map (·.2))=((arrOf st').toList.map (·.2)).toArray:=Array.toList_inj.mp (by rw[Array.toList_map]);have pv:((arrOf st').toList.map (·.2)).Perm vs:=by
     have:=pm.map Prod.snd
     rwa[List.map_snd_zip (zA2 _)] at this
   rw[e2];refine⟨h _ pv ?_,by rw[zA4,pv.length_eq,sizeLine_eq];lia⟩;rw[zBj,zC3];refine(List.Pairwise.and_mem.mp pw).imp λ{x y} ⟨mx,my,q⟩=>?_
   show plt (kf y.2) (kf x.2)=false;rw[<- me x mx,<- me y my];simpa[lee,kl] using q
 have tail:∀ st':SortSt,F7 (kl kf) (pairsOf vs) st'->wpAny (model prog w) A (do
     let t:=(<- seqEpoch a) != e1
     Builtin.List.listUpdate (.ref a) λ _=>(arrOf st').map (·.2)
     if let some e:=failedOf st' then rule "list.sort.comparison-raised";throw e
     if t then rule "list.sort.modified";raiseError "ValueError" "list modified during sort"
     ret .none) P E { s with heap:=((s.heap.update a (Obj.mapSeq λ _=>#[])).push (seqObj "tuple" vs.toArray 0)).push (seqObj "list" #[] 0) }:=λ st' f=>by
   have z:=last st' f.1 f.2.1 f.2.2;refine wpAny_bind (seqEpoch_at o2 rfl (wpAny_bind (listUpdate_at o2 rfl ?_ (zBt _) z.2)));rw[f.2.2];simp only[bne_self_eq_false,Bool.false_eq_true,if_false];exact wpAny_pure z.1
 by_cases c:vs.toArray.size < 2
 . rw[if_pos c,if_pos c]
   refine wpAny_bind (wpAny_pure ?_);dsimp only;rw[StateT.run_pure];refine wpAny_bind (wpAny_pure (tail (SortSt.mk' general' (vs.toArray.zip vs.toArray) #[] 7 none) ⟨List.Perm.refl _,?_,rfl⟩));show (pairsOf vs).toList.Pairwise _;rw[pairsOf_toList]
   match vs,c with
   | [],_=>exact .nil
   | [v],_=>simp
   | _::_::_,c=>simp at c;lia
 rw[if_neg c,if_neg c];obtain⟨k1,k2⟩:=hK _ kp (by lia);refine wpAny_bind (k1 _ ?_);have cn:Cn prog w A { s with heap:=((s.heap.update a (Obj.mapSeq λ _=>#[])).push (seqObj "tuple" vs.toArray 0)).push (seqObj "list" #[] 0) } kd (pairsOf vs) (kl kf):=λ x y hx hy=>k2 x y (mem_zip_self (pairsOf_toList vs ▸ hx)).2 (mem_zip_self (pairsOf_toList vs ▸ hy)).2
 have run:wpS (model prog w) A E { s with heap:=((s.heap.update a (Obj.mapSeq λ _=>#[])).push (seqObj "tuple" vs.toArray 0)).push (seqObj "list" #[] 0) } sortRuns' (λ _ st'=>F7 (kl kf) (pairsOf vs) st') (SortSt.mk' kd (vs.toArray.zip vs.toArray) #[] 7 none):=by
   rcases Nat.lt_or_ge vs.length 64 with q | q
   . exact wrunS (kl_od kf) cn (kl_ds hn) rfl rfl rfl (Array.Perm.refl _) (by rw[pairsOf_size];lia) (by rw[pairsOf_size];exact q) λ _ f=>f
   exact wrun (kl_od kf) cn (kl_ds hn) rfl rfl rfl (Array.Perm.refl _) (by rw[pairsOf_size];lia) λ _ f=>f
 refine wpAny_bind (wpAny_mono run ?_ λ _ _ e=>e);rintro⟨⟨⟩,st'⟩ s' ⟨rfl,f⟩;exact tail st' f
theorem sorted6{l:Addr}{Q:Value->Shared->Prop}{kd:SortKind}(hl:s.heap.IsList l vs.toArray)(h64:vs.length<=64)(hn:(vs.map kf).Nodup)(hK:∀(A:Around)(E:Value->Shared->Prop) h',(∀ b o,s.heap.get? b=some o->o.cls=.type "tuple" -> h'.get? b=some o)->2<=vs.length ->
     (∀(Q':SortKind->Shared->Prop),Q' kd { s with heap:=h' }->wpAny (model prog w) A (keyKind' vs.toArray) Q' E { s with heap:=h' })/\Cm prog w A { s with heap:=h' } kd (λ x=>x.1∈vs) (kl kf))(h:∀ out:List Value,out.Perm vs->(out.map kf).Pairwise (λ p q=>plt q p=false)->Q (.ref (s.heap.objs.size+1)) { s with heap:=sortedAll s.heap vs out.toArray }) :
   wpAny (model prog w) A (call (.builtin "sorted") [.ref l]) Q E s:=by
 refine Calls.call_function_entry kind_sorted plain_sorted entry_sorted (args_sorted1 _) ?_;unfold Builtin.«sorted»;refine wpAny_bind (m:=checkCount "sorted" 1 1 _) (wpAny_pure (wpAny_bind (collect_list hl (wpAny_bind (wpAny_newList ?_ (by rw[sizeLine_eq];lia))) (by rw[sizeLine_eq];lia))));have sz:((s.heap.push (seqObj "list" #[] 0)).update s.heap.objs.size (Obj.mapSeq (·++vs.toArray))).objs.size=s.heap.objs.size+1:=by rw[Heap.size_update,size_push']
 have oL:(((s.heap.push (seqObj "list" #[] 0)).update s.heap.objs.size (Obj.mapSeq (·++vs.toArray))).push (seqObj "list" vs.toArray 0)).get? (s.heap.objs.size+1)=some (seqObj "list" vs.toArray 0):=by
   rw[<- sz];exact zB0 _ rfl
 have kp:∀ b o,s.heap.get? b=some o->(((s.heap.push (seqObj "list" #[] 0)).update s.heap.objs.size (Obj.mapSeq (·++vs.toArray))).push (seqObj "list" vs.toArray 0)).get? b=some o:=λ b o q =>
   zA3 _ (by rw[Heap.get?_update_ne _ _ _ _ (zAr (zAc q))];exact zA3 _ q)
 show wpAny _ _ _ _ _ { s with heap:=((s.heap.push (seqObj "list" #[] 0)).update s.heap.objs.size (Obj.mapSeq (·++vs.toArray))).push (seqObj "list" vs.toArray 0) };rw[sz];refine wpAny_bind (wpAny_holding (wpAny_call_entry slot_list_sort ⟨_,oL,rfl⟩ entry_list_sort (qad8 oL h64 hn (λ h' k c=>hK _ _ h' (λ b o q qc=>k b o (kp _ _ q) qc) c) λ out pm pw=>⟨_,rfl,?_⟩) (args_list_sort _)));exact wpAny_pure ⟨_,rfl,h out pm pw⟩
end
end S6
namespace LV
open PySem L2 PyProof.Rows
variable{ps:List (Int×Int)}
abbrev Dk(ps:List (Int×Int)):List (Int×Int):=ps.mergeSort λ p q=>!S6.plt q p
def PrA(H:Hp)(v:V)(p:Int×Int):Prop:=∃ b,v=.ref b/\H b=some (.tup [.int p.1,.int p.2])
def kfh(h:Heap):Value->Int×Int
 | .ref b=>match h.get? b with
   | some o=>match o.data with
     | .seq xs _=>(numOf (xs.getD 0 .none),numOf (xs.getD 1 .none))
     | _=>(0,0)
   | none=>(0,0)
 | _=>(0,0)
theorem qaK4{h:Heap}{v:Value}{p:Int×Int}(t:S6.TP h v p):kfh h v=p:=by
 obtain⟨b,t,u,o,n,rfl,hb,hc,hd⟩:=t;simp only[kfh,hb,hd];rfl
def vOf:Value->V
 | .ref b=>.ref b
 | _=>.non
section
variable{X:Cx}{D6:List (Addr×Obj)}{σ:List (Option V)}{H:Hp}{s:Shared}
theorem qay1(I:Inv X D6 σ H s){vs:List V}{its:List Value}(r:Vals vs its)(t:Paired (PrA H) vs ps) :
   its.map (kfh s.heap)=ps/\∀ u∈its,S6.TP s.heap u (kfh s.heap u)/\∃ b,u=.ref b/\H b=some (.tup [.int (kfh s.heap u).1,.int (kfh s.heap u).2]):=by
 induction t generalizing its with
 | nil=>cases r;exact⟨rfl,nofun⟩
 | @cons v p vs ps h t ih =>
   cases r with
   | @cons _ u _ its ru rt =>
     obtain⟨b,rfl,hb⟩:=h;cases ru;obtain⟨w,q,⟨o,ho,hc,n,hd⟩,_⟩:=I.tuple (.inl (.inl hb));have tp:S6.TP s.heap (.ref b) p:=by
       obtain⟨x,y,rfl,⟨t1,rfl⟩,t2,rfl⟩:=Vals.two q;exact⟨b,t1,t2,o,n,rfl,ho,hc,hd⟩
     have e:=qaK4 tp;obtain⟨i1,i2⟩:=ih rt;refine⟨by rw[zAx,e,i1],λ u hu=>?_⟩;rcases zAm.mp hu with rfl | hu
     . rw[e];exact⟨tp,b,rfl,hb⟩
     exact i2 u hu
theorem qak1{h:Heap}:∀{out:List Value},(∀ u∈out,∃ b,u=.ref b/\H b=some (.tup [.int (kfh h u).1,.int (kfh h u).2]))->Vals (out.map vOf) out/\Paired (PrA H) (out.map vOf) (out.map (kfh h))
 | [],_=>⟨.nil,.nil⟩
 | u::out,k=>by
   obtain⟨b,rfl,hb⟩:=k u zA9;have ih:=qak1 (out:=out) λ v hv=>k v (zA6 _ hv)
   exact⟨.cons rfl ih.1,.cons ⟨b,rfl,hb⟩ ih.2⟩
theorem qL9{h:Heap}{kf:Value->Int×Int}:∀{its:List Value},(∀ u∈its,S6.TP h u (kf u))->∃ fs,PySem.W.KatTups h its fs/\fs.length=its.length/\∀ f∈fs,∃ i t,f=Value.int i t
 | [],_=>⟨[],trivial,rfl,nofun⟩
 | u::its,k=>by
   obtain⟨fs,f1,f2,f3⟩:=qL9 (its:=its) λ v hv=>k v (zA6 _ hv)
   obtain⟨b,t,w,o,n,rfl,hb,hc,hd⟩:=k u zA9;refine⟨Value.int _ t::fs,PySem.W.KatTups.cons hb hc hd rfl f1,by rw[zAk,f2];rfl,λ f hf=>?_⟩;rcases zAm.mp hf with rfl | hf
   . exact⟨_,_,rfl⟩
   exact f3 f hf
theorem qV5(ps:List (Int×Int)):(Dk ps).Pairwise λ p q=>S6.plt q p=false:=by
 refine(List.pairwise_mergeSort (λ a b c h1 h2=>?_) (λ a b=>?_) ps).imp λ{a b} h=>by simpa using h
 . simp[S6.plt] at h1 h2 ⊢;lia
 simp[S6.plt];lia
theorem qao5{qs:List (Int×Int)}(hp:qs.Perm ps)(hs:qs.Pairwise λ p q=>S6.plt q p=false):qs=Dk ps:=by
 refine List.Perm.eq_of_pairwise (le:=λ p q=>S6.plt q p=false) (λ a b _ _ h1 h2=>?_) hs (qV5 ps) (hp.trans (List.mergeSort_perm _ _).symm);simp[S6.plt] at h1 h2;exact Prod.ext (by lia) (by lia)
def qaw6(K:PySem.W.Frag):List V->Hp->VK->Prop:=λ xs H Q=>∃ a vs ps,xs=[.ref a]/\SqL K H a vs/\Paired (PrA H) vs ps/\ps.Nodup/\ps.length<=64/\∀ l ws,H l=none->Paired (PrA H) ws (Dk ps)->Q (.ref l) (upd H l (.lst ws))
theorem qF5:CallR X (.builtin "sorted") (qaw6 X.K):=by
 intro D6 s σ H xs us Q I r h;obtain⟨a,vs,ps,rfl,ha,t,hn,hl,q⟩:=h;obtain⟨u,rfl,ru⟩:=Bl r;cases ru;obtain⟨its,rv,pl,hz⟩:=I.list ha;obtain⟨k1,k2⟩:=qay1 I rv t;have ln:its.length<=64:=by have:=congrArg List.length k1;rw[zAa] at this;lia
 refine S6.sorted6 (kf:=kfh s.heap) (kd:=tuples' true) pl.isList ln (by rw[k1];exact hn) (λ A E h' kp c=>⟨λ Q' hq=>?_,λ x y hx hy E Q hq=>?_⟩) λ out pm pw=>?_
 . obtain⟨fs,f1,f2,f3⟩:=qL9 λ u hu=>(k2 u hu).1.keep kp
   refine PySem.W.kat_kind (T:=.type "int") f1 (by lia) (λ v hv=>?_) rfl hq;obtain⟨i,t,rfl⟩:=f3 v hv;exact PySem.W.Looks.of_pure rfl
 . exact S6.cmpP ((k2 _ hx).1.keep kp) ((k2 _ hy).1.keep kp) hq
 obtain⟨o1,o2⟩:=qak1 (H:=H) (h:=s.heap) (out:=out) λ u hu=>(k2 u (pm.mem_iff.mp hu)).2
 obtain⟨e,he⟩:=sortedAll_at s.heap its out.toArray;have eq:out.map (kfh s.heap)=Dk ps:=qao5 (k1 ▸ pm.map _) pw;rw[eq] at o2;refine⟨.ref _,_,I.laid (t':=s.toks) (λ b o z=>sortedAll_old z) (Nat.le_succ _) (show ObjOk X.prog X.w _ _ _ (.lst (out.map vOf)) from⟨?_,out,e,o1,he⟩),rfl,q _ _ (I.hok.fresh (Nat.le_succ _)) o2⟩;rw[zAa,pm.length_eq,sizeLine_eq];lia
def G6:D->Option (Int×Int)
 | .tup [.int a,.int b]=>some (a,b)
 | _=>none
def prD2(p:Int×Int):D:=.tup [.int p.1,.int p.2]
def qam5(x:D):Option D:=match x with
 | .lst _ ys=>(ys.mapM G6).bind λ ps=>gd (ps.Nodup/\ps.length<=64) (.lst false ((Dk ps).map prD2))
 | _=>none
theorem qW8:∀{ys:List D}{ps:List (Int×Int)},ys.mapM G6=some ps->ys=ps.map prD2
 | [],ps,h=>by cases h;rfl
 | y::ys,ps,h=>by
   rw[List.mapM_cons] at h;obtain⟨p,hp,h⟩:=zA1.mp h;obtain⟨qs,hq,h⟩:=zA1.mp h;cases h;rw[zAx,qW8 hq];congr 1;unfold G6 at hp;split at hp
   . cases hp;rfl
   cases hp
theorem qay2{F:Addr->Prop}{H:Hp}:∀{ps:List (Int×Int)}{vs:List V}{A:List Addr},Reps F H vs (ps.map prD2) A->Paired (PrA H) vs ps
 | [],_,_,r=>by cases r;exact .nil
 | p::ps,_,_,r=>by
   cases r with
   | cons h t =>
     cases h with
     | tup e r =>
       refine .cons ⟨_,rfl,?_⟩ (qay2 t);cases r with
       | cons h1 t1 =>
         cases h1;cases t1 with
         | cons h2 t2=>cases h2;cases t2;exact e
theorem qap4{F:Addr->Prop}{H:Hp}{ws:List V}(t:Paired (PrA H) ws ps):Reps F H ws (ps.map prD2) []:=by
 induction t with
 | nil=>exact .nil
 | cons h t ih =>
   obtain⟨b,rfl,hb⟩:=h;exact .cons (A:=[]) (B:=[]) (.tup hb (.cons (A:=[]) (B:=[]) (.int _) (.cons (A:=[]) (B:=[]) (.int _) .nil))) ih
theorem qaa7{K:PySem.W.Frag}:CS1 true (qaw6 K) qam5:=by
 intro F H v x B d Q r h q;cases x with
 | lst z ys =>
   obtain⟨ps,h1,h2⟩:=zA1.mp h;obtain⟨⟨hn,hl⟩,rfl⟩:=qp1 h2;cases qW8 h1;obtain⟨a,vs,A,rfl,hs,rs,_⟩:=r.lst_inv;exact⟨a,vs,ps,rfl,.inl (.inl hs),qay2 rs,hn,hl,λ l ws hp t=>q _ _ [l] (qp5 hp (qap4 t)) (Same.new hp) (qf2 hp)⟩
 | _=>cases h
end
end LV
namespace LV
open PySem L2
mutual
def D.plain:D->Bool
 | .tup ds=>D.plains ds
 | .lst z ds=>!z&&D.plains ds
 | .non=>true | .bl _=>true | .int _=>true | .str _=>true
 | _=>false
def D.plains:List D->Bool
 | []=>true
 | d::r=>d.plain&&D.plains r
end
end LV
namespace LV
open PySem L2 PyProof.Rows
end LV
namespace LV
open PySem L2
end LV
namespace LV
open PySem L2 PyProof.Rows
def qaw7:List V->Hp->VK->Prop:=λ xs H Q=>∃ a kvs,xs=[.ref a]/\H a=some (.dK kvs)/\∀ l,H l=none->Q (.ref l) (upd H l (.lst (kvs.map λ kv=>kV kv.1)))
theorem qaK9{k:Key}{u:Value}(h:Eh k u=true):RelV (kV k) u:=by
 rcases qc4 h with⟨i,t,rfl,rfl⟩ | ⟨x,t,rfl,rfl⟩
 . exact⟨t,rfl⟩
 exact⟨t,rfl⟩
theorem KV.keyAt{kvs:List (Key×V)}{vs:List (Key×Value)}(r:KV kvs vs){i:Nat}{k:Key}{x:Value}(h:vs[i]? = some (k,x)):(kvs.map λ kv=>kV kv.1)[i]? = some (kV k):=by
 induction r generalizing i with
 | nil=>cases h
 | @cons p q ps qs hq t ih =>
   cases i with
   | zero=>cases h;simp[hq.1]
   | succ i=>exact ih h
theorem qab4{X:Cx}(hc:X.calm=true):CallR X (.type "list") qaw7:=by
 intro D6 s σ H xs us Q I r h;obtain⟨a,kvs,rfl,ha,q⟩:=h;obtain⟨u,rfl,ru⟩:=Bl r;cases ru;obtain⟨hz,lo,vs,rel,dd⟩:=dk_of I.hok ha;obtain⟨ep,hat⟩:=dd.dictAt;have hl:kvs.length=vs.length:=rel.length;refine PySem.W.kdl_call (PySem.W.kdl_dict (knd:=qe1 X.prog X.w) (kvs:=vs) (ep:=ep) lo) (I.ok.hd hc) hat (by lia) λ h' tk acc c' kp e it=>?_
 refine⟨.ref _,_,I.laid (t':=tk) kp (zA2 _) (show ObjOk X.prog X.w _ h' _ (.lst (kvs.map λ kv=>kV kv.1)) from⟨by rw[zAa];exact hz,acc.toList,c',?_,by simpa using e⟩),rfl,q _ (I.hok.fresh (zA2 _))⟩;refine qU1 (by rw[zAa];have h2:=it.1;have h3:acc.toList.length=acc.size:=zB1;lia) λ i x u hx hu=>?_
 obtain⟨k,y,h1,h2⟩:=it.2 i u (by rw[<- hu,Array.getElem?_toList]);rw[KV.keyAt rel h1] at hx;cases hx;exact qaK9 h2
def keyD:Key->D
 | .inl i=>.int i
 | .inr x=>.str x
def qat4(x:D):Option D:=match x with
 | .dct _ kds=>some (.lst false (kds.map λ kd=>keyD kd.1))
 | _=>none
theorem qN3{F:Addr->Prop}{H:Hp}:∀{kvs:List (Key×V)}{kds:List (Key×D)},kvs.map (·.1)=kds.map (·.1)->Reps F H (kvs.map λ kv=>kV kv.1) (kds.map λ kd=>keyD kd.1) []
 | [],[],_=>.nil
 | [],_::_,h=>by cases h
 | _::_,[],h=>by cases h
 | (k,v)::kvs,(k',d)::kds,h=>by
   obtain⟨h1,h2⟩:=List.cons.inj h;have h1:k=k':=h1;subst h1;refine .cons (A:=[]) (B:=[]) ?_ (qN3 h2);cases k with
   | inl i=>exact .int i
   | inr x=>exact .str x
theorem qau2:CS1 true qaw7 qat4:=by
 intro F H v x B d Q r h q;cases x with
 | dct z kds =>
   cases h;obtain⟨a,kvs,A2,rfl,hs,ek,rs,_⟩:=r.dct_inv;exact⟨a,kvs,rfl,hs,λ l hp=>q _ _ [l] (qp5 hp (qN3 ek)) (Same.new hp) (qf2 hp)⟩
 | _=>cases h
def rDGet:R2:=λ x y H Q=>∃ a v,x=.ref a/\Gv H a y (some v)/\Q v H
theorem p_dix{X:Cx}{a b:Expr}{pos:Pos}(hu:X.A.units+1 < cLine)(hs:NoSl b:=by exact λ _ _=>rfl):P2 X (.Subscript a b pos) a b rDGet:=λ _ _ ha hb=>qaz2 hu ha hb hs
def gDix(x y:D):Option D:=match x with
 | .dct _ kds=>y.key.bind λ k=>Bz kds k
 | _=>none
theorem qaI4:Ay false rDGet gDix:=by
 intro F H v w x y B d Q r h q;cases r with | @cons _ _ A _ _ _ r1 t=>cases t with | @cons _ _ A2 _ _ _ r2 _ =>
 cases x with
 | dct z kds =>
   obtain⟨ky,e4,e⟩:=zA1.mp h;obtain⟨a,kvs,A3,rfl,hs,ek,rs,hc⟩:=r1.dct_inv;rcases qai9 ky ek rs with⟨n1,n2⟩ | ⟨vv,dd,BB,n1,n2,n3,n4⟩
   . rw[n1] at e;cases e
   rw[n1] at e;cases e;refine⟨a,vv,rfl,.inl ⟨kvs,ky,.inl hs,r2.key e4,n2.symm⟩,q vv H BB n3 (λ _ _ z=>z) ?_⟩;rw[if_neg (by decide)];exact λ b=>.inl (by rw[zA0];have:=n4 b;have:=hc b;lia)
 | _=>cases h
end LV
namespace LV.My
open PySem L2 Row _root_.My
variable{N i j l r:Nat}{Q:DK}{R:Ds->D->Prop}{S ks ns:List Int}{b:Bool}{d p x y:D}{ds ys:Ds}{e:VEnds}{f fa fb:FV}{fs:List (Str×D)}{k:Int}{m:Str}{qc:VTT}{s:VSp}{t u:VTS}{ta tb te:VT}{tr:VTB}{xe:XKd}{α:Type}
def _root_.LV.D.whole:D->Bool
 | .int _=>true
 | _=>false
def _root_.LV.D.within(l m:Int):D->Bool
 | .int i=>decide (l<=i)&&decide (i<=m)
 | _=>false
def _root_.LV.D.num:D->Bool:=D.within 0 1000000000000000000
def fx3(g:D->D->D->Option D):Ds->Option D
 | [x,y,z]=>g x y z
 | _=>none
theorem qY6{g:D->Option D}(h:Bk (fx1 g) ds Q xe):ds.length=1:=by
 match ds,h with
 | [_],_=>rfl
theorem qaC2{g:D->D->D->Option D}(h:Bk (fx3 g) ds Q xe):ds.length=3:=by
 match ds,h with
 | [_,_,_],_=>rfl
theorem imm1{g:D->Option D}(h:Bk (fx1 g) ds Q xe):F5 (wOf [true]) 0 ds=true:=by
 match ds,h with
 | [_],_=>rfl
theorem imm3{g:D->D->D->Option D}(h:Bk (fx3 g) ds Q xe):F5 (wOf [true,true,true]) 0 ds=true:=by
 match ds,h with
 | [_,_,_],_=>rfl
theorem Ie{g:D->Option D}(h:Bk (fx1 g) ds Q xe):∃ x d,ds=[x]/\g x=some d/\Q d [x]:=by
 match ds,h with
 | [x],h=>obtain⟨d,e,q⟩:=qa6.mp h;exact⟨x,d,rfl,e,q⟩
theorem pure3{g:D->D->D->Option D}(h:Bk (fx3 g) ds Q xe):∃ x y z d,ds=[x,y,z]/\g x y z=some d/\Q d [x,y,z]:=by
 match ds,h with
 | [x,y,z],h=>obtain⟨d,e,q⟩:=qa6.mp h;exact⟨x,y,z,d,rfl,e,q⟩
theorem qE3{t:String}(h:x.kind=some t):x.known=true:=by
 cases x<;>first | rfl | cases h
def Aw(P:Ds->D->Prop):VSp:=λ ds Q _=>∃ d,P ds d/\Q d ds
theorem qb2{P:Ds->D->Prop}:Bp (Aw P):=λ _ _ _ _ _ hQ _ ⟨d,p,q⟩=>⟨d,p,hQ _ _ q⟩
def prD(ps:Pr):Ds:=ps.map λ p=>.tup [.int p.1,.int p.2]
def kvD(ps:Pr):List (Key×D):=ps.map λ p=>(.inl p.1,.int p.2)
def Aa(z:Bool)(C:Addr)(n:Int)(wr:Bool)(ps:Pr):D:=.ins z C [("rooms",.int n),("wraps",.bl wr),("homes",.lst z (prD ps)),("home_numbers",.dct z (kvD ps))]
def Fc:Option Int->D
 | none=>.non
 | some k=>.int k
def rlD(n:Nat)(g:Nat->Option Int):Ds:=(List.range n).map λ i=>Fc (g i)
def ksD(ks:List Int):Ds:=ks.map .int
theorem qy3:∀ ps:Pr,D.imms (prD ps)=true
 | []=>rfl
 | p::r=>by show (D.imms [.int p.1,.int p.2]&&D.imms (prD r))=true;rw[qy3 r];rfl
theorem qf3:∀ ks:List Int,D.imms (ksD ks)=true
 | []=>rfl
 | k::r=>by show (true&&D.imms (ksD r))=true;rw[qf3 r];rfl
theorem qZ5{α:Type}{f:α->D}(h:∀ a,(f a).imm=true):∀ l:List α,D.imms (l.map f)=true
 | []=>rfl
 | a::r=>by show ((f a).imm&&D.imms (r.map f))=true;rw[h a,qZ5 h r];rfl
theorem qaC8(o:Option Int):(Fc o).imm=true:=by cases o<;>rfl
theorem qam0(n:Nat)(g:Nat->Option Int):D.imms (rlD n g)=true:=qZ5 (λ i=>qaC8 _) _
theorem qal9:∀ ks:List Int,intsD (ksD ks)=some ks
 | []=>rfl
 | k::r=>by show (intsD (ksD r)).map (λ is=>k::is)=some (k::r);rw[qal9 r];rfl
theorem qB9:∀ ks:List Int,flats (ksD ks)=some (ks.map V.int)
 | []=>rfl
 | k::r=>by show (Option.bind (some (V.int k)) λ v=>(flats (ksD r)).bind λ vs=>some (v::vs))=_;rw[qB9 r];rfl
theorem qg3(ks:List Int):(ksD ks).length=ks.length:=zAa _
theorem qp9(n:Nat)(g:Nat->Option Int):(rlD n g).length=n:=by simp[rlD]
theorem qN8{n:Nat}{g:Nat->Option Int}(h:i < n):(rlD n g)[i]? = some (Fc (g i)):=by
 unfold rlD;rw[zB8,List.getElem?_range h];rfl
theorem qV9{n:Nat}{g:Nat->Option Int}{o:Option Int}:(rlD n g).set i (Fc o)=rlD n (λ j=>if j=i then o else g j):=by
 apply List.ext_getElem?;intro j;by_cases hj:j < n
 . rw[qN8 hj]
   by_cases e:i=j
   . subst e
     rw[List.getElem?_set_self (by rw[qp9];exact hj),if_pos rfl]
   rw[zBk e,qN8 hj,if_neg (Ne.symm e)]
 rw[List.getElem?_eq_none (by rw[List.length_set,qp9];lia),List.getElem?_eq_none (by rw[qp9];lia)]
theorem qX2:∀ ps:Pr,qS0 (prD ps)=some (kvD ps)
 | []=>rfl
 | p::r=>by
   show (Option.bind (some ((Sum.inl p.1:Key),D.int p.2)) λ q=>(qS0 (prD r)).bind λ ps=>some (q::ps))=_;rw[qX2 r];rfl
theorem qae5{ps:Pr}{m:Int}(h:¬ k∈ps.map (·.1)):Ek (kvD ps) (.inl k) (.int m)=kvD (ps++[(k,m)]):=by
 unfold Ek;rw[if_neg]
 . unfold kvD;rw[zBq];rfl
 intro e;obtain⟨q,hq,e⟩:=List.any_eq_true.mp e;obtain⟨r,hr,rfl⟩:=zBc.mp hq;have e:(Sum.inl r.1:Key)=Sum.inl k:=zAf e;exact h (zBc.mpr ⟨r,hr,Sum.inl.inj e⟩)
theorem qM9:∀(qs ps:Pr),((ps++qs).map (·.1)).Nodup->qp6 (kvD ps) (kvD qs)=kvD (ps++qs)
 | [],ps,_=>by rw[zAd];rfl
 | q::qs,ps,h=>by
   show qp6 (Ek (kvD ps) (.inl q.1) (.int q.2)) (kvD qs)=_;have hn:¬ q.1∈ps.map (·.1):=by
     rw[zBq,zAx,zBi] at h;exact λ z=>h.2.2 _ z _ zA9 rfl
   rw[qae5 hn,qM9 qs (ps++[(q.1,q.2)]) (by rw[zAi];exact h),zAi];rfl
theorem qaf9{ps:Pr}(h:(ps.map (·.1)).Nodup):qp6 [] (kvD ps)=kvD ps:=qM9 ps [] h
theorem qaa6{z:Bool}{ps:Pr}(h:(ps.map (·.1)).Nodup):Gh (.lst z (prD ps))=some (.dct false (kvD ps)):=by
 show (qS0 (prD ps)).map (λ ps=>D.dct false (qp6 [] ps))=_;rw[qX2];show some (D.dct false (qp6 [] (kvD ps)))=_;rw[qaf9 h]
theorem qU2(k:Int):∀ ps:Pr,Bz (kvD ps) (.inl k)=(ps.lookup k).map .int
 | []=>rfl
 | (p,m)::r=>by
   show Bz ((.inl p,.int m)::kvD r) _=_;by_cases e:p=k
   . subst e
     simp[Bz,zAu]
   have h1:Bz ((.inl p,D.int m)::kvD r) (.inl k)=Bz (kvD r) (.inl k):=by simp[Bz,zBs,e]
   rw[h1,qU2 k r]
   have:(k == p)=false:=by simpa using λ z=>e z.symm
   simp only[zAu,this]
theorem qa0{o:Option α}{a:α}{k:α->Prop}(e:o=some a)(h:k a):orF o k:=by rw[e];exact h
theorem Dr{p:Prop}[Decidable p]{a b:Prop}(h:p)(x:a):if p then a else b:=by rw[if_pos h];exact x
theorem Dt{p:Prop}[Decidable p]{a b:Prop}(h:¬ p)(x:b):if p then a else b:=by rw[if_neg h];exact x
theorem ite_b{p:Bool}{a b:Prop}(h1:p=true->a)(h2:p=false->b):if p=true then a else b:=by cases p with | true=>exact h1 rfl | false=>exact h2 rfl
def G7:Option Int->D
 | some f=>.int f
 | none=>.non
theorem qai5(hx:rdN i ds=some x)(h:s [x] (λ d ys=>orF (Aq [.sl i] ys (ds.set i .unk)) λ ds2=>Q d ds2) (λ e ys=>orF (Aq [.sl i] ys (ds.set i .unk)) λ ds2=>xe e ds2)):qi6 s [] (tbN i A5) ds Q xe :=
 ⟨by rw[hx];rfl,by show orF (rdN i ds) _;rw[hx];exact h⟩
theorem qz9{f:Ds->Option D}(e:f ds=some d)(q:Q d ds):Bk f ds Q xe:=qa0 e q
theorem qo9(e:R ds d)(q:Q d ds):Aw R ds Q xe:=⟨d,e,q⟩
theorem qb9{K:Ds->List Pl->Ds->Prop}(hx:rdN i ds=some x)(h:tr ds (λ xs ps ds1=>orF (rdN i ds1) λ d=>K (d::xs) (.sl i::ps) (ds1.set i .unk)) xe):tbN i tr ds K xe:=⟨by rw[hx];rfl,h⟩
theorem qe0{K:Ds->List Pl->Ds->Prop}(hf:f ds=some y)(h:tr ds (λ xs ps ds2=>K (y::xs) (.no::ps) ds2) xe):tbV (Bu f) tr ds K xe:=qa0 (k:=λ y=>tr ds (λ xs ps ds2=>K (y::xs) (.no::ps) ds2) xe) hf h
theorem rd0{r:Ds}(h:d.known=true):rdN 0 (d::r)=some d:=qj0.mpr ⟨rfl,h⟩
theorem qK4{β:Type}(f:α->β)(l:List α):l.filterMap (λ a=>some (f a))=l.map f:=by simp
section
variable{z:Bool}{C:Addr}{n:Int}{wr:Bool}{ps:Pr}
theorem qF0{f:Str}(h:fs.lookup f=some d):D.fld C f (.ins z C fs)=some d:=by
 show (if C=C then fs.lookup f else none)=some d;rw[if_pos rfl,h]
theorem qd8:D.fld C "rooms" (Aa z C n wr ps)=some (.int n):=qF0 (by rfl)
theorem qB8:D.fld C "wraps" (Aa z C n wr ps)=some (.bl wr):=qF0 (by rfl)
theorem qT3:D.fld C "home_numbers" (Aa z C n wr ps)=some (.dct z (kvD ps)):=qF0 (by rfl)
theorem qal8(h:fs.lookup m=none):(D.ins z C fs).isM C m=true:=by
 show (decide (C=C)&&(fs.lookup m).isNone)=true;rw[zAq rfl,h];rfl
theorem qi0(h:([("rooms",.int n),("wraps",.bl wr),("homes",.lst z (prD ps)),("home_numbers",.dct z (kvD ps))]:List (Str×D)).lookup m=none):(Aa z C n wr ps).isM C m=true:=qal8 h
theorem Bb{g:D->Option D}(h:fa ds=some x)(h':g x=some y):f1 g fa ds=some y:=qat8.mpr ⟨x,h,h'⟩
theorem Af{g:D->D->Option D}(h:fa ds=some x)(h':fb ds=some y)(h2:g x y=some d):f2 g fa fb ds=some d:=qat7.mpr ⟨x,y,h,h',h2⟩
theorem qh9:(D.ins false C fs).ownI C=some fs:=by
 show (if C=C then some fs else none)=some fs;rw[if_pos rfl]
end
theorem qE2{C:Addr}(hp:rdN i ds=some p)(hm:p.isM C m=true)(h:tr ds (λ xs ps ds1=>orF (rdN i ds1) λ d=>s (d::(xs++[])) (λ r ys=>orF (Aq (.sl i::ps) ys (ds1.set i .unk)) λ ds2=>Q r ds2) (λ x ys=>orF (Aq (.sl i::ps) ys (ds1.set i .unk)) λ ds2=>xe x ds2)) xe):qr7 C m s [] i tr ds Q xe:=⟨qa0 hp hm,h⟩
theorem qR9{z:Bool}{C:Addr}{n:Int}{wr:Bool}{ps:Pr}:(Aa z C n wr ps).known=true:=rfl
theorem qap5{z:Bool}{C:Addr}{n:Int}{wr:Bool}{ps:Pr}:(Aa z C n wr ps).imm=z:=rfl
theorem qae6{f:Ds->Option D}(hx:rdN i ds=some x)(e:f [x]=some d)(hb:Aq [.sl i] [x] (ds.set i .unk)=some ds)(q:Q d ds):qi6 (Bk f) [] (tbN i A5) ds Q xe:=qai5 hx (qz9 e (qa0 hb q))
theorem qu1(hx:rdN i ds=some x)(hy:rdN j ds=some y)(hx':rdN i (ds.set j .unk)=some x)(r:R [x,y] d)(hb:Aq [.sl i,.sl j] [x,y] ((ds.set j .unk).set i .unk)=some ds)(q:Q d ds):qi6 (Aw R) [] (tbN i (tbN j A5)) ds Q xe :=
 qb9 hx (qb9 hy (qa0 hy (qa0 hx' (qo9 r (qa0 hb q)))))
theorem qJ6{w:D}(hx:rdN i ds=some x)(hy:rdN j ds=some y)(hw:rdN l ds=some w)(hy':rdN j (ds.set l .unk)=some y)(hx':rdN i ((ds.set l .unk).set j .unk)=some x)(r:R [x,y,w] d)(hb:Aq [.sl i,.sl j,.sl l] [x,y,w] (((ds.set l .unk).set j .unk).set i .unk)=some ds)(q:Q d ds):qi6 (Aw R) [] (tbN i (tbN j (tbN l A5))) ds Q xe :=
 qb9 hx (qb9 hy (qb9 hw (qa0 hw (qa0 hy' (qa0 hx' (qo9 r (qa0 hb q)))))))
theorem qq7{C:Addr}(hp:rdN i ds=some p)(hm:p.isM C m=true)(hx:rdN j ds=some x)(hp':rdN i (ds.set j .unk)=some p)(r:R [p,x] d)(hb:Aq [.sl i,.sl j] [p,x] ((ds.set j .unk).set i .unk)=some ds)(q:Q d ds):qr7 C m (Aw R) [] i (tbN j A5) ds Q xe :=
 qE2 hp hm (qb9 hx (qa0 hx (qa0 hp' (qo9 r (qa0 hb q)))))
theorem qaB4{C:Addr}(hp:rdN i ds=some p)(hm:p.isM C m=true)(hx:rdN j ds=some x)(hy:rdN l ds=some y)(hx':rdN j (ds.set l .unk)=some x)(hp':rdN i ((ds.set l .unk).set j .unk)=some p)(r:R [p,x,y] d)(hb:Aq [.sl i,.sl j,.sl l] [p,x,y] (((ds.set l .unk).set j .unk).set i .unk)=some ds)(q:Q d ds):qr7 C m (Aw R) [] i (tbN j (tbN l A5)) ds Q xe :=
 qE2 hp hm (qb9 hx (qb9 hy (qa0 hy (qa0 hx' (qa0 hp' (qo9 r (qa0 hb q)))))))
theorem guard{t:VT}{n:VTS}(h:∀(Q:DK)(xe:XKd),Q (.bl true) ds->t ds Q xe)(h2:u e ds):Fa (sIf (Fl (ttE t)) n Fq) u e ds:=h _ _ h2
theorem if_e{t:VT}{v:VTS}(h:∀(Q:DK)(xe:XKd),Q (.bl b) ds->t ds Q xe)(h1:b=true->u e ds)(h2:b=false->v e ds):sIf (ttE t) u v e ds:=h _ _ (by
 show if b=true then u e ds else v e ds
 exact ite_b h1 h2)
theorem if_v{v:VTS}(h:f ds=some (.bl b))(h1:b=true->u e ds)(h2:b=false->v e ds):sIf (ttV f) u v e ds:=by
 show orF ((f ds).bind D.asB) _;rw[h];exact ite_b h1 h2
theorem Gq{u v:VT}(h:f ds=some (.bl b))(h1:b=true->u ds Q xe)(h2:b=false->v ds Q xe):tIfE (ttV f) u v ds Q xe:=by
 show orF ((f ds).bind D.asB) _;rw[h];exact ite_b h1 h2
theorem qq6(e:f ds=some d)(q:Q d ds):Bu f ds Q xe:=qa0 e q
theorem qE4{w:VTS}(b:Bool)(h:f ds=some (.bl b))(h1:b=true->u { e with nx:=w e } ds)(h2:b=false->w e ds):Fa (sIf (ttV f) u Fq) w e ds:=if_v (u:=u) (v:=Fq) h h1 h2
theorem qi9{t:VT}(h:t ds e.rt e.xe):sRet t e ds:=h
theorem qi3(d:D)(h:f ds=some d)(q:e.rt d ds):sRet (Bu f) e ds:=qa0 h q
theorem As(ds':Ds)(h:ds=ds')(q:t e ds'):t e ds:=h ▸ q
theorem qas7{z:Bool}(h:rdN i ds=some (.lst z ys)):Be (fx2 gIsi) (A9 (rdN i) (A9 (kC (D.ty "list")) λ _=>some [])) ds=some (.bl true):=by
 unfold Be A9;rw[h];rfl
theorem qB1{z:Bool}(h:rdN i ds=some (.lst z ys)):Be (fx1 Fw) (A9 (rdN i) λ _=>some []) ds=some (.int (ys.length:Nat)):=by
 unfold Be A9;rw[h];rfl
theorem qq2{Q:Bool->Ds->Prop}(h:f ds=some (.bl b))(q:Q b ds):ttV f ds Q xe:=by
 show orF ((f ds).bind D.asB) _;rw[h];exact q
theorem qy6{Q:Bool->Ds->Prop}(h:f ds=some (.bl b))(q:Q (!b) ds):Fl (ttV f) ds Q xe:=qq2 (Q:=λ b ds=>Q (!b) ds) h q
theorem qav5{t u:VTT}{Q:Bool->Ds->Prop}(b c:Bool)(h1:∀ Q:Bool->Ds->Prop,Q b ds->t ds Q xe)(h2:b=false->∀ Q:Bool->Ds->Prop,Q c ds->u ds Q xe)(q:Q (b||c) ds):ttOr t u ds Q xe:=h1 _ (by
 cases b with
 | false=>exact h2 rfl _ q
 | true=>exact q)
theorem qU6{t u:VTT}{Q:Bool->Ds->Prop}(b c:Bool)(h1:∀ Q:Bool->Ds->Prop,Q b ds->t ds Q xe)(h2:b=true->∀ Q:Bool->Ds->Prop,Q c ds->u ds Q xe)(q:Q (b&&c) ds):Hm t u ds Q xe:=h1 _ (by
 cases b with
 | false=>exact q
 | true=>exact h2 rfl _ q)
theorem qu2{w:VTS}(b:Bool)(h:∀ Q:Bool->Ds->Prop,Q b ds->qc ds Q e.xe)(h1:b=true->t { e with nx:=w e } ds)(h2:b=false->w e ds):Fa (sIf qc t Fq) w e ds:=h _ (ite_b h1 h2)
theorem qaD0{n:VTS}(h:f ds=some (.bl true))(h2:u e ds):Fa (sIf (Fl (ttV f)) n Fq) u e ds:=qy6 (Q:=λ k ds'=>if k=true then n { e with nx:=u e } ds' else u e ds') (xe:=e.xe) h h2
theorem qas8{z:Bool}{C:Addr}{n:Int}{wr:Bool}{ps:Pr}:gIsO C (Aa z C n wr ps) (.adr C)=some (.bl true):=by
 show (if C=C then (Aa z C n wr ps).isC C else none)=_;rw[if_pos rfl];show (if C=C then some (D.bl true) else none)=_;rw[if_pos rfl]
theorem qd3{g:VTG}{t:VTS}{e:VEnds}(I:Nat->Ds->Prop):∀(xs:List D)(i:Nat)(ds:Ds),I i ds->(∀(j:Nat)(x:D),xs[j]? = some x->∀ ds,I (i+j) ds->∀ K:Ds->Prop,(∀ ds',I (i+j+1) ds'->K ds')->g x ds λ ds1=>t { e with nx:=K,ct:=K,bk:=e.nx } ds1)->(∀ ds',I (i+xs.length) ds'->e.nx ds')->Dc g t e xs ds
 | [],_,ds,h,_,hn=>hn ds h
 | x::xs,i,ds,h,hs,hn=>hs 0 x rfl ds h _ λ ds' h'=>qd3 I xs (i+1) ds' h' (λ j y hy ds2 h2 K hK=>hs (j+1) y hy ds2 (by rw[show i+(j+1)=i+1+j by lia];exact h2) K λ ds3 h3=>hK ds3 (by rw[show i+1+j+1=i+(j+1)+1 by lia];exact h3)) λ ds2 h2=>hn ds2 (by rw[zAk,show i+(xs.length+1)=i+1+xs.length by lia];exact h2)
theorem qK3{g:VTG}{n:Int}(h:f ds=some (.int n))(h0:F4 n=true)(k:Dc g t e (Dm 0 n.toNat) ds):qae2 (G5 (tbV (Dh f) A5)) g t e ds:=by
 show orF (f ds) _;rw[h];exact⟨rfl,h0,k⟩
theorem qX9{n:Int}(h0:0<=n)(h1:n<=1000):F4 n=true:=by
 unfold F4;rw[zAq (by lia),zAq (by lia)];rfl
theorem qR8{m:Nat}(h:(Dm 0 m)[j]? = some x):j < m/\x=.int (j:Int):=by
 by_cases hj:j < m
 . rw[qaj7 hj] at h
   cases h;exact⟨hj,by rw[Int.zero_add]⟩
 rw[List.getElem?_eq_none (by unfold Dm;rw[zAa,zB9];lia)] at h;cases h
def E5(p:Int->Bool)(y:D):Option D:=y.asI.bind λ k=>if p k=true then some (.int k) else none
theorem qal6{p:Int->Bool}(h:p k=true):E5 p (.int k)=some (.int k):=if_pos h
theorem qal7{p:Int->Bool}(h:p k=false):E5 p (.int k)=none:=if_neg (by rw[h];decide)
theorem qK0(p:Int->Bool):∀ ks:List Int,(ksD ks).filterMap (E5 p)=ksD (ks.filter p)
 | []=>rfl
 | k::ks=>by
   show List.filterMap (E5 p) (D.int k::ksD ks)=_;rw[zBu];cases h:p k with
   | true=>rw[qal6 h,zC4 h];show D.int k::(ksD ks).filterMap (E5 p)=_;rw[qK0 p ks];rfl
   | false=>rw[qal7 h,zC6 (by rw[h];decide),qK0 p ks]
theorem qaL9{a:Bool}(h1:fa ds=some (.bl a))(h2:fb ds=some (.bl b)):fOr fa fb ds=some (.bl (a||b)):=by
 unfold fOr;rw[h1,h2];cases a<;>rfl
theorem qam6{a:Bool}(h1:fa ds=some (.bl a))(h2:fb ds=some (.bl b)):fAnd fa fb ds=some (.bl (a&&b)):=by
 unfold fAnd;rw[h1,h2];cases a<;>rfl
theorem qb1(ds1:Ds)(h1:∀ K:Ds->Prop,K ds1->t { e with nx:=K } ds)(h2:u e ds1):Fa t u e ds:=h1 (u e) h2
theorem qc8(R:Ds->Prop)(h1:∀ K:Ds->Prop,(∀ ds1,R ds1->K ds1)->t { e with nx:=K } ds)(h2:∀ ds1,R ds1->u e ds1):Fa t u e ds:=h1 (u e) h2
theorem qU0(I:Nat->Ds->Prop)(n:Nat)(h:I n ds)(hs:∀ n ds,I n ds->∀ K:Ds->Prop,(∀ m ds',m < n->I m ds'->K ds')->qc ds (λ b ds1=>if b=true then t { e with nx:=K,ct:=K,bk:=e.nx } ds1 else e.nx ds1) e.xe):qaw4 qc t e ds:=by
 have go:∀ N n ds,n < N->I n ds->whN qc t e N ds:=by
   intro N
   induction N with
   | zero=>intro n ds h;exact absurd h (Nat.not_lt_zero _)
   | succ N ih=>intro n ds hn h;exact hs n ds h _ λ m ds' hm h'=>ih m ds' (by lia) h'
 exact⟨n+1,go (n+1) n ds (zC8 n) h⟩
theorem qaE8(hx:rdN i ds=some x)(hy:rdN j ds=some y)(hx':rdN i (ds.set j .unk)=some x)(h:s [x,y] (λ d ys=>orF (Aq [.sl i,.sl j] ys ((ds.set j .unk).set i .unk)) λ ds2=>Q d ds2) (λ e ys=>orF (Aq [.sl i,.sl j] ys ((ds.set j .unk).set i .unk)) λ ds2=>xe e ds2)):qi6 s [] (tbN i (tbN j A5)) ds Q xe :=
 qb9 hx (qb9 hy (qa0 hy (qa0 hx' h)))
theorem qaM9{w:D}(hx:rdN i ds=some x)(hy:rdN j ds=some y)(hw:rdN l ds=some w)(hy':rdN j (ds.set l .unk)=some y)(hx':rdN i ((ds.set l .unk).set j .unk)=some x)(h:s [x,y,w] (λ d ys=>orF (Aq [.sl i,.sl j,.sl l] ys (((ds.set l .unk).set j .unk).set i .unk)) λ ds2=>Q d ds2) (λ e ys=>orF (Aq [.sl i,.sl j,.sl l] ys (((ds.set l .unk).set j .unk).set i .unk)) λ ds2=>xe e ds2)):qi6 s [] (tbN i (tbN j (tbN l A5))) ds Q xe :=
 qb9 hx (qb9 hy (qb9 hw (qa0 hw (qa0 hy' (qa0 hx' h)))))
theorem qaK0{C:Addr}{k:Nat}{w:D}(hp:rdN i ds=some p)(hm:p.isM C m=true)(hx:rdN j ds=some x)(hy:rdN l ds=some y)(hw:rdN k ds=some w)(hy':rdN l (ds.set k .unk)=some y)(hx':rdN j ((ds.set k .unk).set l .unk)=some x)(hp':rdN i (((ds.set k .unk).set l .unk).set j .unk)=some p)(r:R [p,x,y,w] d)(hb:Aq [.sl i,.sl j,.sl l,.sl k] [p,x,y,w] ((((ds.set k .unk).set l .unk).set j .unk).set i .unk)=some ds)(q:Q d ds):qr7 C m (Aw R) [] i (tbN j (tbN l (tbN k A5))) ds Q xe :=
 qE2 hp hm (qb9 hx (qb9 hy (qb9 hw (qa0 hw (qa0 hy' (qa0 hx' (qa0 hp' (qo9 r (qa0 hb q)))))))))
theorem qao6(h:ds[j]? = some d):ds.set j d=ds:=by
 obtain⟨hj,e⟩:=zA5.mp h;rw[<- e];exact List.set_getElem_self hj
theorem qm2(h:ds[i]? = some d)(hk:d.known=true):rdN i ds=some d:=qj0.mpr ⟨h,hk⟩
def isBag(ns:List Int)(b:D):Prop:=∃ x y z,b=bagD x y z ns/\Bg x y z ns
theorem isBag.known{b:D}(h:isBag ns b):b.known=true:=by obtain⟨x,y,z,rfl,_⟩:=h;rfl
def qH5:VSp:=λ ds Q _=>∃ b m ns,ds=[b,.int m]/\isBag ns b/\0 < m/\m < 2 ^ 200/\∀ v b',0<=v->v < m->isBag ns b'->Q (.int v) [b',.int m]
theorem qe3{b:D}{m:Int}(hx:ds[i]? = some b)(B:isBag ns b)(hf:f ds=some (.int m))(h0:0 < m)(h1:m < 2 ^ 200)(q:∀ v b',0<=v->v < m->isBag ns b'->Q (.int v) (ds.set i b')):qi6 qH5 [] (tbN i (tbV (Bu f) A5)) ds Q xe:=by
 have hb:=qm2 hx B.known;refine qb9 hb (qe0 hf (qa0 hb ⟨b,m,ns,rfl,B,h0,h1,λ v b' v0 v1 B'=>?_⟩));show Q (.int v) ((ds.set i .unk).set i b');rw[List.set_set];exact q v b' v0 v1 B'
theorem qr6{b:D}{m:Int}(hx:ds[i]? = some b)(B:isBag ns b)(hy:ds[j]? = some (.int m))(ne:i≠j)(h0:0 < m)(h1:m < 2 ^ 200)(q:∀ v b',0<=v->v < m->isBag ns b'->Q (.int v) (ds.set i b')):qi6 qH5 [] (tbN i (tbN j A5)) ds Q xe:=by
 have hb:=qm2 hx B.known;have hm:rdN j ds=some (.int m):=qm2 hy rfl;have hj:j < ds.length:=(zA5.mp hy).1;refine qaE8 hb hm (qm2 (by rw[zBk (Ne.symm ne)];exact hx) B.known) ⟨b,m,ns,rfl,B,h0,h1,λ v b' v0 v1 B'=>?_⟩;show Q (.int v) ((((ds.set j .unk).set i .unk).set i b').set j (.int m));have e:(((ds.set j .unk).set i .unk).set i b').set j (.int m)=ds.set i b':=by
   rw[List.set_set,List.set_comm _ _ (Ne.symm ne),List.set_set];exact qao6 (by rw[zBk ne];exact hy)
 rw[e];exact q v b' v0 v1 B'
theorem Ig{i j:Int}(h:small j=true):G1 (.int i) (.int j)=some (.int (i * j)):=qr0 (by rw[h,Bool.or_true])
theorem mulL{i j:Int}(h:small i=true):G1 (.int i) (.int j)=some (.int (i * j)):=qr0 (by rw[h,Bool.true_or])
theorem qau0{i j:Int}(h:0 < j)(h1:j < 2 ^ 200):gDiv (.int i) (.int j)=some (.int (i / j)):=qr0 (by show (decide (0 < j)&&decide (j < 2 ^ 200))=true;rw[zAq h,zAq h1];rfl)
theorem Dy{x n:Int}(h:0 < n):G2 (.int x) (.int n)=some (.int (x % n)):=qr0 (zAq h)
theorem qV6{i:Int}(h:-(2 ^ 64) < i)(h':i < 2 ^ 64):small i=true:=by unfold small;rw[zAq h,zAq h'];rfl
theorem Eb{z:Bool}{g:Nat->Option Int}(h:r < N):gIx (.lst z (rlD N g)) (.int (r:Int))=some (Fc (g r)):=qab8 (qN8 h)
theorem qT1{g:Nat->Option Int}(h:r < N):ixN (rlD N g).length (r:Int)=some r:=by
 rw[qp9];unfold ixN;simp[h]
theorem qz1{n:Nat}{g:Nat->Option Int}{c:Int}:(rlD n g).set i (.int c)=rlD n (Row.set g i c):=qV9 (o:=some c)
theorem qar3(N:Nat):(List.replicate N [D.non]).flatten=rlD N (λ _=>none):=by
 unfold rlD
 induction N with
 | zero=>rfl
 | succ N ih=>rw[List.replicate_succ',List.flatten_append,ih,List.range_succ,zBq];rfl
theorem qX8{n:Int}(h0:0<=n)(h1:n<=64):G1 (.lst false [.non]) (.int n)=some (.lst false (rlD n.toNat λ _=>none)):=by
 show gd _ _=_;rw[<- qar3];exact qr0 ⟨rfl,by show 1 * n.toNat<=1000000;lia,by lia,by lia⟩
theorem qM5{g g':Nat->Option Int}(h:∀ i,i < N->g i=g' i):rlD N g=rlD N g':=by
 unfold rlD;apply List.map_congr_left;intro i hi;rw[h i (zAv.mp hi)]
theorem qO2{g:VTG}{n:Int}(h:f ds=some (.int n))(h0:F4 n=true)(k:Dc g t e (Dm 0 n.toNat) ds):qae2 (G5 (tbV (Bu f) A5)) g t e ds:=by
 show orF (f ds) _;rw[h];exact⟨h0,k⟩
theorem qag9{g:VTG}{n:Int}(h:rdN i ds=some (.int n))(h0:F4 n=true)(k:Dc g t e (Dm 0 n.toNat) (ds.set i .unk)):qae2 (G5 (tbN i A5)) g t e ds:=by
 refine⟨by rw[h];rfl,?_⟩;exact qa0 h ⟨h0,k⟩
theorem qar1{z:Bool}:gInB true (.int k) (.lst z (ksD ks))=some (.bl (!decide (k∈ks))):=by
 show ((flats (ksD ks)).bind λ ws=>some (D.bl (if true=true then !inV (.int k) ws else inV (.int k) ws)))=_;rw[qB9];show some (D.bl (!inV (.int k) (ks.map V.int)))=_;rw[qas9]
theorem qal4(lo:Int)(n:Nat):(Dm lo n).length=n:=by unfold Dm;rw[zAa,zB9]
theorem qT2(e:f ds=some d)(hi:d.imm=true)(q:Q d ds):Dh f ds Q xe:=qa0 (a:=d) (k:=λ(d:D)=>d.imm=true/\Q d ds) e ⟨hi,q⟩
theorem qD2(h:f ds=some d)(hi:d.imm=true)(q:e.nx (ds.set i d)):Dw (Dh f) (gNm i) e ds:=qT2 (Q:=λ d ds'=>gNm i d ds' e.nx) h hi q
theorem qD1(h:f ds=some d)(q:e.nx (ds.set i d)):Dw (Bu f) (gNm i) e ds:=qq6 (Q:=λ d ds'=>gNm i d ds' e.nx) h q
theorem qam4{n:Nat}{K:Ds->Prop}(hi:ds[i]? = some (.lst false ys))(hk:fb ds=some (.int k))(hn:ixN ys.length k=some n)(q:K (ds.set i (.lst false (ys.set n d)))):E3 (λ _=>some (i,[])) fb d ds K:=by
 refine qa0 (a:=(i,([]:List Nat))) rfl ?_;refine qa0 (a:=ys) (by show (A6 ds i []).bind D.own=_;rw[qB7 hi];rfl) ?_;refine qa0 (a:=k) (by rw[hk];rfl) ?_;refine qa0 hn ?_;show K (Bf ds i [] (.lst false (ys.set n d)));rw[qz0 hi];exact q
theorem qC7{n:Nat}(hf:f ds=some d)(hd:d.imm=true)(hi:ds[i]? = some (.lst false ys))(hk:fb ds=some (.int k))(hn:ixN ys.length k=some n)(q:e.nx (ds.set i (.lst false (ys.set n d)))):Dw (Dh f) (E3 (λ _=>some (i,[])) fb) e ds :=
 qT2 (Q:=λ d ds'=>E3 (λ _=>some (i,[])) fb d ds' e.nx) hf hd (qam4 hi hk hn q)
theorem qM0{n:Nat}(hf:f ds=some d)(hi:ds[i]? = some (.lst false ys))(hk:fb ds=some (.int k))(hn:ixN ys.length k=some n)(q:e.nx (ds.set i (.lst false (ys.set n d)))):Dw (Bu f) (E3 (λ _=>some (i,[])) fb) e ds :=
 qq6 (Q:=λ d ds'=>E3 (λ _=>some (i,[])) fb d ds' e.nx) hf (qam4 hi hk hn q)
theorem qf6{K:Ds->List Pl->Ds->Prop}(hf:f ds=some y)(hi:y.imm=true)(h:tr ds (λ xs ps ds2=>K (y::xs) (.no::ps) ds2) xe):tbV (Dh f) tr ds K xe:=qT2 (Q:=λ y ds1=>tr ds1 (λ xs ps ds2=>K (y::xs) (.no::ps) ds2) xe) hf hi h
theorem qQ4(hi:ds[i]? = some (.lst false ys))(hf:f ds=some d)(hl:ys.length < big)(q:Q .non (ds.set i (.lst false (ys++[d])))):Em Fs i (tbV (Bu f) A5) ds Q xe:=by
 have e:(rdN i ds).bind D.own=some ys:=by rw[qm2 hi rfl];rfl
 refine⟨by rw[e];rfl,qe0 hf ?_⟩;refine qa0 (k:=λ ys=>orF (Fs ys [d]) λ z=>Q z.2 (ds.set i (.lst false z.1))) e ?_;exact qa0 (a:=(ys++[d],D.non)) (if_pos hl) q
theorem qaF0(hi:ds[i]? = some (.lst false ys))(hj:ds[j]? = some d)(hd:d.known=true)(ne:i≠j)(hl:ys.length < big)(q:Q .non ((ds.set j .unk).set i (.lst false (ys++[d])))):Em Fs i (tbN j A5) ds Q xe:=by
 have e:(rdN i ds).bind D.own=some ys:=by rw[qm2 hi rfl];rfl
 have e2:(rdN i (ds.set j .unk)).bind D.own=some ys:=by rw[qm2 (d:=.lst false ys) (by rw[zBk (Ne.symm ne)];exact hi) rfl];rfl
 refine⟨by rw[e];rfl,qb9 (qm2 hj hd) ?_⟩;refine qa0 (k:=λ d=>orF ((rdN i (ds.set j .unk)).bind D.own) λ ys=>orF (Fs ys [d]) λ z=>Q z.2 ((ds.set j .unk).set i (.lst false z.1))) (qm2 hj hd) ?_;refine qa0 (k:=λ ys=>orF (Fs ys [d]) λ z=>Q z.2 ((ds.set j .unk).set i (.lst false z.1))) e2 ?_;exact qa0 (a:=(ys++[d],D.non)) (if_pos hl) q
theorem qak9{g:Ds->Ds->Option (Ds×D)}{pf:PF}{p:List Nat}{d0:D}(h1:pf ds=some (i,p))(h2:(A6 ds i p).bind D.own=some ys)(h3:ds[i]? = some d0)(h:tr (ds.set i .unk) (λ xs _ ds1=>orF (g ys xs) λ z=>Q z.2 (Bf (ds1.set i d0) i p (.lst false z.1))) xe):E2 g pf tr ds Q xe:=by
 unfold E2;rw[h1];show orF ((A6 ds i p).bind D.own) _;rw[h2];show orF ds[i]? _;rw[h3];exact h
theorem qaN2{f:Int->Int->Int}{fe:FV}{x y:Int}(hi:ds[i]? = some (.lst false ys))(hk:fb ds=some (.int k))(k0:0<=k)(hx:ys[k.toNat]? = some (.int x))(hy:fe ds=some (.int y))(q:e.nx (ds.set i (.lst false (ys.set k.toNat (.int (f x y)))))):sAugV f (λ _=>some (i,[])) fb fe e ds:=by
 refine qa0 (a:=(i,([]:List Nat))) rfl ?_;refine qa0 (a:=ys) (by show (A6 ds i []).bind D.own=_;rw[qB7 hi];rfl) ?_;refine qa0 (a:=k) (by rw[hk];rfl) ⟨k0,?_⟩;refine qa0 (a:=x) (by rw[hx];rfl) ?_;refine qa0 (a:=y) (by rw[hy];rfl) ?_;show e.nx (Bf ds i [] _);rw[qz0 hi];exact q
theorem E6(b:Bool)(h:fa ds=some (.bl b))(h1:b=true->tb ds Q xe)(h2:b=false->Q (.bl false) ds):Gi (Bu fa) tb ds Q xe :=
 qq6 (xe:=xe) (Q:=λ x ds=>orF x.asB λ k=>if k=true then tb ds Q xe else Q (.bl false) ds) h (ite_b h1 h2)
theorem ql4{K:Ds->Prop}(h:K (ds.set i d)):gNm i d ds K:=h
theorem qd1{K:Ds->List Pl->Ds->Prop}(h:K [] [] ds):A5 ds K xe:=h
theorem qu5(h:te ds (λ _ ds'=>e.nx ds') e.xe):Hs te e ds:=h
theorem qB6{K:Ds->Prop}(h:K ((ds.set i x).set j y)):gTupV 2 (qat5 (gNm i) (qat5 (gNm j) gNilV)) (.tup [x,y]) ds K:=⟨rfl,h⟩
theorem qT9{Q:Bool->Ds->Prop}(h:Q true ds):qYes ds Q xe:=h
theorem qN2:ksD S++[.int k]=ksD (S++[k]):=by unfold ksD;rw[zBq];rfl
theorem qav3{tr2:VTB}{K:Ds->List Pl->Ds->Prop}(h:tr ds (λ xs _ ds1=>xs.length<=big/\tr2 ds1 (λ ys qs ds2=>K (.tup xs::ys) (.no::qs) ds2) xe) xe):tbV (Hr tr) tr2 ds K xe:=h
theorem qg9{K:Ds->List Pl->Ds->Prop}(h:ta ds (λ x ds1=>tr ds1 (λ xs ps ds2=>K (x::xs) (.no::ps) ds2) xe) xe):tbV ta tr ds K xe:=h
theorem qav4(ha:fa ds=some x)(hb:fb ds=some y)(hx:x.imm=true)(hy:y.imm=true):Be gTup (A9 fa (A9 fb λ _=>some [])) ds=some (.tup [x,y]):=by
 unfold Be A9;rw[ha,hb];show gd (D.imms [x,y]=true/\[x,y].length<=big) (.tup [x,y])=_;refine qr0 ⟨?_,by show 2<=1000000;decide⟩;show (x.imm&&(y.imm&&true))=true;rw[hx,hy];rfl
theorem qP1:Ee ys none (some (r:Int))=ys.take r:=by
 unfold Ee;have e1:HT.sIx ys.length ys.length (some ((r:Nat):Int))=min r ys.length:=HT.qaj4 _ _ r;rw[e1,HT.qW4,List.drop_zero,Nat.sub_zero];by_cases h:r<=ys.length
 . rw[Nat.min_eq_left h]
 rw[Nat.min_eq_right (by lia),List.take_length,zAs (by lia)]
theorem qaM2(h:y∈enD ys):∃ i v,y=.tup [.int (i:Nat),v]/\ys[i]? = some v:=by
 obtain⟨⟨v,i⟩,hp,rfl⟩:=zBc.mp h;exact⟨i,v,rfl,List.mem_zipIdx_iff_getElem?.mp hp⟩
theorem qaG7{g:Nat->Option Int}(h:d∈rlD N g):d=.non∨∃ k,d=.int k:=by
 unfold rlD at h;obtain⟨i,_,rfl⟩:=zBc.mp h;cases g i with
 | none=>exact .inl rfl
 | some k=>exact .inr ⟨k,rfl⟩
theorem qae4{g:D->D->Option D}{Q:Bool->Ds->Prop}(h:ta ds (λ x ds1=>orF ((fb ds1).bind (g x)) λ d=>orF d.asB λ b=>Q b ds1) xe):ttE (t2v g ta fb) ds Q xe:=h
theorem qk5(h:tr ds (λ xs ps ds1=>s (xs++[]) (λ d ys=>orF (Aq ps ys ds1) λ ds2=>Q d ds2) (λ x ys=>orF (Aq ps ys ds1) λ ds2=>xe x ds2)) xe):qi6 s [] tr ds Q xe:=h
theorem qG8{g:D->D->Option D}(hf:fa ds=some x)(h:tb ds (λ y ds2=>orF (g x y) λ d=>Q d ds2) xe):t2 g (Bu fa) tb ds Q xe:=qq6 (xe:=xe) (Q:=λ x ds1=>tb ds1 (λ y ds2=>orF (g x y) λ d=>Q d ds2) xe) hf h
theorem qV2{g:D->D->Option D}(h:ta ds (λ x ds1=>orF ((fb ds1).bind (g x)) λ d=>Q d ds1) xe):t2v g ta fb ds Q xe:=h
theorem qav9{g:D->D->Option D}(h:ta ds (λ x ds1=>orF (fb ds1) λ y=>y.imm=true/\orF (g x y) λ d=>Q d ds1) xe):Gy g ta fb ds Q xe:=h
theorem qJ5(h:tr ds (λ xs _ ds1=>xs.length<=big/\Q (.lst false xs) ds1) xe):tLstV tr ds Q xe:=h
theorem qf4(h:te ds (λ d ds'=>e.nx (ds'.set i d)) e.xe):Dw te (gNm i) e ds:=h
theorem qaB3{C:Addr}(h:tr ds (λ xs ps ds1=>s (.ins false C []::(xs++[])) (λ d ys=>d.isN=some true/\orF ys.head? λ self=>orF (Aq ps ys.tail ds1) λ ds2=>Q self ds2) (λ x ys=>orF (Aq ps ys.tail ds1) λ ds2=>xe x ds2)) xe):qQ6 C s [] tr ds Q xe:=h
theorem fz_to(h:te ds (λ d ds1=>Q d.fz ds1) xe):tFzV te ds Q xe:=h
def okN:Nat->D->Bool
 | n+1,.lst _ xs=>xs.all (okN n)
 | n+1,.tup xs=>xs.all (okN n)
 | _,x=>x.d0||x.flat.isSome
theorem qn1{f:D->D->Option Bool}:∀{xs:List D},(∀ x∈xs,f x x=some true)->E9 f xs xs=some true
 | [],_=>rfl
 | x::xs,h=>by
   show ((f x x).bind λ a=>(E9 f xs xs).bind λ b=>some (a&&b))=_;rw[h x zA9,qn1 λ y hy=>h y (zA6 _ hy)];rfl
theorem qK6(h:(x.d0||x.flat.isSome)=true):eqZ x x=some true:=by
 unfold eqZ;split
 . rfl
 rename_i hn
 have hd:x.d0=false:=by
   cases e:x.d0 with
   | false=>rfl
   | true=>rw[e] at hn;exact absurd rfl hn
 rw[hd,Bool.false_or] at h;cases x with
 | non=>rfl
 | bl b=>show some (eqV (.bl b) (.bl b))=_;rw[qu6 rfl]
 | int i=>show some (eqV (.int i) (.int i))=_;rw[qu6 rfl]
 | str i=>show some (eqV (.str i) (.str i))=_;rw[qu6 rfl]
 | _=>cases h
theorem qC1:∀{n:Nat}{x:D},okN n x=true->eqN n x x=some true
 | 0,x,h=>by
   rw[qK7];refine qK6 ?_;cases x<;>exact h
 | n+1,x,h=>by
   cases x with
   | lst z xs=>exact qn1 λ y hy=>qC1 (zBe.mp h y hy)
   | tup xs=>exact qn1 λ y hy=>qC1 (zBe.mp h y hy)
   | _=>exact qK6 h
theorem qK1(h:okN 21 x=true):gNe x x=some (.bl false):=by
 have e:eqT x x=some true:=by
   cases x with
   | lst z xs=>exact qn1 λ y hy=>qC1 (zBe.mp h y hy)
   | tup xs=>exact qn1 λ y hy=>qC1 (zBe.mp h y hy)
   | _=>exact qK6 h
 unfold gNe;rw[e];rfl
theorem qJ9(h:(ksD ks)[i]? = some y):∃ z,ks[i]? = some z/\y=.int z:=by
 unfold ksD at h;rw[zB8] at h;cases e:ks[i]? with
 | none=>rw[e] at h;cases h
 | some z=>rw[e] at h;exact⟨z,rfl,(Option.some.inj h).symm⟩
theorem qe8(h:ks[i]? = some k):ks.take (i+1)=ks.take i++[k]:=by rw[List.take_add_one,h];rfl
theorem ql1(nd:ks.Nodup)(h:ks[i]? = some k):¬ k∈ks.take i:=λ z=>by
 obtain⟨j,hj⟩:=List.getElem?_of_mem z;rw[List.getElem?_take] at hj;split at hj
 . rename_i hlt
   obtain⟨h1,e1⟩:=zA5.mp h;obtain⟨h2,e2⟩:=zA5.mp hj
   have:=(List.getElem_inj nd).mp (e2.trans e1.symm)
   lia
 cases hj
theorem qaa0:∀ ps:Pr,D.fzs (prD ps)=prD ps
 | []=>rfl
 | p::r=>congrArg (D.tup [.int p.1,.int p.2]::·) (qaa0 r)
theorem qaD3:∀ ps:Pr,D.fzk (kvD ps)=kvD ps
 | []=>rfl
 | p::r=>congrArg ((Sum.inl p.1,D.int p.2)::·) (qaD3 r)
theorem qaD4{z:Bool}{C:Addr}{n:Int}{wr:Bool}{ps:Pr}:(Aa z C n wr ps).fz=Aa true C n wr ps:=by
 show D.ins true C [("rooms",.int n),("wraps",.bl wr),("homes",.lst true (D.fzs (prD ps))),("home_numbers",.dct true (D.fzk (kvD ps)))]=_;rw[qaa0,qaD3];rfl
theorem qau1{z:Bool}{T:List Int}{lo hi:FO}{l h:Option Int}(hx:rdN i ds=some (.lst z (ksD S)))(h1:lo ds=some l)(h2:hi ds=some h)(e:Ee (ksD S) l h=ksD T):fsl (rdN i) lo hi ds=some (.lst false (ksD T)):=by
 unfold fsl;rw[hx,Option.bind_some,h1,Option.bind_some,h2,Option.bind_some,if_pos (show noT (D.lst z (ksD S))=true from rfl)];show gd (D.imms (Ee (ksD S) l h)=true) (D.lst false (Ee (ksD S) l h))=_;rw[e];exact qr0 (qf3 T)
theorem qau7{z z':Bool}{A B:List Int}(h:A.length+B.length<=1000):G0 (.lst z (ksD A)) (.lst z' (ksD B))=some (.lst false (ksD (A++B))):=by
 show gd _ (D.lst false (ksD A++ksD B))=_;rw[show ksD (A++B)=ksD A++ksD B from zBq];exact qr0 ⟨qf3 A,qf3 B,by rw[qg3,qg3];unfold big;lia⟩
theorem qaG8{g:D->D->Option D}{Q:Bool->Ds->Prop}(h:ta ds (λ x ds1=>tb ds1 (λ y ds2=>orF (g x y) λ d=>orF d.asB λ b=>Q b ds2) xe) xe):ttE (t2 g ta tb) ds Q xe:=h
theorem Gr{gc:Ds->Option D}(h:tr ds (λ xs _ ds1=>orF (gc xs) λ d=>Q d ds1) xe):tcO gc (G5 tr) ds Q xe:=h
theorem qat0{w:VTS}(h:qc ds (λ b ds'=>if b=true then t { e with nx:=w e } ds' else w e ds') e.xe):Fa (sIf qc t Fq) w e ds:=h
theorem qL6{l m n:Int}(h1:l<=n)(h2:n<=m):(D.int n).within l m=true:=by
 show (decide (l<=n)&&decide (n<=m))=true;rw[zAq h1,zAq h2];rfl
theorem qab5{p:List Nat}{w:V}{ps:List Pl}(h:A6 ds i p=some (.hole w)):Aq (.pl i p w::ps) (y::ys) ds=Aq ps ys (Bf ds i p y):=by
 show (match A6 ds i p with | some (.hole w')=>if w'=w then Aq ps ys (Bf ds i p y) else none | _=>none)=_;rw[h];exact if_pos rfl
theorem qaB5{C:Addr}(hp:rdN i ds=some p)(hm:p.isM C m=true)(r:R [p] d)(hb:Aq [.sl i] [p] (ds.set i .unk)=some ds)(q:Q d ds):qr7 C m (Aw R) [] i A5 ds Q xe :=
 qE2 hp hm (qd1 (qa0 hp (qo9 r (qa0 hb q))))
theorem qav2(h:tr ds (λ xs _ ds1=>xs.length<=big/\Q (.tup xs) ds1) xe):Hr tr ds Q xe:=h
theorem qaw0{g:D->D->Option D}(h:ta ds (λ x ds1=>tb ds1 (λ y ds2=>orF (g x y) λ d=>Q d ds2) xe) xe):t2 g ta tb ds Q xe:=h
theorem qaG2(h:rdN i ds=some d)(q:Q d.fz (ds.set i d.fz)):tFz i ds Q xe:=qa0 h q
def planT(n:Int)(wr:Bool)(ps:Pr):D:=.tup [.int n,.bl wr,.lst true (prD ps)]
theorem qan3(hi:ds[i]? = some (.lst false ys))(hf:f ds=some d)(hd:d.imm=true)(hl:ys.length < big)(q:Q .non (ds.set i (.lst false (ys++[d])))):Em Fs i (tbV (Dh f) A5) ds Q xe:=by
 have e:(rdN i ds).bind D.own=some ys:=by rw[qm2 hi rfl];rfl
 refine⟨by rw[e];rfl,qf6 hf hd ?_⟩;refine qa0 (k:=λ ys=>orF (Fs ys [d]) λ z=>Q z.2 (ds.set i (.lst false z.1))) e ?_;exact qa0 (a:=(ys++[d],D.non)) (if_pos hl) q
local macro_rules | `(tactic| walk_at "s")=>`(tactic| exact⟨rfl,rfl,rfl,by decide +kernel,rfl,by decide +kernel,by decide +kernel⟩)
local macro_rules | `(tactic| walk_at "v")=>`(tactic| simp only[Fa,sIf,sRet,Fq,Hs,Dw,gNm,Hu,ttOr,Hm,Fl,ttV,ttE,Bu,Dh,Gi,tOrE,tNotE,Fm,tIfE,tcO,G5,tbV,tbN,A5,tbB,qi6,qr7,tMv,tFz,t1,t2,t2v,t2n,Gy,Hi,Be,A9,kC,f1,f2,fx1,fx2,rdN,Aq,Hw,fin,wOf,qYes,qaq9,Option.bind_some,Option.map_some,Option.isSome_some,List.getElem?_cons_zero,List.getElem?_cons_succ,List.set_cons_zero,List.set_cons_succ,zBl,zAz,zAd,List.replicate_zero,zBh,zAk,zCa,List.getD_cons_zero,List.getD_cons_succ,Nat.reduceAdd,Nat.reduceSub,Nat.sub_self,Nat.zero_sub,Nat.add_sub_cancel,D.known,D.asB,D.asI,D.imm,Bool.not_true,Bool.not_false,if_true,if_false,reduceIte,Bool.false_eq_true,true_and,and_true,Bool.true_and,Bool.and_true,Bi,Ea,Bk,qR9,qap5])
def top(i:Nat):Stmt:=PySem.Challenge.pw_homeward_k37_whole_line_hangs.main.body.getD i (.Pass ⟨0,0,0,0⟩)
abbrev qaj3:Stmt:=top 0
abbrev qs6:Stmt:=top 12
abbrev qe9:Stmt:=top 13
abbrev qo2:Stmt:=top 14
abbrev qk7:Stmt:=top 15
abbrev qf9:Stmt:=top 16
abbrev qh3:Stmt:=top 17
abbrev qo5:Stmt:=qj2 (top 18) 0
abbrev qh5:Stmt:=qj2 (top 18) 2
abbrev qo6:Stmt:=qj2 (top 18) 4
abbrev qt1:Stmt:=qj2 (top 18) 5
abbrev qf0:Stmt:=qj2 (top 18) 6
abbrev qs5:Stmt:=top 20
abbrev qf8:Stmt:=top 21
abbrev qs4:Stmt:=top 22
abbrev qo1:Stmt:=top 23
abbrev qs7:Stmt:=top 24
abbrev qo4:Stmt:=top 26
abbrev qh4:Stmt:=top 27
abbrev qh2:Stmt:=top 28
abbrev qs8:Stmt:=top 29
abbrev qi7:Stmt:=top 31
abbrev qg6:Stmt:=top 32
abbrev qo3:Stmt:=top 33
abbrev qt0:Stmt:=qj2 (top 34) 0
abbrev qg7:Stmt:=qj2 (top 34) 2
abbrev qD4:Stmt:=qj2 (top 34) 3
abbrev qi8:Stmt:=qj2 (top 34) 4
abbrev qz5:Stmt:=qj2 (top 34) 5
abbrev qs9:Stmt:=qj2 (top 34) 6
abbrev qao8:Stmt:=top 36
abbrev qW2:Stmt:=top 37
abbrev qW3:Stmt:=top 38
abbrev qt2:Stmt:=top 39
abbrev qz6:Stmt:=top 40
abbrev qh7:Stmt:=top 41
abbrev qI6:Stmt:=top 42
abbrev qt3:Stmt:=top 43
abbrev qI4:Stmt:=top 44
abbrev qI3:Stmt:=top 45
abbrev qI5:Stmt:=top 46
abbrev qh6:Stmt:=top 47
abbrev Fv:Stmt:=top 48
set_option genInjectivity false in
set_option genSizeOf false in
structure Adr where
 f0:Addr
 d0:FuncData
 f1:Addr
 d1:FuncData
 f2:Addr
 d2:FuncData
 f3:Addr
 d3:FuncData
 f4:Addr
 d4:FuncData
 f5:Addr
 d5:FuncData
 f6:Addr
 d6:FuncData
 f7:Addr
 d7:FuncData
 f8:Addr
 d8:FuncData
 f9:Addr
 d9:FuncData
 f10:Addr
 d10:FuncData
 f11:Addr
 d11:FuncData
 f12:Addr
 d12:FuncData
 f13:Addr
 d13:FuncData
 f14:Addr
 d14:FuncData
 f15:Addr
 d15:FuncData
 f16:Addr
 d16:FuncData
 f17:Addr
 d17:FuncData
 f18:Addr
 d18:FuncData
 f19:Addr
 d19:FuncData
 f20:Addr
 d20:FuncData
 f21:Addr
 d21:FuncData
 f22:Addr
 d22:FuncData
 f23:Addr
 d23:FuncData
 f24:Addr
 d24:FuncData
 f25:Addr
 d25:FuncData
 f26:Addr
 d26:FuncData
 f27:Addr
 d27:FuncData
 f28:Addr
 d28:FuncData
 f29:Addr
 d29:FuncData
 f30:Addr
 d30:FuncData
 f31:Addr
 d31:FuncData
 f32:Addr
 d32:FuncData
 f33:Addr
 d33:FuncData
 f34:Addr
 d34:FuncData
 f35:Addr
 d35:FuncData
 f36:Addr
 d36:FuncData
 f37:Addr
 d37:FuncData
 f38:Addr
 d38:FuncData
 f39:Addr
 d39:FuncData
 f40:Addr
 d40:FuncData
 f41:Addr
 d41:FuncData
 f42:Addr
 d42:FuncData
 Ca:Tok
 Ce:Tok
 Cc:Tok
 C3:Addr
 C4:Addr
structure Txt(K:PySem.W.Frag)(mg:Str->Option Value)(a:Adr):Prop where
 d0:Df K mg "_wall" "_wall" qaj3 a.f0 a.d0 ["k"]
 d1:Df K mg "is_whole" "is_whole" qs6 a.f1 a.d1 ["thing"]
 d2:Df K mg "is_whole_within" "is_whole_within" qe9 a.f2 a.d2 ["thing", "least", "most"]
 d3:Df K mg "is_number" "is_number" qo2 a.f3 a.d3 ["thing"]
 d4:Df K mg "are_parted" "are_parted" qk7 a.f4 a.d4 ["numbers"]
 d5:Df K mg "is_number_pair" "is_number_pair" qf9 a.f5 a.d5 ["thing"]
 d6:Df K mg "is_home_list" "is_home_list" qh3 a.f6 a.d6 ["thing"]
 d7:Md K a.C3 "__init__" "Plan.__init__" qo5 a.f7 a.d7 ["self", "rooms", "wraps", "homes"]
 d8:Md K a.C3 "is_room" "Plan.is_room" qh5 a.f8 a.d8 ["self", "thing"]
 d9:Md K a.C3 "home" "Plan.home" qo6 a.f9 a.d9 ["self", "key"]
 d10:Md K a.C3 "far" "Plan.far" qt1 a.f10 a.d10 ["self", "key", "room"]
 d11:Md K a.C3 "goes_ahead" "Plan.goes_ahead" qf0 a.f11 a.d11 ["self", "room", "one", "other"]
 d12:Df K mg "room_ahead" "room_ahead" qs5 a.f12 a.d12 ["plan", "room"]
 d13:Df K mg "word_by_room_ahead" "word_by_room_ahead" qf8 a.f13 a.d13 ["plan", "rooms", "room"]
 d14:Df K mg "word_due" "word_due" qs4 a.f14 a.d14 ["plan", "rooms", "room"]
 d15:Df K mg "is_turned" "is_turned" qo1 a.f15 a.d15 ["plan", "rooms"]
 d16:Df K mg "fault_of" "fault_of" qs7 a.f16 a.d16 ["plan", "rooms"]
 d17:Df K mg "are_crowd" "are_crowd" qo4 a.f17 a.d17 ["plan", "keys", "room"]
 d18:Df K mg "crowded_room" "crowded_room" qh4 a.f18 a.d18 ["plan", "keys"]
 d19:Df K mg "refuse_crowd" "refuse_crowd" qh2 a.f19 a.d19 ["plan", "keys"]
 d20:Df K mg "bring_in" "bring_in" qs8 a.f20 a.d20 ["plan", "rooms", "key"]
 d21:Df K mg "room_behind" "room_behind" qi7 a.f21 a.d21 ["plan", "room"]
 d22:Df K mg "is_drawn_from" "is_drawn_from" qg6 a.f22 a.d22 ["plan", "rooms", "room"]
 d23:Df K mg "draw_back" "draw_back" qo3 a.f23 a.d23 ["plan", "rooms", "room"]
 d24:MdN K a.C4 "__init__" "Row.__init__" qt0 a.f24 a.d24 ["self", "plan", "rooms"]
 d25:Md K a.C4 "keys_held" "Row.keys_held" qg7 a.f25 a.d25 ["self"]
 d26:Md K a.C4 "many" "Row.many" qD4 a.f26 a.d26 ["self"]
 d27:Md K a.C4 "room_of" "Row.room_of" qi8 a.f27 a.d27 ["self", "key"]
 d28:Md K a.C4 "put" "Row.put" qz5 a.f28 a.d28 ["self", "key"]
 d29:Md K a.C4 "take" "Row.take" qs9 a.f29 a.d29 ["self", "key"]
 d30:Df K mg "_law_bag" "_law_bag" qao8 a.f30 a.d30 ["_law_script"]
 d31:Df K mg "_law_take" "_law_take" qW2 a.f31 a.d31 ["_law_bag_here", "_law_many"]
 d32:Df K mg "_law_home" "_law_home" qW3 a.f32 a.d32 ["_law_plan", "_law_key"]
 d33:Df K mg "_law_passing" "_law_passing" qt2 a.f33 a.d33 ["_law_plan", "_law_keys"]
 d34:Df K mg "_law_housed" "_law_housed" qz6 a.f34 a.d34 ["_law_plan", "_law_keys"]
 d35:Df K mg "_law_drawn_homes" "_law_drawn_homes" qh7 a.f35 a.d35 ["_law_bag_here", "_law_size", "_law_many"]
 d36:Df K mg "_law_drawn" "_law_drawn" qI6 a.f36 a.d36 ["_law_bag_here", "_law_most"]
 d37:Df K mg "_law_fitting" "_law_fitting" qt3 a.f37 a.d37 ["_law_plan", "_law_keys"]
 d38:Df K mg "_law_order" "_law_order" qI4 a.f38 a.d38 ["_law_plan", "_law_keys"]
 d39:Df K mg "_law_stays" "_law_stays" qI3 a.f39 a.d39 ["_law_row", "_law_plan", "_law_before", "_law_key"]
 d40:Df K mg "_law_moved" "_law_moved" qI5 a.f40 a.d40 ["_law_row", "_law_plan", "_law_word", "_law_key"]
 d41:Df K mg "_law_rooms_right" "_law_rooms_right" qh6 a.f41 a.d41 ["_law_row", "_law_plan", "_law_keys"]
 d42:Df K mg "law" "law" Fv a.f42 a.d42 ["_law_script"]
 Ck:mg "MOST_NUMBER" = some (.int 1000000000000000000 a.Ca)
 Cp:mg "MOST_ROOMS" = some (.int 64 a.Ce)
 Co:mg "MOST_HOMES" = some (.int 64 a.Cc)
 D4:mg "abs" = none
 D3:mg "all" = none
 Cw:mg "bool" = none
 Ct:mg "dict" = none
 Cs:mg "enumerate" = none
 D2:mg "int" = none
 C8:mg "isinstance" = none
 Cg:mg "len" = none
 Cj:mg "list" = none
 Cv:mg "max" = none
 Cu:mg "min" = none
 Ch:mg "range" = none
 D5:mg "set" = none
 Cr:mg "sorted" = none
 D1:mg "tuple" = none
 C5:Cl K mg "Plan" a.C3
 Cz:Mk K a.C3 a.f7
 C6:qf1 K a.C3 "rooms"
 Cd:qf1 K a.C3 "wraps"
 Cq:qf1 K a.C3 "homes"
 Cb:qf1 K a.C3 "home_numbers"
 D0:IsO K a.C3
 C7:Cl K mg "Row" a.C4
 Cy:Mk K a.C4 a.f24
 Cf:qf1 K a.C4 "plan"
 C9:qf1 K a.C4 "held"
 Ci:qf1 K a.C4 "done"
section
variable{P:Program}{w:World}{K:PySem.W.Frag}{mg:Str->Option Value}{base:Heap}{a:Adr}
theorem qR7:qa9 ["thing"] ["thing"] (qa3 qs6):=by walk_at "s"
def qQ8:VSp:=Bk (fx1 λ x=>x.kind.map λ _=>.bl x.whole)
theorem qS2(T:Txt K mg a):VFn P w K mg base 1 a.f1 a.d1 ["thing"] qQ8:=by
 refine VFn.mk' T.d1.F qR7 (wOf [true]) qr3 (λ _ _ _=>qY6) (λ _ _ _=>imm1) (λ cdv A outer sh H E av hr=>⟨_,(Ah (At (qa5 (vand (vbi ql8 qK9.ops T.C8 (qa2 (vnm 0) (qa2 (vty "int" T.D2) qa7 rfl) rfl)) (vone (vnot (vbi ql8 qK9.ops T.C8 (qa2 (vnm 0) (qa2 (vty "bool" T.Cw) qa7 rfl) rfl)))))))),λ ds Q xe h=>?_⟩);obtain⟨x,d,rfl,e,q⟩:=Ie h;obtain⟨t,ht,rfl⟩:=zAe.mp e;cases x<;>first | exact q | cases ht
theorem qn6:qa9 ["thing", "least", "most"] ["thing", "least", "most"] (qa3 qe9):=by walk_at "s"
def qn4:VSp:=Bk (fx3 λ x l m=>x.kind.bind λ _=>l.asI.bind λ i=>m.asI.map λ j=>.bl (x.within i j))
theorem qe5(T:Txt K mg a):VFn P w K mg base 2 a.f2 a.d2 ["thing", "least", "most"] qn4:=by
 refine VFn.mk' T.d2.F qn6 (wOf [true,true,true]) qr3 (λ _ _ _=>qaC2) (λ _ _ _=>imm3) (λ cdv A outer sh H E av hr=>⟨_,(Ah (At (Fn (Aj T.d1 (qS2 T) qa1 (rm hr) (vaN 0 Ac)) (Hn (qa5 (vch op_le os_le op_le os_le (vnm 1) (vnm 0) (vnm 2))))))),λ ds Q xe h=>?_⟩);obtain⟨x,l,m,d,rfl,e,q⟩:=pure3 h;obtain⟨t,ht,e⟩:=zA1.mp e;obtain⟨i,hi,e⟩:=zA1.mp e;obtain⟨j,hj,rfl⟩:=zAe.mp e;cases l<;>cases hi
 cases m<;>cases hj
 cases x with
 | int n =>
   refine⟨rfl,?_⟩;show orF (f3 gLe gLe (rdN 1) (rdN 0) (rdN 2) [.int n,.int i,.int j]) _;have e3:f3 gLe gLe (rdN 1) (rdN 0) (rdN 2) [.int n,.int i,.int j]=some (.bl (decide (i<=n)&&decide (n<=j))):=by
     show (if decide (i<=n)=true then some (D.bl (decide (n<=j))) else some (.bl false))=_;cases decide (i<=n)<;>rfl
   rw[e3];exact q
 | _=>first | exact⟨rfl,q⟩ | cases ht
theorem qD3:qa9 ["numbers"] ["numbers"] (qa3 qk7):=by walk_at "s"
def qC8:VSp:=Aw λ ds d=>∃ z ks,ds=[.lst z (ksD ks)]/\ks.length<=1000/\d=.bl (decide ks.Nodup)
theorem qD8(T:Txt K mg a):VFn P w K mg base 1 a.f4 a.d4 ["numbers"] qC8:=by
 refine VFn.mk2 T.d4.F qD3 (wOf [true]) qb2 (λ ds Q xe h=>by obtain⟨d,⟨z,ks,e,_⟩,_⟩:=h;rw[e];exact⟨rfl,rfl⟩) (λ cdv A outer sh H E av hr=>⟨_,(Ah (At (qa5 (v2 (Ba (qJ0 hr.u64) (qb3 _)) Ej (vlenS T.Cg T.D5 (vnm 0)) (vbi qx1 qx0.ops T.Cg (qa2 (vnm 0) qa7 rfl)))))),λ ds Q xe h=>?_⟩);obtain⟨d,⟨z,ks,rfl,hl,rfl⟩,q⟩:=h;have e1:f1 Go (rdN 0) [.lst z (ksD ks)]=some (.int (qj3 ks)):=by
   show ((intsD (ksD ks)).bind λ ns=>gd (ns.length<=1000) (.int (qj3 ns)))=_;rw[qal9];exact qr0 hl
 have e2:f2 gEq (f1 Go (rdN 0)) (Be (fx1 Fw) (A9 (rdN 0) λ x=>some [])) [.lst z (ksD ks)]=some (.bl (decide ks.Nodup)):=by
   show ((f1 Go (rdN 0) [.lst z (ksD ks)]).bind λ x=>gEq x (.int (ksD ks).length))=_;rw[e1,qg3];show some (D.bl ((qj3 ks:Int) == (ks.length:Int)))=_
   have:=qK8 ks
   by_cases h:ks.Nodup
   . rw[zAq h,this.mpr h,zBm]
   have hn:¬ ((qj3 ks:Int)=(ks.length:Int)):=λ z=>h (this.mp (by exact_mod_cast z))
   rw[zBb h];simp[hn]
 exact qa0 e2 q
theorem qH9:qa9 ["thing"] ["thing"] (qa3 qo2):=by walk_at "s"
def qk6:VSp:=Bk (fx1 λ x=>x.kind.map λ _=>.bl x.num)
theorem qd2(T:Txt K mg a):VFn P w K mg base 3 a.f3 a.d3 ["thing"] qk6:=by
 refine VFn.mk' T.d3.F qH9 (wOf [true]) qr3 (λ _ _ _=>qY6) (λ _ _ _=>imm1) (λ cdv A outer sh H E av hr=>⟨_,(Ah (At (Aj T.d2 (qe5 T) qa1 (rm hr) (vaN 0 (vaV (qa5 Ae) (vaV (qa5 (vgi T.Ck)) Ac)))))),λ ds Q xe h=>?_⟩);obtain⟨x,d,rfl,e,q⟩:=Ie h;obtain⟨t,ht,rfl⟩:=zAe.mp e;cases x<;>first | exact⟨rfl,q⟩ | cases ht
theorem qq4:qa9 ["thing"] ["thing"] (qa3 qf9):=by walk_at "s"
def _root_.LV.D.pairB:D->Bool
 | .tup [x,y]=>x.num&&y.num
 | _=>false
def _root_.LV.D.kinded:D->Bool
 | .tup ds=>(ds.all λ d=>d.kind.isSome&&d.imm)&&decide (ds.length<=1000)
 | _=>true
def qq3:VSp:=Bk (fx1 λ x=>if x.kinded=true then x.kind.map λ _=>.bl x.pairB else none)
theorem qq5(T:Txt K mg a):VFn P w K mg base 4 a.f5 a.d5 ["thing"] qq3:=by
 refine VFn.mk' T.d5.F qq4 (wOf [true]) qr3 (λ _ _ _=>qY6) (λ _ _ _=>imm1) (λ cdv A outer sh H E av hr=>⟨_,(Ah (At (Fn (qa5 (vbi ql8 qK9.ops T.C8 (qa2 (vnm 0) (qa2 (vty "tuple" T.D1) qa7 rfl) rfl))) (Fn (qa5 (v2 (Ba (qJ0 hr.u64) (qb3 _)) Ej (vbi qx1 qx0.ops T.Cg (qa2 (vnm 0) qa7 rfl)) Ae)) (Fn (Aj T.d3 (qd2 T) qa1 (rm hr) (vaV (qc2 (v2 (Av qb6) Ap (vnm 0) Ae)) Ac)) (Hn (Aj T.d3 (qd2 T) qa1 (rm hr) (vaV (qc2 (v2 (Av qb6) Ap (vnm 0) Ae)) Ac)))))))),λ ds Q xe h=>?_⟩);obtain⟨x,d,rfl,e,q⟩:=Ie h;cases x with
 | tup ds =>
   by_cases hk:(D.tup ds).kinded=true
   . rw[if_pos hk] at e
     cases e;have hk:=zAh.mp hk;have ha:=zBe.mp hk.1
     match ds with
     | []=>exact q
     | [_]=>exact q
     | [x,y] =>
       have hx:=zAh.mp (ha x (by simp));have hy:=zAh.mp (ha y (by simp));obtain⟨t,ht⟩:=zB4.mp hx.1;obtain⟨u,hu⟩:=zB4.mp hy.1;refine⟨hx.2,?_⟩;refine qa0 (a:=D.bl x.num) (by show (x.kind.map _)=_;rw[ht];rfl) ?_;refine ite_b (λ hn=>⟨hy.2,qa0 (a:=D.bl y.num) (by show (y.kind.map _)=_;rw[hu];rfl) ?_⟩) λ hn=>?_
       . have:(D.tup [x,y]).pairB=y.num:=by show (x.num&&y.num)=_;rw[hn];rfl
         rw[this] at q;exact q
       have:(D.tup [x,y]).pairB=false:=by show (x.num&&y.num)=_;rw[hn];rfl
       rw[this] at q;exact q
     | x::y::z::r =>
       have e2:f2 gEq (Be (fx1 Fw) (A9 (rdN 0) λ x=>some [])) (kC (D.int 2)) [.tup (x::y::z::r)]=some (.bl false):=by
         show some (D.bl (((x::y::z::r).length:Int) == 2))=_
         have:(((x::y::z::r).length:Int) == 2)=false:=by
           have:((x::y::z::r).length:Int)≠2:=by simp;lia
           simpa using this
         rw[this]
       have:orF (f2 gEq (Be (fx1 Fw) (A9 (rdN 0) λ x=>some [])) (kC (D.int 2)) [.tup (x::y::z::r)]) (λ d=>orF d.asB λ k=>if k=true then Gi (qi6 qk6 [] (tbV (Dh (f2 gIx (rdN 0) (kC (D.int 0)))) A5)) (qi6 qk6 [] (tbV (Dh (f2 gIx (rdN 0) (kC (D.int 1)))) A5)) [.tup (x::y::z::r)] (λ d ds=>Q d (fin (wOf [true]) 0 [.tup (x::y::z::r)] ds)) (λ x1 ds=>xe x1 (fin (wOf [true]) 0 [.tup (x::y::z::r)] ds)) else Q (.bl false) [.tup (x::y::z::r)]):=by
         rw[e2];exact q
       exact this
   rw[if_neg hk] at e;cases e
 | _=>first | (cases e;exact q) | cases e
theorem qv7:qa9 ["thing"] ["thing"] (qa3 qh3):=by walk_at "s"
def F8:D->Option Int
 | .tup (.int k::_)=>some k
 | _=>none
def _root_.LV.D.homesB:D->Bool
 | .lst _ ys=>decide (ys.length<=64)&&(ys.all D.pairB&&decide (ys.filterMap F8).Nodup)
 | _=>false
def _root_.LV.D.lstOk(p:D->Bool):D->Bool
 | .lst _ ys=>D.imms ys&&ys.all p&&decide (ys.length<=1000)
 | x=>x.kind.isSome
def Ih(y:D):Bool:=y.kind.isSome&&y.kinded
theorem qaA7(h:x.num=true):∃ n,x=.int n/\Am n:=by
 cases x with
 | int n =>
   have:=zAh.mp h
   exact⟨n,rfl,zAf this.1,zAf this.2⟩
 | _=>cases h
theorem qA6{n:Int}(h:Am n):(D.int n).num=true:=by
 show (decide (0<=n)&&decide (n<=1000000000000000000))=true;rw[zAq h.1,zAq h.2];rfl
theorem qaz6(h:y.pairB=true):∃ k m,y=.tup [.int k,.int m]/\Am k/\Am m:=by
 cases y with
 | tup ds =>
   match ds,h with
   | [x,y],h =>
     have h:=zAh.mp h;obtain⟨k,rfl,hk⟩:=qaA7 h.1;obtain⟨m,rfl,hm⟩:=qaA7 h.2;exact⟨k,m,rfl,hk,hm⟩
 | _=>cases h
theorem qW8:∀{ys:Ds},ys.all D.pairB=true->∃ ps:Pr,ys=prD ps/\∀ p∈ps,Am p.1/\Am p.2
 | [],_=>⟨[],rfl,λ p h=>by simp at h⟩
 | y::r,h=>by
   rw[List.all_cons,zBg] at h;obtain⟨k,m,rfl,hk,hm⟩:=qaz6 h.1;obtain⟨ps,rfl,hp⟩:=qW8 h.2;refine⟨(k,m)::ps,rfl,λ p hp'=>?_⟩;rcases zAm.mp hp' with rfl | hp'
   . exact⟨hk,hm⟩
   exact hp p hp'
theorem qZ2:∀ ps:Pr,(prD ps).filterMap F8=ps.map (·.1)
 | []=>rfl
 | p::r=>by show p.1::(prD r).filterMap F8=_;rw[qZ2 r];rfl
theorem qaF1:∀{ps:Pr},(∀ p∈ps,Am p.1/\Am p.2)->(prD ps).all D.pairB=true
 | [],_=>rfl
 | p::r,h=>by
   show (((D.int p.1).num&&(D.int p.2).num)&&(prD r).all D.pairB)=true;rw[qA6 (h p zA9).1,qA6 (h p zA9).2,qaF1 λ q hq=>h q (zA6 _ hq)];rfl
theorem qaF2:∀ ps:Pr,(prD ps).all Ih=true
 | []=>rfl
 | p::r=>by show (true&&(prD r).all Ih)=true;rw[qaF2 r];rfl
theorem qE6{z:Bool}{ps:Pr}(h:Hh ps):(D.lst z (prD ps)).homesB=true/\(D.lst z (prD ps)).lstOk Ih=true:=by
 have hl:(prD ps).length<=64:=by simpa[prD] using h.len
 constructor
 . show (decide ((prD ps).length<=64)&&((prD ps).all D.pairB&&decide ((prD ps).filterMap F8).Nodup))=true
   rw[zAq hl,qaF1 h.nums,qZ2,zAq h.nd];rfl
 show (D.imms (prD ps)&&(prD ps).all Ih&&decide ((prD ps).length<=1000))=true;rw[qy3,qaF2,zAq (by lia)];rfl
theorem qP9{α:Type}(f:α->Bool):∀ l:List α,bools (l.map λ a=>.bl (f a))=some (l.map f)
 | []=>rfl
 | a::r=>by show (bools (r.map λ a=>D.bl (f a))).map (λ bs=>f a::bs)=_;rw[qP9 f r];rfl
theorem qaF3(f:α->Bool)(l:List α):gAll (.lst false (l.map λ a=>.bl (f a)))=some (.bl (l.all f)):=by
 show (bools (l.map λ a=>D.bl (f a))).map (λ bs=>D.bl (bs.all id))=_;rw[qP9];show some (D.bl ((l.map f).all id))=_;rw[List.all_map];rfl
def qv2:VSp:=Aw λ ds d=>∃ x,ds=[x]/\x.lstOk Ih=true/\d=.bl x.homesB
theorem qw2(T:Txt K mg a):VFn P w K mg base 5 a.f6 a.d6 ["thing"] qv2:=by
 refine VFn.mk2 T.d6.F qv7 (wOf [true]) qb2 (λ ds Q xe ⟨d,⟨x,e,_⟩,_⟩=>by rw[e];exact⟨rfl,rfl⟩) (λ cdv A outer sh H E av hr=>⟨_,(Ab (sif (tor (Bs (tv (vbi ql8 qK9.ops T.C8 (qa2 (vnm 0) (qa2 (vty "list" T.Cj) qa7 rfl) rfl)))) (tor1 (q2 (Au De (qb3 _)) Di (vbi qx1 qx0.ops T.Cg (qa2 (vnm 0) qa7 rfl)) (vgi T.Co)))).te
     (Ah (At (qa5 vbl)))
     Ax)
     (Ah (At (Fn (ebi (qP8 rfl) qaE3.ops T.D3 (Dx (vaV (ecN (NY:=["pair"]) (src:=[none]) 0 (blk (λ av C s0 H0 ex=>(Bc 0 (show (["pair"]:List Str).Nodup by decide +kernel))) (λ av C s0 H0 ex=>Eo) (λ av C s0 H0 ex=>(Aj T.d5 (qq5 T) ql3 (rm hr) (vaN 0 Ac))))) Ac))) (Hn (Aj T.d4 (qD8 T) qa1 (rm hr) (vaV (ecN (NY:=["pair"]) (src:=[none]) 0 (blk (λ av C s0 H0 ex=>(Bc 0 (show (["pair"]:List Str).Nodup by decide +kernel))) (λ av C s0 H0 ex=>Eo) (λ av C s0 H0 ex=>(qc2 (v2 (Av qb6) Ap (vnm 0) Ae))))) Ac))))))),λ ds Q xe h=>?_⟩)
 obtain⟨d,⟨x,rfl,hk,rfl⟩,q⟩:=h;cases x with
 | lst z ys =>
   have hk:=zAh.mp hk;have hk1:=zAh.mp hk.1;have hlen:=zAf hk.2;refine ite_b (p:=decide ((64:Int) < (ys.length:Nat))) (λ h=>?_) (λ h=>?_)
   . have hn:¬ ys.length<=64:=by have:=zAf h;lia
     have:(D.lst z ys).homesB=false:=by
       show (decide (ys.length<=64)&&_)=false;rw[zBb hn];rfl
     rw[this] at q;exact q
   have hn:ys.length<=64:=by have:=zBy h;lia
   have hb:(D.lst z ys).homesB=(ys.all D.pairB&&decide (ys.filterMap F8).Nodup):=by
     show (decide (ys.length<=64)&&_)=_;rw[zAq hn];rfl
   have hall:=zBe.mp hk1.2;refine⟨hk1.1,?_⟩;refine qj5 (λ ι=>∃ d,ι=[d]) (λ y=>some (.bl y.pairB)) ys [] _ (by show 0+ys.length < big;unfold big;lia) ⟨_,rfl⟩ ?_ ?_
   . rintro y hy ι acc ⟨d,rfl⟩ R hR hacc
     have h1:=zAh.mp (hall y hy);obtain⟨t,ht⟩:=zB4.mp h1.1;refine qai5 (x:=y) (rd0 (qE3 ht)) (qa0 (a:=D.bl y.pairB) ?_ ?_)
     . show (if y.kinded=true then y.kind.map _ else none)=_
       rw[if_pos h1.2,ht];rfl
     exact⟨hacc,hR _ ⟨_,rfl⟩⟩
   rintro ι ⟨d,rfl⟩;rw[zAz,qK4];refine qa0 (qaF3 D.pairB ys) (ite_b (λ ha=>?_) λ ha=>?_)
   . obtain⟨ps,rfl,hp⟩:=qW8 ha
     refine⟨qy3 ps,qj5 (λ ι=>∃ d,ι=[d]) (λ y=>(F8 y).map .int) (prD ps) [] _ (by show 0+(prD ps).length < big;unfold big;lia) ⟨_,rfl⟩ ?_ ?_⟩
     . rintro y hy ι acc ⟨d,rfl⟩ R hR hacc
       obtain⟨p,hp',rfl⟩:=zBc.mp hy;exact⟨rfl,hacc,hR _ ⟨_,rfl⟩⟩
     rintro ι ⟨d,rfl⟩;have e:[]++(prD ps).filterMap (λ y=>(F8 y).map D.int)=ksD (ps.map (·.1)):=by
       rw[zAz];unfold prD ksD;rw[List.filterMap_map,zBj];exact qK4 _ _
     rw[e];rw[hb,ha,qZ2] at q;exact⟨_,⟨false,_,rfl,by simp;simp[prD] at hn;lia,rfl⟩,q⟩
   rw[hb,ha] at q;exact q
 | _=>first | exact q | cases hk
theorem qI1:qa9 ["self", "rooms", "wraps", "homes"] ["self", "rooms", "wraps", "homes"] (qa3 qo5):=by walk_at "s"
def qH3(C:Addr):VSp:=λ ds Q _=>∃ n wr z ps,ds=[.ins false C [],.int n,.bl wr,.lst z (prD ps)]/\1<=n/\n<=64/\Hh ps/\Q .non [Aa false C n wr ps,.int n,.bl wr,.lst z (prD ps)]
theorem qal3{z:Bool}{ps:Pr}:gList (.lst z (prD ps))=some (.lst false (prD ps)):=qr0 (qy3 ps)
theorem qJ4(T:Txt K mg a):VFn P w K mg base 6 a.f7 a.d7 ["self", "rooms", "wraps", "homes"] (qH3 a.C3):=by
 refine VFn.mk2 T.d7.F qI1 (wOf [true,true,true,true]) (λ ds Q Q' xe xe' hQ _ h=>by obtain⟨n,wr,z,ps,e,h1,h2,h3,q⟩:=h;exact⟨n,wr,z,ps,e,h1,h2,h3,hQ _ _ q⟩) (λ ds Q xe h=>by obtain⟨n,wr,z,ps,e,_⟩:=h;rw[e];exact⟨rfl,rfl⟩) (λ cdv A outer sh H E av hr=>⟨_,(Ab (sif (Bs (te (Aj T.d2 (qe5 T) qa1 (rm hr) (vaN 1 (vaV (qa5 Ae) (vaV (qa5 (vgi T.Cp)) Ac))))))
     (Ah qg2)
     Ax)
     (Ab (sif (Bs (tv (vbi ql8 qK9.ops T.C8 (qa2 (vnm 2) (qa2 (vty "bool" T.Cw) qa7 rfl) rfl))))
     (Ah qg2)
     Ax)
     (Ab (sif (Bs (te (Aj T.d6 (qw2 T) qa1 (rm hr) (vaN 3 Ac))))
     (Ah qg2)
     Ax)
     (Ab (Fy rfl (vpn 0) (qc2 (vnm 1)) T.C5.cl T.C6)
     (Ab (Fy rfl (vpn 0) (qc2 (vnm 2)) T.C5.cl T.Cd)
     (Ab (Fy rfl (vpn 0) (qa5 (Fx ql7 qaa9.ops T.Cj (qa2 (vnm 3) qa7 rfl))) T.C5.cl T.Cq)
     (Ah (Fy rfl (vpn 0) (qa5 (Fx (qv0 rfl) qab0.ops T.Ct (qa2 (vnm 3) qa7 rfl))) T.C5.cl T.Cb)))))))),λ ds Q xe h=>?_⟩)
 obtain⟨n,wr,z,ps,rfl,h1,h2,hp,q⟩:=h;refine qb1 [.ins false a.C3 [],.int n,.bl wr,.lst z (prD ps)] (λ K hK=>?_) (qb1 [.ins false a.C3 [],.int n,.bl wr,.lst z (prD ps)] (λ K hK=>hK) (qb1 [.ins false a.C3 [],.int n,.bl wr,.lst z (prD ps)] (λ K hK=>?_) ?_))
 . walk_at "v"
   refine qz9 (d:=D.bl true) ?_ hK;show some (D.bl ((D.int n).within 1 64))=_;rw[qL6 h1 h2]
 . refine qai5 rfl ⟨D.bl true,⟨_,rfl,(qE6 hp).2,by rw[(qE6 hp).1]⟩,hK⟩
 refine qb1 [.ins false a.C3 [("rooms",.int n)],.int n,.bl wr,.lst z (prD ps)] (λ K hK=>⟨rfl,qa0 (a:=(0,[])) rfl (qa0 qh9 ⟨by decide,hK⟩)⟩) ?_;refine qb1 [.ins false a.C3 [("rooms",.int n),("wraps",.bl wr)],.int n,.bl wr,.lst z (prD ps)] (λ K hK=>⟨rfl,qa0 (a:=(0,[])) rfl (qa0 qh9 ⟨by show 1 < 100;decide,hK⟩)⟩) ?_;refine qb1 [.ins false a.C3 [("rooms",.int n),("wraps",.bl wr),("homes",.lst false (prD ps))],.int n,.bl wr,.lst z (prD ps)] (λ K hK=>?_) ?_
 . refine qa0 (qal3 (z:=z)) ?_
   exact qa0 (a:=(0,[])) rfl (qa0 qh9 ⟨by show 2 < 100;decide,hK⟩)
 refine qa0 (qaa6 (z:=z) hp.nd) ?_;exact qa0 (a:=(0,[])) rfl (qa0 qh9 ⟨by show 3 < 100;decide,q⟩)
theorem qv8:qa9 ["self", "thing"] ["self", "thing"] (qa3 qh5):=by walk_at "s"
def qv4(C:Addr):VSp:=Aw λ ds d=>∃ z n wr ps x t,ds=[Aa z C n wr ps,x]/\x.kind=some t/\d=.bl (x.within 0 (n - 1))
theorem qk1(T:Txt K mg a):VFn P w K mg base 3 a.f8 a.d8 ["self", "thing"] (qv4 a.C3):=by
 refine VFn.mk2 T.d8.F qv8 (wOf [true,true]) qb2 (λ ds Q xe h=>by obtain⟨d,⟨z,n,wr,ps,x,t,e,_⟩,_⟩:=h;rw[e];exact⟨rfl,rfl⟩) (λ cdv A outer sh H E av hr=>⟨_,(Ah (At (Aj T.d2 (qe5 T) qa1 (rm hr) (vaN 1 (vaV (qa5 Ae) (vaV (qa5 (v2 (Ak qA2) qA1 (Bo rfl (vnm 0) T.C5.cl T.C6) Ae)) Ac)))))),λ ds Q xe h=>?_⟩);obtain⟨d,⟨z,n,wr,ps,x,t,rfl,hk,rfl⟩,q⟩:=h;have hx:rdN 1 [Aa z a.C3 n wr ps,x]=some x:=qj0.mpr ⟨rfl,qE3 hk⟩;have e1:f2 gSub (f1 (D.fld a.C3 "rooms") (rdN 0)) (kC (.int 1)) [Aa z a.C3 n wr ps,x]=some (.int (n - 1)):=Af (Bb rfl qd8) rfl rfl;show qi6 _ _ (tbN 1 _) [Aa z a.C3 n wr ps,x] _ _;refine qb9 hx ?_;refine qe0 (y:=.int 0) rfl ?_;refine qe0 e1 ?_;refine qa0 hx ?_;refine qz9 (d:=.bl (x.within 0 (n - 1))) ?_ (qa0 rfl q);show x.kind.bind _=_;rw[hk];rfl
theorem qI2:qa9 ["self", "key"] ["self", "key"] (qa3 qo6):=by walk_at "s"
def qH4(C:Addr):VSp:=Aw λ ds d=>∃ z n wr ps k,ds=[Aa z C n wr ps,.int k]/\1<=n/\Am k/\d=.int (qb0 n ps k)
theorem qZ7{z:Bool}{ps:Pr}(h:fa ds=some (.dct z (kvD ps)))(hk:rdN i ds=some (.int k)):fget fa (rdN i) (rdN i) ds=some (.int ((ps.lookup k).getD k)):=by
 unfold fget;rw[h,hk];show gd (((Bz (kvD ps) (.inl k)).getD (.int k)).imm=true) ((Bz (kvD ps) (.inl k)).getD (.int k))=_;rw[qU2];cases ps.lookup k<;>rfl
theorem qaB2{x n:Int}(h:1<=n):G2 (.int x) (.int n)=some (.int (x % n)):=qr0 (zAq (by lia))
theorem ql0(T:Txt K mg a):VFn P w K mg base 4 a.f9 a.d9 ["self", "key"] (qH4 a.C3):=by
 refine VFn.mk2 T.d9.F qI2 (wOf [true,true]) qb2 (λ ds Q xe h=>by obtain⟨d,⟨z,n,wr,ps,k,e,_⟩,_⟩:=h;rw[e];exact⟨rfl,rfl⟩) (λ cdv A outer sh H E av hr=>⟨_,(Ab (sif (Bs (te (Aj T.d3 (qd2 T) qa1 (rm hr) (vaN 1 Ac))))
     (Ah qg2)
     Ax)
     (Ah (At (qa5 (v2 (Ak qk9) qk8 (vget (Hf hr) (Bo rfl (vnm 0) T.C5.cl T.Cb) (vnm 1) (vnm 1) ⟨rfl,rfl,rfl,rfl⟩) (Bo rfl (vnm 0) T.C5.cl T.C6)))))),λ ds Q xe h=>?_⟩)
 obtain⟨d,⟨z,n,wr,ps,k,rfl,h1,hk,rfl⟩,q⟩:=h;have key:orF (f2 G2 (fget (f1 (D.fld a.C3 "home_numbers") (rdN 0)) (rdN 1) (rdN 1)) (f1 (D.fld a.C3 "rooms") (rdN 0)) [Aa z a.C3 n wr ps,.int k]) (λ d=>Q d [Aa z a.C3 n wr ps,.int k]):=qa0 (Af (qZ7 (Bb rfl qT3) rfl) (Bb rfl qd8) (qaB2 h1)) q;exact qai5 rfl (qz9 (d:=D.bl true) (by show some (D.bl (D.int k).num)=_;rw[qA6 hk]) (qa0 rfl (qa0 (a:=true) rfl key)))
theorem qx5:qa9 ["self", "key", "room", "steps"] ["self", "key", "room"] (qa3 qt1):=by walk_at "s"
def qR3(C:Addr):VSp:=Aw λ ds d=>∃ z n wr ps k r,ds=[Aa z C n wr ps,.int k,.int r]/\1<=n/\Am k/\0<=r/\r < n/\d=G7 (Bn n wr ps k r)
theorem qaf6(hk:Am k):fx1 (λ x=>x.kind.map λ _=>.bl x.num) [.int k]=some (.bl true):=by
 show some (D.bl (D.int k).num)=_;rw[qA6 hk]
theorem qaj6{C:Addr}{z:Bool}{n:Int}{wr:Bool}{ps:Pr}{r:Int}(h0:0<=r)(h1:r < n):∃ z' n' wr' ps' x t,[Aa z C n wr ps,.int r]=[Aa z' C n' wr' ps',x]/\x.kind=some t/\D.bl true=.bl (x.within 0 (n' - 1)) :=
 ⟨z,n,wr,ps,_,_,rfl,rfl,by rw[qL6 h0 (by lia)]⟩
theorem qj7(T:Txt K mg a):VFn P w K mg base 5 a.f10 a.d10 ["self", "key", "room"] (qR3 a.C3):=by
 refine VFn.mk2 T.d10.F qx5 (wOf [true,true,true]) qb2 (λ ds Q xe h=>by obtain⟨d,⟨z,n,wr,ps,k,r,e,_⟩,_⟩:=h;rw[e];exact⟨rfl,rfl⟩) (λ cdv A outer sh H E av hr=>⟨_,(Ab (sif (Bs (te (Aj T.d3 (qd2 T) qa1 (rm hr) (vaN 1 Ac))))
     (Ah qg2)
     Ax)
     (Ab (sif (Bs (te (qh0 0 T.d8 T.C5.cl (qk1 T) qa1 (rm hr) (vaN 2 Ac))))
     (Ah qg2)
     Ax)
     (Ab (Al 3 qx5.nd (e2n 2 (Ak qA2) qA1 (qh0 0 T.d9 T.C5.cl (ql0 T) qa1 (rm hr) (vaN 1 Ac))))
     (Ab (sif (tv (Bo rfl (vnm 0) T.C5.cl T.Cd))
     (Ah (At (qa5 (v2 (Ak qk9) qk8 (vnm 3) (Bo rfl (vnm 0) T.C5.cl T.C6)))))
     Ax)
     (Ah (At (eif (q2 (Au Gb (qb3 _)) Hk (vnm 3) Ae) (qc2 (vnm 3)) (qa5 Bh)))))))),λ ds Q xe h=>?_⟩)
 obtain⟨d,⟨z,n,wr,ps,k,r,rfl,h1,hk,hr0,hrn,rfl⟩,q⟩:=h;refine guard (λ Q xe q=>qae6 (x:=.int k) rfl (qaf6 hk) rfl q) ?_;refine guard (λ Q xe q=>qq7 (p:=Aa z a.C3 n wr ps) (x:=.int r) rfl (qi0 rfl) rfl rfl (qaj6 hr0 hrn) rfl q) ?_;refine qb1 [Aa z a.C3 n wr ps,.int k,.int r,.int (r - qb0 n ps k)] (λ K hK=>?_) ?_
 . exact⟨rfl,qq7 (p:=Aa z a.C3 n wr ps) (x:=.int k) (d:=.int (qb0 n ps k)) rfl (qi0 rfl) rfl rfl ⟨z,n,wr,ps,k,rfl,h1,hk,rfl⟩ rfl (qa0 (a:=D.int (r - qb0 n ps k)) rfl hK)⟩
 unfold Bn at q;refine qE4 wr (Bb rfl qB8) (λ h=>?_) (λ h=>?_)
 . subst h
   exact qi3 (.int ((r - qb0 n ps k) % n)) (Af rfl (Bb rfl qd8) (qaB2 h1)) q
 subst h;refine qi9 (Gq (b:=decide (0<=r - qb0 n ps k)) rfl (λ h=>?_) (λ h=>?_))
 . rw[if_neg (by decide),if_pos (zAf h)] at q
   exact⟨rfl,q⟩
 rw[if_neg (by decide),if_neg (zBy h)] at q;exact q
theorem qe4:qa9 ["self", "room", "one", "other", "one_far", "other_far"] ["self", "room", "one", "other"] (qa3 qf0):=by walk_at "s"
def qn5(C:Addr):VSp:=Aw λ ds d=>∃ z n wr ps r x y,ds=[Aa z C n wr ps,.int r,.int x,.int y]/\1<=n/\0<=r/\r < n/\Am x/\Am y/\d=.bl (qF9 n wr ps r x y)
theorem qaD8{C:Addr}{z:Bool}{n:Int}{wr:Bool}{ps:Pr}{r:Int}(h1:1<=n)(hk:Am k)(h0:0<=r)(hn:r < n):∃ z' n' wr' ps' k' r',[Aa z C n wr ps,.int k,.int r]=[Aa z' C n' wr' ps',.int k',.int r']/\1<=n'/\Am k'/\0<=r'/\r' < n'/\G7 (Bn n wr ps k r)=G7 (Bn n' wr' ps' k' r') :=
 ⟨z,n,wr,ps,k,r,rfl,h1,hk,h0,hn,rfl⟩
theorem qo8(T:Txt K mg a):VFn P w K mg base 6 a.f11 a.d11 ["self", "room", "one", "other"] (qn5 a.C3):=by
 refine VFn.mk2 T.d11.F qe4 (wOf [true,true,true,true]) qb2 (λ ds Q xe h=>by obtain⟨d,⟨z,n,wr,ps,r,x,y,e,_⟩,_⟩:=h;rw[e];exact⟨rfl,rfl⟩) (λ cdv A outer sh H E av hr=>⟨_,(Ab (sif (Bs (te (qh0 0 T.d8 T.C5.cl (qk1 T) qa1 (rm hr) (vaN 1 Ac))))
     (Ah qg2)
     Ax)
     (Ab (sif (Bs (te (Aj T.d3 (qd2 T) qa1 (rm hr) (vaN 2 Ac))))
     (Ah qg2)
     Ax)
     (Ab (sif (Bs (te (Aj T.d3 (qd2 T) qa1 (rm hr) (vaN 3 Ac))))
     (Ah qg2)
     Ax)
     (Ab (Al 4 qe4.nd (qh0 0 T.d10 T.C5.cl (qj7 T) qa1 (rm hr) (vaN 2 (vaN 1 Ac))))
     (Ab (Al 5 qe4.nd (qh0 0 T.d10 T.C5.cl (qj7 T) qa1 (rm hr) (vaN 3 (vaN 1 Ac))))
     (Ab (sif (q2 (Au Fi (qb3 _)) Fh (vnm 4) Bh)
     (Ah (At (qa5 vbl)))
     Ax)
     (Ab (sif (q2 (Au Fi (qb3 _)) Fh (vnm 5) Bh)
     (Ah (At (qa5 vbl)))
     Ax)
     (Ah (At (qa5 (vor (v2 (Ba De (qb3 _)) Di (vnm 4) (vnm 5)) (vone (vand (v2 (Ba (qJ0 hr.u64) (qb3 _)) Ej (vnm 4) (vnm 5)) (vone (v2 (Ba Ha (qb3 _)) Hj (vnm 2) (vnm 3)))))))))))))))),λ ds Q xe h=>?_⟩)
 obtain⟨d,⟨z,n,wr,ps,r,x,y,rfl,h1,hr0,hrn,hx,hy,rfl⟩,q⟩:=h;refine guard (λ Q xe q=>qq7 (p:=Aa z a.C3 n wr ps) (x:=.int r) rfl (qi0 rfl) rfl rfl (qaj6 hr0 hrn) rfl q) ?_;refine guard (λ Q xe q=>qae6 (x:=.int x) rfl (qaf6 hx) rfl q) ?_;refine guard (λ Q xe q=>qae6 (x:=.int y) rfl (qaf6 hy) rfl q) ?_;refine qb1 [Aa z a.C3 n wr ps,.int r,.int x,.int y,G7 (Bn n wr ps x r),.unk] (λ K hK=>?_) ?_
 . exact qaB4 (p:=Aa z a.C3 n wr ps) (x:=.int x) (y:=.int r) rfl (qi0 rfl) rfl rfl rfl rfl (qaD8 h1 hx hr0 hrn) rfl hK
 refine qb1 [Aa z a.C3 n wr ps,.int r,.int x,.int y,G7 (Bn n wr ps x r),G7 (Bn n wr ps y r)] (λ K hK=>?_) ?_
 . exact qaB4 (p:=Aa z a.C3 n wr ps) (x:=.int y) (y:=.int r) rfl (qi0 rfl) rfl rfl rfl rfl (qaD8 h1 hy hr0 hrn) rfl hK
 unfold qF9 at q;cases ex:Bn n wr ps x r with
 | none =>
   rw[ex] at q;exact q
 | some f =>
   rw[ex] at q;cases ey:Bn n wr ps y r with
   | none =>
     rw[ey] at q;exact q
   | some g =>
     rw[ey] at q;refine qE4 false rfl (λ h=>nomatch h) λ _=>?_
     refine qE4 false rfl (λ h=>nomatch h) λ _=>?_
     exact qi3 _ (qaL9 (a:=decide (g < f)) rfl (qam6 (a:=decide (f=g)) (b:=decide (x < y)) rfl rfl)) q
theorem qx3:qa9 ["plan", "rooms", "room", "key", "far"] ["plan", "rooms", "room"] (qa3 qs4):=by walk_at "s"
def qQ7(C:Addr):VSp:=Aw λ ds d=>∃ z n wr ps z' N r,ds=[Aa z C n wr ps,.lst z' (rlD N λ _=>none),.int ((r:Nat):Int)]/\r < N/\d=.non
theorem qS1(T:Txt K mg a):VFn P w K mg base 8 a.f14 a.d14 ["plan", "rooms", "room"] (qQ7 a.C3):=by
 refine VFn.mk2 T.d14.F qx3 (wOf [true,true,true]) qb2 (λ ds Q xe h=>by obtain⟨d,⟨z,n,wr,ps,z',N,r,e,_⟩,_⟩:=h;rw[e];exact⟨rfl,rfl⟩) (λ cdv A outer sh H E av hr=>⟨_,(Ab (Al 3 qx3.nd (qc2 (v2 (Av qb6) Ap (vnm 1) (vnm 2))))
     (Ab (sif (q2 (Au Fi (qb3 _)) Fh (vnm 3) Bh)
     (Ah (At (qa5 Bh)))
     Ax)
     (Ab qg2
     (Ab qg2
     (Ab qg2
     (Ab qg2
     (Ab qg2
     (Ah qg2)))))))),λ ds Q xe h=>?_⟩)
 obtain⟨d,⟨z,n,wr,ps,z',N,r,rfl,hr,rfl⟩,q⟩:=h;refine As [Aa z a.C3 n wr ps,.lst z' (rlD N λ _=>none),.int ((r:Nat):Int),.unk,.unk] rfl ?_;refine qb1 [Aa z a.C3 n wr ps,.lst z' (rlD N λ _=>none),.int ((r:Nat):Int),.non,.unk] (λ K hK=>qD2 (d:=.non) (Af rfl rfl (Eb hr)) rfl hK) ?_;exact qu2 true (λ Q q=>qq2 (b:=true) rfl q) (λ _=>qi3 .non rfl q) λ h=>(nomatch h)
theorem qH8:qa9 ["plan", "rooms"] ["plan", "rooms"] (qa3 qo1):=by walk_at "s"
def qH0(C:Addr):VSp:=Aw λ ds d=>∃ z n wr ps z' N,ds=[Aa z C n wr ps,.lst z' (rlD N λ _=>none)]/\0 < N/\N<=64/\d=.bl false
theorem qJ1(T:Txt K mg a):VFn P w K mg base 6 a.f15 a.d15 ["plan", "rooms"] (qH0 a.C3):=by
 refine VFn.mk2 T.d15.F qH8 (wOf [true,true]) qb2 (λ ds Q xe h=>by obtain⟨d,⟨z,n,wr,ps,z',N,e,_⟩,_⟩:=h;rw[e];exact⟨rfl,rfl⟩) (λ cdv A outer sh H E av hr=>⟨_,(Ah (At (ebi (qP8 rfl) qaE3.ops T.D3 (Dx (vaV (ecEN (NY:=["room", "key", "plan"]) (src:=[none,none,some 0]) 1 T.Cs (blk (λ av C s0 H0 ex=>(Gm (n:=2) rfl (qE9 (Bc 0 (show (["room", "key", "plan"]:List Str).Nodup by decide +kernel)) (qE9 (Bc 1 (show (["room", "key", "plan"]:List Str).Nodup by decide +kernel)) Gk)))) (λ av C s0 H0 ex=>Eo) (λ av C s0 H0 ex=>(Fn (qa5 (v2 (Ba qo7 (qb3 _)) qt6 (vnm 1) Bh)) (Hn (e2v (Ba De (qb3 _)) Di (qh0 2 T.d10 T.C5.cl (qj7 T) ql3 (rm hr) (vaN 1 (vaN 0 Ac))) Ae)))))) Ac))))),λ ds Q xe h=>?_⟩);obtain⟨d,⟨z,n,wr,ps,z',N,rfl,n1,n2,rfl⟩,q⟩:=h;refine As [Aa z a.C3 n wr ps,.lst z' (rlD N λ _=>none)] rfl ?_;have hl:(enD (rlD N λ _=>none)).length=N:=by unfold enD;rw[zAa,List.length_zipIdx,qp9]
 refine qi9 ⟨qam0 _ _,?_⟩;refine qj5 (λ ι=>∃ d0 d1,ι=[d0,d1,Aa z a.C3 n wr ps]) (λ y=>some (.bl false)) (enD (rlD N λ _=>none)) [] _ (by show 0+_ < big;rw[hl];unfold big;lia) ⟨_,_,rfl⟩ ?_ ?_
 . rintro y hy ι acc ⟨d0,d1,rfl⟩ R hR hacc
   obtain⟨i,v,rfl,hi⟩:=qaM2 hy;have hlt:i < N:=by have:=(zA5.mp hi).1;rwa[qp9] at this
   rw[qN8 hlt] at hi;cases hi;exact qB6 (qT9 (Dr rfl (E6 false rfl (λ h=>nomatch h) λ _=>⟨hacc,hR _ ⟨_,_,rfl⟩⟩)))
 rintro ι ⟨d0,d1,rfl⟩;rw[zAz,qK4];have e:(enD (rlD N λ _=>none)).all (λ _=>false)=false:=by
   cases h:enD (rlD N λ _=>none) with
   | nil=>rw[h] at hl;simp at hl;lia
   | cons x l=>rfl
 refine qa0 (qaF3 (λ _=>false) (enD (rlD N λ _=>none))) ?_;rw[e];exact q
theorem qn7:qa9 ["plan", "rooms", "room", "word"] ["plan", "rooms"] (qa3 qs7):=by walk_at "s"
def qQ9(C:Addr):VSp:=Aw λ ds d=>∃ z n wr ps z',ds=[Aa z C n wr ps,.lst z' (rlD n.toNat λ _=>none)]/\1<=n/\n<=64/\d=.non
theorem qS3(T:Txt K mg a):VFn P w K mg base 9 a.f16 a.d16 ["plan", "rooms"] (qQ9 a.C3):=by
 refine VFn.mk2 T.d16.F qn7 (wOf [true,true]) qb2 (λ ds Q xe h=>by obtain⟨d,⟨z,n,wr,ps,z',e,_⟩,_⟩:=h;rw[e];exact⟨rfl,rfl⟩) (λ cdv A outer sh H E av hr=>⟨_,(Ab (sif (tor (Bs (tv (vbi ql8 qK9.ops T.C8 (qa2 (vnm 1) (qa2 (vty "list" T.Cj) qa7 rfl) rfl)))) (tor1 (q2 (Au (qD7 hr.u64) (qb3 _)) Fj (vbi qx1 qx0.ops T.Cg (qa2 (vnm 1) qa7 rfl)) (Bo rfl (vnm 0) T.C5.cl T.C6)))).te
     (Ah (At (qa5 (Eu (qa2 Fk (qa2 Ae qa7 rfl) rfl)))))
     Ax)
     (Ab (qR6 PassesOwn.leaving T.Ch (Dx (vaV (qc2 (Bo rfl (vnm 0) T.C5.cl T.C6)) Ac)) (Bc 2 qn7.nd)
     (Ab (Al 3 qn7.nd (Aj T.d14 (qS1 T) qa1 (rm hr) (vaN 0 (vaN 1 (vaN 2 Ac)))))
     (Ah (sif (q2 (Au qo7 (qb3 _)) qt6 (vnm 3) Bh)
     (Ah (At (qa5 (Eu (qa2 (vnm 3) (qa2 (vnm 2) qa7 rfl) rfl)))))
     Ax))))
     (Ah (At (eif (te (Aj T.d15 (qJ1 T) qa1 (rm hr) (vaN 0 (vaN 1 Ac)))) (qa5 (Eu (qa2 Fk (qa2 Ae qa7 rfl) rfl))) (qa5 Bh)))))),λ ds Q xe h=>?_⟩)
 obtain⟨d,⟨z,n,wr,ps,z',rfl,n1,n2,rfl⟩,q⟩:=h;refine As [Aa z a.C3 n wr ps,.lst z' (rlD n.toNat λ _=>none),.unk,.unk] rfl ?_;have hlen:f2 gNe (Be (fx1 Fw) (A9 (rdN 1) λ _=>some [])) (f1 (D.fld a.C3 "rooms") (rdN 0)) [Aa z a.C3 n wr ps,.lst z' (rlD n.toNat λ _=>none),.unk,.unk]=some (.bl false):=Af (qB1 rfl) (Bb rfl qd8) (by
   show some (D.bl (!(((rlD n.toNat λ _=>none).length:Nat):Int) == n))=_;rw[qp9,show ((n.toNat:Nat):Int)=n by lia,zBm];rfl)
 refine qu2 false (λ Q q=>qav5 false false (λ Q q=>qy6 (qas7 rfl) q) (λ _ Q q=>qq2 hlen q) q) (λ h=>nomatch h) λ _=>?_
 refine qc8 (λ ds=>∃ d d',ds=[Aa z a.C3 n wr ps,.lst z' (rlD n.toNat λ _=>none),d,d']) (λ K hK=>?_) ?_
 . refine qK3 (Bb rfl qd8) (qX9 (by lia) (by lia)) ?_
   refine qd3 (λ i ds=>∃ d d',ds=[Aa z a.C3 n wr ps,.lst z' (rlD n.toNat λ _=>none),d,d']) _ 0 _ ⟨_,_,rfl⟩ ?_ ?_
   . rintro j x hx ds ⟨d,d',rfl⟩ K hK
     obtain⟨hj,rfl⟩:=qR8 hx;refine qb1 [Aa z a.C3 n wr ps,.lst z' (rlD n.toNat λ _=>none),.int (j:Nat),.non] (λ K hK=>qJ6 (x:=Aa z a.C3 n wr ps) (y:=.lst z' (rlD n.toNat λ _=>none)) (w:=.int (j:Nat)) rfl rfl rfl rfl rfl ⟨z,n,wr,ps,z',n.toNat,j,rfl,hj,rfl⟩ rfl hK) ?_;exact if_v (b:=false) rfl (λ h=>nomatch h) λ _=>hK _ ⟨_,_,rfl⟩
   rintro ds ⟨d,d',rfl⟩;exact hK _ ⟨_,_,rfl⟩
 rintro ds ⟨d,d',rfl⟩;refine qi9 ?_;exact qu1 (x:=Aa z a.C3 n wr ps) (y:=.lst z' (rlD n.toNat λ _=>none)) rfl rfl rfl ⟨z,n,wr,ps,z',n.toNat,rfl,by lia,by lia,rfl⟩ rfl (qa0 (a:=false) rfl (Dt (by decide) (qa0 (a:=D.non) rfl q)))
theorem qn8:qa9 ["self", "plan", "rooms", "held", "fault"] ["self", "plan", "rooms"] (qa3 qt0):=by walk_at "s"
def Ag(zr:Bool)(C CP:Addr)(n:Int)(wr:Bool)(ps:Pr)(g:Nat->Option Int)(dn:Ds):D:=.ins zr C [("plan",Aa true CP n wr ps),("held",.lst zr (rlD n.toNat g)),("done",.lst zr dn)]
section
variable{zr:Bool}{C CP:Addr}{n:Int}{wr:Bool}{ps:Pr}{g:Nat->Option Int}{dn:Ds}
theorem qz7:D.fld C "plan" (Ag zr C CP n wr ps g dn)=some (Aa true CP n wr ps):=qF0 (by rfl)
theorem qM6:D.fld C "held" (Ag zr C CP n wr ps g dn)=some (.lst zr (rlD n.toNat g)):=qF0 (by rfl)
theorem qi5(h:([("plan",Aa true CP n wr ps),("held",.lst zr (rlD n.toNat g)),("done",.lst zr dn)]:List (Str×D)).lookup m=none):(Ag zr C CP n wr ps g dn).isM C m=true:=qal8 h
end
theorem qC0{zr:Bool}{C CP:Addr}{n:Int}{wr:Bool}{ps:Pr}{g:Nat->Option Int}{dn:Ds}:D.fidx C "held" (Ag zr C CP n wr ps g dn)=some 1:=by
 show (if C=C then List.findIdx? (λ q:Str×D=>("held" : Str) == q.1) [("plan",Aa true CP n wr ps),("held",.lst zr (rlD n.toNat g)),("done",.lst zr dn)] else none)=_;rw[if_pos rfl];rfl
theorem qaN0{p:List Nat}{w:V}{d0:D}(h:A6 ds i p=some (.hole w)):bk1 i p w d0 ds=some (Bf ds i p d0):=by
 unfold bk1 Aq;rw[h];simp only[if_true];unfold Aq;rfl
theorem qat6{C:Addr}{f:Str}{pf:PF}(h:te ds (λ d ds1=>orF (pf ds1) λ q=>orF ((A6 ds1 q.1 q.2).bind (D.ownI C)) λ fs=>fs.length < 100/\e.nx (Bf ds1 q.1 q.2 (.ins false C (En f d fs)))) e.xe):Hu C f te pf e ds:=h
theorem mv_to(h:rdN i ds=some d)(q:Q d (ds.set i .unk)):tMv i ds Q xe:=qa0 h q
def qR2(C CP:Addr):VSp:=λ ds Q _=>∃ n wr ps,ds=[.ins false C [],Aa true CP n wr ps,.non]/\1<=n/\n<=64/\Q .non [Ag false C CP n wr ps (λ _=>none) [],Aa true CP n wr ps,.non]
theorem qx8(T:Txt K mg a):VFn P w K mg base 10 a.f24 a.d24 ["self", "plan", "rooms"] (qR2 a.C4 a.C3):=by
 refine VFn.mkE T.d24.F qn8 (wOf [true,true,true]) (λ ds Q Q' xe xe' hQ _ h=>by obtain⟨n,wr,ps,e,h1,h2,q⟩:=h;exact⟨n,wr,ps,e,h1,h2,hQ _ _ q⟩) (λ ds Q xe ⟨n,wr,ps,e,_⟩=>by rw[e];rfl) (λ ds Q xe ⟨n,wr,ps,e,_⟩=>by rw[e];rfl) (λ cdv A outer sh H E av hr=>⟨_,(Ab (sif (Bs (tv (vbi (qau4 T.D0 T.C5.cl) qaM7.ops T.C8 (qa2 (vnm 1) (qa2 (vcls a.C3 T.C5.m) qa7 rfl) rfl))))
     (Ah qg2)
     Ax)
     (Ab (sif (tand (q2 (Au qo7 (qb3 _)) qt6 (vnm 2) Bh) (tand1 (Bs (tv (vbi ql8 qK9.ops T.C8 (qa2 (vnm 2) (qa2 (vty "list" T.Cj) qa7 rfl) rfl)))))).te
     (Ah qg2)
     Ax)
     (Ab (Al 3 qn8.nd (eif (q2 (Au Fi (qb3 _)) Fh (vnm 2) Bh) (qa5 (v2 (Ak qw0) qv9 (B9 (qa2 Bh qa7 rfl)) (Bo rfl (vnm 1) T.C5.cl T.C6))) (qa5 (Fx ql7 qaa9.ops T.Cj (qa2 (vnm 2) qa7 rfl)))))
     (Ab (Al 4 qn8.nd (Aj T.d16 (qS3 T) qa1 (rm hr) (vaN 1 (vaN 3 Ac))))
     (Ab (sif (q2 (Au qo7 (qb3 _)) qt6 (vnm 4) Bh)
     (Ah qg2)
     Ax)
     (Ab (Fy rfl (vpn 0) (qc2 (vnm 1)) T.C7.cl T.Cf)
     (Ab (Fy rfl (vpn 0) (emv 3) T.C7.cl T.C9)
     (Ah (Fy rfl (vpn 0) (qa5 (B9 qa7)) T.C7.cl T.Ci))))))))),λ ds Q xe h=>?_⟩)
 obtain⟨n,wr,ps,rfl,n1,n2,q⟩:=h;refine As [.ins false a.C4 [],Aa true a.C3 n wr ps,.non,.unk,.unk] rfl ?_;refine qaD0 (show gIsO a.C3 (Aa true a.C3 n wr ps) (.adr a.C3)=some (.bl true) from qas8) ?_;refine qu2 false (λ Q q=>?_) (λ h=>(nomatch h)) λ _=>?_
 . exact qU6 false false (λ Q q=>qq2 (b:=false) (Af rfl rfl rfl) q) (λ h=>(nomatch h)) q
 refine qb1 [.ins false a.C4 [],Aa true a.C3 n wr ps,.non,.lst false (rlD n.toNat λ _=>none),.unk] (λ K hK=>qf4 ?_) ?_
 . exact Gq (b:=true) (Af rfl rfl rfl) (λ _=>qq6 (Af rfl (Bb rfl qd8) (qX8 (by lia) n2)) hK) λ h=>(nomatch h)
 refine qb1 [.ins false a.C4 [],Aa true a.C3 n wr ps,.non,.lst false (rlD n.toNat λ _=>none),.non] (λ K hK=>qf4 ?_) ?_
 . exact qu1 (x:=Aa true a.C3 n wr ps) (y:=.lst false (rlD n.toNat λ _=>none)) (d:=.non) rfl rfl rfl ⟨true,n,wr,ps,false,rfl,n1,n2,rfl⟩ rfl hK
 refine qu2 false (λ Q q=>qq2 (b:=false) (Af rfl rfl rfl) q) (λ h=>(nomatch h)) λ _=>?_
 refine qb1 [.ins false a.C4 [("plan",Aa true a.C3 n wr ps)],Aa true a.C3 n wr ps,.non,.lst false (rlD n.toNat λ _=>none),.non] (λ K hK=>qat6 (qT2 (d:=Aa true a.C3 n wr ps) rfl rfl (qa0 (a:=(0,[])) rfl (qa0 qh9 ⟨by decide,hK⟩)))) ?_;refine qb1 [.ins false a.C4 [("plan",Aa true a.C3 n wr ps),("held",.lst false (rlD n.toNat λ _=>none))],Aa true a.C3 n wr ps,.non,.unk,.non] (λ K hK=>qat6 (mv_to (d:=.lst false (rlD n.toNat λ _=>none)) rfl (qa0 (a:=(0,[])) rfl (qa0 qh9 ⟨by show 1 < 100;decide,hK⟩)))) ?_;exact qat6 (qq6 (d:=.lst false []) rfl (qa0 (a:=(0,[])) rfl (qa0 qh9 ⟨by show 2 < 100;decide,q⟩)))
theorem qz3:qa9 ["self", "key"] ["self", "key"] (qa3 qi8):=by walk_at "s"
def F9:Option Int->V
 | some k=>.int k
 | none=>.non
theorem qaa2(N:Nat)(g:Nat->Option Int):flats (rlD N g)=some ((List.range N).map λ i=>F9 (g i)):=by
 have:∀ l:List Nat,flats (l.map λ i=>Fc (g i))=some (l.map λ i=>F9 (g i)):=λ l=>by
   induction l with
   | nil=>rfl
   | cons a l ih =>
     show ((Fc (g a)).flat.bind λ v=>(flats (l.map λ i=>Fc (g i))).bind λ vs=>some (v::vs))=_;rw[ih,zAx];cases g a<;>rfl
 exact this _
def Da(N:Nat)(g:Nat->Option Int)(k:Int):Option Nat:=(List.range N).findIdx? λ i=>decide (g i=some k)
def Bq(N:Nat)(g:Nat->Option Int)(k:Int):D:=match Da N g k with
 | some i=>.int (i:Nat)
 | none=>.non
theorem qam7{o:Option Int}:eqV (F9 o) (.int k)=decide (o=some k):=by
 cases o with
 | none=>rfl
 | some a =>
   show decide (a=k)=_;exact decide_eq_decide.mpr ⟨λ h=>by rw[h],λ h=>Option.some.inj h⟩
theorem qam1{k:Int}{g:Nat->Option Int}:∀ l:List Nat,Ef (.int k) (l.map λ i=>F9 (g i))=l.findIdx? λ i=>decide (g i=some k)
 | []=>rfl
 | a::l=>by
   show (if eqV (F9 (g a)) (.int k)=true then some 0 else (Ef (.int k) (l.map λ i=>F9 (g i))).map (· + 1))=_;rw[qam7,qam1 l,zC9]
theorem qaC5{k:Int}{g:Nat->Option Int}:∀ l:List Nat,inV (.int k) (l.map λ i=>F9 (g i))=(l.findIdx? λ i=>decide (g i=some k)).isSome
 | []=>rfl
 | a::l=>by
   have ih:=qaC5 (k:=k) (g:=g) l;unfold inV at ih ⊢;rw[zAx,zCe,ih,zC9];have e:=qam7 (o:=g a) (k:=k);cases h:decide (g a=some k) with
   | true=>rw[h] at e;simp[e]
   | false=>rw[h] at e;simp[e]
theorem qae3{g:Nat->Option Int}(h:∀ i,i < N->g i≠some k):Bq N g k=.non:=by
 have:Da N g k=none:=List.findIdx?_eq_none_iff.mpr λ i hi=>zBb (h i (zAv.mp hi))
 unfold Bq;rw[this]
theorem qM4{g:Nat->Option Int}(hi:i < N)(e:g i=some k):∃ j:Nat,Bq N g k=.int (j:Nat):=by
 unfold Bq;cases h:Da N g k with
 | some j=>exact⟨j,rfl⟩
 | none =>
   have:=List.findIdx?_eq_none_iff.mp h i (zAv.mpr hi)
   rw[zAq e] at this;cases this
def qy8(C CP:Addr):VSp:=Aw λ ds d=>∃ zr n wr ps g dn k,ds=[Ag zr C CP n wr ps g dn,.int k]/\Am k/\d=Bq n.toNat g k
theorem qc3(T:Txt K mg a):VFn P w K mg base 4 a.f27 a.d27 ["self", "key"] (qy8 a.C4 a.C3):=by
 refine VFn.mk2 T.d27.F qz3 (wOf [true,true]) qb2 (λ ds Q xe h=>by obtain⟨d,⟨zr,n,wr,ps,g,dn,k,e,_⟩,_⟩:=h;rw[e];exact⟨rfl,rfl⟩) (λ cdv A outer sh H E av hr=>⟨_,(Ab (sif (Bs (te (Aj T.d3 (qd2 T) qa1 (rm hr) (vaN 1 Ac))))
     (Ah qg2)
     Ax)
     (Ah (At (eif (q2 (Au qaf1 (by with_unfolding_all rfl)) os_in (vnm 1) (Bo rfl (vnm 0) T.C7.cl T.C9)) (qa5 (vbm qaf0 PySem.F.plainAttrs_list PySem.F.slot_list_index PySem.F.type_list_index qA8 (Bo rfl (vnm 0) T.C7.cl T.C9) (vnm 1) qN7)) (qa5 Bh))))),λ ds Q xe h=>?_⟩)
 obtain⟨d,⟨zr,n,wr,ps,g,dn,k,rfl,hk,rfl⟩,q⟩:=h;refine As [Ag zr a.C4 a.C3 n wr ps g dn,.int k] rfl ?_;refine guard (λ Q xe q=>qae6 (x:=.int k) (d:=.bl true) rfl (qaf6 hk) rfl q) (qi9 ?_);have hin:f2 (gInB false) (rdN 1) (f1 (D.fld a.C4 "held") (rdN 0)) [Ag zr a.C4 a.C3 n wr ps g dn,.int k]=some (.bl (Da n.toNat g k).isSome):=by
   refine Af (x:=.int k) (y:=.lst zr (rlD n.toNat g)) rfl (Bb rfl qM6) ?_;show ((flats (rlD n.toNat g)).bind λ ws=>some (D.bl (if false=true then !inV (.int k) ws else inV (.int k) ws)))=_;rw[qaa2];show some (D.bl (inV (.int k) _))=_;rw[qaC5];rfl
 refine Gq hin (λ h=>?_) λ h=>?_
 . obtain⟨i,hi⟩:=zB4.mp h
   refine qq6 (d:=.int (i:Nat)) (Af (Bb rfl qM6) rfl ?_) ?_
   . show ((some (V.int k)).bind λ v=>(flats (rlD n.toNat g)).bind λ ws=>(Ef v ws).map λ j=>D.int (j:Nat))=_
     rw[qaa2];show (Ef (.int k) _).map _=_;rw[qam1];show (Da n.toNat g k).map _=_;rw[hi];rfl
   unfold Bq at q;rw[hi] at q;exact q
 refine qq6 (d:=.non) rfl ?_;have hi:Da n.toNat g k=none:=by cases e:Da n.toNat g k with | none=>rfl | some i=>rw[e] at h;cases h
 unfold Bq at q;rw[hi] at q;exact q
theorem qI0:qa9 ["plan", "keys", "room"] ["plan", "keys", "room"] (qa3 qo4):=by walk_at "s"
def qH2(C:Addr):VSp:=Aw λ ds d=>∃ z n wr ps z' ks r,ds=[Aa z C n wr ps,.lst z' (ksD ks),.int r]/\1<=n/\(∀ k∈ks,Am k)/\ks.length<=1000/\d=.bl (if wr=true then decide (r=0)&&decide (n < (ks.length:Int)) else decide (n - r < ((ks.filter λ k=>decide (r<=qb0 n ps k)).length:Int)))
theorem qJ3(T:Txt K mg a):VFn P w K mg base 5 a.f17 a.d17 ["plan", "keys", "room"] (qH2 a.C3):=by
 refine VFn.mk2 T.d17.F qI0 (wOf [true,true,true]) qb2 (λ ds Q xe h=>by obtain⟨d,⟨z,n,wr,ps,z',ks,r,e,_⟩,_⟩:=h;rw[e];exact⟨rfl,rfl⟩) (λ cdv A outer sh H E av hr=>⟨_,(Ab (sif (tv (Bo rfl (vnm 0) T.C5.cl T.Cd))
     (Ah (At (qa5 (vand (v2 (Ba (qJ0 hr.u64) (qb3 _)) Ej (vnm 2) Ae) (vone (v2 (Ba De (qb3 _)) Di (vbi qx1 qx0.ops T.Cg (qa2 (vnm 1) qa7 rfl)) (Bo rfl (vnm 0) T.C5.cl T.C6)))))))
     Ax)
     (Ah (At (e2v (Ba De (qb3 _)) Di (ebi qx1 qx0.ops T.Cg (Dx (vaV (ecN (NY:=["key", "room", "plan"]) (src:=[none,some 2,some 0]) 1 (blk (λ av C s0 H0 ex=>(Bc 0 (show (["key", "room", "plan"]:List Str).Nodup by decide +kernel))) (λ av C s0 H0 ex=>(Hx (q2v (Ba Gb (qb3 _)) (Au Gb (qb3 _)) Hk (qh0 2 T.d9 T.C5.cl (ql0 T) ql3 (rm hr) (vaN 0 Ac)) (vnm 1)))) (λ av C s0 H0 ex=>(qc2 (vnm 0))))) Ac))) (v2 (Ak qA2) qA1 (Bo rfl (vnm 0) T.C5.cl T.C6) (vnm 2)))))),λ ds Q xe h=>?_⟩)
 obtain⟨d,⟨z,n,wr,ps,z',ks,r,rfl,h1,hk,hl,rfl⟩,q⟩:=h;refine As [Aa z a.C3 n wr ps,.lst z' (ksD ks),.int r] rfl ?_;refine qE4 wr (Bb rfl qB8) (λ h=>?_) λ h=>?_
 . rw[if_pos h] at q
   have hl2:f2 gGt (Be (fx1 Fw) (A9 (rdN 1) λ _=>some [])) (f1 (D.fld a.C3 "rooms") (rdN 0)) [Aa z a.C3 n wr ps,.lst z' (ksD ks),.int r]=some (.bl (decide (n < (ks.length:Int)))):=Af (qB1 rfl) (Bb rfl qd8) (by rw[qg3];rfl);exact qi3 _ (qam6 (a:=decide (r=0)) rfl hl2) q
 rw[if_neg (by rw[h];decide)] at q;refine qi9 ?_;refine⟨qf3 ks,?_⟩;refine qj5 (λ ι=>∃ d,ι=[d,.int r,Aa z a.C3 n wr ps]) (E5 λ k=>decide (r<=qb0 n ps k)) (ksD ks) [] _ (by show 0+(ksD ks).length < big;rw[qg3];unfold big;lia) ⟨_,rfl⟩ ?_ ?_
 . rintro y hy ι acc ⟨d,rfl⟩ R hR hacc
   obtain⟨k,hk',rfl⟩:=zBc.mp hy;refine qq7 (p:=Aa z a.C3 n wr ps) (x:=.int k) (d:=.int (qb0 n ps k)) rfl (qi0 rfl) rfl rfl ⟨z,n,wr,ps,k,rfl,h1,hk k hk',rfl⟩ rfl ?_;have this:=hR _ ⟨.int k,rfl⟩;refine qa0 (a:=D.bl (decide (r<=qb0 n ps k))) rfl (qa0 (a:=decide (r<=qb0 n ps k)) rfl (ite_b (λ h=>?_) λ h=>?_))
   . rw[qal6 (p:=λ k=>decide (r<=qb0 n ps k)) h] at this
     exact⟨rfl,hacc,this⟩
   rw[qal7 (p:=λ k=>decide (r<=qb0 n ps k)) h] at this;have this:R (acc++[]) _:=this;rw[zAd] at this;exact this
 rintro ι ⟨d,rfl⟩;rw[zAz,qK0];refine qa0 (a:=D.bl (decide (n - r < ((ks.filter λ k=>decide (r<=qb0 n ps k)).length:Int)))) ?_ q;show (f2 gSub (f1 (D.fld a.C3 "rooms") (rdN 0)) (rdN 2) [Aa z a.C3 n wr ps,.lst z' (ksD ks),.int r]).bind (gGt (D.int ((ksD (ks.filter λ k=>decide (r<=qb0 n ps k))).length:Nat)))=_;rw[Af (Bb rfl qd8) rfl rfl,qg3];rfl
theorem qk0:qa9 ["plan", "keys", "room"] ["plan", "keys"] (qa3 qh4):=by walk_at "s"
def qF2(n:Int)(wr:Bool)(ps:Pr)(ks:List Int)(r:Int):Bool:=if wr=true then decide (r=0)&&decide (n < (ks.length:Int)) else decide (n - r < ((ks.filter λ k=>decide (r<=qb0 n ps k)).length:Int))
def qP3(n:Int)(wr:Bool)(ps:Pr)(ks:List Int):Option Nat:=(List.range n.toNat).find? λ r=>qF2 n wr ps ks (r:Int)
def natD:Option Nat->D
 | none=>.non
 | some k=>.int (k:Int)
def qv3(C:Addr):VSp:=Aw λ ds d=>∃ z n wr ps z' ks,ds=[Aa z C n wr ps,.lst z' (ksD ks)]/\1<=n/\n<=64/\(∀ k∈ks,Am k)/\ks.length<=1000/\d=natD (qP3 n wr ps ks)
theorem qw3(T:Txt K mg a):VFn P w K mg base 6 a.f18 a.d18 ["plan", "keys"] (qv3 a.C3):=by
 refine VFn.mk2 T.d18.F qk0 (wOf [true,true]) qb2 (λ ds Q xe h=>by obtain⟨d,⟨z,n,wr,ps,z',ks,e,_⟩,_⟩:=h;rw[e];exact⟨rfl,rfl⟩) (λ cdv A outer sh H E av hr=>⟨_,(Ab (qR6 PassesOwn.leaving T.Ch (Dx (vaV (qc2 (Bo rfl (vnm 0) T.C5.cl T.C6)) Ac)) (Bc 2 qk0.nd)
     (Ah (sif (te (Aj T.d17 (qJ3 T) qa1 (rm hr) (vaN 0 (vaN 1 (vaN 2 Ac)))))
     (Ah (At (emv 2)))
     Ax)))
     (Ah (At (qa5 Bh)))),λ ds Q xe h=>?_⟩)
 obtain⟨d,⟨z,n,wr,ps,z',ks,rfl,h1,h2,hk,hl,rfl⟩,q⟩:=h;refine As [Aa z a.C3 n wr ps,.lst z' (ksD ks),.unk] rfl ?_;refine qc8 (λ ds=>(∀ i,i < n.toNat->qF2 n wr ps ks (i:Int)=false)/\∃ d,ds=[Aa z a.C3 n wr ps,.lst z' (ksD ks),d]) (λ K hK=>?_) ?_
 . refine qK3 (Bb rfl qd8) (qX9 (by lia) (by lia)) ?_
   refine qd3 (λ i ds=>(∀ j,j < i->qF2 n wr ps ks (j:Int)=false)/\∃ d,ds=[Aa z a.C3 n wr ps,.lst z' (ksD ks),d]) _ 0 _ ⟨λ j hj=>absurd hj (Nat.not_lt_zero _),_,rfl⟩ ?_ ?_
   . rintro j x hx ds ⟨hf,d,rfl⟩ K hK
     rw[zAo] at hf hK;obtain⟨hj,rfl⟩:=qR8 hx;refine if_e (b:=qF2 n wr ps ks (j:Int)) (λ Q xe q=>qJ6 (x:=Aa z a.C3 n wr ps) (y:=.lst z' (ksD ks)) (w:=.int (j:Int)) rfl rfl rfl rfl rfl ⟨z,n,wr,ps,z',ks,_,rfl,h1,hk,hl,rfl⟩ rfl q) (λ hb=>?_) (λ hb=>?_)
     . have e:qP3 n wr ps ks=some j:=List.find?_range_eq_some.mpr ⟨hb,zAv.mpr hj,λ i hi=>by rw[hf i hi];rfl⟩
       rw[e] at q;exact q
     refine hK _ ⟨λ i hi=>?_,_,rfl⟩;rcases Nat.lt_succ_iff_lt_or_eq.mp hi with h | rfl
     . exact hf i h
     exact hb
   rintro ds ⟨hf,hd⟩;refine hK _ ⟨λ i hi=>hf i ?_,hd⟩;unfold Dm;rw[zAa,zB9,zAo];exact hi
 rintro ds ⟨hf,d,rfl⟩;have e:qP3 n wr ps ks=none:=List.find?_range_eq_none.mpr λ i hi=>by rw[hf i hi];rfl
 rw[e] at q;exact q
theorem qj9:qa9 ["plan", "keys", "room"] ["plan", "keys"] (qa3 qh2):=by walk_at "s"
def qE0(n:Int)(wr:Bool)(ps:Pr)(ks:List Int):Prop:=∀ r:Nat,r < n.toNat->qF2 n wr ps ks (r:Int)=false
theorem qL0{n:Int}{wr:Bool}{ps:Pr}(h:qE0 n wr ps ks):qP3 n wr ps ks=none:=List.find?_range_eq_none.mpr λ i hi=>by rw[h i hi];rfl
theorem qah7{n:Int}{wr:Bool}{ps:Pr}(h1:1<=n)(hr:r < n.toNat):qF2 n wr ps ks (r:Int)=true↔Crowd n.toNat wr (hmOf n ps) ks r:=by
 unfold qF2 Crowd;cases wr with
 | true =>
   simp only[if_true,zBg,zB5];lia
 | false =>
   have e:(ks.filter λ k=>decide ((r:Int)<=qb0 n ps k))=ks.filter λ k=>decide (r<=hmOf n ps k):=by
     apply List.filter_congr;intro k _
     have:=qu3 (ps:=ps) h1 k
     apply decide_eq_decide.mpr;lia
   simp only[Bool.false_eq_true,if_false,e,zB5];lia
theorem qE0.of{n:Int}{wr:Bool}{ps:Pr}(h1:1<=n)(h:∀ q,¬ Crowd n.toNat wr (hmOf n ps) ks q):qE0 n wr ps ks:=λ r hr=>by
 cases e:qF2 n wr ps ks (r:Int) with
 | false=>rfl
 | true=>exact absurd ((qah7 h1 hr).mp e) (h r)
def qv1(C:Addr):VSp:=Aw λ ds d=>∃ z n wr ps z' ks,ds=[Aa z C n wr ps,.lst z' (ksD ks)]/\1<=n/\n<=64/\(∀ k∈ks,Am k)/\ks.length<=1000/\qE0 n wr ps ks/\d=.non
theorem qw1(T:Txt K mg a):VFn P w K mg base 7 a.f19 a.d19 ["plan", "keys"] (qv1 a.C3):=by
 refine VFn.mk2 T.d19.F qj9 (wOf [true,true]) qb2 (λ ds Q xe h=>by obtain⟨d,⟨z,n,wr,ps,z',ks,e,_⟩,_⟩:=h;rw[e];exact⟨rfl,rfl⟩) (λ cdv A outer sh H E av hr=>⟨_,(Ab (Al 2 qj9.nd (Aj T.d18 (qw3 T) qa1 (rm hr) (vaN 0 (vaN 1 Ac))))
     (Ah (sif (q2 (Au qo7 (qb3 _)) qt6 (vnm 2) Bh)
     (Ah qg2)
     Ax))),λ ds Q xe h=>?_⟩)
 obtain⟨d,⟨z,n,wr,ps,z',ks,rfl,h1,h2,hk,hl,nc,rfl⟩,q⟩:=h;refine As [Aa z a.C3 n wr ps,.lst z' (ksD ks),.unk] rfl ?_;refine qb1 [Aa z a.C3 n wr ps,.lst z' (ksD ks),.non] (λ K hK=>?_) ?_
 . exact qu1 (x:=Aa z a.C3 n wr ps) (y:=.lst z' (ksD ks)) (d:=.non) rfl rfl rfl ⟨z,n,wr,ps,z',ks,rfl,h1,h2,hk,hl,by rw[qL0 nc];rfl⟩ rfl hK
 exact if_v (b:=false) rfl (λ h=>nomatch h) λ _=>q
theorem qf5:qa9 ["plan", "rooms", "key", "came", "room", "held"] ["plan", "rooms", "key"] (qa3 qs8):=by walk_at "s"
def qR0(C:Addr):VSp:=λ ds Q _=>∃ z n wr ps g S key,ds=[Aa z C n wr ps,.lst false (rlD n.toNat g),.int key]/\1<=n/\n<=64/\Am key/\(∀ k∈S,Am k)/\Kept n.toNat wr (hmOf n ps) g S/\¬ key∈S/\(∃ e,Free n.toNat wr (hmOf n ps) g key e) /\
 ∀ came g',Kept n.toNat wr (hmOf n ps) g' (S++[key])->Q (.lst false came) [Aa z C n wr ps,.lst false (rlD n.toNat g'),.int key]
theorem qS4(T:Txt K mg a):VFn P w K mg base 7 a.f20 a.d20 ["plan", "rooms", "key"] (qR0 a.C3):=by
 refine VFn.mk2 T.d20.F qf5 (wOf [true,true,false]) (λ ds Q Q' xe xe' hQ _ h=>by obtain⟨z,n,wr,ps,g,S,key,e,h1,h2,h3,h4,h5,h6,h7,q⟩:=h;exact⟨z,n,wr,ps,g,S,key,e,h1,h2,h3,h4,h5,h6,h7,λ c g' K=>hQ _ _ (q c g' K)⟩) (λ ds Q xe h=>by obtain⟨z,n,wr,ps,g,S,key,e,_⟩:=h;rw[e];exact⟨rfl,rfl⟩) (λ cdv A outer sh H E av hr=>⟨_,(Ab (Al 3 qf5.nd (qa5 (B9 qa7)))
     (Ab (Al 4 qf5.nd (qh0 0 T.d9 T.C5.cl (ql0 T) qa1 (rm hr) (vaN 2 Ac)))
     (Ab (qaj1 PassesOwn.leaving (q2 (Au qo7 (qb3 _)) qt6 (v2 (Av qb6) Ap (vnm 1) (vnm 4)) Bh)
     (Ab (Al 5 qf5.nd (qc2 (v2 (Av qb6) Ap (vnm 1) (vnm 4))))
     (Ab (sif (te (qh0 0 T.d11 T.C5.cl (qo8 T) qa1 (rm hr) (vaN 4 (vaN 2 (vaN 5 Ac)))))
     (Ab (Bj (D9 3 qw5 PySem.F.plainAttrs_list PySem.F.slot_list_append PySem.F.type_list_append qd7 (vaV (qa5 (Eu (qa2 (vnm 2) (qa2 (vnm 4) qa7 rfl) rfl))) Ac)))
     (Ab (Ew (qc2 (vnm 2)) (Dp (vpn 1) (vnm 4)))
     (Ah (Al 2 qf5.nd (qc2 (vnm 5))))))
     Ax)
     (Ah (Al 4 qf5.nd (qa5 (v2 (Ak qk9) qk8 (v2 (Ak qg1) qg0 (vnm 4) Ae) (Bo rfl (vnm 0) T.C5.cl T.C6))))))))
     (Ab (Bj (D9 3 qw5 PySem.F.plainAttrs_list PySem.F.slot_list_append PySem.F.type_list_append qd7 (vaV (qa5 (Eu (qa2 (vnm 2) (qa2 (vnm 4) qa7 rfl) rfl))) Ac)))
     (Ab (Ew (qc2 (vnm 2)) (Dp (vpn 1) (vnm 4)))
     (Ah (At (emv 3)))))))),λ ds Q xe h=>?_⟩)
 obtain⟨z,n,wr,ps,g,S,key,rfl,n1,n2,hkey,hS,KP,nin,⟨e,Fr⟩,q⟩:=h;have hh:=B8 (ps:=ps) n1 key;have hT:∀ x∈S++[key],Am x:=λ x hx=>by
   rcases zAb.mp hx with h | h
   . exact hS x h
   rw[zA8.mp h];exact hkey
 have hnd:(S++[key]).Nodup:=zBi.mpr ⟨KP.h.1,(by simp),λ x hx y hy e=>nin (by rw[<- zA8.mp hy,<- e];exact hx)⟩;refine As [Aa z a.C3 n wr ps,.lst false (rlD n.toNat g),.int key,.unk,.unk,.unk] rfl ?_;refine qb1 [Aa z a.C3 n wr ps,.lst false (rlD n.toNat g),.int key,.lst false [],.unk,.unk] (λ K hK=>hK) ?_;refine qb1 [Aa z a.C3 n wr ps,.lst false (rlD n.toNat g),.int key,.lst false [],.int (hmOf n ps key:Nat),.unk] (λ K hK=>?_) ?_
 . exact qq7 (p:=Aa z a.C3 n wr ps) (x:=.int key) (d:=.int (hmOf n ps key:Nat)) rfl (qi0 rfl) rfl rfl ⟨z,n,wr,ps,key,rfl,n1,hkey,by rw[qu3 n1]⟩ rfl hK
 refine qc8 (λ ds=>∃ g2 c r came d5,ds=[Aa z a.C3 n wr ps,.lst false (rlD n.toNat g2),.int c,.lst false came,.int (r:Nat),d5]/\Row.Walk n.toNat wr (hmOf n ps) (S++[key]) key e g2 c r/\g2 r=none/\came.length<=64) (λ K hK=>?_) ?_
 . have W0:=KP.start nin Fr
   refine qU0 (λ m ds=>∃ g2 c r came d5,ds=[Aa z a.C3 n wr ps,.lst false (rlD n.toNat g2),.int c,.lst false came,.int (r:Nat),d5]/\Row.Walk n.toNat wr (hmOf n ps) (S++[key]) key e g2 c r/\m=Ad n.toNat (hmOf n ps key) e - Ad n.toNat (hmOf n ps key) r/\came.length+m<=64) _ ⟨g,key,hmOf n ps key,[],_,rfl,W0,rfl,by have:=qk4 Fr.1 hh;show 0+_<=64;lia⟩ ?_;rintro m ds ⟨g2,c,r,came,d5,rfl,W,rfl,hc⟩ K2 hK2;have hr:=W.hr;cases hg:g2 r with
   | none =>
     refine qq2 (b:=false) (Af (Af rfl rfl (Eb hr)) rfl (by rw[hg];rfl)) ?_;exact hK _ ⟨g2,c,r,came,d5,rfl,W,hg,by lia⟩
   | some y =>
     refine qq2 (b:=true) (Af (Af rfl rfl (Eb hr)) rfl (by rw[hg];rfl)) ?_;have hx:wr=false->hmOf n ps c<=r:=λ h=>(W.ln h).2.1
     have hy:wr=false->hmOf n ps y<=r:=λ h=>(W.ln h).2.2 r y hr hg
     have cT:Am c:=hT c ((W.all c).mpr (.inl rfl));have yT:Am y:=hT y ((W.all y).mpr (.inr ⟨r,hr,hg⟩));have lt:=W.lt hg;have nx:=W.nx hg;refine Dr rfl ?_;refine qb1 [Aa z a.C3 n wr ps,.lst false (rlD n.toNat g2),.int c,.lst false came,.int (r:Nat),.int y] (λ K hK=>?_) ?_
     . exact qD2 (d:=.int y) (Af rfl rfl (by rw[Eb hr,hg];rfl)) rfl hK
     refine qc8 (λ ds=>∃ g3 c3 came3,ds=[Aa z a.C3 n wr ps,.lst false (rlD n.toNat g3),.int c3,.lst false came3,.int (r:Nat),.int y]/\Row.Walk n.toNat wr (hmOf n ps) (S++[key]) key e g3 c3 (Row.next n.toNat r)/\came3.length<=came.length+1) (λ K hK=>?_) ?_
     . refine if_e (b:=qF9 n wr ps (r:Nat) c y) (λ Q xe q=>qaK0 (p:=Aa z a.C3 n wr ps) (x:=.int (r:Nat)) (y:=.int c) (w:=.int y) rfl (qi0 rfl) rfl rfl rfl rfl rfl rfl ⟨z,n,wr,ps,(r:Nat),c,y,rfl,n1,by lia,by lia,cT,yT,rfl⟩ rfl q) (λ hb=>?_) (λ hb=>?_)
       . have ha:=(qQ5 n1 hr hx hy).mp hb
         refine qb1 [Aa z a.C3 n wr ps,.lst false (rlD n.toNat g2),.int c,.lst false (came++[.tup [.int c,.int (r:Nat)]]),.int (r:Nat),.int y] (λ K hK=>?_) ?_
         . exact qQ4 (ys:=came) (d:=.tup [.int c,.int (r:Nat)]) rfl rfl (by show came.length < 1000000;lia) hK
         refine qb1 [Aa z a.C3 n wr ps,.lst false (rlD n.toNat (Row.set g2 r c)),.int c,.lst false (came++[.tup [.int c,.int (r:Nat)]]),.int (r:Nat),.int y] (λ K hK=>?_) ?_
         . refine qC7 (d:=.int c) (ys:=rlD n.toNat g2) rfl rfl rfl rfl (qT1 hr) ?_
           rw[qz1];exact hK
         exact qD2 (d:=.int y) rfl rfl (hK _ ⟨Row.set g2 r c,y,_,rfl,W.swap hg ha,by rw[zA7];exact zA2 _⟩)
       exact hK _ ⟨g2,c,came,rfl,W.on hg (λ h=>by rw[(qQ5 n1 hr hx hy).mpr h] at hb;cases hb),by lia⟩
     rintro ds ⟨g3,c3,came3,rfl,W3,hc3⟩;refine qD1 (d:=.int (Row.next n.toNat r:Nat)) (Af (Af rfl rfl rfl) (Bb rfl qd8) (by rw[Dy (by lia),qar4 n1 hr])) ?_;exact hK2 _ _ (by rw[nx];lia) ⟨g3,c3,_,came3,_,rfl,W3,rfl,by rw[nx];lia⟩
 rintro ds ⟨g2,c,r,came,d5,rfl,W,hg,hc⟩;have hr:=W.hr;refine qb1 [Aa z a.C3 n wr ps,.lst false (rlD n.toNat g2),.int c,.lst false (came++[.tup [.int c,.int (r:Nat)]]),.int (r:Nat),d5] (λ K hK=>?_) ?_
 . exact qQ4 (ys:=came) (d:=.tup [.int c,.int (r:Nat)]) rfl rfl (by show came.length < 1000000;lia) hK
 refine qb1 [Aa z a.C3 n wr ps,.lst false (rlD n.toNat (Row.set g2 r c)),.int c,.lst false (came++[.tup [.int c,.int (r:Nat)]]),.int (r:Nat),d5] (λ K hK=>?_) ?_
 . refine qC7 (d:=.int c) (ys:=rlD n.toNat g2) rfl rfl rfl rfl (qT1 hr) ?_
   rw[qz1];exact hK
 exact q _ _ (W.done hnd hg)
theorem qs3:qa9 ["self"] ["self"] (qa3 qg7):=by walk_at "s"
def Ii(y:D):Option D:=match y with
 | .int k=>some (.int k)
 | _=>none
theorem qas6(N:Nat)(g:Nat->Option Int):(rlD N g).filterMap Ii=ksD ((List.range N).filterMap g):=by
 unfold rlD ksD;rw[List.filterMap_map,List.map_filterMap];refine congrArg (λ f=>List.filterMap f (List.range N)) (funext λ i=>?_);show Ii (Fc (g i))=(g i).map D.int;cases g i<;>rfl
def qr9(C CP:Addr):VSp:=Aw λ ds d=>∃ n wr ps g dn,ds=[Ag false C CP n wr ps g dn]/\n<=64/\d=.lst false (ksD ((List.range n.toNat).filterMap g))
theorem qj1(T:Txt K mg a):VFn P w K mg base 1 a.f25 a.d25 ["self"] (qr9 a.C4 a.C3):=by
 refine VFn.mk2 T.d25.F qs3 (wOf [true]) qb2 (λ ds Q xe h=>by obtain⟨d,⟨n,wr,ps,g,dn,e,_⟩,_⟩:=h;rw[e];exact⟨rfl,rfl⟩) (λ cdv A outer sh H E av hr=>⟨_,(Ah (At (ecP (NY:=["key"]) (src:=[none]) (Fo rfl (vpn 0) T.C7.cl T.C9) (blk (λ av C s0 H0 ex=>(Bc 0 (show (["key"]:List Str).Nodup by decide +kernel))) (λ av C s0 H0 ex=>(Hx (q2 (Au qo7 (qb3 _)) qt6 (vnm 0) Bh))) (λ av C s0 H0 ex=>(qc2 (vnm 0))))))),λ ds Q xe h=>?_⟩);obtain⟨d,⟨n,wr,ps,g,dn,rfl,n2,rfl⟩,q⟩:=h;refine As [Ag false a.C4 a.C3 n wr ps g dn] rfl ?_;refine qi9 (qa0 (a:=(0,[1])) (by show (D.fidx a.C4 "held" (Ag false a.C4 a.C3 n wr ps g dn)).map (λ n=>(0,[n]))=_;rw[qC0];rfl) (qa0 (a:=D.lst false (rlD n.toNat g)) rfl (qa0 (a:=rlD n.toNat g) rfl ⟨qam0 _ _,λ w=>?_⟩)));refine qj5 (λ ι=>∃ d,ι=[d]) Ii _ [] _ (by show 0+_ < 1000000;rw[qp9];lia) ⟨_,rfl⟩ ?_ ?_
 . rintro y hy ι acc ⟨d,rfl⟩ R hR hacc
   have this:=hR [y] ⟨_,rfl⟩;refine ql4 ?_;rcases qaG7 hy with rfl | ⟨k,rfl⟩
   . have this:R (acc++[]) _:=this
     rw[zAd] at this;exact qq2 (b:=false) (Af rfl rfl rfl) (Dt (by decide) this)
   exact qq2 (b:=true) (Af rfl rfl rfl) (Dr rfl (qT2 (d:=.int k) rfl rfl ⟨hacc,this⟩))
 rintro ι ⟨d,rfl⟩;rw[qas6,zAz];exact qa0 (qaN0 rfl) q
theorem qW1:qa9 ["self", "key"] ["self", "key"] (qa3 qz5):=by walk_at "s"
theorem _root_.Row.Kept.perm{n:Nat}{wr:Bool}{hm:Int->Nat}{g:Nat->Option Int}(KP:Kept n wr hm g S):((List.range n).filterMap g).Perm S:=by
 refine(zBn ?_ KP.h.1).mpr λ k=>?_
 . refine List.pairwise_filterMap.mpr (List.Pairwise.imp_of_mem (R:=(·≠·)) (λ{i j} hi hj ne b hb b' hb' e=>?_) List.nodup_range)
   subst e;exact ne (KP.o.inj i j b (zAv.mp hi) (zAv.mp hj) hb hb')
 rw[KP.h.2 k,List.mem_filterMap];exact⟨λ ⟨i,hi,e⟩=>⟨i,zAv.mp hi,e⟩,λ ⟨i,hi,e⟩=>⟨i,zAv.mpr hi,e⟩⟩
theorem qO6{C CP:Addr}{n:Int}{wr:Bool}{ps:Pr}{g:Nat->Option Int}{dn:Ds}:D.fidx C "done" (Ag false C CP n wr ps g dn)=some 2:=by
 show (if C=C then List.findIdx? (λ q:Str×D=>("done" : Str) == q.1) [("plan",Aa true CP n wr ps),("held",.lst false (rlD n.toNat g)),("done",.lst false dn)] else none)=_;rw[if_pos rfl];rfl
def qV3(C CP:Addr):VSp:=λ ds Q _=>∃ n wr ps g dn S k,ds=[Ag false C CP n wr ps g dn,.int k]/\1<=n/\n<=64/\Am k/\(∀ x∈S,Am x)/\Kept n.toNat wr (hmOf n ps) g S/\¬ k∈S/\(∀ q,¬ Crowd n.toNat wr (hmOf n ps) (S++[k]) q)/\dn.length<=1000 /\
 ∀ came g',Kept n.toNat wr (hmOf n ps) g' (S++[k])->Q (.lst false came) [Ag false C CP n wr ps g' (dn++[.tup [.str "put",.int k]]),.int k]
theorem qD9(T:Txt K mg a):VFn P w K mg base 8 a.f28 a.d28 ["self", "key"] (qV3 a.C4 a.C3):=by
 refine VFn.mk2 T.d28.F qW1 (wOf [true,true]) (λ ds Q Q' xe xe' hQ _ h=>by obtain⟨n,wr,ps,g,dn,S,k,e,h1,h2,h3,h4,h5,h6,h7,h8,q⟩:=h;exact⟨n,wr,ps,g,dn,S,k,e,h1,h2,h3,h4,h5,h6,h7,h8,λ c g' K=>hQ _ _ (q c g' K)⟩) (λ ds Q xe h=>by obtain⟨n,wr,ps,g,dn,S,k,e,_⟩:=h;rw[e];exact⟨rfl,rfl⟩) (λ cdv A outer sh H E av hr=>⟨_,(Ab (sif (q2v (Ba qo7 (qb3 _)) (Au qo7 (qb3 _)) qt6 (qh0 0 T.d27 T.C7.cl (qc3 T) qa1 (rm hr) (vaN 1 Ac)) Bh)
     (Ah qg2)
     Ax)
     (Ab (Bj (Aj T.d19 (qw1 T) qa1 (rm hr) (vaV (qc2 (Bo rfl (vnm 0) T.C7.cl T.Cf)) (vaV (e2v (Ak qg1) qg0 (qam8 0 T.d25 T.C7.cl (qj1 T) qa1 (rm hr)) (B9 (qa2 (vnm 1) qa7 rfl))) Ac))))
     (Ab (Bj (emutP qw5 PySem.F.plainAttrs_list PySem.F.slot_list_append PySem.F.type_list_append qd7 (Fo rfl (vpn 0) T.C7.cl T.Ci) (vaV (qa5 (Eu (qa2 Fk (qa2 (vnm 1) qa7 rfl) rfl))) Ac)))
     (Ah (At (Aj T.d20 (qS4 T) qa1 (rm hr) (vaV (qc2 (Bo rfl (vnm 0) T.C7.cl T.Cf)) (vaB (Fo rfl (vpn 0) T.C7.cl T.C9) (vaN 1 Ac))))))))),λ ds Q xe h=>?_⟩)
 obtain⟨n,wr,ps,g,dn,S,k,rfl,n1,n2,hk,hS,KP,nin,nc,hdn,q⟩:=h;have pm:=KP.perm;have hL:((List.range n.toNat).filterMap g).length<=64:=by
   have:=List.length_filterMap_le g (List.range n.toNat)
   rw[zB9] at this;lia
 refine As [Ag false a.C4 a.C3 n wr ps g dn,.int k] rfl ?_;refine qu2 false (λ Q q=>qae4 ?_) (λ h=>(nomatch h)) λ _=>?_
 . refine qq7 (p:=Ag false a.C4 a.C3 n wr ps g dn) (x:=.int k) (d:=.non) rfl (qi5 rfl) rfl rfl ⟨false,n,wr,ps,g,dn,k,rfl,hk,(qae3 λ i hi e=>nin ((KP.h.2 k).mpr ⟨i,hi,e⟩)).symm⟩ rfl ?_
   exact qa0 (a:=D.bl false) rfl (qa0 (a:=false) rfl q)
 refine qb1 [Ag false a.C4 a.C3 n wr ps g dn,.int k] (λ K hK=>qu5 (qk5 ?_)) ?_
 . refine qf6 (y:=Aa true a.C3 n wr ps) (Bb rfl qz7) rfl (qg9 (qV2 ?_))
   refine qaB5 (p:=Ag false a.C4 a.C3 n wr ps g dn) (d:=.lst false (ksD ((List.range n.toNat).filterMap g))) rfl (qi5 rfl) ⟨n,wr,ps,g,dn,rfl,n2,rfl⟩ rfl ?_;refine qa0 (a:=D.lst false (ksD ((List.range n.toNat).filterMap g++[k]))) (qau7 (z:=false) (z':=false) (B:=[k]) (by show _+1<=1000;lia)) (qd1 ?_);refine⟨_,⟨true,n,wr,ps,false,_,rfl,n1,n2,λ x hx=>?_,by rw[zA7];show _+1<=1000;lia,qE0.of n1 λ q c=>nc q (c.perm (pm.append_right [k])),rfl⟩,hK⟩;rcases zAb.mp hx with h | h
   . exact hS x (pm.subset h)
   rw[zA8.mp h];exact hk
 refine qb1 [Ag false a.C4 a.C3 n wr ps g (dn++[.tup [.str "put",.int k]]),.int k] (λ K hK=>qu5 ?_) ?_
 . refine qak9 (i:=0) (p:=[2]) (ys:=dn) (d0:=Ag false a.C4 a.C3 n wr ps g dn) (by show (D.fidx a.C4 "done" (Ag false a.C4 a.C3 n wr ps g dn)).map (λ n=>(0,[n]))=_;rw[qO6];rfl) rfl rfl ?_
   exact qe0 (y:=.tup [.str "put",.int k]) rfl (qd1 (qa0 (a:=(dn++[D.tup [.str "put",.int k]],D.non)) (if_pos (show dn.length < big by unfold big;lia)) hK))
 generalize dn++[.tup [.str "put",.int k]]=dn2 at q ⊢;refine qi9 (qk5 (qf6 (y:=Aa true a.C3 n wr ps) (Bb rfl qz7) rfl ?_));refine qa0 (a:=(0,[1])) (by show (D.fidx a.C4 "held" (Ag false a.C4 a.C3 n wr ps g dn2)).map (λ n=>(0,[n]))=_;rw[qC0];rfl) (qa0 (a:=D.lst false (rlD n.toNat g)) rfl ⟨rfl,λ w=>?_⟩);refine qb9 (x:=.int k) rfl (qd1 (qa0 (a:=D.int k) rfl ?_));refine⟨true,n,wr,ps,g,S,k,rfl,n1,n2,hk,hS,KP,nin,?_,λ came g' K'=>?_⟩
 . by_cases h:∃ e,Free n.toNat wr (hmOf n ps) g k e
   . exact h
   obtain⟨q,c⟩:=KP.crowd λ e z=>h ⟨e,z⟩
   exact absurd c (nc q)
 refine qa0 (a:=[Ag false a.C4 a.C3 n wr ps g' dn2,.int k]) ?_ (q came g' K');show Aq (.pl 0 [1] w::_) _ _=_;rw[qab5 rfl];rfl
theorem qaw3:qa9 ["_law_script"] ["_law_script"] (qa3 qao8):=by walk_at "s"
theorem qaA5(T:Txt K mg a):By P w K mg base CX0 1 a.f30 a.d30 ["_law_script"] (qaG5 K):=by
 refine T.d30.F.ok qaw3 (λ vs H Q E h=>?_) (λ cdv A outer s H vs Q E hr h=>?_)
 . obtain⟨l,ns,rfl,_⟩:=h
   rfl
 obtain⟨l,ns,rfl,hS,hl,k⟩:=h;refine⟨_,(qak0 (qax6 (qaq0 (qg4 qI7 (qg4 qI7 (qg4 qI7 (qg4 (qD5 ["_law_cell"] [none] (qt5 (qX0 qaj2 (pv 0) qak3 (qak2 qI7))) (λ C s0 H0 ex=>(gnm 0 (show (["_law_cell"]:List Str).Nodup by decide +kernel))) (λ C s0 H0 ex=>qay5) (λ C s0 H0 ex=>(cbi qau5 T.D4 (qg4 (pv 0) qA0)))) qA0))))))),?_⟩;refine⟨_,rfl,_,rfl,l,_,rfl,hS,λ c hc=>?_⟩;have ec:Fd (ns.map V.int) none (some 63)=ns.map V.int:=by
   unfold Fd;have e63:HT.sIx (ns.map V.int).length (ns.map V.int).length (some (63:Int))=min 63 (ns.map V.int).length:=HT.qaj4 _ _ 63;rw[e63,HT.qW4,List.drop_zero,Nat.sub_zero];apply zAs;rw[zAa];lia
 rw[ec];refine⟨c,rfl,⟨_,SqL.of qb8⟩,λ D hD=>?_⟩;have nD:D≠c:=λ z=>by rw[z,qb8] at hD;cases hD
 have hD':H D=none:=by rw[qc7 nD] at hD;exact hD
 refine qP6 (K:=K) (xs:=ns.map V.int) (λ i σ H1=>∃ v,σ=[v]/\H1=upd (upd H c (.lst (ns.map V.int))) D (.lst (((ns.take i).map λ n=>if n < 0 then -n else n).map V.int))) ⟨none,rfl,rfl⟩ ?_ ?_ ?_
 . rintro i σ H1 _ ⟨v,rfl,rfl⟩
   refine SqL.of ?_;rw[qc7 nD.symm,qb8]
 . rintro i x σ H1 hi ⟨v,rfl,rfl⟩
   obtain⟨n,hn,rfl⟩:∃ n,ns[i]? = some n/\V.int n=x:=by
     rw[zB8] at hi;cases e:ns[i]? with
     | none=>rw[e] at hi;cases hi
     | some z=>rw[e] at hi;exact⟨z,rfl,Option.some.inj hi⟩
   refine⟨_,rfl,_,rfl,_,qb8,?_,_,rfl,?_⟩
   . rw[zAa,zAa,zBw]
     exact qad9 (by lia)
   rw[qav1];congr 1;rw[List.take_add_one,hn];simp
 rintro σ H1 ⟨v,rfl,rfl⟩;rw[zAa,zAs (zA2 _)];refine⟨by show 4<=sizeLine;decide,λ p hp=>?_⟩;have npD:p≠D:=λ z=>by rw[z,qb8] at hp;cases hp
 rw[qc7 npD] at hp;have npc:p≠c:=λ z=>by rw[z,qb8] at hp;cases hp
 rw[qc7 npc] at hp;refine k p D _ hp hD' (λ b o e=>?_) ⟨0,1234567891,0,ns.map λ n=>if n < 0 then -n else n,qb8,?_,by decide,by decide,by decide,by decide,?_⟩
 . rw[qc7 (qd6 e hp),qc7 (qd6 e hD'),qc7 (qd6 e hc)]
   exact e
 . rw[qc7 npD.symm,qb8]
 intro n hn;obtain⟨m,_,rfl⟩:=zBc.mp hn
 split<;>lia
theorem qn9:qa9 ["_law_bag_here", "_law_many", "_law_cell", "_law_value", "_law_first", "_law_second"] ["_law_bag_here", "_law_many"] (qa3 qW2):=by walk_at "s"
theorem qc1(T:Txt K mg a):VFn P w K mg base 1 a.f31 a.d31 ["_law_bag_here", "_law_many"] qH5:=by
 refine VFn.mk' T.d31.F qn9 (wOf [true,true]) (λ ds Q Q' xe xe' hQ _ h=>by obtain⟨b,m,ns,e,h1,h2,h3,q⟩:=h;exact⟨b,m,ns,e,h1,h2,h3,λ v b' v0 v1 B=>hQ _ _ (q v b' v0 v1 B)⟩) (λ ds Q xe ⟨b,m,ns,e,_⟩=>by rw[e];rfl) (λ ds Q xe h=>by obtain⟨b,m,ns,e,⟨x,y,z,eb,_⟩,_⟩:=h;rw[e,eb];rfl) (λ cdv A outer sh H E av hr=>⟨_,(Ab (sif (q2 (Au (qJ0 hr.u64) (qb3 _)) Ej (v2 (Av qb6) Ap (vnm 0) Ae) Ae)
     (Ab (Al 2 qn9.nd (qa5 Ae))
     (Ab (sif (q2 (Au Ha (qb3 _)) Hj (v2 (Av qb6) Ap (vnm 0) Ae) (vbi qx1 qx0.ops T.Cg (qa2 (v2 (Av qb6) Ap (vnm 0) Ae) qa7 rfl)))
     (Ah (Al 2 qn9.nd (qc2 (v2 (Av qb6) Ap (v2 (Av qb6) Ap (vnm 0) Ae) (v2 (Av qb6) Ap (vnm 0) Ae)))))
     Ax)
     (Ab (saug (vpn 0) Ae Ae qaL3)
     (Ab (sif (q2 (Au Gb (qb3 _)) Hk (vnm 2) Ae)
     (Ah (Ew (qc2 (vnm 2)) (Dp (vpn 0) Ae)))
     Ax)
     (Ah (Ew (qa5 (v2 (Ak qk9) qk8 (v2 (Ak qg1) qg0 (v2 (Ak qg1) qg0 (v2 (Ak qw0) qv9 (v2 (Av qb6) Ap (vnm 0) Ae) Ae) (v2 (Ak qk9) qk8 (vnm 2) Ae)) (v2 (Ak qw0) qv9 Ae (v2 (Av qb6) Ap (vnm 0) Ae))) Ae)) (Dp (vpn 0) Ae)))))))
     Ax)
     (Ab (sif (q2 (Au De (qb3 _)) Di (v2 (Av qb6) Ap (vnm 0) Ae) Ae)
     (Ab (Al 3 qn9.nd (qa5 (v2 (Ak qk9) qk8 (v2 (Av qb6) Ap (vnm 0) Ae) (vnm 1))))
     (Ab (Ew (qa5 (v2 (Ak qI9) qaq7 (v2 (Av qb6) Ap (vnm 0) Ae) (vnm 1))) (Dp (vpn 0) Ae))
     (Ah (At (emv 3)))))
     Ax)
     (Ab (Al 4 qn9.nd (qa5 (v2 (Ak qk9) qk8 (v2 (Ak qw0) qv9 (v2 (Ak qg1) qg0 (v2 (Av qb6) Ap (vnm 0) Ae) Ae) Ae) Ae)))
     (Ab (Al 5 qn9.nd (qa5 (v2 (Ak qk9) qk8 (v2 (Ak qw0) qv9 (v2 (Ak qk9) qk8 (v2 (Ak qw0) qv9 (vnm 4) (vnm 4)) Ae) Ae) Ae)))
     (Ab (sif (q2 (Au De (qb3 _)) Di (vnm 1) Ae)
     (Ah (At (qa5 (v2 (Ak qk9) qk8 (v2 (Ak qg1) qg0 (v2 (Ak qw0) qv9 (vnm 5) Ae) (vnm 4)) (vnm 1)))))
     Ax)
     (Ah (At (qa5 (v2 (Ak qk9) qk8 (v2 (Ak qI9) qaq7 (vnm 5) Ae) (vnm 1)))))))))),λ ds Q xe h=>?_⟩)
 obtain⟨b,m,ns,rfl,⟨x,y,z,rfl,B⟩,hm0,hm1,k⟩:=h;refine As [bagD x y z ns,.int m,.unk,.unk,.unk,.unk] rfl ?_;refine qc8 (λ ds=>∃ x' y' z' c,ds=[bagD x' y' z' ns,.int m,c,.unk,.unk,.unk]/\Bg x' y' z' ns) (λ K hK=>?_) ?_
 . refine if_v (b:=decide (x=0)) rfl (λ _=>?_) (λ _=>hK _ ⟨x,y,z,_,rfl,B⟩)
   refine qb1 [bagD x y z ns,.int m,.int 0,.unk,.unk,.unk] (λ K hK=>hK) ?_;refine qc8 (λ ds=>∃ c:Int,0<=c/\ds=[bagD x y z ns,.int m,.int c,.unk,.unk,.unk]) (λ K hK=>?_) ?_
   . refine if_v (b:=decide (z < (((ns.map D.int).length:Nat):Int))) rfl (λ h2=>?_) (λ _=>hK _ ⟨0,by decide,rfl⟩)
     obtain⟨v,hv,e⟩:=qF6 (xs:=ns.map D.int) (i:=z) B.z0 (zAf h2);obtain⟨c,hc,rfl⟩:=zBc.mp hv;exact qD2 (Af (y:=.int z) (x:=.lst false (ns.map .int)) rfl rfl e) rfl (hK _ ⟨c,B.nn c hc,rfl⟩)
   rintro ds ⟨c,hc,rfl⟩;refine qb1 [bagD x y (z+1) ns,.int m,.int c,.unk,.unk,.unk] (λ K hK=>?_) ?_
   . exact qaN2 (k:=2) (x:=z) (y:=1) (ys:=[.int x,.int y,.int z,.lst false (ns.map .int)]) rfl rfl (by decide) rfl rfl hK
   refine qc8 (λ ds=>∃ x':Int,0<=x'/\ds=[bagD x' y (z+1) ns,.int m,.int c,.unk,.unk,.unk]) (λ K hK=>?_) ?_
   . refine if_v (b:=decide (1000000000000000000<=c)) rfl (λ _=>?_) (λ _=>hK _ ⟨x,B.x0,rfl⟩)
     exact qC7 (d:=.int c) (ys:=[.int x,.int y,.int (z+1),.lst false (ns.map .int)]) (k:=0) (n:=0) rfl rfl rfl rfl rfl (hK _ ⟨c,hc,rfl⟩)
   rintro ds ⟨x',hx',rfl⟩;have e1:f2 G2 (f2 G0 (f2 G0 (f2 G1 (f2 gIx (rdN 0) (kC (.int 1))) (kC (.int 48271))) (f2 G2 (rdN 2) (kC (.int 2147483647)))) (f2 G1 (kC (.int 7919)) (f2 gIx (rdN 0) (kC (.int 2))))) (kC (.int 2147483647)) [bagD x' y (z+1) ns,.int m,.int c,.unk,.unk,.unk]=some (.int ((y * 48271+c % 2147483647+7919 * (z+1)) % 2147483647)) :=
     Af (Af (Af (Af (x:=.int y) rfl rfl (Ig (by decide))) (Af rfl rfl (Dy (by decide))) rfl) (Af (y:=.int (z+1)) rfl rfl (mulL (by decide))) rfl) rfl (Dy (by decide))
   exact qM0 (ys:=[.int x',.int y,.int (z+1),.lst false (ns.map .int)]) (k:=1) (n:=1) e1 rfl rfl rfl (hK _ ⟨x',_,z+1,_,rfl,hx',zCd _ (by decide),zBx _ (by decide),by have:=B.z0;lia,B.nn⟩)
 rintro ds ⟨x',y',z',c,rfl,B'⟩;refine qE4 (decide (0 < x')) rfl (λ h1=>?_) λ _=>?_
 . refine qb1 [bagD x' y' z' ns,.int m,c,.int (x' % m),.unk,.unk] (λ K hK=>qa0 (Af (x:=.int x') rfl rfl (Dy hm0)) hK) ?_
   refine qb1 [bagD (x' / m) y' z' ns,.int m,c,.int (x' % m),.unk,.unk] (λ K hK=>?_) ?_
   . exact qM0 (ys:=[.int x',.int y',.int z',.lst false (ns.map .int)]) (k:=0) (n:=0) (Af (x:=.int x') rfl rfl (qau0 hm0 hm1)) rfl rfl rfl hK
   exact k (x' % m) _ (zCd _ (by lia)) (zBx _ hm0) ⟨_,_,_,rfl,Int.ediv_nonneg B'.x0 (by lia),B'.y0,B'.y1,B'.z0,B'.nn⟩
 have f0:0<=(y'+1) * 39373 % 1000000007:=zCd _ (by decide);have f1:(y'+1) * 39373 % 1000000007 < 1000000007:=zBx _ (by decide);refine qb1 [bagD x' y' z' ns,.int m,c,.unk,.int ((y'+1) * 39373 % 1000000007),.unk] (λ K hK=>qa0 (Af (Af (Af (x:=.int y') rfl rfl rfl) rfl (Ig (by decide))) rfl (Dy (by decide))) hK) ?_;generalize (y'+1) * 39373 % 1000000007=f at f0 f1;refine qb1 [bagD x' y' z' ns,.int m,c,.unk,.int f,.int (f * f % 998244353 * 30011 % 998244353)] (λ K hK=>qa0 (Af (Af (Af (Af rfl rfl (mulL (qV6 (by lia) (by lia)))) rfl (Dy (by decide))) rfl (Ig (by decide))) rfl (Dy (by decide))) hK) ?_;generalize f * f % 998244353 * 30011 % 998244353=s;have kk:∀ v,Q (.int (v % m)) [bagD x' y' z' ns,.int m]:=λ v=>k _ _ (zCd _ (by lia)) (zBx _ hm0) ⟨_,_,_,rfl,B'⟩
 refine qE4 (decide (1000000 < m)) rfl (λ _=>?_) λ _=>?_
 . exact qi3 _ (Af (Af (Af rfl rfl (Ig (by decide))) rfl rfl) rfl (Dy hm0)) (kk _)
 exact qi3 _ (Af (Af rfl rfl (qau0 (by decide) (by decide))) rfl (Dy hm0)) (kk _)
theorem qc0:qa9 ["_law_bag_here", "_law_size", "_law_many", "_law_way", "_law_one", "_law_other", "_law_homes", "_law_k", "_law_some"] ["_law_bag_here", "_law_size", "_law_many"] (qa3 qh7):=by walk_at "s"
def qv6:VSp:=λ ds Q _=>∃ b n m ns,ds=[b,.int n,.int m]/\isBag ns b/\1<=n/\n<=64/\0<=m/\m<=100 /\
 ∀ b' hs,isBag ns b'->(∀ h∈hs,0<=h/\h < n)->hs.length=m.toNat->Q (.lst false (ksD hs)) [b',.int n,.unk]
theorem qaG1{x y i:Int}(h0:0<=i)(h1:i < 2){P:Int->Prop}(hx:P x)(hy:P y):∃ v,atI [D.int x,D.int y] i=some (.int v)/\P v:=by
 obtain⟨v,hv,ev⟩:=qF6 (xs:=[D.int x,D.int y]) h0 h1;simp only[zAm,zBv,or_false] at hv;rcases hv with rfl | rfl
 . exact⟨x,ev,hx⟩
 exact⟨y,ev,hy⟩
theorem qO1{x y z w i:Int}(h0:0<=i)(h1:i < 4){P:Int->Prop}(hx:P x)(hy:P y)(hz:P z)(hw:P w):∃ v,atI [D.int x,D.int y,D.int z,D.int w] i=some (.int v)/\P v:=by
 obtain⟨v,hv,ev⟩:=qF6 (xs:=[D.int x,D.int y,D.int z,D.int w]) h0 h1;simp only[zAm,zBv,or_false] at hv;rcases hv with rfl | rfl | rfl | rfl
 . exact⟨x,ev,hx⟩
 . exact⟨y,ev,hy⟩
 . exact⟨z,ev,hz⟩
 exact⟨w,ev,hw⟩
theorem qw4(T:Txt K mg a):VFn P w K mg base 2 a.f35 a.d35 ["_law_bag_here", "_law_size", "_law_many"] qv6:=by
 refine VFn.mk' T.d35.F qc0 (wOf [true,true,true]) (λ ds Q Q' xe xe' hQ _ h=>by obtain⟨b,n,m,ns,e,h1,h2,h3,h4,h5,q⟩:=h;exact⟨b,n,m,ns,e,h1,h2,h3,h4,h5,λ b' hs a1 a2 a3=>hQ _ _ (q b' hs a1 a2 a3)⟩) (λ ds Q xe h=>by obtain⟨b,n,m,ns,e,_⟩:=h;rw[e];rfl) (λ ds Q xe h=>by obtain⟨b,n,m,ns,e,⟨x,y,z,eb,_⟩,_⟩:=h;rw[e,eb];rfl) (λ cdv A outer sh H E av hr=>⟨_,(Ab (Al 3 qc0.nd (Aj T.d31 (qc1 T) qa1 (rm hr) (vaN 0 (vaV (qa5 Ae) Ac))))
     (Ab (Al 4 qc0.nd (Aj T.d31 (qc1 T) qa1 (rm hr) (vaN 0 (vaN 1 Ac))))
     (Ab (Al 5 qc0.nd (Aj T.d31 (qc1 T) qa1 (rm hr) (vaN 0 (vaN 1 Ac))))
     (Ab (Al 6 qc0.nd (qa5 (B9 qa7)))
     (Ab (qR6 PassesOwn.leaving T.Ch (Dx (vaN 2 Ac)) (Bc 7 qc0.nd)
     (Ab (Al 8 qc0.nd (elst (vaV (Aj T.d31 (qc1 T) qa1 (rm hr) (vaN 0 (vaN 1 Ac))) (vaV (qc2 (vnm 4)) (vaV (e2 (Ak qA2) qA1 (qa5 (v2 (Ak qA2) qA1 (vnm 1) Ae)) (Aj T.d31 (qc1 T) qa1 (rm hr) (vaN 0 (vaV (qa5 (vbi (qr5 rfl) qP2.ops T.Cu (qa2 Ae (qa2 (vnm 1) qa7 rfl) rfl))) Ac)))) (vaV (qa5 (v2 (Av qb6) Ap (B9 (qa2 (vnm 4) (qa2 (vnm 5) qa7 rfl) rfl)) (v2 (Ak qk9) qk8 (vnm 7) Ae))) Ac))))))
     (Ah (Bj (D9 6 qw5 PySem.F.plainAttrs_list PySem.F.slot_list_append PySem.F.type_list_append qd7 (vaV (qc2 (v2 (Av qb6) Ap (vnm 8) (vnm 3))) Ac))))))
     (Ah (At (emv 6)))))))),λ ds Q xe h=>?_⟩)
 obtain⟨b,n,m,ns,rfl,B,n1,n2,m0,m1,q⟩:=h;refine As [b,.int n,.int m,.unk,.unk,.unk,.unk,.unk,.unk] rfl ?_;refine qc8 (λ ds=>∃ b w,ds=[b,.int n,.int m,.int w,.unk,.unk,.unk,.unk,.unk]/\isBag ns b/\0<=w/\w < 4) (λ K hK=>?_) ?_
 . exact qe3 rfl B rfl (by decide) (by decide) λ v b' v0 v1 B'=>hK _ ⟨b',v,rfl,B',v0,v1⟩
 rintro ds ⟨b,way,rfl,B,w0,w1⟩;refine qc8 (λ ds=>∃ b o,ds=[b,.int n,.int m,.int way,.int o,.unk,.unk,.unk,.unk]/\isBag ns b/\0<=o/\o < n) (λ K hK=>?_) ?_
 . exact qr6 (m:=n) rfl B rfl (by decide) (by lia) (by lia) λ v b' v0 v1 B'=>hK _ ⟨b',v,rfl,B',v0,v1⟩
 rintro ds ⟨b,o,rfl,B,o0,o1⟩;refine qc8 (λ ds=>∃ b p,ds=[b,.int n,.int m,.int way,.int o,.int p,.unk,.unk,.unk]/\isBag ns b/\0<=p/\p < n) (λ K hK=>?_) ?_
 . exact qr6 (m:=n) rfl B rfl (by decide) (by lia) (by lia) λ v b' v0 v1 B'=>hK _ ⟨b',v,rfl,B',v0,v1⟩
 rintro ds ⟨b,p,rfl,B,p0,p1⟩;refine qb1 [b,.int n,.int m,.int way,.int o,.int p,.lst false (ksD []),.unk,.unk] (λ K hK=>hK) ?_;refine qc8 (λ ds=>∃ b hs d7 d8,ds=[b,.int n,.unk,.int way,.int o,.int p,.lst false (ksD hs),d7,d8]/\isBag ns b/\(∀ h∈hs,0<=h/\h < n)/\hs.length=m.toNat) (λ K hK=>?_) ?_
 . refine qag9 (n:=m) rfl (qX9 (by lia) (by lia)) ?_
   refine qd3 (λ i ds=>∃ b hs d7 d8,ds=[b,.int n,.unk,.int way,.int o,.int p,.lst false (ksD hs),d7,d8]/\isBag ns b/\(∀ h∈hs,0<=h/\h < n)/\hs.length=i) _ 0 _ ⟨b,[],_,_,rfl,B,nofun,rfl⟩ ?_ ?_
   . rintro i x hx ds ⟨b,hs,d7,d8,rfl,B,hh,hl⟩ K2 hK2
     rw[zAo] at hl hK2;obtain⟨hi,rfl⟩:=qR8 hx;refine As [b,.int n,.unk,.int way,.int o,.int p,.lst false (ksD hs),.int (i:Nat),d8] rfl ?_;refine qc8 (λ ds=>∃ b x1 x2 x3 x4,ds=[b,.int n,.unk,.int way,.int o,.int p,.lst false (ksD hs),.int (i:Nat),.lst false [.int x1,.int x2,.int x3,.int x4]]/\isBag ns b/\(0<=x1/\x1 < n)/\(0<=x2/\x2 < n)/\(0<=x3/\x3 < n)/\(0<=x4/\x4 < n)) (λ K hK=>?_) ?_
     . refine qf4 (qJ5 (qg9 ?_))
       refine qr6 (ds:=[b,.int n,.unk,.int way,.int o,.int p,.lst false (ksD hs),.int (i:Nat),d8]) (m:=n) rfl B rfl (by decide) (by lia) (by lia) λ x1 b1 a0 a1 B1=>?_
       refine qf6 (y:=.int o) rfl rfl (qg9 (qG8 (x:=.int (n - 1)) rfl ?_));refine qe3 (ds:=[b1,.int n,.unk,.int way,.int o,.int p,.lst false (ksD hs),.int (i:Nat),d8]) (m:=if n < 4 then n else 4) rfl B1 rfl (by split<;>lia) (by split<;>lia) λ x3 b2 c0 c1 B2=>?_
       have c2:x3 < n:=by revert c1;split<;>lia
       refine qa0 (a:=D.int (n - 1 - x3)) rfl ?_;obtain⟨x4,e4,h4⟩:=qaG1 (x:=o) (y:=p) (i:=((i:Nat):Int) % 2) (by lia) (by lia) (P:=λ v=>0<=v/\v < n) ⟨o0,o1⟩ ⟨p0,p1⟩;refine qe0 (y:=.int x4) (Af (x:=.lst false [.int o,.int p]) rfl (Af (x:=.int (i:Nat)) (y:=.int 2) rfl rfl (Dy (by decide))) e4) (qd1 ⟨by show 4<=1000000;decide,?_⟩);exact hK _ ⟨b2,x1,o,n - 1 - x3,x4,rfl,B2,⟨a0,a1⟩,⟨o0,o1⟩,⟨by lia,by lia⟩,h4⟩
     rintro ds ⟨b,x1,x2,x3,x4,rfl,B,h1,h2,h3,h4⟩;obtain⟨v,ev,hv⟩:=qO1 (P:=λ v=>0<=v/\v < n) w0 w1 h1 h2 h3 h4;refine qan3 (ys:=ksD hs) (d:=.int v) rfl (Af (x:=.lst false [.int x1,.int x2,.int x3,.int x4]) rfl rfl ev) rfl (by rw[qg3];unfold big;lia) ?_;rw[qN2];refine hK2 _ ⟨b,hs++[v],_,_,rfl,B,λ h hm=>?_,by rw[zA7,hl];rfl⟩;rcases zAb.mp hm with hm | hm
     . exact hh h hm
     rw[zA8.mp hm];exact hv
   rintro ds ⟨b,hs,d7,d8,rfl,h⟩;rw[zAo,qal4] at h;exact hK _ ⟨b,hs,d7,d8,rfl,h⟩
 rintro ds ⟨b,hs,d7,d8,rfl,B,hh,hl⟩;exact q b hs B hh hl
theorem qd0:qa9 ["_law_bag_here", "_law_most", "_law_way", "_law_size", "_law_wraps", "_law_many", "_law_told", "_law_great", "_law_keys", "_law_home_here", "_law_key", "_law_homes", "_law_number"] ["_law_bag_here", "_law_most"] (qa3 qI6):=by walk_at "s"
def qad7:VSp:=λ ds Q _=>∃ b M ns,ds=[b,.int M]/\isBag ns b/\1<=M/\M<=64/\∀ b' n wr ps ks,isBag ns b'->1<=n->n<=64->Hh ps->ks.Nodup->(∀ k∈ks,Am k)->ks.length<=66->Q (.tup [planT n wr ps,.lst false (ksD ks)]) [b',.int M]
theorem qan8{x y z i:Int}(h0:0<=i)(h1:i < 3){P:Int->Prop}(hx:P x)(hy:P y)(hz:P z):∃ v,atI [D.int x,D.int y,D.int z] i=some (.int v)/\P v:=by
 obtain⟨v,hv,ev⟩:=qF6 (xs:=[D.int x,D.int y,D.int z]) h0 h1;simp only[zAm,zBv,or_false] at hv;rcases hv with rfl | rfl | rfl
 . exact⟨x,ev,hx⟩
 . exact⟨y,ev,hy⟩
 exact⟨z,ev,hz⟩
theorem qaD6{x i:Int}(h0:0<=i)(h1:i < 5)(hx:0<=x/\x<=64):∃ v,atI [D.int 0,D.int 0,D.int 1,D.int 6,D.int x] i=some (.int v)/\0<=v/\v<=64:=by
 obtain⟨v,hv,ev⟩:=qF6 (xs:=[D.int 0,D.int 0,D.int 1,D.int 6,D.int x]) h0 h1;simp only[zAm,zBv,or_false] at hv;rcases hv with rfl | rfl | rfl | rfl | rfl<;>exact⟨_,ev,by lia,by lia⟩
theorem qay0{ps:Pr}{m:Int}:prD ps++[.tup [.int k,.int m]]=prD (ps++[(k,m)]):=by unfold prD;rw[zBq];rfl
theorem qaC0(ps:Pr):(prD ps).length=ps.length:=zAa _
theorem qaf4(T:Txt K mg a):VFn P w K mg base 3 a.f36 a.d36 ["_law_bag_here", "_law_most"] qad7:=by
 refine VFn.mk' T.d36.F qd0 (wOf [true,true]) (λ ds Q Q' xe xe' hQ _ h=>by obtain⟨b,M,ns,e,h1,h2,h3,q⟩:=h;exact⟨b,M,ns,e,h1,h2,h3,λ b' n wr ps ks a1 a2 a3 a4 a5 a6 a7=>hQ _ _ (q b' n wr ps ks a1 a2 a3 a4 a5 a6 a7)⟩) (λ ds Q xe ⟨b,M,ns,e,_⟩=>by rw[e];rfl) (λ ds Q xe h=>by obtain⟨b,M,ns,e,⟨x,y,z,eb,_⟩,_⟩:=h;rw[e,eb];rfl) (λ cdv A outer sh H E av hr=>⟨_,(Ab (Al 2 qd0.nd (Aj T.d31 (qc1 T) qa1 (rm hr) (vaN 0 (vaV (qa5 Ae) Ac))))
     (Ab (Al 3 qd0.nd (e2vP (Av qb6) Ap (elst (vaV (e2 (Ak qg1) qg0 (qa5 Ae) (Aj T.d31 (qc1 T) qa1 (rm hr) (vaN 0 (vaV (qa5 (vbi (qr5 rfl) qP2.ops T.Cu (qa2 Ae (qa2 (vnm 1) qa7 rfl) rfl))) Ac)))) (vaV (e2 (Ak qg1) qg0 (qa5 Ae) (Aj T.d31 (qc1 T) qa1 (rm hr) (vaN 0 (vaV (qa5 (vbi (qr5 rfl) qP2.ops T.Cu (qa2 Ae (qa2 (vnm 1) qa7 rfl) rfl))) Ac)))) (vaV (e2 (Ak qg1) qg0 (qa5 Ae) (Aj T.d31 (qc1 T) qa1 (rm hr) (vaN 0 (vaN 1 Ac)))) (vaV (qc2 (vnm 1)) Ac))))) (vnm 2)))
     (Ab (Al 4 qd0.nd (e2v (Ba (qJ0 hr.u64) (qb3 _)) Ej (Aj T.d31 (qc1 T) qa1 (rm hr) (vaN 0 (vaV (qa5 Ae) Ac))) Ae))
     (Ab (Al 5 qd0.nd (e2P (Av qb6) Ap (elst (vaV (qc2 (vnm 3)) (vaV (qa5 (v2 (Ak qg1) qg0 (vnm 3) Ae)) (vaV (qa5 (v2 (Ak qg1) qg0 Ae (v2 (Ak qI9) qaq7 (v2 (Ak qw0) qv9 (vnm 3) Ae) Ae))) (vaV (Aj T.d31 (qc1 T) qa1 (rm hr) (vaN 0 (vaV (qa5 (v2 (Ak qg1) qg0 (vnm 3) Ae)) Ac))) Ac))))) (Aj T.d31 (qc1 T) qa1 (rm hr) (vaN 0 (vaV (qa5 Ae) Ac)))))
     (Ab (Al 6 qd0.nd (e2P (Av qb6) Ap (qa5 (B9 (qa2 Ae (qa2 Ae (qa2 Ae (qa2 Ae (qa2 Ae qa7 rfl) rfl) rfl) rfl) rfl))) (Aj T.d31 (qc1 T) qa1 (rm hr) (vaN 0 (vaV (qa5 Ae) Ac)))))
     (Ab (Al 7 qd0.nd (e2P (Av qb6) Ap (qa5 (B9 (qa2 Ae (qa2 Ae (qa2 Ae (qa2 (vpow 10000000000000000) qa7 rfl) rfl) rfl) rfl))) (Aj T.d31 (qc1 T) qa1 (rm hr) (vaN 0 (vaV (qa5 Ae) Ac)))))
     (Ab (Al 8 qd0.nd (qa5 (B9 qa7)))
     (Ab (E4 PassesOwn.leaving (Aj T.d35 (qw4 T) qa1 (rm hr) (vaN 0 (vaN 3 (vaN 5 Ac)))) (Bc 9 qd0.nd)
     (Ab (Al 10 qd0.nd (e2n 9 (Ak qg1) qg0 (e2n 3 (Ak qw0) qv9 (Aj T.d31 (qc1 T) qa1 (rm hr) (vaN 0 (vaN 7 Ac))))))
     (Ah (sif (q2 (Au qI8 (by with_unfolding_all rfl)) os_in (vnm 10) (vnm 8))
     (Ah (Bj (D9 8 qw5 PySem.F.plainAttrs_list PySem.F.slot_list_append PySem.F.type_list_append qd7 (vaN 10 Ac))))
     Ax))))
     (Ab (Al 11 qd0.nd (qa5 (B9 qa7)))
     (Ab (E4 PassesOwn.leaving (qa5 (vsl (vnm 8) Ho (Hq (vnm 6)))) (Bc 10 qd0.nd)
     (Ab (Al 12 qd0.nd (e2P (Av qb6) Ap (elst (vaV (Aj T.d31 (qc1 T) qa1 (rm hr) (vaN 0 (vaN 3 Ac))) (vaV (e2 (Ak qA2) qA1 (qa5 (vpow 1000000000000000000)) (Aj T.d31 (qc1 T) qa1 (rm hr) (vaN 0 (vaN 3 Ac)))) (vaV (Aj T.d31 (qc1 T) qa1 (rm hr) (vaN 0 (vaV (qa5 (vpow 1000000000000000000)) Ac))) Ac)))) (Aj T.d31 (qc1 T) qa1 (rm hr) (vaN 0 (vaV (qa5 Ae) Ac)))))
     (Ah (Bj (D9 11 qw5 PySem.F.plainAttrs_list PySem.F.slot_list_append PySem.F.type_list_append qd7 (vaV (qa5 (Eu (qa2 (vnm 10) (qa2 (vnm 12) qa7 rfl) rfl))) Ac))))))
     (Ah (At (G4 (vaV (G4 (vaV (qc2 (vnm 3)) (vaV (qc2 (vnm 4)) (vaV (efz 11) Ac)))) (vaV (emv 8) Ac))))))))))))))),λ ds Q xe h=>?_⟩)
 obtain⟨b,M,ns,rfl,B,M0,M1,q⟩:=h;refine As [b,.int M,.unk,.unk,.unk,.unk,.unk,.unk,.unk,.unk,.unk,.unk,.unk] rfl ?_;refine qc8 (λ ds=>∃ b way,ds=[b,.int M,.int way,.unk,.unk,.unk,.unk,.unk,.unk,.unk,.unk,.unk,.unk]/\isBag ns b/\0<=way/\way < 4) (λ K hK=>?_) ?_
 . exact qe3 rfl B rfl (by decide) (by decide) λ v b' v0 v1 B'=>hK _ ⟨b',v,rfl,B',v0,v1⟩
 rintro ds ⟨b,way,rfl,B,w0,w1⟩;refine qc8 (λ ds=>∃ b n,ds=[b,.int M,.int way,.int n,.unk,.unk,.unk,.unk,.unk,.unk,.unk,.unk,.unk]/\isBag ns b/\1<=n/\n<=64) (λ K hK=>?_) ?_
 . refine qf4 (qav9 (qJ5 (qg9 (qG8 (x:=.int 1) rfl ?_))))
   refine qe3 (ds:=[b,.int M,.int way,.unk,.unk,.unk,.unk,.unk,.unk,.unk,.unk,.unk,.unk]) (m:=if M < 8 then M else 8) rfl B rfl (by split<;>lia) (by split<;>lia) λ x1 b1 a1 c1 B1=>?_
   have e1:x1 < M:=by revert c1;split<;>lia
   refine qa0 (a:=D.int (1+x1)) rfl (qg9 (qG8 (x:=.int 1) rfl ?_));refine qe3 (ds:=[b1,.int M,.int way,.unk,.unk,.unk,.unk,.unk,.unk,.unk,.unk,.unk,.unk]) (m:=if M < 16 then M else 16) rfl B1 rfl (by split<;>lia) (by split<;>lia) λ x2 b2 a2 c2 B2=>?_
   have e2:x2 < M:=by revert c2;split<;>lia
   refine qa0 (a:=D.int (1+x2)) rfl (qg9 (qG8 (x:=.int 1) rfl ?_));refine qr6 (ds:=[b2,.int M,.int way,.unk,.unk,.unk,.unk,.unk,.unk,.unk,.unk,.unk,.unk]) (m:=M) rfl B2 rfl (by decide) (by lia) (by lia) λ x3 b3 a3 c3 B3=>?_
   refine qa0 (a:=D.int (1+x3)) rfl (qf6 (y:=.int M) rfl rfl (qd1 ⟨by show 4<=1000000;decide,qa0 (a:=D.int way) rfl ⟨rfl,?_⟩⟩));obtain⟨n,en,hn⟩:=qO1 (P:=λ v=>1<=v/\v<=64) w0 w1 (x:=1+x1) (y:=1+x2) (z:=1+x3) (w:=M) ⟨by lia,by lia⟩ ⟨by lia,by lia⟩ ⟨by lia,by lia⟩ ⟨M0,M1⟩;exact qa0 en (hK _ ⟨b3,n,rfl,B3,hn.1,hn.2⟩)
 rintro ds ⟨b,n,rfl,B,n1,n2⟩;refine qc8 (λ ds=>∃ b wr,ds=[b,.int M,.int way,.int n,.bl wr,.unk,.unk,.unk,.unk,.unk,.unk,.unk,.unk]/\isBag ns b) (λ K hK=>?_) ?_
 . refine qf4 (qV2 (qe3 rfl B rfl (by decide) (by decide) λ v b' v0 v1 B'=>?_))
   exact qa0 (a:=D.bl (decide (v=1))) rfl (hK _ ⟨b',_,rfl,B'⟩)
 rintro ds ⟨b,wr,rfl,B⟩;refine qc8 (λ ds=>∃ b m,ds=[b,.int M,.int way,.int n,.bl wr,.int m,.unk,.unk,.unk,.unk,.unk,.unk,.unk]/\isBag ns b/\0<=m/\m<=66) (λ K hK=>?_) ?_
 . refine qf4 (qaw0 (qJ5 (qf6 (y:=.int n) rfl rfl (qe0 (y:=.int (n+2)) rfl (qe0 (y:=.int (1+n * 3 / 4)) (Af (x:=.int 1) rfl (Af (x:=.int (n * 3)) (y:=.int 4) (Af (x:=.int n) (y:=.int 3) rfl rfl (Ig (by decide))) rfl (qau0 (by decide) (by decide))) rfl) (qg9 ?_))))))
   refine qe3 (ds:=[b,.int M,.int way,.int n,.bl wr,.unk,.unk,.unk,.unk,.unk,.unk,.unk,.unk]) (m:=n+1) rfl B rfl (by lia) (by lia) λ x1 b1 a1 c1 B1=>?_
   refine qd1 ⟨by show 4<=1000000;decide,?_⟩;refine qe3 (ds:=[b1,.int M,.int way,.int n,.bl wr,.unk,.unk,.unk,.unk,.unk,.unk,.unk,.unk]) (m:=4) rfl B1 rfl (by decide) (by decide) λ x2 b2 a2 c2 B2=>?_
   obtain⟨m,em,hm⟩:=qO1 (P:=λ v=>0<=v/\v<=66) a2 c2 (x:=n) (y:=n+2) (z:=1+n * 3 / 4) (w:=x1) ⟨by lia,by lia⟩ ⟨by lia,by lia⟩ ⟨by lia,by lia⟩ ⟨by lia,by lia⟩;exact qa0 em (hK _ ⟨b2,m,rfl,B2,hm.1,hm.2⟩)
 rintro ds ⟨b,m,rfl,B,m0,m1⟩;refine qc8 (λ ds=>∃ b told,ds=[b,.int M,.int way,.int n,.bl wr,.int m,.int told,.unk,.unk,.unk,.unk,.unk,.unk]/\isBag ns b/\0<=told/\told<=64) (λ K hK=>?_) ?_
 . refine qf4 (qG8 (x:=.lst false [.int 0,.int 0,.int 1,.int 6,.int 40]) rfl (qe3 (ds:=[b,.int M,.int way,.int n,.bl wr,.int m,.unk,.unk,.unk,.unk,.unk,.unk,.unk]) (m:=5) rfl B rfl (by decide) (by decide) λ x2 b2 a2 c2 B2=>?_))
   obtain⟨m,em,hm⟩:=qaD6 (x:=40) a2 c2 (by decide);exact qa0 em (hK _ ⟨b2,m,rfl,B2,hm.1,hm.2⟩)
 rintro ds ⟨b,told,rfl,B,t0,t1⟩;refine qc8 (λ ds=>∃ b gr,ds=[b,.int M,.int way,.int n,.bl wr,.int m,.int told,.int gr,.unk,.unk,.unk,.unk,.unk]/\isBag ns b/\1<=gr/\gr<=10000000000000000) (λ K hK=>?_) ?_
 . refine qf4 (qG8 (x:=.lst false [.int 9,.int 9,.int 9,.int 10000000000000000]) rfl (qe3 (ds:=[b,.int M,.int way,.int n,.bl wr,.int m,.int told,.unk,.unk,.unk,.unk,.unk,.unk]) (m:=4) rfl B rfl (by decide) (by decide) λ x2 b2 a2 c2 B2=>?_))
   obtain⟨m,em,hm⟩:=qO1 (P:=λ v=>1<=v/\v<=10000000000000000) a2 c2 (x:=9) (y:=9) (z:=9) (w:=10000000000000000) (by decide) (by decide) (by decide) (by decide);exact qa0 em (hK _ ⟨b2,m,rfl,B2,hm.1,hm.2⟩)
 rintro ds ⟨b,gr,rfl,B,g0,g1⟩;refine qb1 [b,.int M,.int way,.int n,.bl wr,.int m,.int told,.int gr,.lst false (ksD []),.unk,.unk,.unk,.unk] (λ K hK=>hK) ?_;refine qc8 (λ ds=>∃ b ks d9 d10,ds=[b,.int M,.int way,.int n,.bl wr,.unk,.int told,.int gr,.lst false (ksD ks),d9,d10,.unk,.unk]/\isBag ns b/\ks.Nodup/\(∀ k∈ks,Am k)/\ks.length<=66) (λ K hK=>?_) ?_
 . refine qaM9 (x:=b) (y:=.int n) (w:=.int m) (qm2 rfl B.known) rfl rfl rfl (qm2 rfl B.known) ⟨b,n,m,ns,rfl,B,n1,n2,m0,by lia,λ b1 hs B1 hh hl=>?_⟩
   refine qa0 (a:=[b1,.int M,.int way,.int n,.bl wr,.unk,.int told,.int gr,.lst false (ksD []),.unk,.unk,.unk,.unk]) rfl (qa0 (a:=ksD hs) rfl ⟨qf3 hs,?_⟩);refine qd3 (λ i ds=>∃ b ks d9 d10,ds=[b,.int M,.int way,.int n,.bl wr,.unk,.int told,.int gr,.lst false (ksD ks),d9,d10,.unk,.unk]/\isBag ns b/\ks.Nodup/\(∀ k∈ks,Am k)/\ks.length<=i) _ 0 _ ⟨b1,[],_,_,rfl,B1,List.nodup_nil,nofun,zA2 _⟩ ?_ ?_
   . rintro i x hx ds ⟨b,ks,d9,d10,rfl,B,nd,hk,hle⟩ K2 hK2
     rw[zAo] at hle hK2;obtain⟨h,hi,rfl⟩:=qJ9 hx;obtain⟨h0,h1⟩:=hh h (zBa hi);have hil:i < 66:=by have:=(zA5.mp hi).1;lia
     refine ql4 (As [b,.int M,.int way,.int n,.bl wr,.unk,.int told,.int gr,.lst false (ksD ks),.int h,d10,.unk,.unk] rfl ?_);refine qc8 (λ ds=>∃ b kk,ds=[b,.int M,.int way,.int n,.bl wr,.unk,.int told,.int gr,.lst false (ksD ks),.int h,.int kk,.unk,.unk]/\isBag ns b/\Am kk) (λ K hK=>?_) ?_
     . refine qf4 ⟨rfl,rfl,?_⟩
       refine qr6 (ds:=[b,.int M,.int way,.int n,.bl wr,.unk,.int told,.int gr,.lst false (ksD ks),.int h,d10,.unk,.unk]) (m:=gr) rfl B rfl (by decide) (by lia) (by lia) λ v b' v0 v1 B'=>?_
       have e2:0<=n * v:=Int.mul_nonneg (by lia) v0;have e3:n * v<=64 * v:=Int.mul_le_mul_of_nonneg_right n2 v0;exact qa0 (a:=D.int (n * v)) (mulL (qV6 (by lia) (by lia))) (qa0 (a:=D.int (h+n * v)) rfl (hK _ ⟨b',h+n * v,rfl,B',by lia,by lia⟩))
     rintro ds ⟨b,kk,rfl,B,hkk⟩;refine if_v (b:=!decide (kk∈ks)) (Af rfl rfl qar1) (λ hb=>?_) λ hb=>hK2 _ ⟨b,ks,_,_,rfl,B,nd,hk,by lia⟩
     have hm:¬ kk∈ks:=λ z=>by rw[zAq z] at hb;cases hb
     refine qaF0 (ys:=ksD ks) (d:=.int kk) rfl rfl rfl (by decide) (by rw[qg3];unfold big;lia) ?_;rw[qN2];refine hK2 _ ⟨b,ks++[kk],_,_,rfl,B,zBi.mpr ⟨nd,(by simp),λ x hx y hy e=>hm (by rw[<- zA8.mp hy,<- e];exact hx)⟩,λ x hx=>?_,by rw[zA7];exact Nat.add_le_add_right hle 1⟩;rcases zAb.mp hx with h | h
     . exact hk x h
     rw[zA8.mp h];exact hkk
   rintro ds ⟨b,ks,d9,d10,rfl,B,nd,hk,hle⟩;rw[zAo,qg3] at hle;exact hK _ ⟨b,ks,d9,d10,rfl,B,nd,hk,by lia⟩
 rintro ds ⟨b,ks,d9,d10,rfl,B,nd,hk,hle⟩;refine qb1 [b,.int M,.int way,.int n,.bl wr,.unk,.int told,.int gr,.lst false (ksD ks),d9,d10,.lst false (prD []),.unk] (λ K hK=>hK) ?_;refine qc8 (λ ds=>∃ b ps d10 d12,ds=[b,.int M,.int way,.int n,.bl wr,.unk,.int told,.int gr,.lst false (ksD ks),d9,d10,.lst false (prD ps),d12]/\isBag ns b/\ps.map (·.1)=ks.take told.toNat/\∀ p∈ps,Am p.2) (λ K hK=>?_) ?_
 . have ec:Ee (ksD ks) none (some told)=ksD (ks.take told.toNat):=by rw[show told=((told.toNat:Nat):Int) by lia,qP1,Int.toNat_natCast];unfold ksD;rw[List.map_take]
   refine qq6 (qau1 rfl rfl rfl ec) (qa0 (a:=ksD (ks.take told.toNat)) rfl ⟨qf3 _,?_⟩);refine qd3 (λ i ds=>∃ b ps d10 d12,ds=[b,.int M,.int way,.int n,.bl wr,.unk,.int told,.int gr,.lst false (ksD ks),d9,d10,.lst false (prD ps),d12]/\isBag ns b/\ps.map (·.1)=(ks.take told.toNat).take i/\∀ p∈ps,Am p.2) _ 0 _ ⟨b,[],_,_,rfl,B,rfl,nofun⟩ ?_ ?_
   . rintro i x hx ds ⟨b,ps,d10,d12,rfl,B,hp,hq⟩ K2 hK2
     rw[zAo] at hp hK2;obtain⟨k,hi,rfl⟩:=qJ9 hx;have hil:ps.length<=64:=by have:=congrArg List.length hp;simp at this;lia
     refine ql4 (As [b,.int M,.int way,.int n,.bl wr,.unk,.int told,.int gr,.lst false (ksD ks),d9,.int k,.lst false (prD ps),d12] rfl ?_);refine qc8 (λ ds=>∃ b v,ds=[b,.int M,.int way,.int n,.bl wr,.unk,.int told,.int gr,.lst false (ksD ks),d9,.int k,.lst false (prD ps),.int v]/\isBag ns b/\Am v) (λ K hK=>?_) ?_
     . refine qf4 (qaw0 (qJ5 (qg9 ?_)))
       refine qr6 (ds:=[b,.int M,.int way,.int n,.bl wr,.unk,.int told,.int gr,.lst false (ksD ks),d9,.int k,.lst false (prD ps),d12]) (m:=n) rfl B rfl (by decide) (by lia) (by lia) λ x1 b1 a1 c1 B1=>qg9 (qG8 (x:=.int 1000000000000000000) rfl ?_)
       refine qr6 (ds:=[b1,.int M,.int way,.int n,.bl wr,.unk,.int told,.int gr,.lst false (ksD ks),d9,.int k,.lst false (prD ps),d12]) (m:=n) rfl B1 rfl (by decide) (by lia) (by lia) λ x2 b2 a2 c2 B2=>qa0 (a:=D.int (1000000000000000000 - x2)) rfl (qg9 ?_)
       refine qe3 (ds:=[b2,.int M,.int way,.int n,.bl wr,.unk,.int told,.int gr,.lst false (ksD ks),d9,.int k,.lst false (prD ps),d12]) (m:=1000000000000000000) rfl B2 rfl (by decide) (by decide) λ x3 b3 a3 c3 B3=>qd1 ⟨by show 3<=1000000;decide,?_⟩
       refine qe3 (ds:=[b3,.int M,.int way,.int n,.bl wr,.unk,.int told,.int gr,.lst false (ksD ks),d9,.int k,.lst false (prD ps),d12]) (m:=3) rfl B3 rfl (by decide) (by decide) λ x4 b4 a4 c4 B4=>?_
       obtain⟨v,ev,hv⟩:=qan8 (P:=Am) a4 c4 (x:=x1) (y:=1000000000000000000 - x2) (z:=x3) ⟨by lia,by lia⟩ ⟨by lia,by lia⟩ ⟨by lia,by lia⟩;exact qa0 ev (hK _ ⟨b4,v,rfl,B4,hv⟩)
     rintro ds ⟨b,v,rfl,B,hv⟩;refine qQ4 (ys:=prD ps) (d:=.tup [.int k,.int v]) rfl rfl (by rw[qaC0];unfold big;lia) ?_;rw[qay0];refine hK2 _ ⟨b,ps++[(k,v)],_,_,rfl,B,by rw[zBq,hp,qe8 hi];rfl,λ p hm=>?_⟩;rcases zAb.mp hm with h | h
     . exact hq p h
     rw[zA8.mp h];exact hv
   rintro ds ⟨b,ps,d10,d12,rfl,B,hp,hq⟩;rw[zAo,qg3,List.take_length] at hp;exact hK _ ⟨b,ps,d10,d12,rfl,B,hp,hq⟩
 rintro ds ⟨b,ps,d10,d12,rfl,B,hp,hq⟩;have hG:Hh ps:=⟨by have:=congrArg List.length hp;simp at this;lia,by rw[hp];exact nd.sublist (zC0 _ _),λ p hm=>⟨hk _ (List.mem_of_mem_take (by rw[<- hp];exact List.mem_map_of_mem hm)),hq p hm⟩⟩
 refine qi9 (qav2 (qav3 (qf6 (y:=.int n) rfl rfl (qf6 (y:=.bl wr) rfl rfl (qg9 (qaG2 (d:=.lst false (prD ps)) rfl (qd1 ⟨by show 3<=1000000;decide,?_⟩)))))));refine qg9 (qa0 (a:=D.lst false (ksD ks)) rfl (qd1 ⟨by show 2<=1000000;decide,?_⟩));have e:(D.lst false (prD ps)).fz=.lst true (prD ps):=congrArg (D.lst true) (qaa0 ps);rw[e];exact q b n wr ps ks B n1 n2 hG nd hk hle
theorem qao7:qa9 ["_law_plan", "_law_key"] ["_law_plan", "_law_key"] (qa3 qW3):=by walk_at "s"
def qao4:VSp:=Aw λ ds d=>∃ n wr ps k,ds=[planT n wr ps,.int k]/\1<=n/\(ps.map (·.1)).Nodup/\d=.int (qb0 n ps k)
theorem qA5(T:Txt K mg a):VFn P w K mg base 1 a.f32 a.d32 ["_law_plan", "_law_key"] qao4:=by
 refine VFn.mk2 T.d32.F qao7 (wOf [true,true]) qb2 (λ ds Q xe h=>by obtain⟨d,⟨n,wr,ps,k,e,_⟩,_⟩:=h;rw[e];exact⟨rfl,rfl⟩) (λ cdv A outer sh H E av hr=>⟨_,(Ah (At (qa5 (v2 (Ak qk9) qk8 (vget (Hf hr) (Fx (qv0 rfl) qab0.ops T.Ct (qa2 (v2 (Av qb6) Ap (vnm 0) Ae) qa7 rfl)) (vnm 1) (vnm 1) ⟨rfl,rfl,rfl,rfl⟩) (v2 (Av qb6) Ap (vnm 0) Ae))))),λ ds Q xe h=>?_⟩);obtain⟨d,⟨n,wr,ps,k,rfl,n1,nd,rfl⟩,q⟩:=h;have ed:Be (fx1 Gh) (A9 (f2 gIx (rdN 0) (kC (.int 2))) λ _=>some []) [planT n wr ps,.int k]=some (.dct false (kvD ps)):=by
   show Gh (.lst true (prD ps))=_;exact qaa6 nd
 exact qi3 _ (Af (qZ7 ed rfl) (y:=.int n) rfl (Dy (by lia))) q
theorem qd4:qa9 ["_law_plan", "_law_keys", "_law_homes", "_law_found", "_law_on", "_law_turn", "_law_room"] ["_law_plan", "_law_keys"] (qa3 qt2):=by walk_at "s"
theorem qah9{n:Int}{ps:Pr}(n1:1<=n){z:Bool}(ks:List Int)(r:Nat):gCnt (.lst z (ksD (ks.map (qb0 n ps)))) (.int (r:Nat))=some (.int (cntH (hmOf n ps) ks r:Nat)):=by
 show ((flats (ksD (ks.map (qb0 n ps)))).bind λ ws=>some (D.int (ws.countP (λ z=>eqV z (.int (r:Nat))):Nat)))=_;rw[qB9];show some (D.int (((ks.map (qb0 n ps)).map V.int).countP (λ z=>eqV z (.int (r:Nat))):Nat))=_;congr 3;unfold cntH;rw[List.countP_map,List.countP_map,List.countP_eq_length_filter];congr 1;refine List.filter_congr λ k _=>?_
 show decide (qb0 n ps k=(r:Nat))=_
 have:=qu3 (ps:=ps) n1 k
 exact decide_eq_decide.mpr (by lia)
def A7(n:Int)(ps:Pr)(ks:List Int)(m:Nat):List Int:=(List.range m).map λ r=>onI (hmOf n ps) ks (r+1)
theorem qD6{n:Int}{ps:Pr}{m:Nat}:A7 n ps ks m++[onI (hmOf n ps) ks (m+1)]=A7 n ps ks (m+1):=by
 unfold A7;rw[List.range_succ,zBq];rfl
def qR4:VSp:=Aw λ ds d=>∃ n ps z ks,ds=[planT n false ps,.lst z (ksD ks)]/\1<=n/\n<=64/\(ps.map (·.1)).Nodup/\ks.length<=200/\d=.lst false (ksD (A7 n ps ks n.toNat))
theorem qS6(T:Txt K mg a):VFn P w K mg base 2 a.f33 a.d33 ["_law_plan", "_law_keys"] qR4:=by
 refine VFn.mk2 T.d33.F qd4 (wOf [true,true]) qb2 (λ ds Q xe h=>by obtain⟨d,⟨n,ps,z,ks,e,_⟩,_⟩:=h;rw[e];exact⟨rfl,rfl⟩) (λ cdv A outer sh H E av hr=>⟨_,(Ab (scN (NY:=["_law_key", "_law_plan"]) (src:=[none,some 0]) 2 1 qd4.nd (blk (λ av C s0 H0 ex=>(Bc 0 (show (["_law_key", "_law_plan"]:List Str).Nodup by decide +kernel))) (λ av C s0 H0 ex=>Eo) (λ av C s0 H0 ex=>(Aj T.d32 (qA5 T) ql3 (rm hr) (vaN 1 (vaN 0 Ac))))))
     (Ab (Al 3 qd4.nd (qa5 (B9 qa7)))
     (Ab (Al 4 qd4.nd (qa5 Ae))
     (Ab (qR6 PassesOwn.leaving T.Ch (Dx (vaV (qa5 (v2 (Ak qg1) qg0 Ae (Fx qai4 qaM8.ops T.D2 (qa2 (v2 (Av qb6) Ap (vnm 0) Ae) qa7 rfl)))) Ac)) (Bc 5 qd4.nd)
     (Ab (Al 3 qd4.nd (qa5 (B9 qa7)))
     (Ah (qR6 PassesOwn.leaving T.Ch (Dx (vaV (qc2 (v2 (Av qb6) Ap (vnm 0) Ae)) Ac)) (Bc 6 qd4.nd)
     (Ab (Al 4 qd4.nd (qa5 (vbi (qC5 rfl) qaa8.ops T.Cv (qa2 Ae (qa2 (v2 (Ak qA2) qA1 (v2 (Ak qg1) qg0 (vnm 4) (vbm qaI5 PySem.F.plainAttrs_list PySem.F.slot_list_count PySem.F.type_list_count qar6 (vnm 2) (vnm 6) qaE5)) Ae) qa7 rfl) rfl))))
     (Ah (Bj (D9 3 qw5 PySem.F.plainAttrs_list PySem.F.slot_list_append PySem.F.type_list_append qd7 (vaV (qc2 (vnm 4)) Ac)))))))))
     (Ah (At (emv 3))))))),λ ds Q xe h=>?_⟩)
 obtain⟨d,⟨n,ps,z,ks,rfl,n1,n2,nd,hl,rfl⟩,q⟩:=h;refine As [planT n false ps,.lst z (ksD ks),.unk,.unk,.unk,.unk,.unk] rfl ?_;refine qb1 [planT n false ps,.lst z (ksD ks),.lst false (ksD (ks.map (qb0 n ps))),.unk,.unk,.unk,.unk] (λ K hK=>qf4 (qa0 (a:=D.lst z (ksD ks)) rfl (qa0 (a:=ksD ks) rfl ⟨qf3 ks,?_⟩))) ?_
 . refine qj5 (λ ι=>∃ d,ι=[d,planT n false ps]) (λ x=>some (match x with | .int k=>.int (qb0 n ps k) | d=>d)) _ [] _ (by show 0+_ < 1000000;rw[qg3];lia) ⟨_,rfl⟩ ?_ ?_
   . rintro y hy ι acc ⟨d,rfl⟩ R hR hacc
     obtain⟨k,_,rfl⟩:=zBc.mp hy;exact ql4 (qT9 (Dr rfl (qu1 (x:=planT n false ps) (y:=.int k) (d:=.int (qb0 n ps k)) rfl rfl rfl ⟨n,false,ps,k,rfl,n1,nd,rfl⟩ rfl ⟨hacc,hR [.int k,planT n false ps] ⟨_,rfl⟩⟩)))
   rintro ι ⟨d,rfl⟩;rw[zAz,qK4];have eL:((ksD ks).map λ x=>match x with | .int k=>D.int (qb0 n ps k) | d=>d)=ksD (ks.map (qb0 n ps)):=by unfold ksD;rw[zBj,zBj];rfl
   rw[eL];exact hK
 refine qb1 [planT n false ps,.lst z (ksD ks),.lst false (ksD (ks.map (qb0 n ps))),.lst false [],.unk,.unk,.unk] (λ K hK=>hK) ?_;refine qb1 [planT n false ps,.lst z (ksD ks),.lst false (ksD (ks.map (qb0 n ps))),.lst false [],.int 0,.unk,.unk] (λ K hK=>hK) ?_;refine qc8 (λ ds=>∃ d4 d5 d6,ds=[planT n false ps,.lst z (ksD ks),.lst false (ksD (ks.map (qb0 n ps))),.lst false (ksD (A7 n ps ks n.toNat)),d4,d5,d6]) (λ K hK=>?_) ?_
 . refine qO2 (n:=1) rfl rfl ?_
   refine qd3 (λ i ds=>∃ F d4 d5 d6,ds=[planT n false ps,.lst z (ksD ks),.lst false (ksD (ks.map (qb0 n ps))),.lst false F,d4,d5,d6]/\(i=0->d4=.int 0)/\(i=1->F=ksD (A7 n ps ks n.toNat))) _ 0 _ ⟨_,_,_,_,rfl,λ _=>rfl,λ h=>nomatch h⟩ ?_ ?_
   . rintro i x hx ds ⟨F,d4,d5,d6,rfl,h0,_⟩ K2 hK2
     obtain⟨hi,rfl⟩:=qR8 hx;obtain rfl:i=0:=by lia
     obtain rfl:=h0 rfl;refine ql4 (As [planT n false ps,.lst z (ksD ks),.lst false (ksD (ks.map (qb0 n ps))),.lst false F,.int 0,.int ((0:Nat):Int),d6] rfl ?_);refine qb1 [planT n false ps,.lst z (ksD ks),.lst false (ksD (ks.map (qb0 n ps))),.lst false [],.int 0,.int ((0:Nat):Int),d6] (λ K hK=>hK) ?_;refine qK3 (n:=n) rfl (qX9 (by lia) (by lia)) ?_;refine qd3 (λ i ds=>∃ d6,ds=[planT n false ps,.lst z (ksD ks),.lst false (ksD (ks.map (qb0 n ps))),.lst false (ksD (A7 n ps ks i)),.int (onI (hmOf n ps) ks i),.int ((0:Nat):Int),d6]) _ 0 _ ⟨_,rfl⟩ ?_ ?_
     . rintro i x hx ds ⟨d6,rfl⟩ K3 hK3
       rw[zAo] at hK3 ⊢;obtain⟨hi,rfl⟩:=qR8 hx;refine ql4 (As [planT n false ps,.lst z (ksD ks),.lst false (ksD (ks.map (qb0 n ps))),.lst false (ksD (A7 n ps ks i)),.int (onI (hmOf n ps) ks i),.int ((0:Nat):Int),.int (i:Nat)] rfl ?_);refine qb1 [planT n false ps,.lst z (ksD ks),.lst false (ksD (ks.map (qb0 n ps))),.lst false (ksD (A7 n ps ks i)),.int (onI (hmOf n ps) ks (i+1)),.int ((0:Nat):Int),.int (i:Nat)] (λ K hK=>qD1 ?_ hK) ?_
       . have e:=Af (g:=gSub) (y:=.int 1) (Af (g:=G0) (fa:=rdN 4) (ds:=[planT n false ps,.lst z (ksD ks),.lst false (ksD (ks.map (qb0 n ps))),.lst false (ksD (A7 n ps ks i)),.int (onI (hmOf n ps) ks i),.int ((0:Nat):Int),.int (i:Nat)]) (x:=.int (onI (hmOf n ps) ks i)) rfl (Af (g:=gCnt) (fa:=rdN 2) (fb:=rdN 6) rfl rfl (qah9 n1 ks i)) rfl) (fb:=kC (.int 1)) rfl rfl
         unfold Be A9;rw[e];rfl
       refine qan3 (ys:=ksD (A7 n ps ks i)) (d:=.int (onI (hmOf n ps) ks (i+1))) rfl rfl rfl (by rw[qg3];unfold A7 big;rw[zAa,zB9];lia) ?_;rw[qN2,qD6];exact hK3 _ ⟨_,rfl⟩
     rintro ds ⟨d6,rfl⟩;rw[zAo,qal4];exact hK2 _ ⟨_,_,_,_,rfl,λ h=>absurd h (by lia),λ _=>rfl⟩
   rintro ds ⟨F,d4,d5,d6,rfl,_,hF⟩;rw[hF rfl];exact hK _ ⟨_,_,_,rfl⟩
 rintro ds ⟨d4,d5,d6,rfl⟩;exact q
theorem qd5:qa9 ["_law_plan", "_law_keys", "_law_passing_here", "_law_begin", "_law_found", "_law_at", "_law_on", "_law_key"] ["_law_plan", "_law_keys"] (qa3 qz6):=by walk_at "s"
theorem qal0:∀ ps:List (Int×Int),(prD ps).mapM G6=some ps
 | []=>rfl
 | p::r=>by
   show List.mapM G6 (D.tup [.int p.1,.int p.2]::prD r)=_;rw[List.mapM_cons,qal0 r];rfl
theorem qM1{z:Bool}{L:Pr}{f:Int->Int}(e:L=S.map λ k=>(f k,k))(nd:S.Nodup)(hl:S.length<=64):qam5 (.lst z (prD L))=some (.lst false (prD (Dk L))):=by
 show ((prD _).mapM G6).bind _=_;rw[qal0];refine qr0 ⟨?_,by rw[e,zAa];exact hl⟩;rw[e];exact zC3.mpr (nd.imp λ h z=>h (congrArg Prod.snd z))
theorem qX1{n:Int}{ps:Pr}{z:Bool}(h:1<=n):gIx (.lst z (ksD (A7 n ps ks n.toNat))) (.int (-1))=some (.int (onI (hmOf n ps) ks n.toNat)):=by
 obtain⟨m,e⟩:∃ m,n.toNat=m+1:=⟨n.toNat - 1,by lia⟩
 rw[e,<- qD6];unfold ksD;rw[zBq];exact qau6 _ _
def qV4:VSp:=λ ds Q _=>∃ n ps z ks,ds=[planT n false ps,.lst z (ksD ks)]/\1<=n/\n<=64/\(ps.map (·.1)).Nodup/\ks.Nodup/\ks.length<=200 /\
 ((∃ q,Crowd n.toNat false (hmOf n ps) ks q)->Q .non ds)/\((∀ q,¬ Crowd n.toNat false (hmOf n ps) ks q)->∀ g,Q (.lst false (rlD n.toNat g)) ds)
theorem qX5(T:Txt K mg a):VFn P w K mg base 3 a.f34 a.d34 ["_law_plan", "_law_keys"] qV4:=by
 refine VFn.mk2 T.d34.F qd5 (wOf [true,true]) (λ ds Q Q' xe xe' hQ _ h=>by obtain⟨n,ps,z,ks,e,h1,h2,h3,h4,h5,q,q'⟩:=h;exact⟨n,ps,z,ks,e,h1,h2,h3,h4,h5,λ h=>hQ _ _ (q h),λ h g=>hQ _ _ (q' h g)⟩) (λ ds Q xe h=>by obtain⟨n,ps,z,ks,e,_⟩:=h;rw[e];exact⟨rfl,rfl⟩) (λ cdv A outer sh H E av hr=>⟨_,(Ab (sif (q2 (Au De (qb3 _)) Di (vbi qx1 qx0.ops T.Cg (qa2 (vnm 1) qa7 rfl)) (v2 (Av qb6) Ap (vnm 0) Ae))
     (Ah (At (qa5 Bh)))
     Ax)
     (Ab (Al 2 qd5.nd (Aj T.d33 (qS6 T) qa1 (rm hr) (vaN 0 (vaN 1 Ac))))
     (Ab (sif (tand (Bs (tv (v2 (Av qb6) Ap (vnm 0) Ae))) (tand1 (q2 (Au De (qb3 _)) Di (v2 (Av qb6) Ap (vnm 2) (vneg Ae)) Ae))).te
     (Ah (At (qa5 Bh)))
     Ax)
     (Ab (Al 3 qd5.nd (qa5 Ae))
     (Ab (sif (tv (v2 (Av qb6) Ap (vnm 0) Ae))
     (Ah (Al 3 qd5.nd (qa5 (v2 (Ak qg1) qg0 (vbm qaf0 PySem.F.plainAttrs_list PySem.F.slot_list_index PySem.F.type_list_index qA8 (vnm 2) Ae qN7) Ae))))
     Ax)
     (Ab (Al 4 qd5.nd (qa5 (v2 (Ak qw0) qv9 (B9 (qa2 Bh qa7 rfl)) (v2 (Av qb6) Ap (vnm 0) Ae))))
     (Ab (Al 5 qd5.nd (qa5 (vneg Ae)))
     (Ab (E4 PassesOwn.leaving (ebi qF5 qaa7.ops T.Cr (Dx (vaV (ecN (NY:=["_law_key", "_law_begin", "_law_plan"]) (src:=[none,some 3,some 0]) 1 (blk (λ av C s0 H0 ex=>(Bc 0 (show (["_law_key", "_law_begin", "_law_plan"]:List Str).Nodup by decide +kernel))) (λ av C s0 H0 ex=>Eo) (λ av C s0 H0 ex=>(G4 (vaV (e2v (Ak qk9) qk8 (e2v (Ak qA2) qA1 (Aj T.d32 (qA5 T) ql3 (rm hr) (vaN 2 (vaN 0 Ac))) (vnm 1)) (v2 (Av qb6) Ap (vnm 2) Ae)) (vaV (qc2 (vnm 0)) Ac)))))) Ac))) (Gm (n:=2) rfl (qE9 (Bc 6 qd5.nd) (qE9 (Bc 7 qd5.nd) Gk)))
     (Ab (Al 5 qd5.nd (qa5 (vbi (qC5 rfl) qaa8.ops T.Cv (qa2 (v2 (Ak qg1) qg0 (vnm 5) Ae) (qa2 (vnm 6) qa7 rfl) rfl))))
     (Ah (Ew (qc2 (vnm 7)) (Dp (vpn 4) (v2 (Ak qk9) qk8 (v2 (Ak qg1) qg0 (vnm 3) (vnm 5)) (v2 (Av qb6) Ap (vnm 0) Ae)))))))
     (Ah (At (emv 4))))))))))),λ ds Q xe h=>?_⟩)
 obtain⟨n,ps,z,ks,rfl,n1,n2,nd,ndk,hl,q,q'⟩:=h;have oc:=qaf2 (T:=ks) (B8 (ps:=ps) n1);refine As [planT n false ps,.lst z (ksD ks),.unk,.unk,.unk,.unk,.unk,.unk] rfl ?_;refine qE4 (decide (n < (ks.length:Int))) (Af (qB1 rfl) (y:=.int n) rfl (by rw[qg3];rfl)) (λ h=>qi3 .non rfl (q ⟨0,by lia,?_⟩)) λ h=>?_
 . rw[if_neg (by decide),List.filter_eq_self.mpr λ _ _=>zAq (zBt _)]
   have:=zAf h
   lia
 have hle:ks.length<=64:=by have:=zBy h;lia
 refine qb1 [planT n false ps,.lst z (ksD ks),.lst false (ksD (A7 n ps ks n.toNat)),.unk,.unk,.unk,.unk,.unk] (λ K hK=>qf4 (qu1 (x:=planT n false ps) (y:=.lst z (ksD ks)) rfl rfl rfl ⟨n,ps,z,ks,rfl,n1,n2,nd,hl,rfl⟩ rfl hK)) ?_;refine qu2 (decide (0 < onI (hmOf n ps) ks n.toNat)) (λ Q q=>qU6 true (decide (0 < onI (hmOf n ps) ks n.toNat)) (λ Q q=>qy6 (b:=false) rfl q) (λ _ Q q=>qq2 (Af (Af rfl rfl (qX1 n1)) rfl rfl) q) q) (λ h=>qi3 .non rfl (q (oc.mp (zAf h)))) λ h=>?_
 have nc:∀ q,¬ Crowd n.toNat false (hmOf n ps) ks q:=λ q c=>zBy h (oc.mpr ⟨q,c⟩)
 refine qb1 [planT n false ps,.lst z (ksD ks),.lst false (ksD (A7 n ps ks n.toNat)),.int 0,.unk,.unk,.unk,.unk] (λ K hK=>hK) ?_;refine qb1 [planT n false ps,.lst z (ksD ks),.lst false (ksD (A7 n ps ks n.toNat)),.int 0,.unk,.unk,.unk,.unk] (λ K hK=>if_v (b:=false) rfl (λ h=>nomatch h) λ _=>hK) ?_;refine qb1 [planT n false ps,.lst z (ksD ks),.lst false (ksD (A7 n ps ks n.toNat)),.int 0,.lst false (rlD n.toNat λ _=>none),.unk,.unk,.unk] (λ K hK=>qD1 (Af rfl (y:=.int n) rfl (qX8 (by lia) n2)) hK) ?_;refine qb1 [planT n false ps,.lst z (ksD ks),.lst false (ksD (A7 n ps ks n.toNat)),.int 0,.lst false (rlD n.toNat λ _=>none),.int (-1),.unk,.unk] (λ K hK=>hK) ?_;refine qc8 (λ ds=>∃ g d5 d6 d7,ds=[planT n false ps,.lst z (ksD ks),.lst false (ksD (A7 n ps ks n.toNat)),.int 0,.lst false (rlD n.toNat g),d5,d6,d7]) (λ K hK=>?_) ?_
 . refine Gr (qg9 (qa0 (a:=D.lst z (ksD ks)) rfl (qa0 (a:=ksD ks) rfl ⟨qf3 ks,?_⟩)))
   refine qj5 (λ ι=>∃ d,ι=[d,.int 0,planT n false ps]) (λ x=>some (match x with | .int k=>.tup [.int ((qb0 n ps k - 0) % n),.int k] | d=>d)) _ [] _ (by show 0+_ < 1000000;rw[qg3];lia) ⟨_,rfl⟩ ?_ ?_
   . rintro y hy ι acc ⟨d,rfl⟩ R hR hacc
     obtain⟨k,_,rfl⟩:=zBc.mp hy;have this:=hR [.int k,.int 0,planT n false ps] ⟨_,rfl⟩;refine ql4 (qT9 (Dr rfl (qg9 (qV2 (qV2 (qu1 (x:=planT n false ps) (y:=.int k) (d:=.int (qb0 n ps k)) rfl rfl rfl ⟨n,false,ps,k,rfl,n1,nd,rfl⟩ rfl ?_))))));exact qa0 (a:=D.int (qb0 n ps k - 0)) rfl (qa0 (a:=D.int ((qb0 n ps k - 0) % n)) (Dy (by lia)) (qf6 (y:=.int k) rfl rfl (qd1 ⟨by show 2<=1000000;decide,hacc,this⟩)))
   rintro ι ⟨d,rfl⟩;rw[zAz,qK4];have eL:((ksD ks).map λ x=>match x with | .int k=>D.tup [.int ((qb0 n ps k - 0) % n),.int k] | d=>d)=prD (ks.map λ k=>((qb0 n ps k - 0) % n,k)):=by
     unfold ksD prD;rw[zBj,zBj];rfl
   rw[eL];generalize hL:Dk (ks.map λ k=>((qb0 n ps k - 0) % n,k))=L;refine qd1 (qa0 (a:=D.lst false (prD L)) (by rw[<- hL];exact qM1 (z:=false) rfl ndk hle) (qa0 (a:=prD L) rfl ⟨qy3 L,?_⟩));refine qd3 (λ i ds=>∃ g at' d6 d7,ds=[planT n false ps,.lst z (ksD ks),.lst false (ksD (A7 n ps ks n.toNat)),.int 0,.lst false (rlD n.toNat g),.int at',d6,d7]) _ 0 _ ⟨_,_,_,_,rfl⟩ ?_ ?_
   . rintro i y hy ds ⟨g,at',d6,d7,rfl⟩ K2 hK2
     unfold prD at hy;rw[zB8] at hy;obtain⟨⟨h0,k⟩,hp,rfl⟩:=zAe.mp hy;refine qB6 (As [planT n false ps,.lst z (ksD ks),.lst false (ksD (A7 n ps ks n.toNat)),.int 0,.lst false (rlD n.toNat g),.int at',.int h0,.int k] rfl ?_);refine qc8 (λ ds=>∃ at',ds=[planT n false ps,.lst z (ksD ks),.lst false (ksD (A7 n ps ks n.toNat)),.int 0,.lst false (rlD n.toNat g),.int at',.int h0,.int k]) (λ K hK=>qD1 rfl (hK _ ⟨_,rfl⟩)) ?_;rintro ds ⟨at',rfl⟩;have m0:0<=(0+at') % n:=zCd _ (by lia);have m1:(0+at') % n < n:=zBx _ (by lia);refine qC7 (ys:=rlD n.toNat g) (d:=.int k) (k:=(((0+at') % n).toNat:Nat)) rfl rfl rfl (Af (x:=.int (0+at')) (y:=.int n) rfl rfl (by rw[Dy (by lia)];congr 2;lia)) (qT1 (by lia)) ?_;rw[qz1];exact hK2 _ ⟨_,_,_,_,rfl⟩
   rintro ds ⟨g,at',d6,d7,rfl⟩;exact hK _ ⟨g,_,_,_,rfl⟩
 rintro ds ⟨g,d5,d6,d7,rfl⟩;exact q' nc g
theorem qo0:qa9 ["_law_plan", "_law_keys", "_law_found", "_law_key"] ["_law_plan", "_law_keys"] (qa3 qt3):=by walk_at "s"
def qR5:VSp:=λ ds Q _=>∃ n ps z ks,ds=[planT n false ps,.lst z (ksD ks)]/\1<=n/\n<=64/\(ps.map (·.1)).Nodup/\ks.Nodup/\ks.length<=100 /\
 ∀ S,S.Sublist ks->(∀ q,¬ Crowd n.toNat false (hmOf n ps) S q)->Q (.lst false (ksD S)) ds
theorem qS7(T:Txt K mg a):VFn P w K mg base 4 a.f37 a.d37 ["_law_plan", "_law_keys"] qR5:=by
 refine VFn.mk2 T.d37.F qo0 (wOf [true,true]) (λ ds Q Q' xe xe' hQ _ h=>by obtain⟨n,ps,z,ks,e,h1,h2,h3,h4,h5,q⟩:=h;exact⟨n,ps,z,ks,e,h1,h2,h3,h4,h5,λ S h h'=>hQ _ _ (q S h h')⟩) (λ ds Q xe h=>by obtain⟨n,ps,z,ks,e,_⟩:=h;rw[e];exact⟨rfl,rfl⟩) (λ cdv A outer sh H E av hr=>⟨_,(Ab (Al 2 qo0.nd (qa5 (B9 qa7)))
     (Ab (sforP PassesOwn.leaving (vpn 1) (Bc 3 qo0.nd)
     (Ah (sif (q2v (Ba qo7 (qb3 _)) (Au qo7 (qb3 _)) qt6 (Aj T.d34 (qX5 T) qa1 (rm hr) (vaN 0 (vaV (qa5 (v2 (Ak qg1) qg0 (vnm 2) (B9 (qa2 (vnm 3) qa7 rfl)))) Ac))) Bh)
     (Ah (Bj (D9 2 qw5 PySem.F.plainAttrs_list PySem.F.slot_list_append PySem.F.type_list_append qd7 (vaN 3 Ac))))
     Ax)))
     (Ah (At (emv 2))))),λ ds Q xe h=>?_⟩)
 obtain⟨n,ps,z,ks,rfl,n1,n2,nd,ndk,hl,q⟩:=h;refine As [planT n false ps,.lst z (ksD ks),.unk,.unk] rfl ?_;refine qb1 [planT n false ps,.lst z (ksD ks),.lst false (ksD []),.unk] (λ K hK=>hK) ?_;refine qc8 (λ ds=>∃ S d3,ds=[planT n false ps,.lst z (ksD ks),.lst false (ksD S),d3]/\S.Sublist ks/\∀ q,¬ Crowd n.toNat false (hmOf n ps) S q) (λ K hK=>?_) ?_
 . refine qa0 (a:=(1,[])) rfl (qa0 (a:=D.lst z (ksD ks)) rfl (qa0 (a:=ksD ks) rfl ⟨qf3 ks,λ w=>?_⟩))
   refine qd3 (λ i ds=>∃ S d3,ds=[planT n false ps,.hole w,.lst false (ksD S),d3]/\S.Sublist (ks.take i)/\∀ q,¬ Crowd n.toNat false (hmOf n ps) S q) _ 0 _ ⟨[],_,rfl,.slnil,λ q=>(Kept.none (by lia) (B8 n1)).no_crowd q⟩ ?_ ?_
   . rintro i y hy ds ⟨S,d3,rfl,hsub,nc⟩ K2 hK2
     rw[zAo] at hsub hK2;obtain⟨k,hi,rfl⟩:=qJ9 hy;have nin:¬ k∈S:=λ z=>ql1 ndk hi (hsub.subset z)
     have ndS:S.Nodup:=ndk.sublist (hsub.trans (zC0 _ _));have hlen:S.length<=100:=zAn (hsub.trans (zC0 _ _)).length_le hl;refine ql4 (As [planT n false ps,.hole w,.lst false (ksD S),.int k] rfl ?_);refine qae4 (qk5 (qb9 (x:=planT n false ps) rfl (qe0 (y:=.lst false (ksD (S++[k]))) (Af (x:=.lst false (ksD S)) (y:=.lst false (ksD [k])) rfl rfl (qau7 (by show _+1<=1000;lia))) (qd1 (qa0 (a:=planT n false ps) rfl ?_)))));refine⟨n,ps,false,S++[k],rfl,n1,n2,nd,zBi.mpr ⟨ndS,(by simp),λ x hx y hy e=>nin (by rw[<- zA8.mp hy,<- e];exact hx)⟩,by rw[zA7];show _+1<=200;lia,λ _=>?_,λ nc' g=>?_⟩
     . refine qa0 (a:=[planT n false ps,.hole w,.lst false (ksD S),.int k]) rfl (qa0 (a:=D.bl false) rfl (qa0 (a:=false) rfl (Dt (by decide) (hK2 _ ⟨S,_,rfl,hsub.trans ?_,nc⟩))))
       rw[qe8 hi];exact zB7 _ _
     refine qa0 (a:=[planT n false ps,.hole w,.lst false (ksD S),.int k]) rfl (qa0 (a:=D.bl true) rfl (qa0 (a:=true) rfl (Dr rfl ?_)));refine qaF0 (ys:=ksD S) (d:=.int k) rfl rfl rfl (by decide) (by rw[qg3];unfold big;lia) ?_;rw[qN2];refine hK2 _ ⟨S++[k],_,rfl,?_,nc'⟩;rw[qe8 hi];exact hsub.append (List.Sublist.refl _)
   rintro ds ⟨S,d3,rfl,hsub,nc⟩;rw[zAo,qg3,List.take_length] at hsub;exact qa0 (qan0 rfl) (hK _ ⟨S,d3,rfl,hsub,nc⟩)
 rintro ds ⟨S,d3,rfl,hsub,nc⟩;exact q S hsub nc
theorem qae1:qa9 ["_law_plan", "_law_keys"] ["_law_plan", "_law_keys"] (qa3 qI4):=by walk_at "s"
def Ep(n:Int)(ps:Pr)(ks:List Int):List Int:=(Dk (ks.map λ k=>(qb0 n ps k,k))).map (·.2)
theorem qm4{n:Int}{ps:Pr}:(Ep n ps ks).Perm ks:=by
 have h:(Ep n ps ks).Perm ((ks.map λ k=>(qb0 n ps k,k)).map (·.2)):=(List.mergeSort_perm _ _).map _;rw[zBj] at h;have e:ks.map ((·.2) ∘ λ k=>(qb0 n ps k,k))=ks:=List.map_id ks;rwa[e] at h
theorem qak8{n:Int}{ps:Pr}(n1:1<=n)(nd:ks.Nodup):(Ep n ps ks).Pairwise (B7 (hmOf n ps)):=by
 have ndO:(Ep n ps ks).Nodup:=qm4.nodup_iff.mpr nd;have fst:∀ p∈Dk (ks.map λ k=>(qb0 n ps k,k)),p.1=qb0 n ps p.2:=λ p hp=>by
   rw[List.mem_mergeSort] at hp;obtain⟨k,_,rfl⟩:=zBc.mp hp;rfl
 unfold Ep at ndO ⊢;unfold List.Nodup at ndO;rw[zC3] at ndO ⊢;refine((qV5 _).and ndO).imp_of_mem λ{p q} hp hq h=>?_
 have h1:=fst p hp;have h2:=fst q hq;have h3:=qu3 (ps:=ps) n1 p.2;have h4:=qu3 (ps:=ps) n1 q.2;have h5:=h.1;simp only[S6.plt,decide_eq_false_iff_not] at h5;have h6:=h.2;unfold B7;lia
def qad5:VSp:=Aw λ ds d=>∃ n wr ps z ks,ds=[planT n wr ps,.lst z (ksD ks)]/\1<=n/\(ps.map (·.1)).Nodup/\ks.Nodup/\ks.length<=64/\d=.lst false (ksD (Ep n ps ks))
theorem qA3(T:Txt K mg a):VFn P w K mg base 2 a.f38 a.d38 ["_law_plan", "_law_keys"] qad5:=by
 refine VFn.mk2 T.d38.F qae1 (wOf [true,true]) qb2 (λ ds Q xe h=>by obtain⟨d,⟨n,wr,ps,z,ks,e,_⟩,_⟩:=h;rw[e];exact⟨rfl,rfl⟩) (λ cdv A outer sh H E av hr=>⟨_,(Ah (At (ecL (NY:=["_law_home_here", "_law_key"]) (src:=[none,none]) (ebi qF5 qaa7.ops T.Cr (Dx (vaV (ecN (NY:=["_law_key", "_law_plan"]) (src:=[none,some 0]) 1 (blk (λ av C s0 H0 ex=>(Bc 0 (show (["_law_key", "_law_plan"]:List Str).Nodup by decide +kernel))) (λ av C s0 H0 ex=>Eo) (λ av C s0 H0 ex=>(G4 (vaV (Aj T.d32 (qA5 T) ql3 (rm hr) (vaN 1 (vaN 0 Ac))) (vaV (qc2 (vnm 0)) Ac)))))) Ac))) (blk (λ av C s0 H0 ex=>(Gm (n:=2) rfl (qE9 (Bc 0 (show (["_law_home_here", "_law_key"]:List Str).Nodup by decide +kernel)) (qE9 (Bc 1 (show (["_law_home_here", "_law_key"]:List Str).Nodup by decide +kernel)) Gk)))) (λ av C s0 H0 ex=>Eo) (λ av C s0 H0 ex=>(qc2 (vnm 1))))))),λ ds Q xe h=>?_⟩);obtain⟨d,⟨n,wr,ps,z,ks,rfl,n1,nd,ndk,hle,rfl⟩,q⟩:=h;refine As [planT n wr ps,.lst z (ksD ks)] rfl ?_;refine qi9 (Gr (qg9 (qa0 (a:=D.lst z (ksD ks)) rfl (qa0 (a:=ksD ks) rfl ⟨qf3 ks,?_⟩))));refine qj5 (λ ι=>∃ d,ι=[d,planT n wr ps]) (λ x=>some (match x with | .int k=>.tup [.int (qb0 n ps k),.int k] | d=>d)) _ [] _ (by show 0+_ < 1000000;rw[qg3];lia) ⟨_,rfl⟩ ?_ ?_
 . rintro y hy ι acc ⟨d,rfl⟩ R hR hacc
   obtain⟨k,_,rfl⟩:=zBc.mp hy;have this:=hR [.int k,planT n wr ps] ⟨_,rfl⟩;refine ql4 (qT9 (Dr rfl (qg9 (qu1 (x:=planT n wr ps) (y:=.int k) (d:=.int (qb0 n ps k)) rfl rfl rfl ⟨n,wr,ps,k,rfl,n1,nd,rfl⟩ rfl ?_))));exact qf6 (y:=.int k) rfl rfl (qd1 ⟨by show 2<=1000000;decide,hacc,this⟩)
 rintro ι ⟨d,rfl⟩;rw[zAz,qK4];have eL:((ksD ks).map λ x=>match x with | .int k=>D.tup [.int (qb0 n ps k),.int k] | d=>d)=prD (ks.map λ k=>(qb0 n ps k,k)):=by
   unfold ksD prD;rw[zBj,zBj];rfl
 rw[eL];unfold Ep at q;generalize hL:Dk (ks.map λ k=>(qb0 n ps k,k))=L at q;refine qd1 (qa0 (a:=D.lst false (prD L)) (by rw[<- hL];exact qM1 (z:=false) rfl ndk hle) (qa0 (a:=prD L) rfl ⟨qy3 L,?_⟩));refine qj5 (λ ι=>∃ d d',ι=[d,d']) (λ x=>some (match x with | .tup [_,d]=>d | d=>d)) _ [] _ (by show 0+(prD L).length < 1000000;unfold prD;rw[zAa,<- hL,List.length_mergeSort,zAa];lia) ⟨_,_,rfl⟩ ?_ ?_
 . rintro y hy ι acc ⟨d,d',rfl⟩ R hR hacc
   obtain⟨p,_,rfl⟩:=zBc.mp hy;exact qB6 (qT9 (Dr rfl (qT2 (d:=.int p.2) rfl rfl ⟨hacc,hR _ ⟨_,_,rfl⟩⟩)))
 rintro ι ⟨d,d',rfl⟩;rw[zAz,qK4];have e2:((prD L).map λ x=>match x with | .tup [_,d]=>d | d=>d)=ksD (L.map (·.2)):=by
   unfold ksD prD;rw[zBj,zBj];rfl
 rw[e2];exact q
theorem qz2:qa9 ["plan", "room"] ["plan", "room"] (qa3 qi7):=by walk_at "s"
def ql9(C:Addr):VSp:=Aw λ ds d=>∃ z n wr ps r,ds=[Aa z C n wr ps,.int r]/\d=(if r < n - 1 then .int (r+1) else if wr=true then .int 0 else .non)
theorem qm5(T:Txt K mg a):VFn P w K mg base 1 a.f21 a.d21 ["plan", "room"] (ql9 a.C3):=by
 refine VFn.mk2 T.d21.F qz2 (wOf [true,true]) qb2 (λ ds Q xe h=>by obtain⟨d,⟨z,n,wr,ps,r,e,_⟩,_⟩:=h;rw[e];exact⟨rfl,rfl⟩) (λ cdv A outer sh H E av hr=>⟨_,(Ab (sif (q2 (Au Ha (qb3 _)) Hj (vnm 1) (v2 (Ak qA2) qA1 (Bo rfl (vnm 0) T.C5.cl T.C6) Ae))
     (Ah (At (qa5 (v2 (Ak qg1) qg0 (vnm 1) Ae))))
     Ax)
     (Ah (At (eif (tv (Bo rfl (vnm 0) T.C5.cl T.Cd)) (qa5 Ae) (qa5 Bh))))),λ ds Q xe h=>?_⟩)
 obtain⟨d,⟨z,n,wr,ps,r,rfl,rfl⟩,q⟩:=h;refine As [Aa z a.C3 n wr ps,.int r] rfl ?_;refine qE4 (decide (r < n - 1)) (Af rfl (Af (Bb rfl qd8) rfl rfl) rfl) (λ h=>?_) λ h=>?_
 . rw[if_pos (zAf h)] at q
   exact qi3 (.int (r+1)) rfl q
 rw[if_neg (zBy h)] at q;refine qi9 (Gq (b:=wr) (Bb rfl qB8) (λ h=>?_) (λ h=>?_))
 . rw[if_pos h] at q
   exact qq6 (d:=.int 0) rfl q
 rw[if_neg (by rw[h];decide)] at q;exact q
theorem qs2:qa9 ["plan", "rooms", "room"] ["plan", "rooms", "room"] (qa3 qg6):=by walk_at "s"
def qr8(C:Addr):VSp:=Aw λ ds d=>∃ z n wr ps z' g x,ds=[Aa z C n wr ps,.lst z' (rlD n.toNat g),x]/\1<=n/\(x=.non/\d=.bl false∨∃ r:Nat,r < n.toNat/\x=.int (r:Nat)/\(g r=none/\d=.bl false∨∃ k,g r=some k/\Am k/\(wr=false->hmOf n ps k<=r)/\d=.bl (decide (0 < Ad n.toNat (hmOf n ps k) r))))
theorem qt7(T:Txt K mg a):VFn P w K mg base 6 a.f22 a.d22 ["plan", "rooms", "room"] (qr8 a.C3):=by
 refine VFn.mk2 T.d22.F qs2 (wOf [true,true,true]) qb2 (λ ds Q xe h=>by obtain⟨d,⟨z,n,wr,ps,z',g,x,e,_⟩,_⟩:=h;rw[e];exact⟨rfl,rfl⟩) (λ cdv A outer sh H E av hr=>⟨_,(Ah (At (Fn (qa5 (v2 (Ba qo7 (qb3 _)) qt6 (vnm 2) Bh)) (Fn (qa5 (v2 (Ba qo7 (qb3 _)) qt6 (v2 (Av qb6) Ap (vnm 1) (vnm 2)) Bh)) (Hn (e2v (Ba De (qb3 _)) Di (qh0 0 T.d10 T.C5.cl (qj7 T) qa1 (rm hr) (vaV (qc2 (v2 (Av qb6) Ap (vnm 1) (vnm 2))) (vaN 2 Ac))) Ae)))))),λ ds Q xe h=>?_⟩);obtain⟨d,⟨z,n,wr,ps,z',g,x,rfl,n1,h⟩,q⟩:=h;refine As [Aa z a.C3 n wr ps,.lst z' (rlD n.toNat g),x] rfl ?_;rcases h with⟨rfl,rfl⟩ | ⟨r,hr,rfl,h⟩
 . exact qi9 (E6 false rfl (λ h=>(nomatch h)) λ _=>q)
 rcases h with⟨hg,rfl⟩ | ⟨k,hg,hk,hl,rfl⟩
 . exact qi9 (E6 true rfl (λ _=>E6 false (Af (Af rfl rfl (Eb hr)) rfl (by rw[hg];rfl)) (λ h=>(nomatch h)) λ _=>q) λ h=>(nomatch h))
 refine qi9 (E6 true rfl (λ _=>E6 true (Af (Af rfl rfl (Eb hr)) rfl (by rw[hg];rfl)) (λ _=>qV2 ?_) λ h=>(nomatch h)) λ h=>(nomatch h));refine qE2 (p:=Aa z a.C3 n wr ps) rfl (qi0 rfl) (qf6 (y:=.int k) (Af rfl rfl (by rw[Eb hr,hg];rfl)) rfl (qb9 (x:=.int (r:Nat)) rfl (qd1 (qa0 (a:=D.int (r:Nat)) rfl (qa0 (a:=Aa z a.C3 n wr ps) rfl ⟨_,⟨z,n,wr,ps,k,(r:Nat),rfl,n1,hk,by lia,by lia,rfl⟩,?_⟩)))));rw[qaa3 n1 hr hl];refine qa0 (a:=[Aa z a.C3 n wr ps,.lst z' (rlD n.toNat g),.int (r:Nat)]) rfl ?_;refine qa0 (a:=D.bl (decide (0 < ((Ad n.toNat (hmOf n ps k) r:Nat):Int)))) rfl ?_;rw[decide_eq_decide.mpr (show (0 < ((Ad n.toNat (hmOf n ps k) r:Nat):Int))↔0 < Ad n.toNat (hmOf n ps k) r by lia)];exact q
theorem qf7:qa9 ["plan", "rooms", "room", "came", "behind"] ["plan", "rooms", "room"] (qa3 qo3):=by walk_at "s"
def qq0(N:Nat)(wr:Bool)(p:Nat):D:=if p+1 < N then .int (p+1:Nat) else if wr=true then .int 0 else .non
theorem qai6{n:Int}{wr:Bool}{p:Nat}(n1:1<=n)(hp:p < n.toNat):(if ((p:Nat):Int) < n - 1 then D.int (((p:Nat):Int)+1) else if wr=true then D.int 0 else D.non)=qq0 n.toNat wr p:=by
 unfold qq0;by_cases h:p+1 < n.toNat
 . rw[if_pos (by lia),if_pos h];rfl
 rw[if_neg (by lia),if_neg h]
theorem qT7{wr:Bool}{p:Nat}(hp:p < N):qq0 N wr p=.int (Row.next N p:Nat)∨(qq0 N wr p=.non/\wr=false/\p+1=N):=by
 unfold qq0;have h:=nor N p;by_cases e:p+1 < N
 . rw[if_pos e];exact .inl (by rw[show Row.next N p=p+1 by lia])
 rw[if_neg e];cases wr with
 | true=>exact .inl (by rw[if_pos rfl,show Row.next N p=0 by lia];rfl)
 | false=>exact .inr ⟨rfl,rfl,by lia⟩
def qH1(C:Addr):VSp:=λ ds Q _=>∃ z n wr ps g S k r,ds=[Aa z C n wr ps,.lst false (rlD n.toNat g),.int (r:Nat)]/\1<=n/\n<=64/\(∀ x∈S,Am x)/\Kept n.toNat wr (hmOf n ps) g S/\r < n.toNat/\g r=some k /\
 ∀ came g',Kept n.toNat wr (hmOf n ps) g' (S.filter λ x=>decide (x≠k))->Q (.lst false came) [Aa z C n wr ps,.lst false (rlD n.toNat g'),.int (r:Nat)]
theorem qJ2(T:Txt K mg a):VFn P w K mg base 7 a.f23 a.d23 ["plan", "rooms", "room"] (qH1 a.C3):=by
 refine VFn.mk2 T.d23.F qf7 (wOf [true,true,false]) (λ ds Q Q' xe xe' hQ _ h=>by obtain⟨z,n,wr,ps,g,S,k,r,e,h1,h2,h3,h4,h5,h6,q⟩:=h;exact⟨z,n,wr,ps,g,S,k,r,e,h1,h2,h3,h4,h5,h6,λ c g' K=>hQ _ _ (q c g' K)⟩) (λ ds Q xe h=>by obtain⟨z,n,wr,ps,g,S,k,r,e,_⟩:=h;rw[e];exact⟨rfl,rfl⟩) (λ cdv A outer sh H E av hr=>⟨_,(Ab (Al 3 qf7.nd (qa5 (B9 qa7)))
     (Ab (Ew (qa5 Bh) (Dp (vpn 1) (vnm 2)))
     (Ab (Al 4 qf7.nd (Aj T.d21 (qm5 T) qa1 (rm hr) (vaN 0 (vaN 2 Ac))))
     (Ab (qaj1 PassesOwn.leaving (te (Aj T.d22 (qt7 T) qa1 (rm hr) (vaN 0 (vaN 1 (vaN 4 Ac)))))
     (Ab (Bj (D9 3 qw5 PySem.F.plainAttrs_list PySem.F.slot_list_append PySem.F.type_list_append qd7 (vaV (qa5 (Eu (qa2 (v2 (Av qb6) Ap (vnm 1) (vnm 4)) (qa2 (vnm 2) qa7 rfl) rfl))) Ac)))
     (Ab (Ew (qc2 (v2 (Av qb6) Ap (vnm 1) (vnm 4))) (Dp (vpn 1) (vnm 2)))
     (Ab (Ew (qa5 Bh) (Dp (vpn 1) (vnm 4)))
     (Ab (Al 2 qf7.nd (qc2 (vnm 4)))
     (Ah (Al 4 qf7.nd (Aj T.d21 (qm5 T) qa1 (rm hr) (vaN 0 (vaN 2 Ac))))))))))
     (Ah (At (emv 3))))))),λ ds Q xe h=>?_⟩)
 obtain⟨z,n,wr,ps,g,S,k,r,rfl,n1,n2,hS,KP,hr,hk,q⟩:=h;refine As [Aa z a.C3 n wr ps,.lst false (rlD n.toNat g),.int (r:Nat),.unk,.unk] rfl ?_;refine qb1 [Aa z a.C3 n wr ps,.lst false (rlD n.toNat g),.int (r:Nat),.lst false [],.unk] (λ K hK=>hK) ?_;have e0:rlD n.toNat (λ j=>if j=r then none else g j)=rlD n.toNat (An n.toNat g r 0):=qM5 λ i hi=>(qs0 hr hi).symm
 refine qb1 [Aa z a.C3 n wr ps,.lst false (rlD n.toNat (An n.toNat g r 0)),.int (rot n.toNat r 0:Nat),.lst false [],.unk] (λ K hK=>?_) ?_
 . refine qM0 (d:=.non) (ys:=rlD n.toNat g) rfl rfl rfl (qT1 hr) ?_
   rw[show (rlD n.toNat g).set r .non=rlD n.toNat (λ j=>if j=r then none else g j) from qV9 (o:=none),e0];rw[qW5 hr] at hK;exact hK
 have bh:∀(J:Nat)(K:Ds->Prop)(xe:XKd)(d3 d4:D),J < n.toNat->K [Aa z a.C3 n wr ps,.lst false (rlD n.toNat (An n.toNat g r J)),.int (rot n.toNat r J:Nat),d3,qq0 n.toNat wr (rot n.toNat r J)]->qi6 (ql9 a.C3) [] (tbN 0 (tbN 2 A5)) [Aa z a.C3 n wr ps,.lst false (rlD n.toNat (An n.toNat g r J)),.int (rot n.toNat r J:Nat),d3,d4] (λ d ds'=>K (ds'.set 4 d)) xe:=λ J K xe d3 d4 hJ hK =>
   qu1 (x:=Aa z a.C3 n wr ps) (y:=.int (rot n.toNat r J:Nat)) rfl rfl rfl ⟨z,n,wr,ps,_,rfl,(qai6 n1 (qW6 hr hJ)).symm⟩ rfl hK
 refine qb1 [Aa z a.C3 n wr ps,.lst false (rlD n.toNat (An n.toNat g r 0)),.int (rot n.toNat r 0:Nat),.lst false [],qq0 n.toNat wr (rot n.toNat r 0)] (λ K hK=>qf4 (bh 0 _ _ _ _ (by lia) hK)) ?_;refine qc8 (λ ds=>∃ J came d4,ds=[Aa z a.C3 n wr ps,.lst false (rlD n.toNat (An n.toNat g r J)),.int (rot n.toNat r J:Nat),.lst false came,d4]/\Sh n.toNat (hmOf n ps) g r J/\Stop n.toNat wr (hmOf n ps) g r J) (λ K hK=>?_) ?_
 . refine qU0 (λ m ds=>∃ J came,ds=[Aa z a.C3 n wr ps,.lst false (rlD n.toNat (An n.toNat g r J)),.int (rot n.toNat r J:Nat),.lst false came,qq0 n.toNat wr (rot n.toNat r J)]/\Sh n.toNat (hmOf n ps) g r J/\came.length=J/\m+J=n.toNat) n.toNat ⟨0,[],rfl,Sh.start hr,rfl,by lia⟩ ?_
   rintro m ds ⟨J,came,rfl,sh,hc,hm⟩ K2 hK2;have hJ:=sh.hJ;have hp:=qW6 hr hJ;rcases qT7 (wr:=wr) hp with hb | ⟨hb,hw,hl⟩
   . have hx:=Row.qi4 hp
     have dec:∀ x,An n.toNat g r J (Row.next n.toNat (rot n.toNat r J))=some x->0 < Ad n.toNat (hmOf n ps x) (Row.next n.toNat (rot n.toNat r J))->J+1 < n.toNat/\g (rot n.toNat r (J+1))=some x:=λ x hx hd=>by
       by_cases hJ1:J+1 < n.toNat
       . rw[qt8 hr hJ1,qs1 hr hJ1] at hx
         exact⟨hJ1,hx⟩
       rw[qp4 hr (by lia)] at hx hd;by_cases h0:0 < J
       . rw[qx2 hr h0] at hx
         have:=sh.round KP.o KP.c hr hk (by lia) hx h0
         lia
       have hz:J=0:=by lia
       subst hz;rw[qs0 hr hr,if_pos rfl] at hx;cases hx
     have num:∀ x,An n.toNat g r J (Row.next n.toNat (rot n.toNat r J))=some x->Am x/\(wr=false->hmOf n ps x<=Row.next n.toNat (rot n.toNat r J)):=λ x hx=>by
       by_cases hJ1:J+1 < n.toNat
       . have e:=qt8 hr hJ1
         rw[e,qs1 hr hJ1] at hx;exact⟨hS x ((KP.h.2 x).mpr ⟨_,qW6 hr hJ1,hx⟩),λ hw=>by rw[e];exact KP.ln hw _ x (qW6 hr hJ1) hx⟩
       have e:=qp4 hr (show J+1=n.toNat by lia);rw[e] at hx ⊢;by_cases h0:0 < J
       . rw[qx2 hr h0] at hx
         have hd:=sh.round KP.o KP.c hr hk (by lia) hx h0;exact⟨hS x ((KP.h.2 x).mpr ⟨_,Row.qi4 hr,hx⟩),λ _=>by rw[(qb7 (B8 n1 x) hr).mp hd];exact zA2 _⟩
       have hz:J=0:=by lia
       subst hz;rw[qs0 hr hr,if_pos rfl] at hx;cases hx
     generalize hnx:Row.next n.toNat (rot n.toNat r J)=nx at hx dec num hb;rw[hb];cases hg:An n.toNat g r J nx with
     | none =>
       refine qJ6 (x:=Aa z a.C3 n wr ps) (y:=.lst false (rlD n.toNat (An n.toNat g r J))) (w:=.int (nx:Nat)) (d:=.bl false) rfl rfl rfl rfl rfl ⟨z,n,wr,ps,false,_,_,rfl,n1,.inr ⟨nx,hx,rfl,.inl ⟨hg,rfl⟩⟩⟩ rfl ?_;exact hK _ ⟨J,came,_,rfl,sh,.inr λ x h=>by rw[hnx,hg] at h;cases h⟩
     | some x =>
       refine qJ6 (x:=Aa z a.C3 n wr ps) (y:=.lst false (rlD n.toNat (An n.toNat g r J))) (w:=.int (nx:Nat)) rfl rfl rfl rfl rfl ⟨z,n,wr,ps,false,_,_,rfl,n1,.inr ⟨nx,hx,rfl,.inr ⟨x,hg,(num x hg).1,(num x hg).2,rfl⟩⟩⟩ rfl ?_;refine qa0 (a:=decide (0 < Ad n.toNat (hmOf n ps x) nx)) rfl (ite_b (λ h=>?_) λ h=>?_)
       . have hd:=zAf h
         obtain⟨hJ1,hgx⟩:=dec x hg hd;have enx:nx=rot n.toNat r (J+1):=by rw[<- hnx,qt8 hr hJ1]
         have hix:∀ d3,f2 gIx (rdN 1) (rdN 4) [Aa z a.C3 n wr ps,.lst false (rlD n.toNat (An n.toNat g r J)),.int (rot n.toNat r J:Nat),d3,.int (nx:Nat)]=some (.int x):=λ d3=>Af rfl rfl (by rw[Eb hx,hg];rfl)
         refine qb1 [Aa z a.C3 n wr ps,.lst false (rlD n.toNat (An n.toNat g r J)),.int (rot n.toNat r J:Nat),.lst false (came++[D.tup [.int x,.int (rot n.toNat r J:Nat)]]),.int (nx:Nat)] (λ K hK=>qu5 ?_) ?_
         . exact qQ4 (ys:=came) (d:=.tup [.int x,.int (rot n.toNat r J:Nat)]) rfl (qav4 (hix _) rfl rfl rfl) (by unfold big;lia) hK
         refine qb1 [Aa z a.C3 n wr ps,.lst false (rlD n.toNat (Row.set (An n.toNat g r J) (rot n.toNat r J) x)),.int (rot n.toNat r J:Nat),.lst false (came++[D.tup [.int x,.int (rot n.toNat r J:Nat)]]),.int (nx:Nat)] (λ K hK=>?_) ?_
         . refine qC7 (d:=.int x) (ys:=rlD n.toNat (An n.toNat g r J)) (hix _) rfl rfl rfl (qT1 hp) ?_
           rw[qz1];exact hK
         refine qb1 [Aa z a.C3 n wr ps,.lst false (rlD n.toNat (An n.toNat g r (J+1))),.int (rot n.toNat r J:Nat),.lst false (came++[D.tup [.int x,.int (rot n.toNat r J:Nat)]]),.int (nx:Nat)] (λ K hK=>?_) ?_
         . refine qM0 (d:=.non) (ys:=rlD n.toNat (Row.set (An n.toNat g r J) (rot n.toNat r J) x)) rfl rfl rfl (qT1 hx) ?_
           rw[show (rlD n.toNat (Row.set (An n.toNat g r J) (rot n.toNat r J) x)).set nx .non=rlD n.toNat (λ j=>if j=nx then none else Row.set (An n.toNat g r J) (rot n.toNat r J) x j) from qV9 (o:=none)];have e:rlD n.toNat (λ j=>if j=nx then none else Row.set (An n.toNat g r J) (rot n.toNat r J) x j)=rlD n.toNat (An n.toNat g r (J+1)):=qM5 λ i hi=>by
             rw[qV7 hr hJ1 hi,enx];by_cases h1:i=rot n.toNat r (J+1)
             . rw[if_pos h1,if_pos h1]
             rw[if_neg h1,if_neg h1];by_cases h2:i=rot n.toNat r J
             . rw[if_pos h2,h2,Row.qb4,hgx]
             rw[if_neg h2,Row.qc9 h2]
           rw[e];exact hK
         refine qb1 [Aa z a.C3 n wr ps,.lst false (rlD n.toNat (An n.toNat g r (J+1))),.int (nx:Nat),.lst false (came++[D.tup [.int x,.int (rot n.toNat r J:Nat)]]),.int (nx:Nat)] (λ K hK=>qD2 (d:=.int (nx:Nat)) rfl rfl hK) ?_;rw[enx] at hd ⊢;refine qf4 (bh (J+1) _ _ _ _ hJ1 (hK2 (m - 1) _ (by lia) ⟨J+1,_,rfl,sh.step hJ1 hgx hd,by rw[zA7,hc];rfl,by lia⟩))
       have hd:=zBy h;exact hK _ ⟨J,came,_,rfl,sh,.inr λ y h=>by rw[hnx] at h ⊢;rw[hg] at h;cases h;lia⟩
   rw[hb];refine qJ6 (x:=Aa z a.C3 n wr ps) (y:=.lst false (rlD n.toNat (An n.toNat g r J))) (w:=.non) (d:=.bl false) rfl rfl rfl rfl rfl ⟨z,n,wr,ps,false,_,_,rfl,n1,.inl ⟨rfl,rfl⟩⟩ rfl ?_;exact hK _ ⟨J,came,_,rfl,sh,.inl ⟨hw,hl⟩⟩
 rintro ds ⟨J,came,d4,rfl,sh,st⟩;exact qi9 (mv_to rfl (q came _ (KP.taken hr hk sh st)))
theorem qx4:qa9 ["self", "key", "room"] ["self", "key"] (qa3 qs9):=by walk_at "s"
def qR1(C CP:Addr):VSp:=λ ds Q _=>∃ n wr ps g dn S k,ds=[Ag false C CP n wr ps g dn,.int k]/\1<=n/\n<=64/\(∀ x∈S,Am x)/\Kept n.toNat wr (hmOf n ps) g S/\k∈S/\dn.length<=1000 /\
 ∀(r:Nat) came g',Kept n.toNat wr (hmOf n ps) g' (S.filter λ x=>decide (x≠k))->Q (.tup [.int (r:Nat),.lst false came]) [Ag false C CP n wr ps g' (dn++[.tup [.str "take",.int k]]),.int k]
theorem qaj5{g:Nat->Option Int}(h:Bq N g k=.int (j:Nat)):j < N/\g j=some k:=by
 unfold Bq at h;cases e:Da N g k with
 | none=>rw[e] at h;cases h
 | some i =>
   rw[e] at h;have h:D.int (i:Nat)=D.int (j:Nat):=h;injection h with h
   have h:i=j:=by lia
   subst h;obtain⟨h1,h2,_⟩:=List.findIdx?_eq_some_iff_getElem.mp e;rw[zB9] at h1;rw[List.getElem_range] at h2;exact⟨h1,zAf h2⟩
theorem qS5(T:Txt K mg a):VFn P w K mg base 8 a.f29 a.d29 ["self", "key"] (qR1 a.C4 a.C3):=by
 refine VFn.mk2 T.d29.F qx4 (wOf [true,true]) (λ ds Q Q' xe xe' hQ _ h=>by obtain⟨n,wr,ps,g,dn,S,k,e,h1,h2,h3,h4,h5,h6,q⟩:=h;exact⟨n,wr,ps,g,dn,S,k,e,h1,h2,h3,h4,h5,h6,λ r c g' K=>hQ _ _ (q r c g' K)⟩) (λ ds Q xe h=>by obtain⟨n,wr,ps,g,dn,S,k,e,_⟩:=h;rw[e];exact⟨rfl,rfl⟩) (λ cdv A outer sh H E av hr=>⟨_,(Ab (Al 2 qx4.nd (qh0 0 T.d27 T.C7.cl (qc3 T) qa1 (rm hr) (vaN 1 Ac)))
     (Ab (sif (q2 (Au Fi (qb3 _)) Fh (vnm 2) Bh)
     (Ah qg2)
     Ax)
     (Ab (Bj (emutP qw5 PySem.F.plainAttrs_list PySem.F.slot_list_append PySem.F.type_list_append qd7 (Fo rfl (vpn 0) T.C7.cl T.Ci) (vaV (qa5 (Eu (qa2 Fk (qa2 (vnm 1) qa7 rfl) rfl))) Ac)))
     (Ah (At (G4 (vaV (qc2 (vnm 2)) (vaV (Aj T.d23 (qJ2 T) qa1 (rm hr) (vaV (qc2 (Bo rfl (vnm 0) T.C7.cl T.Cf)) (vaB (Fo rfl (vpn 0) T.C7.cl T.C9) (vaN 2 Ac)))) Ac)))))))),λ ds Q xe h=>?_⟩)
 obtain⟨n,wr,ps,g,dn,S,k,rfl,n1,n2,hS,KP,hk,hdn,q⟩:=h;obtain⟨i,hi,e⟩:=(KP.h.2 k).mp hk;obtain⟨j,hj⟩:=qM4 hi e;obtain⟨hjl,hjg⟩:=qaj5 hj;refine As [Ag false a.C4 a.C3 n wr ps g dn,.int k,.unk] rfl ?_;refine qb1 [Ag false a.C4 a.C3 n wr ps g dn,.int k,.int (j:Nat)] (λ K hK=>?_) ?_
 . exact qf4 (qq7 (p:=Ag false a.C4 a.C3 n wr ps g dn) (x:=.int k) (d:=.int (j:Nat)) rfl (qi5 rfl) rfl rfl ⟨false,n,wr,ps,g,dn,k,rfl,hS k hk,hj.symm⟩ rfl hK)
 refine qu2 false (λ Q q=>qq2 (b:=false) rfl q) (λ h=>(nomatch h)) λ _=>?_
 refine qb1 [Ag false a.C4 a.C3 n wr ps g (dn++[.tup [.str "take",.int k]]),.int k,.int (j:Nat)] (λ K hK=>qu5 ?_) ?_
 . refine qak9 (i:=0) (p:=[2]) (ys:=dn) (d0:=Ag false a.C4 a.C3 n wr ps g dn) (by show (D.fidx a.C4 "done" (Ag false a.C4 a.C3 n wr ps g dn)).map (λ n=>(0,[n]))=_;rw[qO6];rfl) rfl rfl ?_
   exact qe0 (y:=.tup [.str "take",.int k]) rfl (qd1 (qa0 (a:=(dn++[D.tup [.str "take",.int k]],D.non)) (if_pos (show dn.length < big by unfold big;lia)) hK))
 generalize dn++[.tup [.str "take",.int k]]=dn2 at q ⊢;refine qi9 (qav2 (qf6 (y:=.int (j:Nat)) rfl rfl (qg9 (qk5 (qf6 (y:=Aa true a.C3 n wr ps) (Bb rfl qz7) rfl ?_)))));refine qa0 (a:=(0,[1])) (by show (D.fidx a.C4 "held" (Ag false a.C4 a.C3 n wr ps g dn2)).map (λ n=>(0,[n]))=_;rw[qC0];rfl) (qa0 (a:=D.lst false (rlD n.toNat g)) rfl ⟨rfl,λ w=>?_⟩);refine qb9 (x:=.int (j:Nat)) rfl (qd1 (qa0 (a:=D.int (j:Nat)) rfl ?_));refine⟨true,n,wr,ps,g,S,k,j,rfl,n1,n2,hS,KP,hjl,hjg,λ came g' K'=>?_⟩;refine qa0 (a:=[Ag false a.C4 a.C3 n wr ps g' dn2,.int k,.int (j:Nat)]) ?_ (qd1 ⟨by show 2<=1000000;decide,q j came g' K'⟩);show Aq (.pl 0 [1] w::_) _ _=_;rw[qab5 rfl];rfl
theorem qz4:qa9 ["_law_row", "_law_plan", "_law_before", "_law_key", "_law_order_here", "_law_other"] ["_law_row", "_law_plan", "_law_before", "_law_key"] (qa3 qI3):=by walk_at "s"
theorem qx6{g:Nat->Option Int}(hi:i < N)(e:g i=some k)(inj:∀ i j x,i < N->j < N->g i=some x->g j=some x->i=j):Bq N g k=.int (i:Nat):=by
 obtain⟨j,hj⟩:=qM4 hi e;obtain⟨h1,h2⟩:=qaj5 hj;rw[hj,inj i j k hi h1 e h2]
theorem qaC9{z:Bool}:∀{L R:List Int},¬ k∈L->Hv (.lst z (ksD (L++k::R))) (.int k)=some (.int (L.length:Nat)):=by
 intro L R h;have e:Ef (.int k) ((L++k::R).map V.int)=some L.length:=by
   induction L with
   | nil=>show (if decide (k=k)=true then some 0 else _)=_;rw[if_pos (zAq rfl)];rfl
   | cons a L ih =>
     rw[zAm,not_or] at h;show (if decide (a=k)=true then some 0 else (Ef (.int k) ((L++k::R).map V.int)).map (· + 1))=_;rw[if_neg (by simpa using λ z=>h.1 z.symm),ih h.2];rfl
 show ((flats (ksD (L++k::R))).bind λ ws=>(Ef (.int k) ws).map λ j=>D.int (j:Nat))=_;rw[qB9];show (Ef (.int k) ((L++k::R).map V.int)).map (λ j=>D.int (j:Nat))=_;rw[e];rfl
theorem qaE2{L R:List Int}:Ee (ksD (L++R)) none (some ((L.length:Nat):Int))=ksD L:=by
 rw[qP1];unfold ksD;rw[<- List.map_take,List.take_left'];rfl
theorem qaq8{n:Int}{ps:Pr}(n1:1<=n)(nd:ks.Nodup)(hk:k∈ks):∃ L R,Ep n ps ks=L++k::R/\¬ k∈L/\(L++k::R).Pairwise (B7 (hmOf n ps))/\(L++k::R).Perm ks/\∀ x∈L,B7 (hmOf n ps) x k:=by
 obtain⟨L,R,e⟩:=List.append_of_mem (qm4 (n:=n) (ps:=ps).mem_iff.mpr hk);have pw:=qak8 (ps:=ps) n1 nd;have pm:=qm4 (n:=n) (ps:=ps) (ks:=ks);rw[e] at pw pm;have hl:∀ x∈L,B7 (hmOf n ps) x k:=λ x hx=>(zBr.mp pw).2.2 x hx k zA9
 exact⟨L,R,e,λ h=>(by rcases hl k h with z | z<;>lia),pw,pm,hl⟩
theorem qas0{z:Bool}{bs:Pr}:qat4 (.dct z (kvD bs))=some (.lst false (ksD (bs.map (·.1)))):=by
 unfold kvD ksD;show some (D.lst false ((bs.map λ p=>((.inl p.1:Key),D.int p.2)).map λ kd=>keyD kd.1))=_;rw[zBj,zBj];rfl
def qad4(C CP:Addr):VSp:=Aw λ ds d=>∃ n ps g dn bs z key,ds=[Ag false C CP n false ps g dn,planT n false ps,.dct z (kvD bs),.int key]/\1<=n/\(ps.map (·.1)).Nodup/\(bs.map (·.1)++[key]).Nodup/\bs.length<=63/\(∀ x∈bs.map (·.1),Am x)/\(∀ x∈bs.map (·.1),B7 (hmOf n ps) x key->∃ j:Nat,bs.lookup x=some (j:Int)/\Bq n.toNat g x=.int (j:Nat))/\d=.bl true
theorem qaf3(T:Txt K mg a):VFn P w K mg base 5 a.f39 a.d39 ["_law_row", "_law_plan", "_law_before", "_law_key"] (qad4 a.C4 a.C3):=by
 refine VFn.mk2 T.d39.F qz4 (wOf [true,true,true,true]) qb2 (λ ds Q xe h=>by obtain⟨d,⟨n,ps,g,dn,bs,z,key,e,_⟩,_⟩:=h;rw[e];exact⟨rfl,rfl⟩) (λ cdv A outer sh H E av hr=>⟨_,(Ab (Al 4 qz4.nd (Aj T.d38 (qA3 T) qa1 (rm hr) (vaN 1 (vaV (qa5 (v2 (Ak qg1) qg0 (Fx (qab4 rfl) qau2.ops T.Cj (qa2 (vnm 2) qa7 rfl)) (B9 (qa2 (vnm 3) qa7 rfl)))) Ac))))
     (Ab (E4 PassesOwn.leaving (qa5 (vsl (vnm 4) Ho (Hq (vbm qaf0 PySem.F.plainAttrs_list PySem.F.slot_list_index PySem.F.type_list_index qA8 (vnm 4) (vnm 3) qN7)))) (Bc 5 qz4.nd)
     (Ah (sif (q2v (Ba (qD7 hr.u64) (qb3 _)) (Au (qD7 hr.u64) (qb3 _)) Fj (qh0 0 T.d27 T.C7.cl (qc3 T) qa1 (rm hr) (vaN 5 Ac)) (v2 (p_dix (Hf hr)) qaI4 (vnm 2) (vnm 5)))
     (Ah (At (qa5 vbl)))
     Ax)))
     (Ah (At (qa5 vbl))))),λ ds Q xe h=>?_⟩)
 obtain⟨d,⟨n,ps,g,dn,bs,z,key,rfl,n1,nd,ndk,hl,hb,hs,rfl⟩,q⟩:=h;obtain⟨L,R,eO,nL,pw,pm,lx⟩:=qaq8 (ps:=ps) n1 ndk (zAp _ (zA8.mpr rfl));have mL:∀ x∈L,x∈bs.map (·.1):=λ x hx=>by
   rcases zAb.mp (pm.mem_iff.mp (List.mem_append_left _ hx)) with h | h
   . exact h
   rw[zA8.mp h] at hx;exact absurd hx nL
 have hlen:L.length<=64:=by
   have:=pm.length_eq
   simp at this;lia
 refine As [Ag false a.C4 a.C3 n false ps g dn,planT n false ps,.dct z (kvD bs),.int key,.unk,.unk] rfl ?_;refine qb1 [Ag false a.C4 a.C3 n false ps g dn,planT n false ps,.dct z (kvD bs),.int key,.lst false (ksD (L++key::R)),.unk] (λ K hK=>qf4 (qk5 (qb9 (x:=planT n false ps) rfl (qe0 (y:=.lst false (ksD (bs.map (·.1)++[key]))) ?_ (qd1 (qa0 (a:=planT n false ps) rfl ⟨_,⟨n,false,ps,false,_,rfl,n1,nd,ndk,?_,rfl⟩,?_⟩)))))) ?_
 . have e1:Be (fx1 qat4) (A9 (rdN 2) λ _=>some []) [Ag false a.C4 a.C3 n false ps g dn,planT n false ps,.dct z (kvD bs),.int key,.unk,.unk]=some (.lst false (ksD (bs.map λ x=>x.1))):=qas0 (z:=z)
   exact Af e1 (y:=.lst false (ksD [key])) rfl (qau7 (by rw[zAa];show _+1<=1000;lia))
 . rw[zA7,zAa];show _+1<=64;lia
 . rw[eO];exact qa0 (a:=[Ag false a.C4 a.C3 n false ps g dn,planT n false ps,.dct z (kvD bs),.int key,.unk,.unk]) rfl hK
 refine qc8 (λ ds=>∃ d5,ds=[Ag false a.C4 a.C3 n false ps g dn,planT n false ps,.dct z (kvD bs),.int key,.lst false (ksD (L++key::R)),d5]) (λ K hK=>?_) ?_
 . refine qq6 (qau1 (S:=L++key::R) (h:=some ((L.length:Nat):Int)) rfl rfl ?_ qaE2) (qa0 (a:=ksD L) rfl ⟨qf3 L,?_⟩)
   . show (f2 Hv (rdN 4) (rdN 3) _).bind _=_
     rw[Af (x:=.lst false (ksD (L++key::R))) (y:=.int key) rfl rfl (qaC9 nL)];rfl
   refine qd3 (λ i ds=>∃ d5,ds=[Ag false a.C4 a.C3 n false ps g dn,planT n false ps,.dct z (kvD bs),.int key,.lst false (ksD (L++key::R)),d5]) _ 0 _ ⟨_,rfl⟩ ?_ ?_
   . rintro i y hy ds ⟨d5,rfl⟩ K2 hK2
     obtain⟨x,hi,rfl⟩:=qJ9 hy;have hx:=zBa hi;obtain⟨j,e1,e2⟩:=hs x (mL x hx) (lx x hx);refine ql4 (As [Ag false a.C4 a.C3 n false ps g dn,planT n false ps,.dct z (kvD bs),.int key,.lst false (ksD (L++key::R)),.int x] rfl ?_);refine qae4 (qq7 (p:=Ag false a.C4 a.C3 n false ps g dn) (x:=.int x) (d:=.int (j:Nat)) rfl (qi5 rfl) rfl rfl ⟨false,n,false,ps,g,dn,x,rfl,hb x (mL x hx),e2.symm⟩ rfl ?_);refine qa0 (a:=D.bl false) ?_ (qa0 (a:=false) rfl (Dt (by decide) (hK2 _ ⟨_,rfl⟩)));have ed:f2 gDix (rdN 2) (rdN 5) [Ag false a.C4 a.C3 n false ps g dn,planT n false ps,.dct z (kvD bs),.int key,.lst false (ksD (L++key::R)),.int x]=some (.int (j:Nat)):=Af (x:=.dct z (kvD bs)) (y:=.int x) rfl rfl (by show Bz (kvD bs) (.inl x)=_;rw[qU2,e1];rfl);rw[ed];exact qK1 rfl
   rintro ds ⟨d5,rfl⟩;exact hK _ ⟨_,rfl⟩
 rintro ds ⟨d5,rfl⟩;exact qi3 (.bl true) rfl q
theorem qM3:qa9 ["_law_row", "_law_plan", "_law_word", "_law_key", "_law_before"] ["_law_row", "_law_plan", "_law_word", "_law_key"] (qa3 qI5):=by walk_at "s"
def rmI(N:Nat)(g:Nat->Option Int)(k:Int):Int:=((Da N g k).getD 0:Nat)
def Br(N:Nat)(g:Nat->Option Int)(k:Int):Pr:=(((List.range N).filterMap g).filter λ x=>decide (x≠k)).map λ x=>(x,rmI N g x)
theorem qx9{f:Int->Int}{x:Int}:∀{L:List Int},x∈L->(L.map λ y=>(y,f y)).lookup x=some (f x)
 | y::L,h=>by
   rw[zAx,zAu];by_cases e:x=y
   . subst e;rw[zBm]
   rw[beq_false_of_ne e];exact qx9 ((zAm.mp h).resolve_left e)
def qad6(C CP:Addr):VSp:=λ ds Q _=>∃ n ps g dn S k wd,ds=[Ag false C CP n false ps g dn,planT n false ps,.str wd,.int k]/\1<=n/\n<=64/\(ps.map (·.1)).Nodup/\Am k/\(∀ x∈S,Am x)/\Kept n.toNat false (hmOf n ps) g S/\dn.length<=900 /\
 ((wd = "put" /\ ¬ k∈S/\(∀ q,¬ Crowd n.toNat false (hmOf n ps) (S++[k]) q)/\∀ g' x,Kept n.toNat false (hmOf n ps) g' (S++[k])->Q (.bl true) [Ag false C CP n false ps g' (dn++[x]),planT n false ps,.str wd,.int k]) ∨
  (wd = "take" /\ k∈S/\∀ g' x,Kept n.toNat false (hmOf n ps) g' (S.filter λ x=>decide (x≠k))->Q (.bl true) [Ag false C CP n false ps g' (dn++[x]),planT n false ps,.str wd,.int k]))
theorem qA4(T:Txt K mg a):VFn P w K mg base 9 a.f40 a.d40 ["_law_row", "_law_plan", "_law_word", "_law_key"] (qad6 a.C4 a.C3):=by
 refine VFn.mk2 T.d40.F qM3 (wOf [true,true,true,true]) (λ ds Q Q' xe xe' hQ _ h=>by obtain⟨n,ps,g,dn,S,k,wd,e,h1,h2,h3,h4,h5,h6,h7,q⟩:=h;exact⟨n,ps,g,dn,S,k,wd,e,h1,h2,h3,h4,h5,h6,h7,q.imp (λ ⟨a,b,c,q⟩=>⟨a,b,c,λ g' x z=>hQ _ _ (q g' x z)⟩) λ ⟨a,b,q⟩=>⟨a,b,λ g' x z=>hQ _ _ (q g' x z)⟩⟩) (λ ds Q xe h=>by obtain⟨n,ps,g,dn,S,k,wd,e,_⟩:=h;rw[e];exact⟨rfl,rfl⟩) (λ cdv A outer sh H E av hr=>⟨_,(Ab (Al 4 qM3.nd (ecty (qv0 rfl) qab0.ops T.Ct (Dx (vaV (ecL (NY:=["_law_other", "_law_row", "_law_key"]) (src:=[none,some 0,some 3]) (qam8 0 T.d25 T.C7.cl (qj1 T) qa1 (rm hr)) (blk (λ av C s0 H0 ex=>(Bc 0 (show (["_law_other", "_law_row", "_law_key"]:List Str).Nodup by decide +kernel))) (λ av C s0 H0 ex=>(Hx (q2 (Au (qD7 hr.u64) (qb3 _)) Fj (vnm 0) (vnm 2)))) (λ av C s0 H0 ex=>(G4 (vaV (qc2 (vnm 0)) (vaV (qh0 1 T.d27 T.C7.cl (qc3 T) ql3 (rm hr) (vaN 0 Ac)) Ac)))))) Ac))))
     (Ab (sif (q2 (Au (qJ0 hr.u64) (qb3 _)) Ej (vnm 2) Fk)
     (Ah (Bj (qh0 0 T.d28 T.C7.cl (qD9 T) qa1 (rm hr) (vaN 3 Ac))))
     (Ah (Bj (qh0 0 T.d29 T.C7.cl (qS5 T) qa1 (rm hr) (vaN 3 Ac)))))
     (Ah (At (Aj T.d39 (qaf3 T) qa1 (rm hr) (vaN 0 (vaN 1 (vaN 4 (vaN 3 Ac))))))))),λ ds Q xe h=>?_⟩)
 obtain⟨n,ps,g,dn,S,k,wd,rfl,n1,n2,nd,hk,hS,KP,hdn,q⟩:=h;have pmS:=KP.perm;have eb:(Br n.toNat g k).map (·.1)=((List.range n.toNat).filterMap g).filter λ x=>decide (x≠k):=by unfold Br;rw[zBj];exact List.map_id _
 have mb:∀ x,x∈(Br n.toNat g k).map (·.1)↔x∈S/\x≠k:=λ x=>by rw[eb,zAw,pmS.mem_iff,zB5]
 have ndb:((Br n.toNat g k).map (·.1)++[k]).Nodup:=by
   refine zBi.mpr ⟨by rw[eb];exact(pmS.nodup_iff.mpr KP.h.1).sublist List.filter_sublist,(by simp),λ x hx y hy e=>?_⟩;rw[zA8.mp hy] at e;exact((mb x).mp hx).2 e
 have lS:=KP.len;obtain⟨L,R,eO,nL,pw,pm,lx⟩:=qaq8 (ps:=ps) n1 ndb (zAp _ (zA8.mpr rfl));have pw0:(L++R).Pairwise (B7 (hmOf n ps)):=pw.sublist ((List.Sublist.refl L).append (List.sublist_cons_self k R));have pm0:(L++R).Perm ((Br n.toNat g k).map (·.1)):=by
   have:=List.perm_middle.symm.trans (pm.trans List.perm_append_comm)
   exact(List.perm_cons k).mp this
 have inL:∀ x∈(Br n.toNat g k).map (·.1),B7 (hmOf n ps) x k->x∈L:=λ x hx hl=>by
   rcases zAb.mp (pm0.mem_iff.mpr hx) with h | h
   . exact h
   have:=(zBr.mp pw).2.1
   have:=(List.pairwise_cons.mp this).1 x h
   unfold B7 at hl this;lia
 refine As [Ag false a.C4 a.C3 n false ps g dn,planT n false ps,.str wd,.int k,.unk] rfl ?_;refine qb1 [Ag false a.C4 a.C3 n false ps g dn,planT n false ps,.str wd,.int k,.dct false (kvD (Br n.toNat g k))] (λ K hK=>qf4 (Gr (qg9 (qaB5 (p:=Ag false a.C4 a.C3 n false ps g dn) (d:=.lst false (ksD ((List.range n.toNat).filterMap g))) rfl (qi5 rfl) ⟨n,false,ps,g,dn,rfl,n2,rfl⟩ rfl (qa0 (a:=ksD ((List.range n.toNat).filterMap g)) rfl ⟨qf3 _,?_⟩))))) ?_
 . refine qj5 (λ ι=>∃ d,ι=[d,Ag false a.C4 a.C3 n false ps g dn,.int k]) (λ x=>match x with | .int y=>if y=k then none else some (.tup [.int y,.int (rmI n.toNat g y)]) | d=>some d) _ [] _ (by show 0+_ < 1000000;rw[qg3,pmS.length_eq];lia) ⟨_,rfl⟩ ?_ ?_
   . rintro y hy ι acc ⟨d,rfl⟩ R hR hacc
     obtain⟨x,hx,rfl⟩:=zBc.mp hy;have hxS:=pmS.mem_iff.mp hx;have this:R (acc++(if x=k then none else some (D.tup [.int x,.int (rmI n.toNat g x)])).toList) _:=hR [.int x,Ag false a.C4 a.C3 n false ps g dn,.int k] ⟨_,rfl⟩;refine ql4 (qq2 (b:=!decide (x=k)) rfl ?_);by_cases e:x=k
     . rw[if_pos e] at this
       have this:R (acc++[]) _:=this;rw[zAd] at this;rw[zAq e];exact this
     rw[if_neg e] at this;rw[zBb e];obtain⟨i,hi,gi⟩:=(KP.h.2 x).mp hxS;have er:=qx6 hi gi KP.o.inj;have er2:rmI n.toNat g x=((i:Nat):Int):=by
       unfold Bq at er;unfold rmI;cases h:Da n.toNat g x with
       | none=>rw[h] at er;cases er
       | some j=>rw[h] at er;exact D.int.inj er
     rw[er2] at this;refine Dr rfl (qf6 (y:=.int x) rfl rfl (qg9 (qq7 (p:=Ag false a.C4 a.C3 n false ps g dn) (x:=.int x) (d:=.int (i:Nat)) rfl (qi5 rfl) rfl rfl ⟨false,n,false,ps,g,dn,x,rfl,hS x hxS,er.symm⟩ rfl (qd1 ⟨by show 2<=1000000;decide,hacc,this⟩))))
   rintro ι ⟨d,rfl⟩;have eL:∀ l:List Int,((ksD l).filterMap λ x=>match x with | .int y=>if y=k then none else some (D.tup [.int y,.int (rmI n.toNat g y)]) | d=>some d)=prD ((l.filter λ x=>decide (x≠k)).map λ x=>(x,rmI n.toNat g x)):=λ l=>by
     induction l with
     | nil=>rfl
     | cons y l ih =>
       show List.filterMap _ (D.int y::ksD l)=_;rw[zBu];by_cases e:y=k
       . rw[zC6 (by simp[e]),<- ih]
         simp only[if_pos e]
       rw[zC4 (by simp[e])];simp only[if_neg e];rw[ih];rfl
   rw[zAz,eL];exact qd1 (qa0 (a:=D.dct false (kvD (Br n.toNat g k))) (qaa6 (z:=false) (ndb.sublist (zB7 _ _))) hK)
 refine qc8 (λ ds=>∃ g' x,ds=[Ag false a.C4 a.C3 n false ps g' (dn++[x]),planT n false ps,.str wd,.int k,.dct false (kvD (Br n.toNat g k))]/\(∀ i j x,i < n.toNat->j < n.toNat->g' i=some x->g' j=some x->i=j)/\(∀ x∈L,∃ j,j < n.toNat/\g j=some x/\g' j=some x)/\(Br n.toNat g k).length<=63/\Q (.bl true) [Ag false a.C4 a.C3 n false ps g' (dn++[x]),planT n false ps,.str wd,.int k]) (λ K hK=>?_) ?_
 . rcases q with⟨rfl,nin,nc,q⟩ | ⟨rfl,hin,q⟩
   . refine if_v (b:=true) rfl (λ _=>qu5 ?_) λ h=>nomatch h
     refine qE2 (p:=Ag false a.C4 a.C3 n false ps g dn) rfl (qi5 rfl) (qb9 (x:=.int k) rfl (qd1 (qa0 (a:=D.int k) rfl (qa0 (a:=Ag false a.C4 a.C3 n false ps g dn) rfl ?_))));refine⟨n,false,ps,g,dn,S,k,rfl,n1,n2,hk,hS,KP,nin,nc,by lia,λ came g' K'=>?_⟩;have e1:((Br n.toNat g k).map (·.1)).Perm S:=(zBn (ndb.sublist (zB7 _ _)) KP.h.1).mpr λ x=>by
       rw[mb x];exact⟨λ h=>h.1,λ h=>⟨h,λ e=>nin (e ▸ h)⟩⟩
     have l1:=e1.length_eq;have l2:=K'.len;rw[zAa] at l1;rw[zA7,List.length_singleton] at l2;exact qa0 (a:=[Ag false a.C4 a.C3 n false ps g' (dn++[.tup [.str "put",.int k]]),planT n false ps,.str "put",.int k,.dct false (kvD (Br n.toNat g k))]) rfl (hK _ ⟨g',_,rfl,K'.o.inj,qB0 (by lia) (B8 n1) KP K' pw0 (pm0.trans e1) pw (pm.trans (e1.append_right [k])),by lia,q g' _ K'⟩)
   refine if_v (b:=false) rfl (λ h=>nomatch h) λ _=>qu5 ?_
   refine qE2 (p:=Ag false a.C4 a.C3 n false ps g dn) rfl (qi5 rfl) (qb9 (x:=.int k) rfl (qd1 (qa0 (a:=D.int k) rfl (qa0 (a:=Ag false a.C4 a.C3 n false ps g dn) rfl ?_))));refine⟨n,false,ps,g,dn,S,k,rfl,n1,n2,hS,KP,hin,by lia,λ r came g' K'=>?_⟩;have e1:((Br n.toNat g k).map (·.1)).Perm (S.filter λ x=>decide (x≠k)):=(zBn (ndb.sublist (zB7 _ _)) K'.h.1).mpr λ x=>by
     rw[mb x,zAw,zB5]
   have e2:((Br n.toNat g k).map (·.1)++[k]).Perm S:=(zBn ndb KP.h.1).mpr λ x=>by
     rw[zAb,mb x,zA8];refine⟨λ h=>h.elim (λ h=>h.1) λ h=>h ▸ hin,λ h=>?_⟩;by_cases e:x=k
     . exact .inr e
     exact .inl ⟨h,e⟩
   have l1:=e2.length_eq;rw[zA7,zAa,List.length_singleton] at l1;exact qa0 (a:=[Ag false a.C4 a.C3 n false ps g' (dn++[.tup [.str "take",.int k]]),planT n false ps,.str "take",.int k,.dct false (kvD (Br n.toNat g k))]) rfl (hK _ ⟨g',_,rfl,K'.o.inj,qB0 (by lia) (B8 n1) KP K' pw (pm.trans e2) pw0 (pm0.trans e1),by lia,q g' _ K'⟩)
 rintro ds ⟨g',x,rfl,inj',hs,lb,q⟩;refine qi9 (qk5 (qb9 (x:=Ag false a.C4 a.C3 n false ps g' (dn++[x])) rfl (qb9 (x:=planT n false ps) rfl (qb9 (x:=.dct false (kvD (Br n.toNat g k))) rfl (qb9 (x:=.int k) rfl (qd1 (qa0 (a:=D.int k) rfl (qa0 (a:=D.dct false (kvD (Br n.toNat g k))) rfl (qa0 (a:=planT n false ps) rfl (qa0 (a:=Ag false a.C4 a.C3 n false ps g' (dn++[x])) rfl ?_))))))))));refine⟨_,⟨n,ps,g',dn++[x],Br n.toNat g k,false,k,rfl,n1,nd,ndb,lb,λ y hy=>hS y ((mb y).mp hy).1,λ y hy hl=>?_,rfl⟩,qa0 (a:=[Ag false a.C4 a.C3 n false ps g' (dn++[x]),planT n false ps,.str wd,.int k,.dct false (kvD (Br n.toNat g k))]) rfl q⟩;obtain⟨j,hj,e1,e2⟩:=hs y (inL y hy hl);have er:=qx6 hj e1 KP.o.inj;have er2:rmI n.toNat g y=((j:Nat):Int):=by
   unfold Bq at er;unfold rmI;cases h:Da n.toNat g y with
   | none=>rw[h] at er;cases er
   | some i=>rw[h] at er;exact D.int.inj er
 refine⟨j,?_,qx6 hj e2 inj'⟩;rw[<- er2];unfold Br;exact qx9 (by rw[<- eb];exact hy)
theorem qe6:qa9 ["_law_row", "_law_plan", "_law_keys", "_law_at", "_law_key"] ["_law_row", "_law_plan", "_law_keys"] (qa3 qh6):=by walk_at "s"
def qv5(C CP:Addr):VSp:=Aw λ ds d=>∃ n ps g dn z ks S,ds=[Ag false C CP n false ps g dn,planT n false ps,.lst z (ksD ks)]/\1<=n/\(ps.map (·.1)).Nodup/\ks.Nodup/\ks.length<=64/\(∀ x∈ks,Am x)/\Kept n.toNat false (hmOf n ps) g S/\ks.Perm S/\d=.bl true
theorem qk2(T:Txt K mg a):VFn P w K mg base 5 a.f41 a.d41 ["_law_row", "_law_plan", "_law_keys"] (qv5 a.C4 a.C3):=by
 refine VFn.mk2 T.d41.F qe6 (wOf [true,true,true]) qb2 (λ ds Q xe h=>by obtain⟨d,⟨n,ps,g,dn,z,ks,S,e,_⟩,_⟩:=h;rw[e];exact⟨rfl,rfl⟩) (λ cdv A outer sh H E av hr=>⟨_,(Ab (Al 3 qe6.nd (qa5 (vneg Ae)))
     (Ab (E4 PassesOwn.leaving (Aj T.d38 (qA3 T) qa1 (rm hr) (vaN 1 (vaN 2 Ac))) (Bc 4 qe6.nd)
     (Ab (Al 3 qe6.nd (ebi (qC5 rfl) qaa8.ops T.Cv (Dx (vaV (qa5 (v2 (Ak qg1) qg0 (vnm 3) Ae)) (vaV (Aj T.d32 (qA5 T) qa1 (rm hr) (vaN 1 (vaN 4 Ac))) Ac)))))
     (Ah (sif (q2v (Ba (qD7 hr.u64) (qb3 _)) (Au (qD7 hr.u64) (qb3 _)) Fj (qh0 0 T.d27 T.C7.cl (qc3 T) qa1 (rm hr) (vaN 4 Ac)) (vnm 3))
     (Ah (At (qa5 vbl)))
     Ax))))
     (Ah (At (qa5 vbl))))),λ ds Q xe h=>?_⟩)
 obtain⟨d,⟨n,ps,g,dn,z,ks,S,rfl,n1,nd,ndk,hle,hk,KP,pS,rfl⟩,q⟩:=h;have pw:=qak8 (ps:=ps) n1 ndk;have pm:=(qm4 (n:=n) (ps:=ps) (ks:=ks)).trans pS;have mO:∀ x∈Ep n ps ks,x∈ks:=λ x hx=>qm4.mem_iff.mp hx
 refine As [Ag false a.C4 a.C3 n false ps g dn,planT n false ps,.lst z (ksD ks),.unk,.unk] rfl ?_;refine qb1 [Ag false a.C4 a.C3 n false ps g dn,planT n false ps,.lst z (ksD ks),.int (-1),.unk] (λ K hK=>hK) ?_;refine qc8 (λ ds=>∃ d3 d4,ds=[Ag false a.C4 a.C3 n false ps g dn,planT n false ps,.lst z (ksD ks),d3,d4]) (λ K hK=>?_) ?_
 . refine qu1 (x:=planT n false ps) (y:=.lst z (ksD ks)) rfl rfl rfl ⟨n,false,ps,z,ks,rfl,n1,nd,ndk,hle,rfl⟩ rfl (qa0 (a:=ksD (Ep n ps ks)) rfl ⟨qf3 _,?_⟩)
   generalize Ep n ps ks=O at pw pm mO;refine qd3 (λ i ds=>∃ gL top d4,ds=[Ag false a.C4 a.C3 n false ps g dn,planT n false ps,.lst z (ksD ks),.int ((top:Nat) - 1:Int),d4]/\Fill n.toNat (hmOf n ps) gL (O.take i) top) _ 0 _ ⟨_,0,_,rfl,Fill.start (by lia) (B8 n1)⟩ ?_ ?_
   . rintro i y hy ds ⟨gL,top,d4,rfl,F⟩ K2 hK2
     rw[zAo] at F hK2;obtain⟨k,hi,rfl⟩:=qJ9 hy;have hil:=(zA5.mp hi).1;have hs:O=O.take i++k::O.drop (i+1):=by
       conv=>lhs;rw[<- zBd i O,List.drop_eq_getElem_cons hil,(zA5.mp hi).2]
     have hs':O=(O.take i++[k])++O.drop (i+1):=by rw[zAi];exact hs
     rw[hs] at pw;have hl:∀ x∈O.take i,B7 (hmOf n ps) x k:=λ x hx=>(zBr.mp pw).2.2 x hx k zA9
     have nk:¬ k∈O.take i:=λ h=>by rcases hl k h with z | z<;>lia
     have hr:=F.room hl λ q c=>KP.no_crowd q ((c.mono (show (O.take i++[k]).Sublist O from by have h:=zB7 (O.take i++[k]) (O.drop (i+1));rwa[<- hs'] at h)).perm pm)
     have F':=F.put nk hl hr;have ag:=F'.agree KP (R:=O.drop (i+1)) (by rw[zAi];exact pw) (by rw[<- hs'];exact pm) _ (zC8 _);rw[qb4] at ag;have er:=qx6 hr ag KP.o.inj;have hc:=qu3 (ps:=ps) n1 k;refine ql4 (As [Ag false a.C4 a.C3 n false ps g dn,planT n false ps,.lst z (ksD ks),.int ((top:Nat) - 1:Int),.int k] rfl ?_);refine qb1 [Ag false a.C4 a.C3 n false ps g dn,planT n false ps,.lst z (ksD ks),.int ((max top (hmOf n ps k):Nat):Int),.int k] (λ K hK=>qf4 (Gr (qe0 (y:=.int ((top:Nat) - 1+1:Int)) rfl (qg9 (qu1 (x:=planT n false ps) (y:=.int k) (d:=.int (qb0 n ps k)) rfl rfl rfl ⟨n,false,ps,k,rfl,n1,nd,rfl⟩ rfl (qd1 (qa0 (a:=D.int ((max top (hmOf n ps k):Nat):Int)) ?_ hK))))))) ?_
     . show some (D.int (if qb0 n ps k > (top:Nat) - 1+1 then qb0 n ps k else (top:Nat) - 1+1))=_
       congr 2
       split<;>lia
     refine qae4 (qq7 (p:=Ag false a.C4 a.C3 n false ps g dn) (x:=.int k) (d:=.int ((max top (hmOf n ps k):Nat):Int)) rfl (qi5 rfl) rfl rfl ⟨false,n,false,ps,g,dn,k,rfl,hk k (mO k (zBa hi)),er.symm⟩ rfl ?_);refine qa0 (a:=D.bl false) (qK1 rfl) (qa0 (a:=false) rfl (Dt (by decide) (hK2 _ ⟨_,max top (hmOf n ps k)+1,.int k,?_,by rw[qe8 hi];exact F'⟩)));rw[show (((max top (hmOf n ps k)+1:Nat):Int) - 1)=((max top (hmOf n ps k):Nat):Int) by lia]
   rintro ds ⟨gL,top,d4,rfl,F⟩;exact hK _ ⟨_,_,rfl⟩
 rintro ds ⟨d3,d4,rfl⟩;exact qi3 (.bl true) rfl q
theorem qm1:qa9 ["_law_script", "_law_bag_here", "_law_drawn_here", "_law_some", "_law_plan", "_law_keys", "_law_made", "_law_row", "_law_key", "_law_turn", "_law_order_here", "_law_alone", "_law_other"] ["_law_script"] (qa3 Fv):=by walk_at "s"
theorem qaJ6(T:Txt K mg a):By P w K mg base (CX1 P w) 12 a.f42 a.d42 ["_law_script"] (Gf K):=by
 refine T.d42.F.okX qm1 (λ vs H Q E h=>?_) (λ cdv A outer s H vs Q E hr h=>?_)
 . obtain⟨l,ns,rfl,_⟩:=h
   rfl
 obtain⟨l,ns,rfl,hS,hl,k⟩:=h;refine⟨_,qW7 (sset 1 qm1.nd (callD T.d30 (qaA5 T) (rm hr) (qg4 (pv 0) qA0))) (show VSs ⟨E,λ _=>false,List.replicate 13 none,[]⟩ (Dn (CX1 P w) P w K mg base ["_law_script", "_law_bag_here", "_law_drawn_here", "_law_some", "_law_plan", "_law_keys", "_law_made", "_law_row", "_law_key", "_law_turn", "_law_order_here", "_law_alone", "_law_other"] "law" (qa3 Fv) a.f42 cdv A outer s H E) _ _ from(Ab (Ew (Aj T.d36 (qaf4 T) qa1 (rm hr) (vaN 1 (vaV (qa5 Ae) Ac))) (Gm (n:=2) rfl (qE9 (Bc 2 qm1.nd) (qE9 (Bc 3 qm1.nd) Gk))))
     (Ab (Al 4 qm1.nd (qa5 (Eu (qa2 (v2 (Av qb6) Ap (vnm 2) Ae) (qa2 vbl (qa2 (v2 (Av qb6) Ap (vnm 2) Ae) qa7 rfl) rfl) rfl))))
     (Ab (Al 5 qm1.nd (Aj T.d37 (qS7 T) qa1 (rm hr) (vaN 4 (vaN 3 Ac))))
     (Ab (Al 6 qm1.nd (efzV (emake T.C5 T.Cz T.d7 (qJ4 T) qa1 (rm hr) (vaV (qc2 (v2 (Av qb6) Ap (vnm 4) Ae)) (vaV (qa5 vbl) (vaV (qa5 (Fx ql7 qaa9.ops T.Cj (qa2 (v2 (Av qb6) Ap (vnm 4) Ae) qa7 rfl))) Ac))))))
     (Ab (Al 7 qm1.nd (qaE1 (ndv:=[]) T.C7 T.Cy T.d24.bn (qx8 T) qa1 (rm hr) (vaN 6 Ac)))
     (Ab (sforP PassesOwn.leaving (vpn 5) (Bc 8 qm1.nd)
     (Ah (sif (Bs (te (Aj T.d40 (qA4 T) qa1 (rm hr) (vaN 7 (vaN 4 (vaV (qa5 Fk) (vaN 8 Ac)))))))
     (Ah (At (qa5 vbl)))
     Ax)))
     (Ab (sif (Bs (te (Aj T.d41 (qk2 T) qa1 (rm hr) (vaN 7 (vaN 4 (vaN 5 Ac))))))
     (Ah (At (qa5 vbl)))
     Ax)
     (Ab (qR6 PassesOwn.leaving T.Ch (Dx (vaV (qa5 (vbi (qr5 rfl) qP2.ops T.Cu (qa2 Ae (qa2 (vbi qx1 qx0.ops T.Cg (qa2 (vnm 5) qa7 rfl)) qa7 rfl) rfl))) Ac)) (Bc 9 qm1.nd)
     (Ab (Al 8 qm1.nd (e2nP 5 (Av qb6) Ap (Aj T.d31 (qc1 T) qa1 (rm hr) (vaN 1 (vaV (qa5 (vbi qx1 qx0.ops T.Cg (qa2 (vnm 5) qa7 rfl))) Ac)))))
     (Ab (Al 10 qm1.nd (Aj T.d38 (qA3 T) qa1 (rm hr) (vaN 4 (vaN 5 Ac))))
     (Ab (Al 11 qm1.nd (qaE1 (ndv:=[]) T.C7 T.Cy T.d24.bn (qx8 T) qa1 (rm hr) (vaN 6 Ac)))
     (Ab (E4 PassesOwn.leaving (qa5 (vsl (vnm 10) Ho (Hq (v2 (Ak qg1) qg0 (vbm qaf0 PySem.F.plainAttrs_list PySem.F.slot_list_index PySem.F.type_list_index qA8 (vnm 10) (vnm 8) qN7) Ae)))) (Bc 12 qm1.nd)
     (Ah (Bj (qh0 11 T.d28 T.C7.cl (qD9 T) qa1 (rm hr) (vaN 12 Ac)))))
     (Ab (sif (q2e (Ba (qD7 hr.u64) (qb3 _)) (Au (qD7 hr.u64) (qb3 _)) Fj (qh0 11 T.d27 T.C7.cl (qc3 T) qa1 (rm hr) (vaN 8 Ac)) (qh0 7 T.d27 T.C7.cl (qc3 T) qa1 (rm hr) (vaN 8 Ac)))
     (Ah (At (qa5 vbl)))
     Ax)
     (Ah (sif (tor (Bs (te (Aj T.d40 (qA4 T) qa1 (rm hr) (vaN 7 (vaN 4 (vaV (qa5 Fk) (vaN 8 Ac))))))) (tor1 (Bs (te (Aj T.d40 (qA4 T) qa1 (rm hr) (vaN 7 (vaN 4 (vaV (qa5 Fk) (vaN 8 Ac))))))))).te
     (Ah (At (qa5 vbl)))
     Ax))))))))
     (Ah (At (Aj T.d41 (qk2 T) qa1 (rm hr) (vaN 7 (vaN 4 (vaN 5 Ac))))))))))))))).h,?_⟩
 refine⟨_,rfl,l,ns,rfl,hS,hl,λ p L H' hp hL kp B=>?_⟩;obtain⟨x,y,z,ns',B⟩:=B;refine qag1 (rest:=[]) (X:=Dn (CX1 P w) P w K mg base [] "law" (qa3 Fv) a.f42 cdv A outer s H E) (n:=11) (x:=x) (y:=y) (z:=z) (ns:=ns') rfl (λ _=>rfl) rfl B.at_ B.li B.ne (λ H'=>k H') ?_;have B0:isBag ns' (bagD x y z ns'):=⟨x,y,z,rfl,B.x0,B.y0,B.y1,B.z0,B.nn⟩
 generalize bagD x y z ns'=b at B0;generalize V.ref l=u;refine As [.hole u,b,.unk,.unk,.unk,.unk,.unk,.unk,.unk,.unk,.unk,.unk,.unk] rfl ?_;refine qc8 (λ ds=>∃ b n wr ps ks,ds=[.hole u,b,planT n wr ps,.lst false (ksD ks),.unk,.unk,.unk,.unk,.unk,.unk,.unk,.unk,.unk]/\isBag ns' b/\1<=n/\n<=64/\Hh ps/\ks.Nodup/\(∀ k∈ks,Am k)/\ks.length<=66) (λ K hK=>?_) ?_
 . refine qk5 (qb9 (x:=b) (qm2 rfl B0.known) (qe0 (y:=.int 64) rfl (qd1 (qa0 (a:=b) (qm2 rfl B0.known) ?_))))
   refine⟨b,64,ns',rfl,B0,by decide,by decide,λ b' n wr ps ks B' n1 n2 G nd hk hle=>?_⟩;exact qa0 (a:=[.hole u,b',.unk,.unk,.unk,.unk,.unk,.unk,.unk,.unk,.unk,.unk,.unk]) rfl (qB6 (hK _ ⟨b',n,wr,ps,ks,rfl,B',n1,n2,G,nd,hk,hle⟩))
 rintro ds ⟨b,n,wr,ps,ks,rfl,B,n1,n2,G,ndk,hk,hle⟩;refine qb1 [.hole u,b,planT n wr ps,.lst false (ksD ks),planT n false ps,.unk,.unk,.unk,.unk,.unk,.unk,.unk,.unk] (λ K hK=>qD1 rfl hK) ?_;refine qc8 (λ ds=>∃ S,ds=[.hole u,b,planT n wr ps,.lst false (ksD ks),planT n false ps,.lst false (ksD S),.unk,.unk,.unk,.unk,.unk,.unk,.unk]/\S.Sublist ks/\∀ q,¬ Crowd n.toNat false (hmOf n ps) S q) (λ K hK=>?_) ?_
 . exact qf4 (qaE8 (x:=planT n false ps) (y:=.lst false (ksD ks)) rfl rfl rfl ⟨n,ps,false,ks,rfl,n1,n2,G.nd,ndk,by lia,λ S h1 h2=>qa0 (a:=[.hole u,b,planT n wr ps,.lst false (ksD ks),planT n false ps,.unk,.unk,.unk,.unk,.unk,.unk,.unk,.unk]) rfl (hK _ ⟨S,rfl,h1,h2⟩)⟩)
 rintro ds ⟨S,rfl,hsub,nc⟩;have ndS:S.Nodup:=ndk.sublist hsub;have hS:∀ x∈S,Am x:=λ x hx=>hk x (hsub.subset hx)
 have lS:S.length<=64:=by
   by_cases h:n.toNat < S.length
   . exact absurd ⟨by lia,by rw[if_neg (by decide),List.filter_eq_self.mpr λ _ _=>zAq (zBt _)];lia⟩ (nc 0)
   lia
 refine qb1 [.hole u,b,planT n wr ps,.lst false (ksD ks),planT n false ps,.lst false (ksD S),Aa true a.C3 n false ps,.unk,.unk,.unk,.unk,.unk,.unk] (λ K hK=>?_) ?_
 . refine qf4 (fz_to (qaB3 ?_))
   refine qf6 (y:=.int n) rfl rfl (qe0 (y:=.bl false) rfl (qe0 (y:=.lst false (prD ps)) (qal3 (z:=true)) (qd1 ?_)));refine⟨n,false,false,ps,rfl,n1,n2,G,rfl,?_⟩;show K (List.set _ 6 (Aa false a.C3 n false ps).fz);rw[qaD4];exact hK
 refine qb1 [.hole u,b,planT n wr ps,.lst false (ksD ks),planT n false ps,.lst false (ksD S),Aa true a.C3 n false ps,Ag false a.C4 a.C3 n false ps (λ _=>none) [],.unk,.unk,.unk,.unk,.unk] (λ K hK=>?_) ?_
 . refine qf4 (qb9 (x:=Aa true a.C3 n false ps) rfl (qd1 (qa0 (a:=Aa true a.C3 n false ps) rfl ⟨n,false,ps,rfl,n1,n2,rfl,hK⟩)))
 refine qc8 (λ ds=>∃ g dn d8,ds=[.hole u,b,planT n wr ps,.lst false (ksD ks),planT n false ps,.lst false (ksD S),Aa true a.C3 n false ps,Ag false a.C4 a.C3 n false ps g dn,d8,.unk,.unk,.unk,.unk]/\Kept n.toNat false (hmOf n ps) g S/\dn.length<=64) (λ K hK=>?_) ?_
 . refine qa0 (a:=(5,[])) rfl (qa0 (a:=D.lst false (ksD S)) rfl (qa0 (a:=ksD S) rfl ⟨qf3 S,λ w=>?_⟩))
   refine qd3 (λ i ds=>∃ g dn d8,ds=[.hole u,b,planT n wr ps,.lst false (ksD ks),planT n false ps,.hole w,Aa true a.C3 n false ps,Ag false a.C4 a.C3 n false ps g dn,d8,.unk,.unk,.unk,.unk]/\Kept n.toNat false (hmOf n ps) g (S.take i)/\dn.length=i) _ 0 _ ⟨_,[],_,rfl,Kept.none (by lia) (B8 n1),rfl⟩ ?_ ?_
   . rintro i y hy ds ⟨g,dn,d8,rfl,KP,hd⟩ K2 hK2
     rw[zAo] at KP hd hK2;obtain⟨k,hi,rfl⟩:=qJ9 hy;have hil:=(zA5.mp hi).1;have hkS:=zBa hi;refine ql4 (As [.hole u,b,planT n wr ps,.lst false (ksD ks),planT n false ps,.hole w,Aa true a.C3 n false ps,Ag false a.C4 a.C3 n false ps g dn,.int k,.unk,.unk,.unk,.unk] rfl ?_);refine qk5 (qb9 (x:=Ag false a.C4 a.C3 n false ps g dn) rfl (qb9 (x:=planT n false ps) rfl (qe0 (y:=.str "put") rfl (qb9 (x:=.int k) rfl (qd1 (qa0 (a:=D.int k) rfl (qa0 (a:=planT n false ps) rfl (qa0 (a:=Ag false a.C4 a.C3 n false ps g dn) rfl ?_))))))));refine⟨n,ps,g,dn,S.take i,k, "put",rfl,n1,n2,G.nd,hS k hkS,λ x hx=>hS x (List.mem_of_mem_take hx),KP,by lia,.inl ⟨rfl,ql1 ndS hi,λ q c=>nc q (c.mono (by rw[<- qe8 hi];exact zC0 _ _)),λ g' x K'=>?_⟩⟩;refine qa0 (a:=[.hole u,b,planT n wr ps,.lst false (ksD ks),planT n false ps,.hole w,Aa true a.C3 n false ps,Ag false a.C4 a.C3 n false ps g' (dn++[x]),.int k,.unk,.unk,.unk,.unk]) rfl (qa0 (a:=true) rfl (Dt (by decide) (hK2 _ ⟨g',_,_,rfl,?_,by rw[zA7,hd];rfl⟩)));rw[qe8 hi];exact K'
   rintro ds ⟨g,dn,d8,rfl,KP,hd⟩;rw[zAo,qg3] at KP hd;rw[List.take_length] at KP;exact qa0 (qan0 rfl) (hK _ ⟨g,dn,d8,rfl,KP,by lia⟩)
 rintro ds ⟨g,dn,d8,rfl,KP,hd⟩;refine guard (λ Q xe q=>qJ6 (x:=Ag false a.C4 a.C3 n false ps g dn) (y:=planT n false ps) (w:=.lst false (ksD S)) (d:=.bl true) rfl rfl rfl rfl rfl ⟨n,ps,g,dn,false,S,S,rfl,n1,G.nd,ndS,lS,hS,KP,.refl _,rfl⟩ rfl q) ?_;refine qc8 (λ ds=>∃ b g dn S' d8 d9 d10 d11 d12,ds=[.hole u,b,planT n wr ps,.lst false (ksD ks),planT n false ps,.lst false (ksD S),Aa true a.C3 n false ps,Ag false a.C4 a.C3 n false ps g dn,d8,d9,d10,d11,d12]/\isBag ns' b/\Kept n.toNat false (hmOf n ps) g S'/\S.Perm S') (λ K hK=>?_) ?_
 . refine qO2 (n:=if (S.length:Int) < 8 then (S.length:Int) else 8) ?_ (qX9 (by split<;>lia) (by split<;>lia)) ?_
   . show some (D.int (if (((ksD S).length:Nat):Int) < 8 then (((ksD S).length:Nat):Int) else 8))=_
     rw[qg3]
   refine qd3 (λ i ds=>∃ b g dn S' d8 d9 d10 d11 d12,ds=[.hole u,b,planT n wr ps,.lst false (ksD ks),planT n false ps,.lst false (ksD S),Aa true a.C3 n false ps,Ag false a.C4 a.C3 n false ps g dn,d8,d9,d10,d11,d12]/\isBag ns' b/\Kept n.toNat false (hmOf n ps) g S'/\S.Perm S'/\dn.length<=64+2 * i) _ 0 _ ⟨b,g,dn,S,_,_,_,_,_,rfl,B,KP,.refl _,by lia⟩ ?_ ?_
   . rintro i y hy ds ⟨b,g,dn,S',d8,d9,d10,d11,d12,rfl,B,KP,pS,hd⟩ K2 hK2
     rw[zAo] at hd hK2;obtain⟨hi,rfl⟩:=qR8 hy;have hi8:i < 8/\0 < S.length:=by revert hi;split<;>lia
     refine ql4 (As [.hole u,b,planT n wr ps,.lst false (ksD ks),planT n false ps,.lst false (ksD S),Aa true a.C3 n false ps,Ag false a.C4 a.C3 n false ps g dn,d8,.int (i:Nat),d10,d11,d12] rfl ?_);refine qc8 (λ ds=>∃ b k,ds=[.hole u,b,planT n wr ps,.lst false (ksD ks),planT n false ps,.lst false (ksD S),Aa true a.C3 n false ps,Ag false a.C4 a.C3 n false ps g dn,.int k,.int (i:Nat),d10,d11,d12]/\isBag ns' b/\k∈S) (λ K hK=>?_) ?_
     . refine qf4 ⟨rfl,qe3 (ds:=[.hole u,b,planT n wr ps,.lst false (ksD ks),planT n false ps,.lst false (ksD S),Aa true a.C3 n false ps,Ag false a.C4 a.C3 n false ps g dn,d8,.int (i:Nat),d10,d11,d12]) (m:=(S.length:Nat)) rfl B (by rw[qB1 (ys:=ksD S) (z:=false) rfl,qg3]) (by lia) (by lia) λ v b' v0 v1 B'=>?_⟩
       obtain⟨k,hk1,hk2⟩:∃ k,S[v.toNat]? = some k/\k∈S:=⟨S[v.toNat]'(by lia),by simp,List.getElem_mem _⟩
       have ev:gIx (.lst false (ksD S)) (.int v)=some (.int k):=by
         rw[show v=((v.toNat:Nat):Int) by lia];exact qab8 (by unfold ksD;rw[zB8,hk1];rfl)
       exact qa0 (a:=D.int k) ev ⟨rfl,hK _ ⟨b',k,rfl,B',hk2⟩⟩
     rintro ds ⟨b,k,rfl,B,hkS⟩;obtain⟨L,R,eO,nL,pw,pm,lx⟩:=qaq8 (ps:=ps) n1 ndS hkS;have eLk:L++k::R=(L++[k])++R:=by rw[zAi];rfl
     refine qb1 [.hole u,b,planT n wr ps,.lst false (ksD ks),planT n false ps,.lst false (ksD S),Aa true a.C3 n false ps,Ag false a.C4 a.C3 n false ps g dn,.int k,.int (i:Nat),.lst false (ksD (L++k::R)),d11,d12] (λ K hK=>qf4 (qu1 (x:=planT n false ps) (y:=.lst false (ksD S)) (d:=.lst false (ksD (L++k::R))) rfl rfl rfl ⟨n,false,ps,false,S,rfl,n1,G.nd,ndS,lS,by rw[eO]⟩ rfl hK)) ?_;refine qb1 [.hole u,b,planT n wr ps,.lst false (ksD ks),planT n false ps,.lst false (ksD S),Aa true a.C3 n false ps,Ag false a.C4 a.C3 n false ps g dn,.int k,.int (i:Nat),.lst false (ksD (L++k::R)),Ag false a.C4 a.C3 n false ps (λ _=>none) [],d12] (λ K hK=>qf4 (qb9 (x:=Aa true a.C3 n false ps) rfl (qd1 (qa0 (a:=Aa true a.C3 n false ps) rfl ⟨n,false,ps,rfl,n1,n2,rfl,hK⟩)))) ?_;refine qc8 (λ ds=>∃ ga da d12,ds=[.hole u,b,planT n wr ps,.lst false (ksD ks),planT n false ps,.lst false (ksD S),Aa true a.C3 n false ps,Ag false a.C4 a.C3 n false ps g dn,.int k,.int (i:Nat),.lst false (ksD (L++k::R)),Ag false a.C4 a.C3 n false ps ga da,d12]/\Kept n.toNat false (hmOf n ps) ga (L++[k])) (λ K hK=>?_) ?_
     . refine qq6 (qau1 (S:=(L++[k])++R) (h:=some (((L++[k]).length:Nat):Int)) (by rw[<- eLk];rfl) rfl ?_ qaE2) (qa0 (a:=ksD (L++[k])) rfl ⟨qf3 _,?_⟩)
       . show (f2 G0 (f2 Hv (rdN 10) (rdN 8)) (kC (.int 1)) _).bind _=_
         rw[Af (y:=.int 1) (Af (x:=.lst false (ksD (L++k::R))) (y:=.int k) rfl rfl (qaC9 nL)) rfl rfl,zA7];rfl
       refine qd3 (λ j ds=>∃ ga da d12,ds=[.hole u,b,planT n wr ps,.lst false (ksD ks),planT n false ps,.lst false (ksD S),Aa true a.C3 n false ps,Ag false a.C4 a.C3 n false ps g dn,.int k,.int (i:Nat),.lst false (ksD (L++k::R)),Ag false a.C4 a.C3 n false ps ga da,d12]/\Kept n.toNat false (hmOf n ps) ga ((L++[k]).take j)/\da.length=j) _ 0 _ ⟨_,[],_,rfl,Kept.none (by lia) (B8 n1),rfl⟩ ?_ ?_
       . rintro j y hy ds ⟨ga,da,d12,rfl,Ka,hda⟩ K3 hK3
         rw[zAo] at Ka hda hK3;obtain⟨x,hj,rfl⟩:=qJ9 hy;have hjl:=(zA5.mp hj).1;have sb:(L++[k]).Sublist (L++k::R):=by rw[eLk];exact zB7 _ _
         have ndL:(L++[k]).Nodup:=(pm.nodup_iff.mpr ndS).sublist sb;have inS:∀ x∈L++[k],x∈S:=λ x hx=>pm.mem_iff.mp (sb.subset hx)
         have ll:(L++[k]).length<=64:=by have:=sb.length_le;rw[pm.length_eq] at this;lia
         refine ql4 (qu5 ?_);refine qE2 (p:=Ag false a.C4 a.C3 n false ps ga da) rfl (qi5 rfl) (qb9 (x:=.int x) rfl (qd1 (qa0 (a:=D.int x) rfl (qa0 (a:=Ag false a.C4 a.C3 n false ps ga da) rfl ?_))));refine⟨n,false,ps,ga,da,(L++[k]).take j,x,rfl,n1,n2,hS x (inS x (zBa hj)),λ y hy=>hS y (inS y (List.mem_of_mem_take hy)),Ka,ql1 ndL hj,λ q c=>?_,by lia,λ came g' K'=>?_⟩
         . rw[<- qe8 hj] at c
           exact nc q ((c.mono ((zC0 _ _).trans sb)).perm pm)
         refine qa0 (a:=[.hole u,b,planT n wr ps,.lst false (ksD ks),planT n false ps,.lst false (ksD S),Aa true a.C3 n false ps,Ag false a.C4 a.C3 n false ps g dn,.int k,.int (i:Nat),.lst false (ksD (L++k::R)),Ag false a.C4 a.C3 n false ps g' (da++[.tup [.str "put",.int x]]),.int x]) rfl (hK3 _ ⟨g',_,_,rfl,by rw[qe8 hj];exact K',by rw[zA7,hda];rfl⟩)
       rintro ds ⟨ga,da,d12,rfl,Ka,hda⟩;rw[zAo,qg3,List.take_length] at Ka;exact hK _ ⟨ga,da,d12,rfl,Ka⟩
     rintro ds ⟨ga,da,d12,rfl,Ka⟩;obtain⟨j,hj,e1,e2⟩:=qB0 (L:=L++[k]) (R:=R) (R':=[]) (by lia) (B8 n1) KP Ka (by rw[<- eLk];exact pw) (by rw[<- eLk];exact pm.trans pS) (by rw[zAd];rw[eLk] at pw;exact(zBr.mp pw).1) (by rw[zAd]) k (zAp _ (zA8.mpr rfl));refine qat0 (qaG8 (qq7 (p:=Ag false a.C4 a.C3 n false ps ga da) (x:=.int k) (d:=.int (j:Nat)) rfl (qi5 rfl) rfl rfl ⟨false,n,false,ps,ga,da,k,rfl,hS k hkS,(qx6 hj e2 Ka.o.inj).symm⟩ rfl ?_));refine qq7 (p:=Ag false a.C4 a.C3 n false ps g dn) (x:=.int k) (d:=.int (j:Nat)) rfl (qi5 rfl) rfl rfl ⟨false,n,false,ps,g,dn,k,rfl,hS k hkS,(qx6 hj e1 KP.o.inj).symm⟩ rfl ?_;refine qa0 (a:=D.bl false) (qK1 rfl) (qa0 (a:=false) rfl (Dt (by decide) ?_));have hS':∀ x∈S',Am x:=λ x hx=>hS x (pS.mem_iff.mpr hx)
     refine qk5 (qb9 (x:=Ag false a.C4 a.C3 n false ps g dn) rfl (qb9 (x:=planT n false ps) rfl (qe0 (y:=.str "take") rfl (qb9 (x:=.int k) rfl (qd1 (qa0 (a:=D.int k) rfl (qa0 (a:=planT n false ps) rfl (qa0 (a:=Ag false a.C4 a.C3 n false ps g dn) rfl ?_))))))));refine⟨n,ps,g,dn,S',k, "take",rfl,n1,n2,G.nd,hS k hkS,hS',KP,by lia,.inr ⟨rfl,pS.mem_iff.mp hkS,λ g1 x1 K1=>?_⟩⟩;refine qa0 (a:=[.hole u,b,planT n wr ps,.lst false (ksD ks),planT n false ps,.lst false (ksD S),Aa true a.C3 n false ps,Ag false a.C4 a.C3 n false ps g1 (dn++[x1]),.int k,.int (i:Nat),.lst false (ksD (L++k::R)),Ag false a.C4 a.C3 n false ps ga da,d12]) rfl (qa0 (a:=true) rfl (Dt (by decide) ?_));have nk:¬ k∈S'.filter λ x=>decide (x≠k):=λ h=>by simp at h
     have pk:S.Perm ((S'.filter λ x=>decide (x≠k))++[k]):=(zBn ndS (zBi.mpr ⟨K1.h.1,(by simp),λ x hx y hy e=>(zAf (zAw.mp hx).2) (e.trans (zA8.mp hy))⟩)).mpr λ x=>by
       rw[zAb,zAw,zB5,zA8,<- pS.mem_iff];refine⟨λ h=>?_,λ h=>h.elim (λ h=>h.1) λ h=>h ▸ hkS⟩;by_cases e:x=k
       . exact .inr e
       exact .inl ⟨h,e⟩
     refine qk5 (qb9 (x:=Ag false a.C4 a.C3 n false ps g1 (dn++[x1])) rfl (qb9 (x:=planT n false ps) rfl (qe0 (y:=.str "put") rfl (qb9 (x:=.int k) rfl (qd1 (qa0 (a:=D.int k) rfl (qa0 (a:=planT n false ps) rfl (qa0 (a:=Ag false a.C4 a.C3 n false ps g1 (dn++[x1])) rfl ?_))))))));refine⟨n,ps,g1,dn++[x1],S'.filter λ x=>decide (x≠k),k, "put",rfl,n1,n2,G.nd,hS k hkS,λ x hx=>hS' x (zAw.mp hx).1,K1,by rw[zA7];show _+1<=900;lia,.inl ⟨rfl,nk,λ q c=>nc q (c.perm pk.symm),λ g2 x2 K2'=>?_⟩⟩;exact qa0 (a:=[.hole u,b,planT n wr ps,.lst false (ksD ks),planT n false ps,.lst false (ksD S),Aa true a.C3 n false ps,Ag false a.C4 a.C3 n false ps g2 (dn++[x1]++[x2]),.int k,.int (i:Nat),.lst false (ksD (L++k::R)),Ag false a.C4 a.C3 n false ps ga da,d12]) rfl (qa0 (a:=true) rfl (Dt (by decide) (hK2 _ ⟨b,g2,_,_,_,_,_,_,_,rfl,B,K2',pk,by rw[zA7,zA7];show _+1+1<=_;lia⟩)))
   rintro ds ⟨b,g,dn,S',d8,d9,d10,d11,d12,rfl,B,KP,pS,hd⟩;exact hK _ ⟨b,g,dn,S',d8,d9,d10,d11,d12,rfl,B,KP,pS⟩
 rintro ds ⟨b,g,dn,S',d8,d9,d10,d11,d12,rfl,B,KP,pS⟩;exact qi9 (qJ6 (x:=Ag false a.C4 a.C3 n false ps g dn) (y:=planT n false ps) (w:=.lst false (ksD S)) (d:=.bl true) rfl rfl rfl rfl rfl ⟨n,ps,g,dn,false,S,S',rfl,n1,G.nd,ndS,lS,hS,KP,pS,rfl⟩ rfl rfl)
end
theorem dfX{K:W.Frag}{mg:Str->Option Value}{x qual:Str}{st:Stmt}{f:Addr}{ps:List Str}{oc:Value}{od an:Option Addr}{osl:Array (Option Value)}{kV doc pm cdv ct:Value}{h:Heap}(X:K.In h)(G:h.Ns mainGlobals mg)(a:W.nsIn K mainGlobals x=some (some (.ref f)))(l:K.lookup f=some ⟨oc,od,.func (W.fnOf x qual (qe2 st) (qc6 st) (qa3 st) .none kV doc pm an cdv ct),osl⟩)(c:W.codeIn K cdv qual=true)(k:W.keepIn K (.ref f)=true)(b:∀(kV doc pm:Value)(an:Option Addr)(cdv ct:Value)(us:List Value),us.length=ps.length->bindArgs (W.fnOf x qual (qe2 st) (qc6 st) (qa3 st) .none kV doc pm an cdv ct) ⟨us,[]⟩=pure (ps.zip us)) :
 Df K mg x qual st f (W.fnOf x qual (qe2 st) (qc6 st) (qa3 st) .none kV doc pm an cdv ct) ps:=dfmk l c k (W.mg_of X G a) b
theorem qaN5{l:W.OpenLaw}{w:World}{K:W.Frag}{mg:Str->Option Value}{fa f0 f1 f2 f3 f4 f5 f6 f7 f8 f9 f10 f11 f12 f13 f14 f15 f16 f17 f18 f19 f20 f21 f22 f23 f24 f25 f26 f27 f28 f29 f30 f31 f32 f33 f34 f35 f36 f37 f38 f39 f40 f41 f42 C0 C1:Addr}{d0 d1 d2 d3 d4 d5 d6 d7 d8 d9 d10 d11 d12 d13 d14 d15 d16 d17 d18 d19 d20 d21 d22 d23 d24 d25 d26 d27 d28 d29 d30 d31 d32 d33 d34 d35 d36 d37 d38 d39 d40 d41 d42:FuncData}{Ca Ce Cc:Tok}(hfa:mg "law" = some (.ref fa))(j0:Df K mg "_wall" "_wall" qaj3 f0 d0 ["k"])(j1:Df K mg "is_whole" "is_whole" qs6 f1 d1 ["thing"])(j2:Df K mg "is_whole_within" "is_whole_within" qe9 f2 d2 ["thing", "least", "most"])(j3:Df K mg "is_number" "is_number" qo2 f3 d3 ["thing"])(j4:Df K mg "are_parted" "are_parted" qk7 f4 d4 ["numbers"])(j5:Df K mg "is_number_pair" "is_number_pair" qf9 f5 d5 ["thing"])(j6:Df K mg "is_home_list" "is_home_list" qh3 f6 d6 ["thing"])(j7:Md K C0 "__init__" "Plan.__init__" qo5 f7 d7 ["self", "rooms", "wraps", "homes"])(j8:Md K C0 "is_room" "Plan.is_room" qh5 f8 d8 ["self", "thing"])(j9:Md K C0 "home" "Plan.home" qo6 f9 d9 ["self", "key"])(j10:Md K C0 "far" "Plan.far" qt1 f10 d10 ["self", "key", "room"])(j11:Md K C0 "goes_ahead" "Plan.goes_ahead" qf0 f11 d11 ["self", "room", "one", "other"])(j12:Df K mg "room_ahead" "room_ahead" qs5 f12 d12 ["plan", "room"])(j13:Df K mg "word_by_room_ahead" "word_by_room_ahead" qf8 f13 d13 ["plan", "rooms", "room"])(j14:Df K mg "word_due" "word_due" qs4 f14 d14 ["plan", "rooms", "room"])(j15:Df K mg "is_turned" "is_turned" qo1 f15 d15 ["plan", "rooms"])(j16:Df K mg "fault_of" "fault_of" qs7 f16 d16 ["plan", "rooms"])(j17:Df K mg "are_crowd" "are_crowd" qo4 f17 d17 ["plan", "keys", "room"])(j18:Df K mg "crowded_room" "crowded_room" qh4 f18 d18 ["plan", "keys"])(j19:Df K mg "refuse_crowd" "refuse_crowd" qh2 f19 d19 ["plan", "keys"])(j20:Df K mg "bring_in" "bring_in" qs8 f20 d20 ["plan", "rooms", "key"])(j21:Df K mg "room_behind" "room_behind" qi7 f21 d21 ["plan", "room"])(j22:Df K mg "is_drawn_from" "is_drawn_from" qg6 f22 d22 ["plan", "rooms", "room"])(j23:Df K mg "draw_back" "draw_back" qo3 f23 d23 ["plan", "rooms", "room"])(j24:MdN K C1 "__init__" "Row.__init__" qt0 f24 d24 ["self", "plan", "rooms"])(j25:Md K C1 "keys_held" "Row.keys_held" qg7 f25 d25 ["self"])(j26:Md K C1 "many" "Row.many" qD4 f26 d26 ["self"])(j27:Md K C1 "room_of" "Row.room_of" qi8 f27 d27 ["self", "key"])(j28:Md K C1 "put" "Row.put" qz5 f28 d28 ["self", "key"])(j29:Md K C1 "take" "Row.take" qs9 f29 d29 ["self", "key"])(j30:Df K mg "_law_bag" "_law_bag" qao8 f30 d30 ["_law_script"])(j31:Df K mg "_law_take" "_law_take" qW2 f31 d31 ["_law_bag_here", "_law_many"])(j32:Df K mg "_law_home" "_law_home" qW3 f32 d32 ["_law_plan", "_law_key"])(j33:Df K mg "_law_passing" "_law_passing" qt2 f33 d33 ["_law_plan", "_law_keys"])(j34:Df K mg "_law_housed" "_law_housed" qz6 f34 d34 ["_law_plan", "_law_keys"])(j35:Df K mg "_law_drawn_homes" "_law_drawn_homes" qh7 f35 d35 ["_law_bag_here", "_law_size", "_law_many"])(j36:Df K mg "_law_drawn" "_law_drawn" qI6 f36 d36 ["_law_bag_here", "_law_most"])(j37:Df K mg "_law_fitting" "_law_fitting" qt3 f37 d37 ["_law_plan", "_law_keys"])(j38:Df K mg "_law_order" "_law_order" qI4 f38 d38 ["_law_plan", "_law_keys"])(j39:Df K mg "_law_stays" "_law_stays" qI3 f39 d39 ["_law_row", "_law_plan", "_law_before", "_law_key"])(j40:Df K mg "_law_moved" "_law_moved" qI5 f40 d40 ["_law_row", "_law_plan", "_law_word", "_law_key"])(j41:Df K mg "_law_rooms_right" "_law_rooms_right" qh6 f41 d41 ["_law_row", "_law_plan", "_law_keys"])(j42:Df K mg "law" "law" Fv f42 d42 ["_law_script"])(j43:mg "MOST_NUMBER" = some (.int 1000000000000000000 Ca))(j44:mg "MOST_ROOMS" = some (.int 64 Ce))(j45:mg "MOST_HOMES" = some (.int 64 Cc))(j46:mg "abs" = none)(j47:mg "all" = none)(j48:mg "bool" = none)(j49:mg "dict" = none)(j50:mg "enumerate" = none)(j51:mg "int" = none)(j52:mg "isinstance" = none)(j53:mg "len" = none)(j54:mg "list" = none)(j55:mg "max" = none)(j56:mg "min" = none)(j57:mg "range" = none)(j58:mg "set" = none)(j59:mg "sorted" = none)(j60:mg "tuple" = none)(j61:Cl K mg "Plan" C0)(j62:Mk K C0 f7)(j63:qf1 K C0 "rooms")(j64:qf1 K C0 "wraps")(j65:qf1 K C0 "homes")(j66:qf1 K C0 "home_numbers")(j67:IsO K C0)(j68:Cl K mg "Row" C1)(j69:Mk K C1 f24)(j70:qf1 K C1 "plan")(j71:qf1 K C1 "held")(j72:qf1 K C1 "done")(hb:∀(s:Shared)(v:Value),BindsTo s d42 ⟨[v],[]⟩ [("_law_script",v)]):∃ fd:FuncData,(∀(s:Shared)(v:Value),BindsTo s fd ⟨[v],[]⟩ [("_law_script",v)])/\∀ base:Heap,K.In base->base.Ns mainGlobals mg->By l.prog w K mg base (CX1 l.prog w) 12 fa fd ["_law_script"] (Gf K):=by
 have e:=hfa.symm.trans j42.m;injection e with e
 injection e with e
 subst e;exact⟨d42,hb,λ base _ _=>qaJ6 (a:=⟨f0,d0,f1,d1,f2,d2,f3,d3,f4,d4,f5,d5,f6,d6,f7,d7,f8,d8,f9,d9,f10,d10,f11,d11,f12,d12,f13,d13,f14,d14,f15,d15,f16,d16,f17,d17,f18,d18,f19,d19,f20,d20,f21,d21,f22,d22,f23,d23,f24,d24,f25,d25,f26,d26,f27,d27,f28,d28,f29,d29,f30,d30,f31,d31,f32,d32,f33,d33,f34,d34,f35,d35,f36,d36,f37,d37,f38,d38,f39,d39,f40,d40,f41,d41,fa,d42,Ca,Ce,Cc,C0,C1⟩) ⟨j0,j1,j2,j3,j4,j5,j6,j7,j8,j9,j10,j11,j12,j13,j14,j15,j16,j17,j18,j19,j20,j21,j22,j23,j24,j25,j26,j27,j28,j29,j30,j31,j32,j33,j34,j35,j36,j37,j38,j39,j40,j41,j42,j43,j44,j45,j46,j47,j48,j49,j50,j51,j52,j53,j54,j55,j56,j57,j58,j59,j60,j61,j62,j63,j64,j65,j66,j67,j68,j69,j70,j71,j72⟩⟩
theorem walk{l:W.OpenLaw}{q:Program}{loose:List Str}{XP:(Str->Option Value)->Heap->Prop}{YP:World->Heap->Prop}{d:DefRec}{K:Params->W.Frag}(hn:l.most=some 63)(hdf:d.params.defaults=[])(hY:∀(w:World)(h:Heap),YP w h->(K w.params).In h)(F:∀(w:World)(mg:Str->Option Value)(fa:Addr)(h:Heap),(K w.params).In h->h.Ns mainGlobals mg->mg d.name=some (.ref fa) ->
 ∃ fd:FuncData,(∀(s:Shared)(u:Value),BindsTo s fd ⟨[u],[]⟩ [("_law_script",u)])/\∀ base:Heap,(K w.params).In base->base.Ns mainGlobals mg->By l.prog w (K w.params) mg base (CX1 l.prog w) 12 fa fd ["_law_script"] (Gf (K w.params))) :
 W.WalkO q loose XP YP l.row.toRowW d [] (λ f vs=>PySem.call f vs) :=
 L2.qau9 (n:=63) (k:=12) (x := "_law_script") (CX:=λ w=>CX1 l.prog w) (sp:=λ w=>Gf (K w.params)) hn (by decide) hdf ⟨rfl,by decide,by decide⟩ hY F (λ _ _ a ns hl _ hS=>⟨a,ns,rfl,hS,hl,λ _=>rfl⟩) λ _ _ _ _ _ ⟨_,_,_,_,_,_,_,_,z⟩=>z
end LV.My
open PySem PySem.W PyProof.Rows L2
local macro_rules | `(tactic| walk_at "d1")=>`(tactic| (refine' LV.My.dfX (by assumption) (by assumption) ?a ?l ?c ?k ?b;(case a=>k_is);(case l=>k_is);(case c=>k_is);(case k=>k_is);(case b=>intro _ _ _ _ _ _ us h0;obtain⟨_,us,e,h1⟩:=LV.ec h0;subst e;have e:=zAy.mp h1;subst e;rfl)))
local macro_rules | `(tactic| walk_at "e1")=>`(tactic| (refine' mdmk ?l ?c ?k ?a ?i ?b;(case a=>k_is);(case i=>k_is);(case l=>k_is);(case c=>k_is);(case k=>k_is);(case b=>intro _ _ _ _ _ _ us h0;obtain⟨_,us,e,h1⟩:=LV.ec h0;subst e;have e:=zAy.mp h1;subst e;rfl)))
local macro_rules | `(tactic| walk_at "d2")=>`(tactic| (refine' LV.My.dfX (by assumption) (by assumption) ?a ?l ?c ?k ?b;(case a=>k_is);(case l=>k_is);(case c=>k_is);(case k=>k_is);(case b=>intro _ _ _ _ _ _ us h0;obtain⟨_,us,e,h1⟩:=LV.ec h0;subst e;obtain⟨_,us,e,h2⟩:=LV.ec h1;subst e;have e:=zAy.mp h2;subst e;rfl)))
local macro_rules | `(tactic| walk_at "e2")=>`(tactic| (refine' mdmk ?l ?c ?k ?a ?i ?b;(case a=>k_is);(case i=>k_is);(case l=>k_is);(case c=>k_is);(case k=>k_is);(case b=>intro _ _ _ _ _ _ us h0;obtain⟨_,us,e,h1⟩:=LV.ec h0;subst e;obtain⟨_,us,e,h2⟩:=LV.ec h1;subst e;have e:=zAy.mp h2;subst e;rfl)))
local macro_rules | `(tactic| walk_at "d3")=>`(tactic| (refine' LV.My.dfX (by assumption) (by assumption) ?a ?l ?c ?k ?b;(case a=>k_is);(case l=>k_is);(case c=>k_is);(case k=>k_is);(case b=>intro _ _ _ _ _ _ us h0;obtain⟨_,us,e,h1⟩:=LV.ec h0;subst e;obtain⟨_,us,e,h2⟩:=LV.ec h1;subst e;obtain⟨_,us,e,h3⟩:=LV.ec h2;subst e;have e:=zAy.mp h3;subst e;rfl)))
local macro_rules | `(tactic| walk_at "e3")=>`(tactic| (refine' mdmk ?l ?c ?k ?a ?i ?b;(case a=>k_is);(case i=>k_is);(case l=>k_is);(case c=>k_is);(case k=>k_is);(case b=>intro _ _ _ _ _ _ us h0;obtain⟨_,us,e,h1⟩:=LV.ec h0;subst e;obtain⟨_,us,e,h2⟩:=LV.ec h1;subst e;obtain⟨_,us,e,h3⟩:=LV.ec h2;subst e;have e:=zAy.mp h3;subst e;rfl)))
local macro_rules | `(tactic| walk_at "n3")=>`(tactic| (refine' LV.mdmkN ?l ?c ?k ?a ?i ?t ?b ?bn;(case a=>k_is);(case i=>k_is);(case l=>k_is);(case c=>k_is);(case k=>k_is);(case t=>k_is);(case b=>intro _ _ _ _ _ _ us h0;obtain⟨_,us,e,h1⟩:=LV.ec h0;subst e;obtain⟨_,us,e,h2⟩:=LV.ec h1;subst e;obtain⟨_,us,e,h3⟩:=LV.ec h2;subst e;have e:=zAy.mp h3;subst e;exact⟨_,rfl,rfl⟩);(case bn=>intro _ _ _ _ _ _ us h0;have h0:=Nat.succ.inj h0;obtain⟨_,us,e,h1⟩:=LV.ec h0;subst e;obtain⟨_,us,e,h2⟩:=LV.ec h1;subst e;have e:=zAy.mp h2;subst e;exact⟨_,rfl,rfl⟩)))
local macro_rules | `(tactic| walk_at "d4")=>`(tactic| (refine' LV.My.dfX (by assumption) (by assumption) ?a ?l ?c ?k ?b;(case a=>k_is);(case l=>k_is);(case c=>k_is);(case k=>k_is);(case b=>intro _ _ _ _ _ _ us h0;obtain⟨_,us,e,h1⟩:=LV.ec h0;subst e;obtain⟨_,us,e,h2⟩:=LV.ec h1;subst e;obtain⟨_,us,e,h3⟩:=LV.ec h2;subst e;obtain⟨_,us,e,h4⟩:=LV.ec h3;subst e;have e:=zAy.mp h4;subst e;rfl)))
local macro_rules | `(tactic| walk_at "e4")=>`(tactic| (refine' mdmk ?l ?c ?k ?a ?i ?b;(case a=>k_is);(case i=>k_is);(case l=>k_is);(case c=>k_is);(case k=>k_is);(case b=>intro _ _ _ _ _ _ us h0;obtain⟨_,us,e,h1⟩:=LV.ec h0;subst e;obtain⟨_,us,e,h2⟩:=LV.ec h1;subst e;obtain⟨_,us,e,h3⟩:=LV.ec h2;subst e;obtain⟨_,us,e,h4⟩:=LV.ec h3;subst e;have e:=zAy.mp h4;subst e;rfl)))
local macro_rules | `(tactic| walk_at "c")=>`(tactic| (refine' mg_of (by assumption) (by assumption) ?a;k_is))
local macro_rules | `(tactic| walk_at "z")=>`(tactic| (refine' mg_none_of (by assumption) (by assumption) ?a;k_is))
local macro_rules | `(tactic| walk_at "q")=>`(tactic| (first | k_is | kernel_rfl | rfl))
local macro_rules | `(tactic| walk_at "cl")=>`(tactic| (refine' ⟨⟨?b,?c,?d,?e⟩,mg_of (by assumption) (by assumption) ?a⟩;(case a=>k_is);(case b=>k_is);(case c=>k_is);(case d=>k_is);(case e=>k_is)))
local macro_rules | `(tactic| walk_at "m4")=>`(tactic| (refine⟨?a,?b,?c,?d⟩;(case a=>k_is);(case b=>k_is);(case c=>k_is);(case d=>k_is)))
local macro_rules | `(tactic| walk_at "n")=>`(tactic| (show findIn _ _ _=some none;k_is))
local macro_rules | `(tactic| walk_at "io")=>`(tactic| (refine⟨?_,?_,?_,?_,kf_of ?_ ?_ ?_ ?_ ?_ ?_ ?_⟩<;>walk_at "q"))
theorem PySem.Challenge.cw_homeward_k37_whole_line_hangs_holds : PySem.Challenge.rw_homeward_k37_whole_line_hangs.Holds := by
 w_on;o_law;k_head;(case hw=>w_witness2)
 k_fill
 refine LV.My.walk (l:=PySem.Challenge.rw_homeward_k37_whole_line_hangs) rfl rfl (λ w h Y=>PySem.W.kIn_of Y) ?F
 case F =>
 intro w mg fa h KX G hmg;refine' LV.My.qaN5 hmg ?j0 ?j1 ?j2 ?j3 ?j4 ?j5 ?j6 ?j7 ?j8 ?j9 ?j10 ?j11 ?j12 ?j13 ?j14 ?j15 ?j16 ?j17 ?j18 ?j19 ?j20 ?j21 ?j22 ?j23 ?j24 ?j25 ?j26 ?j27 ?j28 ?j29 ?j30 ?j31 ?j32 ?j33 ?j34 ?j35 ?j36 ?j37 ?j38 ?j39 ?j40 ?j41 ?j42 ?j43 ?j44 ?j45 ?j46 ?j47 ?j48 ?j49 ?j50 ?j51 ?j52 ?j53 ?j54 ?j55 ?j56 ?j57 ?j58 ?j59 ?j60 ?j61 ?j62 ?j63 ?j64 ?j65 ?j66 ?j67 ?j68 ?j69 ?j70 ?j71 ?j72 ?hb
 case j43=>walk_at "c"
 case j44=>walk_at "c"
 case j45=>walk_at "c"
 case j61=>walk_at "cl"
 case j68=>walk_at "cl"
 case j0=>walk_at "d1"
 case j1=>walk_at "d1"
 case j2=>walk_at "d3"
 case j3=>walk_at "d1"
 case j4=>walk_at "d1"
 case j5=>walk_at "d1"
 case j6=>walk_at "d1"
 case j7=>walk_at "e4"
 case j8=>walk_at "e2"
 case j9=>walk_at "e2"
 case j10=>walk_at "e3"
 case j11=>walk_at "e4"
 case j12=>walk_at "d2"
 case j13=>walk_at "d3"
 case j14=>walk_at "d3"
 case j15=>walk_at "d2"
 case j16=>walk_at "d2"
 case j17=>walk_at "d3"
 case j18=>walk_at "d2"
 case j19=>walk_at "d2"
 case j20=>walk_at "d3"
 case j21=>walk_at "d2"
 case j22=>walk_at "d3"
 case j23=>walk_at "d3"
 case j24=>walk_at "n3"
 case j25=>walk_at "e1"
 case j26=>walk_at "e1"
 case j27=>walk_at "e2"
 case j28=>walk_at "e2"
 case j29=>walk_at "e2"
 case j30=>walk_at "d1"
 case j31=>walk_at "d2"
 case j32=>walk_at "d2"
 case j33=>walk_at "d2"
 case j34=>walk_at "d2"
 case j35=>walk_at "d3"
 case j36=>walk_at "d2"
 case j37=>walk_at "d2"
 case j38=>walk_at "d2"
 case j39=>walk_at "d4"
 case j40=>walk_at "d4"
 case j41=>walk_at "d3"
 case j42=>walk_at "d1"
 case j46=>walk_at "z"
 case j47=>walk_at "z"
 case j48=>walk_at "z"
 case j49=>walk_at "z"
 case j50=>walk_at "z"
 case j51=>walk_at "z"
 case j52=>walk_at "z"
 case j53=>walk_at "z"
 case j54=>walk_at "z"
 case j55=>walk_at "z"
 case j56=>walk_at "z"
 case j57=>walk_at "z"
 case j58=>walk_at "z"
 case j59=>walk_at "z"
 case j60=>walk_at "z"
 case j63=>walk_at "n"
 case j64=>walk_at "n"
 case j65=>walk_at "n"
 case j66=>walk_at "n"
 case j67=>walk_at "io"
 case j70=>walk_at "n"
 case j71=>walk_at "n"
 case j72=>walk_at "n"
 case j62=>walk_at "m4"
 case j69=>walk_at "m4"
 case hb=>exact λ s v=>.of_eq rfl
#print axioms PySem.Challenge.cw_homeward_k37_whole_line_hangs_holds
