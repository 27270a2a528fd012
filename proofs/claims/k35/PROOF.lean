import PyProof.Rows.All
import Wide.All
import OpenK.AllK
import Wide.FinOn
import Lean
import PyProof.EqAt
import PyProof.EqKinds
import PyProof.TupleCall
import PyProof.CompFree
import KE.KIsAll
import PyProof.AttrMiss
import PyProof.IsiH_list
import KE.KDictOf
import PyProof.ConsumeWalk
import PyProof.Rows.SetFrom
import PyProof.NeKinds
import PyProof.AutoListH
import PyProof.EnumMake
import PyProof.EnumFor
import PyProof.EnumStmt
import PyProof.LayNew
import PyProof.Rows.EnumRows
import KE.KDictList
import KE.KItemsList
import PySem.Challenge.RW_homeward_k35_undone
set_option linter.all false
set_option Elab.async false
def zA0:=@List.count_append
def zA1:=@Option.bind_eq_some_iff
def zA2:=@PySem.Heap.get?_push_of_some
def zA3:=@List.size_toArray
def zA4:=@List.mem_cons_of_mem
def zA5:=@List.getElem?_eq_some_iff
def zA6:=@Nat.le_refl
def zA7:=@List.length_append
def zA8:=@List.mem_singleton
def zA9:=@PySem.Heap.lt_size
def zAa:=@List.mem_cons_self
def zAb:=@List.mem_append
def zAc:=@of_decide_eq_true
def zAd:=@List.length_map
def zAe:=@List.append_nil
def zAf:=@Option.map_eq_some_iff
def zAg:=@Nat.lt_of_lt_of_le
def zAh:=@Bool.and_eq_true_iff
def zAi:=@List.length_cons
def zAj:=@Nat.ne_of_lt
def zAk:=@Bool.false_ne_true
def zAl:=@decide_eq_true
def zAm:=@List.mem_cons
def zAn:=@List.count_cons
def zAo:=@List.mem_range
def zAp:=@Nat.le_trans
def zAq:=@List.mem_append_right
def zAr:=@List.getElem?_append_left
def zAs:=@Nat.zero_add
def zAt:=@List.lookup_cons
def zAu:=@PySem.Heap.get?_push_size
def zAv:=@Option.isSome_iff_exists
def zAw:=@List.map_cons
def zAx:=@List.forall_mem_cons
def zAy:=@List.mem_filter
def zAz:=@List.nil_append
def zB0:=@List.mem_map
def zB1:=@List.all_eq_true
def zB2:=@decide_eq_false
def zB3:=@beq_self_eq_true
def zB4:=@Bool.and_eq_true
def zB5:=@decide_eq_true_eq
def zB6:=@List.getElem?_map
def zB7:=@List.length_range
def zB8:=@List.append_assoc
def zB9:=@of_decide_eq_false
def zBa:=@List.mem_of_getElem?
def zBb:=@PySem.Heap.get?_update_other
def zBc:=@List.getElem?_set_ne
def zBd:=@List.nodup_append
def zBe:=@Nat.zero_le
def zBf:=@List.map_append
def zBg:=@List.length_take
def zBh:=@List.forall_mem_append
def zBi:=@List.replicate_succ
def zBj:=@beq_eq_false_iff_ne
def zBk:=@PySem.Heap.get?_update_self
def zBl:=@List.getElem?_eq_getElem
def zBm:=@List.take_sublist
def zBn:=@beq_iff_eq
def zBo:=@List.find?_cons
def zBp:=@Array.length_toList
def zBq:=@List.nodup_cons
def zBr:=@List.take_of_length_le
def zBs:=@List.not_mem_nil
def zBt:=@decide_eq_decide
def zBu:=@List.mem_append_left
def zBv:=@Int.emod_eq_of_lt
def zBw:=@List.pairwise_map
def zBx:=@List.flatten_cons
def zBy:=@Nat.lt_irrefl
def zBz:=@List.any_cons
def zC0:=@List.filterMap_cons
def zC1:=@Nat.le_of_not_lt
def zC2:=@Nat.mod_eq_of_lt
def zC3:=@Nat.lt_succ_self
def zC4:=@Int.emod_lt_of_pos
def zC5:=@List.findIdx?_cons
def zC6:=@List.length_nil
set_option genSizeOf false
set_option genInjectivity false
set_option maxRecDepth 100000
noncomputable section
structure PySem.W.Fast where
 (tw5140682175833221156 tw7539810235048874815 tw17981222065290257448 tw2333240853757985929 tw18174551811265546072 tw4086885595384838765 tw17129582587018387620 tw8591813371165462172 tw549229559539180539 tw15149808615268461993 tw2439591795386933339 tw11218677077325538771 tw5962462841558345597 tw9737760635093726667 tw2339602865783258856 tw3921587702272976586 tw13358452758804840252 tw16367192993778458336 tw7171914316396435111 tw3249613789360282346 tw3672930603912898006 tw5529148394618260101 tw5617478706534858336 tw2938713025462712349 tw18356917146713334325 tw1921961219915520418 tw15770842457980945226 tw11277921702429422650 tw7596219690801504537 tw4435111118317042171 tw4309726515616079484 tw2422869726261799683 tw13071095960243118932 tw16123136413293419846 tw3577127267139201984 tw17806581236999899449 tw9005870932283359592 tw4626473999778549516 tw14389303657080776796 tw11200353225861651621
 tw11845551555098691372 tw15341571951976287988 tw12004900427603515925 tw13876506900409500940 tw13374831916538732916 tw4531851270677483280 tw590380814934853445 tw7496325771807443338 tw12810506302940970847 tw15328333444662197560 tw17158802073002563873 tw8748925344080933981 tw13983755204899472474 tw18111288124478504459 tw1651747250822701723 tw225015437148927421 tw15930590817140459074 tw14816447171455129022 tw11380719158768600918 tw2366198740397379516 tw3339667738478843157 tw11714053512997383745 tw10047854341103813239 tw15353902455096682693 tw4575044996505321068 tw13408405760694811902 tw10215094793872263172 tw10169054126912052373 tw16085369035396204541 tw13392783601193263702 tw17650975208361343456 tw566193114295276191 tw14302255760742382836 tw1973017546410657294 tw15351076077403821161 tw8910842687157541854 tw13338910519737820824 tw1214422092407433732 tw17655743049302485433 tw17240933706721877980
 tw1748435247811809895 tw4446010579614125237 tw14220716225465471047 tw1431263077661212373 tw13187161273674618633 tw11608895313641150863 tw13651168089149577989 tw11866320543899632628 tw8775895650077285615 tw5060265532079602528 tw18385242131799975762 tw5459375093699299886 tw12964906493365179017 tw10386462571812972486 tw554984916905386051 tw15565310282550662539 tw2148716010856518350 tw11989870905398281567 tw1385387391271390339 tw2814484436216238210 tw12981461290823400098 tw10785533498946605682 tw11236582866533071618 tw15199573662727705672 tw16045229551052296333 tw948291478539721952 tw5005853050629488471 tw4953417056901892907 tw13213020756569658601 tw10594597535414033901 tw12137264243017428890 tw3203074711830815497 tw9537747623251551877 tw747687301475633293 tw9086756948313255741 tw8453206199873189411 tw14943228636187433595 tw1243247138288288058 tw9934903453969267968 tw860812873037673628
 tw17013027968809997979 tw8253170766902374839 tw3356423471734580747 tw14789899140530361119 tw6488544250133798797 tw14172033596691459617 tw15593900863540050641 tw7233261392074839886 tw4853123438891286026 tw8952071542968500968 tw18064539176709940796 tw3971170820459026882 tw4609354086830083988 tw16022960014473690060 tw10260063615922083430 tw16318680143871958252 tw18426596821203568204 tw12762890823767571505 tw14598703279182537657 tw3501584824618302610 tw854174140179635574 tw18115918080887131805 tw10750578984571777814 tw14343383868961454410 tw668356171174002645 tw5517365835161124966 tw1750921507430342236 tw8943961897667389234 tw13658590976813361058 tw11237854181099884385 tw2543831383182562056 tw15338439818576256240 tw4551835009887932808 tw9769069760861242631 tw8418043563052472984 tw12409477363014673797 tw12877933971444953850 tw11699331523506131872 tw13957689518990327645 tw10407493676563085084
 tw6802006231031929345 tw12700861346973000205 tw17254021343811722349 tw949257910263964740 tw18142587443728748058 tw8784619156933416907 tw14789196552220276959 tw9419983699430115135 tw4198015244294186004 tw10135254401637497471 tw16868927462403042314 tw4205974331326559648 tw1648659469969315579 tw2679292392833219748 tw15386205783568099615 tw10576473045302185968 tw9949860528249426807 tw14421473682316284186 tw12349961286082018205 tw1077479415097835605 tw6593934203845748775 tw11445439183903250411 tw1096383985048267450 tw6304411276678691398 tw210493673109699059 tw18070023175912359169 tw12810249227328972546 tw11293057027071411557 tw7788687567092716452 tw411637065109887852 tw14148596601013702441 tw10029670956596875253 tw1903588659026089611 tw5235810829509827610 tw8465965927163042905 tw7127498236005633661 tw3610798323060771053 tw257296024289628071 tw1429811267152345535 tw17495666262560569516
 tw16776003282199926774 tw16275976929046644707 tw14589172129606400594 tw10891819138453969217 tw7420245848184593350 tw2298019939437220289 tw4803585624558955768 tw6410426023265893268 tw16165351990757112827 tw364496661543653813 tw13120953350244347652 tw11544625918189659348 tw9251563678257129684 tw5613774439646693343 tw18047200134017518964 tw13801462919836137518 tw13754942724015205909 tw11932557109190019056 tw7329841914318137671 tw9861154038306277620 tw8944333242393111205 tw4070499859801450107 tw17859195133669576052 tw17220254573983447848 tw15787201399135811597 tw11934806051055829530 tw7725372154234591673 tw7196717088978707591 tw5588984478768944691 tw11803221585242762230 tw12547171042546318922 tw9307084663351196355 tw5458210845665081369 tw7943926948421897669 tw15079207846931641434 tw9884766448503148268 tw4486854178235333461 tw11637257768459392542 tw1077312722768797268 tw2340691597688550139
 tw2848735670404973476 tw8098833734302894376 tw7989414936662936233 tw7863978285494467699 tw361562316536241593 tw2869631624625757071 tw2497899134723718308 tw2355011318664330111 tw18354229314249911862 tw17537580149266932548 tw16873472846666982033 tw1218077699111187870 tw1075967908851532138 tw10624247958805238896 tw11301868831953552241 tw8210782139426588677 tw7399571644099130361 tw7385819933209358517 tw6298691102227896820 tw5916376227575604402 tw5682487173982794021 tw5550503082443937443 tw481467465094306389 tw4121396151155326219 tw3993036062262026080 tw17630517891744745843 tw1739864510968923058 tw14733503915506263107 tw12968642626441178816 tw12731943142641578264 tw12040285884050915144 tw4289142910376600620 tw11696396132295899347 tw16588413101967811279 tw15462278269163462351 tw376000004927491676 tw366666378944512697 tw7707275106532242074 tw6633269952299307618 tw4995407723998008880
 tw13848102510169955804 tw9950666124606298842 tw9242308549362944066 tw8977506013512330228 tw4885938298706472454 tw15035742840392831223 tw14148970622409482049 tw15449662785918704058 tw6787024767937140327 tw18021425935780638170 tw15701281893858928265 tw2330993950381422309 tw11583464911228652743 tw9154513991365709606 tw8965490936542892249 tw8603667236760812880 tw8516767662629098509 tw7331830433366902004 tw5552806383213430764 tw4706391642995055412 tw4652641688683749995 tw2085506578066610331 tw14335386724670374589 tw14269025353428187245 tw12717719548311670709 tw12628483036665104055 tw11936570432118349023 tw10877786832122447261 tw918645927433787647 tw3367897092155115529 tw2194807116905846755 tw16823879392906325337 tw4557009296667656340 tw3994254573152485423 tw18159315940630182271 tw16905246233209783213 tw15450641126757531040 tw15291128810140052683 tw12198020064490996351 tw13985708921095411352
 tw1227020877562227345 tw9389929531456071395 tw1031976973509954781 tw4942443813690610364 tw6797255059071240349 tw611726999683528087:Nat)
abbrev N'(x:PySem.Str):Prop:=(x == ("__debug__" : PySem.Str))=false
abbrev γ:=PySem.Addr
abbrev V':=PySem.Value
abbrev δ:=PySem.Shared
abbrev ε:=PySem.FuncData
open PySem renaming wpAny_bind→G',wpAny_pure→J',starEach→Ko,sizeLine→Kq,compareOp→Kr,foldedSetIterable→Ks,wpAny_holding→Kt,bootBuiltins→Ku,wpAny_truthy_bool→Kv,attributeBase→Kw,sizeLine_eq→Kx,mainGlobals→Ky,wpAny_loadPart_at→Kz,sysModules→K4,keywordEach→K5,wpAny_mono→K6,wpAny_rule→K7,wpAny_passesOwn→K8,call_meets→K9,assignEach→La,binaryOp→Lb
open PyProof.Rows renaming wpS_bind→Lc,wpS_pure→Ld,wpS_forRange→Lf,pendingOf→Lg,wpS_mono→Lh,failedOf→Li,wpS_get→Lj,wpS_modify→Ll
namespace L2
open PySem PySem.Spec PyProof.Rows
variable{M:Model}{N:List Str}{base:Heap}{body:List Stmt}{ch fp:List γ}{i n t':Nat}{kw:List (Str×V')}{mg:Str->Option V'}{op:CmpOp}{pl:Sem Bool}{us:List V'}{α:Type}
abbrev Key:=Sum Int Str
noncomputable def F7:Key->V'->Bool
 | .inl k,v=>Value.isInt k v
 | .inr x,v=>Value.isStrOf x v
noncomputable def keyH(w:World):Key->Int
 | .inl k=>hashInt k
 | .inr x=>hashStr w x
theorem qd4:∀{k:Key}{v:V'},F7 k v=true->(∃ i t,k=Sum.inl i/\v=Value.int i t)∨(∃ x t,k=Sum.inr x/\v=Value.str x t)
 | .inl i,v,h=>by
   obtain⟨t,e⟩:=Value.isInt_shape (k:=i) (v:=v) h;exact .inl ⟨i,t,rfl,e⟩
 | .inr x,v,h=>by
   obtain⟨t,e⟩:=Value.isStrOf_shape (x:=x) (v:=v) h;exact .inr ⟨x,t,rfl,e⟩
theorem qao3(i:Int)(t:Tok):F7 (.inl i) (.int i t)=true:=by simp[F7,Value.isInt]
theorem qao2(x:Str)(t:Tok):F7 (.inr x) (.str x t)=true:=by simp[F7,Value.isStrOf]
theorem qaU5(a b:Int):decide ((Sum.inl a:Key)=Sum.inl b)=(a == b):=by
 by_cases e:a=b
 . subst e;simp
 have h:¬ (Sum.inl a:Key)=Sum.inl b:=λ q=>e (Sum.inl.inj q)
 rw[zB2 h];exact(zBj.mpr e).symm
theorem qaU2(a b:Str):decide ((Sum.inr a:Key)=Sum.inr b)=decide (a=b):=by
 by_cases e:a=b
 . subst e;simp
 have h:¬ (Sum.inr a:Key)=Sum.inr b:=λ q=>e (Sum.inr.inj q)
 rw[zB2 h,zB2 e]
theorem qaU4(a:Int)(b:Str):decide ((Sum.inl a:Key)=Sum.inr b)=false:=zB2 (λ q=>nomatch q)
theorem qaU3(a:Str)(b:Int):decide ((Sum.inr a:Key)=Sum.inl b)=false:=zB2 (λ q=>nomatch q)
def qg0(prog:Program)(w:World):PySem.KeyKind prog w Key where
 is:=F7
 hash:=keyH w
 inj:=λ v a b g f=>by
   rcases qd4 g with⟨i,t,rfl,rfl⟩ | ⟨x,t,rfl,rfl⟩
   . rcases qd4 f with⟨j,u,rfl,e⟩ | ⟨y,u,rfl,e⟩
     . injection e with c _;rw[c]
     exact nomatch e
   rcases qd4 f with⟨j,u,rfl,e⟩ | ⟨y,u,rfl,e⟩
   . exact nomatch e
   injection e with c _;rw[c]
 byValue:=λ k v h=>by
   rcases qd4 h with⟨i,t,rfl,rfl⟩ | ⟨x,t,rfl,rfl⟩<;>rfl
 pyHash:=λ d h=>by
   rcases qd4 d with⟨i,t,rfl,rfl⟩ | ⟨x,t,rfl,rfl⟩
   . exact wpAny_pyHash_int h
   exact wpAny_pyHash_str h
 eqBool:=λ l d h=>by
   rcases qd4 l with⟨i,t,rfl,rfl⟩ | ⟨x,t,rfl,rfl⟩
   . rcases qd4 d with⟨j,u,rfl,rfl⟩ | ⟨y,u,rfl,rfl⟩
     . rw[qaU5] at h;exact wpAny_eqBool_int h
     rw[qaU4] at h;exact SeqAt.EqAt.int_str i t y u _ _ _ _ h
   rcases qd4 d with⟨j,u,rfl,rfl⟩ | ⟨y,u,rfl,rfl⟩
   . rw[qaU3] at h;exact SeqAt.EqAt.str_int x t j u _ _ _ _ h
   rw[qaU2] at h;exact wpAny_eqBool_str h
 «strs»:=λ k x t v h=>by
   rcases qd4 h with⟨i,u,rfl,e⟩ | ⟨y,u,rfl,e⟩
   . exact nomatch e
   injection e with c _
   subst c;cases v<;>rfl
theorem qaa0(prog:Program)(w:World)(i:Int)(t:Tok):(qg0 prog w).is (.inl i) (.int i t)=true:=qao3 i t
theorem qZ9(prog:Program)(w:World)(x:Str)(t:Tok):(qg0 prog w).is (.inr x) (.str x t)=true:=qao2 x t
inductive V where
 | non | bl (b:Bool) | int (i:Int) | str (x:Str) | byt (b:Array UInt8) | flt (b:UInt64) | ref (a:γ) | ty (n:String)
 deriving DecidableEq
def Lv:V->V'->Prop
 | .non,u=>u=Value.none
 | .bl b,u=>u=Value.bool b
 | .int i,u=>∃ t,u=Value.int i t
 | .str x,u=>∃ t,u=Value.str x t
 | .byt b,u=>∃ t,u=Value.bytes b t
 | .flt b,u=>∃ t,u=Value.float b t
 | .ref a,u=>u=Value.ref a
 | .ty n,u=>u=Value.type n
abbrev Lw:List V->List V'->Prop:=Paired Lv
theorem Lw.length{xs:List V}(r:Lw xs us):xs.length=us.length:=Paired.length r
theorem Lw.get:∀{xs:List V}{us:List V'}{i:Nat}{x:V},Lw xs us->xs[i]? = some x->∃ u,us[i]? = some u/\Lv x u
 | _,_,_,_,.nil,e=>by simp at e
 | _,_,0,_,.cons r _,e=>by simp at e;subst e;exact⟨_,rfl,r⟩
 | _,_,i+1,x,.cons _ t,e=>by
   obtain⟨u,a,b⟩:=Lw.get (i:=i) (x:=x) t (by simpa using e);exact⟨u,by simpa using a,b⟩
theorem Lw.set{x:V}{u:V'}(r:Lv x u):∀{xs:List V}{us:List V'}(i:Nat),Lw xs us->Lw (xs.set i x) (us.set i u)
 | _,_,_,.nil=>.nil
 | _,_,0,.cons _ t=>.cons r t
 | _,_,i+1,.cons q t=>.cons q (Lw.set r i t)
theorem Lw.append{xs ys:List V}{a:List V'}(h:Lw xs us)(s:Lw ys a):Lw (xs++ys) (us++a):=by
 induction h with
 | nil=>exact s
 | cons r t i=>exact .cons r i
theorem Lw.take:∀{xs:List V}{us:List V'}(n:Nat),Lw xs us->Lw (xs.take n) (us.take n)
 | _,_,0,_=>.nil
 | _,_,_+1,.nil=>.nil
 | _,_,n+1,.cons r t=>.cons r (Lw.take n t)
theorem Lw.drop:∀{xs:List V}{us:List V'}(n:Nat),Lw xs us->Lw (xs.drop n) (us.drop n)
 | _,_,0,r=>r
 | _,_,_+1,.nil=>.nil
 | _,_,n+1,.cons _ t=>Lw.drop n t
def RelO:Option V->Option V'->Prop
 | some v,some u=>Lv v u
 | none,none=>True
 | _,_=>False
def KV{κ:Type}:List (κ×V)->List (κ×V')->Prop:=Paired λ(p:κ×V)(q:κ×V')=>p.1=q.1/\Lv p.2 q.2
noncomputable def kV:Key->V
 | .inl i=>.int i
 | .inr x=>.str x
inductive HO where
   | l (xs:List V)
   | q (xs:List V)
   | dK (kvs:List (Key×V)) | dT (kvs:List (List Key×V))
   | set (S:Int->Bool) (n:Nat)
   | ins (C dx:γ) (fs:List (Str×V))
   | own (x:γ)
   | xd (fs:List (Str×V))
   | met (f x:γ)
   | rng (lo hi:Int)
   | frz (o:Obj) (u:HO)
   | tbl (ps:Array V')
   | ext (φ:Heap->Prop)
noncomputable abbrev Hp:=γ->Option HO
noncomputable def upd(H:Hp)(a:γ)(o:HO):Hp:=λ b=>if b=a then some o else H b
theorem qb3{H:Hp}{a:γ}{o:HO}:upd H a o a=some o:=by unfold upd;rw[if_pos rfl]
theorem qb4{H:Hp}{a b:γ}{o:HO}(h:b≠a):upd H a o b=H b:=by unfold upd;rw[if_neg h]
theorem qaF4{H:Hp}{a:γ}{o u:HO}:upd (upd H a o) a u=upd H a u:=by
 funext b;unfold upd;split<;>rfl
theorem ne_of{H:Hp}{a b:γ}{o u:HO}(h:H a=some o)(h':H b=some u)(d:o≠u):a≠b:=by
 intro e;subst e;rw[h] at h';exact d (Option.some.inj h')
theorem qc2{H:Hp}{a b:γ}{o:HO}(h:H a=some o)(h':H b=none):a≠b:=by
 intro e;subst e;rw[h] at h';cases h'
section
variable(P:Program)(w:World)
def ObjOk(H:Hp)(h:Heap)(a:γ):HO->Prop
 | .l xs=>xs.length<=Kq/\∃(its:List V')(n:Nat),Lw xs its/\h.get? a=some { cls:=.type "list",data:=.seq its.toArray n }
 | .q xs=>xs.length<=Kq/\∃ its:List V',Lw xs its/\IsTup h a its.toArray
 | .dK kvs=>kvs.length<=Kq/\(a == K4)=false/\∃ vs,KV kvs vs/\h.DictOf (qg0 P w) a vs
 | .dT kvs=>kvs.length<=Kq/\(a == K4)=false/\∃ xs:List (List Key×γ×V'),
     Paired (λ(p:List Key×V)(q:List Key×γ×V')=>p.1=q.1/\H q.2.1=some (.q (p.1.map kV))/\Lv p.2 q.2.2) kvs xs /\
     ∃ o es b,h.get? a=some o/\o.ExactDict/\o.data=.dict es b/\es.toList=xs.map (entryOfKey (tupleKind (qg0 P w)))/\(xs.map (·.1)).Nodup
 | .set S n=>h.SetOf (intKind P w) a S n
 | .ins C dx fs=>H dx=some (.own a)/\fs.length<=1000/\dx≠a/\h.get? a=some (W.instObj C dx) /\
     ∃ mA,h.Ns1 dx mA/\(∀ f,RelO (fs.lookup f) (mA f))/\PySem.Within mA (fs.map (·.1))
 | .own _=>∃ o,h.get? a=some o
 | .xd fs=>∃ mA,h.Ns1 a mA/\∀ f,RelO (fs.lookup f) (mA f)
 | .rng lo hi=>∃ t u v,h.get? a=some { cls:=.type "range",data:=.fields #[.int lo t,.int hi u,.int 1 v] }
 | .frz o u=>h.get? a=some o/\ObjOk H h a u
 | .tbl ps=>h.get? a=some { cls:=.none,data:=.fields ps }
 | .met f x=>h.get? a=some (W.methodObj (.ref f) (.ref x))
 | .ext φ=>φ h/\(∃ o,h.get? a=some o)/\∀ h1 h2:Heap,φ h1->(∀ o,h1.get? a=some o->h2.get? a=some o)->φ h2
def HOk(H:Hp)(h:Heap):Prop:=∀ a o,H a=some o->ObjOk P w H h a o
end
section
variable{P:Program}{w:World}{H H':Hp}{h h':Heap}{a:γ}{o:HO}
theorem ObjOk.lt(x:ObjOk P w H h a o):a < h.objs.size:=by
 cases o with
 | l c=>obtain⟨_,_,_,_,e⟩:=x;exact zA9 e
 | q c=>obtain⟨_,_,_,p⟩:=x;exact p.lt
 | dK b=>obtain⟨_,_,_,_,o,_,_,e,_⟩:=x;exact zA9 e
 | dT b=>obtain⟨_,_,_,_,o,_,_,e,_⟩:=x;exact zA9 e
 | set S n=>obtain⟨o,_,_,_,e,_⟩:=x;exact zA9 e
 | ins C g d=>obtain⟨_,_,_,e,_⟩:=x;exact zA9 e
 | own y=>obtain⟨_,e⟩:=x;exact zA9 e
 | xd d=>obtain⟨_,⟨_,_,_,e,_⟩,_⟩:=x;exact zA9 e
 | rng i j=>obtain⟨_,_,_,e⟩:=x;exact zA9 e
 | frz k u=>obtain⟨e,_⟩:=x;exact zA9 e
 | tbl l=>exact zA9 (show h.get? a=some _ from x)
 | met f y=>exact zA9 (show h.get? a=some _ from x)
 | ext φ=>obtain⟨_,⟨_,e⟩,_⟩:=x;exact zA9 e
theorem Paired.mapP{β:Type}{F G:α->β->Prop}{l:List α}{m:List β}(h:Paired F l m)(f:∀ a b,F a b->G a b):Paired G l m:=by
 induction h with
 | nil=>exact .nil
 | cons r t i=>exact .cons (f _ _ r) i
theorem ObjOk.stay(x:ObjOk P w H h a o)(k:∀ b u,(b=a∨H b=some (.own a))->h.get? b=some u->h'.get? b=some u)(E:∀ b,H b=some (.own a)->H' b=some (.own a))(F:∀ b xs,H b=some (.q xs)->H' b=some (.q xs)):ObjOk P w H' h' a o:=by
 induction o with
 | l xs=>obtain⟨z,l,n,r,e⟩:=x;exact⟨z,l,n,r,k _ _ (.inl rfl) e⟩
 | q xs=>obtain⟨z,l,r,g,e,c⟩:=x;exact⟨z,l,r,g,k _ _ (.inl rfl) e,c⟩
 | dK m=>obtain⟨z,y,G,r,g,i,j,e,c⟩:=x;exact⟨z,y,G,r,g,i,j,k _ _ (.inl rfl) e,c⟩
 | dT m =>
   obtain⟨z,y,xs,r,g,i,j,e,c⟩:=x;exact⟨z,y,xs,Paired.mapP r λ p q z=>⟨z.1,F _ _ z.2.1,z.2.2⟩,g,i,j,k _ _ (.inl rfl) e,c⟩
 | set S n=>obtain⟨g,i,j,t,e,c⟩:=x;exact⟨g,i,j,t,k _ _ (.inl rfl) e,c⟩
 | ins C L I =>
   obtain⟨d,z,J,e,s,⟨A,i,j,e2,c⟩,r⟩:=x;exact⟨E _ d,z,J,k _ _ (.inl rfl) e,s,⟨A,i,j,k _ _ (.inr d) e2,c⟩,r⟩
 | own y=>obtain⟨g,e⟩:=x;exact⟨g,k _ _ (.inl rfl) e⟩
 | xd I=>obtain⟨s,⟨A,i,j,e,c⟩,r⟩:=x;exact⟨s,⟨A,i,j,k _ _ (.inl rfl) e,c⟩,r⟩
 | rng M N=>obtain⟨t,u,v,e⟩:=x;exact⟨t,u,v,k _ _ (.inl rfl) e⟩
 | frz g u K=>obtain⟨e,q⟩:=x;exact⟨k _ _ (.inl rfl) e,K q⟩
 | tbl B =>
   have e:h.get? a=some { cls:=.none,data:=.fields B }:=x;show h'.get? a=some { cls:=.none,data:=.fields B };exact k a _ (.inl rfl) e
 | met f y =>
   have e:h.get? a=some (W.methodObj (.ref f) (.ref y)):=x;show h'.get? a=some (W.methodObj (.ref f) (.ref y));exact k a _ (.inl rfl) e
 | ext φ=>obtain⟨p,⟨o,e⟩,D⟩:=x;exact⟨D _ _ p λ o q=>k _ _ (.inl rfl) q,⟨o,k _ _ (.inl rfl) e⟩,D⟩
theorem HOk.lt(x:HOk P w H h)(e:H a=some o):a < h.objs.size:=(x a o e).lt
theorem HOk.fresh(x:HOk P w H h)(e:h.objs.size<=a):H a=none:=by
 cases q:H a with
 | none=>rfl
 | some u=>exact absurd (zAg (x.lt q) e) (zBy _)
theorem HOk.kept(x:HOk P w H h)(k:∀ b u,h.get? b=some u->h'.get? b=some u):HOk P w H h':=λ a o e =>
 (x a o e).stay (λ b u _ q=>k b u q) (λ _ q=>q) λ _ _ q=>q
theorem HOk.laid(x:HOk P w H h)(k:∀ b u,h.get? b=some u->h'.get? b=some u)(i:h.objs.size<=a)(d:ObjOk P w (upd H a o) h' a o):HOk P w (upd H a o) h':=λ b u e=>by
 have f:=x.fresh i;by_cases g:b=a
 . subst g;rw[qb3] at e;cases e;exact d
 rw[qb4 g] at e;exact(x b u e).stay (λ c v _ q=>k c v q) (λ c q=>by rw[qb4 (qc2 q f)];exact q) λ c j q=>by rw[qb4 (qc2 q f)];exact q
end
def Rd(H:Hp)(a:γ)(u:HO):Prop:=H a=some u∨∃ o,H a=some (.frz o u)
theorem Rd.ok{P:Program}{w:World}{H:Hp}{h:Heap}{a:γ}{u:HO}(r:Rd H a u)(x:HOk P w H h):ObjOk P w H h a u:=by
 rcases r with r | ⟨o,r⟩
 . exact x a u r
 obtain⟨_,q⟩:=x a _ r;exact q
def Mut:Option HO->Prop
 | some (.l _)=>True
 | some (.dK _)=>True
 | some (.dT _)=>True
 | some (.set _ _)=>True
 | some (.ins _ _ _)=>True
 | some (.ext _)=>True
 | _=>False
section
variable{P:Program}{w:World}{H:Hp}{h h':Heap}{x e:γ}{o':HO}
theorem HOk.write(o:HOk P w H h)(d:Mut (H x))(m:e=x∨H e=some (.own x))(k:∀ b u,b≠e->h.get? b=some u->h'.get? b=some u)(j:∃ u,h'.get? e=some u)(l:ObjOk P w (upd H x o') h' x o'):HOk P w (upd H x o') h':=λ b u q=>by
 have nown:∀ c y,H c=some (.own y)->c≠x:=λ c y r z=>by subst z;rw[r] at d;exact d
 have ntup:∀ c f,H c=some (.q f)->c≠x:=λ c f r z=>by subst z;rw[r] at d;exact d
 by_cases g:b=x
 . subst g;rw[qb3] at q;cases q;exact l
 rw[qb4 g] at q;by_cases a:b=e
 . have n:H b=some (.own x):=by
     rcases m with z | z
     . exact absurd (a.trans z) g
     rw[a];exact z
   rw[q] at n;cases n;obtain⟨v,p⟩:=j;exact⟨v,by rw[a];exact p⟩
 refine(o b u q).stay (λ c v i r=>k c v ?_ r) (λ c r=>by rw[qb4 (nown c b r)];exact r) λ c f r=>by rw[qb4 (ntup c f r)];exact r
 rcases i with rfl | i
 . exact a
 rintro rfl;rcases m with z | z
 . exact nown c b i z
 rw[i] at z;cases z;exact g rfl
end
structure Un(fs ex:List γ)(H H':Hp)(h h':Heap):Prop where
 keep:∀ b o,h.get? b=some o->H b=none->b∉fs->b∉ex->h'.get? b=some o
 slot:∀ b o,h.get? b=some o->H b=none->b∈fs->b∉ex->∃ sl,h'.get? b=some { o with slots:=sl }
 free:∀ b o,h.get? b=some o->H b=none->b∉ex->H' b=none
 there:∀ b o,h.get? b=some o->b∉ex->∃ o',h'.get? b=some o'
 tups:∀ b xs,H b=some (.q xs)->H' b=some (.q xs)
 frzs:∀ b o u,H b=some (.frz o u)->H' b=some (.frz o u)
 tbls:∀ b ps,H b=some (.tbl ps)->∃ more,H' b=some (.tbl (ps++more))
section
variable{fs ex:List γ}{H H1 H2:Hp}{h h1 h2 h':Heap}{a x e:γ}{o:HO}
theorem Un.any(u:Un fs ex H H1 h h1){b:γ}{ob:Obj}(q:h.get? b=some ob)(n:H b=none)(a:b∉ex):∃ sl,h1.get? b=some { ob with slots:=sl }:=by
 by_cases c:b∈fs
 . exact u.slot b ob q n c a
 exact⟨ob.slots,u.keep b ob q n c a⟩
theorem Un.trans(a:Un fs ex H H1 h h1)(b:Un fs ex H1 H2 h1 h2):Un fs ex H H2 h h2 where
 keep:=λ c d q n g e=>b.keep c d (a.keep c d q n g e) (a.free c d q n e) g e
 slot:=λ c d q n g e=>by
   obtain⟨p,f⟩:=a.slot c d q n g e;obtain⟨j,e2⟩:=b.slot c _ f (a.free c d q n e) g e;exact⟨j,e2⟩
 free:=λ c d q n e=>by
   obtain⟨k,f⟩:=a.there c d q e;exact b.free c k f (a.free c d q n e) e
 there:=λ c d q e=>by
   obtain⟨k,f⟩:=a.there c d q e;exact b.there c k f e
 tups:=λ c i q=>b.tups c i (a.tups c i q)
 frzs:=λ c d i q=>b.frzs c d i (a.frzs c d i q)
 tbls:=λ c l q=>by
   obtain⟨m,f⟩:=a.tbls c l q;obtain⟨o,e2⟩:=b.tbls c _ f;exact⟨m++o,by rw[e2,Array.append_assoc]⟩
theorem Un.kept(k:∀ b u,h.get? b=some u->h'.get? b=some u):Un fs ex H H h h' :=
 ⟨λ b a q _ _ _=>k b a q,λ b a q _ _ _=>⟨a.slots,k b a q⟩,λ _ _ _ n _=>n,λ b a q _=>⟨a,k b a q⟩,λ _ _ q=>q,λ _ _ _ q=>q,λ _ c q=>⟨#[],by rw[q];simp⟩⟩
theorem Un.refl:Un fs ex H H h h:=Un.kept λ _ _ q=>q
theorem Un.laid(k:∀ b u,h.get? b=some u->h'.get? b=some u)(d:h.objs.size<=a)(c:H a=none):Un fs ex H (upd H a o) h h' where
 keep:=λ b u q _ _ _=>k b u q
 slot:=λ b u q _ _ _=>⟨u.slots,k b u q⟩
 free:=λ b u q n _=>by rw[qb4 (zAj (zAg (zA9 q) d))];exact n
 there:=λ b u q _=>⟨u,k b u q⟩
 tups:=λ b e q=>by rw[qb4 (qc2 q c)];exact q
 frzs:=λ b u e q=>by rw[qb4 (qc2 q c)];exact q
 tbls:=λ b f q=>⟨#[],by rw[qb4 (qc2 q c),q];simp⟩
theorem Un.write(c:Mut (H x))(j:e=x∨H e=some (.own x))(k:∀ b u,b≠e->h.get? b=some u->h'.get? b=some u)(d:∃ u,h'.get? e=some u):Un fs ex H (upd H x o) h h':=by
 have g:∀ b,H b=none->b≠x:=λ b n z=>by subst z;rw[n] at c;exact c
 have i:∀ b,H b=none->b≠e:=λ b n z=>by
   subst z;rcases j with r | r
   . exact g b n r
   rw[n] at r;cases r
 have f:∀ b u,H b=some u->¬ Mut (some u)->b≠x:=λ b u q l z=>by subst z;rw[q] at c;exact l c
 refine⟨λ b u q n _ _=>k b u (i b n) q,λ b u q n _ _=>⟨u.slots,k b u (i b n) q⟩,λ b u q n _=>by rw[qb4 (g b n)];exact n,λ b u q _=>?_,
   λ b m q=>by rw[qb4 (f b _ q λ z=>z)];exact q,λ b u m q=>by rw[qb4 (f b _ q λ z=>z)];exact q,λ b p q=>⟨#[],by rw[qb4 (f b _ q λ z=>z),q];simp⟩⟩
 by_cases a:b=e
 . subst a;exact d
 exact⟨u,k b u a q⟩
end
noncomputable def trk(h:Heap)(H:Hp):List γ:=(List.range h.objs.size).filter λ a=>(H a).isSome
def Gg(h:Heap)(H:Hp):Heap:=W.hideAll h (trk h H)
theorem qao5(h:Heap)(H:Hp):(Gg h H).objs.size=h.objs.size:=W.hideAll_size _ _
theorem qaC3{h:Heap}{H:Hp}{b:γ}{o:Obj}(e:h.get? b=some o)(n:H b=none):(Gg h H).get? b=some o :=
 W.hideAll_get _ e λ a=>by
   have q:(H b).isSome=true:=(zAy.mp a).2;rw[n] at q;simp at q
theorem qaK3{h:Heap}{H:Hp}{b:γ}{o:Obj}(e:(Gg h H).get? b=some o):h.get? b=some o/\H b=none:=by
 have a:h.get? b=some o:=W.of_hideAll (trk h H) e;refine⟨a,?_⟩;cases q:H b with
 | none=>rfl
 | some x =>
   have c:b∈trk h H:=zAy.mpr ⟨zAo.mpr (zA9 a),by simp[q]⟩;have z:(Gg h H).get? b=none:=W.hideAll_none (trk h H) c;rw[z] at e;cases e
structure Mod(K:W.Frag)(mg:Str->Option V')(base:Heap):Prop where
 kin:K.In base
 glob:base.Ns Ky mg
 blt:∃ mb,base.Ns builtinsNs mb/\∀ x:Str,x ≠ "__name__" -> mb x=Ku x
 nolimit:base.NoLimit
structure Cx where
 prog:Program
 w:World
 K:W.Frag
 mg:Str->Option V'
 base:Heap
 A:Around
 N:List Str
 s₀:δ
 H₀:Hp
 env:Env
 outer:List Env
 stack:List Env
 ex:List γ
 fn:Str->Bool
 calm:Bool
 pn:List (γ×Obj)
 xe:V'->δ->Prop
noncomputable def frs(l:List Env):List γ:=l.filterMap (·.frame)
abbrev Cx.fs(X:Cx):List γ:=frs X.outer
def Vis(sc:Scope)(x:Str):Prop:=sc.names.lookup x=some .local∨sc.names.lookup x=some .cell∨sc.names.lookup x=some .free
def Loc(sc:Scope)(x:Str):Prop:=sc.names.lookup x=some .local∨sc.names.lookup x=some .cell
def Look(env:Env)(h:Heap)(m:Str->Option V')(x:Str)(u:V'):Prop :=
 (env.kindOf x=some .local/\m x=some u)∨((env.kindOf x=some .cell∨env.kindOf x=some .free)/\∃ c,env.cells.lookup x=some c/\h.IsCell c (some u))
structure Cx.Ok(X:Cx):Prop where
 mod:Mod X.K X.mg X.base
 kind:X.env.scope.kind=.function
 glob:X.env.globals=Ky
 blt:X.env.builtins=builtinsNs
 above:X.s₀.heap.objs.size<=X.env.locals
 inj:∀ x y c,X.env.cells.lookup x=some c->X.env.cells.lookup y=some c->x=y
 has:∀ x,(X.env.kindOf x=some .cell∨X.env.kindOf x=some .free)->∃ c,X.env.cells.lookup x=some c
 cab:∀ x c,X.fn x=true->X.env.cells.lookup x=some c->X.s₀.heap.objs.size<=c
 hd:X.calm=true->X.A.handled=none
 frames:X.A.frames=some X.stack
 stk:X.stack=X.outer∨(X.stack=X.env::X.outer/\X.env.frame=some X.env.locals)
 exf:∀ b∈X.ex,b≠X.env.locals/\∀ x c,X.env.cells.lookup x=some c->c≠b
 bs:∀ b o,X.base.get? b=some o->X.s₀.heap.get? b=some o/\X.H₀ b=none
 bsz:X.base.objs.size<=X.s₀.heap.objs.size
 noex:∀ b o,X.base.get? b=some o->b∉X.ex
 exfs:∀ b∈X.ex,b∉X.fs
 funs:X.s₀.heap.FunFrames X.base X.outer
 frf:∀ b∈X.fs,X.H₀ b=none
structure Ly(X:Cx)(E3:List (γ×Obj))(σ:List (Option V))(H:Hp)(s:δ):Prop where
 ok:X.Ok
 os:s.os=X.s₀.os
 bare:AllBare s.gens
 base:Un X.fs X.ex X.H₀ H X.s₀.heap s.heap
 loc:∃ m,s.heap.Ns X.env.locals m/\∀(i:Nat)(x:Str)(v:V),X.N[i]? = some x->σ[i]? = some (some v)->Vis X.env.scope x->∃ u,Lv v u/\Look X.env s.heap m x u
 cell:∀ x c,X.env.cells.lookup x=some c->∃ v,s.heap.IsCell c v
 free:H X.env.locals=none
 freeC:∀ x c,X.env.cells.lookup x=some c->H c=none
 pin:∀ p∈X.pn++E3,s.heap.get? p.1=some p.2/\H p.1=none/\p.1≠X.env.locals/\p.1∉X.fs/\∀ v,p.2.data≠.cell v
 hok:HOk X.prog X.w H s.heap
 len:σ.length=X.N.length
section
variable{X:Cx}{E3:List (γ×Obj)}{σ:List (Option V)}{H H':Hp}{s:δ}{h':Heap}
theorem Cx.Ok.nofr(a:X.Ok){b:γ}{o:Obj}(e:X.base.get? b=some o):b∉X.fs:=λ c=>by
 have:=(a.funs.mem c).1
 rw[e] at this;cases this
theorem Ly.bs(I:Ly X E3 σ H s):∀ b o,X.base.get? b=some o->s.heap.get? b=some o/\H b=none:=λ b o e =>
 ⟨I.base.keep b o (I.ok.bs b o e).1 (I.ok.bs b o e).2 (I.ok.nofr e) (I.ok.noex b o e),I.base.free b o (I.ok.bs b o e).1 (I.ok.bs b o e).2 (I.ok.noex b o e)⟩
theorem Ly.bk(I:Ly X E3 σ H s):∀ b o,X.base.get? b=some o->s.heap.get? b=some o:=λ b o e=>(I.bs b o e).1
theorem Ly.mod(I:Ly X E3 σ H s):Mod X.K X.mg X.base:=I.ok.mod
theorem Ly.kIn(I:Ly X E3 σ H s):X.K.In s.heap:=I.ok.mod.kin.keeps I.bk
theorem Ly.lt(I:Ly X E3 σ H s):X.env.locals < s.heap.objs.size:=let ⟨_,hn,_⟩:=I.loc;hn.lt
theorem Ly.sz(I:Ly X E3 σ H s):X.s₀.heap.objs.size<=s.heap.objs.size:=zAp I.ok.above (Nat.le_of_lt I.lt)
theorem Ly.nofs(I:Ly X E3 σ H s){a:γ}(h:s.heap.objs.size<=a):a∉X.fs:=λ b=>by
 obtain⟨_,o,c,_⟩:=I.ok.funs.mem b;exact absurd (zAg (zA9 c) (zAp I.sz h)) (zBy _)
theorem Ly.cne(I:Ly X E3 σ H s):∀ x c,X.env.cells.lookup x=some c->c≠X.env.locals:=λ x c e z=>by
 obtain⟨v,o,d,f⟩:=I.cell x c e;obtain⟨m,⟨g,h,i,a,b,_⟩,_⟩:=I.loc;rw[z,a] at d;cases d;rw[b] at f;cases f
theorem Ly.funs(I:Ly X E3 σ H s):s.heap.FunFrames X.base X.outer:=by
 have all:∀(l:List Env),(∀ b∈frs l,b∈X.fs)->X.s₀.heap.FunFrames X.base l->s.heap.FunFrames X.base l:=by
   intro l
   induction l with
   | nil=>intro _ _;trivial
   | cons g r h =>
     intro f i;obtain⟨j,⟨L,o,a,k,m,n⟩,p⟩:=i;have c:L∈X.fs:=f L (by unfold frs;rw[zC0,a];exact zAa);obtain⟨q,e⟩:=I.base.slot L o m (I.ok.frf L c) c λ z=>I.ok.exfs L z c
     exact⟨j,⟨L,_,a,k,e,n⟩,h (λ b d=>f b (by unfold frs;rw[zC0,a];exact zA4 _ d)) p⟩
 exact all X.outer (λ _ d=>d) I.ok.funs
theorem Ly.stack(I:Ly X E3 σ H s):s.heap.FunFrames X.base X.stack:=by
 rcases I.ok.stk with e | ⟨e,a⟩
 . rw[e];exact I.funs
 rw[e];obtain⟨m,b,_⟩:=I.loc;refine .cons (by rw[I.ok.kind];decide) a b ?_ I.funs;exact Heap.get?_none_of_le (zAp I.ok.bsz I.ok.above)
theorem Ly.stkSub(I:Ly X E3 σ H s):∀ b∈frs X.stack,b∈X.env.locals::X.fs:=λ b a=>by
 rcases I.ok.stk with e | ⟨e,c⟩
 . rw[e] at a;exact zA4 _ a
 rw[e] at a;unfold frs at a;rw[zC0,c] at a;exact a
theorem Ly.stkFree(I:Ly X E3 σ H s):∀ b∈frs X.stack,H b=none:=λ b a=>by
 rcases zAm.mp (I.stkSub b a) with e | a
 . rw[e];exact I.free
 obtain⟨_,o,c,_⟩:=I.ok.funs.mem a;exact I.base.free b o c (I.ok.frf b a) λ z=>I.ok.exfs b z a
theorem Ly.step{g':Array GenState}{d':Drawn}(I:Ly X E3 σ H s)(f:∀ b∈ch,(b∈X.ex∨X.s₀.heap.objs.size<=b)/\b≠X.env.locals/\(∀ x c,X.env.cells.lookup x=some c->c≠b)/\∀ p∈X.pn++E3,p.1≠b)(keep:∀ b o,b≠X.env.locals->b∉X.fs->b∉ch->s.heap.get? b=some o->H b=none->h'.get? b=some o)(slot:∀ b o,b≠X.env.locals->b∈X.fs->b∉ch->s.heap.get? b=some o->H b=none->∃ sl,h'.get? b=some { o with slots:=sl })(free:∀ b o,b∉ch->s.heap.get? b=some o->H b=none->H' b=none)(there:∀ b o,b∉ch->s.heap.get? b=some o->∃ o',h'.get? b=some o')(tups:∀ b xs,H b=some (.q xs)->H' b=some (.q xs))(frzs:∀ b o u,H b=some (.frz o u)->H' b=some (.frz o u))(tbls:∀ b ps,H b=some (.tbl ps)->∃ more,H' b=some (.tbl (ps++more)))(ns:∀ m,s.heap.Ns X.env.locals m->h'.Ns X.env.locals m)(B:HOk X.prog X.w H' h')(K:AllBare g') :
   Ly X E3 σ H' { s with heap:=h',gens:=g',drawn:=d',toks:=t' }:=by
 have A:∀ b o,X.s₀.heap.get? b=some o->b≠X.env.locals:=λ b o e=>zAj (zAg (zA9 e) I.ok.above)
 have h:∀ b o,X.s₀.heap.get? b=some o->b∉X.ex->b∉ch:=λ b o e a t=>by
   rcases (f b t).1 with z | z
   . exact a z
   exact absurd (zAg (zA9 e) z) (zBy _)
 have cellK:∀ x c,X.env.cells.lookup x=some c->∀ v,s.heap.IsCell c v->h'.IsCell c v:=λ x c e v ⟨o,y,C⟩=>by
   have g:c∉ch:=λ z=>(f c z).2.2.1 x c e rfl
   by_cases E:c∈X.fs
   . obtain⟨sl,q⟩:=slot c o (I.cne x c e) E g y (I.freeC x c e)
     exact⟨_,q,C⟩
   exact⟨o,keep c o (I.cne x c e) E g y (I.freeC x c e),C⟩
 refine⟨I.ok,I.os,K,⟨λ b o e n t a=>?_,λ b o e n t a=>?_,λ b o e n a=>?_,λ b o e a=>?_,λ b xs e=>tups b xs (I.base.tups b xs e),λ b o xs e=>frzs b o xs (I.base.frzs b o xs e),λ b ps e=>?_⟩,?_,λ x c e=>?_,?_,λ x c e=>?_,λ p F=>?_,B,I.len⟩
 . exact keep b o (A b o e) t (h b o e a) (I.base.keep b o e n t a) (I.base.free b o e n a)
 . obtain⟨sl,j⟩:=I.base.slot b o e n t a
   obtain⟨D,e2⟩:=slot b _ (A b o e) t (h b o e a) j (I.base.free b o e n a);exact⟨D,e2⟩
 . obtain⟨o',j⟩:=I.base.there b o e a
   exact free b o' (h b o e a) j (I.base.free b o e n a)
 . obtain⟨o',j⟩:=I.base.there b o e a
   exact there b o' (h b o e a) j
 . obtain⟨L,j⟩:=I.base.tbls b ps e
   obtain⟨M,e2⟩:=tbls b _ j;exact⟨L++M,by rw[e2,Array.append_assoc]⟩
 . obtain⟨m,N,O⟩:=I.loc
   refine⟨m,ns m N,λ i x v j e2 P=>?_⟩;obtain⟨u,r,l⟩:=O i x v j e2 P;refine⟨u,r,?_⟩;rcases l with l | ⟨k,c,e,z⟩
   . exact .inl l
   exact .inr ⟨k,c,e,cellK x c e _ z⟩
 . obtain⟨v,z⟩:=I.cell x c e
   exact⟨v,cellK x c e v z⟩
 . obtain⟨m,⟨o,_,_,y,_⟩,_⟩:=I.loc
   exact free _ o (λ z=>(f _ z).2.1 rfl) y I.free
 . obtain⟨v,o,y,C⟩:=I.cell x c e
   exact free c o (λ z=>(f c z).2.2.1 x c e rfl) y (I.freeC x c e)
 obtain⟨e,n,G,J,d⟩:=I.pin p F;have g:p.1∉ch:=λ z=>(f p.1 z).2.2.2 p F rfl
 exact⟨keep p.1 p.2 G J g e n,free p.1 p.2 g e n,G,J,d⟩
theorem Ly.un(I:Ly X E3 σ H s)(u:Un X.fs [] H H' s.heap h')(c:HOk X.prog X.w H' h'):Ly X E3 σ H' { s with heap:=h',toks:=t' }:=by
 obtain⟨m,⟨o,l,p,h,r⟩,_⟩:=id I.loc;obtain⟨q,i⟩:=u.any h I.free (by simp);exact I.step (g':=s.gens) (d':=s.drawn) (ch:=[]) (λ _ z=>nomatch z) (λ b o _ d _ e n=>u.keep b o e n d (by simp)) (λ b o _ d _ e n=>u.slot b o e n d (by simp)) (λ b o _ e n=>u.free b o e n (by simp)) (λ b o _ e=>u.there b o e (by simp)) u.tups u.frzs u.tbls (λ t j=>by
   obtain⟨v,f,g,a,k⟩:=j;rw[h] at a;cases a;exact⟨_,f,g,i,k⟩) c I.bare
theorem Ly.call{g':Array GenState}{d':Drawn}(I:Ly X E3 σ H s)(u:Un (frs X.stack) ch H H' s.heap h')(g:HOk X.prog X.w H' h')(l:AllBare g')(d:∀ b∈ch,(b∈X.ex∨X.s₀.heap.objs.size<=b)/\b≠X.env.locals/\(∀ x c,X.env.cells.lookup x=some c->c≠b)/\∀ p∈X.pn++E3,p.1≠b) :
   Ly X E3 σ H' { s with heap:=h',gens:=g',drawn:=d',toks:=t' }:=by
 obtain⟨m,⟨o,y,A,k,r⟩,_⟩:=id I.loc;obtain⟨B,h⟩:=u.any k I.free λ z=>(d _ z).2.1 rfl
 exact I.step (ch:=ch) d (λ b o h q a e n=>u.keep b o e n (λ z=>(zAm.mp (I.stkSub b z)).elim h q) a) (λ b o _ _ a e n=>u.any e n a) (λ b o a e n=>u.free b o e n a) (λ b o a e=>u.there b o e a) u.tups u.frzs u.tbls (λ C t=>by
   obtain⟨D,i,j,f,v⟩:=t;rw[k] at f;cases f;exact⟨_,i,j,h,v⟩) g l
theorem Ly.turned{it:γ}(I:Ly X E3 σ H s)(k:∀ b o,b≠it->s.heap.get? b=some o->h'.get? b=some o)(g:H it=none)(f:it≠X.env.locals)(h1:it∈X.ex∨X.s₀.heap.objs.size<=it)(h2:∀ x c,X.env.cells.lookup x=some c->c≠it)(h:∀ p∈X.pn++E3,p.1≠it):Ly X E3 σ H { s with heap:=h',toks:=t' }:=by
 have d:∀ b u,H b=some u->b≠it:=λ b u e z=>by rw[z,g] at e;cases e
 refine I.step (g':=s.gens) (d':=s.drawn) (ch:=[it]) (λ b i=>?_) (λ b o _ _ a e _=>k b o (λ z=>a (by simp[z])) e) (λ b o _ _ a e _=>⟨o.slots,k b o (λ z=>a (by simp[z])) e⟩) (λ _ _ _ _ n=>n)
   (λ b o a e=>⟨o,k b o (λ z=>a (by simp[z])) e⟩) (λ _ _ e=>e) (λ _ _ _ e=>e) (λ b y e=>⟨#[],by rw[e];simp⟩) (λ m j=>?_) (λ b u e=>?_) I.bare
 . have e:b=it:=by simpa using i
   subst e;exact⟨h1,f,h2,h⟩
 . obtain⟨o,l,t,w,r⟩:=j
   exact⟨o,l,t,k _ o (Ne.symm f) w,r⟩
 refine(I.hok b u e).stay (λ c v a q=>k c v ?_ q) (λ _ q=>q) λ _ _ q=>q
 rcases a with z | z
 . rw[z];exact d b u e
 exact d c _ z
theorem Ly.tok(I:Ly X E3 σ H s)(t:Nat):Ly X E3 σ H { s with toks:=t }:=I.un (h':=s.heap) (t':=t) Un.refl I.hok
theorem Ly.kept(I:Ly X E3 σ H s)(k:∀ b u,s.heap.get? b=some u->h'.get? b=some u):Ly X E3 σ H { s with heap:=h',toks:=t' }:=I.un (Un.kept k) (I.hok.kept k)
theorem Ly.laid{a:γ}{o:HO}(I:Ly X E3 σ H s)(k:∀ b u,s.heap.get? b=some u->h'.get? b=some u)(c:s.heap.objs.size<=a)(d:ObjOk X.prog X.w (upd H a o) h' a o) :
   Ly X E3 σ (upd H a o) { s with heap:=h',toks:=t' }:=I.un (Un.laid k c (I.hok.fresh c)) (I.hok.laid k c d)
theorem Ly.write{x e:γ}{o:HO}(I:Ly X E3 σ H s)(d:Mut (H x))(f:e=x∨H e=some (.own x))(k:∀ b u,b≠e->s.heap.get? b=some u->h'.get? b=some u)(a:∃ u,h'.get? e=some u)(c:ObjOk X.prog X.w (upd H x o) h' x o):Ly X E3 σ (upd H x o) { s with heap:=h',toks:=t' }:=I.un (Un.write d f k a) (I.hok.write d f k a c)
theorem Ly.weak{σ':List (Option V)}(I:Ly X E3 σ H s)(a:σ'.length=σ.length)(w:∀(i:Nat) v,σ'[i]? = some (some v)->σ[i]? = some (some v)):Ly X E3 σ' H s :=
 ⟨I.ok,I.os,I.bare,I.base,let ⟨m,hn,hl'⟩:=I.loc;⟨m,hn,λ i x v b e2 c=>hl' i x v b (w i v e2) c⟩,I.cell,I.free,I.freeC,I.pin,I.hok,a.trans I.len⟩
theorem Ly.pins_of{pins':List (γ×Obj)}(I:Ly X E3 σ H s)(h:∀ p∈pins',s.heap.get? p.1=some p.2/\H p.1=none/\p.1≠X.env.locals/\p.1∉X.fs/\∀ v,p.2.data≠.cell v):Ly X pins' σ H s :=
 ⟨I.ok,I.os,I.bare,I.base,I.loc,I.cell,I.free,I.freeC,λ p a=>(zAb.mp a).elim (λ z=>I.pin p (zBu _ z)) (h p),I.hok,I.len⟩
theorem qaf1(c:N.Nodup){j:Nat}{x:Str}(a:N[i]? = some x)(b:N[j]? = some x):i=j:=by
 obtain⟨e,d⟩:=zA5.mp a;obtain⟨f,e2⟩:=zA5.mp b;exact(List.getElem_inj c).mp (d.trans e2.symm)
theorem qal6{A:Around}{E:V'->δ->Prop}{x:Str}{v:V}{u:V'}{Q:Unit->δ->Prop}(I:Ly X E3 σ H s)(hN:X.N.Nodup)(hi:X.N[i]? = some x)(t:Loc X.env.scope x)(r:Lv v u)(h:∀ s',Ly X E3 (σ.set i (some v)) H s'->(∃ a,Heap.SameBut a s.heap s'.heap/\(a=X.env.locals∨X.env.cells.lookup x=some a))->Q () s')(hf:X.fn x=true∨X.env.scope.names.lookup x=some .local:=by first | exact .inl rfl | exact .inr rfl | assumption):wpAny M A (storeName X.env x u) Q E s:=by
 obtain⟨m,W,hl⟩:=id I.loc;have K:(X.env.scope.kind == .class||(X.env.scope.kind == .module&&X.env.locals != X.env.globals))=false:=by rw[I.ok.kind];rfl
 have hiσ:i < σ.length:=by rw[I.len];exact(zA5.mp hi).1
 have C:=I.cne;have tracked:∀{a:γ}{J:Heap},(∃ o,s.heap.get? a=some o/\H a=none)->Heap.SameBut a s.heap J->HOk X.prog X.w H J:=λ{a J} ha f b ob e=>by
   obtain⟨_,_,hfree⟩:=ha;refine(I.hok b ob e).stay (λ c S l q=>(f.2 c ?_).trans q) (λ _ q=>q) λ _ _ q=>q
   rintro rfl;rcases l with rfl | l
   . rw[hfree] at e;cases e
   rw[hfree] at l;cases l
 rcases t with B | B
 . refine wpAny_storeName_local B W (λ J Y f=>?_) K
   obtain⟨oL,_,_,Z,_⟩:=id W;refine h _ ⟨I.ok,I.os,I.bare,⟨λ b o e n D t=>?_,λ b o e n D t=>?_,I.base.free,λ b o e t=>?_,I.base.tups,I.base.frzs,I.base.tbls⟩,⟨_,Y,λ j y v' g e2 e3=>?_⟩,λ y c e=>?_,I.free,I.freeC,λ p hp=>?_,tracked ⟨oL,Z,I.free⟩ f,by simpa using I.len⟩ ⟨_,f,.inl rfl⟩
   . exact(f.2 b (zAj (zAg (zA9 e) I.ok.above))).trans (I.base.keep b o e n D t)
   . obtain⟨sl,g⟩:=I.base.slot b o e n D t
     exact⟨sl,(f.2 b (zAj (zAg (zA9 e) I.ok.above))).trans g⟩
   . obtain⟨o',g⟩:=I.base.there b o e t
     exact⟨o',(f.2 b (zAj (zAg (zA9 e) I.ok.above))).trans g⟩
   . by_cases F:j=i
     . subst F
       rw[hi] at g;cases g;rw[List.getElem?_set_self hiσ] at e2;cases e2;exact⟨u,r,.inl ⟨B,by simp⟩⟩
     rw[zBc (Ne.symm F)] at e2;obtain⟨u',r',q⟩:=hl j y v' g e2 e3;refine⟨u',r',?_⟩;rcases q with⟨k,e⟩ | ⟨k,c,e,z⟩
     . refine .inl ⟨k,?_⟩
       have:y≠x:=λ e=>F (qaf1 hN g (e ▸ hi))
       simp[this,e]
     exact .inr ⟨k,c,e,z.sameBut f (C y c e)⟩
   . obtain⟨S,z⟩:=I.cell y c e
     exact⟨S,z.sameBut f (C y c e)⟩
   obtain⟨e,n,T,nf,d⟩:=I.pin p hp;exact⟨(f.2 p.1 T).trans e,n,T,nf,d⟩
 have G:X.fn x=true:=by
   rcases hf with z | z
   . exact z
   rw[z] at B;cases B
 obtain⟨c,l⟩:=I.ok.has x (.inl B);obtain⟨S,z⟩:=I.cell x c l;refine wpAny_storeName_cell I.ok.kind B l z (λ J L f=>?_);obtain⟨oc,O,P⟩:=id z;refine h { s with heap:=J } ⟨I.ok,I.os,I.bare,⟨λ b o e n D t=>?_,λ b o e n D t=>?_,I.base.free,λ b o e t=>?_,I.base.tups,I.base.frzs,I.base.tbls⟩,⟨m,W.sameBut f (Ne.symm (C x c l)),λ j y v' g e2 e3=>?_⟩,λ y U e=>?_,I.free,I.freeC,λ p hp=>?_,tracked ⟨oc,O,I.freeC x c l⟩ f,by simpa using I.len⟩ ⟨c,f,.inr l⟩
 . exact(f.2 b (zAj (zAg (zA9 e) (I.ok.cab x c G l)))).trans (I.base.keep b o e n D t)
 . obtain⟨sl,g⟩:=I.base.slot b o e n D t
   exact⟨sl,(f.2 b (zAj (zAg (zA9 e) (I.ok.cab x c G l)))).trans g⟩
 . obtain⟨o',g⟩:=I.base.there b o e t
   exact⟨o',(f.2 b (zAj (zAg (zA9 e) (I.ok.cab x c G l)))).trans g⟩
 . by_cases F:j=i
   . subst F
     rw[hi] at g;cases g;rw[List.getElem?_set_self hiσ] at e2;cases e2;exact⟨u,r,.inr ⟨.inl B,c,l,L⟩⟩
   rw[zBc (Ne.symm F)] at e2;obtain⟨u',r',q⟩:=hl j y v' g e2 e3;refine⟨u',r',?_⟩;rcases q with q | ⟨k,U,e,z'⟩
   . exact .inl q
   refine .inr ⟨k,U,e,z'.sameBut f ?_⟩;rintro rfl;exact F (qaf1 hN g (I.ok.inj _ _ _ e l ▸ hi))
 . by_cases R:U=c
   . subst R;exact⟨_,L⟩
   obtain⟨w2,z2⟩:=I.cell y U e;exact⟨w2,z2.sameBut f R⟩
 obtain⟨e,n,T,nf,d⟩:=I.pin p hp;refine⟨(f.2 p.1 ?_).trans e,n,T,nf,d⟩;intro q;rw[q,O] at e;have q':oc=p.2:=Option.some.inj e;exact d S (by rw[<- q'];exact P)
theorem qM9{A:Around}{E:V'->δ->Prop}{x:Str}{v:V}{u:V'}{Q:Unit->δ->Prop}(I:Ly X E3 σ H s)(a:X.N.Nodup)(hi:X.N[i]? = some x)(b:Loc X.env.scope x)(r:Lv v u)(h:∀ s',Ly X E3 (σ.set i (some v)) H s'->Q () s')(c:X.fn x=true∨X.env.scope.names.lookup x=some .local:=by first | exact .inl rfl | exact .inr rfl | assumption):wpAny M A (storeName X.env x u) Q E s :=
 qal6 I a hi b r (λ s' I' _=>h s' I') c
theorem Ly.call'{s':δ}(I:Ly X E3 σ H s)(i:s'.os=s.os)(u:Un (frs X.stack) ch H H' s.heap s'.heap)(a:HOk X.prog X.w H' s'.heap)(j:AllBare s'.gens)(d:∀ b∈ch,(b∈X.ex∨X.s₀.heap.objs.size<=b)/\b≠X.env.locals/\(∀ x c,X.env.cells.lookup x=some c->c≠b)/\∀ p∈X.pn++E3,p.1≠b):Ly X E3 σ H' s':=by
 obtain⟨l,f,g,h,k⟩:=s';have e:k=s.os:=i;subst e;exact I.call (g':=f) (t':=h) (d':=g) u a j d
end
abbrev XK:=V'->Option γ->Hp->Prop
abbrev St:=List (Option V)
abbrev VK:=V->Hp->Prop
abbrev TE:=St->Hp->VK->Prop
abbrev TT:=St->Hp->(Bool->Hp->Prop)->Prop
abbrev TA:=St->Hp->(List V->Hp->Prop)->Prop
structure Eb where
 nx:St->Hp->Prop
 rt:VK
 bk:St->Hp->Prop:=λ _ _=>False
 ct:St->Hp->Prop:=λ _ _=>False
abbrev TS:=Eb->St->Hp->Prop
def EP(X:Cx)(E3:List (γ×Obj))(σ:St)(Q:VK)(u:V')(s':δ):Prop:=∃ v H',Ly X E3 σ H' s'/\Lv v u/\Q v H'
def TP(X:Cx)(E3:List (γ×Obj))(σ:St)(Q:Bool->Hp->Prop)(b:Bool)(s':δ):Prop:=∃ H',Ly X E3 σ H' s'/\Q b H'
def AP(X:Cx)(E3:List (γ×Obj))(σ:St)(Q:List V->Hp->Prop)(us:List V')(s':δ):Prop:=∃ vs H',Ly X E3 σ H' s'/\Lw vs us/\Q vs H'
def SP(X:Cx)(E3:List (γ×Obj))(D:Eb)(f:Flow)(s':δ):Prop :=
 match f with
 | .next=>∃ σ' H',Ly X E3 σ' H' s'/\D.nx σ' H'
 | .brk=>∃ σ' H',Ly X E3 σ' H' s'/\D.bk σ' H'
 | .cont=>∃ σ' H',Ly X E3 σ' H' s'/\D.ct σ' H'
 | .ret u=>∃ v σ' H',Ly X E3 σ' H' s'/\Lv v u/\D.rt v H'
def PE(X:Cx)(e:Expr)(t:TE):Prop :=
 ∀(E3:List (γ×Obj))(s:δ)(σ:St)(H:Hp)(Q:VK),Ly X E3 σ H s->t σ H Q->wpAny (model X.prog X.w) X.A (eval e X.env) (EP X E3 σ Q) X.xe s
def PT(X:Cx)(e:Expr)(t:TT):Prop :=
 ∀(E3:List (γ×Obj))(s:δ)(σ:St)(H:Hp)(Q:Bool->Hp->Prop),Ly X E3 σ H s->t σ H Q->wpAny (model X.prog X.w) X.A (isTrue e X.env (eval e X.env)) (TP X E3 σ Q) X.xe s
def PW(X:Cx)(e:Expr)(t:TT):Prop :=
 ∀(whole:Sem V')(E3:List (γ×Obj))(s:δ)(σ:St)(H:Hp)(Q:Bool->Hp->Prop),Ly X E3 σ H s->t σ H Q->wpAny (model X.prog X.w) X.A (isTrue e X.env whole) (TP X E3 σ Q) X.xe s
theorem PW.pt{X:Cx}{e:Expr}{t:TT}(h:PW X e t):PT X e t:=h _
def PA(X:Cx)(es:List Expr)(t:TA):Prop :=
 ∀(pos:Pos)(E3:List (γ×Obj))(s:δ)(σ:St)(H:Hp)(Q:List V->Hp->Prop),Ly X E3 σ H s->t σ H Q->wpAny (model X.prog X.w) X.A (spliced (backTo pos (Ko es X.env))) (AP X E3 σ Q) X.xe s
def PS(X:Cx)(st:Stmt)(t:TS):Prop :=
 ∀(E3:List (γ×Obj))(s:δ)(σ:St)(H:Hp)(D:Eb),Ly X E3 σ H s->t D σ H->wpAny (model X.prog X.w) X.A (exec st X.env) (SP X E3 D) X.xe s
def PSs(X:Cx)(st:List Stmt)(t:TS):Prop :=
 ∀(E3:List (γ×Obj))(s:δ)(σ:St)(H:Hp)(D:Eb),Ly X E3 σ H s->t D σ H->wpAny (model X.prog X.w) X.A (execs st X.env) (SP X E3 D) X.xe s
theorem thn{t:Sem α}{Q Q':α->δ->Prop}{A:Around}{E:V'->δ->Prop}{s:δ}(h:wpAny M A t Q E s)(b:∀ a s,Q a s->Q' a s):wpAny M A t Q' E s:=K6 h b λ _ _ x=>x
section
variable{X:Cx}
theorem bin{a b:Expr}{ta tb:TE}(d:PE X a ta)(e:PE X b tb){E3:List (γ×Obj)}{s:δ}{σ:St}{H:Hp}{R:V->V->Hp->Prop}(I:Ly X E3 σ H s)(h:ta σ H λ x H1=>tb σ H1 λ y H2=>R x y H2){Q:α->δ->Prop}{f:V'->V'->Sem α}(g:∀ v u s2 x y H2,Ly X E3 σ H2 s2->Lv x v->Lv y u->R x y H2->wpAny (model X.prog X.w) X.A (f v u) Q X.xe s2) :
   wpAny (model X.prog X.w) X.A (eval a X.env) (λ v s₁=>wpAny (model X.prog X.w) X.A (eval b X.env) (λ u s₂=>wpAny (model X.prog X.w) X.A (f v u) Q X.xe s₂) X.xe s₁) X.xe s:=by
 refine thn (d E3 s σ H _ I h) λ v i c=>?_
 obtain⟨x,H1,I1,j,k⟩:=c;refine thn (e E3 i σ H1 _ I1 k) λ u s2 c=>?_
 obtain⟨y,H2,I2,l,q2⟩:=c;exact g v u s2 x y H2 I2 j l q2
def Fx(i:Nat):TE:=λ σ H Q=>∃ v,σ[i]? = some (some v)/\Q v H
def tC(v:V):TE:=λ _ H Q=>Q v H
theorem qk1{x:Str}{pos:Pos}(f:X.N[i]? = some x)(g:Vis X.env.scope x)(b:N' x:=by decide)(d:(x == ("__classdict__" : Str))=false:=by decide):PE X (.Name x pos) (Fx i):=by
 intro E3 s σ H Q I h;obtain⟨v,e,h⟩:=h;obtain⟨m,j,k⟩:=I.loc;obtain⟨u,r,l⟩:=k i x v f e g;have fin:EP X E3 σ Q u s:=⟨v,H,I,r,h⟩
 rcases l with⟨a,hm⟩ | ⟨a,c,hc,hcell⟩
 . exact wpAny_Name (wpAny_loadName_local I.ok.kind a j hm fin) b
 rcases a with a | a
 . exact wpAny_Name (wpAny_loadName_cell I.ok.kind a hc hcell fin) b
 exact wpAny_Name (wpAny_loadName_free I.ok.kind a hc hcell fin d) b
theorem qI7{i j pos}:PE X (.Constant (.int i) j pos) (tC (.int i)):=λ _ _ _ H _ I h=>wpAny_Constant_int ⟨.int i,H,I.tok _,⟨_,rfl⟩,h⟩
theorem pe_bl{b j pos}:PE X (.Constant (.bool b) j pos) (tC (.bl b)):=λ _ _ _ H _ I h=>Constant_bool ⟨.bl b,H,I,rfl,h⟩
theorem qaJ0{j pos}:PE X (.Constant .none j pos) (tC .non):=λ _ _ _ H _ I h=>Constant_none ⟨.non,H,I,rfl,h⟩
theorem qaS1{x j pos}:PE X (.Constant (.str x) j pos) (tC (.str x)):=λ _ _ _ H _ I h=>Calls.Constant_str ⟨.str x,H,I.tok _,⟨_,rfl⟩,h⟩
def Gl(X:Cx)(x:Str):Prop:=X.env.kindOf x=some .globalImplicit
theorem qz2{E:V'->δ->Prop}{E3:List (γ×Obj)}{s:δ}{σ:St}{H:Hp}{x:Str}{u:V'}{pos:Pos}{Q:V'->δ->Prop}(I:Ly X E3 σ H s)(a:Gl X x)(hm:X.mg x=some u)(h:Q u s)(b:N' x:=by decide):wpAny (model X.prog X.w) X.A (eval (.Name x pos) X.env) Q E s :=
 Calls.Name_function_global I.ok.kind a (Calls.loadGlobal_global (by rw[I.ok.glob];exact I.mod.glob.keeps I.bk) hm h) b
theorem qag2{E:V'->δ->Prop}{E3:List (γ×Obj)}{s:δ}{σ:St}{H:Hp}{x:Str}{u:V'}{pos:Pos}{Q:V'->δ->Prop}(I:Ly X E3 σ H s)(a:Gl X x)(hm:X.mg x=none)(b:Ku x=some u)(h:Q u s)(c:x ≠ "__name__" := by decide)(d:N' x:=by decide):wpAny (model X.prog X.w) X.A (eval (.Name x pos) X.env) Q E s:=by
 obtain⟨g,e,f⟩:=I.mod.blt;exact Calls.Name_function_global I.ok.kind a (Calls.loadGlobal_builtin (by rw[I.ok.glob];exact I.mod.glob.keeps I.bk) hm (by rw[I.ok.blt];exact e.keeps I.bk) ((f x c).trans b) h) d
theorem qat5{x:Str}{v:V}{u:V'}{pos:Pos}(a:Gl X x)(hm:X.mg x=some u)(r:Lv v u)(b:N' x:=by decide):PE X (.Name x pos) (tC v) :=
 λ _ _ _ H _ I h=>qz2 I a hm ⟨v,H,I,r,h⟩ b
theorem qaJ3{x:Str}{v:V}{u:V'}{pos:Pos}(a:Gl X x)(hm:X.mg x=none)(b:Ku x=some u)(r:Lv v u)(c:x ≠ "__name__" := by decide)(d:N' x:=by decide):PE X (.Name x pos) (tC v) :=
 λ _ _ _ H _ I h=>qag2 I a hm b ⟨v,H,I,r,h⟩ c d
variable{a b:Expr}{ta tb:TE}{pos:Pos}
def tB(t:TE):TT:=λ σ H Q=>t σ H λ x H1=>∃ c,x=.bl c/\Q c H1
theorem qay0{e:Expr}{t:TE}(h:PE X e t)(b:∀ whole,isTrue e X.env whole=(do let v <- whole;standAt e.pos;holding [v] (truthy v)):=by intro _;rfl):PT X e (tB t):=by
 intro E3 s σ H Q I c;refine isTrue_plain (thn (h E3 s σ H _ I c) λ v i a=>?_) (b _);obtain⟨x,H1,I1,f,g⟩:=a;obtain⟨d,rfl,q⟩:=g;cases f;exact Kv ⟨H1,I1,q⟩
variable{tA tB':TT}{rest:List Expr}
def tAnd(t u:TT):TT:=λ σ H Q=>t σ H λ c H1=>if c=true then u σ H1 Q else Q false H1
def tOr(t u:TT):TT:=λ σ H Q=>t σ H λ c H1=>if c=true then Q true H1 else u σ H1 Q
def tNot(t:TT):TT:=λ σ H Q=>t σ H λ c H1=>Q (!c) H1
theorem qaH5(b:PT X a tA):PW X (.BoolOp .And [a] pos) tA:=by
 intro d E3 s σ H Q I h;refine isTrue_and (thn (b E3 s σ H Q I h) λ c f e=>?_);cases c with
 | true=>exact isTrue_and_nil e
 | false=>exact e
theorem qaR0(b:PT X a tA):PW X (.BoolOp .Or [a] pos) tA:=by
 intro d E3 s σ H Q I h;refine isTrue_or (thn (b E3 s σ H Q I h) λ c f e=>?_);cases c with
 | false=>exact isTrue_or_nil e
 | true=>exact e
theorem qaR1(f:PT X a tA)(g:PW X (.BoolOp .And (b::rest) pos) tB'):PW X (.BoolOp .And (a::b::rest) pos) (tAnd tA tB'):=by
 intro i E3 s σ H Q I h;refine isTrue_and (thn (f E3 s σ H _ I h) λ c j d=>?_);obtain⟨H1,I1,e⟩:=d;cases c with
 | true=>exact g i E3 j σ H1 Q I1 e
 | false=>exact⟨H1,I1,e⟩
theorem pw_or(f:PT X a tA)(g:PW X (.BoolOp .Or (b::rest) pos) tB'):PW X (.BoolOp .Or (a::b::rest) pos) (tOr tA tB'):=by
 intro i E3 s σ H Q I h;refine isTrue_or (thn (f E3 s σ H _ I h) λ c j d=>?_);obtain⟨H1,I1,e⟩:=d;cases c with
 | true=>exact⟨H1,I1,e⟩
 | false=>exact g i E3 j σ H1 Q I1 e
theorem qaH6(b:PT X a tA):PT X (.UnaryOp .Not a pos) (tNot tA):=by
 intro E3 s σ H Q I h;exact isTrue_not (b E3 s σ H (λ c H1=>Q (!c) H1) I h)
def tAndV(ta tb:TE):TE:=λ σ H Q=>ta σ H λ x H1=>∃ c,x=.bl c/\if c=true then tb σ H1 Q else Q (.bl false) H1
def tOrV(ta tb:TE):TE:=λ σ H Q=>ta σ H λ x H1=>∃ c,x=.bl c/\if c=true then Q (.bl true) H1 else tb σ H1 Q
def tNotV(ta:TE):TE:=λ σ H Q=>ta σ H λ x H1=>∃ c,x=.bl c/\Q (.bl (!c)) H1
theorem qam8{op}{t:TE}(h:PE X a t):PE X (.BoolOp op [a] pos) t:=λ E3 s σ H Q I b=>BoolOp_one (h E3 s σ H Q I b)
theorem qan1(f:PE X a ta)(g:PE X (.BoolOp .And (b::rest) pos) tb):PE X (.BoolOp .And (a::b::rest) pos) (tAndV ta tb):=by
 intro E3 s σ H Q I h;refine BoolOp_and (thn (f E3 s σ H _ I h) λ v i e=>?_);obtain⟨x,H1,I1,j,d⟩:=e;obtain⟨c,rfl,d⟩:=d;cases j;refine Kv ?_;cases c with
 | true=>exact g E3 i σ H1 Q I1 d
 | false=>exact⟨.bl false,H1,I1,rfl,d⟩
theorem pe_or(f:PE X a ta)(g:PE X (.BoolOp .Or (b::rest) pos) tb):PE X (.BoolOp .Or (a::b::rest) pos) (tOrV ta tb):=by
 intro E3 s σ H Q I h;refine BoolOp_or (thn (f E3 s σ H _ I h) λ v i e=>?_);obtain⟨x,H1,I1,j,d⟩:=e;obtain⟨c,rfl,d⟩:=d;cases j;refine Kv ?_;cases c with
 | false=>exact g E3 i σ H1 Q I1 d
 | true=>exact⟨.bl true,H1,I1,rfl,d⟩
theorem qaI9(e:PE X a ta):PE X (.UnaryOp .Not a pos) (tNotV ta):=by
 intro E3 s σ H Q I h;refine UnaryOp_ (thn (e E3 s σ H _ I h) λ v g b=>?_);obtain⟨x,H1,I1,f,d⟩:=b;obtain⟨c,rfl,d⟩:=d;cases f;exact not_of (Kv ⟨.bl (!c),H1,I1,rfl,d⟩)
def tIf(t:TT)(ta tb:TE):TE:=λ σ H Q=>t σ H λ c H1=>if c=true then ta σ H1 Q else tb σ H1 Q
theorem qae1{c:Expr}(i:PT X c tA)(j:PE X a ta)(k:PE X b tb):PE X (.IfExp c a b pos) (tIf tA ta tb):=by
 intro E3 s σ H Q I h;refine wpAny_IfExp (thn (i E3 s σ H _ I h) λ d f e=>?_);obtain⟨H1,I1,g⟩:=e;cases d with
 | true=>exact j E3 f σ H1 Q I1 g
 | false=>exact k E3 f σ H1 Q I1 g
end
def SqL(K:W.Frag)(H:Hp)(a:γ)(xs:List V):Prop :=
 Rd H a (.l xs) ∨
   ∃(o:Obj)(its:Array V')(n:Nat),K.lookup a=some o/\o.cls=.type "list" /\ o.dict=none/\o.data=.seq its n/\its.size<=Kq/\Lw xs its.toList
def SqT(K:W.Frag)(H:Hp)(a:γ)(xs:List V):Prop :=
 Rd H a (.q xs) ∨
   ∃(o:Obj)(its:Array V')(n:Nat),K.lookup a=some o/\o.cls=.type "tuple" /\ o.data=.seq its n/\its.size<=Kq/\Lw xs its.toList
noncomputable def absV:V'->Option V
 | .none=>some .non
 | .bool b=>some (.bl b)
 | .int i _=>some (.int i)
 | .str x _=>some (.str x)
 | .bytes b _=>some (.byt b)
 | .float b _=>some (.flt b)
 | .ref a=>some (.ref a)
 | .type n=>some (.ty n)
 | _=>none
theorem Lv.abs{x:V}{u:V'}(r:Lv x u):absV u=some x:=by
 cases x with
 | non=>cases r;rfl
 | bl _=>cases r;rfl
 | int _=>obtain⟨t,rfl⟩:=r;rfl
 | str _=>obtain⟨t,rfl⟩:=r;rfl
 | byt _=>obtain⟨t,rfl⟩:=r;rfl
 | flt _=>obtain⟨t,rfl⟩:=r;rfl
 | ref _=>cases r;rfl
 | ty _=>cases r;rfl
theorem Lv.inj{x y:V}{u:V'}(r:Lv x u)(q:Lv y u):x=y:=Option.some.inj (r.abs.symm.trans q.abs)
theorem Lw.inj{xs ys:List V}(h:Lw xs us)(g:Lw ys us):xs=ys:=by
 induction h generalizing ys with
 | nil=>cases g;rfl
 | cons r t i=>cases g with | cons q u=>rw[r.inj q,i u]
section
variable{X:Cx}{E3:List (γ×Obj)}{σ:St}{H:Hp}{s:δ}{a:γ}{xs ys:List V}
theorem SqL.of{K:W.Frag}(h:H a=some (.l xs)):SqL K H a xs:=.inl (.inl h)
theorem Ly.list(I:Ly X E3 σ H s)(h:SqL X.K H a xs):∃ its:List V',Lw xs its/\PlainL s.heap a its.toArray/\xs.length<=Kq:=by
 rcases h with h | ⟨o,its,n,b,c,d,f,g,r⟩
 . obtain⟨z,its,n,r,e⟩:=h.ok I.hok
   exact⟨its,r,⟨_,n,e,rfl,rfl,rfl⟩,z⟩
 refine⟨its.toList,r,⟨o,n,I.kIn a o b,c,d,by simpa using f⟩,?_⟩;have e:=r.length;simp only[zBp] at e;lia
theorem Ly.tuple(I:Ly X E3 σ H s)(h:SqT X.K H a xs):∃ its:List V',Lw xs its/\IsTup s.heap a its.toArray/\xs.length<=Kq:=by
 rcases h with h | ⟨o,its,n,b,c,d,f,r⟩
 . obtain⟨z,its,r,p⟩:=h.ok I.hok
   exact⟨its,r,p,z⟩
 refine⟨its.toList,r,⟨o,I.kIn a o b,c,n,by simpa using d⟩,?_⟩;have e:=r.length;simp only[zBp] at e;lia
theorem Ly.list_inj(I:Ly X E3 σ H s)(h:SqL X.K H a xs)(h':SqL X.K H a ys):xs=ys:=by
 obtain⟨b,r,⟨o,n,e,_,_,d⟩,_⟩:=I.list h;obtain⟨its',g,⟨j,k,c,_,_,f⟩,_⟩:=I.list h';rw[e] at c;cases c;rw[d] at f;injection f with i _
 have:b=its':=by simpa using congrArg Array.toList i
 subst this;exact r.inj g
end
noncomputable abbrev Cx.wish(X:Cx)(E:V'->δ->Prop):Cx:={ X with xe:=E }
abbrev Cx.nox(X:Cx):Cx:=X.wish λ _ _=>False
theorem Cx.Ok.wish{X:Cx}(a:X.Ok)(E:V'->δ->Prop):(X.wish E).Ok :=
 ⟨a.mod,a.kind,a.glob,a.blt,a.above,a.inj,a.has,a.cab,a.hd,a.frames,a.stk,a.exf,a.bs,a.bsz,a.noex,a.exfs,a.funs,a.frf⟩
theorem Cx.Ok.unwish{X:Cx}{E:V'->δ->Prop}(a:(X.wish E).Ok):X.Ok :=
 ⟨a.mod,a.kind,a.glob,a.blt,a.above,a.inj,a.has,a.cab,a.hd,a.frames,a.stk,a.exf,a.bs,a.bsz,a.noex,a.exfs,a.funs,a.frf⟩
section
variable{X:Cx}{E3:List (γ×Obj)}{σ:St}{H:Hp}{s:δ}{E:V'->δ->Prop}
theorem Ly.wish(I:Ly X E3 σ H s)(E:V'->δ->Prop):Ly (X.wish E) E3 σ H s:=⟨I.ok.wish E,I.os,I.bare,I.base,I.loc,I.cell,I.free,I.freeC,I.pin,I.hok,I.len⟩
theorem Ly.unwish(I:Ly (X.wish E) E3 σ H s):Ly X E3 σ H s:=⟨I.ok.unwish,I.os,I.bare,I.base,I.loc,I.cell,I.free,I.freeC,I.pin,I.hok,I.len⟩
theorem SP.unwish{D:Eb}{f:Flow}{s':δ}(h:SP (X.wish E) E3 D f s'):SP X E3 D f s':=by
 cases f with
 | next=>obtain⟨σ',H',I,q⟩:=h;exact⟨σ',H',I.unwish,q⟩
 | brk=>obtain⟨σ',H',I,q⟩:=h;exact⟨σ',H',I.unwish,q⟩
 | cont=>obtain⟨σ',H',I,q⟩:=h;exact⟨σ',H',I.unwish,q⟩
 | ret u=>obtain⟨v,σ',H',I,r,q⟩:=h;exact⟨v,σ',H',I.unwish,r,q⟩
theorem PSs.nox{st:List Stmt}{t:TS}(h:PSs X.nox st t):PSs X st t:=λ E3 s σ H D I a =>
 K6 (h E3 s σ H D (I.wish _) a) (λ _ _ q=>q.unwish) λ _ _ z=>False.elim z
end
section
variable{X:Cx}{st:Stmt}{rest:List Stmt}{t u:TS}{e:Expr}{te:TE}{pos:Pos}
def tNext:TS:=λ D σ H=>D.nx σ H
def tSeq(t u:TS):TS:=λ D σ H=>t { D with nx:=u D } σ H
theorem qat0:PSs X [] tNext:=λ _ _ σ H _ I h=>wpAny_execs_nil ⟨σ,H,I,h⟩
theorem qO9(h1:PS X st t)(h2:PSs X rest u):PSs X (st::rest) (tSeq t u):=by
 intro E3 s σ H D I h;refine wpAny_execs_cons (thn (h1 E3 s σ H { D with nx:=u D } I h) λ f a q=>?_);cases f with
 | next =>
   obtain⟨σ',H',I',q⟩:=q;exact h2 E3 a σ' H' D I' q
 | ret v=>exact q
 | brk=>exact q
 | cont=>exact q
theorem qm3(h1:PS X st t):PSs X [st] t:=by
 intro E3 s σ H D I h;refine wpAny_execs_cons (thn (h1 E3 s σ H D I h) λ f a q=>?_);cases f with
 | next=>exact wpAny_execs_nil q
 | ret v=>exact q
 | brk=>exact q
 | cont=>exact q
theorem Ly.quiet{E3:List (γ×Obj)}{σ:St}{H:Hp}{s:δ}(I:Ly X E3 σ H s):interactive X.env=false:=by simp[interactive,I.ok.kind]
def tDrop(te:TE):TS:=λ D σ H=>te σ H λ _ H1=>D.nx σ H1
theorem qaH8(a:PE X e te)(b:swapsWith e none pos.line X.env=pure false:=by rfl):PS X (.Expr e pos) (tDrop te):=by
 intro E3 s σ H D I h;exact wpAny_Expr_any (thn (a E3 s σ H _ I h) λ v d ⟨x,H1,I1,f,c⟩=>⟨σ,H1,I1,c⟩) I.quiet b
def tRet(te:TE):TS:=λ D σ H=>te σ H D.rt
theorem qY8(a:PE X e te):PS X (.Return (some e) pos) (tRet te):=by
 intro E3 s σ H D I h;exact wpAny_Return_some (thn (a E3 s σ H _ I h) λ v d ⟨x,H1,I1,b,c⟩=>⟨x,σ,H1,I1,b,c⟩)
def tIfS(c:TT)(t u:TS):TS:=λ D σ H=>c σ H λ b H1=>if b=true then t D σ H1 else u D σ H1
theorem ps_if{c:Expr}{a b:List Stmt}{tc:TT}(i:PT X c tc)(j:PSs X a t)(k:PSs X b u):PS X (.If c a b pos) (tIfS tc t u):=by
 intro E3 s σ H D I h;refine wpAny_If (thn (i E3 s σ H _ I h) λ d f e=>?_);obtain⟨H1,I1,g⟩:=e;cases d with
 | true=>exact j E3 f σ H1 D I1 g
 | false=>exact k E3 f σ H1 D I1 g
def qaQ1:TS:=λ _ _ _=>False
theorem qay3:PS X st qaQ1:=λ _ _ _ _ _ _ h=>h.elim
end
abbrev TG:=V->St->Hp->(St->Hp->Prop)->Prop
abbrev TGs:=List V->St->Hp->(St->Hp->Prop)->Prop
def PG(X:Cx)(target:Expr)(t:TG):Prop :=
 ∀(E3:List (γ×Obj))(s:δ)(σ:St)(H:Hp)(v:V)(u:V')(Q:St->Hp->Prop),Ly X E3 σ H s->Lv v u->t v σ H Q ->
   wpAny (model X.prog X.w) X.A (assign target X.env u) (λ _ s'=>∃ σ' H',Ly X E3 σ' H' s'/\Q σ' H') X.xe s
def PGs(X:Cx)(ts:List Expr)(t:TGs):Prop :=
 ∀(E3:List (γ×Obj))(s:δ)(σ:St)(H:Hp)(vs:List V)(us:List V')(Q:St->Hp->Prop),Ly X E3 σ H s->Lw vs us->t vs σ H Q ->
   wpAny (model X.prog X.w) X.A (assignInOrder ((La ts X.env).map (·.2)) us) (λ _ s'=>∃ σ' H',Ly X E3 σ' H' s'/\Q σ' H') X.xe s
abbrev Iz:=V->V->V->Hp->(Hp->Prop)->Prop
def PSet(X:Cx)(t:Iz):Prop :=
 ∀(E3:List (γ×Obj))(s:δ)(σ:St)(H:Hp)(o i v:V)(ov iv u:V')(Q:Hp->Prop),Ly X E3 σ H s->Lv o ov->Lv i iv->Lv v u->t o i v H Q ->
   wpAny (model X.prog X.w) X.A (setItem ov iv u) (λ _ s'=>∃ H',Ly X E3 σ H' s'/\Q H') X.xe s
abbrev TIp:=V->V->Hp->VK->Prop
def PIp(X:Cx)(op:Operator)(t:TIp):Prop :=
 ∀(E3:List (γ×Obj))(s:δ)(σ:St)(H:Hp)(x y:V)(v u:V')(Q:VK),Ly X E3 σ H s->Lv x v->Lv y u->t x y H Q ->
   wpAny (model X.prog X.w) X.A (inplaceOp op v u) (EP X E3 σ Q) X.xe s
section
variable{X:Cx}{pos:Pos}
def Fo(i:Nat):TG:=λ v σ H Q=>Q (σ.set i (some v)) H
theorem qat2{x:Str}(a:X.N.Nodup)(hi:X.N[i]? = some x)(b:Loc X.env.scope x)(c:X.fn x=true∨X.env.scope.names.lookup x=some .local:=by first | exact .inl rfl | exact .inr rfl | assumption):PG X (.Name x pos) (Fo i):=by
 intro E3 s σ H v u Q I r h;exact wpAny_assign_Name (qM9 I a hi b r (λ d I'=>⟨_,H,I',h⟩) c)
def gNil:TGs:=λ vs σ H Q=>vs=[]/\Q σ H
def gCons(t:TG)(u:TGs):TGs:=λ vs σ H Q=>∃ v r,vs=v::r/\t v σ H λ σ' H'=>u r σ' H' Q
theorem qaI5:PGs X [] gNil:=by
 intro E3 s σ H a b Q I r h;obtain⟨e,h⟩:=h;subst e;cases r;exact assignInOrder_nil ⟨σ,H,I,h⟩
theorem qay8{e:Expr}{es:List Expr}{t:TG}{u:TGs}(h1:PG X e t)(h2:PGs X es u)(b:(La (e::es) X.env).map (·.2)=assign e X.env::(La es X.env).map (·.2):=by rfl):PGs X (e::es) (gCons t u):=by
 intro E3 s σ H i j Q I r h;obtain⟨v,k,c,h⟩:=h;subst c;cases r with
 | cons r d =>
   rw[b];refine assignInOrder_cons (thn (h1 E3 s σ H _ _ _ I r h) λ _ f a=>?_);obtain⟨σ1,H1,I1,g⟩:=a;exact h2 E3 f σ1 H1 _ _ Q I1 d g
def gTup(K:W.Frag)(n:Nat)(t:TGs):TG:=λ v σ H Q=>∃ a xs,v=.ref a/\SqT K H a xs/\xs.length=n/\t xs σ H Q
theorem qaR8{es:List Expr}{k:Nat}{t:TGs}(g:X.calm=true)(h:PGs X es t)(i:(La es X.env).length=n:=by rfl)(c:(La es X.env).findIdx? (·.1)=none:=by rfl):PG X (.Tuple es k pos) (gTup X.K n t):=by
 intro E3 s σ H v u Q I r d;obtain⟨a,j,l,m,p,d⟩:=d;subst l;cases r;obtain⟨q,f,w,z⟩:=I.tuple m;refine assign_Tuple_tuple (I.ok.hd g) w (by simp[i,<- p,f.length]) c λ x y=>?_
 have I1:Ly X E3 σ H { s with heap:=x }:=I.kept (t':=s.toks) λ b o e=>y b o (zAj (zA9 e)) e
 exact h E3 _ σ H j _ Q I1 (by simpa using f) d
def gSub(to a:TE)(t:Iz):TG:=λ v σ H Q=>to σ H λ o H1=>a σ H1 λ i H2=>t o i v H2 λ H3=>Q σ H3
theorem qaR9{o i:Expr}{to b:TE}{t:Iz}(c:PE X o to)(hi:PE X i b)(d:PSet X t)(e:∀ v,assign (.Subscript o i pos) X.env v=(do
     let ov <- holding [v] (eval o X.env)
     let iv <- holding [v,ov] (eval i X.env)
     standAt pos
     holding [v,ov,iv] (setItem ov iv v)
     release [v,ov,iv] []):=by intro _;rfl):PG X (.Subscript o i pos) (gSub to b t):=by
 intro E3 s σ H v u Q I r h;rw[e];refine G' (Kt (thn (c E3 s σ H _ I h) λ ov f a=>?_));obtain⟨x,H1,I1,g,j⟩:=a;refine G' (Kt (thn (hi E3 f σ H1 _ I1 j) λ iv k a=>?_));obtain⟨y,H2,I2,l,q2⟩:=a;refine G' (wpAny_standAt (G' (Kt (thn (d E3 k σ H2 x y v ov iv u _ I2 g l r q2) λ _ n a=>?_))));obtain⟨H3,I3,m⟩:=a;exact wpAny_release ⟨σ,H3,I3,m⟩
def Ib(te:TE)(g:TG):TS:=λ D σ H=>te σ H λ x H1=>g x σ H1 D.nx
theorem qaR4{tg e:Expr}{te:TE}{g:TG}(b:PE X e te)(c:PG X tg g)(d:swapsWithSole [tg] e pos.line X.env=pure false:=by rfl)(f:swappedStores [tg] e X.env=pure none:=by rfl)(h1:(La [tg] X.env).map (·.2)=[assign tg X.env]:=by rfl):PS X (.Assign [tg] e pos) (Ib te g):=by
 intro E3 s σ H D I h;refine wpAny_Assign_stores (thn (b E3 s σ H _ I h) λ v i a=>?_) d f;obtain⟨x,H1,I1,j,k⟩:=a;rw[h1];exact thn (c E3 i σ H1 x v _ I1 j k) λ _ l q=>q
theorem qaH7{x:Str}{e:Expr}{te:TE}{pos':Pos}(b:X.N.Nodup)(hi:X.N[i]? = some x)(c:Loc X.env.scope x)(d:PE X e te)(f:swapsWith e (some (.Name x pos')) pos.line X.env=pure false:=by rfl)(g:X.fn x=true∨X.env.scope.names.lookup x=some .local:=by first | exact .inl rfl | exact .inr rfl | assumption) :
   PS X (.Assign [.Name x pos'] e pos) (Ib te (Fo i)):=by
 intro E3 s σ H D I h;refine wpAny_Assign_Name (thn (d E3 s σ H _ I h) λ v l a=>?_) f;obtain⟨y,H1,I1,j,k⟩:=a;exact qM9 I1 b hi c j (λ m I2=>⟨_,H1,I2,k⟩) g
def tAugS(to b te:TE)(tget:V->V->Hp->VK->Prop)(a:TIp)(tset:Iz):TS:=λ D σ H=>to σ H λ o H1=>b σ H1 λ i H2=>tget o i H2 λ x H3=>te σ H3 λ y H4=>a x y H4 λ z H5=>tset o i z H5 λ H6=>D.nx σ H6
def PGet(X:Cx)(t:V->V->Hp->VK->Prop):Prop :=
 ∀(E3:List (γ×Obj))(s:δ)(σ:St)(H:Hp)(o i:V)(ov iv:V')(Q:VK),Ly X E3 σ H s->Lv o ov->Lv i iv->t o i H Q ->
   wpAny (model X.prog X.w) X.A (getItem ov iv) (EP X E3 σ Q) X.xe s
theorem qaI0{o i e:Expr}{to j te:TE}{tget:V->V->Hp->VK->Prop}{f:TIp}{tset:Iz}{op:Operator}{tpos:Pos}(p:PE X o to)(hi:PE X i j)(q:PGet X tget)(r:PE X e te)(t:PIp X op f)(u:PSet X tset)(w:∀ c d b,augStore i c d b=(do holding [b,c,d] (setItem c d b);release [b,c,d] [];pure .next):=by intros;rfl):PS X (.AugAssign (.Subscript o i tpos) op e pos) (tAugS to j te tget f tset):=by
 intro E3 s σ H D I h;refine wpAny_AugAssign_SubscriptAny (thn (p E3 s σ H _ I h) λ c x a=>?_) w;obtain⟨k,H1,I1,l,y⟩:=a;refine thn (hi E3 x σ H1 _ I1 y) λ d z a=>?_
 obtain⟨m,H2,I2,n,q2⟩:=a;refine thn (q E3 z σ H2 k m c d _ I2 l n q2) λ g A a=>?_
 obtain⟨B,H3,I3,C,E⟩:=a;refine thn (r E3 A σ H3 _ I3 E) λ v F a=>?_
 obtain⟨G,H4,I4,J,K⟩:=a;refine thn (t E3 F σ H4 B G g v _ I4 C J K) λ b L a=>?_
 obtain⟨M,H5,I5,N,O⟩:=a;exact thn (u E3 L σ H5 k m M c d b _ I5 l n N O) λ _ Q ⟨H6,I6,P⟩=>⟨σ,H6,I6,P⟩
def ipI(f:Int->Int->Int):TIp:=λ x y H Q=>∃ i j,x=.int i/\y=.int j/\Q (.int (f i j)) H
theorem qaU9:PIp X .Add (ipI λ i j=>i+j):=by
 intro E3 s σ H x y v u Q I a b h;obtain⟨i,j,c,e2,q⟩:=h;subst c;subst e2;obtain⟨t,rfl⟩:=a;obtain⟨d,rfl⟩:=b;exact iadd_int ⟨.int _,H,I.tok _,⟨_,rfl⟩,q⟩
end
section
variable{X:Cx}{pos:Pos}
def qaQ0(c:TT)(tb:TS):TS:=λ D σ H=>∃ W:Nat->St->Hp->Prop,(∃ m,W m σ H)/\∀ m σ H,W m σ H ->
 c σ H λ b H1=>if b=true then ∃ N:St->Hp->Prop,(∀ σ' H',N σ' H'->∃ a,a < m/\W a σ' H')/\tb { D with nx:=N,ct:=N,bk:=D.nx } σ H1 else D.nx σ H1
theorem qay1{c:Expr}{tc:TT}{tb:TS}(k:PassesOwn (model X.prog X.w) X.A X.env X.xe)(m:PT X c tc)(o:PSs X body tb):PS X (.While c body [] pos) (qaQ0 tc tb):=by
 intro E3 s σ H D I h;obtain⟨W,⟨p,q⟩,turn⟩:=h;refine wpAny_While (codeAny_whileLoop (λ n r=>∃ σ' H',Ly X E3 σ' H' r/\W n σ' H') ?_ p ⟨σ,H,I,q⟩);rintro n t ⟨σ1,H1,I1,u⟩;refine K8 k (thn (m E3 t σ1 H1 _ I1 (turn n σ1 H1 u)) λ b x d=>?_);obtain⟨H2,I2,q2⟩:=d;cases b with
 | true =>
   obtain⟨N,l,q2⟩:=q2;rw[if_pos rfl];refine K8 k (thn (o E3 x σ1 H2 _ I2 q2) λ f y a=>?_);cases f with
   | next =>
     obtain⟨σ3,H3,I3,e⟩:=a;obtain⟨g,i,j⟩:=l σ3 H3 e;exact⟨g,i,σ3,H3,I3,j⟩
   | cont =>
     obtain⟨σ3,H3,I3,e⟩:=a;obtain⟨g,i,j⟩:=l σ3 H3 e;exact⟨g,i,σ3,H3,I3,j⟩
   | brk=>exact a
   | ret v=>exact a
 | false =>
   rw[if_neg zAk];exact wpAny_execs_nil ⟨σ1,H2,I2,q2⟩
end
structure It where
 go:Nat->Hp->Prop
 yld:Nat->Hp->V->Hp->Prop
 stop:Nat->Hp->Prop
def Gh(X:Cx)(E3:List (γ×Obj))(H:Hp)(b:γ):Prop :=
 H b=none/\b≠X.env.locals/\b∉X.fs/\(b∈X.ex∨X.s₀.heap.objs.size<=b)/\(∀ x c,X.env.cells.lookup x=some c->c≠b)/\∀ p∈X.pn++E3,p.1≠b
theorem Ly.fpOk{X:Cx}{E3:List (γ×Obj)}{σ:St}{H H':Hp}{s:δ}{b:γ}(I:Ly X E3 σ H s)(a:s.heap.objs.size<=b)(d:H' b=none):Gh X E3 H' b:=by
 refine⟨d,Nat.ne_of_gt (zAg I.lt a),I.nofs a,.inr (zAp I.sz a),λ x c e z=>?_,λ p f z=>?_⟩
 . obtain⟨v,q⟩:=I.cell x c e
   exact absurd (zAg q.lt (by rw[z];exact a)) (zBy _)
 exact absurd (zAg (zA9 (I.pin p f).1) (by rw[z];exact a)) (zBy _)
structure I8(P:Program)(w:World)(K:W.Frag)(tg:Expr)(J:It)(fp:List γ)(it:γ)(tn:Nat->Heap->Prop):Prop where
 mem:it∈fp
 obj:∀ i h,tn i h->∀ b∈fp,∃ o,h.get? b=some o/\∀ v,o.data≠.cell v
 keep:∀ i h h',tn i h->(∀ b∈fp,∀ o,h.get? b=some o->h'.get? b=some o)->tn i h'
 item:∀(X:Cx),X.prog=P->X.w=w->X.K=K->X.calm=true->∀(i:Nat)(E3:List (γ×Obj))(s:δ)(σ:St)(H:Hp)(E:V'->δ->Prop),Ly X E3 σ H s->(∀ b∈fp,Gh X E3 H b)->tn i s.heap->J.go i H ->
   wpAny (model P w) X.A (pyNext (.ref it)) (λ r s1=>∃ u,r=some u /\
     wpAny (model P w) X.A (letOwnedTupleGo tg (.ref it) u) (λ _ s2=>∃ x H',Ly X E3 σ H' s2/\Lv x u/\J.yld i H x H'/\tn (i+1) s2.heap/\∀ b∈fp,H' b=none) E s1) E s
 done:∀(X:Cx),X.prog=P->X.w=w->X.K=K->X.calm=true->∀(i:Nat)(E3:List (γ×Obj))(s:δ)(σ:St)(H:Hp)(E:V'->δ->Prop),Ly X E3 σ H s->(∀ b∈fp,Gh X E3 H b)->tn i s.heap->J.stop i H ->
   wpAny (model P w) X.A (pyNext (.ref it)) (λ r s1=>r=none/\Ly X E3 σ H s1) E s
 self:∀(A:Around)(i:Nat)(s:δ)(Q:V'->δ->Prop)(E:V'->δ->Prop),tn i s.heap->Q (.ref it) s->wpAny (model P w) A (pyIter (.ref it)) Q E s
abbrev TI:=St->Hp->(It->Hp->Prop)->Prop
def PIE(X:Cx)(E3:List (γ×Obj))(σ:St)(tg:Expr)(R:It->Hp->Prop)(a:V')(s2:δ):Prop :=
 ∃(it:γ)(fp:List γ)(tn:Nat->Heap->Prop)(J:It)(H':Hp),a=.ref it/\Ly X E3 σ H' s2/\I8 X.prog X.w X.K tg J fp it tn/\tn 0 s2.heap/\(∀ b∈fp,Gh X E3 H' b)/\R J H'
def PI(X:Cx)(tg iter:Expr)(wi:TI):Prop :=
 ∀(E3:List (γ×Obj))(s:δ)(σ:St)(H:Hp)(R:It->Hp->Prop),Ly X E3 σ H s->wi σ H R ->
   wpAny (model X.prog X.w) X.A (eval iter X.env) (λ v a=>wpAny (model X.prog X.w) X.A (pyIter v) (PIE X E3 σ tg R) X.xe a) X.xe s
theorem go_of{A:Around}{E:V'->δ->Prop}{s:δ}{tg:Expr}{it:γ}{u:V'}{o:Obj}{n:String}{vs:Array V'}{Q:Unit->δ->Prop}(b:s.heap.get? it=some o)(c:o.cls=.type n)(d:o.data=.fields vs)(e:["enumerate", "zip", "dict_itemiterator", "dict_reverseitemiterator", "odict_iterator", "itertools.zip_longest", "itertools.pairwise"].contains n=false)(a:Q () s):wpAny M A (letOwnedTupleGo tg (.ref it) u) Q E s:=by
 unfold letOwnedTupleGo;cases tg<;>first
   | exact J' a
   | (cases u<;>first
       | exact J' a
       | (refine G' (wpAny_load b ?_)
          rw[c,d];show wpAny M A (if (["enumerate", "zip", "dict_itemiterator", "dict_reverseitemiterator", "odict_iterator", "itertools.zip_longest", "itertools.pairwise"].contains n&&vs[0]? == some (rawInt _))=true then _ else _) Q E s;rw[if_neg (by intro h;rw[e,Bool.false_and] at h;cases h)];exact J' a))
noncomputable def Itl(K:W.Frag)(a:γ):It :=
 ⟨λ i H=>∃ xs x,SqL K H a xs/\xs[i]? = some x,λ i H x H'=>H'=H/\∀ xs,SqL K H a xs->xs[i]? = some x,λ i H=>∃ xs,SqL K H a xs/\xs.length<=i⟩
noncomputable def Itr(lo:Int)(n:Nat):It:=⟨λ i _=>i < n,λ i H x H'=>H'=H/\x=.int (lo+i),λ i _=>n<=i⟩
theorem qal0{P:Program}{w:World}{K:W.Frag}{tg:Expr}(a it:γ):I8 P w K tg (Itl K a) [it] it (λ i h=>h.IsListIter it a i) where
 mem:=by simp
 obj:=λ i h f b g=>by
   have e:b=it:=by simpa using g
   subst e;obtain⟨o,e,c,d⟩:=f;exact⟨o,e,λ v z=>by rw[d] at z;cases z⟩
 keep:=λ i h l f k=>f.at λ o e=>k it (by simp) o e
 item:=by
   intro X q r t J i E3 s σ H E I m f y;subst q r t;obtain⟨L,x,n,A⟩:=y;obtain⟨B,C,p,M⟩:=I.list n;obtain⟨u,N,O⟩:=C.get A;obtain⟨D,f1,f2,f3,F,G⟩:=m it (by simp);refine wpAny_pyNext_list_item f p.isList (x:=u) (by simpa using N) λ l j Q=>?_
   have I1:Ly X E3 σ H { s with heap:=l }:=I.turned (t':=s.toks) (λ b o g e=>(Q.2 b g).trans e) D f1 f3 F G;obtain⟨o,e,c,d⟩:=id j;exact⟨u,rfl,go_of (s:={ s with heap:=l }) e c d (by decide) ⟨x,H,I1,O,⟨rfl,λ U S=>by rw[I.list_inj S n];exact A⟩,j,λ b g=>(m b g).1⟩⟩
 done:=by
   intro X q r t J i E3 s σ H E I m f y;subst q r t;obtain⟨L,n,A⟩:=y;obtain⟨B,C,p,M⟩:=I.list n;obtain⟨D,f1,f2,f3,F,G⟩:=m it (by simp);have V:=C.length;exact wpAny_pyNext_list_end (I.ok.hd J) f p.isList (by simp;lia) λ l T=>⟨rfl,I.turned (t':=s.toks) (λ b o g e=>T b o g e) D f1 f3 F G⟩
 self:=λ _ _ _ _ _ f h=>wpAny_pyIter_listiter f h
theorem qab2{P:Program}{w:World}{K:PySem.W.Frag}{tg:Expr}(it:γ)(lo:Int)(n:Nat):I8 P w K tg (Itr lo n) [it] it (λ i h=>IsRangeIter h it (lo+(i:Nat) * 1) ((n:Int) - (i:Nat)) 1) where
 mem:=by simp
 obj:=λ i h a b c=>by
   have e:b=it:=by simpa using c
   subst e;exact⟨_,a,λ v z=>by
     have A:Data.fields _=Data.cell v:=z;cases A⟩
 keep:=λ i h f a k=>k it (by simp) _ a
 item:=by
   intro X j l m p i E3 s σ H E I g a q;subst j l m;obtain⟨r,f1,f2,f3,u,x⟩:=g it (by simp);have W:=Walks.range (prog:=X.prog) (w:=X.w) (I.ok.hd p) it lo 1 n;refine W.item i s _ _ q a λ v f y B d C=>?_
   obtain⟨t,rfl⟩:=B;have I1:Ly X E3 σ H { s with heap:=f,toks:=y }:=I.turned (λ b o c e=>C b o (by simpa using c) e) r f1 f3 u x;refine⟨_,rfl,go_of (s:={ s with heap:=f,toks:=y }) (n := "range_iterator") d rfl rfl (by decide) ⟨.int (lo+i),H,I1,⟨t,?_⟩,⟨rfl,rfl⟩,d,λ b c=>(g b c).1⟩⟩;rw[Int.mul_one]
 done:=by
   intro X j l m p i E3 s σ H E I g a q;subst j l m;obtain⟨r,f1,f2,f3,u,x⟩:=g it (by simp);exact wpAny_pyNext_range_end (I.ok.hd p) a (by have:n<=i:=q;lia) λ f D=>⟨rfl,I.turned (t':=s.toks) (λ b o c e=>D b o c e) r f1 f3 u x⟩
 self:=λ _ _ _ _ _ a h=>wpAny_pyIter_rangeiter a h
section
variable{X:Cx}{tg:Expr}
def He(K:W.Frag)(tl:TE):TI:=λ σ H R=>tl σ H λ x H1=>∃ a,x=.ref a/\(∃ xs,SqL K H1 a xs)/\R (Itl K a) H1
theorem qy0{l:Expr}{tl:TE}(f:PE X l tl):PI X tg l (He X.K tl):=by
 intro E3 s σ H R I h;refine thn (f E3 s σ H _ I h) λ v c d=>?_
 obtain⟨x,H1,I1,g,i⟩:=d;obtain⟨a,e,⟨n,j⟩,q⟩:=i;subst e;cases g;obtain⟨k,r,p,t⟩:=I1.list j;refine wpAny_pyIter_list p.isList ?_;refine⟨c.heap.objs.size,[c.heap.objs.size],_,_,H1,rfl,I1.kept (t':=c.toks) λ b o e=>zA2 _ e,qal0 a _,⟨_,zAu _ rfl,rfl,rfl⟩,λ b m=>?_,q⟩;have e:b=c.heap.objs.size:=by simpa using m
 subst e;exact I1.fpOk (zA6 _) (I1.hok.fresh (zA6 _))
theorem qax9{E3:List (γ×Obj)}{σ:St}{H:Hp}{s:δ}{R:It->Hp->Prop}{E:V'->δ->Prop}{lo hi:Int}{t u v:Tok}{a:Nat}(I:Ly X E3 σ H s)(h1:-(2 ^ 62)<=lo)(h2:lo < 2 ^ 62)(c:-(2 ^ 62)<=hi)(d:hi < 2 ^ 62)(q:R (Itr lo (hi - lo).toNat) H):wpAny (model X.prog X.w) X.A (pyIter (.ref s.heap.objs.size)) (PIE X E3 σ tg R) E { s with heap:=s.heap.push { cls:=.type "range",data:=.fields #[.int lo t,.int hi u,.int 1 v] },toks:=a }:=by
 refine wpAny_pyIter_range (IsRange.new ..) (small_one h1 h2 c d) ?_;have I1:Ly X E3 σ H { s with heap:=s.heap.push { cls:=.type "range",data:=.fields #[.int lo t,.int hi u,.int 1 v] },toks:=a }:=I.kept λ b o e=>zA2 _ e
 refine⟨(s.heap.push { cls:=.type "range",data:=.fields #[.int lo t,.int hi u,.int 1 v] }).objs.size,[(s.heap.push { cls:=.type "range",data:=.fields #[.int lo t,.int hi u,.int 1 v] }).objs.size],_,_,H,rfl,
   I1.kept (t':=a) λ b o e=>zA2 _ e,qab2 _ lo (hi - lo).toNat,?_,λ b f=>?_,q⟩
 . have g:lo+((0:Nat):Int) * 1=lo:=by simp
   have e2:(((hi - lo).toNat:Nat):Int) - ((0:Nat):Int)=Builtin.Range.rangeSize lo hi 1:=by rw[rangeSize_one];split<;>lia
   show IsRangeIter _ _ (lo+((0:Nat):Int) * 1) ((((hi - lo).toNat:Nat):Int) - ((0:Nat):Int)) 1;rw[g,e2];exact zAu _ rfl
 have e:b=(s.heap.push { cls:=.type "range",data:=.fields #[.int lo t,.int hi u,.int 1 v] }).objs.size:=by simpa using f
 subst e;exact I1.fpOk (zA6 _) (I1.hok.fresh (zA6 _))
def iRng1(ta:TA):TI:=λ σ H R=>ta σ H λ vs H1=>∃ j:Int,vs=[.int j]/\-(2 ^ 62)<=j/\j < 2 ^ 62/\R (Itr 0 j.toNat) H1
theorem qam7{a:Expr}{ta:TA}{p pos:Pos}(d:Gl X "range")(hm:X.mg "range" = none)(f:PA X [a] ta)(g:Ko [a] X.env=[(false,eval a X.env)]:=by rfl):PI X tg (.Call (.Name "range" p) [a] [] pos) (iRng1 ta):=by
 intro E3 s σ H R I h;refine Call_ (qag2 I d hm boot_range (PyProof.Rows.callWith_type1 (thn (f pos E3 s σ H _ I h) λ l m b=>?_) g rfl));obtain⟨n,H1,I1,i,c⟩:=b;obtain⟨j,e,c,q2,q⟩:=c;subst e;cases i with
 | cons r k =>
   cases k;obtain⟨t,rfl⟩:=r;exact call_range_1 (qax9 I1 (by lia) (by lia) c q2 (by simpa using q))
def tFor(wi:TI)(g:TG)(tb:TS):TS:=λ D σ H=>wi σ H λ J H1=>∃ W:Nat->Nat->St->Hp->Prop,(∃ m,W 0 m σ H1)/\∀ i m σ H,W i m σ H ->
 (J.stop i H/\D.nx σ H)∨(J.go i H/\∃ N:St->Hp->Prop,(∀ σ' H',N σ' H'->∃ a,a < m/\W (i+1) a σ' H')/\∀ x H',J.yld i H x H'->g x σ H' λ σ2 H2=>tb { D with nx:=N,ct:=N,bk:=D.nx } σ2 H2)
noncomputable def I9(fp:List γ)(h:Heap):List (γ×Obj):=fp.filterMap λ b=>(h.get? b).map λ o=>(b,o)
theorem qp7{h:Heap}{b:γ}{o:Obj}(a:b∈fp)(e:h.get? b=some o):(b,o)∈I9 fp h:=List.mem_filterMap.mpr ⟨b,a,by rw[e];rfl⟩
theorem qan5{h:Heap}{p:γ×Obj}(a:p∈I9 fp h):p.1∈fp/\h.get? p.1=some p.2:=by
 obtain⟨b,c,e⟩:=List.mem_filterMap.mp a;cases q:h.get? b with
 | none=>rw[q] at e;cases e
 | some o =>
   rw[q] at e;have d:(b,o)=p:=Option.some.inj e;subst d;exact⟨c,q⟩
theorem Ly.pinned{E3:List (γ×Obj)}{σ:St}{H:Hp}{s:δ}(I:Ly X E3 σ H s)(f:∀ b∈fp,Gh X E3 H b)(g:∀ b∈fp,∃ o,s.heap.get? b=some o/\∀ v,o.data≠.cell v):Ly X (E3++I9 fp s.heap) σ H s :=
 I.pins_of λ p h=>(zAb.mp h).elim (λ z=>I.pin p (zAq _ z)) λ z=>by
   obtain⟨a,e⟩:=qan5 z;obtain⟨i,f1,f2,_⟩:=f p.1 a;obtain⟨o,c,d⟩:=g p.1 a;rw[e] at c;cases c;exact⟨e,i,f1,f2,d⟩
theorem Ly.unpinned{E3 pl:List (γ×Obj)}{σ:St}{H:Hp}{s:δ}(I:Ly X (E3++pl) σ H s):Ly X E3 σ H s:=I.pins_of λ p a=>I.pin p (zAq _ (zBu _ a))
theorem qay4{iter:Expr}{wi:TI}{g:TG}{tb:TS}{pos:Pos}(l:PassesOwn (model X.prog X.w) X.A X.env X.xe)(F:X.calm=true)(hi:PI X tg iter wi)(O:PG X tg g)(c:PSs X body tb)(P:∀ x,Ks iter X.env x=pure x:=by intro _;rfl):PS X (.For tg iter body [] pos) (tFor wi g tb):=by
 intro E3 s σ H D I h;refine wpAny_For (thn (hi E3 s σ H _ I h) λ v s1 Q=>thn Q λ R s2 S=>?_) P;obtain⟨it,p,G,J,H2,e,I2,T,z,f2,W,⟨U,V⟩,turn⟩:=S;subst e;have stat:∀{H':Hp},(∀ b∈p,H' b=none)->∀ b∈p,Gh X E3 H' b:=λ Y b c=>⟨Y b c,(f2 b c).2⟩
 refine codeAny_forLoop_any (λ n K=>∃ i σ' H',Ly X E3 σ' H' K/\G i K.heap/\(∀ b∈p,H' b=none)/\W i n σ' H') ?_ U ⟨0,σ,H2,I2,z,λ b c=>(f2 b c).1,V⟩;rintro n L ⟨i,σ3,H3,I3,q,t,Z⟩;rcases turn i n σ3 H3 Z with⟨stop,qn⟩ | ⟨go,N,hN,step⟩
 . refine K8 l (thn (T.done X rfl rfl rfl F i E3 L σ3 H3 X.xe I3 (stat t) q stop) λ r s4 a=>?_)
   obtain⟨B,I4⟩:=a;subst B;exact wpAny_execs_nil ⟨σ3,H3,I4,qn⟩
 refine K8 l (thn (T.item X rfl rfl rfl F i E3 L σ3 H3 X.xe I3 (stat t) q go) λ r s4 a=>?_);obtain⟨u,B,h4⟩:=a;subst B;refine K8 l (thn h4 λ _ M a=>?_);obtain⟨x,H5,I5,r5,y5,k,C⟩:=a;have I5':=I5.pinned (stat C) (T.obj _ _ k);refine K8 l (thn (O _ M σ3 H5 x u _ I5' r5 (step x H5 y5)) λ _ s6 a=>?_);obtain⟨σ6,H6,I6,q6⟩:=a;refine K8 l (thn (c _ s6 σ6 H6 _ I6 q6) λ f E j=>?_);have again:∀{σ7:St}{H7:Hp},Ly X (E3++I9 p M.heap) σ7 H7 E->N σ7 H7->∃ m,m < n/\∃ i σ' H',Ly X E3 σ' H' E/\G i E.heap/\(∀ b∈p,H' b=none)/\W i m σ' H':=λ{σ7 H7} I7 y=>by
   obtain⟨m',hm,w7⟩:=hN σ7 H7 y;refine⟨m',hm,i+1,σ7,H7,I7.unpinned,T.keep _ _ _ k λ b c o e=>(I7.pin (b,o) (zAq _ (zAq _ (qp7 c e)))).1,λ b c=>?_,w7⟩;obtain⟨o,e,d⟩:=T.obj _ _ k b c;exact(I7.pin (b,o) (zAq _ (zAq _ (qp7 c e)))).2.1
 cases f with
 | next=>obtain⟨σ7,H7,I7,y⟩:=j;exact again I7 y
 | cont=>obtain⟨σ7,H7,I7,y⟩:=j;exact again I7 y
 | brk=>obtain⟨σ7,H7,I7,j⟩:=j;exact⟨σ7,H7,I7.unpinned,j⟩
 | ret v=>obtain⟨x7,σ7,H7,I7,r7,j⟩:=j;exact⟨x7,σ7,H7,I7.unpinned,r7,j⟩
end
theorem qai3{K:PySem.W.Frag}{a:γ}{xs:List V}{g:TG}{tb:TS}{D:Eb}{σ:St}{H:Hp}(Pv:Nat->St->Hp->Prop)(d:Pv 0 σ H)(f:∀ i σ H,i<=xs.length->Pv i σ H->SqL K H a xs)(h:∀ i x σ H,xs[i]? = some x->Pv i σ H->g x σ H λ σ2 H2=>tb { D with nx:=Pv (i+1),ct:=Pv (i+1),bk:=D.nx } σ2 H2)(j:∀ σ H,Pv xs.length σ H->D.nx σ H) :
   ∃ W:Nat->Nat->St->Hp->Prop,(∃ m,W 0 m σ H)/\∀ i m σ H,W i m σ H ->
     ((Itl K a).stop i H/\D.nx σ H)∨((Itl K a).go i H/\∃ N:St->Hp->Prop,(∀ σ' H',N σ' H'->∃ c,c < m/\W (i+1) c σ' H')/\∀ x H',(Itl K a).yld i H x H'->g x σ H' λ σ2 H2=>tb { D with nx:=N,ct:=N,bk:=D.nx } σ2 H2):=by
 refine⟨λ i m σ H=>m=xs.length - i/\i<=xs.length/\Pv i σ H,⟨xs.length,by simp,zBe _,d⟩,?_⟩;rintro i m σ H ⟨rfl,k,p⟩;have q:=f i σ H k p;by_cases b:i < xs.length
 . refine .inr ⟨⟨xs,xs[i],q,by simp[b]⟩,Pv (i+1),λ σ' H' l=>⟨xs.length - (i+1),by lia,rfl,b,l⟩,λ x H' y=>?_⟩
   obtain⟨e,y⟩:=y;subst e;exact h i x σ _ (y xs q) p
 have e:i=xs.length:=by lia
 subst e;exact .inl ⟨⟨xs,q,zA6 _⟩,j σ H p⟩
theorem qao8{lo:Int}{g:TG}{tb:TS}{D:Eb}{σ:St}{H:Hp}(Pv:Nat->St->Hp->Prop)(c:Pv 0 σ H)(d:∀ i σ H,i < n->Pv i σ H->g (.int (lo+i)) σ H λ σ2 H2=>tb { D with nx:=Pv (i+1),ct:=Pv (i+1),bk:=D.nx } σ2 H2)(f:∀ σ H,Pv n σ H->D.nx σ H) :
   ∃ W:Nat->Nat->St->Hp->Prop,(∃ m,W 0 m σ H)/\∀ i m σ H,W i m σ H ->
     ((Itr lo n).stop i H/\D.nx σ H)∨((Itr lo n).go i H/\∃ N:St->Hp->Prop,(∀ σ' H',N σ' H'->∃ b,b < m/\W (i+1) b σ' H')/\∀ x H',(Itr lo n).yld i H x H'->g x σ H' λ σ2 H2=>tb { D with nx:=N,ct:=N,bk:=D.nx } σ2 H2):=by
 refine⟨λ i m σ H=>m=n - i/\i<=n/\Pv i σ H,⟨n,by simp,zBe _,c⟩,?_⟩;rintro i m σ H ⟨rfl,j,p⟩;by_cases a:i < n
 . refine .inr ⟨a,Pv (i+1),λ σ' H' h=>⟨n - (i+1),by lia,rfl,a,h⟩,λ x H' y=>?_⟩
   obtain⟨e,y⟩:=y;subst e y;exact d i σ _ a p
 have e:i=n:=by lia
 subst e;exact .inl ⟨zA6 _,f σ H p⟩
abbrev R2:=V->V->Hp->VK->Prop
def OpR(X:Cx)(f:V'->V'->Sem V')(r:R2):Prop :=
 ∀(E3:List (γ×Obj))(s:δ)(σ:St)(H:Hp)(x y:V)(v u:V')(Q:VK),Ly X E3 σ H s->Lv x v->Lv y u->r x y H Q ->
   wpAny (model X.prog X.w) X.A (f v u) (EP X E3 σ Q) X.xe s
def UnR(X:Cx)(f:V'->Sem V')(r:V->Hp->VK->Prop):Prop :=
 ∀(E3:List (γ×Obj))(s:δ)(σ:St)(H:Hp)(x:V)(v:V')(Q:VK),Ly X E3 σ H s->Lv x v->r x H Q ->
   wpAny (model X.prog X.w) X.A (f v) (EP X E3 σ Q) X.xe s
def CallR(X:Cx)(f:V')(r:List V->Hp->VK->Prop):Prop :=
 ∀(E3:List (γ×Obj))(s:δ)(σ:St)(H:Hp)(xs:List V)(us:List V')(Q:VK),Ly X E3 σ H s->Lw xs us->r xs H Q ->
   wpAny (model X.prog X.w) X.A (call f us) (EP X E3 σ Q) X.xe s
def tOp(r:R2)(ta tb:TE):TE:=λ σ H Q=>ta σ H λ x H1=>tb σ H1 λ y H2=>r x y H2 Q
def tUn(r:V->Hp->VK->Prop)(ta:TE):TE:=λ σ H Q=>ta σ H λ x H1=>r x H1 Q
def rI(C:Int->Int->Prop)(g:Int->Int->V):R2:=λ x y H Q=>∃ i j,x=.int i/\y=.int j/\C i j/\Q (g i j) H
def rI0(g:Int->Int->V):R2:=λ x y H Q=>∃ i j,x=.int i/\y=.int j/\Q (g i j) H
def rU(g:Int->V):V->Hp->VK->Prop:=λ x H Q=>∃ i,x=.int i/\Q (g i) H
section
variable{X:Cx}{a b:Expr}{ta tb:TE}{pos:Pos}
theorem binT(d:PE X a ta)(e:PE X b tb){E3:List (γ×Obj)}{s:δ}{σ:St}{H:Hp}{R:V->V->Hp->Prop}(I:Ly X E3 σ H s)(h:ta σ H λ x H1=>tb σ H1 λ y H2=>R x y H2){Q:V'->δ->Prop}{f:V'->V'->Sem V'}(g:∀ v u s2 x y H2,Ly X E3 σ H2 s2->Lv x v->Lv y u->R x y H2->wpAny (model X.prog X.w) X.A (f v u) Q X.xe s2) :
   wpAny (model X.prog X.w) X.A (eval a X.env) (λ v s₁=>wpAny (model X.prog X.w) X.A (eval b X.env) (λ u s₂=>wpAny (model X.prog X.w) X.A (f v u) Q X.xe s₂) X.xe s₁) X.xe s:=by
 refine thn (d E3 s σ H _ I h) λ v i c=>?_
 obtain⟨x,H1,I1,j,k⟩:=c;refine thn (e E3 i σ H1 _ I1 k) λ u s2 c=>?_
 obtain⟨y,H2,I2,l,q2⟩:=c;exact g v u s2 x y H2 I2 j l q2
theorem pe_op{op:Operator}{r:R2}(c:OpR X (Lb op) r)(d:PE X a ta)(e:PE X b tb):PE X (.BinOp a op b pos) (tOp r ta tb):=by
 intro E3 s σ H Q I h;exact wpAny_BinOp (binT d e I h λ v u f x y H2 I2 g i q=>c E3 f σ H2 x y v u Q I2 g i q)
theorem pe_un{op:UnaryOp}{r:V->Hp->VK->Prop}(b:UnR X (unaryOp op) r)(c:PE X a ta):PE X (.UnaryOp op a pos) (tUn r ta):=by
 intro E3 s σ H Q I h;exact UnaryOp_ (thn (c E3 s σ H _ I h) λ v d ⟨x,H1,I1,e,f⟩=>b E3 d σ H1 x v Q I1 e f)
theorem opI{f:V'->V'->Sem V'}{C:Int->Int->Prop}{g:Int->Int->Int}(rule:∀(i j:Int)(t u:Tok)(s:δ)(Q:V'->δ->Prop)(E:V'->δ->Prop),C i j->Q (.int (g i j) s.toks) { s with toks:=s.toks+1 }->wpAny (model X.prog X.w) X.A (f (.int i t) (.int j u)) Q E s) :
   OpR X f (rI C λ i j=>.int (g i j)):=by
 intro E3 s σ H x y v u Q I a b h;obtain⟨i,j,rfl,rfl,c,q⟩:=h;obtain⟨t,rfl⟩:=a;obtain⟨d,rfl⟩:=b;exact rule i j t d s _ _ c ⟨.int (g i j),H,I.tok _,⟨_,rfl⟩,q⟩
theorem opI0{f:V'->V'->Sem V'}{g:Int->Int->Int}(rule:∀(i j:Int)(t u:Tok)(s:δ)(Q:V'->δ->Prop)(E:V'->δ->Prop),Q (.int (g i j) s.toks) { s with toks:=s.toks+1 }->wpAny (model X.prog X.w) X.A (f (.int i t) (.int j u)) Q E s) :
   OpR X f (rI0 λ i j=>.int (g i j)):=by
 intro E3 s σ H x y v u Q I a b h;obtain⟨i,j,rfl,rfl,q⟩:=h;obtain⟨t,rfl⟩:=a;obtain⟨c,rfl⟩:=b;exact rule i j t c s _ _ ⟨.int (g i j),H,I.tok _,⟨_,rfl⟩,q⟩
theorem opB0{f:V'->V'->Sem V'}{g:Int->Int->Bool}(rule:∀(i j:Int)(t u:Tok)(s:δ)(Q:V'->δ->Prop)(E:V'->δ->Prop),Q (.bool (g i j)) s->wpAny (model X.prog X.w) X.A (f (.int i t) (.int j u)) Q E s) :
   OpR X f (rI0 λ i j=>.bl (g i j)):=by
 intro E3 s σ H x y v u Q I a b h;obtain⟨i,j,rfl,rfl,q⟩:=h;obtain⟨t,rfl⟩:=a;obtain⟨c,rfl⟩:=b;exact rule i j t c s _ _ ⟨.bl (g i j),H,I,rfl,q⟩
def CPow(i j:Int):Prop:=0<=j/\j<=1000000/\i.natAbs < 2 ^ 64
def CMul(i j:Int):Prop:=(-(2 ^ 64) < i/\i < 2 ^ 64)∨(-(2 ^ 64) < j/\j < 2 ^ 64)
theorem CMul.ok{i j:Int}(h:CMul i j):IntMulOk i j:=by
 rcases h with⟨h1,h2⟩ | ⟨h1,h2⟩
 . exact .of_left (intBits_le_64 h1 h2)
 exact .of_right (intBits_le_64 h1 h2)
theorem qaT5:OpR X (Lb .Add) (rI0 λ i j=>.int (i+j)):=opI0 λ _ _ _ _ _ _ _ q=>add_int q
theorem qu7:OpR X (Lb .Sub) (rI0 λ i j=>.int (i - j)):=opI0 λ _ _ _ _ _ _ _ q=>sub_int q
theorem qaS9:OpR X (Lb .Mult) (rI CMul λ i j=>.int (i * j)):=opI λ _ _ _ _ _ _ _ a q=>mul_int q a.ok
theorem qn5:OpR X (Lb .Mod) (rI (λ _ j=>0 < j) λ i j=>.int (i % j)):=opI λ i j _ _ _ _ _ a q=>by
 have b:(0:Int) < j:=a;exact mod_int' (by lia) (by rw[Int.fmod_eq_emod_of_nonneg i (by lia)];exact q)
theorem qaS7:OpR X (Lb .Pow) (rI CPow λ i j=>.int (i ^ j.toNat)):=opI λ _ _ _ _ _ _ _ a q=>pow_int_small a.1 a.2.1 a.2.2 q
theorem unI{f:V'->Sem V'}{g:Int->Int}(rule:∀(i:Int)(t:Tok)(s:δ)(Q:V'->δ->Prop)(E:V'->δ->Prop),Q (.int (g i) s.toks) { s with toks:=s.toks+1 }->wpAny (model X.prog X.w) X.A (f (.int i t)) Q E s) :
   UnR X f (rU λ i=>.int (g i)):=by
 intro E3 s σ H x v Q I a h;obtain⟨i,rfl,q⟩:=h;obtain⟨t,rfl⟩:=a;exact rule i t s _ _ ⟨.int (g i),H,I.tok _,⟨_,rfl⟩,q⟩
theorem qaP7:UnR X (unaryOp .USub) (rU λ i=>.int (-i)):=unI λ _ _ _ _ _ q=>neg_int q
end
section
variable{X:Cx}{a b c:Expr}{ta tb tc:TE}{pos:Pos}
theorem qaN4{E3:List (γ×Obj)}{σ:St}{H:Hp}{s:δ}{Q:VK}{k a:Bool}(I:Ly X E3 σ H s)(q:Q (.bl k) H)(e:k=a):EP X E3 σ Q (.bool a) s:=by
 subst e;exact⟨.bl k,H,I,rfl,q⟩
theorem Hf:OpR X (Kr .Lt) (rI0 λ i j=>.bl (decide (i < j))):=opB0 λ _ _ _ _ _ _ _ q=>lt_int q
theorem Hg:OpR X (Kr .LtE) (rI0 λ i j=>.bl (decide (i<=j))):=opB0 λ _ _ _ _ _ _ _ q=>le_int q
theorem B7:OpR X (Kr .Gt) (rI0 λ i j=>.bl (decide (j < i))):=opB0 λ _ _ _ _ _ _ _ q=>gt_int q
theorem Hh:OpR X (Kr .GtE) (rI0 λ i j=>.bl (decide (j<=i))):=opB0 λ _ _ _ _ _ _ _ q=>ge_int q
theorem qaT0:OpR X (Kr .Is) (λ x y H Q=>y=.non/\Q (.bl (decide (x=.non))) H):=by
 intro E3 s σ H x y v u Q I a b h;obtain⟨rfl,q⟩:=h;cases b;refine is_none_gen (qaN4 I q ?_);cases x<;>first
   | (cases a;rfl)
   | (obtain⟨t,rfl⟩:=a;rfl)
theorem qaJ9:OpR X (Kr .IsNot) (λ x y H Q=>y=.non/\Q (.bl (!decide (x=.non))) H):=by
 intro E3 s σ H x y v u Q I a b h;obtain⟨rfl,q⟩:=h;cases b;refine isnot_none_gen (qaN4 I q ?_);cases x<;>first
   | (cases a;rfl)
   | (obtain⟨t,rfl⟩:=a;rfl)
theorem OpR.or{f:V'->V'->Sem V'}{r a:R2}(h:OpR X f r)(h':OpR X f a):OpR X f (λ x y H Q=>r x y H Q∨a x y H Q):=by
 intro E3 s σ H x y v u Q I b c q;rcases q with q | q
 . exact h E3 s σ H x y v u Q I b c q
 exact h' E3 s σ H x y v u Q I b c q
theorem qb0(b:Expr)(h:op≠.In:=by decide)(h2:op≠.NotIn:=by decide):behindInMarks op b=false:=by
 have a:(op == CmpOp.In)=false:=by cases op<;>first | rfl | exact absurd rfl h
 have e2:(op == CmpOp.NotIn)=false:=by cases op<;>first | rfl | exact absurd rfl h2
 cases b<;>simp[behindInMarks,a,e2]
theorem qaJ1{r:R2}(c:OpR X (Kr op) r)(d:PE X a ta)(e:PE X b tb)(hm:behindInMarks op b=false):PE X (.Compare a [op] [b] pos) (tOp r ta tb):=by
 intro E3 s σ H Q I h;exact wpAny_Compare1 (binT d e I h λ v u f x y H2 I2 g i q=>c E3 f σ H2 x y v u Q I2 g i q) hm
def tTest(t:TE):TT:=λ σ H Q=>t σ H λ x H'=>∃ k,x=.bl k/\Q k H'
theorem qas9{r:R2}(d:OpR X (Kr op) r)(f:PE X a ta)(g:PE X b tb)(hm:behindInMarks op b=false):PT X (.Compare a [op] [b] pos) (tTest (tOp r ta tb)):=by
 intro E3 s σ H Q I h;refine wpAny_isTrue_Compare1 (thn (f E3 s σ H _ I h) λ v i ⟨x,H1,I1,j,l⟩=>thn (g E3 i σ H1 _ I1 l) λ u m ⟨y,H2,I2,n,q2⟩ =>
   thn (d E3 m σ H2 x y v u _ I2 j n q2) λ c q ⟨z,H3,I3,o,k,e,p⟩=>?_) hm
 subst e;cases o;exact Kv ⟨H3,I3,p⟩
def qaG2(r a:R2)(ta tb tc:TE):TE:=λ σ H Q=>ta σ H λ x H1=>tb σ H1 λ y H2=>r x y H2 λ z H3=>∃ k,z=.bl k /\
 (if k=true then tc σ H3 λ b H4=>a y b H4 Q else Q (.bl false) H3)
theorem qae2{f:CmpOp}{r i:R2}(m:OpR X (Kr op) r)(g:OpR X (Kr f) i)(n:PE X a ta)(o:PE X b tb)(p:PE X c tc)(hm:lastMarks [op,f] [b,c]=false:=by with_unfolding_all rfl):PE X (.Compare a [op,f] [b,c] pos) (qaG2 r i ta tb tc):=by
 intro E3 s σ H Q I h;refine Compare_chain (thn (n E3 s σ H _ I h) λ v q ⟨x,H1,I1,t,w⟩=>chain_link (thn (o E3 q σ H1 _ I1 w) λ u A ⟨y,H2,I2,j,q2⟩ =>
   thn (m E3 A σ H2 x y v u _ I2 t j q2) λ d B ⟨z,H3,I3,C,k,e,l⟩=>?_)) hm
 subst e;cases C;refine Kv ?_;cases k with
 | false=>exact ite_ff ⟨.bl false,H3,I3,rfl,l⟩
 | true=>exact ite_tt (chain_last (thn (p E3 B σ H3 _ I3 l) λ D E ⟨F,H4,I4,G,J⟩=>g E3 E σ H4 y F u D Q I4 j G J))
theorem qQ1:(Kq:Nat) < 2 ^ 63:=by rw[Kx];decide
theorem qae8:OpR X (Lb .Add) (λ x y H Q=>∃ i j,x=.str i/\y=.str j/\i.length+j.length<=Kq/\Q (.str (i++j)) H):=by
 intro E3 s σ H x y v u Q I a b h;obtain⟨i,j,rfl,rfl,c,q⟩:=h;obtain⟨t,rfl⟩:=a;obtain⟨d,rfl⟩:=b;exact add_str (λ d e=>⟨.str (i++j),H,I.tok _,⟨_,rfl⟩,q⟩) c
theorem B8{x:V}(r:Lw [x] us):∃ u,us=[u]/\Lv x u:=by
 cases r with
 | cons a b=>cases b;exact⟨_,rfl,a⟩
theorem Hi{x y:V}(r:Lw [x,y] us):∃ u a,us=[u,a]/\Lv x u/\Lv y a:=by
 cases r with
 | cons b c =>
   cases c with
   | cons d e=>cases e;exact⟨_,_,rfl,b,d⟩
theorem qaE3:CallR X (.builtin "abs") (λ xs H Q=>∃ i,xs=[.int i]/\Q (.int (if i < 0 then -i else i)) H):=by
 intro E3 s σ H xs a Q I r h;obtain⟨i,rfl,q⟩:=h;obtain⟨u,rfl,t,rfl⟩:=B8 r;exact call_abs_int λ u b=>⟨.int (if i < 0 then -i else i),H,I.tok _,⟨_,rfl⟩,q⟩
theorem qW3(b:X.calm=true):CallR X (.builtin "max") (λ xs H Q=>∃ i j,xs=[.int i,.int j]/\Q (.int (if j > i then j else i)) H):=by
 intro E3 s σ H xs c Q I r h;obtain⟨i,j,rfl,q⟩:=h;obtain⟨u,d,rfl,⟨t,rfl⟩,⟨e,rfl⟩⟩:=Hi r;refine max_two_ints (I.ok.hd b) λ f g k=>⟨_,H,I.kept k,?_,q⟩
 by_cases a:j > i
 . rw[if_pos a,if_pos a];exact⟨_,rfl⟩
 rw[if_neg a,if_neg a];exact⟨_,rfl⟩
theorem qH0(b:X.calm=true):CallR X (.builtin "min") (λ xs H Q=>∃ i j,xs=[.int i,.int j]/\Q (.int (if j < i then j else i)) H):=by
 intro E3 s σ H xs c Q I r h;obtain⟨i,j,rfl,q⟩:=h;obtain⟨u,d,rfl,⟨t,rfl⟩,⟨e,rfl⟩⟩:=Hi r;refine min_two_ints (I.ok.hd b) λ f g k=>⟨_,H,I.kept k,?_,q⟩
 by_cases a:j < i
 . rw[if_pos a,if_pos a];exact⟨_,rfl⟩
 rw[if_neg a,if_neg a];exact⟨_,rfl⟩
theorem qW4:CallR X (.type "int") (λ xs H Q=>(∃ i,xs=[.int i]/\Q (.int i) H)∨∃ k,xs=[.bl k]/\Q (.int (if k then 1 else 0)) H):=by
 intro E3 s σ H xs b Q I r h;rcases h with⟨i,rfl,q⟩ | ⟨k,rfl,q⟩
 . obtain⟨u,rfl,t,rfl⟩:=B8 r
   exact call_int_int ⟨.int i,H,I,⟨_,rfl⟩,q⟩
 obtain⟨u,rfl,a⟩:=B8 r;cases a;exact call_int_bool ⟨.int (if k then 1 else 0),H,I.tok _,⟨_,rfl⟩,q⟩
end
structure ObjM(h:Heap)(x dx C:γ)(mA:Str->Option V'):Prop where
 obj:h.get? x=some (W.instObj C dx)
 ns:h.Ns1 dx mA
 ne:dx≠x
theorem qT5{h:Heap}{dx:γ}{mA:Str->Option V'}(n:h.Ns1 dx mA):∃ c,h.get? dx=some c/\∀ name,W.lookIn name c=some (mA name):=by
 obtain⟨o,d,m,f,g,i,_,j⟩:=n;refine⟨o,f,λ name=>?_⟩;have e:=j name;unfold nsFind findBy at e;rw[<- Array.find?_toList] at e;unfold W.lookIn;rw[g];dsimp only;split
 . rename_i y q
   rw[q] at e;exact congrArg some e
 rename_i q
 rw[q] at e;have a:d.toList.any (·.refKey)=false:=by
   rw[List.any_eq_false];intro y k;obtain⟨z,t,b⟩:=i y (Array.mem_toList_iff.mp k);simp[DictEntry.refKey,b]
 have l:¬ d.toList.any (·.refKey)=true:=by rw[a];exact zAk
 rw[if_neg l];exact congrArg some e
theorem ObjM.look{h:Heap}{x dx C:γ}{mA:Str->Option V'}(I:ObjM h x dx C mA):∃ a,W.InstAt h x (W.instObj C dx) C (some a)/\∀ name,W.lookIn name a=some (mA name) :=
 let ⟨a,ho,hl⟩:=qT5 I.ns
 ⟨a,⟨I.obj,rfl,rfl,ho⟩,hl⟩
section
variable{prog:Program}{w:World}{A:Around}{E:V'->δ->Prop}{s:δ}{K:W.Frag}{x dx C f:γ}{mA:Str->Option V'}{name:Str}{v:V'}
theorem qaN0{expr:Bool}{Q:V'->δ->Prop}(X:K.In s.heap)(I:ObjM s.heap x dx C mA)(b:W.plainGet K C name=true)(c:W.hasDictIn K C=true)(d:W.findIn K (.ref C) name=some none)(e:mA name=some v)(a:W.handedIn v=true)(h:Q v { s with toks:=s.toks+1 }) :
   wpAny (model prog w) A (getAttr (.ref x) name expr) Q E s:=by
 obtain⟨g,J,f⟩:=I.look;exact W.get_value X J (W.plainGet_of b).1 (W.findObj_own c d rfl (by rw[f,e])) a h
theorem qaC4{Q:V'×List V'->δ->Prop}(X:K.In s.heap)(I:ObjM s.heap x dx C mA)(a:W.plainGet K C name=true)(b:W.findIn K (.ref C) name=some (some (.ref f)))(c:W.isFn K (.ref f)=true)(d:mA name=none)(h:Q (.ref f,[.ref x]) s) :
   wpAny (model prog w) A (getMethod (.ref x) name pl) Q E s:=by
 obtain⟨e,J,g⟩:=I.look;exact W.method_fn X J (W.plainGet_of a).1 (W.plainGet_of a).2 b (zBn.mp c) (by show (W.lookIn name e).map (·.isSome)=some false;rw[g,d];rfl) h
theorem qaG5{ns:List Str}{Q:Unit->δ->Prop}(X:K.In s.heap)(I:ObjM s.heap x dx C mA)(j:W.findIn K (.ref C) "__setattr__" = some (some (.builtin "object.__setattr__")))(k:W.plainOver K C=true)(l:W.takerIn K C name=some none)(m:W.hasDictIn K C=true)(n:PySem.Within mA ns)(hsz:ns.length<=Kq)(h:∀ h',ObjM h' x dx C (λ y=>if y=name then some v else mA y)->Heap.SameBut dx s.heap h'->Q () { s with heap:=h',toks:=s.toks+2 }) :
   wpAny (model prog w) A (setAttr (.ref x) name v) Q E s:=by
 obtain⟨u,J,z⟩:=I.look;refine W.set_plain X J j (W.osa_open (s:={ s with toks:=s.toks+1 }) (r:=none) X J k l λ b=>?_);obtain⟨B,o,e⟩:=W.any_some m;have p:s.heap.get? x=some ⟨.ref C,some dx,.plain,#[]⟩:=I.obj;refine G' (J' (G' (G' (wpAny_loadPart p (G' (W.Looks.here (s:={ s with toks:=s.toks+1 }) (W.looks_clsIn X o) ?_))))));rw[e];refine J' (a:=some dx) (G' (J' (G' ?_)));refine wpAny_nsSet1 (s:={ s with toks:=s.toks+1 }) I.ns λ h' c d=>?_
 obtain⟨D,q,t,f,g,i⟩:=c.count (PySem.Within.cons name v n);refine G' (wpAny_lookBehind f (by rw[g];exact pastItsLine_dict (zAp i (by rw[zAi];lia))) ?_);exact J' (h _ ⟨(d.2 _ (Ne.symm I.ne)).trans I.obj,c,I.ne⟩ d)
theorem qaB3{R:Result->δ->Prop}{vs:List V'}(X:K.In s.heap)(hm:W.makesIn K C=true)(hi:W.findIn K (.ref C) "__init__" = some (some (.ref f)))(a:W.typeIn K (.ref f)=some (.type "function"))(h:codeAny (model prog w) (A.under (.builtin "type.__call__" ⟨.ref C::vs,kw⟩)) (.call (.ref f) ⟨.ref (s.heap.objs.size+1)::vs,kw⟩) (W.InitBack (s.heap.objs.size+1) R)
     { s with heap:=(s.heap.push W.emptyDict).push (W.instObj C s.heap.objs.size) }) :
   codeAny (model prog w) A (.call (.ref C) ⟨vs,kw⟩) R s:=by
 obtain⟨b,g,d,t,c⟩:=s;exact W.make_core (W.makes_of X hm) (W.looks_findIn X hi) (λ self=>W.bind_fn X self a) (.inl rfl) h
end
noncomputable def Bm(f:Str)(v:V):List (Str×V)->List (Str×V)
 | []=>[(f,v)]
 | (g,x)::r=>if g=f then (g,v)::r else (g,x)::Bm f v r
theorem qs8(f g:Str)(v:V):∀ fs:List (Str×V),(Bm f v fs).lookup g=if g=f then some v else fs.lookup g
 | []=>by
   show List.lookup g [(f,v)]=_;by_cases h:g=f
   . have a:(g == f)=true:=zBn.mpr h
     simp only[List.lookup,a,if_pos h]
   have a:(g == f)=false:=zBj.mpr h;simp only[List.lookup,a,if_neg h]
 | (k,x)::r=>by
   have c:=qs8 f g v r;rw[show Bm f v ((k,x)::r)=(if k=f then (k,v)::r else (k,x)::Bm f v r) from rfl];by_cases b:k=f
   . rw[if_pos b]
     by_cases h:g=k
     . have a:(g == k)=true:=zBn.mpr h
       simp only[List.lookup,a,if_pos (h.trans b)]
     have a:(g == k)=false:=zBj.mpr h;simp only[List.lookup,a,if_neg (λ e:g=f=>h (e.trans b.symm))]
   rw[if_neg b];by_cases h:g=k
   . have a:(g == k)=true:=zBn.mpr h
     simp only[List.lookup,a,if_neg (λ e:g=f=>b (h.symm.trans e))]
   have a:(g == k)=false:=zBj.mpr h;simp only[List.lookup,a];exact c
theorem qq1(f:Str)(v:V):∀ fs:List (Str×V),f∈(Bm f v fs).map (·.1)/\∀ g,g∈fs.map (·.1)->g∈(Bm f v fs).map (·.1)
 | []=>⟨by simp[Bm],λ g h=>by simp at h⟩
 | (k,x)::r=>by
   obtain⟨b,c⟩:=qq1 f v r;rw[show Bm f v ((k,x)::r)=(if k=f then (k,v)::r else (k,x)::Bm f v r) from rfl];by_cases a:k=f
   . rw[if_pos a]
     subst a;exact⟨by simp,λ g h=>by simpa using h⟩
   rw[if_neg a];refine⟨?_,λ g h=>?_⟩
   . rw[zAw]
     exact zA4 _ b
   rw[zAw] at h ⊢;rcases zAm.mp h with e | e
   . exact zAm.mpr (.inl e)
   exact zA4 _ (c g e)
theorem qs9(f:Str)(v:V):∀ fs:List (Str×V),(Bm f v fs).length<=fs.length+1
 | []=>by simp[Bm]
 | (k,x)::r=>by
   have b:=qs9 f v r;rw[show Bm f v ((k,x)::r)=(if k=f then (k,v)::r else (k,x)::Bm f v r) from rfl];by_cases a:k=f
   . rw[if_pos a,zAi,zAi];lia
   rw[if_neg a,zAi,zAi];lia
theorem RelO.some_of{v:V}{o:Option V'}(r:RelO (some v) o):∃ u,o=some u/\Lv v u:=by
 cases o with
 | none=>exact(show False from r).elim
 | some u=>exact⟨u,rfl,r⟩
theorem RelO.none_of{o:Option V'}(r:RelO none o):o=none:=by
 cases o with
 | none=>rfl
 | some u=>exact(show False from r).elim
theorem qao6{v:V}{u:V'}(r:Lv v u):W.handedIn u=true:=by
 cases v with
 | non=>cases (show u=Value.none from r);rfl
 | bl b=>cases (show u=Value.bool b from r);rfl
 | int i=>obtain⟨t,e⟩:=(show ∃ t,u=Value.int i t from r);cases e;rfl
 | str x=>obtain⟨t,e⟩:=(show ∃ t,u=Value.str x t from r);cases e;rfl
 | byt b=>obtain⟨t,e⟩:=(show ∃ t,u=Value.bytes b t from r);cases e;rfl
 | flt b=>obtain⟨t,e⟩:=(show ∃ t,u=Value.float b t from r);cases e;rfl
 | ref a=>cases (show u=Value.ref a from r);rfl
 | ty n=>cases (show u=Value.type n from r);rfl
section
variable{P:Program}{w:World}{H:Hp}{h:Heap}{a C dx:γ}{fs:List (Str×V)}
theorem qU3(b:HOk P w H h)(e:H a=some (.ins C dx fs)):∃ mA,ObjM h a dx C mA/\(∀ f,RelO (fs.lookup f) (mA f))/\PySem.Within mA (fs.map (·.1))/\fs.length<=1000/\H dx=some (.own a):=by
 obtain⟨d,z,c,g,mA,n,r,q⟩:=(show ObjOk P w H h a (.ins C dx fs) from b a _ e)
 exact⟨mA,⟨g,n,c⟩,r,q,z,d⟩
end
structure Cls(K:W.Frag)(C:γ):Prop where
 pg:W.plainGet K C Str.empty=true
 hd:W.hasDictIn K C=true
 po:W.plainOver K C=true
 sa:W.findIn K (.ref C) "__setattr__" = some (some (.builtin "object.__setattr__"))
theorem Cls.get{K:W.Frag}{C:γ}(c:Cls K C)(f:Str):W.plainGet K C f=true:=c.pg
def qd6(K:W.Frag)(C:γ)(f:Str):Prop:=W.findIn K (.ref C) f=some none
theorem qd6.taker{K:W.Frag}{C:γ}{f:Str}(n:qd6 K C f):W.takerIn K C f=some none:=by
 unfold W.takerIn;rw[show W.findIn K (.ref C) f=some none from n];rfl
structure Ja(K:W.Frag)(C:γ)(m:Str)(f:γ):Prop where
 at_:W.findIn K (.ref C) m=some (some (.ref f))
 fn:W.isFn K (.ref f)=true
 kp:W.keepIn K (.ref f)=true
section
variable{X:Cx}{E3:List (γ×Obj)}{σ:St}{H:Hp}{s:δ}{a C dx:γ}{fs:List (Str×V)}{f:Str}{v:V}{A:Around}{E:V'->δ->Prop}
theorem qah8{b:Bool}{Q:V'->δ->Prop}(I:Ly X E3 σ H s)(e:H a=some (.ins C dx fs))(c:Cls X.K C)(n:qd6 X.K C f)(l:fs.lookup f=some v)(h:∀ u s',Ly X E3 σ H s'->Lv v u->Q u s'):wpAny (model X.prog X.w) A (getAttr (.ref a) f b) Q E s:=by
 obtain⟨g,O,r,_,_,_⟩:=qU3 I.hok e;obtain⟨u,i,d⟩:=RelO.some_of (v:=v) (o:=g f) (by rw[<- l];exact r f);exact qaN0 I.kIn O (c.get f) c.hd n i (qao6 d) (h u _ (I.tok _) d)
theorem qK5{m:Str}{g:γ}{Q:V'×List V'->δ->Prop}(I:Ly X E3 σ H s)(e:H a=some (.ins C dx fs))(c:Cls X.K C)(k:Ja X.K C m g)(l:fs.lookup m=none)(h:Q (.ref g,[.ref a]) s):wpAny (model X.prog X.w) A (getMethod (.ref a) m pl) Q E s:=by
 obtain⟨b,O,r,_,_,_⟩:=qU3 I.hok e;have d:b m=none:=RelO.none_of (by rw[<- l];exact r m);exact qaC4 I.kIn O (c.get m) k.at_ k.fn d h
theorem qac5{y:V}{u:V'}{Q:Unit->δ->Prop}(I:Ly X E3 σ H s)(e:H a=some (.ins C dx fs))(c:Cls X.K C)(n:qd6 X.K C f)(D:fs.length < 1000)(k:Lv y u)(h:∀ s',Ly X E3 σ (upd H a (.ins C dx (Bm f y fs))) s'->Q () s'):wpAny (model X.prog X.w) A (setAttr (.ref a) f u) Q E s:=by
 obtain⟨d,O,r,i,_,j⟩:=qU3 I.hok e;have l:(fs.map (·.1)).length<=Kq:=by rw[zAd,Kx];lia
 refine qaG5 I.kIn O c.sa c.po n.taker c.hd i l λ m O' p=>h _ ?_
 have t:∃ o,m.get? dx=some o:=let ⟨o,_,_,e',_⟩:=O'.ns;⟨o,e'⟩
 refine I.write (x:=a) (e:=dx) (by rw[e];exact True.intro) (.inr j) (λ b q v z=>(p.2 b v).trans z) t ?_;refine⟨by rw[qb4 O.ne];exact j,?_,O.ne,O'.obj,_,O'.ns,λ g=>?_,λ g B=>?_⟩
 . have:=qs9 f y fs;lia
 . show RelO ((Bm f y fs).lookup g) (if g=f then some u else d g)
   rw[qs8];by_cases q:g=f
   . rw[if_pos q,if_pos q];exact k
   rw[if_neg q,if_neg q];exact r g
 by_cases q:g=f
 . rw[q];exact(qq1 f y fs).1
 refine(qq1 f y fs).2 g (i g λ z=>B ?_);show (if g=f then some u else d g)=none;rw[if_neg q];exact z
theorem Ly.made(I:Ly X E3 σ H s):Ly X E3 σ (upd (upd H s.heap.objs.size (.own (s.heap.objs.size+1))) (s.heap.objs.size+1) (.ins C s.heap.objs.size []))
   { s with heap:=(s.heap.push W.emptyDict).push (W.instObj C s.heap.objs.size) }:=by
 have c:(s.heap.push W.emptyDict).get? s.heap.objs.size=some W.emptyDict:=zAu s.heap rfl;have e2:((s.heap.push W.emptyDict).push (W.instObj C s.heap.objs.size)).get? (s.heap.objs.size+1)=some (W.instObj C s.heap.objs.size):=by
   have:=zAu (s.heap.push W.emptyDict) (o:=W.instObj C s.heap.objs.size) rfl
   rwa[Heap.size_push] at this
 have f:(s.heap.push W.emptyDict).Ns s.heap.objs.size (λ _=>none):=⟨W.emptyDict,#[],_,c,rfl,(λ e g=>absurd g (by simp)),λ _=>rfl⟩
 have I1:=I.laid (a:=s.heap.objs.size) (o:=.own (s.heap.objs.size+1)) (h':=s.heap.push W.emptyDict) (t':=s.toks) (λ b u q=>zA2 _ q) (zA6 _) ⟨_,c⟩;refine I1.laid (a:=s.heap.objs.size+1) (o:=.ins C s.heap.objs.size []) (t':=s.toks) (λ b u q=>zA2 _ q) (Nat.le_of_eq (Heap.size_push _ _)) ?_;have d:s.heap.objs.size≠s.heap.objs.size+1:=zAj (zC3 _);refine⟨by rw[qb4 d,qb3],zBe _,d,e2,λ _=>none,(Heap.Ns1.of_empty f).at λ o q=>zA2 _ q,λ _=>True.intro,λ y h=>absurd rfl h⟩
theorem qaO6{prog:Program}{w:World}{env:Env}{e:Expr}{f:Str}{pos:Pos}{s:δ}{Q:V'->δ->Prop}(a:Kw e f env (eval e env)=eval e env)(h:wpAny (model prog w) A (eval e env) (λ o s₁=>wpAny (model prog w) A (getAttr o f true) Q E s₁) E s):wpAny (model prog w) A (eval (.Attribute e f pos) env) Q E s :=
 Attribute_any_ h (by rw[arm_eval_Attribute,a])
end
def tFld(K:W.Frag)(ta:TE)(f:Str):TE:=λ σ H Q=>ta σ H λ x H1=>∃ a C dx fs v,x=.ref a/\H1 a=some (.ins C dx fs)/\Cls K C/\qd6 K C f/\fs.lookup f=some v/\Q v H1
def sFld(K:W.Frag)(ta tv:TE)(f:Str):TS:=λ D σ H=>tv σ H λ y H1=>ta σ H1 λ x H2=>∃ a C dx fs,x=.ref a/\H2 a=some (.ins C dx fs)/\Cls K C/\qd6 K C f/\fs.length < 1000 /\
 D.nx σ (upd H2 a (.ins C dx (Bm f y fs)))
section
variable{X:Cx}{o e value:Expr}{f:Str}{pos pos':Pos}{ta tv:TE}
theorem qam9(d:PE X e ta)(g:Kw e f X.env (eval e X.env)=eval e X.env):PE X (.Attribute e f pos) (tFld X.K ta f):=by
 intro E3 s σ H Q I h;refine qaO6 g (thn (d E3 s σ H _ I h) λ u o b=>?_);obtain⟨x,H1,I1,i,a,C,p,r,v,j,k,c,n,l,q⟩:=b;subst j;obtain rfl:u=Value.ref a:=i;exact qah8 I1 k c n l λ t w I2 m=>⟨v,H1,I2,m,q⟩
theorem qaR3(d:PE X o ta)(e:PE X value tv)(g:swapsWith value (some (.Attribute o f pos')) pos.line X.env=pure false):PS X (.Assign [.Attribute o f pos'] value pos) (sFld X.K ta tv f):=by
 intro E3 s σ H D I h;refine plainObj_wpAny_Assign_Attribute (thn (e E3 s σ H _ I h) λ u i b=>?_) g;obtain⟨y,H1,I1,j,q⟩:=b;refine thn (d E3 i σ H1 _ I1 q) λ k t b=>?_
 obtain⟨x,H2,I2,m,a,C,v,w,p,r,c,n,l,q2⟩:=b;subst p;obtain rfl:k=Value.ref a:=m;exact qac5 I2 r c n l j λ z I3=>⟨σ,_,I3,q2⟩
end
section
variable{X:Cx}{E3:List (γ×Obj)}{σ:St}{H:Hp}{s:δ}{A:Around}{E Q:V'->δ->Prop}{c:V'}{b:Bool}
inductive E5(K:W.Frag)(H:Hp):V->V'->Prop where
 | non:E5 K H .non (.type "NoneType")
 | bl (x:Bool):E5 K H (.bl x) (.type "bool")
 | int (i:Int):E5 K H (.int i) (.type "int")
 | str (x:Str):E5 K H (.str x) (.type "str")
 | flt (x:UInt64):E5 K H (.flt x) (.type "float")
 | l {a:γ} {xs:List V} (e:H a=some (.l xs)):E5 K H (.ref a) (.type "list")
 | frz {a:γ} {o:Obj} {xs:List V} (e:H a=some (.frz o (.l xs))):E5 K H (.ref a) (.type "list")
 | q {a:γ} {xs:List V} (e:H a=some (.q xs)):E5 K H (.ref a) (.type "tuple")
 | dK {a:γ} {kvs:List (Key×V)} (e:H a=some (.dK kvs)):E5 K H (.ref a) (.type "dict")
 | dT {a:γ} {kvs:List (List Key×V)} (e:H a=some (.dT kvs)):E5 K H (.ref a) (.type "dict")
 | ins {a C dx:γ} {fs:List (Str×V)} (e:H a=some (.ins C dx fs)) (cl:Cls K C) (ha:W.findIn K (.ref C) "__class__" = some (some (.builtin "object.__class__")))
     (hn:W.specialIn K (.builtin "object.__class__") "__get__" = some (some (.builtin "getset_descriptor.__get__"))) (htk:W.takesIn K (.builtin "object.__class__")=some true)
     (hm:W.mroIn K C (.type "object")=some true):E5 K H (.ref a) (.ref C)
theorem qG3{x:V}{u t:V'}(I:Ly X E3 σ H s)(d:Lv x u)(ty:E5 X.K H x t)(e:W.kitOne X.K t c=some b)(h:∀ k,Q (.bool b) { s with toks:=k }) :
   wpAny (model X.prog X.w) A (call (.builtin "isinstance") [u,c]) Q E s:=by
 cases ty with
 | non=>cases (show u=Value.none from d);exact W.kia_one W.kitx_none I.kIn True.intro e (λ z=>nomatch z) h
 | bl y=>cases (show u=Value.bool y from d);exact W.kia_one W.kitx_bool I.kIn True.intro e (λ z=>nomatch z) h
 | int i=>obtain⟨t,q⟩:=(show ∃ t,u=Value.int i t from d);cases q;exact W.kia_one W.kitx_int I.kIn True.intro e (λ z=>nomatch z) h
 | str y=>obtain⟨t,q⟩:=(show ∃ t,u=Value.str y t from d);cases q;exact W.kia_one W.kitx_str I.kIn True.intro e (λ z=>nomatch z) h
 | flt y=>obtain⟨t,q⟩:=(show ∃ t,u=Value.float y t from d);cases q;exact W.kia_one W.kitx_float I.kIn True.intro e (λ z=>nomatch z) h
 | @l a g ea =>
   cases (show u=Value.ref a from d);obtain⟨_,_,n,_,f⟩:=(show ObjOk X.prog X.w H s.heap a (.l g) from I.hok a _ ea)
   exact W.kia_one W.kitx_list I.kIn ⟨_,f,rfl⟩ e (λ z=>nomatch z) h
 | @frz a ob g ea =>
   cases (show u=Value.ref a from d);obtain⟨_,_,_,n,_,f⟩:=(show ObjOk X.prog X.w H s.heap a (.frz ob (.l g)) from I.hok a _ ea)
   exact W.kia_one W.kitx_list I.kIn ⟨_,f,rfl⟩ e (λ z=>nomatch z) h
 | @q a g ea =>
   cases (show u=Value.ref a from d);obtain⟨_,_,_,p⟩:=(show ObjOk X.prog X.w H s.heap a (.q g) from I.hok a _ ea)
   obtain⟨o,f,j,_⟩:=p;exact W.kia_one W.kitx_tuple I.kIn ⟨o,f,j⟩ e (λ z=>nomatch z) h
 | @dK a kvs ea =>
   cases (show u=Value.ref a from d);obtain⟨_,_,r,_,p⟩:=(show ObjOk X.prog X.w H s.heap a (.dK kvs) from I.hok a _ ea)
   obtain⟨o,l,m,f,j,_⟩:=p;exact W.kia_one W.kitx_dict I.kIn ⟨o,f,j.1⟩ e (λ z=>nomatch z) h
 | @dT a kvs ea =>
   cases (show u=Value.ref a from d);obtain⟨_,_,g,_,o,l,m,f,j,_⟩:=(show ObjOk X.prog X.w H s.heap a (.dT kvs) from I.hok a _ ea)
   exact W.kia_one W.kitx_dict I.kIn ⟨o,f,j.1⟩ e (λ z=>nomatch z) h
 | @ins a C dx fs ea cl ha hn htk hm =>
   cases (show u=Value.ref a from d);obtain⟨v,O,_⟩:=qU3 I.hok ea;obtain⟨B,J,_⟩:=O.look;exact W.kia_one (W.kitx_own (cl.get _) cl.hd ha hn htk hm) I.kIn J e (λ z=>nomatch z) h
end
structure L6(cm:Bool)(k:Nat)(A:Around):Prop where
 hd:cm=true->A.handled=none
 dp:A.depth+3 * k+5 < recursionLimit
 un:A.units+16 * k+200 < cLine
abbrev Room:=L6 true
theorem L6.mono{cm:Bool}{j k:Nat}{A:Around}(r:L6 cm k A)(h:j<=k):L6 cm j A:=⟨r.hd,by have:=r.dp;lia,by have:=r.un;lia⟩
theorem L6.deeper{cm:Bool}{k:Nat}{A:Around}(r:L6 cm (k+1) A)(env:Env):L6 cm k (A.deeper env) :=
 ⟨r.hd,by have:=r.dp;show A.depth+1+3 * k+5 < _;lia,by have:=r.un;show A.units+3+16 * k+200 < _;lia⟩
theorem qaf9{A:Around}{C:γ}:(A.under (.builtin "type.__call__" ⟨.ref C::us,kw⟩)).depth=A.depth+1:=by
 first | rfl | simp[Around.under,Code.weight,Code.isCreation,Code.isGuard,Code.isCaller,Code.frames,Code.isFrame,guardIds]
theorem qaf8{A:Around}{C:γ}:(A.under (.builtin "type.__call__" ⟨.ref C::us,kw⟩)).units=A.units+1:=by
 first | rfl | simp[Around.under,Code.cUnits,Code.frames,Code.isFrame]
theorem L6.make{cm:Bool}{k:Nat}{A:Around}(r:L6 cm (k+1) A)(C:γ)(us:List V')(kw:List (Str×V')):L6 cm k (A.under (.builtin "type.__call__" ⟨.ref C::us,kw⟩)) :=
 ⟨r.hd,by have:=r.dp;rw[qaf9];lia,by have:=r.un;rw[qaf8];lia⟩
theorem L6.depth{cm:Bool}{k:Nat}{A:Around}(r:L6 cm k A):A.depth < recursionLimit:=by have:=r.dp;lia
theorem L6.units{cm:Bool}{k:Nat}{A:Around}(r:L6 cm k A):A.units+64 < cLine:=by have:=r.un;lia
def tNil:TA:=λ _ H Q=>Q [] H
def tCons(ta:TE)(tr:TA):TA:=λ σ H Q=>ta σ H λ x H1=>tr σ H1 λ xs H2=>Q (x::xs) H2
section
variable{X:Cx}{e:Expr}{es:List Expr}{te:TE}{t:TA}{pos:Pos}
theorem qk2:PA X [] tNil:=λ _ _ _ _ H Q I h=>Calls.spliced_nil ⟨[],H,I,.nil,h⟩
theorem qc4(b:PE X e te)(c:PA X es t)(d:Ko (e::es) X.env=(false,eval e X.env)::Ko es X.env:=by rfl):PA X (e::es) (tCons te t):=by
 intro pos E3 s σ H Q I h;rw[d];show wpAny _ _ (spliced ((false,eval e X.env)::backTo pos (Ko es X.env))) _ _ s;refine Calls.spliced_cons (thn (b E3 s σ H _ I h) λ u f a=>?_);obtain⟨x,H1,I1,g,i⟩:=a;exact thn (c pos E3 f σ H1 _ I1 i) λ l m ⟨j,H2,I2,k,q2⟩=>⟨x::j,H2,I2,.cons g k,q2⟩
def tTup(t:TA):TE:=λ σ H Q=>t σ H λ xs H1=>xs.length<=Kq/\∀ p,H1 p=none->Q (.ref p) (upd H1 p (.q xs))
def tLst(t:TA):TE:=λ σ H Q=>t σ H λ xs H1=>xs.length<=Kq/\∀ p,H1 p=none->Q (.ref p) (upd H1 p (.l xs))
theorem qaI7{x1}(h:PA X es t):PE X (.Tuple es x1 pos) (tTup t):=by
 intro E3 s σ H Q I d;refine wpAny_Tuple_spliced (thn (h pos E3 s σ H _ I d) λ f a c=>?_);obtain⟨g,H1,I1,r,z,q⟩:=c;refine⟨by rw[<- r.length];exact z,?_⟩;have i:H1 a.heap.objs.size=none:=I1.hok.fresh (zA6 _);refine⟨.ref a.heap.objs.size,upd H1 a.heap.objs.size (.q g),I1.laid (t':=a.toks) (λ b u e=>zA2 _ e) (zA6 _) ?_,rfl,q _ i⟩;exact⟨z,f,r,⟨_,zAu _ rfl,rfl,_,rfl⟩⟩
theorem qaz0(h:PA X es t):PE X (.List es pos) (tLst t):=by
 intro E3 s σ H Q I d;refine wpAny_List_spliced (thn (h pos E3 s σ H _ I d) λ f a c=>?_);obtain⟨g,H1,I1,r,z,q⟩:=c;refine⟨by rw[<- r.length];exact z,?_⟩;have i:H1 a.heap.objs.size=none:=I1.hok.fresh (zA6 _);refine⟨.ref a.heap.objs.size,upd H1 a.heap.objs.size (.l g),I1.laid (t':=a.toks) (λ b u e=>zA2 _ e) (zA6 _) ?_,rfl,q _ i⟩;exact⟨z,f,0,r,zAu _ rfl⟩
end
abbrev Sp:=List V->Hp->VK->XK->Prop
abbrev CXT:=List Env->Hp->δ->XK->V'->δ->Prop
structure Env0(P:Program)(w:World)(K:W.Frag)(mg:Str->Option V')(base:Heap)(A:Around)(outer:List Env)(s:δ)(H:Hp):Prop where
 frames:A.frames=some outer
 mod:Mod K mg base
 bs:∀ b o,base.get? b=some o->s.heap.get? b=some o/\H b=none
 bsz:base.objs.size<=s.heap.objs.size
 funs:s.heap.FunFrames base outer
 frf:∀ b∈frs outer,H b=none
 hok:HOk P w H s.heap
 bare:AllBare s.gens
def CE(outer:List Env)(P:Program)(w:World)(H:Hp)(s:δ)(Q:VK)(u:V')(s':δ):Prop :=
 ∃ v H',s'.os=s.os/\AllBare s'.gens/\Un (frs outer) [] H H' s.heap s'.heap/\HOk P w H' s'.heap/\Lv v u/\Q v H'
def CR(CX:CXT)(outer:List Env)(P:Program)(w:World)(H:Hp)(s:δ)(Q:VK)(E:XK)(r:Result)(s':δ):Prop :=
 match r with
 | .ok (.ret u)=>CE outer P w H s Q u s'
 | .ok _=>False
 | .error e=>CX outer H s E e s'
structure Eo(cm:Bool)(P:Program)(w:World)(K:W.Frag)(mg:Str->Option V')(base:Heap)(CX:CXT)(k:Nat)(f:γ)(fd:ε)(ps:List Str)(sp:Sp):Prop where
 len:∀ vs H Q E,sp vs H Q E->vs.length=ps.length
 run:∀(A:Around)(outer:List Env)(s:δ)(H:Hp)(args:Args)(us:List V')(vs:List V)(Q:VK)(E:XK),L6 cm k A->Env0 P w K mg base A outer s H->BindsTo s fd args (ps.zip us)->Lw vs us->sp vs H Q E ->
   codeAny (model P w) A (.call (.ref f) args) (CR CX outer P w H s Q E) s
abbrev B6:=Eo true
theorem Env0.make{P:Program}{w:World}{K:W.Frag}{A:Around}{outer:List Env}{s:δ}{H:Hp}(e:Env0 P w K mg base A outer s H)(C:γ)(us:List V')(kw:List (Str×V')) :
   Env0 P w K mg base (A.under (.builtin "type.__call__" ⟨.ref C::us,kw⟩)) outer s H:=⟨by first | exact e.frames | (simpa[Around.under,Code.envs,Code.isFrame,pushEnvs] using e.frames),e.mod,e.bs,e.bsz,e.funs,e.frf,e.hok,e.bare⟩
section
variable{X:Cx}{E3:List (γ×Obj)}{σ:St}{H:Hp}{s s':δ}
theorem Ly.env0(I:Ly X E3 σ H s):Env0 X.prog X.w X.K X.mg X.base X.A X.stack s H :=
 ⟨I.ok.frames,I.ok.mod,I.bs,zAp I.ok.bsz I.sz,I.stack,I.stkFree,I.hok,I.bare⟩
theorem Ly.after{Q:VK}{u:V'}(I:Ly X E3 σ H s)(h:CE X.stack X.prog X.w H s Q u s'):EP X E3 σ Q u s':=by
 obtain⟨v,H',e,bare,f,a,r,q⟩:=h;obtain⟨i,g,d,t,c⟩:=s';obtain rfl:c=s.os:=e;exact⟨v,H',I.call (h':=i) (g':=g) (d':=d) (t':=t) (ch:=[]) f a bare (λ b z=>absurd z (by simp)),r,q⟩
end
def Jb(sp:Sp)(dvs:List V)(E:St->XK)(t:TA):TE:=λ σ H Q=>t σ H λ vs H1=>sp (vs++dvs) H1 Q (E σ)
def Jc(C:γ)(m:Str)(sp:Sp)(dvs:List V)(E:St->XK)(ta:TE)(t:TA):TE:=λ σ H Q=>ta σ H λ x H1=>∃ a dx fs,x=.ref a/\H1 a=some (.ins C dx fs)/\fs.lookup m=none /\
 t σ H1 λ vs H2=>sp (x::(vs++dvs)) H2 Q (E σ)
def tMake(C:γ)(sp:Sp)(dvs:List V)(E:St->XK)(t:TA):TE:=λ σ H Q=>t σ H λ vs H1=>∀ x dx,H1 x=none->H1 dx=none->dx≠x ->
 sp (.ref x::(vs++dvs)) (upd (upd H1 dx (.own x)) x (.ins C dx [])) (λ v H2=>v=.non/\Q (.ref x) H2) (E σ)
def Binds(K:W.Frag)(fd:ε)(ps:List Str)(ds:List V'):Prop :=
 ∀(s:δ)(us:List V'),K.In s.heap->(us++ds).length=ps.length->BindsTo s fd ⟨us,[]⟩ (ps.zip (us++ds))
theorem Binds.all{K:W.Frag}{fd:ε}{ps:List Str}(h:∀ us:List V',us.length=ps.length->bindArgs fd ⟨us,[]⟩=pure (ps.zip us)):Binds K fd ps []:=λ s us _ a=>by
 rw[zAe] at a ⊢;exact .of_eq (h us a)
def qM1(CX:CXT)(X:Cx)(E:St->XK):Prop:=∀(E3:List (γ×Obj))(σ:St)(H:Hp)(s:δ)(e:V')(s':δ),Ly X E3 σ H s->CX X.stack H s (E σ) e s'->X.xe e s'
section
variable{X:Cx}{cm:Bool}{CX:CXT}{k:Nat}{f C:γ}{fd:ε}{ps:List Str}{sp:Sp}{dvs:List V}{ds:List V'}{E:St->XK}{x m:Str}{p pos apos:Pos}{e o:Expr}{es:List Expr}{ta:TE}{t:TA}
theorem qax8{E3:List (γ×Obj)}{σ:St}{H:Hp}{s:δ}{Q:VK}{vs:List V}(F:Eo cm X.prog X.w X.K X.mg X.base CX k f fd ps sp)(c:L6 cm k X.A)(d:Binds X.K fd ps ds)(g:Lw dvs ds)(i:qM1 CX X E)(I:Ly X E3 σ H s)(r:Lw vs us)(h:sp (vs++dvs) H Q (E σ)):wpAny (model X.prog X.w) X.A (call (.ref f) us) (EP X E3 σ Q) X.xe s:=by
 have b:Lw (vs++dvs) (us++ds):=r.append g;have j:(us++ds).length=ps.length:=by rw[<- b.length];exact F.len _ _ _ _ h
 refine wpAny_call (codeAny_mono (F.run X.A X.stack s H ⟨us,[]⟩ (us++ds) (vs++dvs) Q (E σ) c I.env0 (d s us I.kIn j) b h) λ r l a=>?_);cases r with
 | error e=>exact i E3 σ H s e l I a
 | ok m =>
   cases m with
   | ret u=>exact I.after a
   | next=>exact False.elim a
   | brk=>exact False.elim a
   | cont=>exact False.elim a
theorem qat7(F:Eo cm X.prog X.w X.K X.mg X.base CX k f fd ps sp)(d:L6 cm k X.A)(g:Gl X x)(hm:X.mg x=some (.ref f))(i:W.keepIn X.K (.ref f)=true)(j:Binds X.K fd ps ds)(l:Lw dvs ds)(m:qM1 CX X E)(n:PA X (e::es) t)(a:N' x:=by decide)(o:Ko (e::es) X.env=(false,eval e X.env)::Ko es X.env:=by rfl)(b:(backTo pos (Ko es X.env)).any (·.1)=false:=by rfl) :
   PE X (.Call (.Name x p) (e::es) [] pos) (Jb sp dvs E t):=by
 intro E3 s σ H Q I h;refine wpAny_Call_Name_kw (qz2 I g hm ?_ a);refine W.callWith_K (h₀:=X.base) I.ok.mod.kin i (thn (n pos E3 s σ H _ I h) λ u v c=>?_) o b;obtain⟨y,H1,I1,r,q⟩:=c;refine⟨I1.kIn,?_⟩;exact qax8 F d j l m I1 r q
theorem qat3(n:PE X o ta)(c:Cls X.K C)(hm:Ja X.K C m f)(F:Eo cm X.prog X.w X.K X.mg X.base CX k f fd ps sp)(p:L6 cm k X.A)(v:Binds X.K fd ps ds)(y:Lw dvs ds)(z:qM1 CX X E)(B:PA X (e::es) t)(d:Ko (e::es) X.env=(false,eval e X.env)::Ko es X.env:=by rfl)(g:(backTo pos (Ko es X.env)).any (·.1)=false:=by rfl)(D:eval (.Call (.Attribute o m apos) (e::es) [] pos) X.env=(do
     let ov <- eval o X.env
     standAt apos.atName
     let (f,first) <- holding [ov] (getMethod ov m pl)
     callWith pos f first (backTo pos (Ko (e::es) X.env)) (backToKw pos (K5 [] X.env))):=by rfl) :
   PE X (.Call (.Attribute o m apos) (e::es) [] pos) (Jc C m sp dvs E ta t):=by
 intro E3 s σ H Q I h;refine W.methodCall_KW (pl:=pl) (thn (n E3 s σ H _ I h) λ u G b=>?_) D;obtain⟨x,H1,I1,J,a,N,O,L,M,l,q⟩:=b;subst L;obtain rfl:u=Value.ref a:=J;refine qK5 I1 M c hm l ?_;refine W.callWith_K (first:=[.ref a]) (h₀:=X.base) I.ok.mod.kin hm.kp (thn (B pos E3 G σ H1 _ I1 q) λ i P b=>?_) d g;obtain⟨j,H2,I2,r,q2⟩:=b;refine⟨I2.kIn,?_⟩;exact qax8 (us:=.ref a::i) (vs:=.ref a::j) F p v y z I2 (.cons rfl r) q2
theorem qay9(d:PE X o ta)(c:Cls X.K C)(hm:Ja X.K C m f)(F:Eo cm X.prog X.w X.K X.mg X.base CX k f fd ps sp)(e:L6 cm k X.A)(g:Binds X.K fd ps ds)(i:Lw dvs ds)(j:qM1 CX X E)(n:eval (.Call (.Attribute o m apos) [] [] pos) X.env=(do
     let ov <- eval o X.env
     standAt apos.atName
     let (f,first) <- holding [ov] (getMethod ov m pl)
     callWith pos f first (backTo pos (Ko [] X.env)) (backToKw pos (K5 [] X.env))):=by rfl) :
   PE X (.Call (.Attribute o m apos) [] [] pos) (Jc C m sp dvs E ta tNil):=by
 intro E3 s σ H Q I h;refine W.methodCall_KW (pl:=pl) (thn (d E3 s σ H _ I h) λ u v b=>?_) n;obtain⟨x,H1,I1,p,a,y,z,r,t,l,q⟩:=b;subst r;obtain rfl:u=Value.ref a:=p;refine qK5 I1 t c hm l ?_;exact W.callWith_K0 (first:=[.ref a]) I1.kIn hm.kp (qax8 (us:=[.ref a]) (vs:=[.ref a]) F e g i j I1 (.cons rfl .nil) q)
structure Mk(K:W.Frag)(C f:γ):Prop where
 makes:W.makesIn K C=true
 init:W.findIn K (.ref C) "__init__" = some (some (.ref f))
 fn:W.isFn K (.ref f)=true
 kp:W.keepIn K (.ref C)=true
theorem qax7{E3:List (γ×Obj)}{σ:St}{H:Hp}{s:δ}{Q:VK}{vs:List V}(M:Mk X.K C f)(F:Eo cm X.prog X.w X.K X.mg X.base CX k f fd ps sp)(d:L6 cm (k+1) X.A)(g:Binds X.K fd ps ds)(i:Lw dvs ds)(j:qM1 CX X E)(I:Ly X E3 σ H s)(r:Lw vs us)(h:∀ x dx,H x=none->H dx=none->dx≠x->sp (.ref x::(vs++dvs)) (upd (upd H dx (.own x)) x (.ins C dx [])) (λ v H2=>v=.non/\Q (.ref x) H2) (E σ)) :
   wpAny (model X.prog X.w) X.A (call (.ref C) us) (EP X E3 σ Q) X.xe s:=by
 have b:=h (s.heap.objs.size+1) s.heap.objs.size (I.hok.fresh (Nat.le_succ _)) (I.hok.fresh (zA6 _)) (zAj (zC3 _));have I2:=Ly.made (C:=C) I;have c:Lw (V.ref (s.heap.objs.size+1)::(vs++dvs)) (Value.ref (s.heap.objs.size+1)::(us++ds)):=.cons rfl (r.append i);have l:(Value.ref (s.heap.objs.size+1)::us++ds).length=ps.length:=by
   have e:=c.length;rw[F.len _ _ _ _ b] at e;exact e.symm
 refine wpAny_call (qaB3 (f:=f) I.kIn M.makes M.init (zBn.mp M.fn) (codeAny_mono (F.run _ X.stack _ _ ⟨Value.ref (s.heap.objs.size+1)::us,[]⟩ (Value.ref (s.heap.objs.size+1)::(us++ds)) _ _ (E σ) (d.make C us [])
   (I2.env0.make C us []) (g _ (Value.ref (s.heap.objs.size+1)::us) I2.kIn l) c b) λ r m a=>?_))
 cases r with
 | error e=>exact j E3 σ _ _ e m I2 a
 | ok n =>
   cases n with
   | ret u =>
     obtain⟨v,H',I3,o,p,q⟩:=I2.after a;subst p;exact⟨o,⟨V.ref (s.heap.objs.size+1),H',I3,rfl,q⟩⟩
   | next=>exact False.elim a
   | brk=>exact False.elim a
   | cont=>exact False.elim a
theorem qat4(M:Mk X.K C f)(F:Eo cm X.prog X.w X.K X.mg X.base CX k f fd ps sp)(d:L6 cm (k+1) X.A)(g:Gl X x)(hm:X.mg x=some (.ref C))(i:Binds X.K fd ps ds)(j:Lw dvs ds)(l:qM1 CX X E)(m:PA X (e::es) t)(a:N' x:=by decide)(n:Ko (e::es) X.env=(false,eval e X.env)::Ko es X.env:=by rfl)(b:(backTo pos (Ko es X.env)).any (·.1)=false:=by rfl) :
   PE X (.Call (.Name x p) (e::es) [] pos) (tMake C sp dvs E t):=by
 intro E3 s σ H Q I h;refine wpAny_Call_Name_kw (qz2 I g hm ?_ a);refine W.callWith_K (h₀:=X.base) I.ok.mod.kin M.kp (thn (m pos E3 s σ H _ I h) λ o u c=>?_) n b;obtain⟨v,H1,I1,r,q⟩:=c;refine⟨I1.kIn,?_⟩;exact qax7 M F d i j l I1 r q
end
structure qa8(N P:List Str)(sc:Scope):Prop where
 kind:sc.kind=.function
 co:sc.isCoroutine=false
 gen:sc.isGenerator=false
 nd:N.Nodup
 pre:N.take P.length=P
 par:∀ x∈P,sc.names.lookup x=some .local∨sc.names.lookup x=some .cell
 nofree:∀ y∈sc.names,y.2≠.free
theorem qW6{kindOf:Str->Option NameKind}{x:Str}:∀{binds:List (Str×V')}{m:Str->Option V'},(∀ v,(x,v)∉binds)->bindL kindOf binds m x=m x
 | [],_,_=>rfl
 | (n,v)::r,m,h=>by
   unfold bindL;rw[qW6 λ w a=>h w (zA4 _ a)];split
   . have:x≠n:=by rintro rfl;exact h v zAa
     simp[this]
   rfl
theorem qW8{kindOf:Str->Option NameKind}{x:Str}:∀{binds:List (Str×V')}{m:Str->Option V'},(∀ v,(x,v)∉binds)->bindC kindOf binds m x=m x
 | [],_,_=>rfl
 | (n,v)::r,m,h=>by
   unfold bindC;rw[qW8 λ w a=>h w (zA4 _ a)];split
   . rfl
   have:x≠n:=by rintro rfl;exact h v zAa
   simp[this]
theorem qW7{kindOf:Str->Option NameKind}{x:Str}{v:V'}:∀{P:List Str}{vs:List V'}{i:Nat}{m:Str->Option V'},P.Nodup->P[i]? = some x->vs[i]? = some v->kindOf x=some .local ->
   bindL kindOf (P.zip vs) m x=some v
 | [],_,_,_,_,h,_,_=>by simp at h
 | _::_,[],_,_,_,_,h,_=>by simp at h
 | p::P,w::vs,0,m,nd,h1,h2,hk=>by
   simp at h1 h2;subst h1;subst h2;show bindL kindOf ((p,w)::P.zip vs) m p=_;unfold bindL;rw[qW6 λ v a=>(zBq.mp nd).1 (List.of_mem_zip a).1,if_pos hk];simp
 | p::P,w::vs,i+1,m,nd,h1,h2,hk=>by
   show bindL kindOf ((p,w)::P.zip vs) m x=_;unfold bindL;exact qW7 (i:=i) (zBq.mp nd).2 (by simpa using h1) (by simpa using h2) hk
theorem qW9{kindOf:Str->Option NameKind}{x:Str}{v:V'}:∀{P:List Str}{vs:List V'}{i:Nat}{m:Str->Option V'},P.Nodup->P[i]? = some x->vs[i]? = some v->kindOf x≠some .local ->
   bindC kindOf (P.zip vs) m x=some v
 | [],_,_,_,_,h,_,_=>by simp at h
 | _::_,[],_,_,_,_,h,_=>by simp at h
 | p::P,w::vs,0,m,nd,h1,h2,hk=>by
   simp at h1 h2;subst h1;subst h2;show bindC kindOf ((p,w)::P.zip vs) m p=_;unfold bindC;rw[qW8 λ v a=>(zBq.mp nd).1 (List.of_mem_zip a).1,if_neg hk];simp
 | p::P,w::vs,i+1,m,nd,h1,h2,hk=>by
   show bindC kindOf ((p,w)::P.zip vs) m x=_;unfold bindC;exact qW9 (i:=i) (zBq.mp nd).2 (by simpa using h1) (by simpa using h2) hk
noncomputable def start(N:List Str)(vs:List V):St:=vs.map some++List.replicate (N.length - vs.length) none
noncomputable def Eu(cm:Bool)(CX:CXT)(P:Program)(w:World)(K:W.Frag)(mg:Str->Option V')(base:Heap)(N:List Str)(qual:Str)(scope:Scope)(f:γ)(cd:V')(A:Around)(outer:List Env)(s:δ)(H:Hp)(E:XK):Cx where
 prog:=P
 w:=w
 K:=K
 mg:=mg
 base:=base
 A:=A.deeper (envOfC qual scope s.heap.objs.size f cd)
 N:=N
 s₀:=s
 H₀:=H
 env:=envOfC qual scope s.heap.objs.size f cd
 outer:=outer
 stack:=envOfC qual scope s.heap.objs.size f cd::outer
 ex:=[]
 calm:=cm
 fn:=λ _=>true
 pn:=[]
 xe:=λ e s'=>wpAny (model P w) (A.deeper (envOfC qual scope s.heap.objs.size f cd)) (leaving (envOfC qual scope s.heap.objs.size f cd) e) (λ _ a=>CX outer H s E e a) (λ b a=>CX outer H s E b a) s'
theorem qaj2{sc:Scope}{x:Str}(h:sc.names.lookup x=some .cell):∃ c,(cellsFrom n sc.names []).lookup x=some c:=by
 have q:=W.cellsFrom_some sc.names n [] (.inl h);exact zAv.mp q
theorem qao4{cm:Bool}{CX:CXT}{P:Program}{w:World}{K:W.Frag}{ps:List Str}{qual:Str}{scope:Scope}{f:γ}{cd:V'}{A:Around}{outer:List Env}{s C:δ}{H:Hp}{E:XK}{vs:List V}(S:qa8 N ps scope)(G:cm=true->A.handled=none)(g:Env0 P w K mg base A outer s H)(M:vs.length=ps.length)(r:Lw vs us)(x:InCallC s s.heap.objs.size (bindL (envOfC qual scope s.heap.objs.size f cd).kindOf (ps.zip us) λ _=>none) (cellsFrom (s.heap.objs.size+1) scope.names []) (bindC (envOfC qual scope s.heap.objs.size f cd).kindOf (ps.zip us) λ _=>none) C) :
   Ly (Eu cm CX P w K mg base N qual scope f cd A outer s H E) [] (start N vs) H C:=by
 have I:ps.length<=N.length:=by have:=congrArg List.length S.pre;rw[zBg] at this;lia
 obtain⟨t,O,rfl,D⟩:=x.done;have j:∀ b:γ,b∉(Eu cm CX P w K mg base N qual scope f cd A outer s H E).ex:=λ b z=>absurd (show b∈([]:List γ) from z) (by simp)
 refine⟨⟨g.mod,S.kind,rfl,rfl,zA6 _,λ y z c t d=>?_,λ y l=>?_,λ y c _ h=>?_,G,Around.frames_deeper g.frames,.inr ⟨rfl,rfl⟩,λ b z=>absurd z (j b),g.bs,g.bsz,λ b _ _=>j b,λ b z=>absurd z (j b),g.funs,g.frf⟩,
   rfl,g.bare,Un.kept D,⟨_,x.toInCall.ns,λ i y v t d Q=>?_⟩,λ y c h=>⟨_,x.cell y c h⟩,g.hok.fresh (zA6 _),λ y c h=>?_,λ p m=>absurd (show p∈([]:List (γ×Obj)) from m) (by simp),g.hok.kept D,?_⟩
 . exact name_of_addr x.apart (PySem.mem_of_lookup t) (PySem.mem_of_lookup d)
 . have l:scope.names.lookup y=some .cell∨scope.names.lookup y=some .free:=l
   rcases l with l | l
   . exact qaj2 l
   exact absurd rfl (S.nofree _ (PySem.mem_of_lookup l))
 . exact Nat.le_of_lt (x.above y c (PySem.mem_of_lookup h))
 . have B:i < vs.length:=by
     unfold start at d;by_cases B:i < vs.length
     . exact B
     rw[List.getElem?_append_right (by simpa using B)] at d;rw[List.getElem?_replicate] at d;split at d<;>cases d
   have J:vs[i]? = some v:=by
     unfold start at d;rw[zAr (by simpa using B),zB6] at d;cases e:vs[i]? with
     | none=>rw[e] at d;cases d
     | some a=>rw[e] at d;cases d;rfl
   obtain⟨u,F,L⟩:=r.get J;have m:ps[i]? = some y:=by
     rw[<- S.pre,List.getElem?_take_of_lt (by lia)];exact t
   have o:ps.Nodup:=by rw[<- S.pre];exact S.nd.sublist (zBm _ _)
   refine⟨u,L,?_⟩;rcases S.par y (zBa m) with k | k
   . exact .inl ⟨k,qW7 o m F k⟩
   obtain⟨c,e⟩:=qaj2 (n:=s.heap.objs.size+1) k;refine .inr ⟨.inl k,c,e,?_⟩;have q:=x.cell y c e;rw[qW9 o m F (by show scope.names.lookup y≠_;rw[k];decide)] at q;exact q
 . exact g.hok.fresh (Nat.le_of_lt (x.above y c (PySem.mem_of_lookup h)))
 unfold start;show _=N.length;rw[zA7,zAd,List.length_replicate];lia
theorem Jd{cm:Bool}{CX:CXT}{P:Program}{w:World}{K:W.Frag}{k:Nat}{f:γ}{name qual:Str}{params:Arguments}{scope:Scope}{B kV d C a D oc:V'}{F L:Option γ}{i:Array (Option V')}{ps:List Str}{sp:Sp}(M:K.lookup f=some ⟨oc,L,.func (W.fnOf name qual params body scope B kV d C F a D),i⟩)(j:W.codeIn K a qual=true)(S:qa8 N ps scope)(len:∀ vs H Q E,sp vs H Q E->vs.length=ps.length)(hbody:∀(A:Around)(outer:List Env)(s:δ)(H:Hp)(vs:List V)(Q:VK)(E:XK),L6 cm k (A.deeper (envOfC qual scope s.heap.objs.size f a))->sp vs H Q E ->
     ∃ t,PSs (Eu cm CX P w K mg base N qual scope f a A outer s H E) body t/\t { nx:=λ _ H'=>Q .non H',rt:=Q } (start N vs) H) :
   Eo cm P w K mg base CX (k+1) f (W.fnOf name qual params body scope B kV d C F a D) ps sp:=by
 refine⟨len,λ A outer s H args O vs Q E l g R r h=>?_⟩;have T:=len _ _ _ _ h;have KX:K.In s.heap:=g.mod.kin.keeps λ b o e=>(g.bs b o e).1
 have m:s.heap.NoLimit:=g.mod.nolimit.keeps λ b o e=>(g.bs b o e).1
 have hkind:∀ y∈ps.zip O,scope.names.lookup y.1=some .local∨(scope.names.lookup y.1=some .cell/\((cellsFrom (s.heap.objs.size+1) scope.names []).lookup y.1).isSome=true):=λ ⟨n,v⟩ U=>by
   rcases S.par n (List.of_mem_zip U).1 with q | q
   . exact .inl q
   exact .inr ⟨q,W.cellsFrom_some _ _ _ (.inl q)⟩
 refine codeAny_call_function l.depth (KX _ _ M) rfl S.co S.gen rfl (W.codeRec_of KX j) (R _ _ _ _ ?_);refine wpAny_newFunctionEnv_cells S.kind hkind λ X Y G x=>?_
 subst Y;refine⟨m.keeps x.toInCall.keep,codeAny_func ?_⟩;obtain⟨t,Z,hq⟩:=hbody A outer s H vs Q E (l.deeper _) h;have I:Ly (Eu cm CX P w K mg base N qual scope f a A outer s H E) [] (start N vs) H G:=qao4 S l.hd g T r x;refine K6 (Z [] G (start N vs) H _ I hq) (λ fl p c=>?_) λ e p c=>c
 have fin:∀{σ':St}{H':Hp}{v:V}{u:V'},Ly (Eu cm CX P w K mg base N qual scope f a A outer s H E) [] σ' H' p->Lv v u->Q v H'->CE outer P w H s Q u p :=
   λ{σ' H' v u} J z q=>⟨v,H',J.os,J.bare,J.base,J.hok,z,q⟩
 cases fl with
 | ret u =>
   obtain⟨v,σ',H',J,z,q⟩:=c;exact fin J z q
 | next =>
   obtain⟨σ',H',J,q⟩:=c;exact fin (v:=V.non) (u:=Value.none) J rfl q
 | brk =>
   obtain⟨_,_,_,q⟩:=c;exact False.elim q
 | cont =>
   obtain⟨_,_,_,q⟩:=c;exact False.elim q
section
variable{X:Cx}{x:Str}{p pos:Pos}{e:Expr}{es:List Expr}{t:TA}{id T:String}{r:List V->Hp->VK->Prop}
def tCB(r:List V->Hp->VK->Prop)(t:TA):TE:=λ σ H Q=>t σ H λ vs H1=>r vs H1 Q
theorem qaz3(c:CallR X (.builtin id) r)(d:Gl X x)(hm:X.mg x=none)(f:Ku x=some (.builtin id))(g:PA X (e::es) t)(i:x ≠ "__name__" := by decide)(a:N' x:=by decide)(j:Ko (e::es) X.env=(false,eval e X.env)::Ko es X.env:=by rfl)(b:(backTo pos (Ko es X.env)).any (·.1)=false:=by rfl):PE X (.Call (.Name x p) (e::es) [] pos) (tCB r t):=by
 intro E3 s σ H Q I h;refine wpAny_Call_Name_kw (qag2 I d hm f ?_ i a);exact PyProof.Rows.callWith_builtin1 (thn (g pos E3 s σ H _ I h) λ k l ⟨m,H1,I1,n,o⟩=>c E3 l σ H1 m k Q I1 n o) j b
theorem qan0(c:CallR X (.type T) r)(d:Gl X x)(hm:X.mg x=none)(f:Ku x=some (.type T))(g:PA X (e::es) t)(i:x ≠ "__name__" := by decide)(a:N' x:=by decide)(j:Ko (e::es) X.env=(false,eval e X.env)::Ko es X.env:=by rfl)(b:(backTo pos (Ko es X.env)).any (·.1)=false:=by rfl):PE X (.Call (.Name x p) (e::es) [] pos) (tCB r t):=by
 intro E3 s σ H Q I h;refine wpAny_Call_Name_kw (qag2 I d hm f ?_ i a);exact PyProof.Rows.callWith_type1 (thn (g pos E3 s σ H _ I h) λ k l ⟨m,H1,I1,n,o⟩=>c E3 l σ H1 m k Q I1 n o) j b
end
end L2
namespace HT
open PySem PyProof.Rows
section
noncomputable def sIx(n d:Nat):Option Int->Nat
 | none=>d
 | some v=>if v < 0 then (v+(n:Int)).toNat else min v.toNat n
theorem qad2(n d:Nat):sIx n d none=d:=rfl
theorem qas1(n d k:Nat):sIx n d (some (k:Int))=min k n:=by
 show (if (k:Int) < 0 then ((k:Int)+(n:Int)).toNat else min (k:Int).toNat n)=min k n;rw[if_neg (by lia),Int.toNat_natCast]
end
end HT
namespace L2
open PySem PySem.Spec PyProof.Rows
variable{its us:List V'}{n:Nat}{x:V}{α:Type}
abbrev TO:=St->Hp->(Option Int->Hp->Prop)->Prop
def PO(X:Cx)(e:Option Expr)(t:TO):Prop :=
 ∀(E3:List (γ×Obj))(s:δ)(σ:St)(H:Hp)(Q:Option Int->Hp->Prop),Ly X E3 σ H s->t σ H Q ->
   wpAny (model X.prog X.w) X.A (evalPart e X.env) (λ u s'=>∃ o H',Ly X E3 σ H' s'/\IsPart u o/\Q o H') X.xe s
def qaG1:TO:=λ _ H Q=>Q none H
def tPart(t:TE):TO:=λ σ H Q=>t σ H λ x H1=>∃ i,x=.int i/\Q (some i) H1
theorem qah1{ns:List Int}:∀{us:List V'},Lw (ns.map V.int) us->IntsAre us ns:=by
 induction ns with
 | nil=>intro us r;rw[List.map_nil] at r;cases r;exact .nil
 | cons n ns a =>
   intro us r;rw[zAw] at r;cases r with
   | cons b c =>
     obtain⟨t,e⟩:=b;subst e;exact .cons n t (a c)
section
variable{X:Cx}{e:Expr}{te:TE}{lo hi:Option Expr}{tl th:TO}{pos p2:Pos}
theorem qad9:PO X none qaG1:=by
 intro E3 s σ H Q I h;rw[evalPart_none];exact J' ⟨none,H,I,.none,h⟩
theorem qad8(h:PE X e te):PO X (some e) (tPart te):=by
 intro E3 s σ H Q I b;rw[evalPart_some];refine thn (h E3 s σ H _ I b) λ u f a=>?_
 obtain⟨x,H1,I1,c,d⟩:=a;obtain⟨i,rfl,q⟩:=d;obtain⟨t,rfl⟩:=c;exact⟨some i,H1,I1,.int i t,q⟩
def SlR(X:Cx)(r:V->Option Int->Option Int->Hp->VK->Prop):Prop :=
 ∀(E3:List (γ×Obj))(s:δ)(σ:St)(H:Hp)(x:V)(v vl vu:V')(lo hi:Option Int)(sl:γ)(Q:VK),Ly X E3 σ H s->Lv x v->s.heap.IsSliceOf sl vl vu .none->IsPart vl lo->IsPart vu hi->r x lo hi H Q ->
   ∃ T id,typeLookup (.type T) "__getitem__" = pure (some (.builtin id))/\s.TypeIs v T/\wpAny (model X.prog X.w) X.A (getItem v (.ref sl)) (EP X E3 σ Q) X.xe s
def tSl(r:V->Option Int->Option Int->Hp->VK->Prop)(te:TE)(tl th:TO):TE:=λ σ H Q=>te σ H λ x H1=>tl σ H1 λ l H2=>th σ H2 λ u H3=>r x l u H3 Q
theorem qF4{r:V->Option Int->Option Int->Hp->VK->Prop}(g:SlR X r)(i:PE X e te)(j:PO X lo tl)(k:PO X hi th):PE X (.Subscript e (.Slice lo hi none p2) pos) (tSl r te tl th):=by
 intro E3 s σ H Q I h;refine Subscript_ (thn (i E3 s σ H _ I h) λ v m a=>?_);obtain⟨x,H1,I1,n,o⟩:=a;refine wpAny_Slice (thn (j E3 m σ H1 _ I1 o) λ d p a=>?_);obtain⟨l,H2,I2,t,q2⟩:=a;refine thn (k E3 p σ H2 _ I2 q2) λ f c a=>?_
 obtain⟨u,H3,I3,y,z⟩:=a;rw[evalPart_none];refine J' ?_;have I4:Ly X E3 σ H3 { c with heap:=c.heap.push { cls:=.type "slice",data:=.fields #[d,f,.none] } }:=I3.kept (t':=c.toks) λ b F q=>zA2 _ q
 obtain⟨T,id,B,C,D⟩:=g E3 { c with heap:=c.heap.push { cls:=.type "slice",data:=.fields #[d,f,.none] } } σ H3 x v d f l u c.heap.objs.size Q I4 n (Heap.IsSliceOf.new ..) t y z;show wpAny (model X.prog X.w) X.A (subscriptTail e (.Slice lo hi none p2) v (.ref c.heap.objs.size)) (EP X E3 σ Q) X.xe { c with heap:=c.heap.push { cls:=.type "slice",data:=.fields #[d,f,.none] } };exact tail_any (ops:=[.ref c.heap.objs.size,v]) C B D (by with_unfolding_all rfl)
def Go(xs:List V)(lo hi:Option Int):List V:=(xs.drop (HT.sIx xs.length 0 lo)).take (HT.sIx xs.length xs.length hi - HT.sIx xs.length 0 lo)
theorem qaa8(xs:List V)(lo hi:Option Int):(Go xs lo hi).length<=xs.length:=by
 unfold Go;rw[zBg,List.length_drop];lia
end
noncomputable def ixN(n:Nat)(i:Int):Option Nat:=if 0<=i then (if i < n then some i.toNat else none) else if -(n:Int)<=i then some (i+n).toNat else none
def atI{α:Type}(xs:List α)(i:Int):Option α:=(ixN xs.length i).bind λ j=>xs[j]?
theorem qag9{i:Int}{j:Nat}(h:ixN n i=some j):seqIndex? i n=some j/\j < n/\-(n:Int)<=i/\i < n:=by
 unfold ixN at h;by_cases b:0<=i
 . rw[if_pos b] at h
   by_cases a:i < n
   . rw[if_pos a] at h
     have e:i.toNat=j:=Option.some.inj h;exact⟨by rw[seqIndex_of b a,e],by lia,by lia,a⟩
   rw[if_neg a] at h;cases h
 rw[if_neg b] at h;by_cases a:-(n:Int)<=i
 . rw[if_pos a] at h
   have e:(i+n).toNat=j:=Option.some.inj h;exact⟨by rw[seqIndex_neg (by lia) a,e],by lia,a,by lia⟩
 rw[if_neg a] at h;cases h
theorem qaj7{xs:List α}{i:Int}{v:α}(h:atI xs i=some v):∃ j,seqIndex? i xs.length=some j/\xs[j]? = some v/\j < xs.length/\-(xs.length:Int)<=i/\i < xs.length:=by
 unfold atI at h;cases e:ixN xs.length i with
 | none=>rw[e] at h;cases h
 | some j =>
   rw[e] at h;obtain⟨a,b,c,d⟩:=qag9 e;exact⟨j,a,h,b,c,d⟩
theorem qL7{xs:List α}{j:Nat}{v:α}(h:xs[j]? = some v):atI xs (j:Int)=some v:=by
 have a:j < xs.length:=(zA5.mp h).1;have e:ixN xs.length (j:Int)=some j:=by
   unfold ixN;rw[if_pos (by lia),if_pos (by lia)];simp
 unfold atI;rw[e];exact h
theorem qaE5(xs:List α)(v:α):atI (xs++[v]) (-1)=some v:=by
 have a:(xs++[v]).length=xs.length+1:=by simp
 have e:ixN (xs++[v]).length (-1)=some xs.length:=by
   unfold ixN;rw[a,if_neg (by decide),if_pos (by lia)];congr 1;lia
 unfold atI;rw[e];show (xs++[v])[xs.length]? = some v;simp
def qak3(b:Expr):Prop:=∀ o i,subscripted b false o i=operate [o,i] (getItem o i)
def IxR(X:Cx)(r:R2):Prop :=
 ∀(value slice:Expr)(E3:List (γ×Obj))(s:δ)(σ:St)(H:Hp)(x y:V)(v u:V')(Q:VK),Ly X E3 σ H s->Lv x v->Lv y u->r x y H Q ->
   subscripted slice false v u=operate [v,u] (getItem v u)->wpAny (model X.prog X.w) X.A (subscriptTail value slice v u) (EP X E3 σ Q) X.xe s
def MtR(X:Cx)(id:String)(r:V->List V->Hp->VK->Prop):Prop :=
 ∀(E3:List (γ×Obj))(s:δ)(σ:St)(H:Hp)(x:V)(xs:List V)(v:V')(us:List V')(Q:VK),Ly X E3 σ H s->Lv x v->Lw xs us->r x xs H Q ->
   wpAny (model X.prog X.w) X.A (call (.builtin id) (v::us)) (EP X E3 σ Q) X.xe s
section
variable{X:Cx}{a b:Expr}{ta tb:TE}{pos:Pos}
theorem IxR.or{r a:R2}(h:IxR X r)(h':IxR X a):IxR X (λ x y H Q=>r x y H Q∨a x y H Q):=by
 intro value slice E3 s σ H x y v u Q I b c q d;rcases q with q | q
 . exact h value slice E3 s σ H x y v u Q I b c q d
 exact h' value slice E3 s σ H x y v u Q I b c q d
theorem pe_ix{r:R2}(c:IxR X r)(d:PE X a ta)(e:PE X b tb)(f:qak3 b):PE X (.Subscript a b pos) (tOp r ta tb):=by
 intro E3 s σ H Q I h;exact Subscript_ (binT d e I h λ v u g x y H2 I2 i j q=>c a b E3 g σ H2 x y v u Q I2 i j q (f _ _))
def rIxL(K:W.Frag):R2:=λ x y H Q=>∃ p xs i v,x=.ref p/\y=.int i/\SqL K H p xs/\atI xs i=some v/\Q v H
def rIxT(K:W.Frag):R2:=λ x y H Q=>∃ p xs i v,x=.ref p/\y=.int i/\SqT K H p xs/\atI xs i=some v/\Q v H
def rIxS:R2:=λ x y H Q=>∃ z i c,x=.str z/\y=.int i/\z.length<=Kq/\atI z.cps.toList i=some c/\Q (.str ⟨#[c]⟩) H
theorem qaM1:IxR X (rIxL X.K):=by
 intro value slice E3 s σ H x y v u Q I l m h f;obtain⟨p,F,i,z,rfl,rfl,n,o,q⟩:=h;cases l;obtain⟨t,rfl⟩:=m;obtain⟨b,r,c,G⟩:=I.list n;obtain⟨j,a,A,J,B,C⟩:=qaj7 o;obtain⟨w,g,d⟩:=r.get A;have D:=r.length;have L:=qQ1;have fin:EP X E3 σ Q w s:=⟨z,H,I,d,q⟩
 by_cases k:0<=i
 . have e:i.toNat=j:=by
     rw[seqIndex_of k C] at a;exact Option.some.inj a
   exact item_listR c.isList k (by lia) (by rw[e];simpa using g) fin f
 have e:(i+(b.toArray.size:Int)).toNat=j:=by
   rw[seqIndex_neg (by lia) B] at a;rw[zA3,<- D];exact Option.some.inj a
 exact subscriptTail_builtinR (x:=w) c.isList.typeIs slot_list_getitem.lookup
   (wpAny_getItem_list_neg (Q:=λ r E=>r=w/\EP X E3 σ Q r E) c.isList (by lia) (by rw[zA3]<;>lia) (by lia) (by rw[e];simpa using g) ⟨rfl,fin⟩) f
theorem qaU6:IxR X (rIxT X.K):=by
 intro value slice E3 s σ H x y v u Q I c d h e;obtain⟨p,B,i,z,rfl,rfl,f,g,q⟩:=h;cases c;obtain⟨t,rfl⟩:=d;obtain⟨k,r,b,C⟩:=I.tuple f;obtain⟨j,l,m,D,E,F⟩:=qaj7 g;obtain⟨w,n,a⟩:=r.get m;have o:=r.length;have G:=qQ1;have fin:EP X E3 σ Q w s:=⟨z,H,I,a,q⟩
 exact subscriptTail_builtinR (x:=w) b.typeIs slot_tuple_getitem.lookup
   (getItem_tuple (j:=j) (Q:=λ r A=>r=w/\EP X E3 σ Q r A) b (by lia) (by lia) (by rw[zA3,<- o];exact l) (by simpa using n) ⟨rfl,fin⟩) e
theorem qaU7:IxR X rIxS:=by
 intro value slice E3 s σ H x y v u Q I b d h e;obtain⟨z,i,c,rfl,rfl,o,f,q⟩:=h;obtain⟨t,rfl⟩:=b;obtain⟨p,rfl⟩:=d;obtain⟨j,a,g,r,k,l⟩:=qaj7 f;have m:z.cps.toList.length=z.length:=by simp[Str.length]
 rw[m] at a k l;have w:=qQ1;exact tail_any (typeIs_str s z t) slot_str_getitem.lookup (getItem_str (c:=c) (by
   have n:decide (i < -(2 ^ 63:Int))=false:=zB2 (by lia);have e2:decide (i ≥ 2 ^ 63)=false:=zB2 (by lia);rw[n,e2,Bool.or_false]) (by rw[a];simpa using g) ⟨.str ⟨#[c]⟩,H,I.tok _,⟨_,rfl⟩,q⟩) e
def rIx(K:W.Frag):R2:=λ x y H Q=>rIxL K x y H Q∨rIxT K x y H Q∨rIxS x y H Q
theorem qb6:IxR X (rIx X.K):=qaM1.or (qaU6.or qaU7)
theorem qaf7(its:List V')(n j:Nat)(u:V'):Obj.mapSeq (·.setIfInBounds j u) { cls:=.type "list",data:=.seq its.toArray n }={ cls:=.type "list",data:=.seq (its.set j u).toArray n }:=by
 simp[Obj.mapSeq]
theorem Ly.l{E3:List (γ×Obj)}{σ:St}{H:Hp}{s:δ}{p:γ}{xs:List V}(I:Ly X E3 σ H s)(h:H p=some (.l xs)) :
   ∃(its:List V')(n:Nat),Lw xs its/\s.heap.get? p=some { cls:=.type "list",data:=.seq its.toArray n }/\xs.length<=Kq:=by
 obtain⟨z,its,n,r,e⟩:=I.hok p _ h;exact⟨its,n,r,e,z⟩
theorem Ly.lstUpd{E3:List (γ×Obj)}{σ:St}{H:Hp}{s:δ}{p:γ}{xs ys:List V}{its':List V'}{a:Nat}{f:Obj->Obj}(I:Ly X E3 σ H s)(h:H p=some (.l xs))(d:s.heap.get? p=some { cls:=.type "list",data:=.seq its.toArray n })(c:f { cls:=.type "list",data:=.seq its.toArray n }={ cls:=.type "list",data:=.seq its'.toArray a })(r:Lw ys its')(g:ys.length<=Kq)(t:Nat) :
   Ly X E3 σ (upd H p (.l ys)) { s with heap:=s.heap.update p f,toks:=t }:=by
 have e:(s.heap.update p f).get? p=some { cls:=.type "list",data:=.seq its'.toArray a }:=by
   rw[zBk f d (by rw[c]<;>rfl),c]
 refine I.write (x:=p) (e:=p) (by rw[h];trivial) (.inl rfl) (λ b u i q=>(zBb _ _ (Ne.symm i)).trans q) ⟨_,e⟩ ?_;exact⟨g,its',a,r,e⟩
def rSetL:V->V->V->Hp->(Hp->Prop)->Prop:=λ o i v H Q=>∃ p xs k j,o=.ref p/\i=.int k/\H p=some (.l xs)/\ixN xs.length k=some j/\Q (upd H p (.l (xs.set j v)))
theorem qac7:PSet X rSetL:=by
 intro E3 s σ H o i v C D u Q I w x y h;obtain⟨p,z,k,j,rfl,rfl,f,A,q⟩:=h;cases w;obtain⟨t,rfl⟩:=x;obtain⟨a,n,r,c,B⟩:=I.l f;obtain⟨b,E,g,l⟩:=qag9 A;have d:=r.length;have F:=qQ1;have I':Ly X E3 σ (upd H p (.l (z.set j v))) { s with heap:=s.heap.update p (Obj.mapSeq (·.setIfInBounds j u)) } :=
   I.lstUpd f c (qaf7 a n j u) (r.set y j) (by rw[List.length_set];exact B) s.toks
 by_cases m:0<=k
 . have e:k.toNat=j:=by
     rw[seqIndex_of m l] at b;exact Option.some.inj b
   exact W.ki_setAt c m (by lia) (by rw[zA3,<- d];exact l) (by rw[e];exact⟨_,I',q⟩)
 have e:(k+(a.toArray.size:Int)).toNat=j:=by
   rw[seqIndex_neg (by lia) g] at b;rw[zA3,<- d];exact Option.some.inj b
 exact W.ki_setBack c (by lia) (by rw[zA3,<- d];exact g) (by lia) (by rw[e];exact⟨_,I',q⟩)
theorem qN9(lo hi:Option Int)(n:Nat):(sliceBounds lo hi none n).1=((HT.sIx n 0 lo:Nat):Int)/\(sliceBounds lo hi none n).2.1=((HT.sIx n n hi:Nat):Int)/\(sliceBounds lo hi none n).2.2=1:=by
 refine⟨?_,?_,rfl⟩
 . cases lo with
   | none=>simp[sliceBounds,HT.sIx]
   | some i =>
     simp only[sliceBounds,HT.sIx,Option.getD_none,show (1:Int) > 0 by decide,if_true];by_cases h:i < 0
     . simp only[h,if_true]<;>lia
     simp only[h,if_false]<;>lia
 cases hi with
 | none=>simp[sliceBounds,HT.sIx]
 | some i =>
   simp only[sliceBounds,HT.sIx,Option.getD_none,show (1:Int) > 0 by decide,if_true];by_cases h:i < 0
   . simp only[h,if_true]<;>lia
   simp only[h,if_false]<;>lia
theorem qI1(its:List V')(lo hi:Option Int):slicePick its.toArray lo hi none=((its.drop (HT.sIx its.length 0 lo)).take (HT.sIx its.length its.length hi - HT.sIx its.length 0 lo)).toArray:=by
 obtain⟨a,b,c⟩:=qN9 lo hi its.toArray.size;unfold slicePick;rw[a,b,c];simp only[sliceRange_one,pick_run,zA3]<;>rfl
def rSlL(K:W.Frag):V->Option Int->Option Int->Hp->VK->Prop:=λ x lo hi H Q=>∃ a xs,x=.ref a/\SqL K H a xs/\∀ p,H p=none->Q (.ref p) (upd H p (.l (Go xs lo hi)))
theorem qS3:SlR X (rSlL X.K):=by
 intro E3 s σ H x v t u e f w Q I i j k l h;obtain⟨a,c,rfl,m,q⟩:=h;cases i;obtain⟨n,r,g,p⟩:=I.list m;have d:=r.length;refine⟨"list",_,slot_list_getitem.lookup,g.isList.typeIs,?_⟩;refine wpAny_getItem_list_slice g.isList j k l .none (by simp) ?_ (by rw[zA3]<;>lia);rw[qI1,<- d];refine⟨.ref s.heap.objs.size,_,I.laid (t':=s.toks) (o:=.l (Go c e f)) (λ b y q=>zA2 _ q) (zA6 _) ?_,rfl,q _ (I.hok.fresh (zA6 _))⟩;exact⟨zAp (qaa8 c e f) p,_,0,(r.drop (HT.sIx c.length 0 e)).take (HT.sIx c.length c.length f - HT.sIx c.length 0 e),zAu _ rfl⟩
noncomputable def flatV:V->Bool
 | .non=>true
 | .bl _=>true
 | .int _=>true
 | .str _=>true
 | _=>false
noncomputable def eqV:V->V->Bool
 | .non,.non=>true
 | .bl a,.bl b=>a == b
 | .bl a,.int b=>(if a then 1 else 0) == b
 | .int a,.bl b=>a == (if b then 1 else 0)
 | .int a,.int b=>a == b
 | .str a,.str b=>a == b
 | _,_=>false
theorem qaN8{A:Around}{s:δ}{y:V}{u v:V'}(e:Lv y u)(c:Lv x v)(g:flatV y=true)(f:flatV x=true):SeqAt.EqAt A s u v (eqV y x):=by
 cases y with
 | non =>
   cases e;cases x with
   | non=>cases c;exact SeqAt.EqAt.same _
   | bl b=>cases c;exact SeqAt.EqAt.none_bool b
   | int b=>obtain⟨t,rfl⟩:=c;exact SeqAt.EqAt.none_int b t
   | str b=>obtain⟨t,rfl⟩:=c;exact SeqAt.EqAt.none_str b t
   | _=>exact absurd (show false=true from f) zAk
 | bl a =>
   cases e;cases x with
   | non=>cases c;exact SeqAt.EqAt.bool_none a
   | bl b=>cases c;exact SeqAt.EqAt.bool_bool a b
   | int b=>obtain⟨t,rfl⟩:=c;exact SeqAt.EqAt.bool_int a b t
   | str b=>obtain⟨t,rfl⟩:=c;exact SeqAt.EqAt.bool_str a b t
   | _=>exact absurd (show false=true from f) zAk
 | int a =>
   obtain⟨d,rfl⟩:=e;cases x with
   | non=>cases c;exact SeqAt.EqAt.int_none a d
   | bl b=>cases c;exact SeqAt.EqAt.int_bool a d b
   | int b=>obtain⟨t,rfl⟩:=c;exact SeqAt.EqAt.int_int a d b t
   | str b=>obtain⟨t,rfl⟩:=c;exact SeqAt.EqAt.int_str a d b t
   | _=>exact absurd (show false=true from f) zAk
 | str a =>
   obtain⟨d,rfl⟩:=e;cases x with
   | non=>cases c;exact SeqAt.EqAt.str_none a d
   | bl b=>cases c;exact SeqAt.EqAt.str_bool a d b
   | int b=>obtain⟨t,rfl⟩:=c;exact SeqAt.EqAt.str_int a d b t
   | str b=>obtain⟨t,rfl⟩:=c;exact SeqAt.EqAt.str_str a d b t
   | _=>exact absurd (show false=true from f) zAk
 | _=>exact absurd (show false=true from g) zAk
def eqU(x:V)(u:V'):Bool:=match u with
 | .none=>eqV .non x
 | .bool b=>eqV (.bl b) x
 | .int i _=>eqV (.int i) x
 | .str z _=>eqV (.str z) x
 | _=>false
theorem qap7{y:V}{u:V'}(r:Lv y u)(f:flatV y=true):eqU x u=eqV y x:=by
 cases y with
 | non=>cases r;rfl
 | bl b=>cases r;rfl
 | int i=>obtain⟨t,rfl⟩:=r;rfl
 | str z=>obtain⟨t,rfl⟩:=r;rfl
 | _=>exact absurd (show false=true from f) zAk
theorem qL9{x:V}:∀{xs:List V}{us:List V'},Lw xs us->xs.all flatV=true->us.any (eqU x)=xs.any λ y=>eqV y x
 | _,_,.nil,_=>rfl
 | y::xs,u::us,.cons r t,f=>by
   rw[List.all_cons,zB4] at f;rw[zBz,zBz,qap7 r f.1,qL9 t f.2]
theorem qn8{A:Around}{s:δ}{x:V}{v:V'}(b:Lv x v)(c:flatV x=true):∀{xs:List V}{us:List V'},Lw xs us->xs.all flatV=true->∀ u∈us,SeqAt.EqAt A s u v (eqU x u)
 | _,_,.nil,_=>λ u a=>by cases a
 | y::xs,u::us,.cons r t,f=>λ d a=>by
   rw[List.all_cons,zB4] at f;rcases zAm.mp a with rfl | a
   . rw[qap7 r f.1];exact qaN8 r b f.1 c
   exact qn8 b c t f.2 d a
def inV(x:V)(xs:List V):Bool:=xs.any λ y=>eqV y x
def rIn(K:W.Frag)(neg:Bool):R2:=λ x y H Q=>∃ p xs,y=.ref p/\(SqL K H p xs∨SqT K H p xs)/\flatV x=true/\xs.all flatV=true/\Q (.bl (if neg then !inV x xs else inV x xs)) H
theorem qv4:OpR X (Kr .In) (rIn X.K false):=by
 intro E3 s σ H x y v u Q I f i h;obtain⟨p,k,rfl,b,g,c,q⟩:=h;cases i;rcases b with b | b
 . obtain⟨a,r,d,j⟩:=I.list b
   refine SeqAt.in_listAt (eqU x) d.isList (λ w e=>qn8 f g r c w (by simpa using e)) ⟨.bl _,H,I,rfl,?_⟩;rw[show a.toArray.any (eqU x)=a.any (eqU x) by simp,qL9 r c];exact q
 obtain⟨a,r,d,j⟩:=I.tuple b;refine SeqAt.in_tupleAt (eqU x) d (λ w e=>qn8 f g r c w (by simpa using e)) ⟨.bl _,H,I,rfl,?_⟩;rw[show a.toArray.any (eqU x)=a.any (eqU x) by simp,qL9 r c];exact q
theorem qn3:OpR X (Kr .NotIn) (rIn X.K true):=by
 intro E3 s σ H x y v u Q I f i h;obtain⟨p,k,rfl,b,g,c,q⟩:=h;cases i;rcases b with b | b
 . obtain⟨a,r,d,j⟩:=I.list b
   refine SeqAt.notIn_listAt (eqU x) d.isList (λ w e=>qn8 f g r c w (by simpa using e)) ⟨.bl _,H,I,rfl,?_⟩;rw[show a.toArray.any (eqU x)=a.any (eqU x) by simp,qL9 r c];exact q
 obtain⟨a,r,d,j⟩:=I.tuple b;refine SeqAt.notIn_tupleAt (eqU x) d (λ w e=>qn8 f g r c w (by simpa using e)) ⟨.bl _,H,I,rfl,?_⟩;rw[show a.toArray.any (eqU x)=a.any (eqU x) by simp,qL9 r c];exact q
theorem qR5:CallR X (.builtin "len") (λ xs H Q=>∃ p ys,xs=[.ref p]/\(SqL X.K H p ys∨SqT X.K H p ys)/\Q (.int ys.length) H):=by
 intro E3 s σ H xs i Q I r h;obtain⟨p,ys,rfl,b,q⟩:=h;obtain⟨u,rfl,f⟩:=B8 r;cases f;have j:=qQ1;rcases b with b | b
 . obtain⟨c,d,e,g⟩:=I.list b
   have a:=d.length;exact Calls.call_len_list e.isList (by simp only[zA3]<;>lia) ⟨.int ys.length,H,I.tok _,⟨s.toks+1,by rw[zA3,a]⟩,q⟩
 obtain⟨c,d,e,g⟩:=I.tuple b;have a:=d.length;exact len_tuple e (by simp only[zA3]<;>lia) ⟨.int ys.length,H,I.tok _,⟨s.toks+1,by rw[zA3,a]⟩,q⟩
theorem qR4:CallR X (.builtin "len") (λ xs H Q=>∃ z,xs=[.str z]/\z.length<=Kq/\Q (.int z.length) H):=by
 intro E3 s σ H xs a Q I r h;obtain⟨z,rfl,b,q⟩:=h;obtain⟨u,rfl,t,rfl⟩:=B8 r;have c:=qQ1;exact len_str (by lia) ⟨.int z.length,H,I.tok _,⟨_,rfl⟩,q⟩
theorem CallR.or{f:V'}{r a:List V->Hp->VK->Prop}(h:CallR X f r)(h':CallR X f a):CallR X f (λ xs H Q=>r xs H Q∨a xs H Q):=by
 intro E3 s σ H xs b Q I c q;rcases q with q | q
 . exact h E3 s σ H xs b Q I c q
 exact h' E3 s σ H xs b Q I c q
theorem qh0:CallR X (.type "list") (λ xs H Q=>∃ p ys,xs=[.ref p]/\(SqL X.K H p ys∨SqT X.K H p ys)/\∀ l,H l=none->Q (.ref l) (upd H l (.l ys))):=by
 intro E3 s σ H xs A Q I r h;obtain⟨p,ys,rfl,g,q⟩:=h;obtain⟨u,rfl,z⟩:=B8 r;cases z;have fin:∀(a:List V'),Lw ys a->ys.length<=Kq->∀(c:Heap)(d:Nat),(∀ b y,s.heap.get? b=some y->c.get? b=some y) ->
     c.get? s.heap.objs.size=some { cls:=.type "list",dict:=none,data:=.seq a.toArray d,slots:=#[] }->EP X E3 σ Q (.ref s.heap.objs.size) { s with heap:=c }:=λ a f i c d j e =>
   ⟨.ref s.heap.objs.size,_,I.laid (t':=s.toks) j (zA6 _) (show ObjOk X.prog X.w _ c _ (.l ys) from⟨i,a,d,f,e⟩),rfl,q _ (I.hok.fresh (zA6 _))⟩
 rcases g with g | g
 . obtain⟨a,f,m,i⟩:=I.list g
   have k:=f.length;obtain⟨o,t,v,n,x⟩:=m.isList;exact call_list_seq p (.inl rfl) t v x (λ c d j e=>fin a f i c d j e) (by simp only[zA3]<;>lia)
 obtain⟨a,f,m,i⟩:=I.tuple g;have k:=f.length;obtain⟨o,t,v,n,x⟩:=m;exact call_list_seq p (.inr rfl) t v x (λ c d j e=>fin a f i c d j e) (by simp only[zA3]<;>lia)
def tyV(K:W.Frag)(T:String)(x:V)(H:Hp):Prop:=match x with
 | .str _=>T = "str"
 | .int _=>T = "int"
 | .ref p=>(T = "list" /\ ∃ xs,SqL K H p xs)∨(T = "tuple" /\ ∃ o,K.lookup p=some o/\o.cls=.type "tuple" /\ o.dict=none) ∨
     (T = "dict" /\ ((∃ kvs,H p=some (.dK kvs))∨∃ kvs,H p=some (.dT kvs)))∨(T = "set" /\ ∃ S n,H p=some (.set S n))
 | _=>False
theorem qaF5{E3:List (γ×Obj)}{σ:St}{H:Hp}{s:δ}{T:String}{v:V'}(I:Ly X E3 σ H s)(r:Lv x v)(ty:tyV X.K T x H) :
   s.TypeIs v T/\∀ a,v=.ref a->∃ ob,s.heap.get? a=some ob/\ob.dict=none:=by
 cases x with
 | str z =>
   obtain⟨t,rfl⟩:=r;cases (show T = "str" from ty);exact⟨typeIs_str s z t,λ _ e=>nomatch e⟩
 | int i =>
   obtain⟨t,rfl⟩:=r;cases (show T = "int" from ty);exact⟨typeIs_int s i t,λ _ e=>nomatch e⟩
 | ref p =>
   cases r;rcases ty with⟨rfl,xs,hq⟩ | ⟨rfl,o,hk,hc,d⟩ | ⟨rfl,hk⟩ | ⟨rfl,S,n,hk⟩
   . obtain⟨g,_,f,_⟩:=I.list hq
     refine⟨f.isList.typeIs,λ a e=>?_⟩;cases e;obtain⟨o,n,e,c,d,_⟩:=f;exact⟨o,e,d⟩
   . refine⟨⟨o,I.kIn p o hk,hc⟩,λ a e=>?_⟩
     cases e;exact⟨o,I.kIn _ o hk,d⟩
   . have z:∃ o,s.heap.get? p=some o/\o.ExactDict:=by
       rcases hk with⟨kvs,hk⟩ | ⟨kvs,hk⟩
       . obtain⟨_,_,_,_,o,_,_,e,b,_⟩:=I.hok p _ hk
         exact⟨o,e,b⟩
       obtain⟨_,_,_,_,o,_,_,e,b,_⟩:=I.hok p _ hk;exact⟨o,e,b⟩
     obtain⟨o,e,b⟩:=z;refine⟨⟨o,e,b.1⟩,λ a e2=>?_⟩;cases e2;exact⟨o,e,b.2.1⟩
   obtain⟨o,_,_,_,e,b,_⟩:=I.hok p _ hk;refine⟨⟨o,e,b.1⟩,λ a e2=>?_⟩;cases e2;exact⟨o,e,b.2.1⟩
 | _=>exact False.elim ty
def tBM0(K:W.Frag)(T:String)(r:V->List V->Hp->VK->Prop)(to:TE):TE:=λ σ H Q=>to σ H λ x H1=>tyV K T x H1/\r x [] H1 Q
def tBM(K:W.Frag)(T:String)(r:V->List V->Hp->VK->Prop)(to:TE)(t:TA):TE:=λ σ H Q=>to σ H λ x H1=>tyV K T x H1/\t σ H1 λ xs H2=>r x xs H2 Q
variable{o e:Expr}{es:List Expr}{to:TE}{t:TA}{name:Str}{apos cpos:Pos}{T id:String}{r:V->List V->Hp->VK->Prop}
theorem qaJ2(d:PlainAttrs T)(slot:Slot T name id)(a:typeOf (.builtin id)=pure (.type "method_descriptor"))(hm:MtR X id r)(e:PE X o to)(hbase:Kw o name X.env (eval o X.env)=eval o X.env:=by rfl)(hline:(apos.endLine == cpos.line)=true:=by rfl):PE X (.Call (.Attribute o name apos) [] [] cpos) (tBM0 X.K T r to):=by
 intro E3 s σ H Q I h;refine wpAny_Call_method0_late hbase hline (thn (e E3 s σ H _ I h) λ v f b=>?_);obtain⟨x,H1,I1,c,g,i⟩:=b;obtain⟨j,k⟩:=qaF5 I1 c g;exact⟨T,id,d,slot,a,j,k,Calls.callWith_builtin rfl (PySem.evalArgs_none (hm E3 f σ H1 x [] v [] Q I1 c .nil i))⟩
theorem Hj(g:PlainAttrs T)(slot:Slot T name id)(b:typeOf (.builtin id)=pure (.type "method_descriptor"))(hm:MtR X id r)(i:PE X o to)(j:PA X (e::es) t)(hbase:Kw o name X.env (eval o X.env)=eval o X.env:=by rfl)(a:((backTo cpos (Ko (e::es) X.env)).all (λ x=>!x.1)&&(backToKw cpos (K5 [] X.env)).all (λ x=>x.1.isSome)
     && decide ((e::es).length+([]:List Keyword).length+(if ([]:List Keyword).isEmpty then 0 else 1) < 30))=true:=by rfl)(hline:(apos.endLine == cpos.line)=true:=by rfl)(k:Ko (e::es) X.env=(false,eval e X.env)::Ko es X.env:=by rfl)(hplain:(backTo cpos (Ko es X.env)).any (·.1)=false:=by rfl) :
   PE X (.Call (.Attribute o name apos) (e::es) [] cpos) (tBM X.K T r to t):=by
 intro E3 s σ H Q I h;refine wpAny_Call_method_late hbase a hline rfl (thn (i E3 s σ H _ I h) λ v l c=>?_);obtain⟨x,H1,I1,d,m,n⟩:=c;obtain⟨p,q⟩:=qaF5 I1 d m;refine⟨T,id,g,slot,b,p,q,?_⟩;have f:=j cpos E3 l σ H1 _ I1 n;rw[k] at f ⊢;refine Calls.callWith_builtin (by show (false||(backTo cpos (Ko es X.env)).any (·.1))=false;rw[hplain]<;>rfl) (Calls.evalArgs_plain ?_);exact thn f λ u w ⟨y,H2,I2,z,q2⟩=>hm E3 w σ H2 x y v u Q I2 d z q2
/- xs.append(e),list.index on a module's tuple .. are MtR facts of 06m -/
end
def MtM(X:Cx)(id:String)(r:V->List V->Hp->VK->Prop):Prop :=
 ∀(E3:List (γ×Obj))(s:δ)(σ:St)(H:Hp)(x:V)(xs:List V)(v:V')(us:List V')(Q:VK),Ly X E3 σ H s->Lv x v->Lw xs us->r x xs H Q ->
   wpAny (model X.prog X.w) X.A (call (.builtin id) (v::us)) (EP X E3 σ Q) X.xe s
theorem Lw.one(h:Lw [x] us):∃ u,us=[u]/\Lv x u:=by
 cases h with
 | cons r t=>cases t;exact⟨_,rfl,r⟩
theorem Lw.two{y:V}(h:Lw [x,y] us):∃ u v,us=[u,v]/\Lv x u/\Lv y v:=by
 cases h with
 | cons r t =>
   cases t with
   | cons q t=>cases t;exact⟨_,_,rfl,r,q⟩
theorem Lw.zero:∀{us:List V'},Lw [] us->us=[]
 | _,.nil=>rfl
theorem Lw.dropLast{xs:List V}(h:Lw xs us):Lw xs.dropLast us.dropLast:=by
 induction h with
 | nil=>exact .nil
 | cons r t a =>
   cases t with
   | nil=>exact .nil
   | cons q b=>exact .cons r a
theorem Lw.eraseIdx:∀{xs:List V}{us:List V'}(i:Nat),Lw xs us->Lw (xs.eraseIdx i) (us.eraseIdx i)
 | _,_,_,.nil=>.nil
 | _,_,0,.cons _ t=>t
 | _,_,i+1,.cons r t=>.cons r (Lw.eraseIdx i t)
theorem Lw.rep{xs:List V}{us:List V'}(h:Lw xs us):∀ k:Nat,Lw (List.replicate k xs).flatten (List.replicate k us).flatten
 | 0=>.nil
 | k+1=>by
   rw[zBi,zBi,zBx,zBx];exact Lw.append h (Lw.rep h k)
theorem qai7(l:List α):l.eraseIdx (l.length - 1)=l.dropLast:=by
 induction l with
 | nil=>rfl
 | cons a r c =>
   cases r with
   | nil=>rfl
   | cons b r =>
     have e:(a::b::r).length - 1=((b::r).length - 1)+1:=by
       have d:(a::b::r).length=r.length+2:=rfl;have f:(b::r).length=r.length+1:=rfl;lia
     rw[e,List.eraseIdx_cons_succ,c]
     all_goals rfl
theorem qU8(its:List V'):∀(k:Nat)(acc:List V'),
   List.foldl (λ a b=>a++b) acc.toArray (List.replicate k its.toArray)=(acc++(List.replicate k its).flatten).toArray
 | 0,acc=>by simp
 | k+1,acc=>by
   have e:acc.toArray++its.toArray=(acc++its).toArray:=by simp
   have e2:(acc++its)++(List.replicate k its).flatten=acc++(List.replicate (k+1) its).flatten:=by
     rw[zBi,zBx,zB8]
   rw[<- e2,<- qU8 its k (acc++its),<- e,zBi,List.foldl_cons]
section
variable{X:Cx}{E3:List (γ×Obj)}{σ:St}{H:Hp}{s:δ}{l:γ}{xs ys:List V}
theorem Ly.lset{its':List V'}{f:Array V'->Array V'}{t':Nat}(I:Ly X E3 σ H s)(a:H l=some (.l xs))(e:s.heap.get? l=some { cls:=.type "list",data:=.seq its.toArray n })(b:f its.toArray=its'.toArray)(c:Lw ys its')(d:ys.length<=Kq) :
   Ly X E3 σ (upd H l (.l ys)) { s with heap:=s.heap.update l (Obj.mapSeq f),toks:=t' }:=by
 have q:=PySem.IsL.update e f;rw[b] at q;refine I.write (x:=l) (e:=l) (by rw[a];exact trivial) (.inl rfl) (λ i u g h=>(zBb s.heap (Obj.mapSeq f) (Ne.symm g)).trans h) ⟨_,q⟩ ?_;exact⟨d,its',_,c,q⟩
theorem Ly.lnew{t':Nat}(I:Ly X E3 σ H s)(a:Lw ys its)(b:ys.length<=Kq) :
   Ly X E3 σ (upd H s.heap.objs.size (.l ys)) { s with heap:=s.heap.push { cls:=.type "list",data:=.seq its.toArray },toks:=t' } :=
 I.laid (λ _ _ q=>zA2 _ q) (zA6 _) ⟨b,its,0,a,zAu _ rfl⟩
theorem Ly.fresh(I:Ly X E3 σ H s):H s.heap.objs.size=none:=I.hok.fresh (zA6 _)
theorem Ly.lstM(I:Ly X E3 σ H s)(a:H l=some (.l xs)):xs.length<=Kq/\∃(its:List V')(n:Nat),Lw xs its/\xs.length=its.length/\s.heap.get? l=some { cls:=.type "list",data:=.seq its.toArray n }:=by
 obtain⟨z,its,n,r,e⟩:=I.hok l _ a;exact⟨z,its,n,r,r.length,e⟩
theorem qaA4(h:n<=Kq):Builtin.List.listTooLong n=false:=by
 unfold Builtin.List.listTooLong;exact zB2 (by lia)
end
section
variable{X:Cx}
def qas8:V->List V->Hp->VK->Prop:=λ x vs H Q=>∃ l xs y,x=.ref l/\vs=[y]/\H l=some (.l xs)/\xs.length < Kq/\Q .non (upd H l (.l (xs++[y])))
theorem qc6:MtM X "list.append" qas8:=by
 intro E3 s σ H x g v i Q I c d h;obtain⟨l,j,y,rfl,rfl,b,k,q⟩:=h;cases c;obtain⟨u,rfl,f⟩:=d.one;obtain⟨z,a,n,r,m,e⟩:=I.lstM b;refine K9 F.slot_list_append ⟨_,e,rfl⟩ F.entry_list_append (F.args_list_append_2 _ _) (PySem.list_append l a.toArray n u (by rw[zA3];lia)) ⟨e,?_⟩;refine⟨.non,_,I.lset (its':=a++[u]) b e (by simp) (r.append (.cons f .nil)) ?_,rfl,q⟩;rw[zA7,List.length_singleton];lia
def rPop:V->List V->Hp->VK->Prop:=λ x vs H Q=>∃ l xs y,x=.ref l/\vs=[]/\H l=some (.l xs)/\xs[xs.length - 1]? = some y/\Q y (upd H l (.l xs.dropLast))
theorem qaL0:MtM X "list.pop" rPop:=by
 intro E3 s σ H x o v p Q I f g h;obtain⟨l,t,y,rfl,rfl,d,i,q⟩:=h;cases f;have b:=g.zero;subst b;obtain⟨z,a,n,r,j,e⟩:=I.lstM d;obtain⟨u,k,m⟩:=r.get i;have c:a.toArray[a.toArray.size - 1]? = some u:=by
   show a.toArray[a.length - 1]? = some u;rw[<- Array.getElem?_toList,<- j];exact k
 refine K9 F.slot_list_pop ⟨_,e,rfl⟩ F.entry_list_pop (F.args_list_pop_1 _) (MeetsSeq.list_pop_last l a.toArray n u c (by rw[zA3];lia)) ⟨e,?_⟩;refine⟨y,_,I.lset (its':=a.dropLast) d e ?_ r.dropLast ?_,m,q⟩
 . show a.toArray.eraseIdxIfInBounds (a.toArray.size - 1)=a.dropLast.toArray
   rw[zA3,List.eraseIdxIfInBounds_toArray,qai7]
 rw[List.length_dropLast];lia
def rCat:R2:=λ x y H Q=>∃ l b xs a,x=.ref l/\y=.ref b/\H l=some (.l xs)/\H b=some (.l a)/\xs.length+a.length<=Kq/\∀ p,H p=none->Q (.ref p) (upd H p (.l (xs++a)))
theorem qaT4:OpR X (Lb .Add) rCat:=by
 intro E3 s σ H x y v u Q I c d h;obtain⟨l,b,m,o,rfl,rfl,f,g,p,q⟩:=h;cases c;cases d;obtain⟨z,a,n,r,t,e⟩:=I.lstM f;obtain⟨w,its2,A,i,j,e2⟩:=I.lstM g;refine PySem.P.add_list e e2 ?_ (by rw[zA3,zA3];lia);have k:a.toArray++its2.toArray=(a++its2).toArray:=by simp
 rw[k];exact⟨.ref _,_,I.lnew (t':=s.toks) (r.append i) (by rw[zA7];lia),rfl,q _ I.fresh⟩
def rRep:R2:=λ x y H Q=>∃ l k xs,x=.ref l/\y=.int k/\H l=some (.l xs)/\-(2 ^ 63)<=k/\k < 2 ^ 63/\xs.length * k.toNat<=Kq /\
 ∀ p,H p=none->Q (.ref p) (upd H p (.l (List.replicate k.toNat xs).flatten))
theorem qaL5(xs:List α)(k:Nat):(List.replicate k xs).flatten.length=k * xs.length:=by
 induction k with
 | zero=>simp
 | succ k a=>rw[zBi,zBx,zA7,a,Nat.succ_mul,Nat.add_comm]
theorem qaS6:OpR X (Lb .Mult) rRep:=by
 intro E3 s σ H x y v u Q I p w h;obtain⟨l,k,J,rfl,rfl,A,B,C,o,q⟩:=h;cases p;obtain⟨t,rfl⟩:=w;obtain⟨z,b,n,r,D,e⟩:=I.lstM A;have c:b.toArray.size * k.toNat<=Kq:=by rw[zA3,<- D];exact o
 have d:¬ b.toArray.size * k.toNat > (2 ^ 63 - 1) / 8:=by
   have:(Kq:Nat)<=(2 ^ 63 - 1) / 8:=by decide
   lia
 have f:¬ (!Builtin.List.listFitsIndex k)=true:=by
   rw[fitsIndex_both B C];exact zAk
 have hlong:¬ Builtin.List.listTooLong (b.toArray.size * k.toNat)=true:=by
   rw[qaA4 c];exact zAk
 have g:List.foldl (λ i j=>i++j) #[] (List.replicate (if b.toArray.isEmpty=true then 0 else k.toNat) b.toArray)=(List.replicate k.toNat b).flatten.toArray:=by
   have E:∀ m:Nat,List.foldl (λ i j=>i++j) #[] (List.replicate m b.toArray)=(List.replicate m b).flatten.toArray:=λ m=>by
     have:=qU8 b m []
     rw[zAz] at this;exact this
   rw[E];cases b with
   | nil=>simp
   | cons a K=>rw[if_neg (by simp)]
 refine wpAny_binaryOp_repeat_ref (T := "list") (U := "int") (by decide) ⟨_,e,rfl⟩ (λ G=>typeIs_int G k t) noFill_list_mul F.fills_int_mul F.slot_int_rmul repeat_list F.slot_int_index.lookup
   (K9 F.slot_int_rmul (typeIs_int s k t) F.entry_int_rmul (F.args_int_rmul_2 _ _) (int___rmul___int_list k t l b.toArray n)
     ⟨e,rfl,⟨_,e,rfl⟩,K9 F.slot_list_mul ⟨_,e,rfl⟩ F.entry_list_mul (F.args_list_mul_2 _ _) (AutoListH.list___mul___list_int_3 l b.toArray n k t f d hlong) ⟨e,?_⟩⟩)
 rw[g];exact⟨.ref _,_,I.lnew (t':=s.toks) (r.rep k.toNat) (by rw[qaL5,Nat.mul_comm];exact o),rfl,q _ I.fresh⟩
end
section
variable{κ:Type}[DecidableEq κ]
noncomputable def Fh(kvs:List (κ×V))(k:κ):Option V:=(kvs.find? λ a=>decide (a.1=k)).map (·.2)
noncomputable def putK(kvs:List (κ×V))(k:κ)(v:V):List (κ×V) :=
 if (kvs.any λ a=>decide (a.1=k))=true then kvs.map (λ a=>if a.1=k then (a.1,v) else a) else kvs++[(k,v)]
theorem qM6{p:κ×V}{r:List (κ×V)}{k:κ}(e:p.1=k):Fh (p::r) k=some p.2:=by simp[Fh,zBo,e]
theorem qM7{p:κ×V}{r:List (κ×V)}{k:κ}(e:¬ p.1=k):Fh (p::r) k=Fh r k:=by simp[Fh,zBo,e]
theorem qaa3(kvs:List (κ×V))(k:κ)(v:V):(putK kvs k v).length<=kvs.length+1:=by
 unfold putK;split
 . rw[zAd];lia
 rw[zA7,zAi,zC6];lia
theorem RelO.getD{o:Option V}{u:Option V'}{d:V}{d':V'}(r:RelO o u)(a:Lv d d'):Lv (o.getD d) (u.getD d'):=by
 cases o with
 | none=>cases u with
   | none=>exact a
   | some _=>exact(show False from r).elim
 | some _=>cases u with
   | none=>exact(show False from r).elim
   | some _=>exact r
theorem KV.val{kvs:List (κ×V)}{vs:List (κ×V')}(r:KV kvs vs)(k:κ):RelO (Fh kvs k) (valueAt vs k):=by
 unfold KV at r
 induction r with
 | nil=>exact True.intro
 | @cons p q ps qs h t ih =>
   obtain⟨c,d⟩:=h;by_cases e:p.1=k
   . have a:q.1=k:=c.symm.trans e
     have b:valueAt (q::qs) k=some q.2:=by simp[valueAt,zBo,a]
     rw[qM6 e,b];exact d
   have a:¬ q.1=k:=λ z=>e (c.trans z)
   have b:valueAt (q::qs) k=valueAt qs k:=by simp[valueAt,zBo,a]
   rw[qM7 e,b];exact ih
theorem KV.any{kvs:List (κ×V)}{vs:List (κ×V')}(r:KV kvs vs)(k:κ):(kvs.any λ a=>decide (a.1=k))=vs.any λ a=>decide (a.1=k):=by
 unfold KV at r
 induction r with
 | nil=>rfl
 | cons h t b=>rw[zBz,zBz,b,h.1]
theorem KV.repl{kvs:List (κ×V)}{vs:List (κ×V')}(r:KV kvs vs)(k:κ){y:V}{u:V'}(c:Lv y u) :
   KV (kvs.map λ a=>if a.1=k then (a.1,y) else a) (vs.map λ a=>if a.1=k then (a.1,u) else a):=by
 unfold KV at r ⊢
 induction r with
 | nil=>exact .nil
 | @cons p q ps qs h t ih =>
   rw[zAw,zAw];refine .cons ?_ ih;obtain⟨b,d⟩:=h;by_cases e:p.1=k
   . rw[if_pos e,if_pos (b.symm.trans e)];exact⟨b,c⟩
   rw[if_neg e,if_neg (λ z=>e (b.trans z))];exact⟨b,d⟩
theorem KV.put{kvs:List (κ×V)}{vs:List (κ×V')}(r:KV kvs vs)(k:κ){y:V}{u:V'}(a:Lv y u):KV (putK kvs k y) (stored vs k u):=by
 unfold putK stored;rw[r.any k];by_cases e:(vs.any λ b=>decide (b.1=k))=true
 . rw[if_pos e,if_pos e];exact r.repl k a
 rw[if_neg e,if_neg e];exact Paired.snoc r ⟨rfl,a⟩
theorem KV.length{kvs:List (κ×V)}{vs:List (κ×V')}(r:KV kvs vs):kvs.length=vs.length:=Paired.length r
end
theorem Je{P:Program}{w:World}{k:Key}{u:V'}(r:Lv (kV k) u):(qg0 P w).is k u=true:=by
 cases k with
 | inl i=>obtain⟨t,e⟩:=(show ∃ t,u=Value.int i t from r);subst e;exact qaa0 P w i t
 | inr x=>obtain⟨t,e⟩:=(show ∃ t,u=Value.str x t from r);subst e;exact qZ9 P w x t
theorem qU1{P:Program}{w:World}:∀{ks:List Key}{us:List V'},Lw (ks.map kV) us->ItemsAre (qg0 P w) ks us
 | [],_,r=>by rw[List.map_nil] at r;cases r;exact .nil
 | k::ks,_,r=>by
   rw[zAw] at r;cases r with
   | cons h t=>exact .cons (Je h) (qU1 t)
abbrev KT(H:Hp):List (List Key×V)->List (List Key×γ×V')->Prop:=Paired λ p q=>p.1=q.1/\H q.2.1=some (.q (p.1.map kV))/\Lv p.2 q.2.2
theorem KT.val{H:Hp}{kvs:List (List Key×V)}{xs:List (List Key×γ×V')}(r:KT H kvs xs)(k:List Key):RelO (Fh kvs k) ((atKey xs k).map (·.2)):=by
 induction r with
 | nil=>exact True.intro
 | @cons p q ps qs h t ih =>
   obtain⟨c,_,d⟩:=h;by_cases e:p.1=k
   . have a:q.1=k:=c.symm.trans e
     have b:atKey (q::qs) k=some q.2:=by simp[atKey,zBo,a]
     rw[qM6 e,b];exact d
   have a:¬ q.1=k:=λ z=>e (c.trans z)
   have b:atKey (q::qs) k=atKey qs k:=by simp[atKey,zBo,a]
   rw[qM7 e,b];exact ih
section
variable{P:Program}{w:World}{H:Hp}{h:Heap}{a:γ}
theorem rd_of{u:HO}(b:HOk P w H h)(e:Rd H a u):ObjOk P w H h a u:=e.ok b
theorem Jf{kvs:List (Key×V)}(b:HOk P w H h)(e:Rd H a (.dK kvs)):kvs.length<=Kq/\(a == K4)=false/\∃ vs,KV kvs vs/\h.DictOf (qg0 P w) a vs :=
 show ObjOk P w H h a (.dK kvs) from rd_of b e
theorem qaM0{ks:List Key}(c:HOk P w H h)(e:H a=some (.q (ks.map kV))):(tupleKind (qg0 P w)).is h ks a:=by
 obtain⟨_,b,r,o,d,f,n,g⟩:=(show ObjOk P w H h a (.q (ks.map kV)) from c a _ e)
 exact⟨o,b.toArray,n,d,f,g,by simpa using qU1 r⟩
theorem dt_rd{kvs:List (List Key×V)}(c:HOk P w H h)(e:Rd H a (.dT kvs)):kvs.length<=Kq/\(a == K4)=false /\
   ∃ xs,KT H kvs xs/\h.DictOfH (tupleKind (qg0 P w)) a xs:=by
 obtain⟨z,y,xs,r,o,d,f,g,i,j,k,n⟩:=(show ObjOk P w H h a (.dT kvs) from rd_of c e)
 refine⟨z,y,xs,r,o,d,f,g,i,j,k,λ x b=>?_,n⟩;have all:∀{l:List (List Key×V)}{m:List (List Key×γ×V')},KT H l m->∀ x∈m,(tupleKind (qg0 P w)).is h x.1 x.2.1:=by
   intro l m q
   induction q with
   | nil=>intro x b;exact nomatch b
   | @cons p q ps qs hq t ih =>
     intro x b;rcases zAm.mp b with e | b
     . subst e
       exact qaM0 c (by rw[<- hq.1];exact hq.2.1)
     exact ih x b
 exact all r x b
end
def DGet(H:Hp)(a:γ)(y:V)(r:Option V):Prop :=
 (∃ kvs k,Rd H a (.dK kvs)/\y=kV k/\r=Fh kvs k)∨∃ kvs k b,Rd H a (.dT kvs)/\y=.ref b/\H b=some (.q (k.map kV))/\r=Fh kvs k
section
variable{X:Cx}{E3:List (γ×Obj)}{σ:St}{H:Hp}{s:δ}
theorem Ly.big(I:Ly X E3 σ H s):K4 < s.heap.objs.size:=by
 have h:Ky < s.heap.objs.size:=(I.mod.glob.keeps I.bk).lt;exact Nat.lt_trans (by decide) h
end
section
variable{X:Cx}{E3:List (γ×Obj)}{σ:St}{H:Hp}{s:δ}{a:γ}{kvs:List (Key×V)}{A:Around}{E:V'->δ->Prop}
theorem d_len{Q:V'->δ->Prop}(I:Ly X E3 σ H s)(e:Rd H a (.dK kvs))(h:∀ t s',Ly X E3 σ H s'->Q (.int kvs.length t) s'):wpAny (model X.prog X.w) A (call (.builtin "len") [.ref a]) Q E s:=by
 obtain⟨z,b,d,rel,c⟩:=Jf I.hok e;refine call_len_dict b c (by rw[<- rel.length];rw[Kx] at z;lia) ?_;rw[<- rel.length];exact h _ _ (I.tok _)
end
def qB6(kvs more:List (Key×V)):List (Key×V):=more.foldl (λ acc a=>putK acc a.1 a.2) kvs
theorem qt9:∀(more kvs:List (Key×V)),(qB6 kvs more).length<=kvs.length+more.length
 | [],kvs=>by show kvs.length<=kvs.length+0;lia
 | p::r,kvs=>by
   have a:=qt9 r (putK kvs p.1 p.2);have b:=qaa3 kvs p.1 p.2;show (qB6 (putK kvs p.1 p.2) r).length<=_;rw[zAi];lia
structure M2(X:Cx)(o:Expr)(m:Str)(apos:Pos)(e f:Expr)(cpos:Pos):Prop where
 base:Kw o m X.env (eval o X.env)=eval o X.env
 few:((backTo cpos (Ko [e,f] X.env)).all (λ x=>!x.1)&&(backToKw cpos (K5 [] X.env)).all (λ x=>x.1.isSome)
   && decide (([e,f]:List Expr).length+([]:List Keyword).length+(if ([]:List Keyword).isEmpty then 0 else 1) < 30))=true
 line:(apos.endLine == cpos.line)=true
 trees:backTo cpos (Ko [e,f] X.env)=[(false,eval e X.env),(false,eval f X.env)]
def IsD(H:Hp)(a:γ):Prop:=(∃ kvs,Rd H a (.dK kvs))∨∃ kvs,Rd H a (.dT kvs)
theorem qaU8{X:Cx}{E3:List (γ×Obj)}{σ:St}{H:Hp}{s:δ}{a:γ}(I:Ly X E3 σ H s)(d:IsD H a) :
   s.TypeIs (.ref a) "dict" /\ (∀ b,Value.ref a=.ref b->∃ ob,s.heap.get? b=some ob/\ob.dict=none)/\(a == K4)=false:=by
 rcases d with⟨kvs,e⟩ | ⟨kvs,e⟩
 . obtain⟨_,f,i,_,c⟩:=Jf I.hok e
   refine⟨c.typeIs,λ b q=>?_,f⟩;cases q;obtain⟨ob,_,_,g,h,_⟩:=c;exact⟨ob,g,h.2.1⟩
 obtain⟨_,f,j,_,c⟩:=dt_rd I.hok e;refine⟨c.typeIs,λ b q=>?_,f⟩;cases q;obtain⟨ob,_,_,g,h,_⟩:=c;exact⟨ob,g,h.2.1⟩
section
variable{X:Cx}{E3:List (γ×Obj)}{σ:St}{H:Hp}{s:δ}{a:γ}{y d:V}{u r:V'}{o:Option V}{A:Around}{E:V'->δ->Prop}
theorem qaW7{Q:V'->δ->Prop}(n:A.units+1 < cLine)(I:Ly X E3 σ H s)(g:DGet H a y o)(i:Lv y u)(j:Lv d r)(h:∀ m s',Ly X E3 σ H s'->Lv (o.getD d) m->Q m s') :
   wpAny (model X.prog X.w) A (call (.builtin "dict.get") [.ref a,u,r]) Q E s:=by
 rcases g with⟨kvs,k,e,ey,l⟩ | ⟨kvs,k,b,e,ey,eb,l⟩
 . subst ey
   obtain⟨z,f,q,rel,c⟩:=Jf I.hok e;refine call_meetsIn F.slot_dict_get c.typeIs F.entry_dict_get (F.args_dict_get_3 _ _ _) (meets_dict_get_default (qg0 X.prog X.w) a (Je i) f r) ⟨_,c.mapOf,h _ _ (I.tok _) ?_⟩;rw[l];exact(rel.val k).getD j
 subst ey;cases (show u=Value.ref b from i);obtain⟨z,f,p,rel,c⟩:=dt_rd I.hok e;refine call_meetsIn F.slot_dict_get c.typeIs F.entry_dict_get (F.args_dict_get_3 _ _ _) (meetsH_dict_get_default (tupleKind (qg0 X.prog X.w)) a b f r) ⟨tupleKind_room_in1 n,k,p,qaM0 I.hok eb,c,h _ _ (I.tok _) ?_⟩;rw[l];exact(rel.val k).getD j
end
def qaQ2(td ty tx:TE):TE:=λ σ H Q=>td σ H λ x H1=>∃ a,x=.ref a/\IsD H1 a/\ty σ H1 λ y H2=>tx σ H2 λ z H3=>∃ o,DGet H3 a y o/\Q (o.getD z) H3
section
variable{X:Cx}{o e f:Expr}{apos cpos:Pos}{td ty tx:TE}
theorem qaz1(i:X.A.units+1 < cLine)(j:PE X o td)(k:PE X e ty)(l:PE X f tx)(m:M2 X o "get" apos e f cpos):PE X (.Call (.Attribute o "get" apos) [e,f] [] cpos) (qaQ2 td ty tx):=by
 intro E3 s σ H Q I h;refine wpAny_Call_method m.base m.few m.line F.plainAttrs_dict F.slot_dict_get F.type_dict_get (thn (j E3 s σ H _ I h) λ u n b=>?_);obtain⟨x,H1,I1,p,a,q,d,r⟩:=b;subst q;obtain rfl:u=Value.ref a:=p;obtain⟨t1,t2,_⟩:=qaU8 I1 d;refine⟨t1,t2,?_⟩;rw[m.trees];refine Calls.callWith_builtin rfl (Calls.evalArgs_plain (Calls.spliced_cons (thn (k E3 n σ H1 _ I1 r) λ C t ⟨y,H2,I2,v,q2⟩ =>
   Calls.spliced_cons (thn (l E3 t σ H2 _ I2 q2) λ D E ⟨z,H3,I3,w,G,g,B⟩=>Calls.spliced_nil ?_))))
 exact qaW7 i I3 g v w λ J K I4 c=>⟨_,H3,I4,c,B⟩
end
end L2
namespace Att
open PySem PySem.W PySem.Calls PyProof.Rows
theorem qB9{P:Params}{h:Heap}:∀(ns:List Int)(vs:List V'),WellAll P h vs (ns.map WData.int)->IntsAre vs ns:=by
 intro ns
 induction ns with
 | nil =>
   intro vs w;rw[List.map_nil] at w;cases w;exact .nil
 | cons n ns c =>
   intro vs w;rw[zAw] at w;cases w with
   | cons a b =>
     cases a;exact .cons _ _ (c _ b)
theorem qam2{l:OpenLaw}{n:Nat}(m:l.most=some n){P:Params}{h:Heap}{args:List WData}{vals:List V'}(b:l.row.toRowW.claim.pre args=true)(i:WellAll P h vals args) :
   ∃ a vs ns,vals=[Value.ref a]/\args=[WData.list (ns.map WData.int)]/\h.get? a=some { cls:=.type "list",data:=.seq vs.toArray }/\IntsAre vs ns/\ns.length<=n:=by
 have j:WShape.hasAll [] args [.list .int]=true:=(pre_splitW b).1;have k:l.pre.holds [] { args:=args }=true:=(pre_splitW b).2;obtain⟨d,r,rfl,o,p⟩:=hasAllW_cons j;obtain rfl:=hasAllW_nil p;obtain⟨x,rfl,s⟩:=hasW_list o;obtain⟨ns,rfl⟩:=items_int s;have c:ns.length<=n:=by
   unfold OpenLaw.pre at k;have f:(WTm.not (.lt (.lit (.int (n:Int))) (.len (.arg 0)))).holds [] { args:=[.list (ns.map .int)] }=true:=by
     have f:=(holds_andW k).1;rw[m] at f;exact f
   have g:=condW_of f (w_not (w_lt w_lit (w_len_list (w_arg rfl))));rw[zAd] at g;refine zC1 λ q=>?_
   have t:(n:Int) < ((ns.length:Nat):Int):=by lia
   first
     | (rw[zAl t] at g;exact absurd g (by decide))
     | (simp at g;lia)
 cases i with
 | cons u v =>
   cases v;cases u with
   | list w e=>exact⟨_,_,ns,rfl,rfl,w,qB9 ns _ e,c⟩
theorem qam6(l:OpenLaw)(args:List WData):l.row.toRowW.claim.post args (.bool true) args=true :=
 postW_of (r:=l.row.toRowW) (X:=(true == true))
   (show WShape.has [] (.bool true) .bool=true by first | rfl | decide | simp[WShape.has,WShape.arms,WShape.armsAll])
   (show (WTm.eq .res (.lit (.bool true))).value [] { args:=args,res:=some (.bool true),after:=args }=some (.bool (true == true)) from w_eq_bool (w_res rfl) w_lit) rfl
theorem qab0{l:OpenLaw}{n:Nat}{q:Program}{loose:List Str}{XP:(Str->Option V')->Heap->Prop}{YP:World->Heap->Prop}{d:DefRec}(u:l.most=some n)(h:d.params.defaults=[])(call:∀(w:World)(s₀ s₁:δ)(mg i:Str->Option V')(fa:γ)(o:Obj)(j cd b:V')(a:γ)(vs:List V')(ns:List Int),
     Ground q loose [] XP w s₀ mg i s₁.heap->YP w s₁.heap ->
     s₁.heap.get? fa=some o->o.data=.func (docDef d.name d.params d.body d.scope j cd b)->s₁.heap.CodeRec cd d.name->mg d.name=some (.ref fa) ->
     s₁.heap.get? a=some { cls:=.type "list",data:=.seq vs.toArray }->IntsAre vs ns->ns.length<=n->s₁.gens = #[] ->
     codeAny (model l.prog w) callerA (.call (.ref fa) ⟨[.ref a],[]⟩) (λ r s'=>r=.ok (.ret (.bool true))/\OldK s₁.heap s'.heap/\s'.os=s₁.os/\AllBare s'.gens) s₁) :
   WalkO q loose XP YP l.row.toRowW d [] (λ f vs=>PySem.call f vs):=by
 intro w s₀ s₁ mg i G Y fa o j cd b v kV x y k s m z args vals I c t A p B;obtain rfl:v=.none:=Dflts.none s h;obtain rfl:kV=.none:=Dflts.noKw s;obtain⟨a,vs,ns,rfl,rfl,e,hints,g⟩:=qam2 u c p;refine enter_call (codeAny_mono (call w s₀ s₁ mg i fa o j cd b a vs ns G Y x (fd_plain y) k m e hints g z) λ r s' C=>?_);obtain⟨rfl,D,E,F⟩:=C;exact⟨.inl ⟨.bool true,.bool true,[],rfl,λ _=>rfl,.bool true,qam6 l _,λ _=>⟨List.Pairwise.nil,λ _ H=>(nomatch H)⟩⟩,D,E,F⟩
end Att
namespace L2
open PySem PySem.Spec PyProof.Rows
theorem qR8:∀{vs:List V'}{ns:List Int},IntsAre vs ns->Lw (ns.map V.int) vs
 | _,_,.nil=>.nil
 | _,_,.cons n t h=>.cons ⟨t,rfl⟩ (qR8 h)
def Only(H:Hp):Prop:=∀ b,H b=none∨∃ o xs,H b=some (.frz o (.l xs))
theorem qaB5{P:Program}{w:World}{K:W.Frag}{mg C:Str->Option V'}{CX:CXT}{k:Nat}{fa a:γ}{fd:ε}{x:Str}{sp:Sp}{s₁:δ}{vs:List V'}{ns:List Int}(KX:K.In s₁.heap)(g:s₁.heap.Ns Ky mg)(c:s₁.heap.Ns builtinsNs C)(D:∀ x:Str,x ≠ "__name__" -> C x=Ku x)(i:s₁.heap.NoLimit)(T:s₁.gens = #[])(B:s₁.heap.get? a=some { cls:=.type "list",data:=.seq vs.toArray })(hi:IntsAre vs ns)(M:ns.length<=Kq)(U:Room k callerA)(F:∀ base:Heap,K.In base->base.Ns Ky mg->B6 P w K mg base CX k fa fd [x] sp)(hbind:∀(s:δ)(u:V'),BindsTo s fd ⟨[u],[]⟩ [(x,u)])(E:∀ H:Hp,Only H->SqL K H a (ns.map V.int)->sp [.ref a] H (λ v _=>v=.bl true) λ _ _ _=>False)(G:∀ H e s',CX [] H s₁ (λ _ _ _=>False) e s'->False) :
   codeAny (model P w) callerA (.call (.ref fa) ⟨[.ref a],[]⟩) (λ r s'=>r=.ok (.ret (.bool true))/\OldK s₁.heap s'.heap/\s'.os=s₁.os/\AllBare s'.gens) s₁:=by
 have N:=qR8 hi;have lenV:=hi.length;have core:∀ H:Hp,Only H->SqL K H a (ns.map V.int)->HOk P w H s₁.heap->(∀ b,H b≠none->b=a)->(H a≠none->K.lookup a=none) ->
     codeAny (model P w) callerA (.call (.ref fa) ⟨[.ref a],[]⟩) (λ r s'=>r=.ok (.ret (.bool true))/\OldK s₁.heap s'.heap/\s'.os=s₁.os/\AllBare s'.gens) s₁:=by
   intro H O X j Q Y;have base_of:∀{b:γ}{o:Obj},s₁.heap.get? b=some o->H b=none->(Gg s₁.heap H).get? b=some o:=λ e n=>qaC3 e n
   have I:∀{b:γ}{o:Obj}{l:Array DictEntry}{p:Nat},s₁.heap.get? b=some o->o.data=.dict l p->H b=none:=λ{b o l p} e d=>by
     cases q:H b with
     | none=>rfl
     | some u =>
       have J:b=a:=Q b (by rw[q];simp);subst J;rw[B] at e;cases e;have Z:Data.seq vs.toArray _=Data.dict l p:=d;cases Z
   have f:∀{b:γ}{m:Str->Option V'},s₁.heap.Ns b m->(Gg s₁.heap H).Ns b m:=λ{b m} ⟨o,l,p,e,d,r⟩=>⟨o,l,p,base_of e (I e d),d,r⟩
   have t:K.In (Gg s₁.heap H):=λ b o e=>base_of (KX b o e) (by
     cases q:H b with
     | none=>rfl
     | some u =>
       have J:b=a:=Q b (by rw[q];simp);subst J;rw[Y (by rw[q];simp)] at e;cases e)
   have hM:Mod K mg (Gg s₁.heap H):=⟨t,f g,⟨C,f c,D⟩,let ⟨mc,h1,h2⟩:=i;⟨mc,f h1,h2⟩⟩
   have e0:Env0 P w K mg (Gg s₁.heap H) callerA [] s₁ H:=⟨rfl,hM,λ b o e=>qaK3 e,Nat.le_of_eq (qao5 _ _),trivial,λ b c=>absurd (show b∈([]:List γ) from c) (by simp),j,.of_eq T⟩
   refine codeAny_mono ((F _ t (f g)).run callerA [] s₁ H ⟨[.ref a],[]⟩ [.ref a] [.ref a] _ _ U e0 (hbind s₁ (.ref a)) (.cons rfl .nil) (E H O X)) λ r s' h=>?_
   cases r with
   | error e=>exact(G H e s' h).elim
   | ok fl =>
     cases fl with
     | next=>exact False.elim h
     | brk=>exact False.elim h
     | cont=>exact False.elim h
     | ret u =>
       obtain⟨v,H',os,bare,R,y,r',q⟩:=h;have q':v=.bl true:=q;subst q';obtain rfl:u=Value.bool true:=r';refine⟨rfl,OldK.of_keep λ b o e=>?_,os,bare⟩;cases q:H b with
       | none=>exact R.keep b o e q (by intro z;exact absurd (show b∈([]:List γ) from z) (by simp)) (by simp)
       | some u =>
         rcases O b with z | ⟨ob,xs,z⟩
         . rw[q] at z;cases z
         have z2:=R.frzs b ob _ z;obtain⟨S,_⟩:=j b _ z;obtain⟨e2,_⟩:=y b _ z2;rw[e] at S;cases S;exact e2
 cases L:K.lookup a with
 | some o =>
   have e:=KX a o L;rw[B] at e;cases e;refine core (λ _=>none) (λ _=>.inl rfl) (.inr ⟨_,vs.toArray,_,L,rfl,rfl,rfl,by rw[zA3,lenV];exact M,by simpa using N⟩) (λ b u z=>by have A:(none:Option HO)=some u:=z;cases A) (λ b z=>absurd rfl z) λ z=>absurd rfl z
 | none =>
   refine core (λ b=>if b=a then some (.frz { cls:=.type "list",data:=.seq vs.toArray } (.l (ns.map V.int))) else none) (λ b=>?_) (.inl (.inr ⟨{ cls:=.type "list",data:=.seq vs.toArray },if_pos rfl⟩)) (λ b u z=>?_) (λ b z=>?_) λ _=>L
   . by_cases c:b=a
     . exact .inr ⟨_,_,if_pos c⟩
     exact .inl (if_neg c)
   . by_cases c:b=a
     . have A:=(if_pos c).symm.trans z
       cases A;subst c;exact⟨B,by rw[zAd];exact M,vs,_,N,B⟩
     have A:=(if_neg c).symm.trans z;cases A
   by_cases c:b=a
   . exact c
   exact absurd (if_neg c) z
theorem qaF1{l:W.OpenLaw}{n k:Nat}{q:Program}{loose:List Str}{XP:(Str->Option V')->Heap->Prop}{YP:World->Heap->Prop}{d:DefRec}{K:Params->W.Frag}{CX:World->CXT}{sp:World->Sp}{x:Str}(y:l.most=some n)(j:n<=Kq)(m:d.params.defaults=[])(z:Room k callerA)(A:∀(w:World)(h:Heap),YP w h->(K w.params).In h)(F:∀(w:World)(mg:Str->Option V')(fa:γ)(h:Heap),(K w.params).In h->h.Ns Ky mg->mg d.name=some (.ref fa) ->
     ∃ fd:ε,(∀(s:δ)(u:V'),BindsTo s fd ⟨[u],[]⟩ [(x,u)]) /\
       ∀ base:Heap,(K w.params).In base->base.Ns Ky mg->B6 l.prog w (K w.params) mg base (CX w) k fa fd [x] (sp w))(p:∀(w:World)(H:Hp)(a:γ)(ns:List Int),ns.length<=n->Only H->SqL (K w.params) H a (ns.map V.int)->sp w [.ref a] H (λ v _=>v=.bl true) λ _ _ _=>False)(r:∀(w:World)(H:Hp)(s:δ)(e:V')(s':δ),CX w [] H s (λ _ _ _=>False) e s'->False) :
   W.WalkO q loose XP YP l.row.toRowW d [] (λ f vs=>PySem.call f vs):=by
 refine Att.qab0 y m λ w s₀ s₁ mg M fa o N O B a vs ns G Y P Q C t i hints c D=>?_
 have KX:=A w _ Y;obtain⟨fd,E,I⟩:=F w mg fa _ KX G.T.g t;exact qaB5 KX G.T.g G.T.b G.T.builtins G.T.nolimit D i hints (zAp c j) z I E (λ H J L=>p w H a ns c J L) λ H e s'=>r w H s₁ e s'
end L2
/- THE LAST THEOREM (shape;LID,My.* are yours):
  My.Adr: a structure of the addresses that your layer names (classes,functions);My.Txt K t: a structure (Prop) of the equations over K;
  My.txt_mk:{K} {implicit addresses ..} (e1:nsIn K Ky "law" = some (some (.ref f))) (e2:K.lookup f=some ⟨oc,od,.func (fnOf "law" "law" params body scope dV kV doc pm an cdv ct),sl⟩) (e3:codeIn K cdv "law" = true) .. : ∃ t,My.Txt K t
(the tactic k_is has no namespace: write k_is) -/
namespace L2
open PySem PySem.Spec PyProof.Rows
variable{A B:Prop}{f:γ}{qual x:Str}{st:Stmt}
noncomputable def qf0(s:Stmt)(j:Nat):Stmt:=match s with
 | .ClassDef _ _ _ body _ _ _ _ _ _ _=>body.getD j (.Pass ⟨0,0,0,0⟩)
 | _=>.Pass ⟨0,0,0,0⟩
noncomputable def qe4(s:Stmt):Arguments:=match s with
 | .FunctionDef _ a _ _ _ _ _ _ _ _=>a
 | _=>{ posonlyargs:=[],args:=[],vararg:=none,kwonlyargs:=[],kw_defaults:=[],kwarg:=none,defaults:=[] }
noncomputable def qd0(s:Stmt):List Stmt:=match s with
 | .FunctionDef _ _ b _ _ _ _ _ _ _=>b
 | _=>[]
noncomputable def qa3(s:Stmt):Scope:=match s with
 | .FunctionDef _ _ _ _ _ _ sc _ _ _=>sc
 | _=>{ kind:=.function,names:=[],isGenerator:=false,isCoroutine:=false }
abbrev CX0:CXT:=λ _ _ _ _ _ _=>False
abbrev E0:XK:=λ _ _ _=>False
theorem pass0{X:Cx}:qM1 CX0 X (λ _=>E0):=λ _ _ _ _ _ _ _ h=>h.elim
structure Fun(K:W.Frag)(x qual:Str)(st:Stmt)(f:γ)(fd:ε):Prop where
 ex:∃(oc:V')(od:Option γ)(kV doc pm:V')(an:Option γ)(cdv ct:V')(osl:Array (Option V')),
   fd=W.fnOf x qual (qe4 st) (qd0 st) (qa3 st) .none kV doc pm an cdv ct/\K.lookup f=some ⟨oc,od,.func fd,osl⟩/\W.codeIn K cdv qual=true
 kp:W.keepIn K (.ref f)=true
section
variable{P:Program}{w:World}{K:W.Frag}{mg:Str->Option V'}{base:Heap}
theorem Fun.ok{fd:ε}{N ps:List Str}{k:Nat}{sp:Sp}(F:Fun K x qual st f fd)(S:qa8 N ps (qa3 st))(len:∀ vs H Q E,sp vs H Q E->vs.length=ps.length)(hbody:∀(a:V')(A:Around)(outer:List Env)(s:δ)(H:Hp)(vs:List V)(Q:VK)(E:XK),Room k (A.deeper (envOfC qual (qa3 st) s.heap.objs.size f a))->sp vs H Q E ->
     ∃ t,PSs (Eu true CX0 P w K mg base N qual (qa3 st) f a A outer s H E).nox (qd0 st) t/\t { nx:=λ _ H'=>Q .non H',rt:=Q } (start N vs) H):B6 P w K mg base CX0 (k+1) f fd ps sp:=by
 obtain⟨j,l,kV,d,m,n,a,o,e,rfl,g,b⟩:=F.ex;refine Jd g b S len λ A outer s H vs Q E i c=>?_
 obtain⟨t,h,q⟩:=hbody a A outer s H vs Q E i c;exact⟨t,h.nox,q⟩
theorem Fun.binds{fd:ε}{ps:List Str}(F:Fun K x qual st f fd)(h:∀(kV a c:V')(d:Option γ)(b e:V')(us:List V'),us.length=ps.length->bindArgs (W.fnOf x qual (qe4 st) (qd0 st) (qa3 st) .none kV a c d b e) ⟨us,[]⟩=pure (ps.zip us)):Binds K fd ps []:=by
 obtain⟨j,k,kV,a,c,d,b,e,g,rfl,l,i⟩:=F.ex;exact .all (h kV a c d b e)
theorem qao7{oc:V'}{i e:Option γ}{d:Array (Option V')}{kV b g a h:V'}(l:K.lookup f=some ⟨oc,i,.func (W.fnOf x qual (qe4 st) (qd0 st) (qa3 st) .none kV b g e a h),d⟩)(c:W.codeIn K a qual=true)(k:W.keepIn K (.ref f)=true):Fun K x qual st f (W.fnOf x qual (qe4 st) (qd0 st) (qa3 st) .none kV b g e a h):=⟨⟨oc,i,kV,b,g,e,a,h,d,rfl,l,c⟩,k⟩
end
theorem hu_of{A:Around}{k:Nat}(a:Room k A):A.units+1 < cLine:=Nat.lt_of_le_of_lt (Nat.add_le_add_left (by decide:1<=64) _) a.units
theorem qam1{n:Nat}(h:n<=1000):n < Kq:=Nat.lt_of_le_of_lt h (by decide)
section
variable{X:Cx}
theorem pv(i:Nat){pos:Pos}(b:X.N[i]? = some x:=by rfl)(c:Vis X.env.scope x:=by first | exact Or.inl rfl | exact Or.inr (Or.inl rfl) | exact Or.inr (Or.inr rfl))(d:N' x:=by decide)(a:(x == ("__classdict__" : Str))=false:=by decide):PE X (.Name x pos) (Fx i):=qk1 b c d a
theorem qaq9:CallR X (.builtin "len") (λ xs H Q=>∃ a kvs,xs=[V.ref a]/\H a=some (.dK kvs)/\Q (.int kvs.length) H):=by
 intro E3 s σ H xs d Q I r h;obtain⟨a,kvs,rfl,b,q⟩:=h;obtain⟨u,rfl,c⟩:=B8 r;cases c;exact d_len I (.inl b) λ t e I'=>⟨.int kvs.length,H,I',⟨t,rfl⟩,q⟩
end
theorem iteF(h:B):if false=true then A else B:=by
 rw[if_neg zAk];exact h
theorem iteT(h:A):if true=true then A else B:=by
 rw[if_pos rfl];exact h
theorem ite2{c:Prop}[Decidable c](h1:c->A)(h2:¬ c->B):if c then A else B:=by
 by_cases h:c
 . rw[if_pos h]
   exact h1 h
 rw[if_neg h];exact h2 h
def Same(H H':Hp):Prop:=∀ b o,H b=some o->H' b=some o
theorem Same.trans{H H1 H2:Hp}(a:Same H H1)(b:Same H1 H2):Same H H2:=λ c o h=>b c o (a c o h)
end L2
set_option maxHeartbeats 4000000
namespace L2
open PySem PySem.Spec PyProof.Rows
variable{H:Hp}{a:γ}{e:Expr}{es:List Expr}{i:Int}{p:Pos}{t:TA}{x:Str}{xs:List V}{α:Type}
theorem Ic{t:Sem α}{Q Q':α->δ->Prop}{M:Model}{A:Around}{E:V'->δ->Prop}{s:δ}(h:wpAny M A t Q (λ _ _=>False) s)(b:∀ a s,Q a s->Q' a s):wpAny M A t Q' E s :=
 K6 h b λ _ _ x=>x.elim
noncomputable def Fi(env:Env):List (Str×NameKind)->List (Str×γ)->List (Str×γ)
 | [],acc=>acc
 | (n,k)::r,acc=>Fi env r (if k == NameKind.free then (n,(env.cells.lookup n).getD 0)::acc else acc)
theorem qA1{env:Env}:∀(l:List (Str×NameKind))(acc:List (Str×γ)),(∀ x∈l,x.2=NameKind.free->∃ c,env.cells.lookup x.1=some c) ->
   (forIn l acc λ(x:Str×NameKind)(r:List (Str×γ)) =>
     (match x with
     | (name,kind)=>if (kind == NameKind.free)=true then (do let c <- cellOf env name;pure (ForInStep.yield ((name,c)::r)):Sem (ForInStep (List (Str×γ)))) else pure (ForInStep.yield r)))=(pure (Fi env l acc):Sem _)
 | [],acc,_=>rfl
 | (n,k)::r,acc,h=>by
   rw[List.forIn_cons];by_cases a:(k == NameKind.free)=true
   . obtain⟨c,b⟩:=h (n,k) zAa (by simpa using a)
     have b:env.cells.lookup n=some c:=b;dsimp only;rw[if_pos a];have e:cellOf env n=pure c:=by unfold cellOf;rw[b]
     rw[e];show (forIn r ((n,c)::acc) _:Sem _)=_;rw[qA1 r ((n,c)::acc) λ x d=>h x (zA4 _ d)];show _=(pure (Fi env r (if (k == NameKind.free)=true then (n,(env.cells.lookup n).getD 0)::acc else acc)):Sem _)
     rw[if_pos a,b];rfl
   dsimp only;rw[if_neg a];show (forIn r acc _:Sem _)=_;rw[qA1 r acc λ x d=>h x (zA4 _ d)];show _=(pure (Fi env r (if (k == NameKind.free)=true then (n,(env.cells.lookup n).getD 0)::acc else acc)):Sem _)
   rw[if_neg a]
theorem qL5{env:Env}{sc:Scope}(h:∀ x∈sc.names,x.2=NameKind.free->∃ c,env.cells.lookup x.1=some c):closureFor sc env=pure (Fi env sc.names []):=by
 unfold closureFor;show (forIn sc.names [] _ >>= _)=_
 have:=qA1 (env:=env) sc.names [] h
 rw[show (forIn sc.names ([]:List (Str×γ)) _:Sem _)=pure (Fi env sc.names []) from this];rfl
theorem qaj0{env:Env}:∀(l:List (Str×NameKind))(acc:List (Str×γ))(x:Str)(c:γ),(x,c)∈Fi env l acc->(x,c)∈acc∨((x,NameKind.free)∈l/\c=(env.cells.lookup x).getD 0)
 | [],acc,x,c,h=>.inl h
 | (n,k)::r,acc,x,c,h=>by
   rcases qaj0 r _ x c h with h | ⟨h,e⟩
   . by_cases a:(k == NameKind.free)=true
     . rw[if_pos a] at h
       rcases zAm.mp h with h | h
       . cases h
         exact .inr ⟨by rw[show k=NameKind.free by simpa using a];exact zAa,rfl⟩
       exact .inl h
     rw[if_neg a] at h;exact .inl h
   exact .inr ⟨zA4 _ h,e⟩
theorem qaj1{env:Env}:∀(l:List (Str×NameKind))(acc:List (Str×γ))(x:Str),(∃ c,(x,c)∈acc)->∃ c,(x,c)∈Fi env l acc
 | [],acc,x,h=>h
 | (n,k)::r,acc,x,⟨c,h⟩=>qaj1 r _ x ⟨c,by split;exact zA4 _ h;exact h⟩
theorem qR3{env:Env}:∀(l:List (Str×NameKind))(acc:List (Str×γ))(x:Str),(x,NameKind.free)∈l->∃ c,(x,c)∈Fi env l acc
 | [],acc,x,h=>by simp at h
 | (n,k)::r,acc,x,h=>by
   rcases zAm.mp h with h | h
   . cases h
     exact qaj1 r _ _ ⟨_,by rw[if_pos (by rfl)];exact zAa⟩
   exact qR3 r _ x h
theorem qz0{α:Type}:∀{l:List (Str×α)}{x:Str},(∃ c,(x,c)∈l)->∃ c,l.lookup x=some c
 | [],x,⟨c,h⟩=>by simp at h
 | (n,a)::r,x,⟨c,h⟩=>by
   cases b:x == n with
   | true=>exact⟨a,by simp only[zAt,b]⟩
   | false =>
     rcases zAm.mp h with h | h
     . cases h;simp at b
     obtain⟨d,e⟩:=qz0 ⟨c,h⟩;exact⟨d,by simp only[zAt,b];exact e⟩
noncomputable def Em(σ:St)(src:List (Option Nat)):St:=src.map λ o=>match o with | none=>none | some j=>(σ[j]?).getD none
noncomputable def qA0(X:Cx)(NY:List Str)(src:List (Option Nat))(sc:Scope):Bool :=
 (sc.kind == .function)&&(src.length == NY.length) &&
 (sc.names.all λ x=>x.2 != .cell&&(x.2 != .local||sc.names.lookup x.1 == some .local)&&(x.2 != .free||(X.env.scope.names.lookup x.1 == some .cell||X.env.scope.names.lookup x.1 == some .free))) &&
 ((NY.zip src).all λ p=>match p.2 with | none=>true | some j=>X.N[j]? == some p.1&&sc.names.lookup p.1 == some .free)
def qi8(X:Cx)(NY:List Str)(sc:Scope)(C:γ)(a:δ)(H0:Hp)(ex:List γ):Cx where
 prog:=X.prog
 w:=X.w
 K:=X.K
 mg:=X.mg
 base:=X.base
 A:=X.A
 N:=NY
 s₀:=a
 H₀:=H0
 env:=compEnvC sc (Fi X.env sc.names []) C X.env
 outer:=X.stack
 stack:=X.stack
 ex:=ex
 fn:=λ _=>false
 calm:=X.calm
 pn:=[]
 xe:=λ _ _=>False
def PFs(X:Cx)(ifs:List Expr)(t:TT):Prop :=
 ∀(E3:List (γ×Obj))(s:δ)(σ:St)(H:Hp)(Q:Bool->Hp->Prop),Ly X E3 σ H s->t σ H Q ->
   wpAny (model X.prog X.w) X.A (forIn ifs true λ c r=>if r=true then do let a <- isTrue c X.env (eval c X.env);pure (ForInStep.yield a) else pure (ForInStep.yield r)) (TP X E3 σ Q) X.xe s
def tYes:TT:=λ _ H Q=>Q true H
theorem qaI6{X:Cx}:PFs X [] tYes:=λ _ _ _ H _ I h=>wpAny_tests_nil ⟨H,I,h⟩
theorem qaS0{X:Cx}{c:Expr}{t:TT}(h:PT X c t):PFs X [c] t:=λ E3 s σ H Q I q=>wpAny_tests_one (h E3 s σ H Q I q)
theorem qo2{prog:Program}{w:World}{A:Around}{R:Result->δ->Prop}{s:δ}{elt target iter:Expr}{ifs:List Expr}{scope:Scope}{pos:Pos}{it acc:V'}{env:Env}(I:Nat->δ->Prop)(turn:∀ n s,I n s->wpAny (model prog w) A (pyNext it) (λ r s₁=>match r with
     | none=>R (.ok .next) s₁
     | some v=>wpAny (model prog w) A (letOwnedTupleGo target it v) (λ _ s₁'=>wpAny (model prog w) A (assign target env v) (λ _ s₂ =>
         wpAny (model prog w) A (forIn ifs true λ c r=>if r=true then do let a <- isTrue c env (eval c env);pure (ForInStep.yield a) else pure (ForInStep.yield r)) (λ a s₃ =>
           if a=true then wpAny (model prog w) A (eval elt env) (λ x s₄ =>
             wpAny (model prog w) A (call (.builtin "list.append") [acc,x]) (λ _ s₅=>∃ m,m < n/\I m s₅) (λ _ _=>False) s₄) (λ _ _=>False) s₃
           else ∃ m,m < n/\I m s₃) (λ _ _=>False) s₂) (λ _ _=>False) s₁') (λ _ _=>False) s₁) (λ _ _=>False) s)(n:Nat)(h:I n s) :
   codeAny (model prog w) A (.compLoop (.ListComp elt [⟨target,iter,ifs,0⟩] scope pos) 0 it acc env) R s:=by
 refine codeAny_loop rfl I (λ n s b=>?_) n h;show wpAny _ A ((compTurn (.ListComp elt [⟨target,iter,ifs,0⟩] scope pos) 0 it acc env).onRaise (λ x=>do noteFrame x env;theTreesLotGoes x)) _ _ s;refine wpAny_noted ?_;rw[compTurn_list];refine G' (wpAny_standAt (G' (Ic (turn n s b) λ r s₁ h₁=>?_)));cases r with
 | none=>exact J' h₁
 | some v =>
   refine G' (Ic h₁ λ _ s₁' h₁'=>?_);refine G' (Ic h₁' λ _ s₂ h₂=>G' (Ic h₂ λ a s₃ h₃=>?_));cases a with
   | false=>exact J' ⟨rfl,h₃⟩
   | true =>
     exact G' (G' (Ic h₃ λ x s₄ h₄=>G' (Ic h₄ λ _ s₅ h₅=>J' (J' ⟨rfl,h₅⟩))))
def qH5(J:It)(g:TG)(tf:TT)(te:TE)(D:γ)(R:Hp->Prop)(σ0:St)(H0:Hp):Prop :=
 ∃ W:Nat->Nat->St->Hp->Prop,(∃ m,W 0 m σ0 H0)/\∀ i m σ H,W i m σ H ->
   (J.stop i H/\R H)∨(J.go i H/\∃ N:St->Hp->Prop,(∀ σ' H',N σ' H'->∃ a,a < m/\W (i+1) a σ' H')/\∀ x H',J.yld i H x H'->g x σ H' λ σ2 H2=>tf σ2 H2 λ b H3 =>
     if b=true then te σ2 H3 λ v H4=>∃ xs,H4 D=some (.l xs)/\xs.length < Kq/\N σ2 (upd H4 D (.l (xs++[v]))) else N σ2 H3)
theorem qp8{env:Env}{x:Str}:∀{names:List (Str×NameKind)},(∀ y∈names,y.2≠.cell) ->
   ((names.map λ (n,k)=>if (k == NameKind.free&&env.scope.kind == .function&&env.kindOf n == some .cell) then (n,NameKind.cell) else (n,k)).lookup x=some .cell ∨
    (names.map λ (n,k)=>if (k == NameKind.free&&env.scope.kind == .function&&env.kindOf n == some .cell) then (n,NameKind.cell) else (n,k)).lookup x=some .free)->names.lookup x=some .free
 | [],_,h=>by simp at h
 | (n,k)::r,hc,h=>by
   have c:=@qp8 env x r λ y d=>hc y (zA4 _ d)
   have e:k≠.cell:=hc (n,k) zAa;simp only[zAw] at h;cases b:x == n with
   | true =>
     simp only[zAt,b];by_cases a:(k == NameKind.free&&env.scope.kind == .function&&env.kindOf n == some .cell)=true
     . have:k=NameKind.free:=by
         simp only[zB4,zBn] at a;exact a.1.1
       rw[this]
     rw[if_neg a] at h;simp only[zAt,b] at h;rcases h with h | h
     . exact absurd (Option.some.inj h) e
     exact h
   | false =>
     simp only[zAt,b];apply c;by_cases a:(k == NameKind.free&&env.scope.kind == .function&&env.kindOf n == some .cell)=true
     . rw[if_pos a] at h
       simpa only[zAt,b] using h
     rw[if_neg a] at h;simpa only[zAt,b] using h
theorem qh3{env:Env}{x:Str}:∀{names:List (Str×NameKind)},names.lookup x=some .free ->
   ((names.map λ (n,k)=>if (k == NameKind.free&&env.scope.kind == .function&&env.kindOf n == some .cell) then (n,NameKind.cell) else (n,k)).lookup x=some .cell ∨
    (names.map λ (n,k)=>if (k == NameKind.free&&env.scope.kind == .function&&env.kindOf n == some .cell) then (n,NameKind.cell) else (n,k)).lookup x=some .free)
 | [],h=>by simp at h
 | (n,k)::r,h=>by
   have c:=@qh3 env x r;simp only[zAw];cases a:x == n with
   | true =>
     simp only[zAt,a] at h;have h:k=.free:=Option.some.inj h;by_cases b:(k == NameKind.free&&env.scope.kind == .function&&env.kindOf n == some .cell)=true
     . rw[if_pos b];simp only[zAt,a];exact .inl trivial
     rw[if_neg b];simp only[zAt,a];rw[h];exact .inr rfl
   | false =>
     simp only[zAt,a] at h;by_cases b:(k == NameKind.free&&env.scope.kind == .function&&env.kindOf n == some .cell)=true
     . rw[if_pos b];simp only[zAt,a];exact c h
     rw[if_neg b];simp only[zAt,a];exact c h
section
variable{X:Cx}{E3:List (γ×Obj)}{σ:St}{H2:Hp}{s2:δ}{elt tg iter:Expr}{ifs:List Expr}{sc:Scope}{pos:Pos}{NY:List Str}{src:List (Option Nat)}{J:It}{fp:List γ}{it:γ}{tn:Nat->Heap->Prop}{g:TG}{tf:TT}{te:TE}
theorem qW1{R:γ->Hp->Prop}{E:V'->δ->Prop}{RR:V'->γ->Result->δ->Prop}(ck:qA0 X NY src sc=true)(hc:X.calm=true)(I2:Ly X E3 σ H2 s2)(T:I8 X.prog X.w X.K tg J fp it tn)(I:tn 0 s2.heap)(f2:∀ b∈fp,Gh X E3 H2 b)(hg:∀ C P H0,PG (qi8 X NY sc C P H0 fp) tg g)(hf:∀ C P H0,PFs (qi8 X NY sc C P H0 fp) ifs tf)(he:∀ C P H0,PE (qi8 X NY sc C P H0 fp) elt te)(rd:∀ D,H2 D=none->qH5 J g tf te D (R D) (Em σ src) (upd H2 D (.l [])))(fin:∀ D C H' s',Ly X E3 σ H' s'->R D H'->H' C=none->X.s₀.heap.objs.size<=C->C≠X.env.locals->(∀ x c,X.env.cells.lookup x=some c->c≠C)->(∀ p∈X.pn++E3,p.1≠C)->C∉X.fs->(∃ m,s'.heap.Ns C m)->RR (.ref D) C (.ok .next) s') :
   wpAny (model X.prog X.w) X.A (newList []) (λ acc s₃=>wpAny (model X.prog X.w) X.A (newFunctionEnv sc X.env.globals (Fi X.env sc.names []) [] X.env.qual none .none (some X.env)) (λ cenv s₄ =>
     codeAny (model X.prog X.w) X.A (.compStart (.ListComp elt [⟨tg,iter,ifs,0⟩] sc pos) 0 (.ref it) acc { cenv with scope:=relabel sc X.env }) (RR acc cenv.locals) s₄) E s₃) E s2:=by
 unfold qA0 at ck;simp only[zB4,zBn,zB1] at ck;obtain⟨⟨⟨hkind,G⟩,Q⟩,S⟩:=ck;have hcell:∀ y∈sc.names,y.2≠.cell:=λ y U e=>by
   have:=(Q y U).1.1
   rw[e] at this;exact absurd this (by decide)
 have hfree:∀ y∈sc.names,y.2=.free->(X.env.kindOf y.1=some .cell∨X.env.kindOf y.1=some .free):=λ y U e=>by
   have:=(Q y U).2
   rw[e] at this;show X.env.scope.names.lookup y.1=some .cell∨X.env.scope.names.lookup y.1=some .free;simpa using this
 have clsub:∀ x c,(Fi X.env sc.names []).lookup x=some c->X.env.cells.lookup x=some c:=λ x c e=>by
   rcases qaj0 _ _ x c (PySem.mem_of_lookup e) with h | ⟨h,q⟩
   . simp at h
   obtain⟨d,M⟩:=I2.ok.has x (hfree _ h rfl);rw[M] at q;rw[M,q];rfl
 refine wpAny_newObj_type (wpAny_newFunctionEnv hcell (by intro y U;simp at U) (λ h₁ hns₁ hsb₁=>?_) hkind);dsimp only at hns₁ hsb₁ ⊢;have I3:=I2.lnew (ys:=[]) (its:=[]) (t':=s2.toks) .nil (zBe _);have hD:H2 s2.heap.objs.size=none:=I2.fresh;generalize t:s2.heap.objs.size=D at hns₁ hsb₁ I3 hD ⊢;generalize V:s2.heap.push { cls:=.type "list",dict:=none,data:=.seq ([]:List V').toArray }=h3 at hns₁ hsb₁ I3 ⊢;have Z:h3.objs.size=D+1:=by rw[<- V,Heap.size_push,t]
 generalize s:h3.objs.size=C at hns₁ hsb₁ Z ⊢;have I3:Ly X E3 σ (upd H2 D (.l [])) { s2 with heap:=h3,toks:=s2.toks }:=I3;have B:∀ b o,h3.get? b=some o->h₁.get? b=some o:=λ b o e=>hsb₁.extBut b o (by rw[<- s];exact zAj (zA9 e)) (zA2 _ e)
 have a0:∀ b o,h3.get? b=some o->b≠C:=λ b o e=>by rw[<- s];exact zAj (zA9 e)
 have a1:X.env.locals≠C:=by rw[<- s];exact zAj I3.lt
 have b0:∀ x c,X.env.cells.lookup x=some c->c≠C:=λ x c e=>by
   obtain⟨v,o,F,_⟩:=I3.cell x c e;exact a0 c o F
 have a2:∀ b∈fp,b≠C:=λ b f=>by
   obtain⟨o,F,_⟩:=T.obj _ _ I b f
   have:=zA9 F
   rw[t] at this;exact zAj (Nat.lt_trans this (by rw[Z];exact zC3 _))
 have b1:∀ b∈fp,b≠D:=λ b f=>by
   obtain⟨o,F,_⟩:=T.obj _ _ I b f
   have:=zA9 F
   rw[t] at this;exact zAj this
 have a3:∀ b o,s2.heap.get? b=some o->h3.get? b=some o:=λ b o e=>by rw[<- V];exact zA2 _ e
 have pinC:∀ p∈X.pn++E3,p.1≠C:=λ p hp=>a0 _ _ (I3.pin p hp).1
 have a4:C∉X.fs:=by rw[<- s];exact I3.nofs (zA6 _)
 have b2:X.s₀.heap.objs.size<=C:=by rw[<- s];exact I3.sz
 have stkC:∀ b∈frs X.stack,b≠C:=λ b f e=>by
   rcases zAm.mp (I3.stkSub b f) with z | z
   . exact a1 (z.symm.trans e)
   exact a4 (e ▸ z)
 have HC:upd H2 D (.l []) C=none:=I3.hok.fresh (by show h3.objs.size<=C;exact Nat.le_of_eq s);have a5:∀ b∈fp,b∉frs X.stack:=λ b f z=>by
   obtain⟨_,h1,h2,_⟩:=f2 b f;rcases zAm.mp (I2.stkSub b z) with q | q
   . exact h1 q
   exact h2 q
 let Y:Cx:=qi8 X NY sc C { s2 with heap:=h3 } (upd H2 D (.l [])) fp
 have a6:(Em σ src).length=NY.length:=by unfold Em;rw[zAd];exact G
 have IY:Ly Y [] (Em σ src) (upd H2 D (.l [])) { s2 with heap:=h₁,toks:=s2.toks+0 }:=by
   refine⟨⟨I2.ok.mod,hkind,I2.ok.glob,I2.ok.blt,(by show h3.objs.size<=C;exact Nat.le_of_eq s),λ x y c h1 h2=>I2.ok.inj x y c (clsub x c h1) (clsub y c h2),λ x hx=>?_,λ _ _ z _=>(zAk z).elim,I2.ok.hd,I2.ok.frames,.inl rfl,λ b f=>⟨a2 b f,λ x c e=>(f2 b f).2.2.2.2.1 x c (clsub x c e)⟩,
     λ b o e=>?_,?_,λ b o e f=>?_,λ b f=>a5 b f,?_,λ b f=>?_⟩,rfl,I2.bare,Un.kept B,⟨_,hns₁,λ i x v e1 e2 e3=>?_⟩,λ x c e=>?_,HC,λ x c e=>I3.freeC x c (clsub x c e),λ p hp=>absurd (show p∈([]:List (γ×Obj)) from hp) (by simp),I3.hok.kept B,a6⟩
   . have hx:=qp8 hcell hx
     exact qz0 (qR3 _ _ _ (PySem.mem_of_lookup hx))
   . exact I3.bs b o e
   . exact zAp I2.ok.bsz (zAp (zAp I2.sz (by rw[t];exact zA6 _)) (by show D<=h3.objs.size;lia))
   . rcases (f2 b f).2.2.2.1 with z | z
     . exact I2.ok.noex b o e z
     exact absurd (zAg (zA9 (I2.ok.bs b o e).1) z) (zBy _)
   . exact I3.stack
   . exact I3.stkFree b f
   . -- a captured name
     have hi:i < src.length:=by
       have:=(zA5.mp e2).1
       rw[a6,<- G] at this;exact this
     have e1:NY[i]? = some x:=e1;have es:src[i]? = some src[i]:=by simp[hi]
     have ep:(Em σ src)[i]? = some (match src[i] with | none=>none | some j=>(σ[j]?).getD none):=by
       unfold Em;rw[zB6,es];rfl
     rw[ep] at e2;cases hj:src[i] with
     | none=>rw[hj] at e2;cases e2
     | some j =>
       rw[hj] at e2;have e2:(σ[j]?).getD none=some v:=Option.some.inj e2;have ej:σ[j]? = some (some v):=by
         cases q:σ[j]? with
         | none=>rw[q] at e2;cases e2
         | some o=>rw[q] at e2;rw[show o=some v from e2]
       have hm:(x,some j)∈NY.zip src:=by
         have:(NY.zip src)[i]? = some (x,some j):=by
           rw[List.getElem?_zip_eq_some];exact⟨e1,by rw[es,hj]⟩
         exact zBa this
       have q:=S _ hm;simp only[zB4,zBn] at q;obtain⟨qN,qf⟩:=q;have H:=hfree _ (PySem.mem_of_lookup qf) rfl;obtain⟨m,hn,hl⟩:=I3.loc;obtain⟨u,r,l⟩:=hl j x v qN ej (H.elim (λ z=>.inr (.inl z)) λ z=>.inr (.inr z));refine⟨u,r,.inr ⟨qh3 qf,?_⟩⟩;rcases l with⟨z,_⟩ | ⟨_,c,ec,o,F,M⟩
       . have H:X.env.kindOf x=some .cell∨X.env.kindOf x=some .free:=H
         rw[z] at H;rcases H with H | H<;>cases H
       obtain⟨c',a7⟩:=qz0 (qR3 (env:=X.env) sc.names [] x (PySem.mem_of_lookup qf))
       have:=clsub x c' a7
       rw[ec] at this;cases this;exact⟨c,a7,o,B c o F,M⟩
   obtain⟨v,o,F,M⟩:=I3.cell x c (clsub x c e);exact⟨v,o,B c o F,M⟩
 have st₁:tn 0 h₁:=T.keep _ _ _ I λ b f o e=>B b o (a3 b o e)
 have stat:∀{H':Hp},(∀ b∈fp,H' b=none)->∀ b∈fp,Gh Y [] H' b:=λ hn b f=>by
   refine⟨hn b f,a2 b f,a5 b f,.inl f,λ x c e=>(f2 b f).2.2.2.2.1 x c (clsub x c e),λ p hp=>absurd (show p∈([]:List (γ×Obj)) from hp) (by simp)⟩
 have loop:codeAny (model X.prog X.w) X.A (.compLoop (.ListComp elt [⟨tg,iter,ifs,0⟩] sc pos) 0 (.ref it) (.ref D) Y.env) (RR (.ref D) C) { s2 with heap:=h₁,toks:=s2.toks+0 }:=by
   obtain⟨W,⟨m0,w0⟩,turn⟩:=rd D hD;refine qo2 (λ n s'=>∃ i σ' H',Ly Y [] σ' H' s'/\tn i s'.heap/\(∀ b∈fp,H' b=none)/\W i n σ' H') ?_ m0 ⟨0,_,_,IY,st₁,λ b f=>by rw[qb4 (b1 b f)];exact(f2 b f).1,w0⟩;rintro n s3 ⟨i,σ3,H3,J3,a8,a9,w3⟩;rcases turn i n σ3 H3 w3 with⟨stop,qn⟩ | ⟨go,N,hN,step⟩
   . refine thn (T.done Y rfl rfl rfl hc i [] s3 σ3 H3 _ J3 (stat a9) a8 stop) λ r s4 k=>?_
     obtain⟨hr,J4⟩:=k;subst hr;have b3:H3 C=none:=J4.free;refine fin D C H3 s4 ?_ qn b3 b2 (Ne.symm a1) b0 pinC a4 (let ⟨m,hn,_⟩:=J4.loc;⟨m,hn⟩);refine I2.call' (ch:=fp) J4.os ?_ J4.hok J4.bare λ b f=>?_
     . have u1:Un (frs X.stack) fp H2 (upd H2 D (.l [])) s2.heap h3:=Un.laid a3 (Nat.le_of_eq t) hD
       exact u1.trans J4.base
     obtain⟨_,h1,_,b4,h4,h5⟩:=f2 b f;exact⟨b4,h1,h4,h5⟩
   refine thn (T.item Y rfl rfl rfl hc i [] s3 σ3 H3 _ J3 (stat a9) a8 go) λ r s4 k=>?_
   obtain⟨u,hr,h4⟩:=k;subst hr;refine thn h4 λ _ s5 k=>?_
   obtain⟨x,H5,J5,r5,y5,L,b5⟩:=k;have J5':=J5.pinned (stat b5) (T.obj _ _ L);have again:∀{σ7:St}{H7:Hp}{O:δ},Ly Y ([]++I9 fp s5.heap) σ7 H7 O->N σ7 H7->∃ m,m < n/\∃ i σ' H',Ly Y [] σ' H' O/\tn i O.heap/\(∀ b∈fp,H' b=none)/\W i m σ' H':=λ{σ7 H7 O} I7 n7=>by
     obtain⟨m',hm,w7⟩:=hN σ7 H7 n7;refine⟨m',hm,i+1,σ7,H7,I7.unpinned,T.keep _ _ _ L λ b f o e=>(I7.pin (b,o) (zAq _ (zAq _ (qp7 f e)))).1,λ b f=>?_,w7⟩;obtain⟨o,e,d⟩:=T.obj _ _ L b f;exact(I7.pin (b,o) (zAq _ (zAq _ (qp7 f e)))).2.1
   refine thn (hg C _ _ _ s5 σ3 H5 x u _ J5' r5 (step x H5 y5)) λ _ s6 k=>?_
   obtain⟨σ6,H6,J6,q6⟩:=k;refine thn (hf C _ _ _ s6 σ6 H6 _ J6 q6) λ ok O k=>?_
   obtain⟨H7,J7,q7⟩:=k;cases ok with
   | false=>exact again J7 (by simpa using q7)
   | true =>
     rw[if_pos rfl] at q7 ⊢;refine thn (he C _ _ _ O σ6 H7 _ J7 q7) λ y s8 k=>?_
     obtain⟨v,H8,J8,r8,xs,b6,b7,q8⟩:=k;refine thn (qc6 (X:=Y) _ s8 σ6 H8 (.ref D) [v] (.ref D) [y] (λ _ H'=>N σ6 H') J8 rfl (.cons r8 .nil) ⟨D,xs,v,rfl,rfl,b6,b7,q8⟩) λ _ s9 k=>?_
     obtain⟨_,H9,J9,_,q9⟩:=k;exact again J9 q9
 exact codeAny_compStart_list loop (T.self _ 0 _ _ _ st₁ loop)
end
def E9(wi:TI)(src:List (Option Nat))(g:TG)(tf:TT)(te:TE):TE:=λ σ H Q=>wi σ H λ J H1=>∀ D,H1 D=none->qH5 J g tf te D (λ H'=>Q (.ref D) H') (Em σ src) (upd H1 D (.l []))
section
variable{X:Cx}{elt tg iter:Expr}{ifs:List Expr}{sc:Scope}{pos:Pos}{NY:List Str}{src:List (Option Nat)}{wi:TI}{g:TG}{tf:TT}{te:TE}
theorem qL4(b:qA0 X NY src sc=true):sc.kind=.function/\(∀ y∈sc.names,y.2=.local->sc.names.lookup y.1=some .local)/\(∀ y∈sc.names,y.2=.free->(X.env.kindOf y.1=some .cell∨X.env.kindOf y.1=some .free)):=by
 unfold qA0 at b;simp only[zB4,zBn,zB1] at b;obtain⟨⟨⟨hkind,d⟩,a⟩,f⟩:=b;refine⟨hkind,λ y c e=>?_,λ y c e=>?_⟩
 . have:=(a y c).1.2
   rw[e] at this;simpa using this
 have:=(a y c).2
 rw[e] at this;show X.env.scope.names.lookup y.1=some .cell∨X.env.scope.names.lookup y.1=some .free;simpa using this
theorem qI8(NY:List Str)(src:List (Option Nat))(hi:PI X tg iter wi)(n:∀ C a H0 ex,PG (qi8 X NY sc C a H0 ex) tg g)(p:∀ C a H0 ex,PFs (qi8 X NY sc C a H0 ex) ifs tf)(r:∀ C a H0 ex,PE (qi8 X NY sc C a H0 ex) elt te)(t:X.calm=true:=by rfl)(l:qA0 X NY src sc=true:=by rfl)(u:∀ x,Ks iter X.env x=pure x:=by intro _;rfl):PE X (.ListComp elt [⟨tg,iter,ifs,0⟩] sc pos) (E9 wi src g tf te):=by
 intro E3 s σ H Q I h;obtain⟨hkind,hnames,hfree⟩:=qL4 l;rw[eval_ListComp];refine wpAny_comprehension_free (use:=none) rfl u (qL5 λ x y e=>I.ok.has x.1 (hfree x y e)) hkind hnames ?_;refine thn (hi E3 s σ H _ I h) λ v O c=>thn c λ z P d=>?_
 obtain⟨B,f,S,J,H2,rfl,I2,T,i,f2,E⟩:=d;refine qW1 (R:=λ D H'=>Q (.ref D) H') (RR:=λ j C=>compPost (model X.prog X.w) X.A X.xe none (EP X E3 σ Q) j C) l t I2 T i f2 (λ C a H0=>n C a H0 f) (λ C a H0=>p C a H0 f) (λ C a H0=>r C a H0 f) E ?_;intro D C H' F I' q G c d K L U ⟨m,M⟩;refine⟨m,M,λ V k=>⟨.ref D,H',?_,rfl,q⟩⟩;exact I'.turned (t':=F.toks) (it:=C) (λ b o N e=>k.extBut b o N e) G d (.inr c) K L
theorem qaH9(i:Nat){px spos:Pos}(NY:List Str)(src:List (Option Nat))(L:X.N.Nodup)(hi:PI X tg iter wi)(M:∀ C a H0 ex,PG (qi8 X NY sc C a H0 ex) tg g)(O:∀ C a H0 ex,PFs (qi8 X NY sc C a H0 ex) ifs tf)(P:∀ C a H0 ex,PE (qi8 X NY sc C a H0 ex) elt te)(k:X.N[i]? = some x:=by rfl)(l:Loc X.env.scope x:=by first | exact Or.inl rfl | exact Or.inr rfl)(S:X.calm=true:=by rfl)(F:qA0 X NY src sc=true:=by rfl)(n:swapsWith (.ListComp elt [⟨tg,iter,ifs,0⟩] sc pos) (some (.Name x px)) spos.line X.env=pure true:=by rfl)(U:∀ x,Ks iter X.env x=pure x:=by intro _;rfl)(r:X.fn x=true∨X.env.scope.names.lookup x=some .local:=by first | exact .inl rfl | exact .inr rfl | assumption):PS X (.Assign [.Name x px] (.ListComp elt [⟨tg,iter,ifs,0⟩] sc pos) spos) (Ib (E9 wi src g tf te) (Fo i)):=by
 intro E3 s σ H D I h;obtain⟨hkind,hnames,hfree⟩:=qL4 F;rw[exec_Assign_Name_used _ _ _ _ n];refine G' (wpAny_standAt (G' ?_));show wpAny _ _ (do let _ <- comprehension (.ListComp elt [⟨tg,iter,ifs,0⟩] sc pos) sc X.env _ (newList []) false (eval iter X.env) (some (assign (.Name x px) X.env))) _ _ s;refine G' (K6 (wpAny_comprehension_free (use:=some (assign (.Name x px) X.env)) (Q:=λ _ c=>SP X E3 D .next c) rfl U (qL5 λ x l e=>I.ok.has x.1 (hfree x l e)) hkind hnames ?_) (λ _ c V=>J' (J' V)) λ _ _ e=>e);refine thn (hi E3 s σ H _ I h) λ v s1 t=>thn t λ W s2 j=>?_
 obtain⟨Y,u,tn,J,H2,rfl,I2,T,y,f2,Z⟩:=j;refine qW1 (R:=λ D' H'=>Fo i (.ref D') σ H' D.nx) (RR:=λ B C=>compPost (model X.prog X.w) X.A X.xe (some (assign (.Name x px) X.env)) (λ _ c=>SP X E3 D .next c) B C) F S I2 T y f2 (λ C a H0=>M C a H0 u) (λ C a H0=>O C a H0 u) (λ C a H0=>P C a H0 u) Z ?_;intro D' C H' c I' q G t j h3 h4 h5 ⟨m,hn⟩;obtain⟨o,es,ep,ho,K,hr⟩:=hn;have Ip:Ly X (E3++[(C,o)]) σ H' c:=I'.pins_of λ p hp=>(zAb.mp hp).elim (λ z=>I'.pin p (zAq _ z)) λ z=>by
   have e:p=(C,o):=by simpa using z
   subst e;exact⟨ho,G,j,h5,λ v e=>by rw[K] at e;cases e⟩
 show wpAny _ _ (assign (.Name x px) X.env (.ref D')) _ _ _;refine wpAny_assign_Name (qM9 (v:=.ref D') Ip L k l rfl (λ d I''=>?_) r);have f:d.heap.get? C=some o:=(I''.pin (C,o) (by simp)).1;refine⟨m,⟨o,es,ep,f,K,hr⟩,λ h' E=>⟨_,H',?_,q⟩⟩;exact I''.unpinned.turned (t':=d.toks) (it:=C) (λ b o hb e=>E.extBut b o hb e) G j (.inr t) h3 h4
end
theorem qW0{K:W.Frag}{D:γ}{g:TG}{tf:TT}{te:TE}{R:Hp->Prop}{σ:St}(Pv:Nat->St->Hp->Prop)(c:Pv 0 σ H)(d:∀ i σ H,i<=xs.length->Pv i σ H->SqL K H a xs)(f:∀ i x σ H,xs[i]? = some x->Pv i σ H->g x σ H λ σ2 H2=>tf σ2 H2 λ h H3=>if h=true then te σ2 H3 λ v H4=>∃ ys,H4 D=some (.l ys)/\ys.length < Kq/\Pv (i+1) σ2 (upd H4 D (.l (ys++[v]))) else Pv (i+1) σ2 H3)(j:∀ σ H,Pv xs.length σ H->R H) :
   qH5 (Itl K a) g tf te D R σ H:=by
 refine⟨λ i m σ H=>m=xs.length - i/\i<=xs.length/\Pv i σ H,⟨xs.length,by simp,zBe _,c⟩,?_⟩;rintro i m σ H ⟨rfl,k,p⟩;have q:=d i σ H k p;by_cases b:i < xs.length
 . refine .inr ⟨⟨xs,xs[i],q,by simp[b]⟩,Pv (i+1),λ σ' H' l=>⟨xs.length - (i+1),by lia,rfl,b,l⟩,λ x H' y=>?_⟩
   obtain⟨e,y⟩:=y;subst e;exact f i x σ _ (y xs q) p
 have e:i=xs.length:=by lia
 subst e;exact .inl ⟨⟨xs,q,zA6 _⟩,j σ H p⟩
section
variable{X:Cx}
theorem sset(i:Nat){te:TE}{pos pos':Pos}(a:X.N.Nodup)(b:PE X e te)(hi:X.N[i]? = some x:=by rfl)(c:Loc X.env.scope x:=by first | exact Or.inl rfl | exact Or.inr rfl)(d:swapsWith e (some (.Name x pos')) pos.line X.env=pure false:=by rfl)(f:X.fn x=true∨X.env.scope.names.lookup x=some .local:=by first | exact .inl rfl | exact .inr rfl | assumption):PS X (.Assign [.Name x pos'] e pos) (Ib te (Fo i)):=qaH7 a hi c b d f
theorem gnm(i:Nat){pos:Pos}(a:X.N.Nodup)(hi:X.N[i]? = some x:=by rfl)(b:Loc X.env.scope x:=by first | exact Or.inl rfl | exact Or.inr rfl)(c:X.fn x=true∨X.env.scope.names.lookup x=some .local:=by first | exact .inl rfl | exact .inr rfl | assumption):PG X (.Name x pos) (Fo i):=qat2 a hi b c
def CDivB(_ j:Int):Prop:=0 < j/\j < 2 ^ 200
theorem qF5:OpR X (Lb .FloorDiv) (rI CDivB λ i j=>.int (i / j)):=opI λ i j _ _ _ _ _ a q=>by
 have c:(0:Int) < j:=a.1;have d:j < 2 ^ 200:=a.2;refine floordiv_int (by lia) (by rw[Int.fdiv_eq_ediv_of_nonneg i (by lia)];exact q) (.inl (PyProof.noPylong_of_log2 ?_));have b:j.natAbs < 2 ^ 200:=by lia
 have e:j.natAbs.log2 < 200:=(Nat.log2_lt (by lia)).mpr b;lia
theorem qaI8{j:Int}(k:Int){a b:Nat}{q pos:Pos}(c:i ^ j.toNat=k:=by decide)(d:0<=j:=by decide)(h1:j<=1000000:=by decide)(h2:i.natAbs < 2 ^ 64:=by decide):PE X (.BinOp (.Constant (.int i) a p) .Pow (.Constant (.int j) b q) pos) (tC (.int k)):=by
 intro E3 s σ H Q I h;refine(pe_op qaS7 qI7 qI7) E3 s σ H Q I ⟨_,_,rfl,rfl,⟨d,h1,h2⟩,?_⟩;show Q (.int (i ^ j.toNat)) H;rw[c];exact h
theorem qaT1:OpR X (Kr .Is) (λ x y H Q=>∃ b c,x=.bl b/\y=.bl c/\Q (.bl (b == c)) H):=by
 intro E3 s σ H x y v u Q I a d h;obtain⟨b,c,rfl,rfl,q⟩:=h;cases a;cases d;exact is_bool ⟨.bl _,H,I,rfl,q⟩
def Bj(H:Hp):V->Option String
 | .non=>some "NoneType" | .bl _=>some "bool" | .int _=>some "int" | .str _=>some "str"
 | .ref a=>match H a with
   | some (.l _)=>some "list" | some (.q _)=>some "tuple" | some (.dK _)=>some "dict" | some (.frz _ (.l _))=>some "list"
   | _=>none
 | _=>none
noncomputable def Ie(t n:String):Bool:=t == n||(t == "bool" && n == "int")
theorem qaL9(K:W.Frag){t n:String}(a:t∈["NoneType", "bool", "int", "str", "list", "tuple", "dict"])(b:n∈["bool", "int", "str", "list", "tuple", "dict"]):W.kitOne K (.type t) (.type n)=some (Ie t n):=by
 simp only[zAm,zBs,or_false] at a b;rcases a with rfl | rfl | rfl | rfl | rfl | rfl | rfl<;>rcases b with rfl | rfl | rfl | rfl | rfl | rfl<;>rfl
theorem qag5{K:W.Frag}{x:V}{t:String}(h:Bj H x=some t):E5 K H x (.type t)/\t∈["NoneType", "bool", "int", "str", "list", "tuple", "dict"]:=by
 cases x with
 | non=>cases h;exact⟨.non,by decide⟩
 | bl b=>cases h;exact⟨.bl b,by decide⟩
 | int b=>cases h;exact⟨.int b,by decide⟩
 | str b=>cases h;exact⟨.str b,by decide⟩
 | byt b=>cases h
 | flt b=>cases h
 | ty b=>cases h
 | ref a =>
   unfold Bj at h;dsimp only at h;split at h
   . cases h;exact⟨.l (by assumption),by decide⟩
   . cases h;exact⟨.q (by assumption),by decide⟩
   . cases h;exact⟨.dK (by assumption),by decide⟩
   . cases h;exact⟨.frz (by assumption),by decide⟩
   cases h
def rIsi:List V->Hp->VK->Prop:=λ xs H Q=>∃ x n t,xs=[x,.ty n]/\Bj H x=some t/\n∈["bool", "int", "str", "list", "tuple", "dict"]/\Q (.bl (Ie t n)) H
theorem qf7:CallR X (.builtin "isinstance") rIsi:=by
 intro E3 s σ H i j Q I r h;obtain⟨x,n,t,rfl,b,c,q⟩:=h;obtain⟨u,k,rfl,d,a⟩:=Hi r;cases a;obtain⟨e,f⟩:=qag5 (K:=X.K) b;exact qG3 I d e (qaL9 X.K f c) λ g=>⟨.bl _,H,I.tok g,rfl,q⟩
theorem qaz2(n:String){pos:Pos}(hm:X.mg x=none)(a:Gl X x:=by rfl)(b:Ku x=some (.type n):=by rfl)(c:x ≠ "__name__" := by decide)(d:N' x:=by decide):PE X (.Name x pos) (tC (.ty n)):=qaJ3 a hm b rfl c d
theorem qat6{n:Int}{t:Tok}{pos:Pos}(hm:X.mg x=some (.int n t))(a:Gl X x:=by rfl)(b:N' x:=by decide):PE X (.Name x pos) (tC (.int n)):=qat5 a hm ⟨t,rfl⟩ b
theorem cbi{id:String}{r:List V->Hp->VK->Prop}{pos:Pos}(c:CallR X (.builtin id) r)(hm:X.mg x=none)(d:PA X (e::es) t)(f:Gl X x:=by rfl)(g:Ku x=some (.builtin id):=by rfl)(h:x ≠ "__name__" := by decide)(a:N' x:=by decide)(i:Ko (e::es) X.env=(false,eval e X.env)::Ko es X.env:=by rfl)(b:(backTo pos (Ko es X.env)).any (·.1)=false:=by rfl):PE X (.Call (.Name x p) (e::es) [] pos) (tCB r t):=qaz3 c f hm g d h a i b
theorem cty{id:String}{r:List V->Hp->VK->Prop}{pos:Pos}(c:CallR X (.type id) r)(hm:X.mg x=none)(d:PA X (e::es) t)(f:Gl X x:=by rfl)(g:Ku x=some (.type id):=by rfl)(h:x ≠ "__name__" := by decide)(a:N' x:=by decide)(i:Ko (e::es) X.env=(false,eval e X.env)::Ko es X.env:=by rfl)(b:(backTo pos (Ko es X.env)).any (·.1)=false:=by rfl):PE X (.Call (.Name x p) (e::es) [] pos) (tCB r t):=qan0 c f hm g d h a i b
end
theorem ix{X:Cx}{a b:Expr}{ta tb:TE}{pos:Pos}{r:R2}(c:IxR X r)(d:PE X a ta)(e:PE X b tb)(f:qak3 b:=by exact λ _ _=>rfl):PE X (.Subscript a b pos) (tOp r ta tb):=pe_ix c d e f
def rGetL:V->V->Hp->VK->Prop:=λ o i H Q=>∃ p xs k v,o=.ref p/\i=.int k/\H p=some (.l xs)/\0<=k/\xs[k.toNat]? = some v/\Q v H
theorem qaC5{X:Cx}:PGet X rGetL:=by
 intro E3 s σ H o i w y Q I c d h;obtain⟨p,z,k,v,rfl,rfl,e,f,b,q⟩:=h;cases c;obtain⟨t,rfl⟩:=d;obtain⟨a,n,r,g,A⟩:=I.l e;obtain⟨u,j,l⟩:=r.get b;have m:=(zA5.mp b).1;have B:=qQ1;refine wpAny_getItem_list (items:=a.toArray) (x:=u) ⟨_,g,rfl,n,rfl⟩ f (by lia) (by simpa using j) ⟨v,H,I,l,q⟩
theorem qaX4{xs:List α}(b:0<=i)(h1:i < xs.length):∃ v,xs[i.toNat]? = some v/\atI xs i=some v:=by
 have a:i.toNat < xs.length:=by lia
 have e:(i.toNat:Int)=i:=by lia
 refine⟨xs[i.toNat],by simp[a],?_⟩
 have:=qL7 (xs:=xs) (j:=i.toNat) (v:=xs[i.toNat]) (by simp[a])
 rw[e] at this;exact this
theorem qL8{xs:List α}(a:0<=i)(h1:i < xs.length):∃ v,v∈xs/\atI xs i=some v:=by
 obtain⟨v,h,e⟩:=qaX4 a h1;exact⟨v,zBa h,e⟩
theorem qag3(h:H a=some (.l xs)):Bj H (.ref a)=some "list" := by
 unfold Bj;dsimp only;rw[h]
theorem qaB8(h:H a=some (.q xs)):Bj H (.ref a)=some "tuple" := by
 unfold Bj;dsimp only;rw[h]
theorem qau6{xs:List (Key×V)}(h:H a=some (.dK xs)):Bj H (.ref a)=some "dict" := by
 unfold Bj;dsimp only;rw[h]
theorem Same.new{q:γ}{u:HO}(h:H q=none):Same H (upd H q u):=λ b o e=>by rw[qb4 (qc2 e h)];exact e
structure Df(K:W.Frag)(mg:Str->Option V')(x qual:Str)(st:Stmt)(f:γ)(fd:ε)(ps:List Str):Prop where
 F:Fun K x qual st f fd
 b:Binds K fd ps []
 m:mg x=some (.ref f)
theorem dfmk{K:W.Frag}{mg:Str->Option V'}{qual:Str}{st:Stmt}{f:γ}{ps:List Str}{oc:V'}{j d:Option γ}{i:Array (Option V')}{kV b e a g:V'}(l:K.lookup f=some ⟨oc,j,.func (W.fnOf x qual (qe4 st) (qd0 st) (qa3 st) .none kV b e d a g),i⟩)(c:W.codeIn K a qual=true)(k:W.keepIn K (.ref f)=true)(m:mg x=some (.ref f))(h:∀(kV b e:V')(d:Option γ)(a g:V')(us:List V'),us.length=ps.length->bindArgs (W.fnOf x qual (qe4 st) (qd0 st) (qa3 st) .none kV b e d a g) ⟨us,[]⟩=pure (ps.zip us)) :
   Df K mg x qual st f (W.fnOf x qual (qe4 st) (qd0 st) (qa3 st) .none kV b e d a g) ps:=⟨qao7 l c k,(qao7 l c k).binds h,m⟩
theorem Hk{X:Cx}{qual:Str}{st:Stmt}{f:γ}{fd:ε}{ps:List Str}{k:Nat}{sp:Sp}{pos:Pos}(D:Df X.K X.mg x qual st f fd ps)(G:B6 X.prog X.w X.K X.mg X.base CX0 k f fd ps sp)(d:Room k X.A)(g:PA X (e::es) t)(h:Gl X x:=by rfl)(a:N' x:=by decide)(i:Ko (e::es) X.env=(false,eval e X.env)::Ko es X.env:=by rfl)(c:(backTo pos (Ko es X.env)).any (·.1)=false:=by rfl):PE X (.Call (.Name x p) (e::es) [] pos) (Jb sp [] (λ _=>E0) t) :=
 qat7 G d h D.m D.F.kp D.b .nil pass0 g a i c
end L2
namespace LB
open PySem PySem.Spec PyProof.Rows
theorem qQ0:typeLookup (.type "list") "keys" = pure none:=by rw[typeLookup_type,builtinLookup_eq_fast];kernel_rfl
theorem qB7:typeLookup (.type "list") "__getattr__" = pure none:=by rw[typeLookup_type,builtinLookup_eq_fast];kernel_rfl
section
variable{prog:Program}{w:World}{A:Around}{E:V'->δ->Prop}{h:Heap}{g:Array GenState}{d:Drawn}{t:Nat}{os:OsState}{a:γ}{its:Array V'}{n:Nat}
theorem qB8{b:Tok}{Q:PySem.Fin->δ->Prop}(c:h.get? a=some { cls:=.type "list",data:=.seq its n })(f:A.handled=none)(i:∀ h' b e,Heap.NewAttrErr h h' e (.ref a) "keys" -> E (.ref e) ⟨h',g,d,b,os⟩) :
   wpAny (model prog w) A (Builtin.«object.__getattribute__» ⟨[.ref a,.str "keys" b],[]⟩) Q E ⟨h,g,d,t,os⟩:=by
 have j:(⟨h,g,d,t,os⟩:δ).TypeIs (.ref a) "list" := ⟨_,c,rfl⟩
 have k:=qQ0
 repeat (any_goals (first | assumption | wp_step))
 refine wpAny_raiseAttrError f ?_ (attrMsg_fits (by decide +kernel) (by decide +kernel));exact i
theorem qG2{Q:Option V'->δ->Prop}(i:h.get? a=some { cls:=.type "list",data:=.seq its n })(k:A.handled=none)(l:∀ h' f,(∀ b o,h.get? b=some o->h'.get? b=some o)->Q none ⟨h',g,d,f,os⟩) :
   wpAny (model prog w) A (getAttr? (.ref a) "keys") Q E ⟨h,g,d,t,os⟩:=by
 have j:∀ f,(⟨h,g,d,f,os⟩:δ).TypeIs (.ref a) "list" := λ _=>⟨_,i,rfl⟩
 have m:=j t;have f1:=sub_AttributeError;have f2:=F.slot_list_getattribute.lookup;have f3:=F.slot_list_getattribute.bind (.ref a);have p:=qB7;unfold getAttr? getAttrBy? getAttrBy
 repeat (any_goals (first | assumption | wp_step))
 refine codeAny_call_builtin F.slot_list_getattribute.plain F.entry_list_ga (F.slot_list_getattribute.check _ _ _ _ _ _ _ _ (j _) (F.args_list_getattribute_2 _ _) (qB8 i k λ h' f e c=>?_));obtain⟨q,r,s⟩:=c.there;show wpAny _ _ (getattributeRaised _ _ _ _ _ _ _) _ _ _;unfold getattributeRaised
 repeat (any_goals (first | assumption | wp_step))
 exact l _ _ c.keeps
end
theorem qm5:entryFor table "dict.update.loop" = some Builtin.«dict.update.loop»:=entryFor_of_tree (by kernel_rfl)
theorem qe7:plainId "dict.update.loop" = true:=by decide +kernel
section
variable{prog:Program}{w:World}{K:Type}[DecidableEq K]{knd:KeyKind prog w K}{A:Around}{R:Result->δ->Prop}
theorem qaq2(X:A.handled=none){I ax d:γ}{items:Array V'}(z:ax≠I)(h:d≠I)(B:ax≠d):∀(rest:List (K×V'))(i:Nat)(ix:Int)(kvs:List (K×V'))(s:δ),
   (∀(j:Nat) a,rest[j]? = some a->∃ t f,items[i+j]? = some (.ref t)/\IsTup s.heap t #[f,a.2]/\knd.is a.1 f=true/\t≠I/\t≠d)->items.size=i+rest.length ->
   s.heap.IsListIter I ax i->s.heap.IsList ax items->s.heap.DictOf knd d kvs->kvs.length+rest.length<=Kq ->
   (∀ h' C,h'.DictOf knd d (rest.foldl (λ acc a=>stored acc a.1 a.2) kvs)->(∀ b o,b≠I->b≠d->s.heap.get? b=some o->h'.get? b=some o)->R (.ok (.ret .none)) { s with heap:=h',toks:=C }) ->
   codeAny (model prog w) A (.builtin "dict.update.loop" ⟨[.ref d,.ref I,rawInt ix,.none],[]⟩) R s:=by
 intro rest
 induction rest with
 | nil =>
   intro i ix kvs s D g k x E Q F;refine codeAny_builtin qm5 ?_;rw[Around.under_plainId qe7 _];show wpAny _ A.in1 (pyNext (.ref I) >>= _) _ _ s;refine G' (wpAny_pyNext_list_end X k x (by simp at g;simp[g]) λ h' S=>?_);show wpAny _ _ (Builtin.Dict.addKeywords d [] >>= _) _ _ _;refine G' (J' (J' ?_));have l:h'.DictOf knd d kvs:=by
     obtain⟨o,G,H,m,r⟩:=E;exact⟨o,G,H,S d o h m,r⟩
   exact F h' s.toks l λ b o y _ e=>S b o y e
 | cons a rest Y =>
   intro i ix kvs s D g k x E Q F;obtain⟨t,f,Z,h2,h3,h4,h5⟩:=D 0 a rfl;refine codeAny_builtin qm5 ?_;rw[Around.under_plainId qe7 _];show wpAny _ A.in1 (pyNext (.ref I) >>= _) _ _ s;refine G' (wpAny_pyNext_list_item k x Z λ h' p q=>?_);have J:IsTup h' t #[f,a.2]:=h2.extBut q.extBut h4;obtain⟨o,m,L,n,M⟩:=J;refine G' (Kt ?_);refine G' (wpAny_tryCatch ?_);unfold Builtin.Dict.pairItems;refine G' (wpAny_typeOf (T := "tuple") ⟨o,m,L⟩ ?_);rw[if_pos (by decide)];refine G' (wpAny_seqItems m M (J' ?_));dsimp only[Option.getD];have l:h'.DictOf knd d kvs:=by
     obtain⟨o,G,H,m,r⟩:=E;exact⟨o,G,H,q.extBut d o h m,r⟩
   simp only[zAi] at Q g;show wpAny _ _ (holding [f,a.2] (dictSet d f a.2)) _ _ _;refine Kt (wpAny_dictSet_pairs (hsz:=by lia) h3 l λ a0 u c=>?_);refine J' ⟨plainId_quiet qe7 _,?_⟩;have U:(stored kvs a.1 a.2).length<=kvs.length+1:=by
     unfold stored;split
     . rw[zAd];lia
     rw[zA7];simp
   refine Y (i+1) (ix+1) (stored kvs a.1 a.2) _ (λ j N hj=>?_) (by lia) ?_ ?_ u (by lia) λ O C P k3=>?_
   . obtain⟨t',key',g1,g2,g3,V,W⟩:=D (j+1) N hj
     exact⟨t',key',by rw[show i+1+j=i+(j+1) by lia];exact g1,(g2.extBut q.extBut V).extBut c.extBut W,g3,V,W⟩
   . exact p.at λ o e=>c.extBut I o (Ne.symm h) e
   . exact(x.at λ o e=>q.extBut ax o z e).at λ o e=>c.extBut ax o B e
   exact F O C P λ b o y v e=>k3 b o y v (c.extBut b o v (q.extBut b o y e))
end
end LB
namespace L2
open PySem PySem.Spec PyProof.Rows
section
variable{X:Cx}
theorem KV.fold:∀{more:List (Key×V)}{a:List (Key×V')}{kvs:List (Key×V)}{vs:List (Key×V')},KV more a->KV kvs vs->KV (qB6 kvs more) (a.foldl (λ acc b=>stored acc b.1 b.2) vs):=by
 intro more a kvs vs r;unfold KV at r
 induction r generalizing kvs vs with
 | nil=>intro q;exact q
 | @cons p q _ _ h _ ih =>
   intro c;show KV (qB6 (putK kvs p.1 p.2) _) (List.foldl _ (stored vs q.1 q.2) _);refine ih ?_;rw[<- h.1];exact c.put p.1 h.2
def qaw1(H:Hp)(ys:List V)(kvs:List (Key×V)):Prop:=Paired (λ y (a:Key×V)=>∃ t,y=.ref t/\H t=some (.q [kV a.1,a.2])) ys kvs
def qaH3:List V->Hp->VK->Prop:=λ xs H Q=>∃ a ys kvs,xs=[.ref a]/\H a=some (.l ys)/\qaw1 H ys kvs/\∀ p,H p=none->Q (.ref p) (upd H p (.dK (qB6 [] kvs)))
theorem qL6(hc:X.calm=true):CallR X (.type "dict") qaH3:=by
 intro E3 s σ H xs us Q I r h;obtain⟨a,ys,g,rfl,ha,N,q⟩:=h;obtain⟨u,rfl,ru⟩:=B8 r;cases ru;have hh:=I.ok.hd hc;obtain⟨z,f,n,rv,O,e⟩:=I.lstM ha;obtain⟨x,J,P⟩:∃ x:List (Key×V'),KV g x/\∀(j:Nat) k,x[j]? = some k->∃ t i,f[j]? = some (.ref t)/\IsTup s.heap t #[i,k.2]/\(qg0 X.prog X.w).is k.1 i=true:=by
   clear q e O n ha z
   induction N generalizing f with
   | nil=>exact⟨[],.nil,λ j k C=>by simp at C⟩
   | @cons y k ys g hy _ ih =>
     cases rv with
     | @cons _ u _ us' hu hr =>
       obtain⟨t,rfl,ht⟩:=hy;cases hu;obtain⟨_,its',rt,o,p,R,n,S⟩:=I.hok t _ ht;obtain⟨i,U,rfl,r1,r2⟩:=rt.two;obtain⟨x,J,P⟩:=ih _ hr;refine⟨(k.1,U)::x,.cons ⟨rfl,r2⟩ J,λ j V C=>?_⟩;cases j with
       | zero=>cases C;exact⟨t,i,rfl,⟨o,p,R,n,S⟩,Je r1⟩
       | succ j=>exact P j V C
 have D:x.length=f.length:=by rw[<- O,<- Paired.length J,<- Paired.length N]
 have big:=I.big;obtain⟨c,gn,dr,W,Y⟩:=s;refine callType_codes (Q₁:=λ E s₁=>E=.ref c.objs.size/\s₁={ heap:=c.push { cls:=.type "dict",data:=.dict #[] },gens:=gn,drawn:=dr,toks:=W,os:=Y }) F.kt_called_dict (F.kt_typeCall_dict_1 _) F.entry_dict_init (kt_code_dict_new _ ⟨rfl,rfl⟩) ?_;rintro E s₁ ⟨rfl,rfl⟩;have l:(c.push { cls:=.type "dict",data:=.dict #[] }).DictOf (qg0 X.prog X.w) c.objs.size []:=Heap.DictOf.new c;have Z:(c.push { cls:=.type "dict",data:=.dict #[] }).get? a=some { cls:=.type "list",data:=.seq f.toArray n }:=zA2 _ e;have G:a < c.objs.size:=zA9 e;refine⟨l.typeIs,F.args_dict_init_2 _ _,?_⟩;unfold Builtin.«dict.__init__»;refine G' ?_;unfold Builtin.Dict.selfAndRest;refine G' (wpAny_notOrdered_dict l.typeIs ?_);show wpAny _ _ (pure (c.objs.size,[Value.ref a])) _ _ _;refine J' ?_;show wpAny _ _ (Builtin.Dict.updateFrom "dict.__init__" c.objs.size (.ref a) [] .none) _ _ _;unfold Builtin.Dict.updateFrom;refine G' (wpAny_typeOf (T := "list") ⟨_,Z,rfl⟩ ?_);rw[if_pos (by decide)];refine G' (LB.qG2 Z hh λ B a2 K=>?_);rw[if_pos (by rfl)];have e1:B.get? a=some { cls:=.type "list",data:=.seq f.toArray n }:=K _ _ Z;have d1:B.DictOf (qg0 X.prog X.w) c.objs.size []:=by
   obtain⟨o,L,M,p,r⟩:=l;exact⟨o,L,M,K _ _ p,r⟩
 refine G' (K7 ?_);have hlist:B.IsList a f.toArray:=⟨_,e1,rfl,n,rfl⟩
 refine G' (wpAny_pyIter_list hlist ?_);have v:c.objs.size < B.objs.size:=by
   obtain⟨o,L,M,p,r⟩:=d1;exact zA9 p
 refine J' ⟨plainId_quiet LB.qe7 _,?_⟩;refine LB.qaq2 (knd:=qg0 X.prog X.w) (A:=X.A.in1) hh (I:=B.objs.size) (ax:=a) (d:=c.objs.size) (items:=f.toArray) (zAj (Nat.lt_trans G v)) (zAj v) (zAj G) x 0 0 [] _ (λ j k C=>?_) (by simp[D]) ?_ ?_ ?_ ?_ λ h2 a0 d2 k2=>?_
 . obtain⟨t,i,g1,g2,g3⟩:=P j k C
   obtain⟨o,p,r⟩:=g2;have m:=zA9 p;exact⟨t,i,by simpa using g1,⟨o,zA2 _ (K _ _ (zA2 _ p)),r⟩,g3,zAj (Nat.lt_trans m v),zAj m⟩
 . exact⟨_,zAu _ rfl,rfl,rfl⟩
 . exact⟨_,zA2 _ e1,rfl,n,rfl⟩
 . obtain⟨o,L,M,p,r⟩:=d1
   exact⟨o,L,M,zA2 _ p,r⟩
 . simp only[zC6,zAs];rw[D,<- O];exact z
 refine⟨rfl,?_⟩;have hf:H c.objs.size=none:=I.hok.fresh (zA6 _);have keep:∀ b o,c.get? b=some o->h2.get? b=some o:=λ b o eb=>by
   have m:=zA9 eb;exact k2 b o (zAj (Nat.lt_trans m v)) (zAj m) (zA2 _ (K _ _ (zA2 _ eb)))
 have rm:KV (qB6 [] g) (x.foldl (λ a1 k=>stored a1 k.1 k.2) []):=KV.fold J .nil;have hz:(qB6 [] g).length<=Kq:=by
   have B:=qt9 g [];have h2:=Paired.length N;simp only[zC6] at B;lia
 refine⟨.ref c.objs.size,_,I.laid (t':=a0) (o:=.dK (qB6 [] g)) keep (zA6 _) ?_,rfl,q _ hf⟩;exact⟨hz,zBj.mpr (Ne.symm (zAj big)),_,rm,d2⟩
end
section
variable{X:Cx}
theorem qH1(w:X.calm=true):CallR X (.builtin "all") (λ xs H Q=>∃(a:γ)(c:List Bool),xs=[.ref a]/\SqL X.K H a (c.map V.bl)/\Q (.bl (c.all id)) H):=by
 intro E3 s σ H xs F Q I r h;obtain⟨a,c,rfl,y,q⟩:=h;obtain⟨u,rfl,l⟩:=B8 r;cases l;have z:=I.ok.hd w;obtain⟨f,m,n,G⟩:=I.list y;refine call_all_walk (wpAny_pyIter_list n.isList ?_);have p:a < s.heap.objs.size:=let ⟨o,ho,_⟩:=n.isList;zA9 ho
 refine⟨s.heap.objs.size,_,_,_,_,_,λ i=>c.getD i false,rfl,Walks.list (A:=X.A.in1) z _ a (zAj p) f.toArray,⟨⟨_,zAu _ rfl,rfl,rfl⟩,?_⟩,?_,?_⟩
 . exact n.isList.at λ o e=>zA2 _ e
 . intro i v B Q1 E1 g j
   have g:f[i]? = some v:=by simpa using g
   have d:i < c.length:=by
     have J:=(zA5.mp g).1;have k:=m.length;rw[zAd] at k;lia
   obtain⟨u,t,l⟩:=m.get (i:=i) (x:=.bl c[i]) (by simp[d]);rw[g] at t;cases t;cases l;refine Kv ?_;have e:c.getD i false=c[i]:=by simp[List.getD,d]
   have j:Q1 (c.getD i false) B:=j;rw[e] at j;exact j
 intro L C D;have e:(List.range f.toArray.size).all (λ i=>c.getD i false)=c.all id:=by
   have k:=m.length;rw[zAd] at k;rw[zA3,<- k];rw[Bool.eq_iff_iff];simp only[zB1,zAo,id_eq];constructor
   . intro h b E
     obtain⟨i,d,rfl⟩:=List.mem_iff_getElem.mp E
     have:=h i d
     simpa[List.getD,d] using this
   intro h i d
   have:=h c[i] (List.getElem_mem d)
   simpa[List.getD,d] using this
 rw[e];refine⟨.bl _,H,?_,rfl,q⟩;exact I.kept (t':=C) λ b o e=>D b o (by simp;exact zAj (zA9 e)) (zA2 _ e)
noncomputable def ql5(ns:List Int):Nat:=(firstMet (λ i=>ns.getD i 0) ns.length).length
def rSetI(K:W.Frag):List V->Hp->VK->Prop:=λ xs H Q=>∃(a:γ)(ns:List Int),xs=[.ref a]/\SqL K H a (ns.map V.int)/\ns.length<=1000/\∀ p S,H p=none->Q (.ref p) (upd H p (.set S (ql5 ns)))
theorem qaq6(k:X.calm=true):CallR X (.type "set") (rSetI X.K):=by
 intro E3 s σ H x y Q I r h;obtain⟨a,f,rfl,l,z,q⟩:=h;obtain⟨u,rfl,m⟩:=B8 r;cases m;have n:=I.ok.hd k;obtain⟨c,i,p,A⟩:=I.list l;have d:c.length=f.length:=by
   have:=i.length
   rw[zAd] at this;exact this.symm
 have t:IntsAre c f:=qah1 i;refine call_set_list (items:=c.toArray) n p.isList (by simpa using t) (by rw[zA3,d];show f.length+1 < 4096;lia) λ B v j w=>?_
 have g:c.toArray.size=f.length:=by rw[zA3,d]
 rw[g] at j;refine⟨.ref s.heap.objs.size,_,I.laid (t':=v) (o:=.set _ (ql5 f)) (λ b o e=>w b o (zA9 e) e) (zA6 _) j,rfl,q _ _ (I.hok.fresh (zA6 _))⟩
theorem qaq8:CallR X (.builtin "len") (λ xs H Q=>∃(a:γ)(S:Int->Bool)(n:Nat),xs=[.ref a]/\H a=some (.set S n)/\Q (.int n) H):=by
 intro E3 s σ H xs l Q I r h;obtain⟨a,S,n,rfl,d,q⟩:=h;obtain⟨u,rfl,e⟩:=B8 r;cases e;obtain⟨o,f,m,t,g,b,i,_,_,c,j,k⟩:=I.hok a _ d;subst k;have c:f.size < 4096:=c;exact call_len_set g b i j (by lia) ⟨.int _,H,I.tok _,⟨_,rfl⟩,q⟩
end
theorem qQ9(ns:List Int):ql5 ns=ns.length↔ns.Nodup:=by
 have f:∀ i,i<=ns.length->(∀ k,k∈firstMet (λ i=>ns.getD i 0) i↔k∈ns.take i)/\((firstMet (λ i=>ns.getD i 0) i).length=i↔(ns.take i).Nodup):=by
   intro i
   induction i with
   | zero=>intro _;rw[firstMet_zero];simp
   | succ i m =>
     intro r;obtain⟨c,l⟩:=m (by lia);have n:=firstMet_length_le (λ i=>ns.getD i 0) i;have b:i < ns.length:=by lia
     have o:ns.take (i+1)=ns.take i++[ns[i]]:=by rw[List.take_add_one];simp[b]
     have p:ns.getD i 0=ns[i]:=by simp[List.getD,b]
     rw[firstMet_succ,o,p];unfold step_dedup;by_cases d:ns[i]∈firstMet (λ i=>ns.getD i 0) i
     . have a:ns[i]∈ns.take i:=(c _).mp d
       have g:(firstMet (λ i=>ns.getD i 0) i).any (· == ns[i])=true:=List.any_eq_true.mpr ⟨_,d,by simp⟩;rw[if_pos g];refine⟨λ k=>?_,?_⟩
       . rw[c];simp only[zAb,zA8]
         exact⟨.inl,λ h=>h.elim id λ e=>by rw[e];exact a⟩
       constructor
       . intro h;lia
       intro h;rw[zBd] at h;exact absurd rfl (h.2.2 _ a _ (zA8.mpr rfl))
     have a:¬ ns[i]∈ns.take i:=λ h=>d ((c _).mpr h)
     have g:¬ (firstMet (λ i=>ns.getD i 0) i).any (· == ns[i])=true:=λ h=>by
       obtain⟨x,j,e⟩:=List.any_eq_true.mp h;exact d (by rw[<- (zBn.mp e)];exact j)
     rw[if_neg g];refine⟨λ k=>?_,?_⟩
     . simp only[zAb,zA8]
       rw[c]
     rw[zA7,zBd];simp only[List.length_singleton];constructor
     . intro h
       refine⟨l.mp (by lia),by simp,λ x j y q=>?_⟩;rw[zA8.mp q];exact λ e=>a (e ▸ j)
     intro h
     have:=l.mpr h.1
     lia
 have:=(f ns.length (zA6 _)).2
 rw[zBr (zA6 _)] at this;exact this
end L2
namespace LD
open PySem PySem.SeqAt MeetsSeq
open AutoSeq1 (wpAny_loadPart')
variable{b l:γ}{dd:Option γ}{n:Nat}{sl:Array (Option V')}
theorem qaD6(l b:γ)(es:Array DictEntry)(items2:Array V')(n e:Nat)(dd a:Option γ)(sl c:Array (Option V')) :
   Meets (Builtin.«dict.__eq__» ⟨[.ref l,.ref b],[]⟩) (λ _ R s=>s.heap.get? l=some { cls:=.type "dict",dict:=dd,data:=.dict es n,slots:=sl }/\s.heap.get? b=some { cls:=.type "tuple",dict:=a,data:=.seq items2 e,slots:=c }/\R (.ok (.ret .notImplemented)) s) :=
 .of_wp λ prog w A R s h=>by obtain⟨j,g,d,k,m⟩:=s;obtain⟨f,i,h⟩:=h;have f1:=F.sub_tuple_dict;wp_walk using wpAny_loadPart' f,wpAny_loadPart' i;exact⟨_,rfl,h⟩
theorem qaw3(l b:γ)(es:Array DictEntry)(items2:Array V')(n e:Nat)(dd a:Option γ)(sl c:Array (Option V')) :
   Meets (Builtin.«tuple.__eq__» ⟨[.ref b,.ref l],[]⟩) (λ _ R s=>s.heap.get? l=some { cls:=.type "dict",dict:=dd,data:=.dict es n,slots:=sl }/\s.heap.get? b=some { cls:=.type "tuple",dict:=a,data:=.seq items2 e,slots:=c }/\R (.ok (.ret .notImplemented)) s) :=
 .of_wp λ prog w A R s h=>by obtain⟨j,g,d,k,m⟩:=s;obtain⟨f,i,h⟩:=h;have f1:=F.sub_dict_tuple;wp_walk using wpAny_loadPart' f,wpAny_loadPart' i;exact⟨_,rfl,h⟩
theorem qaA7(l b:γ)(es:Array DictEntry)(items2:Array V')(n e:Nat)(dd a:Option γ)(sl c:Array (Option V')) :
   Meets (Builtin.«dict.__ne__» ⟨[.ref l,.ref b],[]⟩) (λ _ R s=>s.heap.get? l=some { cls:=.type "dict",dict:=dd,data:=.dict es n,slots:=sl }/\s.heap.get? b=some { cls:=.type "tuple",dict:=a,data:=.seq items2 e,slots:=c }/\R (.ok (.ret .notImplemented)) s) :=
 .of_wp λ prog w A R s h=>by obtain⟨j,g,d,k,m⟩:=s;obtain⟨f,i,h⟩:=h;have f1:=F.sub_tuple_dict;wp_walk using wpAny_loadPart' f,wpAny_loadPart' i;exact⟨_,rfl,h⟩
theorem qaw2(l b:γ)(es:Array DictEntry)(items2:Array V')(n e:Nat)(dd a:Option γ)(sl c:Array (Option V')) :
   Meets (Builtin.«tuple.__ne__» ⟨[.ref b,.ref l],[]⟩) (λ _ R s=>s.heap.get? l=some { cls:=.type "dict",dict:=dd,data:=.dict es n,slots:=sl }/\s.heap.get? b=some { cls:=.type "tuple",dict:=a,data:=.seq items2 e,slots:=c }/\R (.ok (.ret .notImplemented)) s) :=
 .of_wp λ prog w A R s h=>by obtain⟨j,g,d,k,m⟩:=s;obtain⟨f,i,h⟩:=h;have f1:=F.sub_dict_tuple;wp_walk using wpAny_loadPart' f,wpAny_loadPart' i;exact⟨_,rfl,h⟩
theorem for0{β:Type}{m:Type->Type}[Monad m](b:β)(f:Nat->β->m (ForInStep β)):forIn [:0] b f=(pure b:m β):=by
 simp
theorem same0{M:Model}{A:Around}{E:V'->δ->Prop}{s:δ}{Q:Bool->δ->Prop}{id:String}{e:Nat}{a:Option γ}{c:Array (Option V')}(h1:(l == K4)=false)(h2:(b == K4)=false)(d:s.heap.get? l=some { cls:=.type "dict",dict:=dd,data:=.dict #[] n,slots:=sl })(f:s.heap.get? b=some { cls:=.type "dict",dict:=a,data:=.dict #[] e,slots:=c })(h:Q true s):wpAny M A (Builtin.Dict.samePairs id l b) Q E s:=by
 unfold Builtin.Dict.samePairs Builtin.Dict.showsAll;rw[if_neg (by rw[h1];decide),if_neg (by rw[h2];decide)];refine G' (J' (G' (J' ?_)));refine G' (wpAny_dictEntries d rfl ?_);refine G' (wpAny_dictEntries f rfl ?_);rw[if_neg (by decide)];refine G' (wpAny_dictEpoch d rfl ?_);have g:(#[]:Array DictEntry).size=0:=rfl;simp only[g];rw[for0];exact G' (J' (J' h))
theorem qaN7(l b:γ)(n i:Nat)(dd a:Option γ)(sl c:Array (Option V'))(h1:(l == K4)=false)(h2:(b == K4)=false) :
   Meets (Builtin.«dict.__eq__» ⟨[.ref l,.ref b],[]⟩) (λ _ R s=>s.heap.get? l=some { cls:=.type "dict",dict:=dd,data:=.dict #[] n,slots:=sl }/\s.heap.get? b=some { cls:=.type "dict",dict:=a,data:=.dict #[] i,slots:=c }/\R (.ok (.ret (.bool true))) s) :=
 .of_wp λ prog w A R s h=>by
   obtain⟨j,g,d,k,m⟩:=s;obtain⟨e,f,h⟩:=h;have f1:isSubtype (.type "dict") (.type "dict")=pure true:=F.sub_dict_dict
   wp_walk using wpAny_loadPart' e,wpAny_loadPart' f,same0 h1 h2 e f
   exact⟨_,rfl,h⟩
theorem qaK7(l b:γ)(n i:Nat)(dd a:Option γ)(sl c:Array (Option V'))(h1:(l == K4)=false)(h2:(b == K4)=false) :
   Meets (Builtin.«dict.__ne__» ⟨[.ref l,.ref b],[]⟩) (λ _ R s=>s.heap.get? l=some { cls:=.type "dict",dict:=dd,data:=.dict #[] n,slots:=sl }/\s.heap.get? b=some { cls:=.type "dict",dict:=a,data:=.dict #[] i,slots:=c }/\R (.ok (.ret (.bool false))) s) :=
 .of_wp λ prog w A R s h=>by
   obtain⟨j,g,d,k,m⟩:=s;obtain⟨e,f,h⟩:=h;have f1:isSubtype (.type "dict") (.type "dict")=pure true:=F.sub_dict_dict
   wp_walk using wpAny_loadPart' e,wpAny_loadPart' f,same0 h1 h2 e f
   exact⟨_,rfl,h⟩
section
variable{A:Around}{s:δ}
theorem qas6{f:Nat}{c:Option γ}{d:Array (Option V')}(h1:(l == K4)=false)(h2:(b == K4)=false)(e:s.heap.get? l=some { cls:=.type "dict",dict:=dd,data:=.dict #[] n,slots:=sl })(a:s.heap.get? b=some { cls:=.type "dict",dict:=c,data:=.dict #[] f,slots:=d })(g:A.units < cLine):RcAt A s (.ref l) (.ref b) true/\RcNeAt A s (.ref l) (.ref b) false :=
 ⟨λ prog w E Q h=>richCompare_meets_room (op:=.Eq) ⟨_,e,rfl⟩ ⟨_,a,rfl⟩ F.slot_dict_eq F.entry_dict_eq (F.args_dict_eq_2 _ _) (qaN7 l b n f dd c sl d h1 h2) ⟨e,a,show Value.bool true≠Value.notImplemented/\Q (.bool true) s from⟨(λ x=>nomatch x),h⟩⟩ g,
  λ prog w E Q h=>richCompare_meets_room (op:=.NotEq) ⟨_,e,rfl⟩ ⟨_,a,rfl⟩ F.slot_dict_ne F.entry_dict_ne (F.args_dict_ne_2 _ _) (qaK7 l b n f dd c sl d h1 h2) ⟨e,a,show Value.bool false≠Value.notImplemented/\Q (.bool false) s from⟨(λ x=>nomatch x),h⟩⟩ g⟩
theorem rc_dt{es:Array DictEntry}{items2:Array V'}(c:s.heap.get? l=some { cls:=.type "dict",dict:=dd,data:=.dict es n,slots:=sl })(r:s.heap.IsTuple b items2)(q:A.units < cLine):RcAt A s (.ref l) (.ref b) false/\RcNeAt A s (.ref l) (.ref b) true:=by
 obtain⟨⟨cls2,f,data2,g⟩,a,i,p,j⟩:=id r;simp only at i j;subst i j;have m:l≠b:=λ e=>by
   subst e;rw[c] at a
   have:=congrArg (λ o:Option Obj=>o.map (·.cls)) a
   simp at this
 exact⟨λ prog w E Q h=>rc_eq_decline_or (k:=false) ⟨_,c,rfl⟩ ⟨_,a,rfl⟩ (by decide) F.sub_tuple_dict F.slot_dict_eq F.slot_tuple_eq_refl
     (λ _ d=>K9 F.slot_dict_eq ⟨_,c,rfl⟩ F.entry_dict_eq (F.args_dict_eq_2 _ _) (qaD6 l b es items2 n p dd f sl g) ⟨c,a,d⟩)
     (λ _ d=>K9 F.slot_tuple_eq_refl ⟨_,a,rfl⟩ F.entry_tuple_eq (F.args_tuple_eq_2 _ _) (qaw3 l b es items2 n p dd f sl g) ⟨c,a,d⟩)
     (λ _ d=>wpAny_isSame_ref_other m c a (by simp) d) (.inr q) h,
   λ prog w E Q h=>rc_ne_decline_or (k:=false) ⟨_,c,rfl⟩ ⟨_,a,rfl⟩ (by decide) F.sub_tuple_dict F.slot_dict_ne F.slot_tuple_ne_refl
     (λ _ d=>K9 F.slot_dict_ne ⟨_,c,rfl⟩ F.entry_dict_ne (F.args_dict_ne_2 _ _) (qaA7 l b es items2 n p dd f sl g) ⟨c,a,d⟩)
     (λ _ d=>K9 F.slot_tuple_ne_refl ⟨_,a,rfl⟩ F.entry_tuple_ne (F.args_tuple_ne_2 _ _) (qaw2 l b es items2 n p dd f sl g) ⟨c,a,d⟩)
     (λ _ d=>wpAny_isSame_ref_other m c a (by simp) d) (.inr q) h⟩
end
end LD
namespace L2
open PySem PySem.Spec PyProof.Rows PySem.SeqAt
variable{A:Around}{a:γ}{xs:List V}
inductive EqD(H:Hp):Nat->V->V->Bool->Prop
 | flat {n:Nat} {x y:V} (hx:flatV x=true) (hy:flatV y=true):EqD H n x y (eqV x y)
 | same {n:Nat} (a:γ):EqD H n (.ref a) (.ref a) true
 | lsts {n:Nat} {a b:γ} {xs ys:List V} {e:Nat->Bool} (ne:a≠b) (ha:H a=some (.l xs)) (hb:H b=some (.l ys)) (hl:xs.length=ys.length) (he:∀ i x y,xs[i]? = some x->ys[i]? = some y->EqD H n x y (e i)):EqD H (n+1) (.ref a) (.ref b) ((List.range xs.length).all e)
 | lens {n:Nat} {a b:γ} {xs ys:List V} (ne:a≠b) (ha:H a=some (.l xs)) (hb:H b=some (.l ys)) (hl:xs.length≠ys.length):EqD H (n+1) (.ref a) (.ref b) false
 | tups {n:Nat} {a b:γ} {xs ys:List V} {e:Nat->Bool} (ne:a≠b) (ha:H a=some (.q xs)) (hb:H b=some (.q ys)) (he:∀ i x y,xs[i]? = some x->ys[i]? = some y->EqD H n x y (e i)):EqD H (n+1) (.ref a) (.ref b) ((List.range (min xs.length ys.length)).all e&&xs.length == ys.length)
 | dcts {n:Nat} {a b:γ} (ne:a≠b) (ha:H a=some (.dK [])) (hb:H b=some (.dK [])):EqD H n (.ref a) (.ref b) true
inductive RcD(H:Hp):V->V->Bool->Prop
 | flat {x y:V} (hx:flatV x=true) (hy:flatV y=true):RcD H x y (eqV x y)
 | lsts {a b:γ} {xs ys:List V} {e:Nat->Bool} (ha:H a=some (.l xs)) (hb:H b=some (.l ys)) (hl:xs.length=ys.length) (he:∀ i x y,xs[i]? = some x->ys[i]? = some y->EqD H 20 x y (e i)):RcD H (.ref a) (.ref b) ((List.range xs.length).all e)
 | lens {a b:γ} {xs ys:List V} (ha:H a=some (.l xs)) (hb:H b=some (.l ys)) (hl:xs.length≠ys.length):RcD H (.ref a) (.ref b) false
 | tups {a b:γ} {xs ys:List V} {e:Nat->Bool} (ha:H a=some (.q xs)) (hb:H b=some (.q ys)) (he:∀ i x y,xs[i]? = some x->ys[i]? = some y->EqD H 20 x y (e i)):RcD H (.ref a) (.ref b) ((List.range (min xs.length ys.length)).all e&&xs.length == ys.length)
 | lt {a b:γ} {xs ys:List V} (ha:H a=some (.l xs)) (hb:H b=some (.q ys)):RcD H (.ref a) (.ref b) false
 | tl {a b:γ} {xs ys:List V} (ha:H a=some (.q xs)) (hb:H b=some (.l ys)):RcD H (.ref a) (.ref b) false
 | lf {a:γ} {xs:List V} {y:V} (ha:H a=some (.l xs)) (hy:flatV y=true):RcD H (.ref a) y false
 | fl {a:γ} {xs:List V} {y:V} (ha:H a=some (.l xs)) (hy:flatV y=true):RcD H y (.ref a) false
 | tf {a:γ} {xs:List V} {y:V} (ha:H a=some (.q xs)) (hy:flatV y=true):RcD H (.ref a) y false
 | ft {a:γ} {xs:List V} {y:V} (ha:H a=some (.q xs)) (hy:flatV y=true):RcD H y (.ref a) false
 | dcts {a b:γ} (ha:H a=some (.dK [])) (hb:H b=some (.dK [])):RcD H (.ref a) (.ref b) true
 | dt {a b:γ} {kvs:List (Key×V)} {ys:List V} (ha:H a=some (.dK kvs)) (hb:H b=some (.q ys)):RcD H (.ref a) (.ref b) false
section
variable{X:Cx}{E3:List (γ×Obj)}{σ:St}{H:Hp}{s:δ}
theorem Ly.lstI(I:Ly X E3 σ H s)(h:H a=some (.l xs)):∃ its:List V',Lw xs its/\s.heap.IsList a its.toArray:=by
 obtain⟨z,its,n,r,_,e⟩:=I.lstM h;exact⟨its,r,_,e,rfl,n,rfl⟩
theorem Ly.tupI(I:Ly X E3 σ H s)(h:H a=some (.q xs)):∃ its:List V',Lw xs its/\s.heap.IsTuple a its.toArray:=by
 obtain⟨z,its,r,o,b,c,n,d⟩:=I.hok a _ h;exact⟨its,r,o,b,c,n,d⟩
theorem Ly.dK0(I:Ly X E3 σ H s){kvs:List (Key×V)}(h:H a=some (.dK kvs)):(a == K4)=false/\∃ es n,s.heap.get? a=some { cls:=.type "dict",dict:=none,data:=.dict es n,slots:=#[] }/\(kvs=[]->es = #[]):=by
 obtain⟨_,i,p,j,o,es,k,m,⟨b,c,d⟩,f,_,g,_⟩:=I.hok a _ h;obtain⟨q,r,t,u⟩:=o;simp only at b c d f;subst b c d f;refine⟨i,es,k,m,λ e=>?_⟩;subst e;cases j;have e:es.toList=[]:=by
   generalize es.toList=l at g;cases g;rfl
 exact Array.toList_eq_nil_iff.mp e
theorem qv1(A:Around):A.in1.units<=A.units+1:=zA6 _
theorem qR9{P:V->V->Nat->Prop}{e:Nat->Bool}{ys:List V}{its its2:List V'}(r:Lw xs its)(a:Lw ys its2)(k:∀ i x y u v,xs[i]? = some x->ys[i]? = some y->Lv x u->Lv y v->EqAt A s u v (e i)) :
   ∀ j (h1:j < its.toArray.size) (h2:j < its2.toArray.size),EqAt A s its.toArray[j] its2.toArray[j] (e j):=by
 intro j h1 h2;rw[zA3] at h1 h2;have h:=r.length;have l:=a.length;obtain⟨u,b,d⟩:=r.get (i:=j) (x:=xs[j]'(by lia)) (by simp);obtain⟨v,c,f⟩:=a.get (i:=j) (x:=ys[j]'(by lia)) (by simp);have g:its.toArray[j]=u:=by
   have:its[j]? = some its[j]:=by simp[h1]
   rw[this] at b;simpa using Option.some.inj b
 have e2:its2.toArray[j]=v:=by
   have:its2[j]? = some its2[j]:=by simp[h2]
   rw[this] at c;simpa using Option.some.inj c
 rw[g,e2];exact k j _ _ u v (by simp) (by simp) d f
theorem EqD.at(I:Ly X E3 σ H s){n:Nat}{x y:V}{b:Bool}(h:EqD H n x y b):∀{A:Around}{u v:V'},Lv x u->Lv y v->A.units+n+1 < cLine->EqAt A s u v b:=by
 induction h with
 | flat w z=>intro A u v c d _;exact qaN8 c d w z
 | same a=>intro A u v c d _;cases c;cases d;exact EqAt.same _
 | @lsts n a b xs ys e ne ha hb hl he ih =>
   intro A u v c d k;cases c;cases d;obtain⟨f,r,p⟩:=I.lstI ha;obtain⟨its2,g,j⟩:=I.lstI hb;have B:f.toArray.size=its2.toArray.size:=by rw[zA3,zA3,<- r.length,<- g.length,hl]
   have q:=EqAt.of_refs ne (RcAt.lists (A:=A) p j B (by lia) (e:=e) (qR9 (P:=λ _ _ _=>True) r g λ i x y u v l e2 o t=>ih i x y l e2 o t (by have:=qv1 A;lia)));rw[zA3,<- r.length] at q;exact q
 | @lens n a b xs ys ne ha hb hl =>
   intro A u v c d k;cases c;cases d;obtain⟨f,r,p⟩:=I.lstI ha;obtain⟨its2,g,j⟩:=I.lstI hb;exact EqAt.of_refs ne (RcAt.lists_lengths p j (by rw[zA3,zA3,<- r.length,<- g.length];simpa using hl) (by lia))
 | @tups n a b xs ys e ne ha hb he ih =>
   intro A u v c d k;cases c;cases d;obtain⟨f,r,p⟩:=I.tupI ha;obtain⟨its2,g,j⟩:=I.tupI hb;have q:=EqAt.of_refs ne (RcAt.tuples (A:=A) p j (by lia) (e:=e) (qR9 (P:=λ _ _ _=>True) r g λ i x y u v l e2 o t=>ih i x y l e2 o t (by have:=qv1 A;lia)));rw[zA3,zA3,<- r.length,<- g.length] at q;exact q
 | @dcts n a b ne ha hb =>
   intro A u v c d k;cases c;cases d;obtain⟨C,L,m,D,E⟩:=I.dK0 ha;obtain⟨F,G,M,J,K⟩:=I.dK0 hb;cases E rfl;cases K rfl;exact EqAt.of_refs ne (LD.qas6 C F D J (by lia)).1
theorem RcD.at(I:Ly X E3 σ H s){x y:V}{b:Bool}(h:RcD H x y b){u v:V'}(d:Lv x u)(c:Lv y v)(Q:A.units+60 < cLine):RcAt A s u v b/\RcNeAt A s u v (!b):=by
 cases h with
 | flat J o =>
   cases x with
   | non =>
     cases d;cases y with
     | non=>cases c;exact⟨RcAt.none_none,RcNeAt.none_none⟩
     | bl b=>cases c;exact⟨RcAt.none_bool b,RcNeAt.none_bool b⟩
     | int b=>obtain⟨t,rfl⟩:=c;exact⟨RcAt.none_int b t,RcNeAt.none_int b t⟩
     | str b=>obtain⟨t,rfl⟩:=c;exact⟨RcAt.none_str b t,RcNeAt.none_str b t⟩
     | _=>exact absurd (show false=true from o) zAk
   | bl a =>
     cases d;cases y with
     | non=>cases c;exact⟨RcAt.bool_none a,RcNeAt.bool_none a⟩
     | bl b=>cases c;exact⟨RcAt.bool_bool a b,RcNeAt.bool_bool a b⟩
     | int b=>obtain⟨t,rfl⟩:=c;exact⟨RcAt.bool_int a b t,RcNeAt.bool_int a b t⟩
     | str b=>obtain⟨t,rfl⟩:=c;exact⟨RcAt.bool_str a b t,RcNeAt.bool_str a b t⟩
     | _=>exact absurd (show false=true from o) zAk
   | int a =>
     obtain⟨j,rfl⟩:=d;cases y with
     | non=>cases c;exact⟨RcAt.int_none a j,RcNeAt.int_none a j⟩
     | bl b=>cases c;exact⟨RcAt.int_bool a j b,RcNeAt.int_bool a j b⟩
     | int b=>obtain⟨t,rfl⟩:=c;exact⟨RcAt.int_int a j b t,RcNeAt.int_int a j b t⟩
     | str b=>obtain⟨t,rfl⟩:=c;exact⟨RcAt.int_str a j b t,RcNeAt.int_str a j b t⟩
     | _=>exact absurd (show false=true from o) zAk
   | str a =>
     obtain⟨j,rfl⟩:=d;cases y with
     | non=>cases c;exact⟨RcAt.str_none a j,RcNeAt.str_none a j⟩
     | bl b=>cases c;exact⟨RcAt.str_bool a j b,RcNeAt.str_bool a j b⟩
     | int b=>obtain⟨t,rfl⟩:=c;exact⟨RcAt.str_int a j b t,RcNeAt.str_int a j b t⟩
     | str b=>obtain⟨t,rfl⟩:=c;exact⟨RcAt.str_str a j b t,RcNeAt.str_str a j b t⟩
     | _=>exact absurd (show false=true from o) zAk
   | _=>exact absurd (show false=true from J) zAk
 | @lsts a b xs ys e f n hl he =>
   cases d;cases c;obtain⟨g,r,p⟩:=I.lstI f;obtain⟨its2,q,l⟩:=I.lstI n;have w:g.toArray.size=its2.toArray.size:=by rw[zA3,zA3,<- r.length,<- q.length,hl]
   have k:=qR9 (P:=λ _ _ _=>True) (e:=e) (A:=A.in1) (s:=s) r q λ i x y u v B e2 C D=>(he i x y B e2).at I C D (by have:=qv1 A;lia)
   have z:=RcAt.lists p l w (by lia) k;have q2:=RcNeAt.lists p l w (by lia) k;rw[zA3,<- r.length] at z q2;exact⟨z,q2⟩
 | @lens a b xs ys f n hl =>
   cases d;cases c;obtain⟨g,r,p⟩:=I.lstI f;obtain⟨its2,q,l⟩:=I.lstI n;have w:(g.toArray.size != its2.toArray.size)=true:=by rw[zA3,zA3,<- r.length,<- q.length];simpa using hl
   exact⟨RcAt.lists_lengths p l w (by lia),RcNeAt.lists_lengths p l w (by lia)⟩
 | @tups a b xs ys e f n he =>
   cases d;cases c;obtain⟨g,r,p⟩:=I.tupI f;obtain⟨its2,q,l⟩:=I.tupI n;have k:=qR9 (P:=λ _ _ _=>True) (e:=e) (A:=A.in1) (s:=s) r q λ i x y u v B e2 C D=>(he i x y B e2).at I C D (by have:=qv1 A;lia)
   have z:=RcAt.tuples p l (by lia) k;have q2:=RcNeAt.tuples p l (by lia) k;rw[zA3,zA3,<- r.length,<- q.length] at z q2;exact⟨z,q2⟩
 | lt f n =>
   cases d;cases c;obtain⟨g,r,p⟩:=I.lstI f;obtain⟨its2,q,l⟩:=I.tupI n;exact⟨RcAt.list_tuple p l (by lia),RcNeAt.list_tuple p l (by lia)⟩
 | tl f n =>
   cases d;cases c;obtain⟨g,r,p⟩:=I.tupI f;obtain⟨its2,q,l⟩:=I.lstI n;exact⟨RcAt.tuple_list p l (by lia),RcNeAt.tuple_list p l (by lia)⟩
 | lf f o =>
   cases d;obtain⟨g,r,p⟩:=I.lstI f;cases y with
   | non=>cases c;exact⟨RcAt.list_none p (by lia),RcNeAt.list_none p (by lia)⟩
   | bl b=>cases c;exact⟨RcAt.list_bool b p (by lia),RcNeAt.list_bool b p (by lia)⟩
   | int b=>obtain⟨t,rfl⟩:=c;exact⟨RcAt.list_int b t p (by lia),RcNeAt.list_int b t p (by lia)⟩
   | str b=>obtain⟨t,rfl⟩:=c;exact⟨RcAt.list_str b t p (by lia),RcNeAt.list_str b t p (by lia)⟩
   | _=>exact absurd (show false=true from o) zAk
 | fl f o =>
   cases c;obtain⟨g,r,p⟩:=I.lstI f;cases x with
   | non=>cases d;exact⟨RcAt.none_list p (by lia),RcNeAt.none_list p (by lia)⟩
   | bl b=>cases d;exact⟨RcAt.bool_list b p (by lia),RcNeAt.bool_list b p (by lia)⟩
   | int b=>obtain⟨t,rfl⟩:=d;exact⟨RcAt.int_list b t p (by lia),RcNeAt.int_list b t p (by lia)⟩
   | str b=>obtain⟨t,rfl⟩:=d;exact⟨RcAt.str_list b t p (by lia),RcNeAt.str_list b t p (by lia)⟩
   | _=>exact absurd (show false=true from o) zAk
 | tf f o =>
   cases d;obtain⟨g,r,p⟩:=I.tupI f;cases y with
   | non=>cases c;exact⟨RcAt.tuple_none p (by lia),RcNeAt.tuple_none p (by lia)⟩
   | bl b=>cases c;exact⟨RcAt.tuple_bool b p (by lia),RcNeAt.tuple_bool b p (by lia)⟩
   | int b=>obtain⟨t,rfl⟩:=c;exact⟨RcAt.tuple_int b t p (by lia),RcNeAt.tuple_int b t p (by lia)⟩
   | str b=>obtain⟨t,rfl⟩:=c;exact⟨RcAt.tuple_str b t p (by lia),RcNeAt.tuple_str b t p (by lia)⟩
   | _=>exact absurd (show false=true from o) zAk
 | ft f o =>
   cases c;obtain⟨g,r,p⟩:=I.tupI f;cases x with
   | non=>cases d;exact⟨RcAt.none_tuple p (by lia),RcNeAt.none_tuple p (by lia)⟩
   | bl b=>cases d;exact⟨RcAt.bool_tuple b p (by lia),RcNeAt.bool_tuple b p (by lia)⟩
   | int b=>obtain⟨t,rfl⟩:=d;exact⟨RcAt.int_tuple b t p (by lia),RcNeAt.int_tuple b t p (by lia)⟩
   | str b=>obtain⟨t,rfl⟩:=d;exact⟨RcAt.str_tuple b t p (by lia),RcNeAt.str_tuple b t p (by lia)⟩
   | _=>exact absurd (show false=true from o) zAk
 | dcts f n =>
   cases d;cases c;obtain⟨F,K,m,E,G⟩:=I.dK0 f;obtain⟨L,M,R,N,O⟩:=I.dK0 n;cases G rfl;cases O rfl;exact LD.qas6 F L E N (by lia)
 | dt f n =>
   cases d;cases c;obtain⟨F,K,m,E,G⟩:=I.dK0 f;obtain⟨its2,q,l⟩:=I.tupI n;exact LD.rc_dt E l (by lia)
end
def rEqD:R2:=λ x y H Q=>∃ b,RcD H x y b/\Q (.bl b) H
def rNeD:R2:=λ x y H Q=>∃ b,RcD H x y b/\Q (.bl (!b)) H
theorem ql1{X:Cx}(e:X.A.units+64 < cLine):OpR X (Kr .Eq) rEqD:=by
 intro E3 s σ H x y v u Q I a c ⟨b,d,q⟩;exact(d.at I a c (A:=X.A) (by lia)).1 X.prog X.w X.xe _ ⟨.bl b,H,I,rfl,q⟩
theorem qn4{X:Cx}(e:X.A.units+64 < cLine):OpR X (Kr .NotEq) rNeD:=by
 intro E3 s σ H x y v u Q I a c ⟨b,d,q⟩;exact(d.at I a c (A:=X.A) (by lia)).2 X.prog X.w X.xe _ ⟨.bl (!b),H,I,rfl,q⟩
theorem qz7:∀{x:V},flatV x=true->eqV x x=true:=by
 intro x h;cases x with
 | non=>rfl
 | bl b=>exact zB3 b
 | int b=>exact zB3 b
 | str b=>exact zB3 b
 | _=>exact absurd (show false=true from h) zAk
theorem Room.u64{k:Nat}(a:Room k A):A.units+64 < cLine:=a.units
end L2
namespace L2
open PySem PySem.Spec PyProof.Rows
variable{vs:Array V'}
section
def gAll(to:TE):TG:=λ v σ H Q=>to σ H λ o H1=>∃ l b xs ys,o=.ref l/\v=.ref b/\l≠b/\H1 l=some (.l xs)/\H1 b=some (.l ys)/\xs.length+ys.length<=Kq/\Q σ (upd H1 l (.l ys))
end
structure Cl(K:W.Frag)(mg:Str->Option V')(x:Str)(C:γ):Prop where
 cl:Cls K C
 m:mg x=some (.ref C)
structure Md(K:W.Frag)(C:γ)(m qual:Str)(st:Stmt)(f:γ)(fd:ε)(ps:List Str):Prop where
 F:Fun K m qual st f fd
 b:Binds K fd ps []
 me:Ja K C m f
 isf:W.isFn K (.ref f)=true
theorem mdmk{K:W.Frag}{C:γ}{m qual:Str}{st:Stmt}{f:γ}{ps:List Str}{oc:V'}{o e:Option γ}{n:Array (Option V')}{kV d g b j:V'}(l:K.lookup f=some ⟨oc,o,.func (W.fnOf m qual (qe4 st) (qd0 st) (qa3 st) .none kV d g e b j),n⟩)(c:W.codeIn K b qual=true)(k:W.keepIn K (.ref f)=true)(a:W.findIn K (.ref C) m=some (some (.ref f)))(i:W.isFn K (.ref f)=true)(h:∀(kV d g:V')(e:Option γ)(b j:V')(us:List V'),us.length=ps.length->bindArgs (W.fnOf m qual (qe4 st) (qd0 st) (qa3 st) .none kV d g e b j) ⟨us,[]⟩=pure (ps.zip us)) :
   Md K C m qual st f (W.fnOf m qual (qe4 st) (qd0 st) (qa3 st) .none kV d g e b j) ps:=⟨qao7 l c k,(qao7 l c k).binds h,⟨a,i,k⟩,i⟩
section
variable{M:Model}{A:Around}{E:V'->δ->Prop}{s:δ}
structure Left(h h':Heap)(f:List γ)(e T:γ)(oe:Obj)(old:Option V'):Prop where
 new:h.objs.size<=T
 keep:∀ b o,h.get? b=some o->b≠e->old≠some (.ref b)->b∉f->h'.get? b=some o
 slot:∀ b o,h.get? b=some o->b∈f->∃ sl,h'.get? b=some { o with slots:=sl }
 there:∀ b o,h.get? b=some o->∃ o',h'.get? b=some o'
 exc:∃ vs oT ts,h'.get? e=some { oe with data:=.fields vs }/\1 < vs.size/\vs[1]? = some (.ref T)/\T≠e/\h'.get? T=some oT/\oT.data=.fields ts/\ts[3]? = some .none
theorem qau2{o:Obj}(e:o.data=.fields vs)(g:Array V'->Array V'):Obj.mapFields g o={ o with data:=.fields (g vs) }:=by
 obtain⟨a,b,c,d⟩:=o;cases e;rfl
theorem qL2{base:Heap}{env:Env}{outer:List Env}{L e:γ}{oe:Obj}{d:V'}{R:Bool}{old:Option V'}{Q:Unit->δ->Prop}(n:A.frames=some (env::outer))(C:s.heap.FunFrames base (env::outer))(S:env.frame=some L)(m:s.heap.get? e=some oe)(i:oe.data=.fields vs)(hsz:1 < vs.size)(h:∀ h' T,Left s.heap h' ((env::outer).filterMap (·.frame)) e T oe old->Q () { s with heap:=h' }) :
   wpAny M A (do let a <- frameOf env;let pl <- entryPlaceOf L R;let b <- EntryCells.newEntry d a .none (rawInt L) .none pl;setField (.ref e) 1 b)
     (λ _ s'=>wpAny M A (setFlight (.ref e) none) Q E s') E s:=by
 have j:∀ b o p,s.heap.get? b=some o->o.data=.fields p->b∉(env::outer).filterMap (·.frame):=λ b o p q q2 r=>by
   obtain⟨_,Y,D,U⟩:=C.mem r;rw[q] at D;cases D;exact U p q2
 refine G' (wpAny_frameOf_fun n C S λ c q=>?_);refine G' (wpAny_entryPlaceOf λ pl t=>?_);unfold EntryCells.newEntry newFields;refine G' (wpAny_newObj_type ?_ (t.sizeOk5 _ _ _ _ _));obtain⟨V,F,G⟩:=q;have H:c.get? e=some oe:=(F e (j e oe vs m i)).trans m;generalize k:({ cls:=.type "traceback",dict:=none,data:=.fields ([d,.ref L,.none,rawInt L,.none]++(if pl.isEmpty then List.replicate 6 Value.none else pl)).toArray }:Obj)=oT;have l:∃ u,oT.data=.fields u/\3 < u.size:=by
   refine⟨([d,.ref L,.none,rawInt L,.none]++(if pl.isEmpty then List.replicate 6 Value.none else pl)).toArray,by rw[<- k],?_⟩;simp only[zA3,zA7,zAi,zC6];lia
 have W:oT.isFreed=false:=by rw[<- k];rfl
 obtain⟨u,l,I⟩:=l;have e2:=zA2 (h:=c) oT H;refine wpAny_setField e2 i hsz ?_;have v:c.objs.size≠e:=Nat.ne_of_gt (zA9 H);have J:=Obj.data_mapFields i (·.setIfInBounds 1 (Value.ref c.objs.size));have K:=zBk (Obj.mapFields (·.setIfInBounds 1 (Value.ref c.objs.size))) e2 (Obj.isFreed_of_fields J);have N:((c.push oT).update e (Obj.mapFields (·.setIfInBounds 1 (Value.ref c.objs.size)))).get? c.objs.size=some oT:=(zBb _ _ (Ne.symm v)).trans (zAu c W);unfold setFlight;refine G' (wpAny_field K J (x:=.ref c.objs.size) (by simp[hsz]) ?_);rw[if_pos (show (Value.ref c.objs.size != Value.none)=true from by simp)];refine wpAny_setField N l I (h _ c.objs.size ?_);have keep:∀ b o,b≠e->c.get? b=some o->(((c.push oT).update e (Obj.mapFields (·.setIfInBounds 1 (Value.ref c.objs.size)))).update c.objs.size (Obj.mapFields (·.setIfInBounds 3 ((none:Option γ).elim Value.none λ f=>rawInt f)))).get? b=some o:=λ b o w y=>by
   rw[zBb _ _ (Nat.ne_of_gt (zA9 y)),zBb _ _ (Ne.symm w)];exact zA2 _ y
 have O:(((c.push oT).update e (Obj.mapFields (·.setIfInBounds 1 (Value.ref c.objs.size)))).update c.objs.size (Obj.mapFields (·.setIfInBounds 3 ((none:Option γ).elim Value.none λ f=>rawInt f)))).get? e=some { oe with data:=.fields (vs.setIfInBounds 1 (Value.ref c.objs.size)) }:=by
   rw[zBb _ _ v,K,qau2 i]
 refine⟨Nat.le_of_eq V.symm,λ b o g w y X=>keep b o w ((F b X).trans g),λ b o g r=>?_,λ b o g=>?_,_,_,_,O,by simpa using hsz,by simp[hsz],v,zBk _ N (Obj.isFreed_of_fields (Obj.data_mapFields l _)),Obj.data_mapFields l _,by simp[I]⟩
 . obtain⟨P,B⟩:=G b o g
   refine⟨P,keep b _ (λ z=>?_) B⟩;subst z;rw[m] at g;cases g;exact j b _ vs m i r
 obtain⟨P,B⟩:=G b o g;by_cases z:b=e
 . subst z;exact⟨_,O⟩
 exact⟨_,keep b _ z B⟩
theorem qJ9{base:Heap}{env:Env}{outer:List Env}{L e:γ}{oe:Obj}{Q:Unit->δ->Prop}(d:A.frames=some (env::outer))(p:s.heap.FunFrames base (env::outer))(r:env.frame=some L)(g:s.heap.get? e=some oe)(i:oe.data=.fields vs)(hsz:1 < vs.size)(B:vs[1]? = some .none∨∃ T j ts,vs[1]? = some (.ref T)/\T≠e/\s.heap.get? T=some j/\j.data=.fields ts/\ts[3]? = some .none)(h:∀ h' T,Left s.heap h' ((env::outer).filterMap (·.frame)) e T oe vs[1]? -> Q () { s with heap:=h' }) :
   wpAny M A (noteFrame (.ref e) env) (λ _ s'=>wpAny M A (setFlight (.ref e) none) Q E s') E s:=by
 unfold noteFrame;simp only[r];rcases B with k | ⟨T,j,ts,k,t,f,c,x⟩
 . refine G' (wpAny_field g i k ?_)
   rw[if_neg (by decide)];exact qL2 (old:=vs[1]?) d p r g i hsz h
 refine G' (wpAny_field g i k ?_);rw[if_pos (show (Value.ref T != Value.none)=true from by simp)];refine G' (wpAny_field f c x ?_);rw[if_neg (show ¬ ((Value.none == rawInt L)=true) from by simp[rawInt])];have C:=(Array.getElem?_eq_some_iff.mp x).1;refine G' (wpAny_setField f c C ?_);have other:∀ b,b≠T->(s.heap.update T (Obj.mapFields (·.setIfInBounds 3 Value.none))).get? b=s.heap.get? b:=λ b a=>zBb _ _ (Ne.symm a)
 have D:∀ b∈(env::outer).filterMap (·.frame),b≠T:=λ b l z=>by
   obtain⟨_,K,m,n⟩:=p.mem l;subst z;rw[f] at m;cases m;exact n ts c
 have F:(s.heap.update T (Obj.mapFields (·.setIfInBounds 3 Value.none))).get? T=some { j with data:=.fields (ts.setIfInBounds 3 .none) }:=by
   rw[zBk _ f (Obj.isFreed_of_fields (Obj.data_mapFields c _)),qau2 c]
 have v:(s.heap.update T (Obj.mapFields (·.setIfInBounds 3 Value.none))).FunFrames base (env::outer):=p.of_keeps λ b o a w=>⟨o,(other b λ z=>by subst z;rw[f] at a;cases a;exact w ts c).trans a,rfl⟩
 refine qL2 (s:={ s with heap:=s.heap.update T (Obj.mapFields (·.setIfInBounds 3 Value.none)) }) (old:=vs[1]?) d v r ((other e (Ne.symm t)).trans g) i hsz λ h' T' q=>h h' T' ?_
 obtain⟨G,q2,m,n,H⟩:=q;refine⟨by rwa[show (s.heap.update T (Obj.mapFields (·.setIfInBounds 3 Value.none))).objs.size=s.heap.objs.size from Heap.size_update _ _ _] at G,λ b o a I y J=>?_,λ b o a l=>m b o ((other b (D b l)).trans a) l,λ b o a=>?_,H⟩
 . exact q2 b o ((other b λ z=>y (by rw[k,z])).trans a) I y J
 by_cases z:b=T
 . subst z;exact n _ _ F
 exact n b o ((other b z).trans a)
end
end L2
namespace L2
open PySem PySem.Spec PyProof.Rows Builtin Builtin.ObjectAttr
variable{ox:Obj}
noncomputable def Jg:List V'->Bool
 | .ref _::r=>Jg r
 | .type n::r=>Value.type n::r == [.type "ValueError",.type "Exception",.type "BaseException",.type "object"]
 | _=>false
theorem qP0(self:V'):∀{l:List V'},Jg l=true->refuseLoop self "__setattr__" l=pure ():=by
 intro l
 induction l with
 | nil=>intro e;cases e
 | cons c r b =>
   intro e;cases c with
   | ref a=>rw[refuseLoop_ref];exact b e
   | type n=>rw[show (Value.type n::r)=[.type "ValueError",.type "Exception",.type "BaseException",.type "object"] from zBn.mp e];exact F.store_ValueError.passes self
   | _=>cases e
structure Exc(K:W.Frag)(C:γ):Prop where
 mro:(W.clsIn K C).any (λ cd=>Jg cd.mro)=true
 hd:W.hasDictIn K C=true
 kts:W.ktsIn K C "ValueError" = true
 sa:W.findIn K (.ref C) "__setattr__" = some (some (.builtin "object.__setattr__"))
 ga:W.findIn K (.ref C) "__getattribute__" = some (some (.builtin "BaseException.__getattribute__"))
 gt:W.findIn K (.ref C) "__getattr__" = some none
 be:W.mroIn K C (.type "BaseException")=some true
 ob:W.mroIn K C (.type "object")=some true
 ty:W.typeIn K (.ref C)=some (.type "type")
section
variable{prog:Program}{w:World}{A:Around}{E:V'->δ->Prop}{s:δ}{K:W.Frag}{x C:γ}{name:Str}{v:V'}
theorem qav4{R:Result->δ->Prop}{b:Option Obj}{a:Tok}(X:K.In s.heap)(I:W.InstAt s.heap x ox C b)(c:Exc K C)(d:W.findIn K (.ref C) name=some none)(h:wpAny (model prog w) A.in1 (storeInOwnDict (.ref x) (.ref C) (.str name a) name v false)
     (λ fin s'=>match fin with | .done f=>R (.ok f) s' | .again c'=>c'.quiet=true/\codeAny (model prog w) A c' R s') (λ e s'=>R (.error e) s') s) :
   codeAny (model prog w) A (.call (.builtin "object.__setattr__") ⟨[.ref x,.str name a,v],[]⟩) R s:=by
 have SF:=F.store_object;obtain⟨g,i,j⟩:=W.any_some c.mro;have sub:W.Looks (model prog w) s.heap (isInstance (.ref x) (.type "object")) true:=I.type.andThen (W.looks_mroIn X c.ob);refine codeAny_call_builtin SF.slot.plain SF.entry (@W.check_slot (model prog w) _ _ s "object.__setattr__" "object" "__setattr__" (.ref x) [.str name a,v] [] _ SF.kind SF.split sub (SF.args (.ref x) (.str name a) v) ?_);have k:W.Looks (model prog w) s.heap (mroOf (.ref C)) g.mro:=(W.looks_clsIn X i).andThen .now;rw[W.osa_eq,refuse_eq];refine G' (G' (I.type.here (G' (k.here ?_))));rw[qP0 _ j];exact J' (G' (I.type.here (G' ((W.looks_findIn X d).here (G' (J' h))))))
theorem qaD2{Q:Unit->δ->Prop}{vs:Array V'}(X:K.In s.heap)(c:Exc K C)(i:s.heap.get? x=some ox)(a:ox.cls=.ref C)(d:ox.data=.fields vs)(f:ox.dict=none)(u:W.findIn K (.ref C) name=some none)(h:∀ h' j,h'.get? x=some { ox with dict:=some s.heap.objs.size }->h'.Ns1 s.heap.objs.size (λ y=>if y=name then some v else none)->(∀ b o,b≠x->s.heap.get? b=some o->h'.get? b=some o)->Q () { s with heap:=h',toks:=j }) :
   wpAny (model prog w) A (setAttr (.ref x) name v) Q E s:=by
 obtain⟨M,z,B,g⟩:=ox;dsimp only at a d f;subst a d f;have I:W.InstAt s.heap x ⟨.ref C,none,.fields vs,g⟩ C none:=⟨i,rfl,rfl,True.intro⟩
 refine W.set_plain X I c.sa (qav4 (s:={ s with toks:=s.toks+1 }) X I c u ?_);obtain⟨N,D,k⟩:=W.any_some c.hd;refine G' (J' (G' (G' (wpAny_loadPart i (G' (W.Looks.here (s:={ s with toks:=s.toks+1 }) (W.looks_clsIn X D) ?_))))));rw[k];have p:(s.heap.push { cls:=.type "dict",data:=.dict #[] }).get? x=some ⟨.ref C,none,.fields vs,g⟩:=zA2 _ i;have q:x≠s.heap.objs.size:=zAj (zA9 i);simp only[Bool.not_true,Bool.false_eq_true,if_false];rw[if_neg (by simp[typeHasDict])];refine G' (wpAny_alloc ?_);refine G' (wpAny_update p (J' ?_));have gd:((s.heap.push { cls:=.type "dict",data:=.dict #[] }).update x λ o=>{ o with dict:=some s.heap.objs.size }).get? s.heap.objs.size=some { cls:=.type "dict",data:=.dict #[] } :=
   (Heap.get?_update_ne _ _ _ _ (Ne.symm q)).trans (Heap.get?_push_at rfl rfl)
 have F:((s.heap.push { cls:=.type "dict",data:=.dict #[] }).update x λ o=>{ o with dict:=some s.heap.objs.size }).Ns s.heap.objs.size (λ _=>none) :=
   ⟨_,#[],_,gd,rfl,λ e G=>absurd G (by simp),λ _=>rfl⟩
 show wpAny _ _ (storeInDict s.heap.objs.size (.str name s.toks) name v) _ _ _;unfold storeInDict newKeyGuard;refine G' (J' (G' (wpAny_nsSet1 (Heap.Ns1.of_empty F) λ h' r t=>?_)));obtain⟨O,H,J,l,m,n⟩:=r.count (Within.cons name v Within.nil);refine G' (wpAny_lookBehind l (by rw[m];exact pastItsLine_dict (zAp n (by rw[zAi,zC6,Kx];lia))) ?_);refine J' (h h' _ ?_ r λ b o L e=>?_)
 . exact(t.2 x q).trans (zBk _ p rfl)
 exact(t.2 b (zAj (zA9 e))).trans ((Heap.get?_update_ne _ _ _ _ L).trans (zA2 _ e))
theorem qaD1{Q:Unit->δ->Prop}{vs:Array V'}{dx:γ}{mA:Str->Option V'}{ns:List Str}(X:K.In s.heap)(c:Exc K C)(q:s.heap.get? x=some ox)(d:ox.cls=.ref C)(f:ox.data=.fields vs)(g:ox.dict=some dx)(r:s.heap.Ns1 dx mA)(u:Within mA ns)(N:ns.length<=1000)(z:W.findIn K (.ref C) name=some none)(h:∀ h' i,h'.Ns1 dx (λ y=>if y=name then some v else mA y)->(∀ b o,b≠dx->s.heap.get? b=some o->h'.get? b=some o)->Q () { s with heap:=h',toks:=i }) :
   wpAny (model prog w) A (setAttr (.ref x) name v) Q E s:=by
 obtain⟨O,B,D,j⟩:=ox;dsimp only at d f g;subst d f g;obtain⟨F,k,_⟩:=qT5 r;have I:W.InstAt s.heap x ⟨.ref C,some dx,.fields vs,j⟩ C (some F):=⟨q,rfl,rfl,k⟩
 refine W.set_plain X I c.sa (qav4 (s:={ s with toks:=s.toks+1 }) X I c z ?_);obtain⟨P,G,l⟩:=W.any_some c.hd;refine G' (J' (G' (G' (wpAny_loadPart q (G' (W.Looks.here (s:={ s with toks:=s.toks+1 }) (W.looks_clsIn X G) ?_))))));rw[l];refine J' (a:=some dx) (G' (J' (G' ?_)));refine wpAny_nsSet1 (s:={ s with toks:=s.toks+1 }) r λ h' t H=>?_
 obtain⟨R,J,L,m,n,p⟩:=t.count (Within.cons name v u);refine G' (wpAny_lookBehind m (by rw[n];exact pastItsLine_dict (zAp p (by rw[zAi,Kx];lia))) ?_);exact J' (h h' _ t λ b o M e=>(H.2 b M).trans e)
end
end L2
namespace L2
open PySem PySem.Spec PyProof.Rows
variable{Q:Unit->δ->Prop}{xe:V'->δ->Prop}
noncomputable abbrev mroVE:List V':=[.type "ValueError",.type "Exception",.type "BaseException",.type "object"]
def Gp(K:W.Frag)(C:γ):Bool:=W.ktsIn K C "ValueError" && (K.lookup C).any λ o=>o.slots.toList[4]? == some (some (.builtin "ValueError.__new__"))&&(match o.data with
   | .cls cd=>W.tailIn K mroVE cd.mro.tail
   | _=>false)
theorem qai6{K:W.Frag}{h:Heap}{C:γ}(X:K.In h)(q:Gp K C=true):∃ f g N i d a j sub k b dd l m p r s,
   h.get? C=some (excClassObj f g C N i d a j sub k b dd l m p r s "ValueError.__new__")/\OwnTail h mroVE d:=by
 unfold Gp at q;rw[zB4] at q;obtain⟨f,g,N,i,d,a,j,sub,k,b,dd,l,m,p,r,s,n,t,_⟩:=W.kts_cls X q.1;have q2:=q.2;rw[Option.any_eq_true] at q2;obtain⟨o,u,q2⟩:=q2;have e:=(X _ _ u).symm.trans t;injection e with e
 subst e;rw[zB4] at q2;have c:some (some (Value.builtin n))=some (some (.builtin "ValueError.__new__")):=eq_of_beq q2.1;injection c with c
 injection c with c
 injection c with c
 subst c;exact⟨f,g,N,i,d,a,j,sub,k,b,dd,l,m,p,r,s,t,W.tail_of_in X q2.2⟩
section
variable{prog:Program}{w:World}{A:Around}{K:W.Frag}{C fI:γ}{h:Heap}{g:Array GenState}{d:Drawn}{t:Nat}{os:OsState}
theorem qap5{rest:List V'}{Q:Fin->δ->Prop}{E:V'->δ->Prop}(X:K.In h)(m:Gp K C=true)(hi:W.findIn K (.ref C) "__init__" = some (some (.ref fI)))(i:W.typeIn K (.ref fI)=some (.type "function"))(hrest:rest.length<=Kq)(j:wpAny (model prog w) A (call (.ref fI) (.ref (h.objs.size+1)::rest)) (λ r s'=>r=.none/\Q (.done (.ret (.ref (h.objs.size+1)))) s') E
     ⟨(h.push { cls:=.type "tuple",data:=.seq rest.toArray }).push { cls:=.ref C,data:=.fields #[.ref h.objs.size,.none,.none,.none,.bool false,.none] },g,d,t,os⟩) :
   wpAny (model prog w) A (Builtin.«type.__call__» ⟨.ref C::rest,[]⟩) Q E ⟨h,g,d,t,os⟩:=by
 have F:=PySem.F.excBase_ValueError;obtain⟨v,x,N,y,k,f,B,sub,D,l,G,H,I,J,L,O,a,T⟩:=qai6 X m
 repeat (first | with_reducible refine Kz a ?_ | with_reducible refine wpAny_madeBy_exc a ?_ | wp_step)
 refine codeAny_call_builtin_code (Code.quiet_builtin _ F.quiet) (wpAny_check_new_subT F T a ?_);refine codeAny_exc_new_subT F T a ?_ hrest;show wpAny _ _ _ _ _ _;have c:∀ b o,h.get? b=some o->((h.push { cls:=.type "tuple",data:=.seq rest.toArray }).push { cls:=.ref C,data:=.fields #[.ref h.objs.size,.none,.none,.none,.bool false,.none] }).get? b=some o:=λ b o e=>zA2 _ (zA2 _ e)
 have n:=c _ _ a;have p:((h.push { cls:=.type "tuple",data:=.seq rest.toArray }).push { cls:=.ref C,data:=.fields #[.ref h.objs.size,.none,.none,.none,.bool false,.none] }).get? (h.objs.size+1)=some { cls:=.ref C,data:=.fields #[.ref h.objs.size,.none,.none,.none,.bool false,.none] }:=by heap_get
 have q:(Value.ref C::k).contains (.ref C)=true:=by simp
 unfold isInstance
 repeat (first | with_reducible refine Kz p ?_ | (with_reducible refine wpAny_isSubtype_exc n ?_;rw[q]) | wp_step)
 show wpAny _ _ (typeLookup (.ref C) _) _ _ _;have s:=(W.looks_findIn (M:=model prog w) X hi).keeps c;have u:=(W.bind_fn (M:=model prog w) X (.ref (h.objs.size+1)) i).keeps c;refine s.at (Kt (G' (u.at (G' (K6 j (λ r s' z=>?_) λ _ _ z=>z)))));obtain⟨rfl,z⟩:=z;exact J' (J' z)
theorem qaD3{rest:List V'}{Q E:V'->δ->Prop}(X:K.In h)(m:Gp K C=true)(hi:W.findIn K (.ref C) "__init__" = some (some (.ref fI)))(c:W.typeIn K (.ref fI)=some (.type "function"))(hrest:rest.length<=Kq)(e:wpAny (model prog w) (A.under (.builtin "type.__call__" ⟨.ref C::rest,[]⟩)) (call (.ref fI) (.ref (h.objs.size+1)::rest)) (λ r s'=>r=.none/\Q (.ref (h.objs.size+1)) s') E
     ⟨(h.push { cls:=.type "tuple",data:=.seq rest.toArray }).push { cls:=.ref C,data:=.fields #[.ref h.objs.size,.none,.none,.none,.bool false,.none] },g,d,t,os⟩) :
   wpAny (model prog w) A (call (.ref C) rest) Q E ⟨h,g,d,t,os⟩:=by
 obtain⟨i,j,N,k,l,b,n,sub,o,f,p,q,s,u,v,x,a,T⟩:=qai6 X m;have f1:=tc_lookup;have f2:=tc_bind (.ref C);have y:(⟨h,g,d,t,os⟩:δ).TypeIs (.ref C) "type" := ⟨_,a,rfl⟩
 refine wpAny_call (codeAny_of_tree ?_);show wpAny _ _ (callAny (.ref C) _) _ _ _
 repeat (any_goals (first | assumption | with_reducible refine Kz a ?_ | wp_step))
 refine⟨rfl,?_⟩;exact codeAny_call_builtin_at (Code.quiet_builtin _ (by decide +kernel)) entry_typeCall (wpAny_check_type_call_sub a (qap5 X m hi c hrest e))
end
section
variable{M:Model}{A:Around}{E:V'->δ->Prop}{s:δ}{env:Env}
theorem qad5{K:W.Frag}{x:Sem V'}{Q:Flow->δ->Prop}(l:A.handled=none)(h:wpAny M A x (λ v s₁=>∃ e oe vs C,v=.ref e/\K.In s₁.heap/\Exc K C/\s₁.heap.get? e=some oe/\oe.cls=.ref C/\oe.data=.fields vs/\vs[1]? = some .none/\E (.ref e) s₁) E s) :
   wpAny M A (raiseStmt env (some x) none) Q E s:=by
 unfold raiseStmt;refine G' (K6 h (λ v s₁ q=>?_) λ _ _ x=>x);obtain⟨e,oe,vs,C,rfl,X,c,i,a,b,m,n⟩:=q;obtain⟨y,o,p,r⟩:=oe;dsimp only at a b;subst a b;obtain⟨z,B,N,D,t,j,F,sub,G,u,H,I,J,L,O,P,newId,k,w,_⟩:=W.kts_cls X c.kts;obtain⟨R,g,d,S,T⟩:=s₁;have f:(Value.ref C::t).contains (.type "BaseException")=true:=by rw[List.contains_cons,w,Bool.or_true]
 repeat (first | with_reducible refine Kz i ?_ | with_reducible refine Kz k ?_ | (with_reducible refine wpAny_isSubtype_exc k ?_;rw[f]) | with_reducible refine wpAny_field i rfl m ?_ | wp_step)
 exact wpAny_raiseNew_none l n
end
def Jh(e C:γ)(a:Option γ)(b:Bool)(h:Heap):Prop:=∃ oe vs,h.get? e=some oe/\oe.cls=.ref C/\oe.dict=a/\oe.data=.fields vs/\1 < vs.size/\(b=true->vs[1]? = some .none)
noncomputable abbrev Bo(e C:γ)(a:Option γ)(b:Bool):HO:=.ext (Jh e C a b)
def xdIs(d:γ)(fs:List (Str×V))(h:Heap):Prop:=∃ mA,h.Ns1 d mA/\(∀ f,RelO (fs.lookup f) (mA f))/\PySem.Within mA (fs.map (·.1))/\fs.length<=1000
abbrev XD(d:γ)(fs:List (Str×V)):HO:=.ext (xdIs d fs)
section
variable{P:Program}{w:World}{H:Hp}{h:Heap}
theorem qap6{e C:γ}{d:Option γ}{f:Bool}(q:Jh e C d f h):ObjOk P w H h e (Bo e C d f) :=
 ⟨q,let ⟨c,_,a,_⟩:=q;⟨c,a⟩,λ i j ⟨c,g,a,b⟩ k=>⟨c,g,k _ a,b⟩⟩
theorem xd_ok{d:γ}{fs:List (Str×V)}(q:xdIs d fs h):ObjOk P w H h d (XD d fs) :=
 ⟨q,let ⟨_,⟨o,_,_,a,_⟩,_⟩:=q;⟨o,a⟩,λ g i ⟨c,⟨o,e,f,a,r⟩,b⟩ k=>⟨c,⟨o,e,f,k _ a,r⟩,b⟩⟩
theorem Ji{e C:γ}{a:Option γ}{b:Bool}(c:HOk P w H h)(q:H e=some (Bo e C a b)):Jh e C a b h:=(c e _ q).1
theorem xd_at{d:γ}{fs:List (Str×V)}(a:HOk P w H h)(q:H d=some (XD d fs)):xdIs d fs h:=(a d _ q).1
end
section
variable{X:Cx}{E3:List (γ×Obj)}{σ:St}{H:Hp}{s:δ}{a C dx:γ}{fs:List (Str×V)}{f:Str}{A:Around}{E:V'->δ->Prop}
theorem qaD5{y:V}{u:V'}(I:Ly X E3 σ H s)(e:H a=some (Bo a C none true))(c:Exc X.K C)(n:qd6 X.K C f)(J:Lv y u)(h:∀ dx s',H dx=none->dx≠a->Ly X E3 σ (upd (upd H dx (XD dx [(f,y)])) a (Bo a C (some dx) true)) s'->Q () s'):wpAny (model X.prog X.w) A (setAttr (.ref a) f u) Q E s:=by
 obtain⟨W,L,v,x,M,B,N,O⟩:=Ji I.hok e;refine qaD2 I.kIn c v x B M n λ Y p D q2 m=>?_
 have P:a≠s.heap.objs.size:=zAj (zA9 v);have k:H s.heap.objs.size=none:=I.hok.fresh (zA6 _);have R:∀ b o,s.heap.get? b=some o->b≠s.heap.objs.size:=λ b o z=>zAj (zA9 z)
 refine h s.heap.objs.size _ k (Ne.symm P) (I.un (t':=p) ⟨λ b o z i _ _=>m b o (λ d=>?_) z,λ b o z i _ _=>⟨o.slots,m b o (λ d=>?_) z⟩,λ b o z i _=>?_,λ b o z _=>?_,λ b F z=>?_,λ b Z F z=>?_,λ b ps z=>?_⟩ λ b S z=>?_)
 . rw[d,e] at i;cases i
 . rw[d,e] at i;cases i
 . rw[qb4 (λ d=>by rw[d,e] at i;cases i),qb4 (R b o z)];exact i
 . by_cases d:b=a
   . rw[d];exact⟨_,D⟩
   exact⟨o,m b o d z⟩
 . rw[qb4 (λ d=>by rw[d,e] at z;cases z),qb4 (qc2 z k)];exact z
 . rw[qb4 (λ d=>by rw[d,e] at z;cases z),qb4 (qc2 z k)];exact z
 . exact⟨#[],by rw[qb4 (λ d=>by rw[d,e] at z;cases z),qb4 (qc2 z k)];simpa using z⟩
 by_cases q:b=a
 . subst q
   rw[qb3] at z;cases z;exact qap6 ⟨_,L,D,x,rfl,B,N,O⟩
 rw[qb4 q] at z;by_cases G:b=s.heap.objs.size
 . subst G
   rw[qb3] at z;cases z;refine xd_ok ⟨_,q2,λ g=>?_,λ g T=>?_,by simp⟩
   . show RelO (([(f,y)]:List (Str×V)).lookup g) (if g=f then some u else none)
     by_cases l:g=f
     . subst l;rw[if_pos rfl];simp only[List.lookup,zB3];exact J
     have:(g == f)=false:=zBj.mpr l
     simp[List.lookup,this,l,RelO]
   by_cases l:g=f
   . simp[l]
   exact absurd (by show (if g=f then some u else none)=none;rw[if_neg l]) T
 rw[qb4 G] at z;refine(I.hok b S z).stay (λ t U j r=>m t U ?_ r) (λ t r=>?_) λ t F r=>?_
 . rcases j with rfl | j
   . exact q
   intro d;rw[d,e] at j;cases j
 . rw[qb4 (λ d=>by rw[d,e] at r;cases r),qb4 (qc2 r k)];exact r
 rw[qb4 (λ d=>by rw[d,e] at r;cases r),qb4 (qc2 r k)];exact r
theorem qaD4{y:V}{u:V'}(I:Ly X E3 σ H s)(e:H a=some (Bo a C (some dx) true))(d:H dx=some (XD dx fs))(F:fs.length < 1000)(c:Exc X.K C)(n:qd6 X.K C f)(l:Lv y u)(h:∀ s',Ly X E3 σ (upd H dx (XD dx (Bm f y fs))) s'->Q () s'):wpAny (model X.prog X.w) A (setAttr (.ref a) f u) Q E s:=by
 obtain⟨G,J,m,p,t,v,L,M⟩:=Ji I.hok e;obtain⟨i,B,r,j,_⟩:=xd_at I.hok d;refine qaD1 I.kIn c m p v t B j (by rw[zAd];lia) n λ N b k q2=>h _ ?_
 refine I.write (x:=dx) (e:=dx) (t':=b) (by rw[d];exact True.intro) (.inl rfl) q2 (let ⟨o,_,_,z,_⟩:=k;⟨o,z⟩) (xd_ok ⟨_,k,λ g=>?_,λ g D=>?_,?_⟩)
 . show RelO ((Bm f y fs).lookup g) (if g=f then some u else i g)
   rw[qs8];by_cases q:g=f
   . rw[if_pos q,if_pos q];exact l
   rw[if_neg q,if_neg q];exact r g
 . by_cases q:g=f
   . rw[q];exact(qq1 f y fs).1
   refine(qq1 f y fs).2 g (j g λ z=>D ?_);show (if g=f then some u else i g)=none;rw[if_neg q];exact z
 have:=qs9 f y fs;lia
end
structure Fly(n:Nat)(H:Hp)(h:Heap)(a:γ):Prop where
 ge:n<=a
 tr:∃ C od,H a=some (Bo a C od false)
 ob:∃ oe vs,h.get? a=some oe/\oe.data=.fields vs/\1 < vs.size/\(vs[1]? = some .none∨∃ T oT ts,vs[1]? = some (.ref T)/\n<=T/\H T=none/\T≠a/\h.get? T=some oT/\oT.data=.fields ts/\ts[3]? = some .none)
theorem Fly.mono{m n:Nat}{H:Hp}{h:Heap}{a:γ}(F:Fly n H h a)(l:m<=n):Fly m H h a:=by
 obtain⟨b,c,d,e,f,g⟩:=F.ob;refine⟨zAp l F.ge,F.tr,b,c,d,e,f,?_⟩;rcases g with z | ⟨T,i,j,k,o,z⟩
 . exact .inl z
 exact .inr ⟨T,i,j,k,zAp l o,z⟩
def CX1(P:Program)(w:World):CXT:=λ outer H s E e s'=>∃ a H',e=.ref a/\s'.os=s.os/\AllBare s'.gens/\Un (frs outer) [] H H' s.heap s'.heap/\HOk P w H' s'.heap/\Fly s.heap.objs.size H' s'.heap a/\E e none H'
structure Old(X:Cx)(E3:List (γ×Obj))(n:Nat):Prop where
 st:X.s₀.heap.objs.size<=n
 loc:X.env.locals < n
 cell:∀ x c,X.env.cells.lookup x=some c->c < n
 pin:∀ p∈X.pn++E3,p.1 < n
theorem Ly.old{X:Cx}{E3:List (γ×Obj)}{σ:St}{H:Hp}{s:δ}(I:Ly X E3 σ H s):Old X E3 s.heap.objs.size :=
 ⟨I.sz,I.lt,λ x c e=>let ⟨_,_,z,_⟩:=I.cell x c e;zA9 z,λ p a=>zA9 (I.pin p a).1⟩
noncomputable def Gq:Option V'->List γ
 | some (.ref b)=>[b]
 | _=>[]
section
variable{X:Cx}{E3:List (γ×Obj)}{σ:St}{H:Hp}{s:δ}{a T:γ}{n:Nat}{h':Heap}{oe:Obj}{vs:Array V'}
theorem Ly.left(I:Ly X E3 σ H s)(F:Fly n H s.heap a)(O:Old X E3 n)(m:s.heap.get? a=some oe)(P:oe.data=.fields vs)(L:Left s.heap h' (frs X.stack) a T oe vs[1]?) :
   Ly X E3 σ H { s with heap:=h' }/\Fly n H h' a:=by
 obtain⟨C,Q,i⟩:=F.tr;obtain⟨t,y,D,q2,q3,E⟩:=F.ob;rw[m] at D;cases D;rw[P] at q2;cases q2;obtain⟨G,R,S,J,e2,V,W,Y,Z,e7⟩:=L.exc;have j:∀ b,vs[1]? = some (.ref b)->n<=b/\H b=none/\b≠a:=λ b z=>by
   rcases E with q | ⟨T',_,_,q,r1,r2,r3,_⟩
   . rw[q] at z;cases z
   rw[q] at z;cases z;exact⟨r1,r2,r3⟩
 have A:HOk X.prog X.w H h':=λ b u f=>by
   by_cases z:b=a
   . subst z
     rw[i] at f;cases f;obtain⟨t,y,K,p2,p3,p4,p5,p6⟩:=Ji I.hok i;rw[m] at K;cases K;exact qap6 ⟨_,G,J,p2,p3,rfl,e2,λ z=>nomatch z⟩
   have M:∀ c,H c≠none->c∉frs X.stack:=λ c d hm=>d (I.stkFree c hm)
   refine(I.hok b u f).stay (λ c v d r=>L.keep c v r ?_ (λ h=>?_) ?_) (λ _ z=>z) λ _ _ z=>z
   . rcases d with rfl | d
     . exact z
     intro h;rw[h,i] at d;cases d
   . have:=(j c h).2.1
     rcases d with rfl | d
     . rw[this] at f;cases f
     rw[this] at d;cases d
   rcases d with rfl | d
   . exact M c (by rw[f];exact λ z=>nomatch z)
   exact M c (by rw[d];exact λ z=>nomatch z)
 refine⟨?_,F.ge,⟨C,Q,i⟩,_,G,J,rfl,e2,.inr ⟨T,R,S,V,zAp (zAp F.ge (Nat.le_of_lt (zA9 m))) L.new,I.hok.fresh L.new,W,Y,Z,e7⟩⟩;have k:∀ b,b∈Gq vs[1]? ↔ vs[1]? = some (.ref b):=λ b=>by
   rcases E with q | ⟨T',_,_,q,_⟩
   . rw[q];simp[Gq]
   rw[q];simp[Gq,eq_comm]
 have U:Un (frs X.stack) (Gq vs[1]?) H H s.heap h':=by
   refine⟨λ b o z l B N=>L.keep b o z (λ h=>?_) (λ h=>N ((k b).mpr h)) B,λ b o z l B N=>L.slot b o z B,λ _ _ _ l _=>l,λ b o z _=>L.there b o z,λ _ _ z=>z,λ _ _ _ z=>z,λ b ps z=>⟨#[],by rw[z];simp⟩⟩;rw[h,i] at l;cases l
 exact I.call (g':=s.gens) (t':=s.toks) (d':=s.drawn) (ch:=Gq vs[1]?) U A I.bare λ b f=>by
   have g:=(j b ((k b).mp f)).1;refine⟨.inr (zAp O.st g),Nat.ne_of_gt (zAg O.loc g),λ x c e=>zAj (zAg (O.cell x c e) g),λ p hp=>zAj (zAg (O.pin p hp) g)⟩
end
def Lands(X:Cx)(E:St->XK):Prop:=∀(E3:List (γ×Obj))(σ:St)(H:Hp)(s:δ)(a:γ)(n:Nat),Ly X E3 σ H s->Fly n H s.heap a->Old X E3 n->E σ (.ref a) none H->X.xe (.ref a) s
theorem Lands.passes{X:Cx}{E:St->XK}(h:Lands X E):qM1 (CX1 X.prog X.w) X E:=λ E3 σ H s e b I q=>by
 obtain⟨a,H',rfl,c,d,u,f,F,q⟩:=q;exact h E3 σ H' b a _ (I.call' (ch:=[]) c u f d λ _ z=>nomatch z) F I.old q
theorem qa1{cm:Bool}{P:Program}{w:World}{K:W.Frag}{mg:Str->Option V'}{base:Heap}{N:List Str}{qual:Str}{scope:Scope}{f:γ}{cd:V'}{A:Around}{outer:List Env}{s₀:δ}{H₀:Hp}{E:XK} :
   Lands (Eu cm (CX1 P w) P w K mg base N qual scope f cd A outer s₀ H₀ E) (λ _=>E):=λ E3 σ H s a n I F O q=>by
 obtain⟨p,b,c,d,e,g⟩:=id F.ob;show wpAny _ _ (leaving _ _) _ _ s;unfold leaving;refine G' (qJ9 (base:=base) (vs:=b) I.ok.frames I.stack rfl c d e ?_ λ r T L=>?_)
 . rcases g with z | ⟨T,h,i,j,_,_,k,l,m,o⟩
   . exact .inl z
   exact .inr ⟨T,h,i,j,k,l,m,o⟩
 obtain⟨J,F'⟩:=I.left (T:=T) F O c d L;exact⟨a,H,rfl,J.os,J.bare,J.base,J.hok,F'.mono O.st,q⟩
section
variable{X:Cx}{o value:Expr}{pos pos':Pos}{ta tv:TE}{f:Str}
def sEF(K:W.Frag)(ta tv:TE)(f:Str):TS:=λ D σ H=>tv σ H λ y H1=>ta σ H1 λ x H2=>∃ a C,x=.ref a/\Exc K C/\qd6 K C f /\
 ((H2 a=some (Bo a C none true)/\∀ dx,H2 dx=none->dx≠a->D.nx σ (upd (upd H2 dx (XD dx [(f,y)])) a (Bo a C (some dx) true)))
  ∨ ∃ dx fs,H2 a=some (Bo a C (some dx) true)/\H2 dx=some (XD dx fs)/\fs.length < 1000/\D.nx σ (upd H2 dx (XD dx (Bm f y fs))))
theorem qad6(g:PE X o ta)(i:PE X value tv)(j:swapsWith value (some (.Attribute o f pos')) pos.line X.env=pure false:=by rfl):PS X (.Assign [.Attribute o f pos'] value pos) (sEF X.K ta tv f):=by
 intro E3 s σ H D I h;refine plainObj_wpAny_Assign_Attribute (thn (i E3 s σ H _ I h) λ u k b=>?_) j;obtain⟨y,H1,I1,d,q⟩:=b;refine thn (g E3 k σ H1 _ I1 q) λ l w b=>?_
 obtain⟨x,H2,I2,m,a,C,p,c,n,q2⟩:=b;subst p;obtain rfl:l=Value.ref a:=m;rcases q2 with⟨ea,q2⟩ | ⟨e,fs,ea,ed,hl,q2⟩
 . exact qaD5 I2 ea c n d λ e r t v I3=>⟨σ,_,I3,q2 e t v⟩
 exact qaD4 I2 ea ed hl c n d λ r I3=>⟨σ,_,I3,q2⟩
end
structure MkE(K:W.Frag)(C f:γ):Prop where
 exc:Exc K C
 mke:Gp K C=true
 init:W.findIn K (.ref C) "__init__" = some (some (.ref f))
 fn:W.isFn K (.ref f)=true
 kp:W.keepIn K (.ref C)=true
def qaQ6(C:γ)(sp:Sp)(E:St->XK)(t:TA):TS:=λ D σ H=>t σ H λ vs H1=>vs.length<=1000/\∀ a,H1 a=none->sp (.ref a::vs) (upd H1 a (Bo a C none true)) (λ v H2=>v=.non/\∃ b,H2 a=some (Bo a C b true)/\E σ (.ref a) none (upd H2 a (Bo a C b false))) E0
section
variable{X:Cx}{k:Nat}{f C:γ}{fd:ε}{ps:List Str}{sp:Sp}{E:St->XK}{x:Str}{np cpos pos:Pos}{e:Expr}{es:List Expr}{t:TA}
theorem qay2(M:MkE X.K C f)(F:B6 X.prog X.w X.K X.mg X.base CX0 k f fd ps sp)(L:Room (k+1) X.A)(hm:X.mg x=some (.ref C))(U:Binds X.K fd ps [])(Y:Lands X E)(Z:PA X (e::es) t)(hg:Gl X x:=by rfl)(m:N' x:=by decide)(he:Ko (e::es) X.env=(false,eval e X.env)::Ko es X.env:=by rfl)(n:(backTo cpos (Ko es X.env)).any (·.1)=false:=by rfl) :
   PS X (.Raise (some (.Call (.Name x np) (e::es) [] cpos)) none pos) (qaQ6 C sp E t):=by
 intro E3 s σ H D I h;rw[arm_exec_Raise];refine G' (wpAny_standAt (qad5 (K:=X.K) (L.hd rfl) ?_));refine G' (wpAny_Call_Name_kw (qz2 I hg hm ?_ m));refine W.callWith_K (h₀:=X.base) I.ok.mod.kin M.kp (thn (Z cpos E3 s σ H _ I h) λ d s1 p=>?_) he n;obtain⟨vs,H1,I1,r,hz,q⟩:=p;refine⟨I1.kIn,?_⟩;obtain⟨c,g1,d1,t1,o1⟩:=s1;show wpAny _ _ (call (.ref C) d) _ _ _;refine qaD3 I1.kIn M.mke M.init (zBn.mp M.fn) (by rw[<- r.length,Kx];lia) ?_;have nz:H1 (c.objs.size+1)=none:=I1.hok.fresh (Nat.le_succ _);have N:=q (c.objs.size+1) nz;have I2:=I1.kept (h':=c.push { cls:=.type "tuple",data:=.seq d.toArray }) (t':=t1) λ b u z=>zA2 _ z
 have g2:((c.push { cls:=.type "tuple",data:=.seq d.toArray }).push { cls:=.ref C,data:=.fields #[.ref c.objs.size,.none,.none,.none,.bool false,.none] }).get? (c.objs.size+1)=some { cls:=.ref C,data:=.fields #[.ref c.objs.size,.none,.none,.none,.bool false,.none] }:=by heap_get
 have I3:=I2.laid (a:=c.objs.size+1) (o:=Bo (c.objs.size+1) C none true) (t':=t1) (h':=(c.push { cls:=.type "tuple",data:=.seq d.toArray }).push { cls:=.ref C,data:=.fields #[.ref c.objs.size,.none,.none,.none,.bool false,.none] })
   (λ b u z=>zA2 _ z) (Nat.le_of_eq (Heap.size_push _ _)) (qap6 ⟨_,_,g2,rfl,rfl,rfl,by simp,λ _=>by simp⟩)
 have O:Lw (V.ref (c.objs.size+1)::vs) (Value.ref (c.objs.size+1)::d):=.cons rfl r;have y:((Value.ref (c.objs.size+1)::d)++[]).length=ps.length:=by rw[zAe,<- O.length];exact F.len _ _ _ _ N
 have g:=U _ (Value.ref (c.objs.size+1)::d) I3.kIn y;rw[zAe] at g;refine wpAny_call (codeAny_mono (F.run _ X.stack _ _ ⟨Value.ref (c.objs.size+1)::d,[]⟩ (Value.ref (c.objs.size+1)::d) _ _ E0 (L.make C d []) (I3.env0.make C d []) g O N) λ B i z=>?_);cases B with
 | error e=>exact z.elim
 | ok fl =>
   cases fl with
   | ret u =>
     obtain⟨v,H',I4,rv,ev,P,Q,q4⟩:=I3.after z;subst ev;refine⟨rv,?_⟩;refine G' (wpAny_standAt (J' ?_));obtain⟨j,G,l,R,p3,J,S,T⟩:=Ji I4.hok Q;refine⟨c.objs.size+1,j,G,C,rfl,I4.kIn,M.exc,l,R,J,T rfl,?_⟩;have I5:Ly X E3 σ (upd H' (c.objs.size+1) (Bo (c.objs.size+1) C P false)) i :=
       I4.write (x:=c.objs.size+1) (e:=c.objs.size+1) (h':=i.heap) (t':=i.toks) (by rw[Q];exact True.intro) (.inl rfl) (λ _ _ _ z=>z) ⟨j,l⟩ (qap6 ⟨j,G,l,R,p3,J,S,λ z=>nomatch z⟩)
     exact Y E3 σ _ i (c.objs.size+1) c.objs.size I5 ⟨Nat.le_succ _,⟨C,P,qb3⟩,j,G,l,J,S,.inl (T rfl)⟩ I1.old q4
   | next=>exact False.elim z
   | brk=>exact False.elim z
   | cont=>exact False.elim z
end
noncomputable def Xt(X:Cx)(xe:V'->δ->Prop)(pn:List (γ×Obj)):Cx:={ X with xe:=xe,pn:=pn }
noncomputable def Xh(X:Cx)(a:γ):Cx:={ X with A:=X.A.mark (some (.ref a)),calm:=false,xe:=λ _ _=>False }
section
variable{X:Cx}{E3:List (γ×Obj)}{σ:St}{H:Hp}{s:δ}{a:γ}{n:Nat}
theorem Cx.Ok.t{b:List (γ×Obj)}(a:X.Ok):(Xt X xe b).Ok :=
 ⟨a.mod,a.kind,a.glob,a.blt,a.above,a.inj,a.has,a.cab,a.hd,a.frames,a.stk,a.exf,a.bs,a.bsz,a.noex,a.exfs,a.funs,a.frf⟩
theorem Cx.Ok.h(b:X.Ok):(Xh X a).Ok :=
 ⟨b.mod,b.kind,b.glob,b.blt,b.above,b.inj,b.has,b.cab,λ z=>(by cases z),b.frames,b.stk,b.exf,b.bs,b.bsz,b.noex,b.exfs,b.funs,b.frf⟩
theorem Ly.t(I:Ly X E3 σ H s):Ly (Xt X xe (X.pn++E3)) [] σ H s :=
 ⟨I.ok.t,I.os,I.bare,I.base,I.loc,I.cell,I.free,I.freeC,λ p a=>I.pin p (by rw[zAe] at a;exact a),I.hok,I.len⟩
theorem Ly.unt{pins':List (γ×Obj)}(a:X.Ok)(I:Ly (Xt X xe (X.pn++E3)) pins' σ H s):Ly X E3 σ H s :=
 ⟨a,I.os,I.bare,I.base,I.loc,I.cell,I.free,I.freeC,λ p b=>I.pin p (zBu _ b),I.hok,I.len⟩
theorem Ly.h(I:Ly X E3 σ H s):Ly (Xh X a) E3 σ H s:=⟨I.ok.h,I.os,I.bare,I.base,I.loc,I.cell,I.free,I.freeC,I.pin,I.hok,I.len⟩
theorem Ly.unh(b:X.Ok)(I:Ly (Xh X a) E3 σ H s):Ly X E3 σ H s:=⟨b,I.os,I.bare,I.base,I.loc,I.cell,I.free,I.freeC,I.pin,I.hok,I.len⟩
theorem qap1{M:Model}{A:Around}{E:V'->δ->Prop}(I:Ly X E3 σ H s)(F:Fly n H s.heap a)(O:Old X E3 n)(h:∀ s',Ly X E3 σ H s'->Fly n H s'.heap a->Q () s') :
   wpAny M A (setFlight (.ref a) none) Q E s:=by
 obtain⟨v,w,g,i,y,B⟩:=F.ob;unfold setFlight;rcases B with z | ⟨T,J,K,l,d,m,r,t,j,C⟩
 . refine G' (wpAny_field g i z ?_)
   rw[if_neg (by decide)];exact J' (h s I F)
 refine G' (wpAny_field g i l ?_);rw[if_pos (show (Value.ref T != Value.none)=true from by simp)];have u:=(Array.getElem?_eq_some_iff.mp C).1;refine wpAny_setField t j u ?_;have other:∀ b,b≠T->(s.heap.update T (Obj.mapFields (·.setIfInBounds 3 ((none:Option γ).elim Value.none λ f=>rawInt f)))).get? b=s.heap.get? b:=λ b k=>zBb _ _ (Ne.symm k)
 have D:=zBk (Obj.mapFields (·.setIfInBounds 3 ((none:Option γ).elim Value.none λ f=>rawInt f))) t (Obj.isFreed_of_fields (Obj.data_mapFields j _));refine h _ (I.turned (it:=T) (t':=s.toks) (λ b o k q=>(other b k).trans q) m (Nat.ne_of_gt (zAg O.loc d)) (.inr (zAp O.st d)) (λ x c e=>zAj (zAg (O.cell x c e) d)) λ p G=>zAj (zAg (O.pin p G) d)) ?_;exact⟨F.ge,F.tr,v,w,(other a (Ne.symm r)).trans g,i,y,.inr ⟨T,_,_,l,d,m,r,D,Obj.data_mapFields j _,by simp[u]⟩⟩
end
def PH(X:Cx)(b:List ExceptHandler)(t:γ->TS):Prop :=
 ∀(E3:List (γ×Obj))(s:δ)(σ:St)(H:Hp)(D:Eb)(a:γ)(n:Nat),Ly X E3 σ H s->Fly n H s.heap a->Old X E3 n->t a D σ H->wpAny (model X.prog X.w) X.A (handleBy (.ref a) X.env b) (SP X E3 D) X.xe s
section
variable{X:Cx}
theorem qaR6:PH X [] (λ _ _ _ _=>False):=λ _ _ _ _ _ _ _ _ _ _ h=>h.elim
def sTry(tb:(St->XK)->TS)(th:γ->TS):TS:=λ D σ H=>∃ E:St->XK,tb E D σ H/\∀ a σ' H',E σ' (.ref a) none H'->∃ σ'':St,σ''.length=σ'.length/\(∀(i:Nat)(v:V),σ''[i]? = some (some v)->σ'[i]? = some (some v))/\th a D σ'' H'
theorem qaR2{body:List Stmt}{h₀:ExceptHandler}{c:List ExceptHandler}{pos:Pos}{tb:(St->XK)->TS}{th:γ->TS}(y:∀ E xe m,Lands (Xt X xe m) E->PSs (Xt X xe m) body (tb E))(B:PH X (h₀::c) th)(b:X.stack=X.env::X.outer:=by rfl)(d:X.env.frame=some X.env.locals:=by rfl):PS X (.Try body (h₀::c) [] [] pos) (sTry tb th):=by
 intro E3 s σ H D I ⟨E,C,q2⟩;refine wpAny_Try_except ?_
 let xe:V'->δ->Prop:=λ e s₁=>wpAny (model X.prog X.w) X.A (noteFrame e X.env) (λ _ s₂=>wpAny (model X.prog X.w) X.A (setFlight e none) (λ _ s₃=>wpAny (model X.prog X.w) X.A (handleBy e X.env (h₀::c)) (SP X E3 D) X.xe s₃) X.xe s₂) X.xe s₁
 have G:Lands (Xt X xe (X.pn++E3)) E:=λ pins' σ' H' g a n I' F O q=>by
   have J:Ly X E3 σ' H' g:=I'.unt I.ok;have O':Old X E3 n:=⟨O.st,O.loc,O.cell,λ p K=>O.pin p (zBu _ K)⟩
   obtain⟨V,o,r,x,M,N⟩:=id F.ob;show wpAny _ _ (noteFrame _ _) _ _ g;have h:X.A.frames=some (X.env::X.outer):=by rw[J.ok.frames,b]
   have i:g.heap.FunFrames X.base (X.env::X.outer):=by have:=J.stack;rwa[b] at this
   refine qJ9 (base:=X.base) (vs:=o) h i d r x M ?_ λ W T L=>?_
   . rcases N with z | ⟨T,P,Q,j,_,_,k,l,R,S⟩
     . exact .inl z
     exact .inr ⟨T,P,Q,j,k,l,R,S⟩
   obtain⟨J2,F2⟩:=J.left (T:=T) F O' r x (by rw[b];exact L);obtain⟨σ'',j,k,l⟩:=q2 a σ' H' q;exact B E3 _ _ H' D a n (J2.weak j k) F2 O' l
 refine K6 (y E xe (X.pn++E3) G [] s σ H D I.t C) (λ f Y z=>?_) λ _ _ z=>z
 cases f with
 | next=>obtain⟨σ',H',J,z⟩:=z;exact wpAny_execs_nil ⟨σ',H',J.unt I.ok,z⟩
 | brk=>obtain⟨σ',H',J,z⟩:=z;exact⟨σ',H',J.unt I.ok,z⟩
 | cont=>obtain⟨σ',H',J,z⟩:=z;exact⟨σ',H',J.unt I.ok,z⟩
 | ret u=>obtain⟨v,σ',H',J,U,z⟩:=z;exact⟨v,σ',H',J.unt I.ok,U,z⟩
end
end L2
namespace L2
open PySem PySem.Spec PyProof.Rows PySem.SeqAt
open PySem.AutoSeq1 (wpAny_loadPart')
theorem Fun.okX{P:Program}{w:World}{K:W.Frag}{mg:Str->Option V'}{base:Heap}{x qual:Str}{st:Stmt}{f:γ}{fd:ε}{N ps:List Str}{k:Nat}{sp:Sp}(F:Fun K x qual st f fd)(S:qa8 N ps (qa3 st))(len:∀ vs H Q E,sp vs H Q E->vs.length=ps.length)(hbody:∀(a:V')(A:Around)(outer:List Env)(s:δ)(H:Hp)(vs:List V)(Q:VK)(E:XK),Room k (A.deeper (envOfC qual (qa3 st) s.heap.objs.size f a))->sp vs H Q E ->
     ∃ t,PSs (Eu true (CX1 P w) P w K mg base N qual (qa3 st) f a A outer s H E) (qd0 st) t/\t { nx:=λ _ H'=>Q .non H',rt:=Q } (start N vs) H):B6 P w K mg base (CX1 P w) (k+1) f fd ps sp:=by
 obtain⟨i,j,kV,d,l,m,a,n,e,rfl,g,b⟩:=F.ex;exact Jd g b S len λ A outer s H vs Q E h c=>hbody a A outer s H vs Q E h c
end L2
namespace L2
open PySem PySem.Spec PyProof.Rows
section
variable{X:Cx}{E3:List (γ×Obj)}{σ:St}{H:Hp}{s:δ}{h':Heap}
theorem Ly.turnedL{t':Nat}{ch:List γ}(I:Ly X E3 σ H s)(k:∀ b o,b∉ch->s.heap.get? b=some o->h'.get? b=some o)(f:∀ b∈ch,Gh X E3 H b):Ly X E3 σ H { s with heap:=h',toks:=t' }:=by
 have d:∀ b u,H b=some u->b∉ch:=λ b u e z=>by rw[(f b z).1] at e;cases e
 refine I.step (g':=s.gens) (d':=s.drawn) (ch:=ch) (λ b g=>?_) (λ b o _ _ a e _=>k b o a e) (λ b o _ _ a e _=>⟨o.slots,k b o a e⟩) (λ _ _ _ _ n=>n)
   (λ b o a e=>⟨o,k b o a e⟩) (λ _ _ e=>e) (λ _ _ _ e=>e) (λ b w e=>⟨#[],by rw[e];simp⟩) (λ m h=>?_) (λ b u e=>?_) I.bare
 . obtain⟨x,f1,f2,f3,i,j⟩:=f b g
   exact⟨f3,f1,i,j⟩
 . obtain⟨o,l,p,t,r⟩:=h
   exact⟨o,l,p,k _ o (λ z=>(f _ z).2.1 rfl) t,r⟩
 refine(I.hok b u e).stay (λ c v a q=>k c v ?_ q) (λ _ q=>q) λ _ _ q=>q
 rcases a with z | z
 . rw[z];exact d b u e
 exact d c _ z
end
def Ite(K:W.Frag)(a:γ):It :=
 ⟨λ i H=>∃ xs x,SqL K H a xs/\xs[i]? = some x,λ i H x H'=>∃ t y,x=.ref t/\H t=none/\H'=upd H t (.q [.int (i:Int),y])/\∀ xs,SqL K H a xs->xs[i]? = some y,λ i H=>∃ xs,SqL K H a xs/\xs.length<=i⟩
theorem qal1{P:Program}{w:World}{K:W.Frag}{elts:List Expr}{x1:Nat}{pos:Pos}(a it e:γ)(m:e≠it):I8 P w K (.Tuple elts x1 pos) (Ite K a) [e,it] e (λ i h=>(∃ old,IsEnum h e it (i:Nat) old)/\h.IsListIter it a i) where
 mem:=by simp
 obj:=λ i h d b c=>by
   obtain⟨⟨old,f⟩,o,ho,C,hd⟩:=d;rcases zAm.mp c with rfl | c
   . exact⟨_,f,λ v z=>by
       have z':Data.fields _=Data.cell v:=z;cases z'⟩
   rw[zA8.mp c];exact⟨o,ho,λ v z=>by rw[hd] at z;cases z⟩
 keep:=λ i h Z d k=>by
   obtain⟨⟨old,f⟩,d⟩:=d;exact⟨⟨old,k e (by simp) _ f⟩,d.at λ o q=>k it (by simp) o q⟩
 item:=by
   intro X D F G C i E3 s σ H E I n d J;subst D F G;obtain⟨xs,x,B,L⟩:=J;obtain⟨⟨old,f⟩,g⟩:=d;obtain⟨M,N,p,hz⟩:=I.list B;obtain⟨u,hu,ru⟩:=N.get L;have O:H s.heap.objs.size=none:=I.hok.fresh (zA6 _);obtain⟨oi,Q,_⟩:=id g;have r:e < s.heap.objs.size:=zA9 f;have t:it < s.heap.objs.size:=zA9 Q;refine wpAny_pyNext_enum_item f g p.isList (x:=u) (by simpa using hu) m λ h1 R y S a0 T=>?_
   refine⟨_,rfl,wpAny_letOwnedTupleGo_enum (s:={ s with heap:=h1,toks:=s.toks+1 }) R λ U V j=>?_⟩
   replace j:Heap.SameBut e h1 U:=j
   have I0:Ly X E3 σ (upd H s.heap.objs.size (.q [.int (i:Int),x])) { s with heap:=s.heap.push { cls:=.type "tuple",data:=.seq #[.int i s.toks,u] },toks:=s.toks+1 } :=
     I.laid (λ b o q=>zA2 _ q) (zA6 _) ⟨by show 2<=Kq;decide,[.int i s.toks,u],.cons ⟨_,rfl⟩ (.cons ru .nil),⟨_,zAu _ rfl,rfl,_,rfl⟩⟩
   have I2:Ly X E3 σ (upd H s.heap.objs.size (.q [.int (i:Int),x])) { s with heap:=U,toks:=s.toks+1 }:=by
     refine Ly.turnedL (s:={ s with heap:=s.heap.push { cls:=.type "tuple",data:=.seq #[.int i s.toks,u] },toks:=s.toks+1 }) (h':=U) (ch:=[e,it]) (t':=s.toks+1) I0 (λ b o c q=>?_) (λ b c=>?_)
     . have A:b≠e:=λ z=>c (by simp[z])
       have Y:b≠it:=λ z=>c (by simp[z])
       refine j.extBut b o A ?_;rcases Heap.get?_push_cases (show (s.heap.push { cls:=.type "tuple",data:=.seq #[.int i s.toks,u] }).get? b=some o from q) with⟨rfl,rfl⟩ | q
       . exact S
       exact T b o A Y q
     refine⟨?_,(n b c).2⟩;have l:b < s.heap.objs.size:=by
       rcases zAm.mp c with rfl | c
       . exact r
       rw[zA8.mp c];exact t
     rw[qb4 (zAj l)];exact(n b c).1
   refine⟨.ref s.heap.objs.size,_,I2,rfl,⟨_,x,rfl,O,rfl,λ ys hy=>by rw[I.list_inj hy B];exact L⟩,⟨⟨u,?_⟩,?_⟩,λ b c=>?_⟩
   . have:((i+1:Nat):Int)=(i:Int)+1:=by push_cast;rfl
     rw[this];exact V
   . exact y.extBut j.extBut (Ne.symm m)
   have l:b < s.heap.objs.size:=by
     rcases zAm.mp c with rfl | c
     . exact r
     rw[zA8.mp c];exact t
   rw[qb4 (zAj l)];exact(n b c).1
 done:=by
   intro X D F G C i E3 s σ H E I n d J;subst D F G;obtain⟨xs,B,L⟩:=J;obtain⟨⟨old,f⟩,g⟩:=d;obtain⟨M,N,p,hz⟩:=I.list B;obtain⟨f0,f1,f2,f3,f4,f5⟩:=n it (by simp);have hl:=N.length;exact wpAny_pyNext_enum_end (I.ok.hd C) f g p.isList (by simp;lia) λ Z eb=>⟨rfl,I.turned (t':=s.toks) (λ b o c q=>eb b o c q) f0 f1 f3 f4 f5⟩
 self:=λ _ _ _ _ _ d h=>by
   obtain⟨⟨old,f⟩,_⟩:=d;exact wpAny_pyIter_enum f h
section
variable{X:Cx}
def iEnum(K:W.Frag)(ta:TA):TI:=λ σ H R=>ta σ H λ vs H1=>∃ a,vs=[.ref a]/\(∃ xs,SqL K H1 a xs)/\R (Ite K a) H1
theorem qaI4{l:Expr}{ta:TA}{elts:List Expr}{j:Nat}{p pos tpos:Pos}(k:Gl X "enumerate")(hm:X.mg "enumerate" = none)(m:PA X [l] ta)(n:Ko [l] X.env=[(false,eval l X.env)]:=by rfl):PI X (.Tuple elts j tpos) (.Call (.Name "enumerate" p) [l] [] pos) (iEnum X.K ta):=by
 intro E3 s σ H R I h;refine Call_ (qag2 I k hm boot_enumerate (PyProof.Rows.callWith_type1 (thn (m pos E3 s σ H _ I h) λ B c f=>?_) n rfl));obtain⟨C,H1,I1,o,t⟩:=f;obtain⟨a,e,⟨D,u⟩,q⟩:=t;subst e;cases o with
 | cons r v =>
   cases v;cases r;obtain⟨w,E,x,F⟩:=I1.list u;refine call_enumerate_list x.isList λ G i y z A=>?_
   refine wpAny_pyIter_enum i ?_;refine⟨c.heap.objs.size+1,[c.heap.objs.size+1,c.heap.objs.size],_,_,H1,rfl,I1.kept (t':=c.toks) A,qal1 a c.heap.objs.size (c.heap.objs.size+1) (Nat.succ_ne_self _),⟨⟨_,i⟩,y⟩,λ b g=>?_,q⟩;have d:c.heap.objs.size<=b:=by
     rcases zAm.mp g with rfl | g
     . exact Nat.le_succ _
     rw[zA8.mp g];exact zA6 _
   exact I1.fpOk d (I1.hok.fresh d)
end
section
variable{X:Cx}
def qaH2:V->List V->Hp->VK->Prop:=λ x vs H Q=>∃ l xs y j z,x=.ref l/\vs=[y]/\H l=some (.l xs)/\flatV y=true/\xs.all flatV=true/\xs[j]? = some z/\eqV z y=true/\(∀ m z',m < j->xs[m]? = some z'->eqV z' y=false)/\Q (.int (j:Nat)) H
theorem Lw.getU{xs:List V}{us:List V'}(r:Lw xs us){j:Nat}{u:V'}(h:us[j]? = some u):∃ x,xs[j]? = some x/\Lv x u:=by
 have c:=r.length;have d:j < us.length:=(zA5.mp h).1;obtain⟨e,a,b⟩:=r.get (show xs[j]? = some xs[j] by simp);rw[h] at a;cases a;exact⟨_,by simp,b⟩
theorem qF9:MtM X "list.index" qaH2:=by
 intro E3 s σ H x N v O Q I f C h;obtain⟨l,p,y,j,P,rfl,rfl,D,E,t,A,g,i,q⟩:=h;cases f;obtain⟨u,rfl,G⟩:=C.one;obtain⟨z,a,n,r,R,e⟩:=I.lstM D;have J:j < p.length:=(zA5.mp A).1;have B:=r.length;have small:((j:Nat):Int) < 2 ^ 63 - 1:=by
   have:Kq < 2 ^ 62:=by decide
   lia
 have eqAt:∀ m (d:m < a.toArray.size),∃ x,p[m]? = some x/\eqU y a.toArray[m]=eqV x y:=λ m d=>by
   have K:m < a.length:=by simpa using d
   obtain⟨x,b,f⟩:=r.getU (show a[m]? = some a[m] by simp);have L:flatV x=true:=zB1.mp t x (zBa b);refine⟨x,b,?_⟩
   have:=qap7 (x:=y) f L
   simpa using this
 have c:j < a.toArray.size:=by simp;lia
 refine K9 F.slot_list_index ⟨_,e,rfl⟩ F.entry_list_index (F.args_list_index_2 _ _) (SeqAt.list_indexAt l a.toArray n none #[] u (eqU y) j c small ?_ ?_) ⟨e,λ w M=>qn8 G E r t w (by simpa using M),⟨.int (j:Nat),H,I.tok _,⟨_,rfl⟩,q⟩⟩
 . obtain⟨x,b,k⟩:=eqAt j c
   rw[A] at b;cases b;rw[k];exact g
 intro m d o;obtain⟨x,b,k⟩:=eqAt m d;rw[k];exact i m x o b
def qaH4:V->List V->Hp->VK->Prop:=λ x vs H Q=>∃ l xs y,x=.ref l/\vs=[y]/\H l=some (.l xs)/\flatV y=true/\xs.all flatV=true/\Q (.int (xs.countP (λ z=>eqV z y):Nat)) H
theorem qV8{x:V}:∀{xs:List V}{us:List V'},Lw xs us->xs.all flatV=true->us.countP (eqU x)=xs.countP λ y=>eqV y x
 | _,_,.nil,_=>rfl
 | y::xs,u::us,.cons r t,f=>by
   rw[List.all_cons,zB4] at f;rw[List.countP_cons,List.countP_cons,qap7 r f.1,qV8 t f.2]
theorem qaA9:MtM X "list.count" qaH4:=by
 intro E3 s σ H x k v m Q I c d h;obtain⟨l,o,y,rfl,rfl,f,g,b,q⟩:=h;cases c;obtain⟨u,rfl,i⟩:=d.one;obtain⟨z,a,n,r,p,e⟩:=I.lstM f;refine K9 F.slot_list_count ⟨_,e,rfl⟩ F.entry_list_count (F.args_list_count_2 _ _) (SeqAt.list_countAt l a.toArray n none #[] u (eqU y)) ⟨e,λ w j=>qn8 i g r b w (by simpa using j),⟨.int _,H,I.tok _,⟨_,rfl⟩,?_⟩⟩;rw[show a.toArray.toList.countP (eqU y)=a.countP (eqU y) by simp,qV8 r b];exact q
end
theorem qaq3{K:W.Frag}{a D:γ}{xs:List V}{g:TG}{tf:TT}{te:TE}{R:Hp->Prop}{σ:St}{H:Hp}(Pv:Nat->St->Hp->Prop)(c:Pv 0 σ H)(d:∀ i σ H,i<=xs.length->Pv i σ H->SqL K H a xs)(f:∀(i:Nat) x σ H t,xs[i]? = some x->Pv i σ H->H t=none->g (.ref t) σ (upd H t (.q [.int (i:Int),x])) λ σ2 H2=>tf σ2 H2 λ h H3=>if h=true then te σ2 H3 λ v H4=>∃ ys,H4 D=some (.l ys)/\ys.length < Kq/\Pv (i+1) σ2 (upd H4 D (.l (ys++[v]))) else Pv (i+1) σ2 H3)(j:∀ σ H,Pv xs.length σ H->R H) :
   qH5 (Ite K a) g tf te D R σ H:=by
 refine⟨λ i m σ H=>m=xs.length - i/\i<=xs.length/\Pv i σ H,⟨xs.length,by simp,zBe _,c⟩,?_⟩;rintro i m σ H ⟨rfl,k,p⟩;have q:=d i σ H k p;by_cases b:i < xs.length
 . refine .inr ⟨⟨xs,xs[i],q,by simp[b]⟩,Pv (i+1),λ σ' H' l=>⟨xs.length - (i+1),by lia,rfl,b,l⟩,λ x H' y=>?_⟩
   obtain⟨t,n,e,o,r,s⟩:=y;subst e r;exact f i n σ _ t (s xs q) p o
 have e:i=xs.length:=by lia
 subst e;exact .inl ⟨⟨xs,q,zA6 _⟩,j σ H p⟩
end L2
namespace L2
open PySem PySem.Spec PyProof.Rows
noncomputable def qaB7:List String:=["NoneType", "bool", "int", "str", "list", "tuple", "dict"]
structure IsO(K:W.Frag)(C:γ):Prop where
 ca:W.findIn K (.ref C) "__class__" = some (some (.builtin "object.__class__"))
 cn:W.specialIn K (.builtin "object.__class__") "__get__" = some (some (.builtin "getset_descriptor.__get__"))
 ct:W.takesIn K (.builtin "object.__class__")=some true
 cm:W.mroIn K C (.type "object")=some true
 kf:∀ t∈qaB7,W.kitOne K (.type t) (.ref C)=some false
theorem kf_of{K:W.Frag}{C:γ}(h1:W.kitOne K (.type "NoneType") (.ref C)=some false)(h2:W.kitOne K (.type "bool") (.ref C)=some false)(b:W.kitOne K (.type "int") (.ref C)=some false)(c:W.kitOne K (.type "str") (.ref C)=some false)(d:W.kitOne K (.type "list") (.ref C)=some false)(e:W.kitOne K (.type "tuple") (.ref C)=some false)(f:W.kitOne K (.type "dict") (.ref C)=some false) :
   ∀ t∈qaB7,W.kitOne K (.type t) (.ref C)=some false:=by
 intro t a;unfold qaB7 at a;simp only[zAm,zBs,or_false] at a;rcases a with rfl | rfl | rfl | rfl | rfl | rfl | rfl<;>assumption
section
variable{X:Cx}
def rIsO(C:γ):List V->Hp->VK->Prop:=λ xs H Q=>∃ x,xs=[x,.ref C]/\((∃ a dx fs,x=.ref a/\H a=some (.ins C dx fs)/\Q (.bl true) H)∨(∃ t,Bj H x=some t/\Q (.bl false) H))
theorem qaE2{C:γ}(b:IsO X.K C)(g:Cls X.K C):CallR X (.builtin "isinstance") (rIsO C):=by
 intro E3 s σ H k l Q I r h;obtain⟨x,rfl,h⟩:=h;obtain⟨u,m,rfl,f,c⟩:=Hi r;cases c;rcases h with⟨a,dx,fs,rfl,ha,q⟩ | ⟨t,hk,q⟩
 . have e:W.kitOne X.K (.ref C) (.ref C)=some true:=by
     unfold W.kitOne;rw[if_pos (by simp)]
   exact qG3 I f (.ins ha g b.ca b.cn b.ct b.cm) e λ d=>⟨.bl true,H,I.tok d,rfl,q⟩
 obtain⟨i,j⟩:=qag5 (K:=X.K) hk;exact qG3 I f i (b.kf t j) λ d=>⟨.bl false,H,I.tok d,rfl,q⟩
theorem qaS2{x:Str}(C:γ){pos:Pos}(hm:X.mg x=some (.ref C))(a:Gl X x:=by rfl)(b:N' x:=by decide):PE X (.Name x pos) (tC (.ref C)):=qat5 a hm rfl b
end
end L2
namespace Row
variable{a i j q s t:Nat}{g':Nat->Option Int}{x y:Int}
noncomputable def Aa(n h r:Nat):Nat:=if h<=r then r - h else r+n - h
noncomputable def prev(n r:Nat):Nat:=if r=0 then n - 1 else r - 1
noncomputable def next(n r:Nat):Nat:=if r+1=n then 0 else r+1
def ahead(n:Nat)(hm:Int->Nat)(r:Nat)(x y:Int):Prop:=Aa n (hm y) r < Aa n (hm x) r∨(Aa n (hm x) r=Aa n (hm y) r/\x < y)
theorem qt6{n:Nat}{hm:Int->Nat}{r:Nat}{z:Int}(h:ahead n hm r x y)(h':ahead n hm r y z):ahead n hm r x z:=by
 unfold ahead at *;lia
theorem qM0{n:Nat}{hm:Int->Nat}{r:Nat}(h:ahead n hm r x y)(h':ahead n hm r y x):False:=by
 unfold ahead at *;lia
theorem qar3{n:Nat}{hm:Int->Nat}{r:Nat}(h:ahead n hm r x x):False:=qM0 h h
theorem qar2{n:Nat}{hm:Int->Nat}{r:Nat}(h:x≠y)(h':¬ ahead n hm r x y):ahead n hm r y x:=by
 unfold ahead at *;lia
theorem qf9{n r:Nat}(h:r < n):next n r < n:=by unfold next;split<;>lia
theorem qi4{n r:Nat}(h:r < n):prev n r < n:=by unfold prev;split<;>lia
theorem qj7{n r:Nat}(h:r < n):prev n (next n r)=r:=by unfold prev next;split<;>split<;>lia
theorem qF8{n r:Nat}(h:r < n):next n (prev n r)=r:=by unfold prev next;split<;>split<;>lia
theorem qh6{n r:Nat}(h:r < n)(b:a < n):Aa n a r < n:=by unfold Aa;split<;>lia
theorem qi1{n r:Nat}(b:a < n)(h:r < n)(h':s < n)(e:Aa n a r=Aa n a s):r=s:=by
 unfold Aa at e;split at e<;>split at e<;>lia
theorem qb7{n r:Nat}(b:a < n)(h:r < n):Aa n a r=0↔r=a:=by unfold Aa;split<;>lia
theorem qd5{n r:Nat}(c:a < n)(h:r < n)(b:0 < Aa n a r):Aa n a (prev n r)=Aa n a r - 1:=by
 unfold Aa prev at *;split at b<;>split<;>split<;>lia
theorem qj9{n r:Nat}(c:a < n)(h:r < n)(b:Aa n a r+1 < n):Aa n a (next n r)=Aa n a r+1:=by
 unfold Aa next at *;split at b<;>split<;>split<;>lia
theorem nor(n s:Nat):(s+1=n/\next n s=0)∨(s+1≠n/\next n s=s+1):=by unfold next;split<;>lia
theorem por(n s:Nat):(s=0/\prev n s=n - 1)∨(s≠0/\prev n s=s - 1):=by unfold prev;split<;>lia
theorem dor(n a r:Nat):(a<=r/\Aa n a r+a=r)∨(r < a/\(a<=r+n->Aa n a r+a=r+n)):=by
 unfold Aa;split<;>lia
theorem Ep{n:Nat}(b:a < n)(hi:i < n)(c:s < n)(h:Aa n a i<=Aa n a s):Aa n a i+Aa n i s=Aa n a s:=by
 have d:=dor n a i;have e:=dor n a s;have f:=dor n i s;lia
theorem Ig{n:Nat}(b:a < n)(c:s < n)(d:t < n)(h:Aa n a s < Aa n a t):Aa n t s+Aa n a t=n+Aa n a s:=by
 have e:=dor n a s;have f:=dor n a t;have g:=dor n t s;lia
theorem qaW6{n:Nat}(a:s < n):Aa n (next n s) s+1=n:=by
 have b:=dor n (next n s) s;have c:=nor n s;lia
theorem qaq1{n b:Nat}(f:a < n)(c:b < n)(d:j < n)(hi:i < n)(h1:Aa n a i<=Aa n a j)(h2:Aa n a j<=Aa n b j):Aa n b i+(Aa n a j - Aa n a i)=Aa n b j:=by
 have g:=Ep f hi d h1;have h:=qh6 hi c;rcases Nat.lt_or_ge (Aa n b j) (Aa n b i) with e | e
 . have:=Ig c d hi e
   lia
 have:=Ep c hi d e
 lia
structure Ord(n:Nat)(hm:Int->Nat)(g:Nat->Option Int):Prop where
 home:∀ k,hm k < n
 inj:∀ i j k,i < n->j < n->g i=some k->g j=some k->i=j
 ord:∀ i k,i < n->g i=some k->0 < Aa n (hm k) i->∃ x,g (prev n i)=some x/\ahead n hm (prev n i) x k
def Ih(n:Nat)(hm:Int->Nat)(g:Nat->Option Int):Prop:=∃ i,i < n/\∀ k,g i=some k->hm k=i
theorem Ord.path{n:Nat}{hm:Int->Nat}{g:Nat->Option Int}(O:Ord n hm g):∀(m j i:Nat)(z:Int),j < n->i < n->g j=some z->Aa n (hm z) i+m+1=Aa n (hm z) j->∃ x,g i=some x/\ahead n hm i x z
 | 0,j,i,z,hj,hi,hz,e=>by
   have a:0 < Aa n (hm z) j:=by lia
   obtain⟨x,b,c⟩:=O.ord j z hj hz a
   have:=qd5 (O.home z) hj a
   have f:i=prev n j:=qi1 (O.home z) hi (qi4 hj) (by lia);rw[f];exact⟨x,b,c⟩
 | m+1,j,i,z,hj,hi,hz,e=>by
   have a:0 < Aa n (hm z) j:=by lia
   obtain⟨x,b,c⟩:=O.ord j z hj hz a;have o:=qd5 (O.home z) hj a;have d:=qi4 hj;have h:Aa n (hm z) (prev n j)<=Aa n (hm x) (prev n j):=by unfold ahead at c;lia
   have p:=qaq1 (O.home z) (O.home x) d hi (by lia) h;obtain⟨y,k,l⟩:=O.path m (prev n j) i x d hi b (by lia);refine⟨y,k,qt6 l ?_⟩;unfold ahead at *;lia
theorem Ord.path'{n:Nat}{hm:Int->Nat}{g:Nat->Option Int}(O:Ord n hm g){z:Int}(a:j < n)(hi:i < n)(b:g j=some z)(h:Aa n (hm z) i < Aa n (hm z) j):∃ x,g i=some x/\ahead n hm i x z :=
 O.path (Aa n (hm z) j - Aa n (hm z) i - 1) j i z a hi b (by lia)
def Fy(n:Nat)(hm:Int->Nat)(g:Nat->Option Int)(s:Nat):Prop:=∀ j z,j < n->g j=some z->Aa n (hm z) j<=Aa n (hm z) s
theorem Ord.zero{n:Nat}{hm:Int->Nat}{g:Nat->Option Int}(O:Ord n hm g)(C:Ih n hm g):∃ s,s < n/\Fy n hm g s:=by
 obtain⟨i,b,h⟩:=C;have l:=qi4 b;refine⟨prev n i,l,λ j z c k=>zC1 λ m=>?_⟩;have a:=O.home z;by_cases d:Aa n (hm z) i=0
 . have e:=(qb7 a b).mp d
   have:=qh6 c a
   have e2:Aa n (hm z) (prev n i)=n - 1:=by
     unfold Aa prev at *
     split<;>split<;>lia
   lia
 have q:=qd5 a b (by lia);by_cases f:Aa n (hm z) i=Aa n (hm z) j
 . have e:i=j:=qi1 a b c f
   subst e
   have:=h z k
   rw[this,(qb7 b b).mpr rfl] at d;exact d rfl
 obtain⟨x,o,p⟩:=O.path' c b k (by lia);have e:=h x o
 have:Aa n (hm x) i=0:=(qb7 (O.home x) b).mpr e.symm
 unfold ahead at p;lia
theorem qV1{α:Type}[DecidableEq α](x:α):∀(S:List α),S.Nodup->S.length<=(S.filter (λ y=>decide (y≠x))).length+1
 | [],_=>by simp
 | a::S,h=>by
   have b:=zBq.mp h;by_cases e:a=x
   . subst e
     have:S.filter (λ y=>decide (y≠a))=S:=List.filter_eq_self.mpr λ y c=>by
       simp only[ne_eq,zB5];intro z;subst z;exact b.1 c
     rw[List.filter_cons_of_neg (by simp),this];simp
   rw[List.filter_cons_of_pos (by simpa using e)]
   have:=qV1 x S b.2
   simp only[zAi];lia
theorem qo0{α:Type}[DecidableEq α](x:α):∀(S:List α),x∈S->(S.filter (λ y=>decide (y≠x))).length+1<=S.length
 | [],h=>by simp at h
 | a::S,h=>by
   by_cases e:a=x
   . rw[List.filter_cons_of_neg (by simp[e])]
     have:=List.length_filter_le (λ y=>decide (y≠x)) S
     simp only[zAi];lia
   rw[List.filter_cons_of_pos (by simpa using e)]
   have:=qo0 x S (by rcases zAm.mp h with z | z;exact absurd z.symm e;exact z)
   simp only[zAi];lia
theorem qC7{g:Nat->Option Int}:∀(L:List Nat)(S:List Int),S.Nodup->(∀ k∈S,∃ i∈L,g i=some k)->S.length<=L.length
 | [],S,_,h=>by
   cases S with
   | nil=>simp
   | cons k _=>obtain⟨i,f,_⟩:=h k (by simp);simp at f
 | i::L,S,hn,h=>by
   cases d:g i with
   | none =>
     have:=qC7 L S hn λ k a=>by
       obtain⟨j,c,e⟩:=h k a;rcases zAm.mp c with z | z
       . rw[z,d] at e;cases e
       exact⟨j,z,e⟩
     simp only[zAi];lia
   | some x =>
     have m:=qC7 L (S.filter (λ y=>decide (y≠x))) (hn.filter _) λ k a=>by
       obtain⟨a,b⟩:=zAy.mp a;obtain⟨j,c,e⟩:=h k a;rcases zAm.mp c with z | z
       . rw[z,d] at e
         have l:x=k:=Option.some.inj e;rw[l] at b;simp at b
       exact⟨j,z,e⟩
     have n:=qV1 x S hn;simp only[zAi];lia
theorem qS7{g:Nat->Option Int}:∀(L:List Nat)(S:List Int),L.Nodup->(∀ i∈L,∃ k∈S,g i=some k)->(∀ i∈L,∀ j∈L,∀ k,g i=some k->g j=some k->i=j)->L.length<=S.length
 | [],S,_,_,_=>by simp
 | i::L,S,c,h,inj=>by
   obtain⟨x,f,l⟩:=h i (by simp);have c:=zBq.mp c;have p:=qS7 L (S.filter (λ y=>decide (y≠x))) c.2 (λ j d=>by
     obtain⟨k,m,e⟩:=h j (zA4 _ d);refine⟨k,zAy.mpr ⟨m,?_⟩,e⟩;simp only[ne_eq,zB5];intro z;subst z
     have:=inj i (by simp) j (zA4 _ d) k l e
     exact c.1 (this ▸ d)) λ a n b o=>inj a (zA4 _ n) b (zA4 _ o)
   have q:=qo0 x S f;simp only[zAi];lia
def Holds(n:Nat)(g:Nat->Option Int)(S:List Int):Prop:=S.Nodup/\∀ k,k∈S↔∃ i,i < n/\g i=some k
theorem qak5{n:Nat}{hm:Int->Nat}{g:Nat->Option Int}{S:List Int}(O:Ord n hm g)(O':Ord n hm g')(C':Ih n hm g')(J:Holds n g S)(w:Holds n g' S)(p:s < n)(Z:Fy n hm g s):Fy n hm g' s:=by
 obtain⟨K,F,Z'⟩:=O'.zero C';intro j z B q;refine zC1 λ v=>?_
 have R:∀ m,(∃ t,t < n/\Aa n t s<=m/\Fy n hm g' t)->∃ t,t < n/\Fy n hm g' t/\∀ u,u < n->Aa n u s < Aa n t s->¬ Fy n hm g' u:=by
   intro m
   induction m with
   | zero =>
     rintro⟨t,l,T,q⟩;exact⟨t,l,q,λ u _ h=>absurd h (by lia)⟩
   | succ m U =>
     rintro⟨t,l,T,q⟩;by_cases L:∃ u,u < n/\Aa n u s<=m/\Fy n hm g' u
     . exact U L
     exact⟨t,l,q,λ u V h W=>L ⟨u,V,by lia,W⟩⟩
 obtain⟨t,l,Zt,near⟩:=R (Aa n K s) ⟨K,F,zA6 _,Z'⟩
 let d:Nat->Bool:=λ r=>decide (Aa n r s < Aa n t s)
 have arcOf:∀ r,d r=true↔Aa n r s < Aa n t s:=λ r=>decide_eq_true_iff
 have o:=O'.home z;have M:=Zt j z B q;have Dz:Aa n (hm z) s < Aa n t s:=by
   have G:=Ig o p l (zAg v M);have e2:=qh6 l o;lia
 have Dj:¬ Aa n j s < Aa n t s:=by
   have G:=Ig o p l (zAg v M);have e2:=Ig o p B v;lia
 have X:z∈S.filter (λ k=>d (hm k)):=zAy.mpr ⟨(w.2 z).mpr ⟨j,B,q⟩,(arcOf _).mpr Dz⟩;have p1:(S.filter (λ k=>d (hm k))).length<=((List.range n).filter d).length:=by
   refine qC7 (g:=g) _ _ (J.1.filter _) λ k H=>?_
   obtain⟨H,N⟩:=zAy.mp H;obtain⟨i,c,P⟩:=(J.2 k).mp H;have N:=(arcOf _).mp N;have Y:=Z i k c P;have f:=O.home k;refine⟨i,zAy.mpr ⟨zAo.mpr c,(arcOf _).mpr ?_⟩,P⟩;have G:=Ep f c p Y;lia
 have p2:((List.range n).filter d).length<=((S.filter (λ k=>d (hm k))).filter (λ y=>decide (y≠z))).length:=by
   refine qS7 (g:=g') _ _ (List.nodup_range.filter _) (λ i c=>?_) λ a ha b hb k=>O'.inj a b k (zAo.mp (zAy.mp ha).1) (zAo.mp (zAy.mp hb).1)
   obtain⟨c,C⟩:=zAy.mp c;have c:=zAo.mp c;have C:=(arcOf _).mp C;have nz:=near i c C;obtain⟨k,D⟩:∃ k,g' i=some k:=by
     cases e:g' i with
     | some k=>exact⟨k,rfl⟩
     | none =>
       refine absurd (λ j' y I hy=>zC1 λ A=>?_) nz;obtain⟨x,Q,_⟩:=O'.path' I c hy A;rw[e] at Q;cases Q
   have ki:=Zt i k c D;have f:=O'.home k;refine⟨k,zAy.mpr ⟨zAy.mpr ⟨(w.2 k).mpr ⟨i,c,D⟩,(arcOf _).mpr ?_⟩,?_⟩,D⟩
   . have l1:=qh6 l f
     rcases Nat.lt_or_ge (Aa n (hm k) s) (Aa n (hm k) t) with E | E
     . have:=Ig f p l E
       lia
     have G:=Ep f l p E;have e2:=Ep f c p (zAp ki E);lia
   simp only[ne_eq,zB5];intro e;subst e
   have:=O'.inj i j k c B D q
   subst this;exact Dj C
 have p3:=qo0 z _ X;lia
theorem qak1{n:Nat}{hm:Int->Nat}{g:Nat->Option Int}{S:List Int}(O:Ord n hm g)(O':Ord n hm g')(z:Holds n g S)(l:Holds n g' S)(t:s < n)(Z:Fy n hm g s)(Z':Fy n hm g' s)(c:j < n)(A:∀ i,i < n->Aa n (next n s) i < Aa n (next n s) j->g i=g' i)(m:g j=some x):g' j=some x:=by
 have a:=qf9 t;have pos:∀{f:Nat->Option Int},Fy n hm f s->∀{i k},i < n->f i=some k->Aa n (next n s) (hm k)<=Aa n (next n s) i:=λ{f} Zf {i k} h D=>by
   have u:=Zf i k h D;have b:=O.home k;have P:=qaW6 t;have Q:=qh6 b a;have E:=Ep a b t (by lia);refine zC1 λ F=>?_
   have e2:=Ig a h b F;lia
 have o:∀{i k},i < n->Aa n (next n s) (hm k)<=Aa n (next n s) j->Aa n (next n s) j < Aa n (next n s) i->Aa n (hm k) j < Aa n (hm k) i:=λ{i k} h u G=>by
   have b:=O.home k;have E:=Ep a b c u;have e2:=Ep a b h (zAp u (Nat.le_of_lt G));lia
 obtain⟨p,d,q⟩:=(l.2 x).mp ((z.2 x).mpr ⟨j,c,m⟩);have H:=pos Z c m;by_cases I:Aa n (next n s) p < Aa n (next n s) j
 . have e:=A p d I
   rw[q] at e
   have:=O.inj p j x d c e m
   subst this;exact q
 by_cases J:Aa n (next n s) p=Aa n (next n s) j
 . have e:=qi1 a d c J
   subst e;exact q
 exfalso;obtain⟨y,v,B⟩:=O'.path' d c q (o d H (by lia));obtain⟨i,h,r⟩:=(z.2 y).mp ((l.2 y).mpr ⟨j,c,v⟩);have K:=pos Z' c v;by_cases L:Aa n (next n s) i < Aa n (next n s) j
 . have e:=A i h L
   rw[r] at e
   have:=O'.inj i j y h c e.symm v
   subst this;lia
 by_cases M:Aa n (next n s) i=Aa n (next n s) j
 . have e:=qi1 a h c M
   subst e;rw[m] at r;cases r;exact qar3 B
 obtain⟨w,C,N⟩:=O.path' h c r (o h K (by lia));rw[m] at C;cases C;exact qM0 B N
theorem qaz7{n:Nat}{hm:Int->Nat}{g:Nat->Option Int}{S:List Int}(O:Ord n hm g)(O':Ord n hm g')(C:Ih n hm g)(C':Ih n hm g')(d:Holds n g S)(a:Holds n g' S):∀ j,j < n->g j=g' j:=by
 obtain⟨s,f,Z⟩:=O.zero C;have Z':=qak5 O O' C' d a f Z;have main:∀ m j,j < n->Aa n (next n s) j < m->g j=g' j:=by
   intro m
   induction m with
   | zero=>intro j _ h;exact absurd h (by lia)
   | succ m l =>
     intro j c p;have b:∀ i,i < n->Aa n (next n s) i < Aa n (next n s) j->g i=g' i:=λ i k h=>l i k (by lia)
     cases e:g j with
     | some x=>exact(qak1 O O' d a f Z Z' c b e).symm
     | none =>
       cases o:g' j with
       | none=>rfl
       | some y =>
         have:=qak1 O' O a d f Z' Z c (λ i k h=>(b i k h).symm) o
         rw[e] at this;cases this
 exact λ j c=>main _ j c (zC3 _)
noncomputable def set(g:Nat->Option Int)(r:Nat)(c:Int):Nat->Option Int:=λ j=>if j=r then some c else g j
theorem qb8{g:Nat->Option Int}{r:Nat}{c:Int}:set g r c r=some c:=by unfold set;rw[if_pos rfl]
theorem qd1{g:Nat->Option Int}{r:Nat}{c:Int}(h:j≠r):set g r c j=g j:=by unfold set;rw[if_neg h]
structure Walk(n:Nat)(wr:Bool)(hm:Int->Nat)(T:List Int)(k:Int)(e:Nat)(g:Nat->Option Int)(c:Int)(r:Nat):Prop where
 o:Ord n hm g
 nin:∀ i,i < n->g i≠some c
 hr:r < n
 pth:∀ j,j < n->Aa n (hm c) j < Aa n (hm c) r->∃ x,g j=some x/\ahead n hm j x c
 he:e < n
 ge:g e=none
 lim:Aa n (hm k) r<=Aa n (hm k) e
 all:∀ x,x∈T↔(x=c∨∃ i,i < n/\g i=some x)
 ln:wr=false->hm k<=e/\hm c<=r/\∀ i x,i < n->g i=some x->hm x<=i
section
variable{n:Nat}{wr:Bool}{hm:Int->Nat}{T:List Int}{k:Int}{e:Nat}{g:Nat->Option Int}{c:Int}{r:Nat}
theorem Walk.lt(W:Walk n wr hm T k e g c r)(a:g r=some y):Aa n (hm k) r < Aa n (hm k) e:=by
 have b:=W.lim
 have:r≠e:=λ z=>by have:=W.ge;rw[<- z,a] at this;cases this
 have d:Aa n (hm k) r≠Aa n (hm k) e:=λ z=>this (qi1 (W.o.home k) W.hr W.he z)
 lia
theorem Walk.nx(W:Walk n wr hm T k e g c r)(a:g r=some y):Aa n (hm k) (next n r)=Aa n (hm k) r+1:=by
 have b:=W.lt a;have d:=qh6 W.he (W.o.home k);exact qj9 (W.o.home k) W.hr (by lia)
theorem way(a:hm x < n)(c:j < n)(b:e < n)(d:g e=none)(f:∀ i,i < n->Aa n (hm x) i<=Aa n (hm x) j->∃ y,g i=some y):Aa n (hm x) j+1 < n:=by
 have k:=qh6 c a;have l:=qh6 b a;by_cases h:Aa n (hm x) e<=Aa n (hm x) j
 . obtain⟨y,q⟩:=f e b h
   rw[d] at q;cases q
 lia
theorem Walk.on(W:Walk n wr hm T k e g c r)(a:g r=some y)(h:¬ ahead n hm r c y):Walk n wr hm T k e g c (next n r):=by
 have v:=W.nx a;have A:=W.lt a;have b:=W.o.home c;have l:c≠y:=λ z=>W.nin r W.hr (by rw[z];exact a)
 have w:Aa n (hm c) r+1 < n:=way (g:=g) b W.hr W.he W.ge λ i d m=>by
   by_cases q:Aa n (hm c) i=Aa n (hm c) r
   . rw[qi1 b d W.hr q];exact⟨y,a⟩
   obtain⟨x,p,_⟩:=W.pth i d (by lia);exact⟨x,p⟩
 have B:=qj9 b W.hr w;refine⟨W.o,W.nin,qf9 W.hr,λ j f m=>?_,W.he,W.ge,by lia,W.all,λ s=>?_⟩
 . by_cases q:Aa n (hm c) j=Aa n (hm c) r
   . rw[qi1 b f W.hr q];exact⟨y,a,qar2 l h⟩
   exact W.pth j f (by lia)
 obtain⟨t,C,u⟩:=W.ln s;refine⟨t,?_,u⟩;have D:=dor n (hm k) r;have E:=dor n (hm k) e;have F:=nor n r
 have:=W.hr
 have:=W.he
 have:=W.o.home k
 lia
theorem Walk.swap(W:Walk n wr hm T k e g c r)(l:g r=some y)(h:ahead n hm r c y):Walk n wr hm T k e (set g r c) y (next n r):=by
 have J:=W.nx l;have K:=W.lt l;have D:=W.o.home c;have m:=W.o.home y;have E:c≠y:=λ z=>W.nin r W.hr (by rw[z];exact l)
 have F:e≠r:=λ z=>by have:=W.ge;rw[z,l] at this;cases this
 have w:Aa n (hm y) r+1 < n:=way (g:=g) m W.hr W.he W.ge λ i f u=>by
   by_cases q:Aa n (hm y) i=Aa n (hm y) r
   . rw[qi1 m f W.hr q];exact⟨y,l⟩
   obtain⟨x,s,_⟩:=W.o.path' W.hr f l (by lia);exact⟨x,s⟩
 have L:=qj9 m W.hr w;refine⟨⟨W.o.home,λ i j x f t a p=>?_,λ i x f a u=>?_⟩,λ i f a=>?_,qf9 W.hr,λ j t u=>?_,W.he,by rw[qd1 F];exact W.ge,by lia,λ x=>?_,λ G=>?_⟩
 . by_cases b:i=r
   . by_cases e2:j=r
     . rw[b,e2]
     rw[b,qb8] at a;rw[qd1 e2] at p;cases a;exact absurd p (W.nin j t)
   rw[qd1 b] at a;by_cases e2:j=r
   . rw[e2,qb8] at p
     cases p;exact absurd a (W.nin i f)
   rw[qd1 e2] at p;exact W.o.inj i j x f t a p
 . have H:=qi4 f
   by_cases b:i=r
   . subst b
     rw[qb8] at a;cases a;have d:=qd5 D f u;obtain⟨x,s,A⟩:=W.pth (prev n i) H (by lia)
     have:prev n i≠i:=λ z=>by rw[z] at d;lia
     exact⟨x,by rw[qd1 this];exact s,A⟩
   rw[qd1 b] at a;obtain⟨z,v,B⟩:=W.o.ord i x f a u;by_cases e2:prev n i=r
   . rw[e2] at v B ⊢
     rw[l] at v;cases v;exact⟨c,qb8,qt6 h B⟩
   exact⟨z,by rw[qd1 e2];exact v,B⟩
 . by_cases b:i=r
   . rw[b,qb8] at a
     exact E (Option.some.inj a)
   rw[qd1 b] at a;exact b (W.o.inj i r y f W.hr a l)
 . by_cases q:Aa n (hm y) j=Aa n (hm y) r
   . rw[qi1 m t W.hr q];exact⟨c,qb8,h⟩
   obtain⟨x,s,A⟩:=W.o.path' W.hr t l (by lia)
   have:j≠r:=λ z=>q (by rw[z])
   exact⟨x,by rw[qd1 this];exact s,A⟩
 . rw[W.all x]
   constructor
   . rintro (z | ⟨i,f,a⟩)
     . exact .inr ⟨r,W.hr,by rw[z];exact qb8⟩
     by_cases b:i=r
     . rw[b,l] at a
       exact .inl (Option.some.inj a).symm
     exact .inr ⟨i,f,by rw[qd1 b];exact a⟩
   rintro (z | ⟨i,f,a⟩)
   . exact .inr ⟨r,W.hr,by rw[z];exact l⟩
   by_cases b:i=r
   . rw[b,qb8] at a
     exact .inl (Option.some.inj a).symm
   rw[qd1 b] at a;exact .inr ⟨i,f,a⟩
 obtain⟨I,M,C⟩:=W.ln G;have N:=C r y W.hr l;refine⟨I,?_,λ i x f a=>?_⟩
 . have O:=dor n (hm k) r
   have P:=dor n (hm k) e;have Q:=nor n r
   have:=W.hr
   have:=W.he
   have:=W.o.home k
   lia
 by_cases b:i=r
 . rw[b,qb8] at a
   cases a;lia
 rw[qd1 b] at a;exact C i x f a
structure Kept(n:Nat)(wr:Bool)(hm:Int->Nat)(g:Nat->Option Int)(S:List Int):Prop where
 o:Ord n hm g
 c:Ih n hm g
 h:Holds n g S
 ln:wr=false->∀ i x,i < n->g i=some x->hm x<=i
theorem Walk.done(W:Walk n wr hm T k e g c r)(v:T.Nodup)(q:g r=none):Kept n wr hm (set g r c) T:=by
 have w:=W.o.home c;have h:=qf9 W.hr;refine⟨⟨W.o.home,λ i j x f t a l=>?_,λ i x f a p=>?_⟩,⟨next n r,h,λ x u=>?_⟩,⟨v,λ x=>?_⟩,λ y=>?_⟩
 . by_cases b:i=r
   . by_cases e2:j=r
     . rw[b,e2]
     rw[b,qb8] at a;rw[qd1 e2] at l;cases a;exact absurd l (W.nin j t)
   rw[qd1 b] at a;by_cases e2:j=r
   . rw[e2,qb8] at l
     cases l;exact absurd a (W.nin i f)
   rw[qd1 e2] at l;exact W.o.inj i j x f t a l
 . have A:=qi4 f
   by_cases b:i=r
   . subst b
     rw[qb8] at a;cases a;have d:=qd5 w f p;obtain⟨x,s,B⟩:=W.pth (prev n i) A (by lia)
     have:prev n i≠i:=λ z=>by rw[z] at d;lia
     exact⟨x,by rw[qd1 this];exact s,B⟩
   rw[qd1 b] at a;obtain⟨z,m,C⟩:=W.o.ord i x f a p;by_cases e2:prev n i=r
   . rw[e2,q] at m;cases m
   exact⟨z,by rw[qd1 e2];exact m,C⟩
 . have s:=W.o.home x
   by_cases b:next n r=r
   . have:=nor n r
     have:=W.hr
     lia
   rw[qd1 b] at u;by_cases p:0 < Aa n (hm x) (next n r)
   . obtain⟨z,m,_⟩:=W.o.ord _ x h u p
     rw[qj7 W.hr,q] at m;cases m
   exact((qb7 s h).mp (by lia)).symm
 . rw[W.all x]
   constructor
   . rintro (z | ⟨i,f,a⟩)
     . exact⟨r,W.hr,by rw[z];exact qb8⟩
     exact⟨i,f,by rw[qd1 (λ z=>by rw[z,q] at a;cases a)];exact a⟩
   rintro⟨i,f,a⟩;by_cases b:i=r
   . rw[b,qb8] at a
     exact .inl (Option.some.inj a).symm
   rw[qd1 b] at a;exact .inr ⟨i,f,a⟩
 obtain⟨E,F,D⟩:=W.ln y;intro i x f a;by_cases b:i=r
 . rw[b,qb8] at a
   cases a;lia
 rw[qd1 b] at a;exact D i x f a
def Jj(n:Nat)(wr:Bool)(hm:Int->Nat)(g:Nat->Option Int)(k:Int)(e:Nat):Prop:=e < n/\g e=none/\(wr=false->hm k<=e)
theorem Kept.start{S:List Int}(K:Kept n wr hm g S)(c:¬ k∈S)(F:Jj n wr hm g k e):Walk n wr hm (S++[k]) k e g k (hm k):=by
 have a:=K.o.home k;have z:=(qb7 a a).mpr rfl;refine⟨K.o,λ i d f=>c ((K.h.2 k).mpr ⟨i,d,f⟩),a,λ j _ l=>by lia,F.1,F.2.1,by lia,λ x=>?_,λ b=>⟨F.2.2 b,zA6 _,K.ln b⟩⟩;rw[zAb,zA8,K.h.2 x];exact⟨Or.symm,Or.symm⟩
def Crowd(n:Nat)(wr:Bool)(hm:Int->Nat)(T:List Int)(q:Nat):Prop:=q < n/\if wr=true then q=0/\n < T.length else n - q < (T.filter (λ k=>decide (q<=hm k))).length
theorem qM8(h:i∈(List.range (n - q)).map (q + ·)):q<=i/\i < n:=by
 obtain⟨j,a,rfl⟩:=zB0.mp h
 have:=zAo.mp a
 lia
theorem qaB2(h:q<=i)(h':i < n):i∈(List.range (n - q)).map (q + ·):=zB0.mpr ⟨i - q,zAo.mpr (by lia),by lia⟩
theorem qab6{m:Nat}:((List.range m).map (q + ·)).Nodup:=by
 rw[List.nodup_iff_pairwise_ne,zBw];exact(List.nodup_iff_pairwise_ne.mp List.nodup_range).imp λ h=>by lia
theorem Kept.no_crowd{S:List Int}(K:Kept n wr hm g S)(q:Nat):¬ Crowd n wr hm S q:=by
 rintro⟨d,h⟩;cases wr with
 | true =>
   rw[if_pos rfl] at h
   have:=qC7 (g:=g) (List.range n) S K.h.1 λ k a=>by
     obtain⟨i,b,c⟩:=(K.h.2 k).mp a;exact⟨i,zAo.mpr b,c⟩
   rw[zB7] at this;lia
 | false =>
   rw[if_neg (by decide)] at h
   have:=qC7 (g:=g) ((List.range (n - q)).map (q + ·)) (S.filter (λ k=>decide (q<=hm k))) (K.h.1.filter _) λ k a=>by
     obtain⟨a,d⟩:=zAy.mp a;obtain⟨i,b,c⟩:=(K.h.2 k).mp a
     have:=K.ln rfl i k b c
     have d:=zAc d;exact⟨i,qaB2 (by lia) b,c⟩
   rw[zAd,zB7] at this;lia
theorem Kept.crowd{S:List Int}(K:Kept n wr hm g S)(u:∀ e,¬ Jj n wr hm g k e):∃ q,Crowd n wr hm (S++[k]) q:=by
 have v:=K.o.home k;have full:∀ e,e < n->(wr=false->hm k<=e)->∃ x,g e=some x:=λ e f s=>by
   cases h:g e with
   | some x=>exact⟨x,rfl⟩
   | none=>exact absurd ⟨f,h,s⟩ (u e)
 cases wr with
 | true =>
   refine⟨0,by lia,?_⟩;rw[if_pos rfl];refine⟨rfl,?_⟩
   have:=qS7 (g:=g) (List.range n) S List.nodup_range (λ i b=>by
     obtain⟨x,c⟩:=full i (zAo.mp b) (λ z=>by cases z);exact⟨x,(K.h.2 x).mpr ⟨i,zAo.mp b,c⟩,c⟩) λ i b j p x=>K.o.inj i j x (zAo.mp b) (zAo.mp p)
   rw[zB7] at this;rw[zA7];simp only[zAi,zC6];lia
 | false =>
   have w:∀ m,m<=hm k->(∀ e,m<=e->e < n->∃ x,g e=some x)->∃ q,q<=hm k/\(∀ e,q<=e->e < n->∃ x,g e=some x)/\(q=0∨g (q - 1)=none):=by
     intro m
     induction m with
     | zero=>exact λ d a=>⟨0,d,a,.inl rfl⟩
     | succ m A =>
       intro d a;cases h:g m with
       | none=>exact⟨m+1,d,a,.inr h⟩
       | some x =>
         refine A (by lia) λ e f r=>?_
         by_cases q:e=m
         . rw[q];exact⟨x,h⟩
         exact a e (by lia) r
   obtain⟨q,B,C,l⟩:=w (hm k) (zA6 _) λ e f r=>full e r λ _=>f
   refine⟨q,by lia,?_⟩;rw[if_neg (by decide)]
   have:=qS7 (g:=g) ((List.range (n - q)).map (q + ·)) (S.filter (λ k=>decide (q<=hm k))) qab6 (λ i b=>by
     obtain⟨d,a⟩:=qM8 b;obtain⟨x,c⟩:=C i d a;refine⟨x,zAy.mpr ⟨(K.h.2 x).mpr ⟨i,a,c⟩,zAl ?_⟩,c⟩;have D:=K.o.home x;have s:=K.ln rfl i x a c;refine zC1 λ E=>?_
     rcases l with l | l
     . lia
     obtain⟨y,t,_⟩:=K.o.path' (i:=q - 1) a (by lia) c (by
       have G:=dor n (hm x) (q - 1);have H:=dor n (hm x) i
       lia)
     rw[l] at t;cases t) λ i b j p x=>K.o.inj i j x (qM8 b).2 (qM8 p).2
   rw[zAd,zB7] at this;have F:([k].filter (λ k=>decide (q<=hm k))).length=1:=by simp[B]
   rw[List.filter_append,zA7,F];lia
theorem Crowd.mono{S T:List Int}(h:Crowd n wr hm S q)(a:S.Sublist T):Crowd n wr hm T q:=by
 obtain⟨b,h⟩:=h;refine⟨b,?_⟩;cases wr with
 | true =>
   rw[if_pos rfl] at h ⊢
   have:=a.length_le
   exact⟨h.1,by lia⟩
 | false =>
   rw[if_neg (by decide)] at h ⊢
   have:=(a.filter (λ k=>decide (q<=hm k))).length_le
   lia
theorem Crowd.perm{S T:List Int}(h:Crowd n wr hm S q)(a:S.Perm T):Crowd n wr hm T q:=by
 obtain⟨b,h⟩:=h;refine⟨b,?_⟩;rw[<- a.length_eq,<- (a.filter _).length_eq];exact h
theorem Kept.none(a:0 < n)(b:∀ k,hm k < n):Kept n wr hm (λ _=>none) [] :=
 ⟨⟨b,(λ _ _ _ _ _ h=>by cases h),λ _ _ _ h=>by cases h⟩,⟨0,a,λ _ h=>by cases h⟩,⟨List.nodup_nil,λ k=>⟨λ h=>by simp at h,λ ⟨_,_,h⟩=>by cases h⟩⟩,λ _ _ _ _ h=>by cases h⟩
theorem Kept.same{S S':List Int}(K:Kept n wr hm g S)(K':Kept n wr hm g' S')(a:∀ k,k∈S↔k∈S'):∀ j,j < n->g j=g' j :=
 qaz7 K.o K'.o K.c K'.c K.h ⟨K.h.1,λ k=>(a k).trans (K'.h.2 k)⟩
end
noncomputable def rot(n s t:Nat):Nat:=if s+t < n then s+t else s+t - n
theorem qO8{n:Nat}(a:s < n)(b:t < n):rot n s t < n:=by unfold rot;split<;>lia
theorem qo1{n:Nat}(a:s < n)(b:t < n):Aa n s (rot n s t)=t:=by
 have d:=dor n s (rot n s t);unfold rot at d ⊢;split at d<;>split<;>lia
theorem qn0{n:Nat}(a:s < n)(hi:i < n):rot n s (Aa n s i)=i:=by
 have d:=dor n s i;unfold rot
 split<;>lia
theorem qas2{n:Nat}(a:s < n)(b:t < n):(s+t) % n=rot n s t:=by
 unfold rot;split
 . exact zC2 (by assumption)
 rw[Nat.mod_eq_sub_mod (by lia)];exact zC2 (by lia)
def Aq(n:Nat)(g:Nat->Option Int)(r J:Nat):Nat->Option Int:=λ i=>if Aa n r i < J then g (next n i) else if Aa n r i=J then none else g i
structure Sh(n:Nat)(hm:Int->Nat)(g:Nat->Option Int)(r J:Nat):Prop where
 hJ:J < n
 mv:∀ t,1<=t->t<=J->∃ x,g (rot n r t)=some x/\0 < Aa n (hm x) (rot n r t)
section
variable{n:Nat}{wr:Bool}{hm:Int->Nat}{g:Nat->Option Int}{r J:Nat}{k:Int}{S:List Int}
theorem qad4(a:r < n):rot n r 0=r:=by unfold rot;rw[if_pos (by lia)];rfl
theorem qy6(a:r < n)(b:t+1 < n):next n (rot n r t)=rot n r (t+1):=by
 unfold rot next
 split<;>split<;>split<;>lia
theorem qt7(a:r < n)(b:J+1=n):next n (rot n r J)=r:=by
 unfold rot next
 split<;>split<;>lia
theorem Sh.start(a:r < n):Sh n hm g r 0:=⟨by lia,λ t b c=>by lia⟩
theorem Sh.step(h:Sh n hm g r J)(a:J+1 < n)(b:g (rot n r (J+1))=some x)(c:0 < Aa n (hm x) (rot n r (J+1))):Sh n hm g r (J+1):=⟨a,λ t d f=>by
 by_cases e:t=J+1
 . subst e;exact⟨x,b,c⟩
 exact h.mv t d (by lia)⟩
theorem qw1(a:r < n)(hi:i < n):Aq n g r 0 i=if i=r then none else g i:=by
 unfold Aq;rw[if_neg (by lia)];by_cases e:i=r
 . rw[if_pos e,if_pos ((qb7 a hi).mpr e)]
 rw[if_neg e,if_neg λ z=>e ((qb7 a hi).mp z)]
theorem qI2(a:r < n)(b:J < n):Aq n g r J (rot n r J)=none:=by
 unfold Aq;rw[qo1 a b,if_neg (by lia),if_pos rfl]
theorem qw2(a:r < n)(b:J+1 < n):Aq n g r J (rot n r (J+1))=g (rot n r (J+1)):=by
 unfold Aq;rw[qo1 a b,if_neg (by lia),if_neg (by lia)]
theorem qC2(a:r < n)(b:0 < J):Aq n g r J r=g (next n r):=by
 unfold Aq;rw[(qb7 a a).mpr rfl,if_pos b]
theorem qac4(a:r < n)(d:J+1 < n)(hi:i < n):Aq n g r (J+1) i=if i=rot n r (J+1) then none else if i=rot n r J then g (rot n r (J+1)) else Aq n g r J i:=by
 have j:=qo1 a d;have e2:=qo1 a (show J < n by lia);by_cases b:i=rot n r (J+1)
 . rw[if_pos b,b];exact qI2 a d
 rw[if_neg b];have f:Aa n r i≠J+1:=λ z=>b (by rw[<- z,qn0 a hi])
 by_cases c:i=rot n r J
 . rw[if_pos c,c]
   unfold Aq;rw[e2,if_pos (by lia),qy6 a d]
 rw[if_neg c];have h:Aa n r i≠J:=λ z=>c (by rw[<- z,qn0 a hi])
 unfold Aq;by_cases e:Aa n r i < J
 . rw[if_pos e,if_pos (by lia)]
 rw[if_neg e,if_neg (by lia),if_neg f,if_neg h]
theorem Sh.round(h:Sh n hm g r J)(O:Ord n hm g)(C:Ih n hm g)(d:r < n)(j:g r=some k)(u:J+1=n)(l:g (next n r)=some x)(v:0 < J):Aa n (hm x) r=0:=by
 obtain⟨i,a,m⟩:=C;have f:i=r:=by
   by_cases e:i=r
   . exact e
   have w:=qh6 a d;have A:Aa n r i≠0:=λ z=>e ((qb7 d a).mp z)
   obtain⟨y,b,c⟩:=h.mv (Aa n r i) (by lia) (by lia);rw[qn0 d a] at b c
   have:=(qb7 (O.home y) a).mpr (m y b).symm
   lia
 subst f;have s:=(qb7 (O.home k) a).mpr (m k j).symm;have o:next n i=rot n i 1:=by
   have:=qy6 (t:=0) a (by lia)
   rwa[qad4 a] at this
 obtain⟨y,b,c⟩:=h.mv 1 (zA6 _) (by lia);rw[<- o,l] at b;cases b;rw[<- o] at c;obtain⟨z,p,q⟩:=O.ord (next n i) x (qf9 a) l c;rw[qj7 a,j] at p;cases p;rw[qj7 a] at q;unfold ahead at q;lia
def Stop(n:Nat)(wr:Bool)(hm:Int->Nat)(g:Nat->Option Int)(r J:Nat):Prop:=(wr=false/\rot n r J+1=n)∨∀ x,Aq n g r J (next n (rot n r J))=some x->Aa n (hm x) (next n (rot n r J))=0
theorem Kept.taken(K:Kept n wr hm g S)(m:r < n)(E:g r=some k)(h:Sh n hm g r J)(st:Stop n wr hm g r J):Kept n wr hm (Aq n g r J) (S.filter λ x=>decide (x≠k)):=by
 have N:=h.hJ;have O:=K.o;have F:∀ i x,i < n->Aa n r i < J->g (next n i)=some x->Aa n r (next n i)=Aa n r i+1/\0 < Aa n (hm x) (next n i)/\Aa n (hm x) i+1=Aa n (hm x) (next n i):=λ i x f H l=>by
   have e:=qj9 m f (by lia);obtain⟨y,u,C⟩:=h.mv (Aa n r i+1) (by lia) (by lia);rw[<- e,qn0 m (qf9 f)] at u C;rw[l] at u;cases u
   have:=qd5 (O.home x) (qf9 f) C
   rw[qj7 f] at this;exact⟨e,C,by lia⟩
 have w:∀ i x,i < n->Aq n g r J i=some x->(Aa n r i < J/\g (next n i)=some x)∨(J < Aa n r i/\g i=some x):=λ i x f l=>by
   unfold Aq at l;split at l
   . exact .inl ⟨by assumption,l⟩
   split at l
   . cases l
   exact .inr ⟨by lia,l⟩
 have A:∀ i x,i < n->Aq n g r J i=some x->∃ j,j < n/\g j=some x/\j≠r/\(j=next n i/\Aa n r i < J∨j=i/\J < Aa n r i):=λ i x f l=>by
   rcases w i x f l with⟨s,q⟩ | ⟨s,q⟩
   . refine⟨next n i,qf9 f,q,λ z=>?_,.inl ⟨rfl,s⟩⟩
     have e:=qj9 m f (by lia);rw[z,(qb7 m m).mpr rfl] at e;lia
   refine⟨i,f,q,λ z=>?_,.inr ⟨rfl,s⟩⟩;rw[z,(qb7 m m).mpr rfl] at s;lia
 refine⟨⟨O.home,λ i j x f t s q=>?_,λ i x f l H=>?_⟩,?_,⟨K.h.1.filter _,λ x=>?_⟩,λ I i x f l=>?_⟩
 . obtain⟨a,v,U,na,V⟩:=A i x f s
   obtain⟨b,L,W,nb,X⟩:=A j x t q
   have:=O.inj a b x v L U W
   subst this;rcases V with⟨D,P⟩ | ⟨D,P⟩<;>rcases X with⟨e2,Q⟩ | ⟨e2,Q⟩
   . have:=congrArg (prev n) (D.symm.trans e2)
     rwa[qj7 f,qj7 t] at this
   . have e:=qj9 m f (by lia)
     rw[<- D,e2] at e;lia
   . have e:=qj9 m t (by lia)
     rw[<- e2,D] at e;lia
   rw[<- D,<- e2]
 . rcases w i x f l with⟨s,q⟩ | ⟨s,q⟩
   . obtain⟨e,C,Y⟩:=F i x f s q
     obtain⟨y,u,v⟩:=O.ord (next n i) x (qf9 f) q C;rw[qj7 f] at u v;have G:0 < Aa n (hm y) i:=by unfold ahead at v;lia
     have D:=qd5 (O.home x) f H;have e2:=qd5 (O.home y) f G;have Z:=qi4 f;by_cases e0:Aa n r i=0
     . have:=(qb7 m f).mp e0
       subst this;have hlast:Aa n i (prev n i)=n - 1:=by have d:=dor n i (prev n i);have p:=por n i;lia
       by_cases M:J+1=n
       . have:=h.round O K.c f E M q (by lia)
         lia
       rw[E] at u;cases u;obtain⟨z,hz,L⟩:=O.ord i k f E G;refine⟨z,?_,?_⟩
       . unfold Aq
         rw[hlast,if_neg (by lia),if_neg (by lia)];exact hz
       refine qt6 L ?_;unfold ahead at v ⊢;lia
     have R:=qd5 m f (by lia);refine⟨y,?_,?_⟩
     . unfold Aq
       rw[R,if_pos (by lia),qF8 f];exact u
     unfold ahead at v ⊢;lia
   obtain⟨y,u,v⟩:=O.ord i x f q H;refine⟨y,?_,v⟩;have R:=qd5 m f (by lia);by_cases T:Aa n r (prev n i)=J
   . exfalso
     have ei:prev n i=rot n r J:=by rw[<- T,qn0 m (qi4 f)]
     have en:next n (rot n r J)=i:=by rw[<- ei,qF8 f]
     rcases st with⟨I,hl⟩ | st
     . have:i=0:=by have p:=nor n (rot n r J);lia
       subst this
       have:=K.ln I 0 x f q
       have d:=dor n (hm x) 0;lia
     rw[en] at st
     have:=st x l
     lia
   unfold Aq;rw[if_neg (by lia),if_neg T];exact u
 . exact⟨rot n r J,qO8 m N,λ x l=>by rw[qI2 m N] at l;cases l⟩
 . rw[zAy,K.h.2 x,zB5]
   constructor
   . rintro⟨⟨j,t,B⟩,ne⟩
     have jr:j≠r:=λ z=>ne (by rw[z,E] at B;exact(Option.some.inj B).symm)
     have d0:Aa n r j≠0:=λ z=>jr ((qb7 m t).mp z)
     by_cases H:Aa n r j<=J
     . have e:=qd5 m t (by lia)
       refine⟨prev n j,qi4 t,?_⟩;unfold Aq;rw[e,if_pos (by lia),qF8 t];exact B
     refine⟨j,t,?_⟩;unfold Aq;rw[if_neg (by lia),if_neg (by lia)];exact B
   rintro⟨i,f,l⟩;obtain⟨j,t,B,nj,_⟩:=A i x f l;refine⟨⟨j,t,B⟩,λ z=>?_⟩;subst z;exact nj (O.inj j r x t m B E)
 rcases w i x f l with⟨s,q⟩ | ⟨s,q⟩
 . obtain⟨e,C,Y⟩:=F i x f s q
   have:=K.ln I (next n i) x (qf9 f) q
   have nn:=nor n i;have P:=dor n (hm x) (next n i);have Q:=dor n (hm x) i;lia
 exact K.ln I i x f q
end
def Jk(hm:Int->Nat)(x y:Int):Prop:=hm x < hm y∨(hm x=hm y/\x < y)
structure Fill(n:Nat)(hm:Int->Nat)(g:Nat->Option Int)(S:List Int)(top:Nat):Prop where
 k:Kept n false hm g S
 free:∀ i,top<=i->i < n->g i=none
 last:0 < top->∃ x,g (top - 1)=some x/\x∈S
 le:top<=n
theorem Fill.start{n:Nat}{hm:Int->Nat}(a:0 < n)(b:∀ k,hm k < n):Fill n hm (λ _=>none) [] 0:=⟨Kept.none a b,λ _ _ _=>rfl,λ h=>absurd h (by lia),by lia⟩
section
variable{n:Nat}{hm:Int->Nat}{g:Nat->Option Int}{S:List Int}{top:Nat}{k:Int}
theorem Fill.put(F:Fill n hm g S top)(l:¬ k∈S)(C:∀ x∈S,Jk hm x k)(m:max top (hm k) < n):Fill n hm (set g (max top (hm k)) k) (S++[k]) (max top (hm k)+1):=by
 generalize J:max top (hm k)=r at m ⊢;have p:top<=r:=by lia
 have q:hm k<=r:=by lia
 have D:g r=none:=F.free r p m;have below:∀ i x,i < n->g i=some x->i < top:=λ i x b a=>by
   by_cases h:top<=i
   . rw[F.free i h b] at a;cases a
   lia
 have s:∀ i x,i < n->set g r k i=some x->hm x<=i:=λ i x b a=>by
   by_cases e:i=r
   . subst e;rw[qb8] at a;cases a;exact q
   rw[qd1 e] at a;exact F.k.ln rfl i x b a
 have mem:∀ i x,i < n->g i=some x->x∈S:=λ i x b a=>(F.k.h.2 x).mpr ⟨i,b,a⟩
 refine⟨⟨⟨F.k.o.home,λ i j x b z a d=>?_,λ i x b a t=>?_⟩,⟨0,by lia,λ x E=>?_⟩,⟨?_,λ x=>⟨λ c=>?_,λ ⟨i,b,a⟩=>?_⟩⟩,λ _ i x b a=>s i x b a⟩,λ i b G=>?_,λ _=>⟨k,by rw[Nat.add_sub_cancel,qb8],zAq _ (zA8.mpr rfl)⟩,by lia⟩
 . by_cases u:i=r
   . by_cases e2:j=r
     . rw[u,e2]
     subst u;rw[qb8] at a;cases a;rw[qd1 e2] at d;exact absurd (mem j _ z d) l
   rw[qd1 u] at a;by_cases e2:j=r
   . subst e2;rw[qb8] at d;cases d
     exact absurd (mem i _ b a) l
   rw[qd1 e2] at d;exact F.k.o.inj i j x b z a d
 . have c:=s i x b a
   have K:i≠0:=λ e=>by
     have:=(qb7 (F.k.o.home x) b).mpr (by lia)
     lia
   have A:prev n i=i - 1:=by rcases por n i with h | h<;>lia
   by_cases e:i=r
   . subst e
     rw[qb8] at a;cases a;have H:hm k < i:=by
       unfold Aa at t;split at t<;>lia
     have B:top=i:=by lia
     obtain⟨y,f,v⟩:=F.last (by lia);have w:hm y<=i - 1:=F.k.ln rfl (i - 1) y (by lia) (by rw[<- B];exact f);refine⟨y,by rw[A,qd1 (by lia),<- B];exact f,?_⟩;rw[A];unfold ahead Aa;rw[if_pos (by lia),if_pos w];rcases C y v with h | h
     . exact .inl (by lia)
     exact .inr ⟨by lia,h.2⟩
   rw[qd1 e] at a;have L:=below i x b a;obtain⟨y,f,I⟩:=F.k.o.ord i x b a t;exact⟨y,by rw[qd1 (by lia)];exact f,I⟩
 . have:=s 0 x (by lia) E
   lia
 . refine zBd.mpr ⟨F.k.h.1,(by simp),λ x c y v e=>?_⟩
   rw[zA8.mp v] at e;exact l (e ▸ c)
 . rcases zAb.mp c with c | c
   . obtain⟨i,b,a⟩:=(F.k.h.2 x).mp c
     exact⟨i,b,by rw[qd1 λ e=>by rw[e,D] at a;cases a];exact a⟩
   rw[zA8.mp c];exact⟨r,m,qb8⟩
 . by_cases e:i=r
   . subst e;rw[qb8] at a;cases a
     exact zAq _ (zA8.mpr rfl)
   rw[qd1 e] at a;exact zBu _ (mem i x b a)
 rw[qd1 (by lia)];exact F.free i (by lia) G
theorem Fill.room(F:Fill n hm g S top)(i:∀ x∈S,Jk hm x k)(j:∀ q,¬ Crowd n false hm (S++[k]) q):max top (hm k) < n:=by
 have u:=F.k.o.home k;have l:=F.le;by_cases h:top < n
 . lia
 have v:top=n:=by lia
 obtain⟨q,c⟩:=F.k.crowd (k:=k) λ e ⟨m,b,a⟩=>by
   have a:=a rfl;obtain⟨y,d,p⟩:=F.last (by lia);have f:=F.k.ln rfl (top - 1) y (by lia) d;have r:hm y<=hm k:=by rcases i y p with h | h<;>lia
   by_cases s:e=top - 1
   . rw[s,d] at b;cases b
   obtain⟨x,t,_⟩:=F.k.o.path' (by lia) m d (show Aa n (hm y) e < Aa n (hm y) (top - 1) by unfold Aa;rw[if_pos (by lia),if_pos f];lia);rw[t] at b;cases b
 exact absurd c (j q)
end
noncomputable def F4(hm:Int->Nat)(T:List Int)(r:Nat):Nat:=(T.filter λ k=>decide (hm k=r)).length
noncomputable def Fj(hm:Int->Nat)(T:List Int)(q r:Nat):Nat:=(T.filter λ k=>decide (q<=hm k/\hm k < r)).length
theorem qW2{hm:Int->Nat}{q r:Nat}(h:q<=r):∀ T:List Int,Fj hm T q (r+1)=Fj hm T q r+F4 hm T r
 | []=>rfl
 | k::T=>by
   have a:=qW2 (hm:=hm) h T;unfold Fj F4 at a ⊢;simp only[List.filter_cons,zB5]
   split<;>split<;>split<;>(try simp only[zAi])<;>lia
theorem qaq5{hm:Int->Nat}{r:Nat}(T:List Int):Fj hm T r r=0:=by
 unfold Fj;rw[List.length_eq_zero_iff,List.filter_eq_nil_iff];intro k _ h
 have:=zAc h
 lia
section
variable{n:Nat}{hm:Int->Nat}{g:Nat->Option Int}{S:List Int}{k:Int}
theorem Kept.len{wr:Bool}(KP:Kept n wr hm g S):S.length<=n:=by
 have:=qC7 (g:=g) (List.range n) S KP.h.1 λ k a=>by
   obtain⟨i,b,e⟩:=(KP.h.2 k).mp a;exact⟨i,zAo.mpr b,e⟩
 rwa[zB7] at this
end
noncomputable def onC(c:Nat->Nat):Nat->Int
 | 0=>0
 | r+1=>if onC c r+(c r:Int) - 1 > 0 then onC c r+(c r:Int) - 1 else 0
noncomputable def sumC(c:Nat->Nat)(q:Nat):Nat->Nat
 | 0=>0
 | m+1=>sumC c q m+c (q+m)
section
variable{c:Nat->Nat}
theorem qJ0:∀ r:Nat,0<=onC c r
 | 0=>Int.le_refl _
 | r+1=>by unfold onC;split<;>lia
theorem qaz9{q:Nat}:∀ m:Nat,(sumC c q m:Int) - (m:Int)<=onC c (q+m)
 | 0=>by have:=qJ0 (c:=c) q;show ((0:Nat):Int) - _<=_;rw[Nat.add_zero];lia
 | m+1=>by
   have:=qaz9 (q:=q) m
   show ((sumC c q m+c (q+m):Nat):Int) - _<=onC c (q+m+1);unfold onC
   split<;>lia
theorem qaA0:∀ r:Nat,onC c r=0∨∃ q m,q+m=r/\0 < m/\onC c r=(sumC c q m:Int) - (m:Int)
 | 0=>.inl rfl
 | r+1=>by
   by_cases h:onC c r+(c r:Int) - 1 > 0
   . right
     have e:onC c (r+1)=onC c r+(c r:Int) - 1:=if_pos h;rcases qaA0 r with b | ⟨q,m,a,d,f⟩
     . exact⟨r,1,rfl,by lia,by rw[e];show _=((0+c (r+0):Nat):Int) - _;rw[Nat.add_zero];lia⟩
     exact⟨q,m+1,by lia,by lia,by rw[e];show _=((sumC c q m+c (q+m):Nat):Int) - _;rw[a];lia⟩
   exact .inl (if_neg h)
theorem qab9{q m:Nat}:∀ l:Nat,sumC c q (m+l)=sumC c q m+sumC c (q+m) l
 | 0=>rfl
 | l+1=>by
   show sumC c q (m+l)+c (q+(m+l))=sumC c q m+(sumC c (q+m) l+c (q+m+l))
   rw[qab9 l,show q+(m+l)=q+m+l by lia];lia
end
section
variable{n b:Nat}{hm:Int->Nat}{T:List Int}
def cR(n:Nat)(hm:Int->Nat)(T:List Int):Nat->Nat:=λ t=>F4 hm T (t % n)
theorem qaX0:cR n hm T (n+t)=cR n hm T t:=by unfold cR;rw[Nat.add_mod_left]
theorem qar9{q:Nat}:∀ m,sumC (cR n hm T) (n+q) m=sumC (cR n hm T) q m
 | 0=>rfl
 | m+1=>by
   show sumC _ (n+q) m+cR n hm T (n+q+m)=_;rw[qar9 m,Nat.add_assoc,qaX0];rfl
theorem qE1{s q:Nat}(a:b < n)(c:s % n=b)(d:∀ k,hm k < n):∀ m,q+m<=n->sumC (cR n hm T) (s+q) m=Fj (λ k=>Aa n b (hm k)) T q (q+m)
 | 0,_=>by rw[Nat.add_zero,qaq5];rfl
 | m+1,h=>by
   show sumC _ (s+q) m+cR n hm T (s+q+m)=_;rw[qE1 a c d m (by lia),show q+(m+1)=q+m+1 by lia,qW2 (by lia)];congr 1;unfold cR F4;congr 1;refine List.filter_congr λ k _=>zBt.mpr ?_
   have e:(s+q+m) % n=rot n b (q+m):=by rw[Nat.add_assoc,Nat.add_mod,c,zC2 (show q+m < n by lia),qas2 a (by lia)]
   rw[e];constructor
   . intro z;show Aa n b (hm k)=_;rw[z,qo1 a (by lia)]
   intro z;rw[<- show Aa n b (hm k)=_ from z,qn0 a (d k)]
theorem qaE0(a:∀ k,hm k < n):Fj hm T 0 n=T.length:=by
 unfold Fj;rw[List.filter_eq_self.mpr λ k _=>zAl ⟨zBe _,a k⟩]
theorem qaG4(a:0 < n)(c:∀ k,hm k < n):sumC (cR n hm T) 0 n=T.length:=by
 have:=qE1 (T:=T) (s:=0) (q:=0) (b:=0) a (Nat.zero_mod n) c n (by lia)
 rw[Nat.add_zero,zAs] at this;rw[this];refine(qaE0 (hm:=λ k=>Aa n 0 (hm k)) λ k=>qh6 (c k) a)
theorem qan3(f:0 < n)(a:∀ k,hm k < n):0 < onC (cR n hm T) n↔∃ q,Crowd n false hm T q:=by
 have e:∀ q,q<=n->sumC (cR n hm T) q (n - q)=(T.filter λ k=>decide (q<=hm k)).length:=λ q d=>by
   have:=qE1 (T:=T) (s:=0) (q:=q) (b:=0) f (Nat.zero_mod n) a (n - q) (by lia)
   rw[zAs,show q+(n - q)=n by lia] at this;rw[this];unfold Fj;congr 2;exact funext λ k=>zBt.mpr (by have:=a k;have i:Aa n 0 (hm k)=hm k:=if_pos (zBe _);dsimp only;lia)
 constructor
 . intro h
   rcases qaA0 (c:=cR n hm T) n with j | ⟨q,m,d,g,l⟩
   . lia
   refine⟨q,by lia,?_⟩;rw[if_neg (by decide),<- e q (by lia),show n - q=m by lia];lia
 rintro⟨q,d,h⟩;rw[if_neg (by decide),<- e q (by lia)] at h
 have:=qaz9 (c:=cR n hm T) (q:=q) (n - q)
 rw[show q+(n - q)=n by lia] at this;lia
theorem qaz8(i:0 < n)(j:∀ k,hm k < n)(w:T.length<=n):∃ r,r < n/\onC (cR n hm T) (n+r+1)=0:=by
 by_cases h:∃ r,r < n/\onC (cR n hm T) (n+r+1)=0
 . exact h
 exfalso;have pos:∀ r,r < n->0 < onC (cR n hm T) (n+r+1):=λ r g=>by
   have:=qJ0 (c:=cR n hm T) (n+r+1)
   have:onC (cR n hm T) (n+r+1)≠0:=λ e=>h ⟨r,g,e⟩
   lia
 have a:∀ r,r<=n->onC (cR n hm T) (n+r)=onC (cR n hm T) n+(sumC (cR n hm T) n r:Int) - (r:Int):=λ r=>by
   induction r with
   | zero=>intro _;show _=_+((0:Nat):Int) - _;rw[Nat.add_zero];lia
   | succ r l =>
     intro g;have d:=pos r (by lia);have x:=l (by lia);have e:onC (cR n hm T) (n+r+1)=if onC (cR n hm T) (n+r)+(cR n hm T (n+r):Int) - 1 > 0 then onC (cR n hm T) (n+r)+(cR n hm T (n+r):Int) - 1 else 0:=rfl
     show onC (cR n hm T) (n+r+1)=_+((sumC (cR n hm T) n r+cR n hm T (n+r):Nat):Int) - _;rw[e] at d ⊢;split at d
     . rw[if_pos (by assumption)];lia
     lia
 have y:=qaG4 (T:=T) i j;have b:∀ m,sumC (cR n hm T) n m=sumC (cR n hm T) 0 m:=λ m=>qar9 (q:=0) m
 have e2:=a n (zA6 _);have o:=pos (n - 1) (by lia);rw[show n+(n - 1)+1=n+n by lia] at o;rw[b] at e2;rcases qaA0 (c:=cR n hm T) n with z | ⟨q,m,p,s,d⟩
 . lia
 have t:=a q (by lia);rw[b] at t;have u:=qab9 (c:=cR n hm T) (q:=0) (m:=q) m;rw[zAs,p] at u;by_cases f:q=0
 . subst f
   have:sumC (cR n hm T) 0 0=0:=rfl
   lia
 have v:=pos (q - 1) (by lia);rw[show n+(q - 1)+1=n+q by lia] at v;lia
theorem qJ6{r:Nat}(f:r < n)(a:∀ k,hm k < n)(d:onC (cR n hm T) (n+r+1)=0):∀ q,¬ Crowd n false (λ k=>Aa n ((r+1) % n) (hm k)) T q:=by
 rintro q ⟨h,c⟩;have b:(r+1) % n < n:=Nat.mod_lt _ (by lia);rw[if_neg (by decide)] at c;have e:=qE1 (T:=T) (s:=r+1) (q:=q) b rfl a (n - q) (by lia);have g:=qaz9 (c:=cR n hm T) (q:=r+1+q) (n - q);rw[show r+1+q+(n - q)=n+r+1 by lia,d,e,show q+(n - q)=n by lia] at g;have e2:Fj (λ k=>Aa n ((r+1) % n) (hm k)) T q n=(T.filter λ k=>decide (q<=Aa n ((r+1) % n) (hm k))).length:=by
   unfold Fj;congr 2;exact funext λ k=>zBt.mpr (by have:=qh6 (a k) b;dsimp only;lia)
 have c:=e2 ▸ c;generalize Fj _ T q n=m at *
 lia
theorem Kept.turn{g:Nat->Option Int}{S:List Int}(c:b < n)(p:∀ k,hm k < n)(K:Kept n false (λ k=>Aa n b (hm k)) g S):Kept n true hm (λ i=>g (Aa n b i)) S:=by
 have f:∀ i,i < n->Aa n b i < n:=λ i a=>qh6 a c
 have l:∀ i x,i < n->g (Aa n b i)=some x->Aa n b (hm x)+Aa n (hm x) i=Aa n b i:=λ i x a d=>Ep c (p x) a (K.ln rfl _ x (f i a) d)
 refine⟨⟨p,λ i j x a m d u=>qi1 c a m (K.o.inj _ _ x (f i a) (f j m) d u),λ i x a d v=>?_⟩,⟨b,c,λ x w=>?_⟩,⟨K.h.1,λ x=>⟨λ A=>?_,λ ⟨i,a,d⟩=>(K.h.2 x).mpr ⟨_,f i a,d⟩⟩⟩,λ h=>nomatch h⟩
 . have f1:=l i x a d
   have q:=K.ln rfl _ x (f i a) d;have B:Aa n (Aa n b (hm x)) (Aa n b i)=Aa n (hm x) i:=by
     unfold Aa at q ⊢;rw[if_pos q];unfold Aa at f1;lia
   obtain⟨y,r,s⟩:=K.o.ord _ x (f i a) d (by rw[B];exact v);have C:prev n (Aa n b i)=Aa n b (prev n i):=by
     rw[qd5 c a (by lia)];rcases por n (Aa n b i) with h | h<;>lia
   rw[C] at r s;have t:=qi4 a;have f2:=l (prev n i) y t r;have D:=K.ln rfl _ y (f _ t) r;have f3:Aa n b (hm x)+Aa n (hm x) (prev n i)=Aa n b (prev n i):=Ep c (p x) t (by rw[qd5 c a (by lia)];lia);refine⟨y,r,?_⟩;have E:Aa n (Aa n b (hm y)) (Aa n b (prev n i))=Aa n (hm y) (prev n i):=by
     have:Aa n (Aa n b (hm y)) (Aa n b (prev n i))=Aa n b (prev n i) - Aa n b (hm y):=if_pos D
     lia
   have F:Aa n (Aa n b (hm x)) (Aa n b (prev n i))=Aa n (hm x) (prev n i):=by
     have:Aa n (Aa n b (hm x)) (Aa n b (prev n i))=Aa n b (prev n i) - Aa n b (hm x):=if_pos (by lia)
     lia
   unfold ahead at s ⊢;rwa[E,F] at s
 . have q:=K.ln rfl _ x (f b c) w
   have z:Aa n b b=0:=(qb7 c c).mpr rfl;rw[z] at q;exact(qb7 c (p x)).mp (by lia)
 obtain⟨j,m,e⟩:=(K.h.2 x).mp A;exact⟨rot n b j,qO8 c m,by show g (Aa n b (rot n b j))=_;rw[qo1 c m];exact e⟩
end
theorem Kept.of_perm{n:Nat}{wr:Bool}{hm:Int->Nat}{g:Nat->Option Int}{S T:List Int}(K:Kept n wr hm g S)(p:S.Perm T):Kept n wr hm g T:=⟨K.1,K.2,⟨p.nodup_iff.mp K.h.1,λ k=>p.mem_iff.symm.trans (K.h.2 k)⟩,K.4⟩
theorem Hl{n:Nat}:Aa n 0 i=i:=if_pos (zBe _)
theorem qaB0{n:Nat}(b:a < n)(c:s<=n):((a:Int) - (s:Int)) % (n:Int)=(Aa n (s % n) a:Nat):=by
 by_cases e:s=n
 . subst e
   rw[Nat.mod_self,Hl,Int.sub_emod_right];exact zBv (by lia) (by lia)
 rw[zC2 (show s < n by lia)];unfold Aa;split
 . rw[zBv (by lia) (by lia)];lia
 rw[<- Int.add_emod_right,zBv (by lia) (by lia)];lia
end Row
namespace My
open PySem L2
variable{H:Hp}
noncomputable def Jl:V->Bool
 | .int _=>true
 | _=>false
noncomputable def qar4(l m:Int):V->Bool
 | .int i=>decide (l<=i)&&decide (i<=m)
 | _=>false
def numV:V->Bool:=qar4 0 1000000000000000000
theorem qaB9{x:V}{t:String}(h:Bj H x=some t):Ie t "int" = (Jl x||(match x with | .bl _=>true | _=>false)):=by
 cases x with
 | ref b =>
   unfold Bj at h;dsimp only at h;split at h<;>cases h<;>rfl
 | _=>cases h<;>rfl
theorem qao1{x:V}{t:String}(h:Bj H x=some t):Ie t "bool" = (match x with | .bl _=>true | _=>false):=by
 cases x with
 | ref b =>
   unfold Bj at h;dsimp only at h;split at h<;>cases h<;>rfl
 | _=>cases h<;>rfl
noncomputable def bagL(x y z:Int)(L:γ):HO:=.l [.int x,.int y,.int z,.ref L]
structure BagAt(H:Hp)(p:γ)(x y z:Int)(L:γ)(ns:List Int):Prop where
 at_:H p=some (bagL x y z L)
 li:H L=some (.l (ns.map V.int))
 x0:0<=x
 y0:0<=y
 y1:y < 2147483647
 z0:0<=z
 nn:∀ n∈ns,0<=n
def Bag(H:Hp)(p L:γ):Prop:=∃ x y z ns,BagAt H p x y z L ns
theorem qaX2{L:γ}{x y z:Int}{ns:List Int}:HO.l (ns.map V.int)≠bagL x y z L:=by
 intro e;have e:ns.map V.int=[.int x,.int y,.int z,.ref L]:=by injection e
 have e:=congrArg (·[3]?) e;rw[zB6] at e;cases h:ns[3]? <;> rw[h] at e<;>cases e
theorem BagAt.ne{p L:γ}{x y z:Int}{ns:List Int}(B:BagAt H p x y z L ns):L≠p:=ne_of B.li B.at_ qaX2
def qaQ4(K:W.Frag):Sp:=λ vs H Q _=>∃(l:γ)(ns:List Int),vs=[.ref l]/\SqL K H l (ns.map V.int)/\ns.length<=63 /\
 ∀ p L H',H p=none->H L=none->Same H H'->Bag H' p L->Q (.ref p) H'
def Hm(K:W.Frag):Sp:=λ vs H Q _=>∃(l:γ)(ns:List Int),vs=[.ref l]/\SqL K H l (ns.map V.int)/\ns.length<=63/\∀ H',Q (.bl true) H'
abbrev Pr:=List (Int×Int)
def Al(n:Int):Prop:=0<=n/\n<=1000000000000000000
theorem qaK5{n:Int}:numV (.int n)=true↔Al n:=by
 show (decide (0<=n)&&decide (n<=1000000000000000000))=true↔_;rw[zB4,zB5,zB5];exact Iff.rfl
structure Jm(ps:Pr):Prop where
 len:ps.length<=64
 nd:(ps.map (·.1)).Nodup
 nums:∀ p∈ps,Al p.1/\Al p.2
noncomputable def qc9(n:Int)(ps:Pr)(k:Int):Int:=((ps.lookup k).getD k) % n
def A6(n:Int)(wr:Bool)(ps:Pr)(k r:Int):Option Int :=
 if wr then some ((r - qc9 n ps k) % n) else if 0<=r - qc9 n ps k then some (r - qc9 n ps k) else none
def qk0(n:Int)(wr:Bool)(ps:Pr)(r a other:Int):Bool :=
 match A6 n wr ps a r,A6 n wr ps other r with
 | none,_=>false
 | some _,none=>true
 | some x,some y=>decide (y < x)||(decide (x=y)&&decide (a < other))
theorem qah6{n:Int}(h:1<=n)(ps:Pr)(k:Int):0<=qc9 n ps k/\qc9 n ps k < n:=⟨Int.emod_nonneg _ (by lia),zC4 _ (by lia)⟩
theorem qah2(k:Int)(ks:List Int):inV (.int k) (ks.map V.int)=decide (k∈ks):=by
 unfold inV;rw[List.any_map,Bool.eq_iff_iff,List.any_eq_true,zB5];constructor
 . rintro⟨x,a,e⟩
   have e:(x == k)=true:=e;rw[<- zBn.mp e];exact a
 intro h;exact⟨k,h,zB3 k⟩
end My
namespace My
open PySem L2
open Row
variable{n:Int}{ps:Pr}{r:Nat}
def Ln(n:Int)(ps:Pr)(k:Int):Nat:=(qc9 n ps k).toNat
theorem Ev(h:1<=n)(k:Int):Ln n ps k < n.toNat:=by
 have:=qah6 h ps k
 unfold Ln;lia
theorem qK3(h:1<=n)(k:Int):((Ln n ps k:Nat):Int)=qc9 n ps k:=by
 have:=qah6 h ps k
 unfold Ln;lia
theorem qaq0(a:1<=n){h:Nat}(b:h < n.toNat)(c:r < n.toNat):((r:Int) - (h:Int)) % n=(Aa n.toNat h r:Nat):=by
 rcases dor n.toNat h r with⟨h1,h2⟩ | ⟨h1,h2⟩
 . rw[zBv (by lia) (by lia)];lia
 have e:((r:Int) - (h:Int)) % n=((r:Int) - (h:Int)+n) % n:=by rw[Int.add_emod_right]
 rw[e,zBv (by lia) (by lia)]
 have:=h2 (by lia)
 lia
theorem qL1{wr:Bool}{k:Int}(a:1<=n)(c:r < n.toNat)(d:wr=false->Ln n ps k<=r):A6 n wr ps k (r:Int)=some ((Aa n.toNat (Ln n ps k) r:Nat):Int):=by
 have e:=Ev (ps:=ps) a k;have b:=qK3 (ps:=ps) a k;unfold A6;cases wr with
 | true=>rw[if_pos rfl,<- b,qaq0 a e c]
 | false =>
   have:=d rfl
   rw[if_neg (by decide),if_pos (by lia),<- b]
   have:=dor n.toNat (Ln n ps k) r
   congr 1;lia
theorem qH3{wr:Bool}{x y:Int}(a:1<=n)(b:r < n.toNat)(c:wr=false->Ln n ps x<=r)(d:wr=false->Ln n ps y<=r):qk0 n wr ps (r:Int) x y=true↔ahead n.toNat (Ln n ps) r x y:=by
 unfold qk0 ahead;rw[qL1 a b c,qL1 a b d];show (decide _||(decide _&&decide _))=true↔_;simp only[Bool.or_eq_true,zB4,zB5];lia
theorem qaA6(a:1<=n)(b:r < n.toNat):((r:Int)+1) % n=(Row.next n.toNat r:Nat):=by
 rcases nor n.toNat r with⟨h,e⟩ | ⟨h,e⟩
 . rw[e,show ((r:Int)+1)=n by lia];simp
 rw[e,zBv (by lia) (by lia)];rfl
end My
namespace LV
open PySem L2
variable{Ao:List γ}{N:List Str}{P:List V'->Prop}{Q:VK}{base:Heap}{cd:Expr}{cm z:Bool}{i j n:Nat}{kvs:List (Key×V)}{mg:Str->Option V'}{op:CmpOp}{p2:Pos}{v w:V}{vs:List V}{α:Type}{σ':St}
inductive D where
 | non | bl (b:Bool) | int (i:Int) | str (x:Str) | ty (n:String) | adr (a:γ)
 | q (ds:List D) | l (z:Bool) (ds:List D) | dct (z:Bool) (kvs:List (Key×D)) | ins (z:Bool) (C:γ) (fs:List (Str×D))
 | scr (ns:List Int)
 | exn (C:γ) (fs:List (Str×D))
 | hole (v:V) | u
mutual
def D.imm:D->Bool
 | .q ds=>D.imms ds
 | .l z _=>z
 | .dct z _=>z
 | .ins z _ _=>z
 | _=>true
def D.imms:List D->Bool
 | []=>true
 | d::r=>d.imm&&D.imms r
end
mutual
def D.fz:D->D
 | .q ds=>.q (D.fzs ds)
 | .l _ ds=>.l true (D.fzs ds)
 | .dct _ kvs=>.dct true (D.fzk kvs)
 | .ins _ C fs=>.ins true C (D.fzf fs)
 | .exn C fs=>.exn C (D.fzf fs)
 | .non=>.non | .bl b=>.bl b | .int i=>.int i | .str x=>.str x | .ty n=>.ty n | .adr a=>.adr a | .scr ns=>.scr ns | .hole v=>.hole v | .u=>.u
def D.fzs:List D->List D
 | []=>[]
 | d::r=>d.fz::D.fzs r
def D.fzk:List (Key×D)->List (Key×D)
 | []=>[]
 | (k,d)::r=>(k,d.fz)::D.fzk r
def D.fzf:List (Str×D)->List (Str×D)
 | []=>[]
 | (k,d)::r=>(k,d.fz)::D.fzf r
end
mutual
inductive Lx(F:γ->Prop)(H:Hp):V->D->List γ->Prop
 | non:Lx F H .non .non []
 | bl (b:Bool):Lx F H (.bl b) (.bl b) []
 | int (i:Int):Lx F H (.int i) (.int i) []
 | str (x:Str):Lx F H (.str x) (.str x) []
 | ty (n:String):Lx F H (.ty n) (.ty n) []
 | adr (a:γ):Lx F H (.ref a) (.adr a) []
 | q {a:γ} {vs:List V} {ds:List D} {A:List γ} (h:H a=some (.q vs)) (r:Lp F H vs ds A):Lx F H (.ref a) (.q ds) A
 | l {a:γ} {vs:List V} {ds:List D} {A:List γ} (h:H a=some (.l vs)) (r:Lp F H vs ds A):Lx F H (.ref a) (.l false ds) (a::A)
 | lstZ {a:γ} {vs:List V} {ds:List D} (h:H a=some (.l vs)) (f:F a) (r:Lp F H vs ds []):Lx F H (.ref a) (.l true ds) []
 | dct {a:γ} {kvs:List (Key×V)} {kds:List (Key×D)} {A:List γ} (h:H a=some (.dK kvs)) (e:kvs.map (·.1)=kds.map (·.1)) (r:Lp F H (kvs.map (·.2)) (kds.map (·.2)) A):Lx F H (.ref a) (.dct false kds) (a::A)
 | dctZ {a:γ} {kvs:List (Key×V)} {kds:List (Key×D)} (h:H a=some (.dK kvs)) (f:F a) (e:kvs.map (·.1)=kds.map (·.1)) (r:Lp F H (kvs.map (·.2)) (kds.map (·.2)) []):Lx F H (.ref a) (.dct true kds) []
 | ins {a C dx:γ} {fvs:List (Str×V)} {fds:List (Str×D)} {A:List γ} (h:H a=some (.ins C dx fvs)) (e:fvs.map (·.1)=fds.map (·.1)) (r:Lp F H (fvs.map (·.2)) (fds.map (·.2)) A):Lx F H (.ref a) (.ins false C fds) (a::A)
 | insZ {a C dx:γ} {fvs:List (Str×V)} {fds:List (Str×D)} (h:H a=some (.ins C dx fvs)) (f:F a) (e:fvs.map (·.1)=fds.map (·.1)) (r:Lp F H (fvs.map (·.2)) (fds.map (·.2)) []):Lx F H (.ref a) (.ins true C fds) []
 | scr {a:γ} {o:Obj} {ns:List Int} (h:H a=some (.frz o (.l (ns.map V.int)))):Lx F H (.ref a) (.scr ns) []
 | exn {a C dx:γ} {fvs:List (Str×V)} {fds:List (Str×D)} (h:H a=some (Bo a C (some dx) false)) (g:H dx=some (XD dx fvs)) (e:fvs.map (·.1)=fds.map (·.1)) (r:Lp F H (fvs.map (·.2)) (fds.map (·.2)) []):Lx F H (.ref a) (.exn C fds) []
 | hole (v:V):Lx F H v (.hole v) []
 | u (v:V):Lx F H v .u []
inductive Lp(F:γ->Prop)(H:Hp):List V->List D->List γ->Prop
 | nil:Lp F H [] [] []
 | cons {v:V} {d:D} {A:List γ} {vs:List V} {ds:List D} {B:List γ} (h:Lx F H v d A) (t:Lp F H vs ds B):Lp F H (v::vs) (d::ds) (A++B)
end
noncomputable def Ew:HO->Bool
 | .l _=>true
 | .dK _=>true
 | .ins _ _ _=>true
 | _=>false
section
variable{F F':γ->Prop}{H H':Hp}
def Cel(H:Hp)(A:List γ):Prop:=∀ b∈A,∃ o,H b=some o/\Ew o=true
theorem Cel.cons{A:List γ}{a:γ}{o:HO}(e:H a=some o)(m:Ew o=true)(h:Cel H A):Cel H (a::A):=λ b c=>(zAm.mp c).elim (λ q=>q ▸ ⟨_,e,m⟩) (h b)
theorem Cel.app{A B:List γ}(h:Cel H A)(g:Cel H B):Cel H (A++B):=λ b a=>(zAb.mp a).elim (h b) (g b)
theorem Lx.cells{v:V}{d:D}{A:List γ}(r:Lx F H v d A):Cel H A:=by
 induction r using Lx.rec (motive_2:=λ _ _ A _=>Cel H A) with
 | q e r i=>exact i
 | l e r i=>exact Cel.cons e rfl i
 | dct e _ r i=>exact Cel.cons e rfl i
 | ins e _ r i=>exact Cel.cons e rfl i
 | cons _ _ i j=>exact Cel.app i j
 | _=>nofun
theorem Lp.cells{vs:List V}{ds:List D}{A:List γ}(r:Lp F H vs ds A):Cel H A:=by
 induction r using Lp.rec (motive_1:=λ _ _ _ _=>True) with
 | cons h _ i j=>exact Cel.app h.cells j
 | nil=>nofun
 | _=>trivial
structure Kp(F:γ->Prop)(H:Hp)(W F':γ->Prop)(H':Hp):Prop where
 fr:∀ b o,H b=some o->¬ W b->H' b=some o
 wm:∀ b,W b->∃ o,H b=some o/\Ew o=true
 wf:∀ b,W b->¬ F b
 mF:∀ b,F b->F' b
theorem Kp.q{W:γ->Prop}(k:Kp F H W F' H'){a:γ}{vs:List V}(h:H a=some (.q vs)):H' a=some (.q vs):=by
 refine k.fr a _ h λ w=>?_
 obtain⟨o,e,m⟩:=k.wm a w;rw[h] at e;cases e;cases m
theorem Kp.imm{W:γ->Prop}(k:Kp F H W F' H'){a:γ}{o:HO}(h:H a=some o)(n:Ew o=false):H' a=some o:=by
 refine k.fr a _ h λ w=>?_
 obtain⟨o,e,m⟩:=k.wm a w;rw[h] at e;cases e;rw[n] at m;cases m
theorem Kp.frz{W:γ->Prop}(k:Kp F H W F' H'){a:γ}{o:Obj}{u:HO}(h:H a=some (.frz o u)):H' a=some (.frz o u):=by
 refine k.fr a _ h λ w=>?_
 obtain⟨o,e,m⟩:=k.wm a w;rw[h] at e;cases e;cases m
theorem Lx.keep{W:γ->Prop}(k:Kp F H W F' H'){v:V}{d:D}{A:List γ}(r:Lx F H v d A):(∀ b∈A,¬ W b)->Lx F' H' v d A:=by
 induction r using Lx.rec (motive_2:=λ a c A _=>(∀ b∈A,¬ W b)->Lp F' H' a c A) with
 | q e r i=>exact λ h=>.q (k.q e) (i h)
 | l e r i=>exact λ h=>.l (k.fr _ _ e (zAx.mp h).1) (i (zAx.mp h).2)
 | lstZ e f r i=>exact λ h=>.lstZ (k.fr _ _ e λ w=>k.wf _ w f) (k.mF _ f) (i h)
 | dct e q r i=>exact λ h=>.dct (k.fr _ _ e (zAx.mp h).1) q (i (zAx.mp h).2)
 | dctZ e f q r i=>exact λ h=>.dctZ (k.fr _ _ e λ w=>k.wf _ w f) (k.mF _ f) q (i h)
 | ins e q r i=>exact λ h=>.ins (k.fr _ _ e (zAx.mp h).1) q (i (zAx.mp h).2)
 | insZ e f q r i=>exact λ h=>.insZ (k.fr _ _ e λ w=>k.wf _ w f) (k.mF _ f) q (i h)
 | scr e=>exact λ _=>.scr (k.frz e)
 | exn e g q r i=>exact λ h=>.exn (k.imm e rfl) (k.imm g rfl) q (i h)
 | cons _ _ i j h=>exact Lp.cons (i (zBh.mp h).1) (j (zBh.mp h).2)
 | nil=>constructor
 | _=>intro;constructor
theorem Lp.keep{W:γ->Prop}(k:Kp F H W F' H'){vs:List V}{ds:List D}{A:List γ}(r:Lp F H vs ds A):(∀ b∈A,¬ W b)->Lp F' H' vs ds A:=by
 induction r using Lp.rec (motive_1:=λ _ _ _ _=>True) with
 | nil=>exact λ _=>Lp.nil
 | cons r _ i j=>exact λ h=>Lp.cons (r.keep k (zBh.mp h).1) (j (zBh.mp h).2)
 | _=>trivial
theorem Kp.same(s:Same H H'):Kp F H (λ _=>False) F H':=⟨λ b o e _=>s b o e,λ _ w=>w.elim,λ _ w=>w.elim,λ _ f=>f⟩
theorem Lx.same{d:D}{A:List γ}(r:Lx F H v d A)(s:Same H H'):Lx F H' v d A:=r.keep (Kp.same s) λ _ _=>id
theorem Lp.same{ds:List D}{A:List γ}(r:Lp F H vs ds A)(s:Same H H'):Lp F H' vs ds A:=r.keep (Kp.same s) λ _ _=>id
theorem Kp.more(m:∀ b,F b->F' b):Kp F H (λ _=>False) F' H:=⟨λ b o e _=>e,λ _ w=>w.elim,λ _ w=>w.elim,m⟩
mutual
theorem Lx.imm{v:V}{d:D}{A:List γ}(r:Lx F H v d A)(h:d.imm=true):A=[]:=by
 cases r with
 | q e r=>exact r.imms h
 | l=>cases h
 | dct=>cases h
 | ins=>cases h
 | _=>rfl
theorem Lp.imms{vs:List V}{ds:List D}{A:List γ}(r:Lp F H vs ds A)(h:D.imms ds=true):A=[]:=by
 cases r with
 | nil=>rfl
 | cons r t =>
   have h:=zAh.mp h;rw[r.imm h.1,t.imms h.2];rfl
end
theorem qU6(a:List (Key×D)):(D.fzk a).map (·.1)=a.map (·.1)/\(D.fzk a).map (·.2)=D.fzs (a.map (·.2)):=by
 induction a with
 | nil=>exact⟨rfl,rfl⟩
 | cons p r b=>obtain⟨k,d⟩:=p;simp only[D.fzk,D.fzs,zAw,b.1,b.2,and_self]
theorem qD4(a:List (Str×D)):(D.fzf a).map (·.1)=a.map (·.1)/\(D.fzf a).map (·.2)=D.fzs (a.map (·.2)):=by
 induction a with
 | nil=>exact⟨rfl,rfl⟩
 | cons p r b=>obtain⟨k,d⟩:=p;simp only[D.fzf,D.fzs,zAw,b.1,b.2,and_self]
theorem Lx.fz{v:V}{d:D}{A:List γ}(r:Lx F H v d A)(m:∀ b,F b->F' b):(∀ b∈A,F' b)->Lx F' H v d.fz []:=by
 induction r using Lx.rec (motive_2:=λ a c A _=>(∀ b∈A,F' b)->Lp F' H a (D.fzs c) []) with
 | q e r i=>exact λ h=>.q e (i h)
 | l e r i=>exact λ h=>.lstZ e (zAx.mp h).1 (i (zAx.mp h).2)
 | lstZ e f r i=>exact λ h=>.lstZ e (m _ f) (i h)
 | dct e q r i=>exact λ h=>.dctZ e (zAx.mp h).1 (q.trans (qU6 _).1.symm) ((qU6 _).2 ▸ i (zAx.mp h).2)
 | dctZ e f q r i=>exact λ h=>.dctZ e (m _ f) (q.trans (qU6 _).1.symm) ((qU6 _).2 ▸ i h)
 | ins e q r i=>exact λ h=>.insZ e (zAx.mp h).1 (q.trans (qD4 _).1.symm) ((qD4 _).2 ▸ i (zAx.mp h).2)
 | insZ e f q r i=>exact λ h=>.insZ e (m _ f) (q.trans (qD4 _).1.symm) ((qD4 _).2 ▸ i h)
 | scr e=>exact λ _=>.scr e
 | exn e g q r i=>exact λ h=>.exn e g (q.trans (qD4 _).1.symm) ((qD4 _).2 ▸ i h)
 | nil=>exact Lp.nil
 | cons _ _ i j h=>exact Lp.cons (A:=[]) (B:=[]) (i (zBh.mp h).1) (j (zBh.mp h).2)
 | _=>intro;constructor
end
theorem ec:∀{us:List V'},us.length=n+1->∃ a vs,us=a::vs/\vs.length=n
 | a::vs,h=>⟨a,vs,rfl,Nat.succ.inj h⟩
theorem ec0(h:P [])(us:List V')(e:us.length=0):P us:=List.length_eq_zero_iff.mp e ▸ h
theorem ec1(h:∀ x us,us.length=n->P (x::us))(us:List V')(e:us.length=n+1):P us:=by
 obtain⟨x,a,rfl,b⟩:=ec e;exact h x a b
theorem ec2(h:∀ us,us.length=n->P us)(us:List V')(e:us.length+1=n+1):P us:=h us (Nat.succ.inj e)
inductive Locs(F:γ->Prop)(H:Hp):List (Option V)->List D->List γ->Prop
 | nil:Locs F H [] [] []
 | no {σ:List (Option V)} {ds:List D} {A:List γ} (t:Locs F H σ ds A):Locs F H (none::σ) (.u::ds) A
 | so {v:V} {d:D} {B:List γ} {σ:List (Option V)} {ds:List D} {A:List γ} (h:Lx F H v d B) (t:Locs F H σ ds A):Locs F H (some v::σ) (d::ds) (B++A)
section
variable{F F':γ->Prop}{H H':Hp}
theorem Locs.cells{σ:List (Option V)}{ds:List D}{A:List γ}(r:Locs F H σ ds A):∀ b∈A,∃ o,H b=some o/\Ew o=true:=by
 induction r with
 | nil=>intro b h;cases h
 | no t c=>exact c
 | so h t c =>
   intro b a;rcases zAb.mp a with a | a
   . exact h.cells b a
   exact c b a
theorem Locs.keep{W:γ->Prop}(k:Kp F H W F' H'){σ:List (Option V)}{ds:List D}{A:List γ}(r:Locs F H σ ds A):(∀ b∈A,¬ W b)->Locs F' H' σ ds A:=by
 induction r with
 | nil=>exact λ _=>.nil
 | no t a=>exact λ h=>.no (a h)
 | so h t a=>exact λ q=>.so (h.keep k λ b c=>q b (zAb.mpr (.inl c))) (a λ b c=>q b (zAb.mpr (.inr c)))
theorem Locs.same{σ:List (Option V)}{ds:List D}{A:List γ}(r:Locs F H σ ds A)(s:Same H H'):Locs F H' σ ds A:=r.keep (Kp.same s) λ _ _=>id
theorem Locs.len{σ:List (Option V)}{ds:List D}{A:List γ}(r:Locs F H σ ds A):σ.length=ds.length:=by
 induction r with
 | nil=>rfl
 | no t a=>simp[a]
 | so h t a=>simp[a]
theorem Locs.append{σ τ:List (Option V)}{ds es:List D}{A B:List γ}(r:Locs F H σ ds A)(t:Locs F H τ es B):Locs F H (σ++τ) (ds++es) (A++B):=by
 induction r with
 | nil=>exact t
 | no _ a=>exact .no a
 | so h _ a=>rw[zB8];exact .so h a
inductive Hn(F:γ->Prop)(H:Hp):Option V->D->List γ->Prop
 | no:Hn F H none .u []
 | so {v:V} {d:D} {B:List γ} (h:Lx F H v d B):Hn F H (some v) d B
theorem Locs.cons{o:Option V}{d:D}{B:List γ}{σ:List (Option V)}{ds:List D}{A:List γ}(h:Hn F H o d B)(t:Locs F H σ ds A):Locs F H (o::σ) (d::ds) (B++A):=by
 cases h with
 | no=>exact .no t
 | so h=>exact .so h t
theorem Locs.split:∀{ds:List D}{σ:List (Option V)}{A:List γ}{i:Nat}{d:D},Locs F H σ ds A->ds[i]? = some d ->
   ∃ σ1 o σ2 ds1 a A1 B A2,σ=σ1++o::σ2/\ds=ds1++d::a/\σ1.length=i/\ds1.length=i/\A=A1++(B++A2)/\Locs F H σ1 ds1 A1/\Hn F H o d B/\Locs F H σ2 a A2:=by
 intro ds
 induction ds with
 | nil=>intro σ A i d _ h;simp at h
 | cons e r m =>
   intro σ A i d L h;cases i with
   | zero =>
     have:e=d:=by simpa using h
     subst this;cases L with
     | no t=>exact⟨[],none,_,[],_,[],[],_,rfl,rfl,rfl,rfl,rfl,.nil,.no,t⟩
     | so q t=>exact⟨[],some _,_,[],_,[],_,_,rfl,rfl,rfl,rfl,rfl,.nil,.so q,t⟩
   | succ i =>
     have h:r[i]? = some d:=by simpa using h
     cases L with
     | no t =>
       obtain⟨σ1,o,σ2,ds1,a,A1,B,A2,b,e2,c,f,g,j,k,l⟩:=m t h;exact⟨none::σ1,o,σ2,_::ds1,a,A1,B,A2,by rw[b];rfl,by rw[e2];rfl,by simp[c],by simp[f],g,.no j,k,l⟩
     | @so v _ B0 _ _ A0 q t =>
       obtain⟨σ1,o,σ2,ds1,a,A1,B,A2,b,e2,c,f,g,j,k,l⟩:=m t h;exact⟨some v::σ1,o,σ2,_::ds1,a,B0++A1,B,A2,by rw[b];rfl,by rw[e2];rfl,by simp[c],by simp[f],by rw[g,zB8],.so q j,k,l⟩
end
theorem qo6{a b:List α}{x y:α}(h:a.length=i):(a++x::b).set i y=a++y::b:=by
 subst h;rw[List.set_append_right _ _ (zA6 _),Nat.sub_self];rfl
theorem qD3{a b:List α}{x:α}(h:a.length=i):(a++x::b)[i]? = some x:=by
 subst h;simp
structure Ok(F:γ->Prop)(H:Hp)(A:List γ):Prop where
 sep:∀ b,A.count b<=1
 fro:∀ b,F b->A.count b=0
 ex:∀ b,F b->∃ o,H b=some o
structure Lz(F:γ->Prop)(H:Hp)(A:List γ)(F':γ->Prop)(H':Hp)(A':List γ):Prop where
 fr:∀ b o,H b=some o->A.count b=0->H' b=some o
 sub:∀ b o,H b=some o->A.count b=0->A'.count b=0
 mono:∀ b,F b->F' b
 fnew:∀ b o,H b=some o->A.count b=0->F' b->F b
section
variable{F F1 F2:γ->Prop}{H H1 H2:Hp}{A A1 A2 T:List γ}
theorem Lz.refl:Lz F H A F H A:=⟨λ _ _ e _=>e,λ _ _ _ e=>e,λ _ f=>f,λ _ _ _ _ f=>f⟩
theorem Lz.trans(s:Lz F H A F1 H1 A1)(t:Lz F1 H1 A1 F2 H2 A2):Lz F H A F2 H2 A2 :=
 ⟨λ b o e q=>t.fr b o (s.fr b o e q) (s.sub b o e q),λ b o e q=>t.sub b o (s.fr b o e q) (s.sub b o e q),λ b f=>t.mono b (s.mono b f),λ b o e q f=>s.fnew b o e q (t.fnew b o (s.fr b o e q) (s.sub b o e q) f)⟩
theorem Lz.same(s:Same H H1):Lz F H A F H1 A:=⟨λ b o e _=>s b o e,λ _ _ _ e=>e,λ _ f=>f,λ _ _ _ _ f=>f⟩
theorem qa9{b:γ}{A:List γ}:b∈A↔A.count b≠0:=by
 rw[<- List.count_pos_iff];lia
theorem Lz.kp(s:Lz F H A F1 H1 A1)(o:Ok F H A)(c:∀ b∈A,∃ o,H b=some o/\Ew o=true):Kp F H (λ b=>A.count b≠0) F1 H1 :=
 ⟨λ b u e w=>s.fr b u e (by lia),λ b w=>c b (qa9.mpr w),λ b w f=>w (o.fro b f),s.mono⟩
theorem Ok.left(o:Ok F H (T++A)):Ok F H T:=⟨λ b=>by have:=o.sep b;rw[zA0] at this;lia,λ b f=>by have:=o.fro b f;rw[zA0] at this;lia,o.ex⟩
theorem Ok.right(o:Ok F H (T++A)):Ok F H A:=⟨λ b=>by have:=o.sep b;rw[zA0] at this;lia,λ b f=>by have:=o.fro b f;rw[zA0] at this;lia,o.ex⟩
theorem Ok.count(o:Ok F H A)(h:∀ b,A1.count b<=A.count b):Ok F H A1:=⟨λ b=>zAp (h b) (o.sep b),λ b f=>by have:=o.fro b f;have:=h b;lia,o.ex⟩
theorem Lz.frame(s:Lz F H A F1 H1 A1)(o:Ok F H (T++A))(c:∀ b∈T,∃ o,H b=some o/\Ew o=true)(d:Ok F1 H1 A1):Ok F1 H1 (T++A1)/\Lz F H (T++A) F1 H1 (T++A1):=by
 have a:∀ b,T.count b≠0->∃ u,H b=some u/\A.count b=0:=λ b h=>by
   obtain⟨u,e,_⟩:=c b (qa9.mpr h)
   have:=o.sep b
   rw[zA0] at this;exact⟨u,e,by lia⟩
 refine⟨⟨λ b=>?_,λ b f=>?_,d.ex⟩,λ b u e q=>?_,λ b u e q=>?_,s.mono,λ b u e q f=>?_⟩
 . rw[zA0]
   by_cases h:T.count b=0
   . have:=d.sep b;lia
   obtain⟨u,e,q⟩:=a b h;have g:=s.sub b u e q
   have:=o.sep b
   rw[zA0] at this;lia
 . rw[zA0,d.fro b f]
   by_cases h:T.count b=0
   . lia
   obtain⟨u,e,q⟩:=a b h
   have:=o.fro b (s.fnew b u e q f)
   rw[zA0] at this;lia
 . rw[zA0] at q;exact s.fr b u e (by lia)
 . rw[zA0] at q ⊢;have:=s.sub b u e (by lia);lia
 rw[zA0] at q;exact s.fnew b u e (by lia) f
theorem Lz.count(s:Lz F H A F1 H1 A1)(h:∀ b,A2.count b<=A1.count b):Lz F H A F1 H1 A2:=⟨s.fr,λ b o e q=>by have:=s.sub b o e q;have:=h b;lia,s.mono,s.fnew⟩
theorem Lz.pre(s:Lz F H A F1 H1 A1)(h:∀ b,A.count b=A2.count b):Lz F H A2 F1 H1 A1:=⟨λ b o e q=>s.fr b o e (by rw[h];exact q),λ b o e q=>s.sub b o e (by rw[h];exact q),s.mono,λ b o e q f=>s.fnew b o e (by rw[h];exact q) f⟩
end
structure New(H:Hp)(B:List γ):Prop where
 one:∀ b,B.count b<=1
 new:∀ b o,H b=some o->B.count b=0
section
variable{F:γ->Prop}{H H':Hp}{A B:List γ}
theorem New.nil:New H []:=⟨λ b=>by simp,λ b o _=>by simp⟩
theorem New.ok(n:New H B)(o:Ok F H A)(c:∀ b∈A,∃ o,H b=some o/\Ew o=true)(s:Same H H'):Ok F H' (B++A):=by
 refine⟨λ b=>?_,λ b f=>?_,λ b f=>?_⟩
 . rw[zA0]
   have a:=n.one b;have d:=o.sep b;by_cases h:A.count b=0
   . lia
   obtain⟨u,e,_⟩:=c b (qa9.mpr h)
   have:=n.new b u e
   lia
 . rw[zA0,o.fro b f]
   obtain⟨u,e⟩:=o.ex b f;rw[n.new b u e]
 obtain⟨u,e⟩:=o.ex b f;exact⟨u,s b u e⟩
theorem New.append{H1:Hp}{B1:List γ}(n:New H B)(s:Same H H1)(c:∀ b∈B,∃ o,H1 b=some o/\Ew o=true)(a:New H1 B1):New H (B++B1):=by
 refine⟨λ b=>?_,λ b o e=>?_⟩
 . rw[zA0]
   have d:=n.one b;have f:=a.one b;by_cases h:B.count b=0
   . lia
   obtain⟨u,e,_⟩:=c b (qa9.mpr h)
   have:=a.new b u e
   lia
 rw[zA0,n.new b o e,a.new b o (s b o e)]
theorem Ok.same(o:Ok F H A)(s:Same H H'):Ok F H' A:=⟨o.sep,o.fro,λ b f=>let ⟨u,e⟩:=o.ex b f;⟨u,s b u e⟩⟩
theorem New.stp(n:New H B)(s:Same H H'):Lz F H A F H' (B++A):=⟨λ b o e _=>s b o e,λ b o e q=>by rw[zA0,n.new b o e,q],λ _ f=>f,λ _ _ _ _ f=>f⟩
end
structure Exn where
 C:γ
 fs:List (Str×D)
def RepX(F:γ->Prop)(H:Hp)(e:γ)(x:Exn):Prop :=
 ∃ b,H e=some (Bo e x.C b false)/\(x.fs=[]∨∃ dx a,b=some dx/\H dx=some (XD dx a)/\a.map (·.1)=x.fs.map (·.1)/\Lp F H (a.map (·.2)) (x.fs.map (·.2)) [])
abbrev Ds:=List D
abbrev DK:=D->Ds->Prop
abbrev XKd:=Exn->Ds->Prop
abbrev VT:=Ds->DK->XKd->Prop
abbrev VTT:=Ds->(Bool->Ds->Prop)->XKd->Prop
abbrev VTA:=Ds->(Ds->Ds->Prop)->XKd->Prop
abbrev FV:=Ds->Option D
structure Vc where
 E:St->XK
 W:Nat->Bool
 av:List (Option V)
 gv:List (Option V)
structure L5(c:Vc)(F:γ->Prop)(H:Hp)(σ:St)(ds:Ds)(A:List γ):Prop where
 loc:Locs F H (σ++c.gv) ds A
 ok:Ok F H A
 len:c.av.length=(σ++c.gv).length
 ag:∀ i,c.W i=true->(σ++c.gv)[i]? = c.av[i]?
theorem L5.same{c:Vc}{F:γ->Prop}{H H':Hp}{σ:St}{ds:Ds}{A:List γ}(S:L5 c F H σ ds A)(s:Same H H'):L5 c F H' σ ds A:=⟨S.loc.same s,S.ok.same s,S.len,S.ag⟩
def Xc(c:Vc)(xe:XKd)(F:γ->Prop)(H:Hp)(A:List γ):Prop :=
 ∀ x a σ' e H' F' A',xe x a->RepX F' H' e x->L5 c F' H' σ' a A'->Lz F H A F' H' A'->c.E σ' (.ref e) none H'
theorem Xc.step{c:Vc}{xe:XKd}{F F1:γ->Prop}{H H1:Hp}{A A1:List γ}(x:Xc c xe F H A)(s:Lz F H A F1 H1 A1):Xc c xe F1 H1 A1:=λ y a σ' e H' F' A' h r S t=>x y a σ' e H' F' A' h r S (s.trans t)
def kE(c:Vc)(σ:St)(F:γ->Prop)(H:Hp)(A:List γ)(Q:VK):DK:=λ d a=>∀ v H' F' T A',Lx F' H' v d T->L5 c F' H' σ a A'->Ok F' H' (T++A')->Lz F H A F' H' (T++A')->Q v H'
inductive LiftE(c:Vc)(t:VT)(σ:St)(H:Hp)(Q:VK):Prop
 | mk (F:γ->Prop) (ds:Ds) (A:List γ) (xe:XKd) (S:L5 c F H σ ds A) (x:Xc c xe F H A) (q:t ds (kE c σ F H A Q) xe):LiftE c t σ H Q
def Bh(c:Vc)(t:VT):TE:=LiftE c t
inductive LiftV(c:Vc)(own:Bool)(f:FV)(σ:St)(H:Hp)(Q:VK):Prop
 | mk (F:γ->Prop) (ds:Ds) (A:List γ) (d:D) (S:L5 c F H σ ds A) (e:f ds=some d) (q:∀ v H' B,Lx F H' v d B->Same H H'->(own=true->New H B)->Q v H'):LiftV c own f σ H Q
def liftV(c:Vc)(own:Bool)(f:FV):TE:=LiftV c own f
inductive qaP1(c:Vc)(own:Bool)(f:Ds->Option Ds)(σ:St)(H:Hp)(Q:List V->Hp->Prop):Prop
 | mk (F:γ->Prop) (ds:Ds) (A:List γ) (xs:Ds) (S:L5 c F H σ ds A) (e:f ds=some xs) (q:∀ vs H' B,Lp F H' vs xs B->Same H H'->(own=true->New H B)->Q vs H'):qaP1 c own f σ H Q
def qaL2(c:Vc)(own:Bool)(f:Ds->Option Ds):TA:=qaP1 c own f
inductive qaP3(c:Vc)(t:VTA)(σ:St)(H:Hp)(Q:List V->Hp->Prop):Prop
 | mk (F:γ->Prop) (ds:Ds) (A:List γ) (xe:XKd) (S:L5 c F H σ ds A) (x:Xc c xe F H A) (q:t ds (λ xs ds'=>∀ vs H' F' T A',Lp F' H' vs xs T->L5 c F' H' σ ds' A'->Lz F H A F' H' A'->Q vs H') xe):qaP3 c t σ H Q
def qaL3(c:Vc)(t:VTA):TA:=qaP3 c t
inductive LiftT(c:Vc)(t:VTT)(σ:St)(H:Hp)(Q:Bool->Hp->Prop):Prop
 | mk (F:γ->Prop) (ds:Ds) (A:List γ) (xe:XKd) (S:L5 c F H σ ds A) (x:Xc c xe F H A) (q:t ds (λ b ds'=>∀ H' F' A',L5 c F' H' σ ds' A'->Lz F H A F' H' A'->Q b H') xe):LiftT c t σ H Q
def Er(c:Vc)(t:VTT):TT:=LiftT c t
structure VE(c:Vc)(X:Cx)(e:Expr)(t:VT):Prop where
 h:PE X e (Bh c t)
 m:∀ ds (Q Q':DK) (xe xe':XKd),(∀ d ds',Q d ds'->Q' d ds')->(∀ x ds',xe x ds'->xe' x ds')->t ds Q xe->t ds Q' xe'
structure VV(c:Vc)(X:Cx)(e:Expr)(own:Bool)(f:FV):Prop where
 h:PE X e (liftV c own f)
structure VVs(c:Vc)(X:Cx)(es:List Expr)(own:Bool)(f:Ds->Option Ds):Prop where
 h:PA X es (qaL2 c own f)
structure VOs(c:Vc)(X:Cx)(es:List Expr)(t:VTA):Prop where
 h:PA X es (qaL3 c t)
 m:∀ ds (Q Q':Ds->Ds->Prop) (xe xe':XKd),(∀ d ds',Q d ds'->Q' d ds')->(∀ x ds',xe x ds'->xe' x ds')->t ds Q xe->t ds Q' xe'
structure VTe(c:Vc)(X:Cx)(e:Expr)(t:VTT):Prop where
 h:PT X e (Er c t)
 m:∀ ds (Q Q':Bool->Ds->Prop) (xe xe':XKd),(∀ d ds',Q d ds'->Q' d ds')->(∀ x ds',xe x ds'->xe' x ds')->t ds Q xe->t ds Q' xe'
theorem PE.mono{X:Cx}{e:Expr}{t t':TE}(h:PE X e t)(i:∀ σ H Q,t' σ H Q->t σ H Q):PE X e t':=λ E3 s σ H Q I q=>h E3 s σ H Q I (i σ H Q q)
theorem PT.mono{X:Cx}{e:Expr}{t t':TT}(h:PT X e t)(i:∀ σ H Q,t' σ H Q->t σ H Q):PT X e t':=λ E3 s σ H Q I q=>h E3 s σ H Q I (i σ H Q q)
theorem PW.mono{X:Cx}{e:Expr}{t t':TT}(h:PW X e t)(i:∀ σ H Q,t' σ H Q->t σ H Q):PW X e t':=λ w E3 s σ H Q I q=>h w E3 s σ H Q I (i σ H Q q)
theorem PA.mono{X:Cx}{es:List Expr}{t t':TA}(h:PA X es t)(i:∀ σ H Q,t' σ H Q->t σ H Q):PA X es t':=λ p E3 s σ H Q I q=>h p E3 s σ H Q I (i σ H Q q)
theorem PS.mono{X:Cx}{st:Stmt}{t t':TS}(h:PS X st t)(i:∀ D σ H,t' D σ H->t D σ H):PS X st t':=λ E3 s σ H D I q=>h E3 s σ H D I (i D σ H q)
theorem PSs.mono{X:Cx}{st:List Stmt}{t t':TS}(h:PSs X st t)(i:∀ D σ H,t' D σ H->t D σ H):PSs X st t':=λ E3 s σ H D I q=>h E3 s σ H D I (i D σ H q)
def orF{α:Type}(o:Option α)(k:α->Prop):Prop:=match o with | some a=>k a | none=>False
theorem qa5{o:Option α}{k b:α->Prop}(h:∀ a,k a->b a):orF o k->orF o b:=by
 cases o with
 | none=>exact id
 | some a=>exact h a
theorem qa7{o:Option α}{k:α->Prop}:orF o k↔∃ a,o=some a/\k a:=by
 cases o with
 | none=>exact⟨λ h=>h.elim,λ ⟨_,e,_⟩=>by cases e⟩
 | some a=>exact⟨λ h=>⟨a,rfl,h⟩,λ ⟨b,e,h⟩=>by cases e;exact h⟩
section
variable{c:Vc}{X:Cx}{e:Expr}{F:γ->Prop}{H H':Hp}{σ:St}{ds:Ds}{A:List γ}
theorem L5.new{B:List γ}(S:L5 c F H σ ds A)(n:New H B)(s:Same H H'):Ok F H' (B++A):=n.ok S.ok S.loc.cells s
def Ed(f:FV):VT:=λ ds Q _=>orF (f ds) λ d=>Q d ds
def Ee(f:FV):VT:=λ ds Q _=>orF (f ds) λ d=>d.imm=true/\Q d ds
theorem qa4{f:FV}(h:VV c X e true f):VE c X e (Ed f):=by
 refine⟨PE.mono h.h λ σ H Q a=>?_,λ b Q Q' g i j _=>qa5 λ d=>j d b⟩;obtain⟨F,b,A,g,S,x,q⟩:=a;obtain⟨d,e,q⟩:=qa7.mp q;exact⟨F,b,A,d,S,e,λ v H' B r s n=>q v H' F B A r (S.same s) (S.new (n rfl) s) ((n rfl).stp s)⟩
theorem qb5{own:Bool}{f:FV}(h:VV c X e own f):VE c X e (Ee f):=by
 refine⟨PE.mono h.h λ σ H Q a=>?_,λ b Q Q' g i j _=>qa5 λ d=>And.imp_right (j d b)⟩;obtain⟨F,b,A,g,S,x,q⟩:=a;obtain⟨d,e,k,q⟩:=qa7.mp q;refine⟨F,b,A,d,S,e,λ v H' B r s _=>?_⟩
 have:=r.imm k
 subst this;exact q v H' F [] A r (S.same s) (S.ok.same s) (.same s)
theorem Gr{d:D}(h:PE X e (tC v))(r:∀ F H,Lx F H v d []):VV c X e true (λ _=>some d) :=
 ⟨PE.mono h λ σ H Q ⟨F,a,A,b,S,e,q⟩=>by cases e;exact q v H [] (r F H) (λ _ _ z=>z) λ _=>New.nil⟩
noncomputable def D.known:D->Bool
 | .u=>false
 | .hole _=>false
 | _=>true
def rdN(i:Nat):FV:=λ ds=>match ds[i]? with
 | some d=>if d.known=true then some d else none
 | none=>none
theorem ql0{d:D}:rdN i ds=some d↔ds[i]? = some d/\d.known=true:=by
 unfold rdN;cases h:ds[i]? with
 | none=>simp
 | some x =>
   dsimp only;split
   . rename_i hk;constructor
     . intro e;cases e;exact⟨rfl,hk⟩
     rintro⟨e,_⟩;exact e
   rename_i hk;constructor
   . intro e;cases e
   rintro⟨e,a⟩;cases e;exact absurd a hk
theorem L5.at{d:D}(S:L5 c F H σ ds A)(hi:i < σ.length)(h:ds[i]? = some d)(a:d.known=true):∃ v B,σ[i]? = some (some v)/\Lx F H v d B/\∀ b,B.count b<=A.count b:=by
 obtain⟨σ1,o,σ2,e,f,A1,B,A2,g,e2,j,m,k,n,l,p⟩:=S.loc.split h;cases l with
 | no=>cases a
 | @so v _ _ r =>
   refine⟨v,B,?_,r,λ b=>by rw[k];simp only[zA0];lia⟩
   have:(σ++c.gv)[i]? = some (some v):=by rw[g];exact qD3 j
   rwa[zAr hi] at this
theorem qaF2{x:Str}{pos:Pos}(h:PE X (.Name x pos) (Fx i))(hi:∀ E3 σ H s,Ly X E3 σ H s->i < σ.length):VV c X (.Name x pos) false (rdN i):=by
 refine⟨λ E3 s σ H Q I a=>?_⟩;obtain⟨F,g,A,d,S,e,q⟩:=a;refine h E3 s σ H Q I ?_;obtain⟨e,b⟩:=ql0.mp e;obtain⟨v,B,f,r,_⟩:=S.at (hi E3 σ H s I) e b;exact⟨v,f,q v H B r (λ _ _ z=>z) λ z=>by cases z⟩
theorem qk3{X:Cx}{x:Str}(a:X.N[i]? = some x):∀ E3 σ H s,Ly X E3 σ H s->i < σ.length:=λ E3 σ H s I=>by
 rw[I.len];exact(zA5.mp a).1
end
def Sub(H:Hp)(B B':List γ):Prop:=∀ b,B'.count b<=B.count b∨(B'.count b<=1/\H b=none)
theorem Sub.new{H H1:Hp}{B B':List γ}(s:Sub H1 B B')(n:New H B)(q:Same H H1):New H B':=by
 refine⟨λ b=>?_,λ b o e=>?_⟩
 . rcases s b with h | ⟨h,_⟩
   . have:=n.one b;lia
   exact h
 rcases s b with h | ⟨_,h⟩
 . have:=n.new b o e;lia
 rw[q b o e] at h;cases h
def OpS(nw:Bool)(r:List V->Hp->VK->Prop)(g:Ds->Option D):Prop:=∀ F H vs xs B d (Q:VK),Lp F H vs xs B->g xs=some d ->
 (∀ v H' B',Lx F H' v d B'->Same H H'->(if nw=true then New H B' else Sub H B B')->Q v H')->r vs H Q
def A5(nw:Bool)(r:R2)(g:D->D->Option D):Prop:=∀ F H v w x y B d (Q:VK),Lp F H [v,w] [x,y] B->g x y=some d ->
 (∀ v H' B',Lx F H' v d B'->Same H H'->(if nw=true then New H B' else Sub H B B')->Q v H')->r v w H Q
noncomputable def f2(g:D->D->Option D)(fa fb:FV):FV:=λ ds=>(fa ds).bind λ x=>(fb ds).bind λ y=>g x y
theorem qaC9{g:D->D->Option D}{fa fb:FV}{ds:Ds}{d:D}:f2 g fa fb ds=some d↔∃ x y,fa ds=some x/\fb ds=some y/\g x y=some d:=by
 unfold f2;cases a:fa ds with
 | none=>simp
 | some x=>cases b:fb ds with
   | none=>simp
   | some y=>simp
noncomputable def f1(g:D->Option D)(fa:FV):FV:=λ ds=>(fa ds).bind g
theorem qaD0{g:D->Option D}{fa:FV}{ds:Ds}{d:D}:f1 g fa ds=some d↔∃ x,fa ds=some x/\g x=some d:=by
 unfold f1;cases a:fa ds with
 | none=>simp
 | some x=>simp
theorem F5{F:γ->Prop}{H:Hp}{d e:D}{A B:List γ}(r:Lx F H v d A)(s:Lx F H w e B):Lp F H [v,w] [d,e] (A++(B++[])):=.cons r (.cons s .nil)
section
variable{c:Vc}{X:Cx}{a b:Expr}{oa ob nw:Bool}{fa fb:FV}{r:R2}{g:D->D->Option D}{ta tb:VT}
theorem op_vv(h:A5 nw r g):∀ σ H Q,liftV c (nw||(oa&&ob)) (f2 g fa fb) σ H Q->tOp r (liftV c oa fa) (liftV c ob fb) σ H Q:=by
 rintro σ H Q ⟨F,k,A,d,S,e,q⟩;obtain⟨x,y,m,n,p⟩:=qaC9.mp e;refine⟨F,k,A,x,S,m,λ v H1 B1 l a s=>⟨F,k,A,y,S.same a,n,λ w H2 B2 t i z=>?_⟩⟩;refine h F H2 v w x y _ d Q (F5 (l.same i) t) p λ u H3 B3 B C f=>?_
 refine q u H3 B3 B ((a.trans i).trans C) λ j=>?_
 cases nw with
 | true=>rw[if_pos rfl] at f;exact⟨f.one,λ b o e=>f.new b o (i b o (a b o e))⟩
 | false =>
   rw[if_neg (by decide)] at f;have j:=zAh.mp j
   have:=(s j.1).append a l.cells (z j.2)
   exact f.new (by rw[zAe];exact this) (a.trans i)
def t2(g:D->D->Option D)(ta tb:VT):VT:=λ ds Q xe=>ta ds (λ x ds1=>tb ds1 (λ y a=>orF (g x y) λ d=>Q d a) xe) xe
theorem qar8(j:VE c X a ta)(k:VE c X b tb):∀ ds (Q Q':DK) (xe f:XKd),(∀ d e,Q d e->Q' d e)->(∀ x e,xe x e->f x e)->t2 g ta tb ds Q xe->t2 g ta tb ds Q' f :=
 λ ds Q Q' xe f l i=>j.m _ _ _ _ _ (λ d n=>k.m _ _ _ _ _ (λ d h=>qa5 λ z=>l z h) i) i
theorem op_ee(s:VE c X a ta)(i:VE c X b tb)(h:A5 true r g):∀ σ H Q,Bh c (t2 g ta tb) σ H Q->tOp r (Bh c ta) (Bh c tb) σ H Q:=by
 rintro σ H Q ⟨F,t,A,o,S,x,q⟩;refine⟨F,t,A,o,S,x,s.m _ _ _ _ _ (λ p j q v H1 F1 T A1 y S1 B C=>?_) (λ _ _ z=>z) q⟩;have e:Lz F H A F1 H1 A1:=C.count λ b=>by rw[zA0];lia
 refine⟨F1,j,A1,o,S1,x.step e,i.m _ _ _ _ _ (λ D E q w H2 F2 T2 A2 G S2 L I=>?_) (λ _ _ z=>z) q⟩;obtain⟨d,J,q⟩:=qa7.mp q;have f:Lz F1 H1 A1 F2 H2 A2:=I.count λ b=>by rw[zA0];lia
 have k:Lx F2 H2 v p T:=y.keep (f.kp S1.ok S1.loc.cells) λ b i M=>by
   have:=B.sep b
   rw[zA0] at this
   have:=qa9.mp i
   lia
 refine h F2 H2 v w p D _ d Q (F5 k G) J λ u H3 B3 K l n=>?_
 rw[if_pos rfl] at n;exact q u H3 F2 B3 A2 K (S2.same l) (S2.new n l) ((e.trans f).trans (n.stp l))
def t2v(g:D->D->Option D)(ta:VT)(fb:FV):VT:=λ ds Q xe=>ta ds (λ x ds1=>orF ((fb ds1).bind (g x)) λ d=>Q d ds1) xe
theorem qaw7(h:VE c X a ta):∀ ds (Q Q':DK) (xe e:XKd),(∀ d b,Q d b->Q' d b)->(∀ x b,xe x b->e x b)->t2v g ta fb ds Q xe->t2v g ta fb ds Q' e :=
 λ ds Q Q' xe e i j=>h.m _ _ _ _ _ (λ d f=>qa5 λ z=>i z f) j
theorem op_ev(s:VE c X a ta)(h:A5 true r g):∀ σ H Q,Bh c (t2v g ta fb) σ H Q->tOp r (Bh c ta) (liftV c ob fb) σ H Q:=by
 rintro σ H Q ⟨F,t,A,B,S,x,q⟩;refine⟨F,t,A,B,S,x,s.m _ _ _ _ _ (λ C j q v H1 F1 T A1 D S1 L E=>?_) (λ _ _ z=>z) q⟩;have k:Lz F H A F1 H1 A1:=E.count λ b=>by rw[zA0];lia
 obtain⟨d,l,q⟩:=qa7.mp q;obtain⟨y,G,l⟩:=zA1.mp l;refine⟨F1,j,A1,y,S1,G,λ w H2 B2 I n _=>?_⟩;refine h F1 H2 v w C y _ d Q (F5 (D.same n) I) l λ u H3 B3 J K p=>?_
 rw[if_pos rfl] at p;have f:=n.trans K;have i:New H1 B3:=⟨p.one,λ b o e=>p.new b o (n b o e)⟩
 exact q u H3 F1 B3 A1 J (S1.same f) (S1.new i f) (k.trans (i.stp f))
def OpS1(nw:Bool)(r:V->Hp->VK->Prop)(g:D->Option D):Prop:=∀ F H v x B d (Q:VK),Lx F H v x B->g x=some d ->
 (∀ v H' B',Lx F H' v d B'->Same H H'->(if nw=true then New H B' else Sub H B B')->Q v H')->r v H Q
def t1(g:D->Option D)(ta:VT):VT:=λ ds Q xe=>ta ds (λ x ds1=>orF (g x) λ d=>Q d ds1) xe
variable{r1:V->Hp->VK->Prop}{g1:D->Option D}
theorem op_v(h:OpS1 nw r1 g1):∀ σ H Q,liftV c (nw||oa) (f1 g1 fa) σ H Q->liftV c oa fa σ H (λ x H1=>r1 x H1 Q):=by
 rintro σ H Q ⟨F,g,A,d,S,e,q⟩;obtain⟨x,i,j⟩:=qaD0.mp e;refine⟨F,g,A,x,S,i,λ v H1 B1 r1 f k=>?_⟩;refine h F H1 v x _ d Q r1 j λ u H3 B3 l m a=>?_
 refine q u H3 B3 l (f.trans m) λ n=>?_
 cases nw with
 | true=>rw[if_pos rfl] at a;exact⟨a.one,λ b o e=>a.new b o (f b o e)⟩
 | false=>rw[if_neg (by decide)] at a;exact a.new (k n) f
end
theorem qT8{F F1:γ->Prop}{H H1 H3:Hp}{A A1 T B:List γ}(d:Ok F1 H1 (T++A1))(c:Lz F H A F1 H1 (T++A1))(j:∀ b∈A1,∃ o,H1 b=some o/\Ew o=true)(i:Same H1 H3)(g:Sub H1 T B):Ok F1 H3 (B++A1)/\Lz F H A F1 H3 (B++A1):=by
 refine⟨⟨λ b=>?_,λ b f=>?_,λ b f=>let ⟨u,e⟩:=d.ex b f;⟨u,i b u e⟩⟩,λ b o e q=>i b o (c.fr b o e q),λ b o e q=>?_,c.mono,c.fnew⟩
 . have:=d.sep b
   rw[zA0] at this ⊢;rcases g b with h | ⟨h,a⟩
   . lia
   by_cases k:A1.count b=0
   . lia
   obtain⟨o,e,_⟩:=j b (qa9.mpr k);rw[e] at a;cases a
 . have:=d.fro b f
   rw[zA0] at this ⊢;rcases g b with h | ⟨h,a⟩
   . lia
   obtain⟨o,e⟩:=d.ex b f;rw[e] at a;cases a
 have:=c.sub b o e q
 rw[zA0] at this ⊢;rcases g b with h | ⟨h,a⟩
 . lia
 rw[c.fr b o e q] at a;cases a
section
variable{c:Vc}{X:Cx}{a b:Expr}{oa ob nw:Bool}{fa fb:FV}{r:R2}{g:D->D->Option D}{ta tb:VT}
theorem qaT3(D:VE c X a ta)(e:VE c X b tb)(h:A5 false r g):∀ σ H Q,Bh c (t2 g ta tb) σ H Q->tOp r (Bh c ta) (Bh c tb) σ H Q:=by
 rintro σ H Q ⟨F,E,A,l,S,x,q⟩;refine⟨F,E,A,l,S,x,D.m _ _ _ _ _ (λ n f q v H1 F1 T A1 o S1 p s=>?_) (λ _ _ z=>z) q⟩;have i:Lz F H A F1 H1 A1:=s.count λ b=>by rw[zA0];lia
 refine⟨F1,f,A1,l,S1,x.step i,e.m _ _ _ _ _ (λ G I q w H2 F2 T2 A2 J S2 K t=>?_) (λ _ _ z=>z) q⟩;obtain⟨d,L,q⟩:=qa7.mp q;have j:Lx F2 H2 v n T:=o.keep (t.kp S1.ok S1.loc.cells) λ b e P=>by
   have:=p.sep b
   rw[zA0] at this
   have:=qa9.mp e
   lia
 obtain⟨y,B⟩:=t.frame p o.cells K;refine h F2 H2 v w n G _ d Q (F5 j J) L λ u H3 B3 M C k=>?_
 rw[if_neg (by decide)] at k;rw[<- zB8] at y B;obtain⟨N,O⟩:=qT8 y (s.trans B) S2.loc.cells C (by rw[zAe] at k;exact k);exact q u H3 F2 B3 A2 M (S2.same C) N O
def Jn(g:D->D->Option D)(ta:VT)(fb:FV):VT:=λ ds Q xe=>ta ds (λ x ds1=>orF (fb ds1) λ y=>y.imm=true/\orF (g x y) λ d=>Q d ds1) xe
theorem qal4(h:VE c X a ta):∀ ds (Q Q':DK) (xe e:XKd),(∀ d b,Q d b->Q' d b)->(∀ x b,xe x b->e x b)->Jn g ta fb ds Q xe->Jn g ta fb ds Q' e :=
 λ ds Q Q' xe e i j=>h.m _ _ _ _ _ (λ d f=>qa5 λ y=>And.imp_right (qa5 λ z=>i z f)) j
theorem qaT2(p:VE c X a ta)(h:A5 false r g):∀ σ H Q,Bh c (Jn g ta fb) σ H Q->tOp r (Bh c ta) (liftV c ob fb) σ H Q:=by
 rintro σ H Q ⟨F,s,A,t,S,x,q⟩;refine⟨F,s,A,t,S,x,p.m _ _ _ _ _ (λ B i q v H1 F1 T A1 C S1 D E=>?_) (λ _ _ z=>z) q⟩;obtain⟨y,G,I,q⟩:=qa7.mp q;obtain⟨d,J,q⟩:=qa7.mp q;refine⟨F1,i,A1,y,S1,G,λ w H2 B2 k j _=>?_⟩
 have:=k.imm I
 subst this;refine h F1 H2 v w B y _ d Q (F5 (C.same j) k) J λ u H3 B3 K L l=>?_
 rw[if_neg (by decide),zAe,zAe] at l;have f:=j.trans L;have M:Sub H1 T B3:=λ b=>(l b).imp id λ ⟨N,n⟩=>⟨N,by
   cases e:H1 b with
   | none=>rfl
   | some o=>rw[j b o e] at n;cases n⟩
 obtain⟨O,P⟩:=qT8 D E S1.loc.cells f M;exact q u H3 F1 B3 A1 K (S1.same f) O P
theorem qa6:VVs c X [] true (λ _=>some []):=⟨PA.mono qk2 λ σ H Q ⟨F,a,A,b,S,e,q⟩=>by cases e;exact q [] H [] .nil (λ _ _ z=>z) λ _=>New.nil⟩
noncomputable def Ba(fa:FV)(a:Ds->Option Ds):Ds->Option Ds:=λ ds=>(fa ds).bind λ x=>(a ds).bind λ xs=>some (x::xs)
theorem qap4{fa:FV}{a:Ds->Option Ds}{ds xs:Ds}:Ba fa a ds=some xs↔∃ x r,fa ds=some x/\a ds=some r/\xs=x::r:=by
 unfold Ba;cases b:fa ds with
 | none=>simp
 | some x=>cases c:a ds with
   | none=>simp
   | some y=>simp[eq_comm]
theorem qa2{e:Expr}{es:List Expr}{own:Bool}{f:Ds->Option Ds}(k:VV c X e oa fa)(l:VVs c X es own f)(m:Ko (e::es) X.env=(false,eval e X.env)::Ko es X.env):VVs c X (e::es) (oa&&own) (Ba fa f):=by
 refine⟨PA.mono (qc4 k.h l.h m) λ σ H Q b=>?_⟩;obtain⟨F,g,A,u,S,e,q⟩:=b;obtain⟨x,r,n,e2,rfl⟩:=qap4.mp e;refine⟨F,g,A,x,S,n,λ v H1 B1 i d o=>⟨F,g,A,r,S.same d,e2,λ p H2 B2 s j t=>?_⟩⟩;refine q (v::p) H2 (B1++B2) (.cons (i.same j) s) (d.trans j) λ a=>?_
 have a:=zAh.mp a;exact(o a.1).append d i.cells (t a.2)
variable{rc:List V->Hp->VK->Prop}{gc:Ds->Option D}
theorem qaJ8{own:Bool}{f:Ds->Option Ds}(h:OpS nw rc gc):∀ σ H Q,liftV c (nw||own) (λ ds=>(f ds).bind gc) σ H Q->tCB rc (qaL2 c own f) σ H Q:=by
 rintro σ H Q ⟨F,ds,A,d,S,e,q⟩;obtain⟨i,j,e2⟩:=zA1.mp e;refine⟨F,ds,A,i,S,j,λ k H1 B1 l g m=>h F H1 k i B1 d Q l e2 λ u H3 B3 n p a=>q u H3 B3 n (g.trans p) λ r=>?_⟩;cases nw with
 | true=>rw[if_pos rfl] at a;exact⟨a.one,λ b o e=>a.new b o (g b o e)⟩
 | false=>rw[if_neg (by decide)] at a;exact a.new (m r) g
def tcO(gc:Ds->Option D)(t:VTA):VT:=λ ds Q xe=>t ds (λ xs ds1=>orF (gc xs) λ d=>Q d ds1) xe
theorem qaw5{es:List Expr}{t:VTA}(f:VOs c X es t):∀ ds (Q Q':DK) (xe b:XKd),(∀ d a,Q d a->Q' d a)->(∀ x a,xe x a->b x a)->tcO gc t ds Q xe->tcO gc t ds Q' b :=
 λ ds Q Q' xe b g h=>f.m _ _ _ _ _ (λ d e=>qa5 λ z=>g z e) h
theorem opc_o{es:List Expr}{t:VTA}(e:VOs c X es t)(h:OpS true rc gc):∀ σ H Q,Bh c (tcO gc t) σ H Q->tCB rc (qaL3 c t) σ H Q:=by
 rintro σ H Q ⟨F,f,A,g,S,x,q⟩;refine⟨F,f,A,g,S,x,e.m _ _ _ _ _ (λ i j q k H1 F1 T A1 l S1 n=>?_) (λ _ _ z=>z) q⟩;obtain⟨d,o,q⟩:=qa7.mp q;refine h F1 H1 k i T d Q l o λ u H3 B3 p a b=>?_
 rw[if_pos rfl] at b;exact q u H3 F1 B3 A1 p (S1.same a) (S1.new b a) (n.trans (b.stp a))
end
def D.kids:D->List D
 | .q ds=>ds
 | .l false ds=>ds
 | .dct false kvs=>kvs.map (·.2)
 | .ins false _ fs=>fs.map (·.2)
 | _=>[]
noncomputable def Ii{κ:Type}:List (κ×D)->Nat->D->List (κ×D)
 | [],_,_=>[]
 | (k,_)::r,0,x=>(k,x)::r
 | p::r,n+1,x=>p::Ii r n x
theorem qO0{κ:Type}:∀(l:List (κ×D))(n:Nat)(x:D),(Ii l n x).map (·.1)=l.map (·.1)/\(Ii l n x).map (·.2)=(l.map (·.2)).set n x
 | [],_,_=>⟨rfl,rfl⟩
 | (k,_)::r,0,x=>⟨rfl,rfl⟩
 | p::r,n+1,x=>by
   obtain⟨a,b⟩:=qO0 r n x;simp only[Ii,zAw,a,b,List.set_cons_succ,and_self]
def D.setK:D->Nat->D->D
 | .q ds,n,x=>.q (ds.set n x)
 | .l z ds,n,x=>.l z (ds.set n x)
 | .dct z kvs,n,x=>.dct z (Ii kvs n x)
 | .ins z C fs,n,x=>.ins z C (Ii fs n x)
 | d,_,_=>d
def Lnk(H:Hp)(u:V)(n:Nat)(w:V):Prop:=∃ a,u=.ref a /\
 ((∃ vs,H a=some (.q vs)/\vs[n]? = some w)∨(∃ vs,H a=some (.l vs)/\vs[n]? = some w)∨(∃ kvs,H a=some (.dK kvs)/\(kvs.map (·.2))[n]? = some w)∨∃ C dx fs,H a=some (.ins C dx fs)/\(fs.map (·.2))[n]? = some w)
section
variable{F F':γ->Prop}{H H':Hp}
theorem Lp.split:∀{ds:List D}{vs:List V}{A:List γ}{i:Nat}{d:D},Lp F H vs ds A->ds[i]? = some d ->
   ∃ b v c ds1 a A1 B A2,vs=b++v::c/\ds=ds1++d::a/\b.length=i/\ds1.length=i/\A=A1++(B++A2)/\Lp F H b ds1 A1/\Lx F H v d B/\Lp F H c a A2:=by
 intro ds
 induction ds with
 | nil=>intro σ A i d _ h;simp at h
 | cons e r f =>
   intro σ A i d L h;cases i with
   | zero =>
     have:e=d:=by simpa using h
     subst this;cases L with
     | cons q t=>exact⟨[],_,_,[],_,[],_,_,rfl,rfl,rfl,rfl,rfl,.nil,q,t⟩
   | succ i =>
     have h:r[i]? = some d:=by simpa using h
     cases L with
     | @cons v _ B0 _ _ A0 q t =>
       obtain⟨σ1,o,σ2,ds1,a,A1,B,A2,g,e2,j,k,l,m,n,p⟩:=f t h;exact⟨v::σ1,o,σ2,_::ds1,a,B0++A1,B,A2,by rw[g];rfl,by rw[e2];rfl,by simp[j],by simp[k],by rw[l,zB8],.cons q m,n,p⟩
theorem Lp.append{a:List V}{ds es:List D}{A B:List γ}(r:Lp F H vs ds A)(t:Lp F H a es B):Lp F H (vs++a) (ds++es) (A++B):=by
 induction vs generalizing ds A with
 | nil=>cases r;exact t
 | cons v vs b =>
   cases r with
   | cons h c=>rw[zB8];exact .cons h (b c)
theorem Lp.kid{ds:List D}{A:List γ}{d:D}(r:Lp F H vs ds A)(h:ds[n]? = some d):∃(w:V)(B C:List γ),vs[n]? = some w/\Lx F H w d B/\(∀ b,A.count b=B.count b+C.count b) /\
   ∀{F':γ->Prop}{H':Hp}{W:γ->Prop}(d':D)(B':List γ),Kp F H W F' H'->(∀ b∈C,¬ W b)->Lx F' H' w d' B'->∃ A':List γ,Lp F' H' vs (ds.set n d') A'/\∀ b,A'.count b=B'.count b+C.count b:=by
 obtain⟨f,v,g,i,j,A1,B,A2,c,e2,l,m,o,p,q,s⟩:=r.split h;refine⟨v,B,A1++A2,by rw[c];exact qD3 l,q,λ b=>by rw[o];simp only[zA0];lia,λ{F' H' W} d' B' k e t=>⟨A1++(B'++A2),?_,λ b=>by simp only[zA0];lia⟩⟩;rw[c,e2,qo6 m];exact(p.keep k λ b a=>e b (zAb.mpr (.inl a))).append (.cons t (s.keep k λ b a=>e b (zAb.mpr (.inr a))))
theorem Lx.kid{p:V}{d0 d:D}{A:List γ}(r:Lx F H p d0 A)(h:d0.kids[n]? = some d):∃(w:V)(B C:List γ),Lnk H p n w/\Lx F H w d B/\(∀ b,A.count b=B.count b+C.count b) /\
   ∀{F':γ->Prop}{H':Hp}{W:γ->Prop}(d':D)(B':List γ),Kp F H W F' H'->(∀ b∈C,¬ W b)->Lx F' H' w d' B'->∃ A':List γ,Lx F' H' p (d0.setK n d') A'/\∀ b,A'.count b=B'.count b+C.count b:=by
 cases r with
 | @q a vs ds _ e r =>
   obtain⟨w,B,C,f,g,i,j⟩:=r.kid (n:=n) h;refine⟨w,B,C,⟨a,rfl,.inl ⟨vs,e,f⟩⟩,g,i,λ{F' H' W} d' B' k c l=>?_⟩;obtain⟨A',m,q2⟩:=j d' B' k c l;exact⟨A',.q (k.q e) m,q2⟩
 | @l a vs ds A e r =>
   obtain⟨w,B,C,f,g,i,j⟩:=r.kid (n:=n) h;refine⟨w,B,a::C,⟨a,rfl,.inr (.inl ⟨vs,e,f⟩)⟩,g,λ b=>by rw[zAn,zAn,i];lia,λ{F' H' W} d' B' k c l=>?_⟩;obtain⟨A',m,q2⟩:=j d' B' k (λ b o=>c b (zA4 _ o)) l;exact⟨a::A',.l (k.fr a _ e (c a zAa)) m,λ b=>by rw[zAn,zAn,q2];lia⟩
 | @dct a kvs kds A e q r =>
   obtain⟨w,B,C,f,g,i,j⟩:=r.kid (n:=n) h;refine⟨w,B,a::C,⟨a,rfl,.inr (.inr (.inl ⟨kvs,e,f⟩))⟩,g,λ b=>by rw[zAn,zAn,i];lia,λ{F' H' W} d' B' k c l=>?_⟩;obtain⟨A',m,q2⟩:=j d' B' k (λ b o=>c b (zA4 _ o)) l;obtain⟨s,t⟩:=qO0 kds n d';exact⟨a::A',.dct (k.fr a _ e (c a zAa)) (q.trans s.symm) (by rw[t];exact m),λ b=>by rw[zAn,zAn,q2];lia⟩
 | @ins a C0 dx fvs fds A e q r =>
   obtain⟨w,B,C,f,g,i,j⟩:=r.kid (n:=n) h;refine⟨w,B,a::C,⟨a,rfl,.inr (.inr (.inr ⟨C0,dx,fvs,e,f⟩))⟩,g,λ b=>by rw[zAn,zAn,i];lia,λ{F' H' W} d' B' k c l=>?_⟩;obtain⟨A',m,q2⟩:=j d' B' k (λ b o=>c b (zA4 _ o)) l;obtain⟨s,t⟩:=qO0 fds n d';exact⟨a::A',.ins (k.fr a _ e (c a zAa)) (q.trans s.symm) (by rw[t];exact m),λ b=>by rw[zAn,zAn,q2];lia⟩
 | _=>cases (show (none:Option D)=some _ from h)
def D.getP:D->List Nat->Option D
 | d,[]=>some d
 | d,n::p=>match d.kids[n]? with
   | some e=>e.getP p
   | none=>none
def D.setP:D->List Nat->D->D
 | _,[],x=>x
 | d,n::p,x=>match d.kids[n]? with
   | some e=>d.setK n (e.setP p x)
   | none=>d
def Walk(H:Hp):V->List Nat->V->Prop
 | u,[],w=>u=w
 | u,n::p,w=>∃ v,Lnk H u n v/\Walk H v p w
theorem Lx.path:∀{p:List Nat}{a:V}{d0 d:D}{A:List γ},Lx F H a d0 A->d0.getP p=some d->∃(w:V)(B C:List γ),Walk H a p w/\Lx F H w d B/\(∀ b,A.count b=B.count b+C.count b) /\
   ∀{F':γ->Prop}{H':Hp}{W:γ->Prop}(d':D)(B':List γ),Kp F H W F' H'->(∀ b∈C,¬ W b)->Lx F' H' w d' B'->∃ A':List γ,Lx F' H' a (d0.setP p d') A'/\∀ b,A'.count b=B'.count b+C.count b:=by
 intro p
 induction p with
 | nil =>
   intro a d0 d A r h;cases h;exact⟨a,A,[],rfl,r,λ b=>by simp,λ{F' H' W} d' B' k f g=>⟨B',g,λ b=>by simp⟩⟩
 | cons n p j =>
   intro a d0 d A r h;unfold D.getP at h;cases c:d0.kids[n]? with
   | none=>rw[c] at h;cases h
   | some e =>
     rw[c] at h;obtain⟨l,B1,C1,m,o,q,s⟩:=r.kid c;obtain⟨w,B,C,t,u,v,x⟩:=j o h;refine⟨w,B,C++C1,⟨l,m,t⟩,u,λ b=>by rw[q,v,zA0];lia,λ{F' H' W} d' B' k f g=>?_⟩;obtain⟨A1,y,q2⟩:=x d' B' k (λ b i=>f b (zAb.mpr (.inl i))) g;obtain⟨A2,z,E⟩:=s (e.setP p d') A1 k (λ b i=>f b (zAb.mpr (.inr i))) y;refine⟨A2,?_,λ b=>by rw[E,q2,zA0];lia⟩;unfold D.setP;rw[c];exact z
def A7(ds:Ds)(i:Nat)(p:List Nat):Option D:=match ds[i]? with
 | some d=>d.getP p
 | none=>none
def Be(ds:Ds)(i:Nat)(p:List Nat)(x:D):Ds:=match ds[i]? with
 | some d=>ds.set i (d.setP p x)
 | none=>ds
theorem qai0{p:List Nat}{d:D}(h:D.getP .u p=some d):p=[]/\d=.u:=by
 cases p with
 | nil=>cases h;exact⟨rfl,rfl⟩
 | cons n p=>cases (show (none:Option D)=some _ from h)
theorem Locs.place{σ:List (Option V)}{ds:Ds}{A:List γ}{p:List Nat}{d:D}(L:Locs F H σ ds A)(h:A7 ds i p=some d)(g:d≠.u):∃(u w:V)(B C:List γ),σ[i]? = some (some u)/\Walk H u p w/\Lx F H w d B/\(∀ b,A.count b=B.count b+C.count b) /\
   ∀{F':γ->Prop}{H':Hp}{W:γ->Prop}(d':D)(B':List γ),Kp F H W F' H'->(∀ b∈C,¬ W b)->Lx F' H' w d' B'->∃ A':List γ,Locs F' H' σ (Be ds i p d') A'/\∀ b,A'.count b=B'.count b+C.count b:=by
 unfold A7 at h;cases c:ds[i]? with
 | none=>rw[c] at h;cases h
 | some J =>
   rw[c] at h;obtain⟨σ1,o,σ2,j,l,A1,B0,A2,f,e2,m,n,q,s,t,v⟩:=L.split c;cases t with
   | no=>exact absurd (qai0 h).2 g
   | @so u _ _ r =>
     obtain⟨w,B,C,x,y,z,E⟩:=r.path h;refine⟨u,w,B,A1++(C++A2),by rw[f];exact qD3 m,x,y,λ b=>by rw[q];simp only[zA0,z];lia,λ{F' H' W} d' B' k e G=>?_⟩;obtain⟨A',I,q2⟩:=E d' B' k (λ b a=>e b (zAb.mpr (.inr (zAb.mpr (.inl a))))) G;refine⟨A1++(A'++A2),?_,λ b=>by simp only[zA0,q2];lia⟩;unfold Be;rw[c,f];dsimp only;rw[e2,qo6 n];exact(s.keep k λ b a=>e b (zAb.mpr (.inl a))).append (.so I (v.keep k λ b a=>e b (zAb.mpr (.inr (zAb.mpr (.inr a))))))
theorem Lnk.fn{u:V}(h:Lnk H u n v)(h':Lnk H u n w):v=w:=by
 obtain⟨a,rfl,h⟩:=h;obtain⟨b,e,h'⟩:=h';cases e;rcases h with⟨vs,e,h⟩ | ⟨vs,e,h⟩ | ⟨vs,e,h⟩ | ⟨C,dx,vs,e,h⟩<;>rcases h' with⟨vs',e',h'⟩ | ⟨vs',e',h'⟩ | ⟨vs',e',h'⟩ | ⟨C',dx',vs',e',h'⟩<;>rw[e] at e'<;>cases e'<;>rw[h] at h'<;>exact Option.some.inj h'
theorem Walk.fn:∀{p:List Nat}{u v w:V},Walk H u p v->Walk H u p w->v=w
 | [],_,_,_,h,h'=>h.symm.trans h'
 | n::p,_,_,_,⟨x,h1,h2⟩,⟨y,h3,h4⟩=>by
   cases h1.fn h3;exact Walk.fn h2 h4
theorem Lnk.same{u:V}(h:Lnk H u n v)(s:Same H H'):Lnk H' u n v:=by
 obtain⟨a,rfl,h⟩:=h;refine⟨a,rfl,?_⟩;rcases h with⟨vs,e,h⟩ | ⟨vs,e,h⟩ | ⟨vs,e,h⟩ | ⟨C,dx,vs,e,h⟩
 . exact .inl ⟨vs,s _ _ e,h⟩
 . exact .inr (.inl ⟨vs,s _ _ e,h⟩)
 . exact .inr (.inr (.inl ⟨vs,s _ _ e,h⟩))
 exact .inr (.inr (.inr ⟨C,dx,vs,s _ _ e,h⟩))
theorem Walk.same:∀{p:List Nat}{u v:V},Walk H u p v->Same H H'->Walk H' u p v
 | [],_,_,h,_=>h
 | n::p,_,_,⟨x,h1,h2⟩,s=>⟨x,h1.same s,h2.same s⟩
end
section
variable{c:Vc}{X:Cx}{b:Expr}{nw:Bool}{r:R2}{g:D->D->Option D}{tb:VT}
def t2n(g:D->D->Option D)(i:Nat)(tb:VT):VT:=λ ds Q xe=>(rdN i ds).isSome=true/\tb ds (λ y ds1=>orF ((rdN i ds1).bind λ x=>g x y) λ d=>Q d ds1) xe
theorem qaw8(h:VE c X b tb):∀ ds (Q Q':DK) (xe e:XKd),(∀ d a,Q d a->Q' d a)->(∀ x a,xe x a->e x a)->t2n g i tb ds Q xe->t2n g i tb ds Q' e :=
 λ ds Q Q' xe e j k=>And.imp_right (h.m _ _ _ _ _ (λ d f=>qa5 λ z=>j z f) k)
theorem L5.name{F:γ->Prop}{H:Hp}{σ:St}{ds:Ds}{A:List γ}{d:D}(S:L5 c F H σ ds A)(hi:i < σ.length)(h:rdN i ds=some d):∃ v B,σ[i]? = some (some v)/\Lx F H v d B/\∀ b,B.count b<=A.count b :=
 let ⟨e,k⟩:=ql0.mp h
 S.at hi e k
theorem op_ne{σ:St}{H:Hp}(o:VE c X b tb)(h:A5 true r g)(hi:i < σ.length)(q:Bh c (t2n g i tb) σ H Q):tOp r (Fx i) (Bh c tb) σ H Q:=by
 obtain⟨F,p,A,s,S,x,t,q⟩:=q;obtain⟨L,e⟩:=zAv.mp t;obtain⟨v,B0,n,_,_⟩:=S.name hi e;refine⟨v,n,F,p,A,s,S,x,o.m _ _ _ _ _ (λ C D q w H1 F1 T A1 E S1 M G=>?_) (λ _ _ z=>z) q⟩;have f:Lz F H A F1 H1 A1:=G.count λ b=>by rw[zA0];lia
 obtain⟨d,j,q⟩:=qa7.mp q;obtain⟨y,I,j⟩:=zA1.mp j;obtain⟨N,B,a,J,_⟩:=S1.name hi I;rw[n] at a;cases a;refine h F1 H1 v w y C _ d Q (F5 J E) j λ u H3 B3 K k l=>?_
 rw[if_pos rfl] at l;exact q u H3 F1 B3 A1 K (S1.same k) (S1.new l k) (f.trans (l.stp k))
def t2nP(g:D->D->Option D)(i:Nat)(tb:VT):VT:=λ ds Q xe=>(rdN i ds).isSome=true/\tb ds (λ y ds1=>orF ((rdN i ds1).bind λ x=>g x y) λ d=>d.imm=true/\Q d ds1) xe
theorem qal5(h:VE c X b tb):∀ ds (Q Q':DK) (xe e:XKd),(∀ d a,Q d a->Q' d a)->(∀ x a,xe x a->e x a)->t2nP g i tb ds Q xe->t2nP g i tb ds Q' e :=
 λ ds Q Q' xe e j k=>And.imp_right (h.m _ _ _ _ _ (λ d f=>qa5 λ z=>And.imp_right (j z f)) k)
theorem qaS8{σ:St}{H:Hp}(o:VE c X b tb)(h:A5 nw r g)(hi:i < σ.length)(q:Bh c (t2nP g i tb) σ H Q):tOp r (Fx i) (Bh c tb) σ H Q:=by
 obtain⟨F,p,A,s,S,x,t,q⟩:=q;obtain⟨L,e⟩:=zAv.mp t;obtain⟨v,B0,l,_,_⟩:=S.name hi e;refine⟨v,l,F,p,A,s,S,x,o.m _ _ _ _ _ (λ C D q w H1 F1 T A1 E S1 M G=>?_) (λ _ _ z=>z) q⟩;have f:Lz F H A F1 H1 A1:=G.count λ b=>by rw[zA0];lia
 obtain⟨d,j,I,q⟩:=qa7.mp q;obtain⟨y,J,j⟩:=zA1.mp j;obtain⟨N,B,a,K,_⟩:=S1.name hi J;rw[l] at a;cases a;refine h F1 H1 v w y C _ d Q (F5 K E) j λ u H3 B3 n k O=>?_
 have:=n.imm I
 subst this;exact q u H3 F1 [] A1 n (S1.same k) (S1.ok.same k) (f.trans (.same k))
end
section
variable{F:γ->Prop}{H:Hp}{K:W.Frag}
theorem Lx.lst_inv{ds:List D}{B:List γ}(r:Lx F H v (.l z ds) B):∃ a vs A,v=.ref a/\H a=some (.l vs)/\Lp F H vs ds A/\∀ b,A.count b<=B.count b:=by
 cases r with
 | l h r=>exact⟨_,_,_,rfl,h,r,λ b=>by rw[zAn];lia⟩
 | lstZ h f r=>exact⟨_,_,_,rfl,h,r,λ b=>zA6 _⟩
theorem Lx.tup_inv{ds:List D}{B:List γ}(r:Lx F H v (.q ds) B):∃ a vs,v=.ref a/\H a=some (.q vs)/\Lp F H vs ds B:=by
 cases r with
 | q h r=>exact⟨_,_,rfl,h,r⟩
theorem Lx.dct_inv{c:List (Key×D)}{B:List γ}(r:Lx F H v (.dct z c) B):∃ a kvs A,v=.ref a/\H a=some (.dK kvs)/\kvs.map (·.1)=c.map (·.1)/\Lp F H (kvs.map (·.2)) (c.map (·.2)) A/\∀ b,A.count b<=B.count b:=by
 cases r with
 | dct h e r=>exact⟨_,_,_,rfl,h,e,r,λ b=>by rw[zAn];lia⟩
 | dctZ h f e r=>exact⟨_,_,_,rfl,h,e,r,λ b=>zA6 _⟩
theorem Lx.ins_inv{C:γ}{c:List (Str×D)}{B:List γ}(r:Lx F H v (.ins z C c) B):∃ a dx d A,v=.ref a/\H a=some (.ins C dx d)/\d.map (·.1)=c.map (·.1)/\Lp F H (d.map (·.2)) (c.map (·.2)) A/\∀ b,A.count b<=B.count b:=by
 cases r with
 | ins h e r=>exact⟨_,_,_,_,rfl,h,e,r,λ b=>by rw[zAn];lia⟩
 | insZ h f e r=>exact⟨_,_,_,_,rfl,h,e,r,λ b=>zA6 _⟩
noncomputable def D.elems:D->Option Ds
 | .l _ ds=>some ds
 | .q ds=>some ds
 | _=>none
theorem Lx.elems{d:D}{ds:Ds}{B:List γ}(r:Lx F H v d B)(h:d.elems=some ds):∃ a vs A,v=.ref a/\(SqL K H a vs∨SqT K H a vs)/\Lp F H vs ds A/\∀ b,A.count b<=B.count b:=by
 cases d with
 | l z c=>cases h;obtain⟨a,vs,A,e,h,r,q⟩:=r.lst_inv;exact⟨a,vs,A,e,.inl (.inl (.inl h)),r,q⟩
 | q c=>cases h;obtain⟨a,vs,e,h,r⟩:=r.tup_inv;exact⟨a,vs,_,e,.inr (.inl (.inl h)),r,λ _=>zA6 _⟩
 | _=>cases h
theorem Lp.len{ds:List D}{A:List γ}(r:Lp F H vs ds A):vs.length=ds.length:=by
 induction vs generalizing ds A with
 | nil=>cases r;rfl
 | cons v vs a=>cases r with | cons h t=>simp[a t]
theorem qg7{p:γ}(a:H p=none):New H [p]:=⟨λ b=>by rw[zAn];simp;split<;>lia,λ b o e=>by
 have:b≠p:=λ z=>by rw[z,a] at e;cases e
 simp[zAn,Ne.symm this]⟩
theorem qy7{p:γ}{ds:Ds}(a:H p=none)(r:Lp F H vs ds []):Lx F (upd H p (.l vs)) (.ref p) (.l false ds) [p]:=.l qb3 (r.same (Same.new a))
theorem qaf3{p:γ}{ds:Ds}{A:List γ}(a:H p=none)(r:Lp F H vs ds A):Lx F (upd H p (.q vs)) (.ref p) (.q ds) A:=.q qb3 (r.same (Same.new a))
theorem Lp.get{ds:List D}{A:List γ}{d:D}(r:Lp F H vs ds A)(h:ds[n]? = some d):∃ w B,vs[n]? = some w/\Lx F H w d B/\∀ b,B.count b<=A.count b:=by
 obtain⟨w,B,C,a,c,e,_⟩:=r.kid h;exact⟨w,B,a,c,λ b=>by have:=e b;lia⟩
theorem Lp.atI{ds:List D}{A:List γ}{i:Int}{d:D}(r:Lp F H vs ds A)(h:L2.atI ds i=some d):∃ w B,L2.atI vs i=some w/\Lx F H w d B/\∀ b,B.count b<=A.count b:=by
 unfold L2.atI at h ⊢;rw[r.len];cases e:ixN ds.length i with
 | none=>rw[e] at h;cases h
 | some j =>
   rw[e] at h;exact r.get h
theorem Lp.sub{ds:List D}{A:List γ}(r:Lp F H vs ds A)(n m:Nat):∃ B,Lp F H ((vs.drop n).take m) ((ds.drop n).take m) B/\∀ b,B.count b<=A.count b:=by
 induction n generalizing vs ds A with
 | zero =>
   induction m generalizing vs ds A with
   | zero=>exact⟨[],.nil,λ b=>by simp⟩
   | succ m a =>
     cases r with
     | nil=>exact⟨[],.nil,λ b=>by simp⟩
     | cons h t =>
       obtain⟨B,c,q2⟩:=a t;exact⟨_,.cons h (by simpa using c),λ b=>by simp only[zA0];have:=q2 b;lia⟩
 | succ n a =>
   cases r with
   | nil=>exact⟨[],by simpa using Lp.nil,λ b=>by simp⟩
   | cons h t =>
     obtain⟨B,c,q2⟩:=a t;exact⟨B,by simpa using c,λ b=>by simp only[zA0];have:=q2 b;lia⟩
noncomputable def D.flat:D->Option V
 | .non=>some .non
 | .bl b=>some (.bl b)
 | .int i=>some (.int i)
 | .str x=>some (.str x)
 | _=>none
theorem Lx.flat{d:D}{B:List γ}(r:Lx F H v d B)(h:d.flat=some w):v=w/\flatV v=true:=by
 cases r<;>cases h<;>exact⟨rfl,rfl⟩
end
noncomputable def big:Nat:=1000000
theorem qi2:big<=Kq:=by decide
section
variable{F:γ->Prop}{H:Hp}
theorem Lp.imms0{ds:Ds}{A:List γ}(r:Lp F H vs ds A)(h:D.imms ds=true):Lp F H vs ds []:=by
 have:=r.imms h
 subst this;exact r
theorem Lp.rep{ds:Ds}(r:Lp F H vs ds []):∀ k:Nat,Lp F H (List.replicate k vs).flatten (List.replicate k ds).flatten []
 | 0=>.nil
 | k+1=>by
   rw[zBi,zBi,zBx,zBx];exact r.append (B:=[]) (r.rep k)
end
noncomputable def gd(p:Prop)[Decidable p](d:D):Option D:=if p then some d else none
theorem qt3{p:Prop}[Decidable p]{d e:D}(h:gd p d=some e):p/\d=e:=by
 unfold gd at h;split at h
 . rename_i hp;exact⟨hp,Option.some.inj h⟩
 cases h
theorem ql4{p:Prop}[Decidable p]{d:D}(h:p):gd p d=some d:=if_pos h
def Ij:D->D->Option D
 | .int i,.int j=>some (.int (i+j))
 | .str a,.str b=>gd (a.length+b.length<=big) (.str (a++b))
 | .l _ xs,.l _ ys=>gd (D.imms xs=true/\D.imms ys=true/\xs.length+ys.length<=big) (.l false (xs++ys))
 | _,_=>none
def rAddA:R2:=λ x y H Q=>rI0 (λ i j=>.int (i+j)) x y H Q∨(∃ i j,x=.str i/\y=.str j/\i.length+j.length<=Kq/\Q (.str (i++j)) H)∨rCat x y H Q
theorem qf4{X:Cx}:OpR X (Lb .Add) rAddA:=qaT5.or (qae8.or qaT4)
theorem qf3:A5 true rAddA Ij:=by
 intro F H v w x y B d Q r h q;cases r with | @cons _ _ A _ _ _ e t=>cases t with | @cons _ _ A2 _ _ _ f _ =>
 cases x with
 | int i =>
   cases y with
   | int j=>cases h;cases e;cases f;exact .inl ⟨i,j,rfl,rfl,q _ H [] (.int _) (λ _ _ z=>z) New.nil⟩
   | _=>cases h
 | str a =>
   cases y with
   | str b =>
     obtain⟨c,rfl⟩:=qt3 h;cases e;cases f;exact .inr (.inl ⟨a,b,rfl,rfl,zAp c qi2,q _ H [] (.str _) (λ _ _ z=>z) New.nil⟩)
   | _=>cases h
 | l z s =>
   cases y with
   | l u C =>
     obtain⟨c,rfl⟩:=qt3 h;obtain⟨a,l,_,rfl,m,k,_⟩:=e.lst_inv;obtain⟨b,n,_,rfl,o,q2,_⟩:=f.lst_inv;refine .inr (.inr ⟨a,b,l,n,rfl,rfl,m,o,by rw[k.len,q2.len];exact zAp c.2.2 qi2,λ p g=>?_⟩);exact q _ _ [p] (qy7 g ((k.imms0 c.1).append (q2.imms0 c.2.1))) (Same.new g) (qg7 g)
   | _=>cases h
 | _=>cases h
noncomputable def small(i:Int):Bool:=decide (-(2 ^ 64) < i)&&decide (i < 2 ^ 64)
theorem qS2{i:Int}(h:small i=true):-(2 ^ 64) < i/\i < 2 ^ 64:=by
 have:=zAh.mp h
 exact⟨zAc this.1,zAc this.2⟩
def Ik:D->D->Option D
 | .int i,.int j=>gd ((small i||small j)=true) (.int (i * j))
 | .l _ xs,.int k=>gd (D.imms xs=true/\xs.length * k.toNat<=big/\k < 1000000/\-1000000 < k) (.l false (List.replicate k.toNat xs).flatten)
 | _,_=>none
def rMulA:R2:=λ x y H Q=>rI CMul (λ i j=>.int (i * j)) x y H Q∨rRep x y H Q
theorem qy2{X:Cx}:OpR X (Lb .Mult) rMulA:=qaS9.or qaS6
theorem qy1:A5 true rMulA Ik:=by
 intro F H v w x y B d Q r h q;cases r with | @cons _ _ A _ _ _ e t=>cases t with | @cons _ _ A2 _ _ _ f _ =>
 cases x with
 | int i =>
   cases y with
   | int j =>
     obtain⟨b,rfl⟩:=qt3 h;cases e;cases f;refine .inl ⟨i,j,rfl,rfl,?_,q _ H [] (.int _) (λ _ _ z=>z) New.nil⟩;rcases Bool.or_eq_true_iff.mp b with h | h
     . exact .inl (qS2 h)
     exact .inr (qS2 h)
   | _=>cases h
 | l z n =>
   cases y with
   | int k =>
     obtain⟨b,rfl⟩:=qt3 h;obtain⟨a,l,_,rfl,m,g,_⟩:=e.lst_inv;cases f;refine .inr ⟨a,k,l,rfl,rfl,m,by lia,by lia,by rw[g.len];exact zAp b.2.1 qi2,λ p c=>?_⟩;exact q _ _ [p] (qy7 c ((g.imms0 b.1).rep _)) (Same.new c) (qg7 c)
   | _=>cases h
 | _=>cases h
def gI(p:Int->Int->Bool)(f:Int->Int->D):D->D->Option D
 | .int i,.int j=>gd (p i j=true) (f i j)
 | _,_=>none
theorem os_I{C:Int->Int->Prop}{p:Int->Int->Bool}{f:Int->Int->D}{fv:Int->Int->V}(a:∀ i j,p i j=true->C i j)(b:∀ F H i j,Lx F H (fv i j) (f i j) []):A5 true (rI C fv) (gI p f):=by
 intro F H v w x y B d Q r h q;cases r with | @cons _ _ A _ _ _ c t=>cases t with | @cons _ _ A2 _ _ _ e _ =>
 cases x with
 | int i =>
   cases y with
   | int j =>
     obtain⟨g,rfl⟩:=qt3 h;cases c;cases e;exact⟨i,j,rfl,rfl,a i j g,q _ H [] (b F H i j) (λ _ _ z=>z) New.nil⟩
   | _=>cases h
 | _=>cases h
theorem Gs{f:Int->Int->D}{fv:Int->Int->V}(a:∀ F H i j,Lx F H (fv i j) (f i j) []):A5 true (rI0 fv) (gI (λ _ _=>true) f):=by
 intro F H v w x y B d Q r h q;obtain⟨i,j,b,c,_,e⟩:=os_I (C:=λ _ _=>True) (fv:=fv) (λ _ _ _=>trivial) a F H v w x y B d Q r h q;exact⟨i,j,b,c,e⟩
def gSub:=gI (λ _ _=>true) λ i j=>.int (i - j)
def gDiv:=gI (λ _ j=>decide (0 < j)&&decide (j < 2 ^ 200)) λ i j=>.int (i / j)
def Il:=gI (λ _ j=>decide (0 < j)) λ i j=>.int (i % j)
def gLt:=gI (λ _ _=>true) λ i j=>.bl (decide (i < j))
def gLe:=gI (λ _ _=>true) λ i j=>.bl (decide (i<=j))
def gGt:=gI (λ _ _=>true) λ i j=>.bl (decide (j < i))
def gGe:=gI (λ _ _=>true) λ i j=>.bl (decide (j<=i))
theorem qu6:A5 true (rI0 λ i j=>.int (i - j)) gSub:=Gs λ _ _ _ _=>.int _
theorem qan2:A5 true (rI CDivB λ i j=>.int (i / j)) gDiv:=os_I (λ i j h=>by
 have:=zAh.mp h
 exact⟨zAc this.1,zAc this.2⟩) λ _ _ _ _=>.int _
theorem qn1:A5 true (rI (λ _ j=>0 < j) λ i j=>.int (i % j)) Il:=os_I (λ i j h=>zAc h) λ _ _ _ _=>.int _
theorem Ho:A5 true (rI0 λ i j=>.bl (decide (i < j))) gLt:=Gs λ _ _ _ _=>.bl _
theorem os_le:A5 true (rI0 λ i j=>.bl (decide (i<=j))) gLe:=Gs λ _ _ _ _=>.bl _
theorem B9:A5 true (rI0 λ i j=>.bl (decide (j < i))) gGt:=Gs λ _ _ _ _=>.bl _
theorem Jo:A5 true (rI0 λ i j=>.bl (decide (j<=i))) gGe:=Gs λ _ _ _ _=>.bl _
noncomputable def D.isN:D->Option Bool
 | .non=>some true
 | .u=>none
 | .hole _=>none
 | _=>some false
theorem Lx.isN{F:γ->Prop}{H:Hp}{d:D}{B:List γ}{b:Bool}(r:Lx F H v d B)(h:d.isN=some b):decide (v=.non)=b:=by
 cases r<;>cases h<;>rfl
def gIs:D->D->Option D
 | x,.non=>x.isN.map .bl
 | .bl a,.bl b=>some (.bl (a == b))
 | _,_=>none
def rIs:R2:=λ x y H Q=>(y=.non/\Q (.bl (decide (x=.non))) H)∨(∃ b c,x=.bl b/\y=.bl c/\Q (.bl (b == c)) H)
theorem Ex:A5 true rIs gIs:=by
 intro F H v w x y B d Q r h q;cases r with | @cons _ _ A _ _ _ c t=>cases t with | @cons _ _ A2 _ _ _ f _ =>
 cases y with
 | non =>
   cases f;have h:x.isN.map D.bl=some d:=by cases x<;>exact h
   cases e:x.isN with
   | none=>rw[e] at h;cases h
   | some b =>
     rw[e] at h;cases h;refine .inl ⟨rfl,?_⟩;rw[c.isN e];exact q _ H [] (.bl _) (λ _ _ z=>z) New.nil
 | bl b =>
   cases x with
   | bl a=>cases h;cases c;cases f;exact .inr ⟨a,b,rfl,rfl,q _ H [] (.bl _) (λ _ _ z=>z) New.nil⟩
   | _=>cases h
 | _=>cases x<;>cases h
theorem Ey{X:Cx}:OpR X (Kr .Is) rIs:=qaT0.or qaT1
theorem qaK0{X:Cx}:OpR X (Kr .IsNot) (λ x y H Q=>∃ b c,x=.bl b/\y=.bl c/\Q (.bl (b != c)) H):=by
 intro E3 s σ H x y v u Q I a d ⟨b,c,e,e2,q⟩;subst e;subst e2;cases a;cases d;exact PyProof.Rows.isnot_bool ⟨.bl (b != c),H,I,rfl,q⟩
def gIsn:D->D->Option D
 | x,.non=>x.isN.map λ b=>.bl (!b)
 | .bl a,.bl b=>some (.bl (a != b))
 | _,_=>none
def rIsn:R2:=λ x y H Q=>(y=.non/\Q (.bl (!decide (x=.non))) H)∨(∃ b c,x=.bl b/\y=.bl c/\Q (.bl (b != c)) H)
theorem qs6:A5 true rIsn gIsn:=by
 intro F H v w x y B d Q r h q;cases r with | @cons _ _ A _ _ _ c t=>cases t with | @cons _ _ A2 _ _ _ f _ =>
 cases y with
 | non =>
   cases f;have h:x.isN.map (λ b=>D.bl (!b))=some d:=by cases x<;>exact h
   cases e:x.isN with
   | none=>rw[e] at h;cases h
   | some b =>
     rw[e] at h;cases h;refine .inl ⟨rfl,?_⟩;rw[c.isN e];exact q _ H [] (.bl _) (λ _ _ z=>z) New.nil
 | bl b =>
   cases x with
   | bl a=>cases h;cases c;cases f;exact .inr ⟨a,b,rfl,rfl,q _ H [] (.bl _) (λ _ _ z=>z) New.nil⟩
   | _=>cases h
 | _=>cases x<;>cases h
theorem qn2{X:Cx}:OpR X (Kr .IsNot) rIsn:=qaJ9.or qaK0
noncomputable def E6(f:D->D->Option Bool):List D->List D->Option Bool
 | [],[]=>some true
 | x::xs,y::ys=>(f x y).bind λ a=>(E6 f xs ys).bind λ b=>some (a&&b)
 | _,_=>some false
def eqF(x y:D):Option Bool:=match x.flat,y.flat with
 | some v,some w=>some (eqV v w)
 | _,_=>none
noncomputable def D.d0:D->Bool
 | .dct _ []=>true
 | _=>false
def eqZ(x y:D):Option Bool:=if (x.d0&&y.d0)=true then some true else eqF x y
def eqN:Nat->D->D->Option Bool
 | n+1,.l _ xs,.l _ ys=>E6 (eqN n) xs ys
 | n+1,.q xs,.q ys=>E6 (eqN n) xs ys
 | _,x,y=>eqZ x y
theorem qz8{f:D->D->Option Bool}:∀{xs ys:List D}{b:Bool},E6 f xs ys=some b->∃ e:Nat->Bool,(∀ i x y,xs[i]? = some x->ys[i]? = some y->f x y=some (e i))/\b=((List.range (min xs.length ys.length)).all e&&xs.length == ys.length)
 | [],[],b,h=>by cases h;exact⟨λ _=>true,λ i x y h=>by simp at h,by simp⟩
 | [],y::ys,b,h=>by cases h;exact⟨λ _=>true,λ i x y h=>by simp at h,by simp⟩
 | x::xs,[],b,h=>by cases h;exact⟨λ _=>true,λ i x y _ h=>by simp at h,by simp⟩
 | x::xs,y::ys,b,h=>by
   obtain⟨a,k,h⟩:=zA1.mp h;obtain⟨o,l,h⟩:=zA1.mp h;cases h;obtain⟨e,m,q2⟩:=qz8 l;refine⟨λ i=>match i with | 0=>a | i+1=>e i,λ i c d g j=>?_,?_⟩
   . cases i with
     | zero =>
       have n:x=c:=by simpa using g
       have e2:y=d:=by simpa using j
       subst n;subst e2;exact k
     | succ i=>exact m i c d (by simpa using g) (by simpa using j)
   rw[q2,zAi,zAi,Nat.add_min_add_right,List.range_succ_eq_map,List.all_cons,List.all_map];show _=(_&&_&&_)
   have:(xs.length+1 == ys.length+1)=(xs.length == ys.length):=by
     by_cases h:xs.length=ys.length
     . simp[h]
     simp[h]
   rw[this,<- Bool.and_assoc];rfl
section
variable{F:γ->Prop}{H:Hp}
theorem Lx.eqF{x y:D}{A B:List γ}{b:Bool}(r1:Lx F H v x A)(c:Lx F H w y B)(h:LV.eqF x y=some b):flatV v=true/\flatV w=true/\eqV v w=b:=by
 unfold LV.eqF at h;cases a:x.flat with
 | none=>rw[a] at h;cases h
 | some d =>
   cases e2:y.flat with
   | none=>rw[a,e2] at h;cases h
   | some e =>
     rw[a,e2] at h;obtain⟨rfl,f1⟩:=r1.flat a;obtain⟨rfl,f2⟩:=c.flat e2;exact⟨f1,f2,Option.some.inj h⟩
theorem Lx.d0{x:D}{A:List γ}(r:Lx F H v x A)(h:x.d0=true):∃ a,v=.ref a/\H a=some (.dK []):=by
 cases x with
 | dct z b =>
   cases b with
   | nil =>
     cases r with
     | dct e q _=>exact⟨_,rfl,by rw[e,List.map_eq_nil_iff.mp q]⟩
     | dctZ e _ q _=>exact⟨_,rfl,by rw[e,List.map_eq_nil_iff.mp q]⟩
   | cons=>cases h
 | _=>cases h
theorem Lx.eqZ{x y:D}{A B:List γ}{b:Bool}(r1:Lx F H v x A)(d:Lx F H w y B)(h:LV.eqZ x y=some b):(flatV v=true/\flatV w=true/\eqV v w=b)∨(b=true/\∃ a c,v=.ref a/\w=.ref c/\H a=some (.dK [])/\H c=some (.dK [])):=by
 unfold LV.eqZ at h;split at h
 . rename_i hd
   obtain⟨e,f⟩:=zAh.mp hd;obtain⟨a,g,i⟩:=r1.d0 e;obtain⟨c,e2,q2⟩:=d.d0 f;cases h;exact .inr ⟨rfl,a,c,g,e2,i,q2⟩
 exact .inl (r1.eqF d h)
theorem qV5(n:Nat)(x y:D):(eqN (n+1) x y=LV.eqZ x y)∨(∃ z xs z' ys,x=.l z xs/\y=.l z' ys)∨∃ xs ys,x=.q xs/\y=.q ys:=by
 cases x with
 | l z xs=>cases y with
   | l z' ys=>exact .inr (.inl ⟨_,_,_,_,rfl,rfl⟩)
   | _=>exact .inl rfl
 | q xs=>cases y with
   | q ys=>exact .inr (.inr ⟨_,_,rfl,rfl⟩)
   | _=>exact .inl rfl
 | _=>exact .inl rfl
theorem qQ8(x y:D):eqN 0 x y=LV.eqZ x y:=by cases x<;>cases y<;>rfl
theorem qV6(f:∀{v:V}{x y:D}{A B:List γ}{b:Bool},Lx F H v x A->Lx F H v y B->eqN n x y=some b->b=true):∀{vs:List V}{xs ys:List D}{A B:List γ}{b:Bool},Lp F H vs xs A->Lp F H vs ys B->E6 (eqN n) xs ys=some b->b=true:=by
 intro vs
 induction vs with
 | nil=>intro xs ys A B b c d h;cases c;cases d;cases h;rfl
 | cons v vs e =>
   intro xs ys A B b c d h;cases c with | cons g t1=>cases d with | cons i t2 =>
   obtain⟨a,j,h⟩:=zA1.mp h;obtain⟨l,k,h⟩:=zA1.mp h;cases h;rw[f g i j,e t1 t2 k];rfl
theorem qai8:∀{n:Nat}{v:V}{x y:D}{A B:List γ}{b:Bool},Lx F H v x A->Lx F H v y B->eqN n x y=some b->b=true:=by
 intro n
 induction n with
 | zero =>
   intro v x y A B b c d h;rw[qQ8] at h;rcases c.eqZ d h with⟨f1,f2,rfl⟩ | ⟨rfl,_⟩
   . exact qz7 f1
   rfl
 | succ n k =>
   intro v x y A B b c d h;rcases qV5 n x y with e | ⟨z,l,q,m,rfl,rfl⟩ | ⟨l,m,rfl,rfl⟩
   . rw[e] at h
     rcases c.eqZ d h with⟨f1,f2,rfl⟩ | ⟨rfl,_⟩
     . exact qz7 f1
     rfl
   . obtain⟨a,o,_,rfl,g,i,_⟩:=c.lst_inv
     obtain⟨p,j,_,e,f,q2,_⟩:=d.lst_inv;cases e;rw[g] at f;cases f;exact qV6 k i q2 h
   obtain⟨a,o,rfl,g,i⟩:=c.tup_inv;obtain⟨p,j,e,f,q2⟩:=d.tup_inv;cases e;rw[g] at f;cases f;exact qV6 k i q2 h
theorem Lp.getV{ds:List D}{A:List γ}(r:Lp F H vs ds A)(h:vs[n]? = some w):∃ d B,ds[n]? = some d/\Lx F H w d B:=by
 have c:=r.len;have e:n < vs.length:=(zA5.mp h).1;obtain⟨f,B,a,b,_⟩:=r.get (n:=n) (d:=ds[n]'(by lia)) (by simp);rw[h] at a;cases a;exact⟨_,B,by simp,b⟩
theorem qV3{x y:D}{A B:List γ}{b:Bool}(r1:Lx F H v x A)(d:Lx F H w y B)(h:LV.eqZ x y=some b):EqD H n v w b:=by
 rcases r1.eqZ d h with⟨f1,f2,rfl⟩ | ⟨rfl,a,a',rfl,rfl,q1,q2⟩
 . exact .flat f1 f2
 by_cases c:a=a'
 . subst c;exact .same a
 exact .dcts c q1 q2
theorem qV4:∀{n:Nat}{v w:V}{x y:D}{A B:List γ}{b:Bool},Lx F H v x A->Lx F H w y B->eqN n x y=some b->EqD H n v w b:=by
 intro n
 induction n with
 | zero =>
   intro v w x y A B b c d h;rw[qQ8] at h;exact qV3 c d h
 | succ n I =>
   intro v w x y A B b c d h;rcases qV5 n x y with e | ⟨z,J,L,K,rfl,rfl⟩ | ⟨J,K,rfl,rfl⟩
   . rw[e] at h
     exact qV3 c d h
   . obtain⟨a,m,_,rfl,k,g,_⟩:=c.lst_inv
     obtain⟨o,r,_,rfl,l,q2,_⟩:=d.lst_inv;by_cases f:a=o
     . subst f
       cases qai8 (n:=n+1) c d h;exact .same a
     obtain⟨e,s,rfl⟩:=qz8 h;rw[<- g.len,<- q2.len];by_cases j:m.length=r.length
     . rw[j,Nat.min_self,zB3,Bool.and_true,<- j]
       refine .lsts f k l j λ i p q t e2=>?_
       obtain⟨x,_,u,C⟩:=g.getV t;obtain⟨y,_,E,G⟩:=q2.getV e2;exact I C G (s i x y u E)
     have:(m.length == r.length)=false:=by simpa using j
     rw[this,Bool.and_false];exact .lens f k l j
   obtain⟨a,m,rfl,k,g⟩:=c.tup_inv;obtain⟨o,r,rfl,l,q2⟩:=d.tup_inv;by_cases f:a=o
   . subst f
     cases qai8 (n:=n+1) c d h;exact .same a
   obtain⟨e,s,rfl⟩:=qz8 h;rw[<- g.len,<- q2.len];refine .tups f k l λ i p q t e2=>?_
   obtain⟨x,_,u,C⟩:=g.getV t;obtain⟨y,_,E,G⟩:=q2.getV e2;exact I C G (s i x y u E)
end
def eqT:D->D->Option Bool
 | .l _ xs,.l _ ys=>E6 (eqN 20) xs ys
 | .q xs,.q ys=>E6 (eqN 20) xs ys
 | .l _ _,.q _=>some false
 | .q _,.l _ _=>some false
 | .l _ _,y=>y.flat.map λ _=>false
 | .q _,y=>y.flat.map λ _=>false
 | x,.l _ _=>x.flat.map λ _=>false
 | .dct _ _,.q _=>some false
 | x,.q _=>x.flat.map λ _=>false
 | x,y=>eqZ x y
theorem Lx.flatV{F:γ->Prop}{H:Hp}{d:D}{B:List γ}{b:Bool}(r:Lx F H v d B)(h:(d.flat.map λ _=>false)=some b):L2.flatV v=true/\b=false:=by
 cases e:d.flat with
 | none=>rw[e] at h;cases h
 | some w=>rw[e] at h;cases h;exact⟨(r.flat e).2,rfl⟩
theorem Lx.rc{F:γ->Prop}{H:Hp}{x y:D}{A B:List γ}{b:Bool}(r1:Lx F H v x A)(d:Lx F H w y B)(h:eqT x y=some b):RcD H v w b:=by
 have flat:LV.eqZ x y=some b->RcD H v w b:=λ h=>by
   rcases r1.eqZ d h with⟨f1,f2,rfl⟩ | ⟨rfl,a,k,rfl,rfl,l,q2⟩
   . exact .flat f1 f2
   exact .dcts l q2
 cases x with
 | l z G =>
   obtain⟨a,o,_,rfl,g,l,_⟩:=r1.lst_inv;cases y with
   | l J m =>
     obtain⟨k,j,_,rfl,c,q2,_⟩:=d.lst_inv;obtain⟨e,r,rfl⟩:=qz8 h;rw[<- l.len,<- q2.len];by_cases n:o.length=j.length
     . rw[n,Nat.min_self,zB3,Bool.and_true,<- n]
       refine .lsts g c n λ i p q s e2=>?_
       obtain⟨x,_,t,u⟩:=l.getV s;obtain⟨y,_,C,E⟩:=q2.getV e2;exact qV4 u E (r i x y t C)
     have:(o.length == j.length)=false:=by simpa using n
     rw[this,Bool.and_false];exact .lens g c n
   | q m=>obtain⟨k,j,rfl,c,q2⟩:=d.tup_inv;cases h;exact .lt g c
   | _=>obtain⟨f,rfl⟩:=d.flatV h;exact .lf g f
 | q G =>
   obtain⟨a,o,rfl,g,l⟩:=r1.tup_inv;cases y with
   | q m =>
     obtain⟨k,j,rfl,c,q2⟩:=d.tup_inv;obtain⟨e,r,rfl⟩:=qz8 h;rw[<- l.len,<- q2.len];refine .tups g c λ i p q s e2=>?_
     obtain⟨x,_,t,u⟩:=l.getV s;obtain⟨y,_,C,E⟩:=q2.getV e2;exact qV4 u E (r i x y t C)
   | l z m=>obtain⟨k,j,_,rfl,c,q2,_⟩:=d.lst_inv;cases h;exact .tl g c
   | _=>obtain⟨f,rfl⟩:=d.flatV h;exact .tf g f
 | dct z I =>
   cases y with
   | l z m=>cases h
   | q m =>
     obtain⟨k,j,rfl,c,q2⟩:=d.tup_inv;cases h;cases r1 with
     | dct e _ _=>exact .dt e c
     | dctZ e _ _ _=>exact .dt e c
   | _=>exact flat h
 | _ =>
   cases y with
   | l z m=>obtain⟨k,j,_,rfl,c,q2,_⟩:=d.lst_inv;obtain⟨f,rfl⟩:=r1.flatV h;exact .fl c f
   | q m=>obtain⟨k,j,rfl,c,q2⟩:=d.tup_inv;obtain⟨f,rfl⟩:=r1.flatV h;exact .ft c f
   | _=>exact flat h
def gEq(x y:D):Option D:=(eqT x y).map .bl
def gNe(x y:D):Option D:=(eqT x y).map λ b=>.bl (!b)
theorem Bl:A5 true rEqD gEq:=by
 intro F H v w x y B d Q r h q;cases r with | @cons _ _ A _ _ _ a t=>cases t with | @cons _ _ A2 _ _ _ c _ =>
 obtain⟨b,e,rfl⟩:=zAf.mp h;exact⟨b,a.rc c e,q _ H [] (.bl _) (λ _ _ z=>z) New.nil⟩
theorem Ef:A5 true rNeD gNe:=by
 intro F H v w x y B d Q r h q;cases r with | @cons _ _ A _ _ _ a t=>cases t with | @cons _ _ A2 _ _ _ c _ =>
 obtain⟨b,e,rfl⟩:=zAf.mp h;exact⟨b,a.rc c e,q _ H [] (.bl _) (λ _ _ z=>z) New.nil⟩
def flats:List D->Option (List V)
 | []=>some []
 | d::r=>d.flat.bind λ v=>(flats r).bind λ vs=>some (v::vs)
theorem Lp.flats{F:γ->Prop}{H:Hp}:∀{vs a:List V}{ds:List D}{A:List γ},Lp F H vs ds A->LV.flats ds=some a->vs=a/\vs.all L2.flatV=true
 | _,_,_,_,.nil,h=>by cases h;exact⟨rfl,rfl⟩
 | _,_,_,_,.cons r t,h=>by
   obtain⟨v,b,h⟩:=zA1.mp h;obtain⟨vs,c,h⟩:=zA1.mp h;cases h;obtain⟨rfl,f⟩:=r.flat b;obtain⟨rfl,g⟩:=t.flats c;exact⟨rfl,by rw[List.all_cons,f,g];rfl⟩
def Jp(neg:Bool)(x y:D):Option D:=x.flat.bind λ v=>y.elems.bind λ ys=>(flats ys).bind λ a=>some (.bl (if neg then !inV v a else inV v a))
theorem F8{K:W.Frag}{neg:Bool}:A5 true (rIn K neg) (Jp neg):=by
 intro F H v w x y B d Q r h q;cases r with | @cons _ _ A _ _ _ b t=>cases t with | @cons _ _ A2 _ _ _ c _ =>
 obtain⟨n,e,h⟩:=zA1.mp h;obtain⟨o,i,h⟩:=zA1.mp h;obtain⟨p,j,h⟩:=zA1.mp h;cases h;obtain⟨rfl,f⟩:=b.flat e;obtain⟨a,k,A3,rfl,l,m,_⟩:=c.elems (K:=K) i;obtain⟨rfl,g⟩:=m.flats j;exact⟨a,k,rfl,l,f,g,q _ H [] (.bl _) (λ _ _ z=>z) New.nil⟩
def gIx(x y:D):Option D:=match y with
 | .int i=>x.elems.bind λ ys=>atI ys i
 | _=>none
theorem Am{K:W.Frag}:A5 false (rIx K) gIx:=by
 intro F H v w x y B d Q r h q;cases r with | @cons _ _ A _ _ _ l t=>cases t with | @cons _ _ A2 _ _ _ m _ =>
 cases y with
 | int i =>
   obtain⟨u,n,h⟩:=zA1.mp h;cases m;obtain⟨a,j,A3,rfl,c,o,p⟩:=l.elems (K:=K) n;obtain⟨f,B',k,g,s⟩:=o.atI h;have e:=q f H B' g (λ _ _ z=>z) (by
     rw[if_neg (by decide)];exact λ b=>.inl (by rw[zA0];have:=s b;have:=p b;lia))
   rcases c with c | c
   . exact .inl ⟨a,j,i,f,rfl,rfl,c,k,e⟩
   exact .inr (.inl ⟨a,j,i,f,rfl,rfl,c,k,e⟩)
 | _=>cases h
section
variable{F:γ->Prop}{H:Hp}
theorem Lp.one_inv{x:D}{B:List γ}(r:Lp F H vs [x] B):∃ v,vs=[v]/\Lx F H v x B:=by
 cases r with | cons h t=>cases t;exact⟨_,rfl,by rw[zAe];exact h⟩
theorem Lp.two_inv{x y:D}{B:List γ}(r:Lp F H vs [x,y] B):∃ v w A C,vs=[v,w]/\Lx F H v x A/\Lx F H w y C/\∀ b,B.count b=A.count b+C.count b:=by
 cases r with | cons h t=>cases t with | cons a t=>cases t;exact⟨_,_,_,_,rfl,h,a,λ b=>by simp[zA0]⟩
end
noncomputable def fx1(g:D->Option D):Ds->Option D
 | [x]=>g x
 | _=>none
noncomputable def fx2(g:D->D->Option D):Ds->Option D
 | [x,y]=>g x y
 | _=>none
def CS1(nw:Bool)(r:List V->Hp->VK->Prop)(g:D->Option D):Prop:=∀ F H v x B d (Q:VK),Lx F H v x B->g x=some d ->
 (∀ v H' B',Lx F H' v d B'->Same H H'->(if nw=true then New H B' else Sub H B B')->Q v H')->r [v] H Q
theorem CS1.ops{nw:Bool}{r:List V->Hp->VK->Prop}{g:D->Option D}(h:CS1 nw r g):OpS nw r (fx1 g):=by
 intro F H c a B d Q r e q
 match a,e with
 | [x],e =>
   obtain⟨v,rfl,b⟩:=r.one_inv;exact h F H v x B d Q b e q
def Gu(x:D):Option D:=match x with
 | .str z=>gd (z.length<=big) (.int z.length)
 | .dct _ kvs=>some (.int kvs.length)
 | x=>x.elems.map λ ys=>.int ys.length
def Jq(K:W.Frag):List V->Hp->VK->Prop:=λ xs H Q=>(∃ p ys,xs=[.ref p]/\(SqL K H p ys∨SqT K H p ys)/\Q (.int ys.length) H)∨(∃ z,xs=[.str z]/\z.length<=Kq/\Q (.int z.length) H)∨(∃ a kvs,xs=[V.ref a]/\H a=some (.dK kvs)/\Q (.int kvs.length) H)
theorem qt5{X:Cx}:CallR X (.builtin "len") (Jq X.K):=qR5.or (qR4.or qaq9)
theorem qt4{K:W.Frag}:CS1 true (Jq K) Gu:=by
 intro F H v x B d Q r h q;have seq:∀ b,x.elems=some b->d=.int b.length->Jq K [v] H Q:=λ b e j=>by
   subst j;obtain⟨a,k,A,rfl,f,i,_⟩:=r.elems (K:=K) e;refine .inl ⟨a,k,rfl,f,?_⟩;rw[i.len];exact q _ H [] (.int _) (λ _ _ z=>z) New.nil
 cases x with
 | str z=>obtain⟨l,rfl⟩:=qt3 h;cases r;exact .inr (.inl ⟨z,rfl,zAp l qi2,q _ H [] (.int _) (λ _ _ z=>z) New.nil⟩)
 | dct z g =>
   cases h;obtain⟨a,c,A,rfl,f,e,i,_⟩:=r.dct_inv;refine .inr (.inr ⟨a,c,rfl,f,?_⟩)
   have:c.length=g.length:=by have:=congrArg List.length e;simpa using this
   rw[this];exact q _ H [] (.int _) (λ _ _ z=>z) New.nil
 | l z b=>cases h;exact seq b rfl rfl
 | q b=>cases h;exact seq b rfl rfl
 | _=>cases h
noncomputable def gInt:D->Option D
 | .int i=>some (.int i)
 | .bl b=>some (.int (if b then 1 else 0))
 | _=>none
theorem qaO0:CS1 true (λ xs H Q=>(∃ i,xs=[.int i]/\Q (.int i) H)∨∃ k,xs=[.bl k]/\Q (.int (if k then 1 else 0)) H) gInt:=by
 intro F H v x B d Q r h q;cases x with
 | int i=>cases h;cases r;exact .inl ⟨i,rfl,q _ H [] (.int _) (λ _ _ z=>z) New.nil⟩
 | bl i=>cases h;cases r;exact .inr ⟨i,rfl,q _ H [] (.int _) (λ _ _ z=>z) New.nil⟩
 | _=>cases h
def Jr(x:D):Option D:=x.elems.bind λ ys=>gd (D.imms ys=true) (.l false ys)
theorem qL3{K:W.Frag}:CS1 true (λ xs H Q=>∃ p ys,xs=[.ref p]/\(SqL K H p ys∨SqT K H p ys)/\∀ l,H l=none->Q (.ref l) (upd H l (.l ys))) Jr:=by
 intro F H v x B d Q r h q;obtain⟨ys,e,h⟩:=zA1.mp h;obtain⟨c,rfl⟩:=qt3 h;obtain⟨a,f,A,rfl,g,i,_⟩:=r.elems (K:=K) e;exact⟨a,f,rfl,g,λ p b=>q _ _ [p] (qy7 b (i.imms0 c)) (Same.new b) (qg7 b)⟩
noncomputable def D.intO:D->Option Int
 | .int k=>some k
 | _=>none
def pairK:D->Option (Key×D)
 | .q [a,x]=>a.intO.bind λ k=>if x.imm=true then some (.inl k,x) else none
 | _=>none
def qY9:List D->Option (List (Key×D))
 | []=>some []
 | d::r=>(pairK d).bind λ p=>(qY9 r).bind λ ps=>some (p::ps)
noncomputable def Fp(kvs:List (Key×D))(k:Key)(v:D):List (Key×D) :=
 if (kvs.any λ a=>decide (a.1=k))=true then kvs.map (λ a=>if a.1=k then (a.1,v) else a) else kvs++[(k,v)]
def qt8(kvs more:List (Key×D)):List (Key×D):=more.foldl (λ acc a=>Fp acc a.1 a.2) kvs
abbrev KP(F:γ->Prop)(H:Hp)(kvs:List (Key×V))(a:List (Key×D)):Prop:=Paired (λ(p:Key×V)(q:Key×D)=>p.1=q.1/\Lx F H p.2 q.2 []) kvs a
section
variable{F:γ->Prop}{H:Hp}
theorem KP.maps{b:List (Key×D)}(h:KP F H kvs b):kvs.map (·.1)=b.map (·.1)/\Lp F H (kvs.map (·.2)) (b.map (·.2)) []:=by
 induction h with
 | nil=>exact⟨rfl,.nil⟩
 | cons a _ c=>exact⟨by rw[zAw,zAw,a.1,c.1],.cons (A:=[]) (B:=[]) a.2 c.2⟩
theorem KP.any{b:List (Key×D)}(h:KP F H kvs b)(k:Key):(kvs.any λ c=>decide (c.1=k))=b.any λ c=>decide (c.1=k):=by
 induction h with
 | nil=>rfl
 | cons a _ d=>rw[zBz,zBz,a.1,d]
theorem KP.append{kvs':List (Key×V)}{b kds':List (Key×D)}(h:KP F H kvs b)(h':KP F H kvs' kds'):KP F H (kvs++kvs') (b++kds'):=by
 induction h with
 | nil=>exact h'
 | cons a _ c=>exact .cons a c
theorem KP.mapk{c:List (Key×D)}(h:KP F H kvs c){k:Key}{d:D}(r:Lx F H v d []):KP F H (kvs.map λ b=>if b.1=k then (b.1,v) else b) (c.map λ b=>if b.1=k then (b.1,d) else b):=by
 induction h with
 | nil=>exact .nil
 | @cons p q _ _ a _ ih =>
   refine .cons ?_ ih;show (if p.1=k then (p.1,v) else p).1=(if q.1=k then (q.1,d) else q).1/\Lx F H (if p.1=k then (p.1,v) else p).2 (if q.1=k then (q.1,d) else q).2 [];rw[<- a.1];split
   . exact⟨rfl,r⟩
   exact a
theorem KP.put{a:List (Key×D)}(h:KP F H kvs a){k:Key}{d:D}(r:Lx F H v d []):KP F H (putK kvs k v) (Fp a k d):=by
 unfold putK Fp;rw[h.any k];split
 . exact h.mapk r
 exact h.append (.cons ⟨rfl,r⟩ .nil)
theorem KP.merge{more:List (Key×V)}{mored:List (Key×D)}(h:KP F H more mored):∀{kvs:List (Key×V)}{b:List (Key×D)},KP F H kvs b->KP F H (qB6 kvs more) (qt8 b mored):=by
 induction h with
 | nil=>exact λ h=>h
 | @cons p q _ _ a _ ih =>
   intro kvs b h
   have:=ih (h.put (k:=p.1) a.2)
   rw[a.1] at this;show KP F H (qB6 (putK kvs p.1 p.2) _) (qt8 (Fp b q.1 q.2) _);rw[a.1];exact this
theorem qaz4{ds:Ds}{A:List γ}{ps:List (Key×D)}(r:Lp F H vs ds A)(h:qY9 ds=some ps):∃ kvs,qaw1 H vs kvs/\KP F H kvs ps:=by
 induction ds generalizing vs A ps with
 | nil=>cases r;cases h;exact⟨[],.nil,.nil⟩
 | cons d ds l =>
   cases r with
   | cons m t =>
     obtain⟨p,b,h⟩:=zA1.mp h;obtain⟨ps,n,h⟩:=zA1.mp h;cases h;obtain⟨kvs,o,q2⟩:=l t n;unfold pairK at b;split at b
     . rename_i k x
       obtain⟨i,g,b⟩:=zA1.mp b;split at b
       . rename_i hm
         cases b;obtain⟨a,u,rfl,q,e⟩:=m.tup_inv;obtain⟨v,s,A1,A2,rfl,f,c,_⟩:=e.two_inv;cases k with
         | int j =>
           cases g;cases f
           have:=c.imm hm
           subst this;exact⟨(.inl i,s)::kvs,.cons ⟨a,rfl,q⟩ o,.cons ⟨rfl,c⟩ q2⟩
         | _=>cases g
       cases b
     cases b
theorem qaK6{p:γ}{a:List (Key×D)}(b:H p=none)(r:KP F H kvs a):Lx F (upd H p (.dK kvs)) (.ref p) (.dct false a) [p]:=.dct qb3 r.maps.1 (r.maps.2.same (Same.new b))
end
def Hq(x:D):Option D:=match x with
 | .l _ ys=>(qY9 ys).map λ ps=>.dct false (qt8 [] ps)
 | _=>none
theorem qav8:CS1 true qaH3 Hq:=by
 intro F H v x B d Q r h q;cases x with
 | l z k =>
   obtain⟨l,e,rfl⟩:=zAf.mp h;obtain⟨a,f,A,rfl,g,i,_⟩:=r.lst_inv;obtain⟨b,j,q2⟩:=qaz4 i e;exact⟨a,f,b,rfl,g,j,λ p c=>q _ _ [p] (qaK6 c (q2.merge .nil)) (Same.new c) (qg7 c)⟩
 | _=>cases h
noncomputable def D.kind:D->Option String
 | .non=>some "NoneType" | .bl _=>some "bool" | .int _=>some "int" | .str _=>some "str" | .l _ _=>some "list" | .q _=>some "tuple" | .dct _ _=>some "dict"
 | _=>none
theorem Lx.kind{F:γ->Prop}{H:Hp}{d:D}{B:List γ}{t:String}(r:Lx F H v d B)(h:d.kind=some t):Bj H v=some t:=by
 cases r with
 | q e _=>cases h;exact qaB8 e
 | l e _=>cases h;exact qag3 e
 | lstZ e _ _=>cases h;exact qag3 e
 | dct e _ _=>cases h;exact qau6 e
 | dctZ e _ _ _=>cases h;exact qau6 e
 | _=>cases h<;>rfl
noncomputable def isTy(n:String):Bool:=n == "bool" || n == "int" || n == "str" || n == "list" || n == "tuple" || n == "dict"
def gIsi(x y:D):Option D:=match y with
 | .ty n=>if isTy n=true then x.kind.map λ t=>.bl (Ie t n) else none
 | _=>none
def CS2(nw:Bool)(r:List V->Hp->VK->Prop)(g:D->D->Option D):Prop:=∀ F H v w x y A B d (Q:VK),Lx F H v x A->Lx F H w y B->g x y=some d ->
 (∀ v H' B',Lx F H' v d B'->Same H H'->(if nw=true then New H B' else Sub H (A++B) B')->Q v H')->r [v,w] H Q
theorem CS2.ops{nw:Bool}{r:List V->Hp->VK->Prop}{g:D->D->Option D}(h:CS2 nw r g):OpS nw r (fx2 g):=by
 intro F H l c B d Q r e q
 match c,e with
 | [x,y],e =>
   obtain⟨v,w,A,C,rfl,f,i,j⟩:=r.two_inv;refine h F H v w x y A C d Q f i e λ u H' B' k s a=>q u H' B' k s ?_
   cases nw with
   | true=>exact a
   | false =>
     rw[if_neg (by decide)] at a ⊢;exact λ b=>(a b).imp (λ z=>by rw[zA0] at z;have:=j b;lia) id
theorem qC0:CS2 true rIsi gIsi:=by
 intro F H v w x y A B d Q b c e q;cases y with
 | ty n =>
   cases c;have e:(if isTy n=true then x.kind.map λ t=>D.bl (Ie t n) else none)=some d:=e;by_cases a:isTy n=true
   . rw[if_pos a] at e
     obtain⟨t,f,rfl⟩:=zAf.mp e;refine⟨v,n,t,rfl,b.kind f,?_,q _ H [] (.bl _) (λ _ _ z=>z) New.nil⟩;simp only[isTy,Bool.or_eq_true,zBn] at a;simp only[zAm,zBs,or_false];rcases a with ((((h | h) | h) | h) | h) | h
     . exact .inl h
     . exact .inr (.inl h)
     . exact .inr (.inr (.inl h))
     . exact .inr (.inr (.inr (.inl h)))
     . exact .inr (.inr (.inr (.inr (.inl h))))
     exact .inr (.inr (.inr (.inr (.inr h))))
   rw[if_neg a] at e;cases e
 | _=>cases e
def D.isC(C:γ)(x:D):Option D:=match x with
 | .ins _ C' _=>if C'=C then some (.bl true) else none
 | x=>x.kind.map λ _=>.bl false
def gIsO(C:γ)(x y:D):Option D:=match y with
 | .adr a=>if a=C then x.isC C else none
 | _=>none
theorem qaW9{C:γ}:CS2 true (rIsO C) (gIsO C):=by
 intro F H v w x y A B d Q f g e q;cases y with
 | adr a =>
   cases g;have e:(if a=C then x.isC C else none)=some d:=e;by_cases b:a=C
   . rw[if_pos b] at e
     subst b;have kind:(x.kind.map λ _=>D.bl false)=some d->rIsO a [v,.ref a] H Q:=λ e=>by
       obtain⟨t,i,rfl⟩:=zAf.mp e;exact⟨_,rfl,.inr ⟨t,f.kind i,q _ H [] (.bl _) (λ _ _ z=>z) New.nil⟩⟩
     cases x with
     | ins z C' k =>
       have e2:(if C'=a then some (D.bl true) else none)=some d:=e;by_cases b:C'=a
       . rw[if_pos b] at e2
         cases e2;subst b;obtain⟨p,j,c,_,rfl,h,_,_,_⟩:=f.ins_inv;exact⟨_,rfl,.inl ⟨p,j,c,rfl,h,q _ H [] (.bl _) (λ _ _ z=>z) New.nil⟩⟩
       rw[if_neg b] at e2;cases e2
     | _=>exact kind e
   rw[if_neg b] at e;cases e
 | _=>cases e
noncomputable def gMax2:D->D->Option D
 | .int i,.int j=>some (.int (if j > i then j else i))
 | _,_=>none
noncomputable def gMin2:D->D->Option D
 | .int i,.int j=>some (.int (if j < i then j else i))
 | _,_=>none
theorem qav7:CS2 true (λ xs H Q=>∃ i j,xs=[.int i,.int j]/\Q (.int (if j > i then j else i)) H) gMax2:=by
 intro F H v w x y A B d Q a b e q;cases x with
 | int i=>cases y with
   | int j=>cases e;cases a;cases b;exact⟨i,j,rfl,q _ H [] (.int _) (λ _ _ z=>z) New.nil⟩
   | _=>cases e
 | _=>cases e
theorem qai9:CS2 true (λ xs H Q=>∃ i j,xs=[.int i,.int j]/\Q (.int (if j < i then j else i)) H) gMin2:=by
 intro F H v w x y A B d Q a b e q;cases x with
 | int i=>cases y with
   | int j=>cases e;cases a;cases b;exact⟨i,j,rfl,q _ H [] (.int _) (λ _ _ z=>z) New.nil⟩
   | _=>cases e
 | _=>cases e
noncomputable def bools:List D->Option (List Bool)
 | []=>some []
 | .bl b::r=>(bools r).map λ a=>b::a
 | _=>none
theorem Lp.bools{F:γ->Prop}{H:Hp}:∀{vs:List V}{ds:List D}{A:List γ}{a:List Bool},Lp F H vs ds A->LV.bools ds=some a->vs=a.map V.bl:=by
 intro vs ds
 induction ds generalizing vs with
 | nil=>intro A a r h;cases r;cases h;rfl
 | cons d ds c =>
   intro A a r h;cases r with
   | cons e t =>
     cases d with
     | bl b =>
       obtain⟨f,g,rfl⟩:=zAf.mp h;cases e;rw[c t g];rfl
     | _=>cases h
def gAll(x:D):Option D:=match x with
 | .l _ ys=>(bools ys).map λ a=>.bl (a.all id)
 | _=>none
theorem qaD9{K:W.Frag}:CS1 true (λ xs H Q=>∃(a:γ)(b:List Bool),xs=[.ref a]/\SqL K H a (b.map V.bl)/\Q (.bl (b.all id)) H) gAll:=by
 intro F H v x B d Q r h q;cases x with
 | l z g =>
   obtain⟨b,c,rfl⟩:=zAf.mp h;obtain⟨a,i,A,rfl,e,f,_⟩:=r.lst_inv;cases f.bools c;exact⟨a,b,rfl,.inl (.inl e),q _ H [] (.bl _) (λ _ _ z=>z) New.nil⟩
 | _=>cases h
noncomputable def intsD:List D->Option (List Int)
 | []=>some []
 | .int i::r=>(intsD r).map λ is=>i::is
 | _=>none
theorem Lp.intsD{F:γ->Prop}{H:Hp}:∀{vs:List V}{ds:List D}{A:List γ}{a:List Int},Lp F H vs ds A->LV.intsD ds=some a->vs=a.map V.int:=by
 intro vs ds
 induction ds generalizing vs with
 | nil=>intro A a r h;cases r;cases h;rfl
 | cons d ds c =>
   intro A a r h;cases r with
   | cons e t =>
     cases d with
     | int b =>
       obtain⟨f,g,rfl⟩:=zAf.mp h;cases e;rw[c t g];rfl
     | _=>cases h
def Et(xs:List D)(lo hi:Option Int):List D:=(xs.drop (HT.sIx xs.length 0 lo)).take (HT.sIx xs.length xs.length hi - HT.sIx xs.length 0 lo)
def gSl(x:D)(lo hi:Option Int):Option D:=match x with
 | .l _ ys=>gd (D.imms (Et ys lo hi)=true) (.l false (Et ys lo hi))
 | .scr ns=>some (.l false ((ns.drop (HT.sIx ns.length 0 lo)).take (HT.sIx ns.length ns.length hi - HT.sIx ns.length 0 lo) |>.map .int))
 | .q ys=>gd (D.imms (Et ys lo hi)=true/\(Et ys lo hi).length < ys.length) (.q (Et ys lo hi))
 | _=>none
theorem qF2{F:γ->Prop}{H:Hp}:∀ ns:List Int,Lp F H (ns.map V.int) (ns.map D.int) []
 | []=>.nil
 | n::r=>.cons (A:=[]) (B:=[]) (.int n) (qF2 r)
theorem Js{K:W.Frag}{F:γ->Prop}{H:Hp}{x d:D}{lo hi:Option Int}{B:List γ}(r:Lx F H v x B)(h:gSl x lo hi=some d)(f:∀ ys,x≠.q ys)(q:∀ v H' B',Lx F H' v d B'->Same H H'->New H B'->Q v H'):rSlL K v lo hi H Q:=by
 cases x with
 | l z ys =>
   obtain⟨g,rfl⟩:=qt3 h;obtain⟨a,i,A,rfl,j,c,_⟩:=r.lst_inv;refine⟨a,i,rfl,.inl (.inl j),λ p b=>q _ _ [p] (qy7 b ?_) (Same.new b) (qg7 b)⟩;obtain⟨B',k,l⟩:=c.sub (HT.sIx ys.length 0 lo) (HT.sIx ys.length ys.length hi - HT.sIx ys.length 0 lo);unfold Go;rw[c.len];exact k.imms0 g
 | scr m =>
   cases h;cases r with
   | scr e =>
     refine⟨_,_,rfl,.inl (.inr ⟨_,e⟩),λ p b=>q _ _ [p] (qy7 b ?_) (Same.new b) (qg7 b)⟩;unfold Go;rw[<- List.map_drop,<- List.map_take,zAd];exact qF2 _
 | q ys=>exact absurd rfl (f ys)
 | _=>cases h
def D.fld(C:γ)(f:Str):D->Option D
 | .ins _ C' fs=>if C'=C then fs.lookup f else none
 | _=>none
theorem qag0{F:γ->Prop}{H:Hp}:∀{c:List (Str×V)}{a:List (Str×D)}{A:List γ}{f:Str}{d:D},c.map (·.1)=a.map (·.1)->Lp F H (c.map (·.2)) (a.map (·.2)) A->a.lookup f=some d->∃ v B,c.lookup f=some v/\Lx F H v d B/\∀ b,B.count b<=A.count b:=by
 intro c
 induction c with
 | nil=>intro a A f d e r h;cases a with
   | nil=>cases h
   | cons _ _=>simp at e
 | cons p c i =>
   intro a A f d e r h;cases a with
   | nil=>simp at e
   | cons q a =>
     obtain⟨k,v⟩:=p;obtain⟨j,s⟩:=q;have l:k=j:=by simp at e;exact e.1
     have e2:c.map (·.1)=a.map (·.1):=by simp at e;simpa using e.2
     subst l;cases r with
     | @cons _ _ A1 _ _ A2 r1 t =>
       rw[zAt] at h ⊢;cases g:f == k with
       | true=>rw[g] at h;cases h;exact⟨v,A1,rfl,r1,λ b=>by rw[zA0];lia⟩
       | false =>
         rw[g] at h;obtain⟨w,B,m,n,o⟩:=i e2 t h;exact⟨w,B,m,n,λ b=>by rw[zA0];have:=o b;lia⟩
theorem qaJ7{K:W.Frag}{C:γ}{f:Str}(c:Cls K C)(n:qd6 K C f):OpS1 false (λ x H Q=>∃ a C dx fs v,x=.ref a/\H a=some (.ins C dx fs)/\Cls K C/\qd6 K C f/\fs.lookup f=some v/\Q v H) (D.fld C f):=by
 intro F H v x B d Q r h q;cases x with
 | ins z C' fs =>
   have i:(if C'=C then fs.lookup f else none)=some d:=h;by_cases j:C'=C
   . rw[if_pos j] at i
     subst j;obtain⟨a,dx,k,A,rfl,l,e,m,g⟩:=r.ins_inv;obtain⟨w,B',o,p,s⟩:=qag0 e m i;refine⟨a,C',dx,k,w,rfl,l,c,n,o,q w H B' p (λ _ _ z=>z) ?_⟩;rw[if_neg (by decide)];exact λ b=>.inl (by have:=s b;have:=g b;lia)
   rw[if_neg j] at i;cases i
 | _=>cases h
noncomputable def D.key:D->Option Key
 | .int i=>some (.inl i)
 | .str x=>some (.inr x)
 | _=>none
noncomputable def En(a:List (Key×D))(k:Key):Option D:=(a.find? λ b=>decide (b.1=k)).map (·.2)
theorem Lx.key{F:γ->Prop}{H:Hp}{x:D}{B:List γ}{k:Key}(r:Lx F H v x B)(h:x.key=some k):v=kV k:=by
 cases r<;>cases h<;>rfl
theorem qaF3{F:γ->Prop}{H:Hp}:∀{kvs:List (Key×V)}{a:List (Key×D)}{A:List γ}(k:Key),kvs.map (·.1)=a.map (·.1)->Lp F H (kvs.map (·.2)) (a.map (·.2)) A ->
   (En a k=none/\Fh kvs k=none)∨∃ v d B,En a k=some d/\Fh kvs k=some v/\Lx F H v d B/\∀ b,B.count b<=A.count b:=by
 intro kvs
 induction kvs with
 | nil=>intro a A k e r;cases a with
   | nil=>exact .inl ⟨rfl,rfl⟩
   | cons _ _=>simp at e
 | cons p kvs g =>
   intro a A k e r;cases a with
   | nil=>simp at e
   | cons q a =>
     obtain⟨c,v⟩:=p;obtain⟨i,d⟩:=q;have j:c=i:=by simp at e;exact e.1
     have e2:kvs.map (·.1)=a.map (·.1):=by simp at e;simpa using e.2
     subst j;cases r with
     | @cons _ _ A1 _ _ A2 r1 t =>
       by_cases f:c=k
       . exact .inr ⟨v,d,A1,by simp[En,f],qM6 f,r1,λ b=>by rw[zA0];lia⟩
       have l:En ((c,d)::a) k=En a k:=by simp[En,zBo,f]
       rw[l,qM7 (p:=(c,v)) f];rcases g k e2 t with h | ⟨w,m,B,n,o,s,u⟩
       . exact .inl h
       exact .inr ⟨w,m,B,n,o,s,λ b=>by rw[zA0];have:=u b;lia⟩
section
variable{c:Vc}{X:Cx}{a b e:Expr}{oa ob own nw:Bool}{fa fb f:FV}{r:R2}{g:D->D->Option D}{ta tb t:VT}{pos:Pos}
theorem vnm(i:Nat){x:Str}(b:X.N[i]? = some x:=by rfl)(d:Vis X.env.scope x:=by first | exact Or.inl rfl | exact Or.inr (Or.inl rfl) | exact Or.inr (Or.inr rfl))(e:N' x:=by decide)(a:(x == ("__classdict__" : Str))=false:=by decide) :
   VV c X (.Name x pos) false (rdN i):=qaF2 (qk1 b d e a) (qk3 b)
noncomputable def kC(d:D):FV:=λ _=>some d
theorem Af{i:Int}:VV c X (.Constant (.int i) j pos) true (kC (.int i)):=Gr qI7 λ _ _=>.int _
theorem vbl{i:Bool}:VV c X (.Constant (.bool i) j pos) true (kC (.bl i)):=Gr pe_bl λ _ _=>.bl _
theorem A8:VV c X (.Constant .none j pos) true (kC .non):=Gr qaJ0 λ _ _=>.non
theorem Ec{i:Str}:VV c X (.Constant (.str i) j pos) true (kC (.str i)):=Gr qaS1 λ _ _=>.str _
theorem vgi{x:Str}{n:Int}{k:Tok}(hm:X.mg x=some (.int n k))(a:Gl X x:=by rfl)(b:N' x:=by decide):VV c X (.Name x pos) true (kC (.int n)):=Gr (qat6 hm a b) λ _ _=>.int _
theorem vcls{x:Str}(C:γ)(hm:X.mg x=some (.ref C))(a:Gl X x:=by rfl)(b:N' x:=by decide):VV c X (.Name x pos) true (kC (.adr C)):=Gr (qaS2 C hm a b) λ _ _=>.adr _
theorem vty{x:Str}(n:String)(hm:X.mg x=none)(a:Gl X x:=by rfl)(b:Ku x=some (.type n):=by rfl)(d:x ≠ "__name__" := by decide)(e:N' x:=by decide):VV c X (.Name x pos) true (kC (.ty n)):=Gr (qaz2 n hm a b d e) λ _ _=>.ty _
theorem vpow{i j:Int}(k:Int){m:Nat}{p q:Pos}(a:i ^ j.toNat=k:=by decide)(b:0<=j:=by decide)(h1:j<=1000000:=by decide)(h2:i.natAbs < 2 ^ 64:=by decide):VV c X (.BinOp (.Constant (.int i) m p) .Pow (.Constant (.int j) n q) pos) true (kC (.int k)):=Gr (qaI8 k a b h1 h2) λ _ _=>.int _
def P2(X:Cx)(e a b:Expr)(r:R2):Prop:=∀ ta tb,PE X a ta->PE X b tb->PE X e (tOp r ta tb)
def T2(X:Cx)(e a b:Expr)(r:R2):Prop:=∀ ta tb,PE X a ta->PE X b tb->PT X e (tTest (tOp r ta tb))
theorem Ak{op:Operator}(c:OpR X (Lb op) r):P2 X (.BinOp a op b pos) a b r:=λ _ _ d e=>pe_op c d e
theorem Aw(c:OpR X (Kr op) r)(hm:behindInMarks op b=false):P2 X (.Compare a [op] [b] pos) a b r:=λ _ _ d e=>qaJ1 c d e hm
theorem An(c:OpR X (Kr op) r)(hm:behindInMarks op b=false):T2 X (.Compare a [op] [b] pos) a b r:=λ _ _ d e=>qas9 c d e hm
theorem Av(c:IxR X r)(d:qak3 b:=by exact λ _ _=>rfl):P2 X (.Subscript a b pos) a b r:=λ _ _ e f=>pe_ix c e f d
theorem v2(p:P2 X e a b r)(h:A5 nw r g)(d:VV c X a oa fa)(f:VV c X b ob fb):VV c X e (nw||(oa&&ob)) (f2 g fa fb):=⟨PE.mono (p _ _ d.h f.h) (op_vv h)⟩
theorem e2(p:P2 X e a b r)(h:A5 true r g)(d:VE c X a ta)(f:VE c X b tb):VE c X e (t2 g ta tb):=⟨PE.mono (p _ _ d.h f.h) (op_ee d f h),qar8 d f⟩
theorem e2v(p:P2 X e a b r)(h:A5 true r g)(d:VE c X a ta)(f:VV c X b ob fb):VE c X e (t2v g ta fb):=⟨PE.mono (p _ _ d.h f.h) (op_ev d h),qaw7 d⟩
theorem e2P(p:P2 X e a b r)(h:A5 false r g)(d:VE c X a ta)(f:VE c X b tb):VE c X e (t2 g ta tb):=⟨PE.mono (p _ _ d.h f.h) (qaT3 d f h),qar8 d f⟩
theorem e2vP(p:P2 X e a b r)(h:A5 false r g)(d:VE c X a ta)(f:VV c X b ob fb):VE c X e (Jn g ta fb):=⟨PE.mono (p _ _ d.h f.h) (qaT2 d h),qal4 d⟩
theorem e2n(i:Nat){x:Str}{p0:Pos}(p:P2 X e (.Name x p0) b r)(h:A5 true r g)(a:VE c X b tb)(f:X.N[i]? = some x:=by rfl)(j:Vis X.env.scope x:=by first | exact Or.inl rfl | exact Or.inr (Or.inl rfl) | exact Or.inr (Or.inr rfl))(k:N' x:=by decide)(d:(x == ("__classdict__" : Str))=false:=by decide) :
   VE c X e (t2n g i tb):=⟨λ E3 s σ H Q I q=>p _ _ (qk1 f j k d) a.h E3 s σ H Q I (op_ne a h (qk3 f E3 σ H s I) q),qaw8 a⟩
theorem e2nP(i:Nat){x:Str}{p0:Pos}(p:P2 X e (.Name x p0) b r)(h:A5 nw r g)(a:VE c X b tb)(f:X.N[i]? = some x:=by rfl)(j:Vis X.env.scope x:=by first | exact Or.inl rfl | exact Or.inr (Or.inl rfl) | exact Or.inr (Or.inr rfl))(k:N' x:=by decide)(d:(x == ("__classdict__" : Str))=false:=by decide) :
   VE c X e (t2nP g i tb):=⟨λ E3 s σ H Q I q=>p _ _ (qk1 f j k d) a.h E3 s σ H Q I (qaS8 a h (qk3 f E3 σ H s I) q),qal5 a⟩
noncomputable def D.asB:D->Option Bool
 | .bl b=>some b
 | _=>none
theorem Lx.asB{F:γ->Prop}{H:Hp}{d:D}{B:List γ}{k:Bool}(r:Lx F H v d B)(h:d.asB=some k):v=.bl k:=by
 cases r<;>cases h<;>rfl
def ttV(f:FV):VTT:=λ ds Q _=>orF ((f ds).bind D.asB) λ b=>Q b ds
def ttE(t:VT):VTT:=λ ds Q xe=>t ds (λ d a=>orF d.asB λ b=>Q b a) xe
theorem qaF9:∀ σ H Q,Er c (ttV f) σ H Q->liftV c own f σ H (λ x H'=>∃ k,x=.bl k/\Q k H'):=by
 rintro σ H Q ⟨F,a,A,h,S,x,q⟩;obtain⟨b,e,q⟩:=qa7.mp q;obtain⟨d,g,e2⟩:=zA1.mp e;exact⟨F,a,A,d,S,g,λ v H' B r s _=>⟨b,r.asB e2,q H' F A (S.same s) (.same s)⟩⟩
theorem qal2(h:VE c X e t):∀ σ H Q,Er c (ttE t) σ H Q->Bh c t σ H (λ x H'=>∃ k,x=.bl k/\Q k H'):=by
 rintro σ H Q ⟨F,a,A,f,S,x,q⟩;refine⟨F,a,A,f,S,x,h.m _ _ _ _ _ (λ d g q v H1 F1 T A1 i S1 l j=>?_) (λ _ _ z=>z) q⟩;obtain⟨b,e,q⟩:=qa7.mp q;exact⟨b,i.asB e,q H1 F1 A1 S1 (j.count λ b=>by rw[zA0];lia)⟩
theorem qab4:∀ ds (Q Q':Bool->Ds->Prop) (xe b:XKd),(∀ d a,Q d a->Q' d a)->(∀ x a,xe x a->b x a)->ttV f ds Q xe->ttV f ds Q' b:=λ ds Q Q' xe b c _=>qa5 λ d=>c d ds
theorem qD9(h:VE c X e t):∀ ds (Q Q':Bool->Ds->Prop) (xe b:XKd),(∀ d a,Q d a->Q' d a)->(∀ x a,xe x a->b x a)->ttE t ds Q xe->ttE t ds Q' b:=λ ds Q Q' xe b f g=>h.m _ _ _ _ _ (λ d a=>qa5 λ z=>f z a) g
theorem tv(h:VV c X e own f)(a:∀ whole,isTrue e X.env whole=(do let v <- whole;standAt e.pos;holding [v] (truthy v)):=by intro _;rfl):VTe c X e (ttV f):=⟨PT.mono (qay0 h.h a) qaF9,qab4⟩
theorem te(h:VE c X e t)(a:∀ whole,isTrue e X.env whole=(do let v <- whole;standAt e.pos;holding [v] (truthy v)):=by intro _;rfl):VTe c X e (ttE t):=⟨PT.mono (qay0 h.h a) (qal2 h),qD9 h⟩
theorem q2(p:T2 X e a b r)(h:A5 nw r g)(d:VV c X a oa fa)(f:VV c X b ob fb):VTe c X e (ttV (f2 g fa fb)):=⟨PT.mono (p _ _ d.h f.h) λ σ H Q q=>op_vv h σ H _ (qaF9 σ H Q q),qab4⟩
theorem q2e(p:P2 X e a b r)(i:T2 X e a b r)(h:A5 true r g)(d:VE c X a ta)(f:VE c X b tb):VTe c X e (ttE (t2 g ta tb)):=⟨PT.mono (i _ _ d.h f.h) λ σ H Q q=>op_ee d f h σ H _ (qal2 (e2 p h d f) σ H Q q),qD9 (e2 p h d f)⟩
theorem q2v(p:P2 X e a b r)(i:T2 X e a b r)(h:A5 true r g)(d:VE c X a ta)(f:VV c X b ob fb):VTe c X e (ttE (t2v g ta fb)):=⟨PT.mono (i _ _ d.h f.h) λ σ H Q q=>op_ev d h σ H _ (qal2 (e2v p h d f) σ H Q q),qD9 (e2v p h d f)⟩
theorem q2n(i:Nat){x:Str}{p0:Pos}(p:P2 X e (.Name x p0) b r)(l:T2 X e (.Name x p0) b r)(h:A5 true r g)(d:VE c X b tb)(f:X.N[i]? = some x:=by rfl)(j:Vis X.env.scope x:=by first | exact Or.inl rfl | exact Or.inr (Or.inl rfl) | exact Or.inr (Or.inr rfl))(k:N' x:=by decide)(a:(x == ("__classdict__" : Str))=false:=by decide) :
   VTe c X e (ttE (t2n g i tb)):=⟨λ E3 s σ H Q I q=>l _ _ (qk1 f j k a) d.h E3 s σ H Q I (op_ne d h (qk3 f E3 σ H s I) (qal2 (e2n i p h d f j k a) σ H Q q)),qD9 (e2n i p h d f j k a)⟩
variable{qa qb:VTT}{rest:List Expr}
def F9(t:VTT):VTT:=λ ds Q xe=>t ds (λ b a=>Q (!b) a) xe
theorem Bp(h:VTe c X a qa):VTe c X (.UnaryOp .Not a pos) (F9 qa):=by
 refine⟨PT.mono (qaH6 h.h) λ σ H Q ⟨F,e,A,f,S,x,q⟩=>⟨F,e,A,f,S,x,q⟩,λ e Q Q' f g i j=>h.m _ _ _ _ _ (λ b d=>i _ d) j⟩
structure VTw(c:Vc)(X:Cx)(e:Expr)(t:VTT):Prop where
 h:PW X e (Er c t)
 m:∀ ds (Q Q':Bool->Ds->Prop) (xe xe':XKd),(∀ d ds',Q d ds'->Q' d ds')->(∀ x ds',xe x ds'->xe' x ds')->t ds Q xe->t ds Q' xe'
theorem VTw.te(h:VTw c X e qa):VTe c X e qa:=⟨h.h.pt,h.m⟩
theorem Gv(h:VTe c X a qa):VTw c X (.BoolOp .And [a] pos) qa:=⟨qaH5 h.h,h.m⟩
theorem Im(h:VTe c X a qa):VTw c X (.BoolOp .Or [a] pos) qa:=⟨qaR0 h.h,h.m⟩
def Jt(t u:VTT):VTT:=λ ds Q xe=>t ds (λ k ds1=>if k=true then u ds1 Q xe else Q false ds1) xe
def ttOr(t u:VTT):VTT:=λ ds Q xe=>t ds (λ k ds1=>if k=true then Q true ds1 else u ds1 Q xe) xe
theorem qT6{k:Bool->St->Hp->(Bool->Hp->Prop)->Prop}{K:Bool->Ds->(Bool->Ds->Prop)->XKd->Prop}(h:VTe c X a qa)(i:∀(b:Bool) F ds A xe σ H (Q:Bool->Hp->Prop),L5 c F H σ ds A->Xc c xe F H A->K b ds (λ f e=>∀ H' F' A',L5 c F' H' σ e A'->Lz F H A F' H' A'->Q f H') xe->k b σ H Q)(hm:∀(b:Bool) ds (Q Q':Bool->Ds->Prop) (xe:XKd),(∀ d e,Q d e->Q' d e)->K b ds Q xe->K b ds Q' xe):∀ σ H Q,Er c (λ ds Q xe=>qa ds (λ b ds1=>K b ds1 Q xe) xe) σ H Q->Er c qa σ H (λ b H1=>k b σ H1 Q):=by
 rintro σ H Q ⟨F,ds,A,xe,S,x,q⟩;refine⟨F,ds,A,xe,S,x,h.m _ _ _ _ _ (λ b ds1 q H1 F1 A1 S1 g=>?_) (λ _ _ z=>z) q⟩;exact i b F1 ds1 A1 xe σ H1 Q S1 (x.step g) (hm b ds1 _ _ xe (λ f e q H' F' A' S' j=>q H' F' A' S' (g.trans j)) q)
theorem Ju(g:VTe c X a qa)(i:VTw c X (.BoolOp .And (b::rest) pos) qb):VTw c X (.BoolOp .And (a::b::rest) pos) (Jt qa qb):=by
 refine⟨PW.mono (qaR1 g.h i.h) ?_,λ d Q Q' e l f j=>g.m _ _ _ _ _ (λ k n q=>?_) j⟩
 . refine qT6 (k:=λ b σ H Q=>if b=true then Er c qb σ H Q else Q false H) (K:=λ b d Q e=>if b=true then qb d Q e else Q false d) g ?_ ?_
   . intro b F d A e σ H Q S x q
     cases b with
     | true=>rw[if_pos rfl] at q ⊢;exact⟨F,d,A,e,S,x,q⟩
     | false=>rw[if_neg (by decide)] at q ⊢;exact q H F A S Lz.refl
   intro b d Q Q' e f;cases b with
   | true=>rw[if_pos rfl,if_pos rfl];exact i.m _ _ _ _ _ f λ _ _ z=>z
   | false=>rw[if_neg (by decide),if_neg (by decide)];exact f _ _
 cases k with
 | true=>rw[if_pos rfl] at q ⊢;exact i.m _ _ _ _ _ f j q
 | false=>rw[if_neg (by decide)] at q ⊢;exact f _ _ q
theorem tor(g:VTe c X a qa)(i:VTw c X (.BoolOp .Or (b::rest) pos) qb):VTw c X (.BoolOp .Or (a::b::rest) pos) (ttOr qa qb):=by
 refine⟨PW.mono (pw_or g.h i.h) ?_,λ d Q Q' e l f j=>g.m _ _ _ _ _ (λ k n q=>?_) j⟩
 . refine qT6 (k:=λ b σ H Q=>if b=true then Q true H else Er c qb σ H Q) (K:=λ b d Q e=>if b=true then Q true d else qb d Q e) g ?_ ?_
   . intro b F d A e σ H Q S x q
     cases b with
     | false=>rw[if_neg (by decide)] at q ⊢;exact⟨F,d,A,e,S,x,q⟩
     | true=>rw[if_pos rfl] at q ⊢;exact q H F A S Lz.refl
   intro b d Q Q' e f;cases b with
   | false=>rw[if_neg (by decide),if_neg (by decide)];exact i.m _ _ _ _ _ f λ _ _ z=>z
   | true=>rw[if_pos rfl,if_pos rfl];exact f _ _
 cases k with
 | false=>rw[if_neg (by decide)] at q ⊢;exact i.m _ _ _ _ _ f j q
 | true=>rw[if_pos rfl] at q ⊢;exact f _ _ q
end
section
variable{c:Vc}{X:Cx}{a b e:Expr}{oa ob own nw:Bool}{fa fb f:FV}{ta tb t:VT}{pos:Pos}{rest:List Expr}
def tSeqE(ta:VT)(k:D->VT):VT:=λ ds Q xe=>ta ds (λ x ds1=>k x ds1 Q xe) xe
theorem qaB4{k:V->St->Hp->VK->Prop}{K:D->VT}(i:VE c X a ta)(hm:∀ x ds (Q Q':DK) (xe f:XKd),(∀ d e,Q d e->Q' d e)->(∀ x e,xe x e->f x e)->K x ds Q xe->K x ds Q' f)(j:∀ F H σ v x T,Lx F H v x T->∀ Q,(∃ ds A xe,L5 c F H σ ds A/\Xc c xe F H A/\K x ds (λ d e=>∀ v H' F' T A',Lx F' H' v d T->L5 c F' H' σ e A'->Ok F' H' (T++A')->Lz F H A F' H' (T++A')->Q v H') xe)->k v σ H Q) :
   ∀ σ H Q,Bh c (tSeqE ta K) σ H Q->Bh c ta σ H (λ x H1=>k x σ H1 Q):=by
 rintro σ H Q ⟨F,ds,A,xe,S,x,q⟩;refine⟨F,ds,A,xe,S,x,i.m _ _ _ _ _ (λ d g q v H1 F1 T A1 l S1 p n=>?_) (λ _ _ z=>z) q⟩;have h:Lz F H A F1 H1 A1:=n.count λ b=>by rw[zA0];lia
 exact j F1 H1 σ v d T l Q ⟨g,A1,xe,S1,x.step h,hm d g _ _ _ _ (λ t e q w H' F' T' A' r S' o s=>q w H' F' T' A' r S' o (h.trans s)) (λ _ _ z=>z) q⟩
def Hr(ta tb:VT):VT:=tSeqE ta λ x ds Q xe=>orF x.asB λ k=>if k=true then tb ds Q xe else Q (.bl false) ds
theorem qD2{k:Bool}{p q a b:Prop}(h1:p->a)(h2:q->b):(if k=true then p else q)->(if k=true then a else b):=by
 cases k with
 | true=>rw[if_pos rfl,if_pos rfl];exact h1
 | false=>rw[if_neg (by decide),if_neg (by decide)];exact h2
theorem qak0(g:VE c X e tb):∀(x:D) ds (Q Q':DK) (xe b:XKd),(∀ d a,Q d a->Q' d a)->(∀ x a,xe x a->b x a)->(orF x.asB λ k=>if k=true then tb ds Q xe else Q (.bl false) ds)->(orF x.asB λ k=>if k=true then tb ds Q' b else Q' (.bl false) ds) :=
 λ x ds Q Q' xe b f h=>qa5 λ k=>qD2 (g.m _ _ _ _ _ f h) (f _ _)
theorem Gw{op:PySem.BoolOp}(h:VE c X a ta):VE c X (.BoolOp op [a] pos) ta:=⟨qam8 h.h,h.m⟩
theorem Fk(e:VE c X a ta)(f:VE c X (.BoolOp .And (b::rest) pos) tb):VE c X (.BoolOp .And (a::b::rest) pos) (Hr ta tb):=by
 refine⟨PE.mono (qan1 e.h f.h) ?_,λ l Q Q' g i p n=>e.m _ _ _ _ _ (λ d j=>qak0 f d j Q Q' g i p n) n⟩;refine qaB4 (k:=λ v σ H Q=>∃ o,v=.bl o/\if o=true then Bh c tb σ H Q else Q (.bl false) H) e (qak0 f) ?_;rintro F H σ v x T r Q ⟨l,A,g,S,s,q⟩;obtain⟨k,t,q⟩:=qa7.mp q;refine⟨k,r.asB t,?_⟩;cases k with
 | true=>rw[if_pos rfl] at q ⊢;exact⟨F,l,A,g,S,s,q⟩
 | false=>rw[if_neg (by decide)] at q ⊢;exact q _ H F [] A (.bl _) S S.ok Lz.refl
variable{qc:VTT}
def tIfE(qc:VTT)(ta tb:VT):VT:=λ ds Q xe=>qc ds (λ k ds1=>if k=true then ta ds1 Q xe else tb ds1 Q xe) xe
theorem eif(i:VTe c X cd qc)(j:VE c X a ta)(l:VE c X b tb):VE c X (.IfExp cd a b pos) (tIfE qc ta tb):=by
 refine⟨PE.mono (qae1 i.h j.h l.h) ?_,λ t Q Q' f w u n=>i.m _ _ _ _ _ (λ k e=>qD2 (j.m _ _ _ _ _ u n) (l.m _ _ _ _ _ u n)) n⟩;rintro σ H Q ⟨F,t,A,f,S,x,q⟩;refine⟨F,t,A,f,S,x,i.m _ _ _ _ _ (λ k e q H1 F1 A1 S1 g=>?_) (λ _ _ z=>z) q⟩;cases k with
 | true=>rw[if_pos rfl] at q ⊢;exact⟨F1,e,A1,f,S1,x.step g,j.m _ _ _ _ _ (λ d p q v H' F' T A' r S' o s=>q v H' F' T A' r S' o (g.trans s)) (λ _ _ z=>z) q⟩
 | false=>rw[if_neg (by decide)] at q ⊢;exact⟨F1,e,A1,f,S1,x.step g,l.m _ _ _ _ _ (λ d p q v H' F' T A' r S' o s=>q v H' F' T A' r S' o (g.trans s)) (λ _ _ z=>z) q⟩
def fAnd(fa fb:FV):FV:=λ ds=>(fa ds).bind λ x=>x.asB.bind λ k=>if k=true then fb ds else some (.bl false)
def fOr(fa fb:FV):FV:=λ ds=>(fa ds).bind λ x=>x.asB.bind λ k=>if k=true then some (.bl true) else fb ds
def fNot(fa:FV):FV:=λ ds=>(fa ds).bind λ x=>x.asB.map λ k=>.bl (!k)
theorem Jv{op:PySem.BoolOp}(h:VV c X a oa fa):VV c X (.BoolOp op [a] pos) oa fa:=⟨qam8 h.h⟩
theorem vand(m:VV c X a oa fa)(n:VV c X (.BoolOp .And (b::rest) pos) ob fb):VV c X (.BoolOp .And (a::b::rest) pos) ob (fAnd fa fb):=by
 refine⟨PE.mono (qan1 m.h n.h) λ σ H Q g=>?_⟩;obtain⟨F,i,A,d,S,e,q⟩:=g;obtain⟨x,p,e⟩:=zA1.mp e;obtain⟨k,r,e⟩:=zA1.mp e;refine⟨F,i,A,x,S,p,λ v H1 B1 s f y=>⟨k,s.asB r,?_⟩⟩;cases k with
 | true=>rw[if_pos rfl] at e ⊢;exact⟨F,i,A,d,S.same f,e,λ w H2 B2 t u j=>q w H2 B2 t (f.trans u) λ l=>⟨(j l).one,λ b o e=>(j l).new b o (f b o e)⟩⟩
 | false=>rw[if_neg (by decide)] at e ⊢;cases e;exact q _ H1 [] (.bl _) f λ _=>New.nil
theorem vor(m:VV c X a oa fa)(n:VV c X (.BoolOp .Or (b::rest) pos) ob fb):VV c X (.BoolOp .Or (a::b::rest) pos) ob (fOr fa fb):=by
 refine⟨PE.mono (pe_or m.h n.h) λ σ H Q g=>?_⟩;obtain⟨F,i,A,d,S,e,q⟩:=g;obtain⟨x,p,e⟩:=zA1.mp e;obtain⟨k,r,e⟩:=zA1.mp e;refine⟨F,i,A,x,S,p,λ v H1 B1 s f y=>⟨k,s.asB r,?_⟩⟩;cases k with
 | false=>rw[if_neg (by decide)] at e ⊢;exact⟨F,i,A,d,S.same f,e,λ w H2 B2 t u j=>q w H2 B2 t (f.trans u) λ l=>⟨(j l).one,λ b o e=>(j l).new b o (f b o e)⟩⟩
 | true=>rw[if_pos rfl] at e ⊢;cases e;exact q _ H1 [] (.bl _) f λ _=>New.nil
theorem vnot(f:VV c X a oa fa):VV c X (.UnaryOp .Not a pos) true (fNot fa):=by
 refine⟨PE.mono (qaI9 f.h) λ σ H Q b=>?_⟩;obtain⟨F,g,A,d,S,e,q⟩:=b;obtain⟨x,i,e⟩:=zA1.mp e;obtain⟨k,j,rfl⟩:=zAf.mp e;exact⟨F,g,A,x,S,i,λ v H1 B1 l m n=>⟨k,l.asB j,q _ H1 [] (.bl _) m λ _=>New.nil⟩⟩
noncomputable def gNeg:D->Option D
 | .int i=>some (.int (-i))
 | _=>none
theorem qaS3:OpS1 true (rU λ i=>.int (-i)) gNeg:=by
 intro F H v x B d Q r h q;cases x with
 | int i=>cases h;cases r;exact⟨i,rfl,q _ H [] (.int _) (λ _ _ z=>z) New.nil⟩
 | _=>cases h
theorem vneg(b:VV c X a oa fa):VV c X (.UnaryOp .USub a pos) true (f1 gNeg fa):=⟨PE.mono (pe_un qaP7 b.h) (op_v (nw:=true) qaS3)⟩
theorem Bi{f:Str}{C:γ}{K:W.Frag}(b:X.K=K)(d:VV c X a oa fa)(e:Cls K C)(n:qd6 K C f)(g:Kw a f X.env (eval a X.env)=eval a X.env:=by rfl):VV c X (.Attribute a f pos) oa (f1 (D.fld C f) fa):=by
 subst b;exact⟨PE.mono (qam9 d.h g) (op_v (nw:=false) (qaJ7 e n))⟩
variable{rc:List V->Hp->VK->Prop}{gc:Ds->Option D}{x:Str}{p:Pos}{es:List Expr}{fs:Ds->Option Ds}{tos:VTA}
def Bb(gc:Ds->Option D)(fs:Ds->Option Ds):FV:=λ ds=>(fs ds).bind gc
theorem vbi{id:String}(d:CallR X (.builtin id) rc)(h:OpS nw rc gc)(hm:X.mg x=none)(f:VVs c X (e::es) own fs)(g:Gl X x:=by rfl)(i:Ku x=some (.builtin id):=by rfl)(j:x ≠ "__name__" := by decide)(a:N' x:=by decide)(k:Ko (e::es) X.env=(false,eval e X.env)::Ko es X.env:=by rfl)(b:((backTo pos (Ko es X.env)).any λ x=>x.1)=false:=by rfl) :
   VV c X (.Call (.Name x p) (e::es) [] pos) (nw||own) (Bb gc fs):=⟨PE.mono (cbi d hm f.h g i j a k b) (qaJ8 h)⟩
theorem Gi{id:String}(d:CallR X (.type id) rc)(h:OpS nw rc gc)(hm:X.mg x=none)(f:VVs c X (e::es) own fs)(g:Gl X x:=by rfl)(i:Ku x=some (.type id):=by rfl)(j:x ≠ "__name__" := by decide)(a:N' x:=by decide)(k:Ko (e::es) X.env=(false,eval e X.env)::Ko es X.env:=by rfl)(b:((backTo pos (Ko es X.env)).any λ x=>x.1)=false:=by rfl) :
   VV c X (.Call (.Name x p) (e::es) [] pos) (nw||own) (Bb gc fs):=⟨PE.mono (cty d hm f.h g i j a k b) (qaJ8 h)⟩
theorem ebi{id:String}(f:CallR X (.builtin id) rc)(h:OpS true rc gc)(hm:X.mg x=none)(a:VOs c X (e::es) tos)(g:Gl X x:=by rfl)(i:Ku x=some (.builtin id):=by rfl)(j:x ≠ "__name__" := by decide)(b:N' x:=by decide)(k:Ko (e::es) X.env=(false,eval e X.env)::Ko es X.env:=by rfl)(d:((backTo pos (Ko es X.env)).any λ x=>x.1)=false:=by rfl) :
   VE c X (.Call (.Name x p) (e::es) [] pos) (tcO gc tos):=⟨PE.mono (cbi f hm a.h g i j b k d) (opc_o a h),qaw5 a⟩
def gLst(xs:Ds):Option D:=gd (D.imms xs=true/\xs.length<=big) (.l false xs)
def gTup(xs:Ds):Option D:=gd (D.imms xs=true/\xs.length<=big) (.q xs)
theorem Bk(k:VVs c X es own fs):VV c X (.List es pos) true (Bb gLst fs):=by
 refine⟨PE.mono (qaz0 k.h) λ σ H Q f=>?_⟩;obtain⟨F,l,A,d,S,e,q⟩:=f;obtain⟨m,n,e2⟩:=zA1.mp e;obtain⟨g,rfl⟩:=qt3 e2;refine⟨F,l,A,m,S,n,λ r H1 B1 i j s=>⟨by rw[i.len];exact zAp g.2 qi2,λ p a=>?_⟩⟩;exact q _ _ [p] (qy7 a (i.imms0 g.1)) (j.trans (Same.new a)) λ _=>⟨(qg7 a).one,λ b o e=>(qg7 a).new b o (j b o e)⟩
theorem Fq{k:Nat}(i:VVs c X es own fs):VV c X (.Tuple es k pos) true (Bb gTup fs):=by
 refine⟨PE.mono (qaI7 i.h) λ σ H Q a=>?_⟩;obtain⟨F,j,A,d,S,e,q⟩:=a;obtain⟨l,m,e2⟩:=zA1.mp e;obtain⟨b,rfl⟩:=qt3 e2;refine⟨F,j,A,l,S,m,λ o H1 B1 f n r=>⟨by rw[f.len];exact zAp b.2 qi2,λ p g=>?_⟩⟩;exact q _ _ [] (qaf3 g (f.imms0 b.1)) (n.trans (Same.new g)) λ _=>New.nil
def FO:=Ds->Option (Option Int)
inductive qaP2(c:Vc)(f:FO)(σ:St)(H:Hp)(Q:Option Int->Hp->Prop):Prop
 | mk (F:γ->Prop) (ds:Ds) (A:List γ) (i:Option Int) (S:L5 c F H σ ds A) (e:f ds=some i) (q:∀ H',Same H H'->Q i H'):qaP2 c f σ H Q
def qaT8(c:Vc)(f:FO):TO:=qaP2 c f
structure VPO(c:Vc)(X:Cx)(e:Option Expr)(f:FO):Prop where
 h:PO X e (qaT8 c f)
theorem PO.mono{X:Cx}{e:Option Expr}{t t':TO}(h:PO X e t)(i:∀ σ H Q,t' σ H Q->t σ H Q):PO X e t':=λ E3 s σ H Q I q=>h E3 s σ H Q I (i σ H Q q)
noncomputable def foN:FO:=λ _=>some none
noncomputable def D.asI:D->Option Int
 | .int i=>some i
 | _=>none
theorem Lx.asI{F:γ->Prop}{H:Hp}{d:D}{B:List γ}{k:Int}(r:Lx F H v d B)(h:d.asI=some k):v=.int k:=by
 cases r<;>cases h<;>rfl
def foS(f:FV):FO:=λ ds=>(f ds).bind λ d=>d.asI.map some
theorem Jw:VPO c X none foN:=⟨PO.mono qad9 λ σ H Q ⟨F,a,A,i,S,e,q⟩=>by cases e;exact q H λ _ _ z=>z⟩
theorem Jx(h:VV c X e own f):VPO c X (some e) (foS f):=by
 refine⟨PO.mono (qad8 h.h) λ σ H Q a=>?_⟩;obtain⟨F,b,A,i,S,e,q⟩:=a;obtain⟨d,g,e2⟩:=zA1.mp e;obtain⟨j,k,rfl⟩:=zAf.mp e2;exact⟨F,b,A,d,S,g,λ v H' B r s _=>⟨j,r.asI k,q H' s⟩⟩
noncomputable def noT:D->Bool
 | .q _=>false
 | _=>true
def fsl(fa:FV)(lo hi:FO):FV:=λ ds=>(fa ds).bind λ x=>(lo ds).bind λ l=>(hi ds).bind λ h=>if noT x=true then gSl x l h else none
theorem vsl{lo hi:Option Expr}{fl n:FO}(s:VV c X a oa fa)(t:VPO c X lo fl)(u:VPO c X hi n):VV c X (.Subscript a (.Slice lo hi none p2) pos) true (fsl fa fl n):=by
 refine⟨PE.mono (qF4 qS3 s.h t.h u.h) λ σ H Q g=>?_⟩;obtain⟨F,i,A,d,S,e,q⟩:=g;obtain⟨x,y,e⟩:=zA1.mp e;obtain⟨l,e2,e⟩:=zA1.mp e;obtain⟨h,B,e⟩:=zA1.mp e;by_cases j:noT x=true
 . rw[if_pos j] at e
   refine⟨F,i,A,x,S,y,λ v H1 B1 C k _=>⟨F,i,A,l,S.same k,e2,λ H2 m=>⟨F,i,A,h,(S.same k).same m,B,λ H3 p=>?_⟩⟩⟩;have f:=(k.trans m).trans p;refine Js ((C.same m).same p) e (λ G z=>by subst z;cases j) λ w H' B' D E r=>q w H' B' D (f.trans E) λ _=>⟨r.one,λ b o e=>r.new b o (f b o e)⟩
 rw[if_neg j] at e;cases e
def fget(fa a b:FV):FV:=λ ds=>(fa ds).bind λ x=>(a ds).bind λ y=>(b ds).bind λ z=>match x with
 | .dct _ kvs=>y.key.bind λ k=>gd (((En kvs k).getD z).imm=true) ((En kvs k).getD z)
 | _=>none
theorem vget{k z:Expr}{D E:Bool}{s t:FV}{apos cpos:Pos}(G:X.A.units+1 < cLine)(I:VV c X a oa fa)(J:VV c X k D s)(K:VV c X z E t)(m:M2 X a "get" apos k z cpos):VV c X (.Call (.Attribute a "get" apos) [k,z] [] cpos) true (fget fa s t):=by
 refine⟨PE.mono (qaz1 G I.h J.h K.h m) λ σ H Q j=>?_⟩;obtain⟨F,l,A,d,S,e,q⟩:=j;obtain⟨x,L,e⟩:=zA1.mp e;obtain⟨y,e2,e⟩:=zA1.mp e;obtain⟨w,M,e⟩:=zA1.mp e;cases x with
 | dct z N =>
   obtain⟨n,O,e⟩:=zA1.mp e;obtain⟨g,rfl⟩:=qt3 e;refine⟨F,l,A,_,S,L,λ v H1 B1 P o _=>?_⟩;obtain⟨a,b,A2,rfl,B,R,T,_⟩:=P.dct_inv;refine⟨a,rfl,.inl ⟨b,.inl B⟩,F,l,A,y,S.same o,e2,λ u H2 B2 U i _=>⟨F,l,A,w,(S.same o).same i,M,λ V H3 B3 C p _=>?_⟩⟩;have r:=p _ _ (i _ _ B);refine⟨Fh b n,.inl ⟨b,n,.inl r,(U.key O),rfl⟩,?_⟩;have f:=(o.trans i).trans p;rcases qaF3 n R T with⟨n1,n2⟩ | ⟨vv,dd,BB,n1,n2,n3,n4⟩
   . rw[n1] at g q;rw[n2]
     have:=C.imm g
     subst this;exact q _ H3 [] C f λ _=>New.nil
   rw[n1] at g q;rw[n2]
   have:=n3.imm g
   subst this;exact q _ H3 [] ((n3.same i).same p) f λ _=>New.nil
 | _=>cases e
end
section
variable{c:Vc}{X:Cx}{a b e:Expr}{pos:Pos}{F F':γ->Prop}{H H':Hp}{σ:St}{ds:Ds}{A:List γ}
theorem L5.put1{d:D}(S:L5 c F H σ ds A)(h:ds[i]? = some d)(e:d≠.u):∃(v:V)(B C:List γ),(σ++c.gv)[i]? = some (some v)/\Lx F H v d B/\(∀ b,A.count b=B.count b+C.count b) /\
   ∀{F':γ->Prop}{H':Hp}{W:γ->Prop}(d':D)(B':List γ),Kp F H W F' H'->(∀ b∈C,¬ W b)->Lx F' H' v d' B'->∃ A':List γ,Locs F' H' (σ++c.gv) (ds.set i d') A'/\∀ b,A'.count b=B'.count b+C.count b:=by
 have f:A7 ds i []=some d:=by unfold A7;rw[h];rfl
 obtain⟨u,w,B,C,g,j,l,m,n⟩:=S.loc.place f e;cases j;refine⟨u,B,C,g,l,m,λ{F' H' W} d' B' k o r=>?_⟩;obtain⟨A',a,q2⟩:=n d' B' k o r;refine⟨A',?_,q2⟩;unfold Be at a;rw[h] at a;exact a
theorem ql3{d:D}(h:d.known=true):d≠.u:=λ z=>by subst z;cases h
def tMv(i:Nat):VT:=λ ds Q _=>orF (rdN i ds) λ d=>Q d (ds.set i .u)
theorem emv(i:Nat){x:Str}(k:X.N[i]? = some x:=by rfl)(m:Vis X.env.scope x:=by first | exact Or.inl rfl | exact Or.inr (Or.inl rfl) | exact Or.inr (Or.inr rfl))(n:N' x:=by decide)(a:(x == ("__classdict__" : Str))=false:=by decide) :
   VE c X (.Name x pos) (tMv i):=by
 refine⟨λ E3 s σ H Q I g=>?_,λ p Q Q' r t u _=>qa5 λ d=>u _ _⟩;obtain⟨F,p,A,r,S,x,q⟩:=g;refine qk1 k m n a E3 s σ H Q I ?_;obtain⟨d,h,q⟩:=qa7.mp q;obtain⟨h,w⟩:=ql0.mp h;obtain⟨v,B,C,l,y,j,D⟩:=S.put1 h (ql3 w);have E:=qk3 k E3 σ H s I;rw[zAr E] at l;obtain⟨A',G,q2⟩:=D .u [] (Kp.same (λ _ _ z=>z)) (λ _ _ z=>z) (.u v);refine⟨v,l,q v H F B A' y ⟨G,S.ok.count λ b=>by rw[q2,j];simp,S.len,S.ag⟩ (S.ok.count λ b=>by rw[zA0,q2,j];simp) ?_⟩;exact⟨λ _ _ e _=>e,λ b o e z=>by rw[zA0,q2];have:=j b;simp;lia,λ _ f=>f,λ _ _ _ _ f=>f⟩
def tFz(i:Nat):VT:=λ ds Q _=>orF (rdN i ds) λ d=>Q d.fz (ds.set i d.fz)
theorem share{B C:List γ}(o:Ok F H A)(a:∀ b,A.count b=B.count b+C.count b)(d:∀ b∈B,∃ o,H b=some o/\Ew o=true){A':List γ}(c:∀ b,A'.count b=C.count b) :
   Ok (λ b=>F b∨b∈B) H A'/\Lz F H A (λ b=>F b∨b∈B) H A':=by
 refine⟨⟨λ b=>by rw[c];have:=o.sep b;have:=a b;lia,λ b f=>?_,λ b f=>?_⟩,λ _ _ e _=>e,λ b o e z=>by rw[c];have:=a b;lia,λ b f=>.inl f,λ b u e z f=>?_⟩
 . rw[c]
   rcases f with f | f
   . have:=o.fro b f;have:=a b;lia
   have:=qa9.mp f;have:=o.sep b;have:=a b;lia
 . rcases f with f | f
   . exact o.ex b f
   exact let ⟨u,e,_⟩:=d b f;⟨u,e⟩
 rcases f with f | f
 . exact f
 have:=qa9.mp f;have:=a b;lia
theorem efz(i:Nat){x:Str}(h:X.N[i]? = some x:=by rfl)(n:Vis X.env.scope x:=by first | exact Or.inl rfl | exact Or.inr (Or.inl rfl) | exact Or.inr (Or.inr rfl))(o:N' x:=by decide)(a:(x == ("__classdict__" : Str))=false:=by decide) :
   VE c X (.Name x pos) (tFz i):=by
 refine⟨λ E3 s σ H Q I e=>?_,λ p Q Q' r t u _=>qa5 λ d=>u _ _⟩;obtain⟨F,p,A,r,S,x,q⟩:=e;refine qk1 h n o a E3 s σ H Q I ?_;obtain⟨d,g,q⟩:=qa7.mp q;obtain⟨g,w⟩:=ql0.mp g;obtain⟨v,B,C,j,k,y,D⟩:=S.put1 g (ql3 w);have E:=qk3 h E3 σ H s I;rw[zAr E] at j;have l:=k.fz (F':=λ b=>F b∨b∈B) (λ b f=>.inl f) λ b G=>.inr G
 obtain⟨A',J,q2⟩:=D d.fz [] (Kp.more (H:=H) λ b f=>Or.inl f) (λ _ _ z=>z) l;obtain⟨m,K⟩:=share S.ok y k.cells (A':=A') (λ b=>by rw[q2];simp);exact⟨v,j,q v H _ [] A' l ⟨J,m,S.len,S.ag⟩ m K⟩
abbrev PF:=Ds->Option (Nat×List Nat)
inductive LiftP(c:Vc)(pf:PF)(σ:St)(H:Hp)(Q:VK):Prop
 | mk (F:γ->Prop) (ds:Ds) (A:List γ) (i:Nat) (p:List Nat) (d:D) (S:L5 c F H σ ds A) (e:pf ds=some (i,p)) (g:A7 ds i p=some d) (n:d≠.u) (q:∀ u w H',(σ++c.gv)[i]? = some (some u)->Walk H' u p w->Same H H'->Q w H'):LiftP c pf σ H Q
def Ht(c:Vc)(pf:PF):TE:=LiftP c pf
structure VP(c:Vc)(X:Cx)(e:Expr)(pf:PF):Prop where
 h:PE X e (Ht c pf)
theorem vpn(i:Nat){x:Str}(h:X.N[i]? = some x:=by rfl)(l:Vis X.env.scope x:=by first | exact Or.inl rfl | exact Or.inr (Or.inl rfl) | exact Or.inr (Or.inr rfl))(m:N' x:=by decide)(b:(x == ("__classdict__" : Str))=false:=by decide) :
   VP c X (.Name x pos) (λ _=>some (i,[])):=by
 refine⟨λ E3 s σ H Q I f=>?_⟩;obtain⟨F,t,A,j,p,d,S,e,n,g,q⟩:=f;refine qk1 h l m b E3 s σ H Q I ?_;cases e;obtain⟨u,w,B,C,k,o,v,y,D⟩:=S.loc.place n g;cases o;have r:=qk3 h E3 σ H s I;have a:=k;rw[zAr r] at a;exact⟨u,a,q u u H k rfl λ _ _ z=>z⟩
theorem qK7:∀{p:List Nat}{d x:D}{q:List Nat},d.getP (p++q)=some x->∃ e,d.getP p=some e/\e.getP q=some x
 | [],d,x,q,h=>⟨d,rfl,h⟩
 | n::p,d,x,q,h=>by
   have h:D.getP d (n::(p++q))=some x:=h;unfold D.getP at h;cases a:d.kids[n]? with
   | none=>rw[a] at h;cases h
   | some y =>
     rw[a] at h;obtain⟨e,b,c⟩:=qK7 (p:=p) h;exact⟨e,by unfold D.getP;rw[a];exact b,c⟩
theorem qai1{p q:List Nat}{x:D}(h:A7 ds i (p++q)=some x):∃ e,A7 ds i p=some e/\e.getP q=some x:=by
 unfold A7 at h ⊢;cases a:ds[i]? with
 | none=>rw[a] at h;cases h
 | some d=>rw[a] at h;exact qK7 h
theorem Walk.snoc:∀{p:List Nat}{u v w:V}{n:Nat},Walk H u p v->Lnk H v n w->Walk H u (p++[n]) w
 | [],_,_,w,n,h,l=>by cases h;exact⟨w,l,rfl⟩
 | m::p,_,_,_,_,⟨x,h1,h2⟩,l=>⟨x,h1,h2.snoc l⟩
theorem qaU0{d e:D}(h:d.getP [n]=some e):d≠.u:=λ z=>by subst z;cases (show (none:Option D)=some _ from h)
theorem L5.place{p:List Nat}{d:D}{u:V}(S:L5 c F H σ ds A)(h:A7 ds i p=some d)(e:d≠.u)(f:(σ++c.gv)[i]? = some (some u))(g:Walk H u p w):∃(B C:List γ),Lx F H w d B/\(∀ b,A.count b=B.count b+C.count b) /\
   ∀{F':γ->Prop}{H':Hp}{W:γ->Prop}(d':D)(B':List γ),Kp F H W F' H'->(∀ b∈C,¬ W b)->Lx F' H' w d' B'->∃ A':List γ,Locs F' H' (σ++c.gv) (Be ds i p d') A'/\∀ b,A'.count b=B'.count b+C.count b:=by
 obtain⟨n,o,B,C,a,j,k,l,m⟩:=S.loc.place h e;rw[f] at a;cases a;cases g.fn j;exact⟨B,C,k,l,m⟩
def D.fidx(C:γ)(f:Str):D->Option Nat
 | .ins _ C' fs=>if C'=C then fs.findIdx? (λ q=>f == q.1) else none
 | _=>none
theorem qD6{α:Type}:∀{fs:List (Str×α)}{f:Str}{n:Nat},fs.findIdx? (λ q=>f == q.1)=some n->∃ v,fs.lookup f=some v/\(fs.map (·.2))[n]? = some v
 | [],f,n,h=>by simp at h
 | (k,v)::r,f,n,h=>by
   rw[zC5] at h;rw[zAt];cases a:f == k with
   | true=>simp[a] at h;subst h;exact⟨v,rfl,rfl⟩
   | false =>
     simp[a] at h;obtain⟨m,b,rfl⟩:=h;obtain⟨w,c,d⟩:=qD6 (fs:=r) b;exact⟨w,c,by simpa using d⟩
theorem qV0{α β:Type}:∀{fs:List (Str×α)}{a:List (Str×β)}{f:Str},fs.map (·.1)=a.map (·.1)->fs.findIdx? (λ q=>f == q.1)=a.findIdx? (λ q=>f == q.1)
 | [],[],_,_=>rfl
 | [],_::_,_,h=>by simp at h
 | _::_,[],_,h=>by simp at h
 | (k,_)::r,(k',_)::r',f,h=>by
   have b:k=k':=by simp at h;exact h.1
   have c:r.map (·.1)=r'.map (·.1):=by simp at h;simpa using h.2
   subst b;rw[zC5,zC5,qV0 c]
def pfFld(C:γ)(f:Str)(pf:PF):PF:=λ ds=>(pf ds).bind λ q=>(A7 ds q.1 q.2).bind λ d=>(d.fidx C f).map λ n=>(q.1,q.2++[n])
theorem Fa{f:Str}{C:γ}{K:W.Frag}{pf:PF}(I:X.K=K)(l:VP c X a pf)(J:Cls K C)(L:qd6 K C f)(M:Kw a f X.env (eval a X.env)=eval a X.env:=by rfl):VP c X (.Attribute a f pos) (pfFld C f pf):=by
 subst I;refine⟨PE.mono (qam9 l.h M) λ σ H Q m=>?_⟩;obtain⟨F,N,A,i,p,d,S,e,O,hd,q⟩:=m;obtain⟨⟨j,P⟩,R,e⟩:=zA1.mp e;obtain⟨t,e2,e⟩:=zA1.mp e;obtain⟨n,x,e⟩:=zAf.mp e;cases e;obtain⟨T,y,U⟩:=qai1 O;rw[e2] at y;cases y;have b:=qaU0 U;refine⟨F,N,A,j,P,t,S,R,e2,b,λ u w H' D E s=>?_⟩;obtain⟨B,C0,r,_,_⟩:=(S.same s).place e2 b D E;cases t with
 | ins z C' V =>
   have g:(if C'=C then V.findIdx? (λ q=>f == q.1) else none)=some n:=x;by_cases o:C'=C
   . rw[if_pos o] at g
     obtain⟨a,G,k,_,rfl,l,Y,rs,_⟩:=r.ins_inv;rw[<- qV0 Y] at g;obtain⟨v,Z,l2⟩:=qD6 g;subst o;exact⟨a,C',G,k,v,rfl,l,J,L,Z,q u v H' D (E.snoc ⟨a,rfl,.inr (.inr (.inr ⟨C',G,k,l,l2⟩))⟩) s⟩
   rw[if_neg o] at g;cases g
 | _=>cases x
end
inductive Pl where
 | no
 | sl (i:Nat)
 | pl (i:Nat) (p:List Nat) (w:V)
abbrev VTB:=Ds->(Ds->List Pl->Ds->Prop)->XKd->Prop
inductive F6(τ:List (Option V)):List V->List Pl->Prop
 | nil:F6 τ [] []
 | no {v:V} {vs:List V} {ps:List Pl} (t:F6 τ vs ps):F6 τ (v::vs) (.no::ps)
 | sl {v:V} {vs:List V} {ps:List Pl} {i:Nat} (h:τ[i]? = some (some v)) (t:F6 τ vs ps):F6 τ (v::vs) (.sl i::ps)
 | so {v:V} {vs:List V} {ps:List Pl} {i:Nat} {p:List Nat} (t:F6 τ vs ps):F6 τ (v::vs) (.pl i p v::ps)
inductive LiftA(c:Vc)(t:VTB)(σ:St)(H:Hp)(Q:List V->Hp->Prop):Prop
 | mk (F:γ->Prop) (ds:Ds) (A:List γ) (xe:XKd) (S:L5 c F H σ ds A) (x:Xc c xe F H A) (q:t ds (λ xs pls ds'=>∀ vs H' F' T A',Lp F' H' vs xs T->F6 (σ++c.gv) vs pls->L5 c F' H' σ ds' A'->Ok F' H' (T++A')->Lz F H A F' H' (T++A')->Q vs H') xe):LiftA c t σ H Q
def Ga(c:Vc)(t:VTB):TA:=LiftA c t
structure VAs(c:Vc)(X:Cx)(es:List Expr)(t:VTB):Prop where
 h:PA X es (Ga c t)
 m:∀ ds (Q Q':Ds->List Pl->Ds->Prop) (xe xe':XKd),(∀ d p ds',Q d p ds'->Q' d p ds')->(∀ x ds',xe x ds'->xe' x ds')->t ds Q xe->t ds Q' xe'
section
variable{c:Vc}{X:Cx}{e:Expr}{es:List Expr}{ta:VT}{tr:VTB}{pf:PF}{F F':γ->Prop}{H H':Hp}{σ:St}{ds:Ds}{A:List γ}
def Ax:VTB:=λ ds Q _=>Q [] [] ds
theorem Ad:VAs c X [] Ax:=⟨PA.mono qk2 λ σ H Q ⟨F,a,A,b,S,x,q⟩=>q [] H F [] A .nil .nil S S.ok Lz.refl,λ a Q Q' b d e _=>e _ _ _⟩
def tbV(ta:VT)(tr:VTB):VTB:=λ ds Q xe=>ta ds (λ x ds1=>tr ds1 (λ xs ps a=>Q (x::xs) (.no::ps) a) xe) xe
theorem vaV(f:VE c X e ta)(g:VAs c X es tr)(w:Ko (e::es) X.env=(false,eval e X.env)::Ko es X.env:=by rfl):VAs c X (e::es) (tbV ta tr):=by
 refine⟨PA.mono (qc4 f.h g.h w) λ σ H Q i=>?_,λ o Q Q' j y B p=>f.m _ _ _ _ _ (λ d a=>g.m _ _ _ _ _ (λ C D k=>B _ _ _) p) p⟩;obtain⟨F,o,A,j,S,x,q⟩:=i;refine⟨F,o,A,j,S,x,f.m _ _ _ _ _ (λ E a q v H1 F1 T A1 r S1 s t=>?_) (λ _ _ z=>z) q⟩;have l:Lz F H A F1 H1 A1:=t.count λ b=>by rw[zA0];lia
 refine⟨F1,a,A1,j,S1,x.step l,g.m _ _ _ _ _ (λ C D k q G H2 F2 T2 A2 I J S2 K u=>?_) (λ _ _ z=>z) q⟩;have n:Lx F2 H2 v E T:=r.keep (u.kp S1.ok S1.loc.cells) λ b L O=>by
   have:=s.sep b
   rw[zA0] at this
   have:=qa9.mp L
   lia
 obtain⟨M,N⟩:=u.frame s r.cells K;exact q (v::G) H2 F2 (T++T2) A2 (.cons n I) (.no J) S2 (by rw[zB8];exact M) (by rw[zB8];exact t.trans N)
def tbB(pf:PF)(tr:VTB):VTB:=λ ds Q xe=>orF (pf ds) λ q=>orF (A7 ds q.1 q.2) λ d=>d.known=true/\∀ w,tr (Be ds q.1 q.2 (.hole w)) (λ xs ps a=>Q (d::xs) (.pl q.1 q.2 w::ps) a) xe
theorem vaB(I:VP c X e pf)(a:VAs c X es tr)(J:Ko (e::es) X.env=(false,eval e X.env)::Ko es X.env:=by rfl):VAs c X (e::es) (tbB pf tr):=by
 refine⟨PA.mono (qc4 I.h a.h J) λ σ H Q g=>?_,λ j Q Q' v K L M=>qa5 λ z=>qa5 λ d=>And.imp_right λ h w=>a.m _ _ _ _ _ (λ N O k=>L _ _ _) M (h w)⟩;obtain⟨F,j,A,v,S,x,q⟩:=g;obtain⟨⟨i,p⟩,P,q⟩:=qa7.mp q;obtain⟨d,e2,y,q⟩:=qa7.mp q;refine⟨F,j,A,i,p,d,S,P,e2,ql3 y,λ u w H1 R T s=>?_⟩;obtain⟨B,C,r,D,U⟩:=(S.same s).place e2 (ql3 y) R T;obtain⟨A1,V,q2⟩:=U (.hole w) [] (Kp.same (F:=F) λ _ _ z=>z) (λ _ _ z=>z) (.hole w);have l:Ok F H1 (B++A1):=(S.same s).ok.count λ b=>by rw[zA0,q2,D];simp
 have E:Lz F H A F H1 (B++A1):=⟨λ b o e _=>s b o e,λ b o e z=>by rw[zA0,q2];have:=D b;simp;lia,λ _ f=>f,λ _ _ _ _ f=>f⟩
 have S1:L5 c F H1 σ (Be j i p (.hole w)) A1:=⟨V,l.right,S.len,S.ag⟩
 have n:Lz F H A F H1 A1:=E.count λ b=>by rw[zA0];lia
 refine⟨F,_,A1,v,S1,x.step n,a.m _ _ _ _ _ (λ N O k q W H2 F2 T2 A2 Y Z S2 o2 G=>?_) (λ _ _ z=>z) (q w)⟩;have t:Lx F2 H2 w d B:=r.keep (G.kp S1.ok S1.loc.cells) λ b hb hc=>by
   have:=l.sep b
   rw[zA0] at this
   have:=qa9.mp hb
   lia
 obtain⟨o3,s3⟩:=G.frame l r.cells o2;exact q (w::W) H2 F2 (B++T2) A2 (.cons t Y) (.so Z) S2 (by rw[zB8];exact o3) (by rw[zB8];exact E.trans s3)
def tbN(i:Nat)(tr:VTB):VTB:=λ ds Q xe=>(rdN i ds).isSome=true/\tr ds (λ xs ps ds1=>orF (rdN i ds1) λ d=>Q (d::xs) (.sl i::ps) (ds1.set i .u)) xe
theorem vaN(i:Nat){x:Str}{p:Pos}(e:VAs c X es tr)(E:Ko (.Name x p::es) X.env=(false,eval (.Name x p) X.env)::Ko es X.env:=by rfl)(t:X.N[i]? = some x:=by rfl)(G:Vis X.env.scope x:=by first | exact Or.inl rfl | exact Or.inr (Or.inl rfl) | exact Or.inr (Or.inr rfl))(J:N' x:=by decide)(f:(x == ("__classdict__" : Str))=false:=by decide) :
   VAs c X (.Name x p::es) (tbN i tr):=by
 refine⟨λ pos E3 s σ H Q I g=>?_,λ u Q Q' w K L M=>And.imp_right (e.m _ _ _ _ _ (λ O P j=>qa5 λ d=>L _ _ _) M)⟩;obtain⟨F,u,A,w,S,x,k,q⟩:=g;refine qc4 (qk1 t G J f) e.h E pos E3 s σ H Q I ?_;have y:=qk3 t E3 σ H s I;obtain⟨d0,R⟩:=zAv.mp k;obtain⟨v,B0,a,_,_⟩:=S.name y R;refine⟨v,a,F,u,A,w,S,x,e.m _ _ _ _ _ (λ O P j q T H2 F2 T2 A2 U V S2 D W=>?_) (λ _ _ z=>z) q⟩;obtain⟨d,l,q⟩:=qa7.mp q;obtain⟨l,Y⟩:=ql0.mp l;obtain⟨v',B,C,n,Z,h3,h4⟩:=S2.put1 l (ql3 Y);have o:=n;rw[zAr y,a] at n;cases n;obtain⟨A3,q1,q2⟩:=h4 .u [] (Kp.same (F:=F2) λ _ _ z=>z) (λ _ _ z=>z) (.u v);have r:∀ b,((B++T2)++A3).count b<=(T2++A2).count b:=λ b=>by simp only[zA0,q2,h3];simp;lia
 exact q (v::T) H2 F2 (B++T2) A3 (.cons Z U) (.sl o V) ⟨q1,(D.count r).right,S.len,S.ag⟩ (D.count r) (W.count r)
def As:List Pl->Ds->Ds->Option Ds
 | [],_,ds=>some ds
 | .no::ps,_::ys,ds=>As ps ys ds
 | .sl i::ps,y::ys,ds=>As ps ys (ds.set i y)
 | .pl i p v::ps,y::ys,ds=>match A7 ds i p with
   | some (.hole w)=>if w=v then As ps ys (Be ds i p y) else none
   | _=>none
 | _::_,[],_=>none
theorem qE3{τ:List (Option V)}{ds:Ds}{C B:List γ}{y:D}(L:Locs F H τ ds C)(hi:τ[i]? = some (some v))(r:Lx F H v y B):∃ A':List γ,Locs F H τ (ds.set i y) A'/\∀ b,A'.count b<=B.count b+C.count b:=by
 have s:=L.len;have g:i < τ.length:=(zA5.mp hi).1;obtain⟨d,h⟩:∃ d,ds[i]? = some d:=⟨_,zBl (by lia)⟩
 obtain⟨σ1,o,σ2,a,c,A1,B0,A2,e,e2,j,k,m,n,t,p⟩:=L.split h;have f:τ[i]? = some o:=by rw[e];exact qD3 j
 rw[hi] at f;cases f;have q:ds.set i y=a++y::c:=by
   have:=congrArg (λ l=>l.set i y) e2
   rw[this,qo6 k]
 exact⟨A1++(B++A2),by rw[e,q];exact n.append (.so r p),λ b=>by rw[m];simp only[zA0];lia⟩
theorem qu1{pls:List Pl}{ys ds a:Ds}{σ:List (Option V)}{B C:List γ}{more:List V}(e:F6 σ vs pls)(r:Lp F H (vs++more) ys B)(L:Locs F H σ ds C)(h:As pls ys ds=some a):∃ A':List γ,Locs F H σ a A'/\∀ b,A'.count b<=B.count b+C.count b:=by
 induction e generalizing ys ds B C with
 | nil =>
   have h:some ds=some a:=by cases ys<;>exact h
   cases h;exact⟨C,L,λ b=>by lia⟩
 | no e c =>
   cases r with
   | @cons _ _ A1 _ _ B1 r1 t =>
     obtain⟨A',d,q2⟩:=c t L h;exact⟨A',d,λ b=>by rw[zA0];have:=q2 b;lia⟩
 | sl k e c =>
   cases r with
   | @cons _ _ A1 _ _ B1 r1 t =>
     obtain⟨A2,d,q2⟩:=qE3 L k r1;obtain⟨A',f,g⟩:=c t d h;exact⟨A',f,λ b=>by rw[zA0];have:=g b;have:=q2 b;lia⟩
 | @so v _ _ i p e c =>
   cases r with
   | @cons _ y A1 _ _ B1 r1 t =>
     unfold As at h;split at h
     . rename_i w hg
       by_cases j:w=v
       . rw[if_pos j] at h
         subst j;obtain⟨u,o,B2,C2,q,s,l,m,n⟩:=L.place hg (by intro z;cases z);cases l;obtain⟨A2,d,q2⟩:=n y A1 (Kp.same (F:=F) λ _ _ z=>z) (λ _ _ z=>z) r1;obtain⟨A',f,g⟩:=c t d h;refine⟨A',f,λ b=>?_⟩
         have:=g b
         have:=q2 b
         have:=m b
         simp only[List.count_nil,zA0] at *
         lia
       rw[if_neg j] at h;cases h
     cases h
abbrev VSp:=Ds->DK->XKd->Prop
inductive LiftF(s:VSp)(vs:List V)(H:Hp)(Q:VK)(E:XK):Prop
 | mk (F:γ->Prop) (ds:Ds) (A:List γ) (r:Lp F H vs ds A) (o:Ok F H A) (q:s ds (λ d ys=>∀ v H' F' T A',Lx F' H' v d T->Lp F' H' vs ys A'->Ok F' H' (T++A')->Lz F H A F' H' (T++A')->Q v H')
   (λ x ys=>∀ e H' F' A',RepX F' H' e x->Lp F' H' vs ys A'->Ok F' H' A'->Lz F H A F' H' A'->E (.ref e) none H')):LiftF s vs H Q E
def Gx(s:VSp):Sp:=LiftF s
def Bw(s:VSp):Prop:=∀ ds (Q Q':DK) (xe xe':XKd),(∀ d a,Q d a->Q' d a)->(∀ x a,xe x a->xe' x a)->s ds Q xe->s ds Q' xe'
def qk6(s:VSp)(dv:Ds)(tr:VTB):VT:=λ ds Q xe=>tr ds (λ xs ps ds1=>s (xs++dv) (λ d ys=>orF (As ps ys ds1) λ a=>Q d a) (λ x ys=>orF (As ps ys ds1) λ a=>xe x a)) xe
theorem qaq7{s:VSp}{dv:Ds}(f:Bw s)(g:VAs c X es tr):∀ ds (Q Q':DK) (xe b:XKd),(∀ d a,Q d a->Q' d a)->(∀ x a,xe x a->b x a)->qk6 s dv tr ds Q xe->qk6 s dv tr ds Q' b :=
 λ ds Q Q' xe b h e=>g.m _ _ _ _ _ (λ k l i=>f _ _ _ _ _ (λ d j=>qa5 λ z=>h _ _) (λ x j=>qa5 λ z=>e _ _)) e
def Jy(dvs:List V)(dv:Ds):Prop:=∀ F H,Lp F H dvs dv []
theorem qz9:Jy [] []:=λ _ _=>.nil
theorem qaO3{s:VSp}{dvs:List V}{dv:Ds}(G:Jy dvs dv)(I:Bw s)(J:VAs c X es tr):∀ σ H Q,Bh c (qk6 s dv tr) σ H Q->Jb (Gx s) dvs c.E (Ga c tr) σ H Q:=by
 rintro σ H Q ⟨F,K,A,L,S,x,q⟩;refine⟨F,K,A,L,S,x,J.m _ _ _ _ _ (λ B U h q M H1 F1 T A1 N C S1 a D=>?_) (λ _ _ z=>z) q⟩;have rall:Lp F1 H1 (M++dvs) (B++dv) (T++[]):=N.append (G F1 H1);rw[zAe] at rall;refine⟨F1,B++dv,T,rall,a.left,I _ _ _ _ _ (λ d O q v H2 F2 T2 A2 P l n i=>?_) (λ y O q e H2 F2 A2 R l n i=>?_) q⟩
 . obtain⟨j,o,q⟩:=qa7.mp q
   have f:Ok F1 H1 (A1++T):=a.count λ b=>by simp only[zA0];lia
   obtain⟨p,r⟩:=i.frame f S1.loc.cells n;have L1:Locs F2 H2 (σ++c.gv) h A1:=S1.loc.keep (i.kp a.left rall.cells) λ b t g=>by
     have:=a.sep b
     rw[zA0] at this
     have:=qa9.mp t
     lia
   obtain⟨A3,u,q2⟩:=qu1 C l L1 o;have g:∀ b,(T2++A3).count b<=(A1++(T2++A2)).count b:=λ b=>by simp only[zA0];have:=q2 b;lia
   have k:Ok F2 H2 (T2++A3):=p.count g;have w:Lz F H A F2 H2 (T2++A3):=(D.trans (r.pre λ b=>by simp only[zA0];lia)).count g;exact q v H2 F2 T2 A3 P ⟨u,k.right,S.len,S.ag⟩ k w
 obtain⟨j,o,q⟩:=qa7.mp q;have f:Ok F1 H1 (A1++T):=a.count λ b=>by simp only[zA0];lia
 obtain⟨p,r⟩:=i.frame f S1.loc.cells n;have L1:Locs F2 H2 (σ++c.gv) h A1:=S1.loc.keep (i.kp a.left rall.cells) λ b t g=>by
   have:=a.sep b
   rw[zA0] at this
   have:=qa9.mp t
   lia
 obtain⟨A3,u,q2⟩:=qu1 C l L1 o;have g:∀ b,A3.count b<=(A1++A2).count b:=λ b=>by simp only[zA0];have:=q2 b;lia
 have k:Ok F2 H2 A3:=p.count g;have w:Lz F H A F2 H2 A3:=(D.trans (r.pre λ b=>by simp only[zA0];lia)).count g;exact x y j σ e H2 F2 A3 q R ⟨u,k,S.len,S.ag⟩ w
end
structure Gj(cm:Bool)(P:Program)(w:World)(K:W.Frag)(mg:Str->Option V')(base:Heap)(k:Nat)(f:γ)(fd:ε)(ps:List Str)(s:VSp):Prop where
 ok:Eo cm P w K mg base (CX1 P w) k f fd ps (Gx s)
 m:Bw s
abbrev VFn:=Gj true
section
variable{c:Vc}{X:Cx}{a e:Expr}{es:List Expr}{tr:VTB}{F F1:γ->Prop}{H H1:Hp}{σ:St}{ds ds1:Ds}{A A1 T:List γ}{pos p apos:Pos}{x qual m:Str}{st:Stmt}{f C:γ}{fd:ε}{ps:List Str}{k:Nat}{s:VSp}{dvs:List V}{dv:Ds}
theorem Ah(D:Df X.K X.mg x qual st f fd ps)(G:Gj cm X.prog X.w X.K X.mg X.base k f fd ps s)(i:Lands X c.E)(j:L6 cm k X.A)(a:VAs c X (e::es) tr)(l:Gl X x:=by rfl)(d:N' x:=by decide)(n:Ko (e::es) X.env=(false,eval e X.env)::Ko es X.env:=by rfl)(g:(backTo pos (Ko es X.env)).any (·.1)=false:=by rfl):VE c X (.Call (.Name x p) (e::es) [] pos) (qk6 s [] tr) :=
 ⟨PE.mono (qat7 G.ok j l D.m D.F.kp D.b .nil i.passes a.h d n g) (qaO3 qz9 G.m a),qaq7 G.m a⟩
theorem qaO4{xs:Ds}{pls:List Pl}{xe:XKd}{K:DK}(B:Jy dvs dv)(C:Bw s)(S:L5 c F H σ ds A)(x:Xc c xe F H A)(r1:Lp F1 H1 vs xs T)(w:F6 (σ++c.gv) vs pls)(S1:L5 c F1 H1 σ ds1 A1)(f:Ok F1 H1 (T++A1))(z:Lz F H A F1 H1 (T++A1))(D:∀ d i,K d i->∀ v H' F' T A',Lx F' H' v d T->L5 c F' H' σ i A'->Ok F' H' (T++A')->Lz F H A F' H' (T++A')->Q v H')(q:s (xs++dv) (λ d ys=>orF (As pls ys ds1) λ a=>K d a) (λ x ys=>orF (As pls ys ds1) λ a=>xe x a)):Gx s (vs++dvs) H1 Q (c.E σ):=by
 have rall:Lp F1 H1 (vs++dvs) (xs++dv) (T++[]):=r1.append (B F1 H1);rw[zAe] at rall;refine⟨F1,xs++dv,T,rall,f.left,C _ _ _ _ _ (λ d ys q v H2 F2 T2 A2 G l m j=>?_) (λ y ys q e H2 F2 A2 I l m j=>?_) q⟩
 . obtain⟨a,n,q⟩:=qa7.mp q
   have g:Ok F1 H1 (A1++T):=f.count λ b=>by simp only[zA0];lia
   obtain⟨o,p⟩:=j.frame g S1.loc.cells m;have L1:Locs F2 H2 (σ++c.gv) ds1 A1:=S1.loc.keep (j.kp f.left rall.cells) λ b r h=>by
     have:=f.sep b
     rw[zA0] at this
     have:=qa9.mp r
     lia
   obtain⟨A3,t,q2⟩:=qu1 w l L1 n;have h:∀ b,(T2++A3).count b<=(A1++(T2++A2)).count b:=λ b=>by simp only[zA0];have:=q2 b;lia
   have k:Ok F2 H2 (T2++A3):=o.count h;have u:Lz F H A F2 H2 (T2++A3):=(z.trans (p.pre λ b=>by simp only[zA0];lia)).count h;exact D d a q v H2 F2 T2 A3 G ⟨t,k.right,S.len,S.ag⟩ k u
 obtain⟨a,n,q⟩:=qa7.mp q;have g:Ok F1 H1 (A1++T):=f.count λ b=>by simp only[zA0];lia
 obtain⟨o,p⟩:=j.frame g S1.loc.cells m;have L1:Locs F2 H2 (σ++c.gv) ds1 A1:=S1.loc.keep (j.kp f.left rall.cells) λ b r h=>by
   have:=f.sep b
   rw[zA0] at this
   have:=qa9.mp r
   lia
 obtain⟨A3,t,q2⟩:=qu1 w l L1 n;have h:∀ b,A3.count b<=(A1++A2).count b:=λ b=>by simp only[zA0];have:=q2 b;lia
 have k:Ok F2 H2 A3:=o.count h;have u:Lz F H A F2 H2 A3:=(z.trans (p.pre λ b=>by simp only[zA0];lia)).count h;exact x y a σ e H2 F2 A3 q I ⟨t,k,S.len,S.ag⟩ u
def D.isM(C:γ)(m:Str):D->Bool
 | .ins _ C' fs=>decide (C'=C)&&(fs.lookup m).isNone
 | _=>false
theorem qD0{α β:Type}:∀{fs:List (Str×α)}{a:List (Str×β)}{f:Str},fs.map (·.1)=a.map (·.1)->(fs.lookup f).isNone=(a.lookup f).isNone
 | [],[],_,_=>rfl
 | [],_::_,_,h=>by simp at h
 | _::_,[],_,h=>by simp at h
 | (k,_)::r,(k',_)::r',f,h=>by
   have b:k=k':=by simp at h;exact h.1
   have c:r.map (·.1)=r'.map (·.1):=by simp at h;simpa using h.2
   subst b;rw[zAt,zAt];cases f == k with
   | true=>rfl
   | false=>exact qD0 c
theorem Lx.isM{d:D}{B:List γ}(r:Lx F H v d B)(h:d.isM C m=true):∃ a dx fs,v=.ref a/\H a=some (.ins C dx fs)/\fs.lookup m=none:=by
 cases d with
 | ins z C' f =>
   have h:=zAh.mp h;obtain⟨a,dx,b,A,rfl,g,e,i,_⟩:=r.ins_inv
   have:=zAc h.1
   subst this;refine⟨a,dx,b,rfl,g,?_⟩;have c:=h.2;rw[<- qD0 e] at c;exact Option.isNone_iff_eq_none.mp c
 | _=>cases h
def qA2(C:γ)(m:Str)(s:VSp)(dv:Ds)(i:Nat)(tr:VTB):VT:=λ ds Q xe=>(orF (rdN i ds) λ d=>d.isM C m=true)/\tr ds (λ xs ps ds1=>orF (rdN i ds1) λ d=>s (d::(xs++dv)) (λ r ys=>orF (As (.sl i::ps) ys (ds1.set i .u)) λ a=>Q r a) (λ x ys=>orF (As (.sl i::ps) ys (ds1.set i .u)) λ a=>xe x a)) xe
theorem qJ7(f:Bw s)(g:VAs c X es tr):∀ ds (Q Q':DK) (xe b:XKd),(∀ d a,Q d a->Q' d a)->(∀ x a,xe x a->b x a)->qA2 C m s dv i tr ds Q xe->qA2 C m s dv i tr ds Q' b :=
 λ ds Q Q' xe b h e=>And.imp_right (g.m _ _ _ _ _ (λ l n j=>qa5 λ d=>f _ _ _ _ _ (λ d k=>qa5 λ z=>h _ _) (λ x k=>qa5 λ z=>e _ _)) e)
theorem qaf6{σ:St}{H:Hp}(w:Jy dvs dv)(y:Bw s)(D:VAs c X es tr)(hi:i < σ.length)(q:Bh c (qA2 C m s dv i tr) σ H Q):Jc C m (Gx s) dvs c.E (Fx i) (Ga c tr) σ H Q:=by
 obtain⟨F,G,A,I,S,x,f,q⟩:=q;obtain⟨Z,J,f⟩:=qa7.mp f;obtain⟨v,B0,e,K,_⟩:=S.name hi J;obtain⟨a,L,M,rfl,g,j⟩:=K.isM f;refine⟨.ref a,e,a,L,M,rfl,g,j,F,G,A,I,S,x,D.m _ _ _ _ _ (λ r ps N q t H2 F2 T2 A2 O P S2 u R=>?_) (λ _ _ z=>z) q⟩;obtain⟨d,k,q⟩:=qa7.mp q;obtain⟨k,l⟩:=ql0.mp k;obtain⟨v',B,C0,n,T,U,V⟩:=S2.put1 k (ql3 l);have o:=n;rw[zAr hi,e] at n;cases n;obtain⟨A3,W,q2⟩:=V .u [] (Kp.same (F:=F2) λ _ _ z=>z) (λ _ _ z=>z) (.u _);have p:∀ b,((B++T2)++A3).count b<=(T2++A2).count b:=λ b=>by simp only[zA0,q2,U];simp;lia
 exact qaO4 (vs:=.ref a::t) (xs:=d::r) w y S x (.cons T O) (.sl o P) ⟨W,(u.count p).right,S.len,S.ag⟩ (u.count p) (R.count p) (λ d Y h=>h) q
theorem qk4{pl:Sem Bool}(i:Nat){xn:Str}{p0:Pos}(D:Md X.K C m qual st f fd ps)(n:Cls X.K C)(G:Gj cm X.prog X.w X.K X.mg X.base k f fd ps s)(o:Lands X c.E)(p:L6 cm k X.A)(a:VAs c X (e::es) tr)(l:X.N[i]? = some xn:=by rfl)(r:Vis X.env.scope xn:=by first | exact Or.inl rfl | exact Or.inr (Or.inl rfl) | exact Or.inr (Or.inr rfl))(t:N' xn:=by decide)(d:(xn == ("__classdict__" : Str))=false:=by decide)(g:Ko (e::es) X.env=(false,eval e X.env)::Ko es X.env:=by rfl)(j:(backTo pos (Ko es X.env)).any (·.1)=false:=by rfl)(u:eval (.Call (.Attribute (.Name xn p0) m apos) (e::es) [] pos) X.env=(do
     let ov <- eval (.Name xn p0) X.env
     standAt apos.atName
     let (f,first) <- holding [ov] (getMethod ov m pl)
     callWith pos f first (backTo pos (Ko (e::es) X.env)) (backToKw pos (K5 [] X.env))):=by rfl):VE c X (.Call (.Attribute (.Name xn p0) m apos) (e::es) [] pos) (qA2 C m s [] i tr) :=
 ⟨λ E3 s σ H Q I q=>qat3 (qk1 l r t d) n D.me G.ok p D.b .nil o.passes a.h g j u E3 s σ H Q I (qaf6 qz9 G.m a (qk3 l E3 σ H s I) q),qJ7 G.m a⟩
theorem qq6{pl:Sem Bool}(i:Nat){xn:Str}{p0:Pos}(D:Md X.K C m qual st f fd ps)(j:Cls X.K C)(G:Gj cm X.prog X.w X.K X.mg X.base k f fd ps s)(l:Lands X c.E)(n:L6 cm k X.A)(g:X.N[i]? = some xn:=by rfl)(d:Vis X.env.scope xn:=by first | exact Or.inl rfl | exact Or.inr (Or.inl rfl) | exact Or.inr (Or.inr rfl))(o:N' xn:=by decide)(e:(xn == ("__classdict__" : Str))=false:=by decide)(p:eval (.Call (.Attribute (.Name xn p0) m apos) [] [] pos) X.env=(do
     let ov <- eval (.Name xn p0) X.env
     standAt apos.atName
     let (f,first) <- holding [ov] (getMethod ov m pl)
     callWith pos f first (backTo pos (Ko [] X.env)) (backToKw pos (K5 [] X.env))):=by rfl):VE c X (.Call (.Attribute (.Name xn p0) m apos) [] [] pos) (qA2 C m s [] i Ax) :=
 ⟨λ E3 h σ H Q I q=>qay9 (qk1 g d o e) j D.me G.ok n D.b .nil l.passes p E3 h σ H Q I (by
   obtain⟨v,d,a,r,t,u,x,y,F2,z,A2,B,S2,F,q2⟩:=qaf6 (c:=c) (X:=X) qz9 G.m Ad (qk3 g E3 σ H h I) q;exact⟨v,d,a,r,t,u,x,y,q2 [] H F2 [] A2 .nil .nil S2 S2.ok Lz.refl⟩),qJ7 (c:=c) G.m (X:=X) Ad⟩
def qX1(C:γ)(s:VSp)(dv:Ds)(tr:VTB):VT:=λ ds Q xe=>tr ds (λ xs ps ds1=>s (.ins false C []::(xs++dv)) (λ d ys=>d.isN=some true/\orF ys.head? λ self=>orF (As ps ys.tail ds1) λ a=>Q self a) (λ x ys=>orF (As ps ys.tail ds1) λ a=>xe x a)) xe
theorem qT4(f:Bw s)(g:VAs c X es tr):∀ ds (Q Q':DK) (xe b:XKd),(∀ d a,Q d a->Q' d a)->(∀ x a,xe x a->b x a)->qX1 C s dv tr ds Q xe->qX1 C s dv tr ds Q' b :=
 λ ds Q Q' xe b h e=>g.m _ _ _ _ _ (λ k l i=>f _ _ _ _ _ (λ d j=>And.imp_right (qa5 λ z=>qa5 λ w=>h _ _)) (λ x j=>qa5 λ z=>e _ _)) e
theorem qau4(O:Jy dvs dv)(P:Bw s)(R:VAs c X es tr):∀ σ H Q,Bh c (qX1 C s dv tr) σ H Q->tMake C (Gx s) dvs c.E (Ga c tr) σ H Q:=by
 rintro σ H Q ⟨F,U,A,V,S,x,q⟩;refine⟨F,U,A,V,S,x,R.m _ _ _ _ _ (λ W ps i q Y H1 F1 T A1 L M S1 Z s1=>?_) (λ _ _ z=>z) q⟩;intro y a o p r;have same:Same H1 (upd (upd H1 a (.own y)) y (.ins C a [])):=(Same.new p).trans (Same.new (by rw[qb4 (Ne.symm r)];exact o));have rall:Lp F1 (upd (upd H1 a (.own y)) y (.ins C a [])) (.ref y::(Y++dvs)) (.ins false C []::(W++dv)) ([y]++(T++[])) :=
   .cons (.ins qb3 rfl .nil) ((L.append (O F1 H1)).same same)
 rw[zAe] at rall;have j:Ok F1 (upd (upd H1 a (.own y)) y (.ins C a [])) ([y]++(T++A1)):=(qg7 o).ok Z (λ b f=>by
   rcases zAb.mp f with f | f
   . exact L.cells b f
   exact S1.loc.cells b f) same
 have t:Ok F1 (upd (upd H1 a (.own y)) y (.ins C a [])) ([y]++T):=j.count λ b=>by simp only[zA0];lia
 have N:Lz F H A F1 (upd (upd H1 a (.own y)) y (.ins C a [])) ([y]++(T++A1)):=s1.trans ((qg7 o).stp same);have S1':=S1.same same;refine⟨F1,_,[y]++T,rall,t,P _ _ _ _ _ (λ d ys q v H2 F2 T2 A2 r2 u w k=>?_) (λ ex ys q e H2 F2 A2 rx u w k=>?_) q⟩
 . obtain⟨hn,q⟩:=q
   have hv:v=.non:=by
     cases d with
     | non=>cases r2;rfl
     | _=>cases hn
   refine⟨hv,?_⟩;obtain⟨self,eh,q⟩:=qa7.mp q;obtain⟨l,B,D⟩:=qa7.mp q;have h:Ok F1 _ (A1++([y]++T)):=j.count λ b=>by simp only[zA0];lia
   obtain⟨G,I⟩:=k.frame h S1'.loc.cells w;have L1:Locs F2 H2 (σ++c.gv) i A1:=S1'.loc.keep (k.kp t rall.cells) λ b f g=>by
     have:=j.sep b
     simp only[zA0] at this g
     have:=qa9.mp f
     lia
   cases u with
   | @cons _ d0 Aself _ ys' B' rself rrest =>
     cases eh;obtain⟨A3,J,q2⟩:=qu1 M rrest L1 B;have g:∀ b,(Aself++A3).count b<=(A1++(T2++(Aself++B'))).count b:=λ b=>by simp only[zA0];have:=q2 b;lia
     have n:=G.count g;have K:Lz F H A F2 H2 (Aself++A3):=(N.trans (I.pre λ b=>by simp only[zA0];lia)).count g;exact D (.ref y) H2 F2 Aself A3 rself ⟨J,n.right,S.len,S.ag⟩ n K
 obtain⟨l,B,D⟩:=qa7.mp q;have h:Ok F1 _ (A1++([y]++T)):=j.count λ b=>by simp only[zA0];lia
 obtain⟨G,I⟩:=k.frame h S1'.loc.cells w;have L1:Locs F2 H2 (σ++c.gv) i A1:=S1'.loc.keep (k.kp t rall.cells) λ b f g=>by
   have:=j.sep b
   simp only[zA0] at this g
   have:=qa9.mp f
   lia
 cases u with
 | @cons _ d0 Aself _ ys' B' rself rrest =>
   obtain⟨A3,J,q2⟩:=qu1 M rrest L1 B;have g:∀ b,A3.count b<=(A1++(Aself++B')).count b:=λ b=>by simp only[zA0];have:=q2 b;lia
   have n:=G.count g;have K:Lz F H A F2 H2 A3:=(N.trans (I.pre λ b=>by simp only[zA0];lia)).count g;exact x ex l σ e H2 F2 A3 D rx ⟨J,n,S.len,S.ag⟩ K
theorem emake(i:Cl X.K X.mg x C)(M:Mk X.K C f)(D:Md X.K C m qual st f fd ps)(G:Gj cm X.prog X.w X.K X.mg X.base k f fd ps s)(j:Lands X c.E)(l:L6 cm (k+1) X.A)(a:VAs c X (e::es) tr)(n:Gl X x:=by rfl)(d:N' x:=by decide)(o:Ko (e::es) X.env=(false,eval e X.env)::Ko es X.env:=by rfl)(g:(backTo pos (Ko es X.env)).any (·.1)=false:=by rfl):VE c X (.Call (.Name x p) (e::es) [] pos) (qX1 C s [] tr) :=
 ⟨PE.mono (qat4 M G.ok l n i.m D.b .nil j.passes a.h d o g) (qau4 qz9 G.m a),qT4 G.m a⟩
def tLstV(tr:VTB):VT:=λ ds Q xe=>tr ds (λ xs ps ds1=>xs.length<=big/\Q (.l false xs) ds1) xe
def Jz(tr:VTB):VT:=λ ds Q xe=>tr ds (λ xs ps ds1=>xs.length<=big/\Q (.q xs) ds1) xe
theorem elst(d:VAs c X es tr):VE c X (.List es pos) (tLstV tr):=by
 refine⟨PE.mono (qaz0 d.h) λ σ H Q e=>?_,λ j Q Q' k l n o=>d.m _ _ _ _ _ (λ p r f=>And.imp_right (n _ _)) o⟩;obtain⟨F,j,A,k,S,x,q⟩:=e;refine⟨F,j,A,k,S,x,d.m _ _ _ _ _ (λ p r f q s H1 F1 T A1 g B S1 t v=>⟨by rw[g.len];exact zAp q.1 qi2,λ y i=>?_⟩) (λ _ _ z=>z) q⟩;have same:=Same.new (u:=.l s) i;have w:=(qg7 i).ok t (λ b a=>by
   rcases zAb.mp a with a | a
   . exact g.cells b a
   exact S1.loc.cells b a) same
 exact q.2 (.ref y) _ F1 (y::T) A1 (.l qb3 (g.same same)) (S1.same same) w (v.trans ((qg7 i).stp same))
theorem etup(a:VAs c X es tr):VE c X (.Tuple es n pos) (Jz tr):=by
 refine⟨PE.mono (qaI7 a.h) λ σ H Q b=>?_,λ e Q Q' f j k l=>a.m _ _ _ _ _ (λ o p d=>And.imp_right (k _ _)) l⟩;obtain⟨F,e,A,f,S,x,q⟩:=b;refine⟨F,e,A,f,S,x,a.m _ _ _ _ _ (λ o p d q r H1 F1 T A1 g v S1 s t=>⟨by rw[g.len];exact zAp q.1 qi2,λ y i=>?_⟩) (λ _ _ z=>z) q⟩;have same:=Same.new (u:=.q r) i;exact q.2 (.ref y) _ F1 T A1 (qaf3 i g) (S1.same same) (s.same same) (t.trans (.same same))
end
structure VEnds where
 nx:Ds->Prop
 rt:DK
 bk:Ds->Prop
 ct:Ds->Prop
 xe:XKd
abbrev VTS:=VEnds->Ds->Prop
structure VEnds.Le(e e':VEnds):Prop where
 nx:∀ ds,e.nx ds->e'.nx ds
 rt:∀ d ds,e.rt d ds->e'.rt d ds
 bk:∀ ds,e.bk ds->e'.bk ds
 ct:∀ ds,e.ct ds->e'.ct ds
 xe:∀ x ds,e.xe x ds->e'.xe x ds
structure Lk(c:Vc)(E:Eb)(F:γ->Prop)(H:Hp)(A:List γ)(e:VEnds):Prop where
 nx:∀ ds' σ' H' F' A',e.nx ds'->L5 c F' H' σ' ds' A'->Lz F H A F' H' A'->E.nx σ' H'
 rt:∀ d ds' v σ' H' F' T A',e.rt d ds'->Lx F' H' v d T->L5 c F' H' σ' ds' A'->Ok F' H' (T++A')->Lz F H A F' H' (T++A')->E.rt v H'
 bk:∀ ds' σ' H' F' A',e.bk ds'->L5 c F' H' σ' ds' A'->Lz F H A F' H' A'->E.bk σ' H'
 ct:∀ ds' σ' H' F' A',e.ct ds'->L5 c F' H' σ' ds' A'->Lz F H A F' H' A'->E.ct σ' H'
 xe:Xc c e.xe F H A
theorem Lk.step{c:Vc}{E:Eb}{F F1:γ->Prop}{H H1:Hp}{A A1:List γ}{e:VEnds}(l:Lk c E F H A e)(s:Lz F H A F1 H1 A1):Lk c E F1 H1 A1 e :=
 ⟨λ a σ' H' F' A' h S t=>l.nx a σ' H' F' A' h S (s.trans t),λ d a v σ' H' F' T A' h r S o t=>l.rt d a v σ' H' F' T A' h r S o (s.trans t),λ a σ' H' F' A' h S t=>l.bk a σ' H' F' A' h S (s.trans t),λ a σ' H' F' A' h S t=>l.ct a σ' H' F' A' h S (s.trans t),l.xe.step s⟩
inductive LiftS(c:Vc)(t:VTS)(E:Eb)(σ:St)(H:Hp):Prop
 | mk (F:γ->Prop) (ds:Ds) (A:List γ) (e:VEnds) (S:L5 c F H σ ds A) (l:Lk c E F H A e) (q:t e ds):LiftS c t E σ H
def Ez(c:Vc)(t:VTS):TS:=LiftS c t
structure VS(c:Vc)(X:Cx)(st:Stmt)(t:VTS):Prop where
 h:PS X st (Ez c t)
 m:∀(e e':VEnds) ds,e.Le e'->t e ds->t e' ds
structure VSs(c:Vc)(X:Cx)(st:List Stmt)(t:VTS):Prop where
 h:PSs X st (Ez c t)
 m:∀(e e':VEnds) ds,e.Le e'->t e ds->t e' ds
section
variable{c:Vc}{X:Cx}{a b e:Expr}{st:Stmt}{rest:List Stmt}{t u:VTS}{te:VT}{pos:Pos}
def Gy:VTS:=λ e ds=>e.nx ds
def Gk(t u:VTS):VTS:=λ e ds=>t { e with nx:=u e } ds
theorem Au:VSs c X [] Gy:=⟨PSs.mono qat0 λ E σ H ⟨F,a,A,e,S,l,q⟩=>l.nx a σ H F A q S Lz.refl,λ e b a h=>h.nx a⟩
theorem Ab(h1:VS c X st t)(h2:VSs c X rest u):VSs c X (st::rest) (Gk t u):=by
 refine⟨PSs.mono (qO9 h1.h h2.h) λ E σ H a=>?_,λ e f b h=>h1.m _ _ _ ⟨λ b=>h2.m _ _ _ h,h.rt,h.bk,h.ct,h.xe⟩⟩;obtain⟨F,b,A,e,S,l,q⟩:=a;exact⟨F,b,A,{ e with nx:=u e },S,⟨λ d σ' H' F' A' q S' s=>⟨F',d,A',e,S',l.step s,q⟩,l.rt,l.bk,l.ct,l.xe⟩,q⟩
theorem Ag(h1:VS c X st t):VSs c X [st] t:=⟨qm3 h1.h,h1.m⟩
def sRet(te:VT):VTS:=λ e ds=>te ds e.rt e.xe
theorem Ap(h:VE c X e te):VS c X (.Return (some e) pos) (sRet te):=by
 refine⟨PS.mono (qY8 h.h) λ E σ H ⟨F,b,A,e,S,l,q⟩=>⟨F,b,A,e.xe,S,l.xe,h.m _ _ _ _ _ (λ d a q v H' F' T A' r S' o s=>l.rt d a v σ H' F' T A' q r S' o s) (λ _ _ z=>z) q⟩,λ e g b f=>h.m _ _ _ _ _ f.rt f.xe⟩
def sExpr(te:VT):VTS:=λ e ds=>te ds (λ _ a=>e.nx a) e.xe
theorem Bc(h:VE c X e te)(i:swapsWith e none pos.line X.env=pure false:=by rfl):VS c X (.Expr e pos) (sExpr te):=by
 refine⟨PS.mono (qaH8 h.h i) λ E σ H ⟨F,f,A,e,S,l,q⟩=>⟨F,f,A,e.xe,S,l.xe,h.m _ _ _ _ _ (λ d a q v H' F' T A' r S' o s=>l.nx a σ H' F' A' q S' (s.count λ b=>by rw[zA0];lia)) (λ _ _ z=>z) q⟩,λ e j f g=>h.m _ _ _ _ _ (λ _=>g.nx) g.xe⟩
def sIf(qc:VTT)(t u:VTS):VTS:=λ e ds=>qc ds (λ k a=>if k=true then t e a else u e a) e.xe
theorem sif{x y:List Stmt}{qc:VTT}(b:VTe c X cd qc)(g:VSs c X x t)(i:VSs c X y u):VS c X (.If cd x y pos) (sIf qc t u):=by
 refine⟨PS.mono (ps_if b.h g.h i.h) λ E σ H d=>?_,λ e n j f=>b.m _ _ _ _ _ (λ k a=>qD2 (g.m _ _ _ f) (i.m _ _ _ f)) f.xe⟩;obtain⟨F,j,A,e,S,l,q⟩:=d;refine⟨F,j,A,e.xe,S,l.xe,b.m _ _ _ _ _ (λ k a q H' F' A' S' s=>?_) (λ _ _ z=>z) q⟩;cases k with
 | true=>rw[if_pos rfl] at q ⊢;exact⟨F',a,A',e,S',l.step s,q⟩
 | false=>rw[if_neg (by decide)] at q ⊢;exact⟨F',a,A',e,S',l.step s,q⟩
def qaQ7:VTS:=λ _ _=>False
theorem qr2:VS c X st qaQ7:=⟨λ _ _ _ _ _ _ ⟨_,_,_,_,_,_,q⟩=>q.elim,λ _ _ _ _ q=>q.elim⟩
abbrev VTG:=D->Ds->(Ds->Prop)->Prop
inductive LiftG(c:Vc)(g:VTG)(v:V)(σ:St)(H:Hp)(Q:St->Hp->Prop):Prop
 | mk (F:γ->Prop) (ds:Ds) (A T:List γ) (d:D) (r:Lx F H v d T) (S:L5 c F H σ ds A) (o:Ok F H (T++A)) (q:g d ds (λ ds'=>∀ σ' H' F' A',L5 c F' H' σ' ds' A'->Lz F H (T++A) F' H' A'->Q σ' H')):LiftG c g v σ H Q
def Gb(c:Vc)(g:VTG):TG:=LiftG c g
structure VG(c:Vc)(X:Cx)(e:Expr)(g:VTG):Prop where
 h:PG X e (Gb c g)
 m:∀ d ds (Q Q':Ds->Prop),(∀ ds',Q ds'->Q' ds')->g d ds Q->g d ds Q'
theorem PG.mono{g g':TG}(h:PG X e g)(i:∀ v σ H Q,g' v σ H Q->g v σ H Q):PG X e g':=λ E3 s σ H v u Q I r q=>h E3 s σ H v u Q I r (i v σ H Q q)
theorem L5.store{F:γ->Prop}{H:Hp}{σ:St}{ds:Ds}{A T:List γ}{d:D}(S:L5 c F H σ ds A)(m:c.W i=false)(hi:i < σ.length)(r:Lx F H v d T)(o:Ok F H (T++A)) :
   ∃ A',L5 c F H (σ.set i (some v)) (ds.set i d) A'/\Lz F H (T++A) F H A':=by
 have n:=S.loc.len;rw[zA7] at n;obtain⟨σ1,x,σ2,e,f,A1,B,A2,p,e2,q,s,t,u,y,w⟩:=S.loc.split (i:=i) (d:=ds[i]'(by lia)) (by simp);have hσ:σ.set i (some v)++c.gv=σ1++some v::σ2:=by
   rw[<- List.set_append_left _ _ hi,p,qo6 q]
 have g:ds.set i d=e++d::f:=by
   have:=congrArg (λ l=>l.set i d) e2
   rw[this,qo6 s]
 have a:∀ b,(A1++(T++A2)).count b<=(T++A).count b:=λ b=>by rw[t];simp only[zA0];lia
 refine⟨A1++(T++A2),⟨by rw[hσ,g];exact u.append (.so r w),o.count a,?_,λ j h=>?_⟩,Lz.refl.count a⟩
 . rw[S.len,zA7,zA7,List.length_set]
 have k:i≠j:=λ z=>by subst z;rw[m] at h;cases h
 rw[<- S.ag j h,<- List.set_append_left _ _ hi,zBc k]
def gNm(i:Nat):VTG:=λ d ds Q=>Q (ds.set i d)
theorem Bf(i:Nat){x:Str}(b:X.N.Nodup)(e:c.W i=false:=by rfl)(hi:X.N[i]? = some x:=by rfl)(f:Loc X.env.scope x:=by first | exact Or.inl rfl | exact Or.inr rfl)(g:X.fn x=true∨X.env.scope.names.lookup x=some .local:=by first | exact .inl rfl | exact .inr rfl | assumption):VG c X (.Name x pos) (gNm i):=by
 refine⟨λ E3 s σ H v h Q I j a=>?_,λ d k Q Q' l=>l _⟩;obtain⟨F,k,A,T,d,r,S,o,q⟩:=a;refine qat2 b hi f g E3 s σ H v h Q I j ?_;obtain⟨A',S',m⟩:=S.store e (qk3 hi E3 σ H s I) r o;exact q _ H F A' S' m
def E7(te:VT)(g:VTG):VTS:=λ e ds=>te ds (λ d a=>g d a e.nx) e.xe
theorem qaX5{tg:Expr}{g:VTG}(h:VE c X e te)(f:VG c X tg g):∀ E σ H,Ez c (E7 te g) E σ H->Ib (Bh c te) (Gb c g) E σ H:=by
 rintro E σ H ⟨F,i,A,j,S,l,q⟩;refine⟨F,i,A,j.xe,S,l.xe,h.m _ _ _ _ _ (λ d a q v H' F' T A' r S' o s=>?_) (λ _ _ z=>z) q⟩;exact⟨F',a,A',T,d,r,S',o,f.m _ _ _ _ (λ b q σ2 H2 F2 A2 S2 k=>l.nx b σ2 H2 F2 A2 q S2 (s.trans k)) q⟩
theorem qaj8{tg:Expr}{g:VTG}(h:VE c X e te)(f:VG c X tg g):∀(en a:VEnds) ds,en.Le a->E7 te g en ds->E7 te g a ds:=λ en a ds b=>h.m _ _ _ _ _ (λ d i=>f.m _ _ _ _ b.nx) b.xe
theorem Fs{tg:Expr}{g:VTG}(h:VE c X e te)(a:VG c X tg g)(b:swapsWithSole [tg] e pos.line X.env=pure false:=by rfl)(d:swappedStores [tg] e X.env=pure none:=by rfl)(h1:(La [tg] X.env).map (·.2)=[assign tg X.env]:=by rfl):VS c X (.Assign [tg] e pos) (E7 te g) :=
 ⟨PS.mono (qaR4 h.h a.h b d h1) (qaX5 h a),qaj8 h a⟩
theorem Aj(i:Nat){x:Str}{pos':Pos}(a:X.N.Nodup)(h:VE c X e te)(b:c.W i=false:=by rfl)(hi:X.N[i]? = some x:=by rfl)(f:Loc X.env.scope x:=by first | exact Or.inl rfl | exact Or.inr rfl)(j:swapsWith e (some (.Name x pos')) pos.line X.env=pure false:=by rfl)(g:X.fn x=true∨X.env.scope.names.lookup x=some .local:=by first | exact .inl rfl | exact .inr rfl | assumption) :
   VS c X (.Assign [.Name x pos'] e pos) (E7 te (gNm i)):=by
 have k:VG c X (.Name x pos') (gNm i):=Bf i a b hi f g;refine⟨λ E3 s σ H E I q=>qaH7 a hi f h.h j g E3 s σ H E I ?_,qaj8 h k⟩;obtain⟨F,n,A,p,S,l,q⟩:=q;refine⟨F,n,A,p.xe,S,l.xe,h.m _ _ _ _ _ (λ d t q v H' F' T A' r S' o u=>?_) (λ _ _ z=>z) q⟩;obtain⟨A2,S2,w⟩:=S'.store b (qk3 hi E3 σ H s I) r o;exact l.nx _ _ H' F' A2 q S2 (u.trans w)
abbrev Gm:=Ds->Ds->(Ds->Prop)->Prop
inductive qaP4(c:Vc)(g:Gm)(vs:List V)(σ:St)(H:Hp)(Q:St->Hp->Prop):Prop
 | mk (F:γ->Prop) (ds:Ds) (A T:List γ) (xs:Ds) (r:Lp F H vs xs T) (S:L5 c F H σ ds A) (o:Ok F H (T++A)) (q:g xs ds (λ ds'=>∀ σ' H' F' A',L5 c F' H' σ' ds' A'->Lz F H (T++A) F' H' A'->Q σ' H')):qaP4 c g vs σ H Q
def qaT9(c:Vc)(g:Gm):TGs:=qaP4 c g
structure VGs(c:Vc)(X:Cx)(es:List Expr)(g:Gm):Prop where
 h:PGs X es (qaT9 c g)
 m:∀ xs ds (Q Q':Ds->Prop),(∀ ds',Q ds'->Q' ds')->g xs ds Q->g xs ds Q'
theorem PGs.mono{es:List Expr}{g g':TGs}(h:PGs X es g)(i:∀ v σ H Q,g' v σ H Q->g v σ H Q):PGs X es g':=λ E3 s σ H v u Q I r q=>h E3 s σ H v u Q I r (i v σ H Q q)
def gNilV:Gm:=λ xs ds Q=>match xs with | []=>Q ds | _=>False
def qaC6(g:VTG)(b:Gm):Gm:=λ xs ds Q=>match xs with | x::r=>g x ds λ a=>b r a Q | []=>False
theorem Hu:VGs c X [] gNilV:=by
 refine⟨PGs.mono qaI5 λ f σ H Q a=>?_,λ b d Q Q' e q=>by cases b with | nil=>exact e _ q | cons _ _=>exact q.elim⟩;obtain⟨F,d,A,T,b,r,S,o,q⟩:=a;cases b with
 | nil=>cases r;exact⟨rfl,q σ H F A S Lz.refl⟩
 | cons _ _=>exact q.elim
theorem qK8{tg:Expr}{es:List Expr}{g:VTG}{l:Gm}(h1:VG c X tg g)(h2:VGs c X es l)(s:(La (tg::es) X.env).map (·.2)=assign tg X.env::(La es X.env).map (·.2):=by rfl):VGs c X (tg::es) (qaC6 g l):=by
 refine⟨PGs.mono (qay8 h1.h h2.h s) λ e σ H Q ⟨F,n,A,T,d,r,S,o,q⟩=>?_,λ d n Q Q' t q=>by
   cases d with
   | nil=>exact q.elim
   | cons x r=>exact h1.m _ _ _ _ (λ u=>h2.m _ _ _ _ t) q⟩
 cases d with
 | nil=>exact q.elim
 | cons x d =>
   cases r with
   | @cons v _ T1 e _ T2 r1 rt =>
     refine⟨v,e,rfl,F,n,A,T1,x,r1,S,o.count λ b=>by simp only[zA0];lia,h1.m _ _ _ _ (λ f q σ1 H1 F1 A1 S1 p=>?_) q⟩;have i:Ok F H (T2++(T1++A)):=o.count λ b=>by simp only[zA0];lia
     obtain⟨w,y⟩:=p.frame i rt.cells S1.ok;have j:Ok F H (T1++A):=i.right;have k:Lp F1 H1 e d T2:=rt.keep (p.kp j λ b a=>by
       rcases zAb.mp a with a | a
       . exact r1.cells b a
       exact S.loc.cells b a) λ b a C=>by
       have:=i.sep b
       rw[zA0] at this
       have:=qa9.mp a
       lia
     exact⟨F1,f,A1,T2,d,k,S1,w,h2.m _ _ _ _ (λ z q σ2 H2 F2 A2 S2 B=>q σ2 H2 F2 A2 S2 ((y.pre λ b=>by simp only[zA0];lia).trans B)) q⟩
def gTupV(n:Nat)(a:Gm):VTG:=λ d ds Q=>match d with | .q xs=>xs.length=n/\a xs ds Q | _=>False
theorem Hv{es:List Expr}{k:Nat}{e:Gm}(j:X.calm=true)(h:VGs c X es e)(l:(La es X.env).length=n:=by rfl)(b:(La es X.env).findIdx? (·.1)=none:=by rfl):VG c X (.Tuple es k pos) (gTupV n e):=by
 refine⟨PG.mono (qaR8 j h.h l b) λ v σ H Q ⟨F,f,A,T,d,r,S,o,q⟩=>?_,λ d f Q Q' p q=>by
   cases d with
   | q g=>exact⟨q.1,h.m _ _ _ _ p q.2⟩
   | _=>exact q.elim⟩
 cases d with
 | q g =>
   obtain⟨a,s,rfl,t,i⟩:=r.tup_inv;exact⟨a,s,rfl,.inl (.inl t),by rw[i.len];exact q.1,F,f,A,T,g,i,S,o,q.2⟩
 | _=>exact q.elim
end
section
variable{c:Vc}{F:γ->Prop}{H:Hp}{σ:St}{ds:Ds}{A T:List γ}
theorem qM2{a:γ}{o o':HO}(h:H a=some o)(hm:Ew o=true)(c:¬ F a):Kp F H (λ b=>b=a) F (upd H a o') :=
 ⟨λ b u e w=>by rw[qb4 w];exact e,λ b w=>by subst w;exact⟨o,h,hm⟩,λ b w=>by subst w;exact c,λ _ f=>f⟩
theorem Lp.setAt{ys:List D}{Ael Tv:List γ}{d:D}(r:Lp F H vs ys Ael)(s:n < ys.length)(e:Lx F H v d Tv):∃ B,Lp F H (vs.set n v) (ys.set n d) B/\∀ b,B.count b<=Ael.count b+Tv.count b:=by
 obtain⟨f,w,g,a,c,A1,B,A2,h,e2,j,k,m,o,t,p⟩:=r.split (i:=n) (d:=ys[n]) (by simp);have q:ys.set n d=a++d::c:=by
   have:=congrArg (λ l=>l.set n d) e2
   rw[this,qo6 k]
 rw[h,qo6 j,q];exact⟨A1++(Tv++A2),o.append (.cons e p),λ b=>by rw[m];simp only[zA0];lia⟩
theorem qP8{ys:List D}{B:List γ}(r:Lx F H v (.l false ys) B):∃ a vs Ael,v=.ref a/\H a=some (.l vs)/\Lp F H vs ys Ael/\B=a::Ael:=by
 cases r with
 | l h r=>exact⟨_,_,_,rfl,h,r,rfl⟩
theorem ql7{p:List Nat}{ys:List D}{u:V}(S:L5 c F H σ ds A)(h:A7 ds i p=some (.l false ys))(J:(σ++c.gv)[i]? = some (some u))(K:Walk H u p w) :
   ∃(a:γ)(vs:List V)(Ael:List γ),w=.ref a/\H a=some (.l vs)/\Lp F H vs ys Ael /\
   ∀(g:List V)(m:List D)(B' R T:List γ),Ok F H (T++A)->Lp F H g m B'->(∀ b,B'.count b+R.count b<=Ael.count b+T.count b) ->
     (∃ A',L5 c F (upd H a (.l g)) σ (Be ds i p (.l false m)) A'/\Ok F (upd H a (.l g)) (R++A')/\Lz F H (T++A) F (upd H a (.l g)) (R++A'))/\∀ v d,Lx F H v d R->Lx F (upd H a (.l g)) v d R:=by
 obtain⟨B,C,r,L,M⟩:=S.place h (by intro z;cases z) J K;obtain⟨a,vs,Ael,rfl,y,N,rfl⟩:=qP8 r;refine⟨a,vs,Ael,rfl,y,N,λ g m B' R T q O E=>?_⟩;have n:∀ b,A.count b=(if b=a then 1 else 0)+Ael.count b+C.count b:=λ b=>by
   rw[L,zAn];by_cases j:b=a
   . subst j;simp;lia
   simp[j,Ne.symm j]
 have s:=n a;rw[if_pos rfl] at s;have P:=q.sep a;rw[zA0] at P;have Q:=E a;have G:¬ F a:=λ f=>by have:=q.fro a f;rw[zA0] at this;lia
 have k:=qM2 (F:=F) (o':=.l g) y rfl G;have rep':Lx F (upd H a (.l g)) (.ref a) (.l false m) (a::B'):=.l qb3 (O.keep k λ b j w=>by subst w;have:=qa9.mp j;lia);obtain⟨A',U,q2⟩:=M _ _ k (λ b j w=>by subst w;have:=qa9.mp j;lia) rep';have t:∀ b,A'.count b=(if b=a then 1 else 0)+B'.count b+C.count b:=λ b=>by
   rw[q2,zAn];by_cases j:b=a
   . subst j;simp;lia
   simp[j,Ne.symm j]
 have l:∀ b,(R++A').count b<=(T++A).count b:=λ b=>by rw[zA0,zA0,t,n];have:=E b;lia
 have W:∀ b,F b->∃ o,upd H a (.l g) b=some o:=λ b f=>by
   obtain⟨x,e⟩:=q.ex b f;exact⟨x,by rw[qb4 (show b≠a from λ w=>G (w ▸ f))];exact e⟩
 have I:Ok F (upd H a (.l g)) (R++A'):=⟨λ b=>zAp (l b) (q.sep b),λ b f=>by have:=q.fro b f;have:=l b;lia,W⟩
 refine⟨⟨A',⟨U,I.right,S.len,S.ag⟩,I,λ b u e z=>?_,λ b u e z=>by have:=l b;lia,λ _ f=>f,λ _ _ _ _ f=>f⟩,λ v d X=>X.keep k λ b j w=>by subst w;have:=qa9.mp j;lia⟩;rw[qb4 λ w=>?_]
 . exact e
 subst w;have:=n b;rw[if_pos rfl] at this;rw[zA0] at z;lia
def Gn(r:V->List V->Hp->VK->Prop)(g:Ds->Ds->Option (Ds×D)):Prop:=∀ F H a vs ys Ael f xs T c d (Q:VK),H a=some (.l vs)->Lp F H vs ys Ael->Lp F H f xs T->g ys xs=some (c,d) ->
 (∀ e v B' R,Lp F H e c B'->Lx F H v d R->(∀ b,B'.count b+R.count b<=Ael.count b+T.count b)->Q v (upd H a (.l e)))->r (.ref a) f H Q
def Gz(ys xs:Ds):Option (Ds×D):=match xs with
 | [x]=>if ys.length < big then some (ys++[x],.non) else none
 | _=>none
theorem qp6:Gn qas8 Gz:=by
 intro F H a i c Ael m j T e d Q k r l h q
 match j,h with
 | [x],h =>
   obtain⟨w,rfl,f⟩:=l.one_inv;have h:(if c.length < big then some (c++[x],D.non) else none)=some (e,d):=h;by_cases g:c.length < big
   . rw[if_pos g] at h
     cases h;refine⟨a,i,w,rfl,rfl,k,by rw[r.len];exact zAg g qi2,?_⟩;exact q _ .non (Ael++(T++[])) [] (r.append (.cons f .nil)) .non λ b=>by simp[zA0]
   rw[if_neg g] at h;cases h
noncomputable def gPop(ys xs:Ds):Option (Ds×D):=match xs with
 | []=>(ys[ys.length - 1]?).map λ d=>(ys.dropLast,d)
 | _=>none
theorem Lp.last{ys:Ds}{Ael:List γ}{d:D}(r:Lp F H vs ys Ael)(h:ys[ys.length - 1]? = some d):∃ v B R,vs[vs.length - 1]? = some v/\Lp F H vs.dropLast ys.dropLast B/\Lx F H v d R/\∀ b,B.count b+R.count b<=Ael.count b:=by
 obtain⟨e,v,f,g,a,A1,B,A2,c,e2,o,i,j,k,l,m⟩:=r.split h;have n:a=[]:=by
   have:=congrArg List.length e2
   rw[zA7,zAi,i] at this;cases a with
   | nil=>rfl
   | cons _ _=>simp at this;lia
 subst n;cases m;refine⟨v,A1,B,?_,?_,l,λ b=>by rw[j];simp only[zA0,List.count_nil];lia⟩
 . rw[c]
   simp
 rw[c,e2,List.dropLast_concat,List.dropLast_concat];exact k
theorem qaK9:Gn rPop gPop:=by
 intro F H a c s Ael t f T g d Q i r j h q
 match f,h with
 | [],h =>
   cases j;obtain⟨e,k,l⟩:=zAf.mp h;cases l;obtain⟨v,B,R,m,n,o,p⟩:=r.last k;exact⟨a,c,v,rfl,rfl,i,m,q _ v B R n o λ b=>by have:=p b;lia⟩
end
section
variable{c:Vc}{X:Cx}{a b e o:Expr}{pf:PF}{tr:VTB}{es:List Expr}{r:V->List V->Hp->VK->Prop}{g:Ds->Ds->Option (Ds×D)}
noncomputable def D.own:D->Option Ds
 | .l false ys=>some ys
 | _=>none
theorem J0{d:D}{ys:Ds}(h:d.own=some ys):d=.l false ys:=by
 cases d with
 | l z a=>cases z with
   | false=>cases h;rfl
   | true=>cases h
 | _=>cases h
def Eg(g:Ds->Ds->Option (Ds×D))(i:Nat)(tr:VTB):VT:=λ ds Q xe=>((rdN i ds).bind D.own).isSome=true/\tr ds (λ xs _ ds1=>orF ((rdN i ds1).bind D.own) λ ys=>orF (g ys xs) λ z=>Q z.2 (ds1.set i (.l false z.1))) xe
theorem qG5{ds:Ds}{d:D}(h:ds[i]? = some d):A7 ds i []=some d:=by unfold A7;rw[h];rfl
theorem qE4{ds:Ds}{d x:D}(h:ds[i]? = some d):Be ds i [] x=ds.set i x:=by unfold Be;rw[h];rfl
theorem qau0{T:String}(t:T = "list"){σ:St}{H:Hp}(hm:Gn r g)(u:VAs c X es tr)(hi:i < σ.length)(q:Bh c (Eg g i tr) σ H Q):tBM X.K T r (Fx i) (Ga c tr) σ H Q:=by
 subst t;obtain⟨F,y,A,B,S,x,C,q⟩:=q;obtain⟨D,b⟩:=zAv.mp C;obtain⟨d0,E,f⟩:=zA1.mp b;cases J0 f;obtain⟨v,B0,o,G,_⟩:=S.name hi E;obtain⟨a,h,A0,rfl,j,_,_⟩:=G.lst_inv;refine⟨.ref a,o,.inl ⟨rfl,h,.inl (.inl j)⟩,F,y,A,B,S,x,u.m _ _ _ _ _ (λ I ps J q L H1 F1 T A1 M pk S1 N O=>?_) (λ _ _ z=>z) q⟩;obtain⟨P,U,q⟩:=qa7.mp q;obtain⟨d1,e2,V⟩:=zA1.mp U;cases J0 V;obtain⟨⟨e,d⟩,W,q⟩:=qa7.mp q;obtain⟨s,hk⟩:=ql0.mp e2;have Y:(σ++c.gv)[i]? = some (some (.ref a)):=by rw[zAr hi];exact o
 obtain⟨a2,k,Ael,Z,l,rs,wr⟩:=ql7 S1 (qG5 s) Y (p:=[]) (w:=.ref a) rfl;cases Z;refine hm F1 H1 a k P Ael L I T e d Q l rs M W λ n v B' R h1 h2 h3=>?_
 obtain⟨⟨A',S2,o2,s2⟩,kr⟩:=wr n e B' R T N h1 h3;rw[qE4 s] at S2;exact q v _ F1 R A' (kr v d h2) S2 o2 (O.trans s2)
theorem qT1(e:VAs c X es tr):∀ ds (Q Q':DK) (xe b:XKd),(∀ d a,Q d a->Q' d a)->(∀ x a,xe x a->b x a)->Eg g i tr ds Q xe->Eg g i tr ds Q' b :=
 λ ds Q Q' xe b f h=>And.imp_right (e.m _ _ _ _ _ (λ k l j=>qa5 λ y=>qa5 λ z=>f _ _) h)
theorem qak7{F F':γ->Prop}{H H':Hp}{W:γ->Prop}(k:Kp F H W F' H'):∀{p:List Nat}{f:V}{d0 d:D}{B:List γ}{w o:V},(∀ b∈B,¬ W b)->Lx F H f d0 B->d0.getP p=some d->Walk H f p w->Walk H' f p o->o=w:=by
 intro p
 induction p with
 | nil=>intro f d0 d B w o _ _ _ h s;cases h;cases s;rfl
 | cons n p A =>
   intro f d0 d B w o g r i h s;unfold D.getP at i;cases j:d0.kids[n]? with
   | none=>rw[j] at i;cases i
   | some e =>
     rw[j] at i;obtain⟨x,E,G⟩:=h;obtain⟨L,t,u⟩:=s;obtain⟨y,B1,C1,z,I,J,_⟩:=r.kid j;obtain⟨M,B1',C1',l,_,_,_⟩:=(r.keep k g).kid j;cases E.fn z;cases t.fn l;have v:Lnk H' f n x:=by
       obtain⟨a,rfl,q⟩:=z;refine⟨a,rfl,?_⟩;cases r with
       | q c _ =>
         rcases q with⟨vs,e,h⟩ | ⟨vs,e,h⟩ | ⟨vs,e,h⟩ | ⟨C,dx,vs,e,h⟩
         . exact .inl ⟨vs,k.q e,h⟩
         . rw[c] at e;cases e
         . rw[c] at e;cases e
         rw[c] at e;cases e
       | l c _ =>
         have m:=k.fr _ _ c (g _ zAa);rcases q with⟨vs,e,h⟩ | ⟨vs,e,h⟩ | ⟨vs,e,h⟩ | ⟨C,dx,vs,e,h⟩
         . rw[c] at e;cases e
         . rw[c] at e;cases e;exact .inr (.inl ⟨_,m,h⟩)
         . rw[c] at e;cases e
         rw[c] at e;cases e
       | dct c _ _ =>
         have m:=k.fr _ _ c (g _ zAa);rcases q with⟨vs,e,h⟩ | ⟨vs,e,h⟩ | ⟨vs,e,h⟩ | ⟨C,dx,vs,e,h⟩
         . rw[c] at e;cases e
         . rw[c] at e;cases e
         . rw[c] at e;cases e;exact .inr (.inr (.inl ⟨_,m,h⟩))
         rw[c] at e;cases e
       | ins c _ _ =>
         have m:=k.fr _ _ c (g _ zAa);rcases q with⟨vs,e,h⟩ | ⟨vs,e,h⟩ | ⟨vs,e,h⟩ | ⟨C,dx,vs,e,h⟩
         . rw[c] at e;cases e
         . rw[c] at e;cases e
         . rw[c] at e;cases e
         rw[c] at e;cases e;exact .inr (.inr (.inr ⟨_,_,_,m,h⟩))
       | _=>cases (show (none:Option D)=some _ from j)
     cases v.fn l;exact A (B:=B1) (λ b K=>g b (qa9.mpr (by have:=J b;have:=qa9.mp K;lia))) I i G u
def Fb(g:Ds->Ds->Option (Ds×D))(pf:PF)(tr:VTB):VT:=λ ds Q xe=>orF (pf ds) λ q=>orF ((A7 ds q.1 q.2).bind D.own) λ ys=>orF ds[q.1]? λ a=>tr (ds.set q.1 .u) (λ xs _ ds1=>orF (g ys xs) λ z=>Q z.2 (Be (ds1.set q.1 a) q.1 q.2 (.l false z.1))) xe
theorem qT0(e:VAs c X es tr):∀ ds (Q Q':DK) (xe b:XKd),(∀ d a,Q d a->Q' d a)->(∀ x a,xe x a->b x a)->Fb g pf tr ds Q xe->Fb g pf tr ds Q' b :=
 λ ds Q Q' xe b f h=>qa5 λ q=>qa5 λ j=>qa5 λ k=>e.m _ _ _ _ _ (λ l n i=>qa5 λ z=>f _ _) h
theorem qat9(hm:Gn r g)(ha:VAs c X es tr):∀ σ H Q,Bh c (Fb g pf tr) σ H Q->tBM X.K "list" r (Ht c pf) (Ga c tr) σ H Q:=by
 rintro σ H Q ⟨F,Y,A,xe,S,x,q⟩;obtain⟨⟨i,p⟩,e1,q⟩:=qa7.mp q;obtain⟨n,e2,q⟩:=qa7.mp q;obtain⟨dl,h,e4⟩:=zA1.mp e2;cases J0 e4;obtain⟨I,l,q⟩:=qa7.mp q;refine⟨F,Y,A,i,p,_,S,e1,h,D.noConfusion,λ u w H1 s Z s0=>?_⟩;have S0:=S.same s0;obtain⟨a,L,Ael0,rfl,M,a0,_⟩:=ql7 S0 h s Z;refine⟨.inl ⟨rfl,L,.inl (.inl M)⟩,?_⟩;have N:I≠.u:=λ z=>by
   subst z;have j:=h;unfold A7 at j;rw[l] at j;cases (qai0 j).2
 obtain⟨u',B,C,h1,J,h3,h4⟩:=S0.put1 l N;rw[s] at h1;cases h1;obtain⟨A1,q1,q2⟩:=h4 .u [] (Kp.same (F:=F) λ _ _ z=>z) (λ _ _ z=>z) (.u u);have O:Ok F H1 (B++A1):=S0.ok.count λ b=>by rw[zA0,q2,h3];simp
 have s1:Lz F H A F H1 (B++A1):=⟨λ b o e _=>s0 b o e,λ b o e z=>by rw[zA0,q2];have:=h3 b;simp;lia,λ _ f=>f,λ _ _ _ _ f=>f⟩
 have S1:L5 c F H1 σ (Y.set i .u) A1:=⟨q1,O.right,S.len,S.ag⟩
 have P:Lz F H A F H1 A1:=s1.count λ b=>by rw[zA0];lia
 refine⟨F,_,A1,xe,S1,x.step P,ha.m _ _ _ _ _ (λ xs ps k q vs H2 F2 T2 A2 r2 pk S2 o2 s2=>?_) (λ _ _ z=>z) q⟩;obtain⟨⟨t,d⟩,e7,q⟩:=qa7.mp q;have kp:=s2.kp S1.ok S1.loc.cells;have hBout:∀ b∈B,¬ (A1.count b≠0):=λ b hb hc=>by
   have:=O.sep b
   rw[zA0] at this
   have:=qa9.mp hb
   lia
 have y:Lx F2 H2 u I B:=J.keep kp hBout;obtain⟨o3,s3⟩:=s2.frame O J.cells o2;obtain⟨A3,k1,k2⟩:=qE3 S2.loc s y;have E:∀ b,A3.count b<=B.count b+A2.count b:=k2;have o4:Ok F2 H2 (T2++A3):=o3.count λ b=>by simp only[zA0];have:=E b;lia
 have s4:Lz F H A F2 H2 (T2++A3):=(s1.trans s3).count λ b=>by simp only[zA0];have:=E b;lia
 have S3:L5 c F2 H2 σ (k.set i I) A3:=⟨k1,o4.right,S.len,S.ag⟩
 have G:i < k.length:=by rw[<- S2.loc.len];exact(zA5.mp s).1
 have e8:A7 (k.set i I) i p=some (.l false n):=by
   unfold A7 at h ⊢;rw[l] at h;rw[List.getElem?_set_self G];exact h
 have T:Walk H2 u p (.ref a):=by
   obtain⟨w',_,_,w1,_,_,_⟩:=J.path (p:=p) (d:=.l false n) (by unfold A7 at h;rw[l] at h;exact h);cases Z.fn w1;obtain⟨w2,_,_,w3,_,_,_⟩:=y.path (p:=p) (d:=.l false n) (by unfold A7 at h;rw[l] at h;exact h)
   have:w2=.ref a:=by
     refine qak7 (d:=.l false n) kp hBout J ?_ w1 w3;unfold A7 at h;rw[l] at h;exact h
   rw[<- this];exact w3
 obtain⟨a2,U,Ael,ea,V,rs,wr⟩:=ql7 S3 e8 s T;cases ea;refine hm F2 H2 a U n Ael vs xs T2 t d Q V rs r2 e7 λ W v B' R z1 z2 z3=>?_
 obtain⟨⟨A',S4,o5,s5⟩,kr⟩:=wr W t B' R T2 o4 z1 z3;exact q v _ F2 R A' (kr v d z2) S4 o5 (s4.trans s5)
end
section
variable{c:Vc}{X:Cx}{a b e o:Expr}{pos cpos apos:Pos}{pf:PF}{tr:VTB}{es:List Expr}{fb:FV}{ob:Bool}{r:V->List V->Hp->VK->Prop}{g:Ds->Ds->Option (Ds×D)}{name:Str}{id:String}
theorem Bq(i:Nat){x:Str}{p0:Pos}(k:Gn r g)(l:PlainAttrs "list")(slot:Slot "list" name id)(b:typeOf (.builtin id)=pure (.type "method_descriptor"))(hm:MtM X id r)(d:VAs c X (e::es) tr)(j:X.N[i]? = some x:=by rfl)(m:Vis X.env.scope x:=by first | exact Or.inl rfl | exact Or.inr (Or.inl rfl) | exact Or.inr (Or.inr rfl))(n:N' x:=by decide)(f:(x == ("__classdict__" : Str))=false:=by decide)(hbase:Kw (.Name x p0) name X.env (eval (.Name x p0) X.env)=eval (.Name x p0) X.env:=by rfl)(a:((backTo cpos (Ko (e::es) X.env)).all (λ x=>!x.1)&&(backToKw cpos (K5 [] X.env)).all (λ x=>x.1.isSome)
     && decide ((e::es).length+([]:List Keyword).length+(if ([]:List Keyword).isEmpty then 0 else 1) < 30))=true:=by rfl)(hline:(apos.endLine == cpos.line)=true:=by rfl)(o:Ko (e::es) X.env=(false,eval e X.env)::Ko es X.env:=by rfl)(hplain:(backTo cpos (Ko es X.env)).any (·.1)=false:=by rfl) :
   VE c X (.Call (.Attribute (.Name x p0) name apos) (e::es) [] cpos) (Eg g i tr) :=
 ⟨λ E3 s σ H Q I q=>Hj l slot b hm (qk1 j m n f) d.h hbase a hline o hplain E3 s σ H Q I (qau0 rfl k d (qk3 j E3 σ H s I) q),qT1 d⟩
theorem qaW4(i:Nat){x:Str}{p0:Pos}(f:Gn r g)(h:PlainAttrs "list")(slot:Slot "list" name id)(a:typeOf (.builtin id)=pure (.type "method_descriptor"))(hm:MtM X id r)(e:X.N[i]? = some x:=by rfl)(b:Vis X.env.scope x:=by first | exact Or.inl rfl | exact Or.inr (Or.inl rfl) | exact Or.inr (Or.inr rfl))(j:N' x:=by decide)(d:(x == ("__classdict__" : Str))=false:=by decide)(hbase:Kw (.Name x p0) name X.env (eval (.Name x p0) X.env)=eval (.Name x p0) X.env:=by rfl)(hline:(apos.endLine == cpos.line)=true:=by rfl) :
   VE c X (.Call (.Attribute (.Name x p0) name apos) [] [] cpos) (Eg g i Ax) :=
 ⟨λ E3 s σ H Q I q=>qaJ2 h slot a hm (qk1 e b j d) hbase hline E3 s σ H Q I (by
   obtain⟨v,b,a,F,k,A,l,S,x,q⟩:=qau0 (X:=X) rfl f Ad (qk3 e E3 σ H s I) q;exact⟨v,b,a,q [] H F [] A .nil .nil S S.ok Lz.refl⟩),qT1 (c:=c) (X:=X) Ad⟩
theorem emutP(f:Gn r g)(i:PlainAttrs "list")(slot:Slot "list" name id)(b:typeOf (.builtin id)=pure (.type "method_descriptor"))(hm:MtM X id r)(j:VP c X o pf)(d:VAs c X (e::es) tr)(hbase:Kw o name X.env (eval o X.env)=eval o X.env:=by rfl)(a:((backTo cpos (Ko (e::es) X.env)).all (λ x=>!x.1)&&(backToKw cpos (K5 [] X.env)).all (λ x=>x.1.isSome)
     && decide ((e::es).length+([]:List Keyword).length+(if ([]:List Keyword).isEmpty then 0 else 1) < 30))=true:=by rfl)(hline:(apos.endLine == cpos.line)=true:=by rfl)(k:Ko (e::es) X.env=(false,eval e X.env)::Ko es X.env:=by rfl)(hplain:(backTo cpos (Ko es X.env)).any (·.1)=false:=by rfl) :
   VE c X (.Call (.Attribute o name apos) (e::es) [] cpos) (Fb g pf tr) :=
 ⟨PE.mono (Hj i slot b hm j.h d.h hbase a hline k hplain) (qat9 f d),qT0 d⟩
theorem qaW3(e:Gn r g)(f:PlainAttrs "list")(slot:Slot "list" name id)(a:typeOf (.builtin id)=pure (.type "method_descriptor"))(hm:MtM X id r)(j:VP c X o pf)(hbase:Kw o name X.env (eval o X.env)=eval o X.env:=by rfl)(hline:(apos.endLine == cpos.line)=true:=by rfl) :
   VE c X (.Call (.Attribute o name apos) [] [] cpos) (Fb g pf Ax) :=
 ⟨PE.mono (qaJ2 f slot a hm j.h hbase hline) λ σ H Q q=>by
   obtain⟨F,k,A,i,p,d,S,l,e2,b,q⟩:=qat9 (X:=X) (c:=c) e Ad σ H Q q;refine⟨F,k,A,i,p,d,S,l,e2,b,λ u w H1 m n s=>?_⟩;obtain⟨a,F2,t,A2,v,S2,x,q2⟩:=q u w H1 m n s;exact⟨a,q2 [] H1 F2 [] A2 .nil .nil S2 S2.ok Lz.refl⟩,qT0 (c:=c) (X:=X) Ad⟩
def Gc(pf:PF)(fb:FV):VTG:=λ d ds Q=>orF (pf ds) λ q=>orF ((A7 ds q.1 q.2).bind D.own) λ ys=>orF ((fb ds).bind D.asI) λ k=>orF (ixN ys.length k) λ n=>Q (Be ds q.1 q.2 (.l false (ys.set n d)))
theorem E4(y:VP c X o pf)(hi:VV c X b ob fb)(f:∀ v,assign (.Subscript o b pos) X.env v=(do
     let ov <- holding [v] (eval o X.env)
     let iv <- holding [v,ov] (eval b X.env)
     standAt pos
     holding [v,ov,iv] (setItem ov iv v)
     release [v,ov,iv] []):=by intro _;rfl):VG c X (.Subscript o b pos) (Gc pf fb):=by
 refine⟨PG.mono (qaR9 y.h hi.h qac7 f) λ v σ H Q g=>?_,λ d j Q Q' z=>qa5 λ _=>qa5 λ _=>qa5 λ _=>qa5 λ _=>z _⟩;obtain⟨F,j,A,T,d,r,S,B,q⟩:=g;obtain⟨⟨i,p⟩,C,q⟩:=qa7.mp q;obtain⟨E,e2,q⟩:=qa7.mp q;obtain⟨Y,l,G⟩:=zA1.mp e2;cases J0 G;obtain⟨k,I,q⟩:=qa7.mp q;obtain⟨J,K,L⟩:=zA1.mp I;obtain⟨n,m,q⟩:=qa7.mp q;refine⟨F,j,A,i,p,_,S,C,l,D.noConfusion,λ u w H1 M N s=>⟨F,j,A,J,S.same s,K,λ Z H2 B2 O t _=>?_⟩⟩;have e:=s.trans t;have S2:=S.same e;cases O.asI L;obtain⟨a,P,Ael,rfl,f,x,wr⟩:=ql7 S2 l M (N.same t);have R:n < E.length:=(qag9 m).2.1;obtain⟨B',U,V⟩:=x.setAt R (r.same e);obtain⟨⟨A',S3,o3,W⟩,_⟩:=wr _ _ B' [] T (B.same e) U λ b=>by have:=V b;simp;lia
 exact⟨a,P,k,n,rfl,rfl,f,by rw[x.len];exact m,q σ _ F A' S3 ((Lz.same e).trans W)⟩
def sAugV(f:Int->Int->Int)(pf:PF)(fb a:FV):VTS:=λ e ds=>orF (pf ds) λ q=>orF ((A7 ds q.1 q.2).bind D.own) λ ys=>orF ((fb ds).bind D.asI) λ k=>0<=k/\orF ((ys[k.toNat]?).bind D.asI) λ x=>orF ((a ds).bind D.asI) λ y=>e.nx (Be ds q.1 q.2 (.l false (ys.set k.toNat (.int (f x y)))))
theorem saug{op:Operator}{f:Int->Int->Int}{N:FV}{oe:Bool}{tpos:Pos}(V:VP c X o pf)(hi:VV c X b ob fb)(W:VV c X e oe N)(Y:PIp X op (ipI f))(Z:∀ n r d,augStore b n r d=(do holding [d,n,r] (setItem n r d);release [d,n,r] [];pure .next):=by intros;rfl):VS c X (.AugAssign (.Subscript o b tpos) op e pos) (sAugV f pf fb N):=by
 refine⟨PS.mono (qaI0 V.h hi.h qaC5 W.h Y qac7 Z) λ E σ H t=>?_,λ en a0 s hl=>qa5 λ _=>qa5 λ _=>qa5 λ _=>And.imp_right (qa5 λ _=>qa5 λ _=>hl.nx _)⟩;obtain⟨F,s,A,en,S,l,q⟩:=t;obtain⟨⟨i,p⟩,e1,q⟩:=qa7.mp q;obtain⟨ys,e2,q⟩:=qa7.mp q;obtain⟨dl,v,e4⟩:=zA1.mp e2;cases J0 e4;obtain⟨k,e5,O,q⟩:=qa7.mp q;obtain⟨dk,e6,e7⟩:=zA1.mp e5;obtain⟨x,e8,q⟩:=qa7.mp q;obtain⟨dx,P,z⟩:=zA1.mp e8;obtain⟨y,B,q⟩:=qa7.mp q;obtain⟨dy,C,G⟩:=zA1.mp B;refine⟨F,s,A,i,p,_,S,e1,v,D.noConfusion,λ u w H1 Q R T=>⟨F,s,A,dk,S.same T,e6,λ vk H2 B2 r2 I _=>?_⟩⟩;have g:=T.trans I;cases r2.asI e7;obtain⟨a,vs,Ael,rfl,J,K,_⟩:=ql7 (S.same g) v Q (R.same I);obtain⟨vx,Bx,hx,rx,_⟩:=K.get P;cases rx.asI z;refine⟨a,vs,k,_,rfl,rfl,J,O,hx,F,s,A,dy,S.same g,C,λ vy H3 B3 r3 U _=>?_⟩;cases r3.asI G;have j:=g.trans U;have S3:=S.same j;obtain⟨a',L,Ael',ea,M,m,wr⟩:=ql7 S3 v Q ((R.same I).same U);cases ea;have hn:k.toNat < ys.length:=(zA5.mp P).1;obtain⟨B',r4,h4⟩:=m.setAt hn (.int (f x y));obtain⟨⟨A',S4,o4,s4⟩,_⟩:=wr _ _ B' [] [] S3.ok r4 λ b=>by have:=h4 b;simpa using this
 refine⟨x,y,rfl,rfl,a,L,k,k.toNat,rfl,rfl,M,?_,l.nx _ σ _ F A' q S4 ((Lz.same j).trans s4)⟩;rw[m.len];unfold ixN;rw[if_pos O,if_pos (by lia)]
noncomputable def Ft(f:Str)(d:D):List (Str×D)->List (Str×D)
 | []=>[(f,d)]
 | (g,x)::r=>if g=f then (g,d)::r else (g,x)::Ft f d r
end
section
variable{c:Vc}{X:Cx}{F:γ->Prop}{H:Hp}{σ:St}{ds:Ds}{A T:List γ}{a b e o:Expr}{pos cpos apos:Pos}{te:VT}{pf:PF}{fa fb:FV}{oa ob:Bool}
theorem qS6:∀{a:List (Str×V)}{c:List (Str×D)}{B Tv:List γ}{f:Str}{v:V}{d:D},a.map (·.1)=c.map (·.1)->Lp F H (a.map (·.2)) (c.map (·.2)) B->Lx F H v d Tv->(Bm f v a).map (·.1)=(Ft f d c).map (·.1)/\∃ B',Lp F H ((Bm f v a).map (·.2)) ((Ft f d c).map (·.2)) B'/\∀ b,B'.count b<=B.count b+Tv.count b
 | [],[],B,Tv,f,v,d,_,r,rv=>⟨rfl,Tv++[],.cons rv .nil,λ b=>by simp⟩
 | [],_::_,_,_,_,_,_,h,_,_=>by simp at h
 | _::_,[],_,_,_,_,_,h,_,_=>by simp at h
 | (k,w)::r,(k',x)::r',B,Tv,f,v,d,h,rs,rv=>by
   have i:k=k':=by simp at h;exact h.1
   have e:r.map (·.1)=r'.map (·.1):=by simp at h;simpa using h.2
   subst i;cases rs with
   | @cons _ _ B1 _ _ B2 q t =>
     by_cases g:k=f
     . simp only[Bm,Ft,if_pos g,zAw,e,true_and]
       exact⟨Tv++B2,.cons rv t,λ b=>by simp only[zA0];lia⟩
     obtain⟨j,B',l,m⟩:=qS6 (f:=f) e t rv;simp only[Bm,Ft,if_neg g,zAw,j,true_and];exact⟨B1++B',.cons q l,λ b=>by simp only[zA0];have:=m b;lia⟩
def D.ownI(C:γ):D->Option (List (Str×D))
 | .ins false C' fs=>if C'=C then some fs else none
 | _=>none
theorem qaJ6{d:D}{C:γ}{fs:List (Str×D)}(h:d.ownI C=some fs):d=.ins false C fs:=by
 cases d with
 | ins z C' b=>cases z with
   | false =>
     have h:(if C'=C then some b else none)=some fs:=h;by_cases a:C'=C
     . rw[if_pos a] at h;cases h;rw[a]
     rw[if_neg a] at h;cases h
   | true=>cases h
 | _=>cases h
theorem qaJ5{p:List Nat}{C:γ}{l:List (Str×D)}{u:V}(S:L5 c F H σ ds A)(h:A7 ds i p=some (.ins false C l))(E:(σ++c.gv)[i]? = some (some u))(G:Walk H u p w) :
   ∃(a dx:γ)(d:List (Str×V))(Ael:List γ),w=.ref a/\H a=some (.ins C dx d)/\d.map (·.1)=l.map (·.1)/\Lp F H (d.map (·.2)) (l.map (·.2)) Ael /\
   ∀(fvs':List (Str×V))(fds':List (Str×D))(B' T:List γ),Ok F H (T++A)->fvs'.map (·.1)=fds'.map (·.1)->Lp F H (fvs'.map (·.2)) (fds'.map (·.2)) B'->(∀ b,B'.count b<=Ael.count b+T.count b) ->
     ∃ A',L5 c F (upd H a (.ins C dx fvs')) σ (Be ds i p (.ins false C fds')) A'/\Lz F H (T++A) F (upd H a (.ins C dx fvs')) A':=by
 obtain⟨B,C0,r,I,J⟩:=S.place h D.noConfusion E G;cases r with
 | @ins a _ dx d _ Ael ha hk rs =>
 refine⟨a,dx,d,Ael,rfl,ha,hk,rs,λ fvs' fds' B' T n q K v=>?_⟩;have m:∀ b,A.count b=(if b=a then 1 else 0)+Ael.count b+C0.count b:=λ b=>by
   rw[I,zAn];by_cases g:b=a
   . subst g;simp;lia
   simp[g,Ne.symm g]
 have s:=m a;rw[if_pos rfl] at s;have L:=n.sep a;rw[zA0] at L;have M:=v a;have y:¬ F a:=λ f=>by have:=n.fro a f;rw[zA0] at this;lia
 have k:=qM2 (F:=F) (o':=.ins C dx fvs') ha rfl y;have rep':Lx F (upd H a (.ins C dx fvs')) (.ref a) (.ins false C fds') (a::B'):=.ins qb3 q (K.keep k λ b g w=>by subst w;have:=qa9.mp g;lia);obtain⟨A',N,q2⟩:=J _ _ k (λ b g w=>by subst w;have:=qa9.mp g;lia) rep';have t:∀ b,A'.count b=(if b=a then 1 else 0)+B'.count b+C0.count b:=λ b=>by
   rw[q2,zAn];by_cases g:b=a
   . subst g;simp;lia
   simp[g,Ne.symm g]
 have j:∀ b,A'.count b<=(T++A).count b:=λ b=>by rw[zA0,t,m];have:=v b;lia
 have O:∀ b,F b->∃ o,upd H a (.ins C dx fvs') b=some o:=λ b f=>by
   obtain⟨x,e⟩:=n.ex b f;exact⟨x,by rw[qb4 (show b≠a from λ w=>y (w ▸ f))];exact e⟩
 refine⟨A',⟨N,⟨λ b=>zAp (j b) (n.sep b),λ b f=>by have:=n.fro b f;have:=j b;lia,O⟩,S.len,S.ag⟩,λ b u e z=>?_,λ b u e z=>by have:=j b;lia,λ _ f=>f,λ _ _ _ _ f=>f⟩;rw[qb4 λ w=>?_]
 . exact e
 subst w;have:=m b;rw[if_pos rfl] at this;rw[zA0] at z;lia
def sFldV(C:γ)(f:Str)(te:VT)(pf:PF):VTS:=λ e ds=>te ds (λ d ds1=>orF (pf ds1) λ q=>orF ((A7 ds1 q.1 q.2).bind (D.ownI C)) λ fs=>fs.length < 100/\e.nx (Be ds1 q.1 q.2 (.ins false C (Ft f d fs)))) e.xe
theorem G8{C:γ}{f:Str}{K:W.Frag}{pos':Pos}(G:X.K=K)(I:VP c X o pf)(k:VE c X e te)(J:Cls K C)(L:qd6 K C f)(M:swapsWith e (some (.Attribute o f pos')) pos.line X.env=pure false:=by rfl):VS c X (.Assign [.Attribute o f pos'] e pos) (sFldV C f te pf):=by
 subst G;refine⟨PS.mono (qaR3 I.h k.h M) λ E σ H n=>?_,λ s N t r=>k.m _ _ _ _ _ (λ d b=>qa5 λ _=>qa5 λ _=>And.imp_right (r.nx _)) r.xe⟩;obtain⟨F,t,A,s,S,l,q⟩:=n;refine⟨F,t,A,s.xe,S,l.xe,k.m _ _ _ _ _ (λ d b q v H1 F1 T A1 O S1 P Q=>?_) (λ _ _ z=>z) q⟩;obtain⟨⟨i,p⟩,R,q⟩:=qa7.mp q;obtain⟨U,e2,r,q⟩:=qa7.mp q;obtain⟨dl,x,V⟩:=zA1.mp e2;cases qaJ6 V;refine⟨F1,b,A1,i,p,_,S1,R,x,D.noConfusion,λ u w H2 Y Z j=>?_⟩;have S2:=S1.same j;obtain⟨a,dx,g,Ael,rfl,ha,y,rs,wr⟩:=qaJ5 S2 x Y Z;have B:g.length=U.length:=by have:=congrArg List.length y;simpa using this
 refine⟨a,C,dx,g,rfl,ha,J,L,by lia,?_⟩;obtain⟨m1,B',m2,m3⟩:=qS6 (f:=f) y rs (O.same j);obtain⟨A',S3,s3⟩:=wr _ _ B' T (P.same j) m1 m2 m3;exact l.nx _ σ _ F1 A' q S3 (Q.trans ((Lz.same j).trans s3))
def gAllV(pf:PF):VTG:=λ d ds Q=>orF (pf ds) λ q=>orF ((A7 ds q.1 q.2).bind D.own) λ xs=>orF (match d with | .l _ ys=>some ys | _=>none) λ ys=>D.imms ys=true/\xs.length+ys.length<=big/\Q (Be ds q.1 q.2 (.l false ys))
def Bu(x:V):List V->Option Nat
 | []=>none
 | y::r=>if eqV y x=true then some 0 else (Bu x r).map (· + 1)
theorem qah5{x:V}:∀{xs:List V}{j:Nat},Bu x xs=some j->∃ z,xs[j]? = some z/\eqV z x=true/\∀ m z',m < j->xs[m]? = some z'->eqV z' x=false
 | [],j,h=>by cases h
 | y::r,j,h=>by
   unfold Bu at h;by_cases a:eqV y x=true
   . rw[if_pos a] at h;cases h
     exact⟨y,rfl,a,λ m z' c=>by lia⟩
   rw[if_neg a] at h;obtain⟨k,d,rfl⟩:=zAf.mp h;obtain⟨z,e,f,g⟩:=qah5 d;refine⟨z,by simpa using e,f,λ m z' c b=>?_⟩;cases m with
   | zero =>
     have:y=z':=by simpa using b
     subst this;simpa using a
   | succ m=>exact g m z' (by lia) (by simpa using b)
def J1(x y:D):Option D:=match x with
 | .l _ ys=>y.flat.bind λ v=>(flats ys).bind λ a=>(Bu v a).map λ j=>.int (j:Nat)
 | _=>none
def Ka(x y:D):Option D:=match x with
 | .l _ ys=>y.flat.bind λ v=>(flats ys).bind λ a=>some (.int (a.countP (λ z=>eqV z v):Nat))
 | _=>none
def rL1(r:V->List V->Hp->VK->Prop):R2:=λ x y H Q=>r x [y] H Q
theorem qaz6:A5 true (rL1 qaH2) J1:=by
 intro F H v w x y B d Q r h q;cases r with | @cons _ _ A _ _ _ b t=>cases t with | @cons _ _ A2 _ _ _ c _ =>
 cases x with
 | l z s =>
   obtain⟨u,e,h⟩:=zA1.mp h;obtain⟨C,i,h⟩:=zA1.mp h;obtain⟨j,k,rfl⟩:=zAf.mp h;obtain⟨rfl,f⟩:=c.flat e;obtain⟨a,l,A3,rfl,m,n,_⟩:=b.lst_inv;obtain⟨rfl,g⟩:=n.flats i;obtain⟨z,o,q2,p⟩:=qah5 k;exact⟨a,l,w,j,z,rfl,rfl,m,f,g,o,q2,p,q _ H [] (.int _) (λ _ _ z=>z) New.nil⟩
 | _=>cases h
theorem qaS4:A5 true (rL1 qaH4) Ka:=by
 intro F H v w x y B d Q r h q;cases r with | @cons _ _ A _ _ _ b t=>cases t with | @cons _ _ A2 _ _ _ c _ =>
 cases x with
 | l z m =>
   obtain⟨n,e,h⟩:=zA1.mp h;obtain⟨o,i,h⟩:=zA1.mp h;cases h;obtain⟨rfl,f⟩:=c.flat e;obtain⟨a,j,A3,rfl,k,l,_⟩:=b.lst_inv;obtain⟨rfl,g⟩:=l.flats i;exact⟨a,j,w,rfl,rfl,k,f,g,q _ H [] (.int _) (λ _ _ z=>z) New.nil⟩
 | _=>cases h
theorem vbm{r:V->List V->Hp->VK->Prop}{g:D->D->Option D}{name:Str}{id:String}(C:A5 true (rL1 r) g)(E:PlainAttrs "list")(slot:Slot "list" name id)(i:typeOf (.builtin id)=pure (.type "method_descriptor"))(hm:MtM X id r)(G:VV c X o oa fa)(I:VV c X b ob fb)(J:∀ x y d,g x y=some d->∃ z ys,x=.l z ys)(hbase:Kw o name X.env (eval o X.env)=eval o X.env:=by rfl)(f:((backTo cpos (Ko [b] X.env)).all (λ x=>!x.1)&&(backToKw cpos (K5 [] X.env)).all (λ x=>x.1.isSome)
     && decide (([b]:List Expr).length+([]:List Keyword).length+(if ([]:List Keyword).isEmpty then 0 else 1) < 30))=true:=by rfl)(hline:(apos.endLine == cpos.line)=true:=by rfl)(n:Ko [b] X.env=(false,eval b X.env)::Ko [] X.env:=by rfl)(hplain:(backTo cpos (Ko [] X.env)).any (·.1)=false:=by rfl) :
   VV c X (.Call (.Attribute o name apos) [b] [] cpos) true (f2 g fa fb):=by
 refine⟨PE.mono (Hj E slot i hm G.h (qc4 I.h qk2 n) hbase f hline n hplain) λ σ H Q j=>?_⟩;obtain⟨F,p,A,d,S,e,q⟩:=j;obtain⟨x,y,K,L,s⟩:=qaC9.mp e;obtain⟨z,ys,rfl⟩:=J x y d s;refine⟨F,p,A,_,S,K,λ v H1 B1 t k R=>?_⟩;obtain⟨a,M,A3,rfl,l,T,_⟩:=t.lst_inv;refine⟨.inl ⟨rfl,M,.inl (.inl l)⟩,F,p,A,y,S.same k,L,λ w H2 B2 N m U=>?_⟩;exact C F H2 _ w _ y _ d Q (F5 (t.same m) N) s λ u H3 B3 O P B=>q u H3 B3 O ((k.trans m).trans P) λ _=>⟨B.one,λ b o e=>B.new b o (m b o (k b o e))⟩
theorem qah4:∀ x y d,J1 x y=some d->∃ z ys,x=.l z ys:=λ x y d h=>by cases x with | l z ys=>exact⟨z,ys,rfl⟩ | _=>cases h
theorem qaO2:∀ x y d,Ka x y=some d->∃ z ys,x=.l z ys:=λ x y d h=>by cases x with | l z ys=>exact⟨z,ys,rfl⟩ | _=>cases h
end
def Eh(g:VTG)(t:VTS)(e:VEnds):List D->Ds->Prop
 | [],ds=>e.nx ds
 | x::xs,ds=>g x ds λ ds1=>t { e with nx:=Eh g t e xs,ct:=Eh g t e xs,bk:=e.nx } ds1
def whN(qc:VTT)(t:VTS)(e:VEnds):Nat->Ds->Prop
 | 0,_=>False
 | n+1,ds=>qc ds (λ b ds1=>if b=true then t { e with nx:=whN qc t e n,ct:=whN qc t e n,bk:=e.nx } ds1 else e.nx ds1) e.xe
def qaG7(qc:VTT)(t:VTS):VTS:=λ e ds=>∃ n,whN qc t e n ds
section
variable{c:Vc}{X:Cx}{a b e tg:Expr}{body:List Stmt}{g:VTG}{t:VTS}{te:VT}{qc:VTT}{pos:Pos}
theorem qq3(d:VG c X tg g)(e:VSs c X body t){en b:VEnds}(a:en.Le b):∀(xs:List D) ds,Eh g t en xs ds->Eh g t b xs ds
 | [],ds=>a.nx ds
 | x::xs,ds=>d.m _ _ _ _ λ f=>e.m _ _ _ ⟨qq3 d e a xs,a.rt,a.nx,qq3 d e a xs,a.xe⟩
theorem qM4{cd:Expr}(e:VTe c X cd qc)(f:VSs c X body t){en d:VEnds}(a:en.Le d):∀(n:Nat) ds,whN qc t en n ds->whN qc t d n ds
 | 0,ds=>id
 | n+1,ds=>e.m _ _ _ _ _ (λ b g=>qD2 (f.m _ _ _ ⟨qM4 e f a n,a.rt,a.nx,qM4 e f a n,a.xe⟩) (a.nx _)) a.xe
theorem qab8(r:PassesOwn (model X.prog X.w) X.A X.env X.xe)(g:VTe c X cd qc)(o:VSs c X body t):VS c X (.While cd body [] pos) (qaG7 qc t):=by
 refine⟨PS.mono (qay1 r g.h o.h) λ E σ H i=>?_,λ d s e u ⟨n,q⟩=>⟨n,qM4 g o u n e q⟩⟩;obtain⟨F,e,A,d,S,l,n,q⟩:=i;refine⟨λ m σ H=>∃ F e A,L5 c F H σ e A/\Lk c E F H A d/\whN qc t d m e,⟨n,F,e,A,S,l,q⟩,?_⟩;rintro m σ H ⟨F,e,A,S,l,q⟩;cases m with
 | zero=>exact q.elim
 | succ m =>
   refine⟨F,e,A,d.xe,S,l.xe,g.m _ _ _ _ _ (λ b j q H1 F1 A1 S1 p=>?_) (λ _ _ z=>z) q⟩;cases b with
   | false=>rw[if_neg (by decide)] at q ⊢;exact l.nx _ _ _ _ _ q S1 p
   | true =>
     rw[if_pos rfl] at q ⊢;have f:=l.step p;refine⟨λ σ' H'=>∃ F' a A',L5 c F' H' σ' a A'/\Lk c E F' H' A' d/\whN qc t d m a,λ σ' H' h=>⟨m,by lia,h⟩,F1,j,A1,{ d with nx:=whN qc t d m,ct:=whN qc t d m,bk:=d.nx },S1,⟨?_,f.rt,f.nx,?_,f.xe⟩,q⟩
     . exact λ a σ' H' F' A' q S' k=>⟨F',a,A',S',f.step k,q⟩
     exact λ a σ' H' F' A' q S' k=>⟨F',a,A',S',f.step k,q⟩
theorem qab3{E:Eb}{en:VEnds}{F:γ->Prop}{H:Hp}{σ:St}{ds:Ds}{A:List γ}{x:V}{y:D}{N:St->Hp->Prop}{b:Ds->Prop}(i:VG c X tg g)(S:L5 c F H σ ds A)(l:Lk c E F H A en)(r:Lx F H x y [])(h:∀ a σ' H' F' A',b a->L5 c F' H' σ' a A'->Lz F H A F' H' A'->N σ' H')(q:g y ds λ ds1=>t { en with nx:=b,ct:=b,bk:=en.nx } ds1) :
   Gb c g x σ H λ σ2 H2=>Ez c t { E with nx:=N,ct:=N,bk:=E.nx } σ2 H2:=by
 refine⟨F,ds,A,[],y,r,S,S.ok,i.m _ _ _ _ (λ ds1 q σ1 H1 F1 A1 S1 d=>?_) q⟩;have e:=l.step d;exact⟨F1,ds1,A1,{ en with nx:=b,ct:=b,bk:=en.nx },S1,⟨λ a σ' H' F' A' q S' f=>h a σ' H' F' A' q S' (Lz.trans d f),e.rt,e.nx,λ a σ' H' F' A' q S' f=>h a σ' H' F' A' q S' (Lz.trans d f),e.xe⟩,q⟩
noncomputable def D.lstOf:D->Option Ds
 | .l _ ys=>some ys
 | _=>none
theorem qy9{d:D}{ys:Ds}(h:d.lstOf=some ys):∃ z,d=.l z ys:=by
 cases d with
 | l z a=>cases h;exact⟨z,rfl⟩
 | _=>cases h
theorem qt2:∀{ys:List D}{i:Nat}{y:D},D.imms ys=true->ys[i]? = some y->y.imm=true
 | [],i,y,_,h=>by simp at h
 | d::r,0,y,hm,h=>by
   have:d=y:=by simpa using h
   subst this;exact(zAh.mp hm).1
 | d::r,i+1,y,hm,h=>qt2 (zAh.mp hm).2 (by simpa using h)
theorem qq7{xs:List α}{x:α}(h:xs[i]? = some x):xs.drop i=x::xs.drop (i+1):=by
 obtain⟨a,rfl⟩:=zA5.mp h;exact List.drop_eq_getElem_cons a
def sForL(te:VT)(g:VTG)(t:VTS):VTS:=λ e ds=>te ds (λ d ds1=>orF d.lstOf λ ys=>D.imms ys=true/\Eh g t e ys ds1) e.xe
theorem Kb(hp:PassesOwn (model X.prog X.w) X.A X.env X.xe)(hi:VE c X e te)(G:VG c X tg g)(Q:VSs c X body t)(R:X.calm=true:=by rfl)(I:∀ v,Ks e X.env v=pure v:=by intro _;rfl):VS c X (.For tg e body [] pos) (sForL te g t):=by
 refine⟨PS.mono (qay4 hp R (qy0 hi.h) G.h Q.h I) λ E σ H J=>?_,λ s a0 k U=>hi.m _ _ _ _ _ (λ d n=>qa5 λ u=>And.imp_right (qq3 G Q U u n)) U.xe⟩;obtain⟨F,k,A,s,S,l,q⟩:=J;refine⟨F,k,A,s.xe,S,l.xe,hi.m _ _ _ _ _ (λ d n q v H1 F1 T A1 V S1 o1 s1=>?_) (λ _ _ z=>z) q⟩;obtain⟨u,ey,hm,qf⟩:=qa7.mp q;obtain⟨z,rfl⟩:=qy9 ey;obtain⟨a,C,Ael,rfl,j,rs,_⟩:=V.lst_inv;have L:Lz F H A F1 H1 A1:=s1.count λ b=>by rw[zA0];lia
 refine⟨a,rfl,⟨C,.inl (.inl j)⟩,qai3 (K:=X.K) (a:=a) (xs:=C) (λ i σ H=>∃ F k A,L5 c F H σ k A/\Lk c E F H A s/\Lx F H (.ref a) (.l z u) T/\H a=some (.l C)/\Ok F H (T++A)/\Eh g t s (u.drop i) k) ⟨F1,n,A1,S1,l.step L,V,j,o1,qf⟩ ?_ ?_ ?_⟩
 . rintro i σ H _ ⟨F,k,A,S,l,r,j,o,q⟩
   exact .inl (.inl j)
 . rintro i x σ H hx ⟨F,k,A,S,l,r,j,o,q⟩
   obtain⟨a',a1,Ael',ea,p,M,_⟩:=r.lst_inv;cases ea;rw[j] at p;cases p;obtain⟨y,B,W,Y⟩:=M.getV hx
   have:=Y.imm (qt2 hm W)
   subst this;rw[qq7 W] at q;refine qab3 G S l Y (λ N σ' H' F' A' q' S' O=>?_) q;have D:=O.kp S.ok S.loc.cells;have Z:∀ b∈T,¬ (A.count b≠0):=λ b hb R=>by
     have:=o.sep b
     rw[zA0] at this
     have:=qa9.mp hb
     lia
   have r':=r.keep D Z;obtain⟨o',_⟩:=O.frame o r.cells S'.ok;have P:H' a=some (.l C):=by
     cases r with
     | l h _=>exact D.fr _ _ j (Z _ zAa)
     | lstZ h f _=>exact D.fr _ _ j λ w=>D.wf _ w f
   exact⟨F',N,A',S',l.step O,r',P,o',q'⟩
 rintro σ H ⟨F,k,A,S,l,r,j,o,q⟩;rw[rs.len,List.drop_length] at q;exact l.nx _ _ _ _ _ q S Lz.refl
noncomputable def Ei(lo:Int)(n:Nat):List D:=(List.range n).map λ(i:Nat)=>.int (lo+(i:Int))
theorem qas5{lo:Int}(h:i < n):(Ei lo n)[i]? = some (.int (lo+(i:Int))):=by
 unfold Ei;rw[zB6,List.getElem?_range h];rfl
theorem qaG9(lo:Int)(n:Nat):(Ei lo n).length=n:=by simp[Ei]
noncomputable def G0(i:Int):Bool:=decide (-(2 ^ 62)<=i)&&decide (i < 2 ^ 62)
theorem qaB1{i:Int}(h:G0 i=true):-(2 ^ 62)<=i/\i < 2 ^ 62:=by
 have:=zAh.mp h
 exact⟨zAc this.1,zAc this.2⟩
theorem qaN2{E:Eb}{en:VEnds}{F:γ->Prop}{H:Hp}{σ:St}{ds:Ds}{A:List γ}{lo:Int}(d:VG c X tg g)(S:L5 c F H σ ds A)(l:Lk c E F H A en)(q:Eh g t en (Ei lo n) ds) :
   ∃ W:Nat->Nat->St->Hp->Prop,(∃ m,W 0 m σ H)/\∀ i m σ H,W i m σ H ->
     ((Itr lo n).stop i H/\E.nx σ H)∨((Itr lo n).go i H/\∃ N:St->Hp->Prop,(∀ σ' H',N σ' H'->∃ b,b < m/\W (i+1) b σ' H')/\∀ x H',(Itr lo n).yld i H x H'->Gb c g x σ H' λ σ2 H2=>Ez c t { E with nx:=N,ct:=N,bk:=E.nx } σ2 H2):=by
 refine qao8 (λ i σ H=>∃ F ds A,L5 c F H σ ds A/\Lk c E F H A en/\Eh g t en ((Ei lo n).drop i) ds) ⟨F,ds,A,S,l,q⟩ ?_ ?_
 . rintro i σ H e ⟨F,ds,A,S,l,q⟩
   rw[qq7 (qas5 e)] at q;exact qab3 d S l (.int _) (λ a σ' H' F' A' f S' h=>⟨F',a,A',S',l.step h,f⟩) q
 rintro σ H ⟨F,ds,A,S,l,q⟩;rw[List.drop_of_length_le (by rw[qaG9];exact zA6 _)] at q;exact l.nx _ _ _ _ _ q S Lz.refl
noncomputable def one1:Ds->Option Int
 | [.int j]=>some j
 | _=>none
theorem qaK1{xs:Ds}{j:Int}(h:one1 xs=some j):xs=[.int j]:=by
 unfold one1 at h;split at h
 . cases h;rfl
 cases h
def Kc(tr:VTA)(g:VTG)(t:VTS):VTS:=λ e ds=>tr ds (λ xs ds1=>orF (one1 xs) λ j=>G0 j=true/\Eh g t e (Ei 0 j.toNat) ds1) e.xe
theorem qY4{tr:VTA}{p cpos:Pos}(s:PassesOwn (model X.prog X.w) X.A X.env X.xe)(hm:X.mg "range" = none)(d:VOs c X [a] tr)(e:VG c X tg g)(k:VSs c X body t)(f:Gl X "range" := by rfl)(u:Ko [a] X.env=[(false,eval a X.env)]:=by rfl)(x:X.calm=true:=by rfl) :
   VS c X (.For tg (.Call (.Name "range" p) [a] [] cpos) body [] pos) (Kc tr g t):=by
 refine⟨PS.mono (qay4 s x (qam7 f hm d.h u) e.h k.h) λ E σ H i=>?_,λ n y o r=>d.m _ _ _ _ _ (λ B b=>qa5 λ j=>And.imp_right (qq3 e k r _ b)) r.xe⟩;obtain⟨F,o,A,n,S,l,q⟩:=i;refine⟨F,o,A,n.xe,S,l.xe,d.m _ _ _ _ _ (λ B b q K H1 F1 T A1 C S1 D=>?_) (λ _ _ z=>z) q⟩;obtain⟨j,G,hm,I⟩:=qa7.mp q;cases qaK1 G;obtain⟨v,rfl,J⟩:=C.one_inv;cases J
 have:=qaB1 hm
 exact⟨j,rfl,this.1,this.2,qaN2 e S1 (l.step D) I⟩
def tFzV(te:VT):VT:=λ ds Q xe=>te ds (λ d ds1=>Q d.fz ds1) xe
theorem efzV(h:VE c X e te):VE c X e (tFzV te):=by
 refine⟨PE.mono h.h λ σ H Q a=>?_,λ i Q Q' j n o p=>h.m _ _ _ _ _ (λ d g=>o _ _) p⟩;obtain⟨F,i,A,j,S,x,q⟩:=a;refine⟨F,i,A,j,S,x,h.m _ _ _ _ _ (λ d g q v H1 F1 T A1 k S1 r s=>?_) (λ _ _ z=>z) q⟩;have t:=k.fz (F':=λ b=>F1 b∨b∈T) (λ b f=>.inl f) λ b u=>.inr u
 obtain⟨l,w⟩:=share (A:=T++A1) (B:=T) (C:=A1) r (λ b=>by rw[zA0]) k.cells (A':=A1) (λ b=>rfl);have L:=S1.loc.keep (Kp.more (H:=H1) λ b f=>Or.inl (b:=b∈T) f) λ _ _ z=>z
 exact q v H1 _ [] A1 t ⟨L,l,S1.len,S1.ag⟩ l (s.trans w)
end
def bk1(i:Nat)(p:List Nat)(w:V)(d0:D)(ds:Ds):Option Ds:=As [.pl i p w] [d0] ds
def Hw(i:Nat)(p:List Nat)(w:V)(d0:D)(e:VEnds):VEnds where
 nx ds:=orF (bk1 i p w d0 ds) e.nx
 rt d ds:=orF (bk1 i p w d0 ds) (e.rt d)
 bk ds:=orF (bk1 i p w d0 ds) e.bk
 ct ds:=orF (bk1 i p w d0 ds) e.ct
 xe x ds:=orF (bk1 i p w d0 ds) (e.xe x)
section
variable{c:Vc}{X:Cx}{a b e tg o:Expr}{body:List Stmt}{g:VTG}{t:VTS}{pos:Pos}{pf:PF}{F F1:γ->Prop}{H H1:Hp}{σ:St}{ds ds1:Ds}{A A1 B:List γ}{E:Eb}{en:VEnds}
theorem qp9{p:List Nat}{d0:D}{F':γ->Prop}{H':Hp}{a d:Ds}{A':List γ}(f:Ok F1 H1 (B++A1))(S1:L5 c F1 H1 σ ds1 A1)(r:Lx F1 H1 w d0 B)(S':L5 c F' H' σ' a A')(s':Lz F1 H1 A1 F' H' A')(h:bk1 i p w d0 a=some d) :
   ∃ A2,L5 c F' H' σ' d A2/\Ok F' H' (B++A')/\Lz F1 H1 (B++A1) F' H' (B++A')/\∀ b,A2.count b<=B.count b+A'.count b:=by
 obtain⟨g,j⟩:=s'.frame f r.cells S'.ok;have k:Lx F' H' w d0 B:=r.keep (s'.kp S1.ok S1.loc.cells) λ b l e=>by
   have:=f.sep b
   rw[zA0] at this
   have:=qa9.mp l
   lia
 obtain⟨A2,m,q2⟩:=qu1 (pls:=[.pl i p w]) (vs:=[w]) (more:=[]) (ys:=[d0]) (.so .nil) (.cons k .nil) S'.loc h;have e:∀ b,A2.count b<=B.count b+A'.count b:=λ b=>by have:=q2 b;simp only[zAe] at this;exact this
 exact⟨A2,⟨m,g.count λ b=>by rw[zA0];exact e b,S'.len,S'.ag⟩,g,j,e⟩
theorem Lk.lend{p:List Nat}{d0:D}(l:Lk c E F H A en)(k:Lz F H A F1 H1 (B++A1))(j:Ok F1 H1 (B++A1))(S1:L5 c F1 H1 σ ds1 A1)(r:Lx F1 H1 w d0 B):Lk c E F1 H1 A1 (Hw i p w d0 en) where
 nx ds' σ' H' F' A' q S' s':=by
   obtain⟨a,f,q⟩:=qa7.mp q;obtain⟨A2,S2,n,h,g⟩:=qp9 j S1 r S' s' f;exact l.nx _ _ _ _ A2 q S2 ((k.trans h).count λ b=>by rw[zA0];exact g b)
 bk ds' σ' H' F' A' q S' s':=by
   obtain⟨a,f,q⟩:=qa7.mp q;obtain⟨A2,S2,n,h,g⟩:=qp9 j S1 r S' s' f;exact l.bk _ _ _ _ A2 q S2 ((k.trans h).count λ b=>by rw[zA0];exact g b)
 ct ds' σ' H' F' A' q S' s':=by
   obtain⟨a,f,q⟩:=qa7.mp q;obtain⟨A2,S2,n,h,g⟩:=qp9 j S1 r S' s' f;exact l.ct _ _ _ _ A2 q S2 ((k.trans h).count λ b=>by rw[zA0];exact g b)
 xe x ds' σ' e H' F' A' q rx S' s':=by
   obtain⟨a,f,q⟩:=qa7.mp q;obtain⟨A2,S2,n,h,g⟩:=qp9 j S1 r S' s' f;exact l.xe x a σ' e H' F' A2 q rx S2 ((k.trans h).count λ b=>by rw[zA0];exact g b)
 rt d ds' v σ' H' F' T A' q rv S' oT s':=by
   obtain⟨a,f,q⟩:=qa7.mp q;have o:Lz F1 H1 A1 F' H' A':=s'.count λ b=>by rw[zA0];lia
   obtain⟨A2,S2,n,h,g⟩:=qp9 j S1 r S' o f;obtain⟨s,t⟩:=s'.frame j r.cells oT;have m:∀ b,(T++A2).count b<=(B++(T++A')).count b:=λ b=>by simp only[zA0];have:=g b;lia
   exact l.rt d a v σ' H' F' T A2 q rv S2 (s.count m) ((k.trans t).count m)
theorem qaL4{p:List Nat}{d0:D}{en a:VEnds}(b:en.Le a):(Hw i p w d0 en).Le (Hw i p w d0 a) :=
 ⟨λ c=>qa5 b.nx,λ d c=>qa5 (b.rt d),λ c=>qa5 b.bk,λ c=>qa5 b.ct,λ x c=>qa5 (b.xe x)⟩
structure Held(F:γ->Prop)(H:Hp)(a:γ)(vs:List V)(z:Bool)(ys:Ds)(T A:List γ):Prop where
 r:Lx F H (.ref a) (.l z ys) T
 h:H a=some (.l vs)
 o:Ok F H (T++A)
theorem Held.step{ys:Ds}{T:List γ}{a:γ}{F':γ->Prop}{H':Hp}{e:Ds}{A':List γ}(h:Held F H a vs z ys T A)(S:L5 c F H σ ds A)(S':L5 c F' H' σ' e A')(s':Lz F H A F' H' A'):Held F' H' a vs z ys T A':=by
 obtain⟨r,g,o⟩:=h;have d:=s'.kp S.ok S.loc.cells;have i:∀ b∈T,¬ (A.count b≠0):=λ b j k=>by
   have:=o.sep b
   rw[zA0] at this
   have:=qa9.mp j
   lia
 refine⟨r.keep d i,?_,(s'.frame o r.cells S'.ok).1⟩;cases r with
 | l h _=>exact d.fr _ _ g (i _ zAa)
 | lstZ h f _=>exact d.fr _ _ g λ w=>d.wf _ w f
theorem Held.get{ys:Ds}{T:List γ}{a:γ}{x:V}(h:Held F H a vs z ys T A)(hm:D.imms ys=true)(f:vs[i]? = some x):∃ y,ys[i]? = some y/\Lx F H x y []:=by
 obtain⟨k,g,Ael',j,b,c,_⟩:=h.r.lst_inv;cases j
 have:=h.h
 rw[b] at this;cases this;obtain⟨y,B,d,e⟩:=c.getV f
 have:=e.imm (qt2 hm d)
 subst this;exact⟨y,d,e⟩
theorem Held.len{ys:Ds}{T:List γ}{a:γ}(h:Held F H a vs z ys T A):vs.length=ys.length:=by
 obtain⟨f,d,Ael',e,b,c,_⟩:=h.r.lst_inv;cases e
 have:=h.h
 rw[b] at this;cases this;exact c.len
theorem qQ5{K:PySem.W.Frag}{ys:Ds}{T:List γ}{a:γ}(j:VG c X tg g)(S:L5 c F H σ ds A)(l:Lk c E F H A en)(b:Held F H a vs z ys T A)(hm:D.imms ys=true)(q:Eh g t en ys ds) :
   ∃ W:Nat->Nat->St->Hp->Prop,(∃ m,W 0 m σ H)/\∀ i m σ H,W i m σ H ->
     ((Itl K a).stop i H/\E.nx σ H)∨((Itl K a).go i H/\∃ N:St->Hp->Prop,(∀ σ' H',N σ' H'->∃ e,e < m/\W (i+1) e σ' H')/\∀ x H',(Itl K a).yld i H x H'->Gb c g x σ H' λ σ2 H2=>Ez c t { E with nx:=N,ct:=N,bk:=E.nx } σ2 H2):=by
 refine qai3 (xs:=vs) (λ i σ H=>∃ F ds A,L5 c F H σ ds A/\Lk c E F H A en/\Held F H a vs z ys T A/\Eh g t en (ys.drop i) ds) ⟨F,ds,A,S,l,b,q⟩ ?_ ?_ ?_
 . rintro i σ H _ ⟨F,ds,A,S,l,b,q⟩
   exact .inl (.inl b.h)
 . rintro i x σ H k ⟨F,ds,A,S,l,b,q⟩
   obtain⟨y,n,o⟩:=b.get hm k;rw[qq7 n] at q;exact qab3 j S l o (λ d σ' H' F' A' p S' f=>⟨F',d,A',S',l.step f,b.step S S' f,p⟩) q
 rintro σ H ⟨F,ds,A,S,l,b,q⟩;rw[b.len,List.drop_length] at q;exact l.nx _ _ _ _ _ q S Lz.refl
def sForP(pf:PF)(g:VTG)(t:VTS):VTS:=λ e ds=>orF (pf ds) λ q=>orF (A7 ds q.1 q.2) λ d=>orF d.lstOf λ ys=>D.imms ys=true/\∀ w,Eh g t (Hw q.1 q.2 w d e) ys (Be ds q.1 q.2 (.hole w))
theorem sforP(J:PassesOwn (model X.prog X.w) X.A X.env X.xe)(hi:VP c X o pf)(j:VG c X tg g)(y:VSs c X body t)(K:X.calm=true:=by rfl)(k:∀ v,Ks o X.env v=pure v:=by intro _;rfl):VS c X (.For tg o body [] pos) (sForP pf g t):=by
 refine⟨PS.mono (qay4 J K (qy0 hi.h) j.h y.h k) λ E σ H m=>?_,λ L M n N=>qa5 λ q=>qa5 λ d=>qa5 λ O=>And.imp_right λ h w=>qq3 j y (qaL4 N) _ _ (h w)⟩;obtain⟨F,n,A,L,S,l,q⟩:=m;obtain⟨⟨i,p⟩,P,q⟩:=qa7.mp q;obtain⟨d,e2,q⟩:=qa7.mp q;obtain⟨O,Q,R,q⟩:=qa7.mp q;obtain⟨z,rfl⟩:=qy9 Q;refine⟨F,n,A,i,p,_,S,P,e2,D.noConfusion,λ u w H1 T U s=>?_⟩;obtain⟨B,C,r,G,V⟩:=(S.same s).place e2 D.noConfusion T U;obtain⟨A1,W,q2⟩:=V (.hole w) [] (Kp.same (F:=F) λ _ _ z=>z) (λ _ _ z=>z) (.hole w);have x:Ok F H1 (B++A1):=(S.same s).ok.count λ b=>by rw[zA0,q2,G];simp
 have Y:Lz F H A F H1 (B++A1):=⟨λ b o e _=>s b o e,λ b o e z=>by rw[zA0,q2];have:=G b;simp;lia,λ _ f=>f,λ _ _ _ _ f=>f⟩
 have S1:L5 c F H1 σ (Be n i p (.hole w)) A1:=⟨W,x.right,S.len,S.ag⟩
 obtain⟨a,Z,Ael,rfl,I,rs,_⟩:=r.lst_inv;exact⟨a,rfl,⟨Z,.inl (.inl I)⟩,qQ5 j S1 (l.lend Y x S1 r) ⟨r,I,x⟩ R (q _)⟩
noncomputable def enD(ys:Ds):List D:=ys.zipIdx.map λ p=>.q [.int (p.2:Int),p.1]
theorem qaW2{ys:Ds}{y:D}(h:ys[i]? = some y):(enD ys)[i]? = some (.q [.int (i:Int),y]):=by
 unfold enD;rw[zB6,List.getElem?_zipIdx,h];simp
theorem qaD7(ys:Ds):(enD ys).length=ys.length:=by simp[enD]
end
noncomputable def fin(W:Nat->Bool):Nat->Ds->Ds->Ds
 | k,d::r,d'::r'=>(if W k=true then d' else d)::fin W (k+1) r r'
 | _,_,_=>[]
noncomputable def G9(W:Nat->Bool):Nat->Ds->Bool
 | _,[]=>true
 | k,d::r=>(W k||d.imm)&&G9 W (k+1) r
def qap8(W:Nat->Bool)(ds:Ds)(Q:DK)(xe:XKd):VEnds where
 nx ds':=Q .non (fin W 0 ds ds')
 rt d ds':=Q d (fin W 0 ds ds')
 bk _:=False
 ct _:=False
 xe x ds':=xe x (fin W 0 ds ds')
section
variable{F F':γ->Prop}{H H':Hp}
theorem qaV8{W:Nat->Bool}{Wr:γ->Prop}(q:Kp F H Wr F' H'):∀{vs:List V}{ds:Ds}{A:List γ}{k:Nat}{σ':List (Option V)}{a:Ds}{A':List γ},Lp F H vs ds A->G9 W k ds=true->Locs F' H' σ' a A'->vs.length<=σ'.length->(∀ i,i < vs.length->W (k+i)=true->σ'[i]? = (vs.map some)[i]?) ->
   ∃ A2,Lp F' H' vs (fin W k ds a) A2/\∀ b,A2.count b<=A'.count b:=by
 intro vs
 induction vs with
 | nil =>
   intro ds A k σ' a A' r g L n l;cases r;exact⟨[],by cases a<;>exact .nil,λ b=>by simp⟩
 | cons v vs s =>
   intro ds A k σ' a A' r g L n l;cases r with
   | @cons _ d B _ ds B2 r1 t =>
     have g:=zAh.mp g;have step:∀{σ2:List (Option V)}{f:Ds}{A2:List γ}(o:Option V),σ'=o::σ2->Locs F' H' σ2 f A2->∃ A3,Lp F' H' vs (fin W (k+1) ds f) A3/\∀ b,A3.count b<=A2.count b:=λ{σ2 f A2} o e L2=>by
       subst e;refine s t g.2 L2 (by simpa using n) λ i j c=>?_
       have:=l (i+1) (by simpa using j) (by rw[<- c];congr 1;lia)
       simpa using this
     cases L with
     | nil=>simp at n
     | no L2 =>
       obtain⟨A3,m,q2⟩:=step none rfl L2;by_cases c:W k=true
       . have:=l 0 (by simp) (by simpa using c)
         simp at this
       have j:d.imm=true:=by
         rcases Bool.or_eq_true_iff.mp g.1 with h | h
         . exact absurd h c
         exact h
       have:=r1.imm j
       subst this;refine⟨[]++A3,?_,λ b=>by simpa using q2 b⟩;show Lp F' H' (v::vs) ((if W k=true then _ else d)::_) _;rw[if_neg c];exact .cons (r1.keep q λ b p=>by cases p) m
     | @so v' d' B' σ2 f A2 rr L2 =>
       obtain⟨A3,m,q2⟩:=step (some v') rfl L2;by_cases c:W k=true
       . have:=l 0 (by simp) (by simpa using c)
         simp at this;subst this;refine⟨B'++A3,?_,λ b=>by simp only[zA0];have:=q2 b;lia⟩;show Lp F' H' (v'::vs) ((if W k=true then d' else d)::_) _;rw[if_pos c];exact .cons rr m
       have j:d.imm=true:=by
         rcases Bool.or_eq_true_iff.mp g.1 with h | h
         . exact absurd h c
         exact h
       have:=r1.imm j
       subst this;refine⟨[]++A3,?_,λ b=>by simp only[zAz,zA0];have:=q2 b;lia⟩;show Lp F' H' (v::vs) ((if W k=true then d' else d)::_) _;rw[if_neg c];exact .cons (r1.keep q λ b p=>by cases p) m
theorem Lp.locs{ds:Ds}{A:List γ}(r:Lp F H vs ds A):Locs F H (vs.map some) ds A:=by
 induction vs generalizing ds A with
 | nil=>cases r;exact .nil
 | cons v vs a=>cases r with | cons h t=>exact .so h (a t)
theorem qG1:∀ n:Nat,Locs F H (List.replicate n none) (List.replicate n .u) []
 | 0=>.nil
 | n+1=>.no (qG1 n)
end
structure FunE(K:W.Frag)(x qual:Str)(st:Stmt)(f:γ)(fd:ε):Prop where
 ex:∃(oc:V')(od:Option γ)(dV kV doc pm:V')(an:Option γ)(cdv ct:V')(osl:Array (Option V')),
   fd=W.fnOf x qual (qe4 st) (qd0 st) (qa3 st) dV kV doc pm an cdv ct/\K.lookup f=some ⟨oc,od,.func fd,osl⟩/\W.codeIn K cdv qual=true
theorem FunE.of{K:W.Frag}{x qual:Str}{st:Stmt}{f:γ}{fd:ε}(F:Fun K x qual st f fd):FunE K x qual st f fd :=
 by obtain⟨g,h,kV,a,i,j,b,k,c,e,l,d⟩:=F.ex;exact⟨⟨g,h,.none,kV,a,i,j,b,k,c,e,l,d⟩⟩
theorem FunE.okX{P:Program}{w:World}{K:W.Frag}{x qual:Str}{st:Stmt}{f:γ}{fd:ε}{ps:List Str}{k:Nat}{sp:Sp}(F:FunE K x qual st f fd)(S:qa8 N ps (qa3 st))(len:∀ vs H Q E,sp vs H Q E->vs.length=ps.length)(hbody:∀(a:V')(A:Around)(outer:List Env)(s:δ)(H:Hp)(vs:List V)(Q:VK)(E:XK),L6 cm k (A.deeper (PyProof.Rows.envOfC qual (qa3 st) s.heap.objs.size f a))->sp vs H Q E ->
     ∃ t,PSs (Eu cm (CX1 P w) P w K mg base N qual (qa3 st) f a A outer s H E) (qd0 st) t/\t { nx:=λ _ H'=>Q .non H',rt:=Q } (L2.start N vs) H):Eo cm P w K mg base (CX1 P w) (k+1) f fd ps sp:=by
 obtain⟨i,j,l,kV,d,m,n,a,o,e,rfl,g,b⟩:=F.ex;exact Jd g b S len λ A outer s H vs Q E h c=>hbody a A outer s H vs Q E h c
theorem VFn.mkE{P:Program}{w:World}{K:PySem.W.Frag}{x qual:Str}{st:Stmt}{f:γ}{fd:ε}{ps:List Str}{k:Nat}{s:VSp}(Fu:FunE K x qual st f fd)(Sc:qa8 N ps (qa3 st))(W:Nat->Bool)(G:Bw s)(j:∀ ds Q xe,s ds Q xe->ds.length=ps.length)(n:∀ ds Q xe,s ds Q xe->G9 W 0 ds=true)(hbody:∀(g:V')(A:Around)(outer:List Env)(B:δ)(H:Hp)(E:XK)(av:List (Option V)),L6 cm k (A.deeper (PyProof.Rows.envOfC qual (qa3 st) B.heap.objs.size f g)) ->
     ∃ t,VSs ⟨λ _=>E,W,av,[]⟩ (Eu cm (CX1 P w) P w K mg base N qual (qa3 st) f g A outer B H E) (qd0 st) t/\∀ ds Q xe,s ds Q xe->t (qap8 W ds Q xe) (ds++List.replicate (N.length - ds.length) .u)) :
   Gj cm P w K mg base (k+1) f fd ps s:=by
 refine⟨Fu.okX Sc (λ l H Q E ⟨F,ds,A,r,o,h⟩=>by rw[r.len];exact j _ _ _ h) λ g Ar outer B H l Q E I C=>?_,G⟩;obtain⟨F,ds,A,r,o,h⟩:=C;obtain⟨t,J,L⟩:=hbody g Ar outer B H E (L2.start N l) I;have X:=j _ _ _ h;have M:=n _ _ _ h;have Y:ps.length<=N.length:=by have:=congrArg List.length Sc.pre;rw[zBg] at this;lia
 have L0:Locs F H (L2.start N l++[]) (ds++List.replicate (N.length - ds.length) .u) A:=by
   rw[zAe];unfold L2.start;rw[r.len]
   have:=r.locs.append (qG1 (F:=F) (H:=H) (N.length - ds.length))
   rwa[zAe] at this
 have S0:L5 ⟨λ _=>E,W,L2.start N l,[]⟩ F H (L2.start N l) (ds++List.replicate (N.length - ds.length) .u) A:=⟨L0,o,by simp,λ i _=>by simp⟩
 have m:∀{σ':St}{H':Hp}{F':γ->Prop}{a:Ds}{A' A2:List γ},L5 ⟨λ _=>E,W,L2.start N l,[]⟩ F' H' σ' a A'->Lz F H A F' H' A2->∃ A3,Lp F' H' l (fin W 0 ds a) A3/\∀ b,A3.count b<=A'.count b:=λ{σ' H' F' a A' A2} S' c=>by
   have hlen':=S'.len;simp only[zAe] at hlen';refine qaV8 (c.kp o r.cells) r M (by have:=S'.loc;simpa using this) ?_ λ i D O=>?_
   . rw[<- hlen'];unfold L2.start;simp
   have:=S'.ag i (by simpa using O)
   simp only[zAe] at this;rw[this];show (L2.start N l)[i]? = _;unfold L2.start;rw[zAr (by simpa using D)]
 refine⟨_,J.h,F,_,A,qap8 W ds _ _,S0,⟨?_,?_,λ _ _ _ _ _ z=>False.elim z,λ _ _ _ _ _ z=>False.elim z,?_⟩,L _ _ _ h⟩
 . intro a σ' H' F' A' q S' c
   obtain⟨A3,p,q2⟩:=m S' c;have u:∀ b,([]++A3).count b<=A'.count b:=λ b=>by simpa using q2 b
   exact q .non H' F' [] A3 .non p (S'.ok.count u) (c.count u)
 . intro d a v σ' H' F' T A' q R S' S c
   obtain⟨A3,p,q2⟩:=m S' c;have u:∀ b,(T++A3).count b<=(T++A').count b:=λ b=>by simp only[zA0];have:=q2 b;lia
   exact q v H' F' T A3 R p (S.count u) (c.count u)
 intro y a σ' e H' F' A' q U S' c;obtain⟨A3,p,q2⟩:=m S' c;exact q e H' F' A3 U p (S'.ok.count q2) (c.count q2)
theorem VFn.mk'{P:Program}{w:World}{K:PySem.W.Frag}{x qual:Str}{st:Stmt}{f:γ}{fd:ε}{ps:List Str}{k:Nat}{s:VSp}(Fu:Fun K x qual st f fd)(Sc:qa8 N ps (qa3 st))(W:Nat->Bool)(e:Bw s)(a:∀ ds Q xe,s ds Q xe->ds.length=ps.length)(b:∀ ds Q xe,s ds Q xe->G9 W 0 ds=true)(hbody:∀(c:V')(A:Around)(outer:List Env)(d:δ)(H:Hp)(E:XK)(av:List (Option V)),L6 cm k (A.deeper (PyProof.Rows.envOfC qual (qa3 st) d.heap.objs.size f c)) ->
     ∃ t,VSs ⟨λ _=>E,W,av,[]⟩ (Eu cm (CX1 P w) P w K mg base N qual (qa3 st) f c A outer d H E) (qd0 st) t/\∀ ds Q xe,s ds Q xe->t (qap8 W ds Q xe) (ds++List.replicate (N.length - ds.length) .u)) :
   Gj cm P w K mg base (k+1) f fd ps s:=VFn.mkE (FunE.of Fu) Sc W e a b hbody
def Br:List (Option Nat)->Ds->Ds×Ds
 | [],ds=>([],ds)
 | none::r,ds=>(.u::(Br r ds).1,(Br r ds).2)
 | some j::r,ds=>((ds[j]?).getD .u::(Br r (ds.set j .u)).1,(Br r (ds.set j .u)).2)
def Fv:List (Option Nat)->Ds->Ds->Ds
 | none::r,_::i,o=>Fv r i o
 | some j::r,d::i,o=>Fv r i (o.set j d)
 | _,_,o=>o
def Fl(g:VTG)(qf:VTT)(te:VT)(K:Ds->Ds->Prop):List D->Ds->Ds->Prop
 | [],acc,ι=>K acc ι
 | x::xs,acc,ι=>g x ι λ ι1=>qf ι1 (λ b ι2=>if b=true then te ι2 (λ d ι3=>acc.length < big/\Fl g qf te K xs (acc++[d]) ι3) (λ _ _=>False) else Fl g qf te K xs acc ι2) (λ _ _=>False)
noncomputable def capW(src:List (Option Nat)):Nat->Bool:=λ i=>match src[i]? with | some (some _)=>true | _=>false
abbrev cIn(src:List (Option Nat))(av:List (Option V)):Vc:=⟨λ _ _ _ _=>False,capW src,av,[]⟩
structure VF(c:Vc)(X:Cx)(ifs:List Expr)(t:VTT):Prop where
 h:PFs X ifs (Er c t)
 m:∀ ds (Q Q':Bool->Ds->Prop) (xe xe':XKd),(∀ d ds',Q d ds'->Q' d ds')->(∀ x ds',xe x ds'->xe' x ds')->t ds Q xe->t ds Q' xe'
def qYes:VTT:=λ ds Q _=>Q true ds
theorem Fc{c:Vc}{X:Cx}:VF c X [] qYes:=⟨λ E3 s σ H Q I ⟨F,a,A,b,S,x,q⟩=>qaI6 E3 s σ H Q I (q H F A S Lz.refl),λ a Q Q' b d e _=>e _ _⟩
theorem G1{c:Vc}{X:Cx}{e:Expr}{t:VTT}(h:VTe c X e t):VF c X [e] t:=⟨qaS0 h.h,h.m⟩
section
variable{F F':γ->Prop}{H H':Hp}
theorem qab5:∀{src:List (Option Nat)}{σ a:List (Option V)}{ds:Ds}{A:List γ},Locs F H (σ++a) ds A->(∀ j,some j∈src->j < σ.length) ->
   ∃ Ai Ao,Locs F H (Em σ src) (Br src ds).1 Ai/\Locs F H (σ++a) (Br src ds).2 Ao/\∀ b,A.count b=Ai.count b+Ao.count b
 | [],σ,a,ds,A,L,_=>⟨[],A,.nil,L,λ b=>by simp⟩
 | none::r,σ,a,ds,A,L,h=>by
   obtain⟨Ai,Ao,f,q2,g⟩:=qab5 (src:=r) L λ j c=>h j (zA4 _ c)
   exact⟨Ai,Ao,.no f,q2,g⟩
 | some j::r,σ,a,ds,A,L,h=>by
   have c:=h j zAa;have t:=L.len;rw[zA7] at t;obtain⟨z,e⟩:∃ d,ds[j]? = some d:=⟨_,zBl (by lia)⟩
   obtain⟨σ1,o,σ2,i,k,A1,B,A2,m,e2,u,w,x,n,p,q⟩:=L.split e;have s:(σ++a)[j]? = some o:=by rw[m];exact qD3 u
   rw[zAr c] at s;have y:ds.set j .u=i++.u::k:=by
     have:=congrArg (λ l=>l.set j .u) e2
     rw[this,qo6 w]
   have L':Locs F H (σ++a) (ds.set j .u) (A1++A2):=by
     rw[m,y];cases p with
     | no=>exact n.append (.no q)
     | @so v _ _ _=>exact n.append (.so (B:=[]) (.u v) q)
   obtain⟨Ai,Ao,f,q2,g⟩:=qab5 (src:=r) L' λ j c=>h j (zA4 _ c)
   refine⟨B++Ai,Ao,?_,q2,λ b=>by rw[x];have:=g b;simp only[zA0] at *;lia⟩;show Locs F H (((σ[j]?).getD none)::Em σ r) ((ds[j]?).getD .u::_) _;rw[s,e];exact Locs.cons p f
theorem qK4:∀{src:List (Option Nat)}{σ c σ':List (Option V)}{ι o:Ds}{Ai Ao:List γ},Locs F H σ' ι Ai->Locs F H (σ++c) o Ao->(∀ j,some j∈src->j < σ.length)->(∀(i j:Nat),src[i]? = some (some j)->σ'[i]? = some ((σ[j]?).getD none))->σ'.length=src.length ->
   ∃ A',Locs F H (σ++c) (Fv src ι o) A'/\∀ b,A'.count b<=Ai.count b+Ao.count b
 | [],σ,c,σ',ι,o,Ai,Ao,L,Lo,_,_,_=>⟨Ao,by cases ι<;>exact Lo,λ b=>by lia⟩
 | none::r,σ,c,σ',ι,o,Ai,Ao,L,Lo,h,k,f=>by
   cases L with
   | nil=>simp at f
   | no L2 =>
     obtain⟨A',g,q2⟩:=qK4 (src:=r) L2 Lo (λ j a=>h j (zA4 _ a)) (λ i j e=>by simpa using k (i+1) j (by simpa using e)) (by simpa using f);exact⟨A',g,q2⟩
   | so w L2 =>
     obtain⟨A',g,q2⟩:=qK4 (src:=r) L2 Lo (λ j a=>h j (zA4 _ a)) (λ i j e=>by simpa using k (i+1) j (by simpa using e)) (by simpa using f);exact⟨A',g,λ b=>by rw[zA0];have:=q2 b;lia⟩
 | some j::r,σ,c,σ',ι,o,Ai,Ao,L,Lo,h,k,f=>by
   have a:=h j zAa;have m:=Lo.len;rw[zA7] at m;obtain⟨G,n⟩:∃ d,o[j]? = some d:=⟨_,zBl (by lia)⟩
   obtain⟨σ1,p,σ2,q,s,A1,B,A2,t,e2,D,E,x,y,I,z⟩:=Lo.split n;have A:(σ++c)[j]? = some p:=by rw[t];exact qD3 D
   rw[zAr a] at A;have u:=k 0 j rfl;rw[A] at u;have C:∀ d,o.set j d=q++d::s:=λ d=>by
     have:=congrArg (λ l=>l.set j d) e2
     rw[this,qo6 E]
   cases L with
   | nil=>simp at f
   | no L2 =>
     have:p=none:=by simpa using u.symm
     subst this;have Lo':Locs F H (σ++c) (o.set j .u) (A1++A2):=by rw[t,C];exact y.append (.no z)
     obtain⟨A',g,q2⟩:=qK4 (src:=r) L2 Lo' (λ j a=>h j (zA4 _ a)) (λ i j e=>by simpa using k (i+1) j (by simpa using e)) (by simpa using f);exact⟨A',g,λ b=>by rw[x];have:=q2 b;simp only[zA0] at *;lia⟩
   | @so v d Bv _ _ _ w L2 =>
     have:p=some v:=by simpa using u.symm
     subst this;have Lo':Locs F H (σ++c) (o.set j d) (A1++(Bv++A2)):=by rw[t,C];exact y.append (.so w z)
     obtain⟨A',g,q2⟩:=qK4 (src:=r) L2 Lo' (λ j a=>h j (zA4 _ a)) (λ i j e=>by simpa using k (i+1) j (by simpa using e)) (by simpa using f);exact⟨A',g,λ b=>by rw[x];have:=q2 b;simp only[zA0] at *;lia⟩
theorem qay6(σ:St)(src:List (Option Nat)):(Em σ src).length=src.length:=by simp[Em]
theorem qay7{σ:St}{src:List (Option Nat)}(h:src[i]? = some (some j)):(Em σ src)[i]? = some ((σ[j]?).getD none):=by
 unfold Em;rw[zB6,h];rfl
structure Kd(Pp:(γ->Prop)->Hp->Prop)(T:List γ):Prop where
 keep:∀{F F':γ->Prop}{H H':Hp}{W:γ->Prop},Kp F H W F' H'->(∀ b∈T,¬ W b)->Pp F H->Pp F' H'
 cells:∀{F:γ->Prop}{H:Hp},Pp F H->∀ b∈T,∃ o,H b=some o/\Ew o=true
end
section
variable{c:Vc}{F F':γ->Prop}{H H':Hp}{Pp:(γ->Prop)->Hp->Prop}{τ:List (Option V)}{o:Ds}{Dd:γ}{acc:Ds}{T A A' Tv:List γ}{σ:St}{ds:Ds}
noncomputable def Tot(B T Ao A:List γ):List γ:=B++(T++(Ao++A))
theorem qv3(st:Kd Pp T){B:List γ}(r:Lx F H (.ref Dd) (.l false acc) B)(g:Pp F H)(L:Locs F H τ o Ao)(h:Ok F H (Tot B T Ao A))(S:L5 c F H σ ds A)(s:Lz F H A F' H' A')(o':Ok F' H' A') :
   Lx F' H' (.ref Dd) (.l false acc) B/\Pp F' H'/\Locs F' H' τ o Ao/\Ok F' H' (Tot B T Ao A')/\Lz F H (Tot B T Ao A) F' H' (Tot B T Ao A'):=by
 unfold Tot at *
 have f:=s.kp S.ok S.loc.cells;have i:∀ b,(B++(T++(Ao++A))).count b=((B++(T++Ao))++A).count b:=λ b=>by simp only[zA0];lia
 have d:∀ b,b∈B∨b∈T∨b∈Ao->¬ (A.count b≠0):=λ b a j=>by
   have:=h.sep b
   simp only[zA0] at this;rcases a with a | a | a<;>have:=qa9.mp a<;>lia
 have k:∀ b∈B++(T++Ao),∃ o,H b=some o/\Ew o=true:=λ b a=>by
   rcases zAb.mp a with a | a
   . exact r.cells b a
   rcases zAb.mp a with a | a
   . exact st.cells g b a
   exact L.cells b a
 obtain⟨l,m⟩:=s.frame (T:=B++(T++Ao)) (h.count λ b=>by rw[i];exact zA6 _) k o';have e:∀ b,(B++(T++(Ao++A'))).count b=((B++(T++Ao))++A').count b:=λ b=>by simp only[zA0];lia
 exact⟨r.keep f λ b a=>d b (.inl a),st.keep f (λ b a=>d b (.inr (.inl a))) g,L.keep f λ b a=>d b (.inr (.inr a)),l.count λ b=>by rw[e];exact zA6 _,(m.pre λ b=>by rw[i]).count λ b=>by rw[e];exact zA6 _⟩
theorem qaz5(st:Kd Pp T){B:List γ}{d:D}(r:Lx F H (.ref Dd) (.l false acc) B)(p:Pp F H)(L:Locs F H τ o Ao)(S:L5 c F H σ ds A)(q:Lx F H v d Tv)(h:Ok F H (Tot B T Ao (Tv++A))) :
   ∃ vs B',H Dd=some (.l vs)/\vs.length=acc.length/\Lx F (upd H Dd (.l (vs++[v]))) (.ref Dd) (.l false (acc++[d])) B'/\Pp F (upd H Dd (.l (vs++[v])))/\Locs F (upd H Dd (.l (vs++[v]))) τ o Ao/\L5 c F (upd H Dd (.l (vs++[v]))) σ ds A/\Ok F (upd H Dd (.l (vs++[v]))) (Tot B' T Ao A)/\Lz F H (Tot B T Ao (Tv++A)) F (upd H Dd (.l (vs++[v]))) (Tot B' T Ao A):=by
 unfold Tot at *
 obtain⟨a,vs,Ael,s,j,l,rfl⟩:=qP8 r;cases s;have t:=h.sep Dd;simp only[zA0,zAn,zB3,if_true] at t;have m:¬ F Dd:=λ f=>by have:=h.fro Dd f;simp only[zA0,zAn,zB3,if_true] at this;lia
 have k:=qM2 (F:=F) (o':=.l (vs++[v])) j rfl m;have i:∀ X:List γ,X.count Dd=0->∀ b∈X,¬ b=Dd:=λ X y b C w=>by subst w;exact(qa9.mp C) y
 have g:∀ b,(Dd::(Ael++(Tv++[]))++(T++(Ao++A))).count b<=(Dd::Ael++(T++(Ao++(Tv++A)))).count b:=λ b=>by simp only[zA0,zAn,List.count_nil];lia
 have n:∀ b,F b->∃ o,upd H Dd (.l (vs++[v])) b=some o:=λ b f=>by
   obtain⟨x,e⟩:=h.ex b f;exact⟨x,by rw[qb4 (show b≠Dd from λ w=>m (w ▸ f))];exact e⟩
 refine⟨vs,Dd::(Ael++(Tv++[])),j,l.len,?_,st.keep k (i T (by lia)) p,L.keep k (i Ao (by lia)),⟨S.loc.keep k (i A (by lia)),⟨S.ok.sep,S.ok.fro,n⟩,S.len,S.ag⟩,⟨λ b=>zAp (g b) (h.sep b),λ b f=>by have:=h.fro b f;have:=g b;lia,n⟩,λ b u e z=>?_,λ b u e z=>by have:=g b;lia,λ _ f=>f,λ _ _ _ _ f=>f⟩
 . exact .l qb3 ((l.append (.cons q .nil)).keep k (i _ (by simp only[zA0,List.count_nil];lia)))
 rw[qb4 λ w=>?_]
 . exact e
 subst w;simp only[zA0,zAn,zB3,if_true] at z;lia
end
def qv0(src:List (Option Nat))(g:VTG):TG:=λ v σ H Q=>∃ av,Gb (cIn src av) g v σ H Q
def qu9(src:List (Option Nat))(q:VTT):TT:=λ σ H Q=>∃ av,Er (cIn src av) q σ H Q
def Ea(src:List (Option Nat))(t:VT):TE:=λ σ H Q=>∃ av,Bh (cIn src av) t σ H Q
structure Blk(X:Cx)(NY:List Str)(sc:Scope)(src:List (Option Nat))(tg:Expr)(ifs:List Expr)(elt:Expr)(g:VTG)(qf:VTT)(te:VT):Prop where
 g:∀ av C s0 H0 ex,VG (cIn src av) (qi8 X NY sc C s0 H0 ex) tg g
 f:∀ av C s0 H0 ex,VF (cIn src av) (qi8 X NY sc C s0 H0 ex) ifs qf
 e:∀ av C s0 H0 ex,VE (cIn src av) (qi8 X NY sc C s0 H0 ex) elt te
 lt:∀ E3 σ H s,Ly X E3 σ H s->∀ j,some j∈src->j < σ.length
section
variable{c:Vc}{X:Cx}{NY:List Str}{sc:Scope}{src:List (Option Nat)}{tg elt e:Expr}{ifs:List Expr}{g:VTG}{qf:VTT}{te:VT}
theorem Blk.pg(b:Blk X NY sc src tg ifs elt g qf te):∀ C a H0 ex,PG (qi8 X NY sc C a H0 ex) tg (qv0 src g):=λ C a H0 ex E3 s σ H v u Q I r ⟨c,q⟩=>(b.g c C a H0 ex).h E3 s σ H v u Q I r q
theorem Blk.pf(b:Blk X NY sc src tg ifs elt g qf te):∀ C a H0 ex,PFs (qi8 X NY sc C a H0 ex) ifs (qu9 src qf):=λ C a H0 ex E3 s σ H Q I ⟨c,q⟩=>(b.f c C a H0 ex).h E3 s σ H Q I q
theorem Blk.pe(b:Blk X NY sc src tg ifs elt g qf te):∀ C a H0 ex,PE (qi8 X NY sc C a H0 ex) elt (Ea src te):=λ C a H0 ex E3 s σ H Q I ⟨c,q⟩=>(b.e c C a H0 ex).h E3 s σ H Q I q
theorem Blk.gm(b:Blk X NY sc src tg ifs elt g qf te):∀ d ds (Q Q':Ds->Prop),(∀ a,Q a->Q' a)->g d ds Q->g d ds Q':=(b.g [] 0 {} (λ _=>none) []).m
theorem Blk.fm(b:Blk X NY sc src tg ifs elt g qf te):∀ ds (Q Q':Bool->Ds->Prop) (xe c:XKd),(∀ d a,Q d a->Q' d a)->(∀ x a,xe x a->c x a)->qf ds Q xe->qf ds Q' c:=(b.f [] 0 {} (λ _=>none) []).m
theorem Blk.em(b:Blk X NY sc src tg ifs elt g qf te):∀ ds (Q Q':DK) (xe c:XKd),(∀ d a,Q d a->Q' d a)->(∀ x a,xe x a->c x a)->te ds Q xe->te ds Q' c:=(b.e [] 0 {} (λ _=>none) []).m
theorem ql6(b:Blk X NY sc src tg ifs elt g qf te){K K':Ds->Ds->Prop}(h:∀ acc ι,K acc ι->K' acc ι):∀(xs:List D) acc ι,Fl g qf te K xs acc ι->Fl g qf te K' xs acc ι
 | [],acc,ι=>h acc ι
 | x::xs,acc,ι=>b.gm _ _ _ _ λ ι1=>b.fm _ _ _ _ _ (λ k ι2=>qD2 (b.em _ _ _ _ _ (λ d ι3=>And.imp_right (ql6 b h xs _ _)) λ _ _ z=>z) (ql6 b h xs _ _)) λ _ _ z=>z
variable{F F0:γ->Prop}{H H0:Hp}{Pp:(γ->Prop)->Hp->Prop}{τ:List (Option V)}{o0:Ds}{Dd:γ}{acc:Ds}{T A A0:List γ}{σ:St}{ds ι:Ds}{av:List (Option V)}{K:Ds->Ds->Prop}
def Mid(src:List (Option Nat))(av:List (Option V))(Pp:(γ->Prop)->Hp->Prop)(T:List γ)(τ:List (Option V))(o0:Ds)(Dd:γ)(F0:γ->Prop)(H0:Hp)(A0:List γ)(g:VTG)(qf:VTT)(te:VT)(K:Ds->Ds->Prop)(xs:List D)(σ:St)(H:Hp):Prop :=
 ∃ F ι A acc B Ao,L5 (cIn src av) F H σ ι A/\Lx F H (.ref Dd) (.l false acc) B/\Pp F H/\Locs F H τ o0 Ao/\Ok F H (Tot B T Ao A)/\Lz F0 H0 A0 F H (Tot B T Ao A)/\Fl g qf te K xs acc ι
theorem qV9(b:Blk X NY sc src tg ifs elt g qf te)(st:Kd Pp T){B:List γ}{x:V}{y:D}{xs:List D}(S:L5 (cIn src av) F H σ ι A)(r:Lx F H (.ref Dd) (.l false acc) B)(t:Pp F H)(L:Locs F H τ o0 Ao)(u:Ok F H (Tot B T Ao A))(p:Lz F0 H0 A0 F H (Tot B T Ao A))(w:Lx F H x y [])(q:Fl g qf te K (y::xs) acc ι) :
   qv0 src g x σ H λ σ2 H2=>qu9 src qf σ2 H2 λ h H3=>if h=true then Ea src te σ2 H3 λ v H4=>∃ ys,H4 Dd=some (.l ys)/\ys.length < Kq/\Mid src av Pp T τ o0 Dd F0 H0 A0 g qf te K xs σ2 (upd H4 Dd (.l (ys++[v]))) else Mid src av Pp T τ o0 Dd F0 H0 A0 g qf te K xs σ2 H3:=by
 have a:∀(F:γ->Prop)(H:Hp)(A:List γ),Xc (cIn src av) (λ _ _=>False) F H A:=λ F H A x C σ' e H' F' A' z=>z.elim
 refine⟨av,F,ι,A,[],y,w,S,S.ok,b.gm _ _ _ _ (λ ι1 q σ1 H1 F1 A1 S1 E=>?_) q⟩;obtain⟨G,i,L1,j,t1⟩:=qv3 st r t L u S (show Lz F H A F1 H1 A1 from E) S1.ok;refine⟨av,F1,ι1,A1,_,S1,a _ _ _,b.fm _ _ _ _ _ (λ k ι2 q H2 F2 A2 S2 I=>?_) (λ _ _ z=>z) q⟩;obtain⟨s,c,L2,f,t2⟩:=qv3 st G i L1 j S1 I S2.ok;cases k with
 | false =>
   rw[if_neg (by decide)] at q ⊢;exact⟨F2,ι2,A2,acc,B,Ao,S2,s,c,L2,f,(p.trans t1).trans t2,q⟩
 | true =>
   rw[if_pos rfl] at q ⊢;refine⟨av,F2,ι2,A2,_,S2,a _ _ _,b.em _ _ _ _ _ (λ d ι3 q v H3 F3 Tv A3 J S3 M N=>?_) (λ _ _ z=>z) q⟩;obtain⟨O,l,L3,m,P⟩:=qv3 st s c L2 f S2 N M;obtain⟨Q,B',R,e2,U,n,L4,S4,o,W⟩:=qaz5 st O l L3 S3 J m;exact⟨Q,R,by rw[e2];exact zAg q.1 qi2,F3,ι3,A3,acc++[d],B',Ao,S4,U,n,L4,o,((p.trans t1).trans t2).trans (P.trans W),q.2⟩
theorem qR1{xs:List D}(f:∀ j,some j∈src->j < σ.length)(S:L5 c F H σ ds A)(n:Ok F H (T++A))(l:Pp F H)(st:Kd Pp T)(h:H Dd=none)(q:Fl g qf te K xs [] (Br src ds).1) :
   Mid src (Em σ src) Pp T (σ++c.gv) (Br src ds).2 Dd F H (T++A) g qf te K xs (Em σ src) (upd H Dd (.l [])):=by
 obtain⟨Ai,Ao,o,q2,p⟩:=qab5 S.loc f;have a:=Same.new (u:=.l []) h;have r:=Kp.same (F:=F) a;have okN:Ok F (upd H Dd (.l [])) ([Dd]++(T++A)):=(qg7 h).ok n (λ b d=>by
   rcases zAb.mp d with d | d
   . exact st.cells l b d
   exact S.loc.cells b d) a
 have m:∀ b,(Tot [Dd] T Ao Ai).count b=([Dd]++(T++A)).count b:=λ b=>by unfold Tot;simp only[zA0,p];lia
 have e:Ok F (upd H Dd (.l [])) (Tot [Dd] T Ao Ai):=okN.count λ b=>by rw[m];exact zA6 _
 have k:Ok F (upd H Dd (.l [])) Ai:=e.count λ b=>by unfold Tot;simp only[zA0];lia
 refine⟨F,_,Ai,[],[Dd],Ao,⟨by rw[zAe];exact o.same a,k,by simp,λ i _=>by simp⟩,.l qb3 .nil,st.keep r (λ _ _=>id) l,q2.same a,e,((qg7 h).stp a).count λ b=>by rw[m];exact zA6 _,q⟩
theorem qR2{H':Hp}{Fz:γ->Prop}{Hz:Hp}{Az:List γ}(d:∀ j,some j∈src->j < σ.length)(S:L5 c Fz Hz σ ds Az)(m:Mid src (Em σ src) Pp T (σ++c.gv) o0 Dd F0 H0 A0 g qf te (λ acc ι'=>∀ v H' F' B A',Lx F' H' v (.l false acc) B->L5 c F' H' σ (Fv src ι' o0) A'->Pp F' H'->Ok F' H' (B++(T++A'))->Lz F0 H0 A0 F' H' (B++(T++A'))->Q v H') [] σ' H'):Q (.ref Dd) H':=by
 obtain⟨F,ι,A,acc,B,Ao,S1,r,k,L,l,s,q⟩:=m;have a:=S1.len;simp only[zAe] at a;obtain⟨A',n,o⟩:=qK4 (src:=src) (by have:=S1.loc;simpa using this) L d (λ i j e=>by
   have:=S1.ag i (by show capW src i=true;unfold capW;rw[e])
   simp only[zAe] at this;rw[this];exact qay7 e) (by rw[<- a,qay6])
 have f:∀ b,(B++(T++A')).count b<=(Tot B T Ao A).count b:=λ b=>by unfold Tot;simp only[zA0];have:=o b;lia
 have h:=l.count f;exact q (.ref Dd) H' F B A' r ⟨n,h.right.right,S.len,S.ag⟩ k h (s.count f)
theorem qq9{a:γ}{ys:Ds}{T:List γ}:Kd (λ F H=>Lx F H (.ref a) (.l z ys) T/\H a=some (.l vs)) T where
 keep:=λ{F F' H H' W} k h p=>by
   refine⟨p.1.keep k h,?_⟩;cases p.1 with
   | l _ _=>exact k.fr _ _ p.2 (h _ zAa)
   | lstZ _ f _=>exact k.fr _ _ p.2 λ w=>k.wf _ w f
 cells:=λ p=>p.1.cells
theorem qaM9{a:γ}{ys:Ds}{T:List γ}{x:V}(r:Lx F H (.ref a) (.l z ys) T)(h:H a=some (.l vs))(hm:D.imms ys=true)(f:vs[i]? = some x):∃ y,ys[i]? = some y/\Lx F H x y []:=by
 obtain⟨k,g,Ael',j,b,c,_⟩:=r.lst_inv;cases j;rw[h] at b;cases b;obtain⟨y,B,d,e⟩:=c.getV f
 have:=e.imm (qt2 hm d)
 subst this;exact⟨y,d,e⟩
theorem qaL7{a:γ}{ys:Ds}{T:List γ}(r:Lx F H (.ref a) (.l z ys) T)(h:H a=some (.l vs)):vs.length=ys.length:=by
 obtain⟨f,d,Ael',e,b,c,_⟩:=r.lst_inv;cases e;rw[h] at b;cases b;exact c.len
theorem qM5{K':W.Frag}{a:γ}{ys:Ds}{Q:Hp->Prop}(b:Blk X NY sc src tg ifs elt g qf te)(hm:D.imms ys=true)(m:Mid src av (λ F H=>Lx F H (.ref a) (.l z ys) T/\H a=some (.l vs)) T τ o0 Dd F0 H0 A0 g qf te K ys σ' H)(f:∀ σ2 H2,Mid src av (λ F H=>Lx F H (.ref a) (.l z ys) T/\H a=some (.l vs)) T τ o0 Dd F0 H0 A0 g qf te K [] σ2 H2->Q H2):qH5 (Itl K' a) (qv0 src g) (qu9 src qf) (Ea src te) Dd Q σ' H:=by
 obtain⟨_,_,_,_,_,_,_,_,c,_⟩:=id m;have d:=qaL7 c.1 c.2;refine qW0 (xs:=vs) (λ i σ H=>Mid src av (λ F H=>Lx F H (.ref a) (.l z ys) T/\H a=some (.l vs)) T τ o0 Dd F0 H0 A0 g qf te K (ys.drop i) σ H) m ?_ ?_ ?_
 . rintro i σ H _ ⟨_,_,_,_,_,_,_,_,e,_⟩
   exact .inl (.inl e.2)
 . rintro i x σ H h ⟨F,ι,A,j,B,Ao,S1,r,e,L,k,s,q⟩
   obtain⟨y,l,n⟩:=qaM9 e.1 e.2 hm h;rw[qq7 l] at q;exact qV9 b qq9 S1 r e L k s n q
 intro σ H m;rw[d,List.drop_length] at m;exact f _ _ m
theorem qak8{K':W.Frag}{a:γ}{ys:Ds}{Q:Hp->Prop}(b:Blk X NY sc src tg ifs elt g qf te)(hm:D.imms ys=true)(m:Mid src av (λ F H=>Lx F H (.ref a) (.l z ys) T/\H a=some (.l vs)) T τ o0 Dd F0 H0 A0 g qf te K (enD ys) σ' H)(o:∀ σ2 H2,Mid src av (λ F H=>Lx F H (.ref a) (.l z ys) T/\H a=some (.l vs)) T τ o0 Dd F0 H0 A0 g qf te K [] σ2 H2->Q H2):qH5 (Ite K' a) (qv0 src g) (qu9 src qf) (Ea src te) Dd Q σ' H:=by
 obtain⟨_,_,_,_,_,_,_,_,c,_⟩:=id m;have d:=qaL7 c.1 c.2;refine qaq3 (xs:=vs) (λ i σ H=>Mid src av (λ F H=>Lx F H (.ref a) (.l z ys) T/\H a=some (.l vs)) T τ o0 Dd F0 H0 A0 g qf te K ((enD ys).drop i) σ H) m ?_ ?_ ?_
 . rintro i σ H _ ⟨_,_,_,_,_,_,_,_,e,_⟩
   exact .inl (.inl e.2)
 . rintro i x σ H n p ⟨F,ι,A,t,B,Ao,S1,r,e,L,v,s,q⟩ f
   obtain⟨y,w,C⟩:=qaM9 e.1 e.2 hm p;rw[qq7 (qaW2 w)] at q;have h:=Same.new (u:=.q [.int (i:Int),x]) f;have j:Lx F (upd H n (.q [.int (i:Int),x])) (.ref n) (.q [.int (i:Int),y]) []:=qaf3 f (.cons (A:=[]) (B:=[]) (.int _) (.cons (A:=[]) (B:=[]) C .nil));obtain⟨E,k,L1,l,t1⟩:=qv3 qq9 r e L v S1 (Lz.same h) (S1.ok.same h);exact qV9 b qq9 (S1.same h) E k L1 l (s.trans t1) j q
 intro σ H m;rw[List.drop_of_length_le (by rw[qaD7,d];exact zA6 _)] at m;exact o _ _ m
end
def Imp(c:Vc)(X:Cx)(t:VT)(tc:TE):Prop:=∀ E3 s σ H Q,Ly X E3 σ H s->Bh c t σ H Q->tc σ H Q
def G2(t:VT):Prop:=∀ ds (Q Q':DK) (xe xe':XKd),(∀ d a,Q d a->Q' d a)->(∀ x a,xe x a->xe' x a)->t ds Q xe->t ds Q' xe'
section
variable{c:Vc}{X:Cx}{NY:List Str}{sc:Scope}{src:List (Option Nat)}{tg elt e o:Expr}{ifs:List Expr}{g:VTG}{qf:VTT}{te t0:VT}{pf:PF}
theorem qak9{tc:TE}{t:VT}(h:PE X e tc)(i:Imp c X t tc)(m:G2 t):VE c X e t:=⟨λ E3 s σ H Q I q=>h E3 s σ H Q I (i E3 s σ H Q I q),m⟩
theorem qaP5{tc:TE}{t:VT}{x:Str}{px spos:Pos}(h:PS X (.Assign [.Name x px] e spos) (Ib tc (Fo i)))(j:Imp c X t tc)(m:G2 t)(k:c.W i=false)(hi:X.N[i]? = some x):VS c X (.Assign [.Name x px] e spos) (E7 t (gNm i)):=by
 refine⟨λ E3 s σ H E I q=>h E3 s σ H E I (j E3 s σ H _ I ?_),λ b n f g=>m _ _ _ _ _ (λ d a=>g.nx _) g.xe⟩;obtain⟨F,f,A,b,S,l,q⟩:=q;refine⟨F,f,A,b.xe,S,l.xe,m _ _ _ _ _ (λ d a q v H' F' T A' r S' o p=>?_) (λ _ _ z=>z) q⟩;obtain⟨A2,S2,u⟩:=S'.store k (qk3 hi E3 σ H s I) r o;exact l.nx _ _ H' F' A2 q S2 (p.trans u)
def Ke(src:List (Option Nat))(g:VTG)(qf:VTT)(te:VT)(ys:List D):Ds->DK->Prop:=λ ds1 Q=>Fl g qf te (λ acc ι'=>Q (.l false acc) (Fv src ι' (Br src ds1).2)) ys [] (Br src ds1).1
theorem qab7(b:Blk X NY sc src tg ifs elt g qf te){ys:List D}{ds1:Ds}{Q Q':DK}(h:∀ d a,Q d a->Q' d a):Ke src g qf te ys ds1 Q->Ke src g qf te ys ds1 Q':=ql6 b (λ c ι=>h _ _) _ _ _
def tCL(src:List (Option Nat))(t0:VT)(g:VTG)(qf:VTT)(te:VT):VT:=λ ds Q xe=>t0 ds (λ d ds1=>orF d.lstOf λ ys=>D.imms ys=true/\Ke src g qf te ys ds1 Q) xe
theorem qaw6(b:Blk X NY sc src tg ifs elt g qf te)(hi:VE c X e t0):G2 (tCL src t0 g qf te):=λ j Q Q' k a f h=>hi.m _ _ _ _ _ (λ d i=>qa5 λ l=>And.imp_right (qab7 b f)) h
theorem qaV1{K:W.Frag}(b:Blk X NY sc src tg ifs elt g qf te)(hi:VE c X e t0):Imp c X (tCL src t0 g qf te) (E9 (He K (Bh c t0)) src (qv0 src g) (qu9 src qf) (Ea src te)):=by
 rintro E3 s σ H Q I ⟨F,k,A,l,S,x,q⟩;have f:=b.lt E3 σ H s I;refine⟨F,k,A,l,S,x,hi.m _ _ _ _ _ (λ d n q v H1 F1 T A1 i S1 o p=>?_) (λ _ _ z=>z) q⟩;obtain⟨E,t,u,h⟩:=qa7.mp q;obtain⟨z,rfl⟩:=qy9 t;obtain⟨a,w,Ael,rfl,j,G,_⟩:=i.lst_inv;refine⟨a,rfl,⟨w,.inl (.inl j)⟩,λ Dd y=>qM5 b u (qR1 f S1 o ⟨i,j⟩ qq9 y (ql6 b (λ C ι q v H' F' B A' r S' _ D s=>q v H' F' B A' r S' (D.count λ b=>by simp only[zA0];lia) ((p.trans s).count λ b=>by simp only[zA0];lia)) _ _ _ h)) λ σ2 H2 m=>qR2 f S1 m⟩
def tCPx(en:Ds->List D)(src:List (Option Nat))(pf:PF)(g:VTG)(qf:VTT)(te:VT):VT:=λ ds Q xe=>orF (pf ds) λ q=>orF (A7 ds q.1 q.2) λ d=>orF d.lstOf λ ys=>D.imms ys=true/\∀ w,Fl g qf te (λ acc ι'=>orF (bk1 q.1 q.2 w d (Fv src ι' (Br src (Be ds q.1 q.2 (.hole w))).2)) λ a=>Q (.l false acc) a) (en ys) [] (Br src (Be ds q.1 q.2 (.hole w))).1
theorem qal3{en:Ds->List D}(b:Blk X NY sc src tg ifs elt g qf te):G2 (tCPx en src pf g qf te):=λ f Q Q' i a c j=>qa5 λ q=>qa5 λ d=>qa5 λ k=>And.imp_right λ h w=>ql6 b (λ e ι=>qa5 λ z=>c _ _) _ _ _ (h w)
theorem qaO1{K:W.Frag}{en:Ds->List D}{wi:TI}{J:γ->It}(b:Blk X NY sc src tg ifs elt g qf te)(M:∀{a:γ}{vs:List V}{z:Bool}{ys:Ds}{T:List γ}{τ:List (Option V)}{o0:Ds}{Dd:γ}{F0:γ->Prop}{H0 H:Hp}{A0:List γ}{K0:Ds->Ds->Prop}{av:List (Option V)}{Q:Hp->Prop}{σ':St},D.imms ys=true->Mid src av (λ F H=>Lx F H (.ref a) (.l z ys) T/\H a=some (.l vs)) T τ o0 Dd F0 H0 A0 g qf te K0 (en ys) σ' H ->
     (∀ σ2 H2,Mid src av (λ F H=>Lx F H (.ref a) (.l z ys) T/\H a=some (.l vs)) T τ o0 Dd F0 H0 A0 g qf te K0 [] σ2 H2->Q H2)->qH5 (J a) (qv0 src g) (qu9 src qf) (Ea src te) Dd Q σ' H)(j:∀ σ H R,Ht c pf σ H (λ x H1=>∃ a,x=.ref a/\(∃ xs,SqL K H1 a xs)/\R (J a) H1)->wi σ H R):Imp c X (tCPx en src pf g qf te) (E9 wi src (qv0 src g) (qu9 src qf) (Ea src te)):=by
 rintro E3 s σ H Q I ⟨F,t,A,xe,S,x,q⟩;have h:=b.lt E3 σ H s I;refine j σ H _ ?_;obtain⟨⟨i,p⟩,N,q⟩:=qa7.mp q;obtain⟨d,e2,q⟩:=qa7.mp q;obtain⟨ys,O,P,q⟩:=qa7.mp q;obtain⟨z,rfl⟩:=qy9 O;refine⟨F,t,A,i,p,_,S,N,e2,D.noConfusion,λ u w H1 U k l=>?_⟩;obtain⟨B,C,r,y,Y⟩:=(S.same l).place e2 D.noConfusion U k;obtain⟨A1,Z,q2⟩:=Y (.hole w) [] (Kp.same (F:=F) λ _ _ z=>z) (λ _ _ z=>z) (.hole w);have E:Ok F H1 (B++A1):=(S.same l).ok.count λ b=>by rw[zA0,q2,y];simp
 have s1:Lz F H A F H1 (B++A1):=⟨λ b o e _=>l b o e,λ b o e z=>by rw[zA0,q2];have:=y b;simp;lia,λ _ f=>f,λ _ _ _ _ f=>f⟩
 have S1:L5 c F H1 σ (Be t i p (.hole w)) A1:=⟨Z,E.right,S.len,S.ag⟩
 obtain⟨a,vs,Ael,rfl,G,rs,_⟩:=r.lst_inv;refine⟨a,rfl,⟨vs,.inl (.inl G)⟩,λ Dd hD=>M P (qR1 h S1 E ⟨r,G⟩ qq9 hD (ql6 b (λ a0 ι q v H' F' B' A' rv S' hp L s=>?_) _ _ _ (q (.ref a)))) λ σ2 H2 m=>qR2 h S1 m⟩;obtain⟨a1,eb,q⟩:=qa7.mp q;obtain⟨A2,k1,k2⟩:=qu1 (pls:=[.pl i p (.ref a)]) (vs:=[.ref a]) (more:=[]) (ys:=[.l z ys]) (.so .nil) (.cons hp.1 .nil) S'.loc eb;have n:∀ b,(B'++A2).count b<=(B'++(B++A')).count b:=λ b=>by have:=k2 b;simp only[zAe,zA0] at *;lia
 exact q v H' F' B' A2 rv ⟨k1,(L.count n).right,S.len,S.ag⟩ (L.count n) ((s1.trans s).count n)
theorem qaV0{K:W.Frag}(b:Blk X NY sc src tg ifs elt g qf te):Imp c X (tCPx (λ ys=>ys) src pf g qf te) (E9 (He K (Ht c pf)) src (qv0 src g) (qu9 src qf) (Ea src te)) :=
 qaO1 (K:=K) (J:=Itl K) b (λ a m d=>qM5 b a m d) λ σ H R h=>h
noncomputable def capOk(X:Cx)(src:List (Option Nat)):Bool:=src.all λ o=>match o with | none=>true | some j=>decide (j < X.N.length)
theorem blk(b:∀ av C a H0 ex,VG (cIn src av) (qi8 X NY sc C a H0 ex) tg g)(c:∀ av C a H0 ex,VF (cIn src av) (qi8 X NY sc C a H0 ex) ifs qf)(d:∀ av C a H0 ex,VE (cIn src av) (qi8 X NY sc C a H0 ex) elt te)(e:capOk X src=true:=by rfl):Blk X NY sc src tg ifs elt g qf te :=
 ⟨b,c,d,λ E3 σ H s I j f=>by
   have:=zB1.mp e _ f
   rw[I.len];exact zAc this⟩
end
theorem qt1{X:Cx}{NY:List Str}{sc:Scope}{C:γ}{a:δ}{H0:Hp}{ex:List γ}{src:List (Option Nat)}{av:List (Option V)}:Lands (qi8 X NY sc C a H0 ex) (cIn src av).E:=λ _ _ _ _ _ _ _ _ _ z=>z.elim
section
variable{c:Vc}{X:Cx}{NY:List Str}{sc:Scope}{src:List (Option Nat)}{tg elt iter:Expr}{ifs:List Expr}{g:VTG}{qf:VTT}{te t0:VT}{pos:Pos}{pf:PF}{x:Str}
theorem ecL(hi:VE c X iter t0)(a:Blk X NY sc src tg ifs elt g qf te)(b:X.calm=true:=by rfl)(d:qA0 X NY src sc=true:=by rfl)(e:∀ x,Ks iter X.env x=pure x:=by intro _;rfl):VE c X (.ListComp elt [⟨tg,iter,ifs,0⟩] sc pos) (tCL src t0 g qf te) :=
 qak9 (qI8 NY src (qy0 hi.h) a.pg a.pf a.pe b d e) (qaV1 a hi) (qaw6 a hi)
theorem ecP(hi:VP c X iter pf)(a:Blk X NY sc src tg ifs elt g qf te)(b:X.calm=true:=by rfl)(d:qA0 X NY src sc=true:=by rfl)(e:∀ x,Ks iter X.env x=pure x:=by intro _;rfl):VE c X (.ListComp elt [⟨tg,iter,ifs,0⟩] sc pos) (tCPx (λ ys=>ys) src pf g qf te) :=
 qak9 (qI8 NY src (qy0 hi.h) a.pg a.pf a.pe b d e) (qaV0 a) (qal3 a)
end
section
variable{c:Vc}{X:Cx}{es:List Expr}{tb:VTB}
def Iq(tb:VTB):VTA:=λ ds Q xe=>tb ds (λ xs _ ds1=>Q xs ds1) xe
theorem Fm(h:VAs c X es tb):VOs c X es (Iq tb):=⟨PA.mono h.h λ σ H Q ⟨F,d,A,e,S,x,q⟩=>⟨F,d,A,e,S,x,h.m _ _ _ _ _ (λ f g a q i H' F' T A' r _ S' o s=>q i H' F' T A' r S' (s.count λ b=>by rw[zA0];lia)) (λ _ _ z=>z) q⟩,λ d Q Q' e j k l=>h.m _ _ _ _ _ (λ f g a=>k _ _) l⟩
end
structure Bg(x y z:Int)(ns:List Int):Prop where
 x0:0<=x
 y0:0<=y
 y1:y < 2147483647
 z0:0<=z
 nn:∀ n∈ns,0<=n
noncomputable def bagD(x y z:Int)(ns:List Int):D:=.l false [.int x,.int y,.int z,.l false (ns.map .int)]
def lawE:VEnds where
 nx _:=False
 rt d _:=d.asB=some true
 bk _:=False
 ct _:=False
 xe _ _:=False
theorem qao0{c:Vc}{X:Cx}{rest:List Stmt}{t:VTS}{H:Hp}{E:Eb}{p L:γ}{x y z:Int}{ns:List Int}(e:c.av.length=2+n)(k:∀ i,c.W i=false)(a:c.gv=[])(l:H p=some (.l [.int x,.int y,.int z,.ref L]))(m:H L=some (.l (ns.map V.int)))(o:L≠p)(s:∀ H',E.rt (.bl true) H')(u:t lawE (.hole w::bagD x y z ns::List.replicate n .u)):Ez c t E (some w::some (.ref p)::List.replicate n none) H:=by
 have L0:Locs (λ _=>False) H (some w::some (.ref p)::List.replicate n none) (.hole w::bagD x y z ns::List.replicate n .u) ([]++((p::([]++([]++([]++((L::[])++[])))))++[])) :=
   .so (.hole w) (.so (.l l (.cons (.int x) (.cons (.int y) (.cons (.int z) (.cons (.l m (qF2 ns)) .nil))))) (qG1 n))
 refine⟨λ _=>False,_,_,lawE,⟨by rw[a,zAe];exact L0,⟨λ b=>?_,λ b f=>f.elim,λ b f=>f.elim⟩,by rw[a,e];simp;lia,λ i h=>by rw[k i] at h;cases h⟩,⟨λ _ _ _ _ _ z=>False.elim z,λ d A v σ' H' F' T A' q r _ _ _=>by rw[r.asB q];exact s H',λ _ _ _ _ _ z=>False.elim z,λ _ _ _ _ _ z=>False.elim z,λ _ _ _ _ _ _ _ z=>False.elim z⟩,u⟩;simp only[zAz,zAe,zAn,List.count_nil];by_cases g:p=b
 . subst g;simp[o]
 by_cases j:L=b
 . subst j;simp[g]
 simp[g,j]
section
variable{c:Vc}{b d e o:Expr}{oa ob oc:Bool}{fa fb fc:FV}
def f3(g g':D->D->Option D)(fa fb fc:FV):FV:=λ ds=>(fa ds).bind λ x=>(fb ds).bind λ y=>(g x y).bind λ z=>z.asB.bind λ k=>if k=true then (fc ds).bind λ u=>g' y u else some (.bl false)
theorem qaE1{r l:R2}{g g':D->D->Option D}(h:A5 true r g)(h':A5 true l g'):∀ σ H Q,liftV c true (f3 g g' fa fb fc) σ H Q->qaG2 r l (liftV c oa fa) (liftV c ob fb) (liftV c oc fc) σ H Q:=by
 rintro σ H Q ⟨F,f,A,d,S,e,q⟩;obtain⟨x,C,e⟩:=zA1.mp e;obtain⟨y,e2,e⟩:=zA1.mp e;obtain⟨z,E,e⟩:=zA1.mp e;obtain⟨k,G,e⟩:=zA1.mp e;refine⟨F,f,A,x,S,C,λ v H1 B1 I m T=>⟨F,f,A,y,S.same m,e2,λ w H2 B2 n p U=>?_⟩⟩;have i:=m.trans p;refine h F H2 v w x y _ z _ (F5 (I.same p) n) E λ u H3 B3 J s V=>⟨k,J.asB G,?_⟩
 have a:=i.trans s;cases k with
 | false=>rw[if_neg (by decide)] at e ⊢;cases e;exact q _ H3 [] (.bl _) a λ _=>New.nil
 | true =>
   rw[if_pos rfl] at e ⊢;obtain⟨t,K,L⟩:=zA1.mp e;refine⟨F,f,A,t,S.same a,K,λ M H4 B4 N j W=>?_⟩;refine h' F H4 w M y t _ d Q (F5 ((n.same s).same j) N) L λ O H5 B5 P R B=>q O H5 B5 P ((a.trans j).trans R) λ _=>⟨B.one,λ b o e=>B.new b o (j b o (a b o e))⟩
end
section
variable{c:Vc}{X:Cx}{a b d e o:Expr}{pos:Pos}{oa ob oc:Bool}{fa fb fc:FV}{ta:VT}
theorem vch{e:CmpOp}{r i:R2}{g g':D->D->Option D}(j:OpR X (Kr op) r)(h:A5 true r g)(f:OpR X (Kr e) i)(h':A5 true i g')(k:VV c X a oa fa)(l:VV c X b ob fb)(m:VV c X d oc fc)(hm:lastMarks [op,e] [b,d]=false:=by with_unfolding_all rfl) :
   VV c X (.Compare a [op,e] [b,d] pos) true (f3 g g' fa fb fc):=⟨PE.mono (qae2 j f k.h l.h m.h hm) (qaE1 h h')⟩
def Hx(x:D):Option D:=match x with
 | .l _ ys=>(intsD ys).bind λ ns=>gd (ns.length<=1000) (.int (ql5 ns))
 | _=>none
theorem vlenS{p cpos:Pos}(g:X.mg "len" = none)(i:X.mg "set" = none)(o:VV c X a oa fa)(j:Gl X "len" := by rfl)(k:Gl X "set" := by rfl)(r:X.calm=true:=by rfl)(n:Ko [a] X.env=(false,eval a X.env)::Ko [] X.env:=by rfl)(l:((backTo cpos (Ko [] X.env)).any λ x=>x.1)=false:=by rfl)(b:Ko [.Call (.Name "set" p2) [a] [] cpos] X.env=(false,eval (.Call (.Name "set" p2) [a] [] cpos) X.env)::Ko [] X.env:=by rfl)(f:((backTo pos (Ko [] X.env)).any λ x=>x.1)=false:=by rfl) :
   VV c X (.Call (.Name "len" p) [.Call (.Name "set" p2) [a] [] cpos] [] pos) true (f1 Hx fa):=by
 refine⟨PE.mono (cbi qaq8 g (qc4 (cty (qaq6 r) i (qc4 o.h qk2 n) k (by rfl) (by decide) (by decide) n l) qk2 b) j (by rfl) (by decide) (by decide) b f) λ σ H Q m=>?_⟩;obtain⟨F,s,A,d,S,e,q⟩:=m;obtain⟨x,t,e2⟩:=qaD0.mp e;cases x with
 | l z J =>
   obtain⟨u,w,y⟩:=zA1.mp e2;obtain⟨B,rfl⟩:=qt3 y;refine⟨F,s,A,_,S,t,λ v H1 B1 C D K=>?_⟩;obtain⟨a,L,A2,rfl,E,G,_⟩:=C.lst_inv;cases G.intsD w;refine⟨a,u,rfl,.inl (.inl E),B,λ p St I=>⟨p,St,_,rfl,qb3,?_⟩⟩;exact q _ _ [] (.int _) (D.trans (Same.new I)) λ _=>New.nil
 | _=>cases e2
def tSlE(ta:VT)(lo hi:FO):VT:=λ ds Q xe=>ta ds (λ x ds1=>orF ((lo ds1).bind λ l=>(hi ds1).bind λ h=>if noT x=true then gSl x l h else none) λ d=>Q d ds1) xe
theorem esl{lo hi:Option Expr}{fl s:FO}(j:VE c X a ta)(D:VPO c X lo fl)(E:VPO c X hi s):VE c X (.Subscript a (.Slice lo hi none p2) pos) (tSlE ta fl s):=by
 refine⟨PE.mono (qF4 qS3 j.h D.h E.h) λ σ H Q k=>?_,λ t Q Q' u G I g=>j.m _ _ _ _ _ (λ d f=>qa5 λ z=>I _ _) g⟩;obtain⟨F,t,A,u,S,x,q⟩:=k;refine⟨F,t,A,u,S,x,j.m _ _ _ _ _ (λ J f q v H1 F1 T A1 K S1 P L=>?_) (λ _ _ z=>z) q⟩;have n:Lz F H A F1 H1 A1:=L.count λ b=>by rw[zA0];lia
 obtain⟨R,e,q⟩:=qa7.mp q;obtain⟨l,e2,e⟩:=zA1.mp e;obtain⟨h,M,e⟩:=zA1.mp e;by_cases g:noT J=true
 . rw[if_pos g] at e
   refine⟨F1,f,A1,l,S1,e2,λ H2 p=>⟨F1,f,A1,h,S1.same p,M,λ H3 y=>?_⟩⟩;have i:=p.trans y;refine Js ((K.same p).same y) e (λ U z=>by subst z;cases g) λ w H' B' N O B=>?_
   have r:=i.trans O;have C:New H1 B':=⟨B.one,λ b o e=>B.new b o (i b o e)⟩
   exact q w H' F1 B' A1 N (S1.same r) (S1.new C r) (n.trans (C.stp r))
 rw[if_neg g] at e;cases e
def By(f:Ds->Option D):VSp:=λ ds Q _=>orF (f ds) λ d=>Q d ds
theorem qv5{f:Ds->Option D}:Bw (By f):=λ a Q Q' e b c _=>qa5 λ d=>c d a
noncomputable def wOf(l:List Bool)(i:Nat):Bool:=l.getD i false
end
section
variable{c:Vc}{X:Cx}{NY:List Str}{sc:Scope}{src:List (Option Nat)}{tg elt e o a b:Expr}{ifs:List Expr}{g:VTG}{qf:VTT}{te:VT}{pos px spos p0:Pos}{x xn:Str}
def Ha(en:Ds->List D)(src:List (Option Nat))(i:Nat)(g:VTG)(qf:VTT)(te:VT):VT:=λ ds Q xe=>orF (rdN i ds) λ d=>orF d.lstOf λ ys=>D.imms ys=true/\Fl g qf te (λ acc ι'=>Q (.l false acc) ((Fv src ι' (Br src (ds.set i .u)).2).set i d)) (en ys) [] (Br src (ds.set i .u)).1
theorem qE0{en:Ds->List D}(a:Blk X NY sc src tg ifs elt g qf te):G2 (Ha en src i g qf te):=λ f Q Q' h b c j=>qa5 λ d=>qa5 λ k=>And.imp_right (ql6 a (λ e ι=>c _ _) _ _ _)
theorem qav9{K:W.Frag}{en:Ds->List D}{wi:TI}{J:γ->It}(r:Blk X NY sc src tg ifs elt g qf te)(G:X.N[i]? = some xn)(L:∀{a:γ}{vs:List V}{z:Bool}{ys:Ds}{T:List γ}{τ:List (Option V)}{o0:Ds}{Dd:γ}{F0:γ->Prop}{H0 H:Hp}{A0:List γ}{K0:Ds->Ds->Prop}{av:List (Option V)}{Q:Hp->Prop}{σ':St},D.imms ys=true->Mid src av (λ F H=>Lx F H (.ref a) (.l z ys) T/\H a=some (.l vs)) T τ o0 Dd F0 H0 A0 g qf te K0 (en ys) σ' H ->
     (∀ σ2 H2,Mid src av (λ F H=>Lx F H (.ref a) (.l z ys) T/\H a=some (.l vs)) T τ o0 Dd F0 H0 A0 g qf te K0 [] σ2 H2->Q H2)->qH5 (J a) (qv0 src g) (qu9 src qf) (Ea src te) Dd Q σ' H)(j:∀ σ H R,Fx i σ H (λ x H1=>∃ a,x=.ref a/\(∃ xs,SqL K H1 a xs)/\R (J a) H1)->wi σ H R):Imp c X (Ha en src i g qf te) (E9 wi src (qv0 src g) (qu9 src qf) (Ea src te)):=by
 rintro E3 s σ H Q I ⟨F,M,A,xe,S,x,q⟩;have h:=r.lt E3 σ H s I;have O:=qk3 G E3 σ H s I;refine j σ H _ ?_;obtain⟨d,k,q⟩:=qa7.mp q;obtain⟨k,hk⟩:=ql0.mp k;obtain⟨ys,P,U,q⟩:=qa7.mp q;obtain⟨z,rfl⟩:=qy9 P;obtain⟨v,B,C,l,t,u,Y⟩:=S.put1 k D.noConfusion;have n:=l;rw[zAr O] at l;obtain⟨A1,Z,q2⟩:=Y .u [] (Kp.same (F:=F) λ _ _ z=>z) (λ _ _ z=>z) (.u v);have w:Ok F H (B++A1):=S.ok.count λ b=>by rw[zA0,q2,u];simp
 have s1:Lz F H A F H (B++A1):=⟨λ b o e _=>e,λ b o e z=>by rw[zA0,q2];have:=u b;simp;lia,λ _ f=>f,λ _ _ _ _ f=>f⟩
 have S1:L5 c F H σ (M.set i .u) A1:=⟨Z,w.right,S.len,S.ag⟩
 obtain⟨a,vs,Ael,rfl,y,rs,_⟩:=t.lst_inv;refine⟨.ref a,l,a,rfl,⟨vs,.inl (.inl y)⟩,λ Dd hD=>L U (qR1 h S1 w ⟨t,y⟩ qq9 hD (ql6 r (λ a0 ι q v H' F' B' A' rv S' hp E s=>?_) _ _ _ q)) λ σ2 H2 m=>qR2 h S1 m⟩;obtain⟨A2,k1,k2⟩:=qE3 S'.loc n hp.1;have p:∀ b,(B'++A2).count b<=(B'++(B++A')).count b:=λ b=>by have:=k2 b;simp only[zA0] at *;lia
 exact q v H' F' B' A2 rv ⟨k1,(E.count p).right,S.len,S.ag⟩ (E.count p) ((s1.trans s).count p)
theorem qaM4{K:W.Frag}(a:Blk X NY sc src tg ifs elt g qf te)(b:X.N[i]? = some xn):Imp c X (Ha (λ ys=>ys) src i g qf te) (E9 (He K (Fx i)) src (qv0 src g) (qu9 src qf) (Ea src te)) :=
 qav9 (K:=K) (J:=Itl K) a b (λ d m e=>qM5 a d m e) λ σ H R h=>h
theorem qaM5{K:W.Frag}(b:Blk X NY sc src tg ifs elt g qf te)(d:X.N[i]? = some xn):Imp c X (Ha enD src i g qf te) (E9 (iEnum K (tCons (Fx i) tNil)) src (qv0 src g) (qu9 src qf) (Ea src te)) :=
 qav9 (K:=K) (J:=Ite K) b d (λ f m h=>qak8 b f m h) λ σ H R ⟨v,j,a,e,k,l⟩=>⟨v,j,a,by rw[e],k,l⟩
theorem ecN(i:Nat)(a:Blk X NY sc src tg ifs elt g qf te)(d:X.N[i]? = some xn:=by rfl)(e:Vis X.env.scope xn:=by first | exact Or.inl rfl | exact Or.inr (Or.inl rfl) | exact Or.inr (Or.inr rfl))(f:N' xn:=by decide)(b:(xn == ("__classdict__" : Str))=false:=by decide)(h:X.calm=true:=by rfl)(j:qA0 X NY src sc=true:=by rfl)(k:∀ x,Ks (.Name xn p0) X.env x=pure x:=by intro _;rfl):VE c X (.ListComp elt [⟨tg,.Name xn p0,ifs,0⟩] sc pos) (Ha (λ ys=>ys) src i g qf te) :=
 qak9 (qI8 NY src (qy0 (qk1 d e f b)) a.pg a.pf a.pe h j k) (qaM4 a d) (qE0 a)
theorem ecEN(i:Nat){elts:List Expr}{f:Nat}{p cpos tpos:Pos}(hm:X.mg "enumerate" = none)(a:Blk X NY sc src (.Tuple elts f tpos) ifs elt g qf te)(h:X.N[i]? = some xn:=by rfl)(j:Vis X.env.scope xn:=by first | exact Or.inl rfl | exact Or.inr (Or.inl rfl) | exact Or.inr (Or.inr rfl))(k:N' xn:=by decide)(d:(xn == ("__classdict__" : Str))=false:=by decide)(e:Gl X "enumerate" := by rfl)(b:Ko [.Name xn p0] X.env=[(false,eval (.Name xn p0) X.env)]:=by rfl)(l:X.calm=true:=by rfl)(m:qA0 X NY src sc=true:=by rfl)(n:∀ x,Ks (.Call (.Name "enumerate" p) [.Name xn p0] [] cpos) X.env x=pure x:=by intro _;rfl):VE c X (.ListComp elt [⟨.Tuple elts f tpos,.Call (.Name "enumerate" p) [.Name xn p0] [] cpos,ifs,0⟩] sc pos) (Ha enD src i g qf te) :=
 qak9 (qI8 NY src (qaI4 e hm (qc4 (qk1 h j k d) qk2 b) b) a.pg a.pf a.pe l m n) (qaM5 a h) (qE0 a)
theorem scN(i j:Nat)(d:X.N.Nodup)(a:Blk X NY sc src tg ifs elt g qf te)(l:c.W i=false:=by rfl)(k:X.N[j]? = some xn:=by rfl)(m:Vis X.env.scope xn:=by first | exact Or.inl rfl | exact Or.inr (Or.inl rfl) | exact Or.inr (Or.inr rfl))(n:N' xn:=by decide)(e:(xn == ("__classdict__" : Str))=false:=by decide)(b:X.N[i]? = some x:=by rfl)(o:Loc X.env.scope x:=by first | exact Or.inl rfl | exact Or.inr rfl)(p:X.calm=true:=by rfl)(q:qA0 X NY src sc=true:=by rfl)(f:swapsWith (.ListComp elt [⟨tg,.Name xn p0,ifs,0⟩] sc pos) (some (.Name x px)) spos.line X.env=pure true:=by rfl)(r:∀ x,Ks (.Name xn p0) X.env x=pure x:=by intro _;rfl)(h:X.fn x=true∨X.env.scope.names.lookup x=some .local:=by first | exact .inl rfl | exact .inr rfl | assumption):VS c X (.Assign [.Name x px] (.ListComp elt [⟨tg,.Name xn p0,ifs,0⟩] sc pos) spos) (E7 (Ha (λ ys=>ys) src j g qf te) (gNm i)) :=
 qaP5 (qaH9 i NY src d (qy0 (qk1 k m n e)) a.pg a.pf a.pe b o p q f r h) (qaM4 a k) (qE0 a) l b
theorem qaO5{d0:D}{ds:Ds}(h:ds[i]? = some (.hole w)):bk1 i [] w d0 ds=some (ds.set i d0):=by
 unfold bk1 As;rw[qG5 h];simp only[if_true];unfold As;rw[qE4 h]
theorem qh7{g:VTG}{qf:VTT}{te:VT}{K:Ds->Ds->Prop}(I:Ds->Prop)(f:D->Option D):∀(xs:List D)(acc ι:Ds),acc.length+xs.length < big->I ι->(∀ x∈xs,∀ ι acc,I ι->∀ R:Ds->Ds->Prop,(∀ ι',I ι'->R (acc++(f x).toList) ι')->acc.length < big->g x ι λ ι1=>qf ι1 (λ b ι2=>if b=true then te ι2 (λ d ι3=>acc.length < big/\R (acc++[d]) ι3) (λ _ _=>False) else R acc ι2) (λ _ _=>False))->(∀ ι',I ι'->K (acc++xs.filterMap f) ι')->Fl g qf te K xs acc ι
 | [],acc,ι,_,h,_,hK=>by
   have:=hK ι h
   rw[List.filterMap_nil,zAe] at this;exact this
 | x::xs,acc,ι,hl,h,hs,hK=>by
   refine hs x zAa ι acc h (λ a i=>Fl g qf te K xs a i) (λ ι' hι=>?_) (by simp at hl;lia);refine qh7 I f xs _ ι' ?_ hι (λ y e=>hs y (zA4 _ e)) λ ι2 j=>?_
   . cases c:f x with
     | none=>simp at hl ⊢;lia
     | some y=>simp at hl ⊢;lia
   have:=hK ι2 j
   rw[zC0] at this;cases c:f x with
   | none=>rw[c] at this;simpa using this
   | some y=>rw[c] at this;simpa using this
end
def spX1(C:γ)(fl:Str):Sp:=λ vs H Q _=>∃(e:γ)(v:V),vs=[.ref e,v]/\H e=some (Bo e C none true)/\∀ dx,H dx=none->dx≠e->Q .non (upd (upd H dx (XD dx [(fl,v)])) e (Bo e C (some dx) true))
section
variable{c:Vc}{X:Cx}{e:Expr}{te:VT}{pos cpos np:Pos}{k:Nat}{f C:γ}{fd:ε}{ps:List Str}{x fl:Str}
def qaG8(C:γ)(fl:Str)(te:VT):VTS:=λ e ds=>te ds (λ d a=>d.imm=true/\e.xe ⟨C,[(fl,d)]⟩ a) e.xe
theorem qaw9(M:MkE X.K C f)(Fn:B6 X.prog X.w X.K X.mg X.base CX0 k f fd ps (spX1 C fl))(N:Room (k+1) X.A)(hm:X.mg x=some (.ref C))(O:Binds X.K fd ps [])(P:Lands X c.E)(n:VE c X e te)(Q:Gl X x:=by rfl)(p:N' x:=by decide)(J:Ko [e] X.env=(false,eval e X.env)::Ko [] X.env:=by rfl)(t:(backTo cpos (Ko [] X.env)).any (·.1)=false:=by rfl) :
   VS c X (.Raise (some (.Call (.Name x np) [e] [] cpos)) none pos) (qaG8 C fl te):=by
 refine⟨PS.mono (qay2 M Fn N hm O P (qc4 n.h qk2 J) Q p J t) λ E σ H y=>?_,λ e Z L h=>n.m _ _ _ _ _ (λ d i z=>⟨z.1,h.xe _ _ z.2⟩) h.xe⟩;obtain⟨F,L,A,ends,S,l,q⟩:=y;refine⟨F,L,A,ends.xe,S,l.xe,n.m _ _ _ _ _ (λ d i ⟨R,q⟩ v H' F' T A' r S' o s=>?_) (λ _ _ z=>z) q⟩;refine⟨by show 1<=1000;decide,λ a U=>⟨a,v,rfl,qb3,λ g V D=>⟨rfl,some g,qb3,?_⟩⟩⟩;have W:H' g=none:=by rwa[qb4 D] at V
 obtain rfl:=r.imm R;have G:Same H' (upd (upd (upd (upd H' a (Bo a C none true)) g (XD g [(fl,v)])) a (Bo a C (some g) true)) a (Bo a C (some g) false)):=λ b u j=>by
   have I:b≠a:=λ z=>by rw[z,U] at j;cases j
   have Y:b≠g:=λ z=>by rw[z,W] at j;cases j
   rw[qb4 I,qb4 I,qb4 Y,qb4 I];exact j
 refine l.xe ⟨C,[(fl,d)]⟩ i σ a _ F' A' q ⟨some g,qb3,.inr ⟨g,[(fl,v)],rfl,?_,rfl,?_⟩⟩ (S'.same G) ((s.count λ b=>by rw[zA0];lia).trans (Lz.same G))
 . rw[qb4 D,qb4 D,qb3]
 exact .cons (A:=[]) (B:=[]) (r.same G) .nil
end
structure MdN(K:W.Frag)(C:γ)(m qual:Str)(st:Stmt)(f:γ)(fd:ε)(ps:List Str):Prop where
 F:FunE K m qual st f fd
 b:Binds K fd ps []
 bn:Binds K fd ps [.none]
 me:Ja K C m f
 isf:W.isFn K (.ref f)=true
section
variable{X:Cx}{c:Vc}
theorem qaW5{x m qual:Str}{C f:γ}{fd:ε}{st:Stmt}{ps:List Str}{k:Nat}{s:VSp}{e:Expr}{es:List Expr}{tr:VTB}{p pos:Pos}(i:Cl X.K X.mg x C)(M:Mk X.K C f)(D:MdN X.K C m qual st f fd ps)(G:Gj cm X.prog X.w X.K X.mg X.base k f fd ps s)(j:Lands X c.E)(l:L6 cm (k+1) X.A)(a:VAs c X (e::es) tr)(n:Gl X x:=by rfl)(d:N' x:=by decide)(o:Ko (e::es) X.env=(false,eval e X.env)::Ko es X.env:=by rfl)(g:(backTo pos (Ko es X.env)).any (·.1)=false:=by rfl):VE c X (.Call (.Name x p) (e::es) [] pos) (qX1 C s [] tr) :=
 ⟨PE.mono (qat4 M G.ok l n i.m D.b .nil j.passes a.h d o g) (qau4 qz9 G.m a),qT4 G.m a⟩
end
theorem mdmkN{K:W.Frag}{C:γ}{m qual:Str}{st:Stmt}{f T:γ}{ps:List Str}{oc to:V'}{v td g:Option γ}{p q:Array (Option V')}{kV e h d j:V'}(l:K.lookup f=some ⟨oc,v,.func (W.fnOf m qual (qe4 st) (qd0 st) (qa3 st) (.ref T) kV e h g d j),p⟩)(c:W.codeIn K d qual=true)(k:W.keepIn K (.ref f)=true)(a:W.findIn K (.ref C) m=some (some (.ref f)))(i:W.isFn K (.ref f)=true)(t:K.lookup T=some ⟨to,td,.seq #[.none] n,q⟩)(b:∀(kV e h:V')(g:Option γ)(d j:V')(us:List V'),us.length=ps.length->∃ k,bindArgs (W.fnOf m qual (qe4 st) (qd0 st) (qa3 st) (.ref T) kV e h g d j) ⟨us,[]⟩=seqItems? (.ref T) >>= k/\k (some #[.none])=pure (ps.zip us))(w:∀(kV e h:V')(g:Option γ)(d j:V')(us:List V'),us.length+1=ps.length->∃ k,bindArgs (W.fnOf m qual (qe4 st) (qd0 st) (qa3 st) (.ref T) kV e h g d j) ⟨us,[]⟩=seqItems? (.ref T) >>= k/\k (some #[.none])=pure (ps.zip (us++[.none]))) :
   MdN K C m qual st f (W.fnOf m qual (qe4 st) (qd0 st) (qa3 st) (.ref T) kV e h g d j) ps :=
 ⟨⟨⟨_,_,_,_,_,_,_,_,_,_,rfl,l,c⟩⟩,λ s us X o=>(by
   rw[zAe] at o ⊢;obtain⟨k,r,u⟩:=b kV e h g d j us o;exact W.binds_K X rfl t rfl r u),λ s us X o=>(by
   obtain⟨k,r,u⟩:=w kV e h g d j us (by rw[zA7] at o;exact o);exact W.binds_K X rfl t rfl r u),⟨a,i,k⟩,i⟩
end LV
namespace L2
open PySem PySem.Spec PyProof.Rows
structure IsX(K:W.Frag)(C:γ):Prop where
 ex:Exc K C
 ca:W.findIn K (.ref C) "__class__" = some (some (.builtin "object.__class__"))
 cn:W.specialIn K (.builtin "object.__class__") "__get__" = some (some (.builtin "getset_descriptor.__get__"))
 ct:W.takesIn K (.builtin "object.__class__")=some true
end L2
namespace LV
open PySem L2
theorem rm{cm:Bool}{j k:Nat}{A:Around}(r:L6 cm k A)(h:j<=k:=by decide):L6 cm j A:=r.mono h
theorem VFn.mk2{cm:Bool}{P:Program}{w:World}{K:PySem.W.Frag}{mg:Str->Option V'}{base:Heap}{x qual:Str}{st:Stmt}{f:γ}{fd:ε}{N ps:List Str}{k:Nat}{s:VSp}(Fu:Fun K x qual st f fd)(Sc:qa8 N ps (qa3 st))(W:Nat->Bool)(c:Bw s)(h:∀ ds Q xe,s ds Q xe->ds.length=ps.length/\G9 W 0 ds=true)(hbody:∀(a:V')(A:Around)(outer:List Env)(b:δ)(H:Hp)(E:XK)(av:List (Option V)),L6 cm k (A.deeper (PyProof.Rows.envOfC qual (qa3 st) b.heap.objs.size f a)) ->
     ∃ t,VSs ⟨λ _=>E,W,av,[]⟩ (Eu cm (CX1 P w) P w K mg base N qual (qa3 st) f a A outer b H E) (qd0 st) t/\∀ ds Q xe,s ds Q xe->t (qap8 W ds Q xe) (ds++List.replicate (N.length - ds.length) .u)) :
   Gj cm P w K mg base (k+1) f fd ps s:=VFn.mk' Fu Sc W c (λ ds Q xe z=>(h ds Q xe z).1) (λ ds Q xe z=>(h ds Q xe z).2) hbody
def spPu(g:D->D->Option D):Sp:=λ vs H Q _=>∃ F u x d a b A B w,vs=[u,x]/\Lx F H u a A/\Lx F H x b B/\g a b=some d/\d.flat=some w/\Q w H
section
variable{c:Vc}{X:Cx}{e:Expr}{pos apos:Pos}{m qual:Str}{st:Stmt}{f C:γ}{fd:ε}{ps:List Str}{k:Nat}{g:D->D->Option D}{fb:FV}{ob:Bool}
def fPu(C:γ)(m:Str)(g:D->D->Option D)(i:Nat)(fb:FV):FV:=λ ds=>(rdN i ds).bind λ x=>if x.isM C m=true then (fb ds).bind λ y=>(g x y).bind λ d=>d.flat.map λ _=>d else none
theorem Lx.ofFlat{F:γ->Prop}{H:Hp}{d:D}{w:V}(h:d.flat=some w):Lx F H w d []:=by
 cases d with
 | non=>cases h;exact .non
 | bl b=>cases h;exact .bl b
 | int i=>cases h;exact .int i
 | str x=>cases h;exact .str x
 | _=>cases h
theorem qaP6{pl:Sem Bool}(i:Nat){xn:Str}{p0:Pos}(D:Md X.K C m qual st f fd ps)(P:Cls X.K C)(G:B6 X.prog X.w X.K X.mg X.base CX0 k f fd ps (spPu g))(R:Room k X.A)(T:VV c X e ob fb)(J:X.N[i]? = some xn:=by rfl)(U:Vis X.env.scope xn:=by first | exact Or.inl rfl | exact Or.inr (Or.inl rfl) | exact Or.inr (Or.inr rfl))(V:N' xn:=by decide)(n:(xn == ("__classdict__" : Str))=false:=by decide)(l:Ko [e] X.env=(false,eval e X.env)::Ko [] X.env:=by rfl)(o:(backTo pos (Ko [] X.env)).any (·.1)=false:=by rfl)(W:eval (.Call (.Attribute (.Name xn p0) m apos) [e] [] pos) X.env=(do
     let ov <- eval (.Name xn p0) X.env
     standAt apos.atName
     let (f,first) <- holding [ov] (getMethod ov m pl)
     callWith pos f first (backTo pos (Ko [e] X.env)) (backToKw pos (K5 [] X.env))):=by rfl):VV c X (.Call (.Attribute (.Name xn p0) m apos) [e] [] pos) true (fPu C m g i fb):=by
 refine⟨λ E3 s σ H Q I p=>?_⟩;obtain⟨F,Y,A,d,S,j,q⟩:=p;refine qat3 (qk1 J U V n) P D.me G R D.b .nil pass0 (qc4 T.h qk2 l) l o W E3 s σ H Q I ?_;obtain⟨x,Z,j⟩:=zA1.mp j;by_cases t:x.isM C m=true
 . rw[if_pos t] at j
   obtain⟨y,h2,j⟩:=zA1.mp j;obtain⟨d',h3,j⟩:=zA1.mp j;obtain⟨w,L,j⟩:=zAf.mp j;cases j;obtain⟨v,B0,u,M,_⟩:=S.name (qk3 J E3 σ H s I) Z;obtain⟨a,dx,fs,rfl,z,E⟩:=M.isM t;refine⟨.ref a,u,a,dx,fs,rfl,z,E,F,Y,A,y,S,h2,λ v' H1 B r O _=>?_⟩;exact⟨F,_,_,_,x,y,B0,B,w,rfl,M.same O,r,h3,L,q w H1 [] (Lx.ofFlat L) O λ _=>New.nil⟩
 rw[if_neg t] at j;cases j
def tbBV(pf:PF)(f:FV):VTB:=λ ds Q _=>orF (pf ds) λ q=>orF (A7 ds q.1 q.2) λ d=>d.known=true/\orF (f ds) λ x=>x.imm=true/\∀ w,Q [d,x] [.pl q.1 q.2 w,.no] (Be ds q.1 q.2 (.hole w))
theorem vaBV{o e2:Expr}{pf:PF}{fv:FV}{own:Bool}(G:VP c X o pf)(I:VV c X e2 own fv)(J:Ko (o::[e2]) X.env=(false,eval o X.env)::Ko [e2] X.env:=by rfl)(g:Ko [e2] X.env=(false,eval e2 X.env)::Ko [] X.env:=by rfl):VAs c X [o,e2] (tbBV pf fv):=by
 refine⟨PA.mono (qc4 G.h (qc4 I.h qk2 g) J) λ σ H Q j=>?_,λ a Q Q' K L M W=>qa5 λ z=>qa5 λ d=>And.imp_right (qa5 λ y=>And.imp_right λ h w=>M _ _ _ (h w))⟩;obtain⟨F,a,A,K,S,x,q⟩:=j;obtain⟨⟨i,p⟩,N,q⟩:=qa7.mp q;obtain⟨d,e2,n,q⟩:=qa7.mp q;obtain⟨y,O,P,q⟩:=qa7.mp q;refine⟨F,a,A,i,p,d,S,N,e2,ql3 n,λ u w H0 R T k=>?_⟩;refine⟨F,a,A,y,S.same k,O,λ v H1 Bv t l _=>?_⟩;obtain rfl:=t.imm P;have s:Same H H1:=λ b o e=>l b o (k b o e)
 obtain⟨B,C,r,D,U⟩:=(S.same k).place e2 (ql3 n) R T;have r:=r.same l;obtain⟨A1,m,q2⟩:=U (.hole w) [] (Kp.same (F:=F) λ _ _ z=>z) (λ _ _ z=>z) (.hole w);have m:=m.same l;have E:Ok F H1 (B++A1):=(S.same s).ok.count λ b=>by rw[zA0,q2,D];simp
 have V:Lz F H A F H1 (B++A1):=⟨λ b o e _=>s b o e,λ b o e z=>by rw[zA0,q2];have:=D b;simp;lia,λ _ f=>f,λ _ _ _ _ f=>f⟩
 have S1:L5 c F H1 σ (Be a i p (.hole w)) A1:=⟨m,E.right,S.len,S.ag⟩
 refine q w [w,v] H1 F B A1 ?_ (.so (.no .nil)) S1 E V
 have:=Lp.cons r (Lp.cons t .nil)
 rwa[zAe,zAe] at this
end
end LV
namespace S6
open PySem PyProof.Rows
variable{i j n:Nat}{kf:V'->Int×Int}{vs:List V'}{xs:Array Keyed}
structure Od(lt:Keyed->Keyed->Bool):Prop where
 as:∀ x y,lt x y=true->lt y x=false
 tr:∀ x y z,lt y x=false->lt z y=false->lt z x=false
def Cm(prog:Program)(w:World)(A:Around)(s:δ)(kd:SortKind)(P:Keyed->Prop)(lt:Keyed->Keyed->Bool):Prop :=
 ∀ x y,P x->P y->∀(E:V'->δ->Prop)(Q:Bool->δ->Prop),Q (lt x y) s->wpAny (model prog w) A (keyLt' kd x.1 y.1) Q E s
section
variable{prog:Program}{w:World}{A:Around}{E:V'->δ->Prop}{s:δ}{kd:SortKind}{P:Keyed->Prop}{lt:Keyed->Keyed->Bool}{st:SortSt}
theorem Od.ir(h:Od lt)(x:Keyed):lt x x=false:=by
 cases e:lt x x with
 | false=>rfl
 | true=>rw[h.as x x e] at e;cases e
theorem wlt{x y:Keyed}{Q:Option Bool->SortSt->Prop}(a:Cm prog w A s kd P lt)(b:kindOf st=kd)(c:P x)(d:P y)(h:Q (some (lt x y)) st):wpS (model prog w) A E s (lt' x y) Q st:=by
 rw[lt'_eq];refine Lc (Lj ?_);rw[b];exact Lc (wpS_lift (wpAny_attempt (a x y c d _ _ ⟨rfl,Ld h⟩)))
theorem wel{a:Array Keyed}{p:Keyed}{Q:Keyed->SortSt->Prop}(hi:a[i]? = some p)(h:Q p st):wpS (model prog w) A E s (elem' a i) Q st:=by
 rw[elem'_eq,hi];exact Ld h
noncomputable def B(lt:Keyed->Keyed->Bool)(l:Bool)(a x:Keyed):Bool:=if l then lt x a else !lt a x
end
noncomputable abbrev lee(lt:Keyed->Keyed->Bool):Keyed->Keyed->Bool:=λ x y=>!lt y x
noncomputable def att(a:Array Keyed)(i:Nat):Keyed:=a.getD i (Value.none,Value.none)
theorem qR6{a:Array Keyed}(h:i < a.size):a[i]? = some (att a i):=by simp[att,Array.getD,h]
def Srt(lt:Keyed->Keyed->Bool)(f:Nat->Keyed)(n:Nat):Prop:=∀ i j,i<=j->j < n->lt (f j) (f i)=false
section
variable{prog:Program}{w:World}{A:Around}{E:V'->δ->Prop}{s:δ}{st:SortSt}
def R(st a:SortSt):Prop:=kindOf a=kindOf st/\arrOf a=arrOf st/\Lg a=Lg st/\Li a=Li st
theorem wif{α:Type}{c:Prop}[Decidable c]{m n:StateT SortSt Sem α}{Q:α->SortSt->Prop}(h1:c->wpS (model prog w) A E s m Q st)(h2:¬ c->wpS (model prog w) A E s n Q st):wpS (model prog w) A E s (if c then m else n) Q st:=by
 by_cases h:c
 . rw[if_pos h];exact h1 h
 rw[if_neg h];exact h2 h
end
theorem qq8{ys:Array Keyed}(h:xs[i]? = ys[j]?):att xs i=att ys j:=by
 have e:∀(a:Array Keyed) k,att a k=(a[k]?).getD (Value.none,Value.none):=λ a k=>by simp[att,Array.getD_eq_getD_getElem?]
 rw[e,e,h]
theorem qaj6{src d:Nat}(a:src < xs.size)(b:d<=src)(k:Nat) :
   att (bubble xs src d) k=if k=src - d then att xs src else if src - d < k/\k<=src then att xs (k - 1) else att xs k:=by
 have e:=getElem?_bubble a d b k;split at e
 . rw[if_pos (by assumption)];exact qq8 e
 rw[if_neg (by assumption)];split at e
 . rw[if_pos (by assumption)];exact qq8 e
 rw[if_neg (by assumption)];exact qq8 e
theorem qaj5(a:j<=xs.size)(k:Nat) :
   att (mirror xs i j ((j - i) / 2)) k=if i<=k/\k < j then att xs (i+j - 1 - k) else att xs k:=by
 have e:=getElem?_mirror_all (i:=i) a k;split at e
 . rw[if_pos (by assumption)];exact qq8 e
 rw[if_neg (by assumption)];exact qq8 e
theorem qaO7{a:Array Keyed}(h:i < a.size):att a i∈a.toList:=by simp[att,Array.getD,h]
theorem Srt.more{lt:Keyed->Keyed->Bool}{f:Nat->Keyed}{x:Nat}(h:Srt lt f x)(d:Od lt)(e:0 < x->lt (f x) (f (x - 1))=false):Srt lt f (x+1):=λ i j a b=>by
 by_cases c:j < x
 . exact h i j a c
 obtain rfl:j=x:=by lia
 by_cases q:i=j
 . rw[q];exact d.ir _
 exact d.tr _ _ _ (h i (j - 1) (by lia) (by lia)) (e (by lia))
structure Bt(a0:Array Keyed)(lo:Nat)(st st':SortSt):Prop where
 kd:kindOf st'=kindOf st
 fl:Li st'=Li st
 pd:Lg st'=Lg st
 pm:(arrOf st').Perm a0
 pr:∀ i,i < lo->att (arrOf st') i=att (arrOf st) i
section
variable{prog:Program}{w:World}{A:Around}{E:V'->δ->Prop}{s:δ}{kd:SortKind}{lt:Keyed->Keyed->Bool}{st st1:SortSt}{a0:Array Keyed}{lo:Nat}
theorem Bt.sz(h:Bt a0 lo st st1):(arrOf st1).size=a0.size:=h.pm.size_eq
theorem Bt.mem(h:Bt a0 lo st st1)(hi:i < a0.size):att (arrOf st1) i∈a0.toList:=(Array.perm_iff_toList_perm.mp h.pm).mem_iff.mp (qaO7 (by rw[h.sz];exact hi))
theorem Bt.set(h:Bt a0 lo st st1)(b:xs.Perm (arrOf st1))(c:∀ i,i < lo->att xs i=att (arrOf st1) i):Bt a0 lo st (setArr st1 xs) :=
 ⟨h.kd,h.fl,h.pd,b.trans h.pm,λ i a=>(c i a).trans (h.pr i a)⟩
abbrev Cn(prog:Program)(w:World)(A:Around)(s:δ)(kd:SortKind)(a0:Array Keyed)(lt:Keyed->Keyed->Bool):Prop:=Cm prog w A s kd (λ x=>x∈a0.toList) lt
theorem wat{Q:Option Bool->SortSt->Prop}(b:Cn prog w A s kd a0 lt)(c:kindOf st=kd)(h:Bt a0 lo st st1)(hi:i < a0.size)(a:j < a0.size)(d:Q (some (lt (att (arrOf st1) i) (att (arrOf st1) j))) st1):wpS (model prog w) A E s (ltAt' i j) Q st1:=by
 rw[ltAt'_eq];refine Lc (Lj ?_);exact Lc (wel (qR6 (by rw[h.sz];exact hi)) (Lc (wel (qR6 (by rw[h.sz];exact a)) (wlt b (h.kd.trans c) (h.mem hi) (h.mem a) d))))
theorem wmv{p q:Nat}{Q:Unit->SortSt->Prop}(h:Q () (setArr st1 (bubble (arrOf st1) p (p - q)))):wpS (model prog w) A E s (moveDown' p q) Q st1:=by
 rw[moveDown'_eq];exact Ll h
theorem wbin{t:Nat}{Q:Bool->SortSt->Prop}(u:Od lt)(C:Cn prog w A s kd a0 lt)(D:kindOf st=kd)(R:lo+n<=a0.size)(F:t<=n)(h1:1<=t)(G:Bt a0 lo st st1)(H:Srt lt (λ i=>att (arrOf st1) (lo+i)) t)(h:∀ e,Bt a0 lo st e->Srt lt (λ i=>att (arrOf e) (lo+i)) n->Q true e):wpS (model prog w) A E s (binarySort' lo n t) Q st1:=by
 rw[binarySort'_eq];refine Lc (Lh (Lf (I:=λ k c e=>c=(none,())/\Bt a0 lo st e/\Srt lt (λ i=>att (arrOf e) (lo+i)) (min k n))
   (Q:=λ c e=>c=(none,())/\Bt a0 lo st e/\Srt lt (λ i=>att (arrOf e) (lo+i)) n) ?_ ?_ ⟨rfl,G,λ i j a b=>H i j a (by lia)⟩) ?_)
 . rintro k c f J K ⟨rfl,o,g⟩
   rw[show min k n=k by lia] at g;refine Lc (Lh (Lf (I:=λ x c e=>e=f/\∃ l r,c=(none,l,r)/\l<=r/\r<=k/\r - l<=k - x /\
       (∀ i,i < l->lt (att (arrOf f) (lo+k)) (att (arrOf f) (lo+i))=false)/\(∀ i,r<=i->i < k->lt (att (arrOf f) (lo+i)) (att (arrOf f) (lo+k))=false))
     (Q:=λ c e=>e=f/\∃ l,c=(none,l,l)/\l<=k /\
       (∀ i,i < l->lt (att (arrOf f) (lo+k)) (att (arrOf f) (lo+i))=false)/\(∀ i,l<=i->i < k->lt (att (arrOf f) (lo+i)) (att (arrOf f) (lo+k))=false)) ?_ ?_ ⟨rfl,0,k,rfl,by lia,by lia,by lia,λ i L=>by lia,λ i h1 y=>by lia⟩) ?_)
   . rintro x c m - S ⟨rfl,l,r,rfl,M,v,N,p,q⟩
     dsimp only;refine wif (λ d=>?_) λ d=>?_
     . obtain rfl:l=r:=by lia
       exact Ld ⟨rfl,l,rfl,v,p,q⟩
     refine Lc (wat C D o (by lia) (by lia) ?_);cases B:lt (att (arrOf m) (lo+k)) (att (arrOf m) (lo+(l+r) / 2)) with
     | true=>exact Ld ⟨rfl,l,_,rfl,by lia,by lia,by lia,p,λ i h1 y=>u.tr _ _ _ (u.as _ _ B) (g _ _ h1 y)⟩
     | false=>exact Ld ⟨rfl,_,r,rfl,by lia,by lia,by lia,λ i h1=>u.tr _ _ _ (g i _ (by lia) (by lia)) B,q⟩
   . rintro c m ⟨rfl,l,r,rfl,M,v,N,p,q⟩
     obtain rfl:l=r:=by lia
     exact⟨rfl,l,rfl,v,p,q⟩
   rintro c m ⟨rfl,l,rfl,v,p,q⟩;dsimp only;have z:lo+k < (arrOf m).size:=by rw[o.sz];lia
   refine Lc (wmv (Ld ⟨rfl,o.set (bubble_perm _ _ _) λ i L=>?_,?_⟩))
   . rw[qaj6 z (by lia),if_neg (by lia),if_neg (by lia)]
   rw[show min (k+1) n=k+1 by lia];intro i j O T;show lt (att (bubble _ _ _) _) (att (bubble _ _ _) _)=false;rw[qaj6 z (by lia),qaj6 z (by lia)]
   repeat' split
   all_goals first
     | (exfalso;lia)
     | exact u.ir _
     | exact p _ (by lia)
     | (rw[show lo+j - 1=lo+(j - 1) by lia];exact q _ (by lia) (by lia))
     | (rw[show lo+j - 1=lo+(j - 1) by lia];exact g _ _ (by lia) (by lia))
     | (rw[show lo+j - 1=lo+(j - 1) by lia,show lo+i - 1=lo+(i - 1) by lia];exact g _ _ (by lia) (by lia))
     | exact g _ _ (by lia) (by lia)
 . rintro c f ⟨P,o,g⟩
   rw[show min (max (max t 1) n) n=n by lia] at g;exact⟨P,o,g⟩
 rintro c f ⟨rfl,o,g⟩;exact Ld (h f o g)
def Ds(lt:Keyed->Keyed->Bool)(a0:Array Keyed):Prop:=a0.toList.Pairwise λ x y=>lt x y=true∨lt y x=true
theorem Ds.at(h:Ds lt a0)(b:Bt a0 lo st st1)(c:i≠j)(hi:i < a0.size)(n:j < a0.size)(e:lt (att (arrOf st1) i) (att (arrOf st1) j)=false):lt (att (arrOf st1) j) (att (arrOf st1) i)=true:=by
 have d:(arrOf st1).toList.Pairwise λ x y=>lt x y=true∨lt y x=true:=((Array.perm_iff_toList_perm.mp b.pm).pairwise_iff λ h=>h.symm).mpr h
 rw[List.pairwise_iff_getElem] at d;have g:∀ k,k < a0.size->∃ a,(arrOf st1).toList[k]'a=att (arrOf st1) k:=λ k a=>⟨by rw[zBp,b.sz];exact a,by simp[att,Array.getD,show k < (arrOf st1).size by rw[b.sz];exact a]⟩
 obtain⟨f,l⟩:=g i hi;obtain⟨m,e2⟩:=g j n;rcases Nat.lt_or_gt_of_ne c with q | q
 . have:=d i j f m q
   rw[l,e2,e] at this;simpa using this
 have:=d j i m f q
 rw[l,e2,e] at this;simpa using this
theorem wcnt{m:Nat}{Q:Option Nat->SortSt->Prop}(u:Od lt)(D:Cn prog w A s kd a0 lt)(L:Ds lt a0)(F:kindOf st=kd)(S:lo+m<=a0.size)(h1:1<=m)(r:Bt a0 lo st st1)(h:∀ n f,Bt a0 lo st f->1<=n->n<=m->Srt lt (λ i=>att (arrOf f) (lo+i)) n->Q (some n) f):wpS (model prog w) A E s (countRun' lo m) Q st1:=by
 rw[countRun'_eq];refine Lc (Lh (Lf (I:=λ x c f=>f=st1/\c=(none,x)/\Srt lt (λ i=>att (arrOf st1) (lo+i)) x)
   (Q:=λ c f=>f=st1/\∃ n,c=(none,n)/\1<=n/\n<=m/\Srt lt (λ i=>att (arrOf st1) (lo+i)) n/\(n=m∨lt (att (arrOf st1) (lo+n)) (att (arrOf st1) (lo+n - 1))=true)) ?_ ?_ ⟨rfl,rfl,λ i j a b=>by rw[show i=j by lia];exact u.ir _⟩) ?_)
 . rintro x c l o M ⟨rfl,rfl,t⟩
   refine Lc (wat D F r (by lia) (by lia) ?_);cases v:lt (att (arrOf l) (lo+x)) (att (arrOf l) (lo+x - 1)) with
   | true=>exact Ld ⟨rfl,x,rfl,o,by lia,t,.inr v⟩
   | false=>exact Ld ⟨rfl,rfl,t.more u λ _=>by rw[<- Nat.add_sub_assoc o];exact v⟩
 . rintro c l ⟨rfl,rfl,t⟩
   rw[show max 1 m=m by lia] at t ⊢;exact⟨rfl,m,rfl,h1,zA6 _,t,.inl rfl⟩
 rintro c l ⟨rfl,n,rfl,J,K,t,d⟩;dsimp only;refine wif (λ _=>Ld (h n l r J K t)) λ c=>?_
 have d:=d.resolve_left (by simpa using c);refine wif (λ O=>Lc (wat D F r (by lia) (by lia) ?_)) λ O=>?_
 . have e:lt (att (arrOf l) lo) (att (arrOf l) (lo+n - 1))=true:=L.at r (by lia) (by lia) (by lia) (by rw[Nat.add_sub_assoc J];exact t 0 (n - 1) (by lia) (by lia))
   rw[e];exact Ld (h n l r J K t)
 obtain rfl:n=1:=by lia
 simp at c;refine Lc (wpS_lift (K7 ⟨rfl,?_⟩));have N:Od λ x y=>lt y x:=⟨λ x y q=>u.as _ _ q,λ x y z p q=>u.tr _ _ _ q p⟩
 refine Lc (Lh (Lf (I:=λ x c f=>f=l/\c=(none,x,0)/\Srt (λ x y=>lt y x) (λ i=>att (arrOf l) (lo+i)) x)
   (Q:=λ c f=>f=l/\∃ n,c=(none,n,0)/\2<=n/\n<=m/\Srt (λ x y=>lt y x) (λ i=>att (arrOf l) (lo+i)) n) ?_ ?_ ⟨rfl,rfl,?_⟩) ?_)
 . rintro x c g o M ⟨rfl,rfl,B⟩
   dsimp only;refine Lc (wat D F r (by lia) (by lia) ?_);dsimp only;cases v:lt (att (arrOf g) (lo+x)) (att (arrOf g) (lo+x - 1)) with
   | true=>exact wif (λ _=>wif (λ c=>absurd c (zBy 0)) λ _=>Ld ⟨rfl,rfl,B.more N λ _=>by rw[<- Nat.add_sub_assoc (by lia)];exact u.as _ _ v⟩) λ c=>absurd rfl c
   | false =>
     refine Lc (wat D F r (by lia) (by lia) ?_);rw[L.at r (by lia) (by lia) (by lia) v];exact Ld ⟨rfl,x,rfl,o,by lia,B⟩
 . rintro c g ⟨rfl,rfl,B⟩
   rw[show max (1+1) m=m by lia] at B ⊢;exact⟨rfl,m,rfl,by lia,zA6 _,B⟩
 . refine Srt.more (λ i j a b=>?_) N λ _=>u.as _ _ d
   obtain rfl:i=j:=by lia
   exact u.ir _
 rintro c g ⟨rfl,n,rfl,J,K,B⟩;refine wif (λ c=>absurd c (zBy 0)) λ _=>?_
 dsimp only;have z:lo+n<=(arrOf g).size:=by rw[r.sz];lia
 have G:=r.set (mirror_perm (arrOf g) lo (lo+n) ((lo+n - lo) / 2)) λ i T=>by rw[qaj5 z,if_neg (by lia)]
 refine Lc (wpS_reverse ?_);refine Lc (Lh (Lf (I:=λ x c f=>f=setArr g (mirror (arrOf g) lo (lo+n) ((lo+n - lo) / 2))/\c=(none,x)/\Srt lt (λ i=>att (arrOf f) (lo+i)) x)
   (Q:=λ c f=>f=setArr g (mirror (arrOf g) lo (lo+n) ((lo+n - lo) / 2))/\∃ k,c=(none,k)/\1<=k/\k<=m/\Srt lt (λ i=>att (arrOf f) (lo+i)) k) ?_ ?_ ⟨rfl,rfl,λ i j a b=>?_⟩) ?_)
 . rintro x c H o M ⟨rfl,rfl,C⟩
   refine Lc (wat D F G (by lia) (by lia) ?_);cases v:lt (att (arrOf (setArr g (mirror (arrOf g) lo (lo+n) ((lo+n - lo) / 2)))) (lo+x)) (att (arrOf (setArr g (mirror (arrOf g) lo (lo+n) ((lo+n - lo) / 2)))) (lo+x - 1)) with
   | true=>exact Ld ⟨rfl,x,rfl,by lia,by lia,C⟩
   | false=>exact Ld ⟨rfl,rfl,C.more u λ _=>by rw[<- Nat.add_sub_assoc (by lia)];exact v⟩
 . rintro c H ⟨rfl,rfl,C⟩
   rw[show max n m=m by lia] at C ⊢;exact⟨rfl,m,rfl,by lia,zA6 _,C⟩
 . show lt (att (mirror _ _ _ _) _) (att (mirror _ _ _ _) _)=false
   rw[qaj5 z,qaj5 z,if_pos (by lia),if_pos (by lia)]
   have:=B (n - 1 - j) (n - 1 - i) (by lia) (by lia)
   rw[show lo+(lo+n) - 1 - (lo+j)=lo+(n - 1 - j) by lia,show lo+(lo+n) - 1 - (lo+i)=lo+(n - 1 - i) by lia];exact this
 rintro c H ⟨rfl,k,rfl,P,R,C⟩;exact Ld (h k _ G P R C)
end
theorem wr{p:Nat}:∀(L:List Keyed)(n:Nat)(a:Array Keyed),p+n+L.length<=a.size ->
   ((L.zipIdx n).foldl (λ(a:Array Keyed)(z:Keyed×Nat)=>a.setIfInBounds (p+z.2) z.1) a).toList=a.toList.take (p+n)++L++a.toList.drop (p+n+L.length)
 | [],n,a,_=>by simp
 | x::L,n,a,h=>by
   rw[zAi] at h;rw[List.zipIdx_cons,List.foldl_cons,wr L (n+1) _ (by rw[Array.size_setIfInBounds];lia),Array.toList_setIfInBounds,<- Nat.add_assoc,zAi,
     List.drop_set_of_lt (by lia),List.take_set,List.take_add_one,show a.toList[p+n]?.toList=[att a (p+n)] from ?_,List.set_append_right _ _ (by simp;lia),show p+n+1+L.length=p+n+(L.length+1) by lia]
   . simp[show min (p+n) a.size=p+n by lia]
   rw[Array.getElem?_toList,qR6 (by lia)];rfl
section
variable{s:δ}{kd:SortKind}{lt:Keyed->Keyed->Bool}{st:SortSt}{a0:Array Keyed}
theorem qaQ3(a:Srt lt (λ j=>att xs (i+j)) n)(f:i+n<=xs.size):((xs.toList.drop i).take n).Pairwise λ x y=>lee lt x y=true:=by
 rw[List.pairwise_iff_getElem];intro p q b c d;rw[zBg,List.length_drop,zBp] at b c;have e:∀ p (h:p < ((xs.toList.drop i).take n).length),((xs.toList.drop i).take n)[p]=att xs (i+p):=λ p h=>by
   rw[List.getElem_take,List.getElem_drop];rw[zBg,List.length_drop,zBp] at h;simp[att,Array.getD,show i+p < xs.size by lia]
 rw[e,e];show (!lt _ _)=true;rw[a p q (by lia) (by lia)];rfl
def Fin6(lt:Keyed->Keyed->Bool)(a0:Array Keyed)(st:SortSt):Prop:=(arrOf st).toList.Perm a0.toList/\(arrOf st).toList.Pairwise (λ x y=>lee lt x y=true)/\Li st=none
structure One(lt:Keyed->Keyed->Bool)(kd:SortKind)(a0:Array Keyed)(n:Nat)(st:SortSt):Prop where
 pm:(arrOf st).Perm a0
 k:kindOf st=kd
 f:Li st=none
 p:Lg st = #[(0,n,0)]
 s:Srt lt (att (arrOf st)) n
theorem One.fin(h:One lt kd a0 n st)(c:n=a0.size):Fin6 lt a0 st:=by
 refine⟨Array.perm_iff_toList_perm.mp h.pm,?_,h.f⟩
 have:=qaQ3 (i:=0) (n:=n) (xs:=arrOf st) (λ i j a b=>by dsimp only;rw[zAs,zAs];exact h.s i j a b) (by rw[h.pm.size_eq];lia)
 rwa[List.drop_zero,zBr (by rw[zBp,h.pm.size_eq];lia)] at this
end
noncomputable def plt(p q:Int×Int):Bool:=decide (p.1 < q.1∨p.1=q.1/\p.2 < q.2)
def TP(h:Heap)(v:V')(p:Int×Int):Prop:=∃ b t u o n,v=.ref b/\h.get? b=some o/\o.cls=.type "tuple" /\ o.data=.seq #[.int p.1 t,.int p.2 u] n
section
variable{prog:Program}{w:World}{A:Around}{E:V'->δ->Prop}{s:δ}{kd:SortKind}{lt:Keyed->Keyed->Bool}{st:SortSt}{a0:Array Keyed}
theorem wrunS{Q:Unit->SortSt->Prop}(B:Od lt)(C:Cn prog w A s kd a0 lt)(F:Ds lt a0)(t:kindOf st=kd)(G:Li st=none)(u:Lg st = #[])(r:(arrOf st).Perm a0)(h2:2<=a0.size)(v:a0.size < 64)(h:∀ d,Fin6 lt a0 d->Q () d):wpS (model prog w) A E s sortRuns' Q st:=by
 rw[sortRuns'_eq];refine Lc (Lj ?_);obtain⟨f,H⟩:∃ f,a0.size=f+1:=⟨a0.size - 1,by lia⟩
 have J:minRun' a0.size a0.size 0=a0.size:=by
   conv=>lhs;rw[show minRun' a0.size=minRun' (f+1) by rw[H]]
   rw[minRun'_succ,if_pos v];rfl
 dsimp only;simp only[r.size_eq,J];refine Lc (Lh (Lf
   (I:=λ x c d=>(x=0/\c=(none,0)/\d=st)∨(1<=x/\c=(none,a0.size)/\One lt kd a0 a0.size d))
   (Q:=λ c d=>c=(none,a0.size)/\One lt kd a0 a0.size d) ?_ ?_ (.inl ⟨rfl,rfl,rfl⟩)) ?_)
 . rintro x c l - N (⟨rfl,rfl,rfl⟩ | ⟨K,rfl,o⟩)
   . dsimp only
     refine wif (λ c=>absurd c (by lia)) λ _=>?_
     have L:Bt a0 0 l l:=⟨rfl,rfl,rfl,r,λ _ _=>rfl⟩
     refine Lc (wcnt B C F t (by lia) (by lia) L λ n m y M O D=>?_);have fin:∀ k g,k=a0.size->Bt a0 0 l g->Srt lt (λ i=>att (arrOf g) (0+i)) k->One lt kd a0 a0.size (setPending g ((Lg g).push (0,k,0))):=λ k g e q z =>
       ⟨q.pm,q.kd.trans t,q.fl.trans G,by show (Lg g).push _=_;rw[q.pd,u,e];rfl,λ i j a b=>by have:=z i j a (by lia);dsimp only at this;rwa[zAs,zAs] at this⟩
     refine wif (λ c=>?_) λ c=>?_
     . refine Lc (wpS_lift (K7 ⟨rfl,?_⟩))
       refine Lc (wbin B C t (by lia) (by lia) M y D λ g q z=>?_);refine wif (λ c=>by cases c) λ _=>?_
       refine Lc (Lj ?_);rw[show (Lg g).back? = none by rw[q.pd,u];rfl];exact Lc (Ll (Ld (.inr ⟨by lia,by rw[show 0+min (a0.size - 0) a0.size=a0.size by lia],fin _ g (by lia) q z⟩)))
     refine Lc (Lj ?_);rw[show (Lg m).back? = none by rw[y.pd,u];rfl];exact Lc (Ll (Ld (.inr ⟨by lia,by rw[show 0+n=a0.size by lia],fin _ m (by lia) y D⟩)))
   dsimp only;exact wif (λ _=>Ld ⟨rfl,o⟩) λ c=>absurd (zA6 _) c
 . rintro c l (⟨P,_⟩ | ⟨K,rfl,o⟩)
   . lia
   exact⟨rfl,o⟩
 rintro c l ⟨rfl,o⟩;dsimp only;refine Lc (Lh (Lf (I:=λ x c d=>c=(none,())/\d=l) (Q:=λ c d=>c=(none,())/\d=l) ?_ (λ _ _ h=>h) ⟨rfl,rfl⟩) ?_)
 . rintro x c m - - ⟨rfl,rfl⟩
   refine Lc (Lj ?_);rw[if_pos (by rw[o.p];exact zA6 1)];exact Ld ⟨rfl,rfl⟩
 rintro c m ⟨rfl,rfl⟩;exact Ld (h m (o.fin rfl))
theorem cmpP{x y:V'}{p q:Int×Int}{Q:Bool->δ->Prop}(f:TP s.heap x p)(g:TP s.heap y q)(h:Q (plt p q) s):wpAny (model prog w) A (keyLt' (tuples' true) x y) Q E s:=by
 obtain⟨b,t,u,o,n,rfl,i,_,j⟩:=f;obtain⟨c,m,v,B,C,rfl,k,_,l⟩:=g;have z:∀ r:Bool,r=plt p q->Q r s:=λ r e=>e ▸ h
 refine W.kat_lt i j k l (W.kat_cons (wpAny_eqBool_int (W.kat_go (λ a=>W.kat_yes (W.kat_cons (wpAny_eqBool_int (W.kat_go (λ d=>W.kat_yes (W.kat_nil (z _ ?_))) λ d=>W.kat_no (W.kat_one _ _ (lt_int (z _ ?_))))))) λ a=>W.kat_no (oneLt_int (z _ ?_)))))
 . simp at a d;simp[plt,a,d]
 . simp at a d;simp[plt,a]
 simp at a;simp[plt,a]
theorem TP.keep{h h':Heap}{v:V'}{p:Int×Int}(t:TP h v p)(k:∀ b o,h.get? b=some o->o.cls=.type "tuple" -> h'.get? b=some o):TP h' v p:=by
 obtain⟨b,t,u,o,n,rfl,c,a,d⟩:=t;exact⟨b,t,u,o,n,rfl,k _ _ c a,a,d⟩
end
def kl(kf:V'->Int×Int)(x y:Keyed):Bool:=plt (kf x.1) (kf y.1)
theorem kl_od(kf:V'->Int×Int):Od (kl kf) :=
 ⟨λ x y h=>by simp[kl,plt] at h ⊢;lia,λ x y z a b=>by simp[kl,plt] at a b ⊢;lia⟩
section
variable{prog:Program}{w:World}{A:Around}{E:V'->δ->Prop}{s:δ}
theorem kl_ds(c:(vs.map kf).Nodup):Ds (kl kf) (pairsOf vs):=by
 unfold Ds;rw[pairsOf_toList,show vs.zip vs=vs.map λ v=>(v,v) by induction vs with | nil=>rfl | cons v vs d=>simp at c;rw[List.zip_cons_cons,d c.2];rfl,zBw];unfold List.Nodup at c;rw[zBw] at c;refine c.imp λ{a b} h=>?_
 have e:¬ ((kf a).1=(kf b).1/\(kf a).2=(kf b).2):=λ q=>h (Prod.ext q.1 q.2)
 simp only[kl,plt,zB5];lia
theorem qam0{a:γ}{P:PySem.Fin->δ->Prop}{kd:SortKind}(g:s.heap.get? a=some (seqObj "list" vs.toArray n))(i:vs.length < 64)(B:(vs.map kf).Nodup)(C:∀ h',(∀ b o,s.heap.get? b=some o->o.cls=.type "tuple" -> h'.get? b=some o)->2<=vs.length ->
     (∀(Q':SortKind->δ->Prop),Q' kd { s with heap:=h' }->wpAny (model prog w) A (keyKind' vs.toArray) Q' E { s with heap:=h' })/\Cm prog w A { s with heap:=h' } kd (λ x=>x.1∈vs) (kl kf))(h:∀ out:List V',out.Perm vs->(out.map kf).Pairwise (λ p q=>plt q p=false)->P (.done (.ret .none)) { s with heap:=sortedHeap s.heap a vs out.toArray }) :
   wpAny (model prog w) A (Builtin.«list.sort» ⟨[.ref a],[]⟩) P E s:=by
 have D:vs.toArray.size=vs.length:=zA3;have S:a < s.heap.objs.size:=zA9 g;obtain⟨l,m⟩:∃ e,(s.heap.update a (Obj.mapSeq λ _=>#[])).get? a=some (seqObj "list" #[] e):=⟨_,get?_update_seq g λ _=>#[]⟩
 have r:(((s.heap.update a (Obj.mapSeq λ _=>#[])).push (seqObj "tuple" vs.toArray 0)).push (seqObj "list" #[] 0)).get? a=some (seqObj "list" #[] l):=zA2 _ (zA2 _ m);have F:∀ b o,s.heap.get? b=some o->o.cls=.type "tuple" -> (((s.heap.update a (Obj.mapSeq λ _=>#[])).push (seqObj "tuple" vs.toArray 0)).push (seqObj "list" #[] 0)).get? b=some o:=λ b o q G=>by
   have H:b≠a:=λ z=>by rw[z,g] at q;cases q;simp at G
   exact zA2 _ (zA2 _ (by rw[Heap.get?_update_ne _ _ _ _ H];exact q))
 rw[list_sort_plain];refine G' (listItems_at g rfl (G' (listUpdate_at g rfl (G' (seqEpoch_at m rfl (G' (wpAny_newTuple (G' (wpAny_newList (Kt ?_) (zBe _))) (by show vs.length<=_;rw[Kx];lia))))) (by rw[D,Kx];lia) (zBe _))));show wpAny (model prog w) A _ P E { s with heap:=((s.heap.update a (Obj.mapSeq λ _=>#[])).push (seqObj "tuple" vs.toArray 0)).push (seqObj "list" #[] 0) };have last:∀ d:SortSt,(arrOf d).toList.Perm (pairsOf vs).toList->(arrOf d).toList.Pairwise (λ x y=>lee (kl kf) x y=true)->Li d=none ->
     P (.done (.ret .none)) { s with heap:=sortedHeap s.heap a vs ((arrOf d).map (·.2)) }/\((arrOf d).map (·.2)).size<=Kq+1:=λ d j I _=>by
   rw[pairsOf_toList] at j;have u:∀ p∈(arrOf d).toList,p.1=p.2:=λ p J=>(mem_zip_self (j.mem_iff.mp J)).1
   have e2:((arrOf d).map (·.2))=((arrOf d).toList.map (·.2)).toArray:=Array.toList_inj.mp (by rw[Array.toList_map]);have pv:((arrOf d).toList.map (·.2)).Perm vs:=by
     have:=j.map Prod.snd
     rwa[List.map_snd_zip (zA6 _)] at this
   rw[e2];refine⟨h _ pv ?_,by rw[zA3,pv.length_eq,Kx];lia⟩;rw[List.map_map,zBw];refine(List.Pairwise.and_mem.mp I).imp λ{x y} ⟨K,L,q⟩=>?_
   show plt (kf y.2) (kf x.2)=false;rw[<- u x K,<- u y L];simpa[lee,kl] using q
 have tail:∀ d:SortSt,Fin6 (kl kf) (pairsOf vs) d->wpAny (model prog w) A (do
     let t:=(<- seqEpoch a) != l
     Builtin.List.listUpdate (.ref a) λ _=>(arrOf d).map (·.2)
     if let some e:=Li d then rule "list.sort.comparison-raised";throw e
     if t then rule "list.sort.modified";raiseError "ValueError" "list modified during sort"
     ret .none) P E { s with heap:=((s.heap.update a (Obj.mapSeq λ _=>#[])).push (seqObj "tuple" vs.toArray 0)).push (seqObj "list" #[] 0) }:=λ d f=>by
   have z:=last d f.1 f.2.1 f.2.2;refine G' (seqEpoch_at r rfl (G' (listUpdate_at r rfl ?_ (zBe _) z.2)));rw[f.2.2];simp only[bne_self_eq_false,Bool.false_eq_true,if_false];exact J' z.1
 by_cases c:vs.toArray.size < 2
 . rw[if_pos c,if_pos c]
   refine G' (J' ?_);dsimp only;rw[StateT.run_pure];refine G' (J' (tail (SortSt.mk' general' (vs.toArray.zip vs.toArray) #[] 7 none) ⟨List.Perm.refl _,?_,rfl⟩));show (pairsOf vs).toList.Pairwise _;rw[pairsOf_toList]
   match vs,c with
   | [],_=>exact .nil
   | [v],_=>simp
   | _::_::_,c=>simp at c;lia
 rw[if_neg c,if_neg c];obtain⟨M,N⟩:=C _ F (by lia);refine G' (M _ ?_);have O:Cn prog w A { s with heap:=((s.heap.update a (Obj.mapSeq λ _=>#[])).push (seqObj "tuple" vs.toArray 0)).push (seqObj "list" #[] 0) } kd (pairsOf vs) (kl kf):=λ x y Q R=>N x y (mem_zip_self (pairsOf_toList vs ▸ Q)).2 (mem_zip_self (pairsOf_toList vs ▸ R)).2
 have k:wpS (model prog w) A E { s with heap:=((s.heap.update a (Obj.mapSeq λ _=>#[])).push (seqObj "tuple" vs.toArray 0)).push (seqObj "list" #[] 0) } sortRuns' (λ _ d=>Fin6 (kl kf) (pairsOf vs) d) (SortSt.mk' kd (vs.toArray.zip vs.toArray) #[] 7 none):=by
   exact wrunS (kl_od kf) O (kl_ds B) rfl rfl rfl (Array.Perm.refl _) (by rw[pairsOf_size];lia) (by rw[pairsOf_size];exact i) λ _ f=>f
 refine G' (K6 k ?_ λ _ _ e=>e);rintro⟨⟨⟩,d⟩ T ⟨rfl,f⟩;exact tail d f
theorem sorted6{l:γ}{Q:V'->δ->Prop}{kd:SortKind}(f:s.heap.IsList l vs.toArray)(a:vs.length < 64)(g:(vs.map kf).Nodup)(i:∀(A:Around)(E:V'->δ->Prop) h',(∀ b o,s.heap.get? b=some o->o.cls=.type "tuple" -> h'.get? b=some o)->2<=vs.length ->
     (∀(Q':SortKind->δ->Prop),Q' kd { s with heap:=h' }->wpAny (model prog w) A (keyKind' vs.toArray) Q' E { s with heap:=h' })/\Cm prog w A { s with heap:=h' } kd (λ x=>x.1∈vs) (kl kf))(h:∀ out:List V',out.Perm vs->(out.map kf).Pairwise (λ p q=>plt q p=false)->Q (.ref (s.heap.objs.size+1)) { s with heap:=sortedAll s.heap vs out.toArray }) :
   wpAny (model prog w) A (call (.builtin "sorted") [.ref l]) Q E s:=by
 refine Calls.call_function_entry kind_sorted plain_sorted entry_sorted (args_sorted1 _) ?_;unfold Builtin.«sorted»;refine G' (m:=checkCount "sorted" 1 1 _) (J' (G' (collect_list f (G' (wpAny_newList ?_ (by rw[Kx];lia))) (by rw[Kx];lia))));have d:((s.heap.push (seqObj "list" #[] 0)).update s.heap.objs.size (Obj.mapSeq (·++vs.toArray))).objs.size=s.heap.objs.size+1:=by rw[Heap.size_update,size_push']
 have e:(((s.heap.push (seqObj "list" #[] 0)).update s.heap.objs.size (Obj.mapSeq (·++vs.toArray))).push (seqObj "list" vs.toArray 0)).get? (s.heap.objs.size+1)=some (seqObj "list" vs.toArray 0):=by
   rw[<- d];exact zAu _ rfl
 have j:∀ b o,s.heap.get? b=some o->(((s.heap.push (seqObj "list" #[] 0)).update s.heap.objs.size (Obj.mapSeq (·++vs.toArray))).push (seqObj "list" vs.toArray 0)).get? b=some o:=λ b o q =>
   zA2 _ (by rw[Heap.get?_update_ne _ _ _ _ (zAj (zA9 q))];exact zA2 _ q)
 show wpAny _ _ _ _ _ { s with heap:=((s.heap.push (seqObj "list" #[] 0)).update s.heap.objs.size (Obj.mapSeq (·++vs.toArray))).push (seqObj "list" vs.toArray 0) };rw[d];refine G' (Kt (wpAny_call_entry slot_list_sort ⟨_,e,rfl⟩ entry_list_sort (qam0 e a g (λ h' k c=>i _ _ h' (λ b o q n=>k b o (j _ _ q) n) c) λ out r t=>⟨_,rfl,?_⟩) (args_list_sort _)));exact J' ⟨_,rfl,h out r t⟩
end
end S6
namespace LV
open PySem L2 PyProof.Rows
variable{ps:List (Int×Int)}
abbrev Ej(ps:List (Int×Int)):List (Int×Int):=ps.mergeSort λ p q=>!S6.plt q p
def PrA(H:Hp)(v:V)(p:Int×Int):Prop:=∃ b,v=.ref b/\H b=some (.q [.int p.1,.int p.2])
noncomputable def kfh(h:Heap):V'->Int×Int
 | .ref b=>match h.get? b with
   | some o=>match o.data with
     | .seq xs _=>(numOf (xs.getD 0 .none),numOf (xs.getD 1 .none))
     | _=>(0,0)
   | none=>(0,0)
 | _=>(0,0)
theorem qaU1{h:Heap}{v:V'}{p:Int×Int}(t:S6.TP h v p):kfh h v=p:=by
 obtain⟨b,t,u,o,n,rfl,a,d,c⟩:=t;simp only[kfh,a,c];rfl
noncomputable def vOf:V'->V
 | .ref b=>.ref b
 | _=>.non
section
variable{X:Cx}{E3:List (γ×Obj)}{σ:List (Option V)}{H:Hp}{s:δ}
theorem qaI2(I:Ly X E3 σ H s){vs:List V}{its:List V'}(r:Lw vs its)(t:Paired (PrA H) vs ps) :
   its.map (kfh s.heap)=ps/\∀ u∈its,S6.TP s.heap u (kfh s.heap u)/\∃ b,u=.ref b/\H b=some (.q [.int (kfh s.heap u).1,.int (kfh s.heap u).2]):=by
 induction t generalizing its with
 | nil=>cases r;exact⟨rfl,nofun⟩
 | @cons v p vs ps h t f =>
   cases r with
   | @cons _ u _ its ru rt =>
     obtain⟨b,rfl,c⟩:=h;cases ru;obtain⟨w,q,⟨o,g,i,n,j⟩,_⟩:=I.tuple (.inl (.inl c));have d:S6.TP s.heap (.ref b) p:=by
       obtain⟨x,y,rfl,⟨t1,rfl⟩,t2,rfl⟩:=Lw.two q;exact⟨b,t1,t2,o,n,rfl,g,i,j⟩
     have e:=qaU1 d;obtain⟨k,l⟩:=f rt;refine⟨by rw[zAw,e,k],λ u a=>?_⟩;rcases zAm.mp a with rfl | a
     . rw[e];exact⟨d,b,rfl,c⟩
     exact l u a
theorem qat1{h:Heap}:∀{out:List V'},(∀ u∈out,∃ b,u=.ref b/\H b=some (.q [.int (kfh h u).1,.int (kfh h u).2]))->Lw (out.map vOf) out/\Paired (PrA H) (out.map vOf) (out.map (kfh h))
 | [],_=>⟨.nil,.nil⟩
 | u::out,k=>by
   obtain⟨b,rfl,c⟩:=k u zAa;have a:=qat1 (out:=out) λ v d=>k v (zA4 _ d)
   exact⟨.cons rfl a.1,.cons ⟨b,rfl,c⟩ a.2⟩
theorem qS0{h:Heap}{kf:V'->Int×Int}:∀{its:List V'},(∀ u∈its,S6.TP h u (kf u))->∃ fs,W.KatTups h its fs/\fs.length=its.length/\∀ f∈fs,∃ i t,f=Value.int i t
 | [],_=>⟨[],trivial,rfl,nofun⟩
 | u::its,k=>by
   obtain⟨fs,f1,f2,f3⟩:=qS0 (its:=its) λ v c=>k v (zA4 _ c)
   obtain⟨b,t,w,o,n,rfl,d,e,g⟩:=k u zAa;refine⟨Value.int _ t::fs,W.KatTups.cons d e g rfl f1,by rw[zAi,f2];rfl,λ f a=>?_⟩;rcases zAm.mp a with rfl | a
   . exact⟨_,_,rfl⟩
   exact f3 f a
theorem qac3(ps:List (Int×Int)):(Ej ps).Pairwise λ p q=>S6.plt q p=false:=by
 refine(List.pairwise_mergeSort (λ a b c d e=>?_) (λ a b=>?_) ps).imp λ{a b} h=>by simpa using h
 . simp[S6.plt] at d e ⊢;lia
 simp[S6.plt];lia
theorem qax2{c:List (Int×Int)}(d:c.Perm ps)(e:c.Pairwise λ p q=>S6.plt q p=false):c=Ej ps:=by
 refine List.Perm.eq_of_pairwise (le:=λ p q=>S6.plt q p=false) (λ a b _ _ f g=>?_) e (qac3 ps) (d.trans (List.mergeSort_perm _ _).symm);simp[S6.plt] at f g;exact Prod.ext (by lia) (by lia)
def qaH1(K:W.Frag):List V->Hp->VK->Prop:=λ xs H Q=>∃ a vs ps,xs=[.ref a]/\SqL K H a vs/\Paired (PrA H) vs ps/\ps.Nodup/\ps.length < 64/\∀ l b,H l=none->Paired (PrA H) b (Ej ps)->Q (.ref l) (upd H l (.l b))
theorem qaj3:CallR X (.builtin "sorted") (qaH1 X.K):=by
 intro E3 s σ H V Y Q I r h;obtain⟨a,Z,B,rfl,C,t,D,hl,q⟩:=h;obtain⟨u,rfl,F⟩:=B8 r;cases F;obtain⟨f,G,J,hz⟩:=I.list C;obtain⟨j,g⟩:=qaI2 I G t;have L:f.length < 64:=by have:=congrArg List.length j;rw[zAd] at this;lia
 refine S6.sorted6 (kf:=kfh s.heap) (kd:=tuples' true) J.isList L (by rw[j];exact D) (λ A E h' k c=>⟨λ Q' l=>?_,λ x y M N E Q l=>?_⟩) λ d m O=>?_
 . obtain⟨fs,f1,f2,f3⟩:=qS0 λ u n=>(g u n).1.keep k
   refine W.kat_kind (T:=.type "int") f1 (by lia) (λ v P=>?_) rfl l;obtain⟨i,t,rfl⟩:=f3 v P;exact W.Looks.of_pure rfl
 . exact S6.cmpP ((g _ M).1.keep k) ((g _ N).1.keep k) l
 obtain⟨R,p⟩:=qat1 (H:=H) (h:=s.heap) (out:=d) λ u n=>(g u (m.mem_iff.mp n)).2
 obtain⟨e,S⟩:=sortedAll_at s.heap f d.toArray;have U:d.map (kfh s.heap)=Ej B:=qax2 (j ▸ m.map _) O;rw[U] at p;refine⟨.ref _,_,I.laid (t':=s.toks) (λ b o z=>sortedAll_old z) (Nat.le_succ _) (show ObjOk X.prog X.w _ _ _ (.l (d.map vOf)) from⟨?_,d,e,R,S⟩),rfl,q _ _ (I.hok.fresh (Nat.le_succ _)) p⟩;rw[zAd,m.length_eq,Kx];lia
noncomputable def Ir:D->Option (Int×Int)
 | .q [.int a,.int b]=>some (a,b)
 | _=>none
noncomputable def prD2(p:Int×Int):D:=.q [.int p.1,.int p.2]
def qav0(x:D):Option D:=match x with
 | .l _ ys=>(ys.mapM Ir).bind λ ps=>gd (ps.Nodup/\ps.length < 64) (.l false ((Ej ps).map prD2))
 | _=>none
theorem qad7:∀{ys:List D}{ps:List (Int×Int)},ys.mapM Ir=some ps->ys=ps.map prD2
 | [],ps,h=>by cases h;rfl
 | y::ys,ps,h=>by
   rw[List.mapM_cons] at h;obtain⟨p,a,h⟩:=zA1.mp h;obtain⟨c,b,h⟩:=zA1.mp h;cases h;rw[zAw,qad7 b];congr 1;unfold Ir at a;split at a
   . cases a;rfl
   cases a
theorem qaI3{F:γ->Prop}{H:Hp}:∀{ps:List (Int×Int)}{vs:List V}{A:List γ},Lp F H vs (ps.map prD2) A->Paired (PrA H) vs ps
 | [],_,_,r=>by cases r;exact .nil
 | p::ps,_,_,r=>by
   cases r with
   | cons h t =>
     cases h with
     | q e r =>
       refine .cons ⟨_,rfl,?_⟩ (qaI3 t);cases r with
       | cons a t1 =>
         cases a;cases t1 with
         | cons b t2=>cases b;cases t2;exact e
theorem qay5{F:γ->Prop}{H:Hp}{a:List V}(t:Paired (PrA H) a ps):Lp F H a (ps.map prD2) []:=by
 induction t with
 | nil=>exact .nil
 | cons h t c =>
   obtain⟨b,rfl,d⟩:=h;exact .cons (A:=[]) (B:=[]) (.q d (.cons (A:=[]) (B:=[]) (.int _) (.cons (A:=[]) (B:=[]) (.int _) .nil))) c
theorem qaD8{K:W.Frag}:CS1 true (qaH1 K) qav0:=by
 intro F H v x B d Q r h q;cases x with
 | l z n =>
   obtain⟨c,e,f⟩:=zA1.mp h;obtain⟨⟨g,i⟩,rfl⟩:=qt3 f;cases qad7 e;obtain⟨a,j,A,rfl,k,m,_⟩:=r.lst_inv;exact⟨a,j,c,rfl,.inl (.inl k),qaI3 m,g,i,λ l o b t=>q _ _ [l] (qy7 b (qay5 t)) (Same.new b) (qg7 b)⟩
 | _=>cases h
end
theorem qU2{F:γ->Prop}{H:Hp}:∀ ns:List Int,Lp F H (ns.map V.int) (ns.map D.int) []
 | []=>.nil
 | n::ns=>.cons (A:=[]) (B:=[]) (.int n) (qU2 ns)
end LV
namespace LV
open PySem L2
mutual
def D.plain:D->Bool
 | .q ds=>D.plains ds
 | .l z ds=>!z&&D.plains ds
 | .non=>true | .bl _=>true | .int _=>true | .str _=>true
 | _=>false
def D.plains:List D->Bool
 | []=>true
 | d::r=>d.plain&&D.plains r
end
end LV
namespace LV
open PySem L2 PyProof.Rows
section
variable{c:Vc}{X:Cx}{e:Expr}{ta tb:VT}{s:VSp}
def tOrT(ta tb:VT):VT:=λ ds Q xe=>ta ds Q xe∨tb ds Q xe
theorem eAlt(g:VE c X e ta)(i:VE c X e tb):VE c X e (tOrT ta tb):=by
 refine⟨λ E3 s σ H Q I b=>?_,λ d Q Q' f k j a=>Or.imp (g.m _ _ _ _ _ j a) (i.m _ _ _ _ _ j a)⟩;obtain⟨F,d,A,f,S,a,q⟩:=b;rcases q with q | q
 . exact g.h E3 s σ H Q I ⟨F,d,A,f,S,a,q⟩
 exact i.h E3 s σ H Q I ⟨F,d,A,f,S,a,q⟩
end
end LV
namespace L2
open PySem PySem.Spec PyProof.Rows
def qas7:V->List V->Hp->VK->Prop:=λ x vs H Q=>∃(l:γ)(ns:List Int)(k:Int),x=.ref l/\vs=[.int k]/\H l=some (.l (ns.map V.int))/\k∈ns/\Q .non (upd H l (.l ((ns.erase k).map V.int)))
theorem qV2{k:Int}:∀{ns:List Int},k∈ns->∃ j,ns[j]? = some k/\(∀(m:Nat)(x:Int),m < j->ns[m]? = some x->x≠k)/\ns.eraseIdx j=ns.erase k
 | y::ns,h=>by
   by_cases e:y=k
   . subst e
     exact⟨0,rfl,λ m x a=>absurd a (Nat.not_lt_zero _),by rw[List.erase_cons_head];rfl⟩
   obtain⟨j,c,d,f⟩:=qV2 ((zAm.mp h).resolve_left λ z=>e z.symm);refine⟨j+1,c,λ m x a b=>?_,by rw[List.erase_cons_tail (by simpa using e),<- f];rfl⟩;cases m with
   | zero=>cases b;exact e
   | succ m=>exact d m x (by lia) b
theorem qT2{X:Cx}:MtM X "list.remove" qas7:=by
 intro E3 s σ H x R v S Q I J K h;obtain⟨l,d,k,rfl,rfl,D,L,q⟩:=h;cases J;obtain⟨u,rfl,M,rfl⟩:=K.one;obtain⟨z,b,n,r,T,e⟩:=I.lstM D;have f:=r.length;rw[zAd] at f;have g:∀ m (c:m < b.length),∃ t,b[m]=Value.int (d[m]'(by lia)) t:=λ m c=>by
   obtain⟨w,E,t,rfl⟩:=r.get (i:=m) (x:=.int (d[m]'(by lia))) (by simp[show m < d.length by lia]);exact⟨t,by rw[zBl c] at E;exact Option.some.inj E⟩
 let G:V'->Bool:=λ y=>match y with | .int i _=>i == k | _=>false
 obtain⟨j,N,p,A⟩:=qV2 L;obtain⟨O,B⟩:=zA5.mp N;have o:∀ m (c:m < b.toArray.size),G b.toArray[m]=(d[m]'(by simp at c;lia) == k):=λ m c=>by
   obtain⟨t,e⟩:=g m (by simpa using c);have e:b.toArray[m]=Value.int (d[m]'(by simp at c;lia)) t:=by simpa using e
   rw[e]
 refine K9 F.slot_list_remove ⟨_,e,rfl⟩ F.entry_list_remove (F.args_list_remove_2 _ _) (MeetsSeq.list_remove l b.toArray n (.int k M) G (λ y P=>?_) j (by simp;lia) ?_ (λ m c C=>?_) (by rw[zA3];lia)) ⟨e,?_⟩
 . obtain⟨m,c,rfl⟩:=List.getElem_of_mem (by simpa using P:y∈b)
   obtain⟨t,e⟩:=g m c;rw[e];exact MeetsSeq.EqGives.int _ _ _ _
 . rw[o];simp[B]
 . rw[o]
   exact beq_false_of_ne (p m _ C (by simp[show m < d.length by simp at c;lia]))
 refine⟨.non,_,I.lset (its':=b.eraseIdx j) (ys:=(d.erase k).map V.int) D e (by simp) ?_ ?_,rfl,q⟩
 . rw[<- A,show (d.eraseIdx j).map V.int=(d.map V.int).eraseIdx j from by simp[List.eraseIdx_eq_take_drop_succ,List.map_take,List.map_drop]]
   exact r.eraseIdx _
 rw[zAd];have:=List.length_erase_le (a:=k) (l:=d);lia
end L2
namespace LV
open PySem L2 PyProof.Rows
def Hb(ys xs:Ds):Option (Ds×D):=match xs with
 | [.int k]=>(intsD ys).bind λ ns=>if k∈ns then some ((ns.erase k).map D.int,.non) else none
 | _=>none
theorem qaK8:Gn qas7 Hb:=by
 intro F H a s t Ael u j T m d Q n r o h q;cases j with
 | nil=>cases h
 | cons e l =>
 cases l with
 | cons=>cases e<;>cases h
 | nil =>
 cases e with
 | int k =>
   obtain⟨w,rfl,f⟩:=o.one_inv;cases f;obtain⟨i,p,c⟩:=zA1.mp h;by_cases g:k∈i
   . rw[if_pos g] at c
     cases c;cases r.intsD p;exact⟨a,i,k,rfl,rfl,n,g,q _ .non [] [] (qU2 _) .non λ b=>by simp⟩
   rw[if_neg g] at c;cases c
 | _=>cases h
end LV
namespace LV
open PySem L2
def tSlN(i:Nat)(tb:VT):VT:=λ ds Q xe=>(rdN i ds).isSome=true/\tb ds (λ y ds1=>orF y.asI λ h=>orF ((rdN i ds1).bind λ x=>if noT x=true then gSl x none (some h) else none) λ d=>Q d ds1) xe
theorem eslN{c:Vc}{X:Cx}{b:Expr}{tb:VT}(i:Nat){x:Str}{p0 p2 pos:Pos}(k:VE c X b tb)(t:X.N[i]? = some x:=by rfl)(j:Vis X.env.scope x:=by first | exact Or.inl rfl | exact Or.inr (Or.inl rfl) | exact Or.inr (Or.inr rfl))(G:N' x:=by decide)(l:(x == ("__classdict__" : Str))=false:=by decide) :
   VE c X (.Subscript (.Name x p0) (.Slice none (some b) none p2) pos) (tSlN i tb):=by
 refine⟨λ E3 s σ H Q I n=>?_,λ u Q Q' C J K e=>And.imp_right (k.m _ _ _ _ _ (λ d f=>qa5 λ h=>qa5 λ z=>K z f) e)⟩;obtain⟨F,u,A,C,S,x,L,q⟩:=n;refine qF4 qS3 (qk1 t j G l) qad9 (qad8 k.h) E3 s σ H Q I ?_;have D:=qk3 t E3 σ H s I;obtain⟨W,o⟩:=zAv.mp L;obtain⟨v,B0,j,_,_⟩:=S.name D o;refine⟨v,j,F,u,A,C,S,x,k.m _ _ _ _ _ (λ Y f q w H1 F1 T A1 M S1 Z O=>?_) (λ _ _ z=>z) q⟩;have p:Lz F H A F1 H1 A1:=O.count λ b=>by rw[zA0];lia
 obtain⟨h,P,q⟩:=qa7.mp q;obtain⟨d,a,q⟩:=qa7.mp q;obtain⟨y,R,a⟩:=zA1.mp a;obtain⟨v',B,g,U,_⟩:=S1.name D R;rw[j] at g;cases g;by_cases e:noT y=true
 . rw[if_pos e] at a
   refine⟨h,M.asI P,Js U a (λ ys z=>by subst z;cases e) λ w H' B' V r E=>?_⟩;exact q w H' F1 B' A1 V (S1.same r) (S1.new E r) (p.trans (E.stp r))
 rw[if_neg e] at a;cases a
end LV
namespace L2
open PySem PySem.Spec PyProof.Rows
theorem Fly.push{n:Nat}{H:Hp}{h:Heap}{a:γ}{o:Obj}(F:Fly n H h a):Fly n H (h.push o) a:=by
 obtain⟨b,c,d,e,f,g⟩:=F.ob;refine⟨F.ge,F.tr,b,c,zA2 _ d,e,f,?_⟩;rcases g with z | ⟨T,i,j,k,l,m,p,q,z⟩
 . exact .inl z
 exact .inr ⟨T,i,j,k,l,m,p,zA2 _ q,z⟩
theorem L6.u64{cm:Bool}{k:Nat}{A:Around}(a:L6 cm k A):A.units+64 < cLine:=a.units
end L2
namespace LV
open PySem L2
abbrev VH:=Exn->VTS
inductive Hy(c:Vc)(t:VH)(a:γ)(E:Eb)(σ:St)(H:Hp):Prop
 | mk (x:Exn) (F:γ->Prop) (ds:Ds) (A:List γ) (e:VEnds) (r:RepX F H a x) (S:L5 c F H σ ds A) (l:Lk c E F H A e) (q:t x e ds):Hy c t a E σ H
structure VHs(c:Vc)(X:Cx)(hs:List ExceptHandler)(t:VH):Prop where
 h:PH X hs (Hy c t)
 m:∀ x (e e':VEnds) ds,e.Le e'->t x e ds->t x e' ds
section
variable{c:Vc}{X:Cx}{pos:Pos}
theorem PH.mono{b:List ExceptHandler}{t t':γ->TS}(h:PH X b t)(i:∀ a D σ H,t' a D σ H->t a D σ H):PH X b t':=λ E3 s σ H D a n I F O q=>h E3 s σ H D a n I F O (i a D σ H q)
theorem vhnil:VHs c X [] (λ _ _ _=>False):=⟨PH.mono qaR6 λ _ _ _ _ ⟨_,_,_,_,_,_,_,_,q⟩=>q,λ _ _ _ _ _ z=>z⟩
noncomputable def G3(e:VEnds):VEnds:=⟨λ _=>False,e.rt,λ _=>False,λ _=>False,λ _ _=>False⟩
noncomputable abbrev cNo(c:Vc):Vc:={ c with E:=λ _ _ _ _=>False }
def sTryW(t:VTS)(th:VH):VTS:=λ e ds=>t { e with xe:=λ x a=>th x e a } ds
theorem stryW{body:List Stmt}{h₀:ExceptHandler}{o:List ExceptHandler}{t:VTS}{th:VH}(p:∀ E xe f,Lands (Xt X xe f) E->VSs { c with E:=E } (Xt X xe f) body t)(s:VHs c X (h₀::o) th)(g:X.stack=X.env::X.outer:=by rfl)(i:X.env.frame=some X.env.locals:=by rfl):VS c X (.Try body (h₀::o) [] [] pos) (sTryW t th):=by
 refine⟨PS.mono (qaR2 (tb:=λ E=>Ez { c with E:=E } t) (λ E xe f w=>(p E xe f w).h) s.h g i) λ D σ H j=>?_,λ e G u h=>(p (λ _ _ _ _=>False) (λ _ _=>True) [] λ _ _ _ _ _ _ _ _ _ z=>z.elim).m _ _ _ ⟨h.nx,h.rt,h.bk,h.ct,λ x b=>s.m x _ _ _ h⟩⟩;obtain⟨F,u,A,e,S,l,q⟩:=j;refine⟨λ σ' y _ H'=>∃ x a b F' A',y=.ref a/\th x e b/\RepX F' H' a x/\L5 c F' H' σ' b A'/\Lz F H A F' H' A',⟨F,u,A,_,⟨S.loc,S.ok,S.len,S.ag⟩,⟨?_,?_,?_,?_,?_⟩,q⟩,λ a σ' H' ⟨x,I,b,F',A',B,C,k,S',n⟩=>?_⟩
 . exact λ b σ' H' F' A' q S'=>l.nx b σ' H' F' A' q ⟨S'.loc,S'.ok,S'.len,S'.ag⟩
 . exact λ d b v σ' H' F' T A' q r S'=>l.rt d b v σ' H' F' T A' q r ⟨S'.loc,S'.ok,S'.len,S'.ag⟩
 . exact λ b σ' H' F' A' q S'=>l.bk b σ' H' F' A' q ⟨S'.loc,S'.ok,S'.len,S'.ag⟩
 . exact λ b σ' H' F' A' q S'=>l.ct b σ' H' F' A' q ⟨S'.loc,S'.ok,S'.len,S'.ag⟩
 . exact λ x b σ' a H' F' A' q k S' n=>⟨x,a,b,F',A',rfl,q,k,⟨S'.loc,S'.ok,S'.len,S'.ag⟩,n⟩
 cases B;exact⟨σ',rfl,λ _ _ z=>z,x,F',b,A',e,k,S',l.step n,C⟩
end
end LV
namespace L2
open PySem PySem.Spec PyProof.Rows
def tHdN(M:γ->Option Bool)(ts tr:γ->TS):γ->TS:=λ a D σ H=>∃ C c b,H a=some (Bo a C c false)/\M C=some b /\
 if b=true then ts a D σ H else tr a D σ H
section
variable{X:Cx}
theorem qaV3{pos:Pos}{b₀:Stmt}{suite:List Stmt}{rest:List ExceptHandler}{ts tr:γ->TS}{E3:List (γ×Obj)}{s:δ}{σ:St}{H:Hp}{D:Eb}{a:γ}{n:Nat}{b:Bool}(c:∀ a,PSs (Xh X a) (b₀::suite) (ts a))(d:PH X rest tr)(I:Ly X E3 σ H s)(F:Fly n H s.heap a)(O:Old X E3 n)(q:if b=true then ts a D σ H else tr a D σ H) :
   (match (Except.ok (if b then Flow.brk else Flow.next):Result) with
     | .ok .brk=>codeAny (model X.prog X.w) (X.A.mark (some (.ref a))) (.handlers (.ref a) [.ExceptHandler none none (b₀::suite) pos] X.env) (λ r s₂=>match r with
         | .ok f=>SP X E3 D f s₂
         | .error x=>cameBackBy (model X.prog X.w) X.A X.env X.xe x s₂) s
     | .ok _=>wpAny (model X.prog X.w) X.A (handleBy (.ref a) X.env rest) (SP X E3 D) X.xe s
     | .error x=>cameBackBy (model X.prog X.w) X.A X.env X.xe x s):=by
 cases b with
 | false =>
   simp only[Bool.false_eq_true,if_false] at q ⊢;exact d E3 s σ H D a n I F O q
 | true =>
   simp only[if_true] at q ⊢;refine codeAny_handlers_suite (qap1 I F O λ e I1 F1=>?_);refine K6 (c a E3 e σ H D I1.h q) (λ f i z=>?_) λ _ _ z=>z.elim
   cases f with
   | next=>obtain⟨σ',H',J,z⟩:=z;exact⟨σ',H',J.unh I.ok,z⟩
   | brk=>obtain⟨σ',H',J,z⟩:=z;exact⟨σ',H',J.unh I.ok,z⟩
   | cont=>obtain⟨σ',H',J,z⟩:=z;exact⟨σ',H',J.unh I.ok,z⟩
   | ret u=>obtain⟨v,σ',H',J,g,z⟩:=z;exact⟨v,σ',H',J.unh I.ok,g,z⟩
theorem qaR7{g e c:Str}{C1 C2 C3:γ}{i f d j pos:Pos}{y:Nat}{b₀:Stmt}{suite:List Stmt}{rest:List ExceptHandler}{ts tr:γ->TS}(k:X.mg g=some (.ref C1))(l:X.mg e=some (.ref C2))(m:X.mg c=some (.ref C3))(A:∀ a,PSs (Xh X a) (b₀::suite) (ts a))(B:PH X rest tr)(o:Gl X g:=by rfl)(p:N' g:=by decide)(r:Gl X e:=by rfl)(t:N' e:=by decide)(v:Gl X c:=by rfl)(x:N' c:=by decide)(h1:∀ a,Ko [.Name g i,.Name e f,.Name c d] (Xh X a).env=(false,eval (.Name g i) (Xh X a).env)::Ko [.Name e f,.Name c d] (Xh X a).env:=by intro _;rfl)(h2:∀ a,Ko [.Name e f,.Name c d] (Xh X a).env=(false,eval (.Name e f) (Xh X a).env)::Ko [.Name c d] (Xh X a).env:=by intro _;rfl)(E:∀ a,Ko [.Name c d] (Xh X a).env=(false,eval (.Name c d) (Xh X a).env)::Ko [] (Xh X a).env:=by intro _;rfl) :
   PH X (.ExceptHandler (some (.Tuple [.Name g i,.Name e f,.Name c d] y j)) none (b₀::suite) pos::rest) (tHdN (λ C=>W.exmAny X.K (.ref C) [.ref C1,.ref C2,.ref C3]) ts tr):=by
 intro E3 s σ H D a n I F O h;obtain⟨C,N,b,G,J,q⟩:=h;obtain⟨P,Q,L,M,_⟩:=Ji I.hok G;refine wpAny_handleBy_cons (codeAny_handlers_test (wpAny_Tuple_spliced ?_)) (by intro z;cases z);rw[show Ko [.Name g i,.Name e f,.Name c d] X.env=_ from h1 a];refine Calls.spliced_cons (qz2 (X:=Xh X a) I.h o k ?_ p);show wpAny _ _ (spliced (backTo j (Ko [.Name e f,.Name c d] X.env))) _ _ s;rw[show Ko [.Name e f,.Name c d] X.env=_ from h2 a];refine Calls.spliced_cons (qz2 (X:=Xh X a) I.h r l ?_ t);show wpAny _ _ (spliced (backTo j (Ko [.Name c d] X.env))) _ _ s;rw[show Ko [.Name c d] X.env=_ from E a];refine Calls.spliced_cons (qz2 (X:=Xh X a) I.h v m ?_ x);refine Calls.spliced_nil ⟨by show 3<=Kq;rw[Kx];decide,?_⟩;have I2:=I.kept (h':=s.heap.push { cls:=.type "tuple",data:=.seq [Value.ref C1,.ref C2,.ref C3].toArray }) (t':=s.toks) λ b u z=>zA2 _ z
 have LT:W.Looks (model X.prog X.w) (s.heap.push { cls:=.type "tuple",data:=.seq [Value.ref C1,.ref C2,.ref C3].toArray }) (typeOf (.ref a)) (.ref C):=by
   rw[<- M];exact(W.Looks.ld (zA2 _ L)).andThen .now
 exact(W.exm_tup3 I2.kIn LT (zAu _ rfl) J).here (qaV3 A B I2 F.push O q)
end
end L2
namespace LV
open PySem L2
section
variable{c:Vc}{X:Cx}{pos:Pos}{ts:VTS}{tr:VH}{b₀:Stmt}{suite:List Stmt}{rest:List ExceptHandler}{M:γ->Option Bool}
def hNo(M:γ->Option Bool)(ts:VTS)(tr:VH):VH:=λ x e ds=>∃ b,M x.C=some b/\if b=true then ts (G3 e) ds else tr x e ds
theorem hNo_m{X':Cx}{st:List Stmt}(f:VSs (cNo c) X' st ts)(g:VHs c X rest tr):∀ x (e a:VEnds) ds,e.Le a->hNo M ts tr x e ds->hNo M ts tr x a ds:=λ x e a ds d ⟨b,h,q⟩=>⟨b,h,qD2 (f.m (G3 e) (G3 a) _ ⟨λ _ z=>z,d.rt,λ _ z=>z,λ _ z=>z,λ _ _ z=>z⟩) (g.m x e a ds d) q⟩
theorem qaV4{f:TS}(g:f=Ez (cNo c) ts){a:γ}{D:Eb}{σ:St}{H:Hp}(q:Hy c (hNo M ts tr) a D σ H):tHdN M (λ _=>f) (Hy c tr) a D σ H:=by
 subst g;obtain⟨x,F,i,A,e,r,S,l,b,j,q⟩:=q;obtain⟨k,m,_⟩:=id r;refine⟨x.C,k,b,m,j,?_⟩;cases b with
 | false=>exact⟨x,F,i,A,e,r,S,l,q⟩
 | true=>exact⟨F,_,A,G3 e,⟨S.loc,S.ok,S.len,S.ag⟩,⟨λ _ _ _ _ _ z=>z.elim,λ d h v σ' H' F' T A2 q r S2 o s=>l.rt d h v σ' H' F' T A2 q r ⟨S2.loc,S2.ok,S2.len,S2.ag⟩ o s,λ _ _ _ _ _ z=>z.elim,λ _ _ _ _ _ z=>z.elim,λ _ _ _ _ _ _ _ z=>z.elim⟩,q⟩
theorem vhnT3{f d b:Str}{C1 C2 C3:γ}{i g e x:Pos}{y:Nat}(j:X.mg f=some (.ref C1))(k:X.mg d=some (.ref C2))(l:X.mg b=some (.ref C3))(v:∀ a,VSs (cNo c) (Xh X a) (b₀::suite) ts)(w:VHs c X rest tr)(m:Gl X f:=by rfl)(o:N' f:=by decide)(p:Gl X d:=by rfl)(r:N' d:=by decide)(t:Gl X b:=by rfl)(u:N' b:=by decide)(h1:∀ a,Ko [.Name f i,.Name d g,.Name b e] (Xh X a).env=(false,eval (.Name f i) (Xh X a).env)::Ko [.Name d g,.Name b e] (Xh X a).env:=by intro _;rfl)(h2:∀ a,Ko [.Name d g,.Name b e] (Xh X a).env=(false,eval (.Name d g) (Xh X a).env)::Ko [.Name b e] (Xh X a).env:=by intro _;rfl)(z:∀ a,Ko [.Name b e] (Xh X a).env=(false,eval (.Name b e) (Xh X a).env)::Ko [] (Xh X a).env:=by intro _;rfl) :
   VHs c X (.ExceptHandler (some (.Tuple [.Name f i,.Name d g,.Name b e] y x)) none (b₀::suite) pos::rest) (hNo (λ C=>W.exmAny X.K (.ref C) [.ref C1,.ref C2,.ref C3]) ts tr) :=
 ⟨λ E3 s σ H D a n I F O q=>qaR7 j k l (λ a=>(v a).h) w.h m o p r t u h1 h2 z E3 s σ H D a n I F O (qaV4 rfl q),hNo_m (v 0) w⟩
end
end LV
namespace LV.My
open PySem L2 Row _root_.My
variable{N i j l r:Nat}{Q:DK}{R:Ds->D->Prop}{b z':Bool}{d y:D}{ds ys:Ds}{e:VEnds}{f fa fb:FV}{fs:List (Str×D)}{g':Nat->Option Int}{m:Str}{ns:List Int}{qc:VTT}{s:VSp}{t u:VTS}{ta tb te:VT}{tr:VTB}{xe:XKd}{α:Type}
noncomputable def _root_.LV.D.whole:D->Bool
 | .int _=>true
 | _=>false
noncomputable def _root_.LV.D.within(l m:Int):D->Bool
 | .int i=>decide (l<=i)&&decide (i<=m)
 | _=>false
def _root_.LV.D.num:D->Bool:=D.within 0 1000000000000000000
noncomputable def fx3(g:D->D->D->Option D):Ds->Option D
 | [x,y,z]=>g x y z
 | _=>none
theorem qag1{g:D->Option D}(h:By (fx1 g) ds Q xe):ds.length=1:=by
 match ds,h with
 | [_],_=>rfl
theorem qaL8{g:D->D->D->Option D}(h:By (fx3 g) ds Q xe):ds.length=3:=by
 match ds,h with
 | [_,_,_],_=>rfl
theorem imm1{g:D->Option D}(h:By (fx1 g) ds Q xe):G9 (wOf [true]) 0 ds=true:=by
 match ds,h with
 | [_],_=>rfl
theorem imm3{g:D->D->D->Option D}(h:By (fx3 g) ds Q xe):G9 (wOf [true,true,true]) 0 ds=true:=by
 match ds,h with
 | [_,_,_],_=>rfl
theorem Kf{g:D->Option D}(h:By (fx1 g) ds Q xe):∃ x d,ds=[x]/\g x=some d/\Q d [x]:=by
 match ds,h with
 | [x],h=>obtain⟨d,e,q⟩:=qa7.mp h;exact⟨x,d,rfl,e,q⟩
theorem pure3{g:D->D->D->Option D}(h:By (fx3 g) ds Q xe):∃ x y z d,ds=[x,y,z]/\g x y z=some d/\Q d [x,y,z]:=by
 match ds,h with
 | [x,y,z],h=>obtain⟨d,e,q⟩:=qa7.mp h;exact⟨x,y,z,d,rfl,e,q⟩
theorem qq0{x:D}{t:String}(h:x.kind=some t):x.known=true:=by
 cases x<;>first | rfl | cases h
def Ay(P:Ds->D->Prop):VSp:=λ ds Q _=>∃ d,P ds d/\Q d ds
theorem qb2{P:Ds->D->Prop}:Bw (Ay P):=λ _ _ _ _ _ a _ ⟨d,p,q⟩=>⟨d,p,a _ _ q⟩
noncomputable def Lu(ps:Pr):Ds:=ps.map λ p=>.q [.int p.1,.int p.2]
noncomputable def kvD(ps:Pr):List (Key×D):=ps.map λ p=>(.inl p.1,.int p.2)
def Ac(z:Bool)(C:γ)(n:Int)(wr:Bool)(ps:Pr):D:=.ins z C [("rooms",.int n),("wraps",.bl wr),("homes",.l z (Lu ps)),("home_numbers",.dct z (kvD ps))]
noncomputable def Ek:Option Int->D
 | none=>.non
 | some k=>.int k
def Ls(n:Nat)(g:Nat->Option Int):Ds:=(List.range n).map λ i=>Ek (g i)
noncomputable def Lq(ks:List Int):Ds:=ks.map .int
theorem qK1:∀ ps:Pr,D.imms (Lu ps)=true
 | []=>rfl
 | p::r=>by show (D.imms [.int p.1,.int p.2]&&D.imms (Lu r))=true;rw[qK1 r];rfl
theorem qg8:∀ ks:List Int,D.imms (Lq ks)=true
 | []=>rfl
 | k::r=>by show (true&&D.imms (Lq r))=true;rw[qg8 r];rfl
theorem qah3{α:Type}{f:α->D}(h:∀ a,(f a).imm=true):∀ l:List α,D.imms (l.map f)=true
 | []=>rfl
 | a::r=>by show ((f a).imm&&D.imms (r.map f))=true;rw[h a,qah3 h r];rfl
theorem qaM6(o:Option Int):(Ek o).imm=true:=by cases o<;>rfl
theorem qK0(n:Nat)(g:Nat->Option Int):D.imms (Ls n g)=true:=qah3 (λ i=>qaM6 _) _
theorem qah0:∀ ks:List Int,intsD (Lq ks)=some ks
 | []=>rfl
 | k::r=>by show (intsD (Lq r)).map (λ is=>k::is)=some (k::r);rw[qah0 r];rfl
theorem qz6:∀ ks:List Int,flats (Lq ks)=some (ks.map V.int)
 | []=>rfl
 | k::r=>by show (Option.bind (some (V.int k)) λ v=>(flats (Lq r)).bind λ a=>some (v::a))=_;rw[qz6 r];rfl
theorem qe8(ks:List Int):(Lq ks).length=ks.length:=zAd _
theorem qz1(n:Nat)(g:Nat->Option Int):(Ls n g).length=n:=by simp[Ls]
theorem qK6{n:Nat}{g:Nat->Option Int}(h:i < n):(Ls n g)[i]? = some (Ek (g i)):=by
 unfold Ls;rw[zB6,List.getElem?_range h];rfl
theorem qac6{n:Nat}{g:Nat->Option Int}{o:Option Int}:(Ls n g).set i (Ek o)=Ls n (λ j=>if j=i then o else g j):=by
 apply List.ext_getElem?;intro j;by_cases a:j < n
 . rw[qK6 a]
   by_cases e:i=j
   . subst e
     rw[List.getElem?_set_self (by rw[qz1];exact a),if_pos rfl]
   rw[zBc e,qK6 a,if_neg (Ne.symm e)]
 rw[List.getElem?_eq_none (by rw[List.length_set,qz1];lia),List.getElem?_eq_none (by rw[qz1];lia)]
theorem qae4:∀ ps:Pr,qY9 (Lu ps)=some (kvD ps)
 | []=>rfl
 | p::r=>by
   show (Option.bind (some ((Sum.inl p.1:Key),D.int p.2)) λ q=>(qY9 (Lu r)).bind λ ps=>some (q::ps))=_;rw[qae4 r];rfl
theorem qam5{ps:Pr}{k m:Int}(h:¬ k∈ps.map (·.1)):Fp (kvD ps) (.inl k) (.int m)=kvD (ps++[(k,m)]):=by
 unfold Fp;rw[if_neg]
 . unfold kvD;rw[zBf];rfl
 intro e;obtain⟨q,a,e⟩:=List.any_eq_true.mp e;obtain⟨r,b,rfl⟩:=zB0.mp a;have e:(Sum.inl r.1:Key)=Sum.inl k:=zAc e;exact h (zB0.mpr ⟨r,b,Sum.inl.inj e⟩)
theorem qT3:∀(a ps:Pr),((ps++a).map (·.1)).Nodup->qt8 (kvD ps) (kvD a)=kvD (ps++a)
 | [],ps,_=>by rw[zAe];rfl
 | q::a,ps,h=>by
   show qt8 (Fp (kvD ps) (.inl q.1) (.int q.2)) (kvD a)=_;have b:¬ q.1∈ps.map (·.1):=by
     rw[zBf,zAw,zBd] at h;exact λ z=>h.2.2 _ z _ zAa rfl
   rw[qam5 b,qT3 a (ps++[(q.1,q.2)]) (by rw[zB8];exact h),zB8];rfl
theorem qan7{ps:Pr}(h:(ps.map (·.1)).Nodup):qt8 [] (kvD ps)=kvD ps:=qT3 ps [] h
theorem qav6{z:Bool}{ps:Pr}(h:(ps.map (·.1)).Nodup):Hq (.l z (Lu ps))=some (.dct false (kvD ps)):=by
 show (qY9 (Lu ps)).map (λ ps=>D.dct false (qt8 [] ps))=_;rw[qae4];show some (D.dct false (qt8 [] (kvD ps)))=_;rw[qan7 h]
theorem qar5(k:Int):∀ ps:Pr,En (kvD ps) (.inl k)=(ps.lookup k).map .int
 | []=>rfl
 | (p,m)::r=>by
   show En ((.inl p,.int m)::kvD r) _=_;by_cases e:p=k
   . subst e
     simp[En,zAt]
   have a:En ((.inl p,D.int m)::kvD r) (.inl k)=En (kvD r) (.inl k):=by simp[En,zBo,e]
   rw[a,qar5 k r]
   have:(k == p)=false:=by simpa using λ z=>e z.symm
   simp only[zAt,this]
theorem qa0{o:Option α}{a:α}{k:α->Prop}(e:o=some a)(h:k a):orF o k:=by rw[e];exact h
theorem Bn{p:Prop}[Decidable p]{a b:Prop}(h:p)(x:a):if p then a else b:=by rw[if_pos h];exact x
theorem Es{p:Prop}[Decidable p]{a b:Prop}(h:¬ p)(x:b):if p then a else b:=by rw[if_neg h];exact x
theorem ite_b{p:Bool}{a b:Prop}(h1:p=true->a)(h2:p=false->b):if p=true then a else b:=by cases p with | true=>exact h1 rfl | false=>exact h2 rfl
noncomputable def Hc:Option Int->D
 | some f=>.int f
 | none=>.non
theorem qar0{x:D}(b:rdN i ds=some x)(h:s [x] (λ d ys=>orF (As [.sl i] ys (ds.set i .u)) λ a=>Q d a) (λ e ys=>orF (As [.sl i] ys (ds.set i .u)) λ a=>xe e a)):qk6 s [] (tbN i Ax) ds Q xe :=
 ⟨by rw[b];rfl,by show orF (rdN i ds) _;rw[b];exact h⟩
theorem qF3{f:Ds->Option D}(e:f ds=some d)(q:Q d ds):By f ds Q xe:=qa0 e q
theorem qn9(e:R ds d)(q:Q d ds):Ay R ds Q xe:=⟨d,e,q⟩
theorem qc0{K:Ds->List Pl->Ds->Prop}{x:D}(a:rdN i ds=some x)(h:tr ds (λ xs ps ds1=>orF (rdN i ds1) λ d=>K (d::xs) (.sl i::ps) (ds1.set i .u)) xe):tbN i tr ds K xe:=⟨by rw[a];rfl,h⟩
theorem qf8{K:Ds->List Pl->Ds->Prop}(b:f ds=some y)(h:tr ds (λ xs ps a=>K (y::xs) (.no::ps) a) xe):tbV (Ed f) tr ds K xe:=qa0 (k:=λ y=>tr ds (λ xs ps a=>K (y::xs) (.no::ps) a) xe) b h
theorem rd0{r:Ds}(h:d.known=true):rdN 0 (d::r)=some d:=ql0.mpr ⟨rfl,h⟩
theorem qK9{β:Type}(f:α->β)(l:List α):l.filterMap (λ a=>some (f a))=l.map f:=by simp
section
variable{z:Bool}{C:γ}{n:Int}{wr:Bool}{ps:Pr}
theorem qD5{f:Str}(h:fs.lookup f=some d):D.fld C f (.ins z C fs)=some d:=by
 show (if C=C then fs.lookup f else none)=some d;rw[if_pos rfl,h]
theorem qe0:D.fld C "rooms" (Ac z C n wr ps)=some (.int n):=qD5 (by rfl)
theorem qv6:D.fld C "wraps" (Ac z C n wr ps)=some (.bl wr):=qD5 (by rfl)
theorem qaa5:D.fld C "home_numbers" (Ac z C n wr ps)=some (.dct z (kvD ps)):=qD5 (by rfl)
theorem qau7(h:fs.lookup m=none):(D.ins z C fs).isM C m=true:=by
 show (decide (C=C)&&(fs.lookup m).isNone)=true;rw[zAl rfl,h];rfl
theorem qf6(h:([("rooms",.int n),("wraps",.bl wr),("homes",.l z (Lu ps)),("home_numbers",.dct z (kvD ps))]:List (Str×D)).lookup m=none):(Ac z C n wr ps).isM C m=true:=qau7 h
theorem A4{g:D->Option D}{x:D}(h:fa ds=some x)(h':g x=some y):f1 g fa ds=some y:=qaD0.mpr ⟨x,h,h'⟩
theorem Ae{g:D->D->Option D}{x:D}(h:fa ds=some x)(h':fb ds=some y)(h2:g x y=some d):f2 g fa fb ds=some d:=qaC9.mpr ⟨x,y,h,h',h2⟩
theorem qj8:(D.ins false C fs).ownI C=some fs:=by
 show (if C=C then some fs else none)=some fs;rw[if_pos rfl]
end
theorem qy8{C:γ}{p:D}(b:rdN i ds=some p)(hm:p.isM C m=true)(h:tr ds (λ xs ps ds1=>orF (rdN i ds1) λ d=>s (d::(xs++[])) (λ r ys=>orF (As (.sl i::ps) ys (ds1.set i .u)) λ a=>Q r a) (λ x ys=>orF (As (.sl i::ps) ys (ds1.set i .u)) λ a=>xe x a)) xe):qA2 C m s [] i tr ds Q xe:=⟨qa0 b hm,h⟩
theorem qI6{f:Ds->Option D}{x:D}(a:rdN i ds=some x)(e:f [x]=some d)(b:As [.sl i] [x] (ds.set i .u)=some ds)(q:Q d ds):qk6 (By f) [] (tbN i Ax) ds Q xe:=qar0 a (qF3 e (qa0 b q))
theorem qJ8{x:D}(c:rdN i ds=some x)(b:rdN j ds=some y)(a:rdN i (ds.set j .u)=some x)(r:R [x,y] d)(e:As [.sl i,.sl j] [x,y] ((ds.set j .u).set i .u)=some ds)(q:Q d ds):qk6 (Ay R) [] (tbN i (tbN j Ax)) ds Q xe :=
 qc0 c (qc0 b (qa0 b (qa0 a (qn9 r (qa0 e q)))))
theorem Iu{x w:D}(e:rdN i ds=some x)(f:rdN j ds=some y)(c:rdN l ds=some w)(a:rdN j (ds.set l .u)=some y)(b:rdN i ((ds.set l .u).set j .u)=some x)(r:R [x,y,w] d)(g:As [.sl i,.sl j,.sl l] [x,y,w] (((ds.set l .u).set j .u).set i .u)=some ds)(q:Q d ds):qk6 (Ay R) [] (tbN i (tbN j (tbN l Ax))) ds Q xe :=
 qc0 e (qc0 f (qc0 c (qa0 c (qa0 a (qa0 b (qn9 r (qa0 g q)))))))
theorem qG0{C:γ}{p x:D}(c:rdN i ds=some p)(hm:p.isM C m=true)(b:rdN j ds=some x)(a:rdN i (ds.set j .u)=some p)(r:R [p,x] d)(e:As [.sl i,.sl j] [p,x] ((ds.set j .u).set i .u)=some ds)(q:Q d ds):qA2 C m (Ay R) [] i (tbN j Ax) ds Q xe :=
 qy8 c hm (qc0 b (qa0 b (qa0 a (qn9 r (qa0 e q)))))
theorem qan8{C:γ}{p x:D}(e:rdN i ds=some p)(hm:p.isM C m=true)(f:rdN j ds=some x)(c:rdN l ds=some y)(a:rdN j (ds.set l .u)=some x)(b:rdN i ((ds.set l .u).set j .u)=some p)(r:R [p,x,y] d)(g:As [.sl i,.sl j,.sl l] [p,x,y] (((ds.set l .u).set j .u).set i .u)=some ds)(q:Q d ds):qA2 C m (Ay R) [] i (tbN j (tbN l Ax)) ds Q xe :=
 qy8 e hm (qc0 f (qc0 c (qa0 c (qa0 a (qa0 b (qn9 r (qa0 g q)))))))
theorem Gd{t:VT}{n:VTS}(h:∀(Q:DK)(xe:XKd),Q (.bl true) ds->t ds Q xe)(h2:u e ds):Gk (sIf (F9 (ttE t)) n Gy) u e ds:=h _ _ h2
theorem if_e{t:VT}{v:VTS}(h:∀(Q:DK)(xe:XKd),Q (.bl b) ds->t ds Q xe)(h1:b=true->u e ds)(h2:b=false->v e ds):sIf (ttE t) u v e ds:=h _ _ (by
 show if b=true then u e ds else v e ds
 exact ite_b h1 h2)
theorem if_v{v:VTS}(h:f ds=some (.bl b))(h1:b=true->u e ds)(h2:b=false->v e ds):sIf (ttV f) u v e ds:=by
 show orF ((f ds).bind D.asB) _;rw[h];exact ite_b h1 h2
theorem Ge{u v:VT}(h:f ds=some (.bl b))(h1:b=true->u ds Q xe)(h2:b=false->v ds Q xe):tIfE (ttV f) u v ds Q xe:=by
 show orF ((f ds).bind D.asB) _;rw[h];exact ite_b h1 h2
theorem qn7(e:f ds=some d)(q:Q d ds):Ed f ds Q xe:=qa0 e q
theorem qi7{w:VTS}(b:Bool)(h:f ds=some (.bl b))(h1:b=true->u { e with nx:=w e } ds)(h2:b=false->w e ds):Gk (sIf (ttV f) u Gy) w e ds:=if_v (u:=u) (v:=Gy) h h1 h2
theorem qj6{t:VT}(h:t ds e.rt e.xe):sRet t e ds:=h
theorem qd2(d:D)(h:f ds=some d)(q:e.rt d ds):sRet (Ed f) e ds:=qa0 h q
theorem At(a:Ds)(h:ds=a)(q:t e a):t e ds:=h ▸ q
theorem qQ2{z:Bool}(h:rdN i ds=some (.l z ys)):Bb (fx2 gIsi) (Ba (rdN i) (Ba (kC (D.ty "list")) λ _=>some [])) ds=some (.bl true):=by
 unfold Bb Ba;rw[h];rfl
theorem qt0{z:Bool}(h:rdN i ds=some (.l z ys)):Bb (fx1 Gu) (Ba (rdN i) λ _=>some []) ds=some (.int (ys.length:Nat)):=by
 unfold Bb Ba;rw[h];rfl
theorem qg1{Q:Bool->Ds->Prop}(h:f ds=some (.bl b))(q:Q b ds):ttV f ds Q xe:=by
 show orF ((f ds).bind D.asB) _;rw[h];exact q
theorem qh2{Q:Bool->Ds->Prop}(h:f ds=some (.bl b))(q:Q (!b) ds):F9 (ttV f) ds Q xe:=qg1 (Q:=λ b ds=>Q (!b) ds) h q
theorem qC1{t u:VTT}{Q:Bool->Ds->Prop}(b c:Bool)(h1:∀ Q:Bool->Ds->Prop,Q b ds->t ds Q xe)(h2:b=false->∀ Q:Bool->Ds->Prop,Q c ds->u ds Q xe)(q:Q (b||c) ds):ttOr t u ds Q xe:=h1 _ (by
 cases b with
 | false=>exact h2 rfl _ q
 | true=>exact q)
theorem qk5{t u:VTT}{Q:Bool->Ds->Prop}(b c:Bool)(h1:∀ Q:Bool->Ds->Prop,Q b ds->t ds Q xe)(h2:b=true->∀ Q:Bool->Ds->Prop,Q c ds->u ds Q xe)(q:Q (b&&c) ds):Jt t u ds Q xe:=h1 _ (by
 cases b with
 | false=>exact q
 | true=>exact h2 rfl _ q)
theorem Kg(b:Bool)(h:∀ Q:Bool->Ds->Prop,Q b ds->qc ds Q e.xe)(h1:b=true->t e ds)(h2:b=false->u e ds):sIf qc t u e ds:=h _ (ite_b h1 h2)
theorem qh4{w:VTS}(b:Bool)(h:∀ Q:Bool->Ds->Prop,Q b ds->qc ds Q e.xe)(h1:b=true->t { e with nx:=w e } ds)(h2:b=false->w e ds):Gk (sIf qc t Gy) w e ds:=h _ (ite_b h1 h2)
theorem qah7{t:VT}{n:VTS}(h:∀(Q:DK)(xe:XKd),Q (.bl true) ds->t ds Q xe)(h2:e.nx ds):sIf (F9 (ttE t)) n Gy e ds:=h _ _ h2
theorem qaM8{n:VTS}(h:f ds=some (.bl true))(h2:u e ds):Gk (sIf (F9 (ttV f)) n Gy) u e ds:=qh2 (Q:=λ k a=>if k=true then n { e with nx:=u e } a else u e a) (xe:=e.xe) h h2
theorem qaC0{z:Bool}{C:γ}{n:Int}{wr:Bool}{ps:Pr}:gIsO C (Ac z C n wr ps) (.adr C)=some (.bl true):=by
 show (if C=C then (Ac z C n wr ps).isC C else none)=_;rw[if_pos rfl];show (if C=C then some (D.bl true) else none)=_;rw[if_pos rfl]
theorem qg9{g:VTG}{t:VTS}{e:VEnds}(I:Nat->Ds->Prop):∀(xs:List D)(i:Nat)(ds:Ds),I i ds->(∀(j:Nat)(x:D),xs[j]? = some x->∀ ds,I (i+j) ds->∀ K:Ds->Prop,(∀ a,I (i+j+1) a->K a)->g x ds λ ds1=>t { e with nx:=K,ct:=K,bk:=e.nx } ds1)->(∀ a,I (i+xs.length) a->e.nx a)->Eh g t e xs ds
 | [],_,ds,h,_,hn=>hn ds h
 | x::xs,i,ds,h,hs,hn=>hs 0 x rfl ds h _ λ a f=>qg9 I xs (i+1) a f (λ j y k b c K l=>hs (j+1) y k b (by rw[show i+(j+1)=i+1+j by lia];exact c) K λ d m=>l d (by rw[show i+1+j+1=i+(j+1)+1 by lia];exact m)) λ b c=>hn b (by rw[zAi,show i+(xs.length+1)=i+1+xs.length by lia];exact c)
theorem qQ6{g:VTG}{n:Int}(h:f ds=some (.int n))(a:G0 n=true)(k:Eh g t e (Ei 0 n.toNat) ds):Kc (Iq (tbV (Ee f) Ax)) g t e ds:=by
 show orF (f ds) _;rw[h];exact⟨rfl,a,k⟩
theorem Iv{n:Int}(a:0<=n)(h1:n<=1000):G0 n=true:=by
 unfold G0;rw[zAl (by lia),zAl (by lia)];rfl
theorem qY6{m:Nat}{x:D}(h:(Ei 0 m)[j]? = some x):j < m/\x=.int (j:Int):=by
 by_cases a:j < m
 . rw[qas5 a] at h
   cases h;exact⟨a,by rw[Int.zero_add]⟩
 rw[List.getElem?_eq_none (by unfold Ei;rw[zAd,zB7];lia)] at h;cases h
def Fd(p:Int->Bool)(y:D):Option D:=y.asI.bind λ k=>if p k=true then some (.int k) else none
theorem qT9{p:Int->Bool}{k:Int}(h:p k=true):Fd p (.int k)=some (.int k):=if_pos h
theorem qU0{p:Int->Bool}{k:Int}(h:p k=false):Fd p (.int k)=none:=if_neg (by rw[h];decide)
theorem qz3(p:Int->Bool):∀ ks:List Int,(Lq ks).filterMap (Fd p)=Lq (ks.filter p)
 | []=>rfl
 | k::ks=>by
   show List.filterMap (Fd p) (D.int k::Lq ks)=_;rw[zC0];cases h:p k with
   | true=>rw[qT9 h,List.filter_cons_of_pos h];show D.int k::(Lq ks).filterMap (Fd p)=_;rw[qz3 p ks];rfl
   | false=>rw[qU0 h,List.filter_cons_of_neg (by rw[h];decide),qz3 p ks]
theorem qaV9{a:Bool}(h1:fa ds=some (.bl a))(h2:fb ds=some (.bl b)):fOr fa fb ds=some (.bl (a||b)):=by
 unfold fOr;rw[h1,h2];cases a<;>rfl
theorem qai4{a:Bool}(h1:fa ds=some (.bl a))(h2:fb ds=some (.bl b)):fAnd fa fb ds=some (.bl (a&&b)):=by
 unfold fAnd;rw[h1,h2];cases a<;>rfl
theorem qb1(ds1:Ds)(h1:∀ K:Ds->Prop,K ds1->t { e with nx:=K } ds)(h2:u e ds1):Gk t u e ds:=h1 (u e) h2
theorem qc1(R:Ds->Prop)(h1:∀ K:Ds->Prop,(∀ ds1,R ds1->K ds1)->t { e with nx:=K } ds)(h2:∀ ds1,R ds1->u e ds1):Gk t u e ds:=h1 (u e) h2
theorem qM3(I:Nat->Ds->Prop)(n:Nat)(h:I n ds)(c:∀ n ds,I n ds->∀ K:Ds->Prop,(∀ m a,m < n->I m a->K a)->qc ds (λ b ds1=>if b=true then t { e with nx:=K,ct:=K,bk:=e.nx } ds1 else e.nx ds1) e.xe):qaG7 qc t e ds:=by
 have d:∀ N n ds,n < N->I n ds->whN qc t e N ds:=by
   intro N
   induction N with
   | zero=>intro n ds h;exact absurd h (Nat.not_lt_zero _)
   | succ N f=>intro n ds i h;exact c n ds h _ λ m a j g=>f m a (by lia) g
 exact⟨n+1,d (n+1) n ds (zC3 n) h⟩
theorem qaE4{x:D}(f:rdN i ds=some x)(c:rdN j ds=some y)(b:rdN i (ds.set j .u)=some x)(h:s [x,y] (λ d ys=>orF (As [.sl i,.sl j] ys ((ds.set j .u).set i .u)) λ a=>Q d a) (λ e ys=>orF (As [.sl i,.sl j] ys ((ds.set j .u).set i .u)) λ a=>xe e a)):qk6 s [] (tbN i (tbN j Ax)) ds Q xe :=
 qc0 f (qc0 c (qa0 c (qa0 b h)))
theorem Ki{x w:D}(g:rdN i ds=some x)(k:rdN j ds=some y)(f:rdN l ds=some w)(b:rdN j (ds.set l .u)=some y)(c:rdN i ((ds.set l .u).set j .u)=some x)(h:s [x,y,w] (λ d ys=>orF (As [.sl i,.sl j,.sl l] ys (((ds.set l .u).set j .u).set i .u)) λ a=>Q d a) (λ e ys=>orF (As [.sl i,.sl j,.sl l] ys (((ds.set l .u).set j .u).set i .u)) λ a=>xe e a)):qk6 s [] (tbN i (tbN j (tbN l Ax))) ds Q xe :=
 qc0 g (qc0 k (qc0 f (qa0 f (qa0 b (qa0 c h)))))
theorem qaT7{C:γ}{k:Nat}{p x w:D}(f:rdN i ds=some p)(hm:p.isM C m=true)(g:rdN j ds=some x)(h:rdN l ds=some y)(e:rdN k ds=some w)(a:rdN l (ds.set k .u)=some y)(b:rdN j ((ds.set k .u).set l .u)=some x)(c:rdN i (((ds.set k .u).set l .u).set j .u)=some p)(r:R [p,x,y,w] d)(n:As [.sl i,.sl j,.sl l,.sl k] [p,x,y,w] ((((ds.set k .u).set l .u).set j .u).set i .u)=some ds)(q:Q d ds):qA2 C m (Ay R) [] i (tbN j (tbN l (tbN k Ax))) ds Q xe :=
 qy8 f hm (qc0 g (qc0 h (qc0 e (qa0 e (qa0 a (qa0 b (qa0 c (qn9 r (qa0 n q)))))))))
theorem qax3(h:ds[j]? = some d):ds.set j d=ds:=by
 obtain⟨a,e⟩:=zA5.mp h;rw[<- e];exact List.set_getElem_self a
theorem qh1(h:ds[i]? = some d)(a:d.known=true):rdN i ds=some d:=ql0.mpr ⟨h,a⟩
def L7(ns:List Int)(b:D):Prop:=∃ x y z,b=bagD x y z ns/\Bg x y z ns
theorem L7.known{b:D}(h:L7 ns b):b.known=true:=by obtain⟨x,y,z,rfl,_⟩:=h;rfl
def qN7:VSp:=λ ds Q _=>∃ b m ns,ds=[b,.int m]/\L7 ns b/\0 < m/\m < 2 ^ 200/\∀ v a,0<=v->v < m->L7 ns a->Q (.int v) [a,.int m]
theorem qc8{b:D}{m:Int}(d:ds[i]? = some b)(B:L7 ns b)(e:f ds=some (.int m))(g:0 < m)(h1:m < 2 ^ 200)(q:∀ v a,0<=v->v < m->L7 ns a->Q (.int v) (ds.set i a)):qk6 qN7 [] (tbN i (tbV (Ed f) Ax)) ds Q xe:=by
 have c:=qh1 d B.known;refine qc0 c (qf8 e (qa0 c ⟨b,m,ns,rfl,B,g,h1,λ v a h j B'=>?_⟩));show Q (.int v) ((ds.set i .u).set i a);rw[List.set_set];exact q v a h j B'
theorem qv8{b:D}{m:Int}(f:ds[i]? = some b)(B:L7 ns b)(c:ds[j]? = some (.int m))(d:i≠j)(g:0 < m)(h1:m < 2 ^ 200)(q:∀ v a,0<=v->v < m->L7 ns a->Q (.int v) (ds.set i a)):qk6 qN7 [] (tbN i (tbN j Ax)) ds Q xe:=by
 have h:=qh1 f B.known;have k:rdN j ds=some (.int m):=qh1 c rfl;have o:j < ds.length:=(zA5.mp c).1;refine qaE4 h k (qh1 (by rw[zBc (Ne.symm d)];exact f) B.known) ⟨b,m,ns,rfl,B,g,h1,λ v a l n B'=>?_⟩;show Q (.int v) ((((ds.set j .u).set i .u).set i a).set j (.int m));have e:(((ds.set j .u).set i .u).set i a).set j (.int m)=ds.set i a:=by
   rw[List.set_set,List.set_comm _ _ (Ne.symm d),List.set_set];exact qax3 (by rw[zBc d];exact c)
 rw[e];exact q v a l n B'
theorem Iw{i j:Int}(h:small j=true):Ik (.int i) (.int j)=some (.int (i * j)):=ql4 (by rw[h,Bool.or_true])
theorem mulL{i j:Int}(h:small i=true):Ik (.int i) (.int j)=some (.int (i * j)):=ql4 (by rw[h,Bool.true_or])
theorem qap9{i j:Int}(h:0 < j)(h1:j < 2 ^ 200):gDiv (.int i) (.int j)=some (.int (i / j)):=ql4 (by show (decide (0 < j)&&decide (j < 2 ^ 200))=true;rw[zAl h,zAl h1];rfl)
theorem E8{x n:Int}(h:0 < n):Il (.int x) (.int n)=some (.int (x % n)):=ql4 (zAl h)
theorem qN8{i:Int}(h:-(2 ^ 64) < i)(h':i < 2 ^ 64):small i=true:=by unfold small;rw[zAl h,zAl h'];rfl
theorem Fw{z:Bool}{g:Nat->Option Int}(h:r < N):gIx (.l z (Ls N g)) (.int (r:Int))=some (Ek (g r)):=qL7 (qK6 h)
theorem Ix{g:Nat->Option Int}(h:r < N):ixN (Ls N g).length (r:Int)=some r:=by
 rw[qz1];unfold ixN;simp[h]
theorem qE5{n:Nat}{g:Nat->Option Int}{c:Int}:(Ls n g).set i (.int c)=Ls n (Row.set g i c):=qac6 (o:=some c)
theorem qaA5(N:Nat):(List.replicate N [D.non]).flatten=Ls N (λ _=>none):=by
 unfold Ls
 induction N with
 | zero=>rfl
 | succ N a=>rw[List.replicate_succ',List.flatten_append,a,List.range_succ,zBf];rfl
theorem qaf5{n:Int}(a:0<=n)(h1:n<=64):Ik (.l false [.non]) (.int n)=some (.l false (Ls n.toNat λ _=>none)):=by
 show gd _ _=_;rw[<- qaA5];exact ql4 ⟨rfl,by show 1 * n.toNat<=1000000;lia,by lia,by lia⟩
theorem qp0{g:Nat->Option Int}(h:∀ i,i < N->g i=g' i):Ls N g=Ls N g':=by
 unfold Ls;apply List.map_congr_left;intro i a;rw[h i (zAo.mp a)]
theorem qao9{g:VTG}{n:Int}(h:f ds=some (.int n))(a:G0 n=true)(k:Eh g t e (Ei 0 n.toNat) ds):Kc (Iq (tbV (Ed f) Ax)) g t e ds:=by
 show orF (f ds) _;rw[h];exact⟨a,k⟩
theorem qap0{g:VTG}{n:Int}(h:rdN i ds=some (.int n))(a:G0 n=true)(k:Eh g t e (Ei 0 n.toNat) (ds.set i .u)):Kc (Iq (tbN i Ax)) g t e ds:=by
 refine⟨by rw[h];rfl,?_⟩;exact qa0 h ⟨a,k⟩
theorem qP6{k:Int}{z:Bool}{ks:List Int}:Jp true (.int k) (.l z (Lq ks))=some (.bl (!decide (k∈ks))):=by
 show ((flats (Lq ks)).bind λ a=>some (D.bl (if true=true then !inV (.int k) a else inV (.int k) a)))=_;rw[qz6];show some (D.bl (!inV (.int k) (ks.map V.int)))=_;rw[qah2]
theorem qaM2{k:Int}{z:Bool}{ks:List Int}:Jp false (.int k) (.l z (Lq ks))=some (.bl (decide (k∈ks))):=by
 show ((flats (Lq ks)).bind λ a=>some (D.bl (if false=true then !inV (.int k) a else inV (.int k) a)))=_;rw[qz6];show some (D.bl (inV (.int k) (ks.map V.int)))=_;rw[qah2]
theorem qT7(lo:Int)(n:Nat):(Ei lo n).length=n:=by unfold Ei;rw[zAd,zB7]
theorem qz5(e:f ds=some d)(hi:d.imm=true)(q:Q d ds):Ee f ds Q xe:=qa0 (a:=d) (k:=λ(d:D)=>d.imm=true/\Q d ds) e ⟨hi,q⟩
theorem qS4(h:f ds=some d)(hi:d.imm=true)(q:e.nx (ds.set i d)):E7 (Ee f) (gNm i) e ds:=qz5 (Q:=λ d a=>gNm i d a e.nx) h hi q
theorem qw3(h:f ds=some d)(q:e.nx (ds.set i d)):E7 (Ed f) (gNm i) e ds:=qn7 (Q:=λ d a=>gNm i d a e.nx) h q
theorem qau9{k:Int}{n:Nat}{K:Ds->Prop}(hi:ds[i]? = some (.l false ys))(b:fb ds=some (.int k))(c:ixN ys.length k=some n)(q:K (ds.set i (.l false (ys.set n d)))):Gc (λ _=>some (i,[])) fb d ds K:=by
 refine qa0 (a:=(i,([]:List Nat))) rfl ?_;refine qa0 (a:=ys) (by show (A7 ds i []).bind D.own=_;rw[qG5 hi];rfl) ?_;refine qa0 (a:=k) (by rw[b];rfl) ?_;refine qa0 c ?_;show K (Be ds i [] (.l false (ys.set n d)));rw[qE4 hi];exact q
theorem qH7{k:Int}{n:Nat}(b:f ds=some d)(c:d.imm=true)(hi:ds[i]? = some (.l false ys))(g:fb ds=some (.int k))(h:ixN ys.length k=some n)(q:e.nx (ds.set i (.l false (ys.set n d)))):E7 (Ee f) (Gc (λ _=>some (i,[])) fb) e ds :=
 qz5 (Q:=λ d a=>Gc (λ _=>some (i,[])) fb d a e.nx) b c (qau9 hi g h q)
theorem qS1{k:Int}{n:Nat}(b:f ds=some d)(hi:ds[i]? = some (.l false ys))(c:fb ds=some (.int k))(g:ixN ys.length k=some n)(q:e.nx (ds.set i (.l false (ys.set n d)))):E7 (Ed f) (Gc (λ _=>some (i,[])) fb) e ds :=
 qn7 (Q:=λ d a=>Gc (λ _=>some (i,[])) fb d a e.nx) b (qau9 hi c g q)
theorem qd9{K:Ds->List Pl->Ds->Prop}(c:f ds=some y)(hi:y.imm=true)(h:tr ds (λ xs ps a=>K (y::xs) (.no::ps) a) xe):tbV (Ee f) tr ds K xe:=qz5 (Q:=λ y b=>tr b (λ xs ps a=>K (y::xs) (.no::ps) a) xe) c hi h
theorem qD8(hi:ds[i]? = some (.l false ys))(b:f ds=some d)(c:ys.length < big)(q:Q .non (ds.set i (.l false (ys++[d])))):Eg Gz i (tbV (Ed f) Ax) ds Q xe:=by
 have e:(rdN i ds).bind D.own=some ys:=by rw[qh1 hi rfl];rfl
 refine⟨by rw[e];rfl,qf8 b ?_⟩;refine qa0 (k:=λ ys=>orF (Gz ys [d]) λ z=>Q z.2 (ds.set i (.l false z.1))) e ?_;exact qa0 (a:=(ys++[d],D.non)) (if_pos c) q
theorem qaE7(hi:ds[i]? = some (.l false ys))(b:ds[j]? = some d)(c:d.known=true)(f:i≠j)(g:ys.length < big)(q:Q .non ((ds.set j .u).set i (.l false (ys++[d])))):Eg Gz i (tbN j Ax) ds Q xe:=by
 have e:(rdN i ds).bind D.own=some ys:=by rw[qh1 hi rfl];rfl
 have e2:(rdN i (ds.set j .u)).bind D.own=some ys:=by rw[qh1 (d:=.l false ys) (by rw[zBc (Ne.symm f)];exact hi) rfl];rfl
 refine⟨by rw[e];rfl,qc0 (qh1 b c) ?_⟩;refine qa0 (k:=λ d=>orF ((rdN i (ds.set j .u)).bind D.own) λ ys=>orF (Gz ys [d]) λ z=>Q z.2 ((ds.set j .u).set i (.l false z.1))) (qh1 b c) ?_;refine qa0 (k:=λ ys=>orF (Gz ys [d]) λ z=>Q z.2 ((ds.set j .u).set i (.l false z.1))) e2 ?_;exact qa0 (a:=(ys++[d],D.non)) (if_pos g) q
theorem qaf4{g:Ds->Ds->Option (Ds×D)}{pf:PF}{p:List Nat}{d0:D}(h1:pf ds=some (i,p))(h2:(A7 ds i p).bind D.own=some ys)(a:ds[i]? = some d0)(h:tr (ds.set i .u) (λ xs _ ds1=>orF (g ys xs) λ z=>Q z.2 (Be (ds1.set i d0) i p (.l false z.1))) xe):Fb g pf tr ds Q xe:=by
 unfold Fb;rw[h1];show orF ((A7 ds i p).bind D.own) _;rw[h2];show orF ds[i]? _;rw[a];exact h
theorem qaX3{f:Int->Int->Int}{b:FV}{k x y:Int}(hi:ds[i]? = some (.l false ys))(c:fb ds=some (.int k))(d:0<=k)(g:ys[k.toNat]? = some (.int x))(h:b ds=some (.int y))(q:e.nx (ds.set i (.l false (ys.set k.toNat (.int (f x y)))))):sAugV f (λ _=>some (i,[])) fb b e ds:=by
 refine qa0 (a:=(i,([]:List Nat))) rfl ?_;refine qa0 (a:=ys) (by show (A7 ds i []).bind D.own=_;rw[qG5 hi];rfl) ?_;refine qa0 (a:=k) (by rw[c];rfl) ⟨d,?_⟩;refine qa0 (a:=x) (by rw[g];rfl) ?_;refine qa0 (a:=y) (by rw[h];rfl) ?_;show e.nx (Be ds i [] _);rw[qE4 hi];exact q
theorem Fe(b:Bool)(h:fa ds=some (.bl b))(h1:b=true->tb ds Q xe)(h2:b=false->Q (.bl false) ds):Hr (Ed fa) tb ds Q xe :=
 qn7 (xe:=xe) (Q:=λ x ds=>orF x.asB λ k=>if k=true then tb ds Q xe else Q (.bl false) ds) h (ite_b h1 h2)
theorem qq2{K:Ds->Prop}(h:K (ds.set i d)):gNm i d ds K:=h
theorem qc7{K:Ds->List Pl->Ds->Prop}(h:K [] [] ds):Ax ds K xe:=h
theorem qh5(h:te ds (λ _ a=>e.nx a) e.xe):sExpr te e ds:=h
theorem qG4{x:D}{K:Ds->Prop}(h:K ((ds.set i x).set j y)):gTupV 2 (qaC6 (gNm i) (qaC6 (gNm j) gNilV)) (.q [x,y]) ds K:=⟨rfl,h⟩
theorem qX0{Q:Bool->Ds->Prop}(h:Q true ds):qYes ds Q xe:=h
theorem qD1{S:List Int}{k:Int}:Lq S++[.int k]=Lq (S++[k]):=by unfold Lq;rw[zBf];rfl
theorem qaF7{a:VTB}{K:Ds->List Pl->Ds->Prop}(h:tr ds (λ xs _ ds1=>xs.length<=big/\a ds1 (λ ys c b=>K (.q xs::ys) (.no::c) b) xe) xe):tbV (Jz tr) a ds K xe:=h
theorem qj0{K:Ds->List Pl->Ds->Prop}(h:ta ds (λ x ds1=>tr ds1 (λ xs ps a=>K (x::xs) (.no::ps) a) xe) xe):tbV ta tr ds K xe:=h
theorem qaF8{x:D}(a:fa ds=some x)(b:fb ds=some y)(c:x.imm=true)(d:y.imm=true):Bb gTup (Ba fa (Ba fb λ _=>some [])) ds=some (.q [x,y]):=by
 unfold Bb Ba;rw[a,b];show gd (D.imms [x,y]=true/\[x,y].length<=big) (.q [x,y])=_;refine ql4 ⟨?_,by show 2<=1000000;decide⟩;show (x.imm&&(y.imm&&true))=true;rw[c,d];rfl
theorem qG9:Et ys none (some (r:Int))=ys.take r:=by
 unfold Et;have a:HT.sIx ys.length ys.length (some ((r:Nat):Int))=min r ys.length:=HT.qas1 _ _ r;rw[a,HT.qad2,List.drop_zero,Nat.sub_zero];by_cases h:r<=ys.length
 . rw[Nat.min_eq_left h]
 rw[Nat.min_eq_right (by lia),List.take_length,zBr (by lia)]
theorem qaW1(h:y∈enD ys):∃ i v,y=.q [.int (i:Nat),v]/\ys[i]? = some v:=by
 obtain⟨⟨v,i⟩,a,rfl⟩:=zB0.mp h;exact⟨i,v,rfl,List.mem_zipIdx_iff_getElem?.mp a⟩
theorem qam4{g:Nat->Option Int}(h:d∈Ls N g):d=.non∨∃ k,d=.int k:=by
 unfold Ls at h;obtain⟨i,_,rfl⟩:=zB0.mp h;cases g i with
 | none=>exact .inl rfl
 | some k=>exact .inr ⟨k,rfl⟩
theorem qY7{g:D->D->Option D}{Q:Bool->Ds->Prop}(h:ta ds (λ x ds1=>orF ((fb ds1).bind (g x)) λ d=>orF d.asB λ b=>Q b ds1) xe):ttE (t2v g ta fb) ds Q xe:=h
theorem qi9(h:tr ds (λ xs ps ds1=>s (xs++[]) (λ d ys=>orF (As ps ys ds1) λ a=>Q d a) (λ x ys=>orF (As ps ys ds1) λ a=>xe x a)) xe):qk6 s [] tr ds Q xe:=h
theorem Kj:∀(l:Ds),(∀ d∈l,d=.non∨∃ k,d=.int k)->E6 (eqN 20) l l=some true
 | [],_=>rfl
 | d::l,h=>by
   have c:eqN 20 d d=some true:=by
     rcases h d zAa with rfl | ⟨k,rfl⟩
     . rfl
     show some (k == k)=_;rw[zB3]
   show ((eqN 20 d d).bind λ a=>(E6 (eqN 20) l l).bind λ b=>some (a&&b))=_;rw[c,Kj l λ x e=>h x (zA4 _ e)];rfl
theorem qaV6{z:Bool}{g:Nat->Option Int}(h:∀ i,i < N->g i=g' i):gEq (.l z (Ls N g)) (.l z' (Ls N g'))=some (.bl true):=by
 rw[qp0 h];show (E6 (eqN 20) (Ls N g') (Ls N g')).map D.bl=_;rw[Kj _ λ _=>qam4];rfl
theorem qH6{g:D->D->Option D}{x:D}(c:fa ds=some x)(h:tb ds (λ y a=>orF (g x y) λ d=>Q d a) xe):t2 g (Ed fa) tb ds Q xe:=qn7 (xe:=xe) (Q:=λ x b=>tb b (λ y a=>orF (g x y) λ d=>Q d a) xe) c h
theorem qA3{g:D->D->Option D}(h:ta ds (λ x ds1=>orF ((fb ds1).bind (g x)) λ d=>Q d ds1) xe):t2v g ta fb ds Q xe:=h
theorem qar7{g:D->D->Option D}(h:ta ds (λ x ds1=>orF (fb ds1) λ y=>y.imm=true/\orF (g x y) λ d=>Q d ds1) xe):Jn g ta fb ds Q xe:=h
theorem qP8(h:tr ds (λ xs _ ds1=>xs.length<=big/\Q (.l false xs) ds1) xe):tLstV tr ds Q xe:=h
theorem qd8(h:te ds (λ d a=>e.nx (a.set i d)) e.xe):E7 te (gNm i) e ds:=h
theorem qaE8(h:ta ds (λ x ds1=>orF x.asB λ k=>if k=true then tb ds1 Q xe else Q (.bl false) ds1) xe):Hr ta tb ds Q xe:=h
theorem qau3{C:γ}(h:tr ds (λ xs ps ds1=>s (.ins false C []::(xs++[])) (λ d ys=>d.isN=some true/\orF ys.head? λ self=>orF (As ps ys.tail ds1) λ a=>Q self a) (λ x ys=>orF (As ps ys.tail ds1) λ a=>xe x a)) xe):qX1 C s [] tr ds Q xe:=h
theorem fz_to(h:te ds (λ d ds1=>Q d.fz ds1) xe):tFzV te ds Q xe:=h
def okN:Nat->D->Bool
 | n+1,.l _ xs=>xs.all (okN n)
 | n+1,.q xs=>xs.all (okN n)
 | _,x=>x.d0||x.flat.isSome
theorem qq5{f:D->D->Option Bool}:∀{xs:List D},(∀ x∈xs,f x x=some true)->E6 f xs xs=some true
 | [],_=>rfl
 | x::xs,h=>by
   show ((f x x).bind λ a=>(E6 f xs xs).bind λ b=>some (a&&b))=_;rw[h x zAa,qq5 λ y c=>h y (zA4 _ c)];rfl
theorem qQ7{x:D}(h:(x.d0||x.flat.isSome)=true):eqZ x x=some true:=by
 unfold eqZ;split
 . rfl
 rename_i hn
 have a:x.d0=false:=by
   cases e:x.d0 with
   | false=>rfl
   | true=>rw[e] at hn;exact absurd rfl hn
 rw[a,Bool.false_or] at h;cases x with
 | non=>rfl
 | bl b=>show some (eqV (.bl b) (.bl b))=_;rw[qz7 rfl]
 | int i=>show some (eqV (.int i) (.int i))=_;rw[qz7 rfl]
 | str i=>show some (eqV (.str i) (.str i))=_;rw[qz7 rfl]
 | _=>cases h
theorem qG8:∀{n:Nat}{x:D},okN n x=true->eqN n x x=some true
 | 0,x,h=>by
   rw[qQ8];refine qQ7 ?_;cases x<;>exact h
 | n+1,x,h=>by
   cases x with
   | l z b=>exact qq5 λ y a=>qG8 (zB1.mp h y a)
   | q b=>exact qq5 λ y a=>qG8 (zB1.mp h y a)
   | _=>exact qQ7 h
theorem qQ4{x:D}(h:okN 21 x=true):gNe x x=some (.bl false):=by
 have e:eqT x x=some true:=by
   cases x with
   | l z b=>exact qq5 λ y a=>qG8 (zB1.mp h y a)
   | q b=>exact qq5 λ y a=>qG8 (zB1.mp h y a)
   | _=>exact qQ7 h
 unfold gNe;rw[e];rfl
theorem qaB6{ks:List Int}(h:(Lq ks)[i]? = some y):∃ z,ks[i]? = some z/\y=.int z:=by
 unfold Lq at h;rw[zB6] at h;cases e:ks[i]? with
 | none=>rw[e] at h;cases h
 | some z=>rw[e] at h;exact⟨z,rfl,(Option.some.inj h).symm⟩
theorem qv7{ks:List Int}{k:Int}(h:ks[i]? = some k):ks.take (i+1)=ks.take i++[k]:=by rw[List.take_add_one,h];rfl
theorem qP7{ks:List Int}(b:ks.Nodup){k:Int}(h:ks[i]? = some k):¬ k∈ks.take i:=λ z=>by
 obtain⟨j,a⟩:=List.getElem?_of_mem z;rw[List.getElem?_take] at a;split at a
 . rename_i hlt
   obtain⟨d,c⟩:=zA5.mp h;obtain⟨e,e2⟩:=zA5.mp a
   have:=(List.getElem_inj b).mp (e2.trans c.symm)
   lia
 cases a
theorem qai2:∀ ps:Pr,D.fzs (Lu ps)=Lu ps
 | []=>rfl
 | p::r=>congrArg (D.q [.int p.1,.int p.2]::·) (qai2 r)
theorem qaN1:∀ ps:Pr,D.fzk (kvD ps)=kvD ps
 | []=>rfl
 | p::r=>congrArg ((Sum.inl p.1,D.int p.2)::·) (qaN1 r)
theorem qav2{z:Bool}{C:γ}{n:Int}{wr:Bool}{ps:Pr}:(Ac z C n wr ps).fz=Ac true C n wr ps:=by
 show D.ins true C [("rooms",.int n),("wraps",.bl wr),("homes",.l true (D.fzs (Lu ps))),("home_numbers",.dct true (D.fzk (kvD ps)))]=_;rw[qai2,qaN1];rfl
theorem qaW8{z:Bool}{S T:List Int}{lo hi:FO}{l h:Option Int}(a:rdN i ds=some (.l z (Lq S)))(h1:lo ds=some l)(h2:hi ds=some h)(e:Et (Lq S) l h=Lq T):fsl (rdN i) lo hi ds=some (.l false (Lq T)):=by
 unfold fsl;rw[a,Option.bind_some,h1,Option.bind_some,h2,Option.bind_some,if_pos (show noT (D.l z (Lq S))=true from rfl)];show gd (D.imms (Et (Lq S) l h)=true) (D.l false (Et (Lq S) l h))=_;rw[e];exact ql4 (qg8 T)
theorem Kk{z:Bool}{A B:List Int}(h:A.length+B.length<=1000):Ij (.l z (Lq A)) (.l z' (Lq B))=some (.l false (Lq (A++B))):=by
 show gd _ (D.l false (Lq A++Lq B))=_;rw[show Lq (A++B)=Lq A++Lq B from zBf];exact ql4 ⟨qg8 A,qg8 B,by rw[qe8,qe8];unfold big;lia⟩
theorem qaQ9{g:D->D->Option D}{Q:Bool->Ds->Prop}(h:ta ds (λ x ds1=>tb ds1 (λ y a=>orF (g x y) λ d=>orF d.asB λ b=>Q b a) xe) xe):ttE (t2 g ta tb) ds Q xe:=h
theorem Kl{gc:Ds->Option D}(h:tr ds (λ xs _ ds1=>orF (gc xs) λ d=>Q d ds1) xe):tcO gc (Iq tr) ds Q xe:=h
theorem qQ3{w:VTS}(h:qc ds (λ b a=>if b=true then t { e with nx:=w e } a else w e a) e.xe):Gk (sIf qc t Gy) w e ds:=h
theorem qR7{l m n:Int}(h1:l<=n)(h2:n<=m):(D.int n).within l m=true:=by
 show (decide (l<=n)&&decide (n<=m))=true;rw[zAl h1,zAl h2];rfl
theorem qH2{p:List Nat}{w:V}{ps:List Pl}(h:A7 ds i p=some (.hole w)):As (.pl i p w::ps) (y::ys) ds=As ps ys (Be ds i p y):=by
 show (match A7 ds i p with | some (.hole a)=>if a=w then As ps ys (Be ds i p y) else none | _=>none)=_;rw[h];exact if_pos rfl
theorem qP9{C:γ}{p:D}(a:rdN i ds=some p)(hm:p.isM C m=true)(r:R [p] d)(b:As [.sl i] [p] (ds.set i .u)=some ds)(q:Q d ds):qA2 C m (Ay R) [] i Ax ds Q xe :=
 qy8 a hm (qc7 (qa0 a (qn9 r (qa0 b q))))
theorem qaF6(h:tr ds (λ xs _ ds1=>xs.length<=big/\Q (.q xs) ds1) xe):Jz tr ds Q xe:=h
theorem qaG3{g:D->D->Option D}(h:ta ds (λ x ds1=>tb ds1 (λ y a=>orF (g x y) λ d=>Q d a) xe) xe):t2 g ta tb ds Q xe:=h
theorem qaP9(h:rdN i ds=some d)(q:Q d.fz (ds.set i d.fz)):tFz i ds Q xe:=qa0 h q
def Lm(n:Int)(wr:Bool)(ps:Pr):D:=.q [.int n,.bl wr,.l true (Lu ps)]
theorem qaj9(hi:ds[i]? = some (.l false ys))(b:f ds=some d)(c:d.imm=true)(g:ys.length < big)(q:Q .non (ds.set i (.l false (ys++[d])))):Eg Gz i (tbV (Ee f) Ax) ds Q xe:=by
 have e:(rdN i ds).bind D.own=some ys:=by rw[qh1 hi rfl];rfl
 refine⟨by rw[e];rfl,qd9 b c ?_⟩;refine qa0 (k:=λ ys=>orF (Gz ys [d]) λ z=>Q z.2 (ds.set i (.l false z.1))) e ?_;exact qa0 (a:=(ys++[d],D.non)) (if_pos g) q
local macro_rules | `(tactic| walk_at "s")=>`(tactic| exact⟨rfl,rfl,rfl,by decide +kernel,rfl,by decide +kernel,by decide +kernel⟩)
noncomputable def top(i:Nat):Stmt:=PySem.Challenge.pw_homeward_k35_undone.main.body.getD i (.Pass ⟨0,0,0,0⟩)
abbrev qas0:Stmt:=top 0
abbrev qk9:Stmt:=qf0 (top 4) 0
abbrev qm9:Stmt:=qf0 (top 5) 0
abbrev qi0:Stmt:=qf0 (top 6) 0
abbrev qw9:Stmt:=top 12
abbrev qf1:Stmt:=top 13
abbrev qs0:Stmt:=top 14
abbrev qm8:Stmt:=top 15
abbrev qg5:Stmt:=top 16
abbrev qj2:Stmt:=top 17
abbrev qs4:Stmt:=qf0 (top 18) 0
abbrev qj4:Stmt:=qf0 (top 18) 2
abbrev qs5:Stmt:=qf0 (top 18) 4
abbrev qx6:Stmt:=qf0 (top 18) 5
abbrev qf2:Stmt:=qf0 (top 18) 6
abbrev qm7:Stmt:=top 20
abbrev qe1:Stmt:=top 21
abbrev qw8:Stmt:=top 22
abbrev qr9:Stmt:=top 23
abbrev qx0:Stmt:=top 24
abbrev qs2:Stmt:=top 26
abbrev qj3:Stmt:=top 27
abbrev qj1:Stmt:=top 28
abbrev qx1:Stmt:=top 29
abbrev qk7:Stmt:=top 31
abbrev qh8:Stmt:=top 32
abbrev qs1:Stmt:=top 33
abbrev qx5:Stmt:=qf0 (top 34) 0
abbrev qg6:Stmt:=qf0 (top 34) 1
abbrev qh9:Stmt:=qf0 (top 34) 2
abbrev qx4:Stmt:=qf0 (top 34) 3
abbrev qk8:Stmt:=qf0 (top 34) 4
abbrev qE8:Stmt:=qf0 (top 34) 5
abbrev qx3:Stmt:=qf0 (top 34) 6
abbrev qx2:Stmt:=qf0 (top 34) 7
abbrev qs3:Stmt:=qf0 (top 34) 8
abbrev qax6:Stmt:=top 36
abbrev qac9:Stmt:=top 37
abbrev qad0:Stmt:=top 38
abbrev qx8:Stmt:=top 39
abbrev qF0:Stmt:=top 40
abbrev qj5:Stmt:=top 41
abbrev qO6:Stmt:=top 42
abbrev qx9:Stmt:=top 43
abbrev qad1:Stmt:=top 44
abbrev qx7:Stmt:=top 45
abbrev qE9:Stmt:=top 46
abbrev qO7:Stmt:=top 47
abbrev G4:Stmt:=top 48
set_option genInjectivity false in
set_option genSizeOf false in
structure Adr where
 f0:γ
 d0:ε
 f1:γ
 d1:ε
 f2:γ
 d2:ε
 f3:γ
 d3:ε
 f4:γ
 d4:ε
 f5:γ
 d5:ε
 f6:γ
 d6:ε
 f7:γ
 d7:ε
 f8:γ
 d8:ε
 f9:γ
 d9:ε
 f10:γ
 d10:ε
 f11:γ
 d11:ε
 f12:γ
 d12:ε
 f13:γ
 d13:ε
 f14:γ
 d14:ε
 f15:γ
 d15:ε
 f16:γ
 d16:ε
 f17:γ
 d17:ε
 f18:γ
 d18:ε
 f19:γ
 d19:ε
 f20:γ
 d20:ε
 f21:γ
 d21:ε
 f22:γ
 d22:ε
 f23:γ
 d23:ε
 f24:γ
 d24:ε
 f25:γ
 d25:ε
 f26:γ
 d26:ε
 f27:γ
 d27:ε
 f28:γ
 d28:ε
 f29:γ
 d29:ε
 f30:γ
 d30:ε
 f31:γ
 d31:ε
 f32:γ
 d32:ε
 f33:γ
 d33:ε
 f34:γ
 d34:ε
 f35:γ
 d35:ε
 f36:γ
 d36:ε
 f37:γ
 d37:ε
 f38:γ
 d38:ε
 f39:γ
 d39:ε
 f40:γ
 d40:ε
 f41:γ
 d41:ε
 f42:γ
 d42:ε
 f43:γ
 d43:ε
 f44:γ
 d44:ε
 f45:γ
 d45:ε
 f46:γ
 d46:ε
 f47:γ
 d47:ε
 f48:γ
 d48:ε
 Co:Tok
 Cr:Tok
 Cq:Tok
 C5:γ
 C6:γ
 Cc:γ
 Ce:γ
 Cb:γ
structure Txt(K:PySem.W.Frag)(mg:Str->Option V')(a:Adr):Prop where
 d0:Df K mg "_wall" "_wall" qas0 a.f0 a.d0 ["k"]
 d1:Md K a.Cc "__init__" "NoRoom.__init__" qk9 a.f1 a.d1 ["self", "room"]
 d2:Md K a.Ce "__init__" "There.__init__" qm9 a.f2 a.d2 ["self", "key"]
 d3:Md K a.Cb "__init__" "NotThere.__init__" qi0 a.f3 a.d3 ["self", "key"]
 d4:Df K mg "is_whole" "is_whole" qw9 a.f4 a.d4 ["thing"]
 d5:Df K mg "is_whole_within" "is_whole_within" qf1 a.f5 a.d5 ["thing", "least", "most"]
 d6:Df K mg "is_number" "is_number" qs0 a.f6 a.d6 ["thing"]
 d7:Df K mg "are_parted" "are_parted" qm8 a.f7 a.d7 ["numbers"]
 d8:Df K mg "is_number_pair" "is_number_pair" qg5 a.f8 a.d8 ["thing"]
 d9:Df K mg "is_home_list" "is_home_list" qj2 a.f9 a.d9 ["thing"]
 d10:Md K a.C5 "__init__" "Plan.__init__" qs4 a.f10 a.d10 ["self", "rooms", "wraps", "homes"]
 d11:Md K a.C5 "is_room" "Plan.is_room" qj4 a.f11 a.d11 ["self", "thing"]
 d12:Md K a.C5 "home" "Plan.home" qs5 a.f12 a.d12 ["self", "key"]
 d13:Md K a.C5 "far" "Plan.far" qx6 a.f13 a.d13 ["self", "key", "room"]
 d14:Md K a.C5 "goes_ahead" "Plan.goes_ahead" qf2 a.f14 a.d14 ["self", "room", "one", "other"]
 d15:Df K mg "room_ahead" "room_ahead" qm7 a.f15 a.d15 ["plan", "room"]
 d16:Df K mg "word_by_room_ahead" "word_by_room_ahead" qe1 a.f16 a.d16 ["plan", "rooms", "room"]
 d17:Df K mg "word_due" "word_due" qw8 a.f17 a.d17 ["plan", "rooms", "room"]
 d18:Df K mg "is_turned" "is_turned" qr9 a.f18 a.d18 ["plan", "rooms"]
 d19:Df K mg "fault_of" "fault_of" qx0 a.f19 a.d19 ["plan", "rooms"]
 d20:Df K mg "are_crowd" "are_crowd" qs2 a.f20 a.d20 ["plan", "keys", "room"]
 d21:Df K mg "crowded_room" "crowded_room" qj3 a.f21 a.d21 ["plan", "keys"]
 d22:Df K mg "refuse_crowd" "refuse_crowd" qj1 a.f22 a.d22 ["plan", "keys"]
 d23:Df K mg "bring_in" "bring_in" qx1 a.f23 a.d23 ["plan", "rooms", "key"]
 d24:Df K mg "room_behind" "room_behind" qk7 a.f24 a.d24 ["plan", "room"]
 d25:Df K mg "is_drawn_from" "is_drawn_from" qh8 a.f25 a.d25 ["plan", "rooms", "room"]
 d26:Df K mg "draw_back" "draw_back" qs1 a.f26 a.d26 ["plan", "rooms", "room"]
 d27:MdN K a.C6 "__init__" "Row.__init__" qx5 a.f27 a.d27 ["self", "plan", "rooms"]
 d28:Md K a.C6 "rooms_held" "Row.rooms_held" qg6 a.f28 a.d28 ["self"]
 d29:Md K a.C6 "keys_held" "Row.keys_held" qh9 a.f29 a.d29 ["self"]
 d30:Md K a.C6 "many" "Row.many" qx4 a.f30 a.d30 ["self"]
 d31:Md K a.C6 "room_of" "Row.room_of" qk8 a.f31 a.d31 ["self", "key"]
 d32:Md K a.C6 "put" "Row.put" qE8 a.f32 a.d32 ["self", "key"]
 d33:Md K a.C6 "take" "Row.take" qx3 a.f33 a.d33 ["self", "key"]
 d34:Md K a.C6 "undo" "Row.undo" qx2 a.f34 a.d34 ["self"]
 d35:Md K a.C6 "deeds" "Row.deeds" qs3 a.f35 a.d35 ["self"]
 d36:Df K mg "_law_bag" "_law_bag" qax6 a.f36 a.d36 ["_law_script"]
 d37:Df K mg "_law_take" "_law_take" qac9 a.f37 a.d37 ["_law_bag_here", "_law_many"]
 d38:Df K mg "_law_home" "_law_home" qad0 a.f38 a.d38 ["_law_plan", "_law_key"]
 d39:Df K mg "_law_passing" "_law_passing" qx8 a.f39 a.d39 ["_law_plan", "_law_keys"]
 d40:Df K mg "_law_housed" "_law_housed" qF0 a.f40 a.d40 ["_law_plan", "_law_keys"]
 d41:Df K mg "_law_drawn_homes" "_law_drawn_homes" qj5 a.f41 a.d41 ["_law_bag_here", "_law_size", "_law_many"]
 d42:Df K mg "_law_drawn" "_law_drawn" qO6 a.f42 a.d42 ["_law_bag_here", "_law_most"]
 d43:Df K mg "_law_fitting" "_law_fitting" qx9 a.f43 a.d43 ["_law_plan", "_law_keys"]
 d44:Df K mg "_law_deed" "_law_deed" qad1 a.f44 a.d44 ["_law_row", "_law_word", "_law_key"]
 d45:Df K mg "_law_stepped" "_law_stepped" qx7 a.f45 a.d45 ["_law_row", "_law_plan", "_law_there", "_law_done", "_law_word", "_law_key"]
 d46:Df K mg "_law_undone" "_law_undone" qE9 a.f46 a.d46 ["_law_row", "_law_there", "_law_done"]
 d47:Df K mg "_law_alike" "_law_alike" qO7 a.f47 a.d47 ["_law_row", "_law_plan", "_law_there", "_law_done", "_law_keys"]
 d48:Df K mg "law" "law" G4 a.f48 a.d48 ["_law_script"]
 Cv:mg "MOST_NUMBER" = some (.int 1000000000000000000 a.Co)
 D0:mg "MOST_ROOMS" = some (.int 64 a.Cr)
 D2:mg "MOST_HOMES" = some (.int 64 a.Cq)
 E2:mg "abs" = none
 Dg:mg "all" = none
 D1:mg "bool" = none
 Dl:mg "dict" = none
 D6:mg "enumerate" = none
 Db:mg "int" = none
 Ca:mg "isinstance" = none
 Cs:mg "len" = none
 Ct:mg "list" = none
 Dq:mg "max" = none
 Di:mg "min" = none
 Cu:mg "range" = none
 Dx:mg "set" = none
 Dk:mg "sorted" = none
 Da:mg "tuple" = none
 C7:Cl K mg "Plan" a.C5
 Dn:Mk K a.C5 a.f10
 C9:qd6 K a.C5 "rooms"
 Cg:qd6 K a.C5 "wraps"
 D3:qd6 K a.C5 "homes"
 Cp:qd6 K a.C5 "home_numbers"
 Do:IsO K a.C5
 C8:Cl K mg "Row" a.C6
 Dt:Mk K a.C6 a.f27
 Cj:qd6 K a.C6 "plan"
 Cd:qd6 K a.C6 "held"
 Ck:qd6 K a.C6 "done"
 D5:mg "NoRoom" = some (.ref a.Cc)
 Dc:Exc K a.Cc
 Dv:W.kitOne K (.ref a.Cc) (.type "ValueError")=some true
 De:MkE K a.Cc a.f1
 Cz:qd6 K a.Cc "room"
 Du:IsX K a.Cc
 Ch:W.exmAny K (.ref a.Cc) [.ref a.Ce,.ref a.Cb,.ref a.Cc]=some true
 D9:mg "There" = some (.ref a.Ce)
 Dm:Exc K a.Ce
 Dw:W.kitOne K (.ref a.Ce) (.type "ValueError")=some true
 Dh:MkE K a.Ce a.f2
 D8:qd6 K a.Ce "key"
 Dy:IsX K a.Ce
 Ci:W.exmAny K (.ref a.Ce) [.ref a.Ce,.ref a.Cb,.ref a.Cc]=some true
 Cy:mg "NotThere" = some (.ref a.Cb)
 D4:Exc K a.Cb
 Dp:W.kitOne K (.ref a.Cb) (.type "ValueError")=some true
 D7:MkE K a.Cb a.f3
 Cw:qd6 K a.Cb "key"
 Dr:IsX K a.Cb
 Cf:W.exmAny K (.ref a.Cb) [.ref a.Ce,.ref a.Cb,.ref a.Cc]=some true
section
variable{P:Program}{w:World}{K:W.Frag}{mg:Str->Option V'}{base:Heap}{a:Adr}
theorem qC3:qa8 ["thing"] ["thing"] (qa3 qw9):=by walk_at "s"
def qX3:VSp:=By (fx1 λ x=>x.kind.map λ _=>.bl x.whole)
theorem qZ1(T:Txt K mg a):VFn P w K mg base 1 a.f4 a.d4 ["thing"] qX3:=by
 refine VFn.mk' T.d4.F qC3 (wOf [true]) qv5 (λ _ _ _=>qag1) (λ _ _ _=>imm1) (λ b A outer f H E g i=>⟨_,(Ag (Ap (qa4 (vand (vbi qf7 qC0.ops T.Ca (qa2 (vnm 0) (qa2 (vty "int" T.Db) qa6 rfl) rfl)) (Jv (vnot (vbi qf7 qC0.ops T.Ca (qa2 (vnm 0) (qa2 (vty "bool" T.D1) qa6 rfl) rfl)))))))),λ j Q k h=>?_⟩);obtain⟨x,d,rfl,e,q⟩:=Kf h;obtain⟨t,c,rfl⟩:=zAf.mp e;cases x<;>first | exact q | cases c
theorem qi3:qa8 ["thing", "least", "most"] ["thing", "least", "most"] (qa3 qf1):=by walk_at "s"
def qr0:VSp:=By (fx3 λ x l m=>x.kind.bind λ _=>l.asI.bind λ i=>m.asI.map λ j=>.bl (x.within i j))
theorem qe6(T:Txt K mg a):VFn P w K mg base 2 a.f5 a.d5 ["thing", "least", "most"] qr0:=by
 refine VFn.mk' T.d5.F qi3 (wOf [true,true,true]) qv5 (λ _ _ _=>qaL8) (λ _ _ _=>imm3) (λ b A outer p H E r c=>⟨_,(Ag (Ap (Fk (Ah T.d4 (qZ1 T) qa1 (rm c) (vaN 0 Ad)) (Gw (qa4 (vch Hg os_le Hg os_le (vnm 1) (vnm 0) (vnm 2))))))),λ s Q u h=>?_⟩);obtain⟨x,l,m,d,rfl,e,q⟩:=pure3 h;obtain⟨t,f,e⟩:=zA1.mp e;obtain⟨i,g,e⟩:=zA1.mp e;obtain⟨j,k,rfl⟩:=zAf.mp e;cases l<;>cases g
 cases m<;>cases k
 cases x with
 | int n =>
   refine⟨rfl,?_⟩;show orF (f3 gLe gLe (rdN 1) (rdN 0) (rdN 2) [.int n,.int i,.int j]) _;have o:f3 gLe gLe (rdN 1) (rdN 0) (rdN 2) [.int n,.int i,.int j]=some (.bl (decide (i<=n)&&decide (n<=j))):=by
     show (if decide (i<=n)=true then some (D.bl (decide (n<=j))) else some (.bl false))=_;cases decide (i<=n)<;>rfl
   rw[o];exact q
 | _=>first | exact⟨rfl,q⟩ | cases f
theorem qI4:qa8 ["numbers"] ["numbers"] (qa3 qm8):=by walk_at "s"
def qI0:VSp:=Ay λ ds d=>∃ z ks,ds=[.l z (Lq ks)]/\ks.length<=1000/\d=.bl (decide ks.Nodup)
theorem qJ3(T:Txt K mg a):VFn P w K mg base 1 a.f7 a.d7 ["numbers"] qI0:=by
 refine VFn.mk2 T.d7.F qI4 (wOf [true]) qb2 (λ f Q g h=>by obtain⟨d,⟨z,b,e,_⟩,_⟩:=h;rw[e];exact⟨rfl,rfl⟩) (λ i A outer n H E o j=>⟨_,(Ag (Ap (qa4 (v2 (Aw (ql1 j.u64) (qb0 _)) Bl (vlenS T.Cs T.Dx (vnm 0)) (vbi qt5 qt4.ops T.Cs (qa2 (vnm 0) qa6 rfl)))))),λ f Q g h=>?_⟩);obtain⟨d,⟨z,b,rfl,k,rfl⟩,q⟩:=h;have l:f1 Hx (rdN 0) [.l z (Lq b)]=some (.int (ql5 b)):=by
   show ((intsD (Lq b)).bind λ c=>gd (c.length<=1000) (.int (ql5 c)))=_;rw[qah0];exact ql4 k
 have e2:f2 gEq (f1 Hx (rdN 0)) (Bb (fx1 Gu) (Ba (rdN 0) λ x=>some [])) [.l z (Lq b)]=some (.bl (decide b.Nodup)):=by
   show ((f1 Hx (rdN 0) [.l z (Lq b)]).bind λ x=>gEq x (.int (Lq b).length))=_;rw[l,qe8];show some (D.bl ((ql5 b:Int) == (b.length:Int)))=_
   have:=qQ9 b
   by_cases h:b.Nodup
   . rw[zAl h,this.mpr h,zB3]
   have m:¬ ((ql5 b:Int)=(b.length:Int)):=λ z=>h (this.mp (by exact_mod_cast z))
   rw[zB2 h,beq_false_of_ne m]
 exact qa0 e2 q
theorem qw4:qa8 ["thing"] ["thing"] (qa3 qs0):=by walk_at "s"
def qm6:VSp:=By (fx1 λ x=>x.kind.map λ _=>.bl x.num)
theorem qc5(T:Txt K mg a):VFn P w K mg base 3 a.f6 a.d6 ["thing"] qm6:=by
 refine VFn.mk' T.d6.F qw4 (wOf [true]) qv5 (λ _ _ _=>qag1) (λ _ _ _=>imm1) (λ b A outer g H E i c=>⟨_,(Ag (Ap (Ah T.d5 (qe6 T) qa1 (rm c) (vaN 0 (vaV (qa4 Af) (vaV (qa4 (vgi T.Cv)) Ad)))))),λ j Q k h=>?_⟩);obtain⟨x,d,rfl,e,q⟩:=Kf h;obtain⟨t,f,rfl⟩:=zAf.mp e;cases x<;>first | exact⟨rfl,q⟩ | cases f
theorem qu4:qa8 ["thing"] ["thing"] (qa3 qg5):=by walk_at "s"
def _root_.LV.D.pairB:D->Bool
 | .q [x,y]=>x.num&&y.num
 | _=>false
def _root_.LV.D.kinded:D->Bool
 | .q ds=>(ds.all λ d=>d.kind.isSome&&d.imm)&&decide (ds.length<=1000)
 | _=>true
def qu2:VSp:=By (fx1 λ x=>if x.kinded=true then x.kind.map λ _=>.bl x.pairB else none)
theorem qu8(T:Txt K mg a):VFn P w K mg base 4 a.f8 a.d8 ["thing"] qu2:=by
 refine VFn.mk' T.d8.F qu4 (wOf [true]) qv5 (λ _ _ _=>qag1) (λ _ _ _=>imm1) (λ m A outer v H E B f=>⟨_,(Ag (Ap (Fk (qa4 (vbi qf7 qC0.ops T.Ca (qa2 (vnm 0) (qa2 (vty "tuple" T.Da) qa6 rfl) rfl))) (Fk (qa4 (v2 (Aw (ql1 f.u64) (qb0 _)) Bl (vbi qt5 qt4.ops T.Cs (qa2 (vnm 0) qa6 rfl)) Af)) (Fk (Ah T.d6 (qc5 T) qa1 (rm f) (vaV (qb5 (v2 (Av qb6) Am (vnm 0) Af)) Ad)) (Gw (Ah T.d6 (qc5 T) qa1 (rm f) (vaV (qb5 (v2 (Av qb6) Am (vnm 0) Af)) Ad)))))))),λ b Q n h=>?_⟩);obtain⟨x,d,rfl,e,q⟩:=Kf h;cases x with
 | q b =>
   by_cases c:(D.q b).kinded=true
   . rw[if_pos c] at e
     cases e;have c:=zAh.mp c;have i:=zB1.mp c.1
     match b with
     | []=>exact q
     | [_]=>exact q
     | [x,y] =>
       have j:=zAh.mp (i x (by simp));have l:=zAh.mp (i y (by simp));obtain⟨t,o⟩:=zAv.mp j.1;obtain⟨u,p⟩:=zAv.mp l.1;refine⟨j.2,?_⟩;refine qa0 (a:=D.bl x.num) (by show (x.kind.map _)=_;rw[o];rfl) ?_;refine ite_b (λ g=>⟨l.2,qa0 (a:=D.bl y.num) (by show (y.kind.map _)=_;rw[p];rfl) ?_⟩) λ g=>?_
       . have:(D.q [x,y]).pairB=y.num:=by show (x.num&&y.num)=_;rw[g];rfl
         rw[this] at q;exact q
       have:(D.q [x,y]).pairB=false:=by show (x.num&&y.num)=_;rw[g];rfl
       rw[this] at q;exact q
     | x::y::z::r =>
       have e2:f2 gEq (Bb (fx1 Gu) (Ba (rdN 0) λ x=>some [])) (kC (D.int 2)) [.q (x::y::z::r)]=some (.bl false):=by
         show some (D.bl (((x::y::z::r).length:Int) == 2))=_
         have:(((x::y::z::r).length:Int) == 2)=false:=by
           have:((x::y::z::r).length:Int)≠2:=by simp;lia
           simpa using this
         rw[this]
       have:orF (f2 gEq (Bb (fx1 Gu) (Ba (rdN 0) λ x=>some [])) (kC (D.int 2)) [.q (x::y::z::r)]) (λ d=>orF d.asB λ k=>if k=true then Hr (qk6 qm6 [] (tbV (Ee (f2 gIx (rdN 0) (kC (D.int 0)))) Ax)) (qk6 qm6 [] (tbV (Ee (f2 gIx (rdN 0) (kC (D.int 1)))) Ax)) [.q (x::y::z::r)] (λ d b=>Q d (fin (wOf [true]) 0 [.q (x::y::z::r)] b)) (λ s b=>n s (fin (wOf [true]) 0 [.q (x::y::z::r)] b)) else Q (.bl false) [.q (x::y::z::r)]):=by
         rw[e2];exact q
       exact this
   rw[if_neg c] at e;cases e
 | _=>first | (cases e;exact q) | cases e
theorem qA9:qa8 ["thing"] ["thing"] (qa3 qj2):=by walk_at "s"
noncomputable def Hd:D->Option Int
 | .q (.int k::_)=>some k
 | _=>none
def _root_.LV.D.homesB:D->Bool
 | .l _ ys=>decide (ys.length<=64)&&(ys.all D.pairB&&decide (ys.filterMap Hd).Nodup)
 | _=>false
def _root_.LV.D.lstOk(p:D->Bool):D->Bool
 | .l _ ys=>D.imms ys&&ys.all p&&decide (ys.length<=1000)
 | x=>x.kind.isSome
def Km(y:D):Bool:=y.kind.isSome&&y.kinded
theorem qaK4{x:D}(h:x.num=true):∃ n,x=.int n/\Al n:=by
 cases x with
 | int n =>
   have:=zAh.mp h
   exact⟨n,rfl,zAc this.1,zAc this.2⟩
 | _=>cases h
theorem qs7{n:Int}(h:Al n):(D.int n).num=true:=by
 show (decide (0<=n)&&decide (n<=1000000000000000000))=true;rw[zAl h.1,zAl h.2];rfl
theorem qaJ4(h:y.pairB=true):∃ k m,y=.q [.int k,.int m]/\Al k/\Al m:=by
 cases y with
 | q a =>
   match a,h with
   | [x,y],h =>
     have h:=zAh.mp h;obtain⟨k,rfl,b⟩:=qaK4 h.1;obtain⟨m,rfl,c⟩:=qaK4 h.2;exact⟨k,m,rfl,b,c⟩
 | _=>cases h
theorem qad7:∀{ys:Ds},ys.all D.pairB=true->∃ ps:Pr,ys=Lu ps/\∀ p∈ps,Al p.1/\Al p.2
 | [],_=>⟨[],rfl,λ p h=>by simp at h⟩
 | y::r,h=>by
   rw[List.all_cons,zB4] at h;obtain⟨k,m,rfl,b,c⟩:=qaJ4 h.1;obtain⟨ps,rfl,d⟩:=qad7 h.2;refine⟨(k,m)::ps,rfl,λ p a=>?_⟩;rcases zAm.mp a with rfl | a
   . exact⟨b,c⟩
   exact d p a
theorem qag6:∀ ps:Pr,(Lu ps).filterMap Hd=ps.map (·.1)
 | []=>rfl
 | p::r=>by show p.1::(Lu r).filterMap Hd=_;rw[qag6 r];rfl
theorem qaO9:∀{ps:Pr},(∀ p∈ps,Al p.1/\Al p.2)->(Lu ps).all D.pairB=true
 | [],_=>rfl
 | p::r,h=>by
   show (((D.int p.1).num&&(D.int p.2).num)&&(Lu r).all D.pairB)=true;rw[qs7 (h p zAa).1,qs7 (h p zAa).2,qaO9 λ q a=>h q (zA4 _ a)];rfl
theorem qaP0:∀ ps:Pr,(Lu ps).all Km=true
 | []=>rfl
 | p::r=>by show (true&&(Lu r).all Km)=true;rw[qaP0 r];rfl
theorem qK2{z:Bool}{ps:Pr}(h:Jm ps):(D.l z (Lu ps)).homesB=true/\(D.l z (Lu ps)).lstOk Km=true:=by
 have a:(Lu ps).length<=64:=by simpa[Lu] using h.len
 constructor
 . show (decide ((Lu ps).length<=64)&&((Lu ps).all D.pairB&&decide ((Lu ps).filterMap Hd).Nodup))=true
   rw[zAl a,qaO9 h.nums,qag6,zAl h.nd];rfl
 show (D.imms (Lu ps)&&(Lu ps).all Km&&decide ((Lu ps).length<=1000))=true;rw[qK1,qaP0,zAl (by lia)];rfl
theorem qW5{α:Type}(f:α->Bool):∀ l:List α,bools (l.map λ a=>.bl (f a))=some (l.map f)
 | []=>rfl
 | a::r=>by show (bools (r.map λ a=>D.bl (f a))).map (λ b=>f a::b)=_;rw[qW5 f r];rfl
theorem qaE9(f:α->Bool)(l:List α):gAll (.l false (l.map λ a=>.bl (f a)))=some (.bl (l.all f)):=by
 show (bools (l.map λ a=>D.bl (f a))).map (λ b=>D.bl (b.all id))=_;rw[qW5];show some (D.bl ((l.map f).all id))=_;rw[List.all_map];rfl
def qA5:VSp:=Ay λ ds d=>∃ x,ds=[x]/\x.lstOk Km=true/\d=.bl x.homesB
theorem qB3(T:Txt K mg a):VFn P w K mg base 5 a.f9 a.d9 ["thing"] qA5:=by
 refine VFn.mk2 T.d9.F qA9 (wOf [true]) qb2 (λ L Q M ⟨d,⟨x,e,_⟩,_⟩=>by rw[e];exact⟨rfl,rfl⟩) (λ N A outer S H E f v=>⟨_,(Ab (sif (tor (Bp (tv (vbi qf7 qC0.ops T.Ca (qa2 (vnm 0) (qa2 (vty "list" T.Ct) qa6 rfl) rfl)))) (Im (q2 (An B7 (qb0 _)) B9 (vbi qt5 qt4.ops T.Cs (qa2 (vnm 0) qa6 rfl)) (vgi T.D2)))).te
     (Ag (Ap (qa4 vbl)))
     Au)
     (Ag (Ap (Fk (ebi (qH1 rfl) qaD9.ops T.Dg (Fm (vaV (ecN (NY:=["pair"]) (src:=[none]) 0 (blk (λ f C g H0 i=>(Bf 0 (show (["pair"]:List Str).Nodup by decide +kernel))) (λ f C g H0 i=>Fc) (λ f C g H0 i=>(Ah T.d8 (qu8 T) qt1 (rm v) (vaN 0 Ad))))) Ad))) (Gw (Ah T.d7 (qJ3 T) qa1 (rm v) (vaV (ecN (NY:=["pair"]) (src:=[none]) 0 (blk (λ f C g H0 i=>(Bf 0 (show (["pair"]:List Str).Nodup by decide +kernel))) (λ f C g H0 i=>Fc) (λ f C g H0 i=>(qb5 (v2 (Av qb6) Am (vnm 0) Af))))) Ad))))))),λ L Q M h=>?_⟩)
 obtain⟨d,⟨x,rfl,j,rfl⟩,q⟩:=h;cases x with
 | l z b =>
   have j:=zAh.mp j;have k:=zAh.mp j.1;have B:=zAc j.2;refine ite_b (p:=decide ((64:Int) < (b.length:Nat))) (λ h=>?_) (λ h=>?_)
   . have n:¬ b.length<=64:=by have:=zAc h;lia
     have:(D.l z b).homesB=false:=by
       show (decide (b.length<=64)&&_)=false;rw[zB2 n];rfl
     rw[this] at q;exact q
   have n:b.length<=64:=by have:=zB9 h;lia
   have G:(D.l z b).homesB=(b.all D.pairB&&decide (b.filterMap Hd).Nodup):=by
     show (decide (b.length<=64)&&_)=_;rw[zAl n];rfl
   have l:=zB1.mp k.2;refine⟨k.1,?_⟩;refine qh7 (λ ι=>∃ d,ι=[d]) (λ y=>some (.bl y.pairB)) b [] _ (by show 0+b.length < big;unfold big;lia) ⟨_,rfl⟩ ?_ ?_
   . rintro y r ι s ⟨d,rfl⟩ R u c
     have I:=zAh.mp (l y r);obtain⟨t,J⟩:=zAv.mp I.1;refine qar0 (x:=y) (rd0 (qq0 J)) (qa0 (a:=D.bl y.pairB) ?_ ?_)
     . show (if y.kinded=true then y.kind.map _ else none)=_
       rw[if_pos I.2,J];rfl
     exact⟨c,u _ ⟨_,rfl⟩⟩
   rintro ι ⟨d,rfl⟩;rw[zAz,qK9];refine qa0 (qaE9 D.pairB b) (ite_b (λ o=>?_) λ o=>?_)
   . obtain⟨m,rfl,U⟩:=qad7 o
     refine⟨qK1 m,qh7 (λ ι=>∃ d,ι=[d]) (λ y=>(Hd y).map .int) (Lu m) [] _ (by show 0+(Lu m).length < big;unfold big;lia) ⟨_,rfl⟩ ?_ ?_⟩
     . rintro y r ι s ⟨d,rfl⟩ R u c
       obtain⟨p,O,rfl⟩:=zB0.mp r;exact⟨rfl,c,u _ ⟨_,rfl⟩⟩
     rintro ι ⟨d,rfl⟩;have e:[]++(Lu m).filterMap (λ y=>(Hd y).map D.int)=Lq (m.map (·.1)):=by
       rw[zAz];unfold Lu Lq;rw[List.filterMap_map,List.map_map];exact qK9 _ _
     rw[e];rw[G,o,qag6] at q;exact⟨_,⟨false,_,rfl,by simp;simp[Lu] at n;lia,rfl⟩,q⟩
   rw[G,o] at q;exact q
 | _=>first | exact q | cases j
theorem qO4:qa8 ["self", "rooms", "wraps", "homes"] ["self", "rooms", "wraps", "homes"] (qa3 qs4):=by walk_at "s"
def qN5(C:γ):VSp:=λ ds Q _=>∃ n wr z ps,ds=[.ins false C [],.int n,.bl wr,.l z (Lu ps)]/\1<=n/\n<=64/\Jm ps/\Q .non [Ac false C n wr ps,.int n,.bl wr,.l z (Lu ps)]
theorem qau5{z:Bool}{ps:Pr}:Jr (.l z (Lu ps))=some (.l false (Lu ps)):=ql4 (qK1 ps)
theorem qP5(T:Txt K mg a):VFn P w K mg base 6 a.f10 a.d10 ["self", "rooms", "wraps", "homes"] (qN5 a.C5):=by
 refine VFn.mk2 T.d10.F qO4 (wOf [true,true,true,true]) (λ k Q Q' f m o _ h=>by obtain⟨n,wr,z,c,e,g,i,p,q⟩:=h;exact⟨n,wr,z,c,e,g,i,p,o _ _ q⟩) (λ k Q f h=>by obtain⟨n,wr,z,c,e,_⟩:=h;rw[e];exact⟨rfl,rfl⟩) (λ r A outer s H E t l=>⟨_,(Ab (sif (Bp (te (Ah T.d5 (qe6 T) qa1 (rm l) (vaN 1 (vaV (qa4 Af) (vaV (qa4 (vgi T.D0)) Ad))))))
     (Ag qr2)
     Au)
     (Ab (sif (Bp (tv (vbi qf7 qC0.ops T.Ca (qa2 (vnm 2) (qa2 (vty "bool" T.D1) qa6 rfl) rfl))))
     (Ag qr2)
     Au)
     (Ab (sif (Bp (te (Ah T.d9 (qB3 T) qa1 (rm l) (vaN 3 Ad))))
     (Ag qr2)
     Au)
     (Ab (G8 rfl (vpn 0) (qb5 (vnm 1)) T.C7.cl T.C9)
     (Ab (G8 rfl (vpn 0) (qb5 (vnm 2)) T.C7.cl T.Cg)
     (Ab (G8 rfl (vpn 0) (qa4 (Gi qh0 qL3.ops T.Ct (qa2 (vnm 3) qa6 rfl))) T.C7.cl T.D3)
     (Ag (G8 rfl (vpn 0) (qa4 (Gi (qL6 rfl) qav8.ops T.Dl (qa2 (vnm 3) qa6 rfl))) T.C7.cl T.Cp)))))))),λ k Q f h=>?_⟩)
 obtain⟨n,wr,z,c,rfl,g,i,j,q⟩:=h;refine qb1 [.ins false a.C5 [],.int n,.bl wr,.l z (Lu c)] (λ K b=>?_) (qb1 [.ins false a.C5 [],.int n,.bl wr,.l z (Lu c)] (λ K b=>b) (qb1 [.ins false a.C5 [],.int n,.bl wr,.l z (Lu c)] (λ K b=>?_) ?_))
 . refine qah7 (λ Q f q=>qi9 (qc0 (x:=.int n) rfl (qf8 (y:=.int 1) rfl (qf8 (y:=.int 64) rfl (qc7 (qa0 (a:=D.int n) rfl (qF3 (d:=D.bl true) ?_ q))))))) b
   show some (D.bl ((D.int n).within 1 64))=_;rw[qR7 g i]
 . refine qar0 rfl ⟨D.bl true,⟨_,rfl,(qK2 j).2,by rw[(qK2 j).1]⟩,b⟩
 refine qb1 [.ins false a.C5 [("rooms",.int n)],.int n,.bl wr,.l z (Lu c)] (λ K b=>⟨rfl,qa0 (a:=(0,[])) rfl (qa0 qj8 ⟨by decide,b⟩)⟩) ?_;refine qb1 [.ins false a.C5 [("rooms",.int n),("wraps",.bl wr)],.int n,.bl wr,.l z (Lu c)] (λ K b=>⟨rfl,qa0 (a:=(0,[])) rfl (qa0 qj8 ⟨by show 1 < 100;decide,b⟩)⟩) ?_;refine qb1 [.ins false a.C5 [("rooms",.int n),("wraps",.bl wr),("homes",.l false (Lu c))],.int n,.bl wr,.l z (Lu c)] (λ K b=>?_) ?_
 . refine qa0 (qau5 (z:=z)) ?_
   exact qa0 (a:=(0,[])) rfl (qa0 qj8 ⟨by show 2 < 100;decide,b⟩)
 refine qa0 (qav6 (z:=z) j.nd) ?_;exact qa0 (a:=(0,[])) rfl (qa0 qj8 ⟨by show 3 < 100;decide,q⟩)
theorem qB0:qa8 ["self", "thing"] ["self", "thing"] (qa3 qj4):=by walk_at "s"
def qA7(C:γ):VSp:=Ay λ ds d=>∃ z n wr ps x t,ds=[Ac z C n wr ps,x]/\x.kind=some t/\d=.bl (x.within 0 (n - 1))
theorem qm4(T:Txt K mg a):VFn P w K mg base 3 a.f11 a.d11 ["self", "thing"] (qA7 a.C5):=by
 refine VFn.mk2 T.d11.F qB0 (wOf [true,true]) qb2 (λ g Q i h=>by obtain⟨d,⟨z,n,wr,b,x,t,e,_⟩,_⟩:=h;rw[e];exact⟨rfl,rfl⟩) (λ j A outer m H E o k=>⟨_,(Ag (Ap (Ah T.d5 (qe6 T) qa1 (rm k) (vaN 1 (vaV (qa4 Af) (vaV (qa4 (v2 (Ak qu7) qu6 (Bi rfl (vnm 0) T.C7.cl T.C9) Af)) Ad)))))),λ g Q i h=>?_⟩);obtain⟨d,⟨z,n,wr,b,x,t,rfl,c,rfl⟩,q⟩:=h;have f:rdN 1 [Ac z a.C5 n wr b,x]=some x:=ql0.mpr ⟨rfl,qq0 c⟩;have l:f2 gSub (f1 (D.fld a.C5 "rooms") (rdN 0)) (kC (.int 1)) [Ac z a.C5 n wr b,x]=some (.int (n - 1)):=Ae (A4 rfl qe0) rfl rfl;show qk6 _ _ (tbN 1 _) [Ac z a.C5 n wr b,x] _ _;refine qc0 f ?_;refine qf8 (y:=.int 0) rfl ?_;refine qf8 l ?_;refine qa0 f ?_;refine qF3 (d:=.bl (x.within 0 (n - 1))) ?_ (qa0 rfl q);show x.kind.bind _=_;rw[c];rfl
theorem qO5:qa8 ["self", "key"] ["self", "key"] (qa3 qs5):=by walk_at "s"
def qN6(C:γ):VSp:=Ay λ ds d=>∃ z n wr ps k,ds=[Ac z C n wr ps,.int k]/\1<=n/\Al k/\d=.int (qc9 n ps k)
theorem qah9{z:Bool}{ps:Pr}{k:Int}(h:fa ds=some (.dct z (kvD ps)))(a:rdN i ds=some (.int k)):fget fa (rdN i) (rdN i) ds=some (.int ((ps.lookup k).getD k)):=by
 unfold fget;rw[h,a];show gd (((En (kvD ps) (.inl k)).getD (.int k)).imm=true) ((En (kvD ps) (.inl k)).getD (.int k))=_;rw[qar5];cases ps.lookup k<;>rfl
theorem qaL1{x n:Int}(h:1<=n):Il (.int x) (.int n)=some (.int (x % n)):=ql4 (zAl (by lia))
theorem qn6(T:Txt K mg a):VFn P w K mg base 4 a.f12 a.d12 ["self", "key"] (qN6 a.C5):=by
 refine VFn.mk2 T.d12.F qO5 (wOf [true,true]) qb2 (λ f Q g h=>by obtain⟨d,⟨z,n,wr,b,k,e,_⟩,_⟩:=h;rw[e];exact⟨rfl,rfl⟩) (λ i A outer m H E o c=>⟨_,(Ab (sif (Bp (te (Ah T.d6 (qc5 T) qa1 (rm c) (vaN 1 Ad))))
     (Ag qr2)
     Au)
     (Ag (Ap (qa4 (v2 (Ak qn5) qn1 (vget (hu_of c) (Bi rfl (vnm 0) T.C7.cl T.Cp) (vnm 1) (vnm 1) ⟨rfl,rfl,rfl,rfl⟩) (Bi rfl (vnm 0) T.C7.cl T.C9)))))),λ f Q g h=>?_⟩)
 obtain⟨d,⟨z,n,wr,b,k,rfl,j,l,rfl⟩,q⟩:=h;have key:orF (f2 Il (fget (f1 (D.fld a.C5 "home_numbers") (rdN 0)) (rdN 1) (rdN 1)) (f1 (D.fld a.C5 "rooms") (rdN 0)) [Ac z a.C5 n wr b,.int k]) (λ d=>Q d [Ac z a.C5 n wr b,.int k]):=qa0 (Ae (qah9 (A4 rfl qaa5) rfl) (A4 rfl qe0) (qaL1 j)) q;exact qar0 rfl (qF3 (d:=D.bl true) (by show some (D.bl (D.int k).num)=_;rw[qs7 l]) (qa0 rfl (qa0 (a:=true) rfl key)))
theorem qC6:qa8 ["self", "key", "room", "steps"] ["self", "key", "room"] (qa3 qx6):=by walk_at "s"
def qY0(C:γ):VSp:=Ay λ ds d=>∃ z n wr ps k r,ds=[Ac z C n wr ps,.int k,.int r]/\1<=n/\Al k/\0<=r/\r < n/\d=Hc (A6 n wr ps k r)
theorem qan6{k:Int}(a:Al k):fx1 (λ x=>x.kind.map λ _=>.bl x.num) [.int k]=some (.bl true):=by
 show some (D.bl (D.int k).num)=_;rw[qs7 a]
theorem qas4{C:γ}{z:Bool}{n:Int}{wr:Bool}{ps:Pr}{r:Int}(d:0<=r)(h1:r < n):∃ z' c a b x t,[Ac z C n wr ps,.int r]=[Ac z' C c a b,x]/\x.kind=some t/\D.bl true=.bl (x.within 0 (c - 1)) :=
 ⟨z,n,wr,ps,_,_,rfl,rfl,by rw[qR7 d (by lia)]⟩
theorem qi6(T:Txt K mg a):VFn P w K mg base 5 a.f13 a.d13 ["self", "key", "room"] (qY0 a.C5):=by
 refine VFn.mk2 T.d13.F qC6 (wOf [true,true,true]) qb2 (λ o Q f h=>by obtain⟨d,⟨z,n,wr,c,k,r,e,_⟩,_⟩:=h;rw[e];exact⟨rfl,rfl⟩) (λ s A outer u H E v g=>⟨_,(Ab (sif (Bp (te (Ah T.d6 (qc5 T) qa1 (rm g) (vaN 1 Ad))))
     (Ag qr2)
     Au)
     (Ab (sif (Bp (te (qk4 0 T.d11 T.C7.cl (qm4 T) qa1 (rm g) (vaN 2 Ad))))
     (Ag qr2)
     Au)
     (Ab (Aj 3 qC6.nd (e2n 2 (Ak qu7) qu6 (qk4 0 T.d12 T.C7.cl (qn6 T) qa1 (rm g) (vaN 1 Ad))))
     (Ab (sif (tv (Bi rfl (vnm 0) T.C7.cl T.Cg))
     (Ag (Ap (qa4 (v2 (Ak qn5) qn1 (vnm 3) (Bi rfl (vnm 0) T.C7.cl T.C9)))))
     Au)
     (Ag (Ap (eif (q2 (An Hh (qb0 _)) Jo (vnm 3) Af) (qb5 (vnm 3)) (qa4 A8)))))))),λ o Q f h=>?_⟩)
 obtain⟨d,⟨z,n,wr,c,k,r,rfl,l,m,i,j,rfl⟩,q⟩:=h;refine Gd (λ Q f q=>qI6 (x:=.int k) rfl (qan6 m) rfl q) ?_;refine Gd (λ Q f q=>qG0 (p:=Ac z a.C5 n wr c) (x:=.int r) rfl (qf6 rfl) rfl rfl (qas4 i j) rfl q) ?_;refine qb1 [Ac z a.C5 n wr c,.int k,.int r,.int (r - qc9 n c k)] (λ K t=>?_) ?_
 . exact⟨rfl,qG0 (p:=Ac z a.C5 n wr c) (x:=.int k) (d:=.int (qc9 n c k)) rfl (qf6 rfl) rfl rfl ⟨z,n,wr,c,k,rfl,l,m,rfl⟩ rfl (qa0 (a:=D.int (r - qc9 n c k)) rfl t)⟩
 unfold A6 at q;refine qi7 wr (A4 rfl qv6) (λ h=>?_) (λ h=>?_)
 . subst h
   exact qd2 (.int ((r - qc9 n c k) % n)) (Ae rfl (A4 rfl qe0) (qaL1 l)) q
 subst h;refine qj6 (Ge (b:=decide (0<=r - qc9 n c k)) rfl (λ h=>?_) (λ h=>?_))
 . rw[if_neg (by decide),if_pos (zAc h)] at q
   exact⟨rfl,q⟩
 rw[if_neg (by decide),if_neg (zB9 h)] at q;exact q
theorem qe5:qa8 ["self", "room", "one", "other", "one_far", "other_far"] ["self", "room", "one", "other"] (qa3 qf2):=by walk_at "s"
def qr1(C:γ):VSp:=Ay λ ds d=>∃ z n wr ps r x y,ds=[Ac z C n wr ps,.int r,.int x,.int y]/\1<=n/\0<=r/\r < n/\Al x/\Al y/\d=.bl (qk0 n wr ps r x y)
theorem qap3{C:γ}{z:Bool}{n:Int}{wr:Bool}{ps:Pr}{k r:Int}(h1:1<=n)(f:Al k)(g:0<=r)(h:r < n):∃ z' c a b e d,[Ac z C n wr ps,.int k,.int r]=[Ac z' C c a b,.int e,.int d]/\1<=c/\Al e/\0<=d/\d < c/\Hc (A6 n wr ps k r)=Hc (A6 c a b e d) :=
 ⟨z,n,wr,ps,k,r,rfl,h1,f,g,h,rfl⟩
theorem qi5(T:Txt K mg a):VFn P w K mg base 6 a.f14 a.d14 ["self", "room", "one", "other"] (qr1 a.C5):=by
 refine VFn.mk2 T.d14.F qe5 (wOf [true,true,true,true]) qb2 (λ B Q l h=>by obtain⟨d,⟨z,n,wr,c,r,x,y,e,_⟩,_⟩:=h;rw[e];exact⟨rfl,rfl⟩) (λ C A outer D H E G k=>⟨_,(Ab (sif (Bp (te (qk4 0 T.d11 T.C7.cl (qm4 T) qa1 (rm k) (vaN 1 Ad))))
     (Ag qr2)
     Au)
     (Ab (sif (Bp (te (Ah T.d6 (qc5 T) qa1 (rm k) (vaN 2 Ad))))
     (Ag qr2)
     Au)
     (Ab (sif (Bp (te (Ah T.d6 (qc5 T) qa1 (rm k) (vaN 3 Ad))))
     (Ag qr2)
     Au)
     (Ab (Aj 4 qe5.nd (qk4 0 T.d13 T.C7.cl (qi6 T) qa1 (rm k) (vaN 2 (vaN 1 Ad))))
     (Ab (Aj 5 qe5.nd (qk4 0 T.d13 T.C7.cl (qi6 T) qa1 (rm k) (vaN 3 (vaN 1 Ad))))
     (Ab (sif (q2 (An Ey (qb0 _)) Ex (vnm 4) A8)
     (Ag (Ap (qa4 vbl)))
     Au)
     (Ab (sif (q2 (An Ey (qb0 _)) Ex (vnm 5) A8)
     (Ag (Ap (qa4 vbl)))
     Au)
     (Ag (Ap (qa4 (vor (v2 (Aw B7 (qb0 _)) B9 (vnm 4) (vnm 5)) (Jv (vand (v2 (Aw (ql1 k.u64) (qb0 _)) Bl (vnm 4) (vnm 5)) (Jv (v2 (Aw Hf (qb0 _)) Ho (vnm 2) (vnm 3)))))))))))))))),λ B Q l h=>?_⟩)
 obtain⟨d,⟨z,n,wr,c,r,x,y,rfl,o,i,j,s,t,rfl⟩,q⟩:=h;refine Gd (λ Q l q=>qG0 (p:=Ac z a.C5 n wr c) (x:=.int r) rfl (qf6 rfl) rfl rfl (qas4 i j) rfl q) ?_;refine Gd (λ Q l q=>qI6 (x:=.int x) rfl (qan6 s) rfl q) ?_;refine Gd (λ Q l q=>qI6 (x:=.int y) rfl (qan6 t) rfl q) ?_;refine qb1 [Ac z a.C5 n wr c,.int r,.int x,.int y,Hc (A6 n wr c x r),.u] (λ K m=>?_) ?_
 . exact qan8 (p:=Ac z a.C5 n wr c) (x:=.int x) (y:=.int r) rfl (qf6 rfl) rfl rfl rfl rfl (qap3 o s i j) rfl m
 refine qb1 [Ac z a.C5 n wr c,.int r,.int x,.int y,Hc (A6 n wr c x r),Hc (A6 n wr c y r)] (λ K m=>?_) ?_
 . exact qan8 (p:=Ac z a.C5 n wr c) (x:=.int y) (y:=.int r) rfl (qf6 rfl) rfl rfl rfl rfl (qap3 o t i j) rfl m
 unfold qk0 at q;cases u:A6 n wr c x r with
 | none =>
   rw[u] at q;exact q
 | some f =>
   rw[u] at q;cases v:A6 n wr c y r with
   | none =>
     rw[v] at q;exact q
   | some g =>
     rw[v] at q;refine qi7 false rfl (λ h=>nomatch h) λ _=>?_
     refine qi7 false rfl (λ h=>nomatch h) λ _=>?_
     exact qd2 _ (qaV9 (a:=decide (g < f)) rfl (qai4 (a:=decide (f=g)) (b:=decide (x < y)) rfl rfl)) q
theorem qI3:qa8 ["plan", "room"] ["plan", "room"] (qa3 qm7):=by walk_at "s"
def qH9(C:γ):VSp:=Ay λ ds d=>∃ z n wr ps r,ds=[Ac z C n wr ps,.int r]/\d=(if 0 < r then .int (r - 1) else if wr=true then .int (n - 1) else .non)
theorem qJ2(T:Txt K mg a):VFn P w K mg base 1 a.f15 a.d15 ["plan", "room"] (qH9 a.C5):=by
 refine VFn.mk2 T.d15.F qI3 (wOf [true,true]) qb2 (λ f Q g h=>by obtain⟨d,⟨z,n,wr,c,r,e,_⟩,_⟩:=h;rw[e];exact⟨rfl,rfl⟩) (λ i A outer j H E k l=>⟨_,(Ab (sif (q2 (An B7 (qb0 _)) B9 (vnm 1) Af)
     (Ag (Ap (qa4 (v2 (Ak qu7) qu6 (vnm 1) Af))))
     Au)
     (Ag (Ap (eif (tv (Bi rfl (vnm 0) T.C7.cl T.Cg)) (qa4 (v2 (Ak qu7) qu6 (Bi rfl (vnm 0) T.C7.cl T.C9) Af)) (qa4 A8))))),λ f Q g h=>?_⟩)
 obtain⟨d,⟨z,n,wr,c,r,rfl,rfl⟩,q⟩:=h;refine At [Ac z a.C5 n wr c,.int r] rfl ?_;refine qi7 (decide (0 < r)) rfl (λ h=>?_) λ h=>?_
 . rw[if_pos (zAc h)] at q
   exact q
 rw[if_neg (zB9 h)] at q;refine qj6 (Ge (b:=wr) (A4 rfl qv6) (λ h=>?_) (λ h=>?_))
 . rw[if_pos h] at q
   exact qn7 (d:=.int (n - 1)) (Ae (A4 rfl qe0) rfl rfl) q
 rw[if_neg (by rw[h];decide)] at q;exact q
theorem qd7:qa8 ["plan", "rooms", "room", "ahead", "thing"] ["plan", "rooms", "room"] (qa3 qe1):=by walk_at "s"
noncomputable def G5:Option Str->D
 | none=>.non
 | some s=>.str s
theorem qag4{t:D}{u:String}(h:t.kind=some u):t=.non∨t.isN=some false:=by
 cases t<;>first | exact .inl rfl | exact .inr rfl | cases h
theorem qF7{t:D}(h:t.num=true):∃ x,t=.int x/\Al x:=by
 cases t with
 | int x =>
   have:=zAh.mp h
   exact⟨x,rfl,zAc this.1,zAc this.2⟩
 | _=>cases h
def Ff(n:Int)(wr:Bool)(ps:Pr)(p:Nat)(t:D)(k:Int):Option Str:=match t with
 | .non=>some "empty"
 | .int x=>if (D.int x).num=true then (if qk0 n wr ps (p:Int) x k=true then none else some "order") else none
 | _=>none
theorem qak6{n:Int}{wr:Bool}{ps:Pr}{p:Nat}{t:D}{k:Int}(h:t.num=false)(h':t.isN=some false):Ff n wr ps p t k=none:=by
 cases t with
 | non=>cases h'
 | int x =>
   show (if (D.int x).num=true then (if qk0 n wr ps (p:Int) x k=true then (none:Option Str) else some "order") else none)=none;rw[if_neg (by rw[h];decide)]
 | _=>rfl
structure Rm(n:Int)(ys:Ds)(r:Nat):Prop where
 len:ys.length=n.toNat
 kn:∀ y∈ys,∃ t,y.kind=some t
 im:D.imms ys=true
 fl:∀ i y,i < r->ys[i]? = some y->y=.non∨∃ k,y=.int k/\Al k
theorem qS9{t:D}{u:String}(h:t.kind=some u):fx1 (λ x=>x.kind.map λ _=>.bl x.num) [t]=some (.bl t.num):=by
 show t.kind.map _=_;rw[h];rfl
theorem Kn{z:Bool}(h:ys[r]? = some y):gIx (.l z ys) (.int (r:Int))=some y:=qL7 h
def ql8(C:γ):VSp:=Ay λ ds d=>∃ z n wr ps z' ys r k t,ds=[Ac z C n wr ps,.l z' ys,.int (r:Nat)]/\1<=n/\r < n.toNat/\(0 < r∨wr=true)/\Rm n ys 0/\ys[r]? = some (.int k)/\Al k/\ys[Row.prev n.toNat r]? = some t/\d=G5 (Ff n wr ps (Row.prev n.toNat r) t k)
theorem qm0(T:Txt K mg a):VFn P w K mg base 7 a.f16 a.d16 ["plan", "rooms", "room"] (ql8 a.C5):=by
 refine VFn.mk2 T.d16.F qd7 (wOf [true,true,true]) qb2 (λ G Q I h=>by obtain⟨d,⟨z,n,wr,c,f,g,r,k,t,e,_⟩,_⟩:=h;rw[e];exact⟨rfl,rfl⟩) (λ J A outer V H E W l=>⟨_,(Ab (Aj 3 qd7.nd (Ah T.d15 (qJ2 T) qa1 (rm l) (vaN 0 (vaN 2 Ad))))
     (Ab (Aj 4 qd7.nd (qb5 (v2 (Av qb6) Am (vnm 1) (vnm 3))))
     (Ab (sif (q2 (An Ey (qb0 _)) Ex (vnm 4) A8)
     (Ag (Ap (qa4 Ec)))
     Au)
     (Ab (sif (Ju (te (Ah T.d6 (qc5 T) qa1 (rm l) (vaN 4 Ad))) (Gv (Bp (te (qk4 0 T.d14 T.C7.cl (qi5 T) qa1 (rm l) (vaN 3 (vaN 4 (vaV (qb5 (v2 (Av qb6) Am (vnm 1) (vnm 2))) Ad)))))))).te
     (Ag (Ap (qa4 Ec)))
     Au)
     (Ag (Ap (qa4 A8))))))),λ G Q I h=>?_⟩)
 obtain⟨d,⟨z,n,wr,c,f,g,r,k,t,rfl,L,m,M,R,N,O,i,rfl⟩,q⟩:=h;refine At [Ac z a.C5 n wr c,.l f g,.int (r:Nat),.u,.u] rfl ?_;have S:=Row.qi4 (n:=n.toNat) m;have v:(if 0 < ((r:Nat):Int) then D.int ((r:Int) - 1) else if wr=true then D.int (n - 1) else .non)=.int (Row.prev n.toNat r:Nat):=by
   rcases Row.por n.toNat r with⟨e1,e2⟩ | ⟨e1,e2⟩
   . rw[if_neg (by lia),if_pos (M.resolve_left (by lia)),e2]
     congr 1;lia
   rw[if_pos (by lia),e2];congr 1;lia
 generalize Row.prev n.toNat r=p at S v q i;obtain⟨u,j⟩:=R.kn t (zBa i);refine qb1 [Ac z a.C5 n wr c,.l f g,.int (r:Nat),.int (p:Nat),.u] (λ K o=>?_) ?_
 . exact qJ8 (x:=Ac z a.C5 n wr c) (y:=.int (r:Nat)) (d:=.int (p:Nat)) rfl rfl rfl ⟨z,n,wr,c,(r:Nat),rfl,v.symm⟩ rfl o
 refine qb1 [Ac z a.C5 n wr c,.l f g,.int (r:Nat),.int (p:Nat),t] (λ K o=>qa0 (Ae rfl rfl (Kn i)) ⟨qt2 R.im i,o⟩) ?_;have B:rdN 4 [Ac z a.C5 n wr c,.l f g,.int (r:Nat),.int (p:Nat),t]=some t:=qh1 rfl (qq0 j);rcases qag4 j with rfl | C
 . exact qi7 true rfl (λ _=>q) λ h=>nomatch h
 refine qi7 false (Ae B rfl (by show t.isN.map D.bl=_;rw[C];rfl)) (λ h=>nomatch h) λ _=>?_
 cases b:t.num with
 | false =>
   rw[qak6 b C] at q;exact qh4 false (λ Q q=>qk5 false false (λ Q q=>qI6 (x:=t) (d:=.bl false) B (by rw[qS9 j,b]) rfl q) (λ h=>nomatch h) q) (λ h=>nomatch h) λ _=>q
 | true =>
   obtain⟨x,rfl,U⟩:=qF7 b;have q:Q (G5 (if (D.int x).num=true then (if qk0 n wr c (p:Int) x k=true then none else some "order") else none)) [Ac z a.C5 n wr c,.l f g,.int (r:Nat)]:=q;rw[if_pos b] at q;refine qh4 (!qk0 n wr c (p:Int) x k) (λ Q q=>qk5 true _ (λ Q q=>qI6 (x:=.int x) (d:=.bl true) rfl (by rw[qS9 j,b]) rfl q) (λ _ Q q=>?_) q) (λ h=>?_) λ h=>?_
   . refine qy8 (p:=Ac z a.C5 n wr c) rfl (qf6 rfl) (qc0 (x:=.int (p:Nat)) rfl (qc0 (x:=.int x) rfl (qd9 (y:=.int k) (Ae rfl rfl (Kn N)) rfl ?_)))
     refine qc7 ?_;refine qa0 (a:=D.int x) rfl ?_;refine qa0 (a:=D.int (p:Nat)) rfl ?_;exact(qa0 (a:=Ac z a.C5 n wr c) rfl (qn9 (d:=.bl (qk0 n wr c (p:Int) x k)) ⟨z,n,wr,c,(p:Nat),x,k,rfl,L,by lia,by lia,U,O,rfl⟩ q))
   . rw[if_neg (by intro s;rw[s] at h;cases h)] at q
     exact q
   rw[if_pos (by cases s:qk0 n wr c (p:Int) x k with | true=>rfl | false=>rw[s] at h;cases h)] at q;exact q
theorem qr3:qa8 ["plan", "rooms", "room", "key", "far"] ["plan", "rooms", "room"] (qa3 qw8):=by walk_at "s"
noncomputable def atD(ys:Ds)(i:Nat):D:=(ys[i]?).getD .non
noncomputable def qz4(k:Int):D->Bool
 | .int j=>decide (j=k)
 | _=>false
def Bz(n:Int)(wr:Bool)(ps:Pr)(ys:Ds)(r:Nat):Option Str:=match atD ys r with
 | .non=>none
 | .int k=>if (D.int k).num=true then (if (ys.take r).any (qz4 k)=true then some "twice" else match A6 n wr ps k (r:Int) with
   | none=>some "home"
   | some f=>if f=0 then none else Ff n wr ps (Row.prev n.toNat r) (atD ys (Row.prev n.toNat r)) k) else some "key"
 | _=>some "key"
theorem qav3{k:Int}:∀{l:Ds},(∀ y∈l,y=.non∨∃ j,y=.int j/\Al j)->∃ a,flats l=some a/\inV (.int k) a=l.any (qz4 k)
 | [],_=>⟨[],rfl,rfl⟩
 | y::l,h=>by
   obtain⟨a,c,e2⟩:=qav3 (k:=k) λ z d=>h z (zA4 _ d)
   rcases h y zAa with rfl | ⟨j,rfl,_⟩
   . refine⟨.non::a,?_,?_⟩
     . show ((flats l).bind λ b=>some (V.non::b))=_
       rw[c];rfl
     show (eqV .non (.int k)||inV (.int k) a)=(false||l.any (qz4 k))
     rw[e2];rfl
   refine⟨.int j::a,?_,?_⟩
   . show ((flats l).bind λ b=>some (V.int j::b))=_
     rw[c];rfl
   show (eqV (.int j) (.int k)||inV (.int k) a)=(decide (j=k)||l.any (qz4 k))
   rw[e2];rfl
theorem qU4:∀{ys:Ds}{r:Nat},D.imms ys=true->D.imms (ys.take r)=true
 | [],r,_=>by rw[List.take_nil];rfl
 | y::ys,0,_=>rfl
 | y::ys,r+1,h=>by
   have:=zAh.mp h
   show (y.imm&&D.imms (ys.take r))=true;rw[this.1,qU4 this.2];rfl
theorem Rm.up{n:Int}(R:Rm n ys r){s:Nat}(h:s<=r):Rm n ys s:=⟨R.len,R.kn,R.im,λ i y a=>R.fl i y (by lia)⟩
def qX2(C:γ):VSp:=Ay λ ds d=>∃ z n wr ps z' ys r,ds=[Ac z C n wr ps,.l z' ys,.int (r:Nat)]/\1<=n/\r < n.toNat/\Rm n ys r/\d=G5 (Bz n wr ps ys r)
theorem qZ0(T:Txt K mg a):VFn P w K mg base 8 a.f17 a.d17 ["plan", "rooms", "room"] (qX2 a.C5):=by
 refine VFn.mk2 T.d17.F qr3 (wOf [true,true,true]) qb2 (λ V Q W h=>by obtain⟨d,⟨z,n,wr,c,j,b,r,e,_⟩,_⟩:=h;rw[e];exact⟨rfl,rfl⟩) (λ X A outer sh H E av B=>⟨_,(Ab (Aj 3 qr3.nd (qb5 (v2 (Av qb6) Am (vnm 1) (vnm 2))))
     (Ab (sif (q2 (An Ey (qb0 _)) Ex (vnm 3) A8)
     (Ag (Ap (qa4 A8)))
     Au)
     (Ab (sif (Bp (te (Ah T.d6 (qc5 T) qa1 (rm B) (vaN 3 Ad))))
     (Ag (Ap (qa4 Ec)))
     Au)
     (Ab (sif (q2 (An qv4 (by with_unfolding_all rfl)) F8 (vnm 3) (vsl (vnm 1) Jw (Jx (vnm 2))))
     (Ag (Ap (qa4 Ec)))
     Au)
     (Ab (Aj 4 qr3.nd (qk4 0 T.d13 T.C7.cl (qi6 T) qa1 (rm B) (vaN 3 (vaN 2 Ad))))
     (Ab (sif (q2 (An Ey (qb0 _)) Ex (vnm 4) A8)
     (Ag (Ap (qa4 Ec)))
     Au)
     (Ab (sif (q2 (An (ql1 B.u64) (qb0 _)) Bl (vnm 4) Af)
     (Ag (Ap (qa4 A8)))
     Au)
     (Ag (Ap (Ah T.d16 (qm0 T) qa1 (rm B) (vaN 0 (vaN 1 (vaN 2 Ad))))))))))))),λ V Q W h=>?_⟩)
 obtain⟨d,⟨z,n,wr,c,j,b,r,rfl,J,m,R,rfl⟩,q⟩:=h;have Y:=Row.qi4 (n:=n.toNat) m;obtain⟨v,s⟩:∃ v,b[r]? = some v:=⟨b[r]'(by rw[R.len];exact m),by simp⟩
 obtain⟨t,N⟩:∃ t,b[Row.prev n.toNat r]? = some t:=⟨b[Row.prev n.toNat r]'(by rw[R.len];exact Y),by simp⟩
 obtain⟨u,C⟩:=R.kn v (zBa s);have Z:atD b r=v:=by unfold atD;rw[s];rfl
 have et:atD b (Row.prev n.toNat r)=t:=by unfold atD;rw[N];rfl
 unfold Bz at q;rw[Z,et] at q;refine At [Ac z a.C5 n wr c,.l j b,.int (r:Nat),.u,.u] rfl ?_;refine qb1 [Ac z a.C5 n wr c,.l j b,.int (r:Nat),v,.u] (λ K L=>qa0 (Ae rfl rfl (Kn s)) ⟨qt2 R.im s,L⟩) ?_;have O:rdN 3 [Ac z a.C5 n wr c,.l j b,.int (r:Nat),v,.u]=some v:=qh1 rfl (qq0 C);rcases qag4 C with rfl | S
 . exact qi7 true rfl (λ _=>q) λ h=>nomatch h
 refine qi7 false (Ae O rfl (by show v.isN.map D.bl=_;rw[S];rfl)) (λ h=>nomatch h) λ _=>?_
 cases g:v.num with
 | false =>
   refine qh4 true (λ Q q=>qI6 (x:=v) (d:=.bl false) O (by rw[qS9 C,g]) rfl q) (λ _=>?_) (λ h=>nomatch h);cases v with
   | non=>cases S
   | int k =>
     have q:Q (G5 (if (D.int k).num=true then _ else some "key")) [Ac z a.C5 n wr c,.l j b,.int (r:Nat)]:=q;rw[if_neg (by rw[g];decide)] at q;exact q
   | _=>exact q
 | true =>
   obtain⟨k,rfl,U⟩:=qF7 g;have q:Q (G5 (if (D.int k).num=true then (if (b.take r).any (qz4 k)=true then some "twice" else match A6 n wr c k (r:Int) with
     | none=>some "home"
     | some f=>if f=0 then none else Ff n wr c (Row.prev n.toNat r) t k) else some "key")) [Ac z a.C5 n wr c,.l j b,.int (r:Nat)]:=q
   rw[if_pos g] at q;refine qh4 false (λ Q q=>qI6 (x:=.int k) (d:=.bl true) rfl (by rw[qS9 C,g]) rfl q) (λ h=>nomatch h) λ _=>?_
   obtain⟨G,e1,e2⟩:=qav3 (k:=k) (l:=b.take r) λ y hy=>by
     obtain⟨i,I⟩:=List.getElem?_of_mem hy;rw[List.getElem?_take] at I;split at I
     . rename_i hlt;exact R.fl i y hlt I
     cases I
   have M:f2 (Jp false) (rdN 3) (fsl (rdN 1) foN (foS (rdN 2))) [Ac z a.C5 n wr c,.l j b,.int (r:Nat),.int k,.u]=some (.bl ((b.take r).any (qz4 k))):=by
     refine Ae (x:=.int k) (y:=.l false (b.take r)) rfl ?_ ?_
     . show gSl (.l j b) none (some (r:Int))=_
       show gd (D.imms (Et b none (some (r:Int)))=true) (.l false (Et b none (some (r:Int))))=_;rw[qG9];exact ql4 (qU4 R.im)
     show ((flats (b.take r)).bind λ G=>some (D.bl (if false=true then !inV (.int k) G else inV (.int k) G)))=_;rw[e1];show some (D.bl (inV (.int k) G))=_;rw[e2]
   refine qi7 _ M (λ h=>?_) λ h=>?_
   . rw[if_pos h] at q;exact q
   rw[if_neg (by rw[h];decide)] at q;refine qb1 [Ac z a.C5 n wr c,.l j b,.int (r:Nat),.int k,Hc (A6 n wr c k (r:Nat))] (λ K L=>?_) ?_
   . exact qan8 (p:=Ac z a.C5 n wr c) (x:=.int k) (y:=.int (r:Nat)) rfl (qf6 rfl) rfl rfl rfl rfl (qap3 J U (by lia) (by lia)) rfl L
   cases o:A6 n wr c k (r:Nat) with
   | none =>
     rw[o] at q;exact qi7 true rfl (λ _=>q) λ h=>nomatch h
   | some f =>
     rw[o] at q;refine qi7 false rfl (λ h=>nomatch h) λ _=>?_
     refine qi7 (decide (f=0)) rfl (λ h=>?_) λ h=>?_
     . have q:Q (G5 (if f=0 then none else Ff n wr c (Row.prev n.toNat r) t k)) [Ac z a.C5 n wr c,.l j b,.int (r:Nat)]:=q
       rw[if_pos (zAc h)] at q;exact q
     have q:Q (G5 (if f=0 then none else Ff n wr c (Row.prev n.toNat r) t k)) [Ac z a.C5 n wr c,.l j b,.int (r:Nat)]:=q;rw[if_neg (zB9 h)] at q;refine Iu (x:=Ac z a.C5 n wr c) (y:=.l j b) (w:=.int (r:Nat)) rfl rfl rfl rfl rfl ⟨z,n,wr,c,j,b,r,k,t,rfl,J,m,?_,R.up (zBe _),s,U,N,rfl⟩ rfl q;cases wr with
     | true=>exact .inr rfl
     | false =>
       left;unfold A6 at o;rw[if_neg (by decide)] at o
       have:=(qah6 J c k).1
       have a0:=zB9 h;split at o
       . cases o;lia
       cases o
theorem qO1:qa8 ["plan", "rooms"] ["plan", "rooms"] (qa3 qr9):=by walk_at "s"
def farP(n:Int)(wr:Bool)(ps:Pr):D->Bool
 | .q [.int i,.int k]=>match A6 n wr ps k i with
   | some f=>decide (0 < f)
   | none=>false
 | _=>false
def qo3(n:Int)(wr:Bool)(ps:Pr)(ys:Ds):Bool:=(enD ys).all (farP n wr ps)
theorem qaD7(ys:Ds):(enD ys).length=ys.length:=by unfold enD;rw[zAd,List.length_zipIdx]
def qN1(C:γ):VSp:=Ay λ ds d=>∃ z n wr ps z' ys,ds=[Ac z C n wr ps,.l z' ys]/\1<=n/\n<=64/\ys.length=n.toNat/\(∀ i v,ys[i]? = some v->v=.non∨∃ k,v=.int k/\Al k/\A6 n wr ps k (i:Nat)≠none)/\d=.bl (qo3 n wr ps ys)
theorem qaC1{p:Nat->D->Prop}(h:∀ i v,ys[i]? = some v->v=.non∨∃ k,v=.int k/\p i v):D.imms ys=true:=by
 induction ys generalizing p with
 | nil=>rfl
 | cons y ys a =>
   have b:=h 0 y rfl;have c:y.imm=true:=by
     rcases b with rfl | ⟨k,rfl,_⟩<;>rfl
   show (y.imm&&D.imms ys)=true;rw[c,a (p:=λ i v=>p (i+1) v) λ i v d=>h (i+1) v d];rfl
theorem qP2(T:Txt K mg a):VFn P w K mg base 6 a.f18 a.d18 ["plan", "rooms"] (qN1 a.C5):=by
 refine VFn.mk2 T.d18.F qO1 (wOf [true,true]) qb2 (λ L Q M h=>by obtain⟨d,⟨z,n,wr,b,o,g,e,_⟩,_⟩:=h;rw[e];exact⟨rfl,rfl⟩) (λ N A outer sh H E j O=>⟨_,(Ag (Ap (ebi (qH1 rfl) qaD9.ops T.Dg (Fm (vaV (ecEN (NY:=["room", "key", "plan"]) (src:=[none,none,some 0]) 1 T.D6 (blk (λ j C r H0 s=>(Hv (n:=2) rfl (qK8 (Bf 0 (show (["room", "key", "plan"]:List Str).Nodup by decide +kernel)) (qK8 (Bf 1 (show (["room", "key", "plan"]:List Str).Nodup by decide +kernel)) Hu)))) (λ j C r H0 s=>Fc) (λ j C r H0 s=>(Fk (qa4 (v2 (Aw qn2 (qb0 _)) qs6 (vnm 1) A8)) (Gw (e2v (Aw B7 (qb0 _)) B9 (qk4 2 T.d13 T.C7.cl (qi6 T) qt1 (rm O) (vaN 1 (vaN 0 Ad))) Af)))))) Ad))))),λ L Q M h=>?_⟩);obtain⟨d,⟨z,n,wr,b,o,g,rfl,S,n2,t,u,rfl⟩,q⟩:=h;refine At [Ac z a.C5 n wr b,.l o g] rfl ?_;have U:D.imms g=true:=qaC1 (p:=λ i v=>∃ k,v=.int k/\Al k/\A6 n wr b k (i:Nat)≠none) λ i v h=>by
   rcases u i v h with h | ⟨k,B,V,W⟩
   . exact .inl h
   exact .inr ⟨k,B,k,B,V,W⟩
 refine qj6 ?_;refine⟨U,?_⟩;refine qh7 (λ ι=>∃ l m,ι=[l,m,Ac z a.C5 n wr b]) (λ y=>some (.bl (farP n wr b y))) (enD g) [] _ (by show 0+(enD g).length < big;rw[qaD7,t];unfold big;lia) ⟨_,_,rfl⟩ ?_ ?_
 . rintro y X ι Y ⟨l,m,rfl⟩ R G c
   obtain⟨i,v,rfl,I⟩:=qaW1 X;have Z:i < n.toNat:=by rw[<- t];exact(zA5.mp I).1
   refine qG4 (qX0 (Bn rfl ?_));rcases u i v I with rfl | ⟨k,rfl,hk,hf⟩
   . exact Fe false rfl (λ h=>nomatch h) λ _=>⟨c,G _ ⟨_,_,rfl⟩⟩
   refine Fe true rfl (λ _=>?_) λ h=>nomatch h
   refine qan8 (p:=Ac z a.C5 n wr b) (x:=.int k) (y:=.int (i:Nat)) rfl (qf6 rfl) rfl rfl rfl rfl (qap3 S hk (by lia) (by lia)) rfl ?_;have this:=G _ ⟨.int (i:Nat),.int k,rfl⟩;cases J:A6 n wr b k (i:Nat) with
   | none=>exact absurd J hf
   | some f =>
     have e:farP n wr b (.q [.int (i:Nat),.int k])=decide (0 < f):=by
       show (match A6 n wr b k (i:Nat) with | some f=>decide (0 < f) | none=>false)=_;rw[J]
     rw[e] at this;exact qa0 (a:=D.bl (decide (0 < f))) rfl ⟨c,this⟩
 rintro ι ⟨l,m,rfl⟩;rw[zAz,qK9];exact qa0 (qaE9 (farP n wr b) (enD g)) q
theorem qr4:qa8 ["plan", "rooms", "room", "word"] ["plan", "rooms"] (qa3 qx0):=by walk_at "s"
def Iy(n:Int)(wr:Bool)(ps:Pr)(ys:Ds):Option (Str×Nat):=(List.range n.toNat).findSome? λ r=>(Bz n wr ps ys r).map λ w=>(w,r)
def qap2(n:Int)(wr:Bool)(ps:Pr)(ys:Ds):D:=match Iy n wr ps ys with
 | some (w,r)=>.q [.str w,.int (r:Nat)]
 | none=>if qo3 n wr ps ys=true then .q [.str "turned",.int 0] else .non
theorem qH4{n:Int}{wr:Bool}{ps:Pr}{v:D}(c:ys[r]? = some v)(h:Bz n wr ps ys r=none):v=.non∨∃ k,v=.int k/\Al k/\A6 n wr ps k (r:Nat)≠none:=by
 have d:atD ys r=v:=by unfold atD;rw[c];rfl
 unfold Bz at h;rw[d] at h;cases v with
 | non=>exact .inl rfl
 | int k =>
   have h:(if (D.int k).num=true then (if (ys.take r).any (qz4 k)=true then (some "twice" : Option Str) else match A6 n wr ps k (r:Int) with
     | none=>some "home"
     | some f=>if f=0 then none else Ff n wr ps (Row.prev n.toNat r) (atD ys (Row.prev n.toNat r)) k) else some "key")=(none:Option Str):=h
   by_cases a:(D.int k).num=true
   . rw[if_pos a] at h
     obtain⟨i,e,b⟩:=qF7 a;cases e;refine .inr ⟨k,rfl,b,λ g=>?_⟩;rw[g] at h;split at h<;>cases h
   rw[if_neg a] at h;cases h
 | _=>cases h
theorem qL0{α:Type}{r:Nat}{f:Nat->Option α}{a:α}:∀{N:Nat},r < N->(∀ i,i < r->f i=none)->f r=some a->(List.range N).findSome? f=some a
 | 0,hr,_,_=>absurd hr (Nat.not_lt_zero _)
 | N+1,hr,h0,h=>by
   rw[List.range_succ,List.findSome?_append];by_cases b:r < N
   . rw[qL0 b h0 h];rfl
   have e:r=N:=by lia
   subst e;rw[List.findSome?_eq_none_iff.mpr λ i c=>h0 i (zAo.mp c)];show [r].findSome? f=_;rw[List.findSome?_cons,h]
theorem qU9{f:Nat->Option α}(a:∀ i,i < N->f i=none):(List.range N).findSome? f=none:=List.findSome?_eq_none_iff.mpr λ i b=>a i (zAo.mp b)
def qX4(C:γ):VSp:=Ay λ ds d=>∃ z n wr ps z' ys,ds=[Ac z C n wr ps,.l z' ys]/\1<=n/\n<=64/\ys.length=n.toNat/\(∀ y∈ys,∃ t,y.kind=some t)/\D.imms ys=true/\d=qap2 n wr ps ys
theorem qZ2(T:Txt K mg a):VFn P w K mg base 9 a.f19 a.d19 ["plan", "rooms"] (qX4 a.C5):=by
 refine VFn.mk2 T.d19.F qr4 (wOf [true,true]) qb2 (λ o Q M h=>by obtain⟨d,⟨z,n,wr,f,g,c,e,_⟩,_⟩:=h;rw[e];exact⟨rfl,rfl⟩) (λ N A outer Z H E av B=>⟨_,(Ab (sif (tor (Bp (tv (vbi qf7 qC0.ops T.Ca (qa2 (vnm 1) (qa2 (vty "list" T.Ct) qa6 rfl) rfl)))) (Im (q2 (An (qn4 B.u64) (qb0 _)) Ef (vbi qt5 qt4.ops T.Cs (qa2 (vnm 1) qa6 rfl)) (Bi rfl (vnm 0) T.C7.cl T.C9)))).te
     (Ag (Ap (qa4 (Fq (qa2 Ec (qa2 Af qa6 rfl) rfl)))))
     Au)
     (Ab (qY4 PassesOwn.leaving T.Cu (Fm (vaV (qb5 (Bi rfl (vnm 0) T.C7.cl T.C9)) Ad)) (Bf 2 qr4.nd)
     (Ab (Aj 3 qr4.nd (Ah T.d17 (qZ0 T) qa1 (rm B) (vaN 0 (vaN 1 (vaN 2 Ad)))))
     (Ag (sif (q2 (An qn2 (qb0 _)) qs6 (vnm 3) A8)
     (Ag (Ap (qa4 (Fq (qa2 (vnm 3) (qa2 (vnm 2) qa6 rfl) rfl)))))
     Au))))
     (Ag (Ap (eif (te (Ah T.d18 (qP2 T) qa1 (rm B) (vaN 0 (vaN 1 Ad)))) (qa4 (Fq (qa2 Ec (qa2 Af qa6 rfl) rfl))) (qa4 A8)))))),λ o Q M h=>?_⟩)
 obtain⟨d,⟨z,n,wr,f,g,c,rfl,J,O,C,G,S,rfl⟩,q⟩:=h;refine At [Ac z a.C5 n wr f,.l g c,.u,.u] rfl ?_;have s:f2 gNe (Bb (fx1 Gu) (Ba (rdN 1) λ _=>some [])) (f1 (D.fld a.C5 "rooms") (rdN 0)) [Ac z a.C5 n wr f,.l g c,.u,.u]=some (.bl false):=Ae (qt0 rfl) (A4 rfl qe0) (by
   show some (D.bl (!((c.length:Nat):Int) == n))=_;rw[show ((c.length:Nat):Int)=n by lia,zB3];rfl)
 refine qh4 false (λ Q q=>qC1 false false (λ Q q=>qh2 (qQ2 rfl) q) (λ _ Q q=>qg1 s q) q) (λ h=>nomatch h) λ _=>?_
 refine qc1 (λ o=>(∀ i,i < n.toNat->Bz n wr f c i=none)/\∃ d t,o=[Ac z a.C5 n wr f,.l g c,d,t]) (λ K p=>?_) ?_
 . refine qQ6 (A4 rfl qe0) (Iv (by lia) (by lia)) ?_
   refine qg9 (λ i o=>(∀ j,j < i->Bz n wr f c j=none)/\∃ d t,o=[Ac z a.C5 n wr f,.l g c,d,t]) _ 0 _ ⟨λ j u=>absurd u (Nat.not_lt_zero _),_,_,rfl⟩ ?_ ?_
   . rintro j x U o ⟨l,d,t,rfl⟩ K p
     rw[zAs] at l p;obtain⟨u,rfl⟩:=qY6 U;have R:Rm n c j:=⟨C,G,S,λ i y m V=>by
       rcases qH4 V (l i m) with h | ⟨k,W,X,_⟩
       . exact .inl h
       exact .inr ⟨k,W,X⟩⟩
     refine qb1 [Ac z a.C5 n wr f,.l g c,.int (j:Nat),G5 (Bz n wr f c j)] (λ K p=>Iu (x:=Ac z a.C5 n wr f) (y:=.l g c) (w:=.int (j:Nat)) rfl rfl rfl rfl rfl ⟨z,n,wr,f,g,c,j,rfl,J,u,R,rfl⟩ rfl p) ?_;cases e:Bz n wr f c j with
     | none =>
       refine if_v (b:=false) rfl (λ h=>nomatch h) λ _=>p _ ⟨λ i m=>?_,_,_,rfl⟩
       rcases Nat.lt_succ_iff_lt_or_eq.mp m with h | rfl
       . exact l i h
       exact e
     | some w =>
       have I:Iy n wr f c=some (w,j):=qL0 u (λ i m=>by rw[l i m];rfl) (by rw[e];rfl);have q:Q (match Iy n wr f c with | some (w,r)=>.q [.str w,.int (r:Nat)] | none=>if qo3 n wr f c=true then .q [.str "turned",.int 0] else .non) [Ac z a.C5 n wr f,.l g c]:=q;rw[I] at q;exact if_v (b:=true) rfl (λ _=>q) λ h=>nomatch h
   rintro o ⟨l,Y⟩;refine p _ ⟨λ i m=>l i ?_,Y⟩;unfold Ei;rw[zAd,zB7,zAs];exact m
 rintro o ⟨l,d,t,rfl⟩;have I:Iy n wr f c=none:=qU9 λ i m=>by rw[l i m];rfl
 have q:Q (match Iy n wr f c with | some (w,r)=>.q [.str w,.int (r:Nat)] | none=>if qo3 n wr f c=true then .q [.str "turned",.int 0] else .non) [Ac z a.C5 n wr f,.l g c]:=q;rw[I] at q;refine qj6 ?_;refine qJ8 (x:=Ac z a.C5 n wr f) (y:=.l g c) (d:=.bl (qo3 n wr f c)) rfl rfl rfl ⟨z,n,wr,f,g,c,rfl,J,O,C,λ i v L=>qH4 L (l i (by rw[<- C];exact(zA5.mp L).1)),rfl⟩ rfl ?_;refine qa0 (a:=qo3 n wr f c) rfl (ite_b (λ h=>?_) λ h=>?_)
 . have q:Q (if qo3 n wr f c=true then .q [.str "turned",.int 0] else .non) [Ac z a.C5 n wr f,.l g c]:=q
   rw[if_pos h] at q;exact q
 have q:Q (if qo3 n wr f c=true then .q [.str "turned",.int 0] else .non) [Ac z a.C5 n wr f,.l g c]:=q;rw[if_neg (by rw[h];decide)] at q;exact q
theorem qr5:qa8 ["self", "plan", "rooms", "held", "fault"] ["self", "plan", "rooms"] (qa3 qx5):=by walk_at "s"
theorem qaE6{g:Nat->Option Int}(h:r < N):atD (Ls N g) r=Ek (g r):=by unfold atD;rw[qK6 h];rfl
theorem qaG0{g:Nat->Option Int}(h:r<=N):(Ls N g).take r=Ls r g:=by
 unfold Ls;rw[<- List.map_take,List.take_range,Nat.min_eq_left h]
theorem qaX6{g:Nat->Option Int}{k:Int}:(Ls r g).any (qz4 k)=true↔∃ j,j < r/\g j=some k:=by
 unfold Ls;rw[List.any_map,List.any_eq_true];constructor
 . rintro⟨j,a,e⟩
   refine⟨j,zAo.mp a,?_⟩;have e:qz4 k (Ek (g j))=true:=e;cases h:g j with
   | none=>rw[h] at e;cases e
   | some x=>rw[h] at e;rw[zAc (show decide (x=k)=true from e)]
 rintro⟨j,a,e⟩;refine⟨j,zAo.mpr a,?_⟩;show qz4 k (Ek (g j))=true;rw[e];exact zAl rfl
theorem qaF0{n:Int}{wr:Bool}{ps:Pr}{g:Nat->Option Int}{k:Int}(a:r < n.toNat)(b:g r=some k)(c:Al k):Bz n wr ps (Ls n.toNat g) r=(if (Ls r g).any (qz4 k)=true then (some "twice" : Option Str) else match A6 n wr ps k (r:Int) with
   | none=>some "home"
   | some f=>if f=0 then none else Ff n wr ps (Row.prev n.toNat r) (Ek (g (Row.prev n.toNat r))) k):=by
 unfold Bz;rw[qaE6 a,qaE6 (Row.qi4 a),qaG0 (Nat.le_of_lt a),b];show (if (D.int k).num=true then _ else _)=_;rw[if_pos (qs7 c)]
 try rfl
theorem qaN9{v:D}(h:ys[i]? = some v):D.q [.int (i:Nat),v]∈enD ys:=zB0.mpr ⟨(v,i),List.mem_zipIdx_iff_getElem?.mpr h,rfl⟩
theorem qag7{n:Int}{wr:Bool}{ps:Pr}{g:Nat->Option Int}{S:List Int}(m:1<=n)(KP:Kept n.toNat wr (Ln n ps) g S)(t:∀ k∈S,Al k):qap2 n wr ps (Ls n.toNat g)=.non:=by
 have p:∀{i k},i < n.toNat->g i=some k->Al k:=λ{i k} l h=>t k ((KP.h.2 k).mpr ⟨i,l,h⟩)
 have b:Iy n wr ps (Ls n.toNat g)=none:=qU9 λ r d=>by
   have:Bz n wr ps (Ls n.toNat g) r=none:=by
     cases a:g r with
     | none=>unfold Bz;rw[qaE6 d,a];rfl
     | some k =>
       have q:=Row.qi4 d;rw[qaF0 d a (p d a),if_neg (λ z=>by
         obtain⟨j,A,e⟩:=qaX6.mp z
         have:=KP.o.inj j r k (by lia) d e a
         lia),qL1 m d (λ b=>KP.ln b r k d a)]
       show (if ((Aa n.toNat (Ln n ps k) r:Nat):Int)=0 then none else _)=_;by_cases B:Aa n.toNat (Ln n ps k) r=0
       . rw[if_pos (by lia)]
       obtain⟨x,s,u⟩:=KP.o.ord r k d a (by lia);rw[if_neg (by lia),s];show (if (D.int x).num=true then (if qk0 n wr ps (Row.prev n.toNat r:Nat) x k=true then (none:Option Str) else some "order") else none)=none;have v:=Ev (ps:=ps) m k;rw[if_pos (qs7 (p q s)),if_pos ((qH3 (ps:=ps) m q (λ b=>KP.ln b _ x q s) (λ b=>by
         have C:=KP.ln b r k d a;have E:=dor n.toNat (Ln n ps k) r;have F:=por n.toNat r
         lia)).mpr u)]
   rw[this];rfl
 have w:qo3 n wr ps (Ls n.toNat g)=false:=by
   obtain⟨i,l,y⟩:=KP.c;refine List.all_eq_false.mpr ⟨_,qaN9 (qK6 l),?_⟩;cases a:g i with
   | none=>exact λ h=>by cases h
   | some k =>
     show ¬ (match A6 n wr ps k (i:Nat) with | some f=>decide (0 < f) | none=>false)=true;rw[qL1 m l (λ b=>KP.ln b i k l a),(qb7 (Ev m k) l).mpr (y k a).symm];exact λ h=>by cases h
 unfold qap2;rw[b,w];rfl
def Lr(zr:Bool)(C CP:γ)(n:Int)(wr:Bool)(ps:Pr)(g:Nat->Option Int)(dn:Ds):D:=.ins zr C [("plan",Ac true CP n wr ps),("held",.l zr (Ls n.toNat g)),("done",.l zr dn)]
section
variable{zr:Bool}{C CP:γ}{n:Int}{wr:Bool}{ps:Pr}{g:Nat->Option Int}{dn:Ds}
theorem qp1:D.fld C "plan" (Lr zr C CP n wr ps g dn)=some (Ac true CP n wr ps):=qD5 (by rfl)
theorem qp2:D.fld C "held" (Lr zr C CP n wr ps g dn)=some (.l zr (Ls n.toNat g)):=qD5 (by rfl)
theorem qS5:D.fld C "done" (Lr zr C CP n wr ps g dn)=some (.l zr dn):=qD5 (by rfl)
theorem qe9(h:([("plan",Ac true CP n wr ps),("held",.l zr (Ls n.toNat g)),("done",.l zr dn)]:List (Str×D)).lookup m=none):(Lr zr C CP n wr ps g dn).isM C m=true:=qau7 h
end
theorem qq4{zr:Bool}{C CP:γ}{n:Int}{wr:Bool}{ps:Pr}{g:Nat->Option Int}{dn:Ds}:D.fidx C "held" (Lr zr C CP n wr ps g dn)=some 1:=by
 show (if C=C then List.findIdx? (λ q:Str×D=>("held" : Str) == q.1) [("plan",Ac true CP n wr ps),("held",.l zr (Ls n.toNat g)),("done",.l zr dn)] else none)=_;rw[if_pos rfl];rfl
theorem qaX1{p:List Nat}{w:V}{d0:D}(h:A7 ds i p=some (.hole w)):bk1 i p w d0 ds=some (Be ds i p d0):=by
 unfold bk1 As;rw[h];simp only[if_true];unfold As;rfl
theorem qaC8{C:γ}{f:Str}{pf:PF}(h:te ds (λ d ds1=>orF (pf ds1) λ q=>orF ((A7 ds1 q.1 q.2).bind (D.ownI C)) λ fs=>fs.length < 100/\e.nx (Be ds1 q.1 q.2 (.ins false C (Ft f d fs)))) e.xe):sFldV C f te pf e ds:=h
theorem mv_to(h:rdN i ds=some d)(q:Q d (ds.set i .u)):tMv i ds Q xe:=qa0 h q
def qX9(C CP:γ):VSp:=λ ds Q _=>∃ n wr ps r g S,ds=[.ins false C [],Ac true CP n wr ps,r]/\1<=n/\n<=64/\(∀ k∈S,Al k)/\Kept n.toNat wr (Ln n ps) g S/\(r=.non/\g=(λ _=>none)∨∃ z,r=.l z (Ls n.toNat g))/\Q .non [Lr false C CP n wr ps g [],Ac true CP n wr ps,r]
theorem qZ5(T:Txt K mg a):VFn P w K mg base 10 a.f27 a.d27 ["self", "plan", "rooms"] (qX9 a.C6 a.C5):=by
 refine VFn.mkE T.d27.F qr5 (wOf [true,true,true]) (λ j Q Q' l p s _ h=>by obtain⟨n,wr,c,r,g,S,e,t,u,v,B,C,q⟩:=h;exact⟨n,wr,c,r,g,S,e,t,u,v,B,C,s _ _ q⟩) (λ j Q l h=>by obtain⟨n,wr,c,r,g,S,e,_⟩:=h;rw[e];rfl) (λ j Q l h=>by obtain⟨n,wr,c,r,g,S,e,_⟩:=h;rw[e];rfl) (λ D A outer L H E M i=>⟨_,(Ab (sif (Bp (tv (vbi (qaE2 T.Do T.C7.cl) qaW9.ops T.Ca (qa2 (vnm 1) (qa2 (vcls a.C5 T.C7.m) qa6 rfl) rfl))))
     (Ag qr2)
     Au)
     (Ab (sif (Ju (q2 (An qn2 (qb0 _)) qs6 (vnm 2) A8) (Gv (Bp (tv (vbi qf7 qC0.ops T.Ca (qa2 (vnm 2) (qa2 (vty "list" T.Ct) qa6 rfl) rfl)))))).te
     (Ag qr2)
     Au)
     (Ab (Aj 3 qr5.nd (eif (q2 (An Ey (qb0 _)) Ex (vnm 2) A8) (qa4 (v2 (Ak qy2) qy1 (Bk (qa2 A8 qa6 rfl)) (Bi rfl (vnm 1) T.C7.cl T.C9))) (qa4 (Gi qh0 qL3.ops T.Ct (qa2 (vnm 2) qa6 rfl)))))
     (Ab (Aj 4 qr5.nd (Ah T.d19 (qZ2 T) qa1 (rm i) (vaN 1 (vaN 3 Ad))))
     (Ab (sif (q2 (An qn2 (qb0 _)) qs6 (vnm 4) A8)
     (Ag qr2)
     Au)
     (Ab (G8 rfl (vpn 0) (qb5 (vnm 1)) T.C8.cl T.Cj)
     (Ab (G8 rfl (vpn 0) (emv 3) T.C8.cl T.Cd)
     (Ag (G8 rfl (vpn 0) (qa4 (Bk qa6)) T.C8.cl T.Ck))))))))),λ j Q l h=>?_⟩)
 obtain⟨n,wr,c,r,g,S,rfl,o,G,I,KP,i,q⟩:=h;have N:r.known=true:=by
   rcases i with⟨rfl,_⟩ | ⟨z,rfl⟩<;>rfl
 refine At [.ins false a.C6 [],Ac true a.C5 n wr c,r,.u,.u] rfl ?_;refine qaM8 (show gIsO a.C5 (Ac true a.C5 n wr c) (.adr a.C5)=some (.bl true) from qaC0) ?_;refine qh4 false (λ Q q=>?_) (λ h=>(nomatch h)) λ _=>?_
 . rcases i with⟨rfl,_⟩ | ⟨z,rfl⟩
   . exact qk5 false false (λ Q q=>qg1 (b:=false) (Ae rfl rfl rfl) q) (λ h=>(nomatch h)) q
   exact qk5 true false (λ Q q=>qg1 (b:=true) (Ae rfl rfl rfl) q) (λ _ Q q=>qh2 (b:=true) (qQ2 rfl) q) q
 refine qb1 [.ins false a.C6 [],Ac true a.C5 n wr c,r,.l false (Ls n.toNat g),.u] (λ K f=>qd8 ?_) ?_
 . rcases i with⟨rfl,rfl⟩ | ⟨z,rfl⟩
   . exact Ge (b:=true) (Ae rfl rfl rfl) (λ _=>qn7 (Ae rfl (A4 rfl qe0) (qaf5 (by lia) G)) f) λ h=>(nomatch h)
   exact Ge (b:=false) (Ae rfl rfl rfl) (λ h=>(nomatch h)) λ _=>qn7 (d:=.l false (Ls n.toNat g)) (show Jr (.l z (Ls n.toNat g))=_ from ql4 (qK0 _ _)) f
 refine qb1 [.ins false a.C6 [],Ac true a.C5 n wr c,r,.l false (Ls n.toNat g),.non] (λ K f=>qd8 ?_) ?_
 . refine qJ8 (x:=Ac true a.C5 n wr c) (y:=.l false (Ls n.toNat g)) (d:=qap2 n wr c (Ls n.toNat g)) rfl rfl rfl ⟨true,n,wr,c,false,Ls n.toNat g,rfl,o,by lia,qz1 _ _,λ y J=>?_,qK0 _ _,rfl⟩ rfl ?_
   . rcases qam4 J with rfl | ⟨k,rfl⟩
     . exact⟨_,rfl⟩
     exact⟨_,rfl⟩
   rw[qag7 o KP I];exact f
 refine qh4 false (λ Q q=>qg1 (b:=false) (Ae rfl rfl rfl) q) (λ h=>(nomatch h)) λ _=>?_
 refine qb1 [.ins false a.C6 [("plan",Ac true a.C5 n wr c)],Ac true a.C5 n wr c,r,.l false (Ls n.toNat g),.non] (λ K f=>qaC8 (qz5 (d:=Ac true a.C5 n wr c) rfl rfl (qa0 (a:=(0,[])) rfl (qa0 qj8 ⟨by decide,f⟩)))) ?_;refine qb1 [.ins false a.C6 [("plan",Ac true a.C5 n wr c),("held",.l false (Ls n.toNat g))],Ac true a.C5 n wr c,r,.u,.non] (λ K f=>qaC8 (mv_to (d:=.l false (Ls n.toNat g)) rfl (qa0 (a:=(0,[])) rfl (qa0 qj8 ⟨by show 1 < 100;decide,f⟩)))) ?_;exact qaC8 (qn7 (d:=.l false []) rfl (qa0 (a:=(0,[])) rfl (qa0 qj8 ⟨by show 2 < 100;decide,q⟩)))
theorem qI5:qa8 ["self", "key"] ["self", "key"] (qa3 qm9):=by walk_at "s"
theorem qJ4(T:Txt K mg a):B6 P w K mg base CX0 1 a.f2 a.d2 ["self", "key"] (spX1 a.Ce "key"):=by
 refine T.d2.F.ok qI5 (λ b H Q E h=>?_) (λ c A outer s H b Q E j h=>?_)
 . obtain⟨e,v,rfl,_⟩:=h
   rfl
 obtain⟨e,v,rfl,d,k⟩:=h;exact⟨_,(qm3 (qad6 (pv 0) (pv 1))),_,rfl,_,rfl,e,a.Ce,rfl,T.Dm,T.D8,.inl ⟨d,λ f g i=>k f g i⟩⟩
theorem qE7:qa8 ["self", "room"] ["self", "room"] (qa3 qk9):=by walk_at "s"
theorem qF6(T:Txt K mg a):B6 P w K mg base CX0 1 a.f1 a.d1 ["self", "room"] (spX1 a.Cc "room"):=by
 refine T.d1.F.ok qE7 (λ b H Q E h=>?_) (λ c A outer s H b Q E j h=>?_)
 . obtain⟨e,v,rfl,_⟩:=h
   rfl
 obtain⟨e,v,rfl,d,k⟩:=h;exact⟨_,(qm3 (qad6 (pv 0) (pv 1))),_,rfl,_,rfl,e,a.Cc,rfl,T.Dc,T.Cz,.inl ⟨d,λ f g i=>k f g i⟩⟩
theorem qO2:qa8 ["plan", "keys", "room"] ["plan", "keys", "room"] (qa3 qs2):=by walk_at "s"
def qN3(C:γ):VSp:=Ay λ ds d=>∃ z n wr ps z' ks r,ds=[Ac z C n wr ps,.l z' (Lq ks),.int r]/\1<=n/\(∀ k∈ks,Al k)/\ks.length<=1000/\d=.bl (if wr=true then decide (r=0)&&decide (n < (ks.length:Int)) else decide (n - r < ((ks.filter λ k=>decide (r<=qc9 n ps k)).length:Int)))
theorem qP3(T:Txt K mg a):VFn P w K mg base 5 a.f20 a.d20 ["plan", "keys", "room"] (qN3 a.C5):=by
 refine VFn.mk2 T.d20.F qO2 (wOf [true,true,true]) qb2 (λ u Q v h=>by obtain⟨d,⟨z,n,wr,b,g,c,r,e,_⟩,_⟩:=h;rw[e];exact⟨rfl,rfl⟩) (λ B A outer M H E i o=>⟨_,(Ab (sif (tv (Bi rfl (vnm 0) T.C7.cl T.Cg))
     (Ag (Ap (qa4 (vand (v2 (Aw (ql1 o.u64) (qb0 _)) Bl (vnm 2) Af) (Jv (v2 (Aw B7 (qb0 _)) B9 (vbi qt5 qt4.ops T.Cs (qa2 (vnm 1) qa6 rfl)) (Bi rfl (vnm 0) T.C7.cl T.C9)))))))
     Au)
     (Ag (Ap (e2v (Aw B7 (qb0 _)) B9 (ebi qt5 qt4.ops T.Cs (Fm (vaV (ecN (NY:=["key", "room", "plan"]) (src:=[none,some 2,some 0]) 1 (blk (λ i C s H0 t=>(Bf 0 (show (["key", "room", "plan"]:List Str).Nodup by decide +kernel))) (λ i C s H0 t=>(G1 (q2v (Aw Hh (qb0 _)) (An Hh (qb0 _)) Jo (qk4 2 T.d12 T.C7.cl (qn6 T) qt1 (rm o) (vaN 0 Ad)) (vnm 1)))) (λ i C s H0 t=>(qb5 (vnm 0))))) Ad))) (v2 (Ak qu7) qu6 (Bi rfl (vnm 0) T.C7.cl T.C9) (vnm 2)))))),λ u Q v h=>?_⟩)
 obtain⟨d,⟨z,n,wr,b,g,c,r,rfl,G,I,N,rfl⟩,q⟩:=h;refine At [Ac z a.C5 n wr b,.l g (Lq c),.int r] rfl ?_;refine qi7 wr (A4 rfl qv6) (λ h=>?_) λ h=>?_
 . rw[if_pos h] at q
   have j:f2 gGt (Bb (fx1 Gu) (Ba (rdN 1) λ _=>some [])) (f1 (D.fld a.C5 "rooms") (rdN 0)) [Ac z a.C5 n wr b,.l g (Lq c),.int r]=some (.bl (decide (n < (c.length:Int)))):=Ae (qt0 rfl) (A4 rfl qe0) (by rw[qe8];rfl);exact qd2 _ (qai4 (a:=decide (r=0)) rfl j) q
 rw[if_neg (by rw[h];decide)] at q;refine qj6 ?_;refine⟨qg8 c,?_⟩;refine qh7 (λ ι=>∃ d,ι=[d,.int r,Ac z a.C5 n wr b]) (Fd λ k=>decide (r<=qc9 n b k)) (Lq c) [] _ (by show 0+(Lq c).length < big;rw[qe8];unfold big;lia) ⟨_,rfl⟩ ?_ ?_
 . rintro y J ι l ⟨d,rfl⟩ R L f
   obtain⟨k,m,rfl⟩:=zB0.mp J;refine qG0 (p:=Ac z a.C5 n wr b) (x:=.int k) (d:=.int (qc9 n b k)) rfl (qf6 rfl) rfl rfl ⟨z,n,wr,b,k,rfl,G,I k m,rfl⟩ rfl ?_;have this:=L _ ⟨.int k,rfl⟩;refine qa0 (a:=D.bl (decide (r<=qc9 n b k))) rfl (qa0 (a:=decide (r<=qc9 n b k)) rfl (ite_b (λ h=>?_) λ h=>?_))
   . rw[qT9 (p:=λ k=>decide (r<=qc9 n b k)) h] at this
     exact⟨rfl,f,this⟩
   rw[qU0 (p:=λ k=>decide (r<=qc9 n b k)) h] at this;have this:R (l++[]) _:=this;rw[zAe] at this;exact this
 rintro ι ⟨d,rfl⟩;rw[zAz,qz3];refine qa0 (a:=D.bl (decide (n - r < ((c.filter λ k=>decide (r<=qc9 n b k)).length:Int)))) ?_ q;show (f2 gSub (f1 (D.fld a.C5 "rooms") (rdN 0)) (rdN 2) [Ac z a.C5 n wr b,.l g (Lq c),.int r]).bind (gGt (D.int ((Lq (c.filter λ k=>decide (r<=qc9 n b k))).length:Nat)))=_;rw[Ae (A4 rfl qe0) rfl rfl,qe8];rfl
theorem qm2:qa8 ["plan", "keys", "room"] ["plan", "keys"] (qa3 qj3):=by walk_at "s"
def qR0(n:Int)(wr:Bool)(ps:Pr)(ks:List Int)(r:Int):Bool:=if wr=true then decide (r=0)&&decide (n < (ks.length:Int)) else decide (n - r < ((ks.filter λ k=>decide (r<=qc9 n ps k)).length:Int))
def qD7(n:Int)(wr:Bool)(ps:Pr)(ks:List Int):Option Nat:=(List.range n.toNat).find? λ r=>qR0 n wr ps ks (r:Int)
noncomputable def natD:Option Nat->D
 | none=>.non
 | some k=>.int (k:Int)
def qA6(C:γ):VSp:=Ay λ ds d=>∃ z n wr ps z' ks,ds=[Ac z C n wr ps,.l z' (Lq ks)]/\1<=n/\n<=64/\(∀ k∈ks,Al k)/\ks.length<=1000/\d=natD (qD7 n wr ps ks)
theorem qB4(T:Txt K mg a):VFn P w K mg base 6 a.f21 a.d21 ["plan", "keys"] (qA6 a.C5):=by
 refine VFn.mk2 T.d21.F qm2 (wOf [true,true]) qb2 (λ g Q s h=>by obtain⟨d,⟨z,n,wr,c,m,f,e,_⟩,_⟩:=h;rw[e];exact⟨rfl,rfl⟩) (λ t A outer I H E J u=>⟨_,(Ab (qY4 PassesOwn.leaving T.Cu (Fm (vaV (qb5 (Bi rfl (vnm 0) T.C7.cl T.C9)) Ad)) (Bf 2 qm2.nd)
     (Ag (sif (te (Ah T.d20 (qP3 T) qa1 (rm u) (vaN 0 (vaN 1 (vaN 2 Ad)))))
     (Ag (Ap (emv 2)))
     Au)))
     (Ag (Ap (qa4 A8)))),λ g Q s h=>?_⟩)
 obtain⟨d,⟨z,n,wr,c,m,f,rfl,v,L,B,C,rfl⟩,q⟩:=h;refine At [Ac z a.C5 n wr c,.l m (Lq f),.u] rfl ?_;refine qc1 (λ g=>(∀ i,i < n.toNat->qR0 n wr c f (i:Int)=false)/\∃ d,g=[Ac z a.C5 n wr c,.l m (Lq f),d]) (λ K o=>?_) ?_
 . refine qQ6 (A4 rfl qe0) (Iv (by lia) (by lia)) ?_
   refine qg9 (λ i g=>(∀ j,j < i->qR0 n wr c f (j:Int)=false)/\∃ d,g=[Ac z a.C5 n wr c,.l m (Lq f),d]) _ 0 _ ⟨λ j p=>absurd p (Nat.not_lt_zero _),_,rfl⟩ ?_ ?_
   . rintro j x D g ⟨k,d,rfl⟩ K o
     rw[zAs] at k o;obtain⟨p,rfl⟩:=qY6 D;refine if_e (b:=qR0 n wr c f (j:Int)) (λ Q s q=>Iu (x:=Ac z a.C5 n wr c) (y:=.l m (Lq f)) (w:=.int (j:Int)) rfl rfl rfl rfl rfl ⟨z,n,wr,c,m,f,_,rfl,v,B,C,rfl⟩ rfl q) (λ r=>?_) (λ r=>?_)
     . have e:qD7 n wr c f=some j:=List.find?_range_eq_some.mpr ⟨r,zAo.mpr p,λ i l=>by rw[k i l];rfl⟩
       rw[e] at q;exact q
     refine o _ ⟨λ i l=>?_,_,rfl⟩;rcases Nat.lt_succ_iff_lt_or_eq.mp l with h | rfl
     . exact k i h
     exact r
   rintro g ⟨k,G⟩;refine o _ ⟨λ i l=>k i ?_,G⟩;unfold Ei;rw[zAd,zB7,zAs];exact l
 rintro g ⟨k,d,rfl⟩;have e:qD7 n wr c f=none:=List.find?_range_eq_none.mpr λ i l=>by rw[k i l];rfl
 rw[e] at q;exact q
theorem qm1:qa8 ["plan", "keys", "room"] ["plan", "keys"] (qa3 qj1):=by walk_at "s"
def qaf2(n:Int)(wr:Bool)(ps:Pr)(ks:List Int):Prop:=∀ r:Nat,r < n.toNat->qR0 n wr ps ks (r:Int)=false
theorem qV7{n:Int}{wr:Bool}{ps:Pr}{ks:List Int}(h1:1<=n)(a:r < n.toNat):qR0 n wr ps ks (r:Int)=true↔Crowd n.toNat wr (Ln n ps) ks r:=by
 unfold qR0 Crowd;cases wr with
 | true =>
   simp only[if_true,zB4,zB5];lia
 | false =>
   have e:(ks.filter λ k=>decide ((r:Int)<=qc9 n ps k))=ks.filter λ k=>decide (r<=Ln n ps k):=by
     apply List.filter_congr;intro k _
     have:=qK3 (ps:=ps) h1 k
     apply zBt.mpr;lia
   simp only[Bool.false_eq_true,if_false,e,zB5];lia
theorem qaf2.no{n:Int}{wr:Bool}{ps:Pr}{ks:List Int}(h:qaf2 n wr ps ks)(h1:1<=n)(q:Nat):¬ Crowd n.toNat wr (Ln n ps) ks q:=λ z=>by
 have:=h q z.1
 rw[(qV7 h1 z.1).mpr z] at this;cases this
def qA4(C CN:γ):VSp:=λ ds Q xe=>∃ z n wr ps z' ks,ds=[Ac z C n wr ps,.l z' (Lq ks)]/\1<=n/\n<=64/\(∀ k∈ks,Al k)/\ks.length<=1000/\(qaf2 n wr ps ks->Q .non ds)/\(∀ r:Nat,Crowd n.toNat wr (Ln n ps) ks r->xe ⟨CN,[("room",.int (r:Nat))]⟩ ds)
theorem qB2(T:Txt K mg a):VFn P w K mg base 7 a.f22 a.d22 ["plan", "keys"] (qA4 a.C5 a.Cc):=by
 refine VFn.mk2 T.d22.F qm1 (wOf [true,true]) (λ m Q Q' o p s t h=>by obtain⟨z,n,wr,f,i,g,e,k,l,u,v,B,C⟩:=h;exact⟨z,n,wr,f,i,g,e,k,l,u,v,λ c=>s _ _ (B c),λ r c=>t _ _ (C r c)⟩) (λ m Q o h=>by obtain⟨z,n,wr,f,i,g,e,_⟩:=h;rw[e];exact⟨rfl,rfl⟩) (λ D A outer N H E O j=>⟨_,(Ab (Aj 2 qm1.nd (Ah T.d21 (qB4 T) qa1 (rm j) (vaN 0 (vaN 1 Ad))))
     (Ag (sif (q2 (An qn2 (qb0 _)) qs6 (vnm 2) A8)
     (Ag (qaw9 T.De (qF6 T) (rm j) T.D5 T.d1.b qa1 (qb5 (vnm 2))))
     Au))),λ m Q o h=>?_⟩)
 obtain⟨z,n,wr,f,i,g,rfl,k,l,G,I,q,J⟩:=h;refine At [Ac z a.C5 n wr f,.l i (Lq g),.u] rfl ?_;refine qb1 [Ac z a.C5 n wr f,.l i (Lq g),natD (qD7 n wr f g)] (λ K L=>?_) ?_
 . exact qJ8 (x:=Ac z a.C5 n wr f) (y:=.l i (Lq g)) (d:=natD (qD7 n wr f g)) rfl rfl rfl ⟨z,n,wr,f,i,g,rfl,k,l,G,I,rfl⟩ rfl L
 cases e:qD7 n wr f g with
 | none=>exact if_v (b:=false) rfl (λ h=>nomatch h) λ _=>q λ r j=>by simpa using List.find?_range_eq_none.mp e r j
 | some r =>
   have M:=List.find?_some e;have j:=zAo.mp (List.mem_of_find?_eq_some e);refine if_v (b:=true) rfl (λ _=>?_) λ h=>nomatch h
   exact qz5 (d:=.int (r:Nat)) rfl rfl ⟨rfl,J r ((qV7 k j).mp M)⟩
theorem qg3:qa8 ["plan", "rooms", "key", "came", "room", "held"] ["plan", "rooms", "key"] (qa3 qx1):=by walk_at "s"
def qX5(C:γ):VSp:=λ ds Q _=>∃ z n wr ps g S a,ds=[Ac z C n wr ps,.l false (Ls n.toNat g),.int a]/\1<=n/\n<=64/\Al a/\(∀ k∈S,Al k)/\Kept n.toNat wr (Ln n ps) g S/\¬ a∈S/\(∃ e,Jj n.toNat wr (Ln n ps) g a e) /\
 ∀ came g',Kept n.toNat wr (Ln n ps) g' (S++[a])->Q (.l false came) [Ac z C n wr ps,.l false (Ls n.toNat g'),.int a]
theorem qC8(T:Txt K mg a):VFn P w K mg base 7 a.f23 a.d23 ["plan", "rooms", "key"] (qX5 a.C5):=by
 refine VFn.mk2 T.d23.F qg3 (wOf [true,true,false]) (λ o Q Q' J R U _ h=>by obtain⟨z,n,wr,f,g,S,key,e,V,X,Y,Z,h5,h6,h7,q⟩:=h;exact⟨z,n,wr,f,g,S,key,e,V,X,Y,Z,h5,h6,h7,λ c g' K=>U _ _ (q c g' K)⟩) (λ o Q J h=>by obtain⟨z,n,wr,f,g,S,key,e,_⟩:=h;rw[e];exact⟨rfl,rfl⟩) (λ a0 A outer sh H E av k=>⟨_,(Ab (Aj 3 qg3.nd (qa4 (Bk qa6)))
     (Ab (Aj 4 qg3.nd (qk4 0 T.d12 T.C7.cl (qn6 T) qa1 (rm k) (vaN 2 Ad)))
     (Ab (qab8 PassesOwn.leaving (q2 (An qn2 (qb0 _)) qs6 (v2 (Av qb6) Am (vnm 1) (vnm 4)) A8)
     (Ab (Aj 5 qg3.nd (qb5 (v2 (Av qb6) Am (vnm 1) (vnm 4))))
     (Ab (sif (te (qk4 0 T.d14 T.C7.cl (qi5 T) qa1 (rm k) (vaN 4 (vaN 2 (vaN 5 Ad)))))
     (Ab (Bc (Bq 3 qp6 F.plainAttrs_list F.slot_list_append F.type_list_append qc6 (vaV (qa4 (Fq (qa2 (vnm 2) (qa2 (vnm 4) qa6 rfl) rfl))) Ad)))
     (Ab (Fs (qb5 (vnm 2)) (E4 (vpn 1) (vnm 4)))
     (Ag (Aj 2 qg3.nd (qb5 (vnm 5))))))
     Au)
     (Ag (Aj 4 qg3.nd (qa4 (v2 (Ak qn5) qn1 (v2 (Ak qf4) qf3 (vnm 4) Af) (Bi rfl (vnm 0) T.C7.cl T.C9))))))))
     (Ab (Bc (Bq 3 qp6 F.plainAttrs_list F.slot_list_append F.type_list_append qc6 (vaV (qa4 (Fq (qa2 (vnm 2) (qa2 (vnm 4) qa6 rfl) rfl))) Ad)))
     (Ab (Fs (qb5 (vnm 2)) (E4 (vpn 1) (vnm 4)))
     (Ag (Ap (emv 3)))))))),λ o Q J h=>?_⟩)
 obtain⟨z,n,wr,f,g,S,key,rfl,u,n2,s,hS,KP,B,⟨e,Fr⟩,q⟩:=h;have hh:=Ev (ps:=f) u key;have N:∀ x∈S++[key],Al x:=λ x v=>by
   rcases zAb.mp v with h | h
   . exact hS x h
   rw[zA8.mp h];exact s
 have L:(S++[key]).Nodup:=zBd.mpr ⟨KP.h.1,(by simp),λ x v y C e=>B (by rw[<- zA8.mp C,<- e];exact v)⟩;refine At [Ac z a.C5 n wr f,.l false (Ls n.toNat g),.int key,.u,.u,.u] rfl ?_;refine qb1 [Ac z a.C5 n wr f,.l false (Ls n.toNat g),.int key,.l false [],.u,.u] (λ K j=>j) ?_;refine qb1 [Ac z a.C5 n wr f,.l false (Ls n.toNat g),.int key,.l false [],.int (Ln n f key:Nat),.u] (λ K j=>?_) ?_
 . exact qG0 (p:=Ac z a.C5 n wr f) (x:=.int key) (d:=.int (Ln n f key:Nat)) rfl (qf6 rfl) rfl rfl ⟨z,n,wr,f,key,rfl,u,s,by rw[qK3 u]⟩ rfl j
 refine qc1 (λ o=>∃ i c r came t,o=[Ac z a.C5 n wr f,.l false (Ls n.toNat i),.int c,.l false came,.int (r:Nat),t]/\Row.Walk n.toNat wr (Ln n f) (S++[key]) key e i c r/\i r=none/\came.length<=64) (λ K j=>?_) ?_
 . have W0:=KP.start B Fr
   refine qM3 (λ m o=>∃ i c r came t,o=[Ac z a.C5 n wr f,.l false (Ls n.toNat i),.int c,.l false came,.int (r:Nat),t]/\Row.Walk n.toNat wr (Ln n f) (S++[key]) key e i c r/\m=Aa n.toNat (Ln n f key) e - Aa n.toNat (Ln n f key) r/\came.length+m<=64) _ ⟨g,key,Ln n f key,[],_,rfl,W0,rfl,by have:=qh6 Fr.1 hh;show 0+_<=64;lia⟩ ?_;rintro m o ⟨i,c,r,came,t,rfl,W,rfl,hc⟩ K2 M;have k:=W.hr;cases l:i r with
   | none =>
     refine qg1 (b:=false) (Ae (Ae rfl rfl (Fw k)) rfl (by rw[l];rfl)) ?_;exact j _ ⟨i,c,r,came,t,rfl,W,l,by lia⟩
   | some y =>
     refine qg1 (b:=true) (Ae (Ae rfl rfl (Fw k)) rfl (by rw[l];rfl)) ?_;have v:wr=false->Ln n f c<=r:=λ h=>(W.ln h).2.1
     have C:wr=false->Ln n f y<=r:=λ h=>(W.ln h).2.2 r y k l
     have cT:Al c:=N c ((W.all c).mpr (.inl rfl));have yT:Al y:=N y ((W.all y).mpr (.inr ⟨r,k,l⟩));have lt:=W.lt l;have O:=W.nx l;refine Bn rfl ?_;refine qb1 [Ac z a.C5 n wr f,.l false (Ls n.toNat i),.int c,.l false came,.int (r:Nat),.int y] (λ K j=>?_) ?_
     . exact qS4 (d:=.int y) (Ae rfl rfl (by rw[Fw k,l];rfl)) rfl j
     refine qc1 (λ o=>∃ D G came3,o=[Ac z a.C5 n wr f,.l false (Ls n.toNat D),.int G,.l false came3,.int (r:Nat),.int y]/\Row.Walk n.toNat wr (Ln n f) (S++[key]) key e D G (Row.next n.toNat r)/\came3.length<=came.length+1) (λ K j=>?_) ?_
     . refine if_e (b:=qk0 n wr f (r:Nat) c y) (λ Q J q=>qaT7 (p:=Ac z a.C5 n wr f) (x:=.int (r:Nat)) (y:=.int c) (w:=.int y) rfl (qf6 rfl) rfl rfl rfl rfl rfl rfl ⟨z,n,wr,f,(r:Nat),c,y,rfl,u,by lia,by lia,cT,yT,rfl⟩ rfl q) (λ I=>?_) (λ I=>?_)
       . have ha:=(qH3 u k v C).mp I
         refine qb1 [Ac z a.C5 n wr f,.l false (Ls n.toNat i),.int c,.l false (came++[.q [.int c,.int (r:Nat)]]),.int (r:Nat),.int y] (λ K j=>?_) ?_
         . exact qD8 (ys:=came) (d:=.q [.int c,.int (r:Nat)]) rfl rfl (by show came.length < 1000000;lia) j
         refine qb1 [Ac z a.C5 n wr f,.l false (Ls n.toNat (Row.set i r c)),.int c,.l false (came++[.q [.int c,.int (r:Nat)]]),.int (r:Nat),.int y] (λ K j=>?_) ?_
         . refine qH7 (d:=.int c) (ys:=Ls n.toNat i) rfl rfl rfl rfl (Ix k) ?_
           rw[qE5];exact j
         exact qS4 (d:=.int y) rfl rfl (j _ ⟨Row.set i r c,y,_,rfl,W.swap l ha,by rw[zA7];exact zA6 _⟩)
       exact j _ ⟨i,c,came,rfl,W.on l (λ h=>by rw[(qH3 u k v C).mpr h] at I;cases I),by lia⟩
     rintro o ⟨D,G,came3,rfl,W3,a1⟩;refine qw3 (d:=.int (Row.next n.toNat r:Nat)) (Ae (Ae rfl rfl rfl) (A4 rfl qe0) (by rw[E8 (by lia),qaA6 u k])) ?_;exact M _ _ (by rw[O];lia) ⟨D,G,_,came3,_,rfl,W3,rfl,by rw[O];lia⟩
 rintro o ⟨i,c,r,came,t,rfl,W,l,hc⟩;have k:=W.hr;refine qb1 [Ac z a.C5 n wr f,.l false (Ls n.toNat i),.int c,.l false (came++[.q [.int c,.int (r:Nat)]]),.int (r:Nat),t] (λ K j=>?_) ?_
 . exact qD8 (ys:=came) (d:=.q [.int c,.int (r:Nat)]) rfl rfl (by show came.length < 1000000;lia) j
 refine qb1 [Ac z a.C5 n wr f,.l false (Ls n.toNat (Row.set i r c)),.int c,.l false (came++[.q [.int c,.int (r:Nat)]]),.int (r:Nat),t] (λ K j=>?_) ?_
 . refine qH7 (d:=.int c) (ys:=Ls n.toNat i) rfl rfl rfl rfl (Ix k) ?_
   rw[qE5];exact j
 exact q _ _ (W.done L l)
theorem qw6:qa8 ["self"] ["self"] (qa3 qh9):=by walk_at "s"
theorem _root_.Row.Kept.perm{n:Nat}{wr:Bool}{hm:Int->Nat}{g:Nat->Option Int}{S:List Int}(KP:Kept n wr hm g S):((List.range n).filterMap g).Perm S:=by
 refine(List.perm_ext_iff_of_nodup ?_ KP.h.1).mpr λ k=>?_
 . refine List.pairwise_filterMap.mpr (List.Pairwise.imp_of_mem (R:=(·≠·)) (λ{i j} a d f b l m c e=>?_) List.nodup_range)
   subst e;exact f (KP.o.inj i j b (zAo.mp a) (zAo.mp d) l c)
 rw[KP.h.2 k,List.mem_filterMap];exact⟨λ ⟨i,a,e⟩=>⟨i,zAo.mp a,e⟩,λ ⟨i,a,e⟩=>⟨i,zAo.mpr a,e⟩⟩
noncomputable def G6(y:D):Option D:=match y with
 | .int k=>some (.int k)
 | _=>none
theorem qag8(N:Nat)(g:Nat->Option Int):(Ls N g).filterMap G6=Lq ((List.range N).filterMap g):=by
 unfold Ls Lq;rw[List.filterMap_map,List.map_filterMap];refine congrArg (λ f=>List.filterMap f (List.range N)) (funext λ i=>?_);show G6 (Ek (g i))=(g i).map D.int;cases g i<;>rfl
def qw0(C CP:γ):VSp:=Ay λ ds d=>∃ zr n wr ps g dn,ds=[Lr zr C CP n wr ps g dn]/\n<=64/\d=.l false (Lq ((List.range n.toNat).filterMap g))
theorem ql2(T:Txt K mg a):VFn P w K mg base 1 a.f29 a.d29 ["self"] (qw0 a.C6 a.C5):=by
 refine VFn.mk2 T.d29.F qw6 (wOf [true]) qb2 (λ t Q u h=>by obtain⟨d,⟨p,n,wr,r,g,s,e,_⟩,_⟩:=h;rw[e];exact⟨rfl,rfl⟩) (λ v A outer x H E i z=>⟨_,(Ag (Ap (eAlt (ecP (NY:=["key"]) (src:=[none]) (Fa rfl (vpn 0) T.C8.cl T.Cd) (blk (λ i C j H0 l=>(Bf 0 (show (["key"]:List Str).Nodup by decide +kernel))) (λ i C j H0 l=>(G1 (q2 (An qn2 (qb0 _)) qs6 (vnm 0) A8))) (λ i C j H0 l=>(qb5 (vnm 0))))) (ecL (NY:=["key"]) (src:=[none]) (qb5 (Bi rfl (vnm 0) T.C8.cl T.Cd)) (blk (λ i C j H0 l=>(Bf 0 (show (["key"]:List Str).Nodup by decide +kernel))) (λ i C j H0 l=>(G1 (q2 (An qn2 (qb0 _)) qs6 (vnm 0) A8))) (λ i C j H0 l=>(qb5 (vnm 0)))))))),λ t Q u h=>?_⟩);obtain⟨d,⟨p,n,wr,r,g,s,rfl,B,rfl⟩,q⟩:=h;refine At [Lr p a.C6 a.C5 n wr r g s] rfl ?_;have step:∀(y:D),y∈Ls n.toNat g->∀(d:D)(c:Ds)(R:Ds->Ds->Prop),(∀ ι',(∃ d,ι'=[d])->R (c++(G6 y).toList) ι')->c.length < big->gNm 0 y [d] λ ι1=>ttV (f2 gIsn (rdN 0) (kC .non)) ι1 (λ b ι2=>if b=true then Ee (rdN 0) ι2 (λ d ι3=>c.length < big/\R (c++[d]) ι3) (λ _ _=>False) else R c ι2) (λ _ _=>False):=λ y m d c R o f=>by
   have this:=o [y] ⟨_,rfl⟩;refine qq2 ?_;rcases qam4 m with rfl | ⟨k,rfl⟩
   . have this:R (c++[]) _:=this
     rw[zAe] at this;exact qg1 (b:=false) (Ae rfl rfl rfl) (Es (by decide) this)
   exact qg1 (b:=true) (Ae rfl rfl rfl) (Bn rfl (qz5 (d:=.int k) rfl rfl ⟨f,this⟩))
 cases p with
 | false =>
   refine qj6 (.inl (qa0 (a:=(0,[1])) (by show (D.fidx a.C6 "held" (Lr false a.C6 a.C5 n wr r g s)).map (λ n=>(0,[n]))=_;rw[qq4];rfl) (qa0 (a:=D.l false (Ls n.toNat g)) rfl (qa0 (a:=Ls n.toNat g) rfl ⟨qK0 _ _,λ w=>?_⟩))));refine qh7 (λ ι=>∃ d,ι=[d]) G6 _ [] _ (by show 0+_ < 1000000;rw[qz1];lia) ⟨_,rfl⟩ (λ y m ι c ⟨d,e⟩ R o f=>e ▸ step y m d c R o f) ?_;rintro ι ⟨d,rfl⟩;rw[qag8,zAz];exact qa0 (qaX1 rfl) q
 | true =>
   refine qj6 (.inr (qz5 (d:=.l true (Ls n.toNat g)) (A4 rfl qp2) rfl (qa0 (a:=Ls n.toNat g) rfl ⟨qK0 _ _,?_⟩)));refine qh7 (λ ι=>∃ d,ι=[d]) G6 _ [] _ (by show 0+_ < 1000000;rw[qz1];lia) ⟨_,rfl⟩ (λ y m ι c ⟨d,e⟩ R o f=>e ▸ step y m d c R o f) ?_;rintro ι ⟨d,rfl⟩;rw[qag8,zAz];exact q
theorem qo7:qa8 ["self", "key"] ["self", "key"] (qa3 qk8):=by walk_at "s"
noncomputable def G7:Option Int->V
 | some k=>.int k
 | none=>.non
theorem qG6(N:Nat)(g:Nat->Option Int):flats (Ls N g)=some ((List.range N).map λ i=>G7 (g i)):=by
 have:∀ l:List Nat,flats (l.map λ i=>Ek (g i))=some (l.map λ i=>G7 (g i)):=λ l=>by
   induction l with
   | nil=>rfl
   | cons a l b =>
     show ((Ek (g a)).flat.bind λ v=>(flats (l.map λ i=>Ek (g i))).bind λ c=>some (v::c))=_;rw[b,zAw];cases g a<;>rfl
 exact this _
noncomputable def El(N:Nat)(g:Nat->Option Int)(k:Int):Option Nat:=(List.range N).findIdx? λ i=>decide (g i=some k)
def Bd(N:Nat)(g:Nat->Option Int)(k:Int):D:=match El N g k with
 | some i=>.int (i:Nat)
 | none=>.non
theorem qav5{o:Option Int}{k:Int}:eqV (G7 o) (.int k)=decide (o=some k):=by
 cases o with
 | none=>rfl
 | some a =>
   show decide (a=k)=_;exact zBt.mpr ⟨λ h=>by rw[h],λ h=>Option.some.inj h⟩
theorem qU5{k:Int}{g:Nat->Option Int}:∀ l:List Nat,Bu (.int k) (l.map λ i=>G7 (g i))=l.findIdx? λ i=>decide (g i=some k)
 | []=>rfl
 | a::l=>by
   show (if eqV (G7 (g a)) (.int k)=true then some 0 else (Bu (.int k) (l.map λ i=>G7 (g i))).map (· + 1))=_;rw[qav5,qU5 l,zC5]
theorem qaM3{k:Int}{g:Nat->Option Int}:∀ l:List Nat,inV (.int k) (l.map λ i=>G7 (g i))=(l.findIdx? λ i=>decide (g i=some k)).isSome
 | []=>rfl
 | a::l=>by
   have b:=qaM3 (k:=k) (g:=g) l;unfold inV at b ⊢;rw[zAw,zBz,b,zC5];have e:=qav5 (o:=g a) (k:=k);cases h:decide (g a=some k) with
   | true=>rw[h] at e;simp[e]
   | false=>rw[h] at e;simp[e]
theorem qF1{g:Nat->Option Int}{k:Int}(h:∀ i,i < N->g i≠some k):Bd N g k=.non:=by
 have:El N g k=none:=List.findIdx?_eq_none_iff.mpr λ i a=>zB2 (h i (zAo.mp a))
 unfold Bd;rw[this]
theorem qv2{g:Nat->Option Int}{k:Int}(hi:i < N)(e:g i=some k):∃ j:Nat,Bd N g k=.int (j:Nat):=by
 unfold Bd;cases h:El N g k with
 | some j=>exact⟨j,rfl⟩
 | none =>
   have:=List.findIdx?_eq_none_iff.mp h i (zAo.mpr hi)
   rw[zAl e] at this;cases this
def qE2(C CP:γ):VSp:=Ay λ ds d=>∃ zr n wr ps g dn k,ds=[Lr zr C CP n wr ps g dn,.int k]/\Al k/\d=Bd n.toNat g k
theorem qg2(T:Txt K mg a):VFn P w K mg base 4 a.f31 a.d31 ["self", "key"] (qE2 a.C6 a.C5):=by
 refine VFn.mk2 T.d31.F qo7 (wOf [true,true]) qb2 (λ r Q p h=>by obtain⟨d,⟨b,n,wr,l,g,m,k,e,_⟩,_⟩:=h;rw[e];exact⟨rfl,rfl⟩) (λ s A outer z H E B t=>⟨_,(Ab (sif (Bp (te (Ah T.d6 (qc5 T) qa1 (rm t) (vaN 1 Ad))))
     (Ag qr2)
     Au)
     (Ag (Ap (eif (q2 (An qv4 (by with_unfolding_all rfl)) F8 (vnm 1) (Bi rfl (vnm 0) T.C8.cl T.Cd)) (qa4 (vbm qaz6 F.plainAttrs_list F.slot_list_index F.type_list_index qF9 (Bi rfl (vnm 0) T.C8.cl T.Cd) (vnm 1) qah4)) (qa4 A8))))),λ r Q p h=>?_⟩)
 obtain⟨d,⟨b,n,wr,l,g,m,k,rfl,u,rfl⟩,q⟩:=h;refine At [Lr b a.C6 a.C5 n wr l g m,.int k] rfl ?_;refine Gd (λ Q p q=>qI6 (x:=.int k) (d:=.bl true) rfl (qan6 u) rfl q) (qj6 ?_);have o:f2 (Jp false) (rdN 1) (f1 (D.fld a.C6 "held") (rdN 0)) [Lr b a.C6 a.C5 n wr l g m,.int k]=some (.bl (El n.toNat g k).isSome):=by
   refine Ae (x:=.int k) (y:=.l b (Ls n.toNat g)) rfl (A4 rfl qp2) ?_;show ((flats (Ls n.toNat g)).bind λ c=>some (D.bl (if false=true then !inV (.int k) c else inV (.int k) c)))=_;rw[qG6];show some (D.bl (inV (.int k) _))=_;rw[qaM3];rfl
 refine Ge o (λ h=>?_) λ h=>?_
 . obtain⟨i,f⟩:=zAv.mp h
   refine qn7 (d:=.int (i:Nat)) (Ae (A4 rfl qp2) rfl ?_) ?_
   . show ((some (V.int k)).bind λ v=>(flats (Ls n.toNat g)).bind λ c=>(Bu v c).map λ j=>D.int (j:Nat))=_
     rw[qG6];show (Bu (.int k) _).map _=_;rw[qU5];show (El n.toNat g k).map _=_;rw[f];rfl
   unfold Bd at q;rw[f] at q;exact q
 refine qn7 (d:=.non) rfl ?_;have f:El n.toNat g k=none:=by cases e:El n.toNat g k with | none=>rfl | some i=>rw[e] at h;cases h
 unfold Bd at q;rw[f] at q;exact q
theorem qac8:qa8 ["self", "key"] ["self", "key"] (qa3 qE8):=by walk_at "s"
theorem qG7{C CP:γ}{n:Int}{wr:Bool}{ps:Pr}{g:Nat->Option Int}{dn:Ds}:D.fidx C "done" (Lr false C CP n wr ps g dn)=some 2:=by
 show (if C=C then List.findIdx? (λ q:Str×D=>("done" : Str) == q.1) [("plan",Ac true CP n wr ps),("held",.l false (Ls n.toNat g)),("done",.l false dn)] else none)=_;rw[if_pos rfl];rfl
def qac0(C CP CT CN:γ):VSp:=λ ds Q xe=>∃ n wr ps g dn S k,ds=[Lr false C CP n wr ps g dn,.int k]/\Al k/\1<=n/\n<=64/\(∀ y∈S,Al y)/\Kept n.toNat wr (Ln n ps) g S/\dn.length<=1000 /\
 (k∈S->xe ⟨CT,[("key",.int k)]⟩ ds)/\(¬ k∈S->(∀ r:Nat,Crowd n.toNat wr (Ln n ps) (S++[k]) r->xe ⟨CN,[("room",.int (r:Nat))]⟩ ds) /\
   ((∀ q,¬ Crowd n.toNat wr (Ln n ps) (S++[k]) q)->∀ came g',Kept n.toNat wr (Ln n ps) g' (S++[k])->Q (.l false came) [Lr false C CP n wr ps g' (dn++[.q [.str "put",.int k]]),.int k]))
theorem qae9(T:Txt K mg a):VFn P w K mg base 8 a.f32 a.d32 ["self", "key"] (qac0 a.C6 a.C5 a.Ce a.Cc):=by
 refine VFn.mk2 T.d32.F qac8 (wOf [true,true]) (λ s Q Q' O U V v h=>by obtain⟨n,wr,f,g,l,S,k,e,W,X,Y,Z,h4,h5,q0,q⟩:=h;exact⟨n,wr,f,g,l,S,k,e,W,X,Y,Z,h4,h5,λ a=>v _ _ (q0 a),λ i=>⟨λ r c=>v _ _ ((q i).1 r c),λ o c C K=>V _ _ ((q i).2 o c C K)⟩⟩) (λ s Q O h=>by obtain⟨n,wr,f,g,l,S,k,e,_⟩:=h;rw[e];exact⟨rfl,rfl⟩) (λ a0 A outer sh H E av t=>⟨_,(Ab (sif (q2v (Aw qn2 (qb0 _)) (An qn2 (qb0 _)) qs6 (qk4 0 T.d31 T.C8.cl (qg2 T) qa1 (rm t) (vaN 1 Ad)) A8)
     (Ag (qaw9 T.Dh (qJ4 T) (rm t) T.D9 T.d2.b qa1 (qb5 (vnm 1))))
     Au)
     (Ab (Bc (Ah T.d22 (qB2 T) qa1 (rm t) (vaV (qb5 (Bi rfl (vnm 0) T.C8.cl T.Cj)) (vaV (e2v (Ak qf4) qf3 (qq6 0 T.d29 T.C8.cl (ql2 T) qa1 (rm t)) (Bk (qa2 (vnm 1) qa6 rfl))) Ad))))
     (Ab (Bc (emutP qp6 F.plainAttrs_list F.slot_list_append F.type_list_append qc6 (Fa rfl (vpn 0) T.C8.cl T.Ck) (vaV (qa4 (Fq (qa2 Ec (qa2 (vnm 1) qa6 rfl) rfl))) Ad)))
     (Ag (Ap (Ah T.d23 (qC8 T) qa1 (rm t) (vaV (qb5 (Bi rfl (vnm 0) T.C8.cl T.Cj)) (vaB (Fa rfl (vpn 0) T.C8.cl T.Cd) (vaN 1 Ad))))))))),λ s Q O h=>?_⟩)
 obtain⟨n,wr,f,g,l,S,k,rfl,G,I,J,R,KP,a1,q1,q2⟩:=h;have L:=KP.perm;have hL:((List.range n.toNat).filterMap g).length<=64:=by
   have:=List.length_filterMap_le g (List.range n.toNat)
   rw[zB7] at this;lia
 refine At [Lr false a.C6 a.C5 n wr f g l,.int k] rfl ?_;refine qQ3 (qY7 (qG0 (p:=Lr false a.C6 a.C5 n wr f g l) (x:=.int k) (d:=Bd n.toNat g k) rfl (qe9 rfl) rfl rfl ⟨false,n,wr,f,g,l,k,rfl,G,rfl⟩ rfl ?_));by_cases m:k∈S
 . obtain⟨i,M,e⟩:=(KP.h.2 k).mp m
   obtain⟨j,hj⟩:=qv2 M e;rw[hj];exact qa0 (a:=D.bl true) rfl (qa0 (a:=true) rfl (Bn rfl (qz5 (d:=.int k) rfl rfl ⟨rfl,q1 m⟩)))
 obtain⟨qn,q⟩:=q2 m;rw[qF1 λ i M e=>m ((KP.h.2 k).mpr ⟨i,M,e⟩)];refine qa0 (a:=D.bl false) rfl (qa0 (a:=false) rfl (Es (λ h=>nomatch h) ?_));refine qc1 (λ s=>s=[Lr false a.C6 a.C5 n wr f g l,.int k]/\∀ q,¬ Crowd n.toNat wr (Ln n f) (S++[k]) q) (λ K N=>qh5 (qi9 ?_)) ?_
 . refine qd9 (y:=Ac true a.C5 n wr f) (A4 rfl qp1) rfl (qj0 (qA3 ?_))
   refine qP9 (p:=Lr false a.C6 a.C5 n wr f g l) (d:=.l false (Lq ((List.range n.toNat).filterMap g))) rfl (qe9 rfl) ⟨false,n,wr,f,g,l,rfl,J,rfl⟩ rfl ?_;refine qa0 (a:=D.l false (Lq ((List.range n.toNat).filterMap g++[k]))) (Kk (z:=false) (z':=false) (B:=[k]) (by show _+1<=1000;lia)) (qc7 ?_);refine⟨true,n,wr,f,false,_,rfl,I,J,λ x v=>?_,by rw[zA7];show _+1<=1000;lia,λ o=>N _ ⟨rfl,λ q c=>o.no I q (c.perm (L.append_right [k]).symm)⟩,λ r c=>qn r (c.perm (L.append_right [k]))⟩;rcases zAb.mp v with h | h
   . exact R x (L.subset h)
   rw[zA8.mp h];exact G
 rintro s ⟨rfl,o⟩
 replace q:=q o
 refine qb1 [Lr false a.C6 a.C5 n wr f g (l++[.q [.str "put",.int k]]),.int k] (λ K N=>qh5 ?_) ?_
 . refine qaf4 (i:=0) (p:=[2]) (ys:=l) (d0:=Lr false a.C6 a.C5 n wr f g l) (by show (D.fidx a.C6 "done" (Lr false a.C6 a.C5 n wr f g l)).map (λ n=>(0,[n]))=_;rw[qG7];rfl) rfl rfl ?_
   exact qf8 (y:=.q [.str "put",.int k]) rfl (qc7 (qa0 (a:=(l++[D.q [.str "put",.int k]],D.non)) (if_pos (show l.length < big by unfold big;lia)) N))
 generalize l++[.q [.str "put",.int k]]=u at q ⊢;refine qj6 (qi9 (qd9 (y:=Ac true a.C5 n wr f) (A4 rfl qp1) rfl ?_));refine qa0 (a:=(0,[1])) (by show (D.fidx a.C6 "held" (Lr false a.C6 a.C5 n wr f g u)).map (λ n=>(0,[n]))=_;rw[qq4];rfl) (qa0 (a:=D.l false (Ls n.toNat g)) rfl ⟨rfl,λ w=>?_⟩);refine qc0 (x:=.int k) rfl (qc7 (qa0 (a:=D.int k) rfl ?_));refine⟨true,n,wr,f,g,S,k,rfl,I,J,G,R,KP,m,?_,λ came C K'=>?_⟩
 . by_cases h:∃ e,Jj n.toNat wr (Ln n f) g k e
   . exact h
   obtain⟨q,c⟩:=KP.crowd λ e z=>h ⟨e,z⟩
   exact absurd c (o q)
 refine qa0 (a:=[Lr false a.C6 a.C5 n wr f C u,.int k]) ?_ (q came C K');show As (.pl 0 [1] w::_) _ _=_;rw[qH2 rfl];rfl
theorem qw7:qa8 ["self", "key"] ["self", "key"] (qa3 qi0):=by walk_at "s"
theorem qy5(T:Txt K mg a):B6 P w K mg base CX0 1 a.f3 a.d3 ["self", "key"] (spX1 a.Cb "key"):=by
 refine T.d3.F.ok qw7 (λ b H Q E h=>?_) (λ c A outer s H b Q E j h=>?_)
 . obtain⟨e,v,rfl,_⟩:=h
   rfl
 obtain⟨e,v,rfl,d,k⟩:=h;exact⟨_,(qm3 (qad6 (pv 0) (pv 1))),_,rfl,_,rfl,e,a.Cb,rfl,T.D4,T.Cw,.inl ⟨d,λ f g i=>k f g i⟩⟩
theorem qE6:qa8 ["plan", "room"] ["plan", "room"] (qa3 qk7):=by walk_at "s"
def qo5(C:γ):VSp:=Ay λ ds d=>∃ z n wr ps r,ds=[Ac z C n wr ps,.int r]/\d=(if r < n - 1 then .int (r+1) else if wr=true then .int 0 else .non)
theorem qp4(T:Txt K mg a):VFn P w K mg base 1 a.f24 a.d24 ["plan", "room"] (qo5 a.C5):=by
 refine VFn.mk2 T.d24.F qE6 (wOf [true,true]) qb2 (λ f Q g h=>by obtain⟨d,⟨z,n,wr,c,r,e,_⟩,_⟩:=h;rw[e];exact⟨rfl,rfl⟩) (λ i A outer j H E k l=>⟨_,(Ab (sif (q2 (An Hf (qb0 _)) Ho (vnm 1) (v2 (Ak qu7) qu6 (Bi rfl (vnm 0) T.C7.cl T.C9) Af))
     (Ag (Ap (qa4 (v2 (Ak qf4) qf3 (vnm 1) Af))))
     Au)
     (Ag (Ap (eif (tv (Bi rfl (vnm 0) T.C7.cl T.Cg)) (qa4 Af) (qa4 A8))))),λ f Q g h=>?_⟩)
 obtain⟨d,⟨z,n,wr,c,r,rfl,rfl⟩,q⟩:=h;refine At [Ac z a.C5 n wr c,.int r] rfl ?_;refine qi7 (decide (r < n - 1)) (Ae rfl (Ae (A4 rfl qe0) rfl rfl) rfl) (λ h=>?_) λ h=>?_
 . rw[if_pos (zAc h)] at q
   exact qd2 (.int (r+1)) rfl q
 rw[if_neg (zB9 h)] at q;refine qj6 (Ge (b:=wr) (A4 rfl qv6) (λ h=>?_) (λ h=>?_))
 . rw[if_pos h] at q
   exact qn7 (d:=.int 0) rfl q
 rw[if_neg (by rw[h];decide)] at q;exact q
theorem qw5:qa8 ["plan", "rooms", "room"] ["plan", "rooms", "room"] (qa3 qh8):=by walk_at "s"
def qv9(C:γ):VSp:=Ay λ ds d=>∃ z n wr ps z' g x,ds=[Ac z C n wr ps,.l z' (Ls n.toNat g),x]/\1<=n/\(x=.non/\d=.bl false∨∃ r:Nat,r < n.toNat/\x=.int (r:Nat)/\(g r=none/\d=.bl false∨∃ k,g r=some k/\Al k/\(wr=false->Ln n ps k<=r)/\d=.bl (decide (0 < Aa n.toNat (Ln n ps k) r))))
theorem qy3(T:Txt K mg a):VFn P w K mg base 6 a.f25 a.d25 ["plan", "rooms", "room"] (qv9 a.C5):=by
 refine VFn.mk2 T.d25.F qw5 (wOf [true,true,true]) qb2 (λ j Q l h=>by obtain⟨d,⟨z,n,wr,b,f,g,x,e,_⟩,_⟩:=h;rw[e];exact⟨rfl,rfl⟩) (λ m A outer o H E s c=>⟨_,(Ag (Ap (Fk (qa4 (v2 (Aw qn2 (qb0 _)) qs6 (vnm 2) A8)) (Fk (qa4 (v2 (Aw qn2 (qb0 _)) qs6 (v2 (Av qb6) Am (vnm 1) (vnm 2)) A8)) (Gw (e2v (Aw B7 (qb0 _)) B9 (qk4 0 T.d13 T.C7.cl (qi6 T) qa1 (rm c) (vaV (qb5 (v2 (Av qb6) Am (vnm 1) (vnm 2))) (vaN 2 Ad))) Af)))))),λ j Q l h=>?_⟩);obtain⟨d,⟨z,n,wr,b,f,g,x,rfl,i,h⟩,q⟩:=h;refine At [Ac z a.C5 n wr b,.l f (Ls n.toNat g),x] rfl ?_;rcases h with⟨rfl,rfl⟩ | ⟨r,c,rfl,h⟩
 . exact qj6 (Fe false rfl (λ h=>(nomatch h)) λ _=>q)
 rcases h with⟨hg,rfl⟩ | ⟨k,hg,hk,hl,rfl⟩
 . exact qj6 (Fe true rfl (λ _=>Fe false (Ae (Ae rfl rfl (Fw c)) rfl (by rw[hg];rfl)) (λ h=>(nomatch h)) λ _=>q) λ h=>(nomatch h))
 refine qj6 (Fe true rfl (λ _=>Fe true (Ae (Ae rfl rfl (Fw c)) rfl (by rw[hg];rfl)) (λ _=>qA3 ?_) λ h=>(nomatch h)) λ h=>(nomatch h));refine qy8 (p:=Ac z a.C5 n wr b) rfl (qf6 rfl) (qd9 (y:=.int k) (Ae rfl rfl (by rw[Fw c,hg];rfl)) rfl (qc0 (x:=.int (r:Nat)) rfl (qc7 (qa0 (a:=D.int (r:Nat)) rfl (qa0 (a:=Ac z a.C5 n wr b) rfl ⟨_,⟨z,n,wr,b,k,(r:Nat),rfl,i,hk,by lia,by lia,rfl⟩,?_⟩)))));rw[qL1 i c hl];refine qa0 (a:=[Ac z a.C5 n wr b,.l f (Ls n.toNat g),.int (r:Nat)]) rfl ?_;refine qa0 (a:=D.bl (decide (0 < ((Aa n.toNat (Ln n b k) r:Nat):Int)))) rfl ?_;rw[zBt.mpr (show (0 < ((Aa n.toNat (Ln n b k) r:Nat):Int))↔0 < Aa n.toNat (Ln n b k) r by lia)];exact q
theorem qg4:qa8 ["plan", "rooms", "room", "came", "behind"] ["plan", "rooms", "room"] (qa3 qs1):=by walk_at "s"
noncomputable def qu0(N:Nat)(wr:Bool)(p:Nat):D:=if p+1 < N then .int (p+1:Nat) else if wr=true then .int 0 else .non
theorem qar1{n:Int}{wr:Bool}{p:Nat}(a:1<=n)(b:p < n.toNat):(if ((p:Nat):Int) < n - 1 then D.int (((p:Nat):Int)+1) else if wr=true then D.int 0 else D.non)=qu0 n.toNat wr p:=by
 unfold qu0;by_cases h:p+1 < n.toNat
 . rw[if_pos (by lia),if_pos h];rfl
 rw[if_neg (by lia),if_neg h]
theorem qaa9{wr:Bool}{p:Nat}(a:p < N):qu0 N wr p=.int (Row.next N p:Nat)∨(qu0 N wr p=.non/\wr=false/\p+1=N):=by
 unfold qu0;have h:=nor N p;by_cases e:p+1 < N
 . rw[if_pos e];exact .inl (by rw[show Row.next N p=p+1 by lia])
 rw[if_neg e];cases wr with
 | true=>exact .inl (by rw[if_pos rfl,show Row.next N p=0 by lia];rfl)
 | false=>exact .inr ⟨rfl,rfl,by lia⟩
def qN2(C:γ):VSp:=λ ds Q _=>∃ z n wr ps g S k r,ds=[Ac z C n wr ps,.l false (Ls n.toNat g),.int (r:Nat)]/\1<=n/\n<=64/\(∀ x∈S,Al x)/\Kept n.toNat wr (Ln n ps) g S/\r < n.toNat/\g r=some k /\
 ∀ came g',Kept n.toNat wr (Ln n ps) g' (S.filter λ x=>decide (x≠k))->Q (.l false came) [Ac z C n wr ps,.l false (Ls n.toNat g'),.int (r:Nat)]
theorem qy4(T:Txt K mg a):VFn P w K mg base 7 a.f26 a.d26 ["plan", "rooms", "room"] (qN2 a.C5):=by
 refine VFn.mk2 T.d26.F qg4 (wOf [true,true,false]) (λ v Q Q' O a2 hQ _ h=>by obtain⟨z,n,wr,f,g,S,k,r,e,L,M,h3,h4,h5,h6,q⟩:=h;exact⟨z,n,wr,f,g,S,k,r,e,L,M,h3,h4,h5,h6,λ c g' K=>hQ _ _ (q c g' K)⟩) (λ v Q O h=>by obtain⟨z,n,wr,f,g,S,k,r,e,_⟩:=h;rw[e];exact⟨rfl,rfl⟩) (λ a3 A outer u H E av b=>⟨_,(Ab (Aj 3 qg4.nd (qa4 (Bk qa6)))
     (Ab (Fs (qa4 A8) (E4 (vpn 1) (vnm 2)))
     (Ab (Aj 4 qg4.nd (Ah T.d24 (qp4 T) qa1 (rm b) (vaN 0 (vaN 2 Ad))))
     (Ab (qab8 PassesOwn.leaving (te (Ah T.d25 (qy3 T) qa1 (rm b) (vaN 0 (vaN 1 (vaN 4 Ad)))))
     (Ab (Bc (Bq 3 qp6 F.plainAttrs_list F.slot_list_append F.type_list_append qc6 (vaV (qa4 (Fq (qa2 (v2 (Av qb6) Am (vnm 1) (vnm 4)) (qa2 (vnm 2) qa6 rfl) rfl))) Ad)))
     (Ab (Fs (qb5 (v2 (Av qb6) Am (vnm 1) (vnm 4))) (E4 (vpn 1) (vnm 2)))
     (Ab (Fs (qa4 A8) (E4 (vpn 1) (vnm 4)))
     (Ab (Aj 2 qg4.nd (qb5 (vnm 4)))
     (Ag (Aj 4 qg4.nd (Ah T.d24 (qp4 T) qa1 (rm b) (vaN 0 (vaN 2 Ad))))))))))
     (Ag (Ap (emv 3))))))),λ v Q O h=>?_⟩)
 obtain⟨z,n,wr,f,g,S,k,r,rfl,R,n2,hS,KP,b,hk,q⟩:=h;refine At [Ac z a.C5 n wr f,.l false (Ls n.toNat g),.int (r:Nat),.u,.u] rfl ?_;refine qb1 [Ac z a.C5 n wr f,.l false (Ls n.toNat g),.int (r:Nat),.l false [],.u] (λ K s=>s) ?_;have e0:Ls n.toNat (λ j=>if j=r then none else g j)=Ls n.toNat (Aq n.toNat g r 0):=qp0 λ i hi=>(qw1 b hi).symm
 refine qb1 [Ac z a.C5 n wr f,.l false (Ls n.toNat (Aq n.toNat g r 0)),.int (rot n.toNat r 0:Nat),.l false [],.u] (λ K s=>?_) ?_
 . refine qS1 (d:=.non) (ys:=Ls n.toNat g) rfl rfl rfl (Ix b) ?_
   rw[show (Ls n.toNat g).set r .non=Ls n.toNat (λ j=>if j=r then none else g j) from qac6 (o:=none),e0];rw[qad4 b] at s;exact s
 have bh:∀(J:Nat)(K:Ds->Prop)(O:XKd)(N U:D),J < n.toNat->K [Ac z a.C5 n wr f,.l false (Ls n.toNat (Aq n.toNat g r J)),.int (rot n.toNat r J:Nat),N,qu0 n.toNat wr (rot n.toNat r J)]->qk6 (qo5 a.C5) [] (tbN 0 (tbN 2 Ax)) [Ac z a.C5 n wr f,.l false (Ls n.toNat (Aq n.toNat g r J)),.int (rot n.toNat r J:Nat),N,U] (λ d a0=>K (a0.set 4 d)) O:=λ J K O N U hJ s =>
   qJ8 (x:=Ac z a.C5 n wr f) (y:=.int (rot n.toNat r J:Nat)) rfl rfl rfl ⟨z,n,wr,f,_,rfl,(qar1 R (qO8 b hJ)).symm⟩ rfl s
 refine qb1 [Ac z a.C5 n wr f,.l false (Ls n.toNat (Aq n.toNat g r 0)),.int (rot n.toNat r 0:Nat),.l false [],qu0 n.toNat wr (rot n.toNat r 0)] (λ K s=>qd8 (bh 0 _ _ _ _ (by lia) s)) ?_;refine qc1 (λ v=>∃ J came U,v=[Ac z a.C5 n wr f,.l false (Ls n.toNat (Aq n.toNat g r J)),.int (rot n.toNat r J:Nat),.l false came,U]/\Sh n.toNat (Ln n f) g r J/\Stop n.toNat wr (Ln n f) g r J) (λ K s=>?_) ?_
 . refine qM3 (λ m v=>∃ J came,v=[Ac z a.C5 n wr f,.l false (Ls n.toNat (Aq n.toNat g r J)),.int (rot n.toNat r J:Nat),.l false came,qu0 n.toNat wr (rot n.toNat r J)]/\Sh n.toNat (Ln n f) g r J/\came.length=J/\m+J=n.toNat) n.toNat ⟨0,[],rfl,Sh.start b,rfl,by lia⟩ ?_
   rintro m v ⟨J,came,rfl,u,hc,hm⟩ K2 a1;have hJ:=u.hJ;have hp:=qO8 b hJ;rcases qaa9 (wr:=wr) hp with hb | ⟨hb,hw,hl⟩
   . have p:=Row.qf9 hp
     have V:∀ x,Aq n.toNat g r J (Row.next n.toNat (rot n.toNat r J))=some x->0 < Aa n.toNat (Ln n f x) (Row.next n.toNat (rot n.toNat r J))->J+1 < n.toNat/\g (rot n.toNat r (J+1))=some x:=λ x p B=>by
       by_cases l:J+1 < n.toNat
       . rw[qy6 b l,qw2 b l] at p
         exact⟨l,p⟩
       rw[qt7 b (by lia)] at p B;by_cases W:0 < J
       . rw[qC2 b W] at p
         have:=u.round KP.o KP.c b hk (by lia) p W
         lia
       have hz:J=0:=by lia
       subst hz;rw[qw1 b b,if_pos rfl] at p;cases p
     have G:∀ x,Aq n.toNat g r J (Row.next n.toNat (rot n.toNat r J))=some x->Al x/\(wr=false->Ln n f x<=Row.next n.toNat (rot n.toNat r J)):=λ x p=>by
       by_cases l:J+1 < n.toNat
       . have e:=qy6 b l
         rw[e,qw2 b l] at p;exact⟨hS x ((KP.h.2 x).mpr ⟨_,qO8 b l,p⟩),λ hw=>by rw[e];exact KP.ln hw _ x (qO8 b l) p⟩
       have e:=qt7 b (show J+1=n.toNat by lia);rw[e] at p ⊢;by_cases W:0 < J
       . rw[qC2 b W] at p
         have B:=u.round KP.o KP.c b hk (by lia) p W;exact⟨hS x ((KP.h.2 x).mpr ⟨_,Row.qf9 b,p⟩),λ _=>by rw[(qb7 (Ev R x) b).mp B];exact zA6 _⟩
       have hz:J=0:=by lia
       subst hz;rw[qw1 b b,if_pos rfl] at p;cases p
     generalize I:Row.next n.toNat (rot n.toNat r J)=t at p V G hb;rw[hb];cases C:Aq n.toNat g r J t with
     | none =>
       refine Iu (x:=Ac z a.C5 n wr f) (y:=.l false (Ls n.toNat (Aq n.toNat g r J))) (w:=.int (t:Nat)) (d:=.bl false) rfl rfl rfl rfl rfl ⟨z,n,wr,f,false,_,_,rfl,R,.inr ⟨t,p,rfl,.inl ⟨C,rfl⟩⟩⟩ rfl ?_;exact s _ ⟨J,came,_,rfl,u,.inr λ x h=>by rw[I,C] at h;cases h⟩
     | some x =>
       refine Iu (x:=Ac z a.C5 n wr f) (y:=.l false (Ls n.toNat (Aq n.toNat g r J))) (w:=.int (t:Nat)) rfl rfl rfl rfl rfl ⟨z,n,wr,f,false,_,_,rfl,R,.inr ⟨t,p,rfl,.inr ⟨x,C,(G x C).1,(G x C).2,rfl⟩⟩⟩ rfl ?_;refine qa0 (a:=decide (0 < Aa n.toNat (Ln n f x) t)) rfl (ite_b (λ h=>?_) λ h=>?_)
       . have B:=zAc h
         obtain⟨l,X⟩:=V x C B;have Y:t=rot n.toNat r (J+1):=by rw[<- I,qy6 b l]
         have Z:∀ N,f2 gIx (rdN 1) (rdN 4) [Ac z a.C5 n wr f,.l false (Ls n.toNat (Aq n.toNat g r J)),.int (rot n.toNat r J:Nat),N,.int (t:Nat)]=some (.int x):=λ N=>Ae rfl rfl (by rw[Fw p,C];rfl)
         refine qb1 [Ac z a.C5 n wr f,.l false (Ls n.toNat (Aq n.toNat g r J)),.int (rot n.toNat r J:Nat),.l false (came++[D.q [.int x,.int (rot n.toNat r J:Nat)]]),.int (t:Nat)] (λ K s=>qh5 ?_) ?_
         . exact qD8 (ys:=came) (d:=.q [.int x,.int (rot n.toNat r J:Nat)]) rfl (qaF8 (Z _) rfl rfl rfl) (by unfold big;lia) s
         refine qb1 [Ac z a.C5 n wr f,.l false (Ls n.toNat (Row.set (Aq n.toNat g r J) (rot n.toNat r J) x)),.int (rot n.toNat r J:Nat),.l false (came++[D.q [.int x,.int (rot n.toNat r J:Nat)]]),.int (t:Nat)] (λ K s=>?_) ?_
         . refine qH7 (d:=.int x) (ys:=Ls n.toNat (Aq n.toNat g r J)) (Z _) rfl rfl rfl (Ix hp) ?_
           rw[qE5];exact s
         refine qb1 [Ac z a.C5 n wr f,.l false (Ls n.toNat (Aq n.toNat g r (J+1))),.int (rot n.toNat r J:Nat),.l false (came++[D.q [.int x,.int (rot n.toNat r J:Nat)]]),.int (t:Nat)] (λ K s=>?_) ?_
         . refine qS1 (d:=.non) (ys:=Ls n.toNat (Row.set (Aq n.toNat g r J) (rot n.toNat r J) x)) rfl rfl rfl (Ix p) ?_
           rw[show (Ls n.toNat (Row.set (Aq n.toNat g r J) (rot n.toNat r J) x)).set t .non=Ls n.toNat (λ j=>if j=t then none else Row.set (Aq n.toNat g r J) (rot n.toNat r J) x j) from qac6 (o:=none)];have e:Ls n.toNat (λ j=>if j=t then none else Row.set (Aq n.toNat g r J) (rot n.toNat r J) x j)=Ls n.toNat (Aq n.toNat g r (J+1)):=qp0 λ i hi=>by
             rw[qac4 b l hi,Y];by_cases L:i=rot n.toNat r (J+1)
             . rw[if_pos L,if_pos L]
             rw[if_neg L,if_neg L];by_cases M:i=rot n.toNat r J
             . rw[if_pos M,M,Row.qb8,X]
             rw[if_neg M,Row.qd1 M]
           rw[e];exact s
         refine qb1 [Ac z a.C5 n wr f,.l false (Ls n.toNat (Aq n.toNat g r (J+1))),.int (t:Nat),.l false (came++[D.q [.int x,.int (rot n.toNat r J:Nat)]]),.int (t:Nat)] (λ K s=>qS4 (d:=.int (t:Nat)) rfl rfl s) ?_;rw[Y] at B ⊢;refine qd8 (bh (J+1) _ _ _ _ l (a1 (m - 1) _ (by lia) ⟨J+1,_,rfl,u.step l X B,by rw[zA7,hc];rfl,by lia⟩))
       have B:=zB9 h;exact s _ ⟨J,came,_,rfl,u,.inr λ y h=>by rw[I] at h ⊢;rw[C] at h;cases h;lia⟩
   rw[hb];refine Iu (x:=Ac z a.C5 n wr f) (y:=.l false (Ls n.toNat (Aq n.toNat g r J))) (w:=.non) (d:=.bl false) rfl rfl rfl rfl rfl ⟨z,n,wr,f,false,_,_,rfl,R,.inl ⟨rfl,rfl⟩⟩ rfl ?_;exact s _ ⟨J,came,_,rfl,u,.inl ⟨hw,hl⟩⟩
 rintro v ⟨J,came,U,rfl,u,st⟩;exact qj6 (mv_to rfl (q came _ (KP.taken b hk u st)))
theorem qC5:qa8 ["self", "key", "room"] ["self", "key"] (qa3 qx3):=by walk_at "s"
theorem qas3{g:Nat->Option Int}{k:Int}(h:Bd N g k=.int (j:Nat)):j < N/\g j=some k:=by
 unfold Bd at h;cases e:El N g k with
 | none=>rw[e] at h;cases h
 | some i =>
   rw[e] at h;have h:D.int (i:Nat)=D.int (j:Nat):=h;injection h with h
   have h:i=j:=by lia
   subst h;obtain⟨a,b,_⟩:=List.findIdx?_eq_some_iff_getElem.mp e;rw[zB7] at a;rw[List.getElem_range] at b;exact⟨a,zAc b⟩
def qX7(C CP CNT:γ):VSp:=λ ds Q xe=>∃ n wr ps g dn S k,ds=[Lr false C CP n wr ps g dn,.int k]/\Al k/\1<=n/\n<=64/\(∀ x∈S,Al x)/\Kept n.toNat wr (Ln n ps) g S/\dn.length<=1000 /\
 (¬ k∈S->xe ⟨CNT,[("key",.int k)]⟩ ds)/\(k∈S->∀(r:Nat) came g',Kept n.toNat wr (Ln n ps) g' (S.filter λ x=>decide (x≠k))->Q (.q [.int (r:Nat),.l false came]) [Lr false C CP n wr ps g' (dn++[.q [.str "take",.int k]]),.int k])
theorem qZ3(T:Txt K mg a):VFn P w K mg base 8 a.f33 a.d33 ["self", "key"] (qX7 a.C6 a.C5 a.Cb):=by
 refine VFn.mk2 T.d33.F qC5 (wOf [true,true]) (λ C Q Q' G J L M h=>by obtain⟨n,wr,f,g,l,S,k,e,N,O,R,U,V,W,X,q⟩:=h;exact⟨n,wr,f,g,l,S,k,e,N,O,R,U,V,W,λ a=>M _ _ (X a),λ i r c s K=>L _ _ (q i r c s K)⟩) (λ C Q G h=>by obtain⟨n,wr,f,g,l,S,k,e,_⟩:=h;rw[e];exact⟨rfl,rfl⟩) (λ Y A outer sh H E av t=>⟨_,(Ab (Aj 2 qC5.nd (qk4 0 T.d31 T.C8.cl (qg2 T) qa1 (rm t) (vaN 1 Ad)))
     (Ab (sif (q2 (An Ey (qb0 _)) Ex (vnm 2) A8)
     (Ag (qaw9 T.D7 (qy5 T) (rm t) T.Cy T.d3.b qa1 (qb5 (vnm 1))))
     Au)
     (Ab (Bc (emutP qp6 F.plainAttrs_list F.slot_list_append F.type_list_append qc6 (Fa rfl (vpn 0) T.C8.cl T.Ck) (vaV (qa4 (Fq (qa2 Ec (qa2 (vnm 1) qa6 rfl) rfl))) Ad)))
     (Ag (Ap (etup (vaV (qb5 (vnm 2)) (vaV (Ah T.d26 (qy4 T) qa1 (rm t) (vaV (qb5 (Bi rfl (vnm 0) T.C8.cl T.Cj)) (vaB (Fa rfl (vpn 0) T.C8.cl T.Cd) (vaN 2 Ad)))) Ad)))))))),λ C Q G h=>?_⟩)
 obtain⟨n,wr,f,g,l,S,k,rfl,Z,n1,n2,hS,KP,a0,qn,q⟩:=h;refine At [Lr false a.C6 a.C5 n wr f g l,.int k,.u] rfl ?_;refine qb1 [Lr false a.C6 a.C5 n wr f g l,.int k,Bd n.toNat g k] (λ K u=>?_) ?_
 . exact qd8 (qG0 (p:=Lr false a.C6 a.C5 n wr f g l) (x:=.int k) (d:=Bd n.toNat g k) rfl (qe9 rfl) rfl rfl ⟨false,n,wr,f,g,l,k,rfl,Z,rfl⟩ rfl u)
 by_cases m:k∈S
 case neg =>
   rw[qF1 λ i v e=>m ((KP.h.2 k).mpr ⟨i,v,e⟩)];exact qh4 true (λ Q q=>qg1 (b:=true) rfl q) (λ _=>qz5 (d:=.int k) rfl rfl ⟨rfl,qn m⟩) λ h=>nomatch h
 replace q:=q m
 obtain⟨i,v,e⟩:=(KP.h.2 k).mp m;obtain⟨j,I⟩:=qv2 v e;obtain⟨z,B⟩:=qas3 I;rw[I];refine qh4 false (λ Q q=>qg1 (b:=false) rfl q) (λ h=>(nomatch h)) λ _=>?_
 refine qb1 [Lr false a.C6 a.C5 n wr f g (l++[.q [.str "take",.int k]]),.int k,.int (j:Nat)] (λ K u=>qh5 ?_) ?_
 . refine qaf4 (i:=0) (p:=[2]) (ys:=l) (d0:=Lr false a.C6 a.C5 n wr f g l) (by show (D.fidx a.C6 "done" (Lr false a.C6 a.C5 n wr f g l)).map (λ n=>(0,[n]))=_;rw[qG7];rfl) rfl rfl ?_
   exact qf8 (y:=.q [.str "take",.int k]) rfl (qc7 (qa0 (a:=(l++[D.q [.str "take",.int k]],D.non)) (if_pos (show l.length < big by unfold big;lia)) u))
 generalize l++[.q [.str "take",.int k]]=o at q ⊢;refine qj6 (qaF6 (qd9 (y:=.int (j:Nat)) rfl rfl (qj0 (qi9 (qd9 (y:=Ac true a.C5 n wr f) (A4 rfl qp1) rfl ?_)))));refine qa0 (a:=(0,[1])) (by show (D.fidx a.C6 "held" (Lr false a.C6 a.C5 n wr f g o)).map (λ n=>(0,[n]))=_;rw[qq4];rfl) (qa0 (a:=D.l false (Ls n.toNat g)) rfl ⟨rfl,λ w=>?_⟩);refine qc0 (x:=.int (j:Nat)) rfl (qc7 (qa0 (a:=D.int (j:Nat)) rfl ?_));refine⟨true,n,wr,f,g,S,k,j,rfl,n1,n2,hS,KP,z,B,λ came s K'=>?_⟩;refine qa0 (a:=[Lr false a.C6 a.C5 n wr f s o,.int k,.int (j:Nat)]) ?_ (qc7 ⟨by show 2<=1000000;decide,q j came s K'⟩);show As (.pl 0 [1] w::_) _ _=_;rw[qH2 rfl];rfl
theorem qu5:qa8 ["self"] ["self"] (qa3 qg6):=by walk_at "s"
def qu3(C CP:γ):VSp:=Ay λ ds d=>∃ zr n wr ps g dn,ds=[Lr zr C CP n wr ps g dn]/\d=.l false (Ls n.toNat g)
theorem qf5(T:Txt K mg a):VFn P w K mg base 1 a.f28 a.d28 ["self"] (qu3 a.C6 a.C5):=by
 refine VFn.mk2 T.d28.F qu5 (wOf [true]) qb2 (λ i Q j h=>by obtain⟨d,⟨b,n,wr,c,g,f,e,_⟩,_⟩:=h;rw[e];exact⟨rfl,rfl⟩) (λ k A outer l H E m o=>⟨_,(Ag (Ap (qa4 (Gi qh0 qL3.ops T.Ct (qa2 (Bi rfl (vnm 0) T.C8.cl T.Cd) qa6 rfl))))),λ i Q j h=>?_⟩);obtain⟨d,⟨b,n,wr,c,g,f,rfl,rfl⟩,q⟩:=h;refine At [Lr b a.C6 a.C5 n wr c g f] rfl ?_;refine qd2 (.l false (Ls n.toNat g)) ?_ q;unfold Bb Ba;rw[A4 rfl qp2];exact ql4 (qK0 _ _)
theorem qC4:qa8 ["self", "deed"] ["self"] (qa3 qx2):=by walk_at "s"
def qN0:Sp:=λ vs H Q _=>∃ x t,vs=[x]/\Bj H x=some t/\Q (.bl (Jl x)) H
theorem qP1(T:Txt K mg a):B6 P w K mg base CX0 1 a.f4 a.d4 ["thing"] qN0:=by
 refine T.d4.F.ok qC3 (λ d H Q E h=>?_) (λ f A outer s H d Q E i h=>?_)
 . obtain⟨x,t,rfl,_⟩:=h
   rfl
 obtain⟨x,t,rfl,b,q⟩:=h;refine⟨_,(qm3 (qY8 (qan1 (cbi qf7 T.Ca (qc4 (pv 0) (qc4 (qaz2 "int" T.Db) qk2))) (qam8 (qaI9 (cbi qf7 T.Ca (qc4 (pv 0) (qc4 (qaz2 "bool" T.D1) qk2)))))))),?_⟩;refine⟨_,rfl,x,_,t,rfl,b,by decide,_,rfl,?_⟩;have g:=qaB9 b;have e2:=qao1 b;rw[g];refine ite2 (λ c=>⟨_,rfl,x,_,t,rfl,b,by decide,_,rfl,?_⟩) (λ c=>?_)
 . rw[e2]
   cases x<;>first | exact q | (simp[Jl] at c)
 have:Jl x=false:=by
   cases e:Jl x with
   | false=>rfl
   | true=>rw[e] at c;exact absurd rfl c
 rw[this] at q;exact q
def qo4:Sp:=λ vs H Q _=>∃ x t l m,vs=[x,.int l,.int m]/\Bj H x=some t/\Q (.bl (qar4 l m x)) H
theorem qp3(T:Txt K mg a):B6 P w K mg base CX0 2 a.f5 a.d5 ["thing", "least", "most"] qo4:=by
 refine T.d5.F.ok qi3 (λ c H Q E h=>?_) (λ d A outer s H c Q E e h=>?_)
 . obtain⟨x,t,l,m,rfl,_⟩:=h
   rfl
 obtain⟨x,t,l,m,rfl,f,q⟩:=h;refine⟨_,(qm3 (qY8 (qan1 (Hk T.d4 (qP1 T) (rm e) (qc4 (pv 0) qk2)) (qam8 (qae2 Hg Hg (pv 1) (pv 0) (pv 2)))))),?_⟩;refine⟨_,rfl,x,t,rfl,f,_,rfl,?_⟩;cases x with
 | int i =>
   refine iteT ⟨_,rfl,_,rfl,_,_,rfl,rfl,_,rfl,?_⟩;by_cases b:l<=i
   . rw[zAl b]
     refine iteT ⟨_,rfl,_,_,rfl,rfl,?_⟩;have q:Q (.bl (decide (l<=i)&&decide (i<=m))) H:=q;rw[zAl b,Bool.true_and] at q;exact q
   rw[zB2 b];refine iteF ?_;have q:Q (.bl (decide (l<=i)&&decide (i<=m))) H:=q;rw[zB2 b,Bool.false_and] at q;exact q
 | _=>exact iteF q
def qH8:Sp:=λ vs H Q _=>∃ x t,vs=[x]/\Bj H x=some t/\Q (.bl (numV x)) H
theorem qJ1(T:Txt K mg a):B6 P w K mg base CX0 3 a.f6 a.d6 ["thing"] qH8:=by
 refine T.d6.F.ok qw4 (λ b H Q E h=>?_) (λ c A outer s H b Q E d h=>?_)
 . obtain⟨x,t,rfl,_⟩:=h
   rfl
 obtain⟨x,t,rfl,e,q⟩:=h;refine⟨_,(qm3 (qY8 (Hk T.d5 (qp3 T) (rm d) (qc4 (pv 0) (qc4 qI7 (qc4 (qat6 T.Cv) qk2)))))),?_⟩;exact⟨_,rfl,x,t,_,_,rfl,e,q⟩
def Ia(C:γ)(x y:D):Option D:=match y with
 | .int k=>if (D.int k).num=true then (D.fld C "held" x).bind λ l=>match l with
   | .l _ ys=>(flats ys).map λ a=>match Bu (.int k) a with
     | some j=>.int (j:Nat)
     | none=>.non
   | _=>none else none
 | _=>none
theorem qau8{v:V}:∀ a:List V,inV v a=(Bu v a).isSome
 | []=>rfl
 | y::r=>by
   have b:=qau8 (v:=v) r;unfold inV at b ⊢;rw[zBz,b];show _=(if eqV y v=true then some 0 else (Bu v r).map (· + 1)).isSome;cases eqV y v<;>simp
theorem qam3{zr:Bool}{C CP:γ}{n:Int}{wr:Bool}{ps:Pr}{g:Nat->Option Int}{dn:Ds}{k:Int}(a:Al k):Ia C (Lr zr C CP n wr ps g dn) (.int k)=some (Bd n.toNat g k):=by
 show (if (D.int k).num=true then (D.fld C "held" (Lr zr C CP n wr ps g dn)).bind _ else none)=_;rw[if_pos (show (D.int k).num=true from qaK5.mpr a),qp2];show (flats (Ls n.toNat g)).map _=_;rw[qG6];show some (match Bu (.int k) ((List.range n.toNat).map λ i=>G7 (g i)) with
   | some j=>D.int (j:Nat)
   | none=>.non)=_
 rw[qU5];rfl
theorem qB1(T:Txt K mg a):B6 P w K mg base CX0 4 a.f31 a.d31 ["self", "key"] (spPu (Ia a.C6)):=by
 refine T.d31.F.ok qo7 (λ c H Q E h=>?_) (λ R A outer s H c Q E S h=>?_)
 . obtain⟨F,u,x,d,e,o,A,B,w,rfl,_⟩:=h
   rfl
 obtain⟨F,u,x,d,e,o,A,B,w,rfl,U,V,b,t,q⟩:=h;cases o with
 | int k =>
   cases V;have b:(if (D.int k).num=true then (D.fld a.C6 "held" e).bind λ l=>match l with
     | .l _ g=>(flats g).map λ f=>match Bu (.int k) f with
       | some j=>D.int (j:Nat)
       | none=>.non
     | _=>none else none)=some d:=b
   by_cases i:(D.int k).num=true
   . rw[if_pos i] at b
     cases m:D.fld a.C6 "held" e with
     | none=>rw[m] at b;cases b
     | some l =>
     rw[m] at b;obtain⟨p,C,y,G,v,rfl,I,J,L,M,B1,W⟩:=qaJ7 (K:=K) T.C8.cl T.Cd F H u e A l (λ v H'=>∃ B,Lx F H' v l B) U m (λ v H' B' r _ _=>⟨B',r⟩);cases l with
     | l z g =>
       have b:((flats g).map λ f=>match Bu (.int k) f with
         | some j=>D.int (j:Nat)
         | none=>.non)=some d:=b
       obtain⟨f,X,b⟩:=zAf.mp b;obtain⟨N,c,A3,rfl,n,Y,_⟩:=W.lst_inv;obtain⟨rfl,O⟩:=Y.flats X;refine⟨_,(qO9 (ps_if (qaH6 (qay0 (Hk T.d6 (qJ1 T) (rm S) (qc4 (pv 1) qk2))))
   (qm3 qay3)
   qat0)
   (qm3 (qY8 (qae1 (qas9 qv4 (pv 1) (qam9 (pv 0) rfl) (by with_unfolding_all rfl)) (Hj PySem.F.plainAttrs_list PySem.F.slot_list_index PySem.F.type_list_index qF9 (qam9 (pv 0) rfl) (qc4 (pv 1) qk2)) qaJ0)))),?_⟩
       refine⟨_,rfl,.int k, "int",rfl,rfl,_,rfl,?_⟩;rw[show numV (.int k)=true from i];refine iteF ⟨_,rfl,_,rfl,p,C,y,G,_,rfl,I,J,L,M,N,c,rfl,.inl (SqL.of n),rfl,O,_,rfl,?_⟩;show if inV (.int k) c=true then _ else _
       rw[qau8];cases e2:Bu (.int k) c with
       | some j =>
         rw[e2] at b;have b:D.int (j:Nat)=d:=b;subst b;cases t;obtain⟨Z,i1,i2,i3⟩:=qah5 e2;exact iteT ⟨_,rfl,p,C,y,G,_,rfl,I,J,L,M,.inl ⟨rfl,_,SqL.of n⟩,_,rfl,N,c,.int k,j,Z,rfl,rfl,n,rfl,O,i1,i2,i3,q⟩
       | none =>
         rw[e2] at b;have b:D.non=d:=b;subst b;cases t;exact iteF q
     | _=>cases b
   rw[if_neg i] at b;cases b
 | _=>cases b
def qX6(C CP:γ):VSp:=λ ds Q _=>∃ n wr ps g dn S,ds=[Lr false C CP n wr ps g dn]/\1<=n/\n<=64/\(∀ x∈S,Al x)/\Kept n.toNat wr (Ln n ps) g S /\
 (dn=[]/\Q (.bl false) ds∨∃ a k,Al k/\(dn=a++[.q [.str "put",.int k]]/\k∈S/\(∀ g',Kept n.toNat wr (Ln n ps) g' (S.filter λ x=>decide (x≠k))->Q (.bl true) [Lr false C CP n wr ps g' a]) ∨
   dn=a++[.q [.str "take",.int k]]/\¬ k∈S/\(∀ q,¬ Crowd n.toNat wr (Ln n ps) (S++[k]) q)/\∀ g',Kept n.toNat wr (Ln n ps) g' (S++[k])->Q (.bl true) [Lr false C CP n wr ps g' a]))
theorem qC9(T:Txt K mg a):VFn P w K mg base 8 a.f34 a.d34 ["self"] (qX6 a.C6 a.C5):=by
 refine VFn.mk2 T.d34.F qC4 (wOf [true]) (λ r Q Q' v W I _ h=>by obtain⟨n,wr,l,g,s,S,e,X,Y,Z,h4,h⟩:=h;exact⟨n,wr,l,g,s,S,e,X,Y,Z,h4,h.imp (λ h=>⟨h.1,I _ _ h.2⟩) λ ⟨f,k,G,h⟩=>⟨f,k,G,h.imp (λ h=>⟨h.1,h.2.1,λ m K=>I _ _ (h.2.2 m K)⟩) λ h=>⟨h.1,h.2.1,h.2.2.1,λ m K=>I _ _ (h.2.2.2 m K)⟩⟩⟩) (λ r Q v h=>by obtain⟨n,wr,l,g,s,S,e,_⟩:=h;rw[e];exact⟨rfl,rfl⟩) (λ a0 A outer sh H E av B=>⟨_,(Ab (sif (q2 (An (ql1 B.u64) (qb0 _)) Bl (vbi qt5 qt4.ops T.Cs (qa2 (Bi rfl (vnm 0) T.C8.cl T.Ck) qa6 rfl)) Af)
     (Ag (Ap (qa4 vbl)))
     Au)
     (Ab (Aj 1 qC4.nd (qaW3 qaK9 F.plainAttrs_list F.slot_list_pop F.type_list_pop qaL0 (Fa rfl (vpn 0) T.C8.cl T.Ck)))
     (Ab (sif (q2 (An (ql1 B.u64) (qb0 _)) Bl (v2 (Av qb6) Am (vnm 1) Af) Ec)
     (Ag (Bc (Ah T.d26 (qy4 T) qa1 (rm B) (vaV (qb5 (Bi rfl (vnm 0) T.C8.cl T.Cj)) (vaBV (Fa rfl (vpn 0) T.C8.cl T.Cd) (qaP6 0 T.d31 T.C8.cl (qB1 T) (rm B) (v2 (Av qb6) Am (vnm 1) Af)))))))
     (Ag (Bc (Ah T.d23 (qC8 T) qa1 (rm B) (vaV (qb5 (Bi rfl (vnm 0) T.C8.cl T.Cj)) (vaB (Fa rfl (vpn 0) T.C8.cl T.Cd) (vaV (qb5 (v2 (Av qb6) Am (vnm 1) Af)) Ad)))))))
     (Ag (Ap (qa4 vbl)))))),λ r Q v h=>?_⟩)
 obtain⟨n,wr,l,g,s,S,rfl,N,O,R,KP,h⟩:=h;have o:∀(s:Ds) U,f2 gEq (Bb (fx1 Gu) (Ba (f1 (D.fld a.C6 "done") (rdN 0)) λ _=>some [])) (kC (.int 0)) [Lr false a.C6 a.C5 n wr l g s,U]=some (.bl (((s.length:Nat):Int) == 0)):=λ s U=>by
   refine Ae (x:=.int (s.length:Nat)) (y:=.int 0) ?_ rfl rfl;unfold Bb Ba;rw[A4 rfl qS5];rfl
 refine At [Lr false a.C6 a.C5 n wr l g s,.u] rfl ?_;have u:∀(f:Ds)(d:D)(K:Ds->Prop)(v:XKd),D.imm d=true->K [Lr false a.C6 a.C5 n wr l g f,d]->Fb gPop (λ r=>(D.fidx a.C6 "done" (Lr false a.C6 a.C5 n wr l g (f++[d]))).map λ n=>(0,[n])) Ax [Lr false a.C6 a.C5 n wr l g (f++[d]),.u] (λ d J=>K (J.set 1 d)) v:=λ f d K v _ t=>by
   refine qaf4 (i:=0) (p:=[2]) (ys:=f++[d]) (d0:=Lr false a.C6 a.C5 n wr l g (f++[d])) (by show (D.fidx a.C6 "done" (Lr false a.C6 a.C5 n wr l g (f++[d]))).map (λ n=>(0,[n]))=_;rw[qG7];rfl) rfl rfl (qc7 (qa0 (a:=(f,d)) ?_ t));show ((f++[d])[(f++[d]).length - 1]?).map (λ d'=>((f++[d]).dropLast,d'))=_;rw[zA7,show f.length + [d].length - 1=f.length from rfl,List.getElem?_append_right (zA6 _),Nat.sub_self,List.dropLast_concat];rfl
 rcases h with⟨rfl,q⟩ | ⟨f,k,G,h⟩
 . exact qi7 true (o [] _) (λ _=>qd2 (.bl false) rfl q) λ h=>(nomatch h)
 have C:∀ d:D,((((f++[d]).length:Nat):Int) == 0)=false:=λ d=>by
   rw[zA7];exact zBj.mpr (by show ((f.length+1:Nat):Int)≠0;lia)
 rcases h with⟨rfl,hin,q⟩ | ⟨rfl,nin,nc,q⟩
 . refine qi7 false ((o _ _).trans (by rw[C])) (λ h=>(nomatch h)) λ _=>?_
   refine qb1 [Lr false a.C6 a.C5 n wr l g f,.q [.str "put",.int k]] (λ K t=>qd8 (u f _ K _ rfl t)) ?_;obtain⟨i,hi,e⟩:=(KP.h.2 k).mp hin;obtain⟨j,V⟩:=qv2 hi e;obtain⟨L,M⟩:=qas3 V;refine qc1 (λ r=>∃ m,r=[Lr false a.C6 a.C5 n wr l m f,.q [.str "put",.int k]]/\Kept n.toNat wr (Ln n l) m (S.filter λ x=>decide (x≠k))) (λ K t=>if_v (b:=true) rfl (λ _=>qh5 (qi9 ?_)) λ h=>nomatch h) ?_
   . refine qd9 (y:=Ac true a.C5 n wr l) (A4 rfl qp1) rfl ?_
     refine qa0 (a:=(0,[1])) (by show (D.fidx a.C6 "held" (Lr false a.C6 a.C5 n wr l g f)).map (λ n=>(0,[n]))=_;rw[qq4];rfl) ?_;refine qa0 (a:=D.l false (Ls n.toNat g)) rfl ?_;refine⟨rfl,qa0 (a:=D.int (j:Nat)) ?_ ⟨rfl,λ w=>?_⟩⟩
     . show (if (Lr false a.C6 a.C5 n wr l g f).isM a.C6 "room_of" = true then (some (D.int k)).bind λ y=>(Ia a.C6 (Lr false a.C6 a.C5 n wr l g f) y).bind λ d=>d.flat.map λ _=>d else none)=_
       rw[if_pos (qe9 rfl)];show (Ia a.C6 (Lr false a.C6 a.C5 n wr l g f) (.int k)).bind _=_;rw[qam3 G,V];rfl
     refine⟨true,n,wr,l,g,S,k,j,rfl,N,O,R,KP,L,M,λ came m K'=>?_⟩;refine qa0 (a:=[Lr false a.C6 a.C5 n wr l m f,D.q [.str "put",.int k]]) ?_ (t _ ⟨m,rfl,K'⟩);show As (.pl 0 [1] w::_) _ _=_;rw[qH2 rfl];rfl
   rintro r ⟨m,rfl,K'⟩;exact qd2 (.bl true) rfl (q m K')
 refine qi7 false ((o _ _).trans (by rw[C])) (λ h=>(nomatch h)) λ _=>?_
 refine qb1 [Lr false a.C6 a.C5 n wr l g f,.q [.str "take",.int k]] (λ K t=>qd8 (u f _ K _ rfl t)) ?_;refine qc1 (λ r=>∃ m,r=[Lr false a.C6 a.C5 n wr l m f,.q [.str "take",.int k]]/\Kept n.toNat wr (Ln n l) m (S++[k])) (λ K t=>if_v (b:=false) rfl (λ h=>nomatch h) λ _=>qh5 (qi9 ?_)) ?_
 . refine qd9 (y:=Ac true a.C5 n wr l) (A4 rfl qp1) rfl ?_
   refine qa0 (a:=(0,[1])) (by show (D.fidx a.C6 "held" (Lr false a.C6 a.C5 n wr l g f)).map (λ n=>(0,[n]))=_;rw[qq4];rfl) ?_;refine qa0 (a:=D.l false (Ls n.toNat g)) rfl ?_;refine⟨rfl,λ w=>qd9 (y:=D.int k) rfl rfl (qc7 ?_)⟩;refine⟨true,n,wr,l,g,S,k,rfl,N,O,G,R,KP,nin,?_,λ came m K'=>?_⟩
   . by_cases h:∃ e,Jj n.toNat wr (Ln n l) g k e
     . exact h
     obtain⟨q,c⟩:=KP.crowd λ e z=>h ⟨e,z⟩
     exact absurd c (nc q)
   refine qa0 (a:=[Lr false a.C6 a.C5 n wr l m f,D.q [.str "take",.int k]]) ?_ (t _ ⟨m,rfl,K'⟩);show As (.pl 0 [1] w::_) _ _=_;rw[qH2 rfl];rfl
 rintro r ⟨m,rfl,K'⟩;exact qd2 (.bl true) rfl (q m K')
theorem qaG6:qa8 ["_law_script"] ["_law_script"] (qa3 qax6):=by walk_at "s"
theorem qaK2(T:Txt K mg a):B6 P w K mg base CX0 1 a.f36 a.d36 ["_law_script"] (qaQ4 K):=by
 refine T.d36.F.ok qaG6 (λ J H Q E h=>?_) (λ L A outer s H J Q E O h=>?_)
 . obtain⟨l,d,rfl,_⟩:=h
   rfl
 obtain⟨l,d,rfl,M,R,k⟩:=h;refine⟨_,(qm3 (qY8 (qaz0 (qc4 qI7 (qc4 qI7 (qc4 qI7 (qc4 (qI8 ["_law_cell"] [none] (qy0 (qF4 qS3 (pv 0) qad9 (qad8 qI7))) (λ C B H0 G=>(gnm 0 (show (["_law_cell"]:List Str).Nodup by decide +kernel))) (λ C B H0 G=>qaI6) (λ C B H0 G=>(cbi qaE3 T.E2 (qc4 (pv 0) qk2)))) qk2))))))),?_⟩;refine⟨_,rfl,_,rfl,l,_,rfl,M,λ c N=>?_⟩;have ec:Go (d.map V.int) none (some 63)=d.map V.int:=by
   unfold Go;have t:HT.sIx (d.map V.int).length (d.map V.int).length (some (63:Int))=min 63 (d.map V.int).length:=HT.qas1 _ _ 63;rw[t,HT.qad2,List.drop_zero,Nat.sub_zero];apply zBr;rw[zAd];lia
 rw[ec];refine⟨c,rfl,⟨_,SqL.of qb3⟩,λ D r=>?_⟩;have I:D≠c:=λ z=>by rw[z,qb3] at r;cases r
 have g:H D=none:=by rw[qb4 I] at r;exact r
 refine qW0 (K:=K) (xs:=d.map V.int) (λ i σ H1=>∃ v,σ=[v]/\H1=upd (upd H c (.l (d.map V.int))) D (.l (((d.take i).map λ n=>if n < 0 then -n else n).map V.int))) ⟨none,rfl,rfl⟩ ?_ ?_ ?_
 . rintro i σ H1 _ ⟨v,rfl,rfl⟩
   refine SqL.of ?_;rw[qb4 I.symm,qb3]
 . rintro i x σ H1 j ⟨v,rfl,rfl⟩
   obtain⟨n,u,rfl⟩:∃ n,d[i]? = some n/\V.int n=x:=by
     rw[zB6] at j;cases e:d[i]? with
     | none=>rw[e] at j;cases j
     | some z=>rw[e] at j;exact⟨z,rfl,Option.some.inj j⟩
   refine⟨_,rfl,_,rfl,_,qb3,?_,_,rfl,?_⟩
   . rw[zAd,zAd,zBg]
     exact qam1 (by lia)
   rw[qaF4];congr 1;rw[List.take_add_one,u];simp
 rintro σ H1 ⟨v,rfl,rfl⟩;rw[zAd,zBr (zA6 _)];refine⟨by show 4<=Kq;decide,λ p f=>?_⟩;have q:p≠D:=λ z=>by rw[z,qb3] at f;cases f
 rw[qb4 q] at f;have y:p≠c:=λ z=>by rw[z,qb3] at f;cases f
 rw[qb4 y] at f;refine k p D _ f g (λ b o e=>?_) ⟨0,1234567891,0,d.map λ n=>if n < 0 then -n else n,qb3,?_,by decide,by decide,by decide,by decide,?_⟩
 . rw[qb4 (qc2 e f),qb4 (qc2 e g),qb4 (qc2 e N)]
   exact e
 . rw[qb4 q.symm,qb3]
 intro n u;obtain⟨m,_,rfl⟩:=zB0.mp u
 split<;>lia
theorem qr6:qa8 ["_law_bag_here", "_law_many", "_law_cell", "_law_value", "_law_first", "_law_second"] ["_law_bag_here", "_law_many"] (qa3 qac9):=by walk_at "s"
theorem qb9(T:Txt K mg a):VFn P w K mg base 1 a.f37 a.d37 ["_law_bag_here", "_law_many"] qN7:=by
 refine VFn.mk' T.d37.F qr6 (wOf [true,true]) (λ r Q Q' u N O _ h=>by obtain⟨b,m,g,e,L,C,R,q⟩:=h;exact⟨b,m,g,e,L,C,R,λ v S U V B=>O _ _ (q v S U V B)⟩) (λ r Q u ⟨b,m,g,e,_⟩=>by rw[e];rfl) (λ r Q u h=>by obtain⟨b,m,g,e,⟨x,y,z,W,_⟩,_⟩:=h;rw[e,W];rfl) (λ X A outer sh H E av Y=>⟨_,(Ab (sif (q2 (An (ql1 Y.u64) (qb0 _)) Bl (v2 (Av qb6) Am (vnm 0) Af) Af)
     (Ab (Aj 2 qr6.nd (qa4 Af))
     (Ab (sif (q2 (An Hf (qb0 _)) Ho (v2 (Av qb6) Am (vnm 0) Af) (vbi qt5 qt4.ops T.Cs (qa2 (v2 (Av qb6) Am (vnm 0) Af) qa6 rfl)))
     (Ag (Aj 2 qr6.nd (qb5 (v2 (Av qb6) Am (v2 (Av qb6) Am (vnm 0) Af) (v2 (Av qb6) Am (vnm 0) Af)))))
     Au)
     (Ab (saug (vpn 0) Af Af qaU9)
     (Ab (sif (q2 (An Hh (qb0 _)) Jo (vnm 2) Af)
     (Ag (Fs (qb5 (vnm 2)) (E4 (vpn 0) Af)))
     Au)
     (Ag (Fs (qa4 (v2 (Ak qn5) qn1 (v2 (Ak qf4) qf3 (v2 (Ak qf4) qf3 (v2 (Ak qy2) qy1 (v2 (Av qb6) Am (vnm 0) Af) Af) (v2 (Ak qn5) qn1 (vnm 2) Af)) (v2 (Ak qy2) qy1 Af (v2 (Av qb6) Am (vnm 0) Af))) Af)) (E4 (vpn 0) Af)))))))
     Au)
     (Ab (sif (q2 (An B7 (qb0 _)) B9 (v2 (Av qb6) Am (vnm 0) Af) Af)
     (Ab (Aj 3 qr6.nd (qa4 (v2 (Ak qn5) qn1 (v2 (Av qb6) Am (vnm 0) Af) (vnm 1))))
     (Ab (Fs (qa4 (v2 (Ak qF5) qan2 (v2 (Av qb6) Am (vnm 0) Af) (vnm 1))) (E4 (vpn 0) Af))
     (Ag (Ap (emv 3)))))
     Au)
     (Ab (Aj 4 qr6.nd (qa4 (v2 (Ak qn5) qn1 (v2 (Ak qy2) qy1 (v2 (Ak qf4) qf3 (v2 (Av qb6) Am (vnm 0) Af) Af) Af) Af)))
     (Ab (Aj 5 qr6.nd (qa4 (v2 (Ak qn5) qn1 (v2 (Ak qy2) qy1 (v2 (Ak qn5) qn1 (v2 (Ak qy2) qy1 (vnm 4) (vnm 4)) Af) Af) Af)))
     (Ab (sif (q2 (An B7 (qb0 _)) B9 (vnm 1) Af)
     (Ag (Ap (qa4 (v2 (Ak qn5) qn1 (v2 (Ak qf4) qf3 (v2 (Ak qy2) qy1 (vnm 5) Af) (vnm 4)) (vnm 1)))))
     Au)
     (Ag (Ap (qa4 (v2 (Ak qn5) qn1 (v2 (Ak qF5) qan2 (vnm 5) Af) (vnm 1)))))))))),λ r Q u h=>?_⟩)
 obtain⟨b,m,g,rfl,⟨x,y,z,rfl,B⟩,p,G,k⟩:=h;refine At [bagD x y z g,.int m,.u,.u,.u,.u] rfl ?_;refine qc1 (λ r=>∃ j o t c,r=[bagD j o t g,.int m,c,.u,.u,.u]/\Bg j o t g) (λ K l=>?_) ?_
 . refine if_v (b:=decide (x=0)) rfl (λ _=>?_) (λ _=>l _ ⟨x,y,z,_,rfl,B⟩)
   refine qb1 [bagD x y z g,.int m,.int 0,.u,.u,.u] (λ K l=>l) ?_;refine qc1 (λ r=>∃ c:Int,0<=c/\r=[bagD x y z g,.int m,.int c,.u,.u,.u]) (λ K l=>?_) ?_
   . refine if_v (b:=decide (z < (((g.map D.int).length:Nat):Int))) rfl (λ C=>?_) (λ _=>l _ ⟨0,by decide,rfl⟩)
     obtain⟨v,Z,e⟩:=qL8 (xs:=g.map D.int) (i:=z) B.z0 (zAc C);obtain⟨c,I,rfl⟩:=zB0.mp Z;exact qS4 (Ae (y:=.int z) (x:=.l false (g.map .int)) rfl rfl e) rfl (l _ ⟨c,B.nn c I,rfl⟩)
   rintro r ⟨c,I,rfl⟩;refine qb1 [bagD x y (z+1) g,.int m,.int c,.u,.u,.u] (λ K l=>?_) ?_
   . exact qaX3 (k:=2) (x:=z) (y:=1) (ys:=[.int x,.int y,.int z,.l false (g.map .int)]) rfl rfl (by decide) rfl rfl l
   refine qc1 (λ r=>∃ j:Int,0<=j/\r=[bagD j y (z+1) g,.int m,.int c,.u,.u,.u]) (λ K l=>?_) ?_
   . refine if_v (b:=decide (1000000000000000000<=c)) rfl (λ _=>?_) (λ _=>l _ ⟨x,B.x0,rfl⟩)
     exact qH7 (d:=.int c) (ys:=[.int x,.int y,.int (z+1),.l false (g.map .int)]) (k:=0) (n:=0) rfl rfl rfl rfl rfl (l _ ⟨c,I,rfl⟩)
   rintro r ⟨j,J,rfl⟩;have e1:f2 Il (f2 Ij (f2 Ij (f2 Ik (f2 gIx (rdN 0) (kC (.int 1))) (kC (.int 48271))) (f2 Il (rdN 2) (kC (.int 2147483647)))) (f2 Ik (kC (.int 7919)) (f2 gIx (rdN 0) (kC (.int 2))))) (kC (.int 2147483647)) [bagD j y (z+1) g,.int m,.int c,.u,.u,.u]=some (.int ((y * 48271+c % 2147483647+7919 * (z+1)) % 2147483647)) :=
     Ae (Ae (Ae (Ae (x:=.int y) rfl rfl (Iw (by decide))) (Ae rfl rfl (E8 (by decide))) rfl) (Ae (y:=.int (z+1)) rfl rfl (mulL (by decide))) rfl) rfl (E8 (by decide))
   exact qS1 (ys:=[.int j,.int y,.int (z+1),.l false (g.map .int)]) (k:=1) (n:=1) e1 rfl rfl rfl (l _ ⟨j,_,z+1,_,rfl,J,Int.emod_nonneg _ (by decide),zC4 _ (by decide),by have:=B.z0;lia,B.nn⟩)
 rintro r ⟨j,o,t,c,rfl,B'⟩;refine qi7 (decide (0 < j)) rfl (λ L=>?_) λ _=>?_
 . refine qb1 [bagD j o t g,.int m,c,.int (j % m),.u,.u] (λ K l=>qa0 (Ae (x:=.int j) rfl rfl (E8 p)) l) ?_
   refine qb1 [bagD (j / m) o t g,.int m,c,.int (j % m),.u,.u] (λ K l=>?_) ?_
   . exact qS1 (ys:=[.int j,.int o,.int t,.l false (g.map .int)]) (k:=0) (n:=0) (Ae (x:=.int j) rfl rfl (qap9 p G)) rfl rfl rfl l
   exact k (j % m) _ (Int.emod_nonneg _ (by lia)) (zC4 _ p) ⟨_,_,_,rfl,Int.ediv_nonneg B'.x0 (by lia),B'.y0,B'.y1,B'.z0,B'.nn⟩
 have f0:0<=(o+1) * 39373 % 1000000007:=Int.emod_nonneg _ (by decide);have f1:(o+1) * 39373 % 1000000007 < 1000000007:=zC4 _ (by decide);refine qb1 [bagD j o t g,.int m,c,.u,.int ((o+1) * 39373 % 1000000007),.u] (λ K l=>qa0 (Ae (Ae (Ae (x:=.int o) rfl rfl rfl) rfl (Iw (by decide))) rfl (E8 (by decide))) l) ?_;generalize (o+1) * 39373 % 1000000007=f at f0 f1;refine qb1 [bagD j o t g,.int m,c,.u,.int f,.int (f * f % 998244353 * 30011 % 998244353)] (λ K l=>qa0 (Ae (Ae (Ae (Ae rfl rfl (mulL (qN8 (by lia) (by lia)))) rfl (E8 (by decide))) rfl (Iw (by decide))) rfl (E8 (by decide))) l) ?_;generalize f * f % 998244353 * 30011 % 998244353=s;have M:∀ v,Q (.int (v % m)) [bagD j o t g,.int m]:=λ v=>k _ _ (Int.emod_nonneg _ (by lia)) (zC4 _ p) ⟨_,_,_,rfl,B'⟩
 refine qi7 (decide (1000000 < m)) rfl (λ _=>?_) λ _=>?_
 . exact qd2 _ (Ae (Ae (Ae rfl rfl (Iw (by decide))) rfl rfl) rfl (E8 p)) (M _)
 exact qd2 _ (Ae (Ae rfl rfl (qap9 (by decide) (by decide))) rfl (E8 p)) (M _)
theorem qax4:qa8 ["_law_plan", "_law_key"] ["_law_plan", "_law_key"] (qa3 qad0):=by walk_at "s"
def qax0:VSp:=Ay λ ds d=>∃ n wr ps k,ds=[Lm n wr ps,.int k]/\1<=n/\(ps.map (·.1)).Nodup/\d=.int (qc9 n ps k)
theorem qaf0(T:Txt K mg a):VFn P w K mg base 1 a.f38 a.d38 ["_law_plan", "_law_key"] qax0:=by
 refine VFn.mk2 T.d38.F qax4 (wOf [true,true]) qb2 (λ c Q f h=>by obtain⟨d,⟨n,wr,b,k,e,_⟩,_⟩:=h;rw[e];exact⟨rfl,rfl⟩) (λ g A outer m H E o i=>⟨_,(Ag (Ap (qa4 (v2 (Ak qn5) qn1 (vget (hu_of i) (Gi (qL6 rfl) qav8.ops T.Dl (qa2 (v2 (Av qb6) Am (vnm 0) Af) qa6 rfl)) (vnm 1) (vnm 1) ⟨rfl,rfl,rfl,rfl⟩) (v2 (Av qb6) Am (vnm 0) Af))))),λ c Q f h=>?_⟩);obtain⟨d,⟨n,wr,b,k,rfl,p,j,rfl⟩,q⟩:=h;have l:Bb (fx1 Hq) (Ba (f2 gIx (rdN 0) (kC (.int 2))) λ _=>some []) [Lm n wr b,.int k]=some (.dct false (kvD b)):=by
   show Hq (.l true (Lu b))=_;exact qav6 j
 exact qd2 _ (Ae (qah9 l rfl) (y:=.int n) rfl (E8 (by lia))) q
theorem qe2:qa8 ["_law_plan", "_law_keys", "_law_homes", "_law_found", "_law_on", "_law_turn", "_law_room"] ["_law_plan", "_law_keys"] (qa3 qx8):=by walk_at "s"
theorem qaq4{n:Int}{ps:Pr}(a:1<=n){z:Bool}(ks:List Int)(r:Nat):Ka (.l z (Lq (ks.map (qc9 n ps)))) (.int (r:Nat))=some (.int (F4 (Ln n ps) ks r:Nat)):=by
 show ((flats (Lq (ks.map (qc9 n ps)))).bind λ b=>some (D.int (b.countP (λ z=>eqV z (.int (r:Nat))):Nat)))=_;rw[qz6];show some (D.int (((ks.map (qc9 n ps)).map V.int).countP (λ z=>eqV z (.int (r:Nat))):Nat))=_;congr 3;unfold F4;rw[List.countP_map,List.countP_map,List.countP_eq_length_filter];congr 1;refine List.filter_congr λ k _=>?_
 show decide (qc9 n ps k=(r:Nat))=_
 have:=qK3 (ps:=ps) a k
 exact zBt.mpr (by lia)
def onT(n:Int)(ps:Pr)(ks:List Int):Nat->Int:=onC (cR n.toNat (Ln n ps) ks)
def A9(n:Int)(ps:Pr)(ks:List Int)(i m:Nat):List Int:=(List.range m).map λ r=>onT n ps ks (n.toNat * i+r+1)
theorem qI9{n:Int}{ps:Pr}{ks:List Int}{m:Nat}:A9 n ps ks i m++[onT n ps ks (n.toNat * i+m+1)]=A9 n ps ks i (m+1):=by
 unfold A9;rw[List.range_succ,zBf];rfl
def qY2:VSp:=Ay λ ds d=>∃ n wr ps z ks,ds=[Lm n wr ps,.l z (Lq ks)]/\1<=n/\n<=64/\(ps.map (·.1)).Nodup/\ks.length<=200/\d=.l false (Lq (A9 n ps ks wr.toNat n.toNat))
theorem qZ7(T:Txt K mg a):VFn P w K mg base 2 a.f39 a.d39 ["_law_plan", "_law_keys"] qY2:=by
 refine VFn.mk2 T.d39.F qe2 (wOf [true,true]) qb2 (λ f Q N h=>by obtain⟨d,⟨n,wr,b,z,c,e,_⟩,_⟩:=h;rw[e];exact⟨rfl,rfl⟩) (λ O A outer sh H E v S=>⟨_,(Ab (scN (NY:=["_law_key", "_law_plan"]) (src:=[none,some 0]) 2 1 qe2.nd (blk (λ v C G H0 I=>(Bf 0 (show (["_law_key", "_law_plan"]:List Str).Nodup by decide +kernel))) (λ v C G H0 I=>Fc) (λ v C G H0 I=>(Ah T.d38 (qaf0 T) qt1 (rm S) (vaN 1 (vaN 0 Ad))))))
     (Ab (Aj 3 qe2.nd (qa4 (Bk qa6)))
     (Ab (Aj 4 qe2.nd (qa4 Af))
     (Ab (qY4 PassesOwn.leaving T.Cu (Fm (vaV (qa4 (v2 (Ak qf4) qf3 Af (Gi qW4 qaO0.ops T.Db (qa2 (v2 (Av qb6) Am (vnm 0) Af) qa6 rfl)))) Ad)) (Bf 5 qe2.nd)
     (Ab (Aj 3 qe2.nd (qa4 (Bk qa6)))
     (Ag (qY4 PassesOwn.leaving T.Cu (Fm (vaV (qb5 (v2 (Av qb6) Am (vnm 0) Af)) Ad)) (Bf 6 qe2.nd)
     (Ab (Aj 4 qe2.nd (qa4 (vbi (qW3 rfl) qav7.ops T.Dq (qa2 Af (qa2 (v2 (Ak qu7) qu6 (v2 (Ak qf4) qf3 (vnm 4) (vbm qaS4 PySem.F.plainAttrs_list PySem.F.slot_list_count PySem.F.type_list_count qaA9 (vnm 2) (vnm 6) qaO2)) Af) qa6 rfl) rfl))))
     (Ag (Bc (Bq 3 qp6 PySem.F.plainAttrs_list PySem.F.slot_list_append PySem.F.type_list_append qc6 (vaV (qb5 (vnm 4)) Ad)))))))))
     (Ag (Ap (emv 3))))))),λ f Q N h=>?_⟩)
 obtain⟨d,⟨n,wr,b,z,c,rfl,J,n2,U,hl,rfl⟩,q⟩:=h;refine At [Lm n wr b,.l z (Lq c),.u,.u,.u,.u,.u] rfl ?_;refine qb1 [Lm n wr b,.l z (Lq c),.l false (Lq (c.map (qc9 n b))),.u,.u,.u,.u] (λ K m=>qd8 (qa0 (a:=D.l z (Lq c)) rfl (qa0 (a:=Lq c) rfl ⟨qg8 c,?_⟩))) ?_
 . refine qh7 (λ ι=>∃ d,ι=[d,Lm n wr b]) (λ x=>some (match x with | .int k=>.int (qc9 n b k) | d=>d)) _ [] _ (by show 0+_ < 1000000;rw[qe8];lia) ⟨_,rfl⟩ ?_ ?_
   . rintro y V ι W ⟨d,rfl⟩ R X r
     obtain⟨k,_,rfl⟩:=zB0.mp V;exact qq2 (qX0 (Bn rfl (qJ8 (x:=Lm n wr b) (y:=.int k) (d:=.int (qc9 n b k)) rfl rfl rfl ⟨n,wr,b,k,rfl,J,U,rfl⟩ rfl ⟨r,X [.int k,Lm n wr b] ⟨_,rfl⟩⟩)))
   rintro ι ⟨d,rfl⟩;rw[zAz,qK9];have Y:((Lq c).map λ x=>match x with | .int k=>D.int (qc9 n b k) | d=>d)=Lq (c.map (qc9 n b)):=by unfold Lq;rw[List.map_map,List.map_map];rfl
   rw[Y];exact m
 generalize s:D.l false (Lq (c.map (qc9 n b)))=o;refine qb1 [Lm n wr b,.l z (Lq c),o,.l false [],.u,.u,.u] (λ K m=>m) ?_;refine qb1 [Lm n wr b,.l z (Lq c),o,.l false [],.int 0,.u,.u] (λ K m=>m) ?_;refine qc1 (λ f=>∃ L p l,f=[Lm n wr b,.l z (Lq c),o,.l false (Lq (A9 n b c wr.toNat n.toNat)),L,p,l]) (λ K m=>?_) ?_
 . refine qao9 (n:=((1+wr.toNat:Nat):Int)) (by cases wr<;>rfl) (Iv (by lia) (by cases wr<;>decide)) ?_
   refine qg9 (λ i f=>∃ F p l,f=[Lm n wr b,.l z (Lq c),o,.l false F,.int (onT n b c (n.toNat * i)),p,l]/\(0 < i->F=Lq (A9 n b c (i - 1) n.toNat))) _ 0 _ ⟨_,_,_,rfl,λ h=>absurd h (by lia)⟩ ?_ ?_
   . rintro i x B f ⟨F,p,l,rfl,_⟩ K2 t
     rw[zAs] at t ⊢;obtain⟨hi,rfl⟩:=qY6 B;refine qq2 (At [Lm n wr b,.l z (Lq c),o,.l false F,.int (onT n b c (n.toNat * i)),.int (i:Nat),l] rfl ?_);refine qb1 [Lm n wr b,.l z (Lq c),o,.l false [],.int (onT n b c (n.toNat * i)),.int (i:Nat),l] (λ K m=>m) ?_;refine qQ6 (n:=n) rfl (Iv (by lia) (by lia)) ?_;refine qg9 (λ j f=>∃ l,f=[Lm n wr b,.l z (Lq c),o,.l false (Lq (A9 n b c i j)),.int (onT n b c (n.toNat * i+j)),.int (i:Nat),l]) _ 0 _ ⟨_,rfl⟩ ?_ ?_
     . rintro j x B f ⟨l,rfl⟩ K3 u
       rw[zAs] at u ⊢;obtain⟨Z,rfl⟩:=qY6 B;refine qq2 (At [Lm n wr b,.l z (Lq c),o,.l false (Lq (A9 n b c i j)),.int (onT n b c (n.toNat * i+j)),.int (i:Nat),.int (j:Nat)] rfl ?_);refine qb1 [Lm n wr b,.l z (Lq c),o,.l false (Lq (A9 n b c i j)),.int (onT n b c (n.toNat * i+j+1)),.int (i:Nat),.int (j:Nat)] (λ K m=>qw3 ?_ m) ?_
       . have hc:Ka o (.int (j:Nat))=some (.int (F4 (Ln n b) c j:Nat)):=by rw[<- s];exact qaq4 J c j
         have e:=Ae (g:=gSub) (y:=.int 1) (Ae (g:=Ij) (fa:=rdN 4) (ds:=[Lm n wr b,.l z (Lq c),o,.l false (Lq (A9 n b c i j)),.int (onT n b c (n.toNat * i+j)),.int (i:Nat),.int (j:Nat)]) (x:=.int (onT n b c (n.toNat * i+j))) rfl (Ae (g:=Ka) (fa:=rdN 2) (fb:=rdN 6) (by rw[<- s];rfl) rfl hc) rfl) (fb:=kC (.int 1)) rfl rfl;unfold Bb Ba;rw[e];have em:cR n.toNat (Ln n b) c (n.toNat * i+j)=F4 (Ln n b) c j:=by unfold cR;rw[Nat.mul_add_mod,zC2 Z]
         show some (D.int (if onT n b c (n.toNat * i+j)+(F4 (Ln n b) c j:Nat) - 1 > 0 then onT n b c (n.toNat * i+j)+(F4 (Ln n b) c j:Nat) - 1 else 0))=some (D.int (if onC (cR n.toNat (Ln n b) c) (n.toNat * i+j)+(cR n.toNat (Ln n b) c (n.toNat * i+j):Int) - 1 > 0 then onC (cR n.toNat (Ln n b) c) (n.toNat * i+j)+(cR n.toNat (Ln n b) c (n.toNat * i+j):Int) - 1 else 0));rw[em];rfl
       refine qaj9 (ys:=Lq (A9 n b c i j)) (d:=.int (onT n b c (n.toNat * i+j+1))) rfl rfl rfl (by rw[qe8];unfold A9 big;rw[zAd,zB7];lia) ?_;rw[qD1,qI9];exact u _ ⟨_,rfl⟩
     rintro f ⟨l,rfl⟩;rw[zAs,qT7,show n.toNat * i+n.toNat=n.toNat * (i+1) by rw[Nat.mul_add,Nat.mul_one]];exact t _ ⟨_,_,_,rfl,λ _=>rfl⟩
   rintro f ⟨F,p,l,rfl,M⟩;rw[zAs,qT7,Int.toNat_natCast] at M;rw[M (by lia),show 1+wr.toNat - 1=wr.toNat by lia];exact m _ ⟨_,_,_,rfl⟩
 rintro f ⟨L,p,l,rfl⟩;exact q
theorem qe3:qa8 ["_law_plan", "_law_keys", "_law_passing_here", "_law_begin", "_law_found", "_law_at", "_law_on", "_law_key"] ["_law_plan", "_law_keys"] (qa3 qF0):=by walk_at "s"
theorem qau1:∀ ps:List (Int×Int),(Lu ps).mapM Ir=some ps
 | []=>rfl
 | p::r=>by
   show List.mapM Ir (D.q [.int p.1,.int p.2]::Lu r)=_;rw[List.mapM_cons,qau1 r];rfl
theorem qal9{z:Bool}{L:Pr}{f:Int->Int}{S:List Int}(e:L=S.map λ k=>(f k,k))(a:S.Nodup)(b:S.length < 64):qav0 (.l z (Lu L))=some (.l false (Lu (Ej L))):=by
 show ((Lu _).mapM Ir).bind _=_;rw[qau1];refine ql4 ⟨?_,by rw[e,zAd];exact b⟩;rw[e];exact zBw.mpr (a.imp λ h z=>h (congrArg Prod.snd z))
theorem qae6{f:Int->Nat}{ks:List Int}:((Ej (ks.map λ k=>(((f k:Nat):Int),k))).map (·.2)).Perm ks:=by
 have h:((Ej (ks.map λ k=>(((f k:Nat):Int),k))).map (·.2)).Perm ((ks.map λ k=>(((f k:Nat):Int),k)).map (·.2)):=(List.mergeSort_perm _ _).map _;rw[List.map_map] at h;have e:ks.map ((·.2) ∘ λ k=>(((f k:Nat):Int),k))=ks:=List.map_id ks;rwa[e] at h
theorem qae7{f:Int->Nat}{ks:List Int}{p:Int×Int}(a:p∈Ej (ks.map λ k=>(((f k:Nat):Int),k))):p.1=(f p.2:Nat):=by
 rw[List.mem_mergeSort] at a;obtain⟨k,_,rfl⟩:=zB0.mp a;rfl
theorem qaS5{f:Int->Nat}{ks:List Int}(b:ks.Nodup):((Ej (ks.map λ k=>(((f k:Nat):Int),k))).map (·.2)).Pairwise (Jk f):=by
 have a:=(qae6 (f:=f)).nodup_iff.mpr b;unfold List.Nodup at a;rw[zBw] at a ⊢;refine((qac3 _).and a).imp_of_mem λ{p q} c d h=>?_
 have g:=qae7 c;have i:=qae7 d;have e:=h.1;simp only[S6.plt,decide_eq_false_iff_not] at e;have j:=h.2;unfold Jk;lia
theorem qaV2{z:Bool}{k:Int}:∀{L R:List Int},¬ k∈L->J1 (.l z (Lq (L++k::R))) (.int k)=some (.int (L.length:Nat)):=by
 intro L R h;have e:Bu (.int k) ((L++k::R).map V.int)=some L.length:=by
   induction L with
   | nil=>show (if decide (k=k)=true then some 0 else _)=_;rw[if_pos (zAl rfl)];rfl
   | cons a L b =>
     rw[zAm,not_or] at h;show (if decide (a=k)=true then some 0 else (Bu (.int k) ((L++k::R).map V.int)).map (· + 1))=_;rw[if_neg (by simpa using λ z=>h.1 z.symm),b h.2];rfl
 show ((flats (Lq (L++k::R))).bind λ c=>(Bu (.int k) c).map λ j=>D.int (j:Nat))=_;rw[qz6];show (Bu (.int k) ((L++k::R).map V.int)).map (λ j=>D.int (j:Nat))=_;rw[e];rfl
theorem qae3{n:Int}{ps:Pr}{ks:List Int}{z:Bool}(h:1<=n):gIx (.l z (Lq (A9 n ps ks i n.toNat))) (.int (-1))=some (.int (onT n ps ks (n.toNat * i+n.toNat))):=by
 obtain⟨m,e⟩:∃ m,n.toNat=m+1:=⟨n.toNat - 1,by lia⟩
 have e2:A9 n ps ks i n.toNat=A9 n ps ks i m++[onT n ps ks (n.toNat * i+m+1)]:=by rw[qI9,e]
 rw[e2,show n.toNat * i+n.toNat=n.toNat * i+m+1 by lia];unfold Lq;rw[zBf];exact qaE5 _ _
def qac2:VSp:=λ ds Q _=>∃ n wr ps z ks,ds=[Lm n wr ps,.l z (Lq ks)]/\1<=n/\n<=64/\(ps.map (·.1)).Nodup/\ks.Nodup/\ks.length<=60 /\
 ((∃ q,Crowd n.toNat wr (Ln n ps) ks q)->Q .non ds)/\((∀ q,¬ Crowd n.toNat wr (Ln n ps) ks q)->∀ g,Kept n.toNat wr (Ln n ps) g ks->Q (.l false (Ls n.toNat g)) ds)
theorem qp5(T:Txt K mg a):VFn P w K mg base 3 a.f40 a.d40 ["_law_plan", "_law_keys"] qac2:=by
 refine VFn.mk2 T.d40.F qe3 (wOf [true,true]) (λ o Q Q' xe a4 hQ _ h=>by obtain⟨n,wr,j,z,l,e,v,h2,h3,h4,h5,q,q'⟩:=h;exact⟨n,wr,j,z,l,e,v,h2,h3,h4,h5,λ h=>hQ _ _ (q h),λ h g z=>hQ _ _ (q' h g z)⟩) (λ o Q xe h=>by obtain⟨n,wr,j,z,l,e,_⟩:=h;rw[e];exact⟨rfl,rfl⟩) (λ a5 A outer sh H E av t=>⟨_,(Ab (sif (q2 (An B7 (qb0 _)) B9 (vbi qt5 qt4.ops T.Cs (qa2 (vnm 1) qa6 rfl)) (v2 (Av qb6) Am (vnm 0) Af))
     (Ag (Ap (qa4 A8)))
     Au)
     (Ab (Aj 2 qe3.nd (Ah T.d39 (qZ7 T) qa1 (rm t) (vaN 0 (vaN 1 Ad))))
     (Ab (sif (Ju (Bp (tv (v2 (Av qb6) Am (vnm 0) Af))) (Gv (q2 (An B7 (qb0 _)) B9 (v2 (Av qb6) Am (vnm 2) (vneg Af)) Af))).te
     (Ag (Ap (qa4 A8)))
     Au)
     (Ab (Aj 3 qe3.nd (qa4 Af))
     (Ab (sif (tv (v2 (Av qb6) Am (vnm 0) Af))
     (Ag (Aj 3 qe3.nd (qa4 (v2 (Ak qf4) qf3 (vbm qaz6 PySem.F.plainAttrs_list PySem.F.slot_list_index PySem.F.type_list_index qF9 (vnm 2) Af qah4) Af))))
     Au)
     (Ab (Aj 4 qe3.nd (qa4 (v2 (Ak qy2) qy1 (Bk (qa2 A8 qa6 rfl)) (v2 (Av qb6) Am (vnm 0) Af))))
     (Ab (Aj 5 qe3.nd (qa4 (vneg Af)))
     (Ab (Kb PassesOwn.leaving (ebi qaj3 qaD8.ops T.Dk (Fm (vaV (ecN (NY:=["_law_key", "_law_begin", "_law_plan"]) (src:=[none,some 3,some 0]) 1 (blk (λ av C s0 H0 ex=>(Bf 0 (show (["_law_key", "_law_begin", "_law_plan"]:List Str).Nodup by decide +kernel))) (λ av C s0 H0 ex=>Fc) (λ av C s0 H0 ex=>(etup (vaV (e2v (Ak qn5) qn1 (e2v (Ak qu7) qu6 (Ah T.d38 (qaf0 T) qt1 (rm t) (vaN 2 (vaN 0 Ad))) (vnm 1)) (v2 (Av qb6) Am (vnm 2) Af)) (vaV (qb5 (vnm 0)) Ad)))))) Ad))) (Hv (n:=2) rfl (qK8 (Bf 6 qe3.nd) (qK8 (Bf 7 qe3.nd) Hu)))
     (Ab (Aj 5 qe3.nd (qa4 (vbi (qW3 rfl) qav7.ops T.Dq (qa2 (v2 (Ak qf4) qf3 (vnm 5) Af) (qa2 (vnm 6) qa6 rfl) rfl))))
     (Ag (Fs (qb5 (vnm 7)) (E4 (vpn 4) (v2 (Ak qn5) qn1 (v2 (Ak qf4) qf3 (vnm 3) (vnm 5)) (v2 (Av qb6) Am (vnm 0) Af)))))))
     (Ag (Ap (emv 4))))))))))),λ o Q xe h=>?_⟩)
 obtain⟨n,wr,j,z,l,rfl,O,n2,nd,S,hl,q,q'⟩:=h;have B:=Ev (ps:=j) O;have oc:=qan3 (T:=l) (by lia) B;refine At [Lm n wr j,.l z (Lq l),.u,.u,.u,.u,.u,.u] rfl ?_;refine qi7 (decide (n < (l.length:Int))) (Ae (qt0 rfl) (y:=.int n) rfl (by rw[qe8];rfl)) (λ h=>qd2 .non rfl (q ⟨0,by lia,?_⟩)) λ h=>?_
 . have h:=zAc h
   cases wr with
   | true=>rw[if_pos rfl];exact⟨rfl,by lia⟩
   | false=>rw[if_neg (by decide),List.filter_eq_self.mpr λ _ _=>zAl (zBe _)];lia
 have a0:l.length<=n.toNat:=by have:=zB9 h;lia
 refine qb1 [Lm n wr j,.l z (Lq l),.l false (Lq (A9 n j l wr.toNat n.toNat)),.u,.u,.u,.u,.u] (λ K m=>qd8 (qJ8 (x:=Lm n wr j) (y:=.l z (Lq l)) rfl rfl rfl ⟨n,wr,j,z,l,rfl,O,n2,nd,by lia,rfl⟩ rfl m)) ?_;refine qh4 (!wr&&decide (0 < onT n j l (n.toNat * wr.toNat+n.toNat))) (λ Q q=>qk5 (!wr) (decide (0 < onT n j l (n.toNat * wr.toNat+n.toNat))) (λ Q q=>qh2 (b:=wr) rfl q) (λ _ Q q=>qg1 (Ae (Ae rfl rfl (qae3 O)) rfl rfl) q) q) (λ h=>qd2 .non rfl (q ?_)) λ h=>?_
 . cases wr with
   | true=>cases h
   | false =>
     have h:=zAc h;rw[show n.toNat * false.toNat+n.toNat=n.toNat by show n.toNat * 0+_=_;lia] at h;exact oc.mp h
 refine qb1 [Lm n wr j,.l z (Lq l),.l false (Lq (A9 n j l wr.toNat n.toNat)),.int 0,.u,.u,.u,.u] (λ K m=>m) ?_;refine qc1 (λ o=>∃ s:Nat,o=[Lm n wr j,.l z (Lq l),.l false (Lq (A9 n j l wr.toNat n.toNat)),.int (s:Nat),.u,.u,.u,.u]/\s<=n.toNat/\(wr=false->s=0)/\(∀ q,¬ Crowd n.toNat wr (Ln n j) l q)/\∀ q,¬ Crowd n.toNat false (λ k=>Aa n.toNat (s % n.toNat) (Ln n j k)) l q) (λ K m=>?_) ?_
 . refine if_v (b:=wr) rfl (λ G=>?_) λ G=>m _ ⟨0,rfl,by lia,λ _=>rfl,?_,?_⟩
   . subst G
     obtain⟨r,t,h0⟩:=qaz8 (T:=l) (by lia) B a0;have hm:(0:Int)∈A9 n j l 1 n.toNat:=zB0.mpr ⟨r,zAo.mpr t,by rw[Nat.mul_one];exact h0⟩;obtain⟨L,R,U,nL⟩:=List.eq_append_cons_of_mem hm;have V:L.length < n.toNat:=by
       have:=congrArg List.length U
       unfold A9 at this;simp at this;lia
     have v:onT n j l (n.toNat+L.length+1)=0:=by
       have:(A9 n j l 1 n.toNat)[L.length]? = some 0:=by rw[U];simp
       unfold A9 at this;rw[zB6,List.getElem?_range V,Nat.mul_one] at this;exact Option.some.inj this
     refine qw3 (d:=.int ((L.length+1:Nat):Int)) (Ae (g:=Ij) (y:=.int 1) (Ae (g:=J1) (x:=.l false (Lq (L++0::R))) (y:=.int 0) (by rw[<- U];rfl) rfl (qaV2 nL)) rfl rfl) (m _ ⟨L.length+1,rfl,by lia,λ h=>absurd h (by decide),λ q c=>?_,qJ6 V B v⟩);have c:=c.2;rw[if_pos rfl] at c;lia
   . subst G
     have h:decide _=false:=h;rw[show n.toNat * false.toNat+n.toNat=n.toNat by show n.toNat * 0+_=_;lia] at h;exact λ q c=>zB9 h (oc.mpr ⟨q,c⟩)
   subst G;have h:decide _=false:=h;rw[show n.toNat * false.toNat+n.toNat=n.toNat by show n.toNat * 0+_=_;lia] at h;rw[Nat.zero_mod,show (λ k=>Aa n.toNat 0 (Ln n j k))=Ln n j from funext λ k=>Hl];exact λ q c=>zB9 h (oc.mpr ⟨q,c⟩)
 rintro o ⟨s,rfl,hs,G,nc,a1⟩;have I:s % n.toNat < n.toNat:=Nat.mod_lt _ (by lia);generalize eP:D.l false (Lq (A9 n j l wr.toNat n.toNat))=J;refine qb1 [Lm n wr j,.l z (Lq l),J,.int (s:Nat),.l false (Ls n.toNat λ _=>none),.u,.u,.u] (λ K m=>qw3 (Ae rfl (y:=.int n) rfl (qaf5 (by lia) n2)) m) ?_;refine qb1 [Lm n wr j,.l z (Lq l),J,.int (s:Nat),.l false (Ls n.toNat λ _=>none),.int (-1),.u,.u] (λ K m=>m) ?_;refine qc1 (λ o=>∃ g d5 M N,o=[Lm n wr j,.l z (Lq l),J,.int (s:Nat),.l false (Ls n.toNat g),d5,M,N]/\Kept n.toNat wr (Ln n j) g l) (λ K m=>?_) ?_
 . refine Kl (qj0 (qa0 (a:=D.l z (Lq l)) rfl (qa0 (a:=Lq l) rfl ⟨qg8 l,?_⟩)))
   refine qh7 (λ ι=>∃ d,ι=[d,.int (s:Nat),Lm n wr j]) (λ x=>some (match x with | .int k=>.q [.int (Aa n.toNat (s % n.toNat) (Ln n j k):Nat),.int k] | d=>d)) _ [] _ (by show 0+_ < 1000000;rw[qe8];lia) ⟨_,rfl⟩ ?_ ?_
   . rintro y W ι a6 ⟨d,rfl⟩ R hR X
     obtain⟨k,_,rfl⟩:=zB0.mp W;have this:=hR [.int k,.int (s:Nat),Lm n wr j] ⟨_,rfl⟩;refine qq2 (qX0 (Bn rfl (qj0 (qA3 (qA3 (qJ8 (x:=Lm n wr j) (y:=.int k) (d:=.int (qc9 n j k)) rfl rfl rfl ⟨n,wr,j,k,rfl,O,nd,rfl⟩ rfl ?_))))));refine qa0 (a:=D.int (qc9 n j k - (s:Nat))) rfl (qa0 (a:=D.int (Aa n.toNat (s % n.toNat) (Ln n j k):Nat)) ((E8 (by lia)).trans ?_) (qd9 (y:=.int k) rfl rfl (qc7 ⟨by show 2<=1000000;decide,X,this⟩)));have v:=qaB0 (B k) hs;rw[qK3 O k,show ((n.toNat:Nat):Int)=n by lia] at v;rw[v]
   rintro ι ⟨d,rfl⟩;rw[zAz,qK9];have U:((Lq l).map λ x=>match x with | .int k=>D.q [.int (Aa n.toNat (s % n.toNat) (Ln n j k):Nat),.int k] | d=>d)=Lu (l.map λ k=>((Aa n.toNat (s % n.toNat) (Ln n j k):Nat),k)):=by
     unfold Lq Lu;rw[List.map_map,List.map_map];rfl
   rw[U];have pw:=qaS5 (f:=λ k=>Aa n.toNat (s % n.toNat) (Ln n j k)) S;have pm:=qae6 (f:=λ k=>Aa n.toNat (s % n.toNat) (Ln n j k)) (ks:=l);have of:=λ p=>qae7 (f:=λ k=>Aa n.toNat (s % n.toNat) (Ln n j k)) (ks:=l) (p:=p)
   have es:=qal9 (z:=false) (L:=l.map λ k=>(((Aa n.toNat (s % n.toNat) (Ln n j k):Nat):Int),k)) rfl S (by lia);generalize Ej (l.map λ k=>(((Aa n.toNat (s % n.toNat) (Ln n j k):Nat):Int),k))=L at pw pm of es;refine qc7 (qa0 (a:=D.l false (Lu L)) es (qa0 (a:=Lu L) rfl ⟨qK1 L,?_⟩));refine qg9 (λ i o=>∃ g top M N,o=[Lm n wr j,.l z (Lq l),J,.int (s:Nat),.l false (Ls n.toNat λ i=>g (Aa n.toNat (s % n.toNat) i)),.int ((top:Nat) - 1:Int),M,N]/\Fill n.toNat (λ k=>Aa n.toNat (s % n.toNat) (Ln n j k)) g ((L.take i).map (·.2)) top) _ 0 _ ⟨_,0,_,_,rfl,Fill.start (by lia) λ k=>qh6 (B k) I⟩ ?_ ?_
   . rintro i y W o ⟨g,top,M,N,rfl,F⟩ K2 Y
     rw[zAs] at F Y;unfold Lu at W;rw[zB6] at W;obtain⟨⟨h0,k⟩,hp,rfl⟩:=zAf.mp W;obtain rfl:h0=((Aa n.toNat (s % n.toNat) (Ln n j k):Nat):Int):=of _ (zBa hp);have a2:=(zA5.mp hp).1;have a3:L.map (·.2)=((L.take i).map (·.2)++[k])++(L.drop (i+1)).map (·.2):=by
       conv=>lhs;rw[<- List.take_append_drop i L,List.drop_eq_getElem_cons a2,(zA5.mp hp).2]
       simp
     have tk:(L.take (i+1)).map (·.2)=(L.take i).map (·.2)++[k]:=by rw[List.take_add_one,hp,zBf];rfl
     rw[a3] at pw pm;have u:∀ x∈(L.take i).map (·.2),Jk (λ k=>Aa n.toNat (s % n.toNat) (Ln n j k)) x k:=λ x hx=>(List.pairwise_append.mp (List.pairwise_append.mp pw).1).2.2 x hx k (zA8.mpr rfl)
     have nk:¬ k∈(L.take i).map (·.2):=λ h=>by rcases u k h with z | z<;>lia
     have t:=F.room u λ q c=>a1 q ((c.mono (List.sublist_append_left _ _)).perm pm)
     have F':=F.put nk u t;generalize er:max top (Aa n.toNat (s % n.toNat) (Ln n j k))=r at t F';refine qG4 (At [Lm n wr j,.l z (Lq l),J,.int (s:Nat),.l false (Ls n.toNat λ i=>g (Aa n.toNat (s % n.toNat) i)),.int ((top:Nat) - 1:Int),.int (Aa n.toNat (s % n.toNat) (Ln n j k):Nat),.int k] rfl ?_);refine qb1 [Lm n wr j,.l z (Lq l),J,.int (s:Nat),.l false (Ls n.toNat λ i=>g (Aa n.toNat (s % n.toNat) i)),.int (r:Nat),.int (Aa n.toNat (s % n.toNat) (Ln n j k):Nat),.int k] (λ K m=>qw3 (d:=.int (r:Nat)) ?_ m) ?_
     . show some (D.int (if ((Aa n.toNat (s % n.toNat) (Ln n j k):Nat):Int) > (top:Nat) - 1+1 then ((Aa n.toNat (s % n.toNat) (Ln n j k):Nat):Int) else (top:Nat) - 1+1))=_
       congr 2
       split<;>lia
     have em:(((s:Nat):Int)+(r:Nat)) % n=(rot n.toNat (s % n.toNat) r:Nat):=by
       have:((s+r:Nat):Int) % ((n.toNat:Nat):Int)=((s+r) % n.toNat:Nat):=by lia
       rw[show ((n.toNat:Nat):Int)=n by lia,Nat.add_mod,zC2 t,qas2 I t] at this;rw[<- this];congr 1
     refine qH7 (ys:=Ls n.toNat λ i=>g (Aa n.toNat (s % n.toNat) i)) (d:=.int k) (k:=(rot n.toNat (s % n.toNat) r:Nat)) rfl rfl rfl (Ae (x:=.int ((s:Nat)+(r:Nat))) (y:=.int n) rfl rfl ((E8 (by lia)).trans (by rw[em]))) (Ix (qO8 I t)) ?_;rw[qE5];have ec:Ls n.toNat (Row.set (λ i=>g (Aa n.toNat (s % n.toNat) i)) (rot n.toNat (s % n.toNat) r) k)=Ls n.toNat λ i=>Row.set g r k (Aa n.toNat (s % n.toNat) i):=qp0 λ i hi=>by
       by_cases e:i=rot n.toNat (s % n.toNat) r
       . subst e;rw[qb8,qo1 I t,qb8]
       rw[qd1 e,qd1 λ z=>e (by rw[<- z,qn0 I hi])]
     refine Y _ ⟨_,r+1,.int (Aa n.toNat (s % n.toNat) (Ln n j k):Nat),.int k,?_,by rw[tk];exact F'⟩;rw[<- ec,show (((r+1:Nat):Int) - 1)=((r:Nat):Int) by lia];rfl
   rintro o ⟨g,top,M,N,rfl,F⟩;have Z:(Lu L).length=L.length:=zAd _;rw[zAs,Z,List.take_length] at F;refine m _ ⟨_,_,_,_,rfl,?_⟩;have K1:=F.k.of_perm pm;cases wr with
   | true=>exact K1.turn I B
   | false =>
     obtain rfl:=G rfl;rw[Nat.zero_mod] at K1 ⊢;rw[show (λ k=>Aa n.toNat 0 (Ln n j k))=Ln n j from funext λ k=>Hl] at K1;rw[show (λ i=>g (Aa n.toNat 0 i))=g from funext λ i=>by rw[Hl]];exact K1
 rintro o ⟨g,d5,M,N,rfl,KP⟩;exact q' nc g KP
theorem qc3:qa8 ["_law_bag_here", "_law_size", "_law_many", "_law_way", "_law_one", "_law_other", "_law_homes", "_law_k", "_law_some"] ["_law_bag_here", "_law_size", "_law_many"] (qa3 qj5):=by walk_at "s"
def qA8:VSp:=λ ds Q _=>∃ b n m ns,ds=[b,.int n,.int m]/\L7 ns b/\1<=n/\n<=64/\0<=m/\m<=100 /\
 ∀ c a,L7 ns c->(∀ h∈a,0<=h/\h < n)->a.length=m.toNat->Q (.l false (Lq a)) [c,.int n,.u]
theorem qaP8{x y i:Int}(c:0<=i)(h1:i < 2){P:Int->Prop}(d:P x)(e:P y):∃ v,atI [D.int x,D.int y] i=some (.int v)/\P v:=by
 obtain⟨v,a,b⟩:=qL8 (xs:=[D.int x,D.int y]) c h1;simp only[zAm,zBs,or_false] at a;rcases a with rfl | rfl
 . exact⟨x,b,d⟩
 exact⟨y,b,e⟩
theorem qU7{x y z w i:Int}(c:0<=i)(h1:i < 4){P:Int->Prop}(d:P x)(e:P y)(f:P z)(g:P w):∃ v,atI [D.int x,D.int y,D.int z,D.int w] i=some (.int v)/\P v:=by
 obtain⟨v,b,a⟩:=qL8 (xs:=[D.int x,D.int y,D.int z,D.int w]) c h1;simp only[zAm,zBs,or_false] at b;rcases b with rfl | rfl | rfl | rfl
 . exact⟨x,a,d⟩
 . exact⟨y,a,e⟩
 . exact⟨z,a,f⟩
 exact⟨w,a,g⟩
theorem qB5(T:Txt K mg a):VFn P w K mg base 2 a.f41 a.d41 ["_law_bag_here", "_law_size", "_law_many"] qA8:=by
 refine VFn.mk' T.d41.F qc3 (wOf [true,true,true]) (λ c Q Q' R a4 hQ _ h=>by obtain⟨b,n,m,j,e,S,U,V,C,h5,q⟩:=h;exact⟨b,n,m,j,e,S,U,V,C,h5,λ s f W a2 a3=>hQ _ _ (q s f W a2 a3)⟩) (λ c Q R h=>by obtain⟨b,n,m,j,e,_⟩:=h;rw[e];rfl) (λ c Q R h=>by obtain⟨b,n,m,j,e,⟨x,y,z,eb,_⟩,_⟩:=h;rw[e,eb];rfl) (λ a5 A outer sh H E av G=>⟨_,(Ab (Aj 3 qc3.nd (Ah T.d37 (qb9 T) qa1 (rm G) (vaN 0 (vaV (qa4 Af) Ad))))
     (Ab (Aj 4 qc3.nd (Ah T.d37 (qb9 T) qa1 (rm G) (vaN 0 (vaN 1 Ad))))
     (Ab (Aj 5 qc3.nd (Ah T.d37 (qb9 T) qa1 (rm G) (vaN 0 (vaN 1 Ad))))
     (Ab (Aj 6 qc3.nd (qa4 (Bk qa6)))
     (Ab (qY4 PassesOwn.leaving T.Cu (Fm (vaN 2 Ad)) (Bf 7 qc3.nd)
     (Ab (Aj 8 qc3.nd (elst (vaV (Ah T.d37 (qb9 T) qa1 (rm G) (vaN 0 (vaN 1 Ad))) (vaV (qb5 (vnm 4)) (vaV (e2 (Ak qu7) qu6 (qa4 (v2 (Ak qu7) qu6 (vnm 1) Af)) (Ah T.d37 (qb9 T) qa1 (rm G) (vaN 0 (vaV (qa4 (vbi (qH0 rfl) qai9.ops T.Di (qa2 Af (qa2 (vnm 1) qa6 rfl) rfl))) Ad)))) (vaV (qa4 (v2 (Av qb6) Am (Bk (qa2 (vnm 4) (qa2 (vnm 5) qa6 rfl) rfl)) (v2 (Ak qn5) qn1 (vnm 7) Af))) Ad))))))
     (Ag (Bc (Bq 6 qp6 F.plainAttrs_list F.slot_list_append F.type_list_append qc6 (vaV (qb5 (v2 (Av qb6) Am (vnm 8) (vnm 3))) Ad))))))
     (Ag (Ap (emv 6)))))))),λ c Q R h=>?_⟩)
 obtain⟨b,n,m,j,rfl,B,n1,n2,m0,m1,q⟩:=h;refine At [b,.int n,.int m,.u,.u,.u,.u,.u,.u] rfl ?_;refine qc1 (λ c=>∃ b w,c=[b,.int n,.int m,.int w,.u,.u,.u,.u,.u]/\L7 j b/\0<=w/\w < 4) (λ K g=>?_) ?_
 . exact qc8 rfl B rfl (by decide) (by decide) λ v s I J B'=>g _ ⟨s,v,rfl,B',I,J⟩
 rintro c ⟨b,way,rfl,B,w0,w1⟩;refine qc1 (λ c=>∃ b o,c=[b,.int n,.int m,.int way,.int o,.u,.u,.u,.u]/\L7 j b/\0<=o/\o < n) (λ K g=>?_) ?_
 . exact qv8 (m:=n) rfl B rfl (by decide) (by lia) (by lia) λ v s I J B'=>g _ ⟨s,v,rfl,B',I,J⟩
 rintro c ⟨b,o,rfl,B,Y,Z⟩;refine qc1 (λ c=>∃ b p,c=[b,.int n,.int m,.int way,.int o,.int p,.u,.u,.u]/\L7 j b/\0<=p/\p < n) (λ K g=>?_) ?_
 . exact qv8 (m:=n) rfl B rfl (by decide) (by lia) (by lia) λ v s I J B'=>g _ ⟨s,v,rfl,B',I,J⟩
 rintro c ⟨b,p,rfl,B,p0,p1⟩;refine qb1 [b,.int n,.int m,.int way,.int o,.int p,.l false (Lq []),.u,.u] (λ K g=>g) ?_;refine qc1 (λ c=>∃ b f t k,c=[b,.int n,.u,.int way,.int o,.int p,.l false (Lq f),t,k]/\L7 j b/\(∀ h∈f,0<=h/\h < n)/\f.length=m.toNat) (λ K g=>?_) ?_
 . refine qap0 (n:=m) rfl (Iv (by lia) (by lia)) ?_
   refine qg9 (λ i c=>∃ b f t k,c=[b,.int n,.u,.int way,.int o,.int p,.l false (Lq f),t,k]/\L7 j b/\(∀ h∈f,0<=h/\h < n)/\f.length=i) _ 0 _ ⟨b,[],_,_,rfl,B,nofun,rfl⟩ ?_ ?_
   . rintro i x hx c ⟨b,f,t,k,rfl,B,X,O⟩ K2 L
     rw[zAs] at O L;obtain⟨hi,rfl⟩:=qY6 hx;refine At [b,.int n,.u,.int way,.int o,.int p,.l false (Lq f),.int (i:Nat),k] rfl ?_;refine qc1 (λ c=>∃ b u M l r,c=[b,.int n,.u,.int way,.int o,.int p,.l false (Lq f),.int (i:Nat),.l false [.int u,.int M,.int l,.int r]]/\L7 j b/\(0<=u/\u < n)/\(0<=M/\M < n)/\(0<=l/\l < n)/\(0<=r/\r < n)) (λ K g=>?_) ?_
     . refine qd8 (qP8 (qj0 ?_))
       refine qv8 (ds:=[b,.int n,.u,.int way,.int o,.int p,.l false (Lq f),.int (i:Nat),k]) (m:=n) rfl B rfl (by decide) (by lia) (by lia) λ u b1 a0 W B1=>?_
       refine qd9 (y:=.int o) rfl rfl (qj0 (qH6 (x:=.int (n - 1)) rfl ?_));refine qc8 (ds:=[b1,.int n,.u,.int way,.int o,.int p,.l false (Lq f),.int (i:Nat),k]) (m:=if n < 4 then n else 4) rfl B1 rfl (by split<;>lia) (by split<;>lia) λ l b2 c0 c1 B2=>?_
       have c2:l < n:=by revert c1;split<;>lia
       refine qa0 (a:=D.int (n - 1 - l)) rfl ?_;obtain⟨r,e4,C⟩:=qaP8 (x:=o) (y:=p) (i:=((i:Nat):Int) % 2) (by lia) (by lia) (P:=λ v=>0<=v/\v < n) ⟨Y,Z⟩ ⟨p0,p1⟩;refine qf8 (y:=.int r) (Ae (x:=.l false [.int o,.int p]) rfl (Ae (x:=.int (i:Nat)) (y:=.int 2) rfl rfl (E8 (by decide))) e4) (qc7 ⟨by show 4<=1000000;decide,?_⟩);exact g _ ⟨b2,u,o,n - 1 - l,r,rfl,B2,⟨a0,W⟩,⟨Y,Z⟩,⟨by lia,by lia⟩,C⟩
     rintro c ⟨b,u,M,l,r,rfl,B,S,U,V,C⟩;obtain⟨v,ev,hv⟩:=qU7 (P:=λ v=>0<=v/\v < n) w0 w1 S U V C;refine qaj9 (ys:=Lq f) (d:=.int v) rfl (Ae (x:=.l false [.int u,.int M,.int l,.int r]) rfl rfl ev) rfl (by rw[qe8];unfold big;lia) ?_;rw[qD1];refine L _ ⟨b,f++[v],_,_,rfl,B,λ h N=>?_,by rw[zA7,O];rfl⟩;rcases zAb.mp N with N | N
     . exact X h N
     rw[zA8.mp N];exact hv
   rintro c ⟨b,f,t,k,rfl,h⟩;rw[zAs,qT7] at h;exact g _ ⟨b,f,t,k,rfl,h⟩
 rintro c ⟨b,f,t,k,rfl,B,X,O⟩;exact q b f B X O
theorem qd3:qa8 ["_law_bag_here", "_law_most", "_law_way", "_law_size", "_law_wraps", "_law_many", "_law_told", "_law_great", "_law_keys", "_law_home_here", "_law_key", "_law_homes", "_law_number"] ["_law_bag_here", "_law_most"] (qa3 qO6):=by walk_at "s"
def qal7:VSp:=λ ds Q _=>∃ b M ns,ds=[b,.int M]/\L7 ns b/\1<=M/\M<=64/\∀ a n wr ps ks,L7 ns a->1<=n->n<=64->Jm ps->ks.Nodup->(∀ k∈ks,0<=k/\k < 999999999999999999)->ks.length<=66->Q (.q [Lm n wr ps,.l false (Lq ks)]) [a,.int M]
theorem qaw4{x y z i:Int}(c:0<=i)(h1:i < 3){P:Int->Prop}(d:P x)(e:P y)(f:P z):∃ v,atI [D.int x,D.int y,D.int z] i=some (.int v)/\P v:=by
 obtain⟨v,b,a⟩:=qL8 (xs:=[D.int x,D.int y,D.int z]) c h1;simp only[zAm,zBs,or_false] at b;rcases b with rfl | rfl | rfl
 . exact⟨x,a,d⟩
 . exact⟨y,a,e⟩
 exact⟨z,a,f⟩
theorem qaN3{x i:Int}(b:0<=i)(h1:i < 5)(d:0<=x/\x<=64):∃ v,atI [D.int 0,D.int 0,D.int 1,D.int 6,D.int x] i=some (.int v)/\0<=v/\v<=64:=by
 obtain⟨v,a,c⟩:=qL8 (xs:=[D.int 0,D.int 0,D.int 1,D.int 6,D.int x]) b h1;simp only[zAm,zBs,or_false] at a;rcases a with rfl | rfl | rfl | rfl | rfl<;>exact⟨_,c,by lia,by lia⟩
theorem qaI1{ps:Pr}{k m:Int}:Lu ps++[.q [.int k,.int m]]=Lu (ps++[(k,m)]):=by unfold Lu;rw[zBf];rfl
theorem qaL6(ps:Pr):(Lu ps).length=ps.length:=zAd _
theorem qan4(T:Txt K mg a):VFn P w K mg base 3 a.f42 a.d42 ["_law_bag_here", "_law_most"] qal7:=by
 refine VFn.mk' T.d42.F qd3 (wOf [true,true]) (λ c Q Q' xe a9 hQ _ h=>by obtain⟨b,M,s,e,h1,h2,h3,q⟩:=h;exact⟨b,M,s,e,h1,h2,h3,λ V n wr j f a1 L a3 a4 a5 a6 a7=>hQ _ _ (q V n wr j f a1 L a3 a4 a5 a6 a7)⟩) (λ c Q xe ⟨b,M,s,e,_⟩=>by rw[e];rfl) (λ c Q xe h=>by obtain⟨b,M,s,e,⟨x,y,z,eb,_⟩,_⟩:=h;rw[e,eb];rfl) (λ b0 A outer sh H E av t=>⟨_,(Ab (Aj 2 qd3.nd (Ah T.d37 (qb9 T) qa1 (rm t) (vaN 0 (vaV (qa4 Af) Ad))))
     (Ab (Aj 3 qd3.nd (e2vP (Av qb6) Am (elst (vaV (e2 (Ak qf4) qf3 (qa4 Af) (Ah T.d37 (qb9 T) qa1 (rm t) (vaN 0 (vaV (qa4 (vbi (qH0 rfl) qai9.ops T.Di (qa2 Af (qa2 (vnm 1) qa6 rfl) rfl))) Ad)))) (vaV (e2 (Ak qf4) qf3 (qa4 Af) (Ah T.d37 (qb9 T) qa1 (rm t) (vaN 0 (vaV (qa4 (vbi (qH0 rfl) qai9.ops T.Di (qa2 Af (qa2 (vnm 1) qa6 rfl) rfl))) Ad)))) (vaV (e2 (Ak qf4) qf3 (qa4 Af) (Ah T.d37 (qb9 T) qa1 (rm t) (vaN 0 (vaN 1 Ad)))) (vaV (qb5 (vnm 1)) Ad))))) (vnm 2)))
     (Ab (Aj 4 qd3.nd (e2v (Aw (ql1 t.u64) (qb0 _)) Bl (Ah T.d37 (qb9 T) qa1 (rm t) (vaN 0 (vaV (qa4 Af) Ad))) Af))
     (Ab (Aj 5 qd3.nd (e2P (Av qb6) Am (elst (vaV (qb5 (vnm 3)) (vaV (qa4 (v2 (Ak qf4) qf3 (vnm 3) Af)) (vaV (qa4 (v2 (Ak qf4) qf3 Af (v2 (Ak qF5) qan2 (v2 (Ak qy2) qy1 (vnm 3) Af) Af))) (vaV (Ah T.d37 (qb9 T) qa1 (rm t) (vaN 0 (vaV (qa4 (v2 (Ak qf4) qf3 (vnm 3) Af)) Ad))) Ad))))) (Ah T.d37 (qb9 T) qa1 (rm t) (vaN 0 (vaV (qa4 Af) Ad)))))
     (Ab (Aj 6 qd3.nd (e2P (Av qb6) Am (qa4 (Bk (qa2 Af (qa2 Af (qa2 Af (qa2 Af (qa2 Af qa6 rfl) rfl) rfl) rfl) rfl))) (Ah T.d37 (qb9 T) qa1 (rm t) (vaN 0 (vaV (qa4 Af) Ad)))))
     (Ab (Aj 7 qd3.nd (e2P (Av qb6) Am (qa4 (Bk (qa2 Af (qa2 Af (qa2 Af (qa2 (vpow 10000000000000000) qa6 rfl) rfl) rfl) rfl))) (Ah T.d37 (qb9 T) qa1 (rm t) (vaN 0 (vaV (qa4 Af) Ad)))))
     (Ab (Aj 8 qd3.nd (qa4 (Bk qa6)))
     (Ab (Kb PassesOwn.leaving (Ah T.d41 (qB5 T) qa1 (rm t) (vaN 0 (vaN 3 (vaN 5 Ad)))) (Bf 9 qd3.nd)
     (Ab (Aj 10 qd3.nd (e2n 9 (Ak qf4) qf3 (e2n 3 (Ak qy2) qy1 (Ah T.d37 (qb9 T) qa1 (rm t) (vaN 0 (vaN 7 Ad))))))
     (Ag (sif (q2 (An qn3 (by with_unfolding_all rfl)) F8 (vnm 10) (vnm 8))
     (Ag (Bc (Bq 8 qp6 F.plainAttrs_list F.slot_list_append F.type_list_append qc6 (vaN 10 Ad))))
     Au))))
     (Ab (Aj 11 qd3.nd (qa4 (Bk qa6)))
     (Ab (Kb PassesOwn.leaving (qa4 (vsl (vnm 8) Jw (Jx (vnm 6)))) (Bf 10 qd3.nd)
     (Ab (Aj 12 qd3.nd (e2P (Av qb6) Am (elst (vaV (Ah T.d37 (qb9 T) qa1 (rm t) (vaN 0 (vaN 3 Ad))) (vaV (e2 (Ak qu7) qu6 (qa4 (vpow 1000000000000000000)) (Ah T.d37 (qb9 T) qa1 (rm t) (vaN 0 (vaN 3 Ad)))) (vaV (Ah T.d37 (qb9 T) qa1 (rm t) (vaN 0 (vaV (qa4 (vpow 1000000000000000000)) Ad))) Ad)))) (Ah T.d37 (qb9 T) qa1 (rm t) (vaN 0 (vaV (qa4 Af) Ad)))))
     (Ag (Bc (Bq 11 qp6 F.plainAttrs_list F.slot_list_append F.type_list_append qc6 (vaV (qa4 (Fq (qa2 (vnm 10) (qa2 (vnm 12) qa6 rfl) rfl))) Ad))))))
     (Ag (Ap (etup (vaV (etup (vaV (qb5 (vnm 3)) (vaV (qb5 (vnm 4)) (vaV (efz 11) Ad)))) (vaV (emv 8) Ad))))))))))))))),λ c Q xe h=>?_⟩)
 obtain⟨b,M,s,rfl,B,M0,M1,q⟩:=h;refine At [b,.int M,.u,.u,.u,.u,.u,.u,.u,.u,.u,.u,.u] rfl ?_;refine qc1 (λ c=>∃ b way,c=[b,.int M,.int way,.u,.u,.u,.u,.u,.u,.u,.u,.u,.u]/\L7 s b/\0<=way/\way < 4) (λ K o=>?_) ?_
 . exact qc8 rfl B rfl (by decide) (by decide) λ v V v0 v1 B'=>o _ ⟨V,v,rfl,B',v0,v1⟩
 rintro c ⟨b,way,rfl,B,w0,w1⟩;refine qc1 (λ c=>∃ b n,c=[b,.int M,.int way,.int n,.u,.u,.u,.u,.u,.u,.u,.u,.u]/\L7 s b/\1<=n/\n<=64) (λ K o=>?_) ?_
 . refine qd8 (qar7 (qP8 (qj0 (qH6 (x:=.int 1) rfl ?_))))
   refine qc8 (ds:=[b,.int M,.int way,.u,.u,.u,.u,.u,.u,.u,.u,.u,.u]) (m:=if M < 8 then M else 8) rfl B rfl (by split<;>lia) (by split<;>lia) λ W R a1 c1 B1=>?_
   have e1:W < M:=by revert c1;split<;>lia
   refine qa0 (a:=D.int (1+W)) rfl (qj0 (qH6 (x:=.int 1) rfl ?_));refine qc8 (ds:=[R,.int M,.int way,.u,.u,.u,.u,.u,.u,.u,.u,.u,.u]) (m:=if M < 16 then M else 16) rfl B1 rfl (by split<;>lia) (by split<;>lia) λ N O L S B2=>?_
   have e2:N < M:=by revert S;split<;>lia
   refine qa0 (a:=D.int (1+N)) rfl (qj0 (qH6 (x:=.int 1) rfl ?_));refine qv8 (ds:=[O,.int M,.int way,.u,.u,.u,.u,.u,.u,.u,.u,.u,.u]) (m:=M) rfl B2 rfl (by decide) (by lia) (by lia) λ x3 b3 a3 c3 B3=>?_
   refine qa0 (a:=D.int (1+x3)) rfl (qd9 (y:=.int M) rfl rfl (qc7 ⟨by show 4<=1000000;decide,qa0 (a:=D.int way) rfl ⟨rfl,?_⟩⟩));obtain⟨n,en,hn⟩:=qU7 (P:=λ v=>1<=v/\v<=64) w0 w1 (x:=1+W) (y:=1+N) (z:=1+x3) (w:=M) ⟨by lia,by lia⟩ ⟨by lia,by lia⟩ ⟨by lia,by lia⟩ ⟨M0,M1⟩;exact qa0 en (o _ ⟨b3,n,rfl,B3,hn.1,hn.2⟩)
 rintro c ⟨b,n,rfl,B,n1,n2⟩;refine qc1 (λ c=>∃ b wr,c=[b,.int M,.int way,.int n,.bl wr,.u,.u,.u,.u,.u,.u,.u,.u]/\L7 s b) (λ K o=>?_) ?_
 . refine qd8 (qA3 (qc8 rfl B rfl (by decide) (by decide) λ v V v0 v1 B'=>?_))
   exact qa0 (a:=D.bl (decide (v=1))) rfl (o _ ⟨V,_,rfl,B'⟩)
 rintro c ⟨b,wr,rfl,B⟩;refine qc1 (λ c=>∃ b m,c=[b,.int M,.int way,.int n,.bl wr,.int m,.u,.u,.u,.u,.u,.u,.u]/\L7 s b/\0<=m/\m<=66) (λ K o=>?_) ?_
 . refine qd8 (qaG3 (qP8 (qd9 (y:=.int n) rfl rfl (qf8 (y:=.int (n+2)) rfl (qf8 (y:=.int (1+n * 3 / 4)) (Ae (x:=.int 1) rfl (Ae (x:=.int (n * 3)) (y:=.int 4) (Ae (x:=.int n) (y:=.int 3) rfl rfl (Iw (by decide))) rfl (qap9 (by decide) (by decide))) rfl) (qj0 ?_))))))
   refine qc8 (ds:=[b,.int M,.int way,.int n,.bl wr,.u,.u,.u,.u,.u,.u,.u,.u]) (m:=n+1) rfl B rfl (by lia) (by lia) λ W R a1 c1 B1=>?_
   refine qc7 ⟨by show 4<=1000000;decide,?_⟩;refine qc8 (ds:=[R,.int M,.int way,.int n,.bl wr,.u,.u,.u,.u,.u,.u,.u,.u]) (m:=4) rfl B1 rfl (by decide) (by decide) λ N O L S B2=>?_
   obtain⟨m,em,C⟩:=qU7 (P:=λ v=>0<=v/\v<=66) L S (x:=n) (y:=n+2) (z:=1+n * 3 / 4) (w:=W) ⟨by lia,by lia⟩ ⟨by lia,by lia⟩ ⟨by lia,by lia⟩ ⟨by lia,by lia⟩;exact qa0 em (o _ ⟨O,m,rfl,B2,C.1,C.2⟩)
 rintro c ⟨b,m,rfl,B,m0,m1⟩;refine qc1 (λ c=>∃ b told,c=[b,.int M,.int way,.int n,.bl wr,.int m,.int told,.u,.u,.u,.u,.u,.u]/\L7 s b/\0<=told/\told<=64) (λ K o=>?_) ?_
 . refine qd8 (qH6 (x:=.l false [.int 0,.int 0,.int 1,.int 6,.int 40]) rfl (qc8 (ds:=[b,.int M,.int way,.int n,.bl wr,.int m,.u,.u,.u,.u,.u,.u,.u]) (m:=5) rfl B rfl (by decide) (by decide) λ N O L S B2=>?_))
   obtain⟨m,em,C⟩:=qaN3 (x:=40) L S (by decide);exact qa0 em (o _ ⟨O,m,rfl,B2,C.1,C.2⟩)
 rintro c ⟨b,told,rfl,B,t0,t1⟩;refine qc1 (λ c=>∃ b r,c=[b,.int M,.int way,.int n,.bl wr,.int m,.int told,.int r,.u,.u,.u,.u,.u]/\L7 s b/\1<=r/\r<=10000000000000000) (λ K o=>?_) ?_
 . refine qd8 (qH6 (x:=.l false [.int 9,.int 9,.int 9,.int 10000000000000000]) rfl (qc8 (ds:=[b,.int M,.int way,.int n,.bl wr,.int m,.int told,.u,.u,.u,.u,.u,.u]) (m:=4) rfl B rfl (by decide) (by decide) λ N O L S B2=>?_))
   obtain⟨m,em,C⟩:=qU7 (P:=λ v=>1<=v/\v<=10000000000000000) L S (x:=9) (y:=9) (z:=9) (w:=10000000000000000) (by decide) (by decide) (by decide) (by decide);exact qa0 em (o _ ⟨O,m,rfl,B2,C.1,C.2⟩)
 rintro c ⟨b,r,rfl,B,g0,g1⟩;refine qb1 [b,.int M,.int way,.int n,.bl wr,.int m,.int told,.int r,.l false (Lq []),.u,.u,.u,.u] (λ K o=>o) ?_;refine qc1 (λ c=>∃ b f u g,c=[b,.int M,.int way,.int n,.bl wr,.u,.int told,.int r,.l false (Lq f),u,g,.u,.u]/\L7 s b/\f.Nodup/\(∀ k∈f,0<=k/\k < 999999999999999999)/\f.length<=66) (λ K o=>?_) ?_
 . refine Ki (x:=b) (y:=.int n) (w:=.int m) (qh1 rfl B.known) rfl rfl rfl (qh1 rfl B.known) ⟨b,n,m,s,rfl,B,n1,n2,m0,by lia,λ R hs B1 hh hl=>?_⟩
   refine qa0 (a:=[R,.int M,.int way,.int n,.bl wr,.u,.int told,.int r,.l false (Lq []),.u,.u,.u,.u]) rfl (qa0 (a:=Lq hs) rfl ⟨qg8 hs,?_⟩);refine qg9 (λ i c=>∃ b f u g,c=[b,.int M,.int way,.int n,.bl wr,.u,.int told,.int r,.l false (Lq f),u,g,.u,.u]/\L7 s b/\f.Nodup/\(∀ k∈f,0<=k/\k < 999999999999999999)/\f.length<=i) _ 0 _ ⟨R,[],_,_,rfl,B1,List.nodup_nil,nofun,zA6 _⟩ ?_ ?_
   . rintro i x X c ⟨b,f,u,g,rfl,B,Y,Z,G⟩ K2 I
     rw[zAs] at G I;obtain⟨h,hi,rfl⟩:=qaB6 X;obtain⟨h0,h1⟩:=hh h (zBa hi);have a0:i < 66:=by have:=(zA5.mp hi).1;lia
     refine qq2 (At [b,.int M,.int way,.int n,.bl wr,.u,.int told,.int r,.l false (Lq f),.int h,g,.u,.u] rfl ?_);refine qc1 (λ c=>∃ b U,c=[b,.int M,.int way,.int n,.bl wr,.u,.int told,.int r,.l false (Lq f),.int h,.int U,.u,.u]/\L7 s b/\0<=U/\U < 999999999999999999) (λ K o=>?_) ?_
     . refine qd8 ⟨rfl,rfl,?_⟩
       refine qv8 (ds:=[b,.int M,.int way,.int n,.bl wr,.u,.int told,.int r,.l false (Lq f),.int h,g,.u,.u]) (m:=r) rfl B rfl (by decide) (by lia) (by lia) λ v V v0 v1 B'=>?_
       have e2:0<=n * v:=Int.mul_nonneg (by lia) v0;have e3:n * v<=64 * v:=Int.mul_le_mul_of_nonneg_right n2 v0;exact qa0 (a:=D.int (n * v)) (mulL (qN8 (by lia) (by lia))) (qa0 (a:=D.int (h+n * v)) rfl (o _ ⟨V,h+n * v,rfl,B',by lia,by lia⟩))
     rintro c ⟨b,U,rfl,B,a8⟩;refine if_v (b:=!decide (U∈f)) (Ae rfl rfl qP6) (λ hb=>?_) λ hb=>I _ ⟨b,f,_,_,rfl,B,Y,Z,by lia⟩
     have C:¬ U∈f:=λ z=>by rw[zAl z] at hb;cases hb
     refine qaE7 (ys:=Lq f) (d:=.int U) rfl rfl rfl (by decide) (by rw[qe8];unfold big;lia) ?_;rw[qD1];refine I _ ⟨b,f++[U],_,_,rfl,B,zBd.mpr ⟨Y,(by simp),λ x X y hy e=>C (by rw[<- zA8.mp hy,<- e];exact X)⟩,λ x X=>?_,by rw[zA7];exact Nat.add_le_add_right G 1⟩;rcases zAb.mp X with h | h
     . exact Z x h
     rw[zA8.mp h];exact a8
   rintro c ⟨b,f,u,g,rfl,B,Y,Z,G⟩;rw[zAs,qe8] at G;exact o _ ⟨b,f,u,g,rfl,B,Y,Z,by lia⟩
 rintro c ⟨b,f,u,g,rfl,B,Y,Z,G⟩;refine qb1 [b,.int M,.int way,.int n,.bl wr,.u,.int told,.int r,.l false (Lq f),u,g,.l false (Lu []),.u] (λ K o=>o) ?_;refine qc1 (λ c=>∃ b j g l,c=[b,.int M,.int way,.int n,.bl wr,.u,.int told,.int r,.l false (Lq f),u,g,.l false (Lu j),l]/\L7 s b/\j.map (·.1)=f.take told.toNat/\∀ p∈j,Al p.2) (λ K o=>?_) ?_
 . have ec:Et (Lq f) none (some told)=Lq (f.take told.toNat):=by rw[show told=((told.toNat:Nat):Int) by lia,qG9,Int.toNat_natCast];unfold Lq;rw[List.map_take]
   refine qn7 (qaW8 rfl rfl rfl ec) (qa0 (a:=Lq (f.take told.toNat)) rfl ⟨qg8 _,?_⟩);refine qg9 (λ i c=>∃ b j g l,c=[b,.int M,.int way,.int n,.bl wr,.u,.int told,.int r,.l false (Lq f),u,g,.l false (Lu j),l]/\L7 s b/\j.map (·.1)=(f.take told.toNat).take i/\∀ p∈j,Al p.2) _ 0 _ ⟨b,[],_,_,rfl,B,rfl,nofun⟩ ?_ ?_
   . rintro i x X c ⟨b,j,g,l,rfl,B,J,hq⟩ K2 I
     rw[zAs] at J I;obtain⟨k,hi,rfl⟩:=qaB6 X;have a0:j.length<=64:=by have:=congrArg List.length J;simp at this;lia
     refine qq2 (At [b,.int M,.int way,.int n,.bl wr,.u,.int told,.int r,.l false (Lq f),u,.int k,.l false (Lu j),l] rfl ?_);refine qc1 (λ c=>∃ b v,c=[b,.int M,.int way,.int n,.bl wr,.u,.int told,.int r,.l false (Lq f),u,.int k,.l false (Lu j),.int v]/\L7 s b/\Al v) (λ K o=>?_) ?_
     . refine qd8 (qaG3 (qP8 (qj0 ?_)))
       refine qv8 (ds:=[b,.int M,.int way,.int n,.bl wr,.u,.int told,.int r,.l false (Lq f),u,.int k,.l false (Lu j),l]) (m:=n) rfl B rfl (by decide) (by lia) (by lia) λ W R a1 c1 B1=>qj0 (qH6 (x:=.int 1000000000000000000) rfl ?_)
       refine qv8 (ds:=[R,.int M,.int way,.int n,.bl wr,.u,.int told,.int r,.l false (Lq f),u,.int k,.l false (Lu j),l]) (m:=n) rfl B1 rfl (by decide) (by lia) (by lia) λ N O L S B2=>qa0 (a:=D.int (1000000000000000000 - N)) rfl (qj0 ?_)
       refine qc8 (ds:=[O,.int M,.int way,.int n,.bl wr,.u,.int told,.int r,.l false (Lq f),u,.int k,.l false (Lu j),l]) (m:=1000000000000000000) rfl B2 rfl (by decide) (by decide) λ x3 b3 a3 c3 B3=>qc7 ⟨by show 3<=1000000;decide,?_⟩
       refine qc8 (ds:=[b3,.int M,.int way,.int n,.bl wr,.u,.int told,.int r,.l false (Lq f),u,.int k,.l false (Lu j),l]) (m:=3) rfl B3 rfl (by decide) (by decide) λ x4 b4 a4 c4 B4=>?_
       obtain⟨v,ev,hv⟩:=qaw4 (P:=Al) a4 c4 (x:=W) (y:=1000000000000000000 - N) (z:=x3) ⟨by lia,by lia⟩ ⟨by lia,by lia⟩ ⟨by lia,by lia⟩;exact qa0 ev (o _ ⟨b4,v,rfl,B4,hv⟩)
     rintro c ⟨b,v,rfl,B,hv⟩;refine qD8 (ys:=Lu j) (d:=.q [.int k,.int v]) rfl rfl (by rw[qaL6];unfold big;lia) ?_;rw[qaI1];refine I _ ⟨b,j++[(k,v)],_,_,rfl,B,by rw[zBf,J,qv7 hi];rfl,λ p C=>?_⟩;rcases zAb.mp C with h | h
     . exact hq p h
     rw[zA8.mp h];exact hv
   rintro c ⟨b,j,g,l,rfl,B,J,hq⟩;rw[zAs,qe8,List.take_length] at J;exact o _ ⟨b,j,g,l,rfl,B,J,hq⟩
 rintro c ⟨b,j,g,l,rfl,B,J,hq⟩;have hG:Jm j:=⟨by have:=congrArg List.length J;simp at this;lia,by rw[J];exact Y.sublist (zBm _ _),λ p C=>⟨(by have:=Z _ (List.mem_of_mem_take (by rw[<- J];exact List.mem_map_of_mem C));exact⟨this.1,by lia⟩),hq p C⟩⟩
 refine qj6 (qaF6 (qaF7 (qd9 (y:=.int n) rfl rfl (qd9 (y:=.bl wr) rfl rfl (qj0 (qaP9 (d:=.l false (Lu j)) rfl (qc7 ⟨by show 3<=1000000;decide,?_⟩)))))));refine qj0 (qa0 (a:=D.l false (Lq f)) rfl (qc7 ⟨by show 2<=1000000;decide,?_⟩));have e:(D.l false (Lu j)).fz=.l true (Lu j):=congrArg (D.l true) (qai2 j);rw[e];exact q b n wr j f B n1 n2 hG Y Z G
theorem qr8:qa8 ["_law_plan", "_law_keys", "_law_found", "_law_key"] ["_law_plan", "_law_keys"] (qa3 qx9):=by walk_at "s"
def qY3:VSp:=λ ds Q _=>∃ n wr ps z ks,ds=[Lm n wr ps,.l z (Lq ks)]/\1<=n/\n<=64/\(ps.map (·.1)).Nodup/\ks.Nodup/\ks.length<=50 /\
 ∀ S,S.Sublist ks->(∀ q,¬ Crowd n.toNat wr (Ln n ps) S q)->Q (.l false (Lq S)) ds
theorem qZ8(T:Txt K mg a):VFn P w K mg base 4 a.f43 a.d43 ["_law_plan", "_law_keys"] qY3:=by
 refine VFn.mk2 T.d43.F qr8 (wOf [true,true]) (λ j Q Q' C J L _ h=>by obtain⟨n,wr,c,z,f,e,M,N,O,R,U,q⟩:=h;exact⟨n,wr,c,z,f,e,M,N,O,R,U,λ S h V=>L _ _ (q S h V)⟩) (λ j Q C h=>by obtain⟨n,wr,c,z,f,e,_⟩:=h;rw[e];exact⟨rfl,rfl⟩) (λ W A outer sh H E av X=>⟨_,(Ab (Aj 2 qr8.nd (qa4 (Bk qa6)))
     (Ab (sforP PassesOwn.leaving (vpn 1) (Bf 3 qr8.nd)
     (Ag (sif (q2v (Aw qn2 (qb0 _)) (An qn2 (qb0 _)) qs6 (Ah T.d40 (qp5 T) qa1 (rm X) (vaN 0 (vaV (qa4 (v2 (Ak qf4) qf3 (vnm 2) (Bk (qa2 (vnm 3) qa6 rfl)))) Ad))) A8)
     (Ag (Bc (Bq 2 qp6 F.plainAttrs_list F.slot_list_append F.type_list_append qc6 (vaN 3 Ad))))
     Au)))
     (Ag (Ap (emv 2))))),λ j Q C h=>?_⟩)
 obtain⟨n,wr,c,z,f,rfl,G,Y,Z,o,hl,q⟩:=h;refine At [Lm n wr c,.l z (Lq f),.u,.u] rfl ?_;refine qb1 [Lm n wr c,.l z (Lq f),.l false (Lq []),.u] (λ K r=>r) ?_;refine qc1 (λ j=>∃ S l,j=[Lm n wr c,.l z (Lq f),.l false (Lq S),l]/\S.Sublist f/\∀ q,¬ Crowd n.toNat wr (Ln n c) S q) (λ K r=>?_) ?_
 . refine qa0 (a:=(1,[])) rfl (qa0 (a:=D.l z (Lq f)) rfl (qa0 (a:=Lq f) rfl ⟨qg8 f,λ w=>?_⟩))
   refine qg9 (λ i j=>∃ S l,j=[Lm n wr c,.hole w,.l false (Lq S),l]/\S.Sublist (f.take i)/\∀ q,¬ Crowd n.toNat wr (Ln n c) S q) _ 0 _ ⟨[],_,rfl,.slnil,λ q=>(Kept.none (by lia) (Ev G)).no_crowd q⟩ ?_ ?_
   . rintro i y s j ⟨S,l,rfl,b,p⟩ K2 m
     rw[zAs] at b m;obtain⟨k,t,rfl⟩:=qaB6 s;have u:¬ k∈S:=λ z=>qP7 o t (b.subset z)
     have v:S.Nodup:=o.sublist (b.trans (zBm _ _));have I:S.length<=50:=zAp (b.trans (zBm _ _)).length_le hl;refine qq2 (At [Lm n wr c,.hole w,.l false (Lq S),.int k] rfl ?_);refine qY7 (qi9 (qc0 (x:=Lm n wr c) rfl (qf8 (y:=.l false (Lq (S++[k]))) (Ae (x:=.l false (Lq S)) (y:=.l false (Lq [k])) rfl rfl (Kk (by show _+1<=1000;lia))) (qc7 (qa0 (a:=Lm n wr c) rfl ?_)))));refine⟨n,wr,c,false,S++[k],rfl,G,Y,Z,zBd.mpr ⟨v,(by simp),λ x hx y s e=>u (by rw[<- zA8.mp s,<- e];exact hx)⟩,by rw[zA7];show _+1<=60;lia,λ _=>?_,λ B g _=>?_⟩
     . refine qa0 (a:=[Lm n wr c,.hole w,.l false (Lq S),.int k]) rfl (qa0 (a:=D.bl false) rfl (qa0 (a:=false) rfl (Es (by decide) (m _ ⟨S,_,rfl,b.trans ?_,p⟩))))
       rw[qv7 t];exact List.sublist_append_left _ _
     refine qa0 (a:=[Lm n wr c,.hole w,.l false (Lq S),.int k]) rfl (qa0 (a:=D.bl true) rfl (qa0 (a:=true) rfl (Bn rfl ?_)));refine qaE7 (ys:=Lq S) (d:=.int k) rfl rfl rfl (by decide) (by rw[qe8];unfold big;lia) ?_;rw[qD1];refine m _ ⟨S++[k],_,rfl,?_,B⟩;rw[qv7 t];exact b.append (List.Sublist.refl _)
   rintro j ⟨S,l,rfl,b,p⟩;rw[zAs,qe8,List.take_length] at b;exact qa0 (qaO5 rfl) (r _ ⟨S,l,rfl,b,p⟩)
 rintro j ⟨S,l,rfl,b,p⟩;exact q S b p
theorem qax5:qa8 ["_law_row", "_law_word", "_law_key"] ["_law_row", "_law_word", "_law_key"] (qa3 qad1):=by walk_at "s"
theorem qar6{th:VH}(h:∀(N:Ds->Prop)(X:XKd),(∀ a,u e a->N a)->(∀ x a,th x { e with nx:=u e } a->X x a)->t { e with nx:=N,xe:=X } ds):Gk (sTryW t th) u e ds:=h _ _ (λ _ z=>z) λ _ _ z=>z
theorem no_t{M:γ->Option Bool}{ts:VTS}{tr:VH}{x:Exn}(h:M x.C=some true)(q:ts (G3 e) ds):hNo M ts tr x e ds:=⟨true,h,Bn rfl q⟩
noncomputable def wS(p:Bool):Str:=cond p "put" "take"
def Fg(n:Int)(wr:Bool)(ps:Pr)(S:List Int)(k:Int)(p:Bool):Prop:=cond p (¬ k∈S/\∀ q,¬ Crowd n.toNat wr (Ln n ps) (S++[k]) q) (k∈S)
noncomputable def Bs(S:List Int)(k:Int)(p:Bool):List Int:=cond p (S++[k]) (S.erase k)
theorem qaN5{S:List Int}{k:Int}(a:S.Nodup):(S.filter λ x=>decide (x≠k))=S.erase k:=by
 rw[a.erase_eq_filter];apply List.filter_congr;intro x _;by_cases h:x=k
 . subst h;simp
 simp[h]
theorem qav1{S:List Int}{k:Int}(h:k∈S):Hb (Lq S) [.int k]=some (Lq (S.erase k),.non):=by
 show (intsD (Lq S)).bind _=_;rw[qah0];exact if_pos h
def qax1(C CP:γ):VSp:=λ ds Q _=>∃ n wr ps g dn S k p,ds=[Lr false C CP n wr ps g dn,.str (wS p),.int k]/\Al k/\1<=n/\n<=64/\(∀ y∈S,Al y)/\Kept n.toNat wr (Ln n ps) g S/\dn.length<=1000 /\
 (¬ Fg n wr ps S k p->Q (.bl false) ds)/\(Fg n wr ps S k p->∀ g',Kept n.toNat wr (Ln n ps) g' (Bs S k p)->Q (.bl true) [Lr false C CP n wr ps g' (dn++[.q [.str (wS p),.int k]]),.str (wS p),.int k])
theorem qaA2(T:Txt K mg a):VFn P w K mg base 9 a.f44 a.d44 ["_law_row", "_law_word", "_law_key"] (qax1 a.C6 a.C5):=by
 refine VFn.mk2 T.d44.F qax5 (wOf [true,true,true]) (λ v Q Q' s L y _ h=>by obtain⟨n,wr,d,g,f,S,k,p,e,M,O,R,U,V,W,l,q⟩:=h;exact⟨n,wr,d,g,f,S,k,p,e,M,O,R,U,V,W,λ a=>y _ _ (l a),λ i j K=>y _ _ (q i j K)⟩) (λ v Q s h=>by obtain⟨n,wr,d,g,f,S,k,p,e,_⟩:=h;rw[e];exact⟨rfl,rfl⟩) (λ Y A outer sh H E av t=>⟨_,(Ab (stryW (λ E' s pn B=>(Ag (sif (q2 (An (ql1 t.u64) (qb0 _)) Bl (vnm 1) Ec)
     (Ag (Bc (qk4 0 T.d32 T.C8.cl (qae9 T) B (rm t) (vaN 2 Ad))))
     (Ag (Bc (qk4 0 T.d33 T.C8.cl (qZ3 T) B (rm t) (vaN 2 Ad)))))))
     (vhnT3 T.D9 T.Cy T.D5 (λ ea=>(Ag (Ap (qa4 vbl))))
     vhnil))
     (Ag (Ap (qa4 vbl)))),λ v Q s h=>?_⟩)
 obtain⟨n,wr,d,g,f,S,k,p,rfl,C,G,I,J,KP,m,l,q⟩:=h;cases p with
 | true =>
   refine At [Lr false a.C6 a.C5 n wr d g f,.str "put",.int k] rfl ?_;refine qar6 λ N X u o=>?_
   refine if_v (b:=true) rfl (λ _=>qh5 (qy8 (p:=Lr false a.C6 a.C5 n wr d g f) rfl (qe9 rfl) (qc0 (x:=.int k) rfl (qc7 (qa0 (a:=D.int k) rfl (qa0 (a:=Lr false a.C6 a.C5 n wr d g f) rfl ⟨n,wr,d,g,f,S,k,rfl,C,G,I,J,KP,m,λ i=>?_,λ i=>⟨λ r c=>?_,λ Z came j K'=>?_⟩⟩)))))) λ h=>nomatch h
   . exact qa0 (a:=[Lr false a.C6 a.C5 n wr d g f,.str "put",.int k]) rfl (o _ _ (no_t T.Ci (qd2 (.bl false) rfl (l λ z=>z.1 i))))
   . exact qa0 (a:=[Lr false a.C6 a.C5 n wr d g f,.str "put",.int k]) rfl (o _ _ (no_t T.Ch (qd2 (.bl false) rfl (l λ z=>z.2 r c))))
   exact qa0 (a:=[Lr false a.C6 a.C5 n wr d j (f++[D.q [.str "put",.int k]]),.str "put",.int k]) rfl (u _ (qd2 (.bl true) rfl (q ⟨i,Z⟩ j K')))
 | false =>
   refine At [Lr false a.C6 a.C5 n wr d g f,.str "take",.int k] rfl ?_;refine qar6 λ N X u o=>?_
   refine if_v (b:=false) rfl (λ h=>nomatch h) λ _=>qh5 (qy8 (p:=Lr false a.C6 a.C5 n wr d g f) rfl (qe9 rfl) (qc0 (x:=.int k) rfl (qc7 (qa0 (a:=D.int k) rfl (qa0 (a:=Lr false a.C6 a.C5 n wr d g f) rfl ⟨n,wr,d,g,f,S,k,rfl,C,G,I,J,KP,m,λ i=>?_,λ i r came j K'=>?_⟩)))))
   . exact qa0 (a:=[Lr false a.C6 a.C5 n wr d g f,.str "take",.int k]) rfl (o _ _ (no_t T.Cf (qd2 (.bl false) rfl (l i))))
   rw[qaN5 KP.h.1] at K';exact qa0 (a:=[Lr false a.C6 a.C5 n wr d j (f++[D.q [.str "take",.int k]]),.str "take",.int k]) rfl (u _ (qd2 (.bl true) rfl (q i j K')))
theorem qr7:qa8 ["_law_row", "_law_plan", "_law_there", "_law_done", "_law_word", "_law_key", "_law_good"] ["_law_row", "_law_plan", "_law_there", "_law_done", "_law_word", "_law_key"] (qa3 qx7):=by walk_at "s"
theorem qaW0{p:Bool}:gEq (.str (wS p)) (.str "put")=some (.bl p):=by cases p<;>rfl
theorem qaN6{p:Bool}:gEq (.str (wS p)) (.str "take")=some (.bl !p):=by cases p<;>rfl
theorem qaH0{S:List Int}{k:Int}(hi:ds[i]? = some (.l false (Lq S)))(b:f ds=some (.int k))(c:k∈S)(q:Q .non (ds.set i (.l false (Lq (S.erase k))))):Eg Hb i (tbV (Ee f) Ax) ds Q xe:=by
 have e:(rdN i ds).bind D.own=some (Lq S):=by rw[qh1 hi rfl];rfl
 refine⟨by rw[e];rfl,qd9 b rfl ?_⟩;refine qa0 (k:=λ d=>orF (Hb d [.int k]) λ z=>Q z.2 (ds.set i (.l false z.1))) e ?_;exact qa0 (a:=(Lq (S.erase k),D.non)) (qav1 c) q
def qY1(C CP:γ):VSp:=λ ds Q _=>∃ n wr ps g dn S k p,ds=[Lr false C CP n wr ps g dn,Lm n wr ps,.l false (Lq S),.l false dn,.str (wS p),.int k]/\Al k/\1<=n/\n<=64/\(ps.map (·.1)).Nodup/\(∀ y∈S,Al y)/\Kept n.toNat wr (Ln n ps) g S/\dn.length<=1000/\S.length<=50 /\
 Q (.bl true) ds/\(Fg n wr ps S k p->∀ g',Kept n.toNat wr (Ln n ps) g' (Bs S k p)->Q (.bl true) [Lr false C CP n wr ps g' (dn++[.q [.str (wS p),.int k]]),Lm n wr ps,.l false (Lq (Bs S k p)),.l false (dn++[.q [.str (wS p),.int k]]),.str (wS p),.int k])
theorem qZ6(T:Txt K mg a):VFn P w K mg base 10 a.f45 a.d45 ["_law_row", "_law_plan", "_law_there", "_law_done", "_law_word", "_law_key"] (qY1 a.C6 a.C5):=by
 refine VFn.mk2 T.d45.F qr7 (wOf [true,true,true,true,true,true]) (λ r Q Q' N V O _ h=>by obtain⟨n,wr,f,g,j,S,k,p,e,W,v,B,X,Y,Z,h6,h7,C,q⟩:=h;exact⟨n,wr,f,g,j,S,k,p,e,W,v,B,X,Y,Z,h6,h7,O _ _ C,λ i o K=>O _ _ (q i o K)⟩) (λ r Q N h=>by obtain⟨n,wr,f,g,j,S,k,p,e,_⟩:=h;rw[e];exact⟨rfl,rfl⟩) (λ a0 A outer sh H E av m=>⟨_,(Ab (Aj 6 qr7.nd (qa4 (vand (v2 (Aw (ql1 m.u64) (qb0 _)) Bl (vnm 4) Ec) (Jv (v2 (Aw qv4 (by with_unfolding_all rfl)) F8 (vnm 5) (vnm 2))))))
     (Ab (sif (q2 (An (ql1 m.u64) (qb0 _)) Bl (vnm 4) Ec)
     (Ag (Aj 6 qr7.nd (Fk (qa4 (v2 (Aw qn3 (by with_unfolding_all rfl)) F8 (vnm 5) (vnm 2))) (Gw (e2v (Aw qn2 (qb0 _)) qs6 (Ah T.d40 (qp5 T) qa1 (rm m) (vaN 1 (vaV (qa4 (v2 (Ak qf4) qf3 (vnm 2) (Bk (qa2 (vnm 5) qa6 rfl)))) Ad))) A8)))))
     Au)
     (Ab (sif (q2v (Aw (qn4 m.u64) (qb0 _)) (An (qn4 m.u64) (qb0 _)) Ef (Ah T.d44 (qaA2 T) qa1 (rm m) (vaN 0 (vaN 4 (vaN 5 Ad)))) (vnm 6))
     (Ag (Ap (qa4 vbl)))
     Au)
     (Ab (sif (tv (vnm 6))
     (Ag (Bc (Bq 3 qp6 F.plainAttrs_list F.slot_list_append F.type_list_append qc6 (vaV (qa4 (Fq (qa2 (vnm 4) (qa2 (vnm 5) qa6 rfl) rfl))) Ad))))
     Au)
     (Ab (sif (Ju (tv (vnm 6)) (Gv (q2 (An (ql1 m.u64) (qb0 _)) Bl (vnm 4) Ec))).te
     (Ag (Bc (Bq 2 qp6 F.plainAttrs_list F.slot_list_append F.type_list_append qc6 (vaV (qb5 (vnm 5)) Ad))))
     (Ag (sif (tv (vnm 6))
     (Ag (Bc (Bq 2 qaK8 F.plainAttrs_list F.slot_list_remove F.type_list_remove qT2 (vaV (qb5 (vnm 5)) Ad))))
     Au)))
     (Ag (Ap (qa4 vbl)))))))),λ r Q N h=>?_⟩)
 obtain⟨n,wr,f,g,j,S,k,p,rfl,R,I,J,nd,U,KP,s,a1,C,q⟩:=h;refine At [Lr false a.C6 a.C5 n wr f g j,Lm n wr f,.l false (Lq S),.l false j,.str (wS p),.int k,.u] rfl ?_;refine qb1 [Lr false a.C6 a.C5 n wr f g j,Lm n wr f,.l false (Lq S),.l false j,.str (wS p),.int k,.bl (!p&&decide (k∈S))] (λ K l=>qw3 (qai4 (Ae rfl rfl qaN6) (Ae rfl rfl qaM2)) l) ?_;refine qc1 (λ r=>∃ G:Bool,r=[Lr false a.C6 a.C5 n wr f g j,Lm n wr f,.l false (Lq S),.l false j,.str (wS p),.int k,.bl G]/\(G=true->Fg n wr f S k p)/\(G=false->¬ Fg n wr f S k p)) (λ K l=>if_v (b:=p) (Ae rfl rfl qaW0) (λ L=>?_) λ L=>?_) ?_
 . subst L
   refine qd8 (Fe (!decide (k∈S)) (Ae rfl rfl qP6) (λ t=>?_) λ t=>?_)
   . have u:¬ k∈S:=λ z=>by rw[zAl z] at t;cases t
     refine qA3 (qi9 (qc0 (x:=Lm n wr f) rfl (qf8 (y:=.l false (Lq (S++[k]))) (Ae (x:=.l false (Lq S)) (y:=.l false (Lq [k])) rfl rfl (Kk (by show _+1<=1000;lia))) (qc7 (qa0 (a:=Lm n wr f) rfl ?_)))));refine⟨n,wr,f,false,S++[k],rfl,I,J,nd,zBd.mpr ⟨KP.h.1,(by simp),λ x hx y hy e=>u (by rw[<- zA8.mp hy,<- e];exact hx)⟩,by rw[zA7];show _+1<=60;lia,λ ⟨q,c⟩=>?_,λ nc g2 _=>?_⟩
     . exact qa0 (a:=[Lr false a.C6 a.C5 n wr f g j,Lm n wr f,.l false (Lq S),.l false j,.str (wS true),.int k,.bl (!true&&decide (k∈S))]) rfl (qa0 (a:=D.bl false) rfl (l _ ⟨false,rfl,(λ h=>nomatch h),λ _ z=>z.2 q c⟩))
     exact qa0 (a:=[Lr false a.C6 a.C5 n wr f g j,Lm n wr f,.l false (Lq S),.l false j,.str (wS true),.int k,.bl (!true&&decide (k∈S))]) rfl (qa0 (a:=D.bl true) rfl (l _ ⟨true,rfl,λ _=>⟨u,nc⟩,λ h=>nomatch h⟩))
   exact l _ ⟨false,rfl,(λ h=>nomatch h),λ _ z=>z.1 (by by_cases h:k∈S;exact h;rw[zB2 h] at t;cases t)⟩
 . subst L
   exact l _ ⟨decide (k∈S),rfl,λ h=>show k∈S from zAc h,λ h=>show ¬ k∈S from zB9 h⟩
 rintro r ⟨G,rfl,v,B⟩;cases G with
 | false =>
   refine qQ3 (qY7 (Ki (x:=Lr false a.C6 a.C5 n wr f g j) (y:=.str (wS p)) (w:=.int k) rfl rfl rfl rfl rfl ⟨n,wr,f,g,j,S,k,p,rfl,R,I,J,U,KP,s,λ _=>qa0 (a:=[Lr false a.C6 a.C5 n wr f g j,Lm n wr f,.l false (Lq S),.l false j,.str (wS p),.int k,.bl false]) rfl (qa0 (a:=D.bl false) rfl (qa0 (a:=false) rfl (Es (by decide) ?_))),λ z=>absurd z (B rfl)⟩));refine qb1 [Lr false a.C6 a.C5 n wr f g j,Lm n wr f,.l false (Lq S),.l false j,.str (wS p),.int k,.bl false] (λ K l=>if_v (b:=false) rfl (λ h=>nomatch h) λ _=>l) ?_;refine qb1 [Lr false a.C6 a.C5 n wr f g j,Lm n wr f,.l false (Lq S),.l false j,.str (wS p),.int k,.bl false] (λ K l=>Kg false (λ Q q=>qk5 false false (λ Q q=>qg1 (b:=false) rfl q) (λ h=>nomatch h) q) (λ h=>nomatch h) λ _=>if_v (b:=false) rfl (λ h=>nomatch h) λ _=>l) ?_;exact qd2 (.bl true) rfl C
 | true =>
   have M:=v rfl;refine qQ3 (qY7 (Ki (x:=Lr false a.C6 a.C5 n wr f g j) (y:=.str (wS p)) (w:=.int k) rfl rfl rfl rfl rfl ⟨n,wr,f,g,j,S,k,p,rfl,R,I,J,U,KP,s,λ z=>absurd M z,λ _ o K'=>qa0 (a:=[Lr false a.C6 a.C5 n wr f o (j++[D.q [.str (wS p),.int k]]),Lm n wr f,.l false (Lq S),.l false j,.str (wS p),.int k,.bl true]) rfl (qa0 (a:=D.bl false) rfl (qa0 (a:=false) rfl (Es (by decide) ?_)))⟩))
   replace q:=q M o K'
   refine qb1 [Lr false a.C6 a.C5 n wr f o (j++[D.q [.str (wS p),.int k]]),Lm n wr f,.l false (Lq S),.l false (j++[D.q [.str (wS p),.int k]]),.str (wS p),.int k,.bl true] (λ K l=>if_v (b:=true) rfl (λ _=>qh5 (qD8 (ys:=j) (d:=D.q [.str (wS p),.int k]) rfl rfl (by unfold big;lia) l)) λ h=>nomatch h) ?_;refine qb1 [Lr false a.C6 a.C5 n wr f o (j++[D.q [.str (wS p),.int k]]),Lm n wr f,.l false (Lq (Bs S k p)),.l false (j++[D.q [.str (wS p),.int k]]),.str (wS p),.int k,.bl true] (λ K l=>?_) (qd2 (.bl true) rfl q);cases p with
   | true=>exact Kg true (λ Q q=>qk5 true true (λ Q q=>qg1 (b:=true) rfl q) (λ _ Q q=>qg1 (b:=true) rfl q) q) (λ _=>qh5 (qaj9 (ys:=Lq S) (d:=.int k) rfl rfl rfl (by rw[qe8];unfold big;lia) (by rw[qD1];exact l))) λ h=>nomatch h
   | false=>exact Kg false (λ Q q=>qk5 true false (λ Q q=>qg1 (b:=true) rfl q) (λ _ Q q=>qg1 (b:=false) rfl q) q) (λ h=>nomatch h) λ _=>if_v (b:=true) rfl (λ _=>qh5 (qaH0 (S:=S) (k:=k) rfl rfl M l)) λ h=>nomatch h
theorem qo8:qa8 ["_law_row", "_law_there", "_law_done", "_law_found", "_law_word", "_law_key"] ["_law_row", "_law_there", "_law_done"] (qa3 qE9):=by walk_at "s"
theorem qaw0{g:VTG}(h:te ds (λ d a=>g d a e.nx) e.xe):E7 te g e ds:=h
theorem qaR5{dn0:Ds}(hi:ds[i]? = some (.l false (dn0++[d])))(q:Q d (ds.set i (.l false dn0))):Eg gPop i Ax ds Q xe:=by
 have e:(rdN i ds).bind D.own=some (dn0++[d]):=by rw[qh1 hi rfl];rfl
 refine⟨by rw[e];rfl,qc7 ?_⟩;refine qa0 (k:=λ b=>orF (gPop b []) λ z=>Q z.2 (ds.set i (.l false z.1))) e ?_;refine qa0 (a:=(dn0,d)) ?_ q;show ((dn0++[d])[(dn0++[d]).length - 1]?).map (λ c=>((dn0++[d]).dropLast,c))=_;rw[zA7,show dn0.length + [d].length - 1=dn0.length from rfl,List.getElem?_append_right (zA6 _),Nat.sub_self,List.dropLast_concat];rfl
theorem qaQ8{S:List Int}{k:Int}(hi:ds[i]? = some (.l false (Lq S)))(c:ds[j]? = some (.int k))(f:i≠j)(g:k∈S)(q:Q .non ((ds.set j .u).set i (.l false (Lq (S.erase k))))):Eg Hb i (tbN j Ax) ds Q xe:=by
 have e:(rdN i ds).bind D.own=some (Lq S):=by rw[qh1 hi rfl];rfl
 have e2:(rdN i (ds.set j .u)).bind D.own=some (Lq S):=by rw[qh1 (d:=.l false (Lq S)) (by rw[zBc (Ne.symm f)];exact hi) rfl];rfl
 refine⟨by rw[e];rfl,qc0 (qh1 c rfl) ?_⟩;refine qa0 (k:=λ d=>orF ((rdN i (ds.set j .u)).bind D.own) λ b=>orF (Hb b [d]) λ z=>Q z.2 ((ds.set j .u).set i (.l false z.1))) (qh1 c rfl) ?_;refine qa0 (k:=λ b=>orF (Hb b [.int k]) λ z=>Q z.2 ((ds.set j .u).set i (.l false z.1))) e2 ?_;exact qa0 (a:=(Lq (S.erase k),D.non)) (qav1 g) q
theorem qaA8{dn0:Ds}:gNe (.l false (dn0++[d])) (.l false [])=some (.bl true):=by cases dn0<;>rfl
def qac1(C CP:γ):VSp:=λ ds Q _=>∃ n wr ps g dn S,ds=[Lr false C CP n wr ps g dn,.l false (Lq S),.l false dn]/\1<=n/\n<=64/\(∀ x∈S,Al x)/\Kept n.toNat wr (Ln n ps) g S /\
 (dn=[]/\Q (.bl true) ds∨∃ a k p,dn=a++[.q [.str (wS p),.int k]]/\Al k/\Fg n wr ps S k !p/\∀ g',Kept n.toNat wr (Ln n ps) g' (Bs S k !p)->Q (.bl true) [Lr false C CP n wr ps g' a,.l false (Lq (Bs S k !p)),.l false a])
theorem qJ5(T:Txt K mg a):VFn P w K mg base 9 a.f46 a.d46 ["_law_row", "_law_there", "_law_done"] (qac1 a.C6 a.C5):=by
 refine VFn.mk2 T.d46.F qo8 (wOf [true,true,true]) (λ l Q Q' t I u _ h=>by obtain⟨n,wr,f,g,o,S,e,J,L,M,N,h⟩:=h;exact⟨n,wr,f,g,o,S,e,J,L,M,N,h.imp (λ h=>⟨h.1,u _ _ h.2⟩) λ ⟨c,k,p,h,s,m,q⟩=>⟨c,k,p,h,s,m,λ i K=>u _ _ (q i K)⟩⟩) (λ l Q t h=>by obtain⟨n,wr,f,g,o,S,e,_⟩:=h;rw[e];exact⟨rfl,rfl⟩) (λ O A outer U H E V r=>⟨_,(Ab (Aj 3 qo8.nd (qq6 0 T.d34 T.C8.cl (qC9 T) qa1 (rm r)))
     (Ab (sif (tor (Bp (tv (vbi qf7 qC0.ops T.Ca (qa2 (vnm 3) (qa2 (vty "bool" T.D1) qa6 rfl) rfl)))) (Im (q2 (An (qn4 r.u64) (qb0 _)) Ef (vnm 3) (v2 (Aw (qn4 r.u64) (qb0 _)) Ef (vnm 2) (Bk qa6))))).te
     (Ag (Ap (qa4 vbl)))
     Au)
     (Ab (sif (q2 (An (qn4 r.u64) (qb0 _)) Ef (vnm 2) (Bk qa6))
     (Ab (Fs (qaW4 2 qaK9 F.plainAttrs_list F.slot_list_pop F.type_list_pop qaL0) (Hv (n:=2) rfl (qK8 (Bf 4 qo8.nd) (qK8 (Bf 5 qo8.nd) Hu))))
     (Ag (sif (q2 (An (ql1 r.u64) (qb0 _)) Bl (vnm 4) Ec)
     (Ag (Bc (Bq 1 qaK8 F.plainAttrs_list F.slot_list_remove F.type_list_remove qT2 (vaN 5 Ad))))
     (Ag (Bc (Bq 1 qp6 F.plainAttrs_list F.slot_list_append F.type_list_append qc6 (vaN 5 Ad)))))))
     Au)
     (Ag (Ap (qa4 vbl)))))),λ l Q t h=>?_⟩)
 obtain⟨n,wr,f,g,o,S,rfl,v,z,B,KP,h⟩:=h;have R:S.length<=64:=by have:=KP.len;lia
 refine At [Lr false a.C6 a.C5 n wr f g o,.l false (Lq S),.l false o,.u,.u,.u] rfl ?_;rcases h with⟨rfl,q⟩ | ⟨c,k,p,rfl,s,m,q⟩
 . refine qb1 [Lr false a.C6 a.C5 n wr f g [],.l false (Lq S),.l false [],.bl false,.u,.u] (λ K j=>qd8 (qy8 (p:=Lr false a.C6 a.C5 n wr f g []) rfl (qe9 rfl) (qc7 (qa0 (a:=Lr false a.C6 a.C5 n wr f g []) rfl ⟨n,wr,f,g,[],S,rfl,v,z,B,KP,.inl ⟨rfl,qa0 (a:=[Lr false a.C6 a.C5 n wr f g [],.l false (Lq S),.l false [],.u,.u,.u]) rfl j⟩⟩)))) ?_
   refine qh4 false (λ Q q=>qC1 false false (λ Q q=>qh2 (b:=true) rfl q) (λ _ Q q=>qg1 (b:=false) rfl q) q) (λ h=>nomatch h) λ _=>?_
   refine qb1 [Lr false a.C6 a.C5 n wr f g [],.l false (Lq S),.l false [],.bl false,.u,.u] (λ K j=>if_v (b:=false) rfl (λ h=>nomatch h) λ _=>j) ?_;exact qd2 (.bl true) rfl q
 refine qc1 (λ l=>∃ i,l=[Lr false a.C6 a.C5 n wr f i c,.l false (Lq S),.l false (c++[D.q [.str (wS p),.int k]]),.bl true,.u,.u]/\Kept n.toNat wr (Ln n f) i (Bs S k !p)) (λ K j=>qd8 (qy8 (p:=Lr false a.C6 a.C5 n wr f g (c++[D.q [.str (wS p),.int k]])) rfl (qe9 rfl) (qc7 (qa0 (a:=Lr false a.C6 a.C5 n wr f g (c++[D.q [.str (wS p),.int k]])) rfl ⟨n,wr,f,g,_,S,rfl,v,z,B,KP,.inr ⟨c,k,s,?_⟩⟩)))) ?_
 . cases p with
   | true=>exact .inl ⟨rfl,m,λ i K'=>qa0 (a:=[Lr false a.C6 a.C5 n wr f i c,.l false (Lq S),.l false (c++[D.q [.str "put",.int k]]),.u,.u,.u]) rfl (j _ ⟨i,rfl,by rw[qaN5 KP.h.1] at K';exact K'⟩)⟩
   | false=>exact .inr ⟨rfl,m.1,m.2,λ i K'=>qa0 (a:=[Lr false a.C6 a.C5 n wr f i c,.l false (Lq S),.l false (c++[D.q [.str "take",.int k]]),.u,.u,.u]) rfl (j _ ⟨i,rfl,K'⟩)⟩
 rintro l ⟨i,rfl,K'⟩;refine qh4 false (λ Q q=>qC1 false false (λ Q q=>qh2 (b:=true) rfl q) (λ _ Q q=>qg1 (b:=false) (Ae (x:=.bl true) (y:=.bl true) rfl (Ae (x:=.l false (c++[D.q [.str (wS p),.int k]])) (y:=.l false []) rfl rfl qaA8) rfl) q) q) (λ h=>nomatch h) λ _=>?_
 refine qc1 (λ l=>∃ C G,l=[Lr false a.C6 a.C5 n wr f i c,.l false (Lq (Bs S k !p)),.l false c,.bl true,C,G]) (λ K j=>if_v (b:=true) (Ae (x:=.l false (c++[D.q [.str (wS p),.int k]])) (y:=.l false []) rfl rfl qaA8) (λ _=>?_) λ h=>nomatch h) ?_
 . refine qb1 [Lr false a.C6 a.C5 n wr f i c,.l false (Lq S),.l false c,.bl true,.str (wS p),.int k] (λ K j=>qaw0 (qaR5 (dn0:=c) (d:=.q [.str (wS p),.int k]) rfl (qG4 j))) ?_
   cases p with
   | true=>exact if_v (b:=true) rfl (λ _=>qh5 (qaQ8 (S:=S) (k:=k) rfl rfl (by decide) m (j _ ⟨_,_,rfl⟩))) λ h=>nomatch h
   | false=>exact if_v (b:=false) rfl (λ h=>nomatch h) λ _=>qh5 (qaE7 (ys:=Lq S) (d:=.int k) rfl rfl rfl (by decide) (by rw[qe8];unfold big;lia) (by rw[qD1];exact j _ ⟨_,_,rfl⟩))
 rintro l ⟨C,G,rfl⟩;exact qd2 (.bl true) rfl (q i K')
theorem qY5:qa8 ["self"] ["self"] (qa3 qx4):=by walk_at "s"
def qX8(C CP:γ):VSp:=Ay λ ds d=>∃ zr n wr ps g dn S,ds=[Lr zr C CP n wr ps g dn]/\n<=64/\Kept n.toNat wr (Ln n ps) g S/\d=.int (S.length:Nat)
theorem qZ4(T:Txt K mg a):VFn P w K mg base 2 a.f30 a.d30 ["self"] (qX8 a.C6 a.C5):=by
 refine VFn.mk2 T.d30.F qY5 (wOf [true]) qb2 (λ i Q j h=>by obtain⟨d,⟨b,n,wr,c,g,f,S,e,_⟩,_⟩:=h;rw[e];exact⟨rfl,rfl⟩) (λ k A outer o H E r l=>⟨_,(Ag (Ap (ebi qt5 qt4.ops T.Cs (Fm (vaV (qq6 0 T.d29 T.C8.cl (ql2 T) qa1 (rm l)) Ad))))),λ i Q j h=>?_⟩);obtain⟨d,⟨b,n,wr,c,g,f,S,rfl,m,KP,rfl⟩,q⟩:=h;refine At [Lr b a.C6 a.C5 n wr c g f] rfl ?_;refine qj6 (Kl (qj0 (qP9 (p:=Lr b a.C6 a.C5 n wr c g f) (d:=.l false (Lq ((List.range n.toNat).filterMap g))) rfl (qe9 rfl) ⟨b,n,wr,c,g,f,rfl,m,rfl⟩ rfl (qc7 (qa0 (a:=D.int (S.length:Nat)) ?_ q)))));show some (D.int ((Lq ((List.range n.toNat).filterMap g)).length:Nat))=_;rw[qe8,KP.perm.length_eq]
theorem qO3:qa8 ["self"] ["self"] (qa3 qs3):=by walk_at "s"
def qN4(C CP:γ):VSp:=Ay λ ds d=>∃ zr n wr ps g dn,ds=[Lr zr C CP n wr ps g dn]/\D.imms dn=true/\d=.l false dn
theorem qP4(T:Txt K mg a):VFn P w K mg base 1 a.f35 a.d35 ["self"] (qN4 a.C6 a.C5):=by
 refine VFn.mk2 T.d35.F qO3 (wOf [true]) qb2 (λ i Q j h=>by obtain⟨d,⟨c,n,wr,f,g,b,e,_⟩,_⟩:=h;rw[e];exact⟨rfl,rfl⟩) (λ k A outer m H E o p=>⟨_,(Ag (Ap (qa4 (Gi qh0 qL3.ops T.Ct (qa2 (Bi rfl (vnm 0) T.C8.cl T.Ck) qa6 rfl))))),λ i Q j h=>?_⟩);obtain⟨d,⟨c,n,wr,f,g,b,rfl,l,rfl⟩,q⟩:=h;refine At [Lr c a.C6 a.C5 n wr f g b] rfl ?_;refine qd2 (.l false b) ?_ q;unfold Bb Ba;rw[A4 rfl qS5];exact ql4 l
theorem qo9:qa8 ["_law_row", "_law_plan", "_law_there", "_law_done", "_law_keys", "_law_out", "_law_found", "_law_rooms", "_law_told"] ["_law_row", "_law_plan", "_law_there", "_law_done", "_law_keys"] (qa3 qO7):=by walk_at "s"
theorem qaV5{z:Bool}{g:Nat->Option Int}(h:∀ i,i < N->g i=g' i):gNe (.l z (Ls N g)) (.l z' (Ls N g'))=some (.bl false):=by
 rw[qp0 h];show (E6 (eqN 20) (Ls N g') (Ls N g')).map (λ x=>D.bl !x)=_;rw[Kj _ λ _=>qam4];rfl
def Gf(N:Nat)(g:Nat->Option Int)(x:D):D:=match x with
 | .int k=>Bd N g k
 | d=>d
theorem qaA3{g:Nat->Option Int}{k:Int}:okN 20 (Bd N g k)=true:=by
 unfold Bd;cases El N g k<;>rfl
theorem qaA1{g:Nat->Option Int}{S:List Int}:okN 21 (.l false ((Lq S).map (Gf N g)))=true:=zB1.mpr λ x a=>by
 obtain⟨y,b,rfl⟩:=zB0.mp a;obtain⟨k,_,rfl⟩:=zB0.mp b;exact qaA3
theorem qaC2{z:Bool}{g:Nat->Option Int}{k:Int}(hi:i < N)(e:g i=some k):J1 (.l z (Ls N g)) (.int k)=some (Bd N g k):=by
 show ((some (V.int k)).bind λ v=>(flats (Ls N g)).bind λ b=>(Bu v b).map λ j=>D.int (j:Nat))=_;rw[qG6];show (Bu (.int k) _).map _=_;rw[qU5];show (El N g k).map _=_;obtain⟨j,a⟩:=qv2 hi e;unfold Bd at a ⊢;cases h:El N g k with
 | some j=>rfl
 | none=>rw[h] at a;cases a
def okDn(dn:Ds):Prop:=∀ d∈dn,∃ p k,d=.q [.str (wS p),.int k]
theorem okDn.imms:∀{dn:Ds},okDn dn->D.imms dn=true
 | [],_=>rfl
 | d::dn,h=>by
   obtain⟨p,k,rfl⟩:=h d zAa;show (true&&D.imms dn)=true;rw[okDn.imms λ x a=>h x (zA4 _ a)];rfl
theorem okDn.ok{dn:Ds}(h:okDn dn):okN 21 (.l false dn)=true:=zB1.mpr λ x a=>by
 obtain⟨p,k,rfl⟩:=h x a;rfl
theorem okDn.app{dn:Ds}(h:okDn dn)(p:Bool)(k:Int):okDn (dn++[.q [.str (wS p),.int k]]):=λ x a=>by
 rcases zAb.mp a with z | z
 . exact h x z
 exact⟨p,k,zA8.mp z⟩
def qal8(C CP:γ):VSp:=Ay λ ds d=>∃ n wr ps g dn S ks,ds=[Lr false C CP n wr ps g dn,Lm n wr ps,.l false (Lq S),.l false dn,.l false (Lq ks)]/\1<=n/\n<=64/\(ps.map (·.1)).Nodup/\(∀ y∈S,Al y)/\Kept n.toNat wr (Ln n ps) g S/\okDn dn/\dn.length<=1000/\(∀ k∈ks,Al k)/\ks.length<=64/\¬ 999999999999999999∈S/\S.length<=50/\d=.bl true
theorem qS8(T:Txt K mg a):VFn P w K mg base 5 a.f47 a.d47 ["_law_row", "_law_plan", "_law_there", "_law_done", "_law_keys"] (qal8 a.C6 a.C5):=by
 refine VFn.mk2 T.d47.F qo9 (wOf [true,true,true,true,true]) qb2 (λ M Q Y h=>by obtain⟨d,⟨n,wr,l,g,f,S,t,e,_⟩,_⟩:=h;rw[e];exact⟨rfl,rfl⟩) (λ Z A outer sh H E u s=>⟨_,(Ab (Aj 5 qo9.nd (e2vP (Av qb6) Am (ecL (NY:=["_law_key", "_law_there"]) (src:=[none,some 2]) (qa4 (v2 (Ak qf4) qf3 (vnm 4) (Bk (qa2 (v2 (Ak qu7) qu6 (vpow 1000000000000000000) Af) qa6 rfl)))) (blk (λ u C v H0 B=>(Bf 0 (show (["_law_key", "_law_there"]:List Str).Nodup by decide +kernel))) (λ u C v H0 B=>(G1 (q2 (An qn3 (by with_unfolding_all rfl)) F8 (vnm 0) (vnm 1)))) (λ u C v H0 B=>(qb5 (vnm 0))))) Af))
     (Ab (Aj 6 qo9.nd (qq6 0 T.d35 T.C8.cl (qP4 T) qa1 (rm s)))
     (Ab (sif (tor (Bp (tv (vbi qf7 qC0.ops T.Ca (qa2 (vnm 6) (qa2 (vty "list" T.Ct) qa6 rfl) rfl)))) (tor (q2 (An (qn4 s.u64) (qb0 _)) Ef (vnm 6) (vnm 3)) (Im (q2e (Aw (qn4 s.u64) (qb0 _)) (An (qn4 s.u64) (qb0 _)) Ef (qq6 0 T.d28 T.C8.cl (qf5 T) qa1 (rm s)) (Ah T.d40 (qp5 T) qa1 (rm s) (vaN 1 (vaN 2 Ad))))))).te
     (Ag (Ap (qa4 vbl)))
     Au)
     (Ab (Bc (Bq 6 qp6 F.plainAttrs_list F.slot_list_append F.type_list_append qc6 (vaV (qa4 (Fq (qa2 Ec (qa2 Af qa6 rfl) rfl))) Ad)))
     (Ab (Aj 7 qo9.nd (qq6 0 T.d28 T.C8.cl (qf5 T) qa1 (rm s)))
     (Ab (scN (NY:=["_law_key", "_law_row"]) (src:=[none,some 0]) 8 2 qo9.nd (blk (λ u C v H0 B=>(Bf 0 (show (["_law_key", "_law_row"]:List Str).Nodup by decide +kernel))) (λ u C v H0 B=>Fc) (λ u C v H0 B=>(qk4 1 T.d31 T.C8.cl (qg2 T) qt1 (rm s) (vaN 0 Ad)))))
     (Ab (sif (tor (q2v (Aw (qn4 s.u64) (qb0 _)) (An (qn4 s.u64) (qb0 _)) Ef (qq6 0 T.d30 T.C8.cl (qZ4 T) qa1 (rm s)) (vbi qt5 qt4.ops T.Cs (qa2 (vnm 2) qa6 rfl))) (Im (q2n 8 (Aw (qn4 s.u64) (qb0 _)) (An (qn4 s.u64) (qb0 _)) Ef (ecN (NY:=["_law_key", "_law_rooms"]) (src:=[none,some 7]) 2 (blk (λ u C v H0 B=>(Bf 0 (show (["_law_key", "_law_rooms"]:List Str).Nodup by decide +kernel))) (λ u C v H0 B=>Fc) (λ u C v H0 B=>(qa4 (vbm qaz6 F.plainAttrs_list F.slot_list_index F.type_list_index qF9 (vnm 1) (vnm 0) qah4)))))))).te
     (Ag (Ap (qa4 vbl)))
     Au)
     (Ag (Ap (Fk (e2v (Aw Ey (qb0 _)) Ex (qk4 0 T.d31 T.C8.cl (qg2 T) qa1 (rm s) (vaN 5 Ad)) A8) (Gw (ebi (qH1 rfl) qaD9.ops T.Dg (Fm (vaV (ecN (NY:=["_law_deed_here"]) (src:=[none]) 6 (blk (λ u C v H0 B=>(Bf 0 (show (["_law_deed_here"]:List Str).Nodup by decide +kernel))) (λ u C v H0 B=>Fc) (λ u C v H0 B=>(qa4 (vbi qf7 qC0.ops T.Ca (qa2 (vnm 0) (qa2 (vty "tuple" T.Da) qa6 rfl) rfl)))))) Ad)))))))))))))),λ M Q Y h=>?_⟩)
 obtain⟨d,⟨n,wr,l,g,f,S,t,rfl,n1,W,nd,hS,KP,N,a0,O,a1,nM,a2,rfl⟩,q⟩:=h;refine At [Lr false a.C6 a.C5 n wr l g f,Lm n wr l,.l false (Lq S),.l false f,.l false (Lq t),.u,.u,.u,.u] rfl ?_;refine qc1 (λ M=>∃ o,M=[Lr false a.C6 a.C5 n wr l g f,Lm n wr l,.l false (Lq S),.l false f,.l false (Lq t),.int o,.u,.u,.u]/\Al o/\¬ o∈S) (λ K G=>qd8 (qar7 (qn7 (d:=.l false (Lq (t++[999999999999999999]))) (Ae (x:=.l false (Lq t)) (y:=.l false (Lq [999999999999999999])) rfl rfl (Kk (by show _+1<=1000;lia))) (qa0 (a:=Lq (t++[999999999999999999])) rfl ⟨qg8 _,?_⟩)))) ?_
 . refine qh7 (λ ι=>∃ d,ι=[d,.l false (Lq S)]) (Fd λ x=>!decide (x∈S)) _ [] _ (by show 0+_ < 1000000;rw[qe8,zA7];show 0+(_+1) < 1000000;lia) ⟨_,rfl⟩ ?_ ?_
   . rintro y J ι I ⟨d,rfl⟩ R L m
     obtain⟨k,_,rfl⟩:=zB0.mp J;have this:=L [.int k,.l false (Lq S)] ⟨_,rfl⟩;refine qq2 (qg1 (b:=!decide (k∈S)) (Ae rfl rfl qP6) (ite_b (λ h=>?_) λ h=>?_))
     . rw[qT9 (by exact h)] at this
       exact qz5 (d:=.int k) rfl rfl ⟨m,this⟩
     rw[qU0 (by exact h)] at this;have this:R (I++[]) _:=this;rw[zAe] at this;exact this
   rintro ι ⟨d,rfl⟩;rw[qz3,zAz];cases e:(t++[999999999999999999]).filter λ x=>!decide (x∈S) with
   | nil =>
     have h:=List.filter_eq_nil_iff.mp e 999999999999999999 (zAq _ (zA8.mpr rfl));rw[zB2 nM] at h;exact absurd rfl h
   | cons o r =>
     obtain⟨hm,X⟩:=zAy.mp (show o∈(t++[999999999999999999]).filter λ x=>!decide (x∈S) from by rw[e];exact zAa);refine qa0 (a:=D.int 0) rfl ⟨rfl,qa0 (a:=D.int o) (qL7 (xs:=D.int o::Lq r) (j:=0) rfl) (G _ ⟨o,rfl,?_,λ z=>by rw[zAl z] at X;cases X⟩)⟩;rcases zAb.mp hm with z | z
     . exact O o z
     rw[zA8.mp z];exact⟨by decide,by decide⟩
 rintro M ⟨o,rfl,i0,o0⟩;refine qb1 [Lr false a.C6 a.C5 n wr l g f,Lm n wr l,.l false (Lq S),.l false f,.l false (Lq t),.int o,.l false f,.u,.u] (λ K G=>qd8 (qP9 (p:=Lr false a.C6 a.C5 n wr l g f) (d:=.l false f) rfl (qe9 rfl) ⟨false,n,wr,l,g,f,rfl,N.imms,rfl⟩ rfl G)) ?_;refine qh4 false (λ Q q=>qC1 false false (λ Q q=>qh2 (b:=true) (qQ2 rfl) q) (λ _ Q q=>qC1 false false (λ Q q=>qg1 (b:=false) (Ae rfl rfl (qQ4 N.ok)) q) (λ _ Q q=>qaQ9 (qP9 (p:=Lr false a.C6 a.C5 n wr l g f) (d:=.l false (Ls n.toNat g)) rfl (qe9 rfl) ⟨false,n,wr,l,g,f,rfl,rfl⟩ rfl (qaE4 (x:=Lm n wr l) (y:=.l false (Lq S)) rfl rfl rfl ⟨n,wr,l,false,S,rfl,n1,W,nd,KP.h.1,by lia,λ ⟨q,c⟩=>absurd c (KP.no_crowd q),λ _ gh Kh=>qa0 (a:=[Lr false a.C6 a.C5 n wr l g f,Lm n wr l,.l false (Lq S),.l false f,.l false (Lq t),.int o,.l false f,.u,.u]) rfl (qa0 (a:=D.bl false) (qaV5 (KP.same Kh λ _=>Iff.rfl)) (qa0 (a:=false) rfl q))⟩))) q) q) (λ h=>nomatch h) λ _=>?_
 refine qb1 [Lr false a.C6 a.C5 n wr l g f,Lm n wr l,.l false (Lq S),.l false f,.l false (Lq t),.int o,.l false (f++[D.q [.str "put",.int 0]]),.u,.u] (λ K G=>qh5 (qD8 (ys:=f) (d:=.q [.str "put",.int 0]) rfl rfl (by unfold big;lia) G)) ?_;refine qb1 [Lr false a.C6 a.C5 n wr l g f,Lm n wr l,.l false (Lq S),.l false f,.l false (Lq t),.int o,.l false (f++[D.q [.str "put",.int 0]]),.l false (Ls n.toNat g),.u] (λ K G=>qd8 (qP9 (p:=Lr false a.C6 a.C5 n wr l g f) (d:=.l false (Ls n.toNat g)) rfl (qe9 rfl) ⟨false,n,wr,l,g,f,rfl,rfl⟩ rfl G)) ?_;refine qb1 [Lr false a.C6 a.C5 n wr l g f,Lm n wr l,.l false (Lq S),.l false f,.l false (Lq t),.int o,.l false (f++[D.q [.str "put",.int 0]]),.l false (Ls n.toNat g),.l false ((Lq S).map (Gf n.toNat g))] (λ K G=>qd8 (qa0 (a:=D.l false (Lq S)) rfl (qa0 (a:=Lq S) rfl ⟨qg8 S,?_⟩))) ?_
 . refine qh7 (λ ι=>∃ d,ι=[d,Lr false a.C6 a.C5 n wr l g f]) (λ x=>some (Gf n.toNat g x)) _ [] _ (by show 0+_ < 1000000;rw[qe8];lia) ⟨_,rfl⟩ ?_ ?_
   . rintro y J ι I ⟨d,rfl⟩ R L m
     obtain⟨k,U,rfl⟩:=zB0.mp J;exact qq2 (qX0 (Bn rfl (qG0 (p:=Lr false a.C6 a.C5 n wr l g f) (x:=.int k) (d:=Bd n.toNat g k) rfl (qe9 rfl) rfl rfl ⟨false,n,wr,l,g,f,k,rfl,hS k U,rfl⟩ rfl ⟨m,L [.int k,Lr false a.C6 a.C5 n wr l g f] ⟨_,rfl⟩⟩)))
   rintro ι ⟨d,rfl⟩;rw[zAz,qK9];exact G
 refine qh4 false (λ Q q=>qC1 false false (λ Q q=>qY7 (qP9 (p:=Lr false a.C6 a.C5 n wr l g f) (d:=.int (S.length:Nat)) rfl (qe9 rfl) ⟨false,n,wr,l,g,f,S,rfl,W,KP,rfl⟩ rfl (qa0 (a:=D.bl false) ?_ (qa0 (a:=false) rfl q)))) (λ _ Q q=>?_) q) (λ h=>nomatch h) λ _=>?_
 . rw[qt0 (z:=false) (ys:=Lq S) rfl,qe8]
   exact qQ4 rfl
 . refine⟨rfl,qa0 (a:=D.l false (Lq S)) rfl (qa0 (a:=Lq S) rfl ⟨qg8 S,?_⟩)⟩
   refine qh7 (λ ι=>∃ d,ι=[d,.l false (Ls n.toNat g)]) (λ x=>some (Gf n.toNat g x)) _ [] _ (by show 0+_ < 1000000;rw[qe8];lia) ⟨_,rfl⟩ ?_ ?_
   . rintro y J ι I ⟨d,rfl⟩ R L m
     obtain⟨k,U,rfl⟩:=zB0.mp J;obtain⟨i,V,e⟩:=(KP.h.2 k).mp U;exact qq2 (qX0 (Bn rfl (qn7 (d:=Bd n.toNat g k) (Ae rfl rfl (qaC2 V e)) ⟨m,L [.int k,.l false (Ls n.toNat g)] ⟨_,rfl⟩⟩)))
   rintro ι ⟨d,rfl⟩;rw[zAz,qK9];exact qa0 (a:=D.bl false) (show gNe (D.l false ((Lq S).map (Gf n.toNat g))) (D.l false ((Lq S).map (Gf n.toNat g)))=_ from qQ4 qaA1) (qa0 (a:=false) rfl q)
 refine qj6 (qaE8 (qA3 (qG0 (p:=Lr false a.C6 a.C5 n wr l g f) (x:=.int o) (d:=.non) rfl (qe9 rfl) rfl rfl ⟨false,n,wr,l,g,f,o,rfl,i0,(qF1 λ i V e=>o0 ((KP.h.2 o).mpr ⟨i,V,e⟩)).symm⟩ rfl (qa0 (a:=D.bl true) rfl (qa0 (a:=true) rfl (Bn rfl (Kl (qj0 (qa0 (a:=D.l false (f++[D.q [.str "put",.int 0]])) rfl (qa0 (a:=f++[D.q [.str "put",.int 0]]) rfl ⟨(N.app true 0).imms,?_⟩))))))))));refine qh7 (λ ι=>∃ d,ι=[d]) (λ _=>some (.bl true)) _ [] _ (by show 0+_ < 1000000;rw[zA7];show 0+(_+1) < 1000000;lia) ⟨_,rfl⟩ ?_ ?_
 . rintro y J ι I ⟨d,rfl⟩ R L m
   obtain⟨p,k,rfl⟩:=N.app true 0 y J;exact qq2 (qX0 (Bn rfl (qn7 (d:=.bl true) rfl ⟨m,L [.q [.str (wS p),.int k]] ⟨_,rfl⟩⟩)))
 rintro ι ⟨d,rfl⟩;rw[zAz,qK9];refine qc7 (qa0 (a:=D.bl true) ?_ q);rw[show fx1 gAll [D.l false ((f++[D.q [.str "put",.int 0]]).map λ _=>D.bl true)]=_ from qaE9 (λ _=>true) _,zB1.mpr λ _ _=>rfl]
theorem ql9:qa8 ["_law_script", "_law_bag_here", "_law_made", "_law_plan", "_law_keys", "_law_there", "_law_first", "_law_row", "_law_done", "_law_turn", "_law_way", "_law_key", "_law_good", "_law_word"] ["_law_script"] (qa3 G4):=by walk_at "s"
theorem qaV7(N:Nat)(g:Nat->Option Int):D.fzs (Ls N g)=Ls N g:=by
 unfold Ls
 induction List.range N with
 | nil=>rfl
 | cons a l b =>
   show (Ek (g a)).fz::D.fzs (l.map λ i=>Ek (g i))=_;have e:(Ek (g a)).fz=Ek (g a):=by cases g a<;>rfl
   rw[b,e];rfl
theorem sl_ks{z:Bool}{L:List Int}{m:Nat}:gSl (.l z (Lq L)) none (some ((m:Nat):Int))=some (.l false (Lq (L.take m))):=by
 show gd (D.imms (Et (Lq L) none (some ((m:Nat):Int)))=true) (.l false (Et (Lq L) none (some ((m:Nat):Int))))=_;rw[qG9,show (Lq L).take m=Lq (L.take m) from List.map_take.symm];exact ql4 (qg8 _)
def ltN(k:Int):Prop:=0<=k/\k < 999999999999999999
theorem ltN.num{k:Int}(h:ltN k):Al k:=⟨h.1,by have:=h.2;lia⟩
inductive Hs(n:Int)(wr:Bool)(ps:Pr)(ks S0:List Int):Ds->List Int->Prop
 | nil {S:List Int}:(∀ x,x∈S↔x∈S0)->Hs n wr ps ks S0 [] S
 | snoc {dn:Ds} {S' S:List Int} {k:Int} {p:Bool}:Hs n wr ps ks S0 dn S'->k∈ks->S'.Nodup->Fg n wr ps S' k p->(∀ q,¬ Crowd n.toNat wr (Ln n ps) S' q)->(∀ x,x∈S↔x∈Bs S' k p)->Hs n wr ps ks S0 (dn++[.q [.str (wS p),.int k]]) S
section
variable{n:Int}{wr:Bool}{ps:Pr}{ks S0 S T:List Int}{dn:Ds}{k x:Int}{p:Bool}
theorem Hs.congr(h:Hs n wr ps ks S0 dn S)(e:∀ x,x∈T↔x∈S):Hs n wr ps ks S0 dn T:=by
 cases h with
 | nil m=>exact .nil λ x=>(e x).trans (m x)
 | snoc a b c d f m=>exact .snoc a b c d f λ x=>(e x).trans (m x)
theorem Hs.ok(h:Hs n wr ps ks S0 dn S):okDn dn:=by
 induction h with
 | nil m=>exact nofun
 | snoc a b c d f m e=>exact e.app _ _
theorem Hs.back(h:Hs n wr ps ks S0 dn S)(f:S.Nodup):dn=[]/\(∀ x,x∈S↔x∈S0)∨∃ dn0 k p,dn=dn0++[.q [.str (wS p),.int k]]/\k∈ks/\Fg n wr ps S k !p/\Hs n wr ps ks S0 dn0 (Bs S k !p):=by
 cases h with
 | nil m=>exact .inl ⟨rfl,m⟩
 | snoc a i b gd j m =>
   rename_i dn0 S' k p
   refine .inr ⟨dn0,k,p,rfl,i,?_⟩;cases p with
   | true =>
     have gd:¬ k∈S'/\_:=gd;have m:∀ x,x∈S↔x∈S'++[k]:=m;refine⟨(m k).mpr (zAq _ (zA8.mpr rfl)),a.congr λ x=>?_⟩;show x∈S.erase k↔_;rw[f.mem_erase_iff,m x,zAb,zA8];exact⟨λ h=>h.2.resolve_right h.1,λ h=>⟨λ e=>gd.1 (e ▸ h),.inl h⟩⟩
   | false =>
     have gd:k∈S':=gd;have m:∀ x,x∈S↔x∈S'.erase k:=m;have e:∀ x,x∈S++[k]↔x∈S':=λ x=>by
       rw[zAb,zA8,m x,b.mem_erase_iff];exact⟨λ h=>h.elim (λ h=>h.2) λ h=>h ▸ gd,λ h=>by by_cases z:x=k;exact .inr z;exact .inl ⟨z,h⟩⟩
     have g:¬ k∈S:=λ h=>by rw[m k,b.mem_erase_iff] at h;exact h.1 rfl
     have d:(S++[k]).Nodup:=zBd.mpr ⟨f,(by simp),λ x l y o e=>g (by rw[<- zA8.mp o,<- e];exact l)⟩;exact⟨⟨g,λ q c=>j q (c.perm ((List.perm_ext_iff_of_nodup d b).mpr e))⟩,a.congr e⟩
theorem qf9(a:∀ x∈S,x∈ks)(c:k∈ks):∀ x∈Bs S k p,x∈ks:=λ x b=>by
 cases p with
 | true =>
   rcases zAb.mp b with h | h
   . exact a x h
   rw[zA8.mp h];exact c
 | false=>exact a x (List.mem_of_mem_erase b)
theorem qan9:∀{S ks:List Int},S.Nodup->(∀ x∈S,x∈ks)->S.length<=ks.length
 | [],_,_,_=>zBe _
 | a::S,ks,b,h=>by
   have b:=zBq.mp b;have f:=qan9 (ks:=ks.erase a) b.2 λ x c=>(List.mem_erase_of_ne λ(e:x=a)=>b.1 (e ▸ c)).mpr (h x (zA4 _ c))
   have d:=h a zAa;rw[List.length_erase_of_mem d] at f
   have:=List.length_pos_of_mem d
   show S.length+1<=_;lia
end
theorem qaM7(h:qc ds (λ b a=>if b=true then t e a else u e a) e.xe):sIf qc t u e ds:=h
theorem or_to{t u:VTT}{Q:Bool->Ds->Prop}(h:t ds (λ k ds1=>if k=true then Q true ds1 else u ds1 Q xe) xe):ttOr t u ds Q xe:=h
theorem qaO8{t u:VTT}{Q:Bool->Ds->Prop}(h:t ds (λ k ds1=>if k=true then u ds1 Q xe else Q false ds1) xe):Jt t u ds Q xe:=h
theorem qat8{t:VT}{Q:Bool->Ds->Prop}(h:t ds (λ d a=>orF d.asB λ b=>Q (!b) a) xe):F9 (ttE t) ds Q xe:=h
theorem qaC7{g:VTG}(h:te ds (λ x ds1=>orF (one1 [x]) λ j=>G0 j=true/\Eh g t e (Ei 0 j.toNat) ds1) e.xe):Kc (Iq (tbV te Ax)) g t e ds:=h
theorem qaQ5{lo hi:FO}(h:ta ds (λ x ds1=>orF ((lo ds1).bind λ l=>(hi ds1).bind λ h=>if noT x=true then gSl x l h else none) λ d=>Q d ds1) xe):tSlE ta lo hi ds Q xe:=h
theorem qaT6(T:Txt K mg a):B6 P w K mg base (CX1 P w) 12 a.f48 a.d48 ["_law_script"] (Hm K):=by
 refine T.d48.F.okX ql9 (λ vs H Q E h=>?_) (λ a2 A outer s H vs Q E hr h=>?_)
 . obtain⟨l,ns,rfl,_⟩:=h
   rfl
 obtain⟨l,ns,rfl,O,hl,k⟩:=h;refine⟨_,qO9 (sset 1 ql9.nd (Hk T.d36 (qaK2 T) (rm hr) (qc4 (pv 0) qk2))) (show VSs ⟨λ _=>E,λ _=>false,List.replicate 14 none,[]⟩ (Eu true (CX1 P w) P w K mg base ["_law_script", "_law_bag_here", "_law_made", "_law_plan", "_law_keys", "_law_there", "_law_first", "_law_row", "_law_done", "_law_turn", "_law_way", "_law_key", "_law_good", "_law_word"] "law" (qa3 G4) a.f48 a2 A outer s H E) _ _ from(Ab (Aj 2 ql9.nd (Ah T.d37 (qb9 T) qa1 (rm hr) (vaN 1 (vaV (qa4 Af) Ad))))
     (Ab (Fs (Ah T.d42 (qan4 T) qa1 (rm hr) (vaN 1 (vaV (qa4 Af) Ad))) (Hv (n:=2) rfl (qK8 (Bf 3 ql9.nd) (qK8 (Bf 4 ql9.nd) Hu))))
     (Ab (Aj 4 ql9.nd (esl (e2 (Ak qf4) qf3 (qa4 (Bk (qa2 Af qa6 rfl))) (ecN (NY:=["_law_key"]) (src:=[none]) 4 (blk (λ av C s0 H0 ex=>(Bf 0 (show (["_law_key"]:List Str).Nodup by decide +kernel))) (λ av C s0 H0 ex=>(G1 (q2 (An (qn4 hr.u64) (qb0 _)) Ef (vnm 0) Af))) (λ av C s0 H0 ex=>(qb5 (vnm 0)))))) Jw (Jx Af)))
     (Ab (Aj 5 ql9.nd (Ah T.d43 (qZ8 T) qa1 (rm hr) (vaN 3 (vaV (eslN 4 (e2v (Ak qy2) qy1 (Ah T.d37 (qb9 T) qa1 (rm hr) (vaN 1 (vaV (qa4 (v2 (Ak qf4) qf3 (vbi qt5 qt4.ops T.Cs (qa2 (vnm 4) qa6 rfl)) Af)) Ad))) (vnm 2))) Ad))))
     (Ab (Aj 6 ql9.nd (efzV (Ah T.d40 (qp5 T) qa1 (rm hr) (vaN 3 (vaN 5 Ad)))))
     (Ab (Aj 7 ql9.nd (qaW5 T.C8 T.Dt T.d27 (qZ5 T) qa1 (rm hr) (vaV (efzV (emake T.C7 T.Dn T.d10 (qP5 T) qa1 (rm hr) (vaV (qb5 (v2 (Av qb6) Am (vnm 3) Af)) (vaV (qb5 (v2 (Av qb6) Am (vnm 3) Af)) (vaV (qa4 (Gi qh0 qL3.ops T.Ct (qa2 (v2 (Av qb6) Am (vnm 3) Af) qa6 rfl))) Ad))))) (vaV (qb5 (v2 (Av qb6) Am (Bk (qa2 A8 (qa2 (vnm 6) qa6 rfl) rfl)) (vnm 2))) Ad))))
     (Ab (Aj 8 ql9.nd (qa4 (Bk qa6)))
     (Ab (qY4 PassesOwn.leaving T.Cu (Fm (vaV (Ah T.d37 (qb9 T) qa1 (rm hr) (vaN 1 (vaV (qa4 Af) Ad))) Ad)) (Bf 9 ql9.nd)
     (Ab (Aj 10 ql9.nd (Ah T.d37 (qb9 T) qa1 (rm hr) (vaN 1 (vaV (qa4 Af) Ad))))
     (Ab (Aj 11 ql9.nd (e2nP 4 (Av qb6) Am (Ah T.d37 (qb9 T) qa1 (rm hr) (vaN 1 (vaV (qa4 (vbi qt5 qt4.ops T.Cs (qa2 (vnm 4) qa6 rfl))) Ad)))))
     (Ab (sif (q2 (An Hf (qb0 _)) Ho (vnm 10) (v2 (Ak qf4) qf3 Af (v2 (Ak qF5) qan2 (vnm 9) Af)))
     (Ag (Aj 12 ql9.nd (Ah T.d46 (qJ5 T) qa1 (rm hr) (vaN 7 (vaN 5 (vaN 8 Ad))))))
     (Ab (Aj 13 ql9.nd (qa4 (v2 (Av qb6) Am (Bk (qa2 Ec (qa2 Ec qa6 rfl) rfl)) (Gi qW4 qaO0.ops T.Db (qa2 (v2 (Aw B7 (qb0 _)) B9 (vnm 10) Af) qa6 rfl)))))
     (Ag (Aj 12 ql9.nd (Ah T.d45 (qZ6 T) qa1 (rm hr) (vaN 7 (vaN 3 (vaN 5 (vaN 8 (vaN 13 (vaN 11 Ad)))))))))))
     (Ag (sif (tor (Bp (tv (vnm 12))) (Im (Ju (q2v (Aw (ql1 hr.u64) (qb0 _)) (An (ql1 hr.u64) (qb0 _)) Bl (Ah T.d37 (qb9 T) qa1 (rm hr) (vaN 1 (vaV (qa4 Af) Ad))) Af) (Gv (Bp (te (Ah T.d47 (qS8 T) qa1 (rm hr) (vaN 7 (vaN 3 (vaN 5 (vaN 8 (vaN 4 Ad)))))))))).te)).te
     (Ag (Ap (qa4 vbl)))
     Au))))))
     (Ab (qab8 PassesOwn.leaving (q2 (An (qn4 hr.u64) (qb0 _)) Ef (vnm 8) (Bk qa6))
     (Ag (sif (Bp (te (Ah T.d46 (qJ5 T) qa1 (rm hr) (vaN 7 (vaN 5 (vaN 8 Ad))))))
     (Ag (Ap (qa4 vbl)))
     Au)))
     (Ag (Ap (Fk (e2v (Aw Ey (qb0 _)) Ex (qq6 7 T.d34 T.C8.cl (qC9 T) qa1 (rm hr)) vbl) (Fk (Ah T.d47 (qS8 T) qa1 (rm hr) (vaN 7 (vaN 3 (vaN 5 (vaV (qa4 (Bk qa6)) (vaN 4 Ad)))))) (Gw (e2v (Aw (ql1 hr.u64) (qb0 _)) Bl (qq6 7 T.d28 T.C8.cl (qf5 T) qa1 (rm hr)) (vnm 6))))))))))))))))).h,?_⟩
 refine⟨_,rfl,l,ns,rfl,O,hl,λ p L H' hp hL kp B=>?_⟩;obtain⟨x,y,z,Y,B⟩:=B;refine qao0 (rest:=[]) (X:=Eu true (CX1 P w) P w K mg base [] "law" (qa3 G4) a.f48 a2 A outer s H E) (n:=12) (x:=x) (y:=y) (z:=z) (ns:=Y) rfl (λ _=>rfl) rfl B.at_ B.li B.ne (λ H'=>k H') ?_;have B0:L7 Y (bagD x y z Y):=⟨x,y,z,rfl,B.x0,B.y0,B.y1,B.z0,B.nn⟩
 generalize bagD x y z Y=b at B0;generalize V.ref l=u;refine At [D.hole u,b,.u,.u,.u,.u,.u,.u,.u,.u,.u,.u,.u,.u] rfl ?_;refine qc1 (λ I=>∃ b J,I=[D.hole u,b,.int J,.u,.u,.u,.u,.u,.u,.u,.u,.u,.u,.u]/\L7 Y b/\0<=J/\J < 2) (λ K U=>qd8 (qc8 rfl B0 rfl (by decide) (by decide) λ v b' v0 v1 B'=>U _ ⟨b',v,rfl,B',v0,v1⟩)) ?_;rintro I ⟨b,J,rfl,B,t0,t1⟩;refine qc1 (λ I=>∃ b n wr f o,I=[D.hole u,b,.int J,Lm n wr f,.l false (Lq o),.u,.u,.u,.u,.u,.u,.u,.u,.u]/\L7 Y b/\1<=n/\n<=64/\Jm f/\o.Nodup/\(∀ k∈o,ltN k)/\o.length<=66) (λ K U=>?_) ?_
 . refine qaw0 (qi9 (qc0 (x:=b) (qh1 rfl B.known) (qf8 (y:=.int 64) rfl (qc7 (qa0 (a:=b) (qh1 rfl B.known) ?_)))))
   exact⟨b,64,Y,rfl,B,by decide,by decide,λ b' n wr f o B' n1 n2 G nd hk a1=>qa0 (a:=[D.hole u,b',.int J,.u,.u,.u,.u,.u,.u,.u,.u,.u,.u,.u]) rfl (qG4 (U _ ⟨b',n,wr,f,o,rfl,B',n1,n2,G,nd,hk,a1⟩))⟩
 rintro I ⟨b,n,wr,f,o,rfl,B,n1,n2,G,nd,hk,a1⟩;refine qc1 (λ I=>∃ o,I=[D.hole u,b,.int J,Lm n wr f,.l false (Lq o),.u,.u,.u,.u,.u,.u,.u,.u,.u]/\o.Nodup/\(∀ k∈o,ltN k)/\o.length<=40/\0 < o.length) (λ K U=>qd8 (qaQ5 (qH6 (x:=.l false (Lq [3])) rfl (qa0 (a:=D.l false (Lq o)) rfl (qa0 (a:=Lq o) rfl ⟨qg8 o,?_⟩))))) ?_
 . refine qh7 (λ ι=>∃ d,ι=[d]) (Fd λ x=>!(x == 3)) _ [] _ (by show 0+_ < 1000000;rw[qe8];lia) ⟨_,rfl⟩ ?_ ?_
   . rintro y hy ι a5 ⟨d,rfl⟩ R hR a3
     obtain⟨k,_,rfl⟩:=zB0.mp hy;have this:=hR [.int k] ⟨_,rfl⟩;refine qq2 (qg1 (b:=!(k == 3)) rfl (ite_b (λ h=>?_) λ h=>?_))
     . rw[qT9 (by exact h)] at this
       exact qz5 (d:=.int k) rfl rfl ⟨a3,this⟩
     rw[qU0 (by exact h)] at this;have this:R (a5++[]) _:=this;rw[zAe] at this;exact this
   rintro ι ⟨d,rfl⟩;rw[qz3,zAz];generalize ef:(o.filter λ x=>!(x == 3))=F;have sF:F.Sublist o:=ef ▸ List.filter_sublist;have lF:=sF.length_le;have n3:¬ 3∈F:=λ h=>by rw[<- ef,zAy] at h;exact absurd h.2 (by decide)
   refine qa0 (a:=D.l false (Lq ([3]++F))) (Kk (by show 1+_<=1000;lia)) ?_;have es:gSl (.l false (Lq ([3]++F))) none (some 40)=some (.l false (Lq (([3]++F).take 40))):=sl_ks (m:=40);refine qa0 es (U _ ⟨_,rfl,?_,λ x hx=>?_,by rw[zBg];lia,by rw[zBg,zA7];show 0 < min 40 (1+F.length);lia⟩)
   . exact(zBq.mpr ⟨n3,nd.sublist sF⟩).sublist (zBm _ _)
   rcases zAm.mp (List.mem_of_mem_take hx) with rfl | h
   . exact⟨by decide,by decide⟩
   exact hk x (sF.subset h)
 rintro I ⟨o,rfl,a4,hk,a1,a8⟩;refine qc1 (λ I=>∃ b S,I=[D.hole u,b,.int J,Lm n wr f,.l false (Lq o),.l false (Lq S),.u,.u,.u,.u,.u,.u,.u,.u]/\L7 Y b/\S.Sublist o/\(J=0->S=[])/\∀ q,¬ Crowd n.toNat wr (Ln n f) S q) (λ K U=>qd8 (qi9 (qc0 (x:=Lm n wr f) rfl (qj0 ⟨rfl,qA3 ?_⟩)))) ?_
 . refine qc8 (m:=(o.length:Int)+1) rfl B (Ae (x:=.int (o.length:Nat)) (y:=.int 1) (by rw[qt0 (z:=false) (ys:=Lq o) rfl,qe8]) rfl rfl) (by lia) (by lia) λ v b' v0 v1 B'=>?_
   have a9:0<=v * J:=Int.mul_nonneg v0 t0;obtain⟨m,em⟩:∃ m:Nat,v * J=(m:Int):=⟨(v * J).toNat,by lia⟩
   refine qa0 (a:=D.int (v * J)) (Iw (qN8 (by lia) (by lia))) (qa0 (a:=v * J) rfl (qa0 (a:=D.l false (Lq (o.take m))) (by rw[em];exact sl_ks (z:=false)) (qc7 (qa0 (a:=Lm n wr f) rfl ?_))));refine⟨n,wr,f,false,o.take m,rfl,n1,n2,G.nd,a4.sublist (zBm _ _),by rw[zBg];lia,λ S h nc=>qa0 (a:=[D.hole u,b',.int J,Lm n wr f,.l false (Lq o),.u,.u,.u,.u,.u,.u,.u,.u,.u]) rfl (U _ ⟨b',S,rfl,B',h.trans (zBm _ _),λ e=>?_,nc⟩)⟩;subst e;rw[Int.mul_zero] at em;obtain rfl:m=0:=by lia
   exact List.eq_nil_of_sublist_nil h
 rintro I ⟨b,S,rfl,B,sub,a6,nc⟩;have O:∀ x∈S,x∈o:=λ x hx=>sub.subset hx
 have a7:=a4.sublist sub;have b0:=sub.length_le;refine qc1 (λ I=>∃ N,I=[D.hole u,b,.int J,Lm n wr f,.l false (Lq o),.l false (Lq S),.l true (Ls n.toNat N),.u,.u,.u,.u,.u,.u,.u]/\Kept n.toNat wr (Ln n f) N S) (λ K U=>qd8 (fz_to (qaE4 (x:=Lm n wr f) (y:=.l false (Lq S)) rfl rfl rfl ⟨n,wr,f,false,S,rfl,n1,n2,G.nd,a7,by lia,λ ⟨q,c⟩=>absurd c (nc q),λ _ N K0=>qa0 (a:=[D.hole u,b,.int J,Lm n wr f,.l false (Lq o),.l false (Lq S),.u,.u,.u,.u,.u,.u,.u,.u]) rfl ?_⟩))) ?_
 . rw[show (D.l false (Ls n.toNat N)).fz=.l true (Ls n.toNat N) from congrArg (D.l true) (qaV7 _ _)]
   exact U _ ⟨N,rfl,K0⟩
 rintro I ⟨N,rfl,K0⟩;refine qc1 (λ I=>∃ g,I=[D.hole u,b,.int J,Lm n wr f,.l false (Lq o),.l false (Lq S),.l true (Ls n.toNat N),Lr false a.C6 a.C5 n wr f g [],.u,.u,.u,.u,.u,.u]/\Kept n.toNat wr (Ln n f) g S) (λ K U=>qd8 (qau3 (qj0 (fz_to (qau3 (qd9 (y:=.int n) rfl rfl (qd9 (y:=.bl wr) rfl rfl (qf8 (y:=.l false (Lu f)) (qau5 (z:=true)) (qc7 ?_))))))))) ?_
 . refine⟨n,wr,false,f,rfl,n1,n2,G,rfl,?_⟩
   refine qa0 (a:=Ac false a.C5 n wr f) rfl (qa0 (a:=[D.hole u,b,.int J,Lm n wr f,.l false (Lq o),.l false (Lq S),.l true (Ls n.toNat N),.u,.u,.u,.u,.u,.u,.u]) rfl ?_);rcases (show J=0∨J=1 by lia) with rfl | rfl
   . obtain rfl:=a6 rfl
     refine qd9 (y:=.non) rfl rfl (qc7 ?_);rw[qav2];refine⟨n,wr,f,.non,λ _=>none,[],rfl,n1,n2,nofun,Kept.none (by lia) (Ev n1),.inl ⟨rfl,rfl⟩,rfl,?_⟩;exact qa0 (a:=Lr false a.C6 a.C5 n wr f (λ _=>none) []) rfl (qa0 (a:=[D.hole u,b,.int 0,Lm n wr f,.l false (Lq o),.l false (Lq []),.l true (Ls n.toNat N),.u,.u,.u,.u,.u,.u,.u]) rfl (U _ ⟨_,rfl,Kept.none (by lia) (Ev n1)⟩))
   refine qd9 (y:=.l true (Ls n.toNat N)) rfl rfl (qc7 ?_);rw[qav2];refine⟨n,wr,f,_,N,S,rfl,n1,n2,λ x hx=>(hk x (O x hx)).num,K0,.inr ⟨true,rfl⟩,rfl,?_⟩;exact qa0 (a:=Lr false a.C6 a.C5 n wr f N []) rfl (qa0 (a:=[D.hole u,b,.int 1,Lm n wr f,.l false (Lq o),.l false (Lq S),.l true (Ls n.toNat N),.u,.u,.u,.u,.u,.u,.u]) rfl (U _ ⟨_,rfl,K0⟩))
 rintro I ⟨g,rfl,KP⟩;have h0:Hs n wr f o S [] S:=.nil λ _=>Iff.rfl
 obtain⟨S0,eS⟩:∃ S0,S=S0:=⟨S,rfl⟩
 have K0:Kept n.toNat wr (Ln n f) N S0:=eS ▸ K0;have h0:Hs n wr f o S0 [] S:=.nil λ _=>by rw[eS]
 refine qb1 [D.hole u,b,.int J,Lm n wr f,.l false (Lq o),.l false (Lq S),.l true (Ls n.toNat N),Lr false a.C6 a.C5 n wr f g [],.l false [],.u,.u,.u,.u,.u] (λ K U=>U) ?_;refine qc1 (λ I=>∃ b g r S d9 Z W M t,I=[D.hole u,b,.int J,Lm n wr f,.l false (Lq o),.l false (Lq S),.l true (Ls n.toNat N),Lr false a.C6 a.C5 n wr f g r,.l false r,d9,Z,W,M,t]/\L7 Y b/\(∀ x∈S,x∈o)/\Kept n.toNat wr (Ln n f) g S/\Hs n wr f o S0 r S/\r.length<=50) (λ K U=>?_) ?_
 . refine qaC7 (qc8 rfl B rfl (by decide) (by decide) λ tn b' v0 v1 B'=>qa0 (a:=tn) rfl ⟨Iv (by lia) (by lia),?_⟩)
   refine qg9 (λ i I=>∃ b g r S d9 Z W M t,I=[D.hole u,b,.int J,Lm n wr f,.l false (Lq o),.l false (Lq S),.l true (Ls n.toNat N),Lr false a.C6 a.C5 n wr f g r,.l false r,d9,Z,W,M,t]/\L7 Y b/\(∀ x∈S,x∈o)/\Kept n.toNat wr (Ln n f) g S/\Hs n wr f o S0 r S/\r.length<=i) _ 0 _ ⟨b',g,[],S,_,_,_,_,_,rfl,B',O,KP,h0,zA6 _⟩ ?_ ?_
   . rintro i y hy I ⟨b,g,r,S,d9,Z,W,M,t,rfl,B,O,KP,hs,hd⟩ K2 a0
     obtain⟨hi,rfl⟩:=qY6 hy;rw[zAs] at hd a0;refine qq2 (At [D.hole u,b,.int J,Lm n wr f,.l false (Lq o),.l false (Lq S),.l true (Ls n.toNat N),Lr false a.C6 a.C5 n wr f g r,.l false r,.int (i:Nat),Z,W,M,t] rfl ?_);refine qc1 (λ I=>∃ b v,I=[D.hole u,b,.int J,Lm n wr f,.l false (Lq o),.l false (Lq S),.l true (Ls n.toNat N),Lr false a.C6 a.C5 n wr f g r,.l false r,.int (i:Nat),.int v,W,M,t]/\L7 Y b/\0<=v/\v < 8) (λ K U=>qd8 (qc8 rfl B rfl (by decide) (by decide) λ v b' v0 v1 B'=>U _ ⟨b',v,rfl,B',v0,v1⟩)) ?_;rintro I ⟨b,v,rfl,B,v0,v1⟩;refine qc1 (λ I=>∃ b k,I=[D.hole u,b,.int J,Lm n wr f,.l false (Lq o),.l false (Lq S),.l true (Ls n.toNat N),Lr false a.C6 a.C5 n wr f g r,.l false r,.int (i:Nat),.int v,.int k,M,t]/\L7 Y b/\k∈o) (λ K U=>qd8 ⟨rfl,?_⟩) ?_
     . refine qc8 (m:=(o.length:Nat)) rfl B (by rw[qt0 (z:=false) (ys:=Lq o) rfl,qe8]) (by lia) (by lia) λ j b' j0 j1 B'=>?_
       obtain⟨k,hj⟩:∃ k,o[j.toNat]? = some k:=⟨o[j.toNat]'(by lia),zBl (by lia)⟩
       refine qa0 (a:=D.int k) ?_ ⟨rfl,U _ ⟨b',k,rfl,B',zBa hj⟩⟩;show gIx (.l false (Lq o)) (.int j)=_;rw[show j=((j.toNat:Nat):Int) by lia];exact qL7 (by unfold Lq;rw[zB6,hj];rfl)
     rintro I ⟨b,k,rfl,B,ik⟩;refine qc1 (λ I=>∃ g r S t,I=[D.hole u,b,.int J,Lm n wr f,.l false (Lq o),.l false (Lq S),.l true (Ls n.toNat N),Lr false a.C6 a.C5 n wr f g r,.l false r,.int (i:Nat),.int v,.int k,.bl true,t]/\(∀ x∈S,x∈o)/\Kept n.toNat wr (Ln n f) g S/\Hs n wr f o S0 r S/\r.length<=i+1) (λ K U=>if_v (b:=decide (v < 2+(i:Int) / 16)) (Ae (x:=.int v) (y:=.int (2+(i:Int) / 16)) rfl (Ae (x:=.int 2) (y:=.int ((i:Int) / 16)) rfl (Ae (x:=.int (i:Nat)) (y:=.int 16) rfl rfl (qap9 (by decide) (by decide))) rfl) rfl) (λ _=>?_) λ _=>?_) ?_
     . refine qd8 (Ki (x:=Lr false a.C6 a.C5 n wr f g r) (y:=.l false (Lq S)) (w:=.l false r) rfl rfl rfl rfl rfl ⟨n,wr,f,g,r,S,rfl,n1,n2,λ x hx=>(hk x (O x hx)).num,KP,?_⟩)
       rcases hs.back KP.h.1 with⟨rfl,_⟩ | ⟨dn0,k2,p,rfl,hk2,gd,hs'⟩
       . exact .inl ⟨rfl,qa0 (a:=[D.hole u,b,.int J,Lm n wr f,.l false (Lq o),.l false (Lq S),.l true (Ls n.toNat N),Lr false a.C6 a.C5 n wr f g [],.l false [],.int (i:Nat),.int v,.int k,M,t]) rfl (U _ ⟨g,[],S,_,rfl,O,KP,hs,by lia⟩)⟩
       exact .inr ⟨dn0,k2,p,rfl,(hk _ hk2).num,gd,λ g' K'=>qa0 (a:=[D.hole u,b,.int J,Lm n wr f,.l false (Lq o),.l false (Lq (Bs S k2 !p)),.l true (Ls n.toNat N),Lr false a.C6 a.C5 n wr f g' dn0,.l false dn0,.int (i:Nat),.int v,.int k,M,t]) rfl (U _ ⟨g',dn0,_,_,rfl,qf9 O hk2,K',hs',by rw[zA7] at hd;lia⟩)⟩
     . refine qb1 [D.hole u,b,.int J,Lm n wr f,.l false (Lq o),.l false (Lq S),.l true (Ls n.toNat N),Lr false a.C6 a.C5 n wr f g r,.l false r,.int (i:Nat),.int v,.int k,M,.str (wS (!decide (5 < v)))] (λ K U=>qw3 (d:=.str (wS (!decide (5 < v)))) ?_ U) ?_
       . refine Ae (x:=.l false [.str "put",.str "take"]) (y:=.int (if decide (5 < v)=true then 1 else 0)) rfl rfl ?_
         cases decide (5 < v)<;>rfl
       generalize (!decide (5 < v))=p;refine qd8 (qi9 (qc0 (x:=Lr false a.C6 a.C5 n wr f g r) rfl (qc0 (x:=Lm n wr f) rfl (qc0 (x:=.l false (Lq S)) rfl (qc0 (x:=.l false r) rfl (qc0 (x:=.str (wS p)) rfl (qc0 (x:=.int k) rfl (qc7 (qa0 (a:=D.int k) rfl (qa0 (a:=D.str (wS p)) rfl (qa0 (a:=D.l false r) rfl (qa0 (a:=D.l false (Lq S)) rfl (qa0 (a:=Lm n wr f) rfl (qa0 (a:=Lr false a.C6 a.C5 n wr f g r) rfl ?_))))))))))))));refine⟨n,wr,f,g,r,S,k,p,rfl,(hk _ ik).num,n1,n2,G.nd,λ x hx=>(hk x (O x hx)).num,KP,by lia,by have:=qan9 KP.h.1 O;lia,qa0 (a:=[D.hole u,b,.int J,Lm n wr f,.l false (Lq o),.l false (Lq S),.l true (Ls n.toNat N),Lr false a.C6 a.C5 n wr f g r,.l false r,.int (i:Nat),.int v,.int k,M,.str (wS p)]) rfl (U _ ⟨g,r,S,_,rfl,O,KP,hs,by lia⟩),λ gd g' K'=>qa0 (a:=[D.hole u,b,.int J,Lm n wr f,.l false (Lq o),.l false (Lq (Bs S k p)),.l true (Ls n.toNat N),Lr false a.C6 a.C5 n wr f g' (r++[D.q [.str (wS p),.int k]]),.l false (r++[D.q [.str (wS p),.int k]]),.int (i:Nat),.int v,.int k,M,.str (wS p)]) rfl (U _ ⟨g',_,_,_,rfl,qf9 O ik,K',.snoc hs ik KP.h.1 gd KP.no_crowd λ _=>Iff.rfl,by rw[zA7];show _+1<=_;lia⟩)⟩
     rintro I ⟨g,r,S,t,rfl,O,KP,hs,hd⟩;refine qaM7 (or_to (qh2 (b:=true) rfl (Es (by decide) (qaO8 (qY7 (qc8 rfl B rfl (by decide) (by decide) λ x b' x0 x1 B'=>qa0 (a:=D.bl (x == 0)) rfl (qa0 (a:=(x == 0)) rfl (ite_b (λ _=>?_) λ _=>Es (by decide) (a0 _ ⟨b',g,r,S,_,_,_,_,_,rfl,B',O,KP,hs,hd⟩)))))))));refine qat8 (qi9 (qc0 (x:=Lr false a.C6 a.C5 n wr f g r) rfl (qc0 (x:=Lm n wr f) rfl (qc0 (x:=.l false (Lq S)) rfl (qc0 (x:=.l false r) rfl (qc0 (x:=.l false (Lq o)) rfl (qc7 (qa0 (a:=D.l false (Lq o)) rfl (qa0 (a:=D.l false r) rfl (qa0 (a:=D.l false (Lq S)) rfl (qa0 (a:=Lm n wr f) rfl (qa0 (a:=Lr false a.C6 a.C5 n wr f g r) rfl ?_))))))))))));have b1:i < 41:=by lia
     exact⟨_,⟨n,wr,f,g,r,S,o,rfl,n1,n2,G.nd,λ x hx=>(hk x (O x hx)).num,KP,hs.ok,by lia,λ x hx=>(hk x hx).num,by lia,λ z=>absurd (hk _ (O _ z)).2 (by decide),by have:=qan9 KP.h.1 O;lia,rfl⟩,qa0 (a:=[D.hole u,b',.int J,Lm n wr f,.l false (Lq o),.l false (Lq S),.l true (Ls n.toNat N),Lr false a.C6 a.C5 n wr f g r,.l false r,.int (i:Nat),.int v,.int k,.bl true,t]) rfl (qa0 (a:=true) rfl (Es (by decide) (a0 _ ⟨b',g,r,S,_,_,_,_,_,rfl,B',O,KP,hs,hd⟩)))⟩
   rintro I ⟨b,g,r,S,d9,Z,W,M,t,rfl,B,O,KP,hs,hd⟩;rw[zAs,qT7] at hd;exact U _ ⟨b,g,r,S,_,_,_,_,_,rfl,B,O,KP,hs,by lia⟩
 rintro I ⟨b,g,r,S,d9,Z,W,M,t,rfl,B,O,KP,hs,hd⟩;refine qc1 (λ I=>∃ g S,I=[D.hole u,b,.int J,Lm n wr f,.l false (Lq o),.l false (Lq S),.l true (Ls n.toNat N),Lr false a.C6 a.C5 n wr f g [],.l false [],d9,Z,W,M,t]/\(∀ x∈S,x∈o)/\Kept n.toNat wr (Ln n f) g S/\∀ x,x∈S↔x∈S0) (λ K U=>?_) ?_
 . refine qM3 (λ m I=>∃ g r S,I=[D.hole u,b,.int J,Lm n wr f,.l false (Lq o),.l false (Lq S),.l true (Ls n.toNat N),Lr false a.C6 a.C5 n wr f g r,.l false r,d9,Z,W,M,t]/\(∀ x∈S,x∈o)/\Kept n.toNat wr (Ln n f) g S/\Hs n wr f o S0 r S/\r.length=m) r.length ⟨g,r,S,rfl,O,KP,hs,rfl⟩ ?_
   rintro m I ⟨g,r,S,rfl,O,KP,hs,hm⟩ K2 a0;rcases hs.back KP.h.1 with⟨rfl,e⟩ | ⟨dn0,k2,p,rfl,hk2,gd,hs'⟩
   . exact qg1 (b:=false) rfl (Es (by decide) (U _ ⟨g,S,rfl,O,KP,e⟩))
   refine qg1 (b:=true) (Ae (x:=.l false (dn0++[D.q [.str (wS p),.int k2]])) (y:=.l false []) rfl rfl qaA8) (Bn rfl ?_);refine qaM7 (qat8 (Ki (x:=Lr false a.C6 a.C5 n wr f g (dn0++[D.q [.str (wS p),.int k2]])) (y:=.l false (Lq S)) (w:=.l false (dn0++[D.q [.str (wS p),.int k2]])) rfl rfl rfl rfl rfl ⟨n,wr,f,g,_,S,rfl,n1,n2,λ x hx=>(hk x (O x hx)).num,KP,.inr ⟨dn0,k2,p,rfl,(hk _ hk2).num,gd,λ g' K'=>qa0 (a:=[D.hole u,b,.int J,Lm n wr f,.l false (Lq o),.l false (Lq (Bs S k2 !p)),.l true (Ls n.toNat N),Lr false a.C6 a.C5 n wr f g' dn0,.l false dn0,d9,Z,W,M,t]) rfl (qa0 (a:=true) rfl (Es (by decide) (a0 dn0.length _ ?_ ⟨g',dn0,_,rfl,qf9 O hk2,K',hs',rfl⟩)))⟩⟩));rw[zA7] at hm;show _ < m;rw[<- hm];exact zC3 _
 rintro I ⟨g,S,rfl,O,KP,e⟩;refine qj6 (qaE8 (qA3 (qy8 (p:=Lr false a.C6 a.C5 n wr f g []) rfl (qe9 rfl) (qc7 (qa0 (a:=Lr false a.C6 a.C5 n wr f g []) rfl ⟨n,wr,f,g,[],S,rfl,n1,n2,λ x hx=>(hk x (O x hx)).num,KP,.inl ⟨rfl,qa0 (a:=[D.hole u,b,.int J,Lm n wr f,.l false (Lq o),.l false (Lq S),.l true (Ls n.toNat N),Lr false a.C6 a.C5 n wr f g [],.l false [],d9,Z,W,M,t]) rfl (qa0 (a:=D.bl true) rfl (qa0 (a:=true) rfl (Bn rfl (qaE8 ?_))))⟩⟩)))));refine qi9 (qc0 (x:=Lr false a.C6 a.C5 n wr f g []) rfl (qc0 (x:=Lm n wr f) rfl (qc0 (x:=.l false (Lq S)) rfl (qf8 (y:=.l false []) rfl (qc0 (x:=.l false (Lq o)) rfl (qc7 (qa0 (a:=D.l false (Lq o)) rfl (qa0 (a:=D.l false (Lq S)) rfl (qa0 (a:=Lm n wr f) rfl (qa0 (a:=Lr false a.C6 a.C5 n wr f g []) rfl ?_))))))))));refine⟨_,⟨n,wr,f,g,[],S,o,rfl,n1,n2,G.nd,λ x hx=>(hk x (O x hx)).num,KP,nofun,by decide,λ x hx=>(hk x hx).num,by lia,λ z=>absurd (hk _ (O _ z)).2 (by decide),by have:=qan9 KP.h.1 O;lia,rfl⟩,qa0 (a:=[D.hole u,b,.int J,Lm n wr f,.l false (Lq o),.l false (Lq S),.l true (Ls n.toNat N),Lr false a.C6 a.C5 n wr f g [],.l false [],d9,Z,W,M,t]) rfl (qa0 (a:=true) rfl (Bn rfl ?_))⟩;exact qA3 (qP9 (p:=Lr false a.C6 a.C5 n wr f g []) (d:=.l false (Ls n.toNat g)) rfl (qe9 rfl) ⟨false,n,wr,f,g,[],rfl,rfl⟩ rfl (qa0 (a:=D.bl true) (qaV6 (KP.same K0 e)) rfl))
end
theorem dfX{K:W.Frag}{mg:Str->Option V'}{x qual:Str}{st:Stmt}{f:γ}{ps:List Str}{oc:V'}{n g:Option γ}{m:Array (Option V')}{kV e i d j:V'}{h:Heap}(X:K.In h)(G:h.Ns Ky mg)(a:W.nsIn K Ky x=some (some (.ref f)))(l:K.lookup f=some ⟨oc,n,.func (W.fnOf x qual (qe4 st) (qd0 st) (qa3 st) .none kV e i g d j),m⟩)(c:W.codeIn K d qual=true)(k:W.keepIn K (.ref f)=true)(b:∀(kV e i:V')(g:Option γ)(d j:V')(us:List V'),us.length=ps.length->bindArgs (W.fnOf x qual (qe4 st) (qd0 st) (qa3 st) .none kV e i g d j) ⟨us,[]⟩=pure (ps.zip us)) :
 Df K mg x qual st f (W.fnOf x qual (qe4 st) (qd0 st) (qa3 st) .none kV e i g d j) ps:=dfmk l c k (W.mg_of X G a) b
theorem qaX7{l:W.OpenLaw}{w:World}{K:W.Frag}{mg:Str->Option V'}{fa f0 f1 f2 f3 f4 f5 f6 f7 f8 f9 c f g h i j n o p q r t u x y z A d B C D E F G H I J L M N O P Q R S T U V e7 C0 C1 C2 C3 C4:γ}{d0 d1 d2 d3 d4 d5 d6 d7 d8 d9 X Y Z a0 a1 a2 a3 a4 a5 a6 a7 a8 a9 b0 b1 b2 b3 b4 b5 b6 b7 b8 b9 c0 c1 c2 c3 c4 c5 c6 c7 c8 c9 e0 e1 e3 e4 e5 b:ε}{Co Cr Cq:Tok}(e8:mg "law" = some (.ref fa))(j0:Df K mg "_wall" "_wall" qas0 f0 d0 ["k"])(j1:Md K C2 "__init__" "NoRoom.__init__" qk9 f1 d1 ["self", "room"])(j2:Md K C3 "__init__" "There.__init__" qm9 f2 d2 ["self", "key"])(j3:Md K C4 "__init__" "NotThere.__init__" qi0 f3 d3 ["self", "key"])(j4:Df K mg "is_whole" "is_whole" qw9 f4 d4 ["thing"])(j5:Df K mg "is_whole_within" "is_whole_within" qf1 f5 d5 ["thing", "least", "most"])(j6:Df K mg "is_number" "is_number" qs0 f6 d6 ["thing"])(j7:Df K mg "are_parted" "are_parted" qm8 f7 d7 ["numbers"])(j8:Df K mg "is_number_pair" "is_number_pair" qg5 f8 d8 ["thing"])(j9:Df K mg "is_home_list" "is_home_list" qj2 f9 d9 ["thing"])(e9:Md K C0 "__init__" "Plan.__init__" qs4 c X ["self", "rooms", "wraps", "homes"])(g0:Md K C0 "is_room" "Plan.is_room" qj4 f Y ["self", "thing"])(g1:Md K C0 "home" "Plan.home" qs5 g Z ["self", "key"])(g2:Md K C0 "far" "Plan.far" qx6 h a0 ["self", "key", "room"])(g3:Md K C0 "goes_ahead" "Plan.goes_ahead" qf2 i a1 ["self", "room", "one", "other"])(g4:Df K mg "room_ahead" "room_ahead" qm7 j a2 ["plan", "room"])(g5:Df K mg "word_by_room_ahead" "word_by_room_ahead" qe1 n a3 ["plan", "rooms", "room"])(g6:Df K mg "word_due" "word_due" qw8 o a4 ["plan", "rooms", "room"])(g7:Df K mg "is_turned" "is_turned" qr9 p a5 ["plan", "rooms"])(g8:Df K mg "fault_of" "fault_of" qx0 q a6 ["plan", "rooms"])(g9:Df K mg "are_crowd" "are_crowd" qs2 r a7 ["plan", "keys", "room"])(h0:Df K mg "crowded_room" "crowded_room" qj3 t a8 ["plan", "keys"])(h1:Df K mg "refuse_crowd" "refuse_crowd" qj1 u a9 ["plan", "keys"])(h2:Df K mg "bring_in" "bring_in" qx1 x b0 ["plan", "rooms", "key"])(h3:Df K mg "room_behind" "room_behind" qk7 y b1 ["plan", "room"])(h4:Df K mg "is_drawn_from" "is_drawn_from" qh8 z b2 ["plan", "rooms", "room"])(h5:Df K mg "draw_back" "draw_back" qs1 A b3 ["plan", "rooms", "room"])(h6:MdN K C1 "__init__" "Row.__init__" qx5 d b4 ["self", "plan", "rooms"])(h7:Md K C1 "rooms_held" "Row.rooms_held" qg6 B b5 ["self"])(h8:Md K C1 "keys_held" "Row.keys_held" qh9 C b6 ["self"])(h9:Md K C1 "many" "Row.many" qx4 D b7 ["self"])(i0:Md K C1 "room_of" "Row.room_of" qk8 E b8 ["self", "key"])(i1:Md K C1 "put" "Row.put" qE8 F b9 ["self", "key"])(i2:Md K C1 "take" "Row.take" qx3 G c0 ["self", "key"])(i3:Md K C1 "undo" "Row.undo" qx2 H c1 ["self"])(i4:Md K C1 "deeds" "Row.deeds" qs3 I c2 ["self"])(i5:Df K mg "_law_bag" "_law_bag" qax6 J c3 ["_law_script"])(i6:Df K mg "_law_take" "_law_take" qac9 L c4 ["_law_bag_here", "_law_many"])(i7:Df K mg "_law_home" "_law_home" qad0 M c5 ["_law_plan", "_law_key"])(i8:Df K mg "_law_passing" "_law_passing" qx8 N c6 ["_law_plan", "_law_keys"])(i9:Df K mg "_law_housed" "_law_housed" qF0 O c7 ["_law_plan", "_law_keys"])(k0:Df K mg "_law_drawn_homes" "_law_drawn_homes" qj5 P c8 ["_law_bag_here", "_law_size", "_law_many"])(k1:Df K mg "_law_drawn" "_law_drawn" qO6 Q c9 ["_law_bag_here", "_law_most"])(k2:Df K mg "_law_fitting" "_law_fitting" qx9 R e0 ["_law_plan", "_law_keys"])(k3:Df K mg "_law_deed" "_law_deed" qad1 S e1 ["_law_row", "_law_word", "_law_key"])(k4:Df K mg "_law_stepped" "_law_stepped" qx7 T e3 ["_law_row", "_law_plan", "_law_there", "_law_done", "_law_word", "_law_key"])(k5:Df K mg "_law_undone" "_law_undone" qE9 U e4 ["_law_row", "_law_there", "_law_done"])(k6:Df K mg "_law_alike" "_law_alike" qO7 V e5 ["_law_row", "_law_plan", "_law_there", "_law_done", "_law_keys"])(e6:Df K mg "law" "law" G4 e7 b ["_law_script"])(k7:mg "MOST_NUMBER" = some (.int 1000000000000000000 Co))(k8:mg "MOST_ROOMS" = some (.int 64 Cr))(k9:mg "MOST_HOMES" = some (.int 64 Cq))(l0:mg "abs" = none)(l1:mg "all" = none)(l2:mg "bool" = none)(l3:mg "dict" = none)(l4:mg "enumerate" = none)(l5:mg "int" = none)(l6:mg "isinstance" = none)(l7:mg "len" = none)(l8:mg "list" = none)(l9:mg "max" = none)(m0:mg "min" = none)(m1:mg "range" = none)(m2:mg "set" = none)(m3:mg "sorted" = none)(m4:mg "tuple" = none)(m5:Cl K mg "Plan" C0)(m6:Mk K C0 c)(m7:qd6 K C0 "rooms")(m8:qd6 K C0 "wraps")(m9:qd6 K C0 "homes")(n0:qd6 K C0 "home_numbers")(n1:IsO K C0)(n2:Cl K mg "Row" C1)(n3:Mk K C1 d)(n4:qd6 K C1 "plan")(n5:qd6 K C1 "held")(n6:qd6 K C1 "done")(n7:mg "NoRoom" = some (.ref C2))(n8:Exc K C2)(n9:W.kitOne K (.ref C2) (.type "ValueError")=some true)(o0:MkE K C2 f1)(o1:qd6 K C2 "room")(o2:IsX K C2)(o3:W.exmAny K (.ref C2) [.ref C3,.ref C4,.ref C2]=some true)(o4:mg "There" = some (.ref C3))(o5:Exc K C3)(o6:W.kitOne K (.ref C3) (.type "ValueError")=some true)(o7:MkE K C3 f2)(o8:qd6 K C3 "key")(o9:IsX K C3)(p0:W.exmAny K (.ref C3) [.ref C3,.ref C4,.ref C2]=some true)(p1:mg "NotThere" = some (.ref C4))(p2:Exc K C4)(p3:W.kitOne K (.ref C4) (.type "ValueError")=some true)(p4:MkE K C4 f3)(p5:qd6 K C4 "key")(p6:IsX K C4)(p7:W.exmAny K (.ref C4) [.ref C3,.ref C4,.ref C2]=some true)(hb:∀(s:δ)(v:V'),BindsTo s b ⟨[v],[]⟩ [("_law_script",v)]):∃ fd:ε,(∀(s:δ)(v:V'),BindsTo s fd ⟨[v],[]⟩ [("_law_script",v)])/\∀ base:Heap,K.In base->base.Ns Ky mg->B6 l.prog w K mg base (CX1 l.prog w) 12 fa fd ["_law_script"] (Hm K):=by
 have e:=e8.symm.trans e6.m;injection e with e
 injection e with e
 subst e;exact⟨b,hb,λ base _ _=>qaT6 (a:=⟨f0,d0,f1,d1,f2,d2,f3,d3,f4,d4,f5,d5,f6,d6,f7,d7,f8,d8,f9,d9,c,X,f,Y,g,Z,h,a0,i,a1,j,a2,n,a3,o,a4,p,a5,q,a6,r,a7,t,a8,u,a9,x,b0,y,b1,z,b2,A,b3,d,b4,B,b5,C,b6,D,b7,E,b8,F,b9,G,c0,H,c1,I,c2,J,c3,L,c4,M,c5,N,c6,O,c7,P,c8,Q,c9,R,e0,S,e1,T,e3,U,e4,V,e5,fa,b,Co,Cr,Cq,C0,C1,C2,C3,C4⟩) ⟨j0,j1,j2,j3,j4,j5,j6,j7,j8,j9,e9,g0,g1,g2,g3,g4,g5,g6,g7,g8,g9,h0,h1,h2,h3,h4,h5,h6,h7,h8,h9,i0,i1,i2,i3,i4,i5,i6,i7,i8,i9,k0,k1,k2,k3,k4,k5,k6,e6,k7,k8,k9,l0,l1,l2,l3,l4,l5,l6,l7,l8,l9,m0,m1,m2,m3,m4,m5,m6,m7,m8,m9,n0,n1,n2,n3,n4,n5,n6,n7,n8,n9,o0,o1,o2,o3,o4,o5,o6,o7,o8,o9,p0,p1,p2,p3,p4,p5,p6,p7⟩⟩
theorem walk{l:W.OpenLaw}{q:Program}{loose:List Str}{XP:(Str->Option V')->Heap->Prop}{YP:World->Heap->Prop}{d:DefRec}{K:Params->W.Frag}(c:l.most=some 63)(b:d.params.defaults=[])(e:∀(w:World)(h:Heap),YP w h->(K w.params).In h)(F:∀(w:World)(mg:Str->Option V')(fa:γ)(h:Heap),(K w.params).In h->h.Ns Ky mg->mg d.name=some (.ref fa) ->
 ∃ fd:ε,(∀(s:δ)(u:V'),BindsTo s fd ⟨[u],[]⟩ [("_law_script",u)])/\∀ base:Heap,(K w.params).In base->base.Ns Ky mg->B6 l.prog w (K w.params) mg base (CX1 l.prog w) 12 fa fd ["_law_script"] (Hm (K w.params))) :
 W.WalkO q loose XP YP l.row.toRowW d [] (λ f vs=>PySem.call f vs) :=
 L2.qaF1 (n:=63) (k:=12) (x := "_law_script") (CX:=λ w=>CX1 l.prog w) (sp:=λ w=>Hm (K w.params)) c (by decide) b ⟨λ _=>rfl,by decide,by decide⟩ e F (λ _ _ a g i _ j=>⟨a,g,rfl,j,i,λ _=>rfl⟩) λ _ _ _ _ _ ⟨_,_,_,_,_,_,_,_,z⟩=>z
end LV.My
open PySem PySem.W PyProof.Rows L2
local macro_rules | `(tactic| walk_at "u")=>`(tactic| (intro _ _ _ _ _ _;repeat' first | exact LV.ec0 (rfl) | refine LV.ec1 λ _=>?_))
local macro_rules | `(tactic| walk_at "d")=>`(tactic| (refine' LV.My.dfX (by assumption) (by assumption) ?a ?l ?c ?k ?b;(case a | l | c | k=>k_is);(case b=>walk_at "u")))
local macro_rules | `(tactic| walk_at "e")=>`(tactic| (refine' mdmk ?l ?c ?k ?a ?i ?b;(case a | i | l | c | k=>k_is);(case b=>walk_at "u")))
local macro_rules | `(tactic| walk_at "c")=>`(tactic| (refine' mg_of (by assumption) (by assumption) ?a;k_is))
local macro_rules | `(tactic| walk_at "z")=>`(tactic| (refine' mg_none_of (by assumption) (by assumption) ?a;k_is))
local macro_rules | `(tactic| walk_at "q")=>`(tactic| (first | k_is | kernel_rfl | rfl))
local macro_rules | `(tactic| walk_at "n")=>`(tactic| (show findIn _ _ _=some none;k_is))
local macro_rules | `(tactic| walk_at "x9")=>`(tactic| (refine⟨?_,?_,?_,?_,?_,?_,?_,?_,?_⟩<;>walk_at "q"))
local macro_rules | `(tactic| walk_at "ix")=>`(tactic| (refine⟨⟨?_,?_,?_,?_,?_,?_,?_,?_,?_⟩,?_,?_,?_⟩<;>walk_at "q"))
local macro_rules | `(tactic| walk_at "me")=>`(tactic| (refine⟨⟨?_,?_,?_,?_,?_,?_,?_,?_,?_⟩,?_,?_,?_,?_⟩<;>walk_at "q"))
theorem PySem.Challenge.cw_homeward_k35_undone_holds : PySem.Challenge.rw_homeward_k35_undone.Holds := by
 w_on;o_law;k_head;(case hw=>w_witness2)
 k_fill
 refine LV.My.walk (l:=PySem.Challenge.rw_homeward_k35_undone) rfl rfl (λ w h Y=>PySem.W.kIn_of Y) ?F
 case F =>
 intro w g j h KX G f;refine' LV.My.qaX7 f ?j0 ?j1 ?j2 ?j3 ?j4 ?j5 ?j6 ?j7 ?j8 ?j9 ?j10 ?j11 ?j12 ?j13 ?j14 ?j15 ?j16 ?j17 ?j18 ?j19 ?j20 ?j21 ?j22 ?j23 ?j24 ?j25 ?j26 ?j27 ?j28 ?j29 ?j30 ?j31 ?j32 ?j33 ?j34 ?j35 ?j36 ?j37 ?j38 ?j39 ?j40 ?j41 ?j42 ?j43 ?j44 ?j45 ?j46 ?j47 ?j48 ?j49 ?j50 ?j51 ?j52 ?j53 ?j54 ?j55 ?j56 ?j57 ?j58 ?j59 ?j60 ?j61 ?j62 ?j63 ?j64 ?j65 ?j66 ?j67 ?j68 ?j69 ?j70 ?j71 ?j72 ?j73 ?j74 ?j75 ?j76 ?j77 ?j78 ?j79 ?j80 ?j81 ?j82 ?j83 ?j84 ?j85 ?j86 ?j87 ?j88 ?j89 ?j90 ?j91 ?j92 ?j93 ?j94 ?j95 ?j96 ?j97 ?j98 ?j99 ?hb
 case j49=>walk_at "c"
 case j50=>walk_at "c"
 case j51=>walk_at "c"
 case j67=>refine' ⟨⟨?_,?_,?_,?_⟩,mg_of (by assumption) (by assumption) ?a⟩;(case a=>k_is);k_is;k_is;k_is;k_is
 case j74=>refine' ⟨⟨?_,?_,?_,?_⟩,mg_of (by assumption) (by assumption) ?a⟩;(case a=>k_is);k_is;k_is;k_is;k_is
 case j79=>walk_at "c"
 case j86=>walk_at "c"
 case j93=>walk_at "c"
 case j0=>walk_at "d"
 case j1=>walk_at "e"
 case j2=>walk_at "e"
 case j3=>walk_at "e"
 case j4=>walk_at "d"
 case j5=>walk_at "d"
 case j6=>walk_at "d"
 case j7=>walk_at "d"
 case j8=>walk_at "d"
 case j9=>walk_at "d"
 case j10=>walk_at "e"
 case j11=>walk_at "e"
 case j12=>walk_at "e"
 case j13=>walk_at "e"
 case j14=>walk_at "e"
 case j15=>walk_at "d"
 case j16=>walk_at "d"
 case j17=>walk_at "d"
 case j18=>walk_at "d"
 case j19=>walk_at "d"
 case j20=>walk_at "d"
 case j21=>walk_at "d"
 case j22=>walk_at "d"
 case j23=>walk_at "d"
 case j24=>walk_at "d"
 case j25=>walk_at "d"
 case j26=>walk_at "d"
 case j27=>refine' LV.mdmkN ?l ?c ?k ?a ?i ?t ?b ?bn;(case a | i | l | c | k | t=>k_is);(case b=>intro _ _ _ _ _ _;repeat' first | exact LV.ec0 (⟨_,rfl,rfl⟩) | refine LV.ec1 λ _=>?_);(case bn=>intro _ _ _ _ _ _;refine LV.ec2 ?_;repeat' first | exact LV.ec0 (⟨_,rfl,rfl⟩) | refine LV.ec1 λ _=>?_)
 case j28=>walk_at "e"
 case j29=>walk_at "e"
 case j30=>walk_at "e"
 case j31=>walk_at "e"
 case j32=>walk_at "e"
 case j33=>walk_at "e"
 case j34=>walk_at "e"
 case j35=>walk_at "e"
 case j36=>walk_at "d"
 case j37=>walk_at "d"
 case j38=>walk_at "d"
 case j39=>walk_at "d"
 case j40=>walk_at "d"
 case j41=>walk_at "d"
 case j42=>walk_at "d"
 case j43=>walk_at "d"
 case j44=>walk_at "d"
 case j45=>walk_at "d"
 case j46=>walk_at "d"
 case j47=>walk_at "d"
 case j48=>walk_at "d"
 case j52=>walk_at "z"
 case j53=>walk_at "z"
 case j54=>walk_at "z"
 case j55=>walk_at "z"
 case j56=>walk_at "z"
 case j57=>walk_at "z"
 case j58=>walk_at "z"
 case j59=>walk_at "z"
 case j60=>walk_at "z"
 case j61=>walk_at "z"
 case j62=>walk_at "z"
 case j63=>walk_at "z"
 case j64=>walk_at "z"
 case j65=>walk_at "z"
 case j66=>walk_at "z"
 case j69=>walk_at "n"
 case j70=>walk_at "n"
 case j71=>walk_at "n"
 case j72=>walk_at "n"
 case j73=>refine⟨?_,?_,?_,?_,kf_of ?_ ?_ ?_ ?_ ?_ ?_ ?_⟩<;>walk_at "q"
 case j76=>walk_at "n"
 case j77=>walk_at "n"
 case j78=>walk_at "n"
 case j80=>walk_at "x9"
 case j81=>walk_at "q"
 case j83=>walk_at "n"
 case j84=>walk_at "ix"
 case j85=>walk_at "q"
 case j87=>walk_at "x9"
 case j88=>walk_at "q"
 case j90=>walk_at "n"
 case j91=>walk_at "ix"
 case j92=>walk_at "q"
 case j94=>walk_at "x9"
 case j95=>walk_at "q"
 case j97=>walk_at "n"
 case j98=>walk_at "ix"
 case j99=>walk_at "q"
 case j68=>refine⟨?_,?_,?_,?_⟩<;>k_is
 case j75=>refine⟨?_,?_,?_,?_⟩<;>k_is
 case j82=>walk_at "me"
 case j89=>walk_at "me"
 case j96=>walk_at "me"
 case hb=>exact λ s v=>.of_eq rfl
#print axioms PySem.Challenge.cw_homeward_k35_undone_holds
