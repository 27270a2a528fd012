import PyProof.Rows.All
import Wide.All
import OpenK.AllK
import Wide.FinOn
import Lean
import PyProof.EqAt
import PyProof.EqKinds
import PyProof.TupleCall
import PyProof.CompFree
import KE.KIsAll
import PyProof.AttrMiss
import PyProof.IsiH_list
import KE.KDictOf
import PyProof.ConsumeWalk
import PyProof.Rows.SetFrom
import PyProof.NeKinds
import PyProof.AutoListH
import PyProof.EnumMake
import PyProof.EnumFor
import PyProof.EnumStmt
import PyProof.LayNew
import PyProof.Rows.EnumRows
import KE.KDictList
import KE.KItemsList
import PySem.Challenge.RW_homeward_k65_growing_refused
set_option linter.all false
set_option Elab.async false
def zA0:=@List.count_append
def zA1:=@Option.bind_eq_some_iff
def zA2:=@PySem.Heap.get?_push_of_some
def zA3:=@Nat.le_refl
def zA4:=@List.size_toArray
def zA5:=@List.getElem?_eq_some_iff
def zA6:=@List.mem_cons_of_mem
def zA7:=@List.length_append
def zA8:=@PySem.Heap.lt_size
def zA9:=@of_decide_eq_true
def zAa:=@List.mem_append
def zAb:=@Bool.and_eq_true_iff
def zAc:=@Bool.false_ne_true
def zAd:=@Nat.lt_of_lt_of_le
def zAe:=@List.mem_cons_self
def zAf:=@List.length_map
def zAg:=@List.append_nil
def zAh:=@Nat.ne_of_lt
def zAi:=@Option.map_eq_some_iff
def zAj:=@List.mem_range
def zAk:=@List.count_cons
def zAl:=@List.mem_cons
def zAm:=@Nat.le_trans
def zAn:=@List.length_cons
def zAo:=@decide_eq_true
def zAp:=@List.lookup_cons
def zAq:=@List.mem_singleton
def zAr:=@List.getElem?_append_left
def zAs:=@List.mem_filter
def zAt:=@PySem.Heap.get?_push_size
def zAu:=@List.mem_append_right
def zAv:=@List.forall_mem_cons
def zAw:=@List.append_assoc
def zAx:=@List.map_cons
def zAy:=@Option.isSome_iff_exists
def zAz:=@List.length_range
def zB0:=@decide_eq_false
def zB1:=@List.mem_of_getElem?
def zB2:=@List.all_eq_true
def zB3:=@List.getElem?_map
def zB4:=@PySem.Heap.get?_update_other
def zB5:=@of_decide_eq_false
def zB6:=@List.length_take
def zB7:=@List.not_mem_nil
def zB8:=@Bool.and_eq_true
def zB9:=@Nat.zero_add
def zBa:=@beq_self_eq_true
def zBb:=@List.mem_map
def zBc:=@List.forall_mem_append
def zBd:=@beq_eq_false_iff_ne
def zBe:=@decide_eq_true_eq
def zBf:=@List.replicate_succ
def zBg:=@Bool.and_false
def zBh:=@List.nil_append
def zBi:=@PySem.Heap.get?_update_self
def zBj:=@beq_iff_eq
def zBk:=@Nat.zero_le
def zBl:=@List.map_append
def zBm:=@List.find?_cons
def zBn:=@List.take_of_length_le
def zBo:=@List.getElem?_set_self
def zBp:=@Int.emod_lt_of_pos
def zBq:=@List.getElem?_set_ne
def zBr:=@List.flatten_cons
def zBs:=@List.getElem?_eq_getElem
def zBt:=@List.filterMap_cons
def zBu:=@List.length_drop
def zBv:=@Nat.le_of_not_lt
def zBw:=@List.findIdx?_cons
def zBx:=@Int.emod_nonneg
def zBy:=@List.length_nil
def zBz:=@Nat.le_of_lt
def zC0:=@List.nodup_cons
def zC1:=@List.any_cons
set_option genSizeOf false
set_option maxRecDepth 100000
noncomputable section
set_option genInjectivity false in
structure PySem.W.Fast where
 (tw10805791327140670305 tw9395065017007564809 tw14315756053265571087 tw10312021491953015815 tw12750998058543004185 tw11458089754223071282 tw11218724853146854208 tw8537609568660850470 tw12291372451414717223 tw11279204144159184759 tw15677503100963692045 tw1766720510707177129 tw13797400595662447966 tw961255951950053693 tw11594180614451618912 tw12617033511842250189 tw7854315063260364997 tw5000095732359719525 tw14768565422688994420 tw4272315766722491390 tw10652070808254485278 tw11178849880646485651 tw6647471275601742080 tw2730198588229460642 tw7384065869828631483 tw9505882402875851139 tw6992757581667769348 tw14715081698353216426 tw4759765679298578365 tw12796842418135352541 tw778451569681274430 tw10499027593434669659 tw3439940086435397093 tw8425650780459454403 tw13428130370508591010 tw5401223902424565479 tw12628626013004329671 tw5072039164908993113 tw5314592695581561288 tw17624026935778184064
 tw10033633799626461448 tw17874756993012420785 tw7222828694963799732 tw9618153146708605611 tw7089243528926337497 tw16698638979407509684 tw3346938684683913645 tw7352480990131649156 tw502162199684553232 tw16420900886593022253 tw7162850457857737080 tw15542044044227333203 tw7434833888169666999 tw10279344671569365117 tw1036975578140472815 tw10218813499341479000 tw14843285671708431119 tw13926162044983678033 tw261036344114359158 tw131065246415129403 tw16131888703574691036 tw10520402589435023111 tw4155467538531101015 tw2984173526861769275 tw5572931345413512329 tw12770932723768502635 tw1146151563838807668 tw9416991414473251591 tw6393777060355103974 tw13697613346514903353 tw10357600472915874057 tw9388570878582484335 tw3954439102914785857 tw7838356528499268879 tw14120846989265611865 tw12402022807403630791 tw8822509207694582572 tw11644515759279235155 tw16789142247075455273 tw348501626178464538
 tw7362573483116995100 tw6443212224005805544 tw9296497763190848483 tw9108570757901096662 tw2661566517652062849 tw272284916378083985 tw15710344021028703215 tw16315293990391696747 tw4716963333498472991 tw15496208889369852002 tw7917382508024475457 tw10695379357324597017 tw13796769209401235434 tw751229649427760448 tw15835673108061741593 tw538154191338499891 tw5143886771521494182 tw17276478586131786514 tw446030989712427856 tw408969572584208648 tw11970860359017806535 tw11083085634076808303 tw16736442783603393486 tw6453760066431019354 tw13041268920234505814 tw5093208347883473613 tw15242571457906328548 tw12466763318061872544 tw9933359977007985604 tw4880119785268225356 tw2038585583810406286 tw2126228915713651049 tw3572430040325287926 tw12905867479377952383 tw6096030683696202517 tw11566330484206265554 tw7621683445135521505 tw6380522579636952391 tw15515142752374088282 tw11968268264069739619
 tw15112327241819365697 tw15534683510261437284 tw15084227213770342578 tw13579407495064707159 tw389204720197202919 tw5971901045732085140 tw13274423775392726515 tw4334142996177492132 tw3333310254993837916 tw12894165211945122706 tw8379027971957239810 tw544008998303938497 tw16803691965475284571 tw146189133482435946 tw2769443609785815256 tw2934467858314239104 tw16765895393185557766 tw9937277025525454534 tw16215678458628385797 tw10177913532430545330 tw13457006834119787975 tw16722135498691156599 tw7694230301635779172 tw14711767712505654018 tw3734695828376834693 tw5442175922676307701 tw247157801907513938 tw10404821451484520125 tw8417958769502766416 tw10880612781382685052 tw13124826089152792094 tw3995317621625369003 tw10467792706783745841 tw7412140767918907030 tw8712624502258710861 tw8928029893462232786 tw11375685688948862361 tw3869880473536261770 tw13621091095761319114 tw10901995827020586636
 tw8448587232962542671 tw5707724667244378981 tw11681979294430275487 tw9720302045167280366 tw16620901327910916656 tw9753360566922691465 tw1689954999983559448 tw746676990548436245 tw11154210736701172931 tw15981213499820861725 tw4762554433847648363 tw13212729174782127539 tw5276897579697188468 tw9964269378647950748 tw18064389716886435395 tw13598182042039364165 tw12605218669163932767 tw5999078253204593615 tw16262842926246527326 tw685009286079440294 tw18232364147823151727 tw17280346034541255327 tw7707171155351007760 tw2832809031179970321 tw5010554618203640454 tw2451110681725238304 tw4525061086477267304 tw16153397989490972443 tw16083334617749895969 tw15113964030993135832 tw17749484146270600457 tw16188950993239271033 tw15061959772426871906 tw394676136961760119 tw1627578341800157555 tw12031903066602980587 tw14008314961355288961 tw7490856431203259416 tw84834150705206087 tw2579914323996262065
 tw1134425080727119960 tw3118479433615731298 tw985201003963020348 tw9186034694065586760 tw18338342739343304156 tw11315830304745227700 tw712078134810289316 tw9490223713654770702 tw14790255828485763088 tw14746951738596328215 tw10662616279133027737 tw8119214800372015979 tw6058119263466850623 tw17157321479914721029 tw11730019829522073380 tw10042555452280769436 tw5956339409350128082 tw4148924021524698689 tw18071633917481949312 tw4033317159539084107 tw189305703952597790 tw12779625108672424900 tw4412120182546360352 tw16561331932698491174 tw14282098269042698381 tw15726998565817617986 tw10148369904137031883 tw7615270060294835612 tw7178148454482571604 tw11119728640800786715 tw17506649320665013083 tw667478351454834519 tw15252615058354916408 tw2348098547948992373 tw7301095482585989478 tw2093537141975575067 tw1086373477308249359 tw6542500554692065777 tw2568159495647478803 tw3663450528275230993
 tw3222881177615819509 tw579407803541671056 tw9083944769718402623 tw11327740162988864127 tw7084149277147962225 tw17069637682801046798 tw642205761716265370 tw13027467697380109147 tw7448837476578452115 tw13065587185222458876 tw17939885543414928854 tw15652740252773224825 tw16857780994678321445 tw8220956056785029241 tw7441895106104795830 tw4622228090054918240 tw4615556685610046546 tw1863120889823303335 tw15367138377021120079 tw14580466695452033991 tw339153278246847856 tw4058381026017856037 tw6677606299930947247 tw11035945764412621565 tw851961803143376660 tw14787376479956839168 tw17250067431586632049 tw15119487579694372121 tw10793251556925829006 tw17092967898964077350 tw1552306049433134306 tw4718099546098740287 tw9828230332680639568 tw4837237347584072215 tw4833921859929621530 tw12291947031537072429 tw8838162674987505317 tw12057333431176605531 tw982464894147869074 tw6212803725317356776
 tw5653528020019744133 tw18259080810993564266 tw1735132722665458535 tw16919074948454134822 tw16134570104486793963 tw16009855154245431975 tw15496033568646607046 tw12068819559099485693 tw10702683464230009320 tw10670638729492047606 tw10365661493138369278 tw12861299753385402075 tw2589960806977734153 tw15650500255263480283 tw7290813678921635441 tw17796346321974923316 tw9800280426940145737 tw689331766124162300 tw6709328321767272382 tw17940296833364697921 tw16767547176590625700 tw14609586672861695329 tw1369756126398772831 tw14422003193416115217 tw1101112513896406917 tw3249160158868755194 tw10708999741961808127 tw8504970131953251955 tw18410149930556281525 tw13512102457627665519 tw12992668923228631296 tw11535994739793369432 tw10961616656376753633 tw8978541160291503630 tw7567467454869678330 tw5289488378728248273 tw5038037259003613972 tw3694757759499718078 tw14409266733812394082 tw14166438525550970072
 tw14143022712401994917 tw11133800334098986244 tw6319903115673566026 tw3715233608497066028 tw9540115050827422649 tw9475406517622124119 tw6863958809159671329 tw3768473765489379820 tw3572323720888841765 tw3171358219868821656 tw1773768520163545589 tw17522911868223303084 tw16954471255987780794 tw16713989112873026403 tw14762040583828342628 tw13664780708783333726 tw13073945201688557428 tw11619960276902379265 tw11504713998058324548 tw11007603378577762702 tw10419553778133998285 tw10025872672929119175 tw2719638016121331122 tw3920865293477042305 tw16541131234497812136 tw1610497157707471967 tw16473390277212398620 tw16454242602747562217 tw6697250911435519502 tw6366954536132276253 tw459969509900405527 tw16277827737004818655 tw17289698984920120082 tw12704179912525723682 tw8609992037602176562 tw6935347519972209178 tw5325383445892334385 tw2420087271728135971 tw2006779443761122774 tw17721609292522161963
 tw15418083486643587777 tw14277203059359242639 tw12993652249918805341 tw12740481435436279360 tw10668205240735053132 tw2355023373339427710 tw4355926865871448174 tw5971381862039229346 tw6175628024271600460 tw2626930977087495170 tw15431083376862259206 tw8939261917600651826 tw3432253734731797237 tw1023315231843901939 tw14246542639837079675 tw6600740292770625858 tw11608880395703124304 tw9895868146043548226 tw528534376598074157 tw17370771993802462805 tw13621959278617817632 tw10099847925747393736 tw7696580724928462972 tw7365255027684880486:Nat)
namespace L2
open PySem PySem.Spec PyProof.Rows
variable{M:Model}{N:List Str}{base:Heap}{body:List Stmt}{ch fp:List Addr}{i n t':Nat}{kw:List (Str×Value)}{mg:Str->Option Value}{op:CmpOp}{pl:Sem Bool}{us:List Value}
abbrev Key:=Sum Int Str
noncomputable def Hw:Key->Value->Bool
 | .inl k,v=>Value.isInt k v
 | .inr x,v=>Value.isStrOf x v
noncomputable def keyH(w:World):Key->Int
 | .inl k=>hashInt k
 | .inr x=>hashStr w x
theorem qc7:∀{k:Key}{v:Value},Hw k v=true->(∃ i t,k=Sum.inl i/\v=Value.int i t)∨(∃ x t,k=Sum.inr x/\v=Value.str x t)
 | .inl i,v,h=>by
   obtain⟨t,e⟩:=Value.isInt_shape (k:=i) (v:=v) h;exact .inl ⟨i,t,rfl,e⟩
 | .inr x,v,h=>by
   obtain⟨t,e⟩:=Value.isStrOf_shape (x:=x) (v:=v) h;exact .inr ⟨x,t,rfl,e⟩
theorem qao1(i:Int)(t:Tok):Hw (.inl i) (.int i t)=true:=by simp[Hw,Value.isInt]
theorem qao0(x:Str)(t:Tok):Hw (.inr x) (.str x t)=true:=by simp[Hw,Value.isStrOf]
theorem qaT0(a b:Int):decide ((Sum.inl a:Key)=Sum.inl b)=(a == b):=by
 by_cases e:a=b
 . subst e;simp
 have h:¬ (Sum.inl a:Key)=Sum.inl b:=λ q=>e (Sum.inl.inj q)
 rw[zB0 h];exact(zBd.mpr e).symm
theorem qaS7(a b:Str):decide ((Sum.inr a:Key)=Sum.inr b)=decide (a=b):=by
 by_cases e:a=b
 . subst e;simp
 have h:¬ (Sum.inr a:Key)=Sum.inr b:=λ q=>e (Sum.inr.inj q)
 rw[zB0 h,zB0 e]
theorem qaS9(a:Int)(b:Str):decide ((Sum.inl a:Key)=Sum.inr b)=false:=zB0 (λ q=>nomatch q)
theorem qaS8(a:Str)(b:Int):decide ((Sum.inr a:Key)=Sum.inl b)=false:=zB0 (λ q=>nomatch q)
def qe9(prog:Program)(w:World):PySem.KeyKind prog w Key where
 is:=Hw
 hash:=keyH w
 inj:=λ v a b g f=>by
   rcases qc7 g with⟨i,t,rfl,rfl⟩ | ⟨x,t,rfl,rfl⟩
   . rcases qc7 f with⟨j,u,rfl,e⟩ | ⟨y,u,rfl,e⟩
     . injection e with c _;rw[c]
     exact nomatch e
   rcases qc7 f with⟨j,u,rfl,e⟩ | ⟨y,u,rfl,e⟩
   . exact nomatch e
   injection e with c _;rw[c]
 byValue:=λ k v h=>by
   rcases qc7 h with⟨i,t,rfl,rfl⟩ | ⟨x,t,rfl,rfl⟩<;>rfl
 pyHash:=λ d h=>by
   rcases qc7 d with⟨i,t,rfl,rfl⟩ | ⟨x,t,rfl,rfl⟩
   . exact wpAny_pyHash_int h
   exact wpAny_pyHash_str h
 eqBool:=λ l d h=>by
   rcases qc7 l with⟨i,t,rfl,rfl⟩ | ⟨x,t,rfl,rfl⟩
   . rcases qc7 d with⟨j,u,rfl,rfl⟩ | ⟨y,u,rfl,rfl⟩
     . rw[qaT0] at h;exact wpAny_eqBool_int h
     rw[qaS9] at h;exact SeqAt.EqAt.int_str i t y u _ _ _ _ h
   rcases qc7 d with⟨j,u,rfl,rfl⟩ | ⟨y,u,rfl,rfl⟩
   . rw[qaS8] at h;exact SeqAt.EqAt.str_int x t j u _ _ _ _ h
   rw[qaS7] at h;exact wpAny_eqBool_str h
 «strs»:=λ k x t v h=>by
   rcases qc7 h with⟨i,u,rfl,e⟩ | ⟨y,u,rfl,e⟩
   . exact nomatch e
   injection e with c _
   subst c;cases v<;>rfl
theorem qaa6(prog:Program)(w:World)(i:Int)(t:Tok):(qe9 prog w).is (.inl i) (.int i t)=true:=qao1 i t
theorem qaa5(prog:Program)(w:World)(x:Str)(t:Tok):(qe9 prog w).is (.inr x) (.str x t)=true:=qao0 x t
inductive V where
 | non | bl (b:Bool) | int (i:Int) | str (x:Str) | byt (b:Array UInt8) | flt (b:UInt64) | ref (a:Addr) | ty (n:String)
 deriving DecidableEq
def RelV:V->Value->Prop
 | .non,u=>u=Value.none
 | .bl b,u=>u=Value.bool b
 | .int i,u=>∃ t,u=Value.int i t
 | .str x,u=>∃ t,u=Value.str x t
 | .byt b,u=>∃ t,u=Value.bytes b t
 | .flt b,u=>∃ t,u=Value.float b t
 | .ref a,u=>u=Value.ref a
 | .ty n,u=>u=Value.type n
abbrev Vals:List V->List Value->Prop:=Paired RelV
theorem Vals.length{xs:List V}(r:Vals xs us):xs.length=us.length:=Paired.length r
theorem Vals.get:∀{xs:List V}{us:List Value}{i:Nat}{x:V},Vals xs us->xs[i]? = some x->∃ u,us[i]? = some u/\RelV x u
 | _,_,_,_,.nil,e=>by simp at e
 | _,_,0,_,.cons r _,e=>by simp at e;subst e;exact⟨_,rfl,r⟩
 | _,_,i+1,x,.cons _ t,e=>by
   obtain⟨u,a,b⟩:=Vals.get (i:=i) (x:=x) t (by simpa using e);exact⟨u,by simpa using a,b⟩
theorem Vals.set{x:V}{u:Value}(r:RelV x u):∀{xs:List V}{us:List Value}(i:Nat),Vals xs us->Vals (xs.set i x) (us.set i u)
 | _,_,_,.nil=>.nil
 | _,_,0,.cons _ t=>.cons r t
 | _,_,i+1,.cons q t=>.cons q (Vals.set r i t)
theorem Vals.append:∀{xs ys:List V}{us a:List Value},Vals xs us->Vals ys a->Vals (xs++ys) (us++a)
 | _,_,_,_,.nil,s=>s
 | _,_,_,_,.cons r t,s=>.cons r (Vals.append t s)
theorem Vals.take:∀{xs:List V}{us:List Value}(n:Nat),Vals xs us->Vals (xs.take n) (us.take n)
 | _,_,0,_=>.nil
 | _,_,_+1,.nil=>.nil
 | _,_,n+1,.cons r t=>.cons r (Vals.take n t)
theorem Vals.drop:∀{xs:List V}{us:List Value}(n:Nat),Vals xs us->Vals (xs.drop n) (us.drop n)
 | _,_,0,r=>r
 | _,_,_+1,.nil=>.nil
 | _,_,n+1,.cons _ t=>Vals.drop n t
def RelO:Option V->Option Value->Prop
 | some v,some u=>RelV v u
 | none,none=>True
 | _,_=>False
def KV{κ:Type}:List (κ×V)->List (κ×Value)->Prop:=Paired λ(p:κ×V)(q:κ×Value)=>p.1=q.1/\RelV p.2 q.2
noncomputable def kV:Key->V
 | .inl i=>.int i
 | .inr x=>.str x
inductive HO where
   | lst (xs:List V)
   | tup (xs:List V)
   | dK (kvs:List (Key×V)) | dT (kvs:List (List Key×V))
   | set (S:Int->Bool) (n:Nat)
   | ins (C dx:Addr) (fs:List (Str×V))
   | own (x:Addr)
   | xd (fs:List (Str×V))
   | met (f x:Addr)
   | rng (lo hi:Int)
   | frz (o:Obj) (u:HO)
   | tbl (ps:Array Value)
   | ext (φ:Heap->Prop)
abbrev Hp:=Addr->Option HO
noncomputable def upd(H:Hp)(a:Addr)(o:HO):Hp:=λ b=>if b=a then some o else H b
theorem qb2{H:Hp}{a:Addr}{o:HO}:upd H a o a=some o:=by unfold upd;rw[if_pos rfl]
theorem qb3{H:Hp}{a b:Addr}{o:HO}(h:b≠a):upd H a o b=H b:=by unfold upd;rw[if_neg h]
theorem qaE2{H:Hp}{a:Addr}{o u:HO}:upd (upd H a o) a u=upd H a u:=by
 funext b;unfold upd;split<;>rfl
theorem ne_of{H:Hp}{a b:Addr}{o u:HO}(h:H a=some o)(h':H b=some u)(d:o≠u):a≠b:=by
 intro e;subst e;rw[h] at h';exact d (Option.some.inj h')
theorem qb8{H:Hp}{a b:Addr}{o:HO}(h:H a=some o)(h':H b=none):a≠b:=by
 intro e;subst e;rw[h] at h';cases h'
section
variable(P:Program)(w:World)
def ObjOk(H:Hp)(h:Heap)(a:Addr):HO->Prop
 | .lst xs=>xs.length<=sizeLine/\∃(its:List Value)(n:Nat),Vals xs its/\h.get? a=some { cls:=.type "list",data:=.seq its.toArray n }
 | .tup xs=>xs.length<=sizeLine/\∃ its:List Value,Vals xs its/\IsTup h a its.toArray
 | .dK kvs=>kvs.length<=sizeLine/\(a == sysModules)=false/\∃ vs,KV kvs vs/\h.DictOf (qe9 P w) a vs
 | .dT kvs=>kvs.length<=sizeLine/\(a == sysModules)=false/\∃ xs:List (List Key×Addr×Value),
     Paired (λ(p:List Key×V)(q:List Key×Addr×Value)=>p.1=q.1/\H q.2.1=some (.tup (p.1.map kV))/\RelV p.2 q.2.2) kvs xs /\
     ∃ o es b,h.get? a=some o/\o.ExactDict/\o.data=.dict es b/\es.toList=xs.map (entryOfKey (tupleKind (qe9 P w)))/\(xs.map (·.1)).Nodup
 | .set S n=>h.SetOf (intKind P w) a S n
 | .ins C dx fs=>H dx=some (.own a)/\fs.length<=1000/\dx≠a/\h.get? a=some (PySem.W.instObj C dx) /\
     ∃ mA,h.Ns1 dx mA/\(∀ f,RelO (fs.lookup f) (mA f))/\PySem.Within mA (fs.map (·.1))
 | .own _=>∃ o,h.get? a=some o
 | .xd fs=>∃ mA,h.Ns1 a mA/\∀ f,RelO (fs.lookup f) (mA f)
 | .rng lo hi=>∃ t u v,h.get? a=some { cls:=.type "range",data:=.fields #[.int lo t,.int hi u,.int 1 v] }
 | .frz o u=>h.get? a=some o/\ObjOk H h a u
 | .tbl ps=>h.get? a=some { cls:=.none,data:=.fields ps }
 | .met f x=>h.get? a=some (PySem.W.methodObj (.ref f) (.ref x))
 | .ext φ=>φ h/\(∃ o,h.get? a=some o)/\∀ h1 h2:Heap,φ h1->(∀ o,h1.get? a=some o->h2.get? a=some o)->φ h2
def HOk(H:Hp)(h:Heap):Prop:=∀ a o,H a=some o->ObjOk P w H h a o
end
section
variable{P:Program}{w:World}{H H':Hp}{h h':Heap}{a:Addr}{o:HO}
theorem ObjOk.lt(x:ObjOk P w H h a o):a < h.objs.size:=by
 cases o with
 | lst c=>obtain⟨_,_,_,_,e⟩:=x;exact zA8 e
 | tup c=>obtain⟨_,_,_,p⟩:=x;exact p.lt
 | dK b=>obtain⟨_,_,_,_,o,_,_,e,_⟩:=x;exact zA8 e
 | dT b=>obtain⟨_,_,_,_,o,_,_,e,_⟩:=x;exact zA8 e
 | set S n=>obtain⟨o,_,_,_,e,_⟩:=x;exact zA8 e
 | ins C g d=>obtain⟨_,_,_,e,_⟩:=x;exact zA8 e
 | own y=>obtain⟨_,e⟩:=x;exact zA8 e
 | xd d=>obtain⟨_,⟨_,_,_,e,_⟩,_⟩:=x;exact zA8 e
 | rng i j=>obtain⟨_,_,_,e⟩:=x;exact zA8 e
 | frz k u=>obtain⟨e,_⟩:=x;exact zA8 e
 | tbl l=>exact zA8 (show h.get? a=some _ from x)
 | met f y=>exact zA8 (show h.get? a=some _ from x)
 | ext φ=>obtain⟨_,⟨_,e⟩,_⟩:=x;exact zA8 e
theorem Paired.mapP{α β:Type}{F G:α->β->Prop}:∀{l₁:List α}{l₂:List β},Paired F l₁ l₂->(∀ a b,F a b->G a b)->Paired G l₁ l₂
 | _,_,.nil,_=>.nil
 | _,_,.cons r t,f=>.cons (f _ _ r) (Paired.mapP t f)
theorem ObjOk.stay(x:ObjOk P w H h a o)(k:∀ b u,(b=a∨H b=some (.own a))->h.get? b=some u->h'.get? b=some u)(E:∀ b,H b=some (.own a)->H' b=some (.own a))(F:∀ b xs,H b=some (.tup xs)->H' b=some (.tup xs)):ObjOk P w H' h' a o:=by
 induction o with
 | lst xs=>obtain⟨z,l,n,r,e⟩:=x;exact⟨z,l,n,r,k _ _ (.inl rfl) e⟩
 | tup xs=>obtain⟨z,l,r,g,e,c⟩:=x;exact⟨z,l,r,g,k _ _ (.inl rfl) e,c⟩
 | dK m=>obtain⟨z,y,G,r,g,i,j,e,c⟩:=x;exact⟨z,y,G,r,g,i,j,k _ _ (.inl rfl) e,c⟩
 | dT m =>
   obtain⟨z,y,xs,r,g,i,j,e,c⟩:=x;exact⟨z,y,xs,Paired.mapP r λ p q z=>⟨z.1,F _ _ z.2.1,z.2.2⟩,g,i,j,k _ _ (.inl rfl) e,c⟩
 | set S n=>obtain⟨g,i,j,t,e,c⟩:=x;exact⟨g,i,j,t,k _ _ (.inl rfl) e,c⟩
 | ins C L I =>
   obtain⟨d,z,J,e,s,⟨A,i,j,e2,c⟩,r⟩:=x;exact⟨E _ d,z,J,k _ _ (.inl rfl) e,s,⟨A,i,j,k _ _ (.inr d) e2,c⟩,r⟩
 | own y=>obtain⟨g,e⟩:=x;exact⟨g,k _ _ (.inl rfl) e⟩
 | xd I=>obtain⟨s,⟨A,i,j,e,c⟩,r⟩:=x;exact⟨s,⟨A,i,j,k _ _ (.inl rfl) e,c⟩,r⟩
 | rng M N=>obtain⟨t,u,v,e⟩:=x;exact⟨t,u,v,k _ _ (.inl rfl) e⟩
 | frz g u K=>obtain⟨e,q⟩:=x;exact⟨k _ _ (.inl rfl) e,K q⟩
 | tbl B =>
   have e:h.get? a=some { cls:=.none,data:=.fields B }:=x;show h'.get? a=some { cls:=.none,data:=.fields B };exact k a _ (.inl rfl) e
 | met f y =>
   have e:h.get? a=some (PySem.W.methodObj (.ref f) (.ref y)):=x;show h'.get? a=some (PySem.W.methodObj (.ref f) (.ref y));exact k a _ (.inl rfl) e
 | ext φ=>obtain⟨p,⟨o,e⟩,D⟩:=x;exact⟨D _ _ p λ o q=>k _ _ (.inl rfl) q,⟨o,k _ _ (.inl rfl) e⟩,D⟩
theorem HOk.lt(x:HOk P w H h)(e:H a=some o):a < h.objs.size:=(x a o e).lt
theorem HOk.fresh(x:HOk P w H h)(e:h.objs.size<=a):H a=none:=by
 cases q:H a with
 | none=>rfl
 | some u=>exact absurd (zAd (x.lt q) e) (Nat.lt_irrefl _)
theorem HOk.kept(x:HOk P w H h)(k:∀ b u,h.get? b=some u->h'.get? b=some u):HOk P w H h':=λ a o e =>
 (x a o e).stay (λ b u _ q=>k b u q) (λ _ q=>q) λ _ _ q=>q
theorem HOk.laid(x:HOk P w H h)(k:∀ b u,h.get? b=some u->h'.get? b=some u)(i:h.objs.size<=a)(d:ObjOk P w (upd H a o) h' a o):HOk P w (upd H a o) h':=λ b u e=>by
 have f:=x.fresh i;by_cases g:b=a
 . subst g;rw[qb2] at e;cases e;exact d
 rw[qb3 g] at e;exact(x b u e).stay (λ c v _ q=>k c v q) (λ c q=>by rw[qb3 (qb8 q f)];exact q) λ c j q=>by rw[qb3 (qb8 q f)];exact q
end
def Rd(H:Hp)(a:Addr)(u:HO):Prop:=H a=some u∨∃ o,H a=some (.frz o u)
theorem Rd.ok{P:Program}{w:World}{H:Hp}{h:Heap}{a:Addr}{u:HO}(r:Rd H a u)(x:HOk P w H h):ObjOk P w H h a u:=by
 rcases r with r | ⟨o,r⟩
 . exact x a u r
 obtain⟨_,q⟩:=x a _ r;exact q
def Mut:Option HO->Prop
 | some (.lst _)=>True
 | some (.dK _)=>True
 | some (.dT _)=>True
 | some (.set _ _)=>True
 | some (.ins _ _ _)=>True
 | some (.ext _)=>True
 | _=>False
section
variable{P:Program}{w:World}{H:Hp}{h h':Heap}{x e:Addr}{o':HO}
theorem HOk.write(o:HOk P w H h)(d:Mut (H x))(m:e=x∨H e=some (.own x))(k:∀ b u,b≠e->h.get? b=some u->h'.get? b=some u)(j:∃ u,h'.get? e=some u)(l:ObjOk P w (upd H x o') h' x o'):HOk P w (upd H x o') h':=λ b u q=>by
 have nown:∀ c y,H c=some (.own y)->c≠x:=λ c y r z=>by subst z;rw[r] at d;exact d
 have ntup:∀ c f,H c=some (.tup f)->c≠x:=λ c f r z=>by subst z;rw[r] at d;exact d
 by_cases g:b=x
 . subst g;rw[qb2] at q;cases q;exact l
 rw[qb3 g] at q;by_cases a:b=e
 . have n:H b=some (.own x):=by
     rcases m with z | z
     . exact absurd (a.trans z) g
     rw[a];exact z
   rw[q] at n;cases n;obtain⟨v,p⟩:=j;exact⟨v,by rw[a];exact p⟩
 refine(o b u q).stay (λ c v i r=>k c v ?_ r) (λ c r=>by rw[qb3 (nown c b r)];exact r) λ c f r=>by rw[qb3 (ntup c f r)];exact r
 rcases i with rfl | i
 . exact a
 rintro rfl;rcases m with z | z
 . exact nown c b i z
 rw[i] at z;cases z;exact g rfl
end
structure Un(fs ex:List Addr)(H H':Hp)(h h':Heap):Prop where
 keep:∀ b o,h.get? b=some o->H b=none->b∉fs->b∉ex->h'.get? b=some o
 slot:∀ b o,h.get? b=some o->H b=none->b∈fs->b∉ex->∃ sl,h'.get? b=some { o with slots:=sl }
 free:∀ b o,h.get? b=some o->H b=none->b∉ex->H' b=none
 there:∀ b o,h.get? b=some o->b∉ex->∃ o',h'.get? b=some o'
 tups:∀ b xs,H b=some (.tup xs)->H' b=some (.tup xs)
 frzs:∀ b o u,H b=some (.frz o u)->H' b=some (.frz o u)
 tbls:∀ b ps,H b=some (.tbl ps)->∃ more,H' b=some (.tbl (ps++more))
section
variable{fs ex:List Addr}{H H1 H2:Hp}{h h1 h2 h':Heap}{a x e:Addr}{o:HO}
theorem Un.any(u:Un fs ex H H1 h h1){b:Addr}{ob:Obj}(q:h.get? b=some ob)(n:H b=none)(a:b∉ex):∃ sl,h1.get? b=some { ob with slots:=sl }:=by
 by_cases c:b∈fs
 . exact u.slot b ob q n c a
 exact⟨ob.slots,u.keep b ob q n c a⟩
theorem Un.trans(a:Un fs ex H H1 h h1)(b:Un fs ex H1 H2 h1 h2):Un fs ex H H2 h h2 where
 keep:=λ c d q n g e=>b.keep c d (a.keep c d q n g e) (a.free c d q n e) g e
 slot:=λ c d q n g e=>by
   obtain⟨p,f⟩:=a.slot c d q n g e;obtain⟨j,e2⟩:=b.slot c _ f (a.free c d q n e) g e;exact⟨j,e2⟩
 free:=λ c d q n e=>by
   obtain⟨k,f⟩:=a.there c d q e;exact b.free c k f (a.free c d q n e) e
 there:=λ c d q e=>by
   obtain⟨k,f⟩:=a.there c d q e;exact b.there c k f e
 tups:=λ c i q=>b.tups c i (a.tups c i q)
 frzs:=λ c d i q=>b.frzs c d i (a.frzs c d i q)
 tbls:=λ c l q=>by
   obtain⟨m,f⟩:=a.tbls c l q;obtain⟨o,e2⟩:=b.tbls c _ f;exact⟨m++o,by rw[e2,Array.append_assoc]⟩
theorem Un.kept(k:∀ b u,h.get? b=some u->h'.get? b=some u):Un fs ex H H h h' :=
 ⟨λ b a q _ _ _=>k b a q,λ b a q _ _ _=>⟨a.slots,k b a q⟩,λ _ _ _ n _=>n,λ b a q _=>⟨a,k b a q⟩,λ _ _ q=>q,λ _ _ _ q=>q,λ _ c q=>⟨#[],by rw[q];simp⟩⟩
theorem Un.refl:Un fs ex H H h h:=Un.kept λ _ _ q=>q
theorem Un.laid(k:∀ b u,h.get? b=some u->h'.get? b=some u)(d:h.objs.size<=a)(c:H a=none):Un fs ex H (upd H a o) h h' where
 keep:=λ b u q _ _ _=>k b u q
 slot:=λ b u q _ _ _=>⟨u.slots,k b u q⟩
 free:=λ b u q n _=>by rw[qb3 (zAh (zAd (zA8 q) d))];exact n
 there:=λ b u q _=>⟨u,k b u q⟩
 tups:=λ b e q=>by rw[qb3 (qb8 q c)];exact q
 frzs:=λ b u e q=>by rw[qb3 (qb8 q c)];exact q
 tbls:=λ b f q=>⟨#[],by rw[qb3 (qb8 q c),q];simp⟩
theorem Un.write(c:Mut (H x))(j:e=x∨H e=some (.own x))(k:∀ b u,b≠e->h.get? b=some u->h'.get? b=some u)(d:∃ u,h'.get? e=some u):Un fs ex H (upd H x o) h h':=by
 have g:∀ b,H b=none->b≠x:=λ b n z=>by subst z;rw[n] at c;exact c
 have i:∀ b,H b=none->b≠e:=λ b n z=>by
   subst z;rcases j with r | r
   . exact g b n r
   rw[n] at r;cases r
 have f:∀ b u,H b=some u->¬ Mut (some u)->b≠x:=λ b u q l z=>by subst z;rw[q] at c;exact l c
 refine⟨λ b u q n _ _=>k b u (i b n) q,λ b u q n _ _=>⟨u.slots,k b u (i b n) q⟩,λ b u q n _=>by rw[qb3 (g b n)];exact n,λ b u q _=>?_,
   λ b m q=>by rw[qb3 (f b _ q λ z=>z)];exact q,λ b u m q=>by rw[qb3 (f b _ q λ z=>z)];exact q,λ b p q=>⟨#[],by rw[qb3 (f b _ q λ z=>z),q];simp⟩⟩
 by_cases a:b=e
 . subst a;exact d
 exact⟨u,k b u a q⟩
end
noncomputable def trk(h:Heap)(H:Hp):List Addr:=(List.range h.objs.size).filter λ a=>(H a).isSome
def Jm(h:Heap)(H:Hp):Heap:=PySem.W.hideAll h (trk h H)
theorem qao4(h:Heap)(H:Hp):(Jm h H).objs.size=h.objs.size:=PySem.W.hideAll_size _ _
theorem qaB1{h:Heap}{H:Hp}{b:Addr}{o:Obj}(e:h.get? b=some o)(n:H b=none):(Jm h H).get? b=some o :=
 PySem.W.hideAll_get _ e λ a=>by
   have q:(H b).isSome=true:=(zAs.mp a).2;rw[n] at q;simp at q
theorem qaJ1{h:Heap}{H:Hp}{b:Addr}{o:Obj}(e:(Jm h H).get? b=some o):h.get? b=some o/\H b=none:=by
 have a:h.get? b=some o:=PySem.W.of_hideAll (trk h H) e;refine⟨a,?_⟩;cases q:H b with
 | none=>rfl
 | some x =>
   have c:b∈trk h H:=zAs.mpr ⟨zAj.mpr (zA8 a),by simp[q]⟩;have z:(Jm h H).get? b=none:=PySem.W.hideAll_none (trk h H) c;rw[z] at e;cases e
structure Mod(K:PySem.W.Frag)(mg:Str->Option Value)(base:Heap):Prop where
 kin:K.In base
 glob:base.Ns mainGlobals mg
 blt:∃ mb,base.Ns builtinsNs mb/\∀ x:Str,x ≠ "__name__" -> mb x=bootBuiltins x
 nolimit:base.NoLimit
structure Cx where
 prog:Program
 w:World
 K:PySem.W.Frag
 mg:Str->Option Value
 base:Heap
 A:Around
 N:List Str
 s₀:Shared
 H₀:Hp
 env:Env
 outer:List Env
 stack:List Env
 ex:List Addr
 fn:Str->Bool
 calm:Bool
 pn:List (Addr×Obj)
 xe:Value->Shared->Prop
noncomputable def frs(l:List Env):List Addr:=l.filterMap (·.frame)
abbrev Cx.fs(X:Cx):List Addr:=frs X.outer
def Vis(sc:Scope)(x:Str):Prop:=sc.names.lookup x=some .local∨sc.names.lookup x=some .cell∨sc.names.lookup x=some .free
def Loc(sc:Scope)(x:Str):Prop:=sc.names.lookup x=some .local∨sc.names.lookup x=some .cell
def Look(env:Env)(h:Heap)(m:Str->Option Value)(x:Str)(u:Value):Prop :=
 (env.kindOf x=some .local/\m x=some u)∨((env.kindOf x=some .cell∨env.kindOf x=some .free)/\∃ c,env.cells.lookup x=some c/\h.IsCell c (some u))
structure Cx.Ok(X:Cx):Prop where
 mod:Mod X.K X.mg X.base
 kind:X.env.scope.kind=.function
 glob:X.env.globals=mainGlobals
 blt:X.env.builtins=builtinsNs
 above:X.s₀.heap.objs.size<=X.env.locals
 inj:∀ x y c,X.env.cells.lookup x=some c->X.env.cells.lookup y=some c->x=y
 has:∀ x,(X.env.kindOf x=some .cell∨X.env.kindOf x=some .free)->∃ c,X.env.cells.lookup x=some c
 cab:∀ x c,X.fn x=true->X.env.cells.lookup x=some c->X.s₀.heap.objs.size<=c
 hd:X.calm=true->X.A.handled=none
 frames:X.A.frames=some X.stack
 stk:X.stack=X.outer∨(X.stack=X.env::X.outer/\X.env.frame=some X.env.locals)
 exf:∀ b∈X.ex,b≠X.env.locals/\∀ x c,X.env.cells.lookup x=some c->c≠b
 bs:∀ b o,X.base.get? b=some o->X.s₀.heap.get? b=some o/\X.H₀ b=none
 bsz:X.base.objs.size<=X.s₀.heap.objs.size
 noex:∀ b o,X.base.get? b=some o->b∉X.ex
 exfs:∀ b∈X.ex,b∉X.fs
 funs:X.s₀.heap.FunFrames X.base X.outer
 frf:∀ b∈X.fs,X.H₀ b=none
structure Inv(X:Cx)(Gm:List (Addr×Obj))(σ:List (Option V))(H:Hp)(s:Shared):Prop where
 ok:X.Ok
 os:s.os=X.s₀.os
 bare:AllBare s.gens
 base:Un X.fs X.ex X.H₀ H X.s₀.heap s.heap
 loc:∃ m,s.heap.Ns X.env.locals m/\∀(i:Nat)(x:Str)(v:V),X.N[i]? = some x->σ[i]? = some (some v)->Vis X.env.scope x->∃ u,RelV v u/\Look X.env s.heap m x u
 cell:∀ x c,X.env.cells.lookup x=some c->∃ v,s.heap.IsCell c v
 free:H X.env.locals=none
 freeC:∀ x c,X.env.cells.lookup x=some c->H c=none
 pin:∀ p∈X.pn++Gm,s.heap.get? p.1=some p.2/\H p.1=none/\p.1≠X.env.locals/\p.1∉X.fs/\∀ v,p.2.data≠.cell v
 hok:HOk X.prog X.w H s.heap
 len:σ.length=X.N.length
section
variable{X:Cx}{Gm:List (Addr×Obj)}{σ:List (Option V)}{H H':Hp}{s:Shared}{h':Heap}
theorem Cx.Ok.nofr(a:X.Ok){b:Addr}{o:Obj}(e:X.base.get? b=some o):b∉X.fs:=λ c=>by
 have:=(a.funs.mem c).1
 rw[e] at this;cases this
theorem Inv.bs(I:Inv X Gm σ H s):∀ b o,X.base.get? b=some o->s.heap.get? b=some o/\H b=none:=λ b o e =>
 ⟨I.base.keep b o (I.ok.bs b o e).1 (I.ok.bs b o e).2 (I.ok.nofr e) (I.ok.noex b o e),I.base.free b o (I.ok.bs b o e).1 (I.ok.bs b o e).2 (I.ok.noex b o e)⟩
theorem Inv.bk(I:Inv X Gm σ H s):∀ b o,X.base.get? b=some o->s.heap.get? b=some o:=λ b o e=>(I.bs b o e).1
theorem Inv.mod(I:Inv X Gm σ H s):Mod X.K X.mg X.base:=I.ok.mod
theorem Inv.kIn(I:Inv X Gm σ H s):X.K.In s.heap:=I.ok.mod.kin.keeps I.bk
theorem Inv.fr(I:Inv X Gm σ H s):∃ m,Fr X.base X.env.locals s.heap m :=
 let ⟨m,hn,_⟩:=I.loc
 ⟨m,hn,I.bk,zAm I.ok.bsz I.ok.above⟩
theorem Inv.lt(I:Inv X Gm σ H s):X.env.locals < s.heap.objs.size:=let ⟨_,hn,_⟩:=I.loc;hn.lt
theorem Inv.sz(I:Inv X Gm σ H s):X.s₀.heap.objs.size<=s.heap.objs.size:=zAm I.ok.above (zBz I.lt)
theorem Inv.nofs(I:Inv X Gm σ H s){a:Addr}(h:s.heap.objs.size<=a):a∉X.fs:=λ b=>by
 obtain⟨_,o,c,_⟩:=I.ok.funs.mem b;exact absurd (zAd (zA8 c) (zAm I.sz h)) (Nat.lt_irrefl _)
theorem Inv.cne(I:Inv X Gm σ H s):∀ x c,X.env.cells.lookup x=some c->c≠X.env.locals:=λ x c e z=>by
 obtain⟨v,o,d,f⟩:=I.cell x c e;obtain⟨m,⟨g,h,i,a,b,_⟩,_⟩:=I.loc;rw[z,a] at d;cases d;rw[b] at f;cases f
theorem Inv.funs(I:Inv X Gm σ H s):s.heap.FunFrames X.base X.outer:=by
 have all:∀(l:List Env),(∀ b∈frs l,b∈X.fs)->X.s₀.heap.FunFrames X.base l->s.heap.FunFrames X.base l:=by
   intro l
   induction l with
   | nil=>intro _ _;trivial
   | cons g r h =>
     intro f i;obtain⟨j,⟨L,o,a,k,m,n⟩,p⟩:=i;have c:L∈X.fs:=f L (by unfold frs;rw[zBt,a];exact zAe);obtain⟨q,e⟩:=I.base.slot L o m (I.ok.frf L c) c λ z=>I.ok.exfs L z c
     exact⟨j,⟨L,_,a,k,e,n⟩,h (λ b d=>f b (by unfold frs;rw[zBt,a];exact zA6 _ d)) p⟩
 exact all X.outer (λ _ d=>d) I.ok.funs
theorem Inv.stack(I:Inv X Gm σ H s):s.heap.FunFrames X.base X.stack:=by
 rcases I.ok.stk with e | ⟨e,a⟩
 . rw[e];exact I.funs
 rw[e];obtain⟨m,b,_⟩:=I.loc;refine .cons (by rw[I.ok.kind];decide) a b ?_ I.funs;exact Heap.get?_none_of_le (zAm I.ok.bsz I.ok.above)
theorem Inv.stkSub(I:Inv X Gm σ H s):∀ b∈frs X.stack,b∈X.env.locals::X.fs:=λ b a=>by
 rcases I.ok.stk with e | ⟨e,c⟩
 . rw[e] at a;exact zA6 _ a
 rw[e] at a;unfold frs at a;rw[zBt,c] at a;exact a
theorem Inv.stkFree(I:Inv X Gm σ H s):∀ b∈frs X.stack,H b=none:=λ b a=>by
 rcases zAl.mp (I.stkSub b a) with e | a
 . rw[e];exact I.free
 obtain⟨_,o,c,_⟩:=I.ok.funs.mem a;exact I.base.free b o c (I.ok.frf b a) λ z=>I.ok.exfs b z a
theorem Inv.step{g':Array GenState}{d':Drawn}(I:Inv X Gm σ H s)(f:∀ b∈ch,(b∈X.ex∨X.s₀.heap.objs.size<=b)/\b≠X.env.locals/\(∀ x c,X.env.cells.lookup x=some c->c≠b)/\∀ p∈X.pn++Gm,p.1≠b)(keep:∀ b o,b≠X.env.locals->b∉X.fs->b∉ch->s.heap.get? b=some o->H b=none->h'.get? b=some o)(slot:∀ b o,b≠X.env.locals->b∈X.fs->b∉ch->s.heap.get? b=some o->H b=none->∃ sl,h'.get? b=some { o with slots:=sl })(free:∀ b o,b∉ch->s.heap.get? b=some o->H b=none->H' b=none)(there:∀ b o,b∉ch->s.heap.get? b=some o->∃ o',h'.get? b=some o')(tups:∀ b xs,H b=some (.tup xs)->H' b=some (.tup xs))(frzs:∀ b o u,H b=some (.frz o u)->H' b=some (.frz o u))(tbls:∀ b ps,H b=some (.tbl ps)->∃ more,H' b=some (.tbl (ps++more)))(ns:∀ m,s.heap.Ns X.env.locals m->h'.Ns X.env.locals m)(B:HOk X.prog X.w H' h')(K:AllBare g') :
   Inv X Gm σ H' { s with heap:=h',gens:=g',drawn:=d',toks:=t' }:=by
 have A:∀ b o,X.s₀.heap.get? b=some o->b≠X.env.locals:=λ b o e=>zAh (zAd (zA8 e) I.ok.above)
 have h:∀ b o,X.s₀.heap.get? b=some o->b∉X.ex->b∉ch:=λ b o e a t=>by
   rcases (f b t).1 with z | z
   . exact a z
   exact absurd (zAd (zA8 e) z) (Nat.lt_irrefl _)
 have cellK:∀ x c,X.env.cells.lookup x=some c->∀ v,s.heap.IsCell c v->h'.IsCell c v:=λ x c e v ⟨o,y,C⟩=>by
   have g:c∉ch:=λ z=>(f c z).2.2.1 x c e rfl
   by_cases E:c∈X.fs
   . obtain⟨sl,q⟩:=slot c o (I.cne x c e) E g y (I.freeC x c e)
     exact⟨_,q,C⟩
   exact⟨o,keep c o (I.cne x c e) E g y (I.freeC x c e),C⟩
 refine⟨I.ok,I.os,K,⟨λ b o e n t a=>?_,λ b o e n t a=>?_,λ b o e n a=>?_,λ b o e a=>?_,λ b xs e=>tups b xs (I.base.tups b xs e),λ b o xs e=>frzs b o xs (I.base.frzs b o xs e),λ b ps e=>?_⟩,?_,λ x c e=>?_,?_,λ x c e=>?_,λ p F=>?_,B,I.len⟩
 . exact keep b o (A b o e) t (h b o e a) (I.base.keep b o e n t a) (I.base.free b o e n a)
 . obtain⟨sl,j⟩:=I.base.slot b o e n t a
   obtain⟨D,e2⟩:=slot b _ (A b o e) t (h b o e a) j (I.base.free b o e n a);exact⟨D,e2⟩
 . obtain⟨o',j⟩:=I.base.there b o e a
   exact free b o' (h b o e a) j (I.base.free b o e n a)
 . obtain⟨o',j⟩:=I.base.there b o e a
   exact there b o' (h b o e a) j
 . obtain⟨L,j⟩:=I.base.tbls b ps e
   obtain⟨M,e2⟩:=tbls b _ j;exact⟨L++M,by rw[e2,Array.append_assoc]⟩
 . obtain⟨m,N,O⟩:=I.loc
   refine⟨m,ns m N,λ i x v j e2 P=>?_⟩;obtain⟨u,r,l⟩:=O i x v j e2 P;refine⟨u,r,?_⟩;rcases l with l | ⟨k,c,e,z⟩
   . exact .inl l
   exact .inr ⟨k,c,e,cellK x c e _ z⟩
 . obtain⟨v,z⟩:=I.cell x c e
   exact⟨v,cellK x c e v z⟩
 . obtain⟨m,⟨o,_,_,y,_⟩,_⟩:=I.loc
   exact free _ o (λ z=>(f _ z).2.1 rfl) y I.free
 . obtain⟨v,o,y,C⟩:=I.cell x c e
   exact free c o (λ z=>(f c z).2.2.1 x c e rfl) y (I.freeC x c e)
 obtain⟨e,n,G,J,d⟩:=I.pin p F;have g:p.1∉ch:=λ z=>(f p.1 z).2.2.2 p F rfl
 exact⟨keep p.1 p.2 G J g e n,free p.1 p.2 g e n,G,J,d⟩
theorem Inv.un(I:Inv X Gm σ H s)(u:Un X.fs [] H H' s.heap h')(c:HOk X.prog X.w H' h'):Inv X Gm σ H' { s with heap:=h',toks:=t' }:=by
 obtain⟨m,⟨o,l,p,h,r⟩,_⟩:=id I.loc;obtain⟨q,i⟩:=u.any h I.free (by simp);exact I.step (g':=s.gens) (d':=s.drawn) (ch:=[]) (λ _ z=>nomatch z) (λ b o _ d _ e n=>u.keep b o e n d (by simp)) (λ b o _ d _ e n=>u.slot b o e n d (by simp)) (λ b o _ e n=>u.free b o e n (by simp)) (λ b o _ e=>u.there b o e (by simp)) u.tups u.frzs u.tbls (λ t j=>by
   obtain⟨v,f,g,a,k⟩:=j;rw[h] at a;cases a;exact⟨_,f,g,i,k⟩) c I.bare
theorem Inv.call{g':Array GenState}{d':Drawn}(I:Inv X Gm σ H s)(u:Un (frs X.stack) ch H H' s.heap h')(g:HOk X.prog X.w H' h')(l:AllBare g')(d:∀ b∈ch,(b∈X.ex∨X.s₀.heap.objs.size<=b)/\b≠X.env.locals/\(∀ x c,X.env.cells.lookup x=some c->c≠b)/\∀ p∈X.pn++Gm,p.1≠b) :
   Inv X Gm σ H' { s with heap:=h',gens:=g',drawn:=d',toks:=t' }:=by
 obtain⟨m,⟨o,y,A,k,r⟩,_⟩:=id I.loc;obtain⟨B,h⟩:=u.any k I.free λ z=>(d _ z).2.1 rfl
 exact I.step (ch:=ch) d (λ b o h q a e n=>u.keep b o e n (λ z=>(zAl.mp (I.stkSub b z)).elim h q) a) (λ b o _ _ a e n=>u.any e n a) (λ b o a e n=>u.free b o e n a) (λ b o a e=>u.there b o e a) u.tups u.frzs u.tbls (λ C t=>by
   obtain⟨D,i,j,f,v⟩:=t;rw[k] at f;cases f;exact⟨_,i,j,h,v⟩) g l
theorem Inv.turned{it:Addr}(I:Inv X Gm σ H s)(k:∀ b o,b≠it->s.heap.get? b=some o->h'.get? b=some o)(g:H it=none)(f:it≠X.env.locals)(h1:it∈X.ex∨X.s₀.heap.objs.size<=it)(h2:∀ x c,X.env.cells.lookup x=some c->c≠it)(h:∀ p∈X.pn++Gm,p.1≠it):Inv X Gm σ H { s with heap:=h',toks:=t' }:=by
 have d:∀ b u,H b=some u->b≠it:=λ b u e z=>by rw[z,g] at e;cases e
 refine I.step (g':=s.gens) (d':=s.drawn) (ch:=[it]) (λ b i=>?_) (λ b o _ _ a e _=>k b o (λ z=>a (by simp[z])) e) (λ b o _ _ a e _=>⟨o.slots,k b o (λ z=>a (by simp[z])) e⟩) (λ _ _ _ _ n=>n)
   (λ b o a e=>⟨o,k b o (λ z=>a (by simp[z])) e⟩) (λ _ _ e=>e) (λ _ _ _ e=>e) (λ b y e=>⟨#[],by rw[e];simp⟩) (λ m j=>?_) (λ b u e=>?_) I.bare
 . have e:b=it:=by simpa using i
   subst e;exact⟨h1,f,h2,h⟩
 . obtain⟨o,l,t,w,r⟩:=j
   exact⟨o,l,t,k _ o (Ne.symm f) w,r⟩
 refine(I.hok b u e).stay (λ c v a q=>k c v ?_ q) (λ _ q=>q) λ _ _ q=>q
 rcases a with z | z
 . rw[z];exact d b u e
 exact d c _ z
theorem Inv.tok(I:Inv X Gm σ H s)(t:Nat):Inv X Gm σ H { s with toks:=t }:=I.un (h':=s.heap) (t':=t) Un.refl I.hok
theorem Inv.kept(I:Inv X Gm σ H s)(k:∀ b u,s.heap.get? b=some u->h'.get? b=some u):Inv X Gm σ H { s with heap:=h',toks:=t' }:=I.un (Un.kept k) (I.hok.kept k)
theorem Inv.laid{a:Addr}{o:HO}(I:Inv X Gm σ H s)(k:∀ b u,s.heap.get? b=some u->h'.get? b=some u)(c:s.heap.objs.size<=a)(d:ObjOk X.prog X.w (upd H a o) h' a o) :
   Inv X Gm σ (upd H a o) { s with heap:=h',toks:=t' }:=I.un (Un.laid k c (I.hok.fresh c)) (I.hok.laid k c d)
theorem Inv.write{x e:Addr}{o:HO}(I:Inv X Gm σ H s)(d:Mut (H x))(f:e=x∨H e=some (.own x))(k:∀ b u,b≠e->s.heap.get? b=some u->h'.get? b=some u)(a:∃ u,h'.get? e=some u)(c:ObjOk X.prog X.w (upd H x o) h' x o):Inv X Gm σ (upd H x o) { s with heap:=h',toks:=t' }:=I.un (Un.write d f k a) (I.hok.write d f k a c)
theorem Inv.weak{σ':List (Option V)}(I:Inv X Gm σ H s)(a:σ'.length=σ.length)(w:∀(i:Nat) v,σ'[i]? = some (some v)->σ[i]? = some (some v)):Inv X Gm σ' H s :=
 ⟨I.ok,I.os,I.bare,I.base,let ⟨m,hn,hl'⟩:=I.loc;⟨m,hn,λ i x v b e2 c=>hl' i x v b (w i v e2) c⟩,I.cell,I.free,I.freeC,I.pin,I.hok,a.trans I.len⟩
theorem Inv.pins_of{pins':List (Addr×Obj)}(I:Inv X Gm σ H s)(h:∀ p∈pins',s.heap.get? p.1=some p.2/\H p.1=none/\p.1≠X.env.locals/\p.1∉X.fs/\∀ v,p.2.data≠.cell v):Inv X pins' σ H s :=
 ⟨I.ok,I.os,I.bare,I.base,I.loc,I.cell,I.free,I.freeC,λ p a=>(zAa.mp a).elim (λ z=>I.pin p (List.mem_append_left _ z)) (h p),I.hok,I.len⟩
theorem qS0(c:N.Nodup){j:Nat}{x:Str}(a:N[i]? = some x)(b:N[j]? = some x):i=j:=by
 obtain⟨e,d⟩:=zA5.mp a;obtain⟨f,e2⟩:=zA5.mp b;exact(List.getElem_inj c).mp (d.trans e2.symm)
theorem qam4{A:Around}{E:Value->Shared->Prop}{x:Str}{v:V}{u:Value}{Q:Unit->Shared->Prop}(I:Inv X Gm σ H s)(hN:X.N.Nodup)(hi:X.N[i]? = some x)(t:Loc X.env.scope x)(r:RelV v u)(h:∀ s',Inv X Gm (σ.set i (some v)) H s'->(∃ a,Heap.SameBut a s.heap s'.heap/\(a=X.env.locals∨X.env.cells.lookup x=some a))->Q () s')(hf:X.fn x=true∨X.env.scope.names.lookup x=some .local:=by first | exact .inl rfl | exact .inr rfl | assumption):wpAny M A (storeName X.env x u) Q E s:=by
 obtain⟨m,W,hl⟩:=id I.loc;have K:(X.env.scope.kind == .class||(X.env.scope.kind == .module&&X.env.locals != X.env.globals))=false:=by rw[I.ok.kind];rfl
 have hiσ:i < σ.length:=by rw[I.len];exact(zA5.mp hi).1
 have C:=I.cne;have tracked:∀{a:Addr}{J:Heap},(∃ o,s.heap.get? a=some o/\H a=none)->Heap.SameBut a s.heap J->HOk X.prog X.w H J:=λ{a J} ha f b ob e=>by
   obtain⟨_,_,hfree⟩:=ha;refine(I.hok b ob e).stay (λ c S l q=>(f.2 c ?_).trans q) (λ _ q=>q) λ _ _ q=>q
   rintro rfl;rcases l with rfl | l
   . rw[hfree] at e;cases e
   rw[hfree] at l;cases l
 rcases t with B | B
 . refine wpAny_storeName_local B W (λ J Y f=>?_) K
   obtain⟨oL,_,_,Z,_⟩:=id W;refine h _ ⟨I.ok,I.os,I.bare,⟨λ b o e n D t=>?_,λ b o e n D t=>?_,I.base.free,λ b o e t=>?_,I.base.tups,I.base.frzs,I.base.tbls⟩,⟨_,Y,λ j y v' g e2 e3=>?_⟩,λ y c e=>?_,I.free,I.freeC,λ p hp=>?_,tracked ⟨oL,Z,I.free⟩ f,by simpa using I.len⟩ ⟨_,f,.inl rfl⟩
   . exact(f.2 b (zAh (zAd (zA8 e) I.ok.above))).trans (I.base.keep b o e n D t)
   . obtain⟨sl,g⟩:=I.base.slot b o e n D t
     exact⟨sl,(f.2 b (zAh (zAd (zA8 e) I.ok.above))).trans g⟩
   . obtain⟨o',g⟩:=I.base.there b o e t
     exact⟨o',(f.2 b (zAh (zAd (zA8 e) I.ok.above))).trans g⟩
   . by_cases F:j=i
     . subst F
       rw[hi] at g;cases g;rw[zBo hiσ] at e2;cases e2;exact⟨u,r,.inl ⟨B,by simp⟩⟩
     rw[zBq (Ne.symm F)] at e2;obtain⟨u',r',q⟩:=hl j y v' g e2 e3;refine⟨u',r',?_⟩;rcases q with⟨k,e⟩ | ⟨k,c,e,z⟩
     . refine .inl ⟨k,?_⟩
       have:y≠x:=λ e=>F (qS0 hN g (e ▸ hi))
       simp[this,e]
     exact .inr ⟨k,c,e,z.sameBut f (C y c e)⟩
   . obtain⟨S,z⟩:=I.cell y c e
     exact⟨S,z.sameBut f (C y c e)⟩
   obtain⟨e,n,T,nf,d⟩:=I.pin p hp;exact⟨(f.2 p.1 T).trans e,n,T,nf,d⟩
 have G:X.fn x=true:=by
   rcases hf with z | z
   . exact z
   rw[z] at B;cases B
 obtain⟨c,l⟩:=I.ok.has x (.inl B);obtain⟨S,z⟩:=I.cell x c l;refine wpAny_storeName_cell I.ok.kind B l z (λ J L f=>?_);obtain⟨oc,O,P⟩:=id z;refine h { s with heap:=J } ⟨I.ok,I.os,I.bare,⟨λ b o e n D t=>?_,λ b o e n D t=>?_,I.base.free,λ b o e t=>?_,I.base.tups,I.base.frzs,I.base.tbls⟩,⟨m,W.sameBut f (Ne.symm (C x c l)),λ j y v' g e2 e3=>?_⟩,λ y U e=>?_,I.free,I.freeC,λ p hp=>?_,tracked ⟨oc,O,I.freeC x c l⟩ f,by simpa using I.len⟩ ⟨c,f,.inr l⟩
 . exact(f.2 b (zAh (zAd (zA8 e) (I.ok.cab x c G l)))).trans (I.base.keep b o e n D t)
 . obtain⟨sl,g⟩:=I.base.slot b o e n D t
   exact⟨sl,(f.2 b (zAh (zAd (zA8 e) (I.ok.cab x c G l)))).trans g⟩
 . obtain⟨o',g⟩:=I.base.there b o e t
   exact⟨o',(f.2 b (zAh (zAd (zA8 e) (I.ok.cab x c G l)))).trans g⟩
 . by_cases F:j=i
   . subst F
     rw[hi] at g;cases g;rw[zBo hiσ] at e2;cases e2;exact⟨u,r,.inr ⟨.inl B,c,l,L⟩⟩
   rw[zBq (Ne.symm F)] at e2;obtain⟨u',r',q⟩:=hl j y v' g e2 e3;refine⟨u',r',?_⟩;rcases q with q | ⟨k,U,e,z'⟩
   . exact .inl q
   refine .inr ⟨k,U,e,z'.sameBut f ?_⟩;rintro rfl;exact F (qS0 hN g (I.ok.inj _ _ _ e l ▸ hi))
 . by_cases R:U=c
   . subst R;exact⟨_,L⟩
   obtain⟨w2,z2⟩:=I.cell y U e;exact⟨w2,z2.sameBut f R⟩
 obtain⟨e,n,T,nf,d⟩:=I.pin p hp;refine⟨(f.2 p.1 ?_).trans e,n,T,nf,d⟩;intro q;rw[q,O] at e;have q':oc=p.2:=Option.some.inj e;exact d S (by rw[<- q'];exact P)
theorem qG4{A:Around}{E:Value->Shared->Prop}{x:Str}{v:V}{u:Value}{Q:Unit->Shared->Prop}(I:Inv X Gm σ H s)(a:X.N.Nodup)(hi:X.N[i]? = some x)(b:Loc X.env.scope x)(r:RelV v u)(h:∀ s',Inv X Gm (σ.set i (some v)) H s'->Q () s')(c:X.fn x=true∨X.env.scope.names.lookup x=some .local:=by first | exact .inl rfl | exact .inr rfl | assumption):wpAny M A (storeName X.env x u) Q E s :=
 qam4 I a hi b r (λ s' I' _=>h s' I') c
theorem Inv.call'{s':Shared}(I:Inv X Gm σ H s)(i:s'.os=s.os)(u:Un (frs X.stack) ch H H' s.heap s'.heap)(a:HOk X.prog X.w H' s'.heap)(j:AllBare s'.gens)(d:∀ b∈ch,(b∈X.ex∨X.s₀.heap.objs.size<=b)/\b≠X.env.locals/\(∀ x c,X.env.cells.lookup x=some c->c≠b)/\∀ p∈X.pn++Gm,p.1≠b):Inv X Gm σ H' s':=by
 obtain⟨l,f,g,h,k⟩:=s';have e:k=s.os:=i;subst e;exact I.call (g':=f) (t':=h) (d':=g) u a j d
end
abbrev XK:=Value->Option Addr->Hp->Prop
abbrev St:=List (Option V)
abbrev VK:=V->Hp->Prop
abbrev TE:=St->Hp->VK->Prop
abbrev TT:=St->Hp->(Bool->Hp->Prop)->Prop
abbrev TA:=St->Hp->(List V->Hp->Prop)->Prop
structure Bo where
 nx:St->Hp->Prop
 rt:VK
 bk:St->Hp->Prop:=λ _ _=>False
 ct:St->Hp->Prop:=λ _ _=>False
abbrev TS:=Bo->St->Hp->Prop
def EP(X:Cx)(Gm:List (Addr×Obj))(σ:St)(Q:VK)(u:Value)(s':Shared):Prop:=∃ v H',Inv X Gm σ H' s'/\RelV v u/\Q v H'
def TP(X:Cx)(Gm:List (Addr×Obj))(σ:St)(Q:Bool->Hp->Prop)(b:Bool)(s':Shared):Prop:=∃ H',Inv X Gm σ H' s'/\Q b H'
def AP(X:Cx)(Gm:List (Addr×Obj))(σ:St)(Q:List V->Hp->Prop)(us:List Value)(s':Shared):Prop:=∃ vs H',Inv X Gm σ H' s'/\Vals vs us/\Q vs H'
def SP(X:Cx)(Gm:List (Addr×Obj))(D:Bo)(f:Flow)(s':Shared):Prop :=
 match f with
 | .next=>∃ σ' H',Inv X Gm σ' H' s'/\D.nx σ' H'
 | .brk=>∃ σ' H',Inv X Gm σ' H' s'/\D.bk σ' H'
 | .cont=>∃ σ' H',Inv X Gm σ' H' s'/\D.ct σ' H'
 | .ret u=>∃ v σ' H',Inv X Gm σ' H' s'/\RelV v u/\D.rt v H'
def PE(X:Cx)(e:Expr)(t:TE):Prop :=
 ∀(Gm:List (Addr×Obj))(s:Shared)(σ:St)(H:Hp)(Q:VK),Inv X Gm σ H s->t σ H Q->wpAny (model X.prog X.w) X.A (eval e X.env) (EP X Gm σ Q) X.xe s
def PT(X:Cx)(e:Expr)(t:TT):Prop :=
 ∀(Gm:List (Addr×Obj))(s:Shared)(σ:St)(H:Hp)(Q:Bool->Hp->Prop),Inv X Gm σ H s->t σ H Q->wpAny (model X.prog X.w) X.A (isTrue e X.env (eval e X.env)) (TP X Gm σ Q) X.xe s
def PW(X:Cx)(e:Expr)(t:TT):Prop :=
 ∀(whole:Sem Value)(Gm:List (Addr×Obj))(s:Shared)(σ:St)(H:Hp)(Q:Bool->Hp->Prop),Inv X Gm σ H s->t σ H Q->wpAny (model X.prog X.w) X.A (isTrue e X.env whole) (TP X Gm σ Q) X.xe s
theorem PW.pt{X:Cx}{e:Expr}{t:TT}(h:PW X e t):PT X e t:=h _
def PA(X:Cx)(es:List Expr)(t:TA):Prop :=
 ∀(pos:Pos)(Gm:List (Addr×Obj))(s:Shared)(σ:St)(H:Hp)(Q:List V->Hp->Prop),Inv X Gm σ H s->t σ H Q->wpAny (model X.prog X.w) X.A (spliced (backTo pos (starEach es X.env))) (AP X Gm σ Q) X.xe s
def PS(X:Cx)(st:Stmt)(t:TS):Prop :=
 ∀(Gm:List (Addr×Obj))(s:Shared)(σ:St)(H:Hp)(D:Bo),Inv X Gm σ H s->t D σ H->wpAny (model X.prog X.w) X.A (exec st X.env) (SP X Gm D) X.xe s
def PSs(X:Cx)(st:List Stmt)(t:TS):Prop :=
 ∀(Gm:List (Addr×Obj))(s:Shared)(σ:St)(H:Hp)(D:Bo),Inv X Gm σ H s->t D σ H->wpAny (model X.prog X.w) X.A (execs st X.env) (SP X Gm D) X.xe s
theorem thn{α:Type}{t:Sem α}{Q Q':α->Shared->Prop}{A:Around}{E:Value->Shared->Prop}{s:Shared}(h:wpAny M A t Q E s)(b:∀ a s,Q a s->Q' a s):wpAny M A t Q' E s:=wpAny_mono h b λ _ _ x=>x
section
variable{X:Cx}
theorem bin{a b:Expr}{ta tb:TE}(d:PE X a ta)(e:PE X b tb){Gm:List (Addr×Obj)}{s:Shared}{σ:St}{H:Hp}{R:V->V->Hp->Prop}(I:Inv X Gm σ H s)(h:ta σ H λ x H1=>tb σ H1 λ y H2=>R x y H2){α:Type}{Q:α->Shared->Prop}{f:Value->Value->Sem α}(g:∀ v u s2 x y H2,Inv X Gm σ H2 s2->RelV x v->RelV y u->R x y H2->wpAny (model X.prog X.w) X.A (f v u) Q X.xe s2) :
   wpAny (model X.prog X.w) X.A (eval a X.env) (λ v s₁=>wpAny (model X.prog X.w) X.A (eval b X.env) (λ u s₂=>wpAny (model X.prog X.w) X.A (f v u) Q X.xe s₂) X.xe s₁) X.xe s:=by
 refine thn (d Gm s σ H _ I h) λ v i c=>?_
 obtain⟨x,H1,I1,j,k⟩:=c;refine thn (e Gm i σ H1 _ I1 k) λ u s2 c=>?_
 obtain⟨y,H2,I2,l,q2⟩:=c;exact g v u s2 x y H2 I2 j l q2
def Ir(i:Nat):TE:=λ σ H Q=>∃ v,σ[i]? = some (some v)/\Q v H
def tC(v:V):TE:=λ _ H Q=>Q v H
theorem qu9{x:Str}{pos:Pos}(f:X.N[i]? = some x)(g:Vis X.env.scope x)(b:(x == ("__debug__" : Str))=false:=by decide)(d:(x == ("__classdict__" : Str))=false:=by decide):PE X (.Name x pos) (Ir i):=by
 intro Gm s σ H Q I h;obtain⟨v,e,h⟩:=h;obtain⟨m,j,k⟩:=I.loc;obtain⟨u,r,l⟩:=k i x v f e g;have fin:EP X Gm σ Q u s:=⟨v,H,I,r,h⟩
 rcases l with⟨a,hm⟩ | ⟨a,c,hc,hcell⟩
 . exact wpAny_Name (wpAny_loadName_local I.ok.kind a j hm fin) b
 rcases a with a | a
 . exact wpAny_Name (wpAny_loadName_cell I.ok.kind a hc hcell fin) b
 exact wpAny_Name (wpAny_loadName_free I.ok.kind a hc hcell fin d) b
theorem qR2{i j pos}:PE X (.Constant (.int i) j pos) (tC (.int i)):=λ _ _ _ H _ I h=>wpAny_Constant_int ⟨.int i,H,I.tok _,⟨_,rfl⟩,h⟩
theorem pe_bl{b j pos}:PE X (.Constant (.bool b) j pos) (tC (.bl b)):=λ _ _ _ H _ I h=>Constant_bool ⟨.bl b,H,I,rfl,h⟩
theorem qaR0{j pos}:PE X (.Constant .none j pos) (tC .non):=λ _ _ _ H _ I h=>Constant_none ⟨.non,H,I,rfl,h⟩
theorem qaQ7{x j pos}:PE X (.Constant (.str x) j pos) (tC (.str x)):=λ _ _ _ H _ I h=>Calls.Constant_str ⟨.str x,H,I.tok _,⟨_,rfl⟩,h⟩
def Gl(X:Cx)(x:Str):Prop:=X.env.kindOf x=some .globalImplicit
theorem qB4{E:Value->Shared->Prop}{Gm:List (Addr×Obj)}{s:Shared}{σ:St}{H:Hp}{x:Str}{u:Value}{pos:Pos}{Q:Value->Shared->Prop}(I:Inv X Gm σ H s)(a:Gl X x)(hm:X.mg x=some u)(h:Q u s)(b:(x == ("__debug__" : Str))=false:=by decide):wpAny (model X.prog X.w) X.A (eval (.Name x pos) X.env) Q E s :=
 Calls.Name_function_global I.ok.kind a (Calls.loadGlobal_global (by rw[I.ok.glob];exact I.mod.glob.keeps I.bk) hm h) b
theorem qab0{E:Value->Shared->Prop}{Gm:List (Addr×Obj)}{s:Shared}{σ:St}{H:Hp}{x:Str}{u:Value}{pos:Pos}{Q:Value->Shared->Prop}(I:Inv X Gm σ H s)(a:Gl X x)(hm:X.mg x=none)(b:bootBuiltins x=some u)(h:Q u s)(c:x ≠ "__name__" := by decide)(d:(x == ("__debug__" : Str))=false:=by decide):wpAny (model X.prog X.w) X.A (eval (.Name x pos) X.env) Q E s:=by
 obtain⟨g,e,f⟩:=I.mod.blt;exact Calls.Name_function_global I.ok.kind a (Calls.loadGlobal_builtin (by rw[I.ok.glob];exact I.mod.glob.keeps I.bk) hm (by rw[I.ok.blt];exact e.keeps I.bk) ((f x c).trans b) h) d
theorem qaf3{x:Str}{v:V}{u:Value}{pos:Pos}(a:Gl X x)(hm:X.mg x=some u)(r:RelV v u)(b:(x == ("__debug__" : Str))=false:=by decide):PE X (.Name x pos) (tC v) :=
 λ _ _ _ H _ I h=>qB4 I a hm ⟨v,H,I,r,h⟩ b
theorem qaI1{x:Str}{v:V}{u:Value}{pos:Pos}(a:Gl X x)(hm:X.mg x=none)(b:bootBuiltins x=some u)(r:RelV v u)(c:x ≠ "__name__" := by decide)(d:(x == ("__debug__" : Str))=false:=by decide):PE X (.Name x pos) (tC v) :=
 λ _ _ _ H _ I h=>qab0 I a hm b ⟨v,H,I,r,h⟩ c d
variable{a b:Expr}{ta tb:TE}{pos:Pos}
def tB(t:TE):TT:=λ σ H Q=>t σ H λ x H1=>∃ c,x=.bl c/\Q c H1
theorem qaG2{e:Expr}{t:TE}(h:PE X e t)(b:∀ whole,isTrue e X.env whole=(do let v <- whole;standAt e.pos;holding [v] (truthy v)):=by intro _;rfl):PT X e (tB t):=by
 intro Gm s σ H Q I c;refine isTrue_plain (thn (h Gm s σ H _ I c) λ v i a=>?_) (b _);obtain⟨x,H1,I1,f,g⟩:=a;obtain⟨d,rfl,q⟩:=g;cases f;exact wpAny_truthy_bool ⟨H1,I1,q⟩
variable{tA tB':TT}{rest:List Expr}
def tAnd(t u:TT):TT:=λ σ H Q=>t σ H λ c H1=>if c=true then u σ H1 Q else Q false H1
def tOr(t u:TT):TT:=λ σ H Q=>t σ H λ c H1=>if c=true then Q true H1 else u σ H1 Q
def tNot(t:TT):TT:=λ σ H Q=>t σ H λ c H1=>Q (!c) H1
theorem qaG1(b:PT X a tA):PW X (.BoolOp .And [a] pos) tA:=by
 intro d Gm s σ H Q I h;refine isTrue_and (thn (b Gm s σ H Q I h) λ c f e=>?_);cases c with
 | true=>exact isTrue_and_nil e
 | false=>exact e
theorem qaP5(b:PT X a tA):PW X (.BoolOp .Or [a] pos) tA:=by
 intro d Gm s σ H Q I h;refine isTrue_or (thn (b Gm s σ H Q I h) λ c f e=>?_);cases c with
 | false=>exact isTrue_or_nil e
 | true=>exact e
theorem qaP6(f:PT X a tA)(g:PW X (.BoolOp .And (b::rest) pos) tB'):PW X (.BoolOp .And (a::b::rest) pos) (tAnd tA tB'):=by
 intro i Gm s σ H Q I h;refine isTrue_and (thn (f Gm s σ H _ I h) λ c j d=>?_);obtain⟨H1,I1,e⟩:=d;cases c with
 | true=>exact g i Gm j σ H1 Q I1 e
 | false=>exact⟨H1,I1,e⟩
theorem pw_or(f:PT X a tA)(g:PW X (.BoolOp .Or (b::rest) pos) tB'):PW X (.BoolOp .Or (a::b::rest) pos) (tOr tA tB'):=by
 intro i Gm s σ H Q I h;refine isTrue_or (thn (f Gm s σ H _ I h) λ c j d=>?_);obtain⟨H1,I1,e⟩:=d;cases c with
 | true=>exact⟨H1,I1,e⟩
 | false=>exact g i Gm j σ H1 Q I1 e
theorem qaP7(b:PT X a tA):PT X (.UnaryOp .Not a pos) (tNot tA):=by
 intro Gm s σ H Q I h;exact isTrue_not (b Gm s σ H (λ c H1=>Q (!c) H1) I h)
def tAndV(ta tb:TE):TE:=λ σ H Q=>ta σ H λ x H1=>∃ c,x=.bl c/\if c=true then tb σ H1 Q else Q (.bl false) H1
def tOrV(ta tb:TE):TE:=λ σ H Q=>ta σ H λ x H1=>∃ c,x=.bl c/\if c=true then Q (.bl true) H1 else tb σ H1 Q
def tNotV(ta:TE):TE:=λ σ H Q=>ta σ H λ x H1=>∃ c,x=.bl c/\Q (.bl (!c)) H1
theorem qaH5{op}{t:TE}(h:PE X a t):PE X (.BoolOp op [a] pos) t:=λ Gm s σ H Q I b=>BoolOp_one (h Gm s σ H Q I b)
theorem qaI2(f:PE X a ta)(g:PE X (.BoolOp .And (b::rest) pos) tb):PE X (.BoolOp .And (a::b::rest) pos) (tAndV ta tb):=by
 intro Gm s σ H Q I h;refine BoolOp_and (thn (f Gm s σ H _ I h) λ v i e=>?_);obtain⟨x,H1,I1,j,d⟩:=e;obtain⟨c,rfl,d⟩:=d;cases j;refine wpAny_truthy_bool ?_;cases c with
 | true=>exact g Gm i σ H1 Q I1 d
 | false=>exact⟨.bl false,H1,I1,rfl,d⟩
theorem pe_or(f:PE X a ta)(g:PE X (.BoolOp .Or (b::rest) pos) tb):PE X (.BoolOp .Or (a::b::rest) pos) (tOrV ta tb):=by
 intro Gm s σ H Q I h;refine BoolOp_or (thn (f Gm s σ H _ I h) λ v i e=>?_);obtain⟨x,H1,I1,j,d⟩:=e;obtain⟨c,rfl,d⟩:=d;cases j;refine wpAny_truthy_bool ?_;cases c with
 | false=>exact g Gm i σ H1 Q I1 d
 | true=>exact⟨.bl true,H1,I1,rfl,d⟩
theorem qaQ9(e:PE X a ta):PE X (.UnaryOp .Not a pos) (tNotV ta):=by
 intro Gm s σ H Q I h;refine UnaryOp_ (thn (e Gm s σ H _ I h) λ v g b=>?_);obtain⟨x,H1,I1,f,d⟩:=b;obtain⟨c,rfl,d⟩:=d;cases f;exact not_of (wpAny_truthy_bool ⟨.bl (!c),H1,I1,rfl,d⟩)
def tIf(t:TT)(ta tb:TE):TE:=λ σ H Q=>t σ H λ c H1=>if c=true then ta σ H1 Q else tb σ H1 Q
theorem qay2{c:Expr}(i:PT X c tA)(j:PE X a ta)(k:PE X b tb):PE X (.IfExp c a b pos) (tIf tA ta tb):=by
 intro Gm s σ H Q I h;refine wpAny_IfExp (thn (i Gm s σ H _ I h) λ d f e=>?_);obtain⟨H1,I1,g⟩:=e;cases d with
 | true=>exact j Gm f σ H1 Q I1 g
 | false=>exact k Gm f σ H1 Q I1 g
end
def SqL(K:PySem.W.Frag)(H:Hp)(a:Addr)(xs:List V):Prop :=
 Rd H a (.lst xs) ∨
   ∃(o:Obj)(its:Array Value)(n:Nat),K.lookup a=some o/\o.cls=.type "list" /\ o.dict=none/\o.data=.seq its n/\its.size<=sizeLine/\Vals xs its.toList
def SqT(K:PySem.W.Frag)(H:Hp)(a:Addr)(xs:List V):Prop :=
 Rd H a (.tup xs) ∨
   ∃(o:Obj)(its:Array Value)(n:Nat),K.lookup a=some o/\o.cls=.type "tuple" /\ o.data=.seq its n/\its.size<=sizeLine/\Vals xs its.toList
noncomputable def absV:Value->Option V
 | .none=>some .non
 | .bool b=>some (.bl b)
 | .int i _=>some (.int i)
 | .str x _=>some (.str x)
 | .bytes b _=>some (.byt b)
 | .float b _=>some (.flt b)
 | .ref a=>some (.ref a)
 | .type n=>some (.ty n)
 | _=>none
theorem RelV.abs{x:V}{u:Value}(r:RelV x u):absV u=some x:=by
 cases x with
 | non=>cases r;rfl
 | bl _=>cases r;rfl
 | int _=>obtain⟨t,rfl⟩:=r;rfl
 | str _=>obtain⟨t,rfl⟩:=r;rfl
 | byt _=>obtain⟨t,rfl⟩:=r;rfl
 | flt _=>obtain⟨t,rfl⟩:=r;rfl
 | ref _=>cases r;rfl
 | ty _=>cases r;rfl
theorem RelV.inj{x y:V}{u:Value}(r:RelV x u)(q:RelV y u):x=y:=Option.some.inj (r.abs.symm.trans q.abs)
theorem Vals.inj:∀{xs ys:List V}{us:List Value},Vals xs us->Vals ys us->xs=ys
 | _,_,_,.nil,.nil=>rfl
 | _,_,_,.cons r t,.cons r' t'=>by rw[r.inj r',Vals.inj t t']
section
variable{X:Cx}{Gm:List (Addr×Obj)}{σ:St}{H:Hp}{s:Shared}{a:Addr}{xs ys:List V}
theorem SqL.of{K:PySem.W.Frag}(h:H a=some (.lst xs)):SqL K H a xs:=.inl (.inl h)
theorem Inv.list(I:Inv X Gm σ H s)(h:SqL X.K H a xs):∃ its:List Value,Vals xs its/\PlainL s.heap a its.toArray/\xs.length<=sizeLine:=by
 rcases h with h | ⟨o,its,n,b,c,d,f,g,r⟩
 . obtain⟨z,its,n,r,e⟩:=h.ok I.hok
   exact⟨its,r,⟨_,n,e,rfl,rfl,rfl⟩,z⟩
 refine⟨its.toList,r,⟨o,n,I.kIn a o b,c,d,by simpa using f⟩,?_⟩;have e:=r.length;simp only[Array.length_toList] at e;lia
theorem Inv.tuple(I:Inv X Gm σ H s)(h:SqT X.K H a xs):∃ its:List Value,Vals xs its/\IsTup s.heap a its.toArray/\xs.length<=sizeLine:=by
 rcases h with h | ⟨o,its,n,b,c,d,f,r⟩
 . obtain⟨z,its,r,p⟩:=h.ok I.hok
   exact⟨its,r,p,z⟩
 refine⟨its.toList,r,⟨o,I.kIn a o b,c,n,by simpa using d⟩,?_⟩;have e:=r.length;simp only[Array.length_toList] at e;lia
theorem Inv.list_inj(I:Inv X Gm σ H s)(h:SqL X.K H a xs)(h':SqL X.K H a ys):xs=ys:=by
 obtain⟨b,r,⟨o,n,e,_,_,d⟩,_⟩:=I.list h;obtain⟨its',g,⟨j,k,c,_,_,f⟩,_⟩:=I.list h';rw[e] at c;cases c;rw[d] at f;injection f with i _
 have:b=its':=by simpa using congrArg Array.toList i
 subst this;exact r.inj g
end
noncomputable abbrev Cx.wish(X:Cx)(E:Value->Shared->Prop):Cx:={ X with xe:=E }
abbrev Cx.nox(X:Cx):Cx:=X.wish λ _ _=>False
theorem Cx.Ok.wish{X:Cx}(a:X.Ok)(E:Value->Shared->Prop):(X.wish E).Ok :=
 ⟨a.mod,a.kind,a.glob,a.blt,a.above,a.inj,a.has,a.cab,a.hd,a.frames,a.stk,a.exf,a.bs,a.bsz,a.noex,a.exfs,a.funs,a.frf⟩
theorem Cx.Ok.unwish{X:Cx}{E:Value->Shared->Prop}(a:(X.wish E).Ok):X.Ok :=
 ⟨a.mod,a.kind,a.glob,a.blt,a.above,a.inj,a.has,a.cab,a.hd,a.frames,a.stk,a.exf,a.bs,a.bsz,a.noex,a.exfs,a.funs,a.frf⟩
section
variable{X:Cx}{Gm:List (Addr×Obj)}{σ:St}{H:Hp}{s:Shared}{E:Value->Shared->Prop}
theorem Inv.wish(I:Inv X Gm σ H s)(E:Value->Shared->Prop):Inv (X.wish E) Gm σ H s:=⟨I.ok.wish E,I.os,I.bare,I.base,I.loc,I.cell,I.free,I.freeC,I.pin,I.hok,I.len⟩
theorem Inv.unwish(I:Inv (X.wish E) Gm σ H s):Inv X Gm σ H s:=⟨I.ok.unwish,I.os,I.bare,I.base,I.loc,I.cell,I.free,I.freeC,I.pin,I.hok,I.len⟩
theorem SP.unwish{D:Bo}{f:Flow}{s':Shared}(h:SP (X.wish E) Gm D f s'):SP X Gm D f s':=by
 cases f with
 | next=>obtain⟨σ',H',I,q⟩:=h;exact⟨σ',H',I.unwish,q⟩
 | brk=>obtain⟨σ',H',I,q⟩:=h;exact⟨σ',H',I.unwish,q⟩
 | cont=>obtain⟨σ',H',I,q⟩:=h;exact⟨σ',H',I.unwish,q⟩
 | ret u=>obtain⟨v,σ',H',I,r,q⟩:=h;exact⟨v,σ',H',I.unwish,r,q⟩
theorem PSs.nox{st:List Stmt}{t:TS}(h:PSs X.nox st t):PSs X st t:=λ Gm s σ H D I a =>
 wpAny_mono (h Gm s σ H D (I.wish _) a) (λ _ _ q=>q.unwish) λ _ _ z=>False.elim z
end
section
variable{X:Cx}{st:Stmt}{rest:List Stmt}{t u:TS}{e:Expr}{te:TE}{pos:Pos}
def tNext:TS:=λ D σ H=>D.nx σ H
def tSeq(t u:TS):TS:=λ D σ H=>t { D with nx:=u D } σ H
theorem qaG4:PSs X [] tNext:=λ _ _ σ H _ I h=>wpAny_execs_nil ⟨σ,H,I,h⟩
theorem qae9(h1:PS X st t)(h2:PSs X rest u):PSs X (st::rest) (tSeq t u):=by
 intro Gm s σ H D I h;refine wpAny_execs_cons (thn (h1 Gm s σ H { D with nx:=u D } I h) λ f a q=>?_);cases f with
 | next =>
   obtain⟨σ',H',I',q⟩:=q;exact h2 Gm a σ' H' D I' q
 | ret v=>exact q
 | brk=>exact q
 | cont=>exact q
theorem qA3(h1:PS X st t):PSs X [st] t:=by
 intro Gm s σ H D I h;refine wpAny_execs_cons (thn (h1 Gm s σ H D I h) λ f a q=>?_);cases f with
 | next=>exact wpAny_execs_nil q
 | ret v=>exact q
 | brk=>exact q
 | cont=>exact q
theorem Inv.quiet{Gm:List (Addr×Obj)}{σ:St}{H:Hp}{s:Shared}(I:Inv X Gm σ H s):interactive X.env=false:=by simp[interactive,I.ok.kind]
def tDrop(te:TE):TS:=λ D σ H=>te σ H λ _ H1=>D.nx σ H1
theorem qaG6(a:PE X e te)(b:swapsWith e none pos.line X.env=pure false:=by rfl):PS X (.Expr e pos) (tDrop te):=by
 intro Gm s σ H D I h;exact wpAny_Expr_any (thn (a Gm s σ H _ I h) λ v d ⟨x,H1,I1,f,c⟩=>⟨σ,H1,I1,c⟩) I.quiet b
def tRet(te:TE):TS:=λ D σ H=>te σ H D.rt
theorem qax5(a:PE X e te):PS X (.Return (some e) pos) (tRet te):=by
 intro Gm s σ H D I h;exact wpAny_Return_some (thn (a Gm s σ H _ I h) λ v d ⟨x,H1,I1,b,c⟩=>⟨x,σ,H1,I1,b,c⟩)
def tIfS(c:TT)(t u:TS):TS:=λ D σ H=>c σ H λ b H1=>if b=true then t D σ H1 else u D σ H1
theorem ps_if{c:Expr}{a b:List Stmt}{tc:TT}(i:PT X c tc)(j:PSs X a t)(k:PSs X b u):PS X (.If c a b pos) (tIfS tc t u):=by
 intro Gm s σ H D I h;refine wpAny_If (thn (i Gm s σ H _ I h) λ d f e=>?_);obtain⟨H1,I1,g⟩:=e;cases d with
 | true=>exact j Gm f σ H1 D I1 g
 | false=>exact k Gm f σ H1 D I1 g
end
abbrev TG:=V->St->Hp->(St->Hp->Prop)->Prop
abbrev TGs:=List V->St->Hp->(St->Hp->Prop)->Prop
def PG(X:Cx)(target:Expr)(t:TG):Prop :=
 ∀(Gm:List (Addr×Obj))(s:Shared)(σ:St)(H:Hp)(v:V)(u:Value)(Q:St->Hp->Prop),Inv X Gm σ H s->RelV v u->t v σ H Q ->
   wpAny (model X.prog X.w) X.A (assign target X.env u) (λ _ s'=>∃ σ' H',Inv X Gm σ' H' s'/\Q σ' H') X.xe s
def PGs(X:Cx)(ts:List Expr)(t:TGs):Prop :=
 ∀(Gm:List (Addr×Obj))(s:Shared)(σ:St)(H:Hp)(vs:List V)(us:List Value)(Q:St->Hp->Prop),Inv X Gm σ H s->Vals vs us->t vs σ H Q ->
   wpAny (model X.prog X.w) X.A (assignInOrder ((assignEach ts X.env).map (·.2)) us) (λ _ s'=>∃ σ' H',Inv X Gm σ' H' s'/\Q σ' H') X.xe s
abbrev Ls:=V->V->V->Hp->(Hp->Prop)->Prop
def PSet(X:Cx)(t:Ls):Prop :=
 ∀(Gm:List (Addr×Obj))(s:Shared)(σ:St)(H:Hp)(o i v:V)(ov iv u:Value)(Q:Hp->Prop),Inv X Gm σ H s->RelV o ov->RelV i iv->RelV v u->t o i v H Q ->
   wpAny (model X.prog X.w) X.A (setItem ov iv u) (λ _ s'=>∃ H',Inv X Gm σ H' s'/\Q H') X.xe s
abbrev TIp:=V->V->Hp->VK->Prop
def PIp(X:Cx)(op:Operator)(t:TIp):Prop :=
 ∀(Gm:List (Addr×Obj))(s:Shared)(σ:St)(H:Hp)(x y:V)(v u:Value)(Q:VK),Inv X Gm σ H s->RelV x v->RelV y u->t x y H Q ->
   wpAny (model X.prog X.w) X.A (inplaceOp op v u) (EP X Gm σ Q) X.xe s
section
variable{X:Cx}{pos:Pos}
def Hx(i:Nat):TG:=λ v σ H Q=>Q (σ.set i (some v)) H
theorem qas8{x:Str}(a:X.N.Nodup)(hi:X.N[i]? = some x)(b:Loc X.env.scope x)(c:X.fn x=true∨X.env.scope.names.lookup x=some .local:=by first | exact .inl rfl | exact .inr rfl | assumption):PG X (.Name x pos) (Hx i):=by
 intro Gm s σ H v u Q I r h;exact wpAny_assign_Name (qG4 I a hi b r (λ d I'=>⟨_,H,I',h⟩) c)
def gNil:TGs:=λ vs σ H Q=>vs=[]/\Q σ H
def gCons(t:TG)(u:TGs):TGs:=λ vs σ H Q=>∃ v r,vs=v::r/\t v σ H λ σ' H'=>u r σ' H' Q
theorem qaH1:PGs X [] gNil:=by
 intro Gm s σ H a b Q I r h;obtain⟨e,h⟩:=h;subst e;cases r;exact assignInOrder_nil ⟨σ,H,I,h⟩
theorem qax9{e:Expr}{es:List Expr}{t:TG}{u:TGs}(h1:PG X e t)(h2:PGs X es u)(b:(assignEach (e::es) X.env).map (·.2)=assign e X.env::(assignEach es X.env).map (·.2):=by rfl):PGs X (e::es) (gCons t u):=by
 intro Gm s σ H i j Q I r h;obtain⟨v,k,c,h⟩:=h;subst c;cases r with
 | cons r d =>
   rw[b];refine assignInOrder_cons (thn (h1 Gm s σ H _ _ _ I r h) λ _ f a=>?_);obtain⟨σ1,H1,I1,g⟩:=a;exact h2 Gm f σ1 H1 _ _ Q I1 d g
def gTup(K:PySem.W.Frag)(n:Nat)(t:TGs):TG:=λ v σ H Q=>∃ a xs,v=.ref a/\SqT K H a xs/\xs.length=n/\t xs σ H Q
theorem qaQ4{es:List Expr}{k:Nat}{t:TGs}(g:X.calm=true)(h:PGs X es t)(i:(assignEach es X.env).length=n:=by rfl)(c:(assignEach es X.env).findIdx? (·.1)=none:=by rfl):PG X (.Tuple es k pos) (gTup X.K n t):=by
 intro Gm s σ H v u Q I r d;obtain⟨a,j,l,m,p,d⟩:=d;subst l;cases r;obtain⟨q,f,w,z⟩:=I.tuple m;refine assign_Tuple_tuple (I.ok.hd g) w (by simp[i,<- p,f.length]) c λ x y=>?_
 have I1:Inv X Gm σ H { s with heap:=x }:=I.kept (t':=s.toks) λ b o e=>y b o (zAh (zA8 e)) e
 exact h Gm _ σ H j _ Q I1 (by simpa using f) d
def gSub(to a:TE)(t:Ls):TG:=λ v σ H Q=>to σ H λ o H1=>a σ H1 λ i H2=>t o i v H2 λ H3=>Q σ H3
theorem qaQ5{o i:Expr}{to b:TE}{t:Ls}(c:PE X o to)(hi:PE X i b)(d:PSet X t)(e:∀ v,assign (.Subscript o i pos) X.env v=(do
     let ov <- holding [v] (eval o X.env)
     let iv <- holding [v,ov] (eval i X.env)
     standAt pos
     holding [v,ov,iv] (setItem ov iv v)
     release [v,ov,iv] []):=by intro _;rfl):PG X (.Subscript o i pos) (gSub to b t):=by
 intro Gm s σ H v u Q I r h;rw[e];refine wpAny_bind (wpAny_holding (thn (c Gm s σ H _ I h) λ ov f a=>?_));obtain⟨x,H1,I1,g,j⟩:=a;refine wpAny_bind (wpAny_holding (thn (hi Gm f σ H1 _ I1 j) λ iv k a=>?_));obtain⟨y,H2,I2,l,q2⟩:=a;refine wpAny_bind (wpAny_standAt (wpAny_bind (wpAny_holding (thn (d Gm k σ H2 x y v ov iv u _ I2 g l r q2) λ _ n a=>?_))));obtain⟨H3,I3,m⟩:=a;exact wpAny_release ⟨σ,H3,I3,m⟩
def K6(te:TE)(g:TG):TS:=λ D σ H=>te σ H λ x H1=>g x σ H1 D.nx
theorem qaQ0{tg e:Expr}{te:TE}{g:TG}(b:PE X e te)(c:PG X tg g)(d:swapsWithSole [tg] e pos.line X.env=pure false:=by rfl)(f:swappedStores [tg] e X.env=pure none:=by rfl)(h1:(assignEach [tg] X.env).map (·.2)=[assign tg X.env]:=by rfl):PS X (.Assign [tg] e pos) (K6 te g):=by
 intro Gm s σ H D I h;refine wpAny_Assign_stores (thn (b Gm s σ H _ I h) λ v i a=>?_) d f;obtain⟨x,H1,I1,j,k⟩:=a;rw[h1];exact thn (c Gm i σ H1 x v _ I1 j k) λ _ l q=>q
theorem qaG5{x:Str}{e:Expr}{te:TE}{pos':Pos}(b:X.N.Nodup)(hi:X.N[i]? = some x)(c:Loc X.env.scope x)(d:PE X e te)(f:swapsWith e (some (.Name x pos')) pos.line X.env=pure false:=by rfl)(g:X.fn x=true∨X.env.scope.names.lookup x=some .local:=by first | exact .inl rfl | exact .inr rfl | assumption) :
   PS X (.Assign [.Name x pos'] e pos) (K6 te (Hx i)):=by
 intro Gm s σ H D I h;refine wpAny_Assign_Name (thn (d Gm s σ H _ I h) λ v l a=>?_) f;obtain⟨y,H1,I1,j,k⟩:=a;exact qG4 I1 b hi c j (λ m I2=>⟨_,H1,I2,k⟩) g
def tAugS(to b te:TE)(tget:V->V->Hp->VK->Prop)(a:TIp)(tset:Ls):TS:=λ D σ H=>to σ H λ o H1=>b σ H1 λ i H2=>tget o i H2 λ x H3=>te σ H3 λ y H4=>a x y H4 λ z H5=>tset o i z H5 λ H6=>D.nx σ H6
def PGet(X:Cx)(t:V->V->Hp->VK->Prop):Prop :=
 ∀(Gm:List (Addr×Obj))(s:Shared)(σ:St)(H:Hp)(o i:V)(ov iv:Value)(Q:VK),Inv X Gm σ H s->RelV o ov->RelV i iv->t o i H Q ->
   wpAny (model X.prog X.w) X.A (getItem ov iv) (EP X Gm σ Q) X.xe s
theorem qaG8{o i e:Expr}{to j te:TE}{tget:V->V->Hp->VK->Prop}{f:TIp}{tset:Ls}{op:Operator}{tpos:Pos}(p:PE X o to)(hi:PE X i j)(q:PGet X tget)(r:PE X e te)(t:PIp X op f)(u:PSet X tset)(w:∀ c d b,augStore i c d b=(do holding [b,c,d] (setItem c d b);release [b,c,d] [];pure .next):=by intros;rfl):PS X (.AugAssign (.Subscript o i tpos) op e pos) (tAugS to j te tget f tset):=by
 intro Gm s σ H D I h;refine wpAny_AugAssign_SubscriptAny (thn (p Gm s σ H _ I h) λ c x a=>?_) w;obtain⟨k,H1,I1,l,y⟩:=a;refine thn (hi Gm x σ H1 _ I1 y) λ d z a=>?_
 obtain⟨m,H2,I2,n,q2⟩:=a;refine thn (q Gm z σ H2 k m c d _ I2 l n q2) λ g A a=>?_
 obtain⟨B,H3,I3,C,E⟩:=a;refine thn (r Gm A σ H3 _ I3 E) λ v F a=>?_
 obtain⟨G,H4,I4,J,K⟩:=a;refine thn (t Gm F σ H4 B G g v _ I4 C J K) λ b L a=>?_
 obtain⟨M,H5,I5,N,O⟩:=a;exact thn (u Gm L σ H5 k m M c d b _ I5 l n N O) λ _ Q ⟨H6,I6,P⟩=>⟨σ,H6,I6,P⟩
def ipI(f:Int->Int->Int):TIp:=λ x y H Q=>∃ i j,x=.int i/\y=.int j/\Q (.int (f i j)) H
theorem qaT4:PIp X .Add (ipI λ i j=>i+j):=by
 intro Gm s σ H x y v u Q I a b h;obtain⟨i,j,c,e2,q⟩:=h;subst c;subst e2;obtain⟨t,rfl⟩:=a;obtain⟨d,rfl⟩:=b;exact iadd_int ⟨.int _,H,I.tok _,⟨_,rfl⟩,q⟩
end
section
variable{X:Cx}{pos:Pos}
def qaO6(c:TT)(tb:TS):TS:=λ D σ H=>∃ W:Nat->St->Hp->Prop,(∃ m,W m σ H)/\∀ m σ H,W m σ H ->
 c σ H λ b H1=>if b=true then ∃ N:St->Hp->Prop,(∀ σ' H',N σ' H'->∃ a,a < m/\W a σ' H')/\tb { D with nx:=N,ct:=N,bk:=D.nx } σ H1 else D.nx σ H1
theorem qax4{c:Expr}{tc:TT}{tb:TS}(k:PassesOwn (model X.prog X.w) X.A X.env X.xe)(m:PT X c tc)(o:PSs X body tb):PS X (.While c body [] pos) (qaO6 tc tb):=by
 intro Gm s σ H D I h;obtain⟨W,⟨p,q⟩,turn⟩:=h;refine wpAny_While (codeAny_whileLoop (λ n r=>∃ σ' H',Inv X Gm σ' H' r/\W n σ' H') ?_ p ⟨σ,H,I,q⟩);rintro n t ⟨σ1,H1,I1,u⟩;refine wpAny_passesOwn k (thn (m Gm t σ1 H1 _ I1 (turn n σ1 H1 u)) λ b x d=>?_);obtain⟨H2,I2,q2⟩:=d;cases b with
 | true =>
   obtain⟨N,l,q2⟩:=q2;rw[if_pos rfl];refine wpAny_passesOwn k (thn (o Gm x σ1 H2 _ I2 q2) λ f y a=>?_);cases f with
   | next =>
     obtain⟨σ3,H3,I3,e⟩:=a;obtain⟨g,i,j⟩:=l σ3 H3 e;exact⟨g,i,σ3,H3,I3,j⟩
   | cont =>
     obtain⟨σ3,H3,I3,e⟩:=a;obtain⟨g,i,j⟩:=l σ3 H3 e;exact⟨g,i,σ3,H3,I3,j⟩
   | brk=>exact a
   | ret v=>exact a
 | false =>
   rw[if_neg zAc];exact wpAny_execs_nil ⟨σ1,H2,I2,q2⟩
end
structure It where
 go:Nat->Hp->Prop
 yld:Nat->Hp->V->Hp->Prop
 stop:Nat->Hp->Prop
def Jn(X:Cx)(Gm:List (Addr×Obj))(H:Hp)(b:Addr):Prop :=
 H b=none/\b≠X.env.locals/\b∉X.fs/\(b∈X.ex∨X.s₀.heap.objs.size<=b)/\(∀ x c,X.env.cells.lookup x=some c->c≠b)/\∀ p∈X.pn++Gm,p.1≠b
theorem Inv.fpOk{X:Cx}{Gm:List (Addr×Obj)}{σ:St}{H H':Hp}{s:Shared}{b:Addr}(I:Inv X Gm σ H s)(a:s.heap.objs.size<=b)(d:H' b=none):Jn X Gm H' b:=by
 refine⟨d,Nat.ne_of_gt (zAd I.lt a),I.nofs a,.inr (zAm I.sz a),λ x c e z=>?_,λ p f z=>?_⟩
 . obtain⟨v,q⟩:=I.cell x c e
   exact absurd (zAd q.lt (by rw[z];exact a)) (Nat.lt_irrefl _)
 exact absurd (zAd (zA8 (I.pin p f).1) (by rw[z];exact a)) (Nat.lt_irrefl _)
structure Lu(P:Program)(w:World)(K:PySem.W.Frag)(tg:Expr)(J:It)(fp:List Addr)(it:Addr)(tn:Nat->Heap->Prop):Prop where
 mem:it∈fp
 obj:∀ i h,tn i h->∀ b∈fp,∃ o,h.get? b=some o/\∀ v,o.data≠.cell v
 keep:∀ i h h',tn i h->(∀ b∈fp,∀ o,h.get? b=some o->h'.get? b=some o)->tn i h'
 item:∀(X:Cx),X.prog=P->X.w=w->X.K=K->X.calm=true->∀(i:Nat)(Gm:List (Addr×Obj))(s:Shared)(σ:St)(H:Hp)(E:Value->Shared->Prop),Inv X Gm σ H s->(∀ b∈fp,Jn X Gm H b)->tn i s.heap->J.go i H ->
   wpAny (model P w) X.A (pyNext (.ref it)) (λ r s1=>∃ u,r=some u /\
     wpAny (model P w) X.A (letOwnedTupleGo tg (.ref it) u) (λ _ s2=>∃ x H',Inv X Gm σ H' s2/\RelV x u/\J.yld i H x H'/\tn (i+1) s2.heap/\∀ b∈fp,H' b=none) E s1) E s
 done:∀(X:Cx),X.prog=P->X.w=w->X.K=K->X.calm=true->∀(i:Nat)(Gm:List (Addr×Obj))(s:Shared)(σ:St)(H:Hp)(E:Value->Shared->Prop),Inv X Gm σ H s->(∀ b∈fp,Jn X Gm H b)->tn i s.heap->J.stop i H ->
   wpAny (model P w) X.A (pyNext (.ref it)) (λ r s1=>r=none/\Inv X Gm σ H s1) E s
 self:∀(A:Around)(i:Nat)(s:Shared)(Q:Value->Shared->Prop)(E:Value->Shared->Prop),tn i s.heap->Q (.ref it) s->wpAny (model P w) A (pyIter (.ref it)) Q E s
abbrev TI:=St->Hp->(It->Hp->Prop)->Prop
def PIE(X:Cx)(Gm:List (Addr×Obj))(σ:St)(tg:Expr)(R:It->Hp->Prop)(a:Value)(s2:Shared):Prop :=
 ∃(it:Addr)(fp:List Addr)(tn:Nat->Heap->Prop)(J:It)(H':Hp),a=.ref it/\Inv X Gm σ H' s2/\Lu X.prog X.w X.K tg J fp it tn/\tn 0 s2.heap/\(∀ b∈fp,Jn X Gm H' b)/\R J H'
def PI(X:Cx)(tg iter:Expr)(wi:TI):Prop :=
 ∀(Gm:List (Addr×Obj))(s:Shared)(σ:St)(H:Hp)(R:It->Hp->Prop),Inv X Gm σ H s->wi σ H R ->
   wpAny (model X.prog X.w) X.A (eval iter X.env) (λ v a=>wpAny (model X.prog X.w) X.A (pyIter v) (PIE X Gm σ tg R) X.xe a) X.xe s
theorem go_of{A:Around}{E:Value->Shared->Prop}{s:Shared}{tg:Expr}{it:Addr}{u:Value}{o:Obj}{n:String}{vs:Array Value}{Q:Unit->Shared->Prop}(b:s.heap.get? it=some o)(c:o.cls=.type n)(d:o.data=.fields vs)(e:["enumerate", "zip", "dict_itemiterator", "dict_reverseitemiterator", "odict_iterator", "itertools.zip_longest", "itertools.pairwise"].contains n=false)(a:Q () s):wpAny M A (letOwnedTupleGo tg (.ref it) u) Q E s:=by
 unfold letOwnedTupleGo;cases tg<;>first
   | exact wpAny_pure a
   | (cases u<;>first
       | exact wpAny_pure a
       | (refine wpAny_bind (wpAny_load b ?_)
          rw[c,d];show wpAny M A (if (["enumerate", "zip", "dict_itemiterator", "dict_reverseitemiterator", "odict_iterator", "itertools.zip_longest", "itertools.pairwise"].contains n&&vs[0]? == some (rawInt _))=true then _ else _) Q E s;rw[if_neg (by intro h;rw[e,Bool.false_and] at h;cases h)];exact wpAny_pure a))
noncomputable def Itl(K:PySem.W.Frag)(a:Addr):It :=
 ⟨λ i H=>∃ xs x,SqL K H a xs/\xs[i]? = some x,λ i H x H'=>H'=H/\∀ xs,SqL K H a xs->xs[i]? = some x,λ i H=>∃ xs,SqL K H a xs/\xs.length<=i⟩
noncomputable def Itr(lo:Int)(n:Nat):It:=⟨λ i _=>i < n,λ i H x H'=>H'=H/\x=.int (lo+i),λ i _=>n<=i⟩
theorem qal9{P:Program}{w:World}{K:PySem.W.Frag}{tg:Expr}(a it:Addr):Lu P w K tg (Itl K a) [it] it (λ i h=>h.IsListIter it a i) where
 mem:=by simp
 obj:=λ i h f b g=>by
   have e:b=it:=by simpa using g
   subst e;obtain⟨o,e,c,d⟩:=f;exact⟨o,e,λ v z=>by rw[d] at z;cases z⟩
 keep:=λ i h l f k=>f.at λ o e=>k it (by simp) o e
 item:=by
   intro X q r t J i Gm s σ H E I m f y;subst q r t;obtain⟨L,x,n,A⟩:=y;obtain⟨B,C,p,M⟩:=I.list n;obtain⟨u,N,O⟩:=C.get A;obtain⟨D,f1,f2,f3,F,G⟩:=m it (by simp);refine wpAny_pyNext_list_item f p.isList (x:=u) (by simpa using N) λ l j Q=>?_
   have I1:Inv X Gm σ H { s with heap:=l }:=I.turned (t':=s.toks) (λ b o g e=>(Q.2 b g).trans e) D f1 f3 F G;obtain⟨o,e,c,d⟩:=id j;exact⟨u,rfl,go_of (s:={ s with heap:=l }) e c d (by decide) ⟨x,H,I1,O,⟨rfl,λ U S=>by rw[I.list_inj S n];exact A⟩,j,λ b g=>(m b g).1⟩⟩
 done:=by
   intro X q r t J i Gm s σ H E I m f y;subst q r t;obtain⟨L,n,A⟩:=y;obtain⟨B,C,p,M⟩:=I.list n;obtain⟨D,f1,f2,f3,F,G⟩:=m it (by simp);have V:=C.length;exact wpAny_pyNext_list_end (I.ok.hd J) f p.isList (by simp;lia) λ l T=>⟨rfl,I.turned (t':=s.toks) (λ b o g e=>T b o g e) D f1 f3 F G⟩
 self:=λ _ _ _ _ _ f h=>wpAny_pyIter_listiter f h
theorem qac0{P:Program}{w:World}{K:PySem.W.Frag}{tg:Expr}(it:Addr)(lo:Int)(n:Nat):Lu P w K tg (Itr lo n) [it] it (λ i h=>IsRangeIter h it (lo+(i:Nat) * 1) ((n:Int) - (i:Nat)) 1) where
 mem:=by simp
 obj:=λ i h a b c=>by
   have e:b=it:=by simpa using c
   subst e;exact⟨_,a,λ v z=>by
     have A:Data.fields _=Data.cell v:=z;cases A⟩
 keep:=λ i h f a k=>k it (by simp) _ a
 item:=by
   intro X j l m p i Gm s σ H E I g a q;subst j l m;obtain⟨r,f1,f2,f3,u,x⟩:=g it (by simp);have W:=Walks.range (prog:=X.prog) (w:=X.w) (I.ok.hd p) it lo 1 n;refine W.item i s _ _ q a λ v f y B d C=>?_
   obtain⟨t,rfl⟩:=B;have I1:Inv X Gm σ H { s with heap:=f,toks:=y }:=I.turned (λ b o c e=>C b o (by simpa using c) e) r f1 f3 u x;refine⟨_,rfl,go_of (s:={ s with heap:=f,toks:=y }) (n := "range_iterator") d rfl rfl (by decide) ⟨.int (lo+i),H,I1,⟨t,?_⟩,⟨rfl,rfl⟩,d,λ b c=>(g b c).1⟩⟩;rw[Int.mul_one]
 done:=by
   intro X j l m p i Gm s σ H E I g a q;subst j l m;obtain⟨r,f1,f2,f3,u,x⟩:=g it (by simp);exact wpAny_pyNext_range_end (I.ok.hd p) a (by have:n<=i:=q;lia) λ f D=>⟨rfl,I.turned (t':=s.toks) (λ b o c e=>D b o c e) r f1 f3 u x⟩
 self:=λ _ _ _ _ _ a h=>wpAny_pyIter_rangeiter a h
section
variable{X:Cx}{tg:Expr}
def Ko(K:PySem.W.Frag)(tl:TE):TI:=λ σ H R=>tl σ H λ x H1=>∃ a,x=.ref a/\(∃ xs,SqL K H1 a xs)/\R (Itl K a) H1
theorem qE8{l:Expr}{tl:TE}(f:PE X l tl):PI X tg l (Ko X.K tl):=by
 intro Gm s σ H R I h;refine thn (f Gm s σ H _ I h) λ v c d=>?_
 obtain⟨x,H1,I1,g,i⟩:=d;obtain⟨a,e,⟨n,j⟩,q⟩:=i;subst e;cases g;obtain⟨k,r,p,t⟩:=I1.list j;refine wpAny_pyIter_list p.isList ?_;refine⟨c.heap.objs.size,[c.heap.objs.size],_,_,H1,rfl,I1.kept (t':=c.toks) λ b o e=>zA2 _ e,qal9 a _,⟨_,zAt _ rfl,rfl,rfl⟩,λ b m=>?_,q⟩;have e:b=c.heap.objs.size:=by simpa using m
 subst e;exact I1.fpOk (zA3 _) (I1.hok.fresh (zA3 _))
theorem qae7{Gm:List (Addr×Obj)}{σ:St}{H:Hp}{s:Shared}{R:It->Hp->Prop}{E:Value->Shared->Prop}{lo hi:Int}{t u v:Tok}{a:Nat}(I:Inv X Gm σ H s)(h1:-(2 ^ 62)<=lo)(h2:lo < 2 ^ 62)(c:-(2 ^ 62)<=hi)(d:hi < 2 ^ 62)(q:R (Itr lo (hi - lo).toNat) H):wpAny (model X.prog X.w) X.A (pyIter (.ref s.heap.objs.size)) (PIE X Gm σ tg R) E { s with heap:=s.heap.push { cls:=.type "range",data:=.fields #[.int lo t,.int hi u,.int 1 v] },toks:=a }:=by
 refine wpAny_pyIter_range (IsRange.new ..) (small_one h1 h2 c d) ?_;have I1:Inv X Gm σ H { s with heap:=s.heap.push { cls:=.type "range",data:=.fields #[.int lo t,.int hi u,.int 1 v] },toks:=a }:=I.kept λ b o e=>zA2 _ e
 refine⟨(s.heap.push { cls:=.type "range",data:=.fields #[.int lo t,.int hi u,.int 1 v] }).objs.size,[(s.heap.push { cls:=.type "range",data:=.fields #[.int lo t,.int hi u,.int 1 v] }).objs.size],_,_,H,rfl,
   I1.kept (t':=a) λ b o e=>zA2 _ e,qac0 _ lo (hi - lo).toNat,?_,λ b f=>?_,q⟩
 . have g:lo+((0:Nat):Int) * 1=lo:=by simp
   have e2:(((hi - lo).toNat:Nat):Int) - ((0:Nat):Int)=Builtin.Range.rangeSize lo hi 1:=by rw[rangeSize_one];split<;>lia
   show IsRangeIter _ _ (lo+((0:Nat):Int) * 1) ((((hi - lo).toNat:Nat):Int) - ((0:Nat):Int)) 1;rw[g,e2];exact zAt _ rfl
 have e:b=(s.heap.push { cls:=.type "range",data:=.fields #[.int lo t,.int hi u,.int 1 v] }).objs.size:=by simpa using f
 subst e;exact I1.fpOk (zA3 _) (I1.hok.fresh (zA3 _))
def iRng1(ta:TA):TI:=λ σ H R=>ta σ H λ vs H1=>∃ j:Int,vs=[.int j]/\-(2 ^ 62)<=j/\j < 2 ^ 62/\R (Itr 0 j.toNat) H1
def iRng2(ta:TA):TI:=λ σ H R=>ta σ H λ vs H1=>∃ i j:Int,vs=[.int i,.int j]/\(-(2 ^ 62)<=i/\i < 2 ^ 62/\-(2 ^ 62)<=j/\j < 2 ^ 62)/\R (Itr i (j - i).toNat) H1
theorem qH9{a:Expr}{ta:TA}{p pos:Pos}(d:Gl X "range")(hm:X.mg "range" = none)(f:PA X [a] ta)(g:starEach [a] X.env=[(false,eval a X.env)]:=by rfl):PI X tg (.Call (.Name "range" p) [a] [] pos) (iRng1 ta):=by
 intro Gm s σ H R I h;refine Call_ (qab0 I d hm boot_range (PyProof.Rows.callWith_type1 (thn (f pos Gm s σ H _ I h) λ l m b=>?_) g rfl));obtain⟨n,H1,I1,i,c⟩:=b;obtain⟨j,e,c,q2,q⟩:=c;subst e;cases i with
 | cons r k =>
   cases k;obtain⟨t,rfl⟩:=r;exact call_range_1 (qae7 I1 (by lia) (by lia) c q2 (by simpa using q))
theorem qan1{a b:Expr}{ta:TA}{p pos:Pos}(k:Gl X "range")(hm:X.mg "range" = none)(l:PA X [a,b] ta)(m:starEach [a,b] X.env=[(false,eval a X.env),(false,eval b X.env)]:=by rfl)(c:starEach [b] X.env=[(false,eval b X.env)]:=by rfl) :
   PI X tg (.Call (.Name "range" p) [a,b] [] pos) (iRng2 ta):=by
 intro Gm s σ H R I h;refine Call_ (qab0 I k hm boot_range (PyProof.Rows.callWith_type1 (thn (l pos Gm s σ H _ I h) λ w x d=>?_) (by rw[m,c]) (by rw[c];rfl)));obtain⟨y,H1,I1,n,f⟩:=d;obtain⟨i,j,e,⟨f,q2,o,u⟩,q⟩:=f;subst e;cases n with
 | cons r g =>
   cases g with
   | cons v g =>
     cases g;obtain⟨t,rfl⟩:=r;obtain⟨z,rfl⟩:=v;exact call_range_2 (qae7 I1 f q2 o u q)
def tFor(wi:TI)(g:TG)(tb:TS):TS:=λ D σ H=>wi σ H λ J H1=>∃ W:Nat->Nat->St->Hp->Prop,(∃ m,W 0 m σ H1)/\∀ i m σ H,W i m σ H ->
 (J.stop i H/\D.nx σ H)∨(J.go i H/\∃ N:St->Hp->Prop,(∀ σ' H',N σ' H'->∃ a,a < m/\W (i+1) a σ' H')/\∀ x H',J.yld i H x H'->g x σ H' λ σ2 H2=>tb { D with nx:=N,ct:=N,bk:=D.nx } σ2 H2)
noncomputable def Lv(fp:List Addr)(h:Heap):List (Addr×Obj):=fp.filterMap λ b=>(h.get? b).map λ o=>(b,o)
theorem qs1{h:Heap}{b:Addr}{o:Obj}(a:b∈fp)(e:h.get? b=some o):(b,o)∈Lv fp h:=List.mem_filterMap.mpr ⟨b,a,by rw[e];rfl⟩
theorem qan4{h:Heap}{p:Addr×Obj}(a:p∈Lv fp h):p.1∈fp/\h.get? p.1=some p.2:=by
 obtain⟨b,c,e⟩:=List.mem_filterMap.mp a;cases q:h.get? b with
 | none=>rw[q] at e;cases e
 | some o =>
   rw[q] at e;have d:(b,o)=p:=Option.some.inj e;subst d;exact⟨c,q⟩
theorem Inv.pinned{Gm:List (Addr×Obj)}{σ:St}{H:Hp}{s:Shared}(I:Inv X Gm σ H s)(f:∀ b∈fp,Jn X Gm H b)(g:∀ b∈fp,∃ o,s.heap.get? b=some o/\∀ v,o.data≠.cell v):Inv X (Gm++Lv fp s.heap) σ H s :=
 I.pins_of λ p h=>(zAa.mp h).elim (λ z=>I.pin p (zAu _ z)) λ z=>by
   obtain⟨a,e⟩:=qan4 z;obtain⟨i,f1,f2,_⟩:=f p.1 a;obtain⟨o,c,d⟩:=g p.1 a;rw[e] at c;cases c;exact⟨e,i,f1,f2,d⟩
theorem Inv.unpinned{Gm pl:List (Addr×Obj)}{σ:St}{H:Hp}{s:Shared}(I:Inv X (Gm++pl) σ H s):Inv X Gm σ H s:=I.pins_of λ p a=>I.pin p (zAu _ (List.mem_append_left _ a))
theorem qam9{iter:Expr}{wi:TI}{g:TG}{tb:TS}{pos:Pos}(l:PassesOwn (model X.prog X.w) X.A X.env X.xe)(F:X.calm=true)(hi:PI X tg iter wi)(O:PG X tg g)(c:PSs X body tb)(P:∀ x,foldedSetIterable iter X.env x=pure x:=by intro _;rfl):PS X (.For tg iter body [] pos) (tFor wi g tb):=by
 intro Gm s σ H D I h;refine wpAny_For (thn (hi Gm s σ H _ I h) λ v s1 Q=>thn Q λ R s2 S=>?_) P;obtain⟨it,p,G,J,H2,e,I2,T,z,f2,W,⟨U,V⟩,turn⟩:=S;subst e;have stat:∀{H':Hp},(∀ b∈p,H' b=none)->∀ b∈p,Jn X Gm H' b:=λ Y b c=>⟨Y b c,(f2 b c).2⟩
 refine codeAny_forLoop_any (λ n K=>∃ i σ' H',Inv X Gm σ' H' K/\G i K.heap/\(∀ b∈p,H' b=none)/\W i n σ' H') ?_ U ⟨0,σ,H2,I2,z,λ b c=>(f2 b c).1,V⟩;rintro n L ⟨i,σ3,H3,I3,q,t,Z⟩;rcases turn i n σ3 H3 Z with⟨stop,qn⟩ | ⟨go,N,hN,step⟩
 . refine wpAny_passesOwn l (thn (T.done X rfl rfl rfl F i Gm L σ3 H3 X.xe I3 (stat t) q stop) λ r s4 a=>?_)
   obtain⟨B,I4⟩:=a;subst B;exact wpAny_execs_nil ⟨σ3,H3,I4,qn⟩
 refine wpAny_passesOwn l (thn (T.item X rfl rfl rfl F i Gm L σ3 H3 X.xe I3 (stat t) q go) λ r s4 a=>?_);obtain⟨u,B,h4⟩:=a;subst B;refine wpAny_passesOwn l (thn h4 λ _ M a=>?_);obtain⟨x,H5,I5,r5,y5,k,C⟩:=a;have I5':=I5.pinned (stat C) (T.obj _ _ k);refine wpAny_passesOwn l (thn (O _ M σ3 H5 x u _ I5' r5 (step x H5 y5)) λ _ s6 a=>?_);obtain⟨σ6,H6,I6,q6⟩:=a;refine wpAny_passesOwn l (thn (c _ s6 σ6 H6 _ I6 q6) λ f E j=>?_);have again:∀{σ7:St}{H7:Hp},Inv X (Gm++Lv p M.heap) σ7 H7 E->N σ7 H7->∃ m,m < n/\∃ i σ' H',Inv X Gm σ' H' E/\G i E.heap/\(∀ b∈p,H' b=none)/\W i m σ' H':=λ{σ7 H7} I7 y=>by
   obtain⟨m',hm,w7⟩:=hN σ7 H7 y;refine⟨m',hm,i+1,σ7,H7,I7.unpinned,T.keep _ _ _ k λ b c o e=>(I7.pin (b,o) (zAu _ (zAu _ (qs1 c e)))).1,λ b c=>?_,w7⟩;obtain⟨o,e,d⟩:=T.obj _ _ k b c;exact(I7.pin (b,o) (zAu _ (zAu _ (qs1 c e)))).2.1
 cases f with
 | next=>obtain⟨σ7,H7,I7,y⟩:=j;exact again I7 y
 | cont=>obtain⟨σ7,H7,I7,y⟩:=j;exact again I7 y
 | brk=>obtain⟨σ7,H7,I7,j⟩:=j;exact⟨σ7,H7,I7.unpinned,j⟩
 | ret v=>obtain⟨x7,σ7,H7,I7,r7,j⟩:=j;exact⟨x7,σ7,H7,I7.unpinned,r7,j⟩
end
theorem qaj4{K:PySem.W.Frag}{a:Addr}{xs:List V}{g:TG}{tb:TS}{D:Bo}{σ:St}{H:Hp}(Pv:Nat->St->Hp->Prop)(d:Pv 0 σ H)(f:∀ i σ H,i<=xs.length->Pv i σ H->SqL K H a xs)(h:∀ i x σ H,xs[i]? = some x->Pv i σ H->g x σ H λ σ2 H2=>tb { D with nx:=Pv (i+1),ct:=Pv (i+1),bk:=D.nx } σ2 H2)(j:∀ σ H,Pv xs.length σ H->D.nx σ H) :
   ∃ W:Nat->Nat->St->Hp->Prop,(∃ m,W 0 m σ H)/\∀ i m σ H,W i m σ H ->
     ((Itl K a).stop i H/\D.nx σ H)∨((Itl K a).go i H/\∃ N:St->Hp->Prop,(∀ σ' H',N σ' H'->∃ c,c < m/\W (i+1) c σ' H')/\∀ x H',(Itl K a).yld i H x H'->g x σ H' λ σ2 H2=>tb { D with nx:=N,ct:=N,bk:=D.nx } σ2 H2):=by
 refine⟨λ i m σ H=>m=xs.length - i/\i<=xs.length/\Pv i σ H,⟨xs.length,by simp,zBk _,d⟩,?_⟩;rintro i m σ H ⟨rfl,k,p⟩;have q:=f i σ H k p;by_cases b:i < xs.length
 . refine .inr ⟨⟨xs,xs[i],q,by simp[b]⟩,Pv (i+1),λ σ' H' l=>⟨xs.length - (i+1),by lia,rfl,b,l⟩,λ x H' y=>?_⟩
   obtain⟨e,y⟩:=y;subst e;exact h i x σ _ (y xs q) p
 have e:i=xs.length:=by lia
 subst e;exact .inl ⟨⟨xs,q,zA3 _⟩,j σ H p⟩
theorem qao6{lo:Int}{g:TG}{tb:TS}{D:Bo}{σ:St}{H:Hp}(Pv:Nat->St->Hp->Prop)(c:Pv 0 σ H)(d:∀ i σ H,i < n->Pv i σ H->g (.int (lo+i)) σ H λ σ2 H2=>tb { D with nx:=Pv (i+1),ct:=Pv (i+1),bk:=D.nx } σ2 H2)(f:∀ σ H,Pv n σ H->D.nx σ H) :
   ∃ W:Nat->Nat->St->Hp->Prop,(∃ m,W 0 m σ H)/\∀ i m σ H,W i m σ H ->
     ((Itr lo n).stop i H/\D.nx σ H)∨((Itr lo n).go i H/\∃ N:St->Hp->Prop,(∀ σ' H',N σ' H'->∃ b,b < m/\W (i+1) b σ' H')/\∀ x H',(Itr lo n).yld i H x H'->g x σ H' λ σ2 H2=>tb { D with nx:=N,ct:=N,bk:=D.nx } σ2 H2):=by
 refine⟨λ i m σ H=>m=n - i/\i<=n/\Pv i σ H,⟨n,by simp,zBk _,c⟩,?_⟩;rintro i m σ H ⟨rfl,j,p⟩;by_cases a:i < n
 . refine .inr ⟨a,Pv (i+1),λ σ' H' h=>⟨n - (i+1),by lia,rfl,a,h⟩,λ x H' y=>?_⟩
   obtain⟨e,y⟩:=y;subst e y;exact d i σ _ a p
 have e:i=n:=by lia
 subst e;exact .inl ⟨zA3 _,f σ H p⟩
abbrev R2:=V->V->Hp->VK->Prop
def OpR(X:Cx)(f:Value->Value->Sem Value)(r:R2):Prop :=
 ∀(Gm:List (Addr×Obj))(s:Shared)(σ:St)(H:Hp)(x y:V)(v u:Value)(Q:VK),Inv X Gm σ H s->RelV x v->RelV y u->r x y H Q ->
   wpAny (model X.prog X.w) X.A (f v u) (EP X Gm σ Q) X.xe s
def CallR(X:Cx)(f:Value)(r:List V->Hp->VK->Prop):Prop :=
 ∀(Gm:List (Addr×Obj))(s:Shared)(σ:St)(H:Hp)(xs:List V)(us:List Value)(Q:VK),Inv X Gm σ H s->Vals xs us->r xs H Q ->
   wpAny (model X.prog X.w) X.A (call f us) (EP X Gm σ Q) X.xe s
def tOp(r:R2)(ta tb:TE):TE:=λ σ H Q=>ta σ H λ x H1=>tb σ H1 λ y H2=>r x y H2 Q
def rI(C:Int->Int->Prop)(g:Int->Int->V):R2:=λ x y H Q=>∃ i j,x=.int i/\y=.int j/\C i j/\Q (g i j) H
def rI0(g:Int->Int->V):R2:=λ x y H Q=>∃ i j,x=.int i/\y=.int j/\Q (g i j) H
section
variable{X:Cx}{a b:Expr}{ta tb:TE}{pos:Pos}
theorem binT(d:PE X a ta)(e:PE X b tb){Gm:List (Addr×Obj)}{s:Shared}{σ:St}{H:Hp}{R:V->V->Hp->Prop}(I:Inv X Gm σ H s)(h:ta σ H λ x H1=>tb σ H1 λ y H2=>R x y H2){Q:Value->Shared->Prop}{f:Value->Value->Sem Value}(g:∀ v u s2 x y H2,Inv X Gm σ H2 s2->RelV x v->RelV y u->R x y H2->wpAny (model X.prog X.w) X.A (f v u) Q X.xe s2) :
   wpAny (model X.prog X.w) X.A (eval a X.env) (λ v s₁=>wpAny (model X.prog X.w) X.A (eval b X.env) (λ u s₂=>wpAny (model X.prog X.w) X.A (f v u) Q X.xe s₂) X.xe s₁) X.xe s:=by
 refine thn (d Gm s σ H _ I h) λ v i c=>?_
 obtain⟨x,H1,I1,j,k⟩:=c;refine thn (e Gm i σ H1 _ I1 k) λ u s2 c=>?_
 obtain⟨y,H2,I2,l,q2⟩:=c;exact g v u s2 x y H2 I2 j l q2
theorem pe_op{op:Operator}{r:R2}(c:OpR X (binaryOp op) r)(d:PE X a ta)(e:PE X b tb):PE X (.BinOp a op b pos) (tOp r ta tb):=by
 intro Gm s σ H Q I h;exact wpAny_BinOp (binT d e I h λ v u f x y H2 I2 g i q=>c Gm f σ H2 x y v u Q I2 g i q)
theorem opI{f:Value->Value->Sem Value}{C:Int->Int->Prop}{g:Int->Int->Int}(rule:∀(i j:Int)(t u:Tok)(s:Shared)(Q:Value->Shared->Prop)(E:Value->Shared->Prop),C i j->Q (.int (g i j) s.toks) { s with toks:=s.toks+1 }->wpAny (model X.prog X.w) X.A (f (.int i t) (.int j u)) Q E s) :
   OpR X f (rI C λ i j=>.int (g i j)):=by
 intro Gm s σ H x y v u Q I a b h;obtain⟨i,j,rfl,rfl,c,q⟩:=h;obtain⟨t,rfl⟩:=a;obtain⟨d,rfl⟩:=b;exact rule i j t d s _ _ c ⟨.int (g i j),H,I.tok _,⟨_,rfl⟩,q⟩
theorem opI0{f:Value->Value->Sem Value}{g:Int->Int->Int}(rule:∀(i j:Int)(t u:Tok)(s:Shared)(Q:Value->Shared->Prop)(E:Value->Shared->Prop),Q (.int (g i j) s.toks) { s with toks:=s.toks+1 }->wpAny (model X.prog X.w) X.A (f (.int i t) (.int j u)) Q E s) :
   OpR X f (rI0 λ i j=>.int (g i j)):=by
 intro Gm s σ H x y v u Q I a b h;obtain⟨i,j,rfl,rfl,q⟩:=h;obtain⟨t,rfl⟩:=a;obtain⟨c,rfl⟩:=b;exact rule i j t c s _ _ ⟨.int (g i j),H,I.tok _,⟨_,rfl⟩,q⟩
theorem opB0{f:Value->Value->Sem Value}{g:Int->Int->Bool}(rule:∀(i j:Int)(t u:Tok)(s:Shared)(Q:Value->Shared->Prop)(E:Value->Shared->Prop),Q (.bool (g i j)) s->wpAny (model X.prog X.w) X.A (f (.int i t) (.int j u)) Q E s) :
   OpR X f (rI0 λ i j=>.bl (g i j)):=by
 intro Gm s σ H x y v u Q I a b h;obtain⟨i,j,rfl,rfl,q⟩:=h;obtain⟨t,rfl⟩:=a;obtain⟨c,rfl⟩:=b;exact rule i j t c s _ _ ⟨.bl (g i j),H,I,rfl,q⟩
def CPow(i j:Int):Prop:=0<=j/\j<=1000000/\i.natAbs < 2 ^ 64
def CMul(i j:Int):Prop:=(-(2 ^ 64) < i/\i < 2 ^ 64)∨(-(2 ^ 64) < j/\j < 2 ^ 64)
theorem CMul.ok{i j:Int}(h:CMul i j):IntMulOk i j:=by
 rcases h with⟨h1,h2⟩ | ⟨h1,h2⟩
 . exact .of_left (intBits_le_64 h1 h2)
 exact .of_right (intBits_le_64 h1 h2)
theorem qaS0:OpR X (binaryOp .Add) (rI0 λ i j=>.int (i+j)):=opI0 λ _ _ _ _ _ _ _ q=>add_int q
theorem qL8:OpR X (binaryOp .Sub) (rI0 λ i j=>.int (i - j)):=opI0 λ _ _ _ _ _ _ _ q=>sub_int q
theorem qaR5:OpR X (binaryOp .Mult) (rI CMul λ i j=>.int (i * j)):=opI λ _ _ _ _ _ _ _ a q=>mul_int q a.ok
theorem qx2:OpR X (binaryOp .Mod) (rI (λ _ j=>0 < j) λ i j=>.int (i % j)):=opI λ i j _ _ _ _ _ a q=>by
 have b:(0:Int) < j:=a;exact mod_int' (by lia) (by rw[Int.fmod_eq_emod_of_nonneg i (by lia)];exact q)
theorem qaR3:OpR X (binaryOp .Pow) (rI CPow λ i j=>.int (i ^ j.toNat)):=opI λ _ _ _ _ _ _ _ a q=>pow_int_small a.1 a.2.1 a.2.2 q
end
section
variable{X:Cx}{a b c:Expr}{ta tb tc:TE}{pos:Pos}
theorem qaM0{Gm:List (Addr×Obj)}{σ:St}{H:Hp}{s:Shared}{Q:VK}{k a:Bool}(I:Inv X Gm σ H s)(q:Q (.bl k) H)(e:k=a):EP X Gm σ Q (.bool a) s:=by
 subst e;exact⟨.bl k,H,I,rfl,q⟩
theorem Hj:OpR X (compareOp .Lt) (rI0 λ i j=>.bl (decide (i < j))):=opB0 λ _ _ _ _ _ _ _ q=>lt_int q
theorem op_le:OpR X (compareOp .LtE) (rI0 λ i j=>.bl (decide (i<=j))):=opB0 λ _ _ _ _ _ _ _ q=>le_int q
theorem Bq:OpR X (compareOp .Gt) (rI0 λ i j=>.bl (decide (j < i))):=opB0 λ _ _ _ _ _ _ _ q=>gt_int q
theorem Kq:OpR X (compareOp .GtE) (rI0 λ i j=>.bl (decide (j<=i))):=opB0 λ _ _ _ _ _ _ _ q=>ge_int q
theorem qaR6:OpR X (compareOp .Is) (λ x y H Q=>y=.non/\Q (.bl (decide (x=.non))) H):=by
 intro Gm s σ H x y v u Q I a b h;obtain⟨rfl,q⟩:=h;cases b;refine is_none_gen (qaM0 I q ?_);cases x<;>first
   | (cases a;rfl)
   | (obtain⟨t,rfl⟩:=a;rfl)
theorem qaI8:OpR X (compareOp .IsNot) (λ x y H Q=>y=.non/\Q (.bl (!decide (x=.non))) H):=by
 intro Gm s σ H x y v u Q I a b h;obtain⟨rfl,q⟩:=h;cases b;refine isnot_none_gen (qaM0 I q ?_);cases x<;>first
   | (cases a;rfl)
   | (obtain⟨t,rfl⟩:=a;rfl)
theorem OpR.or{f:Value->Value->Sem Value}{r a:R2}(h:OpR X f r)(h':OpR X f a):OpR X f (λ x y H Q=>r x y H Q∨a x y H Q):=by
 intro Gm s σ H x y v u Q I b c q;rcases q with q | q
 . exact h Gm s σ H x y v u Q I b c q
 exact h' Gm s σ H x y v u Q I b c q
theorem qb0(b:Expr)(h:op≠.In:=by decide)(h2:op≠.NotIn:=by decide):behindInMarks op b=false:=by
 have a:(op == CmpOp.In)=false:=by cases op<;>first | rfl | exact absurd rfl h
 have e2:(op == CmpOp.NotIn)=false:=by cases op<;>first | rfl | exact absurd rfl h2
 cases b<;>simp[behindInMarks,a,e2]
theorem qaH9{r:R2}(c:OpR X (compareOp op) r)(d:PE X a ta)(e:PE X b tb)(hm:behindInMarks op b=false):PE X (.Compare a [op] [b] pos) (tOp r ta tb):=by
 intro Gm s σ H Q I h;exact wpAny_Compare1 (binT d e I h λ v u f x y H2 I2 g i q=>c Gm f σ H2 x y v u Q I2 g i q) hm
def tTest(t:TE):TT:=λ σ H Q=>t σ H λ x H'=>∃ k,x=.bl k/\Q k H'
theorem qaG3{r:R2}(d:OpR X (compareOp op) r)(f:PE X a ta)(g:PE X b tb)(hm:behindInMarks op b=false):PT X (.Compare a [op] [b] pos) (tTest (tOp r ta tb)):=by
 intro Gm s σ H Q I h;refine wpAny_isTrue_Compare1 (thn (f Gm s σ H _ I h) λ v i ⟨x,H1,I1,j,l⟩=>thn (g Gm i σ H1 _ I1 l) λ u m ⟨y,H2,I2,n,q2⟩ =>
   thn (d Gm m σ H2 x y v u _ I2 j n q2) λ c q ⟨z,H3,I3,o,k,e,p⟩=>?_) hm
 subst e;cases o;exact wpAny_truthy_bool ⟨H3,I3,p⟩
def qaE8(r a:R2)(ta tb tc:TE):TE:=λ σ H Q=>ta σ H λ x H1=>tb σ H1 λ y H2=>r x y H2 λ z H3=>∃ k,z=.bl k /\
 (if k=true then tc σ H3 λ b H4=>a y b H4 Q else Q (.bl false) H3)
theorem qay5{f:CmpOp}{r i:R2}(m:OpR X (compareOp op) r)(g:OpR X (compareOp f) i)(n:PE X a ta)(o:PE X b tb)(p:PE X c tc)(hm:lastMarks [op,f] [b,c]=false:=by with_unfolding_all rfl):PE X (.Compare a [op,f] [b,c] pos) (qaE8 r i ta tb tc):=by
 intro Gm s σ H Q I h;refine Compare_chain (thn (n Gm s σ H _ I h) λ v q ⟨x,H1,I1,t,w⟩=>chain_link (thn (o Gm q σ H1 _ I1 w) λ u A ⟨y,H2,I2,j,q2⟩ =>
   thn (m Gm A σ H2 x y v u _ I2 t j q2) λ d B ⟨z,H3,I3,C,k,e,l⟩=>?_)) hm
 subst e;cases C;refine wpAny_truthy_bool ?_;cases k with
 | false=>exact ite_ff ⟨.bl false,H3,I3,rfl,l⟩
 | true=>exact ite_tt (chain_last (thn (p Gm B σ H3 _ I3 l) λ D E ⟨F,H4,I4,G,J⟩=>g Gm E σ H4 y F u D Q I4 j G J))
theorem qS4:(sizeLine:Nat) < 2 ^ 63:=by rw[sizeLine_eq];decide
theorem qaf8:OpR X (binaryOp .Add) (λ x y H Q=>∃ i j,x=.str i/\y=.str j/\i.length+j.length<=sizeLine/\Q (.str (i++j)) H):=by
 intro Gm s σ H x y v u Q I a b h;obtain⟨i,j,rfl,rfl,c,q⟩:=h;obtain⟨t,rfl⟩:=a;obtain⟨d,rfl⟩:=b;exact add_str (λ d e=>⟨.str (i++j),H,I.tok _,⟨_,rfl⟩,q⟩) c
theorem Gs{x:V}(r:Vals [x] us):∃ u,us=[u]/\RelV x u:=by
 cases r with
 | cons a b=>cases b;exact⟨_,rfl,a⟩
theorem Kr{x y:V}(r:Vals [x,y] us):∃ u a,us=[u,a]/\RelV x u/\RelV y a:=by
 cases r with
 | cons b c =>
   cases c with
   | cons d e=>cases e;exact⟨_,_,rfl,b,d⟩
theorem qaD3:CallR X (.builtin "abs") (λ xs H Q=>∃ i,xs=[.int i]/\Q (.int (if i < 0 then -i else i)) H):=by
 intro Gm s σ H xs a Q I r h;obtain⟨i,rfl,q⟩:=h;obtain⟨u,rfl,t,rfl⟩:=Gs r;exact call_abs_int λ u b=>⟨.int (if i < 0 then -i else i),H,I.tok _,⟨_,rfl⟩,q⟩
theorem qaq6(b:X.calm=true):CallR X (.builtin "max") (λ xs H Q=>∃ i j,xs=[.int i,.int j]/\Q (.int (if j > i then j else i)) H):=by
 intro Gm s σ H xs c Q I r h;obtain⟨i,j,rfl,q⟩:=h;obtain⟨u,d,rfl,⟨t,rfl⟩,⟨e,rfl⟩⟩:=Kr r;refine max_two_ints (I.ok.hd b) λ f g k=>⟨_,H,I.kept k,?_,q⟩
 by_cases a:j > i
 . rw[if_pos a,if_pos a];exact⟨_,rfl⟩
 rw[if_neg a,if_neg a];exact⟨_,rfl⟩
end
structure ObjM(h:Heap)(x dx C:Addr)(mA:Str->Option Value):Prop where
 obj:h.get? x=some (PySem.W.instObj C dx)
 ns:h.Ns1 dx mA
 ne:dx≠x
theorem qy1{h:Heap}{dx:Addr}{mA:Str->Option Value}(n:h.Ns1 dx mA):∃ od,h.get? dx=some od/\∀ name,PySem.W.lookIn name od=some (mA name):=by
 obtain⟨o,c,l,d,f,g,_,i⟩:=n;refine⟨o,d,λ name=>?_⟩;have e:=i name;unfold nsFind findBy at e;rw[<- Array.find?_toList] at e;unfold PySem.W.lookIn;rw[f];dsimp only;split
 . rename_i y q
   rw[q] at e;exact congrArg some e
 rename_i q
 rw[q] at e;have a:c.toList.any (·.refKey)=false:=by
   rw[List.any_eq_false];intro y j;obtain⟨z,t,b⟩:=g y (Array.mem_toList_iff.mp j);simp[DictEntry.refKey,b]
 have k:¬ c.toList.any (·.refKey)=true:=by rw[a];exact zAc
 rw[if_neg k];exact congrArg some e
theorem ObjM.look{h:Heap}{x dx C:Addr}{mA:Str->Option Value}(I:ObjM h x dx C mA):∃ od,PySem.W.InstAt h x (PySem.W.instObj C dx) C (some od)/\∀ name,PySem.W.lookIn name od=some (mA name) :=
 let ⟨od,ho,hl⟩:=qy1 I.ns
 ⟨od,⟨I.obj,rfl,rfl,ho⟩,hl⟩
section
variable{prog:Program}{w:World}{A:Around}{E:Value->Shared->Prop}{s:Shared}{K:PySem.W.Frag}{x dx C f:Addr}{mA:Str->Option Value}{name:Str}{v:Value}
theorem qaL7{expr:Bool}{Q:Value->Shared->Prop}(X:K.In s.heap)(I:ObjM s.heap x dx C mA)(b:PySem.W.plainGet K C name=true)(c:PySem.W.hasDictIn K C=true)(d:PySem.W.findIn K (.ref C) name=some none)(e:mA name=some v)(a:PySem.W.handedIn v=true)(h:Q v { s with toks:=s.toks+1 }) :
   wpAny (model prog w) A (getAttr (.ref x) name expr) Q E s:=by
 obtain⟨g,J,f⟩:=I.look;exact PySem.W.get_value X J (PySem.W.plainGet_of b).1 (PySem.W.findObj_own c d rfl (by rw[f,e])) a h
theorem qaB3{Q:Value×List Value->Shared->Prop}(X:K.In s.heap)(I:ObjM s.heap x dx C mA)(a:PySem.W.plainGet K C name=true)(b:PySem.W.findIn K (.ref C) name=some (some (.ref f)))(c:PySem.W.isFn K (.ref f)=true)(d:mA name=none)(h:Q (.ref f,[.ref x]) s) :
   wpAny (model prog w) A (getMethod (.ref x) name pl) Q E s:=by
 obtain⟨e,J,g⟩:=I.look;exact PySem.W.method_fn X J (PySem.W.plainGet_of a).1 (PySem.W.plainGet_of a).2 b (zBj.mp c) (by show (PySem.W.lookIn name e).map (·.isSome)=some false;rw[g,d];rfl) h
theorem qaF0{ns:List Str}{Q:Unit->Shared->Prop}(X:K.In s.heap)(I:ObjM s.heap x dx C mA)(j:PySem.W.findIn K (.ref C) "__setattr__" = some (some (.builtin "object.__setattr__")))(k:PySem.W.plainOver K C=true)(l:PySem.W.takerIn K C name=some none)(m:PySem.W.hasDictIn K C=true)(n:PySem.Within mA ns)(hsz:ns.length<=sizeLine)(h:∀ h',ObjM h' x dx C (λ y=>if y=name then some v else mA y)->Heap.SameBut dx s.heap h'->Q () { s with heap:=h',toks:=s.toks+2 }) :
   wpAny (model prog w) A (setAttr (.ref x) name v) Q E s:=by
 obtain⟨u,J,z⟩:=I.look;refine PySem.W.set_plain X J j (PySem.W.osa_open (s:={ s with toks:=s.toks+1 }) (r:=none) X J k l λ b=>?_);obtain⟨B,o,e⟩:=PySem.W.any_some m;have p:s.heap.get? x=some ⟨.ref C,some dx,.plain,#[]⟩:=I.obj;refine wpAny_bind (wpAny_pure (wpAny_bind (wpAny_bind (wpAny_loadPart p (wpAny_bind (PySem.W.Looks.here (s:={ s with toks:=s.toks+1 }) (PySem.W.looks_clsIn X o) ?_))))));rw[e];refine wpAny_pure (a:=some dx) (wpAny_bind (wpAny_pure (wpAny_bind ?_)));refine wpAny_nsSet1 (s:={ s with toks:=s.toks+1 }) I.ns λ h' c d=>?_
 obtain⟨D,q,t,f,g,i⟩:=c.count (PySem.Within.cons name v n);refine wpAny_bind (wpAny_lookBehind f (by rw[g];exact pastItsLine_dict (zAm i (by rw[zAn];lia))) ?_);exact wpAny_pure (h _ ⟨(d.2 _ (Ne.symm I.ne)).trans I.obj,c,I.ne⟩ d)
theorem qaA1{R:Result->Shared->Prop}{vs:List Value}(X:K.In s.heap)(hm:PySem.W.makesIn K C=true)(hi:PySem.W.findIn K (.ref C) "__init__" = some (some (.ref f)))(a:PySem.W.typeIn K (.ref f)=some (.type "function"))(h:codeAny (model prog w) (A.under (.builtin "type.__call__" ⟨.ref C::vs,kw⟩)) (.call (.ref f) ⟨.ref (s.heap.objs.size+1)::vs,kw⟩) (PySem.W.InitBack (s.heap.objs.size+1) R)
     { s with heap:=(s.heap.push PySem.W.emptyDict).push (PySem.W.instObj C s.heap.objs.size) }) :
   codeAny (model prog w) A (.call (.ref C) ⟨vs,kw⟩) R s:=by
 obtain⟨b,g,d,t,c⟩:=s;exact PySem.W.make_core (PySem.W.makes_of X hm) (PySem.W.looks_findIn X hi) (λ self=>PySem.W.bind_fn X self a) (.inl rfl) h
end
noncomputable def Bi(f:Str)(v:V):List (Str×V)->List (Str×V)
 | []=>[(f,v)]
 | (g,x)::r=>if g=f then (g,v)::r else (g,x)::Bi f v r
theorem qv6(f g:Str)(v:V):∀ fs:List (Str×V),(Bi f v fs).lookup g=if g=f then some v else fs.lookup g
 | []=>by
   show List.lookup g [(f,v)]=_;by_cases h:g=f
   . have a:(g == f)=true:=zBj.mpr h
     simp only[List.lookup,a,if_pos h]
   have a:(g == f)=false:=zBd.mpr h;simp only[List.lookup,a,if_neg h]
 | (k,x)::r=>by
   have c:=qv6 f g v r;rw[show Bi f v ((k,x)::r)=(if k=f then (k,v)::r else (k,x)::Bi f v r) from rfl];by_cases b:k=f
   . rw[if_pos b]
     by_cases h:g=k
     . have a:(g == k)=true:=zBj.mpr h
       simp only[List.lookup,a,if_pos (h.trans b)]
     have a:(g == k)=false:=zBd.mpr h;simp only[List.lookup,a,if_neg (λ e:g=f=>h (e.trans b.symm))]
   rw[if_neg b];by_cases h:g=k
   . have a:(g == k)=true:=zBj.mpr h
     simp only[List.lookup,a,if_neg (λ e:g=f=>b (h.symm.trans e))]
   have a:(g == k)=false:=zBd.mpr h;simp only[List.lookup,a];exact c
theorem qs4(f:Str)(v:V):∀ fs:List (Str×V),f∈(Bi f v fs).map (·.1)/\∀ g,g∈fs.map (·.1)->g∈(Bi f v fs).map (·.1)
 | []=>⟨by simp[Bi],λ g h=>by simp at h⟩
 | (k,x)::r=>by
   obtain⟨b,c⟩:=qs4 f v r;rw[show Bi f v ((k,x)::r)=(if k=f then (k,v)::r else (k,x)::Bi f v r) from rfl];by_cases a:k=f
   . rw[if_pos a]
     subst a;exact⟨by simp,λ g h=>by simpa using h⟩
   rw[if_neg a];refine⟨?_,λ g h=>?_⟩
   . rw[zAx]
     exact zA6 _ b
   rw[zAx] at h ⊢;rcases zAl.mp h with e | e
   . exact zAl.mpr (.inl e)
   exact zA6 _ (c g e)
theorem qv7(f:Str)(v:V):∀ fs:List (Str×V),(Bi f v fs).length<=fs.length+1
 | []=>by simp[Bi]
 | (k,x)::r=>by
   have b:=qv7 f v r;rw[show Bi f v ((k,x)::r)=(if k=f then (k,v)::r else (k,x)::Bi f v r) from rfl];by_cases a:k=f
   . rw[if_pos a,zAn,zAn];lia
   rw[if_neg a,zAn,zAn];lia
theorem RelO.some_of{v:V}{o:Option Value}(r:RelO (some v) o):∃ u,o=some u/\RelV v u:=by
 cases o with
 | none=>exact(show False from r).elim
 | some u=>exact⟨u,rfl,r⟩
theorem RelO.none_of{o:Option Value}(r:RelO none o):o=none:=by
 cases o with
 | none=>rfl
 | some u=>exact(show False from r).elim
theorem qW3{v:V}{u:Value}(r:RelV v u):PySem.W.handedIn u=true:=by
 cases v with
 | non=>cases (show u=Value.none from r);rfl
 | bl b=>cases (show u=Value.bool b from r);rfl
 | int i=>obtain⟨t,e⟩:=(show ∃ t,u=Value.int i t from r);cases e;rfl
 | str x=>obtain⟨t,e⟩:=(show ∃ t,u=Value.str x t from r);cases e;rfl
 | byt b=>obtain⟨t,e⟩:=(show ∃ t,u=Value.bytes b t from r);cases e;rfl
 | flt b=>obtain⟨t,e⟩:=(show ∃ t,u=Value.float b t from r);cases e;rfl
 | ref a=>cases (show u=Value.ref a from r);rfl
 | ty n=>cases (show u=Value.type n from r);rfl
section
variable{P:Program}{w:World}{H:Hp}{h:Heap}{a C dx:Addr}{fs:List (Str×V)}
theorem qW1(b:HOk P w H h)(e:H a=some (.ins C dx fs)):∃ mA,ObjM h a dx C mA/\(∀ f,RelO (fs.lookup f) (mA f))/\PySem.Within mA (fs.map (·.1))/\fs.length<=1000/\H dx=some (.own a):=by
 obtain⟨d,z,c,g,mA,n,r,q⟩:=(show ObjOk P w H h a (.ins C dx fs) from b a _ e)
 exact⟨mA,⟨g,n,c⟩,r,q,z,d⟩
end
structure Cls(K:PySem.W.Frag)(C:Addr):Prop where
 pg:PySem.W.plainGet K C Str.empty=true
 hd:PySem.W.hasDictIn K C=true
 po:PySem.W.plainOver K C=true
 sa:PySem.W.findIn K (.ref C) "__setattr__" = some (some (.builtin "object.__setattr__"))
theorem Cls.get{K:PySem.W.Frag}{C:Addr}(c:Cls K C)(f:Str):PySem.W.plainGet K C f=true:=c.pg
def qc1(K:PySem.W.Frag)(C:Addr)(f:Str):Prop:=PySem.W.findIn K (.ref C) f=some none
theorem qc1.taker{K:PySem.W.Frag}{C:Addr}{f:Str}(n:qc1 K C f):PySem.W.takerIn K C f=some none:=by
 unfold PySem.W.takerIn;rw[show PySem.W.findIn K (.ref C) f=some none from n];rfl
structure K7(K:PySem.W.Frag)(C:Addr)(m:Str)(f:Addr):Prop where
 at_:PySem.W.findIn K (.ref C) m=some (some (.ref f))
 fn:PySem.W.isFn K (.ref f)=true
 kp:PySem.W.keepIn K (.ref f)=true
section
variable{X:Cx}{Gm:List (Addr×Obj)}{σ:St}{H:Hp}{s:Shared}{a C dx:Addr}{fs:List (Str×V)}{f:Str}{v:V}{A:Around}{E:Value->Shared->Prop}
theorem qaj0{b:Bool}{Q:Value->Shared->Prop}(I:Inv X Gm σ H s)(e:H a=some (.ins C dx fs))(c:Cls X.K C)(n:qc1 X.K C f)(l:fs.lookup f=some v)(h:∀ u s',Inv X Gm σ H s'->RelV v u->Q u s'):wpAny (model X.prog X.w) A (getAttr (.ref a) f b) Q E s:=by
 obtain⟨g,O,r,_,_,_⟩:=qW1 I.hok e;obtain⟨u,i,d⟩:=RelO.some_of (v:=v) (o:=g f) (by rw[<- l];exact r f);exact qaL7 I.kIn O (c.get f) c.hd n i (qW3 d) (h u _ (I.tok _) d)
theorem qB7{m:Str}{g:Addr}{Q:Value×List Value->Shared->Prop}(I:Inv X Gm σ H s)(e:H a=some (.ins C dx fs))(c:Cls X.K C)(k:K7 X.K C m g)(l:fs.lookup m=none)(h:Q (.ref g,[.ref a]) s):wpAny (model X.prog X.w) A (getMethod (.ref a) m pl) Q E s:=by
 obtain⟨b,O,r,_,_,_⟩:=qW1 I.hok e;have d:b m=none:=RelO.none_of (by rw[<- l];exact r m);exact qaB3 I.kIn O (c.get m) k.at_ k.fn d h
theorem qad5{y:V}{u:Value}{Q:Unit->Shared->Prop}(I:Inv X Gm σ H s)(e:H a=some (.ins C dx fs))(c:Cls X.K C)(n:qc1 X.K C f)(D:fs.length < 1000)(k:RelV y u)(h:∀ s',Inv X Gm σ (upd H a (.ins C dx (Bi f y fs))) s'->Q () s'):wpAny (model X.prog X.w) A (setAttr (.ref a) f u) Q E s:=by
 obtain⟨d,O,r,i,_,j⟩:=qW1 I.hok e;have l:(fs.map (·.1)).length<=sizeLine:=by rw[zAf,sizeLine_eq];lia
 refine qaF0 I.kIn O c.sa c.po n.taker c.hd i l λ m O' p=>h _ ?_
 have t:∃ o,m.get? dx=some o:=let ⟨o,_,_,e',_⟩:=O'.ns;⟨o,e'⟩
 refine I.write (x:=a) (e:=dx) (by rw[e];exact True.intro) (.inr j) (λ b q v z=>(p.2 b v).trans z) t ?_;refine⟨by rw[qb3 O.ne];exact j,?_,O.ne,O'.obj,_,O'.ns,λ g=>?_,λ g B=>?_⟩
 . have:=qv7 f y fs;lia
 . show RelO ((Bi f y fs).lookup g) (if g=f then some u else d g)
   rw[qv6];by_cases q:g=f
   . rw[if_pos q,if_pos q];exact k
   rw[if_neg q,if_neg q];exact r g
 by_cases q:g=f
 . rw[q];exact(qs4 f y fs).1
 refine(qs4 f y fs).2 g (i g λ z=>B ?_);show (if g=f then some u else d g)=none;rw[if_neg q];exact z
theorem Inv.made(I:Inv X Gm σ H s):Inv X Gm σ (upd (upd H s.heap.objs.size (.own (s.heap.objs.size+1))) (s.heap.objs.size+1) (.ins C s.heap.objs.size []))
   { s with heap:=(s.heap.push PySem.W.emptyDict).push (PySem.W.instObj C s.heap.objs.size) }:=by
 have c:(s.heap.push PySem.W.emptyDict).get? s.heap.objs.size=some PySem.W.emptyDict:=zAt s.heap rfl;have e2:((s.heap.push PySem.W.emptyDict).push (PySem.W.instObj C s.heap.objs.size)).get? (s.heap.objs.size+1)=some (PySem.W.instObj C s.heap.objs.size):=by
   have:=zAt (s.heap.push PySem.W.emptyDict) (o:=PySem.W.instObj C s.heap.objs.size) rfl
   rwa[Heap.size_push] at this
 have f:(s.heap.push PySem.W.emptyDict).Ns s.heap.objs.size (λ _=>none):=⟨PySem.W.emptyDict,#[],_,c,rfl,(λ e g=>absurd g (by simp)),λ _=>rfl⟩
 have I1:=I.laid (a:=s.heap.objs.size) (o:=.own (s.heap.objs.size+1)) (h':=s.heap.push PySem.W.emptyDict) (t':=s.toks) (λ b u q=>zA2 _ q) (zA3 _) ⟨_,c⟩;refine I1.laid (a:=s.heap.objs.size+1) (o:=.ins C s.heap.objs.size []) (t':=s.toks) (λ b u q=>zA2 _ q) (Nat.le_of_eq (Heap.size_push _ _)) ?_;have d:s.heap.objs.size≠s.heap.objs.size+1:=zAh (Nat.lt_succ_self _);refine⟨by rw[qb3 d,qb2],zBk _,d,e2,λ _=>none,(Heap.Ns1.of_empty f).at λ o q=>zA2 _ q,λ _=>True.intro,λ y h=>absurd rfl h⟩
theorem qav5{prog:Program}{w:World}{env:Env}{e:Expr}{f:Str}{pos:Pos}{s:Shared}{Q:Value->Shared->Prop}(a:attributeBase e f env (eval e env)=eval e env)(h:wpAny (model prog w) A (eval e env) (λ o s₁=>wpAny (model prog w) A (getAttr o f true) Q E s₁) E s):wpAny (model prog w) A (eval (.Attribute e f pos) env) Q E s :=
 Attribute_any_ h (by rw[arm_eval_Attribute,a])
end
def tFld(K:PySem.W.Frag)(ta:TE)(f:Str):TE:=λ σ H Q=>ta σ H λ x H1=>∃ a C dx fs v,x=.ref a/\H1 a=some (.ins C dx fs)/\Cls K C/\qc1 K C f/\fs.lookup f=some v/\Q v H1
def sFld(K:PySem.W.Frag)(ta tv:TE)(f:Str):TS:=λ D σ H=>tv σ H λ y H1=>ta σ H1 λ x H2=>∃ a C dx fs,x=.ref a/\H2 a=some (.ins C dx fs)/\Cls K C/\qc1 K C f/\fs.length < 1000 /\
 D.nx σ (upd H2 a (.ins C dx (Bi f y fs)))
section
variable{X:Cx}{o e value:Expr}{f:Str}{pos pos':Pos}{ta tv:TE}
theorem Lw(d:PE X e ta)(g:attributeBase e f X.env (eval e X.env)=eval e X.env):PE X (.Attribute e f pos) (tFld X.K ta f):=by
 intro Gm s σ H Q I h;refine qav5 g (thn (d Gm s σ H _ I h) λ u o b=>?_);obtain⟨x,H1,I1,i,a,C,p,r,v,j,k,c,n,l,q⟩:=b;subst j;obtain rfl:u=Value.ref a:=i;exact qaj0 I1 k c n l λ t w I2 m=>⟨v,H1,I2,m,q⟩
theorem qaP9(d:PE X o ta)(e:PE X value tv)(g:swapsWith value (some (.Attribute o f pos')) pos.line X.env=pure false):PS X (.Assign [.Attribute o f pos'] value pos) (sFld X.K ta tv f):=by
 intro Gm s σ H D I h;refine plainObj_wpAny_Assign_Attribute (thn (e Gm s σ H _ I h) λ u i b=>?_) g;obtain⟨y,H1,I1,j,q⟩:=b;refine thn (d Gm i σ H1 _ I1 q) λ k t b=>?_
 obtain⟨x,H2,I2,m,a,C,v,w,p,r,c,n,l,q2⟩:=b;subst p;obtain rfl:k=Value.ref a:=m;exact qad5 I2 r c n l j λ z I3=>⟨σ,_,I3,q2⟩
theorem qaD5{m:Str}{apos:Pos}{args:List Expr}{Gm:List (Addr×Obj)}{s:Shared}{σ:St}{H:Hp}{Q:Value->Shared->Prop}{te:TE}(i:PE X e te)(I:Inv X Gm σ H s)(h:te σ H λ x H1=>∃ a C dx fs g,x=.ref a/\H1 a=some (.ins C dx fs)/\Cls X.K C/\K7 X.K C m g/\fs.lookup m=none /\
     ∀ b,Inv X Gm σ H1 b->wpAny (model X.prog X.w) X.A (callWith pos (.ref g) [.ref a] (backTo pos (starEach args X.env)) (backToKw pos (keywordEach [] X.env))) Q X.xe b)(j:eval (.Call (.Attribute e m apos) args [] pos) X.env=(do
     let ov <- eval e X.env
     standAt apos.atName
     let (f,first) <- holding [ov] (getMethod ov m pl)
     callWith pos f first (backTo pos (starEach args X.env)) (backToKw pos (keywordEach [] X.env)))) :
   wpAny (model X.prog X.w) X.A (eval (.Call (.Attribute e m apos) args [] pos) X.env) Q X.xe s:=by
 refine PySem.W.methodCall_KW (pl:=pl) (thn (i Gm s σ H _ I h) λ u b d=>?_) j;obtain⟨x,H1,I1,n,a,C,dx,fs,g,o,p,c,k,l,q⟩:=d;subst o;obtain rfl:u=Value.ref a:=n;exact qB7 I1 p c k l (q b I1)
end
section
variable{X:Cx}{Gm:List (Addr×Obj)}{σ:St}{H:Hp}{s:Shared}{A:Around}{E Q:Value->Shared->Prop}{c:Value}{b:Bool}
inductive Hh(K:PySem.W.Frag)(H:Hp):V->Value->Prop where
 | non:Hh K H .non (.type "NoneType")
 | bl (x:Bool):Hh K H (.bl x) (.type "bool")
 | int (i:Int):Hh K H (.int i) (.type "int")
 | str (x:Str):Hh K H (.str x) (.type "str")
 | flt (x:UInt64):Hh K H (.flt x) (.type "float")
 | lst {a:Addr} {xs:List V} (e:H a=some (.lst xs)):Hh K H (.ref a) (.type "list")
 | frz {a:Addr} {o:Obj} {xs:List V} (e:H a=some (.frz o (.lst xs))):Hh K H (.ref a) (.type "list")
 | tup {a:Addr} {xs:List V} (e:H a=some (.tup xs)):Hh K H (.ref a) (.type "tuple")
 | dK {a:Addr} {kvs:List (Key×V)} (e:H a=some (.dK kvs)):Hh K H (.ref a) (.type "dict")
 | dT {a:Addr} {kvs:List (List Key×V)} (e:H a=some (.dT kvs)):Hh K H (.ref a) (.type "dict")
 | ins {a C dx:Addr} {fs:List (Str×V)} (e:H a=some (.ins C dx fs)) (cl:Cls K C) (ha:PySem.W.findIn K (.ref C) "__class__" = some (some (.builtin "object.__class__")))
     (hn:PySem.W.specialIn K (.builtin "object.__class__") "__get__" = some (some (.builtin "getset_descriptor.__get__"))) (htk:PySem.W.takesIn K (.builtin "object.__class__")=some true)
     (hm:PySem.W.mroIn K C (.type "object")=some true):Hh K H (.ref a) (.ref C)
theorem qJ1{x:V}{u t:Value}(I:Inv X Gm σ H s)(d:RelV x u)(ty:Hh X.K H x t)(e:PySem.W.kitOne X.K t c=some b)(h:∀ k,Q (.bool b) { s with toks:=k }) :
   wpAny (model X.prog X.w) A (call (.builtin "isinstance") [u,c]) Q E s:=by
 cases ty with
 | non=>cases (show u=Value.none from d);exact PySem.W.kia_one PySem.W.kitx_none I.kIn True.intro e (λ z=>nomatch z) h
 | bl y=>cases (show u=Value.bool y from d);exact PySem.W.kia_one PySem.W.kitx_bool I.kIn True.intro e (λ z=>nomatch z) h
 | int i=>obtain⟨t,q⟩:=(show ∃ t,u=Value.int i t from d);cases q;exact PySem.W.kia_one PySem.W.kitx_int I.kIn True.intro e (λ z=>nomatch z) h
 | str y=>obtain⟨t,q⟩:=(show ∃ t,u=Value.str y t from d);cases q;exact PySem.W.kia_one PySem.W.kitx_str I.kIn True.intro e (λ z=>nomatch z) h
 | flt y=>obtain⟨t,q⟩:=(show ∃ t,u=Value.float y t from d);cases q;exact PySem.W.kia_one PySem.W.kitx_float I.kIn True.intro e (λ z=>nomatch z) h
 | @lst a g ea =>
   cases (show u=Value.ref a from d);obtain⟨_,_,n,_,f⟩:=(show ObjOk X.prog X.w H s.heap a (.lst g) from I.hok a _ ea)
   exact PySem.W.kia_one PySem.W.kitx_list I.kIn ⟨_,f,rfl⟩ e (λ z=>nomatch z) h
 | @frz a ob g ea =>
   cases (show u=Value.ref a from d);obtain⟨_,_,_,n,_,f⟩:=(show ObjOk X.prog X.w H s.heap a (.frz ob (.lst g)) from I.hok a _ ea)
   exact PySem.W.kia_one PySem.W.kitx_list I.kIn ⟨_,f,rfl⟩ e (λ z=>nomatch z) h
 | @tup a g ea =>
   cases (show u=Value.ref a from d);obtain⟨_,_,_,p⟩:=(show ObjOk X.prog X.w H s.heap a (.tup g) from I.hok a _ ea)
   obtain⟨o,f,j,_⟩:=p;exact PySem.W.kia_one PySem.W.kitx_tuple I.kIn ⟨o,f,j⟩ e (λ z=>nomatch z) h
 | @dK a kvs ea =>
   cases (show u=Value.ref a from d);obtain⟨_,_,r,_,p⟩:=(show ObjOk X.prog X.w H s.heap a (.dK kvs) from I.hok a _ ea)
   obtain⟨o,l,m,f,j,_⟩:=p;exact PySem.W.kia_one PySem.W.kitx_dict I.kIn ⟨o,f,j.1⟩ e (λ z=>nomatch z) h
 | @dT a kvs ea =>
   cases (show u=Value.ref a from d);obtain⟨_,_,g,_,o,l,m,f,j,_⟩:=(show ObjOk X.prog X.w H s.heap a (.dT kvs) from I.hok a _ ea)
   exact PySem.W.kia_one PySem.W.kitx_dict I.kIn ⟨o,f,j.1⟩ e (λ z=>nomatch z) h
 | @ins a C dx fs ea cl ha hn htk hm =>
   cases (show u=Value.ref a from d);obtain⟨v,O,_⟩:=qW1 I.hok ea;obtain⟨B,J,_⟩:=O.look;exact PySem.W.kia_one (PySem.W.kitx_own (cl.get _) cl.hd ha hn htk hm) I.kIn J e (λ z=>nomatch z) h
end
structure RoomB(cm:Bool)(k:Nat)(A:Around):Prop where
 hd:cm=true->A.handled=none
 dp:A.depth+3 * k+5 < recursionLimit
 un:A.units+16 * k+200 < cLine
abbrev Room:=RoomB true
theorem RoomB.mono{cm:Bool}{j k:Nat}{A:Around}(r:RoomB cm k A)(h:j<=k):RoomB cm j A:=⟨r.hd,by have:=r.dp;lia,by have:=r.un;lia⟩
theorem RoomB.deeper{cm:Bool}{k:Nat}{A:Around}(r:RoomB cm (k+1) A)(env:Env):RoomB cm k (A.deeper env) :=
 ⟨r.hd,by have:=r.dp;show A.depth+1+3 * k+5 < _;lia,by have:=r.un;show A.units+3+16 * k+200 < _;lia⟩
theorem qah0{A:Around}{C:Addr}:(A.under (.builtin "type.__call__" ⟨.ref C::us,kw⟩)).depth=A.depth+1:=by
 first | rfl | simp[Around.under,Code.weight,Code.isCreation,Code.isGuard,Code.isCaller,Code.frames,Code.isFrame,guardIds]
theorem qag8{A:Around}{C:Addr}:(A.under (.builtin "type.__call__" ⟨.ref C::us,kw⟩)).units=A.units+1:=by
 first | rfl | simp[Around.under,Code.cUnits,Code.frames,Code.isFrame]
theorem RoomB.make{cm:Bool}{k:Nat}{A:Around}(r:RoomB cm (k+1) A)(C:Addr)(us:List Value)(kw:List (Str×Value)):RoomB cm k (A.under (.builtin "type.__call__" ⟨.ref C::us,kw⟩)) :=
 ⟨r.hd,by have:=r.dp;rw[qah0];lia,by have:=r.un;rw[qag8];lia⟩
theorem RoomB.depth{cm:Bool}{k:Nat}{A:Around}(r:RoomB cm k A):A.depth < recursionLimit:=by have:=r.dp;lia
theorem RoomB.units{cm:Bool}{k:Nat}{A:Around}(r:RoomB cm k A):A.units+64 < cLine:=by have:=r.un;lia
def tNil:TA:=λ _ H Q=>Q [] H
def tCons(ta:TE)(tr:TA):TA:=λ σ H Q=>ta σ H λ x H1=>tr σ H1 λ xs H2=>Q (x::xs) H2
section
variable{X:Cx}{e:Expr}{es:List Expr}{te:TE}{t:TA}{pos:Pos}
theorem qv1:PA X [] tNil:=λ _ _ _ _ H Q I h=>Calls.spliced_nil ⟨[],H,I,.nil,h⟩
theorem qe3(b:PE X e te)(c:PA X es t)(d:starEach (e::es) X.env=(false,eval e X.env)::starEach es X.env:=by rfl):PA X (e::es) (tCons te t):=by
 intro pos Gm s σ H Q I h;rw[d];show wpAny _ _ (spliced ((false,eval e X.env)::backTo pos (starEach es X.env))) _ _ s;refine Calls.spliced_cons (thn (b Gm s σ H _ I h) λ u f a=>?_);obtain⟨x,H1,I1,g,i⟩:=a;exact thn (c pos Gm f σ H1 _ I1 i) λ l m ⟨j,H2,I2,k,q2⟩=>⟨x::j,H2,I2,.cons g k,q2⟩
def tTup(t:TA):TE:=λ σ H Q=>t σ H λ xs H1=>xs.length<=sizeLine/\∀ p,H1 p=none->Q (.ref p) (upd H1 p (.tup xs))
def tLst(t:TA):TE:=λ σ H Q=>t σ H λ xs H1=>xs.length<=sizeLine/\∀ p,H1 p=none->Q (.ref p) (upd H1 p (.lst xs))
theorem qaH3{x1}(h:PA X es t):PE X (.Tuple es x1 pos) (tTup t):=by
 intro Gm s σ H Q I d;refine wpAny_Tuple_spliced (thn (h pos Gm s σ H _ I d) λ f a c=>?_);obtain⟨g,H1,I1,r,z,q⟩:=c;refine⟨by rw[<- r.length];exact z,?_⟩;have i:H1 a.heap.objs.size=none:=I1.hok.fresh (zA3 _);refine⟨.ref a.heap.objs.size,upd H1 a.heap.objs.size (.tup g),I1.laid (t':=a.toks) (λ b u e=>zA2 _ e) (zA3 _) ?_,rfl,q _ i⟩;exact⟨z,f,r,⟨_,zAt _ rfl,rfl,_,rfl⟩⟩
theorem qay0(h:PA X es t):PE X (.List es pos) (tLst t):=by
 intro Gm s σ H Q I d;refine wpAny_List_spliced (thn (h pos Gm s σ H _ I d) λ f a c=>?_);obtain⟨g,H1,I1,r,z,q⟩:=c;refine⟨by rw[<- r.length];exact z,?_⟩;have i:H1 a.heap.objs.size=none:=I1.hok.fresh (zA3 _);refine⟨.ref a.heap.objs.size,upd H1 a.heap.objs.size (.lst g),I1.laid (t':=a.toks) (λ b u e=>zA2 _ e) (zA3 _) ?_,rfl,q _ i⟩;exact⟨z,f,0,r,zAt _ rfl⟩
end
abbrev Sp:=List V->Hp->VK->XK->Prop
abbrev CXT:=List Env->Hp->Shared->XK->Value->Shared->Prop
structure Env0(P:Program)(w:World)(K:PySem.W.Frag)(mg:Str->Option Value)(base:Heap)(A:Around)(outer:List Env)(s:Shared)(H:Hp):Prop where
 frames:A.frames=some outer
 mod:Mod K mg base
 bs:∀ b o,base.get? b=some o->s.heap.get? b=some o/\H b=none
 bsz:base.objs.size<=s.heap.objs.size
 funs:s.heap.FunFrames base outer
 frf:∀ b∈frs outer,H b=none
 hok:HOk P w H s.heap
 bare:AllBare s.gens
def CE(outer:List Env)(P:Program)(w:World)(H:Hp)(s:Shared)(Q:VK)(u:Value)(s':Shared):Prop :=
 ∃ v H',s'.os=s.os/\AllBare s'.gens/\Un (frs outer) [] H H' s.heap s'.heap/\HOk P w H' s'.heap/\RelV v u/\Q v H'
def CR(CX:CXT)(outer:List Env)(P:Program)(w:World)(H:Hp)(s:Shared)(Q:VK)(E:XK)(r:Result)(s':Shared):Prop :=
 match r with
 | .ok (.ret u)=>CE outer P w H s Q u s'
 | .ok _=>False
 | .error e=>CX outer H s E e s'
structure Gu(cm:Bool)(P:Program)(w:World)(K:PySem.W.Frag)(mg:Str->Option Value)(base:Heap)(CX:CXT)(k:Nat)(f:Addr)(fd:FuncData)(ps:List Str)(sp:Sp):Prop where
 len:∀ vs H Q E,sp vs H Q E->vs.length=ps.length
 run:∀(A:Around)(outer:List Env)(s:Shared)(H:Hp)(args:Args)(us:List Value)(vs:List V)(Q:VK)(E:XK),RoomB cm k A->Env0 P w K mg base A outer s H->BindsTo s fd args (ps.zip us)->Vals vs us->sp vs H Q E ->
   codeAny (model P w) A (.call (.ref f) args) (CR CX outer P w H s Q E) s
abbrev B7:=Gu true
theorem Env0.make{P:Program}{w:World}{K:PySem.W.Frag}{A:Around}{outer:List Env}{s:Shared}{H:Hp}(e:Env0 P w K mg base A outer s H)(C:Addr)(us:List Value)(kw:List (Str×Value)) :
   Env0 P w K mg base (A.under (.builtin "type.__call__" ⟨.ref C::us,kw⟩)) outer s H:=⟨by first | exact e.frames | (simpa[Around.under,Code.envs,Code.isFrame,pushEnvs] using e.frames),e.mod,e.bs,e.bsz,e.funs,e.frf,e.hok,e.bare⟩
section
variable{X:Cx}{Gm:List (Addr×Obj)}{σ:St}{H:Hp}{s s':Shared}
theorem Inv.env0(I:Inv X Gm σ H s):Env0 X.prog X.w X.K X.mg X.base X.A X.stack s H :=
 ⟨I.ok.frames,I.ok.mod,I.bs,zAm I.ok.bsz I.sz,I.stack,I.stkFree,I.hok,I.bare⟩
theorem Inv.after{Q:VK}{u:Value}(I:Inv X Gm σ H s)(h:CE X.stack X.prog X.w H s Q u s'):EP X Gm σ Q u s':=by
 obtain⟨v,H',e,bare,f,a,r,q⟩:=h;obtain⟨i,g,d,t,c⟩:=s';obtain rfl:c=s.os:=e;exact⟨v,H',I.call (h':=i) (g':=g) (d':=d) (t':=t) (ch:=[]) f a bare (λ b z=>absurd z (by simp)),r,q⟩
end
def Lx(sp:Sp)(dvs:List V)(E:St->XK)(t:TA):TE:=λ σ H Q=>t σ H λ vs H1=>sp (vs++dvs) H1 Q (E σ)
def Ks(C:Addr)(m:Str)(sp:Sp)(dvs:List V)(E:St->XK)(ta:TE)(t:TA):TE:=λ σ H Q=>ta σ H λ x H1=>∃ a dx fs,x=.ref a/\H1 a=some (.ins C dx fs)/\fs.lookup m=none /\
 t σ H1 λ vs H2=>sp (x::(vs++dvs)) H2 Q (E σ)
def tMake(C:Addr)(sp:Sp)(dvs:List V)(E:St->XK)(t:TA):TE:=λ σ H Q=>t σ H λ vs H1=>∀ x dx,H1 x=none->H1 dx=none->dx≠x ->
 sp (.ref x::(vs++dvs)) (upd (upd H1 dx (.own x)) x (.ins C dx [])) (λ v H2=>v=.non/\Q (.ref x) H2) (E σ)
def Binds(K:PySem.W.Frag)(fd:FuncData)(ps:List Str)(ds:List Value):Prop :=
 ∀(s:Shared)(us:List Value),K.In s.heap->(us++ds).length=ps.length->BindsTo s fd ⟨us,[]⟩ (ps.zip (us++ds))
theorem Binds.all{K:PySem.W.Frag}{fd:FuncData}{ps:List Str}(h:∀ us:List Value,us.length=ps.length->bindArgs fd ⟨us,[]⟩=pure (ps.zip us)):Binds K fd ps []:=λ s us _ a=>by
 rw[zAg] at a ⊢;exact .of_eq (h us a)
def qO3(CX:CXT)(X:Cx)(E:St->XK):Prop:=∀(Gm:List (Addr×Obj))(σ:St)(H:Hp)(s:Shared)(e:Value)(s':Shared),Inv X Gm σ H s->CX X.stack H s (E σ) e s'->X.xe e s'
section
variable{X:Cx}{cm:Bool}{CX:CXT}{k:Nat}{f C:Addr}{fd:FuncData}{ps:List Str}{sp:Sp}{dvs:List V}{ds:List Value}{E:St->XK}{x m:Str}{p pos apos:Pos}{e o:Expr}{es:List Expr}{ta:TE}{t:TA}
theorem qax0{Gm:List (Addr×Obj)}{σ:St}{H:Hp}{s:Shared}{Q:VK}{vs:List V}(F:Gu cm X.prog X.w X.K X.mg X.base CX k f fd ps sp)(c:RoomB cm k X.A)(d:Binds X.K fd ps ds)(g:Vals dvs ds)(i:qO3 CX X E)(I:Inv X Gm σ H s)(r:Vals vs us)(h:sp (vs++dvs) H Q (E σ)):wpAny (model X.prog X.w) X.A (call (.ref f) us) (EP X Gm σ Q) X.xe s:=by
 have b:Vals (vs++dvs) (us++ds):=r.append g;have j:(us++ds).length=ps.length:=by rw[<- b.length];exact F.len _ _ _ _ h
 refine wpAny_call (codeAny_mono (F.run X.A X.stack s H ⟨us,[]⟩ (us++ds) (vs++dvs) Q (E σ) c I.env0 (d s us I.kIn j) b h) λ r l a=>?_);cases r with
 | error e=>exact i Gm σ H s e l I a
 | ok m =>
   cases m with
   | ret u=>exact I.after a
   | next=>exact False.elim a
   | brk=>exact False.elim a
   | cont=>exact False.elim a
theorem qat0(F:Gu cm X.prog X.w X.K X.mg X.base CX k f fd ps sp)(d:RoomB cm k X.A)(g:Gl X x)(hm:X.mg x=some (.ref f))(i:PySem.W.keepIn X.K (.ref f)=true)(j:Binds X.K fd ps ds)(l:Vals dvs ds)(m:qO3 CX X E)(n:PA X (e::es) t)(a:(x == ("__debug__" : Str))=false:=by decide)(o:starEach (e::es) X.env=(false,eval e X.env)::starEach es X.env:=by rfl)(b:(backTo pos (starEach es X.env)).any (·.1)=false:=by rfl) :
   PE X (.Call (.Name x p) (e::es) [] pos) (Lx sp dvs E t):=by
 intro Gm s σ H Q I h;refine wpAny_Call_Name_kw (qB4 I g hm ?_ a);refine PySem.W.callWith_K (h₀:=X.base) I.ok.mod.kin i (thn (n pos Gm s σ H _ I h) λ u v c=>?_) o b;obtain⟨y,H1,I1,r,q⟩:=c;refine⟨I1.kIn,?_⟩;exact qax0 F d j l m I1 r q
theorem qas9(n:PE X o ta)(c:Cls X.K C)(hm:K7 X.K C m f)(F:Gu cm X.prog X.w X.K X.mg X.base CX k f fd ps sp)(p:RoomB cm k X.A)(v:Binds X.K fd ps ds)(y:Vals dvs ds)(z:qO3 CX X E)(B:PA X (e::es) t)(d:starEach (e::es) X.env=(false,eval e X.env)::starEach es X.env:=by rfl)(g:(backTo pos (starEach es X.env)).any (·.1)=false:=by rfl)(D:eval (.Call (.Attribute o m apos) (e::es) [] pos) X.env=(do
     let ov <- eval o X.env
     standAt apos.atName
     let (f,first) <- holding [ov] (getMethod ov m pl)
     callWith pos f first (backTo pos (starEach (e::es) X.env)) (backToKw pos (keywordEach [] X.env))):=by rfl) :
   PE X (.Call (.Attribute o m apos) (e::es) [] pos) (Ks C m sp dvs E ta t):=by
 intro Gm s σ H Q I h;refine PySem.W.methodCall_KW (pl:=pl) (thn (n Gm s σ H _ I h) λ u G b=>?_) D;obtain⟨x,H1,I1,J,a,N,O,L,M,l,q⟩:=b;subst L;obtain rfl:u=Value.ref a:=J;refine qB7 I1 M c hm l ?_;refine PySem.W.callWith_K (first:=[.ref a]) (h₀:=X.base) I.ok.mod.kin hm.kp (thn (B pos Gm G σ H1 _ I1 q) λ i P b=>?_) d g;obtain⟨j,H2,I2,r,q2⟩:=b;refine⟨I2.kIn,?_⟩;exact qax0 (us:=.ref a::i) (vs:=.ref a::j) F p v y z I2 (.cons rfl r) q2
theorem qI0(d:PE X o ta)(c:Cls X.K C)(hm:K7 X.K C m f)(F:Gu cm X.prog X.w X.K X.mg X.base CX k f fd ps sp)(e:RoomB cm k X.A)(g:Binds X.K fd ps ds)(i:Vals dvs ds)(j:qO3 CX X E)(n:eval (.Call (.Attribute o m apos) [] [] pos) X.env=(do
     let ov <- eval o X.env
     standAt apos.atName
     let (f,first) <- holding [ov] (getMethod ov m pl)
     callWith pos f first (backTo pos (starEach [] X.env)) (backToKw pos (keywordEach [] X.env))):=by rfl) :
   PE X (.Call (.Attribute o m apos) [] [] pos) (Ks C m sp dvs E ta tNil):=by
 intro Gm s σ H Q I h;refine PySem.W.methodCall_KW (pl:=pl) (thn (d Gm s σ H _ I h) λ u v b=>?_) n;obtain⟨x,H1,I1,p,a,y,z,r,t,l,q⟩:=b;subst r;obtain rfl:u=Value.ref a:=p;refine qB7 I1 t c hm l ?_;exact PySem.W.callWith_K0 (first:=[.ref a]) I1.kIn hm.kp (qax0 (us:=[.ref a]) (vs:=[.ref a]) F e g i j I1 (.cons rfl .nil) q)
structure Mk(K:PySem.W.Frag)(C f:Addr):Prop where
 makes:PySem.W.makesIn K C=true
 init:PySem.W.findIn K (.ref C) "__init__" = some (some (.ref f))
 fn:PySem.W.isFn K (.ref f)=true
 kp:PySem.W.keepIn K (.ref C)=true
theorem qaw9{Gm:List (Addr×Obj)}{σ:St}{H:Hp}{s:Shared}{Q:VK}{vs:List V}(M:Mk X.K C f)(F:Gu cm X.prog X.w X.K X.mg X.base CX k f fd ps sp)(d:RoomB cm (k+1) X.A)(g:Binds X.K fd ps ds)(i:Vals dvs ds)(j:qO3 CX X E)(I:Inv X Gm σ H s)(r:Vals vs us)(h:∀ x dx,H x=none->H dx=none->dx≠x->sp (.ref x::(vs++dvs)) (upd (upd H dx (.own x)) x (.ins C dx [])) (λ v H2=>v=.non/\Q (.ref x) H2) (E σ)) :
   wpAny (model X.prog X.w) X.A (call (.ref C) us) (EP X Gm σ Q) X.xe s:=by
 have b:=h (s.heap.objs.size+1) s.heap.objs.size (I.hok.fresh (Nat.le_succ _)) (I.hok.fresh (zA3 _)) (zAh (Nat.lt_succ_self _));have I2:=Inv.made (C:=C) I;have c:Vals (V.ref (s.heap.objs.size+1)::(vs++dvs)) (Value.ref (s.heap.objs.size+1)::(us++ds)):=.cons rfl (r.append i);have l:(Value.ref (s.heap.objs.size+1)::us++ds).length=ps.length:=by
   have e:=c.length;rw[F.len _ _ _ _ b] at e;exact e.symm
 refine wpAny_call (qaA1 (f:=f) I.kIn M.makes M.init (zBj.mp M.fn) (codeAny_mono (F.run _ X.stack _ _ ⟨Value.ref (s.heap.objs.size+1)::us,[]⟩ (Value.ref (s.heap.objs.size+1)::(us++ds)) _ _ (E σ) (d.make C us [])
   (I2.env0.make C us []) (g _ (Value.ref (s.heap.objs.size+1)::us) I2.kIn l) c b) λ r m a=>?_))
 cases r with
 | error e=>exact j Gm σ _ _ e m I2 a
 | ok n =>
   cases n with
   | ret u =>
     obtain⟨v,H',I3,o,p,q⟩:=I2.after a;subst p;exact⟨o,⟨V.ref (s.heap.objs.size+1),H',I3,rfl,q⟩⟩
   | next=>exact False.elim a
   | brk=>exact False.elim a
   | cont=>exact False.elim a
theorem qaf2(M:Mk X.K C f)(F:Gu cm X.prog X.w X.K X.mg X.base CX k f fd ps sp)(d:RoomB cm (k+1) X.A)(g:Gl X x)(hm:X.mg x=some (.ref C))(i:Binds X.K fd ps ds)(j:Vals dvs ds)(l:qO3 CX X E)(m:PA X (e::es) t)(a:(x == ("__debug__" : Str))=false:=by decide)(n:starEach (e::es) X.env=(false,eval e X.env)::starEach es X.env:=by rfl)(b:(backTo pos (starEach es X.env)).any (·.1)=false:=by rfl) :
   PE X (.Call (.Name x p) (e::es) [] pos) (tMake C sp dvs E t):=by
 intro Gm s σ H Q I h;refine wpAny_Call_Name_kw (qB4 I g hm ?_ a);refine PySem.W.callWith_K (h₀:=X.base) I.ok.mod.kin M.kp (thn (m pos Gm s σ H _ I h) λ o u c=>?_) n b;obtain⟨v,H1,I1,r,q⟩:=c;refine⟨I1.kIn,?_⟩;exact qaw9 M F d i j l I1 r q
end
structure qa8(N P:List Str)(sc:Scope):Prop where
 kind:sc.kind=.function
 co:sc.isCoroutine=false
 gen:sc.isGenerator=false
 nd:N.Nodup
 pre:N.take P.length=P
 par:∀ x∈P,sc.names.lookup x=some .local∨sc.names.lookup x=some .cell
 nofree:∀ y∈sc.names,y.2≠.free
theorem qY5{kindOf:Str->Option NameKind}{x:Str}:∀{binds:List (Str×Value)}{m:Str->Option Value},(∀ v,(x,v)∉binds)->bindL kindOf binds m x=m x
 | [],_,_=>rfl
 | (n,v)::r,m,h=>by
   unfold bindL;rw[qY5 λ w a=>h w (zA6 _ a)];split
   . have:x≠n:=by rintro rfl;exact h v zAe
     simp[this]
   rfl
theorem qY7{kindOf:Str->Option NameKind}{x:Str}:∀{binds:List (Str×Value)}{m:Str->Option Value},(∀ v,(x,v)∉binds)->bindC kindOf binds m x=m x
 | [],_,_=>rfl
 | (n,v)::r,m,h=>by
   unfold bindC;rw[qY7 λ w a=>h w (zA6 _ a)];split
   . rfl
   have:x≠n:=by rintro rfl;exact h v zAe
   simp[this]
theorem qY6{kindOf:Str->Option NameKind}{x:Str}{v:Value}:∀{P:List Str}{vs:List Value}{i:Nat}{m:Str->Option Value},P.Nodup->P[i]? = some x->vs[i]? = some v->kindOf x=some .local ->
   bindL kindOf (P.zip vs) m x=some v
 | [],_,_,_,_,h,_,_=>by simp at h
 | _::_,[],_,_,_,_,h,_=>by simp at h
 | p::P,w::vs,0,m,nd,h1,h2,hk=>by
   simp at h1 h2;subst h1;subst h2;show bindL kindOf ((p,w)::P.zip vs) m p=_;unfold bindL;rw[qY5 λ v a=>(zC0.mp nd).1 (List.of_mem_zip a).1,if_pos hk];simp
 | p::P,w::vs,i+1,m,nd,h1,h2,hk=>by
   show bindL kindOf ((p,w)::P.zip vs) m x=_;unfold bindL;exact qY6 (i:=i) (zC0.mp nd).2 (by simpa using h1) (by simpa using h2) hk
theorem qY8{kindOf:Str->Option NameKind}{x:Str}{v:Value}:∀{P:List Str}{vs:List Value}{i:Nat}{m:Str->Option Value},P.Nodup->P[i]? = some x->vs[i]? = some v->kindOf x≠some .local ->
   bindC kindOf (P.zip vs) m x=some v
 | [],_,_,_,_,h,_,_=>by simp at h
 | _::_,[],_,_,_,_,h,_=>by simp at h
 | p::P,w::vs,0,m,nd,h1,h2,hk=>by
   simp at h1 h2;subst h1;subst h2;show bindC kindOf ((p,w)::P.zip vs) m p=_;unfold bindC;rw[qY7 λ v a=>(zC0.mp nd).1 (List.of_mem_zip a).1,if_neg hk];simp
 | p::P,w::vs,i+1,m,nd,h1,h2,hk=>by
   show bindC kindOf ((p,w)::P.zip vs) m x=_;unfold bindC;exact qY8 (i:=i) (zC0.mp nd).2 (by simpa using h1) (by simpa using h2) hk
noncomputable def start(N:List Str)(vs:List V):St:=vs.map some++List.replicate (N.length - vs.length) none
noncomputable def Hc(cm:Bool)(CX:CXT)(P:Program)(w:World)(K:PySem.W.Frag)(mg:Str->Option Value)(base:Heap)(N:List Str)(qual:Str)(scope:Scope)(f:Addr)(cd:Value)(A:Around)(outer:List Env)(s:Shared)(H:Hp)(E:XK):Cx where
 prog:=P
 w:=w
 K:=K
 mg:=mg
 base:=base
 A:=A.deeper (envOfC qual scope s.heap.objs.size f cd)
 N:=N
 s₀:=s
 H₀:=H
 env:=envOfC qual scope s.heap.objs.size f cd
 outer:=outer
 stack:=envOfC qual scope s.heap.objs.size f cd::outer
 ex:=[]
 calm:=cm
 fn:=λ _=>true
 pn:=[]
 xe:=λ e s'=>wpAny (model P w) (A.deeper (envOfC qual scope s.heap.objs.size f cd)) (leaving (envOfC qual scope s.heap.objs.size f cd) e) (λ _ a=>CX outer H s E e a) (λ b a=>CX outer H s E b a) s'
theorem qak2{sc:Scope}{x:Str}(h:sc.names.lookup x=some .cell):∃ c,(cellsFrom n sc.names []).lookup x=some c:=by
 have q:=PySem.W.cellsFrom_some sc.names n [] (.inl h);exact zAy.mp q
theorem qao3{cm:Bool}{CX:CXT}{P:Program}{w:World}{K:PySem.W.Frag}{ps:List Str}{qual:Str}{scope:Scope}{f:Addr}{cd:Value}{A:Around}{outer:List Env}{s C:Shared}{H:Hp}{E:XK}{vs:List V}(S:qa8 N ps scope)(G:cm=true->A.handled=none)(g:Env0 P w K mg base A outer s H)(M:vs.length=ps.length)(r:Vals vs us)(x:InCallC s s.heap.objs.size (bindL (envOfC qual scope s.heap.objs.size f cd).kindOf (ps.zip us) λ _=>none) (cellsFrom (s.heap.objs.size+1) scope.names []) (bindC (envOfC qual scope s.heap.objs.size f cd).kindOf (ps.zip us) λ _=>none) C) :
   Inv (Hc cm CX P w K mg base N qual scope f cd A outer s H E) [] (start N vs) H C:=by
 have I:ps.length<=N.length:=by have:=congrArg List.length S.pre;rw[zB6] at this;lia
 obtain⟨t,O,rfl,D⟩:=x.done;have j:∀ b:Addr,b∉(Hc cm CX P w K mg base N qual scope f cd A outer s H E).ex:=λ b z=>absurd (show b∈([]:List Addr) from z) (by simp)
 refine⟨⟨g.mod,S.kind,rfl,rfl,zA3 _,λ y z c t d=>?_,λ y l=>?_,λ y c _ h=>?_,G,Around.frames_deeper g.frames,.inr ⟨rfl,rfl⟩,λ b z=>absurd z (j b),g.bs,g.bsz,λ b _ _=>j b,λ b z=>absurd z (j b),g.funs,g.frf⟩,
   rfl,g.bare,Un.kept D,⟨_,x.toInCall.ns,λ i y v t d Q=>?_⟩,λ y c h=>⟨_,x.cell y c h⟩,g.hok.fresh (zA3 _),λ y c h=>?_,λ p m=>absurd (show p∈([]:List (Addr×Obj)) from m) (by simp),g.hok.kept D,?_⟩
 . exact name_of_addr x.apart (PySem.mem_of_lookup t) (PySem.mem_of_lookup d)
 . have l:scope.names.lookup y=some .cell∨scope.names.lookup y=some .free:=l
   rcases l with l | l
   . exact qak2 l
   exact absurd rfl (S.nofree _ (PySem.mem_of_lookup l))
 . exact zBz (x.above y c (PySem.mem_of_lookup h))
 . have B:i < vs.length:=by
     unfold start at d;by_cases B:i < vs.length
     . exact B
     rw[List.getElem?_append_right (by simpa using B)] at d;rw[List.getElem?_replicate] at d;split at d<;>cases d
   have J:vs[i]? = some v:=by
     unfold start at d;rw[zAr (by simpa using B),zB3] at d;cases e:vs[i]? with
     | none=>rw[e] at d;cases d
     | some a=>rw[e] at d;cases d;rfl
   obtain⟨u,F,L⟩:=r.get J;have m:ps[i]? = some y:=by
     rw[<- S.pre,List.getElem?_take_of_lt (by lia)];exact t
   have o:ps.Nodup:=by rw[<- S.pre];exact S.nd.sublist (List.take_sublist _ _)
   refine⟨u,L,?_⟩;rcases S.par y (zB1 m) with k | k
   . exact .inl ⟨k,qY6 o m F k⟩
   obtain⟨c,e⟩:=qak2 (n:=s.heap.objs.size+1) k;refine .inr ⟨.inl k,c,e,?_⟩;have q:=x.cell y c e;rw[qY8 o m F (by show scope.names.lookup y≠_;rw[k];decide)] at q;exact q
 . exact g.hok.fresh (zBz (x.above y c (PySem.mem_of_lookup h)))
 unfold start;show _=N.length;rw[zA7,zAf,List.length_replicate];lia
theorem Ly{cm:Bool}{CX:CXT}{P:Program}{w:World}{K:PySem.W.Frag}{k:Nat}{f:Addr}{name qual:Str}{params:Arguments}{scope:Scope}{B kV d C a D oc:Value}{F od:Option Addr}{i:Array (Option Value)}{ps:List Str}{sp:Sp}(L:K.lookup f=some ⟨oc,od,.func (PySem.W.fnOf name qual params body scope B kV d C F a D),i⟩)(j:PySem.W.codeIn K a qual=true)(S:qa8 N ps scope)(len:∀ vs H Q E,sp vs H Q E->vs.length=ps.length)(hbody:∀(A:Around)(outer:List Env)(s:Shared)(H:Hp)(vs:List V)(Q:VK)(E:XK),RoomB cm k (A.deeper (envOfC qual scope s.heap.objs.size f a))->sp vs H Q E ->
     ∃ t,PSs (Hc cm CX P w K mg base N qual scope f a A outer s H E) body t/\t { nx:=λ _ H'=>Q .non H',rt:=Q } (start N vs) H) :
   Gu cm P w K mg base CX (k+1) f (PySem.W.fnOf name qual params body scope B kV d C F a D) ps sp:=by
 refine⟨len,λ A outer s H args M vs Q E l g O r h=>?_⟩;have R:=len _ _ _ _ h;have KX:K.In s.heap:=g.mod.kin.keeps λ b o e=>(g.bs b o e).1
 have m:s.heap.NoLimit:=g.mod.nolimit.keeps λ b o e=>(g.bs b o e).1
 have hkind:∀ y∈ps.zip M,scope.names.lookup y.1=some .local∨(scope.names.lookup y.1=some .cell/\((cellsFrom (s.heap.objs.size+1) scope.names []).lookup y.1).isSome=true):=λ ⟨n,v⟩ T=>by
   rcases S.par n (List.of_mem_zip T).1 with q | q
   . exact .inl q
   exact .inr ⟨q,PySem.W.cellsFrom_some _ _ _ (.inl q)⟩
 refine codeAny_call_function l.depth (KX _ _ L) rfl S.co S.gen rfl (PySem.W.codeRec_of KX j) (O _ _ _ _ ?_);refine wpAny_newFunctionEnv_cells S.kind hkind λ U X G x=>?_
 subst X;refine⟨m.keeps x.toInCall.keep,codeAny_func ?_⟩;obtain⟨t,Y,Z⟩:=hbody A outer s H vs Q E (l.deeper _) h;have I:Inv (Hc cm CX P w K mg base N qual scope f a A outer s H E) [] (start N vs) H G:=qao3 S l.hd g R r x;refine wpAny_mono (Y [] G (start N vs) H _ I Z) (λ fl p c=>?_) λ e p c=>c
 have fin:∀{σ':St}{H':Hp}{v:V}{u:Value},Inv (Hc cm CX P w K mg base N qual scope f a A outer s H E) [] σ' H' p->RelV v u->Q v H'->CE outer P w H s Q u p :=
   λ{σ' H' v u} J z q=>⟨v,H',J.os,J.bare,J.base,J.hok,z,q⟩
 cases fl with
 | ret u =>
   obtain⟨v,σ',H',J,z,q⟩:=c;exact fin J z q
 | next =>
   obtain⟨σ',H',J,q⟩:=c;exact fin (v:=V.non) (u:=Value.none) J rfl q
 | brk =>
   obtain⟨_,_,_,q⟩:=c;exact False.elim q
 | cont =>
   obtain⟨_,_,_,q⟩:=c;exact False.elim q
section
variable{X:Cx}{x:Str}{p pos:Pos}{e:Expr}{es:List Expr}{t:TA}{id T:String}{r:List V->Hp->VK->Prop}
def tCB(r:List V->Hp->VK->Prop)(t:TA):TE:=λ σ H Q=>t σ H λ vs H1=>r vs H1 Q
theorem qay6(c:CallR X (.builtin id) r)(d:Gl X x)(hm:X.mg x=none)(f:bootBuiltins x=some (.builtin id))(g:PA X (e::es) t)(i:x ≠ "__name__" := by decide)(a:(x == ("__debug__" : Str))=false:=by decide)(j:starEach (e::es) X.env=(false,eval e X.env)::starEach es X.env:=by rfl)(b:(backTo pos (starEach es X.env)).any (·.1)=false:=by rfl):PE X (.Call (.Name x p) (e::es) [] pos) (tCB r t):=by
 intro Gm s σ H Q I h;refine wpAny_Call_Name_kw (qab0 I d hm f ?_ i a);exact PyProof.Rows.callWith_builtin1 (thn (g pos Gm s σ H _ I h) λ k l ⟨m,H1,I1,n,o⟩=>c Gm l σ H1 m k Q I1 n o) j b
theorem qan2(c:CallR X (.type T) r)(d:Gl X x)(hm:X.mg x=none)(f:bootBuiltins x=some (.type T))(g:PA X (e::es) t)(i:x ≠ "__name__" := by decide)(a:(x == ("__debug__" : Str))=false:=by decide)(j:starEach (e::es) X.env=(false,eval e X.env)::starEach es X.env:=by rfl)(b:(backTo pos (starEach es X.env)).any (·.1)=false:=by rfl):PE X (.Call (.Name x p) (e::es) [] pos) (tCB r t):=by
 intro Gm s σ H Q I h;refine wpAny_Call_Name_kw (qab0 I d hm f ?_ i a);exact PyProof.Rows.callWith_type1 (thn (g pos Gm s σ H _ I h) λ k l ⟨m,H1,I1,n,o⟩=>c Gm l σ H1 m k Q I1 n o) j b
end
end L2
namespace HT
open PySem PyProof.Rows
section
noncomputable def sIx(n d:Nat):Option Int->Nat
 | none=>d
 | some v=>if v < 0 then (v+(n:Int)).toNat else min v.toNat n
theorem qR1(n d:Nat):sIx n d none=d:=rfl
theorem qae3(n d k:Nat):sIx n d (some (k:Int))=min k n:=by
 show (if (k:Int) < 0 then ((k:Int)+(n:Int)).toNat else min (k:Int).toNat n)=min k n;rw[if_neg (by lia),Int.toNat_natCast]
end
end HT
namespace L2
open PySem PySem.Spec PyProof.Rows
variable{its:List Value}{n:Nat}{x:V}{α:Type}
abbrev TO:=St->Hp->(Option Int->Hp->Prop)->Prop
def PO(X:Cx)(e:Option Expr)(t:TO):Prop :=
 ∀(Gm:List (Addr×Obj))(s:Shared)(σ:St)(H:Hp)(Q:Option Int->Hp->Prop),Inv X Gm σ H s->t σ H Q ->
   wpAny (model X.prog X.w) X.A (evalPart e X.env) (λ u s'=>∃ o H',Inv X Gm σ H' s'/\IsPart u o/\Q o H') X.xe s
def qaE7:TO:=λ _ H Q=>Q none H
def tPart(t:TE):TO:=λ σ H Q=>t σ H λ x H1=>∃ i,x=.int i/\Q (some i) H1
theorem qai5{ns:List Int}:∀{us:List Value},Vals (ns.map V.int) us->IntsAre us ns:=by
 induction ns with
 | nil=>intro us r;rw[List.map_nil] at r;cases r;exact .nil
 | cons n ns a =>
   intro us r;rw[zAx] at r;cases r with
   | cons b c =>
     obtain⟨t,e⟩:=b;subst e;exact .cons n t (a c)
section
variable{X:Cx}{e:Expr}{te:TE}{lo hi:Option Expr}{tl th:TO}{pos p2:Pos}
theorem qas7:PO X none qaE7:=by
 intro Gm s σ H Q I h;rw[evalPart_none];exact wpAny_pure ⟨none,H,I,.none,h⟩
theorem qas6(h:PE X e te):PO X (some e) (tPart te):=by
 intro Gm s σ H Q I b;rw[evalPart_some];refine thn (h Gm s σ H _ I b) λ u f a=>?_
 obtain⟨x,H1,I1,c,d⟩:=a;obtain⟨i,rfl,q⟩:=d;obtain⟨t,rfl⟩:=c;exact⟨some i,H1,I1,.int i t,q⟩
def SlR(X:Cx)(r:V->Option Int->Option Int->Hp->VK->Prop):Prop :=
 ∀(Gm:List (Addr×Obj))(s:Shared)(σ:St)(H:Hp)(x:V)(v vl vu:Value)(lo hi:Option Int)(sl:Addr)(Q:VK),Inv X Gm σ H s->RelV x v->s.heap.IsSliceOf sl vl vu .none->IsPart vl lo->IsPart vu hi->r x lo hi H Q ->
   ∃ T id,typeLookup (.type T) "__getitem__" = pure (some (.builtin id))/\s.TypeIs v T/\wpAny (model X.prog X.w) X.A (getItem v (.ref sl)) (EP X Gm σ Q) X.xe s
def tSl(r:V->Option Int->Option Int->Hp->VK->Prop)(te:TE)(tl th:TO):TE:=λ σ H Q=>te σ H λ x H1=>tl σ H1 λ l H2=>th σ H2 λ u H3=>r x l u H3 Q
theorem qaf1{r:V->Option Int->Option Int->Hp->VK->Prop}(g:SlR X r)(i:PE X e te)(j:PO X lo tl)(k:PO X hi th):PE X (.Subscript e (.Slice lo hi none p2) pos) (tSl r te tl th):=by
 intro Gm s σ H Q I h;refine Subscript_ (thn (i Gm s σ H _ I h) λ v m a=>?_);obtain⟨x,H1,I1,n,o⟩:=a;refine wpAny_Slice (thn (j Gm m σ H1 _ I1 o) λ d p a=>?_);obtain⟨l,H2,I2,t,q2⟩:=a;refine thn (k Gm p σ H2 _ I2 q2) λ f c a=>?_
 obtain⟨u,H3,I3,y,z⟩:=a;rw[evalPart_none];refine wpAny_pure ?_;have I4:Inv X Gm σ H3 { c with heap:=c.heap.push { cls:=.type "slice",data:=.fields #[d,f,.none] } }:=I3.kept (t':=c.toks) λ b F q=>zA2 _ q
 obtain⟨T,id,B,C,D⟩:=g Gm { c with heap:=c.heap.push { cls:=.type "slice",data:=.fields #[d,f,.none] } } σ H3 x v d f l u c.heap.objs.size Q I4 n (Heap.IsSliceOf.new ..) t y z;show wpAny (model X.prog X.w) X.A (subscriptTail e (.Slice lo hi none p2) v (.ref c.heap.objs.size)) (EP X Gm σ Q) X.xe { c with heap:=c.heap.push { cls:=.type "slice",data:=.fields #[d,f,.none] } };exact tail_any (ops:=[.ref c.heap.objs.size,v]) C B D (by with_unfolding_all rfl)
def Ju(xs:List V)(lo hi:Option Int):List V:=(xs.drop (HT.sIx xs.length 0 lo)).take (HT.sIx xs.length xs.length hi - HT.sIx xs.length 0 lo)
theorem qab5(xs:List V)(lo hi:Option Int):(Ju xs lo hi).length<=xs.length:=by
 unfold Ju;rw[zB6,zBu];lia
end
noncomputable def ixN(n:Nat)(i:Int):Option Nat:=if 0<=i then (if i < n then some i.toNat else none) else if -(n:Int)<=i then some (i+n).toNat else none
def atI{α:Type}(xs:List α)(i:Int):Option α:=(ixN xs.length i).bind λ j=>xs[j]?
theorem qai2{i:Int}{j:Nat}(h:ixN n i=some j):seqIndex? i n=some j/\j < n/\-(n:Int)<=i/\i < n:=by
 unfold ixN at h;by_cases b:0<=i
 . rw[if_pos b] at h
   by_cases a:i < n
   . rw[if_pos a] at h
     have e:i.toNat=j:=Option.some.inj h;exact⟨by rw[seqIndex_of b a,e],by lia,by lia,a⟩
   rw[if_neg a] at h;cases h
 rw[if_neg b] at h;by_cases a:-(n:Int)<=i
 . rw[if_pos a] at h
   have e:(i+n).toNat=j:=Option.some.inj h;exact⟨by rw[seqIndex_neg (by lia) a,e],by lia,a,by lia⟩
 rw[if_neg a] at h;cases h
theorem qak7{xs:List α}{i:Int}{v:α}(h:atI xs i=some v):∃ j,seqIndex? i xs.length=some j/\xs[j]? = some v/\j < xs.length/\-(xs.length:Int)<=i/\i < xs.length:=by
 unfold atI at h;cases e:ixN xs.length i with
 | none=>rw[e] at h;cases h
 | some j =>
   rw[e] at h;obtain⟨a,b,c,d⟩:=qai2 e;exact⟨j,a,h,b,c,d⟩
theorem qY9{xs:List α}{j:Nat}{v:α}(h:xs[j]? = some v):atI xs (j:Int)=some v:=by
 have a:j < xs.length:=(zA5.mp h).1;have e:ixN xs.length (j:Int)=some j:=by
   unfold ixN;rw[if_pos (by lia),if_pos (by lia)];simp
 unfold atI;rw[e];exact h
def qal3(b:Expr):Prop:=∀ o i,subscripted b false o i=operate [o,i] (getItem o i)
def IxR(X:Cx)(r:R2):Prop :=
 ∀(value slice:Expr)(Gm:List (Addr×Obj))(s:Shared)(σ:St)(H:Hp)(x y:V)(v u:Value)(Q:VK),Inv X Gm σ H s->RelV x v->RelV y u->r x y H Q ->
   subscripted slice false v u=operate [v,u] (getItem v u)->wpAny (model X.prog X.w) X.A (subscriptTail value slice v u) (EP X Gm σ Q) X.xe s
def MtR(X:Cx)(id:String)(r:V->List V->Hp->VK->Prop):Prop :=
 ∀(Gm:List (Addr×Obj))(s:Shared)(σ:St)(H:Hp)(x:V)(xs:List V)(v:Value)(us:List Value)(Q:VK),Inv X Gm σ H s->RelV x v->Vals xs us->r x xs H Q ->
   wpAny (model X.prog X.w) X.A (call (.builtin id) (v::us)) (EP X Gm σ Q) X.xe s
section
variable{X:Cx}{a b:Expr}{ta tb:TE}{pos:Pos}
theorem IxR.or{r a:R2}(h:IxR X r)(h':IxR X a):IxR X (λ x y H Q=>r x y H Q∨a x y H Q):=by
 intro value slice Gm s σ H x y v u Q I b c q d;rcases q with q | q
 . exact h value slice Gm s σ H x y v u Q I b c q d
 exact h' value slice Gm s σ H x y v u Q I b c q d
theorem pe_ix{r:R2}(c:IxR X r)(d:PE X a ta)(e:PE X b tb)(f:qal3 b):PE X (.Subscript a b pos) (tOp r ta tb):=by
 intro Gm s σ H Q I h;exact Subscript_ (binT d e I h λ v u g x y H2 I2 i j q=>c a b Gm g σ H2 x y v u Q I2 i j q (f _ _))
def rIxL(K:PySem.W.Frag):R2:=λ x y H Q=>∃ p xs i v,x=.ref p/\y=.int i/\SqL K H p xs/\atI xs i=some v/\Q v H
def rIxT(K:PySem.W.Frag):R2:=λ x y H Q=>∃ p xs i v,x=.ref p/\y=.int i/\SqT K H p xs/\atI xs i=some v/\Q v H
def rIxS:R2:=λ x y H Q=>∃ z i c,x=.str z/\y=.int i/\z.length<=sizeLine/\atI z.cps.toList i=some c/\Q (.str ⟨#[c]⟩) H
theorem qaK8:IxR X (rIxL X.K):=by
 intro value slice Gm s σ H x y v u Q I l m h f;obtain⟨p,F,i,z,rfl,rfl,n,o,q⟩:=h;cases l;obtain⟨t,rfl⟩:=m;obtain⟨b,r,c,G⟩:=I.list n;obtain⟨j,a,A,J,B,C⟩:=qak7 o;obtain⟨w,g,d⟩:=r.get A;have D:=r.length;have L:=qS4;have fin:EP X Gm σ Q w s:=⟨z,H,I,d,q⟩
 by_cases k:0<=i
 . have e:i.toNat=j:=by
     rw[seqIndex_of k C] at a;exact Option.some.inj a
   exact item_listR c.isList k (by lia) (by rw[e];simpa using g) fin f
 have e:(i+(b.toArray.size:Int)).toNat=j:=by
   rw[seqIndex_neg (by lia) B] at a;rw[zA4,<- D];exact Option.some.inj a
 exact subscriptTail_builtinR (x:=w) c.isList.typeIs slot_list_getitem.lookup
   (wpAny_getItem_list_neg (Q:=λ r E=>r=w/\EP X Gm σ Q r E) c.isList (by lia) (by rw[zA4]<;>lia) (by lia) (by rw[e];simpa using g) ⟨rfl,fin⟩) f
theorem qaT2:IxR X (rIxT X.K):=by
 intro value slice Gm s σ H x y v u Q I c d h e;obtain⟨p,B,i,z,rfl,rfl,f,g,q⟩:=h;cases c;obtain⟨t,rfl⟩:=d;obtain⟨k,r,b,C⟩:=I.tuple f;obtain⟨j,l,m,D,E,F⟩:=qak7 g;obtain⟨w,n,a⟩:=r.get m;have o:=r.length;have G:=qS4;have fin:EP X Gm σ Q w s:=⟨z,H,I,a,q⟩
 exact subscriptTail_builtinR (x:=w) b.typeIs slot_tuple_getitem.lookup
   (getItem_tuple (j:=j) (Q:=λ r A=>r=w/\EP X Gm σ Q r A) b (by lia) (by lia) (by rw[zA4,<- o];exact l) (by simpa using n) ⟨rfl,fin⟩) e
theorem qaT3:IxR X rIxS:=by
 intro value slice Gm s σ H x y v u Q I b d h e;obtain⟨z,i,c,rfl,rfl,o,f,q⟩:=h;obtain⟨t,rfl⟩:=b;obtain⟨p,rfl⟩:=d;obtain⟨j,a,g,r,k,l⟩:=qak7 f;have m:z.cps.toList.length=z.length:=by simp[Str.length]
 rw[m] at a k l;have w:=qS4;exact tail_any (typeIs_str s z t) slot_str_getitem.lookup (getItem_str (c:=c) (by
   have n:decide (i < -(2 ^ 63:Int))=false:=zB0 (by lia);have e2:decide (i ≥ 2 ^ 63)=false:=zB0 (by lia);rw[n,e2,Bool.or_false]) (by rw[a];simpa using g) ⟨.str ⟨#[c]⟩,H,I.tok _,⟨_,rfl⟩,q⟩) e
def rIx(K:PySem.W.Frag):R2:=λ x y H Q=>rIxL K x y H Q∨rIxT K x y H Q∨rIxS x y H Q
theorem qd1:IxR X (rIx X.K):=qaK8.or (qaT2.or qaT3)
theorem qag7(its:List Value)(n j:Nat)(u:Value):Obj.mapSeq (·.setIfInBounds j u) { cls:=.type "list",data:=.seq its.toArray n }={ cls:=.type "list",data:=.seq (its.set j u).toArray n }:=by
 simp[Obj.mapSeq]
theorem Inv.lst{Gm:List (Addr×Obj)}{σ:St}{H:Hp}{s:Shared}{p:Addr}{xs:List V}(I:Inv X Gm σ H s)(h:H p=some (.lst xs)) :
   ∃(its:List Value)(n:Nat),Vals xs its/\s.heap.get? p=some { cls:=.type "list",data:=.seq its.toArray n }/\xs.length<=sizeLine:=by
 obtain⟨z,its,n,r,e⟩:=I.hok p _ h;exact⟨its,n,r,e,z⟩
theorem Inv.lstUpd{Gm:List (Addr×Obj)}{σ:St}{H:Hp}{s:Shared}{p:Addr}{xs ys:List V}{its':List Value}{a:Nat}{f:Obj->Obj}(I:Inv X Gm σ H s)(h:H p=some (.lst xs))(d:s.heap.get? p=some { cls:=.type "list",data:=.seq its.toArray n })(c:f { cls:=.type "list",data:=.seq its.toArray n }={ cls:=.type "list",data:=.seq its'.toArray a })(r:Vals ys its')(g:ys.length<=sizeLine)(t:Nat) :
   Inv X Gm σ (upd H p (.lst ys)) { s with heap:=s.heap.update p f,toks:=t }:=by
 have e:(s.heap.update p f).get? p=some { cls:=.type "list",data:=.seq its'.toArray a }:=by
   rw[zBi f d (by rw[c]<;>rfl),c]
 refine I.write (x:=p) (e:=p) (by rw[h];trivial) (.inl rfl) (λ b u i q=>(zB4 _ _ (Ne.symm i)).trans q) ⟨_,e⟩ ?_;exact⟨g,its',a,r,e⟩
def rSetL:V->V->V->Hp->(Hp->Prop)->Prop:=λ o i v H Q=>∃ p xs k j,o=.ref p/\i=.int k/\H p=some (.lst xs)/\ixN xs.length k=some j/\Q (upd H p (.lst (xs.set j v)))
theorem qad8:PSet X rSetL:=by
 intro Gm s σ H o i v C D u Q I w x y h;obtain⟨p,z,k,j,rfl,rfl,f,A,q⟩:=h;cases w;obtain⟨t,rfl⟩:=x;obtain⟨a,n,r,c,B⟩:=I.lst f;obtain⟨b,E,g,l⟩:=qai2 A;have d:=r.length;have F:=qS4;have I':Inv X Gm σ (upd H p (.lst (z.set j v))) { s with heap:=s.heap.update p (Obj.mapSeq (·.setIfInBounds j u)) } :=
   I.lstUpd f c (qag7 a n j u) (r.set y j) (by rw[List.length_set];exact B) s.toks
 by_cases m:0<=k
 . have e:k.toNat=j:=by
     rw[seqIndex_of m l] at b;exact Option.some.inj b
   exact PySem.W.ki_setAt c m (by lia) (by rw[zA4,<- d];exact l) (by rw[e];exact⟨_,I',q⟩)
 have e:(k+(a.toArray.size:Int)).toNat=j:=by
   rw[seqIndex_neg (by lia) g] at b;rw[zA4,<- d];exact Option.some.inj b
 exact PySem.W.ki_setBack c (by lia) (by rw[zA4,<- d];exact g) (by lia) (by rw[e];exact⟨_,I',q⟩)
theorem qQ0(lo hi:Option Int)(n:Nat):(sliceBounds lo hi none n).1=((HT.sIx n 0 lo:Nat):Int)/\(sliceBounds lo hi none n).2.1=((HT.sIx n n hi:Nat):Int)/\(sliceBounds lo hi none n).2.2=1:=by
 refine⟨?_,?_,rfl⟩
 . cases lo with
   | none=>simp[sliceBounds,HT.sIx]
   | some i =>
     simp only[sliceBounds,HT.sIx,Option.getD_none,show (1:Int) > 0 by decide,if_true];by_cases h:i < 0
     . simp only[h,if_true]<;>lia
     simp only[h,if_false]<;>lia
 cases hi with
 | none=>simp[sliceBounds,HT.sIx]
 | some i =>
   simp only[sliceBounds,HT.sIx,Option.getD_none,show (1:Int) > 0 by decide,if_true];by_cases h:i < 0
   . simp only[h,if_true]<;>lia
   simp only[h,if_false]<;>lia
theorem qK9(its:List Value)(lo hi:Option Int):slicePick its.toArray lo hi none=((its.drop (HT.sIx its.length 0 lo)).take (HT.sIx its.length its.length hi - HT.sIx its.length 0 lo)).toArray:=by
 obtain⟨a,b,c⟩:=qQ0 lo hi its.toArray.size;unfold slicePick;rw[a,b,c];simp only[sliceRange_one,pick_run,zA4]<;>rfl
def rSlL(K:PySem.W.Frag):V->Option Int->Option Int->Hp->VK->Prop:=λ x lo hi H Q=>∃ a xs,x=.ref a/\SqL K H a xs/\∀ p,H p=none->Q (.ref p) (upd H p (.lst (Ju xs lo hi)))
theorem qar7:SlR X (rSlL X.K):=by
 intro Gm s σ H x v t u e f w Q I i j k l h;obtain⟨a,c,rfl,m,q⟩:=h;cases i;obtain⟨n,r,g,p⟩:=I.list m;have d:=r.length;refine⟨"list",_,slot_list_getitem.lookup,g.isList.typeIs,?_⟩;refine wpAny_getItem_list_slice g.isList j k l .none (by simp) ?_ (by rw[zA4]<;>lia);rw[qK9,<- d];refine⟨.ref s.heap.objs.size,_,I.laid (t':=s.toks) (o:=.lst (Ju c e f)) (λ b y q=>zA2 _ q) (zA3 _) ?_,rfl,q _ (I.hok.fresh (zA3 _))⟩;exact⟨zAm (qab5 c e f) p,_,0,(r.drop (HT.sIx c.length 0 e)).take (HT.sIx c.length c.length f - HT.sIx c.length 0 e),zAt _ rfl⟩
noncomputable def flatV:V->Bool
 | .non=>true
 | .bl _=>true
 | .int _=>true
 | .str _=>true
 | _=>false
noncomputable def eqV:V->V->Bool
 | .non,.non=>true
 | .bl a,.bl b=>a == b
 | .bl a,.int b=>(if a then 1 else 0) == b
 | .int a,.bl b=>a == (if b then 1 else 0)
 | .int a,.int b=>a == b
 | .str a,.str b=>a == b
 | _,_=>false
theorem qaM3{A:Around}{s:Shared}{y:V}{u v:Value}(e:RelV y u)(c:RelV x v)(g:flatV y=true)(f:flatV x=true):SeqAt.EqAt A s u v (eqV y x):=by
 cases y with
 | non =>
   cases e;cases x with
   | non=>cases c;exact SeqAt.EqAt.same _
   | bl b=>cases c;exact SeqAt.EqAt.none_bool b
   | int b=>obtain⟨t,rfl⟩:=c;exact SeqAt.EqAt.none_int b t
   | str b=>obtain⟨t,rfl⟩:=c;exact SeqAt.EqAt.none_str b t
   | _=>exact absurd (show false=true from f) zAc
 | bl a =>
   cases e;cases x with
   | non=>cases c;exact SeqAt.EqAt.bool_none a
   | bl b=>cases c;exact SeqAt.EqAt.bool_bool a b
   | int b=>obtain⟨t,rfl⟩:=c;exact SeqAt.EqAt.bool_int a b t
   | str b=>obtain⟨t,rfl⟩:=c;exact SeqAt.EqAt.bool_str a b t
   | _=>exact absurd (show false=true from f) zAc
 | int a =>
   obtain⟨d,rfl⟩:=e;cases x with
   | non=>cases c;exact SeqAt.EqAt.int_none a d
   | bl b=>cases c;exact SeqAt.EqAt.int_bool a d b
   | int b=>obtain⟨t,rfl⟩:=c;exact SeqAt.EqAt.int_int a d b t
   | str b=>obtain⟨t,rfl⟩:=c;exact SeqAt.EqAt.int_str a d b t
   | _=>exact absurd (show false=true from f) zAc
 | str a =>
   obtain⟨d,rfl⟩:=e;cases x with
   | non=>cases c;exact SeqAt.EqAt.str_none a d
   | bl b=>cases c;exact SeqAt.EqAt.str_bool a d b
   | int b=>obtain⟨t,rfl⟩:=c;exact SeqAt.EqAt.str_int a d b t
   | str b=>obtain⟨t,rfl⟩:=c;exact SeqAt.EqAt.str_str a d b t
   | _=>exact absurd (show false=true from f) zAc
 | _=>exact absurd (show false=true from g) zAc
def eqU(x:V)(u:Value):Bool:=match u with
 | .none=>eqV .non x
 | .bool b=>eqV (.bl b) x
 | .int i _=>eqV (.int i) x
 | .str z _=>eqV (.str z) x
 | _=>false
theorem qap6{y:V}{u:Value}(r:RelV y u)(f:flatV y=true):eqU x u=eqV y x:=by
 cases y with
 | non=>cases r;rfl
 | bl b=>cases r;rfl
 | int i=>obtain⟨t,rfl⟩:=r;rfl
 | str z=>obtain⟨t,rfl⟩:=r;rfl
 | _=>exact absurd (show false=true from f) zAc
theorem qak9{x:V}:∀{xs:List V}{us:List Value},Vals xs us->xs.all flatV=true->us.any (eqU x)=xs.any λ y=>eqV y x
 | _,_,.nil,_=>rfl
 | y::xs,u::us,.cons r t,f=>by
   rw[List.all_cons,zB8] at f;rw[zC1,zC1,qap6 r f.1,qak9 t f.2]
theorem qA9{A:Around}{s:Shared}{x:V}{v:Value}(b:RelV x v)(c:flatV x=true):∀{xs:List V}{us:List Value},Vals xs us->xs.all flatV=true->∀ u∈us,SeqAt.EqAt A s u v (eqU x u)
 | _,_,.nil,_=>λ u a=>by cases a
 | y::xs,u::us,.cons r t,f=>λ d a=>by
   rw[List.all_cons,zB8] at f;rcases zAl.mp a with rfl | a
   . rw[qap6 r f.1];exact qaM3 r b f.1 c
   exact qA9 b c t f.2 d a
def inV(x:V)(xs:List V):Bool:=xs.any λ y=>eqV y x
def rIn(K:PySem.W.Frag)(neg:Bool):R2:=λ x y H Q=>∃ p xs,y=.ref p/\(SqL K H p xs∨SqT K H p xs)/\flatV x=true/\xs.all flatV=true/\Q (.bl (if neg then !inV x xs else inV x xs)) H
theorem qV3:OpR X (compareOp .In) (rIn X.K false):=by
 intro Gm s σ H x y v u Q I f i h;obtain⟨p,k,rfl,b,g,c,q⟩:=h;cases i;rcases b with b | b
 . obtain⟨a,r,d,j⟩:=I.list b
   refine SeqAt.in_listAt (eqU x) d.isList (λ w e=>qA9 f g r c w (by simpa using e)) ⟨.bl _,H,I,rfl,?_⟩;rw[show a.toArray.any (eqU x)=a.any (eqU x) by simp,qak9 r c];exact q
 obtain⟨a,r,d,j⟩:=I.tuple b;refine SeqAt.in_tupleAt (eqU x) d (λ w e=>qA9 f g r c w (by simpa using e)) ⟨.bl _,H,I,rfl,?_⟩;rw[show a.toArray.any (eqU x)=a.any (eqU x) by simp,qak9 r c];exact q
theorem qT8:CallR X (.builtin "len") (λ xs H Q=>∃ p ys,xs=[.ref p]/\(SqL X.K H p ys∨SqT X.K H p ys)/\Q (.int ys.length) H):=by
 intro Gm s σ H xs i Q I r h;obtain⟨p,ys,rfl,b,q⟩:=h;obtain⟨u,rfl,f⟩:=Gs r;cases f;have j:=qS4;rcases b with b | b
 . obtain⟨c,d,e,g⟩:=I.list b
   have a:=d.length;exact Calls.call_len_list e.isList (by simp only[zA4]<;>lia) ⟨.int ys.length,H,I.tok _,⟨s.toks+1,by rw[zA4,a]⟩,q⟩
 obtain⟨c,d,e,g⟩:=I.tuple b;have a:=d.length;exact len_tuple e (by simp only[zA4]<;>lia) ⟨.int ys.length,H,I.tok _,⟨s.toks+1,by rw[zA4,a]⟩,q⟩
theorem qT7:CallR X (.builtin "len") (λ xs H Q=>∃ z,xs=[.str z]/\z.length<=sizeLine/\Q (.int z.length) H):=by
 intro Gm s σ H xs a Q I r h;obtain⟨z,rfl,b,q⟩:=h;obtain⟨u,rfl,t,rfl⟩:=Gs r;have c:=qS4;exact len_str (by lia) ⟨.int z.length,H,I.tok _,⟨_,rfl⟩,q⟩
theorem CallR.or{f:Value}{r a:List V->Hp->VK->Prop}(h:CallR X f r)(h':CallR X f a):CallR X f (λ xs H Q=>r xs H Q∨a xs H Q):=by
 intro Gm s σ H xs b Q I c q;rcases q with q | q
 . exact h Gm s σ H xs b Q I c q
 exact h' Gm s σ H xs b Q I c q
theorem qr1:CallR X (.type "list") (λ xs H Q=>∃ p ys,xs=[.ref p]/\(SqL X.K H p ys∨SqT X.K H p ys)/\∀ l,H l=none->Q (.ref l) (upd H l (.lst ys))):=by
 intro Gm s σ H xs A Q I r h;obtain⟨p,ys,rfl,g,q⟩:=h;obtain⟨u,rfl,z⟩:=Gs r;cases z;have fin:∀(a:List Value),Vals ys a->ys.length<=sizeLine->∀(c:Heap)(d:Nat),(∀ b y,s.heap.get? b=some y->c.get? b=some y) ->
     c.get? s.heap.objs.size=some { cls:=.type "list",dict:=none,data:=.seq a.toArray d,slots:=#[] }->EP X Gm σ Q (.ref s.heap.objs.size) { s with heap:=c }:=λ a f i c d j e =>
   ⟨.ref s.heap.objs.size,_,I.laid (t':=s.toks) j (zA3 _) (show ObjOk X.prog X.w _ c _ (.lst ys) from⟨i,a,d,f,e⟩),rfl,q _ (I.hok.fresh (zA3 _))⟩
 rcases g with g | g
 . obtain⟨a,f,m,i⟩:=I.list g
   have k:=f.length;obtain⟨o,t,v,n,x⟩:=m.isList;exact call_list_seq p (.inl rfl) t v x (λ c d j e=>fin a f i c d j e) (by simp only[zA4]<;>lia)
 obtain⟨a,f,m,i⟩:=I.tuple g;have k:=f.length;obtain⟨o,t,v,n,x⟩:=m;exact call_list_seq p (.inr rfl) t v x (λ c d j e=>fin a f i c d j e) (by simp only[zA4]<;>lia)
def tyV(K:PySem.W.Frag)(T:String)(x:V)(H:Hp):Prop:=match x with
 | .str _=>T = "str"
 | .int _=>T = "int"
 | .ref p=>(T = "list" /\ ∃ xs,SqL K H p xs)∨(T = "tuple" /\ ∃ o,K.lookup p=some o/\o.cls=.type "tuple" /\ o.dict=none) ∨
     (T = "dict" /\ ((∃ kvs,H p=some (.dK kvs))∨∃ kvs,H p=some (.dT kvs)))∨(T = "set" /\ ∃ S n,H p=some (.set S n))
 | _=>False
theorem qaO5{Gm:List (Addr×Obj)}{σ:St}{H:Hp}{s:Shared}{T:String}{v:Value}(I:Inv X Gm σ H s)(r:RelV x v)(ty:tyV X.K T x H) :
   s.TypeIs v T/\∀ a,v=.ref a->∃ ob,s.heap.get? a=some ob/\ob.dict=none:=by
 cases x with
 | str z =>
   obtain⟨t,rfl⟩:=r;cases (show T = "str" from ty);exact⟨typeIs_str s z t,λ _ e=>nomatch e⟩
 | int i =>
   obtain⟨t,rfl⟩:=r;cases (show T = "int" from ty);exact⟨typeIs_int s i t,λ _ e=>nomatch e⟩
 | ref p =>
   cases r;rcases ty with⟨rfl,xs,hq⟩ | ⟨rfl,o,hk,hc,d⟩ | ⟨rfl,hk⟩ | ⟨rfl,S,n,hk⟩
   . obtain⟨g,_,f,_⟩:=I.list hq
     refine⟨f.isList.typeIs,λ a e=>?_⟩;cases e;obtain⟨o,n,e,c,d,_⟩:=f;exact⟨o,e,d⟩
   . refine⟨⟨o,I.kIn p o hk,hc⟩,λ a e=>?_⟩
     cases e;exact⟨o,I.kIn _ o hk,d⟩
   . have z:∃ o,s.heap.get? p=some o/\o.ExactDict:=by
       rcases hk with⟨kvs,hk⟩ | ⟨kvs,hk⟩
       . obtain⟨_,_,_,_,o,_,_,e,b,_⟩:=I.hok p _ hk
         exact⟨o,e,b⟩
       obtain⟨_,_,_,_,o,_,_,e,b,_⟩:=I.hok p _ hk;exact⟨o,e,b⟩
     obtain⟨o,e,b⟩:=z;refine⟨⟨o,e,b.1⟩,λ a e2=>?_⟩;cases e2;exact⟨o,e,b.2.1⟩
   obtain⟨o,_,_,_,e,b,_⟩:=I.hok p _ hk;refine⟨⟨o,e,b.1⟩,λ a e2=>?_⟩;cases e2;exact⟨o,e,b.2.1⟩
 | _=>exact False.elim ty
def tBM(K:PySem.W.Frag)(T:String)(r:V->List V->Hp->VK->Prop)(to:TE)(t:TA):TE:=λ σ H Q=>to σ H λ x H1=>tyV K T x H1/\t σ H1 λ xs H2=>r x xs H2 Q
variable{o e:Expr}{es:List Expr}{to:TE}{t:TA}{name:Str}{apos cpos:Pos}{T id:String}{r:V->List V->Hp->VK->Prop}
theorem Lz(g:PlainAttrs T)(slot:Slot T name id)(b:typeOf (.builtin id)=pure (.type "method_descriptor"))(hm:MtR X id r)(i:PE X o to)(j:PA X (e::es) t)(hbase:attributeBase o name X.env (eval o X.env)=eval o X.env:=by rfl)(a:((backTo cpos (starEach (e::es) X.env)).all (λ x=>!x.1)&&(backToKw cpos (keywordEach [] X.env)).all (λ x=>x.1.isSome)
     && decide ((e::es).length+([]:List Keyword).length+(if ([]:List Keyword).isEmpty then 0 else 1) < 30))=true:=by rfl)(hline:(apos.endLine == cpos.line)=true:=by rfl)(k:starEach (e::es) X.env=(false,eval e X.env)::starEach es X.env:=by rfl)(hplain:(backTo cpos (starEach es X.env)).any (·.1)=false:=by rfl) :
   PE X (.Call (.Attribute o name apos) (e::es) [] cpos) (tBM X.K T r to t):=by
 intro Gm s σ H Q I h;refine wpAny_Call_method_late hbase a hline rfl (thn (i Gm s σ H _ I h) λ v l c=>?_);obtain⟨x,H1,I1,d,m,n⟩:=c;obtain⟨p,q⟩:=qaO5 I1 d m;refine⟨T,id,g,slot,b,p,q,?_⟩;have f:=j cpos Gm l σ H1 _ I1 n;rw[k] at f ⊢;refine Calls.callWith_builtin (by show (false||(backTo cpos (starEach es X.env)).any (·.1))=false;rw[hplain]<;>rfl) (Calls.evalArgs_plain ?_);exact thn f λ u w ⟨y,H2,I2,z,q2⟩=>hm Gm w σ H2 x y v u Q I2 d z q2
/- xs.append(e),list.index on a module's tuple .. are MtR facts of 06m -/
end
def MtM(X:Cx)(id:String)(r:V->List V->Hp->VK->Prop):Prop :=
 ∀(Gm:List (Addr×Obj))(s:Shared)(σ:St)(H:Hp)(x:V)(xs:List V)(v:Value)(us:List Value)(Q:VK),Inv X Gm σ H s->RelV x v->Vals xs us->r x xs H Q ->
   wpAny (model X.prog X.w) X.A (call (.builtin id) (v::us)) (EP X Gm σ Q) X.xe s
theorem Vals.one{us:List Value}(h:Vals [x] us):∃ u,us=[u]/\RelV x u:=by
 cases h with
 | cons r t=>cases t;exact⟨_,rfl,r⟩
theorem Vals.two{y:V}{us:List Value}(h:Vals [x,y] us):∃ u v,us=[u,v]/\RelV x u/\RelV y v:=by
 cases h with
 | cons r t =>
   cases t with
   | cons q t=>cases t;exact⟨_,_,rfl,r,q⟩
theorem Vals.zero:∀{us:List Value},Vals [] us->us=[]
 | _,.nil=>rfl
theorem Vals.rep{xs:List V}{us:List Value}(h:Vals xs us):∀ k:Nat,Vals (List.replicate k xs).flatten (List.replicate k us).flatten
 | 0=>.nil
 | k+1=>by
   rw[zBf,zBf,zBr,zBr];exact Vals.append h (Vals.rep h k)
theorem qW7(its:List Value):∀(k:Nat)(acc:List Value),
   List.foldl (λ a b=>a++b) acc.toArray (List.replicate k its.toArray)=(acc++(List.replicate k its).flatten).toArray
 | 0,acc=>by simp
 | k+1,acc=>by
   have e:acc.toArray++its.toArray=(acc++its).toArray:=by simp
   have e2:(acc++its)++(List.replicate k its).flatten=acc++(List.replicate (k+1) its).flatten:=by
     rw[zBf,zBr,zAw]
   rw[<- e2,<- qW7 its k (acc++its),<- e,zBf,List.foldl_cons]
section
variable{X:Cx}{Gm:List (Addr×Obj)}{σ:St}{H:Hp}{s:Shared}{l:Addr}{xs ys:List V}
theorem Inv.lset{its':List Value}{f:Array Value->Array Value}{t':Nat}(I:Inv X Gm σ H s)(a:H l=some (.lst xs))(e:s.heap.get? l=some { cls:=.type "list",data:=.seq its.toArray n })(b:f its.toArray=its'.toArray)(c:Vals ys its')(d:ys.length<=sizeLine) :
   Inv X Gm σ (upd H l (.lst ys)) { s with heap:=s.heap.update l (Obj.mapSeq f),toks:=t' }:=by
 have q:=PySem.IsL.update e f;rw[b] at q;refine I.write (x:=l) (e:=l) (by rw[a];exact trivial) (.inl rfl) (λ i u g h=>(zB4 s.heap (Obj.mapSeq f) (Ne.symm g)).trans h) ⟨_,q⟩ ?_;exact⟨d,its',_,c,q⟩
theorem Inv.lnew{t':Nat}(I:Inv X Gm σ H s)(a:Vals ys its)(b:ys.length<=sizeLine) :
   Inv X Gm σ (upd H s.heap.objs.size (.lst ys)) { s with heap:=s.heap.push { cls:=.type "list",data:=.seq its.toArray },toks:=t' } :=
 I.laid (λ _ _ q=>zA2 _ q) (zA3 _) ⟨b,its,0,a,zAt _ rfl⟩
theorem Inv.fresh(I:Inv X Gm σ H s):H s.heap.objs.size=none:=I.hok.fresh (zA3 _)
theorem Inv.lstM(I:Inv X Gm σ H s)(a:H l=some (.lst xs)):xs.length<=sizeLine/\∃(its:List Value)(n:Nat),Vals xs its/\xs.length=its.length/\s.heap.get? l=some { cls:=.type "list",data:=.seq its.toArray n }:=by
 obtain⟨z,its,n,r,e⟩:=I.hok l _ a;exact⟨z,its,n,r,r.length,e⟩
theorem qaz4(h:n<=sizeLine):Builtin.List.listTooLong n=false:=by
 unfold Builtin.List.listTooLong;exact zB0 (by lia)
end
section
variable{X:Cx}
def qas5:V->List V->Hp->VK->Prop:=λ x vs H Q=>∃ l xs y,x=.ref l/\vs=[y]/\H l=some (.lst xs)/\xs.length < sizeLine/\Q .non (upd H l (.lst (xs++[y])))
theorem qi1:MtM X "list.append" qas5:=by
 intro Gm s σ H x g v i Q I c d h;obtain⟨l,j,y,rfl,rfl,b,k,q⟩:=h;cases c;obtain⟨u,rfl,f⟩:=d.one;obtain⟨z,a,n,r,m,e⟩:=I.lstM b;refine call_meets F.slot_list_append ⟨_,e,rfl⟩ F.entry_list_append (F.args_list_append_2 _ _) (PySem.list_append l a.toArray n u (by rw[zA4];lia)) ⟨e,?_⟩;refine⟨.non,_,I.lset (its':=a++[u]) b e (by simp) (r.append (.cons f .nil)) ?_,rfl,q⟩;rw[zA7,List.length_singleton];lia
def rCat:R2:=λ x y H Q=>∃ l b xs a,x=.ref l/\y=.ref b/\H l=some (.lst xs)/\H b=some (.lst a)/\xs.length+a.length<=sizeLine/\∀ p,H p=none->Q (.ref p) (upd H p (.lst (xs++a)))
theorem qaR9:OpR X (binaryOp .Add) rCat:=by
 intro Gm s σ H x y v u Q I c d h;obtain⟨l,b,m,o,rfl,rfl,f,g,p,q⟩:=h;cases c;cases d;obtain⟨z,a,n,r,t,e⟩:=I.lstM f;obtain⟨w,its2,A,i,j,e2⟩:=I.lstM g;refine PySem.P.add_list e e2 ?_ (by rw[zA4,zA4];lia);have k:a.toArray++its2.toArray=(a++its2).toArray:=by simp
 rw[k];exact⟨.ref _,_,I.lnew (t':=s.toks) (r.append i) (by rw[zA7];lia),rfl,q _ I.fresh⟩
def rRep:R2:=λ x y H Q=>∃ l k xs,x=.ref l/\y=.int k/\H l=some (.lst xs)/\-(2 ^ 63)<=k/\k < 2 ^ 63/\xs.length * k.toNat<=sizeLine /\
 ∀ p,H p=none->Q (.ref p) (upd H p (.lst (List.replicate k.toNat xs).flatten))
theorem qaK3(xs:List α)(k:Nat):(List.replicate k xs).flatten.length=k * xs.length:=by
 induction k with
 | zero=>simp
 | succ k a=>rw[zBf,zBr,zA7,a,Nat.succ_mul,Nat.add_comm]
theorem qaR2:OpR X (binaryOp .Mult) rRep:=by
 intro Gm s σ H x y v u Q I p w h;obtain⟨l,k,J,rfl,rfl,A,B,C,o,q⟩:=h;cases p;obtain⟨t,rfl⟩:=w;obtain⟨z,b,n,r,D,e⟩:=I.lstM A;have c:b.toArray.size * k.toNat<=sizeLine:=by rw[zA4,<- D];exact o
 have d:¬ b.toArray.size * k.toNat > (2 ^ 63 - 1) / 8:=by
   have:(sizeLine:Nat)<=(2 ^ 63 - 1) / 8:=by decide
   lia
 have f:¬ (!Builtin.List.listFitsIndex k)=true:=by
   rw[fitsIndex_both B C];exact zAc
 have hlong:¬ Builtin.List.listTooLong (b.toArray.size * k.toNat)=true:=by
   rw[qaz4 c];exact zAc
 have g:List.foldl (λ i j=>i++j) #[] (List.replicate (if b.toArray.isEmpty=true then 0 else k.toNat) b.toArray)=(List.replicate k.toNat b).flatten.toArray:=by
   have E:∀ m:Nat,List.foldl (λ i j=>i++j) #[] (List.replicate m b.toArray)=(List.replicate m b).flatten.toArray:=λ m=>by
     have:=qW7 b m []
     rw[zBh] at this;exact this
   rw[E];cases b with
   | nil=>simp
   | cons a K=>rw[if_neg (by simp)]
 refine wpAny_binaryOp_repeat_ref (T := "list") (U := "int") (by decide) ⟨_,e,rfl⟩ (λ G=>typeIs_int G k t) noFill_list_mul F.fills_int_mul F.slot_int_rmul repeat_list F.slot_int_index.lookup
   (call_meets F.slot_int_rmul (typeIs_int s k t) F.entry_int_rmul (F.args_int_rmul_2 _ _) (int___rmul___int_list k t l b.toArray n)
     ⟨e,rfl,⟨_,e,rfl⟩,call_meets F.slot_list_mul ⟨_,e,rfl⟩ F.entry_list_mul (F.args_list_mul_2 _ _) (AutoListH.list___mul___list_int_3 l b.toArray n k t f d hlong) ⟨e,?_⟩⟩)
 rw[g];exact⟨.ref _,_,I.lnew (t':=s.toks) (r.rep k.toNat) (by rw[qaK3,Nat.mul_comm];exact o),rfl,q _ I.fresh⟩
end
section
variable{κ:Type}[DecidableEq κ]
noncomputable def Hs(kvs:List (κ×V))(k:κ):Option V:=(kvs.find? λ a=>decide (a.1=k)).map (·.2)
noncomputable def putK(kvs:List (κ×V))(k:κ)(v:V):List (κ×V) :=
 if (kvs.any λ a=>decide (a.1=k))=true then kvs.map (λ a=>if a.1=k then (a.1,v) else a) else kvs++[(k,v)]
theorem qO7{p:κ×V}{r:List (κ×V)}{k:κ}(e:p.1=k):Hs (p::r) k=some p.2:=by simp[Hs,zBm,e]
theorem qO8{p:κ×V}{r:List (κ×V)}{k:κ}(e:¬ p.1=k):Hs (p::r) k=Hs r k:=by simp[Hs,zBm,e]
theorem qaa9(kvs:List (κ×V))(k:κ)(v:V):(putK kvs k v).length<=kvs.length+1:=by
 unfold putK;split
 . rw[zAf];lia
 rw[zA7,zAn,zBy];lia
theorem RelO.getD{o:Option V}{u:Option Value}{d:V}{d':Value}(r:RelO o u)(a:RelV d d'):RelV (o.getD d) (u.getD d'):=by
 cases o with
 | none=>cases u with
   | none=>exact a
   | some _=>exact(show False from r).elim
 | some _=>cases u with
   | none=>exact(show False from r).elim
   | some _=>exact r
theorem KV.val{kvs:List (κ×V)}{vs:List (κ×Value)}(r:KV kvs vs)(k:κ):RelO (Hs kvs k) (valueAt vs k):=by
 unfold KV at r
 induction r with
 | nil=>exact True.intro
 | @cons p q ps qs h t ih =>
   obtain⟨c,d⟩:=h;by_cases e:p.1=k
   . have a:q.1=k:=c.symm.trans e
     have b:valueAt (q::qs) k=some q.2:=by simp[valueAt,zBm,a]
     rw[qO7 e,b];exact d
   have a:¬ q.1=k:=λ z=>e (c.trans z)
   have b:valueAt (q::qs) k=valueAt qs k:=by simp[valueAt,zBm,a]
   rw[qO8 e,b];exact ih
theorem KV.any{kvs:List (κ×V)}{vs:List (κ×Value)}(r:KV kvs vs)(k:κ):(kvs.any λ a=>decide (a.1=k))=vs.any λ a=>decide (a.1=k):=by
 unfold KV at r
 induction r with
 | nil=>rfl
 | cons h t b=>rw[zC1,zC1,b,h.1]
theorem KV.repl{kvs:List (κ×V)}{vs:List (κ×Value)}(r:KV kvs vs)(k:κ){y:V}{u:Value}(c:RelV y u) :
   KV (kvs.map λ a=>if a.1=k then (a.1,y) else a) (vs.map λ a=>if a.1=k then (a.1,u) else a):=by
 unfold KV at r ⊢
 induction r with
 | nil=>exact .nil
 | @cons p q ps qs h t ih =>
   rw[zAx,zAx];refine .cons ?_ ih;obtain⟨b,d⟩:=h;by_cases e:p.1=k
   . rw[if_pos e,if_pos (b.symm.trans e)];exact⟨b,c⟩
   rw[if_neg e,if_neg (λ z=>e (b.trans z))];exact⟨b,d⟩
theorem KV.put{kvs:List (κ×V)}{vs:List (κ×Value)}(r:KV kvs vs)(k:κ){y:V}{u:Value}(a:RelV y u):KV (putK kvs k y) (stored vs k u):=by
 unfold putK stored;rw[r.any k];by_cases e:(vs.any λ b=>decide (b.1=k))=true
 . rw[if_pos e,if_pos e];exact r.repl k a
 rw[if_neg e,if_neg e];exact Paired.snoc r ⟨rfl,a⟩
theorem KV.length{kvs:List (κ×V)}{vs:List (κ×Value)}(r:KV kvs vs):kvs.length=vs.length:=Paired.length r
end
theorem L5{P:Program}{w:World}{k:Key}{u:Value}(r:RelV (kV k) u):(qe9 P w).is k u=true:=by
 cases k with
 | inl i=>obtain⟨t,e⟩:=(show ∃ t,u=Value.int i t from r);subst e;exact qaa6 P w i t
 | inr x=>obtain⟨t,e⟩:=(show ∃ t,u=Value.str x t from r);subst e;exact qaa5 P w x t
theorem qW0{P:Program}{w:World}:∀{ks:List Key}{us:List Value},Vals (ks.map kV) us->ItemsAre (qe9 P w) ks us
 | [],_,r=>by rw[List.map_nil] at r;cases r;exact .nil
 | k::ks,_,r=>by
   rw[zAx] at r;cases r with
   | cons h t=>exact .cons (L5 h) (qW0 t)
abbrev KT(H:Hp):List (List Key×V)->List (List Key×Addr×Value)->Prop:=Paired λ p q=>p.1=q.1/\H q.2.1=some (.tup (p.1.map kV))/\RelV p.2 q.2.2
theorem KT.val{H:Hp}{kvs:List (List Key×V)}{xs:List (List Key×Addr×Value)}(r:KT H kvs xs)(k:List Key):RelO (Hs kvs k) ((atKey xs k).map (·.2)):=by
 induction r with
 | nil=>exact True.intro
 | @cons p q ps qs h t ih =>
   obtain⟨c,_,d⟩:=h;by_cases e:p.1=k
   . have a:q.1=k:=c.symm.trans e
     have b:atKey (q::qs) k=some q.2:=by simp[atKey,zBm,a]
     rw[qO7 e,b];exact d
   have a:¬ q.1=k:=λ z=>e (c.trans z)
   have b:atKey (q::qs) k=atKey qs k:=by simp[atKey,zBm,a]
   rw[qO8 e,b];exact ih
section
variable{P:Program}{w:World}{H:Hp}{h:Heap}{a:Addr}
theorem rd_of{u:HO}(b:HOk P w H h)(e:Rd H a u):ObjOk P w H h a u:=e.ok b
theorem Jv{kvs:List (Key×V)}(b:HOk P w H h)(e:Rd H a (.dK kvs)):kvs.length<=sizeLine/\(a == sysModules)=false/\∃ vs,KV kvs vs/\h.DictOf (qe9 P w) a vs :=
 show ObjOk P w H h a (.dK kvs) from rd_of b e
theorem qaK7{ks:List Key}(c:HOk P w H h)(e:H a=some (.tup (ks.map kV))):(tupleKind (qe9 P w)).is h ks a:=by
 obtain⟨_,b,r,o,d,f,n,g⟩:=(show ObjOk P w H h a (.tup (ks.map kV)) from c a _ e)
 exact⟨o,b.toArray,n,d,f,g,by simpa using qW0 r⟩
theorem dt_rd{kvs:List (List Key×V)}(c:HOk P w H h)(e:Rd H a (.dT kvs)):kvs.length<=sizeLine/\(a == sysModules)=false /\
   ∃ xs,KT H kvs xs/\h.DictOfH (tupleKind (qe9 P w)) a xs:=by
 obtain⟨z,y,xs,r,o,d,f,g,i,j,k,n⟩:=(show ObjOk P w H h a (.dT kvs) from rd_of c e)
 refine⟨z,y,xs,r,o,d,f,g,i,j,k,λ x b=>?_,n⟩;have all:∀{l:List (List Key×V)}{m:List (List Key×Addr×Value)},KT H l m->∀ x∈m,(tupleKind (qe9 P w)).is h x.1 x.2.1:=by
   intro l m q
   induction q with
   | nil=>intro x b;exact nomatch b
   | @cons p q ps qs hq t ih =>
     intro x b;rcases zAl.mp b with e | b
     . subst e
       exact qaK7 c (by rw[<- hq.1];exact hq.2.1)
     exact ih x b
 exact all r x b
end
def DGet(H:Hp)(a:Addr)(y:V)(r:Option V):Prop :=
 (∃ kvs k,Rd H a (.dK kvs)/\y=kV k/\r=Hs kvs k)∨∃ kvs k b,Rd H a (.dT kvs)/\y=.ref b/\H b=some (.tup (k.map kV))/\r=Hs kvs k
section
variable{X:Cx}{Gm:List (Addr×Obj)}{σ:St}{H:Hp}{s:Shared}
theorem Inv.big(I:Inv X Gm σ H s):sysModules < s.heap.objs.size:=by
 have h:mainGlobals < s.heap.objs.size:=(I.mod.glob.keeps I.bk).lt;exact Nat.lt_trans (by decide) h
end
section
variable{X:Cx}{Gm:List (Addr×Obj)}{σ:St}{H:Hp}{s:Shared}{a:Addr}{kvs:List (Key×V)}{A:Around}{E:Value->Shared->Prop}
theorem d_len{Q:Value->Shared->Prop}(I:Inv X Gm σ H s)(e:Rd H a (.dK kvs))(h:∀ t s',Inv X Gm σ H s'->Q (.int kvs.length t) s'):wpAny (model X.prog X.w) A (call (.builtin "len") [.ref a]) Q E s:=by
 obtain⟨z,b,d,rel,c⟩:=Jv I.hok e;refine call_len_dict b c (by rw[<- rel.length];rw[sizeLine_eq] at z;lia) ?_;rw[<- rel.length];exact h _ _ (I.tok _)
end
theorem qaC7{P:Program}{w:World}{H:Hp}(h:Heap)(a:sysModules < h.objs.size):ObjOk P w H (h.push { cls:=.type "dict",data:=.dict #[] }) h.objs.size (.dK []) :=
 ⟨zBk _,zBd.mpr (Ne.symm (zAh a)),[],.nil,Heap.DictOf.new h⟩
def qaO7:TE:=λ _ H Q=>∀ p,H p=none->Q (.ref p) (upd H p (.dK []))
section
variable{X:Cx}{pos:Pos}
theorem qay3:PE X (.Dict [] [] pos) qaO7:=λ Gm s σ H Q I h =>
 wpAny_Dict_empty ⟨.ref s.heap.objs.size,_,I.laid (a:=s.heap.objs.size) (o:=.dK []) (t':=s.toks) (λ _ _ q=>zA2 _ q) (zA3 _) (qaC7 s.heap I.big),rfl,h _ (I.hok.fresh (zA3 _))⟩
end
def qD6(kvs more:List (Key×V)):List (Key×V):=more.foldl (λ acc a=>putK acc a.1 a.2) kvs
theorem qw4:∀(more kvs:List (Key×V)),(qD6 kvs more).length<=kvs.length+more.length
 | [],kvs=>by show kvs.length<=kvs.length+0;lia
 | p::r,kvs=>by
   have a:=qw4 r (putK kvs p.1 p.2);have b:=qaa9 kvs p.1 p.2;show (qD6 (putK kvs p.1 p.2) r).length<=_;rw[zAn];lia
structure M2(X:Cx)(o:Expr)(m:Str)(apos:Pos)(e f:Expr)(cpos:Pos):Prop where
 base:attributeBase o m X.env (eval o X.env)=eval o X.env
 few:((backTo cpos (starEach [e,f] X.env)).all (λ x=>!x.1)&&(backToKw cpos (keywordEach [] X.env)).all (λ x=>x.1.isSome)
   && decide (([e,f]:List Expr).length+([]:List Keyword).length+(if ([]:List Keyword).isEmpty then 0 else 1) < 30))=true
 line:(apos.endLine == cpos.line)=true
 trees:backTo cpos (starEach [e,f] X.env)=[(false,eval e X.env),(false,eval f X.env)]
def IsD(H:Hp)(a:Addr):Prop:=(∃ kvs,Rd H a (.dK kvs))∨∃ kvs,Rd H a (.dT kvs)
theorem qaL0{X:Cx}{Gm:List (Addr×Obj)}{σ:St}{H:Hp}{s:Shared}{a:Addr}(I:Inv X Gm σ H s)(d:IsD H a) :
   s.TypeIs (.ref a) "dict" /\ (∀ b,Value.ref a=.ref b->∃ ob,s.heap.get? b=some ob/\ob.dict=none)/\(a == sysModules)=false:=by
 rcases d with⟨kvs,e⟩ | ⟨kvs,e⟩
 . obtain⟨_,f,i,_,c⟩:=Jv I.hok e
   refine⟨c.typeIs,λ b q=>?_,f⟩;cases q;obtain⟨ob,_,_,g,h,_⟩:=c;exact⟨ob,g,h.2.1⟩
 obtain⟨_,f,j,_,c⟩:=dt_rd I.hok e;refine⟨c.typeIs,λ b q=>?_,f⟩;cases q;obtain⟨ob,_,_,g,h,_⟩:=c;exact⟨ob,g,h.2.1⟩
section
variable{X:Cx}{Gm:List (Addr×Obj)}{σ:St}{H:Hp}{s:Shared}{a:Addr}{y d:V}{u r:Value}{o:Option V}{A:Around}{E:Value->Shared->Prop}
theorem qaU6{Q:Value->Shared->Prop}(n:A.units+1 < cLine)(I:Inv X Gm σ H s)(g:DGet H a y o)(i:RelV y u)(j:RelV d r)(h:∀ m s',Inv X Gm σ H s'->RelV (o.getD d) m->Q m s') :
   wpAny (model X.prog X.w) A (call (.builtin "dict.get") [.ref a,u,r]) Q E s:=by
 rcases g with⟨kvs,k,e,ey,l⟩ | ⟨kvs,k,b,e,ey,eb,l⟩
 . subst ey
   obtain⟨z,f,q,rel,c⟩:=Jv I.hok e;refine call_meetsIn PySem.F.slot_dict_get c.typeIs PySem.F.entry_dict_get (PySem.F.args_dict_get_3 _ _ _) (meets_dict_get_default (qe9 X.prog X.w) a (L5 i) f r) ⟨_,c.mapOf,h _ _ (I.tok _) ?_⟩;rw[l];exact(rel.val k).getD j
 subst ey;cases (show u=Value.ref b from i);obtain⟨z,f,p,rel,c⟩:=dt_rd I.hok e;refine call_meetsIn PySem.F.slot_dict_get c.typeIs PySem.F.entry_dict_get (PySem.F.args_dict_get_3 _ _ _) (meetsH_dict_get_default (tupleKind (qe9 X.prog X.w)) a b f r) ⟨tupleKind_room_in1 n,k,p,qaK7 I.hok eb,c,h _ _ (I.tok _) ?_⟩;rw[l];exact(rel.val k).getD j
end
def qaO8(td ty tx:TE):TE:=λ σ H Q=>td σ H λ x H1=>∃ a,x=.ref a/\IsD H1 a/\ty σ H1 λ y H2=>tx σ H2 λ z H3=>∃ o,DGet H3 a y o/\Q (o.getD z) H3
section
variable{X:Cx}{o e f:Expr}{apos cpos:Pos}{td ty tx:TE}
theorem qay4(i:X.A.units+1 < cLine)(j:PE X o td)(k:PE X e ty)(l:PE X f tx)(m:M2 X o "get" apos e f cpos):PE X (.Call (.Attribute o "get" apos) [e,f] [] cpos) (qaO8 td ty tx):=by
 intro Gm s σ H Q I h;refine wpAny_Call_method m.base m.few m.line PySem.F.plainAttrs_dict PySem.F.slot_dict_get PySem.F.type_dict_get (thn (j Gm s σ H _ I h) λ u n b=>?_);obtain⟨x,H1,I1,p,a,q,d,r⟩:=b;subst q;obtain rfl:u=Value.ref a:=p;obtain⟨t1,t2,_⟩:=qaL0 I1 d;refine⟨t1,t2,?_⟩;rw[m.trees];refine Calls.callWith_builtin rfl (Calls.evalArgs_plain (Calls.spliced_cons (thn (k Gm n σ H1 _ I1 r) λ C t ⟨y,H2,I2,v,q2⟩ =>
   Calls.spliced_cons (thn (l Gm t σ H2 _ I2 q2) λ D E ⟨z,H3,I3,w,G,g,B⟩=>Calls.spliced_nil ?_))))
 exact qaU6 i I3 g v w λ J K I4 c=>⟨_,H3,I4,c,B⟩
end
end L2
namespace Att
open PySem PySem.W PySem.Calls PyProof.Rows
theorem qD9{P:Params}{h:Heap}:∀(ns:List Int)(vs:List Value),WellAll P h vs (ns.map WData.int)->IntsAre vs ns:=by
 intro ns
 induction ns with
 | nil =>
   intro vs w;rw[List.map_nil] at w;cases w;exact .nil
 | cons n ns c =>
   intro vs w;rw[zAx] at w;cases w with
   | cons a b =>
     cases a;exact .cons _ _ (c _ b)
theorem qam7{l:OpenLaw}{n:Nat}(m:l.most=some n){P:Params}{h:Heap}{args:List WData}{vals:List Value}(b:l.row.toRowW.claim.pre args=true)(i:WellAll P h vals args) :
   ∃ a vs ns,vals=[Value.ref a]/\args=[WData.list (ns.map WData.int)]/\h.get? a=some { cls:=.type "list",data:=.seq vs.toArray }/\IntsAre vs ns/\ns.length<=n:=by
 have j:WShape.hasAll [] args [.list .int]=true:=(pre_splitW b).1;have k:l.pre.holds [] { args:=args }=true:=(pre_splitW b).2;obtain⟨d,r,rfl,o,p⟩:=hasAllW_cons j;obtain rfl:=hasAllW_nil p;obtain⟨x,rfl,s⟩:=hasW_list o;obtain⟨ns,rfl⟩:=items_int s;have c:ns.length<=n:=by
   unfold OpenLaw.pre at k;have f:(WTm.not (.lt (.lit (.int (n:Int))) (.len (.arg 0)))).holds [] { args:=[.list (ns.map .int)] }=true:=by
     have f:=(holds_andW k).1;rw[m] at f;exact f
   have g:=condW_of f (w_not (w_lt w_lit (w_len_list (w_arg rfl))));rw[zAf] at g;refine zBv λ q=>?_
   have t:(n:Int) < ((ns.length:Nat):Int):=by lia
   first
     | (rw[zAo t] at g;exact absurd g (by decide))
     | (simp at g;lia)
 cases i with
 | cons u v =>
   cases v;cases u with
   | list w e=>exact⟨_,_,ns,rfl,rfl,w,qD9 ns _ e,c⟩
theorem qan0(l:OpenLaw)(args:List WData):l.row.toRowW.claim.post args (.bool true) args=true :=
 postW_of (r:=l.row.toRowW) (X:=(true == true))
   (show WShape.has [] (.bool true) .bool=true by first | rfl | decide | simp[WShape.has,WShape.arms,WShape.armsAll])
   (show (WTm.eq .res (.lit (.bool true))).value [] { args:=args,res:=some (.bool true),after:=args }=some (.bool (true == true)) from w_eq_bool (w_res rfl) w_lit) rfl
theorem qab7{l:OpenLaw}{n:Nat}{q:Program}{loose:List Str}{XP:(Str->Option Value)->Heap->Prop}{YP:World->Heap->Prop}{d:DefRec}(u:l.most=some n)(h:d.params.defaults=[])(call:∀(w:World)(s₀ s₁:Shared)(mg i:Str->Option Value)(fa:Addr)(o:Obj)(j cd b:Value)(a:Addr)(vs:List Value)(ns:List Int),
     Ground q loose [] XP w s₀ mg i s₁.heap->YP w s₁.heap ->
     s₁.heap.get? fa=some o->o.data=.func (docDef d.name d.params d.body d.scope j cd b)->s₁.heap.CodeRec cd d.name->mg d.name=some (.ref fa) ->
     s₁.heap.get? a=some { cls:=.type "list",data:=.seq vs.toArray }->IntsAre vs ns->ns.length<=n->s₁.gens = #[] ->
     codeAny (model l.prog w) callerA (.call (.ref fa) ⟨[.ref a],[]⟩) (λ r s'=>r=.ok (.ret (.bool true))/\OldK s₁.heap s'.heap/\s'.os=s₁.os/\AllBare s'.gens) s₁) :
   WalkO q loose XP YP l.row.toRowW d [] (λ f vs=>PySem.call f vs):=by
 intro w s₀ s₁ mg i G Y fa o j cd b v kV x y k s m z args vals I c t A p B;obtain rfl:v=.none:=Dflts.none s h;obtain rfl:kV=.none:=Dflts.noKw s;obtain⟨a,vs,ns,rfl,rfl,e,hints,g⟩:=qam7 u c p;refine enter_call (codeAny_mono (call w s₀ s₁ mg i fa o j cd b a vs ns G Y x (fd_plain y) k m e hints g z) λ r s' C=>?_);obtain⟨rfl,D,E,F⟩:=C;exact⟨.inl ⟨.bool true,.bool true,[],rfl,λ _=>rfl,.bool true,qan0 l _,λ _=>⟨List.Pairwise.nil,λ _ H=>(nomatch H)⟩⟩,D,E,F⟩
end Att
namespace L2
open PySem PySem.Spec PyProof.Rows
theorem qT9:∀{vs:List Value}{ns:List Int},IntsAre vs ns->Vals (ns.map V.int) vs
 | _,_,.nil=>.nil
 | _,_,.cons n t h=>.cons ⟨t,rfl⟩ (qT9 h)
def Only(H:Hp):Prop:=∀ b,H b=none∨∃ o xs,H b=some (.frz o (.lst xs))
theorem qaA4{P:Program}{w:World}{K:PySem.W.Frag}{mg C:Str->Option Value}{CX:CXT}{k:Nat}{fa a:Addr}{fd:FuncData}{x:Str}{sp:Sp}{s₁:Shared}{vs:List Value}{ns:List Int}(KX:K.In s₁.heap)(g:s₁.heap.Ns mainGlobals mg)(c:s₁.heap.Ns builtinsNs C)(D:∀ x:Str,x ≠ "__name__" -> C x=bootBuiltins x)(i:s₁.heap.NoLimit)(T:s₁.gens = #[])(B:s₁.heap.get? a=some { cls:=.type "list",data:=.seq vs.toArray })(hi:IntsAre vs ns)(M:ns.length<=sizeLine)(U:Room k callerA)(F:∀ base:Heap,K.In base->base.Ns mainGlobals mg->B7 P w K mg base CX k fa fd [x] sp)(hbind:∀(s:Shared)(u:Value),BindsTo s fd ⟨[u],[]⟩ [(x,u)])(E:∀ H:Hp,Only H->SqL K H a (ns.map V.int)->sp [.ref a] H (λ v _=>v=.bl true) λ _ _ _=>False)(G:∀ H e s',CX [] H s₁ (λ _ _ _=>False) e s'->False) :
   codeAny (model P w) callerA (.call (.ref fa) ⟨[.ref a],[]⟩) (λ r s'=>r=.ok (.ret (.bool true))/\OldK s₁.heap s'.heap/\s'.os=s₁.os/\AllBare s'.gens) s₁:=by
 have N:=qT9 hi;have lenV:=hi.length;have core:∀ H:Hp,Only H->SqL K H a (ns.map V.int)->HOk P w H s₁.heap->(∀ b,H b≠none->b=a)->(H a≠none->K.lookup a=none) ->
     codeAny (model P w) callerA (.call (.ref fa) ⟨[.ref a],[]⟩) (λ r s'=>r=.ok (.ret (.bool true))/\OldK s₁.heap s'.heap/\s'.os=s₁.os/\AllBare s'.gens) s₁:=by
   intro H O X j Q Y;have base_of:∀{b:Addr}{o:Obj},s₁.heap.get? b=some o->H b=none->(Jm s₁.heap H).get? b=some o:=λ e n=>qaB1 e n
   have I:∀{b:Addr}{o:Obj}{l:Array DictEntry}{p:Nat},s₁.heap.get? b=some o->o.data=.dict l p->H b=none:=λ{b o l p} e d=>by
     cases q:H b with
     | none=>rfl
     | some u =>
       have J:b=a:=Q b (by rw[q];simp);subst J;rw[B] at e;cases e;have Z:Data.seq vs.toArray _=Data.dict l p:=d;cases Z
   have f:∀{b:Addr}{m:Str->Option Value},s₁.heap.Ns b m->(Jm s₁.heap H).Ns b m:=λ{b m} ⟨o,l,p,e,d,r⟩=>⟨o,l,p,base_of e (I e d),d,r⟩
   have t:K.In (Jm s₁.heap H):=λ b o e=>base_of (KX b o e) (by
     cases q:H b with
     | none=>rfl
     | some u =>
       have J:b=a:=Q b (by rw[q];simp);subst J;rw[Y (by rw[q];simp)] at e;cases e)
   have hM:Mod K mg (Jm s₁.heap H):=⟨t,f g,⟨C,f c,D⟩,let ⟨mc,h1,h2⟩:=i;⟨mc,f h1,h2⟩⟩
   have e0:Env0 P w K mg (Jm s₁.heap H) callerA [] s₁ H:=⟨rfl,hM,λ b o e=>qaJ1 e,Nat.le_of_eq (qao4 _ _),trivial,λ b c=>absurd (show b∈([]:List Addr) from c) (by simp),j,.of_eq T⟩
   refine codeAny_mono ((F _ t (f g)).run callerA [] s₁ H ⟨[.ref a],[]⟩ [.ref a] [.ref a] _ _ U e0 (hbind s₁ (.ref a)) (.cons rfl .nil) (E H O X)) λ r s' h=>?_
   cases r with
   | error e=>exact(G H e s' h).elim
   | ok fl =>
     cases fl with
     | next=>exact False.elim h
     | brk=>exact False.elim h
     | cont=>exact False.elim h
     | ret u =>
       obtain⟨v,H',os,bare,R,y,r',q⟩:=h;have q':v=.bl true:=q;subst q';obtain rfl:u=Value.bool true:=r';refine⟨rfl,OldK.of_keep λ b o e=>?_,os,bare⟩;cases q:H b with
       | none=>exact R.keep b o e q (by intro z;exact absurd (show b∈([]:List Addr) from z) (by simp)) (by simp)
       | some u =>
         rcases O b with z | ⟨ob,xs,z⟩
         . rw[q] at z;cases z
         have z2:=R.frzs b ob _ z;obtain⟨S,_⟩:=j b _ z;obtain⟨e2,_⟩:=y b _ z2;rw[e] at S;cases S;exact e2
 cases L:K.lookup a with
 | some o =>
   have e:=KX a o L;rw[B] at e;cases e;refine core (λ _=>none) (λ _=>.inl rfl) (.inr ⟨_,vs.toArray,_,L,rfl,rfl,rfl,by rw[zA4,lenV];exact M,by simpa using N⟩) (λ b u z=>by have A:(none:Option HO)=some u:=z;cases A) (λ b z=>absurd rfl z) λ z=>absurd rfl z
 | none =>
   refine core (λ b=>if b=a then some (.frz { cls:=.type "list",data:=.seq vs.toArray } (.lst (ns.map V.int))) else none) (λ b=>?_) (.inl (.inr ⟨{ cls:=.type "list",data:=.seq vs.toArray },if_pos rfl⟩)) (λ b u z=>?_) (λ b z=>?_) λ _=>L
   . by_cases c:b=a
     . exact .inr ⟨_,_,if_pos c⟩
     exact .inl (if_neg c)
   . by_cases c:b=a
     . have A:=(if_pos c).symm.trans z
       cases A;subst c;exact⟨B,by rw[zAf];exact M,vs,_,N,B⟩
     have A:=(if_neg c).symm.trans z;cases A
   by_cases c:b=a
   . exact c
   exact absurd (if_neg c) z
theorem qaD7{l:PySem.W.OpenLaw}{n k:Nat}{q:Program}{loose:List Str}{XP:(Str->Option Value)->Heap->Prop}{YP:World->Heap->Prop}{d:DefRec}{K:Params->PySem.W.Frag}{CX:World->CXT}{sp:World->Sp}{x:Str}(y:l.most=some n)(j:n<=sizeLine)(m:d.params.defaults=[])(z:Room k callerA)(A:∀(w:World)(h:Heap),YP w h->(K w.params).In h)(F:∀(w:World)(mg:Str->Option Value)(fa:Addr)(h:Heap),(K w.params).In h->h.Ns mainGlobals mg->mg d.name=some (.ref fa) ->
     ∃ fd:FuncData,(∀(s:Shared)(u:Value),BindsTo s fd ⟨[u],[]⟩ [(x,u)]) /\
       ∀ base:Heap,(K w.params).In base->base.Ns mainGlobals mg->B7 l.prog w (K w.params) mg base (CX w) k fa fd [x] (sp w))(p:∀(w:World)(H:Hp)(a:Addr)(ns:List Int),ns.length<=n->Only H->SqL (K w.params) H a (ns.map V.int)->sp w [.ref a] H (λ v _=>v=.bl true) λ _ _ _=>False)(r:∀(w:World)(H:Hp)(s:Shared)(e:Value)(s':Shared),CX w [] H s (λ _ _ _=>False) e s'->False) :
   PySem.W.WalkO q loose XP YP l.row.toRowW d [] (λ f vs=>PySem.call f vs):=by
 refine Att.qab7 y m λ w s₀ s₁ mg M fa o N O B a vs ns G Y P Q C t i hints c D=>?_
 have KX:=A w _ Y;obtain⟨fd,E,I⟩:=F w mg fa _ KX G.T.g t;exact qaA4 KX G.T.g G.T.b G.T.builtins G.T.nolimit D i hints (zAm c j) z I E (λ H J L=>p w H a ns c J L) λ H e s'=>r w H s₁ e s'
end L2
/- THE LAST THEOREM (shape;LID,My.* are yours):
  My.Adr: a structure of the addresses that your layer names (classes,functions);My.Txt K t: a structure (Prop) of the equations over K;
  My.txt_mk:{K} {implicit addresses ..} (e1:nsIn K mainGlobals "law" = some (some (.ref f))) (e2:K.lookup f=some ⟨oc,od,.func (fnOf "law" "law" params body scope dV kV doc pm an cdv ct),sl⟩) (e3:codeIn K cdv "law" = true) .. : ∃ t,My.Txt K t
(the tactic k_is has no namespace: write k_is) -/
namespace L2
open PySem PySem.Spec PyProof.Rows
variable{f:Addr}{qual x:Str}{st:Stmt}
noncomputable def qc8(s:Stmt)(j:Nat):Stmt:=match s with
 | .ClassDef _ _ _ body _ _ _ _ _ _ _=>body.getD j (.Pass ⟨0,0,0,0⟩)
 | _=>.Pass ⟨0,0,0,0⟩
noncomputable def qf0(s:Stmt):Arguments:=match s with
 | .FunctionDef _ a _ _ _ _ _ _ _ _=>a
 | _=>{ posonlyargs:=[],args:=[],vararg:=none,kwonlyargs:=[],kw_defaults:=[],kwarg:=none,defaults:=[] }
noncomputable def qc9(s:Stmt):List Stmt:=match s with
 | .FunctionDef _ _ b _ _ _ _ _ _ _=>b
 | _=>[]
noncomputable def qa3(s:Stmt):Scope:=match s with
 | .FunctionDef _ _ _ _ _ _ sc _ _ _=>sc
 | _=>{ kind:=.function,names:=[],isGenerator:=false,isCoroutine:=false }
abbrev CX0:CXT:=λ _ _ _ _ _ _=>False
abbrev E0:XK:=λ _ _ _=>False
theorem pass0{X:Cx}:qO3 CX0 X (λ _=>E0):=λ _ _ _ _ _ _ _ h=>h.elim
structure Fun(K:PySem.W.Frag)(x qual:Str)(st:Stmt)(f:Addr)(fd:FuncData):Prop where
 ex:∃(oc:Value)(od:Option Addr)(kV doc pm:Value)(an:Option Addr)(cdv ct:Value)(osl:Array (Option Value)),
   fd=PySem.W.fnOf x qual (qf0 st) (qc9 st) (qa3 st) .none kV doc pm an cdv ct/\K.lookup f=some ⟨oc,od,.func fd,osl⟩/\PySem.W.codeIn K cdv qual=true
 kp:PySem.W.keepIn K (.ref f)=true
section
variable{P:Program}{w:World}{K:PySem.W.Frag}{mg:Str->Option Value}{base:Heap}
theorem Fun.ok{fd:FuncData}{N ps:List Str}{k:Nat}{sp:Sp}(F:Fun K x qual st f fd)(S:qa8 N ps (qa3 st))(len:∀ vs H Q E,sp vs H Q E->vs.length=ps.length)(hbody:∀(a:Value)(A:Around)(outer:List Env)(s:Shared)(H:Hp)(vs:List V)(Q:VK)(E:XK),Room k (A.deeper (envOfC qual (qa3 st) s.heap.objs.size f a))->sp vs H Q E ->
     ∃ t,PSs (Hc true CX0 P w K mg base N qual (qa3 st) f a A outer s H E).nox (qc9 st) t/\t { nx:=λ _ H'=>Q .non H',rt:=Q } (start N vs) H):B7 P w K mg base CX0 (k+1) f fd ps sp:=by
 obtain⟨j,l,kV,d,m,n,a,o,e,rfl,g,b⟩:=F.ex;refine Ly g b S len λ A outer s H vs Q E i c=>?_
 obtain⟨t,h,q⟩:=hbody a A outer s H vs Q E i c;exact⟨t,h.nox,q⟩
theorem Fun.binds{fd:FuncData}{ps:List Str}(F:Fun K x qual st f fd)(h:∀(kV a c:Value)(d:Option Addr)(b e:Value)(us:List Value),us.length=ps.length->bindArgs (PySem.W.fnOf x qual (qf0 st) (qc9 st) (qa3 st) .none kV a c d b e) ⟨us,[]⟩=pure (ps.zip us)):Binds K fd ps []:=by
 obtain⟨j,k,kV,a,c,d,b,e,g,rfl,l,i⟩:=F.ex;exact .all (h kV a c d b e)
theorem qao5{oc:Value}{od e:Option Addr}{d:Array (Option Value)}{kV b g a h:Value}(l:K.lookup f=some ⟨oc,od,.func (PySem.W.fnOf x qual (qf0 st) (qc9 st) (qa3 st) .none kV b g e a h),d⟩)(c:PySem.W.codeIn K a qual=true)(k:PySem.W.keepIn K (.ref f)=true):Fun K x qual st f (PySem.W.fnOf x qual (qf0 st) (qc9 st) (qa3 st) .none kV b g e a h):=⟨⟨oc,od,kV,b,g,e,a,h,d,rfl,l,c⟩,k⟩
end
theorem hu_of{A:Around}{k:Nat}(a:Room k A):A.units+1 < cLine:=Nat.lt_of_le_of_lt (Nat.add_le_add_left (by decide:1<=64) _) a.units
theorem qam6{n:Nat}(h:n<=1000):n < sizeLine:=Nat.lt_of_le_of_lt h (by decide)
section
variable{X:Cx}
theorem pv(i:Nat){pos:Pos}(b:X.N[i]? = some x:=by rfl)(c:Vis X.env.scope x:=by first | exact Or.inl rfl | exact Or.inr (Or.inl rfl) | exact Or.inr (Or.inr rfl))(d:(x == ("__debug__" : Str))=false:=by decide)(a:(x == ("__classdict__" : Str))=false:=by decide):PE X (.Name x pos) (Ir i):=qu9 b c d a
theorem qaq8:CallR X (.builtin "len") (λ xs H Q=>∃ a kvs,xs=[V.ref a]/\H a=some (.dK kvs)/\Q (.int kvs.length) H):=by
 intro Gm s σ H xs d Q I r h;obtain⟨a,kvs,rfl,b,q⟩:=h;obtain⟨u,rfl,c⟩:=Gs r;cases c;exact d_len I (.inl b) λ t e I'=>⟨.int kvs.length,H,I',⟨t,rfl⟩,q⟩
end
def Same(H H':Hp):Prop:=∀ b o,H b=some o->H' b=some o
theorem Same.trans{H H1 H2:Hp}(a:Same H H1)(b:Same H1 H2):Same H H2:=λ c o h=>b c o (a c o h)
end L2
set_option maxHeartbeats 4000000
namespace L2
open PySem PySem.Spec PyProof.Rows
variable{H:Hp}{a:Addr}{e:Expr}{es:List Expr}{i:Int}{p:Pos}{t:TA}{x:Str}{xs:List V}{α:Type}
theorem K8{t:Sem α}{Q Q':α->Shared->Prop}{M:Model}{A:Around}{E:Value->Shared->Prop}{s:Shared}(h:wpAny M A t Q (λ _ _=>False) s)(b:∀ a s,Q a s->Q' a s):wpAny M A t Q' E s :=
 wpAny_mono h b λ _ _ x=>x.elim
noncomputable def Ht(env:Env):List (Str×NameKind)->List (Str×Addr)->List (Str×Addr)
 | [],acc=>acc
 | (n,k)::r,acc=>Ht env r (if k == NameKind.free then (n,(env.cells.lookup n).getD 0)::acc else acc)
theorem qC2{env:Env}:∀(l:List (Str×NameKind))(acc:List (Str×Addr)),(∀ x∈l,x.2=NameKind.free->∃ c,env.cells.lookup x.1=some c) ->
   (forIn l acc λ(x:Str×NameKind)(r:List (Str×Addr)) =>
     (match x with
     | (name,kind)=>if (kind == NameKind.free)=true then (do let c <- cellOf env name;pure (ForInStep.yield ((name,c)::r)):Sem (ForInStep (List (Str×Addr)))) else pure (ForInStep.yield r)))=(pure (Ht env l acc):Sem _)
 | [],acc,_=>rfl
 | (n,k)::r,acc,h=>by
   rw[List.forIn_cons];by_cases a:(k == NameKind.free)=true
   . obtain⟨c,b⟩:=h (n,k) zAe (by simpa using a)
     have b:env.cells.lookup n=some c:=b;dsimp only;rw[if_pos a];have e:cellOf env n=pure c:=by unfold cellOf;rw[b]
     rw[e];show (forIn r ((n,c)::acc) _:Sem _)=_;rw[qC2 r ((n,c)::acc) λ x d=>h x (zA6 _ d)];show _=(pure (Ht env r (if (k == NameKind.free)=true then (n,(env.cells.lookup n).getD 0)::acc else acc)):Sem _)
     rw[if_pos a,b];rfl
   dsimp only;rw[if_neg a];show (forIn r acc _:Sem _)=_;rw[qC2 r acc λ x d=>h x (zA6 _ d)];show _=(pure (Ht env r (if (k == NameKind.free)=true then (n,(env.cells.lookup n).getD 0)::acc else acc)):Sem _)
   rw[if_neg a]
theorem qO0{env:Env}{sc:Scope}(h:∀ x∈sc.names,x.2=NameKind.free->∃ c,env.cells.lookup x.1=some c):closureFor sc env=pure (Ht env sc.names []):=by
 unfold closureFor;show (forIn sc.names [] _ >>= _)=_
 have:=qC2 (env:=env) sc.names [] h
 rw[show (forIn sc.names ([]:List (Str×Addr)) _:Sem _)=pure (Ht env sc.names []) from this];rfl
theorem qak0{env:Env}:∀(l:List (Str×NameKind))(acc:List (Str×Addr))(x:Str)(c:Addr),(x,c)∈Ht env l acc->(x,c)∈acc∨((x,NameKind.free)∈l/\c=(env.cells.lookup x).getD 0)
 | [],acc,x,c,h=>.inl h
 | (n,k)::r,acc,x,c,h=>by
   rcases qak0 r _ x c h with h | ⟨h,e⟩
   . by_cases a:(k == NameKind.free)=true
     . rw[if_pos a] at h
       rcases zAl.mp h with h | h
       . cases h
         exact .inr ⟨by rw[show k=NameKind.free by simpa using a];exact zAe,rfl⟩
       exact .inl h
     rw[if_neg a] at h;exact .inl h
   exact .inr ⟨zA6 _ h,e⟩
theorem qak1{env:Env}:∀(l:List (Str×NameKind))(acc:List (Str×Addr))(x:Str),(∃ c,(x,c)∈acc)->∃ c,(x,c)∈Ht env l acc
 | [],acc,x,h=>h
 | (n,k)::r,acc,x,⟨c,h⟩=>qak1 r _ x ⟨c,by split;exact zA6 _ h;exact h⟩
theorem qT6{env:Env}:∀(l:List (Str×NameKind))(acc:List (Str×Addr))(x:Str),(x,NameKind.free)∈l->∃ c,(x,c)∈Ht env l acc
 | [],acc,x,h=>by simp at h
 | (n,k)::r,acc,x,h=>by
   rcases zAl.mp h with h | h
   . cases h
     exact qak1 r _ _ ⟨_,by rw[if_pos (by rfl)];exact zAe⟩
   exact qT6 r _ x h
theorem qB1{α:Type}:∀{l:List (Str×α)}{x:Str},(∃ c,(x,c)∈l)->∃ c,l.lookup x=some c
 | [],x,⟨c,h⟩=>by simp at h
 | (n,a)::r,x,⟨c,h⟩=>by
   cases b:x == n with
   | true=>exact⟨a,by simp only[zAp,b]⟩
   | false =>
     rcases zAl.mp h with h | h
     . cases h;simp at b
     obtain⟨d,e⟩:=qB1 ⟨c,h⟩;exact⟨d,by simp only[zAp,b];exact e⟩
noncomputable def B8(σ:St)(src:List (Option Nat)):St:=src.map λ o=>match o with | none=>none | some j=>(σ[j]?).getD none
noncomputable def qx5(X:Cx)(NY:List Str)(src:List (Option Nat))(sc:Scope):Bool :=
 (sc.kind == .function)&&(src.length == NY.length) &&
 (sc.names.all λ x=>x.2 != .cell&&(x.2 != .local||sc.names.lookup x.1 == some .local)&&(x.2 != .free||(X.env.scope.names.lookup x.1 == some .cell||X.env.scope.names.lookup x.1 == some .free))) &&
 ((NY.zip src).all λ p=>match p.2 with | none=>true | some j=>X.N[j]? == some p.1&&sc.names.lookup p.1 == some .free)
def qj4(X:Cx)(NY:List Str)(sc:Scope)(C:Addr)(a:Shared)(H0:Hp)(ex:List Addr):Cx where
 prog:=X.prog
 w:=X.w
 K:=X.K
 mg:=X.mg
 base:=X.base
 A:=X.A
 N:=NY
 s₀:=a
 H₀:=H0
 env:=compEnvC sc (Ht X.env sc.names []) C X.env
 outer:=X.stack
 stack:=X.stack
 ex:=ex
 fn:=λ _=>false
 calm:=X.calm
 pn:=[]
 xe:=λ _ _=>False
def PFs(X:Cx)(ifs:List Expr)(t:TT):Prop :=
 ∀(Gm:List (Addr×Obj))(s:Shared)(σ:St)(H:Hp)(Q:Bool->Hp->Prop),Inv X Gm σ H s->t σ H Q ->
   wpAny (model X.prog X.w) X.A (forIn ifs true λ c r=>if r=true then do let a <- isTrue c X.env (eval c X.env);pure (ForInStep.yield a) else pure (ForInStep.yield r)) (TP X Gm σ Q) X.xe s
def tYes:TT:=λ _ H Q=>Q true H
theorem qaH2{X:Cx}:PFs X [] tYes:=λ _ _ _ H _ I h=>wpAny_tests_nil ⟨H,I,h⟩
theorem qaQ6{X:Cx}{c:Expr}{t:TT}(h:PT X c t):PFs X [c] t:=λ Gm s σ H Q I q=>wpAny_tests_one (h Gm s σ H Q I q)
theorem qr0{prog:Program}{w:World}{A:Around}{R:Result->Shared->Prop}{s:Shared}{elt target iter:Expr}{ifs:List Expr}{scope:Scope}{pos:Pos}{it acc:Value}{env:Env}(I:Nat->Shared->Prop)(turn:∀ n s,I n s->wpAny (model prog w) A (pyNext it) (λ r s₁=>match r with
     | none=>R (.ok .next) s₁
     | some v=>wpAny (model prog w) A (letOwnedTupleGo target it v) (λ _ s₁'=>wpAny (model prog w) A (assign target env v) (λ _ s₂ =>
         wpAny (model prog w) A (forIn ifs true λ c r=>if r=true then do let a <- isTrue c env (eval c env);pure (ForInStep.yield a) else pure (ForInStep.yield r)) (λ a s₃ =>
           if a=true then wpAny (model prog w) A (eval elt env) (λ x s₄ =>
             wpAny (model prog w) A (call (.builtin "list.append") [acc,x]) (λ _ s₅=>∃ m,m < n/\I m s₅) (λ _ _=>False) s₄) (λ _ _=>False) s₃
           else ∃ m,m < n/\I m s₃) (λ _ _=>False) s₂) (λ _ _=>False) s₁') (λ _ _=>False) s₁) (λ _ _=>False) s)(n:Nat)(h:I n s) :
   codeAny (model prog w) A (.compLoop (.ListComp elt [⟨target,iter,ifs,0⟩] scope pos) 0 it acc env) R s:=by
 refine codeAny_loop rfl I (λ n s b=>?_) n h;show wpAny _ A ((compTurn (.ListComp elt [⟨target,iter,ifs,0⟩] scope pos) 0 it acc env).onRaise (λ x=>do noteFrame x env;theTreesLotGoes x)) _ _ s;refine wpAny_noted ?_;rw[compTurn_list];refine wpAny_bind (wpAny_standAt (wpAny_bind (K8 (turn n s b) λ r s₁ h₁=>?_)));cases r with
 | none=>exact wpAny_pure h₁
 | some v =>
   refine wpAny_bind (K8 h₁ λ _ s₁' h₁'=>?_);refine wpAny_bind (K8 h₁' λ _ s₂ h₂=>wpAny_bind (K8 h₂ λ a s₃ h₃=>?_));cases a with
   | false=>exact wpAny_pure ⟨rfl,h₃⟩
   | true =>
     exact wpAny_bind (wpAny_bind (K8 h₃ λ x s₄ h₄=>wpAny_bind (K8 h₄ λ _ s₅ h₅=>wpAny_pure (wpAny_pure ⟨rfl,h₅⟩))))
def qy3(J:It)(g:TG)(tf:TT)(te:TE)(D:Addr)(R:Hp->Prop)(σ0:St)(H0:Hp):Prop :=
 ∃ W:Nat->Nat->St->Hp->Prop,(∃ m,W 0 m σ0 H0)/\∀ i m σ H,W i m σ H ->
   (J.stop i H/\R H)∨(J.go i H/\∃ N:St->Hp->Prop,(∀ σ' H',N σ' H'->∃ a,a < m/\W (i+1) a σ' H')/\∀ x H',J.yld i H x H'->g x σ H' λ σ2 H2=>tf σ2 H2 λ b H3 =>
     if b=true then te σ2 H3 λ v H4=>∃ xs,H4 D=some (.lst xs)/\xs.length < sizeLine/\N σ2 (upd H4 D (.lst (xs++[v]))) else N σ2 H3)
theorem qs2{env:Env}{x:Str}:∀{names:List (Str×NameKind)},(∀ y∈names,y.2≠.cell) ->
   ((names.map λ (n,k)=>if (k == NameKind.free&&env.scope.kind == .function&&env.kindOf n == some .cell) then (n,NameKind.cell) else (n,k)).lookup x=some .cell ∨
    (names.map λ (n,k)=>if (k == NameKind.free&&env.scope.kind == .function&&env.kindOf n == some .cell) then (n,NameKind.cell) else (n,k)).lookup x=some .free)->names.lookup x=some .free
 | [],_,h=>by simp at h
 | (n,k)::r,hc,h=>by
   have c:=@qs2 env x r λ y d=>hc y (zA6 _ d)
   have e:k≠.cell:=hc (n,k) zAe;simp only[zAx] at h;cases b:x == n with
   | true =>
     simp only[zAp,b];by_cases a:(k == NameKind.free&&env.scope.kind == .function&&env.kindOf n == some .cell)=true
     . have:k=NameKind.free:=by
         simp only[zB8,zBj] at a;exact a.1.1
       rw[this]
     rw[if_neg a] at h;simp only[zAp,b] at h;rcases h with h | h
     . exact absurd (Option.some.inj h) e
     exact h
   | false =>
     simp only[zAp,b];apply c;by_cases a:(k == NameKind.free&&env.scope.kind == .function&&env.kindOf n == some .cell)=true
     . rw[if_pos a] at h
       simpa only[zAp,b] using h
     rw[if_neg a] at h;simpa only[zAp,b] using h
theorem qi2{env:Env}{x:Str}:∀{names:List (Str×NameKind)},names.lookup x=some .free ->
   ((names.map λ (n,k)=>if (k == NameKind.free&&env.scope.kind == .function&&env.kindOf n == some .cell) then (n,NameKind.cell) else (n,k)).lookup x=some .cell ∨
    (names.map λ (n,k)=>if (k == NameKind.free&&env.scope.kind == .function&&env.kindOf n == some .cell) then (n,NameKind.cell) else (n,k)).lookup x=some .free)
 | [],h=>by simp at h
 | (n,k)::r,h=>by
   have c:=@qi2 env x r;simp only[zAx];cases a:x == n with
   | true =>
     simp only[zAp,a] at h;have h:k=.free:=Option.some.inj h;by_cases b:(k == NameKind.free&&env.scope.kind == .function&&env.kindOf n == some .cell)=true
     . rw[if_pos b];simp only[zAp,a];exact .inl trivial
     rw[if_neg b];simp only[zAp,a];rw[h];exact .inr rfl
   | false =>
     simp only[zAp,a] at h;by_cases b:(k == NameKind.free&&env.scope.kind == .function&&env.kindOf n == some .cell)=true
     . rw[if_pos b];simp only[zAp,a];exact c h
     rw[if_neg b];simp only[zAp,a];exact c h
section
variable{X:Cx}{Gm:List (Addr×Obj)}{σ:St}{H2:Hp}{s2:Shared}{elt tg iter:Expr}{ifs:List Expr}{sc:Scope}{pos:Pos}{NY:List Str}{src:List (Option Nat)}{J:It}{fp:List Addr}{it:Addr}{tn:Nat->Heap->Prop}{g:TG}{tf:TT}{te:TE}
theorem qY1{R:Addr->Hp->Prop}{E:Value->Shared->Prop}{RR:Value->Addr->Result->Shared->Prop}(ck:qx5 X NY src sc=true)(hc:X.calm=true)(I2:Inv X Gm σ H2 s2)(T:Lu X.prog X.w X.K tg J fp it tn)(I:tn 0 s2.heap)(f2:∀ b∈fp,Jn X Gm H2 b)(hg:∀ C P H0,PG (qj4 X NY sc C P H0 fp) tg g)(hf:∀ C P H0,PFs (qj4 X NY sc C P H0 fp) ifs tf)(he:∀ C P H0,PE (qj4 X NY sc C P H0 fp) elt te)(rd:∀ D,H2 D=none->qy3 J g tf te D (R D) (B8 σ src) (upd H2 D (.lst [])))(fin:∀ D C H' s',Inv X Gm σ H' s'->R D H'->H' C=none->X.s₀.heap.objs.size<=C->C≠X.env.locals->(∀ x c,X.env.cells.lookup x=some c->c≠C)->(∀ p∈X.pn++Gm,p.1≠C)->C∉X.fs->(∃ m,s'.heap.Ns C m)->RR (.ref D) C (.ok .next) s') :
   wpAny (model X.prog X.w) X.A (newList []) (λ acc s₃=>wpAny (model X.prog X.w) X.A (newFunctionEnv sc X.env.globals (Ht X.env sc.names []) [] X.env.qual none .none (some X.env)) (λ cenv s₄ =>
     codeAny (model X.prog X.w) X.A (.compStart (.ListComp elt [⟨tg,iter,ifs,0⟩] sc pos) 0 (.ref it) acc { cenv with scope:=relabel sc X.env }) (RR acc cenv.locals) s₄) E s₃) E s2:=by
 unfold qx5 at ck;simp only[zB8,zBj,zB2] at ck;obtain⟨⟨⟨hkind,G⟩,Q⟩,S⟩:=ck;have hcell:∀ y∈sc.names,y.2≠.cell:=λ y U e=>by
   have:=(Q y U).1.1
   rw[e] at this;exact absurd this (by decide)
 have hfree:∀ y∈sc.names,y.2=.free->(X.env.kindOf y.1=some .cell∨X.env.kindOf y.1=some .free):=λ y U e=>by
   have:=(Q y U).2
   rw[e] at this;show X.env.scope.names.lookup y.1=some .cell∨X.env.scope.names.lookup y.1=some .free;simpa using this
 have clsub:∀ x c,(Ht X.env sc.names []).lookup x=some c->X.env.cells.lookup x=some c:=λ x c e=>by
   rcases qak0 _ _ x c (PySem.mem_of_lookup e) with h | ⟨h,q⟩
   . simp at h
   obtain⟨d,M⟩:=I2.ok.has x (hfree _ h rfl);rw[M] at q;rw[M,q];rfl
 refine wpAny_newObj_type (wpAny_newFunctionEnv hcell (by intro y U;simp at U) (λ h₁ hns₁ hsb₁=>?_) hkind);dsimp only at hns₁ hsb₁ ⊢;have I3:=I2.lnew (ys:=[]) (its:=[]) (t':=s2.toks) .nil (zBk _);have hD:H2 s2.heap.objs.size=none:=I2.fresh;generalize t:s2.heap.objs.size=D at hns₁ hsb₁ I3 hD ⊢;generalize V:s2.heap.push { cls:=.type "list",dict:=none,data:=.seq ([]:List Value).toArray }=h3 at hns₁ hsb₁ I3 ⊢;have Z:h3.objs.size=D+1:=by rw[<- V,Heap.size_push,t]
 generalize s:h3.objs.size=C at hns₁ hsb₁ Z ⊢;have I3:Inv X Gm σ (upd H2 D (.lst [])) { s2 with heap:=h3,toks:=s2.toks }:=I3;have B:∀ b o,h3.get? b=some o->h₁.get? b=some o:=λ b o e=>hsb₁.extBut b o (by rw[<- s];exact zAh (zA8 e)) (zA2 _ e)
 have a0:∀ b o,h3.get? b=some o->b≠C:=λ b o e=>by rw[<- s];exact zAh (zA8 e)
 have a1:X.env.locals≠C:=by rw[<- s];exact zAh I3.lt
 have b0:∀ x c,X.env.cells.lookup x=some c->c≠C:=λ x c e=>by
   obtain⟨v,o,F,_⟩:=I3.cell x c e;exact a0 c o F
 have a2:∀ b∈fp,b≠C:=λ b f=>by
   obtain⟨o,F,_⟩:=T.obj _ _ I b f
   have:=zA8 F
   rw[t] at this;exact zAh (Nat.lt_trans this (by rw[Z];exact Nat.lt_succ_self _))
 have b1:∀ b∈fp,b≠D:=λ b f=>by
   obtain⟨o,F,_⟩:=T.obj _ _ I b f
   have:=zA8 F
   rw[t] at this;exact zAh this
 have a3:∀ b o,s2.heap.get? b=some o->h3.get? b=some o:=λ b o e=>by rw[<- V];exact zA2 _ e
 have pinC:∀ p∈X.pn++Gm,p.1≠C:=λ p hp=>a0 _ _ (I3.pin p hp).1
 have a4:C∉X.fs:=by rw[<- s];exact I3.nofs (zA3 _)
 have b2:X.s₀.heap.objs.size<=C:=by rw[<- s];exact I3.sz
 have stkC:∀ b∈frs X.stack,b≠C:=λ b f e=>by
   rcases zAl.mp (I3.stkSub b f) with z | z
   . exact a1 (z.symm.trans e)
   exact a4 (e ▸ z)
 have HC:upd H2 D (.lst []) C=none:=I3.hok.fresh (by show h3.objs.size<=C;exact Nat.le_of_eq s);have a5:∀ b∈fp,b∉frs X.stack:=λ b f z=>by
   obtain⟨_,h1,h2,_⟩:=f2 b f;rcases zAl.mp (I2.stkSub b z) with q | q
   . exact h1 q
   exact h2 q
 let Y:Cx:=qj4 X NY sc C { s2 with heap:=h3 } (upd H2 D (.lst [])) fp
 have a6:(B8 σ src).length=NY.length:=by unfold B8;rw[zAf];exact G
 have IY:Inv Y [] (B8 σ src) (upd H2 D (.lst [])) { s2 with heap:=h₁,toks:=s2.toks+0 }:=by
   refine⟨⟨I2.ok.mod,hkind,I2.ok.glob,I2.ok.blt,(by show h3.objs.size<=C;exact Nat.le_of_eq s),λ x y c h1 h2=>I2.ok.inj x y c (clsub x c h1) (clsub y c h2),λ x hx=>?_,λ _ _ z _=>(zAc z).elim,I2.ok.hd,I2.ok.frames,.inl rfl,λ b f=>⟨a2 b f,λ x c e=>(f2 b f).2.2.2.2.1 x c (clsub x c e)⟩,
     λ b o e=>?_,?_,λ b o e f=>?_,λ b f=>a5 b f,?_,λ b f=>?_⟩,rfl,I2.bare,Un.kept B,⟨_,hns₁,λ i x v e1 e2 e3=>?_⟩,λ x c e=>?_,HC,λ x c e=>I3.freeC x c (clsub x c e),λ p hp=>absurd (show p∈([]:List (Addr×Obj)) from hp) (by simp),I3.hok.kept B,a6⟩
   . have hx:=qs2 hcell hx
     exact qB1 (qT6 _ _ _ (PySem.mem_of_lookup hx))
   . exact I3.bs b o e
   . exact zAm I2.ok.bsz (zAm (zAm I2.sz (by rw[t];exact zA3 _)) (by show D<=h3.objs.size;lia))
   . rcases (f2 b f).2.2.2.1 with z | z
     . exact I2.ok.noex b o e z
     exact absurd (zAd (zA8 (I2.ok.bs b o e).1) z) (Nat.lt_irrefl _)
   . exact I3.stack
   . exact I3.stkFree b f
   . -- a captured name
     have hi:i < src.length:=by
       have:=(zA5.mp e2).1
       rw[a6,<- G] at this;exact this
     have e1:NY[i]? = some x:=e1;have es:src[i]? = some src[i]:=by simp[hi]
     have ep:(B8 σ src)[i]? = some (match src[i] with | none=>none | some j=>(σ[j]?).getD none):=by
       unfold B8;rw[zB3,es];rfl
     rw[ep] at e2;cases hj:src[i] with
     | none=>rw[hj] at e2;cases e2
     | some j =>
       rw[hj] at e2;have e2:(σ[j]?).getD none=some v:=Option.some.inj e2;have ej:σ[j]? = some (some v):=by
         cases q:σ[j]? with
         | none=>rw[q] at e2;cases e2
         | some o=>rw[q] at e2;rw[show o=some v from e2]
       have hm:(x,some j)∈NY.zip src:=by
         have:(NY.zip src)[i]? = some (x,some j):=by
           rw[List.getElem?_zip_eq_some];exact⟨e1,by rw[es,hj]⟩
         exact zB1 this
       have q:=S _ hm;simp only[zB8,zBj] at q;obtain⟨qN,qf⟩:=q;have H:=hfree _ (PySem.mem_of_lookup qf) rfl;obtain⟨m,hn,hl⟩:=I3.loc;obtain⟨u,r,l⟩:=hl j x v qN ej (H.elim (λ z=>.inr (.inl z)) λ z=>.inr (.inr z));refine⟨u,r,.inr ⟨qi2 qf,?_⟩⟩;rcases l with⟨z,_⟩ | ⟨_,c,ec,o,F,M⟩
       . have H:X.env.kindOf x=some .cell∨X.env.kindOf x=some .free:=H
         rw[z] at H;rcases H with H | H<;>cases H
       obtain⟨c',a7⟩:=qB1 (qT6 (env:=X.env) sc.names [] x (PySem.mem_of_lookup qf))
       have:=clsub x c' a7
       rw[ec] at this;cases this;exact⟨c,a7,o,B c o F,M⟩
   obtain⟨v,o,F,M⟩:=I3.cell x c (clsub x c e);exact⟨v,o,B c o F,M⟩
 have st₁:tn 0 h₁:=T.keep _ _ _ I λ b f o e=>B b o (a3 b o e)
 have stat:∀{H':Hp},(∀ b∈fp,H' b=none)->∀ b∈fp,Jn Y [] H' b:=λ hn b f=>by
   refine⟨hn b f,a2 b f,a5 b f,.inl f,λ x c e=>(f2 b f).2.2.2.2.1 x c (clsub x c e),λ p hp=>absurd (show p∈([]:List (Addr×Obj)) from hp) (by simp)⟩
 have loop:codeAny (model X.prog X.w) X.A (.compLoop (.ListComp elt [⟨tg,iter,ifs,0⟩] sc pos) 0 (.ref it) (.ref D) Y.env) (RR (.ref D) C) { s2 with heap:=h₁,toks:=s2.toks+0 }:=by
   obtain⟨W,⟨m0,w0⟩,turn⟩:=rd D hD;refine qr0 (λ n s'=>∃ i σ' H',Inv Y [] σ' H' s'/\tn i s'.heap/\(∀ b∈fp,H' b=none)/\W i n σ' H') ?_ m0 ⟨0,_,_,IY,st₁,λ b f=>by rw[qb3 (b1 b f)];exact(f2 b f).1,w0⟩;rintro n s3 ⟨i,σ3,H3,J3,a8,a9,w3⟩;rcases turn i n σ3 H3 w3 with⟨stop,qn⟩ | ⟨go,N,hN,step⟩
   . refine thn (T.done Y rfl rfl rfl hc i [] s3 σ3 H3 _ J3 (stat a9) a8 stop) λ r s4 k=>?_
     obtain⟨hr,J4⟩:=k;subst hr;have b3:H3 C=none:=J4.free;refine fin D C H3 s4 ?_ qn b3 b2 (Ne.symm a1) b0 pinC a4 (let ⟨m,hn,_⟩:=J4.loc;⟨m,hn⟩);refine I2.call' (ch:=fp) J4.os ?_ J4.hok J4.bare λ b f=>?_
     . have u1:Un (frs X.stack) fp H2 (upd H2 D (.lst [])) s2.heap h3:=Un.laid a3 (Nat.le_of_eq t) hD
       exact u1.trans J4.base
     obtain⟨_,h1,_,b4,h4,h5⟩:=f2 b f;exact⟨b4,h1,h4,h5⟩
   refine thn (T.item Y rfl rfl rfl hc i [] s3 σ3 H3 _ J3 (stat a9) a8 go) λ r s4 k=>?_
   obtain⟨u,hr,h4⟩:=k;subst hr;refine thn h4 λ _ s5 k=>?_
   obtain⟨x,H5,J5,r5,y5,L,b5⟩:=k;have J5':=J5.pinned (stat b5) (T.obj _ _ L);have again:∀{σ7:St}{H7:Hp}{O:Shared},Inv Y ([]++Lv fp s5.heap) σ7 H7 O->N σ7 H7->∃ m,m < n/\∃ i σ' H',Inv Y [] σ' H' O/\tn i O.heap/\(∀ b∈fp,H' b=none)/\W i m σ' H':=λ{σ7 H7 O} I7 n7=>by
     obtain⟨m',hm,w7⟩:=hN σ7 H7 n7;refine⟨m',hm,i+1,σ7,H7,I7.unpinned,T.keep _ _ _ L λ b f o e=>(I7.pin (b,o) (zAu _ (zAu _ (qs1 f e)))).1,λ b f=>?_,w7⟩;obtain⟨o,e,d⟩:=T.obj _ _ L b f;exact(I7.pin (b,o) (zAu _ (zAu _ (qs1 f e)))).2.1
   refine thn (hg C _ _ _ s5 σ3 H5 x u _ J5' r5 (step x H5 y5)) λ _ s6 k=>?_
   obtain⟨σ6,H6,J6,q6⟩:=k;refine thn (hf C _ _ _ s6 σ6 H6 _ J6 q6) λ ok O k=>?_
   obtain⟨H7,J7,q7⟩:=k;cases ok with
   | false=>exact again J7 (by simpa using q7)
   | true =>
     rw[if_pos rfl] at q7 ⊢;refine thn (he C _ _ _ O σ6 H7 _ J7 q7) λ y s8 k=>?_
     obtain⟨v,H8,J8,r8,xs,b6,b7,q8⟩:=k;refine thn (qi1 (X:=Y) _ s8 σ6 H8 (.ref D) [v] (.ref D) [y] (λ _ H'=>N σ6 H') J8 rfl (.cons r8 .nil) ⟨D,xs,v,rfl,rfl,b6,b7,q8⟩) λ _ s9 k=>?_
     obtain⟨_,H9,J9,_,q9⟩:=k;exact again J9 q9
 exact codeAny_compStart_list loop (T.self _ 0 _ _ _ st₁ loop)
end
def Hd(wi:TI)(src:List (Option Nat))(g:TG)(tf:TT)(te:TE):TE:=λ σ H Q=>wi σ H λ J H1=>∀ D,H1 D=none->qy3 J g tf te D (λ H'=>Q (.ref D) H') (B8 σ src) (upd H1 D (.lst []))
section
variable{X:Cx}{elt tg iter:Expr}{ifs:List Expr}{sc:Scope}{pos:Pos}{NY:List Str}{src:List (Option Nat)}{wi:TI}{g:TG}{tf:TT}{te:TE}
theorem qN9(b:qx5 X NY src sc=true):sc.kind=.function/\(∀ y∈sc.names,y.2=.local->sc.names.lookup y.1=some .local)/\(∀ y∈sc.names,y.2=.free->(X.env.kindOf y.1=some .cell∨X.env.kindOf y.1=some .free)):=by
 unfold qx5 at b;simp only[zB8,zBj,zB2] at b;obtain⟨⟨⟨hkind,d⟩,a⟩,f⟩:=b;refine⟨hkind,λ y c e=>?_,λ y c e=>?_⟩
 . have:=(a y c).1.2
   rw[e] at this;simpa using this
 have:=(a y c).2
 rw[e] at this;show X.env.scope.names.lookup y.1=some .cell∨X.env.scope.names.lookup y.1=some .free;simpa using this
theorem qE9(NY:List Str)(src:List (Option Nat))(hi:PI X tg iter wi)(n:∀ C a H0 ex,PG (qj4 X NY sc C a H0 ex) tg g)(p:∀ C a H0 ex,PFs (qj4 X NY sc C a H0 ex) ifs tf)(r:∀ C a H0 ex,PE (qj4 X NY sc C a H0 ex) elt te)(t:X.calm=true:=by rfl)(l:qx5 X NY src sc=true:=by rfl)(u:∀ x,foldedSetIterable iter X.env x=pure x:=by intro _;rfl):PE X (.ListComp elt [⟨tg,iter,ifs,0⟩] sc pos) (Hd wi src g tf te):=by
 intro Gm s σ H Q I h;obtain⟨hkind,hnames,hfree⟩:=qN9 l;rw[eval_ListComp];refine wpAny_comprehension_free (use:=none) rfl u (qO0 λ x y e=>I.ok.has x.1 (hfree x y e)) hkind hnames ?_;refine thn (hi Gm s σ H _ I h) λ v O c=>thn c λ z P d=>?_
 obtain⟨B,f,S,J,H2,rfl,I2,T,i,f2,E⟩:=d;refine qY1 (R:=λ D H'=>Q (.ref D) H') (RR:=λ j C=>compPost (model X.prog X.w) X.A X.xe none (EP X Gm σ Q) j C) l t I2 T i f2 (λ C a H0=>n C a H0 f) (λ C a H0=>p C a H0 f) (λ C a H0=>r C a H0 f) E ?_;intro D C H' F I' q G c d K L U ⟨m,M⟩;refine⟨m,M,λ V k=>⟨.ref D,H',?_,rfl,q⟩⟩;exact I'.turned (t':=F.toks) (it:=C) (λ b o N e=>k.extBut b o N e) G d (.inr c) K L
theorem qaG7(i:Nat){px spos:Pos}(NY:List Str)(src:List (Option Nat))(L:X.N.Nodup)(hi:PI X tg iter wi)(M:∀ C a H0 ex,PG (qj4 X NY sc C a H0 ex) tg g)(O:∀ C a H0 ex,PFs (qj4 X NY sc C a H0 ex) ifs tf)(P:∀ C a H0 ex,PE (qj4 X NY sc C a H0 ex) elt te)(k:X.N[i]? = some x:=by rfl)(l:Loc X.env.scope x:=by first | exact Or.inl rfl | exact Or.inr rfl)(S:X.calm=true:=by rfl)(F:qx5 X NY src sc=true:=by rfl)(n:swapsWith (.ListComp elt [⟨tg,iter,ifs,0⟩] sc pos) (some (.Name x px)) spos.line X.env=pure true:=by rfl)(U:∀ x,foldedSetIterable iter X.env x=pure x:=by intro _;rfl)(r:X.fn x=true∨X.env.scope.names.lookup x=some .local:=by first | exact .inl rfl | exact .inr rfl | assumption):PS X (.Assign [.Name x px] (.ListComp elt [⟨tg,iter,ifs,0⟩] sc pos) spos) (K6 (Hd wi src g tf te) (Hx i)):=by
 intro Gm s σ H D I h;obtain⟨hkind,hnames,hfree⟩:=qN9 F;rw[exec_Assign_Name_used _ _ _ _ n];refine wpAny_bind (wpAny_standAt (wpAny_bind ?_));show wpAny _ _ (do let _ <- comprehension (.ListComp elt [⟨tg,iter,ifs,0⟩] sc pos) sc X.env _ (newList []) false (eval iter X.env) (some (assign (.Name x px) X.env))) _ _ s;refine wpAny_bind (wpAny_mono (wpAny_comprehension_free (use:=some (assign (.Name x px) X.env)) (Q:=λ _ c=>SP X Gm D .next c) rfl U (qO0 λ x l e=>I.ok.has x.1 (hfree x l e)) hkind hnames ?_) (λ _ c V=>wpAny_pure (wpAny_pure V)) λ _ _ e=>e);refine thn (hi Gm s σ H _ I h) λ v s1 t=>thn t λ W s2 j=>?_
 obtain⟨Y,u,tn,J,H2,rfl,I2,T,y,f2,Z⟩:=j;refine qY1 (R:=λ D' H'=>Hx i (.ref D') σ H' D.nx) (RR:=λ B C=>compPost (model X.prog X.w) X.A X.xe (some (assign (.Name x px) X.env)) (λ _ c=>SP X Gm D .next c) B C) F S I2 T y f2 (λ C a H0=>M C a H0 u) (λ C a H0=>O C a H0 u) (λ C a H0=>P C a H0 u) Z ?_;intro D' C H' c I' q G t j h3 h4 h5 ⟨m,hn⟩;obtain⟨o,es,ep,ho,K,hr⟩:=hn;have Ip:Inv X (Gm++[(C,o)]) σ H' c:=I'.pins_of λ p hp=>(zAa.mp hp).elim (λ z=>I'.pin p (zAu _ z)) λ z=>by
   have e:p=(C,o):=by simpa using z
   subst e;exact⟨ho,G,j,h5,λ v e=>by rw[K] at e;cases e⟩
 show wpAny _ _ (assign (.Name x px) X.env (.ref D')) _ _ _;refine wpAny_assign_Name (qG4 (v:=.ref D') Ip L k l rfl (λ d I''=>?_) r);have f:d.heap.get? C=some o:=(I''.pin (C,o) (by simp)).1;refine⟨m,⟨o,es,ep,f,K,hr⟩,λ h' E=>⟨_,H',?_,q⟩⟩;exact I''.unpinned.turned (t':=d.toks) (it:=C) (λ b o hb e=>E.extBut b o hb e) G j (.inr t) h3 h4
end
theorem qY0{K:PySem.W.Frag}{D:Addr}{g:TG}{tf:TT}{te:TE}{R:Hp->Prop}{σ:St}(Pv:Nat->St->Hp->Prop)(c:Pv 0 σ H)(d:∀ i σ H,i<=xs.length->Pv i σ H->SqL K H a xs)(f:∀ i x σ H,xs[i]? = some x->Pv i σ H->g x σ H λ σ2 H2=>tf σ2 H2 λ h H3=>if h=true then te σ2 H3 λ v H4=>∃ ys,H4 D=some (.lst ys)/\ys.length < sizeLine/\Pv (i+1) σ2 (upd H4 D (.lst (ys++[v]))) else Pv (i+1) σ2 H3)(j:∀ σ H,Pv xs.length σ H->R H) :
   qy3 (Itl K a) g tf te D R σ H:=by
 refine⟨λ i m σ H=>m=xs.length - i/\i<=xs.length/\Pv i σ H,⟨xs.length,by simp,zBk _,c⟩,?_⟩;rintro i m σ H ⟨rfl,k,p⟩;have q:=d i σ H k p;by_cases b:i < xs.length
 . refine .inr ⟨⟨xs,xs[i],q,by simp[b]⟩,Pv (i+1),λ σ' H' l=>⟨xs.length - (i+1),by lia,rfl,b,l⟩,λ x H' y=>?_⟩
   obtain⟨e,y⟩:=y;subst e;exact f i x σ _ (y xs q) p
 have e:i=xs.length:=by lia
 subst e;exact .inl ⟨⟨xs,q,zA3 _⟩,j σ H p⟩
theorem qaj9{D:Addr}{lo:Int}{n:Nat}{g:TG}{tf:TT}{te:TE}{R:Hp->Prop}{σ:St}(Pv:Nat->St->Hp->Prop)(b:Pv 0 σ H)(c:∀ i σ H,i < n->Pv i σ H->g (.int (lo+i)) σ H λ σ2 H2=>tf σ2 H2 λ d H3=>if d=true then te σ2 H3 λ v H4=>∃ ys,H4 D=some (.lst ys)/\ys.length < sizeLine/\Pv (i+1) σ2 (upd H4 D (.lst (ys++[v]))) else Pv (i+1) σ2 H3)(f:∀ σ H,Pv n σ H->R H) :
   qy3 (Itr lo n) g tf te D R σ H:=by
 refine⟨λ i m σ H=>m=n - i/\i<=n/\Pv i σ H,⟨n,by simp,zBk _,b⟩,?_⟩;rintro i m σ H ⟨rfl,j,p⟩;by_cases a:i < n
 . refine .inr ⟨a,Pv (i+1),λ σ' H' h=>⟨n - (i+1),by lia,rfl,a,h⟩,λ x H' y=>?_⟩
   obtain⟨e,y⟩:=y;subst e y;exact c i σ _ a p
 have e:i=n:=by lia
 subst e;exact .inl ⟨zA3 _,f σ H p⟩
section
variable{X:Cx}
theorem sset(i:Nat){te:TE}{pos pos':Pos}(a:X.N.Nodup)(b:PE X e te)(hi:X.N[i]? = some x:=by rfl)(c:Loc X.env.scope x:=by first | exact Or.inl rfl | exact Or.inr rfl)(d:swapsWith e (some (.Name x pos')) pos.line X.env=pure false:=by rfl)(f:X.fn x=true∨X.env.scope.names.lookup x=some .local:=by first | exact .inl rfl | exact .inr rfl | assumption):PS X (.Assign [.Name x pos'] e pos) (K6 te (Hx i)):=qaG5 a hi c b d f
theorem gnm(i:Nat){pos:Pos}(a:X.N.Nodup)(hi:X.N[i]? = some x:=by rfl)(b:Loc X.env.scope x:=by first | exact Or.inl rfl | exact Or.inr rfl)(c:X.fn x=true∨X.env.scope.names.lookup x=some .local:=by first | exact .inl rfl | exact .inr rfl | assumption):PG X (.Name x pos) (Hx i):=qas8 a hi b c
def CDivB(_ j:Int):Prop:=0 < j/\j < 2 ^ 200
theorem qR4:OpR X (binaryOp .FloorDiv) (rI CDivB λ i j=>.int (i / j)):=opI λ i j _ _ _ _ _ a q=>by
 have c:(0:Int) < j:=a.1;have d:j < 2 ^ 200:=a.2;refine floordiv_int (by lia) (by rw[Int.fdiv_eq_ediv_of_nonneg i (by lia)];exact q) (.inl (PyProof.noPylong_of_log2 ?_));have b:j.natAbs < 2 ^ 200:=by lia
 have e:j.natAbs.log2 < 200:=(Nat.log2_lt (by lia)).mpr b;lia
theorem qaH4{j:Int}(k:Int){a b:Nat}{q pos:Pos}(c:i ^ j.toNat=k:=by decide)(d:0<=j:=by decide)(h1:j<=1000000:=by decide)(h2:i.natAbs < 2 ^ 64:=by decide):PE X (.BinOp (.Constant (.int i) a p) .Pow (.Constant (.int j) b q) pos) (tC (.int k)):=by
 intro Gm s σ H Q I h;refine(pe_op qaR3 qR2 qR2) Gm s σ H Q I ⟨_,_,rfl,rfl,⟨d,h1,h2⟩,?_⟩;show Q (.int (i ^ j.toNat)) H;rw[c];exact h
theorem qaR7:OpR X (compareOp .Is) (λ x y H Q=>∃ b c,x=.bl b/\y=.bl c/\Q (.bl (b == c)) H):=by
 intro Gm s σ H x y v u Q I a d h;obtain⟨b,c,rfl,rfl,q⟩:=h;cases a;cases d;exact is_bool ⟨.bl _,H,I,rfl,q⟩
noncomputable def B9(H:Hp):V->Option String
 | .non=>some "NoneType" | .bl _=>some "bool" | .int _=>some "int" | .str _=>some "str"
 | .ref a=>match H a with
   | some (.lst _)=>some "list" | some (.tup _)=>some "tuple" | some (.dK _)=>some "dict" | some (.frz _ (.lst _))=>some "list"
   | _=>none
 | _=>none
noncomputable def subT(t n:String):Bool:=t == n||(t == "bool" && n == "int")
theorem qaK6(K:PySem.W.Frag){t n:String}(a:t∈["NoneType", "bool", "int", "str", "list", "tuple", "dict"])(b:n∈["bool", "int", "str", "list", "tuple", "dict"]):PySem.W.kitOne K (.type t) (.type n)=some (subT t n):=by
 simp only[zAl,zB7,or_false] at a b;rcases a with rfl | rfl | rfl | rfl | rfl | rfl | rfl<;>rcases b with rfl | rfl | rfl | rfl | rfl | rfl<;>rfl
theorem qah8{K:PySem.W.Frag}{x:V}{t:String}(h:B9 H x=some t):Hh K H x (.type t)/\t∈["NoneType", "bool", "int", "str", "list", "tuple", "dict"]:=by
 cases x with
 | non=>cases h;exact⟨.non,by decide⟩
 | bl b=>cases h;exact⟨.bl b,by decide⟩
 | int b=>cases h;exact⟨.int b,by decide⟩
 | str b=>cases h;exact⟨.str b,by decide⟩
 | byt b=>cases h
 | flt b=>cases h
 | ty b=>cases h
 | ref a =>
   unfold B9 at h;dsimp only at h;split at h
   . cases h;exact⟨.lst (by assumption),by decide⟩
   . cases h;exact⟨.tup (by assumption),by decide⟩
   . cases h;exact⟨.dK (by assumption),by decide⟩
   . cases h;exact⟨.frz (by assumption),by decide⟩
   cases h
def rIsi:List V->Hp->VK->Prop:=λ xs H Q=>∃ x n t,xs=[x,.ty n]/\B9 H x=some t/\n∈["bool", "int", "str", "list", "tuple", "dict"]/\Q (.bl (subT t n)) H
theorem qr2:CallR X (.builtin "isinstance") rIsi:=by
 intro Gm s σ H i j Q I r h;obtain⟨x,n,t,rfl,b,c,q⟩:=h;obtain⟨u,k,rfl,d,a⟩:=Kr r;cases a;obtain⟨e,f⟩:=qah8 (K:=X.K) b;exact qJ1 I d e (qaK6 X.K f c) λ g=>⟨.bl _,H,I.tok g,rfl,q⟩
theorem qaI0(n:String){pos:Pos}(hm:X.mg x=none)(a:Gl X x:=by rfl)(b:bootBuiltins x=some (.type n):=by rfl)(c:x ≠ "__name__" := by decide)(d:(x == ("__debug__" : Str))=false:=by decide):PE X (.Name x pos) (tC (.ty n)):=qaI1 a hm b rfl c d
theorem qaH7{n:Int}{t:Tok}{pos:Pos}(hm:X.mg x=some (.int n t))(a:Gl X x:=by rfl)(b:(x == ("__debug__" : Str))=false:=by decide):PE X (.Name x pos) (tC (.int n)):=qaf3 a hm ⟨t,rfl⟩ b
theorem cbi{id:String}{r:List V->Hp->VK->Prop}{pos:Pos}(c:CallR X (.builtin id) r)(hm:X.mg x=none)(d:PA X (e::es) t)(f:Gl X x:=by rfl)(g:bootBuiltins x=some (.builtin id):=by rfl)(h:x ≠ "__name__" := by decide)(a:(x == ("__debug__" : Str))=false:=by decide)(i:starEach (e::es) X.env=(false,eval e X.env)::starEach es X.env:=by rfl)(b:(backTo pos (starEach es X.env)).any (·.1)=false:=by rfl):PE X (.Call (.Name x p) (e::es) [] pos) (tCB r t):=qay6 c f hm g d h a i b
theorem cty{id:String}{r:List V->Hp->VK->Prop}{pos:Pos}(c:CallR X (.type id) r)(hm:X.mg x=none)(d:PA X (e::es) t)(f:Gl X x:=by rfl)(g:bootBuiltins x=some (.type id):=by rfl)(h:x ≠ "__name__" := by decide)(a:(x == ("__debug__" : Str))=false:=by decide)(i:starEach (e::es) X.env=(false,eval e X.env)::starEach es X.env:=by rfl)(b:(backTo pos (starEach es X.env)).any (·.1)=false:=by rfl):PE X (.Call (.Name x p) (e::es) [] pos) (tCB r t):=qan2 c f hm g d h a i b
end
theorem ix{X:Cx}{a b:Expr}{ta tb:TE}{pos:Pos}{r:R2}(c:IxR X r)(d:PE X a ta)(e:PE X b tb)(f:qal3 b:=by exact λ _ _=>rfl):PE X (.Subscript a b pos) (tOp r ta tb):=pe_ix c d e f
def rGetL:V->V->Hp->VK->Prop:=λ o i H Q=>∃ p xs k v,o=.ref p/\i=.int k/\H p=some (.lst xs)/\0<=k/\xs[k.toNat]? = some v/\Q v H
theorem qaB4{X:Cx}:PGet X rGetL:=by
 intro Gm s σ H o i w y Q I c d h;obtain⟨p,z,k,v,rfl,rfl,e,f,b,q⟩:=h;cases c;obtain⟨t,rfl⟩:=d;obtain⟨a,n,r,g,A⟩:=I.lst e;obtain⟨u,j,l⟩:=r.get b;have m:=(zA5.mp b).1;have B:=qS4;refine wpAny_getItem_list (items:=a.toArray) (x:=u) ⟨_,g,rfl,n,rfl⟩ f (by lia) (by simpa using j) ⟨v,H,I,l,q⟩
theorem qaV0{xs:List α}(b:0<=i)(h1:i < xs.length):∃ v,xs[i.toNat]? = some v/\atI xs i=some v:=by
 have a:i.toNat < xs.length:=by lia
 have e:(i.toNat:Int)=i:=by lia
 refine⟨xs[i.toNat],by simp[a],?_⟩
 have:=qY9 (xs:=xs) (j:=i.toNat) (v:=xs[i.toNat]) (by simp[a])
 rw[e] at this;exact this
theorem qC3{xs:List α}(a:0<=i)(h1:i < xs.length):∃ v,v∈xs/\atI xs i=some v:=by
 obtain⟨v,h,e⟩:=qaV0 a h1;exact⟨v,zB1 h,e⟩
theorem qah6(h:H a=some (.lst xs)):B9 H (.ref a)=some "list" := by
 unfold B9;dsimp only;rw[h]
theorem qaA7(h:H a=some (.tup xs)):B9 H (.ref a)=some "tuple" := by
 unfold B9;dsimp only;rw[h]
theorem qat5{xs:List (Key×V)}(h:H a=some (.dK xs)):B9 H (.ref a)=some "dict" := by
 unfold B9;dsimp only;rw[h]
theorem Same.new{q:Addr}{u:HO}(h:H q=none):Same H (upd H q u):=λ b o e=>by rw[qb3 (qb8 e h)];exact e
structure Df(K:PySem.W.Frag)(mg:Str->Option Value)(x qual:Str)(st:Stmt)(f:Addr)(fd:FuncData)(ps:List Str):Prop where
 F:Fun K x qual st f fd
 b:Binds K fd ps []
 m:mg x=some (.ref f)
theorem dfmk{K:PySem.W.Frag}{mg:Str->Option Value}{qual:Str}{st:Stmt}{f:Addr}{ps:List Str}{oc:Value}{od d:Option Addr}{i:Array (Option Value)}{kV b e a g:Value}(l:K.lookup f=some ⟨oc,od,.func (PySem.W.fnOf x qual (qf0 st) (qc9 st) (qa3 st) .none kV b e d a g),i⟩)(c:PySem.W.codeIn K a qual=true)(k:PySem.W.keepIn K (.ref f)=true)(m:mg x=some (.ref f))(h:∀(kV b e:Value)(d:Option Addr)(a g:Value)(us:List Value),us.length=ps.length->bindArgs (PySem.W.fnOf x qual (qf0 st) (qc9 st) (qa3 st) .none kV b e d a g) ⟨us,[]⟩=pure (ps.zip us)) :
   Df K mg x qual st f (PySem.W.fnOf x qual (qf0 st) (qc9 st) (qa3 st) .none kV b e d a g) ps:=⟨qao5 l c k,(qao5 l c k).binds h,m⟩
theorem callD{X:Cx}{qual:Str}{st:Stmt}{f:Addr}{fd:FuncData}{ps:List Str}{k:Nat}{sp:Sp}{pos:Pos}(D:Df X.K X.mg x qual st f fd ps)(G:B7 X.prog X.w X.K X.mg X.base CX0 k f fd ps sp)(d:Room k X.A)(g:PA X (e::es) t)(h:Gl X x:=by rfl)(a:(x == ("__debug__" : Str))=false:=by decide)(i:starEach (e::es) X.env=(false,eval e X.env)::starEach es X.env:=by rfl)(c:(backTo pos (starEach es X.env)).any (·.1)=false:=by rfl):PE X (.Call (.Name x p) (e::es) [] pos) (Lx sp [] (λ _=>E0) t) :=
 qat0 G d h D.m D.F.kp D.b .nil pass0 g a i c
end L2
namespace LB
open PySem PySem.Spec PyProof.Rows
theorem qS3:typeLookup (.type "list") "keys" = pure none:=by rw[typeLookup_type,builtinLookup_eq_fast];kernel_rfl
theorem qD7:typeLookup (.type "list") "__getattr__" = pure none:=by rw[typeLookup_type,builtinLookup_eq_fast];kernel_rfl
section
variable{prog:Program}{w:World}{A:Around}{E:Value->Shared->Prop}{h:Heap}{g:Array GenState}{d:Drawn}{t:Nat}{os:OsState}{a:Addr}{its:Array Value}{n:Nat}
theorem qD8{b:Tok}{Q:PySem.Fin->Shared->Prop}(c:h.get? a=some { cls:=.type "list",data:=.seq its n })(f:A.handled=none)(i:∀ h' b e,Heap.NewAttrErr h h' e (.ref a) "keys" -> E (.ref e) ⟨h',g,d,b,os⟩) :
   wpAny (model prog w) A (Builtin.«object.__getattribute__» ⟨[.ref a,.str "keys" b],[]⟩) Q E ⟨h,g,d,t,os⟩:=by
 have j:(⟨h,g,d,t,os⟩:Shared).TypeIs (.ref a) "list" := ⟨_,c,rfl⟩
 have k:=qS3
 repeat (any_goals (first | assumption | wp_step))
 refine wpAny_raiseAttrError f ?_ (attrMsg_fits (by decide +kernel) (by decide +kernel));exact i
theorem qJ0{Q:Option Value->Shared->Prop}(i:h.get? a=some { cls:=.type "list",data:=.seq its n })(k:A.handled=none)(l:∀ h' f,(∀ b o,h.get? b=some o->h'.get? b=some o)->Q none ⟨h',g,d,f,os⟩) :
   wpAny (model prog w) A (getAttr? (.ref a) "keys") Q E ⟨h,g,d,t,os⟩:=by
 have j:∀ f,(⟨h,g,d,f,os⟩:Shared).TypeIs (.ref a) "list" := λ _=>⟨_,i,rfl⟩
 have m:=j t;have f1:=sub_AttributeError;have f2:=F.slot_list_getattribute.lookup;have f3:=F.slot_list_getattribute.bind (.ref a);have p:=qD7;unfold getAttr? getAttrBy? getAttrBy
 repeat (any_goals (first | assumption | wp_step))
 refine codeAny_call_builtin F.slot_list_getattribute.plain F.entry_list_ga (F.slot_list_getattribute.check _ _ _ _ _ _ _ _ (j _) (F.args_list_getattribute_2 _ _) (qD8 i k λ h' f e c=>?_));obtain⟨q,r,s⟩:=c.there;show wpAny _ _ (getattributeRaised _ _ _ _ _ _ _) _ _ _;unfold getattributeRaised
 repeat (any_goals (first | assumption | wp_step))
 exact l _ _ c.keeps
end
theorem qp3:entryFor table "dict.update.loop" = some Builtin.«dict.update.loop»:=entryFor_of_tree (by kernel_rfl)
theorem qf5:plainId "dict.update.loop" = true:=by decide +kernel
section
variable{prog:Program}{w:World}{K:Type}[DecidableEq K]{knd:KeyKind prog w K}{A:Around}{R:Result->Shared->Prop}
theorem qaq1(X:A.handled=none){I ax d:Addr}{items:Array Value}(z:ax≠I)(h:d≠I)(B:ax≠d):∀(rest:List (K×Value))(i:Nat)(ix:Int)(kvs:List (K×Value))(s:Shared),
   (∀(j:Nat) a,rest[j]? = some a->∃ t f,items[i+j]? = some (.ref t)/\IsTup s.heap t #[f,a.2]/\knd.is a.1 f=true/\t≠I/\t≠d)->items.size=i+rest.length ->
   s.heap.IsListIter I ax i->s.heap.IsList ax items->s.heap.DictOf knd d kvs->kvs.length+rest.length<=sizeLine ->
   (∀ h' C,h'.DictOf knd d (rest.foldl (λ acc a=>stored acc a.1 a.2) kvs)->(∀ b o,b≠I->b≠d->s.heap.get? b=some o->h'.get? b=some o)->R (.ok (.ret .none)) { s with heap:=h',toks:=C }) ->
   codeAny (model prog w) A (.builtin "dict.update.loop" ⟨[.ref d,.ref I,rawInt ix,.none],[]⟩) R s:=by
 intro rest
 induction rest with
 | nil =>
   intro i ix kvs s D g k x E Q F;refine codeAny_builtin qp3 ?_;rw[Around.under_plainId qf5 _];show wpAny _ A.in1 (pyNext (.ref I) >>= _) _ _ s;refine wpAny_bind (wpAny_pyNext_list_end X k x (by simp at g;simp[g]) λ h' S=>?_);show wpAny _ _ (Builtin.Dict.addKeywords d [] >>= _) _ _ _;refine wpAny_bind (wpAny_pure (wpAny_pure ?_));have l:h'.DictOf knd d kvs:=by
     obtain⟨o,G,H,m,r⟩:=E;exact⟨o,G,H,S d o h m,r⟩
   exact F h' s.toks l λ b o y _ e=>S b o y e
 | cons a rest Y =>
   intro i ix kvs s D g k x E Q F;obtain⟨t,f,Z,h2,h3,h4,h5⟩:=D 0 a rfl;refine codeAny_builtin qp3 ?_;rw[Around.under_plainId qf5 _];show wpAny _ A.in1 (pyNext (.ref I) >>= _) _ _ s;refine wpAny_bind (wpAny_pyNext_list_item k x Z λ h' p q=>?_);have J:IsTup h' t #[f,a.2]:=h2.extBut q.extBut h4;obtain⟨o,m,L,n,M⟩:=J;refine wpAny_bind (wpAny_holding ?_);refine wpAny_bind (wpAny_tryCatch ?_);unfold Builtin.Dict.pairItems;refine wpAny_bind (wpAny_typeOf (T := "tuple") ⟨o,m,L⟩ ?_);rw[if_pos (by decide)];refine wpAny_bind (wpAny_seqItems m M (wpAny_pure ?_));dsimp only[Option.getD];have l:h'.DictOf knd d kvs:=by
     obtain⟨o,G,H,m,r⟩:=E;exact⟨o,G,H,q.extBut d o h m,r⟩
   simp only[zAn] at Q g;show wpAny _ _ (holding [f,a.2] (dictSet d f a.2)) _ _ _;refine wpAny_holding (wpAny_dictSet_pairs (hsz:=by lia) h3 l λ a0 u c=>?_);refine wpAny_pure ⟨plainId_quiet qf5 _,?_⟩;have U:(stored kvs a.1 a.2).length<=kvs.length+1:=by
     unfold stored;split
     . rw[zAf];lia
     rw[zA7];simp
   refine Y (i+1) (ix+1) (stored kvs a.1 a.2) _ (λ j N hj=>?_) (by lia) ?_ ?_ u (by lia) λ O C P k3=>?_
   . obtain⟨t',key',g1,g2,g3,V,W⟩:=D (j+1) N hj
     exact⟨t',key',by rw[show i+1+j=i+(j+1) by lia];exact g1,(g2.extBut q.extBut V).extBut c.extBut W,g3,V,W⟩
   . exact p.at λ o e=>c.extBut I o (Ne.symm h) e
   . exact(x.at λ o e=>q.extBut ax o z e).at λ o e=>c.extBut ax o B e
   exact F O C P λ b o y v e=>k3 b o y v (c.extBut b o v (q.extBut b o y e))
end
end LB
namespace L2
open PySem PySem.Spec PyProof.Rows
section
variable{X:Cx}
theorem KV.fold:∀{more:List (Key×V)}{a:List (Key×Value)}{kvs:List (Key×V)}{vs:List (Key×Value)},KV more a->KV kvs vs->KV (qD6 kvs more) (a.foldl (λ acc b=>stored acc b.1 b.2) vs):=by
 intro more a kvs vs r;unfold KV at r
 induction r generalizing kvs vs with
 | nil=>intro q;exact q
 | @cons p q _ _ h _ ih =>
   intro c;show KV (qD6 (putK kvs p.1 p.2) _) (List.foldl _ (stored vs q.1 q.2) _);refine ih ?_;rw[<- h.1];exact c.put p.1 h.2
def qav6(H:Hp)(ys:List V)(kvs:List (Key×V)):Prop:=Paired (λ y (a:Key×V)=>∃ t,y=.ref t/\H t=some (.tup [kV a.1,a.2])) ys kvs
def qaF9:List V->Hp->VK->Prop:=λ xs H Q=>∃ a ys kvs,xs=[.ref a]/\H a=some (.lst ys)/\qav6 H ys kvs/\∀ p,H p=none->Q (.ref p) (upd H p (.dK (qD6 [] kvs)))
theorem qak6(hc:X.calm=true):CallR X (.type "dict") qaF9:=by
 intro Gm s σ H xs us Q I r h;obtain⟨a,ys,g,rfl,ha,N,q⟩:=h;obtain⟨u,rfl,ru⟩:=Gs r;cases ru;have hh:=I.ok.hd hc;obtain⟨z,f,n,rv,O,e⟩:=I.lstM ha;obtain⟨x,J,P⟩:∃ x:List (Key×Value),KV g x/\∀(j:Nat) k,x[j]? = some k->∃ t i,f[j]? = some (.ref t)/\IsTup s.heap t #[i,k.2]/\(qe9 X.prog X.w).is k.1 i=true:=by
   clear q e O n ha z
   induction N generalizing f with
   | nil=>exact⟨[],.nil,λ j k C=>by simp at C⟩
   | @cons y k ys g hy _ ih =>
     cases rv with
     | @cons _ u _ us' hu hr =>
       obtain⟨t,rfl,ht⟩:=hy;cases hu;obtain⟨_,its',rt,o,p,R,n,S⟩:=I.hok t _ ht;obtain⟨i,U,rfl,r1,r2⟩:=rt.two;obtain⟨x,J,P⟩:=ih _ hr;refine⟨(k.1,U)::x,.cons ⟨rfl,r2⟩ J,λ j V C=>?_⟩;cases j with
       | zero=>cases C;exact⟨t,i,rfl,⟨o,p,R,n,S⟩,L5 r1⟩
       | succ j=>exact P j V C
 have D:x.length=f.length:=by rw[<- O,<- Paired.length J,<- Paired.length N]
 have big:=I.big;obtain⟨c,gn,dr,W,Y⟩:=s;refine callType_codes (Q₁:=λ E s₁=>E=.ref c.objs.size/\s₁={ heap:=c.push { cls:=.type "dict",data:=.dict #[] },gens:=gn,drawn:=dr,toks:=W,os:=Y }) F.kt_called_dict (F.kt_typeCall_dict_1 _) F.entry_dict_init (kt_code_dict_new _ ⟨rfl,rfl⟩) ?_;rintro E s₁ ⟨rfl,rfl⟩;have l:(c.push { cls:=.type "dict",data:=.dict #[] }).DictOf (qe9 X.prog X.w) c.objs.size []:=Heap.DictOf.new c;have Z:(c.push { cls:=.type "dict",data:=.dict #[] }).get? a=some { cls:=.type "list",data:=.seq f.toArray n }:=zA2 _ e;have G:a < c.objs.size:=zA8 e;refine⟨l.typeIs,F.args_dict_init_2 _ _,?_⟩;unfold Builtin.«dict.__init__»;refine wpAny_bind ?_;unfold Builtin.Dict.selfAndRest;refine wpAny_bind (wpAny_notOrdered_dict l.typeIs ?_);show wpAny _ _ (pure (c.objs.size,[Value.ref a])) _ _ _;refine wpAny_pure ?_;show wpAny _ _ (Builtin.Dict.updateFrom "dict.__init__" c.objs.size (.ref a) [] .none) _ _ _;unfold Builtin.Dict.updateFrom;refine wpAny_bind (wpAny_typeOf (T := "list") ⟨_,Z,rfl⟩ ?_);rw[if_pos (by decide)];refine wpAny_bind (LB.qJ0 Z hh λ B a2 K=>?_);rw[if_pos (by rfl)];have e1:B.get? a=some { cls:=.type "list",data:=.seq f.toArray n }:=K _ _ Z;have d1:B.DictOf (qe9 X.prog X.w) c.objs.size []:=by
   obtain⟨o,L,M,p,r⟩:=l;exact⟨o,L,M,K _ _ p,r⟩
 refine wpAny_bind (wpAny_rule ?_);have hlist:B.IsList a f.toArray:=⟨_,e1,rfl,n,rfl⟩
 refine wpAny_bind (wpAny_pyIter_list hlist ?_);have v:c.objs.size < B.objs.size:=by
   obtain⟨o,L,M,p,r⟩:=d1;exact zA8 p
 refine wpAny_pure ⟨plainId_quiet LB.qf5 _,?_⟩;refine LB.qaq1 (knd:=qe9 X.prog X.w) (A:=X.A.in1) hh (I:=B.objs.size) (ax:=a) (d:=c.objs.size) (items:=f.toArray) (zAh (Nat.lt_trans G v)) (zAh v) (zAh G) x 0 0 [] _ (λ j k C=>?_) (by simp[D]) ?_ ?_ ?_ ?_ λ h2 a0 d2 k2=>?_
 . obtain⟨t,i,g1,g2,g3⟩:=P j k C
   obtain⟨o,p,r⟩:=g2;have m:=zA8 p;exact⟨t,i,by simpa using g1,⟨o,zA2 _ (K _ _ (zA2 _ p)),r⟩,g3,zAh (Nat.lt_trans m v),zAh m⟩
 . exact⟨_,zAt _ rfl,rfl,rfl⟩
 . exact⟨_,zA2 _ e1,rfl,n,rfl⟩
 . obtain⟨o,L,M,p,r⟩:=d1
   exact⟨o,L,M,zA2 _ p,r⟩
 . simp only[zBy,zB9];rw[D,<- O];exact z
 refine⟨rfl,?_⟩;have hf:H c.objs.size=none:=I.hok.fresh (zA3 _);have keep:∀ b o,c.get? b=some o->h2.get? b=some o:=λ b o eb=>by
   have m:=zA8 eb;exact k2 b o (zAh (Nat.lt_trans m v)) (zAh m) (zA2 _ (K _ _ (zA2 _ eb)))
 have rm:KV (qD6 [] g) (x.foldl (λ a1 k=>stored a1 k.1 k.2) []):=KV.fold J .nil;have hz:(qD6 [] g).length<=sizeLine:=by
   have B:=qw4 g [];have h2:=Paired.length N;simp only[zBy] at B;lia
 refine⟨.ref c.objs.size,_,I.laid (t':=a0) (o:=.dK (qD6 [] g)) keep (zA3 _) ?_,rfl,q _ hf⟩;exact⟨hz,zBd.mpr (Ne.symm (zAh big)),_,rm,d2⟩
end
section
variable{X:Cx}
theorem qY3(w:X.calm=true):CallR X (.builtin "all") (λ xs H Q=>∃(a:Addr)(c:List Bool),xs=[.ref a]/\SqL X.K H a (c.map V.bl)/\Q (.bl (c.all id)) H):=by
 intro Gm s σ H xs F Q I r h;obtain⟨a,c,rfl,y,q⟩:=h;obtain⟨u,rfl,l⟩:=Gs r;cases l;have z:=I.ok.hd w;obtain⟨f,m,n,G⟩:=I.list y;refine call_all_walk (wpAny_pyIter_list n.isList ?_);have p:a < s.heap.objs.size:=let ⟨o,ho,_⟩:=n.isList;zA8 ho
 refine⟨s.heap.objs.size,_,_,_,_,_,λ i=>c.getD i false,rfl,Walks.list (A:=X.A.in1) z _ a (zAh p) f.toArray,⟨⟨_,zAt _ rfl,rfl,rfl⟩,?_⟩,?_,?_⟩
 . exact n.isList.at λ o e=>zA2 _ e
 . intro i v B Q1 E1 g j
   have g:f[i]? = some v:=by simpa using g
   have d:i < c.length:=by
     have J:=(zA5.mp g).1;have k:=m.length;rw[zAf] at k;lia
   obtain⟨u,t,l⟩:=m.get (i:=i) (x:=.bl c[i]) (by simp[d]);rw[g] at t;cases t;cases l;refine wpAny_truthy_bool ?_;have e:c.getD i false=c[i]:=by simp[List.getD,d]
   have j:Q1 (c.getD i false) B:=j;rw[e] at j;exact j
 intro L C D;have e:(List.range f.toArray.size).all (λ i=>c.getD i false)=c.all id:=by
   have k:=m.length;rw[zAf] at k;rw[zA4,<- k];rw[Bool.eq_iff_iff];simp only[zB2,zAj,id_eq];constructor
   . intro h b E
     obtain⟨i,d,rfl⟩:=List.mem_iff_getElem.mp E
     have:=h i d
     simpa[List.getD,d] using this
   intro h i d
   have:=h c[i] (List.getElem_mem d)
   simpa[List.getD,d] using this
 rw[e];refine⟨.bl _,H,?_,rfl,q⟩;exact I.kept (t':=C) λ b o e=>D b o (by simp;exact zAh (zA8 e)) (zA2 _ e)
noncomputable def qn0(ns:List Int):Nat:=(firstMet (λ i=>ns.getD i 0) ns.length).length
def rSetI(K:PySem.W.Frag):List V->Hp->VK->Prop:=λ xs H Q=>∃(a:Addr)(ns:List Int),xs=[.ref a]/\SqL K H a (ns.map V.int)/\ns.length<=1000/\∀ p S,H p=none->Q (.ref p) (upd H p (.set S (qn0 ns)))
theorem qaq4(k:X.calm=true):CallR X (.type "set") (rSetI X.K):=by
 intro Gm s σ H x y Q I r h;obtain⟨a,f,rfl,l,z,q⟩:=h;obtain⟨u,rfl,m⟩:=Gs r;cases m;have n:=I.ok.hd k;obtain⟨c,i,p,A⟩:=I.list l;have d:c.length=f.length:=by
   have:=i.length
   rw[zAf] at this;exact this.symm
 have t:IntsAre c f:=qai5 i;refine call_set_list (items:=c.toArray) n p.isList (by simpa using t) (by rw[zA4,d];show f.length+1 < 4096;lia) λ B v j w=>?_
 have g:c.toArray.size=f.length:=by rw[zA4,d]
 rw[g] at j;refine⟨.ref s.heap.objs.size,_,I.laid (t':=v) (o:=.set _ (qn0 f)) (λ b o e=>w b o (zA8 e) e) (zA3 _) j,rfl,q _ _ (I.hok.fresh (zA3 _))⟩
theorem qaq7:CallR X (.builtin "len") (λ xs H Q=>∃(a:Addr)(S:Int->Bool)(n:Nat),xs=[.ref a]/\H a=some (.set S n)/\Q (.int n) H):=by
 intro Gm s σ H xs l Q I r h;obtain⟨a,S,n,rfl,d,q⟩:=h;obtain⟨u,rfl,e⟩:=Gs r;cases e;obtain⟨o,f,m,t,g,b,i,_,_,c,j,k⟩:=I.hok a _ d;subst k;have c:f.size < 4096:=c;exact call_len_set g b i j (by lia) ⟨.int _,H,I.tok _,⟨_,rfl⟩,q⟩
end
theorem qT3(ns:List Int):qn0 ns=ns.length↔ns.Nodup:=by
 have f:∀ i,i<=ns.length->(∀ k,k∈firstMet (λ i=>ns.getD i 0) i↔k∈ns.take i)/\((firstMet (λ i=>ns.getD i 0) i).length=i↔(ns.take i).Nodup):=by
   intro i
   induction i with
   | zero=>intro _;rw[firstMet_zero];simp
   | succ i m =>
     intro r;obtain⟨c,l⟩:=m (by lia);have n:=firstMet_length_le (λ i=>ns.getD i 0) i;have b:i < ns.length:=by lia
     have o:ns.take (i+1)=ns.take i++[ns[i]]:=by rw[List.take_add_one];simp[b]
     have p:ns.getD i 0=ns[i]:=by simp[List.getD,b]
     rw[firstMet_succ,o,p];unfold step_dedup;by_cases d:ns[i]∈firstMet (λ i=>ns.getD i 0) i
     . have a:ns[i]∈ns.take i:=(c _).mp d
       have g:(firstMet (λ i=>ns.getD i 0) i).any (· == ns[i])=true:=List.any_eq_true.mpr ⟨_,d,by simp⟩;rw[if_pos g];refine⟨λ k=>?_,?_⟩
       . rw[c];simp only[zAa,zAq]
         exact⟨.inl,λ h=>h.elim id λ e=>by rw[e];exact a⟩
       constructor
       . intro h;lia
       intro h;rw[List.nodup_append] at h;exact absurd rfl (h.2.2 _ a _ (zAq.mpr rfl))
     have a:¬ ns[i]∈ns.take i:=λ h=>d ((c _).mpr h)
     have g:¬ (firstMet (λ i=>ns.getD i 0) i).any (· == ns[i])=true:=λ h=>by
       obtain⟨x,j,e⟩:=List.any_eq_true.mp h;exact d (by rw[<- (zBj.mp e)];exact j)
     rw[if_neg g];refine⟨λ k=>?_,?_⟩
     . simp only[zAa,zAq]
       rw[c]
     rw[zA7,List.nodup_append];simp only[List.length_singleton];constructor
     . intro h
       refine⟨l.mp (by lia),by simp,λ x j y q=>?_⟩;rw[zAq.mp q];exact λ e=>a (e ▸ j)
     intro h
     have:=l.mpr h.1
     lia
 have:=(f ns.length (zA3 _)).2
 rw[zBn (zA3 _)] at this;exact this
end L2
namespace LD
open PySem PySem.SeqAt MeetsSeq
open AutoSeq1 (wpAny_loadPart')
variable{b l:Addr}{dd:Option Addr}{n:Nat}{sl:Array (Option Value)}
theorem qaC5(l b:Addr)(es:Array DictEntry)(items2:Array Value)(n e:Nat)(dd a:Option Addr)(sl c:Array (Option Value)) :
   Meets (Builtin.«dict.__eq__» ⟨[.ref l,.ref b],[]⟩) (λ _ R s=>s.heap.get? l=some { cls:=.type "dict",dict:=dd,data:=.dict es n,slots:=sl }/\s.heap.get? b=some { cls:=.type "tuple",dict:=a,data:=.seq items2 e,slots:=c }/\R (.ok (.ret .notImplemented)) s) :=
 .of_wp λ prog w A R s h=>by obtain⟨j,g,d,k,m⟩:=s;obtain⟨f,i,h⟩:=h;have f1:=F.sub_tuple_dict;wp_walk using wpAny_loadPart' f,wpAny_loadPart' i;exact⟨_,rfl,h⟩
theorem qaw0(l b:Addr)(es:Array DictEntry)(items2:Array Value)(n e:Nat)(dd a:Option Addr)(sl c:Array (Option Value)) :
   Meets (Builtin.«tuple.__eq__» ⟨[.ref b,.ref l],[]⟩) (λ _ R s=>s.heap.get? l=some { cls:=.type "dict",dict:=dd,data:=.dict es n,slots:=sl }/\s.heap.get? b=some { cls:=.type "tuple",dict:=a,data:=.seq items2 e,slots:=c }/\R (.ok (.ret .notImplemented)) s) :=
 .of_wp λ prog w A R s h=>by obtain⟨j,g,d,k,m⟩:=s;obtain⟨f,i,h⟩:=h;have f1:=F.sub_dict_tuple;wp_walk using wpAny_loadPart' f,wpAny_loadPart' i;exact⟨_,rfl,h⟩
theorem qaz7(l b:Addr)(es:Array DictEntry)(items2:Array Value)(n e:Nat)(dd a:Option Addr)(sl c:Array (Option Value)) :
   Meets (Builtin.«dict.__ne__» ⟨[.ref l,.ref b],[]⟩) (λ _ R s=>s.heap.get? l=some { cls:=.type "dict",dict:=dd,data:=.dict es n,slots:=sl }/\s.heap.get? b=some { cls:=.type "tuple",dict:=a,data:=.seq items2 e,slots:=c }/\R (.ok (.ret .notImplemented)) s) :=
 .of_wp λ prog w A R s h=>by obtain⟨j,g,d,k,m⟩:=s;obtain⟨f,i,h⟩:=h;have f1:=F.sub_tuple_dict;wp_walk using wpAny_loadPart' f,wpAny_loadPart' i;exact⟨_,rfl,h⟩
theorem qav9(l b:Addr)(es:Array DictEntry)(items2:Array Value)(n e:Nat)(dd a:Option Addr)(sl c:Array (Option Value)) :
   Meets (Builtin.«tuple.__ne__» ⟨[.ref b,.ref l],[]⟩) (λ _ R s=>s.heap.get? l=some { cls:=.type "dict",dict:=dd,data:=.dict es n,slots:=sl }/\s.heap.get? b=some { cls:=.type "tuple",dict:=a,data:=.seq items2 e,slots:=c }/\R (.ok (.ret .notImplemented)) s) :=
 .of_wp λ prog w A R s h=>by obtain⟨j,g,d,k,m⟩:=s;obtain⟨f,i,h⟩:=h;have f1:=F.sub_dict_tuple;wp_walk using wpAny_loadPart' f,wpAny_loadPart' i;exact⟨_,rfl,h⟩
theorem for0{β:Type}{m:Type->Type}[Monad m](b:β)(f:Nat->β->m (ForInStep β)):forIn [:0] b f=(pure b:m β):=by
 simp
theorem same0{M:Model}{A:Around}{E:Value->Shared->Prop}{s:Shared}{Q:Bool->Shared->Prop}{id:String}{e:Nat}{a:Option Addr}{c:Array (Option Value)}(h1:(l == sysModules)=false)(h2:(b == sysModules)=false)(d:s.heap.get? l=some { cls:=.type "dict",dict:=dd,data:=.dict #[] n,slots:=sl })(f:s.heap.get? b=some { cls:=.type "dict",dict:=a,data:=.dict #[] e,slots:=c })(h:Q true s):wpAny M A (Builtin.Dict.samePairs id l b) Q E s:=by
 unfold Builtin.Dict.samePairs Builtin.Dict.showsAll;rw[if_neg (by rw[h1];decide),if_neg (by rw[h2];decide)];refine wpAny_bind (wpAny_pure (wpAny_bind (wpAny_pure ?_)));refine wpAny_bind (wpAny_dictEntries d rfl ?_);refine wpAny_bind (wpAny_dictEntries f rfl ?_);rw[if_neg (by decide)];refine wpAny_bind (wpAny_dictEpoch d rfl ?_);have g:(#[]:Array DictEntry).size=0:=rfl;simp only[g];rw[for0];exact wpAny_bind (wpAny_pure (wpAny_pure h))
theorem qaM2(l b:Addr)(n i:Nat)(dd a:Option Addr)(sl c:Array (Option Value))(h1:(l == sysModules)=false)(h2:(b == sysModules)=false) :
   Meets (Builtin.«dict.__eq__» ⟨[.ref l,.ref b],[]⟩) (λ _ R s=>s.heap.get? l=some { cls:=.type "dict",dict:=dd,data:=.dict #[] n,slots:=sl }/\s.heap.get? b=some { cls:=.type "dict",dict:=a,data:=.dict #[] i,slots:=c }/\R (.ok (.ret (.bool true))) s) :=
 .of_wp λ prog w A R s h=>by
   obtain⟨j,g,d,k,m⟩:=s;obtain⟨e,f,h⟩:=h;have f1:isSubtype (.type "dict") (.type "dict")=pure true:=F.sub_dict_dict
   wp_walk using wpAny_loadPart' e,wpAny_loadPart' f,same0 h1 h2 e f
   exact⟨_,rfl,h⟩
theorem qaJ5(l b:Addr)(n i:Nat)(dd a:Option Addr)(sl c:Array (Option Value))(h1:(l == sysModules)=false)(h2:(b == sysModules)=false) :
   Meets (Builtin.«dict.__ne__» ⟨[.ref l,.ref b],[]⟩) (λ _ R s=>s.heap.get? l=some { cls:=.type "dict",dict:=dd,data:=.dict #[] n,slots:=sl }/\s.heap.get? b=some { cls:=.type "dict",dict:=a,data:=.dict #[] i,slots:=c }/\R (.ok (.ret (.bool false))) s) :=
 .of_wp λ prog w A R s h=>by
   obtain⟨j,g,d,k,m⟩:=s;obtain⟨e,f,h⟩:=h;have f1:isSubtype (.type "dict") (.type "dict")=pure true:=F.sub_dict_dict
   wp_walk using wpAny_loadPart' e,wpAny_loadPart' f,same0 h1 h2 e f
   exact⟨_,rfl,h⟩
section
variable{A:Around}{s:Shared}
theorem qas4{f:Nat}{c:Option Addr}{d:Array (Option Value)}(h1:(l == sysModules)=false)(h2:(b == sysModules)=false)(e:s.heap.get? l=some { cls:=.type "dict",dict:=dd,data:=.dict #[] n,slots:=sl })(a:s.heap.get? b=some { cls:=.type "dict",dict:=c,data:=.dict #[] f,slots:=d })(g:A.units < cLine):RcAt A s (.ref l) (.ref b) true/\RcNeAt A s (.ref l) (.ref b) false :=
 ⟨λ prog w E Q h=>richCompare_meets_room (op:=.Eq) ⟨_,e,rfl⟩ ⟨_,a,rfl⟩ F.slot_dict_eq F.entry_dict_eq (F.args_dict_eq_2 _ _) (qaM2 l b n f dd c sl d h1 h2) ⟨e,a,show Value.bool true≠Value.notImplemented/\Q (.bool true) s from⟨(λ x=>nomatch x),h⟩⟩ g,
  λ prog w E Q h=>richCompare_meets_room (op:=.NotEq) ⟨_,e,rfl⟩ ⟨_,a,rfl⟩ F.slot_dict_ne F.entry_dict_ne (F.args_dict_ne_2 _ _) (qaJ5 l b n f dd c sl d h1 h2) ⟨e,a,show Value.bool false≠Value.notImplemented/\Q (.bool false) s from⟨(λ x=>nomatch x),h⟩⟩ g⟩
theorem rc_dt{es:Array DictEntry}{items2:Array Value}(c:s.heap.get? l=some { cls:=.type "dict",dict:=dd,data:=.dict es n,slots:=sl })(r:s.heap.IsTuple b items2)(q:A.units < cLine):RcAt A s (.ref l) (.ref b) false/\RcNeAt A s (.ref l) (.ref b) true:=by
 obtain⟨⟨cls2,f,data2,g⟩,a,i,p,j⟩:=id r;simp only at i j;subst i j;have m:l≠b:=λ e=>by
   subst e;rw[c] at a
   have:=congrArg (λ o:Option Obj=>o.map (·.cls)) a
   simp at this
 exact⟨λ prog w E Q h=>rc_eq_decline_or (k:=false) ⟨_,c,rfl⟩ ⟨_,a,rfl⟩ (by decide) F.sub_tuple_dict F.slot_dict_eq F.slot_tuple_eq_refl
     (λ _ d=>call_meets F.slot_dict_eq ⟨_,c,rfl⟩ F.entry_dict_eq (F.args_dict_eq_2 _ _) (qaC5 l b es items2 n p dd f sl g) ⟨c,a,d⟩)
     (λ _ d=>call_meets F.slot_tuple_eq_refl ⟨_,a,rfl⟩ F.entry_tuple_eq (F.args_tuple_eq_2 _ _) (qaw0 l b es items2 n p dd f sl g) ⟨c,a,d⟩)
     (λ _ d=>wpAny_isSame_ref_other m c a (by simp) d) (.inr q) h,
   λ prog w E Q h=>rc_ne_decline_or (k:=false) ⟨_,c,rfl⟩ ⟨_,a,rfl⟩ (by decide) F.sub_tuple_dict F.slot_dict_ne F.slot_tuple_ne_refl
     (λ _ d=>call_meets F.slot_dict_ne ⟨_,c,rfl⟩ F.entry_dict_ne (F.args_dict_ne_2 _ _) (qaz7 l b es items2 n p dd f sl g) ⟨c,a,d⟩)
     (λ _ d=>call_meets F.slot_tuple_ne_refl ⟨_,a,rfl⟩ F.entry_tuple_ne (F.args_tuple_ne_2 _ _) (qav9 l b es items2 n p dd f sl g) ⟨c,a,d⟩)
     (λ _ d=>wpAny_isSame_ref_other m c a (by simp) d) (.inr q) h⟩
end
end LD
namespace L2
open PySem PySem.Spec PyProof.Rows PySem.SeqAt
variable{A:Around}{a:Addr}{xs:List V}
inductive EqD(H:Hp):Nat->V->V->Bool->Prop
 | flat {n:Nat} {x y:V} (hx:flatV x=true) (hy:flatV y=true):EqD H n x y (eqV x y)
 | same {n:Nat} (a:Addr):EqD H n (.ref a) (.ref a) true
 | lsts {n:Nat} {a b:Addr} {xs ys:List V} {e:Nat->Bool} (ne:a≠b) (ha:H a=some (.lst xs)) (hb:H b=some (.lst ys)) (hl:xs.length=ys.length) (he:∀ i x y,xs[i]? = some x->ys[i]? = some y->EqD H n x y (e i)):EqD H (n+1) (.ref a) (.ref b) ((List.range xs.length).all e)
 | lens {n:Nat} {a b:Addr} {xs ys:List V} (ne:a≠b) (ha:H a=some (.lst xs)) (hb:H b=some (.lst ys)) (hl:xs.length≠ys.length):EqD H (n+1) (.ref a) (.ref b) false
 | tups {n:Nat} {a b:Addr} {xs ys:List V} {e:Nat->Bool} (ne:a≠b) (ha:H a=some (.tup xs)) (hb:H b=some (.tup ys)) (he:∀ i x y,xs[i]? = some x->ys[i]? = some y->EqD H n x y (e i)):EqD H (n+1) (.ref a) (.ref b) ((List.range (min xs.length ys.length)).all e&&xs.length == ys.length)
 | dcts {n:Nat} {a b:Addr} (ne:a≠b) (ha:H a=some (.dK [])) (hb:H b=some (.dK [])):EqD H n (.ref a) (.ref b) true
inductive RcD(H:Hp):V->V->Bool->Prop
 | flat {x y:V} (hx:flatV x=true) (hy:flatV y=true):RcD H x y (eqV x y)
 | lsts {a b:Addr} {xs ys:List V} {e:Nat->Bool} (ha:H a=some (.lst xs)) (hb:H b=some (.lst ys)) (hl:xs.length=ys.length) (he:∀ i x y,xs[i]? = some x->ys[i]? = some y->EqD H 20 x y (e i)):RcD H (.ref a) (.ref b) ((List.range xs.length).all e)
 | lens {a b:Addr} {xs ys:List V} (ha:H a=some (.lst xs)) (hb:H b=some (.lst ys)) (hl:xs.length≠ys.length):RcD H (.ref a) (.ref b) false
 | tups {a b:Addr} {xs ys:List V} {e:Nat->Bool} (ha:H a=some (.tup xs)) (hb:H b=some (.tup ys)) (he:∀ i x y,xs[i]? = some x->ys[i]? = some y->EqD H 20 x y (e i)):RcD H (.ref a) (.ref b) ((List.range (min xs.length ys.length)).all e&&xs.length == ys.length)
 | lt {a b:Addr} {xs ys:List V} (ha:H a=some (.lst xs)) (hb:H b=some (.tup ys)):RcD H (.ref a) (.ref b) false
 | tl {a b:Addr} {xs ys:List V} (ha:H a=some (.tup xs)) (hb:H b=some (.lst ys)):RcD H (.ref a) (.ref b) false
 | lf {a:Addr} {xs:List V} {y:V} (ha:H a=some (.lst xs)) (hy:flatV y=true):RcD H (.ref a) y false
 | fl {a:Addr} {xs:List V} {y:V} (ha:H a=some (.lst xs)) (hy:flatV y=true):RcD H y (.ref a) false
 | tf {a:Addr} {xs:List V} {y:V} (ha:H a=some (.tup xs)) (hy:flatV y=true):RcD H (.ref a) y false
 | ft {a:Addr} {xs:List V} {y:V} (ha:H a=some (.tup xs)) (hy:flatV y=true):RcD H y (.ref a) false
 | dcts {a b:Addr} (ha:H a=some (.dK [])) (hb:H b=some (.dK [])):RcD H (.ref a) (.ref b) true
 | dt {a b:Addr} {kvs:List (Key×V)} {ys:List V} (ha:H a=some (.dK kvs)) (hb:H b=some (.tup ys)):RcD H (.ref a) (.ref b) false
section
variable{X:Cx}{Gm:List (Addr×Obj)}{σ:St}{H:Hp}{s:Shared}
theorem Inv.lstI(I:Inv X Gm σ H s)(h:H a=some (.lst xs)):∃ its:List Value,Vals xs its/\s.heap.IsList a its.toArray:=by
 obtain⟨z,its,n,r,_,e⟩:=I.lstM h;exact⟨its,r,_,e,rfl,n,rfl⟩
theorem Inv.tupI(I:Inv X Gm σ H s)(h:H a=some (.tup xs)):∃ its:List Value,Vals xs its/\s.heap.IsTuple a its.toArray:=by
 obtain⟨z,its,r,o,b,c,n,d⟩:=I.hok a _ h;exact⟨its,r,o,b,c,n,d⟩
theorem Inv.dK0(I:Inv X Gm σ H s){kvs:List (Key×V)}(h:H a=some (.dK kvs)):(a == sysModules)=false/\∃ es n,s.heap.get? a=some { cls:=.type "dict",dict:=none,data:=.dict es n,slots:=#[] }/\(kvs=[]->es = #[]):=by
 obtain⟨_,i,p,j,o,es,k,m,⟨b,c,d⟩,f,_,g,_⟩:=I.hok a _ h;obtain⟨q,r,t,u⟩:=o;simp only at b c d f;subst b c d f;refine⟨i,es,k,m,λ e=>?_⟩;subst e;cases j;have e:es.toList=[]:=by
   generalize es.toList=l at g;cases g;rfl
 exact Array.toList_eq_nil_iff.mp e
theorem qx7(A:Around):A.in1.units<=A.units+1:=zA3 _
theorem qU0{P:V->V->Nat->Prop}{e:Nat->Bool}{ys:List V}{its its2:List Value}(r:Vals xs its)(a:Vals ys its2)(k:∀ i x y u v,xs[i]? = some x->ys[i]? = some y->RelV x u->RelV y v->EqAt A s u v (e i)) :
   ∀ j (h1:j < its.toArray.size) (h2:j < its2.toArray.size),EqAt A s its.toArray[j] its2.toArray[j] (e j):=by
 intro j h1 h2;rw[zA4] at h1 h2;have h:=r.length;have l:=a.length;obtain⟨u,b,d⟩:=r.get (i:=j) (x:=xs[j]'(by lia)) (by simp);obtain⟨v,c,f⟩:=a.get (i:=j) (x:=ys[j]'(by lia)) (by simp);have g:its.toArray[j]=u:=by
   have:its[j]? = some its[j]:=by simp[h1]
   rw[this] at b;simpa using Option.some.inj b
 have e2:its2.toArray[j]=v:=by
   have:its2[j]? = some its2[j]:=by simp[h2]
   rw[this] at c;simpa using Option.some.inj c
 rw[g,e2];exact k j _ _ u v (by simp) (by simp) d f
theorem EqD.at(I:Inv X Gm σ H s){n:Nat}{x y:V}{b:Bool}(h:EqD H n x y b):∀{A:Around}{u v:Value},RelV x u->RelV y v->A.units+n+1 < cLine->EqAt A s u v b:=by
 induction h with
 | flat w z=>intro A u v c d _;exact qaM3 c d w z
 | same a=>intro A u v c d _;cases c;cases d;exact EqAt.same _
 | @lsts n a b xs ys e ne ha hb hl he ih =>
   intro A u v c d k;cases c;cases d;obtain⟨f,r,p⟩:=I.lstI ha;obtain⟨its2,g,j⟩:=I.lstI hb;have B:f.toArray.size=its2.toArray.size:=by rw[zA4,zA4,<- r.length,<- g.length,hl]
   have q:=EqAt.of_refs ne (RcAt.lists (A:=A) p j B (by lia) (e:=e) (qU0 (P:=λ _ _ _=>True) r g λ i x y u v l e2 o t=>ih i x y l e2 o t (by have:=qx7 A;lia)));rw[zA4,<- r.length] at q;exact q
 | @lens n a b xs ys ne ha hb hl =>
   intro A u v c d k;cases c;cases d;obtain⟨f,r,p⟩:=I.lstI ha;obtain⟨its2,g,j⟩:=I.lstI hb;exact EqAt.of_refs ne (RcAt.lists_lengths p j (by rw[zA4,zA4,<- r.length,<- g.length];simpa using hl) (by lia))
 | @tups n a b xs ys e ne ha hb he ih =>
   intro A u v c d k;cases c;cases d;obtain⟨f,r,p⟩:=I.tupI ha;obtain⟨its2,g,j⟩:=I.tupI hb;have q:=EqAt.of_refs ne (RcAt.tuples (A:=A) p j (by lia) (e:=e) (qU0 (P:=λ _ _ _=>True) r g λ i x y u v l e2 o t=>ih i x y l e2 o t (by have:=qx7 A;lia)));rw[zA4,zA4,<- r.length,<- g.length] at q;exact q
 | @dcts n a b ne ha hb =>
   intro A u v c d k;cases c;cases d;obtain⟨C,L,m,D,E⟩:=I.dK0 ha;obtain⟨F,G,M,J,K⟩:=I.dK0 hb;cases E rfl;cases K rfl;exact EqAt.of_refs ne (LD.qas4 C F D J (by lia)).1
theorem RcD.at(I:Inv X Gm σ H s){x y:V}{b:Bool}(h:RcD H x y b){u v:Value}(d:RelV x u)(c:RelV y v)(Q:A.units+60 < cLine):RcAt A s u v b/\RcNeAt A s u v (!b):=by
 cases h with
 | flat J o =>
   cases x with
   | non =>
     cases d;cases y with
     | non=>cases c;exact⟨RcAt.none_none,RcNeAt.none_none⟩
     | bl b=>cases c;exact⟨RcAt.none_bool b,RcNeAt.none_bool b⟩
     | int b=>obtain⟨t,rfl⟩:=c;exact⟨RcAt.none_int b t,RcNeAt.none_int b t⟩
     | str b=>obtain⟨t,rfl⟩:=c;exact⟨RcAt.none_str b t,RcNeAt.none_str b t⟩
     | _=>exact absurd (show false=true from o) zAc
   | bl a =>
     cases d;cases y with
     | non=>cases c;exact⟨RcAt.bool_none a,RcNeAt.bool_none a⟩
     | bl b=>cases c;exact⟨RcAt.bool_bool a b,RcNeAt.bool_bool a b⟩
     | int b=>obtain⟨t,rfl⟩:=c;exact⟨RcAt.bool_int a b t,RcNeAt.bool_int a b t⟩
     | str b=>obtain⟨t,rfl⟩:=c;exact⟨RcAt.bool_str a b t,RcNeAt.bool_str a b t⟩
     | _=>exact absurd (show false=true from o) zAc
   | int a =>
     obtain⟨j,rfl⟩:=d;cases y with
     | non=>cases c;exact⟨RcAt.int_none a j,RcNeAt.int_none a j⟩
     | bl b=>cases c;exact⟨RcAt.int_bool a j b,RcNeAt.int_bool a j b⟩
     | int b=>obtain⟨t,rfl⟩:=c;exact⟨RcAt.int_int a j b t,RcNeAt.int_int a j b t⟩
     | str b=>obtain⟨t,rfl⟩:=c;exact⟨RcAt.int_str a j b t,RcNeAt.int_str a j b t⟩
     | _=>exact absurd (show false=true from o) zAc
   | str a =>
     obtain⟨j,rfl⟩:=d;cases y with
     | non=>cases c;exact⟨RcAt.str_none a j,RcNeAt.str_none a j⟩
     | bl b=>cases c;exact⟨RcAt.str_bool a j b,RcNeAt.str_bool a j b⟩
     | int b=>obtain⟨t,rfl⟩:=c;exact⟨RcAt.str_int a j b t,RcNeAt.str_int a j b t⟩
     | str b=>obtain⟨t,rfl⟩:=c;exact⟨RcAt.str_str a j b t,RcNeAt.str_str a j b t⟩
     | _=>exact absurd (show false=true from o) zAc
   | _=>exact absurd (show false=true from J) zAc
 | @lsts a b xs ys e f n hl he =>
   cases d;cases c;obtain⟨g,r,p⟩:=I.lstI f;obtain⟨its2,q,l⟩:=I.lstI n;have w:g.toArray.size=its2.toArray.size:=by rw[zA4,zA4,<- r.length,<- q.length,hl]
   have k:=qU0 (P:=λ _ _ _=>True) (e:=e) (A:=A.in1) (s:=s) r q λ i x y u v B e2 C D=>(he i x y B e2).at I C D (by have:=qx7 A;lia)
   have z:=RcAt.lists p l w (by lia) k;have q2:=RcNeAt.lists p l w (by lia) k;rw[zA4,<- r.length] at z q2;exact⟨z,q2⟩
 | @lens a b xs ys f n hl =>
   cases d;cases c;obtain⟨g,r,p⟩:=I.lstI f;obtain⟨its2,q,l⟩:=I.lstI n;have w:(g.toArray.size != its2.toArray.size)=true:=by rw[zA4,zA4,<- r.length,<- q.length];simpa using hl
   exact⟨RcAt.lists_lengths p l w (by lia),RcNeAt.lists_lengths p l w (by lia)⟩
 | @tups a b xs ys e f n he =>
   cases d;cases c;obtain⟨g,r,p⟩:=I.tupI f;obtain⟨its2,q,l⟩:=I.tupI n;have k:=qU0 (P:=λ _ _ _=>True) (e:=e) (A:=A.in1) (s:=s) r q λ i x y u v B e2 C D=>(he i x y B e2).at I C D (by have:=qx7 A;lia)
   have z:=RcAt.tuples p l (by lia) k;have q2:=RcNeAt.tuples p l (by lia) k;rw[zA4,zA4,<- r.length,<- q.length] at z q2;exact⟨z,q2⟩
 | lt f n =>
   cases d;cases c;obtain⟨g,r,p⟩:=I.lstI f;obtain⟨its2,q,l⟩:=I.tupI n;exact⟨RcAt.list_tuple p l (by lia),RcNeAt.list_tuple p l (by lia)⟩
 | tl f n =>
   cases d;cases c;obtain⟨g,r,p⟩:=I.tupI f;obtain⟨its2,q,l⟩:=I.lstI n;exact⟨RcAt.tuple_list p l (by lia),RcNeAt.tuple_list p l (by lia)⟩
 | lf f o =>
   cases d;obtain⟨g,r,p⟩:=I.lstI f;cases y with
   | non=>cases c;exact⟨RcAt.list_none p (by lia),RcNeAt.list_none p (by lia)⟩
   | bl b=>cases c;exact⟨RcAt.list_bool b p (by lia),RcNeAt.list_bool b p (by lia)⟩
   | int b=>obtain⟨t,rfl⟩:=c;exact⟨RcAt.list_int b t p (by lia),RcNeAt.list_int b t p (by lia)⟩
   | str b=>obtain⟨t,rfl⟩:=c;exact⟨RcAt.list_str b t p (by lia),RcNeAt.list_str b t p (by lia)⟩
   | _=>exact absurd (show false=true from o) zAc
 | fl f o =>
   cases c;obtain⟨g,r,p⟩:=I.lstI f;cases x with
   | non=>cases d;exact⟨RcAt.none_list p (by lia),RcNeAt.none_list p (by lia)⟩
   | bl b=>cases d;exact⟨RcAt.bool_list b p (by lia),RcNeAt.bool_list b p (by lia)⟩
   | int b=>obtain⟨t,rfl⟩:=d;exact⟨RcAt.int_list b t p (by lia),RcNeAt.int_list b t p (by lia)⟩
   | str b=>obtain⟨t,rfl⟩:=d;exact⟨RcAt.str_list b t p (by lia),RcNeAt.str_list b t p (by lia)⟩
   | _=>exact absurd (show false=true from o) zAc
 | tf f o =>
   cases d;obtain⟨g,r,p⟩:=I.tupI f;cases y with
   | non=>cases c;exact⟨RcAt.tuple_none p (by lia),RcNeAt.tuple_none p (by lia)⟩
   | bl b=>cases c;exact⟨RcAt.tuple_bool b p (by lia),RcNeAt.tuple_bool b p (by lia)⟩
   | int b=>obtain⟨t,rfl⟩:=c;exact⟨RcAt.tuple_int b t p (by lia),RcNeAt.tuple_int b t p (by lia)⟩
   | str b=>obtain⟨t,rfl⟩:=c;exact⟨RcAt.tuple_str b t p (by lia),RcNeAt.tuple_str b t p (by lia)⟩
   | _=>exact absurd (show false=true from o) zAc
 | ft f o =>
   cases c;obtain⟨g,r,p⟩:=I.tupI f;cases x with
   | non=>cases d;exact⟨RcAt.none_tuple p (by lia),RcNeAt.none_tuple p (by lia)⟩
   | bl b=>cases d;exact⟨RcAt.bool_tuple b p (by lia),RcNeAt.bool_tuple b p (by lia)⟩
   | int b=>obtain⟨t,rfl⟩:=d;exact⟨RcAt.int_tuple b t p (by lia),RcNeAt.int_tuple b t p (by lia)⟩
   | str b=>obtain⟨t,rfl⟩:=d;exact⟨RcAt.str_tuple b t p (by lia),RcNeAt.str_tuple b t p (by lia)⟩
   | _=>exact absurd (show false=true from o) zAc
 | dcts f n =>
   cases d;cases c;obtain⟨F,K,m,E,G⟩:=I.dK0 f;obtain⟨L,M,R,N,O⟩:=I.dK0 n;cases G rfl;cases O rfl;exact LD.qas4 F L E N (by lia)
 | dt f n =>
   cases d;cases c;obtain⟨F,K,m,E,G⟩:=I.dK0 f;obtain⟨its2,q,l⟩:=I.tupI n;exact LD.rc_dt E l (by lia)
end
def rEqD:R2:=λ x y H Q=>∃ b,RcD H x y b/\Q (.bl b) H
def rNeD:R2:=λ x y H Q=>∃ b,RcD H x y b/\Q (.bl (!b)) H
theorem qv2{X:Cx}(e:X.A.units+64 < cLine):OpR X (compareOp .Eq) rEqD:=by
 intro Gm s σ H x y v u Q I a c ⟨b,d,q⟩;exact(d.at I a c (A:=X.A) (by lia)).1 X.prog X.w X.xe _ ⟨.bl b,H,I,rfl,q⟩
theorem qr9{X:Cx}(e:X.A.units+64 < cLine):OpR X (compareOp .NotEq) rNeD:=by
 intro Gm s σ H x y v u Q I a c ⟨b,d,q⟩;exact(d.at I a c (A:=X.A) (by lia)).2 X.prog X.w X.xe _ ⟨.bl (!b),H,I,rfl,q⟩
theorem qB9:∀{x:V},flatV x=true->eqV x x=true:=by
 intro x h;cases x with
 | non=>rfl
 | bl b=>simp[eqV]
 | int b=>simp[eqV]
 | str b=>simp[eqV]
 | _=>exact absurd (show false=true from h) zAc
theorem Room.u64{k:Nat}(a:Room k A):A.units+64 < cLine:=a.units
end L2
namespace L2
open PySem PySem.Spec PyProof.Rows
variable{vs:Array Value}
structure Cl(K:PySem.W.Frag)(mg:Str->Option Value)(x:Str)(C:Addr):Prop where
 cl:Cls K C
 m:mg x=some (.ref C)
structure Md(K:PySem.W.Frag)(C:Addr)(m qual:Str)(st:Stmt)(f:Addr)(fd:FuncData)(ps:List Str):Prop where
 F:Fun K m qual st f fd
 b:Binds K fd ps []
 me:K7 K C m f
 isf:PySem.W.isFn K (.ref f)=true
theorem mdmk{K:PySem.W.Frag}{C:Addr}{m qual:Str}{st:Stmt}{f:Addr}{ps:List Str}{oc:Value}{od e:Option Addr}{n:Array (Option Value)}{kV d g b j:Value}(l:K.lookup f=some ⟨oc,od,.func (PySem.W.fnOf m qual (qf0 st) (qc9 st) (qa3 st) .none kV d g e b j),n⟩)(c:PySem.W.codeIn K b qual=true)(k:PySem.W.keepIn K (.ref f)=true)(a:PySem.W.findIn K (.ref C) m=some (some (.ref f)))(i:PySem.W.isFn K (.ref f)=true)(h:∀(kV d g:Value)(e:Option Addr)(b j:Value)(us:List Value),us.length=ps.length->bindArgs (PySem.W.fnOf m qual (qf0 st) (qc9 st) (qa3 st) .none kV d g e b j) ⟨us,[]⟩=pure (ps.zip us)) :
   Md K C m qual st f (PySem.W.fnOf m qual (qf0 st) (qc9 st) (qa3 st) .none kV d g e b j) ps:=⟨qao5 l c k,(qao5 l c k).binds h,⟨a,i,k⟩,i⟩
section
variable{M:Model}{A:Around}{E:Value->Shared->Prop}{s:Shared}
structure Left(h h':Heap)(f:List Addr)(e T:Addr)(oe:Obj)(old:Option Value):Prop where
 new:h.objs.size<=T
 keep:∀ b o,h.get? b=some o->b≠e->old≠some (.ref b)->b∉f->h'.get? b=some o
 slot:∀ b o,h.get? b=some o->b∈f->∃ sl,h'.get? b=some { o with slots:=sl }
 there:∀ b o,h.get? b=some o->∃ o',h'.get? b=some o'
 exc:∃ vs oT ts,h'.get? e=some { oe with data:=.fields vs }/\1 < vs.size/\vs[1]? = some (.ref T)/\T≠e/\h'.get? T=some oT/\oT.data=.fields ts/\ts[3]? = some .none
theorem qat4{o:Obj}(e:o.data=.fields vs)(g:Array Value->Array Value):Obj.mapFields g o={ o with data:=.fields (g vs) }:=by
 obtain⟨a,b,c,d⟩:=o;cases e;rfl
theorem qN8{base:Heap}{env:Env}{outer:List Env}{L e:Addr}{oe:Obj}{d:Value}{R:Bool}{old:Option Value}{Q:Unit->Shared->Prop}(n:A.frames=some (env::outer))(C:s.heap.FunFrames base (env::outer))(S:env.frame=some L)(m:s.heap.get? e=some oe)(i:oe.data=.fields vs)(hsz:1 < vs.size)(h:∀ h' T,Left s.heap h' ((env::outer).filterMap (·.frame)) e T oe old->Q () { s with heap:=h' }) :
   wpAny M A (do let a <- frameOf env;let pl <- entryPlaceOf L R;let b <- EntryCells.newEntry d a .none (rawInt L) .none pl;setField (.ref e) 1 b)
     (λ _ s'=>wpAny M A (setFlight (.ref e) none) Q E s') E s:=by
 have j:∀ b o p,s.heap.get? b=some o->o.data=.fields p->b∉(env::outer).filterMap (·.frame):=λ b o p q q2 r=>by
   obtain⟨_,Y,D,U⟩:=C.mem r;rw[q] at D;cases D;exact U p q2
 refine wpAny_bind (wpAny_frameOf_fun n C S λ c q=>?_);refine wpAny_bind (wpAny_entryPlaceOf λ pl t=>?_);unfold EntryCells.newEntry newFields;refine wpAny_bind (wpAny_newObj_type ?_ (t.sizeOk5 _ _ _ _ _));obtain⟨V,F,G⟩:=q;have H:c.get? e=some oe:=(F e (j e oe vs m i)).trans m;generalize k:({ cls:=.type "traceback",dict:=none,data:=.fields ([d,.ref L,.none,rawInt L,.none]++(if pl.isEmpty then List.replicate 6 Value.none else pl)).toArray }:Obj)=oT;have l:∃ u,oT.data=.fields u/\3 < u.size:=by
   refine⟨([d,.ref L,.none,rawInt L,.none]++(if pl.isEmpty then List.replicate 6 Value.none else pl)).toArray,by rw[<- k],?_⟩;simp only[zA4,zA7,zAn,zBy];lia
 have W:oT.isFreed=false:=by rw[<- k];rfl
 obtain⟨u,l,I⟩:=l;have e2:=zA2 (h:=c) oT H;refine wpAny_setField e2 i hsz ?_;have v:c.objs.size≠e:=Nat.ne_of_gt (zA8 H);have J:=Obj.data_mapFields i (·.setIfInBounds 1 (Value.ref c.objs.size));have K:=zBi (Obj.mapFields (·.setIfInBounds 1 (Value.ref c.objs.size))) e2 (Obj.isFreed_of_fields J);have N:((c.push oT).update e (Obj.mapFields (·.setIfInBounds 1 (Value.ref c.objs.size)))).get? c.objs.size=some oT:=(zB4 _ _ (Ne.symm v)).trans (zAt c W);unfold setFlight;refine wpAny_bind (wpAny_field K J (x:=.ref c.objs.size) (by simp[hsz]) ?_);rw[if_pos (show (Value.ref c.objs.size != Value.none)=true from by simp)];refine wpAny_setField N l I (h _ c.objs.size ?_);have keep:∀ b o,b≠e->c.get? b=some o->(((c.push oT).update e (Obj.mapFields (·.setIfInBounds 1 (Value.ref c.objs.size)))).update c.objs.size (Obj.mapFields (·.setIfInBounds 3 ((none:Option Addr).elim Value.none λ f=>rawInt f)))).get? b=some o:=λ b o w y=>by
   rw[zB4 _ _ (Nat.ne_of_gt (zA8 y)),zB4 _ _ (Ne.symm w)];exact zA2 _ y
 have O:(((c.push oT).update e (Obj.mapFields (·.setIfInBounds 1 (Value.ref c.objs.size)))).update c.objs.size (Obj.mapFields (·.setIfInBounds 3 ((none:Option Addr).elim Value.none λ f=>rawInt f)))).get? e=some { oe with data:=.fields (vs.setIfInBounds 1 (Value.ref c.objs.size)) }:=by
   rw[zB4 _ _ v,K,qat4 i]
 refine⟨Nat.le_of_eq V.symm,λ b o g w y X=>keep b o w ((F b X).trans g),λ b o g r=>?_,λ b o g=>?_,_,_,_,O,by simpa using hsz,by simp[hsz],v,zBi _ N (Obj.isFreed_of_fields (Obj.data_mapFields l _)),Obj.data_mapFields l _,by simp[I]⟩
 . obtain⟨P,B⟩:=G b o g
   refine⟨P,keep b _ (λ z=>?_) B⟩;subst z;rw[m] at g;cases g;exact j b _ vs m i r
 obtain⟨P,B⟩:=G b o g;by_cases z:b=e
 . subst z;exact⟨_,O⟩
 exact⟨_,keep b _ z B⟩
theorem qM7{base:Heap}{env:Env}{outer:List Env}{L e:Addr}{oe:Obj}{Q:Unit->Shared->Prop}(d:A.frames=some (env::outer))(p:s.heap.FunFrames base (env::outer))(r:env.frame=some L)(g:s.heap.get? e=some oe)(i:oe.data=.fields vs)(hsz:1 < vs.size)(B:vs[1]? = some .none∨∃ T j ts,vs[1]? = some (.ref T)/\T≠e/\s.heap.get? T=some j/\j.data=.fields ts/\ts[3]? = some .none)(h:∀ h' T,Left s.heap h' ((env::outer).filterMap (·.frame)) e T oe vs[1]? -> Q () { s with heap:=h' }) :
   wpAny M A (noteFrame (.ref e) env) (λ _ s'=>wpAny M A (setFlight (.ref e) none) Q E s') E s:=by
 unfold noteFrame;simp only[r];rcases B with k | ⟨T,j,ts,k,t,f,c,x⟩
 . refine wpAny_bind (wpAny_field g i k ?_)
   rw[if_neg (by decide)];exact qN8 (old:=vs[1]?) d p r g i hsz h
 refine wpAny_bind (wpAny_field g i k ?_);rw[if_pos (show (Value.ref T != Value.none)=true from by simp)];refine wpAny_bind (wpAny_field f c x ?_);rw[if_neg (show ¬ ((Value.none == rawInt L)=true) from by simp[rawInt])];have C:=(Array.getElem?_eq_some_iff.mp x).1;refine wpAny_bind (wpAny_setField f c C ?_);have other:∀ b,b≠T->(s.heap.update T (Obj.mapFields (·.setIfInBounds 3 Value.none))).get? b=s.heap.get? b:=λ b a=>zB4 _ _ (Ne.symm a)
 have D:∀ b∈(env::outer).filterMap (·.frame),b≠T:=λ b l z=>by
   obtain⟨_,K,m,n⟩:=p.mem l;subst z;rw[f] at m;cases m;exact n ts c
 have F:(s.heap.update T (Obj.mapFields (·.setIfInBounds 3 Value.none))).get? T=some { j with data:=.fields (ts.setIfInBounds 3 .none) }:=by
   rw[zBi _ f (Obj.isFreed_of_fields (Obj.data_mapFields c _)),qat4 c]
 have v:(s.heap.update T (Obj.mapFields (·.setIfInBounds 3 Value.none))).FunFrames base (env::outer):=p.of_keeps λ b o a w=>⟨o,(other b λ z=>by subst z;rw[f] at a;cases a;exact w ts c).trans a,rfl⟩
 refine qN8 (s:={ s with heap:=s.heap.update T (Obj.mapFields (·.setIfInBounds 3 Value.none)) }) (old:=vs[1]?) d v r ((other e (Ne.symm t)).trans g) i hsz λ h' T' q=>h h' T' ?_
 obtain⟨G,q2,m,n,H⟩:=q;refine⟨by rwa[show (s.heap.update T (Obj.mapFields (·.setIfInBounds 3 Value.none))).objs.size=s.heap.objs.size from Heap.size_update _ _ _] at G,λ b o a I y J=>?_,λ b o a l=>m b o ((other b (D b l)).trans a) l,λ b o a=>?_,H⟩
 . exact q2 b o ((other b λ z=>y (by rw[k,z])).trans a) I y J
 by_cases z:b=T
 . subst z;exact n _ _ F
 exact n b o ((other b z).trans a)
end
end L2
namespace L2
open PySem PySem.Spec PyProof.Rows Builtin Builtin.ObjectAttr
variable{ox:Obj}
noncomputable def L6:List Value->Bool
 | .ref _::r=>L6 r
 | .type n::r=>Value.type n::r == [.type "ValueError",.type "Exception",.type "BaseException",.type "object"]
 | _=>false
theorem qR3(self:Value):∀{l:List Value},L6 l=true->refuseLoop self "__setattr__" l=pure ():=by
 intro l
 induction l with
 | nil=>intro e;cases e
 | cons c r b =>
   intro e;cases c with
   | ref a=>rw[refuseLoop_ref];exact b e
   | type n=>rw[show (Value.type n::r)=[.type "ValueError",.type "Exception",.type "BaseException",.type "object"] from zBj.mp e];exact PySem.F.store_ValueError.passes self
   | _=>cases e
structure Exc(K:PySem.W.Frag)(C:Addr):Prop where
 mro:(PySem.W.clsIn K C).any (λ cd=>L6 cd.mro)=true
 hd:PySem.W.hasDictIn K C=true
 kts:PySem.W.ktsIn K C "ValueError" = true
 sa:PySem.W.findIn K (.ref C) "__setattr__" = some (some (.builtin "object.__setattr__"))
 ga:PySem.W.findIn K (.ref C) "__getattribute__" = some (some (.builtin "BaseException.__getattribute__"))
 gt:PySem.W.findIn K (.ref C) "__getattr__" = some none
 be:PySem.W.mroIn K C (.type "BaseException")=some true
 ob:PySem.W.mroIn K C (.type "object")=some true
 ty:PySem.W.typeIn K (.ref C)=some (.type "type")
section
variable{prog:Program}{w:World}{A:Around}{E:Value->Shared->Prop}{s:Shared}{K:PySem.W.Frag}{x C:Addr}{name:Str}{v:Value}
theorem qav1{R:Result->Shared->Prop}{od:Option Obj}{a:Tok}(X:K.In s.heap)(I:PySem.W.InstAt s.heap x ox C od)(c:Exc K C)(b:PySem.W.findIn K (.ref C) name=some none)(h:wpAny (model prog w) A.in1 (storeInOwnDict (.ref x) (.ref C) (.str name a) name v false)
     (λ fin s'=>match fin with | .done f=>R (.ok f) s' | .again c'=>c'.quiet=true/\codeAny (model prog w) A c' R s') (λ e s'=>R (.error e) s') s) :
   codeAny (model prog w) A (.call (.builtin "object.__setattr__") ⟨[.ref x,.str name a,v],[]⟩) R s:=by
 have SF:=PySem.F.store_object;obtain⟨d,g,i⟩:=PySem.W.any_some c.mro;have sub:PySem.W.Looks (model prog w) s.heap (isInstance (.ref x) (.type "object")) true:=I.type.andThen (PySem.W.looks_mroIn X c.ob);refine codeAny_call_builtin SF.slot.plain SF.entry (@PySem.W.check_slot (model prog w) _ _ s "object.__setattr__" "object" "__setattr__" (.ref x) [.str name a,v] [] _ SF.kind SF.split sub (SF.args (.ref x) (.str name a) v) ?_);have j:PySem.W.Looks (model prog w) s.heap (mroOf (.ref C)) d.mro:=(PySem.W.looks_clsIn X g).andThen .now;rw[PySem.W.osa_eq,refuse_eq];refine wpAny_bind (wpAny_bind (I.type.here (wpAny_bind (j.here ?_))));rw[qR3 _ i];exact wpAny_pure (wpAny_bind (I.type.here (wpAny_bind ((PySem.W.looks_findIn X b).here (wpAny_bind (wpAny_pure h))))))
theorem qaC1{Q:Unit->Shared->Prop}{vs:Array Value}(X:K.In s.heap)(c:Exc K C)(i:s.heap.get? x=some ox)(a:ox.cls=.ref C)(d:ox.data=.fields vs)(f:ox.dict=none)(u:PySem.W.findIn K (.ref C) name=some none)(h:∀ h' j,h'.get? x=some { ox with dict:=some s.heap.objs.size }->h'.Ns1 s.heap.objs.size (λ y=>if y=name then some v else none)->(∀ b o,b≠x->s.heap.get? b=some o->h'.get? b=some o)->Q () { s with heap:=h',toks:=j }) :
   wpAny (model prog w) A (setAttr (.ref x) name v) Q E s:=by
 obtain⟨M,z,B,g⟩:=ox;dsimp only at a d f;subst a d f;have I:PySem.W.InstAt s.heap x ⟨.ref C,none,.fields vs,g⟩ C none:=⟨i,rfl,rfl,True.intro⟩
 refine PySem.W.set_plain X I c.sa (qav1 (s:={ s with toks:=s.toks+1 }) X I c u ?_);obtain⟨N,D,k⟩:=PySem.W.any_some c.hd;refine wpAny_bind (wpAny_pure (wpAny_bind (wpAny_bind (wpAny_loadPart i (wpAny_bind (PySem.W.Looks.here (s:={ s with toks:=s.toks+1 }) (PySem.W.looks_clsIn X D) ?_))))));rw[k];have p:(s.heap.push { cls:=.type "dict",data:=.dict #[] }).get? x=some ⟨.ref C,none,.fields vs,g⟩:=zA2 _ i;have q:x≠s.heap.objs.size:=zAh (zA8 i);simp only[Bool.not_true,Bool.false_eq_true,if_false];rw[if_neg (by simp[typeHasDict])];refine wpAny_bind (wpAny_alloc ?_);refine wpAny_bind (wpAny_update p (wpAny_pure ?_));have gd:((s.heap.push { cls:=.type "dict",data:=.dict #[] }).update x λ o=>{ o with dict:=some s.heap.objs.size }).get? s.heap.objs.size=some { cls:=.type "dict",data:=.dict #[] } :=
   (Heap.get?_update_ne _ _ _ _ (Ne.symm q)).trans (Heap.get?_push_at rfl rfl)
 have F:((s.heap.push { cls:=.type "dict",data:=.dict #[] }).update x λ o=>{ o with dict:=some s.heap.objs.size }).Ns s.heap.objs.size (λ _=>none) :=
   ⟨_,#[],_,gd,rfl,λ e G=>absurd G (by simp),λ _=>rfl⟩
 show wpAny _ _ (storeInDict s.heap.objs.size (.str name s.toks) name v) _ _ _;unfold storeInDict newKeyGuard;refine wpAny_bind (wpAny_pure (wpAny_bind (wpAny_nsSet1 (Heap.Ns1.of_empty F) λ h' r t=>?_)));obtain⟨O,H,J,l,m,n⟩:=r.count (Within.cons name v Within.nil);refine wpAny_bind (wpAny_lookBehind l (by rw[m];exact pastItsLine_dict (zAm n (by rw[zAn,zBy,sizeLine_eq];lia))) ?_);refine wpAny_pure (h h' _ ?_ r λ b o L e=>?_)
 . exact(t.2 x q).trans (zBi _ p rfl)
 exact(t.2 b (zAh (zA8 e))).trans ((Heap.get?_update_ne _ _ _ _ L).trans (zA2 _ e))
theorem qaC0{Q:Unit->Shared->Prop}{vs:Array Value}{dx:Addr}{mA:Str->Option Value}{ns:List Str}(X:K.In s.heap)(c:Exc K C)(q:s.heap.get? x=some ox)(d:ox.cls=.ref C)(f:ox.data=.fields vs)(g:ox.dict=some dx)(r:s.heap.Ns1 dx mA)(u:Within mA ns)(N:ns.length<=1000)(z:PySem.W.findIn K (.ref C) name=some none)(h:∀ h' i,h'.Ns1 dx (λ y=>if y=name then some v else mA y)->(∀ b o,b≠dx->s.heap.get? b=some o->h'.get? b=some o)->Q () { s with heap:=h',toks:=i }) :
   wpAny (model prog w) A (setAttr (.ref x) name v) Q E s:=by
 obtain⟨O,B,D,j⟩:=ox;dsimp only at d f g;subst d f g;obtain⟨F,k,_⟩:=qy1 r;have I:PySem.W.InstAt s.heap x ⟨.ref C,some dx,.fields vs,j⟩ C (some F):=⟨q,rfl,rfl,k⟩
 refine PySem.W.set_plain X I c.sa (qav1 (s:={ s with toks:=s.toks+1 }) X I c z ?_);obtain⟨P,G,l⟩:=PySem.W.any_some c.hd;refine wpAny_bind (wpAny_pure (wpAny_bind (wpAny_bind (wpAny_loadPart q (wpAny_bind (PySem.W.Looks.here (s:={ s with toks:=s.toks+1 }) (PySem.W.looks_clsIn X G) ?_))))));rw[l];refine wpAny_pure (a:=some dx) (wpAny_bind (wpAny_pure (wpAny_bind ?_)));refine wpAny_nsSet1 (s:={ s with toks:=s.toks+1 }) r λ h' t H=>?_
 obtain⟨R,J,L,m,n,p⟩:=t.count (Within.cons name v u);refine wpAny_bind (wpAny_lookBehind m (by rw[n];exact pastItsLine_dict (zAm p (by rw[zAn,sizeLine_eq];lia))) ?_);exact wpAny_pure (h h' _ t λ b o M e=>(H.2 b M).trans e)
theorem qaM1{Q:Value->Shared->Prop}{od:Obj}{expr:Bool}(X:K.In s.heap)(c:Exc K C)(I:PySem.W.InstAt s.heap x ox C (some od))(b:PySem.W.findObj K C (some od) name=some (.value v))(e:PySem.W.handedIn v=true)(h:∀ a,Q v { s with toks:=a }):wpAny (model prog w) A (getAttr (.ref x) name expr) Q E s:=by
 have FB:=PySem.F.excAttr_ValueError;obtain⟨f,g,d,t,l⟩:=s;have L0:=I.type (M:=model prog w);have L1:=PySem.W.looks_findIn (M:=model prog w) X c.ga;have L2:=PySem.W.looks_findIn (M:=model prog w) X c.gt;have L3:=PySem.W.looks_find (M:=model prog w) X I b;have sub:PySem.W.Looks (model prog w) f (isInstance (.ref x) (.type "BaseException")) true:=L0.andThen (PySem.W.looks_mroIn X c.be);have i:builtinKind "BaseException.__getattribute__" = some .slot:=by decide +kernel
 have j:splitId "BaseException.__getattribute__" = some ("BaseException", "__getattribute__"):=by decide +kernel
 unfold getAttr getAttrBy;refine wpAny_bind (wpAny_mkText (wpAny_holding (wpAny_bind (L0.at (wpAny_bind (L1.at ?_))))));dsimp only;have k:(Value.builtin "BaseException.__getattribute__" == Value.builtin "object.__getattribute__")=false:=by decide +kernel
 rw[k,zBg,if_neg zAc];unfold getAttrByItsOwn hookBefore;refine wpAny_bind ?_;rw[if_pos (by rfl)];refine L2.at ?_;unfold callGetattribute boundAndCalled;rw[if_neg (by cases expr<;>decide)];refine wpAny_bind (wpAny_attempt (wpAny_holding ?_));rw[FB.ga.bind (.ref x)];refine wpAny_bind (wpAny_pure (wpAny_call ?_));refine codeAny_call_builtin FB.ga.plain PySem.F.entry_bexc_ga (@PySem.W.check_slot (model prog w) _ _ _ "BaseException.__getattribute__" "BaseException" "__getattribute__" (.ref x) [.str name t] [] _ i j sub (PySem.F.args_bexc_ga (.ref x) (.str name t)) ?_);unfold Builtin.«object.__getattribute__»;refine wpAny_bind (wpAny_pure (wpAny_bind (wpAny_pure (wpAny_bind (L0.at (wpAny_bind (L3.at ?_)))))));refine wpAny_pure ?_;show wpAny _ _ (handedOut v) _ _ _;rw[PySem.W.handedOut_of e];exact wpAny_pure (h _)
end
end L2
namespace L2
open PySem PySem.Spec PyProof.Rows
variable{Q:Unit->Shared->Prop}{fr:Bool}{xe:Value->Shared->Prop}
noncomputable abbrev mroVE:List Value:=[.type "ValueError",.type "Exception",.type "BaseException",.type "object"]
def Jw(K:PySem.W.Frag)(C:Addr):Bool:=match K.lookup C with
 | some ⟨.type "type",_,.cls cd,sl⟩=>(match cd.mro,sl.toList with
   | .ref C'::bm,[_,_,_,_,some (.builtin n),_]=>C' == C&&n == "ValueError.__new__" && !cd.hasDel&&PySem.W.tailIn K mroVE bm
   | _,_=>false)
 | _=>false
theorem qaj6{K:PySem.W.Frag}{h:Heap}{C:Addr}(X:K.In h)(q:Jw K C=true):∃ e f N g d c i sub j b dd k m o p r,
   h.get? C=some (excClassObj e f C N g d c i sub j b dd k m o p r "ValueError.__new__")/\OwnTail h mroVE d:=by
 unfold Jw at q;split at q
 . rename_i dd cd sl ho
   split at q
   . rename_i C' d k m o p n r hm hs
     simp only[zB8,zBj,Bool.not_eq_true'] at q;obtain⟨⟨⟨rfl,rfl⟩,a⟩,s⟩:=q;obtain⟨e,g,t,u,f,v,i,sub,j,b,w⟩:=cd;dsimp only at hm a;subst hm a;obtain⟨l⟩:=sl;dsimp only at hs;subst hs;exact⟨e,f,u,g,d,v,i,sub,j,b,dd,k,m,o,p,r,X _ _ ho,PySem.W.tail_of_in X s⟩
   cases q
 cases q
section
variable{prog:Program}{w:World}{A:Around}{K:PySem.W.Frag}{C fI:Addr}{h:Heap}{g:Array GenState}{d:Drawn}{t:Nat}{os:OsState}
theorem qap2{rest:List Value}{Q:Fin->Shared->Prop}{E:Value->Shared->Prop}(X:K.In h)(m:Jw K C=true)(hi:PySem.W.findIn K (.ref C) "__init__" = some (some (.ref fI)))(i:PySem.W.typeIn K (.ref fI)=some (.type "function"))(hrest:rest.length<=sizeLine)(j:wpAny (model prog w) A (call (.ref fI) (.ref (h.objs.size+1)::rest)) (λ r s'=>r=.none/\Q (.done (.ret (.ref (h.objs.size+1)))) s') E
     ⟨(h.push { cls:=.type "tuple",data:=.seq rest.toArray }).push { cls:=.ref C,data:=.fields #[.ref h.objs.size,.none,.none,.none,.bool false,.none] },g,d,t,os⟩) :
   wpAny (model prog w) A (Builtin.«type.__call__» ⟨.ref C::rest,[]⟩) Q E ⟨h,g,d,t,os⟩:=by
 have F:=PySem.F.excBase_ValueError;obtain⟨v,x,N,y,k,f,B,sub,D,l,G,H,I,J,L,O,a,T⟩:=qaj6 X m
 repeat (first | with_reducible refine wpAny_loadPart_at a ?_ | with_reducible refine wpAny_madeBy_exc a ?_ | wp_step)
 refine codeAny_call_builtin_code (Code.quiet_builtin _ F.quiet) (wpAny_check_new_subT F T a ?_);refine codeAny_exc_new_subT F T a ?_ hrest;show wpAny _ _ _ _ _ _;have c:∀ b o,h.get? b=some o->((h.push { cls:=.type "tuple",data:=.seq rest.toArray }).push { cls:=.ref C,data:=.fields #[.ref h.objs.size,.none,.none,.none,.bool false,.none] }).get? b=some o:=λ b o e=>zA2 _ (zA2 _ e)
 have n:=c _ _ a;have p:((h.push { cls:=.type "tuple",data:=.seq rest.toArray }).push { cls:=.ref C,data:=.fields #[.ref h.objs.size,.none,.none,.none,.bool false,.none] }).get? (h.objs.size+1)=some { cls:=.ref C,data:=.fields #[.ref h.objs.size,.none,.none,.none,.bool false,.none] }:=by heap_get
 have q:(Value.ref C::k).contains (.ref C)=true:=by simp
 unfold isInstance
 repeat (first | with_reducible refine wpAny_loadPart_at p ?_ | (with_reducible refine wpAny_isSubtype_exc n ?_;rw[q]) | wp_step)
 show wpAny _ _ (typeLookup (.ref C) _) _ _ _;have s:=(PySem.W.looks_findIn (M:=model prog w) X hi).keeps c;have u:=(PySem.W.bind_fn (M:=model prog w) X (.ref (h.objs.size+1)) i).keeps c;refine s.at (wpAny_holding (wpAny_bind (u.at (wpAny_bind (wpAny_mono j (λ r s' z=>?_) λ _ _ z=>z)))));obtain⟨rfl,z⟩:=z;exact wpAny_pure (wpAny_pure z)
theorem qaC2{rest:List Value}{Q E:Value->Shared->Prop}(X:K.In h)(m:Jw K C=true)(hi:PySem.W.findIn K (.ref C) "__init__" = some (some (.ref fI)))(c:PySem.W.typeIn K (.ref fI)=some (.type "function"))(hrest:rest.length<=sizeLine)(e:wpAny (model prog w) (A.under (.builtin "type.__call__" ⟨.ref C::rest,[]⟩)) (call (.ref fI) (.ref (h.objs.size+1)::rest)) (λ r s'=>r=.none/\Q (.ref (h.objs.size+1)) s') E
     ⟨(h.push { cls:=.type "tuple",data:=.seq rest.toArray }).push { cls:=.ref C,data:=.fields #[.ref h.objs.size,.none,.none,.none,.bool false,.none] },g,d,t,os⟩) :
   wpAny (model prog w) A (call (.ref C) rest) Q E ⟨h,g,d,t,os⟩:=by
 obtain⟨i,j,N,k,l,b,n,sub,o,f,p,q,s,u,v,x,a,T⟩:=qaj6 X m;have f1:=tc_lookup;have f2:=tc_bind (.ref C);have y:(⟨h,g,d,t,os⟩:Shared).TypeIs (.ref C) "type" := ⟨_,a,rfl⟩
 refine wpAny_call (codeAny_of_tree ?_);show wpAny _ _ (callAny (.ref C) _) _ _ _
 repeat (any_goals (first | assumption | with_reducible refine wpAny_loadPart_at a ?_ | wp_step))
 refine⟨rfl,?_⟩;exact codeAny_call_builtin_at (Code.quiet_builtin _ (by decide +kernel)) entry_typeCall (wpAny_check_type_call_sub a (qap2 X m hi c hrest e))
end
section
variable{M:Model}{A:Around}{E:Value->Shared->Prop}{s:Shared}{env:Env}
theorem qae8{K:PySem.W.Frag}{x:Sem Value}{Q:Flow->Shared->Prop}(l:A.handled=none)(h:wpAny M A x (λ v s₁=>∃ e oe vs C,v=.ref e/\K.In s₁.heap/\Exc K C/\s₁.heap.get? e=some oe/\oe.cls=.ref C/\oe.data=.fields vs/\vs[1]? = some .none/\E (.ref e) s₁) E s) :
   wpAny M A (raiseStmt env (some x) none) Q E s:=by
 unfold raiseStmt;refine wpAny_bind (wpAny_mono h (λ v s₁ q=>?_) λ _ _ x=>x);obtain⟨e,oe,vs,C,rfl,X,c,i,a,b,m,n⟩:=q;obtain⟨y,o,p,r⟩:=oe;dsimp only at a b;subst a b;obtain⟨z,B,N,D,t,j,F,sub,G,u,H,I,J,L,O,P,newId,k,w,_⟩:=PySem.W.kts_cls X c.kts;obtain⟨R,g,d,S,T⟩:=s₁;have f:(Value.ref C::t).contains (.type "BaseException")=true:=by rw[List.contains_cons,w,Bool.or_true]
 repeat (first | with_reducible refine wpAny_loadPart_at i ?_ | with_reducible refine wpAny_loadPart_at k ?_ | (with_reducible refine wpAny_isSubtype_exc k ?_;rw[f]) | with_reducible refine wpAny_field i rfl m ?_ | wp_step)
 exact wpAny_raiseNew_none l n
theorem qap4{K:PySem.W.Frag}{e C D:Addr}{oe:Obj}{b:Bool}{Q:Bool->Shared->Prop}(X:K.In s.heap)(d:Exc K D)(k:s.heap.get? e=some oe)(a:oe.cls=.ref C)(hm:PySem.W.mroIn K C (.ref D)=some b)(h:Q b s) :
   wpAny M A (excMatches (.ref e) (.ref D)) Q E s:=by
 obtain⟨o,p,N,q,l,i,r,sub,t,m,u,v,w,x,y,z,newId,j,n,_⟩:=PySem.W.kts_cls X d.kts;have L:=PySem.W.looks_mroIn (M:=M) X hm;obtain⟨B,g,F,G,H⟩:=s;have c:(Value.ref D::l).contains (.type "BaseException")=true:=by rw[List.contains_cons,n,Bool.or_true]
 have f:=tc_notTuple;unfold excMatches
 repeat (first | (with_reducible refine wpAny_loadPart_at k ?_;rw[a]) | with_reducible refine wpAny_loadPart_at j ?_ | (with_reducible refine wpAny_isSubtype_exc j ?_;rw[c]) | with_reducible refine L.at ?_ | wp_step)
 cases b<;>(wp_walk;exact h)
end
def L7(e C:Addr)(od:Option Addr)(fr:Bool)(h:Heap):Prop:=∃ oe vs,h.get? e=some oe/\oe.cls=.ref C/\oe.dict=od/\oe.data=.fields vs/\1 < vs.size/\(fr=true->vs[1]? = some .none)
noncomputable abbrev Be(e C:Addr)(od:Option Addr)(fr:Bool):HO:=.ext (L7 e C od fr)
def xdIs(d:Addr)(fs:List (Str×V))(h:Heap):Prop:=∃ mA,h.Ns1 d mA/\(∀ f,RelO (fs.lookup f) (mA f))/\PySem.Within mA (fs.map (·.1))/\fs.length<=1000
abbrev XD(d:Addr)(fs:List (Str×V)):HO:=.ext (xdIs d fs)
section
variable{P:Program}{w:World}{H:Hp}{h:Heap}
theorem qap3{e C:Addr}{od:Option Addr}(q:L7 e C od fr h):ObjOk P w H h e (Be e C od fr) :=
 ⟨q,let ⟨c,_,a,_⟩:=q;⟨c,a⟩,λ f g ⟨c,d,a,b⟩ k=>⟨c,d,k _ a,b⟩⟩
theorem xd_ok{d:Addr}{fs:List (Str×V)}(q:xdIs d fs h):ObjOk P w H h d (XD d fs) :=
 ⟨q,let ⟨_,⟨o,_,_,a,_⟩,_⟩:=q;⟨o,a⟩,λ g i ⟨c,⟨o,e,f,a,r⟩,b⟩ k=>⟨c,⟨o,e,f,k _ a,r⟩,b⟩⟩
theorem qN7{e C:Addr}{od:Option Addr}(a:HOk P w H h)(q:H e=some (Be e C od fr)):L7 e C od fr h:=(a e _ q).1
theorem L8{d:Addr}{fs:List (Str×V)}(a:HOk P w H h)(q:H d=some (XD d fs)):xdIs d fs h:=(a d _ q).1
end
section
variable{X:Cx}{Gm:List (Addr×Obj)}{σ:St}{H:Hp}{s:Shared}{a C dx:Addr}{fs:List (Str×V)}{f:Str}{v:V}{A:Around}{E:Value->Shared->Prop}
theorem qaC4{y:V}{u:Value}(I:Inv X Gm σ H s)(e:H a=some (Be a C none true))(c:Exc X.K C)(n:qc1 X.K C f)(J:RelV y u)(h:∀ dx s',H dx=none->dx≠a->Inv X Gm σ (upd (upd H dx (XD dx [(f,y)])) a (Be a C (some dx) true)) s'->Q () s'):wpAny (model X.prog X.w) A (setAttr (.ref a) f u) Q E s:=by
 obtain⟨W,L,v,x,M,B,N,O⟩:=qN7 I.hok e;refine qaC1 I.kIn c v x B M n λ Y p D q2 m=>?_
 have P:a≠s.heap.objs.size:=zAh (zA8 v);have k:H s.heap.objs.size=none:=I.hok.fresh (zA3 _);have R:∀ b o,s.heap.get? b=some o->b≠s.heap.objs.size:=λ b o z=>zAh (zA8 z)
 refine h s.heap.objs.size _ k (Ne.symm P) (I.un (t':=p) ⟨λ b o z i _ _=>m b o (λ d=>?_) z,λ b o z i _ _=>⟨o.slots,m b o (λ d=>?_) z⟩,λ b o z i _=>?_,λ b o z _=>?_,λ b F z=>?_,λ b Z F z=>?_,λ b ps z=>?_⟩ λ b S z=>?_)
 . rw[d,e] at i;cases i
 . rw[d,e] at i;cases i
 . rw[qb3 (λ d=>by rw[d,e] at i;cases i),qb3 (R b o z)];exact i
 . by_cases d:b=a
   . rw[d];exact⟨_,D⟩
   exact⟨o,m b o d z⟩
 . rw[qb3 (λ d=>by rw[d,e] at z;cases z),qb3 (qb8 z k)];exact z
 . rw[qb3 (λ d=>by rw[d,e] at z;cases z),qb3 (qb8 z k)];exact z
 . exact⟨#[],by rw[qb3 (λ d=>by rw[d,e] at z;cases z),qb3 (qb8 z k)];simpa using z⟩
 by_cases q:b=a
 . subst q
   rw[qb2] at z;cases z;exact qap3 ⟨_,L,D,x,rfl,B,N,O⟩
 rw[qb3 q] at z;by_cases G:b=s.heap.objs.size
 . subst G
   rw[qb2] at z;cases z;refine xd_ok ⟨_,q2,λ g=>?_,λ g T=>?_,by simp⟩
   . show RelO (([(f,y)]:List (Str×V)).lookup g) (if g=f then some u else none)
     by_cases l:g=f
     . subst l;rw[if_pos rfl];simp only[List.lookup,zBa];exact J
     have:(g == f)=false:=zBd.mpr l
     simp[List.lookup,this,l,RelO]
   by_cases l:g=f
   . simp[l]
   exact absurd (by show (if g=f then some u else none)=none;rw[if_neg l]) T
 rw[qb3 G] at z;refine(I.hok b S z).stay (λ t U j r=>m t U ?_ r) (λ t r=>?_) λ t F r=>?_
 . rcases j with rfl | j
   . exact q
   intro d;rw[d,e] at j;cases j
 . rw[qb3 (λ d=>by rw[d,e] at r;cases r),qb3 (qb8 r k)];exact r
 rw[qb3 (λ d=>by rw[d,e] at r;cases r),qb3 (qb8 r k)];exact r
theorem qaC3{y:V}{u:Value}(I:Inv X Gm σ H s)(e:H a=some (Be a C (some dx) true))(d:H dx=some (XD dx fs))(F:fs.length < 1000)(c:Exc X.K C)(n:qc1 X.K C f)(l:RelV y u)(h:∀ s',Inv X Gm σ (upd H dx (XD dx (Bi f y fs))) s'->Q () s'):wpAny (model X.prog X.w) A (setAttr (.ref a) f u) Q E s:=by
 obtain⟨G,J,m,p,t,v,L,M⟩:=qN7 I.hok e;obtain⟨i,B,r,j,_⟩:=L8 I.hok d;refine qaC0 I.kIn c m p v t B j (by rw[zAf];lia) n λ N b k q2=>h _ ?_
 refine I.write (x:=dx) (e:=dx) (t':=b) (by rw[d];exact True.intro) (.inl rfl) q2 (let ⟨o,_,_,z,_⟩:=k;⟨o,z⟩) (xd_ok ⟨_,k,λ g=>?_,λ g D=>?_,?_⟩)
 . show RelO ((Bi f y fs).lookup g) (if g=f then some u else i g)
   rw[qv6];by_cases q:g=f
   . rw[if_pos q,if_pos q];exact l
   rw[if_neg q,if_neg q];exact r g
 . by_cases q:g=f
   . rw[q];exact(qs4 f y fs).1
   refine(qs4 f y fs).2 g (j g λ z=>D ?_);show (if g=f then some u else i g)=none;rw[if_neg q];exact z
 have:=qv7 f y fs;lia
theorem qaM6{b:Bool}{Q:Value->Shared->Prop}(I:Inv X Gm σ H s)(e:H a=some (Be a C (some dx) fr))(p:H dx=some (XD dx fs))(c:Exc X.K C)(n:qc1 X.K C f)(l:fs.lookup f=some v)(h:∀ u s',Inv X Gm σ H s'->RelV v u->Q u s'):wpAny (model X.prog X.w) A (getAttr (.ref a) f b) Q E s:=by
 obtain⟨q,t,x,i,j,k,_⟩:=qN7 I.hok e;obtain⟨y,z,r,N,_⟩:=L8 I.hok p;obtain⟨u,B,m⟩:=RelO.some_of (v:=v) (o:=y f) (by rw[<- l];exact r f);obtain⟨D,F,d⟩:=qy1 z;obtain⟨O,G,L,g⟩:=q;dsimp only at i j k;subst i j k;have J:PySem.W.InstAt s.heap a ⟨.ref C,some dx,.fields t,g⟩ C (some D):=⟨x,rfl,rfl,F⟩
 exact qaM1 I.kIn c J (PySem.W.findObj_own c.hd n rfl (by rw[d,B])) (qW3 m) λ M=>h u _ (I.tok M) m
end
structure Fly(n:Nat)(H:Hp)(h:Heap)(a:Addr):Prop where
 ge:n<=a
 tr:∃ C od,H a=some (Be a C od false)
 ob:∃ oe vs,h.get? a=some oe/\oe.data=.fields vs/\1 < vs.size/\(vs[1]? = some .none∨∃ T oT ts,vs[1]? = some (.ref T)/\n<=T/\H T=none/\T≠a/\h.get? T=some oT/\oT.data=.fields ts/\ts[3]? = some .none)
theorem Fly.mono{m n:Nat}{H:Hp}{h:Heap}{a:Addr}(F:Fly n H h a)(l:m<=n):Fly m H h a:=by
 obtain⟨b,c,d,e,f,g⟩:=F.ob;refine⟨zAm l F.ge,F.tr,b,c,d,e,f,?_⟩;rcases g with z | ⟨T,i,j,k,o,z⟩
 . exact .inl z
 exact .inr ⟨T,i,j,k,zAm l o,z⟩
def CX1(P:Program)(w:World):CXT:=λ outer H s E e s'=>∃ a H',e=.ref a/\s'.os=s.os/\AllBare s'.gens/\Un (frs outer) [] H H' s.heap s'.heap/\HOk P w H' s'.heap/\Fly s.heap.objs.size H' s'.heap a/\E e none H'
structure Old(X:Cx)(Gm:List (Addr×Obj))(n:Nat):Prop where
 st:X.s₀.heap.objs.size<=n
 loc:X.env.locals < n
 cell:∀ x c,X.env.cells.lookup x=some c->c < n
 pin:∀ p∈X.pn++Gm,p.1 < n
theorem Inv.old{X:Cx}{Gm:List (Addr×Obj)}{σ:St}{H:Hp}{s:Shared}(I:Inv X Gm σ H s):Old X Gm s.heap.objs.size :=
 ⟨I.sz,I.lt,λ x c e=>let ⟨_,_,z,_⟩:=I.cell x c e;zA8 z,λ p a=>zA8 (I.pin p a).1⟩
noncomputable def Jx:Option Value->List Addr
 | some (.ref b)=>[b]
 | _=>[]
section
variable{X:Cx}{Gm:List (Addr×Obj)}{σ:St}{H:Hp}{s:Shared}{a T:Addr}{n:Nat}{h':Heap}{oe:Obj}{vs:Array Value}
theorem Inv.left(I:Inv X Gm σ H s)(F:Fly n H s.heap a)(O:Old X Gm n)(m:s.heap.get? a=some oe)(P:oe.data=.fields vs)(L:Left s.heap h' (frs X.stack) a T oe vs[1]?) :
   Inv X Gm σ H { s with heap:=h' }/\Fly n H h' a:=by
 obtain⟨C,Q,i⟩:=F.tr;obtain⟨t,y,D,q2,q3,E⟩:=F.ob;rw[m] at D;cases D;rw[P] at q2;cases q2;obtain⟨G,R,S,J,e2,V,W,Y,Z,e7⟩:=L.exc;have j:∀ b,vs[1]? = some (.ref b)->n<=b/\H b=none/\b≠a:=λ b z=>by
   rcases E with q | ⟨T',_,_,q,r1,r2,r3,_⟩
   . rw[q] at z;cases z
   rw[q] at z;cases z;exact⟨r1,r2,r3⟩
 have A:HOk X.prog X.w H h':=λ b u f=>by
   by_cases z:b=a
   . subst z
     rw[i] at f;cases f;obtain⟨t,y,K,p2,p3,p4,p5,p6⟩:=qN7 I.hok i;rw[m] at K;cases K;exact qap3 ⟨_,G,J,p2,p3,rfl,e2,λ z=>nomatch z⟩
   have M:∀ c,H c≠none->c∉frs X.stack:=λ c d hm=>d (I.stkFree c hm)
   refine(I.hok b u f).stay (λ c v d r=>L.keep c v r ?_ (λ h=>?_) ?_) (λ _ z=>z) λ _ _ z=>z
   . rcases d with rfl | d
     . exact z
     intro h;rw[h,i] at d;cases d
   . have:=(j c h).2.1
     rcases d with rfl | d
     . rw[this] at f;cases f
     rw[this] at d;cases d
   rcases d with rfl | d
   . exact M c (by rw[f];exact λ z=>nomatch z)
   exact M c (by rw[d];exact λ z=>nomatch z)
 refine⟨?_,F.ge,⟨C,Q,i⟩,_,G,J,rfl,e2,.inr ⟨T,R,S,V,zAm (zAm F.ge (zBz (zA8 m))) L.new,I.hok.fresh L.new,W,Y,Z,e7⟩⟩;have k:∀ b,b∈Jx vs[1]? ↔ vs[1]? = some (.ref b):=λ b=>by
   rcases E with q | ⟨T',_,_,q,_⟩
   . rw[q];simp[Jx]
   rw[q];simp[Jx,eq_comm]
 have U:Un (frs X.stack) (Jx vs[1]?) H H s.heap h':=by
   refine⟨λ b o z l B N=>L.keep b o z (λ h=>?_) (λ h=>N ((k b).mpr h)) B,λ b o z l B N=>L.slot b o z B,λ _ _ _ l _=>l,λ b o z _=>L.there b o z,λ _ _ z=>z,λ _ _ _ z=>z,λ b ps z=>⟨#[],by rw[z];simp⟩⟩;rw[h,i] at l;cases l
 exact I.call (g':=s.gens) (t':=s.toks) (d':=s.drawn) (ch:=Jx vs[1]?) U A I.bare λ b f=>by
   have g:=(j b ((k b).mp f)).1;refine⟨.inr (zAm O.st g),Nat.ne_of_gt (zAd O.loc g),λ x c e=>zAh (zAd (O.cell x c e) g),λ p hp=>zAh (zAd (O.pin p hp) g)⟩
end
def Lands(X:Cx)(E:St->XK):Prop:=∀(Gm:List (Addr×Obj))(σ:St)(H:Hp)(s:Shared)(a:Addr)(n:Nat),Inv X Gm σ H s->Fly n H s.heap a->Old X Gm n->E σ (.ref a) none H->X.xe (.ref a) s
theorem Lands.passes{X:Cx}{E:St->XK}(h:Lands X E):qO3 (CX1 X.prog X.w) X E:=λ Gm σ H s e b I q=>by
 obtain⟨a,H',rfl,c,d,u,f,F,q⟩:=q;exact h Gm σ H' b a _ (I.call' (ch:=[]) c u f d λ _ z=>nomatch z) F I.old q
theorem qa0{cm:Bool}{P:Program}{w:World}{K:PySem.W.Frag}{mg:Str->Option Value}{base:Heap}{N:List Str}{qual:Str}{scope:Scope}{f:Addr}{cd:Value}{A:Around}{outer:List Env}{s₀:Shared}{H₀:Hp}{E:XK} :
   Lands (Hc cm (CX1 P w) P w K mg base N qual scope f cd A outer s₀ H₀ E) (λ _=>E):=λ Gm σ H s a n I F O q=>by
 obtain⟨p,b,c,d,e,g⟩:=id F.ob;show wpAny _ _ (leaving _ _) _ _ s;unfold leaving;refine wpAny_bind (qM7 (base:=base) (vs:=b) I.ok.frames I.stack rfl c d e ?_ λ r T L=>?_)
 . rcases g with z | ⟨T,h,i,j,_,_,k,l,m,o⟩
   . exact .inl z
   exact .inr ⟨T,h,i,j,k,l,m,o⟩
 obtain⟨J,F'⟩:=I.left (T:=T) F O c d L;exact⟨a,H,rfl,J.os,J.bare,J.base,J.hok,F'.mono O.st,q⟩
section
variable{X:Cx}{o e value:Expr}{pos pos':Pos}{ta tv:TE}{f:Str}
def sEF(K:PySem.W.Frag)(ta tv:TE)(f:Str):TS:=λ D σ H=>tv σ H λ y H1=>ta σ H1 λ x H2=>∃ a C,x=.ref a/\Exc K C/\qc1 K C f /\
 ((H2 a=some (Be a C none true)/\∀ dx,H2 dx=none->dx≠a->D.nx σ (upd (upd H2 dx (XD dx [(f,y)])) a (Be a C (some dx) true)))
  ∨ ∃ dx fs,H2 a=some (Be a C (some dx) true)/\H2 dx=some (XD dx fs)/\fs.length < 1000/\D.nx σ (upd H2 dx (XD dx (Bi f y fs))))
theorem qV1(g:PE X o ta)(i:PE X value tv)(j:swapsWith value (some (.Attribute o f pos')) pos.line X.env=pure false:=by rfl):PS X (.Assign [.Attribute o f pos'] value pos) (sEF X.K ta tv f):=by
 intro Gm s σ H D I h;refine plainObj_wpAny_Assign_Attribute (thn (i Gm s σ H _ I h) λ u k b=>?_) j;obtain⟨y,H1,I1,d,q⟩:=b;refine thn (g Gm k σ H1 _ I1 q) λ l w b=>?_
 obtain⟨x,H2,I2,m,a,C,p,c,n,q2⟩:=b;subst p;obtain rfl:l=Value.ref a:=m;rcases q2 with⟨ea,q2⟩ | ⟨e,fs,ea,ed,hl,q2⟩
 . exact qaC4 I2 ea c n d λ e r t v I3=>⟨σ,_,I3,q2 e t v⟩
 exact qaC3 I2 ea ed hl c n d λ r I3=>⟨σ,_,I3,q2⟩
def tEF(K:PySem.W.Frag)(ta:TE)(f:Str):TE:=λ σ H Q=>ta σ H λ x H1=>∃ a C dx fr fs v,x=.ref a/\H1 a=some (Be a C (some dx) fr)/\H1 dx=some (XD dx fs)/\Exc K C/\qc1 K C f/\fs.lookup f=some v/\Q v H1
theorem qaH8(d:PE X e ta)(g:attributeBase e f X.env (eval e X.env)=eval e X.env:=by rfl):PE X (.Attribute e f pos) (tEF X.K ta f):=by
 intro Gm s σ H Q I h;refine qav5 g (thn (d Gm s σ H _ I h) λ u p b=>?_);obtain⟨x,H1,I1,i,a,C,r,t,w,v,j,k,m,c,n,l,q⟩:=b;subst j;obtain rfl:u=Value.ref a:=i;exact qaM6 I1 k m c n l λ y z I2 o=>⟨v,H1,I2,o,q⟩
theorem qaH6{x:Str}(C:Addr){pos:Pos}(hm:X.mg x=some (.ref C))(a:Gl X x:=by rfl)(b:(x == ("__debug__" : Str))=false:=by decide):PE X (.Name x pos) (tC (.ref C)):=qaf3 a hm rfl b
end
structure MkE(K:PySem.W.Frag)(C f:Addr):Prop where
 exc:Exc K C
 mke:Jw K C=true
 init:PySem.W.findIn K (.ref C) "__init__" = some (some (.ref f))
 fn:PySem.W.isFn K (.ref f)=true
 kp:PySem.W.keepIn K (.ref C)=true
def qaP2(C:Addr)(sp:Sp)(E:St->XK)(t:TA):TS:=λ D σ H=>t σ H λ vs H1=>vs.length<=1000/\∀ a,H1 a=none->sp (.ref a::vs) (upd H1 a (Be a C none true)) (λ v H2=>v=.non/\∃ b,H2 a=some (Be a C b true)/\E σ (.ref a) none (upd H2 a (Be a C b false))) E0
section
variable{X:Cx}{k:Nat}{f C:Addr}{fd:FuncData}{ps:List Str}{sp:Sp}{E:St->XK}{x:Str}{np cpos pos:Pos}{e:Expr}{es:List Expr}{t:TA}
theorem qax6(M:MkE X.K C f)(F:B7 X.prog X.w X.K X.mg X.base CX0 k f fd ps sp)(L:Room (k+1) X.A)(hm:X.mg x=some (.ref C))(U:Binds X.K fd ps [])(Y:Lands X E)(Z:PA X (e::es) t)(hg:Gl X x:=by rfl)(m:(x == ("__debug__" : Str))=false:=by decide)(he:starEach (e::es) X.env=(false,eval e X.env)::starEach es X.env:=by rfl)(n:(backTo cpos (starEach es X.env)).any (·.1)=false:=by rfl) :
   PS X (.Raise (some (.Call (.Name x np) (e::es) [] cpos)) none pos) (qaP2 C sp E t):=by
 intro Gm s σ H D I h;rw[arm_exec_Raise];refine wpAny_bind (wpAny_standAt (qae8 (K:=X.K) (L.hd rfl) ?_));refine wpAny_bind (wpAny_Call_Name_kw (qB4 I hg hm ?_ m));refine PySem.W.callWith_K (h₀:=X.base) I.ok.mod.kin M.kp (thn (Z cpos Gm s σ H _ I h) λ d s1 p=>?_) he n;obtain⟨vs,H1,I1,r,hz,q⟩:=p;refine⟨I1.kIn,?_⟩;obtain⟨c,g1,d1,t1,o1⟩:=s1;show wpAny _ _ (call (.ref C) d) _ _ _;refine qaC2 I1.kIn M.mke M.init (zBj.mp M.fn) (by rw[<- r.length,sizeLine_eq];lia) ?_;have nz:H1 (c.objs.size+1)=none:=I1.hok.fresh (Nat.le_succ _);have N:=q (c.objs.size+1) nz;have I2:=I1.kept (h':=c.push { cls:=.type "tuple",data:=.seq d.toArray }) (t':=t1) λ b u z=>zA2 _ z
 have g2:((c.push { cls:=.type "tuple",data:=.seq d.toArray }).push { cls:=.ref C,data:=.fields #[.ref c.objs.size,.none,.none,.none,.bool false,.none] }).get? (c.objs.size+1)=some { cls:=.ref C,data:=.fields #[.ref c.objs.size,.none,.none,.none,.bool false,.none] }:=by heap_get
 have I3:=I2.laid (a:=c.objs.size+1) (o:=Be (c.objs.size+1) C none true) (t':=t1) (h':=(c.push { cls:=.type "tuple",data:=.seq d.toArray }).push { cls:=.ref C,data:=.fields #[.ref c.objs.size,.none,.none,.none,.bool false,.none] })
   (λ b u z=>zA2 _ z) (Nat.le_of_eq (Heap.size_push _ _)) (qap3 ⟨_,_,g2,rfl,rfl,rfl,by simp,λ _=>by simp⟩)
 have O:Vals (V.ref (c.objs.size+1)::vs) (Value.ref (c.objs.size+1)::d):=.cons rfl r;have y:((Value.ref (c.objs.size+1)::d)++[]).length=ps.length:=by rw[zAg,<- O.length];exact F.len _ _ _ _ N
 have g:=U _ (Value.ref (c.objs.size+1)::d) I3.kIn y;rw[zAg] at g;refine wpAny_call (codeAny_mono (F.run _ X.stack _ _ ⟨Value.ref (c.objs.size+1)::d,[]⟩ (Value.ref (c.objs.size+1)::d) _ _ E0 (L.make C d []) (I3.env0.make C d []) g O N) λ B i z=>?_);cases B with
 | error e=>exact z.elim
 | ok fl =>
   cases fl with
   | ret u =>
     obtain⟨v,H',I4,rv,ev,P,Q,q4⟩:=I3.after z;subst ev;refine⟨rv,?_⟩;refine wpAny_bind (wpAny_standAt (wpAny_pure ?_));obtain⟨j,G,l,R,p3,J,S,T⟩:=qN7 I4.hok Q;refine⟨c.objs.size+1,j,G,C,rfl,I4.kIn,M.exc,l,R,J,T rfl,?_⟩;have I5:Inv X Gm σ (upd H' (c.objs.size+1) (Be (c.objs.size+1) C P false)) i :=
       I4.write (x:=c.objs.size+1) (e:=c.objs.size+1) (h':=i.heap) (t':=i.toks) (by rw[Q];exact True.intro) (.inl rfl) (λ _ _ _ z=>z) ⟨j,l⟩ (qap3 ⟨j,G,l,R,p3,J,S,λ z=>nomatch z⟩)
     exact Y Gm σ _ i (c.objs.size+1) c.objs.size I5 ⟨Nat.le_succ _,⟨C,P,qb2⟩,j,G,l,J,S,.inl (T rfl)⟩ I1.old q4
   | next=>exact False.elim z
   | brk=>exact False.elim z
   | cont=>exact False.elim z
end
noncomputable def Xt(X:Cx)(xe:Value->Shared->Prop)(pn:List (Addr×Obj)):Cx:={ X with xe:=xe,pn:=pn }
noncomputable def Xh(X:Cx)(a:Addr):Cx:={ X with A:=X.A.mark (some (.ref a)),calm:=false,xe:=λ _ _=>False }
section
variable{X:Cx}{Gm:List (Addr×Obj)}{σ:St}{H:Hp}{s:Shared}{a:Addr}{n:Nat}
theorem Cx.Ok.t{b:List (Addr×Obj)}(a:X.Ok):(Xt X xe b).Ok :=
 ⟨a.mod,a.kind,a.glob,a.blt,a.above,a.inj,a.has,a.cab,a.hd,a.frames,a.stk,a.exf,a.bs,a.bsz,a.noex,a.exfs,a.funs,a.frf⟩
theorem Cx.Ok.h(b:X.Ok):(Xh X a).Ok :=
 ⟨b.mod,b.kind,b.glob,b.blt,b.above,b.inj,b.has,b.cab,λ z=>(by cases z),b.frames,b.stk,b.exf,b.bs,b.bsz,b.noex,b.exfs,b.funs,b.frf⟩
theorem Inv.t(I:Inv X Gm σ H s):Inv (Xt X xe (X.pn++Gm)) [] σ H s :=
 ⟨I.ok.t,I.os,I.bare,I.base,I.loc,I.cell,I.free,I.freeC,λ p a=>I.pin p (by rw[zAg] at a;exact a),I.hok,I.len⟩
theorem Inv.unt{pins':List (Addr×Obj)}(a:X.Ok)(I:Inv (Xt X xe (X.pn++Gm)) pins' σ H s):Inv X Gm σ H s :=
 ⟨a,I.os,I.bare,I.base,I.loc,I.cell,I.free,I.freeC,λ p b=>I.pin p (List.mem_append_left _ b),I.hok,I.len⟩
theorem Inv.h(I:Inv X Gm σ H s):Inv (Xh X a) Gm σ H s:=⟨I.ok.h,I.os,I.bare,I.base,I.loc,I.cell,I.free,I.freeC,I.pin,I.hok,I.len⟩
theorem Inv.unh(b:X.Ok)(I:Inv (Xh X a) Gm σ H s):Inv X Gm σ H s:=⟨b,I.os,I.bare,I.base,I.loc,I.cell,I.free,I.freeC,I.pin,I.hok,I.len⟩
theorem qao7{M:Model}{A:Around}{E:Value->Shared->Prop}(I:Inv X Gm σ H s)(F:Fly n H s.heap a)(O:Old X Gm n)(h:∀ s',Inv X Gm σ H s'->Fly n H s'.heap a->Q () s') :
   wpAny M A (setFlight (.ref a) none) Q E s:=by
 obtain⟨v,w,g,i,y,B⟩:=F.ob;unfold setFlight;rcases B with z | ⟨T,J,K,l,d,m,r,t,j,C⟩
 . refine wpAny_bind (wpAny_field g i z ?_)
   rw[if_neg (by decide)];exact wpAny_pure (h s I F)
 refine wpAny_bind (wpAny_field g i l ?_);rw[if_pos (show (Value.ref T != Value.none)=true from by simp)];have u:=(Array.getElem?_eq_some_iff.mp C).1;refine wpAny_setField t j u ?_;have other:∀ b,b≠T->(s.heap.update T (Obj.mapFields (·.setIfInBounds 3 ((none:Option Addr).elim Value.none λ f=>rawInt f)))).get? b=s.heap.get? b:=λ b k=>zB4 _ _ (Ne.symm k)
 have D:=zBi (Obj.mapFields (·.setIfInBounds 3 ((none:Option Addr).elim Value.none λ f=>rawInt f))) t (Obj.isFreed_of_fields (Obj.data_mapFields j _));refine h _ (I.turned (it:=T) (t':=s.toks) (λ b o k q=>(other b k).trans q) m (Nat.ne_of_gt (zAd O.loc d)) (.inr (zAm O.st d)) (λ x c e=>zAh (zAd (O.cell x c e) d)) λ p G=>zAh (zAd (O.pin p G) d)) ?_;exact⟨F.ge,F.tr,v,w,(other a (Ne.symm r)).trans g,i,y,.inr ⟨T,_,_,l,d,m,r,D,Obj.data_mapFields j _,by simp[u]⟩⟩
theorem qW4{M:Model}{A:Around}{E:Value->Shared->Prop}{j:Nat}{x:Str}{pos:Pos}(I:Inv X Gm σ H s)(J:X.N.Nodup)(K:X.N[j]? = some x)(L:X.env.scope.names.lookup x=some .local)(h:∀ s',Inv X Gm (σ.set j none) H s'->Q () s'):wpAny M A (do bindName X.env x .none;unbindBehindTheSuite X.env x pos) Q E s:=by
 obtain⟨m,C,O⟩:=id I.loc;have f:(X.env.scope.kind == .class||(X.env.scope.kind == .module&&X.env.locals != X.env.globals))=false:=by rw[I.ok.kind];rfl
 have g:=I.cne;refine wpAny_nameGoes_keeps L C f λ h' v u a=>?_
 obtain⟨oL,_,_,P,_⟩:=id C;have w:∀ b o,X.s₀.heap.get? b=some o->b≠X.env.locals:=λ b o e=>zAh (zAd (zA8 e) I.ok.above)
 refine h _ ⟨I.ok,I.os,I.bare,⟨λ b o e n B l=>?_,λ b o e n B l=>?_,I.base.free,λ b o e l=>?_,I.base.tups,I.base.frzs,I.base.tbls⟩,⟨_,u,λ i y r D e2 R=>?_⟩,λ y c e=>?_,I.free,I.freeC,λ p S=>?_,λ b T e=>?_,by simpa using I.len⟩
 . exact(a.2 b (w b o e)).trans (I.base.keep b o e n B l)
 . obtain⟨U,q⟩:=I.base.slot b o e n B l
   exact⟨U,(a.2 b (w b o e)).trans q⟩
 . obtain⟨V,q⟩:=I.base.there b o e l
   exact⟨V,(a.2 b (w b o e)).trans q⟩
 . have F:i≠j:=λ z=>by
     subst z;by_cases W:i < σ.length
     . rw[zBo W] at e2;cases e2
     rw[List.getElem?_eq_none (by rw[List.length_set];lia)] at e2;cases e2
   rw[zBq (Ne.symm F)] at e2;obtain⟨Y,Z,q⟩:=O i y r D e2 R;refine⟨Y,Z,?_⟩;rcases q with⟨k,e⟩ | ⟨k,c,e,z⟩
   . refine .inl ⟨k,?_⟩
     have:y≠x:=λ e=>F (qS0 J D (e ▸ K))
     simp[this,e]
   exact .inr ⟨k,c,e,z.sameBut a (g y c e)⟩
 . obtain⟨r,z⟩:=I.cell y c e
   exact⟨r,z.sameBut a (g y c e)⟩
 . obtain⟨e,n,G,nf,d⟩:=I.pin p S
   exact⟨(a.2 p.1 G).trans e,n,G,nf,d⟩
 refine(I.hok b T e).stay (λ c r t q=>(a.2 c ?_).trans q) (λ _ q=>q) λ _ _ q=>q
 rintro rfl;rcases t with rfl | t
 . rw[I.free] at e;cases e
 rw[I.free] at t;cases t
end
def PH(X:Cx)(b:List ExceptHandler)(t:Addr->TS):Prop :=
 ∀(Gm:List (Addr×Obj))(s:Shared)(σ:St)(H:Hp)(D:Bo)(a:Addr)(n:Nat),Inv X Gm σ H s->Fly n H s.heap a->Old X Gm n->t a D σ H->wpAny (model X.prog X.w) X.A (handleBy (.ref a) X.env b) (SP X Gm D) X.xe s
noncomputable def behind(j:Nat)(D:Bo):Bo:={ nx:=λ σ H=>D.nx (σ.set j none) H,rt:=D.rt,bk:=λ σ H=>D.bk (σ.set j none) H,ct:=λ σ H=>D.ct (σ.set j none) H }
section
variable{X:Cx}
theorem qaQ1:PH X [] (λ _ _ _ _=>False):=λ _ _ _ _ _ _ _ _ _ _ h=>h.elim
def sTry(tb:(St->XK)->TS)(th:Addr->TS):TS:=λ D σ H=>∃ E:St->XK,tb E D σ H/\∀ a σ' H',E σ' (.ref a) none H'->∃ σ'':St,σ''.length=σ'.length/\(∀(i:Nat)(v:V),σ''[i]? = some (some v)->σ'[i]? = some (some v))/\th a D σ'' H'
theorem qaP8{body:List Stmt}{h₀:ExceptHandler}{c:List ExceptHandler}{pos:Pos}{tb:(St->XK)->TS}{th:Addr->TS}(y:∀ E xe m,Lands (Xt X xe m) E->PSs (Xt X xe m) body (tb E))(B:PH X (h₀::c) th)(b:X.stack=X.env::X.outer:=by rfl)(d:X.env.frame=some X.env.locals:=by rfl):PS X (.Try body (h₀::c) [] [] pos) (sTry tb th):=by
 intro Gm s σ H D I ⟨E,C,q2⟩;refine wpAny_Try_except ?_
 let xe:Value->Shared->Prop:=λ e s₁=>wpAny (model X.prog X.w) X.A (noteFrame e X.env) (λ _ s₂=>wpAny (model X.prog X.w) X.A (setFlight e none) (λ _ s₃=>wpAny (model X.prog X.w) X.A (handleBy e X.env (h₀::c)) (SP X Gm D) X.xe s₃) X.xe s₂) X.xe s₁
 have G:Lands (Xt X xe (X.pn++Gm)) E:=λ pins' σ' H' g a n I' F O q=>by
   have J:Inv X Gm σ' H' g:=I'.unt I.ok;have O':Old X Gm n:=⟨O.st,O.loc,O.cell,λ p K=>O.pin p (List.mem_append_left _ K)⟩
   obtain⟨V,o,r,x,M,N⟩:=id F.ob;show wpAny _ _ (noteFrame _ _) _ _ g;have h:X.A.frames=some (X.env::X.outer):=by rw[J.ok.frames,b]
   have i:g.heap.FunFrames X.base (X.env::X.outer):=by have:=J.stack;rwa[b] at this
   refine qM7 (base:=X.base) (vs:=o) h i d r x M ?_ λ W T L=>?_
   . rcases N with z | ⟨T,P,Q,j,_,_,k,l,R,S⟩
     . exact .inl z
     exact .inr ⟨T,P,Q,j,k,l,R,S⟩
   obtain⟨J2,F2⟩:=J.left (T:=T) F O' r x (by rw[b];exact L);obtain⟨σ'',j,k,l⟩:=q2 a σ' H' q;exact B Gm _ _ H' D a n (J2.weak j k) F2 O' l
 refine wpAny_mono (y E xe (X.pn++Gm) G [] s σ H D I.t C) (λ f Y z=>?_) λ _ _ z=>z
 cases f with
 | next=>obtain⟨σ',H',J,z⟩:=z;exact wpAny_execs_nil ⟨σ',H',J.unt I.ok,z⟩
 | brk=>obtain⟨σ',H',J,z⟩:=z;exact⟨σ',H',J.unt I.ok,z⟩
 | cont=>obtain⟨σ',H',J,z⟩:=z;exact⟨σ',H',J.unt I.ok,z⟩
 | ret u=>obtain⟨v,σ',H',J,U,z⟩:=z;exact⟨v,σ',H',J.unt I.ok,U,z⟩
end
end L2
namespace L2
open PySem PySem.Spec PyProof.Rows PySem.SeqAt
open PySem.AutoSeq1 (wpAny_loadPart')
theorem Fun.okX{P:Program}{w:World}{K:PySem.W.Frag}{mg:Str->Option Value}{base:Heap}{x qual:Str}{st:Stmt}{f:Addr}{fd:FuncData}{N ps:List Str}{k:Nat}{sp:Sp}(F:Fun K x qual st f fd)(S:qa8 N ps (qa3 st))(len:∀ vs H Q E,sp vs H Q E->vs.length=ps.length)(hbody:∀(a:Value)(A:Around)(outer:List Env)(s:Shared)(H:Hp)(vs:List V)(Q:VK)(E:XK),Room k (A.deeper (envOfC qual (qa3 st) s.heap.objs.size f a))->sp vs H Q E ->
     ∃ t,PSs (Hc true (CX1 P w) P w K mg base N qual (qa3 st) f a A outer s H E) (qc9 st) t/\t { nx:=λ _ H'=>Q .non H',rt:=Q } (start N vs) H):B7 P w K mg base (CX1 P w) (k+1) f fd ps sp:=by
 obtain⟨i,j,kV,d,l,m,a,n,e,rfl,g,b⟩:=F.ex;exact Ly g b S len λ A outer s H vs Q E h c=>hbody a A outer s H vs Q E h c
theorem qI9(K:PySem.W.Frag)(C:Addr):PySem.W.kitOne K (.ref C) (.ref C)=some true:=by
 unfold PySem.W.kitOne;rw[if_pos (zBa _)]
end L2
namespace L2
open PySem PySem.Spec PyProof.Rows
variable{xs:List V}
section
variable{X:Cx}{Gm:List (Addr×Obj)}{σ:St}{H:Hp}{s:Shared}{h':Heap}
theorem Inv.turnedL{t':Nat}{ch:List Addr}(I:Inv X Gm σ H s)(k:∀ b o,b∉ch->s.heap.get? b=some o->h'.get? b=some o)(f:∀ b∈ch,Jn X Gm H b):Inv X Gm σ H { s with heap:=h',toks:=t' }:=by
 have d:∀ b u,H b=some u->b∉ch:=λ b u e z=>by rw[(f b z).1] at e;cases e
 refine I.step (g':=s.gens) (d':=s.drawn) (ch:=ch) (λ b g=>?_) (λ b o _ _ a e _=>k b o a e) (λ b o _ _ a e _=>⟨o.slots,k b o a e⟩) (λ _ _ _ _ n=>n)
   (λ b o a e=>⟨o,k b o a e⟩) (λ _ _ e=>e) (λ _ _ _ e=>e) (λ b w e=>⟨#[],by rw[e];simp⟩) (λ m h=>?_) (λ b u e=>?_) I.bare
 . obtain⟨x,f1,f2,f3,i,j⟩:=f b g
   exact⟨f3,f1,i,j⟩
 . obtain⟨o,l,p,t,r⟩:=h
   exact⟨o,l,p,k _ o (λ z=>(f _ z).2.1 rfl) t,r⟩
 refine(I.hok b u e).stay (λ c v a q=>k c v ?_ q) (λ _ q=>q) λ _ _ q=>q
 rcases a with z | z
 . rw[z];exact d b u e
 exact d c _ z
end
def Ite(K:PySem.W.Frag)(a:Addr):It :=
 ⟨λ i H=>∃ xs x,SqL K H a xs/\xs[i]? = some x,λ i H x H'=>∃ t y,x=.ref t/\H t=none/\H'=upd H t (.tup [.int (i:Int),y])/\∀ xs,SqL K H a xs->xs[i]? = some y,λ i H=>∃ xs,SqL K H a xs/\xs.length<=i⟩
theorem qam0{P:Program}{w:World}{K:PySem.W.Frag}{elts:List Expr}{x1:Nat}{pos:Pos}(a it e:Addr)(m:e≠it):Lu P w K (.Tuple elts x1 pos) (Ite K a) [e,it] e (λ i h=>(∃ old,IsEnum h e it (i:Nat) old)/\h.IsListIter it a i) where
 mem:=by simp
 obj:=λ i h d b c=>by
   obtain⟨⟨old,f⟩,o,ho,C,hd⟩:=d;rcases zAl.mp c with rfl | c
   . exact⟨_,f,λ v z=>by
       have z':Data.fields _=Data.cell v:=z;cases z'⟩
   rw[zAq.mp c];exact⟨o,ho,λ v z=>by rw[hd] at z;cases z⟩
 keep:=λ i h Z d k=>by
   obtain⟨⟨old,f⟩,d⟩:=d;exact⟨⟨old,k e (by simp) _ f⟩,d.at λ o q=>k it (by simp) o q⟩
 item:=by
   intro X D F G C i Gm s σ H E I n d J;subst D F G;obtain⟨xs,x,B,L⟩:=J;obtain⟨⟨old,f⟩,g⟩:=d;obtain⟨M,N,p,hz⟩:=I.list B;obtain⟨u,hu,ru⟩:=N.get L;have O:H s.heap.objs.size=none:=I.hok.fresh (zA3 _);obtain⟨oi,Q,_⟩:=id g;have r:e < s.heap.objs.size:=zA8 f;have t:it < s.heap.objs.size:=zA8 Q;refine wpAny_pyNext_enum_item f g p.isList (x:=u) (by simpa using hu) m λ h1 R y S a0 T=>?_
   refine⟨_,rfl,wpAny_letOwnedTupleGo_enum (s:={ s with heap:=h1,toks:=s.toks+1 }) R λ U V j=>?_⟩
   replace j:Heap.SameBut e h1 U:=j
   have I0:Inv X Gm σ (upd H s.heap.objs.size (.tup [.int (i:Int),x])) { s with heap:=s.heap.push { cls:=.type "tuple",data:=.seq #[.int i s.toks,u] },toks:=s.toks+1 } :=
     I.laid (λ b o q=>zA2 _ q) (zA3 _) ⟨by show 2<=sizeLine;decide,[.int i s.toks,u],.cons ⟨_,rfl⟩ (.cons ru .nil),⟨_,zAt _ rfl,rfl,_,rfl⟩⟩
   have I2:Inv X Gm σ (upd H s.heap.objs.size (.tup [.int (i:Int),x])) { s with heap:=U,toks:=s.toks+1 }:=by
     refine Inv.turnedL (s:={ s with heap:=s.heap.push { cls:=.type "tuple",data:=.seq #[.int i s.toks,u] },toks:=s.toks+1 }) (h':=U) (ch:=[e,it]) (t':=s.toks+1) I0 (λ b o c q=>?_) (λ b c=>?_)
     . have A:b≠e:=λ z=>c (by simp[z])
       have Y:b≠it:=λ z=>c (by simp[z])
       refine j.extBut b o A ?_;rcases Heap.get?_push_cases (show (s.heap.push { cls:=.type "tuple",data:=.seq #[.int i s.toks,u] }).get? b=some o from q) with⟨rfl,rfl⟩ | q
       . exact S
       exact T b o A Y q
     refine⟨?_,(n b c).2⟩;have l:b < s.heap.objs.size:=by
       rcases zAl.mp c with rfl | c
       . exact r
       rw[zAq.mp c];exact t
     rw[qb3 (zAh l)];exact(n b c).1
   refine⟨.ref s.heap.objs.size,_,I2,rfl,⟨_,x,rfl,O,rfl,λ ys hy=>by rw[I.list_inj hy B];exact L⟩,⟨⟨u,?_⟩,?_⟩,λ b c=>?_⟩
   . have:((i+1:Nat):Int)=(i:Int)+1:=by push_cast;rfl
     rw[this];exact V
   . exact y.extBut j.extBut (Ne.symm m)
   have l:b < s.heap.objs.size:=by
     rcases zAl.mp c with rfl | c
     . exact r
     rw[zAq.mp c];exact t
   rw[qb3 (zAh l)];exact(n b c).1
 done:=by
   intro X D F G C i Gm s σ H E I n d J;subst D F G;obtain⟨xs,B,L⟩:=J;obtain⟨⟨old,f⟩,g⟩:=d;obtain⟨M,N,p,hz⟩:=I.list B;obtain⟨f0,f1,f2,f3,f4,f5⟩:=n it (by simp);have hl:=N.length;exact wpAny_pyNext_enum_end (I.ok.hd C) f g p.isList (by simp;lia) λ Z eb=>⟨rfl,I.turned (t':=s.toks) (λ b o c q=>eb b o c q) f0 f1 f3 f4 f5⟩
 self:=λ _ _ _ _ _ d h=>by
   obtain⟨⟨old,f⟩,_⟩:=d;exact wpAny_pyIter_enum f h
section
variable{X:Cx}
def iEnum(K:PySem.W.Frag)(ta:TA):TI:=λ σ H R=>ta σ H λ vs H1=>∃ a,vs=[.ref a]/\(∃ xs,SqL K H1 a xs)/\R (Ite K a) H1
theorem qaH0{l:Expr}{ta:TA}{elts:List Expr}{j:Nat}{p pos tpos:Pos}(k:Gl X "enumerate")(hm:X.mg "enumerate" = none)(m:PA X [l] ta)(n:starEach [l] X.env=[(false,eval l X.env)]:=by rfl):PI X (.Tuple elts j tpos) (.Call (.Name "enumerate" p) [l] [] pos) (iEnum X.K ta):=by
 intro Gm s σ H R I h;refine Call_ (qab0 I k hm boot_enumerate (PyProof.Rows.callWith_type1 (thn (m pos Gm s σ H _ I h) λ B c f=>?_) n rfl));obtain⟨C,H1,I1,o,t⟩:=f;obtain⟨a,e,⟨D,u⟩,q⟩:=t;subst e;cases o with
 | cons r v =>
   cases v;cases r;obtain⟨w,E,x,F⟩:=I1.list u;refine call_enumerate_list x.isList λ G i y z A=>?_
   refine wpAny_pyIter_enum i ?_;refine⟨c.heap.objs.size+1,[c.heap.objs.size+1,c.heap.objs.size],_,_,H1,rfl,I1.kept (t':=c.toks) A,qam0 a c.heap.objs.size (c.heap.objs.size+1) (Nat.succ_ne_self _),⟨⟨_,i⟩,y⟩,λ b g=>?_,q⟩;have d:c.heap.objs.size<=b:=by
     rcases zAl.mp g with rfl | g
     . exact Nat.le_succ _
     rw[zAq.mp g];exact zA3 _
   exact I1.fpOk d (I1.hok.fresh d)
end
section
variable{X:Cx}
def qaF8:V->List V->Hp->VK->Prop:=λ x vs H Q=>∃ l xs y j z,x=.ref l/\vs=[y]/\H l=some (.lst xs)/\flatV y=true/\xs.all flatV=true/\xs[j]? = some z/\eqV z y=true/\(∀ m a,m < j->xs[m]? = some a->eqV a y=false)/\Q (.int (j:Nat)) H
theorem Vals.getU{us:List Value}(r:Vals xs us){j:Nat}{u:Value}(h:us[j]? = some u):∃ x,xs[j]? = some x/\RelV x u:=by
 have c:=r.length;have d:j < us.length:=(zA5.mp h).1;obtain⟨e,a,b⟩:=r.get (show xs[j]? = some xs[j] by simp);rw[h] at a;cases a;exact⟨_,by simp,b⟩
theorem qag5:MtM X "list.index" qaF8:=by
 intro Gm s σ H x N v O Q I f C h;obtain⟨l,p,y,j,P,rfl,rfl,D,E,t,A,g,i,q⟩:=h;cases f;obtain⟨u,rfl,G⟩:=C.one;obtain⟨z,a,n,r,R,e⟩:=I.lstM D;have J:j < p.length:=(zA5.mp A).1;have B:=r.length;have small:((j:Nat):Int) < 2 ^ 63 - 1:=by
   have:sizeLine < 2 ^ 62:=by decide
   lia
 have eqAt:∀ m (d:m < a.toArray.size),∃ x,p[m]? = some x/\eqU y a.toArray[m]=eqV x y:=λ m d=>by
   have K:m < a.length:=by simpa using d
   obtain⟨x,b,f⟩:=r.getU (show a[m]? = some a[m] by simp);have L:flatV x=true:=zB2.mp t x (zB1 b);refine⟨x,b,?_⟩
   have:=qap6 (x:=y) f L
   simpa using this
 have c:j < a.toArray.size:=by simp;lia
 refine call_meets F.slot_list_index ⟨_,e,rfl⟩ F.entry_list_index (F.args_list_index_2 _ _) (SeqAt.list_indexAt l a.toArray n none #[] u (eqU y) j c small ?_ ?_) ⟨e,λ w M=>qA9 G E r t w (by simpa using M),⟨.int (j:Nat),H,I.tok _,⟨_,rfl⟩,q⟩⟩
 . obtain⟨x,b,k⟩:=eqAt j c
   rw[A] at b;cases b;rw[k];exact g
 intro m d o;obtain⟨x,b,k⟩:=eqAt m d;rw[k];exact i m x o b
def qaG0:V->List V->Hp->VK->Prop:=λ x vs H Q=>∃ l xs y,x=.ref l/\vs=[y]/\H l=some (.lst xs)/\flatV y=true/\xs.all flatV=true/\Q (.int (xs.countP (λ z=>eqV z y):Nat)) H
theorem qX9{x:V}:∀{xs:List V}{us:List Value},Vals xs us->xs.all flatV=true->us.countP (eqU x)=xs.countP λ y=>eqV y x
 | _,_,.nil,_=>rfl
 | y::xs,u::us,.cons r t,f=>by
   rw[List.all_cons,zB8] at f;rw[List.countP_cons,List.countP_cons,qap6 r f.1,qX9 t f.2]
theorem qaz9:MtM X "list.count" qaG0:=by
 intro Gm s σ H x k v m Q I c d h;obtain⟨l,o,y,rfl,rfl,f,g,b,q⟩:=h;cases c;obtain⟨u,rfl,i⟩:=d.one;obtain⟨z,a,n,r,p,e⟩:=I.lstM f;refine call_meets F.slot_list_count ⟨_,e,rfl⟩ F.entry_list_count (F.args_list_count_2 _ _) (SeqAt.list_countAt l a.toArray n none #[] u (eqU y)) ⟨e,λ w j=>qA9 i g r b w (by simpa using j),⟨.int _,H,I.tok _,⟨_,rfl⟩,?_⟩⟩;rw[show a.toArray.toList.countP (eqU y)=a.countP (eqU y) by simp,qX9 r b];exact q
end
theorem qaT8{K:PySem.W.Frag}{a:Addr}{g:TG}{tb:TS}{D:Bo}{σ:St}{H:Hp}(Pv:Nat->St->Hp->Prop)(d:Pv 0 σ H)(f:∀ i σ H,i<=xs.length->Pv i σ H->SqL K H a xs)(h:∀(i:Nat) x σ H t,xs[i]? = some x->Pv i σ H->H t=none->g (.ref t) σ (upd H t (.tup [.int (i:Int),x])) λ σ2 H2=>tb { D with nx:=Pv (i+1),ct:=Pv (i+1),bk:=D.nx } σ2 H2)(j:∀ σ H,Pv xs.length σ H->D.nx σ H) :
   ∃ W:Nat->Nat->St->Hp->Prop,(∃ m,W 0 m σ H)/\∀ i m σ H,W i m σ H ->
     ((Ite K a).stop i H/\D.nx σ H)∨((Ite K a).go i H/\∃ N:St->Hp->Prop,(∀ σ' H',N σ' H'->∃ c,c < m/\W (i+1) c σ' H')/\∀ x H',(Ite K a).yld i H x H'->g x σ H' λ σ2 H2=>tb { D with nx:=N,ct:=N,bk:=D.nx } σ2 H2):=by
 refine⟨λ i m σ H=>m=xs.length - i/\i<=xs.length/\Pv i σ H,⟨xs.length,by simp,zBk _,d⟩,?_⟩;rintro i m σ H ⟨rfl,k,p⟩;have q:=f i σ H k p;by_cases b:i < xs.length
 . refine .inr ⟨⟨xs,xs[i],q,by simp[b]⟩,Pv (i+1),λ σ' H' l=>⟨xs.length - (i+1),by lia,rfl,b,l⟩,λ x H' y=>?_⟩
   obtain⟨t,n,e,o,r,s⟩:=y;subst e r;exact h i n σ _ t (s xs q) p o
 have e:i=xs.length:=by lia
 subst e;exact .inl ⟨⟨xs,q,zA3 _⟩,j σ H p⟩
theorem qaq3{K:PySem.W.Frag}{a D:Addr}{g:TG}{tf:TT}{te:TE}{R:Hp->Prop}{σ:St}{H:Hp}(Pv:Nat->St->Hp->Prop)(c:Pv 0 σ H)(d:∀ i σ H,i<=xs.length->Pv i σ H->SqL K H a xs)(f:∀(i:Nat) x σ H t,xs[i]? = some x->Pv i σ H->H t=none->g (.ref t) σ (upd H t (.tup [.int (i:Int),x])) λ σ2 H2=>tf σ2 H2 λ h H3=>if h=true then te σ2 H3 λ v H4=>∃ ys,H4 D=some (.lst ys)/\ys.length < sizeLine/\Pv (i+1) σ2 (upd H4 D (.lst (ys++[v]))) else Pv (i+1) σ2 H3)(j:∀ σ H,Pv xs.length σ H->R H) :
   qy3 (Ite K a) g tf te D R σ H:=by
 refine⟨λ i m σ H=>m=xs.length - i/\i<=xs.length/\Pv i σ H,⟨xs.length,by simp,zBk _,c⟩,?_⟩;rintro i m σ H ⟨rfl,k,p⟩;have q:=d i σ H k p;by_cases b:i < xs.length
 . refine .inr ⟨⟨xs,xs[i],q,by simp[b]⟩,Pv (i+1),λ σ' H' l=>⟨xs.length - (i+1),by lia,rfl,b,l⟩,λ x H' y=>?_⟩
   obtain⟨t,n,e,o,r,s⟩:=y;subst e r;exact f i n σ _ t (s xs q) p o
 have e:i=xs.length:=by lia
 subst e;exact .inl ⟨⟨xs,q,zA3 _⟩,j σ H p⟩
end L2
namespace L2
open PySem PySem.Spec PyProof.Rows PySem.SeqAt
end L2
namespace L2
open PySem PySem.Spec PyProof.Rows
noncomputable def qaA6:List String:=["NoneType", "bool", "int", "str", "list", "tuple", "dict"]
structure IsO(K:PySem.W.Frag)(C:Addr):Prop where
 ca:PySem.W.findIn K (.ref C) "__class__" = some (some (.builtin "object.__class__"))
 cn:PySem.W.specialIn K (.builtin "object.__class__") "__get__" = some (some (.builtin "getset_descriptor.__get__"))
 ct:PySem.W.takesIn K (.builtin "object.__class__")=some true
 cm:PySem.W.mroIn K C (.type "object")=some true
 kf:∀ t∈qaA6,PySem.W.kitOne K (.type t) (.ref C)=some false
theorem kf_of{K:PySem.W.Frag}{C:Addr}(h1:PySem.W.kitOne K (.type "NoneType") (.ref C)=some false)(h2:PySem.W.kitOne K (.type "bool") (.ref C)=some false)(b:PySem.W.kitOne K (.type "int") (.ref C)=some false)(c:PySem.W.kitOne K (.type "str") (.ref C)=some false)(d:PySem.W.kitOne K (.type "list") (.ref C)=some false)(e:PySem.W.kitOne K (.type "tuple") (.ref C)=some false)(f:PySem.W.kitOne K (.type "dict") (.ref C)=some false) :
   ∀ t∈qaA6,PySem.W.kitOne K (.type t) (.ref C)=some false:=by
 intro t a;unfold qaA6 at a;simp only[zAl,zB7,or_false] at a;rcases a with rfl | rfl | rfl | rfl | rfl | rfl | rfl<;>assumption
section
variable{X:Cx}
def rIsO(C:Addr):List V->Hp->VK->Prop:=λ xs H Q=>∃ x,xs=[x,.ref C]/\((∃ a dx fs,x=.ref a/\H a=some (.ins C dx fs)/\Q (.bl true) H)∨(∃ t,B9 H x=some t/\Q (.bl false) H))
theorem qak4{C:Addr}(b:IsO X.K C)(g:Cls X.K C):CallR X (.builtin "isinstance") (rIsO C):=by
 intro Gm s σ H k l Q I r h;obtain⟨x,rfl,h⟩:=h;obtain⟨u,m,rfl,f,c⟩:=Kr r;cases c;rcases h with⟨a,dx,fs,rfl,ha,q⟩ | ⟨t,hk,q⟩
 . have e:PySem.W.kitOne X.K (.ref C) (.ref C)=some true:=by
     unfold PySem.W.kitOne;rw[if_pos (by simp)]
   exact qJ1 I f (.ins ha g b.ca b.cn b.ct b.cm) e λ d=>⟨.bl true,H,I.tok d,rfl,q⟩
 obtain⟨i,j⟩:=qah8 (K:=X.K) hk;exact qJ1 I f i (b.kf t j) λ d=>⟨.bl false,H,I.tok d,rfl,q⟩
theorem qaQ8{x:Str}(C:Addr){pos:Pos}(hm:X.mg x=some (.ref C))(a:Gl X x:=by rfl)(b:(x == ("__debug__" : Str))=false:=by decide):PE X (.Name x pos) (tC (.ref C)):=qaf3 a hm rfl b
end
end L2
namespace Row
variable{a i j q s t:Nat}{g':Nat->Option Int}{x y:Int}
noncomputable def Ad(n h r:Nat):Nat:=if h<=r then r - h else r+n - h
noncomputable def prev(n r:Nat):Nat:=if r=0 then n - 1 else r - 1
noncomputable def next(n r:Nat):Nat:=if r+1=n then 0 else r+1
def ahead(n:Nat)(hm:Int->Nat)(r:Nat)(x y:Int):Prop:=Ad n (hm y) r < Ad n (hm x) r∨(Ad n (hm x) r=Ad n (hm y) r/\x < y)
theorem qw0{n:Nat}{hm:Int->Nat}{r:Nat}{z:Int}(h:ahead n hm r x y)(h':ahead n hm r y z):ahead n hm r x z:=by
 unfold ahead at *;lia
theorem qO2{n:Nat}{hm:Int->Nat}{r:Nat}(h:ahead n hm r x y)(h':ahead n hm r y x):False:=by
 unfold ahead at *;lia
theorem qar2{n:Nat}{hm:Int->Nat}{r:Nat}(h:ahead n hm r x x):False:=qO2 h h
theorem qar1{n:Nat}{hm:Int->Nat}{r:Nat}(h:x≠y)(h':¬ ahead n hm r x y):ahead n hm r y x:=by
 unfold ahead at *;lia
theorem ql5{n r:Nat}(h:r < n):next n r < n:=by unfold next;split<;>lia
theorem ql3{n r:Nat}(h:r < n):prev n r < n:=by unfold prev;split<;>lia
theorem qk5{n r:Nat}(h:r < n):prev n (next n r)=r:=by unfold prev next;split<;>split<;>lia
theorem qI4{n r:Nat}(h:r < n):next n (prev n r)=r:=by unfold prev next;split<;>split<;>lia
theorem qp4{n r:Nat}(h:r < n)(b:a < n):Ad n a r < n:=by unfold Ad;split<;>lia
theorem ql0{n r:Nat}(b:a < n)(h:r < n)(h':s < n)(e:Ad n a r=Ad n a s):r=s:=by
 unfold Ad at e;split at e<;>split at e<;>lia
theorem qc0{n r:Nat}(b:a < n)(h:r < n):Ad n a r=0↔r=a:=by unfold Ad;split<;>lia
theorem qe8{n r:Nat}(c:a < n)(h:r < n)(b:0 < Ad n a r):Ad n a (prev n r)=Ad n a r - 1:=by
 unfold Ad prev at *;split at b<;>split<;>split<;>lia
theorem qk9{n r:Nat}(c:a < n)(h:r < n)(b:Ad n a r+1 < n):Ad n a (next n r)=Ad n a r+1:=by
 unfold Ad next at *;split at b<;>split<;>split<;>lia
theorem nor(n s:Nat):(s+1=n/\next n s=0)∨(s+1≠n/\next n s=s+1):=by unfold next;split<;>lia
theorem por(n s:Nat):(s=0/\prev n s=n - 1)∨(s≠0/\prev n s=s - 1):=by unfold prev;split<;>lia
theorem dor(n a r:Nat):(a<=r/\Ad n a r+a=r)∨(r < a/\(a<=r+n->Ad n a r+a=r+n)):=by
 unfold Ad;split<;>lia
theorem Hk{n:Nat}(b:a < n)(hi:i < n)(c:s < n)(h:Ad n a i<=Ad n a s):Ad n a i+Ad n i s=Ad n a s:=by
 have d:=dor n a i;have e:=dor n a s;have f:=dor n i s;lia
theorem K9{n:Nat}(b:a < n)(c:s < n)(d:t < n)(h:Ad n a s < Ad n a t):Ad n t s+Ad n a t=n+Ad n a s:=by
 have e:=dor n a s;have f:=dor n a t;have g:=dor n t s;lia
theorem qaU5{n:Nat}(a:s < n):Ad n (next n s) s+1=n:=by
 have b:=dor n (next n s) s;have c:=nor n s;lia
theorem qaq0{n b:Nat}(f:a < n)(c:b < n)(d:j < n)(hi:i < n)(h1:Ad n a i<=Ad n a j)(h2:Ad n a j<=Ad n b j):Ad n b i+(Ad n a j - Ad n a i)=Ad n b j:=by
 have g:=Hk f hi d h1;have h:=qp4 hi c;rcases Nat.lt_or_ge (Ad n b j) (Ad n b i) with e | e
 . have:=K9 c d hi e
   lia
 have:=Hk c hi d e
 lia
structure Ord(n:Nat)(hm:Int->Nat)(g:Nat->Option Int):Prop where
 home:∀ k,hm k < n
 inj:∀ i j k,i < n->j < n->g i=some k->g j=some k->i=j
 ord:∀ i k,i < n->g i=some k->0 < Ad n (hm k) i->∃ x,g (prev n i)=some x/\ahead n hm (prev n i) x k
def La(n:Nat)(hm:Int->Nat)(g:Nat->Option Int):Prop:=∃ i,i < n/\∀ k,g i=some k->hm k=i
theorem Ord.path{n:Nat}{hm:Int->Nat}{g:Nat->Option Int}(O:Ord n hm g):∀(m j i:Nat)(z:Int),j < n->i < n->g j=some z->Ad n (hm z) i+m+1=Ad n (hm z) j->∃ x,g i=some x/\ahead n hm i x z
 | 0,j,i,z,hj,hi,hz,e=>by
   have a:0 < Ad n (hm z) j:=by lia
   obtain⟨x,b,c⟩:=O.ord j z hj hz a
   have:=qe8 (O.home z) hj a
   have f:i=prev n j:=ql0 (O.home z) hi (ql3 hj) (by lia);rw[f];exact⟨x,b,c⟩
 | m+1,j,i,z,hj,hi,hz,e=>by
   have a:0 < Ad n (hm z) j:=by lia
   obtain⟨x,b,c⟩:=O.ord j z hj hz a;have o:=qe8 (O.home z) hj a;have d:=ql3 hj;have h:Ad n (hm z) (prev n j)<=Ad n (hm x) (prev n j):=by unfold ahead at c;lia
   have p:=qaq0 (O.home z) (O.home x) d hi (by lia) h;obtain⟨y,k,l⟩:=O.path m (prev n j) i x d hi b (by lia);refine⟨y,k,qw0 l ?_⟩;unfold ahead at *;lia
theorem Ord.path'{n:Nat}{hm:Int->Nat}{g:Nat->Option Int}(O:Ord n hm g){z:Int}(a:j < n)(hi:i < n)(b:g j=some z)(h:Ad n (hm z) i < Ad n (hm z) j):∃ x,g i=some x/\ahead n hm i x z :=
 O.path (Ad n (hm z) j - Ad n (hm z) i - 1) j i z a hi b (by lia)
def Iu(n:Nat)(hm:Int->Nat)(g:Nat->Option Int)(s:Nat):Prop:=∀ j z,j < n->g j=some z->Ad n (hm z) j<=Ad n (hm z) s
theorem Ord.zero{n:Nat}{hm:Int->Nat}{g:Nat->Option Int}(O:Ord n hm g)(C:La n hm g):∃ s,s < n/\Iu n hm g s:=by
 obtain⟨i,b,h⟩:=C;have l:=ql3 b;refine⟨prev n i,l,λ j z c k=>zBv λ m=>?_⟩;have a:=O.home z;by_cases d:Ad n (hm z) i=0
 . have e:=(qc0 a b).mp d
   have:=qp4 c a
   have e2:Ad n (hm z) (prev n i)=n - 1:=by
     unfold Ad prev at *
     split<;>split<;>lia
   lia
 have q:=qe8 a b (by lia);by_cases f:Ad n (hm z) i=Ad n (hm z) j
 . have e:i=j:=ql0 a b c f
   subst e
   have:=h z k
   rw[this,(qc0 b b).mpr rfl] at d;exact d rfl
 obtain⟨x,o,p⟩:=O.path' c b k (by lia);have e:=h x o
 have:Ad n (hm x) i=0:=(qc0 (O.home x) b).mpr e.symm
 unfold ahead at p;lia
theorem qX0{α:Type}[DecidableEq α](x:α):∀(S:List α),S.Nodup->S.length<=(S.filter (λ y=>decide (y≠x))).length+1
 | [],_=>by simp
 | a::S,h=>by
   have b:=zC0.mp h;by_cases e:a=x
   . subst e
     have:S.filter (λ y=>decide (y≠a))=S:=List.filter_eq_self.mpr λ y c=>by
       simp only[ne_eq,zBe];intro z;subst z;exact b.1 c
     rw[List.filter_cons_of_neg (by simp),this];simp
   rw[List.filter_cons_of_pos (by simpa using e)]
   have:=qX0 x S b.2
   simp only[zAn];lia
theorem qq9{α:Type}[DecidableEq α](x:α):∀(S:List α),x∈S->(S.filter (λ y=>decide (y≠x))).length+1<=S.length
 | [],h=>by simp at h
 | a::S,h=>by
   by_cases e:a=x
   . rw[List.filter_cons_of_neg (by simp[e])]
     have:=List.length_filter_le (λ y=>decide (y≠x)) S
     simp only[zAn];lia
   rw[List.filter_cons_of_pos (by simpa using e)]
   have:=qq9 x S (by rcases zAl.mp h with z | z;exact absurd z.symm e;exact z)
   simp only[zAn];lia
theorem qE7{g:Nat->Option Int}:∀(L:List Nat)(S:List Int),S.Nodup->(∀ k∈S,∃ i∈L,g i=some k)->S.length<=L.length
 | [],S,_,h=>by
   cases S with
   | nil=>simp
   | cons k _=>obtain⟨i,f,_⟩:=h k (by simp);simp at f
 | i::L,S,hn,h=>by
   cases d:g i with
   | none =>
     have:=qE7 L S hn λ k a=>by
       obtain⟨j,c,e⟩:=h k a;rcases zAl.mp c with z | z
       . rw[z,d] at e;cases e
       exact⟨j,z,e⟩
     simp only[zAn];lia
   | some x =>
     have m:=qE7 L (S.filter (λ y=>decide (y≠x))) (hn.filter _) λ k a=>by
       obtain⟨a,b⟩:=zAs.mp a;obtain⟨j,c,e⟩:=h k a;rcases zAl.mp c with z | z
       . rw[z,d] at e
         have l:x=k:=Option.some.inj e;rw[l] at b;simp at b
       exact⟨j,z,e⟩
     have n:=qX0 x S hn;simp only[zAn];lia
theorem qV2{g:Nat->Option Int}:∀(L:List Nat)(S:List Int),L.Nodup->(∀ i∈L,∃ k∈S,g i=some k)->(∀ i∈L,∀ j∈L,∀ k,g i=some k->g j=some k->i=j)->L.length<=S.length
 | [],S,_,_,_=>by simp
 | i::L,S,c,h,inj=>by
   obtain⟨x,f,l⟩:=h i (by simp);have c:=zC0.mp c;have p:=qV2 L (S.filter (λ y=>decide (y≠x))) c.2 (λ j d=>by
     obtain⟨k,m,e⟩:=h j (zA6 _ d);refine⟨k,zAs.mpr ⟨m,?_⟩,e⟩;simp only[ne_eq,zBe];intro z;subst z
     have:=inj i (by simp) j (zA6 _ d) k l e
     exact c.1 (this ▸ d)) λ a n b o=>inj a (zA6 _ n) b (zA6 _ o)
   have q:=qq9 x S f;simp only[zAn];lia
def Holds(n:Nat)(g:Nat->Option Int)(S:List Int):Prop:=S.Nodup/\∀ k,k∈S↔∃ i,i < n/\g i=some k
theorem qal4{n:Nat}{hm:Int->Nat}{g:Nat->Option Int}{S:List Int}(O:Ord n hm g)(O':Ord n hm g')(C':La n hm g')(J:Holds n g S)(w:Holds n g' S)(p:s < n)(Z:Iu n hm g s):Iu n hm g' s:=by
 obtain⟨K,F,Z'⟩:=O'.zero C';intro j z B q;refine zBv λ v=>?_
 have R:∀ m,(∃ t,t < n/\Ad n t s<=m/\Iu n hm g' t)->∃ t,t < n/\Iu n hm g' t/\∀ u,u < n->Ad n u s < Ad n t s->¬ Iu n hm g' u:=by
   intro m
   induction m with
   | zero =>
     rintro⟨t,l,T,q⟩;exact⟨t,l,q,λ u _ h=>absurd h (by lia)⟩
   | succ m U =>
     rintro⟨t,l,T,q⟩;by_cases L:∃ u,u < n/\Ad n u s<=m/\Iu n hm g' u
     . exact U L
     exact⟨t,l,q,λ u V h W=>L ⟨u,V,by lia,W⟩⟩
 obtain⟨t,l,Zt,near⟩:=R (Ad n K s) ⟨K,F,zA3 _,Z'⟩
 let d:Nat->Bool:=λ r=>decide (Ad n r s < Ad n t s)
 have arcOf:∀ r,d r=true↔Ad n r s < Ad n t s:=λ r=>decide_eq_true_iff
 have o:=O'.home z;have M:=Zt j z B q;have Dz:Ad n (hm z) s < Ad n t s:=by
   have G:=K9 o p l (zAd v M);have e2:=qp4 l o;lia
 have Dj:¬ Ad n j s < Ad n t s:=by
   have G:=K9 o p l (zAd v M);have e2:=K9 o p B v;lia
 have X:z∈S.filter (λ k=>d (hm k)):=zAs.mpr ⟨(w.2 z).mpr ⟨j,B,q⟩,(arcOf _).mpr Dz⟩;have p1:(S.filter (λ k=>d (hm k))).length<=((List.range n).filter d).length:=by
   refine qE7 (g:=g) _ _ (J.1.filter _) λ k H=>?_
   obtain⟨H,N⟩:=zAs.mp H;obtain⟨i,c,P⟩:=(J.2 k).mp H;have N:=(arcOf _).mp N;have Y:=Z i k c P;have f:=O.home k;refine⟨i,zAs.mpr ⟨zAj.mpr c,(arcOf _).mpr ?_⟩,P⟩;have G:=Hk f c p Y;lia
 have p2:((List.range n).filter d).length<=((S.filter (λ k=>d (hm k))).filter (λ y=>decide (y≠z))).length:=by
   refine qV2 (g:=g') _ _ (List.nodup_range.filter _) (λ i c=>?_) λ a ha b hb k=>O'.inj a b k (zAj.mp (zAs.mp ha).1) (zAj.mp (zAs.mp hb).1)
   obtain⟨c,C⟩:=zAs.mp c;have c:=zAj.mp c;have C:=(arcOf _).mp C;have nz:=near i c C;obtain⟨k,D⟩:∃ k,g' i=some k:=by
     cases e:g' i with
     | some k=>exact⟨k,rfl⟩
     | none =>
       refine absurd (λ j' y I hy=>zBv λ A=>?_) nz;obtain⟨x,Q,_⟩:=O'.path' I c hy A;rw[e] at Q;cases Q
   have ki:=Zt i k c D;have f:=O'.home k;refine⟨k,zAs.mpr ⟨zAs.mpr ⟨(w.2 k).mpr ⟨i,c,D⟩,(arcOf _).mpr ?_⟩,?_⟩,D⟩
   . have l1:=qp4 l f
     rcases Nat.lt_or_ge (Ad n (hm k) s) (Ad n (hm k) t) with E | E
     . have:=K9 f p l E
       lia
     have G:=Hk f l p E;have e2:=Hk f c p (zAm ki E);lia
   simp only[ne_eq,zBe];intro e;subst e
   have:=O'.inj i j k c B D q
   subst this;exact Dj C
 have p3:=qq9 z _ X;lia
theorem qal2{n:Nat}{hm:Int->Nat}{g:Nat->Option Int}{S:List Int}(O:Ord n hm g)(O':Ord n hm g')(z:Holds n g S)(l:Holds n g' S)(t:s < n)(Z:Iu n hm g s)(Z':Iu n hm g' s)(c:j < n)(A:∀ i,i < n->Ad n (next n s) i < Ad n (next n s) j->g i=g' i)(m:g j=some x):g' j=some x:=by
 have a:=ql5 t;have pos:∀{f:Nat->Option Int},Iu n hm f s->∀{i k},i < n->f i=some k->Ad n (next n s) (hm k)<=Ad n (next n s) i:=λ{f} Zf {i k} h D=>by
   have u:=Zf i k h D;have b:=O.home k;have P:=qaU5 t;have Q:=qp4 b a;have E:=Hk a b t (by lia);refine zBv λ F=>?_
   have e2:=K9 a h b F;lia
 have o:∀{i k},i < n->Ad n (next n s) (hm k)<=Ad n (next n s) j->Ad n (next n s) j < Ad n (next n s) i->Ad n (hm k) j < Ad n (hm k) i:=λ{i k} h u G=>by
   have b:=O.home k;have E:=Hk a b c u;have e2:=Hk a b h (zAm u (zBz G));lia
 obtain⟨p,d,q⟩:=(l.2 x).mp ((z.2 x).mpr ⟨j,c,m⟩);have H:=pos Z c m;by_cases I:Ad n (next n s) p < Ad n (next n s) j
 . have e:=A p d I
   rw[q] at e
   have:=O.inj p j x d c e m
   subst this;exact q
 by_cases J:Ad n (next n s) p=Ad n (next n s) j
 . have e:=ql0 a d c J
   subst e;exact q
 exfalso;obtain⟨y,v,B⟩:=O'.path' d c q (o d H (by lia));obtain⟨i,h,r⟩:=(z.2 y).mp ((l.2 y).mpr ⟨j,c,v⟩);have K:=pos Z' c v;by_cases L:Ad n (next n s) i < Ad n (next n s) j
 . have e:=A i h L
   rw[r] at e
   have:=O'.inj i j y h c e.symm v
   subst this;lia
 by_cases M:Ad n (next n s) i=Ad n (next n s) j
 . have e:=ql0 a h c M
   subst e;rw[m] at r;cases r;exact qar2 B
 obtain⟨w,C,N⟩:=O.path' h c r (o h K (by lia));rw[m] at C;cases C;exact qO2 B N
theorem qaz0{n:Nat}{hm:Int->Nat}{g:Nat->Option Int}{S:List Int}(O:Ord n hm g)(O':Ord n hm g')(C:La n hm g)(C':La n hm g')(d:Holds n g S)(a:Holds n g' S):∀ j,j < n->g j=g' j:=by
 obtain⟨s,f,Z⟩:=O.zero C;have Z':=qal4 O O' C' d a f Z;have main:∀ m j,j < n->Ad n (next n s) j < m->g j=g' j:=by
   intro m
   induction m with
   | zero=>intro j _ h;exact absurd h (by lia)
   | succ m l =>
     intro j c p;have b:∀ i,i < n->Ad n (next n s) i < Ad n (next n s) j->g i=g' i:=λ i k h=>l i k (by lia)
     cases e:g j with
     | some x=>exact(qal2 O O' d a f Z Z' c b e).symm
     | none =>
       cases o:g' j with
       | none=>rfl
       | some y =>
         have:=qal2 O' O a d f Z' Z c (λ i k h=>(b i k h).symm) o
         rw[e] at this;cases this
 exact λ j c=>main _ j c (Nat.lt_succ_self _)
noncomputable def set(g:Nat->Option Int)(r:Nat)(c:Int):Nat->Option Int:=λ j=>if j=r then some c else g j
theorem qd6{g:Nat->Option Int}{r:Nat}{c:Int}:set g r c r=some c:=by unfold set;rw[if_pos rfl]
theorem qh0{g:Nat->Option Int}{r:Nat}{c:Int}(h:j≠r):set g r c j=g j:=by unfold set;rw[if_neg h]
structure Walk(n:Nat)(wr:Bool)(hm:Int->Nat)(T:List Int)(k:Int)(e:Nat)(g:Nat->Option Int)(c:Int)(r:Nat):Prop where
 o:Ord n hm g
 nin:∀ i,i < n->g i≠some c
 hr:r < n
 pth:∀ j,j < n->Ad n (hm c) j < Ad n (hm c) r->∃ x,g j=some x/\ahead n hm j x c
 he:e < n
 ge:g e=none
 lim:Ad n (hm k) r<=Ad n (hm k) e
 all:∀ x,x∈T↔(x=c∨∃ i,i < n/\g i=some x)
 ln:wr=false->hm k<=e/\hm c<=r/\∀ i x,i < n->g i=some x->hm x<=i
section
variable{n:Nat}{wr:Bool}{hm:Int->Nat}{T:List Int}{k:Int}{e:Nat}{g:Nat->Option Int}{c:Int}{r:Nat}
theorem Walk.lt(W:Walk n wr hm T k e g c r)(a:g r=some y):Ad n (hm k) r < Ad n (hm k) e:=by
 have b:=W.lim
 have:r≠e:=λ z=>by have:=W.ge;rw[<- z,a] at this;cases this
 have d:Ad n (hm k) r≠Ad n (hm k) e:=λ z=>this (ql0 (W.o.home k) W.hr W.he z)
 lia
theorem Walk.nx(W:Walk n wr hm T k e g c r)(a:g r=some y):Ad n (hm k) (next n r)=Ad n (hm k) r+1:=by
 have b:=W.lt a;have d:=qp4 W.he (W.o.home k);exact qk9 (W.o.home k) W.hr (by lia)
theorem way(a:hm x < n)(c:j < n)(b:e < n)(d:g e=none)(f:∀ i,i < n->Ad n (hm x) i<=Ad n (hm x) j->∃ y,g i=some y):Ad n (hm x) j+1 < n:=by
 have k:=qp4 c a;have l:=qp4 b a;by_cases h:Ad n (hm x) e<=Ad n (hm x) j
 . obtain⟨y,q⟩:=f e b h
   rw[d] at q;cases q
 lia
theorem Walk.on(W:Walk n wr hm T k e g c r)(a:g r=some y)(h:¬ ahead n hm r c y):Walk n wr hm T k e g c (next n r):=by
 have v:=W.nx a;have A:=W.lt a;have b:=W.o.home c;have l:c≠y:=λ z=>W.nin r W.hr (by rw[z];exact a)
 have w:Ad n (hm c) r+1 < n:=way (g:=g) b W.hr W.he W.ge λ i d m=>by
   by_cases q:Ad n (hm c) i=Ad n (hm c) r
   . rw[ql0 b d W.hr q];exact⟨y,a⟩
   obtain⟨x,p,_⟩:=W.pth i d (by lia);exact⟨x,p⟩
 have B:=qk9 b W.hr w;refine⟨W.o,W.nin,ql5 W.hr,λ j f m=>?_,W.he,W.ge,by lia,W.all,λ s=>?_⟩
 . by_cases q:Ad n (hm c) j=Ad n (hm c) r
   . rw[ql0 b f W.hr q];exact⟨y,a,qar1 l h⟩
   exact W.pth j f (by lia)
 obtain⟨t,C,u⟩:=W.ln s;refine⟨t,?_,u⟩;have D:=dor n (hm k) r;have E:=dor n (hm k) e;have F:=nor n r
 have:=W.hr
 have:=W.he
 have:=W.o.home k
 lia
theorem Walk.swap(W:Walk n wr hm T k e g c r)(l:g r=some y)(h:ahead n hm r c y):Walk n wr hm T k e (set g r c) y (next n r):=by
 have J:=W.nx l;have K:=W.lt l;have D:=W.o.home c;have m:=W.o.home y;have E:c≠y:=λ z=>W.nin r W.hr (by rw[z];exact l)
 have F:e≠r:=λ z=>by have:=W.ge;rw[z,l] at this;cases this
 have w:Ad n (hm y) r+1 < n:=way (g:=g) m W.hr W.he W.ge λ i f u=>by
   by_cases q:Ad n (hm y) i=Ad n (hm y) r
   . rw[ql0 m f W.hr q];exact⟨y,l⟩
   obtain⟨x,s,_⟩:=W.o.path' W.hr f l (by lia);exact⟨x,s⟩
 have L:=qk9 m W.hr w;refine⟨⟨W.o.home,λ i j x f t a p=>?_,λ i x f a u=>?_⟩,λ i f a=>?_,ql5 W.hr,λ j t u=>?_,W.he,by rw[qh0 F];exact W.ge,by lia,λ x=>?_,λ G=>?_⟩
 . by_cases b:i=r
   . by_cases e2:j=r
     . rw[b,e2]
     rw[b,qd6] at a;rw[qh0 e2] at p;cases a;exact absurd p (W.nin j t)
   rw[qh0 b] at a;by_cases e2:j=r
   . rw[e2,qd6] at p
     cases p;exact absurd a (W.nin i f)
   rw[qh0 e2] at p;exact W.o.inj i j x f t a p
 . have H:=ql3 f
   by_cases b:i=r
   . subst b
     rw[qd6] at a;cases a;have d:=qe8 D f u;obtain⟨x,s,A⟩:=W.pth (prev n i) H (by lia)
     have:prev n i≠i:=λ z=>by rw[z] at d;lia
     exact⟨x,by rw[qh0 this];exact s,A⟩
   rw[qh0 b] at a;obtain⟨z,v,B⟩:=W.o.ord i x f a u;by_cases e2:prev n i=r
   . rw[e2] at v B ⊢
     rw[l] at v;cases v;exact⟨c,qd6,qw0 h B⟩
   exact⟨z,by rw[qh0 e2];exact v,B⟩
 . by_cases b:i=r
   . rw[b,qd6] at a
     exact E (Option.some.inj a)
   rw[qh0 b] at a;exact b (W.o.inj i r y f W.hr a l)
 . by_cases q:Ad n (hm y) j=Ad n (hm y) r
   . rw[ql0 m t W.hr q];exact⟨c,qd6,h⟩
   obtain⟨x,s,A⟩:=W.o.path' W.hr t l (by lia)
   have:j≠r:=λ z=>q (by rw[z])
   exact⟨x,by rw[qh0 this];exact s,A⟩
 . rw[W.all x]
   constructor
   . rintro (z | ⟨i,f,a⟩)
     . exact .inr ⟨r,W.hr,by rw[z];exact qd6⟩
     by_cases b:i=r
     . rw[b,l] at a
       exact .inl (Option.some.inj a).symm
     exact .inr ⟨i,f,by rw[qh0 b];exact a⟩
   rintro (z | ⟨i,f,a⟩)
   . exact .inr ⟨r,W.hr,by rw[z];exact l⟩
   by_cases b:i=r
   . rw[b,qd6] at a
     exact .inl (Option.some.inj a).symm
   rw[qh0 b] at a;exact .inr ⟨i,f,a⟩
 obtain⟨I,M,C⟩:=W.ln G;have N:=C r y W.hr l;refine⟨I,?_,λ i x f a=>?_⟩
 . have O:=dor n (hm k) r
   have P:=dor n (hm k) e;have Q:=nor n r
   have:=W.hr
   have:=W.he
   have:=W.o.home k
   lia
 by_cases b:i=r
 . rw[b,qd6] at a
   cases a;lia
 rw[qh0 b] at a;exact C i x f a
structure Kept(n:Nat)(wr:Bool)(hm:Int->Nat)(g:Nat->Option Int)(S:List Int):Prop where
 o:Ord n hm g
 c:La n hm g
 h:Holds n g S
 ln:wr=false->∀ i x,i < n->g i=some x->hm x<=i
theorem Walk.done(W:Walk n wr hm T k e g c r)(v:T.Nodup)(q:g r=none):Kept n wr hm (set g r c) T:=by
 have w:=W.o.home c;have h:=ql5 W.hr;refine⟨⟨W.o.home,λ i j x f t a l=>?_,λ i x f a p=>?_⟩,⟨next n r,h,λ x u=>?_⟩,⟨v,λ x=>?_⟩,λ y=>?_⟩
 . by_cases b:i=r
   . by_cases e2:j=r
     . rw[b,e2]
     rw[b,qd6] at a;rw[qh0 e2] at l;cases a;exact absurd l (W.nin j t)
   rw[qh0 b] at a;by_cases e2:j=r
   . rw[e2,qd6] at l
     cases l;exact absurd a (W.nin i f)
   rw[qh0 e2] at l;exact W.o.inj i j x f t a l
 . have A:=ql3 f
   by_cases b:i=r
   . subst b
     rw[qd6] at a;cases a;have d:=qe8 w f p;obtain⟨x,s,B⟩:=W.pth (prev n i) A (by lia)
     have:prev n i≠i:=λ z=>by rw[z] at d;lia
     exact⟨x,by rw[qh0 this];exact s,B⟩
   rw[qh0 b] at a;obtain⟨z,m,C⟩:=W.o.ord i x f a p;by_cases e2:prev n i=r
   . rw[e2,q] at m;cases m
   exact⟨z,by rw[qh0 e2];exact m,C⟩
 . have s:=W.o.home x
   by_cases b:next n r=r
   . have:=nor n r
     have:=W.hr
     lia
   rw[qh0 b] at u;by_cases p:0 < Ad n (hm x) (next n r)
   . obtain⟨z,m,_⟩:=W.o.ord _ x h u p
     rw[qk5 W.hr,q] at m;cases m
   exact((qc0 s h).mp (by lia)).symm
 . rw[W.all x]
   constructor
   . rintro (z | ⟨i,f,a⟩)
     . exact⟨r,W.hr,by rw[z];exact qd6⟩
     exact⟨i,f,by rw[qh0 (λ z=>by rw[z,q] at a;cases a)];exact a⟩
   rintro⟨i,f,a⟩;by_cases b:i=r
   . rw[b,qd6] at a
     exact .inl (Option.some.inj a).symm
   rw[qh0 b] at a;exact .inr ⟨i,f,a⟩
 obtain⟨E,F,D⟩:=W.ln y;intro i x f a;by_cases b:i=r
 . rw[b,qd6] at a
   cases a;lia
 rw[qh0 b] at a;exact D i x f a
def Lb(n:Nat)(wr:Bool)(hm:Int->Nat)(g:Nat->Option Int)(k:Int)(e:Nat):Prop:=e < n/\g e=none/\(wr=false->hm k<=e)
theorem Kept.start{S:List Int}(K:Kept n wr hm g S)(c:¬ k∈S)(F:Lb n wr hm g k e):Walk n wr hm (S++[k]) k e g k (hm k):=by
 have a:=K.o.home k;have z:=(qc0 a a).mpr rfl;refine⟨K.o,λ i d f=>c ((K.h.2 k).mpr ⟨i,d,f⟩),a,λ j _ l=>by lia,F.1,F.2.1,by lia,λ x=>?_,λ b=>⟨F.2.2 b,zA3 _,K.ln b⟩⟩;rw[zAa,zAq,K.h.2 x];exact⟨Or.symm,Or.symm⟩
def Crowd(n:Nat)(wr:Bool)(hm:Int->Nat)(T:List Int)(q:Nat):Prop:=q < n/\if wr=true then q=0/\n < T.length else n - q < (T.filter (λ k=>decide (q<=hm k))).length
theorem qO9(h:i∈(List.range (n - q)).map (q + ·)):q<=i/\i < n:=by
 obtain⟨j,a,rfl⟩:=zBb.mp h
 have:=zAj.mp a
 lia
theorem qaA0(h:q<=i)(h':i < n):i∈(List.range (n - q)).map (q + ·):=zBb.mpr ⟨i - q,zAj.mpr (by lia),by lia⟩
theorem qac7{m:Nat}:((List.range m).map (q + ·)).Nodup:=by
 rw[List.nodup_iff_pairwise_ne,List.pairwise_map];exact(List.nodup_iff_pairwise_ne.mp List.nodup_range).imp λ h=>by lia
theorem Kept.no_crowd{S:List Int}(K:Kept n wr hm g S)(q:Nat):¬ Crowd n wr hm S q:=by
 rintro⟨d,h⟩;cases wr with
 | true =>
   rw[if_pos rfl] at h
   have:=qE7 (g:=g) (List.range n) S K.h.1 λ k a=>by
     obtain⟨i,b,c⟩:=(K.h.2 k).mp a;exact⟨i,zAj.mpr b,c⟩
   rw[zAz] at this;lia
 | false =>
   rw[if_neg (by decide)] at h
   have:=qE7 (g:=g) ((List.range (n - q)).map (q + ·)) (S.filter (λ k=>decide (q<=hm k))) (K.h.1.filter _) λ k a=>by
     obtain⟨a,d⟩:=zAs.mp a;obtain⟨i,b,c⟩:=(K.h.2 k).mp a
     have:=K.ln rfl i k b c
     have d:=zA9 d;exact⟨i,qaA0 (by lia) b,c⟩
   rw[zAf,zAz] at this;lia
theorem Kept.crowd{S:List Int}(K:Kept n wr hm g S)(u:∀ e,¬ Lb n wr hm g k e):∃ q,Crowd n wr hm (S++[k]) q:=by
 have v:=K.o.home k;have full:∀ e,e < n->(wr=false->hm k<=e)->∃ x,g e=some x:=λ e f s=>by
   cases h:g e with
   | some x=>exact⟨x,rfl⟩
   | none=>exact absurd ⟨f,h,s⟩ (u e)
 cases wr with
 | true =>
   refine⟨0,by lia,?_⟩;rw[if_pos rfl];refine⟨rfl,?_⟩
   have:=qV2 (g:=g) (List.range n) S List.nodup_range (λ i b=>by
     obtain⟨x,c⟩:=full i (zAj.mp b) (λ z=>by cases z);exact⟨x,(K.h.2 x).mpr ⟨i,zAj.mp b,c⟩,c⟩) λ i b j p x=>K.o.inj i j x (zAj.mp b) (zAj.mp p)
   rw[zAz] at this;rw[zA7];simp only[zAn,zBy];lia
 | false =>
   have w:∀ m,m<=hm k->(∀ e,m<=e->e < n->∃ x,g e=some x)->∃ q,q<=hm k/\(∀ e,q<=e->e < n->∃ x,g e=some x)/\(q=0∨g (q - 1)=none):=by
     intro m
     induction m with
     | zero=>exact λ d a=>⟨0,d,a,.inl rfl⟩
     | succ m A =>
       intro d a;cases h:g m with
       | none=>exact⟨m+1,d,a,.inr h⟩
       | some x =>
         refine A (by lia) λ e f r=>?_
         by_cases q:e=m
         . rw[q];exact⟨x,h⟩
         exact a e (by lia) r
   obtain⟨q,B,C,l⟩:=w (hm k) (zA3 _) λ e f r=>full e r λ _=>f
   refine⟨q,by lia,?_⟩;rw[if_neg (by decide)]
   have:=qV2 (g:=g) ((List.range (n - q)).map (q + ·)) (S.filter (λ k=>decide (q<=hm k))) qac7 (λ i b=>by
     obtain⟨d,a⟩:=qO9 b;obtain⟨x,c⟩:=C i d a;refine⟨x,zAs.mpr ⟨(K.h.2 x).mpr ⟨i,a,c⟩,zAo ?_⟩,c⟩;have D:=K.o.home x;have s:=K.ln rfl i x a c;refine zBv λ E=>?_
     rcases l with l | l
     . lia
     obtain⟨y,t,_⟩:=K.o.path' (i:=q - 1) a (by lia) c (by
       have G:=dor n (hm x) (q - 1);have H:=dor n (hm x) i
       lia)
     rw[l] at t;cases t) λ i b j p x=>K.o.inj i j x (qO9 b).2 (qO9 p).2
   rw[zAf,zAz] at this;have F:([k].filter (λ k=>decide (q<=hm k))).length=1:=by simp[B]
   rw[List.filter_append,zA7,F];lia
theorem Crowd.mono{S T:List Int}(h:Crowd n wr hm S q)(a:S.Sublist T):Crowd n wr hm T q:=by
 obtain⟨b,h⟩:=h;refine⟨b,?_⟩;cases wr with
 | true =>
   rw[if_pos rfl] at h ⊢
   have:=a.length_le
   exact⟨h.1,by lia⟩
 | false =>
   rw[if_neg (by decide)] at h ⊢
   have:=(a.filter (λ k=>decide (q<=hm k))).length_le
   lia
theorem Crowd.perm{S T:List Int}(h:Crowd n wr hm S q)(a:S.Perm T):Crowd n wr hm T q:=by
 obtain⟨b,h⟩:=h;refine⟨b,?_⟩;rw[<- a.length_eq,<- (a.filter _).length_eq];exact h
theorem Kept.none(a:0 < n)(b:∀ k,hm k < n):Kept n wr hm (λ _=>none) [] :=
 ⟨⟨b,(λ _ _ _ _ _ h=>by cases h),λ _ _ _ h=>by cases h⟩,⟨0,a,λ _ h=>by cases h⟩,⟨List.nodup_nil,λ k=>⟨λ h=>by simp at h,λ ⟨_,_,h⟩=>by cases h⟩⟩,λ _ _ _ _ h=>by cases h⟩
theorem Kept.same{S S':List Int}(K:Kept n wr hm g S)(K':Kept n wr hm g' S')(a:∀ k,k∈S↔k∈S'):∀ j,j < n->g j=g' j :=
 qaz0 K.o K'.o K.c K'.c K.h ⟨K.h.1,λ k=>(a k).trans (K'.h.2 k)⟩
end
noncomputable def rot(n s t:Nat):Nat:=if s+t < n then s+t else s+t - n
theorem L9{n:Nat}(a:s < n)(b:t < n):rot n s t < n:=by unfold rot;split<;>lia
theorem qJ7{n:Nat}(a:s < n)(b:t < n):Ad n s (rot n s t)=t:=by
 have d:=dor n s (rot n s t);unfold rot at d ⊢;split at d<;>split<;>lia
theorem qA1{n:Nat}(a:s < n)(hi:i < n):rot n s (Ad n s i)=i:=by
 have d:=dor n s i;unfold rot
 split<;>lia
def An(n:Nat)(g:Nat->Option Int)(r J:Nat):Nat->Option Int:=λ i=>if Ad n r i < J then g (next n i) else if Ad n r i=J then none else g i
structure Sh(n:Nat)(hm:Int->Nat)(g:Nat->Option Int)(r J:Nat):Prop where
 hJ:J < n
 mv:∀ t,1<=t->t<=J->∃ x,g (rot n r t)=some x/\0 < Ad n (hm x) (rot n r t)
section
variable{n:Nat}{wr:Bool}{hm:Int->Nat}{g:Nat->Option Int}{r J:Nat}{k:Int}{S:List Int}
theorem qae5(a:r < n):rot n r 0=r:=by unfold rot;rw[if_pos (by lia)];rfl
theorem qA8(a:r < n)(b:t+1 < n):next n (rot n r t)=rot n r (t+1):=by
 unfold rot next
 split<;>split<;>split<;>lia
theorem qw2(a:r < n)(b:J+1=n):next n (rot n r J)=r:=by
 unfold rot next
 split<;>split<;>lia
theorem Sh.start(a:r < n):Sh n hm g r 0:=⟨by lia,λ t b c=>by lia⟩
theorem Sh.step(h:Sh n hm g r J)(a:J+1 < n)(b:g (rot n r (J+1))=some x)(c:0 < Ad n (hm x) (rot n r (J+1))):Sh n hm g r (J+1):=⟨a,λ t d f=>by
 by_cases e:t=J+1
 . subst e;exact⟨x,b,c⟩
 exact h.mv t d (by lia)⟩
theorem qy7(a:r < n)(hi:i < n):An n g r 0 i=if i=r then none else g i:=by
 unfold An;rw[if_neg (by lia)];by_cases e:i=r
 . rw[if_pos e,if_pos ((qc0 a hi).mpr e)]
 rw[if_neg e,if_neg λ z=>e ((qc0 a hi).mp z)]
theorem qL0(a:r < n)(b:J < n):An n g r J (rot n r J)=none:=by
 unfold An;rw[qJ7 a b,if_neg (by lia),if_pos rfl]
theorem qy8(a:r < n)(b:J+1 < n):An n g r J (rot n r (J+1))=g (rot n r (J+1)):=by
 unfold An;rw[qJ7 a b,if_neg (by lia),if_neg (by lia)]
theorem qE4(a:r < n)(b:0 < J):An n g r J r=g (next n r):=by
 unfold An;rw[(qc0 a a).mpr rfl,if_pos b]
theorem qad4(a:r < n)(d:J+1 < n)(hi:i < n):An n g r (J+1) i=if i=rot n r (J+1) then none else if i=rot n r J then g (rot n r (J+1)) else An n g r J i:=by
 have j:=qJ7 a d;have e2:=qJ7 a (show J < n by lia);by_cases b:i=rot n r (J+1)
 . rw[if_pos b,b];exact qL0 a d
 rw[if_neg b];have f:Ad n r i≠J+1:=λ z=>b (by rw[<- z,qA1 a hi])
 by_cases c:i=rot n r J
 . rw[if_pos c,c]
   unfold An;rw[e2,if_pos (by lia),qA8 a d]
 rw[if_neg c];have h:Ad n r i≠J:=λ z=>c (by rw[<- z,qA1 a hi])
 unfold An;by_cases e:Ad n r i < J
 . rw[if_pos e,if_pos (by lia)]
 rw[if_neg e,if_neg (by lia),if_neg f,if_neg h]
theorem Sh.round(h:Sh n hm g r J)(O:Ord n hm g)(C:La n hm g)(d:r < n)(j:g r=some k)(u:J+1=n)(l:g (next n r)=some x)(v:0 < J):Ad n (hm x) r=0:=by
 obtain⟨i,a,m⟩:=C;have f:i=r:=by
   by_cases e:i=r
   . exact e
   have w:=qp4 a d;have A:Ad n r i≠0:=λ z=>e ((qc0 d a).mp z)
   obtain⟨y,b,c⟩:=h.mv (Ad n r i) (by lia) (by lia);rw[qA1 d a] at b c
   have:=(qc0 (O.home y) a).mpr (m y b).symm
   lia
 subst f;have s:=(qc0 (O.home k) a).mpr (m k j).symm;have o:next n i=rot n i 1:=by
   have:=qA8 (t:=0) a (by lia)
   rwa[qae5 a] at this
 obtain⟨y,b,c⟩:=h.mv 1 (zA3 _) (by lia);rw[<- o,l] at b;cases b;rw[<- o] at c;obtain⟨z,p,q⟩:=O.ord (next n i) x (ql5 a) l c;rw[qk5 a,j] at p;cases p;rw[qk5 a] at q;unfold ahead at q;lia
def Stop(n:Nat)(wr:Bool)(hm:Int->Nat)(g:Nat->Option Int)(r J:Nat):Prop:=(wr=false/\rot n r J+1=n)∨∀ x,An n g r J (next n (rot n r J))=some x->Ad n (hm x) (next n (rot n r J))=0
theorem Kept.taken(K:Kept n wr hm g S)(m:r < n)(E:g r=some k)(h:Sh n hm g r J)(st:Stop n wr hm g r J):Kept n wr hm (An n g r J) (S.filter λ x=>decide (x≠k)):=by
 have N:=h.hJ;have O:=K.o;have F:∀ i x,i < n->Ad n r i < J->g (next n i)=some x->Ad n r (next n i)=Ad n r i+1/\0 < Ad n (hm x) (next n i)/\Ad n (hm x) i+1=Ad n (hm x) (next n i):=λ i x f H l=>by
   have e:=qk9 m f (by lia);obtain⟨y,u,C⟩:=h.mv (Ad n r i+1) (by lia) (by lia);rw[<- e,qA1 m (ql5 f)] at u C;rw[l] at u;cases u
   have:=qe8 (O.home x) (ql5 f) C
   rw[qk5 f] at this;exact⟨e,C,by lia⟩
 have w:∀ i x,i < n->An n g r J i=some x->(Ad n r i < J/\g (next n i)=some x)∨(J < Ad n r i/\g i=some x):=λ i x f l=>by
   unfold An at l;split at l
   . exact .inl ⟨by assumption,l⟩
   split at l
   . cases l
   exact .inr ⟨by lia,l⟩
 have A:∀ i x,i < n->An n g r J i=some x->∃ j,j < n/\g j=some x/\j≠r/\(j=next n i/\Ad n r i < J∨j=i/\J < Ad n r i):=λ i x f l=>by
   rcases w i x f l with⟨s,q⟩ | ⟨s,q⟩
   . refine⟨next n i,ql5 f,q,λ z=>?_,.inl ⟨rfl,s⟩⟩
     have e:=qk9 m f (by lia);rw[z,(qc0 m m).mpr rfl] at e;lia
   refine⟨i,f,q,λ z=>?_,.inr ⟨rfl,s⟩⟩;rw[z,(qc0 m m).mpr rfl] at s;lia
 refine⟨⟨O.home,λ i j x f t s q=>?_,λ i x f l H=>?_⟩,?_,⟨K.h.1.filter _,λ x=>?_⟩,λ I i x f l=>?_⟩
 . obtain⟨a,v,U,na,V⟩:=A i x f s
   obtain⟨b,L,W,nb,X⟩:=A j x t q
   have:=O.inj a b x v L U W
   subst this;rcases V with⟨D,P⟩ | ⟨D,P⟩<;>rcases X with⟨e2,Q⟩ | ⟨e2,Q⟩
   . have:=congrArg (prev n) (D.symm.trans e2)
     rwa[qk5 f,qk5 t] at this
   . have e:=qk9 m f (by lia)
     rw[<- D,e2] at e;lia
   . have e:=qk9 m t (by lia)
     rw[<- e2,D] at e;lia
   rw[<- D,<- e2]
 . rcases w i x f l with⟨s,q⟩ | ⟨s,q⟩
   . obtain⟨e,C,Y⟩:=F i x f s q
     obtain⟨y,u,v⟩:=O.ord (next n i) x (ql5 f) q C;rw[qk5 f] at u v;have G:0 < Ad n (hm y) i:=by unfold ahead at v;lia
     have D:=qe8 (O.home x) f H;have e2:=qe8 (O.home y) f G;have Z:=ql3 f;by_cases e0:Ad n r i=0
     . have:=(qc0 m f).mp e0
       subst this;have hlast:Ad n i (prev n i)=n - 1:=by have d:=dor n i (prev n i);have p:=por n i;lia
       by_cases M:J+1=n
       . have:=h.round O K.c f E M q (by lia)
         lia
       rw[E] at u;cases u;obtain⟨z,hz,L⟩:=O.ord i k f E G;refine⟨z,?_,?_⟩
       . unfold An
         rw[hlast,if_neg (by lia),if_neg (by lia)];exact hz
       refine qw0 L ?_;unfold ahead at v ⊢;lia
     have R:=qe8 m f (by lia);refine⟨y,?_,?_⟩
     . unfold An
       rw[R,if_pos (by lia),qI4 f];exact u
     unfold ahead at v ⊢;lia
   obtain⟨y,u,v⟩:=O.ord i x f q H;refine⟨y,?_,v⟩;have R:=qe8 m f (by lia);by_cases T:Ad n r (prev n i)=J
   . exfalso
     have ei:prev n i=rot n r J:=by rw[<- T,qA1 m (ql3 f)]
     have en:next n (rot n r J)=i:=by rw[<- ei,qI4 f]
     rcases st with⟨I,hl⟩ | st
     . have:i=0:=by have p:=nor n (rot n r J);lia
       subst this
       have:=K.ln I 0 x f q
       have d:=dor n (hm x) 0;lia
     rw[en] at st
     have:=st x l
     lia
   unfold An;rw[if_neg (by lia),if_neg T];exact u
 . exact⟨rot n r J,L9 m N,λ x l=>by rw[qL0 m N] at l;cases l⟩
 . rw[zAs,K.h.2 x,zBe]
   constructor
   . rintro⟨⟨j,t,B⟩,ne⟩
     have jr:j≠r:=λ z=>ne (by rw[z,E] at B;exact(Option.some.inj B).symm)
     have d0:Ad n r j≠0:=λ z=>jr ((qc0 m t).mp z)
     by_cases H:Ad n r j<=J
     . have e:=qe8 m t (by lia)
       refine⟨prev n j,ql3 t,?_⟩;unfold An;rw[e,if_pos (by lia),qI4 t];exact B
     refine⟨j,t,?_⟩;unfold An;rw[if_neg (by lia),if_neg (by lia)];exact B
   rintro⟨i,f,l⟩;obtain⟨j,t,B,nj,_⟩:=A i x f l;refine⟨⟨j,t,B⟩,λ z=>?_⟩;subst z;exact nj (O.inj j r x t m B E)
 rcases w i x f l with⟨s,q⟩ | ⟨s,q⟩
 . obtain⟨e,C,Y⟩:=F i x f s q
   have:=K.ln I (next n i) x (ql5 f) q
   have nn:=nor n i;have P:=dor n (hm x) (next n i);have Q:=dor n (hm x) i;lia
 exact K.ln I i x f q
end
section
variable{n:Nat}{hm:Int->Nat}{g:Nat->Option Int}{S:List Int}{k:Int}
theorem Kept.len{wr:Bool}(KP:Kept n wr hm g S):S.length<=n:=by
 have:=qE7 (g:=g) (List.range n) S KP.h.1 λ k a=>by
   obtain⟨i,b,e⟩:=(KP.h.2 k).mp a;exact⟨i,zAj.mpr b,e⟩
 rwa[zAz] at this
end
theorem Kept.of_perm{n:Nat}{wr:Bool}{hm:Int->Nat}{g:Nat->Option Int}{S T:List Int}(K:Kept n wr hm g S)(p:S.Perm T):Kept n wr hm g T:=⟨K.1,K.2,⟨p.nodup_iff.mp K.h.1,λ k=>p.mem_iff.symm.trans (K.h.2 k)⟩,K.4⟩
end Row
namespace My
open PySem L2
noncomputable def bagL(x y z:Int)(L:Addr):HO:=.lst [.int x,.int y,.int z,.ref L]
structure BagAt(H:Hp)(p:Addr)(x y z:Int)(L:Addr)(ns:List Int):Prop where
 at_:H p=some (bagL x y z L)
 li:H L=some (.lst (ns.map V.int))
 x0:0<=x
 y0:0<=y
 y1:y < 2147483647
 z0:0<=z
 nn:∀ n∈ns,0<=n
def Bag(H:Hp)(p L:Addr):Prop:=∃ x y z a,BagAt H p x y z L a
theorem qaU8{L:Addr}{x y z:Int}{ns:List Int}:HO.lst (ns.map V.int)≠bagL x y z L:=by
 intro e;have e:ns.map V.int=[.int x,.int y,.int z,.ref L]:=HO.lst.inj e;have e:=congrArg (·[3]?) e;rw[zB3] at e;cases h:ns[3]? <;> rw[h] at e<;>cases e
theorem BagAt.ne{H:Hp}{p L:Addr}{x y z:Int}{ns:List Int}(B:BagAt H p x y z L ns):L≠p:=ne_of B.li B.at_ qaU8
def qaO9(K:PySem.W.Frag):Sp:=λ vs H Q _=>∃(l:Addr)(ns:List Int),vs=[.ref l]/\SqL K H l (ns.map V.int)/\ns.length<=63 /\
 ∀ p L H',H p=none->H L=none->Same H H'->Bag H' p L->Q (.ref p) H'
def Kt(K:PySem.W.Frag):Sp:=λ vs H Q _=>∃(l:Addr)(ns:List Int),vs=[.ref l]/\SqL K H l (ns.map V.int)/\ns.length<=63/\∀ H',Q (.bl true) H'
abbrev Pr:=List (Int×Int)
def Ag(n:Int):Prop:=0<=n/\n<=1000000000000000000
structure qx6(ps:Pr):Prop where
 len:ps.length<=64
 nd:(ps.map (·.1)).Nodup
 nums:∀ p∈ps,Ag p.1/\Ag p.2
noncomputable def qg7(n:Int)(ps:Pr)(k:Int):Int:=((ps.lookup k).getD k) % n
def Ax(n:Int)(wr:Bool)(ps:Pr)(k r:Int):Option Int :=
 if wr then some ((r - qg7 n ps k) % n) else if 0<=r - qg7 n ps k then some (r - qg7 n ps k) else none
def ql9(n:Int)(wr:Bool)(ps:Pr)(r a other:Int):Bool :=
 match Ax n wr ps a r,Ax n wr ps other r with
 | none,_=>false
 | some _,none=>true
 | some x,some y=>decide (y < x)||(decide (x=y)&&decide (a < other))
theorem qai6{n:Int}(h:1<=n)(ps:Pr)(k:Int):0<=qg7 n ps k/\qg7 n ps k < n:=⟨zBx _ (by lia),zBp _ (by lia)⟩
end My
namespace My
open PySem L2
open Row
variable{n:Int}{ps:Pr}{r:Nat}
def hmOf(n:Int)(ps:Pr)(k:Int):Nat:=(qg7 n ps k).toNat
theorem Hl(h:1<=n)(k:Int):hmOf n ps k < n.toNat:=by
 have:=qai6 h ps k
 unfold hmOf;lia
theorem qai7(h:1<=n)(k:Int):((hmOf n ps k:Nat):Int)=qg7 n ps k:=by
 have:=qai6 h ps k
 unfold hmOf;lia
theorem qap9(a:1<=n){h:Nat}(b:h < n.toNat)(c:r < n.toNat):((r:Int) - (h:Int)) % n=(Ad n.toNat h r:Nat):=by
 rcases dor n.toNat h r with⟨h1,h2⟩ | ⟨h1,h2⟩
 . rw[Int.emod_eq_of_lt (by lia) (by lia)];lia
 have e:((r:Int) - (h:Int)) % n=((r:Int) - (h:Int)+n) % n:=by rw[Int.add_emod_right]
 rw[e,Int.emod_eq_of_lt (by lia) (by lia)]
 have:=h2 (by lia)
 lia
theorem qN6{wr:Bool}{k:Int}(a:1<=n)(c:r < n.toNat)(d:wr=false->hmOf n ps k<=r):Ax n wr ps k (r:Int)=some ((Ad n.toNat (hmOf n ps k) r:Nat):Int):=by
 have e:=Hl (ps:=ps) a k;have b:=qai7 (ps:=ps) a k;unfold Ax;cases wr with
 | true=>rw[if_pos rfl,<- b,qap9 a e c]
 | false =>
   have:=d rfl
   rw[if_neg (by decide),if_pos (by lia),<- b]
   have:=dor n.toNat (hmOf n ps k) r
   congr 1;lia
theorem qK1{wr:Bool}{x y:Int}(a:1<=n)(b:r < n.toNat)(c:wr=false->hmOf n ps x<=r)(d:wr=false->hmOf n ps y<=r):ql9 n wr ps (r:Int) x y=true↔ahead n.toNat (hmOf n ps) r x y:=by
 unfold ql9 ahead;rw[qN6 a b c,qN6 a b d];show (decide _||(decide _&&decide _))=true↔_;simp only[Bool.or_eq_true,zB8,zBe];lia
theorem qaz6(a:1<=n)(b:r < n.toNat):((r:Int)+1) % n=(Row.next n.toNat r:Nat):=by
 rcases nor n.toNat r with⟨h,e⟩ | ⟨h,e⟩
 . rw[e,show ((r:Int)+1)=n by lia];simp
 rw[e,Int.emod_eq_of_lt (by lia) (by lia)];rfl
end My
namespace LV
open PySem L2
variable{Ao:List Addr}{N:List Str}{P:List Value->Prop}{Q:VK}{base:Heap}{cd:Expr}{cm z:Bool}{i j n:Nat}{kvs:List (Key×V)}{lo:Int}{mg:Str->Option Value}{op:CmpOp}{pl:Sem Bool}{v w:V}{vs:List V}{α:Type}{σ':St}
inductive D where
 | non | bl (b:Bool) | int (i:Int) | str (x:Str) | ty (n:String) | adr (a:Addr)
 | tup (ds:List D) | lst (z:Bool) (ds:List D) | dct (z:Bool) (kvs:List (Key×D)) | ins (z:Bool) (C:Addr) (fs:List (Str×D))
 | scr (ns:List Int)
 | exn (C:Addr) (fs:List (Str×D))
 | hole (v:V) | unk
mutual
def D.imm:D->Bool
 | .tup ds=>D.imms ds
 | .lst z _=>z
 | .dct z _=>z
 | .ins z _ _=>z
 | _=>true
def D.imms:List D->Bool
 | []=>true
 | d::r=>d.imm&&D.imms r
end
mutual
def D.fz:D->D
 | .tup ds=>.tup (D.fzs ds)
 | .lst _ ds=>.lst true (D.fzs ds)
 | .dct _ kvs=>.dct true (D.fzk kvs)
 | .ins _ C fs=>.ins true C (D.fzf fs)
 | .exn C fs=>.exn C (D.fzf fs)
 | .non=>.non | .bl b=>.bl b | .int i=>.int i | .str x=>.str x | .ty n=>.ty n | .adr a=>.adr a | .scr c=>.scr c | .hole v=>.hole v | .unk=>.unk
def D.fzs:List D->List D
 | []=>[]
 | d::r=>d.fz::D.fzs r
def D.fzk:List (Key×D)->List (Key×D)
 | []=>[]
 | (k,d)::r=>(k,d.fz)::D.fzk r
def D.fzf:List (Str×D)->List (Str×D)
 | []=>[]
 | (k,d)::r=>(k,d.fz)::D.fzf r
end
mutual
inductive Rep(F:Addr->Prop)(H:Hp):V->D->List Addr->Prop
 | non:Rep F H .non .non []
 | bl (b:Bool):Rep F H (.bl b) (.bl b) []
 | int (i:Int):Rep F H (.int i) (.int i) []
 | str (x:Str):Rep F H (.str x) (.str x) []
 | ty (n:String):Rep F H (.ty n) (.ty n) []
 | adr (a:Addr):Rep F H (.ref a) (.adr a) []
 | tup {a:Addr} {vs:List V} {ds:List D} {A:List Addr} (h:H a=some (.tup vs)) (r:Reps F H vs ds A):Rep F H (.ref a) (.tup ds) A
 | lst {a:Addr} {vs:List V} {ds:List D} {A:List Addr} (h:H a=some (.lst vs)) (r:Reps F H vs ds A):Rep F H (.ref a) (.lst false ds) (a::A)
 | lstZ {a:Addr} {vs:List V} {ds:List D} (h:H a=some (.lst vs)) (f:F a) (r:Reps F H vs ds []):Rep F H (.ref a) (.lst true ds) []
 | dct {a:Addr} {kvs:List (Key×V)} {kds:List (Key×D)} {A:List Addr} (h:H a=some (.dK kvs)) (e:kvs.map (·.1)=kds.map (·.1)) (r:Reps F H (kvs.map (·.2)) (kds.map (·.2)) A):Rep F H (.ref a) (.dct false kds) (a::A)
 | dctZ {a:Addr} {kvs:List (Key×V)} {kds:List (Key×D)} (h:H a=some (.dK kvs)) (f:F a) (e:kvs.map (·.1)=kds.map (·.1)) (r:Reps F H (kvs.map (·.2)) (kds.map (·.2)) []):Rep F H (.ref a) (.dct true kds) []
 | ins {a C dx:Addr} {fvs:List (Str×V)} {fds:List (Str×D)} {A:List Addr} (h:H a=some (.ins C dx fvs)) (e:fvs.map (·.1)=fds.map (·.1)) (r:Reps F H (fvs.map (·.2)) (fds.map (·.2)) A):Rep F H (.ref a) (.ins false C fds) (a::A)
 | insZ {a C dx:Addr} {fvs:List (Str×V)} {fds:List (Str×D)} (h:H a=some (.ins C dx fvs)) (f:F a) (e:fvs.map (·.1)=fds.map (·.1)) (r:Reps F H (fvs.map (·.2)) (fds.map (·.2)) []):Rep F H (.ref a) (.ins true C fds) []
 | scr {a:Addr} {o:Obj} {ns:List Int} (h:H a=some (.frz o (.lst (ns.map V.int)))):Rep F H (.ref a) (.scr ns) []
 | exn {a C dx:Addr} {fvs:List (Str×V)} {fds:List (Str×D)} (h:H a=some (Be a C (some dx) false)) (g:H dx=some (XD dx fvs)) (e:fvs.map (·.1)=fds.map (·.1)) (r:Reps F H (fvs.map (·.2)) (fds.map (·.2)) []):Rep F H (.ref a) (.exn C fds) []
 | hole (v:V):Rep F H v (.hole v) []
 | unk (v:V):Rep F H v .unk []
inductive Reps(F:Addr->Prop)(H:Hp):List V->List D->List Addr->Prop
 | nil:Reps F H [] [] []
 | cons {v:V} {d:D} {A:List Addr} {vs:List V} {ds:List D} {B:List Addr} (h:Rep F H v d A) (t:Reps F H vs ds B):Reps F H (v::vs) (d::ds) (A++B)
end
noncomputable def He:HO->Bool
 | .lst _=>true
 | .dK _=>true
 | .ins _ _ _=>true
 | _=>false
section
variable{F F':Addr->Prop}{H H':Hp}
def Cel(H:Hp)(A:List Addr):Prop:=∀ b∈A,∃ o,H b=some o/\He o=true
theorem Cel.cons{A:List Addr}{a:Addr}{o:HO}(e:H a=some o)(m:He o=true)(h:Cel H A):Cel H (a::A):=λ b c=>(zAl.mp c).elim (λ q=>q ▸ ⟨_,e,m⟩) (h b)
theorem Cel.app{A B:List Addr}(h:Cel H A)(g:Cel H B):Cel H (A++B):=λ b a=>(zAa.mp a).elim (h b) (g b)
theorem Rep.cells{v:V}{d:D}{A:List Addr}(r:Rep F H v d A):Cel H A:=by
 induction r using Rep.rec (motive_2:=λ _ _ A _=>Cel H A) with
 | tup e r i=>exact i
 | lst e r i=>exact Cel.cons e rfl i
 | dct e _ r i=>exact Cel.cons e rfl i
 | ins e _ r i=>exact Cel.cons e rfl i
 | cons _ _ i j=>exact Cel.app i j
 | _=>nofun
theorem Reps.cells{vs:List V}{ds:List D}{A:List Addr}(r:Reps F H vs ds A):Cel H A:=by
 induction r using Reps.rec (motive_1:=λ _ _ _ _=>True) with
 | cons h _ i j=>exact Cel.app h.cells j
 | nil=>nofun
 | _=>trivial
structure Kp(F:Addr->Prop)(H:Hp)(W F':Addr->Prop)(H':Hp):Prop where
 fr:∀ b o,H b=some o->¬ W b->H' b=some o
 wm:∀ b,W b->∃ o,H b=some o/\He o=true
 wf:∀ b,W b->¬ F b
 mF:∀ b,F b->F' b
theorem Kp.tup{W:Addr->Prop}(k:Kp F H W F' H'){a:Addr}{vs:List V}(h:H a=some (.tup vs)):H' a=some (.tup vs):=by
 refine k.fr a _ h λ w=>?_
 obtain⟨o,e,m⟩:=k.wm a w;rw[h] at e;cases e;cases m
theorem Kp.imm{W:Addr->Prop}(k:Kp F H W F' H'){a:Addr}{o:HO}(h:H a=some o)(n:He o=false):H' a=some o:=by
 refine k.fr a _ h λ w=>?_
 obtain⟨o,e,m⟩:=k.wm a w;rw[h] at e;cases e;rw[n] at m;cases m
theorem Kp.frz{W:Addr->Prop}(k:Kp F H W F' H'){a:Addr}{o:Obj}{u:HO}(h:H a=some (.frz o u)):H' a=some (.frz o u):=by
 refine k.fr a _ h λ w=>?_
 obtain⟨o,e,m⟩:=k.wm a w;rw[h] at e;cases e;cases m
theorem Rep.keep{W:Addr->Prop}(k:Kp F H W F' H'){v:V}{d:D}{A:List Addr}(r:Rep F H v d A):(∀ b∈A,¬ W b)->Rep F' H' v d A:=by
 induction r using Rep.rec (motive_2:=λ a c A _=>(∀ b∈A,¬ W b)->Reps F' H' a c A) with
 | tup e r i=>exact λ h=>.tup (k.tup e) (i h)
 | lst e r i=>exact λ h=>.lst (k.fr _ _ e (zAv.mp h).1) (i (zAv.mp h).2)
 | lstZ e f r i=>exact λ h=>.lstZ (k.fr _ _ e λ w=>k.wf _ w f) (k.mF _ f) (i h)
 | dct e q r i=>exact λ h=>.dct (k.fr _ _ e (zAv.mp h).1) q (i (zAv.mp h).2)
 | dctZ e f q r i=>exact λ h=>.dctZ (k.fr _ _ e λ w=>k.wf _ w f) (k.mF _ f) q (i h)
 | ins e q r i=>exact λ h=>.ins (k.fr _ _ e (zAv.mp h).1) q (i (zAv.mp h).2)
 | insZ e f q r i=>exact λ h=>.insZ (k.fr _ _ e λ w=>k.wf _ w f) (k.mF _ f) q (i h)
 | scr e=>exact λ _=>.scr (k.frz e)
 | exn e g q r i=>exact λ h=>.exn (k.imm e rfl) (k.imm g rfl) q (i h)
 | cons _ _ i j h=>exact Reps.cons (i (zBc.mp h).1) (j (zBc.mp h).2)
 | nil=>constructor
 | _=>intro;constructor
theorem Reps.keep{W:Addr->Prop}(k:Kp F H W F' H'){vs:List V}{ds:List D}{A:List Addr}(r:Reps F H vs ds A):(∀ b∈A,¬ W b)->Reps F' H' vs ds A:=by
 induction r using Reps.rec (motive_1:=λ _ _ _ _=>True) with
 | nil=>exact λ _=>Reps.nil
 | cons r _ i j=>exact λ h=>Reps.cons (r.keep k (zBc.mp h).1) (j (zBc.mp h).2)
 | _=>trivial
theorem Kp.same(s:Same H H'):Kp F H (λ _=>False) F H':=⟨λ b o e _=>s b o e,λ _ w=>w.elim,λ _ w=>w.elim,λ _ f=>f⟩
theorem Rep.same{d:D}{A:List Addr}(r:Rep F H v d A)(s:Same H H'):Rep F H' v d A:=r.keep (Kp.same s) λ _ _=>id
theorem Reps.same{ds:List D}{A:List Addr}(r:Reps F H vs ds A)(s:Same H H'):Reps F H' vs ds A:=r.keep (Kp.same s) λ _ _=>id
theorem Kp.more(m:∀ b,F b->F' b):Kp F H (λ _=>False) F' H:=⟨λ b o e _=>e,λ _ w=>w.elim,λ _ w=>w.elim,m⟩
mutual
theorem Rep.imm{v:V}{d:D}{A:List Addr}(r:Rep F H v d A)(h:d.imm=true):A=[]:=by
 cases r with
 | tup e r=>exact r.imms h
 | lst=>cases h
 | dct=>cases h
 | ins=>cases h
 | _=>rfl
theorem Reps.imms{vs:List V}{ds:List D}{A:List Addr}(r:Reps F H vs ds A)(h:D.imms ds=true):A=[]:=by
 cases r with
 | nil=>rfl
 | cons r t =>
   have h:=zAb.mp h;rw[r.imm h.1,t.imms h.2];rfl
end
theorem qW6(kds:List (Key×D)):(D.fzk kds).map (·.1)=kds.map (·.1)/\(D.fzk kds).map (·.2)=D.fzs (kds.map (·.2)):=by
 induction kds with
 | nil=>exact⟨rfl,rfl⟩
 | cons p r a=>obtain⟨k,d⟩:=p;simp only[D.fzk,D.fzs,zAx,a.1,a.2,and_self]
theorem qF8(kds:List (Str×D)):(D.fzf kds).map (·.1)=kds.map (·.1)/\(D.fzf kds).map (·.2)=D.fzs (kds.map (·.2)):=by
 induction kds with
 | nil=>exact⟨rfl,rfl⟩
 | cons p r a=>obtain⟨k,d⟩:=p;simp only[D.fzf,D.fzs,zAx,a.1,a.2,and_self]
theorem Rep.fz{v:V}{d:D}{A:List Addr}(r:Rep F H v d A)(m:∀ b,F b->F' b):(∀ b∈A,F' b)->Rep F' H v d.fz []:=by
 induction r using Rep.rec (motive_2:=λ a c A _=>(∀ b∈A,F' b)->Reps F' H a (D.fzs c) []) with
 | tup e r i=>exact λ h=>.tup e (i h)
 | lst e r i=>exact λ h=>.lstZ e (zAv.mp h).1 (i (zAv.mp h).2)
 | lstZ e f r i=>exact λ h=>.lstZ e (m _ f) (i h)
 | dct e q r i=>exact λ h=>.dctZ e (zAv.mp h).1 (q.trans (qW6 _).1.symm) ((qW6 _).2 ▸ i (zAv.mp h).2)
 | dctZ e f q r i=>exact λ h=>.dctZ e (m _ f) (q.trans (qW6 _).1.symm) ((qW6 _).2 ▸ i h)
 | ins e q r i=>exact λ h=>.insZ e (zAv.mp h).1 (q.trans (qF8 _).1.symm) ((qF8 _).2 ▸ i (zAv.mp h).2)
 | insZ e f q r i=>exact λ h=>.insZ e (m _ f) (q.trans (qF8 _).1.symm) ((qF8 _).2 ▸ i h)
 | scr e=>exact λ _=>.scr e
 | exn e g q r i=>exact λ h=>.exn e g (q.trans (qF8 _).1.symm) ((qF8 _).2 ▸ i h)
 | nil=>exact Reps.nil
 | cons _ _ i j h=>exact Reps.cons (A:=[]) (B:=[]) (i (zBc.mp h).1) (j (zBc.mp h).2)
 | _=>intro;constructor
end
theorem ec:∀{us:List Value},us.length=n+1->∃ a vs,us=a::vs/\vs.length=n
 | a::vs,h=>⟨a,vs,rfl,Nat.succ.inj h⟩
theorem ec0(h:P [])(us:List Value)(e:us.length=0):P us:=List.length_eq_zero_iff.mp e ▸ h
theorem ec1(h:∀ x us,us.length=n->P (x::us))(us:List Value)(e:us.length=n+1):P us:=by
 obtain⟨x,a,rfl,b⟩:=ec e;exact h x a b
theorem ec2(h:∀ us,us.length=n->P us)(us:List Value)(e:us.length+1=n+1):P us:=h us (Nat.succ.inj e)
inductive Locs(F:Addr->Prop)(H:Hp):List (Option V)->List D->List Addr->Prop
 | nil:Locs F H [] [] []
 | no {σ:List (Option V)} {ds:List D} {A:List Addr} (t:Locs F H σ ds A):Locs F H (none::σ) (.unk::ds) A
 | so {v:V} {d:D} {B:List Addr} {σ:List (Option V)} {ds:List D} {A:List Addr} (h:Rep F H v d B) (t:Locs F H σ ds A):Locs F H (some v::σ) (d::ds) (B++A)
section
variable{F F':Addr->Prop}{H H':Hp}
theorem Locs.cells{σ:List (Option V)}{ds:List D}{A:List Addr}(r:Locs F H σ ds A):∀ b∈A,∃ o,H b=some o/\He o=true:=by
 induction r with
 | nil=>intro b h;cases h
 | no t c=>exact c
 | so h t c =>
   intro b a;rcases zAa.mp a with a | a
   . exact h.cells b a
   exact c b a
theorem Locs.keep{W:Addr->Prop}(k:Kp F H W F' H'){σ:List (Option V)}{ds:List D}{A:List Addr}(r:Locs F H σ ds A):(∀ b∈A,¬ W b)->Locs F' H' σ ds A:=by
 induction r with
 | nil=>exact λ _=>.nil
 | no t a=>exact λ h=>.no (a h)
 | so h t a=>exact λ q=>.so (h.keep k λ b c=>q b (zAa.mpr (.inl c))) (a λ b c=>q b (zAa.mpr (.inr c)))
theorem Locs.same{σ:List (Option V)}{ds:List D}{A:List Addr}(r:Locs F H σ ds A)(s:Same H H'):Locs F H' σ ds A:=r.keep (Kp.same s) λ _ _=>id
theorem Locs.len{σ:List (Option V)}{ds:List D}{A:List Addr}(r:Locs F H σ ds A):σ.length=ds.length:=by
 induction r with
 | nil=>rfl
 | no t a=>simp[a]
 | so h t a=>simp[a]
theorem Locs.append{σ τ:List (Option V)}{ds es:List D}{A B:List Addr}(r:Locs F H σ ds A)(t:Locs F H τ es B):Locs F H (σ++τ) (ds++es) (A++B):=by
 induction r with
 | nil=>exact t
 | no _ a=>exact .no a
 | so h _ a=>rw[zAw];exact .so h a
inductive Ku(F:Addr->Prop)(H:Hp):Option V->D->List Addr->Prop
 | no:Ku F H none .unk []
 | so {v:V} {d:D} {B:List Addr} (h:Rep F H v d B):Ku F H (some v) d B
theorem Locs.cons{o:Option V}{d:D}{B:List Addr}{σ:List (Option V)}{ds:List D}{A:List Addr}(h:Ku F H o d B)(t:Locs F H σ ds A):Locs F H (o::σ) (d::ds) (B++A):=by
 cases h with
 | no=>exact .no t
 | so h=>exact .so h t
theorem Locs.split:∀{ds:List D}{σ:List (Option V)}{A:List Addr}{i:Nat}{d:D},Locs F H σ ds A->ds[i]? = some d ->
   ∃ σ1 o σ2 ds1 a A1 B A2,σ=σ1++o::σ2/\ds=ds1++d::a/\σ1.length=i/\ds1.length=i/\A=A1++(B++A2)/\Locs F H σ1 ds1 A1/\Ku F H o d B/\Locs F H σ2 a A2:=by
 intro ds
 induction ds with
 | nil=>intro σ A i d _ h;simp at h
 | cons e r m =>
   intro σ A i d L h;cases i with
   | zero =>
     have:e=d:=by simpa using h
     subst this;cases L with
     | no t=>exact⟨[],none,_,[],_,[],[],_,rfl,rfl,rfl,rfl,rfl,.nil,.no,t⟩
     | so q t=>exact⟨[],some _,_,[],_,[],_,_,rfl,rfl,rfl,rfl,rfl,.nil,.so q,t⟩
   | succ i =>
     have h:r[i]? = some d:=by simpa using h
     cases L with
     | no t =>
       obtain⟨σ1,o,σ2,ds1,a,A1,B,A2,b,e2,c,f,g,j,k,l⟩:=m t h;exact⟨none::σ1,o,σ2,_::ds1,a,A1,B,A2,by rw[b];rfl,by rw[e2];rfl,by simp[c],by simp[f],g,.no j,k,l⟩
     | @so v _ B0 _ _ A0 q t =>
       obtain⟨σ1,o,σ2,ds1,a,A1,B,A2,b,e2,c,f,g,j,k,l⟩:=m t h;exact⟨some v::σ1,o,σ2,_::ds1,a,B0++A1,B,A2,by rw[b];rfl,by rw[e2];rfl,by simp[c],by simp[f],by rw[g,zAw],.so q j,k,l⟩
end
theorem qr6{a b:List α}{x y:α}(h:a.length=i):(a++x::b).set i y=a++y::b:=by
 subst h;rw[List.set_append_right _ _ (zA3 _),Nat.sub_self];rfl
theorem qF7{a b:List α}{x:α}(h:a.length=i):(a++x::b)[i]? = some x:=by
 subst h;simp
structure Ok(F:Addr->Prop)(H:Hp)(A:List Addr):Prop where
 sep:∀ b,A.count b<=1
 fro:∀ b,F b->A.count b=0
 ex:∀ b,F b->∃ o,H b=some o
structure Stp(F:Addr->Prop)(H:Hp)(A:List Addr)(F':Addr->Prop)(H':Hp)(A':List Addr):Prop where
 fr:∀ b o,H b=some o->A.count b=0->H' b=some o
 sub:∀ b o,H b=some o->A.count b=0->A'.count b=0
 mono:∀ b,F b->F' b
 fnew:∀ b o,H b=some o->A.count b=0->F' b->F b
section
variable{F F1 F2:Addr->Prop}{H H1 H2:Hp}{A A1 A2 T:List Addr}
theorem Stp.refl:Stp F H A F H A:=⟨λ _ _ e _=>e,λ _ _ _ e=>e,λ _ f=>f,λ _ _ _ _ f=>f⟩
theorem Stp.trans(s:Stp F H A F1 H1 A1)(t:Stp F1 H1 A1 F2 H2 A2):Stp F H A F2 H2 A2 :=
 ⟨λ b o e q=>t.fr b o (s.fr b o e q) (s.sub b o e q),λ b o e q=>t.sub b o (s.fr b o e q) (s.sub b o e q),λ b f=>t.mono b (s.mono b f),λ b o e q f=>s.fnew b o e q (t.fnew b o (s.fr b o e q) (s.sub b o e q) f)⟩
theorem Stp.same(s:Same H H1):Stp F H A F H1 A:=⟨λ b o e _=>s b o e,λ _ _ _ e=>e,λ _ f=>f,λ _ _ _ _ f=>f⟩
theorem qa9{b:Addr}{A:List Addr}:b∈A↔A.count b≠0:=by
 rw[<- List.count_pos_iff];lia
theorem Stp.kp(s:Stp F H A F1 H1 A1)(o:Ok F H A)(c:∀ b∈A,∃ o,H b=some o/\He o=true):Kp F H (λ b=>A.count b≠0) F1 H1 :=
 ⟨λ b u e w=>s.fr b u e (by lia),λ b w=>c b (qa9.mpr w),λ b w f=>w (o.fro b f),s.mono⟩
theorem Ok.left(o:Ok F H (T++A)):Ok F H T:=⟨λ b=>by have:=o.sep b;rw[zA0] at this;lia,λ b f=>by have:=o.fro b f;rw[zA0] at this;lia,o.ex⟩
theorem Ok.right(o:Ok F H (T++A)):Ok F H A:=⟨λ b=>by have:=o.sep b;rw[zA0] at this;lia,λ b f=>by have:=o.fro b f;rw[zA0] at this;lia,o.ex⟩
theorem Ok.count(o:Ok F H A)(h:∀ b,A1.count b<=A.count b):Ok F H A1:=⟨λ b=>zAm (h b) (o.sep b),λ b f=>by have:=o.fro b f;have:=h b;lia,o.ex⟩
theorem Stp.frame(s:Stp F H A F1 H1 A1)(o:Ok F H (T++A))(c:∀ b∈T,∃ o,H b=some o/\He o=true)(d:Ok F1 H1 A1):Ok F1 H1 (T++A1)/\Stp F H (T++A) F1 H1 (T++A1):=by
 have a:∀ b,T.count b≠0->∃ u,H b=some u/\A.count b=0:=λ b h=>by
   obtain⟨u,e,_⟩:=c b (qa9.mpr h)
   have:=o.sep b
   rw[zA0] at this;exact⟨u,e,by lia⟩
 refine⟨⟨λ b=>?_,λ b f=>?_,d.ex⟩,λ b u e q=>?_,λ b u e q=>?_,s.mono,λ b u e q f=>?_⟩
 . rw[zA0]
   by_cases h:T.count b=0
   . have:=d.sep b;lia
   obtain⟨u,e,q⟩:=a b h;have g:=s.sub b u e q
   have:=o.sep b
   rw[zA0] at this;lia
 . rw[zA0,d.fro b f]
   by_cases h:T.count b=0
   . lia
   obtain⟨u,e,q⟩:=a b h
   have:=o.fro b (s.fnew b u e q f)
   rw[zA0] at this;lia
 . rw[zA0] at q;exact s.fr b u e (by lia)
 . rw[zA0] at q ⊢;have:=s.sub b u e (by lia);lia
 rw[zA0] at q;exact s.fnew b u e (by lia) f
theorem Stp.count(s:Stp F H A F1 H1 A1)(h:∀ b,A2.count b<=A1.count b):Stp F H A F1 H1 A2:=⟨s.fr,λ b o e q=>by have:=s.sub b o e q;have:=h b;lia,s.mono,s.fnew⟩
theorem Stp.pre(s:Stp F H A F1 H1 A1)(h:∀ b,A.count b=A2.count b):Stp F H A2 F1 H1 A1:=⟨λ b o e q=>s.fr b o e (by rw[h];exact q),λ b o e q=>s.sub b o e (by rw[h];exact q),s.mono,λ b o e q f=>s.fnew b o e (by rw[h];exact q) f⟩
end
structure New(H:Hp)(B:List Addr):Prop where
 one:∀ b,B.count b<=1
 new:∀ b o,H b=some o->B.count b=0
section
variable{F:Addr->Prop}{H H':Hp}{A B:List Addr}
theorem New.nil:New H []:=⟨λ b=>by simp,λ b o _=>by simp⟩
theorem New.ok(n:New H B)(o:Ok F H A)(c:∀ b∈A,∃ o,H b=some o/\He o=true)(s:Same H H'):Ok F H' (B++A):=by
 refine⟨λ b=>?_,λ b f=>?_,λ b f=>?_⟩
 . rw[zA0]
   have a:=n.one b;have d:=o.sep b;by_cases h:A.count b=0
   . lia
   obtain⟨u,e,_⟩:=c b (qa9.mpr h)
   have:=n.new b u e
   lia
 . rw[zA0,o.fro b f]
   obtain⟨u,e⟩:=o.ex b f;rw[n.new b u e]
 obtain⟨u,e⟩:=o.ex b f;exact⟨u,s b u e⟩
theorem New.append{H1:Hp}{B1:List Addr}(n:New H B)(s:Same H H1)(c:∀ b∈B,∃ o,H1 b=some o/\He o=true)(a:New H1 B1):New H (B++B1):=by
 refine⟨λ b=>?_,λ b o e=>?_⟩
 . rw[zA0]
   have d:=n.one b;have f:=a.one b;by_cases h:B.count b=0
   . lia
   obtain⟨u,e,_⟩:=c b (qa9.mpr h)
   have:=a.new b u e
   lia
 rw[zA0,n.new b o e,a.new b o (s b o e)]
theorem Ok.same(o:Ok F H A)(s:Same H H'):Ok F H' A:=⟨o.sep,o.fro,λ b f=>let ⟨u,e⟩:=o.ex b f;⟨u,s b u e⟩⟩
theorem New.stp(n:New H B)(s:Same H H'):Stp F H A F H' (B++A):=⟨λ b o e _=>s b o e,λ b o e q=>by rw[zA0,n.new b o e,q],λ _ f=>f,λ _ _ _ _ f=>f⟩
end
structure Exn where
 C:Addr
 fs:List (Str×D)
def RepX(F:Addr->Prop)(H:Hp)(e:Addr)(x:Exn):Prop :=
 ∃ b,H e=some (Be e x.C b false)/\(x.fs=[]∨∃ dx a,b=some dx/\H dx=some (XD dx a)/\a.map (·.1)=x.fs.map (·.1)/\Reps F H (a.map (·.2)) (x.fs.map (·.2)) [])
abbrev Ds:=List D
abbrev DK:=D->Ds->Prop
abbrev XKd:=Exn->Ds->Prop
abbrev VT:=Ds->DK->XKd->Prop
abbrev VTT:=Ds->(Bool->Ds->Prop)->XKd->Prop
abbrev VTA:=Ds->(Ds->Ds->Prop)->XKd->Prop
abbrev FV:=Ds->Option D
structure Vc where
 E:St->XK
 W:Nat->Bool
 av:List (Option V)
 gv:List (Option V)
structure Sta(c:Vc)(F:Addr->Prop)(H:Hp)(σ:St)(ds:Ds)(A:List Addr):Prop where
 loc:Locs F H (σ++c.gv) ds A
 ok:Ok F H A
 len:c.av.length=(σ++c.gv).length
 ag:∀ i,c.W i=true->(σ++c.gv)[i]? = c.av[i]?
theorem Sta.same{c:Vc}{F:Addr->Prop}{H H':Hp}{σ:St}{ds:Ds}{A:List Addr}(S:Sta c F H σ ds A)(s:Same H H'):Sta c F H' σ ds A:=⟨S.loc.same s,S.ok.same s,S.len,S.ag⟩
def Xc(c:Vc)(xe:XKd)(F:Addr->Prop)(H:Hp)(A:List Addr):Prop :=
 ∀ x a σ' e H' F' A',xe x a->RepX F' H' e x->Sta c F' H' σ' a A'->Stp F H A F' H' A'->c.E σ' (.ref e) none H'
theorem Xc.step{c:Vc}{xe:XKd}{F F1:Addr->Prop}{H H1:Hp}{A A1:List Addr}(x:Xc c xe F H A)(s:Stp F H A F1 H1 A1):Xc c xe F1 H1 A1:=λ y a σ' e H' F' A' h r S t=>x y a σ' e H' F' A' h r S (s.trans t)
def kE(c:Vc)(σ:St)(F:Addr->Prop)(H:Hp)(A:List Addr)(Q:VK):DK:=λ d a=>∀ v H' F' T A',Rep F' H' v d T->Sta c F' H' σ a A'->Ok F' H' (T++A')->Stp F H A F' H' (T++A')->Q v H'
inductive LiftE(c:Vc)(t:VT)(σ:St)(H:Hp)(Q:VK):Prop
 | mk (F:Addr->Prop) (ds:Ds) (A:List Addr) (xe:XKd) (S:Sta c F H σ ds A) (x:Xc c xe F H A) (q:t ds (kE c σ F H A Q) xe):LiftE c t σ H Q
def Bd(c:Vc)(t:VT):TE:=LiftE c t
inductive LiftV(c:Vc)(own:Bool)(f:FV)(σ:St)(H:Hp)(Q:VK):Prop
 | mk (F:Addr->Prop) (ds:Ds) (A:List Addr) (d:D) (S:Sta c F H σ ds A) (e:f ds=some d) (q:∀ v H' B,Rep F H' v d B->Same H H'->(own=true->New H B)->Q v H'):LiftV c own f σ H Q
def liftV(c:Vc)(own:Bool)(f:FV):TE:=LiftV c own f
inductive qaO0(c:Vc)(own:Bool)(f:Ds->Option Ds)(σ:St)(H:Hp)(Q:List V->Hp->Prop):Prop
 | mk (F:Addr->Prop) (ds:Ds) (A:List Addr) (xs:Ds) (S:Sta c F H σ ds A) (e:f ds=some xs) (q:∀ vs H' B,Reps F H' vs xs B->Same H H'->(own=true->New H B)->Q vs H'):qaO0 c own f σ H Q
def qaK1(c:Vc)(own:Bool)(f:Ds->Option Ds):TA:=qaO0 c own f
inductive qaO2(c:Vc)(t:VTA)(σ:St)(H:Hp)(Q:List V->Hp->Prop):Prop
 | mk (F:Addr->Prop) (ds:Ds) (A:List Addr) (xe:XKd) (S:Sta c F H σ ds A) (x:Xc c xe F H A) (q:t ds (λ xs ds'=>∀ vs H' F' T A',Reps F' H' vs xs T->Sta c F' H' σ ds' A'->Stp F H A F' H' A'->Q vs H') xe):qaO2 c t σ H Q
def qaA3(c:Vc)(t:VTA):TA:=qaO2 c t
inductive LiftT(c:Vc)(t:VTT)(σ:St)(H:Hp)(Q:Bool->Hp->Prop):Prop
 | mk (F:Addr->Prop) (ds:Ds) (A:List Addr) (xe:XKd) (S:Sta c F H σ ds A) (x:Xc c xe F H A) (q:t ds (λ b ds'=>∀ H' F' A',Sta c F' H' σ ds' A'->Stp F H A F' H' A'->Q b H') xe):LiftT c t σ H Q
def Gv(c:Vc)(t:VTT):TT:=LiftT c t
structure VE(c:Vc)(X:Cx)(e:Expr)(t:VT):Prop where
 h:PE X e (Bd c t)
 m:∀ ds (Q Q':DK) (xe xe':XKd),(∀ d ds',Q d ds'->Q' d ds')->(∀ x ds',xe x ds'->xe' x ds')->t ds Q xe->t ds Q' xe'
structure VV(c:Vc)(X:Cx)(e:Expr)(own:Bool)(f:FV):Prop where
 h:PE X e (liftV c own f)
structure VVs(c:Vc)(X:Cx)(es:List Expr)(own:Bool)(f:Ds->Option Ds):Prop where
 h:PA X es (qaK1 c own f)
structure VOs(c:Vc)(X:Cx)(es:List Expr)(t:VTA):Prop where
 h:PA X es (qaA3 c t)
 m:∀ ds (Q Q':Ds->Ds->Prop) (xe xe':XKd),(∀ d ds',Q d ds'->Q' d ds')->(∀ x ds',xe x ds'->xe' x ds')->t ds Q xe->t ds Q' xe'
structure VTe(c:Vc)(X:Cx)(e:Expr)(t:VTT):Prop where
 h:PT X e (Gv c t)
 m:∀ ds (Q Q':Bool->Ds->Prop) (xe xe':XKd),(∀ d ds',Q d ds'->Q' d ds')->(∀ x ds',xe x ds'->xe' x ds')->t ds Q xe->t ds Q' xe'
theorem PE.mono{X:Cx}{e:Expr}{t t':TE}(h:PE X e t)(i:∀ σ H Q,t' σ H Q->t σ H Q):PE X e t':=λ Gm s σ H Q I q=>h Gm s σ H Q I (i σ H Q q)
theorem PT.mono{X:Cx}{e:Expr}{t t':TT}(h:PT X e t)(i:∀ σ H Q,t' σ H Q->t σ H Q):PT X e t':=λ Gm s σ H Q I q=>h Gm s σ H Q I (i σ H Q q)
theorem PW.mono{X:Cx}{e:Expr}{t t':TT}(h:PW X e t)(i:∀ σ H Q,t' σ H Q->t σ H Q):PW X e t':=λ w Gm s σ H Q I q=>h w Gm s σ H Q I (i σ H Q q)
theorem PA.mono{X:Cx}{es:List Expr}{t t':TA}(h:PA X es t)(i:∀ σ H Q,t' σ H Q->t σ H Q):PA X es t':=λ p Gm s σ H Q I q=>h p Gm s σ H Q I (i σ H Q q)
theorem PS.mono{X:Cx}{st:Stmt}{t t':TS}(h:PS X st t)(i:∀ D σ H,t' D σ H->t D σ H):PS X st t':=λ Gm s σ H D I q=>h Gm s σ H D I (i D σ H q)
theorem PSs.mono{X:Cx}{st:List Stmt}{t t':TS}(h:PSs X st t)(i:∀ D σ H,t' D σ H->t D σ H):PSs X st t':=λ Gm s σ H D I q=>h Gm s σ H D I (i D σ H q)
def orF{α:Type}(o:Option α)(k:α->Prop):Prop:=match o with | some a=>k a | none=>False
theorem qa5{o:Option α}{k b:α->Prop}(h:∀ a,k a->b a):orF o k->orF o b:=by
 cases o with
 | none=>exact id
 | some a=>exact h a
theorem qa7{o:Option α}{k:α->Prop}:orF o k↔∃ a,o=some a/\k a:=by
 cases o with
 | none=>exact⟨λ h=>h.elim,λ ⟨_,e,_⟩=>by cases e⟩
 | some a=>exact⟨λ h=>⟨a,rfl,h⟩,λ ⟨b,e,h⟩=>by cases e;exact h⟩
section
variable{c:Vc}{X:Cx}{e:Expr}{F:Addr->Prop}{H H':Hp}{σ:St}{ds:Ds}{A:List Addr}
theorem Sta.new{B:List Addr}(S:Sta c F H σ ds A)(n:New H B)(s:Same H H'):Ok F H' (B++A):=n.ok S.ok S.loc.cells s
def Bz(f:FV):VT:=λ ds Q _=>orF (f ds) λ d=>Q d ds
def Br(f:FV):VT:=λ ds Q _=>orF (f ds) λ d=>d.imm=true/\Q d ds
theorem qa4{f:FV}(h:VV c X e true f):VE c X e (Bz f):=by
 refine⟨PE.mono h.h λ σ H Q a=>?_,λ b Q Q' g i j _=>qa5 λ d=>j d b⟩;obtain⟨F,b,A,g,S,x,q⟩:=a;obtain⟨d,e,q⟩:=qa7.mp q;exact⟨F,b,A,d,S,e,λ v H' B r s n=>q v H' F B A r (S.same s) (S.new (n rfl) s) ((n rfl).stp s)⟩
theorem qb7{own:Bool}{f:FV}(h:VV c X e own f):VE c X e (Br f):=by
 refine⟨PE.mono h.h λ σ H Q a=>?_,λ b Q Q' g i j _=>qa5 λ d=>And.imp_right (j d b)⟩;obtain⟨F,b,A,g,S,x,q⟩:=a;obtain⟨d,e,k,q⟩:=qa7.mp q;refine⟨F,b,A,d,S,e,λ v H' B r s _=>?_⟩
 have:=r.imm k
 subst this;exact q v H' F [] A r (S.same s) (S.ok.same s) (.same s)
theorem Jy{d:D}(h:PE X e (tC v))(r:∀ F H,Rep F H v d []):VV c X e true (λ _=>some d) :=
 ⟨PE.mono h λ σ H Q ⟨F,a,A,b,S,e,q⟩=>by cases e;exact q v H [] (r F H) (λ _ _ z=>z) λ _=>New.nil⟩
noncomputable def D.known:D->Bool
 | .unk=>false
 | .hole _=>false
 | _=>true
def rdN(i:Nat):FV:=λ ds=>match ds[i]? with
 | some d=>if d.known=true then some d else none
 | none=>none
theorem qo7{d:D}:rdN i ds=some d↔ds[i]? = some d/\d.known=true:=by
 unfold rdN;cases h:ds[i]? with
 | none=>simp
 | some x =>
   dsimp only;split
   . rename_i hk;constructor
     . intro e;cases e;exact⟨rfl,hk⟩
     rintro⟨e,_⟩;exact e
   rename_i hk;constructor
   . intro e;cases e
   rintro⟨e,a⟩;cases e;exact absurd a hk
theorem Sta.at{d:D}(S:Sta c F H σ ds A)(hi:i < σ.length)(h:ds[i]? = some d)(a:d.known=true):∃ v B,σ[i]? = some (some v)/\Rep F H v d B/\∀ b,B.count b<=A.count b:=by
 obtain⟨σ1,o,σ2,e,f,A1,B,A2,g,e2,j,m,k,n,l,p⟩:=S.loc.split h;cases l with
 | no=>cases a
 | @so v _ _ r =>
   refine⟨v,B,?_,r,λ b=>by rw[k];simp only[zA0];lia⟩
   have:(σ++c.gv)[i]? = some (some v):=by rw[g];exact qF7 j
   rwa[zAr hi] at this
theorem qaD8{x:Str}{pos:Pos}(h:PE X (.Name x pos) (Ir i))(hi:∀ Gm σ H s,Inv X Gm σ H s->i < σ.length):VV c X (.Name x pos) false (rdN i):=by
 refine⟨λ Gm s σ H Q I a=>?_⟩;obtain⟨F,g,A,d,S,e,q⟩:=a;refine h Gm s σ H Q I ?_;obtain⟨e,b⟩:=qo7.mp e;obtain⟨v,B,f,r,_⟩:=S.at (hi Gm σ H s I) e b;exact⟨v,f,q v H B r (λ _ _ z=>z) λ z=>by cases z⟩
theorem qo2{X:Cx}{x:Str}(a:X.N[i]? = some x):∀ Gm σ H s,Inv X Gm σ H s->i < σ.length:=λ Gm σ H s I=>by
 rw[I.len];exact(zA5.mp a).1
end
def Sub(H:Hp)(B B':List Addr):Prop:=∀ b,B'.count b<=B.count b∨(B'.count b<=1/\H b=none)
theorem Sub.new{H H1:Hp}{B B':List Addr}(s:Sub H1 B B')(n:New H B)(q:Same H H1):New H B':=by
 refine⟨λ b=>?_,λ b o e=>?_⟩
 . rcases s b with h | ⟨h,_⟩
   . have:=n.one b;lia
   exact h
 rcases s b with h | ⟨_,h⟩
 . have:=n.new b o e;lia
 rw[q b o e] at h;cases h
def OpS(nw:Bool)(r:List V->Hp->VK->Prop)(g:Ds->Option D):Prop:=∀ F H vs xs B d (Q:VK),Reps F H vs xs B->g xs=some d ->
 (∀ v H' B',Rep F H' v d B'->Same H H'->(if nw=true then New H B' else Sub H B B')->Q v H')->r vs H Q
def A6(nw:Bool)(r:R2)(g:D->D->Option D):Prop:=∀ F H v w x y B d (Q:VK),Reps F H [v,w] [x,y] B->g x y=some d ->
 (∀ v H' B',Rep F H' v d B'->Same H H'->(if nw=true then New H B' else Sub H B B')->Q v H')->r v w H Q
noncomputable def f2(g:D->D->Option D)(fa fb:FV):FV:=λ ds=>(fa ds).bind λ x=>(fb ds).bind λ y=>g x y
theorem qaB9{g:D->D->Option D}{fa fb:FV}{ds:Ds}{d:D}:f2 g fa fb ds=some d↔∃ x y,fa ds=some x/\fb ds=some y/\g x y=some d:=by
 unfold f2;cases a:fa ds with
 | none=>simp
 | some x=>cases b:fb ds with
   | none=>simp
   | some y=>simp
noncomputable def f1(g:D->Option D)(fa:FV):FV:=λ ds=>(fa ds).bind g
theorem qap1{g:D->Option D}{fa:FV}{ds:Ds}{d:D}:f1 g fa ds=some d↔∃ x,fa ds=some x/\g x=some d:=by
 unfold f1;cases a:fa ds with
 | none=>simp
 | some x=>simp
theorem Jo{F:Addr->Prop}{H:Hp}{d e:D}{A B:List Addr}(r:Rep F H v d A)(s:Rep F H w e B):Reps F H [v,w] [d,e] (A++(B++[])):=.cons r (.cons s .nil)
section
variable{c:Vc}{X:Cx}{a b:Expr}{oa ob nw:Bool}{fa fb:FV}{r:R2}{g:D->D->Option D}{ta tb:VT}
theorem op_vv(h:A6 nw r g):∀ σ H Q,liftV c (nw||(oa&&ob)) (f2 g fa fb) σ H Q->tOp r (liftV c oa fa) (liftV c ob fb) σ H Q:=by
 rintro σ H Q ⟨F,k,A,d,S,e,q⟩;obtain⟨x,y,m,n,p⟩:=qaB9.mp e;refine⟨F,k,A,x,S,m,λ v H1 B1 l a s=>⟨F,k,A,y,S.same a,n,λ w H2 B2 t i z=>?_⟩⟩;refine h F H2 v w x y _ d Q (Jo (l.same i) t) p λ u H3 B3 B C f=>?_
 refine q u H3 B3 B ((a.trans i).trans C) λ j=>?_
 cases nw with
 | true=>rw[if_pos rfl] at f;exact⟨f.one,λ b o e=>f.new b o (i b o (a b o e))⟩
 | false =>
   rw[if_neg (by decide)] at f;have j:=zAb.mp j
   have:=(s j.1).append a l.cells (z j.2)
   exact f.new (by rw[zAg];exact this) (a.trans i)
def t2(g:D->D->Option D)(ta tb:VT):VT:=λ ds Q xe=>ta ds (λ x ds1=>tb ds1 (λ y a=>orF (g x y) λ d=>Q d a) xe) xe
theorem qar5(j:VE c X a ta)(k:VE c X b tb):∀ ds (Q Q':DK) (xe f:XKd),(∀ d e,Q d e->Q' d e)->(∀ x e,xe x e->f x e)->t2 g ta tb ds Q xe->t2 g ta tb ds Q' f :=
 λ ds Q Q' xe f l i=>j.m _ _ _ _ _ (λ d n=>k.m _ _ _ _ _ (λ d h=>qa5 λ z=>l z h) i) i
theorem op_ee(s:VE c X a ta)(i:VE c X b tb)(h:A6 true r g):∀ σ H Q,Bd c (t2 g ta tb) σ H Q->tOp r (Bd c ta) (Bd c tb) σ H Q:=by
 rintro σ H Q ⟨F,t,A,o,S,x,q⟩;refine⟨F,t,A,o,S,x,s.m _ _ _ _ _ (λ p j q v H1 F1 T A1 y S1 B C=>?_) (λ _ _ z=>z) q⟩;have e:Stp F H A F1 H1 A1:=C.count λ b=>by rw[zA0];lia
 refine⟨F1,j,A1,o,S1,x.step e,i.m _ _ _ _ _ (λ D E q w H2 F2 T2 A2 G S2 L I=>?_) (λ _ _ z=>z) q⟩;obtain⟨d,J,q⟩:=qa7.mp q;have f:Stp F1 H1 A1 F2 H2 A2:=I.count λ b=>by rw[zA0];lia
 have k:Rep F2 H2 v p T:=y.keep (f.kp S1.ok S1.loc.cells) λ b i M=>by
   have:=B.sep b
   rw[zA0] at this
   have:=qa9.mp i
   lia
 refine h F2 H2 v w p D _ d Q (Jo k G) J λ u H3 B3 K l n=>?_
 rw[if_pos rfl] at n;exact q u H3 F2 B3 A2 K (S2.same l) (S2.new n l) ((e.trans f).trans (n.stp l))
def t2v(g:D->D->Option D)(ta:VT)(fb:FV):VT:=λ ds Q xe=>ta ds (λ x ds1=>orF ((fb ds1).bind (g x)) λ d=>Q d ds1) xe
theorem qaw3(h:VE c X a ta):∀ ds (Q Q':DK) (xe e:XKd),(∀ d b,Q d b->Q' d b)->(∀ x b,xe x b->e x b)->t2v g ta fb ds Q xe->t2v g ta fb ds Q' e :=
 λ ds Q Q' xe e i j=>h.m _ _ _ _ _ (λ d f=>qa5 λ z=>i z f) j
theorem op_ev(s:VE c X a ta)(h:A6 true r g):∀ σ H Q,Bd c (t2v g ta fb) σ H Q->tOp r (Bd c ta) (liftV c ob fb) σ H Q:=by
 rintro σ H Q ⟨F,t,A,B,S,x,q⟩;refine⟨F,t,A,B,S,x,s.m _ _ _ _ _ (λ C j q v H1 F1 T A1 D S1 L E=>?_) (λ _ _ z=>z) q⟩;have k:Stp F H A F1 H1 A1:=E.count λ b=>by rw[zA0];lia
 obtain⟨d,l,q⟩:=qa7.mp q;obtain⟨y,G,l⟩:=zA1.mp l;refine⟨F1,j,A1,y,S1,G,λ w H2 B2 I n _=>?_⟩;refine h F1 H2 v w C y _ d Q (Jo (D.same n) I) l λ u H3 B3 J K p=>?_
 rw[if_pos rfl] at p;have f:=n.trans K;have i:New H1 B3:=⟨p.one,λ b o e=>p.new b o (n b o e)⟩
 exact q u H3 F1 B3 A1 J (S1.same f) (S1.new i f) (k.trans (i.stp f))
def OpS1(nw:Bool)(r:V->Hp->VK->Prop)(g:D->Option D):Prop:=∀ F H v x B d (Q:VK),Rep F H v x B->g x=some d ->
 (∀ v H' B',Rep F H' v d B'->Same H H'->(if nw=true then New H B' else Sub H B B')->Q v H')->r v H Q
def t1(g:D->Option D)(ta:VT):VT:=λ ds Q xe=>ta ds (λ x ds1=>orF (g x) λ d=>Q d ds1) xe
variable{r1:V->Hp->VK->Prop}{g1:D->Option D}
theorem op_v(h:OpS1 nw r1 g1):∀ σ H Q,liftV c (nw||oa) (f1 g1 fa) σ H Q->liftV c oa fa σ H (λ x H1=>r1 x H1 Q):=by
 rintro σ H Q ⟨F,g,A,d,S,e,q⟩;obtain⟨x,i,j⟩:=qap1.mp e;refine⟨F,g,A,x,S,i,λ v H1 B1 r1 f k=>?_⟩;refine h F H1 v x _ d Q r1 j λ u H3 B3 l m a=>?_
 refine q u H3 B3 l (f.trans m) λ n=>?_
 cases nw with
 | true=>rw[if_pos rfl] at a;exact⟨a.one,λ b o e=>a.new b o (f b o e)⟩
 | false=>rw[if_neg (by decide)] at a;exact a.new (k n) f
end
theorem qao2{F F1:Addr->Prop}{H H1 H3:Hp}{A A1 T B:List Addr}(d:Ok F1 H1 (T++A1))(c:Stp F H A F1 H1 (T++A1))(j:∀ b∈A1,∃ o,H1 b=some o/\He o=true)(i:Same H1 H3)(g:Sub H1 T B):Ok F1 H3 (B++A1)/\Stp F H A F1 H3 (B++A1):=by
 refine⟨⟨λ b=>?_,λ b f=>?_,λ b f=>let ⟨u,e⟩:=d.ex b f;⟨u,i b u e⟩⟩,λ b o e q=>i b o (c.fr b o e q),λ b o e q=>?_,c.mono,c.fnew⟩
 . have:=d.sep b
   rw[zA0] at this ⊢;rcases g b with h | ⟨h,a⟩
   . lia
   by_cases k:A1.count b=0
   . lia
   obtain⟨o,e,_⟩:=j b (qa9.mpr k);rw[e] at a;cases a
 . have:=d.fro b f
   rw[zA0] at this ⊢;rcases g b with h | ⟨h,a⟩
   . lia
   obtain⟨o,e⟩:=d.ex b f;rw[e] at a;cases a
 have:=c.sub b o e q
 rw[zA0] at this ⊢;rcases g b with h | ⟨h,a⟩
 . lia
 rw[c.fr b o e q] at a;cases a
section
variable{c:Vc}{X:Cx}{a b:Expr}{oa nw:Bool}{fa:FV}{r:R2}{g:D->D->Option D}{ta tb:VT}
theorem qaR8(D:VE c X a ta)(e:VE c X b tb)(h:A6 false r g):∀ σ H Q,Bd c (t2 g ta tb) σ H Q->tOp r (Bd c ta) (Bd c tb) σ H Q:=by
 rintro σ H Q ⟨F,E,A,l,S,x,q⟩;refine⟨F,E,A,l,S,x,D.m _ _ _ _ _ (λ n f q v H1 F1 T A1 o S1 p s=>?_) (λ _ _ z=>z) q⟩;have i:Stp F H A F1 H1 A1:=s.count λ b=>by rw[zA0];lia
 refine⟨F1,f,A1,l,S1,x.step i,e.m _ _ _ _ _ (λ G I q w H2 F2 T2 A2 J S2 K t=>?_) (λ _ _ z=>z) q⟩;obtain⟨d,L,q⟩:=qa7.mp q;have j:Rep F2 H2 v n T:=o.keep (t.kp S1.ok S1.loc.cells) λ b e P=>by
   have:=p.sep b
   rw[zA0] at this
   have:=qa9.mp e
   lia
 obtain⟨y,B⟩:=t.frame p o.cells K;refine h F2 H2 v w n G _ d Q (Jo j J) L λ u H3 B3 M C k=>?_
 rw[if_neg (by decide)] at k;rw[<- zAw] at y B;obtain⟨N,O⟩:=qao2 y (s.trans B) S2.loc.cells C (by rw[zAg] at k;exact k);exact q u H3 F2 B3 A2 M (S2.same C) N O
theorem qa6:VVs c X [] true (λ _=>some []):=⟨PA.mono qv1 λ σ H Q ⟨F,a,A,b,S,e,q⟩=>by cases e;exact q [] H [] .nil (λ _ _ z=>z) λ _=>New.nil⟩
noncomputable def Aw(fa:FV)(fr:Ds->Option Ds):Ds->Option Ds:=λ ds=>(fa ds).bind λ x=>(fr ds).bind λ xs=>some (x::xs)
theorem qap0{fa:FV}{fr:Ds->Option Ds}{ds xs:Ds}:Aw fa fr ds=some xs↔∃ x r,fa ds=some x/\fr ds=some r/\xs=x::r:=by
 unfold Aw;cases a:fa ds with
 | none=>simp
 | some x=>cases b:fr ds with
   | none=>simp
   | some y=>simp[eq_comm]
theorem qa1{e:Expr}{es:List Expr}{own:Bool}{fr:Ds->Option Ds}(j:VV c X e oa fa)(k:VVs c X es own fr)(l:starEach (e::es) X.env=(false,eval e X.env)::starEach es X.env):VVs c X (e::es) (oa&&own) (Aw fa fr):=by
 refine⟨PA.mono (qe3 j.h k.h l) λ σ H Q b=>?_⟩;obtain⟨F,f,A,t,S,e,q⟩:=b;obtain⟨x,r,m,e2,rfl⟩:=qap0.mp e;refine⟨F,f,A,x,S,m,λ v H1 B1 g d n=>⟨F,f,A,r,S.same d,e2,λ o H2 B2 p i s=>?_⟩⟩;refine q (v::o) H2 (B1++B2) (.cons (g.same i) p) (d.trans i) λ a=>?_
 have a:=zAb.mp a;exact(n a.1).append d g.cells (s a.2)
variable{rc:List V->Hp->VK->Prop}{gc:Ds->Option D}
theorem qaI7{own:Bool}{f:Ds->Option Ds}(h:OpS nw rc gc):∀ σ H Q,liftV c (nw||own) (λ ds=>(f ds).bind gc) σ H Q->tCB rc (qaK1 c own f) σ H Q:=by
 rintro σ H Q ⟨F,ds,A,d,S,e,q⟩;obtain⟨i,j,e2⟩:=zA1.mp e;refine⟨F,ds,A,i,S,j,λ k H1 B1 l g m=>h F H1 k i B1 d Q l e2 λ u H3 B3 n p a=>q u H3 B3 n (g.trans p) λ r=>?_⟩;cases nw with
 | true=>rw[if_pos rfl] at a;exact⟨a.one,λ b o e=>a.new b o (g b o e)⟩
 | false=>rw[if_neg (by decide)] at a;exact a.new (m r) g
def tcO(gc:Ds->Option D)(t:VTA):VT:=λ ds Q xe=>t ds (λ xs ds1=>orF (gc xs) λ d=>Q d ds1) xe
theorem qaw1{es:List Expr}{t:VTA}(f:VOs c X es t):∀ ds (Q Q':DK) (xe b:XKd),(∀ d a,Q d a->Q' d a)->(∀ x a,xe x a->b x a)->tcO gc t ds Q xe->tcO gc t ds Q' b :=
 λ ds Q Q' xe b g h=>f.m _ _ _ _ _ (λ d e=>qa5 λ z=>g z e) h
theorem opc_o{es:List Expr}{t:VTA}(e:VOs c X es t)(h:OpS true rc gc):∀ σ H Q,Bd c (tcO gc t) σ H Q->tCB rc (qaA3 c t) σ H Q:=by
 rintro σ H Q ⟨F,f,A,g,S,x,q⟩;refine⟨F,f,A,g,S,x,e.m _ _ _ _ _ (λ i j q k H1 F1 T A1 l S1 n=>?_) (λ _ _ z=>z) q⟩;obtain⟨d,o,q⟩:=qa7.mp q;refine h F1 H1 k i T d Q l o λ u H3 B3 p a b=>?_
 rw[if_pos rfl] at b;exact q u H3 F1 B3 A1 p (S1.same a) (S1.new b a) (n.trans (b.stp a))
end
def D.kids:D->List D
 | .tup ds=>ds
 | .lst false ds=>ds
 | .dct false kvs=>kvs.map (·.2)
 | .ins false _ fs=>fs.map (·.2)
 | _=>[]
noncomputable def Lc{κ:Type}:List (κ×D)->Nat->D->List (κ×D)
 | [],_,_=>[]
 | (k,_)::r,0,x=>(k,x)::r
 | p::r,n+1,x=>p::Lc r n x
theorem qQ1{κ:Type}:∀(l:List (κ×D))(n:Nat)(x:D),(Lc l n x).map (·.1)=l.map (·.1)/\(Lc l n x).map (·.2)=(l.map (·.2)).set n x
 | [],_,_=>⟨rfl,rfl⟩
 | (k,_)::r,0,x=>⟨rfl,rfl⟩
 | p::r,n+1,x=>by
   obtain⟨a,b⟩:=qQ1 r n x;simp only[Lc,zAx,a,b,List.set_cons_succ,and_self]
def D.setK:D->Nat->D->D
 | .tup ds,n,x=>.tup (ds.set n x)
 | .lst z ds,n,x=>.lst z (ds.set n x)
 | .dct z kvs,n,x=>.dct z (Lc kvs n x)
 | .ins z C fs,n,x=>.ins z C (Lc fs n x)
 | d,_,_=>d
def Lnk(H:Hp)(u:V)(n:Nat)(w:V):Prop:=∃ a,u=.ref a /\
 ((∃ vs,H a=some (.tup vs)/\vs[n]? = some w)∨(∃ vs,H a=some (.lst vs)/\vs[n]? = some w)∨(∃ kvs,H a=some (.dK kvs)/\(kvs.map (·.2))[n]? = some w)∨∃ C dx fs,H a=some (.ins C dx fs)/\(fs.map (·.2))[n]? = some w)
section
variable{F F':Addr->Prop}{H H':Hp}
theorem Reps.split:∀{ds:List D}{vs:List V}{A:List Addr}{i:Nat}{d:D},Reps F H vs ds A->ds[i]? = some d ->
   ∃ b v c ds1 a A1 B A2,vs=b++v::c/\ds=ds1++d::a/\b.length=i/\ds1.length=i/\A=A1++(B++A2)/\Reps F H b ds1 A1/\Rep F H v d B/\Reps F H c a A2:=by
 intro ds
 induction ds with
 | nil=>intro σ A i d _ h;simp at h
 | cons e r f =>
   intro σ A i d L h;cases i with
   | zero =>
     have:e=d:=by simpa using h
     subst this;cases L with
     | cons q t=>exact⟨[],_,_,[],_,[],_,_,rfl,rfl,rfl,rfl,rfl,.nil,q,t⟩
   | succ i =>
     have h:r[i]? = some d:=by simpa using h
     cases L with
     | @cons v _ B0 _ _ A0 q t =>
       obtain⟨σ1,o,σ2,ds1,a,A1,B,A2,g,e2,j,k,l,m,n,p⟩:=f t h;exact⟨v::σ1,o,σ2,_::ds1,a,B0++A1,B,A2,by rw[g];rfl,by rw[e2];rfl,by simp[j],by simp[k],by rw[l,zAw],.cons q m,n,p⟩
theorem Reps.append{a:List V}{ds es:List D}{A B:List Addr}(r:Reps F H vs ds A)(t:Reps F H a es B):Reps F H (vs++a) (ds++es) (A++B):=by
 induction vs generalizing ds A with
 | nil=>cases r;exact t
 | cons v vs b =>
   cases r with
   | cons h c=>rw[zAw];exact .cons h (b c)
theorem Reps.kid{ds:List D}{A:List Addr}{d:D}(r:Reps F H vs ds A)(h:ds[n]? = some d):∃(w:V)(B C:List Addr),vs[n]? = some w/\Rep F H w d B/\(∀ b,A.count b=B.count b+C.count b) /\
   ∀{F':Addr->Prop}{H':Hp}{W:Addr->Prop}(d':D)(B':List Addr),Kp F H W F' H'->(∀ b∈C,¬ W b)->Rep F' H' w d' B'->∃ A':List Addr,Reps F' H' vs (ds.set n d') A'/\∀ b,A'.count b=B'.count b+C.count b:=by
 obtain⟨f,v,g,i,j,A1,B,A2,c,e2,l,m,o,p,q,s⟩:=r.split h;refine⟨v,B,A1++A2,by rw[c];exact qF7 l,q,λ b=>by rw[o];simp only[zA0];lia,λ{F' H' W} d' B' k e t=>⟨A1++(B'++A2),?_,λ b=>by simp only[zA0];lia⟩⟩;rw[c,e2,qr6 m];exact(p.keep k λ b a=>e b (zAa.mpr (.inl a))).append (.cons t (s.keep k λ b a=>e b (zAa.mpr (.inr a))))
theorem Rep.kid{p:V}{d0 d:D}{A:List Addr}(r:Rep F H p d0 A)(h:d0.kids[n]? = some d):∃(w:V)(B C:List Addr),Lnk H p n w/\Rep F H w d B/\(∀ b,A.count b=B.count b+C.count b) /\
   ∀{F':Addr->Prop}{H':Hp}{W:Addr->Prop}(d':D)(B':List Addr),Kp F H W F' H'->(∀ b∈C,¬ W b)->Rep F' H' w d' B'->∃ A':List Addr,Rep F' H' p (d0.setK n d') A'/\∀ b,A'.count b=B'.count b+C.count b:=by
 cases r with
 | @tup a vs ds _ e r =>
   obtain⟨w,B,C,f,g,i,j⟩:=r.kid (n:=n) h;refine⟨w,B,C,⟨a,rfl,.inl ⟨vs,e,f⟩⟩,g,i,λ{F' H' W} d' B' k c l=>?_⟩;obtain⟨A',m,q2⟩:=j d' B' k c l;exact⟨A',.tup (k.tup e) m,q2⟩
 | @lst a vs ds A e r =>
   obtain⟨w,B,C,f,g,i,j⟩:=r.kid (n:=n) h;refine⟨w,B,a::C,⟨a,rfl,.inr (.inl ⟨vs,e,f⟩)⟩,g,λ b=>by rw[zAk,zAk,i];lia,λ{F' H' W} d' B' k c l=>?_⟩;obtain⟨A',m,q2⟩:=j d' B' k (λ b o=>c b (zA6 _ o)) l;exact⟨a::A',.lst (k.fr a _ e (c a zAe)) m,λ b=>by rw[zAk,zAk,q2];lia⟩
 | @dct a kvs kds A e q r =>
   obtain⟨w,B,C,f,g,i,j⟩:=r.kid (n:=n) h;refine⟨w,B,a::C,⟨a,rfl,.inr (.inr (.inl ⟨kvs,e,f⟩))⟩,g,λ b=>by rw[zAk,zAk,i];lia,λ{F' H' W} d' B' k c l=>?_⟩;obtain⟨A',m,q2⟩:=j d' B' k (λ b o=>c b (zA6 _ o)) l;obtain⟨s,t⟩:=qQ1 kds n d';exact⟨a::A',.dct (k.fr a _ e (c a zAe)) (q.trans s.symm) (by rw[t];exact m),λ b=>by rw[zAk,zAk,q2];lia⟩
 | @ins a C0 dx fvs fds A e q r =>
   obtain⟨w,B,C,f,g,i,j⟩:=r.kid (n:=n) h;refine⟨w,B,a::C,⟨a,rfl,.inr (.inr (.inr ⟨C0,dx,fvs,e,f⟩))⟩,g,λ b=>by rw[zAk,zAk,i];lia,λ{F' H' W} d' B' k c l=>?_⟩;obtain⟨A',m,q2⟩:=j d' B' k (λ b o=>c b (zA6 _ o)) l;obtain⟨s,t⟩:=qQ1 fds n d';exact⟨a::A',.ins (k.fr a _ e (c a zAe)) (q.trans s.symm) (by rw[t];exact m),λ b=>by rw[zAk,zAk,q2];lia⟩
 | _=>simp[D.kids] at h
def D.getP:D->List Nat->Option D
 | d,[]=>some d
 | d,n::p=>match d.kids[n]? with
   | some e=>e.getP p
   | none=>none
def D.setP:D->List Nat->D->D
 | _,[],x=>x
 | d,n::p,x=>match d.kids[n]? with
   | some e=>d.setK n (e.setP p x)
   | none=>d
def Walk(H:Hp):V->List Nat->V->Prop
 | u,[],w=>u=w
 | u,n::p,w=>∃ v,Lnk H u n v/\Walk H v p w
theorem Rep.path:∀{p:List Nat}{a:V}{d0 d:D}{A:List Addr},Rep F H a d0 A->d0.getP p=some d->∃(w:V)(B C:List Addr),Walk H a p w/\Rep F H w d B/\(∀ b,A.count b=B.count b+C.count b) /\
   ∀{F':Addr->Prop}{H':Hp}{W:Addr->Prop}(d':D)(B':List Addr),Kp F H W F' H'->(∀ b∈C,¬ W b)->Rep F' H' w d' B'->∃ A':List Addr,Rep F' H' a (d0.setP p d') A'/\∀ b,A'.count b=B'.count b+C.count b:=by
 intro p
 induction p with
 | nil =>
   intro a d0 d A r h;cases h;exact⟨a,A,[],rfl,r,λ b=>by simp,λ{F' H' W} d' B' k f g=>⟨B',g,λ b=>by simp⟩⟩
 | cons n p j =>
   intro a d0 d A r h;unfold D.getP at h;cases c:d0.kids[n]? with
   | none=>rw[c] at h;cases h
   | some e =>
     rw[c] at h;obtain⟨l,B1,C1,m,o,q,s⟩:=r.kid c;obtain⟨w,B,C,t,u,v,x⟩:=j o h;refine⟨w,B,C++C1,⟨l,m,t⟩,u,λ b=>by rw[q,v,zA0];lia,λ{F' H' W} d' B' k f g=>?_⟩;obtain⟨A1,y,q2⟩:=x d' B' k (λ b i=>f b (zAa.mpr (.inl i))) g;obtain⟨A2,z,E⟩:=s (e.setP p d') A1 k (λ b i=>f b (zAa.mpr (.inr i))) y;refine⟨A2,?_,λ b=>by rw[E,q2,zA0];lia⟩;unfold D.setP;rw[c];exact z
def Ay(ds:Ds)(i:Nat)(p:List Nat):Option D:=match ds[i]? with
 | some d=>d.getP p
 | none=>none
def A7(ds:Ds)(i:Nat)(p:List Nat)(x:D):Ds:=match ds[i]? with
 | some d=>ds.set i (d.setP p x)
 | none=>ds
theorem qaj1{p:List Nat}{d:D}(h:D.getP .unk p=some d):p=[]/\d=.unk:=by
 cases p with
 | nil=>cases h;exact⟨rfl,rfl⟩
 | cons n p=>simp[D.getP,D.kids] at h
theorem Locs.place{σ:List (Option V)}{ds:Ds}{A:List Addr}{p:List Nat}{d:D}(L:Locs F H σ ds A)(h:Ay ds i p=some d)(g:d≠.unk):∃(u w:V)(B C:List Addr),σ[i]? = some (some u)/\Walk H u p w/\Rep F H w d B/\(∀ b,A.count b=B.count b+C.count b) /\
   ∀{F':Addr->Prop}{H':Hp}{W:Addr->Prop}(d':D)(B':List Addr),Kp F H W F' H'->(∀ b∈C,¬ W b)->Rep F' H' w d' B'->∃ A':List Addr,Locs F' H' σ (A7 ds i p d') A'/\∀ b,A'.count b=B'.count b+C.count b:=by
 unfold Ay at h;cases c:ds[i]? with
 | none=>rw[c] at h;cases h
 | some J =>
   rw[c] at h;obtain⟨σ1,o,σ2,j,l,A1,B0,A2,f,e2,m,n,q,s,t,v⟩:=L.split c;cases t with
   | no=>exact absurd (qaj1 h).2 g
   | @so u _ _ r =>
     obtain⟨w,B,C,x,y,z,E⟩:=r.path h;refine⟨u,w,B,A1++(C++A2),by rw[f];exact qF7 m,x,y,λ b=>by rw[q];simp only[zA0,z];lia,λ{F' H' W} d' B' k e G=>?_⟩;obtain⟨A',I,q2⟩:=E d' B' k (λ b a=>e b (zAa.mpr (.inr (zAa.mpr (.inl a))))) G;refine⟨A1++(A'++A2),?_,λ b=>by simp only[zA0,q2];lia⟩;unfold A7;rw[c,f];dsimp only;rw[e2,qr6 n];exact(s.keep k λ b a=>e b (zAa.mpr (.inl a))).append (.so I (v.keep k λ b a=>e b (zAa.mpr (.inr (zAa.mpr (.inr a))))))
theorem Lnk.fn{u:V}(h:Lnk H u n v)(h':Lnk H u n w):v=w:=by
 obtain⟨a,rfl,h⟩:=h;obtain⟨b,e,h'⟩:=h';cases e;rcases h with⟨vs,e,h⟩ | ⟨vs,e,h⟩ | ⟨vs,e,h⟩ | ⟨C,dx,vs,e,h⟩<;>rcases h' with⟨vs',e',h'⟩ | ⟨vs',e',h'⟩ | ⟨vs',e',h'⟩ | ⟨C',dx',vs',e',h'⟩<;>rw[e] at e'<;>cases e'<;>rw[h] at h'<;>exact Option.some.inj h'
theorem Walk.fn:∀{p:List Nat}{u v w:V},Walk H u p v->Walk H u p w->v=w
 | [],_,_,_,h,h'=>h.symm.trans h'
 | n::p,_,_,_,⟨x,h1,h2⟩,⟨y,h3,h4⟩=>by
   cases h1.fn h3;exact Walk.fn h2 h4
theorem Lnk.same{u:V}(h:Lnk H u n v)(s:Same H H'):Lnk H' u n v:=by
 obtain⟨a,rfl,h⟩:=h;refine⟨a,rfl,?_⟩;rcases h with⟨vs,e,h⟩ | ⟨vs,e,h⟩ | ⟨vs,e,h⟩ | ⟨C,dx,vs,e,h⟩
 . exact .inl ⟨vs,s _ _ e,h⟩
 . exact .inr (.inl ⟨vs,s _ _ e,h⟩)
 . exact .inr (.inr (.inl ⟨vs,s _ _ e,h⟩))
 exact .inr (.inr (.inr ⟨C,dx,vs,s _ _ e,h⟩))
theorem Walk.same:∀{p:List Nat}{u v:V},Walk H u p v->Same H H'->Walk H' u p v
 | [],_,_,h,_=>h
 | n::p,_,_,⟨x,h1,h2⟩,s=>⟨x,h1.same s,h2.same s⟩
end
section
variable{c:Vc}{X:Cx}{b:Expr}{nw:Bool}{r:R2}{g:D->D->Option D}{tb:VT}
def t2n(g:D->D->Option D)(i:Nat)(tb:VT):VT:=λ ds Q xe=>(rdN i ds).isSome=true/\tb ds (λ y ds1=>orF ((rdN i ds1).bind λ x=>g x y) λ d=>Q d ds1) xe
theorem qaw4(h:VE c X b tb):∀ ds (Q Q':DK) (xe e:XKd),(∀ d a,Q d a->Q' d a)->(∀ x a,xe x a->e x a)->t2n g i tb ds Q xe->t2n g i tb ds Q' e :=
 λ ds Q Q' xe e j k=>And.imp_right (h.m _ _ _ _ _ (λ d f=>qa5 λ z=>j z f) k)
theorem Sta.name{F:Addr->Prop}{H:Hp}{σ:St}{ds:Ds}{A:List Addr}{d:D}(S:Sta c F H σ ds A)(hi:i < σ.length)(h:rdN i ds=some d):∃ v B,σ[i]? = some (some v)/\Rep F H v d B/\∀ b,B.count b<=A.count b :=
 let ⟨e,k⟩:=qo7.mp h
 S.at hi e k
theorem op_ne{σ:St}{H:Hp}(o:VE c X b tb)(h:A6 true r g)(hi:i < σ.length)(q:Bd c (t2n g i tb) σ H Q):tOp r (Ir i) (Bd c tb) σ H Q:=by
 obtain⟨F,p,A,s,S,x,t,q⟩:=q;obtain⟨L,e⟩:=zAy.mp t;obtain⟨v,B0,n,_,_⟩:=S.name hi e;refine⟨v,n,F,p,A,s,S,x,o.m _ _ _ _ _ (λ C D q w H1 F1 T A1 E S1 M G=>?_) (λ _ _ z=>z) q⟩;have f:Stp F H A F1 H1 A1:=G.count λ b=>by rw[zA0];lia
 obtain⟨d,j,q⟩:=qa7.mp q;obtain⟨y,I,j⟩:=zA1.mp j;obtain⟨N,B,a,J,_⟩:=S1.name hi I;rw[n] at a;cases a;refine h F1 H1 v w y C _ d Q (Jo J E) j λ u H3 B3 K k l=>?_
 rw[if_pos rfl] at l;exact q u H3 F1 B3 A1 K (S1.same k) (S1.new l k) (f.trans (l.stp k))
def t2nP(g:D->D->Option D)(i:Nat)(tb:VT):VT:=λ ds Q xe=>(rdN i ds).isSome=true/\tb ds (λ y ds1=>orF ((rdN i ds1).bind λ x=>g x y) λ d=>d.imm=true/\Q d ds1) xe
theorem qam2(h:VE c X b tb):∀ ds (Q Q':DK) (xe e:XKd),(∀ d a,Q d a->Q' d a)->(∀ x a,xe x a->e x a)->t2nP g i tb ds Q xe->t2nP g i tb ds Q' e :=
 λ ds Q Q' xe e j k=>And.imp_right (h.m _ _ _ _ _ (λ d f=>qa5 λ z=>And.imp_right (j z f)) k)
theorem qaR4{σ:St}{H:Hp}(o:VE c X b tb)(h:A6 nw r g)(hi:i < σ.length)(q:Bd c (t2nP g i tb) σ H Q):tOp r (Ir i) (Bd c tb) σ H Q:=by
 obtain⟨F,p,A,s,S,x,t,q⟩:=q;obtain⟨L,e⟩:=zAy.mp t;obtain⟨v,B0,l,_,_⟩:=S.name hi e;refine⟨v,l,F,p,A,s,S,x,o.m _ _ _ _ _ (λ C D q w H1 F1 T A1 E S1 M G=>?_) (λ _ _ z=>z) q⟩;have f:Stp F H A F1 H1 A1:=G.count λ b=>by rw[zA0];lia
 obtain⟨d,j,I,q⟩:=qa7.mp q;obtain⟨y,J,j⟩:=zA1.mp j;obtain⟨N,B,a,K,_⟩:=S1.name hi J;rw[l] at a;cases a;refine h F1 H1 v w y C _ d Q (Jo K E) j λ u H3 B3 n k O=>?_
 have:=n.imm I
 subst this;exact q u H3 F1 [] A1 n (S1.same k) (S1.ok.same k) (f.trans (.same k))
end
section
variable{F:Addr->Prop}{H:Hp}{K:PySem.W.Frag}
theorem Rep.lst_inv{ds:List D}{B:List Addr}(r:Rep F H v (.lst z ds) B):∃ a vs A,v=.ref a/\H a=some (.lst vs)/\Reps F H vs ds A/\∀ b,A.count b<=B.count b:=by
 cases r with
 | lst h r=>exact⟨_,_,_,rfl,h,r,λ b=>by rw[zAk];lia⟩
 | lstZ h f r=>exact⟨_,_,_,rfl,h,r,λ b=>zA3 _⟩
theorem Rep.tup_inv{ds:List D}{B:List Addr}(r:Rep F H v (.tup ds) B):∃ a vs,v=.ref a/\H a=some (.tup vs)/\Reps F H vs ds B:=by
 cases r with
 | tup h r=>exact⟨_,_,rfl,h,r⟩
theorem Rep.dct_inv{kds:List (Key×D)}{B:List Addr}(r:Rep F H v (.dct z kds) B):∃ a kvs A,v=.ref a/\H a=some (.dK kvs)/\kvs.map (·.1)=kds.map (·.1)/\Reps F H (kvs.map (·.2)) (kds.map (·.2)) A/\∀ b,A.count b<=B.count b:=by
 cases r with
 | dct h e r=>exact⟨_,_,_,rfl,h,e,r,λ b=>by rw[zAk];lia⟩
 | dctZ h f e r=>exact⟨_,_,_,rfl,h,e,r,λ b=>zA3 _⟩
theorem Rep.ins_inv{C:Addr}{c:List (Str×D)}{B:List Addr}(r:Rep F H v (.ins z C c) B):∃ a dx d A,v=.ref a/\H a=some (.ins C dx d)/\d.map (·.1)=c.map (·.1)/\Reps F H (d.map (·.2)) (c.map (·.2)) A/\∀ b,A.count b<=B.count b:=by
 cases r with
 | ins h e r=>exact⟨_,_,_,_,rfl,h,e,r,λ b=>by rw[zAk];lia⟩
 | insZ h f e r=>exact⟨_,_,_,_,rfl,h,e,r,λ b=>zA3 _⟩
noncomputable def D.elems:D->Option Ds
 | .lst _ ds=>some ds
 | .tup ds=>some ds
 | _=>none
theorem Rep.elems{d:D}{ds:Ds}{B:List Addr}(r:Rep F H v d B)(h:d.elems=some ds):∃ a vs A,v=.ref a/\(SqL K H a vs∨SqT K H a vs)/\Reps F H vs ds A/\∀ b,A.count b<=B.count b:=by
 cases d with
 | lst z c=>cases h;obtain⟨a,vs,A,e,h,r,q⟩:=r.lst_inv;exact⟨a,vs,A,e,.inl (.inl (.inl h)),r,q⟩
 | tup c=>cases h;obtain⟨a,vs,e,h,r⟩:=r.tup_inv;exact⟨a,vs,_,e,.inr (.inl (.inl h)),r,λ _=>zA3 _⟩
 | _=>cases h
theorem Reps.len{ds:List D}{A:List Addr}(r:Reps F H vs ds A):vs.length=ds.length:=by
 induction vs generalizing ds A with
 | nil=>cases r;rfl
 | cons v vs a=>cases r with | cons h t=>simp[a t]
theorem qg3{p:Addr}(a:H p=none):New H [p]:=⟨λ b=>by rw[zAk];simp;split<;>lia,λ b o e=>by
 have:b≠p:=λ z=>by rw[z,a] at e;cases e
 simp[zAk,Ne.symm this]⟩
theorem qF2{p:Addr}{ds:Ds}(a:H p=none)(r:Reps F H vs ds []):Rep F (upd H p (.lst vs)) (.ref p) (.lst false ds) [p]:=.lst qb2 (r.same (Same.new a))
theorem qag3{p:Addr}{ds:Ds}{A:List Addr}(a:H p=none)(r:Reps F H vs ds A):Rep F (upd H p (.tup vs)) (.ref p) (.tup ds) A:=.tup qb2 (r.same (Same.new a))
theorem Reps.get{ds:List D}{A:List Addr}{d:D}(r:Reps F H vs ds A)(h:ds[n]? = some d):∃ w B,vs[n]? = some w/\Rep F H w d B/\∀ b,B.count b<=A.count b:=by
 obtain⟨w,B,C,a,c,e,_⟩:=r.kid h;exact⟨w,B,a,c,λ b=>by have:=e b;lia⟩
theorem Reps.atI{ds:List D}{A:List Addr}{i:Int}{d:D}(r:Reps F H vs ds A)(h:L2.atI ds i=some d):∃ w B,L2.atI vs i=some w/\Rep F H w d B/\∀ b,B.count b<=A.count b:=by
 unfold L2.atI at h ⊢;rw[r.len];cases e:ixN ds.length i with
 | none=>rw[e] at h;cases h
 | some j =>
   rw[e] at h;exact r.get h
theorem Reps.sub{ds:List D}{A:List Addr}(r:Reps F H vs ds A)(n m:Nat):∃ B,Reps F H ((vs.drop n).take m) ((ds.drop n).take m) B/\∀ b,B.count b<=A.count b:=by
 induction n generalizing vs ds A with
 | zero =>
   induction m generalizing vs ds A with
   | zero=>exact⟨[],.nil,λ b=>by simp⟩
   | succ m a =>
     cases r with
     | nil=>exact⟨[],.nil,λ b=>by simp⟩
     | cons h t =>
       obtain⟨B,c,q2⟩:=a t;exact⟨_,.cons h (by simpa using c),λ b=>by simp only[zA0];have:=q2 b;lia⟩
 | succ n a =>
   cases r with
   | nil=>exact⟨[],by simpa using Reps.nil,λ b=>by simp⟩
   | cons h t =>
     obtain⟨B,c,q2⟩:=a t;exact⟨B,by simpa using c,λ b=>by simp only[zA0];have:=q2 b;lia⟩
noncomputable def D.flat:D->Option V
 | .non=>some .non
 | .bl b=>some (.bl b)
 | .int i=>some (.int i)
 | .str x=>some (.str x)
 | _=>none
theorem Rep.flat{d:D}{B:List Addr}(r:Rep F H v d B)(h:d.flat=some w):v=w/\flatV v=true:=by
 cases r<;>cases h<;>exact⟨rfl,rfl⟩
end
noncomputable def big:Nat:=1000000
theorem qi7:big<=sizeLine:=by decide
section
variable{F:Addr->Prop}{H:Hp}
theorem Reps.imms0{ds:Ds}{A:List Addr}(r:Reps F H vs ds A)(h:D.imms ds=true):Reps F H vs ds []:=by
 have:=r.imms h
 subst this;exact r
theorem Reps.rep{ds:Ds}(r:Reps F H vs ds []):∀ k:Nat,Reps F H (List.replicate k vs).flatten (List.replicate k ds).flatten []
 | 0=>.nil
 | k+1=>by
   rw[zBf,zBf,zBr,zBr];exact r.append (B:=[]) (r.rep k)
end
noncomputable def gd(p:Prop)[Decidable p](d:D):Option D:=if p then some d else none
theorem qv9{p:Prop}[Decidable p]{d e:D}(h:gd p d=some e):p/\d=e:=by
 unfold gd at h;split at h
 . rename_i hp;exact⟨hp,Option.some.inj h⟩
 cases h
theorem qh9{p:Prop}[Decidable p]{d:D}(h:p):gd p d=some d:=if_pos h
def Kh:D->D->Option D
 | .int i,.int j=>some (.int (i+j))
 | .str a,.str b=>gd (a.length+b.length<=big) (.str (a++b))
 | .lst _ xs,.lst _ ys=>gd (D.imms xs=true/\D.imms ys=true/\xs.length+ys.length<=big) (.lst false (xs++ys))
 | _,_=>none
def rAddA:R2:=λ x y H Q=>rI0 (λ i j=>.int (i+j)) x y H Q∨(∃ i j,x=.str i/\y=.str j/\i.length+j.length<=sizeLine/\Q (.str (i++j)) H)∨rCat x y H Q
theorem qg6{X:Cx}:OpR X (binaryOp .Add) rAddA:=qaS0.or (qaf8.or qaR9)
theorem qg5:A6 true rAddA Kh:=by
 intro F H v w x y B d Q r h q;cases r with | @cons _ _ A _ _ _ e t=>cases t with | @cons _ _ A2 _ _ _ f _ =>
 cases x with
 | int i =>
   cases y with
   | int j=>cases h;cases e;cases f;exact .inl ⟨i,j,rfl,rfl,q _ H [] (.int _) (λ _ _ z=>z) New.nil⟩
   | _=>cases h
 | str a =>
   cases y with
   | str b =>
     obtain⟨c,rfl⟩:=qv9 h;cases e;cases f;exact .inr (.inl ⟨a,b,rfl,rfl,zAm c qi7,q _ H [] (.str _) (λ _ _ z=>z) New.nil⟩)
   | _=>cases h
 | lst z s =>
   cases y with
   | lst u C =>
     obtain⟨c,rfl⟩:=qv9 h;obtain⟨a,l,_,rfl,m,k,_⟩:=e.lst_inv;obtain⟨b,n,_,rfl,o,q2,_⟩:=f.lst_inv;refine .inr (.inr ⟨a,b,l,n,rfl,rfl,m,o,by rw[k.len,q2.len];exact zAm c.2.2 qi7,λ p g=>?_⟩);exact q _ _ [p] (qF2 g ((k.imms0 c.1).append (q2.imms0 c.2.1))) (Same.new g) (qg3 g)
   | _=>cases h
 | _=>cases h
noncomputable def small(i:Int):Bool:=decide (-(2 ^ 64) < i)&&decide (i < 2 ^ 64)
theorem qU7{i:Int}(h:small i=true):-(2 ^ 64) < i/\i < 2 ^ 64:=by
 have:=zAb.mp h
 exact⟨zA9 this.1,zA9 this.2⟩
def Go:D->D->Option D
 | .int i,.int j=>gd ((small i||small j)=true) (.int (i * j))
 | .lst _ xs,.int k=>gd (D.imms xs=true/\xs.length * k.toNat<=big/\k < 1000000/\-1000000 < k) (.lst false (List.replicate k.toNat xs).flatten)
 | _,_=>none
def rMulA:R2:=λ x y H Q=>rI CMul (λ i j=>.int (i * j)) x y H Q∨rRep x y H Q
theorem qh8{X:Cx}:OpR X (binaryOp .Mult) rMulA:=qaR5.or qaR2
theorem qh7:A6 true rMulA Go:=by
 intro F H v w x y B d Q r h q;cases r with | @cons _ _ A _ _ _ e t=>cases t with | @cons _ _ A2 _ _ _ f _ =>
 cases x with
 | int i =>
   cases y with
   | int j =>
     obtain⟨b,rfl⟩:=qv9 h;cases e;cases f;refine .inl ⟨i,j,rfl,rfl,?_,q _ H [] (.int _) (λ _ _ z=>z) New.nil⟩;rcases Bool.or_eq_true_iff.mp b with h | h
     . exact .inl (qU7 h)
     exact .inr (qU7 h)
   | _=>cases h
 | lst z n =>
   cases y with
   | int k =>
     obtain⟨b,rfl⟩:=qv9 h;obtain⟨a,l,_,rfl,m,g,_⟩:=e.lst_inv;cases f;refine .inr ⟨a,k,l,rfl,rfl,m,by lia,by lia,by rw[g.len];exact zAm b.2.1 qi7,λ p c=>?_⟩;exact q _ _ [p] (qF2 c ((g.imms0 b.1).rep _)) (Same.new c) (qg3 c)
   | _=>cases h
 | _=>cases h
def gI(p:Int->Int->Bool)(f:Int->Int->D):D->D->Option D
 | .int i,.int j=>gd (p i j=true) (f i j)
 | _,_=>none
theorem os_I{C:Int->Int->Prop}{p:Int->Int->Bool}{f:Int->Int->D}{fv:Int->Int->V}(a:∀ i j,p i j=true->C i j)(b:∀ F H i j,Rep F H (fv i j) (f i j) []):A6 true (rI C fv) (gI p f):=by
 intro F H v w x y B d Q r h q;cases r with | @cons _ _ A _ _ _ c t=>cases t with | @cons _ _ A2 _ _ _ e _ =>
 cases x with
 | int i =>
   cases y with
   | int j =>
     obtain⟨g,rfl⟩:=qv9 h;cases c;cases e;exact⟨i,j,rfl,rfl,a i j g,q _ H [] (b F H i j) (λ _ _ z=>z) New.nil⟩
   | _=>cases h
 | _=>cases h
theorem Jz{f:Int->Int->D}{fv:Int->Int->V}(a:∀ F H i j,Rep F H (fv i j) (f i j) []):A6 true (rI0 fv) (gI (λ _ _=>true) f):=by
 intro F H v w x y B d Q r h q;obtain⟨i,j,b,c,_,e⟩:=os_I (C:=λ _ _=>True) (fv:=fv) (λ _ _ _=>trivial) a F H v w x y B d Q r h q;exact⟨i,j,b,c,e⟩
def gSub:=gI (λ _ _=>true) λ i j=>.int (i - j)
def gDiv:=gI (λ _ j=>decide (0 < j)&&decide (j < 2 ^ 200)) λ i j=>.int (i / j)
def Ld:=gI (λ _ j=>decide (0 < j)) λ i j=>.int (i % j)
def gLt:=gI (λ _ _=>true) λ i j=>.bl (decide (i < j))
def gLe:=gI (λ _ _=>true) λ i j=>.bl (decide (i<=j))
def gGt:=gI (λ _ _=>true) λ i j=>.bl (decide (j < i))
def gGe:=gI (λ _ _=>true) λ i j=>.bl (decide (j<=i))
theorem qL7:A6 true (rI0 λ i j=>.int (i - j)) gSub:=Jz λ _ _ _ _=>.int _
theorem qay9:A6 true (rI CDivB λ i j=>.int (i / j)) gDiv:=os_I (λ i j h=>by
 have:=zAb.mp h
 exact⟨zA9 this.1,zA9 this.2⟩) λ _ _ _ _=>.int _
theorem qx0:A6 true (rI (λ _ j=>0 < j) λ i j=>.int (i % j)) Ld:=os_I (λ i j h=>zA9 h) λ _ _ _ _=>.int _
theorem Hy:A6 true (rI0 λ i j=>.bl (decide (i < j))) gLt:=Jz λ _ _ _ _=>.bl _
theorem os_le:A6 true (rI0 λ i j=>.bl (decide (i<=j))) gLe:=Jz λ _ _ _ _=>.bl _
theorem B6:A6 true (rI0 λ i j=>.bl (decide (j < i))) gGt:=Jz λ _ _ _ _=>.bl _
theorem Ma:A6 true (rI0 λ i j=>.bl (decide (j<=i))) gGe:=Jz λ _ _ _ _=>.bl _
noncomputable def D.isN:D->Option Bool
 | .non=>some true
 | .unk=>none
 | .hole _=>none
 | _=>some false
theorem Rep.isN{F:Addr->Prop}{H:Hp}{d:D}{B:List Addr}{b:Bool}(r:Rep F H v d B)(h:d.isN=some b):decide (v=.non)=b:=by
 cases r<;>cases h<;>rfl
def gIs:D->D->Option D
 | x,.non=>x.isN.map .bl
 | .bl a,.bl b=>some (.bl (a == b))
 | _,_=>none
def rIs:R2:=λ x y H Q=>(y=.non/\Q (.bl (decide (x=.non))) H)∨(∃ b c,x=.bl b/\y=.bl c/\Q (.bl (b == c)) H)
theorem Ia:A6 true rIs gIs:=by
 intro F H v w x y B d Q r h q;cases r with | @cons _ _ A _ _ _ c t=>cases t with | @cons _ _ A2 _ _ _ f _ =>
 cases y with
 | non =>
   cases f;have h:x.isN.map D.bl=some d:=by cases x<;>exact h
   cases e:x.isN with
   | none=>rw[e] at h;cases h
   | some b =>
     rw[e] at h;cases h;refine .inl ⟨rfl,?_⟩;rw[c.isN e];exact q _ H [] (.bl _) (λ _ _ z=>z) New.nil
 | bl b =>
   cases x with
   | bl a=>cases h;cases c;cases f;exact .inr ⟨a,b,rfl,rfl,q _ H [] (.bl _) (λ _ _ z=>z) New.nil⟩
   | _=>cases h
 | _=>cases x<;>cases h
theorem Ib{X:Cx}:OpR X (compareOp .Is) rIs:=qaR6.or qaR7
theorem qaI9{X:Cx}:OpR X (compareOp .IsNot) (λ x y H Q=>∃ b c,x=.bl b/\y=.bl c/\Q (.bl (b != c)) H):=by
 intro Gm s σ H x y v u Q I a d ⟨b,c,e,e2,q⟩;subst e;subst e2;cases a;cases d;exact PyProof.Rows.isnot_bool ⟨.bl (b != c),H,I,rfl,q⟩
def gIsn:D->D->Option D
 | x,.non=>x.isN.map λ b=>.bl (!b)
 | .bl a,.bl b=>some (.bl (a != b))
 | _,_=>none
def rIsn:R2:=λ x y H Q=>(y=.non/\Q (.bl (!decide (x=.non))) H)∨(∃ b c,x=.bl b/\y=.bl c/\Q (.bl (b != c)) H)
theorem qx1:A6 true rIsn gIsn:=by
 intro F H v w x y B d Q r h q;cases r with | @cons _ _ A _ _ _ c t=>cases t with | @cons _ _ A2 _ _ _ f _ =>
 cases y with
 | non =>
   cases f;have h:x.isN.map (λ b=>D.bl (!b))=some d:=by cases x<;>exact h
   cases e:x.isN with
   | none=>rw[e] at h;cases h
   | some b =>
     rw[e] at h;cases h;refine .inl ⟨rfl,?_⟩;rw[c.isN e];exact q _ H [] (.bl _) (λ _ _ z=>z) New.nil
 | bl b =>
   cases x with
   | bl a=>cases h;cases c;cases f;exact .inr ⟨a,b,rfl,rfl,q _ H [] (.bl _) (λ _ _ z=>z) New.nil⟩
   | _=>cases h
 | _=>cases x<;>cases h
theorem qr8{X:Cx}:OpR X (compareOp .IsNot) rIsn:=qaI8.or qaI9
noncomputable def Jp(f:D->D->Option Bool):List D->List D->Option Bool
 | [],[]=>some true
 | x::xs,y::ys=>(f x y).bind λ a=>(Jp f xs ys).bind λ b=>some (a&&b)
 | _,_=>some false
def eqF(x y:D):Option Bool:=match x.flat,y.flat with
 | some v,some w=>some (eqV v w)
 | _,_=>none
noncomputable def D.d0:D->Bool
 | .dct _ []=>true
 | _=>false
def eqZ(x y:D):Option Bool:=if (x.d0&&y.d0)=true then some true else eqF x y
def eqN:Nat->D->D->Option Bool
 | n+1,.lst _ xs,.lst _ ys=>Jp (eqN n) xs ys
 | n+1,.tup xs,.tup ys=>Jp (eqN n) xs ys
 | _,x,y=>eqZ x y
theorem qC0{f:D->D->Option Bool}:∀{xs ys:List D}{b:Bool},Jp f xs ys=some b->∃ e:Nat->Bool,(∀ i x y,xs[i]? = some x->ys[i]? = some y->f x y=some (e i))/\b=((List.range (min xs.length ys.length)).all e&&xs.length == ys.length)
 | [],[],b,h=>by cases h;exact⟨λ _=>true,λ i x y h=>by simp at h,by simp⟩
 | [],y::ys,b,h=>by cases h;exact⟨λ _=>true,λ i x y h=>by simp at h,by simp⟩
 | x::xs,[],b,h=>by cases h;exact⟨λ _=>true,λ i x y _ h=>by simp at h,by simp⟩
 | x::xs,y::ys,b,h=>by
   obtain⟨a,k,h⟩:=zA1.mp h;obtain⟨o,l,h⟩:=zA1.mp h;cases h;obtain⟨e,m,q2⟩:=qC0 l;refine⟨λ i=>match i with | 0=>a | i+1=>e i,λ i c d g j=>?_,?_⟩
   . cases i with
     | zero =>
       have n:x=c:=by simpa using g
       have e2:y=d:=by simpa using j
       subst n;subst e2;exact k
     | succ i=>exact m i c d (by simpa using g) (by simpa using j)
   rw[q2,zAn,zAn,Nat.add_min_add_right,List.range_succ_eq_map,List.all_cons,List.all_map];show _=(_&&_&&_)
   have:(xs.length+1 == ys.length+1)=(xs.length == ys.length):=by
     by_cases h:xs.length=ys.length
     . simp[h]
     simp[h]
   rw[this,<- Bool.and_assoc];rfl
section
variable{F:Addr->Prop}{H:Hp}
theorem Rep.eqF{x y:D}{A B:List Addr}{b:Bool}(r1:Rep F H v x A)(c:Rep F H w y B)(h:LV.eqF x y=some b):flatV v=true/\flatV w=true/\eqV v w=b:=by
 unfold LV.eqF at h;cases a:x.flat with
 | none=>rw[a] at h;cases h
 | some d =>
   cases e2:y.flat with
   | none=>rw[a,e2] at h;cases h
   | some e =>
     rw[a,e2] at h;obtain⟨rfl,f1⟩:=r1.flat a;obtain⟨rfl,f2⟩:=c.flat e2;exact⟨f1,f2,Option.some.inj h⟩
theorem Rep.d0{x:D}{A:List Addr}(r:Rep F H v x A)(h:x.d0=true):∃ a,v=.ref a/\H a=some (.dK []):=by
 cases x with
 | dct z b =>
   cases b with
   | nil =>
     cases r with
     | dct e q _=>exact⟨_,rfl,by rw[e,List.map_eq_nil_iff.mp q]⟩
     | dctZ e _ q _=>exact⟨_,rfl,by rw[e,List.map_eq_nil_iff.mp q]⟩
   | cons=>cases h
 | _=>cases h
theorem Rep.eqZ{x y:D}{A B:List Addr}{b:Bool}(r1:Rep F H v x A)(d:Rep F H w y B)(h:LV.eqZ x y=some b):(flatV v=true/\flatV w=true/\eqV v w=b)∨(b=true/\∃ a c,v=.ref a/\w=.ref c/\H a=some (.dK [])/\H c=some (.dK [])):=by
 unfold LV.eqZ at h;split at h
 . rename_i hd
   obtain⟨e,f⟩:=zAb.mp hd;obtain⟨a,g,i⟩:=r1.d0 e;obtain⟨c,e2,q2⟩:=d.d0 f;cases h;exact .inr ⟨rfl,a,c,g,e2,i,q2⟩
 exact .inl (r1.eqF d h)
theorem qX4(n:Nat)(x y:D):(eqN (n+1) x y=LV.eqZ x y)∨(∃ z xs z' ys,x=.lst z xs/\y=.lst z' ys)∨∃ xs ys,x=.tup xs/\y=.tup ys:=by
 cases x with
 | lst z xs=>cases y with
   | lst z' ys=>exact .inr (.inl ⟨_,_,_,_,rfl,rfl⟩)
   | _=>exact .inl rfl
 | tup xs=>cases y with
   | tup ys=>exact .inr (.inr ⟨_,_,rfl,rfl⟩)
   | _=>exact .inl rfl
 | _=>exact .inl rfl
theorem qT2(x y:D):eqN 0 x y=LV.eqZ x y:=by cases x<;>cases y<;>rfl
theorem qX5(f:∀{v:V}{x y:D}{A B:List Addr}{b:Bool},Rep F H v x A->Rep F H v y B->eqN n x y=some b->b=true):∀{vs:List V}{xs ys:List D}{A B:List Addr}{b:Bool},Reps F H vs xs A->Reps F H vs ys B->Jp (eqN n) xs ys=some b->b=true:=by
 intro vs
 induction vs with
 | nil=>intro xs ys A B b c d h;cases c;cases d;cases h;rfl
 | cons v vs e =>
   intro xs ys A B b c d h;cases c with | cons g t1=>cases d with | cons i t2 =>
   obtain⟨a,j,h⟩:=zA1.mp h;obtain⟨l,k,h⟩:=zA1.mp h;cases h;rw[f g i j,e t1 t2 k];rfl
theorem qaj7:∀{n:Nat}{v:V}{x y:D}{A B:List Addr}{b:Bool},Rep F H v x A->Rep F H v y B->eqN n x y=some b->b=true:=by
 intro n
 induction n with
 | zero =>
   intro v x y A B b c d h;rw[qT2] at h;rcases c.eqZ d h with⟨f1,f2,rfl⟩ | ⟨rfl,_⟩
   . exact qB9 f1
   rfl
 | succ n k =>
   intro v x y A B b c d h;rcases qX4 n x y with e | ⟨z,l,q,m,rfl,rfl⟩ | ⟨l,m,rfl,rfl⟩
   . rw[e] at h
     rcases c.eqZ d h with⟨f1,f2,rfl⟩ | ⟨rfl,_⟩
     . exact qB9 f1
     rfl
   . obtain⟨a,o,_,rfl,g,i,_⟩:=c.lst_inv
     obtain⟨p,j,_,e,f,q2,_⟩:=d.lst_inv;cases e;rw[g] at f;cases f;exact qX5 k i q2 h
   obtain⟨a,o,rfl,g,i⟩:=c.tup_inv;obtain⟨p,j,e,f,q2⟩:=d.tup_inv;cases e;rw[g] at f;cases f;exact qX5 k i q2 h
theorem Reps.getV{ds:List D}{A:List Addr}(r:Reps F H vs ds A)(h:vs[n]? = some w):∃ d B,ds[n]? = some d/\Rep F H w d B:=by
 have c:=r.len;have e:n < vs.length:=(zA5.mp h).1;obtain⟨f,B,a,b,_⟩:=r.get (n:=n) (d:=ds[n]'(by lia)) (by simp);rw[h] at a;cases a;exact⟨_,B,by simp,b⟩
theorem qX2{x y:D}{A B:List Addr}{b:Bool}(r1:Rep F H v x A)(d:Rep F H w y B)(h:LV.eqZ x y=some b):EqD H n v w b:=by
 rcases r1.eqZ d h with⟨f1,f2,rfl⟩ | ⟨rfl,a,a',rfl,rfl,q1,q2⟩
 . exact .flat f1 f2
 by_cases c:a=a'
 . subst c;exact .same a
 exact .dcts c q1 q2
theorem qX3:∀{n:Nat}{v w:V}{x y:D}{A B:List Addr}{b:Bool},Rep F H v x A->Rep F H w y B->eqN n x y=some b->EqD H n v w b:=by
 intro n
 induction n with
 | zero =>
   intro v w x y A B b c d h;rw[qT2] at h;exact qX2 c d h
 | succ n I =>
   intro v w x y A B b c d h;rcases qX4 n x y with e | ⟨z,J,L,K,rfl,rfl⟩ | ⟨J,K,rfl,rfl⟩
   . rw[e] at h
     exact qX2 c d h
   . obtain⟨a,m,_,rfl,k,g,_⟩:=c.lst_inv
     obtain⟨o,r,_,rfl,l,q2,_⟩:=d.lst_inv;by_cases f:a=o
     . subst f
       cases qaj7 (n:=n+1) c d h;exact .same a
     obtain⟨e,s,rfl⟩:=qC0 h;rw[<- g.len,<- q2.len];by_cases j:m.length=r.length
     . rw[j,Nat.min_self,zBa,Bool.and_true,<- j]
       refine .lsts f k l j λ i p q t e2=>?_
       obtain⟨x,_,u,C⟩:=g.getV t;obtain⟨y,_,E,G⟩:=q2.getV e2;exact I C G (s i x y u E)
     have:(m.length == r.length)=false:=by simpa using j
     rw[this,zBg];exact .lens f k l j
   obtain⟨a,m,rfl,k,g⟩:=c.tup_inv;obtain⟨o,r,rfl,l,q2⟩:=d.tup_inv;by_cases f:a=o
   . subst f
     cases qaj7 (n:=n+1) c d h;exact .same a
   obtain⟨e,s,rfl⟩:=qC0 h;rw[<- g.len,<- q2.len];refine .tups f k l λ i p q t e2=>?_
   obtain⟨x,_,u,C⟩:=g.getV t;obtain⟨y,_,E,G⟩:=q2.getV e2;exact I C G (s i x y u E)
end
def eqT:D->D->Option Bool
 | .lst _ xs,.lst _ ys=>Jp (eqN 20) xs ys
 | .tup xs,.tup ys=>Jp (eqN 20) xs ys
 | .lst _ _,.tup _=>some false
 | .tup _,.lst _ _=>some false
 | .lst _ _,y=>y.flat.map λ _=>false
 | .tup _,y=>y.flat.map λ _=>false
 | x,.lst _ _=>x.flat.map λ _=>false
 | .dct _ _,.tup _=>some false
 | x,.tup _=>x.flat.map λ _=>false
 | x,y=>eqZ x y
theorem Rep.flatV{F:Addr->Prop}{H:Hp}{d:D}{B:List Addr}{b:Bool}(r:Rep F H v d B)(h:(d.flat.map λ _=>false)=some b):L2.flatV v=true/\b=false:=by
 cases e:d.flat with
 | none=>rw[e] at h;cases h
 | some w=>rw[e] at h;cases h;exact⟨(r.flat e).2,rfl⟩
theorem Rep.rc{F:Addr->Prop}{H:Hp}{x y:D}{A B:List Addr}{b:Bool}(r1:Rep F H v x A)(d:Rep F H w y B)(h:eqT x y=some b):RcD H v w b:=by
 have flat:LV.eqZ x y=some b->RcD H v w b:=λ h=>by
   rcases r1.eqZ d h with⟨f1,f2,rfl⟩ | ⟨rfl,a,k,rfl,rfl,l,q2⟩
   . exact .flat f1 f2
   exact .dcts l q2
 cases x with
 | lst z G =>
   obtain⟨a,o,_,rfl,g,l,_⟩:=r1.lst_inv;cases y with
   | lst J m =>
     obtain⟨k,j,_,rfl,c,q2,_⟩:=d.lst_inv;obtain⟨e,r,rfl⟩:=qC0 h;rw[<- l.len,<- q2.len];by_cases n:o.length=j.length
     . rw[n,Nat.min_self,zBa,Bool.and_true,<- n]
       refine .lsts g c n λ i p q s e2=>?_
       obtain⟨x,_,t,u⟩:=l.getV s;obtain⟨y,_,C,E⟩:=q2.getV e2;exact qX3 u E (r i x y t C)
     have:(o.length == j.length)=false:=by simpa using n
     rw[this,zBg];exact .lens g c n
   | tup m=>obtain⟨k,j,rfl,c,q2⟩:=d.tup_inv;cases h;exact .lt g c
   | _=>obtain⟨f,rfl⟩:=d.flatV h;exact .lf g f
 | tup G =>
   obtain⟨a,o,rfl,g,l⟩:=r1.tup_inv;cases y with
   | tup m =>
     obtain⟨k,j,rfl,c,q2⟩:=d.tup_inv;obtain⟨e,r,rfl⟩:=qC0 h;rw[<- l.len,<- q2.len];refine .tups g c λ i p q s e2=>?_
     obtain⟨x,_,t,u⟩:=l.getV s;obtain⟨y,_,C,E⟩:=q2.getV e2;exact qX3 u E (r i x y t C)
   | lst z m=>obtain⟨k,j,_,rfl,c,q2,_⟩:=d.lst_inv;cases h;exact .tl g c
   | _=>obtain⟨f,rfl⟩:=d.flatV h;exact .tf g f
 | dct z I =>
   cases y with
   | lst z m=>cases h
   | tup m =>
     obtain⟨k,j,rfl,c,q2⟩:=d.tup_inv;cases h;cases r1 with
     | dct e _ _=>exact .dt e c
     | dctZ e _ _ _=>exact .dt e c
   | _=>exact flat h
 | _ =>
   cases y with
   | lst z m=>obtain⟨k,j,_,rfl,c,q2,_⟩:=d.lst_inv;obtain⟨f,rfl⟩:=r1.flatV h;exact .fl c f
   | tup m=>obtain⟨k,j,rfl,c,q2⟩:=d.tup_inv;obtain⟨f,rfl⟩:=r1.flatV h;exact .ft c f
   | _=>exact flat h
def gEq(x y:D):Option D:=(eqT x y).map .bl
def gNe(x y:D):Option D:=(eqT x y).map λ b=>.bl (!b)
theorem Bs:A6 true rEqD gEq:=by
 intro F H v w x y B d Q r h q;cases r with | @cons _ _ A _ _ _ a t=>cases t with | @cons _ _ A2 _ _ _ c _ =>
 obtain⟨b,e,rfl⟩:=zAi.mp h;exact⟨b,a.rc c e,q _ H [] (.bl _) (λ _ _ z=>z) New.nil⟩
theorem Hm:A6 true rNeD gNe:=by
 intro F H v w x y B d Q r h q;cases r with | @cons _ _ A _ _ _ a t=>cases t with | @cons _ _ A2 _ _ _ c _ =>
 obtain⟨b,e,rfl⟩:=zAi.mp h;exact⟨b,a.rc c e,q _ H [] (.bl _) (λ _ _ z=>z) New.nil⟩
def flats:List D->Option (List V)
 | []=>some []
 | d::r=>d.flat.bind λ v=>(flats r).bind λ vs=>some (v::vs)
theorem Reps.flats{F:Addr->Prop}{H:Hp}:∀{vs a:List V}{ds:List D}{A:List Addr},Reps F H vs ds A->LV.flats ds=some a->vs=a/\vs.all L2.flatV=true
 | _,_,_,_,.nil,h=>by cases h;exact⟨rfl,rfl⟩
 | _,_,_,_,.cons r t,h=>by
   obtain⟨v,b,h⟩:=zA1.mp h;obtain⟨vs,c,h⟩:=zA1.mp h;cases h;obtain⟨rfl,f⟩:=r.flat b;obtain⟨rfl,g⟩:=t.flats c;exact⟨rfl,by rw[List.all_cons,f,g];rfl⟩
def gInB(neg:Bool)(x y:D):Option D:=x.flat.bind λ v=>y.elems.bind λ ys=>(flats ys).bind λ a=>some (.bl (if neg then !inV v a else inV v a))
theorem os_in{K:PySem.W.Frag}{neg:Bool}:A6 true (rIn K neg) (gInB neg):=by
 intro F H v w x y B d Q r h q;cases r with | @cons _ _ A _ _ _ b t=>cases t with | @cons _ _ A2 _ _ _ c _ =>
 obtain⟨n,e,h⟩:=zA1.mp h;obtain⟨o,i,h⟩:=zA1.mp h;obtain⟨p,j,h⟩:=zA1.mp h;cases h;obtain⟨rfl,f⟩:=b.flat e;obtain⟨a,k,A3,rfl,l,m,_⟩:=c.elems (K:=K) i;obtain⟨rfl,g⟩:=m.flats j;exact⟨a,k,rfl,l,f,g,q _ H [] (.bl _) (λ _ _ z=>z) New.nil⟩
def gIx(x y:D):Option D:=match y with
 | .int i=>x.elems.bind λ ys=>atI ys i
 | _=>none
theorem Aq{K:PySem.W.Frag}:A6 false (rIx K) gIx:=by
 intro F H v w x y B d Q r h q;cases r with | @cons _ _ A _ _ _ l t=>cases t with | @cons _ _ A2 _ _ _ m _ =>
 cases y with
 | int i =>
   obtain⟨u,n,h⟩:=zA1.mp h;cases m;obtain⟨a,j,A3,rfl,c,o,p⟩:=l.elems (K:=K) n;obtain⟨f,B',k,g,s⟩:=o.atI h;have e:=q f H B' g (λ _ _ z=>z) (by
     rw[if_neg (by decide)];exact λ b=>.inl (by rw[zA0];have:=s b;have:=p b;lia))
   rcases c with c | c
   . exact .inl ⟨a,j,i,f,rfl,rfl,c,k,e⟩
   exact .inr (.inl ⟨a,j,i,f,rfl,rfl,c,k,e⟩)
 | _=>cases h
section
variable{F:Addr->Prop}{H:Hp}
theorem Reps.one_inv{x:D}{B:List Addr}(r:Reps F H vs [x] B):∃ v,vs=[v]/\Rep F H v x B:=by
 cases r with | cons h t=>cases t;exact⟨_,rfl,by rw[zAg];exact h⟩
theorem Reps.two_inv{x y:D}{B:List Addr}(r:Reps F H vs [x,y] B):∃ v w A C,vs=[v,w]/\Rep F H v x A/\Rep F H w y C/\∀ b,B.count b=A.count b+C.count b:=by
 cases r with | cons h t=>cases t with | cons a t=>cases t;exact⟨_,_,_,_,rfl,h,a,λ b=>by simp[zA0]⟩
end
noncomputable def fx1(g:D->Option D):Ds->Option D
 | [x]=>g x
 | _=>none
noncomputable def fx2(g:D->D->Option D):Ds->Option D
 | [x,y]=>g x y
 | _=>none
def CS1(nw:Bool)(r:List V->Hp->VK->Prop)(g:D->Option D):Prop:=∀ F H v x B d (Q:VK),Rep F H v x B->g x=some d ->
 (∀ v H' B',Rep F H' v d B'->Same H H'->(if nw=true then New H B' else Sub H B B')->Q v H')->r [v] H Q
theorem CS1.ops{nw:Bool}{r:List V->Hp->VK->Prop}{g:D->Option D}(h:CS1 nw r g):OpS nw r (fx1 g):=by
 intro F H c a B d Q r e q
 match a,e with
 | [x],e =>
   obtain⟨v,rfl,b⟩:=r.one_inv;exact h F H v x B d Q b e q
def Ki(x:D):Option D:=match x with
 | .str z=>gd (z.length<=big) (.int z.length)
 | .dct _ kvs=>some (.int kvs.length)
 | x=>x.elems.map λ ys=>.int ys.length
def Mb(K:PySem.W.Frag):List V->Hp->VK->Prop:=λ xs H Q=>(∃ p ys,xs=[.ref p]/\(SqL K H p ys∨SqT K H p ys)/\Q (.int ys.length) H)∨(∃ z,xs=[.str z]/\z.length<=sizeLine/\Q (.int z.length) H)∨(∃ a kvs,xs=[V.ref a]/\H a=some (.dK kvs)/\Q (.int kvs.length) H)
theorem qE1{X:Cx}:CallR X (.builtin "len") (Mb X.K):=qT8.or (qT7.or qaq8)
theorem qE0{K:PySem.W.Frag}:CS1 true (Mb K) Ki:=by
 intro F H v x B d Q r h q;have seq:∀ b,x.elems=some b->d=.int b.length->Mb K [v] H Q:=λ b e j=>by
   subst j;obtain⟨a,k,A,rfl,f,i,_⟩:=r.elems (K:=K) e;refine .inl ⟨a,k,rfl,f,?_⟩;rw[i.len];exact q _ H [] (.int _) (λ _ _ z=>z) New.nil
 cases x with
 | str z=>obtain⟨l,rfl⟩:=qv9 h;cases r;exact .inr (.inl ⟨z,rfl,zAm l qi7,q _ H [] (.int _) (λ _ _ z=>z) New.nil⟩)
 | dct z g =>
   cases h;obtain⟨a,c,A,rfl,f,e,i,_⟩:=r.dct_inv;refine .inr (.inr ⟨a,c,rfl,f,?_⟩)
   have:c.length=g.length:=by have:=congrArg List.length e;simpa using this
   rw[this];exact q _ H [] (.int _) (λ _ _ z=>z) New.nil
 | lst z b=>cases h;exact seq b rfl rfl
 | tup b=>cases h;exact seq b rfl rfl
 | _=>cases h
def Mc(x:D):Option D:=x.elems.bind λ ys=>gd (D.imms ys=true) (.lst false ys)
theorem qaj8{K:PySem.W.Frag}:CS1 true (λ xs H Q=>∃ p ys,xs=[.ref p]/\(SqL K H p ys∨SqT K H p ys)/\∀ l,H l=none->Q (.ref l) (upd H l (.lst ys))) Mc:=by
 intro F H v x B d Q r h q;obtain⟨ys,e,h⟩:=zA1.mp h;obtain⟨c,rfl⟩:=qv9 h;obtain⟨a,f,A,rfl,g,i,_⟩:=r.elems (K:=K) e;exact⟨a,f,rfl,g,λ p b=>q _ _ [p] (qF2 b (i.imms0 c)) (Same.new b) (qg3 b)⟩
noncomputable def pairK:D->Option (Key×D)
 | .tup [.int k,x]=>if x.imm=true then some (.inl k,x) else none
 | .tup [.str k,x]=>if x.imm=true then some (.inr k,x) else none
 | _=>none
def Lf:List D->Option (List (Key×D))
 | []=>some []
 | d::r=>(pairK d).bind λ p=>(Lf r).bind λ ps=>some (p::ps)
noncomputable def Ic(kvs:List (Key×D))(k:Key)(v:D):List (Key×D) :=
 if (kvs.any λ a=>decide (a.1=k))=true then kvs.map (λ a=>if a.1=k then (a.1,v) else a) else kvs++[(k,v)]
def qw3(kvs more:List (Key×D)):List (Key×D):=more.foldl (λ acc a=>Ic acc a.1 a.2) kvs
abbrev KP(F:Addr->Prop)(H:Hp)(kvs:List (Key×V))(kds:List (Key×D)):Prop:=Paired (λ(p:Key×V)(q:Key×D)=>p.1=q.1/\Rep F H p.2 q.2 []) kvs kds
section
variable{F:Addr->Prop}{H:Hp}
theorem KP.maps{kds:List (Key×D)}(h:KP F H kvs kds):kvs.map (·.1)=kds.map (·.1)/\Reps F H (kvs.map (·.2)) (kds.map (·.2)) []:=by
 induction h with
 | nil=>exact⟨rfl,.nil⟩
 | cons a _ b=>exact⟨by rw[zAx,zAx,a.1,b.1],.cons (A:=[]) (B:=[]) a.2 b.2⟩
theorem KP.any{kds:List (Key×D)}(h:KP F H kvs kds)(k:Key):(kvs.any λ b=>decide (b.1=k))=kds.any λ b=>decide (b.1=k):=by
 induction h with
 | nil=>rfl
 | cons a _ c=>rw[zC1,zC1,a.1,c]
theorem KP.append{kvs':List (Key×V)}{kds kds':List (Key×D)}(h:KP F H kvs kds)(h':KP F H kvs' kds'):KP F H (kvs++kvs') (kds++kds'):=by
 induction h with
 | nil=>exact h'
 | cons a _ b=>exact .cons a b
theorem KP.mapk{kds:List (Key×D)}(h:KP F H kvs kds){k:Key}{d:D}(r:Rep F H v d []):KP F H (kvs.map λ b=>if b.1=k then (b.1,v) else b) (kds.map λ b=>if b.1=k then (b.1,d) else b):=by
 induction h with
 | nil=>exact .nil
 | @cons p q _ _ a _ ih =>
   refine .cons ?_ ih;show (if p.1=k then (p.1,v) else p).1=(if q.1=k then (q.1,d) else q).1/\Rep F H (if p.1=k then (p.1,v) else p).2 (if q.1=k then (q.1,d) else q).2 [];rw[<- a.1];split
   . exact⟨rfl,r⟩
   exact a
theorem KP.put{kds:List (Key×D)}(h:KP F H kvs kds){k:Key}{d:D}(r:Rep F H v d []):KP F H (putK kvs k v) (Ic kds k d):=by
 unfold putK Ic;rw[h.any k];split
 . exact h.mapk r
 exact h.append (.cons ⟨rfl,r⟩ .nil)
theorem KP.merge{more:List (Key×V)}{mored:List (Key×D)}(h:KP F H more mored):∀{kvs:List (Key×V)}{kds:List (Key×D)},KP F H kvs kds->KP F H (qD6 kvs more) (qw3 kds mored):=by
 induction h with
 | nil=>exact λ h=>h
 | @cons p q _ _ a _ ih =>
   intro kvs kds h
   have:=ih (h.put (k:=p.1) a.2)
   rw[a.1] at this;show KP F H (qD6 (putK kvs p.1 p.2) _) (qw3 (Ic kds q.1 q.2) _);rw[a.1];exact this
theorem qay7{ds:Ds}{A:List Addr}{ps:List (Key×D)}(r:Reps F H vs ds A)(h:Lf ds=some ps):∃ kvs,qav6 H vs kvs/\KP F H kvs ps:=by
 induction ds generalizing vs A ps with
 | nil=>cases r;cases h;exact⟨[],.nil,.nil⟩
 | cons d ds m =>
   cases r with
   | cons j t =>
     obtain⟨p,c,h⟩:=zA1.mp h;obtain⟨ps,n,h⟩:=zA1.mp h;cases h;obtain⟨kvs,l,q2⟩:=m t n;unfold pairK at c;split at c
     . rename_i k x
       split at c
       . rename_i hm
         cases c;obtain⟨a,o,rfl,g,e⟩:=j.tup_inv;obtain⟨q,i,A1,A2,rfl,f,b,_⟩:=e.two_inv;cases f
         have:=b.imm hm
         subst this;exact⟨(.inl k,i)::kvs,.cons ⟨a,rfl,g⟩ l,.cons ⟨rfl,b⟩ q2⟩
       cases c
     . rename_i k x
       split at c
       . rename_i hm
         cases c;obtain⟨a,o,rfl,g,e⟩:=j.tup_inv;obtain⟨q,i,A1,A2,rfl,f,b,_⟩:=e.two_inv;cases f
         have:=b.imm hm
         subst this;exact⟨(.inr k,i)::kvs,.cons ⟨a,rfl,g⟩ l,.cons ⟨rfl,b⟩ q2⟩
       cases c
     cases c
theorem qaJ4{p:Addr}{kds:List (Key×D)}(a:H p=none)(r:KP F H kvs kds):Rep F (upd H p (.dK kvs)) (.ref p) (.dct false kds) [p]:=.dct qb2 r.maps.1 (r.maps.2.same (Same.new a))
end
def gDict(x:D):Option D:=match x with
 | .lst _ ys=>(Lf ys).map λ ps=>.dct false (qw3 [] ps)
 | _=>none
theorem qaN0:CS1 true qaF9 gDict:=by
 intro F H v x B d Q r h q;cases x with
 | lst z k =>
   obtain⟨l,e,rfl⟩:=zAi.mp h;obtain⟨a,f,A,rfl,g,i,_⟩:=r.lst_inv;obtain⟨b,j,q2⟩:=qay7 i e;exact⟨a,f,b,rfl,g,j,λ p c=>q _ _ [p] (qaJ4 c (q2.merge .nil)) (Same.new c) (qg3 c)⟩
 | _=>cases h
noncomputable def D.kind:D->Option String
 | .non=>some "NoneType" | .bl _=>some "bool" | .int _=>some "int" | .str _=>some "str" | .lst _ _=>some "list" | .tup _=>some "tuple" | .dct _ _=>some "dict"
 | _=>none
theorem Rep.kind{F:Addr->Prop}{H:Hp}{d:D}{B:List Addr}{t:String}(r:Rep F H v d B)(h:d.kind=some t):B9 H v=some t:=by
 cases r with
 | tup e _=>cases h;exact qaA7 e
 | lst e _=>cases h;exact qah6 e
 | lstZ e _ _=>cases h;exact qah6 e
 | dct e _ _=>cases h;exact qat5 e
 | dctZ e _ _ _=>cases h;exact qat5 e
 | _=>cases h<;>rfl
noncomputable def isTy(n:String):Bool:=n == "bool" || n == "int" || n == "str" || n == "list" || n == "tuple" || n == "dict"
def gIsi(x y:D):Option D:=match y with
 | .ty n=>if isTy n=true then x.kind.map λ t=>.bl (subT t n) else none
 | _=>none
def CS2(nw:Bool)(r:List V->Hp->VK->Prop)(g:D->D->Option D):Prop:=∀ F H v w x y A B d (Q:VK),Rep F H v x A->Rep F H w y B->g x y=some d ->
 (∀ v H' B',Rep F H' v d B'->Same H H'->(if nw=true then New H B' else Sub H (A++B) B')->Q v H')->r [v,w] H Q
theorem CS2.ops{nw:Bool}{r:List V->Hp->VK->Prop}{g:D->D->Option D}(h:CS2 nw r g):OpS nw r (fx2 g):=by
 intro F H l c B d Q r e q
 match c,e with
 | [x,y],e =>
   obtain⟨v,w,A,C,rfl,f,i,j⟩:=r.two_inv;refine h F H v w x y A C d Q f i e λ u H' B' k s a=>q u H' B' k s ?_
   cases nw with
   | true=>exact a
   | false =>
     rw[if_neg (by decide)] at a ⊢;exact λ b=>(a b).imp (λ z=>by rw[zA0] at z;have:=j b;lia) id
theorem qT4:CS2 true rIsi gIsi:=by
 intro F H v w x y A B d Q b c e q;cases y with
 | ty n =>
   cases c;have e:(if isTy n=true then x.kind.map λ t=>D.bl (subT t n) else none)=some d:=e;by_cases a:isTy n=true
   . rw[if_pos a] at e
     obtain⟨t,f,rfl⟩:=zAi.mp e;refine⟨v,n,t,rfl,b.kind f,?_,q _ H [] (.bl _) (λ _ _ z=>z) New.nil⟩;simp only[isTy,Bool.or_eq_true,zBj] at a;simp only[zAl,zB7,or_false];rcases a with ((((h | h) | h) | h) | h) | h
     . exact .inl h
     . exact .inr (.inl h)
     . exact .inr (.inr (.inl h))
     . exact .inr (.inr (.inr (.inl h)))
     . exact .inr (.inr (.inr (.inr (.inl h))))
     exact .inr (.inr (.inr (.inr (.inr h))))
   rw[if_neg a] at e;cases e
 | _=>cases e
def D.isC(C:Addr)(x:D):Option D:=match x with
 | .ins _ C' _=>if C'=C then some (.bl true) else none
 | x=>x.kind.map λ _=>.bl false
def Me(C:Addr)(x y:D):Option D:=match y with
 | .adr a=>if a=C then x.isC C else none
 | _=>none
theorem qaM9{C:Addr}:CS2 true (rIsO C) (Me C):=by
 intro F H v w x y A B d Q f g e q;cases y with
 | adr a =>
   cases g;have e:(if a=C then x.isC C else none)=some d:=e;by_cases b:a=C
   . rw[if_pos b] at e
     subst b;have kind:(x.kind.map λ _=>D.bl false)=some d->rIsO a [v,.ref a] H Q:=λ e=>by
       obtain⟨t,i,rfl⟩:=zAi.mp e;exact⟨_,rfl,.inr ⟨t,f.kind i,q _ H [] (.bl _) (λ _ _ z=>z) New.nil⟩⟩
     cases x with
     | ins z C' k =>
       have e2:(if C'=a then some (D.bl true) else none)=some d:=e;by_cases b:C'=a
       . rw[if_pos b] at e2
         cases e2;subst b;obtain⟨p,j,c,_,rfl,h,_,_,_⟩:=f.ins_inv;exact⟨_,rfl,.inl ⟨p,j,c,rfl,h,q _ H [] (.bl _) (λ _ _ z=>z) New.nil⟩⟩
       rw[if_neg b] at e2;cases e2
     | _=>exact kind e
   rw[if_neg b] at e;cases e
 | _=>cases e
noncomputable def gMax2:D->D->Option D
 | .int i,.int j=>some (.int (if j > i then j else i))
 | _,_=>none
theorem qaM8:CS2 true (λ xs H Q=>∃ i j,xs=[.int i,.int j]/\Q (.int (if j > i then j else i)) H) gMax2:=by
 intro F H v w x y A B d Q a b e q;cases x with
 | int i=>cases y with
   | int j=>cases e;cases a;cases b;exact⟨i,j,rfl,q _ H [] (.int _) (λ _ _ z=>z) New.nil⟩
   | _=>cases e
 | _=>cases e
noncomputable def bools:List D->Option (List Bool)
 | []=>some []
 | .bl b::r=>(bools r).map λ a=>b::a
 | _=>none
theorem Reps.bools{F:Addr->Prop}{H:Hp}:∀{vs:List V}{ds:List D}{A:List Addr}{a:List Bool},Reps F H vs ds A->LV.bools ds=some a->vs=a.map V.bl:=by
 intro vs ds
 induction ds generalizing vs with
 | nil=>intro A a r h;cases r;cases h;rfl
 | cons d ds c =>
   intro A a r h;cases r with
   | cons e t =>
     cases d with
     | bl b =>
       obtain⟨f,g,rfl⟩:=zAi.mp h;cases e;rw[c t g];rfl
     | _=>cases h
def gAll(x:D):Option D:=match x with
 | .lst _ ys=>(bools ys).map λ a=>.bl (a.all id)
 | _=>none
theorem qaN1{K:PySem.W.Frag}:CS1 true (λ xs H Q=>∃(a:Addr)(b:List Bool),xs=[.ref a]/\SqL K H a (b.map V.bl)/\Q (.bl (b.all id)) H) gAll:=by
 intro F H v x B d Q r h q;cases x with
 | lst z g =>
   obtain⟨b,c,rfl⟩:=zAi.mp h;obtain⟨a,i,A,rfl,e,f,_⟩:=r.lst_inv;cases f.bools c;exact⟨a,b,rfl,.inl (.inl e),q _ H [] (.bl _) (λ _ _ z=>z) New.nil⟩
 | _=>cases h
noncomputable def intsD:List D->Option (List Int)
 | []=>some []
 | .int i::r=>(intsD r).map λ is=>i::is
 | _=>none
theorem Reps.intsD{F:Addr->Prop}{H:Hp}:∀{vs:List V}{ds:List D}{A:List Addr}{a:List Int},Reps F H vs ds A->LV.intsD ds=some a->vs=a.map V.int:=by
 intro vs ds
 induction ds generalizing vs with
 | nil=>intro A a r h;cases r;cases h;rfl
 | cons d ds c =>
   intro A a r h;cases r with
   | cons e t =>
     cases d with
     | int b =>
       obtain⟨f,g,rfl⟩:=zAi.mp h;cases e;rw[c t g];rfl
     | _=>cases h
def Gn(xs:List D)(lo hi:Option Int):List D:=(xs.drop (HT.sIx xs.length 0 lo)).take (HT.sIx xs.length xs.length hi - HT.sIx xs.length 0 lo)
def gSl(x:D)(lo hi:Option Int):Option D:=match x with
 | .lst _ ys=>gd (D.imms (Gn ys lo hi)=true) (.lst false (Gn ys lo hi))
 | .scr a=>some (.lst false ((a.drop (HT.sIx a.length 0 lo)).take (HT.sIx a.length a.length hi - HT.sIx a.length 0 lo) |>.map .int))
 | .tup ys=>gd (D.imms (Gn ys lo hi)=true/\(Gn ys lo hi).length < ys.length) (.tup (Gn ys lo hi))
 | _=>none
theorem qH8{F:Addr->Prop}{H:Hp}:∀ ns:List Int,Reps F H (ns.map V.int) (ns.map D.int) []
 | []=>.nil
 | n::r=>.cons (A:=[]) (B:=[]) (.int n) (qH8 r)
theorem os_sl{K:PySem.W.Frag}{F:Addr->Prop}{H:Hp}{x d:D}{lo hi:Option Int}{B:List Addr}(r:Rep F H v x B)(h:gSl x lo hi=some d)(f:∀ ys,x≠.tup ys)(q:∀ v H' B',Rep F H' v d B'->Same H H'->New H B'->Q v H'):rSlL K v lo hi H Q:=by
 cases x with
 | lst z ys =>
   obtain⟨g,rfl⟩:=qv9 h;obtain⟨a,i,A,rfl,j,c,_⟩:=r.lst_inv;refine⟨a,i,rfl,.inl (.inl j),λ p b=>q _ _ [p] (qF2 b ?_) (Same.new b) (qg3 b)⟩;obtain⟨B',k,l⟩:=c.sub (HT.sIx ys.length 0 lo) (HT.sIx ys.length ys.length hi - HT.sIx ys.length 0 lo);unfold Ju;rw[c.len];exact k.imms0 g
 | scr m =>
   cases h;cases r with
   | scr e =>
     refine⟨_,_,rfl,.inl (.inr ⟨_,e⟩),λ p b=>q _ _ [p] (qF2 b ?_) (Same.new b) (qg3 b)⟩;unfold Ju;rw[<- List.map_drop,<- List.map_take,zAf];exact qH8 _
 | tup ys=>exact absurd rfl (f ys)
 | _=>cases h
def D.fld(C:Addr)(f:Str):D->Option D
 | .ins _ C' fs=>if C'=C then fs.lookup f else none
 | _=>none
theorem qah1{F:Addr->Prop}{H:Hp}:∀{c:List (Str×V)}{a:List (Str×D)}{A:List Addr}{f:Str}{d:D},c.map (·.1)=a.map (·.1)->Reps F H (c.map (·.2)) (a.map (·.2)) A->a.lookup f=some d->∃ v B,c.lookup f=some v/\Rep F H v d B/\∀ b,B.count b<=A.count b:=by
 intro c
 induction c with
 | nil=>intro a A f d e r h;cases a with
   | nil=>cases h
   | cons _ _=>simp at e
 | cons p c i =>
   intro a A f d e r h;cases a with
   | nil=>simp at e
   | cons q a =>
     obtain⟨k,v⟩:=p;obtain⟨j,s⟩:=q;have l:k=j:=by simp at e;exact e.1
     have e2:c.map (·.1)=a.map (·.1):=by simp at e;simpa using e.2
     subst l;cases r with
     | @cons _ _ A1 _ _ A2 r1 t =>
       rw[zAp] at h ⊢;cases g:f == k with
       | true=>rw[g] at h;cases h;exact⟨v,A1,rfl,r1,λ b=>by rw[zA0];lia⟩
       | false =>
         rw[g] at h;obtain⟨w,B,m,n,o⟩:=i e2 t h;exact⟨w,B,m,n,λ b=>by rw[zA0];have:=o b;lia⟩
theorem qan3{K:PySem.W.Frag}{C:Addr}{f:Str}(c:Cls K C)(n:qc1 K C f):OpS1 false (λ x H Q=>∃ a C dx fs v,x=.ref a/\H a=some (.ins C dx fs)/\Cls K C/\qc1 K C f/\fs.lookup f=some v/\Q v H) (D.fld C f):=by
 intro F H v x B d Q r h q;cases x with
 | ins z C' fs =>
   have i:(if C'=C then fs.lookup f else none)=some d:=h;by_cases j:C'=C
   . rw[if_pos j] at i
     subst j;obtain⟨a,dx,k,A,rfl,l,e,m,g⟩:=r.ins_inv;obtain⟨w,B',o,p,s⟩:=qah1 e m i;refine⟨a,C',dx,k,w,rfl,l,c,n,o,q w H B' p (λ _ _ z=>z) ?_⟩;rw[if_neg (by decide)];exact λ b=>.inl (by have:=s b;have:=g b;lia)
   rw[if_neg j] at i;cases i
 | _=>cases h
noncomputable def D.key:D->Option Key
 | .int i=>some (.inl i)
 | .str x=>some (.inr x)
 | _=>none
noncomputable def Gp(kds:List (Key×D))(k:Key):Option D:=(kds.find? λ a=>decide (a.1=k)).map (·.2)
theorem Rep.key{F:Addr->Prop}{H:Hp}{x:D}{B:List Addr}{k:Key}(r:Rep F H v x B)(h:x.key=some k):v=kV k:=by
 cases r<;>cases h<;>rfl
theorem qaE1{F:Addr->Prop}{H:Hp}:∀{kvs:List (Key×V)}{kds:List (Key×D)}{A:List Addr}(k:Key),kvs.map (·.1)=kds.map (·.1)->Reps F H (kvs.map (·.2)) (kds.map (·.2)) A ->
   (Gp kds k=none/\Hs kvs k=none)∨∃ v d B,Gp kds k=some d/\Hs kvs k=some v/\Rep F H v d B/\∀ b,B.count b<=A.count b:=by
 intro kvs
 induction kvs with
 | nil=>intro kds A k e r;cases kds with
   | nil=>exact .inl ⟨rfl,rfl⟩
   | cons _ _=>simp at e
 | cons p kvs f =>
   intro kds A k e r;cases kds with
   | nil=>simp at e
   | cons q kds =>
     obtain⟨a,v⟩:=p;obtain⟨g,d⟩:=q;have i:a=g:=by simp at e;exact e.1
     have e2:kvs.map (·.1)=kds.map (·.1):=by simp at e;simpa using e.2
     subst i;cases r with
     | @cons _ _ A1 _ _ A2 r1 t =>
       by_cases c:a=k
       . exact .inr ⟨v,d,A1,by simp[Gp,c],qO7 c,r1,λ b=>by rw[zA0];lia⟩
       have j:Gp ((a,d)::kds) k=Gp kds k:=by simp[Gp,zBm,c]
       rw[j,qO8 (p:=(a,v)) c];rcases f k e2 t with h | ⟨w,l,B,m,n,o,s⟩
       . exact .inl h
       exact .inr ⟨w,l,B,m,n,o,λ b=>by rw[zA0];have:=s b;lia⟩
section
variable{c:Vc}{X:Cx}{a b e:Expr}{oa ob own nw:Bool}{fa fb f:FV}{r:R2}{g:D->D->Option D}{ta tb t:VT}{pos:Pos}
theorem vnm(i:Nat){x:Str}(b:X.N[i]? = some x:=by rfl)(d:Vis X.env.scope x:=by first | exact Or.inl rfl | exact Or.inr (Or.inl rfl) | exact Or.inr (Or.inr rfl))(e:(x == ("__debug__" : Str))=false:=by decide)(a:(x == ("__classdict__" : Str))=false:=by decide) :
   VV c X (.Name x pos) false (rdN i):=qaD8 (qu9 b d e a) (qo2 b)
noncomputable def kC(d:D):FV:=λ _=>some d
theorem Ac{i:Int}:VV c X (.Constant (.int i) j pos) true (kC (.int i)):=Jy qR2 λ _ _=>.int _
theorem vbl{i:Bool}:VV c X (.Constant (.bool i) j pos) true (kC (.bl i)):=Jy pe_bl λ _ _=>.bl _
theorem A8:VV c X (.Constant .none j pos) true (kC .non):=Jy qaR0 λ _ _=>.non
theorem A4{i:Str}:VV c X (.Constant (.str i) j pos) true (kC (.str i)):=Jy qaQ7 λ _ _=>.str _
theorem vgi{x:Str}{n:Int}{k:Tok}(hm:X.mg x=some (.int n k))(a:Gl X x:=by rfl)(b:(x == ("__debug__" : Str))=false:=by decide):VV c X (.Name x pos) true (kC (.int n)):=Jy (qaH7 hm a b) λ _ _=>.int _
theorem vcls{x:Str}(C:Addr)(hm:X.mg x=some (.ref C))(a:Gl X x:=by rfl)(b:(x == ("__debug__" : Str))=false:=by decide):VV c X (.Name x pos) true (kC (.adr C)):=Jy (qaQ8 C hm a b) λ _ _=>.adr _
theorem vty{x:Str}(n:String)(hm:X.mg x=none)(a:Gl X x:=by rfl)(b:bootBuiltins x=some (.type n):=by rfl)(d:x ≠ "__name__" := by decide)(e:(x == ("__debug__" : Str))=false:=by decide):VV c X (.Name x pos) true (kC (.ty n)):=Jy (qaI0 n hm a b d e) λ _ _=>.ty _
theorem vpow{i j:Int}(k:Int){m:Nat}{p q:Pos}(a:i ^ j.toNat=k:=by decide)(b:0<=j:=by decide)(h1:j<=1000000:=by decide)(h2:i.natAbs < 2 ^ 64:=by decide):VV c X (.BinOp (.Constant (.int i) m p) .Pow (.Constant (.int j) n q) pos) true (kC (.int k)):=Jy (qaH4 k a b h1 h2) λ _ _=>.int _
def P2(X:Cx)(e a b:Expr)(r:R2):Prop:=∀ ta tb,PE X a ta->PE X b tb->PE X e (tOp r ta tb)
def T2(X:Cx)(e a b:Expr)(r:R2):Prop:=∀ ta tb,PE X a ta->PE X b tb->PT X e (tTest (tOp r ta tb))
theorem Af{op:Operator}(c:OpR X (binaryOp op) r):P2 X (.BinOp a op b pos) a b r:=λ _ _ d e=>pe_op c d e
theorem A5(c:OpR X (compareOp op) r)(hm:behindInMarks op b=false):P2 X (.Compare a [op] [b] pos) a b r:=λ _ _ d e=>qaH9 c d e hm
theorem Am(c:OpR X (compareOp op) r)(hm:behindInMarks op b=false):T2 X (.Compare a [op] [b] pos) a b r:=λ _ _ d e=>qaG3 c d e hm
theorem A9(c:IxR X r)(d:qal3 b:=by exact λ _ _=>rfl):P2 X (.Subscript a b pos) a b r:=λ _ _ e f=>pe_ix c e f d
theorem v2(p:P2 X e a b r)(h:A6 nw r g)(d:VV c X a oa fa)(f:VV c X b ob fb):VV c X e (nw||(oa&&ob)) (f2 g fa fb):=⟨PE.mono (p _ _ d.h f.h) (op_vv h)⟩
theorem e2(p:P2 X e a b r)(h:A6 true r g)(d:VE c X a ta)(f:VE c X b tb):VE c X e (t2 g ta tb):=⟨PE.mono (p _ _ d.h f.h) (op_ee d f h),qar5 d f⟩
theorem e2v(p:P2 X e a b r)(h:A6 true r g)(d:VE c X a ta)(f:VV c X b ob fb):VE c X e (t2v g ta fb):=⟨PE.mono (p _ _ d.h f.h) (op_ev d h),qaw3 d⟩
theorem e2P(p:P2 X e a b r)(h:A6 false r g)(d:VE c X a ta)(f:VE c X b tb):VE c X e (t2 g ta tb):=⟨PE.mono (p _ _ d.h f.h) (qaR8 d f h),qar5 d f⟩
theorem e2n(i:Nat){x:Str}{p0:Pos}(p:P2 X e (.Name x p0) b r)(h:A6 true r g)(a:VE c X b tb)(f:X.N[i]? = some x:=by rfl)(j:Vis X.env.scope x:=by first | exact Or.inl rfl | exact Or.inr (Or.inl rfl) | exact Or.inr (Or.inr rfl))(k:(x == ("__debug__" : Str))=false:=by decide)(d:(x == ("__classdict__" : Str))=false:=by decide) :
   VE c X e (t2n g i tb):=⟨λ Gm s σ H Q I q=>p _ _ (qu9 f j k d) a.h Gm s σ H Q I (op_ne a h (qo2 f Gm σ H s I) q),qaw4 a⟩
theorem e2nP(i:Nat){x:Str}{p0:Pos}(p:P2 X e (.Name x p0) b r)(h:A6 nw r g)(a:VE c X b tb)(f:X.N[i]? = some x:=by rfl)(j:Vis X.env.scope x:=by first | exact Or.inl rfl | exact Or.inr (Or.inl rfl) | exact Or.inr (Or.inr rfl))(k:(x == ("__debug__" : Str))=false:=by decide)(d:(x == ("__classdict__" : Str))=false:=by decide) :
   VE c X e (t2nP g i tb):=⟨λ Gm s σ H Q I q=>p _ _ (qu9 f j k d) a.h Gm s σ H Q I (qaR4 a h (qo2 f Gm σ H s I) q),qam2 a⟩
noncomputable def D.asB:D->Option Bool
 | .bl b=>some b
 | _=>none
theorem Rep.asB{F:Addr->Prop}{H:Hp}{d:D}{B:List Addr}{k:Bool}(r:Rep F H v d B)(h:d.asB=some k):v=.bl k:=by
 cases r<;>cases h<;>rfl
def ttV(f:FV):VTT:=λ ds Q _=>orF ((f ds).bind D.asB) λ b=>Q b ds
def ttE(t:VT):VTT:=λ ds Q xe=>t ds (λ d a=>orF d.asB λ b=>Q b a) xe
theorem qaE4:∀ σ H Q,Gv c (ttV f) σ H Q->liftV c own f σ H (λ x H'=>∃ k,x=.bl k/\Q k H'):=by
 rintro σ H Q ⟨F,a,A,h,S,x,q⟩;obtain⟨b,e,q⟩:=qa7.mp q;obtain⟨d,g,e2⟩:=zA1.mp e;exact⟨F,a,A,d,S,g,λ v H' B r s _=>⟨b,r.asB e2,q H' F A (S.same s) (.same s)⟩⟩
theorem qaE5(h:VE c X e t):∀ σ H Q,Gv c (ttE t) σ H Q->Bd c t σ H (λ x H'=>∃ k,x=.bl k/\Q k H'):=by
 rintro σ H Q ⟨F,a,A,f,S,x,q⟩;refine⟨F,a,A,f,S,x,h.m _ _ _ _ _ (λ d g q v H1 F1 T A1 i S1 l j=>?_) (λ _ _ z=>z) q⟩;obtain⟨b,e,q⟩:=qa7.mp q;exact⟨b,i.asB e,q H1 F1 A1 S1 (j.count λ b=>by rw[zA0];lia)⟩
theorem qac3:∀ ds (Q Q':Bool->Ds->Prop) (xe b:XKd),(∀ d a,Q d a->Q' d a)->(∀ x a,xe x a->b x a)->ttV f ds Q xe->ttV f ds Q' b:=λ ds Q Q' xe b c _=>qa5 λ d=>c d ds
theorem qac5(h:VE c X e t):∀ ds (Q Q':Bool->Ds->Prop) (xe b:XKd),(∀ d a,Q d a->Q' d a)->(∀ x a,xe x a->b x a)->ttE t ds Q xe->ttE t ds Q' b:=λ ds Q Q' xe b f g=>h.m _ _ _ _ _ (λ d a=>qa5 λ z=>f z a) g
theorem tv(h:VV c X e own f)(a:∀ whole,isTrue e X.env whole=(do let v <- whole;standAt e.pos;holding [v] (truthy v)):=by intro _;rfl):VTe c X e (ttV f):=⟨PT.mono (qaG2 h.h a) qaE4,qac3⟩
theorem te(h:VE c X e t)(a:∀ whole,isTrue e X.env whole=(do let v <- whole;standAt e.pos;holding [v] (truthy v)):=by intro _;rfl):VTe c X e (ttE t):=⟨PT.mono (qaG2 h.h a) (qaE5 h),qac5 h⟩
theorem q2(p:T2 X e a b r)(h:A6 nw r g)(d:VV c X a oa fa)(f:VV c X b ob fb):VTe c X e (ttV (f2 g fa fb)):=⟨PT.mono (p _ _ d.h f.h) λ σ H Q q=>op_vv h σ H _ (qaE4 σ H Q q),qac3⟩
theorem q2v(p:P2 X e a b r)(i:T2 X e a b r)(h:A6 true r g)(d:VE c X a ta)(f:VV c X b ob fb):VTe c X e (ttE (t2v g ta fb)):=⟨PT.mono (i _ _ d.h f.h) λ σ H Q q=>op_ev d h σ H _ (qaE5 (e2v p h d f) σ H Q q),qac5 (e2v p h d f)⟩
variable{qa qb:VTT}{rest:List Expr}
def Ie(t:VTT):VTT:=λ ds Q xe=>t ds (λ b a=>Q (!b) a) xe
theorem Bt(h:VTe c X a qa):VTe c X (.UnaryOp .Not a pos) (Ie qa):=by
 refine⟨PT.mono (qaP7 h.h) λ σ H Q ⟨F,e,A,f,S,x,q⟩=>⟨F,e,A,f,S,x,q⟩,λ e Q Q' f g i j=>h.m _ _ _ _ _ (λ b d=>i _ d) j⟩
structure VTw(c:Vc)(X:Cx)(e:Expr)(t:VTT):Prop where
 h:PW X e (Gv c t)
 m:∀ ds (Q Q':Bool->Ds->Prop) (xe xe':XKd),(∀ d ds',Q d ds'->Q' d ds')->(∀ x ds',xe x ds'->xe' x ds')->t ds Q xe->t ds Q' xe'
theorem VTw.te(h:VTw c X e qa):VTe c X e qa:=⟨h.h.pt,h.m⟩
theorem Kv(h:VTe c X a qa):VTw c X (.BoolOp .And [a] pos) qa:=⟨qaG1 h.h,h.m⟩
theorem Mf(h:VTe c X a qa):VTw c X (.BoolOp .Or [a] pos) qa:=⟨qaP5 h.h,h.m⟩
def ttAnd(t u:VTT):VTT:=λ ds Q xe=>t ds (λ k ds1=>if k=true then u ds1 Q xe else Q false ds1) xe
def ttOr(t u:VTT):VTT:=λ ds Q xe=>t ds (λ k ds1=>if k=true then Q true ds1 else u ds1 Q xe) xe
theorem qV9{k:Bool->St->Hp->(Bool->Hp->Prop)->Prop}{K:Bool->Ds->(Bool->Ds->Prop)->XKd->Prop}(h:VTe c X a qa)(i:∀(b:Bool) F ds A xe σ H (Q:Bool->Hp->Prop),Sta c F H σ ds A->Xc c xe F H A->K b ds (λ f e=>∀ H' F' A',Sta c F' H' σ e A'->Stp F H A F' H' A'->Q f H') xe->k b σ H Q)(hm:∀(b:Bool) ds (Q Q':Bool->Ds->Prop) (xe:XKd),(∀ d e,Q d e->Q' d e)->K b ds Q xe->K b ds Q' xe):∀ σ H Q,Gv c (λ ds Q xe=>qa ds (λ b ds1=>K b ds1 Q xe) xe) σ H Q->Gv c qa σ H (λ b H1=>k b σ H1 Q):=by
 rintro σ H Q ⟨F,ds,A,xe,S,x,q⟩;refine⟨F,ds,A,xe,S,x,h.m _ _ _ _ _ (λ b ds1 q H1 F1 A1 S1 g=>?_) (λ _ _ z=>z) q⟩;exact i b F1 ds1 A1 xe σ H1 Q S1 (x.step g) (hm b ds1 _ _ xe (λ f e q H' F' A' S' j=>q H' F' A' S' (g.trans j)) q)
theorem tand(g:VTe c X a qa)(i:VTw c X (.BoolOp .And (b::rest) pos) qb):VTw c X (.BoolOp .And (a::b::rest) pos) (ttAnd qa qb):=by
 refine⟨PW.mono (qaP6 g.h i.h) ?_,λ d Q Q' e l f j=>g.m _ _ _ _ _ (λ k n q=>?_) j⟩
 . refine qV9 (k:=λ b σ H Q=>if b=true then Gv c qb σ H Q else Q false H) (K:=λ b d Q e=>if b=true then qb d Q e else Q false d) g ?_ ?_
   . intro b F d A e σ H Q S x q
     cases b with
     | true=>rw[if_pos rfl] at q ⊢;exact⟨F,d,A,e,S,x,q⟩
     | false=>rw[if_neg (by decide)] at q ⊢;exact q H F A S Stp.refl
   intro b d Q Q' e f;cases b with
   | true=>rw[if_pos rfl,if_pos rfl];exact i.m _ _ _ _ _ f λ _ _ z=>z
   | false=>rw[if_neg (by decide),if_neg (by decide)];exact f _ _
 cases k with
 | true=>rw[if_pos rfl] at q ⊢;exact i.m _ _ _ _ _ f j q
 | false=>rw[if_neg (by decide)] at q ⊢;exact f _ _ q
theorem tor(g:VTe c X a qa)(i:VTw c X (.BoolOp .Or (b::rest) pos) qb):VTw c X (.BoolOp .Or (a::b::rest) pos) (ttOr qa qb):=by
 refine⟨PW.mono (pw_or g.h i.h) ?_,λ d Q Q' e l f j=>g.m _ _ _ _ _ (λ k n q=>?_) j⟩
 . refine qV9 (k:=λ b σ H Q=>if b=true then Q true H else Gv c qb σ H Q) (K:=λ b d Q e=>if b=true then Q true d else qb d Q e) g ?_ ?_
   . intro b F d A e σ H Q S x q
     cases b with
     | false=>rw[if_neg (by decide)] at q ⊢;exact⟨F,d,A,e,S,x,q⟩
     | true=>rw[if_pos rfl] at q ⊢;exact q H F A S Stp.refl
   intro b d Q Q' e f;cases b with
   | false=>rw[if_neg (by decide),if_neg (by decide)];exact i.m _ _ _ _ _ f λ _ _ z=>z
   | true=>rw[if_pos rfl,if_pos rfl];exact f _ _
 cases k with
 | false=>rw[if_neg (by decide)] at q ⊢;exact i.m _ _ _ _ _ f j q
 | true=>rw[if_pos rfl] at q ⊢;exact f _ _ q
end
section
variable{c:Vc}{X:Cx}{a b e:Expr}{oa ob own nw:Bool}{fa fb f:FV}{ta tb t:VT}{pos:Pos}{rest:List Expr}
def tSeqE(ta:VT)(k:D->VT):VT:=λ ds Q xe=>ta ds (λ x ds1=>k x ds1 Q xe) xe
theorem qaA2{k:V->St->Hp->VK->Prop}{K:D->VT}(i:VE c X a ta)(hm:∀ x ds (Q Q':DK) (xe f:XKd),(∀ d e,Q d e->Q' d e)->(∀ x e,xe x e->f x e)->K x ds Q xe->K x ds Q' f)(j:∀ F H σ v x T,Rep F H v x T->∀ Q,(∃ ds A xe,Sta c F H σ ds A/\Xc c xe F H A/\K x ds (λ d e=>∀ v H' F' T A',Rep F' H' v d T->Sta c F' H' σ e A'->Ok F' H' (T++A')->Stp F H A F' H' (T++A')->Q v H') xe)->k v σ H Q) :
   ∀ σ H Q,Bd c (tSeqE ta K) σ H Q->Bd c ta σ H (λ x H1=>k x σ H1 Q):=by
 rintro σ H Q ⟨F,ds,A,xe,S,x,q⟩;refine⟨F,ds,A,xe,S,x,i.m _ _ _ _ _ (λ d g q v H1 F1 T A1 l S1 p n=>?_) (λ _ _ z=>z) q⟩;have h:Stp F H A F1 H1 A1:=n.count λ b=>by rw[zA0];lia
 exact j F1 H1 σ v d T l Q ⟨g,A1,xe,S1,x.step h,hm d g _ _ _ _ (λ t e q w H' F' T' A' r S' o s=>q w H' F' T' A' r S' o (h.trans s)) (λ _ _ z=>z) q⟩
def Kw(ta tb:VT):VT:=tSeqE ta λ x ds Q xe=>orF x.asB λ k=>if k=true then tb ds Q xe else Q (.bl false) ds
theorem qF6{k:Bool}{p q a b:Prop}(h1:p->a)(h2:q->b):(if k=true then p else q)->(if k=true then a else b):=by
 cases k with
 | true=>rw[if_pos rfl,if_pos rfl];exact h1
 | false=>rw[if_neg (by decide),if_neg (by decide)];exact h2
theorem qal0(g:VE c X e tb):∀(x:D) ds (Q Q':DK) (xe b:XKd),(∀ d a,Q d a->Q' d a)->(∀ x a,xe x a->b x a)->(orF x.asB λ k=>if k=true then tb ds Q xe else Q (.bl false) ds)->(orF x.asB λ k=>if k=true then tb ds Q' b else Q' (.bl false) ds) :=
 λ x ds Q Q' xe b f h=>qa5 λ k=>qF6 (g.m _ _ _ _ _ f h) (f _ _)
theorem Lg{op:PySem.BoolOp}(h:VE c X a ta):VE c X (.BoolOp op [a] pos) ta:=⟨qaH5 h.h,h.m⟩
theorem Jq(e:VE c X a ta)(f:VE c X (.BoolOp .And (b::rest) pos) tb):VE c X (.BoolOp .And (a::b::rest) pos) (Kw ta tb):=by
 refine⟨PE.mono (qaI2 e.h f.h) ?_,λ l Q Q' g i p n=>e.m _ _ _ _ _ (λ d j=>qal0 f d j Q Q' g i p n) n⟩;refine qaA2 (k:=λ v σ H Q=>∃ o,v=.bl o/\if o=true then Bd c tb σ H Q else Q (.bl false) H) e (qal0 f) ?_;rintro F H σ v x T r Q ⟨l,A,g,S,s,q⟩;obtain⟨k,t,q⟩:=qa7.mp q;refine⟨k,r.asB t,?_⟩;cases k with
 | true=>rw[if_pos rfl] at q ⊢;exact⟨F,l,A,g,S,s,q⟩
 | false=>rw[if_neg (by decide)] at q ⊢;exact q _ H F [] A (.bl _) S S.ok Stp.refl
variable{qc:VTT}
def tIfE(qc:VTT)(ta tb:VT):VT:=λ ds Q xe=>qc ds (λ k ds1=>if k=true then ta ds1 Q xe else tb ds1 Q xe) xe
theorem eif(i:VTe c X cd qc)(j:VE c X a ta)(l:VE c X b tb):VE c X (.IfExp cd a b pos) (tIfE qc ta tb):=by
 refine⟨PE.mono (qay2 i.h j.h l.h) ?_,λ t Q Q' f w u n=>i.m _ _ _ _ _ (λ k e=>qF6 (j.m _ _ _ _ _ u n) (l.m _ _ _ _ _ u n)) n⟩;rintro σ H Q ⟨F,t,A,f,S,x,q⟩;refine⟨F,t,A,f,S,x,i.m _ _ _ _ _ (λ k e q H1 F1 A1 S1 g=>?_) (λ _ _ z=>z) q⟩;cases k with
 | true=>rw[if_pos rfl] at q ⊢;exact⟨F1,e,A1,f,S1,x.step g,j.m _ _ _ _ _ (λ d p q v H' F' T A' r S' o s=>q v H' F' T A' r S' o (g.trans s)) (λ _ _ z=>z) q⟩
 | false=>rw[if_neg (by decide)] at q ⊢;exact⟨F1,e,A1,f,S1,x.step g,l.m _ _ _ _ _ (λ d p q v H' F' T A' r S' o s=>q v H' F' T A' r S' o (g.trans s)) (λ _ _ z=>z) q⟩
def fAnd(fa fb:FV):FV:=λ ds=>(fa ds).bind λ x=>x.asB.bind λ k=>if k=true then fb ds else some (.bl false)
def fOr(fa fb:FV):FV:=λ ds=>(fa ds).bind λ x=>x.asB.bind λ k=>if k=true then some (.bl true) else fb ds
def fNot(fa:FV):FV:=λ ds=>(fa ds).bind λ x=>x.asB.map λ k=>.bl (!k)
theorem vone{op:PySem.BoolOp}(h:VV c X a oa fa):VV c X (.BoolOp op [a] pos) oa fa:=⟨qaH5 h.h⟩
theorem vand(m:VV c X a oa fa)(n:VV c X (.BoolOp .And (b::rest) pos) ob fb):VV c X (.BoolOp .And (a::b::rest) pos) ob (fAnd fa fb):=by
 refine⟨PE.mono (qaI2 m.h n.h) λ σ H Q g=>?_⟩;obtain⟨F,i,A,d,S,e,q⟩:=g;obtain⟨x,p,e⟩:=zA1.mp e;obtain⟨k,r,e⟩:=zA1.mp e;refine⟨F,i,A,x,S,p,λ v H1 B1 s f y=>⟨k,s.asB r,?_⟩⟩;cases k with
 | true=>rw[if_pos rfl] at e ⊢;exact⟨F,i,A,d,S.same f,e,λ w H2 B2 t u j=>q w H2 B2 t (f.trans u) λ l=>⟨(j l).one,λ b o e=>(j l).new b o (f b o e)⟩⟩
 | false=>rw[if_neg (by decide)] at e ⊢;cases e;exact q _ H1 [] (.bl _) f λ _=>New.nil
theorem vor(m:VV c X a oa fa)(n:VV c X (.BoolOp .Or (b::rest) pos) ob fb):VV c X (.BoolOp .Or (a::b::rest) pos) ob (fOr fa fb):=by
 refine⟨PE.mono (pe_or m.h n.h) λ σ H Q g=>?_⟩;obtain⟨F,i,A,d,S,e,q⟩:=g;obtain⟨x,p,e⟩:=zA1.mp e;obtain⟨k,r,e⟩:=zA1.mp e;refine⟨F,i,A,x,S,p,λ v H1 B1 s f y=>⟨k,s.asB r,?_⟩⟩;cases k with
 | false=>rw[if_neg (by decide)] at e ⊢;exact⟨F,i,A,d,S.same f,e,λ w H2 B2 t u j=>q w H2 B2 t (f.trans u) λ l=>⟨(j l).one,λ b o e=>(j l).new b o (f b o e)⟩⟩
 | true=>rw[if_pos rfl] at e ⊢;cases e;exact q _ H1 [] (.bl _) f λ _=>New.nil
theorem vnot(f:VV c X a oa fa):VV c X (.UnaryOp .Not a pos) true (fNot fa):=by
 refine⟨PE.mono (qaQ9 f.h) λ σ H Q b=>?_⟩;obtain⟨F,g,A,d,S,e,q⟩:=b;obtain⟨x,i,e⟩:=zA1.mp e;obtain⟨k,j,rfl⟩:=zAi.mp e;exact⟨F,g,A,x,S,i,λ v H1 B1 l m n=>⟨k,l.asB j,q _ H1 [] (.bl _) m λ _=>New.nil⟩⟩
noncomputable def gNeg:D->Option D
 | .int i=>some (.int (-i))
 | _=>none
theorem Ba{f:Str}{C:Addr}{K:PySem.W.Frag}(b:X.K=K)(d:VV c X a oa fa)(e:Cls K C)(n:qc1 K C f)(g:attributeBase a f X.env (eval a X.env)=eval a X.env:=by rfl):VV c X (.Attribute a f pos) oa (f1 (D.fld C f) fa):=by
 subst b;exact⟨PE.mono (Lw d.h g) (op_v (nw:=false) (qan3 e n))⟩
variable{rc:List V->Hp->VK->Prop}{gc:Ds->Option D}{x:Str}{p:Pos}{es:List Expr}{fs:Ds->Option Ds}{tos:VTA}
def Bc(gc:Ds->Option D)(fs:Ds->Option Ds):FV:=λ ds=>(fs ds).bind gc
theorem vbi{id:String}(d:CallR X (.builtin id) rc)(h:OpS nw rc gc)(hm:X.mg x=none)(f:VVs c X (e::es) own fs)(g:Gl X x:=by rfl)(i:bootBuiltins x=some (.builtin id):=by rfl)(j:x ≠ "__name__" := by decide)(a:(x == ("__debug__" : Str))=false:=by decide)(k:starEach (e::es) X.env=(false,eval e X.env)::starEach es X.env:=by rfl)(b:((backTo pos (starEach es X.env)).any λ x=>x.1)=false:=by rfl) :
   VV c X (.Call (.Name x p) (e::es) [] pos) (nw||own) (Bc gc fs):=⟨PE.mono (cbi d hm f.h g i j a k b) (qaI7 h)⟩
theorem vcty{id:String}(d:CallR X (.type id) rc)(h:OpS nw rc gc)(hm:X.mg x=none)(f:VVs c X (e::es) own fs)(g:Gl X x:=by rfl)(i:bootBuiltins x=some (.type id):=by rfl)(j:x ≠ "__name__" := by decide)(a:(x == ("__debug__" : Str))=false:=by decide)(k:starEach (e::es) X.env=(false,eval e X.env)::starEach es X.env:=by rfl)(b:((backTo pos (starEach es X.env)).any λ x=>x.1)=false:=by rfl) :
   VV c X (.Call (.Name x p) (e::es) [] pos) (nw||own) (Bc gc fs):=⟨PE.mono (cty d hm f.h g i j a k b) (qaI7 h)⟩
theorem ebi{id:String}(f:CallR X (.builtin id) rc)(h:OpS true rc gc)(hm:X.mg x=none)(a:VOs c X (e::es) tos)(g:Gl X x:=by rfl)(i:bootBuiltins x=some (.builtin id):=by rfl)(j:x ≠ "__name__" := by decide)(b:(x == ("__debug__" : Str))=false:=by decide)(k:starEach (e::es) X.env=(false,eval e X.env)::starEach es X.env:=by rfl)(d:((backTo pos (starEach es X.env)).any λ x=>x.1)=false:=by rfl) :
   VE c X (.Call (.Name x p) (e::es) [] pos) (tcO gc tos):=⟨PE.mono (cbi f hm a.h g i j b k d) (opc_o a h),qaw1 a⟩
def gLst(xs:Ds):Option D:=gd (D.imms xs=true/\xs.length<=big) (.lst false xs)
def gTup(xs:Ds):Option D:=gd (D.imms xs=true/\xs.length<=big) (.tup xs)
theorem Gq(k:VVs c X es own fs):VV c X (.List es pos) true (Bc gLst fs):=by
 refine⟨PE.mono (qay0 k.h) λ σ H Q f=>?_⟩;obtain⟨F,l,A,d,S,e,q⟩:=f;obtain⟨m,n,e2⟩:=zA1.mp e;obtain⟨g,rfl⟩:=qv9 e2;refine⟨F,l,A,m,S,n,λ r H1 B1 i j s=>⟨by rw[i.len];exact zAm g.2 qi7,λ p a=>?_⟩⟩;exact q _ _ [p] (qF2 a (i.imms0 g.1)) (j.trans (Same.new a)) λ _=>⟨(qg3 a).one,λ b o e=>(qg3 a).new b o (j b o e)⟩
theorem Bb{k:Nat}(i:VVs c X es own fs):VV c X (.Tuple es k pos) true (Bc gTup fs):=by
 refine⟨PE.mono (qaH3 i.h) λ σ H Q a=>?_⟩;obtain⟨F,j,A,d,S,e,q⟩:=a;obtain⟨l,m,e2⟩:=zA1.mp e;obtain⟨b,rfl⟩:=qv9 e2;refine⟨F,j,A,l,S,m,λ o H1 B1 f n r=>⟨by rw[f.len];exact zAm b.2 qi7,λ p g=>?_⟩⟩;exact q _ _ [] (qag3 g (f.imms0 b.1)) (n.trans (Same.new g)) λ _=>New.nil
def FO:=Ds->Option (Option Int)
inductive qaO1(c:Vc)(f:FO)(σ:St)(H:Hp)(Q:Option Int->Hp->Prop):Prop
 | mk (F:Addr->Prop) (ds:Ds) (A:List Addr) (i:Option Int) (S:Sta c F H σ ds A) (e:f ds=some i) (q:∀ H',Same H H'->Q i H'):qaO1 c f σ H Q
def qaS3(c:Vc)(f:FO):TO:=qaO1 c f
structure VPO(c:Vc)(X:Cx)(e:Option Expr)(f:FO):Prop where
 h:PO X e (qaS3 c f)
theorem PO.mono{X:Cx}{e:Option Expr}{t t':TO}(h:PO X e t)(i:∀ σ H Q,t' σ H Q->t σ H Q):PO X e t':=λ Gm s σ H Q I q=>h Gm s σ H Q I (i σ H Q q)
noncomputable def foN:FO:=λ _=>some none
noncomputable def D.asI:D->Option Int
 | .int i=>some i
 | _=>none
theorem Rep.asI{F:Addr->Prop}{H:Hp}{d:D}{B:List Addr}{k:Int}(r:Rep F H v d B)(h:d.asI=some k):v=.int k:=by
 cases r<;>cases h<;>rfl
def foS(f:FV):FO:=λ ds=>(f ds).bind λ d=>d.asI.map some
theorem I8:VPO c X none foN:=⟨PO.mono qas7 λ σ H Q ⟨F,a,A,i,S,e,q⟩=>by cases e;exact q H λ _ _ z=>z⟩
theorem I9(h:VV c X e own f):VPO c X (some e) (foS f):=by
 refine⟨PO.mono (qas6 h.h) λ σ H Q a=>?_⟩;obtain⟨F,b,A,i,S,e,q⟩:=a;obtain⟨d,g,e2⟩:=zA1.mp e;obtain⟨j,k,rfl⟩:=zAi.mp e2;exact⟨F,b,A,d,S,g,λ v H' B r s _=>⟨j,r.asI k,q H' s⟩⟩
noncomputable def noT:D->Bool
 | .tup _=>false
 | _=>true
def fsl(fa:FV)(lo hi:FO):FV:=λ ds=>(fa ds).bind λ x=>(lo ds).bind λ l=>(hi ds).bind λ h=>if noT x=true then gSl x l h else none
theorem vsl{lo hi:Option Expr}{fl n:FO}{p2:Pos}(s:VV c X a oa fa)(t:VPO c X lo fl)(u:VPO c X hi n):VV c X (.Subscript a (.Slice lo hi none p2) pos) true (fsl fa fl n):=by
 refine⟨PE.mono (qaf1 qar7 s.h t.h u.h) λ σ H Q g=>?_⟩;obtain⟨F,i,A,d,S,e,q⟩:=g;obtain⟨x,y,e⟩:=zA1.mp e;obtain⟨l,e2,e⟩:=zA1.mp e;obtain⟨h,B,e⟩:=zA1.mp e;by_cases j:noT x=true
 . rw[if_pos j] at e
   refine⟨F,i,A,x,S,y,λ v H1 B1 C k _=>⟨F,i,A,l,S.same k,e2,λ H2 m=>⟨F,i,A,h,(S.same k).same m,B,λ H3 p=>?_⟩⟩⟩;have f:=(k.trans m).trans p;refine os_sl ((C.same m).same p) e (λ G z=>by subst z;cases j) λ w H' B' D E r=>q w H' B' D (f.trans E) λ _=>⟨r.one,λ b o e=>r.new b o (f b o e)⟩
 rw[if_neg j] at e;cases e
def fget(fa a b:FV):FV:=λ ds=>(fa ds).bind λ x=>(a ds).bind λ y=>(b ds).bind λ z=>match x with
 | .dct _ kvs=>y.key.bind λ k=>gd (((Gp kvs k).getD z).imm=true) ((Gp kvs k).getD z)
 | _=>none
theorem vget{k z:Expr}{D E:Bool}{s t:FV}{apos cpos:Pos}(G:X.A.units+1 < cLine)(I:VV c X a oa fa)(J:VV c X k D s)(K:VV c X z E t)(m:M2 X a "get" apos k z cpos):VV c X (.Call (.Attribute a "get" apos) [k,z] [] cpos) true (fget fa s t):=by
 refine⟨PE.mono (qay4 G I.h J.h K.h m) λ σ H Q j=>?_⟩;obtain⟨F,l,A,d,S,e,q⟩:=j;obtain⟨x,L,e⟩:=zA1.mp e;obtain⟨y,e2,e⟩:=zA1.mp e;obtain⟨w,M,e⟩:=zA1.mp e;cases x with
 | dct z N =>
   obtain⟨n,O,e⟩:=zA1.mp e;obtain⟨g,rfl⟩:=qv9 e;refine⟨F,l,A,_,S,L,λ v H1 B1 P o _=>?_⟩;obtain⟨a,b,A2,rfl,B,R,T,_⟩:=P.dct_inv;refine⟨a,rfl,.inl ⟨b,.inl B⟩,F,l,A,y,S.same o,e2,λ u H2 B2 U i _=>⟨F,l,A,w,(S.same o).same i,M,λ V H3 B3 C p _=>?_⟩⟩;have r:=p _ _ (i _ _ B);refine⟨Hs b n,.inl ⟨b,n,.inl r,(U.key O),rfl⟩,?_⟩;have f:=(o.trans i).trans p;rcases qaE1 n R T with⟨n1,n2⟩ | ⟨vv,dd,BB,n1,n2,n3,n4⟩
   . rw[n1] at g q;rw[n2]
     have:=C.imm g
     subst this;exact q _ H3 [] C f λ _=>New.nil
   rw[n1] at g q;rw[n2]
   have:=n3.imm g
   subst this;exact q _ H3 [] ((n3.same i).same p) f λ _=>New.nil
 | _=>cases e
end
section
variable{c:Vc}{X:Cx}{a b e:Expr}{pos:Pos}{F F':Addr->Prop}{H H':Hp}{σ:St}{ds:Ds}{A:List Addr}
theorem Sta.put1{d:D}(S:Sta c F H σ ds A)(h:ds[i]? = some d)(e:d≠.unk):∃(v:V)(B C:List Addr),(σ++c.gv)[i]? = some (some v)/\Rep F H v d B/\(∀ b,A.count b=B.count b+C.count b) /\
   ∀{F':Addr->Prop}{H':Hp}{W:Addr->Prop}(d':D)(B':List Addr),Kp F H W F' H'->(∀ b∈C,¬ W b)->Rep F' H' v d' B'->∃ A':List Addr,Locs F' H' (σ++c.gv) (ds.set i d') A'/\∀ b,A'.count b=B'.count b+C.count b:=by
 have f:Ay ds i []=some d:=by unfold Ay;rw[h];rfl
 obtain⟨u,w,B,C,g,j,l,m,n⟩:=S.loc.place f e;cases j;refine⟨u,B,C,g,l,m,λ{F' H' W} d' B' k o r=>?_⟩;obtain⟨A',a,q2⟩:=n d' B' k o r;refine⟨A',?_,q2⟩;unfold A7 at a;rw[h] at a;exact a
theorem qq7{d:D}(h:d.known=true):d≠.unk:=λ z=>by subst z;cases h
def tMv(i:Nat):VT:=λ ds Q _=>orF (rdN i ds) λ d=>Q d (ds.set i .unk)
theorem emv(i:Nat){x:Str}(k:X.N[i]? = some x:=by rfl)(m:Vis X.env.scope x:=by first | exact Or.inl rfl | exact Or.inr (Or.inl rfl) | exact Or.inr (Or.inr rfl))(n:(x == ("__debug__" : Str))=false:=by decide)(a:(x == ("__classdict__" : Str))=false:=by decide) :
   VE c X (.Name x pos) (tMv i):=by
 refine⟨λ Gm s σ H Q I g=>?_,λ p Q Q' r t u _=>qa5 λ d=>u _ _⟩;obtain⟨F,p,A,r,S,x,q⟩:=g;refine qu9 k m n a Gm s σ H Q I ?_;obtain⟨d,h,q⟩:=qa7.mp q;obtain⟨h,w⟩:=qo7.mp h;obtain⟨v,B,C,l,y,j,D⟩:=S.put1 h (qq7 w);have E:=qo2 k Gm σ H s I;rw[zAr E] at l;obtain⟨A',G,q2⟩:=D .unk [] (Kp.same (λ _ _ z=>z)) (λ _ _ z=>z) (.unk v);refine⟨v,l,q v H F B A' y ⟨G,S.ok.count λ b=>by rw[q2,j];simp,S.len,S.ag⟩ (S.ok.count λ b=>by rw[zA0,q2,j];simp) ?_⟩;exact⟨λ _ _ e _=>e,λ b o e z=>by rw[zA0,q2];have:=j b;simp;lia,λ _ f=>f,λ _ _ _ _ f=>f⟩
theorem share{B C:List Addr}(o:Ok F H A)(a:∀ b,A.count b=B.count b+C.count b)(d:∀ b∈B,∃ o,H b=some o/\He o=true){A':List Addr}(c:∀ b,A'.count b=C.count b) :
   Ok (λ b=>F b∨b∈B) H A'/\Stp F H A (λ b=>F b∨b∈B) H A':=by
 refine⟨⟨λ b=>by rw[c];have:=o.sep b;have:=a b;lia,λ b f=>?_,λ b f=>?_⟩,λ _ _ e _=>e,λ b o e z=>by rw[c];have:=a b;lia,λ b f=>.inl f,λ b u e z f=>?_⟩
 . rw[c]
   rcases f with f | f
   . have:=o.fro b f;have:=a b;lia
   have:=qa9.mp f;have:=o.sep b;have:=a b;lia
 . rcases f with f | f
   . exact o.ex b f
   exact let ⟨u,e,_⟩:=d b f;⟨u,e⟩
 rcases f with f | f
 . exact f
 have:=qa9.mp f;have:=a b;lia
abbrev PF:=Ds->Option (Nat×List Nat)
inductive LiftP(c:Vc)(pf:PF)(σ:St)(H:Hp)(Q:VK):Prop
 | mk (F:Addr->Prop) (ds:Ds) (A:List Addr) (i:Nat) (p:List Nat) (d:D) (S:Sta c F H σ ds A) (e:pf ds=some (i,p)) (g:Ay ds i p=some d) (n:d≠.unk) (q:∀ u w H',(σ++c.gv)[i]? = some (some u)->Walk H' u p w->Same H H'->Q w H'):LiftP c pf σ H Q
def J0(c:Vc)(pf:PF):TE:=LiftP c pf
structure VP(c:Vc)(X:Cx)(e:Expr)(pf:PF):Prop where
 h:PE X e (J0 c pf)
theorem vpn(i:Nat){x:Str}(h:X.N[i]? = some x:=by rfl)(l:Vis X.env.scope x:=by first | exact Or.inl rfl | exact Or.inr (Or.inl rfl) | exact Or.inr (Or.inr rfl))(m:(x == ("__debug__" : Str))=false:=by decide)(b:(x == ("__classdict__" : Str))=false:=by decide) :
   VP c X (.Name x pos) (λ _=>some (i,[])):=by
 refine⟨λ Gm s σ H Q I f=>?_⟩;obtain⟨F,t,A,j,p,d,S,e,n,g,q⟩:=f;refine qu9 h l m b Gm s σ H Q I ?_;cases e;obtain⟨u,w,B,C,k,o,v,y,D⟩:=S.loc.place n g;cases o;have r:=qo2 h Gm σ H s I;have a:=k;rw[zAr r] at a;exact⟨u,a,q u u H k rfl λ _ _ z=>z⟩
theorem qN4:∀{p:List Nat}{d x:D}{q:List Nat},d.getP (p++q)=some x->∃ e,d.getP p=some e/\e.getP q=some x
 | [],d,x,q,h=>⟨d,rfl,h⟩
 | n::p,d,x,q,h=>by
   have h:D.getP d (n::(p++q))=some x:=h;unfold D.getP at h;cases a:d.kids[n]? with
   | none=>rw[a] at h;cases h
   | some y =>
     rw[a] at h;obtain⟨e,b,c⟩:=qN4 (p:=p) h;exact⟨e,by unfold D.getP;rw[a];exact b,c⟩
theorem qaj2{p q:List Nat}{x:D}(h:Ay ds i (p++q)=some x):∃ e,Ay ds i p=some e/\e.getP q=some x:=by
 unfold Ay at h ⊢;cases a:ds[i]? with
 | none=>rw[a] at h;cases h
 | some d=>rw[a] at h;exact qN4 h
theorem Walk.snoc:∀{p:List Nat}{u v w:V}{n:Nat},Walk H u p v->Lnk H v n w->Walk H u (p++[n]) w
 | [],_,_,w,n,h,l=>by cases h;exact⟨w,l,rfl⟩
 | m::p,_,_,_,_,⟨x,h1,h2⟩,l=>⟨x,h1,h2.snoc l⟩
theorem qaS6{d e:D}(h:d.getP [n]=some e):d≠.unk:=λ z=>by subst z;simp[D.getP,D.kids] at h
theorem Sta.place{p:List Nat}{d:D}{u:V}(S:Sta c F H σ ds A)(h:Ay ds i p=some d)(e:d≠.unk)(f:(σ++c.gv)[i]? = some (some u))(g:Walk H u p w):∃(B C:List Addr),Rep F H w d B/\(∀ b,A.count b=B.count b+C.count b) /\
   ∀{F':Addr->Prop}{H':Hp}{W:Addr->Prop}(d':D)(B':List Addr),Kp F H W F' H'->(∀ b∈C,¬ W b)->Rep F' H' w d' B'->∃ A':List Addr,Locs F' H' (σ++c.gv) (A7 ds i p d') A'/\∀ b,A'.count b=B'.count b+C.count b:=by
 obtain⟨n,o,B,C,a,j,k,l,m⟩:=S.loc.place h e;rw[f] at a;cases a;cases g.fn j;exact⟨B,C,k,l,m⟩
def D.fidx(C:Addr)(f:Str):D->Option Nat
 | .ins _ C' fs=>if C'=C then fs.findIdx? (λ q=>f == q.1) else none
 | _=>none
theorem qG0{α:Type}:∀{fs:List (Str×α)}{f:Str}{n:Nat},fs.findIdx? (λ q=>f == q.1)=some n->∃ v,fs.lookup f=some v/\(fs.map (·.2))[n]? = some v
 | [],f,n,h=>by simp at h
 | (k,v)::r,f,n,h=>by
   rw[zBw] at h;rw[zAp];cases a:f == k with
   | true=>simp[a] at h;subst h;exact⟨v,rfl,rfl⟩
   | false =>
     simp[a] at h;obtain⟨m,b,rfl⟩:=h;obtain⟨w,c,d⟩:=qG0 (fs:=r) b;exact⟨w,c,by simpa using d⟩
theorem qW9{α β:Type}:∀{fs:List (Str×α)}{a:List (Str×β)}{f:Str},fs.map (·.1)=a.map (·.1)->fs.findIdx? (λ q=>f == q.1)=a.findIdx? (λ q=>f == q.1)
 | [],[],_,_=>rfl
 | [],_::_,_,h=>by simp at h
 | _::_,[],_,h=>by simp at h
 | (k,_)::r,(k',_)::r',f,h=>by
   have b:k=k':=by simp at h;exact h.1
   have c:r.map (·.1)=r'.map (·.1):=by simp at h;simpa using h.2
   subst b;rw[zBw,zBw,qW9 c]
def pfFld(C:Addr)(f:Str)(pf:PF):PF:=λ ds=>(pf ds).bind λ q=>(Ay ds q.1 q.2).bind λ d=>(d.fidx C f).map λ n=>(q.1,q.2++[n])
theorem Bm{f:Str}{C:Addr}{K:PySem.W.Frag}{pf:PF}(I:X.K=K)(l:VP c X a pf)(J:Cls K C)(L:qc1 K C f)(M:attributeBase a f X.env (eval a X.env)=eval a X.env:=by rfl):VP c X (.Attribute a f pos) (pfFld C f pf):=by
 subst I;refine⟨PE.mono (Lw l.h M) λ σ H Q m=>?_⟩;obtain⟨F,N,A,i,p,d,S,e,O,hd,q⟩:=m;obtain⟨⟨j,P⟩,R,e⟩:=zA1.mp e;obtain⟨t,e2,e⟩:=zA1.mp e;obtain⟨n,x,e⟩:=zAi.mp e;cases e;obtain⟨T,y,U⟩:=qaj2 O;rw[e2] at y;cases y;have b:=qaS6 U;refine⟨F,N,A,j,P,t,S,R,e2,b,λ u w H' D E s=>?_⟩;obtain⟨B,C0,r,_,_⟩:=(S.same s).place e2 b D E;cases t with
 | ins z C' V =>
   have g:(if C'=C then V.findIdx? (λ q=>f == q.1) else none)=some n:=x;by_cases o:C'=C
   . rw[if_pos o] at g
     obtain⟨a,G,k,_,rfl,l,Y,rs,_⟩:=r.ins_inv;rw[<- qW9 Y] at g;obtain⟨v,Z,l2⟩:=qG0 g;subst o;exact⟨a,C',G,k,v,rfl,l,J,L,Z,q u v H' D (E.snoc ⟨a,rfl,.inr (.inr (.inr ⟨C',G,k,l,l2⟩))⟩) s⟩
   rw[if_neg o] at g;cases g
 | _=>cases x
end
inductive Pl where
 | no
 | sl (i:Nat)
 | pl (i:Nat) (p:List Nat) (w:V)
abbrev VTB:=Ds->(Ds->List Pl->Ds->Prop)->XKd->Prop
inductive Iv(τ:List (Option V)):List V->List Pl->Prop
 | nil:Iv τ [] []
 | no {v:V} {vs:List V} {ps:List Pl} (t:Iv τ vs ps):Iv τ (v::vs) (.no::ps)
 | sl {v:V} {vs:List V} {ps:List Pl} {i:Nat} (h:τ[i]? = some (some v)) (t:Iv τ vs ps):Iv τ (v::vs) (.sl i::ps)
 | so {v:V} {vs:List V} {ps:List Pl} {i:Nat} {p:List Nat} (t:Iv τ vs ps):Iv τ (v::vs) (.pl i p v::ps)
inductive LiftA(c:Vc)(t:VTB)(σ:St)(H:Hp)(Q:List V->Hp->Prop):Prop
 | mk (F:Addr->Prop) (ds:Ds) (A:List Addr) (xe:XKd) (S:Sta c F H σ ds A) (x:Xc c xe F H A) (q:t ds (λ xs pls ds'=>∀ vs H' F' T A',Reps F' H' vs xs T->Iv (σ++c.gv) vs pls->Sta c F' H' σ ds' A'->Ok F' H' (T++A')->Stp F H A F' H' (T++A')->Q vs H') xe):LiftA c t σ H Q
def Ig(c:Vc)(t:VTB):TA:=LiftA c t
structure VAs(c:Vc)(X:Cx)(es:List Expr)(t:VTB):Prop where
 h:PA X es (Ig c t)
 m:∀ ds (Q Q':Ds->List Pl->Ds->Prop) (xe xe':XKd),(∀ d p ds',Q d p ds'->Q' d p ds')->(∀ x ds',xe x ds'->xe' x ds')->t ds Q xe->t ds Q' xe'
section
variable{c:Vc}{X:Cx}{e:Expr}{es:List Expr}{ta:VT}{tr:VTB}{pf:PF}{F F':Addr->Prop}{H H':Hp}{σ:St}{ds:Ds}{A:List Addr}
def Av:VTB:=λ ds Q _=>Q [] [] ds
theorem Aa:VAs c X [] Av:=⟨PA.mono qv1 λ σ H Q ⟨F,a,A,b,S,x,q⟩=>q [] H F [] A .nil .nil S S.ok Stp.refl,λ a Q Q' b d e _=>e _ _ _⟩
def tbV(ta:VT)(tr:VTB):VTB:=λ ds Q xe=>ta ds (λ x ds1=>tr ds1 (λ xs ps a=>Q (x::xs) (.no::ps) a) xe) xe
theorem vaV(f:VE c X e ta)(g:VAs c X es tr)(w:starEach (e::es) X.env=(false,eval e X.env)::starEach es X.env:=by rfl):VAs c X (e::es) (tbV ta tr):=by
 refine⟨PA.mono (qe3 f.h g.h w) λ σ H Q i=>?_,λ o Q Q' j y B p=>f.m _ _ _ _ _ (λ d a=>g.m _ _ _ _ _ (λ C D k=>B _ _ _) p) p⟩;obtain⟨F,o,A,j,S,x,q⟩:=i;refine⟨F,o,A,j,S,x,f.m _ _ _ _ _ (λ E a q v H1 F1 T A1 r S1 s t=>?_) (λ _ _ z=>z) q⟩;have l:Stp F H A F1 H1 A1:=t.count λ b=>by rw[zA0];lia
 refine⟨F1,a,A1,j,S1,x.step l,g.m _ _ _ _ _ (λ C D k q G H2 F2 T2 A2 I J S2 K u=>?_) (λ _ _ z=>z) q⟩;have n:Rep F2 H2 v E T:=r.keep (u.kp S1.ok S1.loc.cells) λ b L O=>by
   have:=s.sep b
   rw[zA0] at this
   have:=qa9.mp L
   lia
 obtain⟨M,N⟩:=u.frame s r.cells K;exact q (v::G) H2 F2 (T++T2) A2 (.cons n I) (.no J) S2 (by rw[zAw];exact M) (by rw[zAw];exact t.trans N)
def tbB(pf:PF)(tr:VTB):VTB:=λ ds Q xe=>orF (pf ds) λ q=>orF (Ay ds q.1 q.2) λ d=>d.known=true/\∀ w,tr (A7 ds q.1 q.2 (.hole w)) (λ xs ps a=>Q (d::xs) (.pl q.1 q.2 w::ps) a) xe
theorem vaB(I:VP c X e pf)(a:VAs c X es tr)(J:starEach (e::es) X.env=(false,eval e X.env)::starEach es X.env:=by rfl):VAs c X (e::es) (tbB pf tr):=by
 refine⟨PA.mono (qe3 I.h a.h J) λ σ H Q g=>?_,λ j Q Q' v K L M=>qa5 λ z=>qa5 λ d=>And.imp_right λ h w=>a.m _ _ _ _ _ (λ N O k=>L _ _ _) M (h w)⟩;obtain⟨F,j,A,v,S,x,q⟩:=g;obtain⟨⟨i,p⟩,P,q⟩:=qa7.mp q;obtain⟨d,e2,y,q⟩:=qa7.mp q;refine⟨F,j,A,i,p,d,S,P,e2,qq7 y,λ u w H1 R T s=>?_⟩;obtain⟨B,C,r,D,U⟩:=(S.same s).place e2 (qq7 y) R T;obtain⟨A1,V,q2⟩:=U (.hole w) [] (Kp.same (F:=F) λ _ _ z=>z) (λ _ _ z=>z) (.hole w);have l:Ok F H1 (B++A1):=(S.same s).ok.count λ b=>by rw[zA0,q2,D];simp
 have E:Stp F H A F H1 (B++A1):=⟨λ b o e _=>s b o e,λ b o e z=>by rw[zA0,q2];have:=D b;simp;lia,λ _ f=>f,λ _ _ _ _ f=>f⟩
 have S1:Sta c F H1 σ (A7 j i p (.hole w)) A1:=⟨V,l.right,S.len,S.ag⟩
 have n:Stp F H A F H1 A1:=E.count λ b=>by rw[zA0];lia
 refine⟨F,_,A1,v,S1,x.step n,a.m _ _ _ _ _ (λ N O k q W H2 F2 T2 A2 Y Z S2 o2 G=>?_) (λ _ _ z=>z) (q w)⟩;have t:Rep F2 H2 w d B:=r.keep (G.kp S1.ok S1.loc.cells) λ b hb hc=>by
   have:=l.sep b
   rw[zA0] at this
   have:=qa9.mp hb
   lia
 obtain⟨o3,s3⟩:=G.frame l r.cells o2;exact q (w::W) H2 F2 (B++T2) A2 (.cons t Y) (.so Z) S2 (by rw[zAw];exact o3) (by rw[zAw];exact E.trans s3)
def tbN(i:Nat)(tr:VTB):VTB:=λ ds Q xe=>(rdN i ds).isSome=true/\tr ds (λ xs ps ds1=>orF (rdN i ds1) λ d=>Q (d::xs) (.sl i::ps) (ds1.set i .unk)) xe
theorem vaN(i:Nat){x:Str}{p:Pos}(e:VAs c X es tr)(E:starEach (.Name x p::es) X.env=(false,eval (.Name x p) X.env)::starEach es X.env:=by rfl)(t:X.N[i]? = some x:=by rfl)(G:Vis X.env.scope x:=by first | exact Or.inl rfl | exact Or.inr (Or.inl rfl) | exact Or.inr (Or.inr rfl))(J:(x == ("__debug__" : Str))=false:=by decide)(f:(x == ("__classdict__" : Str))=false:=by decide) :
   VAs c X (.Name x p::es) (tbN i tr):=by
 refine⟨λ pos Gm s σ H Q I g=>?_,λ u Q Q' w K L M=>And.imp_right (e.m _ _ _ _ _ (λ O P j=>qa5 λ d=>L _ _ _) M)⟩;obtain⟨F,u,A,w,S,x,k,q⟩:=g;refine qe3 (qu9 t G J f) e.h E pos Gm s σ H Q I ?_;have y:=qo2 t Gm σ H s I;obtain⟨d0,R⟩:=zAy.mp k;obtain⟨v,B0,a,_,_⟩:=S.name y R;refine⟨v,a,F,u,A,w,S,x,e.m _ _ _ _ _ (λ O P j q T H2 F2 T2 A2 U V S2 D W=>?_) (λ _ _ z=>z) q⟩;obtain⟨d,l,q⟩:=qa7.mp q;obtain⟨l,Y⟩:=qo7.mp l;obtain⟨v',B,C,n,Z,h3,h4⟩:=S2.put1 l (qq7 Y);have o:=n;rw[zAr y,a] at n;cases n;obtain⟨A3,q1,q2⟩:=h4 .unk [] (Kp.same (F:=F2) λ _ _ z=>z) (λ _ _ z=>z) (.unk v);have r:∀ b,((B++T2)++A3).count b<=(T2++A2).count b:=λ b=>by simp only[zA0,q2,h3];simp;lia
 exact q (v::T) H2 F2 (B++T2) A3 (.cons Z U) (.sl o V) ⟨q1,(D.count r).right,S.len,S.ag⟩ (D.count r) (W.count r)
def Aj:List Pl->Ds->Ds->Option Ds
 | [],_,ds=>some ds
 | .no::ps,_::ys,ds=>Aj ps ys ds
 | .sl i::ps,y::ys,ds=>Aj ps ys (ds.set i y)
 | .pl i p v::ps,y::ys,ds=>match Ay ds i p with
   | some (.hole w)=>if w=v then Aj ps ys (A7 ds i p y) else none
   | _=>none
 | _::_,[],_=>none
theorem qG8{τ:List (Option V)}{ds:Ds}{C B:List Addr}{y:D}(L:Locs F H τ ds C)(hi:τ[i]? = some (some v))(r:Rep F H v y B):∃ A':List Addr,Locs F H τ (ds.set i y) A'/\∀ b,A'.count b<=B.count b+C.count b:=by
 have s:=L.len;have g:i < τ.length:=(zA5.mp hi).1;obtain⟨d,h⟩:∃ d,ds[i]? = some d:=⟨_,zBs (by lia)⟩
 obtain⟨σ1,o,σ2,a,c,A1,B0,A2,e,e2,j,k,m,n,t,p⟩:=L.split h;have f:τ[i]? = some o:=by rw[e];exact qF7 j
 rw[hi] at f;cases f;have q:ds.set i y=a++y::c:=by
   have:=congrArg (λ l=>l.set i y) e2
   rw[this,qr6 k]
 exact⟨A1++(B++A2),by rw[e,q];exact n.append (.so r p),λ b=>by rw[m];simp only[zA0];lia⟩
theorem qw6{pls:List Pl}{ys ds a:Ds}{σ:List (Option V)}{B C:List Addr}{more:List V}(e:Iv σ vs pls)(r:Reps F H (vs++more) ys B)(L:Locs F H σ ds C)(h:Aj pls ys ds=some a):∃ A':List Addr,Locs F H σ a A'/\∀ b,A'.count b<=B.count b+C.count b:=by
 induction e generalizing ys ds B C with
 | nil =>
   have h:some ds=some a:=by cases ys<;>exact h
   cases h;exact⟨C,L,λ b=>by lia⟩
 | no e c =>
   cases r with
   | @cons _ _ A1 _ _ B1 r1 t =>
     obtain⟨A',d,q2⟩:=c t L h;exact⟨A',d,λ b=>by rw[zA0];have:=q2 b;lia⟩
 | sl k e c =>
   cases r with
   | @cons _ _ A1 _ _ B1 r1 t =>
     obtain⟨A2,d,q2⟩:=qG8 L k r1;obtain⟨A',f,g⟩:=c t d h;exact⟨A',f,λ b=>by rw[zA0];have:=g b;have:=q2 b;lia⟩
 | @so v _ _ i p e c =>
   cases r with
   | @cons _ y A1 _ _ B1 r1 t =>
     unfold Aj at h;split at h
     . rename_i w hg
       by_cases j:w=v
       . rw[if_pos j] at h
         subst j;obtain⟨u,o,B2,C2,q,s,l,m,n⟩:=L.place hg (by intro z;cases z);cases l;obtain⟨A2,d,q2⟩:=n y A1 (Kp.same (F:=F) λ _ _ z=>z) (λ _ _ z=>z) r1;obtain⟨A',f,g⟩:=c t d h;refine⟨A',f,λ b=>?_⟩
         have:=g b
         have:=q2 b
         have:=m b
         simp only[List.count_nil,zA0] at *
         lia
       rw[if_neg j] at h;cases h
     cases h
abbrev VSp:=Ds->DK->XKd->Prop
inductive LiftF(s:VSp)(vs:List V)(H:Hp)(Q:VK)(E:XK):Prop
 | mk (F:Addr->Prop) (ds:Ds) (A:List Addr) (r:Reps F H vs ds A) (o:Ok F H A) (q:s ds (λ d ys=>∀ v H' F' T A',Rep F' H' v d T->Reps F' H' vs ys A'->Ok F' H' (T++A')->Stp F H A F' H' (T++A')->Q v H')
   (λ x ys=>∀ e H' F' A',RepX F' H' e x->Reps F' H' vs ys A'->Ok F' H' A'->Stp F H A F' H' A'->E (.ref e) none H')):LiftF s vs H Q E
def Ja(s:VSp):Sp:=LiftF s
def Bj(s:VSp):Prop:=∀ ds (Q Q':DK) (xe xe':XKd),(∀ d a,Q d a->Q' d a)->(∀ x a,xe x a->xe' x a)->s ds Q xe->s ds Q' xe'
def qm1(s:VSp)(dv:Ds)(tr:VTB):VT:=λ ds Q xe=>tr ds (λ xs ps ds1=>s (xs++dv) (λ d ys=>orF (Aj ps ys ds1) λ a=>Q d a) (λ x ys=>orF (Aj ps ys ds1) λ a=>xe x a)) xe
theorem qaq5{s:VSp}{dv:Ds}(f:Bj s)(g:VAs c X es tr):∀ ds (Q Q':DK) (xe b:XKd),(∀ d a,Q d a->Q' d a)->(∀ x a,xe x a->b x a)->qm1 s dv tr ds Q xe->qm1 s dv tr ds Q' b :=
 λ ds Q Q' xe b h e=>g.m _ _ _ _ _ (λ k l i=>f _ _ _ _ _ (λ d j=>qa5 λ z=>h _ _) (λ x j=>qa5 λ z=>e _ _)) e
def Kj(dvs:List V)(dv:Ds):Prop:=∀ F H,Reps F H dvs dv []
theorem qn1:Kj [] []:=λ _ _=>.nil
theorem qaq2:Kj [.non] [.non]:=λ _ _=>.cons (A:=[]) (B:=[]) .non .nil
theorem qaN4{s:VSp}{dvs:List V}{dv:Ds}(G:Kj dvs dv)(I:Bj s)(J:VAs c X es tr):∀ σ H Q,Bd c (qm1 s dv tr) σ H Q->Lx (Ja s) dvs c.E (Ig c tr) σ H Q:=by
 rintro σ H Q ⟨F,K,A,L,S,x,q⟩;refine⟨F,K,A,L,S,x,J.m _ _ _ _ _ (λ B U h q M H1 F1 T A1 N C S1 a D=>?_) (λ _ _ z=>z) q⟩;have rall:Reps F1 H1 (M++dvs) (B++dv) (T++[]):=N.append (G F1 H1);rw[zAg] at rall;refine⟨F1,B++dv,T,rall,a.left,I _ _ _ _ _ (λ d O q v H2 F2 T2 A2 P l n i=>?_) (λ y O q e H2 F2 A2 R l n i=>?_) q⟩
 . obtain⟨j,o,q⟩:=qa7.mp q
   have f:Ok F1 H1 (A1++T):=a.count λ b=>by simp only[zA0];lia
   obtain⟨p,r⟩:=i.frame f S1.loc.cells n;have L1:Locs F2 H2 (σ++c.gv) h A1:=S1.loc.keep (i.kp a.left rall.cells) λ b t g=>by
     have:=a.sep b
     rw[zA0] at this
     have:=qa9.mp t
     lia
   obtain⟨A3,u,q2⟩:=qw6 C l L1 o;have g:∀ b,(T2++A3).count b<=(A1++(T2++A2)).count b:=λ b=>by simp only[zA0];have:=q2 b;lia
   have k:Ok F2 H2 (T2++A3):=p.count g;have w:Stp F H A F2 H2 (T2++A3):=(D.trans (r.pre λ b=>by simp only[zA0];lia)).count g;exact q v H2 F2 T2 A3 P ⟨u,k.right,S.len,S.ag⟩ k w
 obtain⟨j,o,q⟩:=qa7.mp q;have f:Ok F1 H1 (A1++T):=a.count λ b=>by simp only[zA0];lia
 obtain⟨p,r⟩:=i.frame f S1.loc.cells n;have L1:Locs F2 H2 (σ++c.gv) h A1:=S1.loc.keep (i.kp a.left rall.cells) λ b t g=>by
   have:=a.sep b
   rw[zA0] at this
   have:=qa9.mp t
   lia
 obtain⟨A3,u,q2⟩:=qw6 C l L1 o;have g:∀ b,A3.count b<=(A1++A2).count b:=λ b=>by simp only[zA0];have:=q2 b;lia
 have k:Ok F2 H2 A3:=p.count g;have w:Stp F H A F2 H2 A3:=(D.trans (r.pre λ b=>by simp only[zA0];lia)).count g;exact x y j σ e H2 F2 A3 q R ⟨u,k,S.len,S.ag⟩ w
end
structure Ha(cm:Bool)(P:Program)(w:World)(K:PySem.W.Frag)(mg:Str->Option Value)(base:Heap)(k:Nat)(f:Addr)(fd:FuncData)(ps:List Str)(s:VSp):Prop where
 ok:Gu cm P w K mg base (CX1 P w) k f fd ps (Ja s)
 m:Bj s
abbrev VFn:=Ha true
section
variable{c:Vc}{X:Cx}{a e o:Expr}{es:List Expr}{tr:VTB}{pf:PF}{F F1:Addr->Prop}{H H1:Hp}{σ:St}{ds ds1:Ds}{A A1 T:List Addr}{pos p apos:Pos}{x qual m:Str}{st:Stmt}{f C:Addr}{fd:FuncData}{ps:List Str}{k:Nat}{s:VSp}{dvs:List V}{dv:Ds}
theorem Ah(D:Df X.K X.mg x qual st f fd ps)(G:Ha cm X.prog X.w X.K X.mg X.base k f fd ps s)(i:Lands X c.E)(j:RoomB cm k X.A)(a:VAs c X (e::es) tr)(l:Gl X x:=by rfl)(d:(x == ("__debug__" : Str))=false:=by decide)(n:starEach (e::es) X.env=(false,eval e X.env)::starEach es X.env:=by rfl)(g:(backTo pos (starEach es X.env)).any (·.1)=false:=by rfl):VE c X (.Call (.Name x p) (e::es) [] pos) (qm1 s [] tr) :=
 ⟨PE.mono (qat0 G.ok j l D.m D.F.kp D.b .nil i.passes a.h d n g) (qaN4 qn1 G.m a),qaq5 G.m a⟩
theorem qak5{xs:Ds}{pls:List Pl}{xe:XKd}{K:DK}(B:Kj dvs dv)(C:Bj s)(S:Sta c F H σ ds A)(x:Xc c xe F H A)(r1:Reps F1 H1 vs xs T)(w:Iv (σ++c.gv) vs pls)(S1:Sta c F1 H1 σ ds1 A1)(f:Ok F1 H1 (T++A1))(z:Stp F H A F1 H1 (T++A1))(D:∀ d i,K d i->∀ v H' F' T A',Rep F' H' v d T->Sta c F' H' σ i A'->Ok F' H' (T++A')->Stp F H A F' H' (T++A')->Q v H')(q:s (xs++dv) (λ d ys=>orF (Aj pls ys ds1) λ a=>K d a) (λ x ys=>orF (Aj pls ys ds1) λ a=>xe x a)):Ja s (vs++dvs) H1 Q (c.E σ):=by
 have rall:Reps F1 H1 (vs++dvs) (xs++dv) (T++[]):=r1.append (B F1 H1);rw[zAg] at rall;refine⟨F1,xs++dv,T,rall,f.left,C _ _ _ _ _ (λ d ys q v H2 F2 T2 A2 G l m j=>?_) (λ y ys q e H2 F2 A2 I l m j=>?_) q⟩
 . obtain⟨a,n,q⟩:=qa7.mp q
   have g:Ok F1 H1 (A1++T):=f.count λ b=>by simp only[zA0];lia
   obtain⟨o,p⟩:=j.frame g S1.loc.cells m;have L1:Locs F2 H2 (σ++c.gv) ds1 A1:=S1.loc.keep (j.kp f.left rall.cells) λ b r h=>by
     have:=f.sep b
     rw[zA0] at this
     have:=qa9.mp r
     lia
   obtain⟨A3,t,q2⟩:=qw6 w l L1 n;have h:∀ b,(T2++A3).count b<=(A1++(T2++A2)).count b:=λ b=>by simp only[zA0];have:=q2 b;lia
   have k:Ok F2 H2 (T2++A3):=o.count h;have u:Stp F H A F2 H2 (T2++A3):=(z.trans (p.pre λ b=>by simp only[zA0];lia)).count h;exact D d a q v H2 F2 T2 A3 G ⟨t,k.right,S.len,S.ag⟩ k u
 obtain⟨a,n,q⟩:=qa7.mp q;have g:Ok F1 H1 (A1++T):=f.count λ b=>by simp only[zA0];lia
 obtain⟨o,p⟩:=j.frame g S1.loc.cells m;have L1:Locs F2 H2 (σ++c.gv) ds1 A1:=S1.loc.keep (j.kp f.left rall.cells) λ b r h=>by
   have:=f.sep b
   rw[zA0] at this
   have:=qa9.mp r
   lia
 obtain⟨A3,t,q2⟩:=qw6 w l L1 n;have h:∀ b,A3.count b<=(A1++A2).count b:=λ b=>by simp only[zA0];have:=q2 b;lia
 have k:Ok F2 H2 A3:=o.count h;have u:Stp F H A F2 H2 A3:=(z.trans (p.pre λ b=>by simp only[zA0];lia)).count h;exact x y a σ e H2 F2 A3 q I ⟨t,k,S.len,S.ag⟩ u
def D.isM(C:Addr)(m:Str):D->Bool
 | .ins _ C' fs=>decide (C'=C)&&(fs.lookup m).isNone
 | _=>false
theorem qF4{α β:Type}:∀{fs:List (Str×α)}{a:List (Str×β)}{f:Str},fs.map (·.1)=a.map (·.1)->(fs.lookup f).isNone=(a.lookup f).isNone
 | [],[],_,_=>rfl
 | [],_::_,_,h=>by simp at h
 | _::_,[],_,h=>by simp at h
 | (k,_)::r,(k',_)::r',f,h=>by
   have b:k=k':=by simp at h;exact h.1
   have c:r.map (·.1)=r'.map (·.1):=by simp at h;simpa using h.2
   subst b;rw[zAp,zAp];cases f == k with
   | true=>rfl
   | false=>exact qF4 c
theorem Rep.isM{d:D}{B:List Addr}(r:Rep F H v d B)(h:d.isM C m=true):∃ a dx fs,v=.ref a/\H a=some (.ins C dx fs)/\fs.lookup m=none:=by
 cases d with
 | ins z C' f =>
   have h:=zAb.mp h;obtain⟨a,dx,b,A,rfl,g,e,i,_⟩:=r.ins_inv
   have:=zA9 h.1
   subst this;refine⟨a,dx,b,rfl,g,?_⟩;have c:=h.2;rw[<- qF4 e] at c;exact Option.isNone_iff_eq_none.mp c
 | _=>cases h
def qP0(C:Addr)(m:Str)(s:VSp)(dv:Ds)(pf:PF)(tr:VTB):VT:=λ ds Q xe=>orF (pf ds) λ q=>orF (Ay ds q.1 q.2) λ d=>d.isM C m=true/\∀ w,tr (A7 ds q.1 q.2 (.hole w)) (λ xs ps ds1=>s (d::(xs++dv)) (λ r ys=>orF (Aj (Pl.pl q.1 q.2 w::ps) ys ds1) λ a=>Q r a) (λ x ys=>orF (Aj (Pl.pl q.1 q.2 w::ps) ys ds1) λ a=>xe x a)) xe
theorem qV6(f:Bj s)(g:VAs c X es tr):∀ ds (Q Q':DK) (xe b:XKd),(∀ d a,Q d a->Q' d a)->(∀ x a,xe x a->b x a)->qP0 C m s dv pf tr ds Q xe->qP0 C m s dv pf tr ds Q' b :=
 λ ds Q Q' xe b i e=>qa5 λ z=>qa5 λ d=>And.imp_right λ h w=>g.m _ _ _ _ _ (λ l n j=>f _ _ _ _ _ (λ d k=>qa5 λ z=>i _ _) (λ x k=>qa5 λ z=>e _ _)) e (h w)
theorem qat3(M:Kj dvs dv)(N:Bj s)(O:VAs c X es tr):∀ σ H Q,Bd c (qP0 C m s dv pf tr) σ H Q->Ks C m (Ja s) dvs c.E (J0 c pf) (Ig c tr) σ H Q:=by
 rintro σ H Q ⟨F,y,A,P,S,x,q⟩;obtain⟨⟨i,p⟩,R,q⟩:=qa7.mp q;obtain⟨d,e2,D,q⟩:=qa7.mp q;have g:d≠.unk:=λ z=>by subst z;cases D
 refine⟨F,y,A,i,p,d,S,R,e2,g,λ u w H1 T U j=>?_⟩;obtain⟨B,C0,r,G,V⟩:=(S.same j).place e2 g T U;obtain⟨a,W,Y,rfl,k,l⟩:=r.isM D;refine⟨a,W,Y,rfl,k,l,?_⟩;obtain⟨A1,Z,q2⟩:=V (.hole (.ref a)) [] (Kp.same (F:=F) λ _ _ z=>z) (λ _ _ z=>z) (.hole _);have n:Ok F H1 (B++A1):=(S.same j).ok.count λ b=>by rw[zA0,q2,G];simp
 have I:Stp F H A F H1 (B++A1):=⟨λ b o e _=>j b o e,λ b o e z=>by rw[zA0,q2];have:=G b;simp;lia,λ _ f=>f,λ _ _ _ _ f=>f⟩
 have S1:Sta c F H1 σ (A7 y i p (.hole (.ref a))) A1:=⟨Z,n.right,S.len,S.ag⟩
 have t:Stp F H A F H1 A1:=I.count λ b=>by rw[zA0];lia
 refine⟨F,_,A1,P,S1,x.step t,O.m _ _ _ _ _ (λ J ps a0 q K H2 F2 T2 A2 r2 pk S2 o2 L=>?_) (λ _ _ z=>z) (q (.ref a))⟩;have v:Rep F2 H2 (.ref a) d B:=r.keep (L.kp S1.ok S1.loc.cells) λ b hb hc=>by
   have:=n.sep b
   rw[zA0] at this
   have:=qa9.mp hb
   lia
 obtain⟨o3,s3⟩:=L.frame n r.cells o2;exact qak5 (vs:=.ref a::K) (xs:=d::J) M N S x (.cons v r2) (.so pk) S2 (by rw[zAw];exact o3) (by rw[zAw];exact I.trans s3) (λ d a1 h=>h) q
def qr4(C:Addr)(m:Str)(s:VSp)(dv:Ds)(i:Nat)(tr:VTB):VT:=λ ds Q xe=>(orF (rdN i ds) λ d=>d.isM C m=true)/\tr ds (λ xs ps ds1=>orF (rdN i ds1) λ d=>s (d::(xs++dv)) (λ r ys=>orF (Aj (.sl i::ps) ys (ds1.set i .unk)) λ a=>Q r a) (λ x ys=>orF (Aj (.sl i::ps) ys (ds1.set i .unk)) λ a=>xe x a)) xe
theorem qM3(f:Bj s)(g:VAs c X es tr):∀ ds (Q Q':DK) (xe b:XKd),(∀ d a,Q d a->Q' d a)->(∀ x a,xe x a->b x a)->qr4 C m s dv i tr ds Q xe->qr4 C m s dv i tr ds Q' b :=
 λ ds Q Q' xe b h e=>And.imp_right (g.m _ _ _ _ _ (λ l n j=>qa5 λ d=>f _ _ _ _ _ (λ d k=>qa5 λ z=>h _ _) (λ x k=>qa5 λ z=>e _ _)) e)
theorem qag6{σ:St}{H:Hp}(w:Kj dvs dv)(y:Bj s)(D:VAs c X es tr)(hi:i < σ.length)(q:Bd c (qr4 C m s dv i tr) σ H Q):Ks C m (Ja s) dvs c.E (Ir i) (Ig c tr) σ H Q:=by
 obtain⟨F,G,A,I,S,x,f,q⟩:=q;obtain⟨Z,J,f⟩:=qa7.mp f;obtain⟨v,B0,e,K,_⟩:=S.name hi J;obtain⟨a,L,M,rfl,g,j⟩:=K.isM f;refine⟨.ref a,e,a,L,M,rfl,g,j,F,G,A,I,S,x,D.m _ _ _ _ _ (λ r ps N q t H2 F2 T2 A2 O P S2 u R=>?_) (λ _ _ z=>z) q⟩;obtain⟨d,k,q⟩:=qa7.mp q;obtain⟨k,l⟩:=qo7.mp k;obtain⟨v',B,C0,n,T,U,V⟩:=S2.put1 k (qq7 l);have o:=n;rw[zAr hi,e] at n;cases n;obtain⟨A3,W,q2⟩:=V .unk [] (Kp.same (F:=F2) λ _ _ z=>z) (λ _ _ z=>z) (.unk _);have p:∀ b,((B++T2)++A3).count b<=(T2++A2).count b:=λ b=>by simp only[zA0,q2,U];simp;lia
 exact qak5 (vs:=.ref a::t) (xs:=d::r) w y S x (.cons T O) (.sl o P) ⟨W,(u.count p).right,S.len,S.ag⟩ (u.count p) (R.count p) (λ d Y h=>h) q
theorem qi0(i:Nat){xn:Str}{p0:Pos}(D:Md X.K C m qual st f fd ps)(n:Cls X.K C)(G:Ha cm X.prog X.w X.K X.mg X.base k f fd ps s)(o:Lands X c.E)(p:RoomB cm k X.A)(a:VAs c X (e::es) tr)(l:X.N[i]? = some xn:=by rfl)(r:Vis X.env.scope xn:=by first | exact Or.inl rfl | exact Or.inr (Or.inl rfl) | exact Or.inr (Or.inr rfl))(t:(xn == ("__debug__" : Str))=false:=by decide)(d:(xn == ("__classdict__" : Str))=false:=by decide)(g:starEach (e::es) X.env=(false,eval e X.env)::starEach es X.env:=by rfl)(j:(backTo pos (starEach es X.env)).any (·.1)=false:=by rfl)(u:eval (.Call (.Attribute (.Name xn p0) m apos) (e::es) [] pos) X.env=(do
     let ov <- eval (.Name xn p0) X.env
     standAt apos.atName
     let (f,first) <- holding [ov] (getMethod ov m pl)
     callWith pos f first (backTo pos (starEach (e::es) X.env)) (backToKw pos (keywordEach [] X.env))):=by rfl):VE c X (.Call (.Attribute (.Name xn p0) m apos) (e::es) [] pos) (qr4 C m s [] i tr) :=
 ⟨λ Gm s σ H Q I q=>qas9 (qu9 l r t d) n D.me G.ok p D.b .nil o.passes a.h g j u Gm s σ H Q I (qag6 qn1 G.m a (qo2 l Gm σ H s I) q),qM3 G.m a⟩
theorem ql8(i:Nat){xn:Str}{p0:Pos}(D:Md X.K C m qual st f fd ps)(j:Cls X.K C)(G:Ha cm X.prog X.w X.K X.mg X.base k f fd ps s)(l:Lands X c.E)(n:RoomB cm k X.A)(g:X.N[i]? = some xn:=by rfl)(d:Vis X.env.scope xn:=by first | exact Or.inl rfl | exact Or.inr (Or.inl rfl) | exact Or.inr (Or.inr rfl))(o:(xn == ("__debug__" : Str))=false:=by decide)(e:(xn == ("__classdict__" : Str))=false:=by decide)(p:eval (.Call (.Attribute (.Name xn p0) m apos) [] [] pos) X.env=(do
     let ov <- eval (.Name xn p0) X.env
     standAt apos.atName
     let (f,first) <- holding [ov] (getMethod ov m pl)
     callWith pos f first (backTo pos (starEach [] X.env)) (backToKw pos (keywordEach [] X.env))):=by rfl):VE c X (.Call (.Attribute (.Name xn p0) m apos) [] [] pos) (qr4 C m s [] i Av) :=
 ⟨λ Gm h σ H Q I q=>qI0 (qu9 g d o e) j D.me G.ok n D.b .nil l.passes p Gm h σ H Q I (by
   obtain⟨v,d,a,r,t,u,x,y,F2,z,A2,B,S2,F,q2⟩:=qag6 (c:=c) (X:=X) qn1 G.m Aa (qo2 g Gm σ H h I) q;exact⟨v,d,a,r,t,u,x,y,q2 [] H F2 [] A2 .nil .nil S2 S2.ok Stp.refl⟩),qM3 (c:=c) G.m (X:=X) Aa⟩
theorem Mg(D:Md X.K C m qual st f fd ps)(i:Cls X.K C)(G:Ha cm X.prog X.w X.K X.mg X.base k f fd ps s)(j:Lands X c.E)(l:RoomB cm k X.A)(n:VP c X o pf)(a:VAs c X (e::es) tr)(d:starEach (e::es) X.env=(false,eval e X.env)::starEach es X.env:=by rfl)(g:(backTo pos (starEach es X.env)).any (·.1)=false:=by rfl)(p:eval (.Call (.Attribute o m apos) (e::es) [] pos) X.env=(do
     let ov <- eval o X.env
     standAt apos.atName
     let (f,first) <- holding [ov] (getMethod ov m pl)
     callWith pos f first (backTo pos (starEach (e::es) X.env)) (backToKw pos (keywordEach [] X.env))):=by rfl):VE c X (.Call (.Attribute o m apos) (e::es) [] pos) (qP0 C m s [] pf tr) :=
 ⟨PE.mono (qas9 n.h i D.me G.ok l D.b .nil j.passes a.h d g p) (qat3 qn1 G.m a),qV6 G.m a⟩
theorem qap8(D:Md X.K C m qual st f fd ps)(g:Cls X.K C)(G:Ha cm X.prog X.w X.K X.mg X.base k f fd ps s)(j:Lands X c.E)(l:RoomB cm k X.A)(n:VP c X o pf)(r:eval (.Call (.Attribute o m apos) [] [] pos) X.env=(do
     let ov <- eval o X.env
     standAt apos.atName
     let (f,first) <- holding [ov] (getMethod ov m pl)
     callWith pos f first (backTo pos (starEach [] X.env)) (backToKw pos (keywordEach [] X.env))):=by rfl):VE c X (.Call (.Attribute o m apos) [] [] pos) (qP0 C m s [] pf Av) :=
 ⟨PE.mono (qI0 n.h g D.me G.ok l D.b .nil j.passes r) λ σ H Q q=>by
   obtain⟨F,t,A,i,p,d,S,v,e2,e,q⟩:=qat3 (c:=c) (X:=X) qn1 G.m Aa σ H Q q;refine⟨F,t,A,i,p,d,S,v,e2,e,λ u w H1 x y z=>?_⟩;obtain⟨a,B,I,J,L,M,F2,N,A2,O,S2,P,q2⟩:=q u w H1 x y z;exact⟨a,B,I,J,L,M,q2 [] H1 F2 [] A2 .nil .nil S2 S2.ok Stp.refl⟩,qV6 (c:=c) G.m (X:=X) Aa⟩
def qP1(C:Addr)(s:VSp)(dv:Ds)(tr:VTB):VT:=λ ds Q xe=>tr ds (λ xs ps ds1=>s (.ins false C []::(xs++dv)) (λ d ys=>d.isN=some true/\orF ys.head? λ self=>orF (Aj ps ys.tail ds1) λ a=>Q self a) (λ x ys=>orF (Aj ps ys.tail ds1) λ a=>xe x a)) xe
theorem qI6(f:Bj s)(g:VAs c X es tr):∀ ds (Q Q':DK) (xe b:XKd),(∀ d a,Q d a->Q' d a)->(∀ x a,xe x a->b x a)->qP1 C s dv tr ds Q xe->qP1 C s dv tr ds Q' b :=
 λ ds Q Q' xe b h e=>g.m _ _ _ _ _ (λ k l i=>f _ _ _ _ _ (λ d j=>And.imp_right (qa5 λ z=>qa5 λ w=>h _ _)) (λ x j=>qa5 λ z=>e _ _)) e
theorem qag9(O:Kj dvs dv)(P:Bj s)(R:VAs c X es tr):∀ σ H Q,Bd c (qP1 C s dv tr) σ H Q->tMake C (Ja s) dvs c.E (Ig c tr) σ H Q:=by
 rintro σ H Q ⟨F,U,A,V,S,x,q⟩;refine⟨F,U,A,V,S,x,R.m _ _ _ _ _ (λ W ps i q Y H1 F1 T A1 L M S1 Z s1=>?_) (λ _ _ z=>z) q⟩;intro y a o p r;have same:Same H1 (upd (upd H1 a (.own y)) y (.ins C a [])):=(Same.new p).trans (Same.new (by rw[qb3 (Ne.symm r)];exact o));have rall:Reps F1 (upd (upd H1 a (.own y)) y (.ins C a [])) (.ref y::(Y++dvs)) (.ins false C []::(W++dv)) ([y]++(T++[])) :=
   .cons (.ins qb2 rfl .nil) ((L.append (O F1 H1)).same same)
 rw[zAg] at rall;have j:Ok F1 (upd (upd H1 a (.own y)) y (.ins C a [])) ([y]++(T++A1)):=(qg3 o).ok Z (λ b f=>by
   rcases zAa.mp f with f | f
   . exact L.cells b f
   exact S1.loc.cells b f) same
 have t:Ok F1 (upd (upd H1 a (.own y)) y (.ins C a [])) ([y]++T):=j.count λ b=>by simp only[zA0];lia
 have N:Stp F H A F1 (upd (upd H1 a (.own y)) y (.ins C a [])) ([y]++(T++A1)):=s1.trans ((qg3 o).stp same);have S1':=S1.same same;refine⟨F1,_,[y]++T,rall,t,P _ _ _ _ _ (λ d ys q v H2 F2 T2 A2 r2 u w k=>?_) (λ ex ys q e H2 F2 A2 rx u w k=>?_) q⟩
 . obtain⟨hn,q⟩:=q
   have hv:v=.non:=by
     cases d with
     | non=>cases r2;rfl
     | _=>cases hn
   refine⟨hv,?_⟩;obtain⟨self,eh,q⟩:=qa7.mp q;obtain⟨l,B,D⟩:=qa7.mp q;have h:Ok F1 _ (A1++([y]++T)):=j.count λ b=>by simp only[zA0];lia
   obtain⟨G,I⟩:=k.frame h S1'.loc.cells w;have L1:Locs F2 H2 (σ++c.gv) i A1:=S1'.loc.keep (k.kp t rall.cells) λ b f g=>by
     have:=j.sep b
     simp only[zA0] at this g
     have:=qa9.mp f
     lia
   cases u with
   | @cons _ d0 Aself _ ys' B' rself rrest =>
     cases eh;obtain⟨A3,J,q2⟩:=qw6 M rrest L1 B;have g:∀ b,(Aself++A3).count b<=(A1++(T2++(Aself++B'))).count b:=λ b=>by simp only[zA0];have:=q2 b;lia
     have n:=G.count g;have K:Stp F H A F2 H2 (Aself++A3):=(N.trans (I.pre λ b=>by simp only[zA0];lia)).count g;exact D (.ref y) H2 F2 Aself A3 rself ⟨J,n.right,S.len,S.ag⟩ n K
 obtain⟨l,B,D⟩:=qa7.mp q;have h:Ok F1 _ (A1++([y]++T)):=j.count λ b=>by simp only[zA0];lia
 obtain⟨G,I⟩:=k.frame h S1'.loc.cells w;have L1:Locs F2 H2 (σ++c.gv) i A1:=S1'.loc.keep (k.kp t rall.cells) λ b f g=>by
   have:=j.sep b
   simp only[zA0] at this g
   have:=qa9.mp f
   lia
 cases u with
 | @cons _ d0 Aself _ ys' B' rself rrest =>
   obtain⟨A3,J,q2⟩:=qw6 M rrest L1 B;have g:∀ b,A3.count b<=(A1++(Aself++B')).count b:=λ b=>by simp only[zA0];have:=q2 b;lia
   have n:=G.count g;have K:Stp F H A F2 H2 A3:=(N.trans (I.pre λ b=>by simp only[zA0];lia)).count g;exact x ex l σ e H2 F2 A3 D rx ⟨J,n,S.len,S.ag⟩ K
theorem Kx(i:Cl X.K X.mg x C)(M:Mk X.K C f)(D:Md X.K C m qual st f fd ps)(G:Ha cm X.prog X.w X.K X.mg X.base k f fd ps s)(j:Lands X c.E)(l:RoomB cm (k+1) X.A)(a:VAs c X (e::es) tr)(n:Gl X x:=by rfl)(d:(x == ("__debug__" : Str))=false:=by decide)(o:starEach (e::es) X.env=(false,eval e X.env)::starEach es X.env:=by rfl)(g:(backTo pos (starEach es X.env)).any (·.1)=false:=by rfl):VE c X (.Call (.Name x p) (e::es) [] pos) (qP1 C s [] tr) :=
 ⟨PE.mono (qaf2 M G.ok l n i.m D.b .nil j.passes a.h d o g) (qag9 qn1 G.m a),qI6 G.m a⟩
theorem qaU3{ndv:List Value}(i:Cl X.K X.mg x C)(M:Mk X.K C f)(b:Binds X.K fd ps [.none])(G:Ha cm X.prog X.w X.K X.mg X.base k f fd ps s)(j:Lands X c.E)(l:RoomB cm (k+1) X.A)(a:VAs c X (e::es) tr)(n:Gl X x:=by rfl)(d:(x == ("__debug__" : Str))=false:=by decide)(o:starEach (e::es) X.env=(false,eval e X.env)::starEach es X.env:=by rfl)(g:(backTo pos (starEach es X.env)).any (·.1)=false:=by rfl):VE c X (.Call (.Name x p) (e::es) [] pos) (qP1 C s [.non] tr) :=
 ⟨PE.mono (qaf2 M G.ok l n i.m b (dvs:=[.non]) (.cons rfl .nil) j.passes a.h d o g) (qag9 qaq2 G.m a),qI6 G.m a⟩
def Mh(tr:VTB):VT:=λ ds Q xe=>tr ds (λ xs ps ds1=>xs.length<=big/\Q (.lst false xs) ds1) xe
def Mi(tr:VTB):VT:=λ ds Q xe=>tr ds (λ xs ps ds1=>xs.length<=big/\Q (.tup xs) ds1) xe
theorem Iw(d:VAs c X es tr):VE c X (.List es pos) (Mh tr):=by
 refine⟨PE.mono (qay0 d.h) λ σ H Q e=>?_,λ j Q Q' k l n o=>d.m _ _ _ _ _ (λ p r f=>And.imp_right (n _ _)) o⟩;obtain⟨F,j,A,k,S,x,q⟩:=e;refine⟨F,j,A,k,S,x,d.m _ _ _ _ _ (λ p r f q s H1 F1 T A1 g B S1 t v=>⟨by rw[g.len];exact zAm q.1 qi7,λ y i=>?_⟩) (λ _ _ z=>z) q⟩;have same:=Same.new (u:=.lst s) i;have w:=(qg3 i).ok t (λ b a=>by
   rcases zAa.mp a with a | a
   . exact g.cells b a
   exact S1.loc.cells b a) same
 exact q.2 (.ref y) _ F1 (y::T) A1 (.lst qb2 (g.same same)) (S1.same same) w (v.trans ((qg3 i).stp same))
theorem Ix(a:VAs c X es tr):VE c X (.Tuple es n pos) (Mi tr):=by
 refine⟨PE.mono (qaH3 a.h) λ σ H Q b=>?_,λ e Q Q' f j k l=>a.m _ _ _ _ _ (λ o p d=>And.imp_right (k _ _)) l⟩;obtain⟨F,e,A,f,S,x,q⟩:=b;refine⟨F,e,A,f,S,x,a.m _ _ _ _ _ (λ o p d q r H1 F1 T A1 g v S1 s t=>⟨by rw[g.len];exact zAm q.1 qi7,λ y i=>?_⟩) (λ _ _ z=>z) q⟩;have same:=Same.new (u:=.tup r) i;exact q.2 (.ref y) _ F1 T A1 (qag3 i g) (S1.same same) (s.same same) (t.trans (.same same))
end
structure VEnds where
 nx:Ds->Prop
 rt:DK
 bk:Ds->Prop
 ct:Ds->Prop
 xe:XKd
abbrev VTS:=VEnds->Ds->Prop
structure VEnds.Le(e e':VEnds):Prop where
 nx:∀ ds,e.nx ds->e'.nx ds
 rt:∀ d ds,e.rt d ds->e'.rt d ds
 bk:∀ ds,e.bk ds->e'.bk ds
 ct:∀ ds,e.ct ds->e'.ct ds
 xe:∀ x ds,e.xe x ds->e'.xe x ds
structure Lk(c:Vc)(E:Bo)(F:Addr->Prop)(H:Hp)(A:List Addr)(e:VEnds):Prop where
 nx:∀ ds' σ' H' F' A',e.nx ds'->Sta c F' H' σ' ds' A'->Stp F H A F' H' A'->E.nx σ' H'
 rt:∀ d ds' v σ' H' F' T A',e.rt d ds'->Rep F' H' v d T->Sta c F' H' σ' ds' A'->Ok F' H' (T++A')->Stp F H A F' H' (T++A')->E.rt v H'
 bk:∀ ds' σ' H' F' A',e.bk ds'->Sta c F' H' σ' ds' A'->Stp F H A F' H' A'->E.bk σ' H'
 ct:∀ ds' σ' H' F' A',e.ct ds'->Sta c F' H' σ' ds' A'->Stp F H A F' H' A'->E.ct σ' H'
 xe:Xc c e.xe F H A
theorem Lk.step{c:Vc}{E:Bo}{F F1:Addr->Prop}{H H1:Hp}{A A1:List Addr}{e:VEnds}(l:Lk c E F H A e)(s:Stp F H A F1 H1 A1):Lk c E F1 H1 A1 e :=
 ⟨λ a σ' H' F' A' h S t=>l.nx a σ' H' F' A' h S (s.trans t),λ d a v σ' H' F' T A' h r S o t=>l.rt d a v σ' H' F' T A' h r S o (s.trans t),λ a σ' H' F' A' h S t=>l.bk a σ' H' F' A' h S (s.trans t),λ a σ' H' F' A' h S t=>l.ct a σ' H' F' A' h S (s.trans t),l.xe.step s⟩
inductive LiftS(c:Vc)(t:VTS)(E:Bo)(σ:St)(H:Hp):Prop
 | mk (F:Addr->Prop) (ds:Ds) (A:List Addr) (e:VEnds) (S:Sta c F H σ ds A) (l:Lk c E F H A e) (q:t e ds):LiftS c t E σ H
def Hf(c:Vc)(t:VTS):TS:=LiftS c t
structure VS(c:Vc)(X:Cx)(st:Stmt)(t:VTS):Prop where
 h:PS X st (Hf c t)
 m:∀(e e':VEnds) ds,e.Le e'->t e ds->t e' ds
structure VSs(c:Vc)(X:Cx)(st:List Stmt)(t:VTS):Prop where
 h:PSs X st (Hf c t)
 m:∀(e e':VEnds) ds,e.Le e'->t e ds->t e' ds
section
variable{c:Vc}{X:Cx}{a b e:Expr}{st:Stmt}{rest:List Stmt}{t u:VTS}{te:VT}{pos:Pos}
def Jr:VTS:=λ e ds=>e.nx ds
def Iy(t u:VTS):VTS:=λ e ds=>t { e with nx:=u e } ds
theorem Ap:VSs c X [] Jr:=⟨PSs.mono qaG4 λ E σ H ⟨F,a,A,e,S,l,q⟩=>l.nx a σ H F A q S Stp.refl,λ e b a h=>h.nx a⟩
theorem Ab(h1:VS c X st t)(h2:VSs c X rest u):VSs c X (st::rest) (Iy t u):=by
 refine⟨PSs.mono (qae9 h1.h h2.h) λ E σ H a=>?_,λ e f b h=>h1.m _ _ _ ⟨λ b=>h2.m _ _ _ h,h.rt,h.bk,h.ct,h.xe⟩⟩;obtain⟨F,b,A,e,S,l,q⟩:=a;exact⟨F,b,A,{ e with nx:=u e },S,⟨λ d σ' H' F' A' q S' s=>⟨F',d,A',e,S',l.step s,q⟩,l.rt,l.bk,l.ct,l.xe⟩,q⟩
theorem Ae(h1:VS c X st t):VSs c X [st] t:=⟨qA3 h1.h,h1.m⟩
def sRet(te:VT):VTS:=λ e ds=>te ds e.rt e.xe
theorem Ak(h:VE c X e te):VS c X (.Return (some e) pos) (sRet te):=by
 refine⟨PS.mono (qax5 h.h) λ E σ H ⟨F,b,A,e,S,l,q⟩=>⟨F,b,A,e.xe,S,l.xe,h.m _ _ _ _ _ (λ d a q v H' F' T A' r S' o s=>l.rt d a v σ H' F' T A' q r S' o s) (λ _ _ z=>z) q⟩,λ e g b f=>h.m _ _ _ _ _ f.rt f.xe⟩
def sExpr(te:VT):VTS:=λ e ds=>te ds (λ _ a=>e.nx a) e.xe
theorem Bf(h:VE c X e te)(i:swapsWith e none pos.line X.env=pure false:=by rfl):VS c X (.Expr e pos) (sExpr te):=by
 refine⟨PS.mono (qaG6 h.h i) λ E σ H ⟨F,f,A,e,S,l,q⟩=>⟨F,f,A,e.xe,S,l.xe,h.m _ _ _ _ _ (λ d a q v H' F' T A' r S' o s=>l.nx a σ H' F' A' q S' (s.count λ b=>by rw[zA0];lia)) (λ _ _ z=>z) q⟩,λ e j f g=>h.m _ _ _ _ _ (λ _=>g.nx) g.xe⟩
def sIf(qc:VTT)(t u:VTS):VTS:=λ e ds=>qc ds (λ k a=>if k=true then t e a else u e a) e.xe
theorem sif{x y:List Stmt}{qc:VTT}(b:VTe c X cd qc)(g:VSs c X x t)(i:VSs c X y u):VS c X (.If cd x y pos) (sIf qc t u):=by
 refine⟨PS.mono (ps_if b.h g.h i.h) λ E σ H d=>?_,λ e n j f=>b.m _ _ _ _ _ (λ k a=>qF6 (g.m _ _ _ f) (i.m _ _ _ f)) f.xe⟩;obtain⟨F,j,A,e,S,l,q⟩:=d;refine⟨F,j,A,e.xe,S,l.xe,b.m _ _ _ _ _ (λ k a q H' F' A' S' s=>?_) (λ _ _ z=>z) q⟩;cases k with
 | true=>rw[if_pos rfl] at q ⊢;exact⟨F',a,A',e,S',l.step s,q⟩
 | false=>rw[if_neg (by decide)] at q ⊢;exact⟨F',a,A',e,S',l.step s,q⟩
def qaP3:VTS:=λ _ _=>False
theorem qaP0:VS c X st qaP3:=⟨λ _ _ _ _ _ _ ⟨_,_,_,_,_,_,q⟩=>q.elim,λ _ _ _ _ q=>q.elim⟩
abbrev VTG:=D->Ds->(Ds->Prop)->Prop
inductive LiftG(c:Vc)(g:VTG)(v:V)(σ:St)(H:Hp)(Q:St->Hp->Prop):Prop
 | mk (F:Addr->Prop) (ds:Ds) (A T:List Addr) (d:D) (r:Rep F H v d T) (S:Sta c F H σ ds A) (o:Ok F H (T++A)) (q:g d ds (λ ds'=>∀ σ' H' F' A',Sta c F' H' σ' ds' A'->Stp F H (T++A) F' H' A'->Q σ' H')):LiftG c g v σ H Q
def Jb(c:Vc)(g:VTG):TG:=LiftG c g
structure VG(c:Vc)(X:Cx)(e:Expr)(g:VTG):Prop where
 h:PG X e (Jb c g)
 m:∀ d ds (Q Q':Ds->Prop),(∀ ds',Q ds'->Q' ds')->g d ds Q->g d ds Q'
theorem PG.mono{g g':TG}(h:PG X e g)(i:∀ v σ H Q,g' v σ H Q->g v σ H Q):PG X e g':=λ Gm s σ H v u Q I r q=>h Gm s σ H v u Q I r (i v σ H Q q)
theorem Sta.store{F:Addr->Prop}{H:Hp}{σ:St}{ds:Ds}{A T:List Addr}{d:D}(S:Sta c F H σ ds A)(m:c.W i=false)(hi:i < σ.length)(r:Rep F H v d T)(o:Ok F H (T++A)) :
   ∃ A',Sta c F H (σ.set i (some v)) (ds.set i d) A'/\Stp F H (T++A) F H A':=by
 have n:=S.loc.len;rw[zA7] at n;obtain⟨σ1,x,σ2,e,f,A1,B,A2,p,e2,q,s,t,u,y,w⟩:=S.loc.split (i:=i) (d:=ds[i]'(by lia)) (by simp);have hσ:σ.set i (some v)++c.gv=σ1++some v::σ2:=by
   rw[<- List.set_append_left _ _ hi,p,qr6 q]
 have g:ds.set i d=e++d::f:=by
   have:=congrArg (λ l=>l.set i d) e2
   rw[this,qr6 s]
 have a:∀ b,(A1++(T++A2)).count b<=(T++A).count b:=λ b=>by rw[t];simp only[zA0];lia
 refine⟨A1++(T++A2),⟨by rw[hσ,g];exact u.append (.so r w),o.count a,?_,λ j h=>?_⟩,Stp.refl.count a⟩
 . rw[S.len,zA7,zA7,List.length_set]
 have k:i≠j:=λ z=>by subst z;rw[m] at h;cases h
 rw[<- S.ag j h,<- List.set_append_left _ _ hi,zBq k]
def gNm(i:Nat):VTG:=λ d ds Q=>Q (ds.set i d)
theorem Bp(i:Nat){x:Str}(b:X.N.Nodup)(e:c.W i=false:=by rfl)(hi:X.N[i]? = some x:=by rfl)(f:Loc X.env.scope x:=by first | exact Or.inl rfl | exact Or.inr rfl)(g:X.fn x=true∨X.env.scope.names.lookup x=some .local:=by first | exact .inl rfl | exact .inr rfl | assumption):VG c X (.Name x pos) (gNm i):=by
 refine⟨λ Gm s σ H v h Q I j a=>?_,λ d k Q Q' l=>l _⟩;obtain⟨F,k,A,T,d,r,S,o,q⟩:=a;refine qas8 b hi f g Gm s σ H v h Q I j ?_;obtain⟨A',S',m⟩:=S.store e (qo2 hi Gm σ H s I) r o;exact q _ H F A' S' m
def Hu(te:VT)(g:VTG):VTS:=λ e ds=>te ds (λ d a=>g d a e.nx) e.xe
theorem qaV1{tg:Expr}{g:VTG}(h:VE c X e te)(f:VG c X tg g):∀ E σ H,Hf c (Hu te g) E σ H->K6 (Bd c te) (Jb c g) E σ H:=by
 rintro E σ H ⟨F,i,A,j,S,l,q⟩;refine⟨F,i,A,j.xe,S,l.xe,h.m _ _ _ _ _ (λ d a q v H' F' T A' r S' o s=>?_) (λ _ _ z=>z) q⟩;exact⟨F',a,A',T,d,r,S',o,f.m _ _ _ _ (λ b q σ2 H2 F2 A2 S2 k=>l.nx b σ2 H2 F2 A2 q S2 (s.trans k)) q⟩
theorem qak8{tg:Expr}{g:VTG}(h:VE c X e te)(f:VG c X tg g):∀(en a:VEnds) ds,en.Le a->Hu te g en ds->Hu te g a ds:=λ en a ds b=>h.m _ _ _ _ _ (λ d i=>f.m _ _ _ _ b.nx) b.xe
theorem Js{tg:Expr}{g:VTG}(h:VE c X e te)(a:VG c X tg g)(b:swapsWithSole [tg] e pos.line X.env=pure false:=by rfl)(d:swappedStores [tg] e X.env=pure none:=by rfl)(h1:(assignEach [tg] X.env).map (·.2)=[assign tg X.env]:=by rfl):VS c X (.Assign [tg] e pos) (Hu te g) :=
 ⟨PS.mono (qaQ0 h.h a.h b d h1) (qaV1 h a),qak8 h a⟩
theorem Al(i:Nat){x:Str}{pos':Pos}(a:X.N.Nodup)(h:VE c X e te)(b:c.W i=false:=by rfl)(hi:X.N[i]? = some x:=by rfl)(f:Loc X.env.scope x:=by first | exact Or.inl rfl | exact Or.inr rfl)(j:swapsWith e (some (.Name x pos')) pos.line X.env=pure false:=by rfl)(g:X.fn x=true∨X.env.scope.names.lookup x=some .local:=by first | exact .inl rfl | exact .inr rfl | assumption) :
   VS c X (.Assign [.Name x pos'] e pos) (Hu te (gNm i)):=by
 have k:VG c X (.Name x pos') (gNm i):=Bp i a b hi f g;refine⟨λ Gm s σ H E I q=>qaG5 a hi f h.h j g Gm s σ H E I ?_,qak8 h k⟩;obtain⟨F,n,A,p,S,l,q⟩:=q;refine⟨F,n,A,p.xe,S,l.xe,h.m _ _ _ _ _ (λ d t q v H' F' T A' r S' o u=>?_) (λ _ _ z=>z) q⟩;obtain⟨A2,S2,w⟩:=S'.store b (qo2 hi Gm σ H s I) r o;exact l.nx _ _ H' F' A2 q S2 (u.trans w)
abbrev Jt:=Ds->Ds->(Ds->Prop)->Prop
inductive qaO3(c:Vc)(g:Jt)(vs:List V)(σ:St)(H:Hp)(Q:St->Hp->Prop):Prop
 | mk (F:Addr->Prop) (ds:Ds) (A T:List Addr) (xs:Ds) (r:Reps F H vs xs T) (S:Sta c F H σ ds A) (o:Ok F H (T++A)) (q:g xs ds (λ ds'=>∀ σ' H' F' A',Sta c F' H' σ' ds' A'->Stp F H (T++A) F' H' A'->Q σ' H')):qaO3 c g vs σ H Q
def qaS4(c:Vc)(g:Jt):TGs:=qaO3 c g
structure VGs(c:Vc)(X:Cx)(es:List Expr)(g:Jt):Prop where
 h:PGs X es (qaS4 c g)
 m:∀ xs ds (Q Q':Ds->Prop),(∀ ds',Q ds'->Q' ds')->g xs ds Q->g xs ds Q'
theorem PGs.mono{es:List Expr}{g g':TGs}(h:PGs X es g)(i:∀ v σ H Q,g' v σ H Q->g v σ H Q):PGs X es g':=λ Gm s σ H v u Q I r q=>h Gm s σ H v u Q I r (i v σ H Q q)
def Mj:Jt:=λ xs ds Q=>match xs with | []=>Q ds | _=>False
def Lh(g:VTG)(b:Jt):Jt:=λ xs ds Q=>match xs with | x::r=>g x ds λ a=>b r a Q | []=>False
theorem Ml:VGs c X [] Mj:=by
 refine⟨PGs.mono qaH1 λ f σ H Q a=>?_,λ b d Q Q' e q=>by cases b with | nil=>exact e _ q | cons _ _=>exact q.elim⟩;obtain⟨F,d,A,T,b,r,S,o,q⟩:=a;cases b with
 | nil=>cases r;exact⟨rfl,q σ H F A S Stp.refl⟩
 | cons _ _=>exact q.elim
theorem qS7{tg:Expr}{es:List Expr}{g:VTG}{l:Jt}(h1:VG c X tg g)(h2:VGs c X es l)(s:(assignEach (tg::es) X.env).map (·.2)=assign tg X.env::(assignEach es X.env).map (·.2):=by rfl):VGs c X (tg::es) (Lh g l):=by
 refine⟨PGs.mono (qax9 h1.h h2.h s) λ e σ H Q ⟨F,n,A,T,d,r,S,o,q⟩=>?_,λ d n Q Q' t q=>by
   cases d with
   | nil=>exact q.elim
   | cons x r=>exact h1.m _ _ _ _ (λ u=>h2.m _ _ _ _ t) q⟩
 cases d with
 | nil=>exact q.elim
 | cons x d =>
   cases r with
   | @cons v _ T1 e _ T2 r1 rt =>
     refine⟨v,e,rfl,F,n,A,T1,x,r1,S,o.count λ b=>by simp only[zA0];lia,h1.m _ _ _ _ (λ f q σ1 H1 F1 A1 S1 p=>?_) q⟩;have i:Ok F H (T2++(T1++A)):=o.count λ b=>by simp only[zA0];lia
     obtain⟨w,y⟩:=p.frame i rt.cells S1.ok;have j:Ok F H (T1++A):=i.right;have k:Reps F1 H1 e d T2:=rt.keep (p.kp j λ b a=>by
       rcases zAa.mp a with a | a
       . exact r1.cells b a
       exact S.loc.cells b a) λ b a C=>by
       have:=i.sep b
       rw[zA0] at this
       have:=qa9.mp a
       lia
     exact⟨F1,f,A1,T2,d,k,S1,w,h2.m _ _ _ _ (λ z q σ2 H2 F2 A2 S2 B=>q σ2 H2 F2 A2 S2 ((y.pre λ b=>by simp only[zA0];lia).trans B)) q⟩
def Mm(n:Nat)(a:Jt):VTG:=λ d ds Q=>match d with | .tup xs=>xs.length=n/\a xs ds Q | _=>False
theorem Mn{es:List Expr}{k:Nat}{e:Jt}(j:X.calm=true)(h:VGs c X es e)(l:(assignEach es X.env).length=n:=by rfl)(b:(assignEach es X.env).findIdx? (·.1)=none:=by rfl):VG c X (.Tuple es k pos) (Mm n e):=by
 refine⟨PG.mono (qaQ4 j h.h l b) λ v σ H Q ⟨F,f,A,T,d,r,S,o,q⟩=>?_,λ d f Q Q' p q=>by
   cases d with
   | tup g=>exact⟨q.1,h.m _ _ _ _ p q.2⟩
   | _=>exact q.elim⟩
 cases d with
 | tup g =>
   obtain⟨a,s,rfl,t,i⟩:=r.tup_inv;exact⟨a,s,rfl,.inl (.inl t),by rw[i.len];exact q.1,F,f,A,T,g,i,S,o,q.2⟩
 | _=>exact q.elim
end
section
variable{c:Vc}{F:Addr->Prop}{H:Hp}{σ:St}{ds:Ds}{A T:List Addr}
theorem qO4{a:Addr}{o o':HO}(h:H a=some o)(hm:He o=true)(c:¬ F a):Kp F H (λ b=>b=a) F (upd H a o') :=
 ⟨λ b u e w=>by rw[qb3 w];exact e,λ b w=>by subst w;exact⟨o,h,hm⟩,λ b w=>by subst w;exact c,λ _ f=>f⟩
theorem Reps.setAt{ys:List D}{Ael Tv:List Addr}{d:D}(r:Reps F H vs ys Ael)(s:n < ys.length)(e:Rep F H v d Tv):∃ B,Reps F H (vs.set n v) (ys.set n d) B/\∀ b,B.count b<=Ael.count b+Tv.count b:=by
 obtain⟨f,w,g,a,c,A1,B,A2,h,e2,j,k,m,o,t,p⟩:=r.split (i:=n) (d:=ys[n]) (by simp);have q:ys.set n d=a++d::c:=by
   have:=congrArg (λ l=>l.set n d) e2
   rw[this,qr6 k]
 rw[h,qr6 j,q];exact⟨A1++(Tv++A2),o.append (.cons e p),λ b=>by rw[m];simp only[zA0];lia⟩
theorem qx4{ys:List D}{B:List Addr}(r:Rep F H v (.lst false ys) B):∃ a vs Ael,v=.ref a/\H a=some (.lst vs)/\Reps F H vs ys Ael/\B=a::Ael:=by
 cases r with
 | lst h r=>exact⟨_,_,_,rfl,h,r,rfl⟩
theorem qn4{p:List Nat}{ys:List D}{u:V}(S:Sta c F H σ ds A)(h:Ay ds i p=some (.lst false ys))(J:(σ++c.gv)[i]? = some (some u))(K:Walk H u p w) :
   ∃(a:Addr)(vs:List V)(Ael:List Addr),w=.ref a/\H a=some (.lst vs)/\Reps F H vs ys Ael /\
   ∀(g:List V)(m:List D)(B' R T:List Addr),Ok F H (T++A)->Reps F H g m B'->(∀ b,B'.count b+R.count b<=Ael.count b+T.count b) ->
     (∃ A',Sta c F (upd H a (.lst g)) σ (A7 ds i p (.lst false m)) A'/\Ok F (upd H a (.lst g)) (R++A')/\Stp F H (T++A) F (upd H a (.lst g)) (R++A'))/\∀ v d,Rep F H v d R->Rep F (upd H a (.lst g)) v d R:=by
 obtain⟨B,C,r,L,M⟩:=S.place h (by intro z;cases z) J K;obtain⟨a,vs,Ael,rfl,y,N,rfl⟩:=qx4 r;refine⟨a,vs,Ael,rfl,y,N,λ g m B' R T q O E=>?_⟩;have n:∀ b,A.count b=(if b=a then 1 else 0)+Ael.count b+C.count b:=λ b=>by
   rw[L,zAk];by_cases j:b=a
   . subst j;simp;lia
   simp[j,Ne.symm j]
 have s:=n a;rw[if_pos rfl] at s;have P:=q.sep a;rw[zA0] at P;have Q:=E a;have G:¬ F a:=λ f=>by have:=q.fro a f;rw[zA0] at this;lia
 have k:=qO4 (F:=F) (o':=.lst g) y rfl G;have rep':Rep F (upd H a (.lst g)) (.ref a) (.lst false m) (a::B'):=.lst qb2 (O.keep k λ b j w=>by subst w;have:=qa9.mp j;lia);obtain⟨A',U,q2⟩:=M _ _ k (λ b j w=>by subst w;have:=qa9.mp j;lia) rep';have t:∀ b,A'.count b=(if b=a then 1 else 0)+B'.count b+C.count b:=λ b=>by
   rw[q2,zAk];by_cases j:b=a
   . subst j;simp;lia
   simp[j,Ne.symm j]
 have l:∀ b,(R++A').count b<=(T++A).count b:=λ b=>by rw[zA0,zA0,t,n];have:=E b;lia
 have W:∀ b,F b->∃ o,upd H a (.lst g) b=some o:=λ b f=>by
   obtain⟨x,e⟩:=q.ex b f;exact⟨x,by rw[qb3 (show b≠a from λ w=>G (w ▸ f))];exact e⟩
 have I:Ok F (upd H a (.lst g)) (R++A'):=⟨λ b=>zAm (l b) (q.sep b),λ b f=>by have:=q.fro b f;have:=l b;lia,W⟩
 refine⟨⟨A',⟨U,I.right,S.len,S.ag⟩,I,λ b u e z=>?_,λ b u e z=>by have:=l b;lia,λ _ f=>f,λ _ _ _ _ f=>f⟩,λ v d X=>X.keep k λ b j w=>by subst w;have:=qa9.mp j;lia⟩;rw[qb3 λ w=>?_]
 . exact e
 subst w;have:=n b;rw[if_pos rfl] at this;rw[zA0] at z;lia
def Mo(r:V->List V->Hp->VK->Prop)(g:Ds->Ds->Option (Ds×D)):Prop:=∀ F H a vs ys Ael f xs T c d (Q:VK),H a=some (.lst vs)->Reps F H vs ys Ael->Reps F H f xs T->g ys xs=some (c,d) ->
 (∀ e v B' R,Reps F H e c B'->Rep F H v d R->(∀ b,B'.count b+R.count b<=Ael.count b+T.count b)->Q v (upd H a (.lst e)))->r (.ref a) f H Q
def gApp(ys xs:Ds):Option (Ds×D):=match xs with
 | [x]=>if ys.length < big then some (ys++[x],.non) else none
 | _=>none
theorem qS1:Mo qas5 gApp:=by
 intro F H a i c Ael m j T e d Q k r l h q
 match j,h with
 | [x],h =>
   obtain⟨w,rfl,f⟩:=l.one_inv;have h:(if c.length < big then some (c++[x],D.non) else none)=some (e,d):=h;by_cases g:c.length < big
   . rw[if_pos g] at h
     cases h;refine⟨a,i,w,rfl,rfl,k,by rw[r.len];exact zAd g qi7,?_⟩;exact q _ .non (Ael++(T++[])) [] (r.append (.cons f .nil)) .non λ b=>by simp[zA0]
   rw[if_neg g] at h;cases h
end
section
variable{c:Vc}{X:Cx}{a b e o:Expr}{pf:PF}{tr:VTB}{es:List Expr}{r:V->List V->Hp->VK->Prop}{g:Ds->Ds->Option (Ds×D)}
noncomputable def D.own:D->Option Ds
 | .lst false ys=>some ys
 | _=>none
theorem Mp{d:D}{ys:Ds}(h:d.own=some ys):d=.lst false ys:=by
 cases d with
 | lst z a=>cases z with
   | false=>cases h;rfl
   | true=>cases h
 | _=>cases h
def J1(g:Ds->Ds->Option (Ds×D))(i:Nat)(tr:VTB):VT:=λ ds Q xe=>((rdN i ds).bind D.own).isSome=true/\tr ds (λ xs _ ds1=>orF ((rdN i ds1).bind D.own) λ ys=>orF (g ys xs) λ z=>Q z.2 (ds1.set i (.lst false z.1))) xe
theorem qJ4{ds:Ds}{d:D}(h:ds[i]? = some d):Ay ds i []=some d:=by unfold Ay;rw[h];rfl
theorem qG9{ds:Ds}{d x:D}(h:ds[i]? = some d):A7 ds i [] x=ds.set i x:=by unfold A7;rw[h];rfl
theorem qaJ7{T:String}(t:T = "list"){σ:St}{H:Hp}(hm:Mo r g)(u:VAs c X es tr)(hi:i < σ.length)(q:Bd c (J1 g i tr) σ H Q):tBM X.K T r (Ir i) (Ig c tr) σ H Q:=by
 subst t;obtain⟨F,y,A,B,S,x,C,q⟩:=q;obtain⟨D,b⟩:=zAy.mp C;obtain⟨d0,E,f⟩:=zA1.mp b;cases Mp f;obtain⟨v,B0,o,G,_⟩:=S.name hi E;obtain⟨a,h,A0,rfl,j,_,_⟩:=G.lst_inv;refine⟨.ref a,o,.inl ⟨rfl,h,.inl (.inl j)⟩,F,y,A,B,S,x,u.m _ _ _ _ _ (λ I ps J q L H1 F1 T A1 M pk S1 N O=>?_) (λ _ _ z=>z) q⟩;obtain⟨P,U,q⟩:=qa7.mp q;obtain⟨d1,e2,V⟩:=zA1.mp U;cases Mp V;obtain⟨⟨e,d⟩,W,q⟩:=qa7.mp q;obtain⟨s,hk⟩:=qo7.mp e2;have Y:(σ++c.gv)[i]? = some (some (.ref a)):=by rw[zAr hi];exact o
 obtain⟨a2,k,Ael,Z,l,rs,wr⟩:=qn4 S1 (qJ4 s) Y (p:=[]) (w:=.ref a) rfl;cases Z;refine hm F1 H1 a k P Ael L I T e d Q l rs M W λ n v B' R h1 h2 h3=>?_
 obtain⟨⟨A',S2,o2,s2⟩,kr⟩:=wr n e B' R T N h1 h3;rw[qG9 s] at S2;exact q v _ F1 R A' (kr v d h2) S2 o2 (O.trans s2)
theorem qan6(e:VAs c X es tr):∀ ds (Q Q':DK) (xe b:XKd),(∀ d a,Q d a->Q' d a)->(∀ x a,xe x a->b x a)->J1 g i tr ds Q xe->J1 g i tr ds Q' b :=
 λ ds Q Q' xe b f h=>And.imp_right (e.m _ _ _ _ _ (λ k l j=>qa5 λ y=>qa5 λ z=>f _ _) h)
theorem qal7{F F':Addr->Prop}{H H':Hp}{W:Addr->Prop}(k:Kp F H W F' H'):∀{p:List Nat}{f:V}{d0 d:D}{B:List Addr}{w o:V},(∀ b∈B,¬ W b)->Rep F H f d0 B->d0.getP p=some d->Walk H f p w->Walk H' f p o->o=w:=by
 intro p
 induction p with
 | nil=>intro f d0 d B w o _ _ _ h s;cases h;cases s;rfl
 | cons n p A =>
   intro f d0 d B w o g r i h s;unfold D.getP at i;cases j:d0.kids[n]? with
   | none=>rw[j] at i;cases i
   | some e =>
     rw[j] at i;obtain⟨x,E,G⟩:=h;obtain⟨L,t,u⟩:=s;obtain⟨y,B1,C1,z,I,J,_⟩:=r.kid j;obtain⟨M,B1',C1',l,_,_,_⟩:=(r.keep k g).kid j;cases E.fn z;cases t.fn l;have v:Lnk H' f n x:=by
       obtain⟨a,rfl,q⟩:=z;refine⟨a,rfl,?_⟩;cases r with
       | tup c _ =>
         rcases q with⟨vs,e,h⟩ | ⟨vs,e,h⟩ | ⟨vs,e,h⟩ | ⟨C,dx,vs,e,h⟩
         . exact .inl ⟨vs,k.tup e,h⟩
         . rw[c] at e;cases e
         . rw[c] at e;cases e
         rw[c] at e;cases e
       | lst c _ =>
         have m:=k.fr _ _ c (g _ zAe);rcases q with⟨vs,e,h⟩ | ⟨vs,e,h⟩ | ⟨vs,e,h⟩ | ⟨C,dx,vs,e,h⟩
         . rw[c] at e;cases e
         . rw[c] at e;cases e;exact .inr (.inl ⟨_,m,h⟩)
         . rw[c] at e;cases e
         rw[c] at e;cases e
       | dct c _ _ =>
         have m:=k.fr _ _ c (g _ zAe);rcases q with⟨vs,e,h⟩ | ⟨vs,e,h⟩ | ⟨vs,e,h⟩ | ⟨C,dx,vs,e,h⟩
         . rw[c] at e;cases e
         . rw[c] at e;cases e
         . rw[c] at e;cases e;exact .inr (.inr (.inl ⟨_,m,h⟩))
         rw[c] at e;cases e
       | ins c _ _ =>
         have m:=k.fr _ _ c (g _ zAe);rcases q with⟨vs,e,h⟩ | ⟨vs,e,h⟩ | ⟨vs,e,h⟩ | ⟨C,dx,vs,e,h⟩
         . rw[c] at e;cases e
         . rw[c] at e;cases e
         . rw[c] at e;cases e
         rw[c] at e;cases e;exact .inr (.inr (.inr ⟨_,_,_,m,h⟩))
       | _=>simp[D.kids] at j
     cases v.fn l;exact A (B:=B1) (λ b K=>g b (qa9.mpr (by have:=J b;have:=qa9.mp K;lia))) I i G u
def Jc(g:Ds->Ds->Option (Ds×D))(pf:PF)(tr:VTB):VT:=λ ds Q xe=>orF (pf ds) λ q=>orF ((Ay ds q.1 q.2).bind D.own) λ ys=>orF ds[q.1]? λ a=>tr (ds.set q.1 .unk) (λ xs _ ds1=>orF (g ys xs) λ z=>Q z.2 (A7 (ds1.set q.1 a) q.1 q.2 (.lst false z.1))) xe
theorem qan5(e:VAs c X es tr):∀ ds (Q Q':DK) (xe b:XKd),(∀ d a,Q d a->Q' d a)->(∀ x a,xe x a->b x a)->Jc g pf tr ds Q xe->Jc g pf tr ds Q' b :=
 λ ds Q Q' xe b f h=>qa5 λ q=>qa5 λ j=>qa5 λ k=>e.m _ _ _ _ _ (λ l n i=>qa5 λ z=>f _ _) h
theorem qaJ6(hm:Mo r g)(ha:VAs c X es tr):∀ σ H Q,Bd c (Jc g pf tr) σ H Q->tBM X.K "list" r (J0 c pf) (Ig c tr) σ H Q:=by
 rintro σ H Q ⟨F,Y,A,xe,S,x,q⟩;obtain⟨⟨i,p⟩,e1,q⟩:=qa7.mp q;obtain⟨n,e2,q⟩:=qa7.mp q;obtain⟨dl,h,e4⟩:=zA1.mp e2;cases Mp e4;obtain⟨I,l,q⟩:=qa7.mp q;refine⟨F,Y,A,i,p,_,S,e1,h,D.noConfusion,λ u w H1 s Z s0=>?_⟩;have S0:=S.same s0;obtain⟨a,L,Ael0,rfl,M,a0,_⟩:=qn4 S0 h s Z;refine⟨.inl ⟨rfl,L,.inl (.inl M)⟩,?_⟩;have N:I≠.unk:=λ z=>by
   subst z;have j:=h;unfold Ay at j;rw[l] at j;cases (qaj1 j).2
 obtain⟨u',B,C,h1,J,h3,h4⟩:=S0.put1 l N;rw[s] at h1;cases h1;obtain⟨A1,q1,q2⟩:=h4 .unk [] (Kp.same (F:=F) λ _ _ z=>z) (λ _ _ z=>z) (.unk u);have O:Ok F H1 (B++A1):=S0.ok.count λ b=>by rw[zA0,q2,h3];simp
 have s1:Stp F H A F H1 (B++A1):=⟨λ b o e _=>s0 b o e,λ b o e z=>by rw[zA0,q2];have:=h3 b;simp;lia,λ _ f=>f,λ _ _ _ _ f=>f⟩
 have S1:Sta c F H1 σ (Y.set i .unk) A1:=⟨q1,O.right,S.len,S.ag⟩
 have P:Stp F H A F H1 A1:=s1.count λ b=>by rw[zA0];lia
 refine⟨F,_,A1,xe,S1,x.step P,ha.m _ _ _ _ _ (λ xs ps k q vs H2 F2 T2 A2 r2 pk S2 o2 s2=>?_) (λ _ _ z=>z) q⟩;obtain⟨⟨t,d⟩,e7,q⟩:=qa7.mp q;have kp:=s2.kp S1.ok S1.loc.cells;have hBout:∀ b∈B,¬ (A1.count b≠0):=λ b hb hc=>by
   have:=O.sep b
   rw[zA0] at this
   have:=qa9.mp hb
   lia
 have y:Rep F2 H2 u I B:=J.keep kp hBout;obtain⟨o3,s3⟩:=s2.frame O J.cells o2;obtain⟨A3,k1,k2⟩:=qG8 S2.loc s y;have E:∀ b,A3.count b<=B.count b+A2.count b:=k2;have o4:Ok F2 H2 (T2++A3):=o3.count λ b=>by simp only[zA0];have:=E b;lia
 have s4:Stp F H A F2 H2 (T2++A3):=(s1.trans s3).count λ b=>by simp only[zA0];have:=E b;lia
 have S3:Sta c F2 H2 σ (k.set i I) A3:=⟨k1,o4.right,S.len,S.ag⟩
 have G:i < k.length:=by rw[<- S2.loc.len];exact(zA5.mp s).1
 have e8:Ay (k.set i I) i p=some (.lst false n):=by
   unfold Ay at h ⊢;rw[l] at h;rw[zBo G];exact h
 have T:Walk H2 u p (.ref a):=by
   obtain⟨w',_,_,w1,_,_,_⟩:=J.path (p:=p) (d:=.lst false n) (by unfold Ay at h;rw[l] at h;exact h);cases Z.fn w1;obtain⟨w2,_,_,w3,_,_,_⟩:=y.path (p:=p) (d:=.lst false n) (by unfold Ay at h;rw[l] at h;exact h)
   have:w2=.ref a:=by
     refine qal7 (d:=.lst false n) kp hBout J ?_ w1 w3;unfold Ay at h;rw[l] at h;exact h
   rw[<- this];exact w3
 obtain⟨a2,U,Ael,ea,V,rs,wr⟩:=qn4 S3 e8 s T;cases ea;refine hm F2 H2 a U n Ael vs xs T2 t d Q V rs r2 e7 λ W v B' R z1 z2 z3=>?_
 obtain⟨⟨A',S4,o5,s5⟩,kr⟩:=wr W t B' R T2 o4 z1 z3;exact q v _ F2 R A' (kr v d z2) S4 o5 (s4.trans s5)
end
section
variable{c:Vc}{X:Cx}{a b e o:Expr}{pos cpos apos:Pos}{pf:PF}{tr:VTB}{es:List Expr}{fb:FV}{ob:Bool}{r:V->List V->Hp->VK->Prop}{g:Ds->Ds->Option (Ds×D)}{name:Str}{id:String}
theorem Ka(i:Nat){x:Str}{p0:Pos}(k:Mo r g)(l:PlainAttrs "list")(slot:Slot "list" name id)(b:typeOf (.builtin id)=pure (.type "method_descriptor"))(hm:MtM X id r)(d:VAs c X (e::es) tr)(j:X.N[i]? = some x:=by rfl)(m:Vis X.env.scope x:=by first | exact Or.inl rfl | exact Or.inr (Or.inl rfl) | exact Or.inr (Or.inr rfl))(n:(x == ("__debug__" : Str))=false:=by decide)(f:(x == ("__classdict__" : Str))=false:=by decide)(hbase:attributeBase (.Name x p0) name X.env (eval (.Name x p0) X.env)=eval (.Name x p0) X.env:=by rfl)(a:((backTo cpos (starEach (e::es) X.env)).all (λ x=>!x.1)&&(backToKw cpos (keywordEach [] X.env)).all (λ x=>x.1.isSome)
     && decide ((e::es).length+([]:List Keyword).length+(if ([]:List Keyword).isEmpty then 0 else 1) < 30))=true:=by rfl)(hline:(apos.endLine == cpos.line)=true:=by rfl)(o:starEach (e::es) X.env=(false,eval e X.env)::starEach es X.env:=by rfl)(hplain:(backTo cpos (starEach es X.env)).any (·.1)=false:=by rfl) :
   VE c X (.Call (.Attribute (.Name x p0) name apos) (e::es) [] cpos) (J1 g i tr) :=
 ⟨λ Gm s σ H Q I q=>Lz l slot b hm (qu9 j m n f) d.h hbase a hline o hplain Gm s σ H Q I (qaJ7 rfl k d (qo2 j Gm σ H s I) q),qan6 d⟩
theorem emutP(f:Mo r g)(i:PlainAttrs "list")(slot:Slot "list" name id)(b:typeOf (.builtin id)=pure (.type "method_descriptor"))(hm:MtM X id r)(j:VP c X o pf)(d:VAs c X (e::es) tr)(hbase:attributeBase o name X.env (eval o X.env)=eval o X.env:=by rfl)(a:((backTo cpos (starEach (e::es) X.env)).all (λ x=>!x.1)&&(backToKw cpos (keywordEach [] X.env)).all (λ x=>x.1.isSome)
     && decide ((e::es).length+([]:List Keyword).length+(if ([]:List Keyword).isEmpty then 0 else 1) < 30))=true:=by rfl)(hline:(apos.endLine == cpos.line)=true:=by rfl)(k:starEach (e::es) X.env=(false,eval e X.env)::starEach es X.env:=by rfl)(hplain:(backTo cpos (starEach es X.env)).any (·.1)=false:=by rfl) :
   VE c X (.Call (.Attribute o name apos) (e::es) [] cpos) (Jc g pf tr) :=
 ⟨PE.mono (Lz i slot b hm j.h d.h hbase a hline k hplain) (qaJ6 f d),qan5 d⟩
def Jd(pf:PF)(fb:FV):VTG:=λ d ds Q=>orF (pf ds) λ q=>orF ((Ay ds q.1 q.2).bind D.own) λ ys=>orF ((fb ds).bind D.asI) λ k=>orF (ixN ys.length k) λ n=>Q (A7 ds q.1 q.2 (.lst false (ys.set n d)))
theorem Hn(y:VP c X o pf)(hi:VV c X b ob fb)(f:∀ v,assign (.Subscript o b pos) X.env v=(do
     let ov <- holding [v] (eval o X.env)
     let iv <- holding [v,ov] (eval b X.env)
     standAt pos
     holding [v,ov,iv] (setItem ov iv v)
     release [v,ov,iv] []):=by intro _;rfl):VG c X (.Subscript o b pos) (Jd pf fb):=by
 refine⟨PG.mono (qaQ5 y.h hi.h qad8 f) λ v σ H Q g=>?_,λ d j Q Q' z=>qa5 λ _=>qa5 λ _=>qa5 λ _=>qa5 λ _=>z _⟩;obtain⟨F,j,A,T,d,r,S,B,q⟩:=g;obtain⟨⟨i,p⟩,C,q⟩:=qa7.mp q;obtain⟨E,e2,q⟩:=qa7.mp q;obtain⟨Z,l,G⟩:=zA1.mp e2;cases Mp G;obtain⟨k,I,q⟩:=qa7.mp q;obtain⟨J,K,L⟩:=zA1.mp I;obtain⟨n,m,q⟩:=qa7.mp q;refine⟨F,j,A,i,p,_,S,C,l,D.noConfusion,λ u w H1 M N s=>⟨F,j,A,J,S.same s,K,λ vk H2 B2 O t _=>?_⟩⟩;have e:=s.trans t;have S2:=S.same e;cases O.asI L;obtain⟨a,P,Ael,rfl,f,x,R⟩:=qn4 S2 l M (N.same t);have U:n < E.length:=(qai2 m).2.1;obtain⟨B',V,W⟩:=x.setAt U (r.same e);obtain⟨⟨A',S3,o3,Y⟩,_⟩:=R _ _ B' [] T (B.same e) V λ b=>by have:=W b;simp;lia
 exact⟨a,P,k,n,rfl,rfl,f,by rw[x.len];exact m,q σ _ F A' S3 ((Stp.same e).trans Y)⟩
def sAugV(f:Int->Int->Int)(pf:PF)(fb a:FV):VTS:=λ e ds=>orF (pf ds) λ q=>orF ((Ay ds q.1 q.2).bind D.own) λ ys=>orF ((fb ds).bind D.asI) λ k=>0<=k/\orF ((ys[k.toNat]?).bind D.asI) λ x=>orF ((a ds).bind D.asI) λ y=>e.nx (A7 ds q.1 q.2 (.lst false (ys.set k.toNat (.int (f x y)))))
theorem saug{op:Operator}{f:Int->Int->Int}{N:FV}{oe:Bool}{tpos:Pos}(V:VP c X o pf)(hi:VV c X b ob fb)(W:VV c X e oe N)(Y:PIp X op (ipI f))(Z:∀ n r d,augStore b n r d=(do holding [d,n,r] (setItem n r d);release [d,n,r] [];pure .next):=by intros;rfl):VS c X (.AugAssign (.Subscript o b tpos) op e pos) (sAugV f pf fb N):=by
 refine⟨PS.mono (qaG8 V.h hi.h qaB4 W.h Y qad8 Z) λ E σ H t=>?_,λ en a0 s hl=>qa5 λ _=>qa5 λ _=>qa5 λ _=>And.imp_right (qa5 λ _=>qa5 λ _=>hl.nx _)⟩;obtain⟨F,s,A,en,S,l,q⟩:=t;obtain⟨⟨i,p⟩,e1,q⟩:=qa7.mp q;obtain⟨ys,e2,q⟩:=qa7.mp q;obtain⟨dl,v,e4⟩:=zA1.mp e2;cases Mp e4;obtain⟨k,e5,O,q⟩:=qa7.mp q;obtain⟨dk,e6,e7⟩:=zA1.mp e5;obtain⟨x,e8,q⟩:=qa7.mp q;obtain⟨dx,P,z⟩:=zA1.mp e8;obtain⟨y,B,q⟩:=qa7.mp q;obtain⟨dy,C,G⟩:=zA1.mp B;refine⟨F,s,A,i,p,_,S,e1,v,D.noConfusion,λ u w H1 Q R T=>⟨F,s,A,dk,S.same T,e6,λ vk H2 B2 r2 I _=>?_⟩⟩;have g:=T.trans I;cases r2.asI e7;obtain⟨a,vs,Ael,rfl,J,K,_⟩:=qn4 (S.same g) v Q (R.same I);obtain⟨vx,Bx,hx,rx,_⟩:=K.get P;cases rx.asI z;refine⟨a,vs,k,_,rfl,rfl,J,O,hx,F,s,A,dy,S.same g,C,λ vy H3 B3 r3 U _=>?_⟩;cases r3.asI G;have j:=g.trans U;have S3:=S.same j;obtain⟨a',L,Ael',ea,M,m,wr⟩:=qn4 S3 v Q ((R.same I).same U);cases ea;have hn:k.toNat < ys.length:=(zA5.mp P).1;obtain⟨B',r4,h4⟩:=m.setAt hn (.int (f x y));obtain⟨⟨A',S4,o4,s4⟩,_⟩:=wr _ _ B' [] [] S3.ok r4 λ b=>by have:=h4 b;simpa using this
 refine⟨x,y,rfl,rfl,a,L,k,k.toNat,rfl,rfl,M,?_,l.nx _ σ _ F A' q S4 ((Stp.same j).trans s4)⟩;rw[m.len];unfold ixN;rw[if_pos O,if_pos (by lia)]
noncomputable def Ih(f:Str)(d:D):List (Str×D)->List (Str×D)
 | []=>[(f,d)]
 | (g,x)::r=>if g=f then (g,d)::r else (g,x)::Ih f d r
end
section
variable{c:Vc}{X:Cx}{F:Addr->Prop}{H:Hp}{σ:St}{ds:Ds}{A T:List Addr}{a b e o:Expr}{pos cpos apos:Pos}{te:VT}{pf:PF}{fa fb:FV}{oa ob:Bool}
theorem qV0:∀{a:List (Str×V)}{c:List (Str×D)}{B Tv:List Addr}{f:Str}{v:V}{d:D},a.map (·.1)=c.map (·.1)->Reps F H (a.map (·.2)) (c.map (·.2)) B->Rep F H v d Tv->(Bi f v a).map (·.1)=(Ih f d c).map (·.1)/\∃ B',Reps F H ((Bi f v a).map (·.2)) ((Ih f d c).map (·.2)) B'/\∀ b,B'.count b<=B.count b+Tv.count b
 | [],[],B,Tv,f,v,d,_,r,rv=>⟨rfl,Tv++[],.cons rv .nil,λ b=>by simp⟩
 | [],_::_,_,_,_,_,_,h,_,_=>by simp at h
 | _::_,[],_,_,_,_,_,h,_,_=>by simp at h
 | (k,w)::r,(k',x)::r',B,Tv,f,v,d,h,rs,rv=>by
   have i:k=k':=by simp at h;exact h.1
   have e:r.map (·.1)=r'.map (·.1):=by simp at h;simpa using h.2
   subst i;cases rs with
   | @cons _ _ B1 _ _ B2 q t =>
     by_cases g:k=f
     . simp only[Bi,Ih,if_pos g,zAx,e,true_and]
       exact⟨Tv++B2,.cons rv t,λ b=>by simp only[zA0];lia⟩
     obtain⟨j,B',l,m⟩:=qV0 (f:=f) e t rv;simp only[Bi,Ih,if_neg g,zAx,j,true_and];exact⟨B1++B',.cons q l,λ b=>by simp only[zA0];have:=m b;lia⟩
def D.ownI(C:Addr):D->Option (List (Str×D))
 | .ins false C' fs=>if C'=C then some fs else none
 | _=>none
theorem qaI5{d:D}{C:Addr}{fs:List (Str×D)}(h:d.ownI C=some fs):d=.ins false C fs:=by
 cases d with
 | ins z C' b=>cases z with
   | false =>
     have h:(if C'=C then some b else none)=some fs:=h;by_cases a:C'=C
     . rw[if_pos a] at h;cases h;rw[a]
     rw[if_neg a] at h;cases h
   | true=>cases h
 | _=>cases h
theorem qaI4{p:List Nat}{C:Addr}{l:List (Str×D)}{u:V}(S:Sta c F H σ ds A)(h:Ay ds i p=some (.ins false C l))(E:(σ++c.gv)[i]? = some (some u))(G:Walk H u p w) :
   ∃(a dx:Addr)(d:List (Str×V))(Ael:List Addr),w=.ref a/\H a=some (.ins C dx d)/\d.map (·.1)=l.map (·.1)/\Reps F H (d.map (·.2)) (l.map (·.2)) Ael /\
   ∀(fvs':List (Str×V))(fds':List (Str×D))(B' T:List Addr),Ok F H (T++A)->fvs'.map (·.1)=fds'.map (·.1)->Reps F H (fvs'.map (·.2)) (fds'.map (·.2)) B'->(∀ b,B'.count b<=Ael.count b+T.count b) ->
     ∃ A',Sta c F (upd H a (.ins C dx fvs')) σ (A7 ds i p (.ins false C fds')) A'/\Stp F H (T++A) F (upd H a (.ins C dx fvs')) A':=by
 obtain⟨B,C0,r,I,J⟩:=S.place h D.noConfusion E G;cases r with
 | @ins a _ dx d _ Ael ha hk rs =>
 refine⟨a,dx,d,Ael,rfl,ha,hk,rs,λ fvs' fds' B' T n q K v=>?_⟩;have m:∀ b,A.count b=(if b=a then 1 else 0)+Ael.count b+C0.count b:=λ b=>by
   rw[I,zAk];by_cases g:b=a
   . subst g;simp;lia
   simp[g,Ne.symm g]
 have s:=m a;rw[if_pos rfl] at s;have L:=n.sep a;rw[zA0] at L;have M:=v a;have y:¬ F a:=λ f=>by have:=n.fro a f;rw[zA0] at this;lia
 have k:=qO4 (F:=F) (o':=.ins C dx fvs') ha rfl y;have rep':Rep F (upd H a (.ins C dx fvs')) (.ref a) (.ins false C fds') (a::B'):=.ins qb2 q (K.keep k λ b g w=>by subst w;have:=qa9.mp g;lia);obtain⟨A',N,q2⟩:=J _ _ k (λ b g w=>by subst w;have:=qa9.mp g;lia) rep';have t:∀ b,A'.count b=(if b=a then 1 else 0)+B'.count b+C0.count b:=λ b=>by
   rw[q2,zAk];by_cases g:b=a
   . subst g;simp;lia
   simp[g,Ne.symm g]
 have j:∀ b,A'.count b<=(T++A).count b:=λ b=>by rw[zA0,t,m];have:=v b;lia
 have O:∀ b,F b->∃ o,upd H a (.ins C dx fvs') b=some o:=λ b f=>by
   obtain⟨x,e⟩:=n.ex b f;exact⟨x,by rw[qb3 (show b≠a from λ w=>y (w ▸ f))];exact e⟩
 refine⟨A',⟨N,⟨λ b=>zAm (j b) (n.sep b),λ b f=>by have:=n.fro b f;have:=j b;lia,O⟩,S.len,S.ag⟩,λ b u e z=>?_,λ b u e z=>by have:=j b;lia,λ _ f=>f,λ _ _ _ _ f=>f⟩;rw[qb3 λ w=>?_]
 . exact e
 subst w;have:=m b;rw[if_pos rfl] at this;rw[zA0] at z;lia
def sFldV(C:Addr)(f:Str)(te:VT)(pf:PF):VTS:=λ e ds=>te ds (λ d ds1=>orF (pf ds1) λ q=>orF ((Ay ds1 q.1 q.2).bind (D.ownI C)) λ fs=>fs.length < 100/\e.nx (A7 ds1 q.1 q.2 (.ins false C (Ih f d fs)))) e.xe
theorem Ii{C:Addr}{f:Str}{K:PySem.W.Frag}{pos':Pos}(G:X.K=K)(I:VP c X o pf)(k:VE c X e te)(J:Cls K C)(L:qc1 K C f)(M:swapsWith e (some (.Attribute o f pos')) pos.line X.env=pure false:=by rfl):VS c X (.Assign [.Attribute o f pos'] e pos) (sFldV C f te pf):=by
 subst G;refine⟨PS.mono (qaP9 I.h k.h M) λ E σ H n=>?_,λ s N t r=>k.m _ _ _ _ _ (λ d b=>qa5 λ _=>qa5 λ _=>And.imp_right (r.nx _)) r.xe⟩;obtain⟨F,t,A,s,S,l,q⟩:=n;refine⟨F,t,A,s.xe,S,l.xe,k.m _ _ _ _ _ (λ d b q v H1 F1 T A1 O S1 P Q=>?_) (λ _ _ z=>z) q⟩;obtain⟨⟨i,p⟩,R,q⟩:=qa7.mp q;obtain⟨U,e2,r,q⟩:=qa7.mp q;obtain⟨dl,x,V⟩:=zA1.mp e2;cases qaI5 V;refine⟨F1,b,A1,i,p,_,S1,R,x,D.noConfusion,λ u w H2 Y Z j=>?_⟩;have S2:=S1.same j;obtain⟨a,dx,g,Ael,rfl,ha,y,rs,wr⟩:=qaI4 S2 x Y Z;have B:g.length=U.length:=by have:=congrArg List.length y;simpa using this
 refine⟨a,C,dx,g,rfl,ha,J,L,by lia,?_⟩;obtain⟨m1,B',m2,m3⟩:=qV0 (f:=f) y rs (O.same j);obtain⟨A',S3,s3⟩:=wr _ _ B' T (P.same j) m1 m2 m3;exact l.nx _ σ _ F1 A' q S3 (Q.trans ((Stp.same j).trans s3))
def gAllV(pf:PF):VTG:=λ d ds Q=>orF (pf ds) λ q=>orF ((Ay ds q.1 q.2).bind D.own) λ xs=>orF (match d with | .lst _ ys=>some ys | _=>none) λ ys=>D.imms ys=true/\xs.length+ys.length<=big/\Q (A7 ds q.1 q.2 (.lst false ys))
def Kb(x:V):List V->Option Nat
 | []=>none
 | y::r=>if eqV y x=true then some 0 else (Kb x r).map (· + 1)
theorem qau2{x:V}:∀{xs:List V}{j:Nat},Kb x xs=some j->∃ z,xs[j]? = some z/\eqV z x=true/\∀ m z',m < j->xs[m]? = some z'->eqV z' x=false
 | [],j,h=>by cases h
 | y::r,j,h=>by
   unfold Kb at h;by_cases a:eqV y x=true
   . rw[if_pos a] at h;cases h
     exact⟨y,rfl,a,λ m z' c=>by lia⟩
   rw[if_neg a] at h;obtain⟨k,d,rfl⟩:=zAi.mp h;obtain⟨z,e,f,g⟩:=qau2 d;refine⟨z,by simpa using e,f,λ m z' c b=>?_⟩;cases m with
   | zero =>
     have:y=z':=by simpa using b
     subst this;simpa using a
   | succ m=>exact g m z' (by lia) (by simpa using b)
def gIdx(x y:D):Option D:=match x with
 | .lst _ ys=>y.flat.bind λ v=>(flats ys).bind λ a=>(Kb v a).map λ j=>.int (j:Nat)
 | _=>none
def gCnt(x y:D):Option D:=match x with
 | .lst _ ys=>y.flat.bind λ v=>(flats ys).bind λ a=>some (.int (a.countP (λ z=>eqV z v):Nat))
 | _=>none
def rL1(r:V->List V->Hp->VK->Prop):R2:=λ x y H Q=>r x [y] H Q
theorem qaI6:A6 true (rL1 qaF8) gIdx:=by
 intro F H v w x y B d Q r h q;cases r with | @cons _ _ A _ _ _ b t=>cases t with | @cons _ _ A2 _ _ _ c _ =>
 cases x with
 | lst z s =>
   obtain⟨u,e,h⟩:=zA1.mp h;obtain⟨C,i,h⟩:=zA1.mp h;obtain⟨j,k,rfl⟩:=zAi.mp h;obtain⟨rfl,f⟩:=c.flat e;obtain⟨a,l,A3,rfl,m,n,_⟩:=b.lst_inv;obtain⟨rfl,g⟩:=n.flats i;obtain⟨z,o,q2,p⟩:=qau2 k;exact⟨a,l,w,j,z,rfl,rfl,m,f,g,o,q2,p,q _ H [] (.int _) (λ _ _ z=>z) New.nil⟩
 | _=>cases h
theorem qaR1:A6 true (rL1 qaG0) gCnt:=by
 intro F H v w x y B d Q r h q;cases r with | @cons _ _ A _ _ _ b t=>cases t with | @cons _ _ A2 _ _ _ c _ =>
 cases x with
 | lst z m =>
   obtain⟨n,e,h⟩:=zA1.mp h;obtain⟨o,i,h⟩:=zA1.mp h;cases h;obtain⟨rfl,f⟩:=c.flat e;obtain⟨a,j,A3,rfl,k,l,_⟩:=b.lst_inv;obtain⟨rfl,g⟩:=l.flats i;exact⟨a,j,w,rfl,rfl,k,f,g,q _ H [] (.int _) (λ _ _ z=>z) New.nil⟩
 | _=>cases h
theorem vbm{r:V->List V->Hp->VK->Prop}{g:D->D->Option D}{name:Str}{id:String}(C:A6 true (rL1 r) g)(E:PlainAttrs "list")(slot:Slot "list" name id)(i:typeOf (.builtin id)=pure (.type "method_descriptor"))(hm:MtM X id r)(G:VV c X o oa fa)(I:VV c X b ob fb)(J:∀ x y d,g x y=some d->∃ z ys,x=.lst z ys)(hbase:attributeBase o name X.env (eval o X.env)=eval o X.env:=by rfl)(f:((backTo cpos (starEach [b] X.env)).all (λ x=>!x.1)&&(backToKw cpos (keywordEach [] X.env)).all (λ x=>x.1.isSome)
     && decide (([b]:List Expr).length+([]:List Keyword).length+(if ([]:List Keyword).isEmpty then 0 else 1) < 30))=true:=by rfl)(hline:(apos.endLine == cpos.line)=true:=by rfl)(n:starEach [b] X.env=(false,eval b X.env)::starEach [] X.env:=by rfl)(hplain:(backTo cpos (starEach [] X.env)).any (·.1)=false:=by rfl) :
   VV c X (.Call (.Attribute o name apos) [b] [] cpos) true (f2 g fa fb):=by
 refine⟨PE.mono (Lz E slot i hm G.h (qe3 I.h qv1 n) hbase f hline n hplain) λ σ H Q j=>?_⟩;obtain⟨F,p,A,d,S,e,q⟩:=j;obtain⟨x,y,K,L,s⟩:=qaB9.mp e;obtain⟨z,ys,rfl⟩:=J x y d s;refine⟨F,p,A,_,S,K,λ v H1 B1 t k R=>?_⟩;obtain⟨a,M,A3,rfl,l,T,_⟩:=t.lst_inv;refine⟨.inl ⟨rfl,M,.inl (.inl l)⟩,F,p,A,y,S.same k,L,λ w H2 B2 N m U=>?_⟩;exact C F H2 _ w _ y _ d Q (Jo (t.same m) N) s λ u H3 B3 O P B=>q u H3 B3 O ((k.trans m).trans P) λ _=>⟨B.one,λ b o e=>B.new b o (m b o (k b o e))⟩
theorem qau1:∀ x y d,gIdx x y=some d->∃ z ys,x=.lst z ys:=λ x y d h=>by cases x with | lst z ys=>exact⟨z,ys,rfl⟩ | _=>cases h
theorem qaN3:∀ x y d,gCnt x y=some d->∃ z ys,x=.lst z ys:=λ x y d h=>by cases x with | lst z ys=>exact⟨z,ys,rfl⟩ | _=>cases h
end
def Gr(g:VTG)(t:VTS)(e:VEnds):List D->Ds->Prop
 | [],ds=>e.nx ds
 | x::xs,ds=>g x ds λ ds1=>t { e with nx:=Gr g t e xs,ct:=Gr g t e xs,bk:=e.nx } ds1
def whN(qc:VTT)(t:VTS)(e:VEnds):Nat->Ds->Prop
 | 0,_=>False
 | n+1,ds=>qc ds (λ b ds1=>if b=true then t { e with nx:=whN qc t e n,ct:=whN qc t e n,bk:=e.nx } ds1 else e.nx ds1) e.xe
def qaF2(qc:VTT)(t:VTS):VTS:=λ e ds=>∃ n,whN qc t e n ds
section
variable{c:Vc}{X:Cx}{a b e tg:Expr}{body:List Stmt}{g:VTG}{t:VTS}{te:VT}{qc:VTT}{pos:Pos}
theorem qn5(d:VG c X tg g)(e:VSs c X body t){en b:VEnds}(a:en.Le b):∀(xs:List D) ds,Gr g t en xs ds->Gr g t b xs ds
 | [],ds=>a.nx ds
 | x::xs,ds=>d.m _ _ _ _ λ f=>e.m _ _ _ ⟨qn5 d e a xs,a.rt,a.nx,qn5 d e a xs,a.xe⟩
theorem qO5{cd:Expr}(e:VTe c X cd qc)(f:VSs c X body t){en d:VEnds}(a:en.Le d):∀(n:Nat) ds,whN qc t en n ds->whN qc t d n ds
 | 0,ds=>id
 | n+1,ds=>e.m _ _ _ _ _ (λ b g=>qF6 (f.m _ _ _ ⟨qO5 e f a n,a.rt,a.nx,qO5 e f a n,a.xe⟩) (a.nx _)) a.xe
theorem qar6(r:PassesOwn (model X.prog X.w) X.A X.env X.xe)(g:VTe c X cd qc)(o:VSs c X body t):VS c X (.While cd body [] pos) (qaF2 qc t):=by
 refine⟨PS.mono (qax4 r g.h o.h) λ E σ H i=>?_,λ d s e u ⟨n,q⟩=>⟨n,qO5 g o u n e q⟩⟩;obtain⟨F,e,A,d,S,l,n,q⟩:=i;refine⟨λ m σ H=>∃ F e A,Sta c F H σ e A/\Lk c E F H A d/\whN qc t d m e,⟨n,F,e,A,S,l,q⟩,?_⟩;rintro m σ H ⟨F,e,A,S,l,q⟩;cases m with
 | zero=>exact q.elim
 | succ m =>
   refine⟨F,e,A,d.xe,S,l.xe,g.m _ _ _ _ _ (λ b j q H1 F1 A1 S1 p=>?_) (λ _ _ z=>z) q⟩;cases b with
   | false=>rw[if_neg (by decide)] at q ⊢;exact l.nx _ _ _ _ _ q S1 p
   | true =>
     rw[if_pos rfl] at q ⊢;have f:=l.step p;refine⟨λ σ' H'=>∃ F' a A',Sta c F' H' σ' a A'/\Lk c E F' H' A' d/\whN qc t d m a,λ σ' H' h=>⟨m,by lia,h⟩,F1,j,A1,{ d with nx:=whN qc t d m,ct:=whN qc t d m,bk:=d.nx },S1,⟨?_,f.rt,f.nx,?_,f.xe⟩,q⟩
     . exact λ a σ' H' F' A' q S' k=>⟨F',a,A',S',f.step k,q⟩
     exact λ a σ' H' F' A' q S' k=>⟨F',a,A',S',f.step k,q⟩
theorem qac1{E:Bo}{en:VEnds}{F:Addr->Prop}{H:Hp}{σ:St}{ds:Ds}{A:List Addr}{x:V}{y:D}{N:St->Hp->Prop}{b:Ds->Prop}(i:VG c X tg g)(S:Sta c F H σ ds A)(l:Lk c E F H A en)(r:Rep F H x y [])(h:∀ a σ' H' F' A',b a->Sta c F' H' σ' a A'->Stp F H A F' H' A'->N σ' H')(q:g y ds λ ds1=>t { en with nx:=b,ct:=b,bk:=en.nx } ds1) :
   Jb c g x σ H λ σ2 H2=>Hf c t { E with nx:=N,ct:=N,bk:=E.nx } σ2 H2:=by
 refine⟨F,ds,A,[],y,r,S,S.ok,i.m _ _ _ _ (λ ds1 q σ1 H1 F1 A1 S1 d=>?_) q⟩;have e:=l.step d;exact⟨F1,ds1,A1,{ en with nx:=b,ct:=b,bk:=en.nx },S1,⟨λ a σ' H' F' A' q S' f=>h a σ' H' F' A' q S' (Stp.trans d f),e.rt,e.nx,λ a σ' H' F' A' q S' f=>h a σ' H' F' A' q S' (Stp.trans d f),e.xe⟩,q⟩
noncomputable def D.lstOf:D->Option Ds
 | .lst _ ys=>some ys
 | _=>none
theorem qB0{d:D}{ys:Ds}(h:d.lstOf=some ys):∃ z,d=.lst z ys:=by
 cases d with
 | lst z a=>cases h;exact⟨z,rfl⟩
 | _=>cases h
theorem qv8:∀{ys:List D}{i:Nat}{y:D},D.imms ys=true->ys[i]? = some y->y.imm=true
 | [],i,y,_,h=>by simp at h
 | d::r,0,y,hm,h=>by
   have:d=y:=by simpa using h
   subst this;exact(zAb.mp hm).1
 | d::r,i+1,y,hm,h=>qv8 (zAb.mp hm).2 (by simpa using h)
theorem qn6{xs:List α}{x:α}(h:xs[i]? = some x):xs.drop i=x::xs.drop (i+1):=by
 obtain⟨a,rfl⟩:=zA5.mp h;exact List.drop_eq_getElem_cons a
def sForL(te:VT)(g:VTG)(t:VTS):VTS:=λ e ds=>te ds (λ d ds1=>orF d.lstOf λ ys=>D.imms ys=true/\Gr g t e ys ds1) e.xe
theorem sforL(hp:PassesOwn (model X.prog X.w) X.A X.env X.xe)(hi:VE c X e te)(G:VG c X tg g)(Q:VSs c X body t)(R:X.calm=true:=by rfl)(I:∀ v,foldedSetIterable e X.env v=pure v:=by intro _;rfl):VS c X (.For tg e body [] pos) (sForL te g t):=by
 refine⟨PS.mono (qam9 hp R (qE8 hi.h) G.h Q.h I) λ E σ H J=>?_,λ s a0 k U=>hi.m _ _ _ _ _ (λ d n=>qa5 λ u=>And.imp_right (qn5 G Q U u n)) U.xe⟩;obtain⟨F,k,A,s,S,l,q⟩:=J;refine⟨F,k,A,s.xe,S,l.xe,hi.m _ _ _ _ _ (λ d n q v H1 F1 T A1 V S1 o1 s1=>?_) (λ _ _ z=>z) q⟩;obtain⟨u,ey,hm,qf⟩:=qa7.mp q;obtain⟨z,rfl⟩:=qB0 ey;obtain⟨a,C,Ael,rfl,j,rs,_⟩:=V.lst_inv;have L:Stp F H A F1 H1 A1:=s1.count λ b=>by rw[zA0];lia
 refine⟨a,rfl,⟨C,.inl (.inl j)⟩,qaj4 (K:=X.K) (a:=a) (xs:=C) (λ i σ H=>∃ F k A,Sta c F H σ k A/\Lk c E F H A s/\Rep F H (.ref a) (.lst z u) T/\H a=some (.lst C)/\Ok F H (T++A)/\Gr g t s (u.drop i) k) ⟨F1,n,A1,S1,l.step L,V,j,o1,qf⟩ ?_ ?_ ?_⟩
 . rintro i σ H _ ⟨F,k,A,S,l,r,j,o,q⟩
   exact .inl (.inl j)
 . rintro i x σ H hx ⟨F,k,A,S,l,r,j,o,q⟩
   obtain⟨a',a1,Ael',ea,p,M,_⟩:=r.lst_inv;cases ea;rw[j] at p;cases p;obtain⟨y,B,W,Y⟩:=M.getV hx
   have:=Y.imm (qv8 hm W)
   subst this;rw[qn6 W] at q;refine qac1 G S l Y (λ N σ' H' F' A' q' S' O=>?_) q;have D:=O.kp S.ok S.loc.cells;have Z:∀ b∈T,¬ (A.count b≠0):=λ b hb R=>by
     have:=o.sep b
     rw[zA0] at this
     have:=qa9.mp hb
     lia
   have r':=r.keep D Z;obtain⟨o',_⟩:=O.frame o r.cells S'.ok;have P:H' a=some (.lst C):=by
     cases r with
     | lst h _=>exact D.fr _ _ j (Z _ zAe)
     | lstZ h f _=>exact D.fr _ _ j λ w=>D.wf _ w f
   exact⟨F',N,A',S',l.step O,r',P,o',q'⟩
 rintro σ H ⟨F,k,A,S,l,r,j,o,q⟩;rw[rs.len,List.drop_length] at q;exact l.nx _ _ _ _ _ q S Stp.refl
noncomputable def Bl(lo:Int)(n:Nat):List D:=(List.range n).map λ(i:Nat)=>.int (lo+(i:Int))
theorem qU9(h:i < n):(Bl lo n)[i]? = some (.int (lo+(i:Int))):=by
 unfold Bl;rw[zB3,List.getElem?_range h];rfl
theorem qas2(lo:Int)(n:Nat):(Bl lo n).length=n:=by simp[Bl]
noncomputable def Ij(i:Int):Bool:=decide (-(2 ^ 62)<=i)&&decide (i < 2 ^ 62)
theorem qv5{i:Int}(h:Ij i=true):-(2 ^ 62)<=i/\i < 2 ^ 62:=by
 have:=zAb.mp h
 exact⟨zA9 this.1,zA9 this.2⟩
theorem qau8{E:Bo}{en:VEnds}{F:Addr->Prop}{H:Hp}{σ:St}{ds:Ds}{A:List Addr}(d:VG c X tg g)(S:Sta c F H σ ds A)(l:Lk c E F H A en)(q:Gr g t en (Bl lo n) ds) :
   ∃ W:Nat->Nat->St->Hp->Prop,(∃ m,W 0 m σ H)/\∀ i m σ H,W i m σ H ->
     ((Itr lo n).stop i H/\E.nx σ H)∨((Itr lo n).go i H/\∃ N:St->Hp->Prop,(∀ σ' H',N σ' H'->∃ b,b < m/\W (i+1) b σ' H')/\∀ x H',(Itr lo n).yld i H x H'->Jb c g x σ H' λ σ2 H2=>Hf c t { E with nx:=N,ct:=N,bk:=E.nx } σ2 H2):=by
 refine qao6 (λ i σ H=>∃ F ds A,Sta c F H σ ds A/\Lk c E F H A en/\Gr g t en ((Bl lo n).drop i) ds) ⟨F,ds,A,S,l,q⟩ ?_ ?_
 . rintro i σ H e ⟨F,ds,A,S,l,q⟩
   rw[qn6 (qU9 e)] at q;exact qac1 d S l (.int _) (λ a σ' H' F' A' f S' h=>⟨F',a,A',S',l.step h,f⟩) q
 rintro σ H ⟨F,ds,A,S,l,q⟩;rw[List.drop_of_length_le (by rw[qas2];exact zA3 _)] at q;exact l.nx _ _ _ _ _ q S Stp.refl
noncomputable def Mq:Ds->Option Int
 | [.int j]=>some j
 | _=>none
noncomputable def two2:Ds->Option (Int×Int)
 | [.int i,.int j]=>some (i,j)
 | _=>none
theorem qat1{xs:Ds}{j:Int}(h:Mq xs=some j):xs=[.int j]:=by
 unfold Mq at h;split at h
 . cases h;rfl
 cases h
theorem qaE3{xs:Ds}{z:Int×Int}(h:two2 xs=some z):xs=[.int z.1,.int z.2]:=by
 unfold two2 at h;split at h
 . cases h;rfl
 cases h
def qaF4(tr:VTA)(g:VTG)(t:VTS):VTS:=λ e ds=>tr ds (λ xs ds1=>orF (Mq xs) λ j=>Ij j=true/\Gr g t e (Bl 0 j.toNat) ds1) e.xe
def qaF3(tr:VTA)(g:VTG)(t:VTS):VTS:=λ e ds=>tr ds (λ xs ds1=>orF (two2 xs) λ z=>Ij z.1=true/\Ij z.2=true/\Gr g t e (Bl z.1 (z.2 - z.1).toNat) ds1) e.xe
theorem qaw6{tr:VTA}{p cpos:Pos}(s:PassesOwn (model X.prog X.w) X.A X.env X.xe)(hm:X.mg "range" = none)(d:VOs c X [a] tr)(e:VG c X tg g)(k:VSs c X body t)(f:Gl X "range" := by rfl)(u:starEach [a] X.env=[(false,eval a X.env)]:=by rfl)(x:X.calm=true:=by rfl) :
   VS c X (.For tg (.Call (.Name "range" p) [a] [] cpos) body [] pos) (qaF4 tr g t):=by
 refine⟨PS.mono (qam9 s x (qH9 f hm d.h u) e.h k.h) λ E σ H i=>?_,λ n y o r=>d.m _ _ _ _ _ (λ B b=>qa5 λ j=>And.imp_right (qn5 e k r _ b)) r.xe⟩;obtain⟨F,o,A,n,S,l,q⟩:=i;refine⟨F,o,A,n.xe,S,l.xe,d.m _ _ _ _ _ (λ B b q K H1 F1 T A1 C S1 D=>?_) (λ _ _ z=>z) q⟩;obtain⟨j,G,hm,I⟩:=qa7.mp q;cases qat1 G;obtain⟨v,rfl,J⟩:=C.one_inv;cases J
 have:=qv5 hm
 exact⟨j,rfl,this.1,this.2,qau8 e S1 (l.step D) I⟩
theorem qaP1{tr:VTA}{p cpos:Pos}(C:PassesOwn (model X.prog X.w) X.A X.env X.xe)(hm:X.mg "range" = none)(f:VOs c X [a,b] tr)(k:VG c X tg g)(u:VSs c X body t)(n:Gl X "range" := by rfl)(D:starEach [a,b] X.env=[(false,eval a X.env),(false,eval b X.env)]:=by rfl)(o:starEach [b] X.env=[(false,eval b X.env)]:=by rfl)(G:X.calm=true:=by rfl) :
   VS c X (.For tg (.Call (.Name "range" p) [a,b] [] cpos) body [] pos) (qaF3 tr g t):=by
 refine⟨PS.mono (qam9 C G (qan1 n hm f.h D o) k.h u.h) λ E σ H r=>?_,λ x I y B=>f.m _ _ _ _ _ (λ J d=>qa5 λ j=>And.imp_right (And.imp_right (qn5 k u B _ d))) B.xe⟩;obtain⟨F,y,A,x,S,l,q⟩:=r;refine⟨F,y,A,x.xe,S,l.xe,f.m _ _ _ _ _ (λ J d q O H1 F1 T A1 K S1 L=>?_) (λ _ _ z=>z) q⟩;obtain⟨⟨i,j⟩,M,e⟩:=qa7.mp q;cases qaE3 M;obtain⟨v,w,_,_,rfl,N,s,_⟩:=K.two_inv;cases N;cases s;exact⟨i,j,rfl,⟨(qv5 e.1).1,(qv5 e.1).2,(qv5 e.2.1).1,(qv5 e.2.1).2⟩,qau8 k S1 (l.step L) e.2.2⟩
def tFzV(te:VT):VT:=λ ds Q xe=>te ds (λ d ds1=>Q d.fz ds1) xe
theorem Bh(h:VE c X e te):VE c X e (tFzV te):=by
 refine⟨PE.mono h.h λ σ H Q a=>?_,λ i Q Q' j n o p=>h.m _ _ _ _ _ (λ d g=>o _ _) p⟩;obtain⟨F,i,A,j,S,x,q⟩:=a;refine⟨F,i,A,j,S,x,h.m _ _ _ _ _ (λ d g q v H1 F1 T A1 k S1 r s=>?_) (λ _ _ z=>z) q⟩;have t:=k.fz (F':=λ b=>F1 b∨b∈T) (λ b f=>.inl f) λ b u=>.inr u
 obtain⟨l,w⟩:=share (A:=T++A1) (B:=T) (C:=A1) r (λ b=>by rw[zA0]) k.cells (A':=A1) (λ b=>rfl);have L:=S1.loc.keep (Kp.more (H:=H1) λ b f=>Or.inl (b:=b∈T) f) λ _ _ z=>z
 exact q v H1 _ [] A1 t ⟨L,l,S1.len,S1.ag⟩ l (s.trans w)
end
def bk1(i:Nat)(p:List Nat)(w:V)(d0:D)(ds:Ds):Option Ds:=Aj [.pl i p w] [d0] ds
def Ky(i:Nat)(p:List Nat)(w:V)(d0:D)(e:VEnds):VEnds where
 nx ds:=orF (bk1 i p w d0 ds) e.nx
 rt d ds:=orF (bk1 i p w d0 ds) (e.rt d)
 bk ds:=orF (bk1 i p w d0 ds) e.bk
 ct ds:=orF (bk1 i p w d0 ds) e.ct
 xe x ds:=orF (bk1 i p w d0 ds) (e.xe x)
section
variable{c:Vc}{X:Cx}{a b e tg o:Expr}{body:List Stmt}{g:VTG}{t:VTS}{pos:Pos}{pf:PF}{F F1:Addr->Prop}{H H1:Hp}{σ:St}{ds ds1:Ds}{A A1 B:List Addr}{E:Bo}{en:VEnds}
theorem qs3{p:List Nat}{d0:D}{F':Addr->Prop}{H':Hp}{a d:Ds}{A':List Addr}(f:Ok F1 H1 (B++A1))(S1:Sta c F1 H1 σ ds1 A1)(r:Rep F1 H1 w d0 B)(S':Sta c F' H' σ' a A')(s':Stp F1 H1 A1 F' H' A')(h:bk1 i p w d0 a=some d) :
   ∃ A2,Sta c F' H' σ' d A2/\Ok F' H' (B++A')/\Stp F1 H1 (B++A1) F' H' (B++A')/\∀ b,A2.count b<=B.count b+A'.count b:=by
 obtain⟨g,j⟩:=s'.frame f r.cells S'.ok;have k:Rep F' H' w d0 B:=r.keep (s'.kp S1.ok S1.loc.cells) λ b l e=>by
   have:=f.sep b
   rw[zA0] at this
   have:=qa9.mp l
   lia
 obtain⟨A2,m,q2⟩:=qw6 (pls:=[.pl i p w]) (vs:=[w]) (more:=[]) (ys:=[d0]) (.so .nil) (.cons k .nil) S'.loc h;have e:∀ b,A2.count b<=B.count b+A'.count b:=λ b=>by have:=q2 b;simp only[zAg] at this;exact this
 exact⟨A2,⟨m,g.count λ b=>by rw[zA0];exact e b,S'.len,S'.ag⟩,g,j,e⟩
theorem Lk.lend{p:List Nat}{d0:D}(l:Lk c E F H A en)(k:Stp F H A F1 H1 (B++A1))(j:Ok F1 H1 (B++A1))(S1:Sta c F1 H1 σ ds1 A1)(r:Rep F1 H1 w d0 B):Lk c E F1 H1 A1 (Ky i p w d0 en) where
 nx ds' σ' H' F' A' q S' s':=by
   obtain⟨a,f,q⟩:=qa7.mp q;obtain⟨A2,S2,n,h,g⟩:=qs3 j S1 r S' s' f;exact l.nx _ _ _ _ A2 q S2 ((k.trans h).count λ b=>by rw[zA0];exact g b)
 bk ds' σ' H' F' A' q S' s':=by
   obtain⟨a,f,q⟩:=qa7.mp q;obtain⟨A2,S2,n,h,g⟩:=qs3 j S1 r S' s' f;exact l.bk _ _ _ _ A2 q S2 ((k.trans h).count λ b=>by rw[zA0];exact g b)
 ct ds' σ' H' F' A' q S' s':=by
   obtain⟨a,f,q⟩:=qa7.mp q;obtain⟨A2,S2,n,h,g⟩:=qs3 j S1 r S' s' f;exact l.ct _ _ _ _ A2 q S2 ((k.trans h).count λ b=>by rw[zA0];exact g b)
 xe x ds' σ' e H' F' A' q rx S' s':=by
   obtain⟨a,f,q⟩:=qa7.mp q;obtain⟨A2,S2,n,h,g⟩:=qs3 j S1 r S' s' f;exact l.xe x a σ' e H' F' A2 q rx S2 ((k.trans h).count λ b=>by rw[zA0];exact g b)
 rt d ds' v σ' H' F' T A' q rv S' oT s':=by
   obtain⟨a,f,q⟩:=qa7.mp q;have o:Stp F1 H1 A1 F' H' A':=s'.count λ b=>by rw[zA0];lia
   obtain⟨A2,S2,n,h,g⟩:=qs3 j S1 r S' o f;obtain⟨s,t⟩:=s'.frame j r.cells oT;have m:∀ b,(T++A2).count b<=(B++(T++A')).count b:=λ b=>by simp only[zA0];have:=g b;lia
   exact l.rt d a v σ' H' F' T A2 q rv S2 (s.count m) ((k.trans t).count m)
theorem qaK2{p:List Nat}{d0:D}{en a:VEnds}(b:en.Le a):(Ky i p w d0 en).Le (Ky i p w d0 a) :=
 ⟨λ c=>qa5 b.nx,λ d c=>qa5 (b.rt d),λ c=>qa5 b.bk,λ c=>qa5 b.ct,λ x c=>qa5 (b.xe x)⟩
structure Held(F:Addr->Prop)(H:Hp)(a:Addr)(vs:List V)(z:Bool)(ys:Ds)(T A:List Addr):Prop where
 r:Rep F H (.ref a) (.lst z ys) T
 h:H a=some (.lst vs)
 o:Ok F H (T++A)
theorem Held.step{ys:Ds}{T:List Addr}{a:Addr}{F':Addr->Prop}{H':Hp}{e:Ds}{A':List Addr}(h:Held F H a vs z ys T A)(S:Sta c F H σ ds A)(S':Sta c F' H' σ' e A')(s':Stp F H A F' H' A'):Held F' H' a vs z ys T A':=by
 obtain⟨r,g,o⟩:=h;have d:=s'.kp S.ok S.loc.cells;have i:∀ b∈T,¬ (A.count b≠0):=λ b j k=>by
   have:=o.sep b
   rw[zA0] at this
   have:=qa9.mp j
   lia
 refine⟨r.keep d i,?_,(s'.frame o r.cells S'.ok).1⟩;cases r with
 | lst h _=>exact d.fr _ _ g (i _ zAe)
 | lstZ h f _=>exact d.fr _ _ g λ w=>d.wf _ w f
theorem Held.get{ys:Ds}{T:List Addr}{a:Addr}{x:V}(h:Held F H a vs z ys T A)(hm:D.imms ys=true)(f:vs[i]? = some x):∃ y,ys[i]? = some y/\Rep F H x y []:=by
 obtain⟨k,g,Ael',j,b,c,_⟩:=h.r.lst_inv;cases j
 have:=h.h
 rw[b] at this;cases this;obtain⟨y,B,d,e⟩:=c.getV f
 have:=e.imm (qv8 hm d)
 subst this;exact⟨y,d,e⟩
theorem Held.len{ys:Ds}{T:List Addr}{a:Addr}(h:Held F H a vs z ys T A):vs.length=ys.length:=by
 obtain⟨f,d,Ael',e,b,c,_⟩:=h.r.lst_inv;cases e
 have:=h.h
 rw[b] at this;cases this;exact c.len
theorem qS8{K:PySem.W.Frag}{ys:Ds}{T:List Addr}{a:Addr}(j:VG c X tg g)(S:Sta c F H σ ds A)(l:Lk c E F H A en)(b:Held F H a vs z ys T A)(hm:D.imms ys=true)(q:Gr g t en ys ds) :
   ∃ W:Nat->Nat->St->Hp->Prop,(∃ m,W 0 m σ H)/\∀ i m σ H,W i m σ H ->
     ((Itl K a).stop i H/\E.nx σ H)∨((Itl K a).go i H/\∃ N:St->Hp->Prop,(∀ σ' H',N σ' H'->∃ e,e < m/\W (i+1) e σ' H')/\∀ x H',(Itl K a).yld i H x H'->Jb c g x σ H' λ σ2 H2=>Hf c t { E with nx:=N,ct:=N,bk:=E.nx } σ2 H2):=by
 refine qaj4 (xs:=vs) (λ i σ H=>∃ F ds A,Sta c F H σ ds A/\Lk c E F H A en/\Held F H a vs z ys T A/\Gr g t en (ys.drop i) ds) ⟨F,ds,A,S,l,b,q⟩ ?_ ?_ ?_
 . rintro i σ H _ ⟨F,ds,A,S,l,b,q⟩
   exact .inl (.inl b.h)
 . rintro i x σ H k ⟨F,ds,A,S,l,b,q⟩
   obtain⟨y,n,o⟩:=b.get hm k;rw[qn6 n] at q;exact qac1 j S l o (λ d σ' H' F' A' p S' f=>⟨F',d,A',S',l.step f,b.step S S' f,p⟩) q
 rintro σ H ⟨F,ds,A,S,l,b,q⟩;rw[b.len,List.drop_length] at q;exact l.nx _ _ _ _ _ q S Stp.refl
def sForP(pf:PF)(g:VTG)(t:VTS):VTS:=λ e ds=>orF (pf ds) λ q=>orF (Ay ds q.1 q.2) λ d=>orF d.lstOf λ ys=>D.imms ys=true/\∀ w,Gr g t (Ky q.1 q.2 w d e) ys (A7 ds q.1 q.2 (.hole w))
theorem sforP(J:PassesOwn (model X.prog X.w) X.A X.env X.xe)(hi:VP c X o pf)(j:VG c X tg g)(y:VSs c X body t)(K:X.calm=true:=by rfl)(k:∀ v,foldedSetIterable o X.env v=pure v:=by intro _;rfl):VS c X (.For tg o body [] pos) (sForP pf g t):=by
 refine⟨PS.mono (qam9 J K (qE8 hi.h) j.h y.h k) λ E σ H m=>?_,λ L M n N=>qa5 λ q=>qa5 λ d=>qa5 λ O=>And.imp_right λ h w=>qn5 j y (qaK2 N) _ _ (h w)⟩;obtain⟨F,n,A,L,S,l,q⟩:=m;obtain⟨⟨i,p⟩,P,q⟩:=qa7.mp q;obtain⟨d,e2,q⟩:=qa7.mp q;obtain⟨O,Q,R,q⟩:=qa7.mp q;obtain⟨z,rfl⟩:=qB0 Q;refine⟨F,n,A,i,p,_,S,P,e2,D.noConfusion,λ u w H1 T U s=>?_⟩;obtain⟨B,C,r,G,V⟩:=(S.same s).place e2 D.noConfusion T U;obtain⟨A1,W,q2⟩:=V (.hole w) [] (Kp.same (F:=F) λ _ _ z=>z) (λ _ _ z=>z) (.hole w);have x:Ok F H1 (B++A1):=(S.same s).ok.count λ b=>by rw[zA0,q2,G];simp
 have Y:Stp F H A F H1 (B++A1):=⟨λ b o e _=>s b o e,λ b o e z=>by rw[zA0,q2];have:=G b;simp;lia,λ _ f=>f,λ _ _ _ _ f=>f⟩
 have S1:Sta c F H1 σ (A7 n i p (.hole w)) A1:=⟨W,x.right,S.len,S.ag⟩
 obtain⟨a,Z,Ael,rfl,I,rs,_⟩:=r.lst_inv;exact⟨a,rfl,⟨Z,.inl (.inl I)⟩,qS8 j S1 (l.lend Y x S1 r) ⟨r,I,x⟩ R (q _)⟩
noncomputable def enD(ys:Ds):List D:=ys.zipIdx.map λ p=>.tup [.int (p.2:Int),p.1]
theorem qaU2{ys:Ds}{y:D}(h:ys[i]? = some y):(enD ys)[i]? = some (.tup [.int (i:Int),y]):=by
 unfold enD;rw[zB3,List.getElem?_zipIdx,h];simp
theorem qaC6(ys:Ds):(enD ys).length=ys.length:=by simp[enD]
end
noncomputable def fin(W:Nat->Bool):Nat->Ds->Ds->Ds
 | k,d::r,d'::r'=>(if W k=true then d' else d)::fin W (k+1) r r'
 | _,_,_=>[]
noncomputable def Kk(W:Nat->Bool):Nat->Ds->Bool
 | _,[]=>true
 | k,d::r=>(W k||d.imm)&&Kk W (k+1) r
def qap7(W:Nat->Bool)(ds:Ds)(Q:DK)(xe:XKd):VEnds where
 nx ds':=Q .non (fin W 0 ds ds')
 rt d ds':=Q d (fin W 0 ds ds')
 bk _:=False
 ct _:=False
 xe x ds':=xe x (fin W 0 ds ds')
section
variable{F F':Addr->Prop}{H H':Hp}
theorem qaT9{W:Nat->Bool}{Wr:Addr->Prop}(q:Kp F H Wr F' H'):∀{vs:List V}{ds:Ds}{A:List Addr}{k:Nat}{σ':List (Option V)}{a:Ds}{A':List Addr},Reps F H vs ds A->Kk W k ds=true->Locs F' H' σ' a A'->vs.length<=σ'.length->(∀ i,i < vs.length->W (k+i)=true->σ'[i]? = (vs.map some)[i]?) ->
   ∃ A2,Reps F' H' vs (fin W k ds a) A2/\∀ b,A2.count b<=A'.count b:=by
 intro vs
 induction vs with
 | nil =>
   intro ds A k σ' a A' r g L n l;cases r;exact⟨[],by cases a<;>exact .nil,λ b=>by simp⟩
 | cons v vs s =>
   intro ds A k σ' a A' r g L n l;cases r with
   | @cons _ d B _ ds B2 r1 t =>
     have g:=zAb.mp g;have step:∀{σ2:List (Option V)}{f:Ds}{A2:List Addr}(o:Option V),σ'=o::σ2->Locs F' H' σ2 f A2->∃ A3,Reps F' H' vs (fin W (k+1) ds f) A3/\∀ b,A3.count b<=A2.count b:=λ{σ2 f A2} o e L2=>by
       subst e;refine s t g.2 L2 (by simpa using n) λ i j c=>?_
       have:=l (i+1) (by simpa using j) (by rw[<- c];congr 1;lia)
       simpa using this
     cases L with
     | nil=>simp at n
     | no L2 =>
       obtain⟨A3,m,q2⟩:=step none rfl L2;by_cases c:W k=true
       . have:=l 0 (by simp) (by simpa using c)
         simp at this
       have j:d.imm=true:=by
         rcases Bool.or_eq_true_iff.mp g.1 with h | h
         . exact absurd h c
         exact h
       have:=r1.imm j
       subst this;refine⟨[]++A3,?_,λ b=>by simpa using q2 b⟩;show Reps F' H' (v::vs) ((if W k=true then _ else d)::_) _;rw[if_neg c];exact .cons (r1.keep q λ b p=>by cases p) m
     | @so v' d' B' σ2 f A2 rr L2 =>
       obtain⟨A3,m,q2⟩:=step (some v') rfl L2;by_cases c:W k=true
       . have:=l 0 (by simp) (by simpa using c)
         simp at this;subst this;refine⟨B'++A3,?_,λ b=>by simp only[zA0];have:=q2 b;lia⟩;show Reps F' H' (v'::vs) ((if W k=true then d' else d)::_) _;rw[if_pos c];exact .cons rr m
       have j:d.imm=true:=by
         rcases Bool.or_eq_true_iff.mp g.1 with h | h
         . exact absurd h c
         exact h
       have:=r1.imm j
       subst this;refine⟨[]++A3,?_,λ b=>by simp only[zBh,zA0];have:=q2 b;lia⟩;show Reps F' H' (v::vs) ((if W k=true then d' else d)::_) _;rw[if_neg c];exact .cons (r1.keep q λ b p=>by cases p) m
theorem Reps.locs{ds:Ds}{A:List Addr}(r:Reps F H vs ds A):Locs F H (vs.map some) ds A:=by
 induction vs generalizing ds A with
 | nil=>cases r;exact .nil
 | cons v vs a=>cases r with | cons h t=>exact .so h (a t)
theorem qI7:∀ n:Nat,Locs F H (List.replicate n none) (List.replicate n .unk) []
 | 0=>.nil
 | n+1=>.no (qI7 n)
end
structure FunE(K:PySem.W.Frag)(x qual:Str)(st:Stmt)(f:Addr)(fd:FuncData):Prop where
 ex:∃(oc:Value)(od:Option Addr)(dV kV doc pm:Value)(an:Option Addr)(cdv ct:Value)(osl:Array (Option Value)),
   fd=PySem.W.fnOf x qual (qf0 st) (qc9 st) (qa3 st) dV kV doc pm an cdv ct/\K.lookup f=some ⟨oc,od,.func fd,osl⟩/\PySem.W.codeIn K cdv qual=true
theorem FunE.of{K:PySem.W.Frag}{x qual:Str}{st:Stmt}{f:Addr}{fd:FuncData}(F:Fun K x qual st f fd):FunE K x qual st f fd :=
 by obtain⟨g,h,kV,a,i,j,b,k,c,e,l,d⟩:=F.ex;exact⟨⟨g,h,.none,kV,a,i,j,b,k,c,e,l,d⟩⟩
theorem FunE.okX{P:Program}{w:World}{K:PySem.W.Frag}{x qual:Str}{st:Stmt}{f:Addr}{fd:FuncData}{ps:List Str}{k:Nat}{sp:Sp}(F:FunE K x qual st f fd)(S:qa8 N ps (qa3 st))(len:∀ vs H Q E,sp vs H Q E->vs.length=ps.length)(hbody:∀(a:Value)(A:Around)(outer:List Env)(s:Shared)(H:Hp)(vs:List V)(Q:VK)(E:XK),RoomB cm k (A.deeper (PyProof.Rows.envOfC qual (qa3 st) s.heap.objs.size f a))->sp vs H Q E ->
     ∃ t,PSs (Hc cm (CX1 P w) P w K mg base N qual (qa3 st) f a A outer s H E) (qc9 st) t/\t { nx:=λ _ H'=>Q .non H',rt:=Q } (L2.start N vs) H):Gu cm P w K mg base (CX1 P w) (k+1) f fd ps sp:=by
 obtain⟨i,j,l,kV,d,m,n,a,o,e,rfl,g,b⟩:=F.ex;exact Ly g b S len λ A outer s H vs Q E h c=>hbody a A outer s H vs Q E h c
theorem VFn.mkE{P:Program}{w:World}{K:PySem.W.Frag}{x qual:Str}{st:Stmt}{f:Addr}{fd:FuncData}{ps:List Str}{k:Nat}{s:VSp}(Fu:FunE K x qual st f fd)(Sc:qa8 N ps (qa3 st))(W:Nat->Bool)(G:Bj s)(j:∀ ds Q xe,s ds Q xe->ds.length=ps.length)(n:∀ ds Q xe,s ds Q xe->Kk W 0 ds=true)(hbody:∀(g:Value)(A:Around)(outer:List Env)(B:Shared)(H:Hp)(E:XK)(av:List (Option V)),RoomB cm k (A.deeper (PyProof.Rows.envOfC qual (qa3 st) B.heap.objs.size f g)) ->
     ∃ t,VSs ⟨λ _=>E,W,av,[]⟩ (Hc cm (CX1 P w) P w K mg base N qual (qa3 st) f g A outer B H E) (qc9 st) t/\∀ ds Q xe,s ds Q xe->t (qap7 W ds Q xe) (ds++List.replicate (N.length - ds.length) .unk)) :
   Ha cm P w K mg base (k+1) f fd ps s:=by
 refine⟨Fu.okX Sc (λ l H Q E ⟨F,ds,A,r,o,h⟩=>by rw[r.len];exact j _ _ _ h) λ g Ar outer B H l Q E I C=>?_,G⟩;obtain⟨F,ds,A,r,o,h⟩:=C;obtain⟨t,J,L⟩:=hbody g Ar outer B H E (L2.start N l) I;have X:=j _ _ _ h;have M:=n _ _ _ h;have Y:ps.length<=N.length:=by have:=congrArg List.length Sc.pre;rw[zB6] at this;lia
 have L0:Locs F H (L2.start N l++[]) (ds++List.replicate (N.length - ds.length) .unk) A:=by
   rw[zAg];unfold L2.start;rw[r.len]
   have:=r.locs.append (qI7 (F:=F) (H:=H) (N.length - ds.length))
   rwa[zAg] at this
 have S0:Sta ⟨λ _=>E,W,L2.start N l,[]⟩ F H (L2.start N l) (ds++List.replicate (N.length - ds.length) .unk) A:=⟨L0,o,by simp,λ i _=>by simp⟩
 have m:∀{σ':St}{H':Hp}{F':Addr->Prop}{a:Ds}{A' A2:List Addr},Sta ⟨λ _=>E,W,L2.start N l,[]⟩ F' H' σ' a A'->Stp F H A F' H' A2->∃ A3,Reps F' H' l (fin W 0 ds a) A3/\∀ b,A3.count b<=A'.count b:=λ{σ' H' F' a A' A2} S' c=>by
   have hlen':=S'.len;simp only[zAg] at hlen';refine qaT9 (c.kp o r.cells) r M (by have:=S'.loc;simpa using this) ?_ λ i D O=>?_
   . rw[<- hlen'];unfold L2.start;simp
   have:=S'.ag i (by simpa using O)
   simp only[zAg] at this;rw[this];show (L2.start N l)[i]? = _;unfold L2.start;rw[zAr (by simpa using D)]
 refine⟨_,J.h,F,_,A,qap7 W ds _ _,S0,⟨?_,?_,λ _ _ _ _ _ z=>False.elim z,λ _ _ _ _ _ z=>False.elim z,?_⟩,L _ _ _ h⟩
 . intro a σ' H' F' A' q S' c
   obtain⟨A3,p,q2⟩:=m S' c;have u:∀ b,([]++A3).count b<=A'.count b:=λ b=>by simpa using q2 b
   exact q .non H' F' [] A3 .non p (S'.ok.count u) (c.count u)
 . intro d a v σ' H' F' T A' q R S' S c
   obtain⟨A3,p,q2⟩:=m S' c;have u:∀ b,(T++A3).count b<=(T++A').count b:=λ b=>by simp only[zA0];have:=q2 b;lia
   exact q v H' F' T A3 R p (S.count u) (c.count u)
 intro y a σ' e H' F' A' q U S' c;obtain⟨A3,p,q2⟩:=m S' c;exact q e H' F' A3 U p (S'.ok.count q2) (c.count q2)
theorem VFn.mk'{P:Program}{w:World}{K:PySem.W.Frag}{x qual:Str}{st:Stmt}{f:Addr}{fd:FuncData}{ps:List Str}{k:Nat}{s:VSp}(Fu:Fun K x qual st f fd)(Sc:qa8 N ps (qa3 st))(W:Nat->Bool)(e:Bj s)(a:∀ ds Q xe,s ds Q xe->ds.length=ps.length)(b:∀ ds Q xe,s ds Q xe->Kk W 0 ds=true)(hbody:∀(c:Value)(A:Around)(outer:List Env)(d:Shared)(H:Hp)(E:XK)(av:List (Option V)),RoomB cm k (A.deeper (PyProof.Rows.envOfC qual (qa3 st) d.heap.objs.size f c)) ->
     ∃ t,VSs ⟨λ _=>E,W,av,[]⟩ (Hc cm (CX1 P w) P w K mg base N qual (qa3 st) f c A outer d H E) (qc9 st) t/\∀ ds Q xe,s ds Q xe->t (qap7 W ds Q xe) (ds++List.replicate (N.length - ds.length) .unk)) :
   Ha cm P w K mg base (k+1) f fd ps s:=VFn.mkE (FunE.of Fu) Sc W e a b hbody
def Bn:List (Option Nat)->Ds->Ds×Ds
 | [],ds=>([],ds)
 | none::r,ds=>(.unk::(Bn r ds).1,(Bn r ds).2)
 | some j::r,ds=>((ds[j]?).getD .unk::(Bn r (ds.set j .unk)).1,(Bn r (ds.set j .unk)).2)
def Ho:List (Option Nat)->Ds->Ds->Ds
 | none::r,_::i,o=>Ho r i o
 | some j::r,d::i,o=>Ho r i (o.set j d)
 | _,_,o=>o
def Hg(g:VTG)(qf:VTT)(te:VT)(K:Ds->Ds->Prop):List D->Ds->Ds->Prop
 | [],acc,ι=>K acc ι
 | x::xs,acc,ι=>g x ι λ ι1=>qf ι1 (λ b ι2=>if b=true then te ι2 (λ d ι3=>acc.length < big/\Hg g qf te K xs (acc++[d]) ι3) (λ _ _=>False) else Hg g qf te K xs acc ι2) (λ _ _=>False)
noncomputable def capW(src:List (Option Nat)):Nat->Bool:=λ i=>match src[i]? with | some (some _)=>true | _=>false
abbrev cIn(src:List (Option Nat))(av:List (Option V)):Vc:=⟨λ _ _ _ _=>False,capW src,av,[]⟩
structure VF(c:Vc)(X:Cx)(ifs:List Expr)(t:VTT):Prop where
 h:PFs X ifs (Gv c t)
 m:∀ ds (Q Q':Bool->Ds->Prop) (xe xe':XKd),(∀ d ds',Q d ds'->Q' d ds')->(∀ x ds',xe x ds'->xe' x ds')->t ds Q xe->t ds Q' xe'
def qYes:VTT:=λ ds Q _=>Q true ds
theorem Je{c:Vc}{X:Cx}:VF c X [] qYes:=⟨λ Gm s σ H Q I ⟨F,a,A,b,S,x,q⟩=>qaH2 Gm s σ H Q I (q H F A S Stp.refl),λ a Q Q' b d e _=>e _ _⟩
theorem Mr{c:Vc}{X:Cx}{e:Expr}{t:VTT}(h:VTe c X e t):VF c X [e] t:=⟨qaQ6 h.h,h.m⟩
section
variable{F F':Addr->Prop}{H H':Hp}
theorem qac6:∀{src:List (Option Nat)}{σ a:List (Option V)}{ds:Ds}{A:List Addr},Locs F H (σ++a) ds A->(∀ j,some j∈src->j < σ.length) ->
   ∃ Ai Ao,Locs F H (B8 σ src) (Bn src ds).1 Ai/\Locs F H (σ++a) (Bn src ds).2 Ao/\∀ b,A.count b=Ai.count b+Ao.count b
 | [],σ,a,ds,A,L,_=>⟨[],A,.nil,L,λ b=>by simp⟩
 | none::r,σ,a,ds,A,L,h=>by
   obtain⟨Ai,Ao,f,q2,g⟩:=qac6 (src:=r) L λ j c=>h j (zA6 _ c)
   exact⟨Ai,Ao,.no f,q2,g⟩
 | some j::r,σ,a,ds,A,L,h=>by
   have c:=h j zAe;have t:=L.len;rw[zA7] at t;obtain⟨z,e⟩:∃ d,ds[j]? = some d:=⟨_,zBs (by lia)⟩
   obtain⟨σ1,o,σ2,i,k,A1,B,A2,m,e2,u,w,x,n,p,q⟩:=L.split e;have s:(σ++a)[j]? = some o:=by rw[m];exact qF7 u
   rw[zAr c] at s;have y:ds.set j .unk=i++.unk::k:=by
     have:=congrArg (λ l=>l.set j .unk) e2
     rw[this,qr6 w]
   have L':Locs F H (σ++a) (ds.set j .unk) (A1++A2):=by
     rw[m,y];cases p with
     | no=>exact n.append (.no q)
     | @so v _ _ _=>exact n.append (.so (B:=[]) (.unk v) q)
   obtain⟨Ai,Ao,f,q2,g⟩:=qac6 (src:=r) L' λ j c=>h j (zA6 _ c)
   refine⟨B++Ai,Ao,?_,q2,λ b=>by rw[x];have:=g b;simp only[zA0] at *;lia⟩;show Locs F H (((σ[j]?).getD none)::B8 σ r) ((ds[j]?).getD .unk::_) _;rw[s,e];exact Locs.cons p f
theorem qN2:∀{src:List (Option Nat)}{σ c σ':List (Option V)}{ι o:Ds}{Ai Ao:List Addr},Locs F H σ' ι Ai->Locs F H (σ++c) o Ao->(∀ j,some j∈src->j < σ.length)->(∀(i j:Nat),src[i]? = some (some j)->σ'[i]? = some ((σ[j]?).getD none))->σ'.length=src.length ->
   ∃ A',Locs F H (σ++c) (Ho src ι o) A'/\∀ b,A'.count b<=Ai.count b+Ao.count b
 | [],σ,c,σ',ι,o,Ai,Ao,L,Lo,_,_,_=>⟨Ao,by cases ι<;>exact Lo,λ b=>by lia⟩
 | none::r,σ,c,σ',ι,o,Ai,Ao,L,Lo,h,k,f=>by
   cases L with
   | nil=>simp at f
   | no L2 =>
     obtain⟨A',g,q2⟩:=qN2 (src:=r) L2 Lo (λ j a=>h j (zA6 _ a)) (λ i j e=>by simpa using k (i+1) j (by simpa using e)) (by simpa using f);exact⟨A',g,q2⟩
   | so w L2 =>
     obtain⟨A',g,q2⟩:=qN2 (src:=r) L2 Lo (λ j a=>h j (zA6 _ a)) (λ i j e=>by simpa using k (i+1) j (by simpa using e)) (by simpa using f);exact⟨A',g,λ b=>by rw[zA0];have:=q2 b;lia⟩
 | some j::r,σ,c,σ',ι,o,Ai,Ao,L,Lo,h,k,f=>by
   have a:=h j zAe;have m:=Lo.len;rw[zA7] at m;obtain⟨G,n⟩:∃ d,o[j]? = some d:=⟨_,zBs (by lia)⟩
   obtain⟨σ1,p,σ2,q,s,A1,B,A2,t,e2,D,E,x,y,I,z⟩:=Lo.split n;have A:(σ++c)[j]? = some p:=by rw[t];exact qF7 D
   rw[zAr a] at A;have u:=k 0 j rfl;rw[A] at u;have C:∀ d,o.set j d=q++d::s:=λ d=>by
     have:=congrArg (λ l=>l.set j d) e2
     rw[this,qr6 E]
   cases L with
   | nil=>simp at f
   | no L2 =>
     have:p=none:=by simpa using u.symm
     subst this;have Lo':Locs F H (σ++c) (o.set j .unk) (A1++A2):=by rw[t,C];exact y.append (.no z)
     obtain⟨A',g,q2⟩:=qN2 (src:=r) L2 Lo' (λ j a=>h j (zA6 _ a)) (λ i j e=>by simpa using k (i+1) j (by simpa using e)) (by simpa using f);exact⟨A',g,λ b=>by rw[x];have:=q2 b;simp only[zA0] at *;lia⟩
   | @so v d Bv _ _ _ w L2 =>
     have:p=some v:=by simpa using u.symm
     subst this;have Lo':Locs F H (σ++c) (o.set j d) (A1++(Bv++A2)):=by rw[t,C];exact y.append (.so w z)
     obtain⟨A',g,q2⟩:=qN2 (src:=r) L2 Lo' (λ j a=>h j (zA6 _ a)) (λ i j e=>by simpa using k (i+1) j (by simpa using e)) (by simpa using f);exact⟨A',g,λ b=>by rw[x];have:=q2 b;simp only[zA0] at *;lia⟩
theorem qax7(σ:St)(src:List (Option Nat)):(B8 σ src).length=src.length:=by simp[B8]
theorem qax8{σ:St}{src:List (Option Nat)}(h:src[i]? = some (some j)):(B8 σ src)[i]? = some ((σ[j]?).getD none):=by
 unfold B8;rw[zB3,h];rfl
structure Li(Pp:(Addr->Prop)->Hp->Prop)(T:List Addr):Prop where
 keep:∀{F F':Addr->Prop}{H H':Hp}{W:Addr->Prop},Kp F H W F' H'->(∀ b∈T,¬ W b)->Pp F H->Pp F' H'
 cells:∀{F:Addr->Prop}{H:Hp},Pp F H->∀ b∈T,∃ o,H b=some o/\He o=true
end
section
variable{c:Vc}{F F':Addr->Prop}{H H':Hp}{Pp:(Addr->Prop)->Hp->Prop}{τ:List (Option V)}{o:Ds}{Dd:Addr}{acc:Ds}{T A A' Tv:List Addr}{σ:St}{ds:Ds}
noncomputable def Tot(B T Ao A:List Addr):List Addr:=B++(T++(Ao++A))
theorem qx9(st:Li Pp T){B:List Addr}(r:Rep F H (.ref Dd) (.lst false acc) B)(g:Pp F H)(L:Locs F H τ o Ao)(h:Ok F H (Tot B T Ao A))(S:Sta c F H σ ds A)(s:Stp F H A F' H' A')(o':Ok F' H' A') :
   Rep F' H' (.ref Dd) (.lst false acc) B/\Pp F' H'/\Locs F' H' τ o Ao/\Ok F' H' (Tot B T Ao A')/\Stp F H (Tot B T Ao A) F' H' (Tot B T Ao A'):=by
 unfold Tot at *
 have f:=s.kp S.ok S.loc.cells;have i:∀ b,(B++(T++(Ao++A))).count b=((B++(T++Ao))++A).count b:=λ b=>by simp only[zA0];lia
 have d:∀ b,b∈B∨b∈T∨b∈Ao->¬ (A.count b≠0):=λ b a j=>by
   have:=h.sep b
   simp only[zA0] at this;rcases a with a | a | a<;>have:=qa9.mp a<;>lia
 have k:∀ b∈B++(T++Ao),∃ o,H b=some o/\He o=true:=λ b a=>by
   rcases zAa.mp a with a | a
   . exact r.cells b a
   rcases zAa.mp a with a | a
   . exact st.cells g b a
   exact L.cells b a
 obtain⟨l,m⟩:=s.frame (T:=B++(T++Ao)) (h.count λ b=>by rw[i];exact zA3 _) k o';have e:∀ b,(B++(T++(Ao++A'))).count b=((B++(T++Ao))++A').count b:=λ b=>by simp only[zA0];lia
 exact⟨r.keep f λ b a=>d b (.inl a),st.keep f (λ b a=>d b (.inr (.inl a))) g,L.keep f λ b a=>d b (.inr (.inr a)),l.count λ b=>by rw[e];exact zA3 _,(m.pre λ b=>by rw[i]).count λ b=>by rw[e];exact zA3 _⟩
theorem qay8(st:Li Pp T){B:List Addr}{d:D}(r:Rep F H (.ref Dd) (.lst false acc) B)(p:Pp F H)(L:Locs F H τ o Ao)(S:Sta c F H σ ds A)(q:Rep F H v d Tv)(h:Ok F H (Tot B T Ao (Tv++A))) :
   ∃ vs B',H Dd=some (.lst vs)/\vs.length=acc.length/\Rep F (upd H Dd (.lst (vs++[v]))) (.ref Dd) (.lst false (acc++[d])) B'/\Pp F (upd H Dd (.lst (vs++[v])))/\Locs F (upd H Dd (.lst (vs++[v]))) τ o Ao/\Sta c F (upd H Dd (.lst (vs++[v]))) σ ds A/\Ok F (upd H Dd (.lst (vs++[v]))) (Tot B' T Ao A)/\Stp F H (Tot B T Ao (Tv++A)) F (upd H Dd (.lst (vs++[v]))) (Tot B' T Ao A):=by
 unfold Tot at *
 obtain⟨a,vs,Ael,s,j,l,rfl⟩:=qx4 r;cases s;have t:=h.sep Dd;simp only[zA0,zAk,zBa,if_true] at t;have m:¬ F Dd:=λ f=>by have:=h.fro Dd f;simp only[zA0,zAk,zBa,if_true] at this;lia
 have k:=qO4 (F:=F) (o':=.lst (vs++[v])) j rfl m;have i:∀ X:List Addr,X.count Dd=0->∀ b∈X,¬ b=Dd:=λ X y b C w=>by subst w;exact(qa9.mp C) y
 have g:∀ b,(Dd::(Ael++(Tv++[]))++(T++(Ao++A))).count b<=(Dd::Ael++(T++(Ao++(Tv++A)))).count b:=λ b=>by simp only[zA0,zAk,List.count_nil];lia
 have n:∀ b,F b->∃ o,upd H Dd (.lst (vs++[v])) b=some o:=λ b f=>by
   obtain⟨x,e⟩:=h.ex b f;exact⟨x,by rw[qb3 (show b≠Dd from λ w=>m (w ▸ f))];exact e⟩
 refine⟨vs,Dd::(Ael++(Tv++[])),j,l.len,?_,st.keep k (i T (by lia)) p,L.keep k (i Ao (by lia)),⟨S.loc.keep k (i A (by lia)),⟨S.ok.sep,S.ok.fro,n⟩,S.len,S.ag⟩,⟨λ b=>zAm (g b) (h.sep b),λ b f=>by have:=h.fro b f;have:=g b;lia,n⟩,λ b u e z=>?_,λ b u e z=>by have:=g b;lia,λ _ f=>f,λ _ _ _ _ f=>f⟩
 . exact .lst qb2 ((l.append (.cons q .nil)).keep k (i _ (by simp only[zA0,List.count_nil];lia)))
 rw[qb3 λ w=>?_]
 . exact e
 subst w;simp only[zA0,zAk,zBa,if_true] at z;lia
end
def qq6(src:List (Option Nat))(g:VTG):TG:=λ v σ H Q=>∃ av,Jb (cIn src av) g v σ H Q
def qq5(src:List (Option Nat))(q:VTT):TT:=λ σ H Q=>∃ av,Gv (cIn src av) q σ H Q
def Bk(src:List (Option Nat))(t:VT):TE:=λ σ H Q=>∃ av,Bd (cIn src av) t σ H Q
structure Blk(X:Cx)(NY:List Str)(sc:Scope)(src:List (Option Nat))(tg:Expr)(ifs:List Expr)(elt:Expr)(g:VTG)(qf:VTT)(te:VT):Prop where
 g:∀ av C s0 H0 ex,VG (cIn src av) (qj4 X NY sc C s0 H0 ex) tg g
 f:∀ av C s0 H0 ex,VF (cIn src av) (qj4 X NY sc C s0 H0 ex) ifs qf
 e:∀ av C s0 H0 ex,VE (cIn src av) (qj4 X NY sc C s0 H0 ex) elt te
 lt:∀ Gm σ H s,Inv X Gm σ H s->∀ j,some j∈src->j < σ.length
section
variable{c:Vc}{X:Cx}{NY:List Str}{sc:Scope}{src:List (Option Nat)}{tg elt e:Expr}{ifs:List Expr}{g:VTG}{qf:VTT}{te:VT}
theorem Blk.pg(b:Blk X NY sc src tg ifs elt g qf te):∀ C a H0 ex,PG (qj4 X NY sc C a H0 ex) tg (qq6 src g):=λ C a H0 ex Gm s σ H v u Q I r ⟨c,q⟩=>(b.g c C a H0 ex).h Gm s σ H v u Q I r q
theorem Blk.pf(b:Blk X NY sc src tg ifs elt g qf te):∀ C a H0 ex,PFs (qj4 X NY sc C a H0 ex) ifs (qq5 src qf):=λ C a H0 ex Gm s σ H Q I ⟨c,q⟩=>(b.f c C a H0 ex).h Gm s σ H Q I q
theorem Blk.pe(b:Blk X NY sc src tg ifs elt g qf te):∀ C a H0 ex,PE (qj4 X NY sc C a H0 ex) elt (Bk src te):=λ C a H0 ex Gm s σ H Q I ⟨c,q⟩=>(b.e c C a H0 ex).h Gm s σ H Q I q
theorem Blk.gm(b:Blk X NY sc src tg ifs elt g qf te):∀ d ds (Q Q':Ds->Prop),(∀ a,Q a->Q' a)->g d ds Q->g d ds Q':=(b.g [] 0 {} (λ _=>none) []).m
theorem Blk.fm(b:Blk X NY sc src tg ifs elt g qf te):∀ ds (Q Q':Bool->Ds->Prop) (xe c:XKd),(∀ d a,Q d a->Q' d a)->(∀ x a,xe x a->c x a)->qf ds Q xe->qf ds Q' c:=(b.f [] 0 {} (λ _=>none) []).m
theorem Blk.em(b:Blk X NY sc src tg ifs elt g qf te):∀ ds (Q Q':DK) (xe c:XKd),(∀ d a,Q d a->Q' d a)->(∀ x a,xe x a->c x a)->te ds Q xe->te ds Q' c:=(b.e [] 0 {} (λ _=>none) []).m
theorem ql1(b:Blk X NY sc src tg ifs elt g qf te){K K':Ds->Ds->Prop}(h:∀ acc ι,K acc ι->K' acc ι):∀(xs:List D) acc ι,Hg g qf te K xs acc ι->Hg g qf te K' xs acc ι
 | [],acc,ι=>h acc ι
 | x::xs,acc,ι=>b.gm _ _ _ _ λ ι1=>b.fm _ _ _ _ _ (λ k ι2=>qF6 (b.em _ _ _ _ _ (λ d ι3=>And.imp_right (ql1 b h xs _ _)) λ _ _ z=>z) (ql1 b h xs _ _)) λ _ _ z=>z
variable{F F0:Addr->Prop}{H H0:Hp}{Pp:(Addr->Prop)->Hp->Prop}{τ:List (Option V)}{o0:Ds}{Dd:Addr}{acc:Ds}{T A A0:List Addr}{σ:St}{ds ι:Ds}{av:List (Option V)}{K:Ds->Ds->Prop}
def Mid(src:List (Option Nat))(av:List (Option V))(Pp:(Addr->Prop)->Hp->Prop)(T:List Addr)(τ:List (Option V))(o0:Ds)(Dd:Addr)(F0:Addr->Prop)(H0:Hp)(A0:List Addr)(g:VTG)(qf:VTT)(te:VT)(K:Ds->Ds->Prop)(xs:List D)(σ:St)(H:Hp):Prop :=
 ∃ F ι A acc B Ao,Sta (cIn src av) F H σ ι A/\Rep F H (.ref Dd) (.lst false acc) B/\Pp F H/\Locs F H τ o0 Ao/\Ok F H (Tot B T Ao A)/\Stp F0 H0 A0 F H (Tot B T Ao A)/\Hg g qf te K xs acc ι
theorem qJ8(b:Blk X NY sc src tg ifs elt g qf te)(st:Li Pp T){B:List Addr}{x:V}{y:D}{xs:List D}(S:Sta (cIn src av) F H σ ι A)(r:Rep F H (.ref Dd) (.lst false acc) B)(t:Pp F H)(L:Locs F H τ o0 Ao)(u:Ok F H (Tot B T Ao A))(p:Stp F0 H0 A0 F H (Tot B T Ao A))(w:Rep F H x y [])(q:Hg g qf te K (y::xs) acc ι) :
   qq6 src g x σ H λ σ2 H2=>qq5 src qf σ2 H2 λ h H3=>if h=true then Bk src te σ2 H3 λ v H4=>∃ ys,H4 Dd=some (.lst ys)/\ys.length < sizeLine/\Mid src av Pp T τ o0 Dd F0 H0 A0 g qf te K xs σ2 (upd H4 Dd (.lst (ys++[v]))) else Mid src av Pp T τ o0 Dd F0 H0 A0 g qf te K xs σ2 H3:=by
 have a:∀(F:Addr->Prop)(H:Hp)(A:List Addr),Xc (cIn src av) (λ _ _=>False) F H A:=λ F H A x C σ' e H' F' A' z=>z.elim
 refine⟨av,F,ι,A,[],y,w,S,S.ok,b.gm _ _ _ _ (λ ι1 q σ1 H1 F1 A1 S1 E=>?_) q⟩;obtain⟨G,i,L1,j,t1⟩:=qx9 st r t L u S (show Stp F H A F1 H1 A1 from E) S1.ok;refine⟨av,F1,ι1,A1,_,S1,a _ _ _,b.fm _ _ _ _ _ (λ k ι2 q H2 F2 A2 S2 I=>?_) (λ _ _ z=>z) q⟩;obtain⟨s,c,L2,f,t2⟩:=qx9 st G i L1 j S1 I S2.ok;cases k with
 | false =>
   rw[if_neg (by decide)] at q ⊢;exact⟨F2,ι2,A2,acc,B,Ao,S2,s,c,L2,f,(p.trans t1).trans t2,q⟩
 | true =>
   rw[if_pos rfl] at q ⊢;refine⟨av,F2,ι2,A2,_,S2,a _ _ _,b.em _ _ _ _ _ (λ d ι3 q v H3 F3 Tv A3 J S3 M N=>?_) (λ _ _ z=>z) q⟩;obtain⟨O,l,L3,m,P⟩:=qx9 st s c L2 f S2 N M;obtain⟨Q,B',R,e2,U,n,L4,S4,o,W⟩:=qay8 st O l L3 S3 J m;exact⟨Q,R,by rw[e2];exact zAd q.1 qi7,F3,ι3,A3,acc++[d],B',Ao,S4,U,n,L4,o,((p.trans t1).trans t2).trans (P.trans W),q.2⟩
theorem qJ9{xs:List D}(f:∀ j,some j∈src->j < σ.length)(S:Sta c F H σ ds A)(n:Ok F H (T++A))(l:Pp F H)(st:Li Pp T)(h:H Dd=none)(q:Hg g qf te K xs [] (Bn src ds).1) :
   Mid src (B8 σ src) Pp T (σ++c.gv) (Bn src ds).2 Dd F H (T++A) g qf te K xs (B8 σ src) (upd H Dd (.lst [])):=by
 obtain⟨Ai,Ao,o,q2,p⟩:=qac6 S.loc f;have a:=Same.new (u:=.lst []) h;have r:=Kp.same (F:=F) a;have okN:Ok F (upd H Dd (.lst [])) ([Dd]++(T++A)):=(qg3 h).ok n (λ b d=>by
   rcases zAa.mp d with d | d
   . exact st.cells l b d
   exact S.loc.cells b d) a
 have m:∀ b,(Tot [Dd] T Ao Ai).count b=([Dd]++(T++A)).count b:=λ b=>by unfold Tot;simp only[zA0,p];lia
 have e:Ok F (upd H Dd (.lst [])) (Tot [Dd] T Ao Ai):=okN.count λ b=>by rw[m];exact zA3 _
 have k:Ok F (upd H Dd (.lst [])) Ai:=e.count λ b=>by unfold Tot;simp only[zA0];lia
 refine⟨F,_,Ai,[],[Dd],Ao,⟨by rw[zAg];exact o.same a,k,by simp,λ i _=>by simp⟩,.lst qb2 .nil,st.keep r (λ _ _=>id) l,q2.same a,e,((qg3 h).stp a).count λ b=>by rw[m];exact zA3 _,q⟩
theorem qK0{H':Hp}{Fz:Addr->Prop}{Hz:Hp}{Az:List Addr}(d:∀ j,some j∈src->j < σ.length)(S:Sta c Fz Hz σ ds Az)(m:Mid src (B8 σ src) Pp T (σ++c.gv) o0 Dd F0 H0 A0 g qf te (λ acc ι'=>∀ v H' F' B A',Rep F' H' v (.lst false acc) B->Sta c F' H' σ (Ho src ι' o0) A'->Pp F' H'->Ok F' H' (B++(T++A'))->Stp F0 H0 A0 F' H' (B++(T++A'))->Q v H') [] σ' H'):Q (.ref Dd) H':=by
 obtain⟨F,ι,A,acc,B,Ao,S1,r,k,L,l,s,q⟩:=m;have a:=S1.len;simp only[zAg] at a;obtain⟨A',n,o⟩:=qN2 (src:=src) (by have:=S1.loc;simpa using this) L d (λ i j e=>by
   have:=S1.ag i (by show capW src i=true;unfold capW;rw[e])
   simp only[zAg] at this;rw[this];exact qax8 e) (by rw[<- a,qax7])
 have f:∀ b,(B++(T++A')).count b<=(Tot B T Ao A).count b:=λ b=>by unfold Tot;simp only[zA0];have:=o b;lia
 have h:=l.count f;exact q (.ref Dd) H' F B A' r ⟨n,h.right.right,S.len,S.ag⟩ k h (s.count f)
theorem qt0{a:Addr}{ys:Ds}{T:List Addr}:Li (λ F H=>Rep F H (.ref a) (.lst z ys) T/\H a=some (.lst vs)) T where
 keep:=λ{F F' H H' W} k h p=>by
   refine⟨p.1.keep k h,?_⟩;cases p.1 with
   | lst _ _=>exact k.fr _ _ p.2 (h _ zAe)
   | lstZ _ f _=>exact k.fr _ _ p.2 λ w=>k.wf _ w f
 cells:=λ p=>p.1.cells
theorem qU6:Li (λ _ _=>True) [] where
 keep:=λ _ _ p=>p
 cells:=λ _ b a=>by cases a
theorem qaL6{a:Addr}{ys:Ds}{T:List Addr}{x:V}(r:Rep F H (.ref a) (.lst z ys) T)(h:H a=some (.lst vs))(hm:D.imms ys=true)(f:vs[i]? = some x):∃ y,ys[i]? = some y/\Rep F H x y []:=by
 obtain⟨k,g,Ael',j,b,c,_⟩:=r.lst_inv;cases j;rw[h] at b;cases b;obtain⟨y,B,d,e⟩:=c.getV f
 have:=e.imm (qv8 hm d)
 subst this;exact⟨y,d,e⟩
theorem qaK4{a:Addr}{ys:Ds}{T:List Addr}(r:Rep F H (.ref a) (.lst z ys) T)(h:H a=some (.lst vs)):vs.length=ys.length:=by
 obtain⟨f,d,Ael',e,b,c,_⟩:=r.lst_inv;cases e;rw[h] at b;cases b;exact c.len
theorem qO6{K':PySem.W.Frag}{a:Addr}{ys:Ds}{Q:Hp->Prop}(b:Blk X NY sc src tg ifs elt g qf te)(hm:D.imms ys=true)(m:Mid src av (λ F H=>Rep F H (.ref a) (.lst z ys) T/\H a=some (.lst vs)) T τ o0 Dd F0 H0 A0 g qf te K ys σ' H)(f:∀ σ2 H2,Mid src av (λ F H=>Rep F H (.ref a) (.lst z ys) T/\H a=some (.lst vs)) T τ o0 Dd F0 H0 A0 g qf te K [] σ2 H2->Q H2):qy3 (Itl K' a) (qq6 src g) (qq5 src qf) (Bk src te) Dd Q σ' H:=by
 obtain⟨_,_,_,_,_,_,_,_,c,_⟩:=id m;have d:=qaK4 c.1 c.2;refine qY0 (xs:=vs) (λ i σ H=>Mid src av (λ F H=>Rep F H (.ref a) (.lst z ys) T/\H a=some (.lst vs)) T τ o0 Dd F0 H0 A0 g qf te K (ys.drop i) σ H) m ?_ ?_ ?_
 . rintro i σ H _ ⟨_,_,_,_,_,_,_,_,e,_⟩
   exact .inl (.inl e.2)
 . rintro i x σ H h ⟨F,ι,A,j,B,Ao,S1,r,e,L,k,s,q⟩
   obtain⟨y,l,n⟩:=qaL6 e.1 e.2 hm h;rw[qn6 l] at q;exact qJ8 b qt0 S1 r e L k s n q
 intro σ H m;rw[d,List.drop_length] at m;exact f _ _ m
theorem qal8{K':PySem.W.Frag}{a:Addr}{ys:Ds}{Q:Hp->Prop}(b:Blk X NY sc src tg ifs elt g qf te)(hm:D.imms ys=true)(m:Mid src av (λ F H=>Rep F H (.ref a) (.lst z ys) T/\H a=some (.lst vs)) T τ o0 Dd F0 H0 A0 g qf te K (enD ys) σ' H)(o:∀ σ2 H2,Mid src av (λ F H=>Rep F H (.ref a) (.lst z ys) T/\H a=some (.lst vs)) T τ o0 Dd F0 H0 A0 g qf te K [] σ2 H2->Q H2):qy3 (Ite K' a) (qq6 src g) (qq5 src qf) (Bk src te) Dd Q σ' H:=by
 obtain⟨_,_,_,_,_,_,_,_,c,_⟩:=id m;have d:=qaK4 c.1 c.2;refine qaq3 (xs:=vs) (λ i σ H=>Mid src av (λ F H=>Rep F H (.ref a) (.lst z ys) T/\H a=some (.lst vs)) T τ o0 Dd F0 H0 A0 g qf te K ((enD ys).drop i) σ H) m ?_ ?_ ?_
 . rintro i σ H _ ⟨_,_,_,_,_,_,_,_,e,_⟩
   exact .inl (.inl e.2)
 . rintro i x σ H n p ⟨F,ι,A,t,B,Ao,S1,r,e,L,v,s,q⟩ f
   obtain⟨y,w,C⟩:=qaL6 e.1 e.2 hm p;rw[qn6 (qaU2 w)] at q;have h:=Same.new (u:=.tup [.int (i:Int),x]) f;have j:Rep F (upd H n (.tup [.int (i:Int),x])) (.ref n) (.tup [.int (i:Int),y]) []:=qag3 f (.cons (A:=[]) (B:=[]) (.int _) (.cons (A:=[]) (B:=[]) C .nil));obtain⟨E,k,L1,l,t1⟩:=qx9 qt0 r e L v S1 (Stp.same h) (S1.ok.same h);exact qJ8 b qt0 (S1.same h) E k L1 l (s.trans t1) j q
 intro σ H m;rw[List.drop_of_length_le (by rw[qaC6,d];exact zA3 _)] at m;exact o _ _ m
theorem qav7{Q:Hp->Prop}(b:Blk X NY sc src tg ifs elt g qf te)(m:Mid src av (λ _ _=>True) [] τ o0 Dd F0 H0 A0 g qf te K (Bl lo n) σ' H)(a:∀ σ2 H2,Mid src av (λ _ _=>True) [] τ o0 Dd F0 H0 A0 g qf te K [] σ2 H2->Q H2):qy3 (Itr lo n) (qq6 src g) (qq5 src qf) (Bk src te) Dd Q σ' H:=by
 refine qaj9 (λ i σ H=>Mid src av (λ _ _=>True) [] τ o0 Dd F0 H0 A0 g qf te K ((Bl lo n).drop i) σ H) m ?_ ?_
 . rintro i σ H c ⟨F,ι,A,d,B,Ao,S1,r,e,L,f,s,q⟩
   rw[qn6 (qU9 c)] at q;exact qJ8 b qU6 S1 r e L f s (.int _) q
 intro σ H m;rw[List.drop_of_length_le (by rw[qas2];exact zA3 _)] at m;exact a _ _ m
end
def Imp(c:Vc)(X:Cx)(t:VT)(tc:TE):Prop:=∀ Gm s σ H Q,Inv X Gm σ H s->Bd c t σ H Q->tc σ H Q
def Jf(t:VT):Prop:=∀ ds (Q Q':DK) (xe xe':XKd),(∀ d a,Q d a->Q' d a)->(∀ x a,xe x a->xe' x a)->t ds Q xe->t ds Q' xe'
section
variable{c:Vc}{X:Cx}{NY:List Str}{sc:Scope}{src:List (Option Nat)}{tg elt e o:Expr}{ifs:List Expr}{g:VTG}{qf:VTT}{te t0:VT}{pf:PF}
theorem Ms{tc:TE}{t:VT}(h:PE X e tc)(i:Imp c X t tc)(m:Jf t):VE c X e t:=⟨λ Gm s σ H Q I q=>h Gm s σ H Q I (i Gm s σ H Q I q),m⟩
theorem qaO4{tc:TE}{t:VT}{x:Str}{px spos:Pos}(h:PS X (.Assign [.Name x px] e spos) (K6 tc (Hx i)))(j:Imp c X t tc)(m:Jf t)(k:c.W i=false)(hi:X.N[i]? = some x):VS c X (.Assign [.Name x px] e spos) (Hu t (gNm i)):=by
 refine⟨λ Gm s σ H E I q=>h Gm s σ H E I (j Gm s σ H _ I ?_),λ b n f g=>m _ _ _ _ _ (λ d a=>g.nx _) g.xe⟩;obtain⟨F,f,A,b,S,l,q⟩:=q;refine⟨F,f,A,b.xe,S,l.xe,m _ _ _ _ _ (λ d a q v H' F' T A' r S' o p=>?_) (λ _ _ z=>z) q⟩;obtain⟨A2,S2,u⟩:=S'.store k (qo2 hi Gm σ H s I) r o;exact l.nx _ _ H' F' A2 q S2 (p.trans u)
def Jg(src:List (Option Nat))(g:VTG)(qf:VTT)(te:VT)(ys:List D):Ds->DK->Prop:=λ ds1 Q=>Hg g qf te (λ acc ι'=>Q (.lst false acc) (Ho src ι' (Bn src ds1).2)) ys [] (Bn src ds1).1
theorem qK5(b:Blk X NY sc src tg ifs elt g qf te){ys:List D}{ds1:Ds}{Q Q':DK}(h:∀ d a,Q d a->Q' d a):Jg src g qf te ys ds1 Q->Jg src g qf te ys ds1 Q':=ql1 b (λ c ι=>h _ _) _ _ _
def tCL(src:List (Option Nat))(t0:VT)(g:VTG)(qf:VTT)(te:VT):VT:=λ ds Q xe=>t0 ds (λ d ds1=>orF d.lstOf λ ys=>D.imms ys=true/\Jg src g qf te ys ds1 Q) xe
theorem qaw2(b:Blk X NY sc src tg ifs elt g qf te)(hi:VE c X e t0):Jf (tCL src t0 g qf te):=λ j Q Q' k a f h=>hi.m _ _ _ _ _ (λ d i=>qa5 λ l=>And.imp_right (qK5 b f)) h
theorem qaT7{K:PySem.W.Frag}(b:Blk X NY sc src tg ifs elt g qf te)(hi:VE c X e t0):Imp c X (tCL src t0 g qf te) (Hd (Ko K (Bd c t0)) src (qq6 src g) (qq5 src qf) (Bk src te)):=by
 rintro Gm s σ H Q I ⟨F,k,A,l,S,x,q⟩;have f:=b.lt Gm σ H s I;refine⟨F,k,A,l,S,x,hi.m _ _ _ _ _ (λ d n q v H1 F1 T A1 i S1 o p=>?_) (λ _ _ z=>z) q⟩;obtain⟨E,t,u,h⟩:=qa7.mp q;obtain⟨z,rfl⟩:=qB0 t;obtain⟨a,w,Ael,rfl,j,G,_⟩:=i.lst_inv;refine⟨a,rfl,⟨w,.inl (.inl j)⟩,λ Dd y=>qO6 b u (qJ9 f S1 o ⟨i,j⟩ qt0 y (ql1 b (λ C ι q v H' F' B A' r S' _ D s=>q v H' F' B A' r S' (D.count λ b=>by simp only[zA0];lia) ((p.trans s).count λ b=>by simp only[zA0];lia)) _ _ _ h)) λ σ2 H2 m=>qK0 f S1 m⟩
def tCPx(en:Ds->List D)(src:List (Option Nat))(pf:PF)(g:VTG)(qf:VTT)(te:VT):VT:=λ ds Q xe=>orF (pf ds) λ q=>orF (Ay ds q.1 q.2) λ d=>orF d.lstOf λ ys=>D.imms ys=true/\∀ w,Hg g qf te (λ acc ι'=>orF (bk1 q.1 q.2 w d (Ho src ι' (Bn src (A7 ds q.1 q.2 (.hole w))).2)) λ a=>Q (.lst false acc) a) (en ys) [] (Bn src (A7 ds q.1 q.2 (.hole w))).1
theorem qam1{en:Ds->List D}(b:Blk X NY sc src tg ifs elt g qf te):Jf (tCPx en src pf g qf te):=λ f Q Q' i a c j=>qa5 λ q=>qa5 λ d=>qa5 λ k=>And.imp_right λ h w=>ql1 b (λ e ι=>qa5 λ z=>c _ _) _ _ _ (h w)
theorem qaN2{K:PySem.W.Frag}{en:Ds->List D}{wi:TI}{J:Addr->It}(b:Blk X NY sc src tg ifs elt g qf te)(M:∀{a:Addr}{vs:List V}{z:Bool}{ys:Ds}{T:List Addr}{τ:List (Option V)}{o0:Ds}{Dd:Addr}{F0:Addr->Prop}{H0 H:Hp}{A0:List Addr}{K0:Ds->Ds->Prop}{av:List (Option V)}{Q:Hp->Prop}{σ':St},D.imms ys=true->Mid src av (λ F H=>Rep F H (.ref a) (.lst z ys) T/\H a=some (.lst vs)) T τ o0 Dd F0 H0 A0 g qf te K0 (en ys) σ' H ->
     (∀ σ2 H2,Mid src av (λ F H=>Rep F H (.ref a) (.lst z ys) T/\H a=some (.lst vs)) T τ o0 Dd F0 H0 A0 g qf te K0 [] σ2 H2->Q H2)->qy3 (J a) (qq6 src g) (qq5 src qf) (Bk src te) Dd Q σ' H)(j:∀ σ H R,J0 c pf σ H (λ x H1=>∃ a,x=.ref a/\(∃ xs,SqL K H1 a xs)/\R (J a) H1)->wi σ H R):Imp c X (tCPx en src pf g qf te) (Hd wi src (qq6 src g) (qq5 src qf) (Bk src te)):=by
 rintro Gm s σ H Q I ⟨F,t,A,xe,S,x,q⟩;have h:=b.lt Gm σ H s I;refine j σ H _ ?_;obtain⟨⟨i,p⟩,N,q⟩:=qa7.mp q;obtain⟨d,e2,q⟩:=qa7.mp q;obtain⟨ys,O,P,q⟩:=qa7.mp q;obtain⟨z,rfl⟩:=qB0 O;refine⟨F,t,A,i,p,_,S,N,e2,D.noConfusion,λ u w H1 U k l=>?_⟩;obtain⟨B,C,r,y,Y⟩:=(S.same l).place e2 D.noConfusion U k;obtain⟨A1,Z,q2⟩:=Y (.hole w) [] (Kp.same (F:=F) λ _ _ z=>z) (λ _ _ z=>z) (.hole w);have E:Ok F H1 (B++A1):=(S.same l).ok.count λ b=>by rw[zA0,q2,y];simp
 have s1:Stp F H A F H1 (B++A1):=⟨λ b o e _=>l b o e,λ b o e z=>by rw[zA0,q2];have:=y b;simp;lia,λ _ f=>f,λ _ _ _ _ f=>f⟩
 have S1:Sta c F H1 σ (A7 t i p (.hole w)) A1:=⟨Z,E.right,S.len,S.ag⟩
 obtain⟨a,vs,Ael,rfl,G,rs,_⟩:=r.lst_inv;refine⟨a,rfl,⟨vs,.inl (.inl G)⟩,λ Dd hD=>M P (qJ9 h S1 E ⟨r,G⟩ qt0 hD (ql1 b (λ a0 ι q v H' F' B' A' rv S' hp L s=>?_) _ _ _ (q (.ref a)))) λ σ2 H2 m=>qK0 h S1 m⟩;obtain⟨a1,eb,q⟩:=qa7.mp q;obtain⟨A2,k1,k2⟩:=qw6 (pls:=[.pl i p (.ref a)]) (vs:=[.ref a]) (more:=[]) (ys:=[.lst z ys]) (.so .nil) (.cons hp.1 .nil) S'.loc eb;have n:∀ b,(B'++A2).count b<=(B'++(B++A')).count b:=λ b=>by have:=k2 b;simp only[zAg,zA0] at *;lia
 exact q v H' F' B' A2 rv ⟨k1,(L.count n).right,S.len,S.ag⟩ (L.count n) ((s1.trans s).count n)
theorem qaT5{K:PySem.W.Frag}(b:Blk X NY sc src tg ifs elt g qf te):Imp c X (tCPx (λ ys=>ys) src pf g qf te) (Hd (Ko K (J0 c pf)) src (qq6 src g) (qq5 src qf) (Bk src te)) :=
 qaN2 (K:=K) (J:=Itl K) b (λ a m d=>qO6 b a m d) λ σ H R h=>h
def Mt(src:List (Option Nat))(tr:VTA)(g:VTG)(qf:VTT)(te:VT):VT:=λ ds Q xe=>tr ds (λ xs ds1=>orF (Mq xs) λ j=>Ij j=true/\Jg src g qf te (Bl 0 j.toNat) ds1 Q) xe
theorem qU2{es:List Expr}{tr:VTA}(b:Blk X NY sc src tg ifs elt g qf te)(hi:VOs c X es tr):Jf (Mt src tr g qf te):=λ i Q Q' j a e f=>hi.m _ _ _ _ _ (λ d h=>qa5 λ k=>And.imp_right (qK5 b e)) f
theorem qax2{F:Addr->Prop}{H:Hp}{A:List Addr}{F1:Addr->Prop}{H1:Hp}{A1:List Addr}{σ:St}{ds1:Ds}(b:Blk X NY sc src tg ifs elt g qf te)(a:∀ j,some j∈src->j < σ.length)(S1:Sta c F1 H1 σ ds1 A1)(f:Stp F H A F1 H1 A1)(q:Jg src g qf te (Bl lo n) ds1 (λ d e=>∀ v H' F' T A',Rep F' H' v d T->Sta c F' H' σ e A'->Ok F' H' (T++A')->Stp F H A F' H' (T++A')->Q v H')):∀ Dd,H1 Dd=none->qy3 (Itr lo n) (qq6 src g) (qq5 src qf) (Bk src te) Dd (λ H'=>Q (.ref Dd) H') (B8 σ src) (upd H1 Dd (.lst [])):=λ Dd h =>
 qav7 b (qJ9 (T:=[]) a S1 S1.ok trivial qU6 h (ql1 b (λ i ι q v H' F' B A' r S' _ k s=>q v H' F' B A' r S' k (f.trans s)) _ _ _ q)) λ σ2 H2 m=>qK0 a S1 m
theorem qat9{es:List Expr}{tr:VTA}(b:Blk X NY sc src tg ifs elt g qf te)(hi:VOs c X es tr):Imp c X (Mt src tr g qf te) (Hd (iRng1 (qaA3 c tr)) src (qq6 src g) (qq5 src qf) (Bk src te)):=by
 rintro Gm s σ H Q I ⟨F,e,A,f,S,x,q⟩;have a:=b.lt Gm σ H s I;refine⟨F,e,A,f,S,x,hi.m _ _ _ _ _ (λ p h q r H1 F1 T A1 i S1 k=>?_) (λ _ _ z=>z) q⟩;obtain⟨j,l,n,d⟩:=qa7.mp q;cases qat1 l;obtain⟨v,rfl,o⟩:=i.one_inv;cases o
 have:=qv5 n
 exact⟨j,rfl,this.1,this.2,qax2 b a S1 k d⟩
noncomputable def capOk(X:Cx)(src:List (Option Nat)):Bool:=src.all λ o=>match o with | none=>true | some j=>decide (j < X.N.length)
theorem blk(b:∀ av C a H0 ex,VG (cIn src av) (qj4 X NY sc C a H0 ex) tg g)(c:∀ av C a H0 ex,VF (cIn src av) (qj4 X NY sc C a H0 ex) ifs qf)(d:∀ av C a H0 ex,VE (cIn src av) (qj4 X NY sc C a H0 ex) elt te)(e:capOk X src=true:=by rfl):Blk X NY sc src tg ifs elt g qf te :=
 ⟨b,c,d,λ Gm σ H s I j f=>by
   have:=zB2.mp e _ f
   rw[I.len];exact zA9 this⟩
end
theorem qI8{X:Cx}{NY:List Str}{sc:Scope}{C:Addr}{a:Shared}{H0:Hp}{ex:List Addr}{src:List (Option Nat)}{av:List (Option V)}:Lands (qj4 X NY sc C a H0 ex) (cIn src av).E:=λ _ _ _ _ _ _ _ _ _ z=>z.elim
section
variable{c:Vc}{X:Cx}{NY:List Str}{sc:Scope}{src:List (Option Nat)}{tg elt iter a:Expr}{ifs:List Expr}{g:VTG}{qf:VTT}{te t0:VT}{pos px spos:Pos}{pf:PF}{x:Str}
theorem ecL(hi:VE c X iter t0)(a:Blk X NY sc src tg ifs elt g qf te)(b:X.calm=true:=by rfl)(d:qx5 X NY src sc=true:=by rfl)(e:∀ x,foldedSetIterable iter X.env x=pure x:=by intro _;rfl):VE c X (.ListComp elt [⟨tg,iter,ifs,0⟩] sc pos) (tCL src t0 g qf te) :=
 Ms (qE9 NY src (qE8 hi.h) a.pg a.pf a.pe b d e) (qaT7 a hi) (qaw2 a hi)
theorem ecP(hi:VP c X iter pf)(a:Blk X NY sc src tg ifs elt g qf te)(b:X.calm=true:=by rfl)(d:qx5 X NY src sc=true:=by rfl)(e:∀ x,foldedSetIterable iter X.env x=pure x:=by intro _;rfl):VE c X (.ListComp elt [⟨tg,iter,ifs,0⟩] sc pos) (tCPx (λ ys=>ys) src pf g qf te) :=
 Ms (qE9 NY src (qE8 hi.h) a.pg a.pf a.pe b d e) (qaT5 a) (qam1 a)
theorem ecR1{tr:VTA}{p cpos:Pos}(hm:X.mg "range" = none)(d:VOs c X [a] tr)(b:Blk X NY sc src tg ifs elt g qf te)(e:Gl X "range" := by rfl)(f:starEach [a] X.env=[(false,eval a X.env)]:=by rfl)(i:X.calm=true:=by rfl)(j:qx5 X NY src sc=true:=by rfl)(k:∀ x,foldedSetIterable (.Call (.Name "range" p) [a] [] cpos) X.env x=pure x:=by intro _;rfl):VE c X (.ListComp elt [⟨tg,.Call (.Name "range" p) [a] [] cpos,ifs,0⟩] sc pos) (Mt src tr g qf te) :=
 Ms (qE9 NY src (qH9 e hm d.h f) b.pg b.pf b.pe i j k) (qat9 b d) (qU2 b d)
theorem scR1{tr:VTA}{p cpos:Pos}(i:Nat)(m:X.N.Nodup)(hm:X.mg "range" = none)(e:VOs c X [a] tr)(b:Blk X NY sc src tg ifs elt g qf te)(n:c.W i=false:=by rfl)(f:Gl X "range" := by rfl)(j:starEach [a] X.env=[(false,eval a X.env)]:=by rfl)(d:X.N[i]? = some x:=by rfl)(o:Loc X.env.scope x:=by first | exact Or.inl rfl | exact Or.inr rfl)(q:X.calm=true:=by rfl)(r:qx5 X NY src sc=true:=by rfl)(k:swapsWith (.ListComp elt [⟨tg,.Call (.Name "range" p) [a] [] cpos,ifs,0⟩] sc pos) (some (.Name x px)) spos.line X.env=pure true:=by rfl)(s:∀ x,foldedSetIterable (.Call (.Name "range" p) [a] [] cpos) X.env x=pure x:=by intro _;rfl)(l:X.fn x=true∨X.env.scope.names.lookup x=some .local:=by first | exact .inl rfl | exact .inr rfl | assumption):VS c X (.Assign [.Name x px] (.ListComp elt [⟨tg,.Call (.Name "range" p) [a] [] cpos,ifs,0⟩] sc pos) spos) (Hu (Mt src tr g qf te) (gNm i)) :=
 qaO4 (qaG7 i NY src m (qH9 f hm e.h j) b.pg b.pf b.pe d o q r k s l) (qat9 b e) (qU2 b e) n d
end
section
variable{c:Vc}{X:Cx}{es:List Expr}{tb:VTB}
def Mu(tb:VTB):VTA:=λ ds Q xe=>tb ds (λ xs _ ds1=>Q xs ds1) xe
theorem Ik(h:VAs c X es tb):VOs c X es (Mu tb):=⟨PA.mono h.h λ σ H Q ⟨F,d,A,e,S,x,q⟩=>⟨F,d,A,e,S,x,h.m _ _ _ _ _ (λ f g a q i H' F' T A' r _ S' o s=>q i H' F' T A' r S' (s.count λ b=>by rw[zA0];lia)) (λ _ _ z=>z) q⟩,λ d Q Q' e j k l=>h.m _ _ _ _ _ (λ f g a=>k _ _) l⟩
end
structure Bg(x y z:Int)(ns:List Int):Prop where
 x0:0<=x
 y0:0<=y
 y1:y < 2147483647
 z0:0<=z
 nn:∀ n∈ns,0<=n
noncomputable def bagD(x y z:Int)(ns:List Int):D:=.lst false [.int x,.int y,.int z,.lst false (ns.map .int)]
def lawE:VEnds where
 nx _:=False
 rt d _:=d.asB=some true
 bk _:=False
 ct _:=False
 xe _ _:=False
theorem qan9{c:Vc}{X:Cx}{rest:List Stmt}{t:VTS}{H:Hp}{E:Bo}{p L:Addr}{x y z:Int}{ns:List Int}(e:c.av.length=2+n)(k:∀ i,c.W i=false)(a:c.gv=[])(l:H p=some (.lst [.int x,.int y,.int z,.ref L]))(m:H L=some (.lst (ns.map V.int)))(o:L≠p)(s:∀ H',E.rt (.bl true) H')(u:t lawE (.hole w::bagD x y z ns::List.replicate n .unk)):Hf c t E (some w::some (.ref p)::List.replicate n none) H:=by
 have L0:Locs (λ _=>False) H (some w::some (.ref p)::List.replicate n none) (.hole w::bagD x y z ns::List.replicate n .unk) ([]++((p::([]++([]++([]++((L::[])++[])))))++[])) :=
   .so (.hole w) (.so (.lst l (.cons (.int x) (.cons (.int y) (.cons (.int z) (.cons (.lst m (qH8 ns)) .nil))))) (qI7 n))
 refine⟨λ _=>False,_,_,lawE,⟨by rw[a,zAg];exact L0,⟨λ b=>?_,λ b f=>f.elim,λ b f=>f.elim⟩,by rw[a,e];simp;lia,λ i h=>by rw[k i] at h;cases h⟩,⟨λ _ _ _ _ _ z=>False.elim z,λ d A v σ' H' F' T A' q r _ _ _=>by rw[r.asB q];exact s H',λ _ _ _ _ _ z=>False.elim z,λ _ _ _ _ _ z=>False.elim z,λ _ _ _ _ _ _ _ z=>False.elim z⟩,u⟩;simp only[zBh,zAg,zAk,List.count_nil];by_cases g:p=b
 . subst g;simp[o]
 by_cases j:L=b
 . subst j;simp[g]
 simp[g,j]
section
variable{c:Vc}{b d e o:Expr}{oa ob oc:Bool}{fa fb fc:FV}
def f3(g g':D->D->Option D)(fa fb fc:FV):FV:=λ ds=>(fa ds).bind λ x=>(fb ds).bind λ y=>(g x y).bind λ z=>z.asB.bind λ k=>if k=true then (fc ds).bind λ u=>g' y u else some (.bl false)
theorem qaD1{r l:R2}{g g':D->D->Option D}(h:A6 true r g)(h':A6 true l g'):∀ σ H Q,liftV c true (f3 g g' fa fb fc) σ H Q->qaE8 r l (liftV c oa fa) (liftV c ob fb) (liftV c oc fc) σ H Q:=by
 rintro σ H Q ⟨F,f,A,d,S,e,q⟩;obtain⟨x,C,e⟩:=zA1.mp e;obtain⟨y,e2,e⟩:=zA1.mp e;obtain⟨z,E,e⟩:=zA1.mp e;obtain⟨k,G,e⟩:=zA1.mp e;refine⟨F,f,A,x,S,C,λ v H1 B1 I m T=>⟨F,f,A,y,S.same m,e2,λ w H2 B2 n p U=>?_⟩⟩;have i:=m.trans p;refine h F H2 v w x y _ z _ (Jo (I.same p) n) E λ u H3 B3 J s V=>⟨k,J.asB G,?_⟩
 have a:=i.trans s;cases k with
 | false=>rw[if_neg (by decide)] at e ⊢;cases e;exact q _ H3 [] (.bl _) a λ _=>New.nil
 | true =>
   rw[if_pos rfl] at e ⊢;obtain⟨t,K,L⟩:=zA1.mp e;refine⟨F,f,A,t,S.same a,K,λ M H4 B4 N j W=>?_⟩;refine h' F H4 w M y t _ d Q (Jo ((n.same s).same j) N) L λ O H5 B5 P R B=>q O H5 B5 P ((a.trans j).trans R) λ _=>⟨B.one,λ b o e=>B.new b o (j b o (a b o e))⟩
end
section
variable{c:Vc}{X:Cx}{a b d e:Expr}{pos:Pos}{oa ob oc:Bool}{fa fb fc:FV}
theorem vch{e:CmpOp}{r i:R2}{g g':D->D->Option D}(j:OpR X (compareOp op) r)(h:A6 true r g)(f:OpR X (compareOp e) i)(h':A6 true i g')(k:VV c X a oa fa)(l:VV c X b ob fb)(m:VV c X d oc fc)(hm:lastMarks [op,e] [b,d]=false:=by with_unfolding_all rfl) :
   VV c X (.Compare a [op,e] [b,d] pos) true (f3 g g' fa fb fc):=⟨PE.mono (qay5 j f k.h l.h m.h hm) (qaD1 h h')⟩
def Kz(x:D):Option D:=match x with
 | .lst _ ys=>(intsD ys).bind λ a=>gd (a.length<=1000) (.int (qn0 a))
 | _=>none
theorem vlenS{p p2 cpos:Pos}(g:X.mg "len" = none)(i:X.mg "set" = none)(o:VV c X a oa fa)(j:Gl X "len" := by rfl)(k:Gl X "set" := by rfl)(r:X.calm=true:=by rfl)(n:starEach [a] X.env=(false,eval a X.env)::starEach [] X.env:=by rfl)(l:((backTo cpos (starEach [] X.env)).any λ x=>x.1)=false:=by rfl)(b:starEach [.Call (.Name "set" p2) [a] [] cpos] X.env=(false,eval (.Call (.Name "set" p2) [a] [] cpos) X.env)::starEach [] X.env:=by rfl)(f:((backTo pos (starEach [] X.env)).any λ x=>x.1)=false:=by rfl) :
   VV c X (.Call (.Name "len" p) [.Call (.Name "set" p2) [a] [] cpos] [] pos) true (f1 Kz fa):=by
 refine⟨PE.mono (cbi qaq7 g (qe3 (cty (qaq4 r) i (qe3 o.h qv1 n) k (by rfl) (by decide) (by decide) n l) qv1 b) j (by rfl) (by decide) (by decide) b f) λ σ H Q m=>?_⟩;obtain⟨F,s,A,d,S,e,q⟩:=m;obtain⟨x,t,e2⟩:=qap1.mp e;cases x with
 | lst z J =>
   obtain⟨u,w,y⟩:=zA1.mp e2;obtain⟨B,rfl⟩:=qv9 y;refine⟨F,s,A,_,S,t,λ v H1 B1 C D K=>?_⟩;obtain⟨a,L,A2,rfl,E,G,_⟩:=C.lst_inv;cases G.intsD w;refine⟨a,u,rfl,.inl (.inl E),B,λ p St I=>⟨p,St,_,rfl,qb2,?_⟩⟩;exact q _ _ [] (.int _) (D.trans (Same.new I)) λ _=>New.nil
 | _=>cases e2
def Bu(f:Ds->Option D):VSp:=λ ds Q _=>orF (f ds) λ d=>Q d ds
theorem qy0{f:Ds->Option D}:Bj (Bu f):=λ a Q Q' e b c _=>qa5 λ d=>c d a
noncomputable def wOf(l:List Bool)(i:Nat):Bool:=l.getD i false
end
section
variable{c:Vc}{X:Cx}{NY:List Str}{sc:Scope}{src:List (Option Nat)}{tg elt e o a b:Expr}{ifs:List Expr}{g:VTG}{qf:VTT}{te:VT}{pos p0:Pos}{x xn:Str}
def Lj(en:Ds->List D)(src:List (Option Nat))(i:Nat)(g:VTG)(qf:VTT)(te:VT):VT:=λ ds Q xe=>orF (rdN i ds) λ d=>orF d.lstOf λ ys=>D.imms ys=true/\Hg g qf te (λ acc ι'=>Q (.lst false acc) ((Ho src ι' (Bn src (ds.set i .unk)).2).set i d)) (en ys) [] (Bn src (ds.set i .unk)).1
theorem qU3{en:Ds->List D}(a:Blk X NY sc src tg ifs elt g qf te):Jf (Lj en src i g qf te):=λ f Q Q' h b c j=>qa5 λ d=>qa5 λ k=>And.imp_right (ql1 a (λ e ι=>c _ _) _ _ _)
theorem qav3{K:PySem.W.Frag}{en:Ds->List D}{wi:TI}{J:Addr->It}(r:Blk X NY sc src tg ifs elt g qf te)(G:X.N[i]? = some xn)(L:∀{a:Addr}{vs:List V}{z:Bool}{ys:Ds}{T:List Addr}{τ:List (Option V)}{o0:Ds}{Dd:Addr}{F0:Addr->Prop}{H0 H:Hp}{A0:List Addr}{K0:Ds->Ds->Prop}{av:List (Option V)}{Q:Hp->Prop}{σ':St},D.imms ys=true->Mid src av (λ F H=>Rep F H (.ref a) (.lst z ys) T/\H a=some (.lst vs)) T τ o0 Dd F0 H0 A0 g qf te K0 (en ys) σ' H ->
     (∀ σ2 H2,Mid src av (λ F H=>Rep F H (.ref a) (.lst z ys) T/\H a=some (.lst vs)) T τ o0 Dd F0 H0 A0 g qf te K0 [] σ2 H2->Q H2)->qy3 (J a) (qq6 src g) (qq5 src qf) (Bk src te) Dd Q σ' H)(j:∀ σ H R,Ir i σ H (λ x H1=>∃ a,x=.ref a/\(∃ xs,SqL K H1 a xs)/\R (J a) H1)->wi σ H R):Imp c X (Lj en src i g qf te) (Hd wi src (qq6 src g) (qq5 src qf) (Bk src te)):=by
 rintro Gm s σ H Q I ⟨F,M,A,xe,S,x,q⟩;have h:=r.lt Gm σ H s I;have O:=qo2 G Gm σ H s I;refine j σ H _ ?_;obtain⟨d,k,q⟩:=qa7.mp q;obtain⟨k,hk⟩:=qo7.mp k;obtain⟨ys,P,U,q⟩:=qa7.mp q;obtain⟨z,rfl⟩:=qB0 P;obtain⟨v,B,C,l,t,u,Y⟩:=S.put1 k D.noConfusion;have n:=l;rw[zAr O] at l;obtain⟨A1,Z,q2⟩:=Y .unk [] (Kp.same (F:=F) λ _ _ z=>z) (λ _ _ z=>z) (.unk v);have w:Ok F H (B++A1):=S.ok.count λ b=>by rw[zA0,q2,u];simp
 have s1:Stp F H A F H (B++A1):=⟨λ b o e _=>e,λ b o e z=>by rw[zA0,q2];have:=u b;simp;lia,λ _ f=>f,λ _ _ _ _ f=>f⟩
 have S1:Sta c F H σ (M.set i .unk) A1:=⟨Z,w.right,S.len,S.ag⟩
 obtain⟨a,vs,Ael,rfl,y,rs,_⟩:=t.lst_inv;refine⟨.ref a,l,a,rfl,⟨vs,.inl (.inl y)⟩,λ Dd hD=>L U (qJ9 h S1 w ⟨t,y⟩ qt0 hD (ql1 r (λ a0 ι q v H' F' B' A' rv S' hp E s=>?_) _ _ _ q)) λ σ2 H2 m=>qK0 h S1 m⟩;obtain⟨A2,k1,k2⟩:=qG8 S'.loc n hp.1;have p:∀ b,(B'++A2).count b<=(B'++(B++A')).count b:=λ b=>by have:=k2 b;simp only[zA0] at *;lia
 exact q v H' F' B' A2 rv ⟨k1,(E.count p).right,S.len,S.ag⟩ (E.count p) ((s1.trans s).count p)
theorem qaT6{K:PySem.W.Frag}(a:Blk X NY sc src tg ifs elt g qf te)(b:X.N[i]? = some xn):Imp c X (Lj (λ ys=>ys) src i g qf te) (Hd (Ko K (Ir i)) src (qq6 src g) (qq5 src qf) (Bk src te)) :=
 qav3 (K:=K) (J:=Itl K) a b (λ d m e=>qO6 a d m e) λ σ H R h=>h
theorem qaL3{K:PySem.W.Frag}(b:Blk X NY sc src tg ifs elt g qf te)(d:X.N[i]? = some xn):Imp c X (Lj enD src i g qf te) (Hd (iEnum K (tCons (Ir i) tNil)) src (qq6 src g) (qq5 src qf) (Bk src te)) :=
 qav3 (K:=K) (J:=Ite K) b d (λ f m h=>qal8 b f m h) λ σ H R ⟨v,j,a,e,k,l⟩=>⟨v,j,a,by rw[e],k,l⟩
theorem ecN(i:Nat)(a:Blk X NY sc src tg ifs elt g qf te)(d:X.N[i]? = some xn:=by rfl)(e:Vis X.env.scope xn:=by first | exact Or.inl rfl | exact Or.inr (Or.inl rfl) | exact Or.inr (Or.inr rfl))(f:(xn == ("__debug__" : Str))=false:=by decide)(b:(xn == ("__classdict__" : Str))=false:=by decide)(h:X.calm=true:=by rfl)(j:qx5 X NY src sc=true:=by rfl)(k:∀ x,foldedSetIterable (.Name xn p0) X.env x=pure x:=by intro _;rfl):VE c X (.ListComp elt [⟨tg,.Name xn p0,ifs,0⟩] sc pos) (Lj (λ ys=>ys) src i g qf te) :=
 Ms (qE9 NY src (qE8 (qu9 d e f b)) a.pg a.pf a.pe h j k) (qaT6 a d) (qU3 a)
theorem ecEN(i:Nat){elts:List Expr}{f:Nat}{p cpos tpos:Pos}(hm:X.mg "enumerate" = none)(a:Blk X NY sc src (.Tuple elts f tpos) ifs elt g qf te)(h:X.N[i]? = some xn:=by rfl)(j:Vis X.env.scope xn:=by first | exact Or.inl rfl | exact Or.inr (Or.inl rfl) | exact Or.inr (Or.inr rfl))(k:(xn == ("__debug__" : Str))=false:=by decide)(d:(xn == ("__classdict__" : Str))=false:=by decide)(e:Gl X "enumerate" := by rfl)(b:starEach [.Name xn p0] X.env=[(false,eval (.Name xn p0) X.env)]:=by rfl)(l:X.calm=true:=by rfl)(m:qx5 X NY src sc=true:=by rfl)(n:∀ x,foldedSetIterable (.Call (.Name "enumerate" p) [.Name xn p0] [] cpos) X.env x=pure x:=by intro _;rfl):VE c X (.ListComp elt [⟨.Tuple elts f tpos,.Call (.Name "enumerate" p) [.Name xn p0] [] cpos,ifs,0⟩] sc pos) (Lj enD src i g qf te) :=
 Ms (qE9 NY src (qaH0 e hm (qe3 (qu9 h j k d) qv1 b) b) a.pg a.pf a.pe l m n) (qaL3 a h) (qU3 a)
theorem qaN7{d0:D}{ds:Ds}(h:ds[i]? = some (.hole w)):bk1 i [] w d0 ds=some (ds.set i d0):=by
 unfold bk1 Aj;rw[qJ4 h];simp only[if_true];unfold Aj;rw[qG9 h]
theorem qC1{g:VTG}{qf:VTT}{te:VT}{K:Ds->Ds->Prop}(I:Ds->Prop)(f:D->Option D):∀(xs:List D)(acc ι:Ds),acc.length+xs.length < big->I ι->(∀ x∈xs,∀ ι acc,I ι->∀ R:Ds->Ds->Prop,(∀ ι',I ι'->R (acc++(f x).toList) ι')->acc.length < big->g x ι λ ι1=>qf ι1 (λ b ι2=>if b=true then te ι2 (λ d ι3=>acc.length < big/\R (acc++[d]) ι3) (λ _ _=>False) else R acc ι2) (λ _ _=>False))->(∀ ι',I ι'->K (acc++xs.filterMap f) ι')->Hg g qf te K xs acc ι
 | [],acc,ι,_,h,_,hK=>by
   have:=hK ι h
   rw[List.filterMap_nil,zAg] at this;exact this
 | x::xs,acc,ι,hl,h,hs,hK=>by
   refine hs x zAe ι acc h (λ a i=>Hg g qf te K xs a i) (λ ι' hι=>?_) (by simp at hl;lia);refine qC1 I f xs _ ι' ?_ hι (λ y e=>hs y (zA6 _ e)) λ ι2 j=>?_
   . cases c:f x with
     | none=>simp at hl ⊢;lia
     | some y=>simp at hl ⊢;lia
   have:=hK ι2 j
   rw[zBt] at this;cases c:f x with
   | none=>rw[c] at this;simpa using this
   | some y=>rw[c] at this;simpa using this
end
def Mv(C:Addr)(fl:Str):Sp:=λ vs H Q _=>∃(e:Addr)(v:V),vs=[.ref e,v]/\H e=some (Be e C none true)/\∀ dx,H dx=none->dx≠e->Q .non (upd (upd H dx (XD dx [(fl,v)])) e (Be e C (some dx) true))
section
variable{c:Vc}{X:Cx}{e:Expr}{te:VT}{pos cpos np:Pos}{k:Nat}{f C:Addr}{fd:FuncData}{ps:List Str}{x fl:Str}
def qas0(C:Addr)(fl:Str)(te:VT):VTS:=λ e ds=>te ds (λ d a=>d.imm=true/\e.xe ⟨C,[(fl,d)]⟩ a) e.xe
theorem qj6(M:MkE X.K C f)(Fn:B7 X.prog X.w X.K X.mg X.base CX0 k f fd ps (Mv C fl))(N:Room (k+1) X.A)(hm:X.mg x=some (.ref C))(O:Binds X.K fd ps [])(P:Lands X c.E)(n:VE c X e te)(Q:Gl X x:=by rfl)(p:(x == ("__debug__" : Str))=false:=by decide)(J:starEach [e] X.env=(false,eval e X.env)::starEach [] X.env:=by rfl)(t:(backTo cpos (starEach [] X.env)).any (·.1)=false:=by rfl) :
   VS c X (.Raise (some (.Call (.Name x np) [e] [] cpos)) none pos) (qas0 C fl te):=by
 refine⟨PS.mono (qax6 M Fn N hm O P (qe3 n.h qv1 J) Q p J t) λ E σ H y=>?_,λ e Z L h=>n.m _ _ _ _ _ (λ d i z=>⟨z.1,h.xe _ _ z.2⟩) h.xe⟩;obtain⟨F,L,A,ends,S,l,q⟩:=y;refine⟨F,L,A,ends.xe,S,l.xe,n.m _ _ _ _ _ (λ d i ⟨R,q⟩ v H' F' T A' r S' o s=>?_) (λ _ _ z=>z) q⟩;refine⟨by show 1<=1000;decide,λ a U=>⟨a,v,rfl,qb2,λ g V D=>⟨rfl,some g,qb2,?_⟩⟩⟩;have W:H' g=none:=by rwa[qb3 D] at V
 obtain rfl:=r.imm R;have G:Same H' (upd (upd (upd (upd H' a (Be a C none true)) g (XD g [(fl,v)])) a (Be a C (some g) true)) a (Be a C (some g) false)):=λ b u j=>by
   have I:b≠a:=λ z=>by rw[z,U] at j;cases j
   have Y:b≠g:=λ z=>by rw[z,W] at j;cases j
   rw[qb3 I,qb3 I,qb3 Y,qb3 I];exact j
 refine l.xe ⟨C,[(fl,d)]⟩ i σ a _ F' A' q ⟨some g,qb2,.inr ⟨g,[(fl,v)],rfl,?_,rfl,?_⟩⟩ (S'.same G) ((s.count λ b=>by rw[zA0];lia).trans (Stp.same G))
 . rw[qb3 D,qb3 D,qb2]
 exact .cons (A:=[]) (B:=[]) (r.same G) .nil
end
section
variable{a:Expr}
theorem qav8:∀{xs:List V}{us:List Value},xs.length=us.length->(∀(i:Nat)(x:V)(u:Value),xs[i]? = some x->us[i]? = some u->RelV x u)->Vals xs us:=by
 intro l
 induction l with
 | nil=>intro u z _;cases u with | nil=>exact .nil | cons=>cases z
 | cons x l k=>intro u z h;cases u with | nil=>cases z | cons u r=>exact .cons (h 0 x u rfl rfl) (k (Nat.succ.inj z) λ i y v a b=>h (i+1) y v a b)
end
theorem vdct0{c:Vc}{X:Cx}{pos:Pos}:VV c X (.Dict [] [] pos) true (λ _=>some (.dct false [])) :=
 ⟨PE.mono qay3 λ σ H Q ⟨F,b,A,d,S,e,q⟩ p a=>by
   cases e;exact q _ _ [p] (.dct (kvs:=[]) (kds:=[]) qb2 rfl .nil) (Same.new a) λ _=>qg3 a⟩
structure MdN(K:PySem.W.Frag)(C:Addr)(m qual:Str)(st:Stmt)(f:Addr)(fd:FuncData)(ps:List Str):Prop where
 F:FunE K m qual st f fd
 b:Binds K fd ps []
 bn:Binds K fd ps [.none]
 me:K7 K C m f
 isf:PySem.W.isFn K (.ref f)=true
section
variable{X:Cx}{c:Vc}
theorem qaU4{x m qual:Str}{C f:Addr}{fd:FuncData}{st:Stmt}{ps:List Str}{k:Nat}{s:VSp}{e:Expr}{es:List Expr}{tr:VTB}{p pos:Pos}(i:Cl X.K X.mg x C)(M:Mk X.K C f)(D:MdN X.K C m qual st f fd ps)(G:Ha cm X.prog X.w X.K X.mg X.base k f fd ps s)(j:Lands X c.E)(l:RoomB cm (k+1) X.A)(a:VAs c X (e::es) tr)(n:Gl X x:=by rfl)(d:(x == ("__debug__" : Str))=false:=by decide)(o:starEach (e::es) X.env=(false,eval e X.env)::starEach es X.env:=by rfl)(g:(backTo pos (starEach es X.env)).any (·.1)=false:=by rfl):VE c X (.Call (.Name x p) (e::es) [] pos) (qP1 C s [] tr) :=
 ⟨PE.mono (qaf2 M G.ok l n i.m D.b .nil j.passes a.h d o g) (qag9 qn1 G.m a),qI6 G.m a⟩
end
theorem mdmkN{K:PySem.W.Frag}{C:Addr}{m qual:Str}{st:Stmt}{f T:Addr}{ps:List Str}{oc to:Value}{od td g:Option Addr}{p q:Array (Option Value)}{kV e h d j:Value}(l:K.lookup f=some ⟨oc,od,.func (PySem.W.fnOf m qual (qf0 st) (qc9 st) (qa3 st) (.ref T) kV e h g d j),p⟩)(c:PySem.W.codeIn K d qual=true)(k:PySem.W.keepIn K (.ref f)=true)(a:PySem.W.findIn K (.ref C) m=some (some (.ref f)))(i:PySem.W.isFn K (.ref f)=true)(t:K.lookup T=some ⟨to,td,.seq #[.none] n,q⟩)(b:∀(kV e h:Value)(g:Option Addr)(d j:Value)(us:List Value),us.length=ps.length->∃ k,bindArgs (PySem.W.fnOf m qual (qf0 st) (qc9 st) (qa3 st) (.ref T) kV e h g d j) ⟨us,[]⟩=seqItems? (.ref T) >>= k/\k (some #[.none])=pure (ps.zip us))(v:∀(kV e h:Value)(g:Option Addr)(d j:Value)(us:List Value),us.length+1=ps.length->∃ k,bindArgs (PySem.W.fnOf m qual (qf0 st) (qc9 st) (qa3 st) (.ref T) kV e h g d j) ⟨us,[]⟩=seqItems? (.ref T) >>= k/\k (some #[.none])=pure (ps.zip (us++[.none]))) :
   MdN K C m qual st f (PySem.W.fnOf m qual (qf0 st) (qc9 st) (qa3 st) (.ref T) kV e h g d j) ps :=
 ⟨⟨⟨_,_,_,_,_,_,_,_,_,_,rfl,l,c⟩⟩,λ s us X o=>(by
   rw[zAg] at o ⊢;obtain⟨k,r,u⟩:=b kV e h g d j us o;exact PySem.W.binds_K X rfl t rfl r u),λ s us X o=>(by
   obtain⟨k,r,u⟩:=v kV e h g d j us (by rw[zA7] at o;exact o);exact PySem.W.binds_K X rfl t rfl r u),⟨a,i,k⟩,i⟩
end LV
namespace L2
open PySem PySem.Spec PyProof.Rows
section
variable{prog:Program}{w:World}{A:Around}{E:Value->Shared->Prop}{s:Shared}{K:PySem.W.Frag}{x C:Addr}
theorem qap5{Q:Option Value->Shared->Prop}{ox:Obj}{a:Option Obj}(X:K.In s.heap)(c:Exc K C)(I:PySem.W.InstAt s.heap x ox C a)(e:PySem.W.findObj K C a "__class__" = some (.bind (.builtin "getset_descriptor.__get__") (.builtin "object.__class__")))(hm:PySem.W.mroIn K C (.type "object")=some true)(h:Q (some (.ref C)) { s with toks:=s.toks+1 }):wpAny (model prog w) A (getAttr? (.ref x) "__class__") Q E s:=by
 have FB:=PySem.F.excAttr_ValueError;obtain⟨b,g,d,t,f⟩:=s;have L0:=I.type (M:=model prog w);have L1:=PySem.W.looks_findIn (M:=model prog w) X c.ga;have L2:=PySem.W.looks_findIn (M:=model prog w) X c.gt;have L3:=PySem.W.looks_find (M:=model prog w) X I e;have sub:PySem.W.Looks (model prog w) b (isInstance (.ref x) (.type "BaseException")) true:=L0.andThen (PySem.W.looks_mroIn X c.be);have i:builtinKind "BaseException.__getattribute__" = some .slot:=by decide +kernel
 have j:splitId "BaseException.__getattribute__" = some ("BaseException", "__getattribute__"):=by decide +kernel
 unfold getAttr? getAttrBy? getAttrBy;refine wpAny_bind (wpAny_mkText (wpAny_bind (wpAny_attempt (wpAny_holding (wpAny_bind (L0.at (wpAny_bind (L1.at ?_))))))));dsimp only;have k:(Value.builtin "BaseException.__getattribute__" == Value.builtin "object.__getattribute__")=false:=by decide +kernel
 rw[k,zBg,if_neg zAc];unfold getAttrByItsOwn hookBefore;refine wpAny_bind ?_;rw[if_pos (by rfl)];refine L2.at ?_;unfold callGetattribute boundAndCalled;rw[if_neg (by decide)];refine wpAny_bind (wpAny_attempt (wpAny_holding ?_));rw[FB.ga.bind (.ref x)];refine wpAny_bind (wpAny_pure (wpAny_call ?_));refine codeAny_call_builtin FB.ga.plain PySem.F.entry_bexc_ga (@PySem.W.check_slot (model prog w) _ _ _ "BaseException.__getattribute__" "BaseException" "__getattribute__" (.ref x) [.str "__class__" t] [] _ i j sub (PySem.F.args_bexc_ga (.ref x) (.str "__class__" t)) ?_);unfold Builtin.«object.__getattribute__»;refine wpAny_bind (wpAny_pure (wpAny_bind (wpAny_pure (wpAny_bind (L0.at (wpAny_bind (L3.at ?_)))))));dsimp only;show wpAny _ _ (holding [Value.builtin "object.__class__"] (call (Value.builtin "getset_descriptor.__get__") [Value.builtin "object.__class__",.ref x,.ref C]) >>= ret) _ _ _;refine wpAny_bind (wpAny_holding (wpAny_call (PySem.W.class_get (s:=⟨b,g,d,t+1,f⟩) (ox:=ox) (od:=a) X I hm ?_)));refine wpAny_pure ?_;exact PySem.W.handed_on rfl (wpAny_pure h)
end
structure IsX(K:PySem.W.Frag)(C:Addr):Prop where
 ex:Exc K C
 ca:PySem.W.findIn K (.ref C) "__class__" = some (some (.builtin "object.__class__"))
 cn:PySem.W.specialIn K (.builtin "object.__class__") "__get__" = some (some (.builtin "getset_descriptor.__get__"))
 ct:PySem.W.takesIn K (.builtin "object.__class__")=some true
theorem qaA5{K:PySem.W.Frag}{x C:Addr}{ox od:Obj}(i:IsX K C):PySem.W.KitX K (.ref x) (.ref C) (λ h=>PySem.W.InstAt h x ox C (some od)) where
 ty:=λ _ _ _ I=>I.type
 it:=λ _ _ X _=>by
   obtain⟨b,a,_⟩:=PySem.W.any_some i.ex.hd;unfold PySem.W.clsIn at a;split at a
   . rename_i c' d' cd' sl' ho
     intro A' Q' E' j k q;unfold isType loadHead;exact wpAny_bind (wpAny_loadPart (k _ _ (X _ _ ho)) (wpAny_pure q))
   cases a
 ne:=λ h d l f n m X c=>by
   obtain⟨b,a,_⟩:=PySem.W.any_some i.ex.hd;refine Bool.eq_false_iff.mpr λ q=>?_
   have e:C=d:=Value.ref.inj (zBj.mp q);subst e;unfold PySem.W.clsIn at a;split at a
   . rename_i c' d' cd' sl' ho
     have z:=(X _ _ ho).symm.trans c;cases z
   cases a
 ca:=λ X I k=>qap5 X i.ex I (PySem.W.findObj_data (by obtain⟨o,g,_⟩:=PySem.W.any_some i.ex.hd;rw[g];rfl) i.ca i.cn i.ct) i.ex.ob k
def rIsX(K:PySem.W.Frag):List V->Hp->VK->Prop:=λ xs H Q=>∃ a d u C dx fr fs b,xs=[.ref a,d]/\RelV d u/\(∀ c,RelV d c->c=u)/\H a=some (Be a C (some dx) fr)/\H dx=some (XD dx fs)/\IsX K C/\PySem.W.kitOne K (.ref C) u=some b/\Q (.bl b) H
theorem qaD2{X:Cx}:CallR X (.builtin "isinstance") (rIsX X.K):=by
 intro Gm s σ H G L Q I r h;obtain⟨a,d,u,C,j,M,N,b,rfl,O,c,k,l,ix,m,q⟩:=h;obtain⟨n,P,rfl,o,p⟩:=Kr r;obtain rfl:n=Value.ref a:=o;obtain rfl:=c _ p;obtain⟨t,v,w,f,g,i,_⟩:=qN7 I.hok k;obtain⟨R,x,r,S,_⟩:=L8 I.hok l;obtain⟨y,A,B⟩:=qy1 x;obtain⟨T,D,E,e⟩:=t;dsimp only at f g i;subst f g i;have J:PySem.W.InstAt s.heap a ⟨.ref C,some j,.fields v,e⟩ C (some y):=⟨w,rfl,rfl,A⟩
 exact PySem.W.kia_one (qaA5 ix) I.kIn J m (λ z=>nomatch z) λ F=>⟨.bl b,H,I.tok F,rfl,q⟩
end L2
namespace LV
open PySem L2
section
theorem qF3{F:Addr->Prop}{H:Hp}{f:Str}{d:D}:∀(a:List (Str×V))(b:List (Str×D)),a.map (·.1)=b.map (·.1)->Reps F H (a.map (·.2)) (b.map (·.2)) []->b.lookup f=some d->∃ v,a.lookup f=some v/\Rep F H v d []
 | [],[],_,_,h=>by cases h
 | [],_::_,e,_,_=>by cases e
 | _::_,[],e,_,_=>by cases e
 | (k,v)::a,(k',d')::b,e,r,h=>by
   have g:k=k':=(List.cons.inj e).1;subst g;have r:Reps F H (v::a.map (·.2)) (d'::b.map (·.2)) []:=r;generalize i:([]:List Addr)=N at r;cases r with
   | @cons _ _ B _ _ B' h1 t =>
     obtain⟨rfl,rfl⟩:=List.append_eq_nil_iff.mp i.symm;rw[zAp] at h ⊢;cases c:f == k with
     | true =>
       rw[c] at h;cases h;exact⟨v,rfl,h1⟩
     | false =>
       rw[c] at h;exact qF3 a b (List.cons.inj e).2 t h
end
theorem rm{cm:Bool}{j k:Nat}{A:Around}(r:RoomB cm k A)(h:j<=k:=by decide):RoomB cm j A:=r.mono h
theorem VFn.mk2{cm:Bool}{P:Program}{w:World}{K:PySem.W.Frag}{mg:Str->Option Value}{base:Heap}{x qual:Str}{st:Stmt}{f:Addr}{fd:FuncData}{N ps:List Str}{k:Nat}{s:VSp}(Fu:Fun K x qual st f fd)(Sc:qa8 N ps (qa3 st))(W:Nat->Bool)(c:Bj s)(h:∀ ds Q xe,s ds Q xe->ds.length=ps.length/\Kk W 0 ds=true)(hbody:∀(a:Value)(A:Around)(outer:List Env)(b:Shared)(H:Hp)(E:XK)(av:List (Option V)),RoomB cm k (A.deeper (PyProof.Rows.envOfC qual (qa3 st) b.heap.objs.size f a)) ->
     ∃ t,VSs ⟨λ _=>E,W,av,[]⟩ (Hc cm (CX1 P w) P w K mg base N qual (qa3 st) f a A outer b H E) (qc9 st) t/\∀ ds Q xe,s ds Q xe->t (qap7 W ds Q xe) (ds++List.replicate (N.length - ds.length) .unk)) :
   Ha cm P w K mg base (k+1) f fd ps s:=VFn.mk' Fu Sc W c (λ ds Q xe z=>(h ds Q xe z).1) (λ ds Q xe z=>(h ds Q xe z).2) hbody
section
variable{c:Vc}{X:Cx}{e:Expr}{f C:Addr}
theorem Rep.ofFlat{F:Addr->Prop}{H:Hp}{d:D}{w:V}(h:d.flat=some w):Rep F H w d []:=by
 cases d with
 | non=>cases h;exact .non
 | bl b=>cases h;exact .bl b
 | int i=>cases h;exact .int i
 | str x=>cases h;exact .str x
 | _=>cases h
def tbBV(pf:PF)(f:FV):VTB:=λ ds Q _=>orF (pf ds) λ q=>orF (Ay ds q.1 q.2) λ d=>d.known=true/\orF (f ds) λ x=>x.imm=true/\∀ w,Q [d,x] [.pl q.1 q.2 w,.no] (A7 ds q.1 q.2 (.hole w))
theorem vaBV{o e2:Expr}{pf:PF}{fv:FV}{own:Bool}(G:VP c X o pf)(I:VV c X e2 own fv)(J:starEach (o::[e2]) X.env=(false,eval o X.env)::starEach [e2] X.env:=by rfl)(g:starEach [e2] X.env=(false,eval e2 X.env)::starEach [] X.env:=by rfl):VAs c X [o,e2] (tbBV pf fv):=by
 refine⟨PA.mono (qe3 G.h (qe3 I.h qv1 g) J) λ σ H Q j=>?_,λ a Q Q' K L M W=>qa5 λ z=>qa5 λ d=>And.imp_right (qa5 λ y=>And.imp_right λ h w=>M _ _ _ (h w))⟩;obtain⟨F,a,A,K,S,x,q⟩:=j;obtain⟨⟨i,p⟩,N,q⟩:=qa7.mp q;obtain⟨d,e2,n,q⟩:=qa7.mp q;obtain⟨y,O,P,q⟩:=qa7.mp q;refine⟨F,a,A,i,p,d,S,N,e2,qq7 n,λ u w H0 R T k=>?_⟩;refine⟨F,a,A,y,S.same k,O,λ v H1 Bv t l _=>?_⟩;obtain rfl:=t.imm P;have s:Same H H1:=λ b o e=>l b o (k b o e)
 obtain⟨B,C,r,D,U⟩:=(S.same k).place e2 (qq7 n) R T;have r:=r.same l;obtain⟨A1,m,q2⟩:=U (.hole w) [] (Kp.same (F:=F) λ _ _ z=>z) (λ _ _ z=>z) (.hole w);have m:=m.same l;have E:Ok F H1 (B++A1):=(S.same s).ok.count λ b=>by rw[zA0,q2,D];simp
 have V:Stp F H A F H1 (B++A1):=⟨λ b o e _=>s b o e,λ b o e z=>by rw[zA0,q2];have:=D b;simp;lia,λ _ f=>f,λ _ _ _ _ f=>f⟩
 have S1:Sta c F H1 σ (A7 a i p (.hole w)) A1:=⟨m,E.right,S.len,S.ag⟩
 refine q w [w,v] H1 F B A1 ?_ (.so (.no .nil)) S1 E V
 have:=Reps.cons r (Reps.cons t .nil)
 rwa[zAg,zAg] at this
end
mutual
def D.plain:D->Bool
 | .tup ds=>D.plains ds
 | .lst z ds=>!z&&D.plains ds
 | .non=>true | .bl _=>true | .int _=>true | .str _=>true
 | _=>false
def D.plains:List D->Bool
 | []=>true
 | d::r=>d.plain&&D.plains r
end
end LV
namespace LV
open PySem L2 PyProof.Rows
section
variable{c:Vc}{X:Cx}{e:Expr}{ta tb:VT}{s:VSp}
def tOrT(ta tb:VT):VT:=λ ds Q xe=>ta ds Q xe∨tb ds Q xe
theorem eAlt(g:VE c X e ta)(i:VE c X e tb):VE c X e (tOrT ta tb):=by
 refine⟨λ Gm s σ H Q I b=>?_,λ d Q Q' f k j a=>Or.imp (g.m _ _ _ _ _ j a) (i.m _ _ _ _ _ j a)⟩;obtain⟨F,d,A,f,S,a,q⟩:=b;rcases q with q | q
 . exact g.h Gm s σ H Q I ⟨F,d,A,f,S,a,q⟩
 exact i.h Gm s σ H Q I ⟨F,d,A,f,S,a,q⟩
end
end LV
namespace LV
open PySem L2
end LV
namespace LV
open PySem L2 PyProof.Rows
theorem qaT1{k:Key}{u:Value}(h:Hw k u=true):RelV (kV k) u:=by
 rcases qc7 h with⟨i,t,rfl,rfl⟩ | ⟨x,t,rfl,rfl⟩
 . exact⟨t,rfl⟩
 exact⟨t,rfl⟩
noncomputable def keyD:Key->D
 | .inl i=>.int i
 | .inr x=>.str x
end LV
namespace L2
open PySem PySem.Spec PyProof.Rows
section
variable{X:Cx}{Gm:List (Addr×Obj)}{σ:St}{H H':Hp}{s:Shared}{h':Heap}
theorem Inv.many{t':Nat}(I:Inv X Gm σ H s)(k:∀ b u,s.heap.get? b=some u->h'.get? b=some u)(a:Same H H')(d:∀ b o,H b=none->H' b=some o->s.heap.objs.size<=b/\ObjOk X.prog X.w H' h' b o):Inv X Gm σ H' { s with heap:=h',toks:=t' }:=by
 refine I.un ⟨λ b u q _ _ _=>k b u q,λ b u q _ _ _=>⟨u.slots,k b u q⟩,λ b u q n _=>?_,λ b u q _=>⟨u,k b u q⟩,λ b f q=>a b _ q,λ b u f q=>a b _ q,λ b g q=>⟨#[],by rw[a b _ q];simp⟩⟩ λ b u e=>?_
 . cases z:H' b with
   | none=>rfl
   | some o=>exact absurd (zA8 q) (Nat.not_lt.mpr (d b o n z).1)
 cases z:H b with
 | none=>exact(d b u z e).2
 | some o =>
   have:=a b o z
   rw[e] at this;cases this;exact(I.hok b u z).stay (λ c v _ q=>k c v q) (λ c q=>a c _ q) λ c f q=>a c _ q
end
def qaF7:V->List V->Hp->VK->Prop:=λ x vs H Q=>∃ a kvs,x=.ref a/\vs=[]/\Rd H a (.dK kvs)/\∀ p,H p=none->Q (.ref p) (upd H p (.ext λ h=>h.IsItemsView p a))
theorem qaz8{X:Cx}:MtM X "dict.items" qaF7:=by
 intro Gm s σ H x f v r Q I j k h;obtain⟨a,l,rfl,rfl,m,q⟩:=h;cases j;have d:=k.zero;subst d;obtain⟨z,n,f,rel,g⟩:=Jv I.hok m;refine call_meetsIn PySem.F.slot_dict_items g.typeIs PySem.F.entry_dict_items (PySem.F.args_dict_items_1 _) (meets_dict_items (qe9 X.prog X.w) a n) ⟨⟨f,g⟩,?_⟩;have i:=zAt s.heap (o:={ cls:=.type "dict_items",data:=.fields #[.ref a] }) rfl;refine⟨.ref _,_,I.laid (t':=s.toks) (λ b o e=>zA2 _ e) (zA3 _) (show ObjOk X.prog X.w _ _ _ (.ext λ h=>h.IsItemsView s.heap.objs.size a) from⟨⟨_,i,rfl,rfl⟩,⟨_,i⟩,λ t u ⟨o,e,c⟩ p=>⟨o,p o e,c⟩⟩),rfl,q _ (I.hok.fresh (zA3 _))⟩
def PrK(H:Hp)(w:V)(a:Key×V):Prop:=∃ b,w=.ref b/\H b=some (.tup [kV a.1,a.2])
def qaP4:List V->Hp->VK->Prop:=λ xs H Q=>∃ p a kvs,xs=[.ref p]/\H p=some (.ext λ h=>h.IsItemsView p a)/\Rd H a (.dK kvs)/\∀ l b H2,Same H H2->H l=none->H2 l=some (.lst b)->Paired (PrK H2) b kvs->Q (.ref l) H2
theorem qaF6{b:List Addr}(h:b.Pairwise (· < ·)){i j:Nat}{a:Addr}(hi:b[i]? = some a)(c:b[j]? = some a):i=j:=by
 obtain⟨f,d⟩:=zA5.mp hi;obtain⟨g,e2⟩:=zA5.mp c;have e:b.Nodup:=h.imp λ h=>zAh h
 exact(List.getElem_inj e).mp (d.trans e2.symm)
theorem qaf6{H2:Hp}:∀{d:List Addr}{kvs:List (Key×V)},d.length=kvs.length->(∀(j:Nat)(a:Addr)(c:Key×V),d[j]? = some a->kvs[j]? = some c->H2 a=some (.tup [kV c.1,c.2]))->Paired (PrK H2) (d.map V.ref) kvs
 | [],[],_,_=>.nil
 | a::d,c::kvs,hl,h=>.cons ⟨a,rfl,h 0 a c rfl rfl⟩ (qaf6 (Nat.succ.inj hl) λ j b e f g=>h (j+1) b e f g)
 | [],_::_,hl,_=>by cases hl
 | _::_,[],hl,_=>by cases hl
theorem KV_at{kvs:List (Key×V)}{vs:List (Key×Value)}(r:KV kvs vs):∀{j:Nat}{a:Key×V}{k:Key}{x:Value},kvs[j]? = some a->vs[j]? = some (k,x)->a.1=k/\RelV a.2 x:=by
 induction r with
 | nil=>intro j a k x h;cases h
 | cons d t e =>
   intro j a k x b c;cases j with
   | zero=>cases b;cases c;exact d
   | succ j=>exact e b c
theorem qak3{X:Cx}(R:X.calm=true):CallR X (.type "list") qaP4:=by
 intro Gm s σ H xs us Q I r h;obtain⟨p,a,f,rfl,S,T,q⟩:=h;obtain⟨u,rfl,U⟩:=Gs r;cases U;obtain⟨hz,lo,M,rel,Y⟩:=Jv I.hok T;obtain⟨N,D⟩:=Y.dictAt;have hl:f.length=M.length:=rel.length;refine PySem.W.kdx_call (knd:=qe9 X.prog X.w) (kvs:=M) (ep:=N) (I.ok.hd R) (show ObjOk X.prog X.w H s.heap p (.ext λ h=>h.IsItemsView p a) from I.hok p _ S).1 D (by lia) λ h' Z E c' g kp e a0 G v=>?_
 have F:∀ b,s.heap.objs.size<=b->H b=none:=λ b n=>I.hok.fresh n
 let t:Addr->Option HO:=λ b=>(List.range f.length).findSome? λ j=>if g[j]? = some b then (f[j]?).map λ c=>HO.tup [kV c.1,c.2] else none
 let H2:Hp:=λ b=>if b=s.heap.objs.size then some (.lst (g.map V.ref)) else match H b with
   | some o=>some o
   | none=>t b
 have tbAt:∀(j:Nat)(b:Addr)(c:Key×V),g[j]? = some b->f[j]? = some c->t b=some (.tup [kV c.1,c.2]):=λ j b c l m=>by
   have hj:=(zA5.mp m).1;cases B:t b with
   | none =>
     have:=List.findSome?_eq_none_iff.mp B j (zAj.mpr hj)
     rw[if_pos l,m] at this;cases this
   | some o =>
     obtain⟨i,hi,d⟩:=List.exists_of_findSome?_eq_some B;by_cases z:g[i]? = some b
     . rw[if_pos z] at d
       have:=qaF6 G.rise z l
       subst this;rw[m] at d;exact d.symm
     rw[if_neg z] at d;cases d
 have tbIn:∀ b o,t b=some o->∃(j:Nat)(c:Key×V),g[j]? = some b/\f[j]? = some c/\o=.tup [kV c.1,c.2]:=λ b o B=>by
   obtain⟨i,hi,d⟩:=List.exists_of_findSome?_eq_some B;by_cases z:g[i]? = some b
   . rw[if_pos z] at d
     obtain⟨c,l,m⟩:=zAi.mp d;exact⟨i,c,z,l,m.symm⟩
   rw[if_neg z] at d;cases d
 have O:Same H H2:=λ b o z=>by
   have C:b≠s.heap.objs.size:=λ e=>by rw[e,F _ (zA3 _)] at z;cases z
   show (if b=s.heap.objs.size then _ else _)=_;rw[if_neg C,z]
 have y:H2 s.heap.objs.size=some (.lst (g.map V.ref)):=if_pos rfl;have J:∀(j:Nat)(b:Addr)(c:Key×V),g[j]? = some b->f[j]? = some c->H2 b=some (.tup [kV c.1,c.2]):=λ j b c l m=>by
   have n:=G.above b (zB1 l);show (if b=s.heap.objs.size then _ else _)=_;rw[if_neg (Nat.ne_of_gt n),F b (zBz n)];exact tbAt j b c l m
 refine⟨.ref _,H2,I.many (t':=Z) kp O (λ b o n d=>?_),rfl,q _ _ H2 O (F _ (zA3 _)) y (qaf6 (by lia) J)⟩;by_cases C:b=s.heap.objs.size
 . subst C
   rw[y] at d;cases d;refine⟨zA3 _,by rw[zAf];lia,E.toList,c',?_,by simpa using e⟩;rw[v];exact LV.qav8 (by rw[zAf,zAf]) λ i x u A K=>by
     rw[zB3] at A K;cases z:g[i]? with
     | none=>rw[z] at A;cases A
     | some b=>rw[z] at A K;cases A;cases K;rfl
 have d:(match H b with | some o=>some o | none=>t b)=some o:=by
   have:(if b=s.heap.objs.size then some (HO.lst (g.map V.ref)) else match H b with | some o=>some o | none=>t b)=some o:=d
   rwa[if_neg C] at this
 rw[n] at d;obtain⟨j,c,l,m,rfl⟩:=tbIn b o d;obtain⟨L,k,x,h3,h4,h5⟩:=G.pairs j b l;refine⟨zBz (G.above b (zB1 l)),by show 2<=sizeLine;decide,[L,x],?_,⟨_,h5,rfl,_,rfl⟩⟩;have P:=KV_at rel m h3;rw[P.1];exact .cons (LV.qaT1 h4) (.cons P.2 .nil)
theorem qay1{X:Cx}{o:Expr}{to:TE}{apos cpos:Pos}(e:PE X o to)(hbase:attributeBase o "items" X.env (eval o X.env)=eval o X.env:=by rfl)(hline:(apos.endLine == cpos.line)=true:=by rfl):PE X (.Call (.Attribute o "items" apos) [] [] cpos) (λ σ H Q=>to σ H λ x H1=>qaF7 x [] H1 Q):=by
 intro Gm s σ H Q I h;refine wpAny_Call_method0_late hbase hline (thn (e Gm s σ H _ I h) λ v f b=>?_);obtain⟨x,H1,I1,g,d⟩:=b;obtain⟨a,c,rfl,_,i,q⟩:=id d;cases g;obtain⟨t1,t2,_⟩:=qaL0 I1 (.inl ⟨c,i⟩);exact⟨"dict", "dict.items",PySem.F.plainAttrs_dict,PySem.F.slot_dict_items,PySem.F.type_dict_items,t1,t2,Calls.callWith_builtin rfl (PySem.evalArgs_none (qaz8 Gm f σ H1 (.ref a) [] (.ref a) [] Q I1 rfl .nil d))⟩
end L2
namespace LV
open PySem L2 PyProof.Rows
def qaL8(x:D):Option D:=match x with
 | .dct _ a=>gd (D.imms (a.map (·.2))=true) (.lst false (a.map λ b=>.tup [keyD b.1,b.2]))
 | _=>none
theorem qM9{F:Addr->Prop}{H:Hp}:∀{a:List V}{kvs:List (Key×V)}{kds:List (Key×D)},kvs.map (·.1)=kds.map (·.1)->Reps F H (kvs.map (·.2)) (kds.map (·.2)) []->Paired (PrK H) a kvs->Reps F H a (kds.map λ e=>.tup [keyD e.1,e.2]) []
 | [],[],[],_,_,_=>.nil
 | w::a,(k,v)::kvs,(k',d)::kds,h,r,.cons ⟨b,hb,eb⟩ t=>by
   obtain⟨c,f⟩:=List.cons.inj h;have c:k=k':=c;subst c;subst hb;have r:Reps F H (v::kvs.map (·.2)) (d::kds.map (·.2)) []:=r;generalize g:([]:List Addr)=N at r;cases r with
   | @cons _ _ B _ _ B' r1 t1 =>
     obtain⟨rfl,rfl⟩:=List.append_eq_nil_iff.mp g.symm;refine .cons (A:=[]) (B:=[]) (.tup eb (.cons (A:=[]) (B:=[]) ?_ (.cons (A:=[]) (B:=[]) r1 .nil))) (qM9 f t1 t);cases k with
     | inl i=>exact .int i
     | inr x=>exact .str x
 | [],_::_,_,_,_,t=>nomatch t
 | _::_,[],_,_,_,t=>nomatch t
 | _,[],_::_,h,_,_=>nomatch h
 | _,_::_,[],h,_,_=>nomatch h
theorem qaE0{c:Vc}{X:Cx}{o:Expr}{oa:Bool}{fa:FV}{p pos apos cpos:Pos}(hm:X.mg "list" = none)(u:VV c X o oa fa)(w:X.calm=true:=by rfl)(y:Gl X "list" := by rfl)(hbase:attributeBase o "items" X.env (eval o X.env)=eval o X.env:=by rfl)(hline:(apos.endLine == cpos.line)=true:=by rfl)(m:starEach [.Call (.Attribute o "items" apos) [] [] cpos] X.env=(false,eval (.Call (.Attribute o "items" apos) [] [] cpos) X.env)::starEach [] X.env:=by rfl)(i:(backTo pos (starEach [] X.env)).any (·.1)=false:=by rfl) :
   VV c X (.Call (.Name "list" p) [.Call (.Attribute o "items" apos) [] [] cpos] [] pos) true (f1 qaL8 fa):=by
 refine⟨PE.mono (cty (qak3 w) hm (qe3 (qay1 u.h hbase hline) qv1 m) y rfl (by decide) (by decide) m i) λ σ H Q j=>?_⟩;obtain⟨F,B,A,d,S,e,q⟩:=j;obtain⟨x,C,e2⟩:=qap1.mp e;cases x with
 | dct z D =>
   obtain⟨E,rfl⟩:=qv9 e2;refine⟨F,B,A,_,S,C,λ v H1 B1 G n _=>?_⟩;obtain⟨a,b,A2,rfl,r,I,J,_⟩:=G.dct_inv;refine⟨a,b,rfl,rfl,.inl r,λ p K=>?_⟩;have g:Same H1 (upd H1 p (.ext λ h=>h.IsItemsView p a)):=Same.new K;refine⟨p,a,b,rfl,qb2,.inl (g _ _ r),λ l N H2 s t L M=>?_⟩;have f:H1 l=none:=by
     cases z:H1 l with
     | none=>rfl
     | some o=>rw[g l o z] at t;cases t
   have k:H l=none:=by
     cases z:H l with
     | none=>rfl
     | some o=>rw[n l o z] at f;cases f
   exact q _ H2 [l] (.lst L (qM9 I ((J.imms0 E).same (g.trans s)) M)) ((n.trans g).trans s) λ _=>qg3 k
 | _=>cases e2
end LV
namespace LV
open PySem L2
section
variable{c:Vc}{X:Cx}{o:Expr}{ta:VT}{own:Bool}{g:FV}{pos apos:Pos}{qual m:Str}{st:Stmt}{f C:Addr}{fd:FuncData}{ps:List Str}{k:Nat}{s:VSp}
def qac8(C:Addr)(m:Str)(s:VSp)(ta:VT):VT:=λ ds Q xe=>ta ds (λ d ds1=>d.isM C m=true/\s [d] (λ r ys=>orF (Aj [.no] ys ds1) λ a=>Q r a) (λ x ys=>orF (Aj [.no] ys ds1) λ a=>xe x a)) xe
theorem qX6{pl:Sem Bool}(D:Md X.K C m qual st f fd ps)(u:Cls X.K C)(G:Ha cm X.prog X.w X.K X.mg X.base k f fd ps s)(y:Lands X c.E)(B:RoomB cm k X.A)(e:VE c X o ta)(I:eval (.Call (.Attribute o m apos) [] [] pos) X.env=(do
     let ov <- eval o X.env
     standAt apos.atName
     let (f,first) <- holding [ov] (getMethod ov m pl)
     callWith pos f first (backTo pos (starEach [] X.env)) (backToKw pos (keywordEach [] X.env))):=by rfl):VE c X (.Call (.Attribute o m apos) [] [] pos) (qac8 C m s ta):=by
 refine⟨PE.mono (qI0 e.h u D.me G.ok B D.b .nil y.passes I) λ σ H Q g=>?_,λ n Q Q' p J L r=>e.m _ _ _ _ _ (λ d i=>And.imp_right (G.m _ _ _ _ _ (λ d M=>qa5 λ z=>L _ _) (λ x M=>qa5 λ z=>r _ _))) r⟩;obtain⟨F,n,A,p,S,x,q⟩:=g;refine⟨F,n,A,p,S,x,e.m _ _ _ _ _ (λ d i ⟨N,q⟩ v H1 F1 T A1 t S1 O P=>?_) (λ _ _ z=>z) q⟩;obtain⟨a,R,U,rfl,j,l⟩:=t.isM N;refine⟨a,R,U,rfl,j,l,?_⟩;refine qak5 (vs:=[.ref a]) (xs:=[d]) (pls:=[.no]) (T:=T++[]) (dvs:=[]) (dv:=[]) qn1 G.m S x (.cons t .nil) (.no .nil) S1 (by rw[zAg];exact O) (by rw[zAg];exact P) (λ d V h=>h) q
theorem qaM5{pl:Sem Bool}(D:Md X.K C m qual st f fd ps)(a:Cls X.K C)(G:Ha cm X.prog X.w X.K X.mg X.base k f fd ps s)(b:Lands X c.E)(d:RoomB cm k X.A)(e:VV c X o own g)(h:eval (.Call (.Attribute o m apos) [] [] pos) X.env=(do
     let ov <- eval o X.env
     standAt apos.atName
     let (f,first) <- holding [ov] (getMethod ov m pl)
     callWith pos f first (backTo pos (starEach [] X.env)) (backToKw pos (keywordEach [] X.env))):=by rfl):VE c X (.Call (.Attribute o m apos) [] [] pos) (qac8 C m s (Br g)):=qX6 D a G b d (qb7 e) h
end
end LV
namespace L2
open PySem PySem.Spec PyProof.Rows
variable{b₀:Stmt}{pos:Pos}{rest:List ExceptHandler}{suite:List Stmt}{tr ts:Addr->TS}{y:Str}
def tHdM(M:Addr->Option Bool)(j:Nat)(ts tr:Addr->TS):Addr->TS:=λ a D σ H=>∃ C c b,H a=some (Be a C c false)/\M C=some b /\
 if b=true then ts a (behind j D) (σ.set j (some (.ref a))) H else tr a D σ H
theorem Fly.push{n:Nat}{H:Hp}{h:Heap}{a:Addr}{o:Obj}(F:Fly n H h a):Fly n H (h.push o) a:=by
 obtain⟨b,c,d,e,f,g⟩:=F.ob;refine⟨F.ge,F.tr,b,c,zA2 _ d,e,f,?_⟩;rcases g with z | ⟨T,i,j,k,l,m,p,q,z⟩
 . exact .inl z
 exact .inr ⟨T,i,j,k,l,m,p,zA2 _ q,z⟩
theorem RoomB.u64{cm:Bool}{k:Nat}{A:Around}(a:RoomB cm k A):A.units+64 < cLine:=a.units
theorem RoomB.mark{cm:Bool}{k:Nat}{A:Around}(r:RoomB cm k A)(v:Option Value):RoomB false k (A.mark v):=⟨λ z=>(nomatch z),r.dp,r.un⟩
section
variable{X:Cx}
theorem hd_go{j:Nat}{Gm:List (Addr×Obj)}{s:Shared}{σ:St}{H:Hp}{D:Bo}{a:Addr}{n:Nat}{b:Bool}(d:X.N.Nodup)(i:∀ a,PSs (Xh X a) (b₀::suite) (ts a))(k:PH X rest tr)(e:X.N[j]? = some y)(c:X.env.scope.names.lookup y=some .local)(I:Inv X Gm σ H s)(F:Fly n H s.heap a)(O:Old X Gm n)(q:if b=true then ts a (behind j D) (σ.set j (some (.ref a))) H else tr a D σ H) :
   (match (Except.ok (if b then Flow.brk else Flow.next):Result) with
     | .ok .brk=>codeAny (model X.prog X.w) (X.A.mark (some (.ref a))) (.handlers (.ref a) [.ExceptHandler none (some y) (b₀::suite) pos] X.env) (λ r s₂=>match r with
         | .ok f=>wpAny (model X.prog X.w) X.A (do bindName X.env y .none;unbindBehindTheSuite X.env y pos) (λ _ s₃=>SP X Gm D f s₃) X.xe s₂
         | .error x=>cameBackBy (model X.prog X.w) X.A X.env X.xe x s₂) s
     | .ok _=>wpAny (model X.prog X.w) X.A (handleBy (.ref a) X.env rest) (SP X Gm D) X.xe s
     | .error x=>cameBackBy (model X.prog X.w) X.A X.env X.xe x s):=by
 cases b with
 | false =>
   simp only[Bool.false_eq_true,if_false] at q ⊢;exact k Gm s σ H D a n I F O q
 | true =>
   simp only[if_true] at q ⊢;refine codeAny_handlers_suite_as (qao7 I F O λ o I1 F1=>?_);refine qG4 (X:=Xh X a) (v:=.ref a) I1.h d e (.inl c) rfl (λ l I2=>?_) (.inr c);refine wpAny_mono (i a Gm l (σ.set j (some (.ref a))) H (behind j D) I2 q) (λ f p z=>?_) λ _ _ z=>z.elim
   cases f with
   | next=>obtain⟨σ',H',J,z⟩:=z;exact qW4 (J.unh I.ok) d e c λ g J4=>⟨_,H',J4,z⟩
   | brk=>obtain⟨σ',H',J,z⟩:=z;exact qW4 (J.unh I.ok) d e c λ g J4=>⟨_,H',J4,z⟩
   | cont=>obtain⟨σ',H',J,z⟩:=z;exact qW4 (J.unh I.ok) d e c λ g J4=>⟨_,H',J4,z⟩
   | ret u=>obtain⟨v,σ',H',J,m,z⟩:=z;exact qW4 (J.unh I.ok) d e c λ g J4=>⟨v,_,H',J4,m,z⟩
theorem qaQ3(j:Nat){x:Str}{C':Addr}{np:Pos}(d:X.N.Nodup)(c:Exc X.K C')(hm:X.mg x=some (.ref C'))(e:∀ a,PSs (Xh X a) (b₀::suite) (ts a))(f:PH X rest tr)(g:X.N[j]? = some y:=by rfl)(i:X.env.scope.names.lookup y=some .local:=by rfl)(k:Gl X x:=by rfl)(l:(x == ("__debug__" : Str))=false:=by decide) :
   PH X (.ExceptHandler (some (.Name x np)) (some y) (b₀::suite) pos::rest) (tHdM (λ C=>PySem.W.mroIn X.K C (.ref C')) j ts tr):=by
 intro Gm s σ H D a n I F O h;obtain⟨C,t,b,m,o,q⟩:=h;obtain⟨u,v,p,r,_⟩:=qN7 I.hok m;refine wpAny_handleBy_cons (codeAny_handlers_test (qB4 (X:=Xh X a) I.h k hm ?_ l)) (by intro z;cases z);exact qap4 I.kIn c p r o (hd_go d e f g i I F O q)
theorem qaQ2(j:Nat){e c:Str}{C1 C2:Addr}{f d p:Pos}{r:Nat}(t:X.N.Nodup)(g:X.mg e=some (.ref C1))(i:X.mg c=some (.ref C2))(v:∀ a,PSs (Xh X a) (b₀::suite) (ts a))(x:PH X rest tr)(A:X.N[j]? = some y:=by rfl)(B:X.env.scope.names.lookup y=some .local:=by rfl)(k:Gl X e:=by rfl)(l:(e == ("__debug__" : Str))=false:=by decide)(m:Gl X c:=by rfl)(o:(c == ("__debug__" : Str))=false:=by decide)(h1:∀ a,starEach [.Name e f,.Name c d] (Xh X a).env=(false,eval (.Name e f) (Xh X a).env)::starEach [.Name c d] (Xh X a).env:=by intro _;rfl)(h2:∀ a,starEach [.Name c d] (Xh X a).env=(false,eval (.Name c d) (Xh X a).env)::starEach [] (Xh X a).env:=by intro _;rfl) :
   PH X (.ExceptHandler (some (.Tuple [.Name e f,.Name c d] r p)) (some y) (b₀::suite) pos::rest) (tHdM (λ C=>PySem.W.exmAny X.K (.ref C) [.ref C1,.ref C2]) j ts tr):=by
 intro Gm s σ H D a n I F O h;obtain⟨C,M,b,E,G,q⟩:=h;obtain⟨P,Q,J,L,_⟩:=qN7 I.hok E;refine wpAny_handleBy_cons (codeAny_handlers_test (wpAny_Tuple_spliced ?_)) (by intro z;cases z);rw[show starEach [.Name e f,.Name c d] X.env=_ from h1 a];refine Calls.spliced_cons (qB4 (X:=Xh X a) I.h k g ?_ l);show wpAny _ _ (spliced (backTo p (starEach [.Name c d] X.env))) _ _ s;rw[show starEach [.Name c d] X.env=_ from h2 a];refine Calls.spliced_cons (qB4 (X:=Xh X a) I.h m i ?_ o);refine Calls.spliced_nil ⟨by show 2<=sizeLine;rw[sizeLine_eq];decide,?_⟩;have I2:=I.kept (h':=s.heap.push { cls:=.type "tuple",data:=.seq [Value.ref C1,.ref C2].toArray }) (t':=s.toks) λ b u z=>zA2 _ z
 have LT:PySem.W.Looks (model X.prog X.w) (s.heap.push { cls:=.type "tuple",data:=.seq [Value.ref C1,.ref C2].toArray }) (typeOf (.ref a)) (.ref C):=by
   rw[<- L];exact(PySem.W.Looks.ld (zA2 _ J)).andThen .now
 exact(PySem.W.exm_tup2 I2.kIn LT (zAt _ rfl) G).here (hd_go t v x A B I2 F.push O q)
end
end L2
namespace LV
open PySem L2
variable{H:Hp}{x:Str}
abbrev VH:=Exn->VTS
inductive K1(c:Vc)(t:VH)(a:Addr)(E:Bo)(σ:St)(H:Hp):Prop
 | mk (x:Exn) (F:Addr->Prop) (ds:Ds) (A:List Addr) (e:VEnds) (r:RepX F H a x) (S:Sta c F H σ ds A) (l:Lk c E F H A e) (q:t x e ds):K1 c t a E σ H
structure VHs(c:Vc)(X:Cx)(hs:List ExceptHandler)(t:VH):Prop where
 h:PH X hs (K1 c t)
 m:∀ x (e e':VEnds) ds,e.Le e'->t x e ds->t x e' ds
section
variable{c:Vc}{X:Cx}{pos np:Pos}{j:Nat}{ts:VTS}{tr:VH}{b₀:Stmt}{suite:List Stmt}{rest:List ExceptHandler}{y:Str}{M:Addr->Option Bool}
theorem PH.mono{b:List ExceptHandler}{t t':Addr->TS}(h:PH X b t)(i:∀ a D σ H,t' a D σ H->t a D σ H):PH X b t':=λ Gm s σ H D a n I F O q=>h Gm s σ H D a n I F O (i a D σ H q)
theorem vhnil:VHs c X [] (λ _ _ _=>False):=⟨PH.mono qaQ1 λ _ _ _ _ ⟨_,_,_,_,_,_,_,_,q⟩=>q,λ _ _ _ _ _ z=>z⟩
noncomputable def Jh(e:VEnds):VEnds:=⟨λ _=>False,e.rt,λ _=>False,λ _=>False,λ _ _=>False⟩
noncomputable abbrev cNo(c:Vc):Vc:={ c with E:=λ _ _ _ _=>False }
def hAs(M:Addr->Option Bool)(j:Nat)(ts:VTS)(tr:VH):VH:=λ x e ds=>x.fs≠[]/\∃ b,M x.C=some b/\if b=true then ts (Jh e) (ds.set j (.exn x.C x.fs)) else tr x e ds
theorem RepX.rep{F:Addr->Prop}{a:Addr}{x:Exn}(r:RepX F H a x)(h:x.fs≠[]):Rep F H (.ref a) (.exn x.C x.fs) []:=by
 obtain⟨g,e,q | ⟨i,b,rfl,c,d,f⟩⟩:=r
 . exact absurd q h
 exact .exn e c d f
theorem hAs_m{X':Cx}{st:List Stmt}(f:VSs (cNo c) X' st ts)(g:VHs c X rest tr):∀ x (e a:VEnds) ds,e.Le a->hAs M j ts tr x e ds->hAs M j ts tr x a ds:=λ x e a ds d ⟨h,b,i,q⟩=>⟨h,b,i,qF6 (f.m (Jh e) (Jh a) _ ⟨λ _ z=>z,d.rt,λ _ z=>z,λ _ z=>z,λ _ _ z=>z⟩) (g.m x e a ds d) q⟩
theorem qaL5(k:c.W j=false){f:TS}(g:f=Hf (cNo c) ts){a:Addr}{D:Bo}{σ:St}(m:j < σ.length)(q:K1 c (hAs M j ts tr) a D σ H):tHdM M j (λ _=>f) (K1 c tr) a D σ H:=by
 subst g;obtain⟨x,F,n,A,e,r,S,l,h,b,p,q⟩:=q;obtain⟨t,u,_⟩:=id r;refine⟨x.C,t,b,u,p,?_⟩;cases b with
 | false=>exact⟨x,F,n,A,e,r,S,l,q⟩
 | true =>
   obtain⟨A',S',w⟩:=S.store k m (r.rep h) (by simpa using S.ok);exact⟨F,_,A',Jh e,⟨S'.loc,S'.ok,S'.len,S'.ag⟩,⟨λ _ _ _ _ _ z=>z.elim,λ d i v σ' H' F' T A2 q r S2 o s=>l.rt d i v σ' H' F' T A2 q r ⟨S2.loc,S2.ok,S2.len,S2.ag⟩ o (w.trans s),λ _ _ _ _ _ z=>z.elim,λ _ _ _ _ _ z=>z.elim,λ _ _ _ _ _ _ _ z=>z.elim⟩,q⟩
theorem Mw(j:Nat){C':Addr}(f:X.N.Nodup)(ex:Exc X.K C')(hm:X.mg x=some (.ref C'))(b:∀ a,VSs (cNo c) (Xh X a) (b₀::suite) ts)(d:VHs c X rest tr)(g:c.W j=false:=by rfl)(e:X.N[j]? = some y:=by rfl)(i:X.env.scope.names.lookup y=some .local:=by rfl)(k:Gl X x:=by rfl)(l:(x == ("__debug__" : Str))=false:=by decide) :
   VHs c X (.ExceptHandler (some (.Name x np)) (some y) (b₀::suite) pos::rest) (hAs (λ C=>PySem.W.mroIn X.K C (.ref C')) j ts tr) :=
 ⟨λ Gm s σ H D a n I F O q=>qaQ3 j f ex hm (λ a=>(b a).h) d.h e i k l Gm s σ H D a n I F O (qaL5 g rfl (qo2 e Gm σ H s I) q),hAs_m (b 0) d⟩
theorem vhasT(j:Nat){d b:Str}{C1 C2:Addr}{f e u:Pos}{v:Nat}(w:X.N.Nodup)(g:X.mg d=some (.ref C1))(i:X.mg b=some (.ref C2))(p:∀ a,VSs (cNo c) (Xh X a) (b₀::suite) ts)(r:VHs c X rest tr)(x:c.W j=false:=by rfl)(t:X.N[j]? = some y:=by rfl)(z:X.env.scope.names.lookup y=some .local:=by rfl)(k:Gl X d:=by rfl)(l:(d == ("__debug__" : Str))=false:=by decide)(m:Gl X b:=by rfl)(o:(b == ("__debug__" : Str))=false:=by decide)(h1:∀ a,starEach [.Name d f,.Name b e] (Xh X a).env=(false,eval (.Name d f) (Xh X a).env)::starEach [.Name b e] (Xh X a).env:=by intro _;rfl)(h2:∀ a,starEach [.Name b e] (Xh X a).env=(false,eval (.Name b e) (Xh X a).env)::starEach [] (Xh X a).env:=by intro _;rfl) :
   VHs c X (.ExceptHandler (some (.Tuple [.Name d f,.Name b e] v u)) (some y) (b₀::suite) pos::rest) (hAs (λ C=>PySem.W.exmAny X.K (.ref C) [.ref C1,.ref C2]) j ts tr) :=
 ⟨λ Gm s σ H D a n I F O q=>qaQ2 j w g i (λ a=>(p a).h) r.h t z k l m o h1 h2 Gm s σ H D a n I F O (qaL5 x rfl (qo2 t Gm σ H s I) q),hAs_m (p 0) r⟩
def sTryW(t:VTS)(th:VH):VTS:=λ e ds=>t { e with xe:=λ x a=>th x e a } ds
theorem stryW{body:List Stmt}{h₀:ExceptHandler}{o:List ExceptHandler}{t:VTS}{th:VH}(p:∀ E xe f,Lands (Xt X xe f) E->VSs { c with E:=E } (Xt X xe f) body t)(s:VHs c X (h₀::o) th)(g:X.stack=X.env::X.outer:=by rfl)(i:X.env.frame=some X.env.locals:=by rfl):VS c X (.Try body (h₀::o) [] [] pos) (sTryW t th):=by
 refine⟨PS.mono (qaP8 (tb:=λ E=>Hf { c with E:=E } t) (λ E xe f w=>(p E xe f w).h) s.h g i) λ D σ H j=>?_,λ e G u h=>(p (λ _ _ _ _=>False) (λ _ _=>True) [] λ _ _ _ _ _ _ _ _ _ z=>z.elim).m _ _ _ ⟨h.nx,h.rt,h.bk,h.ct,λ x b=>s.m x _ _ _ h⟩⟩;obtain⟨F,u,A,e,S,l,q⟩:=j;refine⟨λ σ' y _ H'=>∃ x a b F' A',y=.ref a/\th x e b/\RepX F' H' a x/\Sta c F' H' σ' b A'/\Stp F H A F' H' A',⟨F,u,A,_,⟨S.loc,S.ok,S.len,S.ag⟩,⟨?_,?_,?_,?_,?_⟩,q⟩,λ a σ' H' ⟨x,I,b,F',A',B,C,k,S',n⟩=>?_⟩
 . exact λ b σ' H' F' A' q S'=>l.nx b σ' H' F' A' q ⟨S'.loc,S'.ok,S'.len,S'.ag⟩
 . exact λ d b v σ' H' F' T A' q r S'=>l.rt d b v σ' H' F' T A' q r ⟨S'.loc,S'.ok,S'.len,S'.ag⟩
 . exact λ b σ' H' F' A' q S'=>l.bk b σ' H' F' A' q ⟨S'.loc,S'.ok,S'.len,S'.ag⟩
 . exact λ b σ' H' F' A' q S'=>l.ct b σ' H' F' A' q ⟨S'.loc,S'.ok,S'.len,S'.ag⟩
 . exact λ x b σ' a H' F' A' q k S' n=>⟨x,a,b,F',A',rfl,q,k,⟨S'.loc,S'.ok,S'.len,S'.ag⟩,n⟩
 cases B;exact⟨σ',rfl,λ _ _ z=>z,x,F',b,A',e,k,S',l.step n,C⟩
end
section
variable{c:Vc}{X:Cx}{e e2:Expr}{pos p:Pos}{own:Bool}{f:FV}
theorem Rep.exn_inv{F:Addr->Prop}{v:V}{C:Addr}{fs:List (Str×D)}{B:List Addr}(r:Rep F H v (.exn C fs) B):∃ a dx b,v=.ref a/\B=[]/\H a=some (Be a C (some dx) false)/\H dx=some (XD dx b)/\b.map (·.1)=fs.map (·.1)/\Reps F H (b.map (·.2)) (fs.map (·.2)) []:=by
 cases r with
 | exn h g e r=>exact⟨_,_,_,rfl,rfl,h,g,e,r⟩
def Mx(K:PySem.W.Frag)(f:FV)(u:Value):VT:=λ ds Q _=>orF (f ds) λ d=>∃ C fs b,d=.exn C fs/\IsX K C/\PySem.W.kitOne K (.ref C) u=some b/\Q (.bl b) ds
theorem eisX{d:V}{u:Value}(hm:X.mg "isinstance" = none)(o:VV c X e own f)(t:PE X e2 (tC d))(w:RelV d u)(g:∀ l,RelV d l->l=u)(y:Gl X "isinstance" := by rfl)(h1:starEach [e,e2] X.env=(false,eval e X.env)::starEach [e2] X.env:=by rfl)(h2:starEach [e2] X.env=(false,eval e2 X.env)::starEach [] X.env:=by rfl)(i:((backTo pos (starEach [e2] X.env)).any λ x=>x.1)=false:=by rfl) :
   VE c X (.Call (.Name "isinstance" p) [e,e2] [] pos) (Mx X.K f u):=by
 refine⟨PE.mono (cbi qaD2 hm (qe3 o.h (qe3 t qv1 h2) h1) y rfl (by decide) (by decide) h1 i) λ σ H Q j=>?_,λ m Q Q' z D E _=>qa5 λ d ⟨C,n,b,h1,h2,G,I⟩=>⟨C,n,b,h1,h2,G,E _ _ I⟩⟩;obtain⟨F,m,A,z,S,x,q⟩:=j;obtain⟨P,J,C,n,b,rfl,ix,L,q⟩:=qa7.mp q;refine⟨F,m,A,_,S,J,λ v H1 B r s _=>?_⟩;obtain⟨a,M,k,rfl,rfl,N,O,_⟩:=r.exn_inv;exact⟨a,d,u,C,M,false,k,b,rfl,w,g,N,O,ix,L,q _ _ F [] A (.bl b) (S.same s) (S.same s).ok (.same s)⟩
theorem Gw(C':Addr){np:Pos}(hm:X.mg "isinstance" = none)(g:VV c X e own f)(h:X.mg x=some (.ref C'))(i:Gl X "isinstance" := by rfl)(a:Gl X x:=by rfl)(j:(x == ("__debug__" : Str))=false:=by decide)(h1:starEach [e,.Name x np] X.env=(false,eval e X.env)::starEach [.Name x np] X.env:=by rfl)(h2:starEach [.Name x np] X.env=(false,eval (.Name x np) X.env)::starEach [] X.env:=by rfl)(b:((backTo pos (starEach [.Name x np] X.env)).any λ x=>x.1)=false:=by rfl) :
   VE c X (.Call (.Name "isinstance" p) [e,.Name x np] [] pos) (Mx X.K f (.ref C')):=eisX (d:=.ref C') hm g (qaH6 C' h a j) rfl (λ _ z=>z) i h1 h2 b
theorem eisXt(n:String){np:Pos}(hm:X.mg "isinstance" = none)(h:VV c X e own f)(a:X.mg x=none)(i:Gl X "isinstance" := by rfl)(b:Gl X x:=by rfl)(j:bootBuiltins x=some (.type n):=by rfl)(k:x ≠ "__name__" := by decide)(l:(x == ("__debug__" : Str))=false:=by decide)(h1:starEach [e,.Name x np] X.env=(false,eval e X.env)::starEach [.Name x np] X.env:=by rfl)(h2:starEach [.Name x np] X.env=(false,eval (.Name x np) X.env)::starEach [] X.env:=by rfl)(g:((backTo pos (starEach [.Name x np] X.env)).any λ x=>x.1)=false:=by rfl) :
   VE c X (.Call (.Name "isinstance" p) [e,.Name x np] [] pos) (Mx X.K f (.type n)):=eisX (d:=.ty n) hm h (qaI0 n a b j k l) rfl (λ _ z=>z) i h1 h2 g
def tEFX(K:PySem.W.Frag)(f:FV)(fl:Str):VT:=λ ds Q _=>orF (f ds) λ d=>∃ C fs v,d=.exn C fs/\Exc K C/\qc1 K C fl/\fs.lookup fl=some v/\Q v ds
theorem K3{fl:Str}{K:PySem.W.Frag}(k:X.K=K)(l:VV c X e own f)(m:attributeBase e fl X.env (eval e X.env)=eval e X.env:=by rfl):VE c X (.Attribute e fl pos) (tEFX K f fl):=by
 subst k;refine⟨PE.mono (qaH8 l.h m) λ σ H Q g=>?_,λ j Q Q' o p t _=>qa5 λ d ⟨C,i,v,u,w,y,z,D⟩=>⟨C,i,v,u,w,y,z,t _ _ D⟩⟩;obtain⟨F,j,A,o,S,x,q⟩:=g;obtain⟨T,E,C,i,d,rfl,G,n,I,q⟩:=qa7.mp q;refine⟨F,j,A,_,S,E,λ v H1 B r s _=>?_⟩;obtain⟨a,J,b,rfl,rfl,L,M,N,O⟩:=r.exn_inv;obtain⟨v,P,R⟩:=qF3 b i N O I;exact⟨a,C,J,false,b,v,rfl,L,M,G,n,P,q _ _ F [] A R (S.same s) (S.same s).ok (.same s)⟩
theorem qF5{X':Cx}:Lands X' (cNo c).E:=λ _ _ _ _ _ _ _ _ _ z=>z.elim
end
def spP0(g:D->Option D):Sp:=λ vs H Q _=>∃ F u d a A w,vs=[u]/\Rep F H u a A/\g a=some d/\d.flat=some w/\Q w H
section
variable{c:Vc}{X:Cx}{pos apos:Pos}{m qual:Str}{st:Stmt}{f C:Addr}{fd:FuncData}{ps:List Str}{k:Nat}{g:D->Option D}
def fP0(C:Addr)(m:Str)(g:D->Option D)(i:Nat):FV:=λ ds=>(rdN i ds).bind λ x=>if x.isM C m=true then (g x).bind λ d=>d.flat.map λ _=>d else none
theorem qaD9{pl:Sem Bool}(i:Nat){xn:Str}{p0:Pos}(D:Md X.K C m qual st f fd ps)(y:Cls X.K C)(G:B7 X.prog X.w X.K X.mg X.base CX0 k f fd ps (spP0 g))(B:Room k X.A)(r:X.N[i]? = some xn:=by rfl)(E:Vis X.env.scope xn:=by first | exact Or.inl rfl | exact Or.inr (Or.inl rfl) | exact Or.inr (Or.inr rfl))(J:(xn == ("__debug__" : Str))=false:=by decide)(h:(xn == ("__classdict__" : Str))=false:=by decide)(L:eval (.Call (.Attribute (.Name xn p0) m apos) [] [] pos) X.env=(do
     let ov <- eval (.Name xn p0) X.env
     standAt apos.atName
     let (f,first) <- holding [ov] (getMethod ov m pl)
     callWith pos f first (backTo pos (starEach [] X.env)) (backToKw pos (keywordEach [] X.env))):=by rfl):VV c X (.Call (.Attribute (.Name xn p0) m apos) [] [] pos) true (fP0 C m g i):=by
 refine⟨λ Gm s σ H Q I j=>?_⟩;obtain⟨F,T,A,d,S,e,q⟩:=j;refine qI0 (qu9 r E J h) y D.me G B D.b .nil pass0 L Gm s σ H Q I ?_;obtain⟨x,M,e⟩:=zA1.mp e;by_cases l:x.isM C m=true
 . rw[if_pos l] at e
   obtain⟨U,O,e⟩:=zA1.mp e;obtain⟨w,t,e⟩:=zAi.mp e;cases e;obtain⟨v,B0,n,u,_⟩:=S.name (qo2 r Gm σ H s I) M;obtain⟨a,P,R,rfl,o,p⟩:=u.isM l;exact⟨.ref a,n,a,P,R,rfl,o,p,F,_,_,x,B0,w,rfl,u,O,t,q w H [] (Rep.ofFlat t) (λ _ _ z=>z) λ _=>New.nil⟩
 rw[if_neg l] at e;cases e
end
end LV
namespace LV.My
open PySem L2 Row _root_.My
variable{A:Pr}{N i j l r:Nat}{Q:DK}{R:Ds->D->Prop}{S ks:List Int}{b:Bool}{d p v x y:D}{ds ys:Ds}{e:VEnds}{f fa fb:FV}{fs:List (Str×D)}{hm:Int->Nat}{k:Int}{m:Str}{pf:PF}{qc:VTT}{s:VSp}{t u:VTS}{ta tb te:VT}{tr:VTB}{xe:XKd}{α:Type}
noncomputable def _root_.LV.D.whole:D->Bool
 | .int _=>true
 | _=>false
noncomputable def _root_.LV.D.within(l m:Int):D->Bool
 | .int i=>decide (l<=i)&&decide (i<=m)
 | _=>false
def _root_.LV.D.num:D->Bool:=D.within 0 1000000000000000000
noncomputable def fx3(g:D->D->D->Option D):Ds->Option D
 | [x,y,z]=>g x y z
 | _=>none
theorem qah5{g:D->Option D}(h:Bu (fx1 g) ds Q xe):ds.length=1:=by
 match ds,h with
 | [_],_=>rfl
theorem qaK5{g:D->D->D->Option D}(h:Bu (fx3 g) ds Q xe):ds.length=3:=by
 match ds,h with
 | [_,_,_],_=>rfl
theorem imm1{g:D->Option D}(h:Bu (fx1 g) ds Q xe):Kk (wOf [true]) 0 ds=true:=by
 match ds,h with
 | [_],_=>rfl
theorem imm3{g:D->D->D->Option D}(h:Bu (fx3 g) ds Q xe):Kk (wOf [true,true,true]) 0 ds=true:=by
 match ds,h with
 | [_,_,_],_=>rfl
theorem Mz{g:D->Option D}(h:Bu (fx1 g) ds Q xe):∃ x d,ds=[x]/\g x=some d/\Q d [x]:=by
 match ds,h with
 | [x],h=>obtain⟨d,e,q⟩:=qa7.mp h;exact⟨x,d,rfl,e,q⟩
theorem pure3{g:D->D->D->Option D}(h:Bu (fx3 g) ds Q xe):∃ x y z d,ds=[x,y,z]/\g x y z=some d/\Q d [x,y,z]:=by
 match ds,h with
 | [x,y,z],h=>obtain⟨d,e,q⟩:=qa7.mp h;exact⟨x,y,z,d,rfl,e,q⟩
theorem qb9{t:String}(h:x.kind=some t):x.known=true:=by
 cases x<;>first | rfl | cases h
def Au(P:Ds->D->Prop):VSp:=λ ds Q _=>∃ d,P ds d/\Q d ds
theorem qb4{P:Ds->D->Prop}:Bj (Au P):=λ _ _ _ _ _ a _ ⟨d,p,q⟩=>⟨d,p,a _ _ q⟩
noncomputable def prD(ps:Pr):Ds:=ps.map λ p=>.tup [.int p.1,.int p.2]
noncomputable def kvD(ps:Pr):List (Key×D):=ps.map λ p=>(.inl p.1,.int p.2)
def planD(z:Bool)(C:Addr)(n:Int)(wr:Bool)(ps:Pr):D:=.ins z C [("rooms",.int n),("wraps",.bl wr),("homes",.lst z (prD ps)),("home_numbers",.dct z (kvD ps))]
noncomputable def Hi:Option Int->D
 | none=>.non
 | some k=>.int k
def rlD(n:Nat)(g:Nat->Option Int):Ds:=(List.range n).map λ i=>Hi (g i)
noncomputable def ksD(ks:List Int):Ds:=ks.map .int
theorem ql6:∀ ps:Pr,D.imms (prD ps)=true
 | []=>rfl
 | p::r=>by show (D.imms [.int p.1,.int p.2]&&D.imms (prD r))=true;rw[ql6 r];rfl
theorem qN1:∀ ks:List Int,D.imms (ksD ks)=true
 | []=>rfl
 | k::r=>by show (true&&D.imms (ksD r))=true;rw[qN1 r];rfl
theorem qS6{α:Type}{f:α->D}(h:∀ a,(f a).imm=true):∀ l:List α,D.imms (l.map f)=true
 | []=>rfl
 | a::r=>by show ((f a).imm&&D.imms (r.map f))=true;rw[h a,qS6 h r];rfl
theorem qaL4(o:Option Int):(Hi o).imm=true:=by cases o<;>rfl
theorem qN0(n:Nat)(g:Nat->Option Int):D.imms (rlD n g)=true:=qS6 (λ i=>qaL4 _) _
theorem qat8:∀ ks:List Int,intsD (ksD ks)=some ks
 | []=>rfl
 | k::r=>by show (intsD (ksD r)).map (λ is=>k::is)=some (k::r);rw[qat8 r];rfl
theorem qM6(ks:List Int):(ksD ks).length=ks.length:=zAf _
theorem qB2(n:Nat)(g:Nat->Option Int):(rlD n g).length=n:=by simp[rlD]
theorem qN3{n:Nat}{g:Nat->Option Int}(h:i < n):(rlD n g)[i]? = some (Hi (g i)):=by
 unfold rlD;rw[zB3,List.getElem?_range h];rfl
theorem qad7{n:Nat}{g:Nat->Option Int}{o:Option Int}:(rlD n g).set i (Hi o)=rlD n (λ j=>if j=i then o else g j):=by
 apply List.ext_getElem?;intro j;by_cases a:j < n
 . rw[qN3 a]
   by_cases e:i=j
   . subst e
     rw[zBo (by rw[qB2];exact a),if_pos rfl]
   rw[zBq e,qN3 a,if_neg (Ne.symm e)]
 rw[List.getElem?_eq_none (by rw[List.length_set,qB2];lia),List.getElem?_eq_none (by rw[qB2];lia)]
theorem qaf5:∀ ps:Pr,Lf (prD ps)=some (kvD ps)
 | []=>rfl
 | p::r=>by
   show (Option.bind (some ((Sum.inl p.1:Key),D.int p.2)) λ q=>(Lf (prD r)).bind λ ps=>some (q::ps))=_;rw[qaf5 r];rfl
theorem qam8{ps:Pr}{m:Int}(h:¬ k∈ps.map (·.1)):Ic (kvD ps) (.inl k) (.int m)=kvD (ps++[(k,m)]):=by
 unfold Ic;rw[if_neg]
 . unfold kvD;rw[zBl];rfl
 intro e;obtain⟨q,a,e⟩:=List.any_eq_true.mp e;obtain⟨r,b,rfl⟩:=zBb.mp a;have e:(Sum.inl r.1:Key)=Sum.inl k:=zA9 e;exact h (zBb.mpr ⟨r,b,Sum.inl.inj e⟩)
theorem qV7:∀(a ps:Pr),((ps++a).map (·.1)).Nodup->qw3 (kvD ps) (kvD a)=kvD (ps++a)
 | [],ps,_=>by rw[zAg];rfl
 | q::a,ps,h=>by
   show qw3 (Ic (kvD ps) (.inl q.1) (.int q.2)) (kvD a)=_;have b:¬ q.1∈ps.map (·.1):=by
     rw[zBl,zAx,List.nodup_append] at h;exact λ z=>h.2.2 _ z _ zAe rfl
   rw[qam8 b,qV7 a (ps++[(q.1,q.2)]) (by rw[zAw];exact h),zAw];rfl
theorem qan7{ps:Pr}(h:(ps.map (·.1)).Nodup):qw3 [] (kvD ps)=kvD ps:=qV7 ps [] h
theorem qaM7{z:Bool}{ps:Pr}(h:(ps.map (·.1)).Nodup):gDict (.lst z (prD ps))=some (.dct false (kvD ps)):=by
 show (Lf (prD ps)).map (λ ps=>D.dct false (qw3 [] ps))=_;rw[qaf5];show some (D.dct false (qw3 [] (kvD ps)))=_;rw[qan7 h]
theorem qar3(k:Int):∀ ps:Pr,Gp (kvD ps) (.inl k)=(ps.lookup k).map .int
 | []=>rfl
 | (p,m)::r=>by
   show Gp ((.inl p,.int m)::kvD r) _=_;by_cases e:p=k
   . subst e
     simp[Gp,zAp]
   have a:Gp ((.inl p,D.int m)::kvD r) (.inl k)=Gp (kvD r) (.inl k):=by simp[Gp,zBm,e]
   rw[a,qar3 k r]
   have:(k == p)=false:=by simpa using λ z=>e z.symm
   simp only[zAp,this]
theorem qa2{o:Option α}{a:α}{k:α->Prop}(e:o=some a)(h:k a):orF o k:=by rw[e];exact h
theorem Gx{p:Prop}[Decidable p]{a b:Prop}(h:p)(x:a):if p then a else b:=by rw[if_pos h];exact x
theorem Il{p:Prop}[Decidable p]{a b:Prop}(h:¬ p)(x:b):if p then a else b:=by rw[if_neg h];exact x
theorem ite_b{p:Bool}{a b:Prop}(h1:p=true->a)(h2:p=false->b):if p=true then a else b:=by cases p with | true=>exact h1 rfl | false=>exact h2 rfl
noncomputable def Kl:Option Int->D
 | some f=>.int f
 | none=>.non
theorem qE2(b:rdN i ds=some x)(h:s [x] (λ d ys=>orF (Aj [.sl i] ys (ds.set i .unk)) λ a=>Q d a) (λ e ys=>orF (Aj [.sl i] ys (ds.set i .unk)) λ a=>xe e a)):qm1 s [] (tbN i Av) ds Q xe :=
 ⟨by rw[b];rfl,by show orF (rdN i ds) _;rw[b];exact h⟩
theorem qA2{f:Ds->Option D}(e:f ds=some d)(q:Q d ds):Bu f ds Q xe:=qa2 e q
theorem qq4(e:R ds d)(q:Q d ds):Au R ds Q xe:=⟨d,e,q⟩
theorem qc2{K:Ds->List Pl->Ds->Prop}(a:rdN i ds=some x)(h:tr ds (λ xs ps ds1=>orF (rdN i ds1) λ d=>K (d::xs) (.sl i::ps) (ds1.set i .unk)) xe):tbN i tr ds K xe:=⟨by rw[a];rfl,h⟩
theorem qc3{K:Ds->List Pl->Ds->Prop}(b:f ds=some y)(h:tr ds (λ xs ps a=>K (y::xs) (.no::ps) a) xe):tbV (Bz f) tr ds K xe:=qa2 (k:=λ y=>tr ds (λ xs ps a=>K (y::xs) (.no::ps) a) xe) b h
theorem rd0{r:Ds}(h:d.known=true):rdN 0 (d::r)=some d:=qo7.mpr ⟨rfl,h⟩
theorem qaB7{β:Type}(f:α->β)(l:List α):l.filterMap (λ a=>some (f a))=l.map f:=by simp
section
variable{z:Bool}{C:Addr}{n:Int}{wr:Bool}{ps:Pr}
theorem qB8{f:Str}(h:fs.lookup f=some d):D.fld C f (.ins z C fs)=some d:=by
 show (if C=C then fs.lookup f else none)=some d;rw[if_pos rfl,h]
theorem qc6:D.fld C "rooms" (planD z C n wr ps)=some (.int n):=qB8 (by rfl)
theorem qs6:D.fld C "wraps" (planD z C n wr ps)=some (.bl wr):=qB8 (by rfl)
theorem qF9:D.fld C "home_numbers" (planD z C n wr ps)=some (.dct z (kvD ps)):=qB8 (by rfl)
theorem qai4(h:fs.lookup m=none):(D.ins z C fs).isM C m=true:=by
 show (decide (C=C)&&(fs.lookup m).isNone)=true;rw[zAo rfl,h];rfl
theorem qf4(h:([("rooms",.int n),("wraps",.bl wr),("homes",.lst z (prD ps)),("home_numbers",.dct z (kvD ps))]:List (Str×D)).lookup m=none):(planD z C n wr ps).isM C m=true:=qai4 h
theorem As{g:D->Option D}(h:fa ds=some x)(h':g x=some y):f1 g fa ds=some y:=qap1.mpr ⟨x,h,h'⟩
theorem f2_of{g:D->D->Option D}(h:fa ds=some x)(h':fb ds=some y)(h2:g x y=some d):f2 g fa fb ds=some d:=qaB9.mpr ⟨x,y,h,h',h2⟩
theorem qe7:(D.ins false C fs).ownI C=some fs:=by
 show (if C=C then some fs else none)=some fs;rw[if_pos rfl]
end
theorem qj2{C:Addr}(b:rdN i ds=some p)(hm:p.isM C m=true)(h:tr ds (λ xs ps ds1=>orF (rdN i ds1) λ d=>s (d::(xs++[])) (λ r ys=>orF (Aj (.sl i::ps) ys (ds1.set i .unk)) λ a=>Q r a) (λ x ys=>orF (Aj (.sl i::ps) ys (ds1.set i .unk)) λ a=>xe x a)) xe):qr4 C m s [] i tr ds Q xe:=⟨qa2 b hm,h⟩
theorem qL6{f:Ds->Option D}(a:rdN i ds=some x)(e:f [x]=some d)(b:Aj [.sl i] [x] (ds.set i .unk)=some ds)(q:Q d ds):qm1 (Bu f) [] (tbN i Av) ds Q xe:=qE2 a (qA2 e (qa2 b q))
theorem M0(c:rdN i ds=some x)(b:rdN j ds=some y)(a:rdN i (ds.set j .unk)=some x)(r:R [x,y] d)(e:Aj [.sl i,.sl j] [x,y] ((ds.set j .unk).set i .unk)=some ds)(q:Q d ds):qm1 (Au R) [] (tbN i (tbN j Av)) ds Q xe :=
 qc2 c (qc2 b (qa2 b (qa2 a (qq4 r (qa2 e q)))))
theorem Ll{w:D}(e:rdN i ds=some x)(f:rdN j ds=some y)(c:rdN l ds=some w)(a:rdN j (ds.set l .unk)=some y)(b:rdN i ((ds.set l .unk).set j .unk)=some x)(r:R [x,y,w] d)(g:Aj [.sl i,.sl j,.sl l] [x,y,w] (((ds.set l .unk).set j .unk).set i .unk)=some ds)(q:Q d ds):qm1 (Au R) [] (tbN i (tbN j (tbN l Av))) ds Q xe :=
 qc2 e (qc2 f (qc2 c (qa2 c (qa2 a (qa2 b (qq4 r (qa2 g q)))))))
theorem M1{C:Addr}(c:rdN i ds=some p)(hm:p.isM C m=true)(b:rdN j ds=some x)(a:rdN i (ds.set j .unk)=some p)(r:R [p,x] d)(e:Aj [.sl i,.sl j] [p,x] ((ds.set j .unk).set i .unk)=some ds)(q:Q d ds):qr4 C m (Au R) [] i (tbN j Av) ds Q xe :=
 qj2 c hm (qc2 b (qa2 b (qa2 a (qq4 r (qa2 e q)))))
theorem qan8{C:Addr}(e:rdN i ds=some p)(hm:p.isM C m=true)(f:rdN j ds=some x)(c:rdN l ds=some y)(a:rdN j (ds.set l .unk)=some x)(b:rdN i ((ds.set l .unk).set j .unk)=some p)(r:R [p,x,y] d)(g:Aj [.sl i,.sl j,.sl l] [p,x,y] (((ds.set l .unk).set j .unk).set i .unk)=some ds)(q:Q d ds):qr4 C m (Au R) [] i (tbN j (tbN l Av)) ds Q xe :=
 qj2 e hm (qc2 f (qc2 c (qa2 c (qa2 a (qa2 b (qq4 r (qa2 g q)))))))
theorem Ji{t:VT}{n:VTS}(h:∀(Q:DK)(xe:XKd),Q (.bl true) ds->t ds Q xe)(h2:u e ds):Iy (sIf (Ie (ttE t)) n Jr) u e ds:=h _ _ h2
theorem if_e{t:VT}{v:VTS}(h:∀(Q:DK)(xe:XKd),Q (.bl b) ds->t ds Q xe)(h1:b=true->u e ds)(h2:b=false->v e ds):sIf (ttE t) u v e ds:=h _ _ (by
 show if b=true then u e ds else v e ds
 exact ite_b h1 h2)
theorem Kc{v:VTS}(h:f ds=some (.bl b))(h1:b=true->u e ds)(h2:b=false->v e ds):sIf (ttV f) u v e ds:=by
 show orF ((f ds).bind D.asB) _;rw[h];exact ite_b h1 h2
theorem Jj{u v:VT}(h:f ds=some (.bl b))(h1:b=true->u ds Q xe)(h2:b=false->v ds Q xe):tIfE (ttV f) u v ds Q xe:=by
 show orF ((f ds).bind D.asB) _;rw[h];exact ite_b h1 h2
theorem qq3(e:f ds=some d)(q:Q d ds):Bz f ds Q xe:=qa2 e q
theorem qj3{w:VTS}(b:Bool)(h:f ds=some (.bl b))(h1:b=true->u { e with nx:=w e } ds)(h2:b=false->w e ds):Iy (sIf (ttV f) u Jr) w e ds:=Kc (u:=u) (v:=Jr) h h1 h2
theorem qe6{t:VT}(h:t ds e.rt e.xe):sRet t e ds:=h
theorem qi8(d:D)(h:f ds=some d)(q:e.rt d ds):sRet (Bz f) e ds:=qa2 h q
theorem At(a:Ds)(h:ds=a)(q:t e a):t e ds:=h ▸ q
theorem qai3{z:Bool}(h:rdN i ds=some (.lst z ys)):Bc (fx2 gIsi) (Aw (rdN i) (Aw (kC (D.ty "list")) λ _=>some [])) ds=some (.bl true):=by
 unfold Bc Aw;rw[h];rfl
theorem qah4{z:Bool}(h:rdN i ds=some (.lst z ys)):Bc (fx1 Ki) (Aw (rdN i) λ _=>some []) ds=some (.int (ys.length:Nat)):=by
 unfold Bc Aw;rw[h];rfl
theorem qh6{Q:Bool->Ds->Prop}(h:f ds=some (.bl b))(q:Q b ds):ttV f ds Q xe:=by
 show orF ((f ds).bind D.asB) _;rw[h];exact q
theorem qG3{Q:Bool->Ds->Prop}(h:f ds=some (.bl b))(q:Q (!b) ds):Ie (ttV f) ds Q xe:=qh6 (Q:=λ b ds=>Q (!b) ds) h q
theorem qac4{t u:VTT}{Q:Bool->Ds->Prop}(b c:Bool)(h1:∀ Q:Bool->Ds->Prop,Q b ds->t ds Q xe)(h2:b=false->∀ Q:Bool->Ds->Prop,Q c ds->u ds Q xe)(q:Q (b||c) ds):ttOr t u ds Q xe:=h1 _ (by
 cases b with
 | false=>exact h2 rfl _ q
 | true=>exact q)
theorem qs8{t u:VTT}{Q:Bool->Ds->Prop}(b c:Bool)(h1:∀ Q:Bool->Ds->Prop,Q b ds->t ds Q xe)(h2:b=true->∀ Q:Bool->Ds->Prop,Q c ds->u ds Q xe)(q:Q (b&&c) ds):ttAnd t u ds Q xe:=h1 _ (by
 cases b with
 | false=>exact q
 | true=>exact h2 rfl _ q)
theorem Gy(b:Bool)(h:∀ Q:Bool->Ds->Prop,Q b ds->qc ds Q e.xe)(h1:b=true->t e ds)(h2:b=false->u e ds):sIf qc t u e ds:=h _ (ite_b h1 h2)
theorem ql7{w:VTS}(b:Bool)(h:∀ Q:Bool->Ds->Prop,Q b ds->qc ds Q e.xe)(h1:b=true->t { e with nx:=w e } ds)(h2:b=false->w e ds):Iy (sIf qc t Jr) w e ds:=h _ (ite_b h1 h2)
theorem qai8{t:VT}{n:VTS}(h:∀(Q:DK)(xe:XKd),Q (.bl true) ds->t ds Q xe)(h2:e.nx ds):sIf (Ie (ttE t)) n Jr e ds:=h _ _ h2
theorem qau3{n:VTS}(h:f ds=some (.bl true))(h2:u e ds):Iy (sIf (Ie (ttV f)) n Jr) u e ds:=qG3 (Q:=λ k a=>if k=true then n { e with nx:=u e } a else u e a) (xe:=e.xe) h h2
theorem qaA9{z:Bool}{C:Addr}{n:Int}{wr:Bool}{ps:Pr}:Me C (planD z C n wr ps) (.adr C)=some (.bl true):=by
 show (if C=C then (planD z C n wr ps).isC C else none)=_;rw[if_pos rfl];show (if C=C then some (D.bl true) else none)=_;rw[if_pos rfl]
theorem qq8{g:VTG}{t:VTS}{e:VEnds}(I:Nat->Ds->Prop):∀(xs:List D)(i:Nat)(ds:Ds),I i ds->(∀(j:Nat)(x:D),xs[j]? = some x->∀ ds,I (i+j) ds->∀ K:Ds->Prop,(∀ a,I (i+j+1) a->K a)->g x ds λ ds1=>t { e with nx:=K,ct:=K,bk:=e.nx } ds1)->(∀ a,I (i+xs.length) a->e.nx a)->Gr g t e xs ds
 | [],_,ds,h,_,hn=>hn ds h
 | x::xs,i,ds,h,hs,hn=>hs 0 x rfl ds h _ λ a f=>qq8 I xs (i+1) a f (λ j y k b c K l=>hs (j+1) y k b (by rw[show i+(j+1)=i+1+j by lia];exact c) K λ d m=>l d (by rw[show i+1+j+1=i+(j+1)+1 by lia];exact m)) λ b c=>hn b (by rw[zAn,show i+(xs.length+1)=i+1+xs.length by lia];exact c)
theorem qS9{g:VTG}{n:Int}(h:f ds=some (.int n))(a:Ij n=true)(k:Gr g t e (Bl 0 n.toNat) ds):qaF4 (Mu (tbV (Br f) Av)) g t e ds:=by
 show orF (f ds) _;rw[h];exact⟨rfl,a,k⟩
theorem Lm{n:Int}(a:0<=n)(h1:n<=1000):Ij n=true:=by
 unfold Ij;rw[zAo (by lia),zAo (by lia)];rfl
theorem qZ9{m:Nat}(h:(Bl 0 m)[j]? = some x):j < m/\x=.int (j:Int):=by
 by_cases a:j < m
 . rw[qU9 a] at h
   cases h;exact⟨a,by rw[Int.zero_add]⟩
 rw[List.getElem?_eq_none (by unfold Bl;rw[zAf,zAz];lia)] at h;cases h
def Jk(p:Int->Bool)(y:D):Option D:=y.asI.bind λ k=>if p k=true then some (.int k) else none
theorem qat6{p:Int->Bool}(h:p k=true):Jk p (.int k)=some (.int k):=if_pos h
theorem qat7{p:Int->Bool}(h:p k=false):Jk p (.int k)=none:=if_neg (by rw[h];decide)
theorem qS5(p:Int->Bool):∀ ks:List Int,(ksD ks).filterMap (Jk p)=ksD (ks.filter p)
 | []=>rfl
 | k::ks=>by
   show List.filterMap (Jk p) (D.int k::ksD ks)=_;rw[zBt];cases h:p k with
   | true=>rw[qat6 h,List.filter_cons_of_pos h];show D.int k::(ksD ks).filterMap (Jk p)=_;rw[qS5 p ks];rfl
   | false=>rw[qat7 h,List.filter_cons_of_neg (by rw[h];decide),qS5 p ks]
theorem qaU0{a:Bool}(h1:fa ds=some (.bl a))(h2:fb ds=some (.bl b)):fOr fa fb ds=some (.bl (a||b)):=by
 unfold fOr;rw[h1,h2];cases a<;>rfl
theorem qav0{a:Bool}(h1:fa ds=some (.bl a))(h2:fb ds=some (.bl b)):fAnd fa fb ds=some (.bl (a&&b)):=by
 unfold fAnd;rw[h1,h2];cases a<;>rfl
theorem qb6(ds1:Ds)(h1:∀ K:Ds->Prop,K ds1->t { e with nx:=K } ds)(h2:u e ds1):Iy t u e ds:=h1 (u e) h2
theorem qd3(R:Ds->Prop)(h1:∀ K:Ds->Prop,(∀ ds1,R ds1->K ds1)->t { e with nx:=K } ds)(h2:∀ ds1,R ds1->u e ds1):Iy t u e ds:=h1 (u e) h2
theorem qab8(I:Nat->Ds->Prop)(n:Nat)(h:I n ds)(c:∀ n ds,I n ds->∀ K:Ds->Prop,(∀ m a,m < n->I m a->K a)->qc ds (λ b ds1=>if b=true then t { e with nx:=K,ct:=K,bk:=e.nx } ds1 else e.nx ds1) e.xe):qaF2 qc t e ds:=by
 have d:∀ N n ds,n < N->I n ds->whN qc t e N ds:=by
   intro N
   induction N with
   | zero=>intro n ds h;exact absurd h (Nat.not_lt_zero _)
   | succ N f=>intro n ds i h;exact c n ds h _ λ m a j g=>f m a (by lia) g
 exact⟨n+1,d (n+1) n ds (Nat.lt_succ_self n) h⟩
theorem qaN6(f:rdN i ds=some x)(c:rdN j ds=some y)(b:rdN i (ds.set j .unk)=some x)(h:s [x,y] (λ d ys=>orF (Aj [.sl i,.sl j] ys ((ds.set j .unk).set i .unk)) λ a=>Q d a) (λ e ys=>orF (Aj [.sl i,.sl j] ys ((ds.set j .unk).set i .unk)) λ a=>xe e a)):qm1 s [] (tbN i (tbN j Av)) ds Q xe :=
 qc2 f (qc2 c (qa2 c (qa2 b h)))
theorem qaN5{w:D}(g:rdN i ds=some x)(k:rdN j ds=some y)(f:rdN l ds=some w)(b:rdN j (ds.set l .unk)=some y)(c:rdN i ((ds.set l .unk).set j .unk)=some x)(h:s [x,y,w] (λ d ys=>orF (Aj [.sl i,.sl j,.sl l] ys (((ds.set l .unk).set j .unk).set i .unk)) λ a=>Q d a) (λ e ys=>orF (Aj [.sl i,.sl j,.sl l] ys (((ds.set l .unk).set j .unk).set i .unk)) λ a=>xe e a)):qm1 s [] (tbN i (tbN j (tbN l Av))) ds Q xe :=
 qc2 g (qc2 k (qc2 f (qa2 f (qa2 b (qa2 c h)))))
theorem qaS2{C:Addr}{k:Nat}{w:D}(f:rdN i ds=some p)(hm:p.isM C m=true)(g:rdN j ds=some x)(h:rdN l ds=some y)(e:rdN k ds=some w)(a:rdN l (ds.set k .unk)=some y)(b:rdN j ((ds.set k .unk).set l .unk)=some x)(c:rdN i (((ds.set k .unk).set l .unk).set j .unk)=some p)(r:R [p,x,y,w] d)(n:Aj [.sl i,.sl j,.sl l,.sl k] [p,x,y,w] ((((ds.set k .unk).set l .unk).set j .unk).set i .unk)=some ds)(q:Q d ds):qr4 C m (Au R) [] i (tbN j (tbN l (tbN k Av))) ds Q xe :=
 qj2 f hm (qc2 g (qc2 h (qc2 e (qa2 e (qa2 a (qa2 b (qa2 c (qq4 r (qa2 n q)))))))))
theorem qad6(h:ds[j]? = some d):ds.set j d=ds:=by
 obtain⟨a,e⟩:=zA5.mp h;rw[<- e];exact List.set_getElem_self a
theorem qd8(h:ds[i]? = some d)(a:d.known=true):rdN i ds=some d:=qo7.mpr ⟨h,a⟩
def isBag(ns:List Int)(b:D):Prop:=∃ x y z,b=bagD x y z ns/\Bg x y z ns
theorem isBag.known{ns:List Int}{b:D}(h:isBag ns b):b.known=true:=by obtain⟨x,y,z,rfl,_⟩:=h;rfl
def qad2:VSp:=λ ds Q _=>∃ b m a,ds=[b,.int m]/\isBag a b/\0 < m/\m < 2 ^ 200/\∀ v c,0<=v->v < m->isBag a c->Q (.int v) [c,.int m]
theorem qd5{b:D}{ns:List Int}{m:Int}(d:ds[i]? = some b)(B:isBag ns b)(e:f ds=some (.int m))(g:0 < m)(h1:m < 2 ^ 200)(q:∀ v a,0<=v->v < m->isBag ns a->Q (.int v) (ds.set i a)):qm1 qad2 [] (tbN i (tbV (Bz f) Av)) ds Q xe:=by
 have c:=qd8 d B.known;refine qc2 c (qc3 e (qa2 c ⟨b,m,ns,rfl,B,g,h1,λ v a h j B'=>?_⟩));show Q (.int v) ((ds.set i .unk).set i a);rw[List.set_set];exact q v a h j B'
theorem Hv{i j:Int}(h:small j=true):Go (.int i) (.int j)=some (.int (i * j)):=qh9 (by rw[h,Bool.or_true])
theorem Km{i j:Int}(h:small i=true):Go (.int i) (.int j)=some (.int (i * j)):=qh9 (by rw[h,Bool.true_or])
theorem qaC8{i j:Int}(h:0 < j)(h1:j < 2 ^ 200):gDiv (.int i) (.int j)=some (.int (i / j)):=qh9 (by show (decide (0 < j)&&decide (j < 2 ^ 200))=true;rw[zAo h,zAo h1];rfl)
theorem Iz{x n:Int}(h:0 < n):Ld (.int x) (.int n)=some (.int (x % n)):=qh9 (zAo h)
theorem qy6{i:Int}(h:-(2 ^ 64) < i)(h':i < 2 ^ 64):small i=true:=by unfold small;rw[zAo h,zAo h'];rfl
theorem Im{z:Bool}{g:Nat->Option Int}(h:r < N):gIx (.lst z (rlD N g)) (.int (r:Int))=some (Hi (g r)):=qY9 (qN3 h)
theorem M3{g:Nat->Option Int}(h:r < N):ixN (rlD N g).length (r:Int)=some r:=by
 rw[qB2];unfold ixN;simp[h]
theorem qQ2{n:Nat}{g:Nat->Option Int}{c:Int}:(rlD n g).set i (.int c)=rlD n (Row.set g i c):=qad7 (o:=some c)
theorem qaz5(N:Nat):(List.replicate N [D.non]).flatten=rlD N (λ _=>none):=by
 unfold rlD
 induction N with
 | zero=>rfl
 | succ N a=>rw[List.replicate_succ',List.flatten_append,a,List.range_succ,zBl];rfl
theorem qag4{n:Int}(a:0<=n)(h1:n<=64):Go (.lst false [.non]) (.int n)=some (.lst false (rlD n.toNat λ _=>none)):=by
 show gd _ _=_;rw[<- qaz5];exact qh9 ⟨rfl,by show 1 * n.toNat<=1000000;lia,by lia,by lia⟩
theorem qH7{g g':Nat->Option Int}(h:∀ i,i < N->g i=g' i):rlD N g=rlD N g':=by
 unfold rlD;apply List.map_congr_left;intro i a;rw[h i (zAj.mp a)]
theorem qM5(lo:Int)(n:Nat):(Bl lo n).length=n:=by unfold Bl;rw[zAf,zAz]
theorem qk8(e:f ds=some d)(hi:d.imm=true)(q:Q d ds):Br f ds Q xe:=qa2 (a:=d) (k:=λ(d:D)=>d.imm=true/\Q d ds) e ⟨hi,q⟩
theorem qL1(h:f ds=some d)(hi:d.imm=true)(q:e.nx (ds.set i d)):Hu (Br f) (gNm i) e ds:=qk8 (Q:=λ d a=>gNm i d a e.nx) h hi q
theorem qU8(h:f ds=some d)(q:e.nx (ds.set i d)):Hu (Bz f) (gNm i) e ds:=qq3 (Q:=λ d a=>gNm i d a e.nx) h q
theorem qau5{n:Nat}{K:Ds->Prop}(hi:ds[i]? = some (.lst false ys))(b:fb ds=some (.int k))(c:ixN ys.length k=some n)(q:K (ds.set i (.lst false (ys.set n d)))):Jd (λ _=>some (i,[])) fb d ds K:=by
 refine qa2 (a:=(i,([]:List Nat))) rfl ?_;refine qa2 (a:=ys) (by show (Ay ds i []).bind D.own=_;rw[qJ4 hi];rfl) ?_;refine qa2 (a:=k) (by rw[b];rfl) ?_;refine qa2 c ?_;show K (A7 ds i [] (.lst false (ys.set n d)));rw[qG9 hi];exact q
theorem qU5{n:Nat}(b:f ds=some d)(c:d.imm=true)(hi:ds[i]? = some (.lst false ys))(g:fb ds=some (.int k))(h:ixN ys.length k=some n)(q:e.nx (ds.set i (.lst false (ys.set n d)))):Hu (Br f) (Jd (λ _=>some (i,[])) fb) e ds :=
 qk8 (Q:=λ d a=>Jd (λ _=>some (i,[])) fb d a e.nx) b c (qau5 hi g h q)
theorem qU4{n:Nat}(b:f ds=some d)(hi:ds[i]? = some (.lst false ys))(c:fb ds=some (.int k))(g:ixN ys.length k=some n)(q:e.nx (ds.set i (.lst false (ys.set n d)))):Hu (Bz f) (Jd (λ _=>some (i,[])) fb) e ds :=
 qq3 (Q:=λ d a=>Jd (λ _=>some (i,[])) fb d a e.nx) b (qau5 hi c g q)
theorem qy2{K:Ds->List Pl->Ds->Prop}(c:f ds=some y)(hi:y.imm=true)(h:tr ds (λ xs ps a=>K (y::xs) (.no::ps) a) xe):tbV (Br f) tr ds K xe:=qk8 (Q:=λ y b=>tr b (λ xs ps a=>K (y::xs) (.no::ps) a) xe) c hi h
theorem qO1(hi:ds[i]? = some (.lst false ys))(b:f ds=some d)(c:ys.length < big)(q:Q .non (ds.set i (.lst false (ys++[d])))):J1 gApp i (tbV (Bz f) Av) ds Q xe:=by
 have e:(rdN i ds).bind D.own=some ys:=by rw[qd8 hi rfl];rfl
 refine⟨by rw[e];rfl,qc3 b ?_⟩;refine qa2 (k:=λ ys=>orF (gApp ys [d]) λ z=>Q z.2 (ds.set i (.lst false z.1))) e ?_;exact qa2 (a:=(ys++[d],D.non)) (if_pos c) q
theorem qat2{g:Ds->Ds->Option (Ds×D)}{p:List Nat}{d0:D}(h1:pf ds=some (i,p))(h2:(Ay ds i p).bind D.own=some ys)(a:ds[i]? = some d0)(h:tr (ds.set i .unk) (λ xs _ ds1=>orF (g ys xs) λ z=>Q z.2 (A7 (ds1.set i d0) i p (.lst false z.1))) xe):Jc g pf tr ds Q xe:=by
 unfold Jc;rw[h1];show orF ((Ay ds i p).bind D.own) _;rw[h2];show orF ds[i]? _;rw[a];exact h
theorem qaU9{f:Int->Int->Int}{b:FV}{x y:Int}(hi:ds[i]? = some (.lst false ys))(c:fb ds=some (.int k))(d:0<=k)(g:ys[k.toNat]? = some (.int x))(h:b ds=some (.int y))(q:e.nx (ds.set i (.lst false (ys.set k.toNat (.int (f x y)))))):sAugV f (λ _=>some (i,[])) fb b e ds:=by
 refine qa2 (a:=(i,([]:List Nat))) rfl ?_;refine qa2 (a:=ys) (by show (Ay ds i []).bind D.own=_;rw[qJ4 hi];rfl) ?_;refine qa2 (a:=k) (by rw[c];rfl) ⟨d,?_⟩;refine qa2 (a:=x) (by rw[g];rfl) ?_;refine qa2 (a:=y) (by rw[h];rfl) ?_;show e.nx (A7 ds i [] _);rw[qG9 hi];exact q
theorem Iq(b:Bool)(h:fa ds=some (.bl b))(h1:b=true->tb ds Q xe)(h2:b=false->Q (.bl false) ds):Kw (Bz fa) tb ds Q xe :=
 qq3 (xe:=xe) (Q:=λ x ds=>orF x.asB λ k=>if k=true then tb ds Q xe else Q (.bl false) ds) h (ite_b h1 h2)
theorem Ln{K:Ds->Prop}(h:K (ds.set i d)):gNm i d ds K:=h
theorem qb5{K:Ds->List Pl->Ds->Prop}(h:K [] [] ds):Av ds K xe:=h
theorem qf7(h:te ds (λ _ a=>e.nx a) e.xe):sExpr te e ds:=h
theorem qB6{K:Ds->Prop}(h:K ((ds.set i x).set j y)):Mm 2 (Lh (gNm i) (Lh (gNm j) Mj)) (.tup [x,y]) ds K:=⟨rfl,h⟩
theorem qal5{Q:Bool->Ds->Prop}(h:Q true ds):qYes ds Q xe:=h
theorem qf6{K:Ds->List Pl->Ds->Prop}(h:ta ds (λ x ds1=>tr ds1 (λ xs ps a=>K (x::xs) (.no::ps) a) xe) xe):tbV ta tr ds K xe:=h
theorem qK3(a:fa ds=some x)(b:fb ds=some y)(c:x.imm=true)(d:y.imm=true):Bc gTup (Aw fa (Aw fb λ _=>some [])) ds=some (.tup [x,y]):=by
 unfold Bc Aw;rw[a,b];show gd (D.imms [x,y]=true/\[x,y].length<=big) (.tup [x,y])=_;refine qh9 ⟨?_,by show 2<=1000000;decide⟩;show (x.imm&&(y.imm&&true))=true;rw[c,d];rfl
theorem qX7:Gn ys none (some (r:Int))=ys.take r:=by
 unfold Gn;have a:HT.sIx ys.length ys.length (some ((r:Nat):Int))=min r ys.length:=HT.qae3 _ _ r;rw[a,HT.qR1,List.drop_zero,Nat.sub_zero];by_cases h:r<=ys.length
 . rw[Nat.min_eq_left h]
 rw[Nat.min_eq_right (by lia),List.take_length,zBn (by lia)]
theorem qaU1(h:y∈enD ys):∃ i v,y=.tup [.int (i:Nat),v]/\ys[i]? = some v:=by
 obtain⟨⟨v,i⟩,a,rfl⟩:=zBb.mp h;exact⟨i,v,rfl,List.mem_zipIdx_iff_getElem?.mp a⟩
theorem qax3{g:Nat->Option Int}(h:d∈rlD N g):d=.non∨∃ k,d=.int k:=by
 unfold rlD at h;obtain⟨i,_,rfl⟩:=zBb.mp h;cases g i with
 | none=>exact .inl rfl
 | some k=>exact .inr ⟨k,rfl⟩
theorem qD4{g:D->D->Option D}{Q:Bool->Ds->Prop}(h:ta ds (λ x ds1=>orF ((fb ds1).bind (g x)) λ d=>orF d.asB λ b=>Q b ds1) xe):ttE (t2v g ta fb) ds Q xe:=h
theorem qn2(h:tr ds (λ xs ps ds1=>s (xs++[]) (λ d ys=>orF (Aj ps ys ds1) λ a=>Q d a) (λ x ys=>orF (Aj ps ys ds1) λ a=>xe x a)) xe):qm1 s [] tr ds Q xe:=h
theorem t2_of{g:D->D->Option D}(c:fa ds=some x)(hi:x.imm=true)(h:tb ds (λ y a=>orF (g x y) λ d=>Q d a) xe):t2 g (Br fa) tb ds Q xe:=qk8 (Q:=λ x b=>tb b (λ y a=>orF (g x y) λ d=>Q d a) xe) c hi h
theorem M4{g:D->D->Option D}(c:fa ds=some x)(h:tb ds (λ y a=>orF (g x y) λ d=>Q d a) xe):t2 g (Bz fa) tb ds Q xe:=qq3 (xe:=xe) (Q:=λ x b=>tb b (λ y a=>orF (g x y) λ d=>Q d a) xe) c h
theorem qP2{g:D->D->Option D}(h:ta ds (λ x ds1=>orF ((fb ds1).bind (g x)) λ d=>Q d ds1) xe):t2v g ta fb ds Q xe:=h
theorem qx4(h:tr ds (λ xs _ ds1=>xs.length<=big/\Q (.lst false xs) ds1) xe):Mh tr ds Q xe:=h
theorem qj5(h:te ds (λ d a=>e.nx (a.set i d)) e.xe):Hu te (gNm i) e ds:=h
theorem qaV3(h:ta ds (λ x ds1=>orF x.asB λ k=>if k=true then tb ds1 Q xe else Q (.bl false) ds1) xe):Kw ta tb ds Q xe:=h
theorem qM4{C:Addr}(h:tr ds (λ xs ps ds1=>s (.ins false C []::(xs++[])) (λ d ys=>d.isN=some true/\orF ys.head? λ self=>orF (Aj ps ys.tail ds1) λ a=>Q self a) (λ x ys=>orF (Aj ps ys.tail ds1) λ a=>xe x a)) xe):qP1 C s [] tr ds Q xe:=h
theorem qe4{K:Ds->List Pl->Ds->Prop}(b:f ds=some y)(h:tr ds (λ xs ps a=>K (y.fz::xs) (.no::ps) a) xe):tbV (tFzV (Bz f)) tr ds K xe:=qa2 (k:=λ(y:D)=>tr ds (λ xs ps a=>K (y.fz::xs) (.no::ps) a) xe) b h
theorem Jl(h:te ds (λ d ds1=>Q d.fz ds1) xe):tFzV te ds Q xe:=h
def okN:Nat->D->Bool
 | n+1,.lst _ xs=>xs.all (okN n)
 | n+1,.tup xs=>xs.all (okN n)
 | _,x=>x.d0||x.flat.isSome
theorem qs7{f:D->D->Option Bool}:∀{xs:List D},(∀ x∈xs,f x x=some true)->Jp f xs xs=some true
 | [],_=>rfl
 | x::xs,h=>by
   show ((f x x).bind λ a=>(Jp f xs xs).bind λ b=>some (a&&b))=_;rw[h x zAe,qs7 λ y c=>h y (zA6 _ c)];rfl
theorem qT1(h:(x.d0||x.flat.isSome)=true):eqZ x x=some true:=by
 unfold eqZ;split
 . rfl
 rename_i hn
 have a:x.d0=false:=by
   cases e:x.d0 with
   | false=>rfl
   | true=>rw[e] at hn;exact absurd rfl hn
 rw[a,Bool.false_or] at h;cases x with
 | non=>rfl
 | bl b=>show some (eqV (.bl b) (.bl b))=_;rw[qB9 rfl]
 | int i=>show some (eqV (.int i) (.int i))=_;rw[qB9 rfl]
 | str i=>show some (eqV (.str i) (.str i))=_;rw[qB9 rfl]
 | _=>cases h
theorem qJ6:∀{n:Nat}{x:D},okN n x=true->eqN n x x=some true
 | 0,x,h=>by
   rw[qT2];refine qT1 ?_;cases x<;>exact h
 | n+1,x,h=>by
   cases x with
   | lst z b=>exact qs7 λ y a=>qJ6 (zB2.mp h y a)
   | tup b=>exact qs7 λ y a=>qJ6 (zB2.mp h y a)
   | _=>exact qT1 h
theorem qaj3(h:okN 21 x=true):gNe x x=some (.bl false):=by
 have e:eqT x x=some true:=by
   cases x with
   | lst z b=>exact qs7 λ y a=>qJ6 (zB2.mp h y a)
   | tup b=>exact qs7 λ y a=>qJ6 (zB2.mp h y a)
   | _=>exact qT1 h
 unfold gNe;rw[e];rfl
theorem qaD0{src:List (Option Nat)}{g:VTG}{qf:VTT}(h:tr ds (λ xs _ ds1=>orF (Mq xs) λ j=>Ij j=true/\Jg src g qf te (Bl 0 j.toNat) ds1 Q) xe):Mt src (Mu tr) g qf te ds Q xe:=h
theorem qaS5(h:(ksD ks)[i]? = some y):∃ z,ks[i]? = some z/\y=.int z:=by
 unfold ksD at h;rw[zB3] at h;cases e:ks[i]? with
 | none=>rw[e] at h;cases h
 | some z=>rw[e] at h;exact⟨z,rfl,(Option.some.inj h).symm⟩
theorem qK4(h:ks[i]? = some k):ks.take (i+1)=ks.take i++[k]:=by rw[List.take_add_one,h];rfl
theorem qR9(b:ks.Nodup)(h:ks[i]? = some k):¬ k∈ks.take i:=λ z=>by
 obtain⟨j,a⟩:=List.getElem?_of_mem z;rw[List.getElem?_take] at a;split at a
 . rename_i hlt
   obtain⟨d,c⟩:=zA5.mp h;obtain⟨e,e2⟩:=zA5.mp a
   have:=(List.getElem_inj b).mp (e2.trans c.symm)
   lia
 cases a
theorem _root_.Row.Kept.free{n:Nat}{wr:Bool}{g:Nat->Option Int}(KP:Kept n wr hm g S)(a:(S++[k]).Sublist ks)(b:∀ q,¬ Crowd n wr hm ks q):∃ e,Lb n wr hm g k e:=by
 by_cases h:∃ e,Lb n wr hm g k e
 . exact h
 obtain⟨q,c⟩:=KP.crowd λ e z=>h ⟨e,z⟩
 exact absurd (c.mono a) (b q)
theorem qau6:∀ ps:Pr,D.fzs (prD ps)=prD ps
 | []=>rfl
 | p::r=>congrArg (D.tup [.int p.1,.int p.2]::·) (qau6 r)
theorem qaL9:∀ ps:Pr,D.fzk (kvD ps)=kvD ps
 | []=>rfl
 | p::r=>congrArg ((Sum.inl p.1,D.int p.2)::·) (qaL9 r)
theorem qau7{z:Bool}{C:Addr}{n:Int}{wr:Bool}{ps:Pr}:(planD z C n wr ps).fz=planD true C n wr ps:=by
 show D.ins true C [("rooms",.int n),("wraps",.bl wr),("homes",.lst true (D.fzs (prD ps))),("home_numbers",.dct true (D.fzk (kvD ps)))]=_;rw[qau6,qaL9];rfl
theorem qaV5{z z':Bool}{A B:List Int}(h:A.length+B.length<=1000):Kh (.lst z (ksD A)) (.lst z' (ksD B))=some (.lst false (ksD (A++B))):=by
 show gd _ (D.lst false (ksD A++ksD B))=_;rw[show ksD (A++B)=ksD A++ksD B from zBl];exact qh9 ⟨qN1 A,qN1 B,by rw[qM6,qM6];unfold big;lia⟩
theorem co_to{gc:Ds->Option D}(h:tr ds (λ xs _ ds1=>orF (gc xs) λ d=>Q d ds1) xe):tcO gc (Mu tr) ds Q xe:=h
theorem qJ3{w:VTS}(h:qc ds (λ b a=>if b=true then t { e with nx:=w e } a else w e a) e.xe):Iy (sIf qc t Jr) w e ds:=h
theorem qY2{g:VTG}{qf:VTT}{te:VT}{K:Ds->Ds->Prop}(I:Nat->Ds->Ds->Prop):∀(xs:Ds)(i:Nat)(acc ι:Ds),I i acc ι->(∀(j:Nat)(x:D),xs[j]? = some x->∀ acc ι,I (i+j) acc ι->∀ R:Ds->Ds->Prop,(∀ acc' ι',I (i+j+1) acc' ι'->R acc' ι')->g x ι λ ι1=>qf ι1 (λ b ι2=>if b=true then te ι2 (λ d ι3=>acc.length < big/\R (acc++[d]) ι3) (λ _ _=>False) else R acc ι2) (λ _ _=>False))->(∀ acc ι,I (i+xs.length) acc ι->K acc ι)->Hg g qf te K xs acc ι
 | [],_,acc,ι,h,_,hn=>hn acc ι h
 | x::xs,i,acc,ι,h,hs,hn=>hs 0 x rfl acc ι h _ λ acc' ι' c=>qY2 I xs (i+1) acc' ι' c (λ j y e acc2 ι2 a R f=>hs (j+1) y e acc2 ι2 (by rw[show i+(j+1)=i+1+j by lia];exact a) R λ acc3 ι3 k=>f acc3 ι3 (by rw[show i+1+j+1=i+(j+1)+1 by lia];exact k)) λ acc2 ι2 a=>hn acc2 ι2 (by rw[zAn,show i+(xs.length+1)=i+1+xs.length by lia];exact a)
theorem qau4{t:VT}{C:Addr}{fl:Str}{n:Int}(b:Bool)(h:∀(Q:DK)(xe:XKd),Q (.bl b) ds->t ds Q xe)(h1:b=true->u e ds)(h2:b=false->e.xe ⟨C,[(fl,.int n)]⟩ ds):Iy (sIf (Ie (ttE t)) (qas0 C fl (Bz (kC (.int n)))) Jr) u e ds:=h _ _ (by
 cases b with
 | true=>exact h1 rfl
 | false=>exact⟨rfl,h2 rfl⟩)
theorem qG2{l m n:Int}(h1:l<=n)(h2:n<=m):(D.int n).within l m=true:=by
 show (decide (l<=n)&&decide (n<=m))=true;rw[zAo h1,zAo h2];rfl
theorem qn3{p:List Nat}{w:V}{ps:List Pl}(h:Ay ds i p=some (.hole w)):Aj (.pl i p w::ps) (y::ys) ds=Aj ps ys (A7 ds i p y):=by
 show (match Ay ds i p with | some (.hole a)=>if a=w then Aj ps ys (A7 ds i p y) else none | _=>none)=_;rw[h];exact if_pos rfl
theorem qS2{C:Addr}(a:rdN i ds=some p)(hm:p.isM C m=true)(r:R [p] d)(b:Aj [.sl i] [p] (ds.set i .unk)=some ds)(q:Q d ds):qr4 C m (Au R) [] i Av ds Q xe :=
 qj2 a hm (qb5 (qa2 a (qq4 r (qa2 b q))))
theorem qI5{C:Addr}{p:List Nat}(h1:pf ds=some (i,p))(h2:Ay ds i p=some d)(hm:d.isM C m=true)(h:∀ w,tr (A7 ds i p (.hole w)) (λ xs ps ds1=>s (d::(xs++[])) (λ r ys=>orF (Aj (Pl.pl i p w::ps) ys ds1) λ b=>Q r b) (λ x ys=>orF (Aj (Pl.pl i p w::ps) ys ds1) λ b=>xe x b)) xe):qP0 C m s [] pf tr ds Q xe :=
 qa2 (a:=(i,p)) h1 (qa2 (a:=d) h2 ⟨hm,h⟩)
theorem M5(h:tr ds (λ xs _ ds1=>xs.length<=big/\Q (.tup xs) ds1) xe):Mi tr ds Q xe:=h
theorem qam3{g:D->D->Option D}(h:ta ds (λ x ds1=>tb ds1 (λ y a=>orF (g x y) λ d=>Q d a) xe) xe):t2 g ta tb ds Q xe:=h
local macro_rules | `(tactic| walk_at "s")=>`(tactic| exact⟨rfl,rfl,rfl,by decide +kernel,rfl,by decide +kernel,by decide +kernel⟩)
noncomputable def top(i:Nat):Stmt:=PySem.Challenge.pw_homeward_k65_growing_refused.main.body.getD i (.Pass ⟨0,0,0,0⟩)
abbrev qar9:Stmt:=top 0
abbrev qp9:Stmt:=qc8 (top 3) 0
abbrev qm5:Stmt:=qc8 (top 4) 0
abbrev qq0:Stmt:=qc8 (top 5) 0
abbrev qi5:Stmt:=qc8 (top 6) 0
abbrev qz4:Stmt:=top 17
abbrev qf8:Stmt:=top 18
abbrev qu3:Stmt:=top 19
abbrev qp8:Stmt:=top 20
abbrev qh3:Stmt:=top 21
abbrev qj8:Stmt:=top 22
abbrev qu7:Stmt:=qc8 (top 23) 0
abbrev qf9:Stmt:=qc8 (top 23) 1
abbrev qk0:Stmt:=qc8 (top 23) 2
abbrev qu8:Stmt:=qc8 (top 23) 4
abbrev qA0:Stmt:=qc8 (top 23) 5
abbrev qg0:Stmt:=qc8 (top 23) 6
abbrev qp7:Stmt:=top 25
abbrev qe1:Stmt:=top 26
abbrev qz3:Stmt:=top 27
abbrev qu2:Stmt:=top 28
abbrev qz5:Stmt:=top 29
abbrev qu6:Stmt:=top 31
abbrev qj9:Stmt:=top 32
abbrev qj7:Stmt:=top 33
abbrev qz6:Stmt:=top 34
abbrev qu4:Stmt:=top 35
abbrev qm3:Stmt:=top 37
abbrev qi3:Stmt:=top 38
abbrev qu5:Stmt:=top 39
abbrev qz9:Stmt:=qc8 (top 40) 0
abbrev qh4:Stmt:=qc8 (top 40) 1
abbrev qi4:Stmt:=qc8 (top 40) 2
abbrev qz8:Stmt:=qc8 (top 40) 3
abbrev qm4:Stmt:=qc8 (top 40) 4
abbrev qH4:Stmt:=qc8 (top 40) 5
abbrev qz7:Stmt:=qc8 (top 40) 6
abbrev qm2:Stmt:=top 41
abbrev qu1:Stmt:=top 44
abbrev qk2:Stmt:=qc8 (top 45) 0
abbrev qe2:Stmt:=qc8 (top 45) 1
abbrev qm6:Stmt:=qc8 (top 45) 2
abbrev qk1:Stmt:=qc8 (top 45) 3
abbrev qe5:Stmt:=qc8 (top 45) 4
abbrev qg1:Stmt:=qc8 (top 45) 5
abbrev qk3:Stmt:=qc8 (top 45) 6
abbrev qaw8:Stmt:=top 47
abbrev qae0:Stmt:=top 48
abbrev qae1:Stmt:=top 49
abbrev qR0:Stmt:=top 50
abbrev qae2:Stmt:=top 51
abbrev qaw7:Stmt:=top 52
abbrev qq1:Stmt:=top 53
abbrev Kd:Stmt:=top 54
set_option genInjectivity false in
set_option genSizeOf false in
structure Adr where
 f0:Addr
 d0:FuncData
 f1:Addr
 d1:FuncData
 f2:Addr
 d2:FuncData
 f3:Addr
 d3:FuncData
 f4:Addr
 d4:FuncData
 f5:Addr
 d5:FuncData
 f6:Addr
 d6:FuncData
 f7:Addr
 d7:FuncData
 f8:Addr
 d8:FuncData
 f9:Addr
 d9:FuncData
 f10:Addr
 d10:FuncData
 f11:Addr
 d11:FuncData
 f12:Addr
 d12:FuncData
 f13:Addr
 d13:FuncData
 f14:Addr
 d14:FuncData
 f15:Addr
 d15:FuncData
 f16:Addr
 d16:FuncData
 f17:Addr
 d17:FuncData
 f18:Addr
 d18:FuncData
 f19:Addr
 d19:FuncData
 f20:Addr
 d20:FuncData
 f21:Addr
 d21:FuncData
 f22:Addr
 d22:FuncData
 f23:Addr
 d23:FuncData
 f24:Addr
 d24:FuncData
 f25:Addr
 d25:FuncData
 f26:Addr
 d26:FuncData
 f27:Addr
 d27:FuncData
 f28:Addr
 d28:FuncData
 f29:Addr
 d29:FuncData
 f30:Addr
 d30:FuncData
 f31:Addr
 d31:FuncData
 f32:Addr
 d32:FuncData
 f33:Addr
 d33:FuncData
 f34:Addr
 d34:FuncData
 f35:Addr
 d35:FuncData
 f36:Addr
 d36:FuncData
 f37:Addr
 d37:FuncData
 f38:Addr
 d38:FuncData
 f39:Addr
 d39:FuncData
 f40:Addr
 d40:FuncData
 f41:Addr
 d41:FuncData
 f42:Addr
 d42:FuncData
 f43:Addr
 d43:FuncData
 f44:Addr
 d44:FuncData
 f45:Addr
 d45:FuncData
 f46:Addr
 d46:FuncData
 f47:Addr
 d47:FuncData
 f48:Addr
 d48:FuncData
 f49:Addr
 d49:FuncData
 f50:Addr
 d50:FuncData
 f51:Addr
 d51:FuncData
 f52:Addr
 d52:FuncData
 f53:Addr
 d53:FuncData
 Cy:Tok
 D0:Tok
 D1:Tok
 Cz:Tok
 Ca:Addr
 Cc:Addr
 Cb:Addr
 Cv:Addr
 Ci:Addr
 Cf:Addr
 Cj:Addr
 Ce:Addr
 D2:Addr
 D6:Addr
 D3:Addr
 Da:Addr
 D4:Addr
 Cw:Addr
structure Txt(K:PySem.W.Frag)(mg:Str->Option Value)(a:Adr):Prop where
 d0:Df K mg "_wall" "_wall" qar9 a.f0 a.d0 ["k"]
 d1:Md K a.Ci "__init__" "Wrong.__init__" qp9 a.f1 a.d1 ["self", "at"]
 d2:Md K a.Cf "__init__" "NoRoom.__init__" qm5 a.f2 a.d2 ["self", "room"]
 d3:Md K a.Cj "__init__" "There.__init__" qq0 a.f3 a.d3 ["self", "key"]
 d4:Md K a.Ce "__init__" "NotThere.__init__" qi5 a.f4 a.d4 ["self", "key"]
 d5:Df K mg "is_whole" "is_whole" qz4 a.f5 a.d5 ["thing"]
 d6:Df K mg "is_whole_within" "is_whole_within" qf8 a.f6 a.d6 ["thing", "least", "most"]
 d7:Df K mg "is_number" "is_number" qu3 a.f7 a.d7 ["thing"]
 d8:Df K mg "are_parted" "are_parted" qp8 a.f8 a.d8 ["numbers"]
 d9:Df K mg "is_number_pair" "is_number_pair" qh3 a.f9 a.d9 ["thing"]
 d10:Df K mg "is_home_list" "is_home_list" qj8 a.f10 a.d10 ["thing"]
 d11:Md K a.Ca "__init__" "Plan.__init__" qu7 a.f11 a.d11 ["self", "rooms", "wraps", "homes"]
 d12:Md K a.Ca "homes_told" "Plan.homes_told" qf9 a.f12 a.d12 ["self"]
 d13:Md K a.Ca "is_room" "Plan.is_room" qk0 a.f13 a.d13 ["self", "thing"]
 d14:Md K a.Ca "home" "Plan.home" qu8 a.f14 a.d14 ["self", "key"]
 d15:Md K a.Ca "far" "Plan.far" qA0 a.f15 a.d15 ["self", "key", "room"]
 d16:Md K a.Ca "goes_ahead" "Plan.goes_ahead" qg0 a.f16 a.d16 ["self", "room", "one", "other"]
 d17:Df K mg "room_ahead" "room_ahead" qp7 a.f17 a.d17 ["plan", "room"]
 d18:Df K mg "word_by_room_ahead" "word_by_room_ahead" qe1 a.f18 a.d18 ["plan", "rooms", "room"]
 d19:Df K mg "word_due" "word_due" qz3 a.f19 a.d19 ["plan", "rooms", "room"]
 d20:Df K mg "is_turned" "is_turned" qu2 a.f20 a.d20 ["plan", "rooms"]
 d21:Df K mg "fault_of" "fault_of" qz5 a.f21 a.d21 ["plan", "rooms"]
 d22:Df K mg "are_crowd" "are_crowd" qu6 a.f22 a.d22 ["plan", "keys", "room"]
 d23:Df K mg "crowded_room" "crowded_room" qj9 a.f23 a.d23 ["plan", "keys"]
 d24:Df K mg "refuse_crowd" "refuse_crowd" qj7 a.f24 a.d24 ["plan", "keys"]
 d25:Df K mg "bring_in" "bring_in" qz6 a.f25 a.d25 ["plan", "rooms", "key"]
 d26:Df K mg "house_all" "house_all" qu4 a.f26 a.d26 ["plan", "keys"]
 d27:Df K mg "room_behind" "room_behind" qm3 a.f27 a.d27 ["plan", "room"]
 d28:Df K mg "is_drawn_from" "is_drawn_from" qi3 a.f28 a.d28 ["plan", "rooms", "room"]
 d29:Df K mg "draw_back" "draw_back" qu5 a.f29 a.d29 ["plan", "rooms", "room"]
 d30:MdN K a.Cc "__init__" "Row.__init__" qz9 a.f30 a.d30 ["self", "plan", "rooms"]
 d31:Md K a.Cc "rooms_held" "Row.rooms_held" qh4 a.f31 a.d31 ["self"]
 d32:Md K a.Cc "keys_held" "Row.keys_held" qi4 a.f32 a.d32 ["self"]
 d33:Md K a.Cc "many" "Row.many" qz8 a.f33 a.d33 ["self"]
 d34:Md K a.Cc "room_of" "Row.room_of" qm4 a.f34 a.d34 ["self", "key"]
 d35:Md K a.Cc "put" "Row.put" qH4 a.f35 a.d35 ["self", "key"]
 d36:Md K a.Cc "take" "Row.take" qz7 a.f36 a.d36 ["self", "key"]
 d37:Df K mg "row_of_keys" "row_of_keys" qm2 a.f37 a.d37 ["plan", "keys"]
 d38:Df K mg "row_sized" "row_sized" qu1 a.f38 a.d38 ["row", "rooms"]
 d39:Md K a.Cb "__init__" "Growing.__init__" qk2 a.f39 a.d39 ["self", "homes"]
 d40:Md K a.Cb "house_anew" "Growing.house_anew" qe2 a.f40 a.d40 ["self", "rooms"]
 d41:Md K a.Cb "put" "Growing.put" qm6 a.f41 a.d41 ["self", "key"]
 d42:Md K a.Cb "take" "Growing.take" qk1 a.f42 a.d42 ["self", "key"]
 d43:Md K a.Cb "rooms_now" "Growing.rooms_now" qe5 a.f43 a.d43 ["self"]
 d44:Md K a.Cb "row_now" "Growing.row_now" qg1 a.f44 a.d44 ["self"]
 d45:Md K a.Cb "anew" "Growing.anew" qk3 a.f45 a.d45 ["self"]
 d46:Df K mg "_law_bag" "_law_bag" qaw8 a.f46 a.d46 ["_law_script"]
 d47:Df K mg "_law_take" "_law_take" qae0 a.f47 a.d47 ["_law_bag_here", "_law_many"]
 d48:Df K mg "_law_sort" "_law_sort" qae1 a.f48 a.d48 ["_law_e"]
 d49:Df K mg "_law_asked" "_law_asked" qR0 a.f49 a.d49 ["_law_row", "_law_word", "_law_key"]
 d50:Df K mg "_law_made" "_law_made" qae2 a.f50 a.d50 ["_law_homes"]
 d51:Df K mg "_law_odd" "_law_odd" qaw7 a.f51 a.d51 ["_law_bag_here"]
 d52:Df K mg "_law_bad_homes" "_law_bad_homes" qq1 a.f52 a.d52 ["_law_bag_here"]
 d53:Df K mg "law" "law" Kd a.f53 a.d53 ["_law_script"]
 Fb:mg "MOST_NUMBER" = some (.int 1000000000000000000 a.Cy)
 De:mg "MOST_ROOMS" = some (.int 64 a.D0)
 Fe:mg "MOST_HOMES" = some (.int 64 a.D1)
 Dk:mg "LEAST_ROOMS" = some (.int 4 a.Cz)
 Fg:mg "ValueError" = none
 Gj:mg "abs" = none
 Ge:mg "all" = none
 Ga:mg "bool" = none
 Gg:mg "dict" = none
 Fk:mg "enumerate" = none
 Gi:mg "int" = none
 Ch:mg "isinstance" = none
 Dh:mg "len" = none
 Du:mg "list" = none
 Gk:mg "max" = none
 Dc:mg "range" = none
 Gh:mg "set" = none
 Gc:mg "tuple" = none
 Cg:Cl K mg "Plan" a.Ca
 Fq:Mk K a.Ca a.f11
 Ck:qc1 K a.Ca "rooms"
 Ct:qc1 K a.Ca "wraps"
 Ff:qc1 K a.Ca "homes"
 Cu:qc1 K a.Ca "home_numbers"
 Gb:IsO K a.Ca
 Cm:Cl K mg "Row" a.Cc
 G8:Mk K a.Cc a.f30
 Cr:qc1 K a.Cc "plan"
 Cs:qc1 K a.Cc "held"
 Do:qc1 K a.Cc "done"
 Gf:IsO K a.Cc
 Cd:Cl K mg "Growing" a.Cb
 Ey:Mk K a.Cb a.f39
 Cn:qc1 K a.Cb "row"
 Cq:qc1 K a.Cb "housed_anew"
 Ef:mg "HomeError" = some (.ref a.Cv)
 Dw:Exc K a.Cv
 Cp:mg "Wrong" = some (.ref a.Ci)
 D8:Exc K a.Ci
 G1:W.kitOne K (.ref a.Ci) (.type "ValueError")=some true
 Co:MkE K a.Ci a.f1
 Db:qc1 K a.Ci "at"
 G6:IsX K a.Ci
 Et:W.kitOne K (.ref a.Ci) (.ref a.Cf)=some false
 F6:W.kitOne K (.ref a.Ci) (.ref a.Cj)=some false
 E5:W.kitOne K (.ref a.Ci) (.ref a.Ce)=some false
 En:W.kitOne K (.ref a.Ci) (.ref a.D2)=some false
 Em:W.kitOne K (.ref a.Ci) (.ref a.D6)=some false
 Ek:W.kitOne K (.ref a.Ci) (.ref a.D3)=some false
 F7:W.kitOne K (.ref a.Ci) (.ref a.Da)=some false
 Eo:W.kitOne K (.ref a.Ci) (.ref a.D4)=some false
 Ea:W.kitOne K (.ref a.Ci) (.ref a.Cw)=some false
 Fd:W.exmAny K (.ref a.Ci) [.ref a.Cj,.ref a.Ce]=some false
 Fs:W.mroIn K a.Ci (.ref a.Cv)=some true
 D7:W.mroIn K a.Ci (.ref a.Ci)=some true
 G2:W.mroIn K a.Ci (.ref a.Cf)=some false
 F8:mg "NoRoom" = some (.ref a.Cf)
 Ec:Exc K a.Cf
 Fv:W.kitOne K (.ref a.Cf) (.type "ValueError")=some true
 Fy:MkE K a.Cf a.f2
 Dl:qc1 K a.Cf "room"
 Fx:IsX K a.Cf
 Ej:W.kitOne K (.ref a.Cf) (.ref a.Ci)=some false
 Ew:W.kitOne K (.ref a.Cf) (.ref a.Cj)=some false
 Dp:W.kitOne K (.ref a.Cf) (.ref a.Ce)=some false
 Eb:W.kitOne K (.ref a.Cf) (.ref a.D2)=some false
 E9:W.kitOne K (.ref a.Cf) (.ref a.D6)=some false
 E7:W.kitOne K (.ref a.Cf) (.ref a.D3)=some false
 Ev:W.kitOne K (.ref a.Cf) (.ref a.Da)=some false
 Ed:W.kitOne K (.ref a.Cf) (.ref a.D4)=some false
 Dx:W.kitOne K (.ref a.Cf) (.ref a.Cw)=some false
 Fc:W.exmAny K (.ref a.Cf) [.ref a.Cj,.ref a.Ce]=some false
 Fp:W.mroIn K a.Cf (.ref a.Cv)=some true
 F4:W.mroIn K a.Cf (.ref a.Ci)=some false
 Er:W.mroIn K a.Cf (.ref a.Cf)=some true
 Ex:mg "There" = some (.ref a.Cj)
 Fi:Exc K a.Cj
 G0:W.kitOne K (.ref a.Cj) (.type "ValueError")=some true
 Fl:MkE K a.Cj a.f3
 Eg:qc1 K a.Cj "key"
 G3:IsX K a.Cj
 F5:W.kitOne K (.ref a.Cj) (.ref a.Ci)=some false
 Es:W.kitOne K (.ref a.Cj) (.ref a.Cf)=some false
 E2:W.kitOne K (.ref a.Cj) (.ref a.Ce)=some false
 El:W.kitOne K (.ref a.Cj) (.ref a.D2)=some false
 Ei:W.kitOne K (.ref a.Cj) (.ref a.D6)=some false
 Eu:W.kitOne K (.ref a.Cj) (.ref a.D3)=some false
 Ez:W.kitOne K (.ref a.Cj) (.ref a.Da)=some false
 Ep:W.kitOne K (.ref a.Cj) (.ref a.D4)=some false
 E8:W.kitOne K (.ref a.Cj) (.ref a.Cw)=some false
 D9:W.exmAny K (.ref a.Cj) [.ref a.Cj,.ref a.Ce]=some true
 Ft:W.mroIn K a.Cj (.ref a.Cv)=some true
 Fa:W.mroIn K a.Cj (.ref a.Ci)=some false
 F9:W.mroIn K a.Cj (.ref a.Cf)=some false
 Dv:mg "NotThere" = some (.ref a.Ce)
 Eh:Exc K a.Ce
 Fo:W.kitOne K (.ref a.Ce) (.type "ValueError")=some true
 Fm:MkE K a.Ce a.f4
 Dg:qc1 K a.Ce "key"
 Fj:IsX K a.Ce
 E3:W.kitOne K (.ref a.Ce) (.ref a.Ci)=some false
 Dt:W.kitOne K (.ref a.Ce) (.ref a.Cf)=some false
 E6:W.kitOne K (.ref a.Ce) (.ref a.Cj)=some false
 Dm:W.kitOne K (.ref a.Ce) (.ref a.D2)=some false
 Dq:W.kitOne K (.ref a.Ce) (.ref a.D6)=some false
 Dn:W.kitOne K (.ref a.Ce) (.ref a.D3)=some false
 E4:W.kitOne K (.ref a.Ce) (.ref a.Da)=some false
 Dr:W.kitOne K (.ref a.Ce) (.ref a.D4)=some false
 Di:W.kitOne K (.ref a.Ce) (.ref a.Cw)=some false
 D5:W.exmAny K (.ref a.Ce) [.ref a.Cj,.ref a.Ce]=some true
 Fh:W.mroIn K a.Ce (.ref a.Cv)=some true
 Ee:W.mroIn K a.Ce (.ref a.Ci)=some false
 Dy:W.mroIn K a.Ce (.ref a.Cf)=some false
 G5:mg "Unkept" = some (.ref a.D2)
 G7:mg "Unlike" = some (.ref a.D6)
 G4:mg "NoText" = some (.ref a.D3)
 Gd:mg "NoRow" = some (.ref a.Da)
 G9:mg "NoPlan" = some (.ref a.D4)
 Fw:mg "TooMany" = some (.ref a.Cw)
section
variable{P:Program}{w:World}{K:PySem.W.Frag}{mg:Str->Option Value}{base:Heap}{a:Adr}
theorem qL4:qa8 ["self", "at"] ["self", "at"] (qa3 qp9):=by walk_at "s"
theorem qb1(T:Txt K mg a):B7 P w K mg base CX0 1 a.f1 a.d1 ["self", "at"] (Mv a.Ci "at"):=by
 refine T.d1.F.ok qL4 (λ b H Q E h=>?_) (λ c A outer s H b Q E j h=>?_)
 . obtain⟨e,v,rfl,_⟩:=h
   rfl
 obtain⟨e,v,rfl,d,k⟩:=h;exact⟨_,(qA3 (qV1 (pv 0) (pv 1))),_,rfl,_,rfl,e,a.Ci,rfl,T.D8,T.Db,.inl ⟨d,λ f g i=>k f g i⟩⟩
theorem qZ7:qa8 ["thing"] ["thing"] (qa3 qz4):=by walk_at "s"
def qZ1:VSp:=Bu (fx1 λ x=>x.kind.map λ _=>.bl x.whole)
theorem qaa2(T:Txt K mg a):VFn P w K mg base 1 a.f5 a.d5 ["thing"] qZ1:=by
 refine VFn.mk' T.d5.F qZ7 (wOf [true]) qy0 (λ _ _ _=>qah5) (λ _ _ _=>imm1) (λ b A outer f H E g i=>⟨_,(Ae (Ak (qa4 (vand (vbi qr2 qT4.ops T.Ch (qa1 (vnm 0) (qa1 (vty "int" T.Gi) qa6 rfl) rfl)) (vone (vnot (vbi qr2 qT4.ops T.Ch (qa1 (vnm 0) (qa1 (vty "bool" T.Ga) qa6 rfl) rfl)))))))),λ j Q k h=>?_⟩);obtain⟨x,d,rfl,e,q⟩:=Mz h;obtain⟨t,c,rfl⟩:=zAi.mp e;cases x<;>first | exact q | cases c
theorem qt5:qa8 ["thing", "least", "most"] ["thing", "least", "most"] (qa3 qf8):=by walk_at "s"
def qt1:VSp:=Bu (fx3 λ x l m=>x.kind.bind λ _=>l.asI.bind λ i=>m.asI.map λ j=>.bl (x.within i j))
theorem qd4(T:Txt K mg a):VFn P w K mg base 2 a.f6 a.d6 ["thing", "least", "most"] qt1:=by
 refine VFn.mk' T.d6.F qt5 (wOf [true,true,true]) qy0 (λ _ _ _=>qaK5) (λ _ _ _=>imm3) (λ b A outer p H E r c=>⟨_,(Ae (Ak (Jq (Ah T.d5 (qaa2 T) qa0 (rm c) (vaN 0 Aa)) (Lg (qa4 (vch op_le os_le op_le os_le (vnm 1) (vnm 0) (vnm 2))))))),λ s Q u h=>?_⟩);obtain⟨x,l,m,d,rfl,e,q⟩:=pure3 h;obtain⟨t,f,e⟩:=zA1.mp e;obtain⟨i,g,e⟩:=zA1.mp e;obtain⟨j,k,rfl⟩:=zAi.mp e;cases l<;>cases g
 cases m<;>cases k
 cases x with
 | int n =>
   refine⟨rfl,?_⟩;show orF (f3 gLe gLe (rdN 1) (rdN 0) (rdN 2) [.int n,.int i,.int j]) _;have o:f3 gLe gLe (rdN 1) (rdN 0) (rdN 2) [.int n,.int i,.int j]=some (.bl (decide (i<=n)&&decide (n<=j))):=by
     show (if decide (i<=n)=true then some (D.bl (decide (n<=j))) else some (.bl false))=_;cases decide (i<=n)<;>rfl
   rw[o];exact q
 | _=>first | exact⟨rfl,q⟩ | cases f
theorem qL3:qa8 ["numbers"] ["numbers"] (qa3 qp8):=by walk_at "s"
def qK7:VSp:=Au λ ds d=>∃ z ks,ds=[.lst z (ksD ks)]/\ks.length<=1000/\d=.bl (decide ks.Nodup)
theorem qM0(T:Txt K mg a):VFn P w K mg base 1 a.f8 a.d8 ["numbers"] qK7:=by
 refine VFn.mk2 T.d8.F qL3 (wOf [true]) qb4 (λ f Q g h=>by obtain⟨d,⟨z,b,e,_⟩,_⟩:=h;rw[e];exact⟨rfl,rfl⟩) (λ i A outer n H E o j=>⟨_,(Ae (Ak (qa4 (v2 (A5 (qv2 j.u64) (qb0 _)) Bs (vlenS T.Dh T.Gh (vnm 0)) (vbi qE1 qE0.ops T.Dh (qa1 (vnm 0) qa6 rfl)))))),λ f Q g h=>?_⟩);obtain⟨d,⟨z,b,rfl,k,rfl⟩,q⟩:=h;have l:f1 Kz (rdN 0) [.lst z (ksD b)]=some (.int (qn0 b)):=by
   show ((intsD (ksD b)).bind λ c=>gd (c.length<=1000) (.int (qn0 c)))=_;rw[qat8];exact qh9 k
 have e2:f2 gEq (f1 Kz (rdN 0)) (Bc (fx1 Ki) (Aw (rdN 0) λ x=>some [])) [.lst z (ksD b)]=some (.bl (decide b.Nodup)):=by
   show ((f1 Kz (rdN 0) [.lst z (ksD b)]).bind λ x=>gEq x (.int (ksD b).length))=_;rw[l,qM6];show some (D.bl ((qn0 b:Int) == (b.length:Int)))=_
   have:=qT3 b
   by_cases h:b.Nodup
   . rw[zAo h,this.mpr h,zBa]
   have m:¬ ((qn0 b:Int)=(b.length:Int)):=λ z=>h (this.mp (by exact_mod_cast z))
   rw[zB0 h,beq_false_of_ne m]
 exact qa2 e2 q
theorem qQ5:qa8 ["thing"] ["thing"] (qa3 qu3):=by walk_at "s"
def qp5:VSp:=Bu (fx1 λ x=>x.kind.map λ _=>.bl x.num)
theorem qc4(T:Txt K mg a):VFn P w K mg base 3 a.f7 a.d7 ["thing"] qp5:=by
 refine VFn.mk' T.d7.F qQ5 (wOf [true]) qy0 (λ _ _ _=>qah5) (λ _ _ _=>imm1) (λ b A outer g H E i c=>⟨_,(Ae (Ak (Ah T.d6 (qd4 T) qa0 (rm c) (vaN 0 (vaV (qa4 Ac) (vaV (qa4 (vgi T.Fb)) Aa)))))),λ j Q k h=>?_⟩);obtain⟨x,d,rfl,e,q⟩:=Mz h;obtain⟨t,f,rfl⟩:=zAi.mp e;cases x<;>first | exact⟨rfl,q⟩ | cases f
theorem qw8:qa8 ["thing"] ["thing"] (qa3 qh3):=by walk_at "s"
def _root_.LV.D.pairB:D->Bool
 | .tup [x,y]=>x.num&&y.num
 | _=>false
def _root_.LV.D.kinded:D->Bool
 | .tup ds=>(ds.all λ d=>d.kind.isSome&&d.imm)&&decide (ds.length<=1000)
 | _=>true
def qw7:VSp:=Bu (fx1 λ x=>if x.kinded=true then x.kind.map λ _=>.bl x.pairB else none)
theorem qx3(T:Txt K mg a):VFn P w K mg base 4 a.f9 a.d9 ["thing"] qw7:=by
 refine VFn.mk' T.d9.F qw8 (wOf [true]) qy0 (λ _ _ _=>qah5) (λ _ _ _=>imm1) (λ m A outer v H E B f=>⟨_,(Ae (Ak (Jq (qa4 (vbi qr2 qT4.ops T.Ch (qa1 (vnm 0) (qa1 (vty "tuple" T.Gc) qa6 rfl) rfl))) (Jq (qa4 (v2 (A5 (qv2 f.u64) (qb0 _)) Bs (vbi qE1 qE0.ops T.Dh (qa1 (vnm 0) qa6 rfl)) Ac)) (Jq (Ah T.d7 (qc4 T) qa0 (rm f) (vaV (qb7 (v2 (A9 qd1) Aq (vnm 0) Ac)) Aa)) (Lg (Ah T.d7 (qc4 T) qa0 (rm f) (vaV (qb7 (v2 (A9 qd1) Aq (vnm 0) Ac)) Aa)))))))),λ b Q n h=>?_⟩);obtain⟨x,d,rfl,e,q⟩:=Mz h;cases x with
 | tup b =>
   by_cases c:(D.tup b).kinded=true
   . rw[if_pos c] at e
     cases e;have c:=zAb.mp c;have i:=zB2.mp c.1
     match b with
     | []=>exact q
     | [_]=>exact q
     | [x,y] =>
       have j:=zAb.mp (i x (by simp));have l:=zAb.mp (i y (by simp));obtain⟨t,o⟩:=zAy.mp j.1;obtain⟨u,p⟩:=zAy.mp l.1;refine⟨j.2,?_⟩;refine qa2 (a:=D.bl x.num) (by show (x.kind.map _)=_;rw[o];rfl) ?_;refine ite_b (λ g=>⟨l.2,qa2 (a:=D.bl y.num) (by show (y.kind.map _)=_;rw[p];rfl) ?_⟩) λ g=>?_
       . have:(D.tup [x,y]).pairB=y.num:=by show (x.num&&y.num)=_;rw[g];rfl
         rw[this] at q;exact q
       have:(D.tup [x,y]).pairB=false:=by show (x.num&&y.num)=_;rw[g];rfl
       rw[this] at q;exact q
     | x::y::z::r =>
       have e2:f2 gEq (Bc (fx1 Ki) (Aw (rdN 0) λ x=>some [])) (kC (D.int 2)) [.tup (x::y::z::r)]=some (.bl false):=by
         show some (D.bl (((x::y::z::r).length:Int) == 2))=_
         have:(((x::y::z::r).length:Int) == 2)=false:=by
           have:((x::y::z::r).length:Int)≠2:=by simp;lia
           simpa using this
         rw[this]
       have:orF (f2 gEq (Bc (fx1 Ki) (Aw (rdN 0) λ x=>some [])) (kC (D.int 2)) [.tup (x::y::z::r)]) (λ d=>orF d.asB λ k=>if k=true then Kw (qm1 qp5 [] (tbV (Br (f2 gIx (rdN 0) (kC (D.int 0)))) Av)) (qm1 qp5 [] (tbV (Br (f2 gIx (rdN 0) (kC (D.int 1)))) Av)) [.tup (x::y::z::r)] (λ d b=>Q d (fin (wOf [true]) 0 [.tup (x::y::z::r)] b)) (λ s b=>n s (fin (wOf [true]) 0 [.tup (x::y::z::r)] b)) else Q (.bl false) [.tup (x::y::z::r)]):=by
         rw[e2];exact q
       exact this
   rw[if_neg c] at e;cases e
 | _=>first | (cases e;exact q) | cases e
theorem qD0:qa8 ["thing"] ["thing"] (qa3 qj8):=by walk_at "s"
noncomputable def Ke:D->Option Int
 | .tup (.int k::_)=>some k
 | _=>none
def _root_.LV.D.homesB:D->Bool
 | .lst _ ys=>decide (ys.length<=64)&&(ys.all D.pairB&&decide (ys.filterMap Ke).Nodup)
 | _=>false
def _root_.LV.D.lstOk(p:D->Bool):D->Bool
 | .lst _ ys=>D.imms ys&&ys.all p&&decide (ys.length<=1000)
 | x=>x.kind.isSome
def Hb(y:D):Bool:=y.kind.isSome&&y.kinded
theorem qaz2(h:x.num=true):∃ n,x=.int n/\Ag n:=by
 cases x with
 | int n =>
   have:=zAb.mp h
   exact⟨n,rfl,zA9 this.1,zA9 this.2⟩
 | _=>cases h
theorem qe0{n:Int}(h:Ag n):(D.int n).num=true:=by
 show (decide (0<=n)&&decide (n<=1000000000000000000))=true;rw[zAo h.1,zAo h.2];rfl
theorem qaI3(h:y.pairB=true):∃ k m,y=.tup [.int k,.int m]/\Ag k/\Ag m:=by
 cases y with
 | tup a =>
   match a,h with
   | [x,y],h =>
     have h:=zAb.mp h;obtain⟨k,rfl,b⟩:=qaz2 h.1;obtain⟨m,rfl,c⟩:=qaz2 h.2;exact⟨k,m,rfl,b,c⟩
 | _=>cases h
theorem qaG9:∀{ys:Ds},ys.all D.pairB=true->∃ ps:Pr,ys=prD ps/\∀ p∈ps,Ag p.1/\Ag p.2
 | [],_=>⟨[],rfl,λ p h=>by simp at h⟩
 | y::r,h=>by
   rw[List.all_cons,zB8] at h;obtain⟨k,m,rfl,b,c⟩:=qaI3 h.1;obtain⟨ps,rfl,d⟩:=qaG9 h.2;refine⟨(k,m)::ps,rfl,λ p a=>?_⟩;rcases zAl.mp a with rfl | a
   . exact⟨b,c⟩
   exact d p a
theorem qM8:∀ ps:Pr,(prD ps).filterMap Ke=ps.map (·.1)
 | []=>rfl
 | p::r=>by show p.1::(prD r).filterMap Ke=_;rw[qM8 r];rfl
theorem qaN8:∀{ps:Pr},(∀ p∈ps,Ag p.1/\Ag p.2)->(prD ps).all D.pairB=true
 | [],_=>rfl
 | p::r,h=>by
   show (((D.int p.1).num&&(D.int p.2).num)&&(prD r).all D.pairB)=true;rw[qe0 (h p zAe).1,qe0 (h p zAe).2,qaN8 λ q a=>h q (zA6 _ a)];rfl
theorem M6:∀ ps:Pr,(prD ps).all Hb=true
 | []=>rfl
 | p::r=>by show (true&&(prD r).all Hb)=true;rw[M6 r];rfl
theorem qs5{z:Bool}{ps:Pr}(h:qx6 ps):(D.lst z (prD ps)).homesB=true/\(D.lst z (prD ps)).lstOk Hb=true:=by
 have a:(prD ps).length<=64:=by simpa[prD] using h.len
 constructor
 . show (decide ((prD ps).length<=64)&&((prD ps).all D.pairB&&decide ((prD ps).filterMap Ke).Nodup))=true
   rw[zAo a,qaN8 h.nums,qM8,zAo h.nd];rfl
 show (D.imms (prD ps)&&(prD ps).all Hb&&decide ((prD ps).length<=1000))=true;rw[ql6,M6,zAo (by lia)];rfl
theorem qY4{α:Type}(f:α->Bool):∀ l:List α,bools (l.map λ a=>.bl (f a))=some (l.map f)
 | []=>rfl
 | a::r=>by show (bools (r.map λ a=>D.bl (f a))).map (λ b=>f a::b)=_;rw[qY4 f r];rfl
theorem qaN9(f:α->Bool)(l:List α):gAll (.lst false (l.map λ a=>.bl (f a)))=some (.bl (l.all f)):=by
 show (bools (l.map λ a=>D.bl (f a))).map (λ b=>D.bl (b.all id))=_;rw[qY4];show some (D.bl ((l.map f).all id))=_;rw[List.all_map];rfl
def qC5:VSp:=Au λ ds d=>∃ x,ds=[x]/\x.lstOk Hb=true/\d=.bl x.homesB
theorem qo9(T:Txt K mg a):VFn P w K mg base 5 a.f10 a.d10 ["thing"] qC5:=by
 refine VFn.mk2 T.d10.F qD0 (wOf [true]) qb4 (λ L Q M ⟨d,⟨x,e,_⟩,_⟩=>by rw[e];exact⟨rfl,rfl⟩) (λ N A outer S H E f v=>⟨_,(Ab (sif (tor (Bt (tv (vbi qr2 qT4.ops T.Ch (qa1 (vnm 0) (qa1 (vty "list" T.Du) qa6 rfl) rfl)))) (Mf (q2 (Am Bq (qb0 _)) B6 (vbi qE1 qE0.ops T.Dh (qa1 (vnm 0) qa6 rfl)) (vgi T.Fe)))).te
     (Ae (Ak (qa4 vbl)))
     Ap)
     (Ae (Ak (Jq (ebi (qY3 rfl) qaN1.ops T.Ge (Ik (vaV (ecN (NY:=["pair"]) (src:=[none]) 0 (blk (λ f C g H0 i=>(Bp 0 (show (["pair"]:List Str).Nodup by decide +kernel))) (λ f C g H0 i=>Je) (λ f C g H0 i=>(Ah T.d9 (qx3 T) qI8 (rm v) (vaN 0 Aa))))) Aa))) (Lg (Ah T.d8 (qM0 T) qa0 (rm v) (vaV (ecN (NY:=["pair"]) (src:=[none]) 0 (blk (λ f C g H0 i=>(Bp 0 (show (["pair"]:List Str).Nodup by decide +kernel))) (λ f C g H0 i=>Je) (λ f C g H0 i=>(qb7 (v2 (A9 qd1) Aq (vnm 0) Ac))))) Aa))))))),λ L Q M h=>?_⟩)
 obtain⟨d,⟨x,rfl,j,rfl⟩,q⟩:=h;cases x with
 | lst z b =>
   have j:=zAb.mp j;have k:=zAb.mp j.1;have B:=zA9 j.2;refine ite_b (p:=decide ((64:Int) < (b.length:Nat))) (λ h=>?_) (λ h=>?_)
   . have n:¬ b.length<=64:=by have:=zA9 h;lia
     have:(D.lst z b).homesB=false:=by
       show (decide (b.length<=64)&&_)=false;rw[zB0 n];rfl
     rw[this] at q;exact q
   have n:b.length<=64:=by have:=zB5 h;lia
   have G:(D.lst z b).homesB=(b.all D.pairB&&decide (b.filterMap Ke).Nodup):=by
     show (decide (b.length<=64)&&_)=_;rw[zAo n];rfl
   have l:=zB2.mp k.2;refine⟨k.1,?_⟩;refine qC1 (λ ι=>∃ d,ι=[d]) (λ y=>some (.bl y.pairB)) b [] _ (by show 0+b.length < big;unfold big;lia) ⟨_,rfl⟩ ?_ ?_
   . rintro y r ι s ⟨d,rfl⟩ R u c
     have I:=zAb.mp (l y r);obtain⟨t,J⟩:=zAy.mp I.1;refine qE2 (x:=y) (rd0 (qb9 J)) (qa2 (a:=D.bl y.pairB) ?_ ?_)
     . show (if y.kinded=true then y.kind.map _ else none)=_
       rw[if_pos I.2,J];rfl
     exact⟨c,u _ ⟨_,rfl⟩⟩
   rintro ι ⟨d,rfl⟩;rw[zBh,qaB7];refine qa2 (qaN9 D.pairB b) (ite_b (λ o=>?_) λ o=>?_)
   . obtain⟨m,rfl,U⟩:=qaG9 o
     refine⟨ql6 m,qC1 (λ ι=>∃ d,ι=[d]) (λ y=>(Ke y).map .int) (prD m) [] _ (by show 0+(prD m).length < big;unfold big;lia) ⟨_,rfl⟩ ?_ ?_⟩
     . rintro y r ι s ⟨d,rfl⟩ R u c
       obtain⟨p,O,rfl⟩:=zBb.mp r;exact⟨rfl,c,u _ ⟨_,rfl⟩⟩
     rintro ι ⟨d,rfl⟩;have e:[]++(prD m).filterMap (λ y=>(Ke y).map D.int)=ksD (m.map (·.1)):=by
       rw[zBh];unfold prD ksD;rw[List.filterMap_map,List.map_map];exact qaB7 _ _
     rw[e];rw[G,o,qM8] at q;exact⟨_,⟨false,_,rfl,by simp;simp[prD] at n;lia,rfl⟩,q⟩
   rw[G,o] at q;exact q
 | _=>first | exact q | cases j
theorem qQ7:qa8 ["self", "rooms", "wraps", "homes"] ["self", "rooms", "wraps", "homes"] (qa3 qu7):=by walk_at "s"
def qP8(C:Addr):VSp:=λ ds Q _=>∃ n wr z ps,ds=[.ins false C [],.int n,.bl wr,.lst z (prD ps)]/\1<=n/\n<=64/\qx6 ps/\Q .non [planD false C n wr ps,.int n,.bl wr,.lst z (prD ps)]
theorem qaK0{z:Bool}{ps:Pr}:Mc (.lst z (prD ps))=some (.lst false (prD ps)):=qh9 (ql6 ps)
theorem qA6(T:Txt K mg a):VFn P w K mg base 6 a.f11 a.d11 ["self", "rooms", "wraps", "homes"] (qP8 a.Ca):=by
 refine VFn.mk2 T.d11.F qQ7 (wOf [true,true,true,true]) (λ o Q Q' j p r _ h=>by obtain⟨n,c,z,g,e,k,l,s,q⟩:=h;exact⟨n,c,z,g,e,k,l,s,r _ _ q⟩) (λ o Q j h=>by obtain⟨n,c,z,g,e,_⟩:=h;rw[e];exact⟨rfl,rfl⟩) (λ t A outer u H E v i=>⟨_,(Ab (sif (Bt (te (Ah T.d6 (qd4 T) qa0 (rm i) (vaN 1 (vaV (qa4 Ac) (vaV (qa4 (vgi T.De)) Aa))))))
     (Ae (qj6 T.Co (qb1 T) (rm i) T.Cp T.d1.b qa0 (qa4 Ac)))
     Ap)
     (Ab (sif (Bt (tv (vbi qr2 qT4.ops T.Ch (qa1 (vnm 2) (qa1 (vty "bool" T.Ga) qa6 rfl) rfl))))
     (Ae (qj6 T.Co (qb1 T) (rm i) T.Cp T.d1.b qa0 (qa4 Ac)))
     Ap)
     (Ab (sif (Bt (te (Ah T.d10 (qo9 T) qa0 (rm i) (vaN 3 Aa))))
     (Ae (qj6 T.Co (qb1 T) (rm i) T.Cp T.d1.b qa0 (qa4 Ac)))
     Ap)
     (Ab (Ii rfl (vpn 0) (qb7 (vnm 1)) T.Cg.cl T.Ck)
     (Ab (Ii rfl (vpn 0) (qb7 (vnm 2)) T.Cg.cl T.Ct)
     (Ab (Ii rfl (vpn 0) (qa4 (vcty qr1 qaj8.ops T.Du (qa1 (vnm 3) qa6 rfl))) T.Cg.cl T.Ff)
     (Ae (Ii rfl (vpn 0) (qa4 (vcty (qak6 rfl) qaN0.ops T.Gg (qa1 (vnm 3) qa6 rfl))) T.Cg.cl T.Cu)))))))),λ o Q j h=>?_⟩)
 obtain⟨n,c,z,g,rfl,k,l,m,q⟩:=h;refine qb6 [.ins false a.Ca [],.int n,.bl c,.lst z (prD g)] (λ K f=>?_) (qb6 [.ins false a.Ca [],.int n,.bl c,.lst z (prD g)] (λ K f=>f) (qb6 [.ins false a.Ca [],.int n,.bl c,.lst z (prD g)] (λ K f=>?_) ?_))
 . refine qai8 (λ Q j q=>qn2 (qc2 (x:=.int n) rfl (qc3 (y:=.int 1) rfl (qc3 (y:=.int 64) rfl (qb5 (qa2 (a:=D.int n) rfl (qA2 (d:=D.bl true) ?_ q))))))) f
   show some (D.bl ((D.int n).within 1 64))=_;rw[qG2 k l]
 . refine qE2 rfl ⟨D.bl true,⟨_,rfl,(qs5 m).2,by rw[(qs5 m).1]⟩,f⟩
 refine qb6 [.ins false a.Ca [("rooms",.int n)],.int n,.bl c,.lst z (prD g)] (λ K f=>⟨rfl,qa2 (a:=(0,[])) rfl (qa2 qe7 ⟨by decide,f⟩)⟩) ?_;refine qb6 [.ins false a.Ca [("rooms",.int n),("wraps",.bl c)],.int n,.bl c,.lst z (prD g)] (λ K f=>⟨rfl,qa2 (a:=(0,[])) rfl (qa2 qe7 ⟨by show 1 < 100;decide,f⟩)⟩) ?_;refine qb6 [.ins false a.Ca [("rooms",.int n),("wraps",.bl c),("homes",.lst false (prD g))],.int n,.bl c,.lst z (prD g)] (λ K f=>?_) ?_
 . refine qa2 (qaK0 (z:=z)) ?_
   exact qa2 (a:=(0,[])) rfl (qa2 qe7 ⟨by show 2 < 100;decide,f⟩)
 refine qa2 (qaM7 (z:=z) m.nd) ?_;exact qa2 (a:=(0,[])) rfl (qa2 qe7 ⟨by show 3 < 100;decide,q⟩)
theorem qD1:qa8 ["self", "thing"] ["self", "thing"] (qa3 qk0):=by walk_at "s"
def qC7(C:Addr):VSp:=Au λ ds d=>∃ z n wr ps x t,ds=[planD z C n wr ps,x]/\x.kind=some t/\d=.bl (x.within 0 (n - 1))
theorem qp0(T:Txt K mg a):VFn P w K mg base 3 a.f13 a.d13 ["self", "thing"] (qC7 a.Ca):=by
 refine VFn.mk2 T.d13.F qD1 (wOf [true,true]) qb4 (λ i Q j h=>by obtain⟨d,⟨z,n,b,c,x,t,e,_⟩,_⟩:=h;rw[e];exact⟨rfl,rfl⟩) (λ k A outer o H E p l=>⟨_,(Ae (Ak (Ah T.d6 (qd4 T) qa0 (rm l) (vaN 1 (vaV (qa4 Ac) (vaV (qa4 (v2 (Af qL8) qL7 (Ba rfl (vnm 0) T.Cg.cl T.Ck) Ac)) Aa)))))),λ i Q j h=>?_⟩);obtain⟨d,⟨z,n,b,c,x,t,rfl,f,rfl⟩,q⟩:=h;have g:rdN 1 [planD z a.Ca n b c,x]=some x:=qo7.mpr ⟨rfl,qb9 f⟩;have m:f2 gSub (f1 (D.fld a.Ca "rooms") (rdN 0)) (kC (.int 1)) [planD z a.Ca n b c,x]=some (.int (n - 1)):=f2_of (As rfl qc6) rfl rfl;show qm1 _ _ (tbN 1 _) [planD z a.Ca n b c,x] _ _;refine qc2 g ?_;refine qc3 (y:=.int 0) rfl ?_;refine qc3 m ?_;refine qa2 g ?_;refine qA2 (d:=.bl (x.within 0 (n - 1))) ?_ (qa2 rfl q);show x.kind.bind _=_;rw[f];rfl
theorem qQ8:qa8 ["self", "key"] ["self", "key"] (qa3 qu8):=by walk_at "s"
def qP9(C:Addr):VSp:=Au λ ds d=>∃ z n wr ps k,ds=[planD z C n wr ps,.int k]/\1<=n/\Ag k/\d=.int (qg7 n ps k)
theorem qaB5{z:Bool}{ps:Pr}(h:fa ds=some (.dct z (kvD ps)))(a:rdN i ds=some (.int k)):fget fa (rdN i) (rdN i) ds=some (.int ((ps.lookup k).getD k)):=by
 unfold fget;rw[h,a];show gd (((Gp (kvD ps) (.inl k)).getD (.int k)).imm=true) ((Gp (kvD ps) (.inl k)).getD (.int k))=_;rw[qar3];cases ps.lookup k<;>rfl
theorem qaJ8{x n:Int}(h:1<=n):Ld (.int x) (.int n)=some (.int (x % n)):=qh9 (zAo (by lia))
theorem qq2(T:Txt K mg a):VFn P w K mg base 4 a.f14 a.d14 ["self", "key"] (qP9 a.Ca):=by
 refine VFn.mk2 T.d14.F qQ8 (wOf [true,true]) qb4 (λ i Q j h=>by obtain⟨d,⟨z,n,c,f,k,e,_⟩,_⟩:=h;rw[e];exact⟨rfl,rfl⟩) (λ l A outer p H E r g=>⟨_,(Ab (sif (Bt (te (Ah T.d7 (qc4 T) qa0 (rm g) (vaN 1 Aa))))
     (Ae (qj6 T.Co (qb1 T) (rm g) T.Cp T.d1.b qa0 (qa4 Ac)))
     Ap)
     (Ae (Ak (qa4 (v2 (Af qx2) qx0 (vget (hu_of g) (Ba rfl (vnm 0) T.Cg.cl T.Cu) (vnm 1) (vnm 1) ⟨rfl,rfl,rfl,rfl⟩) (Ba rfl (vnm 0) T.Cg.cl T.Ck)))))),λ i Q j h=>?_⟩)
 obtain⟨d,⟨z,n,c,f,k,rfl,m,o,rfl⟩,q⟩:=h;have key:orF (f2 Ld (fget (f1 (D.fld a.Ca "home_numbers") (rdN 0)) (rdN 1) (rdN 1)) (f1 (D.fld a.Ca "rooms") (rdN 0)) [planD z a.Ca n c f,.int k]) (λ d=>Q d [planD z a.Ca n c f,.int k]):=qa2 (f2_of (qaB5 (As rfl qF9) rfl) (As rfl qc6) (qaJ8 m)) q;exact qE2 rfl (qA2 (d:=D.bl true) (by show some (D.bl (D.int k).num)=_;rw[qe0 o]) (qa2 rfl (qa2 (a:=true) rfl key)))
theorem qE6:qa8 ["self", "key", "room", "steps"] ["self", "key", "room"] (qa3 qA0):=by walk_at "s"
def qZ6(C:Addr):VSp:=Au λ ds d=>∃ z n wr ps k r,ds=[planD z C n wr ps,.int k,.int r]/\1<=n/\Ag k/\0<=r/\r < n/\d=Kl (Ax n wr ps k r)
theorem qaz3(a:Ag k):fx1 (λ x=>x.kind.map λ _=>.bl x.num) [.int k]=some (.bl true):=by
 show some (D.bl (D.int k).num)=_;rw[qe0 a]
theorem qas1{C:Addr}{z:Bool}{n:Int}{wr:Bool}{ps:Pr}{r:Int}(d:0<=r)(h1:r < n):∃ z' c a b x t,[planD z C n wr ps,.int r]=[planD z' C c a b,x]/\x.kind=some t/\D.bl true=.bl (x.within 0 (c - 1)) :=
 ⟨z,n,wr,ps,_,_,rfl,rfl,by rw[qG2 d (by lia)]⟩
theorem qj1(T:Txt K mg a):VFn P w K mg base 5 a.f15 a.d15 ["self", "key", "room"] (qZ6 a.Ca):=by
 refine VFn.mk2 T.d15.F qE6 (wOf [true,true,true]) qb4 (λ s Q i h=>by obtain⟨d,⟨z,n,f,c,k,r,e,_⟩,_⟩:=h;rw[e];exact⟨rfl,rfl⟩) (λ t A outer v H E y g=>⟨_,(Ab (sif (Bt (te (Ah T.d7 (qc4 T) qa0 (rm g) (vaN 1 Aa))))
     (Ae (qj6 T.Co (qb1 T) (rm g) T.Cp T.d1.b qa0 (qa4 Ac)))
     Ap)
     (Ab (sif (Bt (te (qi0 0 T.d13 T.Cg.cl (qp0 T) qa0 (rm g) (vaN 2 Aa))))
     (Ae (qj6 T.Co (qb1 T) (rm g) T.Cp T.d1.b qa0 (qa4 Ac)))
     Ap)
     (Ab (Al 3 qE6.nd (e2n 2 (Af qL8) qL7 (qi0 0 T.d14 T.Cg.cl (qq2 T) qa0 (rm g) (vaN 1 Aa))))
     (Ab (sif (tv (Ba rfl (vnm 0) T.Cg.cl T.Ct))
     (Ae (Ak (qa4 (v2 (Af qx2) qx0 (vnm 3) (Ba rfl (vnm 0) T.Cg.cl T.Ck)))))
     Ap)
     (Ae (Ak (eif (q2 (Am Kq (qb0 _)) Ma (vnm 3) Ac) (qb7 (vnm 3)) (qa4 A8)))))))),λ s Q i h=>?_⟩)
 obtain⟨d,⟨z,n,f,c,k,r,rfl,m,o,j,l,rfl⟩,q⟩:=h;refine Ji (λ Q i q=>qL6 (x:=.int k) rfl (qaz3 o) rfl q) ?_;refine Ji (λ Q i q=>M1 (p:=planD z a.Ca n f c) (x:=.int r) rfl (qf4 rfl) rfl rfl (qas1 j l) rfl q) ?_;refine qb6 [planD z a.Ca n f c,.int k,.int r,.int (r - qg7 n c k)] (λ K u=>?_) ?_
 . exact⟨rfl,M1 (p:=planD z a.Ca n f c) (x:=.int k) (d:=.int (qg7 n c k)) rfl (qf4 rfl) rfl rfl ⟨z,n,f,c,k,rfl,m,o,rfl⟩ rfl (qa2 (a:=D.int (r - qg7 n c k)) rfl u)⟩
 unfold Ax at q;refine qj3 f (As rfl qs6) (λ h=>?_) (λ h=>?_)
 . subst h
   exact qi8 (.int ((r - qg7 n c k) % n)) (f2_of rfl (As rfl qc6) (qaJ8 m)) q
 subst h;refine qe6 (Jj (b:=decide (0<=r - qg7 n c k)) rfl (λ h=>?_) (λ h=>?_))
 . rw[if_neg (by decide),if_pos (zA9 h)] at q
   exact⟨rfl,q⟩
 rw[if_neg (by decide),if_neg (zB5 h)] at q;exact q
theorem qf2:qa8 ["self", "room", "one", "other", "one_far", "other_far"] ["self", "room", "one", "other"] (qa3 qg0):=by walk_at "s"
def qt3(C:Addr):VSp:=Au λ ds d=>∃ z n wr ps r x y,ds=[planD z C n wr ps,.int r,.int x,.int y]/\1<=n/\0<=r/\r < n/\Ag x/\Ag y/\d=.bl (ql9 n wr ps r x y)
theorem qao9{C:Addr}{z:Bool}{n:Int}{wr:Bool}{ps:Pr}{r:Int}(h1:1<=n)(f:Ag k)(g:0<=r)(h:r < n):∃ z' c a b e d,[planD z C n wr ps,.int k,.int r]=[planD z' C c a b,.int e,.int d]/\1<=c/\Ag e/\0<=d/\d < c/\Kl (Ax n wr ps k r)=Kl (Ax c a b e d) :=
 ⟨z,n,wr,ps,k,r,rfl,h1,f,g,h,rfl⟩
theorem qj0(T:Txt K mg a):VFn P w K mg base 6 a.f16 a.d16 ["self", "room", "one", "other"] (qt3 a.Ca):=by
 refine VFn.mk2 T.d16.F qf2 (wOf [true,true,true,true]) qb4 (λ C Q m h=>by obtain⟨d,⟨z,n,c,i,r,x,y,e,_⟩,_⟩:=h;rw[e];exact⟨rfl,rfl⟩) (λ D A outer G H E I j=>⟨_,(Ab (sif (Bt (te (qi0 0 T.d13 T.Cg.cl (qp0 T) qa0 (rm j) (vaN 1 Aa))))
     (Ae (qj6 T.Co (qb1 T) (rm j) T.Cp T.d1.b qa0 (qa4 Ac)))
     Ap)
     (Ab (sif (Bt (te (Ah T.d7 (qc4 T) qa0 (rm j) (vaN 2 Aa))))
     (Ae (qj6 T.Co (qb1 T) (rm j) T.Cp T.d1.b qa0 (qa4 Ac)))
     Ap)
     (Ab (sif (Bt (te (Ah T.d7 (qc4 T) qa0 (rm j) (vaN 3 Aa))))
     (Ae (qj6 T.Co (qb1 T) (rm j) T.Cp T.d1.b qa0 (qa4 Ac)))
     Ap)
     (Ab (Al 4 qf2.nd (qi0 0 T.d15 T.Cg.cl (qj1 T) qa0 (rm j) (vaN 2 (vaN 1 Aa))))
     (Ab (Al 5 qf2.nd (qi0 0 T.d15 T.Cg.cl (qj1 T) qa0 (rm j) (vaN 3 (vaN 1 Aa))))
     (Ab (sif (q2 (Am Ib (qb0 _)) Ia (vnm 4) A8)
     (Ae (Ak (qa4 vbl)))
     Ap)
     (Ab (sif (q2 (Am Ib (qb0 _)) Ia (vnm 5) A8)
     (Ae (Ak (qa4 vbl)))
     Ap)
     (Ae (Ak (qa4 (vor (v2 (A5 Bq (qb0 _)) B6 (vnm 4) (vnm 5)) (vone (vand (v2 (A5 (qv2 j.u64) (qb0 _)) Bs (vnm 4) (vnm 5)) (vone (v2 (A5 Hj (qb0 _)) Hy (vnm 2) (vnm 3)))))))))))))))),λ C Q m h=>?_⟩)
 obtain⟨d,⟨z,n,c,i,r,x,y,rfl,s,k,l,t,u,rfl⟩,q⟩:=h;refine Ji (λ Q m q=>M1 (p:=planD z a.Ca n c i) (x:=.int r) rfl (qf4 rfl) rfl rfl (qas1 k l) rfl q) ?_;refine Ji (λ Q m q=>qL6 (x:=.int x) rfl (qaz3 t) rfl q) ?_;refine Ji (λ Q m q=>qL6 (x:=.int y) rfl (qaz3 u) rfl q) ?_;refine qb6 [planD z a.Ca n c i,.int r,.int x,.int y,Kl (Ax n c i x r),.unk] (λ K o=>?_) ?_
 . exact qan8 (p:=planD z a.Ca n c i) (x:=.int x) (y:=.int r) rfl (qf4 rfl) rfl rfl rfl rfl (qao9 s t k l) rfl o
 refine qb6 [planD z a.Ca n c i,.int r,.int x,.int y,Kl (Ax n c i x r),Kl (Ax n c i y r)] (λ K o=>?_) ?_
 . exact qan8 (p:=planD z a.Ca n c i) (x:=.int y) (y:=.int r) rfl (qf4 rfl) rfl rfl rfl rfl (qao9 s u k l) rfl o
 unfold ql9 at q;cases v:Ax n c i x r with
 | none =>
   rw[v] at q;exact q
 | some f =>
   rw[v] at q;cases B:Ax n c i y r with
   | none =>
     rw[B] at q;exact q
   | some g =>
     rw[B] at q;refine qj3 false rfl (λ h=>nomatch h) λ _=>?_
     refine qj3 false rfl (λ h=>nomatch h) λ _=>?_
     exact qi8 _ (qaU0 (a:=decide (g < f)) rfl (qav0 (a:=decide (f=g)) (b:=decide (x < y)) rfl rfl)) q
theorem qL2:qa8 ["plan", "room"] ["plan", "room"] (qa3 qp7):=by walk_at "s"
def qK6(C:Addr):VSp:=Au λ ds d=>∃ z n wr ps r,ds=[planD z C n wr ps,.int r]/\d=(if 0 < r then .int (r - 1) else if wr=true then .int (n - 1) else .non)
theorem qL9(T:Txt K mg a):VFn P w K mg base 1 a.f17 a.d17 ["plan", "room"] (qK6 a.Ca):=by
 refine VFn.mk2 T.d17.F qL2 (wOf [true,true]) qb4 (λ g Q i h=>by obtain⟨d,⟨z,n,c,f,r,e,_⟩,_⟩:=h;rw[e];exact⟨rfl,rfl⟩) (λ j A outer k H E l m=>⟨_,(Ab (sif (q2 (Am Bq (qb0 _)) B6 (vnm 1) Ac)
     (Ae (Ak (qa4 (v2 (Af qL8) qL7 (vnm 1) Ac))))
     Ap)
     (Ae (Ak (eif (tv (Ba rfl (vnm 0) T.Cg.cl T.Ct)) (qa4 (v2 (Af qL8) qL7 (Ba rfl (vnm 0) T.Cg.cl T.Ck) Ac)) (qa4 A8))))),λ g Q i h=>?_⟩)
 obtain⟨d,⟨z,n,c,f,r,rfl,rfl⟩,q⟩:=h;refine At [planD z a.Ca n c f,.int r] rfl ?_;refine qj3 (decide (0 < r)) rfl (λ h=>?_) λ h=>?_
 . rw[if_pos (zA9 h)] at q
   exact q
 rw[if_neg (zB5 h)] at q;refine qe6 (Jj (b:=c) (As rfl qs6) (λ h=>?_) (λ h=>?_))
 . rw[if_pos h] at q
   exact qq3 (d:=.int (n - 1)) (f2_of (As rfl qc6) rfl rfl) q
 rw[if_neg (by rw[h];decide)] at q;exact q
theorem qd7:qa8 ["plan", "rooms", "room", "ahead", "thing"] ["plan", "rooms", "room"] (qa3 qe1):=by walk_at "s"
noncomputable def Kf:Option Str->D
 | none=>.non
 | some s=>.str s
theorem qah7{t:D}{u:String}(h:t.kind=some u):t=.non∨t.isN=some false:=by
 cases t<;>first | exact .inl rfl | exact .inr rfl | cases h
theorem qI3{t:D}(h:t.num=true):∃ x,t=.int x/\Ag x:=by
 cases t with
 | int x =>
   have:=zAb.mp h
   exact⟨x,rfl,zA9 this.1,zA9 this.2⟩
 | _=>cases h
def Hq(n:Int)(wr:Bool)(ps:Pr)(p:Nat)(t:D)(k:Int):Option Str:=match t with
 | .non=>some "empty"
 | .int x=>if (D.int x).num=true then (if ql9 n wr ps (p:Int) x k=true then none else some "order") else none
 | _=>none
theorem qal6{n:Int}{wr:Bool}{ps:Pr}{p:Nat}{t:D}(h:t.num=false)(h':t.isN=some false):Hq n wr ps p t k=none:=by
 cases t with
 | non=>cases h'
 | int x =>
   show (if (D.int x).num=true then (if ql9 n wr ps (p:Int) x k=true then (none:Option Str) else some "order") else none)=none;rw[if_neg (by rw[h];decide)]
 | _=>rfl
structure Rm(n:Int)(ys:Ds)(r:Nat):Prop where
 len:ys.length=n.toNat
 kn:∀ y∈ys,∃ t,y.kind=some t
 im:D.imms ys=true
 fl:∀ i y,i < r->ys[i]? = some y->y=.non∨∃ k,y=.int k/\Ag k
theorem qV5{t:D}{u:String}(h:t.kind=some u):fx1 (λ x=>x.kind.map λ _=>.bl x.num) [t]=some (.bl t.num):=by
 show t.kind.map _=_;rw[h];rfl
theorem M7{z:Bool}(h:ys[r]? = some y):gIx (.lst z ys) (.int (r:Int))=some y:=qY9 h
def qn7(C:Addr):VSp:=Au λ ds d=>∃ z n wr ps a ys r k t,ds=[planD z C n wr ps,.lst a ys,.int (r:Nat)]/\1<=n/\r < n.toNat/\(0 < r∨wr=true)/\Rm n ys 0/\ys[r]? = some (.int k)/\Ag k/\ys[Row.prev n.toNat r]? = some t/\d=Kf (Hq n wr ps (Row.prev n.toNat r) t k)
theorem qo1(T:Txt K mg a):VFn P w K mg base 7 a.f18 a.d18 ["plan", "rooms", "room"] (qn7 a.Ca):=by
 refine VFn.mk2 T.d18.F qd7 (wOf [true,true,true]) qb4 (λ I Q J h=>by obtain⟨d,⟨z,n,c,f,g,i,r,k,t,e,_⟩,_⟩:=h;rw[e];exact⟨rfl,rfl⟩) (λ L A outer W H E X m=>⟨_,(Ab (Al 3 qd7.nd (Ah T.d17 (qL9 T) qa0 (rm m) (vaN 0 (vaN 2 Aa))))
     (Ab (Al 4 qd7.nd (qb7 (v2 (A9 qd1) Aq (vnm 1) (vnm 3))))
     (Ab (sif (q2 (Am Ib (qb0 _)) Ia (vnm 4) A8)
     (Ae (Ak (qa4 A4)))
     Ap)
     (Ab (sif (tand (te (Ah T.d7 (qc4 T) qa0 (rm m) (vaN 4 Aa))) (Kv (Bt (te (qi0 0 T.d16 T.Cg.cl (qj0 T) qa0 (rm m) (vaN 3 (vaN 4 (vaV (qb7 (v2 (A9 qd1) Aq (vnm 1) (vnm 2))) Aa)))))))).te
     (Ae (Ak (qa4 A4)))
     Ap)
     (Ae (Ak (qa4 A8))))))),λ I Q J h=>?_⟩)
 obtain⟨d,⟨z,n,c,f,g,i,r,k,t,rfl,M,o,N,R,O,S,j,rfl⟩,q⟩:=h;refine At [planD z a.Ca n c f,.lst g i,.int (r:Nat),.unk,.unk] rfl ?_;have U:=Row.ql3 (n:=n.toNat) o;have B:(if 0 < ((r:Nat):Int) then D.int ((r:Int) - 1) else if c=true then D.int (n - 1) else .non)=.int (Row.prev n.toNat r:Nat):=by
   rcases Row.por n.toNat r with⟨e1,e2⟩ | ⟨e1,e2⟩
   . rw[if_neg (by lia),if_pos (N.resolve_left (by lia)),e2]
     congr 1;lia
   rw[if_pos (by lia),e2];congr 1;lia
 generalize Row.prev n.toNat r=p at U B q j;obtain⟨u,l⟩:=R.kn t (zB1 j);refine qb6 [planD z a.Ca n c f,.lst g i,.int (r:Nat),.int (p:Nat),.unk] (λ K s=>?_) ?_
 . exact M0 (x:=planD z a.Ca n c f) (y:=.int (r:Nat)) (d:=.int (p:Nat)) rfl rfl rfl ⟨z,n,c,f,(r:Nat),rfl,B.symm⟩ rfl s
 refine qb6 [planD z a.Ca n c f,.lst g i,.int (r:Nat),.int (p:Nat),t] (λ K s=>qa2 (f2_of rfl rfl (M7 j)) ⟨qv8 R.im j,s⟩) ?_;have C:rdN 4 [planD z a.Ca n c f,.lst g i,.int (r:Nat),.int (p:Nat),t]=some t:=qd8 rfl (qb9 l);rcases qah7 l with rfl | G
 . exact qj3 true rfl (λ _=>q) λ h=>nomatch h
 refine qj3 false (f2_of C rfl (by show t.isN.map D.bl=_;rw[G];rfl)) (λ h=>nomatch h) λ _=>?_
 cases b:t.num with
 | false =>
   rw[qal6 b G] at q;exact ql7 false (λ Q q=>qs8 false false (λ Q q=>qL6 (x:=t) (d:=.bl false) C (by rw[qV5 l,b]) rfl q) (λ h=>nomatch h) q) (λ h=>nomatch h) λ _=>q
 | true =>
   obtain⟨x,rfl,V⟩:=qI3 b;have q:Q (Kf (if (D.int x).num=true then (if ql9 n c f (p:Int) x k=true then none else some "order") else none)) [planD z a.Ca n c f,.lst g i,.int (r:Nat)]:=q;rw[if_pos b] at q;refine ql7 (!ql9 n c f (p:Int) x k) (λ Q q=>qs8 true _ (λ Q q=>qL6 (x:=.int x) (d:=.bl true) rfl (by rw[qV5 l,b]) rfl q) (λ _ Q q=>?_) q) (λ h=>?_) λ h=>?_
   . refine qj2 (p:=planD z a.Ca n c f) rfl (qf4 rfl) (qc2 (x:=.int (p:Nat)) rfl (qc2 (x:=.int x) rfl (qy2 (y:=.int k) (f2_of rfl rfl (M7 O)) rfl ?_)))
     refine qb5 ?_;refine qa2 (a:=D.int x) rfl ?_;refine qa2 (a:=D.int (p:Nat)) rfl ?_;exact(qa2 (a:=planD z a.Ca n c f) rfl (qq4 (d:=.bl (ql9 n c f (p:Int) x k)) ⟨z,n,c,f,(p:Nat),x,k,rfl,M,by lia,by lia,V,S,rfl⟩ q))
   . rw[if_neg (by intro v;rw[v] at h;cases h)] at q
     exact q
   rw[if_pos (by cases v:ql9 n c f (p:Int) x k with | true=>rfl | false=>rw[v] at h;cases h)] at q;exact q
theorem qt4:qa8 ["plan", "rooms", "room", "key", "far"] ["plan", "rooms", "room"] (qa3 qz3):=by walk_at "s"
noncomputable def atD(ys:Ds)(i:Nat):D:=(ys[i]?).getD .non
noncomputable def qB5(k:Int):D->Bool
 | .int j=>decide (j=k)
 | _=>false
def Bw(n:Int)(wr:Bool)(ps:Pr)(ys:Ds)(r:Nat):Option Str:=match atD ys r with
 | .non=>none
 | .int k=>if (D.int k).num=true then (if (ys.take r).any (qB5 k)=true then some "twice" else match Ax n wr ps k (r:Int) with
   | none=>some "home"
   | some f=>if f=0 then none else Hq n wr ps (Row.prev n.toNat r) (atD ys (Row.prev n.toNat r)) k) else some "key"
 | _=>some "key"
theorem qau9{k:Int}:∀{l:Ds},(∀ y∈l,y=.non∨∃ j,y=.int j/\Ag j)->∃ a,flats l=some a/\inV (.int k) a=l.any (qB5 k)
 | [],_=>⟨[],rfl,rfl⟩
 | y::l,h=>by
   obtain⟨a,c,e2⟩:=qau9 (k:=k) λ z d=>h z (zA6 _ d)
   rcases h y zAe with rfl | ⟨j,rfl,_⟩
   . refine⟨.non::a,?_,?_⟩
     . show ((flats l).bind λ b=>some (V.non::b))=_
       rw[c];rfl
     show (eqV .non (.int k)||inV (.int k) a)=(false||l.any (qB5 k))
     rw[e2];rfl
   refine⟨.int j::a,?_,?_⟩
   . show ((flats l).bind λ b=>some (V.int j::b))=_
     rw[c];rfl
   show (eqV (.int j) (.int k)||inV (.int k) a)=(decide (j=k)||l.any (qB5 k))
   rw[e2];rfl
theorem qW2:∀{ys:Ds}{r:Nat},D.imms ys=true->D.imms (ys.take r)=true
 | [],r,_=>by rw[List.take_nil];rfl
 | y::ys,0,_=>rfl
 | y::ys,r+1,h=>by
   have:=zAb.mp h
   show (y.imm&&D.imms (ys.take r))=true;rw[this.1,qW2 this.2];rfl
theorem Rm.up{n:Int}(R:Rm n ys r){s:Nat}(h:s<=r):Rm n ys s:=⟨R.len,R.kn,R.im,λ i y a=>R.fl i y (by lia)⟩
def qZ0(C:Addr):VSp:=Au λ ds d=>∃ z n wr ps a ys r,ds=[planD z C n wr ps,.lst a ys,.int (r:Nat)]/\1<=n/\r < n.toNat/\Rm n ys r/\d=Kf (Bw n wr ps ys r)
theorem qaa1(T:Txt K mg a):VFn P w K mg base 8 a.f19 a.d19 ["plan", "rooms", "room"] (qZ0 a.Ca):=by
 refine VFn.mk2 T.d19.F qt4 (wOf [true,true,true]) qb4 (λ W Q X h=>by obtain⟨d,⟨z,n,c,g,m,b,r,e,_⟩,_⟩:=h;rw[e];exact⟨rfl,rfl⟩) (λ Y A outer sh H E av C=>⟨_,(Ab (Al 3 qt4.nd (qb7 (v2 (A9 qd1) Aq (vnm 1) (vnm 2))))
     (Ab (sif (q2 (Am Ib (qb0 _)) Ia (vnm 3) A8)
     (Ae (Ak (qa4 A8)))
     Ap)
     (Ab (sif (Bt (te (Ah T.d7 (qc4 T) qa0 (rm C) (vaN 3 Aa))))
     (Ae (Ak (qa4 A4)))
     Ap)
     (Ab (sif (q2 (Am qV3 (by with_unfolding_all rfl)) os_in (vnm 3) (vsl (vnm 1) I8 (I9 (vnm 2))))
     (Ae (Ak (qa4 A4)))
     Ap)
     (Ab (Al 4 qt4.nd (qi0 0 T.d15 T.Cg.cl (qj1 T) qa0 (rm C) (vaN 3 (vaN 2 Aa))))
     (Ab (sif (q2 (Am Ib (qb0 _)) Ia (vnm 4) A8)
     (Ae (Ak (qa4 A4)))
     Ap)
     (Ab (sif (q2 (Am (qv2 C.u64) (qb0 _)) Bs (vnm 4) Ac)
     (Ae (Ak (qa4 A8)))
     Ap)
     (Ae (Ak (Ah T.d18 (qo1 T) qa0 (rm C) (vaN 0 (vaN 1 (vaN 2 Aa))))))))))))),λ W Q X h=>?_⟩)
 obtain⟨d,⟨z,n,c,g,m,b,r,rfl,L,o,R,rfl⟩,q⟩:=h;have Z:=Row.ql3 (n:=n.toNat) o;obtain⟨v,B⟩:∃ v,b[r]? = some v:=⟨b[r]'(by rw[R.len];exact o),by simp⟩
 obtain⟨t,O⟩:∃ t,b[Row.prev n.toNat r]? = some t:=⟨b[Row.prev n.toNat r]'(by rw[R.len];exact Z),by simp⟩
 obtain⟨u,G⟩:=R.kn v (zB1 B);have ev:atD b r=v:=by unfold atD;rw[B];rfl
 have et:atD b (Row.prev n.toNat r)=t:=by unfold atD;rw[O];rfl
 unfold Bw at q;rw[ev,et] at q;refine At [planD z a.Ca n c g,.lst m b,.int (r:Nat),.unk,.unk] rfl ?_;refine qb6 [planD z a.Ca n c g,.lst m b,.int (r:Nat),v,.unk] (λ K M=>qa2 (f2_of rfl rfl (M7 B)) ⟨qv8 R.im B,M⟩) ?_;have S:rdN 3 [planD z a.Ca n c g,.lst m b,.int (r:Nat),v,.unk]=some v:=qd8 rfl (qb9 G);rcases qah7 G with rfl | U
 . exact qj3 true rfl (λ _=>q) λ h=>nomatch h
 refine qj3 false (f2_of S rfl (by show v.isN.map D.bl=_;rw[U];rfl)) (λ h=>nomatch h) λ _=>?_
 cases j:v.num with
 | false =>
   refine ql7 true (λ Q q=>qL6 (x:=v) (d:=.bl false) S (by rw[qV5 G,j]) rfl q) (λ _=>?_) (λ h=>nomatch h);cases v with
   | non=>cases U
   | int k =>
     have q:Q (Kf (if (D.int k).num=true then _ else some "key")) [planD z a.Ca n c g,.lst m b,.int (r:Nat)]:=q;rw[if_neg (by rw[j];decide)] at q;exact q
   | _=>exact q
 | true =>
   obtain⟨k,rfl,V⟩:=qI3 j;have q:Q (Kf (if (D.int k).num=true then (if (b.take r).any (qB5 k)=true then some "twice" else match Ax n c g k (r:Int) with
     | none=>some "home"
     | some f=>if f=0 then none else Hq n c g (Row.prev n.toNat r) t k) else some "key")) [planD z a.Ca n c g,.lst m b,.int (r:Nat)]:=q
   rw[if_pos j] at q;refine ql7 false (λ Q q=>qL6 (x:=.int k) (d:=.bl true) rfl (by rw[qV5 G,j]) rfl q) (λ h=>nomatch h) λ _=>?_
   obtain⟨I,e1,e2⟩:=qau9 (k:=k) (l:=b.take r) λ y hy=>by
     obtain⟨i,J⟩:=List.getElem?_of_mem hy;rw[List.getElem?_take] at J;split at J
     . rename_i hlt;exact R.fl i y hlt J
     cases J
   have N:f2 (gInB false) (rdN 3) (fsl (rdN 1) foN (foS (rdN 2))) [planD z a.Ca n c g,.lst m b,.int (r:Nat),.int k,.unk]=some (.bl ((b.take r).any (qB5 k))):=by
     refine f2_of (x:=.int k) (y:=.lst false (b.take r)) rfl ?_ ?_
     . show gSl (.lst m b) none (some (r:Int))=_
       show gd (D.imms (Gn b none (some (r:Int)))=true) (.lst false (Gn b none (some (r:Int))))=_;rw[qX7];exact qh9 (qW2 R.im)
     show ((flats (b.take r)).bind λ I=>some (D.bl (if false=true then !inV (.int k) I else inV (.int k) I)))=_;rw[e1];show some (D.bl (inV (.int k) I))=_;rw[e2]
   refine qj3 _ N (λ h=>?_) λ h=>?_
   . rw[if_pos h] at q;exact q
   rw[if_neg (by rw[h];decide)] at q;refine qb6 [planD z a.Ca n c g,.lst m b,.int (r:Nat),.int k,Kl (Ax n c g k (r:Nat))] (λ K M=>?_) ?_
   . exact qan8 (p:=planD z a.Ca n c g) (x:=.int k) (y:=.int (r:Nat)) rfl (qf4 rfl) rfl rfl rfl rfl (qao9 L V (by lia) (by lia)) rfl M
   cases s:Ax n c g k (r:Nat) with
   | none =>
     rw[s] at q;exact qj3 true rfl (λ _=>q) λ h=>nomatch h
   | some f =>
     rw[s] at q;refine qj3 false rfl (λ h=>nomatch h) λ _=>?_
     refine qj3 (decide (f=0)) rfl (λ h=>?_) λ h=>?_
     . have q:Q (Kf (if f=0 then none else Hq n c g (Row.prev n.toNat r) t k)) [planD z a.Ca n c g,.lst m b,.int (r:Nat)]:=q
       rw[if_pos (zA9 h)] at q;exact q
     have q:Q (Kf (if f=0 then none else Hq n c g (Row.prev n.toNat r) t k)) [planD z a.Ca n c g,.lst m b,.int (r:Nat)]:=q;rw[if_neg (zB5 h)] at q;refine Ll (x:=planD z a.Ca n c g) (y:=.lst m b) (w:=.int (r:Nat)) rfl rfl rfl rfl rfl ⟨z,n,c,g,m,b,r,k,t,rfl,L,o,?_,R.up (zBk _),B,V,O,rfl⟩ rfl q;cases c with
     | true=>exact .inr rfl
     | false =>
       left;unfold Ax at s;rw[if_neg (by decide)] at s
       have:=(qai6 L g k).1
       have a0:=zB5 h;split at s
       . cases s;lia
       cases s
theorem qQ4:qa8 ["plan", "rooms"] ["plan", "rooms"] (qa3 qu2):=by walk_at "s"
def farP(n:Int)(wr:Bool)(ps:Pr):D->Bool
 | .tup [.int i,.int k]=>match Ax n wr ps k i with
   | some f=>decide (0 < f)
   | none=>false
 | _=>false
def qr3(n:Int)(wr:Bool)(ps:Pr)(ys:Ds):Bool:=(enD ys).all (farP n wr ps)
theorem qaC6(ys:Ds):(enD ys).length=ys.length:=by unfold enD;rw[zAf,List.length_zipIdx]
def qP4(C:Addr):VSp:=Au λ ds d=>∃ z n wr ps a ys,ds=[planD z C n wr ps,.lst a ys]/\1<=n/\n<=64/\ys.length=n.toNat/\(∀ i v,ys[i]? = some v->v=.non∨∃ k,v=.int k/\Ag k/\Ax n wr ps k (i:Nat)≠none)/\d=.bl (qr3 n wr ps ys)
theorem qaB0{p:Nat->D->Prop}(h:∀ i v,ys[i]? = some v->v=.non∨∃ k,v=.int k/\p i v):D.imms ys=true:=by
 induction ys generalizing p with
 | nil=>rfl
 | cons y ys a =>
   have b:=h 0 y rfl;have c:y.imm=true:=by
     rcases b with rfl | ⟨k,rfl,_⟩<;>rfl
   show (y.imm&&D.imms ys)=true;rw[c,a (p:=λ i v=>p (i+1) v) λ i v d=>h (i+1) v d];rfl
theorem qR5(T:Txt K mg a):VFn P w K mg base 6 a.f20 a.d20 ["plan", "rooms"] (qP4 a.Ca):=by
 refine VFn.mk2 T.d20.F qQ4 (wOf [true,true]) qb4 (λ M Q N h=>by obtain⟨d,⟨z,n,b,c,r,j,e,_⟩,_⟩:=h;rw[e];exact⟨rfl,rfl⟩) (λ O A outer sh H E l S=>⟨_,(Ae (Ak (ebi (qY3 rfl) qaN1.ops T.Ge (Ik (vaV (ecEN (NY:=["room", "key", "plan"]) (src:=[none,none,some 0]) 1 T.Fk (blk (λ l C s H0 t=>(Mn (n:=2) rfl (qS7 (Bp 0 (show (["room", "key", "plan"]:List Str).Nodup by decide +kernel)) (qS7 (Bp 1 (show (["room", "key", "plan"]:List Str).Nodup by decide +kernel)) Ml)))) (λ l C s H0 t=>Je) (λ l C s H0 t=>(Jq (qa4 (v2 (A5 qr8 (qb0 _)) qx1 (vnm 1) A8)) (Lg (e2v (A5 Bq (qb0 _)) B6 (qi0 2 T.d15 T.Cg.cl (qj1 T) qI8 (rm S) (vaN 1 (vaN 0 Aa))) Ac)))))) Aa))))),λ M Q N h=>?_⟩);obtain⟨d,⟨z,n,b,c,r,j,rfl,U,n2,u,B,rfl⟩,q⟩:=h;refine At [planD z a.Ca n b c,.lst r j] rfl ?_;have V:D.imms j=true:=qaB0 (p:=λ i v=>∃ k,v=.int k/\Ag k/\Ax n b c k (i:Nat)≠none) λ i v h=>by
   rcases B i v h with h | ⟨k,G,W,X⟩
   . exact .inl h
   exact .inr ⟨k,G,k,G,W,X⟩
 refine qe6 ?_;refine⟨V,?_⟩;refine qC1 (λ ι=>∃ m o,ι=[m,o,planD z a.Ca n b c]) (λ y=>some (.bl (farP n b c y))) (enD j) [] _ (by show 0+(enD j).length < big;rw[qaC6,u];unfold big;lia) ⟨_,_,rfl⟩ ?_ ?_
 . rintro y Y ι Z ⟨m,o,rfl⟩ R I g
   obtain⟨i,v,rfl,J⟩:=qaU1 Y;have a0:i < n.toNat:=by rw[<- u];exact(zA5.mp J).1
   refine qB6 (qal5 (Gx rfl ?_));rcases B i v J with rfl | ⟨k,rfl,hk,hf⟩
   . exact Iq false rfl (λ h=>nomatch h) λ _=>⟨g,I _ ⟨_,_,rfl⟩⟩
   refine Iq true rfl (λ _=>?_) λ h=>nomatch h
   refine qan8 (p:=planD z a.Ca n b c) (x:=.int k) (y:=.int (i:Nat)) rfl (qf4 rfl) rfl rfl rfl rfl (qao9 U hk (by lia) (by lia)) rfl ?_;have this:=I _ ⟨.int (i:Nat),.int k,rfl⟩;cases L:Ax n b c k (i:Nat) with
   | none=>exact absurd L hf
   | some f =>
     have e:farP n b c (.tup [.int (i:Nat),.int k])=decide (0 < f):=by
       show (match Ax n b c k (i:Nat) with | some f=>decide (0 < f) | none=>false)=_;rw[L]
     rw[e] at this;exact qa2 (a:=D.bl (decide (0 < f))) rfl ⟨g,this⟩
 rintro ι ⟨m,o,rfl⟩;rw[zBh,qaB7];exact qa2 (qaN9 (farP n b c) (enD j)) q
theorem qt6:qa8 ["plan", "rooms", "room", "word"] ["plan", "rooms"] (qa3 qz5):=by walk_at "s"
def Lp(n:Int)(wr:Bool)(ps:Pr)(ys:Ds):Option (Str×Nat):=(List.range n.toNat).findSome? λ r=>(Bw n wr ps ys r).map λ w=>(w,r)
def qao8(n:Int)(wr:Bool)(ps:Pr)(ys:Ds):D:=match Lp n wr ps ys with
 | some (w,r)=>.tup [.str w,.int (r:Nat)]
 | none=>if qr3 n wr ps ys=true then .tup [.str "turned",.int 0] else .non
theorem qK2{n:Int}{wr:Bool}{ps:Pr}(c:ys[r]? = some v)(h:Bw n wr ps ys r=none):v=.non∨∃ k,v=.int k/\Ag k/\Ax n wr ps k (r:Nat)≠none:=by
 have d:atD ys r=v:=by unfold atD;rw[c];rfl
 unfold Bw at h;rw[d] at h;cases v with
 | non=>exact .inl rfl
 | int k =>
   have h:(if (D.int k).num=true then (if (ys.take r).any (qB5 k)=true then (some "twice" : Option Str) else match Ax n wr ps k (r:Int) with
     | none=>some "home"
     | some f=>if f=0 then none else Hq n wr ps (Row.prev n.toNat r) (atD ys (Row.prev n.toNat r)) k) else some "key")=(none:Option Str):=h
   by_cases a:(D.int k).num=true
   . rw[if_pos a] at h
     obtain⟨i,e,b⟩:=qI3 a;cases e;refine .inr ⟨k,rfl,b,λ g=>?_⟩;rw[g] at h;split at h<;>cases h
   rw[if_neg a] at h;cases h
 | _=>cases h
theorem qN5{α:Type}{r:Nat}{f:Nat->Option α}{a:α}:∀{N:Nat},r < N->(∀ i,i < r->f i=none)->f r=some a->(List.range N).findSome? f=some a
 | 0,hr,_,_=>absurd hr (Nat.not_lt_zero _)
 | N+1,hr,h0,h=>by
   rw[List.range_succ,List.findSome?_append];by_cases b:r < N
   . rw[qN5 b h0 h];rfl
   have e:r=N:=by lia
   subst e;rw[List.findSome?_eq_none_iff.mpr λ i c=>h0 i (zAj.mp c)];show [r].findSome? f=_;rw[List.findSome?_cons,h]
theorem qW8{f:Nat->Option α}(a:∀ i,i < N->f i=none):(List.range N).findSome? f=none:=List.findSome?_eq_none_iff.mpr λ i b=>a i (zAj.mp b)
def qZ2(C:Addr):VSp:=Au λ ds d=>∃ z n wr ps a ys,ds=[planD z C n wr ps,.lst a ys]/\1<=n/\n<=64/\ys.length=n.toNat/\(∀ y∈ys,∃ t,y.kind=some t)/\D.imms ys=true/\d=qao8 n wr ps ys
theorem qaa3(T:Txt K mg a):VFn P w K mg base 9 a.f21 a.d21 ["plan", "rooms"] (qZ2 a.Ca):=by
 refine VFn.mk2 T.d21.F qt6 (wOf [true,true]) qb4 (λ p Q N h=>by obtain⟨d,⟨z,n,f,g,l,c,e,_⟩,_⟩:=h;rw[e];exact⟨rfl,rfl⟩) (λ O A outer sh H E av C=>⟨_,(Ab (sif (tor (Bt (tv (vbi qr2 qT4.ops T.Ch (qa1 (vnm 1) (qa1 (vty "list" T.Du) qa6 rfl) rfl)))) (Mf (q2 (Am (qr9 C.u64) (qb0 _)) Hm (vbi qE1 qE0.ops T.Dh (qa1 (vnm 1) qa6 rfl)) (Ba rfl (vnm 0) T.Cg.cl T.Ck)))).te
     (Ae (Ak (qa4 (Bb (qa1 A4 (qa1 Ac qa6 rfl) rfl)))))
     Ap)
     (Ab (qaw6 PassesOwn.leaving T.Dc (Ik (vaV (qb7 (Ba rfl (vnm 0) T.Cg.cl T.Ck)) Aa)) (Bp 2 qt6.nd)
     (Ab (Al 3 qt6.nd (Ah T.d19 (qaa1 T) qa0 (rm C) (vaN 0 (vaN 1 (vaN 2 Aa)))))
     (Ae (sif (q2 (Am qr8 (qb0 _)) qx1 (vnm 3) A8)
     (Ae (Ak (qa4 (Bb (qa1 (vnm 3) (qa1 (vnm 2) qa6 rfl) rfl)))))
     Ap))))
     (Ae (Ak (eif (te (Ah T.d20 (qR5 T) qa0 (rm C) (vaN 0 (vaN 1 Aa)))) (qa4 (Bb (qa1 A4 (qa1 Ac qa6 rfl) rfl))) (qa4 A8)))))),λ p Q N h=>?_⟩)
 obtain⟨d,⟨z,n,f,g,l,c,rfl,L,S,G,I,U,rfl⟩,q⟩:=h;refine At [planD z a.Ca n f g,.lst l c,.unk,.unk] rfl ?_;have t:f2 gNe (Bc (fx1 Ki) (Aw (rdN 1) λ _=>some [])) (f1 (D.fld a.Ca "rooms") (rdN 0)) [planD z a.Ca n f g,.lst l c,.unk,.unk]=some (.bl false):=f2_of (qah4 rfl) (As rfl qc6) (by
   show some (D.bl (!((c.length:Nat):Int) == n))=_;rw[show ((c.length:Nat):Int)=n by lia,zBa];rfl)
 refine ql7 false (λ Q q=>qac4 false false (λ Q q=>qG3 (qai3 rfl) q) (λ _ Q q=>qh6 t q) q) (λ h=>nomatch h) λ _=>?_
 refine qd3 (λ p=>(∀ i,i < n.toNat->Bw n f g c i=none)/\∃ d u,p=[planD z a.Ca n f g,.lst l c,d,u]) (λ K s=>?_) ?_
 . refine qS9 (As rfl qc6) (Lm (by lia) (by lia)) ?_
   refine qq8 (λ i p=>(∀ j,j < i->Bw n f g c j=none)/\∃ d u,p=[planD z a.Ca n f g,.lst l c,d,u]) _ 0 _ ⟨λ j B=>absurd B (Nat.not_lt_zero _),_,_,rfl⟩ ?_ ?_
   . rintro j x V p ⟨m,d,u,rfl⟩ K s
     rw[zB9] at m s;obtain⟨B,rfl⟩:=qZ9 V;have R:Rm n c j:=⟨G,I,U,λ i y o W=>by
       rcases qK2 W (m i o) with h | ⟨k,X,Y,_⟩
       . exact .inl h
       exact .inr ⟨k,X,Y⟩⟩
     refine qb6 [planD z a.Ca n f g,.lst l c,.int (j:Nat),Kf (Bw n f g c j)] (λ K s=>Ll (x:=planD z a.Ca n f g) (y:=.lst l c) (w:=.int (j:Nat)) rfl rfl rfl rfl rfl ⟨z,n,f,g,l,c,j,rfl,L,B,R,rfl⟩ rfl s) ?_;cases e:Bw n f g c j with
     | none =>
       refine Kc (b:=false) rfl (λ h=>nomatch h) λ _=>s _ ⟨λ i o=>?_,_,_,rfl⟩
       rcases Nat.lt_succ_iff_lt_or_eq.mp o with h | rfl
       . exact m i h
       exact e
     | some w =>
       have J:Lp n f g c=some (w,j):=qN5 B (λ i o=>by rw[m i o];rfl) (by rw[e];rfl);have q:Q (match Lp n f g c with | some (w,r)=>.tup [.str w,.int (r:Nat)] | none=>if qr3 n f g c=true then .tup [.str "turned",.int 0] else .non) [planD z a.Ca n f g,.lst l c]:=q;rw[J] at q;exact Kc (b:=true) rfl (λ _=>q) λ h=>nomatch h
   rintro p ⟨m,Z⟩;refine s _ ⟨λ i o=>m i ?_,Z⟩;unfold Bl;rw[zAf,zAz,zB9];exact o
 rintro p ⟨m,d,u,rfl⟩;have J:Lp n f g c=none:=qW8 λ i o=>by rw[m i o];rfl
 have q:Q (match Lp n f g c with | some (w,r)=>.tup [.str w,.int (r:Nat)] | none=>if qr3 n f g c=true then .tup [.str "turned",.int 0] else .non) [planD z a.Ca n f g,.lst l c]:=q;rw[J] at q;refine qe6 ?_;refine M0 (x:=planD z a.Ca n f g) (y:=.lst l c) (d:=.bl (qr3 n f g c)) rfl rfl rfl ⟨z,n,f,g,l,c,rfl,L,S,G,λ i v M=>qK2 M (m i (by rw[<- G];exact(zA5.mp M).1)),rfl⟩ rfl ?_;refine qa2 (a:=qr3 n f g c) rfl (ite_b (λ h=>?_) λ h=>?_)
 . have q:Q (if qr3 n f g c=true then .tup [.str "turned",.int 0] else .non) [planD z a.Ca n f g,.lst l c]:=q
   rw[if_pos h] at q;exact q
 have q:Q (if qr3 n f g c=true then .tup [.str "turned",.int 0] else .non) [planD z a.Ca n f g,.lst l c]:=q;rw[if_neg (by rw[h];decide)] at q;exact q
theorem qt7:qa8 ["self", "plan", "rooms", "held", "fault"] ["self", "plan", "rooms"] (qa3 qz9):=by walk_at "s"
theorem qaD4{g:Nat->Option Int}(h:r < N):atD (rlD N g) r=Hi (g r):=by unfold atD;rw[qN3 h];rfl
theorem qaE6{g:Nat->Option Int}(h:r<=N):(rlD N g).take r=rlD r g:=by
 unfold rlD;rw[<- List.map_take,List.take_range,Nat.min_eq_left h]
theorem qaV2{g:Nat->Option Int}:(rlD r g).any (qB5 k)=true↔∃ j,j < r/\g j=some k:=by
 unfold rlD;rw[List.any_map,List.any_eq_true];constructor
 . rintro⟨j,a,e⟩
   refine⟨j,zAj.mp a,?_⟩;have e:qB5 k (Hi (g j))=true:=e;cases h:g j with
   | none=>rw[h] at e;cases e
   | some x=>rw[h] at e;rw[zA9 (show decide (x=k)=true from e)]
 rintro⟨j,a,e⟩;refine⟨j,zAj.mpr a,?_⟩;show qB5 k (Hi (g j))=true;rw[e];exact zAo rfl
theorem qaD6{n:Int}{wr:Bool}{ps:Pr}{g:Nat->Option Int}(a:r < n.toNat)(b:g r=some k)(c:Ag k):Bw n wr ps (rlD n.toNat g) r=(if (rlD r g).any (qB5 k)=true then (some "twice" : Option Str) else match Ax n wr ps k (r:Int) with
   | none=>some "home"
   | some f=>if f=0 then none else Hq n wr ps (Row.prev n.toNat r) (Hi (g (Row.prev n.toNat r))) k):=by
 unfold Bw;rw[qaD4 a,qaD4 (Row.ql3 a),qaE6 (zBz a),b];show (if (D.int k).num=true then _ else _)=_;rw[if_pos (qe0 c)]
 try rfl
theorem qaM4(h:ys[i]? = some v):D.tup [.int (i:Nat),v]∈enD ys:=zBb.mpr ⟨(v,i),List.mem_zipIdx_iff_getElem?.mpr h,rfl⟩
theorem qah9{n:Int}{wr:Bool}{ps:Pr}{g:Nat->Option Int}(m:1<=n)(KP:Kept n.toNat wr (hmOf n ps) g S)(t:∀ k∈S,Ag k):qao8 n wr ps (rlD n.toNat g)=.non:=by
 have p:∀{i k},i < n.toNat->g i=some k->Ag k:=λ{i k} l h=>t k ((KP.h.2 k).mpr ⟨i,l,h⟩)
 have b:Lp n wr ps (rlD n.toNat g)=none:=qW8 λ r d=>by
   have:Bw n wr ps (rlD n.toNat g) r=none:=by
     cases a:g r with
     | none=>unfold Bw;rw[qaD4 d,a];rfl
     | some k =>
       have q:=Row.ql3 d;rw[qaD6 d a (p d a),if_neg (λ z=>by
         obtain⟨j,A,e⟩:=qaV2.mp z
         have:=KP.o.inj j r k (by lia) d e a
         lia),qN6 m d (λ b=>KP.ln b r k d a)]
       show (if ((Ad n.toNat (hmOf n ps k) r:Nat):Int)=0 then none else _)=_;by_cases B:Ad n.toNat (hmOf n ps k) r=0
       . rw[if_pos (by lia)]
       obtain⟨x,s,u⟩:=KP.o.ord r k d a (by lia);rw[if_neg (by lia),s];show (if (D.int x).num=true then (if ql9 n wr ps (Row.prev n.toNat r:Nat) x k=true then (none:Option Str) else some "order") else none)=none;have v:=Hl (ps:=ps) m k;rw[if_pos (qe0 (p q s)),if_pos ((qK1 (ps:=ps) m q (λ b=>KP.ln b _ x q s) (λ b=>by
         have C:=KP.ln b r k d a;have E:=dor n.toNat (hmOf n ps k) r;have F:=por n.toNat r
         lia)).mpr u)]
   rw[this];rfl
 have w:qr3 n wr ps (rlD n.toNat g)=false:=by
   obtain⟨i,l,y⟩:=KP.c;refine List.all_eq_false.mpr ⟨_,qaM4 (qN3 l),?_⟩;cases a:g i with
   | none=>exact λ h=>by cases h
   | some k =>
     show ¬ (match Ax n wr ps k (i:Nat) with | some f=>decide (0 < f) | none=>false)=true;rw[qN6 m l (λ b=>KP.ln b i k l a),(qc0 (Hl m k) l).mpr (y k a).symm];exact λ h=>by cases h
 unfold qao8;rw[b,w];rfl
def rowD(zr:Bool)(C CP:Addr)(n:Int)(wr:Bool)(ps:Pr)(g:Nat->Option Int)(dn:Ds):D:=.ins zr C [("plan",planD true CP n wr ps),("held",.lst zr (rlD n.toNat g)),("done",.lst zr dn)]
section
variable{zr:Bool}{C CP:Addr}{n:Int}{wr:Bool}{ps:Pr}{g:Nat->Option Int}{dn:Ds}
theorem qk4:D.fld C "plan" (rowD zr C CP n wr ps g dn)=some (planD true CP n wr ps):=qB8 (by rfl)
theorem qx8:D.fld C "held" (rowD zr C CP n wr ps g dn)=some (.lst zr (rlD n.toNat g)):=qB8 (by rfl)
theorem qm8(h:([("plan",planD true CP n wr ps),("held",.lst zr (rlD n.toNat g)),("done",.lst zr dn)]:List (Str×D)).lookup m=none):(rowD zr C CP n wr ps g dn).isM C m=true:=qai4 h
end
theorem qJ5{zr:Bool}{C CP:Addr}{n:Int}{wr:Bool}{ps:Pr}{g:Nat->Option Int}{dn:Ds}:D.fidx C "held" (rowD zr C CP n wr ps g dn)=some 1:=by
 show (if C=C then List.findIdx? (λ q:Str×D=>("held" : Str) == q.1) [("plan",planD true CP n wr ps),("held",.lst zr (rlD n.toNat g)),("done",.lst zr dn)] else none)=_;rw[if_pos rfl];rfl
theorem qaU7{p:List Nat}{w:V}{d0:D}(h:Ay ds i p=some (.hole w)):bk1 i p w d0 ds=some (A7 ds i p d0):=by
 unfold bk1 Aj;rw[h];simp only[if_true];unfold Aj;rfl
theorem qT0{C:Addr}{f:Str}(h:te ds (λ d ds1=>orF (pf ds1) λ q=>orF ((Ay ds1 q.1 q.2).bind (D.ownI C)) λ fs=>fs.length < 100/\e.nx (A7 ds1 q.1 q.2 (.ins false C (Ih f d fs)))) e.xe):sFldV C f te pf e ds:=h
theorem mv_to(h:rdN i ds=some d)(q:Q d (ds.set i .unk)):tMv i ds Q xe:=qa2 h q
theorem qaL1{zr:Bool}{C CP:Addr}{n:Int}{wr:Bool}{ps:Pr}{g:Nat->Option Int}{dn:Ds}:(rowD zr C CP n wr ps g dn).isC C=some (.bl true):=if_pos rfl
theorem qae4{zr:Bool}{C CP:Addr}{n:Int}{wr:Bool}{ps:Pr}{g g':Nat->Option Int}{dn:Ds}(h:∀ i,i < n.toNat->g i=g' i):rowD zr C CP n wr ps g dn=rowD zr C CP n wr ps g' dn:=by
 unfold rowD;rw[qH7 h]
def qZ5(C CP:Addr):VSp:=λ ds Q _=>∃ n wr ps r g S,ds=[.ins false C [],planD true CP n wr ps,r]/\1<=n/\n<=64/\(∀ k∈S,Ag k)/\Kept n.toNat wr (hmOf n ps) g S/\(r=.non/\g=(λ _=>none)∨∃ z,r=.lst z (rlD n.toNat g))/\Q .non [rowD false C CP n wr ps g [],planD true CP n wr ps,r]
theorem qF1(T:Txt K mg a):VFn P w K mg base 10 a.f30 a.d30 ["self", "plan", "rooms"] (qZ5 a.Cc a.Ca):=by
 refine VFn.mkE T.d30.F qt7 (wOf [true,true,true]) (λ l Q Q' o s t _ h=>by obtain⟨n,c,f,r,g,S,e,u,v,B,C,D,q⟩:=h;exact⟨n,c,f,r,g,S,e,u,v,B,C,D,t _ _ q⟩) (λ l Q o h=>by obtain⟨n,c,f,r,g,S,e,_⟩:=h;rw[e];rfl) (λ l Q o h=>by obtain⟨n,c,f,r,g,S,e,_⟩:=h;rw[e];rfl) (λ G A outer M H E N j=>⟨_,(Ab (sif (Bt (tv (vbi (qak4 T.Gb T.Cg.cl) qaM9.ops T.Ch (qa1 (vnm 1) (qa1 (vcls a.Ca T.Cg.m) qa6 rfl) rfl))))
     (Ae (qj6 T.Co (qb1 T) (rm j) T.Cp T.d1.b qa0 (qa4 Ac)))
     Ap)
     (Ab (sif (tand (q2 (Am qr8 (qb0 _)) qx1 (vnm 2) A8) (Kv (Bt (tv (vbi qr2 qT4.ops T.Ch (qa1 (vnm 2) (qa1 (vty "list" T.Du) qa6 rfl) rfl)))))).te
     (Ae (qj6 T.Co (qb1 T) (rm j) T.Cp T.d1.b qa0 (qa4 Ac)))
     Ap)
     (Ab (Al 3 qt7.nd (eif (q2 (Am Ib (qb0 _)) Ia (vnm 2) A8) (qa4 (v2 (Af qh8) qh7 (Gq (qa1 A8 qa6 rfl)) (Ba rfl (vnm 1) T.Cg.cl T.Ck))) (qa4 (vcty qr1 qaj8.ops T.Du (qa1 (vnm 2) qa6 rfl)))))
     (Ab (Al 4 qt7.nd (Ah T.d21 (qaa3 T) qa0 (rm j) (vaN 1 (vaN 3 Aa))))
     (Ab (sif (q2 (Am qr8 (qb0 _)) qx1 (vnm 4) A8)
     (Ae qaP0)
     Ap)
     (Ab (Ii rfl (vpn 0) (qb7 (vnm 1)) T.Cm.cl T.Cr)
     (Ab (Ii rfl (vpn 0) (emv 3) T.Cm.cl T.Cs)
     (Ae (Ii rfl (vpn 0) (qa4 (Gq qa6)) T.Cm.cl T.Do))))))))),λ l Q o h=>?_⟩)
 obtain⟨n,c,f,r,g,S,rfl,p,I,J,KP,j,q⟩:=h;have O:r.known=true:=by
   rcases j with⟨rfl,_⟩ | ⟨z,rfl⟩<;>rfl
 refine At [.ins false a.Cc [],planD true a.Ca n c f,r,.unk,.unk] rfl ?_;refine qau3 (show Me a.Ca (planD true a.Ca n c f) (.adr a.Ca)=some (.bl true) from qaA9) ?_;refine ql7 false (λ Q q=>?_) (λ h=>(nomatch h)) λ _=>?_
 . rcases j with⟨rfl,_⟩ | ⟨z,rfl⟩
   . exact qs8 false false (λ Q q=>qh6 (b:=false) (f2_of rfl rfl rfl) q) (λ h=>(nomatch h)) q
   exact qs8 true false (λ Q q=>qh6 (b:=true) (f2_of rfl rfl rfl) q) (λ _ Q q=>qG3 (b:=true) (qai3 rfl) q) q
 refine qb6 [.ins false a.Cc [],planD true a.Ca n c f,r,.lst false (rlD n.toNat g),.unk] (λ K i=>qj5 ?_) ?_
 . rcases j with⟨rfl,rfl⟩ | ⟨z,rfl⟩
   . exact Jj (b:=true) (f2_of rfl rfl rfl) (λ _=>qq3 (f2_of rfl (As rfl qc6) (qag4 (by lia) I)) i) λ h=>(nomatch h)
   exact Jj (b:=false) (f2_of rfl rfl rfl) (λ h=>(nomatch h)) λ _=>qq3 (d:=.lst false (rlD n.toNat g)) (show Mc (.lst z (rlD n.toNat g))=_ from qh9 (qN0 _ _)) i
 refine qb6 [.ins false a.Cc [],planD true a.Ca n c f,r,.lst false (rlD n.toNat g),.non] (λ K i=>qj5 ?_) ?_
 . refine M0 (x:=planD true a.Ca n c f) (y:=.lst false (rlD n.toNat g)) (d:=qao8 n c f (rlD n.toNat g)) rfl rfl rfl ⟨true,n,c,f,false,rlD n.toNat g,rfl,p,by lia,qB2 _ _,λ y L=>?_,qN0 _ _,rfl⟩ rfl ?_
   . rcases qax3 L with rfl | ⟨k,rfl⟩
     . exact⟨_,rfl⟩
     exact⟨_,rfl⟩
   rw[qah9 p KP J];exact i
 refine ql7 false (λ Q q=>qh6 (b:=false) (f2_of rfl rfl rfl) q) (λ h=>(nomatch h)) λ _=>?_
 refine qb6 [.ins false a.Cc [("plan",planD true a.Ca n c f)],planD true a.Ca n c f,r,.lst false (rlD n.toNat g),.non] (λ K i=>qT0 (qk8 (d:=planD true a.Ca n c f) rfl rfl (qa2 (a:=(0,[])) rfl (qa2 qe7 ⟨by decide,i⟩)))) ?_;refine qb6 [.ins false a.Cc [("plan",planD true a.Ca n c f),("held",.lst false (rlD n.toNat g))],planD true a.Ca n c f,r,.unk,.non] (λ K i=>qT0 (mv_to (d:=.lst false (rlD n.toNat g)) rfl (qa2 (a:=(0,[])) rfl (qa2 qe7 ⟨by show 1 < 100;decide,i⟩)))) ?_;exact qT0 (qq3 (d:=.lst false []) rfl (qa2 (a:=(0,[])) rfl (qa2 qe7 ⟨by show 2 < 100;decide,q⟩)))
theorem qh2:qa8 ["self"] ["self"] (qa3 qe5):=by walk_at "s"
def growD(zg:Bool)(CG C CP:Addr)(n:Int)(ps:Pr)(g:Nat->Option Int)(dn:Ds)(h:Int):D:=.ins zg CG [("row",rowD zg C CP n true ps g dn),("housed_anew",.int h)]
section
variable{zg:Bool}{CG C CP:Addr}{n:Int}{ps:Pr}{g:Nat->Option Int}{dn:Ds}{h:Int}
theorem qai9:D.fld CG "row" (growD zg CG C CP n ps g dn h)=some (rowD zg C CP n true ps g dn):=qB8 (by rfl)
theorem qW5:D.fld CG "housed_anew" (growD zg CG C CP n ps g dn h)=some (.int h):=qB8 (by rfl)
theorem qd2(hm:([("row",rowD zg C CP n true ps g dn),("housed_anew",.int h)]:List (Str×D)).lookup m=none):(growD zg CG C CP n ps g dn h).isM CG m=true:=qai4 hm
theorem qaB8:D.fidx CG "row" (growD zg CG C CP n ps g dn h)=some 0:=by
 show (if CG=CG then List.findIdx? (λ q:Str×D=>("row" : Str) == q.1) [("row",rowD zg C CP n true ps g dn),("housed_anew",.int h)] else none)=_;rw[if_pos rfl];rfl
theorem qv0{r:Ds}:(D.fidx CG "row" (growD zg CG C CP n ps g dn h)).map (λ n=>((0:Nat),[n]))=some (0,[0]):=by rw[qaB8];rfl
end
def qg9(CG C CP:Addr):VSp:=Au λ ds d=>∃ zg n ps g dn h,ds=[growD zg CG C CP n ps g dn h]/\d=.int n
theorem qc5(T:Txt K mg a):VFn P w K mg base 1 a.f43 a.d43 ["self"] (qg9 a.Cb a.Cc a.Ca):=by
 refine VFn.mk2 T.d43.F qh2 (wOf [true]) qb4 (λ b Q c h=>by obtain⟨d,⟨f,n,i,g,j,h,e,_⟩,_⟩:=h;rw[e];exact⟨rfl,rfl⟩) (λ k A outer l H E m o=>⟨_,(Ae (Ak (qb7 (Ba rfl (Ba rfl (Ba rfl (vnm 0) T.Cd.cl T.Cn) T.Cm.cl T.Cr) T.Cg.cl T.Ck)))),λ b Q c h=>?_⟩);obtain⟨d,⟨f,n,i,g,j,h,rfl,rfl⟩,q⟩:=h;exact qe6 (qk8 (d:=.int n) (As (As (As rfl qai9) qk4) qc6) rfl q)
theorem qD2:qa8 ["self", "homes"] ["self", "homes"] (qa3 qk2):=by walk_at "s"
def qC9(CG C CP CW:Addr):VSp:=λ ds Q xe=>∃ x t,ds=[.ins false CG [],x]/\x.kind=some t/\x.lstOk Hb=true/\((x.homesB=false/\xe ⟨CW,[("at",.int 0)]⟩ ds)∨∃ z ps,x=.lst z (prD ps)/\qx6 ps/\Q .non [growD false CG C CP 4 ps (λ _=>none) [] 0,x])
theorem qp1(T:Txt K mg a):VFn P w K mg base 12 a.f39 a.d39 ["self", "homes"] (qC9 a.Cb a.Cc a.Ca a.Ci):=by
 refine VFn.mk2 T.d39.F qD2 (wOf [true,true]) (λ k Q Q' i l m j h=>by obtain⟨x,t,e,n,o,h⟩:=h;exact⟨x,t,e,n,o,h.imp (And.imp_right (j _ _)) λ ⟨z,c,e,G,q⟩=>⟨z,c,e,G,m _ _ q⟩⟩) (λ k Q i ⟨x,t,e,_⟩=>by rw[e];exact⟨rfl,rfl⟩) (λ p A outer u H E v f=>⟨_,(Ab (sif (Bt (te (Ah T.d10 (qo9 T) qa0 (rm f) (vaN 1 Aa))))
     (Ae (qj6 T.Co (qb1 T) (rm f) T.Cp T.d1.b qa0 (qa4 Ac)))
     Ap)
     (Ab (Ii rfl (vpn 0) (qaU3 (ndv:=[]) T.Cm T.G8 T.d30.bn (qF1 T) qa0 (rm f) (vaV (Bh (Kx T.Cg T.Fq T.d11 (qA6 T) qa0 (rm f) (vaV (qa4 (vgi T.Dk)) (vaV (qa4 vbl) (vaN 1 Aa))))) Aa)) T.Cd.cl T.Cn)
     (Ae (Ii rfl (vpn 0) (qa4 Ac) T.Cd.cl T.Cq)))),λ k Q i h=>?_⟩)
 obtain⟨x,t,rfl,j,r,h⟩:=h;refine At [.ins false a.Cb [],x] rfl ?_;refine qau4 x.homesB (λ Q i q=>qE2 (x:=x) (qd8 rfl (qb9 j)) ⟨D.bl x.homesB,⟨_,rfl,r,rfl⟩,qa2 (a:=[.ins false a.Cb [],x]) rfl q⟩) (λ g=>?_) λ g=>?_
 case refine_2 =>
   rcases h with⟨_,q⟩ | ⟨z,c,rfl,G,q⟩
   . exact q
   rw[(qs5 G).1] at g;cases g
 rcases h with⟨hb',_⟩ | ⟨z,c,rfl,G,q⟩
 . rw[g] at hb';cases hb'
 refine qb6 [.ins false a.Cb [("row",rowD false a.Cc a.Ca 4 true c (λ _=>none) [])],.lst z (prD c)] (λ K s=>qT0 (qf6 (Jl (qM4 (qc3 (y:=.int 4) rfl (qc3 (y:=.bl true) rfl (qc2 (x:=.lst z (prD c)) rfl (qb5 (qa2 (a:=D.lst z (prD c)) rfl ⟨4,true,z,c,rfl,by decide,by decide,G,rfl,?_⟩))))))))) ?_
 . refine qa2 (a:=planD false a.Ca 4 true c) rfl (qa2 (a:=[.ins false a.Cb [],.lst z (prD c)]) rfl (qb5 ?_))
   rw[qau7];refine⟨4,true,c,.non,λ _=>none,[],rfl,by decide,by decide,nofun,Kept.none (by decide) (Hl (by decide)),.inl ⟨rfl,rfl⟩,rfl,?_⟩;refine qa2 (a:=rowD false a.Cc a.Ca 4 true c (λ _=>none) []) rfl ?_;refine qa2 (a:=[D.ins false a.Cb [],D.lst z (prD c)]) rfl ?_;exact qa2 (a:=(0,[])) rfl (qa2 qe7 ⟨by decide,s⟩)
 exact qT0 (qq3 (d:=.int 0) rfl (qa2 (a:=(0,[])) rfl (qa2 qe7 ⟨by show 1 < 100;decide,q⟩)))
theorem qw9:qa8 ["self"] ["self"] (qa3 qh4):=by walk_at "s"
def ql2(C CP:Addr):VSp:=Au λ ds d=>∃ zr n wr ps g dn,ds=[rowD zr C CP n wr ps g dn]/\d=.lst false (rlD n.toNat g)
theorem ql4(T:Txt K mg a):VFn P w K mg base 1 a.f31 a.d31 ["self"] (ql2 a.Cc a.Ca):=by
 refine VFn.mk2 T.d31.F qw9 (wOf [true]) qb4 (λ j Q k h=>by obtain⟨d,⟨b,n,c,f,g,i,e,_⟩,_⟩:=h;rw[e];exact⟨rfl,rfl⟩) (λ l A outer m H E o p=>⟨_,(Ae (Ak (qa4 (vcty qr1 qaj8.ops T.Du (qa1 (Ba rfl (vnm 0) T.Cm.cl T.Cs) qa6 rfl))))),λ j Q k h=>?_⟩);obtain⟨d,⟨b,n,c,f,g,i,rfl,rfl⟩,q⟩:=h;refine At [rowD b a.Cc a.Ca n c f g i] rfl ?_;refine qi8 (.lst false (rlD n.toNat g)) ?_ q;unfold Bc Aw;rw[As rfl qx8];exact qh9 (qN0 _ _)
theorem qz0:qa8 ["self"] ["self"] (qa3 qi4):=by walk_at "s"
theorem _root_.Row.Kept.perm{n:Nat}{wr:Bool}{g:Nat->Option Int}(KP:Kept n wr hm g S):((List.range n).filterMap g).Perm S:=by
 refine(List.perm_ext_iff_of_nodup ?_ KP.h.1).mpr λ k=>?_
 . refine List.pairwise_filterMap.mpr (List.Pairwise.imp_of_mem (R:=(·≠·)) (λ{i j} a d f b l m c e=>?_) List.nodup_range)
   subst e;exact f (KP.o.inj i j b (zAj.mp a) (zAj.mp d) l c)
 rw[KP.h.2 k,List.mem_filterMap];exact⟨λ ⟨i,a,e⟩=>⟨i,zAj.mp a,e⟩,λ ⟨i,a,e⟩=>⟨i,zAj.mpr a,e⟩⟩
noncomputable def Kg(y:D):Option D:=match y with
 | .int k=>some (.int k)
 | _=>none
theorem qai0(N:Nat)(g:Nat->Option Int):(rlD N g).filterMap Kg=ksD ((List.range N).filterMap g):=by
 unfold rlD ksD;rw[List.filterMap_map,List.map_filterMap];refine congrArg (λ f=>List.filterMap f (List.range N)) (funext λ i=>?_);show Kg (Hi (g i))=(g i).map D.int;cases g i<;>rfl
def qy5(C CP:Addr):VSp:=Au λ ds d=>∃ zr n wr ps g dn,ds=[rowD zr C CP n wr ps g dn]/\n<=64/\d=.lst false (ksD ((List.range n.toNat).filterMap g))
theorem qh5(T:Txt K mg a):VFn P w K mg base 1 a.f32 a.d32 ["self"] (qy5 a.Cc a.Ca):=by
 refine VFn.mk2 T.d32.F qz0 (wOf [true]) qb4 (λ u Q v h=>by obtain⟨d,⟨p,n,r,s,g,t,e,_⟩,_⟩:=h;rw[e];exact⟨rfl,rfl⟩) (λ x A outer z H E i B=>⟨_,(Ae (Ak (eAlt (ecP (NY:=["key"]) (src:=[none]) (Bm rfl (vpn 0) T.Cm.cl T.Cs) (blk (λ i C j H0 l=>(Bp 0 (show (["key"]:List Str).Nodup by decide +kernel))) (λ i C j H0 l=>(Mr (q2 (Am qr8 (qb0 _)) qx1 (vnm 0) A8))) (λ i C j H0 l=>(qb7 (vnm 0))))) (ecL (NY:=["key"]) (src:=[none]) (qb7 (Ba rfl (vnm 0) T.Cm.cl T.Cs)) (blk (λ i C j H0 l=>(Bp 0 (show (["key"]:List Str).Nodup by decide +kernel))) (λ i C j H0 l=>(Mr (q2 (Am qr8 (qb0 _)) qx1 (vnm 0) A8))) (λ i C j H0 l=>(qb7 (vnm 0)))))))),λ u Q v h=>?_⟩);obtain⟨d,⟨p,n,r,s,g,t,rfl,G,rfl⟩,q⟩:=h;refine At [rowD p a.Cc a.Ca n r s g t] rfl ?_;have step:∀(y:D),y∈rlD n.toNat g->∀(d:D)(c:Ds)(R:Ds->Ds->Prop),(∀ ι',(∃ d,ι'=[d])->R (c++(Kg y).toList) ι')->c.length < big->gNm 0 y [d] λ ι1=>ttV (f2 gIsn (rdN 0) (kC .non)) ι1 (λ b ι2=>if b=true then Br (rdN 0) ι2 (λ d ι3=>c.length < big/\R (c++[d]) ι3) (λ _ _=>False) else R c ι2) (λ _ _=>False):=λ y m d c R o f=>by
   have this:=o [y] ⟨_,rfl⟩;refine Ln ?_;rcases qax3 m with rfl | ⟨k,rfl⟩
   . have this:R (c++[]) _:=this
     rw[zAg] at this;exact qh6 (b:=false) (f2_of rfl rfl rfl) (Il (by decide) this)
   exact qh6 (b:=true) (f2_of rfl rfl rfl) (Gx rfl (qk8 (d:=.int k) rfl rfl ⟨f,this⟩))
 cases p with
 | false =>
   refine qe6 (.inl (qa2 (a:=(0,[1])) (by show (D.fidx a.Cc "held" (rowD false a.Cc a.Ca n r s g t)).map (λ n=>(0,[n]))=_;rw[qJ5];rfl) (qa2 (a:=D.lst false (rlD n.toNat g)) rfl (qa2 (a:=rlD n.toNat g) rfl ⟨qN0 _ _,λ w=>?_⟩))));refine qC1 (λ ι=>∃ d,ι=[d]) Kg _ [] _ (by show 0+_ < 1000000;rw[qB2];lia) ⟨_,rfl⟩ (λ y m ι c ⟨d,e⟩ R o f=>e ▸ step y m d c R o f) ?_;rintro ι ⟨d,rfl⟩;rw[qai0,zBh];exact qa2 (qaU7 rfl) q
 | true =>
   refine qe6 (.inr (qk8 (d:=.lst true (rlD n.toNat g)) (As rfl qx8) rfl (qa2 (a:=rlD n.toNat g) rfl ⟨qN0 _ _,?_⟩)));refine qC1 (λ ι=>∃ d,ι=[d]) Kg _ [] _ (by show 0+_ < 1000000;rw[qB2];lia) ⟨_,rfl⟩ (λ y m ι c ⟨d,e⟩ R o f=>e ▸ step y m d c R o f) ?_;rintro ι ⟨d,rfl⟩;rw[qai0,zBh];exact q
theorem qZ8:qa8 ["self"] ["self"] (qa3 qz8):=by walk_at "s"
def qE3(C CP:Addr):VSp:=Au λ ds d=>∃ zr n wr ps g dn S,ds=[rowD zr C CP n wr ps g dn]/\n<=64/\Kept n.toNat wr (hmOf n ps) g S/\d=.int (S.length:Nat)
theorem qi9(T:Txt K mg a):VFn P w K mg base 2 a.f33 a.d33 ["self"] (qE3 a.Cc a.Ca):=by
 refine VFn.mk2 T.d33.F qZ8 (wOf [true]) qb4 (λ j Q k h=>by obtain⟨d,⟨b,n,c,f,g,i,S,e,_⟩,_⟩:=h;rw[e];exact⟨rfl,rfl⟩) (λ l A outer r H E s m=>⟨_,(Ae (Ak (ebi qE1 qE0.ops T.Dh (Ik (vaV (ql8 0 T.d32 T.Cm.cl (qh5 T) qa0 (rm m)) Aa))))),λ j Q k h=>?_⟩);obtain⟨d,⟨b,n,c,f,g,i,S,rfl,o,KP,rfl⟩,q⟩:=h;refine At [rowD b a.Cc a.Ca n c f g i] rfl ?_;refine qe6 (co_to (qf6 (qS2 (p:=rowD b a.Cc a.Ca n c f g i) (d:=.lst false (ksD ((List.range n.toNat).filterMap g))) rfl (qm8 rfl) ⟨b,n,c,f,g,i,rfl,o,rfl⟩ rfl (qb5 (qa2 (a:=D.int (S.length:Nat)) ?_ q)))));show some (D.int ((ksD ((List.range n.toNat).filterMap g)).length:Nat))=_;rw[qM6,KP.perm.length_eq]
theorem qL5:qa8 ["self", "key"] ["self", "key"] (qa3 qq0):=by walk_at "s"
theorem qw1(T:Txt K mg a):B7 P w K mg base CX0 1 a.f3 a.d3 ["self", "key"] (Mv a.Cj "key"):=by
 refine T.d3.F.ok qL5 (λ b H Q E h=>?_) (λ c A outer s H b Q E j h=>?_)
 . obtain⟨e,v,rfl,_⟩:=h
   rfl
 obtain⟨e,v,rfl,d,k⟩:=h;exact⟨_,(qA3 (qV1 (pv 0) (pv 1))),_,rfl,_,rfl,e,a.Cj,rfl,T.Fi,T.Eg,.inl ⟨d,λ f g i=>k f g i⟩⟩
theorem qH3:qa8 ["self", "room"] ["self", "room"] (qa3 qm5):=by walk_at "s"
theorem qI2(T:Txt K mg a):B7 P w K mg base CX0 1 a.f2 a.d2 ["self", "room"] (Mv a.Cf "room"):=by
 refine T.d2.F.ok qH3 (λ b H Q E h=>?_) (λ c A outer s H b Q E j h=>?_)
 . obtain⟨e,v,rfl,_⟩:=h
   rfl
 obtain⟨e,v,rfl,d,k⟩:=h;exact⟨_,(qA3 (qV1 (pv 0) (pv 1))),_,rfl,_,rfl,e,a.Cf,rfl,T.Ec,T.Dl,.inl ⟨d,λ f g i=>k f g i⟩⟩
theorem qQ6:qa8 ["plan", "keys", "room"] ["plan", "keys", "room"] (qa3 qu6):=by walk_at "s"
def qP7(C:Addr):VSp:=Au λ ds d=>∃ z n wr ps a ks r,ds=[planD z C n wr ps,.lst a (ksD ks),.int r]/\1<=n/\(∀ k∈ks,Ag k)/\ks.length<=1000/\d=.bl (if wr=true then decide (r=0)&&decide (n < (ks.length:Int)) else decide (n - r < ((ks.filter λ k=>decide (r<=qg7 n ps k)).length:Int)))
theorem qR8(T:Txt K mg a):VFn P w K mg base 5 a.f22 a.d22 ["plan", "keys", "room"] (qP7 a.Ca):=by
 refine VFn.mk2 T.d22.F qQ6 (wOf [true,true,true]) qb4 (λ v Q B h=>by obtain⟨d,⟨z,n,f,b,i,c,r,e,_⟩,_⟩:=h;rw[e];exact⟨rfl,rfl⟩) (λ G A outer N H E j s=>⟨_,(Ab (sif (tv (Ba rfl (vnm 0) T.Cg.cl T.Ct))
     (Ae (Ak (qa4 (vand (v2 (A5 (qv2 s.u64) (qb0 _)) Bs (vnm 2) Ac) (vone (v2 (A5 Bq (qb0 _)) B6 (vbi qE1 qE0.ops T.Dh (qa1 (vnm 1) qa6 rfl)) (Ba rfl (vnm 0) T.Cg.cl T.Ck)))))))
     Ap)
     (Ae (Ak (e2v (A5 Bq (qb0 _)) B6 (ebi qE1 qE0.ops T.Dh (Ik (vaV (ecN (NY:=["key", "room", "plan"]) (src:=[none,some 2,some 0]) 1 (blk (λ j C t H0 u=>(Bp 0 (show (["key", "room", "plan"]:List Str).Nodup by decide +kernel))) (λ j C t H0 u=>(Mr (q2v (A5 Kq (qb0 _)) (Am Kq (qb0 _)) Ma (qi0 2 T.d14 T.Cg.cl (qq2 T) qI8 (rm s) (vaN 0 Aa)) (vnm 1)))) (λ j C t H0 u=>(qb7 (vnm 0))))) Aa))) (v2 (Af qL8) qL7 (Ba rfl (vnm 0) T.Cg.cl T.Ck) (vnm 2)))))),λ v Q B h=>?_⟩)
 obtain⟨d,⟨z,n,f,b,i,c,r,rfl,I,J,O,rfl⟩,q⟩:=h;refine At [planD z a.Ca n f b,.lst i (ksD c),.int r] rfl ?_;refine qj3 f (As rfl qs6) (λ h=>?_) λ h=>?_
 . rw[if_pos h] at q
   have l:f2 gGt (Bc (fx1 Ki) (Aw (rdN 1) λ _=>some [])) (f1 (D.fld a.Ca "rooms") (rdN 0)) [planD z a.Ca n f b,.lst i (ksD c),.int r]=some (.bl (decide (n < (c.length:Int)))):=f2_of (qah4 rfl) (As rfl qc6) (by rw[qM6];rfl);exact qi8 _ (qav0 (a:=decide (r=0)) rfl l) q
 rw[if_neg (by rw[h];decide)] at q;refine qe6 ?_;refine⟨qN1 c,?_⟩;refine qC1 (λ ι=>∃ d,ι=[d,.int r,planD z a.Ca n f b]) (Jk λ k=>decide (r<=qg7 n b k)) (ksD c) [] _ (by show 0+(ksD c).length < big;rw[qM6];unfold big;lia) ⟨_,rfl⟩ ?_ ?_
 . rintro y L ι m ⟨d,rfl⟩ R M g
   obtain⟨k,o,rfl⟩:=zBb.mp L;refine M1 (p:=planD z a.Ca n f b) (x:=.int k) (d:=.int (qg7 n b k)) rfl (qf4 rfl) rfl rfl ⟨z,n,f,b,k,rfl,I,J k o,rfl⟩ rfl ?_;have this:=M _ ⟨.int k,rfl⟩;refine qa2 (a:=D.bl (decide (r<=qg7 n b k))) rfl (qa2 (a:=decide (r<=qg7 n b k)) rfl (ite_b (λ h=>?_) λ h=>?_))
   . rw[qat6 (p:=λ k=>decide (r<=qg7 n b k)) h] at this
     exact⟨rfl,g,this⟩
   rw[qat7 (p:=λ k=>decide (r<=qg7 n b k)) h] at this;have this:R (m++[]) _:=this;rw[zAg] at this;exact this
 rintro ι ⟨d,rfl⟩;rw[zBh,qS5];refine qa2 (a:=D.bl (decide (n - r < ((c.filter λ k=>decide (r<=qg7 n b k)).length:Int)))) ?_ q;show (f2 gSub (f1 (D.fld a.Ca "rooms") (rdN 0)) (rdN 2) [planD z a.Ca n f b,.lst i (ksD c),.int r]).bind (gGt (D.int ((ksD (c.filter λ k=>decide (r<=qg7 n b k))).length:Nat)))=_;rw[f2_of (As rfl qc6) rfl rfl,qM6];rfl
theorem qo5:qa8 ["plan", "keys", "room"] ["plan", "keys"] (qa3 qj9):=by walk_at "s"
def qT5(n:Int)(wr:Bool)(ps:Pr)(ks:List Int)(r:Int):Bool:=if wr=true then decide (r=0)&&decide (n < (ks.length:Int)) else decide (n - r < ((ks.filter λ k=>decide (r<=qg7 n ps k)).length:Int))
def qG1(n:Int)(wr:Bool)(ps:Pr)(ks:List Int):Option Nat:=(List.range n.toNat).find? λ r=>qT5 n wr ps ks (r:Int)
noncomputable def natD:Option Nat->D
 | none=>.non
 | some k=>.int (k:Int)
def qC6(C:Addr):VSp:=Au λ ds d=>∃ z n wr ps a ks,ds=[planD z C n wr ps,.lst a (ksD ks)]/\1<=n/\n<=64/\(∀ k∈ks,Ag k)/\ks.length<=1000/\d=natD (qG1 n wr ps ks)
theorem qD5(T:Txt K mg a):VFn P w K mg base 6 a.f23 a.d23 ["plan", "keys"] (qC6 a.Ca):=by
 refine VFn.mk2 T.d23.F qo5 (wOf [true,true]) qb4 (λ k Q t h=>by obtain⟨d,⟨z,n,c,f,o,g,e,_⟩,_⟩:=h;rw[e];exact⟨rfl,rfl⟩) (λ u A outer J H E L v=>⟨_,(Ab (qaw6 PassesOwn.leaving T.Dc (Ik (vaV (qb7 (Ba rfl (vnm 0) T.Cg.cl T.Ck)) Aa)) (Bp 2 qo5.nd)
     (Ae (sif (te (Ah T.d22 (qR8 T) qa0 (rm v) (vaN 0 (vaN 1 (vaN 2 Aa)))))
     (Ae (Ak (emv 2)))
     Ap)))
     (Ae (Ak (qa4 A8)))),λ k Q t h=>?_⟩)
 obtain⟨d,⟨z,n,c,f,o,g,rfl,B,M,C,D,rfl⟩,q⟩:=h;refine At [planD z a.Ca n c f,.lst o (ksD g),.unk] rfl ?_;refine qd3 (λ k=>(∀ i,i < n.toNat->qT5 n c f g (i:Int)=false)/\∃ d,k=[planD z a.Ca n c f,.lst o (ksD g),d]) (λ K p=>?_) ?_
 . refine qS9 (As rfl qc6) (Lm (by lia) (by lia)) ?_
   refine qq8 (λ i k=>(∀ j,j < i->qT5 n c f g (j:Int)=false)/\∃ d,k=[planD z a.Ca n c f,.lst o (ksD g),d]) _ 0 _ ⟨λ j r=>absurd r (Nat.not_lt_zero _),_,rfl⟩ ?_ ?_
   . rintro j x G k ⟨l,d,rfl⟩ K p
     rw[zB9] at l p;obtain⟨r,rfl⟩:=qZ9 G;refine if_e (b:=qT5 n c f g (j:Int)) (λ Q t q=>Ll (x:=planD z a.Ca n c f) (y:=.lst o (ksD g)) (w:=.int (j:Int)) rfl rfl rfl rfl rfl ⟨z,n,c,f,o,g,_,rfl,B,C,D,rfl⟩ rfl q) (λ s=>?_) (λ s=>?_)
     . have e:qG1 n c f g=some j:=List.find?_range_eq_some.mpr ⟨s,zAj.mpr r,λ i m=>by rw[l i m];rfl⟩
       rw[e] at q;exact q
     refine p _ ⟨λ i m=>?_,_,rfl⟩;rcases Nat.lt_succ_iff_lt_or_eq.mp m with h | rfl
     . exact l i h
     exact s
   rintro k ⟨l,I⟩;refine p _ ⟨λ i m=>l i ?_,I⟩;unfold Bl;rw[zAf,zAz,zB9];exact m
 rintro k ⟨l,d,rfl⟩;have e:qG1 n c f g=none:=List.find?_range_eq_none.mpr λ i m=>by rw[l i m];rfl
 rw[e] at q;exact q
theorem qo4:qa8 ["plan", "keys", "room"] ["plan", "keys"] (qa3 qj7):=by walk_at "s"
def qM2(n:Int)(wr:Bool)(ps:Pr)(ks:List Int):Prop:=∀ r:Nat,r < n.toNat->qT5 n wr ps ks (r:Int)=false
theorem qX8{n:Int}{wr:Bool}{ps:Pr}(h1:1<=n)(a:r < n.toNat):qT5 n wr ps ks (r:Int)=true↔Crowd n.toNat wr (hmOf n ps) ks r:=by
 unfold qT5 Crowd;cases wr with
 | true =>
   simp only[if_true,zB8,zBe];lia
 | false =>
   have e:(ks.filter λ k=>decide ((r:Int)<=qg7 n ps k))=ks.filter λ k=>decide (r<=hmOf n ps k):=by
     apply List.filter_congr;intro k _
     have:=qai7 (ps:=ps) h1 k
     apply decide_eq_decide.mpr;lia
   simp only[Bool.false_eq_true,if_false,e,zBe];lia
theorem qM2.no{n:Int}{wr:Bool}{ps:Pr}(h:qM2 n wr ps ks)(h1:1<=n)(q:Nat):¬ Crowd n.toNat wr (hmOf n ps) ks q:=λ z=>by
 have:=h q z.1
 rw[(qX8 h1 z.1).mpr z] at this;cases this
def qC4(C CN:Addr):VSp:=λ ds Q xe=>∃ z n wr ps a ks,ds=[planD z C n wr ps,.lst a (ksD ks)]/\1<=n/\n<=64/\(∀ k∈ks,Ag k)/\ks.length<=1000/\(qM2 n wr ps ks->Q .non ds)/\(∀ r:Nat,Crowd n.toNat wr (hmOf n ps) ks r->xe ⟨CN,[("room",.int (r:Nat))]⟩ ds)
theorem qo8(T:Txt K mg a):VFn P w K mg base 7 a.f24 a.d24 ["plan", "keys"] (qC4 a.Ca a.Cf):=by
 refine VFn.mk2 T.d24.F qo4 (wOf [true,true]) (λ o Q Q' p s t u h=>by obtain⟨z,n,f,g,j,i,e,l,m,v,B,C,D⟩:=h;exact⟨z,n,f,g,j,i,e,l,m,v,B,λ c=>t _ _ (C c),λ r c=>u _ _ (D r c)⟩) (λ o Q p h=>by obtain⟨z,n,f,g,j,i,e,_⟩:=h;rw[e];exact⟨rfl,rfl⟩) (λ G A outer O H E R k=>⟨_,(Ab (Al 2 qo4.nd (Ah T.d23 (qD5 T) qa0 (rm k) (vaN 0 (vaN 1 Aa))))
     (Ae (sif (q2 (Am qr8 (qb0 _)) qx1 (vnm 2) A8)
     (Ae (qj6 T.Fy (qI2 T) (rm k) T.F8 T.d2.b qa0 (qb7 (vnm 2))))
     Ap))),λ o Q p h=>?_⟩)
 obtain⟨z,n,f,g,j,i,rfl,l,m,I,J,q,L⟩:=h;refine At [planD z a.Ca n f g,.lst j (ksD i),.unk] rfl ?_;refine qb6 [planD z a.Ca n f g,.lst j (ksD i),natD (qG1 n f g i)] (λ K M=>?_) ?_
 . exact M0 (x:=planD z a.Ca n f g) (y:=.lst j (ksD i)) (d:=natD (qG1 n f g i)) rfl rfl rfl ⟨z,n,f,g,j,i,rfl,l,m,I,J,rfl⟩ rfl M
 cases e:qG1 n f g i with
 | none=>exact Kc (b:=false) rfl (λ h=>nomatch h) λ _=>q λ r k=>by simpa using List.find?_range_eq_none.mp e r k
 | some r =>
   have N:=List.find?_some e;have k:=zAj.mp (List.mem_of_find?_eq_some e);refine Kc (b:=true) rfl (λ _=>?_) λ h=>nomatch h
   exact qk8 (d:=.int (r:Nat)) rfl rfl ⟨rfl,L r ((qX8 l k).mp N)⟩
theorem qg8:qa8 ["plan", "rooms", "key", "came", "room", "held"] ["plan", "rooms", "key"] (qa3 qz6):=by walk_at "s"
def qZ3(C:Addr):VSp:=λ ds Q _=>∃ z n wr ps g S a,ds=[planD z C n wr ps,.lst false (rlD n.toNat g),.int a]/\1<=n/\n<=64/\Ag a/\(∀ k∈S,Ag k)/\Kept n.toNat wr (hmOf n ps) g S/\¬ a∈S/\(∃ e,Lb n.toNat wr (hmOf n ps) g a e) /\
 ∀ came g',Kept n.toNat wr (hmOf n ps) g' (S++[a])->Q (.lst false came) [planD z C n wr ps,.lst false (rlD n.toNat g'),.int a]
theorem qF0(T:Txt K mg a):VFn P w K mg base 7 a.f25 a.d25 ["plan", "rooms", "key"] (qZ3 a.Ca):=by
 refine VFn.mk2 T.d25.F qg8 (wOf [true,true,false]) (λ s Q Q' L U V _ h=>by obtain⟨z,n,i,f,g,S,key,e,X,Y,Z,h4,h5,h6,h7,q⟩:=h;exact⟨z,n,i,f,g,S,key,e,X,Y,Z,h4,h5,h6,h7,λ c g' K=>V _ _ (q c g' K)⟩) (λ s Q L h=>by obtain⟨z,n,i,f,g,S,key,e,_⟩:=h;rw[e];exact⟨rfl,rfl⟩) (λ a0 A outer sh H E av l=>⟨_,(Ab (Al 3 qg8.nd (qa4 (Gq qa6)))
     (Ab (Al 4 qg8.nd (qi0 0 T.d14 T.Cg.cl (qq2 T) qa0 (rm l) (vaN 2 Aa)))
     (Ab (qar6 PassesOwn.leaving (q2 (Am qr8 (qb0 _)) qx1 (v2 (A9 qd1) Aq (vnm 1) (vnm 4)) A8)
     (Ab (Al 5 qg8.nd (qb7 (v2 (A9 qd1) Aq (vnm 1) (vnm 4))))
     (Ab (sif (te (qi0 0 T.d16 T.Cg.cl (qj0 T) qa0 (rm l) (vaN 4 (vaN 2 (vaN 5 Aa)))))
     (Ab (Bf (Ka 3 qS1 PySem.F.plainAttrs_list PySem.F.slot_list_append PySem.F.type_list_append qi1 (vaV (qa4 (Bb (qa1 (vnm 2) (qa1 (vnm 4) qa6 rfl) rfl))) Aa)))
     (Ab (Js (qb7 (vnm 2)) (Hn (vpn 1) (vnm 4)))
     (Ae (Al 2 qg8.nd (qb7 (vnm 5))))))
     Ap)
     (Ae (Al 4 qg8.nd (qa4 (v2 (Af qx2) qx0 (v2 (Af qg6) qg5 (vnm 4) Ac) (Ba rfl (vnm 0) T.Cg.cl T.Ck))))))))
     (Ab (Bf (Ka 3 qS1 PySem.F.plainAttrs_list PySem.F.slot_list_append PySem.F.type_list_append qi1 (vaV (qa4 (Bb (qa1 (vnm 2) (qa1 (vnm 4) qa6 rfl) rfl))) Aa)))
     (Ab (Js (qb7 (vnm 2)) (Hn (vpn 1) (vnm 4)))
     (Ae (Ak (emv 3)))))))),λ s Q L h=>?_⟩)
 obtain⟨z,n,i,f,g,S,key,rfl,v,n2,t,hS,KP,C,⟨e,Fr⟩,q⟩:=h;have hh:=Hl (ps:=f) v key;have O:∀ x∈S++[key],Ag x:=λ x B=>by
   rcases zAa.mp B with h | h
   . exact hS x h
   rw[zAq.mp h];exact t
 have M:(S++[key]).Nodup:=List.nodup_append.mpr ⟨KP.h.1,(by simp),λ x B y D e=>C (by rw[<- zAq.mp D,<- e];exact B)⟩;refine At [planD z a.Ca n i f,.lst false (rlD n.toNat g),.int key,.unk,.unk,.unk] rfl ?_;refine qb6 [planD z a.Ca n i f,.lst false (rlD n.toNat g),.int key,.lst false [],.unk,.unk] (λ K k=>k) ?_;refine qb6 [planD z a.Ca n i f,.lst false (rlD n.toNat g),.int key,.lst false [],.int (hmOf n f key:Nat),.unk] (λ K k=>?_) ?_
 . exact M1 (p:=planD z a.Ca n i f) (x:=.int key) (d:=.int (hmOf n f key:Nat)) rfl (qf4 rfl) rfl rfl ⟨z,n,i,f,key,rfl,v,t,by rw[qai7 v]⟩ rfl k
 refine qd3 (λ s=>∃ j c r came u,s=[planD z a.Ca n i f,.lst false (rlD n.toNat j),.int c,.lst false came,.int (r:Nat),u]/\Row.Walk n.toNat i (hmOf n f) (S++[key]) key e j c r/\j r=none/\came.length<=64) (λ K k=>?_) ?_
 . have W0:=KP.start C Fr
   refine qab8 (λ m s=>∃ j c r came u,s=[planD z a.Ca n i f,.lst false (rlD n.toNat j),.int c,.lst false came,.int (r:Nat),u]/\Row.Walk n.toNat i (hmOf n f) (S++[key]) key e j c r/\m=Ad n.toNat (hmOf n f key) e - Ad n.toNat (hmOf n f key) r/\came.length+m<=64) _ ⟨g,key,hmOf n f key,[],_,rfl,W0,rfl,by have:=qp4 Fr.1 hh;show 0+_<=64;lia⟩ ?_;rintro m s ⟨j,c,r,came,u,rfl,W,rfl,hc⟩ K2 N;have l:=W.hr;cases o:j r with
   | none =>
     refine qh6 (b:=false) (f2_of (f2_of rfl rfl (Im l)) rfl (by rw[o];rfl)) ?_;exact k _ ⟨j,c,r,came,u,rfl,W,o,by lia⟩
   | some y =>
     refine qh6 (b:=true) (f2_of (f2_of rfl rfl (Im l)) rfl (by rw[o];rfl)) ?_;have B:i=false->hmOf n f c<=r:=λ h=>(W.ln h).2.1
     have D:i=false->hmOf n f y<=r:=λ h=>(W.ln h).2.2 r y l o
     have cT:Ag c:=O c ((W.all c).mpr (.inl rfl));have yT:Ag y:=O y ((W.all y).mpr (.inr ⟨r,l,o⟩));have lt:=W.lt o;have R:=W.nx o;refine Gx rfl ?_;refine qb6 [planD z a.Ca n i f,.lst false (rlD n.toNat j),.int c,.lst false came,.int (r:Nat),.int y] (λ K k=>?_) ?_
     . exact qL1 (d:=.int y) (f2_of rfl rfl (by rw[Im l,o];rfl)) rfl k
     refine qd3 (λ s=>∃ G I came3,s=[planD z a.Ca n i f,.lst false (rlD n.toNat G),.int I,.lst false came3,.int (r:Nat),.int y]/\Row.Walk n.toNat i (hmOf n f) (S++[key]) key e G I (Row.next n.toNat r)/\came3.length<=came.length+1) (λ K k=>?_) ?_
     . refine if_e (b:=ql9 n i f (r:Nat) c y) (λ Q L q=>qaS2 (p:=planD z a.Ca n i f) (x:=.int (r:Nat)) (y:=.int c) (w:=.int y) rfl (qf4 rfl) rfl rfl rfl rfl rfl rfl ⟨z,n,i,f,(r:Nat),c,y,rfl,v,by lia,by lia,cT,yT,rfl⟩ rfl q) (λ J=>?_) (λ J=>?_)
       . have ha:=(qK1 v l B D).mp J
         refine qb6 [planD z a.Ca n i f,.lst false (rlD n.toNat j),.int c,.lst false (came++[.tup [.int c,.int (r:Nat)]]),.int (r:Nat),.int y] (λ K k=>?_) ?_
         . exact qO1 (ys:=came) (d:=.tup [.int c,.int (r:Nat)]) rfl rfl (by show came.length < 1000000;lia) k
         refine qb6 [planD z a.Ca n i f,.lst false (rlD n.toNat (Row.set j r c)),.int c,.lst false (came++[.tup [.int c,.int (r:Nat)]]),.int (r:Nat),.int y] (λ K k=>?_) ?_
         . refine qU5 (d:=.int c) (ys:=rlD n.toNat j) rfl rfl rfl rfl (M3 l) ?_
           rw[qQ2];exact k
         exact qL1 (d:=.int y) rfl rfl (k _ ⟨Row.set j r c,y,_,rfl,W.swap o ha,by rw[zA7];exact zA3 _⟩)
       exact k _ ⟨j,c,came,rfl,W.on o (λ h=>by rw[(qK1 v l B D).mpr h] at J;cases J),by lia⟩
     rintro s ⟨G,I,came3,rfl,W3,a1⟩;refine qU8 (d:=.int (Row.next n.toNat r:Nat)) (f2_of (f2_of rfl rfl rfl) (As rfl qc6) (by rw[Iz (by lia),qaz6 v l])) ?_;exact N _ _ (by rw[R];lia) ⟨G,I,_,came3,_,rfl,W3,rfl,by rw[R];lia⟩
 rintro s ⟨j,c,r,came,u,rfl,W,o,hc⟩;have l:=W.hr;refine qb6 [planD z a.Ca n i f,.lst false (rlD n.toNat j),.int c,.lst false (came++[.tup [.int c,.int (r:Nat)]]),.int (r:Nat),u] (λ K k=>?_) ?_
 . exact qO1 (ys:=came) (d:=.tup [.int c,.int (r:Nat)]) rfl rfl (by show came.length < 1000000;lia) k
 refine qb6 [planD z a.Ca n i f,.lst false (rlD n.toNat (Row.set j r c)),.int c,.lst false (came++[.tup [.int c,.int (r:Nat)]]),.int (r:Nat),u] (λ K k=>?_) ?_
 . refine qU5 (d:=.int c) (ys:=rlD n.toNat j) rfl rfl rfl rfl (M3 l) ?_
   rw[qQ2];exact k
 exact q _ _ (W.done M o)
theorem qH2:qa8 ["self", "key"] ["self", "key"] (qa3 qm4):=by walk_at "s"
noncomputable def Kn:Option Int->V
 | some k=>.int k
 | none=>.non
theorem qaj5(N:Nat)(g:Nat->Option Int):flats (rlD N g)=some ((List.range N).map λ i=>Kn (g i)):=by
 have:∀ l:List Nat,flats (l.map λ i=>Hi (g i))=some (l.map λ i=>Kn (g i)):=λ l=>by
   induction l with
   | nil=>rfl
   | cons a l b =>
     show ((Hi (g a)).flat.bind λ v=>(flats (l.map λ i=>Hi (g i))).bind λ c=>some (v::c))=_;rw[b,zAx];cases g a<;>rfl
 exact this _
noncomputable def Hr(N:Nat)(g:Nat->Option Int)(k:Int):Option Nat:=(List.range N).findIdx? λ i=>decide (g i=some k)
def Gz(N:Nat)(g:Nat->Option Int)(k:Int):D:=match Hr N g k with
 | some i=>.int (i:Nat)
 | none=>.non
theorem qav2{o:Option Int}:eqV (Kn o) (.int k)=decide (o=some k):=by
 cases o with
 | none=>rfl
 | some a =>
   show decide (a=k)=_;exact decide_eq_decide.mpr ⟨λ h=>by rw[h],λ h=>Option.some.inj h⟩
theorem qau0{k:Int}{g:Nat->Option Int}:∀ l:List Nat,Kb (.int k) (l.map λ i=>Kn (g i))=l.findIdx? λ i=>decide (g i=some k)
 | []=>rfl
 | a::l=>by
   show (if eqV (Kn (g a)) (.int k)=true then some 0 else (Kb (.int k) (l.map λ i=>Kn (g i))).map (· + 1))=_;rw[qav2,qau0 l,zBw]
theorem qaL2{k:Int}{g:Nat->Option Int}:∀ l:List Nat,inV (.int k) (l.map λ i=>Kn (g i))=(l.findIdx? λ i=>decide (g i=some k)).isSome
 | []=>rfl
 | a::l=>by
   have b:=qaL2 (k:=k) (g:=g) l;unfold inV at b ⊢;rw[zAx,zC1,b,zBw];have e:=qav2 (o:=g a) (k:=k);cases h:decide (g a=some k) with
   | true=>rw[h] at e;simp[e]
   | false=>rw[h] at e;simp[e]
theorem qH6{g:Nat->Option Int}(h:∀ i,i < N->g i≠some k):Gz N g k=.non:=by
 have:Hr N g k=none:=List.findIdx?_eq_none_iff.mpr λ i a=>zB0 (h i (zAj.mp a))
 unfold Gz;rw[this]
theorem qH5{g:Nat->Option Int}(hi:i < N)(e:g i=some k):∃ j:Nat,Gz N g k=.int (j:Nat):=by
 unfold Gz;cases h:Hr N g k with
 | some j=>exact⟨j,rfl⟩
 | none =>
   have:=List.findIdx?_eq_none_iff.mp h i (zAj.mpr hi)
   rw[zAo e] at this;cases this
def qG6(C CP CW:Addr):VSp:=λ ds Q xe=>∃ zr n wr ps g dn x t,ds=[rowD zr C CP n wr ps g dn,x]/\x.kind=some t/\(x.num=false->xe ⟨CW,[("at",.int 0)]⟩ ds)/\∀ k,x=.int k->Ag k->Q (Gz n.toNat g k) ds
theorem qk6(T:Txt K mg a):VFn P w K mg base 4 a.f34 a.d34 ["self", "key"] (qG6 a.Cc a.Ca a.Ci):=by
 refine VFn.mk2 T.d34.F qH2 (wOf [true,true]) (λ z Q Q' s C G o h=>by obtain⟨c,n,f,l,g,m,x,t,e,I,J,q⟩:=h;exact⟨c,n,f,l,g,m,x,t,e,I,λ b=>o _ _ (J b),λ k e h=>G _ _ (q k e h)⟩) (λ z Q s h=>by obtain⟨c,n,f,l,g,m,x,t,e,_⟩:=h;rw[e];exact⟨rfl,rfl⟩) (λ L A outer R H E S B=>⟨_,(Ab (sif (Bt (te (Ah T.d7 (qc4 T) qa0 (rm B) (vaN 1 Aa))))
     (Ae (qj6 T.Co (qb1 T) (rm B) T.Cp T.d1.b qa0 (qa4 Ac)))
     Ap)
     (Ae (Ak (eif (q2 (Am qV3 (by with_unfolding_all rfl)) os_in (vnm 1) (Ba rfl (vnm 0) T.Cm.cl T.Cs)) (qa4 (vbm qaI6 PySem.F.plainAttrs_list PySem.F.slot_list_index PySem.F.type_list_index qag5 (Ba rfl (vnm 0) T.Cm.cl T.Cs) (vnm 1) qau1)) (qa4 A8))))),λ z Q s h=>?_⟩)
 obtain⟨c,n,f,l,g,m,x,t,rfl,o,M,q⟩:=h;refine At [rowD c a.Cc a.Ca n f l g m,x] rfl ?_;refine qau4 x.num (λ Q s q=>qL6 (x:=x) (d:=.bl x.num) (qd8 rfl (qb9 o)) (by show x.kind.map _=_;rw[o];rfl) rfl q) (λ N=>?_) M;obtain⟨k,rfl,O⟩:=qaz2 N
 replace q:=q k rfl O
 refine qe6 ?_;have u:f2 (gInB false) (rdN 1) (f1 (D.fld a.Cc "held") (rdN 0)) [rowD c a.Cc a.Ca n f l g m,.int k]=some (.bl (Hr n.toNat g k).isSome):=by
   refine f2_of (x:=.int k) (y:=.lst c (rlD n.toNat g)) rfl (As rfl qx8) ?_;show ((flats (rlD n.toNat g)).bind λ p=>some (D.bl (if false=true then !inV (.int k) p else inV (.int k) p)))=_;rw[qaj5];show some (D.bl (inV (.int k) _))=_;rw[qaL2];rfl
 refine Jj u (λ h=>?_) λ h=>?_
 . obtain⟨i,r⟩:=zAy.mp h
   refine qq3 (d:=.int (i:Nat)) (f2_of (As rfl qx8) rfl ?_) ?_
   . show ((some (V.int k)).bind λ v=>(flats (rlD n.toNat g)).bind λ p=>(Kb v p).map λ j=>D.int (j:Nat))=_
     rw[qaj5];show (Kb (.int k) _).map _=_;rw[qau0];show (Hr n.toNat g k).map _=_;rw[r];rfl
   unfold Gz at q;rw[r] at q;exact q
 refine qq3 (d:=.non) rfl ?_;have r:Hr n.toNat g k=none:=by cases e:Hr n.toNat g k with | none=>rfl | some i=>rw[e] at h;cases h
 unfold Gz at q;rw[r] at q;exact q
theorem qad9:qa8 ["self", "key"] ["self", "key"] (qa3 qH4):=by walk_at "s"
theorem qX1{C CP:Addr}{n:Int}{wr:Bool}{ps:Pr}{g:Nat->Option Int}{dn:Ds}:D.fidx C "done" (rowD false C CP n wr ps g dn)=some 2:=by
 show (if C=C then List.findIdx? (λ q:Str×D=>("done" : Str) == q.1) [("plan",planD true CP n wr ps),("held",.lst false (rlD n.toNat g)),("done",.lst false dn)] else none)=_;rw[if_pos rfl];rfl
def qad1(C CP CW CT CN:Addr):VSp:=λ ds Q xe=>∃ n wr ps g dn S x t,ds=[rowD false C CP n wr ps g dn,x]/\x.kind=some t/\1<=n/\n<=64/\(∀ y∈S,Ag y)/\Kept n.toNat wr (hmOf n ps) g S/\dn.length<=1000/\(x.num=false->xe ⟨CW,[("at",.int 0)]⟩ ds) /\
 ∀ k,x=.int k->Ag k->(k∈S->xe ⟨CT,[("key",.int k)]⟩ ds)/\(¬ k∈S->(∀ r:Nat,Crowd n.toNat wr (hmOf n ps) (S++[k]) r->xe ⟨CN,[("room",.int (r:Nat))]⟩ ds) /\
   ((∀ q,¬ Crowd n.toNat wr (hmOf n ps) (S++[k]) q)->∀ came g',Kept n.toNat wr (hmOf n ps) g' (S++[k])->Q (.lst false came) [rowD false C CP n wr ps g' (dn++[.tup [.str "put",.int k]]),.int k]))
theorem qaf9(T:Txt K mg a):VFn P w K mg base 8 a.f35 a.d35 ["self", "key"] (qad1 a.Cc a.Ca a.Ci a.Cj a.Cf):=by
 refine VFn.mk2 T.d35.F qad9 (wOf [true,true]) (λ C Q Q' V Y Z s h=>by obtain⟨n,f,l,g,m,S,x,t,e,h1,h2,h3,h4,h5,h6,L,q⟩:=h;exact⟨n,f,l,g,m,S,x,t,e,h1,h2,h3,h4,h5,h6,λ a=>s _ _ (L a),λ k e u=>⟨λ i=>s _ _ ((q k e u).1 i),λ i=>⟨λ r c=>s _ _ (((q k e u).2 i).1 r c),λ v c J K=>Z _ _ (((q k e u).2 i).2 v c J K)⟩⟩⟩) (λ C Q V h=>by obtain⟨n,f,l,g,m,S,x,t,e,_⟩:=h;rw[e];exact⟨rfl,rfl⟩) (λ a0 A outer sh H E av G=>⟨_,(Ab (sif (q2v (A5 qr8 (qb0 _)) (Am qr8 (qb0 _)) qx1 (qi0 0 T.d34 T.Cm.cl (qk6 T) qa0 (rm G) (vaN 1 Aa)) A8)
     (Ae (qj6 T.Fl (qw1 T) (rm G) T.Ex T.d3.b qa0 (qb7 (vnm 1))))
     Ap)
     (Ab (Bf (Ah T.d24 (qo8 T) qa0 (rm G) (vaV (qb7 (Ba rfl (vnm 0) T.Cm.cl T.Cr)) (vaV (e2v (Af qg6) qg5 (ql8 0 T.d32 T.Cm.cl (qh5 T) qa0 (rm G)) (Gq (qa1 (vnm 1) qa6 rfl))) Aa))))
     (Ab (Bf (emutP qS1 PySem.F.plainAttrs_list PySem.F.slot_list_append PySem.F.type_list_append qi1 (Bm rfl (vpn 0) T.Cm.cl T.Do) (vaV (qa4 (Bb (qa1 A4 (qa1 (vnm 1) qa6 rfl) rfl))) Aa)))
     (Ae (Ak (Ah T.d25 (qF0 T) qa0 (rm G) (vaV (qb7 (Ba rfl (vnm 0) T.Cm.cl T.Cr)) (vaB (Bm rfl (vpn 0) T.Cm.cl T.Cs) (vaN 1 Aa))))))))),λ C Q V h=>?_⟩)
 obtain⟨n,f,l,g,m,S,x,t,rfl,s,M,N,W,KP,a1,L,q⟩:=h;have X:=qb9 s;have O:=KP.perm;have hL:((List.range n.toNat).filterMap g).length<=64:=by
   have:=List.length_filterMap_le g (List.range n.toNat)
   rw[zAz] at this;lia
 refine At [rowD false a.Cc a.Ca n f l g m,x] rfl ?_;refine qJ3 (qD4 (qj2 (p:=rowD false a.Cc a.Ca n f l g m) rfl (qm8 rfl) (qc2 (x:=x) (qd8 rfl X) (qb5 (qa2 (a:=x) (qd8 rfl X) (qa2 (a:=rowD false a.Cc a.Ca n f l g m) rfl ⟨false,n,f,l,g,m,x,t,rfl,s,λ hb=>qa2 (a:=[rowD false a.Cc a.Ca n f l g m,x]) rfl (L hb),λ k e u=>?_⟩))))));subst e;obtain⟨q1,q2⟩:=q k rfl u;refine qa2 (a:=[rowD false a.Cc a.Ca n f l g m,.int k]) rfl ?_;by_cases o:k∈S
 . obtain⟨i,R,e⟩:=(KP.h.2 k).mp o
   obtain⟨j,hj⟩:=qH5 R e;rw[hj];exact qa2 (a:=D.bl true) rfl (qa2 (a:=true) rfl (Gx rfl (qk8 (d:=.int k) rfl rfl ⟨rfl,q1 o⟩)))
 obtain⟨qn,q⟩:=q2 o;rw[qH6 λ i R e=>o ((KP.h.2 k).mpr ⟨i,R,e⟩)];refine qa2 (a:=D.bl false) rfl (qa2 (a:=false) rfl (Il (λ h=>nomatch h) ?_));refine qd3 (λ C=>C=[rowD false a.Cc a.Ca n f l g m,.int k]/\∀ q,¬ Crowd n.toNat f (hmOf n l) (S++[k]) q) (λ K U=>qf7 (qn2 ?_)) ?_
 . refine qy2 (y:=planD true a.Ca n f l) (As rfl qk4) rfl (qf6 (qP2 ?_))
   refine qS2 (p:=rowD false a.Cc a.Ca n f l g m) (d:=.lst false (ksD ((List.range n.toNat).filterMap g))) rfl (qm8 rfl) ⟨false,n,f,l,g,m,rfl,N,rfl⟩ rfl ?_;refine qa2 (a:=D.lst false (ksD ((List.range n.toNat).filterMap g++[k]))) (qaV5 (z:=false) (z':=false) (B:=[k]) (by show _+1<=1000;lia)) (qb5 ?_);refine⟨true,n,f,l,false,_,rfl,M,N,λ x s=>?_,by rw[zA7];show _+1<=1000;lia,λ v=>U _ ⟨rfl,λ q c=>v.no M q (c.perm (O.append_right [k]).symm)⟩,λ r c=>qn r (c.perm (O.append_right [k]))⟩;rcases zAa.mp s with h | h
   . exact W x (O.subset h)
   rw[zAq.mp h];exact u
 rintro C ⟨rfl,v⟩
 replace q:=q v
 refine qb6 [rowD false a.Cc a.Ca n f l g (m++[.tup [.str "put",.int k]]),.int k] (λ K U=>qf7 ?_) ?_
 . refine qat2 (i:=0) (p:=[2]) (ys:=m) (d0:=rowD false a.Cc a.Ca n f l g m) (by show (D.fidx a.Cc "done" (rowD false a.Cc a.Ca n f l g m)).map (λ n=>(0,[n]))=_;rw[qX1];rfl) rfl rfl ?_
   exact qc3 (y:=.tup [.str "put",.int k]) rfl (qb5 (qa2 (a:=(m++[D.tup [.str "put",.int k]],D.non)) (if_pos (show m.length < big by unfold big;lia)) U))
 generalize m++[.tup [.str "put",.int k]]=I at q ⊢;refine qe6 (qn2 (qy2 (y:=planD true a.Ca n f l) (As rfl qk4) rfl ?_));refine qa2 (a:=(0,[1])) (by show (D.fidx a.Cc "held" (rowD false a.Cc a.Ca n f l g I)).map (λ n=>(0,[n]))=_;rw[qJ5];rfl) (qa2 (a:=D.lst false (rlD n.toNat g)) rfl ⟨rfl,λ w=>?_⟩);refine qc2 (x:=.int k) rfl (qb5 (qa2 (a:=D.int k) rfl ?_));refine⟨true,n,f,l,g,S,k,rfl,M,N,u,W,KP,o,?_,λ came J K'=>?_⟩
 . by_cases h:∃ e,Lb n.toNat f (hmOf n l) g k e
   . exact h
   obtain⟨q,c⟩:=KP.crowd λ e z=>h ⟨e,z⟩
   exact absurd c (v q)
 refine qa2 (a:=[rowD false a.Cc a.Ca n f l J I,.int k]) ?_ (q came J K');show Aj (.pl 0 [1] w::_) _ _=_;rw[qn3 rfl];rfl
theorem qz1:qa8 ["self", "key"] ["self", "key"] (qa3 qi5):=by walk_at "s"
theorem qA7(T:Txt K mg a):B7 P w K mg base CX0 1 a.f4 a.d4 ["self", "key"] (Mv a.Ce "key"):=by
 refine T.d4.F.ok qz1 (λ b H Q E h=>?_) (λ c A outer s H b Q E j h=>?_)
 . obtain⟨e,v,rfl,_⟩:=h
   rfl
 obtain⟨e,v,rfl,d,k⟩:=h;exact⟨_,(qA3 (qV1 (pv 0) (pv 1))),_,rfl,_,rfl,e,a.Ce,rfl,T.Eh,T.Dg,.inl ⟨d,λ f g i=>k f g i⟩⟩
theorem qH1:qa8 ["plan", "room"] ["plan", "room"] (qa3 qm3):=by walk_at "s"
def qr5(C:Addr):VSp:=Au λ ds d=>∃ z n wr ps r,ds=[planD z C n wr ps,.int r]/\d=(if r < n - 1 then .int (r+1) else if wr=true then .int 0 else .non)
theorem qs0(T:Txt K mg a):VFn P w K mg base 1 a.f27 a.d27 ["plan", "room"] (qr5 a.Ca):=by
 refine VFn.mk2 T.d27.F qH1 (wOf [true,true]) qb4 (λ g Q i h=>by obtain⟨d,⟨z,n,c,f,r,e,_⟩,_⟩:=h;rw[e];exact⟨rfl,rfl⟩) (λ j A outer k H E l m=>⟨_,(Ab (sif (q2 (Am Hj (qb0 _)) Hy (vnm 1) (v2 (Af qL8) qL7 (Ba rfl (vnm 0) T.Cg.cl T.Ck) Ac))
     (Ae (Ak (qa4 (v2 (Af qg6) qg5 (vnm 1) Ac))))
     Ap)
     (Ae (Ak (eif (tv (Ba rfl (vnm 0) T.Cg.cl T.Ct)) (qa4 Ac) (qa4 A8))))),λ g Q i h=>?_⟩)
 obtain⟨d,⟨z,n,c,f,r,rfl,rfl⟩,q⟩:=h;refine At [planD z a.Ca n c f,.int r] rfl ?_;refine qj3 (decide (r < n - 1)) (f2_of rfl (f2_of (As rfl qc6) rfl rfl) rfl) (λ h=>?_) λ h=>?_
 . rw[if_pos (zA9 h)] at q
   exact qi8 (.int (r+1)) rfl q
 rw[if_neg (zB5 h)] at q;refine qe6 (Jj (b:=c) (As rfl qs6) (λ h=>?_) (λ h=>?_))
 . rw[if_pos h] at q
   exact qq3 (d:=.int 0) rfl q
 rw[if_neg (by rw[h];decide)] at q;exact q
theorem qy9:qa8 ["plan", "rooms", "room"] ["plan", "rooms", "room"] (qa3 qi3):=by walk_at "s"
def qy4(C:Addr):VSp:=Au λ ds d=>∃ z n wr ps a g x,ds=[planD z C n wr ps,.lst a (rlD n.toNat g),x]/\1<=n/\(x=.non/\d=.bl false∨∃ r:Nat,r < n.toNat/\x=.int (r:Nat)/\(g r=none/\d=.bl false∨∃ k,g r=some k/\Ag k/\(wr=false->hmOf n ps k<=r)/\d=.bl (decide (0 < Ad n.toNat (hmOf n ps k) r))))
theorem qA5(T:Txt K mg a):VFn P w K mg base 6 a.f28 a.d28 ["plan", "rooms", "room"] (qy4 a.Ca):=by
 refine VFn.mk2 T.d28.F qy9 (wOf [true,true,true]) qb4 (λ l Q m h=>by obtain⟨d,⟨z,n,c,b,i,g,x,e,_⟩,_⟩:=h;rw[e];exact⟨rfl,rfl⟩) (λ o A outer s H E t f=>⟨_,(Ae (Ak (Jq (qa4 (v2 (A5 qr8 (qb0 _)) qx1 (vnm 2) A8)) (Jq (qa4 (v2 (A5 qr8 (qb0 _)) qx1 (v2 (A9 qd1) Aq (vnm 1) (vnm 2)) A8)) (Lg (e2v (A5 Bq (qb0 _)) B6 (qi0 0 T.d15 T.Cg.cl (qj1 T) qa0 (rm f) (vaV (qb7 (v2 (A9 qd1) Aq (vnm 1) (vnm 2))) (vaN 2 Aa))) Ac)))))),λ l Q m h=>?_⟩);obtain⟨d,⟨z,n,c,b,i,g,x,rfl,j,h⟩,q⟩:=h;refine At [planD z a.Ca n c b,.lst i (rlD n.toNat g),x] rfl ?_;rcases h with⟨rfl,rfl⟩ | ⟨r,f,rfl,h⟩
 . exact qe6 (Iq false rfl (λ h=>(nomatch h)) λ _=>q)
 rcases h with⟨hg,rfl⟩ | ⟨k,hg,hk,hl,rfl⟩
 . exact qe6 (Iq true rfl (λ _=>Iq false (f2_of (f2_of rfl rfl (Im f)) rfl (by rw[hg];rfl)) (λ h=>(nomatch h)) λ _=>q) λ h=>(nomatch h))
 refine qe6 (Iq true rfl (λ _=>Iq true (f2_of (f2_of rfl rfl (Im f)) rfl (by rw[hg];rfl)) (λ _=>qP2 ?_) λ h=>(nomatch h)) λ h=>(nomatch h));refine qj2 (p:=planD z a.Ca n c b) rfl (qf4 rfl) (qy2 (y:=.int k) (f2_of rfl rfl (by rw[Im f,hg];rfl)) rfl (qc2 (x:=.int (r:Nat)) rfl (qb5 (qa2 (a:=D.int (r:Nat)) rfl (qa2 (a:=planD z a.Ca n c b) rfl ⟨_,⟨z,n,c,b,k,(r:Nat),rfl,j,hk,by lia,by lia,rfl⟩,?_⟩)))));rw[qN6 j f hl];refine qa2 (a:=[planD z a.Ca n c b,.lst i (rlD n.toNat g),.int (r:Nat)]) rfl ?_;refine qa2 (a:=D.bl (decide (0 < ((Ad n.toNat (hmOf n b k) r:Nat):Int)))) rfl ?_;rw[decide_eq_decide.mpr (show (0 < ((Ad n.toNat (hmOf n b k) r:Nat):Int))↔0 < Ad n.toNat (hmOf n b k) r by lia)];exact q
theorem qh1:qa8 ["plan", "rooms", "room", "came", "behind"] ["plan", "rooms", "room"] (qa3 qu5):=by walk_at "s"
noncomputable def qw5(N:Nat)(wr:Bool)(p:Nat):D:=if p+1 < N then .int (p+1:Nat) else if wr=true then .int 0 else .non
theorem qaq9{n:Int}{wr:Bool}{p:Nat}(a:1<=n)(b:p < n.toNat):(if ((p:Nat):Int) < n - 1 then D.int (((p:Nat):Int)+1) else if wr=true then D.int 0 else D.non)=qw5 n.toNat wr p:=by
 unfold qw5;by_cases h:p+1 < n.toNat
 . rw[if_pos (by lia),if_pos h];rfl
 rw[if_neg (by lia),if_neg h]
theorem qab6{wr:Bool}{p:Nat}(a:p < N):qw5 N wr p=.int (Row.next N p:Nat)∨(qw5 N wr p=.non/\wr=false/\p+1=N):=by
 unfold qw5;have h:=nor N p;by_cases e:p+1 < N
 . rw[if_pos e];exact .inl (by rw[show Row.next N p=p+1 by lia])
 rw[if_neg e];cases wr with
 | true=>exact .inl (by rw[if_pos rfl,show Row.next N p=0 by lia];rfl)
 | false=>exact .inr ⟨rfl,rfl,by lia⟩
def qP6(C:Addr):VSp:=λ ds Q _=>∃ z n wr ps g S k r,ds=[planD z C n wr ps,.lst false (rlD n.toNat g),.int (r:Nat)]/\1<=n/\n<=64/\(∀ x∈S,Ag x)/\Kept n.toNat wr (hmOf n ps) g S/\r < n.toNat/\g r=some k /\
 ∀ came g',Kept n.toNat wr (hmOf n ps) g' (S.filter λ x=>decide (x≠k))->Q (.lst false came) [planD z C n wr ps,.lst false (rlD n.toNat g'),.int (r:Nat)]
theorem qR7(T:Txt K mg a):VFn P w K mg base 7 a.f29 a.d29 ["plan", "rooms", "room"] (qP6 a.Ca):=by
 refine VFn.mk2 T.d29.F qh1 (wOf [true,true,false]) (λ B Q Q' R a3 hQ _ h=>by obtain⟨z,n,b,l,g,S,k,r,e,M,N,h3,h4,h5,h6,q⟩:=h;exact⟨z,n,b,l,g,S,k,r,e,M,N,h3,h4,h5,h6,λ c g' K=>hQ _ _ (q c g' K)⟩) (λ B Q R h=>by obtain⟨z,n,b,l,g,S,k,r,e,_⟩:=h;rw[e];exact⟨rfl,rfl⟩) (λ a4 A outer v H E av f=>⟨_,(Ab (Al 3 qh1.nd (qa4 (Gq qa6)))
     (Ab (Js (qa4 A8) (Hn (vpn 1) (vnm 2)))
     (Ab (Al 4 qh1.nd (Ah T.d27 (qs0 T) qa0 (rm f) (vaN 0 (vaN 2 Aa))))
     (Ab (qar6 PassesOwn.leaving (te (Ah T.d28 (qA5 T) qa0 (rm f) (vaN 0 (vaN 1 (vaN 4 Aa)))))
     (Ab (Bf (Ka 3 qS1 PySem.F.plainAttrs_list PySem.F.slot_list_append PySem.F.type_list_append qi1 (vaV (qa4 (Bb (qa1 (v2 (A9 qd1) Aq (vnm 1) (vnm 4)) (qa1 (vnm 2) qa6 rfl) rfl))) Aa)))
     (Ab (Js (qb7 (v2 (A9 qd1) Aq (vnm 1) (vnm 4))) (Hn (vpn 1) (vnm 2)))
     (Ab (Js (qa4 A8) (Hn (vpn 1) (vnm 4)))
     (Ab (Al 2 qh1.nd (qb7 (vnm 4)))
     (Ae (Al 4 qh1.nd (Ah T.d27 (qs0 T) qa0 (rm f) (vaN 0 (vaN 2 Aa))))))))))
     (Ae (Ak (emv 3))))))),λ B Q R h=>?_⟩)
 obtain⟨z,n,b,l,g,S,k,r,rfl,U,n2,hS,KP,f,hk,q⟩:=h;refine At [planD z a.Ca n b l,.lst false (rlD n.toNat g),.int (r:Nat),.unk,.unk] rfl ?_;refine qb6 [planD z a.Ca n b l,.lst false (rlD n.toNat g),.int (r:Nat),.lst false [],.unk] (λ K t=>t) ?_;have e0:rlD n.toNat (λ j=>if j=r then none else g j)=rlD n.toNat (An n.toNat g r 0):=qH7 λ i hi=>(qy7 f hi).symm
 refine qb6 [planD z a.Ca n b l,.lst false (rlD n.toNat (An n.toNat g r 0)),.int (rot n.toNat r 0:Nat),.lst false [],.unk] (λ K t=>?_) ?_
 . refine qU4 (d:=.non) (ys:=rlD n.toNat g) rfl rfl rfl (M3 f) ?_
   rw[show (rlD n.toNat g).set r .non=rlD n.toNat (λ j=>if j=r then none else g j) from qad7 (o:=none),e0];rw[qae5 f] at t;exact t
 have bh:∀(J:Nat)(K:Ds->Prop)(R:XKd)(O V:D),J < n.toNat->K [planD z a.Ca n b l,.lst false (rlD n.toNat (An n.toNat g r J)),.int (rot n.toNat r J:Nat),O,qw5 n.toNat b (rot n.toNat r J)]->qm1 (qr5 a.Ca) [] (tbN 0 (tbN 2 Av)) [planD z a.Ca n b l,.lst false (rlD n.toNat (An n.toNat g r J)),.int (rot n.toNat r J:Nat),O,V] (λ d a1=>K (a1.set 4 d)) R:=λ J K R O V hJ t =>
   M0 (x:=planD z a.Ca n b l) (y:=.int (rot n.toNat r J:Nat)) rfl rfl rfl ⟨z,n,b,l,_,rfl,(qaq9 U (L9 f hJ)).symm⟩ rfl t
 refine qb6 [planD z a.Ca n b l,.lst false (rlD n.toNat (An n.toNat g r 0)),.int (rot n.toNat r 0:Nat),.lst false [],qw5 n.toNat b (rot n.toNat r 0)] (λ K t=>qj5 (bh 0 _ _ _ _ (by lia) t)) ?_;refine qd3 (λ B=>∃ J came V,B=[planD z a.Ca n b l,.lst false (rlD n.toNat (An n.toNat g r J)),.int (rot n.toNat r J:Nat),.lst false came,V]/\Sh n.toNat (hmOf n l) g r J/\Stop n.toNat b (hmOf n l) g r J) (λ K t=>?_) ?_
 . refine qab8 (λ m B=>∃ J came,B=[planD z a.Ca n b l,.lst false (rlD n.toNat (An n.toNat g r J)),.int (rot n.toNat r J:Nat),.lst false came,qw5 n.toNat b (rot n.toNat r J)]/\Sh n.toNat (hmOf n l) g r J/\came.length=J/\m+J=n.toNat) n.toNat ⟨0,[],rfl,Sh.start f,rfl,by lia⟩ ?_
   rintro m B ⟨J,came,rfl,v,hc,hm⟩ K2 a2;have hJ:=v.hJ;have hp:=L9 f hJ;rcases qab6 (wr:=b) hp with hb | ⟨hb,hw,hl⟩
   . have s:=Row.ql5 hp
     have W:∀ x,An n.toNat g r J (Row.next n.toNat (rot n.toNat r J))=some x->0 < Ad n.toNat (hmOf n l x) (Row.next n.toNat (rot n.toNat r J))->J+1 < n.toNat/\g (rot n.toNat r (J+1))=some x:=λ x s C=>by
       by_cases p:J+1 < n.toNat
       . rw[qA8 f p,qy8 f p] at s
         exact⟨p,s⟩
       rw[qw2 f (by lia)] at s C;by_cases X:0 < J
       . rw[qE4 f X] at s
         have:=v.round KP.o KP.c f hk (by lia) s X
         lia
       have hz:J=0:=by lia
       subst hz;rw[qy7 f f,if_pos rfl] at s;cases s
     have I:∀ x,An n.toNat g r J (Row.next n.toNat (rot n.toNat r J))=some x->Ag x/\(b=false->hmOf n l x<=Row.next n.toNat (rot n.toNat r J)):=λ x s=>by
       by_cases p:J+1 < n.toNat
       . have e:=qA8 f p
         rw[e,qy8 f p] at s;exact⟨hS x ((KP.h.2 x).mpr ⟨_,L9 f p,s⟩),λ hw=>by rw[e];exact KP.ln hw _ x (L9 f p) s⟩
       have e:=qw2 f (show J+1=n.toNat by lia);rw[e] at s ⊢;by_cases X:0 < J
       . rw[qE4 f X] at s
         have C:=v.round KP.o KP.c f hk (by lia) s X;exact⟨hS x ((KP.h.2 x).mpr ⟨_,Row.ql5 f,s⟩),λ _=>by rw[(qc0 (Hl U x) f).mp C];exact zA3 _⟩
       have hz:J=0:=by lia
       subst hz;rw[qy7 f f,if_pos rfl] at s;cases s
     generalize L:Row.next n.toNat (rot n.toNat r J)=u at s W I hb;rw[hb];cases G:An n.toNat g r J u with
     | none =>
       refine Ll (x:=planD z a.Ca n b l) (y:=.lst false (rlD n.toNat (An n.toNat g r J))) (w:=.int (u:Nat)) (d:=.bl false) rfl rfl rfl rfl rfl ⟨z,n,b,l,false,_,_,rfl,U,.inr ⟨u,s,rfl,.inl ⟨G,rfl⟩⟩⟩ rfl ?_;exact t _ ⟨J,came,_,rfl,v,.inr λ x h=>by rw[L,G] at h;cases h⟩
     | some x =>
       refine Ll (x:=planD z a.Ca n b l) (y:=.lst false (rlD n.toNat (An n.toNat g r J))) (w:=.int (u:Nat)) rfl rfl rfl rfl rfl ⟨z,n,b,l,false,_,_,rfl,U,.inr ⟨u,s,rfl,.inr ⟨x,G,(I x G).1,(I x G).2,rfl⟩⟩⟩ rfl ?_;refine qa2 (a:=decide (0 < Ad n.toNat (hmOf n l x) u)) rfl (ite_b (λ h=>?_) λ h=>?_)
       . have C:=zA9 h
         obtain⟨p,Y⟩:=W x G C;have Z:u=rot n.toNat r (J+1):=by rw[<- L,qA8 f p]
         have a0:∀ O,f2 gIx (rdN 1) (rdN 4) [planD z a.Ca n b l,.lst false (rlD n.toNat (An n.toNat g r J)),.int (rot n.toNat r J:Nat),O,.int (u:Nat)]=some (.int x):=λ O=>f2_of rfl rfl (by rw[Im s,G];rfl)
         refine qb6 [planD z a.Ca n b l,.lst false (rlD n.toNat (An n.toNat g r J)),.int (rot n.toNat r J:Nat),.lst false (came++[D.tup [.int x,.int (rot n.toNat r J:Nat)]]),.int (u:Nat)] (λ K t=>qf7 ?_) ?_
         . exact qO1 (ys:=came) (d:=.tup [.int x,.int (rot n.toNat r J:Nat)]) rfl (qK3 (a0 _) rfl rfl rfl) (by unfold big;lia) t
         refine qb6 [planD z a.Ca n b l,.lst false (rlD n.toNat (Row.set (An n.toNat g r J) (rot n.toNat r J) x)),.int (rot n.toNat r J:Nat),.lst false (came++[D.tup [.int x,.int (rot n.toNat r J:Nat)]]),.int (u:Nat)] (λ K t=>?_) ?_
         . refine qU5 (d:=.int x) (ys:=rlD n.toNat (An n.toNat g r J)) (a0 _) rfl rfl rfl (M3 hp) ?_
           rw[qQ2];exact t
         refine qb6 [planD z a.Ca n b l,.lst false (rlD n.toNat (An n.toNat g r (J+1))),.int (rot n.toNat r J:Nat),.lst false (came++[D.tup [.int x,.int (rot n.toNat r J:Nat)]]),.int (u:Nat)] (λ K t=>?_) ?_
         . refine qU4 (d:=.non) (ys:=rlD n.toNat (Row.set (An n.toNat g r J) (rot n.toNat r J) x)) rfl rfl rfl (M3 s) ?_
           rw[show (rlD n.toNat (Row.set (An n.toNat g r J) (rot n.toNat r J) x)).set u .non=rlD n.toNat (λ j=>if j=u then none else Row.set (An n.toNat g r J) (rot n.toNat r J) x j) from qad7 (o:=none)];have e:rlD n.toNat (λ j=>if j=u then none else Row.set (An n.toNat g r J) (rot n.toNat r J) x j)=rlD n.toNat (An n.toNat g r (J+1)):=qH7 λ i hi=>by
             rw[qad4 f p hi,Z];by_cases M:i=rot n.toNat r (J+1)
             . rw[if_pos M,if_pos M]
             rw[if_neg M,if_neg M];by_cases N:i=rot n.toNat r J
             . rw[if_pos N,N,Row.qd6,Y]
             rw[if_neg N,Row.qh0 N]
           rw[e];exact t
         refine qb6 [planD z a.Ca n b l,.lst false (rlD n.toNat (An n.toNat g r (J+1))),.int (u:Nat),.lst false (came++[D.tup [.int x,.int (rot n.toNat r J:Nat)]]),.int (u:Nat)] (λ K t=>qL1 (d:=.int (u:Nat)) rfl rfl t) ?_;rw[Z] at C ⊢;refine qj5 (bh (J+1) _ _ _ _ p (a2 (m - 1) _ (by lia) ⟨J+1,_,rfl,v.step p Y C,by rw[zA7,hc];rfl,by lia⟩))
       have C:=zB5 h;exact t _ ⟨J,came,_,rfl,v,.inr λ y h=>by rw[L] at h ⊢;rw[G] at h;cases h;lia⟩
   rw[hb];refine Ll (x:=planD z a.Ca n b l) (y:=.lst false (rlD n.toNat (An n.toNat g r J))) (w:=.non) (d:=.bl false) rfl rfl rfl rfl rfl ⟨z,n,b,l,false,_,_,rfl,U,.inl ⟨rfl,rfl⟩⟩ rfl ?_;exact t _ ⟨J,came,_,rfl,v,.inl ⟨hw,hl⟩⟩
 rintro B ⟨J,came,V,rfl,v,st⟩;exact qe6 (mv_to rfl (q came _ (KP.taken f hk v st)))
theorem qE5:qa8 ["self", "key", "room"] ["self", "key"] (qa3 qz7):=by walk_at "s"
theorem qaF5{g:Nat->Option Int}(h:Gz N g k=.int (j:Nat)):j < N/\g j=some k:=by
 unfold Gz at h;cases e:Hr N g k with
 | none=>rw[e] at h;cases h
 | some i =>
   rw[e] at h;have h:D.int (i:Nat)=D.int (j:Nat):=h;injection h with h
   have h:i=j:=by lia
   subst h;obtain⟨a,b,_⟩:=List.findIdx?_eq_some_iff_getElem.mp e;rw[zAz] at a;rw[List.getElem_range] at b;exact⟨a,zA9 b⟩
def qZ4(C CP CW CNT:Addr):VSp:=λ ds Q xe=>∃ n wr ps g dn S x t,ds=[rowD false C CP n wr ps g dn,x]/\x.kind=some t/\1<=n/\n<=64/\(∀ x∈S,Ag x)/\Kept n.toNat wr (hmOf n ps) g S/\dn.length<=1000/\(x.num=false->xe ⟨CW,[("at",.int 0)]⟩ ds) /\
 ∀ k,x=.int k->Ag k->(¬ k∈S->xe ⟨CNT,[("key",.int k)]⟩ ds)/\(k∈S->∀(r:Nat) came g',Kept n.toNat wr (hmOf n ps) g' (S.filter λ x=>decide (x≠k))->Q (.tup [.int (r:Nat),.lst false came]) [rowD false C CP n wr ps g' (dn++[.tup [.str "take",.int k]]),.int k])
theorem qaa4(T:Txt K mg a):VFn P w K mg base 8 a.f36 a.d36 ["self", "key"] (qZ4 a.Cc a.Ca a.Ci a.Ce):=by
 refine VFn.mk2 T.d36.F qE5 (wOf [true,true]) (λ u Q Q' N U V v h=>by obtain⟨n,f,l,g,m,S,x,t,e,W,X,Y,Z,h5,h6,C,q⟩:=h;exact⟨n,f,l,g,m,S,x,t,e,W,X,Y,Z,h5,h6,λ a=>v _ _ (C a),λ k e s=>⟨λ i=>v _ _ ((q k e s).1 i),λ i r c B K=>V _ _ ((q k e s).2 i r c B K)⟩⟩) (λ u Q N h=>by obtain⟨n,f,l,g,m,S,x,t,e,_⟩:=h;rw[e];exact⟨rfl,rfl⟩) (λ a0 A outer sh H E av G=>⟨_,(Ab (Al 2 qE5.nd (qi0 0 T.d34 T.Cm.cl (qk6 T) qa0 (rm G) (vaN 1 Aa)))
     (Ab (sif (q2 (Am Ib (qb0 _)) Ia (vnm 2) A8)
     (Ae (qj6 T.Fm (qA7 T) (rm G) T.Dv T.d4.b qa0 (qb7 (vnm 1))))
     Ap)
     (Ab (Bf (emutP qS1 PySem.F.plainAttrs_list PySem.F.slot_list_append PySem.F.type_list_append qi1 (Bm rfl (vpn 0) T.Cm.cl T.Do) (vaV (qa4 (Bb (qa1 A4 (qa1 (vnm 1) qa6 rfl) rfl))) Aa)))
     (Ae (Ak (Ix (vaV (qb7 (vnm 2)) (vaV (Ah T.d29 (qR7 T) qa0 (rm G) (vaV (qb7 (Ba rfl (vnm 0) T.Cm.cl T.Cr)) (vaB (Bm rfl (vpn 0) T.Cm.cl T.Cs) (vaN 2 Aa)))) Aa)))))))),λ u Q N h=>?_⟩)
 obtain⟨n,f,l,g,m,S,x,t,rfl,v,n1,n2,hS,KP,a1,C,q⟩:=h;have O:=qb9 v;refine At [rowD false a.Cc a.Ca n f l g m,x,.unk] rfl ?_;refine qd3 (λ u=>∃ k,x=.int k/\Ag k/\u=[rowD false a.Cc a.Ca n f l g m,x,Gz n.toNat g k]) (λ K I=>?_) ?_
 . exact qj5 (qj2 (p:=rowD false a.Cc a.Ca n f l g m) rfl (qm8 rfl) (qc2 (x:=x) (qd8 rfl O) (qb5 (qa2 (a:=x) (qd8 rfl O) (qa2 (a:=rowD false a.Cc a.Ca n f l g m) rfl ⟨false,n,f,l,g,m,x,t,rfl,v,λ hb=>qa2 (a:=[rowD false a.Cc a.Ca n f l g m,x,.unk]) rfl (C hb),λ k e s=>qa2 (a:=[rowD false a.Cc a.Ca n f l g m,x,.unk]) rfl (I _ ⟨k,e,s,rfl⟩)⟩)))))
 rintro u ⟨k,rfl,s,rfl⟩;obtain⟨qn,q⟩:=q k rfl s;by_cases o:k∈S
 case neg =>
   rw[qH6 λ i J e=>o ((KP.h.2 k).mpr ⟨i,J,e⟩)];exact ql7 true (λ Q q=>qh6 (b:=true) rfl q) (λ _=>qk8 (d:=.int k) rfl rfl ⟨rfl,qn o⟩) λ h=>nomatch h
 replace q:=q o
 obtain⟨i,J,e⟩:=(KP.h.2 k).mp o;obtain⟨j,R⟩:=qH5 J e;obtain⟨L,M⟩:=qaF5 R;rw[R];refine ql7 false (λ Q q=>qh6 (b:=false) rfl q) (λ h=>(nomatch h)) λ _=>?_
 refine qb6 [rowD false a.Cc a.Ca n f l g (m++[.tup [.str "take",.int k]]),.int k,.int (j:Nat)] (λ K I=>qf7 ?_) ?_
 . refine qat2 (i:=0) (p:=[2]) (ys:=m) (d0:=rowD false a.Cc a.Ca n f l g m) (by show (D.fidx a.Cc "done" (rowD false a.Cc a.Ca n f l g m)).map (λ n=>(0,[n]))=_;rw[qX1];rfl) rfl rfl ?_
   exact qc3 (y:=.tup [.str "take",.int k]) rfl (qb5 (qa2 (a:=(m++[D.tup [.str "take",.int k]],D.non)) (if_pos (show m.length < big by unfold big;lia)) I))
 generalize m++[.tup [.str "take",.int k]]=z at q ⊢;refine qe6 (M5 (qy2 (y:=.int (j:Nat)) rfl rfl (qf6 (qn2 (qy2 (y:=planD true a.Ca n f l) (As rfl qk4) rfl ?_)))));refine qa2 (a:=(0,[1])) (by show (D.fidx a.Cc "held" (rowD false a.Cc a.Ca n f l g z)).map (λ n=>(0,[n]))=_;rw[qJ5];rfl) (qa2 (a:=D.lst false (rlD n.toNat g)) rfl ⟨rfl,λ w=>?_⟩);refine qc2 (x:=.int (j:Nat)) rfl (qb5 (qa2 (a:=D.int (j:Nat)) rfl ?_));refine⟨true,n,f,l,g,S,k,j,rfl,n1,n2,hS,KP,L,M,λ came B K'=>?_⟩;refine qa2 (a:=[rowD false a.Cc a.Ca n f l B z,.int k,.int (j:Nat)]) ?_ (qb5 ⟨by show 2<=1000000;decide,q j came B K'⟩);show Aj (.pl 0 [1] w::_) _ _=_;rw[qn3 rfl];rfl
theorem qt8:qa8 ["self"] ["self"] (qa3 qf9):=by walk_at "s"
def qt2(C:Addr):VSp:=Au λ ds d=>∃ z n wr ps,ds=[planD z C n wr ps]/\d=.lst false (prD ps)
theorem qaA8{z:Bool}{ps:Pr}:qaL8 (.dct z (kvD ps))=some (.lst false (prD ps)):=by
 have b:((kvD ps).map λ a=>D.tup [keyD a.1,a.2])=prD ps:=by
   unfold kvD prD;rw[List.map_map];rfl
 show gd (D.imms ((kvD ps).map (·.2))=true) (.lst false ((kvD ps).map λ a=>D.tup [keyD a.1,a.2]))=_;rw[b];refine qh9 ?_;unfold kvD;rw[List.map_map];exact qS6 (λ _=>rfl) ps
theorem qv3(T:Txt K mg a):VFn P w K mg base 1 a.f12 a.d12 ["self"] (qt2 a.Ca):=by
 refine VFn.mk2 T.d12.F qt8 (wOf [true]) qb4 (λ c Q f h=>by obtain⟨d,⟨z,n,g,b,e,_⟩,_⟩:=h;rw[e];exact⟨rfl,rfl⟩) (λ i A outer j H E k l=>⟨_,(Ae (Ak (qa4 (qaE0 T.Du (Ba rfl (vnm 0) T.Cg.cl T.Cu))))),λ c Q f h=>?_⟩);obtain⟨d,⟨z,n,g,b,rfl,rfl⟩,q⟩:=h;exact qi8 (.lst false (prD b)) (As (As rfl qF9) qaA8) q
theorem qp6:qa8 ["plan", "keys", "rooms", "key"] ["plan", "keys"] (qa3 qu4):=by walk_at "s"
def qP5(C CN:Addr):VSp:=λ ds Q xe=>∃ z n wr ps a ks,ds=[planD z C n wr ps,.lst a (ksD ks)]/\1<=n/\n<=64/\(∀ k∈ks,Ag k)/\ks.Nodup/\ks.length<=1000/\(qM2 n wr ps ks->∀ g,Kept n.toNat wr (hmOf n ps) g ks->Q (.lst false (rlD n.toNat g)) ds)/\(∀ r:Nat,Crowd n.toNat wr (hmOf n ps) ks r->xe ⟨CN,[("room",.int (r:Nat))]⟩ ds)
theorem qR6(T:Txt K mg a):VFn P w K mg base 8 a.f26 a.d26 ["plan", "keys"] (qP5 a.Ca a.Cf):=by
 refine VFn.mk2 T.d26.F qp6 (wOf [true,true]) (λ l Q Q' G J L v h=>by obtain⟨z,n,f,j,m,b,e,M,N,O,R,S,q,U⟩:=h;exact⟨z,n,f,j,m,b,e,M,N,O,R,S,λ c g K=>L _ _ (q c g K),λ r c=>v _ _ (U r c)⟩) (λ l Q G h=>by obtain⟨z,n,f,j,m,b,e,_⟩:=h;rw[e];exact⟨rfl,rfl⟩) (λ V A outer sh H E av I=>⟨_,(Ab (Bf (Ah T.d24 (qo8 T) qa0 (rm I) (vaN 0 (vaN 1 Aa))))
     (Ab (Al 2 qp6.nd (qa4 (v2 (Af qh8) qh7 (Gq (qa1 A8 qa6 rfl)) (Ba rfl (vnm 0) T.Cg.cl T.Ck))))
     (Ab (sforP PassesOwn.leaving (vpn 1) (Bp 3 qp6.nd)
     (Ae (Bf (Ah T.d25 (qF0 T) qa0 (rm I) (vaN 0 (vaN 2 (vaN 3 Aa)))))))
     (Ae (Ak (emv 2)))))),λ l Q G h=>?_⟩)
 obtain⟨z,n,f,j,m,b,rfl,s,B,C,W,X,q,Y⟩:=h;refine At [planD z a.Ca n f j,.lst m (ksD b),.unk,.unk] rfl ?_;refine qd3 (λ l=>l=[planD z a.Ca n f j,.lst m (ksD b),.unk,.unk]/\qM2 n f j b) (λ K o=>?_) ?_
 . exact qf7 (qaN6 (x:=planD z a.Ca n f j) (y:=.lst m (ksD b)) rfl rfl rfl ⟨z,n,f,j,m,b,rfl,s,B,C,X,λ t=>qa2 (a:=[planD z a.Ca n f j,.lst m (ksD b),.unk,.unk]) rfl (o _ ⟨rfl,t⟩),λ r c=>qa2 (a:=[planD z a.Ca n f j,.lst m (ksD b),.unk,.unk]) rfl (Y r c)⟩)
 rintro l ⟨rfl,t⟩;refine qb6 [planD z a.Ca n f j,.lst m (ksD b),.lst false (rlD n.toNat λ _=>none),.unk] (λ K o=>qa2 (f2_of rfl (As rfl qc6) (qag4 (by lia) B)) o) ?_;refine qd3 (λ l=>∃ d g,l=[planD z a.Ca n f j,.lst m (ksD b),.lst false (rlD n.toNat g),d]/\Kept n.toNat f (hmOf n j) g b) (λ K o=>?_) ?_
 . refine qa2 (a:=(1,[])) rfl (qa2 (a:=D.lst m (ksD b)) rfl (qa2 (a:=ksD b) rfl ⟨qN1 b,λ w=>?_⟩))
   refine qq8 (λ i l=>∃ d g,l=[planD z a.Ca n f j,.hole w,.lst false (rlD n.toNat g),d]/\Kept n.toNat f (hmOf n j) g (b.take i)) _ 0 _ ⟨_,_,rfl,Kept.none (by lia) (Hl s)⟩ ?_ ?_
   . rintro i y Z l ⟨d,g,rfl,KP⟩ K2 p
     rw[zB9] at KP p;obtain⟨k,u,rfl⟩:=qaS5 Z;refine qaN5 (x:=planD z a.Ca n f j) (y:=.lst false (rlD n.toNat g)) (w:=.int k) rfl rfl rfl rfl rfl ⟨z,n,f,j,g,b.take i,k,rfl,s,B,C k (zB1 u),λ x v=>C x (List.mem_of_mem_take v),KP,qR9 W u,KP.free (by rw[<- qK4 u];exact List.take_sublist _ _) (t.no s),λ came g' K'=>?_⟩;refine p _ ⟨_,g',rfl,?_⟩;rw[qK4 u];exact K'
   rintro l ⟨d,g,rfl,KP⟩;rw[zB9,qM6,List.take_length] at KP;exact qa2 (qaN7 rfl) (o _ ⟨d,g,rfl,KP⟩)
 rintro l ⟨d,g,rfl,KP⟩;exact q t g KP
theorem qH0:qa8 ["plan", "keys"] ["plan", "keys"] (qa3 qm2):=by walk_at "s"
def qG5(C CP:Addr):VSp:=λ ds Q _=>∃ n wr ps z ks,ds=[planD true CP n wr ps,.lst z (ksD ks)]/\1<=n/\n<=64/\(∀ k∈ks,Ag k)/\ks.Nodup/\ks.length<=1000/\(∀ q,¬ Crowd n.toNat wr (hmOf n ps) ks q)/\∀ g,Kept n.toNat wr (hmOf n ps) g ks->Q (rowD false C CP n wr ps g []) ds
theorem qI1(T:Txt K mg a):VFn P w K mg base 12 a.f37 a.d37 ["plan", "keys"] (qG5 a.Cc a.Ca):=by
 refine VFn.mk2 T.d37.F qH0 (wOf [true,true]) (λ i Q Q' j p s _ h=>by obtain⟨n,b,d,z,f,e,t,u,v,B,C,D,q⟩:=h;exact⟨n,b,d,z,f,e,t,u,v,B,C,D,λ g K=>s _ _ (q g K)⟩) (λ i Q j h=>by obtain⟨n,b,d,z,f,e,_⟩:=h;rw[e];exact⟨rfl,rfl⟩) (λ G A outer M H E N k=>⟨_,(Ae (Ak (qaU4 T.Cm T.G8 T.d30 (qF1 T) qa0 (rm k) (vaN 0 (vaV (Ah T.d26 (qR6 T) qa0 (rm k) (vaN 0 (vaN 1 Aa))) Aa))))),λ i Q j h=>?_⟩);obtain⟨n,b,d,z,f,rfl,l,m,o,I,J,L,q⟩:=h;refine At [planD true a.Ca n b d,.lst z (ksD f)] rfl ?_;refine qe6 (qM4 (qc2 (x:=planD true a.Ca n b d) rfl (qf6 (qaN6 (x:=planD true a.Ca n b d) (y:=.lst z (ksD f)) rfl rfl rfl ⟨true,n,b,d,z,f,rfl,l,m,o,I,J,λ _ g K=>?_,λ r c=>absurd c (L r)⟩))));exact qa2 (a:=[planD true a.Ca n b d,.lst z (ksD f)]) rfl (qb5 (qa2 (a:=planD true a.Ca n b d) rfl ⟨n,b,d,.lst false (rlD n.toNat g),g,f,rfl,l,m,o,K,.inr ⟨false,rfl⟩,rfl,q g K⟩))
theorem qQ3:qa8 ["row", "rooms"] ["row", "rooms"] (qa3 qu1):=by walk_at "s"
theorem qaK9{zr:Bool}{C CP:Addr}{n:Int}{wr:Bool}{ps:Pr}{g:Nat->Option Int}{dn:Ds}:Me C (rowD zr C CP n wr ps g dn) (.adr C)=some (.bl true):=by
 show (if C=C then (rowD zr C CP n wr ps g dn).isC C else none)=_;rw[if_pos rfl];exact qaL1
def qP3(C CP:Addr):VSp:=λ ds Q _=>∃ zr n wr ps g dn S m,ds=[rowD zr C CP n wr ps g dn,.int m]/\n<=64/\1<=m/\m<=64/\qx6 ps/\(∀ k∈S,Ag k)/\Kept n.toNat wr (hmOf n ps) g S/\(∀ q,¬ Crowd m.toNat wr (hmOf m ps) S q)/\∀ g',Kept m.toNat wr (hmOf m ps) g' S->Q (rowD false C CP m wr ps g' []) ds
theorem qA4(T:Txt K mg a):VFn P w K mg base 13 a.f38 a.d38 ["row", "rooms"] (qP3 a.Cc a.Ca):=by
 refine VFn.mk2 T.d38.F qQ3 (wOf [true,true]) (λ v Q Q' s z B _ h=>by obtain⟨j,n,f,i,g,l,S,m,e,C,I,J,L,M,N,O,q⟩:=h;exact⟨j,n,f,i,g,l,S,m,e,C,I,J,L,M,N,O,λ g K=>B _ _ (q g K)⟩) (λ v Q s h=>by obtain⟨j,n,f,i,g,l,S,m,e,_⟩:=h;rw[e];exact⟨rfl,rfl⟩) (λ R A outer Z H E av o=>⟨_,(Ab (sif (Bt (tv (vbi (qak4 T.Gf T.Cm.cl) qaM9.ops T.Ch (qa1 (vnm 0) (qa1 (vcls a.Cc T.Cm.m) qa6 rfl) rfl))))
     (Ae (qj6 T.Co (qb1 T) (rm o) T.Cp T.d1.b qa0 (qa4 Ac)))
     Ap)
     (Ab (sif (Bt (te (Ah T.d6 (qd4 T) qa0 (rm o) (vaN 1 (vaV (qa4 Ac) (vaV (qa4 (vgi T.De)) Aa))))))
     (Ae (qj6 T.Co (qb1 T) (rm o) T.Cp T.d1.b qa0 (qa4 Ac)))
     Ap)
     (Ae (Ak (Ah T.d37 (qI1 T) qa0 (rm o) (vaV (Bh (Kx T.Cg T.Fq T.d11 (qA6 T) qa0 (rm o) (vaN 1 (vaV (qb7 (Ba rfl (Ba rfl (vnm 0) T.Cm.cl T.Cr) T.Cg.cl T.Ct)) (vaV (qaM5 T.d12 T.Cg.cl (qv3 T) qa0 (rm o) (Ba rfl (vnm 0) T.Cm.cl T.Cr)) Aa))))) (vaV (ql8 0 T.d32 T.Cm.cl (qh5 T) qa0 (rm o)) Aa))))))),λ v Q s h=>?_⟩)
 obtain⟨j,n,f,i,g,l,S,m,rfl,U,t,u,G,V,KP,W,q⟩:=h;have r:=KP.perm;refine At [rowD j a.Cc a.Ca n f i g l,.int m] rfl ?_;refine qau3 (show Me a.Cc (rowD j a.Cc a.Ca n f i g l) (.adr a.Cc)=some (.bl true) from qaK9) ?_;refine Ji (λ Q s q=>qn2 (qc2 (x:=.int m) rfl (qc3 (y:=.int 1) rfl (qc3 (y:=.int 64) rfl (qb5 (qa2 (a:=D.int m) rfl (qA2 (d:=.bl true) (by show some (D.bl ((D.int m).within 1 64))=_;rw[qG2 t u]) (qa2 (a:=[rowD j a.Cc a.Ca n f i g l,.int m]) rfl q)))))))) ?_;refine qe6 (qn2 (qf6 (Jl (qM4 (qc2 (x:=.int m) rfl (qy2 (y:=.bl f) (As (As rfl qk4) qs6) rfl (qf6 ?_)))))));refine qk8 (d:=planD true a.Ca n f i) (As rfl qk4) rfl ⟨qf4 rfl,_,⟨true,n,f,i,rfl,rfl⟩,qa2 (a:=[rowD j a.Cc a.Ca n f i g l,.int m]) rfl (qb5 (qa2 (a:=D.int m) rfl ⟨m,f,false,i,rfl,t,u,G,rfl,?_⟩))⟩;refine qa2 (a:=planD false a.Ca m f i) rfl (qa2 (a:=[rowD j a.Cc a.Ca n f i g l,.int m]) rfl ?_);refine qf6 (qS2 (p:=rowD j a.Cc a.Ca n f i g l) (d:=.lst false (ksD ((List.range n.toNat).filterMap g))) rfl (qm8 rfl) ⟨j,n,f,i,g,l,rfl,U,rfl⟩ rfl (qb5 ?_));rw[qau7];have hl:=KP.len;refine⟨m,f,i,false,_,rfl,t,u,λ k X=>V k (r.subset X),r.nodup_iff.mpr KP.h.1,by rw[r.length_eq];lia,λ q c=>W q (c.perm r),λ Y K'=>?_⟩;exact qa2 (a:=[rowD j a.Cc a.Ca n f i g l,.int m]) rfl (q Y (K'.of_perm r))
theorem qn9:qa8 ["self", "rooms"] ["self", "rooms"] (qa3 qe2):=by walk_at "s"
theorem qas3{m:Int}(h:S.length<=m.toNat)(q:Nat):¬ Crowd m.toNat true hm S q:=λ ⟨_,c⟩=>by
 rw[if_pos rfl] at c;lia
theorem qV8{CG C CP:Addr}{n:Int}{ps:Pr}{g:Nat->Option Int}{dn:Ds}{h:Int}{r:Ds}{sl:Int}(c:n<=64)(KP:Kept n.toNat true (hmOf n ps) g S)(b:sl=(S.length:Nat))(q:Q (.int sl) (growD false CG C CP n ps g dn h::r)):qP0 C "many" (qE3 C CP) [] (pfFld CG "row" λ _=>some (0,[])) Av (growD false CG C CP n ps g dn h::r) Q xe:=by
 refine qI5 (i:=0) (p:=[0]) (d:=rowD false C CP n true ps g dn) (qv0 (r:=[])) rfl (qm8 rfl) λ w=>qb5 ⟨.int sl,⟨false,n,true,ps,g,dn,S,rfl,c,KP,by rw[b]⟩,qa2 (a:=growD false CG C CP n ps g dn h::r) ?_ q⟩
 show Aj (.pl 0 [0] w::[]) (rowD false C CP n true ps g dn::[]) _=_;rw[qn3 rfl];rfl
def qn8(CG C CP:Addr):VSp:=λ ds Q _=>∃ n ps g dn h S m,ds=[growD false CG C CP n ps g dn h,.int m]/\n<=64/\1<=m/\m<=64/\qx6 ps/\(∀ k∈S,Ag k)/\Kept n.toNat true (hmOf n ps) g S/\S.length<=m.toNat/\∀ g' h',Kept m.toNat true (hmOf m ps) g' S->Q (.int (S.length:Nat)) [growD false CG C CP m ps g' [] h',.int m]
theorem qg2(T:Txt K mg a):VFn P w K mg base 14 a.f40 a.d40 ["self", "rooms"] (qn8 a.Cb a.Cc a.Ca):=by
 refine VFn.mk2 T.d40.F qn9 (wOf [true,true]) (λ f Q Q' l o p _ h=>by obtain⟨n,b,g,d,h,S,m,e,s,t,u,v,y,B,C,q⟩:=h;exact⟨n,b,g,d,h,S,m,e,s,t,u,v,y,B,C,λ c I z=>p _ _ (q c I z)⟩) (λ f Q l h=>by obtain⟨n,b,g,d,h,S,m,e,_⟩:=h;rw[e];exact⟨rfl,rfl⟩) (λ J A outer R H E U i=>⟨_,(Ab (Ii rfl (vpn 0) (Ah T.d38 (qA4 T) qa0 (rm i) (vaB (Bm rfl (vpn 0) T.Cd.cl T.Cn) (vaN 1 Aa))) T.Cd.cl T.Cn)
     (Ab (Ii rfl (vpn 0) (e2 (Af qg6) qg5 (qb7 (Ba rfl (vnm 0) T.Cd.cl T.Cq)) (qap8 T.d33 T.Cm.cl (qi9 T) qa0 (rm i) (Bm rfl (vpn 0) T.Cd.cl T.Cn))) T.Cd.cl T.Cq)
     (Ae (Ak (qap8 T.d33 T.Cm.cl (qi9 T) qa0 (rm i) (Bm rfl (vpn 0) T.Cd.cl T.Cn)))))),λ f Q l h=>?_⟩)
 obtain⟨n,b,g,d,h,S,m,rfl,L,M,j,G,N,KP,O,q⟩:=h;refine At [growD false a.Cb a.Cc a.Ca n b g d h,.int m] rfl ?_;refine qd3 (λ f=>∃ c,f=[growD false a.Cb a.Cc a.Ca m b c [] h,.int m]/\Kept m.toNat true (hmOf m b) c S) (λ K k=>qT0 (qn2 ?_)) ?_
 . refine qa2 (a:=(0,[0])) (qv0 (r:=[])) (qa2 (a:=rowD false a.Cc a.Ca n true b g d) rfl ⟨rfl,λ w=>?_⟩)
   refine qc2 (x:=.int m) rfl (qb5 (qa2 (a:=D.int m) rfl ?_));refine⟨false,n,true,b,g,d,S,m,rfl,L,M,j,G,N,KP,qas3 O,λ c K'=>qa2 (a:=[growD false a.Cb a.Cc a.Ca n b g d h,.int m]) ?_ ?_⟩
   . show Aj (.pl 0 [0] w::[.sl 1]) (rowD false a.Cc a.Ca n true b g d::[.int m]) _=_
     rw[qn3 rfl];rfl
   exact qa2 (a:=(0,[])) rfl (qa2 qe7 ⟨by show 2 < 100;decide,k _ ⟨c,rfl,K'⟩⟩)
 rintro f ⟨c,rfl,K'⟩;refine qb6 [growD false a.Cb a.Cc a.Ca m b c [] (h+(S.length:Nat)),.int m] (λ K k=>qT0 (t2_of (x:=.int h) (As rfl qW5) rfl (qV8 j K' rfl ?_))) ?_
 . exact qa2 (a:=D.int (h+(S.length:Nat))) rfl (qa2 (a:=(0,[])) rfl (qa2 qe7 ⟨by show 2 < 100;decide,k⟩))
 exact qe6 (qV8 j K' rfl (q c _ K'))
theorem qg4:qa8 ["self", "key", "rooms", "moved"] ["self", "key"] (qa3 qm6):=by walk_at "s"
def By(n:Int):Prop:=n=4∨n=8∨n=16∨n=32∨n=64
def qG7(CG C CP CW CT CN:Addr):VSp:=λ ds Q xe=>∃ n ps g dn h S x t,ds=[growD false CG C CP n ps g dn h,x]/\x.kind=some t/\By n/\qx6 ps/\(∀ k∈S,Ag k)/\Kept n.toNat true (hmOf n ps) g S/\S.length<=64/\dn.length<=900/\(x.num=false->xe ⟨CW,[("at",.int 0)]⟩ ds) /\
 ∀ k,x=.int k->Ag k->(k∈S->xe ⟨CT,[("key",.int k)]⟩ ds)/\(¬ k∈S->(S.length=64->xe ⟨CN,[("room",.int 0)]⟩ ds) /\
   (S.length < 64->∀ b g' a h' v,By b->Kept b.toNat true (hmOf b ps) g' (S++[k])->a.length<=dn.length+1->(n=64->v=0)->Q (.int v) [growD false CG C CP b ps g' a h',x]))
theorem qk7(T:Txt K mg a):VFn P w K mg base 15 a.f41 a.d41 ["self", "key"] (qG7 a.Cb a.Cc a.Ca a.Ci a.Cj a.Cf):=by
 refine VFn.mk2 T.d41.F qg4 (wOf [true,true]) (λ J Q Q' xe a7 hQ O h=>by obtain⟨n,f,g,s,h,S,x,t,e,h1,h2,h3,h4,h5,h6,h7,Z,q⟩:=h;exact⟨n,f,g,s,h,S,x,t,e,h1,h2,h3,h4,h5,h6,h7,λ b=>O _ _ (Z b),λ k e R=>⟨λ i=>O _ _ ((q k e R).1 i),λ i=>⟨λ l=>O _ _ (((q k e R).2 i).1 l),λ l o u m C v a b c d=>hQ _ _ (((q k e R).2 i).2 l o u m C v a b c d)⟩⟩⟩) (λ J Q xe h=>by obtain⟨n,f,g,s,h,S,x,t,e,_⟩:=h;rw[e];exact⟨rfl,rfl⟩) (λ a8 A outer sh H E av U=>⟨_,(Ab (sif (q2v (A5 qr8 (qb0 _)) (Am qr8 (qb0 _)) qx1 (Mg T.d34 T.Cm.cl (qk6 T) qa0 (rm U) (Bm rfl (vpn 0) T.Cd.cl T.Cn) (vaN 1 Aa)) A8)
     (Ae (qj6 T.Fl (qw1 T) (rm U) T.Ex T.d3.b qa0 (qb7 (vnm 1))))
     Ap)
     (Ab (Al 2 qg4.nd (ql8 0 T.d43 T.Cd.cl (qc5 T) qa0 (rm U)))
     (Ab (Al 3 qg4.nd (qa4 Ac))
     (Ab (sif (tand (q2v (A5 Bq (qb0 _)) (Am Bq (qb0 _)) B6 (e2v (Af qh8) qh7 (e2v (Af qg6) qg5 (qap8 T.d33 T.Cm.cl (qi9 T) qa0 (rm U) (Bm rfl (vpn 0) T.Cd.cl T.Cn)) Ac) Ac) (v2 (Af qh8) qh7 (vnm 2) Ac)) (Kv (q2 (Am Hj (qb0 _)) Hy (vnm 2) (vgi T.De)))).te
     (Ae (Al 3 qg4.nd (qi0 0 T.d40 T.Cd.cl (qg2 T) qa0 (rm U) (vaV (qa4 (v2 (Af qh8) qh7 (vnm 2) Ac)) Aa))))
     Ap)
     (Ab (Bf (Mg T.d35 T.Cm.cl (qaf9 T) qa0 (rm U) (Bm rfl (vpn 0) T.Cd.cl T.Cn) (vaN 1 Aa)))
     (Ae (Ak (emv 3)))))))),λ J Q xe h=>?_⟩)
 obtain⟨n,f,g,s,h,S,x,t,rfl,O,pn,G,hS,KP,hl,a9,Z,q⟩:=h;have kx:=qb9 O;have hn:4<=n/\n<=64:=by unfold By at pn;lia
 have a6:=KP.len;obtain⟨L,a0⟩:∃ L:Int,L=(S.length:Nat):=⟨_,rfl⟩
 have B:∀(w:V)(y:D),Aj (.pl 0 [0] w::[.sl 1]) [rowD false a.Cc a.Ca n true f g s,y] ((A7 [growD false a.Cb a.Cc a.Ca n f g s h,y,.unk,.unk] 0 [0] (.hole w)).set 1 .unk)=some [growD false a.Cb a.Cc a.Ca n f g s h,y,.unk,.unk]:=λ w y=>by
   rw[qn3 rfl];rfl
 refine At [growD false a.Cb a.Cc a.Ca n f g s h,x,.unk,.unk] rfl ?_;refine qJ3 (qD4 (qI5 (i:=0) (p:=[0]) (d:=rowD false a.Cc a.Ca n true f g s) (qv0 (r:=[])) rfl (qm8 rfl) λ w=>qc2 (x:=x) (qd8 rfl kx) (qb5 (qa2 (a:=x) (qd8 rfl kx) ⟨false,n,true,f,g,s,x,t,rfl,O,λ b=>qa2 (B w x) (Z b),λ k e R=>qa2 (B w x) ?_⟩))));subst e;obtain⟨q1,q2⟩:=q k rfl R;by_cases I:k∈S
 . obtain⟨i,hi,e⟩:=(KP.h.2 k).mp I
   obtain⟨j,hj⟩:=qH5 hi e;rw[hj];exact qa2 (a:=D.bl true) rfl (qa2 (a:=true) rfl (Gx rfl (qk8 (d:=.int k) rfl rfl ⟨rfl,q1 I⟩)))
 obtain⟨qn,q⟩:=q2 I;rw[qH6 λ i hi e=>I ((KP.h.2 k).mpr ⟨i,hi,e⟩)];refine qa2 (a:=D.bl false) rfl (qa2 (a:=false) rfl (Il (λ h=>nomatch h) ?_));refine qb6 [growD false a.Cb a.Cc a.Ca n f g s h,.int k,.int n,.unk] (λ K M=>qj5 (qS2 (p:=growD false a.Cb a.Cc a.Ca n f g s h) (d:=.int n) rfl (qd2 rfl) ⟨false,n,f,g,s,h,rfl,rfl⟩ rfl M)) ?_;refine qb6 [growD false a.Cb a.Cc a.Ca n f g s h,.int k,.int n,.int 0] (λ K M=>M) ?_;refine qd3 (λ J=>∃ o u m C v,J=[growD false a.Cb a.Cc a.Ca o f u m C,.int k,.int n,.int v]/\By o/\Kept o.toNat true (hmOf o f) u S/\(S.length < 64->S.length+1<=o.toNat)/\m.length<=s.length/\(n=64->o=n/\u=g/\m=s/\C=h/\v=0)) (λ K M=>?_) ?_
 . refine Gy (decide (n * 3 < (L+1) * 4)&&decide (n < 64)) (λ Q q=>qs8 (decide (n * 3 < (L+1) * 4)) (decide (n < 64)) (λ Q q=>qD4 (qP2 (qP2 (qV8 hn.2 KP a0 ?_)))) (λ _ Q q=>qh6 rfl q) q) (λ B=>?_) λ B=>M _ ⟨n,g,s,h,0,rfl,pn,KP,λ _=>?_,zA3 _,λ _=>⟨rfl,rfl,rfl,rfl,rfl⟩⟩
   . refine qa2 (a:=D.int (L+1)) rfl (qa2 (a:=D.int ((L+1) * 4)) (Hv (by decide)) (qa2 (a:=D.bl (decide (n * 3 < (L+1) * 4))) ?_ (qa2 (a:=decide (n * 3 < (L+1) * 4)) rfl q)))
     rw[f2_of (x:=.int n) (y:=.int 3) (d:=.int (n * 3)) rfl rfl (Hv (by decide))];rfl
   . have B:=zAb.mp B
     have b2:=zA9 B.2;have p2:By (n * 2):=by unfold By at pn ⊢;lia
     refine qj5 (qj2 (p:=growD false a.Cb a.Cc a.Ca n f g s h) rfl (qd2 rfl) (qc3 (y:=.int (n * 2)) (f2_of (x:=.int n) (y:=.int 2) rfl rfl (Hv (by decide))) (qb5 (qa2 (a:=growD false a.Cb a.Cc a.Ca n f g s h) rfl ?_))));refine⟨n,f,g,s,h,S,n * 2,rfl,hn.2,by lia,by unfold By at p2;lia,G,hS,KP,by lia,λ u C K'=>?_⟩;exact qa2 (a:=[growD false a.Cb a.Cc a.Ca (n * 2) f u [] C,.int k,.int n,.int 0]) rfl (M _ ⟨n * 2,u,[],C,_,rfl,p2,K',λ _=>by lia,zBk _,λ z=>by lia⟩)
   rw[Bool.and_eq_false_iff] at B;rcases B with B | B
   . have:=zB5 B;lia
   have:=zB5 B;lia
 rintro J ⟨o,u,m,C,v,rfl,W,K',a1,b0,X⟩;have a2:4<=o/\o<=64:=by unfold By at W;lia
 refine qd3 (λ J=>S.length < 64/\∃ N x,J=[growD false a.Cb a.Cc a.Ca o f N (m++[x]) C,.int k,.int n,.int v]/\Kept o.toNat true (hmOf o f) N (S++[k])) (λ K M=>qf7 ?_) ?_
 . refine qI5 (i:=0) (p:=[0]) (d:=rowD false a.Cc a.Ca o true f u m) (qv0 (r:=[])) rfl (qm8 rfl) λ w=>qc2 (x:=.int k) rfl (qb5 (qa2 (a:=D.int k) rfl ?_))
   have Y:∀ y:(Nat->Option Int)×Ds,Aj (.pl 0 [0] w::[.sl 1]) [rowD false a.Cc a.Ca o true f y.1 y.2,.int k] ((A7 [growD false a.Cb a.Cc a.Ca o f u m C,.int k,.int n,.int v] 0 [0] (.hole w)).set 1 .unk)=some [growD false a.Cb a.Cc a.Ca o f y.1 y.2 C,.int k,.int n,.int v]:=λ y=>by
     rw[qn3 rfl];rfl
   refine⟨o,true,f,u,m,S,.int k, "int",rfl,rfl,by lia,a2.2,hS,K',by lia,λ b=>(by rw[qe0 R] at b;cases b),λ k' e _=>?_⟩;cases e;refine⟨λ i=>absurd i I,λ _=>⟨λ r c=>?_,λ nc came N K2=>qa2 (Y (N,_)) (M _ ⟨?_,N,_,rfl,K2⟩)⟩⟩
   . have a3:S.length=64:=by
       by_cases z:S.length < 64
       . exact absurd c (qas3 (by rw[zA7];exact a1 z) r)
       lia
     have a4:n=64:=by lia
     obtain⟨rfl,rfl,rfl,rfl,rfl⟩:=X a4;refine qa2 (Y (u,m)) ?_;have r0:r=0:=by
       obtain⟨_,c⟩:=c;rw[if_pos rfl] at c;exact c.1
     subst r0;exact qn a3
   have:=K2.len
   rw[zA7] at this
   have:[k].length=1:=rfl
   lia
 rintro J ⟨a5,N,x,rfl,K2⟩;exact q a5 o N _ C v W K2 (by rw[zA7];show _+1<=_;lia) λ z=>(X z).2.2.2.2
theorem qo6:qa8 ["self", "key", "rooms"] ["self", "key"] (qa3 qk1):=by walk_at "s"
def qC8(CG C CP CW CNT:Addr):VSp:=λ ds Q xe=>∃ n ps g dn h S x t,ds=[growD false CG C CP n ps g dn h,x]/\x.kind=some t/\By n/\qx6 ps/\(∀ k∈S,Ag k)/\Kept n.toNat true (hmOf n ps) g S/\dn.length<=900/\(x.num=false->xe ⟨CW,[("at",.int 0)]⟩ ds) /\
 ∀ k,x=.int k->Ag k->(¬ k∈S->xe ⟨CNT,[("key",.int k)]⟩ ds) /\
   (k∈S->∀ a g' b h' v,By a->Kept a.toNat true (hmOf a ps) g' (S.filter λ x=>decide (x≠k))->b.length<=dn.length+1->(n<=8 * ((S.filter λ x=>decide (x≠k)).length:Nat)->v=0/\a=n)->Q (.int v) [growD false CG C CP a ps g' b h',x])
theorem qi6(T:Txt K mg a):VFn P w K mg base 15 a.f42 a.d42 ["self", "key"] (qC8 a.Cb a.Cc a.Ca a.Ci a.Ce):=by
 refine VFn.mk2 T.d42.F qo6 (wOf [true,true]) (λ B Q Q' xe a1 hQ C h=>by obtain⟨n,f,g,l,h,S,x,t,e,h1,h2,h3,h4,h5,h6,R,q⟩:=h;exact⟨n,f,g,l,h,S,x,t,e,h1,h2,h3,h4,h5,h6,λ b=>C _ _ (R b),λ k e o=>⟨λ i=>C _ _ ((q k e o).1 i),λ i n' M U N v a b c d=>hQ _ _ ((q k e o).2 i n' M U N v a b c d)⟩⟩) (λ B Q xe h=>by obtain⟨n,f,g,l,h,S,x,t,e,_⟩:=h;rw[e];exact⟨rfl,rfl⟩) (λ a2 A outer sh H E av O=>⟨_,(Ab (Bf (Mg T.d36 T.Cm.cl (qaa4 T) qa0 (rm O) (Bm rfl (vpn 0) T.Cd.cl T.Cn) (vaN 1 Aa)))
     (Ab (Al 2 qo6.nd (ql8 0 T.d43 T.Cd.cl (qc5 T) qa0 (rm O)))
     (Ab (sif (tand (q2v (A5 Hj (qb0 _)) (Am Hj (qb0 _)) Hy (e2v (Af qh8) qh7 (qap8 T.d33 T.Cm.cl (qi9 T) qa0 (rm O) (Bm rfl (vpn 0) T.Cd.cl T.Cn)) Ac) (vnm 2)) (Kv (q2 (Am Bq (qb0 _)) B6 (vnm 2) (vgi T.Dk)))).te
     (Ae (Ak (qi0 0 T.d40 T.Cd.cl (qg2 T) qa0 (rm O) (vaV (qa4 (v2 (Af qR4) qay9 (vnm 2) Ac)) Aa))))
     Ap)
     (Ae (Ak (qa4 Ac)))))),λ B Q xe h=>?_⟩)
 obtain⟨n,f,g,l,h,S,x,t,rfl,C,V,G,hS,KP,a3,R,q⟩:=h;have kx:=qb9 C;have W:4<=n/\n<=64:=by unfold By at V;lia
 refine At [growD false a.Cb a.Cc a.Ca n f g l h,x,.unk] rfl ?_;refine qd3 (λ B=>∃ k m y,x=.int k/\Ag k/\k∈S/\B=[growD false a.Cb a.Cc a.Ca n f m (l++[y]) h,x,.unk]/\Kept n.toNat true (hmOf n f) m (S.filter λ x=>decide (x≠k))) (λ K X=>qf7 ?_) ?_
 . refine qI5 (i:=0) (p:=[0]) (d:=rowD false a.Cc a.Ca n true f g l) (qv0 (r:=[])) rfl (qm8 rfl) λ w=>qc2 (x:=x) (qd8 rfl kx) (qb5 (qa2 (a:=x) (qd8 rfl kx) ?_))
   have s:∀ y:(Nat->Option Int)×Ds,Aj (.pl 0 [0] w::[.sl 1]) [rowD false a.Cc a.Ca n true f y.1 y.2,x] ((A7 [growD false a.Cb a.Cc a.Ca n f g l h,x,.unk] 0 [0] (.hole w)).set 1 .unk)=some [growD false a.Cb a.Cc a.Ca n f y.1 y.2 h,x,.unk]:=λ y=>by
     rw[qn3 rfl];rfl
   refine⟨n,true,f,g,l,S,x,t,rfl,C,by lia,W.2,hS,KP,by lia,λ b=>qa2 (s (g,l)) (R b),λ k e o=>?_⟩;subst e;exact⟨λ i=>qa2 (s (g,l)) ((q k rfl o).1 i),λ i r came m K2=>qa2 (s (m,_)) (X _ ⟨k,m,_,rfl,o,i,rfl,K2⟩)⟩
 rintro B ⟨k,m,x,rfl,o,Y,rfl,K2⟩
 replace q:=(q k rfl o).2 Y
 have I:∀ y∈S.filter λ x=>decide (x≠k),Ag y:=λ y hy=>hS y (zAs.mp hy).1
 have J:(l++[x]).length<=l.length+1:=by rw[zA7];exact zA3 _
 generalize S.filter (λ x=>decide (x≠k))=T at K2 q I;generalize l++[x]=j at J;have a0:=K2.len;obtain⟨u,Z⟩:∃ u:Int,u=(T.length:Nat):=⟨_,rfl⟩
 refine qb6 [growD false a.Cb a.Cc a.Ca n f m j h,.int k,.int n] (λ K X=>qj5 (qS2 (p:=growD false a.Cb a.Cc a.Ca n f m j h) (d:=.int n) rfl (qd2 rfl) ⟨false,n,f,m,j,h,rfl,rfl⟩ rfl X)) ?_;refine ql7 (decide (u * 8 < n)&&decide (4 < n)) (λ Q q=>qs8 (decide (u * 8 < n)) (decide (4 < n)) (λ Q q=>qD4 (qP2 (qV8 W.2 K2 Z ?_))) (λ _ Q q=>qh6 rfl q) q) (λ L=>?_) λ L=>qi8 (.int 0) rfl (q n m j h 0 V K2 J λ _=>⟨rfl,rfl⟩)
 . exact qa2 (a:=D.int (u * 8)) (Hv (by decide)) (qa2 (a:=D.bl (decide (u * 8 < n))) rfl (qa2 (a:=decide (u * 8 < n)) rfl q))
 have L:=zAb.mp L;have b1:=zA9 L.1;have b2:=zA9 L.2;have p2:By (n / 2):=by unfold By at V ⊢;lia
 refine qe6 (qj2 (p:=growD false a.Cb a.Cc a.Ca n f m j h) rfl (qd2 rfl) (qc3 (y:=.int (n / 2)) (f2_of (x:=.int n) (y:=.int 2) rfl rfl (qaC8 (by decide) (by decide))) (qb5 (qa2 (a:=growD false a.Cb a.Cc a.Ca n f m j h) rfl ?_))));refine⟨n,f,m,j,h,T,n / 2,rfl,W.2,by lia,by lia,G,I,K2,by lia,λ M N K'=>?_⟩;exact qa2 (a:=[growD false a.Cb a.Cc a.Ca (n / 2) f M [] N,.int k,.int n]) rfl (q (n / 2) M [] N _ p2 K' (zBk _) λ z=>by lia)
theorem qu0:qa8 ["self"] ["self"] (qa3 qg1):=by walk_at "s"
def qax1(CG C CP:Addr)(x:D):Option D:=(D.fld CG "row" x).bind λ y=>(D.fld C "plan" y).bind λ z=>D.fld CP "rooms" z
theorem qo0(T:Txt K mg a):B7 P w K mg base CX0 1 a.f43 a.d43 ["self"] (spP0 (qax1 a.Cb a.Cc a.Ca)):=by
 refine T.d43.F.ok qh2 (λ z H Q E h=>?_) (λ C A outer s H z Q E Z h=>?_)
 . obtain⟨F,u,d,y,A,w,rfl,_⟩:=h
   rfl
 obtain⟨F,u,d,y,A,w,rfl,D,b,G,q⟩:=h;obtain⟨c,I,b⟩:=zA1.mp b;obtain⟨e,e2,J⟩:=zA1.mp b;obtain⟨L,C1,M,f1,N,rfl,f,g,i,j,B1,O⟩:=qan3 (K:=K) T.Cd.cl T.Cn F H u y A c (λ v H'=>∃ B,Rep F H' v c B) D I λ v H' B' r _ _=>⟨B',r⟩
 obtain⟨R,C2,S,f2,v2,rfl,k,l,m,n,B2,U⟩:=qan3 (K:=K) T.Cm.cl T.Cr F H N c B1 e (λ v H'=>∃ B,Rep F H' v e B) O e2 λ v H' B' r _ _=>⟨B',r⟩
 obtain⟨V,C3,W,f3,X,rfl,o,p,t,x,B3,Y⟩:=qan3 (K:=K) T.Cg.cl T.Ck F H v2 e B2 d (λ v H'=>∃ B,Rep F H' v d B) U J λ v H' B' r _ _=>⟨B',r⟩
 obtain rfl:X=w:=by cases d<;>cases G<;>cases Y<;>rfl
 exact⟨_,(qA3 (qax5 (Lw (Lw (Lw (pv 0) rfl) rfl) rfl))),_,rfl,L,C1,M,f1,_,rfl,f,g,i,j,R,C2,S,f2,_,rfl,k,l,m,n,V,C3,W,f3,_,rfl,o,p,t,x,q⟩
def qf1(CG C CP:Addr):VSp:=λ ds Q _=>∃ n ps g dn h S,ds=[growD false CG C CP n ps g dn h]/\1<=n/\n<=64/\qx6 ps/\(∀ k∈S,Ag k)/\Kept n.toNat true (hmOf n ps) g S/\Q (rowD false C CP n true ps g []) ds
theorem qf3(T:Txt K mg a):VFn P w K mg base 14 a.f44 a.d44 ["self"] (qf1 a.Cb a.Cc a.Ca):=by
 refine VFn.mk2 T.d44.F qu0 (wOf [true]) (λ f Q Q' i l m _ h=>by obtain⟨n,b,g,c,h,S,e,o,p,s,t,u,q⟩:=h;exact⟨n,b,g,c,h,S,e,o,p,s,t,u,m _ _ q⟩) (λ f Q i h=>by obtain⟨n,b,g,c,h,S,e,_⟩:=h;rw[e];exact⟨rfl,rfl⟩) (λ v A outer z H E B j=>⟨_,(Ae (Ak (Ah T.d38 (qA4 T) qa0 (rm j) (vaBV (Bm rfl (vpn 0) T.Cd.cl T.Cn) (qaD9 0 T.d43 T.Cd.cl (qo0 T) (rm j)))))),λ f Q i h=>?_⟩);obtain⟨n,b,g,c,h,S,rfl,x,k,G,y,KP,q⟩:=h;refine At [growD false a.Cb a.Cc a.Ca n b g c h] rfl ?_;refine qe6 (qn2 (qa2 (a:=(0,[0])) (qv0 (r:=[])) (qa2 (a:=rowD false a.Cc a.Ca n true b g c) rfl ⟨rfl,qa2 (a:=.int n) ?_ ⟨rfl,λ w=>?_⟩⟩)))
 . show (if (growD false a.Cb a.Cc a.Ca n b g c h).isM a.Cb "rooms_now" = true then (qax1 a.Cb a.Cc a.Ca (growD false a.Cb a.Cc a.Ca n b g c h)).bind λ d=>d.flat.map λ _=>d else none)=_
   rw[if_pos (qd2 rfl)];unfold qax1;rw[qai9,Option.bind_some,qk4,Option.bind_some,qc6];rfl
 refine⟨false,n,true,b,g,c,S,n,rfl,k,x,k,G,y,KP,KP.no_crowd,λ C K'=>qa2 (a:=[growD false a.Cb a.Cc a.Ca n b g c h]) ?_ ?_⟩
 . show Aj (.pl 0 [0] w::[.no]) (rowD false a.Cc a.Ca n true b g c::[.int n]) _=_
   rw[qn3 rfl];rfl
 rw[qae4 (K'.same KP λ _=>Iff.rfl)];exact q
theorem qD3:qa8 ["self"] ["self"] (qa3 qk3):=by walk_at "s"
def qo3(CG C CP:Addr):VSp:=Au λ ds d=>∃ zg n ps g dn h,ds=[growD zg CG C CP n ps g dn h]/\d=.int h
theorem qp2(T:Txt K mg a):VFn P w K mg base 1 a.f45 a.d45 ["self"] (qo3 a.Cb a.Cc a.Ca):=by
 refine VFn.mk2 T.d45.F qD3 (wOf [true]) qb4 (λ b Q c h=>by obtain⟨d,⟨f,n,i,g,j,h,e,_⟩,_⟩:=h;rw[e];exact⟨rfl,rfl⟩) (λ k A outer l H E m o=>⟨_,(Ae (Ak (qb7 (Ba rfl (vnm 0) T.Cd.cl T.Cq)))),λ b Q c h=>?_⟩);obtain⟨d,⟨f,n,i,g,j,h,rfl,rfl⟩,q⟩:=h;exact qe6 (qk8 (d:=.int h) (As rfl qW5) rfl q)
theorem qaF1:qa8 ["_law_script"] ["_law_script"] (qa3 qaw8):=by walk_at "s"
theorem qaJ0(T:Txt K mg a):B7 P w K mg base CX0 1 a.f46 a.d46 ["_law_script"] (qaO9 K):=by
 refine T.d46.F.ok qaF1 (λ J H Q E h=>?_) (λ L A outer s H J Q E O h=>?_)
 . obtain⟨l,d,rfl,_⟩:=h
   rfl
 obtain⟨l,d,rfl,M,R,k⟩:=h;refine⟨_,(qA3 (qax5 (qay0 (qe3 qR2 (qe3 qR2 (qe3 qR2 (qe3 (qE9 ["_law_cell"] [none] (qE8 (qaf1 qar7 (pv 0) qas7 (qas6 qR2))) (λ C B H0 G=>(gnm 0 (show (["_law_cell"]:List Str).Nodup by decide +kernel))) (λ C B H0 G=>qaH2) (λ C B H0 G=>(cbi qaD3 T.Gj (qe3 (pv 0) qv1)))) qv1))))))),?_⟩;refine⟨_,rfl,_,rfl,l,_,rfl,M,λ c N=>?_⟩;have ec:Ju (d.map V.int) none (some 63)=d.map V.int:=by
   unfold Ju;have t:HT.sIx (d.map V.int).length (d.map V.int).length (some (63:Int))=min 63 (d.map V.int).length:=HT.qae3 _ _ 63;rw[t,HT.qR1,List.drop_zero,Nat.sub_zero];apply zBn;rw[zAf];lia
 rw[ec];refine⟨c,rfl,⟨_,SqL.of qb2⟩,λ D r=>?_⟩;have I:D≠c:=λ z=>by rw[z,qb2] at r;cases r
 have g:H D=none:=by rw[qb3 I] at r;exact r
 refine qY0 (K:=K) (xs:=d.map V.int) (λ i σ H1=>∃ v,σ=[v]/\H1=upd (upd H c (.lst (d.map V.int))) D (.lst (((d.take i).map λ n=>if n < 0 then -n else n).map V.int))) ⟨none,rfl,rfl⟩ ?_ ?_ ?_
 . rintro i σ H1 _ ⟨v,rfl,rfl⟩
   refine SqL.of ?_;rw[qb3 I.symm,qb2]
 . rintro i x σ H1 j ⟨v,rfl,rfl⟩
   obtain⟨n,u,rfl⟩:∃ n,d[i]? = some n/\V.int n=x:=by
     rw[zB3] at j;cases e:d[i]? with
     | none=>rw[e] at j;cases j
     | some z=>rw[e] at j;exact⟨z,rfl,Option.some.inj j⟩
   refine⟨_,rfl,_,rfl,_,qb2,?_,_,rfl,?_⟩
   . rw[zAf,zAf,zB6]
     exact qam6 (by lia)
   rw[qaE2];congr 1;rw[List.take_add_one,u];simp
 rintro σ H1 ⟨v,rfl,rfl⟩;rw[zAf,zBn (zA3 _)];refine⟨by show 4<=sizeLine;decide,λ p f=>?_⟩;have q:p≠D:=λ z=>by rw[z,qb2] at f;cases f
 rw[qb3 q] at f;have y:p≠c:=λ z=>by rw[z,qb2] at f;cases f
 rw[qb3 y] at f;refine k p D _ f g (λ b o e=>?_) ⟨0,1234567891,0,d.map λ n=>if n < 0 then -n else n,qb2,?_,by decide,by decide,by decide,by decide,?_⟩
 . rw[qb3 (qb8 e f),qb3 (qb8 e g),qb3 (qb8 e N)]
   exact e
 . rw[qb3 q.symm,qb2]
 intro n u;obtain⟨m,_,rfl⟩:=zBb.mp u
 split<;>lia
theorem qt9:qa8 ["_law_bag_here", "_law_many", "_law_cell", "_law_value", "_law_first", "_law_second"] ["_law_bag_here", "_law_many"] (qa3 qae0):=by walk_at "s"
theorem qd9(T:Txt K mg a):VFn P w K mg base 1 a.f47 a.d47 ["_law_bag_here", "_law_many"] qad2:=by
 refine VFn.mk' T.d47.F qt9 (wOf [true,true]) (λ r Q Q' u N O _ h=>by obtain⟨b,m,g,e,L,C,R,q⟩:=h;exact⟨b,m,g,e,L,C,R,λ v S U V B=>O _ _ (q v S U V B)⟩) (λ r Q u ⟨b,m,g,e,_⟩=>by rw[e];rfl) (λ r Q u h=>by obtain⟨b,m,g,e,⟨x,y,z,W,_⟩,_⟩:=h;rw[e,W];rfl) (λ X A outer sh H E av Y=>⟨_,(Ab (sif (q2 (Am (qv2 Y.u64) (qb0 _)) Bs (v2 (A9 qd1) Aq (vnm 0) Ac) Ac)
     (Ab (Al 2 qt9.nd (qa4 Ac))
     (Ab (sif (q2 (Am Hj (qb0 _)) Hy (v2 (A9 qd1) Aq (vnm 0) Ac) (vbi qE1 qE0.ops T.Dh (qa1 (v2 (A9 qd1) Aq (vnm 0) Ac) qa6 rfl)))
     (Ae (Al 2 qt9.nd (qb7 (v2 (A9 qd1) Aq (v2 (A9 qd1) Aq (vnm 0) Ac) (v2 (A9 qd1) Aq (vnm 0) Ac)))))
     Ap)
     (Ab (saug (vpn 0) Ac Ac qaT4)
     (Ab (sif (q2 (Am Kq (qb0 _)) Ma (vnm 2) Ac)
     (Ae (Js (qb7 (vnm 2)) (Hn (vpn 0) Ac)))
     Ap)
     (Ae (Js (qa4 (v2 (Af qx2) qx0 (v2 (Af qg6) qg5 (v2 (Af qg6) qg5 (v2 (Af qh8) qh7 (v2 (A9 qd1) Aq (vnm 0) Ac) Ac) (v2 (Af qx2) qx0 (vnm 2) Ac)) (v2 (Af qh8) qh7 Ac (v2 (A9 qd1) Aq (vnm 0) Ac))) Ac)) (Hn (vpn 0) Ac)))))))
     Ap)
     (Ab (sif (q2 (Am Bq (qb0 _)) B6 (v2 (A9 qd1) Aq (vnm 0) Ac) Ac)
     (Ab (Al 3 qt9.nd (qa4 (v2 (Af qx2) qx0 (v2 (A9 qd1) Aq (vnm 0) Ac) (vnm 1))))
     (Ab (Js (qa4 (v2 (Af qR4) qay9 (v2 (A9 qd1) Aq (vnm 0) Ac) (vnm 1))) (Hn (vpn 0) Ac))
     (Ae (Ak (emv 3)))))
     Ap)
     (Ab (Al 4 qt9.nd (qa4 (v2 (Af qx2) qx0 (v2 (Af qh8) qh7 (v2 (Af qg6) qg5 (v2 (A9 qd1) Aq (vnm 0) Ac) Ac) Ac) Ac)))
     (Ab (Al 5 qt9.nd (qa4 (v2 (Af qx2) qx0 (v2 (Af qh8) qh7 (v2 (Af qx2) qx0 (v2 (Af qh8) qh7 (vnm 4) (vnm 4)) Ac) Ac) Ac)))
     (Ab (sif (q2 (Am Bq (qb0 _)) B6 (vnm 1) Ac)
     (Ae (Ak (qa4 (v2 (Af qx2) qx0 (v2 (Af qg6) qg5 (v2 (Af qh8) qh7 (vnm 5) Ac) (vnm 4)) (vnm 1)))))
     Ap)
     (Ae (Ak (qa4 (v2 (Af qx2) qx0 (v2 (Af qR4) qay9 (vnm 5) Ac) (vnm 1)))))))))),λ r Q u h=>?_⟩)
 obtain⟨b,m,g,rfl,⟨x,y,z,rfl,B⟩,p,G,k⟩:=h;refine At [bagD x y z g,.int m,.unk,.unk,.unk,.unk] rfl ?_;refine qd3 (λ r=>∃ j o t c,r=[bagD j o t g,.int m,c,.unk,.unk,.unk]/\Bg j o t g) (λ K l=>?_) ?_
 . refine Kc (b:=decide (x=0)) rfl (λ _=>?_) (λ _=>l _ ⟨x,y,z,_,rfl,B⟩)
   refine qb6 [bagD x y z g,.int m,.int 0,.unk,.unk,.unk] (λ K l=>l) ?_;refine qd3 (λ r=>∃ c:Int,0<=c/\r=[bagD x y z g,.int m,.int c,.unk,.unk,.unk]) (λ K l=>?_) ?_
   . refine Kc (b:=decide (z < (((g.map D.int).length:Nat):Int))) rfl (λ C=>?_) (λ _=>l _ ⟨0,by decide,rfl⟩)
     obtain⟨v,Z,e⟩:=qC3 (xs:=g.map D.int) (i:=z) B.z0 (zA9 C);obtain⟨c,I,rfl⟩:=zBb.mp Z;exact qL1 (f2_of (y:=.int z) (x:=.lst false (g.map .int)) rfl rfl e) rfl (l _ ⟨c,B.nn c I,rfl⟩)
   rintro r ⟨c,I,rfl⟩;refine qb6 [bagD x y (z+1) g,.int m,.int c,.unk,.unk,.unk] (λ K l=>?_) ?_
   . exact qaU9 (k:=2) (x:=z) (y:=1) (ys:=[.int x,.int y,.int z,.lst false (g.map .int)]) rfl rfl (by decide) rfl rfl l
   refine qd3 (λ r=>∃ j:Int,0<=j/\r=[bagD j y (z+1) g,.int m,.int c,.unk,.unk,.unk]) (λ K l=>?_) ?_
   . refine Kc (b:=decide (1000000000000000000<=c)) rfl (λ _=>?_) (λ _=>l _ ⟨x,B.x0,rfl⟩)
     exact qU5 (d:=.int c) (ys:=[.int x,.int y,.int (z+1),.lst false (g.map .int)]) (k:=0) (n:=0) rfl rfl rfl rfl rfl (l _ ⟨c,I,rfl⟩)
   rintro r ⟨j,J,rfl⟩;have e1:f2 Ld (f2 Kh (f2 Kh (f2 Go (f2 gIx (rdN 0) (kC (.int 1))) (kC (.int 48271))) (f2 Ld (rdN 2) (kC (.int 2147483647)))) (f2 Go (kC (.int 7919)) (f2 gIx (rdN 0) (kC (.int 2))))) (kC (.int 2147483647)) [bagD j y (z+1) g,.int m,.int c,.unk,.unk,.unk]=some (.int ((y * 48271+c % 2147483647+7919 * (z+1)) % 2147483647)) :=
     f2_of (f2_of (f2_of (f2_of (x:=.int y) rfl rfl (Hv (by decide))) (f2_of rfl rfl (Iz (by decide))) rfl) (f2_of (y:=.int (z+1)) rfl rfl (Km (by decide))) rfl) rfl (Iz (by decide))
   exact qU4 (ys:=[.int j,.int y,.int (z+1),.lst false (g.map .int)]) (k:=1) (n:=1) e1 rfl rfl rfl (l _ ⟨j,_,z+1,_,rfl,J,zBx _ (by decide),zBp _ (by decide),by have:=B.z0;lia,B.nn⟩)
 rintro r ⟨j,o,t,c,rfl,B'⟩;refine qj3 (decide (0 < j)) rfl (λ L=>?_) λ _=>?_
 . refine qb6 [bagD j o t g,.int m,c,.int (j % m),.unk,.unk] (λ K l=>qa2 (f2_of (x:=.int j) rfl rfl (Iz p)) l) ?_
   refine qb6 [bagD (j / m) o t g,.int m,c,.int (j % m),.unk,.unk] (λ K l=>?_) ?_
   . exact qU4 (ys:=[.int j,.int o,.int t,.lst false (g.map .int)]) (k:=0) (n:=0) (f2_of (x:=.int j) rfl rfl (qaC8 p G)) rfl rfl rfl l
   exact k (j % m) _ (zBx _ (by lia)) (zBp _ p) ⟨_,_,_,rfl,Int.ediv_nonneg B'.x0 (by lia),B'.y0,B'.y1,B'.z0,B'.nn⟩
 have f0:0<=(o+1) * 39373 % 1000000007:=zBx _ (by decide);have f1:(o+1) * 39373 % 1000000007 < 1000000007:=zBp _ (by decide);refine qb6 [bagD j o t g,.int m,c,.unk,.int ((o+1) * 39373 % 1000000007),.unk] (λ K l=>qa2 (f2_of (f2_of (f2_of (x:=.int o) rfl rfl rfl) rfl (Hv (by decide))) rfl (Iz (by decide))) l) ?_;generalize (o+1) * 39373 % 1000000007=f at f0 f1;refine qb6 [bagD j o t g,.int m,c,.unk,.int f,.int (f * f % 998244353 * 30011 % 998244353)] (λ K l=>qa2 (f2_of (f2_of (f2_of (f2_of rfl rfl (Km (qy6 (by lia) (by lia)))) rfl (Iz (by decide))) rfl (Hv (by decide))) rfl (Iz (by decide))) l) ?_;generalize f * f % 998244353 * 30011 % 998244353=s;have M:∀ v,Q (.int (v % m)) [bagD j o t g,.int m]:=λ v=>k _ _ (zBx _ (by lia)) (zBp _ p) ⟨_,_,_,rfl,B'⟩
 refine qj3 (decide (1000000 < m)) rfl (λ _=>?_) λ _=>?_
 . exact qi8 _ (f2_of (f2_of (f2_of rfl rfl (Hv (by decide))) rfl rfl) rfl (Iz p)) (M _)
 exact qi8 _ (f2_of (f2_of rfl rfl (qaC8 (by decide) (by decide))) rfl (Iz p)) (M _)
theorem qz2:qa8 ["_law_e", "_law_some", "_law_words"] ["_law_e"] (qa3 qae1):=by walk_at "s"
def qad3(L:List (Addr×Str)):VSp:=Au λ ds d=>∃ C fs w,ds=[.exn C fs]/\(C,w)∈L/\d=.str w
theorem isx{K:PySem.W.Frag}{u:Value}{C:Addr}{R:Ds->List Pl->Ds->Prop}(d:f ds=some (.exn C fs))(ix:IsX K C)(e:PySem.W.kitOne K (.ref C) u=some b)(h:tr ds (λ xs ps c=>R (.bl b::xs) (.no::ps) c) xe):tbV (Mx K f u) tr ds R xe:=qa2 (a:=D.exn C fs) d ⟨C,fs,b,rfl,ix,e,h⟩
theorem qaJ3{K:PySem.W.Frag}{u:Value}{C:Addr}{Q:Bool->Ds->Prop}(c:f ds=some (.exn C fs))(ix:IsX K C)(d:PySem.W.kitOne K (.ref C) u=some b)(q:Q (!b) ds):Ie (ttE (Mx K f u)) ds Q xe:=qa2 (a:=D.exn C fs) c ⟨C,fs,b,rfl,ix,d,qa2 (a:=b) rfl q⟩
theorem qar4{th:VH}(h:∀(N:Ds->Prop)(X:XKd),(∀ a,u e a->N a)->(∀ x a,th x { e with nx:=u e } a->X x a)->t { e with nx:=N,xe:=X } ds):Iy (sTryW t th) u e ds:=h _ _ (λ _ z=>z) λ _ _ z=>z
theorem Lq{M:Addr->Option Bool}{ts:VTS}{tr:VH}{C:Addr}{p:Str×D}{r:List (Str×D)}(a:M C=some true)(h:ts (Jh e) (ds.set j (.exn C (p::r)))):hAs M j ts tr ⟨C,p::r⟩ e ds:=⟨λ z=>(nomatch z),true,a,Gx rfl h⟩
theorem M8{M:Addr->Option Bool}{ts:VTS}{tr:VH}{C:Addr}{p:Str×D}{r:List (Str×D)}(a:M C=some false)(h:tr ⟨C,p::r⟩ e ds):hAs M j ts tr ⟨C,p::r⟩ e ds:=⟨λ z=>(nomatch z),false,a,Il zAc h⟩
theorem qs9{K:PySem.W.Frag}{L:List (Addr×Str)}{C:Addr}{w fl:Str}(h:rdN i ds=some (.exn C fs))(a:Aj [.sl i] [.exn C fs] (ds.set i .unk)=some ds)(hm:(C,w)∈L)(ex:Exc K C)(b:qc1 K C fl)(c:fs.lookup fl=some v)(q:e.rt (.tup [.str w,v]) ds):sRet (Mi (tbV (qm1 (qad3 L) [] (tbN i Av)) (tbV (tEFX K (rdN i) fl) Av))) (Jh e) ds :=
 qe6 (M5 (qf6 (qE2 h ⟨.str w,⟨C,fs,w,rfl,hm,rfl⟩,qa2 a (qf6 (qa2 h ⟨C,fs,v,rfl,ex,b,c,qb5 ⟨by show 2<=1000000;decide,q⟩⟩))⟩)))
noncomputable abbrev M9:Ds:=[.str "wrong",.str "room",.str "there",.str "gone",.str "unkept",.str "unlike",.str "text",.str "row",.str "plan",.str "many"]
theorem qv4(T:Txt K mg a):Ha false P w K mg base 1 a.f48 a.d48 ["_law_e"] (qad3 [(a.Ci, "wrong"),(a.Cf, "room"),(a.Cj, "there"),(a.Ce, "gone")]):=by
 refine VFn.mk2 T.d48.F qz2 (wOf [true]) qb4 (λ n Q o h=>by obtain⟨d,⟨C,l,w,e,_⟩,_⟩:=h;rw[e];exact⟨rfl,rfl⟩) (λ p A outer S H E U r=>⟨_,(Ab (Al 1 qz2.nd (Iw (vaV (Gw a.Ci T.Ch (vnm 0) T.Cp) (vaV (Gw a.Cf T.Ch (vnm 0) T.F8) (vaV (Gw a.Cj T.Ch (vnm 0) T.Ex) (vaV (Gw a.Ce T.Ch (vnm 0) T.Dv) Aa))))))
     (Ab (Al 1 qz2.nd (e2n 1 (Af qg6) qg5 (Iw (vaV (Gw a.D2 T.Ch (vnm 0) T.G5) (vaV (Gw a.D6 T.Ch (vnm 0) T.G7) (vaV (Gw a.D3 T.Ch (vnm 0) T.G4) (vaV (Gw a.Da T.Ch (vnm 0) T.Gd) Aa)))))))
     (Ab (Al 1 qz2.nd (e2n 1 (Af qg6) qg5 (Iw (vaV (Gw a.D4 T.Ch (vnm 0) T.G9) (vaV (Gw a.Cw T.Ch (vnm 0) T.Fw) Aa)))))
     (Ab (sif (tor (Bt (te (eisXt "ValueError" T.Ch (vnm 0) T.Fg))) (Mf (q2 (Am (qr9 r.u64) (qb0 _)) Hm (vbm qaR1 PySem.F.plainAttrs_list PySem.F.slot_list_count PySem.F.type_list_count qaz9 (vnm 1) vbl qaN3) Ac))).te
     (Ae (Ak (qa4 A4)))
     Ap)
     (Ab (Al 2 qz2.nd (qa4 (Gq (qa1 A4 (qa1 A4 (qa1 A4 (qa1 A4 (qa1 A4 (qa1 A4 (qa1 A4 (qa1 A4 (qa1 A4 (qa1 A4 qa6 rfl) rfl) rfl) rfl) rfl) rfl) rfl) rfl) rfl) rfl))))
     (Ae (Ak (qb7 (v2 (A9 qd1) Aq (vnm 2) (vbm qaI6 PySem.F.plainAttrs_list PySem.F.slot_list_index PySem.F.type_list_index qag5 (vnm 1) vbl qau1)))))))))),λ n Q o h=>?_⟩)
 obtain⟨d,⟨C,l,w,rfl,m,rfl⟩,q⟩:=h;obtain⟨c,f,g,j,i,ix,s,t,u,v,z,B,G,I,J,L,M,N,O,R⟩:∃ c f g j i,IsX K C/\W.kitOne K (.ref C) (.ref a.Ci)=some c/\W.kitOne K (.ref C) (.ref a.Cf)=some f/\W.kitOne K (.ref C) (.ref a.Cj)=some g/\W.kitOne K (.ref C) (.ref a.Ce)=some j/\W.kitOne K (.ref C) (.ref a.D2)=some false/\W.kitOne K (.ref C) (.ref a.D6)=some false/\W.kitOne K (.ref C) (.ref a.D3)=some false/\W.kitOne K (.ref C) (.ref a.Da)=some false/\W.kitOne K (.ref C) (.ref a.D4)=some false/\W.kitOne K (.ref C) (.ref a.Cw)=some false/\W.kitOne K (.ref C) (.type "ValueError")=some true /\
     gCnt (.lst false [.bl c,.bl f,.bl g,.bl j,.bl false,.bl false,.bl false,.bl false,.bl false,.bl false]) (.bl true)=some (.int 1)/\gIdx (.lst false [.bl c,.bl f,.bl g,.bl j,.bl false,.bl false,.bl false,.bl false,.bl false,.bl false]) (.bl true)=some (.int i)/\gIx (.lst false M9) (.int i)=some (.str w):=by
   simp only[zAl,zB7,or_false,Prod.mk.injEq] at m;rcases m with⟨rfl,rfl⟩ | ⟨rfl,rfl⟩ | ⟨rfl,rfl⟩ | ⟨rfl,rfl⟩
   . exact⟨true,false,false,false,0,T.G6,qI9 _ _,T.Et,T.F6,T.E5,T.En,T.Em,T.Ek,T.F7,T.Eo,T.Ea,T.G1,rfl,rfl,rfl⟩
   . exact⟨false,true,false,false,1,T.Fx,T.Ej,qI9 _ _,T.Ew,T.Dp,T.Eb,T.E9,T.E7,T.Ev,T.Ed,T.Dx,T.Fv,rfl,rfl,rfl⟩
   . exact⟨false,false,true,false,2,T.G3,T.F5,T.Es,qI9 _ _,T.E2,T.El,T.Ei,T.Eu,T.Ez,T.Ep,T.E8,T.G0,rfl,rfl,rfl⟩
   exact⟨false,false,false,true,3,T.Fj,T.E3,T.Dt,T.E6,qI9 _ _,T.Dm,T.Dq,T.Dn,T.E4,T.Dr,T.Di,T.Fo,rfl,rfl,rfl⟩
 refine At [.exn C l,.unk,.unk] rfl ?_;refine qb6 [.exn C l,.lst false [.bl c,.bl f,.bl g,.bl j],.unk] (λ K k=>qj5 (qx4 (isx rfl ix s (isx rfl ix t (isx rfl ix u (isx rfl ix v (qb5 ⟨by show 4<=1000000;decide,k⟩))))))) ?_;refine qb6 [.exn C l,.lst false [.bl c,.bl f,.bl g,.bl j,.bl false,.bl false,.bl false,.bl false],.unk] (λ K k=>qj5 ⟨rfl,qx4 (isx rfl ix z (isx rfl ix B (isx rfl ix G (isx rfl ix I (qb5 ⟨by show 4<=1000000;decide,qa2 (a:=D.lst false [.bl c,.bl f,.bl g,.bl j,.bl false,.bl false,.bl false,.bl false]) rfl k⟩)))))⟩) ?_;refine qb6 [.exn C l,.lst false [.bl c,.bl f,.bl g,.bl j,.bl false,.bl false,.bl false,.bl false,.bl false,.bl false],.unk] (λ K k=>qj5 ⟨rfl,qx4 (isx rfl ix J (isx rfl ix L (qb5 ⟨by show 2<=1000000;decide,qa2 (a:=D.lst false [.bl c,.bl f,.bl g,.bl j,.bl false,.bl false,.bl false,.bl false,.bl false,.bl false]) rfl k⟩)))⟩) ?_;refine ql7 false (λ Q q=>qac4 false false (λ Q q=>qaJ3 rfl ix M q) (λ _ Q q=>qh6 (b:=false) (f2_of (x:=.int 1) (y:=.int 1) (f2_of rfl rfl N) rfl rfl) q) q) (λ h=>nomatch h) λ _=>?_
 refine qb6 [.exn C l,.lst false [.bl c,.bl f,.bl g,.bl j,.bl false,.bl false,.bl false,.bl false,.bl false,.bl false],.lst false M9] (λ K k=>k) ?_;exact qe6 (qk8 (d:=.str w) (f2_of (x:=.lst false M9) (y:=.int i) rfl (f2_of rfl rfl O) R) rfl q)
theorem qr7:qa8 ["_law_row", "_law_word", "_law_key", "_law_e"] ["_law_row", "_law_word", "_law_key"] (qa3 qR0):=by walk_at "s"
def askR(S:List Int)(w:Str)(x r:D):Prop:=(x.num=false/\r=.tup [.str "wrong",.int 0]/\(w = "put" ∨ w = "take"))∨∃ k,x=.int k/\Ag k/\((w = "put" /\ ((k∈S/\r=.tup [.str "there",.int k])∨(¬ k∈S/\S.length=64/\r=.tup [.str "room",.int 0])))∨(w = "take" /\ ¬ k∈S/\r=.tup [.str "gone",.int k]))
def qam5(CG C CP:Addr):VSp:=λ ds Q _=>∃ n ps g dn h S w x t r,ds=[growD false CG C CP n ps g dn h,.str w,x]/\x.kind=some t/\By n/\qx6 ps/\(∀ k∈S,Ag k)/\Kept n.toNat true (hmOf n ps) g S/\S.length<=64/\dn.length<=900/\askR S w x r/\Q r ds
theorem qV4(T:Txt K mg a):VFn P w K mg base 16 a.f49 a.d49 ["_law_row", "_law_word", "_law_key"] (qam5 a.Cb a.Cc a.Ca):=by
 refine VFn.mk2 T.d49.F qr7 (wOf [true,true,true]) (λ I Q Q' B L M _ h=>by obtain⟨n,c,g,d,h,S,w,x,t,r,e,O,R,U,V,W,Y,Z,h8,q⟩:=h;exact⟨n,c,g,d,h,S,w,x,t,r,e,O,R,U,V,W,Y,Z,h8,M _ _ q⟩) (λ I Q B h=>by obtain⟨n,c,g,d,h,S,w,x,t,r,e,_⟩:=h;rw[e];exact⟨rfl,rfl⟩) (λ a0 A outer sh H E av j=>⟨_,(Ab (stryW (λ E' B m o=>(Ae (sif (q2 (Am (qv2 j.u64) (qb0 _)) Bs (vnm 1) A4)
     (Ae (Bf (qi0 0 T.d41 T.Cd.cl (qk7 T) o (rm j) (vaN 2 Aa))))
     (Ae (Bf (qi0 0 T.d42 T.Cd.cl (qi6 T) o (rm j) (vaN 2 Aa)))))))
     (Mw 3 qr7.nd T.D8 T.Cp (λ C=>(Ae (Ak (Ix (vaV (Ah T.d48 (qv4 T) qF5 (rm (j.mark _)) (vaN 3 Aa)) (vaV (K3 (K:=K) rfl (vnm 3)) Aa))))))
     (Mw 3 qr7.nd T.Ec T.F8 (λ C=>(Ae (Ak (Ix (vaV (Ah T.d48 (qv4 T) qF5 (rm (j.mark _)) (vaN 3 Aa)) (vaV (K3 (K:=K) rfl (vnm 3)) Aa))))))
     (vhasT 3 qr7.nd T.Ex T.Dv (λ C=>(Ae (Ak (Ix (vaV (Ah T.d48 (qv4 T) qF5 (rm (j.mark _)) (vaN 3 Aa)) (vaV (K3 (K:=K) rfl (vnm 3)) Aa))))))
     (Mw 3 qr7.nd T.Dw T.Ef (λ C=>(Ae (Ak (Ix (vaV (Ah T.d48 (qv4 T) qF5 (rm (j.mark _)) (vaN 3 Aa)) (vaV (qa4 Ac) Aa))))))
     vhnil)))))
     (Ae (Ak (qa4 (Bb (qa1 A4 (qa1 Ac qa6 rfl) rfl)))))),λ I Q B h=>?_⟩)
 obtain⟨n,c,g,d,h,S,w,x,t,r,rfl,s,m,G,u,KP,o,i,ha,q⟩:=h;have y:=qb9 s;refine At [growD false a.Cb a.Cc a.Ca n c g d h,.str w,x,.unk] rfl ?_;refine qar4 λ N X hN v=>?_
 rcases ha with⟨f,rfl,rfl | rfl⟩ | ⟨k,rfl,l,⟨rfl,⟨hin,rfl⟩ | ⟨hin,h64,rfl⟩⟩ | ⟨rfl,hin,rfl⟩⟩
 . refine Gy true (λ Q q=>qh6 (b:=true) rfl q) (λ _=>qf7 (qj2 (p:=growD false a.Cb a.Cc a.Ca n c g d h) rfl (qd2 rfl) (qc2 (x:=x) (qd8 rfl y) (qb5 (qa2 (a:=x) (qd8 rfl y) (qa2 (a:=growD false a.Cb a.Cc a.Ca n c g d h) rfl ⟨n,c,g,d,h,S,x,t,rfl,s,m,G,u,KP,o,i,λ _=>qa2 (a:=[growD false a.Cb a.Cc a.Ca n c g d h,.str "put",x,.unk]) rfl (v _ _ (Lq T.D7 (qs9 rfl rfl (.head _) T.D8 T.Db rfl q))),λ k e l=>?_⟩)))))) λ h=>nomatch h
   subst e;rw[qe0 l] at f;cases f
 . refine Gy false (λ Q q=>qh6 (b:=false) rfl q) (λ h=>nomatch h) λ _=>qf7 (qj2 (p:=growD false a.Cb a.Cc a.Ca n c g d h) rfl (qd2 rfl) (qc2 (x:=x) (qd8 rfl y) (qb5 (qa2 (a:=x) (qd8 rfl y) (qa2 (a:=growD false a.Cb a.Cc a.Ca n c g d h) rfl ⟨n,c,g,d,h,S,x,t,rfl,s,m,G,u,KP,i,λ _=>qa2 (a:=[growD false a.Cb a.Cc a.Ca n c g d h,.str "take",x,.unk]) rfl (v _ _ (Lq T.D7 (qs9 rfl rfl (.head _) T.D8 T.Db rfl q))),λ k e l=>?_⟩)))))
   subst e;rw[qe0 l] at f;cases f
 . refine Gy true (λ Q q=>qh6 (b:=true) rfl q) (λ _=>qf7 (qj2 (p:=growD false a.Cb a.Cc a.Ca n c g d h) rfl (qd2 rfl) (qc2 (x:=.int k) rfl (qb5 (qa2 (a:=D.int k) rfl (qa2 (a:=growD false a.Cb a.Cc a.Ca n c g d h) rfl ⟨n,c,g,d,h,S,.int k,t,rfl,s,m,G,u,KP,o,i,λ f=>?_,λ J e _=>?_⟩)))))) λ h=>nomatch h
   . rw[qe0 l] at f;cases f
   cases e;exact⟨λ _=>qa2 (a:=[growD false a.Cb a.Cc a.Ca n c g d h,.str "put",.int k,.unk]) rfl (v _ _ (M8 T.Fa (M8 T.F9 (Lq T.D9 (qs9 rfl rfl (.tail _ (.tail _ (.head _))) T.Fi T.Eg rfl q))))),λ z=>absurd hin z⟩
 . refine Gy true (λ Q q=>qh6 (b:=true) rfl q) (λ _=>qf7 (qj2 (p:=growD false a.Cb a.Cc a.Ca n c g d h) rfl (qd2 rfl) (qc2 (x:=.int k) rfl (qb5 (qa2 (a:=D.int k) rfl (qa2 (a:=growD false a.Cb a.Cc a.Ca n c g d h) rfl ⟨n,c,g,d,h,S,.int k,t,rfl,s,m,G,u,KP,o,i,λ f=>?_,λ J e _=>?_⟩)))))) λ h=>nomatch h
   . rw[qe0 l] at f;cases f
   cases e;exact⟨λ z=>absurd z hin,λ _=>⟨λ _=>qa2 (a:=[growD false a.Cb a.Cc a.Ca n c g d h,.str "put",.int k,.unk]) rfl (v _ _ (M8 T.F4 (Lq T.Er (qs9 rfl rfl (.tail _ (.head _)) T.Ec T.Dl rfl q)))),λ z=>by lia⟩⟩
 refine Gy false (λ Q q=>qh6 (b:=false) rfl q) (λ h=>nomatch h) λ _=>qf7 (qj2 (p:=growD false a.Cb a.Cc a.Ca n c g d h) rfl (qd2 rfl) (qc2 (x:=.int k) rfl (qb5 (qa2 (a:=D.int k) rfl (qa2 (a:=growD false a.Cb a.Cc a.Ca n c g d h) rfl ⟨n,c,g,d,h,S,.int k,t,rfl,s,m,G,u,KP,i,λ f=>?_,λ J e _=>?_⟩)))))
 . rw[qe0 l] at f;cases f
 cases e;exact⟨λ _=>qa2 (a:=[growD false a.Cb a.Cc a.Ca n c g d h,.str "take",.int k,.unk]) rfl (v _ _ (M8 T.Ee (M8 T.Dy (Lq T.D5 (qs9 rfl rfl (.tail _ (.tail _ (.tail _ (.head _)))) T.Eh T.Dg rfl q))))),λ z=>absurd z hin⟩
theorem qQ9:qa8 ["_law_homes", "_law_e"] ["_law_homes"] (qa3 qae2):=by walk_at "s"
def qaw5:VSp:=λ ds Q _=>∃ x t,ds=[x]/\x.kind=some t/\x.lstOk Hb=true/\((x.homesB=false/\Q (.tup [.str "wrong",.int 0]) ds)∨∃ z ps,x=.lst z (prD ps)/\qx6 ps/\Q (.tup [.str "told",.int 0]) ds)
theorem qag1(T:Txt K mg a):VFn P w K mg base 14 a.f50 a.d50 ["_law_homes"] qaw5:=by
 refine VFn.mk2 T.d50.F qQ9 (wOf [true]) (λ f Q Q' c k g _ h=>by obtain⟨x,t,e,l,m,h⟩:=h;exact⟨x,t,e,l,m,h.imp (And.imp_right (g _ _)) λ ⟨z,b,e,G,q⟩=>⟨z,b,e,G,g _ _ q⟩⟩) (λ f Q c ⟨x,t,e,_⟩=>by rw[e];exact⟨rfl,rfl⟩) (λ n A outer v H E y d=>⟨_,(Ab (stryW (λ E' c B o=>(Ae (Bf (Kx T.Cd T.Ey T.d39 (qp1 T) o (rm d) (vaN 0 Aa)))))
     (Mw 1 qQ9.nd T.D8 T.Cp (λ p=>(Ae (Ak (Ix (vaV (Ah T.d48 (qv4 T) qF5 (rm (d.mark _)) (vaN 1 Aa)) (vaV (K3 (K:=K) rfl (vnm 1)) Aa))))))
     (Mw 1 qQ9.nd T.Dw T.Ef (λ p=>(Ae (Ak (Ix (vaV (Ah T.d48 (qv4 T) qF5 (rm (d.mark _)) (vaN 1 Aa)) (vaV (qa4 Ac) Aa))))))
     vhnil)))
     (Ae (Ak (qa4 (Bb (qa1 A4 (qa1 Ac qa6 rfl) rfl)))))),λ f Q c h=>?_⟩)
 obtain⟨x,t,rfl,i,r,h⟩:=h;have j:=qb9 i;refine At [x,.unk] rfl ?_;refine qar4 λ N X s u=>(qf7 (qM4 (qc2 (x:=x) (qd8 rfl j) (qb5 (qa2 (a:=x) (qd8 rfl j) ⟨x,t,rfl,i,r,?_⟩)))))
 rcases h with⟨hb,q⟩ | ⟨z,b,rfl,G,q⟩
 . exact .inl ⟨hb,qa2 (a:=[x,.unk]) rfl (u _ _ (Lq T.D7 (qs9 rfl rfl (.head _) T.D8 T.Db rfl q)))⟩
 exact .inr ⟨z,b,rfl,G,rfl,qa2 (a:=growD false a.Cb a.Cc a.Ca 4 b (λ _=>none) [] 0) rfl (qa2 (a:=[.lst z (prD b),.unk]) rfl (s [.lst z (prD b),.unk] (qi8 (.tup [.str "told",.int 0]) rfl q)))⟩
theorem qar8:qa8 ["_law_bag_here", "_law_odd_here"] ["_law_bag_here"] (qa3 qaw7):=by walk_at "s"
noncomputable def Na(u v:Int):Ds:=[.non,.str "1",.bl true,.bl false,.int (0 - 1 - u),.int (1000000000000000000+1+v),.tup [.int 1],.lst true [.int 0],.dct true [],.str ""]
def K4(x:D):Prop:=x.imm=true/\x.num=false/\(∃ t,x.kind=some t)/\x.fz=x
theorem qaz1{u v:Int}(a:0<=u)(b:0<=v)(h:x∈Na u v):K4 x:=by
 simp only[Na,zAl,zB7,or_false] at h;rcases h with rfl | rfl | rfl | rfl | rfl | rfl | rfl | rfl | rfl | rfl
 case inr.inr.inr.inr.inl=>exact⟨rfl,by show (decide (0<=0 - 1 - u)&&_)=false;rw[zB0 (by lia)];rfl,⟨_,rfl⟩,rfl⟩
 case inr.inr.inr.inr.inr.inl=>exact⟨rfl,by show (_&&decide (1000000000000000000+1+v<=1000000000000000000))=false;rw[zB0 (p:=1000000000000000000+1+v<=1000000000000000000) (by lia),zBg],⟨_,rfl⟩,rfl⟩
 all_goals exact⟨rfl,rfl,⟨_,rfl⟩,rfl⟩
def qaE9:VSp:=λ ds Q _=>∃ b a,ds=[b]/\isBag a b/\∀ c x,isBag a c->K4 x->Q x [c]
theorem qag0(T:Txt K mg a):VFn P w K mg base 2 a.f51 a.d51 ["_law_bag_here"] qaE9:=by
 refine VFn.mk2 T.d51.F qar8 (wOf [true]) (λ c Q Q' k m n _ ⟨b,g,e,o,q⟩=>⟨b,g,e,o,λ f x p r=>n _ _ (q f x p r)⟩) (λ c Q k ⟨b,g,e,_⟩=>by rw[e];exact⟨rfl,rfl⟩) (λ s A outer R H E S j=>⟨_,(Ab (Al 1 qar8.nd (Iw (vaV (Bh (qa4 A8)) (vaV (Bh (qa4 A4)) (vaV (Bh (qa4 vbl)) (vaV (Bh (qa4 vbl)) (vaV (Bh (e2 (Af qL8) qL7 (qa4 (v2 (Af qL8) qL7 Ac Ac)) (Ah T.d47 (qd9 T) qa0 (rm j) (vaN 0 (vaV (qa4 Ac) Aa))))) (vaV (Bh (e2 (Af qg6) qg5 (qa4 (v2 (Af qg6) qg5 (vpow 1000000000000000000) Ac)) (Ah T.d47 (qd9 T) qa0 (rm j) (vaN 0 (vaV (qa4 Ac) Aa))))) (vaV (Bh (qa4 (Bb (qa1 Ac qa6 rfl)))) (vaV (Bh (qa4 (Gq (qa1 Ac qa6 rfl)))) (vaV (Bh (qa4 vdct0)) (vaV (Bh (qa4 A4)) Aa))))))))))))
     (Ae (Ak (e2nP 1 (A9 qd1) Aq (Ah T.d47 (qd9 T) qa0 (rm j) (vaN 0 (vaV (qa4 Ac) Aa))))))),λ c Q k h=>?_⟩)
 obtain⟨b,g,rfl,B,q⟩:=h;refine At [b,.unk] rfl ?_;refine qd3 (λ c=>∃ b u v,c=[b,.lst false (Na u v)]/\isBag g b/\0<=u/\0<=v) (λ K t=>?_) ?_
 . refine qj5 (qx4 ?_)
   refine qe4 (y:=.non) rfl ?_;refine qe4 (y:=.str "1") rfl ?_;refine qe4 (y:=.bl true) rfl ?_;refine qe4 (y:=.bl false) rfl ?_;refine qf6 (Jl (M4 (x:=.int (0 - 1)) rfl (qd5 (ds:=[b,.unk]) rfl B rfl (by decide) (by decide) λ u f z U B'=>qa2 (a:=D.int (0 - 1 - u)) rfl ?_)));refine qf6 (Jl (M4 (x:=.int (1000000000000000000+1)) rfl (qd5 (ds:=[f,.unk]) rfl B' rfl (by decide) (by decide) λ v C G V B2=>qa2 (a:=D.int (1000000000000000000+1+v)) rfl ?_)));refine qe4 (y:=.tup [.int 1]) rfl ?_;refine qe4 (y:=.lst false [.int 0]) rfl ?_;refine qe4 (y:=.dct false []) rfl ?_;refine qe4 (y:=.str "") rfl ?_;exact qb5 ⟨by show 10<=1000000;decide,t _ ⟨C,u,v,rfl,B2,z,G⟩⟩
 rintro c ⟨b,u,v,rfl,B,I,J⟩;refine qe6 ⟨rfl,?_⟩;refine qd5 (ds:=[b,.lst false (Na u v)]) rfl B rfl (by decide) (by decide) λ i f L M B'=>?_
 obtain⟨d,N,O⟩:=qC3 (xs:=Na u v) (i:=i) L M;have l:=qaz1 I J N;exact qa2 (a:=d) O ⟨l.1,q f d B' l⟩
theorem qd0:qa8 ["_law_bag_here", "_law_way", "_law_homes", "_law_at", "_law_other"] ["_law_bag_here"] (qa3 qq1):=by walk_at "s"
theorem qaC9:Gn ys (some (r:Int)) none=ys.drop r:=by
 unfold Gn;rw[HT.qae3,HT.qR1];by_cases h:r<=ys.length
 . rw[Nat.min_eq_left h]
   exact zBn (by rw[zBu];lia)
 rw[Nat.min_eq_right (by lia),List.drop_eq_nil_of_le (zA3 _),List.drop_eq_nil_of_le (by lia),List.take_nil]
theorem Nb{z:Bool}{ps:Pr}{j:Int}(h:0<=j):gSl (.lst z (prD ps)) none (some j)=some (.lst false (prD (ps.take j.toNat))):=by
 have e:Gn (prD ps) none (some j)=prD (ps.take j.toNat):=by
   rw[show j=((j.toNat:Nat):Int) by lia,qX7,Int.toNat_natCast];unfold prD;rw[List.map_take]
 show gd (D.imms (Gn (prD ps) none (some j))=true) (.lst false (Gn (prD ps) none (some j)))=_;rw[e];exact qh9 (ql6 _)
theorem sl_hi{z:Bool}{ps:Pr}{j:Int}(h:0<=j):gSl (.lst z (prD ps)) (some j) none=some (.lst false (prD (ps.drop j.toNat))):=by
 have e:Gn (prD ps) (some j) none=prD (ps.drop j.toNat):=by
   rw[show j=((j.toNat:Nat):Int) by lia,qaC9,Int.toNat_natCast];unfold prD;rw[List.map_drop]
 show gd (D.imms (Gn (prD ps) (some j) none)=true) (.lst false (Gn (prD ps) (some j) none))=_;rw[e];exact qh9 (ql6 _)
theorem qB3(ps:Pr):(prD ps).length=ps.length:=zAf _
theorem qJ2:∀{xs ys:Ds},D.imms xs=true->D.imms ys=true->D.imms (xs++ys)=true
 | [],_,_,h=>h
 | x::xs,ys,h,h'=>by
   obtain⟨a,b⟩:=zAb.mp (show (x.imm&&D.imms xs)=true from h);show (x.imm&&D.imms (xs++ys))=true;rw[a,qJ2 b h'];rfl
theorem addA(a:y.imm=true)(h:A.length<=900):Kh (.lst false (prD A)) (.lst false [y])=some (.lst false (prD A++[y])):=qh9 ⟨ql6 A,by show (y.imm&&true)=true;rw[a];rfl,by rw[qB3];show _+1<=1000000;lia⟩
theorem addB{B:Pr}(a:y.imm=true)(h:A.length+B.length<=900):Kh (.lst false (prD A++[y])) (.lst false (prD B))=some (.lst false (prD A++[y]++prD B)):=qh9 ⟨qJ2 (ql6 A) (by show (y.imm&&true)=true;rw[a];rfl),ql6 B,by rw[zA7,qB3,qB3];show _+1+_<=1000000;lia⟩
theorem qm7(o:K4 x):((D.tup [x,.int 5]).fz=.tup [x,.int 5]/\Hb (.tup [x,.int 5])=true/\(D.tup [x,.int 5]).imm=true/\(D.tup [x,.int 5]).pairB=false)/\(D.tup [.int 5,x]).fz=.tup [.int 5,x]/\Hb (.tup [.int 5,x])=true/\(D.tup [.int 5,x]).imm=true/\(D.tup [.int 5,x]).pairB=false:=by
 obtain⟨a,b,⟨t,c⟩,d⟩:=o;refine⟨⟨?_,?_,?_,?_⟩,?_,?_,?_,?_⟩
 . show D.tup [x.fz,.int 5]=_;rw[d]
 . show (true&&(((x.kind.isSome&&x.imm)&&(true&&true))&&true))=true;rw[c,a];rfl
 . show (x.imm&&true)=true;rw[a];rfl
 . show (x.num&&_)=false;rw[b];rfl
 . show D.tup [.int 5,x.fz]=_;rw[d]
 . show (true&&((true&&((x.kind.isSome&&x.imm)&&true))&&true))=true;rw[c,a];rfl
 . show (true&&(x.imm&&true))=true;rw[a];rfl
 show ((D.int 5).num&&x.num)=false;rw[b,zBg]
def BadH(x:D):Prop:=(∃ t,x.kind=some t)/\x.lstOk Hb=true/\x.homesB=false
theorem qav4{B:Pr}(b:Hb y=true)(c:y.imm=true)(l:A.length+B.length<=900)(h:y.pairB=false∨∃ k m,y=.tup [.int k,.int m]/\k∈B.map (·.1)):BadH (.lst false (prD A++[y]++prD B)):=by
 refine⟨⟨_,rfl⟩,?_,?_⟩
 . show (D.imms _&&List.all _ Hb&&decide _)=true
   rw[qJ2 (qJ2 (ql6 _) (by show (y.imm&&true)=true;rw[c];rfl)) (ql6 _),List.all_append,List.all_append,M6,M6,zAo (by rw[zA7,zA7,qB3,qB3];show _+1+_<=1000;lia)];show (true&&((true&&(Hb y&&true))&&true)&&true)=true;rw[b];rfl
 show (decide _&&(List.all _ D.pairB&&decide _))=false;rcases h with h | ⟨k,m,rfl,d⟩
 . rw[List.all_append,List.all_append]
   have:[y].all D.pairB=false:=by show (y.pairB&&true)=false;rw[h];rfl
   rw[this,zBg,Bool.false_and,Bool.false_and,zBg]
 have a:¬ ((prD A++[D.tup [.int k,.int m]]++prD B).filterMap Ke).Nodup:=λ a=>by
   rw[List.filterMap_append,List.filterMap_append,qM8,qM8] at a;exact(List.nodup_append.mp a).2.2 k (zAu _ zAe) k d rfl
 rw[zB0 a,zBg,zBg]
def qK8:VSp:=λ ds Q _=>∃ b a,ds=[b]/\isBag a b/\∀ c x,isBag a c->BadH x->Q x [c]
theorem qM1(T:Txt K mg a):VFn P w K mg base 3 a.f52 a.d52 ["_law_bag_here"] qK8:=by
 refine VFn.mk2 T.d52.F qd0 (wOf [true]) (λ f Q Q' xe a0 hQ _ ⟨b,r,e,h1,q⟩=>⟨b,r,e,h1,λ l x a1 a2=>hQ _ _ (q l x a1 a2)⟩) (λ f Q xe ⟨b,r,e,_⟩=>by rw[e];exact⟨rfl,rfl⟩) (λ a3 A outer sh H E G k=>⟨_,(Ab (Al 1 qd0.nd (Ah T.d47 (qd9 T) qa0 (rm k) (vaN 0 (vaV (qa4 Ac) Aa))))
     (Ab (scR1 (NY:=["_law_k", "_law_bag_here"]) (src:=[none,some 0]) 2 qd0.nd T.Dc (Ik (vaV (e2P (A9 qd1) Aq (Iw (vaV (qa4 Ac) (vaV (e2 (Af qg6) qg5 (qa4 Ac) (Ah T.d47 (qd9 T) qa0 (rm k) (vaN 0 (vaV (qa4 Ac) Aa)))) Aa))) (Ah T.d47 (qd9 T) qa0 (rm k) (vaN 0 (vaV (qa4 Ac) Aa)))) Aa)) (blk (λ G C I H0 J=>(Bp 0 (show (["_law_k", "_law_bag_here"]:List Str).Nodup by decide +kernel))) (λ G C I H0 J=>Je) (λ G C I H0 J=>(Ix (vaV (qa4 (v2 (Af qh8) qh7 Ac (vnm 0))) (vaV (Ah T.d47 (qd9 T) qI8 (rm k) (vaN 1 (vaV (qa4 (vpow 1000000000000000000)) Aa))) Aa))))))
     (Ab (Al 3 qd0.nd (Ah T.d47 (qd9 T) qa0 (rm k) (vaN 0 (vaV (qa4 (vbi qE1 qE0.ops T.Dh (qa1 (vnm 2) qa6 rfl))) Aa))))
     (Ab (sif (q2 (Am (qv2 k.u64) (qb0 _)) Bs (vnm 1) Ac)
     (Ae (Ak (e2P (A9 qd1) Aq (Iw (vaV (Bh (qa4 A8)) (vaV (Bh (qa4 (Bb qa6))) (vaV (Bh (qa4 A4)) (vaV (Bh (qa4 vdct0)) (vaV (Bh (qa4 Ac)) (vaV (Bh (qa4 vbl)) Aa))))))) (Ah T.d47 (qd9 T) qa0 (rm k) (vaN 0 (vaV (qa4 Ac) Aa))))))
     Ap)
     (Ab (sif (q2 (Am (qv2 k.u64) (qb0 _)) Bs (vnm 1) Ac)
     (Ae (Ak (ecR1 (NY:=["_law_k"]) (src:=[none]) T.Dc (Ik (vaV (qa4 Ac) Aa)) (blk (λ G C I H0 J=>(Bp 0 (show (["_law_k"]:List Str).Nodup by decide +kernel))) (λ G C I H0 J=>Je) (λ G C I H0 J=>(qa4 (Bb (qa1 (v2 (Af qh8) qh7 Ac (vnm 0)) (qa1 (vnm 0) qa6 rfl) rfl))))))))
     Ap)
     (Ab (sif (q2 (Am (qv2 k.u64) (qb0 _)) Bs (vnm 1) Ac)
     (Ab (Al 2 qd0.nd (qa4 (vsl (vnm 2) I8 (I9 Ac))))
     (Ab (Al 3 qd0.nd (qa4 (v2 (Af qx2) qx0 (vnm 3) (vbi qE1 qE0.ops T.Dh (qa1 (vnm 2) qa6 rfl)))))
     (Ae (Ak (qa4 (v2 (Af qg6) qg5 (v2 (Af qg6) qg5 (vsl (vnm 2) I8 (I9 (vnm 3))) (Gq (qa1 (Bb (qa1 (v2 (A9 qd1) Aq (v2 (A9 qd1) Aq (vnm 2) (vnm 3)) Ac) (qa1 Ac qa6 rfl) rfl)) qa6 rfl))) (vsl (vnm 2) (I9 (vnm 3)) I8)))))))
     Ap)
     (Ab (Al 4 qd0.nd (e2P (A9 qd1) Aq (Iw (vaV (Bh (Ix (vaV (Ah T.d51 (qag0 T) qa0 (rm k) (vaN 0 Aa)) (vaV (qa4 Ac) Aa)))) (vaV (Bh (Ix (vaV (qa4 Ac) (vaV (Ah T.d51 (qag0 T) qa0 (rm k) (vaN 0 Aa)) Aa)))) (vaV (Bh (qa4 (Bb (qa1 Ac qa6 rfl)))) (vaV (Bh (qa4 (Bb (qa1 Ac (qa1 Ac (qa1 Ac qa6 rfl) rfl) rfl)))) (vaV (Bh (qa4 (Gq (qa1 Ac (qa1 Ac qa6 rfl) rfl)))) (vaV (Bh (qa4 Ac)) (vaV (Bh (qa4 A8)) Aa)))))))) (Ah T.d47 (qd9 T) qa0 (rm k) (vaN 0 (vaV (qa4 Ac) Aa)))))
     (Ae (Ak (qa4 (v2 (Af qg6) qg5 (v2 (Af qg6) qg5 (vsl (vnm 2) I8 (I9 (vnm 3))) (Gq (qa1 (vnm 4) qa6 rfl))) (vsl (vnm 2) (I9 (v2 (Af qg6) qg5 (vnm 3) Ac)) I8)))))))))))),λ f Q xe h=>?_⟩)
 obtain⟨b,r,rfl,B,q⟩:=h;refine At [b,.unk,.unk,.unk,.unk] rfl ?_;refine qd3 (λ f=>∃ b w,f=[b,.int w,.unk,.unk,.unk]/\isBag r b) (λ K n=>?_) ?_
 . exact qd5 rfl B rfl (by decide) (by decide) λ v l s t B'=>n _ ⟨l,v,rfl,B'⟩
 rintro f ⟨b,way,rfl,B⟩;refine qd3 (λ f=>∃ b c,f=[b,.int way,.lst false (prD c),.unk,.unk]/\isBag r b/\1<=c.length/\c.length<=64) (λ K n=>?_) ?_
 . refine qaD0 (qf6 (qam3 (qx4 ?_)))
   refine qc3 (y:=.int 64) rfl (qf6 (M4 (x:=.int 1) rfl (qd5 (ds:=[b,.int way,.unk,.unk,.unk]) rfl B rfl (by decide) (by decide) λ u L u0 u1 B1=>qa2 (a:=D.int (1+u)) rfl (qb5 ⟨by show 2<=1000000;decide,?_⟩))));refine qd5 (ds:=[L,.int way,.unk,.unk,.unk]) rfl B1 rfl (by decide) (by decide) λ v M s t B2=>?_
   obtain⟨m,hm,m1,m2⟩:∃ m:Int,gIx (.lst false [.int 64,.int (1+u)]) (.int v)=some (.int m)/\1<=m/\m<=64:=by
     have:v=0∨v=1:=by lia
     rcases this with rfl | rfl
     . exact⟨64,rfl,by decide,by decide⟩
     exact⟨1+u,rfl,by lia,by lia⟩
   refine qa2 hm (qb5 (qa2 (a:=m) rfl ⟨Lm (by lia) (by lia),?_⟩));show Hg _ _ _ (λ g ι'=>K ((Ho [none,some 0] ι' [.unk,.int way,.unk,.unk,.unk]).set 2 (.lst false g))) (Bl 0 m.toNat) [] [.unk,M];refine qY2 (λ i g ι=>∃ c b d,g=prD c/\c.length=i/\ι=[d,b]/\isBag r b) _ 0 [] _ ⟨[],M,_,rfl,rfl,rfl,B2⟩ ?_ ?_
   . rintro i x X g ι ⟨c,b,d,rfl,o,rfl,B⟩ R Y
     obtain⟨hi,rfl⟩:=qZ9 X;refine Ln (qal5 (Gx rfl (M5 (qc3 (y:=.int (3 * (i:Int))) (show Go (.int 3) (.int (i:Int))=_ from Km (by decide)) (qf6 ?_)))));refine qd5 (ds:=[.int (i:Int),b]) rfl B rfl (by decide) (by decide) λ v l s t B'=>qb5 ⟨by show 2<=1000000;decide,by rw[qB3];unfold big;lia,Y _ _ ⟨c++[(3 * (i:Int),v)],l,_,?_,by rw[zA7,o];rfl,rfl,B'⟩⟩
     unfold prD;rw[zBl];rfl
   rintro g ι ⟨c,b,d,rfl,o,rfl,B⟩;rw[zB9,qM5] at o;exact n _ ⟨b,c,rfl,B,by lia,by lia⟩
 rintro f ⟨b,c,rfl,B,l1,l2⟩;refine qd3 (λ f=>∃ b j,f=[b,.int way,.lst false (prD c),.int j,.unk]/\isBag r b/\0<=j/\j < (c.length:Nat)) (λ K n=>?_) ?_
 . refine qj5 (qd5 (m:=(c.length:Nat)) rfl B (by show some (D.int ((prD c).length:Nat))=_;rw[qB3]) (by lia) (by lia) λ v l s t B'=>n _ ⟨l,v,rfl,B',s,t⟩)
 rintro f ⟨b,j,rfl,B,O,j1⟩;refine qj3 (decide (way=0)) rfl (λ _=>?_) λ _=>?_
 . refine qe6 (qam3 (qx4 ?_))
   refine qe4 (y:=.non) rfl ?_;refine qe4 (y:=.tup []) rfl ?_;refine qe4 (y:=.str "a") rfl ?_;refine qe4 (y:=.dct false []) rfl ?_;refine qe4 (y:=.int 5) rfl ?_;refine qe4 (y:=.bl true) rfl ?_;refine qb5 ⟨by show 6<=1000000;decide,?_⟩;refine qd5 (ds:=[b,.int way,.lst false (prD c),.int j,.unk]) rfl B rfl (by decide) (by decide) λ v l s t B'=>?_
   obtain⟨d,N,Z⟩:=qC3 (xs:=[D.non,.tup [],.str "a",.dct true [],.int 5,.bl true]) (i:=v) s t;refine qa2 (a:=d) Z ?_;simp only[zAl,zB7,or_false] at N;rcases N with rfl | rfl | rfl | rfl | rfl | rfl<;>exact q l _ B' ⟨⟨_,rfl⟩,rfl,rfl⟩
 refine qj3 (decide (way=1)) rfl (λ _=>?_) λ _=>?_
 . refine qe6 (qaD0 (qc3 (y:=.int 65) rfl (qb5 (qa2 (a:=(65:Int)) rfl ⟨rfl,?_⟩))))
   refine qY2 (λ i g ι=>∃ c d,g=prD c/\c.length=i/\ι=[d]) _ 0 [] _ ⟨[],_,rfl,rfl,rfl⟩ ?_ ?_
   . rintro i x X g ι ⟨c,d,rfl,o,rfl⟩ R Y
     obtain⟨hi,rfl⟩:=qZ9 X;refine Ln (qal5 (Gx rfl (qq3 (d:=.tup [.int (3 * (i:Int)),.int (i:Int)]) (qK3 (x:=.int (3 * (i:Int))) (show Go (.int 3) (.int (i:Int))=_ from Km (by decide)) rfl rfl rfl) ⟨by rw[qB3];unfold big;lia,Y _ _ ⟨c++[(3 * (i:Int),(i:Int))],_,?_,by rw[zA7,o];rfl,rfl⟩⟩)));unfold prD;rw[zBl];rfl
   rintro g ι ⟨c,d,rfl,o,rfl⟩;rw[zB9,qM5] at o;have o:c.length=65:=o;refine q b _ B ⟨⟨_,rfl⟩,?_,?_⟩
   . show (D.imms _&&List.all _ Hb&&decide _)=true
     rw[ql6,M6,zAo (by rw[qB3];lia)];rfl
   show (decide _&&_)=false;rw[zB0 (by rw[qB3];lia)];rfl
 refine qj3 (decide (way=2)) rfl (λ _=>?_) λ _=>?_
 . refine qb6 [b,.int way,.lst false (prD (c.take 63)),.int j,.unk] (λ K n=>qU8 (by show gSl (.lst false (prD c)) none (some 63)=_;rw[Nb (by decide)];rfl) n) ?_
   have o:(c.take 63).length<=63/\1<=(c.take 63).length:=by rw[zB6];lia
   generalize c.take 63=c at o;refine qd3 (λ f=>∃ j,f=[b,.int way,.lst false (prD c),.int j,.unk]/\0<=j/\j < (c.length:Nat)) (λ K n=>?_) ?_
   . refine qU8 (d:=.int (j % (c.length:Nat))) (f2_of (x:=.int j) (y:=.int (c.length:Nat)) rfl (by show some (D.int ((prD c).length:Nat))=_;rw[qB3]) (Iz (by lia))) (n _ ⟨_,rfl,zBx _ (by lia),zBp _ (by lia)⟩)
   rintro f ⟨j,rfl,O,j1⟩;obtain⟨p,S⟩:∃ p,c[j.toNat]? = some p:=⟨_,zBs (by lia)⟩
   refine qi8 (.lst false (prD (c.take j.toNat)++[.tup [.int p.1,.int 5]]++prD (c.drop j.toNat))) ?_ (q b _ B (qav4 rfl rfl (by rw[zB6,zBu];lia) (.inr ⟨_,_,rfl,?_⟩)))
   . have hv:f2 gIx (f2 gIx (rdN 2) (rdN 3)) (kC (.int 0)) [b,.int way,.lst false (prD c),.int j,.unk]=some (.int p.1):=by
       refine f2_of (x:=.tup [.int p.1,.int p.2]) (f2_of (x:=.lst false (prD c)) (y:=.int j) rfl rfl ?_) rfl rfl;rw[show j=((j.toNat:Nat):Int) by lia];exact qY9 (by unfold prD;rw[zB3,S];rfl)
     refine f2_of (f2_of (x:=.lst false (prD (c.take j.toNat))) (y:=.lst false [.tup [.int p.1,.int 5]]) (Nb (z:=false) O) ?_ (addA rfl (by rw[zB6];lia))) (sl_hi (z:=false) O) (addB rfl (by rw[zB6,zBu];lia));show ((Bc gTup (Aw (f2 gIx (f2 gIx (rdN 2) (rdN 3)) (kC (.int 0))) (Aw (kC (.int 5)) λ _=>some [])) [b,.int way,.lst false (prD c),.int j,.unk]).bind λ x=>Option.bind (some []) λ xs=>some (x::xs)).bind gLst=_;rw[qK3 hv rfl rfl rfl];rfl
   rw[zBb];exact⟨p,by rw[List.mem_iff_getElem?];exact⟨0,by rw[List.getElem?_drop];exact S⟩,rfl⟩
 refine qd3 (λ f=>∃ b y,f=[b,.int way,.lst false (prD c),.int j,y]/\isBag r b/\y.imm=true/\y.known=true/\Hb y=true/\y.pairB=false) (λ K n=>?_) ?_
 . refine qj5 (qam3 (qx4 ?_))
   refine qf6 (Jl (M5 (qf6 (qE2 (x:=b) (qd8 rfl B.known) ⟨b,r,rfl,B,λ L x1 B1 U=>qa2 (a:=[L,.int way,.lst false (prD c),.int j,.unk]) rfl (qc3 (y:=.int 5) rfl (qb5 ⟨by show 2<=1000000;decide,?_⟩))⟩))));refine qf6 (Jl (M5 (qc3 (y:=.int 5) rfl (qf6 (qE2 (x:=L) (qd8 rfl B1.known) ⟨L,r,rfl,B1,λ M x2 B2 V=>qa2 (a:=[M,.int way,.lst false (prD c),.int j,.unk]) rfl (qb5 ⟨by show 2<=1000000;decide,?_⟩)⟩)))));refine qe4 (y:=.tup [.int 5]) rfl ?_;refine qe4 (y:=.tup [.int 5,.int 6,.int 7]) rfl ?_;refine qe4 (y:=.lst false [.int 5,.int 6]) rfl ?_;refine qe4 (y:=.int 5) rfl ?_;refine qe4 (y:=.non) rfl ?_;refine qb5 ⟨by show 7<=1000000;decide,?_⟩;refine qd5 (ds:=[M,.int way,.lst false (prD c),.int j,.unk]) rfl B2 rfl (by decide) (by decide) λ v l s t B'=>?_
   rw[(qm7 U).1.1,(qm7 V).2.1];obtain⟨d,N,Z⟩:=qC3 (xs:=[D.tup [x1,.int 5],.tup [.int 5,x2],.tup [.int 5],.tup [.int 5,.int 6,.int 7],.lst true [.int 5,.int 6],.int 5,.non]) (i:=v) s t;refine qa2 (a:=d) Z (n _ ⟨l,d,rfl,B',?_⟩);simp only[zAl,zB7,or_false] at N;rcases N with rfl | rfl | rfl | rfl | rfl | rfl | rfl
   . exact⟨(qm7 U).1.2.2.1,rfl,(qm7 U).1.2.1,(qm7 U).1.2.2.2⟩
   . exact⟨(qm7 V).2.2.2.1,rfl,(qm7 V).2.2.1,(qm7 V).2.2.2.2⟩
   all_goals exact⟨rfl,rfl,rfl,rfl⟩
 rintro f ⟨b,y,rfl,B,W,yk,hy,S⟩;refine qi8 (.lst false (prD (c.take j.toNat)++[y]++prD (c.drop (j+1).toNat))) ?_ (q b _ B (qav4 hy W (by rw[zB6,zBu];lia) (.inl S)));refine f2_of (f2_of (x:=.lst false (prD (c.take j.toNat))) (y:=.lst false [y]) (Nb (z:=false) O) ?_ (addA W (by rw[zB6];lia))) (sl_hi (z:=false) (by lia)) (addB W (by rw[zB6,zBu];lia));unfold Bc Aw;rw[qd8 (d:=y) rfl yk];exact qh9 ⟨by show (y.imm&&true)=true;rw[W];rfl,by show 1<=1000000;decide⟩
theorem qm0:qa8 ["_law_script", "_law_bag_here", "_law_many", "_law_step", "_law_row", "_law_edge", "_law_first", "_law_k", "_law_state", "_law_there", "_law_odd_here", "_law_rows", "_law_word", "_law_key", "_law_due"] ["_law_script"] (qa3 Kd):=by walk_at "s"
abbrev gF(a:Adr)(n:Int)(g:Nat->Option Int)(dn:Ds)(h:Int):D:=growD false a.Cb a.Cc a.Ca n [] g dn h
theorem qm9:qx6 []:=⟨zBk _,List.nodup_nil,nofun⟩
theorem qaB6{f2:FV}{g:VTG}{n m:Int}(h:f ds=some (.int n))(h2:f2 ds=some (.int m))(b:Ij n=true)(h1:Ij m=true)(k:Gr g t e (Bl n (m - n).toNat) ds):qaF3 (Mu (tbV (Br f) (tbV (Br f2) Av))) g t e ds:=qa2 (a:=D.int n) h ⟨rfl,qa2 (a:=D.int m) h2 ⟨rfl,b,h1,k⟩⟩
theorem or_to{t u:VTT}{Q:Bool->Ds->Prop}(h:t ds (λ k ds1=>if k=true then Q true ds1 else u ds1 Q xe) xe):ttOr t u ds Q xe:=h
theorem qaB2{k:Nat}{z:D}{K:Ds->Prop}(h:K (((ds.set i x).set j y).set k z)):Mm 3 (Lh (gNm i) (Lh (gNm j) (Lh (gNm k) Mj))) (.tup [x,y,z]) ds K:=⟨rfl,h⟩
theorem qU1{fc:FV}{z:D}(a:fa ds=some x)(b:fb ds=some y)(c:fc ds=some z)(h:D.imms [x,y,z]=true):Bc gTup (Aw fa (Aw fb (Aw fc λ _=>some []))) ds=some (.tup [x,y,z]):=by
 unfold Bc Aw;rw[a,b,c];exact qh9 ⟨h,by show 3<=1000000;decide⟩
theorem qaJ9{fc:FV}{z:D}(a:fa ds=some x)(b:fb ds=some y)(c:fc ds=some z)(h:D.imms [x,y,z]=true):Bc gLst (Aw fa (Aw fb (Aw fc λ _=>some []))) ds=some (.lst false [x,y,z]):=by
 unfold Bc Aw;rw[a,b,c];exact qh9 ⟨h,by show 3<=1000000;decide⟩
theorem qaJ2{CG C CP:Addr}{n:Int}{g:Nat->Option Int}{dn:Ds}{h:Int}(b:ds[4]? = some (growD false CG C CP n [] g dn h))(c:1<=n)(d:n<=64)(e:∀ k∈S,Ag k)(KP:Kept n.toNat true (hmOf n []) g S)(q:Q (rowD false C CP n true [] g []) ds):qr4 CG "row_now" (qf1 CG C CP) [] 4 Av ds Q xe:=by
 refine qj2 (p:=growD false CG C CP n [] g dn h) (qd8 b rfl) (qd2 rfl) (qb5 (qa2 (a:=growD false CG C CP n [] g dn h) (qd8 b rfl) ⟨n,[],g,dn,h,S,rfl,c,d,qm9,e,KP,?_⟩));refine qa2 (a:=(ds.set 4 .unk).set 4 (growD false CG C CP n [] g dn h)) rfl ?_;rw[List.set_set,qad6 b];exact q
theorem qad0{CG C CP:Addr}{n:Int}{g:Nat->Option Int}{dn:Ds}{h:Int}(b:ds[4]? = some (growD false CG C CP n [] g dn h))(e:1<=n)(f:n<=64)(i:∀ k∈S,Ag k)(KP:Kept n.toNat true (hmOf n []) g S)(q:Q (.lst false [.lst false (rlD n.toNat g),.int n,.int h]) ds) :
   Mh (tbV (qac8 C "rooms_held" (ql2 C CP) (qr4 CG "row_now" (qf1 CG C CP) [] 4 Av)) (tbV (qr4 CG "rooms_now" (qg9 CG C CP) [] 4 Av) (tbV (qr4 CG "anew" (qo3 CG C CP) [] 4 Av) Av))) ds Q xe:=by
 have c:Aj [.sl 4] [growD false CG C CP n [] g dn h] (ds.set 4 .unk)=some ds:=by
   show some ((ds.set 4 .unk).set 4 (growD false CG C CP n [] g dn h))=_;rw[List.set_set,qad6 b]
 refine qx4 (qf6 (qaJ2 b e f i KP ⟨qm8 rfl,_,⟨false,n,true,[],g,[],rfl,rfl⟩,qa2 (a:=ds) rfl ?_⟩));refine qf6 (qS2 (p:=growD false CG C CP n [] g dn h) (d:=.int n) (qd8 b rfl) (qd2 rfl) ⟨false,n,[],g,dn,h,rfl,rfl⟩ c ?_);exact qf6 (qS2 (p:=growD false CG C CP n [] g dn h) (d:=.int h) (qd8 b rfl) (qd2 rfl) ⟨false,n,[],g,dn,h,rfl,rfl⟩ c (qb5 ⟨by show 3<=1000000;decide,q⟩))
theorem Lr{s:Int}(h1:1<=s)(h2:s<=1000000000000000)(c:0<=k)(d:k<=64):Ag (s * k):=by
 have a:=Int.mul_nonneg (show 0<=s by lia) c;have b:=Int.mul_le_mul h2 d c (by decide);exact⟨a,Int.le_trans b (by decide)⟩
theorem inS{s:Int}(h1:1<=s)(e:s * (i:Int)=s * (j:Int)):i=j:=by
 have:=Int.eq_of_mul_eq_mul_left (show s≠0 by lia) e
 lia
theorem farS{s:Int}(h1:1<=s)(a:j<=64):65 * s+1≠s * (j:Int):=λ e=>by
 have b:s * (j:Int)<=s * 64:=Int.mul_le_mul_of_nonneg_left (by lia) (by lia);lia
def K5(S:List Int)(y:D):Prop:=∃ w x t r,y=.tup [.str w,x,r]/\y.imm=true/\x.kind=some t/\askR S w x r/\okN 21 r=true/\r.known=true
theorem qar0{S:List Int}:∀{L:Ds},(∀ y∈L,K5 S y)->D.imms L=true
 | [],_=>rfl
 | y::r,h=>by
   obtain⟨_,_,_,_,_,a,_⟩:=h y zAe;show (y.imm&&D.imms r)=true;rw[a,qar0 λ z b=>h z (zA6 _ b)];rfl
theorem qaS1(T:Txt K mg a):B7 P w K mg base (CX1 P w) 17 a.f53 a.d53 ["_law_script"] (Kt K):=by
 refine T.d53.F.okX qm0 (λ vs H Q E h=>?_) (λ b8 A outer s H vs Q E f h=>?_)
 . obtain⟨l,ns,rfl,_⟩:=h
   rfl
 obtain⟨l,ns,rfl,hS,hl,k⟩:=h;refine⟨_,qae9 (sset 1 qm0.nd (callD T.d46 (qaJ0 T) (rm f) (qe3 (pv 0) qv1))) (show VSs ⟨λ _=>E,λ _=>false,List.replicate 15 none,[]⟩ (Hc true (CX1 P w) P w K mg base ["_law_script", "_law_bag_here", "_law_many", "_law_step", "_law_row", "_law_edge", "_law_first", "_law_k", "_law_state", "_law_there", "_law_odd_here", "_law_rows", "_law_word", "_law_key", "_law_due"] "law" (qa3 Kd) a.f53 b8 A outer s H E) _ _ from(Ab (sif (q2v (A5 (qr9 f.u64) (qb0 _)) (Am (qr9 f.u64) (qb0 _)) Hm (Ah T.d50 (qag1 T) qa0 (rm f) (vaV (Ah T.d52 (qM1 T) qa0 (rm f) (vaN 1 Aa)) Aa)) (Bb (qa1 A4 (qa1 Ac qa6 rfl) rfl)))
     (Ae (Ak (qa4 vbl)))
     Ap)
     (Ab (Al 2 qm0.nd (e2P (A9 qd1) Aq (Iw (vaV (qa4 Ac) (vaV (Ah T.d47 (qd9 T) qa0 (rm f) (vaN 1 (vaV (qa4 Ac) Aa))) (vaV (qa4 Ac) (vaV (e2P (A9 qd1) Aq (qa4 (Gq (qa1 Ac (qa1 Ac (qa1 Ac (qa1 Ac (qa1 Ac qa6 rfl) rfl) rfl) rfl) rfl))) (Ah T.d47 (qd9 T) qa0 (rm f) (vaN 1 (vaV (qa4 Ac) Aa)))) Aa))))) (Ah T.d47 (qd9 T) qa0 (rm f) (vaN 1 (vaV (qa4 Ac) Aa)))))
     (Ab (Al 3 qm0.nd (e2P (A9 qd1) Aq (qa4 (Gq (qa1 Ac (qa1 Ac (qa1 Ac (qa1 (vpow 1000000000000000) qa6 rfl) rfl) rfl) rfl))) (Ah T.d47 (qd9 T) qa0 (rm f) (vaN 1 (vaV (qa4 Ac) Aa)))))
     (Ab (sif (q2v (A5 (qr9 f.u64) (qb0 _)) (Am (qr9 f.u64) (qb0 _)) Hm (Ah T.d50 (qag1 T) qa0 (rm f) (vaV (ecR1 (NY:=["_law_k", "_law_step"]) (src:=[none,some 3]) T.Dc (Ik (vaV (qa4 Ac) Aa)) (blk (λ av C s0 H0 ex=>(Bp 0 (show (["_law_k", "_law_step"]:List Str).Nodup by decide +kernel))) (λ av C s0 H0 ex=>Je) (λ av C s0 H0 ex=>(qa4 (Bb (qa1 (v2 (Af qh8) qh7 (vnm 1) (vnm 0)) (qa1 Ac qa6 rfl) rfl)))))) Aa)) (Bb (qa1 A4 (qa1 Ac qa6 rfl) rfl)))
     (Ae (Ak (qa4 vbl)))
     Ap)
     (Ab (Al 4 qm0.nd (Kx T.Cd T.Ey T.d39 (qp1 T) qa0 (rm f) (vaV (qa4 (Gq qa6)) Aa)))
     (Ab (Al 5 qm0.nd (Ah T.d47 (qd9 T) qa0 (rm f) (vaN 1 (vaV (qa4 Ac) Aa))))
     (Ab (Al 6 qm0.nd (qb7 (vnm 2)))
     (Ab (sif (q2 (Am Hj (qb0 _)) Hy (vnm 5) Ac)
     (Ae (Js (qb7 (v2 (A9 qd1) Aq (Gq (qa1 (Bb (qa1 Ac (qa1 Ac qa6 rfl) rfl)) (qa1 (Bb (qa1 Ac (qa1 Ac qa6 rfl) rfl)) (qa1 (Bb (qa1 Ac (qa1 Ac qa6 rfl) rfl)) (qa1 (Bb (qa1 Ac (qa1 Ac qa6 rfl) rfl)) qa6 rfl) rfl) rfl) rfl)) (vnm 5))) (Mn (n:=2) rfl (qS7 (Bp 6 qm0.nd) (qS7 (Bp 2 qm0.nd) Ml)))))
     Ap)
     (Ab (qaw6 PassesOwn.leaving T.Dc (Ik (vaV (qb7 (vnm 6)) Aa)) (Bp 7 qm0.nd)
     (Ae (Bf (qi0 4 T.d41 T.Cd.cl (qk7 T) qa0 (rm f) (vaV (qa4 (v2 (Af qh8) qh7 (vnm 3) (vnm 7))) Aa)))))
     (Ab (qaP1 PassesOwn.leaving T.Dc (Ik (vaV (qb7 (vnm 2)) (vaV (qb7 (vnm 6)) Aa))) (Bp 7 qm0.nd)
     (Ae (Bf (qi0 4 T.d42 T.Cd.cl (qi6 T) qa0 (rm f) (vaV (qa4 (v2 (Af qh8) qh7 (vnm 3) (vnm 7))) Aa)))))
     (Ab (Al 8 qm0.nd (Iw (vaV (qX6 T.d31 T.Cm.cl (ql4 T) qa0 (rm f) (ql8 4 T.d44 T.Cd.cl (qf3 T) qa0 (rm f))) (vaV (ql8 4 T.d43 T.Cd.cl (qc5 T) qa0 (rm f)) (vaV (ql8 4 T.d45 T.Cd.cl (qp2 T) qa0 (rm f)) Aa)))))
     (Ab (Al 9 qm0.nd (e2n 3 (Af qh8) qh7 (Ah T.d47 (qd9 T) qa0 (rm f) (vaN 1 (vaV (qa4 (vbi (qaq6 rfl) qaM8.ops T.Gk (qa1 Ac (qa1 (vnm 2) qa6 rfl) rfl))) Aa)))))
     (Ab (Al 10 qm0.nd (Ah T.d51 (qag0 T) qa0 (rm f) (vaN 1 Aa)))
     (Ab (Al 11 qm0.nd (qa4 (Gq (qa1 (Bb (qa1 A4 (qa1 (vnm 10) (qa1 (Bb (qa1 A4 (qa1 Ac qa6 rfl) rfl)) qa6 rfl) rfl) rfl)) (qa1 (Bb (qa1 A4 (qa1 (vnm 10) (qa1 (Bb (qa1 A4 (qa1 Ac qa6 rfl) rfl)) qa6 rfl) rfl) rfl)) (qa1 (Bb (qa1 A4 (qa1 (v2 (Af qg6) qg5 (v2 (Af qh8) qh7 Ac (vnm 3)) Ac) (qa1 (Bb (qa1 A4 (qa1 (v2 (Af qg6) qg5 (v2 (Af qh8) qh7 Ac (vnm 3)) Ac) qa6 rfl) rfl)) qa6 rfl) rfl) rfl)) qa6 rfl) rfl) rfl))))
     (Ab (sif (q2 (Am Bq (qb0 _)) B6 (vnm 2) Ac)
     (Ae (Bf (Ka 11 qS1 PySem.F.plainAttrs_list PySem.F.slot_list_append PySem.F.type_list_append qi1 (vaV (qa4 (Bb (qa1 A4 (qa1 (vnm 9) (qa1 (Bb (qa1 A4 (qa1 (vnm 9) qa6 rfl) rfl)) qa6 rfl) rfl) rfl))) Aa))))
     Ap)
     (Ab (sif (q2 (Am (qv2 f.u64) (qb0 _)) Bs (vnm 2) Ac)
     (Ae (Bf (Ka 11 qS1 PySem.F.plainAttrs_list PySem.F.slot_list_append PySem.F.type_list_append qi1 (vaV (qa4 (Bb (qa1 A4 (qa1 (v2 (Af qg6) qg5 (v2 (Af qh8) qh7 Ac (vnm 3)) Ac) (qa1 (Bb (qa1 A4 (qa1 Ac qa6 rfl) rfl)) qa6 rfl) rfl) rfl))) Aa))))
     Ap)
     (Ab (sforL PassesOwn.leaving (qa4 (v2 (Af qg6) qg5 (vnm 11) (vnm 11))) (Mn (n:=3) rfl (qS7 (Bp 12 qm0.nd) (qS7 (Bp 13 qm0.nd) (qS7 (Bp 14 qm0.nd) Ml))))
     (Ae (sif (tor (q2v (A5 (qr9 f.u64) (qb0 _)) (Am (qr9 f.u64) (qb0 _)) Hm (Ah T.d49 (qV4 T) qa0 (rm f) (vaN 4 (vaN 12 (vaN 13 Aa)))) (vnm 14)) (Mf (q2v (A5 (qr9 f.u64) (qb0 _)) (Am (qr9 f.u64) (qb0 _)) Hm (Iw (vaV (qX6 T.d31 T.Cm.cl (ql4 T) qa0 (rm f) (ql8 4 T.d44 T.Cd.cl (qf3 T) qa0 (rm f))) (vaV (ql8 4 T.d43 T.Cd.cl (qc5 T) qa0 (rm f)) (vaV (ql8 4 T.d45 T.Cd.cl (qp2 T) qa0 (rm f)) Aa)))) (vnm 8)))).te
     (Ae (Ak (qa4 vbl)))
     Ap)))
     (Ab (sif (q2 (Am Hj (qb0 _)) Hy (vnm 2) Ac)
     (Ae (Ak (qa4 vbl)))
     Ap)
     (Ab (sif (tor (q2v (A5 (qr9 f.u64) (qb0 _)) (Am (qr9 f.u64) (qb0 _)) Hm (qi0 4 T.d42 T.Cd.cl (qi6 T) qa0 (rm f) (vaN 9 Aa)) Ac) (Mf (q2v (A5 (qr9 f.u64) (qb0 _)) (Am (qr9 f.u64) (qb0 _)) Hm (qi0 4 T.d41 T.Cd.cl (qk7 T) qa0 (rm f) (vaV (qa4 (v2 (Af qg6) qg5 (v2 (Af qh8) qh7 Ac (vnm 3)) Ac)) Aa)) Ac))).te
     (Ae (Ak (qa4 vbl)))
     Ap)
     (Ae (Ak (Jq (e2v (A5 (qv2 f.u64) (qb0 _)) Bs (Ah T.d49 (qV4 T) qa0 (rm f) (vaN 4 (vaV (qa4 A4) (vaN 9 Aa)))) (Bb (qa1 A4 (qa1 Ac qa6 rfl) rfl))) (Lg (e2v (A5 (qv2 f.u64) (qb0 _)) Bs (qX6 T.d33 T.Cm.cl (qi9 T) qa0 (rm f) (ql8 4 T.d44 T.Cd.cl (qf3 T) qa0 (rm f))) Ac))))))))))))))))))))))))).h,?_⟩
 refine⟨_,rfl,l,ns,rfl,hS,hl,λ p L H' hp hL kp B=>?_⟩;obtain⟨x,y,z,W,B⟩:=B;refine qan9 (rest:=[]) (X:=Hc true (CX1 P w) P w K mg base [] "law" (qa3 Kd) a.f53 b8 A outer s H E) (n:=13) (x:=x) (y:=y) (z:=z) (ns:=W) rfl (λ _=>rfl) rfl B.at_ B.li B.ne (λ H'=>k H') ?_;have B0:isBag W (bagD x y z W):=⟨x,y,z,rfl,B.x0,B.y0,B.y1,B.z0,B.nn⟩
 generalize bagD x y z W=b at B0;generalize V.ref l=u;refine At [D.hole u,b,.unk,.unk,.unk,.unk,.unk,.unk,.unk,.unk,.unk,.unk,.unk,.unk,.unk] rfl ?_;refine qJ3 (qD4 (qn2 (qf6 (qE2 (x:=b) (qd8 rfl B0.known) ⟨b,W,rfl,B0,λ b1 x B1 hx=>qa2 (a:=[D.hole u,b1,.unk,.unk,.unk,.unk,.unk,.unk,.unk,.unk,.unk,.unk,.unk,.unk,.unk]) rfl (qb5 ?_)⟩))));obtain⟨⟨t,ht⟩,ho,hb⟩:=hx;refine⟨x,t,rfl,ht,ho,.inl ⟨hb,qa2 (a:=[D.hole u,b1,.unk,.unk,.unk,.unk,.unk,.unk,.unk,.unk,.unk,.unk,.unk,.unk,.unk]) rfl (qa2 (a:=D.bl false) rfl (qa2 (a:=false) rfl (Il zAc ?_)))⟩⟩;refine qd3 (λ c=>∃ b many,c=[D.hole u,b,.int many,.unk,.unk,.unk,.unk,.unk,.unk,.unk,.unk,.unk,.unk,.unk,.unk]/\isBag W b/\0<=many/\many<=64) (λ K J=>?_) ?_
 . refine qj5 (qam3 (qx4 (qc3 (y:=.int 64) rfl (qf6 (qd5 (ds:=[D.hole u,b1,.unk,.unk,.unk,.unk,.unk,.unk,.unk,.unk,.unk,.unk,.unk,.unk,.unk]) rfl B1 rfl (by decide) (by decide) λ v b2 v0 v1 B2=>qc3 (y:=.int 64) rfl (qf6 (M4 (x:=.lst false [.int 3,.int 6,.int 12,.int 24,.int 48]) rfl ?_)))))))
   refine qd5 (ds:=[D.hole u,b2,.unk,.unk,.unk,.unk,.unk,.unk,.unk,.unk,.unk,.unk,.unk,.unk,.unk]) rfl B2 rfl (by decide) (by decide) λ i b3 i0 i1 B3=>?_
   obtain⟨m,N,m0,m1⟩:∃ m:Int,gIx (.lst false [.int 3,.int 6,.int 12,.int 24,.int 48]) (.int i)=some (.int m)/\0<=m/\m<=64:=by
     obtain⟨d,hd,ed⟩:=qC3 (xs:=[D.int 3,.int 6,.int 12,.int 24,.int 48]) (i:=i) i0 i1;simp only[zAl,zB7,or_false] at hd;rcases hd with rfl | rfl | rfl | rfl | rfl<;>exact⟨_,ed,by decide,by decide⟩
   refine qa2 N (qb5 ⟨by show 4<=1000000;decide,qd5 (ds:=[D.hole u,b3,.unk,.unk,.unk,.unk,.unk,.unk,.unk,.unk,.unk,.unk,.unk,.unk,.unk]) rfl B3 rfl (by decide) (by decide) λ j b4 j0 j1 B4=>?_⟩);obtain⟨d,hd,ed⟩:=qC3 (xs:=[D.int 64,.int v,.int 64,.int m]) (i:=j) j0 j1;refine qa2 ed ?_;simp only[zAl,zB7,or_false] at hd;rcases hd with rfl | rfl | rfl | rfl
   . exact J _ ⟨b4,64,rfl,B4,by decide,by decide⟩
   . exact J _ ⟨b4,v,rfl,B4,v0,by lia⟩
   . exact J _ ⟨b4,64,rfl,B4,by decide,by decide⟩
   exact J _ ⟨b4,m,rfl,B4,m0,m1⟩
 rintro c ⟨b,many,rfl,B,y0,y1⟩;refine qd3 (λ c=>∃ b step,c=[D.hole u,b,.int many,.int step,.unk,.unk,.unk,.unk,.unk,.unk,.unk,.unk,.unk,.unk,.unk]/\isBag W b/\1<=step/\step<=1000000000000000) (λ K J=>?_) ?_
 . refine qj5 (M4 (x:=.lst false [.int 1,.int 4,.int 64,.int 1000000000000000]) rfl (qd5 (ds:=[D.hole u,b,.int many,.unk,.unk,.unk,.unk,.unk,.unk,.unk,.unk,.unk,.unk,.unk,.unk]) rfl B rfl (by decide) (by decide) λ j b2 j0 j1 B2=>?_))
   obtain⟨d,hd,ed⟩:=qC3 (xs:=[D.int 1,.int 4,.int 64,.int 1000000000000000]) (i:=j) j0 j1;refine qa2 ed ?_;simp only[zAl,zB7,or_false] at hd;rcases hd with rfl | rfl | rfl | rfl<;>exact J _ ⟨b2,_,rfl,B2,by decide,by decide⟩
 rintro c ⟨b,step,rfl,B,s1,s2⟩;refine ql7 false (λ Q q=>qD4 (qn2 (qf6 (qaD0 (qc3 (y:=.int 64) rfl (qb5 (qa2 (a:=(64:Int)) rfl ⟨rfl,?_⟩))))))) (λ h=>nomatch h) λ _=>?_
 . refine qY2 (λ i a9 ι=>∃ d,a9=prD ((List.range i).map λ j=>(step * ((j:Nat):Int),5))/\ι=[d,.int step]) _ 0 [] _ ⟨_,rfl,rfl⟩ ?_ ?_
   . rintro i x hx a9 ι ⟨d,rfl,rfl⟩ R hR
     rw[zB9] at hR ⊢;obtain⟨hi,rfl⟩:=qZ9 hx;have hi:i < 64:=hi;obtain⟨O,Z⟩:∃ O:Int,O=((i:Nat):Int):=⟨_,rfl⟩
     rw[<- Z];refine Ln (qal5 (Gx rfl (qq3 (d:=.tup [.int (step * O),.int 5]) (qK3 (x:=.int (step * O)) (show Go (.int step) (.int O)=_ from Hv (qy6 (by lia) (by lia))) rfl rfl rfl) ⟨by unfold prD;rw[zAf,zAf,zAz];unfold big;lia,hR _ _ ⟨_,?_,rfl⟩⟩)));unfold prD;rw[List.range_succ,zBl,zBl,Z];rfl
   rintro a9 ι ⟨d,rfl,rfl⟩;have G:qx6 ((List.range 64).map λ j=>(step * ((j:Nat):Int),(5:Int))):=by
     refine⟨by rw[zAf,zAz];decide,?_,λ p hp=>?_⟩
     . rw[List.map_map]
       exact List.pairwise_map.mpr (List.nodup_range.imp λ{i j} ne e=>ne (inS s1 e))
     obtain⟨j,hj,rfl⟩:=zBb.mp hp
     have:=zAj.mp hj
     exact⟨Lr s1 s2 (by lia) (by lia),by show (0:Int)<=5;decide,by show (5:Int)<=1000000000000000000;decide⟩
   exact⟨_, "list",rfl,rfl,(qs5 G).2,.inr ⟨false,_,rfl,G,qa2 (a:=[D.hole u,b,.int many,.int step,.unk,.unk,.unk,.unk,.unk,.unk,.unk,.unk,.unk,.unk,.unk]) rfl (qa2 (a:=D.bl false) rfl (qa2 (a:=false) rfl q))⟩⟩
 refine qb6 [D.hole u,b,.int many,.int step,gF a 4 (λ _=>none) [] 0,.unk,.unk,.unk,.unk,.unk,.unk,.unk,.unk,.unk,.unk] (λ K J=>qj5 (qM4 (qc3 (y:=.lst false []) rfl (qb5 ⟨.lst false [], "list",rfl,rfl,rfl,.inr ⟨false,[],rfl,qm9,rfl,qa2 (a:=gF a 4 (λ _=>none) [] 0) rfl (qa2 (a:=[D.hole u,b,.int many,.int step,.unk,.unk,.unk,.unk,.unk,.unk,.unk,.unk,.unk,.unk,.unk]) rfl J)⟩⟩)))) ?_;refine qd3 (λ c=>∃ b edge,c=[D.hole u,b,.int many,.int step,gF a 4 (λ _=>none) [] 0,.int edge,.unk,.unk,.unk,.unk,.unk,.unk,.unk,.unk,.unk]/\isBag W b/\0<=edge) (λ K J=>?_) ?_
 . exact qd5 rfl B rfl (by decide) (by decide) λ v b' v0 v1 B'=>J _ ⟨b',v,rfl,B',v0⟩
 rintro c ⟨b,edge,rfl,B,e0⟩;refine qb6 [D.hole u,b,.int many,.int step,gF a 4 (λ _=>none) [] 0,.int edge,.int many,.unk,.unk,.unk,.unk,.unk,.unk,.unk,.unk] (λ K J=>qL1 rfl rfl J) ?_;refine qd3 (λ c=>∃ many first,c=[D.hole u,b,.int many,.int step,gF a 4 (λ _=>none) [] 0,.int edge,.int first,.unk,.unk,.unk,.unk,.unk,.unk,.unk,.unk]/\0<=many/\many<=first/\first<=64) (λ K J=>?_) ?_
 . refine Gy (decide (edge < 4)) (λ Q q=>qh6 rfl q) (λ hb=>?_) λ _=>J _ ⟨many,many,rfl,y0,Int.le_refl _,y1⟩
   have hb:=zA9 hb
   have:edge=0∨edge=1∨edge=2∨edge=3:=by lia
   rcases this with rfl | rfl | rfl | rfl
   . exact qk8 (d:=.tup [.int 4,.int 1]) rfl rfl (qB6 (J _ ⟨1,4,rfl,by decide,by decide,by decide⟩))
   . exact qk8 (d:=.tup [.int 7,.int 2]) rfl rfl (qB6 (J _ ⟨2,7,rfl,by decide,by decide,by decide⟩))
   . exact qk8 (d:=.tup [.int 13,.int 4]) rfl rfl (qB6 (J _ ⟨4,13,rfl,by decide,by decide,by decide⟩))
   exact qk8 (d:=.tup [.int 25,.int 8]) rfl rfl (qB6 (J _ ⟨8,25,rfl,by decide,by decide,by decide⟩))
 clear y0 y1;rintro c ⟨many,first,rfl,y0,yf,f1⟩;refine qd3 (λ c=>∃ M n g I h S,c=[D.hole u,b,.int many,.int step,gF a n g I h,.int edge,.int first,M,.unk,.unk,.unk,.unk,.unk,.unk,.unk]/\By n/\Kept n.toNat true (hmOf n []) g S/\S.length=first.toNat/\I.length<=64/\∀ x,x∈S↔∃ j:Nat,j < first.toNat/\x=step * (j:Int)) (λ K J=>?_) ?_
 . refine qS9 (n:=first) rfl (Lm (by lia) (by lia)) (qq8 (λ i c=>∃ M n g I h S,c=[D.hole u,b,.int many,.int step,gF a n g I h,.int edge,.int first,M,.unk,.unk,.unk,.unk,.unk,.unk,.unk]/\By n/\Kept n.toNat true (hmOf n []) g S/\S.length=i/\I.length<=i/\∀ x,x∈S↔∃ j:Nat,j < i/\x=step * (j:Int)) _ 0 _ ⟨_,4,_,[],0,[],rfl,.inl rfl,Kept.none (by decide) (Hl (by decide)),rfl,zA3 _,λ x=>⟨nofun,λ ⟨j,hj,_⟩=>absurd hj (Nat.not_lt_zero _)⟩⟩ ?_ ?_)
   . rintro i x hx c ⟨M,n,g,I,h,S,rfl,pn,KP,hl,U,N⟩ K2 a5
     rw[zB9] at hl U N a5;obtain⟨hi,rfl⟩:=qZ9 hx;obtain⟨O,Z⟩:∃ O:Int,O=((i:Nat):Int):=⟨_,rfl⟩
     rw[<- Z];have hk:=Lr (k:=O) s1 s2 (by lia) (by lia);have hS:∀ x∈S,Ag x:=λ x hx=>by
       obtain⟨j,hj,rfl⟩:=(N x).mp hx;exact Lr s1 s2 (by lia) (by lia)
     refine Ln (qf7 (qj2 (p:=gF a n g I h) rfl (qd2 rfl) (qc3 (y:=.int (step * O)) (show Go (.int step) (.int O)=_ from Hv (qy6 (by lia) (by lia))) (qb5 (qa2 (a:=gF a n g I h) rfl ⟨n,[],g,I,h,S,.int (step * O), "int",rfl,rfl,pn,qm9,hS,KP,by lia,by lia,λ b=>(by rw[qe0 hk] at b;cases b),λ k e _=>?_⟩)))));cases e;have c4:¬ step * O∈S:=λ z=>by
       obtain⟨j,hj,e⟩:=(N _).mp z;rw[Z] at e
       have:=inS s1 e
       lia
     refine⟨λ z=>absurd z c4,λ _=>⟨λ z=>by lia,λ _ n' g' a0 h' v a7 K' b9 _=>qa2 (a:=[D.hole u,b,.int many,.int step,gF a n' g' a0 h',.int edge,.int first,.int O,.unk,.unk,.unk,.unk,.unk,.unk,.unk]) rfl (a5 _ ⟨_,n',g',a0,h',S++[step * O],rfl,a7,K',by rw[zA7,hl];rfl,by lia,λ x=>?_⟩)⟩⟩;rw[zAa,zAq,N x];constructor
     . rintro (⟨j,hj,e⟩ | e)
       . exact⟨j,by lia,e⟩
       exact⟨i,by lia,by rw[e,Z]⟩
     rintro⟨j,hj,e⟩;by_cases z:j=i
     . subst z
       exact .inr (by rw[e,Z])
     exact .inl ⟨j,by lia,e⟩
   rintro c ⟨M,n,g,I,h,S,rfl,pn,KP,hl,U,N⟩;rw[zB9,qM5] at hl U N;exact J _ ⟨M,n,g,I,h,S,rfl,pn,KP,hl,by lia,N⟩
 rintro c ⟨M,n,g,I,h,S,rfl,pn,KP,hl,U,N⟩;refine qd3 (λ c=>∃ M n g I h S,c=[D.hole u,b,.int many,.int step,gF a n g I h,.int edge,.int first,M,.unk,.unk,.unk,.unk,.unk,.unk,.unk]/\By n/\Kept n.toNat true (hmOf n []) g S/\(many=64->S.length=64)/\I.length<=200/\∀ x,x∈S↔∃ j:Nat,j < many.toNat/\x=step * (j:Int)) (λ K J=>?_) ?_
 . refine qaB6 (n:=many) (m:=first) rfl rfl (Lm (by lia) (by lia)) (Lm (by lia) (by lia)) (qq8 (λ i c=>∃ M n g I h S,c=[D.hole u,b,.int many,.int step,gF a n g I h,.int edge,.int first,M,.unk,.unk,.unk,.unk,.unk,.unk,.unk]/\By n/\Kept n.toNat true (hmOf n []) g S/\(i=0->S.length=first.toNat)/\I.length<=64+i/\∀ x,x∈S↔∃ j:Nat,j < first.toNat/\(j < many.toNat∨many.toNat+i<=j)/\x=step * (j:Int)) _ 0 _ ⟨M,n,g,I,h,S,rfl,pn,KP,λ _=>hl,U,λ x=>?_⟩ ?_ ?_)
   . rw[N x]
     exact⟨λ ⟨j,h1,h2⟩=>⟨j,h1,by lia,h2⟩,λ ⟨j,h1,_,h2⟩=>⟨j,h1,h2⟩⟩
   . clear pn KP hl U N
     rintro i x hx c ⟨M,n,g,I,h,S,rfl,pn,KP,hl,U,N⟩ K2 a5;rw[zB9] at hl U N a5;have hi:i < (first - many).toNat:=by
       have:=(zA5.mp hx).1
       rwa[qM5] at this
     rw[qU9 hi] at hx;cases hx;obtain⟨O,Z⟩:∃ O:Int,O=many+((i:Nat):Int):=⟨_,rfl⟩
     rw[<- Z];have hk:=Lr (k:=O) s1 s2 (by lia) (by lia);have hS:∀ x∈S,Ag x:=λ x hx=>by
       obtain⟨j,hj,_,rfl⟩:=(N x).mp hx;exact Lr s1 s2 (by lia) (by lia)
     refine Ln (qf7 (qj2 (p:=gF a n g I h) rfl (qd2 rfl) (qc3 (y:=.int (step * O)) (show Go (.int step) (.int O)=_ from Hv (qy6 (by lia) (by lia))) (qb5 (qa2 (a:=gF a n g I h) rfl ⟨n,[],g,I,h,S,.int (step * O), "int",rfl,rfl,pn,qm9,hS,KP,by lia,λ b=>(by rw[qe0 hk] at b;cases b),λ k e _=>?_⟩)))));cases e;have ek:O=((O.toNat:Nat):Int):=by lia
     have a4:step * O∈S:=(N _).mpr ⟨O.toNat,by lia,by lia,by rw[<- ek]⟩;refine⟨λ z=>absurd a4 z,λ _ n' g' a0 h' v a7 K' b9 _=>qa2 (a:=[D.hole u,b,.int many,.int step,gF a n' g' a0 h',.int edge,.int first,.int O,.unk,.unk,.unk,.unk,.unk,.unk,.unk]) rfl (a5 _ ⟨_,n',g',a0,h',_,rfl,a7,K',λ z=>by lia,by lia,λ x=>?_⟩)⟩;rw[zAs,N x,zBe];constructor
     . rintro⟨⟨j,h1,h2,e⟩,ne⟩
       refine⟨j,h1,?_,e⟩
       have:j≠many.toNat+i:=λ z=>ne (by rw[e,Z,z];congr 1;lia)
       lia
     rintro⟨j,h1,h2,e⟩;refine⟨⟨j,h1,by lia,e⟩,λ z=>?_⟩;rw[e,ek] at z
     have:=inS s1 z
     lia
   clear pn KP hl U N;rintro c ⟨M,n,g,I,h,S,rfl,pn,KP,hl,U,N⟩;rw[zB9,qM5] at hl U N;refine J _ ⟨M,n,g,I,h,S,rfl,pn,KP,λ z=>?_,by lia,λ x=>?_⟩
   . rw[hl (by lia)];lia
   rw[N x];exact⟨λ ⟨j,h1,h2,e⟩=>⟨j,by lia,e⟩,λ ⟨j,h1,e⟩=>⟨j,by lia,.inl h1,e⟩⟩
 clear pn KP hl U N;rintro c ⟨M,n,g,I,h,S,rfl,pn,KP,hl,U,N⟩;have hn:4<=n/\n<=64:=by unfold By at pn;lia
 have d0:=KP.len;have hS:∀ x∈S,Ag x:=λ x hx=>by
   obtain⟨j,hj,rfl⟩:=(N x).mp hx;exact Lr s1 s2 (by lia) (by lia)
 refine qb6 [D.hole u,b,.int many,.int step,gF a n g I h,.int edge,.int first,M,(.lst false [.lst false (rlD n.toNat g),.int n,.int h]),.unk,.unk,.unk,.unk,.unk,.unk] (λ K J=>qj5 (qad0 (ds:=[D.hole u,b,.int many,.int step,gF a n g I h,.int edge,.int first,M,.unk,.unk,.unk,.unk,.unk,.unk,.unk]) rfl (by lia) hn.2 hS KP J)) ?_;refine qd3 (λ c=>∃ b v,c=[D.hole u,b,.int many,.int step,gF a n g I h,.int edge,.int first,M,(.lst false [.lst false (rlD n.toNat g),.int n,.int h]),(.int (step * v)),.unk,.unk,.unk,.unk,.unk]/\isBag W b/\0<=v/\v<=64/\(0 < many->v < many)) (λ K J=>?_) ?_
 . refine qj5 ⟨rfl,qd5 (m:=if many > 1 then many else 1) rfl B rfl ?_ ?_ λ v b' v0 v1 B'=>qa2 (a:=D.int (step * v)) (show Go (.int step) (.int v)=_ from Hv (qy6 (by lia) ?_)) (J _ ⟨b',v,rfl,B',v0,?_,λ z=>?_⟩)⟩
   all_goals (split at *<;>lia)
 rintro c ⟨b,v,rfl,B,v0,v1,v2⟩;refine qd3 (λ c=>∃ b x,c=[D.hole u,b,.int many,.int step,gF a n g I h,.int edge,.int first,M,(.lst false [.lst false (rlD n.toNat g),.int n,.int h]),(.int (step * v)),x,.unk,.unk,.unk,.unk]/\isBag W b/\K4 x) (λ K J=>?_) ?_
 . exact qj5 (qE2 (x:=b) (qd8 rfl B.known) ⟨b,W,rfl,B,λ b' x B' o=>qa2 (a:=[D.hole u,b',.int many,.int step,gF a n g I h,.int edge,.int first,M,(.lst false [.lst false (rlD n.toNat g),.int n,.int h]),(.int (step * v)),.unk,.unk,.unk,.unk,.unk]) rfl (J _ ⟨b',x,rfl,B',o⟩)⟩)
 rintro c ⟨b,x,rfl,B,o1,o2,⟨t,o3⟩,_⟩;have kx:=qb9 o3;have ix:∀ r:D,r.imm=true->D.imms [.str "put",x,r]=true:=λ r f=>by show (x.imm&&(r.imm&&true))=true;rw[o1,f];rfl
 have b0:¬ 65 * step+1∈S:=λ z=>by
   obtain⟨j,hj,e⟩:=(N _).mp z;exact farS s1 (by lia) e
 have a8:Ag (65 * step+1):=⟨by lia,by lia⟩
 have c0:f2 Kh (f2 Go (kC (.int 65)) (rdN 3)) (kC (.int 1)) [D.hole u,b,.int many,.int step,gF a n g I h,.int edge,.int first,M,(.lst false [.lst false (rlD n.toNat g),.int n,.int h]),(.int (step * v)),x,.unk,.unk,.unk,.unk]=some (.int (65 * step+1)):=f2_of (x:=.int (65 * step)) (show Go (.int 65) (.int step)=_ from Km (by decide)) rfl rfl;refine qd3 (λ c=>∃ L,c=[D.hole u,b,.int many,.int step,gF a n g I h,.int edge,.int first,M,(.lst false [.lst false (rlD n.toNat g),.int n,.int h]),(.int (step * v)),x,(.lst false L),.unk,.unk,.unk]/\L.length<=10/\∀ y∈L,K5 S y) (λ K J=>?_) ?_
 . refine qU8 (d:=.lst false [.tup [.str "put",x,.tup [.str "wrong",.int 0]],.tup [.str "take",x,.tup [.str "wrong",.int 0]],.tup [.str "take",.int (65 * step+1),.tup [.str "gone",.int (65 * step+1)]]]) (qaJ9 (qU1 rfl (qd8 rfl kx) rfl (ix _ rfl)) (qU1 rfl (qd8 rfl kx) rfl (ix _ rfl)) (qU1 rfl c0 (qK3 rfl c0 rfl rfl) rfl) ?_) (J _ ⟨_,rfl,by show 3<=10;decide,λ y Y=>?_⟩)
   . show (D.imms [.str "put",x,.tup [.str "wrong",.int 0]]&&(D.imms [.str "take",x,.tup [.str "wrong",.int 0]]&&true))=true
     rw[ix _ rfl,show D.imms [.str "take",x,.tup [.str "wrong",.int 0]]=true from ix _ rfl];rfl
   simp only[zAl,zB7,or_false] at Y;rcases Y with rfl | rfl | rfl
   . exact⟨_,x,t,_,rfl,ix _ rfl,o3,.inl ⟨o2,rfl,.inl rfl⟩,rfl,rfl⟩
   . exact⟨_,x,t,_,rfl,ix _ rfl,o3,.inl ⟨o2,rfl,.inr rfl⟩,rfl,rfl⟩
   exact⟨_,_,_,_,rfl,rfl,rfl,.inr ⟨_,rfl,a8,.inr ⟨rfl,b0,rfl⟩⟩,rfl,rfl⟩
 rintro c ⟨L,rfl,hL,hA⟩;refine qd3 (λ c=>∃ L,c=[D.hole u,b,.int many,.int step,gF a n g I h,.int edge,.int first,M,(.lst false [.lst false (rlD n.toNat g),.int n,.int h]),(.int (step * v)),x,(.lst false L),.unk,.unk,.unk]/\L.length<=11/\∀ y∈L,K5 S y) (λ K J=>?_) ?_
 . refine Gy (decide (0 < many)) (λ Q q=>qh6 rfl q) (λ hb=>qf7 (qO1 (d:=.tup [.str "put",.int (step * v),.tup [.str "there",.int (step * v)]]) rfl rfl (by unfold big;lia) (J _ ⟨_,rfl,by rw[zA7];show _+1<=11;lia,λ y Y=>?_⟩))) λ _=>J _ ⟨L,rfl,by lia,hA⟩
   rcases zAa.mp Y with Y | Y
   . exact hA y Y
   rw[zAq.mp Y];have ev:v=((v.toNat:Nat):Int):=by lia
   have hb:=zA9 hb;have a4:step * v∈S:=(N _).mpr ⟨v.toNat,by have:=v2 hb;lia,by rw[<- ev]⟩;exact⟨_,_,_,_,rfl,rfl,rfl,.inr ⟨_,rfl,hS _ a4,.inl ⟨rfl,.inl ⟨a4,rfl⟩⟩⟩,rfl,rfl⟩
 clear hL hA;rintro c ⟨L,rfl,hL,hA⟩;refine qd3 (λ c=>∃ L,c=[D.hole u,b,.int many,.int step,gF a n g I h,.int edge,.int first,M,(.lst false [.lst false (rlD n.toNat g),.int n,.int h]),(.int (step * v)),x,(.lst false L),.unk,.unk,.unk]/\L.length<=12/\∀ y∈L,K5 S y) (λ K J=>?_) ?_
 . refine Gy (many == 64) (λ Q q=>qh6 rfl q) (λ hb=>qf7 (qO1 (d:=.tup [.str "put",.int (65 * step+1),.tup [.str "room",.int 0]]) rfl (qU1 rfl ?_ rfl rfl) (by unfold big;lia) (J _ ⟨_,rfl,by rw[zA7];show _+1<=12;lia,λ y Y=>?_⟩))) λ _=>J _ ⟨L,rfl,by lia,hA⟩
   . exact f2_of (x:=.int (65 * step)) (show Go (.int 65) (.int step)=_ from Km (by decide)) rfl rfl
   rcases zAa.mp Y with Y | Y
   . exact hA y Y
   rw[zAq.mp Y];exact⟨_,_,_,_,rfl,rfl,rfl,.inr ⟨_,rfl,a8,.inl ⟨rfl,.inr ⟨b0,hl (eq_of_beq hb),rfl⟩⟩⟩,rfl,rfl⟩
 clear hL hA;rintro c ⟨L,rfl,hL,hA⟩;refine qd3 (λ c=>∃ a1 a2 a3,c=[D.hole u,b,.int many,.int step,gF a n g I h,.int edge,.int first,M,(.lst false [.lst false (rlD n.toNat g),.int n,.int h]),(.int (step * v)),x,(.lst false L),a1,a2,a3]) (λ K J=>?_) ?_
 . refine qq3 (d:=.lst false (L++L)) (f2_of (x:=.lst false L) (y:=.lst false L) rfl rfl (qh9 ⟨qar0 hA,qar0 hA,by unfold big;lia⟩)) (qa2 (a:=L++L) rfl ⟨qar0 λ y Y=>(zAa.mp Y).elim (hA y) (hA y),?_⟩)
   refine qq8 (λ _ c=>∃ a1 a2 a3,c=[D.hole u,b,.int many,.int step,gF a n g I h,.int edge,.int first,M,(.lst false [.lst false (rlD n.toNat g),.int n,.int h]),(.int (step * v)),x,(.lst false L),a1,a2,a3]) _ 0 _ ⟨_,_,_,rfl⟩ ?_ λ c h=>J _ h
   rintro i y Y c ⟨a1,a2,a3,rfl⟩ K2 a5;obtain⟨w,y,t',r,rfl,_,c1,ha,c5,kr⟩:=hA y ((zAa.mp (zB1 Y)).elim id id);have ky:=qb9 c1;refine qaB2 (At (t:=sIf _ _ _) [D.hole u,b,.int many,.int step,gF a n g I h,.int edge,.int first,M,(.lst false [.lst false (rlD n.toNat g),.int n,.int h]),(.int (step * v)),x,(.lst false L),.str w,y,r] rfl ?_);refine Gy false (λ Q q=>qac4 false false (λ Q q=>qD4 (qaN5 (x:=gF a n g I h) (y:=.str w) (w:=y) rfl rfl (qd8 rfl ky) rfl rfl ⟨n,[],g,I,h,S,w,y,t',r,rfl,c1,pn,qm9,hS,KP,by lia,by lia,ha,qa2 (a:=[D.hole u,b,.int many,.int step,gF a n g I h,.int edge,.int first,M,(.lst false [.lst false (rlD n.toNat g),.int n,.int h]),(.int (step * v)),x,(.lst false L),.str w,y,r]) rfl (qa2 (a:=D.bl false) ?_ (qa2 (a:=false) rfl q))⟩)) (λ _ Q q=>qD4 (qad0 (ds:=[D.hole u,b,.int many,.int step,gF a n g I h,.int edge,.int first,M,(.lst false [.lst false (rlD n.toNat g),.int n,.int h]),(.int (step * v)),x,(.lst false L),.str w,y,r]) rfl (by lia) hn.2 hS KP (qa2 (a:=D.bl false) ?_ (qa2 (a:=false) rfl q)))) q) (λ h=>nomatch h) λ _=>a5 _ ⟨_,_,_,rfl⟩
   . rw[qd8 (d:=r) rfl kr]
     exact qaj3 c5
   exact qaj3 (by show (List.all [.lst false (rlD n.toNat g),.int n,.int h] (okN 20))=true;show ((rlD n.toNat g).all (okN 19)&&true)=true;rw[zB2.mpr λ d hd=>(by rcases qax3 hd with rfl | ⟨k,rfl⟩<;>rfl)];rfl)
 rintro c ⟨a1,a2,a3,rfl⟩;refine qj3 (decide (many < 64)) rfl (λ _=>qi8 (.bl true) rfl rfl) λ hb=>?_
 have c6:many=64:=by have:=zB5 hb;lia
 have c7:=hl c6;have c8:n=64:=by lia
 have ev:v=((v.toNat:Nat):Int):=by lia
 have a4:step * v∈S:=(N _).mpr ⟨v.toNat,by have:=v2 (by lia);lia,by rw[<- ev]⟩;have hf:(S.filter λ x=>decide (x≠step * v)).length=63:=by
   have e:(S.filter λ x=>decide (x≠step * v))=S.erase (step * v):=by
     rw[List.Nodup.erase_eq_filter KP.h.1];exact List.filter_congr λ x _=>by by_cases z:x=step * v<;>simp[z]
   rw[e,List.length_erase_of_mem a4,c7]
 refine qJ3 (or_to (qD4 (qj2 (p:=gF a n g I h) rfl (qd2 rfl) (qc2 (x:=.int (step * v)) rfl (qb5 (qa2 (a:=D.int (step * v)) rfl (qa2 (a:=gF a n g I h) rfl ⟨n,[],g,I,h,S,.int (step * v), "int",rfl,rfl,pn,qm9,hS,KP,by lia,λ b=>(by rw[qe0 (hS _ a4)] at b;cases b),λ k e _=>?_⟩)))))));cases e;refine⟨λ z=>absurd a4 z,λ _ n' g' a0 h' v' a7 K' b9 hv=>qa2 (a:=[D.hole u,b,.int many,.int step,gF a n' g' a0 h',.int edge,.int first,M,(.lst false [.lst false (rlD n.toNat g),.int n,.int h]),(.int (step * v)),x,(.lst false L),a1,a2,a3]) rfl ?_⟩;obtain⟨rfl,rfl⟩:=hv (by rw[hf];lia);refine qa2 (a:=D.bl false) rfl (qa2 (a:=false) rfl (Il zAc ?_));have b5:∀ y∈S.filter λ x=>decide (x≠step * v),Ag y:=λ y Y=>hS y (zAs.mp Y).1
 have f65':¬ 65 * step+1∈S.filter λ x=>decide (x≠step * v):=λ z=>b0 (zAs.mp z).1
 have t1:¬ step * v∈S.filter λ x=>decide (x≠step * v):=λ z=>absurd rfl (zA9 (zAs.mp z).2)
 generalize S.filter (λ x=>decide (x≠step * v))=S' at hf K' b5 f65' t1;refine qD4 (qj2 (p:=gF a n' g' a0 h') rfl (qd2 rfl) (qc3 (y:=.int (65 * step+1)) (f2_of (x:=.int (65 * step)) (show Go (.int 65) (.int step)=_ from Km (by decide)) rfl rfl) (qb5 (qa2 (a:=gF a n' g' a0 h') rfl ⟨n',[],g',a0,h',S',.int (65 * step+1), "int",rfl,rfl,a7,qm9,b5,K',by lia,by lia,λ b=>(by rw[qe0 a8] at b;cases b),λ k e _=>?_⟩))));cases e;refine⟨λ z=>absurd z f65',λ _=>⟨λ z=>by lia,λ _ n2 g2 a6 h2 d1 c2 K2 d2 c9=>qa2 (a:=[D.hole u,b,.int many,.int step,gF a n2 g2 a6 h2,.int edge,.int first,M,(.lst false [.lst false (rlD n'.toNat g),.int n',.int h]),(.int (step * v)),x,(.lst false L),a1,a2,a3]) rfl ?_⟩⟩;obtain rfl:=c9 c8;refine qa2 (a:=D.bl false) rfl (qa2 (a:=false) rfl (Il zAc ?_));have b6:∀ y∈S'++[65 * step+1],Ag y:=λ y Y=>by
   rcases zAa.mp Y with h | h
   . exact b5 y h
   rw[zAq.mp h];exact a8
 have b7:(S'++[65 * step+1]).length=64:=by rw[zA7,hf];rfl
 have t2:¬ step * v∈S'++[65 * step+1]:=λ z=>by
   rcases zAa.mp z with z | z
   . exact t1 z
   have z:=zAq.mp z;rw[ev] at z;exact farS s1 (by lia) z.symm
 generalize S'++[65 * step+1]=S2 at b6 b7 t2 K2;have c3:4<=n2/\n2<=64:=by unfold By at c2;lia
 refine qe6 (qaV3 (qP2 (qn2 (qc2 (x:=gF a n2 g2 a6 h2) rfl (qc3 (y:=.str "put") rfl (qc2 (x:=.int (step * v)) rfl (qb5 (qa2 (a:=D.int (step * v)) rfl (qa2 (a:=gF a n2 g2 a6 h2) rfl ⟨n2,[],g2,a6,h2,S2, "put",.int (step * v), "int",_,rfl,rfl,c2,qm9,b6,K2,by lia,by lia,.inr ⟨_,rfl,hS _ a4,.inl ⟨rfl,.inr ⟨t2,b7,rfl⟩⟩⟩,qa2 (a:=[D.hole u,b,.int many,.int step,gF a n2 g2 a6 h2,.int edge,.int first,M,(.lst false [.lst false (rlD n'.toNat g),.int n',.int h]),(.int (step * v)),x,(.lst false L),a1,a2,a3]) rfl ?_⟩)))))))));refine qa2 (a:=D.bl true) rfl (qa2 (a:=true) rfl (Gx rfl ?_));refine qP2 (qaJ2 (ds:=[D.hole u,b,.int many,.int step,gF a n2 g2 a6 h2,.int edge,.int first,M,(.lst false [.lst false (rlD n'.toNat g),.int n',.int h]),(.int (step * v)),x,(.lst false L),a1,a2,a3]) rfl (by lia) c3.2 b6 K2 ⟨qm8 rfl,_,⟨false,n2,true,[],g2,[],S2,rfl,c3.2,K2,rfl⟩,qa2 (a:=[D.hole u,b,.int many,.int step,gF a n2 g2 a6 h2,.int edge,.int first,M,(.lst false [.lst false (rlD n'.toNat g),.int n',.int h]),(.int (step * v)),x,(.lst false L),a1,a2,a3]) rfl ?_⟩);rw[b7];exact qa2 (a:=D.bl true) rfl rfl
end
theorem dfX{K:W.Frag}{mg:Str->Option Value}{x qual:Str}{st:Stmt}{f:Addr}{ps:List Str}{oc:Value}{od g:Option Addr}{m:Array (Option Value)}{kV e i d j:Value}{h:Heap}(X:K.In h)(G:h.Ns mainGlobals mg)(a:W.nsIn K mainGlobals x=some (some (.ref f)))(l:K.lookup f=some ⟨oc,od,.func (W.fnOf x qual (qf0 st) (qc9 st) (qa3 st) .none kV e i g d j),m⟩)(c:W.codeIn K d qual=true)(k:W.keepIn K (.ref f)=true)(b:∀(kV e i:Value)(g:Option Addr)(d j:Value)(us:List Value),us.length=ps.length->bindArgs (W.fnOf x qual (qf0 st) (qc9 st) (qa3 st) .none kV e i g d j) ⟨us,[]⟩=pure (ps.zip us)) :
 Df K mg x qual st f (W.fnOf x qual (qf0 st) (qc9 st) (qa3 st) .none kV e i g d j) ps:=dfmk l c k (W.mg_of X G a) b
theorem qaV4{l:W.OpenLaw}{w:World}{K:W.Frag}{mg:Str->Option Value}{fa f0 f1 f2 f3 f4 f5 f6 f7 f8 f9 g c h i j n o p q r t u x y z A B C D E d F G H I J L M N f O P Q R S T U V X Y Z a0 a1 g7 C0 C1 C2 C3 C4 C5 C6 C7 C8 C9 C10 C11 C12 C13:Addr}{d0 d1 d2 d3 d4 d5 d6 d7 d8 d9 a2 a3 a4 a5 a6 a7 a8 a9 b0 b1 b2 b3 b4 b5 b6 b7 b8 b9 c0 c1 c2 c3 c4 c5 c6 c7 c8 c9 e0 e1 e3 e4 e5 e6 e7 e8 e9 g0 g1 g2 g3 g4 g5 b:FuncData}{Cy D0 D1 Cz:Tok}(g8:mg "law" = some (.ref fa))(j0:Df K mg "_wall" "_wall" qar9 f0 d0 ["k"])(j1:Md K C4 "__init__" "Wrong.__init__" qp9 f1 d1 ["self", "at"])(j2:Md K C5 "__init__" "NoRoom.__init__" qm5 f2 d2 ["self", "room"])(j3:Md K C6 "__init__" "There.__init__" qq0 f3 d3 ["self", "key"])(j4:Md K C7 "__init__" "NotThere.__init__" qi5 f4 d4 ["self", "key"])(j5:Df K mg "is_whole" "is_whole" qz4 f5 d5 ["thing"])(j6:Df K mg "is_whole_within" "is_whole_within" qf8 f6 d6 ["thing", "least", "most"])(j7:Df K mg "is_number" "is_number" qu3 f7 d7 ["thing"])(j8:Df K mg "are_parted" "are_parted" qp8 f8 d8 ["numbers"])(j9:Df K mg "is_number_pair" "is_number_pair" qh3 f9 d9 ["thing"])(g9:Df K mg "is_home_list" "is_home_list" qj8 g a2 ["thing"])(h0:Md K C0 "__init__" "Plan.__init__" qu7 c a3 ["self", "rooms", "wraps", "homes"])(h1:Md K C0 "homes_told" "Plan.homes_told" qf9 h a4 ["self"])(h2:Md K C0 "is_room" "Plan.is_room" qk0 i a5 ["self", "thing"])(h3:Md K C0 "home" "Plan.home" qu8 j a6 ["self", "key"])(h4:Md K C0 "far" "Plan.far" qA0 n a7 ["self", "key", "room"])(h5:Md K C0 "goes_ahead" "Plan.goes_ahead" qg0 o a8 ["self", "room", "one", "other"])(h6:Df K mg "room_ahead" "room_ahead" qp7 p a9 ["plan", "room"])(h7:Df K mg "word_by_room_ahead" "word_by_room_ahead" qe1 q b0 ["plan", "rooms", "room"])(h8:Df K mg "word_due" "word_due" qz3 r b1 ["plan", "rooms", "room"])(h9:Df K mg "is_turned" "is_turned" qu2 t b2 ["plan", "rooms"])(i0:Df K mg "fault_of" "fault_of" qz5 u b3 ["plan", "rooms"])(i1:Df K mg "are_crowd" "are_crowd" qu6 x b4 ["plan", "keys", "room"])(i2:Df K mg "crowded_room" "crowded_room" qj9 y b5 ["plan", "keys"])(i3:Df K mg "refuse_crowd" "refuse_crowd" qj7 z b6 ["plan", "keys"])(i4:Df K mg "bring_in" "bring_in" qz6 A b7 ["plan", "rooms", "key"])(i5:Df K mg "house_all" "house_all" qu4 B b8 ["plan", "keys"])(i6:Df K mg "room_behind" "room_behind" qm3 C b9 ["plan", "room"])(i7:Df K mg "is_drawn_from" "is_drawn_from" qi3 D c0 ["plan", "rooms", "room"])(i8:Df K mg "draw_back" "draw_back" qu5 E c1 ["plan", "rooms", "room"])(i9:MdN K C1 "__init__" "Row.__init__" qz9 d c2 ["self", "plan", "rooms"])(k0:Md K C1 "rooms_held" "Row.rooms_held" qh4 F c3 ["self"])(k1:Md K C1 "keys_held" "Row.keys_held" qi4 G c4 ["self"])(k2:Md K C1 "many" "Row.many" qz8 H c5 ["self"])(k3:Md K C1 "room_of" "Row.room_of" qm4 I c6 ["self", "key"])(k4:Md K C1 "put" "Row.put" qH4 J c7 ["self", "key"])(k5:Md K C1 "take" "Row.take" qz7 L c8 ["self", "key"])(k6:Df K mg "row_of_keys" "row_of_keys" qm2 M c9 ["plan", "keys"])(k7:Df K mg "row_sized" "row_sized" qu1 N e0 ["row", "rooms"])(k8:Md K C2 "__init__" "Growing.__init__" qk2 f e1 ["self", "homes"])(k9:Md K C2 "house_anew" "Growing.house_anew" qe2 O e3 ["self", "rooms"])(l0:Md K C2 "put" "Growing.put" qm6 P e4 ["self", "key"])(l1:Md K C2 "take" "Growing.take" qk1 Q e5 ["self", "key"])(l2:Md K C2 "rooms_now" "Growing.rooms_now" qe5 R e6 ["self"])(l3:Md K C2 "row_now" "Growing.row_now" qg1 S e7 ["self"])(l4:Md K C2 "anew" "Growing.anew" qk3 T e8 ["self"])(l5:Df K mg "_law_bag" "_law_bag" qaw8 U e9 ["_law_script"])(l6:Df K mg "_law_take" "_law_take" qae0 V g0 ["_law_bag_here", "_law_many"])(l7:Df K mg "_law_sort" "_law_sort" qae1 X g1 ["_law_e"])(l8:Df K mg "_law_asked" "_law_asked" qR0 Y g2 ["_law_row", "_law_word", "_law_key"])(l9:Df K mg "_law_made" "_law_made" qae2 Z g3 ["_law_homes"])(m0:Df K mg "_law_odd" "_law_odd" qaw7 a0 g4 ["_law_bag_here"])(m1:Df K mg "_law_bad_homes" "_law_bad_homes" qq1 a1 g5 ["_law_bag_here"])(g6:Df K mg "law" "law" Kd g7 b ["_law_script"])(m2:mg "MOST_NUMBER" = some (.int 1000000000000000000 Cy))(m3:mg "MOST_ROOMS" = some (.int 64 D0))(m4:mg "MOST_HOMES" = some (.int 64 D1))(m5:mg "LEAST_ROOMS" = some (.int 4 Cz))(m6:mg "ValueError" = none)(m7:mg "abs" = none)(m8:mg "all" = none)(m9:mg "bool" = none)(n0:mg "dict" = none)(n1:mg "enumerate" = none)(n2:mg "int" = none)(n3:mg "isinstance" = none)(n4:mg "len" = none)(n5:mg "list" = none)(n6:mg "max" = none)(n7:mg "range" = none)(n8:mg "set" = none)(n9:mg "tuple" = none)(o0:Cl K mg "Plan" C0)(o1:Mk K C0 c)(o2:qc1 K C0 "rooms")(o3:qc1 K C0 "wraps")(o4:qc1 K C0 "homes")(o5:qc1 K C0 "home_numbers")(o6:IsO K C0)(o7:Cl K mg "Row" C1)(o8:Mk K C1 d)(o9:qc1 K C1 "plan")(p0:qc1 K C1 "held")(p1:qc1 K C1 "done")(p2:IsO K C1)(p3:Cl K mg "Growing" C2)(p4:Mk K C2 f)(p5:qc1 K C2 "row")(p6:qc1 K C2 "housed_anew")(p7:mg "HomeError" = some (.ref C3))(p8:Exc K C3)(p9:mg "Wrong" = some (.ref C4))(q0:Exc K C4)(q1:W.kitOne K (.ref C4) (.type "ValueError")=some true)(q3:MkE K C4 f1)(q4:qc1 K C4 "at")(q5:IsX K C4)(q6:W.kitOne K (.ref C4) (.ref C5)=some false)(q7:W.kitOne K (.ref C4) (.ref C6)=some false)(q8:W.kitOne K (.ref C4) (.ref C7)=some false)(j100:W.kitOne K (.ref C4) (.ref C8)=some false)(j101:W.kitOne K (.ref C4) (.ref C9)=some false)(j102:W.kitOne K (.ref C4) (.ref C10)=some false)(j103:W.kitOne K (.ref C4) (.ref C11)=some false)(j104:W.kitOne K (.ref C4) (.ref C12)=some false)(j105:W.kitOne K (.ref C4) (.ref C13)=some false)(j106:W.exmAny K (.ref C4) [.ref C6,.ref C7]=some false)(j107:W.mroIn K C4 (.ref C3)=some true)(j108:W.mroIn K C4 (.ref C4)=some true)(j109:W.mroIn K C4 (.ref C5)=some false)(j110:mg "NoRoom" = some (.ref C5))(j111:Exc K C5)(j112:W.kitOne K (.ref C5) (.type "ValueError")=some true)(j113:MkE K C5 f2)(j114:qc1 K C5 "room")(j115:IsX K C5)(j116:W.kitOne K (.ref C5) (.ref C4)=some false)(j117:W.kitOne K (.ref C5) (.ref C6)=some false)(j118:W.kitOne K (.ref C5) (.ref C7)=some false)(j119:W.kitOne K (.ref C5) (.ref C8)=some false)(j120:W.kitOne K (.ref C5) (.ref C9)=some false)(j121:W.kitOne K (.ref C5) (.ref C10)=some false)(j122:W.kitOne K (.ref C5) (.ref C11)=some false)(j123:W.kitOne K (.ref C5) (.ref C12)=some false)(j124:W.kitOne K (.ref C5) (.ref C13)=some false)(j125:W.exmAny K (.ref C5) [.ref C6,.ref C7]=some false)(j126:W.mroIn K C5 (.ref C3)=some true)(j127:W.mroIn K C5 (.ref C4)=some false)(j128:W.mroIn K C5 (.ref C5)=some true)(j129:mg "There" = some (.ref C6))(j130:Exc K C6)(j131:W.kitOne K (.ref C6) (.type "ValueError")=some true)(j132:MkE K C6 f3)(j133:qc1 K C6 "key")(j134:IsX K C6)(j135:W.kitOne K (.ref C6) (.ref C4)=some false)(j136:W.kitOne K (.ref C6) (.ref C5)=some false)(j137:W.kitOne K (.ref C6) (.ref C7)=some false)(j138:W.kitOne K (.ref C6) (.ref C8)=some false)(j139:W.kitOne K (.ref C6) (.ref C9)=some false)(j140:W.kitOne K (.ref C6) (.ref C10)=some false)(j141:W.kitOne K (.ref C6) (.ref C11)=some false)(j142:W.kitOne K (.ref C6) (.ref C12)=some false)(j143:W.kitOne K (.ref C6) (.ref C13)=some false)(j144:W.exmAny K (.ref C6) [.ref C6,.ref C7]=some true)(j145:W.mroIn K C6 (.ref C3)=some true)(j146:W.mroIn K C6 (.ref C4)=some false)(j147:W.mroIn K C6 (.ref C5)=some false)(j148:mg "NotThere" = some (.ref C7))(j149:Exc K C7)(j150:W.kitOne K (.ref C7) (.type "ValueError")=some true)(j151:MkE K C7 f4)(j152:qc1 K C7 "key")(j153:IsX K C7)(j154:W.kitOne K (.ref C7) (.ref C4)=some false)(j155:W.kitOne K (.ref C7) (.ref C5)=some false)(j156:W.kitOne K (.ref C7) (.ref C6)=some false)(j157:W.kitOne K (.ref C7) (.ref C8)=some false)(j158:W.kitOne K (.ref C7) (.ref C9)=some false)(j159:W.kitOne K (.ref C7) (.ref C10)=some false)(j160:W.kitOne K (.ref C7) (.ref C11)=some false)(j161:W.kitOne K (.ref C7) (.ref C12)=some false)(j162:W.kitOne K (.ref C7) (.ref C13)=some false)(j163:W.exmAny K (.ref C7) [.ref C6,.ref C7]=some true)(j164:W.mroIn K C7 (.ref C3)=some true)(j165:W.mroIn K C7 (.ref C4)=some false)(j166:W.mroIn K C7 (.ref C5)=some false)(j167:mg "Unkept" = some (.ref C8))(j168:mg "Unlike" = some (.ref C9))(j169:mg "NoText" = some (.ref C10))(j170:mg "NoRow" = some (.ref C11))(j171:mg "NoPlan" = some (.ref C12))(j172:mg "TooMany" = some (.ref C13))(hb:∀(s:Shared)(v:Value),BindsTo s b ⟨[v],[]⟩ [("_law_script",v)]):∃ fd:FuncData,(∀(s:Shared)(v:Value),BindsTo s fd ⟨[v],[]⟩ [("_law_script",v)])/\∀ base:Heap,K.In base->base.Ns mainGlobals mg->B7 l.prog w K mg base (CX1 l.prog w) 17 fa fd ["_law_script"] (Kt K):=by
 have e:=g8.symm.trans g6.m;injection e with e
 injection e with e
 subst e;exact⟨b,hb,λ base _ _=>qaS1 (a:=⟨f0,d0,f1,d1,f2,d2,f3,d3,f4,d4,f5,d5,f6,d6,f7,d7,f8,d8,f9,d9,g,a2,c,a3,h,a4,i,a5,j,a6,n,a7,o,a8,p,a9,q,b0,r,b1,t,b2,u,b3,x,b4,y,b5,z,b6,A,b7,B,b8,C,b9,D,c0,E,c1,d,c2,F,c3,G,c4,H,c5,I,c6,J,c7,L,c8,M,c9,N,e0,f,e1,O,e3,P,e4,Q,e5,R,e6,S,e7,T,e8,U,e9,V,g0,X,g1,Y,g2,Z,g3,a0,g4,a1,g5,fa,b,Cy,D0,D1,Cz,C0,C1,C2,C3,C4,C5,C6,C7,C8,C9,C10,C11,C12,C13⟩) ⟨j0,j1,j2,j3,j4,j5,j6,j7,j8,j9,g9,h0,h1,h2,h3,h4,h5,h6,h7,h8,h9,i0,i1,i2,i3,i4,i5,i6,i7,i8,i9,k0,k1,k2,k3,k4,k5,k6,k7,k8,k9,l0,l1,l2,l3,l4,l5,l6,l7,l8,l9,m0,m1,g6,m2,m3,m4,m5,m6,m7,m8,m9,n0,n1,n2,n3,n4,n5,n6,n7,n8,n9,o0,o1,o2,o3,o4,o5,o6,o7,o8,o9,p0,p1,p2,p3,p4,p5,p6,p7,p8,p9,q0,q1,q3,q4,q5,q6,q7,q8,j100,j101,j102,j103,j104,j105,j106,j107,j108,j109,j110,j111,j112,j113,j114,j115,j116,j117,j118,j119,j120,j121,j122,j123,j124,j125,j126,j127,j128,j129,j130,j131,j132,j133,j134,j135,j136,j137,j138,j139,j140,j141,j142,j143,j144,j145,j146,j147,j148,j149,j150,j151,j152,j153,j154,j155,j156,j157,j158,j159,j160,j161,j162,j163,j164,j165,j166,j167,j168,j169,j170,j171,j172⟩⟩
theorem walk{l:W.OpenLaw}{q:Program}{loose:List Str}{XP:(Str->Option Value)->Heap->Prop}{YP:World->Heap->Prop}{d:DefRec}{K:Params->W.Frag}(c:l.most=some 63)(b:d.params.defaults=[])(e:∀(w:World)(h:Heap),YP w h->(K w.params).In h)(F:∀(w:World)(mg:Str->Option Value)(fa:Addr)(h:Heap),(K w.params).In h->h.Ns mainGlobals mg->mg d.name=some (.ref fa) ->
 ∃ fd:FuncData,(∀(s:Shared)(u:Value),BindsTo s fd ⟨[u],[]⟩ [("_law_script",u)])/\∀ base:Heap,(K w.params).In base->base.Ns mainGlobals mg->B7 l.prog w (K w.params) mg base (CX1 l.prog w) 17 fa fd ["_law_script"] (Kt (K w.params))) :
 W.WalkO q loose XP YP l.row.toRowW d [] (λ f vs=>PySem.call f vs) :=
 L2.qaD7 (n:=63) (k:=17) (x := "_law_script") (CX:=λ w=>CX1 l.prog w) (sp:=λ w=>Kt (K w.params)) c (by decide) b ⟨λ _=>rfl,by decide,by decide⟩ e F (λ _ _ a g i _ j=>⟨a,g,rfl,j,i,λ _=>rfl⟩) λ _ _ _ _ _ ⟨_,_,_,_,_,_,_,_,z⟩=>z
end LV.My
open PySem PySem.W PyProof.Rows L2
local macro_rules | `(tactic| walk_at "u")=>`(tactic| (intro _ _ _ _ _ _;repeat' first | exact LV.ec0 (rfl) | refine LV.ec1 λ _=>?_))
local macro_rules | `(tactic| walk_at "d")=>`(tactic| (refine' LV.My.dfX (by assumption) (by assumption) ?a ?l ?c ?k ?b;(case a | l | c | k=>k_is);(case b=>walk_at "u")))
local macro_rules | `(tactic| walk_at "e")=>`(tactic| (refine' mdmk ?l ?c ?k ?a ?i ?b;(case a | i | l | c | k=>k_is);(case b=>walk_at "u")))
local macro_rules | `(tactic| walk_at "c")=>`(tactic| (refine' mg_of (by assumption) (by assumption) ?a;k_is))
local macro_rules | `(tactic| walk_at "z")=>`(tactic| (refine' mg_none_of (by assumption) (by assumption) ?a;k_is))
local macro_rules | `(tactic| walk_at "q")=>`(tactic| (first | k_is | kernel_rfl | rfl))
local macro_rules | `(tactic| walk_at "n")=>`(tactic| (show findIn _ _ _=some none;k_is))
local macro_rules | `(tactic| walk_at "x9")=>`(tactic| (refine⟨?_,?_,?_,?_,?_,?_,?_,?_,?_⟩<;>walk_at "q"))
local macro_rules | `(tactic| walk_at "ix")=>`(tactic| (refine⟨⟨?_,?_,?_,?_,?_,?_,?_,?_,?_⟩,?_,?_,?_⟩<;>walk_at "q"))
local macro_rules | `(tactic| walk_at "me")=>`(tactic| (refine⟨⟨?_,?_,?_,?_,?_,?_,?_,?_,?_⟩,?_,?_,?_,?_⟩<;>walk_at "q"))
theorem PySem.Challenge.cw_homeward_k65_growing_refused_holds : PySem.Challenge.rw_homeward_k65_growing_refused.Holds := by
 w_on;o_law;k_head;(case hw=>w_witness2)
 k_fill
 refine LV.My.walk (l:=PySem.Challenge.rw_homeward_k65_growing_refused) rfl rfl (λ w h Y=>PySem.W.kIn_of Y) ?F
 case F =>
 intro w g j h KX G f;refine' LV.My.qaV4 f ?j0 ?j1 ?j2 ?j3 ?j4 ?j5 ?j6 ?j7 ?j8 ?j9 ?j10 ?j11 ?j12 ?j13 ?j14 ?j15 ?j16 ?j17 ?j18 ?j19 ?j20 ?j21 ?j22 ?j23 ?j24 ?j25 ?j26 ?j27 ?j28 ?j29 ?j30 ?j31 ?j32 ?j33 ?j34 ?j35 ?j36 ?j37 ?j38 ?j39 ?j40 ?j41 ?j42 ?j43 ?j44 ?j45 ?j46 ?j47 ?j48 ?j49 ?j50 ?j51 ?j52 ?j53 ?j54 ?j55 ?j56 ?j57 ?j58 ?j59 ?j60 ?j61 ?j62 ?j63 ?j64 ?j65 ?j66 ?j67 ?j68 ?j69 ?j70 ?j71 ?j72 ?j73 ?j74 ?j75 ?j76 ?j77 ?j78 ?j79 ?j80 ?j81 ?j82 ?j83 ?j84 ?j85 ?j86 ?j87 ?j88 ?j89 ?j90 ?j91 ?j92 ?j93 ?j94 ?j95 ?j96 ?j97 ?j98 ?j99 ?j100 ?j101 ?j102 ?j103 ?j104 ?j105 ?j106 ?j107 ?j108 ?j109 ?j110 ?j111 ?j112 ?j113 ?j114 ?j115 ?j116 ?j117 ?j118 ?j119 ?j120 ?j121 ?j122 ?j123 ?j124 ?j125 ?j126 ?j127 ?j128 ?j129 ?j130 ?j131 ?j132 ?j133 ?j134 ?j135 ?j136 ?j137 ?j138 ?j139 ?j140 ?j141 ?j142 ?j143 ?j144 ?j145 ?j146 ?j147 ?j148 ?j149 ?j150 ?j151 ?j152 ?j153 ?j154 ?j155 ?j156 ?j157 ?j158 ?j159 ?j160 ?j161 ?j162 ?j163 ?j164 ?j165 ?j166 ?j167 ?j168 ?j169 ?j170 ?j171 ?j172 ?hb
 case j54=>walk_at "c"
 case j55=>walk_at "c"
 case j56=>walk_at "c"
 case j57=>walk_at "c"
 case j72=>refine' ⟨⟨?_,?_,?_,?_⟩,mg_of (by assumption) (by assumption) ?a⟩;(case a=>k_is);k_is;k_is;k_is;k_is
 case j79=>refine' ⟨⟨?_,?_,?_,?_⟩,mg_of (by assumption) (by assumption) ?a⟩;(case a=>k_is);k_is;k_is;k_is;k_is
 case j85=>refine' ⟨⟨?_,?_,?_,?_⟩,mg_of (by assumption) (by assumption) ?a⟩;(case a=>k_is);k_is;k_is;k_is;k_is
 case j89=>walk_at "c"
 case j91=>walk_at "c"
 case j110=>walk_at "c"
 case j129=>walk_at "c"
 case j148=>walk_at "c"
 case j167=>walk_at "c"
 case j168=>walk_at "c"
 case j169=>walk_at "c"
 case j170=>walk_at "c"
 case j171=>walk_at "c"
 case j172=>walk_at "c"
 case j0=>walk_at "d"
 case j1=>walk_at "e"
 case j2=>walk_at "e"
 case j3=>walk_at "e"
 case j4=>walk_at "e"
 case j5=>walk_at "d"
 case j6=>walk_at "d"
 case j7=>walk_at "d"
 case j8=>walk_at "d"
 case j9=>walk_at "d"
 case j10=>walk_at "d"
 case j11=>walk_at "e"
 case j12=>walk_at "e"
 case j13=>walk_at "e"
 case j14=>walk_at "e"
 case j15=>walk_at "e"
 case j16=>walk_at "e"
 case j17=>walk_at "d"
 case j18=>walk_at "d"
 case j19=>walk_at "d"
 case j20=>walk_at "d"
 case j21=>walk_at "d"
 case j22=>walk_at "d"
 case j23=>walk_at "d"
 case j24=>walk_at "d"
 case j25=>walk_at "d"
 case j26=>walk_at "d"
 case j27=>walk_at "d"
 case j28=>walk_at "d"
 case j29=>walk_at "d"
 case j30=>refine' LV.mdmkN ?l ?c ?k ?a ?i ?t ?b ?bn;(case a | i | l | c | k | t=>k_is);(case b=>intro _ _ _ _ _ _;repeat' first | exact LV.ec0 (⟨_,rfl,rfl⟩) | refine LV.ec1 λ _=>?_);(case bn=>intro _ _ _ _ _ _;refine LV.ec2 ?_;repeat' first | exact LV.ec0 (⟨_,rfl,rfl⟩) | refine LV.ec1 λ _=>?_)
 case j31=>walk_at "e"
 case j32=>walk_at "e"
 case j33=>walk_at "e"
 case j34=>walk_at "e"
 case j35=>walk_at "e"
 case j36=>walk_at "e"
 case j37=>walk_at "d"
 case j38=>walk_at "d"
 case j39=>walk_at "e"
 case j40=>walk_at "e"
 case j41=>walk_at "e"
 case j42=>walk_at "e"
 case j43=>walk_at "e"
 case j44=>walk_at "e"
 case j45=>walk_at "e"
 case j46=>walk_at "d"
 case j47=>walk_at "d"
 case j48=>walk_at "d"
 case j49=>walk_at "d"
 case j50=>walk_at "d"
 case j51=>walk_at "d"
 case j52=>walk_at "d"
 case j53=>walk_at "d"
 case j58=>walk_at "z"
 case j59=>walk_at "z"
 case j60=>walk_at "z"
 case j61=>walk_at "z"
 case j62=>walk_at "z"
 case j63=>walk_at "z"
 case j64=>walk_at "z"
 case j65=>walk_at "z"
 case j66=>walk_at "z"
 case j67=>walk_at "z"
 case j68=>walk_at "z"
 case j69=>walk_at "z"
 case j70=>walk_at "z"
 case j71=>walk_at "z"
 case j74=>walk_at "n"
 case j75=>walk_at "n"
 case j76=>walk_at "n"
 case j77=>walk_at "n"
 case j78=>refine⟨?_,?_,?_,?_,kf_of ?_ ?_ ?_ ?_ ?_ ?_ ?_⟩<;>walk_at "q"
 case j81=>walk_at "n"
 case j82=>walk_at "n"
 case j83=>walk_at "n"
 case j84=>refine⟨?_,?_,?_,?_,kf_of ?_ ?_ ?_ ?_ ?_ ?_ ?_⟩<;>walk_at "q"
 case j87=>walk_at "n"
 case j88=>walk_at "n"
 case j90=>walk_at "x9"
 case j92=>walk_at "x9"
 case j93=>walk_at "q"
 case j95=>walk_at "n"
 case j96=>walk_at "ix"
 case j97=>walk_at "q"
 case j98=>walk_at "q"
 case j99=>walk_at "q"
 case j100=>walk_at "q"
 case j101=>walk_at "q"
 case j102=>walk_at "q"
 case j103=>walk_at "q"
 case j104=>walk_at "q"
 case j105=>walk_at "q"
 case j106=>walk_at "q"
 case j107=>walk_at "q"
 case j108=>walk_at "q"
 case j109=>walk_at "q"
 case j111=>walk_at "x9"
 case j112=>walk_at "q"
 case j114=>walk_at "n"
 case j115=>walk_at "ix"
 case j116=>walk_at "q"
 case j117=>walk_at "q"
 case j118=>walk_at "q"
 case j119=>walk_at "q"
 case j120=>walk_at "q"
 case j121=>walk_at "q"
 case j122=>walk_at "q"
 case j123=>walk_at "q"
 case j124=>walk_at "q"
 case j125=>walk_at "q"
 case j126=>walk_at "q"
 case j127=>walk_at "q"
 case j128=>walk_at "q"
 case j130=>walk_at "x9"
 case j131=>walk_at "q"
 case j133=>walk_at "n"
 case j134=>walk_at "ix"
 case j135=>walk_at "q"
 case j136=>walk_at "q"
 case j137=>walk_at "q"
 case j138=>walk_at "q"
 case j139=>walk_at "q"
 case j140=>walk_at "q"
 case j141=>walk_at "q"
 case j142=>walk_at "q"
 case j143=>walk_at "q"
 case j144=>walk_at "q"
 case j145=>walk_at "q"
 case j146=>walk_at "q"
 case j147=>walk_at "q"
 case j149=>walk_at "x9"
 case j150=>walk_at "q"
 case j152=>walk_at "n"
 case j153=>walk_at "ix"
 case j154=>walk_at "q"
 case j155=>walk_at "q"
 case j156=>walk_at "q"
 case j157=>walk_at "q"
 case j158=>walk_at "q"
 case j159=>walk_at "q"
 case j160=>walk_at "q"
 case j161=>walk_at "q"
 case j162=>walk_at "q"
 case j163=>walk_at "q"
 case j164=>walk_at "q"
 case j165=>walk_at "q"
 case j166=>walk_at "q"
 case j73=>refine⟨?_,?_,?_,?_⟩<;>k_is
 case j80=>refine⟨?_,?_,?_,?_⟩<;>k_is
 case j86=>refine⟨?_,?_,?_,?_⟩<;>k_is
 case j94=>walk_at "me"
 case j113=>walk_at "me"
 case j132=>walk_at "me"
 case j151=>walk_at "me"
 case hb=>exact λ s v=>.of_eq rfl
#print axioms PySem.Challenge.cw_homeward_k65_growing_refused_holds
