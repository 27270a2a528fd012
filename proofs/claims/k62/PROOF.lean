import PyProof.Rows.All
import Wide.All
import OpenK.AllK
import Wide.FinOn
import Lean
import PyProof.EqAt
import PyProof.EqKinds
import PyProof.TupleCall
import PyProof.CompFree
import KE.KIsAll
import PyProof.AttrMiss
import PyProof.IsiH_list
import KE.KDictOf
import PyProof.ConsumeWalk
import PyProof.Rows.SetFrom
import PyProof.NeKinds
import PyProof.AutoListH
import PyProof.EnumMake
import PyProof.EnumFor
import PyProof.EnumStmt
import PyProof.LayNew
import PyProof.Rows.EnumRows
import KE.KDictList
import KE.KItemsList
import PySem.Challenge.RW_homeward_k62_whole_as_built_anew
set_option linter.all false
set_option Elab.async false
def zA0:=@List.count_append
def zA1:=@Option.bind_eq_some_iff
def zA2:=@List.getElem?_eq_some_iff
def zA3:=@Nat.le_refl
def zA4:=@PySem.Heap.get?_push_of_some
def zA5:=@List.size_toArray
def zA6:=@List.mem_cons_of_mem
def zA7:=@List.length_map
def zA8:=@of_decide_eq_true
def zA9:=@PySem.Heap.lt_size
def zAa:=@List.mem_append
def zAb:=@List.mem_cons_self
def zAc:=@Bool.and_eq_true_iff
def zAd:=@Option.map_eq_some_iff
def zAe:=@List.mem_singleton
def zAf:=@List.length_append
def zAg:=@List.append_nil
def zAh:=@Nat.zero_add
def zAi:=@Nat.lt_of_lt_of_le
def zAj:=@decide_eq_true
def zAk:=@Bool.false_ne_true
def zAl:=@List.count_cons
def zAm:=@List.append_assoc
def zAn:=@List.mem_range
def zAo:=@List.mem_cons
def zAp:=@List.length_cons
def zAq:=@Nat.ne_of_lt
def zAr:=@Nat.le_trans
def zAs:=@List.take_of_length_le
def zAt:=@List.lookup_cons
def zAu:=@List.getElem?_append_left
def zAv:=@List.mem_filter
def zAw:=@List.mem_append_right
def zAx:=@PySem.Heap.get?_push_size
def zAy:=@List.mem_of_getElem?
def zAz:=@Option.isSome_iff_exists
def zB0:=@List.map_cons
def zB1:=@List.forall_mem_cons
def zB2:=@List.getElem?_map
def zB3:=@of_decide_eq_false
def zB4:=@Array.toList_append
def zB5:=@Array.length_toList
def zB6:=@List.cons_merge_cons
def zB7:=@List.length_range
def zB8:=@List.nil_append
def zB9:=@List.getElem?_eq_getElem
def zBa:=@decide_eq_false
def zBb:=@decide_eq_true_eq
def zBc:=@List.getElem?_set_ne
def zBd:=@List.mem_map
def zBe:=@List.map_append
def zBf:=@List.take_append_drop
def zBg:=@List.all_eq_true
def zBh:=@Nat.zero_le
def zBi:=@PySem.Heap.get?_update_other
def zBj:=@Bool.and_eq_true
def zBk:=@beq_self_eq_true
def zBl:=@Array.perm_iff_toList_perm
def zBm:=@List.forall_mem_append
def zBn:=@List.replicate_succ
def zBo:=@List.nodup_append
def zBp:=@List.length_take
def zBq:=@List.cons_append
def zBr:=@List.map_map
def zBs:=@List.pairwise_map
def zBt:=@List.find?_cons
def zBu:=@List.filterMap_cons
def zBv:=@decide_eq_decide
def zBw:=@List.length_filter_le
def zBx:=@Nat.lt_irrefl
def zBy:=@List.flatten_cons
def zBz:=@List.nodup_cons
def zC0:=@Int.emod_eq_of_lt
def zC1:=@beq_iff_eq
def zC2:=@List.filter_cons_of_pos
def zC3:=@List.filter_cons_of_neg
def zC4:=@beq_eq_false_iff_ne
def zC5:=@Nat.le_of_not_lt
def zC6:=@List.not_mem_nil
def zC7:=@Nat.mod_eq_of_lt
def zC8:=@List.findIdx?_cons
def zC9:=@Int.emod_lt_of_pos
def zCa:=@Nat.le_of_lt
def zCb:=@Nat.le_of_eq
def zCc:=@List.any_cons
set_option genSizeOf false
set_option genInjectivity false
set_option maxRecDepth 100000
noncomputable section
structure PySem.W.Fast where
 (tw3190520161608072448 tw15881971035879090148 tw16611164932375551925 tw8152767233173346499 tw6553534662886203734 tw17209353303270488069 tw15112772265806120839 tw10207027001488368007 tw8903962104767101133 tw15886875685983617598 tw6536708337234843489 tw352092076030489187 tw12768382922101694017 tw712072658911310926 tw14735453550996025655 tw9224692229332963729 tw17102775252881574050 tw8264853492296739337 tw12510240257965941229 tw7735600111924130586 tw10384628265251453983 tw7086497507293021730 tw7051526046167655560 tw7553724591870384357 tw16441054161508433192 tw7793665323223810024 tw12485984865571603783 tw5861150756305004591 tw10223110912619804271 tw3297133061401602488 tw2508702655801483841 tw3999087723396312417 tw2457941381971945033 tw5457674025427245048 tw8981053611398029434 tw1683269219535607681 tw1865914477679299073 tw8414398609591974406 tw9982458375274094886 tw17156092849320492215
 tw7657222938573331405 tw7767239443765338926 tw1575339757183375695 tw5460611673331442153 tw17474383237334134958 tw2634552848144582684 tw18000251995798815770 tw14236800882851265861 tw6821499479098449991 tw14465588441108300245 tw10580209457175982095 tw11992058813927091773 tw9527865243887006615 tw4903410192238041006 tw3299397274607928608 tw12711476044717975558 tw18267881872589385547 tw4999657246184474961 tw17838568567099318574 tw10396256941634664740 tw14676935172584096886 tw5089138029755503695 tw24381928305575636 tw10703082102059090127 tw11795408195801228772 tw3992117885729837023 tw10587251879745839902 tw15674791605315601306 tw12379507052148216604 tw5009748074525642848 tw6508677838135770665 tw6054552796041905669 tw12472519227446445569 tw10040310052316750481 tw17384571805166543779 tw252561141059835954 tw18279455109289386544 tw4460352500520529210 tw9276997951354107475 tw13353101946187315606
 tw16179277616098568313 tw12471500326394326000 tw7715505739315526609 tw14041965228033129608 tw10480092290150644237 tw1761965293021223055 tw6087340152425965071 tw5177089859933552299 tw10031282951377103716 tw11570430180548635363 tw107815446142654510 tw578613040431120410 tw11375869105223566253 tw10292641923269732688 tw15029310476880948885 tw16815086564043335583 tw16999028214950701111 tw14992095376044806409 tw12082451795068161398 tw14263773019910458846 tw9873506148150434006 tw16677554915797047145 tw2118914155402252974 tw10522314093204895220 tw4938964658133452023 tw3641697018906407749 tw5536384133042111715 tw1750939657930178954 tw2857833917507997076 tw11344007365845800742 tw14098022714666804652 tw11217372445250424920 tw4948602789341148826 tw6201323195322858440 tw3246204445783382619 tw6745820291706958375 tw5676396014102376783 tw7258570292831043953 tw9278402390439529117 tw15390610457270382981
 tw13733605198685747491 tw8870869595337632816 tw9264920389834777155 tw336503512080362526 tw14268483010087519111 tw17475536377767337910 tw13033425019841163632 tw9444123458767952039 tw13553638012094563159 tw9379444927931754721 tw10911596512775701393 tw5455827268283120893 tw12964855249242320128 tw9191190286784225512 tw1139350309165306151 tw1121499935407117080 tw205887777865323308 tw12225841690003939928 tw8351832447013201880 tw1948638344171467123 tw15061007206939373958 tw2005292952213709749 tw12655335147735372090 tw15541202955017152846 tw2367423265132347382 tw320111259075758111 tw3340451284250447649 tw10106057312689399048 tw18162975898812728973 tw17198927394460887002 tw7153764929283842838 tw4747744674180943494 tw6257495193314687363 tw3721058700448177684 tw12189270355115576056 tw17967532091107176028 tw4800740555916077843 tw11721910684736524395 tw7807281356014173834 tw495251707801029007
 tw4047765390891538370 tw7967293546265385062 tw1291897125985924044 tw4654325464166406464 tw6636364581626339665 tw9481670691322575922 tw7323270420614281190 tw17798709806067860888 tw14906047242062495383 tw13297528043358287446 tw10115824451433029096 tw16086593420217481676 tw8466219331706298821 tw14854111084450293744 tw5245405949791981980 tw17534220945852580899 tw14225756219524600971 tw10032061230323144035 tw8258096430355678686 tw6356499364246689248 tw6236181351966261331 tw17038573612756763373 tw10015003323816947749 tw3846678538791934304 tw3799963817146513603 tw7242369550519327918 tw13349881181034760069 tw12429893308196081520 tw10823536953937913434 tw2327929337503833662 tw17652689820744756903 tw12689283865566006255 tw7276524880242153946 tw7787954245154769409 tw3672075554373910615 tw3423168244792670817 tw2951281085580037216 tw15658164557824128271 tw6741447449670784799 tw15543570480167193762
 tw13700329299782537445 tw7553886075724288411 tw3479416286939173375 tw16724825032197270523 tw17818279244966387262 tw17256365387997649635 tw10929915438466411687 tw14503786060496514350 tw13276153975743068379 tw16942107308117747621 tw15839319695313417888 tw15128179961394154247 tw15123060053887775501 tw14189586367359065314 tw10167440200916986099 tw5330744846977895110 tw15511378169656334176 tw10302349666954939964 tw12800941051534402548 tw2979698387259730816 tw6616082057317716855 tw17801121131582388897 tw16871636382951291836 tw6417136792113516842 tw1027912239917426649 tw3232639772677269296 tw8392302135159258447 tw8298274424596662097 tw8094727547918770945 tw7945306975006959630 tw6127191191918913930 tw4132246589443780083 tw404248752614833713 tw2503455598425937063 tw2022118512600183905 tw182197809446582591 tw17994759439745507169 tw17258808226888673434 tw16375795537243182255 tw15925432177340948089
 tw15816425796437010638 tw14741642364862402575 tw13531696090380817658 tw1297479406729099558 tw11300003925255740251 tw10893097576780833902 tw10835895531125812569 tw10275714996311337899 tw15511902307375538158 tw13805513524346637746 tw18361678875604843091 tw1299341534310737491 tw11115239097526684845 tw9042915611566663472 tw7292168028176855694 tw5706617906556472978 tw3495523113975993057 tw18146531515823454581 tw15977443979469779035 tw14596608437275825156 tw11849278836556492605 tw10393534030325731123 tw8829621468790032185 tw13204236440028108425 tw14504658799209667068 tw12819524203101278447 tw6694823102305192034 tw10035973652899149023 tw9365644271382410528 tw13865921040587529515 tw10765700067874743110 tw8953039936736304772 tw8669441393448678822 tw8258908697148183886 tw801355677503201107 tw7068647478938503149 tw6214470868618238437 tw5997047579930703379 tw5477488201844323536 tw5318544375239642895
 tw4284589783382271768 tw381661688870294687 tw265361370720886198 tw2261168845603715314 tw2082454533620526638 tw1878511668628455407 tw18387959842390505865 tw18317503579551109692 tw1796935347518206218 tw17499150555635974746 tw17305495925854165055 tw16832719384387848921 tw16576531310730948137 tw14762675721239102686 tw13870587690014497196 tw13865178838469042869 tw13158104474279193749 tw12946837999227245594 tw12651318709152679960 tw10528924126097899356 tw10360682674653852538 tw8990201242394386779 tw1465214196051202094 tw805261029628722248 tw9435104716282053709 tw983577489573785224 tw9343499524054509792 tw8579965084900774333 tw7708817809067161494 tw6799194056653061987 tw5888365138824576330 tw4693229565815671326 tw3065797243083049041 tw2760760629656460038 tw17521082385896666126 tw15870280899871848999 tw14420739846014254741 tw11973528896162277065 tw10534022929561385540 tw5741822980166994560
 tw4367165134671791332 tw17816265676259888493 tw3429621557032049056 tw4645966122775235221 tw16497535052800445123 tw1788689609516722303 tw2268012719192596487 tw16356892381959693577 tw17754018322041078859 tw15602568817645782851:Nat)
namespace L2
open PySem PySem.Spec PyProof.Rows
variable{M:Model}{N:List Str}{base:Heap}{body:List Stmt}{ch fp:List Addr}{i n t':Nat}{kw:List (Str×Value)}{mg:Str->Option Value}{op:CmpOp}{pl:Sem Bool}{us:List Value}
abbrev Key:=Sum Int Str
noncomputable def Eu:Key->Value->Bool
 | .inl k,v=>Value.isInt k v
 | .inr x,v=>Value.isStrOf x v
noncomputable def keyH(w:World):Key->Int
 | .inl k=>hashInt k
 | .inr x=>hashStr w x
theorem qc5:∀{k:Key}{v:Value},Eu k v=true->(∃ i t,k=Sum.inl i/\v=Value.int i t)∨(∃ x t,k=Sum.inr x/\v=Value.str x t)
 | .inl i,v,h=>by
   obtain⟨t,e⟩:=Value.isInt_shape (k:=i) (v:=v) h;exact .inl ⟨i,t,rfl,e⟩
 | .inr x,v,h=>by
   obtain⟨t,e⟩:=Value.isStrOf_shape (x:=x) (v:=v) h;exact .inr ⟨x,t,rfl,e⟩
theorem qao0(i:Int)(t:Tok):Eu (.inl i) (.int i t)=true:=by simp[Eu,Value.isInt]
theorem qan9(x:Str)(t:Tok):Eu (.inr x) (.str x t)=true:=by simp[Eu,Value.isStrOf]
theorem qaT0(a b:Int):decide ((Sum.inl a:Key)=Sum.inl b)=(a == b):=by
 by_cases e:a=b
 . subst e;simp
 have h:¬ (Sum.inl a:Key)=Sum.inl b:=λ q=>e (Sum.inl.inj q)
 rw[zBa h];exact(zC4.mpr e).symm
theorem qaS7(a b:Str):decide ((Sum.inr a:Key)=Sum.inr b)=decide (a=b):=by
 by_cases e:a=b
 . subst e;simp
 have h:¬ (Sum.inr a:Key)=Sum.inr b:=λ q=>e (Sum.inr.inj q)
 rw[zBa h,zBa e]
theorem qaS9(a:Int)(b:Str):decide ((Sum.inl a:Key)=Sum.inr b)=false:=zBa (λ q=>nomatch q)
theorem qaS8(a:Str)(b:Int):decide ((Sum.inr a:Key)=Sum.inl b)=false:=zBa (λ q=>nomatch q)
def qf0(prog:Program)(w:World):PySem.KeyKind prog w Key where
 is:=Eu
 hash:=keyH w
 inj:=λ v a b g f=>by
   rcases qc5 g with⟨i,t,rfl,rfl⟩ | ⟨x,t,rfl,rfl⟩
   . rcases qc5 f with⟨j,u,rfl,e⟩ | ⟨y,u,rfl,e⟩
     . injection e with c _;rw[c]
     exact nomatch e
   rcases qc5 f with⟨j,u,rfl,e⟩ | ⟨y,u,rfl,e⟩
   . exact nomatch e
   injection e with c _;rw[c]
 byValue:=λ k v h=>by
   rcases qc5 h with⟨i,t,rfl,rfl⟩ | ⟨x,t,rfl,rfl⟩<;>rfl
 pyHash:=λ d h=>by
   rcases qc5 d with⟨i,t,rfl,rfl⟩ | ⟨x,t,rfl,rfl⟩
   . exact wpAny_pyHash_int h
   exact wpAny_pyHash_str h
 eqBool:=λ l d h=>by
   rcases qc5 l with⟨i,t,rfl,rfl⟩ | ⟨x,t,rfl,rfl⟩
   . rcases qc5 d with⟨j,u,rfl,rfl⟩ | ⟨y,u,rfl,rfl⟩
     . rw[qaT0] at h;exact wpAny_eqBool_int h
     rw[qaS9] at h;exact SeqAt.EqAt.int_str i t y u _ _ _ _ h
   rcases qc5 d with⟨j,u,rfl,rfl⟩ | ⟨y,u,rfl,rfl⟩
   . rw[qaS8] at h;exact SeqAt.EqAt.str_int x t j u _ _ _ _ h
   rw[qaS7] at h;exact wpAny_eqBool_str h
 «strs»:=λ k x t v h=>by
   rcases qc5 h with⟨i,u,rfl,e⟩ | ⟨y,u,rfl,e⟩
   . exact nomatch e
   injection e with c _
   subst c;cases v<;>rfl
theorem qZ6(prog:Program)(w:World)(i:Int)(t:Tok):(qf0 prog w).is (.inl i) (.int i t)=true:=qao0 i t
theorem qZ5(prog:Program)(w:World)(x:Str)(t:Tok):(qf0 prog w).is (.inr x) (.str x t)=true:=qan9 x t
inductive V where
 | non | bl (b:Bool) | int (i:Int) | str (x:Str) | byt (b:Array UInt8) | flt (b:UInt64) | ref (a:Addr) | ty (n:String)
 deriving DecidableEq
def RelV:V->Value->Prop
 | .non,u=>u=Value.none
 | .bl b,u=>u=Value.bool b
 | .int i,u=>∃ t,u=Value.int i t
 | .str x,u=>∃ t,u=Value.str x t
 | .byt b,u=>∃ t,u=Value.bytes b t
 | .flt b,u=>∃ t,u=Value.float b t
 | .ref a,u=>u=Value.ref a
 | .ty n,u=>u=Value.type n
abbrev Vals:List V->List Value->Prop:=Paired RelV
theorem Vals.length{xs:List V}(r:Vals xs us):xs.length=us.length:=Paired.length r
theorem Vals.get:∀{xs:List V}{us:List Value}{i:Nat}{x:V},Vals xs us->xs[i]? = some x->∃ u,us[i]? = some u/\RelV x u
 | _,_,_,_,.nil,e=>by simp at e
 | _,_,0,_,.cons r _,e=>by simp at e;subst e;exact⟨_,rfl,r⟩
 | _,_,i+1,x,.cons _ t,e=>by
   obtain⟨u,a,b⟩:=Vals.get (i:=i) (x:=x) t (by simpa using e);exact⟨u,by simpa using a,b⟩
theorem Vals.set{x:V}{u:Value}(r:RelV x u):∀{xs:List V}{us:List Value}(i:Nat),Vals xs us->Vals (xs.set i x) (us.set i u)
 | _,_,_,.nil=>.nil
 | _,_,0,.cons _ t=>.cons r t
 | _,_,i+1,.cons q t=>.cons q (Vals.set r i t)
theorem Vals.append{xs ys:List V}{us a:List Value}(h:Vals xs us)(s:Vals ys a):Vals (xs++ys) (us++a):=by
 induction h with
 | nil=>exact s
 | cons r t i=>exact .cons r i
theorem Vals.take:∀{xs:List V}{us:List Value}(n:Nat),Vals xs us->Vals (xs.take n) (us.take n)
 | _,_,0,_=>.nil
 | _,_,_+1,.nil=>.nil
 | _,_,n+1,.cons r t=>.cons r (Vals.take n t)
theorem Vals.drop:∀{xs:List V}{us:List Value}(n:Nat),Vals xs us->Vals (xs.drop n) (us.drop n)
 | _,_,0,r=>r
 | _,_,_+1,.nil=>.nil
 | _,_,n+1,.cons _ t=>Vals.drop n t
def RelO:Option V->Option Value->Prop
 | some v,some u=>RelV v u
 | none,none=>True
 | _,_=>False
def KV{κ:Type}:List (κ×V)->List (κ×Value)->Prop:=Paired λ(p:κ×V)(q:κ×Value)=>p.1=q.1/\RelV p.2 q.2
noncomputable def kV:Key->V
 | .inl i=>.int i
 | .inr x=>.str x
inductive HO where
   | lst (xs:List V)
   | tup (xs:List V)
   | dK (kvs:List (Key×V)) | dT (kvs:List (List Key×V))
   | set (S:Int->Bool) (n:Nat)
   | ins (C dx:Addr) (fs:List (Str×V))
   | own (x:Addr)
   | xd (fs:List (Str×V))
   | met (f x:Addr)
   | rng (lo hi:Int)
   | frz (o:Obj) (u:HO)
   | tbl (ps:Array Value)
   | ext (φ:Heap->Prop)
abbrev Hp:=Addr->Option HO
noncomputable def upd(H:Hp)(a:Addr)(o:HO):Hp:=λ b=>if b=a then some o else H b
theorem qb9{H:Hp}{a:Addr}{o:HO}:upd H a o a=some o:=by unfold upd;rw[if_pos rfl]
theorem qd0{H:Hp}{a b:Addr}{o:HO}(h:b≠a):upd H a o b=H b:=by unfold upd;rw[if_neg h]
theorem qaD7{H:Hp}{a:Addr}{o u:HO}:upd (upd H a o) a u=upd H a u:=by
 funext b;unfold upd;split<;>rfl
theorem ne_of{H:Hp}{a b:Addr}{o u:HO}(h:H a=some o)(h':H b=some u)(d:o≠u):a≠b:=by
 intro e;subst e;rw[h] at h';exact d (Option.some.inj h')
theorem qe6{H:Hp}{a b:Addr}{o:HO}(h:H a=some o)(h':H b=none):a≠b:=by
 intro e;subst e;rw[h] at h';cases h'
section
variable(P:Program)(w:World)
def ObjOk(H:Hp)(h:Heap)(a:Addr):HO->Prop
 | .lst xs=>xs.length<=sizeLine/\∃(its:List Value)(n:Nat),Vals xs its/\h.get? a=some { cls:=.type "list",data:=.seq its.toArray n }
 | .tup xs=>xs.length<=sizeLine/\∃ its:List Value,Vals xs its/\IsTup h a its.toArray
 | .dK kvs=>kvs.length<=sizeLine/\(a == sysModules)=false/\∃ vs,KV kvs vs/\h.DictOf (qf0 P w) a vs
 | .dT kvs=>kvs.length<=sizeLine/\(a == sysModules)=false/\∃ xs:List (List Key×Addr×Value),
     Paired (λ(p:List Key×V)(q:List Key×Addr×Value)=>p.1=q.1/\H q.2.1=some (.tup (p.1.map kV))/\RelV p.2 q.2.2) kvs xs /\
     ∃ o es b,h.get? a=some o/\o.ExactDict/\o.data=.dict es b/\es.toList=xs.map (entryOfKey (tupleKind (qf0 P w)))/\(xs.map (·.1)).Nodup
 | .set S n=>h.SetOf (intKind P w) a S n
 | .ins C dx fs=>H dx=some (.own a)/\fs.length<=1000/\dx≠a/\h.get? a=some (PySem.W.instObj C dx) /\
     ∃ mA,h.Ns1 dx mA/\(∀ f,RelO (fs.lookup f) (mA f))/\PySem.Within mA (fs.map (·.1))
 | .own _=>∃ o,h.get? a=some o
 | .xd fs=>∃ mA,h.Ns1 a mA/\∀ f,RelO (fs.lookup f) (mA f)
 | .rng lo hi=>∃ t u v,h.get? a=some { cls:=.type "range",data:=.fields #[.int lo t,.int hi u,.int 1 v] }
 | .frz o u=>h.get? a=some o/\ObjOk H h a u
 | .tbl ps=>h.get? a=some { cls:=.none,data:=.fields ps }
 | .met f x=>h.get? a=some (PySem.W.methodObj (.ref f) (.ref x))
 | .ext φ=>φ h/\(∃ o,h.get? a=some o)/\∀ h1 h2:Heap,φ h1->(∀ o,h1.get? a=some o->h2.get? a=some o)->φ h2
def HOk(H:Hp)(h:Heap):Prop:=∀ a o,H a=some o->ObjOk P w H h a o
end
section
variable{P:Program}{w:World}{H H':Hp}{h h':Heap}{a:Addr}{o:HO}
theorem ObjOk.lt(x:ObjOk P w H h a o):a < h.objs.size:=by
 cases o with
 | lst c=>obtain⟨_,_,_,_,e⟩:=x;exact zA9 e
 | tup c=>obtain⟨_,_,_,p⟩:=x;exact p.lt
 | dK b=>obtain⟨_,_,_,_,o,_,_,e,_⟩:=x;exact zA9 e
 | dT b=>obtain⟨_,_,_,_,o,_,_,e,_⟩:=x;exact zA9 e
 | set S n=>obtain⟨o,_,_,_,e,_⟩:=x;exact zA9 e
 | ins C g d=>obtain⟨_,_,_,e,_⟩:=x;exact zA9 e
 | own y=>obtain⟨_,e⟩:=x;exact zA9 e
 | xd d=>obtain⟨_,⟨_,_,_,e,_⟩,_⟩:=x;exact zA9 e
 | rng i j=>obtain⟨_,_,_,e⟩:=x;exact zA9 e
 | frz k u=>obtain⟨e,_⟩:=x;exact zA9 e
 | tbl l=>exact zA9 (show h.get? a=some _ from x)
 | met f y=>exact zA9 (show h.get? a=some _ from x)
 | ext φ=>obtain⟨_,⟨_,e⟩,_⟩:=x;exact zA9 e
theorem Paired.mapP{α β:Type}{F G:α->β->Prop}{l:List α}{m:List β}(h:Paired F l m)(f:∀ a b,F a b->G a b):Paired G l m:=by
 induction h with
 | nil=>exact .nil
 | cons r t i=>exact .cons (f _ _ r) i
theorem ObjOk.stay(x:ObjOk P w H h a o)(k:∀ b u,(b=a∨H b=some (.own a))->h.get? b=some u->h'.get? b=some u)(E:∀ b,H b=some (.own a)->H' b=some (.own a))(F:∀ b xs,H b=some (.tup xs)->H' b=some (.tup xs)):ObjOk P w H' h' a o:=by
 induction o with
 | lst xs=>obtain⟨z,l,n,r,e⟩:=x;exact⟨z,l,n,r,k _ _ (.inl rfl) e⟩
 | tup xs=>obtain⟨z,l,r,g,e,c⟩:=x;exact⟨z,l,r,g,k _ _ (.inl rfl) e,c⟩
 | dK m=>obtain⟨z,y,G,r,g,i,j,e,c⟩:=x;exact⟨z,y,G,r,g,i,j,k _ _ (.inl rfl) e,c⟩
 | dT m =>
   obtain⟨z,y,xs,r,g,i,j,e,c⟩:=x;exact⟨z,y,xs,Paired.mapP r λ p q z=>⟨z.1,F _ _ z.2.1,z.2.2⟩,g,i,j,k _ _ (.inl rfl) e,c⟩
 | set S n=>obtain⟨g,i,j,t,e,c⟩:=x;exact⟨g,i,j,t,k _ _ (.inl rfl) e,c⟩
 | ins C L I =>
   obtain⟨d,z,J,e,s,⟨A,i,j,e2,c⟩,r⟩:=x;exact⟨E _ d,z,J,k _ _ (.inl rfl) e,s,⟨A,i,j,k _ _ (.inr d) e2,c⟩,r⟩
 | own y=>obtain⟨g,e⟩:=x;exact⟨g,k _ _ (.inl rfl) e⟩
 | xd I=>obtain⟨s,⟨A,i,j,e,c⟩,r⟩:=x;exact⟨s,⟨A,i,j,k _ _ (.inl rfl) e,c⟩,r⟩
 | rng M N=>obtain⟨t,u,v,e⟩:=x;exact⟨t,u,v,k _ _ (.inl rfl) e⟩
 | frz g u K=>obtain⟨e,q⟩:=x;exact⟨k _ _ (.inl rfl) e,K q⟩
 | tbl B =>
   have e:h.get? a=some { cls:=.none,data:=.fields B }:=x;show h'.get? a=some { cls:=.none,data:=.fields B };exact k a _ (.inl rfl) e
 | met f y =>
   have e:h.get? a=some (PySem.W.methodObj (.ref f) (.ref y)):=x;show h'.get? a=some (PySem.W.methodObj (.ref f) (.ref y));exact k a _ (.inl rfl) e
 | ext φ=>obtain⟨p,⟨o,e⟩,D⟩:=x;exact⟨D _ _ p λ o q=>k _ _ (.inl rfl) q,⟨o,k _ _ (.inl rfl) e⟩,D⟩
theorem HOk.lt(x:HOk P w H h)(e:H a=some o):a < h.objs.size:=(x a o e).lt
theorem HOk.fresh(x:HOk P w H h)(e:h.objs.size<=a):H a=none:=by
 cases q:H a with
 | none=>rfl
 | some u=>exact absurd (zAi (x.lt q) e) (zBx _)
theorem HOk.kept(x:HOk P w H h)(k:∀ b u,h.get? b=some u->h'.get? b=some u):HOk P w H h':=λ a o e =>
 (x a o e).stay (λ b u _ q=>k b u q) (λ _ q=>q) λ _ _ q=>q
theorem HOk.laid(x:HOk P w H h)(k:∀ b u,h.get? b=some u->h'.get? b=some u)(i:h.objs.size<=a)(d:ObjOk P w (upd H a o) h' a o):HOk P w (upd H a o) h':=λ b u e=>by
 have f:=x.fresh i;by_cases g:b=a
 . subst g;rw[qb9] at e;cases e;exact d
 rw[qd0 g] at e;exact(x b u e).stay (λ c v _ q=>k c v q) (λ c q=>by rw[qd0 (qe6 q f)];exact q) λ c j q=>by rw[qd0 (qe6 q f)];exact q
end
def Rd(H:Hp)(a:Addr)(u:HO):Prop:=H a=some u∨∃ o,H a=some (.frz o u)
theorem Rd.ok{P:Program}{w:World}{H:Hp}{h:Heap}{a:Addr}{u:HO}(r:Rd H a u)(x:HOk P w H h):ObjOk P w H h a u:=by
 rcases r with r | ⟨o,r⟩
 . exact x a u r
 obtain⟨_,q⟩:=x a _ r;exact q
def Mut:Option HO->Prop
 | some (.lst _)=>True
 | some (.dK _)=>True
 | some (.dT _)=>True
 | some (.set _ _)=>True
 | some (.ins _ _ _)=>True
 | some (.ext _)=>True
 | _=>False
section
variable{P:Program}{w:World}{H:Hp}{h h':Heap}{x e:Addr}{o':HO}
theorem HOk.write(o:HOk P w H h)(d:Mut (H x))(m:e=x∨H e=some (.own x))(k:∀ b u,b≠e->h.get? b=some u->h'.get? b=some u)(j:∃ u,h'.get? e=some u)(l:ObjOk P w (upd H x o') h' x o'):HOk P w (upd H x o') h':=λ b u q=>by
 have nown:∀ c y,H c=some (.own y)->c≠x:=λ c y r z=>by subst z;rw[r] at d;exact d
 have ntup:∀ c f,H c=some (.tup f)->c≠x:=λ c f r z=>by subst z;rw[r] at d;exact d
 by_cases g:b=x
 . subst g;rw[qb9] at q;cases q;exact l
 rw[qd0 g] at q;by_cases a:b=e
 . have n:H b=some (.own x):=by
     rcases m with z | z
     . exact absurd (a.trans z) g
     rw[a];exact z
   rw[q] at n;cases n;obtain⟨v,p⟩:=j;exact⟨v,by rw[a];exact p⟩
 refine(o b u q).stay (λ c v i r=>k c v ?_ r) (λ c r=>by rw[qd0 (nown c b r)];exact r) λ c f r=>by rw[qd0 (ntup c f r)];exact r
 rcases i with rfl | i
 . exact a
 rintro rfl;rcases m with z | z
 . exact nown c b i z
 rw[i] at z;cases z;exact g rfl
end
structure Un(fs ex:List Addr)(H H':Hp)(h h':Heap):Prop where
 keep:∀ b o,h.get? b=some o->H b=none->b∉fs->b∉ex->h'.get? b=some o
 slot:∀ b o,h.get? b=some o->H b=none->b∈fs->b∉ex->∃ sl,h'.get? b=some { o with slots:=sl }
 free:∀ b o,h.get? b=some o->H b=none->b∉ex->H' b=none
 there:∀ b o,h.get? b=some o->b∉ex->∃ o',h'.get? b=some o'
 tups:∀ b xs,H b=some (.tup xs)->H' b=some (.tup xs)
 frzs:∀ b o u,H b=some (.frz o u)->H' b=some (.frz o u)
 tbls:∀ b ps,H b=some (.tbl ps)->∃ more,H' b=some (.tbl (ps++more))
section
variable{fs ex:List Addr}{H H1 H2:Hp}{h h1 h2 h':Heap}{a x e:Addr}{o:HO}
theorem Un.any(u:Un fs ex H H1 h h1){b:Addr}{ob:Obj}(q:h.get? b=some ob)(n:H b=none)(a:b∉ex):∃ sl,h1.get? b=some { ob with slots:=sl }:=by
 by_cases c:b∈fs
 . exact u.slot b ob q n c a
 exact⟨ob.slots,u.keep b ob q n c a⟩
theorem Un.trans(a:Un fs ex H H1 h h1)(b:Un fs ex H1 H2 h1 h2):Un fs ex H H2 h h2 where
 keep:=λ c d q n g e=>b.keep c d (a.keep c d q n g e) (a.free c d q n e) g e
 slot:=λ c d q n g e=>by
   obtain⟨p,f⟩:=a.slot c d q n g e;obtain⟨j,e2⟩:=b.slot c _ f (a.free c d q n e) g e;exact⟨j,e2⟩
 free:=λ c d q n e=>by
   obtain⟨k,f⟩:=a.there c d q e;exact b.free c k f (a.free c d q n e) e
 there:=λ c d q e=>by
   obtain⟨k,f⟩:=a.there c d q e;exact b.there c k f e
 tups:=λ c i q=>b.tups c i (a.tups c i q)
 frzs:=λ c d i q=>b.frzs c d i (a.frzs c d i q)
 tbls:=λ c l q=>by
   obtain⟨m,f⟩:=a.tbls c l q;obtain⟨o,e2⟩:=b.tbls c _ f;exact⟨m++o,by rw[e2,Array.append_assoc]⟩
theorem Un.kept(k:∀ b u,h.get? b=some u->h'.get? b=some u):Un fs ex H H h h' :=
 ⟨λ b a q _ _ _=>k b a q,λ b a q _ _ _=>⟨a.slots,k b a q⟩,λ _ _ _ n _=>n,λ b a q _=>⟨a,k b a q⟩,λ _ _ q=>q,λ _ _ _ q=>q,λ _ c q=>⟨#[],by rw[q];simp⟩⟩
theorem Un.refl:Un fs ex H H h h:=Un.kept λ _ _ q=>q
theorem Un.laid(k:∀ b u,h.get? b=some u->h'.get? b=some u)(d:h.objs.size<=a)(c:H a=none):Un fs ex H (upd H a o) h h' where
 keep:=λ b u q _ _ _=>k b u q
 slot:=λ b u q _ _ _=>⟨u.slots,k b u q⟩
 free:=λ b u q n _=>by rw[qd0 (zAq (zAi (zA9 q) d))];exact n
 there:=λ b u q _=>⟨u,k b u q⟩
 tups:=λ b e q=>by rw[qd0 (qe6 q c)];exact q
 frzs:=λ b u e q=>by rw[qd0 (qe6 q c)];exact q
 tbls:=λ b f q=>⟨#[],by rw[qd0 (qe6 q c),q];simp⟩
theorem Un.write(c:Mut (H x))(j:e=x∨H e=some (.own x))(k:∀ b u,b≠e->h.get? b=some u->h'.get? b=some u)(d:∃ u,h'.get? e=some u):Un fs ex H (upd H x o) h h':=by
 have g:∀ b,H b=none->b≠x:=λ b n z=>by subst z;rw[n] at c;exact c
 have i:∀ b,H b=none->b≠e:=λ b n z=>by
   subst z;rcases j with r | r
   . exact g b n r
   rw[n] at r;cases r
 have f:∀ b u,H b=some u->¬ Mut (some u)->b≠x:=λ b u q l z=>by subst z;rw[q] at c;exact l c
 refine⟨λ b u q n _ _=>k b u (i b n) q,λ b u q n _ _=>⟨u.slots,k b u (i b n) q⟩,λ b u q n _=>by rw[qd0 (g b n)];exact n,λ b u q _=>?_,
   λ b m q=>by rw[qd0 (f b _ q λ z=>z)];exact q,λ b u m q=>by rw[qd0 (f b _ q λ z=>z)];exact q,λ b p q=>⟨#[],by rw[qd0 (f b _ q λ z=>z),q];simp⟩⟩
 by_cases a:b=e
 . subst a;exact d
 exact⟨u,k b u a q⟩
end
noncomputable def trk(h:Heap)(H:Hp):List Addr:=(List.range h.objs.size).filter λ a=>(H a).isSome
def Fm(h:Heap)(H:Hp):Heap:=PySem.W.hideAll h (trk h H)
theorem qao3(h:Heap)(H:Hp):(Fm h H).objs.size=h.objs.size:=PySem.W.hideAll_size _ _
theorem qaB3{h:Heap}{H:Hp}{b:Addr}{o:Obj}(e:h.get? b=some o)(n:H b=none):(Fm h H).get? b=some o :=
 PySem.W.hideAll_get _ e λ a=>by
   have q:(H b).isSome=true:=(zAv.mp a).2;rw[n] at q;simp at q
theorem qaJ0{h:Heap}{H:Hp}{b:Addr}{o:Obj}(e:(Fm h H).get? b=some o):h.get? b=some o/\H b=none:=by
 have a:h.get? b=some o:=PySem.W.of_hideAll (trk h H) e;refine⟨a,?_⟩;cases q:H b with
 | none=>rfl
 | some x =>
   have c:b∈trk h H:=zAv.mpr ⟨zAn.mpr (zA9 a),by simp[q]⟩;have z:(Fm h H).get? b=none:=PySem.W.hideAll_none (trk h H) c;rw[z] at e;cases e
structure Mod(K:PySem.W.Frag)(mg:Str->Option Value)(base:Heap):Prop where
 kin:K.In base
 glob:base.Ns mainGlobals mg
 blt:∃ mb,base.Ns builtinsNs mb/\∀ x:Str,x ≠ "__name__" -> mb x=bootBuiltins x
 nolimit:base.NoLimit
structure Cx where
 prog:Program
 w:World
 K:PySem.W.Frag
 mg:Str->Option Value
 base:Heap
 A:Around
 N:List Str
 s₀:Shared
 H₀:Hp
 env:Env
 outer:List Env
 stack:List Env
 ex:List Addr
 fn:Str->Bool
 calm:Bool
 pn:List (Addr×Obj)
 xe:Value->Shared->Prop
noncomputable def frs(l:List Env):List Addr:=l.filterMap (·.frame)
abbrev Cx.fs(X:Cx):List Addr:=frs X.outer
def Vis(sc:Scope)(x:Str):Prop:=sc.names.lookup x=some .local∨sc.names.lookup x=some .cell∨sc.names.lookup x=some .free
def Loc(sc:Scope)(x:Str):Prop:=sc.names.lookup x=some .local∨sc.names.lookup x=some .cell
def Look(env:Env)(h:Heap)(m:Str->Option Value)(x:Str)(u:Value):Prop :=
 (env.kindOf x=some .local/\m x=some u)∨((env.kindOf x=some .cell∨env.kindOf x=some .free)/\∃ c,env.cells.lookup x=some c/\h.IsCell c (some u))
structure Cx.Ok(X:Cx):Prop where
 mod:Mod X.K X.mg X.base
 kind:X.env.scope.kind=.function
 glob:X.env.globals=mainGlobals
 blt:X.env.builtins=builtinsNs
 above:X.s₀.heap.objs.size<=X.env.locals
 inj:∀ x y c,X.env.cells.lookup x=some c->X.env.cells.lookup y=some c->x=y
 has:∀ x,(X.env.kindOf x=some .cell∨X.env.kindOf x=some .free)->∃ c,X.env.cells.lookup x=some c
 cab:∀ x c,X.fn x=true->X.env.cells.lookup x=some c->X.s₀.heap.objs.size<=c
 hd:X.calm=true->X.A.handled=none
 frames:X.A.frames=some X.stack
 stk:X.stack=X.outer∨(X.stack=X.env::X.outer/\X.env.frame=some X.env.locals)
 exf:∀ b∈X.ex,b≠X.env.locals/\∀ x c,X.env.cells.lookup x=some c->c≠b
 bs:∀ b o,X.base.get? b=some o->X.s₀.heap.get? b=some o/\X.H₀ b=none
 bsz:X.base.objs.size<=X.s₀.heap.objs.size
 noex:∀ b o,X.base.get? b=some o->b∉X.ex
 exfs:∀ b∈X.ex,b∉X.fs
 funs:X.s₀.heap.FunFrames X.base X.outer
 frf:∀ b∈X.fs,X.H₀ b=none
structure Inv(X:Cx)(De:List (Addr×Obj))(σ:List (Option V))(H:Hp)(s:Shared):Prop where
 ok:X.Ok
 os:s.os=X.s₀.os
 bare:AllBare s.gens
 base:Un X.fs X.ex X.H₀ H X.s₀.heap s.heap
 loc:∃ m,s.heap.Ns X.env.locals m/\∀(i:Nat)(x:Str)(v:V),X.N[i]? = some x->σ[i]? = some (some v)->Vis X.env.scope x->∃ u,RelV v u/\Look X.env s.heap m x u
 cell:∀ x c,X.env.cells.lookup x=some c->∃ v,s.heap.IsCell c v
 free:H X.env.locals=none
 freeC:∀ x c,X.env.cells.lookup x=some c->H c=none
 pin:∀ p∈X.pn++De,s.heap.get? p.1=some p.2/\H p.1=none/\p.1≠X.env.locals/\p.1∉X.fs/\∀ v,p.2.data≠.cell v
 hok:HOk X.prog X.w H s.heap
 len:σ.length=X.N.length
section
variable{X:Cx}{De:List (Addr×Obj)}{σ:List (Option V)}{H H':Hp}{s:Shared}{h':Heap}
theorem Cx.Ok.nofr(a:X.Ok){b:Addr}{o:Obj}(e:X.base.get? b=some o):b∉X.fs:=λ c=>by
 have:=(a.funs.mem c).1
 rw[e] at this;cases this
theorem Inv.bs(I:Inv X De σ H s):∀ b o,X.base.get? b=some o->s.heap.get? b=some o/\H b=none:=λ b o e =>
 ⟨I.base.keep b o (I.ok.bs b o e).1 (I.ok.bs b o e).2 (I.ok.nofr e) (I.ok.noex b o e),I.base.free b o (I.ok.bs b o e).1 (I.ok.bs b o e).2 (I.ok.noex b o e)⟩
theorem Inv.bk(I:Inv X De σ H s):∀ b o,X.base.get? b=some o->s.heap.get? b=some o:=λ b o e=>(I.bs b o e).1
theorem Inv.mod(I:Inv X De σ H s):Mod X.K X.mg X.base:=I.ok.mod
theorem Inv.kIn(I:Inv X De σ H s):X.K.In s.heap:=I.ok.mod.kin.keeps I.bk
theorem Inv.lt(I:Inv X De σ H s):X.env.locals < s.heap.objs.size:=let ⟨_,hn,_⟩:=I.loc;hn.lt
theorem Inv.sz(I:Inv X De σ H s):X.s₀.heap.objs.size<=s.heap.objs.size:=zAr I.ok.above (zCa I.lt)
theorem Inv.nofs(I:Inv X De σ H s){a:Addr}(h:s.heap.objs.size<=a):a∉X.fs:=λ b=>by
 obtain⟨_,o,c,_⟩:=I.ok.funs.mem b;exact absurd (zAi (zA9 c) (zAr I.sz h)) (zBx _)
theorem Inv.cne(I:Inv X De σ H s):∀ x c,X.env.cells.lookup x=some c->c≠X.env.locals:=λ x c e z=>by
 obtain⟨v,o,d,f⟩:=I.cell x c e;obtain⟨m,⟨g,h,i,a,b,_⟩,_⟩:=I.loc;rw[z,a] at d;cases d;rw[b] at f;cases f
theorem Inv.funs(I:Inv X De σ H s):s.heap.FunFrames X.base X.outer:=by
 have all:∀(l:List Env),(∀ b∈frs l,b∈X.fs)->X.s₀.heap.FunFrames X.base l->s.heap.FunFrames X.base l:=by
   intro l
   induction l with
   | nil=>intro _ _;trivial
   | cons g r h =>
     intro f i;obtain⟨j,⟨L,o,a,k,m,n⟩,p⟩:=i;have c:L∈X.fs:=f L (by unfold frs;rw[zBu,a];exact zAb);obtain⟨q,e⟩:=I.base.slot L o m (I.ok.frf L c) c λ z=>I.ok.exfs L z c
     exact⟨j,⟨L,_,a,k,e,n⟩,h (λ b d=>f b (by unfold frs;rw[zBu,a];exact zA6 _ d)) p⟩
 exact all X.outer (λ _ d=>d) I.ok.funs
theorem Inv.stack(I:Inv X De σ H s):s.heap.FunFrames X.base X.stack:=by
 rcases I.ok.stk with e | ⟨e,a⟩
 . rw[e];exact I.funs
 rw[e];obtain⟨m,b,_⟩:=I.loc;refine .cons (by rw[I.ok.kind];decide) a b ?_ I.funs;exact Heap.get?_none_of_le (zAr I.ok.bsz I.ok.above)
theorem Inv.stkSub(I:Inv X De σ H s):∀ b∈frs X.stack,b∈X.env.locals::X.fs:=λ b a=>by
 rcases I.ok.stk with e | ⟨e,c⟩
 . rw[e] at a;exact zA6 _ a
 rw[e] at a;unfold frs at a;rw[zBu,c] at a;exact a
theorem Inv.stkFree(I:Inv X De σ H s):∀ b∈frs X.stack,H b=none:=λ b a=>by
 rcases zAo.mp (I.stkSub b a) with e | a
 . rw[e];exact I.free
 obtain⟨_,o,c,_⟩:=I.ok.funs.mem a;exact I.base.free b o c (I.ok.frf b a) λ z=>I.ok.exfs b z a
theorem Inv.step{g':Array GenState}{d':Drawn}(I:Inv X De σ H s)(f:∀ b∈ch,(b∈X.ex∨X.s₀.heap.objs.size<=b)/\b≠X.env.locals/\(∀ x c,X.env.cells.lookup x=some c->c≠b)/\∀ p∈X.pn++De,p.1≠b)(keep:∀ b o,b≠X.env.locals->b∉X.fs->b∉ch->s.heap.get? b=some o->H b=none->h'.get? b=some o)(slot:∀ b o,b≠X.env.locals->b∈X.fs->b∉ch->s.heap.get? b=some o->H b=none->∃ sl,h'.get? b=some { o with slots:=sl })(free:∀ b o,b∉ch->s.heap.get? b=some o->H b=none->H' b=none)(there:∀ b o,b∉ch->s.heap.get? b=some o->∃ o',h'.get? b=some o')(tups:∀ b xs,H b=some (.tup xs)->H' b=some (.tup xs))(frzs:∀ b o u,H b=some (.frz o u)->H' b=some (.frz o u))(tbls:∀ b ps,H b=some (.tbl ps)->∃ more,H' b=some (.tbl (ps++more)))(ns:∀ m,s.heap.Ns X.env.locals m->h'.Ns X.env.locals m)(B:HOk X.prog X.w H' h')(K:AllBare g') :
   Inv X De σ H' { s with heap:=h',gens:=g',drawn:=d',toks:=t' }:=by
 have A:∀ b o,X.s₀.heap.get? b=some o->b≠X.env.locals:=λ b o e=>zAq (zAi (zA9 e) I.ok.above)
 have h:∀ b o,X.s₀.heap.get? b=some o->b∉X.ex->b∉ch:=λ b o e a t=>by
   rcases (f b t).1 with z | z
   . exact a z
   exact absurd (zAi (zA9 e) z) (zBx _)
 have cellK:∀ x c,X.env.cells.lookup x=some c->∀ v,s.heap.IsCell c v->h'.IsCell c v:=λ x c e v ⟨o,y,C⟩=>by
   have g:c∉ch:=λ z=>(f c z).2.2.1 x c e rfl
   by_cases E:c∈X.fs
   . obtain⟨sl,q⟩:=slot c o (I.cne x c e) E g y (I.freeC x c e)
     exact⟨_,q,C⟩
   exact⟨o,keep c o (I.cne x c e) E g y (I.freeC x c e),C⟩
 refine⟨I.ok,I.os,K,⟨λ b o e n t a=>?_,λ b o e n t a=>?_,λ b o e n a=>?_,λ b o e a=>?_,λ b xs e=>tups b xs (I.base.tups b xs e),λ b o xs e=>frzs b o xs (I.base.frzs b o xs e),λ b ps e=>?_⟩,?_,λ x c e=>?_,?_,λ x c e=>?_,λ p F=>?_,B,I.len⟩
 . exact keep b o (A b o e) t (h b o e a) (I.base.keep b o e n t a) (I.base.free b o e n a)
 . obtain⟨sl,j⟩:=I.base.slot b o e n t a
   obtain⟨D,e2⟩:=slot b _ (A b o e) t (h b o e a) j (I.base.free b o e n a);exact⟨D,e2⟩
 . obtain⟨o',j⟩:=I.base.there b o e a
   exact free b o' (h b o e a) j (I.base.free b o e n a)
 . obtain⟨o',j⟩:=I.base.there b o e a
   exact there b o' (h b o e a) j
 . obtain⟨L,j⟩:=I.base.tbls b ps e
   obtain⟨M,e2⟩:=tbls b _ j;exact⟨L++M,by rw[e2,Array.append_assoc]⟩
 . obtain⟨m,N,O⟩:=I.loc
   refine⟨m,ns m N,λ i x v j e2 P=>?_⟩;obtain⟨u,r,l⟩:=O i x v j e2 P;refine⟨u,r,?_⟩;rcases l with l | ⟨k,c,e,z⟩
   . exact .inl l
   exact .inr ⟨k,c,e,cellK x c e _ z⟩
 . obtain⟨v,z⟩:=I.cell x c e
   exact⟨v,cellK x c e v z⟩
 . obtain⟨m,⟨o,_,_,y,_⟩,_⟩:=I.loc
   exact free _ o (λ z=>(f _ z).2.1 rfl) y I.free
 . obtain⟨v,o,y,C⟩:=I.cell x c e
   exact free c o (λ z=>(f c z).2.2.1 x c e rfl) y (I.freeC x c e)
 obtain⟨e,n,G,J,d⟩:=I.pin p F;have g:p.1∉ch:=λ z=>(f p.1 z).2.2.2 p F rfl
 exact⟨keep p.1 p.2 G J g e n,free p.1 p.2 g e n,G,J,d⟩
theorem Inv.un(I:Inv X De σ H s)(u:Un X.fs [] H H' s.heap h')(c:HOk X.prog X.w H' h'):Inv X De σ H' { s with heap:=h',toks:=t' }:=by
 obtain⟨m,⟨o,l,p,h,r⟩,_⟩:=id I.loc;obtain⟨q,i⟩:=u.any h I.free (by simp);exact I.step (g':=s.gens) (d':=s.drawn) (ch:=[]) (λ _ z=>nomatch z) (λ b o _ d _ e n=>u.keep b o e n d (by simp)) (λ b o _ d _ e n=>u.slot b o e n d (by simp)) (λ b o _ e n=>u.free b o e n (by simp)) (λ b o _ e=>u.there b o e (by simp)) u.tups u.frzs u.tbls (λ t j=>by
   obtain⟨v,f,g,a,k⟩:=j;rw[h] at a;cases a;exact⟨_,f,g,i,k⟩) c I.bare
theorem Inv.call{g':Array GenState}{d':Drawn}(I:Inv X De σ H s)(u:Un (frs X.stack) ch H H' s.heap h')(g:HOk X.prog X.w H' h')(l:AllBare g')(d:∀ b∈ch,(b∈X.ex∨X.s₀.heap.objs.size<=b)/\b≠X.env.locals/\(∀ x c,X.env.cells.lookup x=some c->c≠b)/\∀ p∈X.pn++De,p.1≠b) :
   Inv X De σ H' { s with heap:=h',gens:=g',drawn:=d',toks:=t' }:=by
 obtain⟨m,⟨o,y,A,k,r⟩,_⟩:=id I.loc;obtain⟨B,h⟩:=u.any k I.free λ z=>(d _ z).2.1 rfl
 exact I.step (ch:=ch) d (λ b o h q a e n=>u.keep b o e n (λ z=>(zAo.mp (I.stkSub b z)).elim h q) a) (λ b o _ _ a e n=>u.any e n a) (λ b o a e n=>u.free b o e n a) (λ b o a e=>u.there b o e a) u.tups u.frzs u.tbls (λ C t=>by
   obtain⟨D,i,j,f,v⟩:=t;rw[k] at f;cases f;exact⟨_,i,j,h,v⟩) g l
theorem Inv.turned{it:Addr}(I:Inv X De σ H s)(k:∀ b o,b≠it->s.heap.get? b=some o->h'.get? b=some o)(g:H it=none)(f:it≠X.env.locals)(h1:it∈X.ex∨X.s₀.heap.objs.size<=it)(h2:∀ x c,X.env.cells.lookup x=some c->c≠it)(h:∀ p∈X.pn++De,p.1≠it):Inv X De σ H { s with heap:=h',toks:=t' }:=by
 have d:∀ b u,H b=some u->b≠it:=λ b u e z=>by rw[z,g] at e;cases e
 refine I.step (g':=s.gens) (d':=s.drawn) (ch:=[it]) (λ b i=>?_) (λ b o _ _ a e _=>k b o (λ z=>a (by simp[z])) e) (λ b o _ _ a e _=>⟨o.slots,k b o (λ z=>a (by simp[z])) e⟩) (λ _ _ _ _ n=>n)
   (λ b o a e=>⟨o,k b o (λ z=>a (by simp[z])) e⟩) (λ _ _ e=>e) (λ _ _ _ e=>e) (λ b y e=>⟨#[],by rw[e];simp⟩) (λ m j=>?_) (λ b u e=>?_) I.bare
 . have e:b=it:=by simpa using i
   subst e;exact⟨h1,f,h2,h⟩
 . obtain⟨o,l,t,w,r⟩:=j
   exact⟨o,l,t,k _ o (Ne.symm f) w,r⟩
 refine(I.hok b u e).stay (λ c v a q=>k c v ?_ q) (λ _ q=>q) λ _ _ q=>q
 rcases a with z | z
 . rw[z];exact d b u e
 exact d c _ z
theorem Inv.tok(I:Inv X De σ H s)(t:Nat):Inv X De σ H { s with toks:=t }:=I.un (h':=s.heap) (t':=t) Un.refl I.hok
theorem Inv.kept(I:Inv X De σ H s)(k:∀ b u,s.heap.get? b=some u->h'.get? b=some u):Inv X De σ H { s with heap:=h',toks:=t' }:=I.un (Un.kept k) (I.hok.kept k)
theorem Inv.laid{a:Addr}{o:HO}(I:Inv X De σ H s)(k:∀ b u,s.heap.get? b=some u->h'.get? b=some u)(c:s.heap.objs.size<=a)(d:ObjOk X.prog X.w (upd H a o) h' a o) :
   Inv X De σ (upd H a o) { s with heap:=h',toks:=t' }:=I.un (Un.laid k c (I.hok.fresh c)) (I.hok.laid k c d)
theorem Inv.write{x e:Addr}{o:HO}(I:Inv X De σ H s)(d:Mut (H x))(f:e=x∨H e=some (.own x))(k:∀ b u,b≠e->s.heap.get? b=some u->h'.get? b=some u)(a:∃ u,h'.get? e=some u)(c:ObjOk X.prog X.w (upd H x o) h' x o):Inv X De σ (upd H x o) { s with heap:=h',toks:=t' }:=I.un (Un.write d f k a) (I.hok.write d f k a c)
theorem Inv.pins_of{pins':List (Addr×Obj)}(I:Inv X De σ H s)(h:∀ p∈pins',s.heap.get? p.1=some p.2/\H p.1=none/\p.1≠X.env.locals/\p.1∉X.fs/\∀ v,p.2.data≠.cell v):Inv X pins' σ H s :=
 ⟨I.ok,I.os,I.bare,I.base,I.loc,I.cell,I.free,I.freeC,λ p a=>(zAa.mp a).elim (λ z=>I.pin p (List.mem_append_left _ z)) (h p),I.hok,I.len⟩
theorem qaf1(c:N.Nodup){j:Nat}{x:Str}(a:N[i]? = some x)(b:N[j]? = some x):i=j:=by
 obtain⟨e,d⟩:=zA2.mp a;obtain⟨f,e2⟩:=zA2.mp b;exact(List.getElem_inj c).mp (d.trans e2.symm)
theorem qal7{A:Around}{E:Value->Shared->Prop}{x:Str}{v:V}{u:Value}{Q:Unit->Shared->Prop}(I:Inv X De σ H s)(hN:X.N.Nodup)(hi:X.N[i]? = some x)(t:Loc X.env.scope x)(r:RelV v u)(h:∀ s',Inv X De (σ.set i (some v)) H s'->(∃ a,Heap.SameBut a s.heap s'.heap/\(a=X.env.locals∨X.env.cells.lookup x=some a))->Q () s')(hf:X.fn x=true∨X.env.scope.names.lookup x=some .local:=by first | exact .inl rfl | exact .inr rfl | assumption):wpAny M A (storeName X.env x u) Q E s:=by
 obtain⟨m,W,hl⟩:=id I.loc;have K:(X.env.scope.kind == .class||(X.env.scope.kind == .module&&X.env.locals != X.env.globals))=false:=by rw[I.ok.kind];rfl
 have hiσ:i < σ.length:=by rw[I.len];exact(zA2.mp hi).1
 have C:=I.cne;have tracked:∀{a:Addr}{J:Heap},(∃ o,s.heap.get? a=some o/\H a=none)->Heap.SameBut a s.heap J->HOk X.prog X.w H J:=λ{a J} ha f b ob e=>by
   obtain⟨_,_,hfree⟩:=ha;refine(I.hok b ob e).stay (λ c S l q=>(f.2 c ?_).trans q) (λ _ q=>q) λ _ _ q=>q
   rintro rfl;rcases l with rfl | l
   . rw[hfree] at e;cases e
   rw[hfree] at l;cases l
 rcases t with B | B
 . refine wpAny_storeName_local B W (λ J Y f=>?_) K
   obtain⟨oL,_,_,Z,_⟩:=id W;refine h _ ⟨I.ok,I.os,I.bare,⟨λ b o e n D t=>?_,λ b o e n D t=>?_,I.base.free,λ b o e t=>?_,I.base.tups,I.base.frzs,I.base.tbls⟩,⟨_,Y,λ j y v' g e2 e3=>?_⟩,λ y c e=>?_,I.free,I.freeC,λ p hp=>?_,tracked ⟨oL,Z,I.free⟩ f,by simpa using I.len⟩ ⟨_,f,.inl rfl⟩
   . exact(f.2 b (zAq (zAi (zA9 e) I.ok.above))).trans (I.base.keep b o e n D t)
   . obtain⟨sl,g⟩:=I.base.slot b o e n D t
     exact⟨sl,(f.2 b (zAq (zAi (zA9 e) I.ok.above))).trans g⟩
   . obtain⟨o',g⟩:=I.base.there b o e t
     exact⟨o',(f.2 b (zAq (zAi (zA9 e) I.ok.above))).trans g⟩
   . by_cases F:j=i
     . subst F
       rw[hi] at g;cases g;rw[List.getElem?_set_self hiσ] at e2;cases e2;exact⟨u,r,.inl ⟨B,by simp⟩⟩
     rw[zBc (Ne.symm F)] at e2;obtain⟨u',r',q⟩:=hl j y v' g e2 e3;refine⟨u',r',?_⟩;rcases q with⟨k,e⟩ | ⟨k,c,e,z⟩
     . refine .inl ⟨k,?_⟩
       have:y≠x:=λ e=>F (qaf1 hN g (e ▸ hi))
       simp[this,e]
     exact .inr ⟨k,c,e,z.sameBut f (C y c e)⟩
   . obtain⟨S,z⟩:=I.cell y c e
     exact⟨S,z.sameBut f (C y c e)⟩
   obtain⟨e,n,T,nf,d⟩:=I.pin p hp;exact⟨(f.2 p.1 T).trans e,n,T,nf,d⟩
 have G:X.fn x=true:=by
   rcases hf with z | z
   . exact z
   rw[z] at B;cases B
 obtain⟨c,l⟩:=I.ok.has x (.inl B);obtain⟨S,z⟩:=I.cell x c l;refine wpAny_storeName_cell I.ok.kind B l z (λ J L f=>?_);obtain⟨oc,O,P⟩:=id z;refine h { s with heap:=J } ⟨I.ok,I.os,I.bare,⟨λ b o e n D t=>?_,λ b o e n D t=>?_,I.base.free,λ b o e t=>?_,I.base.tups,I.base.frzs,I.base.tbls⟩,⟨m,W.sameBut f (Ne.symm (C x c l)),λ j y v' g e2 e3=>?_⟩,λ y U e=>?_,I.free,I.freeC,λ p hp=>?_,tracked ⟨oc,O,I.freeC x c l⟩ f,by simpa using I.len⟩ ⟨c,f,.inr l⟩
 . exact(f.2 b (zAq (zAi (zA9 e) (I.ok.cab x c G l)))).trans (I.base.keep b o e n D t)
 . obtain⟨sl,g⟩:=I.base.slot b o e n D t
   exact⟨sl,(f.2 b (zAq (zAi (zA9 e) (I.ok.cab x c G l)))).trans g⟩
 . obtain⟨o',g⟩:=I.base.there b o e t
   exact⟨o',(f.2 b (zAq (zAi (zA9 e) (I.ok.cab x c G l)))).trans g⟩
 . by_cases F:j=i
   . subst F
     rw[hi] at g;cases g;rw[List.getElem?_set_self hiσ] at e2;cases e2;exact⟨u,r,.inr ⟨.inl B,c,l,L⟩⟩
   rw[zBc (Ne.symm F)] at e2;obtain⟨u',r',q⟩:=hl j y v' g e2 e3;refine⟨u',r',?_⟩;rcases q with q | ⟨k,U,e,z'⟩
   . exact .inl q
   refine .inr ⟨k,U,e,z'.sameBut f ?_⟩;rintro rfl;exact F (qaf1 hN g (I.ok.inj _ _ _ e l ▸ hi))
 . by_cases R:U=c
   . subst R;exact⟨_,L⟩
   obtain⟨w2,z2⟩:=I.cell y U e;exact⟨w2,z2.sameBut f R⟩
 obtain⟨e,n,T,nf,d⟩:=I.pin p hp;refine⟨(f.2 p.1 ?_).trans e,n,T,nf,d⟩;intro q;rw[q,O] at e;have q':oc=p.2:=Option.some.inj e;exact d S (by rw[<- q'];exact P)
theorem qN9{A:Around}{E:Value->Shared->Prop}{x:Str}{v:V}{u:Value}{Q:Unit->Shared->Prop}(I:Inv X De σ H s)(a:X.N.Nodup)(hi:X.N[i]? = some x)(b:Loc X.env.scope x)(r:RelV v u)(h:∀ s',Inv X De (σ.set i (some v)) H s'->Q () s')(c:X.fn x=true∨X.env.scope.names.lookup x=some .local:=by first | exact .inl rfl | exact .inr rfl | assumption):wpAny M A (storeName X.env x u) Q E s :=
 qal7 I a hi b r (λ s' I' _=>h s' I') c
theorem Inv.call'{s':Shared}(I:Inv X De σ H s)(i:s'.os=s.os)(u:Un (frs X.stack) ch H H' s.heap s'.heap)(a:HOk X.prog X.w H' s'.heap)(j:AllBare s'.gens)(d:∀ b∈ch,(b∈X.ex∨X.s₀.heap.objs.size<=b)/\b≠X.env.locals/\(∀ x c,X.env.cells.lookup x=some c->c≠b)/\∀ p∈X.pn++De,p.1≠b):Inv X De σ H' s':=by
 obtain⟨l,f,g,h,k⟩:=s';have e:k=s.os:=i;subst e;exact I.call (g':=f) (t':=h) (d':=g) u a j d
end
abbrev XK:=Value->Option Addr->Hp->Prop
abbrev St:=List (Option V)
abbrev VK:=V->Hp->Prop
abbrev TE:=St->Hp->VK->Prop
abbrev TT:=St->Hp->(Bool->Hp->Prop)->Prop
abbrev TA:=St->Hp->(List V->Hp->Prop)->Prop
structure Dr where
 nx:St->Hp->Prop
 rt:VK
 bk:St->Hp->Prop:=λ _ _=>False
 ct:St->Hp->Prop:=λ _ _=>False
abbrev TS:=Dr->St->Hp->Prop
def EP(X:Cx)(De:List (Addr×Obj))(σ:St)(Q:VK)(u:Value)(s':Shared):Prop:=∃ v H',Inv X De σ H' s'/\RelV v u/\Q v H'
def TP(X:Cx)(De:List (Addr×Obj))(σ:St)(Q:Bool->Hp->Prop)(b:Bool)(s':Shared):Prop:=∃ H',Inv X De σ H' s'/\Q b H'
def AP(X:Cx)(De:List (Addr×Obj))(σ:St)(Q:List V->Hp->Prop)(us:List Value)(s':Shared):Prop:=∃ vs H',Inv X De σ H' s'/\Vals vs us/\Q vs H'
def SP(X:Cx)(De:List (Addr×Obj))(D:Dr)(f:Flow)(s':Shared):Prop :=
 match f with
 | .next=>∃ σ' H',Inv X De σ' H' s'/\D.nx σ' H'
 | .brk=>∃ σ' H',Inv X De σ' H' s'/\D.bk σ' H'
 | .cont=>∃ σ' H',Inv X De σ' H' s'/\D.ct σ' H'
 | .ret u=>∃ v σ' H',Inv X De σ' H' s'/\RelV v u/\D.rt v H'
def PE(X:Cx)(e:Expr)(t:TE):Prop :=
 ∀(De:List (Addr×Obj))(s:Shared)(σ:St)(H:Hp)(Q:VK),Inv X De σ H s->t σ H Q->wpAny (model X.prog X.w) X.A (eval e X.env) (EP X De σ Q) X.xe s
def PT(X:Cx)(e:Expr)(t:TT):Prop :=
 ∀(De:List (Addr×Obj))(s:Shared)(σ:St)(H:Hp)(Q:Bool->Hp->Prop),Inv X De σ H s->t σ H Q->wpAny (model X.prog X.w) X.A (isTrue e X.env (eval e X.env)) (TP X De σ Q) X.xe s
def PW(X:Cx)(e:Expr)(t:TT):Prop :=
 ∀(whole:Sem Value)(De:List (Addr×Obj))(s:Shared)(σ:St)(H:Hp)(Q:Bool->Hp->Prop),Inv X De σ H s->t σ H Q->wpAny (model X.prog X.w) X.A (isTrue e X.env whole) (TP X De σ Q) X.xe s
theorem PW.pt{X:Cx}{e:Expr}{t:TT}(h:PW X e t):PT X e t:=h _
def PA(X:Cx)(es:List Expr)(t:TA):Prop :=
 ∀(pos:Pos)(De:List (Addr×Obj))(s:Shared)(σ:St)(H:Hp)(Q:List V->Hp->Prop),Inv X De σ H s->t σ H Q->wpAny (model X.prog X.w) X.A (spliced (backTo pos (starEach es X.env))) (AP X De σ Q) X.xe s
def PS(X:Cx)(st:Stmt)(t:TS):Prop :=
 ∀(De:List (Addr×Obj))(s:Shared)(σ:St)(H:Hp)(D:Dr),Inv X De σ H s->t D σ H->wpAny (model X.prog X.w) X.A (exec st X.env) (SP X De D) X.xe s
def PSs(X:Cx)(st:List Stmt)(t:TS):Prop :=
 ∀(De:List (Addr×Obj))(s:Shared)(σ:St)(H:Hp)(D:Dr),Inv X De σ H s->t D σ H->wpAny (model X.prog X.w) X.A (execs st X.env) (SP X De D) X.xe s
theorem thn{α:Type}{t:Sem α}{Q Q':α->Shared->Prop}{A:Around}{E:Value->Shared->Prop}{s:Shared}(h:wpAny M A t Q E s)(b:∀ a s,Q a s->Q' a s):wpAny M A t Q' E s:=wpAny_mono h b λ _ _ x=>x
section
variable{X:Cx}
theorem bin{a b:Expr}{ta tb:TE}(d:PE X a ta)(e:PE X b tb){De:List (Addr×Obj)}{s:Shared}{σ:St}{H:Hp}{R:V->V->Hp->Prop}(I:Inv X De σ H s)(h:ta σ H λ x H1=>tb σ H1 λ y H2=>R x y H2){α:Type}{Q:α->Shared->Prop}{f:Value->Value->Sem α}(g:∀ v u s2 x y H2,Inv X De σ H2 s2->RelV x v->RelV y u->R x y H2->wpAny (model X.prog X.w) X.A (f v u) Q X.xe s2) :
   wpAny (model X.prog X.w) X.A (eval a X.env) (λ v s₁=>wpAny (model X.prog X.w) X.A (eval b X.env) (λ u s₂=>wpAny (model X.prog X.w) X.A (f v u) Q X.xe s₂) X.xe s₁) X.xe s:=by
 refine thn (d De s σ H _ I h) λ v i c=>?_
 obtain⟨x,H1,I1,j,k⟩:=c;refine thn (e De i σ H1 _ I1 k) λ u s2 c=>?_
 obtain⟨y,H2,I2,l,q2⟩:=c;exact g v u s2 x y H2 I2 j l q2
def E8(i:Nat):TE:=λ σ H Q=>∃ v,σ[i]? = some (some v)/\Q v H
def tC(v:V):TE:=λ _ H Q=>Q v H
theorem qr4{x:Str}{pos:Pos}(f:X.N[i]? = some x)(g:Vis X.env.scope x)(b:(x == ("__debug__" : Str))=false:=by decide)(d:(x == ("__classdict__" : Str))=false:=by decide):PE X (.Name x pos) (E8 i):=by
 intro De s σ H Q I h;obtain⟨v,e,h⟩:=h;obtain⟨m,j,k⟩:=I.loc;obtain⟨u,r,l⟩:=k i x v f e g;have fin:EP X De σ Q u s:=⟨v,H,I,r,h⟩
 rcases l with⟨a,hm⟩ | ⟨a,c,hc,hcell⟩
 . exact wpAny_Name (wpAny_loadName_local I.ok.kind a j hm fin) b
 rcases a with a | a
 . exact wpAny_Name (wpAny_loadName_cell I.ok.kind a hc hcell fin) b
 exact wpAny_Name (wpAny_loadName_free I.ok.kind a hc hcell fin d) b
theorem qP8{i j pos}:PE X (.Constant (.int i) j pos) (tC (.int i)):=λ _ _ _ H _ I h=>wpAny_Constant_int ⟨.int i,H,I.tok _,⟨_,rfl⟩,h⟩
theorem pe_bl{b j pos}:PE X (.Constant (.bool b) j pos) (tC (.bl b)):=λ _ _ _ H _ I h=>Constant_bool ⟨.bl b,H,I,rfl,h⟩
theorem qaQ3{j pos}:PE X (.Constant .none j pos) (tC .non):=λ _ _ _ H _ I h=>Constant_none ⟨.non,H,I,rfl,h⟩
theorem qaQ0{x j pos}:PE X (.Constant (.str x) j pos) (tC (.str x)):=λ _ _ _ H _ I h=>Calls.Constant_str ⟨.str x,H,I.tok _,⟨_,rfl⟩,h⟩
def Gl(X:Cx)(x:Str):Prop:=X.env.kindOf x=some .globalImplicit
theorem qag4{E:Value->Shared->Prop}{De:List (Addr×Obj)}{s:Shared}{σ:St}{H:Hp}{x:Str}{u:Value}{pos:Pos}{Q:Value->Shared->Prop}(I:Inv X De σ H s)(a:Gl X x)(hm:X.mg x=some u)(h:Q u s)(b:(x == ("__debug__" : Str))=false:=by decide):wpAny (model X.prog X.w) X.A (eval (.Name x pos) X.env) Q E s :=
 Calls.Name_function_global I.ok.kind a (Calls.loadGlobal_global (by rw[I.ok.glob];exact I.mod.glob.keeps I.bk) hm h) b
theorem qag5{E:Value->Shared->Prop}{De:List (Addr×Obj)}{s:Shared}{σ:St}{H:Hp}{x:Str}{u:Value}{pos:Pos}{Q:Value->Shared->Prop}(I:Inv X De σ H s)(a:Gl X x)(hm:X.mg x=none)(b:bootBuiltins x=some u)(h:Q u s)(c:x ≠ "__name__" := by decide)(d:(x == ("__debug__" : Str))=false:=by decide):wpAny (model X.prog X.w) X.A (eval (.Name x pos) X.env) Q E s:=by
 obtain⟨g,e,f⟩:=I.mod.blt;exact Calls.Name_function_global I.ok.kind a (Calls.loadGlobal_builtin (by rw[I.ok.glob];exact I.mod.glob.keeps I.bk) hm (by rw[I.ok.blt];exact e.keeps I.bk) ((f x c).trans b) h) d
theorem qas7{x:Str}{v:V}{u:Value}{pos:Pos}(a:Gl X x)(hm:X.mg x=some u)(r:RelV v u)(b:(x == ("__debug__" : Str))=false:=by decide):PE X (.Name x pos) (tC v) :=
 λ _ _ _ H _ I h=>qag4 I a hm ⟨v,H,I,r,h⟩ b
theorem qaH9{x:Str}{v:V}{u:Value}{pos:Pos}(a:Gl X x)(hm:X.mg x=none)(b:bootBuiltins x=some u)(r:RelV v u)(c:x ≠ "__name__" := by decide)(d:(x == ("__debug__" : Str))=false:=by decide):PE X (.Name x pos) (tC v) :=
 λ _ _ _ H _ I h=>qag5 I a hm b ⟨v,H,I,r,h⟩ c d
variable{a b:Expr}{ta tb:TE}{pos:Pos}
def tB(t:TE):TT:=λ σ H Q=>t σ H λ x H1=>∃ c,x=.bl c/\Q c H1
theorem qaF9{e:Expr}{t:TE}(h:PE X e t)(b:∀ whole,isTrue e X.env whole=(do let v <- whole;standAt e.pos;holding [v] (truthy v)):=by intro _;rfl):PT X e (tB t):=by
 intro De s σ H Q I c;refine isTrue_plain (thn (h De s σ H _ I c) λ v i a=>?_) (b _);obtain⟨x,H1,I1,f,g⟩:=a;obtain⟨d,rfl,q⟩:=g;cases f;exact wpAny_truthy_bool ⟨H1,I1,q⟩
variable{tA tB':TT}{rest:List Expr}
def tAnd(t u:TT):TT:=λ σ H Q=>t σ H λ c H1=>if c=true then u σ H1 Q else Q false H1
def tOr(t u:TT):TT:=λ σ H Q=>t σ H λ c H1=>if c=true then Q true H1 else u σ H1 Q
def tNot(t:TT):TT:=λ σ H Q=>t σ H λ c H1=>Q (!c) H1
theorem qaF8(b:PT X a tA):PW X (.BoolOp .And [a] pos) tA:=by
 intro d De s σ H Q I h;refine isTrue_and (thn (b De s σ H Q I h) λ c f e=>?_);cases c with
 | true=>exact isTrue_and_nil e
 | false=>exact e
theorem qaP2(b:PT X a tA):PW X (.BoolOp .Or [a] pos) tA:=by
 intro d De s σ H Q I h;refine isTrue_or (thn (b De s σ H Q I h) λ c f e=>?_);cases c with
 | false=>exact isTrue_or_nil e
 | true=>exact e
theorem qaP3(f:PT X a tA)(g:PW X (.BoolOp .And (b::rest) pos) tB'):PW X (.BoolOp .And (a::b::rest) pos) (tAnd tA tB'):=by
 intro i De s σ H Q I h;refine isTrue_and (thn (f De s σ H _ I h) λ c j d=>?_);obtain⟨H1,I1,e⟩:=d;cases c with
 | true=>exact g i De j σ H1 Q I1 e
 | false=>exact⟨H1,I1,e⟩
theorem pw_or(f:PT X a tA)(g:PW X (.BoolOp .Or (b::rest) pos) tB'):PW X (.BoolOp .Or (a::b::rest) pos) (tOr tA tB'):=by
 intro i De s σ H Q I h;refine isTrue_or (thn (f De s σ H _ I h) λ c j d=>?_);obtain⟨H1,I1,e⟩:=d;cases c with
 | true=>exact⟨H1,I1,e⟩
 | false=>exact g i De j σ H1 Q I1 e
theorem qaP4(b:PT X a tA):PT X (.UnaryOp .Not a pos) (tNot tA):=by
 intro De s σ H Q I h;exact isTrue_not (b De s σ H (λ c H1=>Q (!c) H1) I h)
def tAndV(ta tb:TE):TE:=λ σ H Q=>ta σ H λ x H1=>∃ c,x=.bl c/\if c=true then tb σ H1 Q else Q (.bl false) H1
def tOrV(ta tb:TE):TE:=λ σ H Q=>ta σ H λ x H1=>∃ c,x=.bl c/\if c=true then Q (.bl true) H1 else tb σ H1 Q
def tNotV(ta:TE):TE:=λ σ H Q=>ta σ H λ x H1=>∃ c,x=.bl c/\Q (.bl (!c)) H1
theorem qaH5{op}{t:TE}(h:PE X a t):PE X (.BoolOp op [a] pos) t:=λ De s σ H Q I b=>BoolOp_one (h De s σ H Q I b)
theorem qaI0(f:PE X a ta)(g:PE X (.BoolOp .And (b::rest) pos) tb):PE X (.BoolOp .And (a::b::rest) pos) (tAndV ta tb):=by
 intro De s σ H Q I h;refine BoolOp_and (thn (f De s σ H _ I h) λ v i e=>?_);obtain⟨x,H1,I1,j,d⟩:=e;obtain⟨c,rfl,d⟩:=d;cases j;refine wpAny_truthy_bool ?_;cases c with
 | true=>exact g De i σ H1 Q I1 d
 | false=>exact⟨.bl false,H1,I1,rfl,d⟩
theorem pe_or(f:PE X a ta)(g:PE X (.BoolOp .Or (b::rest) pos) tb):PE X (.BoolOp .Or (a::b::rest) pos) (tOrV ta tb):=by
 intro De s σ H Q I h;refine BoolOp_or (thn (f De s σ H _ I h) λ v i e=>?_);obtain⟨x,H1,I1,j,d⟩:=e;obtain⟨c,rfl,d⟩:=d;cases j;refine wpAny_truthy_bool ?_;cases c with
 | false=>exact g De i σ H1 Q I1 d
 | true=>exact⟨.bl true,H1,I1,rfl,d⟩
theorem qaQ2(e:PE X a ta):PE X (.UnaryOp .Not a pos) (tNotV ta):=by
 intro De s σ H Q I h;refine UnaryOp_ (thn (e De s σ H _ I h) λ v g b=>?_);obtain⟨x,H1,I1,f,d⟩:=b;obtain⟨c,rfl,d⟩:=d;cases f;exact not_of (wpAny_truthy_bool ⟨.bl (!c),H1,I1,rfl,d⟩)
def tIf(t:TT)(ta tb:TE):TE:=λ σ H Q=>t σ H λ c H1=>if c=true then ta σ H1 Q else tb σ H1 Q
theorem qay0{c:Expr}(i:PT X c tA)(j:PE X a ta)(k:PE X b tb):PE X (.IfExp c a b pos) (tIf tA ta tb):=by
 intro De s σ H Q I h;refine wpAny_IfExp (thn (i De s σ H _ I h) λ d f e=>?_);obtain⟨H1,I1,g⟩:=e;cases d with
 | true=>exact j De f σ H1 Q I1 g
 | false=>exact k De f σ H1 Q I1 g
end
def SqL(K:PySem.W.Frag)(H:Hp)(a:Addr)(xs:List V):Prop :=
 Rd H a (.lst xs) ∨
   ∃(o:Obj)(its:Array Value)(n:Nat),K.lookup a=some o/\o.cls=.type "list" /\ o.dict=none/\o.data=.seq its n/\its.size<=sizeLine/\Vals xs its.toList
def SqT(K:PySem.W.Frag)(H:Hp)(a:Addr)(xs:List V):Prop :=
 Rd H a (.tup xs) ∨
   ∃(o:Obj)(its:Array Value)(n:Nat),K.lookup a=some o/\o.cls=.type "tuple" /\ o.data=.seq its n/\its.size<=sizeLine/\Vals xs its.toList
noncomputable def absV:Value->Option V
 | .none=>some .non
 | .bool b=>some (.bl b)
 | .int i _=>some (.int i)
 | .str x _=>some (.str x)
 | .bytes b _=>some (.byt b)
 | .float b _=>some (.flt b)
 | .ref a=>some (.ref a)
 | .type n=>some (.ty n)
 | _=>none
theorem RelV.abs{x:V}{u:Value}(r:RelV x u):absV u=some x:=by
 cases x with
 | non=>cases r;rfl
 | bl _=>cases r;rfl
 | int _=>obtain⟨t,rfl⟩:=r;rfl
 | str _=>obtain⟨t,rfl⟩:=r;rfl
 | byt _=>obtain⟨t,rfl⟩:=r;rfl
 | flt _=>obtain⟨t,rfl⟩:=r;rfl
 | ref _=>cases r;rfl
 | ty _=>cases r;rfl
theorem RelV.inj{x y:V}{u:Value}(r:RelV x u)(q:RelV y u):x=y:=Option.some.inj (r.abs.symm.trans q.abs)
theorem Vals.inj{xs ys:List V}{us:List Value}(h:Vals xs us)(g:Vals ys us):xs=ys:=by
 induction h generalizing ys with
 | nil=>cases g;rfl
 | cons r t i=>cases g with | cons q u=>rw[r.inj q,i u]
section
variable{X:Cx}{De:List (Addr×Obj)}{σ:St}{H:Hp}{s:Shared}{a:Addr}{xs ys:List V}
theorem SqL.of{K:PySem.W.Frag}(h:H a=some (.lst xs)):SqL K H a xs:=.inl (.inl h)
theorem Inv.list(I:Inv X De σ H s)(h:SqL X.K H a xs):∃ its:List Value,Vals xs its/\PlainL s.heap a its.toArray/\xs.length<=sizeLine:=by
 rcases h with h | ⟨o,its,n,b,c,d,f,g,r⟩
 . obtain⟨z,its,n,r,e⟩:=h.ok I.hok
   exact⟨its,r,⟨_,n,e,rfl,rfl,rfl⟩,z⟩
 refine⟨its.toList,r,⟨o,n,I.kIn a o b,c,d,by simpa using f⟩,?_⟩;have e:=r.length;simp only[zB5] at e;lia
theorem Inv.tuple(I:Inv X De σ H s)(h:SqT X.K H a xs):∃ its:List Value,Vals xs its/\IsTup s.heap a its.toArray/\xs.length<=sizeLine:=by
 rcases h with h | ⟨o,its,n,b,c,d,f,r⟩
 . obtain⟨z,its,r,p⟩:=h.ok I.hok
   exact⟨its,r,p,z⟩
 refine⟨its.toList,r,⟨o,I.kIn a o b,c,n,by simpa using d⟩,?_⟩;have e:=r.length;simp only[zB5] at e;lia
theorem Inv.list_inj(I:Inv X De σ H s)(h:SqL X.K H a xs)(h':SqL X.K H a ys):xs=ys:=by
 obtain⟨b,r,⟨o,n,e,_,_,d⟩,_⟩:=I.list h;obtain⟨its',g,⟨j,k,c,_,_,f⟩,_⟩:=I.list h';rw[e] at c;cases c;rw[d] at f;injection f with i _
 have:b=its':=by simpa using congrArg Array.toList i
 subst this;exact r.inj g
end
noncomputable abbrev Cx.wish(X:Cx)(E:Value->Shared->Prop):Cx:={ X with xe:=E }
abbrev Cx.nox(X:Cx):Cx:=X.wish λ _ _=>False
theorem Cx.Ok.wish{X:Cx}(a:X.Ok)(E:Value->Shared->Prop):(X.wish E).Ok :=
 ⟨a.mod,a.kind,a.glob,a.blt,a.above,a.inj,a.has,a.cab,a.hd,a.frames,a.stk,a.exf,a.bs,a.bsz,a.noex,a.exfs,a.funs,a.frf⟩
theorem Cx.Ok.unwish{X:Cx}{E:Value->Shared->Prop}(a:(X.wish E).Ok):X.Ok :=
 ⟨a.mod,a.kind,a.glob,a.blt,a.above,a.inj,a.has,a.cab,a.hd,a.frames,a.stk,a.exf,a.bs,a.bsz,a.noex,a.exfs,a.funs,a.frf⟩
section
variable{X:Cx}{De:List (Addr×Obj)}{σ:St}{H:Hp}{s:Shared}{E:Value->Shared->Prop}
theorem Inv.wish(I:Inv X De σ H s)(E:Value->Shared->Prop):Inv (X.wish E) De σ H s:=⟨I.ok.wish E,I.os,I.bare,I.base,I.loc,I.cell,I.free,I.freeC,I.pin,I.hok,I.len⟩
theorem Inv.unwish(I:Inv (X.wish E) De σ H s):Inv X De σ H s:=⟨I.ok.unwish,I.os,I.bare,I.base,I.loc,I.cell,I.free,I.freeC,I.pin,I.hok,I.len⟩
theorem SP.unwish{D:Dr}{f:Flow}{s':Shared}(h:SP (X.wish E) De D f s'):SP X De D f s':=by
 cases f with
 | next=>obtain⟨σ',H',I,q⟩:=h;exact⟨σ',H',I.unwish,q⟩
 | brk=>obtain⟨σ',H',I,q⟩:=h;exact⟨σ',H',I.unwish,q⟩
 | cont=>obtain⟨σ',H',I,q⟩:=h;exact⟨σ',H',I.unwish,q⟩
 | ret u=>obtain⟨v,σ',H',I,r,q⟩:=h;exact⟨v,σ',H',I.unwish,r,q⟩
theorem PSs.nox{st:List Stmt}{t:TS}(h:PSs X.nox st t):PSs X st t:=λ De s σ H D I a =>
 wpAny_mono (h De s σ H D (I.wish _) a) (λ _ _ q=>q.unwish) λ _ _ z=>False.elim z
end
section
variable{X:Cx}{st:Stmt}{rest:List Stmt}{t u:TS}{e:Expr}{te:TE}{pos:Pos}
def tNext:TS:=λ D σ H=>D.nx σ H
def tSeq(t u:TS):TS:=λ D σ H=>t { D with nx:=u D } σ H
theorem qaG1:PSs X [] tNext:=λ _ _ σ H _ I h=>wpAny_execs_nil ⟨σ,H,I,h⟩
theorem qad6(h1:PS X st t)(h2:PSs X rest u):PSs X (st::rest) (tSeq t u):=by
 intro De s σ H D I h;refine wpAny_execs_cons (thn (h1 De s σ H { D with nx:=u D } I h) λ f a q=>?_);cases f with
 | next =>
   obtain⟨σ',H',I',q⟩:=q;exact h2 De a σ' H' D I' q
 | ret v=>exact q
 | brk=>exact q
 | cont=>exact q
theorem qas3(h1:PS X st t):PSs X [st] t:=by
 intro De s σ H D I h;refine wpAny_execs_cons (thn (h1 De s σ H D I h) λ f a q=>?_);cases f with
 | next=>exact wpAny_execs_nil q
 | ret v=>exact q
 | brk=>exact q
 | cont=>exact q
theorem Inv.quiet{De:List (Addr×Obj)}{σ:St}{H:Hp}{s:Shared}(I:Inv X De σ H s):interactive X.env=false:=by simp[interactive,I.ok.kind]
def tDrop(te:TE):TS:=λ D σ H=>te σ H λ _ H1=>D.nx σ H1
theorem qaG4(a:PE X e te)(b:swapsWith e none pos.line X.env=pure false:=by rfl):PS X (.Expr e pos) (tDrop te):=by
 intro De s σ H D I h;exact wpAny_Expr_any (thn (a De s σ H _ I h) λ v d ⟨x,H1,I1,f,c⟩=>⟨σ,H1,I1,c⟩) I.quiet b
def tRet(te:TE):TS:=λ D σ H=>te σ H D.rt
theorem qaG3(a:PE X e te):PS X (.Return (some e) pos) (tRet te):=by
 intro De s σ H D I h;exact wpAny_Return_some (thn (a De s σ H _ I h) λ v d ⟨x,H1,I1,b,c⟩=>⟨x,σ,H1,I1,b,c⟩)
def tIfS(c:TT)(t u:TS):TS:=λ D σ H=>c σ H λ b H1=>if b=true then t D σ H1 else u D σ H1
theorem ps_if{c:Expr}{a b:List Stmt}{tc:TT}(i:PT X c tc)(j:PSs X a t)(k:PSs X b u):PS X (.If c a b pos) (tIfS tc t u):=by
 intro De s σ H D I h;refine wpAny_If (thn (i De s σ H _ I h) λ d f e=>?_);obtain⟨H1,I1,g⟩:=e;cases d with
 | true=>exact j De f σ H1 D I1 g
 | false=>exact k De f σ H1 D I1 g
end
abbrev TG:=V->St->Hp->(St->Hp->Prop)->Prop
abbrev TGs:=List V->St->Hp->(St->Hp->Prop)->Prop
def PG(X:Cx)(target:Expr)(t:TG):Prop :=
 ∀(De:List (Addr×Obj))(s:Shared)(σ:St)(H:Hp)(v:V)(u:Value)(Q:St->Hp->Prop),Inv X De σ H s->RelV v u->t v σ H Q ->
   wpAny (model X.prog X.w) X.A (assign target X.env u) (λ _ s'=>∃ σ' H',Inv X De σ' H' s'/\Q σ' H') X.xe s
def PGs(X:Cx)(a:List Expr)(t:TGs):Prop :=
 ∀(De:List (Addr×Obj))(s:Shared)(σ:St)(H:Hp)(vs:List V)(us:List Value)(Q:St->Hp->Prop),Inv X De σ H s->Vals vs us->t vs σ H Q ->
   wpAny (model X.prog X.w) X.A (assignInOrder ((assignEach a X.env).map (·.2)) us) (λ _ s'=>∃ σ' H',Inv X De σ' H' s'/\Q σ' H') X.xe s
abbrev Ho:=V->V->V->Hp->(Hp->Prop)->Prop
def PSet(X:Cx)(t:Ho):Prop :=
 ∀(De:List (Addr×Obj))(s:Shared)(σ:St)(H:Hp)(o i v:V)(ov iv u:Value)(Q:Hp->Prop),Inv X De σ H s->RelV o ov->RelV i iv->RelV v u->t o i v H Q ->
   wpAny (model X.prog X.w) X.A (setItem ov iv u) (λ _ s'=>∃ H',Inv X De σ H' s'/\Q H') X.xe s
abbrev TIp:=V->V->Hp->VK->Prop
def PIp(X:Cx)(op:Operator)(t:TIp):Prop :=
 ∀(De:List (Addr×Obj))(s:Shared)(σ:St)(H:Hp)(x y:V)(v u:Value)(Q:VK),Inv X De σ H s->RelV x v->RelV y u->t x y H Q ->
   wpAny (model X.prog X.w) X.A (inplaceOp op v u) (EP X De σ Q) X.xe s
section
variable{X:Cx}{pos:Pos}
def Ev(i:Nat):TG:=λ v σ H Q=>Q (σ.set i (some v)) H
theorem qas5{x:Str}(a:X.N.Nodup)(hi:X.N[i]? = some x)(b:Loc X.env.scope x)(c:X.fn x=true∨X.env.scope.names.lookup x=some .local:=by first | exact .inl rfl | exact .inr rfl | assumption):PG X (.Name x pos) (Ev i):=by
 intro De s σ H v u Q I r h;exact wpAny_assign_Name (qN9 I a hi b r (λ d I'=>⟨_,H,I',h⟩) c)
def gNil:TGs:=λ vs σ H Q=>vs=[]/\Q σ H
def gCons(t:TG)(u:TGs):TGs:=λ vs σ H Q=>∃ v r,vs=v::r/\t v σ H λ σ' H'=>u r σ' H' Q
theorem qaH1:PGs X [] gNil:=by
 intro De s σ H a b Q I r h;obtain⟨e,h⟩:=h;subst e;cases r;exact assignInOrder_nil ⟨σ,H,I,h⟩
theorem qax7{e:Expr}{es:List Expr}{t:TG}{u:TGs}(h1:PG X e t)(h2:PGs X es u)(b:(assignEach (e::es) X.env).map (·.2)=assign e X.env::(assignEach es X.env).map (·.2):=by rfl):PGs X (e::es) (gCons t u):=by
 intro De s σ H i j Q I r h;obtain⟨v,k,c,h⟩:=h;subst c;cases r with
 | cons r d =>
   rw[b];refine assignInOrder_cons (thn (h1 De s σ H _ _ _ I r h) λ _ f a=>?_);obtain⟨σ1,H1,I1,g⟩:=a;exact h2 De f σ1 H1 _ _ Q I1 d g
def gTup(K:PySem.W.Frag)(n:Nat)(t:TGs):TG:=λ v σ H Q=>∃ a xs,v=.ref a/\SqT K H a xs/\xs.length=n/\t xs σ H Q
theorem qaP7{es:List Expr}{k:Nat}{t:TGs}(g:X.calm=true)(h:PGs X es t)(i:(assignEach es X.env).length=n:=by rfl)(c:(assignEach es X.env).findIdx? (·.1)=none:=by rfl):PG X (.Tuple es k pos) (gTup X.K n t):=by
 intro De s σ H v u Q I r d;obtain⟨a,j,l,m,p,d⟩:=d;subst l;cases r;obtain⟨q,f,w,z⟩:=I.tuple m;refine assign_Tuple_tuple (I.ok.hd g) w (by simp[i,<- p,f.length]) c λ x y=>?_
 have I1:Inv X De σ H { s with heap:=x }:=I.kept (t':=s.toks) λ b o e=>y b o (zAq (zA9 e)) e
 exact h De _ σ H j _ Q I1 (by simpa using f) d
def gSub(to a:TE)(t:Ho):TG:=λ v σ H Q=>to σ H λ o H1=>a σ H1 λ i H2=>t o i v H2 λ H3=>Q σ H3
theorem qaP8{o i:Expr}{to b:TE}{t:Ho}(c:PE X o to)(hi:PE X i b)(d:PSet X t)(e:∀ v,assign (.Subscript o i pos) X.env v=(do
     let ov <- holding [v] (eval o X.env)
     let iv <- holding [v,ov] (eval i X.env)
     standAt pos
     holding [v,ov,iv] (setItem ov iv v)
     release [v,ov,iv] []):=by intro _;rfl):PG X (.Subscript o i pos) (gSub to b t):=by
 intro De s σ H v u Q I r h;rw[e];refine wpAny_bind (wpAny_holding (thn (c De s σ H _ I h) λ ov f a=>?_));obtain⟨x,H1,I1,g,j⟩:=a;refine wpAny_bind (wpAny_holding (thn (hi De f σ H1 _ I1 j) λ iv k a=>?_));obtain⟨y,H2,I2,l,q2⟩:=a;refine wpAny_bind (wpAny_standAt (wpAny_bind (wpAny_holding (thn (d De k σ H2 x y v ov iv u _ I2 g l r q2) λ _ n a=>?_))));obtain⟨H3,I3,m⟩:=a;exact wpAny_release ⟨σ,H3,I3,m⟩
def Ha(te:TE)(g:TG):TS:=λ D σ H=>te σ H λ x H1=>g x σ H1 D.nx
theorem qaP6{tg e:Expr}{te:TE}{g:TG}(b:PE X e te)(c:PG X tg g)(d:swapsWithSole [tg] e pos.line X.env=pure false:=by rfl)(f:swappedStores [tg] e X.env=pure none:=by rfl)(h1:(assignEach [tg] X.env).map (·.2)=[assign tg X.env]:=by rfl):PS X (.Assign [tg] e pos) (Ha te g):=by
 intro De s σ H D I h;refine wpAny_Assign_stores (thn (b De s σ H _ I h) λ v i a=>?_) d f;obtain⟨x,H1,I1,j,k⟩:=a;rw[h1];exact thn (c De i σ H1 x v _ I1 j k) λ _ l q=>q
theorem qaG2{x:Str}{e:Expr}{te:TE}{pos':Pos}(b:X.N.Nodup)(hi:X.N[i]? = some x)(c:Loc X.env.scope x)(d:PE X e te)(f:swapsWith e (some (.Name x pos')) pos.line X.env=pure false:=by rfl)(g:X.fn x=true∨X.env.scope.names.lookup x=some .local:=by first | exact .inl rfl | exact .inr rfl | assumption) :
   PS X (.Assign [.Name x pos'] e pos) (Ha te (Ev i)):=by
 intro De s σ H D I h;refine wpAny_Assign_Name (thn (d De s σ H _ I h) λ v l a=>?_) f;obtain⟨y,H1,I1,j,k⟩:=a;exact qN9 I1 b hi c j (λ m I2=>⟨_,H1,I2,k⟩) g
def tAugS(to b te:TE)(tget:V->V->Hp->VK->Prop)(a:TIp)(tset:Ho):TS:=λ D σ H=>to σ H λ o H1=>b σ H1 λ i H2=>tget o i H2 λ x H3=>te σ H3 λ y H4=>a x y H4 λ z H5=>tset o i z H5 λ H6=>D.nx σ H6
def PGet(X:Cx)(t:V->V->Hp->VK->Prop):Prop :=
 ∀(De:List (Addr×Obj))(s:Shared)(σ:St)(H:Hp)(o i:V)(ov iv:Value)(Q:VK),Inv X De σ H s->RelV o ov->RelV i iv->t o i H Q ->
   wpAny (model X.prog X.w) X.A (getItem ov iv) (EP X De σ Q) X.xe s
theorem qaG6{o i e:Expr}{to j te:TE}{tget:V->V->Hp->VK->Prop}{f:TIp}{tset:Ho}{op:Operator}{tpos:Pos}(p:PE X o to)(hi:PE X i j)(q:PGet X tget)(r:PE X e te)(t:PIp X op f)(u:PSet X tset)(w:∀ c d b,augStore i c d b=(do holding [b,c,d] (setItem c d b);release [b,c,d] [];pure .next):=by intros;rfl):PS X (.AugAssign (.Subscript o i tpos) op e pos) (tAugS to j te tget f tset):=by
 intro De s σ H D I h;refine wpAny_AugAssign_SubscriptAny (thn (p De s σ H _ I h) λ c x a=>?_) w;obtain⟨k,H1,I1,l,y⟩:=a;refine thn (hi De x σ H1 _ I1 y) λ d z a=>?_
 obtain⟨m,H2,I2,n,q2⟩:=a;refine thn (q De z σ H2 k m c d _ I2 l n q2) λ g A a=>?_
 obtain⟨B,H3,I3,C,E⟩:=a;refine thn (r De A σ H3 _ I3 E) λ v F a=>?_
 obtain⟨G,H4,I4,J,K⟩:=a;refine thn (t De F σ H4 B G g v _ I4 C J K) λ b L a=>?_
 obtain⟨M,H5,I5,N,O⟩:=a;exact thn (u De L σ H5 k m M c d b _ I5 l n N O) λ _ Q ⟨H6,I6,P⟩=>⟨σ,H6,I6,P⟩
def ipI(f:Int->Int->Int):TIp:=λ x y H Q=>∃ i j,x=.int i/\y=.int j/\Q (.int (f i j)) H
theorem qaT4:PIp X .Add (ipI λ i j=>i+j):=by
 intro De s σ H x y v u Q I a b h;obtain⟨i,j,c,e2,q⟩:=h;subst c;subst e2;obtain⟨t,rfl⟩:=a;obtain⟨d,rfl⟩:=b;exact iadd_int ⟨.int _,H,I.tok _,⟨_,rfl⟩,q⟩
end
section
variable{X:Cx}{pos:Pos}
def qaO7(c:TT)(tb:TS):TS:=λ D σ H=>∃ W:Nat->St->Hp->Prop,(∃ m,W m σ H)/\∀ m σ H,W m σ H ->
 c σ H λ b H1=>if b=true then ∃ N:St->Hp->Prop,(∀ σ' H',N σ' H'->∃ a,a < m/\W a σ' H')/\tb { D with nx:=N,ct:=N,bk:=D.nx } σ H1 else D.nx σ H1
theorem qax2{c:Expr}{tc:TT}{tb:TS}(k:PassesOwn (model X.prog X.w) X.A X.env X.xe)(m:PT X c tc)(o:PSs X body tb):PS X (.While c body [] pos) (qaO7 tc tb):=by
 intro De s σ H D I h;obtain⟨W,⟨p,q⟩,turn⟩:=h;refine wpAny_While (codeAny_whileLoop (λ n r=>∃ σ' H',Inv X De σ' H' r/\W n σ' H') ?_ p ⟨σ,H,I,q⟩);rintro n t ⟨σ1,H1,I1,u⟩;refine wpAny_passesOwn k (thn (m De t σ1 H1 _ I1 (turn n σ1 H1 u)) λ b x d=>?_);obtain⟨H2,I2,q2⟩:=d;cases b with
 | true =>
   obtain⟨N,l,q2⟩:=q2;rw[if_pos rfl];refine wpAny_passesOwn k (thn (o De x σ1 H2 _ I2 q2) λ f y a=>?_);cases f with
   | next =>
     obtain⟨σ3,H3,I3,e⟩:=a;obtain⟨g,i,j⟩:=l σ3 H3 e;exact⟨g,i,σ3,H3,I3,j⟩
   | cont =>
     obtain⟨σ3,H3,I3,e⟩:=a;obtain⟨g,i,j⟩:=l σ3 H3 e;exact⟨g,i,σ3,H3,I3,j⟩
   | brk=>exact a
   | ret v=>exact a
 | false =>
   rw[if_neg zAk];exact wpAny_execs_nil ⟨σ1,H2,I2,q2⟩
end
structure It where
 go:Nat->Hp->Prop
 yld:Nat->Hp->V->Hp->Prop
 stop:Nat->Hp->Prop
def Fn(X:Cx)(De:List (Addr×Obj))(H:Hp)(b:Addr):Prop :=
 H b=none/\b≠X.env.locals/\b∉X.fs/\(b∈X.ex∨X.s₀.heap.objs.size<=b)/\(∀ x c,X.env.cells.lookup x=some c->c≠b)/\∀ p∈X.pn++De,p.1≠b
theorem Inv.fpOk{X:Cx}{De:List (Addr×Obj)}{σ:St}{H H':Hp}{s:Shared}{b:Addr}(I:Inv X De σ H s)(a:s.heap.objs.size<=b)(d:H' b=none):Fn X De H' b:=by
 refine⟨d,Nat.ne_of_gt (zAi I.lt a),I.nofs a,.inr (zAr I.sz a),λ x c e z=>?_,λ p f z=>?_⟩
 . obtain⟨v,q⟩:=I.cell x c e
   exact absurd (zAi q.lt (by rw[z];exact a)) (zBx _)
 exact absurd (zAi (zA9 (I.pin p f).1) (by rw[z];exact a)) (zBx _)
structure Hq(P:Program)(w:World)(K:PySem.W.Frag)(tg:Expr)(J:It)(fp:List Addr)(it:Addr)(tn:Nat->Heap->Prop):Prop where
 mem:it∈fp
 obj:∀ i h,tn i h->∀ b∈fp,∃ o,h.get? b=some o/\∀ v,o.data≠.cell v
 keep:∀ i h h',tn i h->(∀ b∈fp,∀ o,h.get? b=some o->h'.get? b=some o)->tn i h'
 item:∀(X:Cx),X.prog=P->X.w=w->X.K=K->X.calm=true->∀(i:Nat)(De:List (Addr×Obj))(s:Shared)(σ:St)(H:Hp)(E:Value->Shared->Prop),Inv X De σ H s->(∀ b∈fp,Fn X De H b)->tn i s.heap->J.go i H ->
   wpAny (model P w) X.A (pyNext (.ref it)) (λ r s1=>∃ u,r=some u /\
     wpAny (model P w) X.A (letOwnedTupleGo tg (.ref it) u) (λ _ s2=>∃ x H',Inv X De σ H' s2/\RelV x u/\J.yld i H x H'/\tn (i+1) s2.heap/\∀ b∈fp,H' b=none) E s1) E s
 done:∀(X:Cx),X.prog=P->X.w=w->X.K=K->X.calm=true->∀(i:Nat)(De:List (Addr×Obj))(s:Shared)(σ:St)(H:Hp)(E:Value->Shared->Prop),Inv X De σ H s->(∀ b∈fp,Fn X De H b)->tn i s.heap->J.stop i H ->
   wpAny (model P w) X.A (pyNext (.ref it)) (λ r s1=>r=none/\Inv X De σ H s1) E s
 self:∀(A:Around)(i:Nat)(s:Shared)(Q:Value->Shared->Prop)(E:Value->Shared->Prop),tn i s.heap->Q (.ref it) s->wpAny (model P w) A (pyIter (.ref it)) Q E s
abbrev TI:=St->Hp->(It->Hp->Prop)->Prop
def PIE(X:Cx)(De:List (Addr×Obj))(σ:St)(tg:Expr)(R:It->Hp->Prop)(a:Value)(s2:Shared):Prop :=
 ∃(it:Addr)(fp:List Addr)(tn:Nat->Heap->Prop)(J:It)(H':Hp),a=.ref it/\Inv X De σ H' s2/\Hq X.prog X.w X.K tg J fp it tn/\tn 0 s2.heap/\(∀ b∈fp,Fn X De H' b)/\R J H'
def PI(X:Cx)(tg iter:Expr)(wi:TI):Prop :=
 ∀(De:List (Addr×Obj))(s:Shared)(σ:St)(H:Hp)(R:It->Hp->Prop),Inv X De σ H s->wi σ H R ->
   wpAny (model X.prog X.w) X.A (eval iter X.env) (λ v a=>wpAny (model X.prog X.w) X.A (pyIter v) (PIE X De σ tg R) X.xe a) X.xe s
theorem go_of{A:Around}{E:Value->Shared->Prop}{s:Shared}{tg:Expr}{it:Addr}{u:Value}{o:Obj}{n:String}{vs:Array Value}{Q:Unit->Shared->Prop}(b:s.heap.get? it=some o)(c:o.cls=.type n)(d:o.data=.fields vs)(e:["enumerate", "zip", "dict_itemiterator", "dict_reverseitemiterator", "odict_iterator", "itertools.zip_longest", "itertools.pairwise"].contains n=false)(a:Q () s):wpAny M A (letOwnedTupleGo tg (.ref it) u) Q E s:=by
 unfold letOwnedTupleGo;cases tg<;>first
   | exact wpAny_pure a
   | (cases u<;>first
       | exact wpAny_pure a
       | (refine wpAny_bind (wpAny_load b ?_)
          rw[c,d];show wpAny M A (if (["enumerate", "zip", "dict_itemiterator", "dict_reverseitemiterator", "odict_iterator", "itertools.zip_longest", "itertools.pairwise"].contains n&&vs[0]? == some (rawInt _))=true then _ else _) Q E s;rw[if_neg (by intro h;rw[e,Bool.false_and] at h;cases h)];exact wpAny_pure a))
noncomputable def Itl(K:PySem.W.Frag)(a:Addr):It :=
 ⟨λ i H=>∃ xs x,SqL K H a xs/\xs[i]? = some x,λ i H x H'=>H'=H/\∀ xs,SqL K H a xs->xs[i]? = some x,λ i H=>∃ xs,SqL K H a xs/\xs.length<=i⟩
noncomputable def Itr(lo:Int)(n:Nat):It:=⟨λ i _=>i < n,λ i H x H'=>H'=H/\x=.int (lo+i),λ i _=>n<=i⟩
theorem qal1{P:Program}{w:World}{K:PySem.W.Frag}{tg:Expr}(a it:Addr):Hq P w K tg (Itl K a) [it] it (λ i h=>h.IsListIter it a i) where
 mem:=by simp
 obj:=λ i h f b g=>by
   have e:b=it:=by simpa using g
   subst e;obtain⟨o,e,c,d⟩:=f;exact⟨o,e,λ v z=>by rw[d] at z;cases z⟩
 keep:=λ i h l f k=>f.at λ o e=>k it (by simp) o e
 item:=by
   intro X q r t J i De s σ H E I m f y;subst q r t;obtain⟨L,x,n,A⟩:=y;obtain⟨B,C,p,M⟩:=I.list n;obtain⟨u,N,O⟩:=C.get A;obtain⟨D,f1,f2,f3,F,G⟩:=m it (by simp);refine wpAny_pyNext_list_item f p.isList (x:=u) (by simpa using N) λ l j Q=>?_
   have I1:Inv X De σ H { s with heap:=l }:=I.turned (t':=s.toks) (λ b o g e=>(Q.2 b g).trans e) D f1 f3 F G;obtain⟨o,e,c,d⟩:=id j;exact⟨u,rfl,go_of (s:={ s with heap:=l }) e c d (by decide) ⟨x,H,I1,O,⟨rfl,λ U S=>by rw[I.list_inj S n];exact A⟩,j,λ b g=>(m b g).1⟩⟩
 done:=by
   intro X q r t J i De s σ H E I m f y;subst q r t;obtain⟨L,n,A⟩:=y;obtain⟨B,C,p,M⟩:=I.list n;obtain⟨D,f1,f2,f3,F,G⟩:=m it (by simp);have V:=C.length;exact wpAny_pyNext_list_end (I.ok.hd J) f p.isList (by simp;lia) λ l T=>⟨rfl,I.turned (t':=s.toks) (λ b o g e=>T b o g e) D f1 f3 F G⟩
 self:=λ _ _ _ _ _ f h=>wpAny_pyIter_listiter f h
theorem qaa9{P:Program}{w:World}{K:PySem.W.Frag}{tg:Expr}(it:Addr)(lo:Int)(n:Nat):Hq P w K tg (Itr lo n) [it] it (λ i h=>IsRangeIter h it (lo+(i:Nat) * 1) ((n:Int) - (i:Nat)) 1) where
 mem:=by simp
 obj:=λ i h a b c=>by
   have e:b=it:=by simpa using c
   subst e;exact⟨_,a,λ v z=>by
     have A:Data.fields _=Data.cell v:=z;cases A⟩
 keep:=λ i h f a k=>k it (by simp) _ a
 item:=by
   intro X j l m p i De s σ H E I g a q;subst j l m;obtain⟨r,f1,f2,f3,u,x⟩:=g it (by simp);have W:=Walks.range (prog:=X.prog) (w:=X.w) (I.ok.hd p) it lo 1 n;refine W.item i s _ _ q a λ v f y B d C=>?_
   obtain⟨t,rfl⟩:=B;have I1:Inv X De σ H { s with heap:=f,toks:=y }:=I.turned (λ b o c e=>C b o (by simpa using c) e) r f1 f3 u x;refine⟨_,rfl,go_of (s:={ s with heap:=f,toks:=y }) (n := "range_iterator") d rfl rfl (by decide) ⟨.int (lo+i),H,I1,⟨t,?_⟩,⟨rfl,rfl⟩,d,λ b c=>(g b c).1⟩⟩;rw[Int.mul_one]
 done:=by
   intro X j l m p i De s σ H E I g a q;subst j l m;obtain⟨r,f1,f2,f3,u,x⟩:=g it (by simp);exact wpAny_pyNext_range_end (I.ok.hd p) a (by have:n<=i:=q;lia) λ f D=>⟨rfl,I.turned (t':=s.toks) (λ b o c e=>D b o c e) r f1 f3 u x⟩
 self:=λ _ _ _ _ _ a h=>wpAny_pyIter_rangeiter a h
section
variable{X:Cx}{tg:Expr}
def Gx(K:PySem.W.Frag)(tl:TE):TI:=λ σ H R=>tl σ H λ x H1=>∃ a,x=.ref a/\(∃ xs,SqL K H1 a xs)/\R (Itl K a) H1
theorem qz9{l:Expr}{tl:TE}(f:PE X l tl):PI X tg l (Gx X.K tl):=by
 intro De s σ H R I h;refine thn (f De s σ H _ I h) λ v c d=>?_
 obtain⟨x,H1,I1,g,i⟩:=d;obtain⟨a,e,⟨n,j⟩,q⟩:=i;subst e;cases g;obtain⟨k,r,p,t⟩:=I1.list j;refine wpAny_pyIter_list p.isList ?_;refine⟨c.heap.objs.size,[c.heap.objs.size],_,_,H1,rfl,I1.kept (t':=c.toks) λ b o e=>zA4 _ e,qal1 a _,⟨_,zAx _ rfl,rfl,rfl⟩,λ b m=>?_,q⟩;have e:b=c.heap.objs.size:=by simpa using m
 subst e;exact I1.fpOk (zA3 _) (I1.hok.fresh (zA3 _))
theorem qax1{De:List (Addr×Obj)}{σ:St}{H:Hp}{s:Shared}{R:It->Hp->Prop}{E:Value->Shared->Prop}{lo hi:Int}{t u v:Tok}{a:Nat}(I:Inv X De σ H s)(h1:-(2 ^ 62)<=lo)(h2:lo < 2 ^ 62)(c:-(2 ^ 62)<=hi)(d:hi < 2 ^ 62)(q:R (Itr lo (hi - lo).toNat) H):wpAny (model X.prog X.w) X.A (pyIter (.ref s.heap.objs.size)) (PIE X De σ tg R) E { s with heap:=s.heap.push { cls:=.type "range",data:=.fields #[.int lo t,.int hi u,.int 1 v] },toks:=a }:=by
 refine wpAny_pyIter_range (IsRange.new ..) (small_one h1 h2 c d) ?_;have I1:Inv X De σ H { s with heap:=s.heap.push { cls:=.type "range",data:=.fields #[.int lo t,.int hi u,.int 1 v] },toks:=a }:=I.kept λ b o e=>zA4 _ e
 refine⟨(s.heap.push { cls:=.type "range",data:=.fields #[.int lo t,.int hi u,.int 1 v] }).objs.size,[(s.heap.push { cls:=.type "range",data:=.fields #[.int lo t,.int hi u,.int 1 v] }).objs.size],_,_,H,rfl,
   I1.kept (t':=a) λ b o e=>zA4 _ e,qaa9 _ lo (hi - lo).toNat,?_,λ b f=>?_,q⟩
 . have g:lo+((0:Nat):Int) * 1=lo:=by simp
   have e2:(((hi - lo).toNat:Nat):Int) - ((0:Nat):Int)=Builtin.Range.rangeSize lo hi 1:=by rw[rangeSize_one];split<;>lia
   show IsRangeIter _ _ (lo+((0:Nat):Int) * 1) ((((hi - lo).toNat:Nat):Int) - ((0:Nat):Int)) 1;rw[g,e2];exact zAx _ rfl
 have e:b=(s.heap.push { cls:=.type "range",data:=.fields #[.int lo t,.int hi u,.int 1 v] }).objs.size:=by simpa using f
 subst e;exact I1.fpOk (zA3 _) (I1.hok.fresh (zA3 _))
def iRng1(ta:TA):TI:=λ σ H R=>ta σ H λ vs H1=>∃ j:Int,vs=[.int j]/\-(2 ^ 62)<=j/\j < 2 ^ 62/\R (Itr 0 j.toNat) H1
theorem qam7{a:Expr}{ta:TA}{p pos:Pos}(d:Gl X "range")(hm:X.mg "range" = none)(f:PA X [a] ta)(g:starEach [a] X.env=[(false,eval a X.env)]:=by rfl):PI X tg (.Call (.Name "range" p) [a] [] pos) (iRng1 ta):=by
 intro De s σ H R I h;refine Call_ (qag5 I d hm boot_range (PyProof.Rows.callWith_type1 (thn (f pos De s σ H _ I h) λ l m b=>?_) g rfl));obtain⟨n,H1,I1,i,c⟩:=b;obtain⟨j,e,c,q2,q⟩:=c;subst e;cases i with
 | cons r k =>
   cases k;obtain⟨t,rfl⟩:=r;exact call_range_1 (qax1 I1 (by lia) (by lia) c q2 (by simpa using q))
def tFor(wi:TI)(g:TG)(tb:TS):TS:=λ D σ H=>wi σ H λ J H1=>∃ W:Nat->Nat->St->Hp->Prop,(∃ m,W 0 m σ H1)/\∀ i m σ H,W i m σ H ->
 (J.stop i H/\D.nx σ H)∨(J.go i H/\∃ N:St->Hp->Prop,(∀ σ' H',N σ' H'->∃ a,a < m/\W (i+1) a σ' H')/\∀ x H',J.yld i H x H'->g x σ H' λ σ2 H2=>tb { D with nx:=N,ct:=N,bk:=D.nx } σ2 H2)
noncomputable def Hr(fp:List Addr)(h:Heap):List (Addr×Obj):=fp.filterMap λ b=>(h.get? b).map λ o=>(b,o)
theorem qr9{h:Heap}{b:Addr}{o:Obj}(a:b∈fp)(e:h.get? b=some o):(b,o)∈Hr fp h:=List.mem_filterMap.mpr ⟨b,a,by rw[e];rfl⟩
theorem qan0{h:Heap}{p:Addr×Obj}(a:p∈Hr fp h):p.1∈fp/\h.get? p.1=some p.2:=by
 obtain⟨b,c,e⟩:=List.mem_filterMap.mp a;cases q:h.get? b with
 | none=>rw[q] at e;cases e
 | some o =>
   rw[q] at e;have d:(b,o)=p:=Option.some.inj e;subst d;exact⟨c,q⟩
theorem Inv.pinned{De:List (Addr×Obj)}{σ:St}{H:Hp}{s:Shared}(I:Inv X De σ H s)(f:∀ b∈fp,Fn X De H b)(g:∀ b∈fp,∃ o,s.heap.get? b=some o/\∀ v,o.data≠.cell v):Inv X (De++Hr fp s.heap) σ H s :=
 I.pins_of λ p h=>(zAa.mp h).elim (λ z=>I.pin p (zAw _ z)) λ z=>by
   obtain⟨a,e⟩:=qan0 z;obtain⟨i,f1,f2,_⟩:=f p.1 a;obtain⟨o,c,d⟩:=g p.1 a;rw[e] at c;cases c;exact⟨e,i,f1,f2,d⟩
theorem Inv.unpinned{De pl:List (Addr×Obj)}{σ:St}{H:Hp}{s:Shared}(I:Inv X (De++pl) σ H s):Inv X De σ H s:=I.pins_of λ p a=>I.pin p (zAw _ (List.mem_append_left _ a))
theorem qax3{iter:Expr}{wi:TI}{g:TG}{tb:TS}{pos:Pos}(l:PassesOwn (model X.prog X.w) X.A X.env X.xe)(F:X.calm=true)(hi:PI X tg iter wi)(O:PG X tg g)(c:PSs X body tb)(P:∀ x,foldedSetIterable iter X.env x=pure x:=by intro _;rfl):PS X (.For tg iter body [] pos) (tFor wi g tb):=by
 intro De s σ H D I h;refine wpAny_For (thn (hi De s σ H _ I h) λ v s1 Q=>thn Q λ R s2 S=>?_) P;obtain⟨it,p,G,J,H2,e,I2,T,z,f2,W,⟨U,V⟩,turn⟩:=S;subst e;have stat:∀{H':Hp},(∀ b∈p,H' b=none)->∀ b∈p,Fn X De H' b:=λ Y b c=>⟨Y b c,(f2 b c).2⟩
 refine codeAny_forLoop_any (λ n K=>∃ i σ' H',Inv X De σ' H' K/\G i K.heap/\(∀ b∈p,H' b=none)/\W i n σ' H') ?_ U ⟨0,σ,H2,I2,z,λ b c=>(f2 b c).1,V⟩;rintro n L ⟨i,σ3,H3,I3,q,t,Z⟩;rcases turn i n σ3 H3 Z with⟨stop,qn⟩ | ⟨go,N,hN,step⟩
 . refine wpAny_passesOwn l (thn (T.done X rfl rfl rfl F i De L σ3 H3 X.xe I3 (stat t) q stop) λ r s4 a=>?_)
   obtain⟨B,I4⟩:=a;subst B;exact wpAny_execs_nil ⟨σ3,H3,I4,qn⟩
 refine wpAny_passesOwn l (thn (T.item X rfl rfl rfl F i De L σ3 H3 X.xe I3 (stat t) q go) λ r s4 a=>?_);obtain⟨u,B,h4⟩:=a;subst B;refine wpAny_passesOwn l (thn h4 λ _ M a=>?_);obtain⟨x,H5,I5,r5,y5,k,C⟩:=a;have I5':=I5.pinned (stat C) (T.obj _ _ k);refine wpAny_passesOwn l (thn (O _ M σ3 H5 x u _ I5' r5 (step x H5 y5)) λ _ s6 a=>?_);obtain⟨σ6,H6,I6,q6⟩:=a;refine wpAny_passesOwn l (thn (c _ s6 σ6 H6 _ I6 q6) λ f E j=>?_);have again:∀{σ7:St}{H7:Hp},Inv X (De++Hr p M.heap) σ7 H7 E->N σ7 H7->∃ m,m < n/\∃ i σ' H',Inv X De σ' H' E/\G i E.heap/\(∀ b∈p,H' b=none)/\W i m σ' H':=λ{σ7 H7} I7 y=>by
   obtain⟨m',hm,w7⟩:=hN σ7 H7 y;refine⟨m',hm,i+1,σ7,H7,I7.unpinned,T.keep _ _ _ k λ b c o e=>(I7.pin (b,o) (zAw _ (zAw _ (qr9 c e)))).1,λ b c=>?_,w7⟩;obtain⟨o,e,d⟩:=T.obj _ _ k b c;exact(I7.pin (b,o) (zAw _ (zAw _ (qr9 c e)))).2.1
 cases f with
 | next=>obtain⟨σ7,H7,I7,y⟩:=j;exact again I7 y
 | cont=>obtain⟨σ7,H7,I7,y⟩:=j;exact again I7 y
 | brk=>obtain⟨σ7,H7,I7,j⟩:=j;exact⟨σ7,H7,I7.unpinned,j⟩
 | ret v=>obtain⟨x7,σ7,H7,I7,r7,j⟩:=j;exact⟨x7,σ7,H7,I7.unpinned,r7,j⟩
end
theorem qai4{K:PySem.W.Frag}{a:Addr}{xs:List V}{g:TG}{tb:TS}{D:Dr}{σ:St}{H:Hp}(Pv:Nat->St->Hp->Prop)(d:Pv 0 σ H)(f:∀ i σ H,i<=xs.length->Pv i σ H->SqL K H a xs)(h:∀ i x σ H,xs[i]? = some x->Pv i σ H->g x σ H λ σ2 H2=>tb { D with nx:=Pv (i+1),ct:=Pv (i+1),bk:=D.nx } σ2 H2)(j:∀ σ H,Pv xs.length σ H->D.nx σ H) :
   ∃ W:Nat->Nat->St->Hp->Prop,(∃ m,W 0 m σ H)/\∀ i m σ H,W i m σ H ->
     ((Itl K a).stop i H/\D.nx σ H)∨((Itl K a).go i H/\∃ N:St->Hp->Prop,(∀ σ' H',N σ' H'->∃ c,c < m/\W (i+1) c σ' H')/\∀ x H',(Itl K a).yld i H x H'->g x σ H' λ σ2 H2=>tb { D with nx:=N,ct:=N,bk:=D.nx } σ2 H2):=by
 refine⟨λ i m σ H=>m=xs.length - i/\i<=xs.length/\Pv i σ H,⟨xs.length,by simp,zBh _,d⟩,?_⟩;rintro i m σ H ⟨rfl,k,p⟩;have q:=f i σ H k p;by_cases b:i < xs.length
 . refine .inr ⟨⟨xs,xs[i],q,by simp[b]⟩,Pv (i+1),λ σ' H' l=>⟨xs.length - (i+1),by lia,rfl,b,l⟩,λ x H' y=>?_⟩
   obtain⟨e,y⟩:=y;subst e;exact h i x σ _ (y xs q) p
 have e:i=xs.length:=by lia
 subst e;exact .inl ⟨⟨xs,q,zA3 _⟩,j σ H p⟩
theorem qao7{lo:Int}{g:TG}{tb:TS}{D:Dr}{σ:St}{H:Hp}(Pv:Nat->St->Hp->Prop)(c:Pv 0 σ H)(d:∀ i σ H,i < n->Pv i σ H->g (.int (lo+i)) σ H λ σ2 H2=>tb { D with nx:=Pv (i+1),ct:=Pv (i+1),bk:=D.nx } σ2 H2)(f:∀ σ H,Pv n σ H->D.nx σ H) :
   ∃ W:Nat->Nat->St->Hp->Prop,(∃ m,W 0 m σ H)/\∀ i m σ H,W i m σ H ->
     ((Itr lo n).stop i H/\D.nx σ H)∨((Itr lo n).go i H/\∃ N:St->Hp->Prop,(∀ σ' H',N σ' H'->∃ b,b < m/\W (i+1) b σ' H')/\∀ x H',(Itr lo n).yld i H x H'->g x σ H' λ σ2 H2=>tb { D with nx:=N,ct:=N,bk:=D.nx } σ2 H2):=by
 refine⟨λ i m σ H=>m=n - i/\i<=n/\Pv i σ H,⟨n,by simp,zBh _,c⟩,?_⟩;rintro i m σ H ⟨rfl,j,p⟩;by_cases a:i < n
 . refine .inr ⟨a,Pv (i+1),λ σ' H' h=>⟨n - (i+1),by lia,rfl,a,h⟩,λ x H' y=>?_⟩
   obtain⟨e,y⟩:=y;subst e y;exact d i σ _ a p
 have e:i=n:=by lia
 subst e;exact .inl ⟨zA3 _,f σ H p⟩
abbrev R2:=V->V->Hp->VK->Prop
def OpR(X:Cx)(f:Value->Value->Sem Value)(r:R2):Prop :=
 ∀(De:List (Addr×Obj))(s:Shared)(σ:St)(H:Hp)(x y:V)(v u:Value)(Q:VK),Inv X De σ H s->RelV x v->RelV y u->r x y H Q ->
   wpAny (model X.prog X.w) X.A (f v u) (EP X De σ Q) X.xe s
def UnR(X:Cx)(f:Value->Sem Value)(r:V->Hp->VK->Prop):Prop :=
 ∀(De:List (Addr×Obj))(s:Shared)(σ:St)(H:Hp)(x:V)(v:Value)(Q:VK),Inv X De σ H s->RelV x v->r x H Q ->
   wpAny (model X.prog X.w) X.A (f v) (EP X De σ Q) X.xe s
def CallR(X:Cx)(f:Value)(r:List V->Hp->VK->Prop):Prop :=
 ∀(De:List (Addr×Obj))(s:Shared)(σ:St)(H:Hp)(xs:List V)(us:List Value)(Q:VK),Inv X De σ H s->Vals xs us->r xs H Q ->
   wpAny (model X.prog X.w) X.A (call f us) (EP X De σ Q) X.xe s
def tOp(r:R2)(ta tb:TE):TE:=λ σ H Q=>ta σ H λ x H1=>tb σ H1 λ y H2=>r x y H2 Q
def tUn(r:V->Hp->VK->Prop)(ta:TE):TE:=λ σ H Q=>ta σ H λ x H1=>r x H1 Q
def rI(C:Int->Int->Prop)(g:Int->Int->V):R2:=λ x y H Q=>∃ i j,x=.int i/\y=.int j/\C i j/\Q (g i j) H
def rI0(g:Int->Int->V):R2:=λ x y H Q=>∃ i j,x=.int i/\y=.int j/\Q (g i j) H
def rU(g:Int->V):V->Hp->VK->Prop:=λ x H Q=>∃ i,x=.int i/\Q (g i) H
section
variable{X:Cx}{a b:Expr}{ta tb:TE}{pos:Pos}
theorem binT(d:PE X a ta)(e:PE X b tb){De:List (Addr×Obj)}{s:Shared}{σ:St}{H:Hp}{R:V->V->Hp->Prop}(I:Inv X De σ H s)(h:ta σ H λ x H1=>tb σ H1 λ y H2=>R x y H2){Q:Value->Shared->Prop}{f:Value->Value->Sem Value}(g:∀ v u s2 x y H2,Inv X De σ H2 s2->RelV x v->RelV y u->R x y H2->wpAny (model X.prog X.w) X.A (f v u) Q X.xe s2) :
   wpAny (model X.prog X.w) X.A (eval a X.env) (λ v s₁=>wpAny (model X.prog X.w) X.A (eval b X.env) (λ u s₂=>wpAny (model X.prog X.w) X.A (f v u) Q X.xe s₂) X.xe s₁) X.xe s:=by
 refine thn (d De s σ H _ I h) λ v i c=>?_
 obtain⟨x,H1,I1,j,k⟩:=c;refine thn (e De i σ H1 _ I1 k) λ u s2 c=>?_
 obtain⟨y,H2,I2,l,q2⟩:=c;exact g v u s2 x y H2 I2 j l q2
theorem pe_op{op:Operator}{r:R2}(c:OpR X (binaryOp op) r)(d:PE X a ta)(e:PE X b tb):PE X (.BinOp a op b pos) (tOp r ta tb):=by
 intro De s σ H Q I h;exact wpAny_BinOp (binT d e I h λ v u f x y H2 I2 g i q=>c De f σ H2 x y v u Q I2 g i q)
theorem pe_un{op:UnaryOp}{r:V->Hp->VK->Prop}(b:UnR X (unaryOp op) r)(c:PE X a ta):PE X (.UnaryOp op a pos) (tUn r ta):=by
 intro De s σ H Q I h;exact UnaryOp_ (thn (c De s σ H _ I h) λ v d ⟨x,H1,I1,e,f⟩=>b De d σ H1 x v Q I1 e f)
theorem opI{f:Value->Value->Sem Value}{C:Int->Int->Prop}{g:Int->Int->Int}(rule:∀(i j:Int)(t u:Tok)(s:Shared)(Q:Value->Shared->Prop)(E:Value->Shared->Prop),C i j->Q (.int (g i j) s.toks) { s with toks:=s.toks+1 }->wpAny (model X.prog X.w) X.A (f (.int i t) (.int j u)) Q E s) :
   OpR X f (rI C λ i j=>.int (g i j)):=by
 intro De s σ H x y v u Q I a b h;obtain⟨i,j,rfl,rfl,c,q⟩:=h;obtain⟨t,rfl⟩:=a;obtain⟨d,rfl⟩:=b;exact rule i j t d s _ _ c ⟨.int (g i j),H,I.tok _,⟨_,rfl⟩,q⟩
theorem opI0{f:Value->Value->Sem Value}{g:Int->Int->Int}(rule:∀(i j:Int)(t u:Tok)(s:Shared)(Q:Value->Shared->Prop)(E:Value->Shared->Prop),Q (.int (g i j) s.toks) { s with toks:=s.toks+1 }->wpAny (model X.prog X.w) X.A (f (.int i t) (.int j u)) Q E s) :
   OpR X f (rI0 λ i j=>.int (g i j)):=by
 intro De s σ H x y v u Q I a b h;obtain⟨i,j,rfl,rfl,q⟩:=h;obtain⟨t,rfl⟩:=a;obtain⟨c,rfl⟩:=b;exact rule i j t c s _ _ ⟨.int (g i j),H,I.tok _,⟨_,rfl⟩,q⟩
theorem opB0{f:Value->Value->Sem Value}{g:Int->Int->Bool}(rule:∀(i j:Int)(t u:Tok)(s:Shared)(Q:Value->Shared->Prop)(E:Value->Shared->Prop),Q (.bool (g i j)) s->wpAny (model X.prog X.w) X.A (f (.int i t) (.int j u)) Q E s) :
   OpR X f (rI0 λ i j=>.bl (g i j)):=by
 intro De s σ H x y v u Q I a b h;obtain⟨i,j,rfl,rfl,q⟩:=h;obtain⟨t,rfl⟩:=a;obtain⟨c,rfl⟩:=b;exact rule i j t c s _ _ ⟨.bl (g i j),H,I,rfl,q⟩
def CPow(i j:Int):Prop:=0<=j/\j<=1000000/\i.natAbs < 2 ^ 64
def CMul(i j:Int):Prop:=(-(2 ^ 64) < i/\i < 2 ^ 64)∨(-(2 ^ 64) < j/\j < 2 ^ 64)
theorem CMul.ok{i j:Int}(h:CMul i j):IntMulOk i j:=by
 rcases h with⟨h1,h2⟩ | ⟨h1,h2⟩
 . exact .of_left (intBits_le_64 h1 h2)
 exact .of_right (intBits_le_64 h1 h2)
theorem qaR7:OpR X (binaryOp .Add) (rI0 λ i j=>.int (i+j)):=opI0 λ _ _ _ _ _ _ _ q=>add_int q
theorem qC9:OpR X (binaryOp .Sub) (rI0 λ i j=>.int (i - j)):=opI0 λ _ _ _ _ _ _ _ q=>sub_int q
theorem qaR2:OpR X (binaryOp .Mult) (rI CMul λ i j=>.int (i * j)):=opI λ _ _ _ _ _ _ _ a q=>mul_int q a.ok
theorem qp9:OpR X (binaryOp .Mod) (rI (λ _ j=>0 < j) λ i j=>.int (i % j)):=opI λ i j _ _ _ _ _ a q=>by
 have b:(0:Int) < j:=a;exact mod_int' (by lia) (by rw[Int.fmod_eq_emod_of_nonneg i (by lia)];exact q)
theorem qaR0:OpR X (binaryOp .Pow) (rI CPow λ i j=>.int (i ^ j.toNat)):=opI λ _ _ _ _ _ _ _ a q=>pow_int_small a.1 a.2.1 a.2.2 q
theorem unI{f:Value->Sem Value}{g:Int->Int}(rule:∀(i:Int)(t:Tok)(s:Shared)(Q:Value->Shared->Prop)(E:Value->Shared->Prop),Q (.int (g i) s.toks) { s with toks:=s.toks+1 }->wpAny (model X.prog X.w) X.A (f (.int i t)) Q E s) :
   UnR X f (rU λ i=>.int (g i)):=by
 intro De s σ H x v Q I a h;obtain⟨i,rfl,q⟩:=h;obtain⟨t,rfl⟩:=a;exact rule i t s _ _ ⟨.int (g i),H,I.tok _,⟨_,rfl⟩,q⟩
theorem qaO5:UnR X (unaryOp .USub) (rU λ i=>.int (-i)):=unI λ _ _ _ _ _ q=>neg_int q
end
section
variable{X:Cx}{a b c:Expr}{ta tb tc:TE}{pos:Pos}
theorem qaM2{De:List (Addr×Obj)}{σ:St}{H:Hp}{s:Shared}{Q:VK}{k a:Bool}(I:Inv X De σ H s)(q:Q (.bl k) H)(e:k=a):EP X De σ Q (.bool a) s:=by
 subst e;exact⟨.bl k,H,I,rfl,q⟩
theorem Fd:OpR X (compareOp .Lt) (rI0 λ i j=>.bl (decide (i < j))):=opB0 λ _ _ _ _ _ _ _ q=>lt_int q
theorem op_le:OpR X (compareOp .LtE) (rI0 λ i j=>.bl (decide (i<=j))):=opB0 λ _ _ _ _ _ _ _ q=>le_int q
theorem Bk:OpR X (compareOp .Gt) (rI0 λ i j=>.bl (decide (j < i))):=opB0 λ _ _ _ _ _ _ _ q=>gt_int q
theorem Gy:OpR X (compareOp .GtE) (rI0 λ i j=>.bl (decide (j<=i))):=opB0 λ _ _ _ _ _ _ _ q=>ge_int q
theorem qaR3:OpR X (compareOp .Is) (λ x y H Q=>y=.non/\Q (.bl (decide (x=.non))) H):=by
 intro De s σ H x y v u Q I a b h;obtain⟨rfl,q⟩:=h;cases b;refine is_none_gen (qaM2 I q ?_);cases x<;>first
   | (cases a;rfl)
   | (obtain⟨t,rfl⟩:=a;rfl)
theorem qaI6:OpR X (compareOp .IsNot) (λ x y H Q=>y=.non/\Q (.bl (!decide (x=.non))) H):=by
 intro De s σ H x y v u Q I a b h;obtain⟨rfl,q⟩:=h;cases b;refine isnot_none_gen (qaM2 I q ?_);cases x<;>first
   | (cases a;rfl)
   | (obtain⟨t,rfl⟩:=a;rfl)
theorem OpR.or{f:Value->Value->Sem Value}{r a:R2}(h:OpR X f r)(h':OpR X f a):OpR X f (λ x y H Q=>r x y H Q∨a x y H Q):=by
 intro De s σ H x y v u Q I b c q;rcases q with q | q
 . exact h De s σ H x y v u Q I b c q
 exact h' De s σ H x y v u Q I b c q
theorem qb1(b:Expr)(h:op≠.In:=by decide)(h2:op≠.NotIn:=by decide):behindInMarks op b=false:=by
 have a:(op == CmpOp.In)=false:=by cases op<;>first | rfl | exact absurd rfl h
 have e2:(op == CmpOp.NotIn)=false:=by cases op<;>first | rfl | exact absurd rfl h2
 cases b<;>simp[behindInMarks,a,e2]
theorem qaH8{r:R2}(c:OpR X (compareOp op) r)(d:PE X a ta)(e:PE X b tb)(hm:behindInMarks op b=false):PE X (.Compare a [op] [b] pos) (tOp r ta tb):=by
 intro De s σ H Q I h;exact wpAny_Compare1 (binT d e I h λ v u f x y H2 I2 g i q=>c De f σ H2 x y v u Q I2 g i q) hm
def tTest(t:TE):TT:=λ σ H Q=>t σ H λ x H'=>∃ k,x=.bl k/\Q k H'
theorem qaG0{r:R2}(d:OpR X (compareOp op) r)(f:PE X a ta)(g:PE X b tb)(hm:behindInMarks op b=false):PT X (.Compare a [op] [b] pos) (tTest (tOp r ta tb)):=by
 intro De s σ H Q I h;refine wpAny_isTrue_Compare1 (thn (f De s σ H _ I h) λ v i ⟨x,H1,I1,j,l⟩=>thn (g De i σ H1 _ I1 l) λ u m ⟨y,H2,I2,n,q2⟩ =>
   thn (d De m σ H2 x y v u _ I2 j n q2) λ c q ⟨z,H3,I3,o,k,e,p⟩=>?_) hm
 subst e;cases o;exact wpAny_truthy_bool ⟨H3,I3,p⟩
def qaE3(r a:R2)(ta tb tc:TE):TE:=λ σ H Q=>ta σ H λ x H1=>tb σ H1 λ y H2=>r x y H2 λ z H3=>∃ k,z=.bl k /\
 (if k=true then tc σ H3 λ b H4=>a y b H4 Q else Q (.bl false) H3)
theorem qay2{f:CmpOp}{r i:R2}(m:OpR X (compareOp op) r)(g:OpR X (compareOp f) i)(n:PE X a ta)(o:PE X b tb)(p:PE X c tc)(hm:lastMarks [op,f] [b,c]=false:=by with_unfolding_all rfl):PE X (.Compare a [op,f] [b,c] pos) (qaE3 r i ta tb tc):=by
 intro De s σ H Q I h;refine Compare_chain (thn (n De s σ H _ I h) λ v q ⟨x,H1,I1,t,w⟩=>chain_link (thn (o De q σ H1 _ I1 w) λ u A ⟨y,H2,I2,j,q2⟩ =>
   thn (m De A σ H2 x y v u _ I2 t j q2) λ d B ⟨z,H3,I3,C,k,e,l⟩=>?_)) hm
 subst e;cases C;refine wpAny_truthy_bool ?_;cases k with
 | false=>exact ite_ff ⟨.bl false,H3,I3,rfl,l⟩
 | true=>exact ite_tt (chain_last (thn (p De B σ H3 _ I3 l) λ D E ⟨F,H4,I4,G,J⟩=>g De E σ H4 y F u D Q I4 j G J))
theorem qQ8:(sizeLine:Nat) < 2 ^ 63:=by rw[sizeLine_eq];decide
theorem qae8:OpR X (binaryOp .Add) (λ x y H Q=>∃ i j,x=.str i/\y=.str j/\i.length+j.length<=sizeLine/\Q (.str (i++j)) H):=by
 intro De s σ H x y v u Q I a b h;obtain⟨i,j,rfl,rfl,c,q⟩:=h;obtain⟨t,rfl⟩:=a;obtain⟨d,rfl⟩:=b;exact add_str (λ d e=>⟨.str (i++j),H,I.tok _,⟨_,rfl⟩,q⟩) c
theorem Bm{x:V}(r:Vals [x] us):∃ u,us=[u]/\RelV x u:=by
 cases r with
 | cons a b=>cases b;exact⟨_,rfl,a⟩
theorem Hs{x y:V}(r:Vals [x,y] us):∃ u a,us=[u,a]/\RelV x u/\RelV y a:=by
 cases r with
 | cons b c =>
   cases c with
   | cons d e=>cases e;exact⟨_,_,rfl,b,d⟩
theorem qaC8:CallR X (.builtin "abs") (λ xs H Q=>∃ i,xs=[.int i]/\Q (.int (if i < 0 then -i else i)) H):=by
 intro De s σ H xs a Q I r h;obtain⟨i,rfl,q⟩:=h;obtain⟨u,rfl,t,rfl⟩:=Bm r;exact call_abs_int λ u b=>⟨.int (if i < 0 then -i else i),H,I.tok _,⟨_,rfl⟩,q⟩
theorem qt2(b:X.calm=true):CallR X (.builtin "max") (λ xs H Q=>∃ i j,xs=[.int i,.int j]/\Q (.int (if j > i then j else i)) H):=by
 intro De s σ H xs c Q I r h;obtain⟨i,j,rfl,q⟩:=h;obtain⟨u,d,rfl,⟨t,rfl⟩,⟨e,rfl⟩⟩:=Hs r;refine max_two_ints (I.ok.hd b) λ f g k=>⟨_,H,I.kept k,?_,q⟩
 by_cases a:j > i
 . rw[if_pos a,if_pos a];exact⟨_,rfl⟩
 rw[if_neg a,if_neg a];exact⟨_,rfl⟩
theorem qaq7:CallR X (.type "int") (λ xs H Q=>(∃ i,xs=[.int i]/\Q (.int i) H)∨∃ k,xs=[.bl k]/\Q (.int (if k then 1 else 0)) H):=by
 intro De s σ H xs b Q I r h;rcases h with⟨i,rfl,q⟩ | ⟨k,rfl,q⟩
 . obtain⟨u,rfl,t,rfl⟩:=Bm r
   exact call_int_int ⟨.int i,H,I,⟨_,rfl⟩,q⟩
 obtain⟨u,rfl,a⟩:=Bm r;cases a;exact call_int_bool ⟨.int (if k then 1 else 0),H,I.tok _,⟨_,rfl⟩,q⟩
end
structure ObjM(h:Heap)(x dx C:Addr)(mA:Str->Option Value):Prop where
 obj:h.get? x=some (PySem.W.instObj C dx)
 ns:h.Ns1 dx mA
 ne:dx≠x
theorem qan7{h:Heap}{dx:Addr}{mA:Str->Option Value}(n:h.Ns1 dx mA):∃ c,h.get? dx=some c/\∀ name,PySem.W.lookIn name c=some (mA name):=by
 obtain⟨o,d,m,f,g,i,_,j⟩:=n;refine⟨o,f,λ name=>?_⟩;have e:=j name;unfold nsFind findBy at e;rw[<- Array.find?_toList] at e;unfold PySem.W.lookIn;rw[g];dsimp only;split
 . rename_i y q
   rw[q] at e;exact congrArg some e
 rename_i q
 rw[q] at e;have a:d.toList.any (·.refKey)=false:=by
   rw[List.any_eq_false];intro y k;obtain⟨z,t,b⟩:=i y (Array.mem_toList_iff.mp k);simp[DictEntry.refKey,b]
 have l:¬ d.toList.any (·.refKey)=true:=by rw[a];exact zAk
 rw[if_neg l];exact congrArg some e
theorem ObjM.look{h:Heap}{x dx C:Addr}{mA:Str->Option Value}(I:ObjM h x dx C mA):∃ a,PySem.W.InstAt h x (PySem.W.instObj C dx) C (some a)/\∀ name,PySem.W.lookIn name a=some (mA name) :=
 let ⟨a,ho,hl⟩:=qan7 I.ns
 ⟨a,⟨I.obj,rfl,rfl,ho⟩,hl⟩
section
variable{prog:Program}{w:World}{A:Around}{E:Value->Shared->Prop}{s:Shared}{K:PySem.W.Frag}{x dx C f:Addr}{mA:Str->Option Value}{name:Str}{v:Value}
theorem qaL8{expr:Bool}{Q:Value->Shared->Prop}(X:K.In s.heap)(I:ObjM s.heap x dx C mA)(b:PySem.W.plainGet K C name=true)(c:PySem.W.hasDictIn K C=true)(d:PySem.W.findIn K (.ref C) name=some none)(e:mA name=some v)(a:PySem.W.handedIn v=true)(h:Q v { s with toks:=s.toks+1 }) :
   wpAny (model prog w) A (getAttr (.ref x) name expr) Q E s:=by
 obtain⟨g,J,f⟩:=I.look;exact PySem.W.get_value X J (PySem.W.plainGet_of b).1 (PySem.W.findObj_own c d rfl (by rw[f,e])) a h
theorem qaB5{Q:Value×List Value->Shared->Prop}(X:K.In s.heap)(I:ObjM s.heap x dx C mA)(a:PySem.W.plainGet K C name=true)(b:PySem.W.findIn K (.ref C) name=some (some (.ref f)))(c:PySem.W.isFn K (.ref f)=true)(d:mA name=none)(h:Q (.ref f,[.ref x]) s) :
   wpAny (model prog w) A (getMethod (.ref x) name pl) Q E s:=by
 obtain⟨e,J,g⟩:=I.look;exact PySem.W.method_fn X J (PySem.W.plainGet_of a).1 (PySem.W.plainGet_of a).2 b (zC1.mp c) (by show (PySem.W.lookIn name e).map (·.isSome)=some false;rw[g,d];rfl) h
theorem qaE5{ns:List Str}{Q:Unit->Shared->Prop}(X:K.In s.heap)(I:ObjM s.heap x dx C mA)(j:PySem.W.findIn K (.ref C) "__setattr__" = some (some (.builtin "object.__setattr__")))(k:PySem.W.plainOver K C=true)(l:PySem.W.takerIn K C name=some none)(m:PySem.W.hasDictIn K C=true)(n:PySem.Within mA ns)(hsz:ns.length<=sizeLine)(h:∀ h',ObjM h' x dx C (λ y=>if y=name then some v else mA y)->Heap.SameBut dx s.heap h'->Q () { s with heap:=h',toks:=s.toks+2 }) :
   wpAny (model prog w) A (setAttr (.ref x) name v) Q E s:=by
 obtain⟨u,J,z⟩:=I.look;refine PySem.W.set_plain X J j (PySem.W.osa_open (s:={ s with toks:=s.toks+1 }) (r:=none) X J k l λ b=>?_);obtain⟨B,o,e⟩:=PySem.W.any_some m;have p:s.heap.get? x=some ⟨.ref C,some dx,.plain,#[]⟩:=I.obj;refine wpAny_bind (wpAny_pure (wpAny_bind (wpAny_bind (wpAny_loadPart p (wpAny_bind (PySem.W.Looks.here (s:={ s with toks:=s.toks+1 }) (PySem.W.looks_clsIn X o) ?_))))));rw[e];refine wpAny_pure (a:=some dx) (wpAny_bind (wpAny_pure (wpAny_bind ?_)));refine wpAny_nsSet1 (s:={ s with toks:=s.toks+1 }) I.ns λ h' c d=>?_
 obtain⟨D,q,t,f,g,i⟩:=c.count (PySem.Within.cons name v n);refine wpAny_bind (wpAny_lookBehind f (by rw[g];exact pastItsLine_dict (zAr i (by rw[zAp];lia))) ?_);exact wpAny_pure (h _ ⟨(d.2 _ (Ne.symm I.ne)).trans I.obj,c,I.ne⟩ d)
theorem qaA3{R:Result->Shared->Prop}{vs:List Value}(X:K.In s.heap)(hm:PySem.W.makesIn K C=true)(hi:PySem.W.findIn K (.ref C) "__init__" = some (some (.ref f)))(a:PySem.W.typeIn K (.ref f)=some (.type "function"))(h:codeAny (model prog w) (A.under (.builtin "type.__call__" ⟨.ref C::vs,kw⟩)) (.call (.ref f) ⟨.ref (s.heap.objs.size+1)::vs,kw⟩) (PySem.W.InitBack (s.heap.objs.size+1) R)
     { s with heap:=(s.heap.push PySem.W.emptyDict).push (PySem.W.instObj C s.heap.objs.size) }) :
   codeAny (model prog w) A (.call (.ref C) ⟨vs,kw⟩) R s:=by
 obtain⟨b,g,d,t,c⟩:=s;exact PySem.W.make_core (PySem.W.makes_of X hm) (PySem.W.looks_findIn X hi) (λ self=>PySem.W.bind_fn X self a) (.inl rfl) h
end
noncomputable def Bn(f:Str)(v:V):List (Str×V)->List (Str×V)
 | []=>[(f,v)]
 | (g,x)::r=>if g=f then (g,v)::r else (g,x)::Bn f v r
theorem qE3(f g:Str)(v:V):∀ fs:List (Str×V),(Bn f v fs).lookup g=if g=f then some v else fs.lookup g
 | []=>by
   show List.lookup g [(f,v)]=_;by_cases h:g=f
   . have a:(g == f)=true:=zC1.mpr h
     simp only[List.lookup,a,if_pos h]
   have a:(g == f)=false:=zC4.mpr h;simp only[List.lookup,a,if_neg h]
 | (k,x)::r=>by
   have c:=qE3 f g v r;rw[show Bn f v ((k,x)::r)=(if k=f then (k,v)::r else (k,x)::Bn f v r) from rfl];by_cases b:k=f
   . rw[if_pos b]
     by_cases h:g=k
     . have a:(g == k)=true:=zC1.mpr h
       simp only[List.lookup,a,if_pos (h.trans b)]
     have a:(g == k)=false:=zC4.mpr h;simp only[List.lookup,a,if_neg (λ e:g=f=>h (e.trans b.symm))]
   rw[if_neg b];by_cases h:g=k
   . have a:(g == k)=true:=zC1.mpr h
     simp only[List.lookup,a,if_neg (λ e:g=f=>b (h.symm.trans e))]
   have a:(g == k)=false:=zC4.mpr h;simp only[List.lookup,a];exact c
theorem qH7(f:Str)(v:V):∀ fs:List (Str×V),f∈(Bn f v fs).map (·.1)/\∀ g,g∈fs.map (·.1)->g∈(Bn f v fs).map (·.1)
 | []=>⟨by simp[Bn],λ g h=>by simp at h⟩
 | (k,x)::r=>by
   obtain⟨b,c⟩:=qH7 f v r;rw[show Bn f v ((k,x)::r)=(if k=f then (k,v)::r else (k,x)::Bn f v r) from rfl];by_cases a:k=f
   . rw[if_pos a]
     subst a;exact⟨by simp,λ g h=>by simpa using h⟩
   rw[if_neg a];refine⟨?_,λ g h=>?_⟩
   . rw[zB0]
     exact zA6 _ b
   rw[zB0] at h ⊢;rcases zAo.mp h with e | e
   . exact zAo.mpr (.inl e)
   exact zA6 _ (c g e)
theorem qE5(f:Str)(v:V):∀ fs:List (Str×V),(Bn f v fs).length<=fs.length+1
 | []=>by simp[Bn]
 | (k,x)::r=>by
   have b:=qE5 f v r;rw[show Bn f v ((k,x)::r)=(if k=f then (k,v)::r else (k,x)::Bn f v r) from rfl];by_cases a:k=f
   . rw[if_pos a,zAp,zAp];lia
   rw[if_neg a,zAp,zAp];lia
theorem RelO.some_of{v:V}{o:Option Value}(r:RelO (some v) o):∃ u,o=some u/\RelV v u:=by
 cases o with
 | none=>exact(show False from r).elim
 | some u=>exact⟨u,rfl,r⟩
theorem RelO.none_of{o:Option Value}(r:RelO none o):o=none:=by
 cases o with
 | none=>rfl
 | some u=>exact(show False from r).elim
theorem qao4{v:V}{u:Value}(r:RelV v u):PySem.W.handedIn u=true:=by
 cases v with
 | non=>cases (show u=Value.none from r);rfl
 | bl b=>cases (show u=Value.bool b from r);rfl
 | int i=>obtain⟨t,e⟩:=(show ∃ t,u=Value.int i t from r);cases e;rfl
 | str x=>obtain⟨t,e⟩:=(show ∃ t,u=Value.str x t from r);cases e;rfl
 | byt b=>obtain⟨t,e⟩:=(show ∃ t,u=Value.bytes b t from r);cases e;rfl
 | flt b=>obtain⟨t,e⟩:=(show ∃ t,u=Value.float b t from r);cases e;rfl
 | ref a=>cases (show u=Value.ref a from r);rfl
 | ty n=>cases (show u=Value.type n from r);rfl
section
variable{P:Program}{w:World}{H:Hp}{h:Heap}{a C dx:Addr}{fs:List (Str×V)}
theorem qU5(b:HOk P w H h)(e:H a=some (.ins C dx fs)):∃ mA,ObjM h a dx C mA/\(∀ f,RelO (fs.lookup f) (mA f))/\PySem.Within mA (fs.map (·.1))/\fs.length<=1000/\H dx=some (.own a):=by
 obtain⟨d,z,c,g,mA,n,r,q⟩:=(show ObjOk P w H h a (.ins C dx fs) from b a _ e)
 exact⟨mA,⟨g,n,c⟩,r,q,z,d⟩
end
structure Cls(K:PySem.W.Frag)(C:Addr):Prop where
 pg:PySem.W.plainGet K C Str.empty=true
 hd:PySem.W.hasDictIn K C=true
 po:PySem.W.plainOver K C=true
 sa:PySem.W.findIn K (.ref C) "__setattr__" = some (some (.builtin "object.__setattr__"))
theorem Cls.get{K:PySem.W.Frag}{C:Addr}(c:Cls K C)(f:Str):PySem.W.plainGet K C f=true:=c.pg
def qe9(K:PySem.W.Frag)(C:Addr)(f:Str):Prop:=PySem.W.findIn K (.ref C) f=some none
theorem qe9.taker{K:PySem.W.Frag}{C:Addr}{f:Str}(n:qe9 K C f):PySem.W.takerIn K C f=some none:=by
 unfold PySem.W.takerIn;rw[show PySem.W.findIn K (.ref C) f=some none from n];rfl
structure Hb(K:PySem.W.Frag)(C:Addr)(m:Str)(f:Addr):Prop where
 at_:PySem.W.findIn K (.ref C) m=some (some (.ref f))
 fn:PySem.W.isFn K (.ref f)=true
 kp:PySem.W.keepIn K (.ref f)=true
section
variable{X:Cx}{De:List (Addr×Obj)}{σ:St}{H:Hp}{s:Shared}{a C dx:Addr}{fs:List (Str×V)}{f:Str}{v:V}{A:Around}{E:Value->Shared->Prop}
theorem qai0{b:Bool}{Q:Value->Shared->Prop}(I:Inv X De σ H s)(e:H a=some (.ins C dx fs))(c:Cls X.K C)(n:qe9 X.K C f)(l:fs.lookup f=some v)(h:∀ u s',Inv X De σ H s'->RelV v u->Q u s'):wpAny (model X.prog X.w) A (getAttr (.ref a) f b) Q E s:=by
 obtain⟨g,O,r,_,_,_⟩:=qU5 I.hok e;obtain⟨u,i,d⟩:=RelO.some_of (v:=v) (o:=g f) (by rw[<- l];exact r f);exact qaL8 I.kIn O (c.get f) c.hd n i (qao4 d) (h u _ (I.tok _) d)
theorem qB2{m:Str}{g:Addr}{Q:Value×List Value->Shared->Prop}(I:Inv X De σ H s)(e:H a=some (.ins C dx fs))(c:Cls X.K C)(k:Hb X.K C m g)(l:fs.lookup m=none)(h:Q (.ref g,[.ref a]) s):wpAny (model X.prog X.w) A (getMethod (.ref a) m pl) Q E s:=by
 obtain⟨b,O,r,_,_,_⟩:=qU5 I.hok e;have d:b m=none:=RelO.none_of (by rw[<- l];exact r m);exact qaB5 I.kIn O (c.get m) k.at_ k.fn d h
theorem qac6{y:V}{u:Value}{Q:Unit->Shared->Prop}(I:Inv X De σ H s)(e:H a=some (.ins C dx fs))(c:Cls X.K C)(n:qe9 X.K C f)(D:fs.length < 1000)(k:RelV y u)(h:∀ s',Inv X De σ (upd H a (.ins C dx (Bn f y fs))) s'->Q () s'):wpAny (model X.prog X.w) A (setAttr (.ref a) f u) Q E s:=by
 obtain⟨d,O,r,i,_,j⟩:=qU5 I.hok e;have l:(fs.map (·.1)).length<=sizeLine:=by rw[zA7,sizeLine_eq];lia
 refine qaE5 I.kIn O c.sa c.po n.taker c.hd i l λ m O' p=>h _ ?_
 have t:∃ o,m.get? dx=some o:=let ⟨o,_,_,e',_⟩:=O'.ns;⟨o,e'⟩
 refine I.write (x:=a) (e:=dx) (by rw[e];exact True.intro) (.inr j) (λ b q v z=>(p.2 b v).trans z) t ?_;refine⟨by rw[qd0 O.ne];exact j,?_,O.ne,O'.obj,_,O'.ns,λ g=>?_,λ g B=>?_⟩
 . have:=qE5 f y fs;lia
 . show RelO ((Bn f y fs).lookup g) (if g=f then some u else d g)
   rw[qE3];by_cases q:g=f
   . rw[if_pos q,if_pos q];exact k
   rw[if_neg q,if_neg q];exact r g
 by_cases q:g=f
 . rw[q];exact(qH7 f y fs).1
 refine(qH7 f y fs).2 g (i g λ z=>B ?_);show (if g=f then some u else d g)=none;rw[if_neg q];exact z
theorem Inv.made(I:Inv X De σ H s):Inv X De σ (upd (upd H s.heap.objs.size (.own (s.heap.objs.size+1))) (s.heap.objs.size+1) (.ins C s.heap.objs.size []))
   { s with heap:=(s.heap.push PySem.W.emptyDict).push (PySem.W.instObj C s.heap.objs.size) }:=by
 have c:(s.heap.push PySem.W.emptyDict).get? s.heap.objs.size=some PySem.W.emptyDict:=zAx s.heap rfl;have e2:((s.heap.push PySem.W.emptyDict).push (PySem.W.instObj C s.heap.objs.size)).get? (s.heap.objs.size+1)=some (PySem.W.instObj C s.heap.objs.size):=by
   have:=zAx (s.heap.push PySem.W.emptyDict) (o:=PySem.W.instObj C s.heap.objs.size) rfl
   rwa[Heap.size_push] at this
 have f:(s.heap.push PySem.W.emptyDict).Ns s.heap.objs.size (λ _=>none):=⟨PySem.W.emptyDict,#[],_,c,rfl,(λ e g=>absurd g (by simp)),λ _=>rfl⟩
 have I1:=I.laid (a:=s.heap.objs.size) (o:=.own (s.heap.objs.size+1)) (h':=s.heap.push PySem.W.emptyDict) (t':=s.toks) (λ b u q=>zA4 _ q) (zA3 _) ⟨_,c⟩;refine I1.laid (a:=s.heap.objs.size+1) (o:=.ins C s.heap.objs.size []) (t':=s.toks) (λ b u q=>zA4 _ q) (zCb (Heap.size_push _ _)) ?_;have d:s.heap.objs.size≠s.heap.objs.size+1:=zAq (Nat.lt_succ_self _);refine⟨by rw[qd0 d,qb9],zBh _,d,e2,λ _=>none,(Heap.Ns1.of_empty f).at λ o q=>zA4 _ q,λ _=>True.intro,λ y h=>absurd rfl h⟩
theorem qaN4{prog:Program}{w:World}{env:Env}{e:Expr}{f:Str}{pos:Pos}{s:Shared}{Q:Value->Shared->Prop}(a:attributeBase e f env (eval e env)=eval e env)(h:wpAny (model prog w) A (eval e env) (λ o s₁=>wpAny (model prog w) A (getAttr o f true) Q E s₁) E s):wpAny (model prog w) A (eval (.Attribute e f pos) env) Q E s :=
 Attribute_any_ h (by rw[arm_eval_Attribute,a])
end
def tFld(K:PySem.W.Frag)(ta:TE)(f:Str):TE:=λ σ H Q=>ta σ H λ x H1=>∃ a C dx fs v,x=.ref a/\H1 a=some (.ins C dx fs)/\Cls K C/\qe9 K C f/\fs.lookup f=some v/\Q v H1
def sFld(K:PySem.W.Frag)(ta tv:TE)(f:Str):TS:=λ D σ H=>tv σ H λ y H1=>ta σ H1 λ x H2=>∃ a C dx fs,x=.ref a/\H2 a=some (.ins C dx fs)/\Cls K C/\qe9 K C f/\fs.length < 1000 /\
 D.nx σ (upd H2 a (.ins C dx (Bn f y fs)))
section
variable{X:Cx}{o e value:Expr}{f:Str}{pos pos':Pos}{ta tv:TE}
theorem qaH7(d:PE X e ta)(g:attributeBase e f X.env (eval e X.env)=eval e X.env):PE X (.Attribute e f pos) (tFld X.K ta f):=by
 intro De s σ H Q I h;refine qaN4 g (thn (d De s σ H _ I h) λ u o b=>?_);obtain⟨x,H1,I1,i,a,C,p,r,v,j,k,c,n,l,q⟩:=b;subst j;obtain rfl:u=Value.ref a:=i;exact qai0 I1 k c n l λ t w I2 m=>⟨v,H1,I2,m,q⟩
theorem qaP5(d:PE X o ta)(e:PE X value tv)(g:swapsWith value (some (.Attribute o f pos')) pos.line X.env=pure false):PS X (.Assign [.Attribute o f pos'] value pos) (sFld X.K ta tv f):=by
 intro De s σ H D I h;refine plainObj_wpAny_Assign_Attribute (thn (e De s σ H _ I h) λ u i b=>?_) g;obtain⟨y,H1,I1,j,q⟩:=b;refine thn (d De i σ H1 _ I1 q) λ k t b=>?_
 obtain⟨x,H2,I2,m,a,C,v,w,p,r,c,n,l,q2⟩:=b;subst p;obtain rfl:k=Value.ref a:=m;exact qac6 I2 r c n l j λ z I3=>⟨σ,_,I3,q2⟩
theorem qaD1{m:Str}{apos:Pos}{args:List Expr}{De:List (Addr×Obj)}{s:Shared}{σ:St}{H:Hp}{Q:Value->Shared->Prop}{te:TE}(i:PE X e te)(I:Inv X De σ H s)(h:te σ H λ x H1=>∃ a C dx fs g,x=.ref a/\H1 a=some (.ins C dx fs)/\Cls X.K C/\Hb X.K C m g/\fs.lookup m=none /\
     ∀ b,Inv X De σ H1 b->wpAny (model X.prog X.w) X.A (callWith pos (.ref g) [.ref a] (backTo pos (starEach args X.env)) (backToKw pos (keywordEach [] X.env))) Q X.xe b)(j:eval (.Call (.Attribute e m apos) args [] pos) X.env=(do
     let ov <- eval e X.env
     standAt apos.atName
     let (f,first) <- holding [ov] (getMethod ov m pl)
     callWith pos f first (backTo pos (starEach args X.env)) (backToKw pos (keywordEach [] X.env)))) :
   wpAny (model X.prog X.w) X.A (eval (.Call (.Attribute e m apos) args [] pos) X.env) Q X.xe s:=by
 refine PySem.W.methodCall_KW (pl:=pl) (thn (i De s σ H _ I h) λ u b d=>?_) j;obtain⟨x,H1,I1,n,a,C,dx,fs,g,o,p,c,k,l,q⟩:=d;subst o;obtain rfl:u=Value.ref a:=n;exact qB2 I1 p c k l (q b I1)
end
section
variable{X:Cx}{De:List (Addr×Obj)}{σ:St}{H:Hp}{s:Shared}{A:Around}{E Q:Value->Shared->Prop}{c:Value}{b:Bool}
inductive Dy(K:PySem.W.Frag)(H:Hp):V->Value->Prop where
 | non:Dy K H .non (.type "NoneType")
 | bl (x:Bool):Dy K H (.bl x) (.type "bool")
 | int (i:Int):Dy K H (.int i) (.type "int")
 | str (x:Str):Dy K H (.str x) (.type "str")
 | flt (x:UInt64):Dy K H (.flt x) (.type "float")
 | lst {a:Addr} {xs:List V} (e:H a=some (.lst xs)):Dy K H (.ref a) (.type "list")
 | frz {a:Addr} {o:Obj} {xs:List V} (e:H a=some (.frz o (.lst xs))):Dy K H (.ref a) (.type "list")
 | tup {a:Addr} {xs:List V} (e:H a=some (.tup xs)):Dy K H (.ref a) (.type "tuple")
 | dK {a:Addr} {kvs:List (Key×V)} (e:H a=some (.dK kvs)):Dy K H (.ref a) (.type "dict")
 | dT {a:Addr} {kvs:List (List Key×V)} (e:H a=some (.dT kvs)):Dy K H (.ref a) (.type "dict")
 | ins {a C dx:Addr} {fs:List (Str×V)} (e:H a=some (.ins C dx fs)) (cl:Cls K C) (ha:PySem.W.findIn K (.ref C) "__class__" = some (some (.builtin "object.__class__")))
     (hn:PySem.W.specialIn K (.builtin "object.__class__") "__get__" = some (some (.builtin "getset_descriptor.__get__"))) (htk:PySem.W.takesIn K (.builtin "object.__class__")=some true)
     (hm:PySem.W.mroIn K C (.type "object")=some true):Dy K H (.ref a) (.ref C)
theorem qH9{x:V}{u t:Value}(I:Inv X De σ H s)(d:RelV x u)(ty:Dy X.K H x t)(e:PySem.W.kitOne X.K t c=some b)(h:∀ k,Q (.bool b) { s with toks:=k }) :
   wpAny (model X.prog X.w) A (call (.builtin "isinstance") [u,c]) Q E s:=by
 cases ty with
 | non=>cases (show u=Value.none from d);exact PySem.W.kia_one PySem.W.kitx_none I.kIn True.intro e (λ z=>nomatch z) h
 | bl y=>cases (show u=Value.bool y from d);exact PySem.W.kia_one PySem.W.kitx_bool I.kIn True.intro e (λ z=>nomatch z) h
 | int i=>obtain⟨t,q⟩:=(show ∃ t,u=Value.int i t from d);cases q;exact PySem.W.kia_one PySem.W.kitx_int I.kIn True.intro e (λ z=>nomatch z) h
 | str y=>obtain⟨t,q⟩:=(show ∃ t,u=Value.str y t from d);cases q;exact PySem.W.kia_one PySem.W.kitx_str I.kIn True.intro e (λ z=>nomatch z) h
 | flt y=>obtain⟨t,q⟩:=(show ∃ t,u=Value.float y t from d);cases q;exact PySem.W.kia_one PySem.W.kitx_float I.kIn True.intro e (λ z=>nomatch z) h
 | @lst a g ea =>
   cases (show u=Value.ref a from d);obtain⟨_,_,n,_,f⟩:=(show ObjOk X.prog X.w H s.heap a (.lst g) from I.hok a _ ea)
   exact PySem.W.kia_one PySem.W.kitx_list I.kIn ⟨_,f,rfl⟩ e (λ z=>nomatch z) h
 | @frz a ob g ea =>
   cases (show u=Value.ref a from d);obtain⟨_,_,_,n,_,f⟩:=(show ObjOk X.prog X.w H s.heap a (.frz ob (.lst g)) from I.hok a _ ea)
   exact PySem.W.kia_one PySem.W.kitx_list I.kIn ⟨_,f,rfl⟩ e (λ z=>nomatch z) h
 | @tup a g ea =>
   cases (show u=Value.ref a from d);obtain⟨_,_,_,p⟩:=(show ObjOk X.prog X.w H s.heap a (.tup g) from I.hok a _ ea)
   obtain⟨o,f,j,_⟩:=p;exact PySem.W.kia_one PySem.W.kitx_tuple I.kIn ⟨o,f,j⟩ e (λ z=>nomatch z) h
 | @dK a kvs ea =>
   cases (show u=Value.ref a from d);obtain⟨_,_,r,_,p⟩:=(show ObjOk X.prog X.w H s.heap a (.dK kvs) from I.hok a _ ea)
   obtain⟨o,l,m,f,j,_⟩:=p;exact PySem.W.kia_one PySem.W.kitx_dict I.kIn ⟨o,f,j.1⟩ e (λ z=>nomatch z) h
 | @dT a kvs ea =>
   cases (show u=Value.ref a from d);obtain⟨_,_,g,_,o,l,m,f,j,_⟩:=(show ObjOk X.prog X.w H s.heap a (.dT kvs) from I.hok a _ ea)
   exact PySem.W.kia_one PySem.W.kitx_dict I.kIn ⟨o,f,j.1⟩ e (λ z=>nomatch z) h
 | @ins a C dx fs ea cl ha hn htk hm =>
   cases (show u=Value.ref a from d);obtain⟨v,O,_⟩:=qU5 I.hok ea;obtain⟨B,J,_⟩:=O.look;exact PySem.W.kia_one (PySem.W.kitx_own (cl.get _) cl.hd ha hn htk hm) I.kIn J e (λ z=>nomatch z) h
end
structure Room(k:Nat)(A:Around):Prop where
 hd:A.handled=none
 dp:A.depth+3 * k+5 < recursionLimit
 un:A.units+16 * k+200 < cLine
theorem Room.mono{j k:Nat}{A:Around}(r:Room k A)(h:j<=k):Room j A:=⟨r.hd,by have:=r.dp;lia,by have:=r.un;lia⟩
theorem Room.deeper{k:Nat}{A:Around}(r:Room (k+1) A)(env:Env):Room k (A.deeper env) :=
 ⟨r.hd,by have:=r.dp;show A.depth+1+3 * k+5 < _;lia,by have:=r.un;show A.units+3+16 * k+200 < _;lia⟩
theorem qaf9{A:Around}{C:Addr}:(A.under (.builtin "type.__call__" ⟨.ref C::us,kw⟩)).depth=A.depth+1:=by
 first | rfl | simp[Around.under,Code.weight,Code.isCreation,Code.isGuard,Code.isCaller,Code.frames,Code.isFrame,guardIds]
theorem qaf7{A:Around}{C:Addr}:(A.under (.builtin "type.__call__" ⟨.ref C::us,kw⟩)).units=A.units+1:=by
 first | rfl | simp[Around.under,Code.cUnits,Code.frames,Code.isFrame]
theorem Room.make{k:Nat}{A:Around}(r:Room (k+1) A)(C:Addr)(us:List Value)(kw:List (Str×Value)):Room k (A.under (.builtin "type.__call__" ⟨.ref C::us,kw⟩)) :=
 ⟨r.hd,by have:=r.dp;rw[qaf9];lia,by have:=r.un;rw[qaf7];lia⟩
theorem Room.depth{k:Nat}{A:Around}(r:Room k A):A.depth < recursionLimit:=by have:=r.dp;lia
theorem Room.units{k:Nat}{A:Around}(r:Room k A):A.units+64 < cLine:=by have:=r.un;lia
def tNil:TA:=λ _ H Q=>Q [] H
def tCons(ta:TE)(tr:TA):TA:=λ σ H Q=>ta σ H λ x H1=>tr σ H1 λ xs H2=>Q (x::xs) H2
section
variable{X:Cx}{e:Expr}{es:List Expr}{te:TE}{t:TA}{pos:Pos}
theorem qC7:PA X [] tNil:=λ _ _ _ _ H Q I h=>Calls.spliced_nil ⟨[],H,I,.nil,h⟩
theorem qh2(b:PE X e te)(c:PA X es t)(d:starEach (e::es) X.env=(false,eval e X.env)::starEach es X.env:=by rfl):PA X (e::es) (tCons te t):=by
 intro pos De s σ H Q I h;rw[d];show wpAny _ _ (spliced ((false,eval e X.env)::backTo pos (starEach es X.env))) _ _ s;refine Calls.spliced_cons (thn (b De s σ H _ I h) λ u f a=>?_);obtain⟨x,H1,I1,g,i⟩:=a;exact thn (c pos De f σ H1 _ I1 i) λ l m ⟨j,H2,I2,k,q2⟩=>⟨x::j,H2,I2,.cons g k,q2⟩
def tTup(t:TA):TE:=λ σ H Q=>t σ H λ xs H1=>xs.length<=sizeLine/\∀ p,H1 p=none->Q (.ref p) (upd H1 p (.tup xs))
def tLst(t:TA):TE:=λ σ H Q=>t σ H λ xs H1=>xs.length<=sizeLine/\∀ p,H1 p=none->Q (.ref p) (upd H1 p (.lst xs))
theorem qaH3{x1}(h:PA X es t):PE X (.Tuple es x1 pos) (tTup t):=by
 intro De s σ H Q I d;refine wpAny_Tuple_spliced (thn (h pos De s σ H _ I d) λ f a c=>?_);obtain⟨g,H1,I1,r,z,q⟩:=c;refine⟨by rw[<- r.length];exact z,?_⟩;have i:H1 a.heap.objs.size=none:=I1.hok.fresh (zA3 _);refine⟨.ref a.heap.objs.size,upd H1 a.heap.objs.size (.tup g),I1.laid (t':=a.toks) (λ b u e=>zA4 _ e) (zA3 _) ?_,rfl,q _ i⟩;exact⟨z,f,r,⟨_,zAx _ rfl,rfl,_,rfl⟩⟩
theorem qax8(h:PA X es t):PE X (.List es pos) (tLst t):=by
 intro De s σ H Q I d;refine wpAny_List_spliced (thn (h pos De s σ H _ I d) λ f a c=>?_);obtain⟨g,H1,I1,r,z,q⟩:=c;refine⟨by rw[<- r.length];exact z,?_⟩;have i:H1 a.heap.objs.size=none:=I1.hok.fresh (zA3 _);refine⟨.ref a.heap.objs.size,upd H1 a.heap.objs.size (.lst g),I1.laid (t':=a.toks) (λ b u e=>zA4 _ e) (zA3 _) ?_,rfl,q _ i⟩;exact⟨z,f,0,r,zAx _ rfl⟩
end
abbrev Sp:=List V->Hp->VK->XK->Prop
abbrev CXT:=List Env->Hp->Shared->XK->Value->Shared->Prop
structure Env0(P:Program)(w:World)(K:PySem.W.Frag)(mg:Str->Option Value)(base:Heap)(A:Around)(outer:List Env)(s:Shared)(H:Hp):Prop where
 frames:A.frames=some outer
 mod:Mod K mg base
 bs:∀ b o,base.get? b=some o->s.heap.get? b=some o/\H b=none
 bsz:base.objs.size<=s.heap.objs.size
 funs:s.heap.FunFrames base outer
 frf:∀ b∈frs outer,H b=none
 hok:HOk P w H s.heap
 bare:AllBare s.gens
def CE(outer:List Env)(P:Program)(w:World)(H:Hp)(s:Shared)(Q:VK)(u:Value)(s':Shared):Prop :=
 ∃ v H',s'.os=s.os/\AllBare s'.gens/\Un (frs outer) [] H H' s.heap s'.heap/\HOk P w H' s'.heap/\RelV v u/\Q v H'
def CR(CX:CXT)(outer:List Env)(P:Program)(w:World)(H:Hp)(s:Shared)(Q:VK)(E:XK)(r:Result)(s':Shared):Prop :=
 match r with
 | .ok (.ret u)=>CE outer P w H s Q u s'
 | .ok _=>False
 | .error e=>CX outer H s E e s'
structure Bz(P:Program)(w:World)(K:PySem.W.Frag)(mg:Str->Option Value)(base:Heap)(CX:CXT)(k:Nat)(f:Addr)(fd:FuncData)(ps:List Str)(sp:Sp):Prop where
 len:∀ vs H Q E,sp vs H Q E->vs.length=ps.length
 run:∀(A:Around)(outer:List Env)(s:Shared)(H:Hp)(args:Args)(us:List Value)(vs:List V)(Q:VK)(E:XK),Room k A->Env0 P w K mg base A outer s H->BindsTo s fd args (ps.zip us)->Vals vs us->sp vs H Q E ->
   codeAny (model P w) A (.call (.ref f) args) (CR CX outer P w H s Q E) s
theorem Env0.make{P:Program}{w:World}{K:PySem.W.Frag}{A:Around}{outer:List Env}{s:Shared}{H:Hp}(e:Env0 P w K mg base A outer s H)(C:Addr)(us:List Value)(kw:List (Str×Value)) :
   Env0 P w K mg base (A.under (.builtin "type.__call__" ⟨.ref C::us,kw⟩)) outer s H:=⟨by first | exact e.frames | (simpa[Around.under,Code.envs,Code.isFrame,pushEnvs] using e.frames),e.mod,e.bs,e.bsz,e.funs,e.frf,e.hok,e.bare⟩
section
variable{X:Cx}{De:List (Addr×Obj)}{σ:St}{H:Hp}{s s':Shared}
theorem Inv.env0(I:Inv X De σ H s):Env0 X.prog X.w X.K X.mg X.base X.A X.stack s H :=
 ⟨I.ok.frames,I.ok.mod,I.bs,zAr I.ok.bsz I.sz,I.stack,I.stkFree,I.hok,I.bare⟩
theorem Inv.after{Q:VK}{u:Value}(I:Inv X De σ H s)(h:CE X.stack X.prog X.w H s Q u s'):EP X De σ Q u s':=by
 obtain⟨v,H',e,bare,f,a,r,q⟩:=h;obtain⟨i,g,d,t,c⟩:=s';obtain rfl:c=s.os:=e;exact⟨v,H',I.call (h':=i) (g':=g) (d':=d) (t':=t) (ch:=[]) f a bare (λ b z=>absurd z (by simp)),r,q⟩
end
def Ht(sp:Sp)(dvs:List V)(E:XK)(t:TA):TE:=λ σ H Q=>t σ H λ vs H1=>sp (vs++dvs) H1 Q E
def Gz(C:Addr)(m:Str)(sp:Sp)(dvs:List V)(E:XK)(ta:TE)(t:TA):TE:=λ σ H Q=>ta σ H λ x H1=>∃ a dx fs,x=.ref a/\H1 a=some (.ins C dx fs)/\fs.lookup m=none /\
 t σ H1 λ vs H2=>sp (x::(vs++dvs)) H2 Q E
def tMake(C:Addr)(sp:Sp)(dvs:List V)(E:XK)(t:TA):TE:=λ σ H Q=>t σ H λ vs H1=>∀ x dx,H1 x=none->H1 dx=none->dx≠x ->
 sp (.ref x::(vs++dvs)) (upd (upd H1 dx (.own x)) x (.ins C dx [])) (λ v H2=>v=.non/\Q (.ref x) H2) E
def Binds(K:PySem.W.Frag)(fd:FuncData)(ps:List Str)(ds:List Value):Prop :=
 ∀(s:Shared)(us:List Value),K.In s.heap->(us++ds).length=ps.length->BindsTo s fd ⟨us,[]⟩ (ps.zip (us++ds))
theorem Binds.all{K:PySem.W.Frag}{fd:FuncData}{ps:List Str}(h:∀ us:List Value,us.length=ps.length->bindArgs fd ⟨us,[]⟩=pure (ps.zip us)):Binds K fd ps []:=λ s us _ a=>by
 rw[zAg] at a ⊢;exact .of_eq (h us a)
def qM8(CX:CXT)(X:Cx)(E:XK):Prop:=∀(De:List (Addr×Obj))(σ:St)(H:Hp)(s:Shared)(e:Value)(s':Shared),Inv X De σ H s->CX X.stack H s E e s'->X.xe e s'
section
variable{X:Cx}{CX:CXT}{k:Nat}{f C:Addr}{fd:FuncData}{ps:List Str}{sp:Sp}{dvs:List V}{ds:List Value}{E:XK}{x m:Str}{p pos apos:Pos}{e o:Expr}{es:List Expr}{ta:TE}{t:TA}
theorem qax0{De:List (Addr×Obj)}{σ:St}{H:Hp}{s:Shared}{Q:VK}{vs:List V}(F:Bz X.prog X.w X.K X.mg X.base CX k f fd ps sp)(c:Room k X.A)(d:Binds X.K fd ps ds)(g:Vals dvs ds)(i:qM8 CX X E)(I:Inv X De σ H s)(r:Vals vs us)(h:sp (vs++dvs) H Q E):wpAny (model X.prog X.w) X.A (call (.ref f) us) (EP X De σ Q) X.xe s:=by
 have b:Vals (vs++dvs) (us++ds):=r.append g;have j:(us++ds).length=ps.length:=by rw[<- b.length];exact F.len _ _ _ _ h
 refine wpAny_call (codeAny_mono (F.run X.A X.stack s H ⟨us,[]⟩ (us++ds) (vs++dvs) Q E c I.env0 (d s us I.kIn j) b h) λ r l a=>?_);cases r with
 | error e=>exact i De σ H s e l I a
 | ok m =>
   cases m with
   | ret u=>exact I.after a
   | next=>exact False.elim a
   | brk=>exact False.elim a
   | cont=>exact False.elim a
theorem qas8(F:Bz X.prog X.w X.K X.mg X.base CX k f fd ps sp)(d:Room k X.A)(g:Gl X x)(hm:X.mg x=some (.ref f))(i:PySem.W.keepIn X.K (.ref f)=true)(j:Binds X.K fd ps ds)(l:Vals dvs ds)(m:qM8 CX X E)(n:PA X (e::es) t)(a:(x == ("__debug__" : Str))=false:=by decide)(o:starEach (e::es) X.env=(false,eval e X.env)::starEach es X.env:=by rfl)(b:(backTo pos (starEach es X.env)).any (·.1)=false:=by rfl) :
   PE X (.Call (.Name x p) (e::es) [] pos) (Ht sp dvs E t):=by
 intro De s σ H Q I h;refine wpAny_Call_Name_kw (qag4 I g hm ?_ a);refine PySem.W.callWith_K (h₀:=X.base) I.ok.mod.kin i (thn (n pos De s σ H _ I h) λ u v c=>?_) o b;obtain⟨y,H1,I1,r,q⟩:=c;refine⟨I1.kIn,?_⟩;exact qax0 F d j l m I1 r q
theorem qas6(n:PE X o ta)(c:Cls X.K C)(hm:Hb X.K C m f)(F:Bz X.prog X.w X.K X.mg X.base CX k f fd ps sp)(p:Room k X.A)(v:Binds X.K fd ps ds)(y:Vals dvs ds)(z:qM8 CX X E)(B:PA X (e::es) t)(d:starEach (e::es) X.env=(false,eval e X.env)::starEach es X.env:=by rfl)(g:(backTo pos (starEach es X.env)).any (·.1)=false:=by rfl)(D:eval (.Call (.Attribute o m apos) (e::es) [] pos) X.env=(do
     let ov <- eval o X.env
     standAt apos.atName
     let (f,first) <- holding [ov] (getMethod ov m pl)
     callWith pos f first (backTo pos (starEach (e::es) X.env)) (backToKw pos (keywordEach [] X.env))):=by rfl) :
   PE X (.Call (.Attribute o m apos) (e::es) [] pos) (Gz C m sp dvs E ta t):=by
 intro De s σ H Q I h;refine PySem.W.methodCall_KW (pl:=pl) (thn (n De s σ H _ I h) λ u G b=>?_) D;obtain⟨x,H1,I1,J,a,N,O,L,M,l,q⟩:=b;subst L;obtain rfl:u=Value.ref a:=J;refine qB2 I1 M c hm l ?_;refine PySem.W.callWith_K (first:=[.ref a]) (h₀:=X.base) I.ok.mod.kin hm.kp (thn (B pos De G σ H1 _ I1 q) λ i P b=>?_) d g;obtain⟨j,H2,I2,r,q2⟩:=b;refine⟨I2.kIn,?_⟩;exact qax0 (us:=.ref a::i) (vs:=.ref a::j) F p v y z I2 (.cons rfl r) q2
theorem qP7(d:PE X o ta)(c:Cls X.K C)(hm:Hb X.K C m f)(F:Bz X.prog X.w X.K X.mg X.base CX k f fd ps sp)(e:Room k X.A)(g:Binds X.K fd ps ds)(i:Vals dvs ds)(j:qM8 CX X E)(n:eval (.Call (.Attribute o m apos) [] [] pos) X.env=(do
     let ov <- eval o X.env
     standAt apos.atName
     let (f,first) <- holding [ov] (getMethod ov m pl)
     callWith pos f first (backTo pos (starEach [] X.env)) (backToKw pos (keywordEach [] X.env))):=by rfl) :
   PE X (.Call (.Attribute o m apos) [] [] pos) (Gz C m sp dvs E ta tNil):=by
 intro De s σ H Q I h;refine PySem.W.methodCall_KW (pl:=pl) (thn (d De s σ H _ I h) λ u v b=>?_) n;obtain⟨x,H1,I1,p,a,y,z,r,t,l,q⟩:=b;subst r;obtain rfl:u=Value.ref a:=p;refine qB2 I1 t c hm l ?_;exact PySem.W.callWith_K0 (first:=[.ref a]) I1.kIn hm.kp (qax0 (us:=[.ref a]) (vs:=[.ref a]) F e g i j I1 (.cons rfl .nil) q)
structure Mk(K:PySem.W.Frag)(C f:Addr):Prop where
 makes:PySem.W.makesIn K C=true
 init:PySem.W.findIn K (.ref C) "__init__" = some (some (.ref f))
 fn:PySem.W.isFn K (.ref f)=true
 kp:PySem.W.keepIn K (.ref C)=true
theorem qaw9{De:List (Addr×Obj)}{σ:St}{H:Hp}{s:Shared}{Q:VK}{vs:List V}(M:Mk X.K C f)(F:Bz X.prog X.w X.K X.mg X.base CX k f fd ps sp)(d:Room (k+1) X.A)(g:Binds X.K fd ps ds)(i:Vals dvs ds)(j:qM8 CX X E)(I:Inv X De σ H s)(r:Vals vs us)(h:∀ x dx,H x=none->H dx=none->dx≠x->sp (.ref x::(vs++dvs)) (upd (upd H dx (.own x)) x (.ins C dx [])) (λ v H2=>v=.non/\Q (.ref x) H2) E) :
   wpAny (model X.prog X.w) X.A (call (.ref C) us) (EP X De σ Q) X.xe s:=by
 have b:=h (s.heap.objs.size+1) s.heap.objs.size (I.hok.fresh (Nat.le_succ _)) (I.hok.fresh (zA3 _)) (zAq (Nat.lt_succ_self _));have I2:=Inv.made (C:=C) I;have c:Vals (V.ref (s.heap.objs.size+1)::(vs++dvs)) (Value.ref (s.heap.objs.size+1)::(us++ds)):=.cons rfl (r.append i);have l:(Value.ref (s.heap.objs.size+1)::us++ds).length=ps.length:=by
   have e:=c.length;rw[F.len _ _ _ _ b] at e;exact e.symm
 refine wpAny_call (qaA3 (f:=f) I.kIn M.makes M.init (zC1.mp M.fn) (codeAny_mono (F.run _ X.stack _ _ ⟨Value.ref (s.heap.objs.size+1)::us,[]⟩ (Value.ref (s.heap.objs.size+1)::(us++ds)) _ _ E (d.make C us [])
   (I2.env0.make C us []) (g _ (Value.ref (s.heap.objs.size+1)::us) I2.kIn l) c b) λ r m a=>?_))
 cases r with
 | error e=>exact j De σ _ _ e m I2 a
 | ok n =>
   cases n with
   | ret u =>
     obtain⟨v,H',I3,o,p,q⟩:=I2.after a;subst p;exact⟨o,⟨V.ref (s.heap.objs.size+1),H',I3,rfl,q⟩⟩
   | next=>exact False.elim a
   | brk=>exact False.elim a
   | cont=>exact False.elim a
theorem qae1(M:Mk X.K C f)(F:Bz X.prog X.w X.K X.mg X.base CX k f fd ps sp)(d:Room (k+1) X.A)(g:Gl X x)(hm:X.mg x=some (.ref C))(i:Binds X.K fd ps ds)(j:Vals dvs ds)(l:qM8 CX X E)(m:PA X (e::es) t)(a:(x == ("__debug__" : Str))=false:=by decide)(n:starEach (e::es) X.env=(false,eval e X.env)::starEach es X.env:=by rfl)(b:(backTo pos (starEach es X.env)).any (·.1)=false:=by rfl) :
   PE X (.Call (.Name x p) (e::es) [] pos) (tMake C sp dvs E t):=by
 intro De s σ H Q I h;refine wpAny_Call_Name_kw (qag4 I g hm ?_ a);refine PySem.W.callWith_K (h₀:=X.base) I.ok.mod.kin M.kp (thn (m pos De s σ H _ I h) λ o u c=>?_) n b;obtain⟨v,H1,I1,r,q⟩:=c;refine⟨I1.kIn,?_⟩;exact qaw9 M F d i j l I1 r q
end
structure qa8(N P:List Str)(sc:Scope):Prop where
 kind:sc.kind=.function
 co:sc.isCoroutine=false
 gen:sc.isGenerator=false
 nd:N.Nodup
 pre:N.take P.length=P
 par:∀ x∈P,sc.names.lookup x=some .local∨sc.names.lookup x=some .cell
 nofree:∀ y∈sc.names,y.2≠.free
theorem qX0{kindOf:Str->Option NameKind}{x:Str}:∀{binds:List (Str×Value)}{m:Str->Option Value},(∀ v,(x,v)∉binds)->bindL kindOf binds m x=m x
 | [],_,_=>rfl
 | (n,v)::r,m,h=>by
   unfold bindL;rw[qX0 λ w a=>h w (zA6 _ a)];split
   . have:x≠n:=by rintro rfl;exact h v zAb
     simp[this]
   rfl
theorem qX2{kindOf:Str->Option NameKind}{x:Str}:∀{binds:List (Str×Value)}{m:Str->Option Value},(∀ v,(x,v)∉binds)->bindC kindOf binds m x=m x
 | [],_,_=>rfl
 | (n,v)::r,m,h=>by
   unfold bindC;rw[qX2 λ w a=>h w (zA6 _ a)];split
   . rfl
   have:x≠n:=by rintro rfl;exact h v zAb
   simp[this]
theorem qX1{kindOf:Str->Option NameKind}{x:Str}{v:Value}:∀{P:List Str}{vs:List Value}{i:Nat}{m:Str->Option Value},P.Nodup->P[i]? = some x->vs[i]? = some v->kindOf x=some .local ->
   bindL kindOf (P.zip vs) m x=some v
 | [],_,_,_,_,h,_,_=>by simp at h
 | _::_,[],_,_,_,_,h,_=>by simp at h
 | p::P,w::vs,0,m,nd,h1,h2,hk=>by
   simp at h1 h2;subst h1;subst h2;show bindL kindOf ((p,w)::P.zip vs) m p=_;unfold bindL;rw[qX0 λ v a=>(zBz.mp nd).1 (List.of_mem_zip a).1,if_pos hk];simp
 | p::P,w::vs,i+1,m,nd,h1,h2,hk=>by
   show bindL kindOf ((p,w)::P.zip vs) m x=_;unfold bindL;exact qX1 (i:=i) (zBz.mp nd).2 (by simpa using h1) (by simpa using h2) hk
theorem qX3{kindOf:Str->Option NameKind}{x:Str}{v:Value}:∀{P:List Str}{vs:List Value}{i:Nat}{m:Str->Option Value},P.Nodup->P[i]? = some x->vs[i]? = some v->kindOf x≠some .local ->
   bindC kindOf (P.zip vs) m x=some v
 | [],_,_,_,_,h,_,_=>by simp at h
 | _::_,[],_,_,_,_,h,_=>by simp at h
 | p::P,w::vs,0,m,nd,h1,h2,hk=>by
   simp at h1 h2;subst h1;subst h2;show bindC kindOf ((p,w)::P.zip vs) m p=_;unfold bindC;rw[qX2 λ v a=>(zBz.mp nd).1 (List.of_mem_zip a).1,if_neg hk];simp
 | p::P,w::vs,i+1,m,nd,h1,h2,hk=>by
   show bindC kindOf ((p,w)::P.zip vs) m x=_;unfold bindC;exact qX3 (i:=i) (zBz.mp nd).2 (by simpa using h1) (by simpa using h2) hk
noncomputable def start(N:List Str)(vs:List V):St:=vs.map some++List.replicate (N.length - vs.length) none
noncomputable def Dt(CX:CXT)(P:Program)(w:World)(K:PySem.W.Frag)(mg:Str->Option Value)(base:Heap)(N:List Str)(qual:Str)(scope:Scope)(f:Addr)(cd:Value)(A:Around)(outer:List Env)(s:Shared)(H:Hp)(E:XK):Cx where
 prog:=P
 w:=w
 K:=K
 mg:=mg
 base:=base
 A:=A.deeper (envOfC qual scope s.heap.objs.size f cd)
 N:=N
 s₀:=s
 H₀:=H
 env:=envOfC qual scope s.heap.objs.size f cd
 outer:=outer
 stack:=envOfC qual scope s.heap.objs.size f cd::outer
 ex:=[]
 calm:=true
 fn:=λ _=>true
 pn:=[]
 xe:=λ e s'=>wpAny (model P w) (A.deeper (envOfC qual scope s.heap.objs.size f cd)) (leaving (envOfC qual scope s.heap.objs.size f cd) e) (λ _ a=>CX outer H s E e a) (λ b a=>CX outer H s E b a) s'
theorem qaj1{sc:Scope}{x:Str}(h:sc.names.lookup x=some .cell):∃ c,(cellsFrom n sc.names []).lookup x=some c:=by
 have q:=PySem.W.cellsFrom_some sc.names n [] (.inl h);exact zAz.mp q
theorem qao2{CX:CXT}{P:Program}{w:World}{K:PySem.W.Frag}{ps:List Str}{qual:Str}{scope:Scope}{f:Addr}{cd:Value}{A:Around}{outer:List Env}{s C:Shared}{H:Hp}{E:XK}{vs:List V}(S:qa8 N ps scope)(G:A.handled=none)(g:Env0 P w K mg base A outer s H)(M:vs.length=ps.length)(r:Vals vs us)(x:InCallC s s.heap.objs.size (bindL (envOfC qual scope s.heap.objs.size f cd).kindOf (ps.zip us) λ _=>none) (cellsFrom (s.heap.objs.size+1) scope.names []) (bindC (envOfC qual scope s.heap.objs.size f cd).kindOf (ps.zip us) λ _=>none) C) :
   Inv (Dt CX P w K mg base N qual scope f cd A outer s H E) [] (start N vs) H C:=by
 have I:ps.length<=N.length:=by have:=congrArg List.length S.pre;rw[zBp] at this;lia
 obtain⟨t,O,rfl,D⟩:=x.done;have j:∀ b:Addr,b∉(Dt CX P w K mg base N qual scope f cd A outer s H E).ex:=λ b z=>absurd (show b∈([]:List Addr) from z) (by simp)
 refine⟨⟨g.mod,S.kind,rfl,rfl,zA3 _,λ y z c t d=>?_,λ y l=>?_,λ y c _ h=>?_,λ _=>G,Around.frames_deeper g.frames,.inr ⟨rfl,rfl⟩,λ b z=>absurd z (j b),g.bs,g.bsz,λ b _ _=>j b,λ b z=>absurd z (j b),g.funs,g.frf⟩,
   rfl,g.bare,Un.kept D,⟨_,x.toInCall.ns,λ i y v t d Q=>?_⟩,λ y c h=>⟨_,x.cell y c h⟩,g.hok.fresh (zA3 _),λ y c h=>?_,λ p m=>absurd (show p∈([]:List (Addr×Obj)) from m) (by simp),g.hok.kept D,?_⟩
 . exact name_of_addr x.apart (PySem.mem_of_lookup t) (PySem.mem_of_lookup d)
 . have l:scope.names.lookup y=some .cell∨scope.names.lookup y=some .free:=l
   rcases l with l | l
   . exact qaj1 l
   exact absurd rfl (S.nofree _ (PySem.mem_of_lookup l))
 . exact zCa (x.above y c (PySem.mem_of_lookup h))
 . have B:i < vs.length:=by
     unfold start at d;by_cases B:i < vs.length
     . exact B
     rw[List.getElem?_append_right (by simpa using B)] at d;rw[List.getElem?_replicate] at d;split at d<;>cases d
   have J:vs[i]? = some v:=by
     unfold start at d;rw[zAu (by simpa using B),zB2] at d;cases e:vs[i]? with
     | none=>rw[e] at d;cases d
     | some a=>rw[e] at d;cases d;rfl
   obtain⟨u,F,L⟩:=r.get J;have m:ps[i]? = some y:=by
     rw[<- S.pre,List.getElem?_take_of_lt (by lia)];exact t
   have o:ps.Nodup:=by rw[<- S.pre];exact S.nd.sublist (List.take_sublist _ _)
   refine⟨u,L,?_⟩;rcases S.par y (zAy m) with k | k
   . exact .inl ⟨k,qX1 o m F k⟩
   obtain⟨c,e⟩:=qaj1 (n:=s.heap.objs.size+1) k;refine .inr ⟨.inl k,c,e,?_⟩;have q:=x.cell y c e;rw[qX3 o m F (by show scope.names.lookup y≠_;rw[k];decide)] at q;exact q
 . exact g.hok.fresh (zCa (x.above y c (PySem.mem_of_lookup h)))
 unfold start;show _=N.length;rw[zAf,zA7,List.length_replicate];lia
theorem Hu{CX:CXT}{P:Program}{w:World}{K:PySem.W.Frag}{k:Nat}{f:Addr}{name qual:Str}{params:Arguments}{scope:Scope}{B kV d C a D oc:Value}{F L:Option Addr}{i:Array (Option Value)}{ps:List Str}{sp:Sp}(M:K.lookup f=some ⟨oc,L,.func (PySem.W.fnOf name qual params body scope B kV d C F a D),i⟩)(j:PySem.W.codeIn K a qual=true)(S:qa8 N ps scope)(len:∀ vs H Q E,sp vs H Q E->vs.length=ps.length)(hbody:∀(A:Around)(outer:List Env)(s:Shared)(H:Hp)(vs:List V)(Q:VK)(E:XK),Room k (A.deeper (envOfC qual scope s.heap.objs.size f a))->sp vs H Q E ->
     ∃ t,PSs (Dt CX P w K mg base N qual scope f a A outer s H E) body t/\t { nx:=λ _ H'=>Q .non H',rt:=Q } (start N vs) H) :
   Bz P w K mg base CX (k+1) f (PySem.W.fnOf name qual params body scope B kV d C F a D) ps sp:=by
 refine⟨len,λ A outer s H args O vs Q E l g R r h=>?_⟩;have T:=len _ _ _ _ h;have KX:K.In s.heap:=g.mod.kin.keeps λ b o e=>(g.bs b o e).1
 have m:s.heap.NoLimit:=g.mod.nolimit.keeps λ b o e=>(g.bs b o e).1
 have hkind:∀ y∈ps.zip O,scope.names.lookup y.1=some .local∨(scope.names.lookup y.1=some .cell/\((cellsFrom (s.heap.objs.size+1) scope.names []).lookup y.1).isSome=true):=λ ⟨n,v⟩ U=>by
   rcases S.par n (List.of_mem_zip U).1 with q | q
   . exact .inl q
   exact .inr ⟨q,PySem.W.cellsFrom_some _ _ _ (.inl q)⟩
 refine codeAny_call_function l.depth (KX _ _ M) rfl S.co S.gen rfl (PySem.W.codeRec_of KX j) (R _ _ _ _ ?_);refine wpAny_newFunctionEnv_cells S.kind hkind λ X Y G x=>?_
 subst Y;refine⟨m.keeps x.toInCall.keep,codeAny_func ?_⟩;obtain⟨t,Z,hq⟩:=hbody A outer s H vs Q E (l.deeper _) h;have I:Inv (Dt CX P w K mg base N qual scope f a A outer s H E) [] (start N vs) H G:=qao2 S l.hd g T r x;refine wpAny_mono (Z [] G (start N vs) H _ I hq) (λ fl p c=>?_) λ e p c=>c
 have fin:∀{σ':St}{H':Hp}{v:V}{u:Value},Inv (Dt CX P w K mg base N qual scope f a A outer s H E) [] σ' H' p->RelV v u->Q v H'->CE outer P w H s Q u p :=
   λ{σ' H' v u} J z q=>⟨v,H',J.os,J.bare,J.base,J.hok,z,q⟩
 cases fl with
 | ret u =>
   obtain⟨v,σ',H',J,z,q⟩:=c;exact fin J z q
 | next =>
   obtain⟨σ',H',J,q⟩:=c;exact fin (v:=V.non) (u:=Value.none) J rfl q
 | brk =>
   obtain⟨_,_,_,q⟩:=c;exact False.elim q
 | cont =>
   obtain⟨_,_,_,q⟩:=c;exact False.elim q
section
variable{X:Cx}{x:Str}{p pos:Pos}{e:Expr}{es:List Expr}{t:TA}{id T:String}{r:List V->Hp->VK->Prop}
def tCB(r:List V->Hp->VK->Prop)(t:TA):TE:=λ σ H Q=>t σ H λ vs H1=>r vs H1 Q
theorem qay3(c:CallR X (.builtin id) r)(d:Gl X x)(hm:X.mg x=none)(f:bootBuiltins x=some (.builtin id))(g:PA X (e::es) t)(i:x ≠ "__name__" := by decide)(a:(x == ("__debug__" : Str))=false:=by decide)(j:starEach (e::es) X.env=(false,eval e X.env)::starEach es X.env:=by rfl)(b:(backTo pos (starEach es X.env)).any (·.1)=false:=by rfl):PE X (.Call (.Name x p) (e::es) [] pos) (tCB r t):=by
 intro De s σ H Q I h;refine wpAny_Call_Name_kw (qag5 I d hm f ?_ i a);exact PyProof.Rows.callWith_builtin1 (thn (g pos De s σ H _ I h) λ k l ⟨m,H1,I1,n,o⟩=>c De l σ H1 m k Q I1 n o) j b
theorem qam8(c:CallR X (.type T) r)(d:Gl X x)(hm:X.mg x=none)(f:bootBuiltins x=some (.type T))(g:PA X (e::es) t)(i:x ≠ "__name__" := by decide)(a:(x == ("__debug__" : Str))=false:=by decide)(j:starEach (e::es) X.env=(false,eval e X.env)::starEach es X.env:=by rfl)(b:(backTo pos (starEach es X.env)).any (·.1)=false:=by rfl):PE X (.Call (.Name x p) (e::es) [] pos) (tCB r t):=by
 intro De s σ H Q I h;refine wpAny_Call_Name_kw (qag5 I d hm f ?_ i a);exact PyProof.Rows.callWith_type1 (thn (g pos De s σ H _ I h) λ k l ⟨m,H1,I1,n,o⟩=>c De l σ H1 m k Q I1 n o) j b
end
end L2
namespace HT
open PySem PyProof.Rows
section
noncomputable def sIx(n d:Nat):Option Int->Nat
 | none=>d
 | some v=>if v < 0 then (v+(n:Int)).toNat else min v.toNat n
theorem qad4(n d:Nat):sIx n d none=d:=rfl
theorem qar6(n d k:Nat):sIx n d (some (k:Int))=min k n:=by
 show (if (k:Int) < 0 then ((k:Int)+(n:Int)).toNat else min (k:Int).toNat n)=min k n;rw[if_neg (by lia),Int.toNat_natCast]
end
end HT
namespace L2
open PySem PySem.Spec PyProof.Rows
variable{its:List Value}{n:Nat}{x:V}{α:Type}
abbrev TO:=St->Hp->(Option Int->Hp->Prop)->Prop
def PO(X:Cx)(e:Option Expr)(t:TO):Prop :=
 ∀(De:List (Addr×Obj))(s:Shared)(σ:St)(H:Hp)(Q:Option Int->Hp->Prop),Inv X De σ H s->t σ H Q ->
   wpAny (model X.prog X.w) X.A (evalPart e X.env) (λ u s'=>∃ o H',Inv X De σ H' s'/\IsPart u o/\Q o H') X.xe s
def qaE2:TO:=λ _ H Q=>Q none H
def tPart(t:TE):TO:=λ σ H Q=>t σ H λ x H1=>∃ i,x=.int i/\Q (some i) H1
theorem qah5{ns:List Int}:∀{us:List Value},Vals (ns.map V.int) us->IntsAre us ns:=by
 induction ns with
 | nil=>intro us r;rw[List.map_nil] at r;cases r;exact .nil
 | cons n ns a =>
   intro us r;rw[zB0] at r;cases r with
   | cons b c =>
     obtain⟨t,e⟩:=b;subst e;exact .cons n t (a c)
section
variable{X:Cx}{e:Expr}{te:TE}{lo hi:Option Expr}{tl th:TO}{pos p2:Pos}
theorem qad9:PO X none qaE2:=by
 intro De s σ H Q I h;rw[evalPart_none];exact wpAny_pure ⟨none,H,I,.none,h⟩
theorem qad8(h:PE X e te):PO X (some e) (tPart te):=by
 intro De s σ H Q I b;rw[evalPart_some];refine thn (h De s σ H _ I b) λ u f a=>?_
 obtain⟨x,H1,I1,c,d⟩:=a;obtain⟨i,rfl,q⟩:=d;obtain⟨t,rfl⟩:=c;exact⟨some i,H1,I1,.int i t,q⟩
def SlR(X:Cx)(r:V->Option Int->Option Int->Hp->VK->Prop):Prop :=
 ∀(De:List (Addr×Obj))(s:Shared)(σ:St)(H:Hp)(x:V)(v vl vu:Value)(lo hi:Option Int)(sl:Addr)(Q:VK),Inv X De σ H s->RelV x v->s.heap.IsSliceOf sl vl vu .none->IsPart vl lo->IsPart vu hi->r x lo hi H Q ->
   ∃ T id,typeLookup (.type T) "__getitem__" = pure (some (.builtin id))/\s.TypeIs v T/\wpAny (model X.prog X.w) X.A (getItem v (.ref sl)) (EP X De σ Q) X.xe s
def tSl(r:V->Option Int->Option Int->Hp->VK->Prop)(te:TE)(tl th:TO):TE:=λ σ H Q=>te σ H λ x H1=>tl σ H1 λ l H2=>th σ H2 λ u H3=>r x l u H3 Q
theorem qP6{r:V->Option Int->Option Int->Hp->VK->Prop}(g:SlR X r)(i:PE X e te)(j:PO X lo tl)(k:PO X hi th):PE X (.Subscript e (.Slice lo hi none p2) pos) (tSl r te tl th):=by
 intro De s σ H Q I h;refine Subscript_ (thn (i De s σ H _ I h) λ v m a=>?_);obtain⟨x,H1,I1,n,o⟩:=a;refine wpAny_Slice (thn (j De m σ H1 _ I1 o) λ d p a=>?_);obtain⟨l,H2,I2,t,q2⟩:=a;refine thn (k De p σ H2 _ I2 q2) λ f c a=>?_
 obtain⟨u,H3,I3,y,z⟩:=a;rw[evalPart_none];refine wpAny_pure ?_;have I4:Inv X De σ H3 { c with heap:=c.heap.push { cls:=.type "slice",data:=.fields #[d,f,.none] } }:=I3.kept (t':=c.toks) λ b F q=>zA4 _ q
 obtain⟨T,id,B,C,D⟩:=g De { c with heap:=c.heap.push { cls:=.type "slice",data:=.fields #[d,f,.none] } } σ H3 x v d f l u c.heap.objs.size Q I4 n (Heap.IsSliceOf.new ..) t y z;show wpAny (model X.prog X.w) X.A (subscriptTail e (.Slice lo hi none p2) v (.ref c.heap.objs.size)) (EP X De σ Q) X.xe { c with heap:=c.heap.push { cls:=.type "slice",data:=.fields #[d,f,.none] } };exact tail_any (ops:=[.ref c.heap.objs.size,v]) C B D (by with_unfolding_all rfl)
def Fs(xs:List V)(lo hi:Option Int):List V:=(xs.drop (HT.sIx xs.length 0 lo)).take (HT.sIx xs.length xs.length hi - HT.sIx xs.length 0 lo)
theorem qaa5(xs:List V)(lo hi:Option Int):(Fs xs lo hi).length<=xs.length:=by
 unfold Fs;rw[zBp,List.length_drop];lia
end
noncomputable def ixN(n:Nat)(i:Int):Option Nat:=if 0<=i then (if i < n then some i.toNat else none) else if -(n:Int)<=i then some (i+n).toNat else none
def atI{α:Type}(xs:List α)(i:Int):Option α:=(ixN xs.length i).bind λ j=>xs[j]?
theorem qU2{i:Int}{j:Nat}(h:ixN n i=some j):seqIndex? i n=some j/\j < n/\-(n:Int)<=i/\i < n:=by
 unfold ixN at h;by_cases b:0<=i
 . rw[if_pos b] at h
   by_cases a:i < n
   . rw[if_pos a] at h
     have e:i.toNat=j:=Option.some.inj h;exact⟨by rw[seqIndex_of b a,e],by lia,by lia,a⟩
   rw[if_neg a] at h;cases h
 rw[if_neg b] at h;by_cases a:-(n:Int)<=i
 . rw[if_pos a] at h
   have e:(i+n).toNat=j:=Option.some.inj h;exact⟨by rw[seqIndex_neg (by lia) a,e],by lia,a,by lia⟩
 rw[if_neg a] at h;cases h
theorem qak0{xs:List α}{i:Int}{v:α}(h:atI xs i=some v):∃ j,seqIndex? i xs.length=some j/\xs[j]? = some v/\j < xs.length/\-(xs.length:Int)<=i/\i < xs.length:=by
 unfold atI at h;cases e:ixN xs.length i with
 | none=>rw[e] at h;cases h
 | some j =>
   rw[e] at h;obtain⟨a,b,c,d⟩:=qU2 e;exact⟨j,a,h,b,c,d⟩
theorem qX4{xs:List α}{j:Nat}{v:α}(h:xs[j]? = some v):atI xs (j:Int)=some v:=by
 have a:j < xs.length:=(zA2.mp h).1;have e:ixN xs.length (j:Int)=some j:=by
   unfold ixN;rw[if_pos (by lia),if_pos (by lia)];simp
 unfold atI;rw[e];exact h
theorem qaC9(xs:List α)(v:α):atI (xs++[v]) (-1)=some v:=by
 have a:(xs++[v]).length=xs.length+1:=by simp
 have e:ixN (xs++[v]).length (-1)=some xs.length:=by
   unfold ixN;rw[a,if_neg (by decide),if_pos (by lia)];congr 1;lia
 unfold atI;rw[e];show (xs++[v])[xs.length]? = some v;simp
def qak5(b:Expr):Prop:=∀ o i,subscripted b false o i=operate [o,i] (getItem o i)
def IxR(X:Cx)(r:R2):Prop :=
 ∀(value slice:Expr)(De:List (Addr×Obj))(s:Shared)(σ:St)(H:Hp)(x y:V)(v u:Value)(Q:VK),Inv X De σ H s->RelV x v->RelV y u->r x y H Q ->
   subscripted slice false v u=operate [v,u] (getItem v u)->wpAny (model X.prog X.w) X.A (subscriptTail value slice v u) (EP X De σ Q) X.xe s
def MtR(X:Cx)(id:String)(r:V->List V->Hp->VK->Prop):Prop :=
 ∀(De:List (Addr×Obj))(s:Shared)(σ:St)(H:Hp)(x:V)(xs:List V)(v:Value)(us:List Value)(Q:VK),Inv X De σ H s->RelV x v->Vals xs us->r x xs H Q ->
   wpAny (model X.prog X.w) X.A (call (.builtin id) (v::us)) (EP X De σ Q) X.xe s
section
variable{X:Cx}{a b:Expr}{ta tb:TE}{pos:Pos}
theorem IxR.or{r a:R2}(h:IxR X r)(h':IxR X a):IxR X (λ x y H Q=>r x y H Q∨a x y H Q):=by
 intro value slice De s σ H x y v u Q I b c q d;rcases q with q | q
 . exact h value slice De s σ H x y v u Q I b c q d
 exact h' value slice De s σ H x y v u Q I b c q d
theorem pe_ix{r:R2}(c:IxR X r)(d:PE X a ta)(e:PE X b tb)(f:qak5 b):PE X (.Subscript a b pos) (tOp r ta tb):=by
 intro De s σ H Q I h;exact Subscript_ (binT d e I h λ v u g x y H2 I2 i j q=>c a b De g σ H2 x y v u Q I2 i j q (f _ _))
def rIxL(K:PySem.W.Frag):R2:=λ x y H Q=>∃ p xs i v,x=.ref p/\y=.int i/\SqL K H p xs/\atI xs i=some v/\Q v H
def rIxT(K:PySem.W.Frag):R2:=λ x y H Q=>∃ p xs i v,x=.ref p/\y=.int i/\SqT K H p xs/\atI xs i=some v/\Q v H
def rIxS:R2:=λ x y H Q=>∃ z i c,x=.str z/\y=.int i/\z.length<=sizeLine/\atI z.cps.toList i=some c/\Q (.str ⟨#[c]⟩) H
theorem qaK8:IxR X (rIxL X.K):=by
 intro value slice De s σ H x y v u Q I l m h f;obtain⟨p,F,i,z,rfl,rfl,n,o,q⟩:=h;cases l;obtain⟨t,rfl⟩:=m;obtain⟨b,r,c,G⟩:=I.list n;obtain⟨j,a,A,J,B,C⟩:=qak0 o;obtain⟨w,g,d⟩:=r.get A;have D:=r.length;have L:=qQ8;have fin:EP X De σ Q w s:=⟨z,H,I,d,q⟩
 by_cases k:0<=i
 . have e:i.toNat=j:=by
     rw[seqIndex_of k C] at a;exact Option.some.inj a
   exact item_listR c.isList k (by lia) (by rw[e];simpa using g) fin f
 have e:(i+(b.toArray.size:Int)).toNat=j:=by
   rw[seqIndex_neg (by lia) B] at a;rw[zA5,<- D];exact Option.some.inj a
 exact subscriptTail_builtinR (x:=w) c.isList.typeIs slot_list_getitem.lookup
   (wpAny_getItem_list_neg (Q:=λ r E=>r=w/\EP X De σ Q r E) c.isList (by lia) (by rw[zA5]<;>lia) (by lia) (by rw[e];simpa using g) ⟨rfl,fin⟩) f
theorem qaT2:IxR X (rIxT X.K):=by
 intro value slice De s σ H x y v u Q I c d h e;obtain⟨p,B,i,z,rfl,rfl,f,g,q⟩:=h;cases c;obtain⟨t,rfl⟩:=d;obtain⟨k,r,b,C⟩:=I.tuple f;obtain⟨j,l,m,D,E,F⟩:=qak0 g;obtain⟨w,n,a⟩:=r.get m;have o:=r.length;have G:=qQ8;have fin:EP X De σ Q w s:=⟨z,H,I,a,q⟩
 exact subscriptTail_builtinR (x:=w) b.typeIs slot_tuple_getitem.lookup
   (getItem_tuple (j:=j) (Q:=λ r A=>r=w/\EP X De σ Q r A) b (by lia) (by lia) (by rw[zA5,<- o];exact l) (by simpa using n) ⟨rfl,fin⟩) e
theorem qaT3:IxR X rIxS:=by
 intro value slice De s σ H x y v u Q I b d h e;obtain⟨z,i,c,rfl,rfl,o,f,q⟩:=h;obtain⟨t,rfl⟩:=b;obtain⟨p,rfl⟩:=d;obtain⟨j,a,g,r,k,l⟩:=qak0 f;have m:z.cps.toList.length=z.length:=by simp[Str.length]
 rw[m] at a k l;have w:=qQ8;exact tail_any (typeIs_str s z t) slot_str_getitem.lookup (getItem_str (c:=c) (by
   have n:decide (i < -(2 ^ 63:Int))=false:=zBa (by lia);have e2:decide (i ≥ 2 ^ 63)=false:=zBa (by lia);rw[n,e2,Bool.or_false]) (by rw[a];simpa using g) ⟨.str ⟨#[c]⟩,H,I.tok _,⟨_,rfl⟩,q⟩) e
def rIx(K:PySem.W.Frag):R2:=λ x y H Q=>rIxL K x y H Q∨rIxT K x y H Q∨rIxS x y H Q
theorem qc1:IxR X (rIx X.K):=qaK8.or (qaT2.or qaT3)
theorem qaf6(its:List Value)(n j:Nat)(u:Value):Obj.mapSeq (·.setIfInBounds j u) { cls:=.type "list",data:=.seq its.toArray n }={ cls:=.type "list",data:=.seq (its.set j u).toArray n }:=by
 simp[Obj.mapSeq]
theorem Inv.lst{De:List (Addr×Obj)}{σ:St}{H:Hp}{s:Shared}{p:Addr}{xs:List V}(I:Inv X De σ H s)(h:H p=some (.lst xs)) :
   ∃(its:List Value)(n:Nat),Vals xs its/\s.heap.get? p=some { cls:=.type "list",data:=.seq its.toArray n }/\xs.length<=sizeLine:=by
 obtain⟨z,its,n,r,e⟩:=I.hok p _ h;exact⟨its,n,r,e,z⟩
theorem Inv.lstUpd{De:List (Addr×Obj)}{σ:St}{H:Hp}{s:Shared}{p:Addr}{xs ys:List V}{its':List Value}{a:Nat}{f:Obj->Obj}(I:Inv X De σ H s)(h:H p=some (.lst xs))(d:s.heap.get? p=some { cls:=.type "list",data:=.seq its.toArray n })(c:f { cls:=.type "list",data:=.seq its.toArray n }={ cls:=.type "list",data:=.seq its'.toArray a })(r:Vals ys its')(g:ys.length<=sizeLine)(t:Nat) :
   Inv X De σ (upd H p (.lst ys)) { s with heap:=s.heap.update p f,toks:=t }:=by
 have e:(s.heap.update p f).get? p=some { cls:=.type "list",data:=.seq its'.toArray a }:=by
   rw[Heap.get?_update_self f d (by rw[c]<;>rfl),c]
 refine I.write (x:=p) (e:=p) (by rw[h];trivial) (.inl rfl) (λ b u i q=>(zBi _ _ (Ne.symm i)).trans q) ⟨_,e⟩ ?_;exact⟨g,its',a,r,e⟩
def rSetL:V->V->V->Hp->(Hp->Prop)->Prop:=λ o i v H Q=>∃ p xs k j,o=.ref p/\i=.int k/\H p=some (.lst xs)/\ixN xs.length k=some j/\Q (upd H p (.lst (xs.set j v)))
theorem qac9:PSet X rSetL:=by
 intro De s σ H o i v C D u Q I w x y h;obtain⟨p,z,k,j,rfl,rfl,f,A,q⟩:=h;cases w;obtain⟨t,rfl⟩:=x;obtain⟨a,n,r,c,B⟩:=I.lst f;obtain⟨b,E,g,l⟩:=qU2 A;have d:=r.length;have F:=qQ8;have I':Inv X De σ (upd H p (.lst (z.set j v))) { s with heap:=s.heap.update p (Obj.mapSeq (·.setIfInBounds j u)) } :=
   I.lstUpd f c (qaf6 a n j u) (r.set y j) (by rw[List.length_set];exact B) s.toks
 by_cases m:0<=k
 . have e:k.toNat=j:=by
     rw[seqIndex_of m l] at b;exact Option.some.inj b
   exact PySem.W.ki_setAt c m (by lia) (by rw[zA5,<- d];exact l) (by rw[e];exact⟨_,I',q⟩)
 have e:(k+(a.toArray.size:Int)).toNat=j:=by
   rw[seqIndex_neg (by lia) g] at b;rw[zA5,<- d];exact Option.some.inj b
 exact PySem.W.ki_setBack c (by lia) (by rw[zA5,<- d];exact g) (by lia) (by rw[e];exact⟨_,I',q⟩)
theorem qO7(lo hi:Option Int)(n:Nat):(sliceBounds lo hi none n).1=((HT.sIx n 0 lo:Nat):Int)/\(sliceBounds lo hi none n).2.1=((HT.sIx n n hi:Nat):Int)/\(sliceBounds lo hi none n).2.2=1:=by
 refine⟨?_,?_,rfl⟩
 . cases lo with
   | none=>simp[sliceBounds,HT.sIx]
   | some i =>
     simp only[sliceBounds,HT.sIx,Option.getD_none,show (1:Int) > 0 by decide,if_true];by_cases h:i < 0
     . simp only[h,if_true]<;>lia
     simp only[h,if_false]<;>lia
 cases hi with
 | none=>simp[sliceBounds,HT.sIx]
 | some i =>
   simp only[sliceBounds,HT.sIx,Option.getD_none,show (1:Int) > 0 by decide,if_true];by_cases h:i < 0
   . simp only[h,if_true]<;>lia
   simp only[h,if_false]<;>lia
theorem qJ1(its:List Value)(lo hi:Option Int):slicePick its.toArray lo hi none=((its.drop (HT.sIx its.length 0 lo)).take (HT.sIx its.length its.length hi - HT.sIx its.length 0 lo)).toArray:=by
 obtain⟨a,b,c⟩:=qO7 lo hi its.toArray.size;unfold slicePick;rw[a,b,c];simp only[sliceRange_one,pick_run,zA5]<;>rfl
def rSlL(K:PySem.W.Frag):V->Option Int->Option Int->Hp->VK->Prop:=λ x lo hi H Q=>∃ a xs,x=.ref a/\SqL K H a xs/\∀ p,H p=none->Q (.ref p) (upd H p (.lst (Fs xs lo hi)))
theorem qac4:SlR X (rSlL X.K):=by
 intro De s σ H x v t u e f w Q I i j k l h;obtain⟨a,c,rfl,m,q⟩:=h;cases i;obtain⟨n,r,g,p⟩:=I.list m;have d:=r.length;refine⟨"list",_,slot_list_getitem.lookup,g.isList.typeIs,?_⟩;refine wpAny_getItem_list_slice g.isList j k l .none (by simp) ?_ (by rw[zA5]<;>lia);rw[qJ1,<- d];refine⟨.ref s.heap.objs.size,_,I.laid (t':=s.toks) (o:=.lst (Fs c e f)) (λ b y q=>zA4 _ q) (zA3 _) ?_,rfl,q _ (I.hok.fresh (zA3 _))⟩;exact⟨zAr (qaa5 c e f) p,_,0,(r.drop (HT.sIx c.length 0 e)).take (HT.sIx c.length c.length f - HT.sIx c.length 0 e),zAx _ rfl⟩
noncomputable def flatV:V->Bool
 | .non=>true
 | .bl _=>true
 | .int _=>true
 | .str _=>true
 | _=>false
noncomputable def eqV:V->V->Bool
 | .non,.non=>true
 | .bl a,.bl b=>a == b
 | .bl a,.int b=>(if a then 1 else 0) == b
 | .int a,.bl b=>a == (if b then 1 else 0)
 | .int a,.int b=>a == b
 | .str a,.str b=>a == b
 | _,_=>false
theorem qaM4{A:Around}{s:Shared}{y:V}{u v:Value}(e:RelV y u)(c:RelV x v)(g:flatV y=true)(f:flatV x=true):SeqAt.EqAt A s u v (eqV y x):=by
 cases y with
 | non =>
   cases e;cases x with
   | non=>cases c;exact SeqAt.EqAt.same _
   | bl b=>cases c;exact SeqAt.EqAt.none_bool b
   | int b=>obtain⟨t,rfl⟩:=c;exact SeqAt.EqAt.none_int b t
   | str b=>obtain⟨t,rfl⟩:=c;exact SeqAt.EqAt.none_str b t
   | _=>exact absurd (show false=true from f) zAk
 | bl a =>
   cases e;cases x with
   | non=>cases c;exact SeqAt.EqAt.bool_none a
   | bl b=>cases c;exact SeqAt.EqAt.bool_bool a b
   | int b=>obtain⟨t,rfl⟩:=c;exact SeqAt.EqAt.bool_int a b t
   | str b=>obtain⟨t,rfl⟩:=c;exact SeqAt.EqAt.bool_str a b t
   | _=>exact absurd (show false=true from f) zAk
 | int a =>
   obtain⟨d,rfl⟩:=e;cases x with
   | non=>cases c;exact SeqAt.EqAt.int_none a d
   | bl b=>cases c;exact SeqAt.EqAt.int_bool a d b
   | int b=>obtain⟨t,rfl⟩:=c;exact SeqAt.EqAt.int_int a d b t
   | str b=>obtain⟨t,rfl⟩:=c;exact SeqAt.EqAt.int_str a d b t
   | _=>exact absurd (show false=true from f) zAk
 | str a =>
   obtain⟨d,rfl⟩:=e;cases x with
   | non=>cases c;exact SeqAt.EqAt.str_none a d
   | bl b=>cases c;exact SeqAt.EqAt.str_bool a d b
   | int b=>obtain⟨t,rfl⟩:=c;exact SeqAt.EqAt.str_int a d b t
   | str b=>obtain⟨t,rfl⟩:=c;exact SeqAt.EqAt.str_str a d b t
   | _=>exact absurd (show false=true from f) zAk
 | _=>exact absurd (show false=true from g) zAk
def eqU(x:V)(u:Value):Bool:=match u with
 | .none=>eqV .non x
 | .bool b=>eqV (.bl b) x
 | .int i _=>eqV (.int i) x
 | .str z _=>eqV (.str z) x
 | _=>false
theorem qap4{y:V}{u:Value}(r:RelV y u)(f:flatV y=true):eqU x u=eqV y x:=by
 cases y with
 | non=>cases r;rfl
 | bl b=>cases r;rfl
 | int i=>obtain⟨t,rfl⟩:=r;rfl
 | str z=>obtain⟨t,rfl⟩:=r;rfl
 | _=>exact absurd (show false=true from f) zAk
theorem qM6{x:V}:∀{xs:List V}{us:List Value},Vals xs us->xs.all flatV=true->us.any (eqU x)=xs.any λ y=>eqV y x
 | _,_,.nil,_=>rfl
 | y::xs,u::us,.cons r t,f=>by
   rw[List.all_cons,zBj] at f;rw[zCc,zCc,qap4 r f.1,qM6 t f.2]
theorem qq2{A:Around}{s:Shared}{x:V}{v:Value}(b:RelV x v)(c:flatV x=true):∀{xs:List V}{us:List Value},Vals xs us->xs.all flatV=true->∀ u∈us,SeqAt.EqAt A s u v (eqU x u)
 | _,_,.nil,_=>λ u a=>by cases a
 | y::xs,u::us,.cons r t,f=>λ d a=>by
   rw[List.all_cons,zBj] at f;rcases zAo.mp a with rfl | a
   . rw[qap4 r f.1];exact qaM4 r b f.1 c
   exact qq2 b c t f.2 d a
def inV(x:V)(xs:List V):Bool:=xs.any λ y=>eqV y x
def rIn(K:PySem.W.Frag)(neg:Bool):R2:=λ x y H Q=>∃ p xs,y=.ref p/\(SqL K H p xs∨SqT K H p xs)/\flatV x=true/\xs.all flatV=true/\Q (.bl (if neg then !inV x xs else inV x xs)) H
theorem qG7:OpR X (compareOp .In) (rIn X.K false):=by
 intro De s σ H x y v u Q I f i h;obtain⟨p,k,rfl,b,g,c,q⟩:=h;cases i;rcases b with b | b
 . obtain⟨a,r,d,j⟩:=I.list b
   refine SeqAt.in_listAt (eqU x) d.isList (λ w e=>qq2 f g r c w (by simpa using e)) ⟨.bl _,H,I,rfl,?_⟩;rw[show a.toArray.any (eqU x)=a.any (eqU x) by simp,qM6 r c];exact q
 obtain⟨a,r,d,j⟩:=I.tuple b;refine SeqAt.in_tupleAt (eqU x) d (λ w e=>qq2 f g r c w (by simpa using e)) ⟨.bl _,H,I,rfl,?_⟩;rw[show a.toArray.any (eqU x)=a.any (eqU x) by simp,qM6 r c];exact q
theorem qp8:OpR X (compareOp .NotIn) (rIn X.K true):=by
 intro De s σ H x y v u Q I f i h;obtain⟨p,k,rfl,b,g,c,q⟩:=h;cases i;rcases b with b | b
 . obtain⟨a,r,d,j⟩:=I.list b
   refine SeqAt.notIn_listAt (eqU x) d.isList (λ w e=>qq2 f g r c w (by simpa using e)) ⟨.bl _,H,I,rfl,?_⟩;rw[show a.toArray.any (eqU x)=a.any (eqU x) by simp,qM6 r c];exact q
 obtain⟨a,r,d,j⟩:=I.tuple b;refine SeqAt.notIn_tupleAt (eqU x) d (λ w e=>qq2 f g r c w (by simpa using e)) ⟨.bl _,H,I,rfl,?_⟩;rw[show a.toArray.any (eqU x)=a.any (eqU x) by simp,qM6 r c];exact q
theorem qS3:CallR X (.builtin "len") (λ xs H Q=>∃ p ys,xs=[.ref p]/\(SqL X.K H p ys∨SqT X.K H p ys)/\Q (.int ys.length) H):=by
 intro De s σ H xs i Q I r h;obtain⟨p,ys,rfl,b,q⟩:=h;obtain⟨u,rfl,f⟩:=Bm r;cases f;have j:=qQ8;rcases b with b | b
 . obtain⟨c,d,e,g⟩:=I.list b
   have a:=d.length;exact Calls.call_len_list e.isList (by simp only[zA5]<;>lia) ⟨.int ys.length,H,I.tok _,⟨s.toks+1,by rw[zA5,a]⟩,q⟩
 obtain⟨c,d,e,g⟩:=I.tuple b;have a:=d.length;exact len_tuple e (by simp only[zA5]<;>lia) ⟨.int ys.length,H,I.tok _,⟨s.toks+1,by rw[zA5,a]⟩,q⟩
theorem qS2:CallR X (.builtin "len") (λ xs H Q=>∃ z,xs=[.str z]/\z.length<=sizeLine/\Q (.int z.length) H):=by
 intro De s σ H xs a Q I r h;obtain⟨z,rfl,b,q⟩:=h;obtain⟨u,rfl,t,rfl⟩:=Bm r;have c:=qQ8;exact len_str (by lia) ⟨.int z.length,H,I.tok _,⟨_,rfl⟩,q⟩
theorem CallR.or{f:Value}{r a:List V->Hp->VK->Prop}(h:CallR X f r)(h':CallR X f a):CallR X f (λ xs H Q=>r xs H Q∨a xs H Q):=by
 intro De s σ H xs b Q I c q;rcases q with q | q
 . exact h De s σ H xs b Q I c q
 exact h' De s σ H xs b Q I c q
theorem qf4:CallR X (.type "list") (λ xs H Q=>∃ p ys,xs=[.ref p]/\(SqL X.K H p ys∨SqT X.K H p ys)/\∀ l,H l=none->Q (.ref l) (upd H l (.lst ys))):=by
 intro De s σ H xs A Q I r h;obtain⟨p,ys,rfl,g,q⟩:=h;obtain⟨u,rfl,z⟩:=Bm r;cases z;have fin:∀(a:List Value),Vals ys a->ys.length<=sizeLine->∀(c:Heap)(d:Nat),(∀ b y,s.heap.get? b=some y->c.get? b=some y) ->
     c.get? s.heap.objs.size=some { cls:=.type "list",dict:=none,data:=.seq a.toArray d,slots:=#[] }->EP X De σ Q (.ref s.heap.objs.size) { s with heap:=c }:=λ a f i c d j e =>
   ⟨.ref s.heap.objs.size,_,I.laid (t':=s.toks) j (zA3 _) (show ObjOk X.prog X.w _ c _ (.lst ys) from⟨i,a,d,f,e⟩),rfl,q _ (I.hok.fresh (zA3 _))⟩
 rcases g with g | g
 . obtain⟨a,f,m,i⟩:=I.list g
   have k:=f.length;obtain⟨o,t,v,n,x⟩:=m.isList;exact call_list_seq p (.inl rfl) t v x (λ c d j e=>fin a f i c d j e) (by simp only[zA5]<;>lia)
 obtain⟨a,f,m,i⟩:=I.tuple g;have k:=f.length;obtain⟨o,t,v,n,x⟩:=m;exact call_list_seq p (.inr rfl) t v x (λ c d j e=>fin a f i c d j e) (by simp only[zA5]<;>lia)
def tyV(K:PySem.W.Frag)(T:String)(x:V)(H:Hp):Prop:=match x with
 | .str _=>T = "str"
 | .int _=>T = "int"
 | .ref p=>(T = "list" /\ ∃ xs,SqL K H p xs)∨(T = "tuple" /\ ∃ o,K.lookup p=some o/\o.cls=.type "tuple" /\ o.dict=none) ∨
     (T = "dict" /\ ((∃ kvs,H p=some (.dK kvs))∨∃ kvs,H p=some (.dT kvs)))∨(T = "set" /\ ∃ S n,H p=some (.set S n))
 | _=>False
theorem qaO6{De:List (Addr×Obj)}{σ:St}{H:Hp}{s:Shared}{T:String}{v:Value}(I:Inv X De σ H s)(r:RelV x v)(ty:tyV X.K T x H) :
   s.TypeIs v T/\∀ a,v=.ref a->∃ ob,s.heap.get? a=some ob/\ob.dict=none:=by
 cases x with
 | str z =>
   obtain⟨t,rfl⟩:=r;cases (show T = "str" from ty);exact⟨typeIs_str s z t,λ _ e=>nomatch e⟩
 | int i =>
   obtain⟨t,rfl⟩:=r;cases (show T = "int" from ty);exact⟨typeIs_int s i t,λ _ e=>nomatch e⟩
 | ref p =>
   cases r;rcases ty with⟨rfl,xs,hq⟩ | ⟨rfl,o,hk,hc,d⟩ | ⟨rfl,hk⟩ | ⟨rfl,S,n,hk⟩
   . obtain⟨g,_,f,_⟩:=I.list hq
     refine⟨f.isList.typeIs,λ a e=>?_⟩;cases e;obtain⟨o,n,e,c,d,_⟩:=f;exact⟨o,e,d⟩
   . refine⟨⟨o,I.kIn p o hk,hc⟩,λ a e=>?_⟩
     cases e;exact⟨o,I.kIn _ o hk,d⟩
   . have z:∃ o,s.heap.get? p=some o/\o.ExactDict:=by
       rcases hk with⟨kvs,hk⟩ | ⟨kvs,hk⟩
       . obtain⟨_,_,_,_,o,_,_,e,b,_⟩:=I.hok p _ hk
         exact⟨o,e,b⟩
       obtain⟨_,_,_,_,o,_,_,e,b,_⟩:=I.hok p _ hk;exact⟨o,e,b⟩
     obtain⟨o,e,b⟩:=z;refine⟨⟨o,e,b.1⟩,λ a e2=>?_⟩;cases e2;exact⟨o,e,b.2.1⟩
   obtain⟨o,_,_,_,e,b,_⟩:=I.hok p _ hk;refine⟨⟨o,e,b.1⟩,λ a e2=>?_⟩;cases e2;exact⟨o,e,b.2.1⟩
 | _=>exact False.elim ty
def tBM(K:PySem.W.Frag)(T:String)(r:V->List V->Hp->VK->Prop)(to:TE)(t:TA):TE:=λ σ H Q=>to σ H λ x H1=>tyV K T x H1/\t σ H1 λ xs H2=>r x xs H2 Q
variable{o e:Expr}{es:List Expr}{to:TE}{t:TA}{name:Str}{apos cpos:Pos}{T id:String}{r:V->List V->Hp->VK->Prop}
theorem Hv(g:PlainAttrs T)(slot:Slot T name id)(b:typeOf (.builtin id)=pure (.type "method_descriptor"))(hm:MtR X id r)(i:PE X o to)(j:PA X (e::es) t)(hbase:attributeBase o name X.env (eval o X.env)=eval o X.env:=by rfl)(a:((backTo cpos (starEach (e::es) X.env)).all (λ x=>!x.1)&&(backToKw cpos (keywordEach [] X.env)).all (λ x=>x.1.isSome)
     && decide ((e::es).length+([]:List Keyword).length+(if ([]:List Keyword).isEmpty then 0 else 1) < 30))=true:=by rfl)(hline:(apos.endLine == cpos.line)=true:=by rfl)(k:starEach (e::es) X.env=(false,eval e X.env)::starEach es X.env:=by rfl)(hplain:(backTo cpos (starEach es X.env)).any (·.1)=false:=by rfl) :
   PE X (.Call (.Attribute o name apos) (e::es) [] cpos) (tBM X.K T r to t):=by
 intro De s σ H Q I h;refine wpAny_Call_method_late hbase a hline rfl (thn (i De s σ H _ I h) λ v l c=>?_);obtain⟨x,H1,I1,d,m,n⟩:=c;obtain⟨p,q⟩:=qaO6 I1 d m;refine⟨T,id,g,slot,b,p,q,?_⟩;have f:=j cpos De l σ H1 _ I1 n;rw[k] at f ⊢;refine Calls.callWith_builtin (by show (false||(backTo cpos (starEach es X.env)).any (·.1))=false;rw[hplain]<;>rfl) (Calls.evalArgs_plain ?_);exact thn f λ u w ⟨y,H2,I2,z,q2⟩=>hm De w σ H2 x y v u Q I2 d z q2
/- xs.append(e),list.index on a module's tuple .. are MtR facts of 06m -/
end
def MtM(X:Cx)(id:String)(r:V->List V->Hp->VK->Prop):Prop :=
 ∀(De:List (Addr×Obj))(s:Shared)(σ:St)(H:Hp)(x:V)(xs:List V)(v:Value)(us:List Value)(Q:VK),Inv X De σ H s->RelV x v->Vals xs us->r x xs H Q ->
   wpAny (model X.prog X.w) X.A (call (.builtin id) (v::us)) (EP X De σ Q) X.xe s
theorem Vals.one{us:List Value}(h:Vals [x] us):∃ u,us=[u]/\RelV x u:=by
 cases h with
 | cons r t=>cases t;exact⟨_,rfl,r⟩
theorem Vals.two{y:V}{us:List Value}(h:Vals [x,y] us):∃ u v,us=[u,v]/\RelV x u/\RelV y v:=by
 cases h with
 | cons r t =>
   cases t with
   | cons q t=>cases t;exact⟨_,_,rfl,r,q⟩
theorem Vals.zero:∀{us:List Value},Vals [] us->us=[]
 | _,.nil=>rfl
theorem Vals.eraseIdx:∀{xs:List V}{us:List Value}(i:Nat),Vals xs us->Vals (xs.eraseIdx i) (us.eraseIdx i)
 | _,_,_,.nil=>.nil
 | _,_,0,.cons _ t=>t
 | _,_,i+1,.cons r t=>.cons r (Vals.eraseIdx i t)
theorem Vals.rep{xs:List V}{us:List Value}(h:Vals xs us):∀ k:Nat,Vals (List.replicate k xs).flatten (List.replicate k us).flatten
 | 0=>.nil
 | k+1=>by
   rw[zBn,zBn,zBy,zBy];exact Vals.append h (Vals.rep h k)
theorem qU0{α:Type}:∀(l:List α)(i:Nat),(l.eraseIdx i).length<=l.length
 | [],_=>zA3 _
 | _::_,0=>Nat.le_succ _
 | _::r,i+1=>Nat.succ_le_succ (qU0 r i)
theorem qV0(its:List Value):∀(k:Nat)(acc:List Value),
   List.foldl (λ a b=>a++b) acc.toArray (List.replicate k its.toArray)=(acc++(List.replicate k its).flatten).toArray
 | 0,acc=>by simp
 | k+1,acc=>by
   have e:acc.toArray++its.toArray=(acc++its).toArray:=by simp
   have e2:(acc++its)++(List.replicate k its).flatten=acc++(List.replicate (k+1) its).flatten:=by
     rw[zBn,zBy,zAm]
   rw[<- e2,<- qV0 its k (acc++its),<- e,zBn,List.foldl_cons]
section
variable{X:Cx}{De:List (Addr×Obj)}{σ:St}{H:Hp}{s:Shared}{l:Addr}{xs ys:List V}
theorem Inv.lset{its':List Value}{f:Array Value->Array Value}{t':Nat}(I:Inv X De σ H s)(a:H l=some (.lst xs))(e:s.heap.get? l=some { cls:=.type "list",data:=.seq its.toArray n })(b:f its.toArray=its'.toArray)(c:Vals ys its')(d:ys.length<=sizeLine) :
   Inv X De σ (upd H l (.lst ys)) { s with heap:=s.heap.update l (Obj.mapSeq f),toks:=t' }:=by
 have q:=PySem.IsL.update e f;rw[b] at q;refine I.write (x:=l) (e:=l) (by rw[a];exact trivial) (.inl rfl) (λ i u g h=>(zBi s.heap (Obj.mapSeq f) (Ne.symm g)).trans h) ⟨_,q⟩ ?_;exact⟨d,its',_,c,q⟩
theorem Inv.lnew{t':Nat}(I:Inv X De σ H s)(a:Vals ys its)(b:ys.length<=sizeLine) :
   Inv X De σ (upd H s.heap.objs.size (.lst ys)) { s with heap:=s.heap.push { cls:=.type "list",data:=.seq its.toArray },toks:=t' } :=
 I.laid (λ _ _ q=>zA4 _ q) (zA3 _) ⟨b,its,0,a,zAx _ rfl⟩
theorem Inv.fresh(I:Inv X De σ H s):H s.heap.objs.size=none:=I.hok.fresh (zA3 _)
theorem Inv.lstM(I:Inv X De σ H s)(a:H l=some (.lst xs)):xs.length<=sizeLine/\∃(its:List Value)(n:Nat),Vals xs its/\xs.length=its.length/\s.heap.get? l=some { cls:=.type "list",data:=.seq its.toArray n }:=by
 obtain⟨z,its,n,r,e⟩:=I.hok l _ a;exact⟨z,its,n,r,r.length,e⟩
theorem qaz2(h:n<=sizeLine):Builtin.List.listTooLong n=false:=by
 unfold Builtin.List.listTooLong;exact zBa (by lia)
end
section
variable{X:Cx}
def qas2:V->List V->Hp->VK->Prop:=λ x vs H Q=>∃ l xs y,x=.ref l/\vs=[y]/\H l=some (.lst xs)/\xs.length < sizeLine/\Q .non (upd H l (.lst (xs++[y])))
theorem qf6:MtM X "list.append" qas2:=by
 intro De s σ H x g v i Q I c d h;obtain⟨l,j,y,rfl,rfl,b,k,q⟩:=h;cases c;obtain⟨u,rfl,f⟩:=d.one;obtain⟨z,a,n,r,m,e⟩:=I.lstM b;refine call_meets F.slot_list_append ⟨_,e,rfl⟩ F.entry_list_append (F.args_list_append_2 _ _) (PySem.list_append l a.toArray n u (by rw[zA5];lia)) ⟨e,?_⟩;refine⟨.non,_,I.lset (its':=a++[u]) b e (by simp) (r.append (.cons f .nil)) ?_,rfl,q⟩;rw[zAf,List.length_singleton];lia
def qaF2:V->List V->Hp->VK->Prop:=λ x vs H Q=>∃ l xs i k y,x=.ref l/\vs=[.int i]/\H l=some (.lst xs)/\-(2 ^ 63)<=i/\i < 2 ^ 63/\seqIndex? i xs.length=some k/\xs[k]? = some y/\Q y (upd H l (.lst (xs.eraseIdx k)))
theorem qaz7:MtM X "list.pop" qaF2:=by
 intro De s σ H x D v E Q I d f h;obtain⟨l,g,i,k,y,rfl,rfl,c,j,m,o,p,q⟩:=h;cases d;obtain⟨u,rfl,A⟩:=f.one;obtain⟨t,rfl⟩:=A;obtain⟨z,a,n,r,B,e⟩:=I.lstM c;obtain⟨w,C,b⟩:=r.get p;refine call_meets F.slot_list_pop ⟨_,e,rfl⟩ F.entry_list_pop (F.args_list_pop_2 _ _)
   (MeetsSeq.list_pop_at l a.toArray n i t k w (fitsIndex_both j m) (by rw[zA5,<- B];exact o) (by rw[<- Array.getElem?_toList];exact C) (by rw[zA5];lia)) ⟨e,?_⟩
 refine⟨y,_,I.lset (its':=a.eraseIdx k) c e ?_ (r.eraseIdx k) ?_,b,q⟩
 . show a.toArray.eraseIdxIfInBounds k=(a.eraseIdx k).toArray
   rw[List.eraseIdxIfInBounds_toArray]
 have:=qU0 g k
 lia
def rCat:R2:=λ x y H Q=>∃ l b xs a,x=.ref l/\y=.ref b/\H l=some (.lst xs)/\H b=some (.lst a)/\xs.length+a.length<=sizeLine/\∀ p,H p=none->Q (.ref p) (upd H p (.lst (xs++a)))
theorem qaR6:OpR X (binaryOp .Add) rCat:=by
 intro De s σ H x y v u Q I c d h;obtain⟨l,b,m,o,rfl,rfl,f,g,p,q⟩:=h;cases c;cases d;obtain⟨z,a,n,r,t,e⟩:=I.lstM f;obtain⟨w,its2,A,i,j,e2⟩:=I.lstM g;refine PySem.P.add_list e e2 ?_ (by rw[zA5,zA5];lia);have k:a.toArray++its2.toArray=(a++its2).toArray:=by simp
 rw[k];exact⟨.ref _,_,I.lnew (t':=s.toks) (r.append i) (by rw[zAf];lia),rfl,q _ I.fresh⟩
def rRep:R2:=λ x y H Q=>∃ l k xs,x=.ref l/\y=.int k/\H l=some (.lst xs)/\-(2 ^ 63)<=k/\k < 2 ^ 63/\xs.length * k.toNat<=sizeLine /\
 ∀ p,H p=none->Q (.ref p) (upd H p (.lst (List.replicate k.toNat xs).flatten))
theorem qaK1(xs:List α)(k:Nat):(List.replicate k xs).flatten.length=k * xs.length:=by
 induction k with
 | zero=>simp
 | succ k a=>rw[zBn,zBy,zAf,a,Nat.succ_mul,Nat.add_comm]
theorem qaQ9:OpR X (binaryOp .Mult) rRep:=by
 intro De s σ H x y v u Q I p w h;obtain⟨l,k,J,rfl,rfl,A,B,C,o,q⟩:=h;cases p;obtain⟨t,rfl⟩:=w;obtain⟨z,b,n,r,D,e⟩:=I.lstM A;have c:b.toArray.size * k.toNat<=sizeLine:=by rw[zA5,<- D];exact o
 have d:¬ b.toArray.size * k.toNat > (2 ^ 63 - 1) / 8:=by
   have:(sizeLine:Nat)<=(2 ^ 63 - 1) / 8:=by decide
   lia
 have f:¬ (!Builtin.List.listFitsIndex k)=true:=by
   rw[fitsIndex_both B C];exact zAk
 have hlong:¬ Builtin.List.listTooLong (b.toArray.size * k.toNat)=true:=by
   rw[qaz2 c];exact zAk
 have g:List.foldl (λ i j=>i++j) #[] (List.replicate (if b.toArray.isEmpty=true then 0 else k.toNat) b.toArray)=(List.replicate k.toNat b).flatten.toArray:=by
   have E:∀ m:Nat,List.foldl (λ i j=>i++j) #[] (List.replicate m b.toArray)=(List.replicate m b).flatten.toArray:=λ m=>by
     have:=qV0 b m []
     rw[zB8] at this;exact this
   rw[E];cases b with
   | nil=>simp
   | cons a K=>rw[if_neg (by simp)]
 refine wpAny_binaryOp_repeat_ref (T := "list") (U := "int") (by decide) ⟨_,e,rfl⟩ (λ G=>typeIs_int G k t) noFill_list_mul F.fills_int_mul F.slot_int_rmul repeat_list F.slot_int_index.lookup
   (call_meets F.slot_int_rmul (typeIs_int s k t) F.entry_int_rmul (F.args_int_rmul_2 _ _) (int___rmul___int_list k t l b.toArray n)
     ⟨e,rfl,⟨_,e,rfl⟩,call_meets F.slot_list_mul ⟨_,e,rfl⟩ F.entry_list_mul (F.args_list_mul_2 _ _) (AutoListH.list___mul___list_int_3 l b.toArray n k t f d hlong) ⟨e,?_⟩⟩)
 rw[g];exact⟨.ref _,_,I.lnew (t':=s.toks) (r.rep k.toNat) (by rw[qaK1,Nat.mul_comm];exact o),rfl,q _ I.fresh⟩
end
section
variable{κ:Type}[DecidableEq κ]
noncomputable def Ek(kvs:List (κ×V))(k:κ):Option V:=(kvs.find? λ a=>decide (a.1=k)).map (·.2)
noncomputable def putK(kvs:List (κ×V))(k:κ)(v:V):List (κ×V) :=
 if (kvs.any λ a=>decide (a.1=k))=true then kvs.map (λ a=>if a.1=k then (a.1,v) else a) else kvs++[(k,v)]
theorem qN3{p:κ×V}{r:List (κ×V)}{k:κ}(e:p.1=k):Ek (p::r) k=some p.2:=by simp[Ek,zBt,e]
theorem qN4{p:κ×V}{r:List (κ×V)}{k:κ}(e:¬ p.1=k):Ek (p::r) k=Ek r k:=by simp[Ek,zBt,e]
theorem qaa0(kvs:List (κ×V))(k:κ)(v:V):(putK kvs k v).length<=kvs.length+1:=by
 unfold putK;split
 . rw[zA7];lia
 rw[zAf,zAp,List.length_nil];lia
theorem RelO.getD{o:Option V}{u:Option Value}{d:V}{d':Value}(r:RelO o u)(a:RelV d d'):RelV (o.getD d) (u.getD d'):=by
 cases o with
 | none=>cases u with
   | none=>exact a
   | some _=>exact(show False from r).elim
 | some _=>cases u with
   | none=>exact(show False from r).elim
   | some _=>exact r
theorem KV.val{kvs:List (κ×V)}{vs:List (κ×Value)}(r:KV kvs vs)(k:κ):RelO (Ek kvs k) (valueAt vs k):=by
 unfold KV at r
 induction r with
 | nil=>exact True.intro
 | @cons p q ps qs h t ih =>
   obtain⟨c,d⟩:=h;by_cases e:p.1=k
   . have a:q.1=k:=c.symm.trans e
     have b:valueAt (q::qs) k=some q.2:=by simp[valueAt,zBt,a]
     rw[qN3 e,b];exact d
   have a:¬ q.1=k:=λ z=>e (c.trans z)
   have b:valueAt (q::qs) k=valueAt qs k:=by simp[valueAt,zBt,a]
   rw[qN4 e,b];exact ih
theorem KV.any{kvs:List (κ×V)}{vs:List (κ×Value)}(r:KV kvs vs)(k:κ):(kvs.any λ a=>decide (a.1=k))=vs.any λ a=>decide (a.1=k):=by
 unfold KV at r
 induction r with
 | nil=>rfl
 | cons h t b=>rw[zCc,zCc,b,h.1]
theorem KV.repl{kvs:List (κ×V)}{vs:List (κ×Value)}(r:KV kvs vs)(k:κ){y:V}{u:Value}(c:RelV y u) :
   KV (kvs.map λ a=>if a.1=k then (a.1,y) else a) (vs.map λ a=>if a.1=k then (a.1,u) else a):=by
 unfold KV at r ⊢
 induction r with
 | nil=>exact .nil
 | @cons p q ps qs h t ih =>
   rw[zB0,zB0];refine .cons ?_ ih;obtain⟨b,d⟩:=h;by_cases e:p.1=k
   . rw[if_pos e,if_pos (b.symm.trans e)];exact⟨b,c⟩
   rw[if_neg e,if_neg (λ z=>e (b.trans z))];exact⟨b,d⟩
theorem KV.put{kvs:List (κ×V)}{vs:List (κ×Value)}(r:KV kvs vs)(k:κ){y:V}{u:Value}(a:RelV y u):KV (putK kvs k y) (stored vs k u):=by
 unfold putK stored;rw[r.any k];by_cases e:(vs.any λ b=>decide (b.1=k))=true
 . rw[if_pos e,if_pos e];exact r.repl k a
 rw[if_neg e,if_neg e];exact Paired.snoc r ⟨rfl,a⟩
theorem KV.length{kvs:List (κ×V)}{vs:List (κ×Value)}(r:KV kvs vs):kvs.length=vs.length:=Paired.length r
end
theorem Hw{P:Program}{w:World}{k:Key}{u:Value}(r:RelV (kV k) u):(qf0 P w).is k u=true:=by
 cases k with
 | inl i=>obtain⟨t,e⟩:=(show ∃ t,u=Value.int i t from r);subst e;exact qZ6 P w i t
 | inr x=>obtain⟨t,e⟩:=(show ∃ t,u=Value.str x t from r);subst e;exact qZ5 P w x t
theorem qU3{P:Program}{w:World}:∀{ks:List Key}{us:List Value},Vals (ks.map kV) us->ItemsAre (qf0 P w) ks us
 | [],_,r=>by rw[List.map_nil] at r;cases r;exact .nil
 | k::ks,_,r=>by
   rw[zB0] at r;cases r with
   | cons h t=>exact .cons (Hw h) (qU3 t)
abbrev KT(H:Hp):List (List Key×V)->List (List Key×Addr×Value)->Prop:=Paired λ p q=>p.1=q.1/\H q.2.1=some (.tup (p.1.map kV))/\RelV p.2 q.2.2
theorem KT.val{H:Hp}{kvs:List (List Key×V)}{xs:List (List Key×Addr×Value)}(r:KT H kvs xs)(k:List Key):RelO (Ek kvs k) ((atKey xs k).map (·.2)):=by
 induction r with
 | nil=>exact True.intro
 | @cons p q ps qs h t ih =>
   obtain⟨c,_,d⟩:=h;by_cases e:p.1=k
   . have a:q.1=k:=c.symm.trans e
     have b:atKey (q::qs) k=some q.2:=by simp[atKey,zBt,a]
     rw[qN3 e,b];exact d
   have a:¬ q.1=k:=λ z=>e (c.trans z)
   have b:atKey (q::qs) k=atKey qs k:=by simp[atKey,zBt,a]
   rw[qN4 e,b];exact ih
section
variable{P:Program}{w:World}{H:Hp}{h:Heap}{a:Addr}
theorem rd_of{u:HO}(b:HOk P w H h)(e:Rd H a u):ObjOk P w H h a u:=e.ok b
theorem Ft{kvs:List (Key×V)}(b:HOk P w H h)(e:Rd H a (.dK kvs)):kvs.length<=sizeLine/\(a == sysModules)=false/\∃ vs,KV kvs vs/\h.DictOf (qf0 P w) a vs :=
 show ObjOk P w H h a (.dK kvs) from rd_of b e
theorem qaK7{ks:List Key}(c:HOk P w H h)(e:H a=some (.tup (ks.map kV))):(tupleKind (qf0 P w)).is h ks a:=by
 obtain⟨_,b,r,o,d,f,n,g⟩:=(show ObjOk P w H h a (.tup (ks.map kV)) from c a _ e)
 exact⟨o,b.toArray,n,d,f,g,by simpa using qU3 r⟩
theorem dt_rd{kvs:List (List Key×V)}(c:HOk P w H h)(e:Rd H a (.dT kvs)):kvs.length<=sizeLine/\(a == sysModules)=false /\
   ∃ xs,KT H kvs xs/\h.DictOfH (tupleKind (qf0 P w)) a xs:=by
 obtain⟨z,y,xs,r,o,d,f,g,i,j,k,n⟩:=(show ObjOk P w H h a (.dT kvs) from rd_of c e)
 refine⟨z,y,xs,r,o,d,f,g,i,j,k,λ x b=>?_,n⟩;have all:∀{l:List (List Key×V)}{m:List (List Key×Addr×Value)},KT H l m->∀ x∈m,(tupleKind (qf0 P w)).is h x.1 x.2.1:=by
   intro l m q
   induction q with
   | nil=>intro x b;exact nomatch b
   | @cons p q ps qs hq t ih =>
     intro x b;rcases zAo.mp b with e | b
     . subst e
       exact qaK7 c (by rw[<- hq.1];exact hq.2.1)
     exact ih x b
 exact all r x b
end
def DGet(H:Hp)(a:Addr)(y:V)(r:Option V):Prop :=
 (∃ kvs k,Rd H a (.dK kvs)/\y=kV k/\r=Ek kvs k)∨∃ kvs k b,Rd H a (.dT kvs)/\y=.ref b/\H b=some (.tup (k.map kV))/\r=Ek kvs k
section
variable{X:Cx}{De:List (Addr×Obj)}{σ:St}{H:Hp}{s:Shared}
theorem Inv.big(I:Inv X De σ H s):sysModules < s.heap.objs.size:=by
 have h:mainGlobals < s.heap.objs.size:=(I.mod.glob.keeps I.bk).lt;exact Nat.lt_trans (by decide) h
end
section
variable{X:Cx}{De:List (Addr×Obj)}{σ:St}{H:Hp}{s:Shared}{a:Addr}{kvs:List (Key×V)}{A:Around}{E:Value->Shared->Prop}
theorem d_len{Q:Value->Shared->Prop}(I:Inv X De σ H s)(e:Rd H a (.dK kvs))(h:∀ t s',Inv X De σ H s'->Q (.int kvs.length t) s'):wpAny (model X.prog X.w) A (call (.builtin "len") [.ref a]) Q E s:=by
 obtain⟨z,b,d,rel,c⟩:=Ft I.hok e;refine call_len_dict b c (by rw[<- rel.length];rw[sizeLine_eq] at z;lia) ?_;rw[<- rel.length];exact h _ _ (I.tok _)
end
def qD2(kvs more:List (Key×V)):List (Key×V):=more.foldl (λ acc a=>putK acc a.1 a.2) kvs
theorem qw1:∀(more kvs:List (Key×V)),(qD2 kvs more).length<=kvs.length+more.length
 | [],kvs=>by show kvs.length<=kvs.length+0;lia
 | p::r,kvs=>by
   have a:=qw1 r (putK kvs p.1 p.2);have b:=qaa0 kvs p.1 p.2;show (qD2 (putK kvs p.1 p.2) r).length<=_;rw[zAp];lia
structure M2(X:Cx)(o:Expr)(m:Str)(apos:Pos)(e f:Expr)(cpos:Pos):Prop where
 base:attributeBase o m X.env (eval o X.env)=eval o X.env
 few:((backTo cpos (starEach [e,f] X.env)).all (λ x=>!x.1)&&(backToKw cpos (keywordEach [] X.env)).all (λ x=>x.1.isSome)
   && decide (([e,f]:List Expr).length+([]:List Keyword).length+(if ([]:List Keyword).isEmpty then 0 else 1) < 30))=true
 line:(apos.endLine == cpos.line)=true
 trees:backTo cpos (starEach [e,f] X.env)=[(false,eval e X.env),(false,eval f X.env)]
def IsD(H:Hp)(a:Addr):Prop:=(∃ kvs,Rd H a (.dK kvs))∨∃ kvs,Rd H a (.dT kvs)
theorem qaL1{X:Cx}{De:List (Addr×Obj)}{σ:St}{H:Hp}{s:Shared}{a:Addr}(I:Inv X De σ H s)(d:IsD H a) :
   s.TypeIs (.ref a) "dict" /\ (∀ b,Value.ref a=.ref b->∃ ob,s.heap.get? b=some ob/\ob.dict=none)/\(a == sysModules)=false:=by
 rcases d with⟨kvs,e⟩ | ⟨kvs,e⟩
 . obtain⟨_,f,i,_,c⟩:=Ft I.hok e
   refine⟨c.typeIs,λ b q=>?_,f⟩;cases q;obtain⟨ob,_,_,g,h,_⟩:=c;exact⟨ob,g,h.2.1⟩
 obtain⟨_,f,j,_,c⟩:=dt_rd I.hok e;refine⟨c.typeIs,λ b q=>?_,f⟩;cases q;obtain⟨ob,_,_,g,h,_⟩:=c;exact⟨ob,g,h.2.1⟩
section
variable{X:Cx}{De:List (Addr×Obj)}{σ:St}{H:Hp}{s:Shared}{a:Addr}{y d:V}{u r:Value}{o:Option V}{A:Around}{E:Value->Shared->Prop}
theorem qaV1{Q:Value->Shared->Prop}(n:A.units+1 < cLine)(I:Inv X De σ H s)(g:DGet H a y o)(i:RelV y u)(j:RelV d r)(h:∀ m s',Inv X De σ H s'->RelV (o.getD d) m->Q m s') :
   wpAny (model X.prog X.w) A (call (.builtin "dict.get") [.ref a,u,r]) Q E s:=by
 rcases g with⟨kvs,k,e,ey,l⟩ | ⟨kvs,k,b,e,ey,eb,l⟩
 . subst ey
   obtain⟨z,f,q,rel,c⟩:=Ft I.hok e;refine call_meetsIn PySem.F.slot_dict_get c.typeIs PySem.F.entry_dict_get (PySem.F.args_dict_get_3 _ _ _) (meets_dict_get_default (qf0 X.prog X.w) a (Hw i) f r) ⟨_,c.mapOf,h _ _ (I.tok _) ?_⟩;rw[l];exact(rel.val k).getD j
 subst ey;cases (show u=Value.ref b from i);obtain⟨z,f,p,rel,c⟩:=dt_rd I.hok e;refine call_meetsIn PySem.F.slot_dict_get c.typeIs PySem.F.entry_dict_get (PySem.F.args_dict_get_3 _ _ _) (meetsH_dict_get_default (tupleKind (qf0 X.prog X.w)) a b f r) ⟨tupleKind_room_in1 n,k,p,qaK7 I.hok eb,c,h _ _ (I.tok _) ?_⟩;rw[l];exact(rel.val k).getD j
end
def qaO8(td ty tx:TE):TE:=λ σ H Q=>td σ H λ x H1=>∃ a,x=.ref a/\IsD H1 a/\ty σ H1 λ y H2=>tx σ H2 λ z H3=>∃ o,DGet H3 a y o/\Q (o.getD z) H3
section
variable{X:Cx}{o e f:Expr}{apos cpos:Pos}{td ty tx:TE}
theorem qay1(i:X.A.units+1 < cLine)(j:PE X o td)(k:PE X e ty)(l:PE X f tx)(m:M2 X o "get" apos e f cpos):PE X (.Call (.Attribute o "get" apos) [e,f] [] cpos) (qaO8 td ty tx):=by
 intro De s σ H Q I h;refine wpAny_Call_method m.base m.few m.line PySem.F.plainAttrs_dict PySem.F.slot_dict_get PySem.F.type_dict_get (thn (j De s σ H _ I h) λ u n b=>?_);obtain⟨x,H1,I1,p,a,q,d,r⟩:=b;subst q;obtain rfl:u=Value.ref a:=p;obtain⟨t1,t2,_⟩:=qaL1 I1 d;refine⟨t1,t2,?_⟩;rw[m.trees];refine Calls.callWith_builtin rfl (Calls.evalArgs_plain (Calls.spliced_cons (thn (k De n σ H1 _ I1 r) λ C t ⟨y,H2,I2,v,q2⟩ =>
   Calls.spliced_cons (thn (l De t σ H2 _ I2 q2) λ D E ⟨z,H3,I3,w,G,g,B⟩=>Calls.spliced_nil ?_))))
 exact qaV1 i I3 g v w λ J K I4 c=>⟨_,H3,I4,c,B⟩
end
end L2
namespace Att
open PySem PySem.W PySem.Calls PyProof.Rows
theorem qD5{P:Params}{h:Heap}:∀(ns:List Int)(vs:List Value),WellAll P h vs (ns.map WData.int)->IntsAre vs ns:=by
 intro ns
 induction ns with
 | nil =>
   intro vs w;rw[List.map_nil] at w;cases w;exact .nil
 | cons n ns c =>
   intro vs w;rw[zB0] at w;cases w with
   | cons a b =>
     cases a;exact .cons _ _ (c _ b)
theorem qam1{l:OpenLaw}{n:Nat}(m:l.most=some n){P:Params}{h:Heap}{args:List WData}{vals:List Value}(b:l.row.toRowW.claim.pre args=true)(i:WellAll P h vals args) :
   ∃ a vs ns,vals=[Value.ref a]/\args=[WData.list (ns.map WData.int)]/\h.get? a=some { cls:=.type "list",data:=.seq vs.toArray }/\IntsAre vs ns/\ns.length<=n:=by
 have j:WShape.hasAll [] args [.list .int]=true:=(pre_splitW b).1;have k:l.pre.holds [] { args:=args }=true:=(pre_splitW b).2;obtain⟨d,r,rfl,o,p⟩:=hasAllW_cons j;obtain rfl:=hasAllW_nil p;obtain⟨x,rfl,s⟩:=hasW_list o;obtain⟨ns,rfl⟩:=items_int s;have c:ns.length<=n:=by
   unfold OpenLaw.pre at k;have f:(WTm.not (.lt (.lit (.int (n:Int))) (.len (.arg 0)))).holds [] { args:=[.list (ns.map .int)] }=true:=by
     have f:=(holds_andW k).1;rw[m] at f;exact f
   have g:=condW_of f (w_not (w_lt w_lit (w_len_list (w_arg rfl))));rw[zA7] at g;refine zC5 λ q=>?_
   have t:(n:Int) < ((ns.length:Nat):Int):=by lia
   first
     | (rw[zAj t] at g;exact absurd g (by decide))
     | (simp at g;lia)
 cases i with
 | cons u v =>
   cases v;cases u with
   | list w e=>exact⟨_,_,ns,rfl,rfl,w,qD5 ns _ e,c⟩
theorem qam6(l:OpenLaw)(args:List WData):l.row.toRowW.claim.post args (.bool true) args=true :=
 postW_of (r:=l.row.toRowW) (X:=(true == true))
   (show WShape.has [] (.bool true) .bool=true by first | rfl | decide | simp[WShape.has,WShape.arms,WShape.armsAll])
   (show (WTm.eq .res (.lit (.bool true))).value [] { args:=args,res:=some (.bool true),after:=args }=some (.bool (true == true)) from w_eq_bool (w_res rfl) w_lit) rfl
theorem qaa7{l:OpenLaw}{n:Nat}{q:Program}{loose:List Str}{XP:(Str->Option Value)->Heap->Prop}{YP:World->Heap->Prop}{d:DefRec}(u:l.most=some n)(h:d.params.defaults=[])(call:∀(w:World)(s₀ s₁:Shared)(mg i:Str->Option Value)(fa:Addr)(o:Obj)(j cd b:Value)(a:Addr)(vs:List Value)(ns:List Int),
     Ground q loose [] XP w s₀ mg i s₁.heap->YP w s₁.heap ->
     s₁.heap.get? fa=some o->o.data=.func (docDef d.name d.params d.body d.scope j cd b)->s₁.heap.CodeRec cd d.name->mg d.name=some (.ref fa) ->
     s₁.heap.get? a=some { cls:=.type "list",data:=.seq vs.toArray }->IntsAre vs ns->ns.length<=n->s₁.gens = #[] ->
     codeAny (model l.prog w) callerA (.call (.ref fa) ⟨[.ref a],[]⟩) (λ r s'=>r=.ok (.ret (.bool true))/\OldK s₁.heap s'.heap/\s'.os=s₁.os/\AllBare s'.gens) s₁) :
   WalkO q loose XP YP l.row.toRowW d [] (λ f vs=>PySem.call f vs):=by
 intro w s₀ s₁ mg i G Y fa o j cd b v kV x y k s m z args vals I c t A p B;obtain rfl:v=.none:=Dflts.none s h;obtain rfl:kV=.none:=Dflts.noKw s;obtain⟨a,vs,ns,rfl,rfl,e,hints,g⟩:=qam1 u c p;refine enter_call (codeAny_mono (call w s₀ s₁ mg i fa o j cd b a vs ns G Y x (fd_plain y) k m e hints g z) λ r s' C=>?_);obtain⟨rfl,D,E,F⟩:=C;exact⟨.inl ⟨.bool true,.bool true,[],rfl,λ _=>rfl,.bool true,qam6 l _,λ _=>⟨List.Pairwise.nil,λ _ H=>(nomatch H)⟩⟩,D,E,F⟩
end Att
namespace L2
open PySem PySem.Spec PyProof.Rows
theorem qS4:∀{vs:List Value}{ns:List Int},IntsAre vs ns->Vals (ns.map V.int) vs
 | _,_,.nil=>.nil
 | _,_,.cons n t h=>.cons ⟨t,rfl⟩ (qS4 h)
def Only(H:Hp):Prop:=∀ b,H b=none∨∃ o xs,H b=some (.frz o (.lst xs))
theorem qaA5{P:Program}{w:World}{K:PySem.W.Frag}{mg C:Str->Option Value}{CX:CXT}{k:Nat}{fa a:Addr}{fd:FuncData}{x:Str}{sp:Sp}{s₁:Shared}{vs:List Value}{ns:List Int}(KX:K.In s₁.heap)(g:s₁.heap.Ns mainGlobals mg)(c:s₁.heap.Ns builtinsNs C)(D:∀ x:Str,x ≠ "__name__" -> C x=bootBuiltins x)(i:s₁.heap.NoLimit)(T:s₁.gens = #[])(B:s₁.heap.get? a=some { cls:=.type "list",data:=.seq vs.toArray })(hi:IntsAre vs ns)(M:ns.length<=sizeLine)(U:Room k callerA)(F:∀ base:Heap,K.In base->base.Ns mainGlobals mg->Bz P w K mg base CX k fa fd [x] sp)(hbind:∀(s:Shared)(u:Value),BindsTo s fd ⟨[u],[]⟩ [(x,u)])(E:∀ H:Hp,Only H->SqL K H a (ns.map V.int)->sp [.ref a] H (λ v _=>v=.bl true) λ _ _ _=>False)(G:∀ H e s',CX [] H s₁ (λ _ _ _=>False) e s'->False) :
   codeAny (model P w) callerA (.call (.ref fa) ⟨[.ref a],[]⟩) (λ r s'=>r=.ok (.ret (.bool true))/\OldK s₁.heap s'.heap/\s'.os=s₁.os/\AllBare s'.gens) s₁:=by
 have N:=qS4 hi;have lenV:=hi.length;have core:∀ H:Hp,Only H->SqL K H a (ns.map V.int)->HOk P w H s₁.heap->(∀ b,H b≠none->b=a)->(H a≠none->K.lookup a=none) ->
     codeAny (model P w) callerA (.call (.ref fa) ⟨[.ref a],[]⟩) (λ r s'=>r=.ok (.ret (.bool true))/\OldK s₁.heap s'.heap/\s'.os=s₁.os/\AllBare s'.gens) s₁:=by
   intro H O X j Q Y;have base_of:∀{b:Addr}{o:Obj},s₁.heap.get? b=some o->H b=none->(Fm s₁.heap H).get? b=some o:=λ e n=>qaB3 e n
   have I:∀{b:Addr}{o:Obj}{l:Array DictEntry}{p:Nat},s₁.heap.get? b=some o->o.data=.dict l p->H b=none:=λ{b o l p} e d=>by
     cases q:H b with
     | none=>rfl
     | some u =>
       have J:b=a:=Q b (by rw[q];simp);subst J;rw[B] at e;cases e;have Z:Data.seq vs.toArray _=Data.dict l p:=d;cases Z
   have f:∀{b:Addr}{m:Str->Option Value},s₁.heap.Ns b m->(Fm s₁.heap H).Ns b m:=λ{b m} ⟨o,l,p,e,d,r⟩=>⟨o,l,p,base_of e (I e d),d,r⟩
   have t:K.In (Fm s₁.heap H):=λ b o e=>base_of (KX b o e) (by
     cases q:H b with
     | none=>rfl
     | some u =>
       have J:b=a:=Q b (by rw[q];simp);subst J;rw[Y (by rw[q];simp)] at e;cases e)
   have hM:Mod K mg (Fm s₁.heap H):=⟨t,f g,⟨C,f c,D⟩,let ⟨mc,h1,h2⟩:=i;⟨mc,f h1,h2⟩⟩
   have e0:Env0 P w K mg (Fm s₁.heap H) callerA [] s₁ H:=⟨rfl,hM,λ b o e=>qaJ0 e,zCb (qao3 _ _),trivial,λ b c=>absurd (show b∈([]:List Addr) from c) (by simp),j,.of_eq T⟩
   refine codeAny_mono ((F _ t (f g)).run callerA [] s₁ H ⟨[.ref a],[]⟩ [.ref a] [.ref a] _ _ U e0 (hbind s₁ (.ref a)) (.cons rfl .nil) (E H O X)) λ r s' h=>?_
   cases r with
   | error e=>exact(G H e s' h).elim
   | ok fl =>
     cases fl with
     | next=>exact False.elim h
     | brk=>exact False.elim h
     | cont=>exact False.elim h
     | ret u =>
       obtain⟨v,H',os,bare,R,y,r',q⟩:=h;have q':v=.bl true:=q;subst q';obtain rfl:u=Value.bool true:=r';refine⟨rfl,OldK.of_keep λ b o e=>?_,os,bare⟩;cases q:H b with
       | none=>exact R.keep b o e q (by intro z;exact absurd (show b∈([]:List Addr) from z) (by simp)) (by simp)
       | some u =>
         rcases O b with z | ⟨ob,xs,z⟩
         . rw[q] at z;cases z
         have z2:=R.frzs b ob _ z;obtain⟨S,_⟩:=j b _ z;obtain⟨e2,_⟩:=y b _ z2;rw[e] at S;cases S;exact e2
 cases L:K.lookup a with
 | some o =>
   have e:=KX a o L;rw[B] at e;cases e;refine core (λ _=>none) (λ _=>.inl rfl) (.inr ⟨_,vs.toArray,_,L,rfl,rfl,rfl,by rw[zA5,lenV];exact M,by simpa using N⟩) (λ b u z=>by have A:(none:Option HO)=some u:=z;cases A) (λ b z=>absurd rfl z) λ z=>absurd rfl z
 | none =>
   refine core (λ b=>if b=a then some (.frz { cls:=.type "list",data:=.seq vs.toArray } (.lst (ns.map V.int))) else none) (λ b=>?_) (.inl (.inr ⟨{ cls:=.type "list",data:=.seq vs.toArray },if_pos rfl⟩)) (λ b u z=>?_) (λ b z=>?_) λ _=>L
   . by_cases c:b=a
     . exact .inr ⟨_,_,if_pos c⟩
     exact .inl (if_neg c)
   . by_cases c:b=a
     . have A:=(if_pos c).symm.trans z
       cases A;subst c;exact⟨B,by rw[zA7];exact M,vs,_,N,B⟩
     have A:=(if_neg c).symm.trans z;cases A
   by_cases c:b=a
   . exact c
   exact absurd (if_neg c) z
theorem qaD3{l:PySem.W.OpenLaw}{n k:Nat}{q:Program}{loose:List Str}{XP:(Str->Option Value)->Heap->Prop}{YP:World->Heap->Prop}{d:DefRec}{K:Params->PySem.W.Frag}{CX:World->CXT}{sp:World->Sp}{x:Str}(y:l.most=some n)(j:n<=sizeLine)(m:d.params.defaults=[])(z:Room k callerA)(A:∀(w:World)(h:Heap),YP w h->(K w.params).In h)(F:∀(w:World)(mg:Str->Option Value)(fa:Addr)(h:Heap),(K w.params).In h->h.Ns mainGlobals mg->mg d.name=some (.ref fa) ->
     ∃ fd:FuncData,(∀(s:Shared)(u:Value),BindsTo s fd ⟨[u],[]⟩ [(x,u)]) /\
       ∀ base:Heap,(K w.params).In base->base.Ns mainGlobals mg->Bz l.prog w (K w.params) mg base (CX w) k fa fd [x] (sp w))(p:∀(w:World)(H:Hp)(a:Addr)(ns:List Int),ns.length<=n->Only H->SqL (K w.params) H a (ns.map V.int)->sp w [.ref a] H (λ v _=>v=.bl true) λ _ _ _=>False)(r:∀(w:World)(H:Hp)(s:Shared)(e:Value)(s':Shared),CX w [] H s (λ _ _ _=>False) e s'->False) :
   PySem.W.WalkO q loose XP YP l.row.toRowW d [] (λ f vs=>PySem.call f vs):=by
 refine Att.qaa7 y m λ w s₀ s₁ mg M fa o N O B a vs ns G Y P Q C t i hints c D=>?_
 have KX:=A w _ Y;obtain⟨fd,E,I⟩:=F w mg fa _ KX G.T.g t;exact qaA5 KX G.T.g G.T.b G.T.builtins G.T.nolimit D i hints (zAr c j) z I E (λ H J L=>p w H a ns c J L) λ H e s'=>r w H s₁ e s'
end L2
/- THE LAST THEOREM (shape;LID,My.* are yours):
  My.Adr: a structure of the addresses that your layer names (classes,functions);My.Txt K t: a structure (Prop) of the equations over K;
  My.txt_mk:{K} {implicit addresses ..} (e1:nsIn K mainGlobals "law" = some (some (.ref f))) (e2:K.lookup f=some ⟨oc,od,.func (fnOf "law" "law" params body scope dV kV doc pm an cdv ct),sl⟩) (e3:codeIn K cdv "law" = true) .. : ∃ t,My.Txt K t
(the tactic k_is has no namespace: write k_is) -/
namespace L2
open PySem PySem.Spec PyProof.Rows
variable{f:Addr}{qual x:Str}{st:Stmt}
noncomputable def qe8(s:Stmt)(j:Nat):Stmt:=match s with
 | .ClassDef _ _ _ body _ _ _ _ _ _ _=>body.getD j (.Pass ⟨0,0,0,0⟩)
 | _=>.Pass ⟨0,0,0,0⟩
noncomputable def qf1(s:Stmt):Arguments:=match s with
 | .FunctionDef _ a _ _ _ _ _ _ _ _=>a
 | _=>{ posonlyargs:=[],args:=[],vararg:=none,kwonlyargs:=[],kw_defaults:=[],kwarg:=none,defaults:=[] }
noncomputable def qc9(s:Stmt):List Stmt:=match s with
 | .FunctionDef _ _ b _ _ _ _ _ _ _=>b
 | _=>[]
noncomputable def qa3(s:Stmt):Scope:=match s with
 | .FunctionDef _ _ _ _ _ _ sc _ _ _=>sc
 | _=>{ kind:=.function,names:=[],isGenerator:=false,isCoroutine:=false }
abbrev CX0:CXT:=λ _ _ _ _ _ _=>False
abbrev E0:XK:=λ _ _ _=>False
theorem pass0{X:Cx}:qM8 CX0 X E0:=λ _ _ _ _ _ _ _ h=>h.elim
structure Fun(K:PySem.W.Frag)(x qual:Str)(st:Stmt)(f:Addr)(fd:FuncData):Prop where
 ex:∃(oc:Value)(od:Option Addr)(kV doc pm:Value)(an:Option Addr)(cdv ct:Value)(osl:Array (Option Value)),
   fd=PySem.W.fnOf x qual (qf1 st) (qc9 st) (qa3 st) .none kV doc pm an cdv ct/\K.lookup f=some ⟨oc,od,.func fd,osl⟩/\PySem.W.codeIn K cdv qual=true
 kp:PySem.W.keepIn K (.ref f)=true
section
variable{P:Program}{w:World}{K:PySem.W.Frag}{mg:Str->Option Value}{base:Heap}
theorem Fun.ok{fd:FuncData}{N ps:List Str}{k:Nat}{sp:Sp}(F:Fun K x qual st f fd)(S:qa8 N ps (qa3 st))(len:∀ vs H Q E,sp vs H Q E->vs.length=ps.length)(hbody:∀(a:Value)(A:Around)(outer:List Env)(s:Shared)(H:Hp)(vs:List V)(Q:VK)(E:XK),Room k (A.deeper (envOfC qual (qa3 st) s.heap.objs.size f a))->sp vs H Q E ->
     ∃ t,PSs (Dt CX0 P w K mg base N qual (qa3 st) f a A outer s H E).nox (qc9 st) t/\t { nx:=λ _ H'=>Q .non H',rt:=Q } (start N vs) H):Bz P w K mg base CX0 (k+1) f fd ps sp:=by
 obtain⟨j,l,kV,d,m,n,a,o,e,rfl,g,b⟩:=F.ex;refine Hu g b S len λ A outer s H vs Q E i c=>?_
 obtain⟨t,h,q⟩:=hbody a A outer s H vs Q E i c;exact⟨t,h.nox,q⟩
theorem Fun.binds{fd:FuncData}{ps:List Str}(F:Fun K x qual st f fd)(h:∀(kV a c:Value)(d:Option Addr)(b e:Value)(us:List Value),us.length=ps.length->bindArgs (PySem.W.fnOf x qual (qf1 st) (qc9 st) (qa3 st) .none kV a c d b e) ⟨us,[]⟩=pure (ps.zip us)):Binds K fd ps []:=by
 obtain⟨j,k,kV,a,c,d,b,e,g,rfl,l,i⟩:=F.ex;exact .all (h kV a c d b e)
theorem qao6{oc:Value}{i e:Option Addr}{d:Array (Option Value)}{kV b g a h:Value}(l:K.lookup f=some ⟨oc,i,.func (PySem.W.fnOf x qual (qf1 st) (qc9 st) (qa3 st) .none kV b g e a h),d⟩)(c:PySem.W.codeIn K a qual=true)(k:PySem.W.keepIn K (.ref f)=true):Fun K x qual st f (PySem.W.fnOf x qual (qf1 st) (qc9 st) (qa3 st) .none kV b g e a h):=⟨⟨oc,i,kV,b,g,e,a,h,d,rfl,l,c⟩,k⟩
end
theorem hu_of{A:Around}{k:Nat}(a:Room k A):A.units+1 < cLine:=Nat.lt_of_le_of_lt (Nat.add_le_add_left (by decide:1<=64) _) a.units
theorem qam0{n:Nat}(h:n<=1000):n < sizeLine:=Nat.lt_of_le_of_lt h (by decide)
section
variable{X:Cx}
theorem pv(i:Nat){pos:Pos}(b:X.N[i]? = some x:=by rfl)(c:Vis X.env.scope x:=by first | exact Or.inl rfl | exact Or.inr (Or.inl rfl) | exact Or.inr (Or.inr rfl))(d:(x == ("__debug__" : Str))=false:=by decide)(a:(x == ("__classdict__" : Str))=false:=by decide):PE X (.Name x pos) (E8 i):=qr4 b c d a
theorem qaq6:CallR X (.builtin "len") (λ xs H Q=>∃ a kvs,xs=[V.ref a]/\H a=some (.dK kvs)/\Q (.int kvs.length) H):=by
 intro De s σ H xs d Q I r h;obtain⟨a,kvs,rfl,b,q⟩:=h;obtain⟨u,rfl,c⟩:=Bm r;cases c;exact d_len I (.inl b) λ t e I'=>⟨.int kvs.length,H,I',⟨t,rfl⟩,q⟩
end
def Same(H H':Hp):Prop:=∀ b o,H b=some o->H' b=some o
theorem Same.trans{H H1 H2:Hp}(a:Same H H1)(b:Same H1 H2):Same H H2:=λ c o h=>b c o (a c o h)
end L2
set_option maxHeartbeats 4000000
namespace L2
open PySem PySem.Spec PyProof.Rows
variable{H:Hp}{a:Addr}{e:Expr}{es:List Expr}{i:Int}{p:Pos}{t:TA}{x:Str}{xs:List V}{α:Type}
theorem Hc{t:Sem α}{Q Q':α->Shared->Prop}{M:Model}{A:Around}{E:Value->Shared->Prop}{s:Shared}(h:wpAny M A t Q (λ _ _=>False) s)(b:∀ a s,Q a s->Q' a s):wpAny M A t Q' E s :=
 wpAny_mono h b λ _ _ x=>x.elim
noncomputable def El(env:Env):List (Str×NameKind)->List (Str×Addr)->List (Str×Addr)
 | [],acc=>acc
 | (n,k)::r,acc=>El env r (if k == NameKind.free then (n,(env.cells.lookup n).getD 0)::acc else acc)
theorem qB8{env:Env}:∀(l:List (Str×NameKind))(acc:List (Str×Addr)),(∀ x∈l,x.2=NameKind.free->∃ c,env.cells.lookup x.1=some c) ->
   (forIn l acc λ(x:Str×NameKind)(r:List (Str×Addr)) =>
     (match x with
     | (name,kind)=>if (kind == NameKind.free)=true then (do let c <- cellOf env name;pure (ForInStep.yield ((name,c)::r)):Sem (ForInStep (List (Str×Addr)))) else pure (ForInStep.yield r)))=(pure (El env l acc):Sem _)
 | [],acc,_=>rfl
 | (n,k)::r,acc,h=>by
   rw[List.forIn_cons];by_cases a:(k == NameKind.free)=true
   . obtain⟨c,b⟩:=h (n,k) zAb (by simpa using a)
     have b:env.cells.lookup n=some c:=b;dsimp only;rw[if_pos a];have e:cellOf env n=pure c:=by unfold cellOf;rw[b]
     rw[e];show (forIn r ((n,c)::acc) _:Sem _)=_;rw[qB8 r ((n,c)::acc) λ x d=>h x (zA6 _ d)];show _=(pure (El env r (if (k == NameKind.free)=true then (n,(env.cells.lookup n).getD 0)::acc else acc)):Sem _)
     rw[if_pos a,b];rfl
   dsimp only;rw[if_neg a];show (forIn r acc _:Sem _)=_;rw[qB8 r acc λ x d=>h x (zA6 _ d)];show _=(pure (El env r (if (k == NameKind.free)=true then (n,(env.cells.lookup n).getD 0)::acc else acc)):Sem _)
   rw[if_neg a]
theorem qM4{env:Env}{sc:Scope}(h:∀ x∈sc.names,x.2=NameKind.free->∃ c,env.cells.lookup x.1=some c):closureFor sc env=pure (El env sc.names []):=by
 unfold closureFor;show (forIn sc.names [] _ >>= _)=_
 have:=qB8 (env:=env) sc.names [] h
 rw[show (forIn sc.names ([]:List (Str×Addr)) _:Sem _)=pure (El env sc.names []) from this];rfl
theorem qai9{env:Env}:∀(l:List (Str×NameKind))(acc:List (Str×Addr))(x:Str)(c:Addr),(x,c)∈El env l acc->(x,c)∈acc∨((x,NameKind.free)∈l/\c=(env.cells.lookup x).getD 0)
 | [],acc,x,c,h=>.inl h
 | (n,k)::r,acc,x,c,h=>by
   rcases qai9 r _ x c h with h | ⟨h,e⟩
   . by_cases a:(k == NameKind.free)=true
     . rw[if_pos a] at h
       rcases zAo.mp h with h | h
       . cases h
         exact .inr ⟨by rw[show k=NameKind.free by simpa using a];exact zAb,rfl⟩
       exact .inl h
     rw[if_neg a] at h;exact .inl h
   exact .inr ⟨zA6 _ h,e⟩
theorem qaj0{env:Env}:∀(l:List (Str×NameKind))(acc:List (Str×Addr))(x:Str),(∃ c,(x,c)∈acc)->∃ c,(x,c)∈El env l acc
 | [],acc,x,h=>h
 | (n,k)::r,acc,x,⟨c,h⟩=>qaj0 r _ x ⟨c,by split;exact zA6 _ h;exact h⟩
theorem qS1{env:Env}:∀(l:List (Str×NameKind))(acc:List (Str×Addr))(x:Str),(x,NameKind.free)∈l->∃ c,(x,c)∈El env l acc
 | [],acc,x,h=>by simp at h
 | (n,k)::r,acc,x,h=>by
   rcases zAo.mp h with h | h
   . cases h
     exact qaj0 r _ _ ⟨_,by rw[if_pos (by rfl)];exact zAb⟩
   exact qS1 r _ x h
theorem qA7{α:Type}:∀{l:List (Str×α)}{x:Str},(∃ c,(x,c)∈l)->∃ c,l.lookup x=some c
 | [],x,⟨c,h⟩=>by simp at h
 | (n,a)::r,x,⟨c,h⟩=>by
   cases b:x == n with
   | true=>exact⟨a,by simp only[zAt,b]⟩
   | false =>
     rcases zAo.mp h with h | h
     . cases h;simp at b
     obtain⟨d,e⟩:=qA7 ⟨c,h⟩;exact⟨d,by simp only[zAt,b];exact e⟩
noncomputable def Dg(σ:St)(src:List (Option Nat)):St:=src.map λ o=>match o with | none=>none | some j=>(σ[j]?).getD none
noncomputable def qB7(X:Cx)(NY:List Str)(src:List (Option Nat))(sc:Scope):Bool :=
 (sc.kind == .function)&&(src.length == NY.length) &&
 (sc.names.all λ x=>x.2 != .cell&&(x.2 != .local||sc.names.lookup x.1 == some .local)&&(x.2 != .free||(X.env.scope.names.lookup x.1 == some .cell||X.env.scope.names.lookup x.1 == some .free))) &&
 ((NY.zip src).all λ p=>match p.2 with | none=>true | some j=>X.N[j]? == some p.1&&sc.names.lookup p.1 == some .free)
def qj2(X:Cx)(NY:List Str)(sc:Scope)(C:Addr)(a:Shared)(H0:Hp)(ex:List Addr):Cx where
 prog:=X.prog
 w:=X.w
 K:=X.K
 mg:=X.mg
 base:=X.base
 A:=X.A
 N:=NY
 s₀:=a
 H₀:=H0
 env:=compEnvC sc (El X.env sc.names []) C X.env
 outer:=X.stack
 stack:=X.stack
 ex:=ex
 fn:=λ _=>false
 calm:=X.calm
 pn:=[]
 xe:=λ _ _=>False
def PFs(X:Cx)(ifs:List Expr)(t:TT):Prop :=
 ∀(De:List (Addr×Obj))(s:Shared)(σ:St)(H:Hp)(Q:Bool->Hp->Prop),Inv X De σ H s->t σ H Q ->
   wpAny (model X.prog X.w) X.A (forIn ifs true λ c r=>if r=true then do let a <- isTrue c X.env (eval c X.env);pure (ForInStep.yield a) else pure (ForInStep.yield r)) (TP X De σ Q) X.xe s
def tYes:TT:=λ _ H Q=>Q true H
theorem qaH2{X:Cx}:PFs X [] tYes:=λ _ _ _ H _ I h=>wpAny_tests_nil ⟨H,I,h⟩
theorem qaP9{X:Cx}{c:Expr}{t:TT}(h:PT X c t):PFs X [c] t:=λ De s σ H Q I q=>wpAny_tests_one (h De s σ H Q I q)
theorem qq7{prog:Program}{w:World}{A:Around}{R:Result->Shared->Prop}{s:Shared}{elt target iter:Expr}{ifs:List Expr}{scope:Scope}{pos:Pos}{it acc:Value}{env:Env}(I:Nat->Shared->Prop)(turn:∀ n s,I n s->wpAny (model prog w) A (pyNext it) (λ r s₁=>match r with
     | none=>R (.ok .next) s₁
     | some v=>wpAny (model prog w) A (letOwnedTupleGo target it v) (λ _ s₁'=>wpAny (model prog w) A (assign target env v) (λ _ s₂ =>
         wpAny (model prog w) A (forIn ifs true λ c r=>if r=true then do let a <- isTrue c env (eval c env);pure (ForInStep.yield a) else pure (ForInStep.yield r)) (λ a s₃ =>
           if a=true then wpAny (model prog w) A (eval elt env) (λ x s₄ =>
             wpAny (model prog w) A (call (.builtin "list.append") [acc,x]) (λ _ s₅=>∃ m,m < n/\I m s₅) (λ _ _=>False) s₄) (λ _ _=>False) s₃
           else ∃ m,m < n/\I m s₃) (λ _ _=>False) s₂) (λ _ _=>False) s₁') (λ _ _=>False) s₁) (λ _ _=>False) s)(n:Nat)(h:I n s) :
   codeAny (model prog w) A (.compLoop (.ListComp elt [⟨target,iter,ifs,0⟩] scope pos) 0 it acc env) R s:=by
 refine codeAny_loop rfl I (λ n s b=>?_) n h;show wpAny _ A ((compTurn (.ListComp elt [⟨target,iter,ifs,0⟩] scope pos) 0 it acc env).onRaise (λ x=>do noteFrame x env;theTreesLotGoes x)) _ _ s;refine wpAny_noted ?_;rw[compTurn_list];refine wpAny_bind (wpAny_standAt (wpAny_bind (Hc (turn n s b) λ r s₁ h₁=>?_)));cases r with
 | none=>exact wpAny_pure h₁
 | some v =>
   refine wpAny_bind (Hc h₁ λ _ s₁' h₁'=>?_);refine wpAny_bind (Hc h₁' λ _ s₂ h₂=>wpAny_bind (Hc h₂ λ a s₃ h₃=>?_));cases a with
   | false=>exact wpAny_pure ⟨rfl,h₃⟩
   | true =>
     exact wpAny_bind (wpAny_bind (Hc h₃ λ x s₄ h₄=>wpAny_bind (Hc h₄ λ _ s₅ h₅=>wpAny_pure (wpAny_pure ⟨rfl,h₅⟩))))
def qI7(J:It)(g:TG)(tf:TT)(te:TE)(D:Addr)(R:Hp->Prop)(σ0:St)(H0:Hp):Prop :=
 ∃ W:Nat->Nat->St->Hp->Prop,(∃ m,W 0 m σ0 H0)/\∀ i m σ H,W i m σ H ->
   (J.stop i H/\R H)∨(J.go i H/\∃ N:St->Hp->Prop,(∀ σ' H',N σ' H'->∃ a,a < m/\W (i+1) a σ' H')/\∀ x H',J.yld i H x H'->g x σ H' λ σ2 H2=>tf σ2 H2 λ b H3 =>
     if b=true then te σ2 H3 λ v H4=>∃ xs,H4 D=some (.lst xs)/\xs.length < sizeLine/\N σ2 (upd H4 D (.lst (xs++[v]))) else N σ2 H3)
theorem qs1{env:Env}{x:Str}:∀{names:List (Str×NameKind)},(∀ y∈names,y.2≠.cell) ->
   ((names.map λ (n,k)=>if (k == NameKind.free&&env.scope.kind == .function&&env.kindOf n == some .cell) then (n,NameKind.cell) else (n,k)).lookup x=some .cell ∨
    (names.map λ (n,k)=>if (k == NameKind.free&&env.scope.kind == .function&&env.kindOf n == some .cell) then (n,NameKind.cell) else (n,k)).lookup x=some .free)->names.lookup x=some .free
 | [],_,h=>by simp at h
 | (n,k)::r,hc,h=>by
   have c:=@qs1 env x r λ y d=>hc y (zA6 _ d)
   have e:k≠.cell:=hc (n,k) zAb;simp only[zB0] at h;cases b:x == n with
   | true =>
     simp only[zAt,b];by_cases a:(k == NameKind.free&&env.scope.kind == .function&&env.kindOf n == some .cell)=true
     . have:k=NameKind.free:=by
         simp only[zBj,zC1] at a;exact a.1.1
       rw[this]
     rw[if_neg a] at h;simp only[zAt,b] at h;rcases h with h | h
     . exact absurd (Option.some.inj h) e
     exact h
   | false =>
     simp only[zAt,b];apply c;by_cases a:(k == NameKind.free&&env.scope.kind == .function&&env.kindOf n == some .cell)=true
     . rw[if_pos a] at h
       simpa only[zAt,b] using h
     rw[if_neg a] at h;simpa only[zAt,b] using h
theorem qh8{env:Env}{x:Str}:∀{names:List (Str×NameKind)},names.lookup x=some .free ->
   ((names.map λ (n,k)=>if (k == NameKind.free&&env.scope.kind == .function&&env.kindOf n == some .cell) then (n,NameKind.cell) else (n,k)).lookup x=some .cell ∨
    (names.map λ (n,k)=>if (k == NameKind.free&&env.scope.kind == .function&&env.kindOf n == some .cell) then (n,NameKind.cell) else (n,k)).lookup x=some .free)
 | [],h=>by simp at h
 | (n,k)::r,h=>by
   have c:=@qh8 env x r;simp only[zB0];cases a:x == n with
   | true =>
     simp only[zAt,a] at h;have h:k=.free:=Option.some.inj h;by_cases b:(k == NameKind.free&&env.scope.kind == .function&&env.kindOf n == some .cell)=true
     . rw[if_pos b];simp only[zAt,a];exact .inl trivial
     rw[if_neg b];simp only[zAt,a];rw[h];exact .inr rfl
   | false =>
     simp only[zAt,a] at h;by_cases b:(k == NameKind.free&&env.scope.kind == .function&&env.kindOf n == some .cell)=true
     . rw[if_pos b];simp only[zAt,a];exact c h
     rw[if_neg b];simp only[zAt,a];exact c h
section
variable{X:Cx}{De:List (Addr×Obj)}{σ:St}{H2:Hp}{s2:Shared}{elt tg iter:Expr}{ifs:List Expr}{sc:Scope}{pos:Pos}{NY:List Str}{src:List (Option Nat)}{J:It}{fp:List Addr}{it:Addr}{tn:Nat->Heap->Prop}{g:TG}{tf:TT}{te:TE}
theorem qW6{R:Addr->Hp->Prop}{E:Value->Shared->Prop}{RR:Value->Addr->Result->Shared->Prop}(ck:qB7 X NY src sc=true)(hc:X.calm=true)(I2:Inv X De σ H2 s2)(T:Hq X.prog X.w X.K tg J fp it tn)(I:tn 0 s2.heap)(f2:∀ b∈fp,Fn X De H2 b)(hg:∀ C P H0,PG (qj2 X NY sc C P H0 fp) tg g)(hf:∀ C P H0,PFs (qj2 X NY sc C P H0 fp) ifs tf)(he:∀ C P H0,PE (qj2 X NY sc C P H0 fp) elt te)(rd:∀ D,H2 D=none->qI7 J g tf te D (R D) (Dg σ src) (upd H2 D (.lst [])))(fin:∀ D C H' s',Inv X De σ H' s'->R D H'->H' C=none->X.s₀.heap.objs.size<=C->C≠X.env.locals->(∀ x c,X.env.cells.lookup x=some c->c≠C)->(∀ p∈X.pn++De,p.1≠C)->C∉X.fs->(∃ m,s'.heap.Ns C m)->RR (.ref D) C (.ok .next) s') :
   wpAny (model X.prog X.w) X.A (newList []) (λ acc s₃=>wpAny (model X.prog X.w) X.A (newFunctionEnv sc X.env.globals (El X.env sc.names []) [] X.env.qual none .none (some X.env)) (λ cenv s₄ =>
     codeAny (model X.prog X.w) X.A (.compStart (.ListComp elt [⟨tg,iter,ifs,0⟩] sc pos) 0 (.ref it) acc { cenv with scope:=relabel sc X.env }) (RR acc cenv.locals) s₄) E s₃) E s2:=by
 unfold qB7 at ck;simp only[zBj,zC1,zBg] at ck;obtain⟨⟨⟨hkind,G⟩,Q⟩,S⟩:=ck;have hcell:∀ y∈sc.names,y.2≠.cell:=λ y U e=>by
   have:=(Q y U).1.1
   rw[e] at this;exact absurd this (by decide)
 have hfree:∀ y∈sc.names,y.2=.free->(X.env.kindOf y.1=some .cell∨X.env.kindOf y.1=some .free):=λ y U e=>by
   have:=(Q y U).2
   rw[e] at this;show X.env.scope.names.lookup y.1=some .cell∨X.env.scope.names.lookup y.1=some .free;simpa using this
 have clsub:∀ x c,(El X.env sc.names []).lookup x=some c->X.env.cells.lookup x=some c:=λ x c e=>by
   rcases qai9 _ _ x c (PySem.mem_of_lookup e) with h | ⟨h,q⟩
   . simp at h
   obtain⟨d,M⟩:=I2.ok.has x (hfree _ h rfl);rw[M] at q;rw[M,q];rfl
 refine wpAny_newObj_type (wpAny_newFunctionEnv hcell (by intro y U;simp at U) (λ h₁ hns₁ hsb₁=>?_) hkind);dsimp only at hns₁ hsb₁ ⊢;have I3:=I2.lnew (ys:=[]) (its:=[]) (t':=s2.toks) .nil (zBh _);have hD:H2 s2.heap.objs.size=none:=I2.fresh;generalize t:s2.heap.objs.size=D at hns₁ hsb₁ I3 hD ⊢;generalize V:s2.heap.push { cls:=.type "list",dict:=none,data:=.seq ([]:List Value).toArray }=h3 at hns₁ hsb₁ I3 ⊢;have Z:h3.objs.size=D+1:=by rw[<- V,Heap.size_push,t]
 generalize s:h3.objs.size=C at hns₁ hsb₁ Z ⊢;have I3:Inv X De σ (upd H2 D (.lst [])) { s2 with heap:=h3,toks:=s2.toks }:=I3;have B:∀ b o,h3.get? b=some o->h₁.get? b=some o:=λ b o e=>hsb₁.extBut b o (by rw[<- s];exact zAq (zA9 e)) (zA4 _ e)
 have a0:∀ b o,h3.get? b=some o->b≠C:=λ b o e=>by rw[<- s];exact zAq (zA9 e)
 have a1:X.env.locals≠C:=by rw[<- s];exact zAq I3.lt
 have b0:∀ x c,X.env.cells.lookup x=some c->c≠C:=λ x c e=>by
   obtain⟨v,o,F,_⟩:=I3.cell x c e;exact a0 c o F
 have a2:∀ b∈fp,b≠C:=λ b f=>by
   obtain⟨o,F,_⟩:=T.obj _ _ I b f
   have:=zA9 F
   rw[t] at this;exact zAq (Nat.lt_trans this (by rw[Z];exact Nat.lt_succ_self _))
 have b1:∀ b∈fp,b≠D:=λ b f=>by
   obtain⟨o,F,_⟩:=T.obj _ _ I b f
   have:=zA9 F
   rw[t] at this;exact zAq this
 have a3:∀ b o,s2.heap.get? b=some o->h3.get? b=some o:=λ b o e=>by rw[<- V];exact zA4 _ e
 have pinC:∀ p∈X.pn++De,p.1≠C:=λ p hp=>a0 _ _ (I3.pin p hp).1
 have a4:C∉X.fs:=by rw[<- s];exact I3.nofs (zA3 _)
 have b2:X.s₀.heap.objs.size<=C:=by rw[<- s];exact I3.sz
 have stkC:∀ b∈frs X.stack,b≠C:=λ b f e=>by
   rcases zAo.mp (I3.stkSub b f) with z | z
   . exact a1 (z.symm.trans e)
   exact a4 (e ▸ z)
 have HC:upd H2 D (.lst []) C=none:=I3.hok.fresh (by show h3.objs.size<=C;exact zCb s);have a5:∀ b∈fp,b∉frs X.stack:=λ b f z=>by
   obtain⟨_,h1,h2,_⟩:=f2 b f;rcases zAo.mp (I2.stkSub b z) with q | q
   . exact h1 q
   exact h2 q
 let Y:Cx:=qj2 X NY sc C { s2 with heap:=h3 } (upd H2 D (.lst [])) fp
 have a6:(Dg σ src).length=NY.length:=by unfold Dg;rw[zA7];exact G
 have IY:Inv Y [] (Dg σ src) (upd H2 D (.lst [])) { s2 with heap:=h₁,toks:=s2.toks+0 }:=by
   refine⟨⟨I2.ok.mod,hkind,I2.ok.glob,I2.ok.blt,(by show h3.objs.size<=C;exact zCb s),λ x y c h1 h2=>I2.ok.inj x y c (clsub x c h1) (clsub y c h2),λ x hx=>?_,λ _ _ z _=>(zAk z).elim,I2.ok.hd,I2.ok.frames,.inl rfl,λ b f=>⟨a2 b f,λ x c e=>(f2 b f).2.2.2.2.1 x c (clsub x c e)⟩,
     λ b o e=>?_,?_,λ b o e f=>?_,λ b f=>a5 b f,?_,λ b f=>?_⟩,rfl,I2.bare,Un.kept B,⟨_,hns₁,λ i x v e1 e2 e3=>?_⟩,λ x c e=>?_,HC,λ x c e=>I3.freeC x c (clsub x c e),λ p hp=>absurd (show p∈([]:List (Addr×Obj)) from hp) (by simp),I3.hok.kept B,a6⟩
   . have hx:=qs1 hcell hx
     exact qA7 (qS1 _ _ _ (PySem.mem_of_lookup hx))
   . exact I3.bs b o e
   . exact zAr I2.ok.bsz (zAr (zAr I2.sz (by rw[t];exact zA3 _)) (by show D<=h3.objs.size;lia))
   . rcases (f2 b f).2.2.2.1 with z | z
     . exact I2.ok.noex b o e z
     exact absurd (zAi (zA9 (I2.ok.bs b o e).1) z) (zBx _)
   . exact I3.stack
   . exact I3.stkFree b f
   . -- a captured name
     have hi:i < src.length:=by
       have:=(zA2.mp e2).1
       rw[a6,<- G] at this;exact this
     have e1:NY[i]? = some x:=e1;have es:src[i]? = some src[i]:=by simp[hi]
     have ep:(Dg σ src)[i]? = some (match src[i] with | none=>none | some j=>(σ[j]?).getD none):=by
       unfold Dg;rw[zB2,es];rfl
     rw[ep] at e2;cases hj:src[i] with
     | none=>rw[hj] at e2;cases e2
     | some j =>
       rw[hj] at e2;have e2:(σ[j]?).getD none=some v:=Option.some.inj e2;have ej:σ[j]? = some (some v):=by
         cases q:σ[j]? with
         | none=>rw[q] at e2;cases e2
         | some o=>rw[q] at e2;rw[show o=some v from e2]
       have hm:(x,some j)∈NY.zip src:=by
         have:(NY.zip src)[i]? = some (x,some j):=by
           rw[List.getElem?_zip_eq_some];exact⟨e1,by rw[es,hj]⟩
         exact zAy this
       have q:=S _ hm;simp only[zBj,zC1] at q;obtain⟨qN,qf⟩:=q;have H:=hfree _ (PySem.mem_of_lookup qf) rfl;obtain⟨m,hn,hl⟩:=I3.loc;obtain⟨u,r,l⟩:=hl j x v qN ej (H.elim (λ z=>.inr (.inl z)) λ z=>.inr (.inr z));refine⟨u,r,.inr ⟨qh8 qf,?_⟩⟩;rcases l with⟨z,_⟩ | ⟨_,c,ec,o,F,M⟩
       . have H:X.env.kindOf x=some .cell∨X.env.kindOf x=some .free:=H
         rw[z] at H;rcases H with H | H<;>cases H
       obtain⟨c',a7⟩:=qA7 (qS1 (env:=X.env) sc.names [] x (PySem.mem_of_lookup qf))
       have:=clsub x c' a7
       rw[ec] at this;cases this;exact⟨c,a7,o,B c o F,M⟩
   obtain⟨v,o,F,M⟩:=I3.cell x c (clsub x c e);exact⟨v,o,B c o F,M⟩
 have st₁:tn 0 h₁:=T.keep _ _ _ I λ b f o e=>B b o (a3 b o e)
 have stat:∀{H':Hp},(∀ b∈fp,H' b=none)->∀ b∈fp,Fn Y [] H' b:=λ hn b f=>by
   refine⟨hn b f,a2 b f,a5 b f,.inl f,λ x c e=>(f2 b f).2.2.2.2.1 x c (clsub x c e),λ p hp=>absurd (show p∈([]:List (Addr×Obj)) from hp) (by simp)⟩
 have loop:codeAny (model X.prog X.w) X.A (.compLoop (.ListComp elt [⟨tg,iter,ifs,0⟩] sc pos) 0 (.ref it) (.ref D) Y.env) (RR (.ref D) C) { s2 with heap:=h₁,toks:=s2.toks+0 }:=by
   obtain⟨W,⟨m0,w0⟩,turn⟩:=rd D hD;refine qq7 (λ n s'=>∃ i σ' H',Inv Y [] σ' H' s'/\tn i s'.heap/\(∀ b∈fp,H' b=none)/\W i n σ' H') ?_ m0 ⟨0,_,_,IY,st₁,λ b f=>by rw[qd0 (b1 b f)];exact(f2 b f).1,w0⟩;rintro n s3 ⟨i,σ3,H3,J3,a8,a9,w3⟩;rcases turn i n σ3 H3 w3 with⟨stop,qn⟩ | ⟨go,N,hN,step⟩
   . refine thn (T.done Y rfl rfl rfl hc i [] s3 σ3 H3 _ J3 (stat a9) a8 stop) λ r s4 k=>?_
     obtain⟨hr,J4⟩:=k;subst hr;have b3:H3 C=none:=J4.free;refine fin D C H3 s4 ?_ qn b3 b2 (Ne.symm a1) b0 pinC a4 (let ⟨m,hn,_⟩:=J4.loc;⟨m,hn⟩);refine I2.call' (ch:=fp) J4.os ?_ J4.hok J4.bare λ b f=>?_
     . have u1:Un (frs X.stack) fp H2 (upd H2 D (.lst [])) s2.heap h3:=Un.laid a3 (zCb t) hD
       exact u1.trans J4.base
     obtain⟨_,h1,_,b4,h4,h5⟩:=f2 b f;exact⟨b4,h1,h4,h5⟩
   refine thn (T.item Y rfl rfl rfl hc i [] s3 σ3 H3 _ J3 (stat a9) a8 go) λ r s4 k=>?_
   obtain⟨u,hr,h4⟩:=k;subst hr;refine thn h4 λ _ s5 k=>?_
   obtain⟨x,H5,J5,r5,y5,L,b5⟩:=k;have J5':=J5.pinned (stat b5) (T.obj _ _ L);have again:∀{σ7:St}{H7:Hp}{O:Shared},Inv Y ([]++Hr fp s5.heap) σ7 H7 O->N σ7 H7->∃ m,m < n/\∃ i σ' H',Inv Y [] σ' H' O/\tn i O.heap/\(∀ b∈fp,H' b=none)/\W i m σ' H':=λ{σ7 H7 O} I7 n7=>by
     obtain⟨m',hm,w7⟩:=hN σ7 H7 n7;refine⟨m',hm,i+1,σ7,H7,I7.unpinned,T.keep _ _ _ L λ b f o e=>(I7.pin (b,o) (zAw _ (zAw _ (qr9 f e)))).1,λ b f=>?_,w7⟩;obtain⟨o,e,d⟩:=T.obj _ _ L b f;exact(I7.pin (b,o) (zAw _ (zAw _ (qr9 f e)))).2.1
   refine thn (hg C _ _ _ s5 σ3 H5 x u _ J5' r5 (step x H5 y5)) λ _ s6 k=>?_
   obtain⟨σ6,H6,J6,q6⟩:=k;refine thn (hf C _ _ _ s6 σ6 H6 _ J6 q6) λ ok O k=>?_
   obtain⟨H7,J7,q7⟩:=k;cases ok with
   | false=>exact again J7 (by simpa using q7)
   | true =>
     rw[if_pos rfl] at q7 ⊢;refine thn (he C _ _ _ O σ6 H7 _ J7 q7) λ y s8 k=>?_
     obtain⟨v,H8,J8,r8,xs,b6,b7,q8⟩:=k;refine thn (qf6 (X:=Y) _ s8 σ6 H8 (.ref D) [v] (.ref D) [y] (λ _ H'=>N σ6 H') J8 rfl (.cons r8 .nil) ⟨D,xs,v,rfl,rfl,b6,b7,q8⟩) λ _ s9 k=>?_
     obtain⟨_,H9,J9,_,q9⟩:=k;exact again J9 q9
 exact codeAny_compStart_list loop (T.self _ 0 _ _ _ st₁ loop)
end
def Ed(wi:TI)(src:List (Option Nat))(g:TG)(tf:TT)(te:TE):TE:=λ σ H Q=>wi σ H λ J H1=>∀ D,H1 D=none->qI7 J g tf te D (λ H'=>Q (.ref D) H') (Dg σ src) (upd H1 D (.lst []))
section
variable{X:Cx}{elt tg iter:Expr}{ifs:List Expr}{sc:Scope}{pos:Pos}{NY:List Str}{src:List (Option Nat)}{wi:TI}{g:TG}{tf:TT}{te:TE}
theorem qM3(b:qB7 X NY src sc=true):sc.kind=.function/\(∀ y∈sc.names,y.2=.local->sc.names.lookup y.1=some .local)/\(∀ y∈sc.names,y.2=.free->(X.env.kindOf y.1=some .cell∨X.env.kindOf y.1=some .free)):=by
 unfold qB7 at b;simp only[zBj,zC1,zBg] at b;obtain⟨⟨⟨hkind,d⟩,a⟩,f⟩:=b;refine⟨hkind,λ y c e=>?_,λ y c e=>?_⟩
 . have:=(a y c).1.2
   rw[e] at this;simpa using this
 have:=(a y c).2
 rw[e] at this;show X.env.scope.names.lookup y.1=some .cell∨X.env.scope.names.lookup y.1=some .free;simpa using this
theorem qJ7(NY:List Str)(src:List (Option Nat))(hi:PI X tg iter wi)(n:∀ C a H0 ex,PG (qj2 X NY sc C a H0 ex) tg g)(p:∀ C a H0 ex,PFs (qj2 X NY sc C a H0 ex) ifs tf)(r:∀ C a H0 ex,PE (qj2 X NY sc C a H0 ex) elt te)(t:X.calm=true:=by rfl)(l:qB7 X NY src sc=true:=by rfl)(u:∀ x,foldedSetIterable iter X.env x=pure x:=by intro _;rfl):PE X (.ListComp elt [⟨tg,iter,ifs,0⟩] sc pos) (Ed wi src g tf te):=by
 intro De s σ H Q I h;obtain⟨hkind,hnames,hfree⟩:=qM3 l;rw[eval_ListComp];refine wpAny_comprehension_free (use:=none) rfl u (qM4 λ x y e=>I.ok.has x.1 (hfree x y e)) hkind hnames ?_;refine thn (hi De s σ H _ I h) λ v O c=>thn c λ z P d=>?_
 obtain⟨B,f,S,J,H2,rfl,I2,T,i,f2,E⟩:=d;refine qW6 (R:=λ D H'=>Q (.ref D) H') (RR:=λ j C=>compPost (model X.prog X.w) X.A X.xe none (EP X De σ Q) j C) l t I2 T i f2 (λ C a H0=>n C a H0 f) (λ C a H0=>p C a H0 f) (λ C a H0=>r C a H0 f) E ?_;intro D C H' F I' q G c d K L U ⟨m,M⟩;refine⟨m,M,λ V k=>⟨.ref D,H',?_,rfl,q⟩⟩;exact I'.turned (t':=F.toks) (it:=C) (λ b o N e=>k.extBut b o N e) G d (.inr c) K L
theorem qaG5(i:Nat){px spos:Pos}(NY:List Str)(src:List (Option Nat))(L:X.N.Nodup)(hi:PI X tg iter wi)(M:∀ C a H0 ex,PG (qj2 X NY sc C a H0 ex) tg g)(O:∀ C a H0 ex,PFs (qj2 X NY sc C a H0 ex) ifs tf)(P:∀ C a H0 ex,PE (qj2 X NY sc C a H0 ex) elt te)(k:X.N[i]? = some x:=by rfl)(l:Loc X.env.scope x:=by first | exact Or.inl rfl | exact Or.inr rfl)(S:X.calm=true:=by rfl)(F:qB7 X NY src sc=true:=by rfl)(n:swapsWith (.ListComp elt [⟨tg,iter,ifs,0⟩] sc pos) (some (.Name x px)) spos.line X.env=pure true:=by rfl)(U:∀ x,foldedSetIterable iter X.env x=pure x:=by intro _;rfl)(r:X.fn x=true∨X.env.scope.names.lookup x=some .local:=by first | exact .inl rfl | exact .inr rfl | assumption):PS X (.Assign [.Name x px] (.ListComp elt [⟨tg,iter,ifs,0⟩] sc pos) spos) (Ha (Ed wi src g tf te) (Ev i)):=by
 intro De s σ H D I h;obtain⟨hkind,hnames,hfree⟩:=qM3 F;rw[exec_Assign_Name_used _ _ _ _ n];refine wpAny_bind (wpAny_standAt (wpAny_bind ?_));show wpAny _ _ (do let _ <- comprehension (.ListComp elt [⟨tg,iter,ifs,0⟩] sc pos) sc X.env _ (newList []) false (eval iter X.env) (some (assign (.Name x px) X.env))) _ _ s;refine wpAny_bind (wpAny_mono (wpAny_comprehension_free (use:=some (assign (.Name x px) X.env)) (Q:=λ _ c=>SP X De D .next c) rfl U (qM4 λ x l e=>I.ok.has x.1 (hfree x l e)) hkind hnames ?_) (λ _ c V=>wpAny_pure (wpAny_pure V)) λ _ _ e=>e);refine thn (hi De s σ H _ I h) λ v s1 t=>thn t λ W s2 j=>?_
 obtain⟨Y,u,tn,J,H2,rfl,I2,T,y,f2,Z⟩:=j;refine qW6 (R:=λ D' H'=>Ev i (.ref D') σ H' D.nx) (RR:=λ B C=>compPost (model X.prog X.w) X.A X.xe (some (assign (.Name x px) X.env)) (λ _ c=>SP X De D .next c) B C) F S I2 T y f2 (λ C a H0=>M C a H0 u) (λ C a H0=>O C a H0 u) (λ C a H0=>P C a H0 u) Z ?_;intro D' C H' c I' q G t j h3 h4 h5 ⟨m,hn⟩;obtain⟨o,es,ep,ho,K,hr⟩:=hn;have Ip:Inv X (De++[(C,o)]) σ H' c:=I'.pins_of λ p hp=>(zAa.mp hp).elim (λ z=>I'.pin p (zAw _ z)) λ z=>by
   have e:p=(C,o):=by simpa using z
   subst e;exact⟨ho,G,j,h5,λ v e=>by rw[K] at e;cases e⟩
 show wpAny _ _ (assign (.Name x px) X.env (.ref D')) _ _ _;refine wpAny_assign_Name (qN9 (v:=.ref D') Ip L k l rfl (λ d I''=>?_) r);have f:d.heap.get? C=some o:=(I''.pin (C,o) (by simp)).1;refine⟨m,⟨o,es,ep,f,K,hr⟩,λ h' E=>⟨_,H',?_,q⟩⟩;exact I''.unpinned.turned (t':=d.toks) (it:=C) (λ b o hb e=>E.extBut b o hb e) G j (.inr t) h3 h4
end
theorem qW5{K:PySem.W.Frag}{D:Addr}{g:TG}{tf:TT}{te:TE}{R:Hp->Prop}{σ:St}(Pv:Nat->St->Hp->Prop)(c:Pv 0 σ H)(d:∀ i σ H,i<=xs.length->Pv i σ H->SqL K H a xs)(f:∀ i x σ H,xs[i]? = some x->Pv i σ H->g x σ H λ σ2 H2=>tf σ2 H2 λ h H3=>if h=true then te σ2 H3 λ v H4=>∃ ys,H4 D=some (.lst ys)/\ys.length < sizeLine/\Pv (i+1) σ2 (upd H4 D (.lst (ys++[v]))) else Pv (i+1) σ2 H3)(j:∀ σ H,Pv xs.length σ H->R H) :
   qI7 (Itl K a) g tf te D R σ H:=by
 refine⟨λ i m σ H=>m=xs.length - i/\i<=xs.length/\Pv i σ H,⟨xs.length,by simp,zBh _,c⟩,?_⟩;rintro i m σ H ⟨rfl,k,p⟩;have q:=d i σ H k p;by_cases b:i < xs.length
 . refine .inr ⟨⟨xs,xs[i],q,by simp[b]⟩,Pv (i+1),λ σ' H' l=>⟨xs.length - (i+1),by lia,rfl,b,l⟩,λ x H' y=>?_⟩
   obtain⟨e,y⟩:=y;subst e;exact f i x σ _ (y xs q) p
 have e:i=xs.length:=by lia
 subst e;exact .inl ⟨⟨xs,q,zA3 _⟩,j σ H p⟩
section
variable{X:Cx}
theorem sset(i:Nat){te:TE}{pos pos':Pos}(a:X.N.Nodup)(b:PE X e te)(hi:X.N[i]? = some x:=by rfl)(c:Loc X.env.scope x:=by first | exact Or.inl rfl | exact Or.inr rfl)(d:swapsWith e (some (.Name x pos')) pos.line X.env=pure false:=by rfl)(f:X.fn x=true∨X.env.scope.names.lookup x=some .local:=by first | exact .inl rfl | exact .inr rfl | assumption):PS X (.Assign [.Name x pos'] e pos) (Ha te (Ev i)):=qaG2 a hi c b d f
theorem gnm(i:Nat){pos:Pos}(a:X.N.Nodup)(hi:X.N[i]? = some x:=by rfl)(b:Loc X.env.scope x:=by first | exact Or.inl rfl | exact Or.inr rfl)(c:X.fn x=true∨X.env.scope.names.lookup x=some .local:=by first | exact .inl rfl | exact .inr rfl | assumption):PG X (.Name x pos) (Ev i):=qas5 a hi b c
def CDivB(_ j:Int):Prop:=0 < j/\j < 2 ^ 200
theorem qP9:OpR X (binaryOp .FloorDiv) (rI CDivB λ i j=>.int (i / j)):=opI λ i j _ _ _ _ _ a q=>by
 have c:(0:Int) < j:=a.1;have d:j < 2 ^ 200:=a.2;refine floordiv_int (by lia) (by rw[Int.fdiv_eq_ediv_of_nonneg i (by lia)];exact q) (.inl (PyProof.noPylong_of_log2 ?_));have b:j.natAbs < 2 ^ 200:=by lia
 have e:j.natAbs.log2 < 200:=(Nat.log2_lt (by lia)).mpr b;lia
theorem qaH4{j:Int}(k:Int){a b:Nat}{q pos:Pos}(c:i ^ j.toNat=k:=by decide)(d:0<=j:=by decide)(h1:j<=1000000:=by decide)(h2:i.natAbs < 2 ^ 64:=by decide):PE X (.BinOp (.Constant (.int i) a p) .Pow (.Constant (.int j) b q) pos) (tC (.int k)):=by
 intro De s σ H Q I h;refine(pe_op qaR0 qP8 qP8) De s σ H Q I ⟨_,_,rfl,rfl,⟨d,h1,h2⟩,?_⟩;show Q (.int (i ^ j.toNat)) H;rw[c];exact h
theorem qaR4:OpR X (compareOp .Is) (λ x y H Q=>∃ b c,x=.bl b/\y=.bl c/\Q (.bl (b == c)) H):=by
 intro De s σ H x y v u Q I a d h;obtain⟨b,c,rfl,rfl,q⟩:=h;cases a;cases d;exact is_bool ⟨.bl _,H,I,rfl,q⟩
noncomputable def B6(H:Hp):V->Option String
 | .non=>some "NoneType" | .bl _=>some "bool" | .int _=>some "int" | .str _=>some "str"
 | .ref a=>match H a with
   | some (.lst _)=>some "list" | some (.tup _)=>some "tuple" | some (.dK _)=>some "dict" | some (.frz _ (.lst _))=>some "list"
   | _=>none
 | _=>none
noncomputable def subT(t n:String):Bool:=t == n||(t == "bool" && n == "int")
theorem qaK5(K:PySem.W.Frag){t n:String}(a:t∈["NoneType", "bool", "int", "str", "list", "tuple", "dict"])(b:n∈["bool", "int", "str", "list", "tuple", "dict"]):PySem.W.kitOne K (.type t) (.type n)=some (subT t n):=by
 simp only[zAo,zC6,or_false] at a b;rcases a with rfl | rfl | rfl | rfl | rfl | rfl | rfl<;>rcases b with rfl | rfl | rfl | rfl | rfl | rfl<;>rfl
theorem qag8{K:PySem.W.Frag}{x:V}{t:String}(h:B6 H x=some t):Dy K H x (.type t)/\t∈["NoneType", "bool", "int", "str", "list", "tuple", "dict"]:=by
 cases x with
 | non=>cases h;exact⟨.non,by decide⟩
 | bl b=>cases h;exact⟨.bl b,by decide⟩
 | int b=>cases h;exact⟨.int b,by decide⟩
 | str b=>cases h;exact⟨.str b,by decide⟩
 | byt b=>cases h
 | flt b=>cases h
 | ty b=>cases h
 | ref a =>
   unfold B6 at h;dsimp only at h;split at h
   . cases h;exact⟨.lst (by assumption),by decide⟩
   . cases h;exact⟨.tup (by assumption),by decide⟩
   . cases h;exact⟨.dK (by assumption),by decide⟩
   . cases h;exact⟨.frz (by assumption),by decide⟩
   cases h
def rIsi:List V->Hp->VK->Prop:=λ xs H Q=>∃ x n t,xs=[x,.ty n]/\B6 H x=some t/\n∈["bool", "int", "str", "list", "tuple", "dict"]/\Q (.bl (subT t n)) H
theorem qq8:CallR X (.builtin "isinstance") rIsi:=by
 intro De s σ H i j Q I r h;obtain⟨x,n,t,rfl,b,c,q⟩:=h;obtain⟨u,k,rfl,d,a⟩:=Hs r;cases a;obtain⟨e,f⟩:=qag8 (K:=X.K) b;exact qH9 I d e (qaK5 X.K f c) λ g=>⟨.bl _,H,I.tok g,rfl,q⟩
theorem qaQ4(n:String){pos:Pos}(hm:X.mg x=none)(a:Gl X x:=by rfl)(b:bootBuiltins x=some (.type n):=by rfl)(c:x ≠ "__name__" := by decide)(d:(x == ("__debug__" : Str))=false:=by decide):PE X (.Name x pos) (tC (.ty n)):=qaH9 a hm b rfl c d
theorem qaH6{n:Int}{t:Tok}{pos:Pos}(hm:X.mg x=some (.int n t))(a:Gl X x:=by rfl)(b:(x == ("__debug__" : Str))=false:=by decide):PE X (.Name x pos) (tC (.int n)):=qas7 a hm ⟨t,rfl⟩ b
theorem cbi{id:String}{r:List V->Hp->VK->Prop}{pos:Pos}(c:CallR X (.builtin id) r)(hm:X.mg x=none)(d:PA X (e::es) t)(f:Gl X x:=by rfl)(g:bootBuiltins x=some (.builtin id):=by rfl)(h:x ≠ "__name__" := by decide)(a:(x == ("__debug__" : Str))=false:=by decide)(i:starEach (e::es) X.env=(false,eval e X.env)::starEach es X.env:=by rfl)(b:(backTo pos (starEach es X.env)).any (·.1)=false:=by rfl):PE X (.Call (.Name x p) (e::es) [] pos) (tCB r t):=qay3 c f hm g d h a i b
theorem cty{id:String}{r:List V->Hp->VK->Prop}{pos:Pos}(c:CallR X (.type id) r)(hm:X.mg x=none)(d:PA X (e::es) t)(f:Gl X x:=by rfl)(g:bootBuiltins x=some (.type id):=by rfl)(h:x ≠ "__name__" := by decide)(a:(x == ("__debug__" : Str))=false:=by decide)(i:starEach (e::es) X.env=(false,eval e X.env)::starEach es X.env:=by rfl)(b:(backTo pos (starEach es X.env)).any (·.1)=false:=by rfl):PE X (.Call (.Name x p) (e::es) [] pos) (tCB r t):=qam8 c f hm g d h a i b
end
def rGetL:V->V->Hp->VK->Prop:=λ o i H Q=>∃ p xs k v,o=.ref p/\i=.int k/\H p=some (.lst xs)/\0<=k/\xs[k.toNat]? = some v/\Q v H
theorem qaB6{X:Cx}:PGet X rGetL:=by
 intro De s σ H o i w y Q I c d h;obtain⟨p,z,k,v,rfl,rfl,e,f,b,q⟩:=h;cases c;obtain⟨t,rfl⟩:=d;obtain⟨a,n,r,g,A⟩:=I.lst e;obtain⟨u,j,l⟩:=r.get b;have m:=(zA2.mp b).1;have B:=qQ8;refine wpAny_getItem_list (items:=a.toArray) (x:=u) ⟨_,g,rfl,n,rfl⟩ f (by lia) (by simpa using j) ⟨v,H,I,l,q⟩
theorem qaV8{xs:List α}(b:0<=i)(h1:i < xs.length):∃ v,xs[i.toNat]? = some v/\atI xs i=some v:=by
 have a:i.toNat < xs.length:=by lia
 have e:(i.toNat:Int)=i:=by lia
 refine⟨xs[i.toNat],by simp[a],?_⟩
 have:=qX4 (xs:=xs) (j:=i.toNat) (v:=xs[i.toNat]) (by simp[a])
 rw[e] at this;exact this
theorem qX5{xs:List α}(a:0<=i)(h1:i < xs.length):∃ v,v∈xs/\atI xs i=some v:=by
 obtain⟨v,h,e⟩:=qaV8 a h1;exact⟨v,zAy h,e⟩
theorem qag6(h:H a=some (.lst xs)):B6 H (.ref a)=some "list" := by
 unfold B6;dsimp only;rw[h]
theorem qaA8(h:H a=some (.tup xs)):B6 H (.ref a)=some "tuple" := by
 unfold B6;dsimp only;rw[h]
theorem qat3{xs:List (Key×V)}(h:H a=some (.dK xs)):B6 H (.ref a)=some "dict" := by
 unfold B6;dsimp only;rw[h]
theorem Same.new{q:Addr}{u:HO}(h:H q=none):Same H (upd H q u):=λ b o e=>by rw[qd0 (qe6 e h)];exact e
structure Df(K:PySem.W.Frag)(mg:Str->Option Value)(x qual:Str)(st:Stmt)(f:Addr)(fd:FuncData)(ps:List Str):Prop where
 F:Fun K x qual st f fd
 b:Binds K fd ps []
 m:mg x=some (.ref f)
theorem dfmk{K:PySem.W.Frag}{mg:Str->Option Value}{qual:Str}{st:Stmt}{f:Addr}{ps:List Str}{oc:Value}{j d:Option Addr}{i:Array (Option Value)}{kV b e a g:Value}(l:K.lookup f=some ⟨oc,j,.func (PySem.W.fnOf x qual (qf1 st) (qc9 st) (qa3 st) .none kV b e d a g),i⟩)(c:PySem.W.codeIn K a qual=true)(k:PySem.W.keepIn K (.ref f)=true)(m:mg x=some (.ref f))(h:∀(kV b e:Value)(d:Option Addr)(a g:Value)(us:List Value),us.length=ps.length->bindArgs (PySem.W.fnOf x qual (qf1 st) (qc9 st) (qa3 st) .none kV b e d a g) ⟨us,[]⟩=pure (ps.zip us)) :
   Df K mg x qual st f (PySem.W.fnOf x qual (qf1 st) (qc9 st) (qa3 st) .none kV b e d a g) ps:=⟨qao6 l c k,(qao6 l c k).binds h,m⟩
theorem callD{X:Cx}{qual:Str}{st:Stmt}{f:Addr}{fd:FuncData}{ps:List Str}{k:Nat}{sp:Sp}{pos:Pos}(D:Df X.K X.mg x qual st f fd ps)(G:Bz X.prog X.w X.K X.mg X.base CX0 k f fd ps sp)(d:Room k X.A)(g:PA X (e::es) t)(h:Gl X x:=by rfl)(a:(x == ("__debug__" : Str))=false:=by decide)(i:starEach (e::es) X.env=(false,eval e X.env)::starEach es X.env:=by rfl)(c:(backTo pos (starEach es X.env)).any (·.1)=false:=by rfl):PE X (.Call (.Name x p) (e::es) [] pos) (Ht sp [] E0 t) :=
 qas8 G d h D.m D.F.kp D.b .nil pass0 g a i c
end L2
namespace LB
open PySem PySem.Spec PyProof.Rows
theorem qQ7:typeLookup (.type "list") "keys" = pure none:=by rw[typeLookup_type,builtinLookup_eq_fast];kernel_rfl
theorem qD3:typeLookup (.type "list") "__getattr__" = pure none:=by rw[typeLookup_type,builtinLookup_eq_fast];kernel_rfl
section
variable{prog:Program}{w:World}{A:Around}{E:Value->Shared->Prop}{h:Heap}{g:Array GenState}{d:Drawn}{t:Nat}{os:OsState}{a:Addr}{its:Array Value}{n:Nat}
theorem qD4{b:Tok}{Q:PySem.Fin->Shared->Prop}(c:h.get? a=some { cls:=.type "list",data:=.seq its n })(f:A.handled=none)(i:∀ h' b e,Heap.NewAttrErr h h' e (.ref a) "keys" -> E (.ref e) ⟨h',g,d,b,os⟩) :
   wpAny (model prog w) A (Builtin.«object.__getattribute__» ⟨[.ref a,.str "keys" b],[]⟩) Q E ⟨h,g,d,t,os⟩:=by
 have j:(⟨h,g,d,t,os⟩:Shared).TypeIs (.ref a) "list" := ⟨_,c,rfl⟩
 have k:=qQ7
 repeat (any_goals (first | assumption | wp_step))
 refine wpAny_raiseAttrError f ?_ (attrMsg_fits (by decide +kernel) (by decide +kernel));exact i
theorem qH8{Q:Option Value->Shared->Prop}(i:h.get? a=some { cls:=.type "list",data:=.seq its n })(k:A.handled=none)(l:∀ h' f,(∀ b o,h.get? b=some o->h'.get? b=some o)->Q none ⟨h',g,d,f,os⟩) :
   wpAny (model prog w) A (getAttr? (.ref a) "keys") Q E ⟨h,g,d,t,os⟩:=by
 have j:∀ f,(⟨h,g,d,f,os⟩:Shared).TypeIs (.ref a) "list" := λ _=>⟨_,i,rfl⟩
 have m:=j t;have f1:=sub_AttributeError;have f2:=F.slot_list_getattribute.lookup;have f3:=F.slot_list_getattribute.bind (.ref a);have p:=qD3;unfold getAttr? getAttrBy? getAttrBy
 repeat (any_goals (first | assumption | wp_step))
 refine codeAny_call_builtin F.slot_list_getattribute.plain F.entry_list_ga (F.slot_list_getattribute.check _ _ _ _ _ _ _ _ (j _) (F.args_list_getattribute_2 _ _) (qD4 i k λ h' f e c=>?_));obtain⟨q,r,s⟩:=c.there;show wpAny _ _ (getattributeRaised _ _ _ _ _ _ _) _ _ _;unfold getattributeRaised
 repeat (any_goals (first | assumption | wp_step))
 exact l _ _ c.keeps
end
theorem qo5:entryFor table "dict.update.loop" = some Builtin.«dict.update.loop»:=entryFor_of_tree (by kernel_rfl)
theorem qf5:plainId "dict.update.loop" = true:=by decide +kernel
section
variable{prog:Program}{w:World}{K:Type}[DecidableEq K]{knd:KeyKind prog w K}{A:Around}{R:Result->Shared->Prop}
theorem qap8(X:A.handled=none){I ax d:Addr}{items:Array Value}(z:ax≠I)(g:d≠I)(B:ax≠d):∀(rest:List (K×Value))(i:Nat)(v:Int)(kvs:List (K×Value))(s:Shared),
   (∀(j:Nat) a,rest[j]? = some a->∃ t key,items[i+j]? = some (.ref t)/\IsTup s.heap t #[key,a.2]/\knd.is a.1 key=true/\t≠I/\t≠d)->items.size=i+rest.length ->
   s.heap.IsListIter I ax i->s.heap.IsList ax items->s.heap.DictOf knd d kvs->kvs.length+rest.length<=sizeLine ->
   (∀ h' C,h'.DictOf knd d (rest.foldl (λ acc a=>stored acc a.1 a.2) kvs)->(∀ b o,b≠I->b≠d->s.heap.get? b=some o->h'.get? b=some o)->R (.ok (.ret .none)) { s with heap:=h',toks:=C }) ->
   codeAny (model prog w) A (.builtin "dict.update.loop" ⟨[.ref d,.ref I,rawInt v,.none],[]⟩) R s:=by
 intro rest
 induction rest with
 | nil =>
   intro i v kvs s D f h x E Q F;refine codeAny_builtin qo5 ?_;rw[Around.under_plainId qf5 _];show wpAny _ A.in1 (pyNext (.ref I) >>= _) _ _ s;refine wpAny_bind (wpAny_pyNext_list_end X h x (by simp at f;simp[f]) λ h' S=>?_);show wpAny _ _ (Builtin.Dict.addKeywords d [] >>= _) _ _ _;refine wpAny_bind (wpAny_pure (wpAny_pure ?_));have k:h'.DictOf knd d kvs:=by
     obtain⟨o,G,H,l,r⟩:=E;exact⟨o,G,H,S d o g l,r⟩
   exact F h' s.toks k λ b o y _ e=>S b o y e
 | cons a rest Y =>
   intro i v kvs s D f h x E Q F;obtain⟨t,key,Z,h2,h3,h4,h5⟩:=D 0 a rfl;refine codeAny_builtin qo5 ?_;rw[Around.under_plainId qf5 _];show wpAny _ A.in1 (pyNext (.ref I) >>= _) _ _ s;refine wpAny_bind (wpAny_pyNext_list_item h x Z λ h' m p=>?_);have J:IsTup h' t #[key,a.2]:=h2.extBut p.extBut h4;obtain⟨o,l,L,n,M⟩:=J;refine wpAny_bind (wpAny_holding ?_);refine wpAny_bind (wpAny_tryCatch ?_);unfold Builtin.Dict.pairItems;refine wpAny_bind (wpAny_typeOf (T := "tuple") ⟨o,l,L⟩ ?_);rw[if_pos (by decide)];refine wpAny_bind (wpAny_seqItems l M (wpAny_pure ?_));dsimp only[Option.getD];have k:h'.DictOf knd d kvs:=by
     obtain⟨o,G,H,l,r⟩:=E;exact⟨o,G,H,p.extBut d o g l,r⟩
   simp only[zAp] at Q f;show wpAny _ _ (holding [key,a.2] (dictSet d key a.2)) _ _ _;refine wpAny_holding (wpAny_dictSet_pairs (hsz:=by lia) h3 k λ a0 q c=>?_);refine wpAny_pure ⟨plainId_quiet qf5 _,?_⟩;have U:(stored kvs a.1 a.2).length<=kvs.length+1:=by
     unfold stored;split
     . rw[zA7];lia
     rw[zAf];simp
   refine Y (i+1) (v+1) (stored kvs a.1 a.2) _ (λ j N hj=>?_) (by lia) ?_ ?_ q (by lia) λ O C P k3=>?_
   . obtain⟨t',key',g1,g2,g3,V,W⟩:=D (j+1) N hj
     exact⟨t',key',by rw[show i+1+j=i+(j+1) by lia];exact g1,(g2.extBut p.extBut V).extBut c.extBut W,g3,V,W⟩
   . exact m.at λ o e=>c.extBut I o (Ne.symm g) e
   . exact(x.at λ o e=>p.extBut ax o z e).at λ o e=>c.extBut ax o B e
   exact F O C P λ b o y u e=>k3 b o y u (c.extBut b o u (p.extBut b o y e))
end
end LB
namespace L2
open PySem PySem.Spec PyProof.Rows
section
variable{X:Cx}
theorem KV.fold:∀{more:List (Key×V)}{a:List (Key×Value)}{kvs:List (Key×V)}{vs:List (Key×Value)},KV more a->KV kvs vs->KV (qD2 kvs more) (a.foldl (λ acc b=>stored acc b.1 b.2) vs):=by
 intro more a kvs vs r;unfold KV at r
 induction r generalizing kvs vs with
 | nil=>intro q;exact q
 | @cons p q _ _ h _ ih =>
   intro c;show KV (qD2 (putK kvs p.1 p.2) _) (List.foldl _ (stored vs q.1 q.2) _);refine ih ?_;rw[<- h.1];exact c.put p.1 h.2
def qav2(H:Hp)(ys:List V)(kvs:List (Key×V)):Prop:=Paired (λ y (a:Key×V)=>∃ t,y=.ref t/\H t=some (.tup [kV a.1,a.2])) ys kvs
def qaF5:List V->Hp->VK->Prop:=λ xs H Q=>∃ a ys kvs,xs=[.ref a]/\H a=some (.lst ys)/\qav2 H ys kvs/\∀ p,H p=none->Q (.ref p) (upd H p (.dK (qD2 [] kvs)))
theorem qM5(hc:X.calm=true):CallR X (.type "dict") qaF5:=by
 intro De s σ H xs us Q I r h;obtain⟨a,ys,g,rfl,ha,N,q⟩:=h;obtain⟨u,rfl,ru⟩:=Bm r;cases ru;have hh:=I.ok.hd hc;obtain⟨z,f,n,rv,O,e⟩:=I.lstM ha;obtain⟨x,J,P⟩:∃ x:List (Key×Value),KV g x/\∀(j:Nat) k,x[j]? = some k->∃ t i,f[j]? = some (.ref t)/\IsTup s.heap t #[i,k.2]/\(qf0 X.prog X.w).is k.1 i=true:=by
   clear q e O n ha z
   induction N generalizing f with
   | nil=>exact⟨[],.nil,λ j k C=>by simp at C⟩
   | @cons y k ys g hy _ ih =>
     cases rv with
     | @cons _ u _ us' hu hr =>
       obtain⟨t,rfl,ht⟩:=hy;cases hu;obtain⟨_,its',rt,o,p,R,n,S⟩:=I.hok t _ ht;obtain⟨i,U,rfl,r1,r2⟩:=rt.two;obtain⟨x,J,P⟩:=ih _ hr;refine⟨(k.1,U)::x,.cons ⟨rfl,r2⟩ J,λ j V C=>?_⟩;cases j with
       | zero=>cases C;exact⟨t,i,rfl,⟨o,p,R,n,S⟩,Hw r1⟩
       | succ j=>exact P j V C
 have D:x.length=f.length:=by rw[<- O,<- Paired.length J,<- Paired.length N]
 have big:=I.big;obtain⟨c,gn,dr,W,Y⟩:=s;refine callType_codes (Q₁:=λ E s₁=>E=.ref c.objs.size/\s₁={ heap:=c.push { cls:=.type "dict",data:=.dict #[] },gens:=gn,drawn:=dr,toks:=W,os:=Y }) F.kt_called_dict (F.kt_typeCall_dict_1 _) F.entry_dict_init (kt_code_dict_new _ ⟨rfl,rfl⟩) ?_;rintro E s₁ ⟨rfl,rfl⟩;have l:(c.push { cls:=.type "dict",data:=.dict #[] }).DictOf (qf0 X.prog X.w) c.objs.size []:=Heap.DictOf.new c;have Z:(c.push { cls:=.type "dict",data:=.dict #[] }).get? a=some { cls:=.type "list",data:=.seq f.toArray n }:=zA4 _ e;have G:a < c.objs.size:=zA9 e;refine⟨l.typeIs,F.args_dict_init_2 _ _,?_⟩;unfold Builtin.«dict.__init__»;refine wpAny_bind ?_;unfold Builtin.Dict.selfAndRest;refine wpAny_bind (wpAny_notOrdered_dict l.typeIs ?_);show wpAny _ _ (pure (c.objs.size,[Value.ref a])) _ _ _;refine wpAny_pure ?_;show wpAny _ _ (Builtin.Dict.updateFrom "dict.__init__" c.objs.size (.ref a) [] .none) _ _ _;unfold Builtin.Dict.updateFrom;refine wpAny_bind (wpAny_typeOf (T := "list") ⟨_,Z,rfl⟩ ?_);rw[if_pos (by decide)];refine wpAny_bind (LB.qH8 Z hh λ B a2 K=>?_);rw[if_pos (by rfl)];have e1:B.get? a=some { cls:=.type "list",data:=.seq f.toArray n }:=K _ _ Z;have d1:B.DictOf (qf0 X.prog X.w) c.objs.size []:=by
   obtain⟨o,L,M,p,r⟩:=l;exact⟨o,L,M,K _ _ p,r⟩
 refine wpAny_bind (wpAny_rule ?_);have hlist:B.IsList a f.toArray:=⟨_,e1,rfl,n,rfl⟩
 refine wpAny_bind (wpAny_pyIter_list hlist ?_);have v:c.objs.size < B.objs.size:=by
   obtain⟨o,L,M,p,r⟩:=d1;exact zA9 p
 refine wpAny_pure ⟨plainId_quiet LB.qf5 _,?_⟩;refine LB.qap8 (knd:=qf0 X.prog X.w) (A:=X.A.in1) hh (I:=B.objs.size) (ax:=a) (d:=c.objs.size) (items:=f.toArray) (zAq (Nat.lt_trans G v)) (zAq v) (zAq G) x 0 0 [] _ (λ j k C=>?_) (by simp[D]) ?_ ?_ ?_ ?_ λ h2 a0 d2 k2=>?_
 . obtain⟨t,i,g1,g2,g3⟩:=P j k C
   obtain⟨o,p,r⟩:=g2;have m:=zA9 p;exact⟨t,i,by simpa using g1,⟨o,zA4 _ (K _ _ (zA4 _ p)),r⟩,g3,zAq (Nat.lt_trans m v),zAq m⟩
 . exact⟨_,zAx _ rfl,rfl,rfl⟩
 . exact⟨_,zA4 _ e1,rfl,n,rfl⟩
 . obtain⟨o,L,M,p,r⟩:=d1
   exact⟨o,L,M,zA4 _ p,r⟩
 . simp only[List.length_nil,zAh];rw[D,<- O];exact z
 refine⟨rfl,?_⟩;have hf:H c.objs.size=none:=I.hok.fresh (zA3 _);have keep:∀ b o,c.get? b=some o->h2.get? b=some o:=λ b o eb=>by
   have m:=zA9 eb;exact k2 b o (zAq (Nat.lt_trans m v)) (zAq m) (zA4 _ (K _ _ (zA4 _ eb)))
 have rm:KV (qD2 [] g) (x.foldl (λ a1 k=>stored a1 k.1 k.2) []):=KV.fold J .nil;have hz:(qD2 [] g).length<=sizeLine:=by
   have B:=qw1 g [];have h2:=Paired.length N;simp only[List.length_nil] at B;lia
 refine⟨.ref c.objs.size,_,I.laid (t':=a0) (o:=.dK (qD2 [] g)) keep (zA3 _) ?_,rfl,q _ hf⟩;exact⟨hz,zC4.mpr (Ne.symm (zAq big)),_,rm,d2⟩
end
section
variable{X:Cx}
theorem qW8(w:X.calm=true):CallR X (.builtin "all") (λ xs H Q=>∃(a:Addr)(c:List Bool),xs=[.ref a]/\SqL X.K H a (c.map V.bl)/\Q (.bl (c.all id)) H):=by
 intro De s σ H xs F Q I r h;obtain⟨a,c,rfl,y,q⟩:=h;obtain⟨u,rfl,l⟩:=Bm r;cases l;have z:=I.ok.hd w;obtain⟨f,m,n,G⟩:=I.list y;refine call_all_walk (wpAny_pyIter_list n.isList ?_);have p:a < s.heap.objs.size:=let ⟨o,ho,_⟩:=n.isList;zA9 ho
 refine⟨s.heap.objs.size,_,_,_,_,_,λ i=>c.getD i false,rfl,Walks.list (A:=X.A.in1) z _ a (zAq p) f.toArray,⟨⟨_,zAx _ rfl,rfl,rfl⟩,?_⟩,?_,?_⟩
 . exact n.isList.at λ o e=>zA4 _ e
 . intro i v B Q1 E1 g j
   have g:f[i]? = some v:=by simpa using g
   have d:i < c.length:=by
     have J:=(zA2.mp g).1;have k:=m.length;rw[zA7] at k;lia
   obtain⟨u,t,l⟩:=m.get (i:=i) (x:=.bl c[i]) (by simp[d]);rw[g] at t;cases t;cases l;refine wpAny_truthy_bool ?_;have e:c.getD i false=c[i]:=by simp[List.getD,d]
   have j:Q1 (c.getD i false) B:=j;rw[e] at j;exact j
 intro L C D;have e:(List.range f.toArray.size).all (λ i=>c.getD i false)=c.all id:=by
   have k:=m.length;rw[zA7] at k;rw[zA5,<- k];rw[Bool.eq_iff_iff];simp only[zBg,zAn,id_eq];constructor
   . intro h b E
     obtain⟨i,d,rfl⟩:=List.mem_iff_getElem.mp E
     have:=h i d
     simpa[List.getD,d] using this
   intro h i d
   have:=h c[i] (List.getElem_mem d)
   simpa[List.getD,d] using this
 rw[e];refine⟨.bl _,H,?_,rfl,q⟩;exact I.kept (t':=C) λ b o e=>D b o (by simp;exact zAq (zA9 e)) (zA4 _ e)
noncomputable def qm2(ns:List Int):Nat:=(firstMet (λ i=>ns.getD i 0) ns.length).length
def rSetI(K:PySem.W.Frag):List V->Hp->VK->Prop:=λ xs H Q=>∃(a:Addr)(ns:List Int),xs=[.ref a]/\SqL K H a (ns.map V.int)/\ns.length<=1000/\∀ p S,H p=none->Q (.ref p) (upd H p (.set S (qm2 ns)))
theorem qaq3(k:X.calm=true):CallR X (.type "set") (rSetI X.K):=by
 intro De s σ H x y Q I r h;obtain⟨a,f,rfl,l,z,q⟩:=h;obtain⟨u,rfl,m⟩:=Bm r;cases m;have n:=I.ok.hd k;obtain⟨c,i,p,A⟩:=I.list l;have d:c.length=f.length:=by
   have:=i.length
   rw[zA7] at this;exact this.symm
 have t:IntsAre c f:=qah5 i;refine call_set_list (items:=c.toArray) n p.isList (by simpa using t) (by rw[zA5,d];show f.length+1 < 4096;lia) λ B v j w=>?_
 have g:c.toArray.size=f.length:=by rw[zA5,d]
 rw[g] at j;refine⟨.ref s.heap.objs.size,_,I.laid (t':=v) (o:=.set _ (qm2 f)) (λ b o e=>w b o (zA9 e) e) (zA3 _) j,rfl,q _ _ (I.hok.fresh (zA3 _))⟩
theorem qaq5:CallR X (.builtin "len") (λ xs H Q=>∃(a:Addr)(S:Int->Bool)(n:Nat),xs=[.ref a]/\H a=some (.set S n)/\Q (.int n) H):=by
 intro De s σ H xs l Q I r h;obtain⟨a,S,n,rfl,d,q⟩:=h;obtain⟨u,rfl,e⟩:=Bm r;cases e;obtain⟨o,f,m,t,g,b,i,_,_,c,j,k⟩:=I.hok a _ d;subst k;have c:f.size < 4096:=c;exact call_len_set g b i j (by lia) ⟨.int _,H,I.tok _,⟨_,rfl⟩,q⟩
end
theorem qR6(ns:List Int):qm2 ns=ns.length↔ns.Nodup:=by
 have f:∀ i,i<=ns.length->(∀ k,k∈firstMet (λ i=>ns.getD i 0) i↔k∈ns.take i)/\((firstMet (λ i=>ns.getD i 0) i).length=i↔(ns.take i).Nodup):=by
   intro i
   induction i with
   | zero=>intro _;rw[firstMet_zero];simp
   | succ i m =>
     intro r;obtain⟨c,l⟩:=m (by lia);have n:=firstMet_length_le (λ i=>ns.getD i 0) i;have b:i < ns.length:=by lia
     have o:ns.take (i+1)=ns.take i++[ns[i]]:=by rw[List.take_add_one];simp[b]
     have p:ns.getD i 0=ns[i]:=by simp[List.getD,b]
     rw[firstMet_succ,o,p];unfold step_dedup;by_cases d:ns[i]∈firstMet (λ i=>ns.getD i 0) i
     . have a:ns[i]∈ns.take i:=(c _).mp d
       have g:(firstMet (λ i=>ns.getD i 0) i).any (· == ns[i])=true:=List.any_eq_true.mpr ⟨_,d,by simp⟩;rw[if_pos g];refine⟨λ k=>?_,?_⟩
       . rw[c];simp only[zAa,zAe]
         exact⟨.inl,λ h=>h.elim id λ e=>by rw[e];exact a⟩
       constructor
       . intro h;lia
       intro h;rw[zBo] at h;exact absurd rfl (h.2.2 _ a _ (zAe.mpr rfl))
     have a:¬ ns[i]∈ns.take i:=λ h=>d ((c _).mpr h)
     have g:¬ (firstMet (λ i=>ns.getD i 0) i).any (· == ns[i])=true:=λ h=>by
       obtain⟨x,j,e⟩:=List.any_eq_true.mp h;exact d (by rw[<- (zC1.mp e)];exact j)
     rw[if_neg g];refine⟨λ k=>?_,?_⟩
     . simp only[zAa,zAe]
       rw[c]
     rw[zAf,zBo];simp only[List.length_singleton];constructor
     . intro h
       refine⟨l.mp (by lia),by simp,λ x j y q=>?_⟩;rw[zAe.mp q];exact λ e=>a (e ▸ j)
     intro h
     have:=l.mpr h.1
     lia
 have:=(f ns.length (zA3 _)).2
 rw[zAs (zA3 _)] at this;exact this
end L2
namespace LD
open PySem PySem.SeqAt MeetsSeq
open AutoSeq1 (wpAny_loadPart')
variable{b l:Addr}{dd:Option Addr}{n:Nat}{sl:Array (Option Value)}
theorem qaC2(l b:Addr)(es:Array DictEntry)(items2:Array Value)(n e:Nat)(dd a:Option Addr)(sl c:Array (Option Value)) :
   Meets (Builtin.«dict.__eq__» ⟨[.ref l,.ref b],[]⟩) (λ _ R s=>s.heap.get? l=some { cls:=.type "dict",dict:=dd,data:=.dict es n,slots:=sl }/\s.heap.get? b=some { cls:=.type "tuple",dict:=a,data:=.seq items2 e,slots:=c }/\R (.ok (.ret .notImplemented)) s) :=
 .of_wp λ prog w A R s h=>by obtain⟨j,g,d,k,m⟩:=s;obtain⟨f,i,h⟩:=h;have f1:=F.sub_tuple_dict;wp_walk using wpAny_loadPart' f,wpAny_loadPart' i;exact⟨_,rfl,h⟩
theorem qav5(l b:Addr)(es:Array DictEntry)(items2:Array Value)(n e:Nat)(dd a:Option Addr)(sl c:Array (Option Value)) :
   Meets (Builtin.«tuple.__eq__» ⟨[.ref b,.ref l],[]⟩) (λ _ R s=>s.heap.get? l=some { cls:=.type "dict",dict:=dd,data:=.dict es n,slots:=sl }/\s.heap.get? b=some { cls:=.type "tuple",dict:=a,data:=.seq items2 e,slots:=c }/\R (.ok (.ret .notImplemented)) s) :=
 .of_wp λ prog w A R s h=>by obtain⟨j,g,d,k,m⟩:=s;obtain⟨f,i,h⟩:=h;have f1:=F.sub_dict_tuple;wp_walk using wpAny_loadPart' f,wpAny_loadPart' i;exact⟨_,rfl,h⟩
theorem qaz5(l b:Addr)(es:Array DictEntry)(items2:Array Value)(n e:Nat)(dd a:Option Addr)(sl c:Array (Option Value)) :
   Meets (Builtin.«dict.__ne__» ⟨[.ref l,.ref b],[]⟩) (λ _ R s=>s.heap.get? l=some { cls:=.type "dict",dict:=dd,data:=.dict es n,slots:=sl }/\s.heap.get? b=some { cls:=.type "tuple",dict:=a,data:=.seq items2 e,slots:=c }/\R (.ok (.ret .notImplemented)) s) :=
 .of_wp λ prog w A R s h=>by obtain⟨j,g,d,k,m⟩:=s;obtain⟨f,i,h⟩:=h;have f1:=F.sub_tuple_dict;wp_walk using wpAny_loadPart' f,wpAny_loadPart' i;exact⟨_,rfl,h⟩
theorem qav4(l b:Addr)(es:Array DictEntry)(items2:Array Value)(n e:Nat)(dd a:Option Addr)(sl c:Array (Option Value)) :
   Meets (Builtin.«tuple.__ne__» ⟨[.ref b,.ref l],[]⟩) (λ _ R s=>s.heap.get? l=some { cls:=.type "dict",dict:=dd,data:=.dict es n,slots:=sl }/\s.heap.get? b=some { cls:=.type "tuple",dict:=a,data:=.seq items2 e,slots:=c }/\R (.ok (.ret .notImplemented)) s) :=
 .of_wp λ prog w A R s h=>by obtain⟨j,g,d,k,m⟩:=s;obtain⟨f,i,h⟩:=h;have f1:=F.sub_dict_tuple;wp_walk using wpAny_loadPart' f,wpAny_loadPart' i;exact⟨_,rfl,h⟩
theorem for0{β:Type}{m:Type->Type}[Monad m](b:β)(f:Nat->β->m (ForInStep β)):forIn [:0] b f=(pure b:m β):=by
 simp
theorem same0{M:Model}{A:Around}{E:Value->Shared->Prop}{s:Shared}{Q:Bool->Shared->Prop}{id:String}{e:Nat}{a:Option Addr}{c:Array (Option Value)}(h1:(l == sysModules)=false)(h2:(b == sysModules)=false)(d:s.heap.get? l=some { cls:=.type "dict",dict:=dd,data:=.dict #[] n,slots:=sl })(f:s.heap.get? b=some { cls:=.type "dict",dict:=a,data:=.dict #[] e,slots:=c })(h:Q true s):wpAny M A (Builtin.Dict.samePairs id l b) Q E s:=by
 unfold Builtin.Dict.samePairs Builtin.Dict.showsAll;rw[if_neg (by rw[h1];decide),if_neg (by rw[h2];decide)];refine wpAny_bind (wpAny_pure (wpAny_bind (wpAny_pure ?_)));refine wpAny_bind (wpAny_dictEntries d rfl ?_);refine wpAny_bind (wpAny_dictEntries f rfl ?_);rw[if_neg (by decide)];refine wpAny_bind (wpAny_dictEpoch d rfl ?_);have g:(#[]:Array DictEntry).size=0:=rfl;simp only[g];rw[for0];exact wpAny_bind (wpAny_pure (wpAny_pure h))
theorem qaM3(l b:Addr)(n i:Nat)(dd a:Option Addr)(sl c:Array (Option Value))(h1:(l == sysModules)=false)(h2:(b == sysModules)=false) :
   Meets (Builtin.«dict.__eq__» ⟨[.ref l,.ref b],[]⟩) (λ _ R s=>s.heap.get? l=some { cls:=.type "dict",dict:=dd,data:=.dict #[] n,slots:=sl }/\s.heap.get? b=some { cls:=.type "dict",dict:=a,data:=.dict #[] i,slots:=c }/\R (.ok (.ret (.bool true))) s) :=
 .of_wp λ prog w A R s h=>by
   obtain⟨j,g,d,k,m⟩:=s;obtain⟨e,f,h⟩:=h;have f1:isSubtype (.type "dict") (.type "dict")=pure true:=F.sub_dict_dict
   wp_walk using wpAny_loadPart' e,wpAny_loadPart' f,same0 h1 h2 e f
   exact⟨_,rfl,h⟩
theorem qaJ3(l b:Addr)(n i:Nat)(dd a:Option Addr)(sl c:Array (Option Value))(h1:(l == sysModules)=false)(h2:(b == sysModules)=false) :
   Meets (Builtin.«dict.__ne__» ⟨[.ref l,.ref b],[]⟩) (λ _ R s=>s.heap.get? l=some { cls:=.type "dict",dict:=dd,data:=.dict #[] n,slots:=sl }/\s.heap.get? b=some { cls:=.type "dict",dict:=a,data:=.dict #[] i,slots:=c }/\R (.ok (.ret (.bool false))) s) :=
 .of_wp λ prog w A R s h=>by
   obtain⟨j,g,d,k,m⟩:=s;obtain⟨e,f,h⟩:=h;have f1:isSubtype (.type "dict") (.type "dict")=pure true:=F.sub_dict_dict
   wp_walk using wpAny_loadPart' e,wpAny_loadPart' f,same0 h1 h2 e f
   exact⟨_,rfl,h⟩
section
variable{A:Around}{s:Shared}
theorem qas0{f:Nat}{c:Option Addr}{d:Array (Option Value)}(h1:(l == sysModules)=false)(h2:(b == sysModules)=false)(e:s.heap.get? l=some { cls:=.type "dict",dict:=dd,data:=.dict #[] n,slots:=sl })(a:s.heap.get? b=some { cls:=.type "dict",dict:=c,data:=.dict #[] f,slots:=d })(g:A.units < cLine):RcAt A s (.ref l) (.ref b) true/\RcNeAt A s (.ref l) (.ref b) false :=
 ⟨λ prog w E Q h=>richCompare_meets_room (op:=.Eq) ⟨_,e,rfl⟩ ⟨_,a,rfl⟩ F.slot_dict_eq F.entry_dict_eq (F.args_dict_eq_2 _ _) (qaM3 l b n f dd c sl d h1 h2) ⟨e,a,show Value.bool true≠Value.notImplemented/\Q (.bool true) s from⟨(λ x=>nomatch x),h⟩⟩ g,
  λ prog w E Q h=>richCompare_meets_room (op:=.NotEq) ⟨_,e,rfl⟩ ⟨_,a,rfl⟩ F.slot_dict_ne F.entry_dict_ne (F.args_dict_ne_2 _ _) (qaJ3 l b n f dd c sl d h1 h2) ⟨e,a,show Value.bool false≠Value.notImplemented/\Q (.bool false) s from⟨(λ x=>nomatch x),h⟩⟩ g⟩
theorem rc_dt{es:Array DictEntry}{items2:Array Value}(c:s.heap.get? l=some { cls:=.type "dict",dict:=dd,data:=.dict es n,slots:=sl })(r:s.heap.IsTuple b items2)(q:A.units < cLine):RcAt A s (.ref l) (.ref b) false/\RcNeAt A s (.ref l) (.ref b) true:=by
 obtain⟨⟨cls2,f,data2,g⟩,a,i,p,j⟩:=id r;simp only at i j;subst i j;have m:l≠b:=λ e=>by
   subst e;rw[c] at a
   have:=congrArg (λ o:Option Obj=>o.map (·.cls)) a
   simp at this
 exact⟨λ prog w E Q h=>rc_eq_decline_or (k:=false) ⟨_,c,rfl⟩ ⟨_,a,rfl⟩ (by decide) F.sub_tuple_dict F.slot_dict_eq F.slot_tuple_eq_refl
     (λ _ d=>call_meets F.slot_dict_eq ⟨_,c,rfl⟩ F.entry_dict_eq (F.args_dict_eq_2 _ _) (qaC2 l b es items2 n p dd f sl g) ⟨c,a,d⟩)
     (λ _ d=>call_meets F.slot_tuple_eq_refl ⟨_,a,rfl⟩ F.entry_tuple_eq (F.args_tuple_eq_2 _ _) (qav5 l b es items2 n p dd f sl g) ⟨c,a,d⟩)
     (λ _ d=>wpAny_isSame_ref_other m c a (by simp) d) (.inr q) h,
   λ prog w E Q h=>rc_ne_decline_or (k:=false) ⟨_,c,rfl⟩ ⟨_,a,rfl⟩ (by decide) F.sub_tuple_dict F.slot_dict_ne F.slot_tuple_ne_refl
     (λ _ d=>call_meets F.slot_dict_ne ⟨_,c,rfl⟩ F.entry_dict_ne (F.args_dict_ne_2 _ _) (qaz5 l b es items2 n p dd f sl g) ⟨c,a,d⟩)
     (λ _ d=>call_meets F.slot_tuple_ne_refl ⟨_,a,rfl⟩ F.entry_tuple_ne (F.args_tuple_ne_2 _ _) (qav4 l b es items2 n p dd f sl g) ⟨c,a,d⟩)
     (λ _ d=>wpAny_isSame_ref_other m c a (by simp) d) (.inr q) h⟩
end
end LD
namespace L2
open PySem PySem.Spec PyProof.Rows PySem.SeqAt
variable{A:Around}{a:Addr}{xs:List V}
inductive EqD(H:Hp):Nat->V->V->Bool->Prop
 | flat {n:Nat} {x y:V} (hx:flatV x=true) (hy:flatV y=true):EqD H n x y (eqV x y)
 | same {n:Nat} (a:Addr):EqD H n (.ref a) (.ref a) true
 | lsts {n:Nat} {a b:Addr} {xs ys:List V} {e:Nat->Bool} (ne:a≠b) (ha:H a=some (.lst xs)) (hb:H b=some (.lst ys)) (hl:xs.length=ys.length) (he:∀ i x y,xs[i]? = some x->ys[i]? = some y->EqD H n x y (e i)):EqD H (n+1) (.ref a) (.ref b) ((List.range xs.length).all e)
 | lens {n:Nat} {a b:Addr} {xs ys:List V} (ne:a≠b) (ha:H a=some (.lst xs)) (hb:H b=some (.lst ys)) (hl:xs.length≠ys.length):EqD H (n+1) (.ref a) (.ref b) false
 | tups {n:Nat} {a b:Addr} {xs ys:List V} {e:Nat->Bool} (ne:a≠b) (ha:H a=some (.tup xs)) (hb:H b=some (.tup ys)) (he:∀ i x y,xs[i]? = some x->ys[i]? = some y->EqD H n x y (e i)):EqD H (n+1) (.ref a) (.ref b) ((List.range (min xs.length ys.length)).all e&&xs.length == ys.length)
 | dcts {n:Nat} {a b:Addr} (ne:a≠b) (ha:H a=some (.dK [])) (hb:H b=some (.dK [])):EqD H n (.ref a) (.ref b) true
inductive RcD(H:Hp):V->V->Bool->Prop
 | flat {x y:V} (hx:flatV x=true) (hy:flatV y=true):RcD H x y (eqV x y)
 | lsts {a b:Addr} {xs ys:List V} {e:Nat->Bool} (ha:H a=some (.lst xs)) (hb:H b=some (.lst ys)) (hl:xs.length=ys.length) (he:∀ i x y,xs[i]? = some x->ys[i]? = some y->EqD H 20 x y (e i)):RcD H (.ref a) (.ref b) ((List.range xs.length).all e)
 | lens {a b:Addr} {xs ys:List V} (ha:H a=some (.lst xs)) (hb:H b=some (.lst ys)) (hl:xs.length≠ys.length):RcD H (.ref a) (.ref b) false
 | tups {a b:Addr} {xs ys:List V} {e:Nat->Bool} (ha:H a=some (.tup xs)) (hb:H b=some (.tup ys)) (he:∀ i x y,xs[i]? = some x->ys[i]? = some y->EqD H 20 x y (e i)):RcD H (.ref a) (.ref b) ((List.range (min xs.length ys.length)).all e&&xs.length == ys.length)
 | lt {a b:Addr} {xs ys:List V} (ha:H a=some (.lst xs)) (hb:H b=some (.tup ys)):RcD H (.ref a) (.ref b) false
 | tl {a b:Addr} {xs ys:List V} (ha:H a=some (.tup xs)) (hb:H b=some (.lst ys)):RcD H (.ref a) (.ref b) false
 | lf {a:Addr} {xs:List V} {y:V} (ha:H a=some (.lst xs)) (hy:flatV y=true):RcD H (.ref a) y false
 | fl {a:Addr} {xs:List V} {y:V} (ha:H a=some (.lst xs)) (hy:flatV y=true):RcD H y (.ref a) false
 | tf {a:Addr} {xs:List V} {y:V} (ha:H a=some (.tup xs)) (hy:flatV y=true):RcD H (.ref a) y false
 | ft {a:Addr} {xs:List V} {y:V} (ha:H a=some (.tup xs)) (hy:flatV y=true):RcD H y (.ref a) false
 | dcts {a b:Addr} (ha:H a=some (.dK [])) (hb:H b=some (.dK [])):RcD H (.ref a) (.ref b) true
 | dt {a b:Addr} {kvs:List (Key×V)} {ys:List V} (ha:H a=some (.dK kvs)) (hb:H b=some (.tup ys)):RcD H (.ref a) (.ref b) false
section
variable{X:Cx}{De:List (Addr×Obj)}{σ:St}{H:Hp}{s:Shared}
theorem Inv.lstI(I:Inv X De σ H s)(h:H a=some (.lst xs)):∃ its:List Value,Vals xs its/\s.heap.IsList a its.toArray:=by
 obtain⟨z,its,n,r,_,e⟩:=I.lstM h;exact⟨its,r,_,e,rfl,n,rfl⟩
theorem Inv.tupI(I:Inv X De σ H s)(h:H a=some (.tup xs)):∃ its:List Value,Vals xs its/\s.heap.IsTuple a its.toArray:=by
 obtain⟨z,its,r,o,b,c,n,d⟩:=I.hok a _ h;exact⟨its,r,o,b,c,n,d⟩
theorem Inv.dK0(I:Inv X De σ H s){kvs:List (Key×V)}(h:H a=some (.dK kvs)):(a == sysModules)=false/\∃ es n,s.heap.get? a=some { cls:=.type "dict",dict:=none,data:=.dict es n,slots:=#[] }/\(kvs=[]->es = #[]):=by
 obtain⟨_,i,p,j,o,es,k,m,⟨b,c,d⟩,f,_,g,_⟩:=I.hok a _ h;obtain⟨q,r,t,u⟩:=o;simp only at b c d f;subst b c d f;refine⟨i,es,k,m,λ e=>?_⟩;subst e;cases j;have e:es.toList=[]:=by
   generalize es.toList=l at g;cases g;rfl
 exact Array.toList_eq_nil_iff.mp e
theorem qx6(A:Around):A.in1.units<=A.units+1:=zA3 _
theorem qS5{P:V->V->Nat->Prop}{e:Nat->Bool}{ys:List V}{its its2:List Value}(r:Vals xs its)(a:Vals ys its2)(k:∀ i x y u v,xs[i]? = some x->ys[i]? = some y->RelV x u->RelV y v->EqAt A s u v (e i)) :
   ∀ j (h1:j < its.toArray.size) (h2:j < its2.toArray.size),EqAt A s its.toArray[j] its2.toArray[j] (e j):=by
 intro j h1 h2;rw[zA5] at h1 h2;have h:=r.length;have l:=a.length;obtain⟨u,b,d⟩:=r.get (i:=j) (x:=xs[j]'(by lia)) (by simp);obtain⟨v,c,f⟩:=a.get (i:=j) (x:=ys[j]'(by lia)) (by simp);have g:its.toArray[j]=u:=by
   have:its[j]? = some its[j]:=by simp[h1]
   rw[this] at b;simpa using Option.some.inj b
 have e2:its2.toArray[j]=v:=by
   have:its2[j]? = some its2[j]:=by simp[h2]
   rw[this] at c;simpa using Option.some.inj c
 rw[g,e2];exact k j _ _ u v (by simp) (by simp) d f
theorem EqD.at(I:Inv X De σ H s){n:Nat}{x y:V}{b:Bool}(h:EqD H n x y b):∀{A:Around}{u v:Value},RelV x u->RelV y v->A.units+n+1 < cLine->EqAt A s u v b:=by
 induction h with
 | flat w z=>intro A u v c d _;exact qaM4 c d w z
 | same a=>intro A u v c d _;cases c;cases d;exact EqAt.same _
 | @lsts n a b xs ys e ne ha hb hl he ih =>
   intro A u v c d k;cases c;cases d;obtain⟨f,r,p⟩:=I.lstI ha;obtain⟨its2,g,j⟩:=I.lstI hb;have B:f.toArray.size=its2.toArray.size:=by rw[zA5,zA5,<- r.length,<- g.length,hl]
   have q:=EqAt.of_refs ne (RcAt.lists (A:=A) p j B (by lia) (e:=e) (qS5 (P:=λ _ _ _=>True) r g λ i x y u v l e2 o t=>ih i x y l e2 o t (by have:=qx6 A;lia)));rw[zA5,<- r.length] at q;exact q
 | @lens n a b xs ys ne ha hb hl =>
   intro A u v c d k;cases c;cases d;obtain⟨f,r,p⟩:=I.lstI ha;obtain⟨its2,g,j⟩:=I.lstI hb;exact EqAt.of_refs ne (RcAt.lists_lengths p j (by rw[zA5,zA5,<- r.length,<- g.length];simpa using hl) (by lia))
 | @tups n a b xs ys e ne ha hb he ih =>
   intro A u v c d k;cases c;cases d;obtain⟨f,r,p⟩:=I.tupI ha;obtain⟨its2,g,j⟩:=I.tupI hb;have q:=EqAt.of_refs ne (RcAt.tuples (A:=A) p j (by lia) (e:=e) (qS5 (P:=λ _ _ _=>True) r g λ i x y u v l e2 o t=>ih i x y l e2 o t (by have:=qx6 A;lia)));rw[zA5,zA5,<- r.length,<- g.length] at q;exact q
 | @dcts n a b ne ha hb =>
   intro A u v c d k;cases c;cases d;obtain⟨C,L,m,D,E⟩:=I.dK0 ha;obtain⟨F,G,M,J,K⟩:=I.dK0 hb;cases E rfl;cases K rfl;exact EqAt.of_refs ne (LD.qas0 C F D J (by lia)).1
theorem RcD.at(I:Inv X De σ H s){x y:V}{b:Bool}(h:RcD H x y b){u v:Value}(d:RelV x u)(c:RelV y v)(Q:A.units+60 < cLine):RcAt A s u v b/\RcNeAt A s u v (!b):=by
 cases h with
 | flat J o =>
   cases x with
   | non =>
     cases d;cases y with
     | non=>cases c;exact⟨RcAt.none_none,RcNeAt.none_none⟩
     | bl b=>cases c;exact⟨RcAt.none_bool b,RcNeAt.none_bool b⟩
     | int b=>obtain⟨t,rfl⟩:=c;exact⟨RcAt.none_int b t,RcNeAt.none_int b t⟩
     | str b=>obtain⟨t,rfl⟩:=c;exact⟨RcAt.none_str b t,RcNeAt.none_str b t⟩
     | _=>exact absurd (show false=true from o) zAk
   | bl a =>
     cases d;cases y with
     | non=>cases c;exact⟨RcAt.bool_none a,RcNeAt.bool_none a⟩
     | bl b=>cases c;exact⟨RcAt.bool_bool a b,RcNeAt.bool_bool a b⟩
     | int b=>obtain⟨t,rfl⟩:=c;exact⟨RcAt.bool_int a b t,RcNeAt.bool_int a b t⟩
     | str b=>obtain⟨t,rfl⟩:=c;exact⟨RcAt.bool_str a b t,RcNeAt.bool_str a b t⟩
     | _=>exact absurd (show false=true from o) zAk
   | int a =>
     obtain⟨j,rfl⟩:=d;cases y with
     | non=>cases c;exact⟨RcAt.int_none a j,RcNeAt.int_none a j⟩
     | bl b=>cases c;exact⟨RcAt.int_bool a j b,RcNeAt.int_bool a j b⟩
     | int b=>obtain⟨t,rfl⟩:=c;exact⟨RcAt.int_int a j b t,RcNeAt.int_int a j b t⟩
     | str b=>obtain⟨t,rfl⟩:=c;exact⟨RcAt.int_str a j b t,RcNeAt.int_str a j b t⟩
     | _=>exact absurd (show false=true from o) zAk
   | str a =>
     obtain⟨j,rfl⟩:=d;cases y with
     | non=>cases c;exact⟨RcAt.str_none a j,RcNeAt.str_none a j⟩
     | bl b=>cases c;exact⟨RcAt.str_bool a j b,RcNeAt.str_bool a j b⟩
     | int b=>obtain⟨t,rfl⟩:=c;exact⟨RcAt.str_int a j b t,RcNeAt.str_int a j b t⟩
     | str b=>obtain⟨t,rfl⟩:=c;exact⟨RcAt.str_str a j b t,RcNeAt.str_str a j b t⟩
     | _=>exact absurd (show false=true from o) zAk
   | _=>exact absurd (show false=true from J) zAk
 | @lsts a b xs ys e f n hl he =>
   cases d;cases c;obtain⟨g,r,p⟩:=I.lstI f;obtain⟨its2,q,l⟩:=I.lstI n;have w:g.toArray.size=its2.toArray.size:=by rw[zA5,zA5,<- r.length,<- q.length,hl]
   have k:=qS5 (P:=λ _ _ _=>True) (e:=e) (A:=A.in1) (s:=s) r q λ i x y u v B e2 C D=>(he i x y B e2).at I C D (by have:=qx6 A;lia)
   have z:=RcAt.lists p l w (by lia) k;have q2:=RcNeAt.lists p l w (by lia) k;rw[zA5,<- r.length] at z q2;exact⟨z,q2⟩
 | @lens a b xs ys f n hl =>
   cases d;cases c;obtain⟨g,r,p⟩:=I.lstI f;obtain⟨its2,q,l⟩:=I.lstI n;have w:(g.toArray.size != its2.toArray.size)=true:=by rw[zA5,zA5,<- r.length,<- q.length];simpa using hl
   exact⟨RcAt.lists_lengths p l w (by lia),RcNeAt.lists_lengths p l w (by lia)⟩
 | @tups a b xs ys e f n he =>
   cases d;cases c;obtain⟨g,r,p⟩:=I.tupI f;obtain⟨its2,q,l⟩:=I.tupI n;have k:=qS5 (P:=λ _ _ _=>True) (e:=e) (A:=A.in1) (s:=s) r q λ i x y u v B e2 C D=>(he i x y B e2).at I C D (by have:=qx6 A;lia)
   have z:=RcAt.tuples p l (by lia) k;have q2:=RcNeAt.tuples p l (by lia) k;rw[zA5,zA5,<- r.length,<- q.length] at z q2;exact⟨z,q2⟩
 | lt f n =>
   cases d;cases c;obtain⟨g,r,p⟩:=I.lstI f;obtain⟨its2,q,l⟩:=I.tupI n;exact⟨RcAt.list_tuple p l (by lia),RcNeAt.list_tuple p l (by lia)⟩
 | tl f n =>
   cases d;cases c;obtain⟨g,r,p⟩:=I.tupI f;obtain⟨its2,q,l⟩:=I.lstI n;exact⟨RcAt.tuple_list p l (by lia),RcNeAt.tuple_list p l (by lia)⟩
 | lf f o =>
   cases d;obtain⟨g,r,p⟩:=I.lstI f;cases y with
   | non=>cases c;exact⟨RcAt.list_none p (by lia),RcNeAt.list_none p (by lia)⟩
   | bl b=>cases c;exact⟨RcAt.list_bool b p (by lia),RcNeAt.list_bool b p (by lia)⟩
   | int b=>obtain⟨t,rfl⟩:=c;exact⟨RcAt.list_int b t p (by lia),RcNeAt.list_int b t p (by lia)⟩
   | str b=>obtain⟨t,rfl⟩:=c;exact⟨RcAt.list_str b t p (by lia),RcNeAt.list_str b t p (by lia)⟩
   | _=>exact absurd (show false=true from o) zAk
 | fl f o =>
   cases c;obtain⟨g,r,p⟩:=I.lstI f;cases x with
   | non=>cases d;exact⟨RcAt.none_list p (by lia),RcNeAt.none_list p (by lia)⟩
   | bl b=>cases d;exact⟨RcAt.bool_list b p (by lia),RcNeAt.bool_list b p (by lia)⟩
   | int b=>obtain⟨t,rfl⟩:=d;exact⟨RcAt.int_list b t p (by lia),RcNeAt.int_list b t p (by lia)⟩
   | str b=>obtain⟨t,rfl⟩:=d;exact⟨RcAt.str_list b t p (by lia),RcNeAt.str_list b t p (by lia)⟩
   | _=>exact absurd (show false=true from o) zAk
 | tf f o =>
   cases d;obtain⟨g,r,p⟩:=I.tupI f;cases y with
   | non=>cases c;exact⟨RcAt.tuple_none p (by lia),RcNeAt.tuple_none p (by lia)⟩
   | bl b=>cases c;exact⟨RcAt.tuple_bool b p (by lia),RcNeAt.tuple_bool b p (by lia)⟩
   | int b=>obtain⟨t,rfl⟩:=c;exact⟨RcAt.tuple_int b t p (by lia),RcNeAt.tuple_int b t p (by lia)⟩
   | str b=>obtain⟨t,rfl⟩:=c;exact⟨RcAt.tuple_str b t p (by lia),RcNeAt.tuple_str b t p (by lia)⟩
   | _=>exact absurd (show false=true from o) zAk
 | ft f o =>
   cases c;obtain⟨g,r,p⟩:=I.tupI f;cases x with
   | non=>cases d;exact⟨RcAt.none_tuple p (by lia),RcNeAt.none_tuple p (by lia)⟩
   | bl b=>cases d;exact⟨RcAt.bool_tuple b p (by lia),RcNeAt.bool_tuple b p (by lia)⟩
   | int b=>obtain⟨t,rfl⟩:=d;exact⟨RcAt.int_tuple b t p (by lia),RcNeAt.int_tuple b t p (by lia)⟩
   | str b=>obtain⟨t,rfl⟩:=d;exact⟨RcAt.str_tuple b t p (by lia),RcNeAt.str_tuple b t p (by lia)⟩
   | _=>exact absurd (show false=true from o) zAk
 | dcts f n =>
   cases d;cases c;obtain⟨F,K,m,E,G⟩:=I.dK0 f;obtain⟨L,M,R,N,O⟩:=I.dK0 n;cases G rfl;cases O rfl;exact LD.qas0 F L E N (by lia)
 | dt f n =>
   cases d;cases c;obtain⟨F,K,m,E,G⟩:=I.dK0 f;obtain⟨its2,q,l⟩:=I.tupI n;exact LD.rc_dt E l (by lia)
end
def rEqD:R2:=λ x y H Q=>∃ b,RcD H x y b/\Q (.bl b) H
def rNeD:R2:=λ x y H Q=>∃ b,RcD H x y b/\Q (.bl (!b)) H
theorem qA1{X:Cx}(e:X.A.units+64 < cLine):OpR X (compareOp .Eq) rEqD:=by
 intro De s σ H x y v u Q I a c ⟨b,d,q⟩;exact(d.at I a c (A:=X.A) (by lia)).1 X.prog X.w X.xe _ ⟨.bl b,H,I,rfl,q⟩
theorem qJ9{X:Cx}(e:X.A.units+64 < cLine):OpR X (compareOp .NotEq) rNeD:=by
 intro De s σ H x y v u Q I a c ⟨b,d,q⟩;exact(d.at I a c (A:=X.A) (by lia)).2 X.prog X.w X.xe _ ⟨.bl (!b),H,I,rfl,q⟩
theorem qB5:∀{x:V},flatV x=true->eqV x x=true:=by
 intro x h;cases x with
 | non=>rfl
 | bl b=>simp[eqV]
 | int b=>simp[eqV]
 | str b=>simp[eqV]
 | _=>exact absurd (show false=true from h) zAk
theorem Room.u64{k:Nat}(a:Room k A):A.units+64 < cLine:=a.units
end L2
namespace L2
open PySem PySem.Spec PyProof.Rows
variable{vs:Array Value}
structure Cl(K:PySem.W.Frag)(mg:Str->Option Value)(x:Str)(C:Addr):Prop where
 cl:Cls K C
 m:mg x=some (.ref C)
structure Md(K:PySem.W.Frag)(C:Addr)(m qual:Str)(st:Stmt)(f:Addr)(fd:FuncData)(ps:List Str):Prop where
 F:Fun K m qual st f fd
 b:Binds K fd ps []
 me:Hb K C m f
 isf:PySem.W.isFn K (.ref f)=true
theorem mdmk{K:PySem.W.Frag}{C:Addr}{m qual:Str}{st:Stmt}{f:Addr}{ps:List Str}{oc:Value}{o e:Option Addr}{n:Array (Option Value)}{kV d g b j:Value}(l:K.lookup f=some ⟨oc,o,.func (PySem.W.fnOf m qual (qf1 st) (qc9 st) (qa3 st) .none kV d g e b j),n⟩)(c:PySem.W.codeIn K b qual=true)(k:PySem.W.keepIn K (.ref f)=true)(a:PySem.W.findIn K (.ref C) m=some (some (.ref f)))(i:PySem.W.isFn K (.ref f)=true)(h:∀(kV d g:Value)(e:Option Addr)(b j:Value)(us:List Value),us.length=ps.length->bindArgs (PySem.W.fnOf m qual (qf1 st) (qc9 st) (qa3 st) .none kV d g e b j) ⟨us,[]⟩=pure (ps.zip us)) :
   Md K C m qual st f (PySem.W.fnOf m qual (qf1 st) (qc9 st) (qa3 st) .none kV d g e b j) ps:=⟨qao6 l c k,(qao6 l c k).binds h,⟨a,i,k⟩,i⟩
section
variable{M:Model}{A:Around}{E:Value->Shared->Prop}{s:Shared}
structure Left(h h':Heap)(f:List Addr)(e T:Addr)(oe:Obj)(old:Option Value):Prop where
 new:h.objs.size<=T
 keep:∀ b o,h.get? b=some o->b≠e->old≠some (.ref b)->b∉f->h'.get? b=some o
 slot:∀ b o,h.get? b=some o->b∈f->∃ sl,h'.get? b=some { o with slots:=sl }
 there:∀ b o,h.get? b=some o->∃ o',h'.get? b=some o'
 exc:∃ vs oT ts,h'.get? e=some { oe with data:=.fields vs }/\1 < vs.size/\vs[1]? = some (.ref T)/\T≠e/\h'.get? T=some oT/\oT.data=.fields ts/\ts[3]? = some .none
theorem qat2{o:Obj}(e:o.data=.fields vs)(g:Array Value->Array Value):Obj.mapFields g o={ o with data:=.fields (g vs) }:=by
 obtain⟨a,b,c,d⟩:=o;cases e;rfl
theorem qL8{base:Heap}{env:Env}{outer:List Env}{L e:Addr}{oe:Obj}{d:Value}{R:Bool}{old:Option Value}{Q:Unit->Shared->Prop}(n:A.frames=some (env::outer))(C:s.heap.FunFrames base (env::outer))(S:env.frame=some L)(m:s.heap.get? e=some oe)(i:oe.data=.fields vs)(hsz:1 < vs.size)(h:∀ h' T,Left s.heap h' ((env::outer).filterMap (·.frame)) e T oe old->Q () { s with heap:=h' }) :
   wpAny M A (do let a <- frameOf env;let pl <- entryPlaceOf L R;let b <- EntryCells.newEntry d a .none (rawInt L) .none pl;setField (.ref e) 1 b)
     (λ _ s'=>wpAny M A (setFlight (.ref e) none) Q E s') E s:=by
 have j:∀ b o p,s.heap.get? b=some o->o.data=.fields p->b∉(env::outer).filterMap (·.frame):=λ b o p q q2 r=>by
   obtain⟨_,Y,D,U⟩:=C.mem r;rw[q] at D;cases D;exact U p q2
 refine wpAny_bind (wpAny_frameOf_fun n C S λ c q=>?_);refine wpAny_bind (wpAny_entryPlaceOf λ pl t=>?_);unfold EntryCells.newEntry newFields;refine wpAny_bind (wpAny_newObj_type ?_ (t.sizeOk5 _ _ _ _ _));obtain⟨V,F,G⟩:=q;have H:c.get? e=some oe:=(F e (j e oe vs m i)).trans m;generalize k:({ cls:=.type "traceback",dict:=none,data:=.fields ([d,.ref L,.none,rawInt L,.none]++(if pl.isEmpty then List.replicate 6 Value.none else pl)).toArray }:Obj)=oT;have l:∃ u,oT.data=.fields u/\3 < u.size:=by
   refine⟨([d,.ref L,.none,rawInt L,.none]++(if pl.isEmpty then List.replicate 6 Value.none else pl)).toArray,by rw[<- k],?_⟩;simp only[zA5,zAf,zAp,List.length_nil];lia
 have W:oT.isFreed=false:=by rw[<- k];rfl
 obtain⟨u,l,I⟩:=l;have e2:=zA4 (h:=c) oT H;refine wpAny_setField e2 i hsz ?_;have v:c.objs.size≠e:=Nat.ne_of_gt (zA9 H);have J:=Obj.data_mapFields i (·.setIfInBounds 1 (Value.ref c.objs.size));have K:=Heap.get?_update_self (Obj.mapFields (·.setIfInBounds 1 (Value.ref c.objs.size))) e2 (Obj.isFreed_of_fields J);have N:((c.push oT).update e (Obj.mapFields (·.setIfInBounds 1 (Value.ref c.objs.size)))).get? c.objs.size=some oT:=(zBi _ _ (Ne.symm v)).trans (zAx c W);unfold setFlight;refine wpAny_bind (wpAny_field K J (x:=.ref c.objs.size) (by simp[hsz]) ?_);rw[if_pos (show (Value.ref c.objs.size != Value.none)=true from by simp)];refine wpAny_setField N l I (h _ c.objs.size ?_);have keep:∀ b o,b≠e->c.get? b=some o->(((c.push oT).update e (Obj.mapFields (·.setIfInBounds 1 (Value.ref c.objs.size)))).update c.objs.size (Obj.mapFields (·.setIfInBounds 3 ((none:Option Addr).elim Value.none λ f=>rawInt f)))).get? b=some o:=λ b o w y=>by
   rw[zBi _ _ (Nat.ne_of_gt (zA9 y)),zBi _ _ (Ne.symm w)];exact zA4 _ y
 have O:(((c.push oT).update e (Obj.mapFields (·.setIfInBounds 1 (Value.ref c.objs.size)))).update c.objs.size (Obj.mapFields (·.setIfInBounds 3 ((none:Option Addr).elim Value.none λ f=>rawInt f)))).get? e=some { oe with data:=.fields (vs.setIfInBounds 1 (Value.ref c.objs.size)) }:=by
   rw[zBi _ _ v,K,qat2 i]
 refine⟨zCb V.symm,λ b o g w y X=>keep b o w ((F b X).trans g),λ b o g r=>?_,λ b o g=>?_,_,_,_,O,by simpa using hsz,by simp[hsz],v,Heap.get?_update_self _ N (Obj.isFreed_of_fields (Obj.data_mapFields l _)),Obj.data_mapFields l _,by simp[I]⟩
 . obtain⟨P,B⟩:=G b o g
   refine⟨P,keep b _ (λ z=>?_) B⟩;subst z;rw[m] at g;cases g;exact j b _ vs m i r
 obtain⟨P,B⟩:=G b o g;by_cases z:b=e
 . subst z;exact⟨_,O⟩
 exact⟨_,keep b _ z B⟩
theorem qag3{base:Heap}{env:Env}{outer:List Env}{L e:Addr}{oe:Obj}{Q:Unit->Shared->Prop}(f:A.frames=some (env::outer))(r:s.heap.FunFrames base (env::outer))(t:env.frame=some L)(i:s.heap.get? e=some oe)(j:oe.data=.fields vs)(hsz:1 < vs.size)(C:vs[1]? = some .none∨∃ T k c,vs[1]? = some (.ref T)/\T≠e/\s.heap.get? T=some k/\k.data=.fields c/\c[3]? = some .none)(h:∀ h' T,Left s.heap h' ((env::outer).filterMap (·.frame)) e T oe vs[1]? -> Q () { s with heap:=h' }) :
   wpAny M A (noteFrame (.ref e) env) (λ _ s'=>wpAny M A (setFlight (.ref e) none) Q E s') E s:=by
 unfold noteFrame;simp only[t];rcases C with l | ⟨T,k,c,l,u,g,d,y⟩
 . refine wpAny_bind (wpAny_field i j l ?_)
   rw[if_neg (by decide)];exact qL8 (old:=vs[1]?) f r t i j hsz h
 refine wpAny_bind (wpAny_field i j l ?_);rw[if_pos (show (Value.ref T != Value.none)=true from by simp)];refine wpAny_bind (wpAny_field g d y ?_);rw[if_neg (show ¬ ((Value.none == rawInt L)=true) from by simp[rawInt])];have D:=(Array.getElem?_eq_some_iff.mp y).1;refine wpAny_bind (wpAny_setField g d D ?_);have other:∀ b,b≠T->(s.heap.update T (Obj.mapFields (·.setIfInBounds 3 Value.none))).get? b=s.heap.get? b:=λ b a=>zBi _ _ (Ne.symm a)
 have F:∀ b∈(env::outer).filterMap (·.frame),b≠T:=λ b m z=>by
   obtain⟨_,N,n,p⟩:=r.mem m;subst z;rw[g] at n;cases n;exact p c d
 have G:(s.heap.update T (Obj.mapFields (·.setIfInBounds 3 Value.none))).get? T=some { k with data:=.fields (c.setIfInBounds 3 .none) }:=by
   rw[Heap.get?_update_self _ g (Obj.isFreed_of_fields (Obj.data_mapFields d _)),qat2 d]
 have w:(s.heap.update T (Obj.mapFields (·.setIfInBounds 3 Value.none))).FunFrames base (env::outer):=r.of_keeps λ b o a x=>⟨o,(other b λ z=>by subst z;rw[g] at a;cases a;exact x c d).trans a,rfl⟩
 refine qL8 (s:={ s with heap:=s.heap.update T (Obj.mapFields (·.setIfInBounds 3 Value.none)) }) (old:=vs[1]?) f w t ((other e (Ne.symm u)).trans i) j hsz λ h' T' q=>h h' T' ?_
 obtain⟨H,q2,n,p,I⟩:=q;refine⟨by rwa[show (s.heap.update T (Obj.mapFields (·.setIfInBounds 3 Value.none))).objs.size=s.heap.objs.size from Heap.size_update _ _ _] at H,λ b o a J B K=>?_,λ b o a m=>n b o ((other b (F b m)).trans a) m,λ b o a=>?_,I⟩
 . exact q2 b o ((other b λ z=>B (by rw[l,z])).trans a) J B K
 by_cases z:b=T
 . subst z;exact p _ _ G
 exact p b o ((other b z).trans a)
end
end L2
namespace L2
open PySem PySem.Spec PyProof.Rows
def Hx(e C:Addr)(a:Option Addr)(b:Bool)(h:Heap):Prop:=∃ oe vs,h.get? e=some oe/\oe.cls=.ref C/\oe.dict=a/\oe.data=.fields vs/\1 < vs.size/\(b=true->vs[1]? = some .none)
noncomputable abbrev ExcO(e C:Addr)(a:Option Addr)(b:Bool):HO:=.ext (Hx e C a b)
def xdIs(d:Addr)(fs:List (Str×V))(h:Heap):Prop:=∃ mA,h.Ns1 d mA/\(∀ f,RelO (fs.lookup f) (mA f))/\PySem.Within mA (fs.map (·.1))/\fs.length<=1000
abbrev XD(d:Addr)(fs:List (Str×V)):HO:=.ext (xdIs d fs)
section
variable{P:Program}{w:World}{H:Hp}{h:Heap}
theorem qaU5{e C:Addr}{d:Option Addr}{f:Bool}(q:Hx e C d f h):ObjOk P w H h e (ExcO e C d f) :=
 ⟨q,let ⟨c,_,a,_⟩:=q;⟨c,a⟩,λ i j ⟨c,g,a,b⟩ k=>⟨c,g,k _ a,b⟩⟩
theorem qaU6{e C:Addr}{a:Option Addr}{b:Bool}(c:HOk P w H h)(q:H e=some (ExcO e C a b)):Hx e C a b h:=(c e _ q).1
end
structure Fly(n:Nat)(H:Hp)(h:Heap)(a:Addr):Prop where
 ge:n<=a
 tr:∃ C od,H a=some (ExcO a C od false)
 ob:∃ oe vs,h.get? a=some oe/\oe.data=.fields vs/\1 < vs.size/\(vs[1]? = some .none∨∃ T oT ts,vs[1]? = some (.ref T)/\n<=T/\H T=none/\T≠a/\h.get? T=some oT/\oT.data=.fields ts/\ts[3]? = some .none)
theorem Fly.mono{m n:Nat}{H:Hp}{h:Heap}{a:Addr}(F:Fly n H h a)(l:m<=n):Fly m H h a:=by
 obtain⟨b,c,d,e,f,g⟩:=F.ob;refine⟨zAr l F.ge,F.tr,b,c,d,e,f,?_⟩;rcases g with z | ⟨T,i,j,k,o,z⟩
 . exact .inl z
 exact .inr ⟨T,i,j,k,zAr l o,z⟩
def CX1(P:Program)(w:World):CXT:=λ outer H s E e s'=>∃ a H',e=.ref a/\s'.os=s.os/\AllBare s'.gens/\Un (frs outer) [] H H' s.heap s'.heap/\HOk P w H' s'.heap/\Fly s.heap.objs.size H' s'.heap a/\E e none H'
structure Old(X:Cx)(De:List (Addr×Obj))(n:Nat):Prop where
 st:X.s₀.heap.objs.size<=n
 loc:X.env.locals < n
 cell:∀ x c,X.env.cells.lookup x=some c->c < n
 pin:∀ p∈X.pn++De,p.1 < n
theorem Inv.old{X:Cx}{De:List (Addr×Obj)}{σ:St}{H:Hp}{s:Shared}(I:Inv X De σ H s):Old X De s.heap.objs.size :=
 ⟨I.sz,I.lt,λ x c e=>let ⟨_,_,z,_⟩:=I.cell x c e;zA9 z,λ p a=>zA9 (I.pin p a).1⟩
noncomputable def Fv:Option Value->List Addr
 | some (.ref b)=>[b]
 | _=>[]
section
variable{X:Cx}{De:List (Addr×Obj)}{σ:St}{H:Hp}{s:Shared}{a T:Addr}{n:Nat}{h':Heap}{oe:Obj}{vs:Array Value}
theorem Inv.left(I:Inv X De σ H s)(F:Fly n H s.heap a)(O:Old X De n)(m:s.heap.get? a=some oe)(P:oe.data=.fields vs)(L:Left s.heap h' (frs X.stack) a T oe vs[1]?) :
   Inv X De σ H { s with heap:=h' }/\Fly n H h' a:=by
 obtain⟨C,Q,i⟩:=F.tr;obtain⟨t,y,D,q2,q3,E⟩:=F.ob;rw[m] at D;cases D;rw[P] at q2;cases q2;obtain⟨G,R,S,J,e2,V,W,Y,Z,e7⟩:=L.exc;have j:∀ b,vs[1]? = some (.ref b)->n<=b/\H b=none/\b≠a:=λ b z=>by
   rcases E with q | ⟨T',_,_,q,r1,r2,r3,_⟩
   . rw[q] at z;cases z
   rw[q] at z;cases z;exact⟨r1,r2,r3⟩
 have A:HOk X.prog X.w H h':=λ b u f=>by
   by_cases z:b=a
   . subst z
     rw[i] at f;cases f;obtain⟨t,y,K,p2,p3,p4,p5,p6⟩:=qaU6 I.hok i;rw[m] at K;cases K;exact qaU5 ⟨_,G,J,p2,p3,rfl,e2,λ z=>nomatch z⟩
   have M:∀ c,H c≠none->c∉frs X.stack:=λ c d hm=>d (I.stkFree c hm)
   refine(I.hok b u f).stay (λ c v d r=>L.keep c v r ?_ (λ h=>?_) ?_) (λ _ z=>z) λ _ _ z=>z
   . rcases d with rfl | d
     . exact z
     intro h;rw[h,i] at d;cases d
   . have:=(j c h).2.1
     rcases d with rfl | d
     . rw[this] at f;cases f
     rw[this] at d;cases d
   rcases d with rfl | d
   . exact M c (by rw[f];exact λ z=>nomatch z)
   exact M c (by rw[d];exact λ z=>nomatch z)
 refine⟨?_,F.ge,⟨C,Q,i⟩,_,G,J,rfl,e2,.inr ⟨T,R,S,V,zAr (zAr F.ge (zCa (zA9 m))) L.new,I.hok.fresh L.new,W,Y,Z,e7⟩⟩;have k:∀ b,b∈Fv vs[1]? ↔ vs[1]? = some (.ref b):=λ b=>by
   rcases E with q | ⟨T',_,_,q,_⟩
   . rw[q];simp[Fv]
   rw[q];simp[Fv,eq_comm]
 have U:Un (frs X.stack) (Fv vs[1]?) H H s.heap h':=by
   refine⟨λ b o z l B N=>L.keep b o z (λ h=>?_) (λ h=>N ((k b).mpr h)) B,λ b o z l B N=>L.slot b o z B,λ _ _ _ l _=>l,λ b o z _=>L.there b o z,λ _ _ z=>z,λ _ _ _ z=>z,λ b ps z=>⟨#[],by rw[z];simp⟩⟩;rw[h,i] at l;cases l
 exact I.call (g':=s.gens) (t':=s.toks) (d':=s.drawn) (ch:=Fv vs[1]?) U A I.bare λ b f=>by
   have g:=(j b ((k b).mp f)).1;refine⟨.inr (zAr O.st g),Nat.ne_of_gt (zAi O.loc g),λ x c e=>zAq (zAi (O.cell x c e) g),λ p hp=>zAq (zAi (O.pin p hp) g)⟩
end
def Lands(X:Cx)(E:XK):Prop:=∀(De:List (Addr×Obj))(σ:St)(H:Hp)(s:Shared)(a:Addr)(n:Nat),Inv X De σ H s->Fly n H s.heap a->Old X De n->E (.ref a) none H->X.xe (.ref a) s
theorem Lands.passes{X:Cx}{E:XK}(h:Lands X E):qM8 (CX1 X.prog X.w) X E:=λ De σ H s e b I q=>by
 obtain⟨a,H',rfl,c,d,u,f,F,q⟩:=q;exact h De σ H' b a _ (I.call' (ch:=[]) c u f d λ _ z=>nomatch z) F I.old q
theorem qa0{P:Program}{w:World}{K:PySem.W.Frag}{mg:Str->Option Value}{base:Heap}{N:List Str}{qual:Str}{scope:Scope}{f:Addr}{cd:Value}{A:Around}{outer:List Env}{s₀:Shared}{H₀:Hp}{E:XK} :
   Lands (Dt (CX1 P w) P w K mg base N qual scope f cd A outer s₀ H₀ E) E:=λ De σ H s a n I F O q=>by
 obtain⟨p,b,c,d,e,g⟩:=id F.ob;show wpAny _ _ (leaving _ _) _ _ s;unfold leaving;refine wpAny_bind (qag3 (base:=base) (vs:=b) I.ok.frames I.stack rfl c d e ?_ λ r T L=>?_)
 . rcases g with z | ⟨T,h,i,j,_,_,k,l,m,o⟩
   . exact .inl z
   exact .inr ⟨T,h,i,j,k,l,m,o⟩
 obtain⟨J,F'⟩:=I.left (T:=T) F O c d L;exact⟨a,H,rfl,J.os,J.bare,J.base,J.hok,F'.mono O.st,q⟩
end L2
namespace L2
open PySem PySem.Spec PyProof.Rows PySem.SeqAt
open PySem.AutoSeq1 (wpAny_loadPart')
theorem Fun.okX{P:Program}{w:World}{K:PySem.W.Frag}{mg:Str->Option Value}{base:Heap}{x qual:Str}{st:Stmt}{f:Addr}{fd:FuncData}{N ps:List Str}{k:Nat}{sp:Sp}(F:Fun K x qual st f fd)(S:qa8 N ps (qa3 st))(len:∀ vs H Q E,sp vs H Q E->vs.length=ps.length)(hbody:∀(a:Value)(A:Around)(outer:List Env)(s:Shared)(H:Hp)(vs:List V)(Q:VK)(E:XK),Room k (A.deeper (envOfC qual (qa3 st) s.heap.objs.size f a))->sp vs H Q E ->
     ∃ t,PSs (Dt (CX1 P w) P w K mg base N qual (qa3 st) f a A outer s H E) (qc9 st) t/\t { nx:=λ _ H'=>Q .non H',rt:=Q } (start N vs) H):Bz P w K mg base (CX1 P w) (k+1) f fd ps sp:=by
 obtain⟨i,j,kV,d,l,m,a,n,e,rfl,g,b⟩:=F.ex;exact Hu g b S len λ A outer s H vs Q E h c=>hbody a A outer s H vs Q E h c
end L2
namespace L2
open PySem PySem.Spec PyProof.Rows
variable{xs:List V}
section
variable{X:Cx}{De:List (Addr×Obj)}{σ:St}{H:Hp}{s:Shared}{h':Heap}
theorem Inv.turnedL{t':Nat}{ch:List Addr}(I:Inv X De σ H s)(k:∀ b o,b∉ch->s.heap.get? b=some o->h'.get? b=some o)(f:∀ b∈ch,Fn X De H b):Inv X De σ H { s with heap:=h',toks:=t' }:=by
 have d:∀ b u,H b=some u->b∉ch:=λ b u e z=>by rw[(f b z).1] at e;cases e
 refine I.step (g':=s.gens) (d':=s.drawn) (ch:=ch) (λ b g=>?_) (λ b o _ _ a e _=>k b o a e) (λ b o _ _ a e _=>⟨o.slots,k b o a e⟩) (λ _ _ _ _ n=>n)
   (λ b o a e=>⟨o,k b o a e⟩) (λ _ _ e=>e) (λ _ _ _ e=>e) (λ b w e=>⟨#[],by rw[e];simp⟩) (λ m h=>?_) (λ b u e=>?_) I.bare
 . obtain⟨x,f1,f2,f3,i,j⟩:=f b g
   exact⟨f3,f1,i,j⟩
 . obtain⟨o,l,p,t,r⟩:=h
   exact⟨o,l,p,k _ o (λ z=>(f _ z).2.1 rfl) t,r⟩
 refine(I.hok b u e).stay (λ c v a q=>k c v ?_ q) (λ _ q=>q) λ _ _ q=>q
 rcases a with z | z
 . rw[z];exact d b u e
 exact d c _ z
end
def Ite(K:PySem.W.Frag)(a:Addr):It :=
 ⟨λ i H=>∃ xs x,SqL K H a xs/\xs[i]? = some x,λ i H x H'=>∃ t y,x=.ref t/\H t=none/\H'=upd H t (.tup [.int (i:Int),y])/\∀ xs,SqL K H a xs->xs[i]? = some y,λ i H=>∃ xs,SqL K H a xs/\xs.length<=i⟩
theorem qal2{P:Program}{w:World}{K:PySem.W.Frag}{elts:List Expr}{x1:Nat}{pos:Pos}(a it e:Addr)(m:e≠it):Hq P w K (.Tuple elts x1 pos) (Ite K a) [e,it] e (λ i h=>(∃ old,IsEnum h e it (i:Nat) old)/\h.IsListIter it a i) where
 mem:=by simp
 obj:=λ i h d b c=>by
   obtain⟨⟨old,f⟩,o,ho,C,hd⟩:=d;rcases zAo.mp c with rfl | c
   . exact⟨_,f,λ v z=>by
       have z':Data.fields _=Data.cell v:=z;cases z'⟩
   rw[zAe.mp c];exact⟨o,ho,λ v z=>by rw[hd] at z;cases z⟩
 keep:=λ i h Z d k=>by
   obtain⟨⟨old,f⟩,d⟩:=d;exact⟨⟨old,k e (by simp) _ f⟩,d.at λ o q=>k it (by simp) o q⟩
 item:=by
   intro X D F G C i De s σ H E I n d J;subst D F G;obtain⟨xs,x,B,L⟩:=J;obtain⟨⟨old,f⟩,g⟩:=d;obtain⟨M,N,p,hz⟩:=I.list B;obtain⟨u,hu,ru⟩:=N.get L;have O:H s.heap.objs.size=none:=I.hok.fresh (zA3 _);obtain⟨oi,Q,_⟩:=id g;have r:e < s.heap.objs.size:=zA9 f;have t:it < s.heap.objs.size:=zA9 Q;refine wpAny_pyNext_enum_item f g p.isList (x:=u) (by simpa using hu) m λ h1 R y S a0 T=>?_
   refine⟨_,rfl,wpAny_letOwnedTupleGo_enum (s:={ s with heap:=h1,toks:=s.toks+1 }) R λ U V j=>?_⟩
   replace j:Heap.SameBut e h1 U:=j
   have I0:Inv X De σ (upd H s.heap.objs.size (.tup [.int (i:Int),x])) { s with heap:=s.heap.push { cls:=.type "tuple",data:=.seq #[.int i s.toks,u] },toks:=s.toks+1 } :=
     I.laid (λ b o q=>zA4 _ q) (zA3 _) ⟨by show 2<=sizeLine;decide,[.int i s.toks,u],.cons ⟨_,rfl⟩ (.cons ru .nil),⟨_,zAx _ rfl,rfl,_,rfl⟩⟩
   have I2:Inv X De σ (upd H s.heap.objs.size (.tup [.int (i:Int),x])) { s with heap:=U,toks:=s.toks+1 }:=by
     refine Inv.turnedL (s:={ s with heap:=s.heap.push { cls:=.type "tuple",data:=.seq #[.int i s.toks,u] },toks:=s.toks+1 }) (h':=U) (ch:=[e,it]) (t':=s.toks+1) I0 (λ b o c q=>?_) (λ b c=>?_)
     . have A:b≠e:=λ z=>c (by simp[z])
       have Y:b≠it:=λ z=>c (by simp[z])
       refine j.extBut b o A ?_;rcases Heap.get?_push_cases (show (s.heap.push { cls:=.type "tuple",data:=.seq #[.int i s.toks,u] }).get? b=some o from q) with⟨rfl,rfl⟩ | q
       . exact S
       exact T b o A Y q
     refine⟨?_,(n b c).2⟩;have l:b < s.heap.objs.size:=by
       rcases zAo.mp c with rfl | c
       . exact r
       rw[zAe.mp c];exact t
     rw[qd0 (zAq l)];exact(n b c).1
   refine⟨.ref s.heap.objs.size,_,I2,rfl,⟨_,x,rfl,O,rfl,λ ys hy=>by rw[I.list_inj hy B];exact L⟩,⟨⟨u,?_⟩,?_⟩,λ b c=>?_⟩
   . have:((i+1:Nat):Int)=(i:Int)+1:=by push_cast;rfl
     rw[this];exact V
   . exact y.extBut j.extBut (Ne.symm m)
   have l:b < s.heap.objs.size:=by
     rcases zAo.mp c with rfl | c
     . exact r
     rw[zAe.mp c];exact t
   rw[qd0 (zAq l)];exact(n b c).1
 done:=by
   intro X D F G C i De s σ H E I n d J;subst D F G;obtain⟨xs,B,L⟩:=J;obtain⟨⟨old,f⟩,g⟩:=d;obtain⟨M,N,p,hz⟩:=I.list B;obtain⟨f0,f1,f2,f3,f4,f5⟩:=n it (by simp);have hl:=N.length;exact wpAny_pyNext_enum_end (I.ok.hd C) f g p.isList (by simp;lia) λ Z eb=>⟨rfl,I.turned (t':=s.toks) (λ b o c q=>eb b o c q) f0 f1 f3 f4 f5⟩
 self:=λ _ _ _ _ _ d h=>by
   obtain⟨⟨old,f⟩,_⟩:=d;exact wpAny_pyIter_enum f h
section
variable{X:Cx}
def iEnum(K:PySem.W.Frag)(ta:TA):TI:=λ σ H R=>ta σ H λ vs H1=>∃ a,vs=[.ref a]/\(∃ xs,SqL K H1 a xs)/\R (Ite K a) H1
theorem qaH0{l:Expr}{ta:TA}{elts:List Expr}{j:Nat}{p pos tpos:Pos}(k:Gl X "enumerate")(hm:X.mg "enumerate" = none)(m:PA X [l] ta)(n:starEach [l] X.env=[(false,eval l X.env)]:=by rfl):PI X (.Tuple elts j tpos) (.Call (.Name "enumerate" p) [l] [] pos) (iEnum X.K ta):=by
 intro De s σ H R I h;refine Call_ (qag5 I k hm boot_enumerate (PyProof.Rows.callWith_type1 (thn (m pos De s σ H _ I h) λ B c f=>?_) n rfl));obtain⟨C,H1,I1,o,t⟩:=f;obtain⟨a,e,⟨D,u⟩,q⟩:=t;subst e;cases o with
 | cons r v =>
   cases v;cases r;obtain⟨w,E,x,F⟩:=I1.list u;refine call_enumerate_list x.isList λ G i y z A=>?_
   refine wpAny_pyIter_enum i ?_;refine⟨c.heap.objs.size+1,[c.heap.objs.size+1,c.heap.objs.size],_,_,H1,rfl,I1.kept (t':=c.toks) A,qal2 a c.heap.objs.size (c.heap.objs.size+1) (Nat.succ_ne_self _),⟨⟨_,i⟩,y⟩,λ b g=>?_,q⟩;have d:c.heap.objs.size<=b:=by
     rcases zAo.mp g with rfl | g
     . exact Nat.le_succ _
     rw[zAe.mp g];exact zA3 _
   exact I1.fpOk d (I1.hok.fresh d)
end
section
variable{X:Cx}
def qaF4:V->List V->Hp->VK->Prop:=λ x vs H Q=>∃ l xs y j z,x=.ref l/\vs=[y]/\H l=some (.lst xs)/\flatV y=true/\xs.all flatV=true/\xs[j]? = some z/\eqV z y=true/\(∀ m z',m < j->xs[m]? = some z'->eqV z' y=false)/\Q (.int (j:Nat)) H
theorem Vals.getU{us:List Value}(r:Vals xs us){j:Nat}{u:Value}(h:us[j]? = some u):∃ x,xs[j]? = some x/\RelV x u:=by
 have c:=r.length;have d:j < us.length:=(zA2.mp h).1;obtain⟨e,a,b⟩:=r.get (show xs[j]? = some xs[j] by simp);rw[h] at a;cases a;exact⟨_,by simp,b⟩
theorem qaf3:MtM X "list.index" qaF4:=by
 intro De s σ H x N v O Q I f C h;obtain⟨l,p,y,j,P,rfl,rfl,D,E,t,A,g,i,q⟩:=h;cases f;obtain⟨u,rfl,G⟩:=C.one;obtain⟨z,a,n,r,R,e⟩:=I.lstM D;have J:j < p.length:=(zA2.mp A).1;have B:=r.length;have small:((j:Nat):Int) < 2 ^ 63 - 1:=by
   have:sizeLine < 2 ^ 62:=by decide
   lia
 have eqAt:∀ m (d:m < a.toArray.size),∃ x,p[m]? = some x/\eqU y a.toArray[m]=eqV x y:=λ m d=>by
   have K:m < a.length:=by simpa using d
   obtain⟨x,b,f⟩:=r.getU (show a[m]? = some a[m] by simp);have L:flatV x=true:=zBg.mp t x (zAy b);refine⟨x,b,?_⟩
   have:=qap4 (x:=y) f L
   simpa using this
 have c:j < a.toArray.size:=by simp;lia
 refine call_meets F.slot_list_index ⟨_,e,rfl⟩ F.entry_list_index (F.args_list_index_2 _ _) (SeqAt.list_indexAt l a.toArray n none #[] u (eqU y) j c small ?_ ?_) ⟨e,λ w M=>qq2 G E r t w (by simpa using M),⟨.int (j:Nat),H,I.tok _,⟨_,rfl⟩,q⟩⟩
 . obtain⟨x,b,k⟩:=eqAt j c
   rw[A] at b;cases b;rw[k];exact g
 intro m d o;obtain⟨x,b,k⟩:=eqAt m d;rw[k];exact i m x o b
def qaF6:V->List V->Hp->VK->Prop:=λ x vs H Q=>∃ l xs y,x=.ref l/\vs=[y]/\H l=some (.lst xs)/\flatV y=true/\xs.all flatV=true/\Q (.int (xs.countP (λ z=>eqV z y):Nat)) H
theorem qW3{x:V}:∀{xs:List V}{us:List Value},Vals xs us->xs.all flatV=true->us.countP (eqU x)=xs.countP λ y=>eqV y x
 | _,_,.nil,_=>rfl
 | y::xs,u::us,.cons r t,f=>by
   rw[List.all_cons,zBj] at f;rw[List.countP_cons,List.countP_cons,qap4 r f.1,qW3 t f.2]
theorem qaz9:MtM X "list.count" qaF6:=by
 intro De s σ H x k v m Q I c d h;obtain⟨l,o,y,rfl,rfl,f,g,b,q⟩:=h;cases c;obtain⟨u,rfl,i⟩:=d.one;obtain⟨z,a,n,r,p,e⟩:=I.lstM f;refine call_meets F.slot_list_count ⟨_,e,rfl⟩ F.entry_list_count (F.args_list_count_2 _ _) (SeqAt.list_countAt l a.toArray n none #[] u (eqU y)) ⟨e,λ w j=>qq2 i g r b w (by simpa using j),⟨.int _,H,I.tok _,⟨_,rfl⟩,?_⟩⟩;rw[show a.toArray.toList.countP (eqU y)=a.countP (eqU y) by simp,qW3 r b];exact q
end
theorem qaU2{K:PySem.W.Frag}{a:Addr}{g:TG}{tb:TS}{D:Dr}{σ:St}{H:Hp}(Pv:Nat->St->Hp->Prop)(d:Pv 0 σ H)(f:∀ i σ H,i<=xs.length->Pv i σ H->SqL K H a xs)(h:∀(i:Nat) x σ H t,xs[i]? = some x->Pv i σ H->H t=none->g (.ref t) σ (upd H t (.tup [.int (i:Int),x])) λ σ2 H2=>tb { D with nx:=Pv (i+1),ct:=Pv (i+1),bk:=D.nx } σ2 H2)(j:∀ σ H,Pv xs.length σ H->D.nx σ H) :
   ∃ W:Nat->Nat->St->Hp->Prop,(∃ m,W 0 m σ H)/\∀ i m σ H,W i m σ H ->
     ((Ite K a).stop i H/\D.nx σ H)∨((Ite K a).go i H/\∃ N:St->Hp->Prop,(∀ σ' H',N σ' H'->∃ c,c < m/\W (i+1) c σ' H')/\∀ x H',(Ite K a).yld i H x H'->g x σ H' λ σ2 H2=>tb { D with nx:=N,ct:=N,bk:=D.nx } σ2 H2):=by
 refine⟨λ i m σ H=>m=xs.length - i/\i<=xs.length/\Pv i σ H,⟨xs.length,by simp,zBh _,d⟩,?_⟩;rintro i m σ H ⟨rfl,k,p⟩;have q:=f i σ H k p;by_cases b:i < xs.length
 . refine .inr ⟨⟨xs,xs[i],q,by simp[b]⟩,Pv (i+1),λ σ' H' l=>⟨xs.length - (i+1),by lia,rfl,b,l⟩,λ x H' y=>?_⟩
   obtain⟨t,n,e,o,r,s⟩:=y;subst e r;exact h i n σ _ t (s xs q) p o
 have e:i=xs.length:=by lia
 subst e;exact .inl ⟨⟨xs,q,zA3 _⟩,j σ H p⟩
theorem qaq0{K:PySem.W.Frag}{a D:Addr}{g:TG}{tf:TT}{te:TE}{R:Hp->Prop}{σ:St}{H:Hp}(Pv:Nat->St->Hp->Prop)(c:Pv 0 σ H)(d:∀ i σ H,i<=xs.length->Pv i σ H->SqL K H a xs)(f:∀(i:Nat) x σ H t,xs[i]? = some x->Pv i σ H->H t=none->g (.ref t) σ (upd H t (.tup [.int (i:Int),x])) λ σ2 H2=>tf σ2 H2 λ h H3=>if h=true then te σ2 H3 λ v H4=>∃ ys,H4 D=some (.lst ys)/\ys.length < sizeLine/\Pv (i+1) σ2 (upd H4 D (.lst (ys++[v]))) else Pv (i+1) σ2 H3)(j:∀ σ H,Pv xs.length σ H->R H) :
   qI7 (Ite K a) g tf te D R σ H:=by
 refine⟨λ i m σ H=>m=xs.length - i/\i<=xs.length/\Pv i σ H,⟨xs.length,by simp,zBh _,c⟩,?_⟩;rintro i m σ H ⟨rfl,k,p⟩;have q:=d i σ H k p;by_cases b:i < xs.length
 . refine .inr ⟨⟨xs,xs[i],q,by simp[b]⟩,Pv (i+1),λ σ' H' l=>⟨xs.length - (i+1),by lia,rfl,b,l⟩,λ x H' y=>?_⟩
   obtain⟨t,n,e,o,r,s⟩:=y;subst e r;exact f i n σ _ t (s xs q) p o
 have e:i=xs.length:=by lia
 subst e;exact .inl ⟨⟨xs,q,zA3 _⟩,j σ H p⟩
end L2
namespace L2
open PySem PySem.Spec PyProof.Rows
noncomputable def qaA7:List String:=["NoneType", "bool", "int", "str", "list", "tuple", "dict"]
structure IsO(K:PySem.W.Frag)(C:Addr):Prop where
 ca:PySem.W.findIn K (.ref C) "__class__" = some (some (.builtin "object.__class__"))
 cn:PySem.W.specialIn K (.builtin "object.__class__") "__get__" = some (some (.builtin "getset_descriptor.__get__"))
 ct:PySem.W.takesIn K (.builtin "object.__class__")=some true
 cm:PySem.W.mroIn K C (.type "object")=some true
 kf:∀ t∈qaA7,PySem.W.kitOne K (.type t) (.ref C)=some false
theorem kf_of{K:PySem.W.Frag}{C:Addr}(h1:PySem.W.kitOne K (.type "NoneType") (.ref C)=some false)(h2:PySem.W.kitOne K (.type "bool") (.ref C)=some false)(b:PySem.W.kitOne K (.type "int") (.ref C)=some false)(c:PySem.W.kitOne K (.type "str") (.ref C)=some false)(d:PySem.W.kitOne K (.type "list") (.ref C)=some false)(e:PySem.W.kitOne K (.type "tuple") (.ref C)=some false)(f:PySem.W.kitOne K (.type "dict") (.ref C)=some false) :
   ∀ t∈qaA7,PySem.W.kitOne K (.type t) (.ref C)=some false:=by
 intro t a;unfold qaA7 at a;simp only[zAo,zC6,or_false] at a;rcases a with rfl | rfl | rfl | rfl | rfl | rfl | rfl<;>assumption
section
variable{X:Cx}
def rIsO(C:Addr):List V->Hp->VK->Prop:=λ xs H Q=>∃ x,xs=[x,.ref C]/\((∃ a dx fs,x=.ref a/\H a=some (.ins C dx fs)/\Q (.bl true) H)∨(∃ t,B6 H x=some t/\Q (.bl false) H))
theorem qaj4{C:Addr}(b:IsO X.K C)(g:Cls X.K C):CallR X (.builtin "isinstance") (rIsO C):=by
 intro De s σ H k l Q I r h;obtain⟨x,rfl,h⟩:=h;obtain⟨u,m,rfl,f,c⟩:=Hs r;cases c;rcases h with⟨a,dx,fs,rfl,ha,q⟩ | ⟨t,hk,q⟩
 . have e:PySem.W.kitOne X.K (.ref C) (.ref C)=some true:=by
     unfold PySem.W.kitOne;rw[if_pos (by simp)]
   exact qH9 I f (.ins ha g b.ca b.cn b.ct b.cm) e λ d=>⟨.bl true,H,I.tok d,rfl,q⟩
 obtain⟨i,j⟩:=qag8 (K:=X.K) hk;exact qH9 I f i (b.kf t j) λ d=>⟨.bl false,H,I.tok d,rfl,q⟩
theorem qaQ1{x:Str}(C:Addr){pos:Pos}(hm:X.mg x=some (.ref C))(a:Gl X x:=by rfl)(b:(x == ("__debug__" : Str))=false:=by decide):PE X (.Name x pos) (tC (.ref C)):=qas7 a hm rfl b
end
end L2
namespace Row
variable{a i j q s t:Nat}{g':Nat->Option Int}{x y:Int}
noncomputable def Ab(n h r:Nat):Nat:=if h<=r then r - h else r+n - h
noncomputable def prev(n r:Nat):Nat:=if r=0 then n - 1 else r - 1
noncomputable def next(n r:Nat):Nat:=if r+1=n then 0 else r+1
def ahead(n:Nat)(hm:Int->Nat)(r:Nat)(x y:Int):Prop:=Ab n (hm y) r < Ab n (hm x) r∨(Ab n (hm x) r=Ab n (hm y) r/\x < y)
theorem qv7{n:Nat}{hm:Int->Nat}{r:Nat}{z:Int}(h:ahead n hm r x y)(h':ahead n hm r y z):ahead n hm r x z:=by
 unfold ahead at *;lia
theorem qM7{n:Nat}{hm:Int->Nat}{r:Nat}(h:ahead n hm r x y)(h':ahead n hm r y x):False:=by
 unfold ahead at *;lia
theorem qar0{n:Nat}{hm:Int->Nat}{r:Nat}(h:ahead n hm r x x):False:=qM7 h h
theorem qaq9{n:Nat}{hm:Int->Nat}{r:Nat}(h:x≠y)(h':¬ ahead n hm r x y):ahead n hm r y x:=by
 unfold ahead at *;lia
theorem ql1{n r:Nat}(h:r < n):next n r < n:=by unfold next;split<;>lia
theorem qi7{n r:Nat}(h:r < n):prev n r < n:=by unfold prev;split<;>lia
theorem qk1{n r:Nat}(h:r < n):prev n (next n r)=r:=by unfold prev next;split<;>split<;>lia
theorem qH1{n r:Nat}(h:r < n):next n (prev n r)=r:=by unfold prev next;split<;>split<;>lia
theorem qi0{n r:Nat}(h:r < n)(b:a < n):Ab n a r < n:=by unfold Ab;split<;>lia
theorem qi4{n r:Nat}(b:a < n)(h:r < n)(h':s < n)(e:Ab n a r=Ab n a s):r=s:=by
 unfold Ab at e;split at e<;>split at e<;>lia
theorem qb5{n r:Nat}(b:a < n)(h:r < n):Ab n a r=0↔r=a:=by unfold Ab;split<;>lia
theorem qd5{n r:Nat}(c:a < n)(h:r < n)(b:0 < Ab n a r):Ab n a (prev n r)=Ab n a r - 1:=by
 unfold Ab prev at *;split at b<;>split<;>split<;>lia
theorem qk8{n r:Nat}(c:a < n)(h:r < n)(b:Ab n a r+1 < n):Ab n a (next n r)=Ab n a r+1:=by
 unfold Ab next at *;split at b<;>split<;>split<;>lia
theorem nor(n s:Nat):(s+1=n/\next n s=0)∨(s+1≠n/\next n s=s+1):=by unfold next;split<;>lia
theorem por(n s:Nat):(s=0/\prev n s=n - 1)∨(s≠0/\prev n s=s - 1):=by unfold prev;split<;>lia
theorem dor(n a r:Nat):(a<=r/\Ab n a r+a=r)∨(r < a/\(a<=r+n->Ab n a r+a=r+n)):=by
 unfold Ab;split<;>lia
theorem Dm{n:Nat}(b:a < n)(hi:i < n)(c:s < n)(h:Ab n a i<=Ab n a s):Ab n a i+Ab n i s=Ab n a s:=by
 have d:=dor n a i;have e:=dor n a s;have f:=dor n i s;lia
theorem Hd{n:Nat}(b:a < n)(c:s < n)(d:t < n)(h:Ab n a s < Ab n a t):Ab n t s+Ab n a t=n+Ab n a s:=by
 have e:=dor n a s;have f:=dor n a t;have g:=dor n t s;lia
theorem qaV0{n:Nat}(a:s < n):Ab n (next n s) s+1=n:=by
 have b:=dor n (next n s) s;have c:=nor n s;lia
theorem qap7{n b:Nat}(f:a < n)(c:b < n)(d:j < n)(hi:i < n)(h1:Ab n a i<=Ab n a j)(h2:Ab n a j<=Ab n b j):Ab n b i+(Ab n a j - Ab n a i)=Ab n b j:=by
 have g:=Dm f hi d h1;have h:=qi0 hi c;rcases Nat.lt_or_ge (Ab n b j) (Ab n b i) with e | e
 . have:=Hd c d hi e
   lia
 have:=Dm c hi d e
 lia
structure Ord(n:Nat)(hm:Int->Nat)(g:Nat->Option Int):Prop where
 home:∀ k,hm k < n
 inj:∀ i j k,i < n->j < n->g i=some k->g j=some k->i=j
 ord:∀ i k,i < n->g i=some k->0 < Ab n (hm k) i->∃ x,g (prev n i)=some x/\ahead n hm (prev n i) x k
def He(n:Nat)(hm:Int->Nat)(g:Nat->Option Int):Prop:=∃ i,i < n/\∀ k,g i=some k->hm k=i
theorem Ord.path{n:Nat}{hm:Int->Nat}{g:Nat->Option Int}(O:Ord n hm g):∀(m j i:Nat)(z:Int),j < n->i < n->g j=some z->Ab n (hm z) i+m+1=Ab n (hm z) j->∃ x,g i=some x/\ahead n hm i x z
 | 0,j,i,z,hj,hi,hz,e=>by
   have a:0 < Ab n (hm z) j:=by lia
   obtain⟨x,b,c⟩:=O.ord j z hj hz a
   have:=qd5 (O.home z) hj a
   have f:i=prev n j:=qi4 (O.home z) hi (qi7 hj) (by lia);rw[f];exact⟨x,b,c⟩
 | m+1,j,i,z,hj,hi,hz,e=>by
   have a:0 < Ab n (hm z) j:=by lia
   obtain⟨x,b,c⟩:=O.ord j z hj hz a;have o:=qd5 (O.home z) hj a;have d:=qi7 hj;have h:Ab n (hm z) (prev n j)<=Ab n (hm x) (prev n j):=by unfold ahead at c;lia
   have p:=qap7 (O.home z) (O.home x) d hi (by lia) h;obtain⟨y,k,l⟩:=O.path m (prev n j) i x d hi b (by lia);refine⟨y,k,qv7 l ?_⟩;unfold ahead at *;lia
theorem Ord.path'{n:Nat}{hm:Int->Nat}{g:Nat->Option Int}(O:Ord n hm g){z:Int}(a:j < n)(hi:i < n)(b:g j=some z)(h:Ab n (hm z) i < Ab n (hm z) j):∃ x,g i=some x/\ahead n hm i x z :=
 O.path (Ab n (hm z) j - Ab n (hm z) i - 1) j i z a hi b (by lia)
def E9(n:Nat)(hm:Int->Nat)(g:Nat->Option Int)(s:Nat):Prop:=∀ j z,j < n->g j=some z->Ab n (hm z) j<=Ab n (hm z) s
theorem Ord.zero{n:Nat}{hm:Int->Nat}{g:Nat->Option Int}(O:Ord n hm g)(C:He n hm g):∃ s,s < n/\E9 n hm g s:=by
 obtain⟨i,b,h⟩:=C;have l:=qi7 b;refine⟨prev n i,l,λ j z c k=>zC5 λ m=>?_⟩;have a:=O.home z;by_cases d:Ab n (hm z) i=0
 . have e:=(qb5 a b).mp d
   have:=qi0 c a
   have e2:Ab n (hm z) (prev n i)=n - 1:=by
     unfold Ab prev at *
     split<;>split<;>lia
   lia
 have q:=qd5 a b (by lia);by_cases f:Ab n (hm z) i=Ab n (hm z) j
 . have e:i=j:=qi4 a b c f
   subst e
   have:=h z k
   rw[this,(qb5 b b).mpr rfl] at d;exact d rfl
 obtain⟨x,o,p⟩:=O.path' c b k (by lia);have e:=h x o
 have:Ab n (hm x) i=0:=(qb5 (O.home x) b).mpr e.symm
 unfold ahead at p;lia
theorem qV3{α:Type}[DecidableEq α](x:α):∀(S:List α),S.Nodup->S.length<=(S.filter (λ y=>decide (y≠x))).length+1
 | [],_=>by simp
 | a::S,h=>by
   have b:=zBz.mp h;by_cases e:a=x
   . subst e
     have:S.filter (λ y=>decide (y≠a))=S:=List.filter_eq_self.mpr λ y c=>by
       simp only[ne_eq,zBb];intro z;subst z;exact b.1 c
     rw[zC3 (by simp),this];simp
   rw[zC2 (by simpa using e)]
   have:=qV3 x S b.2
   simp only[zAp];lia
theorem qq5{α:Type}[DecidableEq α](x:α):∀(S:List α),x∈S->(S.filter (λ y=>decide (y≠x))).length+1<=S.length
 | [],h=>by simp at h
 | a::S,h=>by
   by_cases e:a=x
   . rw[zC3 (by simp[e])]
     have:=zBw (λ y=>decide (y≠x)) S
     simp only[zAp];lia
   rw[zC2 (by simpa using e)]
   have:=qq5 x S (by rcases zAo.mp h with z | z;exact absurd z.symm e;exact z)
   simp only[zAp];lia
theorem qE0{g:Nat->Option Int}:∀(L:List Nat)(S:List Int),S.Nodup->(∀ k∈S,∃ i∈L,g i=some k)->S.length<=L.length
 | [],S,_,h=>by
   cases S with
   | nil=>simp
   | cons k _=>obtain⟨i,f,_⟩:=h k (by simp);simp at f
 | i::L,S,hn,h=>by
   cases d:g i with
   | none =>
     have:=qE0 L S hn λ k a=>by
       obtain⟨j,c,e⟩:=h k a;rcases zAo.mp c with z | z
       . rw[z,d] at e;cases e
       exact⟨j,z,e⟩
     simp only[zAp];lia
   | some x =>
     have m:=qE0 L (S.filter (λ y=>decide (y≠x))) (hn.filter _) λ k a=>by
       obtain⟨a,b⟩:=zAv.mp a;obtain⟨j,c,e⟩:=h k a;rcases zAo.mp c with z | z
       . rw[z,d] at e
         have l:x=k:=Option.some.inj e;rw[l] at b;simp at b
       exact⟨j,z,e⟩
     have n:=qV3 x S hn;simp only[zAp];lia
theorem qT3{g:Nat->Option Int}:∀(L:List Nat)(S:List Int),L.Nodup->(∀ i∈L,∃ k∈S,g i=some k)->(∀ i∈L,∀ j∈L,∀ k,g i=some k->g j=some k->i=j)->L.length<=S.length
 | [],S,_,_,_=>by simp
 | i::L,S,c,h,inj=>by
   obtain⟨x,f,l⟩:=h i (by simp);have c:=zBz.mp c;have p:=qT3 L (S.filter (λ y=>decide (y≠x))) c.2 (λ j d=>by
     obtain⟨k,m,e⟩:=h j (zA6 _ d);refine⟨k,zAv.mpr ⟨m,?_⟩,e⟩;simp only[ne_eq,zBb];intro z;subst z
     have:=inj i (by simp) j (zA6 _ d) k l e
     exact c.1 (this ▸ d)) λ a n b o=>inj a (zA6 _ n) b (zA6 _ o)
   have q:=qq5 x S f;simp only[zAp];lia
def Holds(n:Nat)(g:Nat->Option Int)(S:List Int):Prop:=S.Nodup/\∀ k,k∈S↔∃ i,i < n/\g i=some k
theorem qak6{n:Nat}{hm:Int->Nat}{g:Nat->Option Int}{S:List Int}(O:Ord n hm g)(O':Ord n hm g')(C':He n hm g')(J:Holds n g S)(w:Holds n g' S)(p:s < n)(Z:E9 n hm g s):E9 n hm g' s:=by
 obtain⟨K,F,Z'⟩:=O'.zero C';intro j z B q;refine zC5 λ v=>?_
 have R:∀ m,(∃ t,t < n/\Ab n t s<=m/\E9 n hm g' t)->∃ t,t < n/\E9 n hm g' t/\∀ u,u < n->Ab n u s < Ab n t s->¬ E9 n hm g' u:=by
   intro m
   induction m with
   | zero =>
     rintro⟨t,l,T,q⟩;exact⟨t,l,q,λ u _ h=>absurd h (by lia)⟩
   | succ m U =>
     rintro⟨t,l,T,q⟩;by_cases L:∃ u,u < n/\Ab n u s<=m/\E9 n hm g' u
     . exact U L
     exact⟨t,l,q,λ u V h W=>L ⟨u,V,by lia,W⟩⟩
 obtain⟨t,l,Zt,near⟩:=R (Ab n K s) ⟨K,F,zA3 _,Z'⟩
 let d:Nat->Bool:=λ r=>decide (Ab n r s < Ab n t s)
 have arcOf:∀ r,d r=true↔Ab n r s < Ab n t s:=λ r=>decide_eq_true_iff
 have o:=O'.home z;have M:=Zt j z B q;have Dz:Ab n (hm z) s < Ab n t s:=by
   have G:=Hd o p l (zAi v M);have e2:=qi0 l o;lia
 have Dj:¬ Ab n j s < Ab n t s:=by
   have G:=Hd o p l (zAi v M);have e2:=Hd o p B v;lia
 have X:z∈S.filter (λ k=>d (hm k)):=zAv.mpr ⟨(w.2 z).mpr ⟨j,B,q⟩,(arcOf _).mpr Dz⟩;have p1:(S.filter (λ k=>d (hm k))).length<=((List.range n).filter d).length:=by
   refine qE0 (g:=g) _ _ (J.1.filter _) λ k H=>?_
   obtain⟨H,N⟩:=zAv.mp H;obtain⟨i,c,P⟩:=(J.2 k).mp H;have N:=(arcOf _).mp N;have Y:=Z i k c P;have f:=O.home k;refine⟨i,zAv.mpr ⟨zAn.mpr c,(arcOf _).mpr ?_⟩,P⟩;have G:=Dm f c p Y;lia
 have p2:((List.range n).filter d).length<=((S.filter (λ k=>d (hm k))).filter (λ y=>decide (y≠z))).length:=by
   refine qT3 (g:=g') _ _ (List.nodup_range.filter _) (λ i c=>?_) λ a ha b hb k=>O'.inj a b k (zAn.mp (zAv.mp ha).1) (zAn.mp (zAv.mp hb).1)
   obtain⟨c,C⟩:=zAv.mp c;have c:=zAn.mp c;have C:=(arcOf _).mp C;have nz:=near i c C;obtain⟨k,D⟩:∃ k,g' i=some k:=by
     cases e:g' i with
     | some k=>exact⟨k,rfl⟩
     | none =>
       refine absurd (λ j' y I hy=>zC5 λ A=>?_) nz;obtain⟨x,Q,_⟩:=O'.path' I c hy A;rw[e] at Q;cases Q
   have ki:=Zt i k c D;have f:=O'.home k;refine⟨k,zAv.mpr ⟨zAv.mpr ⟨(w.2 k).mpr ⟨i,c,D⟩,(arcOf _).mpr ?_⟩,?_⟩,D⟩
   . have l1:=qi0 l f
     rcases Nat.lt_or_ge (Ab n (hm k) s) (Ab n (hm k) t) with E | E
     . have:=Hd f p l E
       lia
     have G:=Dm f l p E;have e2:=Dm f c p (zAr ki E);lia
   simp only[ne_eq,zBb];intro e;subst e
   have:=O'.inj i j k c B D q
   subst this;exact Dj C
 have p3:=qq5 z _ X;lia
theorem qak4{n:Nat}{hm:Int->Nat}{g:Nat->Option Int}{S:List Int}(O:Ord n hm g)(O':Ord n hm g')(z:Holds n g S)(l:Holds n g' S)(t:s < n)(Z:E9 n hm g s)(Z':E9 n hm g' s)(c:j < n)(A:∀ i,i < n->Ab n (next n s) i < Ab n (next n s) j->g i=g' i)(m:g j=some x):g' j=some x:=by
 have a:=ql1 t;have pos:∀{f:Nat->Option Int},E9 n hm f s->∀{i k},i < n->f i=some k->Ab n (next n s) (hm k)<=Ab n (next n s) i:=λ{f} Zf {i k} h D=>by
   have u:=Zf i k h D;have b:=O.home k;have P:=qaV0 t;have Q:=qi0 b a;have E:=Dm a b t (by lia);refine zC5 λ F=>?_
   have e2:=Hd a h b F;lia
 have o:∀{i k},i < n->Ab n (next n s) (hm k)<=Ab n (next n s) j->Ab n (next n s) j < Ab n (next n s) i->Ab n (hm k) j < Ab n (hm k) i:=λ{i k} h u G=>by
   have b:=O.home k;have E:=Dm a b c u;have e2:=Dm a b h (zAr u (zCa G));lia
 obtain⟨p,d,q⟩:=(l.2 x).mp ((z.2 x).mpr ⟨j,c,m⟩);have H:=pos Z c m;by_cases I:Ab n (next n s) p < Ab n (next n s) j
 . have e:=A p d I
   rw[q] at e
   have:=O.inj p j x d c e m
   subst this;exact q
 by_cases J:Ab n (next n s) p=Ab n (next n s) j
 . have e:=qi4 a d c J
   subst e;exact q
 exfalso;obtain⟨y,v,B⟩:=O'.path' d c q (o d H (by lia));obtain⟨i,h,r⟩:=(z.2 y).mp ((l.2 y).mpr ⟨j,c,v⟩);have K:=pos Z' c v;by_cases L:Ab n (next n s) i < Ab n (next n s) j
 . have e:=A i h L
   rw[r] at e
   have:=O'.inj i j y h c e.symm v
   subst this;lia
 by_cases M:Ab n (next n s) i=Ab n (next n s) j
 . have e:=qi4 a h c M
   subst e;rw[m] at r;cases r;exact qar0 B
 obtain⟨w,C,N⟩:=O.path' h c r (o h K (by lia));rw[m] at C;cases C;exact qM7 B N
theorem qay7{n:Nat}{hm:Int->Nat}{g:Nat->Option Int}{S:List Int}(O:Ord n hm g)(O':Ord n hm g')(C:He n hm g)(C':He n hm g')(d:Holds n g S)(a:Holds n g' S):∀ j,j < n->g j=g' j:=by
 obtain⟨s,f,Z⟩:=O.zero C;have Z':=qak6 O O' C' d a f Z;have main:∀ m j,j < n->Ab n (next n s) j < m->g j=g' j:=by
   intro m
   induction m with
   | zero=>intro j _ h;exact absurd h (by lia)
   | succ m l =>
     intro j c p;have b:∀ i,i < n->Ab n (next n s) i < Ab n (next n s) j->g i=g' i:=λ i k h=>l i k (by lia)
     cases e:g j with
     | some x=>exact(qak4 O O' d a f Z Z' c b e).symm
     | none =>
       cases o:g' j with
       | none=>rfl
       | some y =>
         have:=qak4 O' O a d f Z' Z c (λ i k h=>(b i k h).symm) o
         rw[e] at this;cases this
 exact λ j c=>main _ j c (Nat.lt_succ_self _)
noncomputable def set(g:Nat->Option Int)(r:Nat)(c:Int):Nat->Option Int:=λ j=>if j=r then some c else g j
theorem qb7{g:Nat->Option Int}{r:Nat}{c:Int}:set g r c r=some c:=by unfold set;rw[if_pos rfl]
theorem qd2{g:Nat->Option Int}{r:Nat}{c:Int}(h:j≠r):set g r c j=g j:=by unfold set;rw[if_neg h]
structure Walk(n:Nat)(wr:Bool)(hm:Int->Nat)(T:List Int)(k:Int)(e:Nat)(g:Nat->Option Int)(c:Int)(r:Nat):Prop where
 o:Ord n hm g
 nin:∀ i,i < n->g i≠some c
 hr:r < n
 pth:∀ j,j < n->Ab n (hm c) j < Ab n (hm c) r->∃ x,g j=some x/\ahead n hm j x c
 he:e < n
 ge:g e=none
 lim:Ab n (hm k) r<=Ab n (hm k) e
 all:∀ x,x∈T↔(x=c∨∃ i,i < n/\g i=some x)
 ln:wr=false->hm k<=e/\hm c<=r/\∀ i x,i < n->g i=some x->hm x<=i
section
variable{n:Nat}{wr:Bool}{hm:Int->Nat}{T:List Int}{k:Int}{e:Nat}{g:Nat->Option Int}{c:Int}{r:Nat}
theorem Walk.lt(W:Walk n wr hm T k e g c r)(a:g r=some y):Ab n (hm k) r < Ab n (hm k) e:=by
 have b:=W.lim
 have:r≠e:=λ z=>by have:=W.ge;rw[<- z,a] at this;cases this
 have d:Ab n (hm k) r≠Ab n (hm k) e:=λ z=>this (qi4 (W.o.home k) W.hr W.he z)
 lia
theorem Walk.nx(W:Walk n wr hm T k e g c r)(a:g r=some y):Ab n (hm k) (next n r)=Ab n (hm k) r+1:=by
 have b:=W.lt a;have d:=qi0 W.he (W.o.home k);exact qk8 (W.o.home k) W.hr (by lia)
theorem way(a:hm x < n)(c:j < n)(b:e < n)(d:g e=none)(f:∀ i,i < n->Ab n (hm x) i<=Ab n (hm x) j->∃ y,g i=some y):Ab n (hm x) j+1 < n:=by
 have k:=qi0 c a;have l:=qi0 b a;by_cases h:Ab n (hm x) e<=Ab n (hm x) j
 . obtain⟨y,q⟩:=f e b h
   rw[d] at q;cases q
 lia
theorem Walk.on(W:Walk n wr hm T k e g c r)(a:g r=some y)(h:¬ ahead n hm r c y):Walk n wr hm T k e g c (next n r):=by
 have v:=W.nx a;have A:=W.lt a;have b:=W.o.home c;have l:c≠y:=λ z=>W.nin r W.hr (by rw[z];exact a)
 have w:Ab n (hm c) r+1 < n:=way (g:=g) b W.hr W.he W.ge λ i d m=>by
   by_cases q:Ab n (hm c) i=Ab n (hm c) r
   . rw[qi4 b d W.hr q];exact⟨y,a⟩
   obtain⟨x,p,_⟩:=W.pth i d (by lia);exact⟨x,p⟩
 have B:=qk8 b W.hr w;refine⟨W.o,W.nin,ql1 W.hr,λ j f m=>?_,W.he,W.ge,by lia,W.all,λ s=>?_⟩
 . by_cases q:Ab n (hm c) j=Ab n (hm c) r
   . rw[qi4 b f W.hr q];exact⟨y,a,qaq9 l h⟩
   exact W.pth j f (by lia)
 obtain⟨t,C,u⟩:=W.ln s;refine⟨t,?_,u⟩;have D:=dor n (hm k) r;have E:=dor n (hm k) e;have F:=nor n r
 have:=W.hr
 have:=W.he
 have:=W.o.home k
 lia
theorem Walk.swap(W:Walk n wr hm T k e g c r)(l:g r=some y)(h:ahead n hm r c y):Walk n wr hm T k e (set g r c) y (next n r):=by
 have J:=W.nx l;have K:=W.lt l;have D:=W.o.home c;have m:=W.o.home y;have E:c≠y:=λ z=>W.nin r W.hr (by rw[z];exact l)
 have F:e≠r:=λ z=>by have:=W.ge;rw[z,l] at this;cases this
 have w:Ab n (hm y) r+1 < n:=way (g:=g) m W.hr W.he W.ge λ i f u=>by
   by_cases q:Ab n (hm y) i=Ab n (hm y) r
   . rw[qi4 m f W.hr q];exact⟨y,l⟩
   obtain⟨x,s,_⟩:=W.o.path' W.hr f l (by lia);exact⟨x,s⟩
 have L:=qk8 m W.hr w;refine⟨⟨W.o.home,λ i j x f t a p=>?_,λ i x f a u=>?_⟩,λ i f a=>?_,ql1 W.hr,λ j t u=>?_,W.he,by rw[qd2 F];exact W.ge,by lia,λ x=>?_,λ G=>?_⟩
 . by_cases b:i=r
   . by_cases e2:j=r
     . rw[b,e2]
     rw[b,qb7] at a;rw[qd2 e2] at p;cases a;exact absurd p (W.nin j t)
   rw[qd2 b] at a;by_cases e2:j=r
   . rw[e2,qb7] at p
     cases p;exact absurd a (W.nin i f)
   rw[qd2 e2] at p;exact W.o.inj i j x f t a p
 . have H:=qi7 f
   by_cases b:i=r
   . subst b
     rw[qb7] at a;cases a;have d:=qd5 D f u;obtain⟨x,s,A⟩:=W.pth (prev n i) H (by lia)
     have:prev n i≠i:=λ z=>by rw[z] at d;lia
     exact⟨x,by rw[qd2 this];exact s,A⟩
   rw[qd2 b] at a;obtain⟨z,v,B⟩:=W.o.ord i x f a u;by_cases e2:prev n i=r
   . rw[e2] at v B ⊢
     rw[l] at v;cases v;exact⟨c,qb7,qv7 h B⟩
   exact⟨z,by rw[qd2 e2];exact v,B⟩
 . by_cases b:i=r
   . rw[b,qb7] at a
     exact E (Option.some.inj a)
   rw[qd2 b] at a;exact b (W.o.inj i r y f W.hr a l)
 . by_cases q:Ab n (hm y) j=Ab n (hm y) r
   . rw[qi4 m t W.hr q];exact⟨c,qb7,h⟩
   obtain⟨x,s,A⟩:=W.o.path' W.hr t l (by lia)
   have:j≠r:=λ z=>q (by rw[z])
   exact⟨x,by rw[qd2 this];exact s,A⟩
 . rw[W.all x]
   constructor
   . rintro (z | ⟨i,f,a⟩)
     . exact .inr ⟨r,W.hr,by rw[z];exact qb7⟩
     by_cases b:i=r
     . rw[b,l] at a
       exact .inl (Option.some.inj a).symm
     exact .inr ⟨i,f,by rw[qd2 b];exact a⟩
   rintro (z | ⟨i,f,a⟩)
   . exact .inr ⟨r,W.hr,by rw[z];exact l⟩
   by_cases b:i=r
   . rw[b,qb7] at a
     exact .inl (Option.some.inj a).symm
   rw[qd2 b] at a;exact .inr ⟨i,f,a⟩
 obtain⟨I,M,C⟩:=W.ln G;have N:=C r y W.hr l;refine⟨I,?_,λ i x f a=>?_⟩
 . have O:=dor n (hm k) r
   have P:=dor n (hm k) e;have Q:=nor n r
   have:=W.hr
   have:=W.he
   have:=W.o.home k
   lia
 by_cases b:i=r
 . rw[b,qb7] at a
   cases a;lia
 rw[qd2 b] at a;exact C i x f a
structure Kept(n:Nat)(wr:Bool)(hm:Int->Nat)(g:Nat->Option Int)(S:List Int):Prop where
 o:Ord n hm g
 c:He n hm g
 h:Holds n g S
 ln:wr=false->∀ i x,i < n->g i=some x->hm x<=i
theorem Walk.done(W:Walk n wr hm T k e g c r)(v:T.Nodup)(q:g r=none):Kept n wr hm (set g r c) T:=by
 have w:=W.o.home c;have h:=ql1 W.hr;refine⟨⟨W.o.home,λ i j x f t a l=>?_,λ i x f a p=>?_⟩,⟨next n r,h,λ x u=>?_⟩,⟨v,λ x=>?_⟩,λ y=>?_⟩
 . by_cases b:i=r
   . by_cases e2:j=r
     . rw[b,e2]
     rw[b,qb7] at a;rw[qd2 e2] at l;cases a;exact absurd l (W.nin j t)
   rw[qd2 b] at a;by_cases e2:j=r
   . rw[e2,qb7] at l
     cases l;exact absurd a (W.nin i f)
   rw[qd2 e2] at l;exact W.o.inj i j x f t a l
 . have A:=qi7 f
   by_cases b:i=r
   . subst b
     rw[qb7] at a;cases a;have d:=qd5 w f p;obtain⟨x,s,B⟩:=W.pth (prev n i) A (by lia)
     have:prev n i≠i:=λ z=>by rw[z] at d;lia
     exact⟨x,by rw[qd2 this];exact s,B⟩
   rw[qd2 b] at a;obtain⟨z,m,C⟩:=W.o.ord i x f a p;by_cases e2:prev n i=r
   . rw[e2,q] at m;cases m
   exact⟨z,by rw[qd2 e2];exact m,C⟩
 . have s:=W.o.home x
   by_cases b:next n r=r
   . have:=nor n r
     have:=W.hr
     lia
   rw[qd2 b] at u;by_cases p:0 < Ab n (hm x) (next n r)
   . obtain⟨z,m,_⟩:=W.o.ord _ x h u p
     rw[qk1 W.hr,q] at m;cases m
   exact((qb5 s h).mp (by lia)).symm
 . rw[W.all x]
   constructor
   . rintro (z | ⟨i,f,a⟩)
     . exact⟨r,W.hr,by rw[z];exact qb7⟩
     exact⟨i,f,by rw[qd2 (λ z=>by rw[z,q] at a;cases a)];exact a⟩
   rintro⟨i,f,a⟩;by_cases b:i=r
   . rw[b,qb7] at a
     exact .inl (Option.some.inj a).symm
   rw[qd2 b] at a;exact .inr ⟨i,f,a⟩
 obtain⟨E,F,D⟩:=W.ln y;intro i x f a;by_cases b:i=r
 . rw[b,qb7] at a
   cases a;lia
 rw[qd2 b] at a;exact D i x f a
def Hf(n:Nat)(wr:Bool)(hm:Int->Nat)(g:Nat->Option Int)(k:Int)(e:Nat):Prop:=e < n/\g e=none/\(wr=false->hm k<=e)
theorem Kept.start{S:List Int}(K:Kept n wr hm g S)(c:¬ k∈S)(F:Hf n wr hm g k e):Walk n wr hm (S++[k]) k e g k (hm k):=by
 have a:=K.o.home k;have z:=(qb5 a a).mpr rfl;refine⟨K.o,λ i d f=>c ((K.h.2 k).mpr ⟨i,d,f⟩),a,λ j _ l=>by lia,F.1,F.2.1,by lia,λ x=>?_,λ b=>⟨F.2.2 b,zA3 _,K.ln b⟩⟩;rw[zAa,zAe,K.h.2 x];exact⟨Or.symm,Or.symm⟩
def Crowd(n:Nat)(wr:Bool)(hm:Int->Nat)(T:List Int)(q:Nat):Prop:=q < n/\if wr=true then q=0/\n < T.length else n - q < (T.filter (λ k=>decide (q<=hm k))).length
theorem qN6(h:i∈(List.range (n - q)).map (q + ·)):q<=i/\i < n:=by
 obtain⟨j,a,rfl⟩:=zBd.mp h
 have:=zAn.mp a
 lia
theorem qaA2(h:q<=i)(h':i < n):i∈(List.range (n - q)).map (q + ·):=zBd.mpr ⟨i - q,zAn.mpr (by lia),by lia⟩
theorem qab5{m:Nat}:((List.range m).map (q + ·)).Nodup:=by
 rw[List.nodup_iff_pairwise_ne,zBs];exact(List.nodup_iff_pairwise_ne.mp List.nodup_range).imp λ h=>by lia
theorem Kept.no_crowd{S:List Int}(K:Kept n wr hm g S)(q:Nat):¬ Crowd n wr hm S q:=by
 rintro⟨d,h⟩;cases wr with
 | true =>
   rw[if_pos rfl] at h
   have:=qE0 (g:=g) (List.range n) S K.h.1 λ k a=>by
     obtain⟨i,b,c⟩:=(K.h.2 k).mp a;exact⟨i,zAn.mpr b,c⟩
   rw[zB7] at this;lia
 | false =>
   rw[if_neg (by decide)] at h
   have:=qE0 (g:=g) ((List.range (n - q)).map (q + ·)) (S.filter (λ k=>decide (q<=hm k))) (K.h.1.filter _) λ k a=>by
     obtain⟨a,d⟩:=zAv.mp a;obtain⟨i,b,c⟩:=(K.h.2 k).mp a
     have:=K.ln rfl i k b c
     have d:=zA8 d;exact⟨i,qaA2 (by lia) b,c⟩
   rw[zA7,zB7] at this;lia
theorem Kept.crowd{S:List Int}(K:Kept n wr hm g S)(u:∀ e,¬ Hf n wr hm g k e):∃ q,Crowd n wr hm (S++[k]) q:=by
 have v:=K.o.home k;have full:∀ e,e < n->(wr=false->hm k<=e)->∃ x,g e=some x:=λ e f s=>by
   cases h:g e with
   | some x=>exact⟨x,rfl⟩
   | none=>exact absurd ⟨f,h,s⟩ (u e)
 cases wr with
 | true =>
   refine⟨0,by lia,?_⟩;rw[if_pos rfl];refine⟨rfl,?_⟩
   have:=qT3 (g:=g) (List.range n) S List.nodup_range (λ i b=>by
     obtain⟨x,c⟩:=full i (zAn.mp b) (λ z=>by cases z);exact⟨x,(K.h.2 x).mpr ⟨i,zAn.mp b,c⟩,c⟩) λ i b j p x=>K.o.inj i j x (zAn.mp b) (zAn.mp p)
   rw[zB7] at this;rw[zAf];simp only[zAp,List.length_nil];lia
 | false =>
   have w:∀ m,m<=hm k->(∀ e,m<=e->e < n->∃ x,g e=some x)->∃ q,q<=hm k/\(∀ e,q<=e->e < n->∃ x,g e=some x)/\(q=0∨g (q - 1)=none):=by
     intro m
     induction m with
     | zero=>exact λ d a=>⟨0,d,a,.inl rfl⟩
     | succ m A =>
       intro d a;cases h:g m with
       | none=>exact⟨m+1,d,a,.inr h⟩
       | some x =>
         refine A (by lia) λ e f r=>?_
         by_cases q:e=m
         . rw[q];exact⟨x,h⟩
         exact a e (by lia) r
   obtain⟨q,B,C,l⟩:=w (hm k) (zA3 _) λ e f r=>full e r λ _=>f
   refine⟨q,by lia,?_⟩;rw[if_neg (by decide)]
   have:=qT3 (g:=g) ((List.range (n - q)).map (q + ·)) (S.filter (λ k=>decide (q<=hm k))) qab5 (λ i b=>by
     obtain⟨d,a⟩:=qN6 b;obtain⟨x,c⟩:=C i d a;refine⟨x,zAv.mpr ⟨(K.h.2 x).mpr ⟨i,a,c⟩,zAj ?_⟩,c⟩;have D:=K.o.home x;have s:=K.ln rfl i x a c;refine zC5 λ E=>?_
     rcases l with l | l
     . lia
     obtain⟨y,t,_⟩:=K.o.path' (i:=q - 1) a (by lia) c (by
       have G:=dor n (hm x) (q - 1);have H:=dor n (hm x) i
       lia)
     rw[l] at t;cases t) λ i b j p x=>K.o.inj i j x (qN6 b).2 (qN6 p).2
   rw[zA7,zB7] at this;have F:([k].filter (λ k=>decide (q<=hm k))).length=1:=by simp[B]
   rw[List.filter_append,zAf,F];lia
theorem Crowd.mono{S T:List Int}(h:Crowd n wr hm S q)(a:S.Sublist T):Crowd n wr hm T q:=by
 obtain⟨b,h⟩:=h;refine⟨b,?_⟩;cases wr with
 | true =>
   rw[if_pos rfl] at h ⊢
   have:=a.length_le
   exact⟨h.1,by lia⟩
 | false =>
   rw[if_neg (by decide)] at h ⊢
   have:=(a.filter (λ k=>decide (q<=hm k))).length_le
   lia
theorem Crowd.perm{S T:List Int}(h:Crowd n wr hm S q)(a:S.Perm T):Crowd n wr hm T q:=by
 obtain⟨b,h⟩:=h;refine⟨b,?_⟩;rw[<- a.length_eq,<- (a.filter _).length_eq];exact h
theorem Kept.none(a:0 < n)(b:∀ k,hm k < n):Kept n wr hm (λ _=>none) [] :=
 ⟨⟨b,(λ _ _ _ _ _ h=>by cases h),λ _ _ _ h=>by cases h⟩,⟨0,a,λ _ h=>by cases h⟩,⟨List.nodup_nil,λ k=>⟨λ h=>by simp at h,λ ⟨_,_,h⟩=>by cases h⟩⟩,λ _ _ _ _ h=>by cases h⟩
theorem Kept.same{S S':List Int}(K:Kept n wr hm g S)(K':Kept n wr hm g' S')(a:∀ k,k∈S↔k∈S'):∀ j,j < n->g j=g' j :=
 qay7 K.o K'.o K.c K'.c K.h ⟨K.h.1,λ k=>(a k).trans (K'.h.2 k)⟩
end
noncomputable def rot(n s t:Nat):Nat:=if s+t < n then s+t else s+t - n
theorem qP5{n:Nat}(a:s < n)(b:t < n):rot n s t < n:=by unfold rot;split<;>lia
theorem qq6{n:Nat}(a:s < n)(b:t < n):Ab n s (rot n s t)=t:=by
 have d:=dor n s (rot n s t);unfold rot at d ⊢;split at d<;>split<;>lia
theorem qp4{n:Nat}(a:s < n)(hi:i < n):rot n s (Ab n s i)=i:=by
 have d:=dor n s i;unfold rot
 split<;>lia
theorem qar7{n:Nat}(a:s < n)(b:t < n):(s+t) % n=rot n s t:=by
 unfold rot;split
 . exact zC7 (by assumption)
 rw[Nat.mod_eq_sub_mod (by lia)];exact zC7 (by lia)
def Ap(n:Nat)(g:Nat->Option Int)(r J:Nat):Nat->Option Int:=λ i=>if Ab n r i < J then g (next n i) else if Ab n r i=J then none else g i
structure Sh(n:Nat)(hm:Int->Nat)(g:Nat->Option Int)(r J:Nat):Prop where
 hJ:J < n
 mv:∀ t,1<=t->t<=J->∃ x,g (rot n r t)=some x/\0 < Ab n (hm x) (rot n r t)
section
variable{n:Nat}{wr:Bool}{hm:Int->Nat}{g:Nat->Option Int}{r J:Nat}{k:Int}{S:List Int}
theorem qad5(a:r < n):rot n r 0=r:=by unfold rot;rw[if_pos (by lia)];rfl
theorem qA4(a:r < n)(b:t+1 < n):next n (rot n r t)=rot n r (t+1):=by
 unfold rot next
 split<;>split<;>split<;>lia
theorem qv8(a:r < n)(b:J+1=n):next n (rot n r J)=r:=by
 unfold rot next
 split<;>split<;>lia
theorem Sh.start(a:r < n):Sh n hm g r 0:=⟨by lia,λ t b c=>by lia⟩
theorem Sh.step(h:Sh n hm g r J)(a:J+1 < n)(b:g (rot n r (J+1))=some x)(c:0 < Ab n (hm x) (rot n r (J+1))):Sh n hm g r (J+1):=⟨a,λ t d f=>by
 by_cases e:t=J+1
 . subst e;exact⟨x,b,c⟩
 exact h.mv t d (by lia)⟩
theorem qy3(a:r < n)(hi:i < n):Ap n g r 0 i=if i=r then none else g i:=by
 unfold Ap;rw[if_neg (by lia)];by_cases e:i=r
 . rw[if_pos e,if_pos ((qb5 a hi).mpr e)]
 rw[if_neg e,if_neg λ z=>e ((qb5 a hi).mp z)]
theorem qJ2(a:r < n)(b:J < n):Ap n g r J (rot n r J)=none:=by
 unfold Ap;rw[qq6 a b,if_neg (by lia),if_pos rfl]
theorem qy4(a:r < n)(b:J+1 < n):Ap n g r J (rot n r (J+1))=g (rot n r (J+1)):=by
 unfold Ap;rw[qq6 a b,if_neg (by lia),if_neg (by lia)]
theorem qD7(a:r < n)(b:0 < J):Ap n g r J r=g (next n r):=by
 unfold Ap;rw[(qb5 a a).mpr rfl,if_pos b]
theorem qac5(a:r < n)(d:J+1 < n)(hi:i < n):Ap n g r (J+1) i=if i=rot n r (J+1) then none else if i=rot n r J then g (rot n r (J+1)) else Ap n g r J i:=by
 have j:=qq6 a d;have e2:=qq6 a (show J < n by lia);by_cases b:i=rot n r (J+1)
 . rw[if_pos b,b];exact qJ2 a d
 rw[if_neg b];have f:Ab n r i≠J+1:=λ z=>b (by rw[<- z,qp4 a hi])
 by_cases c:i=rot n r J
 . rw[if_pos c,c]
   unfold Ap;rw[e2,if_pos (by lia),qA4 a d]
 rw[if_neg c];have h:Ab n r i≠J:=λ z=>c (by rw[<- z,qp4 a hi])
 unfold Ap;by_cases e:Ab n r i < J
 . rw[if_pos e,if_pos (by lia)]
 rw[if_neg e,if_neg (by lia),if_neg f,if_neg h]
theorem Sh.round(h:Sh n hm g r J)(O:Ord n hm g)(C:He n hm g)(d:r < n)(j:g r=some k)(u:J+1=n)(l:g (next n r)=some x)(v:0 < J):Ab n (hm x) r=0:=by
 obtain⟨i,a,m⟩:=C;have f:i=r:=by
   by_cases e:i=r
   . exact e
   have w:=qi0 a d;have A:Ab n r i≠0:=λ z=>e ((qb5 d a).mp z)
   obtain⟨y,b,c⟩:=h.mv (Ab n r i) (by lia) (by lia);rw[qp4 d a] at b c
   have:=(qb5 (O.home y) a).mpr (m y b).symm
   lia
 subst f;have s:=(qb5 (O.home k) a).mpr (m k j).symm;have o:next n i=rot n i 1:=by
   have:=qA4 (t:=0) a (by lia)
   rwa[qad5 a] at this
 obtain⟨y,b,c⟩:=h.mv 1 (zA3 _) (by lia);rw[<- o,l] at b;cases b;rw[<- o] at c;obtain⟨z,p,q⟩:=O.ord (next n i) x (ql1 a) l c;rw[qk1 a,j] at p;cases p;rw[qk1 a] at q;unfold ahead at q;lia
def Stop(n:Nat)(wr:Bool)(hm:Int->Nat)(g:Nat->Option Int)(r J:Nat):Prop:=(wr=false/\rot n r J+1=n)∨∀ x,Ap n g r J (next n (rot n r J))=some x->Ab n (hm x) (next n (rot n r J))=0
theorem Kept.taken(K:Kept n wr hm g S)(m:r < n)(E:g r=some k)(h:Sh n hm g r J)(st:Stop n wr hm g r J):Kept n wr hm (Ap n g r J) (S.filter λ x=>decide (x≠k)):=by
 have N:=h.hJ;have O:=K.o;have F:∀ i x,i < n->Ab n r i < J->g (next n i)=some x->Ab n r (next n i)=Ab n r i+1/\0 < Ab n (hm x) (next n i)/\Ab n (hm x) i+1=Ab n (hm x) (next n i):=λ i x f H l=>by
   have e:=qk8 m f (by lia);obtain⟨y,u,C⟩:=h.mv (Ab n r i+1) (by lia) (by lia);rw[<- e,qp4 m (ql1 f)] at u C;rw[l] at u;cases u
   have:=qd5 (O.home x) (ql1 f) C
   rw[qk1 f] at this;exact⟨e,C,by lia⟩
 have w:∀ i x,i < n->Ap n g r J i=some x->(Ab n r i < J/\g (next n i)=some x)∨(J < Ab n r i/\g i=some x):=λ i x f l=>by
   unfold Ap at l;split at l
   . exact .inl ⟨by assumption,l⟩
   split at l
   . cases l
   exact .inr ⟨by lia,l⟩
 have A:∀ i x,i < n->Ap n g r J i=some x->∃ j,j < n/\g j=some x/\j≠r/\(j=next n i/\Ab n r i < J∨j=i/\J < Ab n r i):=λ i x f l=>by
   rcases w i x f l with⟨s,q⟩ | ⟨s,q⟩
   . refine⟨next n i,ql1 f,q,λ z=>?_,.inl ⟨rfl,s⟩⟩
     have e:=qk8 m f (by lia);rw[z,(qb5 m m).mpr rfl] at e;lia
   refine⟨i,f,q,λ z=>?_,.inr ⟨rfl,s⟩⟩;rw[z,(qb5 m m).mpr rfl] at s;lia
 refine⟨⟨O.home,λ i j x f t s q=>?_,λ i x f l H=>?_⟩,?_,⟨K.h.1.filter _,λ x=>?_⟩,λ I i x f l=>?_⟩
 . obtain⟨a,v,U,na,V⟩:=A i x f s
   obtain⟨b,L,W,nb,X⟩:=A j x t q
   have:=O.inj a b x v L U W
   subst this;rcases V with⟨D,P⟩ | ⟨D,P⟩<;>rcases X with⟨e2,Q⟩ | ⟨e2,Q⟩
   . have:=congrArg (prev n) (D.symm.trans e2)
     rwa[qk1 f,qk1 t] at this
   . have e:=qk8 m f (by lia)
     rw[<- D,e2] at e;lia
   . have e:=qk8 m t (by lia)
     rw[<- e2,D] at e;lia
   rw[<- D,<- e2]
 . rcases w i x f l with⟨s,q⟩ | ⟨s,q⟩
   . obtain⟨e,C,Y⟩:=F i x f s q
     obtain⟨y,u,v⟩:=O.ord (next n i) x (ql1 f) q C;rw[qk1 f] at u v;have G:0 < Ab n (hm y) i:=by unfold ahead at v;lia
     have D:=qd5 (O.home x) f H;have e2:=qd5 (O.home y) f G;have Z:=qi7 f;by_cases e0:Ab n r i=0
     . have:=(qb5 m f).mp e0
       subst this;have hlast:Ab n i (prev n i)=n - 1:=by have d:=dor n i (prev n i);have p:=por n i;lia
       by_cases M:J+1=n
       . have:=h.round O K.c f E M q (by lia)
         lia
       rw[E] at u;cases u;obtain⟨z,hz,L⟩:=O.ord i k f E G;refine⟨z,?_,?_⟩
       . unfold Ap
         rw[hlast,if_neg (by lia),if_neg (by lia)];exact hz
       refine qv7 L ?_;unfold ahead at v ⊢;lia
     have R:=qd5 m f (by lia);refine⟨y,?_,?_⟩
     . unfold Ap
       rw[R,if_pos (by lia),qH1 f];exact u
     unfold ahead at v ⊢;lia
   obtain⟨y,u,v⟩:=O.ord i x f q H;refine⟨y,?_,v⟩;have R:=qd5 m f (by lia);by_cases T:Ab n r (prev n i)=J
   . exfalso
     have ei:prev n i=rot n r J:=by rw[<- T,qp4 m (qi7 f)]
     have en:next n (rot n r J)=i:=by rw[<- ei,qH1 f]
     rcases st with⟨I,hl⟩ | st
     . have:i=0:=by have p:=nor n (rot n r J);lia
       subst this
       have:=K.ln I 0 x f q
       have d:=dor n (hm x) 0;lia
     rw[en] at st
     have:=st x l
     lia
   unfold Ap;rw[if_neg (by lia),if_neg T];exact u
 . exact⟨rot n r J,qP5 m N,λ x l=>by rw[qJ2 m N] at l;cases l⟩
 . rw[zAv,K.h.2 x,zBb]
   constructor
   . rintro⟨⟨j,t,B⟩,ne⟩
     have jr:j≠r:=λ z=>ne (by rw[z,E] at B;exact(Option.some.inj B).symm)
     have d0:Ab n r j≠0:=λ z=>jr ((qb5 m t).mp z)
     by_cases H:Ab n r j<=J
     . have e:=qd5 m t (by lia)
       refine⟨prev n j,qi7 t,?_⟩;unfold Ap;rw[e,if_pos (by lia),qH1 t];exact B
     refine⟨j,t,?_⟩;unfold Ap;rw[if_neg (by lia),if_neg (by lia)];exact B
   rintro⟨i,f,l⟩;obtain⟨j,t,B,nj,_⟩:=A i x f l;refine⟨⟨j,t,B⟩,λ z=>?_⟩;subst z;exact nj (O.inj j r x t m B E)
 rcases w i x f l with⟨s,q⟩ | ⟨s,q⟩
 . obtain⟨e,C,Y⟩:=F i x f s q
   have:=K.ln I (next n i) x (ql1 f) q
   have nn:=nor n i;have P:=dor n (hm x) (next n i);have Q:=dor n (hm x) i;lia
 exact K.ln I i x f q
end
def Hy(hm:Int->Nat)(x y:Int):Prop:=hm x < hm y∨(hm x=hm y/\x < y)
structure Fill(n:Nat)(hm:Int->Nat)(g:Nat->Option Int)(S:List Int)(top:Nat):Prop where
 k:Kept n false hm g S
 free:∀ i,top<=i->i < n->g i=none
 last:0 < top->∃ x,g (top - 1)=some x/\x∈S
 le:top<=n
theorem Fill.start{n:Nat}{hm:Int->Nat}(a:0 < n)(b:∀ k,hm k < n):Fill n hm (λ _=>none) [] 0:=⟨Kept.none a b,λ _ _ _=>rfl,λ h=>absurd h (by lia),by lia⟩
section
variable{n:Nat}{hm:Int->Nat}{g:Nat->Option Int}{S:List Int}{top:Nat}{k:Int}
theorem Fill.put(F:Fill n hm g S top)(l:¬ k∈S)(C:∀ x∈S,Hy hm x k)(m:max top (hm k) < n):Fill n hm (set g (max top (hm k)) k) (S++[k]) (max top (hm k)+1):=by
 generalize J:max top (hm k)=r at m ⊢;have p:top<=r:=by lia
 have q:hm k<=r:=by lia
 have D:g r=none:=F.free r p m;have below:∀ i x,i < n->g i=some x->i < top:=λ i x b a=>by
   by_cases h:top<=i
   . rw[F.free i h b] at a;cases a
   lia
 have s:∀ i x,i < n->set g r k i=some x->hm x<=i:=λ i x b a=>by
   by_cases e:i=r
   . subst e;rw[qb7] at a;cases a;exact q
   rw[qd2 e] at a;exact F.k.ln rfl i x b a
 have mem:∀ i x,i < n->g i=some x->x∈S:=λ i x b a=>(F.k.h.2 x).mpr ⟨i,b,a⟩
 refine⟨⟨⟨F.k.o.home,λ i j x b z a d=>?_,λ i x b a t=>?_⟩,⟨0,by lia,λ x E=>?_⟩,⟨?_,λ x=>⟨λ c=>?_,λ ⟨i,b,a⟩=>?_⟩⟩,λ _ i x b a=>s i x b a⟩,λ i b G=>?_,λ _=>⟨k,by rw[Nat.add_sub_cancel,qb7],zAw _ (zAe.mpr rfl)⟩,by lia⟩
 . by_cases u:i=r
   . by_cases e2:j=r
     . rw[u,e2]
     subst u;rw[qb7] at a;cases a;rw[qd2 e2] at d;exact absurd (mem j _ z d) l
   rw[qd2 u] at a;by_cases e2:j=r
   . subst e2;rw[qb7] at d;cases d
     exact absurd (mem i _ b a) l
   rw[qd2 e2] at d;exact F.k.o.inj i j x b z a d
 . have c:=s i x b a
   have K:i≠0:=λ e=>by
     have:=(qb5 (F.k.o.home x) b).mpr (by lia)
     lia
   have A:prev n i=i - 1:=by rcases por n i with h | h<;>lia
   by_cases e:i=r
   . subst e
     rw[qb7] at a;cases a;have H:hm k < i:=by
       unfold Ab at t;split at t<;>lia
     have B:top=i:=by lia
     obtain⟨y,f,v⟩:=F.last (by lia);have w:hm y<=i - 1:=F.k.ln rfl (i - 1) y (by lia) (by rw[<- B];exact f);refine⟨y,by rw[A,qd2 (by lia),<- B];exact f,?_⟩;rw[A];unfold ahead Ab;rw[if_pos (by lia),if_pos w];rcases C y v with h | h
     . exact .inl (by lia)
     exact .inr ⟨by lia,h.2⟩
   rw[qd2 e] at a;have L:=below i x b a;obtain⟨y,f,I⟩:=F.k.o.ord i x b a t;exact⟨y,by rw[qd2 (by lia)];exact f,I⟩
 . have:=s 0 x (by lia) E
   lia
 . refine zBo.mpr ⟨F.k.h.1,(by simp),λ x c y v e=>?_⟩
   rw[zAe.mp v] at e;exact l (e ▸ c)
 . rcases zAa.mp c with c | c
   . obtain⟨i,b,a⟩:=(F.k.h.2 x).mp c
     exact⟨i,b,by rw[qd2 λ e=>by rw[e,D] at a;cases a];exact a⟩
   rw[zAe.mp c];exact⟨r,m,qb7⟩
 . by_cases e:i=r
   . subst e;rw[qb7] at a;cases a
     exact zAw _ (zAe.mpr rfl)
   rw[qd2 e] at a;exact List.mem_append_left _ (mem i x b a)
 rw[qd2 (by lia)];exact F.free i (by lia) G
theorem Fill.room(F:Fill n hm g S top)(i:∀ x∈S,Hy hm x k)(j:∀ q,¬ Crowd n false hm (S++[k]) q):max top (hm k) < n:=by
 have u:=F.k.o.home k;have l:=F.le;by_cases h:top < n
 . lia
 have v:top=n:=by lia
 obtain⟨q,c⟩:=F.k.crowd (k:=k) λ e ⟨m,b,a⟩=>by
   have a:=a rfl;obtain⟨y,d,p⟩:=F.last (by lia);have f:=F.k.ln rfl (top - 1) y (by lia) d;have r:hm y<=hm k:=by rcases i y p with h | h<;>lia
   by_cases s:e=top - 1
   . rw[s,d] at b;cases b
   obtain⟨x,t,_⟩:=F.k.o.path' (by lia) m d (show Ab n (hm y) e < Ab n (hm y) (top - 1) by unfold Ab;rw[if_pos (by lia),if_pos f];lia);rw[t] at b;cases b
 exact absurd c (j q)
end
noncomputable def Fa(hm:Int->Nat)(T:List Int)(r:Nat):Nat:=(T.filter λ k=>decide (hm k=r)).length
noncomputable def Em(hm:Int->Nat)(T:List Int)(q r:Nat):Nat:=(T.filter λ k=>decide (q<=hm k/\hm k < r)).length
theorem qW7{hm:Int->Nat}{q r:Nat}(h:q<=r):∀ T:List Int,Em hm T q (r+1)=Em hm T q r+Fa hm T r
 | []=>rfl
 | k::T=>by
   have a:=qW7 (hm:=hm) h T;unfold Em Fa at a ⊢;simp only[List.filter_cons,zBb]
   split<;>split<;>split<;>(try simp only[zAp])<;>lia
theorem qaq2{hm:Int->Nat}{r:Nat}(T:List Int):Em hm T r r=0:=by
 unfold Em;rw[List.length_eq_zero_iff,List.filter_eq_nil_iff];intro k _ h
 have:=zA8 h
 lia
section
variable{n:Nat}{hm:Int->Nat}{g:Nat->Option Int}{S:List Int}{k:Int}
theorem Kept.len{wr:Bool}(KP:Kept n wr hm g S):S.length<=n:=by
 have:=qE0 (g:=g) (List.range n) S KP.h.1 λ k a=>by
   obtain⟨i,b,e⟩:=(KP.h.2 k).mp a;exact⟨i,zAn.mpr b,e⟩
 rwa[zB7] at this
end
noncomputable def onC(c:Nat->Nat):Nat->Int
 | 0=>0
 | r+1=>if onC c r+(c r:Int) - 1 > 0 then onC c r+(c r:Int) - 1 else 0
noncomputable def sumC(c:Nat->Nat)(q:Nat):Nat->Nat
 | 0=>0
 | m+1=>sumC c q m+c (q+m)
section
variable{c:Nat->Nat}
theorem qK0:∀ r:Nat,0<=onC c r
 | 0=>Int.le_refl _
 | r+1=>by unfold onC;split<;>lia
theorem qay9{q:Nat}:∀ m:Nat,(sumC c q m:Int) - (m:Int)<=onC c (q+m)
 | 0=>by have:=qK0 (c:=c) q;show ((0:Nat):Int) - _<=_;rw[Nat.add_zero];lia
 | m+1=>by
   have:=qay9 (q:=q) m
   show ((sumC c q m+c (q+m):Nat):Int) - _<=onC c (q+m+1);unfold onC
   split<;>lia
theorem qaz0:∀ r:Nat,onC c r=0∨∃ q m,q+m=r/\0 < m/\onC c r=(sumC c q m:Int) - (m:Int)
 | 0=>.inl rfl
 | r+1=>by
   by_cases h:onC c r+(c r:Int) - 1 > 0
   . right
     have e:onC c (r+1)=onC c r+(c r:Int) - 1:=if_pos h;rcases qaz0 r with b | ⟨q,m,a,d,f⟩
     . exact⟨r,1,rfl,by lia,by rw[e];show _=((0+c (r+0):Nat):Int) - _;rw[Nat.add_zero];lia⟩
     exact⟨q,m+1,by lia,by lia,by rw[e];show _=((sumC c q m+c (q+m):Nat):Int) - _;rw[a];lia⟩
   exact .inl (if_neg h)
theorem qab8{q m:Nat}:∀ l:Nat,sumC c q (m+l)=sumC c q m+sumC c (q+m) l
 | 0=>rfl
 | l+1=>by
   show sumC c q (m+l)+c (q+(m+l))=sumC c q m+(sumC c (q+m) l+c (q+m+l))
   rw[qab8 l,show q+(m+l)=q+m+l by lia];lia
end
section
variable{n b:Nat}{hm:Int->Nat}{T:List Int}
def cR(n:Nat)(hm:Int->Nat)(T:List Int):Nat->Nat:=λ t=>Fa hm T (t % n)
theorem qaV4:cR n hm T (n+t)=cR n hm T t:=by unfold cR;rw[Nat.add_mod_left]
theorem qar4{q:Nat}:∀ m,sumC (cR n hm T) (n+q) m=sumC (cR n hm T) q m
 | 0=>rfl
 | m+1=>by
   show sumC _ (n+q) m+cR n hm T (n+q+m)=_;rw[qar4 m,Nat.add_assoc,qaV4];rfl
theorem qF3{s q:Nat}(a:b < n)(c:s % n=b)(d:∀ k,hm k < n):∀ m,q+m<=n->sumC (cR n hm T) (s+q) m=Em (λ k=>Ab n b (hm k)) T q (q+m)
 | 0,_=>by rw[Nat.add_zero,qaq2];rfl
 | m+1,h=>by
   show sumC _ (s+q) m+cR n hm T (s+q+m)=_;rw[qF3 a c d m (by lia),show q+(m+1)=q+m+1 by lia,qW7 (by lia)];congr 1;unfold cR Fa;congr 1;refine List.filter_congr λ k _=>zBv.mpr ?_
   have e:(s+q+m) % n=rot n b (q+m):=by rw[Nat.add_assoc,Nat.add_mod,c,zC7 (show q+m < n by lia),qar7 a (by lia)]
   rw[e];constructor
   . intro z;show Ab n b (hm k)=_;rw[z,qq6 a (by lia)]
   intro z;rw[<- show Ab n b (hm k)=_ from z,qp4 a (d k)]
theorem qaC6(a:∀ k,hm k < n):Em hm T 0 n=T.length:=by
 unfold Em;rw[List.filter_eq_self.mpr λ k _=>zAj ⟨zBh _,a k⟩]
theorem qaE4(a:0 < n)(c:∀ k,hm k < n):sumC (cR n hm T) 0 n=T.length:=by
 have:=qF3 (T:=T) (s:=0) (q:=0) (b:=0) a (Nat.zero_mod n) c n (by lia)
 rw[Nat.add_zero,zAh] at this;rw[this];refine(qaC6 (hm:=λ k=>Ab n 0 (hm k)) λ k=>qi0 (c k) a)
theorem qam9(f:0 < n)(a:∀ k,hm k < n):0 < onC (cR n hm T) n↔∃ q,Crowd n false hm T q:=by
 have e:∀ q,q<=n->sumC (cR n hm T) q (n - q)=(T.filter λ k=>decide (q<=hm k)).length:=λ q d=>by
   have:=qF3 (T:=T) (s:=0) (q:=q) (b:=0) f (Nat.zero_mod n) a (n - q) (by lia)
   rw[zAh,show q+(n - q)=n by lia] at this;rw[this];unfold Em;congr 2;exact funext λ k=>zBv.mpr (by have:=a k;have i:Ab n 0 (hm k)=hm k:=if_pos (zBh _);dsimp only;lia)
 constructor
 . intro h
   rcases qaz0 (c:=cR n hm T) n with j | ⟨q,m,d,g,l⟩
   . lia
   refine⟨q,by lia,?_⟩;rw[if_neg (by decide),<- e q (by lia),show n - q=m by lia];lia
 rintro⟨q,d,h⟩;rw[if_neg (by decide),<- e q (by lia)] at h
 have:=qay9 (c:=cR n hm T) (q:=q) (n - q)
 rw[show q+(n - q)=n by lia] at this;lia
theorem qay8(i:0 < n)(j:∀ k,hm k < n)(w:T.length<=n):∃ r,r < n/\onC (cR n hm T) (n+r+1)=0:=by
 by_cases h:∃ r,r < n/\onC (cR n hm T) (n+r+1)=0
 . exact h
 exfalso;have pos:∀ r,r < n->0 < onC (cR n hm T) (n+r+1):=λ r g=>by
   have:=qK0 (c:=cR n hm T) (n+r+1)
   have:onC (cR n hm T) (n+r+1)≠0:=λ e=>h ⟨r,g,e⟩
   lia
 have a:∀ r,r<=n->onC (cR n hm T) (n+r)=onC (cR n hm T) n+(sumC (cR n hm T) n r:Int) - (r:Int):=λ r=>by
   induction r with
   | zero=>intro _;show _=_+((0:Nat):Int) - _;rw[Nat.add_zero];lia
   | succ r l =>
     intro g;have d:=pos r (by lia);have x:=l (by lia);have e:onC (cR n hm T) (n+r+1)=if onC (cR n hm T) (n+r)+(cR n hm T (n+r):Int) - 1 > 0 then onC (cR n hm T) (n+r)+(cR n hm T (n+r):Int) - 1 else 0:=rfl
     show onC (cR n hm T) (n+r+1)=_+((sumC (cR n hm T) n r+cR n hm T (n+r):Nat):Int) - _;rw[e] at d ⊢;split at d
     . rw[if_pos (by assumption)];lia
     lia
 have y:=qaE4 (T:=T) i j;have b:∀ m,sumC (cR n hm T) n m=sumC (cR n hm T) 0 m:=λ m=>qar4 (q:=0) m
 have e2:=a n (zA3 _);have o:=pos (n - 1) (by lia);rw[show n+(n - 1)+1=n+n by lia] at o;rw[b] at e2;rcases qaz0 (c:=cR n hm T) n with z | ⟨q,m,p,s,d⟩
 . lia
 have t:=a q (by lia);rw[b] at t;have u:=qab8 (c:=cR n hm T) (q:=0) (m:=q) m;rw[zAh,p] at u;by_cases f:q=0
 . subst f
   have:sumC (cR n hm T) 0 0=0:=rfl
   lia
 have v:=pos (q - 1) (by lia);rw[show n+(q - 1)+1=n+q by lia] at v;lia
theorem qK5{r:Nat}(f:r < n)(a:∀ k,hm k < n)(d:onC (cR n hm T) (n+r+1)=0):∀ q,¬ Crowd n false (λ k=>Ab n ((r+1) % n) (hm k)) T q:=by
 rintro q ⟨h,c⟩;have b:(r+1) % n < n:=Nat.mod_lt _ (by lia);rw[if_neg (by decide)] at c;have e:=qF3 (T:=T) (s:=r+1) (q:=q) b rfl a (n - q) (by lia);have g:=qay9 (c:=cR n hm T) (q:=r+1+q) (n - q);rw[show r+1+q+(n - q)=n+r+1 by lia,d,e,show q+(n - q)=n by lia] at g;have e2:Em (λ k=>Ab n ((r+1) % n) (hm k)) T q n=(T.filter λ k=>decide (q<=Ab n ((r+1) % n) (hm k))).length:=by
   unfold Em;congr 2;exact funext λ k=>zBv.mpr (by have:=qi0 (a k) b;dsimp only;lia)
 have c:=e2 ▸ c;generalize Em _ T q n=m at *
 lia
theorem Kept.turn{g:Nat->Option Int}{S:List Int}(c:b < n)(p:∀ k,hm k < n)(K:Kept n false (λ k=>Ab n b (hm k)) g S):Kept n true hm (λ i=>g (Ab n b i)) S:=by
 have f:∀ i,i < n->Ab n b i < n:=λ i a=>qi0 a c
 have l:∀ i x,i < n->g (Ab n b i)=some x->Ab n b (hm x)+Ab n (hm x) i=Ab n b i:=λ i x a d=>Dm c (p x) a (K.ln rfl _ x (f i a) d)
 refine⟨⟨p,λ i j x a m d u=>qi4 c a m (K.o.inj _ _ x (f i a) (f j m) d u),λ i x a d v=>?_⟩,⟨b,c,λ x w=>?_⟩,⟨K.h.1,λ x=>⟨λ A=>?_,λ ⟨i,a,d⟩=>(K.h.2 x).mpr ⟨_,f i a,d⟩⟩⟩,λ h=>nomatch h⟩
 . have f1:=l i x a d
   have q:=K.ln rfl _ x (f i a) d;have B:Ab n (Ab n b (hm x)) (Ab n b i)=Ab n (hm x) i:=by
     unfold Ab at q ⊢;rw[if_pos q];unfold Ab at f1;lia
   obtain⟨y,r,s⟩:=K.o.ord _ x (f i a) d (by rw[B];exact v);have C:prev n (Ab n b i)=Ab n b (prev n i):=by
     rw[qd5 c a (by lia)];rcases por n (Ab n b i) with h | h<;>lia
   rw[C] at r s;have t:=qi7 a;have f2:=l (prev n i) y t r;have D:=K.ln rfl _ y (f _ t) r;have f3:Ab n b (hm x)+Ab n (hm x) (prev n i)=Ab n b (prev n i):=Dm c (p x) t (by rw[qd5 c a (by lia)];lia);refine⟨y,r,?_⟩;have E:Ab n (Ab n b (hm y)) (Ab n b (prev n i))=Ab n (hm y) (prev n i):=by
     have:Ab n (Ab n b (hm y)) (Ab n b (prev n i))=Ab n b (prev n i) - Ab n b (hm y):=if_pos D
     lia
   have F:Ab n (Ab n b (hm x)) (Ab n b (prev n i))=Ab n (hm x) (prev n i):=by
     have:Ab n (Ab n b (hm x)) (Ab n b (prev n i))=Ab n b (prev n i) - Ab n b (hm x):=if_pos (by lia)
     lia
   unfold ahead at s ⊢;rwa[E,F] at s
 . have q:=K.ln rfl _ x (f b c) w
   have z:Ab n b b=0:=(qb5 c c).mpr rfl;rw[z] at q;exact(qb5 c (p x)).mp (by lia)
 obtain⟨j,m,e⟩:=(K.h.2 x).mp A;exact⟨rot n b j,qP5 c m,by show g (Ab n b (rot n b j))=_;rw[qq6 c m];exact e⟩
end
theorem Kept.of_perm{n:Nat}{wr:Bool}{hm:Int->Nat}{g:Nat->Option Int}{S T:List Int}(K:Kept n wr hm g S)(p:S.Perm T):Kept n wr hm g T:=⟨K.1,K.2,⟨p.nodup_iff.mp K.h.1,λ k=>p.mem_iff.symm.trans (K.h.2 k)⟩,K.4⟩
theorem G0{n:Nat}:Ab n 0 i=i:=if_pos (zBh _)
theorem qaA0{n:Nat}(b:a < n)(c:s<=n):((a:Int) - (s:Int)) % (n:Int)=(Ab n (s % n) a:Nat):=by
 by_cases e:s=n
 . subst e
   rw[Nat.mod_self,G0,Int.sub_emod_right];exact zC0 (by lia) (by lia)
 rw[zC7 (show s < n by lia)];unfold Ab;split
 . rw[zC0 (by lia) (by lia)];lia
 rw[<- Int.add_emod_right,zC0 (by lia) (by lia)];lia
end Row
namespace My
open PySem L2
noncomputable def bagL(x y z:Int)(L:Addr):HO:=.lst [.int x,.int y,.int z,.ref L]
structure BagAt(H:Hp)(p:Addr)(x y z:Int)(L:Addr)(ns:List Int):Prop where
 at_:H p=some (bagL x y z L)
 li:H L=some (.lst (ns.map V.int))
 x0:0<=x
 y0:0<=y
 y1:y < 2147483647
 z0:0<=z
 nn:∀ n∈ns,0<=n
def Bag(H:Hp)(p L:Addr):Prop:=∃ x y z a,BagAt H p x y z L a
theorem qaV6{L:Addr}{x y z:Int}{ns:List Int}:HO.lst (ns.map V.int)≠bagL x y z L:=by
 intro e;have e:ns.map V.int=[.int x,.int y,.int z,.ref L]:=by injection e
 have e:=congrArg (·[3]?) e;rw[zB2] at e;cases h:ns[3]? <;> rw[h] at e<;>cases e
theorem BagAt.ne{H:Hp}{p L:Addr}{x y z:Int}{ns:List Int}(B:BagAt H p x y z L ns):L≠p:=ne_of B.li B.at_ qaV6
def qaO9(K:PySem.W.Frag):Sp:=λ vs H Q _=>∃(l:Addr)(ns:List Int),vs=[.ref l]/\SqL K H l (ns.map V.int)/\ns.length<=63 /\
 ∀ p L H',H p=none->H L=none->Same H H'->Bag H' p L->Q (.ref p) H'
def G1(K:PySem.W.Frag):Sp:=λ vs H Q _=>∃(l:Addr)(ns:List Int),vs=[.ref l]/\SqL K H l (ns.map V.int)/\ns.length<=63/\∀ H',Q (.bl true) H'
abbrev Pr:=List (Int×Int)
def Al(n:Int):Prop:=0<=n/\n<=1000000000000000000
structure qx5(ps:Pr):Prop where
 len:ps.length<=64
 nd:(ps.map (·.1)).Nodup
 nums:∀ p∈ps,Al p.1/\Al p.2
noncomputable def qc6(n:Int)(ps:Pr)(k:Int):Int:=((ps.lookup k).getD k) % n
def A5(n:Int)(wr:Bool)(ps:Pr)(k r:Int):Option Int :=
 if wr then some ((r - qc6 n ps k) % n) else if 0<=r - qc6 n ps k then some (r - qc6 n ps k) else none
def ql2(n:Int)(wr:Bool)(ps:Pr)(r a other:Int):Bool :=
 match A5 n wr ps a r,A5 n wr ps other r with
 | none,_=>false
 | some _,none=>true
 | some x,some y=>decide (y < x)||(decide (x=y)&&decide (a < other))
theorem qah7{n:Int}(h:1<=n)(ps:Pr)(k:Int):0<=qc6 n ps k/\qc6 n ps k < n:=⟨Int.emod_nonneg _ (by lia),zC9 _ (by lia)⟩
theorem qah6(k:Int)(ks:List Int):inV (.int k) (ks.map V.int)=decide (k∈ks):=by
 unfold inV;rw[List.any_map,Bool.eq_iff_iff,List.any_eq_true,zBb];constructor
 . rintro⟨x,a,e⟩
   have e:(x == k)=true:=e;rw[<- zC1.mp e];exact a
 intro h;exact⟨k,h,zBk k⟩
end My
namespace My
open PySem L2
open Row
variable{n:Int}{ps:Pr}{r:Nat}
def hmOf(n:Int)(ps:Pr)(k:Int):Nat:=(qc6 n ps k).toNat
theorem Dn(h:1<=n)(k:Int):hmOf n ps k < n.toNat:=by
 have:=qah7 h ps k
 unfold hmOf;lia
theorem qL1(h:1<=n)(k:Int):((hmOf n ps k:Nat):Int)=qc6 n ps k:=by
 have:=qah7 h ps k
 unfold hmOf;lia
theorem qap6(a:1<=n){h:Nat}(b:h < n.toNat)(c:r < n.toNat):((r:Int) - (h:Int)) % n=(Ab n.toNat h r:Nat):=by
 rcases dor n.toNat h r with⟨h1,h2⟩ | ⟨h1,h2⟩
 . rw[zC0 (by lia) (by lia)];lia
 have e:((r:Int) - (h:Int)) % n=((r:Int) - (h:Int)+n) % n:=by rw[Int.add_emod_right]
 rw[e,zC0 (by lia) (by lia)]
 have:=h2 (by lia)
 lia
theorem qL7{wr:Bool}{k:Int}(a:1<=n)(c:r < n.toNat)(d:wr=false->hmOf n ps k<=r):A5 n wr ps k (r:Int)=some ((Ab n.toNat (hmOf n ps k) r:Nat):Int):=by
 have e:=Dn (ps:=ps) a k;have b:=qL1 (ps:=ps) a k;unfold A5;cases wr with
 | true=>rw[if_pos rfl,<- b,qap6 a e c]
 | false =>
   have:=d rfl
   rw[if_neg (by decide),if_pos (by lia),<- b]
   have:=dor n.toNat (hmOf n ps k) r
   congr 1;lia
theorem qI5{wr:Bool}{x y:Int}(a:1<=n)(b:r < n.toNat)(c:wr=false->hmOf n ps x<=r)(d:wr=false->hmOf n ps y<=r):ql2 n wr ps (r:Int) x y=true↔ahead n.toNat (hmOf n ps) r x y:=by
 unfold ql2 ahead;rw[qL7 a b c,qL7 a b d];show (decide _||(decide _&&decide _))=true↔_;simp only[Bool.or_eq_true,zBj,zBb];lia
theorem qaz4(a:1<=n)(b:r < n.toNat):((r:Int)+1) % n=(Row.next n.toNat r:Nat):=by
 rcases nor n.toNat r with⟨h,e⟩ | ⟨h,e⟩
 . rw[e,show ((r:Int)+1)=n by lia];simp
 rw[e,zC0 (by lia) (by lia)];rfl
end My
namespace LV
open PySem L2
variable{Ao:List Addr}{N:List Str}{P:List Value->Prop}{Q:VK}{base:Heap}{cd:Expr}{i j n:Nat}{kvs:List (Key×V)}{mg:Str->Option Value}{op:CmpOp}{pl:Sem Bool}{v w:V}{vs:List V}{z:Bool}{α:Type}{σ':St}
inductive D where
 | non | bl (b:Bool) | int (i:Int) | str (x:Str) | ty (n:String) | adr (a:Addr)
 | tup (ds:List D) | lst (z:Bool) (ds:List D) | dct (z:Bool) (kvs:List (Key×D)) | ins (z:Bool) (C:Addr) (fs:List (Str×D))
 | scr (ns:List Int)
 | hole (v:V) | unk
mutual
def D.imm:D->Bool
 | .tup ds=>D.imms ds
 | .lst z _=>z
 | .dct z _=>z
 | .ins z _ _=>z
 | _=>true
def D.imms:List D->Bool
 | []=>true
 | d::r=>d.imm&&D.imms r
end
mutual
def D.fz:D->D
 | .tup ds=>.tup (D.fzs ds)
 | .lst _ ds=>.lst true (D.fzs ds)
 | .dct _ kvs=>.dct true (D.fzk kvs)
 | .ins _ C fs=>.ins true C (D.fzf fs)
 | .non=>.non | .bl b=>.bl b | .int i=>.int i | .str x=>.str x | .ty n=>.ty n | .adr a=>.adr a | .scr c=>.scr c | .hole v=>.hole v | .unk=>.unk
def D.fzs:List D->List D
 | []=>[]
 | d::r=>d.fz::D.fzs r
def D.fzk:List (Key×D)->List (Key×D)
 | []=>[]
 | (k,d)::r=>(k,d.fz)::D.fzk r
def D.fzf:List (Str×D)->List (Str×D)
 | []=>[]
 | (k,d)::r=>(k,d.fz)::D.fzf r
end
mutual
inductive Rep(F:Addr->Prop)(H:Hp):V->D->List Addr->Prop
 | non:Rep F H .non .non []
 | bl (b:Bool):Rep F H (.bl b) (.bl b) []
 | int (i:Int):Rep F H (.int i) (.int i) []
 | str (x:Str):Rep F H (.str x) (.str x) []
 | ty (n:String):Rep F H (.ty n) (.ty n) []
 | adr (a:Addr):Rep F H (.ref a) (.adr a) []
 | tup {a:Addr} {vs:List V} {ds:List D} {A:List Addr} (h:H a=some (.tup vs)) (r:Reps F H vs ds A):Rep F H (.ref a) (.tup ds) A
 | lst {a:Addr} {vs:List V} {ds:List D} {A:List Addr} (h:H a=some (.lst vs)) (r:Reps F H vs ds A):Rep F H (.ref a) (.lst false ds) (a::A)
 | lstZ {a:Addr} {vs:List V} {ds:List D} (h:H a=some (.lst vs)) (f:F a) (r:Reps F H vs ds []):Rep F H (.ref a) (.lst true ds) []
 | dct {a:Addr} {kvs:List (Key×V)} {kds:List (Key×D)} {A:List Addr} (h:H a=some (.dK kvs)) (e:kvs.map (·.1)=kds.map (·.1)) (r:Reps F H (kvs.map (·.2)) (kds.map (·.2)) A):Rep F H (.ref a) (.dct false kds) (a::A)
 | dctZ {a:Addr} {kvs:List (Key×V)} {kds:List (Key×D)} (h:H a=some (.dK kvs)) (f:F a) (e:kvs.map (·.1)=kds.map (·.1)) (r:Reps F H (kvs.map (·.2)) (kds.map (·.2)) []):Rep F H (.ref a) (.dct true kds) []
 | ins {a C dx:Addr} {fvs:List (Str×V)} {fds:List (Str×D)} {A:List Addr} (h:H a=some (.ins C dx fvs)) (e:fvs.map (·.1)=fds.map (·.1)) (r:Reps F H (fvs.map (·.2)) (fds.map (·.2)) A):Rep F H (.ref a) (.ins false C fds) (a::A)
 | insZ {a C dx:Addr} {fvs:List (Str×V)} {fds:List (Str×D)} (h:H a=some (.ins C dx fvs)) (f:F a) (e:fvs.map (·.1)=fds.map (·.1)) (r:Reps F H (fvs.map (·.2)) (fds.map (·.2)) []):Rep F H (.ref a) (.ins true C fds) []
 | scr {a:Addr} {o:Obj} {ns:List Int} (h:H a=some (.frz o (.lst (ns.map V.int)))):Rep F H (.ref a) (.scr ns) []
 | hole (v:V):Rep F H v (.hole v) []
 | unk (v:V):Rep F H v .unk []
inductive Reps(F:Addr->Prop)(H:Hp):List V->List D->List Addr->Prop
 | nil:Reps F H [] [] []
 | cons {v:V} {d:D} {A:List Addr} {vs:List V} {ds:List D} {B:List Addr} (h:Rep F H v d A) (t:Reps F H vs ds B):Reps F H (v::vs) (d::ds) (A++B)
end
noncomputable def Ea:HO->Bool
 | .lst _=>true
 | .dK _=>true
 | .ins _ _ _=>true
 | _=>false
section
variable{F F':Addr->Prop}{H H':Hp}
def Cel(H:Hp)(A:List Addr):Prop:=∀ b∈A,∃ o,H b=some o/\Ea o=true
theorem Cel.cons{A:List Addr}{a:Addr}{o:HO}(e:H a=some o)(m:Ea o=true)(h:Cel H A):Cel H (a::A):=λ b c=>(zAo.mp c).elim (λ q=>q ▸ ⟨_,e,m⟩) (h b)
theorem Cel.app{A B:List Addr}(h:Cel H A)(g:Cel H B):Cel H (A++B):=λ b a=>(zAa.mp a).elim (h b) (g b)
theorem Rep.cells{v:V}{d:D}{A:List Addr}(r:Rep F H v d A):Cel H A:=by
 induction r using Rep.rec (motive_2:=λ _ _ A _=>Cel H A) with
 | tup e r i=>exact i
 | lst e r i=>exact Cel.cons e rfl i
 | dct e _ r i=>exact Cel.cons e rfl i
 | ins e _ r i=>exact Cel.cons e rfl i
 | cons _ _ i j=>exact Cel.app i j
 | _=>nofun
theorem Reps.cells{vs:List V}{ds:List D}{A:List Addr}(r:Reps F H vs ds A):Cel H A:=by
 induction r using Reps.rec (motive_1:=λ _ _ _ _=>True) with
 | cons h _ i j=>exact Cel.app h.cells j
 | nil=>nofun
 | _=>trivial
structure Kp(F:Addr->Prop)(H:Hp)(W F':Addr->Prop)(H':Hp):Prop where
 fr:∀ b o,H b=some o->¬ W b->H' b=some o
 wm:∀ b,W b->∃ o,H b=some o/\Ea o=true
 wf:∀ b,W b->¬ F b
 mF:∀ b,F b->F' b
theorem Kp.tup{W:Addr->Prop}(k:Kp F H W F' H'){a:Addr}{vs:List V}(h:H a=some (.tup vs)):H' a=some (.tup vs):=by
 refine k.fr a _ h λ w=>?_
 obtain⟨o,e,m⟩:=k.wm a w;rw[h] at e;cases e;cases m
theorem Kp.frz{W:Addr->Prop}(k:Kp F H W F' H'){a:Addr}{o:Obj}{u:HO}(h:H a=some (.frz o u)):H' a=some (.frz o u):=by
 refine k.fr a _ h λ w=>?_
 obtain⟨o,e,m⟩:=k.wm a w;rw[h] at e;cases e;cases m
theorem Rep.keep{W:Addr->Prop}(k:Kp F H W F' H'){v:V}{d:D}{A:List Addr}(r:Rep F H v d A):(∀ b∈A,¬ W b)->Rep F' H' v d A:=by
 induction r using Rep.rec (motive_2:=λ a c A _=>(∀ b∈A,¬ W b)->Reps F' H' a c A) with
 | tup e r i=>exact λ h=>.tup (k.tup e) (i h)
 | lst e r i=>exact λ h=>.lst (k.fr _ _ e (zB1.mp h).1) (i (zB1.mp h).2)
 | lstZ e f r i=>exact λ h=>.lstZ (k.fr _ _ e λ w=>k.wf _ w f) (k.mF _ f) (i h)
 | dct e q r i=>exact λ h=>.dct (k.fr _ _ e (zB1.mp h).1) q (i (zB1.mp h).2)
 | dctZ e f q r i=>exact λ h=>.dctZ (k.fr _ _ e λ w=>k.wf _ w f) (k.mF _ f) q (i h)
 | ins e q r i=>exact λ h=>.ins (k.fr _ _ e (zB1.mp h).1) q (i (zB1.mp h).2)
 | insZ e f q r i=>exact λ h=>.insZ (k.fr _ _ e λ w=>k.wf _ w f) (k.mF _ f) q (i h)
 | scr e=>exact λ _=>.scr (k.frz e)
 | cons _ _ i j h=>exact Reps.cons (i (zBm.mp h).1) (j (zBm.mp h).2)
 | nil=>constructor
 | _=>intro;constructor
theorem Reps.keep{W:Addr->Prop}(k:Kp F H W F' H'){vs:List V}{ds:List D}{A:List Addr}(r:Reps F H vs ds A):(∀ b∈A,¬ W b)->Reps F' H' vs ds A:=by
 induction r using Reps.rec (motive_1:=λ _ _ _ _=>True) with
 | nil=>exact λ _=>Reps.nil
 | cons r _ i j=>exact λ h=>Reps.cons (r.keep k (zBm.mp h).1) (j (zBm.mp h).2)
 | _=>trivial
theorem Kp.same(s:Same H H'):Kp F H (λ _=>False) F H':=⟨λ b o e _=>s b o e,λ _ w=>w.elim,λ _ w=>w.elim,λ _ f=>f⟩
theorem Rep.same{d:D}{A:List Addr}(r:Rep F H v d A)(s:Same H H'):Rep F H' v d A:=r.keep (Kp.same s) λ _ _=>id
theorem Reps.same{ds:List D}{A:List Addr}(r:Reps F H vs ds A)(s:Same H H'):Reps F H' vs ds A:=r.keep (Kp.same s) λ _ _=>id
theorem Kp.more(m:∀ b,F b->F' b):Kp F H (λ _=>False) F' H:=⟨λ b o e _=>e,λ _ w=>w.elim,λ _ w=>w.elim,m⟩
mutual
theorem Rep.imm{v:V}{d:D}{A:List Addr}(r:Rep F H v d A)(h:d.imm=true):A=[]:=by
 cases r with
 | tup e r=>exact r.imms h
 | lst=>cases h
 | dct=>cases h
 | ins=>cases h
 | _=>rfl
theorem Reps.imms{vs:List V}{ds:List D}{A:List Addr}(r:Reps F H vs ds A)(h:D.imms ds=true):A=[]:=by
 cases r with
 | nil=>rfl
 | cons r t =>
   have h:=zAc.mp h;rw[r.imm h.1,t.imms h.2];rfl
end
theorem qU7(a:List (Key×D)):(D.fzk a).map (·.1)=a.map (·.1)/\(D.fzk a).map (·.2)=D.fzs (a.map (·.2)):=by
 induction a with
 | nil=>exact⟨rfl,rfl⟩
 | cons p r b=>obtain⟨k,d⟩:=p;simp only[D.fzk,D.fzs,zB0,b.1,b.2,and_self]
theorem qU8(a:List (Str×D)):(D.fzf a).map (·.1)=a.map (·.1)/\(D.fzf a).map (·.2)=D.fzs (a.map (·.2)):=by
 induction a with
 | nil=>exact⟨rfl,rfl⟩
 | cons p r b=>obtain⟨k,d⟩:=p;simp only[D.fzf,D.fzs,zB0,b.1,b.2,and_self]
theorem Rep.fz{v:V}{d:D}{A:List Addr}(r:Rep F H v d A)(m:∀ b,F b->F' b):(∀ b∈A,F' b)->Rep F' H v d.fz []:=by
 induction r using Rep.rec (motive_2:=λ a c A _=>(∀ b∈A,F' b)->Reps F' H a (D.fzs c) []) with
 | tup e r i=>exact λ h=>.tup e (i h)
 | lst e r i=>exact λ h=>.lstZ e (zB1.mp h).1 (i (zB1.mp h).2)
 | lstZ e f r i=>exact λ h=>.lstZ e (m _ f) (i h)
 | dct e q r i=>exact λ h=>.dctZ e (zB1.mp h).1 (q.trans (qU7 _).1.symm) ((qU7 _).2 ▸ i (zB1.mp h).2)
 | dctZ e f q r i=>exact λ h=>.dctZ e (m _ f) (q.trans (qU7 _).1.symm) ((qU7 _).2 ▸ i h)
 | ins e q r i=>exact λ h=>.insZ e (zB1.mp h).1 (q.trans (qU8 _).1.symm) ((qU8 _).2 ▸ i (zB1.mp h).2)
 | insZ e f q r i=>exact λ h=>.insZ e (m _ f) (q.trans (qU8 _).1.symm) ((qU8 _).2 ▸ i h)
 | scr e=>exact λ _=>.scr e
 | nil=>exact Reps.nil
 | cons _ _ i j h=>exact Reps.cons (A:=[]) (B:=[]) (i (zBm.mp h).1) (j (zBm.mp h).2)
 | _=>intro;constructor
end
theorem ec:∀{us:List Value},us.length=n+1->∃ a vs,us=a::vs/\vs.length=n
 | a::vs,h=>⟨a,vs,rfl,Nat.succ.inj h⟩
theorem ec0(h:P [])(us:List Value)(e:us.length=0):P us:=List.length_eq_zero_iff.mp e ▸ h
theorem ec1(h:∀ x us,us.length=n->P (x::us))(us:List Value)(e:us.length=n+1):P us:=by
 obtain⟨x,a,rfl,b⟩:=ec e;exact h x a b
theorem ec2(h:∀ us,us.length=n->P us)(us:List Value)(e:us.length+1=n+1):P us:=h us (Nat.succ.inj e)
inductive Locs(F:Addr->Prop)(H:Hp):List (Option V)->List D->List Addr->Prop
 | nil:Locs F H [] [] []
 | no {σ:List (Option V)} {ds:List D} {A:List Addr} (t:Locs F H σ ds A):Locs F H (none::σ) (.unk::ds) A
 | so {v:V} {d:D} {B:List Addr} {σ:List (Option V)} {ds:List D} {A:List Addr} (h:Rep F H v d B) (t:Locs F H σ ds A):Locs F H (some v::σ) (d::ds) (B++A)
section
variable{F F':Addr->Prop}{H H':Hp}
theorem Locs.cells{σ:List (Option V)}{ds:List D}{A:List Addr}(r:Locs F H σ ds A):∀ b∈A,∃ o,H b=some o/\Ea o=true:=by
 induction r with
 | nil=>intro b h;cases h
 | no t c=>exact c
 | so h t c =>
   intro b a;rcases zAa.mp a with a | a
   . exact h.cells b a
   exact c b a
theorem Locs.keep{W:Addr->Prop}(k:Kp F H W F' H'){σ:List (Option V)}{ds:List D}{A:List Addr}(r:Locs F H σ ds A):(∀ b∈A,¬ W b)->Locs F' H' σ ds A:=by
 induction r with
 | nil=>exact λ _=>.nil
 | no t a=>exact λ h=>.no (a h)
 | so h t a=>exact λ q=>.so (h.keep k λ b c=>q b (zAa.mpr (.inl c))) (a λ b c=>q b (zAa.mpr (.inr c)))
theorem Locs.same{σ:List (Option V)}{ds:List D}{A:List Addr}(r:Locs F H σ ds A)(s:Same H H'):Locs F H' σ ds A:=r.keep (Kp.same s) λ _ _=>id
theorem Locs.len{σ:List (Option V)}{ds:List D}{A:List Addr}(r:Locs F H σ ds A):σ.length=ds.length:=by
 induction r with
 | nil=>rfl
 | no t a=>simp[a]
 | so h t a=>simp[a]
theorem Locs.append{σ τ:List (Option V)}{ds es:List D}{A B:List Addr}(r:Locs F H σ ds A)(t:Locs F H τ es B):Locs F H (σ++τ) (ds++es) (A++B):=by
 induction r with
 | nil=>exact t
 | no _ a=>exact .no a
 | so h _ a=>rw[zAm];exact .so h a
inductive G2(F:Addr->Prop)(H:Hp):Option V->D->List Addr->Prop
 | no:G2 F H none .unk []
 | so {v:V} {d:D} {B:List Addr} (h:Rep F H v d B):G2 F H (some v) d B
theorem Locs.cons{o:Option V}{d:D}{B:List Addr}{σ:List (Option V)}{ds:List D}{A:List Addr}(h:G2 F H o d B)(t:Locs F H σ ds A):Locs F H (o::σ) (d::ds) (B++A):=by
 cases h with
 | no=>exact .no t
 | so h=>exact .so h t
theorem Locs.split:∀{ds:List D}{σ:List (Option V)}{A:List Addr}{i:Nat}{d:D},Locs F H σ ds A->ds[i]? = some d ->
   ∃ σ1 o σ2 ds1 a A1 B A2,σ=σ1++o::σ2/\ds=ds1++d::a/\σ1.length=i/\ds1.length=i/\A=A1++(B++A2)/\Locs F H σ1 ds1 A1/\G2 F H o d B/\Locs F H σ2 a A2:=by
 intro ds
 induction ds with
 | nil=>intro σ A i d _ h;simp at h
 | cons e r m =>
   intro σ A i d L h;cases i with
   | zero =>
     have:e=d:=by simpa using h
     subst this;cases L with
     | no t=>exact⟨[],none,_,[],_,[],[],_,rfl,rfl,rfl,rfl,rfl,.nil,.no,t⟩
     | so q t=>exact⟨[],some _,_,[],_,[],_,_,rfl,rfl,rfl,rfl,rfl,.nil,.so q,t⟩
   | succ i =>
     have h:r[i]? = some d:=by simpa using h
     cases L with
     | no t =>
       obtain⟨σ1,o,σ2,ds1,a,A1,B,A2,b,e2,c,f,g,j,k,l⟩:=m t h;exact⟨none::σ1,o,σ2,_::ds1,a,A1,B,A2,by rw[b];rfl,by rw[e2];rfl,by simp[c],by simp[f],g,.no j,k,l⟩
     | @so v _ B0 _ _ A0 q t =>
       obtain⟨σ1,o,σ2,ds1,a,A1,B,A2,b,e2,c,f,g,j,k,l⟩:=m t h;exact⟨some v::σ1,o,σ2,_::ds1,a,B0++A1,B,A2,by rw[b];rfl,by rw[e2];rfl,by simp[c],by simp[f],by rw[g,zAm],.so q j,k,l⟩
end
theorem qr3{a b:List α}{x y:α}(h:a.length=i):(a++x::b).set i y=a++y::b:=by
 subst h;rw[List.set_append_right _ _ (zA3 _),Nat.sub_self];rfl
theorem qE6{a b:List α}{x:α}(h:a.length=i):(a++x::b)[i]? = some x:=by
 subst h;simp
structure Ok(F:Addr->Prop)(H:Hp)(A:List Addr):Prop where
 sep:∀ b,A.count b<=1
 fro:∀ b,F b->A.count b=0
 ex:∀ b,F b->∃ o,H b=some o
structure Stp(F:Addr->Prop)(H:Hp)(A:List Addr)(F':Addr->Prop)(H':Hp)(A':List Addr):Prop where
 fr:∀ b o,H b=some o->A.count b=0->H' b=some o
 sub:∀ b o,H b=some o->A.count b=0->A'.count b=0
 mono:∀ b,F b->F' b
 fnew:∀ b o,H b=some o->A.count b=0->F' b->F b
section
variable{F F1 F2:Addr->Prop}{H H1 H2:Hp}{A A1 A2 T:List Addr}
theorem Stp.refl:Stp F H A F H A:=⟨λ _ _ e _=>e,λ _ _ _ e=>e,λ _ f=>f,λ _ _ _ _ f=>f⟩
theorem Stp.trans(s:Stp F H A F1 H1 A1)(t:Stp F1 H1 A1 F2 H2 A2):Stp F H A F2 H2 A2 :=
 ⟨λ b o e q=>t.fr b o (s.fr b o e q) (s.sub b o e q),λ b o e q=>t.sub b o (s.fr b o e q) (s.sub b o e q),λ b f=>t.mono b (s.mono b f),λ b o e q f=>s.fnew b o e q (t.fnew b o (s.fr b o e q) (s.sub b o e q) f)⟩
theorem Stp.same(s:Same H H1):Stp F H A F H1 A:=⟨λ b o e _=>s b o e,λ _ _ _ e=>e,λ _ f=>f,λ _ _ _ _ f=>f⟩
theorem qa9{b:Addr}{A:List Addr}:b∈A↔A.count b≠0:=by
 rw[<- List.count_pos_iff];lia
theorem Stp.kp(s:Stp F H A F1 H1 A1)(o:Ok F H A)(c:∀ b∈A,∃ o,H b=some o/\Ea o=true):Kp F H (λ b=>A.count b≠0) F1 H1 :=
 ⟨λ b u e w=>s.fr b u e (by lia),λ b w=>c b (qa9.mpr w),λ b w f=>w (o.fro b f),s.mono⟩
theorem Ok.left(o:Ok F H (T++A)):Ok F H T:=⟨λ b=>by have:=o.sep b;rw[zA0] at this;lia,λ b f=>by have:=o.fro b f;rw[zA0] at this;lia,o.ex⟩
theorem Ok.right(o:Ok F H (T++A)):Ok F H A:=⟨λ b=>by have:=o.sep b;rw[zA0] at this;lia,λ b f=>by have:=o.fro b f;rw[zA0] at this;lia,o.ex⟩
theorem Ok.count(o:Ok F H A)(h:∀ b,A1.count b<=A.count b):Ok F H A1:=⟨λ b=>zAr (h b) (o.sep b),λ b f=>by have:=o.fro b f;have:=h b;lia,o.ex⟩
theorem Stp.frame(s:Stp F H A F1 H1 A1)(o:Ok F H (T++A))(c:∀ b∈T,∃ o,H b=some o/\Ea o=true)(d:Ok F1 H1 A1):Ok F1 H1 (T++A1)/\Stp F H (T++A) F1 H1 (T++A1):=by
 have a:∀ b,T.count b≠0->∃ u,H b=some u/\A.count b=0:=λ b h=>by
   obtain⟨u,e,_⟩:=c b (qa9.mpr h)
   have:=o.sep b
   rw[zA0] at this;exact⟨u,e,by lia⟩
 refine⟨⟨λ b=>?_,λ b f=>?_,d.ex⟩,λ b u e q=>?_,λ b u e q=>?_,s.mono,λ b u e q f=>?_⟩
 . rw[zA0]
   by_cases h:T.count b=0
   . have:=d.sep b;lia
   obtain⟨u,e,q⟩:=a b h;have g:=s.sub b u e q
   have:=o.sep b
   rw[zA0] at this;lia
 . rw[zA0,d.fro b f]
   by_cases h:T.count b=0
   . lia
   obtain⟨u,e,q⟩:=a b h
   have:=o.fro b (s.fnew b u e q f)
   rw[zA0] at this;lia
 . rw[zA0] at q;exact s.fr b u e (by lia)
 . rw[zA0] at q ⊢;have:=s.sub b u e (by lia);lia
 rw[zA0] at q;exact s.fnew b u e (by lia) f
theorem Stp.count(s:Stp F H A F1 H1 A1)(h:∀ b,A2.count b<=A1.count b):Stp F H A F1 H1 A2:=⟨s.fr,λ b o e q=>by have:=s.sub b o e q;have:=h b;lia,s.mono,s.fnew⟩
theorem Stp.pre(s:Stp F H A F1 H1 A1)(h:∀ b,A.count b=A2.count b):Stp F H A2 F1 H1 A1:=⟨λ b o e q=>s.fr b o e (by rw[h];exact q),λ b o e q=>s.sub b o e (by rw[h];exact q),s.mono,λ b o e q f=>s.fnew b o e (by rw[h];exact q) f⟩
end
structure New(H:Hp)(B:List Addr):Prop where
 one:∀ b,B.count b<=1
 new:∀ b o,H b=some o->B.count b=0
section
variable{F:Addr->Prop}{H H':Hp}{A B:List Addr}
theorem New.nil:New H []:=⟨λ b=>by simp,λ b o _=>by simp⟩
theorem New.ok(n:New H B)(o:Ok F H A)(c:∀ b∈A,∃ o,H b=some o/\Ea o=true)(s:Same H H'):Ok F H' (B++A):=by
 refine⟨λ b=>?_,λ b f=>?_,λ b f=>?_⟩
 . rw[zA0]
   have a:=n.one b;have d:=o.sep b;by_cases h:A.count b=0
   . lia
   obtain⟨u,e,_⟩:=c b (qa9.mpr h)
   have:=n.new b u e
   lia
 . rw[zA0,o.fro b f]
   obtain⟨u,e⟩:=o.ex b f;rw[n.new b u e]
 obtain⟨u,e⟩:=o.ex b f;exact⟨u,s b u e⟩
theorem New.append{H1:Hp}{B1:List Addr}(n:New H B)(s:Same H H1)(c:∀ b∈B,∃ o,H1 b=some o/\Ea o=true)(a:New H1 B1):New H (B++B1):=by
 refine⟨λ b=>?_,λ b o e=>?_⟩
 . rw[zA0]
   have d:=n.one b;have f:=a.one b;by_cases h:B.count b=0
   . lia
   obtain⟨u,e,_⟩:=c b (qa9.mpr h)
   have:=a.new b u e
   lia
 rw[zA0,n.new b o e,a.new b o (s b o e)]
theorem Ok.same(o:Ok F H A)(s:Same H H'):Ok F H' A:=⟨o.sep,o.fro,λ b f=>let ⟨u,e⟩:=o.ex b f;⟨u,s b u e⟩⟩
theorem New.stp(n:New H B)(s:Same H H'):Stp F H A F H' (B++A):=⟨λ b o e _=>s b o e,λ b o e q=>by rw[zA0,n.new b o e,q],λ _ f=>f,λ _ _ _ _ f=>f⟩
end
structure Exn where
 C:Addr
 fs:List (Str×D)
def RepX(F:Addr->Prop)(H:Hp)(e:Addr)(x:Exn):Prop :=
 ∃ b,H e=some (ExcO e x.C b false)/\(x.fs=[]∨∃ dx a,b=some dx/\H dx=some (XD dx a)/\a.map (·.1)=x.fs.map (·.1)/\Reps F H (a.map (·.2)) (x.fs.map (·.2)) [])
abbrev Ds:=List D
abbrev DK:=D->Ds->Prop
abbrev XKd:=Exn->Ds->Prop
abbrev VT:=Ds->DK->XKd->Prop
abbrev VTT:=Ds->(Bool->Ds->Prop)->XKd->Prop
abbrev VTA:=Ds->(Ds->Ds->Prop)->XKd->Prop
abbrev FV:=Ds->Option D
structure Vc where
 E:XK
 W:Nat->Bool
 av:List (Option V)
 gv:List (Option V)
structure Sta(c:Vc)(F:Addr->Prop)(H:Hp)(σ:St)(ds:Ds)(A:List Addr):Prop where
 loc:Locs F H (σ++c.gv) ds A
 ok:Ok F H A
 len:c.av.length=(σ++c.gv).length
 ag:∀ i,c.W i=true->(σ++c.gv)[i]? = c.av[i]?
theorem Sta.same{c:Vc}{F:Addr->Prop}{H H':Hp}{σ:St}{ds:Ds}{A:List Addr}(S:Sta c F H σ ds A)(s:Same H H'):Sta c F H' σ ds A:=⟨S.loc.same s,S.ok.same s,S.len,S.ag⟩
def Xc(c:Vc)(xe:XKd)(F:Addr->Prop)(H:Hp)(A:List Addr):Prop :=
 ∀ x a σ' e H' F' A',xe x a->RepX F' H' e x->Sta c F' H' σ' a A'->Stp F H A F' H' A'->c.E (.ref e) none H'
theorem Xc.step{c:Vc}{xe:XKd}{F F1:Addr->Prop}{H H1:Hp}{A A1:List Addr}(x:Xc c xe F H A)(s:Stp F H A F1 H1 A1):Xc c xe F1 H1 A1:=λ y a σ' e H' F' A' h r S t=>x y a σ' e H' F' A' h r S (s.trans t)
def kE(c:Vc)(σ:St)(F:Addr->Prop)(H:Hp)(A:List Addr)(Q:VK):DK:=λ d a=>∀ v H' F' T A',Rep F' H' v d T->Sta c F' H' σ a A'->Ok F' H' (T++A')->Stp F H A F' H' (T++A')->Q v H'
inductive LiftE(c:Vc)(t:VT)(σ:St)(H:Hp)(Q:VK):Prop
 | mk (F:Addr->Prop) (ds:Ds) (A:List Addr) (xe:XKd) (S:Sta c F H σ ds A) (x:Xc c xe F H A) (q:t ds (kE c σ F H A Q) xe):LiftE c t σ H Q
def Bh(c:Vc)(t:VT):TE:=LiftE c t
inductive LiftV(c:Vc)(own:Bool)(f:FV)(σ:St)(H:Hp)(Q:VK):Prop
 | mk (F:Addr->Prop) (ds:Ds) (A:List Addr) (d:D) (S:Sta c F H σ ds A) (e:f ds=some d) (q:∀ v H' B,Rep F H' v d B->Same H H'->(own=true->New H B)->Q v H'):LiftV c own f σ H Q
def liftV(c:Vc)(own:Bool)(f:FV):TE:=LiftV c own f
inductive qaO0(c:Vc)(own:Bool)(f:Ds->Option Ds)(σ:St)(H:Hp)(Q:List V->Hp->Prop):Prop
 | mk (F:Addr->Prop) (ds:Ds) (A:List Addr) (xs:Ds) (S:Sta c F H σ ds A) (e:f ds=some xs) (q:∀ vs H' B,Reps F H' vs xs B->Same H H'->(own=true->New H B)->Q vs H'):qaO0 c own f σ H Q
def qaJ8(c:Vc)(own:Bool)(f:Ds->Option Ds):TA:=qaO0 c own f
inductive qaO2(c:Vc)(t:VTA)(σ:St)(H:Hp)(Q:List V->Hp->Prop):Prop
 | mk (F:Addr->Prop) (ds:Ds) (A:List Addr) (xe:XKd) (S:Sta c F H σ ds A) (x:Xc c xe F H A) (q:t ds (λ xs ds'=>∀ vs H' F' T A',Reps F' H' vs xs T->Sta c F' H' σ ds' A'->Stp F H A F' H' A'->Q vs H') xe):qaO2 c t σ H Q
def qaJ9(c:Vc)(t:VTA):TA:=qaO2 c t
inductive LiftT(c:Vc)(t:VTT)(σ:St)(H:Hp)(Q:Bool->Hp->Prop):Prop
 | mk (F:Addr->Prop) (ds:Ds) (A:List Addr) (xe:XKd) (S:Sta c F H σ ds A) (x:Xc c xe F H A) (q:t ds (λ b ds'=>∀ H' F' A',Sta c F' H' σ ds' A'->Stp F H A F' H' A'->Q b H') xe):LiftT c t σ H Q
def Dp(c:Vc)(t:VTT):TT:=LiftT c t
structure VE(c:Vc)(X:Cx)(e:Expr)(t:VT):Prop where
 h:PE X e (Bh c t)
 m:∀ ds (Q Q':DK) (xe xe':XKd),(∀ d ds',Q d ds'->Q' d ds')->(∀ x ds',xe x ds'->xe' x ds')->t ds Q xe->t ds Q' xe'
structure VV(c:Vc)(X:Cx)(e:Expr)(own:Bool)(f:FV):Prop where
 h:PE X e (liftV c own f)
structure VVs(c:Vc)(X:Cx)(es:List Expr)(own:Bool)(f:Ds->Option Ds):Prop where
 h:PA X es (qaJ8 c own f)
structure VOs(c:Vc)(X:Cx)(es:List Expr)(t:VTA):Prop where
 h:PA X es (qaJ9 c t)
 m:∀ ds (Q Q':Ds->Ds->Prop) (xe xe':XKd),(∀ d ds',Q d ds'->Q' d ds')->(∀ x ds',xe x ds'->xe' x ds')->t ds Q xe->t ds Q' xe'
structure VTe(c:Vc)(X:Cx)(e:Expr)(t:VTT):Prop where
 h:PT X e (Dp c t)
 m:∀ ds (Q Q':Bool->Ds->Prop) (xe xe':XKd),(∀ d ds',Q d ds'->Q' d ds')->(∀ x ds',xe x ds'->xe' x ds')->t ds Q xe->t ds Q' xe'
theorem PE.mono{X:Cx}{e:Expr}{t t':TE}(h:PE X e t)(i:∀ σ H Q,t' σ H Q->t σ H Q):PE X e t':=λ De s σ H Q I q=>h De s σ H Q I (i σ H Q q)
theorem PT.mono{X:Cx}{e:Expr}{t t':TT}(h:PT X e t)(i:∀ σ H Q,t' σ H Q->t σ H Q):PT X e t':=λ De s σ H Q I q=>h De s σ H Q I (i σ H Q q)
theorem PW.mono{X:Cx}{e:Expr}{t t':TT}(h:PW X e t)(i:∀ σ H Q,t' σ H Q->t σ H Q):PW X e t':=λ w De s σ H Q I q=>h w De s σ H Q I (i σ H Q q)
theorem PA.mono{X:Cx}{es:List Expr}{t t':TA}(h:PA X es t)(i:∀ σ H Q,t' σ H Q->t σ H Q):PA X es t':=λ p De s σ H Q I q=>h p De s σ H Q I (i σ H Q q)
theorem PS.mono{X:Cx}{st:Stmt}{t t':TS}(h:PS X st t)(i:∀ D σ H,t' D σ H->t D σ H):PS X st t':=λ De s σ H D I q=>h De s σ H D I (i D σ H q)
theorem PSs.mono{X:Cx}{st:List Stmt}{t t':TS}(h:PSs X st t)(i:∀ D σ H,t' D σ H->t D σ H):PSs X st t':=λ De s σ H D I q=>h De s σ H D I (i D σ H q)
def orF{α:Type}(o:Option α)(k:α->Prop):Prop:=match o with | some a=>k a | none=>False
theorem qa4{o:Option α}{k b:α->Prop}(h:∀ a,k a->b a):orF o k->orF o b:=by
 cases o with
 | none=>exact id
 | some a=>exact h a
theorem qa6{o:Option α}{k:α->Prop}:orF o k↔∃ a,o=some a/\k a:=by
 cases o with
 | none=>exact⟨λ h=>h.elim,λ ⟨_,e,_⟩=>by cases e⟩
 | some a=>exact⟨λ h=>⟨a,rfl,h⟩,λ ⟨b,e,h⟩=>by cases e;exact h⟩
section
variable{c:Vc}{X:Cx}{e:Expr}{F:Addr->Prop}{H H':Hp}{σ:St}{ds:Ds}{A:List Addr}
theorem Sta.new{B:List Addr}(S:Sta c F H σ ds A)(n:New H B)(s:Same H H'):Ok F H' (B++A):=n.ok S.ok S.loc.cells s
def B7(f:FV):VT:=λ ds Q _=>orF (f ds) λ d=>Q d ds
def Bw(f:FV):VT:=λ ds Q _=>orF (f ds) λ d=>d.imm=true/\Q d ds
theorem qa5{f:FV}(h:VV c X e true f):VE c X e (B7 f):=by
 refine⟨PE.mono h.h λ σ H Q a=>?_,λ b Q Q' g i j _=>qa4 λ d=>j d b⟩;obtain⟨F,b,A,g,S,x,q⟩:=a;obtain⟨d,e,q⟩:=qa6.mp q;exact⟨F,b,A,d,S,e,λ v H' B r s n=>q v H' F B A r (S.same s) (S.new (n rfl) s) ((n rfl).stp s)⟩
theorem qc2{own:Bool}{f:FV}(h:VV c X e own f):VE c X e (Bw f):=by
 refine⟨PE.mono h.h λ σ H Q a=>?_,λ b Q Q' g i j _=>qa4 λ d=>And.imp_right (j d b)⟩;obtain⟨F,b,A,g,S,x,q⟩:=a;obtain⟨d,e,k,q⟩:=qa6.mp q;refine⟨F,b,A,d,S,e,λ v H' B r s _=>?_⟩
 have:=r.imm k
 subst this;exact q v H' F [] A r (S.same s) (S.ok.same s) (.same s)
theorem Fw{d:D}(h:PE X e (tC v))(r:∀ F H,Rep F H v d []):VV c X e true (λ _=>some d) :=
 ⟨PE.mono h λ σ H Q ⟨F,a,A,b,S,e,q⟩=>by cases e;exact q v H [] (r F H) (λ _ _ z=>z) λ _=>New.nil⟩
noncomputable def D.known:D->Bool
 | .unk=>false
 | .hole _=>false
 | _=>true
def rdN(i:Nat):FV:=λ ds=>match ds[i]? with
 | some d=>if d.known=true then some d else none
 | none=>none
theorem qo0{d:D}:rdN i ds=some d↔ds[i]? = some d/\d.known=true:=by
 unfold rdN;cases h:ds[i]? with
 | none=>simp
 | some x =>
   dsimp only;split
   . rename_i hk;constructor
     . intro e;cases e;exact⟨rfl,hk⟩
     rintro⟨e,_⟩;exact e
   rename_i hk;constructor
   . intro e;cases e
   rintro⟨e,a⟩;cases e;exact absurd a hk
theorem Sta.at{d:D}(S:Sta c F H σ ds A)(hi:i < σ.length)(h:ds[i]? = some d)(a:d.known=true):∃ v B,σ[i]? = some (some v)/\Rep F H v d B/\∀ b,B.count b<=A.count b:=by
 obtain⟨σ1,o,σ2,e,f,A1,B,A2,g,e2,j,m,k,n,l,p⟩:=S.loc.split h;cases l with
 | no=>cases a
 | @so v _ _ r =>
   refine⟨v,B,?_,r,λ b=>by rw[k];simp only[zA0];lia⟩
   have:(σ++c.gv)[i]? = some (some v):=by rw[g];exact qE6 j
   rwa[zAu hi] at this
theorem qaD4{x:Str}{pos:Pos}(h:PE X (.Name x pos) (E8 i))(hi:∀ De σ H s,Inv X De σ H s->i < σ.length):VV c X (.Name x pos) false (rdN i):=by
 refine⟨λ De s σ H Q I a=>?_⟩;obtain⟨F,g,A,d,S,e,q⟩:=a;refine h De s σ H Q I ?_;obtain⟨e,b⟩:=qo0.mp e;obtain⟨v,B,f,r,_⟩:=S.at (hi De σ H s I) e b;exact⟨v,f,q v H B r (λ _ _ z=>z) λ z=>by cases z⟩
theorem qs0{X:Cx}{x:Str}(a:X.N[i]? = some x):∀ De σ H s,Inv X De σ H s->i < σ.length:=λ De σ H s I=>by
 rw[I.len];exact(zA2.mp a).1
end
def Sub(H:Hp)(B B':List Addr):Prop:=∀ b,B'.count b<=B.count b∨(B'.count b<=1/\H b=none)
theorem Sub.new{H H1:Hp}{B B':List Addr}(s:Sub H1 B B')(n:New H B)(q:Same H H1):New H B':=by
 refine⟨λ b=>?_,λ b o e=>?_⟩
 . rcases s b with h | ⟨h,_⟩
   . have:=n.one b;lia
   exact h
 rcases s b with h | ⟨_,h⟩
 . have:=n.new b o e;lia
 rw[q b o e] at h;cases h
def OpS(nw:Bool)(r:List V->Hp->VK->Prop)(g:Ds->Option D):Prop:=∀ F H vs xs B d (Q:VK),Reps F H vs xs B->g xs=some d ->
 (∀ v H' B',Rep F H' v d B'->Same H H'->(if nw=true then New H B' else Sub H B B')->Q v H')->r vs H Q
def A9(nw:Bool)(r:R2)(g:D->D->Option D):Prop:=∀ F H v w x y B d (Q:VK),Reps F H [v,w] [x,y] B->g x y=some d ->
 (∀ v H' B',Rep F H' v d B'->Same H H'->(if nw=true then New H B' else Sub H B B')->Q v H')->r v w H Q
noncomputable def f2(g:D->D->Option D)(fa fb:FV):FV:=λ ds=>(fa ds).bind λ x=>(fb ds).bind λ y=>g x y
theorem qaC1{g:D->D->Option D}{fa fb:FV}{ds:Ds}{d:D}:f2 g fa fb ds=some d↔∃ x y,fa ds=some x/\fb ds=some y/\g x y=some d:=by
 unfold f2;cases a:fa ds with
 | none=>simp
 | some x=>cases b:fb ds with
   | none=>simp
   | some y=>simp
noncomputable def f1(g:D->Option D)(fa:FV):FV:=λ ds=>(fa ds).bind g
theorem qap3{g:D->Option D}{fa:FV}{ds:Ds}{d:D}:f1 g fa ds=some d↔∃ x,fa ds=some x/\g x=some d:=by
 unfold f1;cases a:fa ds with
 | none=>simp
 | some x=>simp
theorem Fo{F:Addr->Prop}{H:Hp}{d e:D}{A B:List Addr}(r:Rep F H v d A)(s:Rep F H w e B):Reps F H [v,w] [d,e] (A++(B++[])):=.cons r (.cons s .nil)
section
variable{c:Vc}{X:Cx}{a b:Expr}{oa ob nw:Bool}{fa fb:FV}{r:R2}{g:D->D->Option D}{ta tb:VT}
theorem op_vv(h:A9 nw r g):∀ σ H Q,liftV c (nw||(oa&&ob)) (f2 g fa fb) σ H Q->tOp r (liftV c oa fa) (liftV c ob fb) σ H Q:=by
 rintro σ H Q ⟨F,k,A,d,S,e,q⟩;obtain⟨x,y,m,n,p⟩:=qaC1.mp e;refine⟨F,k,A,x,S,m,λ v H1 B1 l a s=>⟨F,k,A,y,S.same a,n,λ w H2 B2 t i z=>?_⟩⟩;refine h F H2 v w x y _ d Q (Fo (l.same i) t) p λ u H3 B3 B C f=>?_
 refine q u H3 B3 B ((a.trans i).trans C) λ j=>?_
 cases nw with
 | true=>rw[if_pos rfl] at f;exact⟨f.one,λ b o e=>f.new b o (i b o (a b o e))⟩
 | false =>
   rw[if_neg (by decide)] at f;have j:=zAc.mp j
   have:=(s j.1).append a l.cells (z j.2)
   exact f.new (by rw[zAg];exact this) (a.trans i)
def t2(g:D->D->Option D)(ta tb:VT):VT:=λ ds Q xe=>ta ds (λ x ds1=>tb ds1 (λ y a=>orF (g x y) λ d=>Q d a) xe) xe
theorem qar3(j:VE c X a ta)(k:VE c X b tb):∀ ds (Q Q':DK) (xe f:XKd),(∀ d e,Q d e->Q' d e)->(∀ x e,xe x e->f x e)->t2 g ta tb ds Q xe->t2 g ta tb ds Q' f :=
 λ ds Q Q' xe f l i=>j.m _ _ _ _ _ (λ d n=>k.m _ _ _ _ _ (λ d h=>qa4 λ z=>l z h) i) i
theorem op_ee(s:VE c X a ta)(i:VE c X b tb)(h:A9 true r g):∀ σ H Q,Bh c (t2 g ta tb) σ H Q->tOp r (Bh c ta) (Bh c tb) σ H Q:=by
 rintro σ H Q ⟨F,t,A,o,S,x,q⟩;refine⟨F,t,A,o,S,x,s.m _ _ _ _ _ (λ p j q v H1 F1 T A1 y S1 B C=>?_) (λ _ _ z=>z) q⟩;have e:Stp F H A F1 H1 A1:=C.count λ b=>by rw[zA0];lia
 refine⟨F1,j,A1,o,S1,x.step e,i.m _ _ _ _ _ (λ D E q w H2 F2 T2 A2 G S2 L I=>?_) (λ _ _ z=>z) q⟩;obtain⟨d,J,q⟩:=qa6.mp q;have f:Stp F1 H1 A1 F2 H2 A2:=I.count λ b=>by rw[zA0];lia
 have k:Rep F2 H2 v p T:=y.keep (f.kp S1.ok S1.loc.cells) λ b i M=>by
   have:=B.sep b
   rw[zA0] at this
   have:=qa9.mp i
   lia
 refine h F2 H2 v w p D _ d Q (Fo k G) J λ u H3 B3 K l n=>?_
 rw[if_pos rfl] at n;exact q u H3 F2 B3 A2 K (S2.same l) (S2.new n l) ((e.trans f).trans (n.stp l))
def t2v(g:D->D->Option D)(ta:VT)(fb:FV):VT:=λ ds Q xe=>ta ds (λ x ds1=>orF ((fb ds1).bind (g x)) λ d=>Q d ds1) xe
theorem qaw0(h:VE c X a ta):∀ ds (Q Q':DK) (xe e:XKd),(∀ d b,Q d b->Q' d b)->(∀ x b,xe x b->e x b)->t2v g ta fb ds Q xe->t2v g ta fb ds Q' e :=
 λ ds Q Q' xe e i j=>h.m _ _ _ _ _ (λ d f=>qa4 λ z=>i z f) j
theorem op_ev(s:VE c X a ta)(h:A9 true r g):∀ σ H Q,Bh c (t2v g ta fb) σ H Q->tOp r (Bh c ta) (liftV c ob fb) σ H Q:=by
 rintro σ H Q ⟨F,t,A,B,S,x,q⟩;refine⟨F,t,A,B,S,x,s.m _ _ _ _ _ (λ C j q v H1 F1 T A1 D S1 L E=>?_) (λ _ _ z=>z) q⟩;have k:Stp F H A F1 H1 A1:=E.count λ b=>by rw[zA0];lia
 obtain⟨d,l,q⟩:=qa6.mp q;obtain⟨y,G,l⟩:=zA1.mp l;refine⟨F1,j,A1,y,S1,G,λ w H2 B2 I n _=>?_⟩;refine h F1 H2 v w C y _ d Q (Fo (D.same n) I) l λ u H3 B3 J K p=>?_
 rw[if_pos rfl] at p;have f:=n.trans K;have i:New H1 B3:=⟨p.one,λ b o e=>p.new b o (n b o e)⟩
 exact q u H3 F1 B3 A1 J (S1.same f) (S1.new i f) (k.trans (i.stp f))
def OpS1(nw:Bool)(r:V->Hp->VK->Prop)(g:D->Option D):Prop:=∀ F H v x B d (Q:VK),Rep F H v x B->g x=some d ->
 (∀ v H' B',Rep F H' v d B'->Same H H'->(if nw=true then New H B' else Sub H B B')->Q v H')->r v H Q
def t1(g:D->Option D)(ta:VT):VT:=λ ds Q xe=>ta ds (λ x ds1=>orF (g x) λ d=>Q d ds1) xe
variable{r1:V->Hp->VK->Prop}{g1:D->Option D}
theorem op_v(h:OpS1 nw r1 g1):∀ σ H Q,liftV c (nw||oa) (f1 g1 fa) σ H Q->liftV c oa fa σ H (λ x H1=>r1 x H1 Q):=by
 rintro σ H Q ⟨F,g,A,d,S,e,q⟩;obtain⟨x,i,j⟩:=qap3.mp e;refine⟨F,g,A,x,S,i,λ v H1 B1 r1 f k=>?_⟩;refine h F H1 v x _ d Q r1 j λ u H3 B3 l m a=>?_
 refine q u H3 B3 l (f.trans m) λ n=>?_
 cases nw with
 | true=>rw[if_pos rfl] at a;exact⟨a.one,λ b o e=>a.new b o (f b o e)⟩
 | false=>rw[if_neg (by decide)] at a;exact a.new (k n) f
end
theorem qao1{F F1:Addr->Prop}{H H1 H3:Hp}{A A1 T B:List Addr}(d:Ok F1 H1 (T++A1))(c:Stp F H A F1 H1 (T++A1))(j:∀ b∈A1,∃ o,H1 b=some o/\Ea o=true)(i:Same H1 H3)(g:Sub H1 T B):Ok F1 H3 (B++A1)/\Stp F H A F1 H3 (B++A1):=by
 refine⟨⟨λ b=>?_,λ b f=>?_,λ b f=>let ⟨u,e⟩:=d.ex b f;⟨u,i b u e⟩⟩,λ b o e q=>i b o (c.fr b o e q),λ b o e q=>?_,c.mono,c.fnew⟩
 . have:=d.sep b
   rw[zA0] at this ⊢;rcases g b with h | ⟨h,a⟩
   . lia
   by_cases k:A1.count b=0
   . lia
   obtain⟨o,e,_⟩:=j b (qa9.mpr k);rw[e] at a;cases a
 . have:=d.fro b f
   rw[zA0] at this ⊢;rcases g b with h | ⟨h,a⟩
   . lia
   obtain⟨o,e⟩:=d.ex b f;rw[e] at a;cases a
 have:=c.sub b o e q
 rw[zA0] at this ⊢;rcases g b with h | ⟨h,a⟩
 . lia
 rw[c.fr b o e q] at a;cases a
section
variable{c:Vc}{X:Cx}{a b:Expr}{oa nw:Bool}{fa:FV}{r:R2}{g:D->D->Option D}{ta tb:VT}
theorem qaR5(D:VE c X a ta)(e:VE c X b tb)(h:A9 false r g):∀ σ H Q,Bh c (t2 g ta tb) σ H Q->tOp r (Bh c ta) (Bh c tb) σ H Q:=by
 rintro σ H Q ⟨F,E,A,l,S,x,q⟩;refine⟨F,E,A,l,S,x,D.m _ _ _ _ _ (λ n f q v H1 F1 T A1 o S1 p s=>?_) (λ _ _ z=>z) q⟩;have i:Stp F H A F1 H1 A1:=s.count λ b=>by rw[zA0];lia
 refine⟨F1,f,A1,l,S1,x.step i,e.m _ _ _ _ _ (λ G I q w H2 F2 T2 A2 J S2 K t=>?_) (λ _ _ z=>z) q⟩;obtain⟨d,L,q⟩:=qa6.mp q;have j:Rep F2 H2 v n T:=o.keep (t.kp S1.ok S1.loc.cells) λ b e P=>by
   have:=p.sep b
   rw[zA0] at this
   have:=qa9.mp e
   lia
 obtain⟨y,B⟩:=t.frame p o.cells K;refine h F2 H2 v w n G _ d Q (Fo j J) L λ u H3 B3 M C k=>?_
 rw[if_neg (by decide)] at k;rw[<- zAm] at y B;obtain⟨N,O⟩:=qao1 y (s.trans B) S2.loc.cells C (by rw[zAg] at k;exact k);exact q u H3 F2 B3 A2 M (S2.same C) N O
theorem qa7:VVs c X [] true (λ _=>some []):=⟨PA.mono qC7 λ σ H Q ⟨F,a,A,b,S,e,q⟩=>by cases e;exact q [] H [] .nil (λ _ _ z=>z) λ _=>New.nil⟩
noncomputable def Ay(fa:FV)(a:Ds->Option Ds):Ds->Option Ds:=λ ds=>(fa ds).bind λ x=>(a ds).bind λ xs=>some (x::xs)
theorem qap2{fa:FV}{a:Ds->Option Ds}{ds xs:Ds}:Ay fa a ds=some xs↔∃ x r,fa ds=some x/\a ds=some r/\xs=x::r:=by
 unfold Ay;cases b:fa ds with
 | none=>simp
 | some x=>cases c:a ds with
   | none=>simp
   | some y=>simp[eq_comm]
theorem qa2{e:Expr}{es:List Expr}{own:Bool}{f:Ds->Option Ds}(k:VV c X e oa fa)(l:VVs c X es own f)(m:starEach (e::es) X.env=(false,eval e X.env)::starEach es X.env):VVs c X (e::es) (oa&&own) (Ay fa f):=by
 refine⟨PA.mono (qh2 k.h l.h m) λ σ H Q b=>?_⟩;obtain⟨F,g,A,u,S,e,q⟩:=b;obtain⟨x,r,n,e2,rfl⟩:=qap2.mp e;refine⟨F,g,A,x,S,n,λ v H1 B1 i d o=>⟨F,g,A,r,S.same d,e2,λ p H2 B2 s j t=>?_⟩⟩;refine q (v::p) H2 (B1++B2) (.cons (i.same j) s) (d.trans j) λ a=>?_
 have a:=zAc.mp a;exact(o a.1).append d i.cells (t a.2)
variable{rc:List V->Hp->VK->Prop}{gc:Ds->Option D}
theorem qaI5{own:Bool}{f:Ds->Option Ds}(h:OpS nw rc gc):∀ σ H Q,liftV c (nw||own) (λ ds=>(f ds).bind gc) σ H Q->tCB rc (qaJ8 c own f) σ H Q:=by
 rintro σ H Q ⟨F,ds,A,d,S,e,q⟩;obtain⟨i,j,e2⟩:=zA1.mp e;refine⟨F,ds,A,i,S,j,λ k H1 B1 l g m=>h F H1 k i B1 d Q l e2 λ u H3 B3 n p a=>q u H3 B3 n (g.trans p) λ r=>?_⟩;cases nw with
 | true=>rw[if_pos rfl] at a;exact⟨a.one,λ b o e=>a.new b o (g b o e)⟩
 | false=>rw[if_neg (by decide)] at a;exact a.new (m r) g
def tcO(gc:Ds->Option D)(t:VTA):VT:=λ ds Q xe=>t ds (λ xs ds1=>orF (gc xs) λ d=>Q d ds1) xe
theorem qav8{es:List Expr}{t:VTA}(f:VOs c X es t):∀ ds (Q Q':DK) (xe b:XKd),(∀ d a,Q d a->Q' d a)->(∀ x a,xe x a->b x a)->tcO gc t ds Q xe->tcO gc t ds Q' b :=
 λ ds Q Q' xe b g h=>f.m _ _ _ _ _ (λ d e=>qa4 λ z=>g z e) h
theorem opc_o{es:List Expr}{t:VTA}(e:VOs c X es t)(h:OpS true rc gc):∀ σ H Q,Bh c (tcO gc t) σ H Q->tCB rc (qaJ9 c t) σ H Q:=by
 rintro σ H Q ⟨F,f,A,g,S,x,q⟩;refine⟨F,f,A,g,S,x,e.m _ _ _ _ _ (λ i j q k H1 F1 T A1 l S1 n=>?_) (λ _ _ z=>z) q⟩;obtain⟨d,o,q⟩:=qa6.mp q;refine h F1 H1 k i T d Q l o λ u H3 B3 p a b=>?_
 rw[if_pos rfl] at b;exact q u H3 F1 B3 A1 p (S1.same a) (S1.new b a) (n.trans (b.stp a))
end
def D.kids:D->List D
 | .tup ds=>ds
 | .lst false ds=>ds
 | .dct false kvs=>kvs.map (·.2)
 | .ins false _ fs=>fs.map (·.2)
 | _=>[]
noncomputable def Hg{κ:Type}:List (κ×D)->Nat->D->List (κ×D)
 | [],_,_=>[]
 | (k,_)::r,0,x=>(k,x)::r
 | p::r,n+1,x=>p::Hg r n x
theorem qO8{κ:Type}:∀(l:List (κ×D))(n:Nat)(x:D),(Hg l n x).map (·.1)=l.map (·.1)/\(Hg l n x).map (·.2)=(l.map (·.2)).set n x
 | [],_,_=>⟨rfl,rfl⟩
 | (k,_)::r,0,x=>⟨rfl,rfl⟩
 | p::r,n+1,x=>by
   obtain⟨a,b⟩:=qO8 r n x;simp only[Hg,zB0,a,b,List.set_cons_succ,and_self]
def D.setK:D->Nat->D->D
 | .tup ds,n,x=>.tup (ds.set n x)
 | .lst z ds,n,x=>.lst z (ds.set n x)
 | .dct z kvs,n,x=>.dct z (Hg kvs n x)
 | .ins z C fs,n,x=>.ins z C (Hg fs n x)
 | d,_,_=>d
def Lnk(H:Hp)(u:V)(n:Nat)(w:V):Prop:=∃ a,u=.ref a /\
 ((∃ vs,H a=some (.tup vs)/\vs[n]? = some w)∨(∃ vs,H a=some (.lst vs)/\vs[n]? = some w)∨(∃ kvs,H a=some (.dK kvs)/\(kvs.map (·.2))[n]? = some w)∨∃ C dx fs,H a=some (.ins C dx fs)/\(fs.map (·.2))[n]? = some w)
section
variable{F F':Addr->Prop}{H H':Hp}
theorem Reps.split:∀{ds:List D}{vs:List V}{A:List Addr}{i:Nat}{d:D},Reps F H vs ds A->ds[i]? = some d ->
   ∃ b v c ds1 a A1 B A2,vs=b++v::c/\ds=ds1++d::a/\b.length=i/\ds1.length=i/\A=A1++(B++A2)/\Reps F H b ds1 A1/\Rep F H v d B/\Reps F H c a A2:=by
 intro ds
 induction ds with
 | nil=>intro σ A i d _ h;simp at h
 | cons e r f =>
   intro σ A i d L h;cases i with
   | zero =>
     have:e=d:=by simpa using h
     subst this;cases L with
     | cons q t=>exact⟨[],_,_,[],_,[],_,_,rfl,rfl,rfl,rfl,rfl,.nil,q,t⟩
   | succ i =>
     have h:r[i]? = some d:=by simpa using h
     cases L with
     | @cons v _ B0 _ _ A0 q t =>
       obtain⟨σ1,o,σ2,ds1,a,A1,B,A2,g,e2,j,k,l,m,n,p⟩:=f t h;exact⟨v::σ1,o,σ2,_::ds1,a,B0++A1,B,A2,by rw[g];rfl,by rw[e2];rfl,by simp[j],by simp[k],by rw[l,zAm],.cons q m,n,p⟩
theorem Reps.append{a:List V}{ds es:List D}{A B:List Addr}(r:Reps F H vs ds A)(t:Reps F H a es B):Reps F H (vs++a) (ds++es) (A++B):=by
 induction vs generalizing ds A with
 | nil=>cases r;exact t
 | cons v vs b =>
   cases r with
   | cons h c=>rw[zAm];exact .cons h (b c)
theorem Reps.kid{ds:List D}{A:List Addr}{d:D}(r:Reps F H vs ds A)(h:ds[n]? = some d):∃(w:V)(B C:List Addr),vs[n]? = some w/\Rep F H w d B/\(∀ b,A.count b=B.count b+C.count b) /\
   ∀{F':Addr->Prop}{H':Hp}{W:Addr->Prop}(d':D)(B':List Addr),Kp F H W F' H'->(∀ b∈C,¬ W b)->Rep F' H' w d' B'->∃ A':List Addr,Reps F' H' vs (ds.set n d') A'/\∀ b,A'.count b=B'.count b+C.count b:=by
 obtain⟨f,v,g,i,j,A1,B,A2,c,e2,l,m,o,p,q,s⟩:=r.split h;refine⟨v,B,A1++A2,by rw[c];exact qE6 l,q,λ b=>by rw[o];simp only[zA0];lia,λ{F' H' W} d' B' k e t=>⟨A1++(B'++A2),?_,λ b=>by simp only[zA0];lia⟩⟩;rw[c,e2,qr3 m];exact(p.keep k λ b a=>e b (zAa.mpr (.inl a))).append (.cons t (s.keep k λ b a=>e b (zAa.mpr (.inr a))))
theorem Rep.kid{p:V}{d0 d:D}{A:List Addr}(r:Rep F H p d0 A)(h:d0.kids[n]? = some d):∃(w:V)(B C:List Addr),Lnk H p n w/\Rep F H w d B/\(∀ b,A.count b=B.count b+C.count b) /\
   ∀{F':Addr->Prop}{H':Hp}{W:Addr->Prop}(d':D)(B':List Addr),Kp F H W F' H'->(∀ b∈C,¬ W b)->Rep F' H' w d' B'->∃ A':List Addr,Rep F' H' p (d0.setK n d') A'/\∀ b,A'.count b=B'.count b+C.count b:=by
 cases r with
 | @tup a vs ds _ e r =>
   obtain⟨w,B,C,f,g,i,j⟩:=r.kid (n:=n) h;refine⟨w,B,C,⟨a,rfl,.inl ⟨vs,e,f⟩⟩,g,i,λ{F' H' W} d' B' k c l=>?_⟩;obtain⟨A',m,q2⟩:=j d' B' k c l;exact⟨A',.tup (k.tup e) m,q2⟩
 | @lst a vs ds A e r =>
   obtain⟨w,B,C,f,g,i,j⟩:=r.kid (n:=n) h;refine⟨w,B,a::C,⟨a,rfl,.inr (.inl ⟨vs,e,f⟩)⟩,g,λ b=>by rw[zAl,zAl,i];lia,λ{F' H' W} d' B' k c l=>?_⟩;obtain⟨A',m,q2⟩:=j d' B' k (λ b o=>c b (zA6 _ o)) l;exact⟨a::A',.lst (k.fr a _ e (c a zAb)) m,λ b=>by rw[zAl,zAl,q2];lia⟩
 | @dct a kvs kds A e q r =>
   obtain⟨w,B,C,f,g,i,j⟩:=r.kid (n:=n) h;refine⟨w,B,a::C,⟨a,rfl,.inr (.inr (.inl ⟨kvs,e,f⟩))⟩,g,λ b=>by rw[zAl,zAl,i];lia,λ{F' H' W} d' B' k c l=>?_⟩;obtain⟨A',m,q2⟩:=j d' B' k (λ b o=>c b (zA6 _ o)) l;obtain⟨s,t⟩:=qO8 kds n d';exact⟨a::A',.dct (k.fr a _ e (c a zAb)) (q.trans s.symm) (by rw[t];exact m),λ b=>by rw[zAl,zAl,q2];lia⟩
 | @ins a C0 dx fvs fds A e q r =>
   obtain⟨w,B,C,f,g,i,j⟩:=r.kid (n:=n) h;refine⟨w,B,a::C,⟨a,rfl,.inr (.inr (.inr ⟨C0,dx,fvs,e,f⟩))⟩,g,λ b=>by rw[zAl,zAl,i];lia,λ{F' H' W} d' B' k c l=>?_⟩;obtain⟨A',m,q2⟩:=j d' B' k (λ b o=>c b (zA6 _ o)) l;obtain⟨s,t⟩:=qO8 fds n d';exact⟨a::A',.ins (k.fr a _ e (c a zAb)) (q.trans s.symm) (by rw[t];exact m),λ b=>by rw[zAl,zAl,q2];lia⟩
 | _=>simp[D.kids] at h
def D.getP:D->List Nat->Option D
 | d,[]=>some d
 | d,n::p=>match d.kids[n]? with
   | some e=>e.getP p
   | none=>none
def D.setP:D->List Nat->D->D
 | _,[],x=>x
 | d,n::p,x=>match d.kids[n]? with
   | some e=>d.setK n (e.setP p x)
   | none=>d
def Walk(H:Hp):V->List Nat->V->Prop
 | u,[],w=>u=w
 | u,n::p,w=>∃ v,Lnk H u n v/\Walk H v p w
theorem Rep.path:∀{p:List Nat}{a:V}{d0 d:D}{A:List Addr},Rep F H a d0 A->d0.getP p=some d->∃(w:V)(B C:List Addr),Walk H a p w/\Rep F H w d B/\(∀ b,A.count b=B.count b+C.count b) /\
   ∀{F':Addr->Prop}{H':Hp}{W:Addr->Prop}(d':D)(B':List Addr),Kp F H W F' H'->(∀ b∈C,¬ W b)->Rep F' H' w d' B'->∃ A':List Addr,Rep F' H' a (d0.setP p d') A'/\∀ b,A'.count b=B'.count b+C.count b:=by
 intro p
 induction p with
 | nil =>
   intro a d0 d A r h;cases h;exact⟨a,A,[],rfl,r,λ b=>by simp,λ{F' H' W} d' B' k f g=>⟨B',g,λ b=>by simp⟩⟩
 | cons n p j =>
   intro a d0 d A r h;unfold D.getP at h;cases c:d0.kids[n]? with
   | none=>rw[c] at h;cases h
   | some e =>
     rw[c] at h;obtain⟨l,B1,C1,m,o,q,s⟩:=r.kid c;obtain⟨w,B,C,t,u,v,x⟩:=j o h;refine⟨w,B,C++C1,⟨l,m,t⟩,u,λ b=>by rw[q,v,zA0];lia,λ{F' H' W} d' B' k f g=>?_⟩;obtain⟨A1,y,q2⟩:=x d' B' k (λ b i=>f b (zAa.mpr (.inl i))) g;obtain⟨A2,z,E⟩:=s (e.setP p d') A1 k (λ b i=>f b (zAa.mpr (.inr i))) y;refine⟨A2,?_,λ b=>by rw[E,q2,zA0];lia⟩;unfold D.setP;rw[c];exact z
def A4(ds:Ds)(i:Nat)(p:List Nat):Option D:=match ds[i]? with
 | some d=>d.getP p
 | none=>none
def Bc(ds:Ds)(i:Nat)(p:List Nat)(x:D):Ds:=match ds[i]? with
 | some d=>ds.set i (d.setP p x)
 | none=>ds
theorem qai2{p:List Nat}{d:D}(h:D.getP .unk p=some d):p=[]/\d=.unk:=by
 cases p with
 | nil=>cases h;exact⟨rfl,rfl⟩
 | cons n p=>simp[D.getP,D.kids] at h
theorem Locs.place{σ:List (Option V)}{ds:Ds}{A:List Addr}{p:List Nat}{d:D}(L:Locs F H σ ds A)(h:A4 ds i p=some d)(g:d≠.unk):∃(u w:V)(B C:List Addr),σ[i]? = some (some u)/\Walk H u p w/\Rep F H w d B/\(∀ b,A.count b=B.count b+C.count b) /\
   ∀{F':Addr->Prop}{H':Hp}{W:Addr->Prop}(d':D)(B':List Addr),Kp F H W F' H'->(∀ b∈C,¬ W b)->Rep F' H' w d' B'->∃ A':List Addr,Locs F' H' σ (Bc ds i p d') A'/\∀ b,A'.count b=B'.count b+C.count b:=by
 unfold A4 at h;cases c:ds[i]? with
 | none=>rw[c] at h;cases h
 | some J =>
   rw[c] at h;obtain⟨σ1,o,σ2,j,l,A1,B0,A2,f,e2,m,n,q,s,t,v⟩:=L.split c;cases t with
   | no=>exact absurd (qai2 h).2 g
   | @so u _ _ r =>
     obtain⟨w,B,C,x,y,z,E⟩:=r.path h;refine⟨u,w,B,A1++(C++A2),by rw[f];exact qE6 m,x,y,λ b=>by rw[q];simp only[zA0,z];lia,λ{F' H' W} d' B' k e G=>?_⟩;obtain⟨A',I,q2⟩:=E d' B' k (λ b a=>e b (zAa.mpr (.inr (zAa.mpr (.inl a))))) G;refine⟨A1++(A'++A2),?_,λ b=>by simp only[zA0,q2];lia⟩;unfold Bc;rw[c,f];dsimp only;rw[e2,qr3 n];exact(s.keep k λ b a=>e b (zAa.mpr (.inl a))).append (.so I (v.keep k λ b a=>e b (zAa.mpr (.inr (zAa.mpr (.inr a))))))
theorem Lnk.fn{u:V}(h:Lnk H u n v)(h':Lnk H u n w):v=w:=by
 obtain⟨a,rfl,h⟩:=h;obtain⟨b,e,h'⟩:=h';cases e;rcases h with⟨vs,e,h⟩ | ⟨vs,e,h⟩ | ⟨vs,e,h⟩ | ⟨C,dx,vs,e,h⟩<;>rcases h' with⟨vs',e',h'⟩ | ⟨vs',e',h'⟩ | ⟨vs',e',h'⟩ | ⟨C',dx',vs',e',h'⟩<;>rw[e] at e'<;>cases e'<;>rw[h] at h'<;>exact Option.some.inj h'
theorem Walk.fn:∀{p:List Nat}{u v w:V},Walk H u p v->Walk H u p w->v=w
 | [],_,_,_,h,h'=>h.symm.trans h'
 | n::p,_,_,_,⟨x,h1,h2⟩,⟨y,h3,h4⟩=>by
   cases h1.fn h3;exact Walk.fn h2 h4
theorem Lnk.same{u:V}(h:Lnk H u n v)(s:Same H H'):Lnk H' u n v:=by
 obtain⟨a,rfl,h⟩:=h;refine⟨a,rfl,?_⟩;rcases h with⟨vs,e,h⟩ | ⟨vs,e,h⟩ | ⟨vs,e,h⟩ | ⟨C,dx,vs,e,h⟩
 . exact .inl ⟨vs,s _ _ e,h⟩
 . exact .inr (.inl ⟨vs,s _ _ e,h⟩)
 . exact .inr (.inr (.inl ⟨vs,s _ _ e,h⟩))
 exact .inr (.inr (.inr ⟨C,dx,vs,s _ _ e,h⟩))
theorem Walk.same:∀{p:List Nat}{u v:V},Walk H u p v->Same H H'->Walk H' u p v
 | [],_,_,h,_=>h
 | n::p,_,_,⟨x,h1,h2⟩,s=>⟨x,h1.same s,h2.same s⟩
end
section
variable{c:Vc}{X:Cx}{b:Expr}{nw:Bool}{r:R2}{g:D->D->Option D}{tb:VT}
def t2n(g:D->D->Option D)(i:Nat)(tb:VT):VT:=λ ds Q xe=>(rdN i ds).isSome=true/\tb ds (λ y ds1=>orF ((rdN i ds1).bind λ x=>g x y) λ d=>Q d ds1) xe
theorem qaw1(h:VE c X b tb):∀ ds (Q Q':DK) (xe e:XKd),(∀ d a,Q d a->Q' d a)->(∀ x a,xe x a->e x a)->t2n g i tb ds Q xe->t2n g i tb ds Q' e :=
 λ ds Q Q' xe e j k=>And.imp_right (h.m _ _ _ _ _ (λ d f=>qa4 λ z=>j z f) k)
theorem Sta.name{F:Addr->Prop}{H:Hp}{σ:St}{ds:Ds}{A:List Addr}{d:D}(S:Sta c F H σ ds A)(hi:i < σ.length)(h:rdN i ds=some d):∃ v B,σ[i]? = some (some v)/\Rep F H v d B/\∀ b,B.count b<=A.count b :=
 let ⟨e,k⟩:=qo0.mp h
 S.at hi e k
theorem op_ne{σ:St}{H:Hp}(o:VE c X b tb)(h:A9 true r g)(hi:i < σ.length)(q:Bh c (t2n g i tb) σ H Q):tOp r (E8 i) (Bh c tb) σ H Q:=by
 obtain⟨F,p,A,s,S,x,t,q⟩:=q;obtain⟨L,e⟩:=zAz.mp t;obtain⟨v,B0,n,_,_⟩:=S.name hi e;refine⟨v,n,F,p,A,s,S,x,o.m _ _ _ _ _ (λ C D q w H1 F1 T A1 E S1 M G=>?_) (λ _ _ z=>z) q⟩;have f:Stp F H A F1 H1 A1:=G.count λ b=>by rw[zA0];lia
 obtain⟨d,j,q⟩:=qa6.mp q;obtain⟨y,I,j⟩:=zA1.mp j;obtain⟨N,B,a,J,_⟩:=S1.name hi I;rw[n] at a;cases a;refine h F1 H1 v w y C _ d Q (Fo J E) j λ u H3 B3 K k l=>?_
 rw[if_pos rfl] at l;exact q u H3 F1 B3 A1 K (S1.same k) (S1.new l k) (f.trans (l.stp k))
def t2nP(g:D->D->Option D)(i:Nat)(tb:VT):VT:=λ ds Q xe=>(rdN i ds).isSome=true/\tb ds (λ y ds1=>orF ((rdN i ds1).bind λ x=>g x y) λ d=>d.imm=true/\Q d ds1) xe
theorem qal4(h:VE c X b tb):∀ ds (Q Q':DK) (xe e:XKd),(∀ d a,Q d a->Q' d a)->(∀ x a,xe x a->e x a)->t2nP g i tb ds Q xe->t2nP g i tb ds Q' e :=
 λ ds Q Q' xe e j k=>And.imp_right (h.m _ _ _ _ _ (λ d f=>qa4 λ z=>And.imp_right (j z f)) k)
theorem qaR1{σ:St}{H:Hp}(o:VE c X b tb)(h:A9 nw r g)(hi:i < σ.length)(q:Bh c (t2nP g i tb) σ H Q):tOp r (E8 i) (Bh c tb) σ H Q:=by
 obtain⟨F,p,A,s,S,x,t,q⟩:=q;obtain⟨L,e⟩:=zAz.mp t;obtain⟨v,B0,l,_,_⟩:=S.name hi e;refine⟨v,l,F,p,A,s,S,x,o.m _ _ _ _ _ (λ C D q w H1 F1 T A1 E S1 M G=>?_) (λ _ _ z=>z) q⟩;have f:Stp F H A F1 H1 A1:=G.count λ b=>by rw[zA0];lia
 obtain⟨d,j,I,q⟩:=qa6.mp q;obtain⟨y,J,j⟩:=zA1.mp j;obtain⟨N,B,a,K,_⟩:=S1.name hi J;rw[l] at a;cases a;refine h F1 H1 v w y C _ d Q (Fo K E) j λ u H3 B3 n k O=>?_
 have:=n.imm I
 subst this;exact q u H3 F1 [] A1 n (S1.same k) (S1.ok.same k) (f.trans (.same k))
end
section
variable{F:Addr->Prop}{H:Hp}{K:PySem.W.Frag}
theorem Rep.lst_inv{ds:List D}{B:List Addr}(r:Rep F H v (.lst z ds) B):∃ a vs A,v=.ref a/\H a=some (.lst vs)/\Reps F H vs ds A/\∀ b,A.count b<=B.count b:=by
 cases r with
 | lst h r=>exact⟨_,_,_,rfl,h,r,λ b=>by rw[zAl];lia⟩
 | lstZ h f r=>exact⟨_,_,_,rfl,h,r,λ b=>zA3 _⟩
theorem Rep.tup_inv{ds:List D}{B:List Addr}(r:Rep F H v (.tup ds) B):∃ a vs,v=.ref a/\H a=some (.tup vs)/\Reps F H vs ds B:=by
 cases r with
 | tup h r=>exact⟨_,_,rfl,h,r⟩
theorem Rep.dct_inv{c:List (Key×D)}{B:List Addr}(r:Rep F H v (.dct z c) B):∃ a kvs A,v=.ref a/\H a=some (.dK kvs)/\kvs.map (·.1)=c.map (·.1)/\Reps F H (kvs.map (·.2)) (c.map (·.2)) A/\∀ b,A.count b<=B.count b:=by
 cases r with
 | dct h e r=>exact⟨_,_,_,rfl,h,e,r,λ b=>by rw[zAl];lia⟩
 | dctZ h f e r=>exact⟨_,_,_,rfl,h,e,r,λ b=>zA3 _⟩
theorem Rep.ins_inv{C:Addr}{c:List (Str×D)}{B:List Addr}(r:Rep F H v (.ins z C c) B):∃ a dx d A,v=.ref a/\H a=some (.ins C dx d)/\d.map (·.1)=c.map (·.1)/\Reps F H (d.map (·.2)) (c.map (·.2)) A/\∀ b,A.count b<=B.count b:=by
 cases r with
 | ins h e r=>exact⟨_,_,_,_,rfl,h,e,r,λ b=>by rw[zAl];lia⟩
 | insZ h f e r=>exact⟨_,_,_,_,rfl,h,e,r,λ b=>zA3 _⟩
noncomputable def D.elems:D->Option Ds
 | .lst _ ds=>some ds
 | .tup ds=>some ds
 | _=>none
theorem Rep.elems{d:D}{ds:Ds}{B:List Addr}(r:Rep F H v d B)(h:d.elems=some ds):∃ a vs A,v=.ref a/\(SqL K H a vs∨SqT K H a vs)/\Reps F H vs ds A/\∀ b,A.count b<=B.count b:=by
 cases d with
 | lst z c=>cases h;obtain⟨a,vs,A,e,h,r,q⟩:=r.lst_inv;exact⟨a,vs,A,e,.inl (.inl (.inl h)),r,q⟩
 | tup c=>cases h;obtain⟨a,vs,e,h,r⟩:=r.tup_inv;exact⟨a,vs,_,e,.inr (.inl (.inl h)),r,λ _=>zA3 _⟩
 | _=>cases h
theorem Reps.len{ds:List D}{A:List Addr}(r:Reps F H vs ds A):vs.length=ds.length:=by
 induction vs generalizing ds A with
 | nil=>cases r;rfl
 | cons v vs a=>cases r with | cons h t=>simp[a t]
theorem qg4{p:Addr}(a:H p=none):New H [p]:=⟨λ b=>by rw[zAl];simp;split<;>lia,λ b o e=>by
 have:b≠p:=λ z=>by rw[z,a] at e;cases e
 simp[zAl,Ne.symm this]⟩
theorem qA5{p:Addr}{ds:Ds}(a:H p=none)(r:Reps F H vs ds []):Rep F (upd H p (.lst vs)) (.ref p) (.lst false ds) [p]:=.lst qb9 (r.same (Same.new a))
theorem qaf2{p:Addr}{ds:Ds}{A:List Addr}(a:H p=none)(r:Reps F H vs ds A):Rep F (upd H p (.tup vs)) (.ref p) (.tup ds) A:=.tup qb9 (r.same (Same.new a))
theorem Reps.get{ds:List D}{A:List Addr}{d:D}(r:Reps F H vs ds A)(h:ds[n]? = some d):∃ w B,vs[n]? = some w/\Rep F H w d B/\∀ b,B.count b<=A.count b:=by
 obtain⟨w,B,C,a,c,e,_⟩:=r.kid h;exact⟨w,B,a,c,λ b=>by have:=e b;lia⟩
theorem Reps.atI{ds:List D}{A:List Addr}{i:Int}{d:D}(r:Reps F H vs ds A)(h:L2.atI ds i=some d):∃ w B,L2.atI vs i=some w/\Rep F H w d B/\∀ b,B.count b<=A.count b:=by
 unfold L2.atI at h ⊢;rw[r.len];cases e:ixN ds.length i with
 | none=>rw[e] at h;cases h
 | some j =>
   rw[e] at h;exact r.get h
theorem Reps.sub{ds:List D}{A:List Addr}(r:Reps F H vs ds A)(n m:Nat):∃ B,Reps F H ((vs.drop n).take m) ((ds.drop n).take m) B/\∀ b,B.count b<=A.count b:=by
 induction n generalizing vs ds A with
 | zero =>
   induction m generalizing vs ds A with
   | zero=>exact⟨[],.nil,λ b=>by simp⟩
   | succ m a =>
     cases r with
     | nil=>exact⟨[],.nil,λ b=>by simp⟩
     | cons h t =>
       obtain⟨B,c,q2⟩:=a t;exact⟨_,.cons h (by simpa using c),λ b=>by simp only[zA0];have:=q2 b;lia⟩
 | succ n a =>
   cases r with
   | nil=>exact⟨[],by simpa using Reps.nil,λ b=>by simp⟩
   | cons h t =>
     obtain⟨B,c,q2⟩:=a t;exact⟨B,by simpa using c,λ b=>by simp only[zA0];have:=q2 b;lia⟩
noncomputable def D.flat:D->Option V
 | .non=>some .non
 | .bl b=>some (.bl b)
 | .int i=>some (.int i)
 | .str x=>some (.str x)
 | _=>none
theorem Rep.flat{d:D}{B:List Addr}(r:Rep F H v d B)(h:d.flat=some w):v=w/\flatV v=true:=by
 cases r<;>cases h<;>exact⟨rfl,rfl⟩
end
noncomputable def big:Nat:=1000000
theorem qi5:big<=sizeLine:=by decide
section
variable{F:Addr->Prop}{H:Hp}
theorem Reps.imms0{ds:Ds}{A:List Addr}(r:Reps F H vs ds A)(h:D.imms ds=true):Reps F H vs ds []:=by
 have:=r.imms h
 subst this;exact r
theorem Reps.rep{ds:Ds}(r:Reps F H vs ds []):∀ k:Nat,Reps F H (List.replicate k vs).flatten (List.replicate k ds).flatten []
 | 0=>.nil
 | k+1=>by
   rw[zBn,zBn,zBy,zBy];exact r.append (B:=[]) (r.rep k)
end
noncomputable def gd(p:Prop)[Decidable p](d:D):Option D:=if p then some d else none
theorem qs5{p:Prop}[Decidable p]{d e:D}(h:gd p d=some e):p/\d=e:=by
 unfold gd at h;split at h
 . rename_i hp;exact⟨hp,Option.some.inj h⟩
 cases h
theorem qk7{p:Prop}[Decidable p]{d:D}(h:p):gd p d=some d:=if_pos h
def Hh:D->D->Option D
 | .int i,.int j=>some (.int (i+j))
 | .str a,.str b=>gd (a.length+b.length<=big) (.str (a++b))
 | .lst _ xs,.lst _ ys=>gd (D.imms xs=true/\D.imms ys=true/\xs.length+ys.length<=big) (.lst false (xs++ys))
 | _,_=>none
def rAddA:R2:=λ x y H Q=>rI0 (λ i j=>.int (i+j)) x y H Q∨(∃ i j,x=.str i/\y=.str j/\i.length+j.length<=sizeLine/\Q (.str (i++j)) H)∨rCat x y H Q
theorem qk3{X:Cx}:OpR X (binaryOp .Add) rAddA:=qaR7.or (qae8.or qaR6)
theorem qk2:A9 true rAddA Hh:=by
 intro F H v w x y B d Q r h q;cases r with | @cons _ _ A _ _ _ e t=>cases t with | @cons _ _ A2 _ _ _ f _ =>
 cases x with
 | int i =>
   cases y with
   | int j=>cases h;cases e;cases f;exact .inl ⟨i,j,rfl,rfl,q _ H [] (.int _) (λ _ _ z=>z) New.nil⟩
   | _=>cases h
 | str a =>
   cases y with
   | str b =>
     obtain⟨c,rfl⟩:=qs5 h;cases e;cases f;exact .inr (.inl ⟨a,b,rfl,rfl,zAr c qi5,q _ H [] (.str _) (λ _ _ z=>z) New.nil⟩)
   | _=>cases h
 | lst z s =>
   cases y with
   | lst u C =>
     obtain⟨c,rfl⟩:=qs5 h;obtain⟨a,l,_,rfl,m,k,_⟩:=e.lst_inv;obtain⟨b,n,_,rfl,o,q2,_⟩:=f.lst_inv;refine .inr (.inr ⟨a,b,l,n,rfl,rfl,m,o,by rw[k.len,q2.len];exact zAr c.2.2 qi5,λ p g=>?_⟩);exact q _ _ [p] (qA5 g ((k.imms0 c.1).append (q2.imms0 c.2.1))) (Same.new g) (qg4 g)
   | _=>cases h
 | _=>cases h
noncomputable def small(i:Int):Bool:=decide (-(2 ^ 64) < i)&&decide (i < 2 ^ 64)
theorem qS8{i:Int}(h:small i=true):-(2 ^ 64) < i/\i < 2 ^ 64:=by
 have:=zAc.mp h
 exact⟨zA8 this.1,zA8 this.2⟩
def Gk:D->D->Option D
 | .int i,.int j=>gd ((small i||small j)=true) (.int (i * j))
 | .lst _ xs,.int k=>gd (D.imms xs=true/\xs.length * k.toNat<=big/\k < 1000000/\-1000000 < k) (.lst false (List.replicate k.toNat xs).flatten)
 | _,_=>none
def rMulA:R2:=λ x y H Q=>rI CMul (λ i j=>.int (i * j)) x y H Q∨rRep x y H Q
theorem qp7{X:Cx}:OpR X (binaryOp .Mult) rMulA:=qaR2.or qaQ9
theorem qp5:A9 true rMulA Gk:=by
 intro F H v w x y B d Q r h q;cases r with | @cons _ _ A _ _ _ e t=>cases t with | @cons _ _ A2 _ _ _ f _ =>
 cases x with
 | int i =>
   cases y with
   | int j =>
     obtain⟨b,rfl⟩:=qs5 h;cases e;cases f;refine .inl ⟨i,j,rfl,rfl,?_,q _ H [] (.int _) (λ _ _ z=>z) New.nil⟩;rcases Bool.or_eq_true_iff.mp b with h | h
     . exact .inl (qS8 h)
     exact .inr (qS8 h)
   | _=>cases h
 | lst z n =>
   cases y with
   | int k =>
     obtain⟨b,rfl⟩:=qs5 h;obtain⟨a,l,_,rfl,m,g,_⟩:=e.lst_inv;cases f;refine .inr ⟨a,k,l,rfl,rfl,m,by lia,by lia,by rw[g.len];exact zAr b.2.1 qi5,λ p c=>?_⟩;exact q _ _ [p] (qA5 c ((g.imms0 b.1).rep _)) (Same.new c) (qg4 c)
   | _=>cases h
 | _=>cases h
def gI(p:Int->Int->Bool)(f:Int->Int->D):D->D->Option D
 | .int i,.int j=>gd (p i j=true) (f i j)
 | _,_=>none
theorem os_I{C:Int->Int->Prop}{p:Int->Int->Bool}{f:Int->Int->D}{fv:Int->Int->V}(a:∀ i j,p i j=true->C i j)(b:∀ F H i j,Rep F H (fv i j) (f i j) []):A9 true (rI C fv) (gI p f):=by
 intro F H v w x y B d Q r h q;cases r with | @cons _ _ A _ _ _ c t=>cases t with | @cons _ _ A2 _ _ _ e _ =>
 cases x with
 | int i =>
   cases y with
   | int j =>
     obtain⟨g,rfl⟩:=qs5 h;cases c;cases e;exact⟨i,j,rfl,rfl,a i j g,q _ H [] (b F H i j) (λ _ _ z=>z) New.nil⟩
   | _=>cases h
 | _=>cases h
theorem Fx{f:Int->Int->D}{fv:Int->Int->V}(a:∀ F H i j,Rep F H (fv i j) (f i j) []):A9 true (rI0 fv) (gI (λ _ _=>true) f):=by
 intro F H v w x y B d Q r h q;obtain⟨i,j,b,c,_,e⟩:=os_I (C:=λ _ _=>True) (fv:=fv) (λ _ _ _=>trivial) a F H v w x y B d Q r h q;exact⟨i,j,b,c,e⟩
def gSub:=gI (λ _ _=>true) λ i j=>.int (i - j)
def gDiv:=gI (λ _ j=>decide (0 < j)&&decide (j < 2 ^ 200)) λ i j=>.int (i / j)
def Hi:=gI (λ _ j=>decide (0 < j)) λ i j=>.int (i % j)
def gLt:=gI (λ _ _=>true) λ i j=>.bl (decide (i < j))
def gLe:=gI (λ _ _=>true) λ i j=>.bl (decide (i<=j))
def gGt:=gI (λ _ _=>true) λ i j=>.bl (decide (j < i))
def gGe:=gI (λ _ _=>true) λ i j=>.bl (decide (j<=i))
theorem qC8:A9 true (rI0 λ i j=>.int (i - j)) gSub:=Fx λ _ _ _ _=>.int _
theorem qay6:A9 true (rI CDivB λ i j=>.int (i / j)) gDiv:=os_I (λ i j h=>by
 have:=zAc.mp h
 exact⟨zA8 this.1,zA8 this.2⟩) λ _ _ _ _=>.int _
theorem qp6:A9 true (rI (λ _ j=>0 < j) λ i j=>.int (i % j)) Hi:=os_I (λ i j h=>zA8 h) λ _ _ _ _=>.int _
theorem Fy:A9 true (rI0 λ i j=>.bl (decide (i < j))) gLt:=Fx λ _ _ _ _=>.bl _
theorem os_le:A9 true (rI0 λ i j=>.bl (decide (i<=j))) gLe:=Fx λ _ _ _ _=>.bl _
theorem Bo:A9 true (rI0 λ i j=>.bl (decide (j < i))) gGt:=Fx λ _ _ _ _=>.bl _
theorem Ia:A9 true (rI0 λ i j=>.bl (decide (j<=i))) gGe:=Fx λ _ _ _ _=>.bl _
noncomputable def D.isN:D->Option Bool
 | .non=>some true
 | .unk=>none
 | .hole _=>none
 | _=>some false
theorem Rep.isN{F:Addr->Prop}{H:Hp}{d:D}{B:List Addr}{b:Bool}(r:Rep F H v d B)(h:d.isN=some b):decide (v=.non)=b:=by
 cases r<;>cases h<;>rfl
def gIs:D->D->Option D
 | x,.non=>x.isN.map .bl
 | .bl a,.bl b=>some (.bl (a == b))
 | _,_=>none
def rIs:R2:=λ x y H Q=>(y=.non/\Q (.bl (decide (x=.non))) H)∨(∃ b c,x=.bl b/\y=.bl c/\Q (.bl (b == c)) H)
theorem Ee:A9 true rIs gIs:=by
 intro F H v w x y B d Q r h q;cases r with | @cons _ _ A _ _ _ c t=>cases t with | @cons _ _ A2 _ _ _ f _ =>
 cases y with
 | non =>
   cases f;have h:x.isN.map D.bl=some d:=by cases x<;>exact h
   cases e:x.isN with
   | none=>rw[e] at h;cases h
   | some b =>
     rw[e] at h;cases h;refine .inl ⟨rfl,?_⟩;rw[c.isN e];exact q _ H [] (.bl _) (λ _ _ z=>z) New.nil
 | bl b =>
   cases x with
   | bl a=>cases h;cases c;cases f;exact .inr ⟨a,b,rfl,rfl,q _ H [] (.bl _) (λ _ _ z=>z) New.nil⟩
   | _=>cases h
 | _=>cases x<;>cases h
theorem Ef{X:Cx}:OpR X (compareOp .Is) rIs:=qaR3.or qaR4
theorem qaI7{X:Cx}:OpR X (compareOp .IsNot) (λ x y H Q=>∃ b c,x=.bl b/\y=.bl c/\Q (.bl (b != c)) H):=by
 intro De s σ H x y v u Q I a d ⟨b,c,e,e2,q⟩;subst e;subst e2;cases a;cases d;exact PyProof.Rows.isnot_bool ⟨.bl (b != c),H,I,rfl,q⟩
def gIsn:D->D->Option D
 | x,.non=>x.isN.map λ b=>.bl (!b)
 | .bl a,.bl b=>some (.bl (a != b))
 | _,_=>none
def rIsn:R2:=λ x y H Q=>(y=.non/\Q (.bl (!decide (x=.non))) H)∨(∃ b c,x=.bl b/\y=.bl c/\Q (.bl (b != c)) H)
theorem qw9:A9 true rIsn gIsn:=by
 intro F H v w x y B d Q r h q;cases r with | @cons _ _ A _ _ _ c t=>cases t with | @cons _ _ A2 _ _ _ f _ =>
 cases y with
 | non =>
   cases f;have h:x.isN.map (λ b=>D.bl (!b))=some d:=by cases x<;>exact h
   cases e:x.isN with
   | none=>rw[e] at h;cases h
   | some b =>
     rw[e] at h;cases h;refine .inl ⟨rfl,?_⟩;rw[c.isN e];exact q _ H [] (.bl _) (λ _ _ z=>z) New.nil
 | bl b =>
   cases x with
   | bl a=>cases h;cases c;cases f;exact .inr ⟨a,b,rfl,rfl,q _ H [] (.bl _) (λ _ _ z=>z) New.nil⟩
   | _=>cases h
 | _=>cases x<;>cases h
theorem qr5{X:Cx}:OpR X (compareOp .IsNot) rIsn:=qaI6.or qaI7
noncomputable def Eb(f:D->D->Option Bool):List D->List D->Option Bool
 | [],[]=>some true
 | x::xs,y::ys=>(f x y).bind λ a=>(Eb f xs ys).bind λ b=>some (a&&b)
 | _,_=>some false
def eqF(x y:D):Option Bool:=match x.flat,y.flat with
 | some v,some w=>some (eqV v w)
 | _,_=>none
noncomputable def D.d0:D->Bool
 | .dct _ []=>true
 | _=>false
def eqZ(x y:D):Option Bool:=if (x.d0&&y.d0)=true then some true else eqF x y
def eqN:Nat->D->D->Option Bool
 | n+1,.lst _ xs,.lst _ ys=>Eb (eqN n) xs ys
 | n+1,.tup xs,.tup ys=>Eb (eqN n) xs ys
 | _,x,y=>eqZ x y
theorem qB6{f:D->D->Option Bool}:∀{xs ys:List D}{b:Bool},Eb f xs ys=some b->∃ e:Nat->Bool,(∀ i x y,xs[i]? = some x->ys[i]? = some y->f x y=some (e i))/\b=((List.range (min xs.length ys.length)).all e&&xs.length == ys.length)
 | [],[],b,h=>by cases h;exact⟨λ _=>true,λ i x y h=>by simp at h,by simp⟩
 | [],y::ys,b,h=>by cases h;exact⟨λ _=>true,λ i x y h=>by simp at h,by simp⟩
 | x::xs,[],b,h=>by cases h;exact⟨λ _=>true,λ i x y _ h=>by simp at h,by simp⟩
 | x::xs,y::ys,b,h=>by
   obtain⟨a,k,h⟩:=zA1.mp h;obtain⟨o,l,h⟩:=zA1.mp h;cases h;obtain⟨e,m,q2⟩:=qB6 l;refine⟨λ i=>match i with | 0=>a | i+1=>e i,λ i c d g j=>?_,?_⟩
   . cases i with
     | zero =>
       have n:x=c:=by simpa using g
       have e2:y=d:=by simpa using j
       subst n;subst e2;exact k
     | succ i=>exact m i c d (by simpa using g) (by simpa using j)
   rw[q2,zAp,zAp,Nat.add_min_add_right,List.range_succ_eq_map,List.all_cons,List.all_map];show _=(_&&_&&_)
   have:(xs.length+1 == ys.length+1)=(xs.length == ys.length):=by
     by_cases h:xs.length=ys.length
     . simp[h]
     simp[h]
   rw[this,<- Bool.and_assoc];rfl
section
variable{F:Addr->Prop}{H:Hp}
theorem Rep.eqF{x y:D}{A B:List Addr}{b:Bool}(r1:Rep F H v x A)(c:Rep F H w y B)(h:LV.eqF x y=some b):flatV v=true/\flatV w=true/\eqV v w=b:=by
 unfold LV.eqF at h;cases a:x.flat with
 | none=>rw[a] at h;cases h
 | some d =>
   cases e2:y.flat with
   | none=>rw[a,e2] at h;cases h
   | some e =>
     rw[a,e2] at h;obtain⟨rfl,f1⟩:=r1.flat a;obtain⟨rfl,f2⟩:=c.flat e2;exact⟨f1,f2,Option.some.inj h⟩
theorem Rep.d0{x:D}{A:List Addr}(r:Rep F H v x A)(h:x.d0=true):∃ a,v=.ref a/\H a=some (.dK []):=by
 cases x with
 | dct z b =>
   cases b with
   | nil =>
     cases r with
     | dct e q _=>exact⟨_,rfl,by rw[e,List.map_eq_nil_iff.mp q]⟩
     | dctZ e _ q _=>exact⟨_,rfl,by rw[e,List.map_eq_nil_iff.mp q]⟩
   | cons=>cases h
 | _=>cases h
theorem Rep.eqZ{x y:D}{A B:List Addr}{b:Bool}(r1:Rep F H v x A)(d:Rep F H w y B)(h:LV.eqZ x y=some b):(flatV v=true/\flatV w=true/\eqV v w=b)∨(b=true/\∃ a c,v=.ref a/\w=.ref c/\H a=some (.dK [])/\H c=some (.dK [])):=by
 unfold LV.eqZ at h;split at h
 . rename_i hd
   obtain⟨e,f⟩:=zAc.mp hd;obtain⟨a,g,i⟩:=r1.d0 e;obtain⟨c,e2,q2⟩:=d.d0 f;cases h;exact .inr ⟨rfl,a,c,g,e2,i,q2⟩
 exact .inl (r1.eqF d h)
theorem qV8(n:Nat)(x y:D):(eqN (n+1) x y=LV.eqZ x y)∨(∃ z xs z' ys,x=.lst z xs/\y=.lst z' ys)∨∃ xs ys,x=.tup xs/\y=.tup ys:=by
 cases x with
 | lst z xs=>cases y with
   | lst z' ys=>exact .inr (.inl ⟨_,_,_,_,rfl,rfl⟩)
   | _=>exact .inl rfl
 | tup xs=>cases y with
   | tup ys=>exact .inr (.inr ⟨_,_,rfl,rfl⟩)
   | _=>exact .inl rfl
 | _=>exact .inl rfl
theorem qR5(x y:D):eqN 0 x y=LV.eqZ x y:=by cases x<;>cases y<;>rfl
theorem qV9(f:∀{v:V}{x y:D}{A B:List Addr}{b:Bool},Rep F H v x A->Rep F H v y B->eqN n x y=some b->b=true):∀{vs:List V}{xs ys:List D}{A B:List Addr}{b:Bool},Reps F H vs xs A->Reps F H vs ys B->Eb (eqN n) xs ys=some b->b=true:=by
 intro vs
 induction vs with
 | nil=>intro xs ys A B b c d h;cases c;cases d;cases h;rfl
 | cons v vs e =>
   intro xs ys A B b c d h;cases c with | cons g t1=>cases d with | cons i t2 =>
   obtain⟨a,j,h⟩:=zA1.mp h;obtain⟨l,k,h⟩:=zA1.mp h;cases h;rw[f g i j,e t1 t2 k];rfl
theorem qai8:∀{n:Nat}{v:V}{x y:D}{A B:List Addr}{b:Bool},Rep F H v x A->Rep F H v y B->eqN n x y=some b->b=true:=by
 intro n
 induction n with
 | zero =>
   intro v x y A B b c d h;rw[qR5] at h;rcases c.eqZ d h with⟨f1,f2,rfl⟩ | ⟨rfl,_⟩
   . exact qB5 f1
   rfl
 | succ n k =>
   intro v x y A B b c d h;rcases qV8 n x y with e | ⟨z,l,q,m,rfl,rfl⟩ | ⟨l,m,rfl,rfl⟩
   . rw[e] at h
     rcases c.eqZ d h with⟨f1,f2,rfl⟩ | ⟨rfl,_⟩
     . exact qB5 f1
     rfl
   . obtain⟨a,o,_,rfl,g,i,_⟩:=c.lst_inv
     obtain⟨p,j,_,e,f,q2,_⟩:=d.lst_inv;cases e;rw[g] at f;cases f;exact qV9 k i q2 h
   obtain⟨a,o,rfl,g,i⟩:=c.tup_inv;obtain⟨p,j,e,f,q2⟩:=d.tup_inv;cases e;rw[g] at f;cases f;exact qV9 k i q2 h
theorem Reps.getV{ds:List D}{A:List Addr}(r:Reps F H vs ds A)(h:vs[n]? = some w):∃ d B,ds[n]? = some d/\Rep F H w d B:=by
 have c:=r.len;have e:n < vs.length:=(zA2.mp h).1;obtain⟨f,B,a,b,_⟩:=r.get (n:=n) (d:=ds[n]'(by lia)) (by simp);rw[h] at a;cases a;exact⟨_,B,by simp,b⟩
theorem qV6{x y:D}{A B:List Addr}{b:Bool}(r1:Rep F H v x A)(d:Rep F H w y B)(h:LV.eqZ x y=some b):EqD H n v w b:=by
 rcases r1.eqZ d h with⟨f1,f2,rfl⟩ | ⟨rfl,a,a',rfl,rfl,q1,q2⟩
 . exact .flat f1 f2
 by_cases c:a=a'
 . subst c;exact .same a
 exact .dcts c q1 q2
theorem qV7:∀{n:Nat}{v w:V}{x y:D}{A B:List Addr}{b:Bool},Rep F H v x A->Rep F H w y B->eqN n x y=some b->EqD H n v w b:=by
 intro n
 induction n with
 | zero =>
   intro v w x y A B b c d h;rw[qR5] at h;exact qV6 c d h
 | succ n I =>
   intro v w x y A B b c d h;rcases qV8 n x y with e | ⟨z,J,L,K,rfl,rfl⟩ | ⟨J,K,rfl,rfl⟩
   . rw[e] at h
     exact qV6 c d h
   . obtain⟨a,m,_,rfl,k,g,_⟩:=c.lst_inv
     obtain⟨o,r,_,rfl,l,q2,_⟩:=d.lst_inv;by_cases f:a=o
     . subst f
       cases qai8 (n:=n+1) c d h;exact .same a
     obtain⟨e,s,rfl⟩:=qB6 h;rw[<- g.len,<- q2.len];by_cases j:m.length=r.length
     . rw[j,Nat.min_self,zBk,Bool.and_true,<- j]
       refine .lsts f k l j λ i p q t e2=>?_
       obtain⟨x,_,u,C⟩:=g.getV t;obtain⟨y,_,E,G⟩:=q2.getV e2;exact I C G (s i x y u E)
     have:(m.length == r.length)=false:=by simpa using j
     rw[this,Bool.and_false];exact .lens f k l j
   obtain⟨a,m,rfl,k,g⟩:=c.tup_inv;obtain⟨o,r,rfl,l,q2⟩:=d.tup_inv;by_cases f:a=o
   . subst f
     cases qai8 (n:=n+1) c d h;exact .same a
   obtain⟨e,s,rfl⟩:=qB6 h;rw[<- g.len,<- q2.len];refine .tups f k l λ i p q t e2=>?_
   obtain⟨x,_,u,C⟩:=g.getV t;obtain⟨y,_,E,G⟩:=q2.getV e2;exact I C G (s i x y u E)
end
def eqT:D->D->Option Bool
 | .lst _ xs,.lst _ ys=>Eb (eqN 20) xs ys
 | .tup xs,.tup ys=>Eb (eqN 20) xs ys
 | .lst _ _,.tup _=>some false
 | .tup _,.lst _ _=>some false
 | .lst _ _,y=>y.flat.map λ _=>false
 | .tup _,y=>y.flat.map λ _=>false
 | x,.lst _ _=>x.flat.map λ _=>false
 | .dct _ _,.tup _=>some false
 | x,.tup _=>x.flat.map λ _=>false
 | x,y=>eqZ x y
theorem Rep.flatV{F:Addr->Prop}{H:Hp}{d:D}{B:List Addr}{b:Bool}(r:Rep F H v d B)(h:(d.flat.map λ _=>false)=some b):L2.flatV v=true/\b=false:=by
 cases e:d.flat with
 | none=>rw[e] at h;cases h
 | some w=>rw[e] at h;cases h;exact⟨(r.flat e).2,rfl⟩
theorem Rep.rc{F:Addr->Prop}{H:Hp}{x y:D}{A B:List Addr}{b:Bool}(r1:Rep F H v x A)(d:Rep F H w y B)(h:eqT x y=some b):RcD H v w b:=by
 have flat:LV.eqZ x y=some b->RcD H v w b:=λ h=>by
   rcases r1.eqZ d h with⟨f1,f2,rfl⟩ | ⟨rfl,a,k,rfl,rfl,l,q2⟩
   . exact .flat f1 f2
   exact .dcts l q2
 cases x with
 | lst z G =>
   obtain⟨a,o,_,rfl,g,l,_⟩:=r1.lst_inv;cases y with
   | lst J m =>
     obtain⟨k,j,_,rfl,c,q2,_⟩:=d.lst_inv;obtain⟨e,r,rfl⟩:=qB6 h;rw[<- l.len,<- q2.len];by_cases n:o.length=j.length
     . rw[n,Nat.min_self,zBk,Bool.and_true,<- n]
       refine .lsts g c n λ i p q s e2=>?_
       obtain⟨x,_,t,u⟩:=l.getV s;obtain⟨y,_,C,E⟩:=q2.getV e2;exact qV7 u E (r i x y t C)
     have:(o.length == j.length)=false:=by simpa using n
     rw[this,Bool.and_false];exact .lens g c n
   | tup m=>obtain⟨k,j,rfl,c,q2⟩:=d.tup_inv;cases h;exact .lt g c
   | _=>obtain⟨f,rfl⟩:=d.flatV h;exact .lf g f
 | tup G =>
   obtain⟨a,o,rfl,g,l⟩:=r1.tup_inv;cases y with
   | tup m =>
     obtain⟨k,j,rfl,c,q2⟩:=d.tup_inv;obtain⟨e,r,rfl⟩:=qB6 h;rw[<- l.len,<- q2.len];refine .tups g c λ i p q s e2=>?_
     obtain⟨x,_,t,u⟩:=l.getV s;obtain⟨y,_,C,E⟩:=q2.getV e2;exact qV7 u E (r i x y t C)
   | lst z m=>obtain⟨k,j,_,rfl,c,q2,_⟩:=d.lst_inv;cases h;exact .tl g c
   | _=>obtain⟨f,rfl⟩:=d.flatV h;exact .tf g f
 | dct z I =>
   cases y with
   | lst z m=>cases h
   | tup m =>
     obtain⟨k,j,rfl,c,q2⟩:=d.tup_inv;cases h;cases r1 with
     | dct e _ _=>exact .dt e c
     | dctZ e _ _ _=>exact .dt e c
   | _=>exact flat h
 | _ =>
   cases y with
   | lst z m=>obtain⟨k,j,_,rfl,c,q2,_⟩:=d.lst_inv;obtain⟨f,rfl⟩:=r1.flatV h;exact .fl c f
   | tup m=>obtain⟨k,j,rfl,c,q2⟩:=d.tup_inv;obtain⟨f,rfl⟩:=r1.flatV h;exact .ft c f
   | _=>exact flat h
def gEq(x y:D):Option D:=(eqT x y).map .bl
def gNe(x y:D):Option D:=(eqT x y).map λ b=>.bl (!b)
theorem Dq:A9 true rEqD gEq:=by
 intro F H v w x y B d Q r h q;cases r with | @cons _ _ A _ _ _ a t=>cases t with | @cons _ _ A2 _ _ _ c _ =>
 obtain⟨b,e,rfl⟩:=zAd.mp h;exact⟨b,a.rc c e,q _ H [] (.bl _) (λ _ _ z=>z) New.nil⟩
theorem F4:A9 true rNeD gNe:=by
 intro F H v w x y B d Q r h q;cases r with | @cons _ _ A _ _ _ a t=>cases t with | @cons _ _ A2 _ _ _ c _ =>
 obtain⟨b,e,rfl⟩:=zAd.mp h;exact⟨b,a.rc c e,q _ H [] (.bl _) (λ _ _ z=>z) New.nil⟩
def flats:List D->Option (List V)
 | []=>some []
 | d::r=>d.flat.bind λ v=>(flats r).bind λ vs=>some (v::vs)
theorem Reps.flats{F:Addr->Prop}{H:Hp}:∀{vs a:List V}{ds:List D}{A:List Addr},Reps F H vs ds A->LV.flats ds=some a->vs=a/\vs.all L2.flatV=true
 | _,_,_,_,.nil,h=>by cases h;exact⟨rfl,rfl⟩
 | _,_,_,_,.cons r t,h=>by
   obtain⟨v,b,h⟩:=zA1.mp h;obtain⟨vs,c,h⟩:=zA1.mp h;cases h;obtain⟨rfl,f⟩:=r.flat b;obtain⟨rfl,g⟩:=t.flats c;exact⟨rfl,by rw[List.all_cons,f,g];rfl⟩
def Ib(neg:Bool)(x y:D):Option D:=x.flat.bind λ v=>y.elems.bind λ ys=>(flats ys).bind λ a=>some (.bl (if neg then !inV v a else inV v a))
theorem Fe{K:PySem.W.Frag}{neg:Bool}:A9 true (rIn K neg) (Ib neg):=by
 intro F H v w x y B d Q r h q;cases r with | @cons _ _ A _ _ _ b t=>cases t with | @cons _ _ A2 _ _ _ c _ =>
 obtain⟨n,e,h⟩:=zA1.mp h;obtain⟨o,i,h⟩:=zA1.mp h;obtain⟨p,j,h⟩:=zA1.mp h;cases h;obtain⟨rfl,f⟩:=b.flat e;obtain⟨a,k,A3,rfl,l,m,_⟩:=c.elems (K:=K) i;obtain⟨rfl,g⟩:=m.flats j;exact⟨a,k,rfl,l,f,g,q _ H [] (.bl _) (λ _ _ z=>z) New.nil⟩
def gIx(x y:D):Option D:=match y with
 | .int i=>x.elems.bind λ ys=>atI ys i
 | _=>none
theorem At{K:PySem.W.Frag}:A9 false (rIx K) gIx:=by
 intro F H v w x y B d Q r h q;cases r with | @cons _ _ A _ _ _ l t=>cases t with | @cons _ _ A2 _ _ _ m _ =>
 cases y with
 | int i =>
   obtain⟨u,n,h⟩:=zA1.mp h;cases m;obtain⟨a,j,A3,rfl,c,o,p⟩:=l.elems (K:=K) n;obtain⟨f,B',k,g,s⟩:=o.atI h;have e:=q f H B' g (λ _ _ z=>z) (by
     rw[if_neg (by decide)];exact λ b=>.inl (by rw[zA0];have:=s b;have:=p b;lia))
   rcases c with c | c
   . exact .inl ⟨a,j,i,f,rfl,rfl,c,k,e⟩
   exact .inr (.inl ⟨a,j,i,f,rfl,rfl,c,k,e⟩)
 | _=>cases h
section
variable{F:Addr->Prop}{H:Hp}
theorem Reps.one_inv{x:D}{B:List Addr}(r:Reps F H vs [x] B):∃ v,vs=[v]/\Rep F H v x B:=by
 cases r with | cons h t=>cases t;exact⟨_,rfl,by rw[zAg];exact h⟩
theorem Reps.two_inv{x y:D}{B:List Addr}(r:Reps F H vs [x,y] B):∃ v w A C,vs=[v,w]/\Rep F H v x A/\Rep F H w y C/\∀ b,B.count b=A.count b+C.count b:=by
 cases r with | cons h t=>cases t with | cons a t=>cases t;exact⟨_,_,_,_,rfl,h,a,λ b=>by simp[zA0]⟩
end
noncomputable def fx1(g:D->Option D):Ds->Option D
 | [x]=>g x
 | _=>none
noncomputable def fx2(g:D->D->Option D):Ds->Option D
 | [x,y]=>g x y
 | _=>none
def CS1(nw:Bool)(r:List V->Hp->VK->Prop)(g:D->Option D):Prop:=∀ F H v x B d (Q:VK),Rep F H v x B->g x=some d ->
 (∀ v H' B',Rep F H' v d B'->Same H H'->(if nw=true then New H B' else Sub H B B')->Q v H')->r [v] H Q
theorem CS1.ops{nw:Bool}{r:List V->Hp->VK->Prop}{g:D->Option D}(h:CS1 nw r g):OpS nw r (fx1 g):=by
 intro F H c a B d Q r e q
 match a,e with
 | [x],e =>
   obtain⟨v,rfl,b⟩:=r.one_inv;exact h F H v x B d Q b e q
def F5(x:D):Option D:=match x with
 | .str z=>gd (z.length<=big) (.int z.length)
 | .dct _ kvs=>some (.int kvs.length)
 | x=>x.elems.map λ ys=>.int ys.length
def Ic(K:PySem.W.Frag):List V->Hp->VK->Prop:=λ xs H Q=>(∃ p ys,xs=[.ref p]/\(SqL K H p ys∨SqT K H p ys)/\Q (.int ys.length) H)∨(∃ z,xs=[.str z]/\z.length<=sizeLine/\Q (.int z.length) H)∨(∃ a kvs,xs=[V.ref a]/\H a=some (.dK kvs)/\Q (.int kvs.length) H)
theorem qt1{X:Cx}:CallR X (.builtin "len") (Ic X.K):=qS3.or (qS2.or qaq6)
theorem qt0{K:PySem.W.Frag}:CS1 true (Ic K) F5:=by
 intro F H v x B d Q r h q;have seq:∀ b,x.elems=some b->d=.int b.length->Ic K [v] H Q:=λ b e j=>by
   subst j;obtain⟨a,k,A,rfl,f,i,_⟩:=r.elems (K:=K) e;refine .inl ⟨a,k,rfl,f,?_⟩;rw[i.len];exact q _ H [] (.int _) (λ _ _ z=>z) New.nil
 cases x with
 | str z=>obtain⟨l,rfl⟩:=qs5 h;cases r;exact .inr (.inl ⟨z,rfl,zAr l qi5,q _ H [] (.int _) (λ _ _ z=>z) New.nil⟩)
 | dct z g =>
   cases h;obtain⟨a,c,A,rfl,f,e,i,_⟩:=r.dct_inv;refine .inr (.inr ⟨a,c,rfl,f,?_⟩)
   have:c.length=g.length:=by have:=congrArg List.length e;simpa using this
   rw[this];exact q _ H [] (.int _) (λ _ _ z=>z) New.nil
 | lst z b=>cases h;exact seq b rfl rfl
 | tup b=>cases h;exact seq b rfl rfl
 | _=>cases h
noncomputable def gInt:D->Option D
 | .int i=>some (.int i)
 | .bl b=>some (.int (if b then 1 else 0))
 | _=>none
theorem qaV2:CS1 true (λ xs H Q=>(∃ i,xs=[.int i]/\Q (.int i) H)∨∃ k,xs=[.bl k]/\Q (.int (if k then 1 else 0)) H) gInt:=by
 intro F H v x B d Q r h q;cases x with
 | int i=>cases h;cases r;exact .inl ⟨i,rfl,q _ H [] (.int _) (λ _ _ z=>z) New.nil⟩
 | bl i=>cases h;cases r;exact .inr ⟨i,rfl,q _ H [] (.int _) (λ _ _ z=>z) New.nil⟩
 | _=>cases h
def G3(x:D):Option D:=x.elems.bind λ ys=>gd (D.imms ys=true) (.lst false ys)
theorem qE9{K:PySem.W.Frag}:CS1 true (λ xs H Q=>∃ p ys,xs=[.ref p]/\(SqL K H p ys∨SqT K H p ys)/\∀ l,H l=none->Q (.ref l) (upd H l (.lst ys))) G3:=by
 intro F H v x B d Q r h q;obtain⟨ys,e,h⟩:=zA1.mp h;obtain⟨c,rfl⟩:=qs5 h;obtain⟨a,f,A,rfl,g,i,_⟩:=r.elems (K:=K) e;exact⟨a,f,rfl,g,λ p b=>q _ _ [p] (qA5 b (i.imms0 c)) (Same.new b) (qg4 b)⟩
noncomputable def pairK:D->Option (Key×D)
 | .tup [.int k,x]=>if x.imm=true then some (.inl k,x) else none
 | .tup [.str k,x]=>if x.imm=true then some (.inr k,x) else none
 | _=>none
def qY9:List D->Option (List (Key×D))
 | []=>some []
 | d::r=>(pairK d).bind λ p=>(qY9 r).bind λ ps=>some (p::ps)
noncomputable def Ew(kvs:List (Key×D))(k:Key)(v:D):List (Key×D) :=
 if (kvs.any λ a=>decide (a.1=k))=true then kvs.map (λ a=>if a.1=k then (a.1,v) else a) else kvs++[(k,v)]
def qv9(kvs more:List (Key×D)):List (Key×D):=more.foldl (λ acc a=>Ew acc a.1 a.2) kvs
abbrev KP(F:Addr->Prop)(H:Hp)(kvs:List (Key×V))(a:List (Key×D)):Prop:=Paired (λ(p:Key×V)(q:Key×D)=>p.1=q.1/\Rep F H p.2 q.2 []) kvs a
section
variable{F:Addr->Prop}{H:Hp}
theorem KP.maps{b:List (Key×D)}(h:KP F H kvs b):kvs.map (·.1)=b.map (·.1)/\Reps F H (kvs.map (·.2)) (b.map (·.2)) []:=by
 induction h with
 | nil=>exact⟨rfl,.nil⟩
 | cons a _ c=>exact⟨by rw[zB0,zB0,a.1,c.1],.cons (A:=[]) (B:=[]) a.2 c.2⟩
theorem KP.any{b:List (Key×D)}(h:KP F H kvs b)(k:Key):(kvs.any λ c=>decide (c.1=k))=b.any λ c=>decide (c.1=k):=by
 induction h with
 | nil=>rfl
 | cons a _ d=>rw[zCc,zCc,a.1,d]
theorem KP.append{kvs':List (Key×V)}{b kds':List (Key×D)}(h:KP F H kvs b)(h':KP F H kvs' kds'):KP F H (kvs++kvs') (b++kds'):=by
 induction h with
 | nil=>exact h'
 | cons a _ c=>exact .cons a c
theorem KP.mapk{c:List (Key×D)}(h:KP F H kvs c){k:Key}{d:D}(r:Rep F H v d []):KP F H (kvs.map λ b=>if b.1=k then (b.1,v) else b) (c.map λ b=>if b.1=k then (b.1,d) else b):=by
 induction h with
 | nil=>exact .nil
 | @cons p q _ _ a _ ih =>
   refine .cons ?_ ih;show (if p.1=k then (p.1,v) else p).1=(if q.1=k then (q.1,d) else q).1/\Rep F H (if p.1=k then (p.1,v) else p).2 (if q.1=k then (q.1,d) else q).2 [];rw[<- a.1];split
   . exact⟨rfl,r⟩
   exact a
theorem KP.put{a:List (Key×D)}(h:KP F H kvs a){k:Key}{d:D}(r:Rep F H v d []):KP F H (putK kvs k v) (Ew a k d):=by
 unfold putK Ew;rw[h.any k];split
 . exact h.mapk r
 exact h.append (.cons ⟨rfl,r⟩ .nil)
theorem KP.merge{more:List (Key×V)}{mored:List (Key×D)}(h:KP F H more mored):∀{kvs:List (Key×V)}{b:List (Key×D)},KP F H kvs b->KP F H (qD2 kvs more) (qv9 b mored):=by
 induction h with
 | nil=>exact λ h=>h
 | @cons p q _ _ a _ ih =>
   intro kvs b h
   have:=ih (h.put (k:=p.1) a.2)
   rw[a.1] at this;show KP F H (qD2 (putK kvs p.1 p.2) _) (qv9 (Ew b q.1 q.2) _);rw[a.1];exact this
theorem qay4{ds:Ds}{A:List Addr}{ps:List (Key×D)}(r:Reps F H vs ds A)(h:qY9 ds=some ps):∃ kvs,qav2 H vs kvs/\KP F H kvs ps:=by
 induction ds generalizing vs A ps with
 | nil=>cases r;cases h;exact⟨[],.nil,.nil⟩
 | cons d ds m =>
   cases r with
   | cons j t =>
     obtain⟨p,c,h⟩:=zA1.mp h;obtain⟨ps,n,h⟩:=zA1.mp h;cases h;obtain⟨kvs,l,q2⟩:=m t n;unfold pairK at c;split at c
     . rename_i k x
       split at c
       . rename_i hm
         cases c;obtain⟨a,o,rfl,g,e⟩:=j.tup_inv;obtain⟨q,i,A1,A2,rfl,f,b,_⟩:=e.two_inv;cases f
         have:=b.imm hm
         subst this;exact⟨(.inl k,i)::kvs,.cons ⟨a,rfl,g⟩ l,.cons ⟨rfl,b⟩ q2⟩
       cases c
     . rename_i k x
       split at c
       . rename_i hm
         cases c;obtain⟨a,o,rfl,g,e⟩:=j.tup_inv;obtain⟨q,i,A1,A2,rfl,f,b,_⟩:=e.two_inv;cases f
         have:=b.imm hm
         subst this;exact⟨(.inr k,i)::kvs,.cons ⟨a,rfl,g⟩ l,.cons ⟨rfl,b⟩ q2⟩
       cases c
     cases c
theorem qaJ2{p:Addr}{a:List (Key×D)}(b:H p=none)(r:KP F H kvs a):Rep F (upd H p (.dK kvs)) (.ref p) (.dct false a) [p]:=.dct qb9 r.maps.1 (r.maps.2.same (Same.new b))
end
def G4(x:D):Option D:=match x with
 | .lst _ ys=>(qY9 ys).map λ ps=>.dct false (qv9 [] ps)
 | _=>none
theorem qau8:CS1 true qaF5 G4:=by
 intro F H v x B d Q r h q;cases x with
 | lst z k =>
   obtain⟨l,e,rfl⟩:=zAd.mp h;obtain⟨a,f,A,rfl,g,i,_⟩:=r.lst_inv;obtain⟨b,j,q2⟩:=qay4 i e;exact⟨a,f,b,rfl,g,j,λ p c=>q _ _ [p] (qaJ2 c (q2.merge .nil)) (Same.new c) (qg4 c)⟩
 | _=>cases h
noncomputable def D.kind:D->Option String
 | .non=>some "NoneType" | .bl _=>some "bool" | .int _=>some "int" | .str _=>some "str" | .lst _ _=>some "list" | .tup _=>some "tuple" | .dct _ _=>some "dict"
 | _=>none
theorem Rep.kind{F:Addr->Prop}{H:Hp}{d:D}{B:List Addr}{t:String}(r:Rep F H v d B)(h:d.kind=some t):B6 H v=some t:=by
 cases r with
 | tup e _=>cases h;exact qaA8 e
 | lst e _=>cases h;exact qag6 e
 | lstZ e _ _=>cases h;exact qag6 e
 | dct e _ _=>cases h;exact qat3 e
 | dctZ e _ _ _=>cases h;exact qat3 e
 | _=>cases h<;>rfl
noncomputable def isTy(n:String):Bool:=n == "bool" || n == "int" || n == "str" || n == "list" || n == "tuple" || n == "dict"
def gIsi(x y:D):Option D:=match y with
 | .ty n=>if isTy n=true then x.kind.map λ t=>.bl (subT t n) else none
 | _=>none
def CS2(nw:Bool)(r:List V->Hp->VK->Prop)(g:D->D->Option D):Prop:=∀ F H v w x y A B d (Q:VK),Rep F H v x A->Rep F H w y B->g x y=some d ->
 (∀ v H' B',Rep F H' v d B'->Same H H'->(if nw=true then New H B' else Sub H (A++B) B')->Q v H')->r [v,w] H Q
theorem CS2.ops{nw:Bool}{r:List V->Hp->VK->Prop}{g:D->D->Option D}(h:CS2 nw r g):OpS nw r (fx2 g):=by
 intro F H l c B d Q r e q
 match c,e with
 | [x,y],e =>
   obtain⟨v,w,A,C,rfl,f,i,j⟩:=r.two_inv;refine h F H v w x y A C d Q f i e λ u H' B' k s a=>q u H' B' k s ?_
   cases nw with
   | true=>exact a
   | false =>
     rw[if_neg (by decide)] at a ⊢;exact λ b=>(a b).imp (λ z=>by rw[zA0] at z;have:=j b;lia) id
theorem qR7:CS2 true rIsi gIsi:=by
 intro F H v w x y A B d Q b c e q;cases y with
 | ty n =>
   cases c;have e:(if isTy n=true then x.kind.map λ t=>D.bl (subT t n) else none)=some d:=e;by_cases a:isTy n=true
   . rw[if_pos a] at e
     obtain⟨t,f,rfl⟩:=zAd.mp e;refine⟨v,n,t,rfl,b.kind f,?_,q _ H [] (.bl _) (λ _ _ z=>z) New.nil⟩;simp only[isTy,Bool.or_eq_true,zC1] at a;simp only[zAo,zC6,or_false];rcases a with ((((h | h) | h) | h) | h) | h
     . exact .inl h
     . exact .inr (.inl h)
     . exact .inr (.inr (.inl h))
     . exact .inr (.inr (.inr (.inl h)))
     . exact .inr (.inr (.inr (.inr (.inl h))))
     exact .inr (.inr (.inr (.inr (.inr h))))
   rw[if_neg a] at e;cases e
 | _=>cases e
def D.isC(C:Addr)(x:D):Option D:=match x with
 | .ins _ C' _=>if C'=C then some (.bl true) else none
 | x=>x.kind.map λ _=>.bl false
def Ie(C:Addr)(x y:D):Option D:=match y with
 | .adr a=>if a=C then x.isC C else none
 | _=>none
theorem qaM8{C:Addr}:CS2 true (rIsO C) (Ie C):=by
 intro F H v w x y A B d Q f g e q;cases y with
 | adr a =>
   cases g;have e:(if a=C then x.isC C else none)=some d:=e;by_cases b:a=C
   . rw[if_pos b] at e
     subst b;have kind:(x.kind.map λ _=>D.bl false)=some d->rIsO a [v,.ref a] H Q:=λ e=>by
       obtain⟨t,i,rfl⟩:=zAd.mp e;exact⟨_,rfl,.inr ⟨t,f.kind i,q _ H [] (.bl _) (λ _ _ z=>z) New.nil⟩⟩
     cases x with
     | ins z C' k =>
       have e2:(if C'=a then some (D.bl true) else none)=some d:=e;by_cases b:C'=a
       . rw[if_pos b] at e2
         cases e2;subst b;obtain⟨p,j,c,_,rfl,h,_,_,_⟩:=f.ins_inv;exact⟨_,rfl,.inl ⟨p,j,c,rfl,h,q _ H [] (.bl _) (λ _ _ z=>z) New.nil⟩⟩
       rw[if_neg b] at e2;cases e2
     | _=>exact kind e
   rw[if_neg b] at e;cases e
 | _=>cases e
noncomputable def G5:D->D->Option D
 | .int i,.int j=>some (.int (if j > i then j else i))
 | _,_=>none
theorem qM1:CS2 true (λ xs H Q=>∃ i j,xs=[.int i,.int j]/\Q (.int (if j > i then j else i)) H) G5:=by
 intro F H v w x y A B d Q a b e q;cases x with
 | int i=>cases y with
   | int j=>cases e;cases a;cases b;exact⟨i,j,rfl,q _ H [] (.int _) (λ _ _ z=>z) New.nil⟩
   | _=>cases e
 | _=>cases e
noncomputable def bools:List D->Option (List Bool)
 | []=>some []
 | .bl b::r=>(bools r).map λ a=>b::a
 | _=>none
theorem Reps.bools{F:Addr->Prop}{H:Hp}:∀{vs:List V}{ds:List D}{A:List Addr}{a:List Bool},Reps F H vs ds A->LV.bools ds=some a->vs=a.map V.bl:=by
 intro vs ds
 induction ds generalizing vs with
 | nil=>intro A a r h;cases r;cases h;rfl
 | cons d ds c =>
   intro A a r h;cases r with
   | cons e t =>
     cases d with
     | bl b =>
       obtain⟨f,g,rfl⟩:=zAd.mp h;cases e;rw[c t g];rfl
     | _=>cases h
def gAll(x:D):Option D:=match x with
 | .lst _ ys=>(bools ys).map λ a=>.bl (a.all id)
 | _=>none
theorem qaM9{K:PySem.W.Frag}:CS1 true (λ xs H Q=>∃(a:Addr)(b:List Bool),xs=[.ref a]/\SqL K H a (b.map V.bl)/\Q (.bl (b.all id)) H) gAll:=by
 intro F H v x B d Q r h q;cases x with
 | lst z g =>
   obtain⟨b,c,rfl⟩:=zAd.mp h;obtain⟨a,i,A,rfl,e,f,_⟩:=r.lst_inv;cases f.bools c;exact⟨a,b,rfl,.inl (.inl e),q _ H [] (.bl _) (λ _ _ z=>z) New.nil⟩
 | _=>cases h
noncomputable def intsD:List D->Option (List Int)
 | []=>some []
 | .int i::r=>(intsD r).map λ is=>i::is
 | _=>none
theorem Reps.intsD{F:Addr->Prop}{H:Hp}:∀{vs:List V}{ds:List D}{A:List Addr}{a:List Int},Reps F H vs ds A->LV.intsD ds=some a->vs=a.map V.int:=by
 intro vs ds
 induction ds generalizing vs with
 | nil=>intro A a r h;cases r;cases h;rfl
 | cons d ds c =>
   intro A a r h;cases r with
   | cons e t =>
     cases d with
     | int b =>
       obtain⟨f,g,rfl⟩:=zAd.mp h;cases e;rw[c t g];rfl
     | _=>cases h
def En(xs:List D)(lo hi:Option Int):List D:=(xs.drop (HT.sIx xs.length 0 lo)).take (HT.sIx xs.length xs.length hi - HT.sIx xs.length 0 lo)
def gSl(x:D)(lo hi:Option Int):Option D:=match x with
 | .lst _ ys=>gd (D.imms (En ys lo hi)=true) (.lst false (En ys lo hi))
 | .scr a=>some (.lst false ((a.drop (HT.sIx a.length 0 lo)).take (HT.sIx a.length a.length hi - HT.sIx a.length 0 lo) |>.map .int))
 | .tup ys=>gd (D.imms (En ys lo hi)=true/\(En ys lo hi).length < ys.length) (.tup (En ys lo hi))
 | _=>none
theorem qG6{F:Addr->Prop}{H:Hp}:∀ ns:List Int,Reps F H (ns.map V.int) (ns.map D.int) []
 | []=>.nil
 | n::r=>.cons (A:=[]) (B:=[]) (.int n) (qG6 r)
theorem os_sl{K:PySem.W.Frag}{F:Addr->Prop}{H:Hp}{x d:D}{lo hi:Option Int}{B:List Addr}(r:Rep F H v x B)(h:gSl x lo hi=some d)(f:∀ ys,x≠.tup ys)(q:∀ v H' B',Rep F H' v d B'->Same H H'->New H B'->Q v H'):rSlL K v lo hi H Q:=by
 cases x with
 | lst z ys =>
   obtain⟨g,rfl⟩:=qs5 h;obtain⟨a,i,A,rfl,j,c,_⟩:=r.lst_inv;refine⟨a,i,rfl,.inl (.inl j),λ p b=>q _ _ [p] (qA5 b ?_) (Same.new b) (qg4 b)⟩;obtain⟨B',k,l⟩:=c.sub (HT.sIx ys.length 0 lo) (HT.sIx ys.length ys.length hi - HT.sIx ys.length 0 lo);unfold Fs;rw[c.len];exact k.imms0 g
 | scr m =>
   cases h;cases r with
   | scr e =>
     refine⟨_,_,rfl,.inl (.inr ⟨_,e⟩),λ p b=>q _ _ [p] (qA5 b ?_) (Same.new b) (qg4 b)⟩;unfold Fs;rw[<- List.map_drop,<- List.map_take,zA7];exact qG6 _
 | tup ys=>exact absurd rfl (f ys)
 | _=>cases h
def D.fld(C:Addr)(f:Str):D->Option D
 | .ins _ C' fs=>if C'=C then fs.lookup f else none
 | _=>none
theorem qag0{F:Addr->Prop}{H:Hp}:∀{c:List (Str×V)}{a:List (Str×D)}{A:List Addr}{f:Str}{d:D},c.map (·.1)=a.map (·.1)->Reps F H (c.map (·.2)) (a.map (·.2)) A->a.lookup f=some d->∃ v B,c.lookup f=some v/\Rep F H v d B/\∀ b,B.count b<=A.count b:=by
 intro c
 induction c with
 | nil=>intro a A f d e r h;cases a with
   | nil=>cases h
   | cons _ _=>simp at e
 | cons p c i =>
   intro a A f d e r h;cases a with
   | nil=>simp at e
   | cons q a =>
     obtain⟨k,v⟩:=p;obtain⟨j,s⟩:=q;have l:k=j:=by simp at e;exact e.1
     have e2:c.map (·.1)=a.map (·.1):=by simp at e;simpa using e.2
     subst l;cases r with
     | @cons _ _ A1 _ _ A2 r1 t =>
       rw[zAt] at h ⊢;cases g:f == k with
       | true=>rw[g] at h;cases h;exact⟨v,A1,rfl,r1,λ b=>by rw[zA0];lia⟩
       | false =>
         rw[g] at h;obtain⟨w,B,m,n,o⟩:=i e2 t h;exact⟨w,B,m,n,λ b=>by rw[zA0];have:=o b;lia⟩
theorem qaQ6{K:PySem.W.Frag}{C:Addr}{f:Str}(c:Cls K C)(n:qe9 K C f):OpS1 false (λ x H Q=>∃ a C dx fs v,x=.ref a/\H a=some (.ins C dx fs)/\Cls K C/\qe9 K C f/\fs.lookup f=some v/\Q v H) (D.fld C f):=by
 intro F H v x B d Q r h q;cases x with
 | ins z C' fs =>
   have i:(if C'=C then fs.lookup f else none)=some d:=h;by_cases j:C'=C
   . rw[if_pos j] at i
     subst j;obtain⟨a,dx,k,A,rfl,l,e,m,g⟩:=r.ins_inv;obtain⟨w,B',o,p,s⟩:=qag0 e m i;refine⟨a,C',dx,k,w,rfl,l,c,n,o,q w H B' p (λ _ _ z=>z) ?_⟩;rw[if_neg (by decide)];exact λ b=>.inl (by have:=s b;have:=g b;lia)
   rw[if_neg j] at i;cases i
 | _=>cases h
noncomputable def D.key:D->Option Key
 | .int i=>some (.inl i)
 | .str x=>some (.inr x)
 | _=>none
noncomputable def Dh(a:List (Key×D))(k:Key):Option D:=(a.find? λ b=>decide (b.1=k)).map (·.2)
theorem Rep.key{F:Addr->Prop}{H:Hp}{x:D}{B:List Addr}{k:Key}(r:Rep F H v x B)(h:x.key=some k):v=kV k:=by
 cases r<;>cases h<;>rfl
theorem qaD6{F:Addr->Prop}{H:Hp}:∀{kvs:List (Key×V)}{a:List (Key×D)}{A:List Addr}(k:Key),kvs.map (·.1)=a.map (·.1)->Reps F H (kvs.map (·.2)) (a.map (·.2)) A ->
   (Dh a k=none/\Ek kvs k=none)∨∃ v d B,Dh a k=some d/\Ek kvs k=some v/\Rep F H v d B/\∀ b,B.count b<=A.count b:=by
 intro kvs
 induction kvs with
 | nil=>intro a A k e r;cases a with
   | nil=>exact .inl ⟨rfl,rfl⟩
   | cons _ _=>simp at e
 | cons p kvs g =>
   intro a A k e r;cases a with
   | nil=>simp at e
   | cons q a =>
     obtain⟨c,v⟩:=p;obtain⟨i,d⟩:=q;have j:c=i:=by simp at e;exact e.1
     have e2:kvs.map (·.1)=a.map (·.1):=by simp at e;simpa using e.2
     subst j;cases r with
     | @cons _ _ A1 _ _ A2 r1 t =>
       by_cases f:c=k
       . exact .inr ⟨v,d,A1,by simp[Dh,f],qN3 f,r1,λ b=>by rw[zA0];lia⟩
       have l:Dh ((c,d)::a) k=Dh a k:=by simp[Dh,zBt,f]
       rw[l,qN4 (p:=(c,v)) f];rcases g k e2 t with h | ⟨w,m,B,n,o,s,u⟩
       . exact .inl h
       exact .inr ⟨w,m,B,n,o,s,λ b=>by rw[zA0];have:=u b;lia⟩
section
variable{c:Vc}{X:Cx}{a b e:Expr}{oa ob own nw:Bool}{fa fb f:FV}{r:R2}{g:D->D->Option D}{ta tb t:VT}{pos:Pos}
theorem vnm(i:Nat){x:Str}(b:X.N[i]? = some x:=by rfl)(d:Vis X.env.scope x:=by first | exact Or.inl rfl | exact Or.inr (Or.inl rfl) | exact Or.inr (Or.inr rfl))(e:(x == ("__debug__" : Str))=false:=by decide)(a:(x == ("__classdict__" : Str))=false:=by decide) :
   VV c X (.Name x pos) false (rdN i):=qaD4 (qr4 b d e a) (qs0 b)
noncomputable def kC(d:D):FV:=λ _=>some d
theorem Af{i:Int}:VV c X (.Constant (.int i) j pos) true (kC (.int i)):=Fw qP8 λ _ _=>.int _
theorem vbl{i:Bool}:VV c X (.Constant (.bool i) j pos) true (kC (.bl i)):=Fw pe_bl λ _ _=>.bl _
theorem Bb:VV c X (.Constant .none j pos) true (kC .non):=Fw qaQ3 λ _ _=>.non
theorem Eo{i:Str}:VV c X (.Constant (.str i) j pos) true (kC (.str i)):=Fw qaQ0 λ _ _=>.str _
theorem vgi{x:Str}{n:Int}{k:Tok}(hm:X.mg x=some (.int n k))(a:Gl X x:=by rfl)(b:(x == ("__debug__" : Str))=false:=by decide):VV c X (.Name x pos) true (kC (.int n)):=Fw (qaH6 hm a b) λ _ _=>.int _
theorem vcls{x:Str}(C:Addr)(hm:X.mg x=some (.ref C))(a:Gl X x:=by rfl)(b:(x == ("__debug__" : Str))=false:=by decide):VV c X (.Name x pos) true (kC (.adr C)):=Fw (qaQ1 C hm a b) λ _ _=>.adr _
theorem vty{x:Str}(n:String)(hm:X.mg x=none)(a:Gl X x:=by rfl)(b:bootBuiltins x=some (.type n):=by rfl)(d:x ≠ "__name__" := by decide)(e:(x == ("__debug__" : Str))=false:=by decide):VV c X (.Name x pos) true (kC (.ty n)):=Fw (qaQ4 n hm a b d e) λ _ _=>.ty _
theorem vpow{i j:Int}(k:Int){m:Nat}{p q:Pos}(a:i ^ j.toNat=k:=by decide)(b:0<=j:=by decide)(h1:j<=1000000:=by decide)(h2:i.natAbs < 2 ^ 64:=by decide):VV c X (.BinOp (.Constant (.int i) m p) .Pow (.Constant (.int j) n q) pos) true (kC (.int k)):=Fw (qaH4 k a b h1 h2) λ _ _=>.int _
def P2(X:Cx)(e a b:Expr)(r:R2):Prop:=∀ ta tb,PE X a ta->PE X b tb->PE X e (tOp r ta tb)
def T2(X:Cx)(e a b:Expr)(r:R2):Prop:=∀ ta tb,PE X a ta->PE X b tb->PT X e (tTest (tOp r ta tb))
theorem Ah{op:Operator}(c:OpR X (binaryOp op) r):P2 X (.BinOp a op b pos) a b r:=λ _ _ d e=>pe_op c d e
theorem Ba(c:OpR X (compareOp op) r)(hm:behindInMarks op b=false):P2 X (.Compare a [op] [b] pos) a b r:=λ _ _ d e=>qaH8 c d e hm
theorem An(c:OpR X (compareOp op) r)(hm:behindInMarks op b=false):T2 X (.Compare a [op] [b] pos) a b r:=λ _ _ d e=>qaG0 c d e hm
theorem A7(c:IxR X r)(d:qak5 b:=by exact λ _ _=>rfl):P2 X (.Subscript a b pos) a b r:=λ _ _ e f=>pe_ix c e f d
theorem v2(p:P2 X e a b r)(h:A9 nw r g)(d:VV c X a oa fa)(f:VV c X b ob fb):VV c X e (nw||(oa&&ob)) (f2 g fa fb):=⟨PE.mono (p _ _ d.h f.h) (op_vv h)⟩
theorem e2(p:P2 X e a b r)(h:A9 true r g)(d:VE c X a ta)(f:VE c X b tb):VE c X e (t2 g ta tb):=⟨PE.mono (p _ _ d.h f.h) (op_ee d f h),qar3 d f⟩
theorem e2v(p:P2 X e a b r)(h:A9 true r g)(d:VE c X a ta)(f:VV c X b ob fb):VE c X e (t2v g ta fb):=⟨PE.mono (p _ _ d.h f.h) (op_ev d h),qaw0 d⟩
theorem e2P(p:P2 X e a b r)(h:A9 false r g)(d:VE c X a ta)(f:VE c X b tb):VE c X e (t2 g ta tb):=⟨PE.mono (p _ _ d.h f.h) (qaR5 d f h),qar3 d f⟩
theorem e2n(i:Nat){x:Str}{p0:Pos}(p:P2 X e (.Name x p0) b r)(h:A9 true r g)(a:VE c X b tb)(f:X.N[i]? = some x:=by rfl)(j:Vis X.env.scope x:=by first | exact Or.inl rfl | exact Or.inr (Or.inl rfl) | exact Or.inr (Or.inr rfl))(k:(x == ("__debug__" : Str))=false:=by decide)(d:(x == ("__classdict__" : Str))=false:=by decide) :
   VE c X e (t2n g i tb):=⟨λ De s σ H Q I q=>p _ _ (qr4 f j k d) a.h De s σ H Q I (op_ne a h (qs0 f De σ H s I) q),qaw1 a⟩
theorem e2nP(i:Nat){x:Str}{p0:Pos}(p:P2 X e (.Name x p0) b r)(h:A9 nw r g)(a:VE c X b tb)(f:X.N[i]? = some x:=by rfl)(j:Vis X.env.scope x:=by first | exact Or.inl rfl | exact Or.inr (Or.inl rfl) | exact Or.inr (Or.inr rfl))(k:(x == ("__debug__" : Str))=false:=by decide)(d:(x == ("__classdict__" : Str))=false:=by decide) :
   VE c X e (t2nP g i tb):=⟨λ De s σ H Q I q=>p _ _ (qr4 f j k d) a.h De s σ H Q I (qaR1 a h (qs0 f De σ H s I) q),qal4 a⟩
noncomputable def D.asB:D->Option Bool
 | .bl b=>some b
 | _=>none
theorem Rep.asB{F:Addr->Prop}{H:Hp}{d:D}{B:List Addr}{k:Bool}(r:Rep F H v d B)(h:d.asB=some k):v=.bl k:=by
 cases r<;>cases h<;>rfl
def ttV(f:FV):VTT:=λ ds Q _=>orF ((f ds).bind D.asB) λ b=>Q b ds
def ttE(t:VT):VTT:=λ ds Q xe=>t ds (λ d a=>orF d.asB λ b=>Q b a) xe
theorem qaE0:∀ σ H Q,Dp c (ttV f) σ H Q->liftV c own f σ H (λ x H'=>∃ k,x=.bl k/\Q k H'):=by
 rintro σ H Q ⟨F,a,A,h,S,x,q⟩;obtain⟨b,e,q⟩:=qa6.mp q;obtain⟨d,g,e2⟩:=zA1.mp e;exact⟨F,a,A,d,S,g,λ v H' B r s _=>⟨b,r.asB e2,q H' F A (S.same s) (.same s)⟩⟩
theorem qav7(h:VE c X e t):∀ σ H Q,Dp c (ttE t) σ H Q->Bh c t σ H (λ x H'=>∃ k,x=.bl k/\Q k H'):=by
 rintro σ H Q ⟨F,a,A,f,S,x,q⟩;refine⟨F,a,A,f,S,x,h.m _ _ _ _ _ (λ d g q v H1 F1 T A1 i S1 l j=>?_) (λ _ _ z=>z) q⟩;obtain⟨b,e,q⟩:=qa6.mp q;exact⟨b,i.asB e,q H1 F1 A1 S1 (j.count λ b=>by rw[zA0];lia)⟩
theorem qab1:∀ ds (Q Q':Bool->Ds->Prop) (xe b:XKd),(∀ d a,Q d a->Q' d a)->(∀ x a,xe x a->b x a)->ttV f ds Q xe->ttV f ds Q' b:=λ ds Q Q' xe b c _=>qa4 λ d=>c d ds
theorem qN5(h:VE c X e t):∀ ds (Q Q':Bool->Ds->Prop) (xe b:XKd),(∀ d a,Q d a->Q' d a)->(∀ x a,xe x a->b x a)->ttE t ds Q xe->ttE t ds Q' b:=λ ds Q Q' xe b f g=>h.m _ _ _ _ _ (λ d a=>qa4 λ z=>f z a) g
theorem tv(h:VV c X e own f)(a:∀ whole,isTrue e X.env whole=(do let v <- whole;standAt e.pos;holding [v] (truthy v)):=by intro _;rfl):VTe c X e (ttV f):=⟨PT.mono (qaF9 h.h a) qaE0,qab1⟩
theorem te(h:VE c X e t)(a:∀ whole,isTrue e X.env whole=(do let v <- whole;standAt e.pos;holding [v] (truthy v)):=by intro _;rfl):VTe c X e (ttE t):=⟨PT.mono (qaF9 h.h a) (qav7 h),qN5 h⟩
theorem q2(p:T2 X e a b r)(h:A9 nw r g)(d:VV c X a oa fa)(f:VV c X b ob fb):VTe c X e (ttV (f2 g fa fb)):=⟨PT.mono (p _ _ d.h f.h) λ σ H Q q=>op_vv h σ H _ (qaE0 σ H Q q),qab1⟩
theorem q2e(p:P2 X e a b r)(i:T2 X e a b r)(h:A9 true r g)(d:VE c X a ta)(f:VE c X b tb):VTe c X e (ttE (t2 g ta tb)):=⟨PT.mono (i _ _ d.h f.h) λ σ H Q q=>op_ee d f h σ H _ (qav7 (e2 p h d f) σ H Q q),qN5 (e2 p h d f)⟩
theorem q2v(p:P2 X e a b r)(i:T2 X e a b r)(h:A9 true r g)(d:VE c X a ta)(f:VV c X b ob fb):VTe c X e (ttE (t2v g ta fb)):=⟨PT.mono (i _ _ d.h f.h) λ σ H Q q=>op_ev d h σ H _ (qav7 (e2v p h d f) σ H Q q),qN5 (e2v p h d f)⟩
variable{qa qb:VTT}{rest:List Expr}
def F6(t:VTT):VTT:=λ ds Q xe=>t ds (λ b a=>Q (!b) a) xe
theorem Bp(h:VTe c X a qa):VTe c X (.UnaryOp .Not a pos) (F6 qa):=by
 refine⟨PT.mono (qaP4 h.h) λ σ H Q ⟨F,e,A,f,S,x,q⟩=>⟨F,e,A,f,S,x,q⟩,λ e Q Q' f g i j=>h.m _ _ _ _ _ (λ b d=>i _ d) j⟩
structure VTw(c:Vc)(X:Cx)(e:Expr)(t:VTT):Prop where
 h:PW X e (Dp c t)
 m:∀ ds (Q Q':Bool->Ds->Prop) (xe xe':XKd),(∀ d ds',Q d ds'->Q' d ds')->(∀ x ds',xe x ds'->xe' x ds')->t ds Q xe->t ds Q' xe'
theorem VTw.te(h:VTw c X e qa):VTe c X e qa:=⟨h.h.pt,h.m⟩
theorem F7(h:VTe c X a qa):VTw c X (.BoolOp .And [a] pos) qa:=⟨qaF8 h.h,h.m⟩
theorem tor1(h:VTe c X a qa):VTw c X (.BoolOp .Or [a] pos) qa:=⟨qaP2 h.h,h.m⟩
def ttAnd(t u:VTT):VTT:=λ ds Q xe=>t ds (λ k ds1=>if k=true then u ds1 Q xe else Q false ds1) xe
def ttOr(t u:VTT):VTT:=λ ds Q xe=>t ds (λ k ds1=>if k=true then Q true ds1 else u ds1 Q xe) xe
theorem qT8{k:Bool->St->Hp->(Bool->Hp->Prop)->Prop}{K:Bool->Ds->(Bool->Ds->Prop)->XKd->Prop}(h:VTe c X a qa)(i:∀(b:Bool) F ds A xe σ H (Q:Bool->Hp->Prop),Sta c F H σ ds A->Xc c xe F H A->K b ds (λ f e=>∀ H' F' A',Sta c F' H' σ e A'->Stp F H A F' H' A'->Q f H') xe->k b σ H Q)(hm:∀(b:Bool) ds (Q Q':Bool->Ds->Prop) (xe:XKd),(∀ d e,Q d e->Q' d e)->K b ds Q xe->K b ds Q' xe):∀ σ H Q,Dp c (λ ds Q xe=>qa ds (λ b ds1=>K b ds1 Q xe) xe) σ H Q->Dp c qa σ H (λ b H1=>k b σ H1 Q):=by
 rintro σ H Q ⟨F,ds,A,xe,S,x,q⟩;refine⟨F,ds,A,xe,S,x,h.m _ _ _ _ _ (λ b ds1 q H1 F1 A1 S1 g=>?_) (λ _ _ z=>z) q⟩;exact i b F1 ds1 A1 xe σ H1 Q S1 (x.step g) (hm b ds1 _ _ xe (λ f e q H' F' A' S' j=>q H' F' A' S' (g.trans j)) q)
theorem Ig(g:VTe c X a qa)(i:VTw c X (.BoolOp .And (b::rest) pos) qb):VTw c X (.BoolOp .And (a::b::rest) pos) (ttAnd qa qb):=by
 refine⟨PW.mono (qaP3 g.h i.h) ?_,λ d Q Q' e l f j=>g.m _ _ _ _ _ (λ k n q=>?_) j⟩
 . refine qT8 (k:=λ b σ H Q=>if b=true then Dp c qb σ H Q else Q false H) (K:=λ b d Q e=>if b=true then qb d Q e else Q false d) g ?_ ?_
   . intro b F d A e σ H Q S x q
     cases b with
     | true=>rw[if_pos rfl] at q ⊢;exact⟨F,d,A,e,S,x,q⟩
     | false=>rw[if_neg (by decide)] at q ⊢;exact q H F A S Stp.refl
   intro b d Q Q' e f;cases b with
   | true=>rw[if_pos rfl,if_pos rfl];exact i.m _ _ _ _ _ f λ _ _ z=>z
   | false=>rw[if_neg (by decide),if_neg (by decide)];exact f _ _
 cases k with
 | true=>rw[if_pos rfl] at q ⊢;exact i.m _ _ _ _ _ f j q
 | false=>rw[if_neg (by decide)] at q ⊢;exact f _ _ q
theorem tor(g:VTe c X a qa)(i:VTw c X (.BoolOp .Or (b::rest) pos) qb):VTw c X (.BoolOp .Or (a::b::rest) pos) (ttOr qa qb):=by
 refine⟨PW.mono (pw_or g.h i.h) ?_,λ d Q Q' e l f j=>g.m _ _ _ _ _ (λ k n q=>?_) j⟩
 . refine qT8 (k:=λ b σ H Q=>if b=true then Q true H else Dp c qb σ H Q) (K:=λ b d Q e=>if b=true then Q true d else qb d Q e) g ?_ ?_
   . intro b F d A e σ H Q S x q
     cases b with
     | false=>rw[if_neg (by decide)] at q ⊢;exact⟨F,d,A,e,S,x,q⟩
     | true=>rw[if_pos rfl] at q ⊢;exact q H F A S Stp.refl
   intro b d Q Q' e f;cases b with
   | false=>rw[if_neg (by decide),if_neg (by decide)];exact i.m _ _ _ _ _ f λ _ _ z=>z
   | true=>rw[if_pos rfl,if_pos rfl];exact f _ _
 cases k with
 | false=>rw[if_neg (by decide)] at q ⊢;exact i.m _ _ _ _ _ f j q
 | true=>rw[if_pos rfl] at q ⊢;exact f _ _ q
end
section
variable{c:Vc}{X:Cx}{a b e:Expr}{oa ob own nw:Bool}{fa fb f:FV}{ta tb t:VT}{pos:Pos}{rest:List Expr}
def tSeqE(ta:VT)(k:D->VT):VT:=λ ds Q xe=>ta ds (λ x ds1=>k x ds1 Q xe) xe
theorem qaA4{k:V->St->Hp->VK->Prop}{K:D->VT}(i:VE c X a ta)(hm:∀ x ds (Q Q':DK) (xe f:XKd),(∀ d e,Q d e->Q' d e)->(∀ x e,xe x e->f x e)->K x ds Q xe->K x ds Q' f)(j:∀ F H σ v x T,Rep F H v x T->∀ Q,(∃ ds A xe,Sta c F H σ ds A/\Xc c xe F H A/\K x ds (λ d e=>∀ v H' F' T A',Rep F' H' v d T->Sta c F' H' σ e A'->Ok F' H' (T++A')->Stp F H A F' H' (T++A')->Q v H') xe)->k v σ H Q) :
   ∀ σ H Q,Bh c (tSeqE ta K) σ H Q->Bh c ta σ H (λ x H1=>k x σ H1 Q):=by
 rintro σ H Q ⟨F,ds,A,xe,S,x,q⟩;refine⟨F,ds,A,xe,S,x,i.m _ _ _ _ _ (λ d g q v H1 F1 T A1 l S1 p n=>?_) (λ _ _ z=>z) q⟩;have h:Stp F H A F1 H1 A1:=n.count λ b=>by rw[zA0];lia
 exact j F1 H1 σ v d T l Q ⟨g,A1,xe,S1,x.step h,hm d g _ _ _ _ (λ t e q w H' F' T' A' r S' o s=>q w H' F' T' A' r S' o (h.trans s)) (λ _ _ z=>z) q⟩
def Ih(ta tb:VT):VT:=tSeqE ta λ x ds Q xe=>orF x.asB λ k=>if k=true then tb ds Q xe else Q (.bl false) ds
theorem qL0{k:Bool}{p q a b:Prop}(h1:p->a)(h2:q->b):(if k=true then p else q)->(if k=true then a else b):=by
 cases k with
 | true=>rw[if_pos rfl,if_pos rfl];exact h1
 | false=>rw[if_neg (by decide),if_neg (by decide)];exact h2
theorem qak3(g:VE c X e tb):∀(x:D) ds (Q Q':DK) (xe b:XKd),(∀ d a,Q d a->Q' d a)->(∀ x a,xe x a->b x a)->(orF x.asB λ k=>if k=true then tb ds Q xe else Q (.bl false) ds)->(orF x.asB λ k=>if k=true then tb ds Q' b else Q' (.bl false) ds) :=
 λ x ds Q Q' xe b f h=>qa4 λ k=>qL0 (g.m _ _ _ _ _ f h) (f _ _)
theorem Ii{op:PySem.BoolOp}(h:VE c X a ta):VE c X (.BoolOp op [a] pos) ta:=⟨qaH5 h.h,h.m⟩
theorem F8(e:VE c X a ta)(f:VE c X (.BoolOp .And (b::rest) pos) tb):VE c X (.BoolOp .And (a::b::rest) pos) (Ih ta tb):=by
 refine⟨PE.mono (qaI0 e.h f.h) ?_,λ l Q Q' g i p n=>e.m _ _ _ _ _ (λ d j=>qak3 f d j Q Q' g i p n) n⟩;refine qaA4 (k:=λ v σ H Q=>∃ o,v=.bl o/\if o=true then Bh c tb σ H Q else Q (.bl false) H) e (qak3 f) ?_;rintro F H σ v x T r Q ⟨l,A,g,S,s,q⟩;obtain⟨k,t,q⟩:=qa6.mp q;refine⟨k,r.asB t,?_⟩;cases k with
 | true=>rw[if_pos rfl] at q ⊢;exact⟨F,l,A,g,S,s,q⟩
 | false=>rw[if_neg (by decide)] at q ⊢;exact q _ H F [] A (.bl _) S S.ok Stp.refl
variable{qc:VTT}
def tIfE(qc:VTT)(ta tb:VT):VT:=λ ds Q xe=>qc ds (λ k ds1=>if k=true then ta ds1 Q xe else tb ds1 Q xe) xe
theorem eif(i:VTe c X cd qc)(j:VE c X a ta)(l:VE c X b tb):VE c X (.IfExp cd a b pos) (tIfE qc ta tb):=by
 refine⟨PE.mono (qay0 i.h j.h l.h) ?_,λ t Q Q' f w u n=>i.m _ _ _ _ _ (λ k e=>qL0 (j.m _ _ _ _ _ u n) (l.m _ _ _ _ _ u n)) n⟩;rintro σ H Q ⟨F,t,A,f,S,x,q⟩;refine⟨F,t,A,f,S,x,i.m _ _ _ _ _ (λ k e q H1 F1 A1 S1 g=>?_) (λ _ _ z=>z) q⟩;cases k with
 | true=>rw[if_pos rfl] at q ⊢;exact⟨F1,e,A1,f,S1,x.step g,j.m _ _ _ _ _ (λ d p q v H' F' T A' r S' o s=>q v H' F' T A' r S' o (g.trans s)) (λ _ _ z=>z) q⟩
 | false=>rw[if_neg (by decide)] at q ⊢;exact⟨F1,e,A1,f,S1,x.step g,l.m _ _ _ _ _ (λ d p q v H' F' T A' r S' o s=>q v H' F' T A' r S' o (g.trans s)) (λ _ _ z=>z) q⟩
def fAnd(fa fb:FV):FV:=λ ds=>(fa ds).bind λ x=>x.asB.bind λ k=>if k=true then fb ds else some (.bl false)
def fOr(fa fb:FV):FV:=λ ds=>(fa ds).bind λ x=>x.asB.bind λ k=>if k=true then some (.bl true) else fb ds
def fNot(fa:FV):FV:=λ ds=>(fa ds).bind λ x=>x.asB.map λ k=>.bl (!k)
theorem vone{op:PySem.BoolOp}(h:VV c X a oa fa):VV c X (.BoolOp op [a] pos) oa fa:=⟨qaH5 h.h⟩
theorem vand(m:VV c X a oa fa)(n:VV c X (.BoolOp .And (b::rest) pos) ob fb):VV c X (.BoolOp .And (a::b::rest) pos) ob (fAnd fa fb):=by
 refine⟨PE.mono (qaI0 m.h n.h) λ σ H Q g=>?_⟩;obtain⟨F,i,A,d,S,e,q⟩:=g;obtain⟨x,p,e⟩:=zA1.mp e;obtain⟨k,r,e⟩:=zA1.mp e;refine⟨F,i,A,x,S,p,λ v H1 B1 s f y=>⟨k,s.asB r,?_⟩⟩;cases k with
 | true=>rw[if_pos rfl] at e ⊢;exact⟨F,i,A,d,S.same f,e,λ w H2 B2 t u j=>q w H2 B2 t (f.trans u) λ l=>⟨(j l).one,λ b o e=>(j l).new b o (f b o e)⟩⟩
 | false=>rw[if_neg (by decide)] at e ⊢;cases e;exact q _ H1 [] (.bl _) f λ _=>New.nil
theorem vor(m:VV c X a oa fa)(n:VV c X (.BoolOp .Or (b::rest) pos) ob fb):VV c X (.BoolOp .Or (a::b::rest) pos) ob (fOr fa fb):=by
 refine⟨PE.mono (pe_or m.h n.h) λ σ H Q g=>?_⟩;obtain⟨F,i,A,d,S,e,q⟩:=g;obtain⟨x,p,e⟩:=zA1.mp e;obtain⟨k,r,e⟩:=zA1.mp e;refine⟨F,i,A,x,S,p,λ v H1 B1 s f y=>⟨k,s.asB r,?_⟩⟩;cases k with
 | false=>rw[if_neg (by decide)] at e ⊢;exact⟨F,i,A,d,S.same f,e,λ w H2 B2 t u j=>q w H2 B2 t (f.trans u) λ l=>⟨(j l).one,λ b o e=>(j l).new b o (f b o e)⟩⟩
 | true=>rw[if_pos rfl] at e ⊢;cases e;exact q _ H1 [] (.bl _) f λ _=>New.nil
theorem vnot(f:VV c X a oa fa):VV c X (.UnaryOp .Not a pos) true (fNot fa):=by
 refine⟨PE.mono (qaQ2 f.h) λ σ H Q b=>?_⟩;obtain⟨F,g,A,d,S,e,q⟩:=b;obtain⟨x,i,e⟩:=zA1.mp e;obtain⟨k,j,rfl⟩:=zAd.mp e;exact⟨F,g,A,x,S,i,λ v H1 B1 l m n=>⟨k,l.asB j,q _ H1 [] (.bl _) m λ _=>New.nil⟩⟩
noncomputable def gNeg:D->Option D
 | .int i=>some (.int (-i))
 | _=>none
theorem qaQ5:OpS1 true (rU λ i=>.int (-i)) gNeg:=by
 intro F H v x B d Q r h q;cases x with
 | int i=>cases h;cases r;exact⟨i,rfl,q _ H [] (.int _) (λ _ _ z=>z) New.nil⟩
 | _=>cases h
theorem vneg(b:VV c X a oa fa):VV c X (.UnaryOp .USub a pos) true (f1 gNeg fa):=⟨PE.mono (pe_un qaO5 b.h) (op_v (nw:=true) qaQ5)⟩
theorem Be{f:Str}{C:Addr}{K:PySem.W.Frag}(b:X.K=K)(d:VV c X a oa fa)(e:Cls K C)(n:qe9 K C f)(g:attributeBase a f X.env (eval a X.env)=eval a X.env:=by rfl):VV c X (.Attribute a f pos) oa (f1 (D.fld C f) fa):=by
 subst b;exact⟨PE.mono (qaH7 d.h g) (op_v (nw:=false) (qaQ6 e n))⟩
variable{rc:List V->Hp->VK->Prop}{gc:Ds->Option D}{x:Str}{p:Pos}{es:List Expr}{fs:Ds->Option Ds}{tos:VTA}
def A8(gc:Ds->Option D)(fs:Ds->Option Ds):FV:=λ ds=>(fs ds).bind gc
theorem vbi{id:String}(d:CallR X (.builtin id) rc)(h:OpS nw rc gc)(hm:X.mg x=none)(f:VVs c X (e::es) own fs)(g:Gl X x:=by rfl)(i:bootBuiltins x=some (.builtin id):=by rfl)(j:x ≠ "__name__" := by decide)(a:(x == ("__debug__" : Str))=false:=by decide)(k:starEach (e::es) X.env=(false,eval e X.env)::starEach es X.env:=by rfl)(b:((backTo pos (starEach es X.env)).any λ x=>x.1)=false:=by rfl) :
   VV c X (.Call (.Name x p) (e::es) [] pos) (nw||own) (A8 gc fs):=⟨PE.mono (cbi d hm f.h g i j a k b) (qaI5 h)⟩
theorem Fp{id:String}(d:CallR X (.type id) rc)(h:OpS nw rc gc)(hm:X.mg x=none)(f:VVs c X (e::es) own fs)(g:Gl X x:=by rfl)(i:bootBuiltins x=some (.type id):=by rfl)(j:x ≠ "__name__" := by decide)(a:(x == ("__debug__" : Str))=false:=by decide)(k:starEach (e::es) X.env=(false,eval e X.env)::starEach es X.env:=by rfl)(b:((backTo pos (starEach es X.env)).any λ x=>x.1)=false:=by rfl) :
   VV c X (.Call (.Name x p) (e::es) [] pos) (nw||own) (A8 gc fs):=⟨PE.mono (cty d hm f.h g i j a k b) (qaI5 h)⟩
theorem ebi{id:String}(f:CallR X (.builtin id) rc)(h:OpS true rc gc)(hm:X.mg x=none)(a:VOs c X (e::es) tos)(g:Gl X x:=by rfl)(i:bootBuiltins x=some (.builtin id):=by rfl)(j:x ≠ "__name__" := by decide)(b:(x == ("__debug__" : Str))=false:=by decide)(k:starEach (e::es) X.env=(false,eval e X.env)::starEach es X.env:=by rfl)(d:((backTo pos (starEach es X.env)).any λ x=>x.1)=false:=by rfl) :
   VE c X (.Call (.Name x p) (e::es) [] pos) (tcO gc tos):=⟨PE.mono (cbi f hm a.h g i j b k d) (opc_o a h),qav8 a⟩
def gLst(xs:Ds):Option D:=gd (D.imms xs=true/\xs.length<=big) (.lst false xs)
def gTup(xs:Ds):Option D:=gd (D.imms xs=true/\xs.length<=big) (.tup xs)
theorem Di(k:VVs c X es own fs):VV c X (.List es pos) true (A8 gLst fs):=by
 refine⟨PE.mono (qax8 k.h) λ σ H Q f=>?_⟩;obtain⟨F,l,A,d,S,e,q⟩:=f;obtain⟨m,n,e2⟩:=zA1.mp e;obtain⟨g,rfl⟩:=qs5 e2;refine⟨F,l,A,m,S,n,λ r H1 B1 i j s=>⟨by rw[i.len];exact zAr g.2 qi5,λ p a=>?_⟩⟩;exact q _ _ [p] (qA5 a (i.imms0 g.1)) (j.trans (Same.new a)) λ _=>⟨(qg4 a).one,λ b o e=>(qg4 a).new b o (j b o e)⟩
theorem Ep{k:Nat}(i:VVs c X es own fs):VV c X (.Tuple es k pos) true (A8 gTup fs):=by
 refine⟨PE.mono (qaH3 i.h) λ σ H Q a=>?_⟩;obtain⟨F,j,A,d,S,e,q⟩:=a;obtain⟨l,m,e2⟩:=zA1.mp e;obtain⟨b,rfl⟩:=qs5 e2;refine⟨F,j,A,l,S,m,λ o H1 B1 f n r=>⟨by rw[f.len];exact zAr b.2 qi5,λ p g=>?_⟩⟩;exact q _ _ [] (qaf2 g (f.imms0 b.1)) (n.trans (Same.new g)) λ _=>New.nil
def FO:=Ds->Option (Option Int)
inductive qaO1(c:Vc)(f:FO)(σ:St)(H:Hp)(Q:Option Int->Hp->Prop):Prop
 | mk (F:Addr->Prop) (ds:Ds) (A:List Addr) (i:Option Int) (S:Sta c F H σ ds A) (e:f ds=some i) (q:∀ H',Same H H'->Q i H'):qaO1 c f σ H Q
def qaS4(c:Vc)(f:FO):TO:=qaO1 c f
structure VPO(c:Vc)(X:Cx)(e:Option Expr)(f:FO):Prop where
 h:PO X e (qaS4 c f)
theorem PO.mono{X:Cx}{e:Option Expr}{t t':TO}(h:PO X e t)(i:∀ σ H Q,t' σ H Q->t σ H Q):PO X e t':=λ De s σ H Q I q=>h De s σ H Q I (i σ H Q q)
noncomputable def foN:FO:=λ _=>some none
noncomputable def D.asI:D->Option Int
 | .int i=>some i
 | _=>none
theorem Rep.asI{F:Addr->Prop}{H:Hp}{d:D}{B:List Addr}{k:Int}(r:Rep F H v d B)(h:d.asI=some k):v=.int k:=by
 cases r<;>cases h<;>rfl
def foS(f:FV):FO:=λ ds=>(f ds).bind λ d=>d.asI.map some
theorem vpo_n:VPO c X none foN:=⟨PO.mono qad9 λ σ H Q ⟨F,a,A,i,S,e,q⟩=>by cases e;exact q H λ _ _ z=>z⟩
theorem vpo_s(h:VV c X e own f):VPO c X (some e) (foS f):=by
 refine⟨PO.mono (qad8 h.h) λ σ H Q a=>?_⟩;obtain⟨F,b,A,i,S,e,q⟩:=a;obtain⟨d,g,e2⟩:=zA1.mp e;obtain⟨j,k,rfl⟩:=zAd.mp e2;exact⟨F,b,A,d,S,g,λ v H' B r s _=>⟨j,r.asI k,q H' s⟩⟩
noncomputable def noT:D->Bool
 | .tup _=>false
 | _=>true
def fsl(fa:FV)(lo hi:FO):FV:=λ ds=>(fa ds).bind λ x=>(lo ds).bind λ l=>(hi ds).bind λ h=>if noT x=true then gSl x l h else none
theorem vsl{lo hi:Option Expr}{n p:FO}{p2:Pos}(t:VV c X a oa fa)(u:VPO c X lo n)(y:VPO c X hi p):VV c X (.Subscript a (.Slice lo hi none p2) pos) true (fsl fa n p):=by
 refine⟨PE.mono (qP6 qac4 t.h u.h y.h) λ σ H Q g=>?_⟩;obtain⟨F,i,A,d,S,e,q⟩:=g;obtain⟨x,B,e⟩:=zA1.mp e;obtain⟨l,e2,e⟩:=zA1.mp e;obtain⟨h,C,e⟩:=zA1.mp e;by_cases j:noT x=true
 . rw[if_pos j] at e
   refine⟨F,i,A,x,S,B,λ v H1 B1 D k _=>⟨F,i,A,l,S.same k,e2,λ H2 m=>⟨F,i,A,h,(S.same k).same m,C,λ H3 r=>?_⟩⟩⟩;have f:=(k.trans m).trans r;refine os_sl ((D.same m).same r) e (λ I z=>by subst z;cases j) λ w H' B' E G s=>q w H' B' E (f.trans G) λ _=>⟨s.one,λ b o e=>s.new b o (f b o e)⟩
 rw[if_neg j] at e;cases e
def fget(fa a b:FV):FV:=λ ds=>(fa ds).bind λ x=>(a ds).bind λ y=>(b ds).bind λ z=>match x with
 | .dct _ kvs=>y.key.bind λ k=>gd (((Dh kvs k).getD z).imm=true) ((Dh kvs k).getD z)
 | _=>none
theorem vget{k z:Expr}{D E:Bool}{s t:FV}{apos cpos:Pos}(G:X.A.units+1 < cLine)(I:VV c X a oa fa)(J:VV c X k D s)(K:VV c X z E t)(m:M2 X a "get" apos k z cpos):VV c X (.Call (.Attribute a "get" apos) [k,z] [] cpos) true (fget fa s t):=by
 refine⟨PE.mono (qay1 G I.h J.h K.h m) λ σ H Q j=>?_⟩;obtain⟨F,l,A,d,S,e,q⟩:=j;obtain⟨x,L,e⟩:=zA1.mp e;obtain⟨y,e2,e⟩:=zA1.mp e;obtain⟨w,M,e⟩:=zA1.mp e;cases x with
 | dct z N =>
   obtain⟨n,O,e⟩:=zA1.mp e;obtain⟨g,rfl⟩:=qs5 e;refine⟨F,l,A,_,S,L,λ v H1 B1 P o _=>?_⟩;obtain⟨a,b,A2,rfl,B,R,T,_⟩:=P.dct_inv;refine⟨a,rfl,.inl ⟨b,.inl B⟩,F,l,A,y,S.same o,e2,λ u H2 B2 U i _=>⟨F,l,A,w,(S.same o).same i,M,λ V H3 B3 C p _=>?_⟩⟩;have r:=p _ _ (i _ _ B);refine⟨Ek b n,.inl ⟨b,n,.inl r,(U.key O),rfl⟩,?_⟩;have f:=(o.trans i).trans p;rcases qaD6 n R T with⟨n1,n2⟩ | ⟨vv,dd,BB,n1,n2,n3,n4⟩
   . rw[n1] at g q;rw[n2]
     have:=C.imm g
     subst this;exact q _ H3 [] C f λ _=>New.nil
   rw[n1] at g q;rw[n2]
   have:=n3.imm g
   subst this;exact q _ H3 [] ((n3.same i).same p) f λ _=>New.nil
 | _=>cases e
end
section
variable{c:Vc}{X:Cx}{a b e:Expr}{pos:Pos}{F F':Addr->Prop}{H H':Hp}{σ:St}{ds:Ds}{A:List Addr}
theorem Sta.put1{d:D}(S:Sta c F H σ ds A)(h:ds[i]? = some d)(e:d≠.unk):∃(v:V)(B C:List Addr),(σ++c.gv)[i]? = some (some v)/\Rep F H v d B/\(∀ b,A.count b=B.count b+C.count b) /\
   ∀{F':Addr->Prop}{H':Hp}{W:Addr->Prop}(d':D)(B':List Addr),Kp F H W F' H'->(∀ b∈C,¬ W b)->Rep F' H' v d' B'->∃ A':List Addr,Locs F' H' (σ++c.gv) (ds.set i d') A'/\∀ b,A'.count b=B'.count b+C.count b:=by
 have f:A4 ds i []=some d:=by unfold A4;rw[h];rfl
 obtain⟨u,w,B,C,g,j,l,m,n⟩:=S.loc.place f e;cases j;refine⟨u,B,C,g,l,m,λ{F' H' W} d' B' k o r=>?_⟩;obtain⟨A',a,q2⟩:=n d' B' k o r;refine⟨A',?_,q2⟩;unfold Bc at a;rw[h] at a;exact a
theorem qB0{d:D}(h:d.known=true):d≠.unk:=λ z=>by subst z;cases h
def tMv(i:Nat):VT:=λ ds Q _=>orF (rdN i ds) λ d=>Q d (ds.set i .unk)
theorem emv(i:Nat){x:Str}(k:X.N[i]? = some x:=by rfl)(m:Vis X.env.scope x:=by first | exact Or.inl rfl | exact Or.inr (Or.inl rfl) | exact Or.inr (Or.inr rfl))(n:(x == ("__debug__" : Str))=false:=by decide)(a:(x == ("__classdict__" : Str))=false:=by decide) :
   VE c X (.Name x pos) (tMv i):=by
 refine⟨λ De s σ H Q I g=>?_,λ p Q Q' r t u _=>qa4 λ d=>u _ _⟩;obtain⟨F,p,A,r,S,x,q⟩:=g;refine qr4 k m n a De s σ H Q I ?_;obtain⟨d,h,q⟩:=qa6.mp q;obtain⟨h,w⟩:=qo0.mp h;obtain⟨v,B,C,l,y,j,D⟩:=S.put1 h (qB0 w);have E:=qs0 k De σ H s I;rw[zAu E] at l;obtain⟨A',G,q2⟩:=D .unk [] (Kp.same (λ _ _ z=>z)) (λ _ _ z=>z) (.unk v);refine⟨v,l,q v H F B A' y ⟨G,S.ok.count λ b=>by rw[q2,j];simp,S.len,S.ag⟩ (S.ok.count λ b=>by rw[zA0,q2,j];simp) ?_⟩;exact⟨λ _ _ e _=>e,λ b o e z=>by rw[zA0,q2];have:=j b;simp;lia,λ _ f=>f,λ _ _ _ _ f=>f⟩
theorem share{B C:List Addr}(o:Ok F H A)(a:∀ b,A.count b=B.count b+C.count b)(d:∀ b∈B,∃ o,H b=some o/\Ea o=true){A':List Addr}(c:∀ b,A'.count b=C.count b) :
   Ok (λ b=>F b∨b∈B) H A'/\Stp F H A (λ b=>F b∨b∈B) H A':=by
 refine⟨⟨λ b=>by rw[c];have:=o.sep b;have:=a b;lia,λ b f=>?_,λ b f=>?_⟩,λ _ _ e _=>e,λ b o e z=>by rw[c];have:=a b;lia,λ b f=>.inl f,λ b u e z f=>?_⟩
 . rw[c]
   rcases f with f | f
   . have:=o.fro b f;have:=a b;lia
   have:=qa9.mp f;have:=o.sep b;have:=a b;lia
 . rcases f with f | f
   . exact o.ex b f
   exact let ⟨u,e,_⟩:=d b f;⟨u,e⟩
 rcases f with f | f
 . exact f
 have:=qa9.mp f;have:=a b;lia
abbrev PF:=Ds->Option (Nat×List Nat)
inductive LiftP(c:Vc)(pf:PF)(σ:St)(H:Hp)(Q:VK):Prop
 | mk (F:Addr->Prop) (ds:Ds) (A:List Addr) (i:Nat) (p:List Nat) (d:D) (S:Sta c F H σ ds A) (e:pf ds=some (i,p)) (g:A4 ds i p=some d) (n:d≠.unk) (q:∀ u w H',(σ++c.gv)[i]? = some (some u)->Walk H' u p w->Same H H'->Q w H'):LiftP c pf σ H Q
def F9(c:Vc)(pf:PF):TE:=LiftP c pf
structure VP(c:Vc)(X:Cx)(e:Expr)(pf:PF):Prop where
 h:PE X e (F9 c pf)
theorem vpn(i:Nat){x:Str}(h:X.N[i]? = some x:=by rfl)(l:Vis X.env.scope x:=by first | exact Or.inl rfl | exact Or.inr (Or.inl rfl) | exact Or.inr (Or.inr rfl))(m:(x == ("__debug__" : Str))=false:=by decide)(b:(x == ("__classdict__" : Str))=false:=by decide) :
   VP c X (.Name x pos) (λ _=>some (i,[])):=by
 refine⟨λ De s σ H Q I f=>?_⟩;obtain⟨F,t,A,j,p,d,S,e,n,g,q⟩:=f;refine qr4 h l m b De s σ H Q I ?_;cases e;obtain⟨u,w,B,C,k,o,v,y,D⟩:=S.loc.place n g;cases o;have r:=qs0 h De σ H s I;have a:=k;rw[zAu r] at a;exact⟨u,a,q u u H k rfl λ _ _ z=>z⟩
theorem qL4:∀{p:List Nat}{d x:D}{q:List Nat},d.getP (p++q)=some x->∃ e,d.getP p=some e/\e.getP q=some x
 | [],d,x,q,h=>⟨d,rfl,h⟩
 | n::p,d,x,q,h=>by
   have h:D.getP d (n::(p++q))=some x:=h;unfold D.getP at h;cases a:d.kids[n]? with
   | none=>rw[a] at h;cases h
   | some y =>
     rw[a] at h;obtain⟨e,b,c⟩:=qL4 (p:=p) h;exact⟨e,by unfold D.getP;rw[a];exact b,c⟩
theorem qL5{p q:List Nat}{x:D}(h:A4 ds i (p++q)=some x):∃ e,A4 ds i p=some e/\e.getP q=some x:=by
 unfold A4 at h ⊢;cases a:ds[i]? with
 | none=>rw[a] at h;cases h
 | some d=>rw[a] at h;exact qL4 h
theorem Walk.snoc:∀{p:List Nat}{u v w:V}{n:Nat},Walk H u p v->Lnk H v n w->Walk H u (p++[n]) w
 | [],_,_,w,n,h,l=>by cases h;exact⟨w,l,rfl⟩
 | m::p,_,_,_,_,⟨x,h1,h2⟩,l=>⟨x,h1,h2.snoc l⟩
theorem qaK6{d e:D}(h:d.getP [n]=some e):d≠.unk:=λ z=>by subst z;simp[D.getP,D.kids] at h
theorem Sta.place{p:List Nat}{d:D}{u:V}(S:Sta c F H σ ds A)(h:A4 ds i p=some d)(e:d≠.unk)(f:(σ++c.gv)[i]? = some (some u))(g:Walk H u p w):∃(B C:List Addr),Rep F H w d B/\(∀ b,A.count b=B.count b+C.count b) /\
   ∀{F':Addr->Prop}{H':Hp}{W:Addr->Prop}(d':D)(B':List Addr),Kp F H W F' H'->(∀ b∈C,¬ W b)->Rep F' H' w d' B'->∃ A':List Addr,Locs F' H' (σ++c.gv) (Bc ds i p d') A'/\∀ b,A'.count b=B'.count b+C.count b:=by
 obtain⟨n,o,B,C,a,j,k,l,m⟩:=S.loc.place h e;rw[f] at a;cases a;cases g.fn j;exact⟨B,C,k,l,m⟩
def D.fidx(C:Addr)(f:Str):D->Option Nat
 | .ins _ C' fs=>if C'=C then fs.findIdx? (λ q=>f == q.1) else none
 | _=>none
theorem qE8{α:Type}:∀{fs:List (Str×α)}{f:Str}{n:Nat},fs.findIdx? (λ q=>f == q.1)=some n->∃ v,fs.lookup f=some v/\(fs.map (·.2))[n]? = some v
 | [],f,n,h=>by simp at h
 | (k,v)::r,f,n,h=>by
   rw[zC8] at h;rw[zAt];cases a:f == k with
   | true=>simp[a] at h;subst h;exact⟨v,rfl,rfl⟩
   | false =>
     simp[a] at h;obtain⟨m,b,rfl⟩:=h;obtain⟨w,c,d⟩:=qE8 (fs:=r) b;exact⟨w,c,by simpa using d⟩
theorem qV2{α β:Type}:∀{fs:List (Str×α)}{a:List (Str×β)}{f:Str},fs.map (·.1)=a.map (·.1)->fs.findIdx? (λ q=>f == q.1)=a.findIdx? (λ q=>f == q.1)
 | [],[],_,_=>rfl
 | [],_::_,_,h=>by simp at h
 | _::_,[],_,h=>by simp at h
 | (k,_)::r,(k',_)::r',f,h=>by
   have b:k=k':=by simp at h;exact h.1
   have c:r.map (·.1)=r'.map (·.1):=by simp at h;simpa using h.2
   subst b;rw[zC8,zC8,qV2 c]
def pfFld(C:Addr)(f:Str)(pf:PF):PF:=λ ds=>(pf ds).bind λ q=>(A4 ds q.1 q.2).bind λ d=>(d.fidx C f).map λ n=>(q.1,q.2++[n])
theorem Bq{f:Str}{C:Addr}{K:PySem.W.Frag}{pf:PF}(I:X.K=K)(l:VP c X a pf)(J:Cls K C)(L:qe9 K C f)(M:attributeBase a f X.env (eval a X.env)=eval a X.env:=by rfl):VP c X (.Attribute a f pos) (pfFld C f pf):=by
 subst I;refine⟨PE.mono (qaH7 l.h M) λ σ H Q m=>?_⟩;obtain⟨F,N,A,i,p,d,S,e,O,hd,q⟩:=m;obtain⟨⟨j,P⟩,R,e⟩:=zA1.mp e;obtain⟨t,e2,e⟩:=zA1.mp e;obtain⟨n,x,e⟩:=zAd.mp e;cases e;obtain⟨T,y,U⟩:=qL5 O;rw[e2] at y;cases y;have b:=qaK6 U;refine⟨F,N,A,j,P,t,S,R,e2,b,λ u w H' D E s=>?_⟩;obtain⟨B,C0,r,_,_⟩:=(S.same s).place e2 b D E;cases t with
 | ins z C' V =>
   have g:(if C'=C then V.findIdx? (λ q=>f == q.1) else none)=some n:=x;by_cases o:C'=C
   . rw[if_pos o] at g
     obtain⟨a,G,k,_,rfl,l,Y,rs,_⟩:=r.ins_inv;rw[<- qV2 Y] at g;obtain⟨v,Z,l2⟩:=qE8 g;subst o;exact⟨a,C',G,k,v,rfl,l,J,L,Z,q u v H' D (E.snoc ⟨a,rfl,.inr (.inr (.inr ⟨C',G,k,l,l2⟩))⟩) s⟩
   rw[if_neg o] at g;cases g
 | _=>cases x
def pfIx(pf:PF)(fb:FV):PF:=λ ds=>(pf ds).bind λ q=>(A4 ds q.1 q.2).bind λ d=>d.elems.bind λ ys=>(fb ds).bind λ y=>y.asI.bind λ k=>(ixN ys.length k).map λ n=>(q.1,q.2++[n])
theorem vpix{pf:PF}{ob:Bool}{fb:FV}(f:VP c X a pf)(O:VV c X b ob fb)(P:qak5 b:=by exact λ _ _=>rfl):VP c X (.Subscript a b pos) (pfIx pf fb):=by
 refine⟨PE.mono (pe_ix qc1 f.h O.h P) λ σ H Q C=>?_⟩;obtain⟨F,J,A,i,p,d,S,e,R,hd,q⟩:=C;obtain⟨⟨j,T⟩,U,e⟩:=zA1.mp e;obtain⟨K,e2,e⟩:=zA1.mp e;obtain⟨V,D,e⟩:=zA1.mp e;obtain⟨y,W,e⟩:=zA1.mp e;obtain⟨k,Y,e⟩:=zA1.mp e;obtain⟨n,E,e⟩:=zAd.mp e;cases e;obtain⟨Z,L,g2⟩:=qL5 R;rw[e2] at L;cases L;have o:=qaK6 g2;refine⟨F,J,A,j,T,K,S,U,e2,o,λ u w H1 G hw s=>?_⟩;refine⟨F,J,A,y,S.same s,W,λ v2 H2 B2 r2 M _=>?_⟩;have g:=s.trans M;have l:=hw.same M;obtain⟨B,C0,r,_,_⟩:=(S.same g).place e2 o G l;cases r2.asI Y;have N:n < V.length:=(qU2 E).2.1;cases K with
 | lst z I =>
   cases D;obtain⟨a,m,A3,rfl,f,t,_⟩:=r.lst_inv;obtain⟨vn,v⟩:∃ x,m[n]? = some x:=⟨_,zB9 (by rw[t.len];exact N)⟩
   refine .inl ⟨a,m,k,_,rfl,rfl,.inl (.inl f),?_,q u _ H2 G (l.snoc ⟨a,rfl,.inr (.inl ⟨m,f,v⟩)⟩) g⟩;unfold atI;rw[t.len,E];exact v
 | tup I =>
   cases D;obtain⟨a,m,rfl,f,t⟩:=r.tup_inv;obtain⟨vn,v⟩:∃ x,m[n]? = some x:=⟨_,zB9 (by rw[t.len];exact N)⟩
   refine .inr (.inl ⟨a,m,k,_,rfl,rfl,.inl (.inl f),?_,q u _ H2 G (l.snoc ⟨a,rfl,.inl ⟨m,f,v⟩⟩) g⟩);unfold atI;rw[t.len,E];exact v
 | _=>cases D
end
inductive Pl where
 | no
 | sl (i:Nat)
 | pl (i:Nat) (p:List Nat) (w:V)
abbrev VTB:=Ds->(Ds->List Pl->Ds->Prop)->XKd->Prop
inductive Fb(τ:List (Option V)):List V->List Pl->Prop
 | nil:Fb τ [] []
 | no {v:V} {vs:List V} {ps:List Pl} (t:Fb τ vs ps):Fb τ (v::vs) (.no::ps)
 | sl {v:V} {vs:List V} {ps:List Pl} {i:Nat} (h:τ[i]? = some (some v)) (t:Fb τ vs ps):Fb τ (v::vs) (.sl i::ps)
 | so {v:V} {vs:List V} {ps:List Pl} {i:Nat} {p:List Nat} (t:Fb τ vs ps):Fb τ (v::vs) (.pl i p v::ps)
inductive LiftA(c:Vc)(t:VTB)(σ:St)(H:Hp)(Q:List V->Hp->Prop):Prop
 | mk (F:Addr->Prop) (ds:Ds) (A:List Addr) (xe:XKd) (S:Sta c F H σ ds A) (x:Xc c xe F H A) (q:t ds (λ xs pls ds'=>∀ vs H' F' T A',Reps F' H' vs xs T->Fb (σ++c.gv) vs pls->Sta c F' H' σ ds' A'->Ok F' H' (T++A')->Stp F H A F' H' (T++A')->Q vs H') xe):LiftA c t σ H Q
def Ex(c:Vc)(t:VTB):TA:=LiftA c t
structure VAs(c:Vc)(X:Cx)(es:List Expr)(t:VTB):Prop where
 h:PA X es (Ex c t)
 m:∀ ds (Q Q':Ds->List Pl->Ds->Prop) (xe xe':XKd),(∀ d p ds',Q d p ds'->Q' d p ds')->(∀ x ds',xe x ds'->xe' x ds')->t ds Q xe->t ds Q' xe'
section
variable{c:Vc}{X:Cx}{e:Expr}{es:List Expr}{ta:VT}{tr:VTB}{pf:PF}{F F':Addr->Prop}{H H':Hp}{σ:St}{ds:Ds}{A:List Addr}
def A6:VTB:=λ ds Q _=>Q [] [] ds
theorem Ad:VAs c X [] A6:=⟨PA.mono qC7 λ σ H Q ⟨F,a,A,b,S,x,q⟩=>q [] H F [] A .nil .nil S S.ok Stp.refl,λ a Q Q' b d e _=>e _ _ _⟩
def tbV(ta:VT)(tr:VTB):VTB:=λ ds Q xe=>ta ds (λ x ds1=>tr ds1 (λ xs ps a=>Q (x::xs) (.no::ps) a) xe) xe
theorem vaV(f:VE c X e ta)(g:VAs c X es tr)(w:starEach (e::es) X.env=(false,eval e X.env)::starEach es X.env:=by rfl):VAs c X (e::es) (tbV ta tr):=by
 refine⟨PA.mono (qh2 f.h g.h w) λ σ H Q i=>?_,λ o Q Q' j y B p=>f.m _ _ _ _ _ (λ d a=>g.m _ _ _ _ _ (λ C D k=>B _ _ _) p) p⟩;obtain⟨F,o,A,j,S,x,q⟩:=i;refine⟨F,o,A,j,S,x,f.m _ _ _ _ _ (λ E a q v H1 F1 T A1 r S1 s t=>?_) (λ _ _ z=>z) q⟩;have l:Stp F H A F1 H1 A1:=t.count λ b=>by rw[zA0];lia
 refine⟨F1,a,A1,j,S1,x.step l,g.m _ _ _ _ _ (λ C D k q G H2 F2 T2 A2 I J S2 K u=>?_) (λ _ _ z=>z) q⟩;have n:Rep F2 H2 v E T:=r.keep (u.kp S1.ok S1.loc.cells) λ b L O=>by
   have:=s.sep b
   rw[zA0] at this
   have:=qa9.mp L
   lia
 obtain⟨M,N⟩:=u.frame s r.cells K;exact q (v::G) H2 F2 (T++T2) A2 (.cons n I) (.no J) S2 (by rw[zAm];exact M) (by rw[zAm];exact t.trans N)
def tbB(pf:PF)(tr:VTB):VTB:=λ ds Q xe=>orF (pf ds) λ q=>orF (A4 ds q.1 q.2) λ d=>d.known=true/\∀ w,tr (Bc ds q.1 q.2 (.hole w)) (λ xs ps a=>Q (d::xs) (.pl q.1 q.2 w::ps) a) xe
theorem vaB(I:VP c X e pf)(a:VAs c X es tr)(J:starEach (e::es) X.env=(false,eval e X.env)::starEach es X.env:=by rfl):VAs c X (e::es) (tbB pf tr):=by
 refine⟨PA.mono (qh2 I.h a.h J) λ σ H Q g=>?_,λ j Q Q' v K L M=>qa4 λ z=>qa4 λ d=>And.imp_right λ h w=>a.m _ _ _ _ _ (λ N O k=>L _ _ _) M (h w)⟩;obtain⟨F,j,A,v,S,x,q⟩:=g;obtain⟨⟨i,p⟩,P,q⟩:=qa6.mp q;obtain⟨d,e2,y,q⟩:=qa6.mp q;refine⟨F,j,A,i,p,d,S,P,e2,qB0 y,λ u w H1 R T s=>?_⟩;obtain⟨B,C,r,D,U⟩:=(S.same s).place e2 (qB0 y) R T;obtain⟨A1,V,q2⟩:=U (.hole w) [] (Kp.same (F:=F) λ _ _ z=>z) (λ _ _ z=>z) (.hole w);have l:Ok F H1 (B++A1):=(S.same s).ok.count λ b=>by rw[zA0,q2,D];simp
 have E:Stp F H A F H1 (B++A1):=⟨λ b o e _=>s b o e,λ b o e z=>by rw[zA0,q2];have:=D b;simp;lia,λ _ f=>f,λ _ _ _ _ f=>f⟩
 have S1:Sta c F H1 σ (Bc j i p (.hole w)) A1:=⟨V,l.right,S.len,S.ag⟩
 have n:Stp F H A F H1 A1:=E.count λ b=>by rw[zA0];lia
 refine⟨F,_,A1,v,S1,x.step n,a.m _ _ _ _ _ (λ N O k q W H2 F2 T2 A2 Y Z S2 o2 G=>?_) (λ _ _ z=>z) (q w)⟩;have t:Rep F2 H2 w d B:=r.keep (G.kp S1.ok S1.loc.cells) λ b hb hc=>by
   have:=l.sep b
   rw[zA0] at this
   have:=qa9.mp hb
   lia
 obtain⟨o3,s3⟩:=G.frame l r.cells o2;exact q (w::W) H2 F2 (B++T2) A2 (.cons t Y) (.so Z) S2 (by rw[zAm];exact o3) (by rw[zAm];exact E.trans s3)
def tbN(i:Nat)(tr:VTB):VTB:=λ ds Q xe=>(rdN i ds).isSome=true/\tr ds (λ xs ps ds1=>orF (rdN i ds1) λ d=>Q (d::xs) (.sl i::ps) (ds1.set i .unk)) xe
theorem vaN(i:Nat){x:Str}{p:Pos}(e:VAs c X es tr)(E:starEach (.Name x p::es) X.env=(false,eval (.Name x p) X.env)::starEach es X.env:=by rfl)(t:X.N[i]? = some x:=by rfl)(G:Vis X.env.scope x:=by first | exact Or.inl rfl | exact Or.inr (Or.inl rfl) | exact Or.inr (Or.inr rfl))(J:(x == ("__debug__" : Str))=false:=by decide)(f:(x == ("__classdict__" : Str))=false:=by decide) :
   VAs c X (.Name x p::es) (tbN i tr):=by
 refine⟨λ pos De s σ H Q I g=>?_,λ u Q Q' w K L M=>And.imp_right (e.m _ _ _ _ _ (λ O P j=>qa4 λ d=>L _ _ _) M)⟩;obtain⟨F,u,A,w,S,x,k,q⟩:=g;refine qh2 (qr4 t G J f) e.h E pos De s σ H Q I ?_;have y:=qs0 t De σ H s I;obtain⟨d0,R⟩:=zAz.mp k;obtain⟨v,B0,a,_,_⟩:=S.name y R;refine⟨v,a,F,u,A,w,S,x,e.m _ _ _ _ _ (λ O P j q T H2 F2 T2 A2 U V S2 D W=>?_) (λ _ _ z=>z) q⟩;obtain⟨d,l,q⟩:=qa6.mp q;obtain⟨l,Y⟩:=qo0.mp l;obtain⟨v',B,C,n,Z,h3,h4⟩:=S2.put1 l (qB0 Y);have o:=n;rw[zAu y,a] at n;cases n;obtain⟨A3,q1,q2⟩:=h4 .unk [] (Kp.same (F:=F2) λ _ _ z=>z) (λ _ _ z=>z) (.unk v);have r:∀ b,((B++T2)++A3).count b<=(T2++A2).count b:=λ b=>by simp only[zA0,q2,h3];simp;lia
 exact q (v::T) H2 F2 (B++T2) A3 (.cons Z U) (.sl o V) ⟨q1,(D.count r).right,S.len,S.ag⟩ (D.count r) (W.count r)
def Am:List Pl->Ds->Ds->Option Ds
 | [],_,ds=>some ds
 | .no::ps,_::ys,ds=>Am ps ys ds
 | .sl i::ps,y::ys,ds=>Am ps ys (ds.set i y)
 | .pl i p v::ps,y::ys,ds=>match A4 ds i p with
   | some (.hole w)=>if w=v then Am ps ys (Bc ds i p y) else none
   | _=>none
 | _::_,[],_=>none
theorem qF7{τ:List (Option V)}{ds:Ds}{C B:List Addr}{y:D}(L:Locs F H τ ds C)(hi:τ[i]? = some (some v))(r:Rep F H v y B):∃ A':List Addr,Locs F H τ (ds.set i y) A'/\∀ b,A'.count b<=B.count b+C.count b:=by
 have s:=L.len;have g:i < τ.length:=(zA2.mp hi).1;obtain⟨d,h⟩:∃ d,ds[i]? = some d:=⟨_,zB9 (by lia)⟩
 obtain⟨σ1,o,σ2,a,c,A1,B0,A2,e,e2,j,k,m,n,t,p⟩:=L.split h;have f:τ[i]? = some o:=by rw[e];exact qE6 j
 rw[hi] at f;cases f;have q:ds.set i y=a++y::c:=by
   have:=congrArg (λ l=>l.set i y) e2
   rw[this,qr3 k]
 exact⟨A1++(B++A2),by rw[e,q];exact n.append (.so r p),λ b=>by rw[m];simp only[zA0];lia⟩
theorem qw3{pls:List Pl}{ys ds a:Ds}{σ:List (Option V)}{B C:List Addr}{more:List V}(e:Fb σ vs pls)(r:Reps F H (vs++more) ys B)(L:Locs F H σ ds C)(h:Am pls ys ds=some a):∃ A':List Addr,Locs F H σ a A'/\∀ b,A'.count b<=B.count b+C.count b:=by
 induction e generalizing ys ds B C with
 | nil =>
   have h:some ds=some a:=by cases ys<;>exact h
   cases h;exact⟨C,L,λ b=>by lia⟩
 | no e c =>
   cases r with
   | @cons _ _ A1 _ _ B1 r1 t =>
     obtain⟨A',d,q2⟩:=c t L h;exact⟨A',d,λ b=>by rw[zA0];have:=q2 b;lia⟩
 | sl k e c =>
   cases r with
   | @cons _ _ A1 _ _ B1 r1 t =>
     obtain⟨A2,d,q2⟩:=qF7 L k r1;obtain⟨A',f,g⟩:=c t d h;exact⟨A',f,λ b=>by rw[zA0];have:=g b;have:=q2 b;lia⟩
 | @so v _ _ i p e c =>
   cases r with
   | @cons _ y A1 _ _ B1 r1 t =>
     unfold Am at h;split at h
     . rename_i w hg
       by_cases j:w=v
       . rw[if_pos j] at h
         subst j;obtain⟨u,o,B2,C2,q,s,l,m,n⟩:=L.place hg (by intro z;cases z);cases l;obtain⟨A2,d,q2⟩:=n y A1 (Kp.same (F:=F) λ _ _ z=>z) (λ _ _ z=>z) r1;obtain⟨A',f,g⟩:=c t d h;refine⟨A',f,λ b=>?_⟩
         have:=g b
         have:=q2 b
         have:=m b
         simp only[List.count_nil,zA0] at *
         lia
       rw[if_neg j] at h;cases h
     cases h
abbrev VSp:=Ds->DK->XKd->Prop
inductive LiftF(s:VSp)(vs:List V)(H:Hp)(Q:VK)(E:XK):Prop
 | mk (F:Addr->Prop) (ds:Ds) (A:List Addr) (r:Reps F H vs ds A) (o:Ok F H A) (q:s ds (λ d ys=>∀ v H' F' T A',Rep F' H' v d T->Reps F' H' vs ys A'->Ok F' H' (T++A')->Stp F H A F' H' (T++A')->Q v H')
   (λ x ys=>∀ e H' F' A',RepX F' H' e x->Reps F' H' vs ys A'->Ok F' H' A'->Stp F H A F' H' A'->E (.ref e) none H')):LiftF s vs H Q E
def Ff(s:VSp):Sp:=LiftF s
def Bj(s:VSp):Prop:=∀ ds (Q Q':DK) (xe xe':XKd),(∀ d a,Q d a->Q' d a)->(∀ x a,xe x a->xe' x a)->s ds Q xe->s ds Q' xe'
def qn1(s:VSp)(dv:Ds)(tr:VTB):VT:=λ ds Q xe=>tr ds (λ xs ps ds1=>s (xs++dv) (λ d ys=>orF (Am ps ys ds1) λ a=>Q d a) (λ x ys=>orF (Am ps ys ds1) λ a=>xe x a)) xe
theorem qaq4{s:VSp}{dv:Ds}(f:Bj s)(g:VAs c X es tr):∀ ds (Q Q':DK) (xe b:XKd),(∀ d a,Q d a->Q' d a)->(∀ x a,xe x a->b x a)->qn1 s dv tr ds Q xe->qn1 s dv tr ds Q' b :=
 λ ds Q Q' xe b h e=>g.m _ _ _ _ _ (λ k l i=>f _ _ _ _ _ (λ d j=>qa4 λ z=>h _ _) (λ x j=>qa4 λ z=>e _ _)) e
def Gm(dvs:List V)(dv:Ds):Prop:=∀ F H,Reps F H dvs dv []
theorem qm3:Gm [] []:=λ _ _=>.nil
theorem qap9:Gm [.non] [.non]:=λ _ _=>.cons (A:=[]) (B:=[]) .non .nil
theorem qaN2{s:VSp}{dvs:List V}{dv:Ds}(G:Gm dvs dv)(I:Bj s)(J:VAs c X es tr):∀ σ H Q,Bh c (qn1 s dv tr) σ H Q->Ht (Ff s) dvs c.E (Ex c tr) σ H Q:=by
 rintro σ H Q ⟨F,K,A,L,S,x,q⟩;refine⟨F,K,A,L,S,x,J.m _ _ _ _ _ (λ B U h q M H1 F1 T A1 N C S1 a D=>?_) (λ _ _ z=>z) q⟩;have rall:Reps F1 H1 (M++dvs) (B++dv) (T++[]):=N.append (G F1 H1);rw[zAg] at rall;refine⟨F1,B++dv,T,rall,a.left,I _ _ _ _ _ (λ d O q v H2 F2 T2 A2 P l n i=>?_) (λ y O q e H2 F2 A2 R l n i=>?_) q⟩
 . obtain⟨j,o,q⟩:=qa6.mp q
   have f:Ok F1 H1 (A1++T):=a.count λ b=>by simp only[zA0];lia
   obtain⟨p,r⟩:=i.frame f S1.loc.cells n;have L1:Locs F2 H2 (σ++c.gv) h A1:=S1.loc.keep (i.kp a.left rall.cells) λ b t g=>by
     have:=a.sep b
     rw[zA0] at this
     have:=qa9.mp t
     lia
   obtain⟨A3,u,q2⟩:=qw3 C l L1 o;have g:∀ b,(T2++A3).count b<=(A1++(T2++A2)).count b:=λ b=>by simp only[zA0];have:=q2 b;lia
   have k:Ok F2 H2 (T2++A3):=p.count g;have w:Stp F H A F2 H2 (T2++A3):=(D.trans (r.pre λ b=>by simp only[zA0];lia)).count g;exact q v H2 F2 T2 A3 P ⟨u,k.right,S.len,S.ag⟩ k w
 obtain⟨j,o,q⟩:=qa6.mp q;have f:Ok F1 H1 (A1++T):=a.count λ b=>by simp only[zA0];lia
 obtain⟨p,r⟩:=i.frame f S1.loc.cells n;have L1:Locs F2 H2 (σ++c.gv) h A1:=S1.loc.keep (i.kp a.left rall.cells) λ b t g=>by
   have:=a.sep b
   rw[zA0] at this
   have:=qa9.mp t
   lia
 obtain⟨A3,u,q2⟩:=qw3 C l L1 o;have g:∀ b,A3.count b<=(A1++A2).count b:=λ b=>by simp only[zA0];have:=q2 b;lia
 have k:Ok F2 H2 A3:=p.count g;have w:Stp F H A F2 H2 A3:=(D.trans (r.pre λ b=>by simp only[zA0];lia)).count g;exact x y j σ e H2 F2 A3 q R ⟨u,k,S.len,S.ag⟩ w
end
structure VFn(P:Program)(w:World)(K:PySem.W.Frag)(mg:Str->Option Value)(base:Heap)(k:Nat)(f:Addr)(fd:FuncData)(ps:List Str)(s:VSp):Prop where
 ok:Bz P w K mg base (CX1 P w) k f fd ps (Ff s)
 m:Bj s
section
variable{c:Vc}{X:Cx}{a e o:Expr}{es:List Expr}{tr:VTB}{pf:PF}{F F1:Addr->Prop}{H H1:Hp}{σ:St}{ds ds1:Ds}{A A1 T:List Addr}{pos p apos:Pos}{x qual m:Str}{st:Stmt}{f C:Addr}{fd:FuncData}{ps:List Str}{k:Nat}{s:VSp}{dvs:List V}{dv:Ds}
theorem Aj(D:Df X.K X.mg x qual st f fd ps)(G:VFn X.prog X.w X.K X.mg X.base k f fd ps s)(i:Lands X c.E)(j:Room k X.A)(a:VAs c X (e::es) tr)(l:Gl X x:=by rfl)(d:(x == ("__debug__" : Str))=false:=by decide)(n:starEach (e::es) X.env=(false,eval e X.env)::starEach es X.env:=by rfl)(g:(backTo pos (starEach es X.env)).any (·.1)=false:=by rfl):VE c X (.Call (.Name x p) (e::es) [] pos) (qn1 s [] tr) :=
 ⟨PE.mono (qas8 G.ok j l D.m D.F.kp D.b .nil i.passes a.h d n g) (qaN2 qm3 G.m a),qaq4 G.m a⟩
theorem qaj5{xs:Ds}{pls:List Pl}{xe:XKd}{K:DK}(B:Gm dvs dv)(C:Bj s)(S:Sta c F H σ ds A)(x:Xc c xe F H A)(r1:Reps F1 H1 vs xs T)(w:Fb (σ++c.gv) vs pls)(S1:Sta c F1 H1 σ ds1 A1)(f:Ok F1 H1 (T++A1))(z:Stp F H A F1 H1 (T++A1))(D:∀ d i,K d i->∀ v H' F' T A',Rep F' H' v d T->Sta c F' H' σ i A'->Ok F' H' (T++A')->Stp F H A F' H' (T++A')->Q v H')(q:s (xs++dv) (λ d ys=>orF (Am pls ys ds1) λ a=>K d a) (λ x ys=>orF (Am pls ys ds1) λ a=>xe x a)):Ff s (vs++dvs) H1 Q c.E:=by
 have rall:Reps F1 H1 (vs++dvs) (xs++dv) (T++[]):=r1.append (B F1 H1);rw[zAg] at rall;refine⟨F1,xs++dv,T,rall,f.left,C _ _ _ _ _ (λ d ys q v H2 F2 T2 A2 G l m j=>?_) (λ y ys q e H2 F2 A2 I l m j=>?_) q⟩
 . obtain⟨a,n,q⟩:=qa6.mp q
   have g:Ok F1 H1 (A1++T):=f.count λ b=>by simp only[zA0];lia
   obtain⟨o,p⟩:=j.frame g S1.loc.cells m;have L1:Locs F2 H2 (σ++c.gv) ds1 A1:=S1.loc.keep (j.kp f.left rall.cells) λ b r h=>by
     have:=f.sep b
     rw[zA0] at this
     have:=qa9.mp r
     lia
   obtain⟨A3,t,q2⟩:=qw3 w l L1 n;have h:∀ b,(T2++A3).count b<=(A1++(T2++A2)).count b:=λ b=>by simp only[zA0];have:=q2 b;lia
   have k:Ok F2 H2 (T2++A3):=o.count h;have u:Stp F H A F2 H2 (T2++A3):=(z.trans (p.pre λ b=>by simp only[zA0];lia)).count h;exact D d a q v H2 F2 T2 A3 G ⟨t,k.right,S.len,S.ag⟩ k u
 obtain⟨a,n,q⟩:=qa6.mp q;have g:Ok F1 H1 (A1++T):=f.count λ b=>by simp only[zA0];lia
 obtain⟨o,p⟩:=j.frame g S1.loc.cells m;have L1:Locs F2 H2 (σ++c.gv) ds1 A1:=S1.loc.keep (j.kp f.left rall.cells) λ b r h=>by
   have:=f.sep b
   rw[zA0] at this
   have:=qa9.mp r
   lia
 obtain⟨A3,t,q2⟩:=qw3 w l L1 n;have h:∀ b,A3.count b<=(A1++A2).count b:=λ b=>by simp only[zA0];have:=q2 b;lia
 have k:Ok F2 H2 A3:=o.count h;have u:Stp F H A F2 H2 A3:=(z.trans (p.pre λ b=>by simp only[zA0];lia)).count h;exact x y a σ e H2 F2 A3 q I ⟨t,k,S.len,S.ag⟩ u
def D.isM(C:Addr)(m:Str):D->Bool
 | .ins _ C' fs=>decide (C'=C)&&(fs.lookup m).isNone
 | _=>false
theorem qE4{α β:Type}:∀{fs:List (Str×α)}{a:List (Str×β)}{f:Str},fs.map (·.1)=a.map (·.1)->(fs.lookup f).isNone=(a.lookup f).isNone
 | [],[],_,_=>rfl
 | [],_::_,_,h=>by simp at h
 | _::_,[],_,h=>by simp at h
 | (k,_)::r,(k',_)::r',f,h=>by
   have b:k=k':=by simp at h;exact h.1
   have c:r.map (·.1)=r'.map (·.1):=by simp at h;simpa using h.2
   subst b;rw[zAt,zAt];cases f == k with
   | true=>rfl
   | false=>exact qE4 c
theorem Rep.isM{d:D}{B:List Addr}(r:Rep F H v d B)(h:d.isM C m=true):∃ a dx fs,v=.ref a/\H a=some (.ins C dx fs)/\fs.lookup m=none:=by
 cases d with
 | ins z C' f =>
   have h:=zAc.mp h;obtain⟨a,dx,b,A,rfl,g,e,i,_⟩:=r.ins_inv
   have:=zA8 h.1
   subst this;refine⟨a,dx,b,rfl,g,?_⟩;have c:=h.2;rw[<- qE4 e] at c;exact Option.isNone_iff_eq_none.mp c
 | _=>cases h
def qN7(C:Addr)(m:Str)(s:VSp)(dv:Ds)(pf:PF)(tr:VTB):VT:=λ ds Q xe=>orF (pf ds) λ q=>orF (A4 ds q.1 q.2) λ d=>d.isM C m=true/\∀ w,tr (Bc ds q.1 q.2 (.hole w)) (λ xs ps ds1=>s (d::(xs++dv)) (λ r ys=>orF (Am (Pl.pl q.1 q.2 w::ps) ys ds1) λ a=>Q r a) (λ x ys=>orF (Am (Pl.pl q.1 q.2 w::ps) ys ds1) λ a=>xe x a)) xe
theorem qT5(f:Bj s)(g:VAs c X es tr):∀ ds (Q Q':DK) (xe b:XKd),(∀ d a,Q d a->Q' d a)->(∀ x a,xe x a->b x a)->qN7 C m s dv pf tr ds Q xe->qN7 C m s dv pf tr ds Q' b :=
 λ ds Q Q' xe b i e=>qa4 λ z=>qa4 λ d=>And.imp_right λ h w=>g.m _ _ _ _ _ (λ l n j=>f _ _ _ _ _ (λ d k=>qa4 λ z=>i _ _) (λ x k=>qa4 λ z=>e _ _)) e (h w)
theorem qat0(M:Gm dvs dv)(N:Bj s)(O:VAs c X es tr):∀ σ H Q,Bh c (qN7 C m s dv pf tr) σ H Q->Gz C m (Ff s) dvs c.E (F9 c pf) (Ex c tr) σ H Q:=by
 rintro σ H Q ⟨F,y,A,P,S,x,q⟩;obtain⟨⟨i,p⟩,R,q⟩:=qa6.mp q;obtain⟨d,e2,D,q⟩:=qa6.mp q;have g:d≠.unk:=λ z=>by subst z;cases D
 refine⟨F,y,A,i,p,d,S,R,e2,g,λ u w H1 T U j=>?_⟩;obtain⟨B,C0,r,G,V⟩:=(S.same j).place e2 g T U;obtain⟨a,W,Y,rfl,k,l⟩:=r.isM D;refine⟨a,W,Y,rfl,k,l,?_⟩;obtain⟨A1,Z,q2⟩:=V (.hole (.ref a)) [] (Kp.same (F:=F) λ _ _ z=>z) (λ _ _ z=>z) (.hole _);have n:Ok F H1 (B++A1):=(S.same j).ok.count λ b=>by rw[zA0,q2,G];simp
 have I:Stp F H A F H1 (B++A1):=⟨λ b o e _=>j b o e,λ b o e z=>by rw[zA0,q2];have:=G b;simp;lia,λ _ f=>f,λ _ _ _ _ f=>f⟩
 have S1:Sta c F H1 σ (Bc y i p (.hole (.ref a))) A1:=⟨Z,n.right,S.len,S.ag⟩
 have t:Stp F H A F H1 A1:=I.count λ b=>by rw[zA0];lia
 refine⟨F,_,A1,P,S1,x.step t,O.m _ _ _ _ _ (λ J ps a0 q K H2 F2 T2 A2 r2 pk S2 o2 L=>?_) (λ _ _ z=>z) (q (.ref a))⟩;have v:Rep F2 H2 (.ref a) d B:=r.keep (L.kp S1.ok S1.loc.cells) λ b hb hc=>by
   have:=n.sep b
   rw[zA0] at this
   have:=qa9.mp hb
   lia
 obtain⟨o3,s3⟩:=L.frame n r.cells o2;exact qaj5 (vs:=.ref a::K) (xs:=d::J) M N S x (.cons v r2) (.so pk) S2 (by rw[zAm];exact o3) (by rw[zAm];exact I.trans s3) (λ d a1 h=>h) q
def qw4(C:Addr)(m:Str)(s:VSp)(dv:Ds)(i:Nat)(tr:VTB):VT:=λ ds Q xe=>(orF (rdN i ds) λ d=>d.isM C m=true)/\tr ds (λ xs ps ds1=>orF (rdN i ds1) λ d=>s (d::(xs++dv)) (λ r ys=>orF (Am (.sl i::ps) ys (ds1.set i .unk)) λ a=>Q r a) (λ x ys=>orF (Am (.sl i::ps) ys (ds1.set i .unk)) λ a=>xe x a)) xe
theorem qK6(f:Bj s)(g:VAs c X es tr):∀ ds (Q Q':DK) (xe b:XKd),(∀ d a,Q d a->Q' d a)->(∀ x a,xe x a->b x a)->qw4 C m s dv i tr ds Q xe->qw4 C m s dv i tr ds Q' b :=
 λ ds Q Q' xe b h e=>And.imp_right (g.m _ _ _ _ _ (λ l n j=>qa4 λ d=>f _ _ _ _ _ (λ d k=>qa4 λ z=>h _ _) (λ x k=>qa4 λ z=>e _ _)) e)
theorem qaf4{σ:St}{H:Hp}(w:Gm dvs dv)(y:Bj s)(D:VAs c X es tr)(hi:i < σ.length)(q:Bh c (qw4 C m s dv i tr) σ H Q):Gz C m (Ff s) dvs c.E (E8 i) (Ex c tr) σ H Q:=by
 obtain⟨F,G,A,I,S,x,f,q⟩:=q;obtain⟨Z,J,f⟩:=qa6.mp f;obtain⟨v,B0,e,K,_⟩:=S.name hi J;obtain⟨a,L,M,rfl,g,j⟩:=K.isM f;refine⟨.ref a,e,a,L,M,rfl,g,j,F,G,A,I,S,x,D.m _ _ _ _ _ (λ r ps N q t H2 F2 T2 A2 O P S2 u R=>?_) (λ _ _ z=>z) q⟩;obtain⟨d,k,q⟩:=qa6.mp q;obtain⟨k,l⟩:=qo0.mp k;obtain⟨v',B,C0,n,T,U,V⟩:=S2.put1 k (qB0 l);have o:=n;rw[zAu hi,e] at n;cases n;obtain⟨A3,W,q2⟩:=V .unk [] (Kp.same (F:=F2) λ _ _ z=>z) (λ _ _ z=>z) (.unk _);have p:∀ b,((B++T2)++A3).count b<=(T2++A2).count b:=λ b=>by simp only[zA0,q2,U];simp;lia
 exact qaj5 (vs:=.ref a::t) (xs:=d::r) w y S x (.cons T O) (.sl o P) ⟨W,(u.count p).right,S.len,S.ag⟩ (u.count p) (R.count p) (λ d Y h=>h) q
theorem qi3(i:Nat){xn:Str}{p0:Pos}(D:Md X.K C m qual st f fd ps)(n:Cls X.K C)(G:VFn X.prog X.w X.K X.mg X.base k f fd ps s)(o:Lands X c.E)(p:Room k X.A)(a:VAs c X (e::es) tr)(l:X.N[i]? = some xn:=by rfl)(r:Vis X.env.scope xn:=by first | exact Or.inl rfl | exact Or.inr (Or.inl rfl) | exact Or.inr (Or.inr rfl))(t:(xn == ("__debug__" : Str))=false:=by decide)(d:(xn == ("__classdict__" : Str))=false:=by decide)(g:starEach (e::es) X.env=(false,eval e X.env)::starEach es X.env:=by rfl)(j:(backTo pos (starEach es X.env)).any (·.1)=false:=by rfl)(u:eval (.Call (.Attribute (.Name xn p0) m apos) (e::es) [] pos) X.env=(do
     let ov <- eval (.Name xn p0) X.env
     standAt apos.atName
     let (f,first) <- holding [ov] (getMethod ov m pl)
     callWith pos f first (backTo pos (starEach (e::es) X.env)) (backToKw pos (keywordEach [] X.env))):=by rfl):VE c X (.Call (.Attribute (.Name xn p0) m apos) (e::es) [] pos) (qw4 C m s [] i tr) :=
 ⟨λ De s σ H Q I q=>qas6 (qr4 l r t d) n D.me G.ok p D.b .nil o.passes a.h g j u De s σ H Q I (qaf4 qm3 G.m a (qs0 l De σ H s I) q),qK6 G.m a⟩
theorem qm1(i:Nat){xn:Str}{p0:Pos}(D:Md X.K C m qual st f fd ps)(j:Cls X.K C)(G:VFn X.prog X.w X.K X.mg X.base k f fd ps s)(l:Lands X c.E)(n:Room k X.A)(g:X.N[i]? = some xn:=by rfl)(d:Vis X.env.scope xn:=by first | exact Or.inl rfl | exact Or.inr (Or.inl rfl) | exact Or.inr (Or.inr rfl))(o:(xn == ("__debug__" : Str))=false:=by decide)(e:(xn == ("__classdict__" : Str))=false:=by decide)(p:eval (.Call (.Attribute (.Name xn p0) m apos) [] [] pos) X.env=(do
     let ov <- eval (.Name xn p0) X.env
     standAt apos.atName
     let (f,first) <- holding [ov] (getMethod ov m pl)
     callWith pos f first (backTo pos (starEach [] X.env)) (backToKw pos (keywordEach [] X.env))):=by rfl):VE c X (.Call (.Attribute (.Name xn p0) m apos) [] [] pos) (qw4 C m s [] i A6) :=
 ⟨λ De h σ H Q I q=>qP7 (qr4 g d o e) j D.me G.ok n D.b .nil l.passes p De h σ H Q I (by
   obtain⟨v,d,a,r,t,u,x,y,F2,z,A2,B,S2,F,q2⟩:=qaf4 (c:=c) (X:=X) qm3 G.m Ad (qs0 g De σ H h I) q;exact⟨v,d,a,r,t,u,x,y,q2 [] H F2 [] A2 .nil .nil S2 S2.ok Stp.refl⟩),qK6 (c:=c) G.m (X:=X) Ad⟩
theorem Ij(D:Md X.K C m qual st f fd ps)(i:Cls X.K C)(G:VFn X.prog X.w X.K X.mg X.base k f fd ps s)(j:Lands X c.E)(l:Room k X.A)(n:VP c X o pf)(a:VAs c X (e::es) tr)(d:starEach (e::es) X.env=(false,eval e X.env)::starEach es X.env:=by rfl)(g:(backTo pos (starEach es X.env)).any (·.1)=false:=by rfl)(p:eval (.Call (.Attribute o m apos) (e::es) [] pos) X.env=(do
     let ov <- eval o X.env
     standAt apos.atName
     let (f,first) <- holding [ov] (getMethod ov m pl)
     callWith pos f first (backTo pos (starEach (e::es) X.env)) (backToKw pos (keywordEach [] X.env))):=by rfl):VE c X (.Call (.Attribute o m apos) (e::es) [] pos) (qN7 C m s [] pf tr) :=
 ⟨PE.mono (qas6 n.h i D.me G.ok l D.b .nil j.passes a.h d g p) (qat0 qm3 G.m a),qT5 G.m a⟩
theorem qM0(D:Md X.K C m qual st f fd ps)(g:Cls X.K C)(G:VFn X.prog X.w X.K X.mg X.base k f fd ps s)(j:Lands X c.E)(l:Room k X.A)(n:VP c X o pf)(r:eval (.Call (.Attribute o m apos) [] [] pos) X.env=(do
     let ov <- eval o X.env
     standAt apos.atName
     let (f,first) <- holding [ov] (getMethod ov m pl)
     callWith pos f first (backTo pos (starEach [] X.env)) (backToKw pos (keywordEach [] X.env))):=by rfl):VE c X (.Call (.Attribute o m apos) [] [] pos) (qN7 C m s [] pf A6) :=
 ⟨PE.mono (qP7 n.h g D.me G.ok l D.b .nil j.passes r) λ σ H Q q=>by
   obtain⟨F,t,A,i,p,d,S,v,e2,e,q⟩:=qat0 (c:=c) (X:=X) qm3 G.m Ad σ H Q q;refine⟨F,t,A,i,p,d,S,v,e2,e,λ u w H1 x y z=>?_⟩;obtain⟨a,B,I,J,L,M,F2,N,A2,O,S2,P,q2⟩:=q u w H1 x y z;exact⟨a,B,I,J,L,M,q2 [] H1 F2 [] A2 .nil .nil S2 S2.ok Stp.refl⟩,qT5 (c:=c) G.m (X:=X) Ad⟩
def qN8(C:Addr)(s:VSp)(dv:Ds)(tr:VTB):VT:=λ ds Q xe=>tr ds (λ xs ps ds1=>s (.ins false C []::(xs++dv)) (λ d ys=>d.isN=some true/\orF ys.head? λ self=>orF (Am ps ys.tail ds1) λ a=>Q self a) (λ x ys=>orF (Am ps ys.tail ds1) λ a=>xe x a)) xe
theorem qH3(f:Bj s)(g:VAs c X es tr):∀ ds (Q Q':DK) (xe b:XKd),(∀ d a,Q d a->Q' d a)->(∀ x a,xe x a->b x a)->qN8 C s dv tr ds Q xe->qN8 C s dv tr ds Q' b :=
 λ ds Q Q' xe b h e=>g.m _ _ _ _ _ (λ k l i=>f _ _ _ _ _ (λ d j=>And.imp_right (qa4 λ z=>qa4 λ w=>h _ _)) (λ x j=>qa4 λ z=>e _ _)) e
theorem qaf8(O:Gm dvs dv)(P:Bj s)(R:VAs c X es tr):∀ σ H Q,Bh c (qN8 C s dv tr) σ H Q->tMake C (Ff s) dvs c.E (Ex c tr) σ H Q:=by
 rintro σ H Q ⟨F,U,A,V,S,x,q⟩;refine⟨F,U,A,V,S,x,R.m _ _ _ _ _ (λ W ps i q Y H1 F1 T A1 L M S1 Z s1=>?_) (λ _ _ z=>z) q⟩;intro y a o p r;have same:Same H1 (upd (upd H1 a (.own y)) y (.ins C a [])):=(Same.new p).trans (Same.new (by rw[qd0 (Ne.symm r)];exact o));have rall:Reps F1 (upd (upd H1 a (.own y)) y (.ins C a [])) (.ref y::(Y++dvs)) (.ins false C []::(W++dv)) ([y]++(T++[])) :=
   .cons (.ins qb9 rfl .nil) ((L.append (O F1 H1)).same same)
 rw[zAg] at rall;have j:Ok F1 (upd (upd H1 a (.own y)) y (.ins C a [])) ([y]++(T++A1)):=(qg4 o).ok Z (λ b f=>by
   rcases zAa.mp f with f | f
   . exact L.cells b f
   exact S1.loc.cells b f) same
 have t:Ok F1 (upd (upd H1 a (.own y)) y (.ins C a [])) ([y]++T):=j.count λ b=>by simp only[zA0];lia
 have N:Stp F H A F1 (upd (upd H1 a (.own y)) y (.ins C a [])) ([y]++(T++A1)):=s1.trans ((qg4 o).stp same);have S1':=S1.same same;refine⟨F1,_,[y]++T,rall,t,P _ _ _ _ _ (λ d ys q v H2 F2 T2 A2 r2 u w k=>?_) (λ ex ys q e H2 F2 A2 rx u w k=>?_) q⟩
 . obtain⟨hn,q⟩:=q
   have hv:v=.non:=by
     cases d with
     | non=>cases r2;rfl
     | _=>cases hn
   refine⟨hv,?_⟩;obtain⟨self,eh,q⟩:=qa6.mp q;obtain⟨l,B,D⟩:=qa6.mp q;have h:Ok F1 _ (A1++([y]++T)):=j.count λ b=>by simp only[zA0];lia
   obtain⟨G,I⟩:=k.frame h S1'.loc.cells w;have L1:Locs F2 H2 (σ++c.gv) i A1:=S1'.loc.keep (k.kp t rall.cells) λ b f g=>by
     have:=j.sep b
     simp only[zA0] at this g
     have:=qa9.mp f
     lia
   cases u with
   | @cons _ d0 Aself _ ys' B' rself rrest =>
     cases eh;obtain⟨A3,J,q2⟩:=qw3 M rrest L1 B;have g:∀ b,(Aself++A3).count b<=(A1++(T2++(Aself++B'))).count b:=λ b=>by simp only[zA0];have:=q2 b;lia
     have n:=G.count g;have K:Stp F H A F2 H2 (Aself++A3):=(N.trans (I.pre λ b=>by simp only[zA0];lia)).count g;exact D (.ref y) H2 F2 Aself A3 rself ⟨J,n.right,S.len,S.ag⟩ n K
 obtain⟨l,B,D⟩:=qa6.mp q;have h:Ok F1 _ (A1++([y]++T)):=j.count λ b=>by simp only[zA0];lia
 obtain⟨G,I⟩:=k.frame h S1'.loc.cells w;have L1:Locs F2 H2 (σ++c.gv) i A1:=S1'.loc.keep (k.kp t rall.cells) λ b f g=>by
   have:=j.sep b
   simp only[zA0] at this g
   have:=qa9.mp f
   lia
 cases u with
 | @cons _ d0 Aself _ ys' B' rself rrest =>
   obtain⟨A3,J,q2⟩:=qw3 M rrest L1 B;have g:∀ b,A3.count b<=(A1++(Aself++B')).count b:=λ b=>by simp only[zA0];have:=q2 b;lia
   have n:=G.count g;have K:Stp F H A F2 H2 A3:=(N.trans (I.pre λ b=>by simp only[zA0];lia)).count g;exact x ex l σ e H2 F2 A3 D rx ⟨J,n,S.len,S.ag⟩ K
theorem G6(i:Cl X.K X.mg x C)(M:Mk X.K C f)(D:Md X.K C m qual st f fd ps)(G:VFn X.prog X.w X.K X.mg X.base k f fd ps s)(j:Lands X c.E)(l:Room (k+1) X.A)(a:VAs c X (e::es) tr)(n:Gl X x:=by rfl)(d:(x == ("__debug__" : Str))=false:=by decide)(o:starEach (e::es) X.env=(false,eval e X.env)::starEach es X.env:=by rfl)(g:(backTo pos (starEach es X.env)).any (·.1)=false:=by rfl):VE c X (.Call (.Name x p) (e::es) [] pos) (qN8 C s [] tr) :=
 ⟨PE.mono (qae1 M G.ok l n i.m D.b .nil j.passes a.h d o g) (qaf8 qm3 G.m a),qH3 G.m a⟩
theorem qaU9{ndv:List Value}(i:Cl X.K X.mg x C)(M:Mk X.K C f)(b:Binds X.K fd ps [.none])(G:VFn X.prog X.w X.K X.mg X.base k f fd ps s)(j:Lands X c.E)(l:Room (k+1) X.A)(a:VAs c X (e::es) tr)(n:Gl X x:=by rfl)(d:(x == ("__debug__" : Str))=false:=by decide)(o:starEach (e::es) X.env=(false,eval e X.env)::starEach es X.env:=by rfl)(g:(backTo pos (starEach es X.env)).any (·.1)=false:=by rfl):VE c X (.Call (.Name x p) (e::es) [] pos) (qN8 C s [.non] tr) :=
 ⟨PE.mono (qae1 M G.ok l n i.m b (dvs:=[.non]) (.cons rfl .nil) j.passes a.h d o g) (qaf8 qap9 G.m a),qH3 G.m a⟩
def tLstV(tr:VTB):VT:=λ ds Q xe=>tr ds (λ xs ps ds1=>xs.length<=big/\Q (.lst false xs) ds1) xe
def tTupV(tr:VTB):VT:=λ ds Q xe=>tr ds (λ xs ps ds1=>xs.length<=big/\Q (.tup xs) ds1) xe
theorem elst(d:VAs c X es tr):VE c X (.List es pos) (tLstV tr):=by
 refine⟨PE.mono (qax8 d.h) λ σ H Q e=>?_,λ j Q Q' k l n o=>d.m _ _ _ _ _ (λ p r f=>And.imp_right (n _ _)) o⟩;obtain⟨F,j,A,k,S,x,q⟩:=e;refine⟨F,j,A,k,S,x,d.m _ _ _ _ _ (λ p r f q s H1 F1 T A1 g B S1 t v=>⟨by rw[g.len];exact zAr q.1 qi5,λ y i=>?_⟩) (λ _ _ z=>z) q⟩;have same:=Same.new (u:=.lst s) i;have w:=(qg4 i).ok t (λ b a=>by
   rcases zAa.mp a with a | a
   . exact g.cells b a
   exact S1.loc.cells b a) same
 exact q.2 (.ref y) _ F1 (y::T) A1 (.lst qb9 (g.same same)) (S1.same same) w (v.trans ((qg4 i).stp same))
theorem etup(a:VAs c X es tr):VE c X (.Tuple es n pos) (tTupV tr):=by
 refine⟨PE.mono (qaH3 a.h) λ σ H Q b=>?_,λ e Q Q' f j k l=>a.m _ _ _ _ _ (λ o p d=>And.imp_right (k _ _)) l⟩;obtain⟨F,e,A,f,S,x,q⟩:=b;refine⟨F,e,A,f,S,x,a.m _ _ _ _ _ (λ o p d q r H1 F1 T A1 g v S1 s t=>⟨by rw[g.len];exact zAr q.1 qi5,λ y i=>?_⟩) (λ _ _ z=>z) q⟩;have same:=Same.new (u:=.tup r) i;exact q.2 (.ref y) _ F1 T A1 (qaf2 i g) (S1.same same) (s.same same) (t.trans (.same same))
end
structure VEnds where
 nx:Ds->Prop
 rt:DK
 bk:Ds->Prop
 ct:Ds->Prop
 xe:XKd
abbrev VTS:=VEnds->Ds->Prop
structure VEnds.Le(e e':VEnds):Prop where
 nx:∀ ds,e.nx ds->e'.nx ds
 rt:∀ d ds,e.rt d ds->e'.rt d ds
 bk:∀ ds,e.bk ds->e'.bk ds
 ct:∀ ds,e.ct ds->e'.ct ds
 xe:∀ x ds,e.xe x ds->e'.xe x ds
structure Lk(c:Vc)(E:Dr)(F:Addr->Prop)(H:Hp)(A:List Addr)(e:VEnds):Prop where
 nx:∀ ds' σ' H' F' A',e.nx ds'->Sta c F' H' σ' ds' A'->Stp F H A F' H' A'->E.nx σ' H'
 rt:∀ d ds' v σ' H' F' T A',e.rt d ds'->Rep F' H' v d T->Sta c F' H' σ' ds' A'->Ok F' H' (T++A')->Stp F H A F' H' (T++A')->E.rt v H'
 bk:∀ ds' σ' H' F' A',e.bk ds'->Sta c F' H' σ' ds' A'->Stp F H A F' H' A'->E.bk σ' H'
 ct:∀ ds' σ' H' F' A',e.ct ds'->Sta c F' H' σ' ds' A'->Stp F H A F' H' A'->E.ct σ' H'
 xe:Xc c e.xe F H A
theorem Lk.step{c:Vc}{E:Dr}{F F1:Addr->Prop}{H H1:Hp}{A A1:List Addr}{e:VEnds}(l:Lk c E F H A e)(s:Stp F H A F1 H1 A1):Lk c E F1 H1 A1 e :=
 ⟨λ a σ' H' F' A' h S t=>l.nx a σ' H' F' A' h S (s.trans t),λ d a v σ' H' F' T A' h r S o t=>l.rt d a v σ' H' F' T A' h r S o (s.trans t),λ a σ' H' F' A' h S t=>l.bk a σ' H' F' A' h S (s.trans t),λ a σ' H' F' A' h S t=>l.ct a σ' H' F' A' h S (s.trans t),l.xe.step s⟩
inductive LiftS(c:Vc)(t:VTS)(E:Dr)(σ:St)(H:Hp):Prop
 | mk (F:Addr->Prop) (ds:Ds) (A:List Addr) (e:VEnds) (S:Sta c F H σ ds A) (l:Lk c E F H A e) (q:t e ds):LiftS c t E σ H
def Ey(c:Vc)(t:VTS):TS:=LiftS c t
structure VS(c:Vc)(X:Cx)(st:Stmt)(t:VTS):Prop where
 h:PS X st (Ey c t)
 m:∀(e e':VEnds) ds,e.Le e'->t e ds->t e' ds
structure VSs(c:Vc)(X:Cx)(st:List Stmt)(t:VTS):Prop where
 h:PSs X st (Ey c t)
 m:∀(e e':VEnds) ds,e.Le e'->t e ds->t e' ds
section
variable{c:Vc}{X:Cx}{a b e:Expr}{st:Stmt}{rest:List Stmt}{t u:VTS}{te:VT}{pos:Pos}
def Ga:VTS:=λ e ds=>e.nx ds
def Gb(t u:VTS):VTS:=λ e ds=>t { e with nx:=u e } ds
theorem Au:VSs c X [] Ga:=⟨PSs.mono qaG1 λ E σ H ⟨F,a,A,e,S,l,q⟩=>l.nx a σ H F A q S Stp.refl,λ e b a h=>h.nx a⟩
theorem Ac(h1:VS c X st t)(h2:VSs c X rest u):VSs c X (st::rest) (Gb t u):=by
 refine⟨PSs.mono (qad6 h1.h h2.h) λ E σ H a=>?_,λ e f b h=>h1.m _ _ _ ⟨λ b=>h2.m _ _ _ h,h.rt,h.bk,h.ct,h.xe⟩⟩;obtain⟨F,b,A,e,S,l,q⟩:=a;exact⟨F,b,A,{ e with nx:=u e },S,⟨λ d σ' H' F' A' q S' s=>⟨F',d,A',e,S',l.step s,q⟩,l.rt,l.bk,l.ct,l.xe⟩,q⟩
theorem Ag(h1:VS c X st t):VSs c X [st] t:=⟨qas3 h1.h,h1.m⟩
def sRet(te:VT):VTS:=λ e ds=>te ds e.rt e.xe
theorem Aq(h:VE c X e te):VS c X (.Return (some e) pos) (sRet te):=by
 refine⟨PS.mono (qaG3 h.h) λ E σ H ⟨F,b,A,e,S,l,q⟩=>⟨F,b,A,e.xe,S,l.xe,h.m _ _ _ _ _ (λ d a q v H' F' T A' r S' o s=>l.rt d a v σ H' F' T A' q r S' o s) (λ _ _ z=>z) q⟩,λ e g b f=>h.m _ _ _ _ _ f.rt f.xe⟩
def sExpr(te:VT):VTS:=λ e ds=>te ds (λ _ a=>e.nx a) e.xe
theorem Bf(h:VE c X e te)(i:swapsWith e none pos.line X.env=pure false:=by rfl):VS c X (.Expr e pos) (sExpr te):=by
 refine⟨PS.mono (qaG4 h.h i) λ E σ H ⟨F,f,A,e,S,l,q⟩=>⟨F,f,A,e.xe,S,l.xe,h.m _ _ _ _ _ (λ d a q v H' F' T A' r S' o s=>l.nx a σ H' F' A' q S' (s.count λ b=>by rw[zA0];lia)) (λ _ _ z=>z) q⟩,λ e j f g=>h.m _ _ _ _ _ (λ _=>g.nx) g.xe⟩
def sIf(qc:VTT)(t u:VTS):VTS:=λ e ds=>qc ds (λ k a=>if k=true then t e a else u e a) e.xe
theorem sif{x y:List Stmt}{qc:VTT}(b:VTe c X cd qc)(g:VSs c X x t)(i:VSs c X y u):VS c X (.If cd x y pos) (sIf qc t u):=by
 refine⟨PS.mono (ps_if b.h g.h i.h) λ E σ H d=>?_,λ e n j f=>b.m _ _ _ _ _ (λ k a=>qL0 (g.m _ _ _ f) (i.m _ _ _ f)) f.xe⟩;obtain⟨F,j,A,e,S,l,q⟩:=d;refine⟨F,j,A,e.xe,S,l.xe,b.m _ _ _ _ _ (λ k a q H' F' A' S' s=>?_) (λ _ _ z=>z) q⟩;cases k with
 | true=>rw[if_pos rfl] at q ⊢;exact⟨F',a,A',e,S',l.step s,q⟩
 | false=>rw[if_neg (by decide)] at q ⊢;exact⟨F',a,A',e,S',l.step s,q⟩
def qaP0:VTS:=λ _ _=>False
theorem qi6:VS c X st qaP0:=⟨λ _ _ _ _ _ _ ⟨_,_,_,_,_,_,q⟩=>q.elim,λ _ _ _ _ q=>q.elim⟩
abbrev VTG:=D->Ds->(Ds->Prop)->Prop
inductive LiftG(c:Vc)(g:VTG)(v:V)(σ:St)(H:Hp)(Q:St->Hp->Prop):Prop
 | mk (F:Addr->Prop) (ds:Ds) (A T:List Addr) (d:D) (r:Rep F H v d T) (S:Sta c F H σ ds A) (o:Ok F H (T++A)) (q:g d ds (λ ds'=>∀ σ' H' F' A',Sta c F' H' σ' ds' A'->Stp F H (T++A) F' H' A'->Q σ' H')):LiftG c g v σ H Q
def Fg(c:Vc)(g:VTG):TG:=LiftG c g
structure VG(c:Vc)(X:Cx)(e:Expr)(g:VTG):Prop where
 h:PG X e (Fg c g)
 m:∀ d ds (Q Q':Ds->Prop),(∀ ds',Q ds'->Q' ds')->g d ds Q->g d ds Q'
theorem PG.mono{g g':TG}(h:PG X e g)(i:∀ v σ H Q,g' v σ H Q->g v σ H Q):PG X e g':=λ De s σ H v u Q I r q=>h De s σ H v u Q I r (i v σ H Q q)
theorem Sta.store{F:Addr->Prop}{H:Hp}{σ:St}{ds:Ds}{A T:List Addr}{d:D}(S:Sta c F H σ ds A)(m:c.W i=false)(hi:i < σ.length)(r:Rep F H v d T)(o:Ok F H (T++A)) :
   ∃ A',Sta c F H (σ.set i (some v)) (ds.set i d) A'/\Stp F H (T++A) F H A':=by
 have n:=S.loc.len;rw[zAf] at n;obtain⟨σ1,x,σ2,e,f,A1,B,A2,p,e2,q,s,t,u,y,w⟩:=S.loc.split (i:=i) (d:=ds[i]'(by lia)) (by simp);have hσ:σ.set i (some v)++c.gv=σ1++some v::σ2:=by
   rw[<- List.set_append_left _ _ hi,p,qr3 q]
 have g:ds.set i d=e++d::f:=by
   have:=congrArg (λ l=>l.set i d) e2
   rw[this,qr3 s]
 have a:∀ b,(A1++(T++A2)).count b<=(T++A).count b:=λ b=>by rw[t];simp only[zA0];lia
 refine⟨A1++(T++A2),⟨by rw[hσ,g];exact u.append (.so r w),o.count a,?_,λ j h=>?_⟩,Stp.refl.count a⟩
 . rw[S.len,zAf,zAf,List.length_set]
 have k:i≠j:=λ z=>by subst z;rw[m] at h;cases h
 rw[<- S.ag j h,<- List.set_append_left _ _ hi,zBc k]
def gNm(i:Nat):VTG:=λ d ds Q=>Q (ds.set i d)
theorem Bi(i:Nat){x:Str}(b:X.N.Nodup)(e:c.W i=false:=by rfl)(hi:X.N[i]? = some x:=by rfl)(f:Loc X.env.scope x:=by first | exact Or.inl rfl | exact Or.inr rfl)(g:X.fn x=true∨X.env.scope.names.lookup x=some .local:=by first | exact .inl rfl | exact .inr rfl | assumption):VG c X (.Name x pos) (gNm i):=by
 refine⟨λ De s σ H v h Q I j a=>?_,λ d k Q Q' l=>l _⟩;obtain⟨F,k,A,T,d,r,S,o,q⟩:=a;refine qas5 b hi f g De s σ H v h Q I j ?_;obtain⟨A',S',m⟩:=S.store e (qs0 hi De σ H s I) r o;exact q _ H F A' S' m
def Er(te:VT)(g:VTG):VTS:=λ e ds=>te ds (λ d a=>g d a e.nx) e.xe
theorem qaV9{tg:Expr}{g:VTG}(h:VE c X e te)(f:VG c X tg g):∀ E σ H,Ey c (Er te g) E σ H->Ha (Bh c te) (Fg c g) E σ H:=by
 rintro E σ H ⟨F,i,A,j,S,l,q⟩;refine⟨F,i,A,j.xe,S,l.xe,h.m _ _ _ _ _ (λ d a q v H' F' T A' r S' o s=>?_) (λ _ _ z=>z) q⟩;exact⟨F',a,A',T,d,r,S',o,f.m _ _ _ _ (λ b q σ2 H2 F2 A2 S2 k=>l.nx b σ2 H2 F2 A2 q S2 (s.trans k)) q⟩
theorem qak1{tg:Expr}{g:VTG}(h:VE c X e te)(f:VG c X tg g):∀(en a:VEnds) ds,en.Le a->Er te g en ds->Er te g a ds:=λ en a ds b=>h.m _ _ _ _ _ (λ d i=>f.m _ _ _ _ b.nx) b.xe
theorem Fc{tg:Expr}{g:VTG}(h:VE c X e te)(a:VG c X tg g)(b:swapsWithSole [tg] e pos.line X.env=pure false:=by rfl)(d:swappedStores [tg] e X.env=pure none:=by rfl)(h1:(assignEach [tg] X.env).map (·.2)=[assign tg X.env]:=by rfl):VS c X (.Assign [tg] e pos) (Er te g) :=
 ⟨PS.mono (qaP6 h.h a.h b d h1) (qaV9 h a),qak1 h a⟩
theorem Ak(i:Nat){x:Str}{pos':Pos}(a:X.N.Nodup)(h:VE c X e te)(b:c.W i=false:=by rfl)(hi:X.N[i]? = some x:=by rfl)(f:Loc X.env.scope x:=by first | exact Or.inl rfl | exact Or.inr rfl)(j:swapsWith e (some (.Name x pos')) pos.line X.env=pure false:=by rfl)(g:X.fn x=true∨X.env.scope.names.lookup x=some .local:=by first | exact .inl rfl | exact .inr rfl | assumption) :
   VS c X (.Assign [.Name x pos'] e pos) (Er te (gNm i)):=by
 have k:VG c X (.Name x pos') (gNm i):=Bi i a b hi f g;refine⟨λ De s σ H E I q=>qaG2 a hi f h.h j g De s σ H E I ?_,qak1 h k⟩;obtain⟨F,n,A,p,S,l,q⟩:=q;refine⟨F,n,A,p.xe,S,l.xe,h.m _ _ _ _ _ (λ d t q v H' F' T A' r S' o u=>?_) (λ _ _ z=>z) q⟩;obtain⟨A2,S2,w⟩:=S'.store b (qs0 hi De σ H s I) r o;exact l.nx _ _ H' F' A2 q S2 (u.trans w)
abbrev Fq:=Ds->Ds->(Ds->Prop)->Prop
inductive qaO3(c:Vc)(g:Fq)(vs:List V)(σ:St)(H:Hp)(Q:St->Hp->Prop):Prop
 | mk (F:Addr->Prop) (ds:Ds) (A T:List Addr) (xs:Ds) (r:Reps F H vs xs T) (S:Sta c F H σ ds A) (o:Ok F H (T++A)) (q:g xs ds (λ ds'=>∀ σ' H' F' A',Sta c F' H' σ' ds' A'->Stp F H (T++A) F' H' A'->Q σ' H')):qaO3 c g vs σ H Q
def qaS5(c:Vc)(g:Fq):TGs:=qaO3 c g
structure VGs(c:Vc)(X:Cx)(es:List Expr)(g:Fq):Prop where
 h:PGs X es (qaS5 c g)
 m:∀ xs ds (Q Q':Ds->Prop),(∀ ds',Q ds'->Q' ds')->g xs ds Q->g xs ds Q'
theorem PGs.mono{es:List Expr}{g g':TGs}(h:PGs X es g)(i:∀ v σ H Q,g' v σ H Q->g v σ H Q):PGs X es g':=λ De s σ H v u Q I r q=>h De s σ H v u Q I r (i v σ H Q q)
def gNilV:Fq:=λ xs ds Q=>match xs with | []=>Q ds | _=>False
def qaB9(g:VTG)(b:Fq):Fq:=λ xs ds Q=>match xs with | x::r=>g x ds λ a=>b r a Q | []=>False
theorem Ik:VGs c X [] gNilV:=by
 refine⟨PGs.mono qaH1 λ f σ H Q a=>?_,λ b d Q Q' e q=>by cases b with | nil=>exact e _ q | cons _ _=>exact q.elim⟩;obtain⟨F,d,A,T,b,r,S,o,q⟩:=a;cases b with
 | nil=>cases r;exact⟨rfl,q σ H F A S Stp.refl⟩
 | cons _ _=>exact q.elim
theorem Hj{tg:Expr}{es:List Expr}{g:VTG}{l:Fq}(h1:VG c X tg g)(h2:VGs c X es l)(s:(assignEach (tg::es) X.env).map (·.2)=assign tg X.env::(assignEach es X.env).map (·.2):=by rfl):VGs c X (tg::es) (qaB9 g l):=by
 refine⟨PGs.mono (qax7 h1.h h2.h s) λ e σ H Q ⟨F,n,A,T,d,r,S,o,q⟩=>?_,λ d n Q Q' t q=>by
   cases d with
   | nil=>exact q.elim
   | cons x r=>exact h1.m _ _ _ _ (λ u=>h2.m _ _ _ _ t) q⟩
 cases d with
 | nil=>exact q.elim
 | cons x d =>
   cases r with
   | @cons v _ T1 e _ T2 r1 rt =>
     refine⟨v,e,rfl,F,n,A,T1,x,r1,S,o.count λ b=>by simp only[zA0];lia,h1.m _ _ _ _ (λ f q σ1 H1 F1 A1 S1 p=>?_) q⟩;have i:Ok F H (T2++(T1++A)):=o.count λ b=>by simp only[zA0];lia
     obtain⟨w,y⟩:=p.frame i rt.cells S1.ok;have j:Ok F H (T1++A):=i.right;have k:Reps F1 H1 e d T2:=rt.keep (p.kp j λ b a=>by
       rcases zAa.mp a with a | a
       . exact r1.cells b a
       exact S.loc.cells b a) λ b a C=>by
       have:=i.sep b
       rw[zA0] at this
       have:=qa9.mp a
       lia
     exact⟨F1,f,A1,T2,d,k,S1,w,h2.m _ _ _ _ (λ z q σ2 H2 F2 A2 S2 B=>q σ2 H2 F2 A2 S2 ((y.pre λ b=>by simp only[zA0];lia).trans B)) q⟩
def gTupV(n:Nat)(a:Fq):VTG:=λ d ds Q=>match d with | .tup xs=>xs.length=n/\a xs ds Q | _=>False
theorem Il{es:List Expr}{k:Nat}{e:Fq}(j:X.calm=true)(h:VGs c X es e)(l:(assignEach es X.env).length=n:=by rfl)(b:(assignEach es X.env).findIdx? (·.1)=none:=by rfl):VG c X (.Tuple es k pos) (gTupV n e):=by
 refine⟨PG.mono (qaP7 j h.h l b) λ v σ H Q ⟨F,f,A,T,d,r,S,o,q⟩=>?_,λ d f Q Q' p q=>by
   cases d with
   | tup g=>exact⟨q.1,h.m _ _ _ _ p q.2⟩
   | _=>exact q.elim⟩
 cases d with
 | tup g =>
   obtain⟨a,s,rfl,t,i⟩:=r.tup_inv;exact⟨a,s,rfl,.inl (.inl t),by rw[i.len];exact q.1,F,f,A,T,g,i,S,o,q.2⟩
 | _=>exact q.elim
end
section
variable{c:Vc}{F:Addr->Prop}{H:Hp}{σ:St}{ds:Ds}{A T:List Addr}
theorem qM9{a:Addr}{o o':HO}(h:H a=some o)(hm:Ea o=true)(c:¬ F a):Kp F H (λ b=>b=a) F (upd H a o') :=
 ⟨λ b u e w=>by rw[qd0 w];exact e,λ b w=>by subst w;exact⟨o,h,hm⟩,λ b w=>by subst w;exact c,λ _ f=>f⟩
theorem Reps.setAt{ys:List D}{Ael Tv:List Addr}{d:D}(r:Reps F H vs ys Ael)(s:n < ys.length)(e:Rep F H v d Tv):∃ B,Reps F H (vs.set n v) (ys.set n d) B/\∀ b,B.count b<=Ael.count b+Tv.count b:=by
 obtain⟨f,w,g,a,c,A1,B,A2,h,e2,j,k,m,o,t,p⟩:=r.split (i:=n) (d:=ys[n]) (by simp);have q:ys.set n d=a++d::c:=by
   have:=congrArg (λ l=>l.set n d) e2
   rw[this,qr3 k]
 rw[h,qr3 j,q];exact⟨A1++(Tv++A2),o.append (.cons e p),λ b=>by rw[m];simp only[zA0];lia⟩
theorem qZ8{ys:List D}{B:List Addr}(r:Rep F H v (.lst false ys) B):∃ a vs Ael,v=.ref a/\H a=some (.lst vs)/\Reps F H vs ys Ael/\B=a::Ael:=by
 cases r with
 | lst h r=>exact⟨_,_,_,rfl,h,r,rfl⟩
theorem qm8{p:List Nat}{ys:List D}{u:V}(S:Sta c F H σ ds A)(h:A4 ds i p=some (.lst false ys))(J:(σ++c.gv)[i]? = some (some u))(K:Walk H u p w) :
   ∃(a:Addr)(vs:List V)(Ael:List Addr),w=.ref a/\H a=some (.lst vs)/\Reps F H vs ys Ael /\
   ∀(g:List V)(m:List D)(B' R T:List Addr),Ok F H (T++A)->Reps F H g m B'->(∀ b,B'.count b+R.count b<=Ael.count b+T.count b) ->
     (∃ A',Sta c F (upd H a (.lst g)) σ (Bc ds i p (.lst false m)) A'/\Ok F (upd H a (.lst g)) (R++A')/\Stp F H (T++A) F (upd H a (.lst g)) (R++A'))/\∀ v d,Rep F H v d R->Rep F (upd H a (.lst g)) v d R:=by
 obtain⟨B,C,r,L,M⟩:=S.place h (by intro z;cases z) J K;obtain⟨a,vs,Ael,rfl,y,N,rfl⟩:=qZ8 r;refine⟨a,vs,Ael,rfl,y,N,λ g m B' R T q O E=>?_⟩;have n:∀ b,A.count b=(if b=a then 1 else 0)+Ael.count b+C.count b:=λ b=>by
   rw[L,zAl];by_cases j:b=a
   . subst j;simp;lia
   simp[j,Ne.symm j]
 have s:=n a;rw[if_pos rfl] at s;have P:=q.sep a;rw[zA0] at P;have Q:=E a;have G:¬ F a:=λ f=>by have:=q.fro a f;rw[zA0] at this;lia
 have k:=qM9 (F:=F) (o':=.lst g) y rfl G;have rep':Rep F (upd H a (.lst g)) (.ref a) (.lst false m) (a::B'):=.lst qb9 (O.keep k λ b j w=>by subst w;have:=qa9.mp j;lia);obtain⟨A',U,q2⟩:=M _ _ k (λ b j w=>by subst w;have:=qa9.mp j;lia) rep';have t:∀ b,A'.count b=(if b=a then 1 else 0)+B'.count b+C.count b:=λ b=>by
   rw[q2,zAl];by_cases j:b=a
   . subst j;simp;lia
   simp[j,Ne.symm j]
 have l:∀ b,(R++A').count b<=(T++A).count b:=λ b=>by rw[zA0,zA0,t,n];have:=E b;lia
 have W:∀ b,F b->∃ o,upd H a (.lst g) b=some o:=λ b f=>by
   obtain⟨x,e⟩:=q.ex b f;exact⟨x,by rw[qd0 (show b≠a from λ w=>G (w ▸ f))];exact e⟩
 have I:Ok F (upd H a (.lst g)) (R++A'):=⟨λ b=>zAr (l b) (q.sep b),λ b f=>by have:=q.fro b f;have:=l b;lia,W⟩
 refine⟨⟨A',⟨U,I.right,S.len,S.ag⟩,I,λ b u e z=>?_,λ b u e z=>by have:=l b;lia,λ _ f=>f,λ _ _ _ _ f=>f⟩,λ v d X=>X.keep k λ b j w=>by subst w;have:=qa9.mp j;lia⟩;rw[qd0 λ w=>?_]
 . exact e
 subst w;have:=n b;rw[if_pos rfl] at this;rw[zA0] at z;lia
def Gn(r:V->List V->Hp->VK->Prop)(g:Ds->Ds->Option (Ds×D)):Prop:=∀ F H a vs ys Ael f xs T c d (Q:VK),H a=some (.lst vs)->Reps F H vs ys Ael->Reps F H f xs T->g ys xs=some (c,d) ->
 (∀ e v B' R,Reps F H e c B'->Rep F H v d R->(∀ b,B'.count b+R.count b<=Ael.count b+T.count b)->Q v (upd H a (.lst e)))->r (.ref a) f H Q
def Gc(ys xs:Ds):Option (Ds×D):=match xs with
 | [x]=>if ys.length < big then some (ys++[x],.non) else none
 | _=>none
theorem qH2:Gn qas2 Gc:=by
 intro F H a i c Ael m j T e d Q k r l h q
 match j,h with
 | [x],h =>
   obtain⟨w,rfl,f⟩:=l.one_inv;have h:(if c.length < big then some (c++[x],D.non) else none)=some (e,d):=h;by_cases g:c.length < big
   . rw[if_pos g] at h
     cases h;refine⟨a,i,w,rfl,rfl,k,by rw[r.len];exact zAi g qi5,?_⟩;exact q _ .non (Ael++(T++[])) [] (r.append (.cons f .nil)) .non λ b=>by simp[zA0]
   rw[if_neg g] at h;cases h
end
section
variable{c:Vc}{X:Cx}{a b e o:Expr}{pf:PF}{tr:VTB}{es:List Expr}{r:V->List V->Hp->VK->Prop}{g:Ds->Ds->Option (Ds×D)}
noncomputable def D.own:D->Option Ds
 | .lst false ys=>some ys
 | _=>none
theorem Im{d:D}{ys:Ds}(h:d.own=some ys):d=.lst false ys:=by
 cases d with
 | lst z a=>cases z with
   | false=>cases h;rfl
   | true=>cases h
 | _=>cases h
def Ez(g:Ds->Ds->Option (Ds×D))(i:Nat)(tr:VTB):VT:=λ ds Q xe=>((rdN i ds).bind D.own).isSome=true/\tr ds (λ xs _ ds1=>orF ((rdN i ds1).bind D.own) λ ys=>orF (g ys xs) λ z=>Q z.2 (ds1.set i (.lst false z.1))) xe
theorem qI2{ds:Ds}{d:D}(h:ds[i]? = some d):A4 ds i []=some d:=by unfold A4;rw[h];rfl
theorem qF8{ds:Ds}{d x:D}(h:ds[i]? = some d):Bc ds i [] x=ds.set i x:=by unfold Bc;rw[h];rfl
theorem qaJ5{T:String}(t:T = "list"){σ:St}{H:Hp}(hm:Gn r g)(u:VAs c X es tr)(hi:i < σ.length)(q:Bh c (Ez g i tr) σ H Q):tBM X.K T r (E8 i) (Ex c tr) σ H Q:=by
 subst t;obtain⟨F,y,A,B,S,x,C,q⟩:=q;obtain⟨D,b⟩:=zAz.mp C;obtain⟨d0,E,f⟩:=zA1.mp b;cases Im f;obtain⟨v,B0,o,G,_⟩:=S.name hi E;obtain⟨a,h,A0,rfl,j,_,_⟩:=G.lst_inv;refine⟨.ref a,o,.inl ⟨rfl,h,.inl (.inl j)⟩,F,y,A,B,S,x,u.m _ _ _ _ _ (λ I ps J q L H1 F1 T A1 M pk S1 N O=>?_) (λ _ _ z=>z) q⟩;obtain⟨P,U,q⟩:=qa6.mp q;obtain⟨d1,e2,V⟩:=zA1.mp U;cases Im V;obtain⟨⟨e,d⟩,W,q⟩:=qa6.mp q;obtain⟨s,hk⟩:=qo0.mp e2;have Y:(σ++c.gv)[i]? = some (some (.ref a)):=by rw[zAu hi];exact o
 obtain⟨a2,k,Ael,Z,l,rs,wr⟩:=qm8 S1 (qI2 s) Y (p:=[]) (w:=.ref a) rfl;cases Z;refine hm F1 H1 a k P Ael L I T e d Q l rs M W λ n v B' R h1 h2 h3=>?_
 obtain⟨⟨A',S2,o2,s2⟩,kr⟩:=wr n e B' R T N h1 h3;rw[qF8 s] at S2;exact q v _ F1 R A' (kr v d h2) S2 o2 (O.trans s2)
theorem qan3(e:VAs c X es tr):∀ ds (Q Q':DK) (xe b:XKd),(∀ d a,Q d a->Q' d a)->(∀ x a,xe x a->b x a)->Ez g i tr ds Q xe->Ez g i tr ds Q' b :=
 λ ds Q Q' xe b f h=>And.imp_right (e.m _ _ _ _ _ (λ k l j=>qa4 λ y=>qa4 λ z=>f _ _) h)
theorem qak8{F F':Addr->Prop}{H H':Hp}{W:Addr->Prop}(k:Kp F H W F' H'):∀{p:List Nat}{f:V}{d0 d:D}{B:List Addr}{w o:V},(∀ b∈B,¬ W b)->Rep F H f d0 B->d0.getP p=some d->Walk H f p w->Walk H' f p o->o=w:=by
 intro p
 induction p with
 | nil=>intro f d0 d B w o _ _ _ h s;cases h;cases s;rfl
 | cons n p A =>
   intro f d0 d B w o g r i h s;unfold D.getP at i;cases j:d0.kids[n]? with
   | none=>rw[j] at i;cases i
   | some e =>
     rw[j] at i;obtain⟨x,E,G⟩:=h;obtain⟨L,t,u⟩:=s;obtain⟨y,B1,C1,z,I,J,_⟩:=r.kid j;obtain⟨M,B1',C1',l,_,_,_⟩:=(r.keep k g).kid j;cases E.fn z;cases t.fn l;have v:Lnk H' f n x:=by
       obtain⟨a,rfl,q⟩:=z;refine⟨a,rfl,?_⟩;cases r with
       | tup c _ =>
         rcases q with⟨vs,e,h⟩ | ⟨vs,e,h⟩ | ⟨vs,e,h⟩ | ⟨C,dx,vs,e,h⟩
         . exact .inl ⟨vs,k.tup e,h⟩
         . rw[c] at e;cases e
         . rw[c] at e;cases e
         rw[c] at e;cases e
       | lst c _ =>
         have m:=k.fr _ _ c (g _ zAb);rcases q with⟨vs,e,h⟩ | ⟨vs,e,h⟩ | ⟨vs,e,h⟩ | ⟨C,dx,vs,e,h⟩
         . rw[c] at e;cases e
         . rw[c] at e;cases e;exact .inr (.inl ⟨_,m,h⟩)
         . rw[c] at e;cases e
         rw[c] at e;cases e
       | dct c _ _ =>
         have m:=k.fr _ _ c (g _ zAb);rcases q with⟨vs,e,h⟩ | ⟨vs,e,h⟩ | ⟨vs,e,h⟩ | ⟨C,dx,vs,e,h⟩
         . rw[c] at e;cases e
         . rw[c] at e;cases e
         . rw[c] at e;cases e;exact .inr (.inr (.inl ⟨_,m,h⟩))
         rw[c] at e;cases e
       | ins c _ _ =>
         have m:=k.fr _ _ c (g _ zAb);rcases q with⟨vs,e,h⟩ | ⟨vs,e,h⟩ | ⟨vs,e,h⟩ | ⟨C,dx,vs,e,h⟩
         . rw[c] at e;cases e
         . rw[c] at e;cases e
         . rw[c] at e;cases e
         rw[c] at e;cases e;exact .inr (.inr (.inr ⟨_,_,_,m,h⟩))
       | _=>simp[D.kids] at j
     cases v.fn l;exact A (B:=B1) (λ b K=>g b (qa9.mpr (by have:=J b;have:=qa9.mp K;lia))) I i G u
def Fh(g:Ds->Ds->Option (Ds×D))(pf:PF)(tr:VTB):VT:=λ ds Q xe=>orF (pf ds) λ q=>orF ((A4 ds q.1 q.2).bind D.own) λ ys=>orF ds[q.1]? λ a=>tr (ds.set q.1 .unk) (λ xs _ ds1=>orF (g ys xs) λ z=>Q z.2 (Bc (ds1.set q.1 a) q.1 q.2 (.lst false z.1))) xe
theorem qan2(e:VAs c X es tr):∀ ds (Q Q':DK) (xe b:XKd),(∀ d a,Q d a->Q' d a)->(∀ x a,xe x a->b x a)->Fh g pf tr ds Q xe->Fh g pf tr ds Q' b :=
 λ ds Q Q' xe b f h=>qa4 λ q=>qa4 λ j=>qa4 λ k=>e.m _ _ _ _ _ (λ l n i=>qa4 λ z=>f _ _) h
theorem qaJ4(hm:Gn r g)(ha:VAs c X es tr):∀ σ H Q,Bh c (Fh g pf tr) σ H Q->tBM X.K "list" r (F9 c pf) (Ex c tr) σ H Q:=by
 rintro σ H Q ⟨F,Y,A,xe,S,x,q⟩;obtain⟨⟨i,p⟩,e1,q⟩:=qa6.mp q;obtain⟨n,e2,q⟩:=qa6.mp q;obtain⟨dl,h,e4⟩:=zA1.mp e2;cases Im e4;obtain⟨I,l,q⟩:=qa6.mp q;refine⟨F,Y,A,i,p,_,S,e1,h,D.noConfusion,λ u w H1 s Z s0=>?_⟩;have S0:=S.same s0;obtain⟨a,L,Ael0,rfl,M,a0,_⟩:=qm8 S0 h s Z;refine⟨.inl ⟨rfl,L,.inl (.inl M)⟩,?_⟩;have N:I≠.unk:=λ z=>by
   subst z;have j:=h;unfold A4 at j;rw[l] at j;cases (qai2 j).2
 obtain⟨u',B,C,h1,J,h3,h4⟩:=S0.put1 l N;rw[s] at h1;cases h1;obtain⟨A1,q1,q2⟩:=h4 .unk [] (Kp.same (F:=F) λ _ _ z=>z) (λ _ _ z=>z) (.unk u);have O:Ok F H1 (B++A1):=S0.ok.count λ b=>by rw[zA0,q2,h3];simp
 have s1:Stp F H A F H1 (B++A1):=⟨λ b o e _=>s0 b o e,λ b o e z=>by rw[zA0,q2];have:=h3 b;simp;lia,λ _ f=>f,λ _ _ _ _ f=>f⟩
 have S1:Sta c F H1 σ (Y.set i .unk) A1:=⟨q1,O.right,S.len,S.ag⟩
 have P:Stp F H A F H1 A1:=s1.count λ b=>by rw[zA0];lia
 refine⟨F,_,A1,xe,S1,x.step P,ha.m _ _ _ _ _ (λ xs ps k q vs H2 F2 T2 A2 r2 pk S2 o2 s2=>?_) (λ _ _ z=>z) q⟩;obtain⟨⟨t,d⟩,e7,q⟩:=qa6.mp q;have kp:=s2.kp S1.ok S1.loc.cells;have hBout:∀ b∈B,¬ (A1.count b≠0):=λ b hb hc=>by
   have:=O.sep b
   rw[zA0] at this
   have:=qa9.mp hb
   lia
 have y:Rep F2 H2 u I B:=J.keep kp hBout;obtain⟨o3,s3⟩:=s2.frame O J.cells o2;obtain⟨A3,k1,k2⟩:=qF7 S2.loc s y;have E:∀ b,A3.count b<=B.count b+A2.count b:=k2;have o4:Ok F2 H2 (T2++A3):=o3.count λ b=>by simp only[zA0];have:=E b;lia
 have s4:Stp F H A F2 H2 (T2++A3):=(s1.trans s3).count λ b=>by simp only[zA0];have:=E b;lia
 have S3:Sta c F2 H2 σ (k.set i I) A3:=⟨k1,o4.right,S.len,S.ag⟩
 have G:i < k.length:=by rw[<- S2.loc.len];exact(zA2.mp s).1
 have e8:A4 (k.set i I) i p=some (.lst false n):=by
   unfold A4 at h ⊢;rw[l] at h;rw[List.getElem?_set_self G];exact h
 have T:Walk H2 u p (.ref a):=by
   obtain⟨w',_,_,w1,_,_,_⟩:=J.path (p:=p) (d:=.lst false n) (by unfold A4 at h;rw[l] at h;exact h);cases Z.fn w1;obtain⟨w2,_,_,w3,_,_,_⟩:=y.path (p:=p) (d:=.lst false n) (by unfold A4 at h;rw[l] at h;exact h)
   have:w2=.ref a:=by
     refine qak8 (d:=.lst false n) kp hBout J ?_ w1 w3;unfold A4 at h;rw[l] at h;exact h
   rw[<- this];exact w3
 obtain⟨a2,U,Ael,ea,V,rs,wr⟩:=qm8 S3 e8 s T;cases ea;refine hm F2 H2 a U n Ael vs xs T2 t d Q V rs r2 e7 λ W v B' R z1 z2 z3=>?_
 obtain⟨⟨A',S4,o5,s5⟩,kr⟩:=wr W t B' R T2 o4 z1 z3;exact q v _ F2 R A' (kr v d z2) S4 o5 (s4.trans s5)
end
section
variable{c:Vc}{X:Cx}{a b e o:Expr}{pos cpos apos:Pos}{pf:PF}{tr:VTB}{es:List Expr}{fb:FV}{ob:Bool}{r:V->List V->Hp->VK->Prop}{g:Ds->Ds->Option (Ds×D)}{name:Str}{id:String}
theorem Du(i:Nat){x:Str}{p0:Pos}(k:Gn r g)(l:PlainAttrs "list")(slot:Slot "list" name id)(b:typeOf (.builtin id)=pure (.type "method_descriptor"))(hm:MtM X id r)(d:VAs c X (e::es) tr)(j:X.N[i]? = some x:=by rfl)(m:Vis X.env.scope x:=by first | exact Or.inl rfl | exact Or.inr (Or.inl rfl) | exact Or.inr (Or.inr rfl))(n:(x == ("__debug__" : Str))=false:=by decide)(f:(x == ("__classdict__" : Str))=false:=by decide)(hbase:attributeBase (.Name x p0) name X.env (eval (.Name x p0) X.env)=eval (.Name x p0) X.env:=by rfl)(a:((backTo cpos (starEach (e::es) X.env)).all (λ x=>!x.1)&&(backToKw cpos (keywordEach [] X.env)).all (λ x=>x.1.isSome)
     && decide ((e::es).length+([]:List Keyword).length+(if ([]:List Keyword).isEmpty then 0 else 1) < 30))=true:=by rfl)(hline:(apos.endLine == cpos.line)=true:=by rfl)(o:starEach (e::es) X.env=(false,eval e X.env)::starEach es X.env:=by rfl)(hplain:(backTo cpos (starEach es X.env)).any (·.1)=false:=by rfl) :
   VE c X (.Call (.Attribute (.Name x p0) name apos) (e::es) [] cpos) (Ez g i tr) :=
 ⟨λ De s σ H Q I q=>Hv l slot b hm (qr4 j m n f) d.h hbase a hline o hplain De s σ H Q I (qaJ5 rfl k d (qs0 j De σ H s I) q),qan3 d⟩
theorem emutP(f:Gn r g)(i:PlainAttrs "list")(slot:Slot "list" name id)(b:typeOf (.builtin id)=pure (.type "method_descriptor"))(hm:MtM X id r)(j:VP c X o pf)(d:VAs c X (e::es) tr)(hbase:attributeBase o name X.env (eval o X.env)=eval o X.env:=by rfl)(a:((backTo cpos (starEach (e::es) X.env)).all (λ x=>!x.1)&&(backToKw cpos (keywordEach [] X.env)).all (λ x=>x.1.isSome)
     && decide ((e::es).length+([]:List Keyword).length+(if ([]:List Keyword).isEmpty then 0 else 1) < 30))=true:=by rfl)(hline:(apos.endLine == cpos.line)=true:=by rfl)(k:starEach (e::es) X.env=(false,eval e X.env)::starEach es X.env:=by rfl)(hplain:(backTo cpos (starEach es X.env)).any (·.1)=false:=by rfl) :
   VE c X (.Call (.Attribute o name apos) (e::es) [] cpos) (Fh g pf tr) :=
 ⟨PE.mono (Hv i slot b hm j.h d.h hbase a hline k hplain) (qaJ4 f d),qan2 d⟩
def Fi(pf:PF)(fb:FV):VTG:=λ d ds Q=>orF (pf ds) λ q=>orF ((A4 ds q.1 q.2).bind D.own) λ ys=>orF ((fb ds).bind D.asI) λ k=>orF (ixN ys.length k) λ n=>Q (Bc ds q.1 q.2 (.lst false (ys.set n d)))
theorem Dv(y:VP c X o pf)(hi:VV c X b ob fb)(f:∀ v,assign (.Subscript o b pos) X.env v=(do
     let ov <- holding [v] (eval o X.env)
     let iv <- holding [v,ov] (eval b X.env)
     standAt pos
     holding [v,ov,iv] (setItem ov iv v)
     release [v,ov,iv] []):=by intro _;rfl):VG c X (.Subscript o b pos) (Fi pf fb):=by
 refine⟨PG.mono (qaP8 y.h hi.h qac9 f) λ v σ H Q g=>?_,λ d j Q Q' z=>qa4 λ _=>qa4 λ _=>qa4 λ _=>qa4 λ _=>z _⟩;obtain⟨F,j,A,T,d,r,S,B,q⟩:=g;obtain⟨⟨i,p⟩,C,q⟩:=qa6.mp q;obtain⟨E,e2,q⟩:=qa6.mp q;obtain⟨Y,l,G⟩:=zA1.mp e2;cases Im G;obtain⟨k,I,q⟩:=qa6.mp q;obtain⟨J,K,L⟩:=zA1.mp I;obtain⟨n,m,q⟩:=qa6.mp q;refine⟨F,j,A,i,p,_,S,C,l,D.noConfusion,λ u w H1 M N s=>⟨F,j,A,J,S.same s,K,λ Z H2 B2 O t _=>?_⟩⟩;have e:=s.trans t;have S2:=S.same e;cases O.asI L;obtain⟨a,P,Ael,rfl,f,x,wr⟩:=qm8 S2 l M (N.same t);have R:n < E.length:=(qU2 m).2.1;obtain⟨B',U,V⟩:=x.setAt R (r.same e);obtain⟨⟨A',S3,o3,W⟩,_⟩:=wr _ _ B' [] T (B.same e) U λ b=>by have:=V b;simp;lia
 exact⟨a,P,k,n,rfl,rfl,f,by rw[x.len];exact m,q σ _ F A' S3 ((Stp.same e).trans W)⟩
def sAugV(f:Int->Int->Int)(pf:PF)(fb a:FV):VTS:=λ e ds=>orF (pf ds) λ q=>orF ((A4 ds q.1 q.2).bind D.own) λ ys=>orF ((fb ds).bind D.asI) λ k=>0<=k/\orF ((ys[k.toNat]?).bind D.asI) λ x=>orF ((a ds).bind D.asI) λ y=>e.nx (Bc ds q.1 q.2 (.lst false (ys.set k.toNat (.int (f x y)))))
theorem saug{op:Operator}{f:Int->Int->Int}{N:FV}{oe:Bool}{tpos:Pos}(V:VP c X o pf)(hi:VV c X b ob fb)(W:VV c X e oe N)(Y:PIp X op (ipI f))(Z:∀ n r d,augStore b n r d=(do holding [d,n,r] (setItem n r d);release [d,n,r] [];pure .next):=by intros;rfl):VS c X (.AugAssign (.Subscript o b tpos) op e pos) (sAugV f pf fb N):=by
 refine⟨PS.mono (qaG6 V.h hi.h qaB6 W.h Y qac9 Z) λ E σ H t=>?_,λ en a0 s hl=>qa4 λ _=>qa4 λ _=>qa4 λ _=>And.imp_right (qa4 λ _=>qa4 λ _=>hl.nx _)⟩;obtain⟨F,s,A,en,S,l,q⟩:=t;obtain⟨⟨i,p⟩,e1,q⟩:=qa6.mp q;obtain⟨ys,e2,q⟩:=qa6.mp q;obtain⟨dl,v,e4⟩:=zA1.mp e2;cases Im e4;obtain⟨k,e5,O,q⟩:=qa6.mp q;obtain⟨dk,e6,e7⟩:=zA1.mp e5;obtain⟨x,e8,q⟩:=qa6.mp q;obtain⟨dx,P,z⟩:=zA1.mp e8;obtain⟨y,B,q⟩:=qa6.mp q;obtain⟨dy,C,G⟩:=zA1.mp B;refine⟨F,s,A,i,p,_,S,e1,v,D.noConfusion,λ u w H1 Q R T=>⟨F,s,A,dk,S.same T,e6,λ vk H2 B2 r2 I _=>?_⟩⟩;have g:=T.trans I;cases r2.asI e7;obtain⟨a,vs,Ael,rfl,J,K,_⟩:=qm8 (S.same g) v Q (R.same I);obtain⟨vx,Bx,hx,rx,_⟩:=K.get P;cases rx.asI z;refine⟨a,vs,k,_,rfl,rfl,J,O,hx,F,s,A,dy,S.same g,C,λ vy H3 B3 r3 U _=>?_⟩;cases r3.asI G;have j:=g.trans U;have S3:=S.same j;obtain⟨a',L,Ael',ea,M,m,wr⟩:=qm8 S3 v Q ((R.same I).same U);cases ea;have hn:k.toNat < ys.length:=(zA2.mp P).1;obtain⟨B',r4,h4⟩:=m.setAt hn (.int (f x y));obtain⟨⟨A',S4,o4,s4⟩,_⟩:=wr _ _ B' [] [] S3.ok r4 λ b=>by have:=h4 b;simpa using this
 refine⟨x,y,rfl,rfl,a,L,k,k.toNat,rfl,rfl,M,?_,l.nx _ σ _ F A' q S4 ((Stp.same j).trans s4)⟩;rw[m.len];unfold ixN;rw[if_pos O,if_pos (by lia)]
noncomputable def E2(f:Str)(d:D):List (Str×D)->List (Str×D)
 | []=>[(f,d)]
 | (g,x)::r=>if g=f then (g,d)::r else (g,x)::E2 f d r
end
section
variable{c:Vc}{X:Cx}{F:Addr->Prop}{H:Hp}{σ:St}{ds:Ds}{A T:List Addr}{a b e o:Expr}{pos cpos apos:Pos}{te:VT}{pf:PF}{fa fb:FV}{oa ob:Bool}
theorem qT2:∀{a:List (Str×V)}{c:List (Str×D)}{B Tv:List Addr}{f:Str}{v:V}{d:D},a.map (·.1)=c.map (·.1)->Reps F H (a.map (·.2)) (c.map (·.2)) B->Rep F H v d Tv->(Bn f v a).map (·.1)=(E2 f d c).map (·.1)/\∃ B',Reps F H ((Bn f v a).map (·.2)) ((E2 f d c).map (·.2)) B'/\∀ b,B'.count b<=B.count b+Tv.count b
 | [],[],B,Tv,f,v,d,_,r,rv=>⟨rfl,Tv++[],.cons rv .nil,λ b=>by simp⟩
 | [],_::_,_,_,_,_,_,h,_,_=>by simp at h
 | _::_,[],_,_,_,_,_,h,_,_=>by simp at h
 | (k,w)::r,(k',x)::r',B,Tv,f,v,d,h,rs,rv=>by
   have i:k=k':=by simp at h;exact h.1
   have e:r.map (·.1)=r'.map (·.1):=by simp at h;simpa using h.2
   subst i;cases rs with
   | @cons _ _ B1 _ _ B2 q t =>
     by_cases g:k=f
     . simp only[Bn,E2,if_pos g,zB0,e,true_and]
       exact⟨Tv++B2,.cons rv t,λ b=>by simp only[zA0];lia⟩
     obtain⟨j,B',l,m⟩:=qT2 (f:=f) e t rv;simp only[Bn,E2,if_neg g,zB0,j,true_and];exact⟨B1++B',.cons q l,λ b=>by simp only[zA0];have:=m b;lia⟩
def D.ownI(C:Addr):D->Option (List (Str×D))
 | .ins false C' fs=>if C'=C then some fs else none
 | _=>none
theorem qaI3{d:D}{C:Addr}{fs:List (Str×D)}(h:d.ownI C=some fs):d=.ins false C fs:=by
 cases d with
 | ins z C' b=>cases z with
   | false =>
     have h:(if C'=C then some b else none)=some fs:=h;by_cases a:C'=C
     . rw[if_pos a] at h;cases h;rw[a]
     rw[if_neg a] at h;cases h
   | true=>cases h
 | _=>cases h
theorem qaI2{p:List Nat}{C:Addr}{l:List (Str×D)}{u:V}(S:Sta c F H σ ds A)(h:A4 ds i p=some (.ins false C l))(E:(σ++c.gv)[i]? = some (some u))(G:Walk H u p w) :
   ∃(a dx:Addr)(d:List (Str×V))(Ael:List Addr),w=.ref a/\H a=some (.ins C dx d)/\d.map (·.1)=l.map (·.1)/\Reps F H (d.map (·.2)) (l.map (·.2)) Ael /\
   ∀(fvs':List (Str×V))(fds':List (Str×D))(B' T:List Addr),Ok F H (T++A)->fvs'.map (·.1)=fds'.map (·.1)->Reps F H (fvs'.map (·.2)) (fds'.map (·.2)) B'->(∀ b,B'.count b<=Ael.count b+T.count b) ->
     ∃ A',Sta c F (upd H a (.ins C dx fvs')) σ (Bc ds i p (.ins false C fds')) A'/\Stp F H (T++A) F (upd H a (.ins C dx fvs')) A':=by
 obtain⟨B,C0,r,I,J⟩:=S.place h D.noConfusion E G;cases r with
 | @ins a _ dx d _ Ael ha hk rs =>
 refine⟨a,dx,d,Ael,rfl,ha,hk,rs,λ fvs' fds' B' T n q K v=>?_⟩;have m:∀ b,A.count b=(if b=a then 1 else 0)+Ael.count b+C0.count b:=λ b=>by
   rw[I,zAl];by_cases g:b=a
   . subst g;simp;lia
   simp[g,Ne.symm g]
 have s:=m a;rw[if_pos rfl] at s;have L:=n.sep a;rw[zA0] at L;have M:=v a;have y:¬ F a:=λ f=>by have:=n.fro a f;rw[zA0] at this;lia
 have k:=qM9 (F:=F) (o':=.ins C dx fvs') ha rfl y;have rep':Rep F (upd H a (.ins C dx fvs')) (.ref a) (.ins false C fds') (a::B'):=.ins qb9 q (K.keep k λ b g w=>by subst w;have:=qa9.mp g;lia);obtain⟨A',N,q2⟩:=J _ _ k (λ b g w=>by subst w;have:=qa9.mp g;lia) rep';have t:∀ b,A'.count b=(if b=a then 1 else 0)+B'.count b+C0.count b:=λ b=>by
   rw[q2,zAl];by_cases g:b=a
   . subst g;simp;lia
   simp[g,Ne.symm g]
 have j:∀ b,A'.count b<=(T++A).count b:=λ b=>by rw[zA0,t,m];have:=v b;lia
 have O:∀ b,F b->∃ o,upd H a (.ins C dx fvs') b=some o:=λ b f=>by
   obtain⟨x,e⟩:=n.ex b f;exact⟨x,by rw[qd0 (show b≠a from λ w=>y (w ▸ f))];exact e⟩
 refine⟨A',⟨N,⟨λ b=>zAr (j b) (n.sep b),λ b f=>by have:=n.fro b f;have:=j b;lia,O⟩,S.len,S.ag⟩,λ b u e z=>?_,λ b u e z=>by have:=j b;lia,λ _ f=>f,λ _ _ _ _ f=>f⟩;rw[qd0 λ w=>?_]
 . exact e
 subst w;have:=m b;rw[if_pos rfl] at this;rw[zA0] at z;lia
def sFldV(C:Addr)(f:Str)(te:VT)(pf:PF):VTS:=λ e ds=>te ds (λ d ds1=>orF (pf ds1) λ q=>orF ((A4 ds1 q.1 q.2).bind (D.ownI C)) λ fs=>fs.length < 100/\e.nx (Bc ds1 q.1 q.2 (.ins false C (E2 f d fs)))) e.xe
theorem E3{C:Addr}{f:Str}{K:PySem.W.Frag}{pos':Pos}(G:X.K=K)(I:VP c X o pf)(k:VE c X e te)(J:Cls K C)(L:qe9 K C f)(M:swapsWith e (some (.Attribute o f pos')) pos.line X.env=pure false:=by rfl):VS c X (.Assign [.Attribute o f pos'] e pos) (sFldV C f te pf):=by
 subst G;refine⟨PS.mono (qaP5 I.h k.h M) λ E σ H n=>?_,λ s N t r=>k.m _ _ _ _ _ (λ d b=>qa4 λ _=>qa4 λ _=>And.imp_right (r.nx _)) r.xe⟩;obtain⟨F,t,A,s,S,l,q⟩:=n;refine⟨F,t,A,s.xe,S,l.xe,k.m _ _ _ _ _ (λ d b q v H1 F1 T A1 O S1 P Q=>?_) (λ _ _ z=>z) q⟩;obtain⟨⟨i,p⟩,R,q⟩:=qa6.mp q;obtain⟨U,e2,r,q⟩:=qa6.mp q;obtain⟨dl,x,V⟩:=zA1.mp e2;cases qaI3 V;refine⟨F1,b,A1,i,p,_,S1,R,x,D.noConfusion,λ u w H2 Y Z j=>?_⟩;have S2:=S1.same j;obtain⟨a,dx,g,Ael,rfl,ha,y,rs,wr⟩:=qaI2 S2 x Y Z;have B:g.length=U.length:=by have:=congrArg List.length y;simpa using this
 refine⟨a,C,dx,g,rfl,ha,J,L,by lia,?_⟩;obtain⟨m1,B',m2,m3⟩:=qT2 (f:=f) y rs (O.same j);obtain⟨A',S3,s3⟩:=wr _ _ B' T (P.same j) m1 m2 m3;exact l.nx _ σ _ F1 A' q S3 (Q.trans ((Stp.same j).trans s3))
def gAllV(pf:PF):VTG:=λ d ds Q=>orF (pf ds) λ q=>orF ((A4 ds q.1 q.2).bind D.own) λ xs=>orF (match d with | .lst _ ys=>some ys | _=>none) λ ys=>D.imms ys=true/\xs.length+ys.length<=big/\Q (Bc ds q.1 q.2 (.lst false ys))
def Es(x:V):List V->Option Nat
 | []=>none
 | y::r=>if eqV y x=true then some 0 else (Es x r).map (· + 1)
theorem qat8{x:V}:∀{xs:List V}{j:Nat},Es x xs=some j->∃ z,xs[j]? = some z/\eqV z x=true/\∀ m z',m < j->xs[m]? = some z'->eqV z' x=false
 | [],j,h=>by cases h
 | y::r,j,h=>by
   unfold Es at h;by_cases a:eqV y x=true
   . rw[if_pos a] at h;cases h
     exact⟨y,rfl,a,λ m z' c=>by lia⟩
   rw[if_neg a] at h;obtain⟨k,d,rfl⟩:=zAd.mp h;obtain⟨z,e,f,g⟩:=qat8 d;refine⟨z,by simpa using e,f,λ m z' c b=>?_⟩;cases m with
   | zero =>
     have:y=z':=by simpa using b
     subst this;simpa using a
   | succ m=>exact g m z' (by lia) (by simpa using b)
def gIdx(x y:D):Option D:=match x with
 | .lst _ ys=>y.flat.bind λ v=>(flats ys).bind λ a=>(Es v a).map λ j=>.int (j:Nat)
 | _=>none
def Iq(x y:D):Option D:=match x with
 | .lst _ ys=>y.flat.bind λ v=>(flats ys).bind λ a=>some (.int (a.countP (λ z=>eqV z v):Nat))
 | _=>none
def rL1(r:V->List V->Hp->VK->Prop):R2:=λ x y H Q=>r x [y] H Q
theorem qaI4:A9 true (rL1 qaF4) gIdx:=by
 intro F H v w x y B d Q r h q;cases r with | @cons _ _ A _ _ _ b t=>cases t with | @cons _ _ A2 _ _ _ c _ =>
 cases x with
 | lst z s =>
   obtain⟨u,e,h⟩:=zA1.mp h;obtain⟨C,i,h⟩:=zA1.mp h;obtain⟨j,k,rfl⟩:=zAd.mp h;obtain⟨rfl,f⟩:=c.flat e;obtain⟨a,l,A3,rfl,m,n,_⟩:=b.lst_inv;obtain⟨rfl,g⟩:=n.flats i;obtain⟨z,o,q2,p⟩:=qat8 k;exact⟨a,l,w,j,z,rfl,rfl,m,f,g,o,q2,p,q _ H [] (.int _) (λ _ _ z=>z) New.nil⟩
 | _=>cases h
theorem qaQ7:A9 true (rL1 qaF6) Iq:=by
 intro F H v w x y B d Q r h q;cases r with | @cons _ _ A _ _ _ b t=>cases t with | @cons _ _ A2 _ _ _ c _ =>
 cases x with
 | lst z m =>
   obtain⟨n,e,h⟩:=zA1.mp h;obtain⟨o,i,h⟩:=zA1.mp h;cases h;obtain⟨rfl,f⟩:=c.flat e;obtain⟨a,j,A3,rfl,k,l,_⟩:=b.lst_inv;obtain⟨rfl,g⟩:=l.flats i;exact⟨a,j,w,rfl,rfl,k,f,g,q _ H [] (.int _) (λ _ _ z=>z) New.nil⟩
 | _=>cases h
theorem vbm{r:V->List V->Hp->VK->Prop}{g:D->D->Option D}{name:Str}{id:String}(C:A9 true (rL1 r) g)(E:PlainAttrs "list")(slot:Slot "list" name id)(i:typeOf (.builtin id)=pure (.type "method_descriptor"))(hm:MtM X id r)(G:VV c X o oa fa)(I:VV c X b ob fb)(J:∀ x y d,g x y=some d->∃ z ys,x=.lst z ys)(hbase:attributeBase o name X.env (eval o X.env)=eval o X.env:=by rfl)(f:((backTo cpos (starEach [b] X.env)).all (λ x=>!x.1)&&(backToKw cpos (keywordEach [] X.env)).all (λ x=>x.1.isSome)
     && decide (([b]:List Expr).length+([]:List Keyword).length+(if ([]:List Keyword).isEmpty then 0 else 1) < 30))=true:=by rfl)(hline:(apos.endLine == cpos.line)=true:=by rfl)(n:starEach [b] X.env=(false,eval b X.env)::starEach [] X.env:=by rfl)(hplain:(backTo cpos (starEach [] X.env)).any (·.1)=false:=by rfl) :
   VV c X (.Call (.Attribute o name apos) [b] [] cpos) true (f2 g fa fb):=by
 refine⟨PE.mono (Hv E slot i hm G.h (qh2 I.h qC7 n) hbase f hline n hplain) λ σ H Q j=>?_⟩;obtain⟨F,p,A,d,S,e,q⟩:=j;obtain⟨x,y,K,L,s⟩:=qaC1.mp e;obtain⟨z,ys,rfl⟩:=J x y d s;refine⟨F,p,A,_,S,K,λ v H1 B1 t k R=>?_⟩;obtain⟨a,M,A3,rfl,l,T,_⟩:=t.lst_inv;refine⟨.inl ⟨rfl,M,.inl (.inl l)⟩,F,p,A,y,S.same k,L,λ w H2 B2 N m U=>?_⟩;exact C F H2 _ w _ y _ d Q (Fo (t.same m) N) s λ u H3 B3 O P B=>q u H3 B3 O ((k.trans m).trans P) λ _=>⟨B.one,λ b o e=>B.new b o (m b o (k b o e))⟩
theorem qat7:∀ x y d,gIdx x y=some d->∃ z ys,x=.lst z ys:=λ x y d h=>by cases x with | lst z ys=>exact⟨z,ys,rfl⟩ | _=>cases h
theorem qaN1:∀ x y d,Iq x y=some d->∃ z ys,x=.lst z ys:=λ x y d h=>by cases x with | lst z ys=>exact⟨z,ys,rfl⟩ | _=>cases h
end
def Dk(g:VTG)(t:VTS)(e:VEnds):List D->Ds->Prop
 | [],ds=>e.nx ds
 | x::xs,ds=>g x ds λ ds1=>t { e with nx:=Dk g t e xs,ct:=Dk g t e xs,bk:=e.nx } ds1
def whN(qc:VTT)(t:VTS)(e:VEnds):Nat->Ds->Prop
 | 0,_=>False
 | n+1,ds=>qc ds (λ b ds1=>if b=true then t { e with nx:=whN qc t e n,ct:=whN qc t e n,bk:=e.nx } ds1 else e.nx ds1) e.xe
def qaE7(qc:VTT)(t:VTS):VTS:=λ e ds=>∃ n,whN qc t e n ds
section
variable{c:Vc}{X:Cx}{a b e tg:Expr}{body:List Stmt}{g:VTG}{t:VTS}{te:VT}{qc:VTT}{pos:Pos}
theorem qs6(d:VG c X tg g)(e:VSs c X body t){en b:VEnds}(a:en.Le b):∀(xs:List D) ds,Dk g t en xs ds->Dk g t b xs ds
 | [],ds=>a.nx ds
 | x::xs,ds=>d.m _ _ _ _ λ f=>e.m _ _ _ ⟨qs6 d e a xs,a.rt,a.nx,qs6 d e a xs,a.xe⟩
theorem qN1{cd:Expr}(e:VTe c X cd qc)(f:VSs c X body t){en d:VEnds}(a:en.Le d):∀(n:Nat) ds,whN qc t en n ds->whN qc t d n ds
 | 0,ds=>id
 | n+1,ds=>e.m _ _ _ _ _ (λ b g=>qL0 (f.m _ _ _ ⟨qN1 e f a n,a.rt,a.nx,qN1 e f a n,a.xe⟩) (a.nx _)) a.xe
theorem qab7(r:PassesOwn (model X.prog X.w) X.A X.env X.xe)(g:VTe c X cd qc)(o:VSs c X body t):VS c X (.While cd body [] pos) (qaE7 qc t):=by
 refine⟨PS.mono (qax2 r g.h o.h) λ E σ H i=>?_,λ d s e u ⟨n,q⟩=>⟨n,qN1 g o u n e q⟩⟩;obtain⟨F,e,A,d,S,l,n,q⟩:=i;refine⟨λ m σ H=>∃ F e A,Sta c F H σ e A/\Lk c E F H A d/\whN qc t d m e,⟨n,F,e,A,S,l,q⟩,?_⟩;rintro m σ H ⟨F,e,A,S,l,q⟩;cases m with
 | zero=>exact q.elim
 | succ m =>
   refine⟨F,e,A,d.xe,S,l.xe,g.m _ _ _ _ _ (λ b j q H1 F1 A1 S1 p=>?_) (λ _ _ z=>z) q⟩;cases b with
   | false=>rw[if_neg (by decide)] at q ⊢;exact l.nx _ _ _ _ _ q S1 p
   | true =>
     rw[if_pos rfl] at q ⊢;have f:=l.step p;refine⟨λ σ' H'=>∃ F' a A',Sta c F' H' σ' a A'/\Lk c E F' H' A' d/\whN qc t d m a,λ σ' H' h=>⟨m,by lia,h⟩,F1,j,A1,{ d with nx:=whN qc t d m,ct:=whN qc t d m,bk:=d.nx },S1,⟨?_,f.rt,f.nx,?_,f.xe⟩,q⟩
     . exact λ a σ' H' F' A' q S' k=>⟨F',a,A',S',f.step k,q⟩
     exact λ a σ' H' F' A' q S' k=>⟨F',a,A',S',f.step k,q⟩
theorem qab0{E:Dr}{en:VEnds}{F:Addr->Prop}{H:Hp}{σ:St}{ds:Ds}{A:List Addr}{x:V}{y:D}{N:St->Hp->Prop}{b:Ds->Prop}(i:VG c X tg g)(S:Sta c F H σ ds A)(l:Lk c E F H A en)(r:Rep F H x y [])(h:∀ a σ' H' F' A',b a->Sta c F' H' σ' a A'->Stp F H A F' H' A'->N σ' H')(q:g y ds λ ds1=>t { en with nx:=b,ct:=b,bk:=en.nx } ds1) :
   Fg c g x σ H λ σ2 H2=>Ey c t { E with nx:=N,ct:=N,bk:=E.nx } σ2 H2:=by
 refine⟨F,ds,A,[],y,r,S,S.ok,i.m _ _ _ _ (λ ds1 q σ1 H1 F1 A1 S1 d=>?_) q⟩;have e:=l.step d;exact⟨F1,ds1,A1,{ en with nx:=b,ct:=b,bk:=en.nx },S1,⟨λ a σ' H' F' A' q S' f=>h a σ' H' F' A' q S' (Stp.trans d f),e.rt,e.nx,λ a σ' H' F' A' q S' f=>h a σ' H' F' A' q S' (Stp.trans d f),e.xe⟩,q⟩
noncomputable def D.lstOf:D->Option Ds
 | .lst _ ys=>some ys
 | _=>none
theorem qA6{d:D}{ys:Ds}(h:d.lstOf=some ys):∃ z,d=.lst z ys:=by
 cases d with
 | lst z a=>cases h;exact⟨z,rfl⟩
 | _=>cases h
theorem qv6:∀{ys:List D}{i:Nat}{y:D},D.imms ys=true->ys[i]? = some y->y.imm=true
 | [],i,y,_,h=>by simp at h
 | d::r,0,y,hm,h=>by
   have:d=y:=by simpa using h
   subst this;exact(zAc.mp hm).1
 | d::r,i+1,y,hm,h=>qv6 (zAc.mp hm).2 (by simpa using h)
theorem qs9{xs:List α}{x:α}(h:xs[i]? = some x):xs.drop i=x::xs.drop (i+1):=by
 obtain⟨a,rfl⟩:=zA2.mp h;exact List.drop_eq_getElem_cons a
def sForL(te:VT)(g:VTG)(t:VTS):VTS:=λ e ds=>te ds (λ d ds1=>orF d.lstOf λ ys=>D.imms ys=true/\Dk g t e ys ds1) e.xe
theorem sforL(hp:PassesOwn (model X.prog X.w) X.A X.env X.xe)(hi:VE c X e te)(G:VG c X tg g)(Q:VSs c X body t)(R:X.calm=true:=by rfl)(I:∀ v,foldedSetIterable e X.env v=pure v:=by intro _;rfl):VS c X (.For tg e body [] pos) (sForL te g t):=by
 refine⟨PS.mono (qax3 hp R (qz9 hi.h) G.h Q.h I) λ E σ H J=>?_,λ s a0 k U=>hi.m _ _ _ _ _ (λ d n=>qa4 λ u=>And.imp_right (qs6 G Q U u n)) U.xe⟩;obtain⟨F,k,A,s,S,l,q⟩:=J;refine⟨F,k,A,s.xe,S,l.xe,hi.m _ _ _ _ _ (λ d n q v H1 F1 T A1 V S1 o1 s1=>?_) (λ _ _ z=>z) q⟩;obtain⟨u,ey,hm,qf⟩:=qa6.mp q;obtain⟨z,rfl⟩:=qA6 ey;obtain⟨a,C,Ael,rfl,j,rs,_⟩:=V.lst_inv;have L:Stp F H A F1 H1 A1:=s1.count λ b=>by rw[zA0];lia
 refine⟨a,rfl,⟨C,.inl (.inl j)⟩,qai4 (K:=X.K) (a:=a) (xs:=C) (λ i σ H=>∃ F k A,Sta c F H σ k A/\Lk c E F H A s/\Rep F H (.ref a) (.lst z u) T/\H a=some (.lst C)/\Ok F H (T++A)/\Dk g t s (u.drop i) k) ⟨F1,n,A1,S1,l.step L,V,j,o1,qf⟩ ?_ ?_ ?_⟩
 . rintro i σ H _ ⟨F,k,A,S,l,r,j,o,q⟩
   exact .inl (.inl j)
 . rintro i x σ H hx ⟨F,k,A,S,l,r,j,o,q⟩
   obtain⟨a',a1,Ael',ea,p,M,_⟩:=r.lst_inv;cases ea;rw[j] at p;cases p;obtain⟨y,B,W,Y⟩:=M.getV hx
   have:=Y.imm (qv6 hm W)
   subst this;rw[qs9 W] at q;refine qab0 G S l Y (λ N σ' H' F' A' q' S' O=>?_) q;have D:=O.kp S.ok S.loc.cells;have Z:∀ b∈T,¬ (A.count b≠0):=λ b hb R=>by
     have:=o.sep b
     rw[zA0] at this
     have:=qa9.mp hb
     lia
   have r':=r.keep D Z;obtain⟨o',_⟩:=O.frame o r.cells S'.ok;have P:H' a=some (.lst C):=by
     cases r with
     | lst h _=>exact D.fr _ _ j (Z _ zAb)
     | lstZ h f _=>exact D.fr _ _ j λ w=>D.wf _ w f
   exact⟨F',N,A',S',l.step O,r',P,o',q'⟩
 rintro σ H ⟨F,k,A,S,l,r,j,o,q⟩;rw[rs.len,List.drop_length] at q;exact l.nx _ _ _ _ _ q S Stp.refl
noncomputable def Dl(lo:Int)(n:Nat):List D:=(List.range n).map λ(i:Nat)=>.int (lo+(i:Int))
theorem qar9{lo:Int}(h:i < n):(Dl lo n)[i]? = some (.int (lo+(i:Int))):=by
 unfold Dl;rw[zB2,List.getElem?_range h];rfl
theorem qaE9(lo:Int)(n:Nat):(Dl lo n).length=n:=by simp[Dl]
noncomputable def Go(i:Int):Bool:=decide (-(2 ^ 62)<=i)&&decide (i < 2 ^ 62)
theorem qaA1{i:Int}(h:Go i=true):-(2 ^ 62)<=i/\i < 2 ^ 62:=by
 have:=zAc.mp h
 exact⟨zA8 this.1,zA8 this.2⟩
theorem qaM1{E:Dr}{en:VEnds}{F:Addr->Prop}{H:Hp}{σ:St}{ds:Ds}{A:List Addr}{lo:Int}(d:VG c X tg g)(S:Sta c F H σ ds A)(l:Lk c E F H A en)(q:Dk g t en (Dl lo n) ds) :
   ∃ W:Nat->Nat->St->Hp->Prop,(∃ m,W 0 m σ H)/\∀ i m σ H,W i m σ H ->
     ((Itr lo n).stop i H/\E.nx σ H)∨((Itr lo n).go i H/\∃ N:St->Hp->Prop,(∀ σ' H',N σ' H'->∃ b,b < m/\W (i+1) b σ' H')/\∀ x H',(Itr lo n).yld i H x H'->Fg c g x σ H' λ σ2 H2=>Ey c t { E with nx:=N,ct:=N,bk:=E.nx } σ2 H2):=by
 refine qao7 (λ i σ H=>∃ F ds A,Sta c F H σ ds A/\Lk c E F H A en/\Dk g t en ((Dl lo n).drop i) ds) ⟨F,ds,A,S,l,q⟩ ?_ ?_
 . rintro i σ H e ⟨F,ds,A,S,l,q⟩
   rw[qs9 (qar9 e)] at q;exact qab0 d S l (.int _) (λ a σ' H' F' A' f S' h=>⟨F',a,A',S',l.step h,f⟩) q
 rintro σ H ⟨F,ds,A,S,l,q⟩;rw[List.drop_of_length_le (by rw[qaE9];exact zA3 _)] at q;exact l.nx _ _ _ _ _ q S Stp.refl
noncomputable def one1:Ds->Option Int
 | [.int j]=>some j
 | _=>none
theorem qaI8{xs:Ds}{j:Int}(h:one1 xs=some j):xs=[.int j]:=by
 unfold one1 at h;split at h
 . cases h;rfl
 cases h
def qam2(tr:VTA)(g:VTG)(t:VTS):VTS:=λ e ds=>tr ds (λ xs ds1=>orF (one1 xs) λ j=>Go j=true/\Dk g t e (Dl 0 j.toNat) ds1) e.xe
theorem qY4{tr:VTA}{p cpos:Pos}(s:PassesOwn (model X.prog X.w) X.A X.env X.xe)(hm:X.mg "range" = none)(d:VOs c X [a] tr)(e:VG c X tg g)(k:VSs c X body t)(f:Gl X "range" := by rfl)(u:starEach [a] X.env=[(false,eval a X.env)]:=by rfl)(x:X.calm=true:=by rfl) :
   VS c X (.For tg (.Call (.Name "range" p) [a] [] cpos) body [] pos) (qam2 tr g t):=by
 refine⟨PS.mono (qax3 s x (qam7 f hm d.h u) e.h k.h) λ E σ H i=>?_,λ n y o r=>d.m _ _ _ _ _ (λ B b=>qa4 λ j=>And.imp_right (qs6 e k r _ b)) r.xe⟩;obtain⟨F,o,A,n,S,l,q⟩:=i;refine⟨F,o,A,n.xe,S,l.xe,d.m _ _ _ _ _ (λ B b q K H1 F1 T A1 C S1 D=>?_) (λ _ _ z=>z) q⟩;obtain⟨j,G,hm,I⟩:=qa6.mp q;cases qaI8 G;obtain⟨v,rfl,J⟩:=C.one_inv;cases J
 have:=qaA1 hm
 exact⟨j,rfl,this.1,this.2,qaM1 e S1 (l.step D) I⟩
def tFzV(te:VT):VT:=λ ds Q xe=>te ds (λ d ds1=>Q d.fz ds1) xe
theorem Hk(h:VE c X e te):VE c X e (tFzV te):=by
 refine⟨PE.mono h.h λ σ H Q a=>?_,λ i Q Q' j n o p=>h.m _ _ _ _ _ (λ d g=>o _ _) p⟩;obtain⟨F,i,A,j,S,x,q⟩:=a;refine⟨F,i,A,j,S,x,h.m _ _ _ _ _ (λ d g q v H1 F1 T A1 k S1 r s=>?_) (λ _ _ z=>z) q⟩;have t:=k.fz (F':=λ b=>F1 b∨b∈T) (λ b f=>.inl f) λ b u=>.inr u
 obtain⟨l,w⟩:=share (A:=T++A1) (B:=T) (C:=A1) r (λ b=>by rw[zA0]) k.cells (A':=A1) (λ b=>rfl);have L:=S1.loc.keep (Kp.more (H:=H1) λ b f=>Or.inl (b:=b∈T) f) λ _ _ z=>z
 exact q v H1 _ [] A1 t ⟨L,l,S1.len,S1.ag⟩ l (s.trans w)
end
def bk1(i:Nat)(p:List Nat)(w:V)(d0:D)(ds:Ds):Option Ds:=Am [.pl i p w] [d0] ds
def G7(i:Nat)(p:List Nat)(w:V)(d0:D)(e:VEnds):VEnds where
 nx ds:=orF (bk1 i p w d0 ds) e.nx
 rt d ds:=orF (bk1 i p w d0 ds) (e.rt d)
 bk ds:=orF (bk1 i p w d0 ds) e.bk
 ct ds:=orF (bk1 i p w d0 ds) e.ct
 xe x ds:=orF (bk1 i p w d0 ds) (e.xe x)
section
variable{c:Vc}{X:Cx}{a b e tg o:Expr}{body:List Stmt}{g:VTG}{t:VTS}{pos:Pos}{pf:PF}{F F1:Addr->Prop}{H H1:Hp}{σ:St}{ds ds1:Ds}{A A1 B:List Addr}{E:Dr}{en:VEnds}
theorem qs2{p:List Nat}{d0:D}{F':Addr->Prop}{H':Hp}{a d:Ds}{A':List Addr}(f:Ok F1 H1 (B++A1))(S1:Sta c F1 H1 σ ds1 A1)(r:Rep F1 H1 w d0 B)(S':Sta c F' H' σ' a A')(s':Stp F1 H1 A1 F' H' A')(h:bk1 i p w d0 a=some d) :
   ∃ A2,Sta c F' H' σ' d A2/\Ok F' H' (B++A')/\Stp F1 H1 (B++A1) F' H' (B++A')/\∀ b,A2.count b<=B.count b+A'.count b:=by
 obtain⟨g,j⟩:=s'.frame f r.cells S'.ok;have k:Rep F' H' w d0 B:=r.keep (s'.kp S1.ok S1.loc.cells) λ b l e=>by
   have:=f.sep b
   rw[zA0] at this
   have:=qa9.mp l
   lia
 obtain⟨A2,m,q2⟩:=qw3 (pls:=[.pl i p w]) (vs:=[w]) (more:=[]) (ys:=[d0]) (.so .nil) (.cons k .nil) S'.loc h;have e:∀ b,A2.count b<=B.count b+A'.count b:=λ b=>by have:=q2 b;simp only[zAg] at this;exact this
 exact⟨A2,⟨m,g.count λ b=>by rw[zA0];exact e b,S'.len,S'.ag⟩,g,j,e⟩
theorem Lk.lend{p:List Nat}{d0:D}(l:Lk c E F H A en)(k:Stp F H A F1 H1 (B++A1))(j:Ok F1 H1 (B++A1))(S1:Sta c F1 H1 σ ds1 A1)(r:Rep F1 H1 w d0 B):Lk c E F1 H1 A1 (G7 i p w d0 en) where
 nx ds' σ' H' F' A' q S' s':=by
   obtain⟨a,f,q⟩:=qa6.mp q;obtain⟨A2,S2,n,h,g⟩:=qs2 j S1 r S' s' f;exact l.nx _ _ _ _ A2 q S2 ((k.trans h).count λ b=>by rw[zA0];exact g b)
 bk ds' σ' H' F' A' q S' s':=by
   obtain⟨a,f,q⟩:=qa6.mp q;obtain⟨A2,S2,n,h,g⟩:=qs2 j S1 r S' s' f;exact l.bk _ _ _ _ A2 q S2 ((k.trans h).count λ b=>by rw[zA0];exact g b)
 ct ds' σ' H' F' A' q S' s':=by
   obtain⟨a,f,q⟩:=qa6.mp q;obtain⟨A2,S2,n,h,g⟩:=qs2 j S1 r S' s' f;exact l.ct _ _ _ _ A2 q S2 ((k.trans h).count λ b=>by rw[zA0];exact g b)
 xe x ds' σ' e H' F' A' q rx S' s':=by
   obtain⟨a,f,q⟩:=qa6.mp q;obtain⟨A2,S2,n,h,g⟩:=qs2 j S1 r S' s' f;exact l.xe x a σ' e H' F' A2 q rx S2 ((k.trans h).count λ b=>by rw[zA0];exact g b)
 rt d ds' v σ' H' F' T A' q rv S' oT s':=by
   obtain⟨a,f,q⟩:=qa6.mp q;have o:Stp F1 H1 A1 F' H' A':=s'.count λ b=>by rw[zA0];lia
   obtain⟨A2,S2,n,h,g⟩:=qs2 j S1 r S' o f;obtain⟨s,t⟩:=s'.frame j r.cells oT;have m:∀ b,(T++A2).count b<=(B++(T++A')).count b:=λ b=>by simp only[zA0];have:=g b;lia
   exact l.rt d a v σ' H' F' T A2 q rv S2 (s.count m) ((k.trans t).count m)
theorem qaK0{p:List Nat}{d0:D}{en a:VEnds}(b:en.Le a):(G7 i p w d0 en).Le (G7 i p w d0 a) :=
 ⟨λ c=>qa4 b.nx,λ d c=>qa4 (b.rt d),λ c=>qa4 b.bk,λ c=>qa4 b.ct,λ x c=>qa4 (b.xe x)⟩
structure Held(F:Addr->Prop)(H:Hp)(a:Addr)(vs:List V)(z:Bool)(ys:Ds)(T A:List Addr):Prop where
 r:Rep F H (.ref a) (.lst z ys) T
 h:H a=some (.lst vs)
 o:Ok F H (T++A)
theorem Held.step{ys:Ds}{T:List Addr}{a:Addr}{F':Addr->Prop}{H':Hp}{e:Ds}{A':List Addr}(h:Held F H a vs z ys T A)(S:Sta c F H σ ds A)(S':Sta c F' H' σ' e A')(s':Stp F H A F' H' A'):Held F' H' a vs z ys T A':=by
 obtain⟨r,g,o⟩:=h;have d:=s'.kp S.ok S.loc.cells;have i:∀ b∈T,¬ (A.count b≠0):=λ b j k=>by
   have:=o.sep b
   rw[zA0] at this
   have:=qa9.mp j
   lia
 refine⟨r.keep d i,?_,(s'.frame o r.cells S'.ok).1⟩;cases r with
 | lst h _=>exact d.fr _ _ g (i _ zAb)
 | lstZ h f _=>exact d.fr _ _ g λ w=>d.wf _ w f
theorem Held.get{ys:Ds}{T:List Addr}{a:Addr}{x:V}(h:Held F H a vs z ys T A)(hm:D.imms ys=true)(f:vs[i]? = some x):∃ y,ys[i]? = some y/\Rep F H x y []:=by
 obtain⟨k,g,Ael',j,b,c,_⟩:=h.r.lst_inv;cases j
 have:=h.h
 rw[b] at this;cases this;obtain⟨y,B,d,e⟩:=c.getV f
 have:=e.imm (qv6 hm d)
 subst this;exact⟨y,d,e⟩
theorem Held.len{ys:Ds}{T:List Addr}{a:Addr}(h:Held F H a vs z ys T A):vs.length=ys.length:=by
 obtain⟨f,d,Ael',e,b,c,_⟩:=h.r.lst_inv;cases e
 have:=h.h
 rw[b] at this;cases this;exact c.len
theorem qR1{K:PySem.W.Frag}{ys:Ds}{T:List Addr}{a:Addr}(j:VG c X tg g)(S:Sta c F H σ ds A)(l:Lk c E F H A en)(b:Held F H a vs z ys T A)(hm:D.imms ys=true)(q:Dk g t en ys ds) :
   ∃ W:Nat->Nat->St->Hp->Prop,(∃ m,W 0 m σ H)/\∀ i m σ H,W i m σ H ->
     ((Itl K a).stop i H/\E.nx σ H)∨((Itl K a).go i H/\∃ N:St->Hp->Prop,(∀ σ' H',N σ' H'->∃ e,e < m/\W (i+1) e σ' H')/\∀ x H',(Itl K a).yld i H x H'->Fg c g x σ H' λ σ2 H2=>Ey c t { E with nx:=N,ct:=N,bk:=E.nx } σ2 H2):=by
 refine qai4 (xs:=vs) (λ i σ H=>∃ F ds A,Sta c F H σ ds A/\Lk c E F H A en/\Held F H a vs z ys T A/\Dk g t en (ys.drop i) ds) ⟨F,ds,A,S,l,b,q⟩ ?_ ?_ ?_
 . rintro i σ H _ ⟨F,ds,A,S,l,b,q⟩
   exact .inl (.inl b.h)
 . rintro i x σ H k ⟨F,ds,A,S,l,b,q⟩
   obtain⟨y,n,o⟩:=b.get hm k;rw[qs9 n] at q;exact qab0 j S l o (λ d σ' H' F' A' p S' f=>⟨F',d,A',S',l.step f,b.step S S' f,p⟩) q
 rintro σ H ⟨F,ds,A,S,l,b,q⟩;rw[b.len,List.drop_length] at q;exact l.nx _ _ _ _ _ q S Stp.refl
def sForP(pf:PF)(g:VTG)(t:VTS):VTS:=λ e ds=>orF (pf ds) λ q=>orF (A4 ds q.1 q.2) λ d=>orF d.lstOf λ ys=>D.imms ys=true/\∀ w,Dk g t (G7 q.1 q.2 w d e) ys (Bc ds q.1 q.2 (.hole w))
theorem Ir(J:PassesOwn (model X.prog X.w) X.A X.env X.xe)(hi:VP c X o pf)(j:VG c X tg g)(y:VSs c X body t)(K:X.calm=true:=by rfl)(k:∀ v,foldedSetIterable o X.env v=pure v:=by intro _;rfl):VS c X (.For tg o body [] pos) (sForP pf g t):=by
 refine⟨PS.mono (qax3 J K (qz9 hi.h) j.h y.h k) λ E σ H m=>?_,λ L M n N=>qa4 λ q=>qa4 λ d=>qa4 λ O=>And.imp_right λ h w=>qs6 j y (qaK0 N) _ _ (h w)⟩;obtain⟨F,n,A,L,S,l,q⟩:=m;obtain⟨⟨i,p⟩,P,q⟩:=qa6.mp q;obtain⟨d,e2,q⟩:=qa6.mp q;obtain⟨O,Q,R,q⟩:=qa6.mp q;obtain⟨z,rfl⟩:=qA6 Q;refine⟨F,n,A,i,p,_,S,P,e2,D.noConfusion,λ u w H1 T U s=>?_⟩;obtain⟨B,C,r,G,V⟩:=(S.same s).place e2 D.noConfusion T U;obtain⟨A1,W,q2⟩:=V (.hole w) [] (Kp.same (F:=F) λ _ _ z=>z) (λ _ _ z=>z) (.hole w);have x:Ok F H1 (B++A1):=(S.same s).ok.count λ b=>by rw[zA0,q2,G];simp
 have Y:Stp F H A F H1 (B++A1):=⟨λ b o e _=>s b o e,λ b o e z=>by rw[zA0,q2];have:=G b;simp;lia,λ _ f=>f,λ _ _ _ _ f=>f⟩
 have S1:Sta c F H1 σ (Bc n i p (.hole w)) A1:=⟨W,x.right,S.len,S.ag⟩
 obtain⟨a,Z,Ael,rfl,I,rs,_⟩:=r.lst_inv;exact⟨a,rfl,⟨Z,.inl (.inl I)⟩,qR1 j S1 (l.lend Y x S1 r) ⟨r,I,x⟩ R (q _)⟩
noncomputable def enD(ys:Ds):List D:=ys.zipIdx.map λ p=>.tup [.int (p.2:Int),p.1]
theorem qaU8{ys:Ds}{y:D}(h:ys[i]? = some y):(enD ys)[i]? = some (.tup [.int (i:Int),y]):=by
 unfold enD;rw[zB2,List.getElem?_zipIdx,h];simp
theorem qaC3(ys:Ds):(enD ys).length=ys.length:=by simp[enD]
end
noncomputable def fin(W:Nat->Bool):Nat->Ds->Ds->Ds
 | k,d::r,d'::r'=>(if W k=true then d' else d)::fin W (k+1) r r'
 | _,_,_=>[]
noncomputable def Gq(W:Nat->Bool):Nat->Ds->Bool
 | _,[]=>true
 | k,d::r=>(W k||d.imm)&&Gq W (k+1) r
def qap5(W:Nat->Bool)(ds:Ds)(Q:DK)(xe:XKd):VEnds where
 nx ds':=Q .non (fin W 0 ds ds')
 rt d ds':=Q d (fin W 0 ds ds')
 bk _:=False
 ct _:=False
 xe x ds':=xe x (fin W 0 ds ds')
section
variable{F F':Addr->Prop}{H H':Hp}
theorem qaU3{W:Nat->Bool}{Wr:Addr->Prop}(q:Kp F H Wr F' H'):∀{vs:List V}{ds:Ds}{A:List Addr}{k:Nat}{σ':List (Option V)}{a:Ds}{A':List Addr},Reps F H vs ds A->Gq W k ds=true->Locs F' H' σ' a A'->vs.length<=σ'.length->(∀ i,i < vs.length->W (k+i)=true->σ'[i]? = (vs.map some)[i]?) ->
   ∃ A2,Reps F' H' vs (fin W k ds a) A2/\∀ b,A2.count b<=A'.count b:=by
 intro vs
 induction vs with
 | nil =>
   intro ds A k σ' a A' r g L n l;cases r;exact⟨[],by cases a<;>exact .nil,λ b=>by simp⟩
 | cons v vs s =>
   intro ds A k σ' a A' r g L n l;cases r with
   | @cons _ d B _ ds B2 r1 t =>
     have g:=zAc.mp g;have step:∀{σ2:List (Option V)}{f:Ds}{A2:List Addr}(o:Option V),σ'=o::σ2->Locs F' H' σ2 f A2->∃ A3,Reps F' H' vs (fin W (k+1) ds f) A3/\∀ b,A3.count b<=A2.count b:=λ{σ2 f A2} o e L2=>by
       subst e;refine s t g.2 L2 (by simpa using n) λ i j c=>?_
       have:=l (i+1) (by simpa using j) (by rw[<- c];congr 1;lia)
       simpa using this
     cases L with
     | nil=>simp at n
     | no L2 =>
       obtain⟨A3,m,q2⟩:=step none rfl L2;by_cases c:W k=true
       . have:=l 0 (by simp) (by simpa using c)
         simp at this
       have j:d.imm=true:=by
         rcases Bool.or_eq_true_iff.mp g.1 with h | h
         . exact absurd h c
         exact h
       have:=r1.imm j
       subst this;refine⟨[]++A3,?_,λ b=>by simpa using q2 b⟩;show Reps F' H' (v::vs) ((if W k=true then _ else d)::_) _;rw[if_neg c];exact .cons (r1.keep q λ b p=>by cases p) m
     | @so v' d' B' σ2 f A2 rr L2 =>
       obtain⟨A3,m,q2⟩:=step (some v') rfl L2;by_cases c:W k=true
       . have:=l 0 (by simp) (by simpa using c)
         simp at this;subst this;refine⟨B'++A3,?_,λ b=>by simp only[zA0];have:=q2 b;lia⟩;show Reps F' H' (v'::vs) ((if W k=true then d' else d)::_) _;rw[if_pos c];exact .cons rr m
       have j:d.imm=true:=by
         rcases Bool.or_eq_true_iff.mp g.1 with h | h
         . exact absurd h c
         exact h
       have:=r1.imm j
       subst this;refine⟨[]++A3,?_,λ b=>by simp only[zB8,zA0];have:=q2 b;lia⟩;show Reps F' H' (v::vs) ((if W k=true then d' else d)::_) _;rw[if_neg c];exact .cons (r1.keep q λ b p=>by cases p) m
theorem Reps.locs{ds:Ds}{A:List Addr}(r:Reps F H vs ds A):Locs F H (vs.map some) ds A:=by
 induction vs generalizing ds A with
 | nil=>cases r;exact .nil
 | cons v vs a=>cases r with | cons h t=>exact .so h (a t)
theorem qH6:∀ n:Nat,Locs F H (List.replicate n none) (List.replicate n .unk) []
 | 0=>.nil
 | n+1=>.no (qH6 n)
end
structure FunE(K:PySem.W.Frag)(x qual:Str)(st:Stmt)(f:Addr)(fd:FuncData):Prop where
 ex:∃(oc:Value)(od:Option Addr)(dV kV doc pm:Value)(an:Option Addr)(cdv ct:Value)(osl:Array (Option Value)),
   fd=PySem.W.fnOf x qual (qf1 st) (qc9 st) (qa3 st) dV kV doc pm an cdv ct/\K.lookup f=some ⟨oc,od,.func fd,osl⟩/\PySem.W.codeIn K cdv qual=true
theorem FunE.of{K:PySem.W.Frag}{x qual:Str}{st:Stmt}{f:Addr}{fd:FuncData}(F:Fun K x qual st f fd):FunE K x qual st f fd:=by
 obtain⟨a,b,c,d,g,h,i,j,k,l,m,n⟩:=F.ex;exact⟨⟨a,b,.none,c,d,g,h,i,j,k,l,m,n⟩⟩
theorem FunE.okX{P:Program}{w:World}{K:PySem.W.Frag}{x qual:Str}{st:Stmt}{f:Addr}{fd:FuncData}{ps:List Str}{k:Nat}{sp:Sp}(F:FunE K x qual st f fd)(S:qa8 N ps (qa3 st))(len:∀ vs H Q E,sp vs H Q E->vs.length=ps.length)(hbody:∀(a:Value)(A:Around)(outer:List Env)(s:Shared)(H:Hp)(vs:List V)(Q:VK)(E:XK),Room k (A.deeper (PyProof.Rows.envOfC qual (qa3 st) s.heap.objs.size f a))->sp vs H Q E ->
     ∃ t,PSs (Dt (CX1 P w) P w K mg base N qual (qa3 st) f a A outer s H E) (qc9 st) t/\t { nx:=λ _ H'=>Q .non H',rt:=Q } (L2.start N vs) H):Bz P w K mg base (CX1 P w) (k+1) f fd ps sp:=by
 obtain⟨i,j,l,kV,d,m,n,a,o,e,rfl,g,b⟩:=F.ex;exact Hu g b S len λ A outer s H vs Q E h c=>hbody a A outer s H vs Q E h c
theorem VFn.mkE{P:Program}{w:World}{K:PySem.W.Frag}{x qual:Str}{st:Stmt}{f:Addr}{fd:FuncData}{ps:List Str}{k:Nat}{s:VSp}(Fu:FunE K x qual st f fd)(Sc:qa8 N ps (qa3 st))(W:Nat->Bool)(G:Bj s)(j:∀ ds Q xe,s ds Q xe->ds.length=ps.length)(n:∀ ds Q xe,s ds Q xe->Gq W 0 ds=true)(hbody:∀(g:Value)(A:Around)(outer:List Env)(B:Shared)(H:Hp)(E:XK)(av:List (Option V)),Room k (A.deeper (PyProof.Rows.envOfC qual (qa3 st) B.heap.objs.size f g)) ->
     ∃ t,VSs ⟨E,W,av,[]⟩ (Dt (CX1 P w) P w K mg base N qual (qa3 st) f g A outer B H E) (qc9 st) t/\∀ ds Q xe,s ds Q xe->t (qap5 W ds Q xe) (ds++List.replicate (N.length - ds.length) .unk)) :
   VFn P w K mg base (k+1) f fd ps s:=by
 refine⟨Fu.okX Sc (λ l H Q E ⟨F,ds,A,r,o,h⟩=>by rw[r.len];exact j _ _ _ h) λ g Ar outer B H l Q E I C=>?_,G⟩;obtain⟨F,ds,A,r,o,h⟩:=C;obtain⟨t,J,L⟩:=hbody g Ar outer B H E (L2.start N l) I;have X:=j _ _ _ h;have M:=n _ _ _ h;have Y:ps.length<=N.length:=by have:=congrArg List.length Sc.pre;rw[zBp] at this;lia
 have L0:Locs F H (L2.start N l++[]) (ds++List.replicate (N.length - ds.length) .unk) A:=by
   rw[zAg];unfold L2.start;rw[r.len]
   have:=r.locs.append (qH6 (F:=F) (H:=H) (N.length - ds.length))
   rwa[zAg] at this
 have S0:Sta ⟨E,W,L2.start N l,[]⟩ F H (L2.start N l) (ds++List.replicate (N.length - ds.length) .unk) A:=⟨L0,o,by simp,λ i _=>by simp⟩
 have m:∀{σ':St}{H':Hp}{F':Addr->Prop}{a:Ds}{A' A2:List Addr},Sta ⟨E,W,L2.start N l,[]⟩ F' H' σ' a A'->Stp F H A F' H' A2->∃ A3,Reps F' H' l (fin W 0 ds a) A3/\∀ b,A3.count b<=A'.count b:=λ{σ' H' F' a A' A2} S' c=>by
   have hlen':=S'.len;simp only[zAg] at hlen';refine qaU3 (c.kp o r.cells) r M (by have:=S'.loc;simpa using this) ?_ λ i D O=>?_
   . rw[<- hlen'];unfold L2.start;simp
   have:=S'.ag i (by simpa using O)
   simp only[zAg] at this;rw[this];show (L2.start N l)[i]? = _;unfold L2.start;rw[zAu (by simpa using D)]
 refine⟨_,J.h,F,_,A,qap5 W ds _ _,S0,⟨?_,?_,λ _ _ _ _ _ z=>False.elim z,λ _ _ _ _ _ z=>False.elim z,?_⟩,L _ _ _ h⟩
 . intro a σ' H' F' A' q S' c
   obtain⟨A3,p,q2⟩:=m S' c;have u:∀ b,([]++A3).count b<=A'.count b:=λ b=>by simpa using q2 b
   exact q .non H' F' [] A3 .non p (S'.ok.count u) (c.count u)
 . intro d a v σ' H' F' T A' q R S' S c
   obtain⟨A3,p,q2⟩:=m S' c;have u:∀ b,(T++A3).count b<=(T++A').count b:=λ b=>by simp only[zA0];have:=q2 b;lia
   exact q v H' F' T A3 R p (S.count u) (c.count u)
 intro y a σ' e H' F' A' q U S' c;obtain⟨A3,p,q2⟩:=m S' c;exact q e H' F' A3 U p (S'.ok.count q2) (c.count q2)
theorem VFn.mk'{P:Program}{w:World}{K:PySem.W.Frag}{x qual:Str}{st:Stmt}{f:Addr}{fd:FuncData}{ps:List Str}{k:Nat}{s:VSp}(Fu:Fun K x qual st f fd)(Sc:qa8 N ps (qa3 st))(W:Nat->Bool)(e:Bj s)(a:∀ ds Q xe,s ds Q xe->ds.length=ps.length)(b:∀ ds Q xe,s ds Q xe->Gq W 0 ds=true)(hbody:∀(c:Value)(A:Around)(outer:List Env)(d:Shared)(H:Hp)(E:XK)(av:List (Option V)),Room k (A.deeper (PyProof.Rows.envOfC qual (qa3 st) d.heap.objs.size f c)) ->
     ∃ t,VSs ⟨E,W,av,[]⟩ (Dt (CX1 P w) P w K mg base N qual (qa3 st) f c A outer d H E) (qc9 st) t/\∀ ds Q xe,s ds Q xe->t (qap5 W ds Q xe) (ds++List.replicate (N.length - ds.length) .unk)) :
   VFn P w K mg base (k+1) f fd ps s:=VFn.mkE (FunE.of Fu) Sc W e a b hbody
def Bl:List (Option Nat)->Ds->Ds×Ds
 | [],ds=>([],ds)
 | none::r,ds=>(.unk::(Bl r ds).1,(Bl r ds).2)
 | some j::r,ds=>((ds[j]?).getD .unk::(Bl r (ds.set j .unk)).1,(Bl r (ds.set j .unk)).2)
def E4:List (Option Nat)->Ds->Ds->Ds
 | none::r,_::i,o=>E4 r i o
 | some j::r,d::i,o=>E4 r i (o.set j d)
 | _,_,o=>o
def Et(g:VTG)(qf:VTT)(te:VT)(K:Ds->Ds->Prop):List D->Ds->Ds->Prop
 | [],acc,ι=>K acc ι
 | x::xs,acc,ι=>g x ι λ ι1=>qf ι1 (λ b ι2=>if b=true then te ι2 (λ d ι3=>acc.length < big/\Et g qf te K xs (acc++[d]) ι3) (λ _ _=>False) else Et g qf te K xs acc ι2) (λ _ _=>False)
noncomputable def capW(src:List (Option Nat)):Nat->Bool:=λ i=>match src[i]? with | some (some _)=>true | _=>false
abbrev cIn(src:List (Option Nat))(av:List (Option V)):Vc:=⟨λ _ _ _=>False,capW src,av,[]⟩
structure VF(c:Vc)(X:Cx)(ifs:List Expr)(t:VTT):Prop where
 h:PFs X ifs (Dp c t)
 m:∀ ds (Q Q':Bool->Ds->Prop) (xe xe':XKd),(∀ d ds',Q d ds'->Q' d ds')->(∀ x ds',xe x ds'->xe' x ds')->t ds Q xe->t ds Q' xe'
def qYes:VTT:=λ ds Q _=>Q true ds
theorem Gd{c:Vc}{X:Cx}:VF c X [] qYes:=⟨λ De s σ H Q I ⟨F,a,A,b,S,x,q⟩=>qaH2 De s σ H Q I (q H F A S Stp.refl),λ a Q Q' b d e _=>e _ _⟩
theorem Ge{c:Vc}{X:Cx}{e:Expr}{t:VTT}(h:VTe c X e t):VF c X [e] t:=⟨qaP9 h.h,h.m⟩
section
variable{F F':Addr->Prop}{H H':Hp}
theorem qab4:∀{src:List (Option Nat)}{σ a:List (Option V)}{ds:Ds}{A:List Addr},Locs F H (σ++a) ds A->(∀ j,some j∈src->j < σ.length) ->
   ∃ Ai Ao,Locs F H (Dg σ src) (Bl src ds).1 Ai/\Locs F H (σ++a) (Bl src ds).2 Ao/\∀ b,A.count b=Ai.count b+Ao.count b
 | [],σ,a,ds,A,L,_=>⟨[],A,.nil,L,λ b=>by simp⟩
 | none::r,σ,a,ds,A,L,h=>by
   obtain⟨Ai,Ao,f,q2,g⟩:=qab4 (src:=r) L λ j c=>h j (zA6 _ c)
   exact⟨Ai,Ao,.no f,q2,g⟩
 | some j::r,σ,a,ds,A,L,h=>by
   have c:=h j zAb;have t:=L.len;rw[zAf] at t;obtain⟨z,e⟩:∃ d,ds[j]? = some d:=⟨_,zB9 (by lia)⟩
   obtain⟨σ1,o,σ2,i,k,A1,B,A2,m,e2,u,w,x,n,p,q⟩:=L.split e;have s:(σ++a)[j]? = some o:=by rw[m];exact qE6 u
   rw[zAu c] at s;have y:ds.set j .unk=i++.unk::k:=by
     have:=congrArg (λ l=>l.set j .unk) e2
     rw[this,qr3 w]
   have L':Locs F H (σ++a) (ds.set j .unk) (A1++A2):=by
     rw[m,y];cases p with
     | no=>exact n.append (.no q)
     | @so v _ _ _=>exact n.append (.so (B:=[]) (.unk v) q)
   obtain⟨Ai,Ao,f,q2,g⟩:=qab4 (src:=r) L' λ j c=>h j (zA6 _ c)
   refine⟨B++Ai,Ao,?_,q2,λ b=>by rw[x];have:=g b;simp only[zA0] at *;lia⟩;show Locs F H (((σ[j]?).getD none)::Dg σ r) ((ds[j]?).getD .unk::_) _;rw[s,e];exact Locs.cons p f
theorem qL2:∀{src:List (Option Nat)}{σ c σ':List (Option V)}{ι o:Ds}{Ai Ao:List Addr},Locs F H σ' ι Ai->Locs F H (σ++c) o Ao->(∀ j,some j∈src->j < σ.length)->(∀(i j:Nat),src[i]? = some (some j)->σ'[i]? = some ((σ[j]?).getD none))->σ'.length=src.length ->
   ∃ A',Locs F H (σ++c) (E4 src ι o) A'/\∀ b,A'.count b<=Ai.count b+Ao.count b
 | [],σ,c,σ',ι,o,Ai,Ao,L,Lo,_,_,_=>⟨Ao,by cases ι<;>exact Lo,λ b=>by lia⟩
 | none::r,σ,c,σ',ι,o,Ai,Ao,L,Lo,h,k,f=>by
   cases L with
   | nil=>simp at f
   | no L2 =>
     obtain⟨A',g,q2⟩:=qL2 (src:=r) L2 Lo (λ j a=>h j (zA6 _ a)) (λ i j e=>by simpa using k (i+1) j (by simpa using e)) (by simpa using f);exact⟨A',g,q2⟩
   | so w L2 =>
     obtain⟨A',g,q2⟩:=qL2 (src:=r) L2 Lo (λ j a=>h j (zA6 _ a)) (λ i j e=>by simpa using k (i+1) j (by simpa using e)) (by simpa using f);exact⟨A',g,λ b=>by rw[zA0];have:=q2 b;lia⟩
 | some j::r,σ,c,σ',ι,o,Ai,Ao,L,Lo,h,k,f=>by
   have a:=h j zAb;have m:=Lo.len;rw[zAf] at m;obtain⟨G,n⟩:∃ d,o[j]? = some d:=⟨_,zB9 (by lia)⟩
   obtain⟨σ1,p,σ2,q,s,A1,B,A2,t,e2,D,E,x,y,I,z⟩:=Lo.split n;have A:(σ++c)[j]? = some p:=by rw[t];exact qE6 D
   rw[zAu a] at A;have u:=k 0 j rfl;rw[A] at u;have C:∀ d,o.set j d=q++d::s:=λ d=>by
     have:=congrArg (λ l=>l.set j d) e2
     rw[this,qr3 E]
   cases L with
   | nil=>simp at f
   | no L2 =>
     have:p=none:=by simpa using u.symm
     subst this;have Lo':Locs F H (σ++c) (o.set j .unk) (A1++A2):=by rw[t,C];exact y.append (.no z)
     obtain⟨A',g,q2⟩:=qL2 (src:=r) L2 Lo' (λ j a=>h j (zA6 _ a)) (λ i j e=>by simpa using k (i+1) j (by simpa using e)) (by simpa using f);exact⟨A',g,λ b=>by rw[x];have:=q2 b;simp only[zA0] at *;lia⟩
   | @so v d Bv _ _ _ w L2 =>
     have:p=some v:=by simpa using u.symm
     subst this;have Lo':Locs F H (σ++c) (o.set j d) (A1++(Bv++A2)):=by rw[t,C];exact y.append (.so w z)
     obtain⟨A',g,q2⟩:=qL2 (src:=r) L2 Lo' (λ j a=>h j (zA6 _ a)) (λ i j e=>by simpa using k (i+1) j (by simpa using e)) (by simpa using f);exact⟨A',g,λ b=>by rw[x];have:=q2 b;simp only[zA0] at *;lia⟩
theorem qax5(σ:St)(src:List (Option Nat)):(Dg σ src).length=src.length:=by simp[Dg]
theorem qax6{σ:St}{src:List (Option Nat)}(h:src[i]? = some (some j)):(Dg σ src)[i]? = some ((σ[j]?).getD none):=by
 unfold Dg;rw[zB2,h];rfl
structure Iu(Pp:(Addr->Prop)->Hp->Prop)(T:List Addr):Prop where
 keep:∀{F F':Addr->Prop}{H H':Hp}{W:Addr->Prop},Kp F H W F' H'->(∀ b∈T,¬ W b)->Pp F H->Pp F' H'
 cells:∀{F:Addr->Prop}{H:Hp},Pp F H->∀ b∈T,∃ o,H b=some o/\Ea o=true
end
section
variable{c:Vc}{F F':Addr->Prop}{H H':Hp}{Pp:(Addr->Prop)->Hp->Prop}{τ:List (Option V)}{o:Ds}{Dd:Addr}{acc:Ds}{T A A' Tv:List Addr}{σ:St}{ds:Ds}
noncomputable def Tot(B T Ao A:List Addr):List Addr:=B++(T++(Ao++A))
theorem qx9(st:Iu Pp T){B:List Addr}(r:Rep F H (.ref Dd) (.lst false acc) B)(g:Pp F H)(L:Locs F H τ o Ao)(h:Ok F H (Tot B T Ao A))(S:Sta c F H σ ds A)(s:Stp F H A F' H' A')(o':Ok F' H' A') :
   Rep F' H' (.ref Dd) (.lst false acc) B/\Pp F' H'/\Locs F' H' τ o Ao/\Ok F' H' (Tot B T Ao A')/\Stp F H (Tot B T Ao A) F' H' (Tot B T Ao A'):=by
 unfold Tot at *
 have f:=s.kp S.ok S.loc.cells;have i:∀ b,(B++(T++(Ao++A))).count b=((B++(T++Ao))++A).count b:=λ b=>by simp only[zA0];lia
 have d:∀ b,b∈B∨b∈T∨b∈Ao->¬ (A.count b≠0):=λ b a j=>by
   have:=h.sep b
   simp only[zA0] at this;rcases a with a | a | a<;>have:=qa9.mp a<;>lia
 have k:∀ b∈B++(T++Ao),∃ o,H b=some o/\Ea o=true:=λ b a=>by
   rcases zAa.mp a with a | a
   . exact r.cells b a
   rcases zAa.mp a with a | a
   . exact st.cells g b a
   exact L.cells b a
 obtain⟨l,m⟩:=s.frame (T:=B++(T++Ao)) (h.count λ b=>by rw[i];exact zA3 _) k o';have e:∀ b,(B++(T++(Ao++A'))).count b=((B++(T++Ao))++A').count b:=λ b=>by simp only[zA0];lia
 exact⟨r.keep f λ b a=>d b (.inl a),st.keep f (λ b a=>d b (.inr (.inl a))) g,L.keep f λ b a=>d b (.inr (.inr a)),l.count λ b=>by rw[e];exact zA3 _,(m.pre λ b=>by rw[i]).count λ b=>by rw[e];exact zA3 _⟩
theorem qay5(st:Iu Pp T){B:List Addr}{d:D}(r:Rep F H (.ref Dd) (.lst false acc) B)(p:Pp F H)(L:Locs F H τ o Ao)(S:Sta c F H σ ds A)(q:Rep F H v d Tv)(h:Ok F H (Tot B T Ao (Tv++A))) :
   ∃ vs B',H Dd=some (.lst vs)/\vs.length=acc.length/\Rep F (upd H Dd (.lst (vs++[v]))) (.ref Dd) (.lst false (acc++[d])) B'/\Pp F (upd H Dd (.lst (vs++[v])))/\Locs F (upd H Dd (.lst (vs++[v]))) τ o Ao/\Sta c F (upd H Dd (.lst (vs++[v]))) σ ds A/\Ok F (upd H Dd (.lst (vs++[v]))) (Tot B' T Ao A)/\Stp F H (Tot B T Ao (Tv++A)) F (upd H Dd (.lst (vs++[v]))) (Tot B' T Ao A):=by
 unfold Tot at *
 obtain⟨a,vs,Ael,s,j,l,rfl⟩:=qZ8 r;cases s;have t:=h.sep Dd;simp only[zA0,zAl,zBk,if_true] at t;have m:¬ F Dd:=λ f=>by have:=h.fro Dd f;simp only[zA0,zAl,zBk,if_true] at this;lia
 have k:=qM9 (F:=F) (o':=.lst (vs++[v])) j rfl m;have i:∀ X:List Addr,X.count Dd=0->∀ b∈X,¬ b=Dd:=λ X y b C w=>by subst w;exact(qa9.mp C) y
 have g:∀ b,(Dd::(Ael++(Tv++[]))++(T++(Ao++A))).count b<=(Dd::Ael++(T++(Ao++(Tv++A)))).count b:=λ b=>by simp only[zA0,zAl,List.count_nil];lia
 have n:∀ b,F b->∃ o,upd H Dd (.lst (vs++[v])) b=some o:=λ b f=>by
   obtain⟨x,e⟩:=h.ex b f;exact⟨x,by rw[qd0 (show b≠Dd from λ w=>m (w ▸ f))];exact e⟩
 refine⟨vs,Dd::(Ael++(Tv++[])),j,l.len,?_,st.keep k (i T (by lia)) p,L.keep k (i Ao (by lia)),⟨S.loc.keep k (i A (by lia)),⟨S.ok.sep,S.ok.fro,n⟩,S.len,S.ag⟩,⟨λ b=>zAr (g b) (h.sep b),λ b f=>by have:=h.fro b f;have:=g b;lia,n⟩,λ b u e z=>?_,λ b u e z=>by have:=g b;lia,λ _ f=>f,λ _ _ _ _ f=>f⟩
 . exact .lst qb9 ((l.append (.cons q .nil)).keep k (i _ (by simp only[zA0,List.count_nil];lia)))
 rw[qd0 λ w=>?_]
 . exact e
 subst w;simp only[zA0,zAl,zBk,if_true] at z;lia
end
def qx3(src:List (Option Nat))(g:VTG):TG:=λ v σ H Q=>∃ av,Fg (cIn src av) g v σ H Q
def qx2(src:List (Option Nat))(q:VTT):TT:=λ σ H Q=>∃ av,Dp (cIn src av) q σ H Q
def By(src:List (Option Nat))(t:VT):TE:=λ σ H Q=>∃ av,Bh (cIn src av) t σ H Q
structure Blk(X:Cx)(NY:List Str)(sc:Scope)(src:List (Option Nat))(tg:Expr)(ifs:List Expr)(elt:Expr)(g:VTG)(qf:VTT)(te:VT):Prop where
 g:∀ av C s0 H0 ex,VG (cIn src av) (qj2 X NY sc C s0 H0 ex) tg g
 f:∀ av C s0 H0 ex,VF (cIn src av) (qj2 X NY sc C s0 H0 ex) ifs qf
 e:∀ av C s0 H0 ex,VE (cIn src av) (qj2 X NY sc C s0 H0 ex) elt te
 lt:∀ De σ H s,Inv X De σ H s->∀ j,some j∈src->j < σ.length
section
variable{c:Vc}{X:Cx}{NY:List Str}{sc:Scope}{src:List (Option Nat)}{tg elt e:Expr}{ifs:List Expr}{g:VTG}{qf:VTT}{te:VT}
theorem Blk.pg(b:Blk X NY sc src tg ifs elt g qf te):∀ C a H0 ex,PG (qj2 X NY sc C a H0 ex) tg (qx3 src g):=λ C a H0 ex De s σ H v u Q I r ⟨c,q⟩=>(b.g c C a H0 ex).h De s σ H v u Q I r q
theorem Blk.pf(b:Blk X NY sc src tg ifs elt g qf te):∀ C a H0 ex,PFs (qj2 X NY sc C a H0 ex) ifs (qx2 src qf):=λ C a H0 ex De s σ H Q I ⟨c,q⟩=>(b.f c C a H0 ex).h De s σ H Q I q
theorem Blk.pe(b:Blk X NY sc src tg ifs elt g qf te):∀ C a H0 ex,PE (qj2 X NY sc C a H0 ex) elt (By src te):=λ C a H0 ex De s σ H Q I ⟨c,q⟩=>(b.e c C a H0 ex).h De s σ H Q I q
theorem Blk.gm(b:Blk X NY sc src tg ifs elt g qf te):∀ d ds (Q Q':Ds->Prop),(∀ a,Q a->Q' a)->g d ds Q->g d ds Q':=(b.g [] 0 {} (λ _=>none) []).m
theorem Blk.fm(b:Blk X NY sc src tg ifs elt g qf te):∀ ds (Q Q':Bool->Ds->Prop) (xe c:XKd),(∀ d a,Q d a->Q' d a)->(∀ x a,xe x a->c x a)->qf ds Q xe->qf ds Q' c:=(b.f [] 0 {} (λ _=>none) []).m
theorem Blk.em(b:Blk X NY sc src tg ifs elt g qf te):∀ ds (Q Q':DK) (xe c:XKd),(∀ d a,Q d a->Q' d a)->(∀ x a,xe x a->c x a)->te ds Q xe->te ds Q' c:=(b.e [] 0 {} (λ _=>none) []).m
theorem qm4(b:Blk X NY sc src tg ifs elt g qf te){K K':Ds->Ds->Prop}(h:∀ acc ι,K acc ι->K' acc ι):∀(xs:List D) acc ι,Et g qf te K xs acc ι->Et g qf te K' xs acc ι
 | [],acc,ι=>h acc ι
 | x::xs,acc,ι=>b.gm _ _ _ _ λ ι1=>b.fm _ _ _ _ _ (λ k ι2=>qL0 (b.em _ _ _ _ _ (λ d ι3=>And.imp_right (qm4 b h xs _ _)) λ _ _ z=>z) (qm4 b h xs _ _)) λ _ _ z=>z
variable{F F0:Addr->Prop}{H H0:Hp}{Pp:(Addr->Prop)->Hp->Prop}{τ:List (Option V)}{o0:Ds}{Dd:Addr}{acc:Ds}{T A A0:List Addr}{σ:St}{ds ι:Ds}{av:List (Option V)}{K:Ds->Ds->Prop}
def Mid(src:List (Option Nat))(av:List (Option V))(Pp:(Addr->Prop)->Hp->Prop)(T:List Addr)(τ:List (Option V))(o0:Ds)(Dd:Addr)(F0:Addr->Prop)(H0:Hp)(A0:List Addr)(g:VTG)(qf:VTT)(te:VT)(K:Ds->Ds->Prop)(xs:List D)(σ:St)(H:Hp):Prop :=
 ∃ F ι A acc B Ao,Sta (cIn src av) F H σ ι A/\Rep F H (.ref Dd) (.lst false acc) B/\Pp F H/\Locs F H τ o0 Ao/\Ok F H (Tot B T Ao A)/\Stp F0 H0 A0 F H (Tot B T Ao A)/\Et g qf te K xs acc ι
theorem qW4(b:Blk X NY sc src tg ifs elt g qf te)(st:Iu Pp T){B:List Addr}{x:V}{y:D}{xs:List D}(S:Sta (cIn src av) F H σ ι A)(r:Rep F H (.ref Dd) (.lst false acc) B)(t:Pp F H)(L:Locs F H τ o0 Ao)(u:Ok F H (Tot B T Ao A))(p:Stp F0 H0 A0 F H (Tot B T Ao A))(w:Rep F H x y [])(q:Et g qf te K (y::xs) acc ι) :
   qx3 src g x σ H λ σ2 H2=>qx2 src qf σ2 H2 λ h H3=>if h=true then By src te σ2 H3 λ v H4=>∃ ys,H4 Dd=some (.lst ys)/\ys.length < sizeLine/\Mid src av Pp T τ o0 Dd F0 H0 A0 g qf te K xs σ2 (upd H4 Dd (.lst (ys++[v]))) else Mid src av Pp T τ o0 Dd F0 H0 A0 g qf te K xs σ2 H3:=by
 have a:∀(F:Addr->Prop)(H:Hp)(A:List Addr),Xc (cIn src av) (λ _ _=>False) F H A:=λ F H A x C σ' e H' F' A' z=>z.elim
 refine⟨av,F,ι,A,[],y,w,S,S.ok,b.gm _ _ _ _ (λ ι1 q σ1 H1 F1 A1 S1 E=>?_) q⟩;obtain⟨G,i,L1,j,t1⟩:=qx9 st r t L u S (show Stp F H A F1 H1 A1 from E) S1.ok;refine⟨av,F1,ι1,A1,_,S1,a _ _ _,b.fm _ _ _ _ _ (λ k ι2 q H2 F2 A2 S2 I=>?_) (λ _ _ z=>z) q⟩;obtain⟨s,c,L2,f,t2⟩:=qx9 st G i L1 j S1 I S2.ok;cases k with
 | false =>
   rw[if_neg (by decide)] at q ⊢;exact⟨F2,ι2,A2,acc,B,Ao,S2,s,c,L2,f,(p.trans t1).trans t2,q⟩
 | true =>
   rw[if_pos rfl] at q ⊢;refine⟨av,F2,ι2,A2,_,S2,a _ _ _,b.em _ _ _ _ _ (λ d ι3 q v H3 F3 Tv A3 J S3 M N=>?_) (λ _ _ z=>z) q⟩;obtain⟨O,l,L3,m,P⟩:=qx9 st s c L2 f S2 N M;obtain⟨Q,B',R,e2,U,n,L4,S4,o,W⟩:=qay5 st O l L3 S3 J m;exact⟨Q,R,by rw[e2];exact zAi q.1 qi5,F3,ι3,A3,acc++[d],B',Ao,S4,U,n,L4,o,((p.trans t1).trans t2).trans (P.trans W),q.2⟩
theorem qR9{xs:List D}(f:∀ j,some j∈src->j < σ.length)(S:Sta c F H σ ds A)(n:Ok F H (T++A))(l:Pp F H)(st:Iu Pp T)(h:H Dd=none)(q:Et g qf te K xs [] (Bl src ds).1) :
   Mid src (Dg σ src) Pp T (σ++c.gv) (Bl src ds).2 Dd F H (T++A) g qf te K xs (Dg σ src) (upd H Dd (.lst [])):=by
 obtain⟨Ai,Ao,o,q2,p⟩:=qab4 S.loc f;have a:=Same.new (u:=.lst []) h;have r:=Kp.same (F:=F) a;have okN:Ok F (upd H Dd (.lst [])) ([Dd]++(T++A)):=(qg4 h).ok n (λ b d=>by
   rcases zAa.mp d with d | d
   . exact st.cells l b d
   exact S.loc.cells b d) a
 have m:∀ b,(Tot [Dd] T Ao Ai).count b=([Dd]++(T++A)).count b:=λ b=>by unfold Tot;simp only[zA0,p];lia
 have e:Ok F (upd H Dd (.lst [])) (Tot [Dd] T Ao Ai):=okN.count λ b=>by rw[m];exact zA3 _
 have k:Ok F (upd H Dd (.lst [])) Ai:=e.count λ b=>by unfold Tot;simp only[zA0];lia
 refine⟨F,_,Ai,[],[Dd],Ao,⟨by rw[zAg];exact o.same a,k,by simp,λ i _=>by simp⟩,.lst qb9 .nil,st.keep r (λ _ _=>id) l,q2.same a,e,((qg4 h).stp a).count λ b=>by rw[m];exact zA3 _,q⟩
theorem qS0{H':Hp}{Fz:Addr->Prop}{Hz:Hp}{Az:List Addr}(d:∀ j,some j∈src->j < σ.length)(S:Sta c Fz Hz σ ds Az)(m:Mid src (Dg σ src) Pp T (σ++c.gv) o0 Dd F0 H0 A0 g qf te (λ acc ι'=>∀ v H' F' B A',Rep F' H' v (.lst false acc) B->Sta c F' H' σ (E4 src ι' o0) A'->Pp F' H'->Ok F' H' (B++(T++A'))->Stp F0 H0 A0 F' H' (B++(T++A'))->Q v H') [] σ' H'):Q (.ref Dd) H':=by
 obtain⟨F,ι,A,acc,B,Ao,S1,r,k,L,l,s,q⟩:=m;have a:=S1.len;simp only[zAg] at a;obtain⟨A',n,o⟩:=qL2 (src:=src) (by have:=S1.loc;simpa using this) L d (λ i j e=>by
   have:=S1.ag i (by show capW src i=true;unfold capW;rw[e])
   simp only[zAg] at this;rw[this];exact qax6 e) (by rw[<- a,qax5])
 have f:∀ b,(B++(T++A')).count b<=(Tot B T Ao A).count b:=λ b=>by unfold Tot;simp only[zA0];have:=o b;lia
 have h:=l.count f;exact q (.ref Dd) H' F B A' r ⟨n,h.right.right,S.len,S.ag⟩ k h (s.count f)
theorem qt3{a:Addr}{ys:Ds}{T:List Addr}:Iu (λ F H=>Rep F H (.ref a) (.lst z ys) T/\H a=some (.lst vs)) T where
 keep:=λ{F F' H H' W} k h p=>by
   refine⟨p.1.keep k h,?_⟩;cases p.1 with
   | lst _ _=>exact k.fr _ _ p.2 (h _ zAb)
   | lstZ _ f _=>exact k.fr _ _ p.2 λ w=>k.wf _ w f
 cells:=λ p=>p.1.cells
theorem qaL7{a:Addr}{ys:Ds}{T:List Addr}{x:V}(r:Rep F H (.ref a) (.lst z ys) T)(h:H a=some (.lst vs))(hm:D.imms ys=true)(f:vs[i]? = some x):∃ y,ys[i]? = some y/\Rep F H x y []:=by
 obtain⟨k,g,Ael',j,b,c,_⟩:=r.lst_inv;cases j;rw[h] at b;cases b;obtain⟨y,B,d,e⟩:=c.getV f
 have:=e.imm (qv6 hm d)
 subst this;exact⟨y,d,e⟩
theorem qaK3{a:Addr}{ys:Ds}{T:List Addr}(r:Rep F H (.ref a) (.lst z ys) T)(h:H a=some (.lst vs)):vs.length=ys.length:=by
 obtain⟨f,d,Ael',e,b,c,_⟩:=r.lst_inv;cases e;rw[h] at b;cases b;exact c.len
theorem qN2{K':PySem.W.Frag}{a:Addr}{ys:Ds}{Q:Hp->Prop}(b:Blk X NY sc src tg ifs elt g qf te)(hm:D.imms ys=true)(m:Mid src av (λ F H=>Rep F H (.ref a) (.lst z ys) T/\H a=some (.lst vs)) T τ o0 Dd F0 H0 A0 g qf te K ys σ' H)(f:∀ σ2 H2,Mid src av (λ F H=>Rep F H (.ref a) (.lst z ys) T/\H a=some (.lst vs)) T τ o0 Dd F0 H0 A0 g qf te K [] σ2 H2->Q H2):qI7 (Itl K' a) (qx3 src g) (qx2 src qf) (By src te) Dd Q σ' H:=by
 obtain⟨_,_,_,_,_,_,_,_,c,_⟩:=id m;have d:=qaK3 c.1 c.2;refine qW5 (xs:=vs) (λ i σ H=>Mid src av (λ F H=>Rep F H (.ref a) (.lst z ys) T/\H a=some (.lst vs)) T τ o0 Dd F0 H0 A0 g qf te K (ys.drop i) σ H) m ?_ ?_ ?_
 . rintro i σ H _ ⟨_,_,_,_,_,_,_,_,e,_⟩
   exact .inl (.inl e.2)
 . rintro i x σ H h ⟨F,ι,A,j,B,Ao,S1,r,e,L,k,s,q⟩
   obtain⟨y,l,n⟩:=qaL7 e.1 e.2 hm h;rw[qs9 l] at q;exact qW4 b qt3 S1 r e L k s n q
 intro σ H m;rw[d,List.drop_length] at m;exact f _ _ m
theorem qak9{K':PySem.W.Frag}{a:Addr}{ys:Ds}{Q:Hp->Prop}(b:Blk X NY sc src tg ifs elt g qf te)(hm:D.imms ys=true)(m:Mid src av (λ F H=>Rep F H (.ref a) (.lst z ys) T/\H a=some (.lst vs)) T τ o0 Dd F0 H0 A0 g qf te K (enD ys) σ' H)(o:∀ σ2 H2,Mid src av (λ F H=>Rep F H (.ref a) (.lst z ys) T/\H a=some (.lst vs)) T τ o0 Dd F0 H0 A0 g qf te K [] σ2 H2->Q H2):qI7 (Ite K' a) (qx3 src g) (qx2 src qf) (By src te) Dd Q σ' H:=by
 obtain⟨_,_,_,_,_,_,_,_,c,_⟩:=id m;have d:=qaK3 c.1 c.2;refine qaq0 (xs:=vs) (λ i σ H=>Mid src av (λ F H=>Rep F H (.ref a) (.lst z ys) T/\H a=some (.lst vs)) T τ o0 Dd F0 H0 A0 g qf te K ((enD ys).drop i) σ H) m ?_ ?_ ?_
 . rintro i σ H _ ⟨_,_,_,_,_,_,_,_,e,_⟩
   exact .inl (.inl e.2)
 . rintro i x σ H n p ⟨F,ι,A,t,B,Ao,S1,r,e,L,v,s,q⟩ f
   obtain⟨y,w,C⟩:=qaL7 e.1 e.2 hm p;rw[qs9 (qaU8 w)] at q;have h:=Same.new (u:=.tup [.int (i:Int),x]) f;have j:Rep F (upd H n (.tup [.int (i:Int),x])) (.ref n) (.tup [.int (i:Int),y]) []:=qaf2 f (.cons (A:=[]) (B:=[]) (.int _) (.cons (A:=[]) (B:=[]) C .nil));obtain⟨E,k,L1,l,t1⟩:=qx9 qt3 r e L v S1 (Stp.same h) (S1.ok.same h);exact qW4 b qt3 (S1.same h) E k L1 l (s.trans t1) j q
 intro σ H m;rw[List.drop_of_length_le (by rw[qaC3,d];exact zA3 _)] at m;exact o _ _ m
end
def Imp(c:Vc)(X:Cx)(t:VT)(tc:TE):Prop:=∀ De s σ H Q,Inv X De σ H s->Bh c t σ H Q->tc σ H Q
def Gf(t:VT):Prop:=∀ ds (Q Q':DK) (xe xe':XKd),(∀ d a,Q d a->Q' d a)->(∀ x a,xe x a->xe' x a)->t ds Q xe->t ds Q' xe'
section
variable{c:Vc}{X:Cx}{NY:List Str}{sc:Scope}{src:List (Option Nat)}{tg elt e o:Expr}{ifs:List Expr}{g:VTG}{qf:VTT}{te t0:VT}{pf:PF}
theorem qal0{tc:TE}{t:VT}(h:PE X e tc)(i:Imp c X t tc)(m:Gf t):VE c X e t:=⟨λ De s σ H Q I q=>h De s σ H Q I (i De s σ H Q I q),m⟩
theorem qaO4{tc:TE}{t:VT}{x:Str}{px spos:Pos}(h:PS X (.Assign [.Name x px] e spos) (Ha tc (Ev i)))(j:Imp c X t tc)(m:Gf t)(k:c.W i=false)(hi:X.N[i]? = some x):VS c X (.Assign [.Name x px] e spos) (Er t (gNm i)):=by
 refine⟨λ De s σ H E I q=>h De s σ H E I (j De s σ H _ I ?_),λ b n f g=>m _ _ _ _ _ (λ d a=>g.nx _) g.xe⟩;obtain⟨F,f,A,b,S,l,q⟩:=q;refine⟨F,f,A,b.xe,S,l.xe,m _ _ _ _ _ (λ d a q v H' F' T A' r S' o p=>?_) (λ _ _ z=>z) q⟩;obtain⟨A2,S2,u⟩:=S'.store k (qs0 hi De σ H s I) r o;exact l.nx _ _ H' F' A2 q S2 (p.trans u)
def Iv(src:List (Option Nat))(g:VTG)(qf:VTT)(te:VT)(ys:List D):Ds->DK->Prop:=λ ds1 Q=>Et g qf te (λ acc ι'=>Q (.lst false acc) (E4 src ι' (Bl src ds1).2)) ys [] (Bl src ds1).1
theorem qab6(b:Blk X NY sc src tg ifs elt g qf te){ys:List D}{ds1:Ds}{Q Q':DK}(h:∀ d a,Q d a->Q' d a):Iv src g qf te ys ds1 Q->Iv src g qf te ys ds1 Q':=qm4 b (λ c ι=>h _ _) _ _ _
def tCL(src:List (Option Nat))(t0:VT)(g:VTG)(qf:VTT)(te:VT):VT:=λ ds Q xe=>t0 ds (λ d ds1=>orF d.lstOf λ ys=>D.imms ys=true/\Iv src g qf te ys ds1 Q) xe
theorem qav9(b:Blk X NY sc src tg ifs elt g qf te)(hi:VE c X e t0):Gf (tCL src t0 g qf te):=λ j Q Q' k a f h=>hi.m _ _ _ _ _ (λ d i=>qa4 λ l=>And.imp_right (qab6 b f)) h
theorem qaT6{K:PySem.W.Frag}(b:Blk X NY sc src tg ifs elt g qf te)(hi:VE c X e t0):Imp c X (tCL src t0 g qf te) (Ed (Gx K (Bh c t0)) src (qx3 src g) (qx2 src qf) (By src te)):=by
 rintro De s σ H Q I ⟨F,k,A,l,S,x,q⟩;have f:=b.lt De σ H s I;refine⟨F,k,A,l,S,x,hi.m _ _ _ _ _ (λ d n q v H1 F1 T A1 i S1 o p=>?_) (λ _ _ z=>z) q⟩;obtain⟨E,t,u,h⟩:=qa6.mp q;obtain⟨z,rfl⟩:=qA6 t;obtain⟨a,w,Ael,rfl,j,G,_⟩:=i.lst_inv;refine⟨a,rfl,⟨w,.inl (.inl j)⟩,λ Dd y=>qN2 b u (qR9 f S1 o ⟨i,j⟩ qt3 y (qm4 b (λ C ι q v H' F' B A' r S' _ D s=>q v H' F' B A' r S' (D.count λ b=>by simp only[zA0];lia) ((p.trans s).count λ b=>by simp only[zA0];lia)) _ _ _ h)) λ σ2 H2 m=>qS0 f S1 m⟩
def tCPx(en:Ds->List D)(src:List (Option Nat))(pf:PF)(g:VTG)(qf:VTT)(te:VT):VT:=λ ds Q xe=>orF (pf ds) λ q=>orF (A4 ds q.1 q.2) λ d=>orF d.lstOf λ ys=>D.imms ys=true/\∀ w,Et g qf te (λ acc ι'=>orF (bk1 q.1 q.2 w d (E4 src ι' (Bl src (Bc ds q.1 q.2 (.hole w))).2)) λ a=>Q (.lst false acc) a) (en ys) [] (Bl src (Bc ds q.1 q.2 (.hole w))).1
theorem qal3{en:Ds->List D}(b:Blk X NY sc src tg ifs elt g qf te):Gf (tCPx en src pf g qf te):=λ f Q Q' i a c j=>qa4 λ q=>qa4 λ d=>qa4 λ k=>And.imp_right λ h w=>qm4 b (λ e ι=>qa4 λ z=>c _ _) _ _ _ (h w)
theorem qaN0{K:PySem.W.Frag}{en:Ds->List D}{wi:TI}{J:Addr->It}(b:Blk X NY sc src tg ifs elt g qf te)(M:∀{a:Addr}{vs:List V}{z:Bool}{ys:Ds}{T:List Addr}{τ:List (Option V)}{o0:Ds}{Dd:Addr}{F0:Addr->Prop}{H0 H:Hp}{A0:List Addr}{K0:Ds->Ds->Prop}{av:List (Option V)}{Q:Hp->Prop}{σ':St},D.imms ys=true->Mid src av (λ F H=>Rep F H (.ref a) (.lst z ys) T/\H a=some (.lst vs)) T τ o0 Dd F0 H0 A0 g qf te K0 (en ys) σ' H ->
     (∀ σ2 H2,Mid src av (λ F H=>Rep F H (.ref a) (.lst z ys) T/\H a=some (.lst vs)) T τ o0 Dd F0 H0 A0 g qf te K0 [] σ2 H2->Q H2)->qI7 (J a) (qx3 src g) (qx2 src qf) (By src te) Dd Q σ' H)(j:∀ σ H R,F9 c pf σ H (λ x H1=>∃ a,x=.ref a/\(∃ xs,SqL K H1 a xs)/\R (J a) H1)->wi σ H R):Imp c X (tCPx en src pf g qf te) (Ed wi src (qx3 src g) (qx2 src qf) (By src te)):=by
 rintro De s σ H Q I ⟨F,t,A,xe,S,x,q⟩;have h:=b.lt De σ H s I;refine j σ H _ ?_;obtain⟨⟨i,p⟩,N,q⟩:=qa6.mp q;obtain⟨d,e2,q⟩:=qa6.mp q;obtain⟨ys,O,P,q⟩:=qa6.mp q;obtain⟨z,rfl⟩:=qA6 O;refine⟨F,t,A,i,p,_,S,N,e2,D.noConfusion,λ u w H1 U k l=>?_⟩;obtain⟨B,C,r,y,Y⟩:=(S.same l).place e2 D.noConfusion U k;obtain⟨A1,Z,q2⟩:=Y (.hole w) [] (Kp.same (F:=F) λ _ _ z=>z) (λ _ _ z=>z) (.hole w);have E:Ok F H1 (B++A1):=(S.same l).ok.count λ b=>by rw[zA0,q2,y];simp
 have s1:Stp F H A F H1 (B++A1):=⟨λ b o e _=>l b o e,λ b o e z=>by rw[zA0,q2];have:=y b;simp;lia,λ _ f=>f,λ _ _ _ _ f=>f⟩
 have S1:Sta c F H1 σ (Bc t i p (.hole w)) A1:=⟨Z,E.right,S.len,S.ag⟩
 obtain⟨a,vs,Ael,rfl,G,rs,_⟩:=r.lst_inv;refine⟨a,rfl,⟨vs,.inl (.inl G)⟩,λ Dd hD=>M P (qR9 h S1 E ⟨r,G⟩ qt3 hD (qm4 b (λ a0 ι q v H' F' B' A' rv S' hp L s=>?_) _ _ _ (q (.ref a)))) λ σ2 H2 m=>qS0 h S1 m⟩;obtain⟨a1,eb,q⟩:=qa6.mp q;obtain⟨A2,k1,k2⟩:=qw3 (pls:=[.pl i p (.ref a)]) (vs:=[.ref a]) (more:=[]) (ys:=[.lst z ys]) (.so .nil) (.cons hp.1 .nil) S'.loc eb;have n:∀ b,(B'++A2).count b<=(B'++(B++A')).count b:=λ b=>by have:=k2 b;simp only[zAg,zA0] at *;lia
 exact q v H' F' B' A2 rv ⟨k1,(L.count n).right,S.len,S.ag⟩ (L.count n) ((s1.trans s).count n)
theorem qaT5{K:PySem.W.Frag}(b:Blk X NY sc src tg ifs elt g qf te):Imp c X (tCPx (λ ys=>ys) src pf g qf te) (Ed (Gx K (F9 c pf)) src (qx3 src g) (qx2 src qf) (By src te)) :=
 qaN0 (K:=K) (J:=Itl K) b (λ a m d=>qN2 b a m d) λ σ H R h=>h
noncomputable def capOk(X:Cx)(src:List (Option Nat)):Bool:=src.all λ o=>match o with | none=>true | some j=>decide (j < X.N.length)
theorem blk(b:∀ av C a H0 ex,VG (cIn src av) (qj2 X NY sc C a H0 ex) tg g)(c:∀ av C a H0 ex,VF (cIn src av) (qj2 X NY sc C a H0 ex) ifs qf)(d:∀ av C a H0 ex,VE (cIn src av) (qj2 X NY sc C a H0 ex) elt te)(e:capOk X src=true:=by rfl):Blk X NY sc src tg ifs elt g qf te :=
 ⟨b,c,d,λ De σ H s I j f=>by
   have:=zBg.mp e _ f
   rw[I.len];exact zA8 this⟩
end
theorem qA9{X:Cx}{NY:List Str}{sc:Scope}{C:Addr}{a:Shared}{H0:Hp}{ex:List Addr}{src:List (Option Nat)}{av:List (Option V)}:Lands (qj2 X NY sc C a H0 ex) (cIn src av).E:=λ _ _ _ _ _ _ _ _ _ z=>z.elim
section
variable{c:Vc}{X:Cx}{NY:List Str}{sc:Scope}{src:List (Option Nat)}{tg elt iter:Expr}{ifs:List Expr}{g:VTG}{qf:VTT}{te t0:VT}{pos:Pos}{pf:PF}{x:Str}
theorem ecL(hi:VE c X iter t0)(a:Blk X NY sc src tg ifs elt g qf te)(b:X.calm=true:=by rfl)(d:qB7 X NY src sc=true:=by rfl)(e:∀ x,foldedSetIterable iter X.env x=pure x:=by intro _;rfl):VE c X (.ListComp elt [⟨tg,iter,ifs,0⟩] sc pos) (tCL src t0 g qf te) :=
 qal0 (qJ7 NY src (qz9 hi.h) a.pg a.pf a.pe b d e) (qaT6 a hi) (qav9 a hi)
theorem ecP(hi:VP c X iter pf)(a:Blk X NY sc src tg ifs elt g qf te)(b:X.calm=true:=by rfl)(d:qB7 X NY src sc=true:=by rfl)(e:∀ x,foldedSetIterable iter X.env x=pure x:=by intro _;rfl):VE c X (.ListComp elt [⟨tg,iter,ifs,0⟩] sc pos) (tCPx (λ ys=>ys) src pf g qf te) :=
 qal0 (qJ7 NY src (qz9 hi.h) a.pg a.pf a.pe b d e) (qaT5 a) (qal3 a)
end
section
variable{c:Vc}{X:Cx}{es:List Expr}{tb:VTB}
def Iw(tb:VTB):VTA:=λ ds Q xe=>tb ds (λ xs _ ds1=>Q xs ds1) xe
theorem E5(h:VAs c X es tb):VOs c X es (Iw tb):=⟨PA.mono h.h λ σ H Q ⟨F,d,A,e,S,x,q⟩=>⟨F,d,A,e,S,x,h.m _ _ _ _ _ (λ f g a q i H' F' T A' r _ S' o s=>q i H' F' T A' r S' (s.count λ b=>by rw[zA0];lia)) (λ _ _ z=>z) q⟩,λ d Q Q' e j k l=>h.m _ _ _ _ _ (λ f g a=>k _ _) l⟩
end
structure Bg(x y z:Int)(ns:List Int):Prop where
 x0:0<=x
 y0:0<=y
 y1:y < 2147483647
 z0:0<=z
 nn:∀ n∈ns,0<=n
noncomputable def bagD(x y z:Int)(ns:List Int):D:=.lst false [.int x,.int y,.int z,.lst false (ns.map .int)]
def lawE:VEnds where
 nx _:=False
 rt d _:=d.asB=some true
 bk _:=False
 ct _:=False
 xe _ _:=False
theorem qan8{c:Vc}{X:Cx}{rest:List Stmt}{t:VTS}{H:Hp}{E:Dr}{p L:Addr}{x y z:Int}{ns:List Int}(e:c.av.length=2+n)(k:∀ i,c.W i=false)(a:c.gv=[])(l:H p=some (.lst [.int x,.int y,.int z,.ref L]))(m:H L=some (.lst (ns.map V.int)))(o:L≠p)(s:∀ H',E.rt (.bl true) H')(u:t lawE (.hole w::bagD x y z ns::List.replicate n .unk)):Ey c t E (some w::some (.ref p)::List.replicate n none) H:=by
 have L0:Locs (λ _=>False) H (some w::some (.ref p)::List.replicate n none) (.hole w::bagD x y z ns::List.replicate n .unk) ([]++((p::([]++([]++([]++((L::[])++[])))))++[])) :=
   .so (.hole w) (.so (.lst l (.cons (.int x) (.cons (.int y) (.cons (.int z) (.cons (.lst m (qG6 ns)) .nil))))) (qH6 n))
 refine⟨λ _=>False,_,_,lawE,⟨by rw[a,zAg];exact L0,⟨λ b=>?_,λ b f=>f.elim,λ b f=>f.elim⟩,by rw[a,e];simp;lia,λ i h=>by rw[k i] at h;cases h⟩,⟨λ _ _ _ _ _ z=>False.elim z,λ d A v σ' H' F' T A' q r _ _ _=>by rw[r.asB q];exact s H',λ _ _ _ _ _ z=>False.elim z,λ _ _ _ _ _ z=>False.elim z,λ _ _ _ _ _ _ _ z=>False.elim z⟩,u⟩;simp only[zB8,zAg,zAl,List.count_nil];by_cases g:p=b
 . subst g;simp[o]
 by_cases j:L=b
 . subst j;simp[g]
 simp[g,j]
section
variable{c:Vc}{b d e o:Expr}{oa ob oc:Bool}{fa fb fc:FV}
def f3(g g':D->D->Option D)(fa fb fc:FV):FV:=λ ds=>(fa ds).bind λ x=>(fb ds).bind λ y=>(g x y).bind λ z=>z.asB.bind λ k=>if k=true then (fc ds).bind λ u=>g' y u else some (.bl false)
theorem qaC7{r l:R2}{g g':D->D->Option D}(h:A9 true r g)(h':A9 true l g'):∀ σ H Q,liftV c true (f3 g g' fa fb fc) σ H Q->qaE3 r l (liftV c oa fa) (liftV c ob fb) (liftV c oc fc) σ H Q:=by
 rintro σ H Q ⟨F,f,A,d,S,e,q⟩;obtain⟨x,C,e⟩:=zA1.mp e;obtain⟨y,e2,e⟩:=zA1.mp e;obtain⟨z,E,e⟩:=zA1.mp e;obtain⟨k,G,e⟩:=zA1.mp e;refine⟨F,f,A,x,S,C,λ v H1 B1 I m T=>⟨F,f,A,y,S.same m,e2,λ w H2 B2 n p U=>?_⟩⟩;have i:=m.trans p;refine h F H2 v w x y _ z _ (Fo (I.same p) n) E λ u H3 B3 J s V=>⟨k,J.asB G,?_⟩
 have a:=i.trans s;cases k with
 | false=>rw[if_neg (by decide)] at e ⊢;cases e;exact q _ H3 [] (.bl _) a λ _=>New.nil
 | true =>
   rw[if_pos rfl] at e ⊢;obtain⟨t,K,L⟩:=zA1.mp e;refine⟨F,f,A,t,S.same a,K,λ M H4 B4 N j W=>?_⟩;refine h' F H4 w M y t _ d Q (Fo ((n.same s).same j) N) L λ O H5 B5 P R B=>q O H5 B5 P ((a.trans j).trans R) λ _=>⟨B.one,λ b o e=>B.new b o (j b o (a b o e))⟩
end
section
variable{c:Vc}{X:Cx}{a b d e:Expr}{pos:Pos}{oa ob oc:Bool}{fa fb fc:FV}
theorem vch{e:CmpOp}{r i:R2}{g g':D->D->Option D}(j:OpR X (compareOp op) r)(h:A9 true r g)(f:OpR X (compareOp e) i)(h':A9 true i g')(k:VV c X a oa fa)(l:VV c X b ob fb)(m:VV c X d oc fc)(hm:lastMarks [op,e] [b,d]=false:=by with_unfolding_all rfl) :
   VV c X (.Compare a [op,e] [b,d] pos) true (f3 g g' fa fb fc):=⟨PE.mono (qay2 j f k.h l.h m.h hm) (qaC7 h h')⟩
def G8(x:D):Option D:=match x with
 | .lst _ ys=>(intsD ys).bind λ a=>gd (a.length<=1000) (.int (qm2 a))
 | _=>none
theorem vlenS{p p2 cpos:Pos}(g:X.mg "len" = none)(i:X.mg "set" = none)(o:VV c X a oa fa)(j:Gl X "len" := by rfl)(k:Gl X "set" := by rfl)(r:X.calm=true:=by rfl)(n:starEach [a] X.env=(false,eval a X.env)::starEach [] X.env:=by rfl)(l:((backTo cpos (starEach [] X.env)).any λ x=>x.1)=false:=by rfl)(b:starEach [.Call (.Name "set" p2) [a] [] cpos] X.env=(false,eval (.Call (.Name "set" p2) [a] [] cpos) X.env)::starEach [] X.env:=by rfl)(f:((backTo pos (starEach [] X.env)).any λ x=>x.1)=false:=by rfl) :
   VV c X (.Call (.Name "len" p) [.Call (.Name "set" p2) [a] [] cpos] [] pos) true (f1 G8 fa):=by
 refine⟨PE.mono (cbi qaq5 g (qh2 (cty (qaq3 r) i (qh2 o.h qC7 n) k (by rfl) (by decide) (by decide) n l) qC7 b) j (by rfl) (by decide) (by decide) b f) λ σ H Q m=>?_⟩;obtain⟨F,s,A,d,S,e,q⟩:=m;obtain⟨x,t,e2⟩:=qap3.mp e;cases x with
 | lst z J =>
   obtain⟨u,w,y⟩:=zA1.mp e2;obtain⟨B,rfl⟩:=qs5 y;refine⟨F,s,A,_,S,t,λ v H1 B1 C D K=>?_⟩;obtain⟨a,L,A2,rfl,E,G,_⟩:=C.lst_inv;cases G.intsD w;refine⟨a,u,rfl,.inl (.inl E),B,λ p St I=>⟨p,St,_,rfl,qb9,?_⟩⟩;exact q _ _ [] (.int _) (D.trans (Same.new I)) λ _=>New.nil
 | _=>cases e2
def Br(f:Ds->Option D):VSp:=λ ds Q _=>orF (f ds) λ d=>Q d ds
theorem qy0{f:Ds->Option D}:Bj (Br f):=λ a Q Q' e b c _=>qa4 λ d=>c d a
noncomputable def wOf(l:List Bool)(i:Nat):Bool:=l.getD i false
end
section
variable{c:Vc}{X:Cx}{NY:List Str}{sc:Scope}{src:List (Option Nat)}{tg elt e o a b:Expr}{ifs:List Expr}{g:VTG}{qf:VTT}{te:VT}{pos px spos p0:Pos}{x xn:Str}
def Gr(en:Ds->List D)(src:List (Option Nat))(i:Nat)(g:VTG)(qf:VTT)(te:VT):VT:=λ ds Q xe=>orF (rdN i ds) λ d=>orF d.lstOf λ ys=>D.imms ys=true/\Et g qf te (λ acc ι'=>Q (.lst false acc) ((E4 src ι' (Bl src (ds.set i .unk)).2).set i d)) (en ys) [] (Bl src (ds.set i .unk)).1
theorem qF1{en:Ds->List D}(a:Blk X NY sc src tg ifs elt g qf te):Gf (Gr en src i g qf te):=λ f Q Q' h b c j=>qa4 λ d=>qa4 λ k=>And.imp_right (qm4 a (λ e ι=>c _ _) _ _ _)
theorem qau9{K:PySem.W.Frag}{en:Ds->List D}{wi:TI}{J:Addr->It}(r:Blk X NY sc src tg ifs elt g qf te)(G:X.N[i]? = some xn)(L:∀{a:Addr}{vs:List V}{z:Bool}{ys:Ds}{T:List Addr}{τ:List (Option V)}{o0:Ds}{Dd:Addr}{F0:Addr->Prop}{H0 H:Hp}{A0:List Addr}{K0:Ds->Ds->Prop}{av:List (Option V)}{Q:Hp->Prop}{σ':St},D.imms ys=true->Mid src av (λ F H=>Rep F H (.ref a) (.lst z ys) T/\H a=some (.lst vs)) T τ o0 Dd F0 H0 A0 g qf te K0 (en ys) σ' H ->
     (∀ σ2 H2,Mid src av (λ F H=>Rep F H (.ref a) (.lst z ys) T/\H a=some (.lst vs)) T τ o0 Dd F0 H0 A0 g qf te K0 [] σ2 H2->Q H2)->qI7 (J a) (qx3 src g) (qx2 src qf) (By src te) Dd Q σ' H)(j:∀ σ H R,E8 i σ H (λ x H1=>∃ a,x=.ref a/\(∃ xs,SqL K H1 a xs)/\R (J a) H1)->wi σ H R):Imp c X (Gr en src i g qf te) (Ed wi src (qx3 src g) (qx2 src qf) (By src te)):=by
 rintro De s σ H Q I ⟨F,M,A,xe,S,x,q⟩;have h:=r.lt De σ H s I;have O:=qs0 G De σ H s I;refine j σ H _ ?_;obtain⟨d,k,q⟩:=qa6.mp q;obtain⟨k,hk⟩:=qo0.mp k;obtain⟨ys,P,U,q⟩:=qa6.mp q;obtain⟨z,rfl⟩:=qA6 P;obtain⟨v,B,C,l,t,u,Y⟩:=S.put1 k D.noConfusion;have n:=l;rw[zAu O] at l;obtain⟨A1,Z,q2⟩:=Y .unk [] (Kp.same (F:=F) λ _ _ z=>z) (λ _ _ z=>z) (.unk v);have w:Ok F H (B++A1):=S.ok.count λ b=>by rw[zA0,q2,u];simp
 have s1:Stp F H A F H (B++A1):=⟨λ b o e _=>e,λ b o e z=>by rw[zA0,q2];have:=u b;simp;lia,λ _ f=>f,λ _ _ _ _ f=>f⟩
 have S1:Sta c F H σ (M.set i .unk) A1:=⟨Z,w.right,S.len,S.ag⟩
 obtain⟨a,vs,Ael,rfl,y,rs,_⟩:=t.lst_inv;refine⟨.ref a,l,a,rfl,⟨vs,.inl (.inl y)⟩,λ Dd hD=>L U (qR9 h S1 w ⟨t,y⟩ qt3 hD (qm4 r (λ a0 ι q v H' F' B' A' rv S' hp E s=>?_) _ _ _ q)) λ σ2 H2 m=>qS0 h S1 m⟩;obtain⟨A2,k1,k2⟩:=qF7 S'.loc n hp.1;have p:∀ b,(B'++A2).count b<=(B'++(B++A')).count b:=λ b=>by have:=k2 b;simp only[zA0] at *;lia
 exact q v H' F' B' A2 rv ⟨k1,(E.count p).right,S.len,S.ag⟩ (E.count p) ((s1.trans s).count p)
theorem qaL4{K:PySem.W.Frag}(a:Blk X NY sc src tg ifs elt g qf te)(b:X.N[i]? = some xn):Imp c X (Gr (λ ys=>ys) src i g qf te) (Ed (Gx K (E8 i)) src (qx3 src g) (qx2 src qf) (By src te)) :=
 qau9 (K:=K) (J:=Itl K) a b (λ d m e=>qN2 a d m e) λ σ H R h=>h
theorem qaL5{K:PySem.W.Frag}(b:Blk X NY sc src tg ifs elt g qf te)(d:X.N[i]? = some xn):Imp c X (Gr enD src i g qf te) (Ed (iEnum K (tCons (E8 i) tNil)) src (qx3 src g) (qx2 src qf) (By src te)) :=
 qau9 (K:=K) (J:=Ite K) b d (λ f m h=>qak9 b f m h) λ σ H R ⟨v,j,a,e,k,l⟩=>⟨v,j,a,by rw[e],k,l⟩
theorem ecN(i:Nat)(a:Blk X NY sc src tg ifs elt g qf te)(d:X.N[i]? = some xn:=by rfl)(e:Vis X.env.scope xn:=by first | exact Or.inl rfl | exact Or.inr (Or.inl rfl) | exact Or.inr (Or.inr rfl))(f:(xn == ("__debug__" : Str))=false:=by decide)(b:(xn == ("__classdict__" : Str))=false:=by decide)(h:X.calm=true:=by rfl)(j:qB7 X NY src sc=true:=by rfl)(k:∀ x,foldedSetIterable (.Name xn p0) X.env x=pure x:=by intro _;rfl):VE c X (.ListComp elt [⟨tg,.Name xn p0,ifs,0⟩] sc pos) (Gr (λ ys=>ys) src i g qf te) :=
 qal0 (qJ7 NY src (qz9 (qr4 d e f b)) a.pg a.pf a.pe h j k) (qaL4 a d) (qF1 a)
theorem ecEN(i:Nat){elts:List Expr}{f:Nat}{p cpos tpos:Pos}(hm:X.mg "enumerate" = none)(a:Blk X NY sc src (.Tuple elts f tpos) ifs elt g qf te)(h:X.N[i]? = some xn:=by rfl)(j:Vis X.env.scope xn:=by first | exact Or.inl rfl | exact Or.inr (Or.inl rfl) | exact Or.inr (Or.inr rfl))(k:(xn == ("__debug__" : Str))=false:=by decide)(d:(xn == ("__classdict__" : Str))=false:=by decide)(e:Gl X "enumerate" := by rfl)(b:starEach [.Name xn p0] X.env=[(false,eval (.Name xn p0) X.env)]:=by rfl)(l:X.calm=true:=by rfl)(m:qB7 X NY src sc=true:=by rfl)(n:∀ x,foldedSetIterable (.Call (.Name "enumerate" p) [.Name xn p0] [] cpos) X.env x=pure x:=by intro _;rfl):VE c X (.ListComp elt [⟨.Tuple elts f tpos,.Call (.Name "enumerate" p) [.Name xn p0] [] cpos,ifs,0⟩] sc pos) (Gr enD src i g qf te) :=
 qal0 (qJ7 NY src (qaH0 e hm (qh2 (qr4 h j k d) qC7 b) b) a.pg a.pf a.pe l m n) (qaL5 a h) (qF1 a)
theorem scN(i j:Nat)(d:X.N.Nodup)(a:Blk X NY sc src tg ifs elt g qf te)(l:c.W i=false:=by rfl)(k:X.N[j]? = some xn:=by rfl)(m:Vis X.env.scope xn:=by first | exact Or.inl rfl | exact Or.inr (Or.inl rfl) | exact Or.inr (Or.inr rfl))(n:(xn == ("__debug__" : Str))=false:=by decide)(e:(xn == ("__classdict__" : Str))=false:=by decide)(b:X.N[i]? = some x:=by rfl)(o:Loc X.env.scope x:=by first | exact Or.inl rfl | exact Or.inr rfl)(p:X.calm=true:=by rfl)(q:qB7 X NY src sc=true:=by rfl)(f:swapsWith (.ListComp elt [⟨tg,.Name xn p0,ifs,0⟩] sc pos) (some (.Name x px)) spos.line X.env=pure true:=by rfl)(r:∀ x,foldedSetIterable (.Name xn p0) X.env x=pure x:=by intro _;rfl)(h:X.fn x=true∨X.env.scope.names.lookup x=some .local:=by first | exact .inl rfl | exact .inr rfl | assumption):VS c X (.Assign [.Name x px] (.ListComp elt [⟨tg,.Name xn p0,ifs,0⟩] sc pos) spos) (Er (Gr (λ ys=>ys) src j g qf te) (gNm i)) :=
 qaO4 (qaG5 i NY src d (qz9 (qr4 k m n e)) a.pg a.pf a.pe b o p q f r h) (qaL4 a k) (qF1 a) l b
theorem qaj7{d0:D}{ds:Ds}(h:ds[i]? = some (.hole w)):bk1 i [] w d0 ds=some (ds.set i d0):=by
 unfold bk1 Am;rw[qI2 h];simp only[if_true];unfold Am;rw[qF8 h]
theorem qm5{g:VTG}{qf:VTT}{te:VT}{K:Ds->Ds->Prop}(I:Ds->Prop)(f:D->Option D):∀(xs:List D)(acc ι:Ds),acc.length+xs.length < big->I ι->(∀ x∈xs,∀ ι acc,I ι->∀ R:Ds->Ds->Prop,(∀ ι',I ι'->R (acc++(f x).toList) ι')->acc.length < big->g x ι λ ι1=>qf ι1 (λ b ι2=>if b=true then te ι2 (λ d ι3=>acc.length < big/\R (acc++[d]) ι3) (λ _ _=>False) else R acc ι2) (λ _ _=>False))->(∀ ι',I ι'->K (acc++xs.filterMap f) ι')->Et g qf te K xs acc ι
 | [],acc,ι,_,h,_,hK=>by
   have:=hK ι h
   rw[List.filterMap_nil,zAg] at this;exact this
 | x::xs,acc,ι,hl,h,hs,hK=>by
   refine hs x zAb ι acc h (λ a i=>Et g qf te K xs a i) (λ ι' hι=>?_) (by simp at hl;lia);refine qm5 I f xs _ ι' ?_ hι (λ y e=>hs y (zA6 _ e)) λ ι2 j=>?_
   . cases c:f x with
     | none=>simp at hl ⊢;lia
     | some y=>simp at hl ⊢;lia
   have:=hK ι2 j
   rw[zBu] at this;cases c:f x with
   | none=>rw[c] at this;simpa using this
   | some y=>rw[c] at this;simpa using this
end
section
theorem qaa8:∀{xs:List V}{us:List Value},xs.length=us.length->(∀(i:Nat)(x:V)(u:Value),xs[i]? = some x->us[i]? = some u->RelV x u)->Vals xs us:=by
 intro l
 induction l with
 | nil=>intro u z _;cases u with | nil=>exact .nil | cons=>cases z
 | cons x l k=>intro u z h;cases u with | nil=>cases z | cons u r=>exact .cons (h 0 x u rfl rfl) (k (Nat.succ.inj z) λ i y v a b=>h (i+1) y v a b)
end
structure MdN(K:PySem.W.Frag)(C:Addr)(m qual:Str)(st:Stmt)(f:Addr)(fd:FuncData)(ps:List Str):Prop where
 F:FunE K m qual st f fd
 b:Binds K fd ps []
 bn:Binds K fd ps [.none]
 me:Hb K C m f
 isf:PySem.W.isFn K (.ref f)=true
section
variable{X:Cx}{c:Vc}
theorem qaM7{x m qual:Str}{C f:Addr}{fd:FuncData}{st:Stmt}{ps:List Str}{k:Nat}{s:VSp}{e:Expr}{es:List Expr}{tr:VTB}{p pos:Pos}(i:Cl X.K X.mg x C)(M:Mk X.K C f)(D:MdN X.K C m qual st f fd ps)(G:VFn X.prog X.w X.K X.mg X.base k f fd ps s)(j:Lands X c.E)(l:Room (k+1) X.A)(a:VAs c X (e::es) tr)(n:Gl X x:=by rfl)(d:(x == ("__debug__" : Str))=false:=by decide)(o:starEach (e::es) X.env=(false,eval e X.env)::starEach es X.env:=by rfl)(g:(backTo pos (starEach es X.env)).any (·.1)=false:=by rfl):VE c X (.Call (.Name x p) (e::es) [] pos) (qN8 C s [] tr) :=
 ⟨PE.mono (qae1 M G.ok l n i.m D.b .nil j.passes a.h d o g) (qaf8 qm3 G.m a),qH3 G.m a⟩
end
theorem mdmkN{K:PySem.W.Frag}{C:Addr}{m qual:Str}{st:Stmt}{f T:Addr}{ps:List Str}{oc to:Value}{v td g:Option Addr}{p q:Array (Option Value)}{kV e h d j:Value}(l:K.lookup f=some ⟨oc,v,.func (PySem.W.fnOf m qual (qf1 st) (qc9 st) (qa3 st) (.ref T) kV e h g d j),p⟩)(c:PySem.W.codeIn K d qual=true)(k:PySem.W.keepIn K (.ref f)=true)(a:PySem.W.findIn K (.ref C) m=some (some (.ref f)))(i:PySem.W.isFn K (.ref f)=true)(t:K.lookup T=some ⟨to,td,.seq #[.none] n,q⟩)(b:∀(kV e h:Value)(g:Option Addr)(d j:Value)(us:List Value),us.length=ps.length->∃ k,bindArgs (PySem.W.fnOf m qual (qf1 st) (qc9 st) (qa3 st) (.ref T) kV e h g d j) ⟨us,[]⟩=seqItems? (.ref T) >>= k/\k (some #[.none])=pure (ps.zip us))(w:∀(kV e h:Value)(g:Option Addr)(d j:Value)(us:List Value),us.length+1=ps.length->∃ k,bindArgs (PySem.W.fnOf m qual (qf1 st) (qc9 st) (qa3 st) (.ref T) kV e h g d j) ⟨us,[]⟩=seqItems? (.ref T) >>= k/\k (some #[.none])=pure (ps.zip (us++[.none]))) :
   MdN K C m qual st f (PySem.W.fnOf m qual (qf1 st) (qc9 st) (qa3 st) (.ref T) kV e h g d j) ps :=
 ⟨⟨⟨_,_,_,_,_,_,_,_,_,_,rfl,l,c⟩⟩,λ s us X o=>(by
   rw[zAg] at o ⊢;obtain⟨k,r,u⟩:=b kV e h g d j us o;exact PySem.W.binds_K X rfl t rfl r u),λ s us X o=>(by
   obtain⟨k,r,u⟩:=w kV e h g d j us (by rw[zAf] at o;exact o);exact PySem.W.binds_K X rfl t rfl r u),⟨a,i,k⟩,i⟩
end LV
namespace LV
open PySem L2
section
variable{F:Addr->Prop}{H:Hp}
noncomputable def qaT9(ys xs:Ds):Option (Ds×D):=match xs with
 | [.int i]=>if 0<=i/\i < 2 ^ 63 then (ys[i.toNat]?).map λ d=>(ys.eraseIdx i.toNat,d) else none
 | _=>none
theorem qai7{α:Type}{xs:List α}{x:α}:∀{ys:List α},(xs++x::ys).eraseIdx xs.length=xs++ys:=λ{ys}=>by
 rw[List.eraseIdx_append_of_length_le (zA3 _),Nat.sub_self];rfl
theorem qaz6:Gn qaF2 qaT9:=by
 intro F H a g c Ael M u T j d Q x r y h q
 cases u with
 | nil=>cases h
 | cons e l=>
 cases l with
 | cons=>cases e<;>cases h
 | nil=>
 cases e with
 | int i=>
   obtain⟨w,rfl,k⟩:=y.one_inv;cases k;have h:(if 0<=i/\i < 2 ^ 63 then (c[i.toNat]?).map λ d=>(c.eraseIdx i.toNat,d) else none)=some (j,d):=h;by_cases f:0<=i/\i < 2 ^ 63
   . rw[if_pos f] at h
     obtain⟨e,p,z⟩:=zAd.mp h;cases z;obtain⟨l,v,m,n,o,A1,B,A2,s,e2,t,A,C,D,E,G⟩:=r.split p;have I:i.toNat < c.length:=(zA2.mp p).1;have J:g[i.toNat]? = some v:=by rw[s,<- t,List.getElem?_append_right (zA3 _),Nat.sub_self];rfl
     refine⟨a,g,i,i.toNat,v,rfl,rfl,x,by lia,f.2,?_,J,?_⟩
     . rw[r.len]
       exact PySem.StrLaws.seqIndex_nonneg f.1 (by lia)
     have K:g.eraseIdx i.toNat=l++m:=by rw[<- t,s];exact qai7
     have L:c.eraseIdx i.toNat=n++o:=by rw[<- A,e2];exact qai7
     rw[K];exact q _ v (A1++A2) B (by rw[L];exact D.append G) E λ b=>by rw[C];simp only[zA0];lia
   rw[if_neg f] at h;cases h
 | _=>cases h
end
theorem rm{j k:Nat}{A:Around}(r:Room k A)(h:j<=k:=by decide):Room j A:=r.mono h
theorem VFn.mk2{P:Program}{w:World}{K:PySem.W.Frag}{mg:Str->Option Value}{base:Heap}{x qual:Str}{st:Stmt}{f:Addr}{fd:FuncData}{N ps:List Str}{k:Nat}{s:VSp}(Fu:Fun K x qual st f fd)(Sc:qa8 N ps (qa3 st))(W:Nat->Bool)(c:Bj s)(h:∀ ds Q xe,s ds Q xe->ds.length=ps.length/\Gq W 0 ds=true)(hbody:∀(a:Value)(A:Around)(outer:List Env)(b:Shared)(H:Hp)(E:XK)(av:List (Option V)),Room k (A.deeper (PyProof.Rows.envOfC qual (qa3 st) b.heap.objs.size f a)) ->
     ∃ t,VSs ⟨E,W,av,[]⟩ (Dt (CX1 P w) P w K mg base N qual (qa3 st) f a A outer b H E) (qc9 st) t/\∀ ds Q xe,s ds Q xe->t (qap5 W ds Q xe) (ds++List.replicate (N.length - ds.length) .unk)) :
   VFn P w K mg base (k+1) f fd ps s:=VFn.mk' Fu Sc W c (λ ds Q xe z=>(h ds Q xe z).1) (λ ds Q xe z=>(h ds Q xe z).2) hbody
end LV
namespace S6
open PySem PyProof.Rows
variable{Q:Unit->SortSt->Prop}{arr xs:Array Keyed}{f:Nat->Keyed}{g n q:Nat}{key x:Keyed}{kf:Value->Int×Int}{l:Bool}{vs:List Value}
section
variable{α:Type}{le:α->α->Bool}
theorem mg_l{A2:List α}:∀{A1 Y:List α},(∀ a∈A1,∀ y∈Y,le a y=true)->List.merge (A1++A2) Y le=A1++List.merge A2 Y le
 | [],_,_=>rfl
 | x::A1,[],_=>by simp
 | x::A1,y::Y,h=>by
   rw[zBq,zB6,if_pos (h x (by simp) y (by simp)),mg_l λ a b=>h a (by simp[b])];rfl
theorem mg_r{B2:List α}:∀{B1 X:List α},(∀ b∈B1,∀ x∈X,le x b=false)->List.merge X (B1++B2) le=B1++List.merge X B2 le
 | [],_,_=>rfl
 | b::B1,[],_=>by simp
 | b::B1,x::X,h=>by
   rw[zBq,zB6,if_neg (by simp[h b (by simp) x (by simp)]),mg_r λ a c=>h a (by simp[c])];rfl
theorem Ix{A2:List α}:∀{A1 Y:List α},(∀ a∈A2,∀ y∈Y,le a y=false)->List.merge (A1++A2) Y le=List.merge A1 Y le++A2
 | [],Y,h=>by
   have:=mg_r (B2:=[]) (B1:=Y) (X:=A2) (le:=le) λ y c a b=>h a b y c
   simpa using this
 | x::A1,[],_=>by simp
 | x::A1,y::Y,h=>by
   rw[zBq,zB6,zB6];split
   . rw[Ix h];rfl
   rw[<- zBq,Ix λ a b z d=>h a b z (by simp[d])];rfl
theorem G9{B2:List α}:∀{B1 X:List α},(∀ b∈B2,∀ x∈X,le x b=true)->List.merge X (B1++B2) le=List.merge X B1 le++B2
 | [],X,h=>by
   have:=mg_l (A2:=[]) (A1:=X) (Y:=B2) (le:=le) λ y d a c=>h a c y d
   simpa using this
 | b::B1,[],_=>by simp
 | b::B1,x::X,h=>by
   rw[zBq,zB6,zB6];split
   . rw[<- zBq,G9 λ a c z e=>h a c z (by simp[e])];rfl
   rw[G9 h];rfl
end
noncomputable def gal:Bool->Keyed->Array Keyed->Nat->Nat->Nat->StateT SortSt Sem (Option Nat):=sortPriv% PySem.Builtin.gallop
def bey(l:Bool)(key:Keyed)(arr:Array Keyed)(i:Nat):StateT SortSt Sem (Option Bool):=do
 let x <- elem' arr i
 if l then lt' x key else return (<- lt' key x).map (!·)
theorem qaT8(l:Bool)(key:Keyed)(arr:Array Keyed)(a n g:Nat):gal l key arr a n g=(do
 let mut p:=0
 let mut o:=1
 let mut u:=0
 let mut v:=0
 let some t <- bey l key arr (a+g) | return none
 if t then
   let mo:=n - g
   for _ in [0:n] do
     if o ≥ mo then break
     let some c <- bey l key arr (a+(g+o)) | return none
     if !c then break
     p:=o
     o:=2 * o+1
   u:=g+p+1
   v:=g+min o mo
 else
   let mo:=g+1
   for _ in [0:n] do
     if o ≥ mo then break
     let some c <- bey l key arr (a+(g - o)) | return none
     if c then break
     p:=o
     o:=2 * o+1
   u:=g+1 - min o mo
   v:=g - p
 for _ in [0:n] do
   if u ≥ v then break
   let m:=u+(v - u) / 2
   let some c <- bey l key arr (a+m) | return none
   if c then u:=m+1 else v:=m
 return some v):=rfl
structure Od(lt:Keyed->Keyed->Bool):Prop where
 as:∀ x y,lt x y=true->lt y x=false
 tr:∀ x y z,lt y x=false->lt z y=false->lt z x=false
def Cm(prog:Program)(w:World)(A:Around)(s:Shared)(kd:SortKind)(P:Keyed->Prop)(lt:Keyed->Keyed->Bool):Prop :=
 ∀ x y,P x->P y->∀(E:Value->Shared->Prop)(Q:Bool->Shared->Prop),Q (lt x y) s->wpAny (model prog w) A (keyLt' kd x.1 y.1) Q E s
section
variable{prog:Program}{w:World}{A:Around}{E:Value->Shared->Prop}{s:Shared}{kd:SortKind}{P:Keyed->Prop}{lt:Keyed->Keyed->Bool}{st:SortSt}
theorem Od.ir(h:Od lt)(x:Keyed):lt x x=false:=by
 cases e:lt x x with
 | false=>rfl
 | true=>rw[h.as x x e] at e;cases e
theorem wlt{y:Keyed}{Q:Option Bool->SortSt->Prop}(a:Cm prog w A s kd P lt)(b:kindOf st=kd)(c:P x)(d:P y)(h:Q (some (lt x y)) st):wpS (model prog w) A E s (lt' x y) Q st:=by
 rw[lt'_eq];refine wpS_bind (wpS_get ?_);rw[b];exact wpS_bind (wpS_lift (wpAny_attempt (a x y c d _ _ ⟨rfl,wpS_pure h⟩)))
theorem wel{i:Nat}{p:Keyed}{Q:Keyed->SortSt->Prop}(hi:arr[i]? = some p)(h:Q p st):wpS (model prog w) A E s (elem' arr i) Q st:=by
 rw[elem'_eq,hi];exact wpS_pure h
def B(lt:Keyed->Keyed->Bool)(l:Bool)(key x:Keyed):Bool:=if l then lt x key else !lt key x
theorem wbey{i:Nat}{Q:Option Bool->SortSt->Prop}(a:Cm prog w A s kd P lt)(b:kindOf st=kd)(hi:arr[i]? = some x)(c:P x)(d:P key)(h:Q (some (B lt l key x)) st):wpS (model prog w) A E s (bey l key arr i) Q st:=by
 unfold bey;refine wpS_bind (wel hi ?_);cases l with
 | true=>exact wlt a b c d h
 | false=>exact wpS_bind (wlt a b d c (wpS_pure h))
theorem wgal{O:Nat}{Q:Option Nat->SortSt->Prop}(H:Cm prog w A s kd P lt)(J:kindOf st=kd)(K:P key)(L:∀ i,i < n->arr[O+i]? = some (f i))(M:∀ i,i < n->P (f i))(hm:∀ i j,i<=j->j < n->B lt l key (f j)=true->B lt l key (f i)=true)(R:g < n)(h:∀ k,k<=n->(∀ i,i < k->B lt l key (f i)=true)->(∀ i,k<=i->i < n->B lt l key (f i)=false)->Q (some k) st):wpS (model prog w) A E s (gal l key arr O n g) Q st:=by
 have D:∀ i j,i<=j->j < n->B lt l key (f i)=false->B lt l key (f j)=false:=λ i j a b c=>by
   cases e:B lt l key (f j) with
   | false=>rfl
   | true=>rw[hm i j a b e] at c;cases c
 have fin:∀ u v,u<=v->v<=n->(∀ i,i < u->B lt l key (f i)=true)->(∀ i,v<=i->i < n->B lt l key (f i)=false) ->
    wpS (model prog w) A E s (do
      let mut u:=u
      let mut v:=v
      for _ in [0:n] do
       if u ≥ v then break
       let m:=u+(v - u) / 2
       let some c <- bey l key arr (O+m) | return none
       if c then u:=m+1 else v:=m
      return some v) Q st:=by
   intro u v W X Y Z;refine wpS_bind (wpS_mono (wpS_forRange (I:=λ x c d=>d=st/\∃ u v,c=(none,u,v)/\u<=v/\v<=n/\v - u<=n - x/\(∀ i,i < u->B lt l key (f i)=true)/\(∀ i,v<=i->i < n->B lt l key (f i)=false))
     (Q:=λ c d=>d=st/\∃ v,c=(none,v,v)/\v<=n/\(∀ i,i < v->B lt l key (f i)=true)/\(∀ i,v<=i->i < n->B lt l key (f i)=false)) ?_ ?_ ⟨rfl,u,v,rfl,W,X,by omega,Y,Z⟩) ?_)
   . rintro x c d - S ⟨rfl,u,v,rfl,t,y,r,q,z⟩
     dsimp only;by_cases T:u ≥ v
     . rw[if_pos T]
       obtain rfl:u=v:=by omega
       exact wpS_pure ⟨rfl,u,rfl,y,q,z⟩
     rw[if_neg T];refine wpS_bind (wbey H J (L _ (by omega)) (M _ (by omega)) K ?_);cases C:B lt l key (f (u+(v - u) / 2)) with
     | true=>exact wpS_pure ⟨rfl,_,v,rfl,by omega,y,by omega,λ i U=>hm i _ (by omega) (by omega) C,z⟩
     | false=>exact wpS_pure ⟨rfl,u,_,rfl,by omega,by omega,by omega,q,λ i N F=>D _ i N F C⟩
   . rintro c d ⟨rfl,u,v,rfl,t,y,r,q,z⟩
     obtain rfl:u=v:=by omega
     exact⟨rfl,u,rfl,y,q,z⟩
   rintro c d ⟨rfl,v,rfl,y,q,z⟩;exact wpS_pure (h v y q z)
 rw[qaT8];refine wpS_bind (wbey H J (L _ R) (M _ R) K ?_);dsimp only;cases V:B lt l key (f g) with
 | true =>
   rw[if_pos rfl];refine wpS_bind (wpS_mono (wpS_forRange (I:=λ x c d=>d=st/\∃ p o,c=(none,p,o)/\p < o/\x+1<=o/\g+p < n/\B lt l key (f (g+p))=true)
     (Q:=λ c d=>d=st/\∃ p o,c=(none,p,o)/\p < o/\g+p < n/\B lt l key (f (g+p))=true/\(o < n - g->B lt l key (f (g+o))=false)) ?_ ?_ ⟨rfl,0,1,rfl,by omega,by omega,by omega,V⟩) ?_)
   . rintro x c d - S ⟨rfl,p,o,rfl,t,y,r,q⟩
     dsimp only;by_cases G:o ≥ n - g
     . rw[if_pos G];exact wpS_pure ⟨rfl,p,o,rfl,t,r,q,λ h=>by omega⟩
     rw[if_neg G];refine wpS_bind (wbey H J (L _ (by omega)) (M _ (by omega)) K ?_);cases C:B lt l key (f (g+o)) with
     | true=>exact wpS_pure ⟨rfl,o,_,rfl,by omega,by omega,by omega,C⟩
     | false=>exact wpS_pure ⟨rfl,p,o,rfl,t,r,q,λ _=>C⟩
   . rintro c d ⟨rfl,p,o,rfl,t,y,r,q⟩
     exact⟨rfl,p,o,rfl,t,r,q,λ h=>by omega⟩
   rintro c d ⟨rfl,p,o,rfl,t,r,q,z⟩;refine fin (g+p+1) (g+min o (n - g)) (by omega) (by omega) (λ i U=>hm i _ (by omega) r q) λ i N F=>?_
   exact D (g+o) i (by omega) F (z (by omega))
 | false =>
   rw[if_neg (by decide)];refine wpS_bind (wpS_mono (wpS_forRange (I:=λ x c d=>d=st/\∃ p o,c=(none,p,o)/\p < o/\x+1<=o/\p<=g/\B lt l key (f (g - p))=false)
     (Q:=λ c d=>d=st/\∃ p o,c=(none,p,o)/\p < o/\p<=g/\B lt l key (f (g - p))=false/\(o < g+1->B lt l key (f (g - o))=true)) ?_ ?_ ⟨rfl,0,1,rfl,by omega,by omega,by omega,V⟩) ?_)
   . rintro x c d - S ⟨rfl,p,o,rfl,t,y,r,q⟩
     dsimp only;by_cases G:o ≥ g+1
     . rw[if_pos G];exact wpS_pure ⟨rfl,p,o,rfl,t,r,q,λ h=>by omega⟩
     rw[if_neg G];refine wpS_bind (wbey H J (L _ (by omega)) (M _ (by omega)) K ?_);cases C:B lt l key (f (g - o)) with
     | true=>exact wpS_pure ⟨rfl,p,o,rfl,t,r,q,λ _=>C⟩
     | false=>exact wpS_pure ⟨rfl,o,_,rfl,by omega,by omega,by omega,C⟩
   . rintro c d ⟨rfl,p,o,rfl,t,y,r,q⟩
     exact⟨rfl,p,o,rfl,t,r,q,λ h=>by omega⟩
   rintro c d ⟨rfl,p,o,rfl,t,r,q,z⟩;refine fin (g+1 - min o (g+1)) (g - p) (by omega) (by omega) (λ i U=>hm i (g - o) (by omega) (by omega) (z (by omega))) λ i N F=>D _ i N F q
end
noncomputable abbrev lee(lt:Keyed->Keyed->Bool):Keyed->Keyed->Bool:=λ x y=>!lt y x
section
variable{α:Type}{le:α->α->Bool}
theorem Iy{A2 Y:List α}{y:α}:∀{A1:List α},(∀ a∈A1,le a y=true)->List.merge (A1++A2) (y::Y) le=A1++List.merge A2 (y::Y) le
 | [],_=>rfl
 | x::A1,h=>by rw[zBq,zB6,if_pos (h x (by simp)),Iy λ a b=>h a (by simp[b])];rfl
theorem Iz{B2 X:List α}{x:α}:∀{B1:List α},(∀ b∈B1,le x b=false)->List.merge (x::X) (B1++B2) le=B1++List.merge (x::X) B2 le
 | [],_=>rfl
 | b::B1,h=>by rw[zBq,zB6,if_neg (by simp[h b (by simp)]),Iz λ a c=>h a (by simp[c])];rfl
end
noncomputable def att(a:Array Keyed)(i:Nat):Keyed:=a.getD i (Value.none,Value.none)
theorem qb8{a:Array Keyed}{i:Nat}(h:i < a.size):a[i]? = some (att a i):=by simp[att,Array.getD,h]
theorem Dw{a:Array Keyed}{i:Nat}(h:i < a.size):a.toList.drop i=att a i::a.toList.drop (i+1):=by
 rw[List.drop_eq_getElem_cons (by simpa using h)];simp[att,Array.getD,h]
def Srt(lt:Keyed->Keyed->Bool)(f:Nat->Keyed)(n:Nat):Prop:=∀ i j,i<=j->j < n->lt (f j) (f i)=false
theorem Srt.drop{lt:Keyed->Keyed->Bool}{k:Nat}(h:Srt lt f n):Srt lt (λ i=>f (k+i)) (n - k):=λ i j a b=>h _ _ (by lia) (by lia)
theorem qw0{a:Array Keyed}{i k:Nat}(h:x∈(a.toList.drop i).take k):∃ j,j < k/\i+j < a.size/\x=att a (i+j):=by
 obtain⟨j,b,e⟩:=List.mem_iff_getElem.mp h;rw[zBp,List.length_drop,zB5] at b;refine⟨j,by lia,by lia,?_⟩;rw[<- e,List.getElem_take,List.getElem_drop];simp[att,Array.getD,show i+j < a.size by lia]
theorem qc7{a:Array Keyed}{i j:Nat}:(a.extract i j).toList=(a.toList.drop i).take (j - i):=by simp[List.take_drop]
section
variable{prog:Program}{w:World}{A:Around}{E:Value->Shared->Prop}{s:Shared}{kd:SortKind}{P:Keyed->Prop}{lt:Keyed->Keyed->Bool}{st:SortSt}
theorem wgs{a:Nat}{Q:Option Nat->SortSt->Prop}(c:Od lt)(o:Cm prog w A s kd P lt)(p:kindOf st=kd)(q:P key)(y:a+n<=arr.size)(r:∀ i,i < arr.size->P (att arr i))(t:Srt lt (λ i=>att arr (a+i)) n)(u:g < n)(h:∀ k,k<=n->(∀ i,i < k->B lt l key (att arr (a+i))=true)->(∀ i,k<=i->i < n->B lt l key (att arr (a+i))=false)->Q (some k) st):wpS (model prog w) A E s (gal l key arr a n g) Q st:=by
 refine wgal (f:=λ i=>att arr (a+i)) o p q (λ i v=>qb8 (by lia)) (λ i v=>r _ (by lia)) (λ i j b x d=>?_) u h;have m:=t i j b x;cases l with
 | false =>
   have e:lt key (att arr (a+j))=false:=by simpa[B] using d
   show (!lt key (att arr (a+i)))=true;rw[c.tr _ _ _ m e];rfl
 | true =>
   show lt (att arr (a+i)) key=true;cases e:lt (att arr (a+i)) key with
   | true=>rfl
   | false=>have:=c.tr _ _ _ e m;rw[show lt (att arr (a+j)) key=true from d] at this;cases this
def R(st a:SortSt):Prop:=kindOf a=kindOf st/\arrOf a=arrOf st/\pendingOf a=pendingOf st/\failedOf a=failedOf st
noncomputable def mlo:Array Keyed->Array Keyed->StateT SortSt Sem (Array Keyed):=sortPriv% PySem.Builtin.mergeLo
noncomputable def smg:Nat->StateT SortSt Sem Unit:=sortPriv% PySem.Builtin.setMinGallop
theorem wsmg{a:SortSt}(c:R a st)(h:∀ b,R a b->Q () b):wpS (model prog w) A E s (smg g) Q st :=
 wpS_modify (h _ c)
theorem qaS0(a b:Array Keyed):mlo a b=(do
 rule "list.sort.merge-lo"
 let tt:=a.size+b.size
 let dn (o:Array Keyed) (i j:Nat):=o++a.extract i a.size++b.extract j b.size
 let la (o:Array Keyed) (i j:Nat):=o++b.extract j b.size++a.extract i a.size
 let mut o:Array Keyed:=#[<- elem' b 0]
 let mut i:=0
 let mut j:=1
 if j == b.size then return dn o i j
 if i+1 == a.size then return la o i j
 let mut g:=gallopOf (<- get)
 for _ in [0:tt] do
   let mut x:=0
   let mut y:=0
   for _ in [0:tt] do
     let some t <- lt' (<- elem' b j) (<- elem' a i) | return dn o i j
     if t then
       o:=o.push (<- elem' b j);j:=j+1;y:=y+1;x:=0
       if j == b.size then return dn o i j
       if y ≥ g then break
     else
       o:=o.push (<- elem' a i);i:=i+1;x:=x+1;y:=0
       if i+1 == a.size then return la o i j
       if x ≥ g then break
   rule "list.sort.gallop"
   g:=g+1
   for _ in [0:tt] do
     if g > 1 then g:=g - 1
     smg g
     let some k <- gal false (<- elem' b j) a i (a.size - i) 0 | return dn o i j
     x:=k
     if k > 0 then
       o:=o++a.extract i (i+k);i:=i+k
       if i+1 == a.size then return la o i j
       if i == a.size then return dn o i j
     o:=o.push (<- elem' b j);j:=j+1
     if j == b.size then return dn o i j
     let some k <- gal true (<- elem' a i) b j (b.size - j) 0 | return dn o i j
     y:=k
     if k > 0 then
       o:=o++b.extract j (j+k);j:=j+k
       if j == b.size then return dn o i j
     o:=o.push (<- elem' a i);i:=i+1
     if i+1 == a.size then return la o i j
     if x < 7&&y < 7 then break
   g:=g+1
   smg g
 unsupported "internal:list.sort.merge-bound"):=rfl
theorem wif{α:Type}{c:Prop}[Decidable c]{m n:StateT SortSt Sem α}{Q:α->SortSt->Prop}(h1:c->wpS (model prog w) A E s m Q st)(h2:¬ c->wpS (model prog w) A E s n Q st):wpS (model prog w) A E s (if c then m else n) Q st:=by
 by_cases h:c
 . rw[if_pos h];exact h1 h
 rw[if_neg h];exact h2 h
def Eq2(lt:Keyed->Keyed->Bool)(a b o:Array Keyed)(i j:Nat):Prop:=o.toList++List.merge (a.toList.drop i) (b.toList.drop j) (lee lt)=List.merge a.toList b.toList (lee lt)
variable{a b o:Array Keyed}{i j k:Nat}
theorem Eq2.done(h:Eq2 lt a b o i j)(c:j=b.size∨i=a.size):(o++a.extract i a.size++b.extract j b.size).toList=List.merge a.toList b.toList (lee lt):=by
 rw[<- h,zB4,zB4,qc7,qc7,zAm];congr 1;rw[zAs (by simp),zAs (by simp)];rcases c with rfl | rfl
 . rw[show b.toList.drop b.size=[] by simp,zAg,List.merge_right]
 rw[show a.toList.drop a.size=[] by simp,zB8,List.nil_merge]
theorem Eq2.last(h:Eq2 lt a b o i j)(hi:i+1=a.size)(d:∀ n,n < b.size->lt (att b n) (att a i)=true):(o++b.extract j b.size++a.extract i a.size).toList=List.merge a.toList b.toList (lee lt):=by
 rw[<- h,zB4,zB4,qc7,qc7,zAm];congr 1;rw[zAs (by simp),zAs (by simp),Dw (a:=a) (i:=i) (by lia),show a.toList.drop (i+1)=[] from List.drop_eq_nil_of_le (by simp;lia)]
 have:=Iz (le:=lee lt) (B2:=[]) (X:=[]) (x:=att a i) (B1:=b.toList.drop j) λ x c=>by
   rw[<- zAs (l:=b.toList.drop j) (zA3 _)] at c;obtain⟨n,_,e,rfl⟩:=qw0 c;simp[d _ e]
 rw[zAg] at this;rw[this];simp
theorem Eq2.pb(h:Eq2 lt a b o i j)(hi:i < a.size)(c:j < b.size)(d:lt (att b j) (att a i)=true):Eq2 lt a b (o.push (att b j)) i (j+1):=by
 unfold Eq2 at h ⊢;rw[<- h,Array.toList_push,zAm,Dw hi,Dw c,zB6,if_neg (by simp[d])];rfl
theorem Eq2.pa(h:Eq2 lt a b o i j)(hi:i < a.size)(c:j < b.size)(d:lt (att b j) (att a i)=false):Eq2 lt a b (o.push (att a i)) (i+1) j:=by
 unfold Eq2 at h ⊢;rw[<- h,Array.toList_push,zAm,Dw hi,Dw c,zB6,if_pos (by simp[d])];rfl
theorem Eq2.ga(h:Eq2 lt a b o i j)(c:j < b.size)(d:∀ n,n < k->i+n < a.size->lt (att b j) (att a (i+n))=false):Eq2 lt a b (o++a.extract i (i+k)) (i+k) j:=by
 unfold Eq2 at h ⊢;rw[<- h,zB4,qc7,zAm,show i+k - i=k by lia,Dw c];congr 1
 conv=>rhs;rw[<- zBf k (a.toList.drop i)]
 rw[Iy (le:=lee lt),List.drop_drop];intro x e;obtain⟨n,f,g,rfl⟩:=qw0 e;simp[d n f g]
theorem Eq2.gb(h:Eq2 lt a b o i j)(hi:i < a.size)(c:∀ n,n < k->j+n < b.size->lt (att b (j+n)) (att a i)=true):Eq2 lt a b (o++b.extract j (j+k)) i (j+k):=by
 unfold Eq2 at h ⊢;rw[<- h,zB4,qc7,zAm,show j+k - j=k by lia,Dw hi];congr 1
 conv=>rhs;rw[<- zBf k (b.toList.drop j)]
 rw[Iz (le:=lee lt),List.drop_drop];intro x d;obtain⟨n,e,f,rfl⟩:=qw0 d;simp[c n e f]
theorem wmlo{Q:Array Keyed->SortSt->Prop}(hO:Od lt)(W:Cm prog w A s kd P lt)(X:kindOf st=kd)(L:∀ n,n < a.size->P (att a n))(M:∀ n,n < b.size->P (att b n))(Y:Srt lt (att a) a.size)(Z:Srt lt (att b) b.size)(a0:0 < a.size)(O:0 < b.size)(h0:lt (att b 0) (att a 0)=true)(hl:∀ n,n < b.size->lt (att b n) (att a (a.size - 1))=true)(h:∀ r f,R st f->r.toList=List.merge a.toList b.toList (lee lt)->Q r f):wpS (model prog w) A E s (mlo a b) Q st:=by
 have F:∀ i,i+1=a.size->∀ n,n < b.size->lt (att b n) (att a i)=true:=λ i e n hn=>by rw[show i=a.size - 1 by lia];exact hl n hn
 rw[qaS0];refine wpS_bind (wpS_lift (wpAny_rule ⟨rfl,?_⟩));refine wpS_bind (wel (qb8 O) ?_);have e1:Eq2 lt a b #[att b 0] 0 1:=Eq2.pb (o:=#[]) (i:=0) (j:=0) rfl a0 O h0;by_cases c1:1=b.size
 . rw[if_pos (by simpa using c1)]
   exact wpS_pure (h _ st ⟨rfl,rfl,rfl,rfl⟩ (e1.done (.inl c1)))
 rw[if_neg (by simpa using c1)];by_cases U:0+1=a.size
 . rw[if_pos (by simpa using U)]
   exact wpS_pure (h _ st ⟨rfl,rfl,rfl,rfl⟩ (e1.last U (F 0 U)))
 rw[if_neg (by simpa using U)];refine wpS_bind (wpS_get ?_)
 let D (c:Option (Array Keyed)):Prop:=∃ r,c=some r/\r.toList=List.merge a.toList b.toList (lee lt)
 let G (n:Nat) (o:Array Keyed) (i j:Nat):Prop:=Eq2 lt a b o i j/\i+1 < a.size/\j < b.size/\n<=i+j
 refine wpS_bind (wpS_mono (wpS_forRange (I:=λ x c f=>R st f/\∃ o i j g,c=(none,o,i,j,g)/\G (x+1) o i j)
   (Q:=λ c f=>R st f/\D c.1) ?_ ?_ ⟨⟨rfl,rfl,rfl,rfl⟩,_,_,_,_,rfl,e1,by lia,by lia,by lia⟩) ?_)
 . rintro x c N - hx ⟨V,o,i,j,g,rfl,g1,g2,g3,g4⟩
   refine wpS_bind (wpS_mono (wpS_forRange (I:=λ y c f=>R st f/\∃ o i j p t,c=(none,o,i,j,p,t)/\G (x+1+y) o i j)
     (Q:=λ c f=>R st f/\(D c.1∨∃ o i j p t,c=(none,o,i,j,p,t)/\G (x+2) o i j)) ?_ ?_ ⟨V,_,_,_,_,_,rfl,g1,g2,g3,g4⟩) ?_)
   . rintro y c H - hy ⟨m,o,i,j,p,t,rfl,u,v,l,J⟩
     dsimp only;refine wpS_bind (wel (qb8 l) (wpS_bind (wel (qb8 (show i < a.size by lia)) (wpS_bind (wlt W (m.1.trans X) (M _ l) (L _ (by lia)) ?_)))));cases hb:lt (att b j) (att a i) with
     | true =>
       refine wpS_bind (wel (qb8 l) ?_);have e2:=u.pb (by lia) l hb;by_cases K:j+1=b.size
       . rw[if_pos (by simpa using K)]
         exact wpS_pure ⟨m,.inl ⟨_,rfl,e2.done (.inl K)⟩⟩
       rw[if_neg (by simpa using K)];by_cases S:t+1 ≥ g
       . rw[if_pos S];exact wpS_pure ⟨m,.inr ⟨_,_,_,_,_,rfl,e2,v,by lia,by lia⟩⟩
       rw[if_neg S];exact wpS_pure ⟨m,_,_,_,_,_,rfl,e2,v,by lia,by lia⟩
     | false =>
       refine wpS_bind (wel (qb8 (show i < a.size by lia)) ?_);have e2:=u.pa (by lia) l hb;by_cases K:i+1+1=a.size
       . rw[if_pos (by simpa using K)]
         exact wpS_pure ⟨m,.inl ⟨_,rfl,e2.last K (F _ K)⟩⟩
       rw[if_neg (by simpa using K)];by_cases S:p+1 ≥ g
       . rw[if_pos S];exact wpS_pure ⟨m,.inr ⟨_,_,_,_,_,rfl,e2,by lia,l,by lia⟩⟩
       rw[if_neg S];exact wpS_pure ⟨m,_,_,_,_,_,rfl,e2,by lia,l,by lia⟩
   . rintro c H ⟨m,o,i,j,p,t,rfl,u,v,l,J⟩
     exact⟨m,.inr ⟨_,_,_,_,_,rfl,u,v,l,by lia⟩⟩
   rintro⟨c,c'⟩ H ⟨m,⟨r,rfl,e⟩ | ⟨o,i,j,p,t,e,u,v,l,J⟩⟩
   . exact wpS_pure ⟨m,r,rfl,e⟩
   cases e;refine wpS_bind (wpS_lift (wpAny_rule ⟨rfl,?_⟩));refine wpS_bind (wpS_mono (wpS_forRange (I:=λ y c f=>R st f/\∃ o i j g p t,c=(none,o,i,j,g,p,t)/\G (x+2) o i j)
     (Q:=λ c f=>R st f/\(D c.1∨∃ o i j g p t,c=(none,o,i,j,g,p,t)/\G (x+2) o i j)) ?_ ?_ ⟨m,_,_,_,_,_,_,rfl,u,v,l,J⟩) ?_)
   . rintro y c a2 - hy ⟨r3,o,i,j,g,p,t,rfl,u,v,l,J⟩
     dsimp only;refine wif (λ _=>?_) λ _=>?_
     all_goals
       refine wpS_bind (wsmg r3 λ a1 C=>?_);refine wpS_bind (wel (qb8 l) ?_);refine wpS_bind (wgs hO W (C.1.trans X) (M _ l) (by lia) L Y.drop (by lia) λ k q1 q2 q3=>?_);have ea:=u.ga (k:=k) l λ n h1 h2=>by simpa[B] using q2 n h1
       have zz:i+k < a.size->lt (att b j) (att a (i+k))=true:=λ h=>by simpa[B] using q3 k (zA3 _) (by lia)
       refine wif (λ c=>wif (λ d=>wpS_pure ⟨C,.inl ⟨_,rfl,ea.last (by simpa using d) (F _ (by simpa using d))⟩⟩) λ d=>wif (λ d'=>wpS_pure ⟨C,.inl ⟨_,rfl,ea.done (.inr (by simpa using d'))⟩⟩) λ d'=>?_) λ c=>?_
       all_goals first
         | (have z1:i+k+1 < a.size:=by (simp at d d';lia)
            have e:=ea;have z:=zz (by lia);have zb:x+2<=i+k+j:=by lia)
         | (obtain rfl:k=0:=by lia
            have e:=u;have z1:=v;have z:=zz (by lia);have zb:=J)
       all_goals
         refine wpS_bind (wel (qb8 l) (wif (λ d=>wpS_pure ⟨C,.inl ⟨_,rfl,(e.pb (by lia) l z).done (.inl (by simpa using d))⟩⟩) λ d=>?_));have e2:=e.pb (by lia) l z;have z2:j+1 < b.size:=by simp at d;lia
         refine wpS_bind (wel (qb8 (by lia)) (wpS_bind (wgs hO W (C.1.trans X) (L _ (by lia)) (by lia) M Z.drop (by lia) λ q p1 p2 p3=>?_)));have eb:=e2.gb (k:=q) (by lia) λ n h1 h2=>p2 n h1
         refine wif (λ c=>wif (λ d=>wpS_pure ⟨C,.inl ⟨_,rfl,eb.done (.inl (by simpa using d))⟩⟩) λ d2=>?_) λ c=>?_
         all_goals first
           | (have T:j+1+q < b.size:=by (simp at d2;lia)
              have e3:=eb;have z4:=p3 q (zA3 _) (by lia))
           | (obtain rfl:q=0:=by lia
              have e3:=e2;have T:=z2;have z4:=p3 0 (zA3 _) (by lia))
         all_goals
           refine wpS_bind (wel (qb8 (by lia)) (wif (λ d=>wpS_pure ⟨C,.inl ⟨_,rfl,(e3.pa (by lia) T z4).last (by simpa using d) (F _ (by simpa using d))⟩⟩) λ d=>?_));have z5:=e3.pa (by lia) T z4;exact wif (λ _=>wpS_pure ⟨C,.inr ⟨_,_,_,_,_,_,rfl,z5,by simp at d;lia,T,by lia⟩⟩) λ _=>wpS_pure ⟨C,_,_,_,_,_,_,rfl,z5,by simp at d;lia,T,by lia⟩
   . rintro c H ⟨m,o,i,j,g,p,t,rfl,u,v,l,J⟩
     exact⟨m,.inr ⟨_,_,_,_,_,_,rfl,u,v,l,J⟩⟩
   rintro⟨c,c'⟩ H ⟨m,⟨r,rfl,e⟩ | ⟨o,i,j,g,p,t,e,u,v,l,J⟩⟩
   . exact wpS_pure ⟨m,r,rfl,e⟩
   cases e;exact wpS_bind (wsmg m λ a1 C=>wpS_pure ⟨C,_,_,_,_,rfl,u,v,l,J⟩)
 . rintro c N ⟨V,o,i,j,g,rfl,g1,g2,g3,g4⟩
   lia
 rintro⟨c,c'⟩ N ⟨V,r,rfl,e⟩;exact wpS_pure (h r N V e)
end
section
variable{prog:Program}{w:World}{A:Around}{E:Value->Shared->Prop}{s:Shared}{kd:SortKind}{P:Keyed->Prop}{lt:Keyed->Keyed->Bool}{st:SortSt}
noncomputable def mhi:Array Keyed->Array Keyed->StateT SortSt Sem (Array Keyed):=sortPriv% PySem.Builtin.mergeHi
theorem qaS1(a b:Array Keyed):mhi a b=(do
 rule "list.sort.merge-hi"
 let tt:=a.size+b.size
 let dn (o:Array Keyed) (i j:Nat):=a.extract 0 i++b.extract 0 j++o.reverse
 let fb (o:Array Keyed) (i j:Nat):=b.extract 0 j++a.extract 0 i++o.reverse
 let mut i:=a.size - 1
 let mut j:=b.size
 let mut o:Array Keyed:=#[<- elem' a i]
 if i == 0 then return dn o i j
 if j == 1 then return fb o i j
 let mut g:=gallopOf (<- get)
 for _ in [0:tt] do
   let mut x:=0
   let mut y:=0
   for _ in [0:tt] do
     let some t <- lt' (<- elem' b (j - 1)) (<- elem' a (i - 1)) | return dn o i j
     if t then
       i:=i - 1;o:=o.push (<- elem' a i);x:=x+1;y:=0
       if i == 0 then return dn o i j
       if x ≥ g then break
     else
       j:=j - 1;o:=o.push (<- elem' b j);y:=y+1;x:=0
       if j == 1 then return fb o i j
       if y ≥ g then break
   rule "list.sort.gallop"
   g:=g+1
   for _ in [0:tt] do
     if g > 1 then g:=g - 1
     smg g
     let some q <- gal false (<- elem' b (j - 1)) a 0 i (i - 1) | return dn o i j
     let k:=i - q
     x:=k
     if k > 0 then
       o:=o++(a.extract q i).reverse;i:=q
       if i == 0 then return dn o i j
     j:=j - 1;o:=o.push (<- elem' b j)
     if j == 1 then return fb o i j
     let some q <- gal true (<- elem' a (i - 1)) b 0 j (j - 1) | return dn o i j
     let k:=j - q
     y:=k
     if k > 0 then
       o:=o++(b.extract q j).reverse;j:=q
       if j == 1 then return fb o i j
       if j == 0 then return dn o i j
     i:=i - 1;o:=o.push (<- elem' a i)
     if i == 0 then return dn o i j
     if x < 7&&y < 7 then break
   g:=g+1
   smg g
 unsupported "internal:list.sort.merge-bound"):=rfl
def Eq3(lt:Keyed->Keyed->Bool)(a b o:Array Keyed)(i j:Nat):Prop:=List.merge (a.toList.take i) (b.toList.take j) (lee lt)++o.toList.reverse=List.merge a.toList b.toList (lee lt)
variable{a b o:Array Keyed}{i j k:Nat}
theorem I8{a:Array Keyed}{k:Nat}(h:x∈a.toList.take k):∃ j,j < k/\j < a.size/\x=att a j:=by
 obtain⟨j,b,c,e⟩:=qw0 (i:=0) (k:=k) (by simpa using h);exact⟨j,b,by lia,by rw[e,zAh]⟩
theorem qab3{a:Array Keyed}{i:Nat}(h:q<=i):a.toList.take i=a.toList.take q++(a.extract q i).toList:=by
 rw[qc7]
 conv=>lhs;rw[show i=q+(i - q) by lia,List.take_add]
theorem ext1{a:Array Keyed}{i:Nat}(h:0 < i)(hi:i<=a.size):(a.extract (i - 1) i).toList=[att a (i - 1)]:=by
 rw[qc7,Dw (by lia),show i - (i - 1)=1 by lia];rfl
theorem Eq3.done(h:Eq3 lt a b o i j)(c:i=0∨j=0):(a.extract 0 i++b.extract 0 j++o.reverse).toList=List.merge a.toList b.toList (lee lt):=by
 rw[<- h,zB4,zB4,qc7,qc7,Array.toList_reverse];congr 1;rcases c with rfl | rfl
 . simp
 simp
theorem Eq3.first(h:Eq3 lt a b o i j)(c:j=1)(k:0 < b.size)(d:∀ n,n < a.size->lt (att b 0) (att a n)=true):(b.extract 0 j++a.extract 0 i++o.reverse).toList=List.merge a.toList b.toList (lee lt):=by
 rw[<- h,zB4,zB4,qc7,qc7,Array.toList_reverse];congr 1;subst c
 have:=mg_r (le:=lee lt) (B2:=[]) (B1:=b.toList.take 1) (X:=a.toList.take i) λ y e x f=>by
   obtain⟨n,_,g,rfl⟩:=I8 f;obtain⟨m,l,p,rfl⟩:=I8 e;obtain rfl:m=0:=by lia
   simp[d _ g]
 rw[zAg] at this;rw[this];simp
theorem Eq3.ga(h:Eq3 lt a b o i j)(f:Od lt)(c:Srt lt (att b) b.size)(g:q<=i)(s:0 < j)(k:j<=b.size)(l:∀ n,q<=n->n < i->n < a.size->lt (att b (j - 1)) (att a n)=true) :
   Eq3 lt a b (o++(a.extract q i).reverse) q j:=by
 unfold Eq3 at h ⊢;rw[<- h,qab3 g,Ix (le:=lee lt)]
 . simp
 intro x d y p;rw[qc7] at d;obtain⟨n,t,r,rfl⟩:=qw0 d;obtain⟨m,u,v,rfl⟩:=I8 p;have e:=l (q+n) (by lia) (by lia) r;show (!lt (att b m) (att a (q+n)))=false;cases e2:lt (att b m) (att a (q+n)) with
 | true=>rfl
 | false=>rw[f.tr _ _ _ e2 (c m (j - 1) (by lia) (by lia))] at e;cases e
theorem Eq3.gb(h:Eq3 lt a b o i j)(f:Od lt)(c:Srt lt (att a) a.size)(g:q<=j)(hi:0 < i)(k:i<=a.size)(l:∀ n,q<=n->n < j->n < b.size->lt (att b n) (att a (i - 1))=false) :
   Eq3 lt a b (o++(b.extract q j).reverse) i q:=by
 unfold Eq3 at h ⊢;rw[<- h,qab3 g,G9 (le:=lee lt)]
 . simp
 intro y d x p;rw[qc7] at d;obtain⟨n,s,r,rfl⟩:=qw0 d;obtain⟨m,t,u,rfl⟩:=I8 p;have e:=l (q+n) (by lia) (by lia) r;show (!lt (att b (q+n)) (att a m))=true;rw[f.tr _ _ _ (c m (i - 1) (by lia) (by lia)) e];rfl
theorem Eq3.pa(h:Eq3 lt a b o i j)(f:Od lt)(c:Srt lt (att b) b.size)(hi:0 < i)(d:i<=a.size)(g:0 < j)(e:j<=b.size)(k:lt (att b (j - 1)) (att a (i - 1))=true):Eq3 lt a b (o.push (att a (i - 1))) (i - 1) j:=by
 have:=h.ga f c (q:=i - 1) (by lia) g e λ n l m _=>by rw[show n=i - 1 by lia];exact k
 rwa[show o++(a.extract (i - 1) i).reverse=o.push (att a (i - 1)) from Array.toList_inj.mp (by rw[zB4,Array.toList_reverse,ext1 hi d,Array.toList_push];rfl)] at this
theorem Eq3.pb(h:Eq3 lt a b o i j)(f:Od lt)(c:Srt lt (att a) a.size)(hi:0 < i)(d:i<=a.size)(g:0 < j)(e:j<=b.size)(k:lt (att b (j - 1)) (att a (i - 1))=false):Eq3 lt a b (o.push (att b (j - 1))) i (j - 1):=by
 have:=h.gb f c (q:=j - 1) (by lia) hi d λ n l m _=>by rw[show n=j - 1 by lia];exact k
 rwa[show o++(b.extract (j - 1) j).reverse=o.push (att b (j - 1)) from Array.toList_inj.mp (by rw[zB4,Array.toList_reverse,ext1 g e,Array.toList_push];rfl)] at this
theorem wmhi{Q:Array Keyed->SortSt->Prop}(M:Od lt)(hC:Cm prog w A s kd P lt)(hk:kindOf st=kd)(T:∀ n,n < a.size->P (att a n))(U:∀ n,n < b.size->P (att b n))(N:Srt lt (att a) a.size)(H:Srt lt (att b) b.size)(a0:0 < a.size)(J:0 < b.size)(Z:∀ n,n < a.size->lt (att b 0) (att a n)=true)(hl:lt (att b (b.size - 1)) (att a (a.size - 1))=true)(h:∀ r f,R st f->r.toList=List.merge a.toList b.toList (lee lt)->Q r f):wpS (model prog w) A E s (mhi a b) Q st:=by
 rw[qaS1];refine wpS_bind (wpS_lift (wpAny_rule ⟨rfl,?_⟩));refine wpS_bind (wel (qb8 (by lia)) ?_);have e1:Eq3 lt a b #[att a (a.size - 1)] (a.size - 1) b.size :=
   Eq3.pa (o:=#[]) (i:=a.size) (j:=b.size) (by unfold Eq3;rw[show a.toList.take a.size=a.toList from zAs (zCb zB5),show b.toList.take b.size=b.toList from zAs (zCb zB5)];simp) M H a0 (zA3 _) J (zA3 _) hl
 refine wif (λ c=>wpS_pure (h _ st ⟨rfl,rfl,rfl,rfl⟩ (e1.done (.inl (by simpa using c))))) λ c1=>?_
 refine wif (λ c=>wpS_pure (h _ st ⟨rfl,rfl,rfl,rfl⟩ (e1.first (by simpa using c) J Z))) λ c2=>?_
 refine wpS_bind (wpS_get ?_)
 let D (c:Option (Array Keyed)):Prop:=∃ r,c=some r/\r.toList=List.merge a.toList b.toList (lee lt)
 let G (n:Nat) (o:Array Keyed) (i j:Nat):Prop:=Eq3 lt a b o i j/\0 < i/\i<=a.size/\1 < j/\j<=b.size/\n+i+j<=a.size+b.size
 simp at c1 c2;refine wpS_bind (wpS_mono (wpS_forRange (I:=λ x c f=>R st f/\∃ i j o g,c=(none,i,j,o,g)/\G (x+1) o i j)
   (Q:=λ c f=>R st f/\D c.1) ?_ ?_ ⟨⟨rfl,rfl,rfl,rfl⟩,_,_,_,_,rfl,e1,by lia,by lia,by lia,by lia,by lia⟩) ?_)
 . rintro x c V - hx ⟨r1,i,j,o,g,rfl,g1,g2,g3,g4,g5,g6⟩
   refine wpS_bind (wpS_mono (wpS_forRange (I:=λ y c f=>R st f/\∃ i j o v C,c=(none,i,j,o,v,C)/\G (x+1+y) o i j)
     (Q:=λ c f=>R st f/\(D c.1∨∃ i j o v C,c=(none,i,j,o,v,C)/\G (x+2) o i j)) ?_ ?_ ⟨r1,_,_,_,_,_,rfl,g1,g2,g3,g4,g5,by lia⟩) ?_)
   . rintro y c O - hy ⟨k,i,j,o,v,C,rfl,F,t,u,K,l,S⟩
     dsimp only;refine wpS_bind (wel (qb8 (by lia)) (wpS_bind (wel (qb8 (by lia)) (wpS_bind (wlt hC (k.1.trans hk) (U _ (by lia)) (T _ (by lia)) ?_)))));cases hb:lt (att b (j - 1)) (att a (i - 1)) with
     | true =>
       refine wpS_bind (wel (qb8 (by lia)) ?_);have e2:=F.pa M H t u (by lia) l hb;refine wif (λ c=>wpS_pure ⟨k,.inl ⟨_,rfl,e2.done (.inl (by simpa using c))⟩⟩) λ c=>?_
       simp at c;exact wif (λ _=>wpS_pure ⟨k,.inr ⟨_,_,_,_,_,rfl,e2,by lia,by lia,K,l,by lia⟩⟩) λ _=>wpS_pure ⟨k,_,_,_,_,_,rfl,e2,by lia,by lia,K,l,by lia⟩
     | false =>
       refine wpS_bind (wel (qb8 (by lia)) ?_);have e2:=F.pb M N t u (by lia) l hb;refine wif (λ c=>wpS_pure ⟨k,.inl ⟨_,rfl,e2.first (by simpa using c) J Z⟩⟩) λ c=>?_
       simp at c;exact wif (λ _=>wpS_pure ⟨k,.inr ⟨_,_,_,_,_,rfl,e2,t,u,by lia,by lia,by lia⟩⟩) λ _=>wpS_pure ⟨k,_,_,_,_,_,rfl,e2,t,u,by lia,by lia,by lia⟩
   . rintro c O ⟨k,i,j,o,v,C,rfl,F,t,u,K,l,S⟩
     exact⟨k,.inr ⟨_,_,_,_,_,rfl,F,t,u,K,l,by lia⟩⟩
   rintro⟨c,c'⟩ O ⟨k,⟨r,rfl,e⟩ | ⟨i,j,o,v,C,e,F,t,u,K,l,S⟩⟩
   . exact wpS_pure ⟨k,r,rfl,e⟩
   cases e;refine wpS_bind (wpS_lift (wpAny_rule ⟨rfl,?_⟩));refine wpS_bind (wpS_mono (wpS_forRange (I:=λ y c f=>R st f/\∃ i j o g v C,c=(none,i,j,o,g,v,C)/\G (x+2) o i j)
     (Q:=λ c f=>R st f/\(D c.1∨∃ i j o g v C,c=(none,i,j,o,g,v,C)/\G (x+2) o i j)) ?_ ?_ ⟨k,_,_,_,_,_,_,rfl,F,t,u,K,l,S⟩) ?_)
   . rintro y c a2 - hy ⟨r3,i,j,o,g,v,C,rfl,F,t,u,K,l,S⟩
     dsimp only;refine wif (λ _=>?_) λ _=>?_
     all_goals
       refine wpS_bind (wsmg r3 λ a1 L=>?_);refine wpS_bind (wel (qb8 (by lia)) ?_);refine wpS_bind (wgs M hC (L.1.trans hk) (U _ (by lia)) (by lia) T (λ n m X Y=>N _ _ (by lia) (by lia)) (by lia) λ q q1 q2 q3=>?_);have ea:=F.ga M H q1 (by lia) l λ n X Y _=>by simpa[B] using q3 n X Y
       have zz:0 < q->lt (att b (j - 1)) (att a (q - 1))=false:=λ h=>by simpa[B] using q2 (q - 1) (by lia)
       refine wif (λ c=>wif (λ d=>wpS_pure ⟨L,.inl ⟨_,rfl,ea.done (.inl (by simpa using d))⟩⟩) λ d'=>?_) λ c=>?_
       all_goals first
         | (have W:0 < q:=by (simp at d';lia)
            have e:=ea;have z2:q<=a.size:=by lia
            have z:=zz W;have zb:x+2+q+j<=a.size+b.size:=by lia)
         | (obtain rfl:q=i:=by lia
            have e:=F;have W:=t;have z2:=u;have z:=zz W;have zb:=S)
       all_goals
         have e2:=e.pb M N W z2 (by lia) l z;refine wpS_bind (wel (qb8 (by lia)) (wif (λ d=>wpS_pure ⟨L,.inl ⟨_,rfl,e2.first (by simpa using d) J Z⟩⟩) λ d=>?_));simp at d;refine wpS_bind (wel (qb8 (by lia)) (wpS_bind (wgs M hC (L.1.trans hk) (T _ (by lia)) (by lia) U (λ n m X Y=>H _ _ (by lia) (by lia)) (by lia) λ p p1 p2 p3=>?_)));have eb:=e2.gb M N p1 W z2 λ n X Y _=>by simpa[B] using p3 n X Y
         have yy:0 < p->lt (att b (p - 1)) (att a (_ - 1))=true:=λ h=>by simpa[B] using p2 (p - 1) (by lia)
         refine wif (λ c=>wif (λ d=>wpS_pure ⟨L,.inl ⟨_,rfl,eb.first (by simpa using d) J Z⟩⟩) λ d1=>wif (λ d=>wpS_pure ⟨L,.inl ⟨_,rfl,eb.done (.inr (by simpa using d))⟩⟩) λ d2=>?_) λ c=>?_
         all_goals first
           | (have y1:1 < p:=by (simp at d1 d2;lia)
              have e3:=eb;have y2:p<=b.size:=by lia
              have y4:=yy (by lia);have y5:x+2+_+p<=a.size+b.size:=zAr (Nat.add_le_add_left (by lia:p<=j) _) zb)
           | (obtain rfl:p=j - 1:=by lia
              have e3:=e2;have y1:1 < j - 1:=by lia
              have y2:j - 1<=b.size:=by lia
              have y4:=yy (by lia);have y5:x+2+_+(j - 1)<=a.size+b.size:=zAr (Nat.add_le_add_left (by lia:j - 1<=j) _) zb)
         all_goals
           have e4:=e3.pa M H W z2 (by lia) y2 y4;refine wpS_bind (wel (qb8 (by lia)) (wif (λ d=>wpS_pure ⟨L,.inl ⟨_,rfl,e4.done (.inl (by simpa using d))⟩⟩) λ d=>?_));simp at d;exact wif (λ _=>wpS_pure ⟨L,.inr ⟨_,_,_,_,_,_,rfl,e4,by lia,by lia,y1,y2,by lia⟩⟩) λ _=>wpS_pure ⟨L,_,_,_,_,_,_,rfl,e4,by lia,by lia,y1,y2,by lia⟩
   . rintro c O ⟨k,i,j,o,g,v,C,rfl,F,t,u,K,l,S⟩
     exact⟨k,.inr ⟨_,_,_,_,_,_,rfl,F,t,u,K,l,S⟩⟩
   rintro⟨c,c'⟩ O ⟨k,⟨r,rfl,e⟩ | ⟨i,j,o,g,v,C,e,F,t,u,K,l,S⟩⟩
   . exact wpS_pure ⟨k,r,rfl,e⟩
   cases e;exact wpS_bind (wsmg k λ a1 L=>wpS_pure ⟨L,_,_,_,_,rfl,F,t,u,K,l,by lia⟩)
 . rintro c V ⟨r1,i,j,o,g,rfl,g1,g2,g3,g4,g5,g6⟩
   lia
 rintro⟨c,c'⟩ V ⟨r1,r,rfl,e⟩;exact wpS_pure (h r V r1 e)
end
theorem qn0{ys:Array Keyed}{i j:Nat}(h:xs[i]? = ys[j]?):att xs i=att ys j:=by
 have e:∀(a:Array Keyed) k,att a k=(a[k]?).getD (Value.none,Value.none):=λ a k=>by simp[att,Array.getD_eq_getD_getElem?]
 rw[e,e,h]
theorem qaj9{src d:Nat}(a:src < xs.size)(b:d<=src)(k:Nat) :
   att (bubble xs src d) k=if k=src - d then att xs src else if src - d < k/\k<=src then att xs (k - 1) else att xs k:=by
 have e:=getElem?_bubble a d b k;split at e
 . rw[if_pos (by assumption)];exact qn0 e
 rw[if_neg (by assumption)];split at e
 . rw[if_pos (by assumption)];exact qn0 e
 rw[if_neg (by assumption)];exact qn0 e
theorem qaj8{i j:Nat}(a:j<=xs.size)(k:Nat) :
   att (mirror xs i j ((j - i) / 2)) k=if i<=k/\k < j then att xs (i+j - 1 - k) else att xs k:=by
 have e:=getElem?_mirror_all (i:=i) a k;split at e
 . rw[if_pos (by assumption)];exact qn0 e
 rw[if_neg (by assumption)];exact qn0 e
theorem qav0{a:Array Keyed}{i:Nat}(h:i < a.size):att a i∈a.toList:=by simp[att,Array.getD,h]
theorem Srt.more{lt:Keyed->Keyed->Bool}{x:Nat}(h:Srt lt f x)(d:Od lt)(e:0 < x->lt (f x) (f (x - 1))=false):Srt lt f (x+1):=λ i j a b=>by
 by_cases c:j < x
 . exact h i j a c
 obtain rfl:j=x:=by lia
 by_cases q:i=j
 . rw[q];exact d.ir _
 exact d.tr _ _ _ (h i (j - 1) (by lia) (by lia)) (e (by lia))
structure Bt(a0:Array Keyed)(lo:Nat)(st st':SortSt):Prop where
 kd:kindOf st'=kindOf st
 fl:failedOf st'=failedOf st
 pd:pendingOf st'=pendingOf st
 pm:(arrOf st').Perm a0
 pr:∀ i,i < lo->att (arrOf st') i=att (arrOf st) i
section
variable{prog:Program}{w:World}{A:Around}{E:Value->Shared->Prop}{s:Shared}{kd:SortKind}{lt:Keyed->Keyed->Bool}{st st1:SortSt}{a0:Array Keyed}{lo:Nat}
theorem Bt.sz(h:Bt a0 lo st st1):(arrOf st1).size=a0.size:=h.pm.size_eq
theorem Bt.mem(h:Bt a0 lo st st1){i:Nat}(hi:i < a0.size):att (arrOf st1) i∈a0.toList:=(zBl.mp h.pm).mem_iff.mp (qav0 (by rw[h.sz];exact hi))
theorem Bt.set(h:Bt a0 lo st st1)(b:xs.Perm (arrOf st1))(c:∀ i,i < lo->att xs i=att (arrOf st1) i):Bt a0 lo st (setArr st1 xs) :=
 ⟨h.kd,h.fl,h.pd,b.trans h.pm,λ i a=>(c i a).trans (h.pr i a)⟩
abbrev Cn(prog:Program)(w:World)(A:Around)(s:Shared)(kd:SortKind)(a0:Array Keyed)(lt:Keyed->Keyed->Bool):Prop:=Cm prog w A s kd (λ x=>x∈a0.toList) lt
theorem wat{i j:Nat}{Q:Option Bool->SortSt->Prop}(b:Cn prog w A s kd a0 lt)(c:kindOf st=kd)(h:Bt a0 lo st st1)(hi:i < a0.size)(a:j < a0.size)(d:Q (some (lt (att (arrOf st1) i) (att (arrOf st1) j))) st1):wpS (model prog w) A E s (ltAt' i j) Q st1:=by
 rw[ltAt'_eq];refine wpS_bind (wpS_get ?_);exact wpS_bind (wel (qb8 (by rw[h.sz];exact hi)) (wpS_bind (wel (qb8 (by rw[h.sz];exact a)) (wlt b (h.kd.trans c) (h.mem hi) (h.mem a) d))))
theorem wmv{p:Nat}(h:Q () (setArr st1 (bubble (arrOf st1) p (p - q)))):wpS (model prog w) A E s (moveDown' p q) Q st1:=by
 rw[moveDown'_eq];exact wpS_modify h
theorem wbin{t:Nat}{Q:Bool->SortSt->Prop}(u:Od lt)(C:Cn prog w A s kd a0 lt)(D:kindOf st=kd)(R:lo+n<=a0.size)(F:t<=n)(h1:1<=t)(G:Bt a0 lo st st1)(H:Srt lt (λ i=>att (arrOf st1) (lo+i)) t)(h:∀ e,Bt a0 lo st e->Srt lt (λ i=>att (arrOf e) (lo+i)) n->Q true e):wpS (model prog w) A E s (binarySort' lo n t) Q st1:=by
 rw[binarySort'_eq];refine wpS_bind (wpS_mono (wpS_forRange (I:=λ k c e=>c=(none,())/\Bt a0 lo st e/\Srt lt (λ i=>att (arrOf e) (lo+i)) (min k n))
   (Q:=λ c e=>c=(none,())/\Bt a0 lo st e/\Srt lt (λ i=>att (arrOf e) (lo+i)) n) ?_ ?_ ⟨rfl,G,λ i j a b=>H i j a (by lia)⟩) ?_)
 . rintro k c f J K ⟨rfl,o,g⟩
   rw[show min k n=k by lia] at g;refine wpS_bind (wpS_mono (wpS_forRange (I:=λ x c e=>e=f/\∃ l r,c=(none,l,r)/\l<=r/\r<=k/\r - l<=k - x /\
       (∀ i,i < l->lt (att (arrOf f) (lo+k)) (att (arrOf f) (lo+i))=false)/\(∀ i,r<=i->i < k->lt (att (arrOf f) (lo+i)) (att (arrOf f) (lo+k))=false))
     (Q:=λ c e=>e=f/\∃ l,c=(none,l,l)/\l<=k /\
       (∀ i,i < l->lt (att (arrOf f) (lo+k)) (att (arrOf f) (lo+i))=false)/\(∀ i,l<=i->i < k->lt (att (arrOf f) (lo+i)) (att (arrOf f) (lo+k))=false)) ?_ ?_ ⟨rfl,0,k,rfl,by lia,by lia,by lia,λ i L=>by lia,λ i h1 y=>by lia⟩) ?_)
   . rintro x c m - S ⟨rfl,l,r,rfl,M,v,N,p,q⟩
     dsimp only;refine wif (λ d=>?_) λ d=>?_
     . obtain rfl:l=r:=by lia
       exact wpS_pure ⟨rfl,l,rfl,v,p,q⟩
     refine wpS_bind (wat C D o (by lia) (by lia) ?_);cases B:lt (att (arrOf m) (lo+k)) (att (arrOf m) (lo+(l+r) / 2)) with
     | true=>exact wpS_pure ⟨rfl,l,_,rfl,by lia,by lia,by lia,p,λ i h1 y=>u.tr _ _ _ (u.as _ _ B) (g _ _ h1 y)⟩
     | false=>exact wpS_pure ⟨rfl,_,r,rfl,by lia,by lia,by lia,λ i h1=>u.tr _ _ _ (g i _ (by lia) (by lia)) B,q⟩
   . rintro c m ⟨rfl,l,r,rfl,M,v,N,p,q⟩
     obtain rfl:l=r:=by lia
     exact⟨rfl,l,rfl,v,p,q⟩
   rintro c m ⟨rfl,l,rfl,v,p,q⟩;dsimp only;have z:lo+k < (arrOf m).size:=by rw[o.sz];lia
   refine wpS_bind (wmv (wpS_pure ⟨rfl,o.set (bubble_perm _ _ _) λ i L=>?_,?_⟩))
   . rw[qaj9 z (by lia),if_neg (by lia),if_neg (by lia)]
   rw[show min (k+1) n=k+1 by lia];intro i j O T;show lt (att (bubble _ _ _) _) (att (bubble _ _ _) _)=false;rw[qaj9 z (by lia),qaj9 z (by lia)]
   repeat' split
   all_goals first
     | (exfalso;lia)
     | exact u.ir _
     | exact p _ (by lia)
     | (rw[show lo+j - 1=lo+(j - 1) by lia];exact q _ (by lia) (by lia))
     | (rw[show lo+j - 1=lo+(j - 1) by lia];exact g _ _ (by lia) (by lia))
     | (rw[show lo+j - 1=lo+(j - 1) by lia,show lo+i - 1=lo+(i - 1) by lia];exact g _ _ (by lia) (by lia))
     | exact g _ _ (by lia) (by lia)
 . rintro c f ⟨P,o,g⟩
   rw[show min (max (max t 1) n) n=n by lia] at g;exact⟨P,o,g⟩
 rintro c f ⟨rfl,o,g⟩;exact wpS_pure (h f o g)
def Ds(lt:Keyed->Keyed->Bool)(a0:Array Keyed):Prop:=a0.toList.Pairwise λ x y=>lt x y=true∨lt y x=true
theorem Ds.at(h:Ds lt a0)(b:Bt a0 lo st st1){i j:Nat}(c:i≠j)(hi:i < a0.size)(n:j < a0.size)(e:lt (att (arrOf st1) i) (att (arrOf st1) j)=false):lt (att (arrOf st1) j) (att (arrOf st1) i)=true:=by
 have d:(arrOf st1).toList.Pairwise λ x y=>lt x y=true∨lt y x=true:=((zBl.mp b.pm).pairwise_iff λ h=>h.symm).mpr h
 rw[List.pairwise_iff_getElem] at d;have g:∀ k,k < a0.size->∃ a,(arrOf st1).toList[k]'a=att (arrOf st1) k:=λ k a=>⟨by rw[zB5,b.sz];exact a,by simp[att,Array.getD,show k < (arrOf st1).size by rw[b.sz];exact a]⟩
 obtain⟨f,l⟩:=g i hi;obtain⟨m,e2⟩:=g j n;rcases Nat.lt_or_gt_of_ne c with q | q
 . have:=d i j f m q
   rw[l,e2,e] at this;simpa using this
 have:=d j i m f q
 rw[l,e2,e] at this;simpa using this
theorem wcnt{m:Nat}{Q:Option Nat->SortSt->Prop}(u:Od lt)(D:Cn prog w A s kd a0 lt)(L:Ds lt a0)(F:kindOf st=kd)(S:lo+m<=a0.size)(h1:1<=m)(r:Bt a0 lo st st1)(h:∀ n f,Bt a0 lo st f->1<=n->n<=m->Srt lt (λ i=>att (arrOf f) (lo+i)) n->Q (some n) f):wpS (model prog w) A E s (countRun' lo m) Q st1:=by
 rw[countRun'_eq];refine wpS_bind (wpS_mono (wpS_forRange (I:=λ x c f=>f=st1/\c=(none,x)/\Srt lt (λ i=>att (arrOf st1) (lo+i)) x)
   (Q:=λ c f=>f=st1/\∃ n,c=(none,n)/\1<=n/\n<=m/\Srt lt (λ i=>att (arrOf st1) (lo+i)) n/\(n=m∨lt (att (arrOf st1) (lo+n)) (att (arrOf st1) (lo+n - 1))=true)) ?_ ?_ ⟨rfl,rfl,λ i j a b=>by rw[show i=j by lia];exact u.ir _⟩) ?_)
 . rintro x c l o M ⟨rfl,rfl,t⟩
   refine wpS_bind (wat D F r (by lia) (by lia) ?_);cases v:lt (att (arrOf l) (lo+x)) (att (arrOf l) (lo+x - 1)) with
   | true=>exact wpS_pure ⟨rfl,x,rfl,o,by lia,t,.inr v⟩
   | false=>exact wpS_pure ⟨rfl,rfl,t.more u λ _=>by rw[<- Nat.add_sub_assoc o];exact v⟩
 . rintro c l ⟨rfl,rfl,t⟩
   rw[show max 1 m=m by lia] at t ⊢;exact⟨rfl,m,rfl,h1,zA3 _,t,.inl rfl⟩
 rintro c l ⟨rfl,n,rfl,J,K,t,d⟩;dsimp only;refine wif (λ _=>wpS_pure (h n l r J K t)) λ c=>?_
 have d:=d.resolve_left (by simpa using c);refine wif (λ O=>wpS_bind (wat D F r (by lia) (by lia) ?_)) λ O=>?_
 . have e:lt (att (arrOf l) lo) (att (arrOf l) (lo+n - 1))=true:=L.at r (by lia) (by lia) (by lia) (by rw[Nat.add_sub_assoc J];exact t 0 (n - 1) (by lia) (by lia))
   rw[e];exact wpS_pure (h n l r J K t)
 obtain rfl:n=1:=by lia
 simp at c;refine wpS_bind (wpS_lift (wpAny_rule ⟨rfl,?_⟩));have N:Od λ x y=>lt y x:=⟨λ x y q=>u.as _ _ q,λ x y z p q=>u.tr _ _ _ q p⟩
 refine wpS_bind (wpS_mono (wpS_forRange (I:=λ x c f=>f=l/\c=(none,x,0)/\Srt (λ x y=>lt y x) (λ i=>att (arrOf l) (lo+i)) x)
   (Q:=λ c f=>f=l/\∃ n,c=(none,n,0)/\2<=n/\n<=m/\Srt (λ x y=>lt y x) (λ i=>att (arrOf l) (lo+i)) n) ?_ ?_ ⟨rfl,rfl,?_⟩) ?_)
 . rintro x c g o M ⟨rfl,rfl,B⟩
   dsimp only;refine wpS_bind (wat D F r (by lia) (by lia) ?_);dsimp only;cases v:lt (att (arrOf g) (lo+x)) (att (arrOf g) (lo+x - 1)) with
   | true=>exact wif (λ _=>wif (λ c=>absurd c (zBx 0)) λ _=>wpS_pure ⟨rfl,rfl,B.more N λ _=>by rw[<- Nat.add_sub_assoc (by lia)];exact u.as _ _ v⟩) λ c=>absurd rfl c
   | false =>
     refine wpS_bind (wat D F r (by lia) (by lia) ?_);rw[L.at r (by lia) (by lia) (by lia) v];exact wpS_pure ⟨rfl,x,rfl,o,by lia,B⟩
 . rintro c g ⟨rfl,rfl,B⟩
   rw[show max (1+1) m=m by lia] at B ⊢;exact⟨rfl,m,rfl,by lia,zA3 _,B⟩
 . refine Srt.more (λ i j a b=>?_) N λ _=>u.as _ _ d
   obtain rfl:i=j:=by lia
   exact u.ir _
 rintro c g ⟨rfl,n,rfl,J,K,B⟩;refine wif (λ c=>absurd c (zBx 0)) λ _=>?_
 dsimp only;have z:lo+n<=(arrOf g).size:=by rw[r.sz];lia
 have G:=r.set (mirror_perm (arrOf g) lo (lo+n) ((lo+n - lo) / 2)) λ i T=>by rw[qaj8 z,if_neg (by lia)]
 refine wpS_bind (wpS_reverse ?_);refine wpS_bind (wpS_mono (wpS_forRange (I:=λ x c f=>f=setArr g (mirror (arrOf g) lo (lo+n) ((lo+n - lo) / 2))/\c=(none,x)/\Srt lt (λ i=>att (arrOf f) (lo+i)) x)
   (Q:=λ c f=>f=setArr g (mirror (arrOf g) lo (lo+n) ((lo+n - lo) / 2))/\∃ k,c=(none,k)/\1<=k/\k<=m/\Srt lt (λ i=>att (arrOf f) (lo+i)) k) ?_ ?_ ⟨rfl,rfl,λ i j a b=>?_⟩) ?_)
 . rintro x c H o M ⟨rfl,rfl,C⟩
   refine wpS_bind (wat D F G (by lia) (by lia) ?_);cases v:lt (att (arrOf (setArr g (mirror (arrOf g) lo (lo+n) ((lo+n - lo) / 2)))) (lo+x)) (att (arrOf (setArr g (mirror (arrOf g) lo (lo+n) ((lo+n - lo) / 2)))) (lo+x - 1)) with
   | true=>exact wpS_pure ⟨rfl,x,rfl,by lia,by lia,C⟩
   | false=>exact wpS_pure ⟨rfl,rfl,C.more u λ _=>by rw[<- Nat.add_sub_assoc (by lia)];exact v⟩
 . rintro c H ⟨rfl,rfl,C⟩
   rw[show max n m=m by lia] at C ⊢;exact⟨rfl,m,rfl,by lia,zA3 _,C⟩
 . show lt (att (mirror _ _ _ _) _) (att (mirror _ _ _ _) _)=false
   rw[qaj8 z,qaj8 z,if_pos (by lia),if_pos (by lia)]
   have:=B (n - 1 - j) (n - 1 - i) (by lia) (by lia)
   rw[show lo+(lo+n) - 1 - (lo+j)=lo+(n - 1 - j) by lia,show lo+(lo+n) - 1 - (lo+i)=lo+(n - 1 - i) by lia];exact this
 rintro c H ⟨rfl,k,rfl,P,R,C⟩;exact wpS_pure (h k _ G P R C)
end
theorem qaS2(i:Nat):mergeAt' i=(do
 let s <- get
 let (some (p,n,pw),some (q,m,_)):=((pendingOf s)[i]?,(pendingOf s)[i+1]?) | unsupported "internal:list.sort.pending"
 set (setPending s (((pendingOf s).setIfInBounds i (p,n+m,pw)).eraseIdxIfInBounds (i+1)))
 let some k <- gal false (<- elem' (arrOf s) q) (arrOf s) p n 0 | return false
 let (p,n):=(p+k,n - k)
 if n == 0 then return true
 let some m <- gal true (<- elem' (arrOf s) (p+n - 1)) (arrOf s) q m (m - 1) | return false
 if m == 0 then return true
 let x:=(arrOf s).extract p q
 let y:=(arrOf s).extract q (q+m)
 let r <- if n<=m then mlo x y else mhi x y
 modify λ s=>setArr s (r.toList.zipIdx.foldl (λ a (z,j)=>a.setIfInBounds (p+j) z) (arrOf s))
 return (failedOf (<- get)).isNone):=rfl
theorem wr{p:Nat}:∀(L:List Keyed)(n:Nat)(a:Array Keyed),p+n+L.length<=a.size ->
   ((L.zipIdx n).foldl (λ(a:Array Keyed)(z:Keyed×Nat)=>a.setIfInBounds (p+z.2) z.1) a).toList=a.toList.take (p+n)++L++a.toList.drop (p+n+L.length)
 | [],n,a,_=>by simp
 | x::L,n,a,h=>by
   rw[zAp] at h;rw[List.zipIdx_cons,List.foldl_cons,wr L (n+1) _ (by rw[Array.size_setIfInBounds];lia),Array.toList_setIfInBounds,<- Nat.add_assoc,zAp,
     List.drop_set_of_lt (by lia),List.take_set,List.take_add_one,show a.toList[p+n]?.toList=[att a (p+n)] from ?_,List.set_append_right _ _ (by simp;lia),show p+n+1+L.length=p+n+(L.length+1) by lia]
   . simp[show min (p+n) a.size=p+n by lia]
   rw[Array.getElem?_toList,qb8 (by lia)];rfl
theorem qav1{a:Array Keyed}{i j:Nat}(h:i+n < j)(b:j<=a.size):att (a.extract i j) n=att a (i+n) :=
 qn0 (by rw[Array.getElem?_extract];rw[if_pos (by lia)])
section
variable{prog:Program}{w:World}{A:Around}{E:Value->Shared->Prop}{s:Shared}{kd:SortKind}{lt:Keyed->Keyed->Bool}{st:SortSt}{a0:Array Keyed}
theorem wset{a:SortSt}{Q:PUnit->SortSt->Prop}(h:Q ⟨⟩ a):wpS (model prog w) A E s (set a:StateT SortSt Sem PUnit) Q st:=by
 unfold wpS;rw[StateT.run_set];exact wpAny_pure ⟨rfl,h⟩
theorem wmat{Q:Bool->SortSt->Prop}{m F pv:Nat}(G:Od lt)(I:Cn prog w A s kd a0 lt)(J:kindOf st=kd)(K:failedOf st=none)(Y:pendingOf st = #[(0,n,F),(n,m,pv)])(H:(arrOf st).Perm a0)(Z:0 < n)(hm:0 < m)(hz:n+m=a0.size)(h1:Srt lt (att (arrOf st)) n)(h2:Srt lt (λ i=>att (arrOf st) (n+i)) m)(h:∀ u,failedOf u=none->pendingOf u = #[(0,n+m,F)]->(arrOf u).toList=List.merge ((arrOf st).toList.take n) ((arrOf st).toList.drop n) (lee lt)->Q true u):wpS (model prog w) A E s (mergeAt' 0) Q st:=by
 have a1:(arrOf st).size=n+m:=H.size_eq.trans hz.symm;have D:∀ i,i < (arrOf st).size->att (arrOf st) i∈a0.toList:=λ i C=>(zBl.mp H).mem_iff.mp (qav0 C)
 rw[qaS2];refine wpS_bind (wpS_get ?_);rw[Y];have ep:(#[(0,n,F),(n,m,pv)].setIfInBounds 0 (0,n+m,F)).eraseIdxIfInBounds (0+1) = #[(0,n+m,F)]:=by simp[Array.eraseIdxIfInBounds]
 refine wpS_bind (wset ?_);rw[ep];refine wpS_bind (wel (qb8 (by lia)) (wpS_bind (wgs G I J (D _ (by lia)) (by lia) D (λ i j a b=>by dsimp only;rw[zAh,zAh];exact h1 i j a b) Z λ k S T N=>?_)));simp only[zAh] at T N ⊢;have sD:(arrOf st).toList.drop n=att (arrOf st) n::(arrOf st).toList.drop (n+1):=Dw (by lia);have O:List.merge ((arrOf st).toList.take n) ((arrOf st).toList.drop n) (lee lt)=(arrOf st).toList.take k++List.merge (((arrOf st).toList.drop k).take (n - k)) ((arrOf st).toList.drop n) (lee lt):=by
   rw[<- List.drop_take,<- show ((arrOf st).toList.take n).take k=(arrOf st).toList.take k by rw[List.take_take,Nat.min_eq_left S]]
   conv=>lhs;rw[<- zBf k ((arrOf st).toList.take n)]
   rw[sD,Iy (le:=lee lt)];intro x L;rw[List.take_take,Nat.min_eq_left S] at L;obtain⟨i,U,i2,rfl⟩:=I8 L;exact T i U
 refine wif (λ c=>wpS_pure (h _ K rfl ?_)) λ c=>?_
 . obtain rfl:k=n:=by simp at c;lia
   rw[O,Nat.sub_self,List.take_zero,List.nil_merge,zBf]
 have c:k < n:=by simp at c;lia
 rw[show k+(n - k) - 1=n - 1 by lia];refine wpS_bind (wel (qb8 (by lia)) (wpS_bind (wgs G I J (D _ (by lia)) (by lia) D h2 (by lia) λ v v1 v2 v3=>?_)));have V:List.merge (((arrOf st).toList.drop k).take (n - k)) ((arrOf st).toList.drop n) (lee lt)=List.merge (((arrOf st).toList.drop k).take (n - k)) (((arrOf st).toList.drop n).take v) (lee lt)++(arrOf st).toList.drop (n+v):=by
   conv=>lhs;rw[<- zBf v ((arrOf st).toList.drop n)]
   rw[List.drop_drop,G9 (le:=lee lt)];intro y W x L;obtain⟨i,U,i2,rfl⟩:=qw0 L;rw[<- zAs (l:=(arrOf st).toList.drop (n+v)) (zA3 _)] at W;obtain⟨j,_,j2,rfl⟩:=qw0 W;have e1:=h1 (k+i) (n - 1) (by lia) (by lia);have e2:lt (att (arrOf st) (n+(v+j))) (att (arrOf st) (n - 1))=false:=v3 (v+j) (by lia) (by lia);rw[<- Nat.add_assoc] at e2;show (!lt _ _)=true;rw[G.tr _ _ _ e1 e2];rfl
 dsimp only;refine wif (λ c=>wpS_pure (h _ K rfl ?_)) λ d=>?_
 . obtain rfl:v=0:=by simpa using c
   rw[O,V,List.take_zero,List.merge_right,Nat.add_zero,<- zAm,<- List.take_add,show k+(n - k)=n by lia,zBf]
 have d:0 < v:=by simp at d;lia
 have P:((arrOf st).extract k n).size=n - k:=by rw[Array.size_extract];lia
 have X:((arrOf st).extract n (n+v)).size=v:=by rw[Array.size_extract];lia
 have g:∀ i,i < n - k->att ((arrOf st).extract k n) i=att (arrOf st) (k+i):=λ i C=>qav1 (by lia) (by lia)
 have o:∀ i,i < v->att ((arrOf st).extract n (n+v)) i=att (arrOf st) (n+i):=λ i C=>qav1 (by lia) (by lia)
 have post:∀(r:Array Keyed)(f:SortSt),R (setPending st #[(0,n+m,F)]) f ->
     r.toList=List.merge ((arrOf st).extract k n).toList ((arrOf st).extract n (n+v)).toList (lee lt)->wpS (model prog w) A E s (do
       modify λ s=>setArr s (List.foldl (λ(a:Array Keyed)(x:Keyed×Nat)=>match x with | (z,j)=>a.setIfInBounds (k+j) z) (arrOf s) r.toList.zipIdx)
       let t <- get
       pure (failedOf t).isNone) Q f:=by
   intro r f M e;have len:r.toList.length=n - k+v:=by rw[e,List.length_merge,zB5,zB5,P,X]
   refine wpS_bind (wpS_modify (wpS_bind (wpS_get ?_)));show wpS _ _ _ _ (pure (failedOf f).isNone) Q _;rw[M.2.2.2];show wpS _ _ _ _ (pure (failedOf st).isNone) Q _;rw[K];refine wpS_pure (h _ (M.2.2.2.trans K) M.2.2.1 ?_);show (List.foldl _ (arrOf f) _).toList=_;rw[show arrOf f=arrOf st from M.2.1];have q:=wr (p:=k) r.toList 0 (arrOf st) (by lia);rw[Nat.add_zero,len,show k+(n - k+v)=n+v by lia,e,qc7,qc7,show n+v - n=v by lia,zAm,<- V,<- O] at q;rw[e,qc7,qc7,show n+v - n=v by lia];exact q
 refine wif (λ _=>wpS_bind (wmlo G I J (λ i C=>?_) (λ i C=>?_) (λ i j a b=>?_) (λ i j a b=>?_) (by lia) (by lia) ?_ (λ i C=>?_) post)) λ _=>wpS_bind (wmhi G I J (λ i C=>?_) (λ i C=>?_) (λ i j a b=>?_) (λ i j a b=>?_) (by lia) (by lia) (λ i C=>?_) ?_ post)
 . rw[g i (by lia)];exact D _ (by lia)
 . rw[o i (by lia)];exact D _ (by lia)
 . rw[g i (by lia),g j (by lia)];exact h1 _ _ (by lia) (by lia)
 . rw[o i (by lia),o j (by lia)];exact h2 _ _ (by lia) (by lia)
 . rw[g 0 (by lia),o 0 (by lia)];simpa[B] using N k (zA3 _) c
 . rw[P,g _ (by lia),o i (by lia),show k+(n - k - 1)=n - 1 by lia];exact v2 i (by lia)
 . rw[g i (by lia)];exact D _ (by lia)
 . rw[o i (by lia)];exact D _ (by lia)
 . rw[g i (by lia),g j (by lia)];exact h1 _ _ (by lia) (by lia)
 . rw[o i (by lia),o j (by lia)];exact h2 _ _ (by lia) (by lia)
 . rw[g i (by lia),o 0 (by lia)];simpa[B] using N (k+i) (by lia) (by lia)
 rw[P,X,g _ (by lia),o _ (by lia),show k+(n - k - 1)=n - 1 by lia];exact v2 _ (by lia)
end
section
variable{prog:Program}{w:World}{A:Around}{E:Value->Shared->Prop}{s:Shared}{kd:SortKind}{lt:Keyed->Keyed->Bool}{st:SortSt}{a0:Array Keyed}
theorem qaw2{i:Nat}(a:Srt lt (λ j=>att xs (i+j)) n)(f:i+n<=xs.size):((xs.toList.drop i).take n).Pairwise λ x y=>lee lt x y=true:=by
 rw[List.pairwise_iff_getElem];intro p q b c d;rw[zBp,List.length_drop,zB5] at b c;have e:∀ p (h:p < ((xs.toList.drop i).take n).length),((xs.toList.drop i).take n)[p]=att xs (i+p):=λ p h=>by
   rw[List.getElem_take,List.getElem_drop];rw[zBp,List.length_drop,zB5] at h;simp[att,Array.getD,show i+p < xs.size by lia]
 rw[e,e];show (!lt _ _)=true;rw[a p q (by lia) (by lia)];rfl
def Gs(lt:Keyed->Keyed->Bool)(a0:Array Keyed)(st:SortSt):Prop:=(arrOf st).toList.Perm a0.toList/\(arrOf st).toList.Pairwise (λ x y=>lee lt x y=true)/\failedOf st=none
structure One(lt:Keyed->Keyed->Bool)(kd:SortKind)(a0:Array Keyed)(n:Nat)(st:SortSt):Prop where
 pm:(arrOf st).Perm a0
 k:kindOf st=kd
 f:failedOf st=none
 p:pendingOf st = #[(0,n,0)]
 s:Srt lt (att (arrOf st)) n
structure Two(lt:Keyed->Keyed->Bool)(kd:SortKind)(a0:Array Keyed)(n m pw:Nat)(st:SortSt):Prop where
 pm:(arrOf st).Perm a0
 k:kindOf st=kd
 f:failedOf st=none
 p:pendingOf st = #[(0,n,pw),(n,m,0)]
 s:Srt lt (att (arrOf st)) n
 t:Srt lt (λ i=>att (arrOf st) (n+i)) m
theorem One.fin(h:One lt kd a0 n st)(c:n=a0.size):Gs lt a0 st:=by
 refine⟨zBl.mp h.pm,?_,h.f⟩
 have:=qaw2 (i:=0) (n:=n) (xs:=arrOf st) (λ i j a b=>by dsimp only;rw[zAh,zAh];exact h.s i j a b) (by rw[h.pm.size_eq];lia)
 rwa[List.drop_zero,zAs (by rw[zB5,h.pm.size_eq];lia)] at this
theorem wrun(D:Od lt)(J:Cn prog w A s kd a0 lt)(S:Ds lt a0)(N:kindOf st=kd)(Y:failedOf st=none)(O:pendingOf st = #[])(K:(arrOf st).Perm a0)(F:a0.size=64)(h:∀ l,Gs lt a0 l->Q () l):wpS (model prog w) A E s sortRuns' Q st:=by
 rw[sortRuns'_eq];refine wpS_bind (wpS_get ?_);dsimp only;simp only[K.size_eq,F];have Z:minRun' 64 64 0=32:=rfl;rw[Z];refine wpS_bind (wpS_mono (wpS_forRange
   (I:=λ x c l=>(x=0/\c=(none,0)/\l=st)∨(x=1/\∃ n,c=(none,n)/\32<=n/\n<=64/\One lt kd a0 n l)∨(2<=x/\c=(none,64)/\∃ n m B,n+m=64/\0 < n/\0 < m/\Two lt kd a0 n m B l))
   (Q:=λ c l=>c=(none,64)/\(One lt kd a0 64 l∨∃ n m B,n+m=64/\0 < n/\0 < m/\Two lt kd a0 n m B l)) ?_ ?_ (.inl ⟨rfl,rfl,rfl⟩)) ?_)
 . rintro x c u - hx (⟨rfl,rfl,rfl⟩ | ⟨rfl,n,rfl,H,n2,o⟩ | ⟨x2,rfl,n,m,B,e,H,P,o⟩)
   . dsimp only
     refine wif (λ c=>absurd c (by lia)) λ _=>?_
     have R:Bt a0 0 u u:=⟨rfl,rfl,rfl,K,λ _ _=>rfl⟩
     refine wpS_bind (wcnt D J S N (by lia) (by lia) R λ n r C H n2 L=>?_);have fin:∀ k g,Bt a0 0 u g->32<=k->k<=64->Srt lt (λ i=>att (arrOf g) (0+i)) k->One lt kd a0 k (setPending g ((pendingOf g).push (0,k,0))):=λ k g v _ _ G =>
       ⟨v.pm,v.kd.trans N,v.fl.trans Y,by show (pendingOf g).push _=_;rw[v.pd,O];rfl,λ i j a b=>by have:=G i j a b;dsimp only at this;rwa[zAh,zAh] at this⟩
     refine wif (λ c=>?_) λ c=>?_
     . refine wpS_bind (wpS_lift (wpAny_rule ⟨rfl,?_⟩))
       refine wpS_bind (wbin D J N (by lia) (by lia) H C L λ g v G=>?_);refine wif (λ c=>by cases c) λ _=>?_
       refine wpS_bind (wpS_get ?_);rw[show (pendingOf g).back? = none by rw[v.pd,O];rfl];exact wpS_bind (wpS_modify (wpS_pure (.inr (.inl ⟨rfl,_,rfl,by lia,by lia,fin _ g v (by lia) (by lia) G⟩))))
     refine wpS_bind (wpS_get ?_);rw[show (pendingOf r).back? = none by rw[C.pd,O];rfl];exact wpS_bind (wpS_modify (wpS_pure (.inr (.inl ⟨rfl,_,rfl,by lia,by lia,by rw[zAh];exact fin _ r C (by lia) (by lia) L⟩))))
   . dsimp only
     refine wif (λ c=>?_) λ c=>?_
     . obtain rfl:n=64:=by lia
       exact wpS_pure ⟨rfl,.inl o⟩
     have R:Bt a0 n u u:=⟨rfl,rfl,rfl,o.pm,λ _ _=>rfl⟩
     refine wpS_bind (wcnt D J S o.k (by lia) (by lia) R λ k r C k1 k2 L=>?_);have T:∀ q g,Bt a0 n u g->q=64 - n->Srt lt (λ i=>att (arrOf g) (n+i)) q->∀ B,Two lt kd a0 n q B (setPending (setPending g ((pendingOf g).modify ((pendingOf g).size - 1) λ x=>(x.fst,x.2.fst,B))) (((pendingOf g).modify ((pendingOf g).size - 1) λ x=>(x.fst,x.2.fst,B)).push (n,q,0))):=λ q g v hq G B =>
       ⟨v.pm,v.kd.trans o.k,v.fl.trans o.f,by show ((pendingOf g).modify _ _).push _=_;rw[v.pd,o.p];rfl,λ i j a b=>by show lt (att (arrOf g) j) (att (arrOf g) i)=false;rw[v.pr i (by lia),v.pr j b];exact o.s i j a b,G⟩
     have M:∀ g,Bt a0 n u g->(pendingOf g).back? = some (0,n,0)/\¬ (pendingOf g).size > 1:=λ g v=>by rw[v.pd,o.p];exact⟨rfl,zBx 1⟩
     refine wif (λ d=>?_) λ d=>?_
     . refine wpS_bind (wpS_lift (wpAny_rule ⟨rfl,?_⟩))
       refine wpS_bind (wbin D J o.k (by lia) (by lia) k1 C L λ g v G=>?_);refine wif (λ c=>by cases c) λ _=>?_
       refine wpS_bind (wpS_get ?_);rw[(M g v).1];refine wpS_bind (wpS_mono (wpS_forRange (I:=λ x c l=>l=g/\c=(none,())) (Q:=λ c l=>l=g/\c=(none,())) ?_ (λ _ _ h=>h) ⟨rfl,rfl⟩) ?_)
       . rintro x c y - - ⟨rfl,rfl⟩
         refine wpS_bind (wpS_get ?_);rw[if_neg (M y v).2];exact wpS_pure ⟨rfl,rfl⟩
       rintro c y ⟨rfl,rfl⟩;exact wpS_bind (wpS_modify (wpS_bind (wpS_modify (wpS_pure (.inr (.inr ⟨zA3 2,by rw[show n+min (64 - n) 32=64 by lia],n,_,_,by lia,by lia,by lia,T _ y v (by lia) G _⟩))))))
     refine wpS_bind (wpS_get ?_);rw[(M r C).1];refine wpS_bind (wpS_mono (wpS_forRange (I:=λ x c l=>l=r/\c=(none,())) (Q:=λ c l=>l=r/\c=(none,())) ?_ (λ _ _ h=>h) ⟨rfl,rfl⟩) ?_)
     . rintro x c y - - ⟨rfl,rfl⟩
       refine wpS_bind (wpS_get ?_);rw[if_neg (M y C).2];exact wpS_pure ⟨rfl,rfl⟩
     rintro c y ⟨rfl,rfl⟩;exact wpS_bind (wpS_modify (wpS_bind (wpS_modify (wpS_pure (.inr (.inr ⟨zA3 2,by rw[show n+k=64 by lia],n,_,_,by lia,by lia,by lia,T _ y C (by lia) L _⟩))))))
   dsimp only;exact wif (λ _=>wpS_pure ⟨rfl,.inr ⟨n,m,B,e,H,P,o⟩⟩) λ c=>absurd (zA3 _) c
 . rintro c u (⟨U,_⟩ | ⟨U,_⟩ | ⟨x2,rfl,o⟩)
   . lia
   . lia
   exact⟨rfl,.inr o⟩
 rintro c u ⟨rfl,o⟩;dsimp only;refine wpS_bind (wpS_mono (wpS_forRange (I:=λ x c l=>c=(none,())/\(x=0/\l=u∨Gs lt a0 l/\(pendingOf l).size<=1)) (Q:=λ c l=>c=(none,())/\Gs lt a0 l) ?_ ?_ ⟨rfl,.inl ⟨rfl,rfl⟩⟩) ?_)
 . rintro x c r - - ⟨rfl,⟨rfl,rfl⟩ | ⟨f,z⟩⟩
   . refine wpS_bind (wpS_get ?_)
     rcases o with o | ⟨n,m,B,e,H,P,o⟩
     . rw[if_pos (by rw[o.p];exact zA3 1)]
       exact wpS_pure ⟨rfl,o.fin F.symm⟩
     rw[o.p];refine wif (λ c=>absurd c (by simp)) λ _=>?_
     refine wpS_bind (wmat D J o.k o.f o.p o.pm H P (by lia) o.s o.t λ g f3 p3 V=>?_);refine wpS_pure ⟨rfl,.inr ⟨⟨?_,?_,f3⟩,by rw[p3];exact zA3 1⟩⟩
     . rw[V]
       have q:=List.merge_perm_append (le:=lee lt) (xs:=(arrOf r).toList.take n) (ys:=(arrOf r).toList.drop n);rw[zBf] at q;exact q.trans (zBl.mp o.pm)
     rw[V];have sz:(arrOf r).size=64:=o.pm.size_eq.trans F;refine List.pairwise_merge (λ a b c W X=>?_) (λ a b=>?_) _ _ ?_ ?_
     . simp only[Bool.not_eq_true',lee] at W X ⊢
       exact D.tr _ _ _ W X
     . cases q:lt b a with
       | false=>simp[lee,q]
       | true=>simp[lee,q,D.as _ _ q]
     . have:=qaw2 (i:=0) (n:=n) (xs:=arrOf r) (λ i j a b=>by dsimp only;rw[zAh,zAh];exact o.s i j a b) (by lia)
       rwa[List.drop_zero] at this
     have:=qaw2 o.t (by lia)
     rwa[zAs (by rw[List.length_drop,zB5];lia)] at this
   refine wpS_bind (wpS_get ?_);rw[if_pos z];exact wpS_pure ⟨rfl,f⟩
 . rintro c r ⟨rfl,⟨U,_⟩ | ⟨f,z⟩⟩
   . lia
   exact⟨rfl,f⟩
 rintro c r ⟨rfl,f⟩;exact wpS_pure (h r f)
end
noncomputable def plt(p q:Int×Int):Bool:=decide (p.1 < q.1∨p.1=q.1/\p.2 < q.2)
def TP(h:Heap)(v:Value)(p:Int×Int):Prop:=∃ b t u o n,v=.ref b/\h.get? b=some o/\o.cls=.type "tuple" /\ o.data=.seq #[.int p.1 t,.int p.2 u] n
section
variable{prog:Program}{w:World}{A:Around}{E:Value->Shared->Prop}{s:Shared}{kd:SortKind}{lt:Keyed->Keyed->Bool}{st:SortSt}{a0:Array Keyed}
theorem wrunS(B:Od lt)(C:Cn prog w A s kd a0 lt)(F:Ds lt a0)(t:kindOf st=kd)(G:failedOf st=none)(u:pendingOf st = #[])(r:(arrOf st).Perm a0)(h2:2<=a0.size)(v:a0.size < 64)(h:∀ d,Gs lt a0 d->Q () d):wpS (model prog w) A E s sortRuns' Q st:=by
 rw[sortRuns'_eq];refine wpS_bind (wpS_get ?_);obtain⟨f,H⟩:∃ f,a0.size=f+1:=⟨a0.size - 1,by lia⟩
 have J:minRun' a0.size a0.size 0=a0.size:=by
   conv=>lhs;rw[show minRun' a0.size=minRun' (f+1) by rw[H]]
   rw[minRun'_succ,if_pos v];rfl
 dsimp only;simp only[r.size_eq,J];refine wpS_bind (wpS_mono (wpS_forRange
   (I:=λ x c d=>(x=0/\c=(none,0)/\d=st)∨(1<=x/\c=(none,a0.size)/\One lt kd a0 a0.size d))
   (Q:=λ c d=>c=(none,a0.size)/\One lt kd a0 a0.size d) ?_ ?_ (.inl ⟨rfl,rfl,rfl⟩)) ?_)
 . rintro x c l - N (⟨rfl,rfl,rfl⟩ | ⟨K,rfl,o⟩)
   . dsimp only
     refine wif (λ c=>absurd c (by lia)) λ _=>?_
     have L:Bt a0 0 l l:=⟨rfl,rfl,rfl,r,λ _ _=>rfl⟩
     refine wpS_bind (wcnt B C F t (by lia) (by lia) L λ n m y M O D=>?_);have fin:∀ k g,k=a0.size->Bt a0 0 l g->Srt lt (λ i=>att (arrOf g) (0+i)) k->One lt kd a0 a0.size (setPending g ((pendingOf g).push (0,k,0))):=λ k g e q z =>
       ⟨q.pm,q.kd.trans t,q.fl.trans G,by show (pendingOf g).push _=_;rw[q.pd,u,e];rfl,λ i j a b=>by have:=z i j a (by lia);dsimp only at this;rwa[zAh,zAh] at this⟩
     refine wif (λ c=>?_) λ c=>?_
     . refine wpS_bind (wpS_lift (wpAny_rule ⟨rfl,?_⟩))
       refine wpS_bind (wbin B C t (by lia) (by lia) M y D λ g q z=>?_);refine wif (λ c=>by cases c) λ _=>?_
       refine wpS_bind (wpS_get ?_);rw[show (pendingOf g).back? = none by rw[q.pd,u];rfl];exact wpS_bind (wpS_modify (wpS_pure (.inr ⟨by lia,by rw[show 0+min (a0.size - 0) a0.size=a0.size by lia],fin _ g (by lia) q z⟩)))
     refine wpS_bind (wpS_get ?_);rw[show (pendingOf m).back? = none by rw[y.pd,u];rfl];exact wpS_bind (wpS_modify (wpS_pure (.inr ⟨by lia,by rw[show 0+n=a0.size by lia],fin _ m (by lia) y D⟩)))
   dsimp only;exact wif (λ _=>wpS_pure ⟨rfl,o⟩) λ c=>absurd (zA3 _) c
 . rintro c l (⟨P,_⟩ | ⟨K,rfl,o⟩)
   . lia
   exact⟨rfl,o⟩
 rintro c l ⟨rfl,o⟩;dsimp only;refine wpS_bind (wpS_mono (wpS_forRange (I:=λ x c d=>c=(none,())/\d=l) (Q:=λ c d=>c=(none,())/\d=l) ?_ (λ _ _ h=>h) ⟨rfl,rfl⟩) ?_)
 . rintro x c m - - ⟨rfl,rfl⟩
   refine wpS_bind (wpS_get ?_);rw[if_pos (by rw[o.p];exact zA3 1)];exact wpS_pure ⟨rfl,rfl⟩
 rintro c m ⟨rfl,rfl⟩;exact wpS_pure (h m (o.fin rfl))
theorem cmpP{x y:Value}{p q:Int×Int}{Q:Bool->Shared->Prop}(f:TP s.heap x p)(g:TP s.heap y q)(h:Q (plt p q) s):wpAny (model prog w) A (keyLt' (tuples' true) x y) Q E s:=by
 obtain⟨b,t,u,o,n,rfl,i,_,j⟩:=f;obtain⟨c,m,v,B,C,rfl,k,_,l⟩:=g;have z:∀ r:Bool,r=plt p q->Q r s:=λ r e=>e ▸ h
 refine W.kat_lt i j k l (W.kat_cons (wpAny_eqBool_int (W.kat_go (λ a=>W.kat_yes (W.kat_cons (wpAny_eqBool_int (W.kat_go (λ d=>W.kat_yes (W.kat_nil (z _ ?_))) λ d=>W.kat_no (W.kat_one _ _ (lt_int (z _ ?_))))))) λ a=>W.kat_no (oneLt_int (z _ ?_)))))
 . simp at a d;simp[plt,a,d]
 . simp at a d;simp[plt,a]
 simp at a;simp[plt,a]
theorem TP.keep{h h':Heap}{v:Value}{p:Int×Int}(t:TP h v p)(k:∀ b o,h.get? b=some o->o.cls=.type "tuple" -> h'.get? b=some o):TP h' v p:=by
 obtain⟨b,t,u,o,n,rfl,c,a,d⟩:=t;exact⟨b,t,u,o,n,rfl,k _ _ c a,a,d⟩
end
def kl(kf:Value->Int×Int)(x y:Keyed):Bool:=plt (kf x.1) (kf y.1)
theorem kl_od(kf:Value->Int×Int):Od (kl kf) :=
 ⟨λ x y h=>by simp[kl,plt] at h ⊢;lia,λ x y z a b=>by simp[kl,plt] at a b ⊢;lia⟩
section
variable{prog:Program}{w:World}{A:Around}{E:Value->Shared->Prop}{s:Shared}
theorem kl_ds(c:(vs.map kf).Nodup):Ds (kl kf) (pairsOf vs):=by
 unfold Ds;rw[pairsOf_toList,show vs.zip vs=vs.map λ v=>(v,v) by induction vs with | nil=>rfl | cons v vs d=>simp at c;rw[List.zip_cons_cons,d c.2];rfl,zBs];unfold List.Nodup at c;rw[zBs] at c;refine c.imp λ{a b} h=>?_
 have e:¬ ((kf a).1=(kf b).1/\(kf a).2=(kf b).2):=λ q=>h (Prod.ext q.1 q.2)
 simp only[kl,plt,zBb];lia
theorem qal9{a:Addr}{P:PySem.Fin->Shared->Prop}{kd:SortKind}(g:s.heap.get? a=some (seqObj "list" vs.toArray n))(C:vs.length<=64)(k:(vs.map kf).Nodup)(D:∀ h',(∀ b o,s.heap.get? b=some o->o.cls=.type "tuple" -> h'.get? b=some o)->2<=vs.length ->
     (∀(Q':SortKind->Shared->Prop),Q' kd { s with heap:=h' }->wpAny (model prog w) A (keyKind' vs.toArray) Q' E { s with heap:=h' })/\Cm prog w A { s with heap:=h' } kd (λ x=>x.1∈vs) (kl kf))(h:∀ out:List Value,out.Perm vs->(out.map kf).Pairwise (λ p q=>plt q p=false)->P (.done (.ret .none)) { s with heap:=sortedHeap s.heap a vs out.toArray }) :
   wpAny (model prog w) A (Builtin.«list.sort» ⟨[.ref a],[]⟩) P E s:=by
 have F:vs.toArray.size=vs.length:=zA5;have S:a < s.heap.objs.size:=zA9 g;obtain⟨l,m⟩:∃ e,(s.heap.update a (Obj.mapSeq λ _=>#[])).get? a=some (seqObj "list" #[] e):=⟨_,get?_update_seq g λ _=>#[]⟩
 have r:(((s.heap.update a (Obj.mapSeq λ _=>#[])).push (seqObj "tuple" vs.toArray 0)).push (seqObj "list" #[] 0)).get? a=some (seqObj "list" #[] l):=zA4 _ (zA4 _ m);have G:∀ b o,s.heap.get? b=some o->o.cls=.type "tuple" -> (((s.heap.update a (Obj.mapSeq λ _=>#[])).push (seqObj "tuple" vs.toArray 0)).push (seqObj "list" #[] 0)).get? b=some o:=λ b o q H=>by
   have I:b≠a:=λ z=>by rw[z,g] at q;cases q;simp at H
   exact zA4 _ (zA4 _ (by rw[Heap.get?_update_ne _ _ _ _ I];exact q))
 rw[list_sort_plain];refine wpAny_bind (listItems_at g rfl (wpAny_bind (listUpdate_at g rfl (wpAny_bind (seqEpoch_at m rfl (wpAny_bind (wpAny_newTuple (wpAny_bind (wpAny_newList (wpAny_holding ?_) (zBh _))) (by show vs.length<=_;rw[sizeLine_eq];lia))))) (by rw[F,sizeLine_eq];lia) (zBh _))));show wpAny (model prog w) A _ P E { s with heap:=((s.heap.update a (Obj.mapSeq λ _=>#[])).push (seqObj "tuple" vs.toArray 0)).push (seqObj "list" #[] 0) };have last:∀ d:SortSt,(arrOf d).toList.Perm (pairsOf vs).toList->(arrOf d).toList.Pairwise (λ x y=>lee (kl kf) x y=true)->failedOf d=none ->
     P (.done (.ret .none)) { s with heap:=sortedHeap s.heap a vs ((arrOf d).map (·.2)) }/\((arrOf d).map (·.2)).size<=sizeLine+1:=λ d i J _=>by
   rw[pairsOf_toList] at i;have u:∀ p∈(arrOf d).toList,p.1=p.2:=λ p K=>(mem_zip_self (i.mem_iff.mp K)).1
   have e2:((arrOf d).map (·.2))=((arrOf d).toList.map (·.2)).toArray:=Array.toList_inj.mp (by rw[Array.toList_map]);have pv:((arrOf d).toList.map (·.2)).Perm vs:=by
     have:=i.map Prod.snd
     rwa[List.map_snd_zip (zA3 _)] at this
   rw[e2];refine⟨h _ pv ?_,by rw[zA5,pv.length_eq,sizeLine_eq];lia⟩;rw[zBr,zBs];refine(List.Pairwise.and_mem.mp J).imp λ{x y} ⟨L,M,q⟩=>?_
   show plt (kf y.2) (kf x.2)=false;rw[<- u x L,<- u y M];simpa[lee,kl] using q
 have tail:∀ d:SortSt,Gs (kl kf) (pairsOf vs) d->wpAny (model prog w) A (do
     let t:=(<- seqEpoch a) != l
     Builtin.List.listUpdate (.ref a) λ _=>(arrOf d).map (·.2)
     if let some e:=failedOf d then rule "list.sort.comparison-raised";throw e
     if t then rule "list.sort.modified";raiseError "ValueError" "list modified during sort"
     ret .none) P E { s with heap:=((s.heap.update a (Obj.mapSeq λ _=>#[])).push (seqObj "tuple" vs.toArray 0)).push (seqObj "list" #[] 0) }:=λ d f=>by
   have z:=last d f.1 f.2.1 f.2.2;refine wpAny_bind (seqEpoch_at r rfl (wpAny_bind (listUpdate_at r rfl ?_ (zBh _) z.2)));rw[f.2.2];simp only[bne_self_eq_false,Bool.false_eq_true,if_false];exact wpAny_pure z.1
 by_cases c:vs.toArray.size < 2
 . rw[if_pos c,if_pos c]
   refine wpAny_bind (wpAny_pure ?_);dsimp only;rw[StateT.run_pure];refine wpAny_bind (wpAny_pure (tail (SortSt.mk' general' (vs.toArray.zip vs.toArray) #[] 7 none) ⟨List.Perm.refl _,?_,rfl⟩));show (pairsOf vs).toList.Pairwise _;rw[pairsOf_toList]
   match vs,c with
   | [],_=>exact .nil
   | [v],_=>simp
   | _::_::_,c=>simp at c;lia
 rw[if_neg c,if_neg c];obtain⟨N,O⟩:=D _ G (by lia);refine wpAny_bind (N _ ?_);have B:Cn prog w A { s with heap:=((s.heap.update a (Obj.mapSeq λ _=>#[])).push (seqObj "tuple" vs.toArray 0)).push (seqObj "list" #[] 0) } kd (pairsOf vs) (kl kf):=λ x y Q R=>O x y (mem_zip_self (pairsOf_toList vs ▸ Q)).2 (mem_zip_self (pairsOf_toList vs ▸ R)).2
 have j:wpS (model prog w) A E { s with heap:=((s.heap.update a (Obj.mapSeq λ _=>#[])).push (seqObj "tuple" vs.toArray 0)).push (seqObj "list" #[] 0) } sortRuns' (λ _ d=>Gs (kl kf) (pairsOf vs) d) (SortSt.mk' kd (vs.toArray.zip vs.toArray) #[] 7 none):=by
   rcases Nat.lt_or_ge vs.length 64 with q | q
   . exact wrunS (kl_od kf) B (kl_ds k) rfl rfl rfl (Array.Perm.refl _) (by rw[pairsOf_size];lia) (by rw[pairsOf_size];exact q) λ _ f=>f
   exact wrun (kl_od kf) B (kl_ds k) rfl rfl rfl (Array.Perm.refl _) (by rw[pairsOf_size];lia) λ _ f=>f
 refine wpAny_bind (wpAny_mono j ?_ λ _ _ e=>e);rintro⟨⟨⟩,d⟩ T ⟨rfl,f⟩;exact tail d f
theorem sorted6{l:Addr}{Q:Value->Shared->Prop}{kd:SortKind}(f:s.heap.IsList l vs.toArray)(a:vs.length<=64)(g:(vs.map kf).Nodup)(i:∀(A:Around)(E:Value->Shared->Prop) h',(∀ b o,s.heap.get? b=some o->o.cls=.type "tuple" -> h'.get? b=some o)->2<=vs.length ->
     (∀(Q':SortKind->Shared->Prop),Q' kd { s with heap:=h' }->wpAny (model prog w) A (keyKind' vs.toArray) Q' E { s with heap:=h' })/\Cm prog w A { s with heap:=h' } kd (λ x=>x.1∈vs) (kl kf))(h:∀ out:List Value,out.Perm vs->(out.map kf).Pairwise (λ p q=>plt q p=false)->Q (.ref (s.heap.objs.size+1)) { s with heap:=sortedAll s.heap vs out.toArray }) :
   wpAny (model prog w) A (call (.builtin "sorted") [.ref l]) Q E s:=by
 refine Calls.call_function_entry kind_sorted plain_sorted entry_sorted (args_sorted1 _) ?_;unfold Builtin.«sorted»;refine wpAny_bind (m:=checkCount "sorted" 1 1 _) (wpAny_pure (wpAny_bind (collect_list f (wpAny_bind (wpAny_newList ?_ (by rw[sizeLine_eq];lia))) (by rw[sizeLine_eq];lia))));have d:((s.heap.push (seqObj "list" #[] 0)).update s.heap.objs.size (Obj.mapSeq (·++vs.toArray))).objs.size=s.heap.objs.size+1:=by rw[Heap.size_update,size_push']
 have e:(((s.heap.push (seqObj "list" #[] 0)).update s.heap.objs.size (Obj.mapSeq (·++vs.toArray))).push (seqObj "list" vs.toArray 0)).get? (s.heap.objs.size+1)=some (seqObj "list" vs.toArray 0):=by
   rw[<- d];exact zAx _ rfl
 have j:∀ b o,s.heap.get? b=some o->(((s.heap.push (seqObj "list" #[] 0)).update s.heap.objs.size (Obj.mapSeq (·++vs.toArray))).push (seqObj "list" vs.toArray 0)).get? b=some o:=λ b o q =>
   zA4 _ (by rw[Heap.get?_update_ne _ _ _ _ (zAq (zA9 q))];exact zA4 _ q)
 show wpAny _ _ _ _ _ { s with heap:=((s.heap.push (seqObj "list" #[] 0)).update s.heap.objs.size (Obj.mapSeq (·++vs.toArray))).push (seqObj "list" vs.toArray 0) };rw[d];refine wpAny_bind (wpAny_holding (wpAny_call_entry slot_list_sort ⟨_,e,rfl⟩ entry_list_sort (qal9 e a g (λ h' k c=>i _ _ h' (λ b o q n=>k b o (j _ _ q) n) c) λ out r t=>⟨_,rfl,?_⟩) (args_list_sort _)));exact wpAny_pure ⟨_,rfl,h out r t⟩
end
end S6
namespace LV
open PySem L2 PyProof.Rows
variable{ps:List (Int×Int)}
abbrev B8(ps:List (Int×Int)):List (Int×Int):=ps.mergeSort λ p q=>!S6.plt q p
def PrA(H:Hp)(v:V)(p:Int×Int):Prop:=∃ b,v=.ref b/\H b=some (.tup [.int p.1,.int p.2])
noncomputable def kfh(h:Heap):Value->Int×Int
 | .ref b=>match h.get? b with
   | some o=>match o.data with
     | .seq xs _=>(numOf (xs.getD 0 .none),numOf (xs.getD 1 .none))
     | _=>(0,0)
   | none=>(0,0)
 | _=>(0,0)
theorem qaS6{h:Heap}{v:Value}{p:Int×Int}(t:S6.TP h v p):kfh h v=p:=by
 obtain⟨b,t,u,o,n,rfl,a,d,c⟩:=t;simp only[kfh,a,c];rfl
noncomputable def vOf:Value->V
 | .ref b=>.ref b
 | _=>.non
section
variable{X:Cx}{De:List (Addr×Obj)}{σ:List (Option V)}{H:Hp}{s:Shared}
theorem qaG8(I:Inv X De σ H s){vs:List V}{its:List Value}(r:Vals vs its)(t:Paired (PrA H) vs ps) :
   its.map (kfh s.heap)=ps/\∀ u∈its,S6.TP s.heap u (kfh s.heap u)/\∃ b,u=.ref b/\H b=some (.tup [.int (kfh s.heap u).1,.int (kfh s.heap u).2]):=by
 induction t generalizing its with
 | nil=>cases r;exact⟨rfl,nofun⟩
 | @cons v p vs ps h t f =>
   cases r with
   | @cons _ u _ its ru rt =>
     obtain⟨b,rfl,c⟩:=h;cases ru;obtain⟨w,q,⟨o,g,i,n,j⟩,_⟩:=I.tuple (.inl (.inl c));have d:S6.TP s.heap (.ref b) p:=by
       obtain⟨x,y,rfl,⟨t1,rfl⟩,t2,rfl⟩:=Vals.two q;exact⟨b,t1,t2,o,n,rfl,g,i,j⟩
     have e:=qaS6 d;obtain⟨k,l⟩:=f rt;refine⟨by rw[zB0,e,k],λ u a=>?_⟩;rcases zAo.mp a with rfl | a
     . rw[e];exact⟨d,b,rfl,c⟩
     exact l u a
theorem qas4{h:Heap}:∀{out:List Value},(∀ u∈out,∃ b,u=.ref b/\H b=some (.tup [.int (kfh h u).1,.int (kfh h u).2]))->Vals (out.map vOf) out/\Paired (PrA H) (out.map vOf) (out.map (kfh h))
 | [],_=>⟨.nil,.nil⟩
 | u::out,k=>by
   obtain⟨b,rfl,c⟩:=k u zAb;have a:=qas4 (out:=out) λ v d=>k v (zA6 _ d)
   exact⟨.cons rfl a.1,.cons ⟨b,rfl,c⟩ a.2⟩
theorem qS6{h:Heap}{kf:Value->Int×Int}:∀{its:List Value},(∀ u∈its,S6.TP h u (kf u))->∃ fs,PySem.W.KatTups h its fs/\fs.length=its.length/\∀ f∈fs,∃ i t,f=Value.int i t
 | [],_=>⟨[],trivial,rfl,nofun⟩
 | u::its,k=>by
   obtain⟨fs,f1,f2,f3⟩:=qS6 (its:=its) λ v c=>k v (zA6 _ c)
   obtain⟨b,t,w,o,n,rfl,d,e,g⟩:=k u zAb;refine⟨Value.int _ t::fs,PySem.W.KatTups.cons d e g rfl f1,by rw[zAp,f2];rfl,λ f a=>?_⟩;rcases zAo.mp a with rfl | a
   . exact⟨_,_,rfl⟩
   exact f3 f a
theorem qac3(ps:List (Int×Int)):(B8 ps).Pairwise λ p q=>S6.plt q p=false:=by
 refine(List.pairwise_mergeSort (λ a b c d e=>?_) (λ a b=>?_) ps).imp λ{a b} h=>by simpa using h
 . simp[S6.plt] at d e ⊢;lia
 simp[S6.plt];lia
theorem qaw5{c:List (Int×Int)}(d:c.Perm ps)(e:c.Pairwise λ p q=>S6.plt q p=false):c=B8 ps:=by
 refine List.Perm.eq_of_pairwise (le:=λ p q=>S6.plt q p=false) (λ a b _ _ f g=>?_) e (qac3 ps) (d.trans (List.mergeSort_perm _ _).symm);simp[S6.plt] at f g;exact Prod.ext (by lia) (by lia)
def qaF1(K:PySem.W.Frag):List V->Hp->VK->Prop:=λ xs H Q=>∃ a vs ps,xs=[.ref a]/\SqL K H a vs/\Paired (PrA H) vs ps/\ps.Nodup/\ps.length<=64/\∀ l b,H l=none->Paired (PrA H) b (B8 ps)->Q (.ref l) (upd H l (.lst b))
theorem qaj2:CallR X (.builtin "sorted") (qaF1 X.K):=by
 intro De s σ H V Y Q I r h;obtain⟨a,Z,B,rfl,C,t,D,hl,q⟩:=h;obtain⟨u,rfl,F⟩:=Bm r;cases F;obtain⟨f,G,J,hz⟩:=I.list C;obtain⟨j,g⟩:=qaG8 I G t;have L:f.length<=64:=by have:=congrArg List.length j;rw[zA7] at this;lia
 refine S6.sorted6 (kf:=kfh s.heap) (kd:=tuples' true) J.isList L (by rw[j];exact D) (λ A E h' k c=>⟨λ Q' l=>?_,λ x y M N E Q l=>?_⟩) λ d m O=>?_
 . obtain⟨fs,f1,f2,f3⟩:=qS6 λ u n=>(g u n).1.keep k
   refine PySem.W.kat_kind (T:=.type "int") f1 (by lia) (λ v P=>?_) rfl l;obtain⟨i,t,rfl⟩:=f3 v P;exact PySem.W.Looks.of_pure rfl
 . exact S6.cmpP ((g _ M).1.keep k) ((g _ N).1.keep k) l
 obtain⟨R,p⟩:=qas4 (H:=H) (h:=s.heap) (out:=d) λ u n=>(g u (m.mem_iff.mp n)).2
 obtain⟨e,S⟩:=sortedAll_at s.heap f d.toArray;have U:d.map (kfh s.heap)=B8 B:=qaw5 (j ▸ m.map _) O;rw[U] at p;refine⟨.ref _,_,I.laid (t':=s.toks) (λ b o z=>sortedAll_old z) (Nat.le_succ _) (show ObjOk X.prog X.w _ _ _ (.lst (d.map vOf)) from⟨?_,d,e,R,S⟩),rfl,q _ _ (I.hok.fresh (Nat.le_succ _)) p⟩;rw[zA7,m.length_eq,sizeLine_eq];lia
noncomputable def Hl:D->Option (Int×Int)
 | .tup [.int a,.int b]=>some (a,b)
 | _=>none
noncomputable def prD2(p:Int×Int):D:=.tup [.int p.1,.int p.2]
def qau1(x:D):Option D:=match x with
 | .lst _ ys=>(ys.mapM Hl).bind λ ps=>gd (ps.Nodup/\ps.length<=64) (.lst false ((B8 ps).map prD2))
 | _=>none
theorem qad7:∀{ys:List D}{ps:List (Int×Int)},ys.mapM Hl=some ps->ys=ps.map prD2
 | [],ps,h=>by cases h;rfl
 | y::ys,ps,h=>by
   rw[List.mapM_cons] at h;obtain⟨p,a,h⟩:=zA1.mp h;obtain⟨c,b,h⟩:=zA1.mp h;cases h;rw[zB0,qad7 b];congr 1;unfold Hl at a;split at a
   . cases a;rfl
   cases a
theorem qaG9{F:Addr->Prop}{H:Hp}:∀{ps:List (Int×Int)}{vs:List V}{A:List Addr},Reps F H vs (ps.map prD2) A->Paired (PrA H) vs ps
 | [],_,_,r=>by cases r;exact .nil
 | p::ps,_,_,r=>by
   cases r with
   | cons h t =>
     cases h with
     | tup e r =>
       refine .cons ⟨_,rfl,?_⟩ (qaG9 t);cases r with
       | cons a t1 =>
         cases a;cases t1 with
         | cons b t2=>cases b;cases t2;exact e
theorem qax4{F:Addr->Prop}{H:Hp}{a:List V}(t:Paired (PrA H) a ps):Reps F H a (ps.map prD2) []:=by
 induction t with
 | nil=>exact .nil
 | cons h t c =>
   obtain⟨b,rfl,d⟩:=h;exact .cons (A:=[]) (B:=[]) (.tup d (.cons (A:=[]) (B:=[]) (.int _) (.cons (A:=[]) (B:=[]) (.int _) .nil))) c
theorem qaC5{K:PySem.W.Frag}:CS1 true (qaF1 K) qau1:=by
 intro F H v x B d Q r h q;cases x with
 | lst z n =>
   obtain⟨c,e,f⟩:=zA1.mp h;obtain⟨⟨g,i⟩,rfl⟩:=qs5 f;cases qad7 e;obtain⟨a,j,A,rfl,k,m,_⟩:=r.lst_inv;exact⟨a,j,c,rfl,.inl (.inl k),qaG9 m,g,i,λ l o b t=>q _ _ [l] (qA5 b (qax4 t)) (Same.new b) (qg4 b)⟩
 | _=>cases h
end
theorem qU4{F:Addr->Prop}{H:Hp}:∀ ns:List Int,Reps F H (ns.map V.int) (ns.map D.int) []
 | []=>.nil
 | n::ns=>.cons (A:=[]) (B:=[]) (.int n) (qU4 ns)
end LV
namespace LV
open PySem L2
mutual
def D.plain:D->Bool
 | .tup ds=>D.plains ds
 | .lst z ds=>!z&&D.plains ds
 | .non=>true | .bl _=>true | .int _=>true | .str _=>true
 | _=>false
def D.plains:List D->Bool
 | []=>true
 | d::r=>d.plain&&D.plains r
end
end LV
namespace LV
open PySem L2 PyProof.Rows
section
variable{c:Vc}{X:Cx}{e:Expr}{ta tb:VT}{s:VSp}
def tOrT(ta tb:VT):VT:=λ ds Q xe=>ta ds Q xe∨tb ds Q xe
theorem eAlt(g:VE c X e ta)(i:VE c X e tb):VE c X e (tOrT ta tb):=by
 refine⟨λ De s σ H Q I b=>?_,λ d Q Q' f k j a=>Or.imp (g.m _ _ _ _ _ j a) (i.m _ _ _ _ _ j a)⟩;obtain⟨F,d,A,f,S,a,q⟩:=b;rcases q with q | q
 . exact g.h De s σ H Q I ⟨F,d,A,f,S,a,q⟩
 exact i.h De s σ H Q I ⟨F,d,A,f,S,a,q⟩
end
end LV
namespace LV
open PySem L2 PyProof.Rows
theorem qaT1{k:Key}{u:Value}(h:Eu k u=true):RelV (kV k) u:=by
 rcases qc5 h with⟨i,t,rfl,rfl⟩ | ⟨x,t,rfl,rfl⟩
 . exact⟨t,rfl⟩
 exact⟨t,rfl⟩
noncomputable def keyD:Key->D
 | .inl i=>.int i
 | .inr x=>.str x
end LV
namespace L2
open PySem PySem.Spec PyProof.Rows
section
variable{X:Cx}{De:List (Addr×Obj)}{σ:St}{H H':Hp}{s:Shared}{h':Heap}
theorem Inv.many{t':Nat}(I:Inv X De σ H s)(k:∀ b u,s.heap.get? b=some u->h'.get? b=some u)(a:Same H H')(d:∀ b o,H b=none->H' b=some o->s.heap.objs.size<=b/\ObjOk X.prog X.w H' h' b o):Inv X De σ H' { s with heap:=h',toks:=t' }:=by
 refine I.un ⟨λ b u q _ _ _=>k b u q,λ b u q _ _ _=>⟨u.slots,k b u q⟩,λ b u q n _=>?_,λ b u q _=>⟨u,k b u q⟩,λ b f q=>a b _ q,λ b u f q=>a b _ q,λ b g q=>⟨#[],by rw[a b _ q];simp⟩⟩ λ b u e=>?_
 . cases z:H' b with
   | none=>rfl
   | some o=>exact absurd (zA9 q) (Nat.not_lt.mpr (d b o n z).1)
 cases z:H b with
 | none=>exact(d b u z e).2
 | some o =>
   have:=a b o z
   rw[e] at this;cases this;exact(I.hok b u z).stay (λ c v _ q=>k c v q) (λ c q=>a c _ q) λ c f q=>a c _ q
end
def qaF3:V->List V->Hp->VK->Prop:=λ x vs H Q=>∃ a kvs,x=.ref a/\vs=[]/\Rd H a (.dK kvs)/\∀ p,H p=none->Q (.ref p) (upd H p (.ext λ h=>h.IsItemsView p a))
theorem qaz8{X:Cx}:MtM X "dict.items" qaF3:=by
 intro De s σ H x f v r Q I j k h;obtain⟨a,l,rfl,rfl,m,q⟩:=h;cases j;have d:=k.zero;subst d;obtain⟨z,n,f,rel,g⟩:=Ft I.hok m;refine call_meetsIn PySem.F.slot_dict_items g.typeIs PySem.F.entry_dict_items (PySem.F.args_dict_items_1 _) (meets_dict_items (qf0 X.prog X.w) a n) ⟨⟨f,g⟩,?_⟩;have i:=zAx s.heap (o:={ cls:=.type "dict_items",data:=.fields #[.ref a] }) rfl;refine⟨.ref _,_,I.laid (t':=s.toks) (λ b o e=>zA4 _ e) (zA3 _) (show ObjOk X.prog X.w _ _ _ (.ext λ h=>h.IsItemsView s.heap.objs.size a) from⟨⟨_,i,rfl,rfl⟩,⟨_,i⟩,λ t u ⟨o,e,c⟩ p=>⟨o,p o e,c⟩⟩),rfl,q _ (I.hok.fresh (zA3 _))⟩
def PrK(H:Hp)(w:V)(a:Key×V):Prop:=∃ b,w=.ref b/\H b=some (.tup [kV a.1,a.2])
def qaP1:List V->Hp->VK->Prop:=λ xs H Q=>∃ p a kvs,xs=[.ref p]/\H p=some (.ext λ h=>h.IsItemsView p a)/\Rd H a (.dK kvs)/\∀ l b H2,Same H H2->H l=none->H2 l=some (.lst b)->Paired (PrK H2) b kvs->Q (.ref l) H2
theorem qaF0{b:List Addr}(h:b.Pairwise (· < ·)){i j:Nat}{a:Addr}(hi:b[i]? = some a)(c:b[j]? = some a):i=j:=by
 obtain⟨f,d⟩:=zA2.mp hi;obtain⟨g,e2⟩:=zA2.mp c;have e:b.Nodup:=h.imp λ h=>zAq h
 exact(List.getElem_inj e).mp (d.trans e2.symm)
theorem qae4{H2:Hp}:∀{d:List Addr}{kvs:List (Key×V)},d.length=kvs.length->(∀(j:Nat)(a:Addr)(c:Key×V),d[j]? = some a->kvs[j]? = some c->H2 a=some (.tup [kV c.1,c.2]))->Paired (PrK H2) (d.map V.ref) kvs
 | [],[],_,_=>.nil
 | a::d,c::kvs,hl,h=>.cons ⟨a,rfl,h 0 a c rfl rfl⟩ (qae4 (Nat.succ.inj hl) λ j b e f g=>h (j+1) b e f g)
 | [],_::_,hl,_=>by cases hl
 | _::_,[],hl,_=>by cases hl
theorem KV_at{kvs:List (Key×V)}{vs:List (Key×Value)}(r:KV kvs vs):∀{j:Nat}{a:Key×V}{k:Key}{x:Value},kvs[j]? = some a->vs[j]? = some (k,x)->a.1=k/\RelV a.2 x:=by
 induction r with
 | nil=>intro j a k x h;cases h
 | cons d t e =>
   intro j a k x b c;cases j with
   | zero=>cases b;cases c;exact d
   | succ j=>exact e b c
theorem qaj3{X:Cx}(R:X.calm=true):CallR X (.type "list") qaP1:=by
 intro De s σ H xs us Q I r h;obtain⟨p,a,f,rfl,S,T,q⟩:=h;obtain⟨u,rfl,U⟩:=Bm r;cases U;obtain⟨hz,lo,M,rel,Y⟩:=Ft I.hok T;obtain⟨N,D⟩:=Y.dictAt;have hl:f.length=M.length:=rel.length;refine PySem.W.kdx_call (knd:=qf0 X.prog X.w) (kvs:=M) (ep:=N) (I.ok.hd R) (show ObjOk X.prog X.w H s.heap p (.ext λ h=>h.IsItemsView p a) from I.hok p _ S).1 D (by lia) λ h' Z E c' g kp e a0 G v=>?_
 have F:∀ b,s.heap.objs.size<=b->H b=none:=λ b n=>I.hok.fresh n
 let t:Addr->Option HO:=λ b=>(List.range f.length).findSome? λ j=>if g[j]? = some b then (f[j]?).map λ c=>HO.tup [kV c.1,c.2] else none
 let H2:Hp:=λ b=>if b=s.heap.objs.size then some (.lst (g.map V.ref)) else match H b with
   | some o=>some o
   | none=>t b
 have tbAt:∀(j:Nat)(b:Addr)(c:Key×V),g[j]? = some b->f[j]? = some c->t b=some (.tup [kV c.1,c.2]):=λ j b c l m=>by
   have hj:=(zA2.mp m).1;cases B:t b with
   | none =>
     have:=List.findSome?_eq_none_iff.mp B j (zAn.mpr hj)
     rw[if_pos l,m] at this;cases this
   | some o =>
     obtain⟨i,hi,d⟩:=List.exists_of_findSome?_eq_some B;by_cases z:g[i]? = some b
     . rw[if_pos z] at d
       have:=qaF0 G.rise z l
       subst this;rw[m] at d;exact d.symm
     rw[if_neg z] at d;cases d
 have tbIn:∀ b o,t b=some o->∃(j:Nat)(c:Key×V),g[j]? = some b/\f[j]? = some c/\o=.tup [kV c.1,c.2]:=λ b o B=>by
   obtain⟨i,hi,d⟩:=List.exists_of_findSome?_eq_some B;by_cases z:g[i]? = some b
   . rw[if_pos z] at d
     obtain⟨c,l,m⟩:=zAd.mp d;exact⟨i,c,z,l,m.symm⟩
   rw[if_neg z] at d;cases d
 have O:Same H H2:=λ b o z=>by
   have C:b≠s.heap.objs.size:=λ e=>by rw[e,F _ (zA3 _)] at z;cases z
   show (if b=s.heap.objs.size then _ else _)=_;rw[if_neg C,z]
 have y:H2 s.heap.objs.size=some (.lst (g.map V.ref)):=if_pos rfl;have J:∀(j:Nat)(b:Addr)(c:Key×V),g[j]? = some b->f[j]? = some c->H2 b=some (.tup [kV c.1,c.2]):=λ j b c l m=>by
   have n:=G.above b (zAy l);show (if b=s.heap.objs.size then _ else _)=_;rw[if_neg (Nat.ne_of_gt n),F b (zCa n)];exact tbAt j b c l m
 refine⟨.ref _,H2,I.many (t':=Z) kp O (λ b o n d=>?_),rfl,q _ _ H2 O (F _ (zA3 _)) y (qae4 (by lia) J)⟩;by_cases C:b=s.heap.objs.size
 . subst C
   rw[y] at d;cases d;refine⟨zA3 _,by rw[zA7];lia,E.toList,c',?_,by simpa using e⟩;rw[v];exact LV.qaa8 (by rw[zA7,zA7]) λ i x u A K=>by
     rw[zB2] at A K;cases z:g[i]? with
     | none=>rw[z] at A;cases A
     | some b=>rw[z] at A K;cases A;cases K;rfl
 have d:(match H b with | some o=>some o | none=>t b)=some o:=by
   have:(if b=s.heap.objs.size then some (HO.lst (g.map V.ref)) else match H b with | some o=>some o | none=>t b)=some o:=d
   rwa[if_neg C] at this
 rw[n] at d;obtain⟨j,c,l,m,rfl⟩:=tbIn b o d;obtain⟨L,k,x,h3,h4,h5⟩:=G.pairs j b l;refine⟨zCa (G.above b (zAy l)),by show 2<=sizeLine;decide,[L,x],?_,⟨_,h5,rfl,_,rfl⟩⟩;have P:=KV_at rel m h3;rw[P.1];exact .cons (LV.qaT1 h4) (.cons P.2 .nil)
theorem qax9{X:Cx}{o:Expr}{to:TE}{apos cpos:Pos}(e:PE X o to)(hbase:attributeBase o "items" X.env (eval o X.env)=eval o X.env:=by rfl)(hline:(apos.endLine == cpos.line)=true:=by rfl):PE X (.Call (.Attribute o "items" apos) [] [] cpos) (λ σ H Q=>to σ H λ x H1=>qaF3 x [] H1 Q):=by
 intro De s σ H Q I h;refine wpAny_Call_method0_late hbase hline (thn (e De s σ H _ I h) λ v f b=>?_);obtain⟨x,H1,I1,g,d⟩:=b;obtain⟨a,c,rfl,_,i,q⟩:=id d;cases g;obtain⟨t1,t2,_⟩:=qaL1 I1 (.inl ⟨c,i⟩);exact⟨"dict", "dict.items",PySem.F.plainAttrs_dict,PySem.F.slot_dict_items,PySem.F.type_dict_items,t1,t2,Calls.callWith_builtin rfl (PySem.evalArgs_none (qaz8 De f σ H1 (.ref a) [] (.ref a) [] Q I1 rfl .nil d))⟩
def qas1:V->List V->Hp->VK->Prop:=λ x vs H Q=>∃(l:Addr)(ns:List Int)(k:Int),x=.ref l/\vs=[.int k]/\H l=some (.lst (ns.map V.int))/\k∈ns/\Q .non (upd H l (.lst ((ns.erase k).map V.int)))
theorem qV5{k:Int}:∀{ns:List Int},k∈ns->∃ j,ns[j]? = some k/\(∀(m:Nat)(x:Int),m < j->ns[m]? = some x->x≠k)/\ns.eraseIdx j=ns.erase k
 | y::ns,h=>by
   by_cases e:y=k
   . subst e
     exact⟨0,rfl,λ m x a=>absurd a (Nat.not_lt_zero _),by rw[List.erase_cons_head];rfl⟩
   obtain⟨j,c,d,f⟩:=qV5 ((zAo.mp h).resolve_left λ z=>e z.symm);refine⟨j+1,c,λ m x a b=>?_,by rw[List.erase_cons_tail (by simpa using e),<- f];rfl⟩;cases m with
   | zero=>cases b;exact e
   | succ m=>exact d m x (by lia) b
theorem qan4{X:Cx}:MtM X "list.remove" qas1:=by
 intro De s σ H x R v S Q I J K h;obtain⟨l,d,k,rfl,rfl,D,L,q⟩:=h;cases J;obtain⟨u,rfl,M,rfl⟩:=K.one;obtain⟨z,b,n,r,T,e⟩:=I.lstM D;have f:=r.length;rw[zA7] at f;have g:∀ m (c:m < b.length),∃ t,b[m]=Value.int (d[m]'(by lia)) t:=λ m c=>by
   obtain⟨w,E,t,rfl⟩:=r.get (i:=m) (x:=.int (d[m]'(by lia))) (by simp[show m < d.length by lia]);exact⟨t,by rw[zB9 c] at E;exact Option.some.inj E⟩
 let G:Value->Bool:=λ y=>match y with | .int i _=>i == k | _=>false
 obtain⟨j,N,p,A⟩:=qV5 L;obtain⟨O,B⟩:=zA2.mp N;have o:∀ m (c:m < b.toArray.size),G b.toArray[m]=(d[m]'(by simp at c;lia) == k):=λ m c=>by
   obtain⟨t,e⟩:=g m (by simpa using c);have e:b.toArray[m]=Value.int (d[m]'(by simp at c;lia)) t:=by simpa using e
   rw[e]
 refine call_meets F.slot_list_remove ⟨_,e,rfl⟩ F.entry_list_remove (F.args_list_remove_2 _ _) (MeetsSeq.list_remove l b.toArray n (.int k M) G (λ y P=>?_) j (by simp;lia) ?_ (λ m c C=>?_) (by rw[zA5];lia)) ⟨e,?_⟩
 . obtain⟨m,c,rfl⟩:=List.getElem_of_mem (by simpa using P:y∈b)
   obtain⟨t,e⟩:=g m c;rw[e];exact MeetsSeq.EqGives.int _ _ _ _
 . rw[o];simp[B]
 . rw[o]
   exact beq_false_of_ne (p m _ C (by simp[show m < d.length by simp at c;lia]))
 refine⟨.non,_,I.lset (its':=b.eraseIdx j) (ys:=(d.erase k).map V.int) D e (by simp) ?_ ?_,rfl,q⟩
 . rw[<- A,show (d.eraseIdx j).map V.int=(d.map V.int).eraseIdx j from by simp[List.eraseIdx_eq_take_drop_succ,List.map_take,List.map_drop]]
   exact r.eraseIdx _
 rw[zA7];have:=List.length_erase_le (a:=k) (l:=d);lia
end L2
namespace LV
open PySem L2 PyProof.Rows
def gRem(ys xs:Ds):Option (Ds×D):=match xs with
 | [.int k]=>(intsD ys).bind λ a=>if k∈a then some ((a.erase k).map D.int,.non) else none
 | _=>none
theorem qaR9:Gn qas1 gRem:=by
 intro F H a o p Ael s i T j d Q l r m h q
 cases i with
 | nil=>cases h
 | cons e l=>
 cases l with
 | cons=>cases e<;>cases h
 | nil=>
 cases e with
 | int k=>
   obtain⟨w,rfl,e⟩:=m.one_inv;cases e;obtain⟨g,n,c⟩:=zA1.mp h;by_cases f:k∈g
   . rw[if_pos f] at c
     cases c;cases r.intsD n;exact⟨a,g,k,rfl,rfl,l,f,q _ .non [] [] (qU4 _) .non λ b=>by simp⟩
   rw[if_neg f] at c;cases c
 | _=>cases h
def qaL9(x:D):Option D:=match x with
 | .dct _ a=>gd (D.imms (a.map (·.2))=true) (.lst false (a.map λ kd=>.tup [keyD kd.1,kd.2]))
 | _=>none
theorem qK7{F:Addr->Prop}{H:Hp}:∀{c:List V}{kvs:List (Key×V)}{a:List (Key×D)},kvs.map (·.1)=a.map (·.1)->Reps F H (kvs.map (·.2)) (a.map (·.2)) []->Paired (PrK H) c kvs->Reps F H c (a.map λ kd=>.tup [keyD kd.1,kd.2]) []
 | [],[],[],_,_,_=>.nil
 | w::c,(k,v)::kvs,(k',d)::a,h,r,.cons ⟨b,hb,eb⟩ t=>by
   obtain⟨e,f⟩:=List.cons.inj h;have e:k=k':=e;subst e;subst hb;have r:Reps F H (v::kvs.map (·.2)) (d::a.map (·.2)) []:=r;generalize g:([]:List Addr)=N at r;cases r with
   | @cons _ _ B _ _ B' r1 t1 =>
     obtain⟨rfl,rfl⟩:=List.append_eq_nil_iff.mp g.symm;refine .cons (A:=[]) (B:=[]) (.tup eb (.cons (A:=[]) (B:=[]) ?_ (.cons (A:=[]) (B:=[]) r1 .nil))) (qK7 f t1 t);cases k with
     | inl i=>exact .int i
     | inr x=>exact .str x
 | [],_::_,_,_,_,t=>nomatch t
 | _::_,[],_,_,_,t=>nomatch t
 | _,[],_::_,h,_,_=>nomatch h
 | _,_::_,[],h,_,_=>nomatch h
theorem qaD5{c:Vc}{X:Cx}{o:Expr}{oa:Bool}{fa:FV}{p pos apos cpos:Pos}(hm:X.mg "list" = none)(u:VV c X o oa fa)(w:X.calm=true:=by rfl)(y:Gl X "list" := by rfl)(hbase:attributeBase o "items" X.env (eval o X.env)=eval o X.env:=by rfl)(hline:(apos.endLine == cpos.line)=true:=by rfl)(m:starEach [.Call (.Attribute o "items" apos) [] [] cpos] X.env=(false,eval (.Call (.Attribute o "items" apos) [] [] cpos) X.env)::starEach [] X.env:=by rfl)(i:(backTo pos (starEach [] X.env)).any (·.1)=false:=by rfl) :
   VV c X (.Call (.Name "list" p) [.Call (.Attribute o "items" apos) [] [] cpos] [] pos) true (f1 qaL9 fa):=by
 refine⟨PE.mono (cty (qaj3 w) hm (qh2 (qax9 u.h hbase hline) qC7 m) y rfl (by decide) (by decide) m i) λ σ H Q j=>?_⟩;obtain⟨F,B,A,d,S,e,q⟩:=j;obtain⟨x,C,e2⟩:=qap3.mp e;cases x with
 | dct z D =>
   obtain⟨E,rfl⟩:=qs5 e2;refine⟨F,B,A,_,S,C,λ v H1 B1 G n _=>?_⟩;obtain⟨a,b,A2,rfl,r,I,J,_⟩:=G.dct_inv;refine⟨a,b,rfl,rfl,.inl r,λ p K=>?_⟩;have g:Same H1 (upd H1 p (.ext λ h=>h.IsItemsView p a)):=Same.new K;refine⟨p,a,b,rfl,qb9,.inl (g _ _ r),λ l N H2 s t L M=>?_⟩;have f:H1 l=none:=by
     cases z:H1 l with
     | none=>rfl
     | some o=>rw[g l o z] at t;cases t
   have k:H l=none:=by
     cases z:H l with
     | none=>rfl
     | some o=>rw[n l o z] at f;cases f
   exact q _ H2 [l] (.lst L (qK7 I ((J.imms0 E).same (g.trans s)) M)) ((n.trans g).trans s) λ _=>qg4 k
 | _=>cases e2
end LV
namespace LV
open PySem L2
def tSlN(i:Nat)(tb:VT):VT:=λ ds Q xe=>(rdN i ds).isSome=true/\tb ds (λ y ds1=>orF y.asI λ h=>orF ((rdN i ds1).bind λ x=>if noT x=true then gSl x none (some h) else none) λ d=>Q d ds1) xe
theorem eslN{c:Vc}{X:Cx}{b:Expr}{tb:VT}(i:Nat){x:Str}{p0 p2 pos:Pos}(k:VE c X b tb)(t:X.N[i]? = some x:=by rfl)(j:Vis X.env.scope x:=by first | exact Or.inl rfl | exact Or.inr (Or.inl rfl) | exact Or.inr (Or.inr rfl))(G:(x == ("__debug__" : Str))=false:=by decide)(l:(x == ("__classdict__" : Str))=false:=by decide) :
   VE c X (.Subscript (.Name x p0) (.Slice none (some b) none p2) pos) (tSlN i tb):=by
 refine⟨λ De s σ H Q I n=>?_,λ u Q Q' C J K e=>And.imp_right (k.m _ _ _ _ _ (λ d f=>qa4 λ h=>qa4 λ z=>K z f) e)⟩;obtain⟨F,u,A,C,S,x,L,q⟩:=n;refine qP6 qac4 (qr4 t j G l) qad9 (qad8 k.h) De s σ H Q I ?_;have D:=qs0 t De σ H s I;obtain⟨W,o⟩:=zAz.mp L;obtain⟨v,B0,j,_,_⟩:=S.name D o;refine⟨v,j,F,u,A,C,S,x,k.m _ _ _ _ _ (λ Y f q w H1 F1 T A1 M S1 Z O=>?_) (λ _ _ z=>z) q⟩;have p:Stp F H A F1 H1 A1:=O.count λ b=>by rw[zA0];lia
 obtain⟨h,P,q⟩:=qa6.mp q;obtain⟨d,a,q⟩:=qa6.mp q;obtain⟨y,R,a⟩:=zA1.mp a;obtain⟨v',B,g,U,_⟩:=S1.name D R;rw[j] at g;cases g;by_cases e:noT y=true
 . rw[if_pos e] at a
   refine⟨h,M.asI P,os_sl U a (λ ys z=>by subst z;cases e) λ w H' B' V r E=>?_⟩;exact q w H' F1 B' A1 V (S1.same r) (S1.new E r) (p.trans (E.stp r))
 rw[if_neg e] at a;cases a
section
variable{c:Vc}{X:Cx}{o:Expr}{ta:VT}{own:Bool}{g:FV}{pos apos:Pos}{qual m:Str}{st:Stmt}{f C:Addr}{fd:FuncData}{ps:List Str}{k:Nat}{s:VSp}
def qar2(C:Addr)(m:Str)(s:VSp)(ta:VT):VT:=λ ds Q xe=>ta ds (λ d ds1=>d.isM C m=true/\s [d] (λ r ys=>orF (Am [.no] ys ds1) λ a=>Q r a) (λ x ys=>orF (Am [.no] ys ds1) λ a=>xe x a)) xe
theorem qL9{pl:Sem Bool}(D:Md X.K C m qual st f fd ps)(u:Cls X.K C)(G:VFn X.prog X.w X.K X.mg X.base k f fd ps s)(y:Lands X c.E)(B:Room k X.A)(e:VE c X o ta)(I:eval (.Call (.Attribute o m apos) [] [] pos) X.env=(do
     let ov <- eval o X.env
     standAt apos.atName
     let (f,first) <- holding [ov] (getMethod ov m pl)
     callWith pos f first (backTo pos (starEach [] X.env)) (backToKw pos (keywordEach [] X.env))):=by rfl):VE c X (.Call (.Attribute o m apos) [] [] pos) (qar2 C m s ta):=by
 refine⟨PE.mono (qP7 e.h u D.me G.ok B D.b .nil y.passes I) λ σ H Q g=>?_,λ n Q Q' p J L r=>e.m _ _ _ _ _ (λ d i=>And.imp_right (G.m _ _ _ _ _ (λ d M=>qa4 λ z=>L _ _) (λ x M=>qa4 λ z=>r _ _))) r⟩;obtain⟨F,n,A,p,S,x,q⟩:=g;refine⟨F,n,A,p,S,x,e.m _ _ _ _ _ (λ d i ⟨N,q⟩ v H1 F1 T A1 t S1 O P=>?_) (λ _ _ z=>z) q⟩;obtain⟨a,R,U,rfl,j,l⟩:=t.isM N;refine⟨a,R,U,rfl,j,l,?_⟩;refine qaj5 (vs:=[.ref a]) (xs:=[d]) (pls:=[.no]) (T:=T++[]) (dvs:=[]) (dv:=[]) qm3 G.m S x (.cons t .nil) (.no .nil) S1 (by rw[zAg];exact O) (by rw[zAg];exact P) (λ d V h=>h) q
theorem qaM6{pl:Sem Bool}(D:Md X.K C m qual st f fd ps)(a:Cls X.K C)(G:VFn X.prog X.w X.K X.mg X.base k f fd ps s)(b:Lands X c.E)(d:Room k X.A)(e:VV c X o own g)(h:eval (.Call (.Attribute o m apos) [] [] pos) X.env=(do
     let ov <- eval o X.env
     standAt apos.atName
     let (f,first) <- holding [ov] (getMethod ov m pl)
     callWith pos f first (backTo pos (starEach [] X.env)) (backToKw pos (keywordEach [] X.env))):=by rfl):VE c X (.Call (.Attribute o m apos) [] [] pos) (qar2 C m s (Bw g)):=qL9 D a G b d (qc2 e) h
end
end LV
namespace LV.My
open PySem L2 Row _root_.My
variable{N i j l r:Nat}{Q:DK}{R:Ds->D->Prop}{S ks:List Int}{b z':Bool}{d p x y:D}{ds ys:Ds}{e:VEnds}{f fa fb:FV}{fs:List (Str×D)}{g':Nat->Option Int}{hm:Int->Nat}{k:Int}{m:Str}{pf:PF}{qc:VTT}{s:VSp}{t u:VTS}{ta tb te:VT}{tr:VTB}{xe:XKd}{α:Type}
noncomputable def _root_.LV.D.whole:D->Bool
 | .int _=>true
 | _=>false
noncomputable def _root_.LV.D.within(l m:Int):D->Bool
 | .int i=>decide (l<=i)&&decide (i<=m)
 | _=>false
def _root_.LV.D.num:D->Bool:=D.within 0 1000000000000000000
noncomputable def fx3(g:D->D->D->Option D):Ds->Option D
 | [x,y,z]=>g x y z
 | _=>none
theorem qag2{g:D->Option D}(h:Br (fx1 g) ds Q xe):ds.length=1:=by
 match ds,h with
 | [_],_=>rfl
theorem qaK4{g:D->D->D->Option D}(h:Br (fx3 g) ds Q xe):ds.length=3:=by
 match ds,h with
 | [_,_,_],_=>rfl
theorem imm1{g:D->Option D}(h:Br (fx1 g) ds Q xe):Gq (wOf [true]) 0 ds=true:=by
 match ds,h with
 | [_],_=>rfl
theorem imm3{g:D->D->D->Option D}(h:Br (fx3 g) ds Q xe):Gq (wOf [true,true,true]) 0 ds=true:=by
 match ds,h with
 | [_,_,_],_=>rfl
theorem I9{g:D->Option D}(h:Br (fx1 g) ds Q xe):∃ x d,ds=[x]/\g x=some d/\Q d [x]:=by
 match ds,h with
 | [x],h=>obtain⟨d,e,q⟩:=qa6.mp h;exact⟨x,d,rfl,e,q⟩
theorem pure3{g:D->D->D->Option D}(h:Br (fx3 g) ds Q xe):∃ x y z d,ds=[x,y,z]/\g x y z=some d/\Q d [x,y,z]:=by
 match ds,h with
 | [x,y,z],h=>obtain⟨d,e,q⟩:=qa6.mp h;exact⟨x,y,z,d,rfl,e,q⟩
theorem qs3{t:String}(h:x.kind=some t):x.known=true:=by
 cases x<;>first | rfl | cases h
def Ax(P:Ds->D->Prop):VSp:=λ ds Q _=>∃ d,P ds d/\Q d ds
theorem qb2{P:Ds->D->Prop}:Bj (Ax P):=λ _ _ _ _ _ a _ ⟨d,p,q⟩=>⟨d,p,a _ _ q⟩
noncomputable def prD(ps:Pr):Ds:=ps.map λ p=>.tup [.int p.1,.int p.2]
noncomputable def kvD(ps:Pr):List (Key×D):=ps.map λ p=>(.inl p.1,.int p.2)
def Aa(z:Bool)(C:Addr)(n:Int)(wr:Bool)(ps:Pr):D:=.ins z C [("rooms",.int n),("wraps",.bl wr),("homes",.lst z (prD ps)),("home_numbers",.dct z (kvD ps))]
noncomputable def B9:Option Int->D
 | none=>.non
 | some k=>.int k
def rlD(n:Nat)(g:Nat->Option Int):Ds:=(List.range n).map λ i=>B9 (g i)
noncomputable def ksD(ks:List Int):Ds:=ks.map .int
theorem qK9:∀ ps:Pr,D.imms (prD ps)=true
 | []=>rfl
 | p::r=>by show (D.imms [.int p.1,.int p.2]&&D.imms (prD r))=true;rw[qK9 r];rfl
theorem qh9:∀ ks:List Int,D.imms (ksD ks)=true
 | []=>rfl
 | k::r=>by show (true&&D.imms (ksD r))=true;rw[qh9 r];rfl
theorem qI0{α:Type}{f:α->D}(h:∀ a,(f a).imm=true):∀ l:List α,D.imms (l.map f)=true
 | []=>rfl
 | a::r=>by show ((f a).imm&&D.imms (r.map f))=true;rw[h a,qI0 h r];rfl
theorem qaL6(o:Option Int):(B9 o).imm=true:=by cases o<;>rfl
theorem qK8(n:Nat)(g:Nat->Option Int):D.imms (rlD n g)=true:=qI0 (λ i=>qaL6 _) _
theorem qah4:∀ ks:List Int,intsD (ksD ks)=some ks
 | []=>rfl
 | k::r=>by show (intsD (ksD r)).map (λ is=>k::is)=some (k::r);rw[qah4 r];rfl
theorem qB4:∀ ks:List Int,flats (ksD ks)=some (ks.map V.int)
 | []=>rfl
 | k::r=>by show (Option.bind (some (V.int k)) λ v=>(flats (ksD r)).bind λ a=>some (v::a))=_;rw[qB4 r];rfl
theorem qh7(ks:List Int):(ksD ks).length=ks.length:=zA7 _
theorem qA8(n:Nat)(g:Nat->Option Int):(rlD n g).length=n:=by simp[rlD]
theorem qL3{n:Nat}{g:Nat->Option Int}(h:i < n):(rlD n g)[i]? = some (B9 (g i)):=by
 unfold rlD;rw[zB2,List.getElem?_range h];rfl
theorem qac8{n:Nat}{g:Nat->Option Int}{o:Option Int}:(rlD n g).set i (B9 o)=rlD n (λ j=>if j=i then o else g j):=by
 apply List.ext_getElem?;intro j;by_cases a:j < n
 . rw[qL3 a]
   by_cases e:i=j
   . subst e
     rw[List.getElem?_set_self (by rw[qA8];exact a),if_pos rfl]
   rw[zBc e,qL3 a,if_neg (Ne.symm e)]
 rw[List.getElem?_eq_none (by rw[List.length_set,qA8];lia),List.getElem?_eq_none (by rw[qA8];lia)]
theorem qae3:∀ ps:Pr,qY9 (prD ps)=some (kvD ps)
 | []=>rfl
 | p::r=>by
   show (Option.bind (some ((Sum.inl p.1:Key),D.int p.2)) λ q=>(qY9 (prD r)).bind λ ps=>some (q::ps))=_;rw[qae3 r];rfl
theorem qam5{ps:Pr}{m:Int}(h:¬ k∈ps.map (·.1)):Ew (kvD ps) (.inl k) (.int m)=kvD (ps++[(k,m)]):=by
 unfold Ew;rw[if_neg]
 . unfold kvD;rw[zBe];rfl
 intro e;obtain⟨q,a,e⟩:=List.any_eq_true.mp e;obtain⟨r,b,rfl⟩:=zBd.mp a;have e:(Sum.inl r.1:Key)=Sum.inl k:=zA8 e;exact h (zBd.mpr ⟨r,b,Sum.inl.inj e⟩)
theorem qT6:∀(a ps:Pr),((ps++a).map (·.1)).Nodup->qv9 (kvD ps) (kvD a)=kvD (ps++a)
 | [],ps,_=>by rw[zAg];rfl
 | q::a,ps,h=>by
   show qv9 (Ew (kvD ps) (.inl q.1) (.int q.2)) (kvD a)=_;have b:¬ q.1∈ps.map (·.1):=by
     rw[zBe,zB0,zBo] at h;exact λ z=>h.2.2 _ z _ zAb rfl
   rw[qam5 b,qT6 a (ps++[(q.1,q.2)]) (by rw[zAm];exact h),zAm];rfl
theorem qan5{ps:Pr}(h:(ps.map (·.1)).Nodup):qv9 [] (kvD ps)=kvD ps:=qT6 ps [] h
theorem qau7{z:Bool}{ps:Pr}(h:(ps.map (·.1)).Nodup):G4 (.lst z (prD ps))=some (.dct false (kvD ps)):=by
 show (qY9 (prD ps)).map (λ ps=>D.dct false (qv9 [] ps))=_;rw[qae3];show some (D.dct false (qv9 [] (kvD ps)))=_;rw[qan5 h]
theorem qar1(k:Int):∀ ps:Pr,Dh (kvD ps) (.inl k)=(ps.lookup k).map .int
 | []=>rfl
 | (p,m)::r=>by
   show Dh ((.inl p,.int m)::kvD r) _=_;by_cases e:p=k
   . subst e
     simp[Dh,zAt]
   have a:Dh ((.inl p,D.int m)::kvD r) (.inl k)=Dh (kvD r) (.inl k):=by simp[Dh,zBt,e]
   rw[a,qar1 k r]
   have:(k == p)=false:=by simpa using λ z=>e z.symm
   simp only[zAt,this]
theorem qa1{o:Option α}{a:α}{k:α->Prop}(e:o=some a)(h:k a):orF o k:=by rw[e];exact h
theorem Eg{p:Prop}[Decidable p]{a b:Prop}(h:p)(x:a):if p then a else b:=by rw[if_pos h];exact x
theorem ite_f{p:Prop}[Decidable p]{a b:Prop}(h:¬ p)(x:b):if p then a else b:=by rw[if_neg h];exact x
theorem ite_b{p:Bool}{a b:Prop}(h1:p=true->a)(h2:p=false->b):if p=true then a else b:=by cases p with | true=>exact h1 rfl | false=>exact h2 rfl
noncomputable def Gu:Option Int->D
 | some f=>.int f
 | none=>.non
theorem Ja(b:rdN i ds=some x)(h:s [x] (λ d ys=>orF (Am [.sl i] ys (ds.set i .unk)) λ a=>Q d a) (λ e ys=>orF (Am [.sl i] ys (ds.set i .unk)) λ a=>xe e a)):qn1 s [] (tbN i A6) ds Q xe :=
 ⟨by rw[b];rfl,by show orF (rdN i ds) _;rw[b];exact h⟩
theorem qz8{f:Ds->Option D}(e:f ds=some d)(q:Q d ds):Br f ds Q xe:=qa1 e q
theorem qq3(e:R ds d)(q:Q d ds):Ax R ds Q xe:=⟨d,e,q⟩
theorem qb6{K:Ds->List Pl->Ds->Prop}(a:rdN i ds=some x)(h:tr ds (λ xs ps ds1=>orF (rdN i ds1) λ d=>K (d::xs) (.sl i::ps) (ds1.set i .unk)) xe):tbN i tr ds K xe:=⟨by rw[a];rfl,h⟩
theorem qc4{K:Ds->List Pl->Ds->Prop}(b:f ds=some y)(h:tr ds (λ xs ps a=>K (y::xs) (.no::ps) a) xe):tbV (B7 f) tr ds K xe:=qa1 (k:=λ y=>tr ds (λ xs ps a=>K (y::xs) (.no::ps) a) xe) b h
theorem rd0{r:Ds}(h:d.known=true):rdN 0 (d::r)=some d:=qo0.mpr ⟨rfl,h⟩
theorem qai5{β:Type}(f:α->β)(l:List α):l.filterMap (λ a=>some (f a))=l.map f:=by simp
section
variable{z:Bool}{C:Addr}{n:Int}{wr:Bool}{ps:Pr}
theorem qB3{f:Str}(h:fs.lookup f=some d):D.fld C f (.ins z C fs)=some d:=by
 show (if C=C then fs.lookup f else none)=some d;rw[if_pos rfl,h]
theorem qc8:D.fld C "rooms" (Aa z C n wr ps)=some (.int n):=qB3 (by rfl)
theorem qs7:D.fld C "wraps" (Aa z C n wr ps)=some (.bl wr):=qB3 (by rfl)
theorem qE7:D.fld C "home_numbers" (Aa z C n wr ps)=some (.dct z (kvD ps)):=qB3 (by rfl)
theorem qah3(h:fs.lookup m=none):(D.ins z C fs).isM C m=true:=by
 show (decide (C=C)&&(fs.lookup m).isNone)=true;rw[zAj rfl,h];rfl
theorem qf3(h:([("rooms",.int n),("wraps",.bl wr),("homes",.lst z (prD ps)),("home_numbers",.dct z (kvD ps))]:List (Str×D)).lookup m=none):(Aa z C n wr ps).isM C m=true:=qah3 h
theorem Av{g:D->Option D}(h:fa ds=some x)(h':g x=some y):f1 g fa ds=some y:=qap3.mpr ⟨x,h,h'⟩
theorem Ae{g:D->D->Option D}(h:fa ds=some x)(h':fb ds=some y)(h2:g x y=some d):f2 g fa fb ds=some d:=qaC1.mpr ⟨x,y,h,h',h2⟩
theorem qe4:(D.ins false C fs).ownI C=some fs:=by
 show (if C=C then some fs else none)=some fs;rw[if_pos rfl]
end
theorem qx1{C:Addr}(b:rdN i ds=some p)(hm:p.isM C m=true)(h:tr ds (λ xs ps ds1=>orF (rdN i ds1) λ d=>s (d::(xs++[])) (λ r ys=>orF (Am (.sl i::ps) ys (ds1.set i .unk)) λ a=>Q r a) (λ x ys=>orF (Am (.sl i::ps) ys (ds1.set i .unk)) λ a=>xe x a)) xe):qw4 C m s [] i tr ds Q xe:=⟨qa1 b hm,h⟩
theorem qJ6{f:Ds->Option D}(a:rdN i ds=some x)(e:f [x]=some d)(b:Am [.sl i] [x] (ds.set i .unk)=some ds)(q:Q d ds):qn1 (Br f) [] (tbN i A6) ds Q xe:=Ja a (qz8 e (qa1 b q))
theorem qH5(c:rdN i ds=some x)(b:rdN j ds=some y)(a:rdN i (ds.set j .unk)=some x)(r:R [x,y] d)(e:Am [.sl i,.sl j] [x,y] ((ds.set j .unk).set i .unk)=some ds)(q:Q d ds):qn1 (Ax R) [] (tbN i (tbN j A6)) ds Q xe :=
 qb6 c (qb6 b (qa1 b (qa1 a (qq3 r (qa1 e q)))))
theorem qZ9{w:D}(e:rdN i ds=some x)(f:rdN j ds=some y)(c:rdN l ds=some w)(a:rdN j (ds.set l .unk)=some y)(b:rdN i ((ds.set l .unk).set j .unk)=some x)(r:R [x,y,w] d)(g:Am [.sl i,.sl j,.sl l] [x,y,w] (((ds.set l .unk).set j .unk).set i .unk)=some ds)(q:Q d ds):qn1 (Ax R) [] (tbN i (tbN j (tbN l A6))) ds Q xe :=
 qb6 e (qb6 f (qb6 c (qa1 c (qa1 a (qa1 b (qq3 r (qa1 g q)))))))
theorem qQ6{C:Addr}(c:rdN i ds=some p)(hm:p.isM C m=true)(b:rdN j ds=some x)(a:rdN i (ds.set j .unk)=some p)(r:R [p,x] d)(e:Am [.sl i,.sl j] [p,x] ((ds.set j .unk).set i .unk)=some ds)(q:Q d ds):qw4 C m (Ax R) [] i (tbN j A6) ds Q xe :=
 qx1 c hm (qb6 b (qa1 b (qa1 a (qq3 r (qa1 e q)))))
theorem qan6{C:Addr}(e:rdN i ds=some p)(hm:p.isM C m=true)(f:rdN j ds=some x)(c:rdN l ds=some y)(a:rdN j (ds.set l .unk)=some x)(b:rdN i ((ds.set l .unk).set j .unk)=some p)(r:R [p,x,y] d)(g:Am [.sl i,.sl j,.sl l] [p,x,y] (((ds.set l .unk).set j .unk).set i .unk)=some ds)(q:Q d ds):qw4 C m (Ax R) [] i (tbN j (tbN l A6)) ds Q xe :=
 qx1 e hm (qb6 f (qb6 c (qa1 c (qa1 a (qa1 b (qq3 r (qa1 g q)))))))
theorem Eh{t:VT}{n:VTS}(h:∀(Q:DK)(xe:XKd),Q (.bl true) ds->t ds Q xe)(h2:u e ds):Gb (sIf (F6 (ttE t)) n Ga) u e ds:=h _ _ h2
theorem if_e{t:VT}{v:VTS}(h:∀(Q:DK)(xe:XKd),Q (.bl b) ds->t ds Q xe)(h1:b=true->u e ds)(h2:b=false->v e ds):sIf (ttE t) u v e ds:=h _ _ (by
 show if b=true then u e ds else v e ds
 exact ite_b h1 h2)
theorem if_v{v:VTS}(h:f ds=some (.bl b))(h1:b=true->u e ds)(h2:b=false->v e ds):sIf (ttV f) u v e ds:=by
 show orF ((f ds).bind D.asB) _;rw[h];exact ite_b h1 h2
theorem Fj{u v:VT}(h:f ds=some (.bl b))(h1:b=true->u ds Q xe)(h2:b=false->v ds Q xe):tIfE (ttV f) u v ds Q xe:=by
 show orF ((f ds).bind D.asB) _;rw[h];exact ite_b h1 h2
theorem qr8(e:f ds=some d)(q:Q d ds):B7 f ds Q xe:=qa1 e q
theorem qm0{w:VTS}(b:Bool)(h:f ds=some (.bl b))(h1:b=true->u { e with nx:=w e } ds)(h2:b=false->w e ds):Gb (sIf (ttV f) u Ga) w e ds:=if_v (u:=u) (v:=Ga) h h1 h2
theorem qh0{t:VT}(h:t ds e.rt e.xe):sRet t e ds:=h
theorem ql0(d:D)(h:f ds=some d)(q:e.rt d ds):sRet (B7 f) e ds:=qa1 h q
theorem As(a:Ds)(h:ds=a)(q:t e a):t e ds:=h ▸ q
theorem qah2{z:Bool}(h:rdN i ds=some (.lst z ys)):A8 (fx2 gIsi) (Ay (rdN i) (Ay (kC (D.ty "list")) λ _=>some [])) ds=some (.bl true):=by
 unfold A8 Ay;rw[h];rfl
theorem qq4{z:Bool}(h:rdN i ds=some (.lst z ys)):A8 (fx1 F5) (Ay (rdN i) λ _=>some []) ds=some (.int (ys.length:Nat)):=by
 unfold A8 Ay;rw[h];rfl
theorem ql3{Q:Bool->Ds->Prop}(h:f ds=some (.bl b))(q:Q b ds):ttV f ds Q xe:=by
 show orF ((f ds).bind D.asB) _;rw[h];exact q
theorem qx7{Q:Bool->Ds->Prop}(h:f ds=some (.bl b))(q:Q (!b) ds):F6 (ttV f) ds Q xe:=ql3 (Q:=λ b ds=>Q (!b) ds) h q
theorem qab2{t u:VTT}{Q:Bool->Ds->Prop}(b c:Bool)(h1:∀ Q:Bool->Ds->Prop,Q b ds->t ds Q xe)(h2:b=false->∀ Q:Bool->Ds->Prop,Q c ds->u ds Q xe)(q:Q (b||c) ds):ttOr t u ds Q xe:=h1 _ (by
 cases b with
 | false=>exact h2 rfl _ q
 | true=>exact q)
theorem qo6{t u:VTT}{Q:Bool->Ds->Prop}(b c:Bool)(h1:∀ Q:Bool->Ds->Prop,Q b ds->t ds Q xe)(h2:b=true->∀ Q:Bool->Ds->Prop,Q c ds->u ds Q xe)(q:Q (b&&c) ds):ttAnd t u ds Q xe:=h1 _ (by
 cases b with
 | false=>exact q
 | true=>exact h2 rfl _ q)
theorem if_of(b:Bool)(h:∀ Q:Bool->Ds->Prop,Q b ds->qc ds Q e.xe)(h1:b=true->t e ds)(h2:b=false->u e ds):sIf qc t u e ds:=h _ (ite_b h1 h2)
theorem qj0{w:VTS}(b:Bool)(h:∀ Q:Bool->Ds->Prop,Q b ds->qc ds Q e.xe)(h1:b=true->t { e with nx:=w e } ds)(h2:b=false->w e ds):Gb (sIf qc t Ga) w e ds:=h _ (ite_b h1 h2)
theorem qah8{t:VT}{n:VTS}(h:∀(Q:DK)(xe:XKd),Q (.bl true) ds->t ds Q xe)(h2:e.nx ds):sIf (F6 (ttE t)) n Ga e ds:=h _ _ h2
theorem qat9{n:VTS}(h:f ds=some (.bl true))(h2:u e ds):Gb (sIf (F6 (ttV f)) n Ga) u e ds:=qx7 (Q:=λ k a=>if k=true then n { e with nx:=u e } a else u e a) (xe:=e.xe) h h2
theorem qaB0{z:Bool}{C:Addr}{n:Int}{wr:Bool}{ps:Pr}:Ie C (Aa z C n wr ps) (.adr C)=some (.bl true):=by
 show (if C=C then (Aa z C n wr ps).isC C else none)=_;rw[if_pos rfl];show (if C=C then some (D.bl true) else none)=_;rw[if_pos rfl]
theorem qg1{g:VTG}{t:VTS}{e:VEnds}(I:Nat->Ds->Prop):∀(xs:List D)(i:Nat)(ds:Ds),I i ds->(∀(j:Nat)(x:D),xs[j]? = some x->∀ ds,I (i+j) ds->∀ K:Ds->Prop,(∀ a,I (i+j+1) a->K a)->g x ds λ ds1=>t { e with nx:=K,ct:=K,bk:=e.nx } ds1)->(∀ a,I (i+xs.length) a->e.nx a)->Dk g t e xs ds
 | [],_,ds,h,_,hn=>hn ds h
 | x::xs,i,ds,h,hs,hn=>hs 0 x rfl ds h _ λ a f=>qg1 I xs (i+1) a f (λ j y k b c K l=>hs (j+1) y k b (by rw[show i+(j+1)=i+1+j by lia];exact c) K λ d m=>l d (by rw[show i+1+j+1=i+(j+1)+1 by lia];exact m)) λ b c=>hn b (by rw[zAp,show i+(xs.length+1)=i+1+xs.length by lia];exact c)
theorem qR2{g:VTG}{n:Int}(h:f ds=some (.int n))(a:Go n=true)(k:Dk g t e (Dl 0 n.toNat) ds):qam2 (Iw (tbV (Bw f) A6)) g t e ds:=by
 show orF (f ds) _;rw[h];exact⟨rfl,a,k⟩
theorem qZ7{n:Int}(a:0<=n)(h1:n<=1000):Go n=true:=by
 unfold Go;rw[zAj (by lia),zAj (by lia)];rfl
theorem qY7{m:Nat}(h:(Dl 0 m)[j]? = some x):j < m/\x=.int (j:Int):=by
 by_cases a:j < m
 . rw[qar9 a] at h
   cases h;exact⟨a,by rw[Int.zero_add]⟩
 rw[List.getElem?_eq_none (by unfold Dl;rw[zA7,zB7];lia)] at h;cases h
def Fk(p:Int->Bool)(y:D):Option D:=y.asI.bind λ k=>if p k=true then some (.int k) else none
theorem qat4{p:Int->Bool}(h:p k=true):Fk p (.int k)=some (.int k):=if_pos h
theorem qat5{p:Int->Bool}(h:p k=false):Fk p (.int k)=none:=if_neg (by rw[h];decide)
theorem qQ9(p:Int->Bool):∀ ks:List Int,(ksD ks).filterMap (Fk p)=ksD (ks.filter p)
 | []=>rfl
 | k::ks=>by
   show List.filterMap (Fk p) (D.int k::ksD ks)=_;rw[zBu];cases h:p k with
   | true=>rw[qat4 h,zC2 h];show D.int k::(ksD ks).filterMap (Fk p)=_;rw[qQ9 p ks];rfl
   | false=>rw[qat5 h,zC3 (by rw[h];decide),qQ9 p ks]
theorem qaU4{a:Bool}(h1:fa ds=some (.bl a))(h2:fb ds=some (.bl b)):fOr fa fb ds=some (.bl (a||b)):=by
 unfold fOr;rw[h1,h2];cases a<;>rfl
theorem qau5{a:Bool}(h1:fa ds=some (.bl a))(h2:fb ds=some (.bl b)):fAnd fa fb ds=some (.bl (a&&b)):=by
 unfold fAnd;rw[h1,h2];cases a<;>rfl
theorem qb0(ds1:Ds)(h1:∀ K:Ds->Prop,K ds1->t { e with nx:=K } ds)(h2:u e ds1):Gb t u e ds:=h1 (u e) h2
theorem qd1(R:Ds->Prop)(h1:∀ K:Ds->Prop,(∀ ds1,R ds1->K ds1)->t { e with nx:=K } ds)(h2:∀ ds1,R ds1->u e ds1):Gb t u e ds:=h1 (u e) h2
theorem qN0(I:Nat->Ds->Prop)(n:Nat)(h:I n ds)(c:∀ n ds,I n ds->∀ K:Ds->Prop,(∀ m a,m < n->I m a->K a)->qc ds (λ b ds1=>if b=true then t { e with nx:=K,ct:=K,bk:=e.nx } ds1 else e.nx ds1) e.xe):qaE7 qc t e ds:=by
 have d:∀ N n ds,n < N->I n ds->whN qc t e N ds:=by
   intro N
   induction N with
   | zero=>intro n ds h;exact absurd h (Nat.not_lt_zero _)
   | succ N f=>intro n ds i h;exact c n ds h _ λ m a j g=>f m a (by lia) g
 exact⟨n+1,d (n+1) n ds (Nat.lt_succ_self n) h⟩
theorem qaN3(f:rdN i ds=some x)(c:rdN j ds=some y)(b:rdN i (ds.set j .unk)=some x)(h:s [x,y] (λ d ys=>orF (Am [.sl i,.sl j] ys ((ds.set j .unk).set i .unk)) λ a=>Q d a) (λ e ys=>orF (Am [.sl i,.sl j] ys ((ds.set j .unk).set i .unk)) λ a=>xe e a)):qn1 s [] (tbN i (tbN j A6)) ds Q xe :=
 qb6 f (qb6 c (qa1 c (qa1 b h)))
theorem qaV3{w:D}(g:rdN i ds=some x)(k:rdN j ds=some y)(f:rdN l ds=some w)(b:rdN j (ds.set l .unk)=some y)(c:rdN i ((ds.set l .unk).set j .unk)=some x)(h:s [x,y,w] (λ d ys=>orF (Am [.sl i,.sl j,.sl l] ys (((ds.set l .unk).set j .unk).set i .unk)) λ a=>Q d a) (λ e ys=>orF (Am [.sl i,.sl j,.sl l] ys (((ds.set l .unk).set j .unk).set i .unk)) λ a=>xe e a)):qn1 s [] (tbN i (tbN j (tbN l A6))) ds Q xe :=
 qb6 g (qb6 k (qb6 f (qa1 f (qa1 b (qa1 c h)))))
theorem qaS3{C:Addr}{k:Nat}{w:D}(f:rdN i ds=some p)(hm:p.isM C m=true)(g:rdN j ds=some x)(h:rdN l ds=some y)(e:rdN k ds=some w)(a:rdN l (ds.set k .unk)=some y)(b:rdN j ((ds.set k .unk).set l .unk)=some x)(c:rdN i (((ds.set k .unk).set l .unk).set j .unk)=some p)(r:R [p,x,y,w] d)(n:Am [.sl i,.sl j,.sl l,.sl k] [p,x,y,w] ((((ds.set k .unk).set l .unk).set j .unk).set i .unk)=some ds)(q:Q d ds):qw4 C m (Ax R) [] i (tbN j (tbN l (tbN k A6))) ds Q xe :=
 qx1 f hm (qb6 g (qb6 h (qb6 e (qa1 e (qa1 a (qa1 b (qa1 c (qq3 r (qa1 n q)))))))))
theorem qac7(h:ds[j]? = some d):ds.set j d=ds:=by
 obtain⟨a,e⟩:=zA2.mp h;rw[<- e];exact List.set_getElem_self a
theorem qh1(h:ds[i]? = some d)(a:d.known=true):rdN i ds=some d:=qo0.mpr ⟨h,a⟩
def isBag(ns:List Int)(b:D):Prop:=∃ x y z,b=bagD x y z ns/\Bg x y z ns
theorem isBag.known{ns:List Int}{b:D}(h:isBag ns b):b.known=true:=by obtain⟨x,y,z,rfl,_⟩:=h;rfl
def qac0:VSp:=λ ds Q _=>∃ b m a,ds=[b,.int m]/\isBag a b/\0 < m/\m < 2 ^ 200/\∀ v c,0<=v->v < m->isBag a c->Q (.int v) [c,.int m]
theorem qe1{b:D}{ns:List Int}{m:Int}(d:ds[i]? = some b)(B:isBag ns b)(e:f ds=some (.int m))(g:0 < m)(h1:m < 2 ^ 200)(q:∀ v a,0<=v->v < m->isBag ns a->Q (.int v) (ds.set i a)):qn1 qac0 [] (tbN i (tbV (B7 f) A6)) ds Q xe:=by
 have c:=qh1 d B.known;refine qb6 c (qc4 e (qa1 c ⟨b,m,ns,rfl,B,g,h1,λ v a h j B'=>?_⟩));show Q (.int v) ((ds.set i .unk).set i a);rw[List.set_set];exact q v a h j B'
theorem Gg{i j:Int}(h:small j=true):Gk (.int i) (.int j)=some (.int (i * j)):=qk7 (by rw[h,Bool.or_true])
theorem mulL{i j:Int}(h:small i=true):Gk (.int i) (.int j)=some (.int (i * j)):=qk7 (by rw[h,Bool.true_or])
theorem qaC4{i j:Int}(h:0 < j)(h1:j < 2 ^ 200):gDiv (.int i) (.int j)=some (.int (i / j)):=qk7 (by show (decide (0 < j)&&decide (j < 2 ^ 200))=true;rw[zAj h,zAj h1];rfl)
theorem Ec{x n:Int}(h:0 < n):Hi (.int x) (.int n)=some (.int (x % n)):=qk7 (zAj h)
theorem qaw6{i:Int}(h:-(2 ^ 64) < i)(h':i < 2 ^ 64):small i=true:=by unfold small;rw[zAj h,zAj h'];rfl
theorem E6{z:Bool}{g:Nat->Option Int}(h:r < N):gIx (.lst z (rlD N g)) (.int (r:Int))=some (B9 (g r)):=qX4 (qL3 h)
theorem Hm{g:Nat->Option Int}(h:r < N):ixN (rlD N g).length (r:Int)=some r:=by
 rw[qA8];unfold ixN;simp[h]
theorem qF9{n:Nat}{g:Nat->Option Int}{c:Int}:(rlD n g).set i (.int c)=rlD n (Row.set g i c):=qac8 (o:=some c)
theorem qaz3(N:Nat):(List.replicate N [D.non]).flatten=rlD N (λ _=>none):=by
 unfold rlD
 induction N with
 | zero=>rfl
 | succ N a=>rw[List.replicate_succ',List.flatten_append,a,List.range_succ,zBe];rfl
theorem qQ5{n:Int}(a:0<=n)(h1:n<=64):Gk (.lst false [.non]) (.int n)=some (.lst false (rlD n.toNat λ _=>none)):=by
 show gd _ _=_;rw[<- qaz3];exact qk7 ⟨rfl,by show 1 * n.toNat<=1000000;lia,by lia,by lia⟩
theorem qk0{g:Nat->Option Int}(h:∀ i,i < N->g i=g' i):rlD N g=rlD N g':=by
 unfold rlD;apply List.map_congr_left;intro i a;rw[h i (zAn.mp a)]
theorem qao8{g:VTG}{n:Int}(h:f ds=some (.int n))(a:Go n=true)(k:Dk g t e (Dl 0 n.toNat) ds):qam2 (Iw (tbV (B7 f) A6)) g t e ds:=by
 show orF (f ds) _;rw[h];exact⟨a,k⟩
theorem qao9{g:VTG}{n:Int}(h:rdN i ds=some (.int n))(a:Go n=true)(k:Dk g t e (Dl 0 n.toNat) (ds.set i .unk)):qam2 (Iw (tbN i A6)) g t e ds:=by
 refine⟨by rw[h];rfl,?_⟩;exact qa1 h ⟨a,k⟩
theorem qQ4{z:Bool}:Ib true (.int k) (.lst z (ksD ks))=some (.bl (!decide (k∈ks))):=by
 show ((flats (ksD ks)).bind λ a=>some (D.bl (if true=true then !inV (.int k) a else inV (.int k) a)))=_;rw[qB4];show some (D.bl (!inV (.int k) (ks.map V.int)))=_;rw[qah6]
theorem qaK9{z:Bool}:Ib false (.int k) (.lst z (ksD ks))=some (.bl (decide (k∈ks))):=by
 show ((flats (ksD ks)).bind λ a=>some (D.bl (if false=true then !inV (.int k) a else inV (.int k) a)))=_;rw[qB4];show some (D.bl (inV (.int k) (ks.map V.int)))=_;rw[qah6]
theorem qT9(lo:Int)(n:Nat):(Dl lo n).length=n:=by unfold Dl;rw[zA7,zB7]
theorem qI1(e:f ds=some d)(hi:d.imm=true)(q:Q d ds):Bw f ds Q xe:=qa1 (a:=d) (k:=λ(d:D)=>d.imm=true/\Q d ds) e ⟨hi,q⟩
theorem qS9(h:f ds=some d)(hi:d.imm=true)(q:e.nx (ds.set i d)):Er (Bw f) (gNm i) e ds:=qI1 (Q:=λ d a=>gNm i d a e.nx) h hi q
theorem qy5(h:f ds=some d)(q:e.nx (ds.set i d)):Er (B7 f) (gNm i) e ds:=qr8 (Q:=λ d a=>gNm i d a e.nx) h q
theorem qau0{n:Nat}{K:Ds->Prop}(hi:ds[i]? = some (.lst false ys))(b:fb ds=some (.int k))(c:ixN ys.length k=some n)(q:K (ds.set i (.lst false (ys.set n d)))):Fi (λ _=>some (i,[])) fb d ds K:=by
 refine qa1 (a:=(i,([]:List Nat))) rfl ?_;refine qa1 (a:=ys) (by show (A4 ds i []).bind D.own=_;rw[qI2 hi];rfl) ?_;refine qa1 (a:=k) (by rw[b];rfl) ?_;refine qa1 c ?_;show K (Bc ds i [] (.lst false (ys.set n d)));rw[qF8 hi];exact q
theorem qI8{n:Nat}(b:f ds=some d)(c:d.imm=true)(hi:ds[i]? = some (.lst false ys))(g:fb ds=some (.int k))(h:ixN ys.length k=some n)(q:e.nx (ds.set i (.lst false (ys.set n d)))):Er (Bw f) (Fi (λ _=>some (i,[])) fb) e ds :=
 qI1 (Q:=λ d a=>Fi (λ _=>some (i,[])) fb d a e.nx) b c (qau0 hi g h q)
theorem qS7{n:Nat}(b:f ds=some d)(hi:ds[i]? = some (.lst false ys))(c:fb ds=some (.int k))(g:ixN ys.length k=some n)(q:e.nx (ds.set i (.lst false (ys.set n d)))):Er (B7 f) (Fi (λ _=>some (i,[])) fb) e ds :=
 qr8 (Q:=λ d a=>Fi (λ _=>some (i,[])) fb d a e.nx) b (qau0 hi c g q)
theorem qk9{K:Ds->List Pl->Ds->Prop}(c:f ds=some y)(hi:y.imm=true)(h:tr ds (λ xs ps a=>K (y::xs) (.no::ps) a) xe):tbV (Bw f) tr ds K xe:=qI1 (Q:=λ y b=>tr b (λ xs ps a=>K (y::xs) (.no::ps) a) xe) c hi h
theorem qak2(hi:ds[i]? = some (.lst false ys))(b:f ds=some d)(c:ys.length < big)(q:Q .non (ds.set i (.lst false (ys++[d])))):Ez Gc i (tbV (B7 f) A6) ds Q xe:=by
 have e:(rdN i ds).bind D.own=some ys:=by rw[qh1 hi rfl];rfl
 refine⟨by rw[e];rfl,qc4 b ?_⟩;refine qa1 (k:=λ ys=>orF (Gc ys [d]) λ z=>Q z.2 (ds.set i (.lst false z.1))) e ?_;exact qa1 (a:=(ys++[d],D.non)) (if_pos c) q
theorem qaN5(hi:ds[i]? = some (.lst false ys))(b:ds[j]? = some d)(c:d.known=true)(f:i≠j)(g:ys.length < big)(q:Q .non ((ds.set j .unk).set i (.lst false (ys++[d])))):Ez Gc i (tbN j A6) ds Q xe:=by
 have e:(rdN i ds).bind D.own=some ys:=by rw[qh1 hi rfl];rfl
 have e2:(rdN i (ds.set j .unk)).bind D.own=some ys:=by rw[qh1 (d:=.lst false ys) (by rw[zBc (Ne.symm f)];exact hi) rfl];rfl
 refine⟨by rw[e];rfl,qb6 (qh1 b c) ?_⟩;refine qa1 (k:=λ d=>orF ((rdN i (ds.set j .unk)).bind D.own) λ ys=>orF (Gc ys [d]) λ z=>Q z.2 ((ds.set j .unk).set i (.lst false z.1))) (qh1 b c) ?_;refine qa1 (k:=λ ys=>orF (Gc ys [d]) λ z=>Q z.2 ((ds.set j .unk).set i (.lst false z.1))) e2 ?_;exact qa1 (a:=(ys++[d],D.non)) (if_pos g) q
theorem qas9{g:Ds->Ds->Option (Ds×D)}{p:List Nat}{d0:D}(h1:pf ds=some (i,p))(h2:(A4 ds i p).bind D.own=some ys)(a:ds[i]? = some d0)(h:tr (ds.set i .unk) (λ xs _ ds1=>orF (g ys xs) λ z=>Q z.2 (Bc (ds1.set i d0) i p (.lst false z.1))) xe):Fh g pf tr ds Q xe:=by
 unfold Fh;rw[h1];show orF ((A4 ds i p).bind D.own) _;rw[h2];show orF ds[i]? _;rw[a];exact h
theorem qaV7{f:Int->Int->Int}{b:FV}{x y:Int}(hi:ds[i]? = some (.lst false ys))(c:fb ds=some (.int k))(d:0<=k)(g:ys[k.toNat]? = some (.int x))(h:b ds=some (.int y))(q:e.nx (ds.set i (.lst false (ys.set k.toNat (.int (f x y)))))):sAugV f (λ _=>some (i,[])) fb b e ds:=by
 refine qa1 (a:=(i,([]:List Nat))) rfl ?_;refine qa1 (a:=ys) (by show (A4 ds i []).bind D.own=_;rw[qI2 hi];rfl) ?_;refine qa1 (a:=k) (by rw[c];rfl) ⟨d,?_⟩;refine qa1 (a:=x) (by rw[g];rfl) ?_;refine qa1 (a:=y) (by rw[h];rfl) ?_;show e.nx (Bc ds i [] _);rw[qF8 hi];exact q
theorem E7(b:Bool)(h:fa ds=some (.bl b))(h1:b=true->tb ds Q xe)(h2:b=false->Q (.bl false) ds):Ih (B7 fa) tb ds Q xe :=
 qr8 (xe:=xe) (Q:=λ x ds=>orF x.asB λ k=>if k=true then tb ds Q xe else Q (.bl false) ds) h (ite_b h1 h2)
theorem qx4{K:Ds->Prop}(h:K (ds.set i d)):gNm i d ds K:=h
theorem qb4{K:Ds->List Pl->Ds->Prop}(h:K [] [] ds):A6 ds K xe:=h
theorem qj1(h:te ds (λ _ a=>e.nx a) e.xe):sExpr te e ds:=h
theorem qR0{K:Ds->Prop}(h:K ((ds.set i x).set j y)):gTupV 2 (qaB9 (gNm i) (qaB9 (gNm j) gNilV)) (.tup [x,y]) ds K:=⟨rfl,h⟩
theorem qav3{Q:Bool->Ds->Prop}(h:Q true ds):qYes ds Q xe:=h
theorem qU1:ksD S++[.int k]=ksD (S++[k]):=by unfold ksD;rw[zBe];rfl
theorem qh6{K:Ds->List Pl->Ds->Prop}(h:ta ds (λ x ds1=>tr ds1 (λ xs ps a=>K (x::xs) (.no::ps) a) xe) xe):tbV ta tr ds K xe:=h
theorem qaD9(a:fa ds=some x)(b:fb ds=some y)(c:x.imm=true)(d:y.imm=true):A8 gTup (Ay fa (Ay fb λ _=>some [])) ds=some (.tup [x,y]):=by
 unfold A8 Ay;rw[a,b];show gd (D.imms [x,y]=true/\[x,y].length<=big) (.tup [x,y])=_;refine qk7 ⟨?_,by show 2<=1000000;decide⟩;show (x.imm&&(y.imm&&true))=true;rw[c,d];rfl
theorem qW0:En ys none (some (r:Int))=ys.take r:=by
 unfold En;have a:HT.sIx ys.length ys.length (some ((r:Nat):Int))=min r ys.length:=HT.qar6 _ _ r;rw[a,HT.qad4,List.drop_zero,Nat.sub_zero];by_cases h:r<=ys.length
 . rw[Nat.min_eq_left h]
 rw[Nat.min_eq_right (by lia),List.take_length,zAs (by lia)]
theorem qaU7(h:y∈enD ys):∃ i v,y=.tup [.int (i:Nat),v]/\ys[i]? = some v:=by
 obtain⟨⟨v,i⟩,a,rfl⟩:=zBd.mp h;exact⟨i,v,rfl,List.mem_zipIdx_iff_getElem?.mp a⟩
theorem qam4{g:Nat->Option Int}(h:d∈rlD N g):d=.non∨∃ k,d=.int k:=by
 unfold rlD at h;obtain⟨i,_,rfl⟩:=zBd.mp h;cases g i with
 | none=>exact .inl rfl
 | some k=>exact .inr ⟨k,rfl⟩
theorem qY8{g:D->D->Option D}{Q:Bool->Ds->Prop}(h:ta ds (λ x ds1=>orF ((fb ds1).bind (g x)) λ d=>orF d.asB λ b=>Q b ds1) xe):ttE (t2v g ta fb) ds Q xe:=h
theorem qh5(h:tr ds (λ xs ps ds1=>s (xs++[]) (λ d ys=>orF (Am ps ys ds1) λ a=>Q d a) (λ x ys=>orF (Am ps ys ds1) λ a=>xe x a)) xe):qn1 s [] tr ds Q xe:=h
theorem Jb:∀(l:Ds),(∀ d∈l,d=.non∨∃ k,d=.int k)->Eb (eqN 20) l l=some true
 | [],_=>rfl
 | d::l,h=>by
   have c:eqN 20 d d=some true:=by
     rcases h d zAb with rfl | ⟨k,rfl⟩
     . rfl
     show some (k == k)=_;rw[zBk]
   show ((eqN 20 d d).bind λ a=>(Eb (eqN 20) l l).bind λ b=>some (a&&b))=_;rw[c,Jb l λ x e=>h x (zA6 _ e)];rfl
theorem qaU0{z:Bool}{g:Nat->Option Int}(h:∀ i,i < N->g i=g' i):gEq (.lst z (rlD N g)) (.lst z' (rlD N g'))=some (.bl true):=by
 rw[qk0 h];show (Eb (eqN 20) (rlD N g') (rlD N g')).map D.bl=_;rw[Jb _ λ _=>qam4];rfl
theorem t2_of{g:D->D->Option D}(c:fa ds=some x)(hi:x.imm=true)(h:tb ds (λ y a=>orF (g x y) λ d=>Q d a) xe):t2 g (Bw fa) tb ds Q xe:=qI1 (Q:=λ x b=>tb b (λ y a=>orF (g x y) λ d=>Q d a) xe) c hi h
theorem qal5{g:D->D->Option D}(c:fa ds=some x)(h:tb ds (λ y a=>orF (g x y) λ d=>Q d a) xe):t2 g (B7 fa) tb ds Q xe:=qr8 (xe:=xe) (Q:=λ x b=>tb b (λ y a=>orF (g x y) λ d=>Q d a) xe) c h
theorem qF2{g:D->D->Option D}(h:ta ds (λ x ds1=>orF ((fb ds1).bind (g x)) λ d=>Q d ds1) xe):t2v g ta fb ds Q xe:=h
theorem qZ8(h:tr ds (λ xs _ ds1=>xs.length<=big/\Q (.lst false xs) ds1) xe):tLstV tr ds Q xe:=h
theorem qg2(h:te ds (λ d a=>e.nx (a.set i d)) e.xe):Er te (gNm i) e ds:=h
theorem qE2{C:Addr}(h:tr ds (λ xs ps ds1=>s (.ins false C []::(xs++[])) (λ d ys=>d.isN=some true/\orF ys.head? λ self=>orF (Am ps ys.tail ds1) λ a=>Q self a) (λ x ys=>orF (Am ps ys.tail ds1) λ a=>xe x a)) xe):qN8 C s [] tr ds Q xe:=h
theorem qaJ7{z:Bool}(h:rdN i ds=some (.lst z (ksD S)):=by rfl):A8 (fx1 G3) (Ay (rdN i) λ _=>some []) ds=some (.lst false (ksD S)):=by
 unfold A8 Ay;rw[h];exact qk7 (qh9 S)
theorem Fl(h:te ds (λ d ds1=>Q d.fz ds1) xe):tFzV te ds Q xe:=h
def okN:Nat->D->Bool
 | n+1,.lst _ xs=>xs.all (okN n)
 | n+1,.tup xs=>xs.all (okN n)
 | _,x=>x.d0||x.flat.isSome
theorem qs8{f:D->D->Option Bool}:∀{xs:List D},(∀ x∈xs,f x x=some true)->Eb f xs xs=some true
 | [],_=>rfl
 | x::xs,h=>by
   show ((f x x).bind λ a=>(Eb f xs xs).bind λ b=>some (a&&b))=_;rw[h x zAb,qs8 λ y c=>h y (zA6 _ c)];rfl
theorem qR4(h:(x.d0||x.flat.isSome)=true):eqZ x x=some true:=by
 unfold eqZ;split
 . rfl
 rename_i hn
 have a:x.d0=false:=by
   cases e:x.d0 with
   | false=>rfl
   | true=>rw[e] at hn;exact absurd rfl hn
 rw[a,Bool.false_or] at h;cases x with
 | non=>rfl
 | bl b=>show some (eqV (.bl b) (.bl b))=_;rw[qB5 rfl]
 | int i=>show some (eqV (.int i) (.int i))=_;rw[qB5 rfl]
 | str i=>show some (eqV (.str i) (.str i))=_;rw[qB5 rfl]
 | _=>cases h
theorem qI4:∀{n:Nat}{x:D},okN n x=true->eqN n x x=some true
 | 0,x,h=>by
   rw[qR5];refine qR4 ?_;cases x<;>exact h
 | n+1,x,h=>by
   cases x with
   | lst z b=>exact qs8 λ y a=>qI4 (zBg.mp h y a)
   | tup b=>exact qs8 λ y a=>qI4 (zBg.mp h y a)
   | _=>exact qR4 h
theorem qaB7(h:okN 21 x=true):gNe x x=some (.bl false):=by
 have e:eqT x x=some true:=by
   cases x with
   | lst z b=>exact qs8 λ y a=>qI4 (zBg.mp h y a)
   | tup b=>exact qs8 λ y a=>qI4 (zBg.mp h y a)
   | _=>exact qR4 h
 unfold gNe;rw[e];rfl
theorem qaA6(h:(ksD ks)[i]? = some y):∃ z,ks[i]? = some z/\y=.int z:=by
 unfold ksD at h;rw[zB2] at h;cases e:ks[i]? with
 | none=>rw[e] at h;cases h
 | some z=>rw[e] at h;exact⟨z,rfl,(Option.some.inj h).symm⟩
theorem qr0(h:ks[i]? = some k):ks.take (i+1)=ks.take i++[k]:=by rw[List.take_add_one,h];rfl
theorem qA3(b:ks.Nodup)(h:ks[i]? = some k):¬ k∈ks.take i:=λ z=>by
 obtain⟨j,a⟩:=List.getElem?_of_mem z;rw[List.getElem?_take] at a;split at a
 . rename_i hlt
   obtain⟨d,c⟩:=zA2.mp h;obtain⟨e,e2⟩:=zA2.mp a
   have:=(List.getElem_inj b).mp (e2.trans c.symm)
   lia
 cases a
theorem _root_.Row.Kept.free{n:Nat}{wr:Bool}{g:Nat->Option Int}(KP:Kept n wr hm g S)(a:(S++[k]).Sublist ks)(b:∀ q,¬ Crowd n wr hm ks q):∃ e,Hf n wr hm g k e:=by
 by_cases h:∃ e,Hf n wr hm g k e
 . exact h
 obtain⟨q,c⟩:=KP.crowd λ e z=>h ⟨e,z⟩
 exact absurd (c.mono a) (b q)
theorem qai3:∀ ps:Pr,D.fzs (prD ps)=prD ps
 | []=>rfl
 | p::r=>congrArg (D.tup [.int p.1,.int p.2]::·) (qai3 r)
theorem qaM0:∀ ps:Pr,D.fzk (kvD ps)=kvD ps
 | []=>rfl
 | p::r=>congrArg ((Sum.inl p.1,D.int p.2)::·) (qaM0 r)
theorem qU9{z:Bool}{C:Addr}{n:Int}{wr:Bool}{ps:Pr}:(Aa z C n wr ps).fz=Aa true C n wr ps:=by
 show D.ins true C [("rooms",.int n),("wraps",.bl wr),("homes",.lst true (D.fzs (prD ps))),("home_numbers",.dct true (D.fzk (kvD ps)))]=_;rw[qai3,qaM0];rfl
theorem qaW2{z:Bool}{A B:List Int}(h:A.length+B.length<=1000):Hh (.lst z (ksD A)) (.lst z' (ksD B))=some (.lst false (ksD (A++B))):=by
 show gd _ (D.lst false (ksD A++ksD B))=_;rw[show ksD (A++B)=ksD A++ksD B from zBe];exact qk7 ⟨qh9 A,qh9 B,by rw[qh7,qh7];unfold big;lia⟩
theorem qaF7{g:D->D->Option D}{Q:Bool->Ds->Prop}(h:ta ds (λ x ds1=>tb ds1 (λ y a=>orF (g x y) λ d=>orF d.asB λ b=>Q b a) xe) xe):ttE (t2 g ta tb) ds Q xe:=h
theorem co_to{gc:Ds->Option D}(h:tr ds (λ xs _ ds1=>orF (gc xs) λ d=>Q d ds1) xe):tcO gc (Iw tr) ds Q xe:=h
theorem qaB2{w:VTS}(h:qc ds (λ b a=>if b=true then t { e with nx:=w e } a else w e a) e.xe):Gb (sIf qc t Ga) w e ds:=h
theorem qF0{l m n:Int}(h1:l<=n)(h2:n<=m):(D.int n).within l m=true:=by
 show (decide (l<=n)&&decide (n<=m))=true;rw[zAj h1,zAj h2];rfl
theorem qm6{p:List Nat}{w:V}{ps:List Pl}(h:A4 ds i p=some (.hole w)):Am (.pl i p w::ps) (y::ys) ds=Am ps ys (Bc ds i p y):=by
 show (match A4 ds i p with | some (.hole a)=>if a=w then Am ps ys (Bc ds i p y) else none | _=>none)=_;rw[h];exact if_pos rfl
theorem qH4{C:Addr}(a:rdN i ds=some p)(hm:p.isM C m=true)(r:R [p] d)(b:Am [.sl i] [p] (ds.set i .unk)=some ds)(q:Q d ds):qw4 C m (Ax R) [] i A6 ds Q xe :=
 qx1 a hm (qb4 (qa1 a (qq3 r (qa1 b q))))
theorem ql9{C:Addr}{p:List Nat}(h1:pf ds=some (i,p))(h2:A4 ds i p=some d)(hm:d.isM C m=true)(h:∀ w,tr (Bc ds i p (.hole w)) (λ xs ps ds1=>s (d::(xs++[])) (λ r ys=>orF (Am (Pl.pl i p w::ps) ys ds1) λ b=>Q r b) (λ x ys=>orF (Am (Pl.pl i p w::ps) ys ds1) λ b=>xe x b)) xe):qN7 C m s [] pf tr ds Q xe :=
 qa1 (a:=(i,p)) h1 (qa1 (a:=d) h2 ⟨hm,h⟩)
theorem qaD8(h:tr ds (λ xs _ ds1=>xs.length<=big/\Q (.tup xs) ds1) xe):tTupV tr ds Q xe:=h
theorem qal6{g:D->D->Option D}(h:ta ds (λ x ds1=>tb ds1 (λ y a=>orF (g x y) λ d=>Q d a) xe) xe):t2 g ta tb ds Q xe:=h
def Aw(n:Int)(wr:Bool)(ps:Pr):D:=.tup [.int n,.bl wr,.lst true (prD ps)]
theorem qaN6(hi:ds[i]? = some (.lst false ys))(b:f ds=some d)(c:d.imm=true)(g:ys.length < big)(q:Q .non (ds.set i (.lst false (ys++[d])))):Ez Gc i (tbV (Bw f) A6) ds Q xe:=by
 have e:(rdN i ds).bind D.own=some ys:=by rw[qh1 hi rfl];rfl
 refine⟨by rw[e];rfl,qk9 b c ?_⟩;refine qa1 (k:=λ ys=>orF (Gc ys [d]) λ z=>Q z.2 (ds.set i (.lst false z.1))) e ?_;exact qa1 (a:=(ys++[d],D.non)) (if_pos g) q
local macro_rules | `(tactic| walk_at "s")=>`(tactic| exact⟨rfl,rfl,rfl,by decide +kernel,rfl,by decide +kernel,by decide +kernel⟩)
noncomputable def top(i:Nat):Stmt:=PySem.Challenge.pw_homeward_k62_whole_as_built_anew.main.body.getD i (.Pass ⟨0,0,0,0⟩)
abbrev qar5:Stmt:=top 0
abbrev qz0:Stmt:=top 12
abbrev qf7:Stmt:=top 13
abbrev qu7:Stmt:=top 14
abbrev qp3:Stmt:=top 15
abbrev qg8:Stmt:=top 16
abbrev qj5:Stmt:=top 17
abbrev qv1:Stmt:=qe8 (top 18) 0
abbrev qf8:Stmt:=qe8 (top 18) 1
abbrev qj7:Stmt:=qe8 (top 18) 2
abbrev qv2:Stmt:=qe8 (top 18) 4
abbrev qz6:Stmt:=qe8 (top 18) 5
abbrev qf9:Stmt:=qe8 (top 18) 6
abbrev qp2:Stmt:=top 20
abbrev qd8:Stmt:=top 21
abbrev qy9:Stmt:=top 22
abbrev qu6:Stmt:=top 23
abbrev qz1:Stmt:=top 24
abbrev qv0:Stmt:=top 26
abbrev qj6:Stmt:=top 27
abbrev qj4:Stmt:=top 28
abbrev qz2:Stmt:=top 29
abbrev qu8:Stmt:=top 30
abbrev ql5:Stmt:=top 32
abbrev qi1:Stmt:=top 33
abbrev qu9:Stmt:=top 34
abbrev qz5:Stmt:=qe8 (top 35) 0
abbrev qg9:Stmt:=qe8 (top 35) 1
abbrev qi2:Stmt:=qe8 (top 35) 2
abbrev qz4:Stmt:=qe8 (top 35) 3
abbrev ql6:Stmt:=qe8 (top 35) 4
abbrev qG3:Stmt:=qe8 (top 35) 5
abbrev qz3:Stmt:=qe8 (top 35) 6
abbrev ql4:Stmt:=top 36
abbrev qu5:Stmt:=top 39
abbrev qj9:Stmt:=qe8 (top 40) 0
abbrev qd9:Stmt:=qe8 (top 40) 1
abbrev ql8:Stmt:=qe8 (top 40) 2
abbrev qj8:Stmt:=qe8 (top 40) 3
abbrev qe3:Stmt:=qe8 (top 40) 4
abbrev qg0:Stmt:=qe8 (top 40) 5
abbrev qaw8:Stmt:=top 42
abbrev qad1:Stmt:=top 43
abbrev qad3:Stmt:=top 44
abbrev qz7:Stmt:=top 45
abbrev qG4:Stmt:=top 46
abbrev qad2:Stmt:=top 47
abbrev ql7:Stmt:=top 48
abbrev qG5:Stmt:=top 49
abbrev Gh:Stmt:=top 50
structure Adr where
 f0:Addr
 d0:FuncData
 f1:Addr
 d1:FuncData
 f2:Addr
 d2:FuncData
 f3:Addr
 d3:FuncData
 f4:Addr
 d4:FuncData
 f5:Addr
 d5:FuncData
 f6:Addr
 d6:FuncData
 f7:Addr
 d7:FuncData
 f8:Addr
 d8:FuncData
 f9:Addr
 d9:FuncData
 f10:Addr
 d10:FuncData
 f11:Addr
 d11:FuncData
 f12:Addr
 d12:FuncData
 f13:Addr
 d13:FuncData
 f14:Addr
 d14:FuncData
 f15:Addr
 d15:FuncData
 f16:Addr
 d16:FuncData
 f17:Addr
 d17:FuncData
 f18:Addr
 d18:FuncData
 f19:Addr
 d19:FuncData
 f20:Addr
 d20:FuncData
 f21:Addr
 d21:FuncData
 f22:Addr
 d22:FuncData
 f23:Addr
 d23:FuncData
 f24:Addr
 d24:FuncData
 f25:Addr
 d25:FuncData
 f26:Addr
 d26:FuncData
 f27:Addr
 d27:FuncData
 f28:Addr
 d28:FuncData
 f29:Addr
 d29:FuncData
 f30:Addr
 d30:FuncData
 f31:Addr
 d31:FuncData
 f32:Addr
 d32:FuncData
 f33:Addr
 d33:FuncData
 f34:Addr
 d34:FuncData
 f35:Addr
 d35:FuncData
 f36:Addr
 d36:FuncData
 f37:Addr
 d37:FuncData
 f38:Addr
 d38:FuncData
 f39:Addr
 d39:FuncData
 f40:Addr
 d40:FuncData
 f41:Addr
 d41:FuncData
 f42:Addr
 d42:FuncData
 f43:Addr
 d43:FuncData
 f44:Addr
 d44:FuncData
 f45:Addr
 d45:FuncData
 f46:Addr
 d46:FuncData
 f47:Addr
 d47:FuncData
 f48:Addr
 d48:FuncData
 f49:Addr
 d49:FuncData
 Ch:Tok
 Ck:Tok
 Cj:Tok
 Ci:Tok
 C3:Addr
 C5:Addr
 C4:Addr
structure Txt(K:PySem.W.Frag)(mg:Str->Option Value)(a:Adr):Prop where
 d0:Df K mg "_wall" "_wall" qar5 a.f0 a.d0 ["k"]
 d1:Df K mg "is_whole" "is_whole" qz0 a.f1 a.d1 ["thing"]
 d2:Df K mg "is_whole_within" "is_whole_within" qf7 a.f2 a.d2 ["thing", "least", "most"]
 d3:Df K mg "is_number" "is_number" qu7 a.f3 a.d3 ["thing"]
 d4:Df K mg "are_parted" "are_parted" qp3 a.f4 a.d4 ["numbers"]
 d5:Df K mg "is_number_pair" "is_number_pair" qg8 a.f5 a.d5 ["thing"]
 d6:Df K mg "is_home_list" "is_home_list" qj5 a.f6 a.d6 ["thing"]
 d7:Md K a.C3 "__init__" "Plan.__init__" qv1 a.f7 a.d7 ["self", "rooms", "wraps", "homes"]
 d8:Md K a.C3 "homes_told" "Plan.homes_told" qf8 a.f8 a.d8 ["self"]
 d9:Md K a.C3 "is_room" "Plan.is_room" qj7 a.f9 a.d9 ["self", "thing"]
 d10:Md K a.C3 "home" "Plan.home" qv2 a.f10 a.d10 ["self", "key"]
 d11:Md K a.C3 "far" "Plan.far" qz6 a.f11 a.d11 ["self", "key", "room"]
 d12:Md K a.C3 "goes_ahead" "Plan.goes_ahead" qf9 a.f12 a.d12 ["self", "room", "one", "other"]
 d13:Df K mg "room_ahead" "room_ahead" qp2 a.f13 a.d13 ["plan", "room"]
 d14:Df K mg "word_by_room_ahead" "word_by_room_ahead" qd8 a.f14 a.d14 ["plan", "rooms", "room"]
 d15:Df K mg "word_due" "word_due" qy9 a.f15 a.d15 ["plan", "rooms", "room"]
 d16:Df K mg "is_turned" "is_turned" qu6 a.f16 a.d16 ["plan", "rooms"]
 d17:Df K mg "fault_of" "fault_of" qz1 a.f17 a.d17 ["plan", "rooms"]
 d18:Df K mg "are_crowd" "are_crowd" qv0 a.f18 a.d18 ["plan", "keys", "room"]
 d19:Df K mg "crowded_room" "crowded_room" qj6 a.f19 a.d19 ["plan", "keys"]
 d20:Df K mg "refuse_crowd" "refuse_crowd" qj4 a.f20 a.d20 ["plan", "keys"]
 d21:Df K mg "bring_in" "bring_in" qz2 a.f21 a.d21 ["plan", "rooms", "key"]
 d22:Df K mg "house_all" "house_all" qu8 a.f22 a.d22 ["plan", "keys"]
 d23:Df K mg "room_behind" "room_behind" ql5 a.f23 a.d23 ["plan", "room"]
 d24:Df K mg "is_drawn_from" "is_drawn_from" qi1 a.f24 a.d24 ["plan", "rooms", "room"]
 d25:Df K mg "draw_back" "draw_back" qu9 a.f25 a.d25 ["plan", "rooms", "room"]
 d26:MdN K a.C5 "__init__" "Row.__init__" qz5 a.f26 a.d26 ["self", "plan", "rooms"]
 d27:Md K a.C5 "rooms_held" "Row.rooms_held" qg9 a.f27 a.d27 ["self"]
 d28:Md K a.C5 "keys_held" "Row.keys_held" qi2 a.f28 a.d28 ["self"]
 d29:Md K a.C5 "many" "Row.many" qz4 a.f29 a.d29 ["self"]
 d30:Md K a.C5 "room_of" "Row.room_of" ql6 a.f30 a.d30 ["self", "key"]
 d31:Md K a.C5 "put" "Row.put" qG3 a.f31 a.d31 ["self", "key"]
 d32:Md K a.C5 "take" "Row.take" qz3 a.f32 a.d32 ["self", "key"]
 d33:Df K mg "row_of_keys" "row_of_keys" ql4 a.f33 a.d33 ["plan", "keys"]
 d34:Df K mg "row_sized" "row_sized" qu5 a.f34 a.d34 ["row", "rooms"]
 d35:Md K a.C4 "__init__" "Growing.__init__" qj9 a.f35 a.d35 ["self", "homes"]
 d36:Md K a.C4 "house_anew" "Growing.house_anew" qd9 a.f36 a.d36 ["self", "rooms"]
 d37:Md K a.C4 "put" "Growing.put" ql8 a.f37 a.d37 ["self", "key"]
 d38:Md K a.C4 "take" "Growing.take" qj8 a.f38 a.d38 ["self", "key"]
 d39:Md K a.C4 "rooms_now" "Growing.rooms_now" qe3 a.f39 a.d39 ["self"]
 d40:Md K a.C4 "row_now" "Growing.row_now" qg0 a.f40 a.d40 ["self"]
 d41:Df K mg "_law_bag" "_law_bag" qaw8 a.f41 a.d41 ["_law_script"]
 d42:Df K mg "_law_take" "_law_take" qad1 a.f42 a.d42 ["_law_bag_here", "_law_many"]
 d43:Df K mg "_law_home" "_law_home" qad3 a.f43 a.d43 ["_law_plan", "_law_key"]
 d44:Df K mg "_law_passing" "_law_passing" qz7 a.f44 a.d44 ["_law_plan", "_law_keys_here"]
 d45:Df K mg "_law_housed" "_law_housed" qG4 a.f45 a.d45 ["_law_plan", "_law_keys_here"]
 d46:Df K mg "_law_keys" "_law_keys" qad2 a.f46 a.d46 ["_law_bag_here", "_law_many"]
 d47:Df K mg "_law_told_homes" "_law_told_homes" ql7 a.f47 a.d47 ["_law_bag_here", "_law_keys_here"]
 d48:Df K mg "_law_filled" "_law_filled" qG5 a.f48 a.d48 ["_law_bag_here", "_law_homes", "_law_keys_here", "_law_goal", "_law_full"]
 d49:Df K mg "law" "law" Gh a.f49 a.d49 ["_law_script"]
 Cu:mg "MOST_NUMBER" = some (.int 1000000000000000000 a.Ch)
 Cq:mg "MOST_ROOMS" = some (.int 64 a.Ck)
 Cy:mg "MOST_HOMES" = some (.int 64 a.Cj)
 Cs:mg "LEAST_ROOMS" = some (.int 4 a.Ci)
 Db:mg "abs" = none
 D8:mg "all" = none
 D4:mg "bool" = none
 D5:mg "dict" = none
 Cz:mg "enumerate" = none
 D9:mg "int" = none
 Cb:mg "isinstance" = none
 Co:mg "len" = none
 Cp:mg "list" = none
 D0:mg "max" = none
 Cr:mg "range" = none
 Dc:mg "set" = none
 D3:mg "sorted" = none
 D6:mg "tuple" = none
 C7:Cl K mg "Plan" a.C3
 Cw:Mk K a.C3 a.f7
 C9:qe9 K a.C3 "rooms"
 Ce:qe9 K a.C3 "wraps"
 Cv:qe9 K a.C3 "homes"
 Cf:qe9 K a.C3 "home_numbers"
 D7:IsO K a.C3
 C8:Cl K mg "Row" a.C5
 D2:Mk K a.C5 a.f26
 Cg:qe9 K a.C5 "plan"
 Cd:qe9 K a.C5 "held"
 Ct:qe9 K a.C5 "done"
 Da:IsO K a.C5
 C6:Cl K mg "Growing" a.C4
 D1:Mk K a.C4 a.f35
 Ca:qe9 K a.C4 "row"
 Cc:qe9 K a.C4 "housed_anew"
section
variable{P:Program}{w:World}{K:PySem.W.Frag}{mg:Str->Option Value}{base:Heap}{a:Adr}
theorem qY5:qa8 ["thing"] ["thing"] (qa3 qz0):=by walk_at "s"
def qX7:VSp:=Br (fx1 λ x=>x.kind.map λ _=>.bl x.whole)
theorem qZ1(T:Txt K mg a):VFn P w K mg base 1 a.f1 a.d1 ["thing"] qX7:=by
 refine VFn.mk' T.d1.F qY5 (wOf [true]) qy0 (λ _ _ _=>qag2) (λ _ _ _=>imm1) (λ b A outer f H E g i=>⟨_,(Ag (Aq (qa5 (vand (vbi qq8 qR7.ops T.Cb (qa2 (vnm 0) (qa2 (vty "int" T.D9) qa7 rfl) rfl)) (vone (vnot (vbi qq8 qR7.ops T.Cb (qa2 (vnm 0) (qa2 (vty "bool" T.D4) qa7 rfl) rfl)))))))),λ j Q k h=>?_⟩);obtain⟨x,d,rfl,e,q⟩:=I9 h;obtain⟨t,c,rfl⟩:=zAd.mp e;cases x<;>first | exact q | cases c
theorem qt9:qa8 ["thing", "least", "most"] ["thing", "least", "most"] (qa3 qf7):=by walk_at "s"
def qt4:VSp:=Br (fx3 λ x l m=>x.kind.bind λ _=>l.asI.bind λ i=>m.asI.map λ j=>.bl (x.within i j))
theorem qd3(T:Txt K mg a):VFn P w K mg base 2 a.f2 a.d2 ["thing", "least", "most"] qt4:=by
 refine VFn.mk' T.d2.F qt9 (wOf [true,true,true]) qy0 (λ _ _ _=>qaK4) (λ _ _ _=>imm3) (λ b A outer p H E r c=>⟨_,(Ag (Aq (F8 (Aj T.d1 (qZ1 T) qa0 (rm c) (vaN 0 Ad)) (Ii (qa5 (vch op_le os_le op_le os_le (vnm 1) (vnm 0) (vnm 2))))))),λ s Q u h=>?_⟩);obtain⟨x,l,m,d,rfl,e,q⟩:=pure3 h;obtain⟨t,f,e⟩:=zA1.mp e;obtain⟨i,g,e⟩:=zA1.mp e;obtain⟨j,k,rfl⟩:=zAd.mp e;cases l<;>cases g
 cases m<;>cases k
 cases x with
 | int n =>
   refine⟨rfl,?_⟩;show orF (f3 gLe gLe (rdN 1) (rdN 0) (rdN 2) [.int n,.int i,.int j]) _;have o:f3 gLe gLe (rdN 1) (rdN 0) (rdN 2) [.int n,.int i,.int j]=some (.bl (decide (i<=n)&&decide (n<=j))):=by
     show (if decide (i<=n)=true then some (D.bl (decide (n<=j))) else some (.bl false))=_;cases decide (i<=n)<;>rfl
   rw[o];exact q
 | _=>first | exact⟨rfl,q⟩ | cases f
theorem qJ4:qa8 ["numbers"] ["numbers"] (qa3 qp3):=by walk_at "s"
def qJ0:VSp:=Ax λ ds d=>∃ z ks,ds=[.lst z (ksD ks)]/\ks.length<=1000/\d=.bl (decide ks.Nodup)
theorem qK2(T:Txt K mg a):VFn P w K mg base 1 a.f4 a.d4 ["numbers"] qJ0:=by
 refine VFn.mk2 T.d4.F qJ4 (wOf [true]) qb2 (λ f Q g h=>by obtain⟨d,⟨z,b,e,_⟩,_⟩:=h;rw[e];exact⟨rfl,rfl⟩) (λ i A outer n H E o j=>⟨_,(Ag (Aq (qa5 (v2 (Ba (qA1 j.u64) (qb1 _)) Dq (vlenS T.Co T.Dc (vnm 0)) (vbi qt1 qt0.ops T.Co (qa2 (vnm 0) qa7 rfl)))))),λ f Q g h=>?_⟩);obtain⟨d,⟨z,b,rfl,k,rfl⟩,q⟩:=h;have l:f1 G8 (rdN 0) [.lst z (ksD b)]=some (.int (qm2 b)):=by
   show ((intsD (ksD b)).bind λ c=>gd (c.length<=1000) (.int (qm2 c)))=_;rw[qah4];exact qk7 k
 have e2:f2 gEq (f1 G8 (rdN 0)) (A8 (fx1 F5) (Ay (rdN 0) λ x=>some [])) [.lst z (ksD b)]=some (.bl (decide b.Nodup)):=by
   show ((f1 G8 (rdN 0) [.lst z (ksD b)]).bind λ x=>gEq x (.int (ksD b).length))=_;rw[l,qh7];show some (D.bl ((qm2 b:Int) == (b.length:Int)))=_
   have:=qR6 b
   by_cases h:b.Nodup
   . rw[zAj h,this.mpr h,zBk]
   have m:¬ ((qm2 b:Int)=(b.length:Int)):=λ z=>h (this.mp (by exact_mod_cast z))
   rw[zBa h,beq_false_of_ne m]
 exact qa1 e2 q
theorem qP1:qa8 ["thing"] ["thing"] (qa3 qu7):=by walk_at "s"
def qo7:VSp:=Br (fx1 λ x=>x.kind.map λ _=>.bl x.num)
theorem qc3(T:Txt K mg a):VFn P w K mg base 3 a.f3 a.d3 ["thing"] qo7:=by
 refine VFn.mk' T.d3.F qP1 (wOf [true]) qy0 (λ _ _ _=>qag2) (λ _ _ _=>imm1) (λ b A outer g H E i c=>⟨_,(Ag (Aq (Aj T.d2 (qd3 T) qa0 (rm c) (vaN 0 (vaV (qa5 Af) (vaV (qa5 (vgi T.Cu)) Ad)))))),λ j Q k h=>?_⟩);obtain⟨x,d,rfl,e,q⟩:=I9 h;obtain⟨t,f,rfl⟩:=zAd.mp e;cases x<;>first | exact⟨rfl,q⟩ | cases f
theorem qw7:qa8 ["thing"] ["thing"] (qa3 qg8):=by walk_at "s"
def _root_.LV.D.pairB:D->Bool
 | .tup [x,y]=>x.num&&y.num
 | _=>false
def _root_.LV.D.kinded:D->Bool
 | .tup ds=>(ds.all λ d=>d.kind.isSome&&d.imm)&&decide (ds.length<=1000)
 | _=>true
def qw5:VSp:=Br (fx1 λ x=>if x.kinded=true then x.kind.map λ _=>.bl x.pairB else none)
theorem qx0(T:Txt K mg a):VFn P w K mg base 4 a.f5 a.d5 ["thing"] qw5:=by
 refine VFn.mk' T.d5.F qw7 (wOf [true]) qy0 (λ _ _ _=>qag2) (λ _ _ _=>imm1) (λ m A outer v H E B f=>⟨_,(Ag (Aq (F8 (qa5 (vbi qq8 qR7.ops T.Cb (qa2 (vnm 0) (qa2 (vty "tuple" T.D6) qa7 rfl) rfl))) (F8 (qa5 (v2 (Ba (qA1 f.u64) (qb1 _)) Dq (vbi qt1 qt0.ops T.Co (qa2 (vnm 0) qa7 rfl)) Af)) (F8 (Aj T.d3 (qc3 T) qa0 (rm f) (vaV (qc2 (v2 (A7 qc1) At (vnm 0) Af)) Ad)) (Ii (Aj T.d3 (qc3 T) qa0 (rm f) (vaV (qc2 (v2 (A7 qc1) At (vnm 0) Af)) Ad)))))))),λ b Q n h=>?_⟩);obtain⟨x,d,rfl,e,q⟩:=I9 h;cases x with
 | tup b =>
   by_cases c:(D.tup b).kinded=true
   . rw[if_pos c] at e
     cases e;have c:=zAc.mp c;have i:=zBg.mp c.1
     match b with
     | []=>exact q
     | [_]=>exact q
     | [x,y] =>
       have j:=zAc.mp (i x (by simp));have l:=zAc.mp (i y (by simp));obtain⟨t,o⟩:=zAz.mp j.1;obtain⟨u,p⟩:=zAz.mp l.1;refine⟨j.2,?_⟩;refine qa1 (a:=D.bl x.num) (by show (x.kind.map _)=_;rw[o];rfl) ?_;refine ite_b (λ g=>⟨l.2,qa1 (a:=D.bl y.num) (by show (y.kind.map _)=_;rw[p];rfl) ?_⟩) λ g=>?_
       . have:(D.tup [x,y]).pairB=y.num:=by show (x.num&&y.num)=_;rw[g];rfl
         rw[this] at q;exact q
       have:(D.tup [x,y]).pairB=false:=by show (x.num&&y.num)=_;rw[g];rfl
       rw[this] at q;exact q
     | x::y::z::r =>
       have e2:f2 gEq (A8 (fx1 F5) (Ay (rdN 0) λ x=>some [])) (kC (D.int 2)) [.tup (x::y::z::r)]=some (.bl false):=by
         show some (D.bl (((x::y::z::r).length:Int) == 2))=_
         have:(((x::y::z::r).length:Int) == 2)=false:=by
           have:((x::y::z::r).length:Int)≠2:=by simp;lia
           simpa using this
         rw[this]
       have:orF (f2 gEq (A8 (fx1 F5) (Ay (rdN 0) λ x=>some [])) (kC (D.int 2)) [.tup (x::y::z::r)]) (λ d=>orF d.asB λ k=>if k=true then Ih (qn1 qo7 [] (tbV (Bw (f2 gIx (rdN 0) (kC (D.int 0)))) A6)) (qn1 qo7 [] (tbV (Bw (f2 gIx (rdN 0) (kC (D.int 1)))) A6)) [.tup (x::y::z::r)] (λ d b=>Q d (fin (wOf [true]) 0 [.tup (x::y::z::r)] b)) (λ s b=>n s (fin (wOf [true]) 0 [.tup (x::y::z::r)] b)) else Q (.bl false) [.tup (x::y::z::r)]):=by
         rw[e2];exact q
       exact this
   rw[if_neg c] at e;cases e
 | _=>first | (cases e;exact q) | cases e
theorem qC4:qa8 ["thing"] ["thing"] (qa3 qj5):=by walk_at "s"
noncomputable def Gv:D->Option Int
 | .tup (.int k::_)=>some k
 | _=>none
def _root_.LV.D.homesB:D->Bool
 | .lst _ ys=>decide (ys.length<=64)&&(ys.all D.pairB&&decide (ys.filterMap Gv).Nodup)
 | _=>false
def _root_.LV.D.lstOk(p:D->Bool):D->Bool
 | .lst _ ys=>D.imms ys&&ys.all p&&decide (ys.length<=1000)
 | x=>x.kind.isSome
def Jc(y:D):Bool:=y.kind.isSome&&y.kinded
theorem qaJ1(h:x.num=true):∃ n,x=.int n/\Al n:=by
 cases x with
 | int n =>
   have:=zAc.mp h
   exact⟨n,rfl,zA8 this.1,zA8 this.2⟩
 | _=>cases h
theorem qv5{n:Int}(h:Al n):(D.int n).num=true:=by
 show (decide (0<=n)&&decide (n<=1000000000000000000))=true;rw[zAj h.1,zAj h.2];rfl
theorem qaI1(h:y.pairB=true):∃ k m,y=.tup [.int k,.int m]/\Al k/\Al m:=by
 cases y with
 | tup a =>
   match a,h with
   | [x,y],h =>
     have h:=zAc.mp h;obtain⟨k,rfl,b⟩:=qaJ1 h.1;obtain⟨m,rfl,c⟩:=qaJ1 h.2;exact⟨k,m,rfl,b,c⟩
 | _=>cases h
theorem qad7:∀{ys:Ds},ys.all D.pairB=true->∃ ps:Pr,ys=prD ps/\∀ p∈ps,Al p.1/\Al p.2
 | [],_=>⟨[],rfl,λ p h=>by simp at h⟩
 | y::r,h=>by
   rw[List.all_cons,zBj] at h;obtain⟨k,m,rfl,b,c⟩:=qaI1 h.1;obtain⟨ps,rfl,d⟩:=qad7 h.2;refine⟨(k,m)::ps,rfl,λ p a=>?_⟩;rcases zAo.mp a with rfl | a
   . exact⟨b,c⟩
   exact d p a
theorem qag9:∀ ps:Pr,(prD ps).filterMap Gv=ps.map (·.1)
 | []=>rfl
 | p::r=>by show p.1::(prD r).filterMap Gv=_;rw[qag9 r];rfl
theorem qaN7:∀{ps:Pr},(∀ p∈ps,Al p.1/\Al p.2)->(prD ps).all D.pairB=true
 | [],_=>rfl
 | p::r,h=>by
   show (((D.int p.1).num&&(D.int p.2).num)&&(prD r).all D.pairB)=true;rw[qv5 (h p zAb).1,qv5 (h p zAb).2,qaN7 λ q a=>h q (zA6 _ a)];rfl
theorem qaN8:∀ ps:Pr,(prD ps).all Jc=true
 | []=>rfl
 | p::r=>by show (true&&(prD r).all Jc)=true;rw[qaN8 r];rfl
theorem qs4{z:Bool}{ps:Pr}(h:qx5 ps):(D.lst z (prD ps)).homesB=true/\(D.lst z (prD ps)).lstOk Jc=true:=by
 have a:(prD ps).length<=64:=by simpa[prD] using h.len
 constructor
 . show (decide ((prD ps).length<=64)&&((prD ps).all D.pairB&&decide ((prD ps).filterMap Gv).Nodup))=true
   rw[zAj a,qaN7 h.nums,qag9,zAj h.nd];rfl
 show (D.imms (prD ps)&&(prD ps).all Jc&&decide ((prD ps).length<=1000))=true;rw[qK9,qaN8,zAj (by lia)];rfl
theorem qW9{α:Type}(f:α->Bool):∀ l:List α,bools (l.map λ a=>.bl (f a))=some (l.map f)
 | []=>rfl
 | a::r=>by show (bools (r.map λ a=>D.bl (f a))).map (λ b=>f a::b)=_;rw[qW9 f r];rfl
theorem qaN9(f:α->Bool)(l:List α):gAll (.lst false (l.map λ a=>.bl (f a)))=some (.bl (l.all f)):=by
 show (bools (l.map λ a=>D.bl (f a))).map (λ b=>D.bl (b.all id))=_;rw[qW9];show some (D.bl ((l.map f).all id))=_;rw[List.all_map];rfl
def qC0:VSp:=Ax λ ds d=>∃ x,ds=[x]/\x.lstOk Jc=true/\d=.bl x.homesB
theorem qo2(T:Txt K mg a):VFn P w K mg base 5 a.f6 a.d6 ["thing"] qC0:=by
 refine VFn.mk2 T.d6.F qC4 (wOf [true]) qb2 (λ L Q M ⟨d,⟨x,e,_⟩,_⟩=>by rw[e];exact⟨rfl,rfl⟩) (λ N A outer S H E f v=>⟨_,(Ac (sif (tor (Bp (tv (vbi qq8 qR7.ops T.Cb (qa2 (vnm 0) (qa2 (vty "list" T.Cp) qa7 rfl) rfl)))) (tor1 (q2 (An Bk (qb1 _)) Bo (vbi qt1 qt0.ops T.Co (qa2 (vnm 0) qa7 rfl)) (vgi T.Cy)))).te
     (Ag (Aq (qa5 vbl)))
     Au)
     (Ag (Aq (F8 (ebi (qW8 rfl) qaM9.ops T.D8 (E5 (vaV (ecN (NY:=["pair"]) (src:=[none]) 0 (blk (λ f C g H0 i=>(Bi 0 (show (["pair"]:List Str).Nodup by decide +kernel))) (λ f C g H0 i=>Gd) (λ f C g H0 i=>(Aj T.d5 (qx0 T) qA9 (rm v) (vaN 0 Ad))))) Ad))) (Ii (Aj T.d4 (qK2 T) qa0 (rm v) (vaV (ecN (NY:=["pair"]) (src:=[none]) 0 (blk (λ f C g H0 i=>(Bi 0 (show (["pair"]:List Str).Nodup by decide +kernel))) (λ f C g H0 i=>Gd) (λ f C g H0 i=>(qc2 (v2 (A7 qc1) At (vnm 0) Af))))) Ad))))))),λ L Q M h=>?_⟩)
 obtain⟨d,⟨x,rfl,j,rfl⟩,q⟩:=h;cases x with
 | lst z b =>
   have j:=zAc.mp j;have k:=zAc.mp j.1;have B:=zA8 j.2;refine ite_b (p:=decide ((64:Int) < (b.length:Nat))) (λ h=>?_) (λ h=>?_)
   . have n:¬ b.length<=64:=by have:=zA8 h;lia
     have:(D.lst z b).homesB=false:=by
       show (decide (b.length<=64)&&_)=false;rw[zBa n];rfl
     rw[this] at q;exact q
   have n:b.length<=64:=by have:=zB3 h;lia
   have G:(D.lst z b).homesB=(b.all D.pairB&&decide (b.filterMap Gv).Nodup):=by
     show (decide (b.length<=64)&&_)=_;rw[zAj n];rfl
   have l:=zBg.mp k.2;refine⟨k.1,?_⟩;refine qm5 (λ ι=>∃ d,ι=[d]) (λ y=>some (.bl y.pairB)) b [] _ (by show 0+b.length < big;unfold big;lia) ⟨_,rfl⟩ ?_ ?_
   . rintro y r ι s ⟨d,rfl⟩ R u c
     have I:=zAc.mp (l y r);obtain⟨t,J⟩:=zAz.mp I.1;refine Ja (x:=y) (rd0 (qs3 J)) (qa1 (a:=D.bl y.pairB) ?_ ?_)
     . show (if y.kinded=true then y.kind.map _ else none)=_
       rw[if_pos I.2,J];rfl
     exact⟨c,u _ ⟨_,rfl⟩⟩
   rintro ι ⟨d,rfl⟩;rw[zB8,qai5];refine qa1 (qaN9 D.pairB b) (ite_b (λ o=>?_) λ o=>?_)
   . obtain⟨m,rfl,U⟩:=qad7 o
     refine⟨qK9 m,qm5 (λ ι=>∃ d,ι=[d]) (λ y=>(Gv y).map .int) (prD m) [] _ (by show 0+(prD m).length < big;unfold big;lia) ⟨_,rfl⟩ ?_ ?_⟩
     . rintro y r ι s ⟨d,rfl⟩ R u c
       obtain⟨p,O,rfl⟩:=zBd.mp r;exact⟨rfl,c,u _ ⟨_,rfl⟩⟩
     rintro ι ⟨d,rfl⟩;have e:[]++(prD m).filterMap (λ y=>(Gv y).map D.int)=ksD (m.map (·.1)):=by
       rw[zB8];unfold prD ksD;rw[List.filterMap_map,zBr];exact qai5 _ _
     rw[e];rw[G,o,qag9] at q;exact⟨_,⟨false,_,rfl,by simp;simp[prD] at n;lia,rfl⟩,q⟩
   rw[G,o] at q;exact q
 | _=>first | exact q | cases j
theorem qP3:qa8 ["self", "rooms", "wraps", "homes"] ["self", "rooms", "wraps", "homes"] (qa3 qv1):=by walk_at "s"
def qO5(C:Addr):VSp:=λ ds Q _=>∃ n wr z ps,ds=[.ins false C [],.int n,.bl wr,.lst z (prD ps)]/\1<=n/\n<=64/\qx5 ps/\Q .non [Aa false C n wr ps,.int n,.bl wr,.lst z (prD ps)]
theorem qag1{z:Bool}{ps:Pr}:G3 (.lst z (prD ps))=some (.lst false (prD ps)):=qk7 (qK9 ps)
theorem qq0(T:Txt K mg a):VFn P w K mg base 6 a.f7 a.d7 ["self", "rooms", "wraps", "homes"] (qO5 a.C3):=by
 refine VFn.mk2 T.d7.F qP3 (wOf [true,true,true,true]) (λ k Q Q' f m o _ h=>by obtain⟨n,wr,z,c,e,g,i,p,q⟩:=h;exact⟨n,wr,z,c,e,g,i,p,o _ _ q⟩) (λ k Q f h=>by obtain⟨n,wr,z,c,e,_⟩:=h;rw[e];exact⟨rfl,rfl⟩) (λ r A outer s H E t l=>⟨_,(Ac (sif (Bp (te (Aj T.d2 (qd3 T) qa0 (rm l) (vaN 1 (vaV (qa5 Af) (vaV (qa5 (vgi T.Cq)) Ad))))))
     (Ag qi6)
     Au)
     (Ac (sif (Bp (tv (vbi qq8 qR7.ops T.Cb (qa2 (vnm 2) (qa2 (vty "bool" T.D4) qa7 rfl) rfl))))
     (Ag qi6)
     Au)
     (Ac (sif (Bp (te (Aj T.d6 (qo2 T) qa0 (rm l) (vaN 3 Ad))))
     (Ag qi6)
     Au)
     (Ac (E3 rfl (vpn 0) (qc2 (vnm 1)) T.C7.cl T.C9)
     (Ac (E3 rfl (vpn 0) (qc2 (vnm 2)) T.C7.cl T.Ce)
     (Ac (E3 rfl (vpn 0) (qa5 (Fp qf4 qE9.ops T.Cp (qa2 (vnm 3) qa7 rfl))) T.C7.cl T.Cv)
     (Ag (E3 rfl (vpn 0) (qa5 (Fp (qM5 rfl) qau8.ops T.D5 (qa2 (vnm 3) qa7 rfl))) T.C7.cl T.Cf)))))))),λ k Q f h=>?_⟩)
 obtain⟨n,wr,z,c,rfl,g,i,j,q⟩:=h;refine qb0 [.ins false a.C3 [],.int n,.bl wr,.lst z (prD c)] (λ K b=>?_) (qb0 [.ins false a.C3 [],.int n,.bl wr,.lst z (prD c)] (λ K b=>b) (qb0 [.ins false a.C3 [],.int n,.bl wr,.lst z (prD c)] (λ K b=>?_) ?_))
 . refine qah8 (λ Q f q=>qh5 (qb6 (x:=.int n) rfl (qc4 (y:=.int 1) rfl (qc4 (y:=.int 64) rfl (qb4 (qa1 (a:=D.int n) rfl (qz8 (d:=D.bl true) ?_ q))))))) b
   show some (D.bl ((D.int n).within 1 64))=_;rw[qF0 g i]
 . refine Ja rfl ⟨D.bl true,⟨_,rfl,(qs4 j).2,by rw[(qs4 j).1]⟩,b⟩
 refine qb0 [.ins false a.C3 [("rooms",.int n)],.int n,.bl wr,.lst z (prD c)] (λ K b=>⟨rfl,qa1 (a:=(0,[])) rfl (qa1 qe4 ⟨by decide,b⟩)⟩) ?_;refine qb0 [.ins false a.C3 [("rooms",.int n),("wraps",.bl wr)],.int n,.bl wr,.lst z (prD c)] (λ K b=>⟨rfl,qa1 (a:=(0,[])) rfl (qa1 qe4 ⟨by show 1 < 100;decide,b⟩)⟩) ?_;refine qb0 [.ins false a.C3 [("rooms",.int n),("wraps",.bl wr),("homes",.lst false (prD c))],.int n,.bl wr,.lst z (prD c)] (λ K b=>?_) ?_
 . refine qa1 (qag1 (z:=z)) ?_
   exact qa1 (a:=(0,[])) rfl (qa1 qe4 ⟨by show 2 < 100;decide,b⟩)
 refine qa1 (qau7 (z:=z) j.nd) ?_;exact qa1 (a:=(0,[])) rfl (qa1 qe4 ⟨by show 3 < 100;decide,q⟩)
theorem qC5:qa8 ["self", "thing"] ["self", "thing"] (qa3 qj7):=by walk_at "s"
def qC2(C:Addr):VSp:=Ax λ ds d=>∃ z n wr ps x t,ds=[Aa z C n wr ps,x]/\x.kind=some t/\d=.bl (x.within 0 (n - 1))
theorem qo3(T:Txt K mg a):VFn P w K mg base 3 a.f9 a.d9 ["self", "thing"] (qC2 a.C3):=by
 refine VFn.mk2 T.d9.F qC5 (wOf [true,true]) qb2 (λ g Q i h=>by obtain⟨d,⟨z,n,wr,b,x,t,e,_⟩,_⟩:=h;rw[e];exact⟨rfl,rfl⟩) (λ j A outer m H E o k=>⟨_,(Ag (Aq (Aj T.d2 (qd3 T) qa0 (rm k) (vaN 1 (vaV (qa5 Af) (vaV (qa5 (v2 (Ah qC9) qC8 (Be rfl (vnm 0) T.C7.cl T.C9) Af)) Ad)))))),λ g Q i h=>?_⟩);obtain⟨d,⟨z,n,wr,b,x,t,rfl,c,rfl⟩,q⟩:=h;have f:rdN 1 [Aa z a.C3 n wr b,x]=some x:=qo0.mpr ⟨rfl,qs3 c⟩;have l:f2 gSub (f1 (D.fld a.C3 "rooms") (rdN 0)) (kC (.int 1)) [Aa z a.C3 n wr b,x]=some (.int (n - 1)):=Ae (Av rfl qc8) rfl rfl;show qn1 _ _ (tbN 1 _) [Aa z a.C3 n wr b,x] _ _;refine qb6 f ?_;refine qc4 (y:=.int 0) rfl ?_;refine qc4 l ?_;refine qa1 f ?_;refine qz8 (d:=.bl (x.within 0 (n - 1))) ?_ (qa1 rfl q);show x.kind.bind _=_;rw[c];rfl
theorem qP4:qa8 ["self", "key"] ["self", "key"] (qa3 qv2):=by walk_at "s"
def qO6(C:Addr):VSp:=Ax λ ds d=>∃ z n wr ps k,ds=[Aa z C n wr ps,.int k]/\1<=n/\Al k/\d=.int (qc6 n ps k)
theorem qai1{z:Bool}{ps:Pr}(h:fa ds=some (.dct z (kvD ps)))(a:rdN i ds=some (.int k)):fget fa (rdN i) (rdN i) ds=some (.int ((ps.lookup k).getD k)):=by
 unfold fget;rw[h,a];show gd (((Dh (kvD ps) (.inl k)).getD (.int k)).imm=true) ((Dh (kvD ps) (.inl k)).getD (.int k))=_;rw[qar1];cases ps.lookup k<;>rfl
theorem qaJ6{x n:Int}(h:1<=n):Hi (.int x) (.int n)=some (.int (x % n)):=qk7 (zAj (by lia))
theorem qq1(T:Txt K mg a):VFn P w K mg base 4 a.f10 a.d10 ["self", "key"] (qO6 a.C3):=by
 refine VFn.mk2 T.d10.F qP4 (wOf [true,true]) qb2 (λ f Q g h=>by obtain⟨d,⟨z,n,wr,b,k,e,_⟩,_⟩:=h;rw[e];exact⟨rfl,rfl⟩) (λ i A outer m H E o c=>⟨_,(Ac (sif (Bp (te (Aj T.d3 (qc3 T) qa0 (rm c) (vaN 1 Ad))))
     (Ag qi6)
     Au)
     (Ag (Aq (qa5 (v2 (Ah qp9) qp6 (vget (hu_of c) (Be rfl (vnm 0) T.C7.cl T.Cf) (vnm 1) (vnm 1) ⟨rfl,rfl,rfl,rfl⟩) (Be rfl (vnm 0) T.C7.cl T.C9)))))),λ f Q g h=>?_⟩)
 obtain⟨d,⟨z,n,wr,b,k,rfl,j,l,rfl⟩,q⟩:=h;have key:orF (f2 Hi (fget (f1 (D.fld a.C3 "home_numbers") (rdN 0)) (rdN 1) (rdN 1)) (f1 (D.fld a.C3 "rooms") (rdN 0)) [Aa z a.C3 n wr b,.int k]) (λ d=>Q d [Aa z a.C3 n wr b,.int k]):=qa1 (Ae (qai1 (Av rfl qE7) rfl) (Av rfl qc8) (qaJ6 j)) q;exact Ja rfl (qz8 (d:=D.bl true) (by show some (D.bl (D.int k).num)=_;rw[qv5 l]) (qa1 rfl (qa1 (a:=true) rfl key)))
theorem qD9:qa8 ["self", "key", "room", "steps"] ["self", "key", "room"] (qa3 qz6):=by walk_at "s"
def qY2(C:Addr):VSp:=Ax λ ds d=>∃ z n wr ps k r,ds=[Aa z C n wr ps,.int k,.int r]/\1<=n/\Al k/\0<=r/\r < n/\d=Gu (A5 n wr ps k r)
theorem qan1(a:Al k):fx1 (λ x=>x.kind.map λ _=>.bl x.num) [.int k]=some (.bl true):=by
 show some (D.bl (D.int k).num)=_;rw[qv5 a]
theorem qar8{C:Addr}{z:Bool}{n:Int}{wr:Bool}{ps:Pr}{r:Int}(d:0<=r)(h1:r < n):∃ z' c a b x t,[Aa z C n wr ps,.int r]=[Aa z' C c a b,x]/\x.kind=some t/\D.bl true=.bl (x.within 0 (c - 1)) :=
 ⟨z,n,wr,ps,_,_,rfl,rfl,by rw[qF0 d (by lia)]⟩
theorem qi9(T:Txt K mg a):VFn P w K mg base 5 a.f11 a.d11 ["self", "key", "room"] (qY2 a.C3):=by
 refine VFn.mk2 T.d11.F qD9 (wOf [true,true,true]) qb2 (λ o Q f h=>by obtain⟨d,⟨z,n,wr,c,k,r,e,_⟩,_⟩:=h;rw[e];exact⟨rfl,rfl⟩) (λ s A outer u H E v g=>⟨_,(Ac (sif (Bp (te (Aj T.d3 (qc3 T) qa0 (rm g) (vaN 1 Ad))))
     (Ag qi6)
     Au)
     (Ac (sif (Bp (te (qi3 0 T.d9 T.C7.cl (qo3 T) qa0 (rm g) (vaN 2 Ad))))
     (Ag qi6)
     Au)
     (Ac (Ak 3 qD9.nd (e2n 2 (Ah qC9) qC8 (qi3 0 T.d10 T.C7.cl (qq1 T) qa0 (rm g) (vaN 1 Ad))))
     (Ac (sif (tv (Be rfl (vnm 0) T.C7.cl T.Ce))
     (Ag (Aq (qa5 (v2 (Ah qp9) qp6 (vnm 3) (Be rfl (vnm 0) T.C7.cl T.C9)))))
     Au)
     (Ag (Aq (eif (q2 (An Gy (qb1 _)) Ia (vnm 3) Af) (qc2 (vnm 3)) (qa5 Bb)))))))),λ o Q f h=>?_⟩)
 obtain⟨d,⟨z,n,wr,c,k,r,rfl,l,m,i,j,rfl⟩,q⟩:=h;refine Eh (λ Q f q=>qJ6 (x:=.int k) rfl (qan1 m) rfl q) ?_;refine Eh (λ Q f q=>qQ6 (p:=Aa z a.C3 n wr c) (x:=.int r) rfl (qf3 rfl) rfl rfl (qar8 i j) rfl q) ?_;refine qb0 [Aa z a.C3 n wr c,.int k,.int r,.int (r - qc6 n c k)] (λ K t=>?_) ?_
 . exact⟨rfl,qQ6 (p:=Aa z a.C3 n wr c) (x:=.int k) (d:=.int (qc6 n c k)) rfl (qf3 rfl) rfl rfl ⟨z,n,wr,c,k,rfl,l,m,rfl⟩ rfl (qa1 (a:=D.int (r - qc6 n c k)) rfl t)⟩
 unfold A5 at q;refine qm0 wr (Av rfl qs7) (λ h=>?_) (λ h=>?_)
 . subst h
   exact ql0 (.int ((r - qc6 n c k) % n)) (Ae rfl (Av rfl qc8) (qaJ6 l)) q
 subst h;refine qh0 (Fj (b:=decide (0<=r - qc6 n c k)) rfl (λ h=>?_) (λ h=>?_))
 . rw[if_neg (by decide),if_pos (zA8 h)] at q
   exact⟨rfl,q⟩
 rw[if_neg (by decide),if_neg (zB3 h)] at q;exact q
theorem qf2:qa8 ["self", "room", "one", "other", "one_far", "other_far"] ["self", "room", "one", "other"] (qa3 qf9):=by walk_at "s"
def qt6(C:Addr):VSp:=Ax λ ds d=>∃ z n wr ps r x y,ds=[Aa z C n wr ps,.int r,.int x,.int y]/\1<=n/\0<=r/\r < n/\Al x/\Al y/\d=.bl (ql2 n wr ps r x y)
theorem qap1{C:Addr}{z:Bool}{n:Int}{wr:Bool}{ps:Pr}{r:Int}(h1:1<=n)(f:Al k)(g:0<=r)(h:r < n):∃ z' c a b e d,[Aa z C n wr ps,.int k,.int r]=[Aa z' C c a b,.int e,.int d]/\1<=c/\Al e/\0<=d/\d < c/\Gu (A5 n wr ps k r)=Gu (A5 c a b e d) :=
 ⟨z,n,wr,ps,k,r,rfl,h1,f,g,h,rfl⟩
theorem qi8(T:Txt K mg a):VFn P w K mg base 6 a.f12 a.d12 ["self", "room", "one", "other"] (qt6 a.C3):=by
 refine VFn.mk2 T.d12.F qf2 (wOf [true,true,true,true]) qb2 (λ B Q l h=>by obtain⟨d,⟨z,n,wr,c,r,x,y,e,_⟩,_⟩:=h;rw[e];exact⟨rfl,rfl⟩) (λ C A outer D H E G k=>⟨_,(Ac (sif (Bp (te (qi3 0 T.d9 T.C7.cl (qo3 T) qa0 (rm k) (vaN 1 Ad))))
     (Ag qi6)
     Au)
     (Ac (sif (Bp (te (Aj T.d3 (qc3 T) qa0 (rm k) (vaN 2 Ad))))
     (Ag qi6)
     Au)
     (Ac (sif (Bp (te (Aj T.d3 (qc3 T) qa0 (rm k) (vaN 3 Ad))))
     (Ag qi6)
     Au)
     (Ac (Ak 4 qf2.nd (qi3 0 T.d11 T.C7.cl (qi9 T) qa0 (rm k) (vaN 2 (vaN 1 Ad))))
     (Ac (Ak 5 qf2.nd (qi3 0 T.d11 T.C7.cl (qi9 T) qa0 (rm k) (vaN 3 (vaN 1 Ad))))
     (Ac (sif (q2 (An Ef (qb1 _)) Ee (vnm 4) Bb)
     (Ag (Aq (qa5 vbl)))
     Au)
     (Ac (sif (q2 (An Ef (qb1 _)) Ee (vnm 5) Bb)
     (Ag (Aq (qa5 vbl)))
     Au)
     (Ag (Aq (qa5 (vor (v2 (Ba Bk (qb1 _)) Bo (vnm 4) (vnm 5)) (vone (vand (v2 (Ba (qA1 k.u64) (qb1 _)) Dq (vnm 4) (vnm 5)) (vone (v2 (Ba Fd (qb1 _)) Fy (vnm 2) (vnm 3)))))))))))))))),λ B Q l h=>?_⟩)
 obtain⟨d,⟨z,n,wr,c,r,x,y,rfl,o,i,j,s,t,rfl⟩,q⟩:=h;refine Eh (λ Q l q=>qQ6 (p:=Aa z a.C3 n wr c) (x:=.int r) rfl (qf3 rfl) rfl rfl (qar8 i j) rfl q) ?_;refine Eh (λ Q l q=>qJ6 (x:=.int x) rfl (qan1 s) rfl q) ?_;refine Eh (λ Q l q=>qJ6 (x:=.int y) rfl (qan1 t) rfl q) ?_;refine qb0 [Aa z a.C3 n wr c,.int r,.int x,.int y,Gu (A5 n wr c x r),.unk] (λ K m=>?_) ?_
 . exact qan6 (p:=Aa z a.C3 n wr c) (x:=.int x) (y:=.int r) rfl (qf3 rfl) rfl rfl rfl rfl (qap1 o s i j) rfl m
 refine qb0 [Aa z a.C3 n wr c,.int r,.int x,.int y,Gu (A5 n wr c x r),Gu (A5 n wr c y r)] (λ K m=>?_) ?_
 . exact qan6 (p:=Aa z a.C3 n wr c) (x:=.int y) (y:=.int r) rfl (qf3 rfl) rfl rfl rfl rfl (qap1 o t i j) rfl m
 unfold ql2 at q;cases u:A5 n wr c x r with
 | none =>
   rw[u] at q;exact q
 | some f =>
   rw[u] at q;cases v:A5 n wr c y r with
   | none =>
     rw[v] at q;exact q
   | some g =>
     rw[v] at q;refine qm0 false rfl (λ h=>nomatch h) λ _=>?_
     refine qm0 false rfl (λ h=>nomatch h) λ _=>?_
     exact ql0 _ (qaU4 (a:=decide (g < f)) rfl (qau5 (a:=decide (f=g)) (b:=decide (x < y)) rfl rfl)) q
theorem qJ3:qa8 ["plan", "room"] ["plan", "room"] (qa3 qp2):=by walk_at "s"
def qI9(C:Addr):VSp:=Ax λ ds d=>∃ z n wr ps r,ds=[Aa z C n wr ps,.int r]/\d=(if 0 < r then .int (r - 1) else if wr=true then .int (n - 1) else .non)
theorem qK1(T:Txt K mg a):VFn P w K mg base 1 a.f13 a.d13 ["plan", "room"] (qI9 a.C3):=by
 refine VFn.mk2 T.d13.F qJ3 (wOf [true,true]) qb2 (λ f Q g h=>by obtain⟨d,⟨z,n,wr,c,r,e,_⟩,_⟩:=h;rw[e];exact⟨rfl,rfl⟩) (λ i A outer j H E k l=>⟨_,(Ac (sif (q2 (An Bk (qb1 _)) Bo (vnm 1) Af)
     (Ag (Aq (qa5 (v2 (Ah qC9) qC8 (vnm 1) Af))))
     Au)
     (Ag (Aq (eif (tv (Be rfl (vnm 0) T.C7.cl T.Ce)) (qa5 (v2 (Ah qC9) qC8 (Be rfl (vnm 0) T.C7.cl T.C9) Af)) (qa5 Bb))))),λ f Q g h=>?_⟩)
 obtain⟨d,⟨z,n,wr,c,r,rfl,rfl⟩,q⟩:=h;refine As [Aa z a.C3 n wr c,.int r] rfl ?_;refine qm0 (decide (0 < r)) rfl (λ h=>?_) λ h=>?_
 . rw[if_pos (zA8 h)] at q
   exact q
 rw[if_neg (zB3 h)] at q;refine qh0 (Fj (b:=wr) (Av rfl qs7) (λ h=>?_) (λ h=>?_))
 . rw[if_pos h] at q
   exact qr8 (d:=.int (n - 1)) (Ae (Av rfl qc8) rfl rfl) q
 rw[if_neg (by rw[h];decide)] at q;exact q
theorem qd6:qa8 ["plan", "rooms", "room", "ahead", "thing"] ["plan", "rooms", "room"] (qa3 qd8):=by walk_at "s"
noncomputable def Gi:Option Str->D
 | none=>.non
 | some s=>.str s
theorem qag7{t:D}{u:String}(h:t.kind=some u):t=.non∨t.isN=some false:=by
 cases t<;>first | exact .inl rfl | exact .inr rfl | cases h
theorem qH0{t:D}(h:t.num=true):∃ x,t=.int x/\Al x:=by
 cases t with
 | int x =>
   have:=zAc.mp h
   exact⟨x,rfl,zA8 this.1,zA8 this.2⟩
 | _=>cases h
def Ei(n:Int)(wr:Bool)(ps:Pr)(p:Nat)(t:D)(k:Int):Option Str:=match t with
 | .non=>some "empty"
 | .int x=>if (D.int x).num=true then (if ql2 n wr ps (p:Int) x k=true then none else some "order") else none
 | _=>none
theorem qak7{n:Int}{wr:Bool}{ps:Pr}{p:Nat}{t:D}(h:t.num=false)(h':t.isN=some false):Ei n wr ps p t k=none:=by
 cases t with
 | non=>cases h'
 | int x =>
   show (if (D.int x).num=true then (if ql2 n wr ps (p:Int) x k=true then (none:Option Str) else some "order") else none)=none;rw[if_neg (by rw[h];decide)]
 | _=>rfl
structure Rm(n:Int)(ys:Ds)(r:Nat):Prop where
 len:ys.length=n.toNat
 kn:∀ y∈ys,∃ t,y.kind=some t
 im:D.imms ys=true
 fl:∀ i y,i < r->ys[i]? = some y->y=.non∨∃ k,y=.int k/\Al k
theorem qT4{t:D}{u:String}(h:t.kind=some u):fx1 (λ x=>x.kind.map λ _=>.bl x.num) [t]=some (.bl t.num):=by
 show t.kind.map _=_;rw[h];rfl
theorem Jd{z:Bool}(h:ys[r]? = some y):gIx (.lst z ys) (.int (r:Int))=some y:=qX4 h
def qn2(C:Addr):VSp:=Ax λ ds d=>∃ z n wr ps z' ys r k t,ds=[Aa z C n wr ps,.lst z' ys,.int (r:Nat)]/\1<=n/\r < n.toNat/\(0 < r∨wr=true)/\Rm n ys 0/\ys[r]? = some (.int k)/\Al k/\ys[Row.prev n.toNat r]? = some t/\d=Gi (Ei n wr ps (Row.prev n.toNat r) t k)
theorem qn5(T:Txt K mg a):VFn P w K mg base 7 a.f14 a.d14 ["plan", "rooms", "room"] (qn2 a.C3):=by
 refine VFn.mk2 T.d14.F qd6 (wOf [true,true,true]) qb2 (λ G Q I h=>by obtain⟨d,⟨z,n,wr,c,f,g,r,k,t,e,_⟩,_⟩:=h;rw[e];exact⟨rfl,rfl⟩) (λ J A outer V H E W l=>⟨_,(Ac (Ak 3 qd6.nd (Aj T.d13 (qK1 T) qa0 (rm l) (vaN 0 (vaN 2 Ad))))
     (Ac (Ak 4 qd6.nd (qc2 (v2 (A7 qc1) At (vnm 1) (vnm 3))))
     (Ac (sif (q2 (An Ef (qb1 _)) Ee (vnm 4) Bb)
     (Ag (Aq (qa5 Eo)))
     Au)
     (Ac (sif (Ig (te (Aj T.d3 (qc3 T) qa0 (rm l) (vaN 4 Ad))) (F7 (Bp (te (qi3 0 T.d12 T.C7.cl (qi8 T) qa0 (rm l) (vaN 3 (vaN 4 (vaV (qc2 (v2 (A7 qc1) At (vnm 1) (vnm 2))) Ad)))))))).te
     (Ag (Aq (qa5 Eo)))
     Au)
     (Ag (Aq (qa5 Bb))))))),λ G Q I h=>?_⟩)
 obtain⟨d,⟨z,n,wr,c,f,g,r,k,t,rfl,L,m,M,R,N,O,i,rfl⟩,q⟩:=h;refine As [Aa z a.C3 n wr c,.lst f g,.int (r:Nat),.unk,.unk] rfl ?_;have S:=Row.qi7 (n:=n.toNat) m;have v:(if 0 < ((r:Nat):Int) then D.int ((r:Int) - 1) else if wr=true then D.int (n - 1) else .non)=.int (Row.prev n.toNat r:Nat):=by
   rcases Row.por n.toNat r with⟨e1,e2⟩ | ⟨e1,e2⟩
   . rw[if_neg (by lia),if_pos (M.resolve_left (by lia)),e2]
     congr 1;lia
   rw[if_pos (by lia),e2];congr 1;lia
 generalize Row.prev n.toNat r=p at S v q i;obtain⟨u,j⟩:=R.kn t (zAy i);refine qb0 [Aa z a.C3 n wr c,.lst f g,.int (r:Nat),.int (p:Nat),.unk] (λ K o=>?_) ?_
 . exact qH5 (x:=Aa z a.C3 n wr c) (y:=.int (r:Nat)) (d:=.int (p:Nat)) rfl rfl rfl ⟨z,n,wr,c,(r:Nat),rfl,v.symm⟩ rfl o
 refine qb0 [Aa z a.C3 n wr c,.lst f g,.int (r:Nat),.int (p:Nat),t] (λ K o=>qa1 (Ae rfl rfl (Jd i)) ⟨qv6 R.im i,o⟩) ?_;have B:rdN 4 [Aa z a.C3 n wr c,.lst f g,.int (r:Nat),.int (p:Nat),t]=some t:=qh1 rfl (qs3 j);rcases qag7 j with rfl | C
 . exact qm0 true rfl (λ _=>q) λ h=>nomatch h
 refine qm0 false (Ae B rfl (by show t.isN.map D.bl=_;rw[C];rfl)) (λ h=>nomatch h) λ _=>?_
 cases b:t.num with
 | false =>
   rw[qak7 b C] at q;exact qj0 false (λ Q q=>qo6 false false (λ Q q=>qJ6 (x:=t) (d:=.bl false) B (by rw[qT4 j,b]) rfl q) (λ h=>nomatch h) q) (λ h=>nomatch h) λ _=>q
 | true =>
   obtain⟨x,rfl,U⟩:=qH0 b;have q:Q (Gi (if (D.int x).num=true then (if ql2 n wr c (p:Int) x k=true then none else some "order") else none)) [Aa z a.C3 n wr c,.lst f g,.int (r:Nat)]:=q;rw[if_pos b] at q;refine qj0 (!ql2 n wr c (p:Int) x k) (λ Q q=>qo6 true _ (λ Q q=>qJ6 (x:=.int x) (d:=.bl true) rfl (by rw[qT4 j,b]) rfl q) (λ _ Q q=>?_) q) (λ h=>?_) λ h=>?_
   . refine qx1 (p:=Aa z a.C3 n wr c) rfl (qf3 rfl) (qb6 (x:=.int (p:Nat)) rfl (qb6 (x:=.int x) rfl (qk9 (y:=.int k) (Ae rfl rfl (Jd N)) rfl ?_)))
     refine qb4 ?_;refine qa1 (a:=D.int x) rfl ?_;refine qa1 (a:=D.int (p:Nat)) rfl ?_;exact(qa1 (a:=Aa z a.C3 n wr c) rfl (qq3 (d:=.bl (ql2 n wr c (p:Int) x k)) ⟨z,n,wr,c,(p:Nat),x,k,rfl,L,by lia,by lia,U,O,rfl⟩ q))
   . rw[if_neg (by intro s;rw[s] at h;cases h)] at q
     exact q
   rw[if_pos (by cases s:ql2 n wr c (p:Int) x k with | true=>rfl | false=>rw[s] at h;cases h)] at q;exact q
theorem qt8:qa8 ["plan", "rooms", "room", "key", "far"] ["plan", "rooms", "room"] (qa3 qy9):=by walk_at "s"
noncomputable def atD(ys:Ds)(i:Nat):D:=(ys[i]?).getD .non
noncomputable def qB1(k:Int):D->Bool
 | .int j=>decide (j=k)
 | _=>false
def Bs(n:Int)(wr:Bool)(ps:Pr)(ys:Ds)(r:Nat):Option Str:=match atD ys r with
 | .non=>none
 | .int k=>if (D.int k).num=true then (if (ys.take r).any (qB1 k)=true then some "twice" else match A5 n wr ps k (r:Int) with
   | none=>some "home"
   | some f=>if f=0 then none else Ei n wr ps (Row.prev n.toNat r) (atD ys (Row.prev n.toNat r)) k) else some "key"
 | _=>some "key"
theorem qau4{k:Int}:∀{l:Ds},(∀ y∈l,y=.non∨∃ j,y=.int j/\Al j)->∃ a,flats l=some a/\inV (.int k) a=l.any (qB1 k)
 | [],_=>⟨[],rfl,rfl⟩
 | y::l,h=>by
   obtain⟨a,c,e2⟩:=qau4 (k:=k) λ z d=>h z (zA6 _ d)
   rcases h y zAb with rfl | ⟨j,rfl,_⟩
   . refine⟨.non::a,?_,?_⟩
     . show ((flats l).bind λ b=>some (V.non::b))=_
       rw[c];rfl
     show (eqV .non (.int k)||inV (.int k) a)=(false||l.any (qB1 k))
     rw[e2];rfl
   refine⟨.int j::a,?_,?_⟩
   . show ((flats l).bind λ b=>some (V.int j::b))=_
     rw[c];rfl
   show (eqV (.int j) (.int k)||inV (.int k) a)=(decide (j=k)||l.any (qB1 k))
   rw[e2];rfl
theorem qU6:∀{ys:Ds}{r:Nat},D.imms ys=true->D.imms (ys.take r)=true
 | [],r,_=>by rw[List.take_nil];rfl
 | y::ys,0,_=>rfl
 | y::ys,r+1,h=>by
   have:=zAc.mp h
   show (y.imm&&D.imms (ys.take r))=true;rw[this.1,qU6 this.2];rfl
theorem Rm.up{n:Int}(R:Rm n ys r){s:Nat}(h:s<=r):Rm n ys s:=⟨R.len,R.kn,R.im,λ i y a=>R.fl i y (by lia)⟩
def qX6(C:Addr):VSp:=Ax λ ds d=>∃ z n wr ps z' ys r,ds=[Aa z C n wr ps,.lst z' ys,.int (r:Nat)]/\1<=n/\r < n.toNat/\Rm n ys r/\d=Gi (Bs n wr ps ys r)
theorem qZ0(T:Txt K mg a):VFn P w K mg base 8 a.f15 a.d15 ["plan", "rooms", "room"] (qX6 a.C3):=by
 refine VFn.mk2 T.d15.F qt8 (wOf [true,true,true]) qb2 (λ V Q W h=>by obtain⟨d,⟨z,n,wr,c,j,b,r,e,_⟩,_⟩:=h;rw[e];exact⟨rfl,rfl⟩) (λ X A outer sh H E av B=>⟨_,(Ac (Ak 3 qt8.nd (qc2 (v2 (A7 qc1) At (vnm 1) (vnm 2))))
     (Ac (sif (q2 (An Ef (qb1 _)) Ee (vnm 3) Bb)
     (Ag (Aq (qa5 Bb)))
     Au)
     (Ac (sif (Bp (te (Aj T.d3 (qc3 T) qa0 (rm B) (vaN 3 Ad))))
     (Ag (Aq (qa5 Eo)))
     Au)
     (Ac (sif (q2 (An qG7 (by with_unfolding_all rfl)) Fe (vnm 3) (vsl (vnm 1) vpo_n (vpo_s (vnm 2))))
     (Ag (Aq (qa5 Eo)))
     Au)
     (Ac (Ak 4 qt8.nd (qi3 0 T.d11 T.C7.cl (qi9 T) qa0 (rm B) (vaN 3 (vaN 2 Ad))))
     (Ac (sif (q2 (An Ef (qb1 _)) Ee (vnm 4) Bb)
     (Ag (Aq (qa5 Eo)))
     Au)
     (Ac (sif (q2 (An (qA1 B.u64) (qb1 _)) Dq (vnm 4) Af)
     (Ag (Aq (qa5 Bb)))
     Au)
     (Ag (Aq (Aj T.d14 (qn5 T) qa0 (rm B) (vaN 0 (vaN 1 (vaN 2 Ad))))))))))))),λ V Q W h=>?_⟩)
 obtain⟨d,⟨z,n,wr,c,j,b,r,rfl,J,m,R,rfl⟩,q⟩:=h;have Y:=Row.qi7 (n:=n.toNat) m;obtain⟨v,s⟩:∃ v,b[r]? = some v:=⟨b[r]'(by rw[R.len];exact m),by simp⟩
 obtain⟨t,N⟩:∃ t,b[Row.prev n.toNat r]? = some t:=⟨b[Row.prev n.toNat r]'(by rw[R.len];exact Y),by simp⟩
 obtain⟨u,C⟩:=R.kn v (zAy s);have Z:atD b r=v:=by unfold atD;rw[s];rfl
 have et:atD b (Row.prev n.toNat r)=t:=by unfold atD;rw[N];rfl
 unfold Bs at q;rw[Z,et] at q;refine As [Aa z a.C3 n wr c,.lst j b,.int (r:Nat),.unk,.unk] rfl ?_;refine qb0 [Aa z a.C3 n wr c,.lst j b,.int (r:Nat),v,.unk] (λ K L=>qa1 (Ae rfl rfl (Jd s)) ⟨qv6 R.im s,L⟩) ?_;have O:rdN 3 [Aa z a.C3 n wr c,.lst j b,.int (r:Nat),v,.unk]=some v:=qh1 rfl (qs3 C);rcases qag7 C with rfl | S
 . exact qm0 true rfl (λ _=>q) λ h=>nomatch h
 refine qm0 false (Ae O rfl (by show v.isN.map D.bl=_;rw[S];rfl)) (λ h=>nomatch h) λ _=>?_
 cases g:v.num with
 | false =>
   refine qj0 true (λ Q q=>qJ6 (x:=v) (d:=.bl false) O (by rw[qT4 C,g]) rfl q) (λ _=>?_) (λ h=>nomatch h);cases v with
   | non=>cases S
   | int k =>
     have q:Q (Gi (if (D.int k).num=true then _ else some "key")) [Aa z a.C3 n wr c,.lst j b,.int (r:Nat)]:=q;rw[if_neg (by rw[g];decide)] at q;exact q
   | _=>exact q
 | true =>
   obtain⟨k,rfl,U⟩:=qH0 g;have q:Q (Gi (if (D.int k).num=true then (if (b.take r).any (qB1 k)=true then some "twice" else match A5 n wr c k (r:Int) with
     | none=>some "home"
     | some f=>if f=0 then none else Ei n wr c (Row.prev n.toNat r) t k) else some "key")) [Aa z a.C3 n wr c,.lst j b,.int (r:Nat)]:=q
   rw[if_pos g] at q;refine qj0 false (λ Q q=>qJ6 (x:=.int k) (d:=.bl true) rfl (by rw[qT4 C,g]) rfl q) (λ h=>nomatch h) λ _=>?_
   obtain⟨G,e1,e2⟩:=qau4 (k:=k) (l:=b.take r) λ y hy=>by
     obtain⟨i,I⟩:=List.getElem?_of_mem hy;rw[List.getElem?_take] at I;split at I
     . rename_i hlt;exact R.fl i y hlt I
     cases I
   have M:f2 (Ib false) (rdN 3) (fsl (rdN 1) foN (foS (rdN 2))) [Aa z a.C3 n wr c,.lst j b,.int (r:Nat),.int k,.unk]=some (.bl ((b.take r).any (qB1 k))):=by
     refine Ae (x:=.int k) (y:=.lst false (b.take r)) rfl ?_ ?_
     . show gSl (.lst j b) none (some (r:Int))=_
       show gd (D.imms (En b none (some (r:Int)))=true) (.lst false (En b none (some (r:Int))))=_;rw[qW0];exact qk7 (qU6 R.im)
     show ((flats (b.take r)).bind λ G=>some (D.bl (if false=true then !inV (.int k) G else inV (.int k) G)))=_;rw[e1];show some (D.bl (inV (.int k) G))=_;rw[e2]
   refine qm0 _ M (λ h=>?_) λ h=>?_
   . rw[if_pos h] at q;exact q
   rw[if_neg (by rw[h];decide)] at q;refine qb0 [Aa z a.C3 n wr c,.lst j b,.int (r:Nat),.int k,Gu (A5 n wr c k (r:Nat))] (λ K L=>?_) ?_
   . exact qan6 (p:=Aa z a.C3 n wr c) (x:=.int k) (y:=.int (r:Nat)) rfl (qf3 rfl) rfl rfl rfl rfl (qap1 J U (by lia) (by lia)) rfl L
   cases o:A5 n wr c k (r:Nat) with
   | none =>
     rw[o] at q;exact qm0 true rfl (λ _=>q) λ h=>nomatch h
   | some f =>
     rw[o] at q;refine qm0 false rfl (λ h=>nomatch h) λ _=>?_
     refine qm0 (decide (f=0)) rfl (λ h=>?_) λ h=>?_
     . have q:Q (Gi (if f=0 then none else Ei n wr c (Row.prev n.toNat r) t k)) [Aa z a.C3 n wr c,.lst j b,.int (r:Nat)]:=q
       rw[if_pos (zA8 h)] at q;exact q
     have q:Q (Gi (if f=0 then none else Ei n wr c (Row.prev n.toNat r) t k)) [Aa z a.C3 n wr c,.lst j b,.int (r:Nat)]:=q;rw[if_neg (zB3 h)] at q;refine qZ9 (x:=Aa z a.C3 n wr c) (y:=.lst j b) (w:=.int (r:Nat)) rfl rfl rfl rfl rfl ⟨z,n,wr,c,j,b,r,k,t,rfl,J,m,?_,R.up (zBh _),s,U,N,rfl⟩ rfl q;cases wr with
     | true=>exact .inr rfl
     | false =>
       left;unfold A5 at o;rw[if_neg (by decide)] at o
       have:=(qah7 J c k).1
       have a0:=zB3 h;split at o
       . cases o;lia
       cases o
theorem qP0:qa8 ["plan", "rooms"] ["plan", "rooms"] (qa3 qu6):=by walk_at "s"
def farP(n:Int)(wr:Bool)(ps:Pr):D->Bool
 | .tup [.int i,.int k]=>match A5 n wr ps k i with
   | some f=>decide (0 < f)
   | none=>false
 | _=>false
def qq9(n:Int)(wr:Bool)(ps:Pr)(ys:Ds):Bool:=(enD ys).all (farP n wr ps)
theorem qaC3(ys:Ds):(enD ys).length=ys.length:=by unfold enD;rw[zA7,List.length_zipIdx]
def qO1(C:Addr):VSp:=Ax λ ds d=>∃ z n wr ps z' ys,ds=[Aa z C n wr ps,.lst z' ys]/\1<=n/\n<=64/\ys.length=n.toNat/\(∀ i v,ys[i]? = some v->v=.non∨∃ k,v=.int k/\Al k/\A5 n wr ps k (i:Nat)≠none)/\d=.bl (qq9 n wr ps ys)
theorem qaB1{p:Nat->D->Prop}(h:∀ i v,ys[i]? = some v->v=.non∨∃ k,v=.int k/\p i v):D.imms ys=true:=by
 induction ys generalizing p with
 | nil=>rfl
 | cons y ys a =>
   have b:=h 0 y rfl;have c:y.imm=true:=by
     rcases b with rfl | ⟨k,rfl,_⟩<;>rfl
   show (y.imm&&D.imms ys)=true;rw[c,a (p:=λ i v=>p (i+1) v) λ i v d=>h (i+1) v d];rfl
theorem qQ0(T:Txt K mg a):VFn P w K mg base 6 a.f16 a.d16 ["plan", "rooms"] (qO1 a.C3):=by
 refine VFn.mk2 T.d16.F qP0 (wOf [true,true]) qb2 (λ L Q M h=>by obtain⟨d,⟨z,n,wr,b,o,g,e,_⟩,_⟩:=h;rw[e];exact⟨rfl,rfl⟩) (λ N A outer sh H E j O=>⟨_,(Ag (Aq (ebi (qW8 rfl) qaM9.ops T.D8 (E5 (vaV (ecEN (NY:=["room", "key", "plan"]) (src:=[none,none,some 0]) 1 T.Cz (blk (λ j C r H0 s=>(Il (n:=2) rfl (Hj (Bi 0 (show (["room", "key", "plan"]:List Str).Nodup by decide +kernel)) (Hj (Bi 1 (show (["room", "key", "plan"]:List Str).Nodup by decide +kernel)) Ik)))) (λ j C r H0 s=>Gd) (λ j C r H0 s=>(F8 (qa5 (v2 (Ba qr5 (qb1 _)) qw9 (vnm 1) Bb)) (Ii (e2v (Ba Bk (qb1 _)) Bo (qi3 2 T.d11 T.C7.cl (qi9 T) qA9 (rm O) (vaN 1 (vaN 0 Ad))) Af)))))) Ad))))),λ L Q M h=>?_⟩);obtain⟨d,⟨z,n,wr,b,o,g,rfl,S,n2,t,u,rfl⟩,q⟩:=h;refine As [Aa z a.C3 n wr b,.lst o g] rfl ?_;have U:D.imms g=true:=qaB1 (p:=λ i v=>∃ k,v=.int k/\Al k/\A5 n wr b k (i:Nat)≠none) λ i v h=>by
   rcases u i v h with h | ⟨k,B,V,W⟩
   . exact .inl h
   exact .inr ⟨k,B,k,B,V,W⟩
 refine qh0 ?_;refine⟨U,?_⟩;refine qm5 (λ ι=>∃ l m,ι=[l,m,Aa z a.C3 n wr b]) (λ y=>some (.bl (farP n wr b y))) (enD g) [] _ (by show 0+(enD g).length < big;rw[qaC3,t];unfold big;lia) ⟨_,_,rfl⟩ ?_ ?_
 . rintro y X ι Y ⟨l,m,rfl⟩ R G c
   obtain⟨i,v,rfl,I⟩:=qaU7 X;have Z:i < n.toNat:=by rw[<- t];exact(zA2.mp I).1
   refine qR0 (qav3 (Eg rfl ?_));rcases u i v I with rfl | ⟨k,rfl,hk,hf⟩
   . exact E7 false rfl (λ h=>nomatch h) λ _=>⟨c,G _ ⟨_,_,rfl⟩⟩
   refine E7 true rfl (λ _=>?_) λ h=>nomatch h
   refine qan6 (p:=Aa z a.C3 n wr b) (x:=.int k) (y:=.int (i:Nat)) rfl (qf3 rfl) rfl rfl rfl rfl (qap1 S hk (by lia) (by lia)) rfl ?_;have this:=G _ ⟨.int (i:Nat),.int k,rfl⟩;cases J:A5 n wr b k (i:Nat) with
   | none=>exact absurd J hf
   | some f =>
     have e:farP n wr b (.tup [.int (i:Nat),.int k])=decide (0 < f):=by
       show (match A5 n wr b k (i:Nat) with | some f=>decide (0 < f) | none=>false)=_;rw[J]
     rw[e] at this;exact qa1 (a:=D.bl (decide (0 < f))) rfl ⟨c,this⟩
 rintro ι ⟨l,m,rfl⟩;rw[zB8,qai5];exact qa1 (qaN9 (farP n wr b) (enD g)) q
theorem qu0:qa8 ["plan", "rooms", "room", "word"] ["plan", "rooms"] (qa3 qz1):=by walk_at "s"
def Hn(n:Int)(wr:Bool)(ps:Pr)(ys:Ds):Option (Str×Nat):=(List.range n.toNat).findSome? λ r=>(Bs n wr ps ys r).map λ w=>(w,r)
def qap0(n:Int)(wr:Bool)(ps:Pr)(ys:Ds):D:=match Hn n wr ps ys with
 | some (w,r)=>.tup [.str w,.int (r:Nat)]
 | none=>if qq9 n wr ps ys=true then .tup [.str "turned",.int 0] else .non
theorem qI6{n:Int}{wr:Bool}{ps:Pr}{v:D}(c:ys[r]? = some v)(h:Bs n wr ps ys r=none):v=.non∨∃ k,v=.int k/\Al k/\A5 n wr ps k (r:Nat)≠none:=by
 have d:atD ys r=v:=by unfold atD;rw[c];rfl
 unfold Bs at h;rw[d] at h;cases v with
 | non=>exact .inl rfl
 | int k =>
   have h:(if (D.int k).num=true then (if (ys.take r).any (qB1 k)=true then (some "twice" : Option Str) else match A5 n wr ps k (r:Int) with
     | none=>some "home"
     | some f=>if f=0 then none else Ei n wr ps (Row.prev n.toNat r) (atD ys (Row.prev n.toNat r)) k) else some "key")=(none:Option Str):=h
   by_cases a:(D.int k).num=true
   . rw[if_pos a] at h
     obtain⟨i,e,b⟩:=qH0 a;cases e;refine .inr ⟨k,rfl,b,λ g=>?_⟩;rw[g] at h;split at h<;>cases h
   rw[if_neg a] at h;cases h
 | _=>cases h
theorem qL6{α:Type}{r:Nat}{f:Nat->Option α}{a:α}:∀{N:Nat},r < N->(∀ i,i < r->f i=none)->f r=some a->(List.range N).findSome? f=some a
 | 0,hr,_,_=>absurd hr (Nat.not_lt_zero _)
 | N+1,hr,h0,h=>by
   rw[List.range_succ,List.findSome?_append];by_cases b:r < N
   . rw[qL6 b h0 h];rfl
   have e:r=N:=by lia
   subst e;rw[List.findSome?_eq_none_iff.mpr λ i c=>h0 i (zAn.mp c)];show [r].findSome? f=_;rw[List.findSome?_cons,h]
theorem qV1{f:Nat->Option α}(a:∀ i,i < N->f i=none):(List.range N).findSome? f=none:=List.findSome?_eq_none_iff.mpr λ i b=>a i (zAn.mp b)
def qX8(C:Addr):VSp:=Ax λ ds d=>∃ z n wr ps z' ys,ds=[Aa z C n wr ps,.lst z' ys]/\1<=n/\n<=64/\ys.length=n.toNat/\(∀ y∈ys,∃ t,y.kind=some t)/\D.imms ys=true/\d=qap0 n wr ps ys
theorem qZ2(T:Txt K mg a):VFn P w K mg base 9 a.f17 a.d17 ["plan", "rooms"] (qX8 a.C3):=by
 refine VFn.mk2 T.d17.F qu0 (wOf [true,true]) qb2 (λ o Q M h=>by obtain⟨d,⟨z,n,wr,f,g,c,e,_⟩,_⟩:=h;rw[e];exact⟨rfl,rfl⟩) (λ N A outer Z H E av B=>⟨_,(Ac (sif (tor (Bp (tv (vbi qq8 qR7.ops T.Cb (qa2 (vnm 1) (qa2 (vty "list" T.Cp) qa7 rfl) rfl)))) (tor1 (q2 (An (qJ9 B.u64) (qb1 _)) F4 (vbi qt1 qt0.ops T.Co (qa2 (vnm 1) qa7 rfl)) (Be rfl (vnm 0) T.C7.cl T.C9)))).te
     (Ag (Aq (qa5 (Ep (qa2 Eo (qa2 Af qa7 rfl) rfl)))))
     Au)
     (Ac (qY4 PassesOwn.leaving T.Cr (E5 (vaV (qc2 (Be rfl (vnm 0) T.C7.cl T.C9)) Ad)) (Bi 2 qu0.nd)
     (Ac (Ak 3 qu0.nd (Aj T.d15 (qZ0 T) qa0 (rm B) (vaN 0 (vaN 1 (vaN 2 Ad)))))
     (Ag (sif (q2 (An qr5 (qb1 _)) qw9 (vnm 3) Bb)
     (Ag (Aq (qa5 (Ep (qa2 (vnm 3) (qa2 (vnm 2) qa7 rfl) rfl)))))
     Au))))
     (Ag (Aq (eif (te (Aj T.d16 (qQ0 T) qa0 (rm B) (vaN 0 (vaN 1 Ad)))) (qa5 (Ep (qa2 Eo (qa2 Af qa7 rfl) rfl))) (qa5 Bb)))))),λ o Q M h=>?_⟩)
 obtain⟨d,⟨z,n,wr,f,g,c,rfl,J,O,C,G,S,rfl⟩,q⟩:=h;refine As [Aa z a.C3 n wr f,.lst g c,.unk,.unk] rfl ?_;have s:f2 gNe (A8 (fx1 F5) (Ay (rdN 1) λ _=>some [])) (f1 (D.fld a.C3 "rooms") (rdN 0)) [Aa z a.C3 n wr f,.lst g c,.unk,.unk]=some (.bl false):=Ae (qq4 rfl) (Av rfl qc8) (by
   show some (D.bl (!((c.length:Nat):Int) == n))=_;rw[show ((c.length:Nat):Int)=n by lia,zBk];rfl)
 refine qj0 false (λ Q q=>qab2 false false (λ Q q=>qx7 (qah2 rfl) q) (λ _ Q q=>ql3 s q) q) (λ h=>nomatch h) λ _=>?_
 refine qd1 (λ o=>(∀ i,i < n.toNat->Bs n wr f c i=none)/\∃ d t,o=[Aa z a.C3 n wr f,.lst g c,d,t]) (λ K p=>?_) ?_
 . refine qR2 (Av rfl qc8) (qZ7 (by lia) (by lia)) ?_
   refine qg1 (λ i o=>(∀ j,j < i->Bs n wr f c j=none)/\∃ d t,o=[Aa z a.C3 n wr f,.lst g c,d,t]) _ 0 _ ⟨λ j u=>absurd u (Nat.not_lt_zero _),_,_,rfl⟩ ?_ ?_
   . rintro j x U o ⟨l,d,t,rfl⟩ K p
     rw[zAh] at l p;obtain⟨u,rfl⟩:=qY7 U;have R:Rm n c j:=⟨C,G,S,λ i y m V=>by
       rcases qI6 V (l i m) with h | ⟨k,W,X,_⟩
       . exact .inl h
       exact .inr ⟨k,W,X⟩⟩
     refine qb0 [Aa z a.C3 n wr f,.lst g c,.int (j:Nat),Gi (Bs n wr f c j)] (λ K p=>qZ9 (x:=Aa z a.C3 n wr f) (y:=.lst g c) (w:=.int (j:Nat)) rfl rfl rfl rfl rfl ⟨z,n,wr,f,g,c,j,rfl,J,u,R,rfl⟩ rfl p) ?_;cases e:Bs n wr f c j with
     | none =>
       refine if_v (b:=false) rfl (λ h=>nomatch h) λ _=>p _ ⟨λ i m=>?_,_,_,rfl⟩
       rcases Nat.lt_succ_iff_lt_or_eq.mp m with h | rfl
       . exact l i h
       exact e
     | some w =>
       have I:Hn n wr f c=some (w,j):=qL6 u (λ i m=>by rw[l i m];rfl) (by rw[e];rfl);have q:Q (match Hn n wr f c with | some (w,r)=>.tup [.str w,.int (r:Nat)] | none=>if qq9 n wr f c=true then .tup [.str "turned",.int 0] else .non) [Aa z a.C3 n wr f,.lst g c]:=q;rw[I] at q;exact if_v (b:=true) rfl (λ _=>q) λ h=>nomatch h
   rintro o ⟨l,Y⟩;refine p _ ⟨λ i m=>l i ?_,Y⟩;unfold Dl;rw[zA7,zB7,zAh];exact m
 rintro o ⟨l,d,t,rfl⟩;have I:Hn n wr f c=none:=qV1 λ i m=>by rw[l i m];rfl
 have q:Q (match Hn n wr f c with | some (w,r)=>.tup [.str w,.int (r:Nat)] | none=>if qq9 n wr f c=true then .tup [.str "turned",.int 0] else .non) [Aa z a.C3 n wr f,.lst g c]:=q;rw[I] at q;refine qh0 ?_;refine qH5 (x:=Aa z a.C3 n wr f) (y:=.lst g c) (d:=.bl (qq9 n wr f c)) rfl rfl rfl ⟨z,n,wr,f,g,c,rfl,J,O,C,λ i v L=>qI6 L (l i (by rw[<- C];exact(zA2.mp L).1)),rfl⟩ rfl ?_;refine qa1 (a:=qq9 n wr f c) rfl (ite_b (λ h=>?_) λ h=>?_)
 . have q:Q (if qq9 n wr f c=true then .tup [.str "turned",.int 0] else .non) [Aa z a.C3 n wr f,.lst g c]:=q
   rw[if_pos h] at q;exact q
 have q:Q (if qq9 n wr f c=true then .tup [.str "turned",.int 0] else .non) [Aa z a.C3 n wr f,.lst g c]:=q;rw[if_neg (by rw[h];decide)] at q;exact q
theorem qu1:qa8 ["self", "plan", "rooms", "held", "fault"] ["self", "plan", "rooms"] (qa3 qz5):=by walk_at "s"
theorem qaD0{g:Nat->Option Int}(h:r < N):atD (rlD N g) r=B9 (g r):=by unfold atD;rw[qL3 h];rfl
theorem qaE1{g:Nat->Option Int}(h:r<=N):(rlD N g).take r=rlD r g:=by
 unfold rlD;rw[<- List.map_take,List.take_range,Nat.min_eq_left h]
theorem qaW0{g:Nat->Option Int}:(rlD r g).any (qB1 k)=true↔∃ j,j < r/\g j=some k:=by
 unfold rlD;rw[List.any_map,List.any_eq_true];constructor
 . rintro⟨j,a,e⟩
   refine⟨j,zAn.mp a,?_⟩;have e:qB1 k (B9 (g j))=true:=e;cases h:g j with
   | none=>rw[h] at e;cases e
   | some x=>rw[h] at e;rw[zA8 (show decide (x=k)=true from e)]
 rintro⟨j,a,e⟩;refine⟨j,zAn.mpr a,?_⟩;show qB1 k (B9 (g j))=true;rw[e];exact zAj rfl
theorem qaD2{n:Int}{wr:Bool}{ps:Pr}{g:Nat->Option Int}(a:r < n.toNat)(b:g r=some k)(c:Al k):Bs n wr ps (rlD n.toNat g) r=(if (rlD r g).any (qB1 k)=true then (some "twice" : Option Str) else match A5 n wr ps k (r:Int) with
   | none=>some "home"
   | some f=>if f=0 then none else Ei n wr ps (Row.prev n.toNat r) (B9 (g (Row.prev n.toNat r))) k):=by
 unfold Bs;rw[qaD0 a,qaD0 (Row.qi7 a),qaE1 (zCa a),b];show (if (D.int k).num=true then _ else _)=_;rw[if_pos (qv5 c)]
 try rfl
theorem qaM5{v:D}(h:ys[i]? = some v):D.tup [.int (i:Nat),v]∈enD ys:=zBd.mpr ⟨(v,i),List.mem_zipIdx_iff_getElem?.mpr h,rfl⟩
theorem qah0{n:Int}{wr:Bool}{ps:Pr}{g:Nat->Option Int}(m:1<=n)(KP:Kept n.toNat wr (hmOf n ps) g S)(t:∀ k∈S,Al k):qap0 n wr ps (rlD n.toNat g)=.non:=by
 have p:∀{i k},i < n.toNat->g i=some k->Al k:=λ{i k} l h=>t k ((KP.h.2 k).mpr ⟨i,l,h⟩)
 have b:Hn n wr ps (rlD n.toNat g)=none:=qV1 λ r d=>by
   have:Bs n wr ps (rlD n.toNat g) r=none:=by
     cases a:g r with
     | none=>unfold Bs;rw[qaD0 d,a];rfl
     | some k =>
       have q:=Row.qi7 d;rw[qaD2 d a (p d a),if_neg (λ z=>by
         obtain⟨j,A,e⟩:=qaW0.mp z
         have:=KP.o.inj j r k (by lia) d e a
         lia),qL7 m d (λ b=>KP.ln b r k d a)]
       show (if ((Ab n.toNat (hmOf n ps k) r:Nat):Int)=0 then none else _)=_;by_cases B:Ab n.toNat (hmOf n ps k) r=0
       . rw[if_pos (by lia)]
       obtain⟨x,s,u⟩:=KP.o.ord r k d a (by lia);rw[if_neg (by lia),s];show (if (D.int x).num=true then (if ql2 n wr ps (Row.prev n.toNat r:Nat) x k=true then (none:Option Str) else some "order") else none)=none;have v:=Dn (ps:=ps) m k;rw[if_pos (qv5 (p q s)),if_pos ((qI5 (ps:=ps) m q (λ b=>KP.ln b _ x q s) (λ b=>by
         have C:=KP.ln b r k d a;have E:=dor n.toNat (hmOf n ps k) r;have F:=por n.toNat r
         lia)).mpr u)]
   rw[this];rfl
 have w:qq9 n wr ps (rlD n.toNat g)=false:=by
   obtain⟨i,l,y⟩:=KP.c;refine List.all_eq_false.mpr ⟨_,qaM5 (qL3 l),?_⟩;cases a:g i with
   | none=>exact λ h=>by cases h
   | some k =>
     show ¬ (match A5 n wr ps k (i:Nat) with | some f=>decide (0 < f) | none=>false)=true;rw[qL7 m l (λ b=>KP.ln b i k l a),(qb5 (Dn m k) l).mpr (y k a).symm];exact λ h=>by cases h
 unfold qap0;rw[b,w];rfl
def rowD(zr:Bool)(C CP:Addr)(n:Int)(wr:Bool)(ps:Pr)(g:Nat->Option Int)(dn:Ds):D:=.ins zr C [("plan",Aa true CP n wr ps),("held",.lst zr (rlD n.toNat g)),("done",.lst zr dn)]
section
variable{zr:Bool}{C CP:Addr}{n:Int}{wr:Bool}{ps:Pr}{g:Nat->Option Int}{dn:Ds}
theorem qm7:D.fld C "plan" (rowD zr C CP n wr ps g dn)=some (Aa true CP n wr ps):=qB3 (by rfl)
theorem qx8:D.fld C "held" (rowD zr C CP n wr ps g dn)=some (.lst zr (rlD n.toNat g)):=qB3 (by rfl)
theorem qh4(h:([("plan",Aa true CP n wr ps),("held",.lst zr (rlD n.toNat g)),("done",.lst zr dn)]:List (Str×D)).lookup m=none):(rowD zr C CP n wr ps g dn).isM C m=true:=qah3 h
end
theorem qI3{zr:Bool}{C CP:Addr}{n:Int}{wr:Bool}{ps:Pr}{g:Nat->Option Int}{dn:Ds}:D.fidx C "held" (rowD zr C CP n wr ps g dn)=some 1:=by
 show (if C=C then List.findIdx? (λ q:Str×D=>("held" : Str) == q.1) [("plan",Aa true CP n wr ps),("held",.lst zr (rlD n.toNat g)),("done",.lst zr dn)] else none)=_;rw[if_pos rfl];rfl
theorem qaV5{p:List Nat}{w:V}{d0:D}(h:A4 ds i p=some (.hole w)):bk1 i p w d0 ds=some (Bc ds i p d0):=by
 unfold bk1 Am;rw[h];simp only[if_true];unfold Am;rfl
theorem qR3{C:Addr}{f:Str}(h:te ds (λ d ds1=>orF (pf ds1) λ q=>orF ((A4 ds1 q.1 q.2).bind (D.ownI C)) λ fs=>fs.length < 100/\e.nx (Bc ds1 q.1 q.2 (.ins false C (E2 f d fs)))) e.xe):sFldV C f te pf e ds:=h
theorem mv_to(h:rdN i ds=some d)(q:Q d (ds.set i .unk)):tMv i ds Q xe:=qa1 h q
theorem qaL2{zr:Bool}{C CP:Addr}{n:Int}{wr:Bool}{ps:Pr}{g:Nat->Option Int}{dn:Ds}:(rowD zr C CP n wr ps g dn).isC C=some (.bl true):=if_pos rfl
theorem qJ5{zr:Bool}{C CP:Addr}{n:Int}{wr:Bool}{ps:Pr}{g:Nat->Option Int}{dn:Ds}(h:∀ i,i < n.toNat->g i=g' i):rowD zr C CP n wr ps g dn=rowD zr C CP n wr ps g' dn:=by
 unfold rowD;rw[qk0 h]
def qY1(C CP:Addr):VSp:=λ ds Q _=>∃ n wr ps r g S,ds=[.ins false C [],Aa true CP n wr ps,r]/\1<=n/\n<=64/\(∀ k∈S,Al k)/\Kept n.toNat wr (hmOf n ps) g S/\(r=.non/\g=(λ _=>none)∨∃ z,r=.lst z (rlD n.toNat g))/\Q .non [rowD false C CP n wr ps g [],Aa true CP n wr ps,r]
theorem qv3(T:Txt K mg a):VFn P w K mg base 10 a.f26 a.d26 ["self", "plan", "rooms"] (qY1 a.C5 a.C3):=by
 refine VFn.mkE T.d26.F qu1 (wOf [true,true,true]) (λ j Q Q' l p s _ h=>by obtain⟨n,wr,c,r,g,S,e,t,u,v,B,C,q⟩:=h;exact⟨n,wr,c,r,g,S,e,t,u,v,B,C,s _ _ q⟩) (λ j Q l h=>by obtain⟨n,wr,c,r,g,S,e,_⟩:=h;rw[e];rfl) (λ j Q l h=>by obtain⟨n,wr,c,r,g,S,e,_⟩:=h;rw[e];rfl) (λ D A outer L H E M i=>⟨_,(Ac (sif (Bp (tv (vbi (qaj4 T.D7 T.C7.cl) qaM8.ops T.Cb (qa2 (vnm 1) (qa2 (vcls a.C3 T.C7.m) qa7 rfl) rfl))))
     (Ag qi6)
     Au)
     (Ac (sif (Ig (q2 (An qr5 (qb1 _)) qw9 (vnm 2) Bb) (F7 (Bp (tv (vbi qq8 qR7.ops T.Cb (qa2 (vnm 2) (qa2 (vty "list" T.Cp) qa7 rfl) rfl)))))).te
     (Ag qi6)
     Au)
     (Ac (Ak 3 qu1.nd (eif (q2 (An Ef (qb1 _)) Ee (vnm 2) Bb) (qa5 (v2 (Ah qp7) qp5 (Di (qa2 Bb qa7 rfl)) (Be rfl (vnm 1) T.C7.cl T.C9))) (qa5 (Fp qf4 qE9.ops T.Cp (qa2 (vnm 2) qa7 rfl)))))
     (Ac (Ak 4 qu1.nd (Aj T.d17 (qZ2 T) qa0 (rm i) (vaN 1 (vaN 3 Ad))))
     (Ac (sif (q2 (An qr5 (qb1 _)) qw9 (vnm 4) Bb)
     (Ag qi6)
     Au)
     (Ac (E3 rfl (vpn 0) (qc2 (vnm 1)) T.C8.cl T.Cg)
     (Ac (E3 rfl (vpn 0) (emv 3) T.C8.cl T.Cd)
     (Ag (E3 rfl (vpn 0) (qa5 (Di qa7)) T.C8.cl T.Ct))))))))),λ j Q l h=>?_⟩)
 obtain⟨n,wr,c,r,g,S,rfl,o,G,I,KP,i,q⟩:=h;have N:r.known=true:=by
   rcases i with⟨rfl,_⟩ | ⟨z,rfl⟩<;>rfl
 refine As [.ins false a.C5 [],Aa true a.C3 n wr c,r,.unk,.unk] rfl ?_;refine qat9 (show Ie a.C3 (Aa true a.C3 n wr c) (.adr a.C3)=some (.bl true) from qaB0) ?_;refine qj0 false (λ Q q=>?_) (λ h=>(nomatch h)) λ _=>?_
 . rcases i with⟨rfl,_⟩ | ⟨z,rfl⟩
   . exact qo6 false false (λ Q q=>ql3 (b:=false) (Ae rfl rfl rfl) q) (λ h=>(nomatch h)) q
   exact qo6 true false (λ Q q=>ql3 (b:=true) (Ae rfl rfl rfl) q) (λ _ Q q=>qx7 (b:=true) (qah2 rfl) q) q
 refine qb0 [.ins false a.C5 [],Aa true a.C3 n wr c,r,.lst false (rlD n.toNat g),.unk] (λ K f=>qg2 ?_) ?_
 . rcases i with⟨rfl,rfl⟩ | ⟨z,rfl⟩
   . exact Fj (b:=true) (Ae rfl rfl rfl) (λ _=>qr8 (Ae rfl (Av rfl qc8) (qQ5 (by lia) G)) f) λ h=>(nomatch h)
   exact Fj (b:=false) (Ae rfl rfl rfl) (λ h=>(nomatch h)) λ _=>qr8 (d:=.lst false (rlD n.toNat g)) (show G3 (.lst z (rlD n.toNat g))=_ from qk7 (qK8 _ _)) f
 refine qb0 [.ins false a.C5 [],Aa true a.C3 n wr c,r,.lst false (rlD n.toNat g),.non] (λ K f=>qg2 ?_) ?_
 . refine qH5 (x:=Aa true a.C3 n wr c) (y:=.lst false (rlD n.toNat g)) (d:=qap0 n wr c (rlD n.toNat g)) rfl rfl rfl ⟨true,n,wr,c,false,rlD n.toNat g,rfl,o,by lia,qA8 _ _,λ y J=>?_,qK8 _ _,rfl⟩ rfl ?_
   . rcases qam4 J with rfl | ⟨k,rfl⟩
     . exact⟨_,rfl⟩
     exact⟨_,rfl⟩
   rw[qah0 o KP I];exact f
 refine qj0 false (λ Q q=>ql3 (b:=false) (Ae rfl rfl rfl) q) (λ h=>(nomatch h)) λ _=>?_
 refine qb0 [.ins false a.C5 [("plan",Aa true a.C3 n wr c)],Aa true a.C3 n wr c,r,.lst false (rlD n.toNat g),.non] (λ K f=>qR3 (qI1 (d:=Aa true a.C3 n wr c) rfl rfl (qa1 (a:=(0,[])) rfl (qa1 qe4 ⟨by decide,f⟩)))) ?_;refine qb0 [.ins false a.C5 [("plan",Aa true a.C3 n wr c),("held",.lst false (rlD n.toNat g))],Aa true a.C3 n wr c,r,.unk,.non] (λ K f=>qR3 (mv_to (d:=.lst false (rlD n.toNat g)) rfl (qa1 (a:=(0,[])) rfl (qa1 qe4 ⟨by show 1 < 100;decide,f⟩)))) ?_;exact qR3 (qr8 (d:=.lst false []) rfl (qa1 (a:=(0,[])) rfl (qa1 qe4 ⟨by show 2 < 100;decide,q⟩)))
theorem qw8:qa8 ["self"] ["self"] (qa3 qg9):=by walk_at "s"
def qw6(C CP:Addr):VSp:=Ax λ ds d=>∃ zr n wr ps g dn,ds=[rowD zr C CP n wr ps g dn]/\d=.lst false (rlD n.toNat g)
theorem qc0(T:Txt K mg a):VFn P w K mg base 1 a.f27 a.d27 ["self"] (qw6 a.C5 a.C3):=by
 refine VFn.mk2 T.d27.F qw8 (wOf [true]) qb2 (λ i Q j h=>by obtain⟨d,⟨b,n,wr,c,g,f,e,_⟩,_⟩:=h;rw[e];exact⟨rfl,rfl⟩) (λ k A outer l H E m o=>⟨_,(Ag (Aq (qa5 (Fp qf4 qE9.ops T.Cp (qa2 (Be rfl (vnm 0) T.C8.cl T.Cd) qa7 rfl))))),λ i Q j h=>?_⟩);obtain⟨d,⟨b,n,wr,c,g,f,rfl,rfl⟩,q⟩:=h;refine As [rowD b a.C5 a.C3 n wr c g f] rfl ?_;refine ql0 (.lst false (rlD n.toNat g)) ?_ q;unfold A8 Ay;rw[Av rfl qx8];exact qk7 (qK8 _ _)
theorem qu2:qa8 ["self"] ["self"] (qa3 qf8):=by walk_at "s"
def qt5(C:Addr):VSp:=Ax λ ds d=>∃ z n wr ps,ds=[Aa z C n wr ps]/\d=.lst false (prD ps)
theorem qaA9{z:Bool}{ps:Pr}:qaL9 (.dct z (kvD ps))=some (.lst false (prD ps)):=by
 have b:((kvD ps).map λ a=>D.tup [keyD a.1,a.2])=prD ps:=by
   unfold kvD prD;rw[zBr];rfl
 show gd (D.imms ((kvD ps).map (·.2))=true) (.lst false ((kvD ps).map λ a=>D.tup [keyD a.1,a.2]))=_;rw[b];refine qk7 ?_;unfold kvD;rw[zBr];exact qI0 (λ _=>rfl) ps
theorem qv4(T:Txt K mg a):VFn P w K mg base 1 a.f8 a.d8 ["self"] (qt5 a.C3):=by
 refine VFn.mk2 T.d8.F qu2 (wOf [true]) qb2 (λ c Q f h=>by obtain⟨d,⟨z,n,wr,b,e,_⟩,_⟩:=h;rw[e];exact⟨rfl,rfl⟩) (λ g A outer i H E j k=>⟨_,(Ag (Aq (qa5 (qaD5 T.Cp (Be rfl (vnm 0) T.C7.cl T.Cf))))),λ c Q f h=>?_⟩);obtain⟨d,⟨z,n,wr,b,rfl,rfl⟩,q⟩:=h;exact ql0 (.lst false (prD b)) (Av (Av rfl qE7) qaA9) q
theorem qy7:qa8 ["self"] ["self"] (qa3 qi2):=by walk_at "s"
noncomputable def Gj(y:D):Option D:=match y with
 | .int k=>some (.int k)
 | _=>none
theorem qah1(N:Nat)(g:Nat->Option Int):(rlD N g).filterMap Gj=ksD ((List.range N).filterMap g):=by
 unfold rlD ksD;rw[List.filterMap_map,List.map_filterMap];refine congrArg (λ f=>List.filterMap f (List.range N)) (funext λ i=>?_);show Gj (B9 (g i))=(g i).map D.int;cases g i<;>rfl
def qy2(C CP:Addr):VSp:=Ax λ ds d=>∃ zr n wr ps g dn,ds=[rowD zr C CP n wr ps g dn]/\n<=64/\d=.lst false (ksD ((List.range n.toNat).filterMap g))
theorem qh3(T:Txt K mg a):VFn P w K mg base 1 a.f28 a.d28 ["self"] (qy2 a.C5 a.C3):=by
 refine VFn.mk2 T.d28.F qy7 (wOf [true]) qb2 (λ t Q u h=>by obtain⟨d,⟨p,n,wr,r,g,s,e,_⟩,_⟩:=h;rw[e];exact⟨rfl,rfl⟩) (λ v A outer x H E i z=>⟨_,(Ag (Aq (eAlt (ecP (NY:=["key"]) (src:=[none]) (Bq rfl (vpn 0) T.C8.cl T.Cd) (blk (λ i C j H0 l=>(Bi 0 (show (["key"]:List Str).Nodup by decide +kernel))) (λ i C j H0 l=>(Ge (q2 (An qr5 (qb1 _)) qw9 (vnm 0) Bb))) (λ i C j H0 l=>(qc2 (vnm 0))))) (ecL (NY:=["key"]) (src:=[none]) (qc2 (Be rfl (vnm 0) T.C8.cl T.Cd)) (blk (λ i C j H0 l=>(Bi 0 (show (["key"]:List Str).Nodup by decide +kernel))) (λ i C j H0 l=>(Ge (q2 (An qr5 (qb1 _)) qw9 (vnm 0) Bb))) (λ i C j H0 l=>(qc2 (vnm 0)))))))),λ t Q u h=>?_⟩);obtain⟨d,⟨p,n,wr,r,g,s,rfl,B,rfl⟩,q⟩:=h;refine As [rowD p a.C5 a.C3 n wr r g s] rfl ?_;have step:∀(y:D),y∈rlD n.toNat g->∀(d:D)(c:Ds)(R:Ds->Ds->Prop),(∀ ι',(∃ d,ι'=[d])->R (c++(Gj y).toList) ι')->c.length < big->gNm 0 y [d] λ ι1=>ttV (f2 gIsn (rdN 0) (kC .non)) ι1 (λ b ι2=>if b=true then Bw (rdN 0) ι2 (λ d ι3=>c.length < big/\R (c++[d]) ι3) (λ _ _=>False) else R c ι2) (λ _ _=>False):=λ y m d c R o f=>by
   have this:=o [y] ⟨_,rfl⟩;refine qx4 ?_;rcases qam4 m with rfl | ⟨k,rfl⟩
   . have this:R (c++[]) _:=this
     rw[zAg] at this;exact ql3 (b:=false) (Ae rfl rfl rfl) (ite_f (by decide) this)
   exact ql3 (b:=true) (Ae rfl rfl rfl) (Eg rfl (qI1 (d:=.int k) rfl rfl ⟨f,this⟩))
 cases p with
 | false =>
   refine qh0 (.inl (qa1 (a:=(0,[1])) (by show (D.fidx a.C5 "held" (rowD false a.C5 a.C3 n wr r g s)).map (λ n=>(0,[n]))=_;rw[qI3];rfl) (qa1 (a:=D.lst false (rlD n.toNat g)) rfl (qa1 (a:=rlD n.toNat g) rfl ⟨qK8 _ _,λ w=>?_⟩))));refine qm5 (λ ι=>∃ d,ι=[d]) Gj _ [] _ (by show 0+_ < 1000000;rw[qA8];lia) ⟨_,rfl⟩ (λ y m ι c ⟨d,e⟩ R o f=>e ▸ step y m d c R o f) ?_;rintro ι ⟨d,rfl⟩;rw[qah1,zB8];exact qa1 (qaV5 rfl) q
 | true =>
   refine qh0 (.inr (qI1 (d:=.lst true (rlD n.toNat g)) (Av rfl qx8) rfl (qa1 (a:=rlD n.toNat g) rfl ⟨qK8 _ _,?_⟩)));refine qm5 (λ ι=>∃ d,ι=[d]) Gj _ [] _ (by show 0+_ < 1000000;rw[qA8];lia) ⟨_,rfl⟩ (λ y m ι c ⟨d,e⟩ R o f=>e ▸ step y m d c R o f) ?_;rintro ι ⟨d,rfl⟩;rw[qah1,zB8];exact q
theorem qP2:qa8 ["plan", "keys", "room"] ["plan", "keys", "room"] (qa3 qv0):=by walk_at "s"
def qO4(C:Addr):VSp:=Ax λ ds d=>∃ z n wr ps z' ks r,ds=[Aa z C n wr ps,.lst z' (ksD ks),.int r]/\1<=n/\(∀ k∈ks,Al k)/\ks.length<=1000/\d=.bl (if wr=true then decide (r=0)&&decide (n < (ks.length:Int)) else decide (n - r < ((ks.filter λ k=>decide (r<=qc6 n ps k)).length:Int)))
theorem qQ3(T:Txt K mg a):VFn P w K mg base 5 a.f18 a.d18 ["plan", "keys", "room"] (qO4 a.C3):=by
 refine VFn.mk2 T.d18.F qP2 (wOf [true,true,true]) qb2 (λ u Q v h=>by obtain⟨d,⟨z,n,wr,b,g,c,r,e,_⟩,_⟩:=h;rw[e];exact⟨rfl,rfl⟩) (λ B A outer M H E i o=>⟨_,(Ac (sif (tv (Be rfl (vnm 0) T.C7.cl T.Ce))
     (Ag (Aq (qa5 (vand (v2 (Ba (qA1 o.u64) (qb1 _)) Dq (vnm 2) Af) (vone (v2 (Ba Bk (qb1 _)) Bo (vbi qt1 qt0.ops T.Co (qa2 (vnm 1) qa7 rfl)) (Be rfl (vnm 0) T.C7.cl T.C9)))))))
     Au)
     (Ag (Aq (e2v (Ba Bk (qb1 _)) Bo (ebi qt1 qt0.ops T.Co (E5 (vaV (ecN (NY:=["key", "room", "plan"]) (src:=[none,some 2,some 0]) 1 (blk (λ i C s H0 t=>(Bi 0 (show (["key", "room", "plan"]:List Str).Nodup by decide +kernel))) (λ i C s H0 t=>(Ge (q2v (Ba Gy (qb1 _)) (An Gy (qb1 _)) Ia (qi3 2 T.d10 T.C7.cl (qq1 T) qA9 (rm o) (vaN 0 Ad)) (vnm 1)))) (λ i C s H0 t=>(qc2 (vnm 0))))) Ad))) (v2 (Ah qC9) qC8 (Be rfl (vnm 0) T.C7.cl T.C9) (vnm 2)))))),λ u Q v h=>?_⟩)
 obtain⟨d,⟨z,n,wr,b,g,c,r,rfl,G,I,N,rfl⟩,q⟩:=h;refine As [Aa z a.C3 n wr b,.lst g (ksD c),.int r] rfl ?_;refine qm0 wr (Av rfl qs7) (λ h=>?_) λ h=>?_
 . rw[if_pos h] at q
   have j:f2 gGt (A8 (fx1 F5) (Ay (rdN 1) λ _=>some [])) (f1 (D.fld a.C3 "rooms") (rdN 0)) [Aa z a.C3 n wr b,.lst g (ksD c),.int r]=some (.bl (decide (n < (c.length:Int)))):=Ae (qq4 rfl) (Av rfl qc8) (by rw[qh7];rfl);exact ql0 _ (qau5 (a:=decide (r=0)) rfl j) q
 rw[if_neg (by rw[h];decide)] at q;refine qh0 ?_;refine⟨qh9 c,?_⟩;refine qm5 (λ ι=>∃ d,ι=[d,.int r,Aa z a.C3 n wr b]) (Fk λ k=>decide (r<=qc6 n b k)) (ksD c) [] _ (by show 0+(ksD c).length < big;rw[qh7];unfold big;lia) ⟨_,rfl⟩ ?_ ?_
 . rintro y J ι l ⟨d,rfl⟩ R L f
   obtain⟨k,m,rfl⟩:=zBd.mp J;refine qQ6 (p:=Aa z a.C3 n wr b) (x:=.int k) (d:=.int (qc6 n b k)) rfl (qf3 rfl) rfl rfl ⟨z,n,wr,b,k,rfl,G,I k m,rfl⟩ rfl ?_;have this:=L _ ⟨.int k,rfl⟩;refine qa1 (a:=D.bl (decide (r<=qc6 n b k))) rfl (qa1 (a:=decide (r<=qc6 n b k)) rfl (ite_b (λ h=>?_) λ h=>?_))
   . rw[qat4 (p:=λ k=>decide (r<=qc6 n b k)) h] at this
     exact⟨rfl,f,this⟩
   rw[qat5 (p:=λ k=>decide (r<=qc6 n b k)) h] at this;have this:R (l++[]) _:=this;rw[zAg] at this;exact this
 rintro ι ⟨d,rfl⟩;rw[zB8,qQ9];refine qa1 (a:=D.bl (decide (n - r < ((c.filter λ k=>decide (r<=qc6 n b k)).length:Int)))) ?_ q;show (f2 gSub (f1 (D.fld a.C3 "rooms") (rdN 0)) (rdN 2) [Aa z a.C3 n wr b,.lst g (ksD c),.int r]).bind (gGt (D.int ((ksD (c.filter λ k=>decide (r<=qc6 n b k))).length:Nat)))=_;rw[Ae (Av rfl qc8) rfl rfl,qh7];rfl
theorem qn8:qa8 ["plan", "keys", "room"] ["plan", "keys"] (qa3 qj6):=by walk_at "s"
def qM2(n:Int)(wr:Bool)(ps:Pr)(ks:List Int)(r:Int):Bool:=if wr=true then decide (r=0)&&decide (n < (ks.length:Int)) else decide (n - r < ((ks.filter λ k=>decide (r<=qc6 n ps k)).length:Int))
def qW2(n:Int)(wr:Bool)(ps:Pr)(ks:List Int):Option Nat:=(List.range n.toNat).find? λ r=>qM2 n wr ps ks (r:Int)
noncomputable def natD:Option Nat->D
 | none=>.non
 | some k=>.int (k:Int)
def qC1(C:Addr):VSp:=Ax λ ds d=>∃ z n wr ps z' ks,ds=[Aa z C n wr ps,.lst z' (ksD ks)]/\1<=n/\n<=64/\(∀ k∈ks,Al k)/\ks.length<=1000/\d=natD (qW2 n wr ps ks)
theorem qD0(T:Txt K mg a):VFn P w K mg base 6 a.f19 a.d19 ["plan", "keys"] (qC1 a.C3):=by
 refine VFn.mk2 T.d19.F qn8 (wOf [true,true]) qb2 (λ g Q s h=>by obtain⟨d,⟨z,n,wr,c,m,f,e,_⟩,_⟩:=h;rw[e];exact⟨rfl,rfl⟩) (λ t A outer I H E J u=>⟨_,(Ac (qY4 PassesOwn.leaving T.Cr (E5 (vaV (qc2 (Be rfl (vnm 0) T.C7.cl T.C9)) Ad)) (Bi 2 qn8.nd)
     (Ag (sif (te (Aj T.d18 (qQ3 T) qa0 (rm u) (vaN 0 (vaN 1 (vaN 2 Ad)))))
     (Ag (Aq (emv 2)))
     Au)))
     (Ag (Aq (qa5 Bb)))),λ g Q s h=>?_⟩)
 obtain⟨d,⟨z,n,wr,c,m,f,rfl,v,L,B,C,rfl⟩,q⟩:=h;refine As [Aa z a.C3 n wr c,.lst m (ksD f),.unk] rfl ?_;refine qd1 (λ g=>(∀ i,i < n.toNat->qM2 n wr c f (i:Int)=false)/\∃ d,g=[Aa z a.C3 n wr c,.lst m (ksD f),d]) (λ K o=>?_) ?_
 . refine qR2 (Av rfl qc8) (qZ7 (by lia) (by lia)) ?_
   refine qg1 (λ i g=>(∀ j,j < i->qM2 n wr c f (j:Int)=false)/\∃ d,g=[Aa z a.C3 n wr c,.lst m (ksD f),d]) _ 0 _ ⟨λ j p=>absurd p (Nat.not_lt_zero _),_,rfl⟩ ?_ ?_
   . rintro j x D g ⟨k,d,rfl⟩ K o
     rw[zAh] at k o;obtain⟨p,rfl⟩:=qY7 D;refine if_e (b:=qM2 n wr c f (j:Int)) (λ Q s q=>qZ9 (x:=Aa z a.C3 n wr c) (y:=.lst m (ksD f)) (w:=.int (j:Int)) rfl rfl rfl rfl rfl ⟨z,n,wr,c,m,f,_,rfl,v,B,C,rfl⟩ rfl q) (λ r=>?_) (λ r=>?_)
     . have e:qW2 n wr c f=some j:=List.find?_range_eq_some.mpr ⟨r,zAn.mpr p,λ i l=>by rw[k i l];rfl⟩
       rw[e] at q;exact q
     refine o _ ⟨λ i l=>?_,_,rfl⟩;rcases Nat.lt_succ_iff_lt_or_eq.mp l with h | rfl
     . exact k i h
     exact r
   rintro g ⟨k,G⟩;refine o _ ⟨λ i l=>k i ?_,G⟩;unfold Dl;rw[zA7,zB7,zAh];exact l
 rintro g ⟨k,d,rfl⟩;have e:qW2 n wr c f=none:=List.find?_range_eq_none.mpr λ i l=>by rw[k i l];rfl
 rw[e] at q;exact q
theorem qn7:qa8 ["plan", "keys", "room"] ["plan", "keys"] (qa3 qj4):=by walk_at "s"
theorem _root_.Row.Kept.perm{n:Nat}{wr:Bool}{g:Nat->Option Int}(KP:Kept n wr hm g S):((List.range n).filterMap g).Perm S:=by
 refine(List.perm_ext_iff_of_nodup ?_ KP.h.1).mpr λ k=>?_
 . refine List.pairwise_filterMap.mpr (List.Pairwise.imp_of_mem (R:=(·≠·)) (λ{i j} a d f b l m c e=>?_) List.nodup_range)
   subst e;exact f (KP.o.inj i j b (zAn.mp a) (zAn.mp d) l c)
 rw[KP.h.2 k,List.mem_filterMap];exact⟨λ ⟨i,a,e⟩=>⟨i,zAn.mp a,e⟩,λ ⟨i,a,e⟩=>⟨i,zAn.mpr a,e⟩⟩
def qr7(n:Int)(wr:Bool)(ps:Pr)(ks:List Int):Prop:=∀ r:Nat,r < n.toNat->qM2 n wr ps ks (r:Int)=false
theorem qR8{n:Int}{wr:Bool}{ps:Pr}(h:qr7 n wr ps ks):qW2 n wr ps ks=none:=List.find?_range_eq_none.mpr λ i a=>by rw[h i a];rfl
theorem qW1{n:Int}{wr:Bool}{ps:Pr}(h1:1<=n)(a:r < n.toNat):qM2 n wr ps ks (r:Int)=true↔Crowd n.toNat wr (hmOf n ps) ks r:=by
 unfold qM2 Crowd;cases wr with
 | true =>
   simp only[if_true,zBj,zBb];lia
 | false =>
   have e:(ks.filter λ k=>decide ((r:Int)<=qc6 n ps k))=ks.filter λ k=>decide (r<=hmOf n ps k):=by
     apply List.filter_congr;intro k _
     have:=qL1 (ps:=ps) h1 k
     apply zBv.mpr;lia
   simp only[Bool.false_eq_true,if_false,e,zBb];lia
theorem qr7.no{n:Int}{wr:Bool}{ps:Pr}(h:qr7 n wr ps ks)(h1:1<=n)(q:Nat):¬ Crowd n.toNat wr (hmOf n ps) ks q:=λ z=>by
 have:=h q z.1
 rw[(qW1 h1 z.1).mpr z] at this;cases this
theorem qr7.of{n:Int}{wr:Bool}{ps:Pr}(h1:1<=n)(h:∀ q,¬ Crowd n.toNat wr (hmOf n ps) ks q):qr7 n wr ps ks:=λ r a=>by
 cases e:qM2 n wr ps ks (r:Int) with
 | false=>rfl
 | true=>exact absurd ((qW1 h1 a).mp e) (h r)
def qB9(C:Addr):VSp:=Ax λ ds d=>∃ z n wr ps z' ks,ds=[Aa z C n wr ps,.lst z' (ksD ks)]/\1<=n/\n<=64/\(∀ k∈ks,Al k)/\ks.length<=1000/\qr7 n wr ps ks/\d=.non
theorem qo1(T:Txt K mg a):VFn P w K mg base 7 a.f20 a.d20 ["plan", "keys"] (qB9 a.C3):=by
 refine VFn.mk2 T.d20.F qn7 (wOf [true,true]) qb2 (λ i Q j h=>by obtain⟨d,⟨z,n,wr,c,f,g,e,_⟩,_⟩:=h;rw[e];exact⟨rfl,rfl⟩) (λ k A outer u H E v l=>⟨_,(Ac (Ak 2 qn7.nd (Aj T.d19 (qD0 T) qa0 (rm l) (vaN 0 (vaN 1 Ad))))
     (Ag (sif (q2 (An qr5 (qb1 _)) qw9 (vnm 2) Bb)
     (Ag qi6)
     Au))),λ i Q j h=>?_⟩)
 obtain⟨d,⟨z,n,wr,c,f,g,rfl,m,o,p,r,s,rfl⟩,q⟩:=h;refine As [Aa z a.C3 n wr c,.lst f (ksD g),.unk] rfl ?_;refine qb0 [Aa z a.C3 n wr c,.lst f (ksD g),.non] (λ K t=>?_) ?_
 . exact qH5 (x:=Aa z a.C3 n wr c) (y:=.lst f (ksD g)) (d:=.non) rfl rfl rfl ⟨z,n,wr,c,f,g,rfl,m,o,p,r,by rw[qR8 s];rfl⟩ rfl t
 exact if_v (b:=false) rfl (λ h=>nomatch h) λ _=>q
theorem qg6:qa8 ["plan", "rooms", "key", "came", "room", "held"] ["plan", "rooms", "key"] (qa3 qz2):=by walk_at "s"
def qX9(C:Addr):VSp:=λ ds Q _=>∃ z n wr ps g S key,ds=[Aa z C n wr ps,.lst false (rlD n.toNat g),.int key]/\1<=n/\n<=64/\Al key/\(∀ k∈S,Al k)/\Kept n.toNat wr (hmOf n ps) g S/\¬ key∈S/\(∃ e,Hf n.toNat wr (hmOf n ps) g key e) /\
 ∀ came g',Kept n.toNat wr (hmOf n ps) g' (S++[key])->Q (.lst false came) [Aa z C n wr ps,.lst false (rlD n.toNat g'),.int key]
theorem qE1(T:Txt K mg a):VFn P w K mg base 7 a.f21 a.d21 ["plan", "rooms", "key"] (qX9 a.C3):=by
 refine VFn.mk2 T.d21.F qg6 (wOf [true,true,false]) (λ o Q Q' J R U _ h=>by obtain⟨z,n,wr,f,g,S,key,e,V,X,Y,Z,h5,h6,h7,q⟩:=h;exact⟨z,n,wr,f,g,S,key,e,V,X,Y,Z,h5,h6,h7,λ c g' K=>U _ _ (q c g' K)⟩) (λ o Q J h=>by obtain⟨z,n,wr,f,g,S,key,e,_⟩:=h;rw[e];exact⟨rfl,rfl⟩) (λ a0 A outer sh H E av k=>⟨_,(Ac (Ak 3 qg6.nd (qa5 (Di qa7)))
     (Ac (Ak 4 qg6.nd (qi3 0 T.d10 T.C7.cl (qq1 T) qa0 (rm k) (vaN 2 Ad)))
     (Ac (qab7 PassesOwn.leaving (q2 (An qr5 (qb1 _)) qw9 (v2 (A7 qc1) At (vnm 1) (vnm 4)) Bb)
     (Ac (Ak 5 qg6.nd (qc2 (v2 (A7 qc1) At (vnm 1) (vnm 4))))
     (Ac (sif (te (qi3 0 T.d12 T.C7.cl (qi8 T) qa0 (rm k) (vaN 4 (vaN 2 (vaN 5 Ad)))))
     (Ac (Bf (Du 3 qH2 PySem.F.plainAttrs_list PySem.F.slot_list_append PySem.F.type_list_append qf6 (vaV (qa5 (Ep (qa2 (vnm 2) (qa2 (vnm 4) qa7 rfl) rfl))) Ad)))
     (Ac (Fc (qc2 (vnm 2)) (Dv (vpn 1) (vnm 4)))
     (Ag (Ak 2 qg6.nd (qc2 (vnm 5))))))
     Au)
     (Ag (Ak 4 qg6.nd (qa5 (v2 (Ah qp9) qp6 (v2 (Ah qk3) qk2 (vnm 4) Af) (Be rfl (vnm 0) T.C7.cl T.C9))))))))
     (Ac (Bf (Du 3 qH2 PySem.F.plainAttrs_list PySem.F.slot_list_append PySem.F.type_list_append qf6 (vaV (qa5 (Ep (qa2 (vnm 2) (qa2 (vnm 4) qa7 rfl) rfl))) Ad)))
     (Ac (Fc (qc2 (vnm 2)) (Dv (vpn 1) (vnm 4)))
     (Ag (Aq (emv 3)))))))),λ o Q J h=>?_⟩)
 obtain⟨z,n,wr,f,g,S,key,rfl,u,n2,s,hS,KP,B,⟨e,Fr⟩,q⟩:=h;have hh:=Dn (ps:=f) u key;have N:∀ x∈S++[key],Al x:=λ x v=>by
   rcases zAa.mp v with h | h
   . exact hS x h
   rw[zAe.mp h];exact s
 have L:(S++[key]).Nodup:=zBo.mpr ⟨KP.h.1,(by simp),λ x v y C e=>B (by rw[<- zAe.mp C,<- e];exact v)⟩;refine As [Aa z a.C3 n wr f,.lst false (rlD n.toNat g),.int key,.unk,.unk,.unk] rfl ?_;refine qb0 [Aa z a.C3 n wr f,.lst false (rlD n.toNat g),.int key,.lst false [],.unk,.unk] (λ K j=>j) ?_;refine qb0 [Aa z a.C3 n wr f,.lst false (rlD n.toNat g),.int key,.lst false [],.int (hmOf n f key:Nat),.unk] (λ K j=>?_) ?_
 . exact qQ6 (p:=Aa z a.C3 n wr f) (x:=.int key) (d:=.int (hmOf n f key:Nat)) rfl (qf3 rfl) rfl rfl ⟨z,n,wr,f,key,rfl,u,s,by rw[qL1 u]⟩ rfl j
 refine qd1 (λ o=>∃ i c r came t,o=[Aa z a.C3 n wr f,.lst false (rlD n.toNat i),.int c,.lst false came,.int (r:Nat),t]/\Row.Walk n.toNat wr (hmOf n f) (S++[key]) key e i c r/\i r=none/\came.length<=64) (λ K j=>?_) ?_
 . have W0:=KP.start B Fr
   refine qN0 (λ m o=>∃ i c r came t,o=[Aa z a.C3 n wr f,.lst false (rlD n.toNat i),.int c,.lst false came,.int (r:Nat),t]/\Row.Walk n.toNat wr (hmOf n f) (S++[key]) key e i c r/\m=Ab n.toNat (hmOf n f key) e - Ab n.toNat (hmOf n f key) r/\came.length+m<=64) _ ⟨g,key,hmOf n f key,[],_,rfl,W0,rfl,by have:=qi0 Fr.1 hh;show 0+_<=64;lia⟩ ?_;rintro m o ⟨i,c,r,came,t,rfl,W,rfl,hc⟩ K2 M;have k:=W.hr;cases l:i r with
   | none =>
     refine ql3 (b:=false) (Ae (Ae rfl rfl (E6 k)) rfl (by rw[l];rfl)) ?_;exact j _ ⟨i,c,r,came,t,rfl,W,l,by lia⟩
   | some y =>
     refine ql3 (b:=true) (Ae (Ae rfl rfl (E6 k)) rfl (by rw[l];rfl)) ?_;have v:wr=false->hmOf n f c<=r:=λ h=>(W.ln h).2.1
     have C:wr=false->hmOf n f y<=r:=λ h=>(W.ln h).2.2 r y k l
     have cT:Al c:=N c ((W.all c).mpr (.inl rfl));have yT:Al y:=N y ((W.all y).mpr (.inr ⟨r,k,l⟩));have lt:=W.lt l;have O:=W.nx l;refine Eg rfl ?_;refine qb0 [Aa z a.C3 n wr f,.lst false (rlD n.toNat i),.int c,.lst false came,.int (r:Nat),.int y] (λ K j=>?_) ?_
     . exact qS9 (d:=.int y) (Ae rfl rfl (by rw[E6 k,l];rfl)) rfl j
     refine qd1 (λ o=>∃ D G came3,o=[Aa z a.C3 n wr f,.lst false (rlD n.toNat D),.int G,.lst false came3,.int (r:Nat),.int y]/\Row.Walk n.toNat wr (hmOf n f) (S++[key]) key e D G (Row.next n.toNat r)/\came3.length<=came.length+1) (λ K j=>?_) ?_
     . refine if_e (b:=ql2 n wr f (r:Nat) c y) (λ Q J q=>qaS3 (p:=Aa z a.C3 n wr f) (x:=.int (r:Nat)) (y:=.int c) (w:=.int y) rfl (qf3 rfl) rfl rfl rfl rfl rfl rfl ⟨z,n,wr,f,(r:Nat),c,y,rfl,u,by lia,by lia,cT,yT,rfl⟩ rfl q) (λ I=>?_) (λ I=>?_)
       . have ha:=(qI5 u k v C).mp I
         refine qb0 [Aa z a.C3 n wr f,.lst false (rlD n.toNat i),.int c,.lst false (came++[.tup [.int c,.int (r:Nat)]]),.int (r:Nat),.int y] (λ K j=>?_) ?_
         . exact qak2 (ys:=came) (d:=.tup [.int c,.int (r:Nat)]) rfl rfl (by show came.length < 1000000;lia) j
         refine qb0 [Aa z a.C3 n wr f,.lst false (rlD n.toNat (Row.set i r c)),.int c,.lst false (came++[.tup [.int c,.int (r:Nat)]]),.int (r:Nat),.int y] (λ K j=>?_) ?_
         . refine qI8 (d:=.int c) (ys:=rlD n.toNat i) rfl rfl rfl rfl (Hm k) ?_
           rw[qF9];exact j
         exact qS9 (d:=.int y) rfl rfl (j _ ⟨Row.set i r c,y,_,rfl,W.swap l ha,by rw[zAf];exact zA3 _⟩)
       exact j _ ⟨i,c,came,rfl,W.on l (λ h=>by rw[(qI5 u k v C).mpr h] at I;cases I),by lia⟩
     rintro o ⟨D,G,came3,rfl,W3,a1⟩;refine qy5 (d:=.int (Row.next n.toNat r:Nat)) (Ae (Ae rfl rfl rfl) (Av rfl qc8) (by rw[Ec (by lia),qaz4 u k])) ?_;exact M _ _ (by rw[O];lia) ⟨D,G,_,came3,_,rfl,W3,rfl,by rw[O];lia⟩
 rintro o ⟨i,c,r,came,t,rfl,W,l,hc⟩;have k:=W.hr;refine qb0 [Aa z a.C3 n wr f,.lst false (rlD n.toNat i),.int c,.lst false (came++[.tup [.int c,.int (r:Nat)]]),.int (r:Nat),t] (λ K j=>?_) ?_
 . exact qak2 (ys:=came) (d:=.tup [.int c,.int (r:Nat)]) rfl rfl (by show came.length < 1000000;lia) j
 refine qb0 [Aa z a.C3 n wr f,.lst false (rlD n.toNat (Row.set i r c)),.int c,.lst false (came++[.tup [.int c,.int (r:Nat)]]),.int (r:Nat),t] (λ K j=>?_) ?_
 . refine qI8 (d:=.int c) (ys:=rlD n.toNat i) rfl rfl rfl rfl (Hm k) ?_
   rw[qF9];exact j
 exact q _ _ (W.done L l)
theorem qp0:qa8 ["plan", "keys", "rooms", "key"] ["plan", "keys"] (qa3 qu8):=by walk_at "s"
def qO2(C:Addr):VSp:=λ ds Q _=>∃ z n wr ps z' ks,ds=[Aa z C n wr ps,.lst z' (ksD ks)]/\1<=n/\n<=64/\(∀ k∈ks,Al k)/\ks.Nodup/\ks.length<=1000/\qr7 n wr ps ks/\∀ g,Kept n.toNat wr (hmOf n ps) g ks->Q (.lst false (rlD n.toNat g)) ds
theorem qQ1(T:Txt K mg a):VFn P w K mg base 8 a.f22 a.d22 ["plan", "keys"] (qO2 a.C3):=by
 refine VFn.mk2 T.d22.F qp0 (wOf [true,true]) (λ j Q Q' t B C _ h=>by obtain⟨z,n,wr,c,f,b,e,G,I,J,L,M,N,q⟩:=h;exact⟨z,n,wr,c,f,b,e,G,I,J,L,M,N,λ g K=>C _ _ (q g K)⟩) (λ j Q t h=>by obtain⟨z,n,wr,c,f,b,e,_⟩:=h;rw[e];exact⟨rfl,rfl⟩) (λ O A outer X H E Y u=>⟨_,(Ac (Bf (Aj T.d20 (qo1 T) qa0 (rm u) (vaN 0 (vaN 1 Ad))))
     (Ac (Ak 2 qp0.nd (qa5 (v2 (Ah qp7) qp5 (Di (qa2 Bb qa7 rfl)) (Be rfl (vnm 0) T.C7.cl T.C9))))
     (Ac (Ir PassesOwn.leaving (vpn 1) (Bi 3 qp0.nd)
     (Ag (Bf (Aj T.d21 (qE1 T) qa0 (rm u) (vaN 0 (vaN 2 (vaN 3 Ad)))))))
     (Ag (Aq (emv 2)))))),λ j Q t h=>?_⟩)
 obtain⟨z,n,wr,c,f,b,rfl,o,r,s,R,S,v,q⟩:=h;refine As [Aa z a.C3 n wr c,.lst f (ksD b),.unk,.unk] rfl ?_;refine qb0 [Aa z a.C3 n wr c,.lst f (ksD b),.unk,.unk] (λ K l=>qH5 (x:=Aa z a.C3 n wr c) (y:=.lst f (ksD b)) (d:=.non) rfl rfl rfl ⟨z,n,wr,c,f,b,rfl,o,r,s,S,v,rfl⟩ rfl l) ?_;refine qb0 [Aa z a.C3 n wr c,.lst f (ksD b),.lst false (rlD n.toNat λ _=>none),.unk] (λ K l=>qa1 (Ae rfl (Av rfl qc8) (qQ5 (by lia) r)) l) ?_;refine qd1 (λ j=>∃ d g,j=[Aa z a.C3 n wr c,.lst f (ksD b),.lst false (rlD n.toNat g),d]/\Kept n.toNat wr (hmOf n c) g b) (λ K l=>?_) ?_
 . refine qa1 (a:=(1,[])) rfl (qa1 (a:=D.lst f (ksD b)) rfl (qa1 (a:=ksD b) rfl ⟨qh9 b,λ w=>?_⟩))
   refine qg1 (λ i j=>∃ d g,j=[Aa z a.C3 n wr c,.hole w,.lst false (rlD n.toNat g),d]/\Kept n.toNat wr (hmOf n c) g (b.take i)) _ 0 _ ⟨_,_,rfl,Kept.none (by lia) (Dn o)⟩ ?_ ?_
   . rintro i y U j ⟨d,g,rfl,KP⟩ K2 m
     rw[zAh] at KP m;obtain⟨k,p,rfl⟩:=qaA6 U;refine qaV3 (x:=Aa z a.C3 n wr c) (y:=.lst false (rlD n.toNat g)) (w:=.int k) rfl rfl rfl rfl rfl ⟨z,n,wr,c,g,b.take i,k,rfl,o,r,s k (zAy p),λ x V=>s x (List.mem_of_mem_take V),KP,qA3 R p,KP.free (by rw[<- qr0 p];exact List.take_sublist _ _) (v.no o),λ came W K'=>?_⟩;refine m _ ⟨_,W,rfl,?_⟩;rw[qr0 p];exact K'
   rintro j ⟨d,g,rfl,KP⟩;rw[zAh,qh7,List.take_length] at KP;exact qa1 (qaj7 rfl) (l _ ⟨d,g,rfl,KP⟩)
 rintro j ⟨d,g,rfl,KP⟩;exact q g KP
theorem qG0:qa8 ["plan", "keys"] ["plan", "keys"] (qa3 ql4):=by walk_at "s"
def qF4(C CP:Addr):VSp:=λ ds Q _=>∃ n wr ps z ks,ds=[Aa true CP n wr ps,.lst z (ksD ks)]/\1<=n/\n<=64/\(∀ k∈ks,Al k)/\ks.Nodup/\ks.length<=1000/\(∀ q,¬ Crowd n.toNat wr (hmOf n ps) ks q)/\∀ g,Kept n.toNat wr (hmOf n ps) g ks->Q (rowD false C CP n wr ps g []) ds
theorem qG8(T:Txt K mg a):VFn P w K mg base 12 a.f33 a.d33 ["plan", "keys"] (qF4 a.C5 a.C3):=by
 refine VFn.mk2 T.d33.F qG0 (wOf [true,true]) (λ f Q Q' i m o _ h=>by obtain⟨n,wr,b,z,c,e,p,r,s,t,u,v,q⟩:=h;exact⟨n,wr,b,z,c,e,p,r,s,t,u,v,λ g K=>o _ _ (q g K)⟩) (λ f Q i h=>by obtain⟨n,wr,b,z,c,e,_⟩:=h;rw[e];exact⟨rfl,rfl⟩) (λ B A outer I H E J j=>⟨_,(Ag (Aq (qaM7 T.C8 T.D2 T.d26 (qv3 T) qa0 (rm j) (vaN 0 (vaV (Aj T.d22 (qQ1 T) qa0 (rm j) (vaN 0 (vaN 1 Ad))) Ad))))),λ f Q i h=>?_⟩);obtain⟨n,wr,b,z,c,rfl,d,k,l,C,D,G,q⟩:=h;refine As [Aa true a.C3 n wr b,.lst z (ksD c)] rfl ?_;refine qh0 (qE2 (qb6 (x:=Aa true a.C3 n wr b) rfl (qh6 (qaN3 (x:=Aa true a.C3 n wr b) (y:=.lst z (ksD c)) rfl rfl rfl ⟨true,n,wr,b,z,c,rfl,d,k,l,C,D,qr7.of d G,λ g K=>?_⟩))));exact qa1 (a:=[Aa true a.C3 n wr b,.lst z (ksD c)]) rfl (qb4 (qa1 (a:=Aa true a.C3 n wr b) rfl ⟨n,wr,b,.lst false (rlD n.toNat g),g,c,rfl,d,k,l,K,.inr ⟨false,rfl⟩,rfl,q g K⟩))
theorem qO9:qa8 ["row", "rooms"] ["row", "rooms"] (qa3 qu5):=by walk_at "s"
theorem qaL0{zr:Bool}{C CP:Addr}{n:Int}{wr:Bool}{ps:Pr}{g:Nat->Option Int}{dn:Ds}:Ie C (rowD zr C CP n wr ps g dn) (.adr C)=some (.bl true):=by
 show (if C=C then (rowD zr C CP n wr ps g dn).isC C else none)=_;rw[if_pos rfl];exact qaL2
def qO0(C CP:Addr):VSp:=λ ds Q _=>∃ zr n wr ps g dn S m,ds=[rowD zr C CP n wr ps g dn,.int m]/\n<=64/\1<=m/\m<=64/\qx5 ps/\(∀ k∈S,Al k)/\Kept n.toNat wr (hmOf n ps) g S/\(∀ q,¬ Crowd m.toNat wr (hmOf m ps) S q)/\∀ g',Kept m.toNat wr (hmOf m ps) g' S->Q (rowD false C CP m wr ps g' []) ds
theorem qk4(T:Txt K mg a):VFn P w K mg base 13 a.f34 a.d34 ["row", "rooms"] (qO0 a.C5 a.C3):=by
 refine VFn.mk2 T.d34.F qO9 (wOf [true,true]) (λ t Q Q' o u v _ h=>by obtain⟨f,n,wr,b,g,i,S,m,e,z,B,C,I,J,L,M,q⟩:=h;exact⟨f,n,wr,b,g,i,S,m,e,z,B,C,I,J,L,M,λ g K=>v _ _ (q g K)⟩) (λ t Q o h=>by obtain⟨f,n,wr,b,g,i,S,m,e,_⟩:=h;rw[e];exact⟨rfl,rfl⟩) (λ N A outer X H E Y j=>⟨_,(Ac (sif (Bp (tv (vbi (qaj4 T.Da T.C8.cl) qaM8.ops T.Cb (qa2 (vnm 0) (qa2 (vcls a.C5 T.C8.m) qa7 rfl) rfl))))
     (Ag qi6)
     Au)
     (Ac (sif (Bp (te (Aj T.d2 (qd3 T) qa0 (rm j) (vaN 1 (vaV (qa5 Af) (vaV (qa5 (vgi T.Cq)) Ad))))))
     (Ag qi6)
     Au)
     (Ag (Aq (Aj T.d33 (qG8 T) qa0 (rm j) (vaV (Hk (G6 T.C7 T.Cw T.d7 (qq0 T) qa0 (rm j) (vaN 1 (vaV (qc2 (Be rfl (Be rfl (vnm 0) T.C8.cl T.Cg) T.C7.cl T.Ce)) (vaV (qaM6 T.d8 T.C7.cl (qv4 T) qa0 (rm j) (Be rfl (vnm 0) T.C8.cl T.Cg)) Ad))))) (vaV (qm1 0 T.d28 T.C8.cl (qh3 T) qa0 (rm j)) Ad))))))),λ t Q o h=>?_⟩)
 obtain⟨f,n,wr,b,g,i,S,m,rfl,O,r,s,G,R,KP,U,q⟩:=h;have l:=KP.perm;refine As [rowD f a.C5 a.C3 n wr b g i,.int m] rfl ?_;refine qat9 (show Ie a.C5 (rowD f a.C5 a.C3 n wr b g i) (.adr a.C5)=some (.bl true) from qaL0) ?_;refine Eh (λ Q o q=>qh5 (qb6 (x:=.int m) rfl (qc4 (y:=.int 1) rfl (qc4 (y:=.int 64) rfl (qb4 (qa1 (a:=D.int m) rfl (qz8 (d:=.bl true) (by show some (D.bl ((D.int m).within 1 64))=_;rw[qF0 r s]) (qa1 (a:=[rowD f a.C5 a.C3 n wr b g i,.int m]) rfl q)))))))) ?_;refine qh0 (qh5 (qh6 (Fl (qE2 (qb6 (x:=.int m) rfl (qk9 (y:=.bl wr) (Av (Av rfl qm7) qs7) rfl (qh6 ?_)))))));refine qI1 (d:=Aa true a.C3 n wr b) (Av rfl qm7) rfl ⟨qf3 rfl,_,⟨true,n,wr,b,rfl,rfl⟩,qa1 (a:=[rowD f a.C5 a.C3 n wr b g i,.int m]) rfl (qb4 (qa1 (a:=D.int m) rfl ⟨m,wr,false,b,rfl,r,s,G,rfl,?_⟩))⟩;refine qa1 (a:=Aa false a.C3 m wr b) rfl (qa1 (a:=[rowD f a.C5 a.C3 n wr b g i,.int m]) rfl ?_);refine qh6 (qH4 (p:=rowD f a.C5 a.C3 n wr b g i) (d:=.lst false (ksD ((List.range n.toNat).filterMap g))) rfl (qh4 rfl) ⟨f,n,wr,b,g,i,rfl,O,rfl⟩ rfl (qb4 ?_));rw[qU9];have Z:=KP.len;refine⟨m,wr,b,false,_,rfl,r,s,λ k V=>R k (l.subset V),l.nodup_iff.mpr KP.h.1,by rw[l.length_eq];lia,λ q c=>U q (c.perm l),λ W K'=>?_⟩;exact qa1 (a:=[rowD f a.C5 a.C3 n wr b g i,.int m]) rfl (q W (K'.of_perm l))
theorem qp1:qa8 ["self"] ["self"] (qa3 qe3):=by walk_at "s"
def growD(zg:Bool)(CG C CP:Addr)(n:Int)(ps:Pr)(g:Nat->Option Int)(dn:Ds)(h:Int):D:=.ins zg CG [("row",rowD zg C CP n true ps g dn),("housed_anew",.int h)]
section
variable{zg:Bool}{CG C CP:Addr}{n:Int}{ps:Pr}{g:Nat->Option Int}{dn:Ds}{h:Int}
theorem qah9:D.fld CG "row" (growD zg CG C CP n ps g dn h)=some (rowD zg C CP n true ps g dn):=qB3 (by rfl)
theorem qao5:D.fld CG "housed_anew" (growD zg CG C CP n ps g dn h)=some (.int h):=qB3 (by rfl)
theorem qe7(hm:([("row",rowD zg C CP n true ps g dn),("housed_anew",.int h)]:List (Str×D)).lookup m=none):(growD zg CG C CP n ps g dn h).isM CG m=true:=qah3 hm
theorem qaC0:D.fidx CG "row" (growD zg CG C CP n ps g dn h)=some 0:=by
 show (if CG=CG then List.findIdx? (λ q:Str×D=>("row" : Str) == q.1) [("row",rowD zg C CP n true ps g dn),("housed_anew",.int h)] else none)=_;rw[if_pos rfl];rfl
theorem qA0{r:Ds}:(D.fidx CG "row" (growD zg CG C CP n ps g dn h)).map (λ n=>((0:Nat),[n]))=some (0,[0]):=by rw[qaC0];rfl
end
def qo8(CG C CP:Addr):VSp:=Ax λ ds d=>∃ zg n ps g dn h,ds=[growD zg CG C CP n ps g dn h]/\d=.int n
theorem qb3(T:Txt K mg a):VFn P w K mg base 1 a.f39 a.d39 ["self"] (qo8 a.C4 a.C5 a.C3):=by
 refine VFn.mk2 T.d39.F qp1 (wOf [true]) qb2 (λ b Q c h=>by obtain⟨d,⟨f,n,i,g,j,h,e,_⟩,_⟩:=h;rw[e];exact⟨rfl,rfl⟩) (λ k A outer l H E m o=>⟨_,(Ag (Aq (qc2 (Be rfl (Be rfl (Be rfl (vnm 0) T.C6.cl T.Ca) T.C8.cl T.Cg) T.C7.cl T.C9)))),λ b Q c h=>?_⟩);obtain⟨d,⟨f,n,i,g,j,h,rfl,rfl⟩,q⟩:=h;exact qh0 (qI1 (d:=.int n) (Av (Av (Av rfl qah9) qm7) qc8) rfl q)
theorem qu4:qa8 ["self"] ["self"] (qa3 qg0):=by walk_at "s"
def qt7(CG C CP:Addr):VSp:=λ ds Q _=>∃ n ps g dn h S,ds=[growD true CG C CP n ps g dn h]/\1<=n/\n<=64/\qx5 ps/\(∀ k∈S,Al k)/\Kept n.toNat true (hmOf n ps) g S/\Q (rowD false C CP n true ps g []) ds
theorem qd4(T:Txt K mg a):VFn P w K mg base 14 a.f40 a.d40 ["self"] (qt7 a.C4 a.C5 a.C3):=by
 refine VFn.mk2 T.d40.F qu4 (wOf [true]) (λ f Q Q' i l m _ h=>by obtain⟨n,b,g,c,h,S,e,o,r,s,t,u,q⟩:=h;exact⟨n,b,g,c,h,S,e,o,r,s,t,u,m _ _ q⟩) (λ f Q i h=>by obtain⟨n,b,g,c,h,S,e,_⟩:=h;rw[e];exact⟨rfl,rfl⟩) (λ v A outer B H E C j=>⟨_,(Ag (Aq (Aj T.d34 (qk4 T) qa0 (rm j) (vaV (qc2 (Be rfl (vnm 0) T.C6.cl T.Ca)) (vaV (qm1 0 T.d39 T.C6.cl (qb3 T) qa0 (rm j)) Ad))))),λ f Q i h=>?_⟩);obtain⟨n,b,g,c,h,S,rfl,x,k,G,z,KP,q⟩:=h;refine As [growD true a.C4 a.C5 a.C3 n b g c h] rfl ?_;refine qh0 (qh5 (qk9 (y:=rowD true a.C5 a.C3 n true b g c) (Av rfl qah9) rfl (qh6 (qH4 (p:=growD true a.C4 a.C5 a.C3 n b g c h) (d:=.int n) rfl (qe7 rfl) ⟨true,n,b,g,c,h,rfl,rfl⟩ rfl (qb4 ?_)))));refine⟨true,n,true,b,g,c,S,n,rfl,k,x,k,G,z,KP,KP.no_crowd,λ D K'=>qa1 (a:=[growD true a.C4 a.C5 a.C3 n b g c h]) rfl ?_⟩;rw[qJ5 (K'.same KP λ _=>Iff.rfl)];exact q
theorem qaE6:qa8 ["_law_script"] ["_law_script"] (qa3 qaw8):=by walk_at "s"
theorem qaI9(T:Txt K mg a):Bz P w K mg base CX0 1 a.f41 a.d41 ["_law_script"] (qaO9 K):=by
 refine T.d41.F.ok qaE6 (λ J H Q E h=>?_) (λ L A outer s H J Q E O h=>?_)
 . obtain⟨l,d,rfl,_⟩:=h
   rfl
 obtain⟨l,d,rfl,M,R,k⟩:=h;refine⟨_,(qas3 (qaG3 (qax8 (qh2 qP8 (qh2 qP8 (qh2 qP8 (qh2 (qJ7 ["_law_cell"] [none] (qz9 (qP6 qac4 (pv 0) qad9 (qad8 qP8))) (λ C B H0 G=>(gnm 0 (show (["_law_cell"]:List Str).Nodup by decide +kernel))) (λ C B H0 G=>qaH2) (λ C B H0 G=>(cbi qaC8 T.Db (qh2 (pv 0) qC7)))) qC7))))))),?_⟩;refine⟨_,rfl,_,rfl,l,_,rfl,M,λ c N=>?_⟩;have ec:Fs (d.map V.int) none (some 63)=d.map V.int:=by
   unfold Fs;have t:HT.sIx (d.map V.int).length (d.map V.int).length (some (63:Int))=min 63 (d.map V.int).length:=HT.qar6 _ _ 63;rw[t,HT.qad4,List.drop_zero,Nat.sub_zero];apply zAs;rw[zA7];lia
 rw[ec];refine⟨c,rfl,⟨_,SqL.of qb9⟩,λ D r=>?_⟩;have I:D≠c:=λ z=>by rw[z,qb9] at r;cases r
 have g:H D=none:=by rw[qd0 I] at r;exact r
 refine qW5 (K:=K) (xs:=d.map V.int) (λ i σ H1=>∃ v,σ=[v]/\H1=upd (upd H c (.lst (d.map V.int))) D (.lst (((d.take i).map λ n=>if n < 0 then -n else n).map V.int))) ⟨none,rfl,rfl⟩ ?_ ?_ ?_
 . rintro i σ H1 _ ⟨v,rfl,rfl⟩
   refine SqL.of ?_;rw[qd0 I.symm,qb9]
 . rintro i x σ H1 j ⟨v,rfl,rfl⟩
   obtain⟨n,u,rfl⟩:∃ n,d[i]? = some n/\V.int n=x:=by
     rw[zB2] at j;cases e:d[i]? with
     | none=>rw[e] at j;cases j
     | some z=>rw[e] at j;exact⟨z,rfl,Option.some.inj j⟩
   refine⟨_,rfl,_,rfl,_,qb9,?_,_,rfl,?_⟩
   . rw[zA7,zA7,zBp]
     exact qam0 (by lia)
   rw[qaD7];congr 1;rw[List.take_add_one,u];simp
 rintro σ H1 ⟨v,rfl,rfl⟩;rw[zA7,zAs (zA3 _)];refine⟨by show 4<=sizeLine;decide,λ p f=>?_⟩;have q:p≠D:=λ z=>by rw[z,qb9] at f;cases f
 rw[qd0 q] at f;have y:p≠c:=λ z=>by rw[z,qb9] at f;cases f
 rw[qd0 y] at f;refine k p D _ f g (λ b o e=>?_) ⟨0,1234567891,0,d.map λ n=>if n < 0 then -n else n,qb9,?_,by decide,by decide,by decide,by decide,?_⟩
 . rw[qd0 (qe6 e f),qd0 (qe6 e g),qd0 (qe6 e N)]
   exact e
 . rw[qd0 q.symm,qb9]
 intro n u;obtain⟨m,_,rfl⟩:=zBd.mp u
 split<;>lia
theorem qu3:qa8 ["_law_bag_here", "_law_many", "_law_cell", "_law_value", "_law_first", "_law_second"] ["_law_bag_here", "_law_many"] (qa3 qad1):=by walk_at "s"
theorem qe5(T:Txt K mg a):VFn P w K mg base 1 a.f42 a.d42 ["_law_bag_here", "_law_many"] qac0:=by
 refine VFn.mk' T.d42.F qu3 (wOf [true,true]) (λ r Q Q' u N O _ h=>by obtain⟨b,m,g,e,L,C,R,q⟩:=h;exact⟨b,m,g,e,L,C,R,λ v S U V B=>O _ _ (q v S U V B)⟩) (λ r Q u ⟨b,m,g,e,_⟩=>by rw[e];rfl) (λ r Q u h=>by obtain⟨b,m,g,e,⟨x,y,z,W,_⟩,_⟩:=h;rw[e,W];rfl) (λ X A outer sh H E av Y=>⟨_,(Ac (sif (q2 (An (qA1 Y.u64) (qb1 _)) Dq (v2 (A7 qc1) At (vnm 0) Af) Af)
     (Ac (Ak 2 qu3.nd (qa5 Af))
     (Ac (sif (q2 (An Fd (qb1 _)) Fy (v2 (A7 qc1) At (vnm 0) Af) (vbi qt1 qt0.ops T.Co (qa2 (v2 (A7 qc1) At (vnm 0) Af) qa7 rfl)))
     (Ag (Ak 2 qu3.nd (qc2 (v2 (A7 qc1) At (v2 (A7 qc1) At (vnm 0) Af) (v2 (A7 qc1) At (vnm 0) Af)))))
     Au)
     (Ac (saug (vpn 0) Af Af qaT4)
     (Ac (sif (q2 (An Gy (qb1 _)) Ia (vnm 2) Af)
     (Ag (Fc (qc2 (vnm 2)) (Dv (vpn 0) Af)))
     Au)
     (Ag (Fc (qa5 (v2 (Ah qp9) qp6 (v2 (Ah qk3) qk2 (v2 (Ah qk3) qk2 (v2 (Ah qp7) qp5 (v2 (A7 qc1) At (vnm 0) Af) Af) (v2 (Ah qp9) qp6 (vnm 2) Af)) (v2 (Ah qp7) qp5 Af (v2 (A7 qc1) At (vnm 0) Af))) Af)) (Dv (vpn 0) Af)))))))
     Au)
     (Ac (sif (q2 (An Bk (qb1 _)) Bo (v2 (A7 qc1) At (vnm 0) Af) Af)
     (Ac (Ak 3 qu3.nd (qa5 (v2 (Ah qp9) qp6 (v2 (A7 qc1) At (vnm 0) Af) (vnm 1))))
     (Ac (Fc (qa5 (v2 (Ah qP9) qay6 (v2 (A7 qc1) At (vnm 0) Af) (vnm 1))) (Dv (vpn 0) Af))
     (Ag (Aq (emv 3)))))
     Au)
     (Ac (Ak 4 qu3.nd (qa5 (v2 (Ah qp9) qp6 (v2 (Ah qp7) qp5 (v2 (Ah qk3) qk2 (v2 (A7 qc1) At (vnm 0) Af) Af) Af) Af)))
     (Ac (Ak 5 qu3.nd (qa5 (v2 (Ah qp9) qp6 (v2 (Ah qp7) qp5 (v2 (Ah qp9) qp6 (v2 (Ah qp7) qp5 (vnm 4) (vnm 4)) Af) Af) Af)))
     (Ac (sif (q2 (An Bk (qb1 _)) Bo (vnm 1) Af)
     (Ag (Aq (qa5 (v2 (Ah qp9) qp6 (v2 (Ah qk3) qk2 (v2 (Ah qp7) qp5 (vnm 5) Af) (vnm 4)) (vnm 1)))))
     Au)
     (Ag (Aq (qa5 (v2 (Ah qp9) qp6 (v2 (Ah qP9) qay6 (vnm 5) Af) (vnm 1)))))))))),λ r Q u h=>?_⟩)
 obtain⟨b,m,g,rfl,⟨x,y,z,rfl,B⟩,p,G,k⟩:=h;refine As [bagD x y z g,.int m,.unk,.unk,.unk,.unk] rfl ?_;refine qd1 (λ r=>∃ j o t c,r=[bagD j o t g,.int m,c,.unk,.unk,.unk]/\Bg j o t g) (λ K l=>?_) ?_
 . refine if_v (b:=decide (x=0)) rfl (λ _=>?_) (λ _=>l _ ⟨x,y,z,_,rfl,B⟩)
   refine qb0 [bagD x y z g,.int m,.int 0,.unk,.unk,.unk] (λ K l=>l) ?_;refine qd1 (λ r=>∃ c:Int,0<=c/\r=[bagD x y z g,.int m,.int c,.unk,.unk,.unk]) (λ K l=>?_) ?_
   . refine if_v (b:=decide (z < (((g.map D.int).length:Nat):Int))) rfl (λ C=>?_) (λ _=>l _ ⟨0,by decide,rfl⟩)
     obtain⟨v,Z,e⟩:=qX5 (xs:=g.map D.int) (i:=z) B.z0 (zA8 C);obtain⟨c,I,rfl⟩:=zBd.mp Z;exact qS9 (Ae (y:=.int z) (x:=.lst false (g.map .int)) rfl rfl e) rfl (l _ ⟨c,B.nn c I,rfl⟩)
   rintro r ⟨c,I,rfl⟩;refine qb0 [bagD x y (z+1) g,.int m,.int c,.unk,.unk,.unk] (λ K l=>?_) ?_
   . exact qaV7 (k:=2) (x:=z) (y:=1) (ys:=[.int x,.int y,.int z,.lst false (g.map .int)]) rfl rfl (by decide) rfl rfl l
   refine qd1 (λ r=>∃ j:Int,0<=j/\r=[bagD j y (z+1) g,.int m,.int c,.unk,.unk,.unk]) (λ K l=>?_) ?_
   . refine if_v (b:=decide (1000000000000000000<=c)) rfl (λ _=>?_) (λ _=>l _ ⟨x,B.x0,rfl⟩)
     exact qI8 (d:=.int c) (ys:=[.int x,.int y,.int (z+1),.lst false (g.map .int)]) (k:=0) (n:=0) rfl rfl rfl rfl rfl (l _ ⟨c,I,rfl⟩)
   rintro r ⟨j,J,rfl⟩;have e1:f2 Hi (f2 Hh (f2 Hh (f2 Gk (f2 gIx (rdN 0) (kC (.int 1))) (kC (.int 48271))) (f2 Hi (rdN 2) (kC (.int 2147483647)))) (f2 Gk (kC (.int 7919)) (f2 gIx (rdN 0) (kC (.int 2))))) (kC (.int 2147483647)) [bagD j y (z+1) g,.int m,.int c,.unk,.unk,.unk]=some (.int ((y * 48271+c % 2147483647+7919 * (z+1)) % 2147483647)) :=
     Ae (Ae (Ae (Ae (x:=.int y) rfl rfl (Gg (by decide))) (Ae rfl rfl (Ec (by decide))) rfl) (Ae (y:=.int (z+1)) rfl rfl (mulL (by decide))) rfl) rfl (Ec (by decide))
   exact qS7 (ys:=[.int j,.int y,.int (z+1),.lst false (g.map .int)]) (k:=1) (n:=1) e1 rfl rfl rfl (l _ ⟨j,_,z+1,_,rfl,J,Int.emod_nonneg _ (by decide),zC9 _ (by decide),by have:=B.z0;lia,B.nn⟩)
 rintro r ⟨j,o,t,c,rfl,B'⟩;refine qm0 (decide (0 < j)) rfl (λ L=>?_) λ _=>?_
 . refine qb0 [bagD j o t g,.int m,c,.int (j % m),.unk,.unk] (λ K l=>qa1 (Ae (x:=.int j) rfl rfl (Ec p)) l) ?_
   refine qb0 [bagD (j / m) o t g,.int m,c,.int (j % m),.unk,.unk] (λ K l=>?_) ?_
   . exact qS7 (ys:=[.int j,.int o,.int t,.lst false (g.map .int)]) (k:=0) (n:=0) (Ae (x:=.int j) rfl rfl (qaC4 p G)) rfl rfl rfl l
   exact k (j % m) _ (Int.emod_nonneg _ (by lia)) (zC9 _ p) ⟨_,_,_,rfl,Int.ediv_nonneg B'.x0 (by lia),B'.y0,B'.y1,B'.z0,B'.nn⟩
 have f0:0<=(o+1) * 39373 % 1000000007:=Int.emod_nonneg _ (by decide);have f1:(o+1) * 39373 % 1000000007 < 1000000007:=zC9 _ (by decide);refine qb0 [bagD j o t g,.int m,c,.unk,.int ((o+1) * 39373 % 1000000007),.unk] (λ K l=>qa1 (Ae (Ae (Ae (x:=.int o) rfl rfl rfl) rfl (Gg (by decide))) rfl (Ec (by decide))) l) ?_;generalize (o+1) * 39373 % 1000000007=f at f0 f1;refine qb0 [bagD j o t g,.int m,c,.unk,.int f,.int (f * f % 998244353 * 30011 % 998244353)] (λ K l=>qa1 (Ae (Ae (Ae (Ae rfl rfl (mulL (qaw6 (by lia) (by lia)))) rfl (Ec (by decide))) rfl (Gg (by decide))) rfl (Ec (by decide))) l) ?_;generalize f * f % 998244353 * 30011 % 998244353=s;have M:∀ v,Q (.int (v % m)) [bagD j o t g,.int m]:=λ v=>k _ _ (Int.emod_nonneg _ (by lia)) (zC9 _ p) ⟨_,_,_,rfl,B'⟩
 refine qm0 (decide (1000000 < m)) rfl (λ _=>?_) λ _=>?_
 . exact ql0 _ (Ae (Ae (Ae rfl rfl (Gg (by decide))) rfl rfl) rfl (Ec p)) (M _)
 exact ql0 _ (Ae (Ae rfl rfl (qaC4 (by decide) (by decide))) rfl (Ec p)) (M _)
theorem qaw7:qa8 ["_law_plan", "_law_key"] ["_law_plan", "_law_key"] (qa3 qad3):=by walk_at "s"
def qaw4:VSp:=Ax λ ds d=>∃ n wr ps k,ds=[Aw n wr ps,.int k]/\1<=n/\(ps.map (·.1)).Nodup/\d=.int (qc6 n ps k)
theorem qaf0(T:Txt K mg a):VFn P w K mg base 1 a.f43 a.d43 ["_law_plan", "_law_key"] qaw4:=by
 refine VFn.mk2 T.d43.F qaw7 (wOf [true,true]) qb2 (λ c Q f h=>by obtain⟨d,⟨n,wr,b,k,e,_⟩,_⟩:=h;rw[e];exact⟨rfl,rfl⟩) (λ g A outer m H E o i=>⟨_,(Ag (Aq (qa5 (v2 (Ah qp9) qp6 (vget (hu_of i) (Fp (qM5 rfl) qau8.ops T.D5 (qa2 (v2 (A7 qc1) At (vnm 0) Af) qa7 rfl)) (vnm 1) (vnm 1) ⟨rfl,rfl,rfl,rfl⟩) (v2 (A7 qc1) At (vnm 0) Af))))),λ c Q f h=>?_⟩);obtain⟨d,⟨n,wr,b,k,rfl,p,j,rfl⟩,q⟩:=h;have l:A8 (fx1 G4) (Ay (f2 gIx (rdN 0) (kC (.int 2))) λ _=>some []) [Aw n wr b,.int k]=some (.dct false (kvD b)):=by
   show G4 (.lst true (prD b))=_;exact qau7 j
 exact ql0 _ (Ae (qai1 l rfl) (y:=.int n) rfl (Ec (by lia))) q
theorem qe0:qa8 ["_law_plan", "_law_keys_here", "_law_homes", "_law_found", "_law_on", "_law_turn", "_law_room"] ["_law_plan", "_law_keys_here"] (qa3 qz7):=by walk_at "s"
theorem qaq1{n:Int}{ps:Pr}(a:1<=n){z:Bool}(ks:List Int)(r:Nat):Iq (.lst z (ksD (ks.map (qc6 n ps)))) (.int (r:Nat))=some (.int (Fa (hmOf n ps) ks r:Nat)):=by
 show ((flats (ksD (ks.map (qc6 n ps)))).bind λ b=>some (D.int (b.countP (λ z=>eqV z (.int (r:Nat))):Nat)))=_;rw[qB4];show some (D.int (((ks.map (qc6 n ps)).map V.int).countP (λ z=>eqV z (.int (r:Nat))):Nat))=_;congr 3;unfold Fa;rw[List.countP_map,List.countP_map,List.countP_eq_length_filter];congr 1;refine List.filter_congr λ k _=>?_
 show decide (qc6 n ps k=(r:Nat))=_
 have:=qL1 (ps:=ps) a k
 exact zBv.mpr (by lia)
def onT(n:Int)(ps:Pr)(ks:List Int):Nat->Int:=onC (cR n.toNat (hmOf n ps) ks)
def Bd(n:Int)(ps:Pr)(ks:List Int)(i m:Nat):List Int:=(List.range m).map λ r=>onT n ps ks (n.toNat * i+r+1)
theorem qJ8{n:Int}{ps:Pr}{m:Nat}:Bd n ps ks i m++[onT n ps ks (n.toNat * i+m+1)]=Bd n ps ks i (m+1):=by
 unfold Bd;rw[List.range_succ,zBe];rfl
def qY3:VSp:=Ax λ ds d=>∃ n wr ps z ks,ds=[Aw n wr ps,.lst z (ksD ks)]/\1<=n/\n<=64/\(ps.map (·.1)).Nodup/\ks.length<=200/\d=.lst false (ksD (Bd n ps ks wr.toNat n.toNat))
theorem qZ4(T:Txt K mg a):VFn P w K mg base 2 a.f44 a.d44 ["_law_plan", "_law_keys_here"] qY3:=by
 refine VFn.mk2 T.d44.F qe0 (wOf [true,true]) qb2 (λ f Q N h=>by obtain⟨d,⟨n,wr,b,z,c,e,_⟩,_⟩:=h;rw[e];exact⟨rfl,rfl⟩) (λ O A outer sh H E v S=>⟨_,(Ac (scN (NY:=["_law_key", "_law_plan"]) (src:=[none,some 0]) 2 1 qe0.nd (blk (λ v C G H0 I=>(Bi 0 (show (["_law_key", "_law_plan"]:List Str).Nodup by decide +kernel))) (λ v C G H0 I=>Gd) (λ v C G H0 I=>(Aj T.d43 (qaf0 T) qA9 (rm S) (vaN 1 (vaN 0 Ad))))))
     (Ac (Ak 3 qe0.nd (qa5 (Di qa7)))
     (Ac (Ak 4 qe0.nd (qa5 Af))
     (Ac (qY4 PassesOwn.leaving T.Cr (E5 (vaV (qa5 (v2 (Ah qk3) qk2 Af (Fp qaq7 qaV2.ops T.D9 (qa2 (v2 (A7 qc1) At (vnm 0) Af) qa7 rfl)))) Ad)) (Bi 5 qe0.nd)
     (Ac (Ak 3 qe0.nd (qa5 (Di qa7)))
     (Ag (qY4 PassesOwn.leaving T.Cr (E5 (vaV (qc2 (v2 (A7 qc1) At (vnm 0) Af)) Ad)) (Bi 6 qe0.nd)
     (Ac (Ak 4 qe0.nd (qa5 (vbi (qt2 rfl) qM1.ops T.D0 (qa2 Af (qa2 (v2 (Ah qC9) qC8 (v2 (Ah qk3) qk2 (vnm 4) (vbm qaQ7 PySem.F.plainAttrs_list PySem.F.slot_list_count PySem.F.type_list_count qaz9 (vnm 2) (vnm 6) qaN1)) Af) qa7 rfl) rfl))))
     (Ag (Bf (Du 3 qH2 PySem.F.plainAttrs_list PySem.F.slot_list_append PySem.F.type_list_append qf6 (vaV (qc2 (vnm 4)) Ad)))))))))
     (Ag (Aq (emv 3))))))),λ f Q N h=>?_⟩)
 obtain⟨d,⟨n,wr,b,z,c,rfl,J,n2,U,hl,rfl⟩,q⟩:=h;refine As [Aw n wr b,.lst z (ksD c),.unk,.unk,.unk,.unk,.unk] rfl ?_;refine qb0 [Aw n wr b,.lst z (ksD c),.lst false (ksD (c.map (qc6 n b))),.unk,.unk,.unk,.unk] (λ K m=>qg2 (qa1 (a:=D.lst z (ksD c)) rfl (qa1 (a:=ksD c) rfl ⟨qh9 c,?_⟩))) ?_
 . refine qm5 (λ ι=>∃ d,ι=[d,Aw n wr b]) (λ x=>some (match x with | .int k=>.int (qc6 n b k) | d=>d)) _ [] _ (by show 0+_ < 1000000;rw[qh7];lia) ⟨_,rfl⟩ ?_ ?_
   . rintro y V ι W ⟨d,rfl⟩ R X r
     obtain⟨k,_,rfl⟩:=zBd.mp V;exact qx4 (qav3 (Eg rfl (qH5 (x:=Aw n wr b) (y:=.int k) (d:=.int (qc6 n b k)) rfl rfl rfl ⟨n,wr,b,k,rfl,J,U,rfl⟩ rfl ⟨r,X [.int k,Aw n wr b] ⟨_,rfl⟩⟩)))
   rintro ι ⟨d,rfl⟩;rw[zB8,qai5];have Y:((ksD c).map λ x=>match x with | .int k=>D.int (qc6 n b k) | d=>d)=ksD (c.map (qc6 n b)):=by unfold ksD;rw[zBr,zBr];rfl
   rw[Y];exact m
 generalize s:D.lst false (ksD (c.map (qc6 n b)))=o;refine qb0 [Aw n wr b,.lst z (ksD c),o,.lst false [],.unk,.unk,.unk] (λ K m=>m) ?_;refine qb0 [Aw n wr b,.lst z (ksD c),o,.lst false [],.int 0,.unk,.unk] (λ K m=>m) ?_;refine qd1 (λ f=>∃ L p l,f=[Aw n wr b,.lst z (ksD c),o,.lst false (ksD (Bd n b c wr.toNat n.toNat)),L,p,l]) (λ K m=>?_) ?_
 . refine qao8 (n:=((1+wr.toNat:Nat):Int)) (by cases wr<;>rfl) (qZ7 (by lia) (by cases wr<;>decide)) ?_
   refine qg1 (λ i f=>∃ F p l,f=[Aw n wr b,.lst z (ksD c),o,.lst false F,.int (onT n b c (n.toNat * i)),p,l]/\(0 < i->F=ksD (Bd n b c (i - 1) n.toNat))) _ 0 _ ⟨_,_,_,rfl,λ h=>absurd h (by lia)⟩ ?_ ?_
   . rintro i x B f ⟨F,p,l,rfl,_⟩ K2 t
     rw[zAh] at t ⊢;obtain⟨hi,rfl⟩:=qY7 B;refine qx4 (As [Aw n wr b,.lst z (ksD c),o,.lst false F,.int (onT n b c (n.toNat * i)),.int (i:Nat),l] rfl ?_);refine qb0 [Aw n wr b,.lst z (ksD c),o,.lst false [],.int (onT n b c (n.toNat * i)),.int (i:Nat),l] (λ K m=>m) ?_;refine qR2 (n:=n) rfl (qZ7 (by lia) (by lia)) ?_;refine qg1 (λ j f=>∃ l,f=[Aw n wr b,.lst z (ksD c),o,.lst false (ksD (Bd n b c i j)),.int (onT n b c (n.toNat * i+j)),.int (i:Nat),l]) _ 0 _ ⟨_,rfl⟩ ?_ ?_
     . rintro j x B f ⟨l,rfl⟩ K3 u
       rw[zAh] at u ⊢;obtain⟨Z,rfl⟩:=qY7 B;refine qx4 (As [Aw n wr b,.lst z (ksD c),o,.lst false (ksD (Bd n b c i j)),.int (onT n b c (n.toNat * i+j)),.int (i:Nat),.int (j:Nat)] rfl ?_);refine qb0 [Aw n wr b,.lst z (ksD c),o,.lst false (ksD (Bd n b c i j)),.int (onT n b c (n.toNat * i+j+1)),.int (i:Nat),.int (j:Nat)] (λ K m=>qy5 ?_ m) ?_
       . have hc:Iq o (.int (j:Nat))=some (.int (Fa (hmOf n b) c j:Nat)):=by rw[<- s];exact qaq1 J c j
         have e:=Ae (g:=gSub) (y:=.int 1) (Ae (g:=Hh) (fa:=rdN 4) (ds:=[Aw n wr b,.lst z (ksD c),o,.lst false (ksD (Bd n b c i j)),.int (onT n b c (n.toNat * i+j)),.int (i:Nat),.int (j:Nat)]) (x:=.int (onT n b c (n.toNat * i+j))) rfl (Ae (g:=Iq) (fa:=rdN 2) (fb:=rdN 6) (by rw[<- s];rfl) rfl hc) rfl) (fb:=kC (.int 1)) rfl rfl;unfold A8 Ay;rw[e];have em:cR n.toNat (hmOf n b) c (n.toNat * i+j)=Fa (hmOf n b) c j:=by unfold cR;rw[Nat.mul_add_mod,zC7 Z]
         show some (D.int (if onT n b c (n.toNat * i+j)+(Fa (hmOf n b) c j:Nat) - 1 > 0 then onT n b c (n.toNat * i+j)+(Fa (hmOf n b) c j:Nat) - 1 else 0))=some (D.int (if onC (cR n.toNat (hmOf n b) c) (n.toNat * i+j)+(cR n.toNat (hmOf n b) c (n.toNat * i+j):Int) - 1 > 0 then onC (cR n.toNat (hmOf n b) c) (n.toNat * i+j)+(cR n.toNat (hmOf n b) c (n.toNat * i+j):Int) - 1 else 0));rw[em];rfl
       refine qaN6 (ys:=ksD (Bd n b c i j)) (d:=.int (onT n b c (n.toNat * i+j+1))) rfl rfl rfl (by rw[qh7];unfold Bd big;rw[zA7,zB7];lia) ?_;rw[qU1,qJ8];exact u _ ⟨_,rfl⟩
     rintro f ⟨l,rfl⟩;rw[zAh,qT9,show n.toNat * i+n.toNat=n.toNat * (i+1) by rw[Nat.mul_add,Nat.mul_one]];exact t _ ⟨_,_,_,rfl,λ _=>rfl⟩
   rintro f ⟨F,p,l,rfl,M⟩;rw[zAh,qT9,Int.toNat_natCast] at M;rw[M (by lia),show 1+wr.toNat - 1=wr.toNat by lia];exact m _ ⟨_,_,_,rfl⟩
 rintro f ⟨L,p,l,rfl⟩;exact q
theorem qe2:qa8 ["_law_plan", "_law_keys_here", "_law_passing_here", "_law_begin", "_law_found", "_law_at", "_law_on", "_law_key"] ["_law_plan", "_law_keys_here"] (qa3 qG4):=by walk_at "s"
theorem qat1:∀ ps:List (Int×Int),(prD ps).mapM Hl=some ps
 | []=>rfl
 | p::r=>by
   show List.mapM Hl (D.tup [.int p.1,.int p.2]::prD r)=_;rw[List.mapM_cons,qat1 r];rfl
theorem qal8{z:Bool}{L:Pr}{f:Int->Int}(e:L=S.map λ k=>(f k,k))(a:S.Nodup)(b:S.length<=64):qau1 (.lst z (prD L))=some (.lst false (prD (B8 L))):=by
 show ((prD _).mapM Hl).bind _=_;rw[qat1];refine qk7 ⟨?_,by rw[e,zA7];exact b⟩;rw[e];exact zBs.mpr (a.imp λ h z=>h (congrArg Prod.snd z))
theorem qae6{f:Int->Nat}:((B8 (ks.map λ k=>(((f k:Nat):Int),k))).map (·.2)).Perm ks:=by
 have h:((B8 (ks.map λ k=>(((f k:Nat):Int),k))).map (·.2)).Perm ((ks.map λ k=>(((f k:Nat):Int),k)).map (·.2)):=(List.mergeSort_perm _ _).map _;rw[zBr] at h;have e:ks.map ((·.2) ∘ λ k=>(((f k:Nat):Int),k))=ks:=List.map_id ks;rwa[e] at h
theorem qae7{f:Int->Nat}{p:Int×Int}(a:p∈B8 (ks.map λ k=>(((f k:Nat):Int),k))):p.1=(f p.2:Nat):=by
 rw[List.mem_mergeSort] at a;obtain⟨k,_,rfl⟩:=zBd.mp a;rfl
theorem qaQ8{f:Int->Nat}(b:ks.Nodup):((B8 (ks.map λ k=>(((f k:Nat):Int),k))).map (·.2)).Pairwise (Hy f):=by
 have a:=(qae6 (f:=f)).nodup_iff.mpr b;unfold List.Nodup at a;rw[zBs] at a ⊢;refine((qac3 _).and a).imp_of_mem λ{p q} c d h=>?_
 have g:=qae7 c;have i:=qae7 d;have e:=h.1;simp only[S6.plt,decide_eq_false_iff_not] at e;have j:=h.2;unfold Hy;lia
theorem qaT7{z:Bool}:∀{L R:List Int},¬ k∈L->gIdx (.lst z (ksD (L++k::R))) (.int k)=some (.int (L.length:Nat)):=by
 intro L R h;have e:Es (.int k) ((L++k::R).map V.int)=some L.length:=by
   induction L with
   | nil=>show (if decide (k=k)=true then some 0 else _)=_;rw[if_pos (zAj rfl)];rfl
   | cons a L b =>
     rw[zAo,not_or] at h;show (if decide (a=k)=true then some 0 else (Es (.int k) ((L++k::R).map V.int)).map (· + 1))=_;rw[if_neg (by simpa using λ z=>h.1 z.symm),b h.2];rfl
 show ((flats (ksD (L++k::R))).bind λ c=>(Es (.int k) c).map λ j=>D.int (j:Nat))=_;rw[qB4];show (Es (.int k) ((L++k::R).map V.int)).map (λ j=>D.int (j:Nat))=_;rw[e];rfl
theorem qae2{n:Int}{ps:Pr}{z:Bool}(h:1<=n):gIx (.lst z (ksD (Bd n ps ks i n.toNat))) (.int (-1))=some (.int (onT n ps ks (n.toNat * i+n.toNat))):=by
 obtain⟨m,e⟩:∃ m,n.toNat=m+1:=⟨n.toNat - 1,by lia⟩
 have e2:Bd n ps ks i n.toNat=Bd n ps ks i m++[onT n ps ks (n.toNat * i+m+1)]:=by rw[qJ8,e]
 rw[e2,show n.toNat * i+n.toNat=n.toNat * i+m+1 by lia];unfold ksD;rw[zBe];exact qaC9 _ _
def qac1:VSp:=λ ds Q _=>∃ n wr ps z ks,ds=[Aw n wr ps,.lst z (ksD ks)]/\1<=n/\n<=64/\(ps.map (·.1)).Nodup/\ks.Nodup/\ks.length<=200 /\
 ((∃ q,Crowd n.toNat wr (hmOf n ps) ks q)->Q .non ds)/\((∀ q,¬ Crowd n.toNat wr (hmOf n ps) ks q)->∀ g,Kept n.toNat wr (hmOf n ps) g ks->Q (.lst false (rlD n.toNat g)) ds)
theorem qK3(T:Txt K mg a):VFn P w K mg base 3 a.f45 a.d45 ["_law_plan", "_law_keys_here"] qac1:=by
 refine VFn.mk2 T.d45.F qe2 (wOf [true,true]) (λ o Q Q' xe a4 hQ _ h=>by obtain⟨n,wr,j,z,l,e,v,h2,h3,h4,h5,q,q'⟩:=h;exact⟨n,wr,j,z,l,e,v,h2,h3,h4,h5,λ h=>hQ _ _ (q h),λ h g z=>hQ _ _ (q' h g z)⟩) (λ o Q xe h=>by obtain⟨n,wr,j,z,l,e,_⟩:=h;rw[e];exact⟨rfl,rfl⟩) (λ a5 A outer sh H E av t=>⟨_,(Ac (sif (q2 (An Bk (qb1 _)) Bo (vbi qt1 qt0.ops T.Co (qa2 (vnm 1) qa7 rfl)) (v2 (A7 qc1) At (vnm 0) Af))
     (Ag (Aq (qa5 Bb)))
     Au)
     (Ac (Ak 2 qe2.nd (Aj T.d44 (qZ4 T) qa0 (rm t) (vaN 0 (vaN 1 Ad))))
     (Ac (sif (Ig (Bp (tv (v2 (A7 qc1) At (vnm 0) Af))) (F7 (q2 (An Bk (qb1 _)) Bo (v2 (A7 qc1) At (vnm 2) (vneg Af)) Af))).te
     (Ag (Aq (qa5 Bb)))
     Au)
     (Ac (Ak 3 qe2.nd (qa5 Af))
     (Ac (sif (tv (v2 (A7 qc1) At (vnm 0) Af))
     (Ag (Ak 3 qe2.nd (qa5 (v2 (Ah qk3) qk2 (vbm qaI4 PySem.F.plainAttrs_list PySem.F.slot_list_index PySem.F.type_list_index qaf3 (vnm 2) Af qat7) Af))))
     Au)
     (Ac (Ak 4 qe2.nd (qa5 (v2 (Ah qp7) qp5 (Di (qa2 Bb qa7 rfl)) (v2 (A7 qc1) At (vnm 0) Af))))
     (Ac (Ak 5 qe2.nd (qa5 (vneg Af)))
     (Ac (sforL PassesOwn.leaving (ebi qaj2 qaC5.ops T.D3 (E5 (vaV (ecN (NY:=["_law_key", "_law_begin", "_law_plan"]) (src:=[none,some 3,some 0]) 1 (blk (λ av C s0 H0 ex=>(Bi 0 (show (["_law_key", "_law_begin", "_law_plan"]:List Str).Nodup by decide +kernel))) (λ av C s0 H0 ex=>Gd) (λ av C s0 H0 ex=>(etup (vaV (e2v (Ah qp9) qp6 (e2v (Ah qC9) qC8 (Aj T.d43 (qaf0 T) qA9 (rm t) (vaN 2 (vaN 0 Ad))) (vnm 1)) (v2 (A7 qc1) At (vnm 2) Af)) (vaV (qc2 (vnm 0)) Ad)))))) Ad))) (Il (n:=2) rfl (Hj (Bi 6 qe2.nd) (Hj (Bi 7 qe2.nd) Ik)))
     (Ac (Ak 5 qe2.nd (qa5 (vbi (qt2 rfl) qM1.ops T.D0 (qa2 (v2 (Ah qk3) qk2 (vnm 5) Af) (qa2 (vnm 6) qa7 rfl) rfl))))
     (Ag (Fc (qc2 (vnm 7)) (Dv (vpn 4) (v2 (Ah qp9) qp6 (v2 (Ah qk3) qk2 (vnm 3) (vnm 5)) (v2 (A7 qc1) At (vnm 0) Af)))))))
     (Ag (Aq (emv 4))))))))))),λ o Q xe h=>?_⟩)
 obtain⟨n,wr,j,z,l,rfl,O,n2,nd,S,hl,q,q'⟩:=h;have B:=Dn (ps:=j) O;have oc:=qam9 (T:=l) (by lia) B;refine As [Aw n wr j,.lst z (ksD l),.unk,.unk,.unk,.unk,.unk,.unk] rfl ?_;refine qm0 (decide (n < (l.length:Int))) (Ae (qq4 rfl) (y:=.int n) rfl (by rw[qh7];rfl)) (λ h=>ql0 .non rfl (q ⟨0,by lia,?_⟩)) λ h=>?_
 . have h:=zA8 h
   cases wr with
   | true=>rw[if_pos rfl];exact⟨rfl,by lia⟩
   | false=>rw[if_neg (by decide),List.filter_eq_self.mpr λ _ _=>zAj (zBh _)];lia
 have a0:l.length<=n.toNat:=by have:=zB3 h;lia
 refine qb0 [Aw n wr j,.lst z (ksD l),.lst false (ksD (Bd n j l wr.toNat n.toNat)),.unk,.unk,.unk,.unk,.unk] (λ K m=>qg2 (qH5 (x:=Aw n wr j) (y:=.lst z (ksD l)) rfl rfl rfl ⟨n,wr,j,z,l,rfl,O,n2,nd,hl,rfl⟩ rfl m)) ?_;refine qj0 (!wr&&decide (0 < onT n j l (n.toNat * wr.toNat+n.toNat))) (λ Q q=>qo6 (!wr) (decide (0 < onT n j l (n.toNat * wr.toNat+n.toNat))) (λ Q q=>qx7 (b:=wr) rfl q) (λ _ Q q=>ql3 (Ae (Ae rfl rfl (qae2 O)) rfl rfl) q) q) (λ h=>ql0 .non rfl (q ?_)) λ h=>?_
 . cases wr with
   | true=>cases h
   | false =>
     have h:=zA8 h;rw[show n.toNat * false.toNat+n.toNat=n.toNat by show n.toNat * 0+_=_;lia] at h;exact oc.mp h
 refine qb0 [Aw n wr j,.lst z (ksD l),.lst false (ksD (Bd n j l wr.toNat n.toNat)),.int 0,.unk,.unk,.unk,.unk] (λ K m=>m) ?_;refine qd1 (λ o=>∃ s:Nat,o=[Aw n wr j,.lst z (ksD l),.lst false (ksD (Bd n j l wr.toNat n.toNat)),.int (s:Nat),.unk,.unk,.unk,.unk]/\s<=n.toNat/\(wr=false->s=0)/\(∀ q,¬ Crowd n.toNat wr (hmOf n j) l q)/\∀ q,¬ Crowd n.toNat false (λ k=>Ab n.toNat (s % n.toNat) (hmOf n j k)) l q) (λ K m=>?_) ?_
 . refine if_v (b:=wr) rfl (λ G=>?_) λ G=>m _ ⟨0,rfl,by lia,λ _=>rfl,?_,?_⟩
   . subst G
     obtain⟨r,t,h0⟩:=qay8 (T:=l) (by lia) B a0;have hm:(0:Int)∈Bd n j l 1 n.toNat:=zBd.mpr ⟨r,zAn.mpr t,by rw[Nat.mul_one];exact h0⟩;obtain⟨L,R,U,nL⟩:=List.eq_append_cons_of_mem hm;have V:L.length < n.toNat:=by
       have:=congrArg List.length U
       unfold Bd at this;simp at this;lia
     have v:onT n j l (n.toNat+L.length+1)=0:=by
       have:(Bd n j l 1 n.toNat)[L.length]? = some 0:=by rw[U];simp
       unfold Bd at this;rw[zB2,List.getElem?_range V,Nat.mul_one] at this;exact Option.some.inj this
     refine qy5 (d:=.int ((L.length+1:Nat):Int)) (Ae (g:=Hh) (y:=.int 1) (Ae (g:=gIdx) (x:=.lst false (ksD (L++0::R))) (y:=.int 0) (by rw[<- U];rfl) rfl (qaT7 nL)) rfl rfl) (m _ ⟨L.length+1,rfl,by lia,λ h=>absurd h (by decide),λ q c=>?_,qK5 V B v⟩);have c:=c.2;rw[if_pos rfl] at c;lia
   . subst G
     have h:decide _=false:=h;rw[show n.toNat * false.toNat+n.toNat=n.toNat by show n.toNat * 0+_=_;lia] at h;exact λ q c=>zB3 h (oc.mpr ⟨q,c⟩)
   subst G;have h:decide _=false:=h;rw[show n.toNat * false.toNat+n.toNat=n.toNat by show n.toNat * 0+_=_;lia] at h;rw[Nat.zero_mod,show (λ k=>Ab n.toNat 0 (hmOf n j k))=hmOf n j from funext λ k=>G0];exact λ q c=>zB3 h (oc.mpr ⟨q,c⟩)
 rintro o ⟨s,rfl,hs,G,nc,a1⟩;have I:s % n.toNat < n.toNat:=Nat.mod_lt _ (by lia);generalize eP:D.lst false (ksD (Bd n j l wr.toNat n.toNat))=J;refine qb0 [Aw n wr j,.lst z (ksD l),J,.int (s:Nat),.lst false (rlD n.toNat λ _=>none),.unk,.unk,.unk] (λ K m=>qy5 (Ae rfl (y:=.int n) rfl (qQ5 (by lia) n2)) m) ?_;refine qb0 [Aw n wr j,.lst z (ksD l),J,.int (s:Nat),.lst false (rlD n.toNat λ _=>none),.int (-1),.unk,.unk] (λ K m=>m) ?_;refine qd1 (λ o=>∃ g d5 M N,o=[Aw n wr j,.lst z (ksD l),J,.int (s:Nat),.lst false (rlD n.toNat g),d5,M,N]/\Kept n.toNat wr (hmOf n j) g l) (λ K m=>?_) ?_
 . refine co_to (qh6 (qa1 (a:=D.lst z (ksD l)) rfl (qa1 (a:=ksD l) rfl ⟨qh9 l,?_⟩)))
   refine qm5 (λ ι=>∃ d,ι=[d,.int (s:Nat),Aw n wr j]) (λ x=>some (match x with | .int k=>.tup [.int (Ab n.toNat (s % n.toNat) (hmOf n j k):Nat),.int k] | d=>d)) _ [] _ (by show 0+_ < 1000000;rw[qh7];lia) ⟨_,rfl⟩ ?_ ?_
   . rintro y W ι a6 ⟨d,rfl⟩ R hR X
     obtain⟨k,_,rfl⟩:=zBd.mp W;have this:=hR [.int k,.int (s:Nat),Aw n wr j] ⟨_,rfl⟩;refine qx4 (qav3 (Eg rfl (qh6 (qF2 (qF2 (qH5 (x:=Aw n wr j) (y:=.int k) (d:=.int (qc6 n j k)) rfl rfl rfl ⟨n,wr,j,k,rfl,O,nd,rfl⟩ rfl ?_))))));refine qa1 (a:=D.int (qc6 n j k - (s:Nat))) rfl (qa1 (a:=D.int (Ab n.toNat (s % n.toNat) (hmOf n j k):Nat)) ((Ec (by lia)).trans ?_) (qk9 (y:=.int k) rfl rfl (qb4 ⟨by show 2<=1000000;decide,X,this⟩)));have v:=qaA0 (B k) hs;rw[qL1 O k,show ((n.toNat:Nat):Int)=n by lia] at v;rw[v]
   rintro ι ⟨d,rfl⟩;rw[zB8,qai5];have U:((ksD l).map λ x=>match x with | .int k=>D.tup [.int (Ab n.toNat (s % n.toNat) (hmOf n j k):Nat),.int k] | d=>d)=prD (l.map λ k=>((Ab n.toNat (s % n.toNat) (hmOf n j k):Nat),k)):=by
     unfold ksD prD;rw[zBr,zBr];rfl
   rw[U];have pw:=qaQ8 (f:=λ k=>Ab n.toNat (s % n.toNat) (hmOf n j k)) S;have pm:=qae6 (f:=λ k=>Ab n.toNat (s % n.toNat) (hmOf n j k)) (ks:=l);have of:=λ p=>qae7 (f:=λ k=>Ab n.toNat (s % n.toNat) (hmOf n j k)) (ks:=l) (p:=p)
   have es:=qal8 (z:=false) (L:=l.map λ k=>(((Ab n.toNat (s % n.toNat) (hmOf n j k):Nat):Int),k)) rfl S (by lia);generalize B8 (l.map λ k=>(((Ab n.toNat (s % n.toNat) (hmOf n j k):Nat):Int),k))=L at pw pm of es;refine qb4 (qa1 (a:=D.lst false (prD L)) es (qa1 (a:=prD L) rfl ⟨qK9 L,?_⟩));refine qg1 (λ i o=>∃ g top M N,o=[Aw n wr j,.lst z (ksD l),J,.int (s:Nat),.lst false (rlD n.toNat λ i=>g (Ab n.toNat (s % n.toNat) i)),.int ((top:Nat) - 1:Int),M,N]/\Fill n.toNat (λ k=>Ab n.toNat (s % n.toNat) (hmOf n j k)) g ((L.take i).map (·.2)) top) _ 0 _ ⟨_,0,_,_,rfl,Fill.start (by lia) λ k=>qi0 (B k) I⟩ ?_ ?_
   . rintro i y W o ⟨g,top,M,N,rfl,F⟩ K2 Y
     rw[zAh] at F Y;unfold prD at W;rw[zB2] at W;obtain⟨⟨h0,k⟩,hp,rfl⟩:=zAd.mp W;obtain rfl:h0=((Ab n.toNat (s % n.toNat) (hmOf n j k):Nat):Int):=of _ (zAy hp);have a2:=(zA2.mp hp).1;have a3:L.map (·.2)=((L.take i).map (·.2)++[k])++(L.drop (i+1)).map (·.2):=by
       conv=>lhs;rw[<- zBf i L,List.drop_eq_getElem_cons a2,(zA2.mp hp).2]
       simp
     have tk:(L.take (i+1)).map (·.2)=(L.take i).map (·.2)++[k]:=by rw[List.take_add_one,hp,zBe];rfl
     rw[a3] at pw pm;have u:∀ x∈(L.take i).map (·.2),Hy (λ k=>Ab n.toNat (s % n.toNat) (hmOf n j k)) x k:=λ x hx=>(List.pairwise_append.mp (List.pairwise_append.mp pw).1).2.2 x hx k (zAe.mpr rfl)
     have nk:¬ k∈(L.take i).map (·.2):=λ h=>by rcases u k h with z | z<;>lia
     have t:=F.room u λ q c=>a1 q ((c.mono (List.sublist_append_left _ _)).perm pm)
     have F':=F.put nk u t;generalize er:max top (Ab n.toNat (s % n.toNat) (hmOf n j k))=r at t F';refine qR0 (As [Aw n wr j,.lst z (ksD l),J,.int (s:Nat),.lst false (rlD n.toNat λ i=>g (Ab n.toNat (s % n.toNat) i)),.int ((top:Nat) - 1:Int),.int (Ab n.toNat (s % n.toNat) (hmOf n j k):Nat),.int k] rfl ?_);refine qb0 [Aw n wr j,.lst z (ksD l),J,.int (s:Nat),.lst false (rlD n.toNat λ i=>g (Ab n.toNat (s % n.toNat) i)),.int (r:Nat),.int (Ab n.toNat (s % n.toNat) (hmOf n j k):Nat),.int k] (λ K m=>qy5 (d:=.int (r:Nat)) ?_ m) ?_
     . show some (D.int (if ((Ab n.toNat (s % n.toNat) (hmOf n j k):Nat):Int) > (top:Nat) - 1+1 then ((Ab n.toNat (s % n.toNat) (hmOf n j k):Nat):Int) else (top:Nat) - 1+1))=_
       congr 2
       split<;>lia
     have em:(((s:Nat):Int)+(r:Nat)) % n=(rot n.toNat (s % n.toNat) r:Nat):=by
       have:((s+r:Nat):Int) % ((n.toNat:Nat):Int)=((s+r) % n.toNat:Nat):=by lia
       rw[show ((n.toNat:Nat):Int)=n by lia,Nat.add_mod,zC7 t,qar7 I t] at this;rw[<- this];congr 1
     refine qI8 (ys:=rlD n.toNat λ i=>g (Ab n.toNat (s % n.toNat) i)) (d:=.int k) (k:=(rot n.toNat (s % n.toNat) r:Nat)) rfl rfl rfl (Ae (x:=.int ((s:Nat)+(r:Nat))) (y:=.int n) rfl rfl ((Ec (by lia)).trans (by rw[em]))) (Hm (qP5 I t)) ?_;rw[qF9];have ec:rlD n.toNat (Row.set (λ i=>g (Ab n.toNat (s % n.toNat) i)) (rot n.toNat (s % n.toNat) r) k)=rlD n.toNat λ i=>Row.set g r k (Ab n.toNat (s % n.toNat) i):=qk0 λ i hi=>by
       by_cases e:i=rot n.toNat (s % n.toNat) r
       . subst e;rw[qb7,qq6 I t,qb7]
       rw[qd2 e,qd2 λ z=>e (by rw[<- z,qp4 I hi])]
     refine Y _ ⟨_,r+1,.int (Ab n.toNat (s % n.toNat) (hmOf n j k):Nat),.int k,?_,by rw[tk];exact F'⟩;rw[<- ec,show (((r+1:Nat):Int) - 1)=((r:Nat):Int) by lia];rfl
   rintro o ⟨g,top,M,N,rfl,F⟩;have Z:(prD L).length=L.length:=zA7 _;rw[zAh,Z,List.take_length] at F;refine m _ ⟨_,_,_,_,rfl,?_⟩;have K1:=F.k.of_perm pm;cases wr with
   | true=>exact K1.turn I B
   | false =>
     obtain rfl:=G rfl;rw[Nat.zero_mod] at K1 ⊢;rw[show (λ k=>Ab n.toNat 0 (hmOf n j k))=hmOf n j from funext λ k=>G0] at K1;rw[show (λ i=>g (Ab n.toNat 0 i))=g from funext λ i=>by rw[G0]];exact K1
 rintro o ⟨g,d5,M,N,rfl,KP⟩;exact q' nc g KP
theorem qy8:qa8 ["_law_bag_here", "_law_many", "_law_found", "_law_k", "_law_one", "_law_key"] ["_law_bag_here", "_law_many"] (qa3 qad2):=by walk_at "s"
def qaw3:VSp:=λ ds Q _=>∃ b m a,ds=[b,.int m]/\isBag a b/\0<=m/\m<=64/\∀ c ks,isBag a c->ks.Nodup->(∀ k∈ks,0<=k/\k < 1000000000000000000)->ks.length<=64->Q (.lst false (ksD ks)) [c,.unk]
theorem qau3{x y z w i:Int}(c:0<=i)(h1:i < 4){P:Int->Prop}(d:P x)(e:P y)(f:P z)(g:P w):∃ v,atI [D.int x,D.int y,D.int z,D.int w] i=some (.int v)/\P v:=by
 obtain⟨v,b,a⟩:=qX5 (xs:=[D.int x,D.int y,D.int z,D.int w]) c h1;simp only[zAo,zC6,or_false] at b;rcases b with rfl | rfl | rfl | rfl
 . exact⟨x,a,d⟩
 . exact⟨y,a,e⟩
 . exact⟨z,a,f⟩
 exact⟨w,a,g⟩
theorem qaz1(T:Txt K mg a):VFn P w K mg base 2 a.f46 a.d46 ["_law_bag_here", "_law_many"] qaw3:=by
 refine VFn.mk' T.d46.F qy8 (wOf [true,true]) (λ f Q Q' I U V _ h=>by obtain⟨b,m,l,e,W,X,Y,q⟩:=h;exact⟨b,m,l,e,W,X,Y,λ J c L M Z a4=>V _ _ (q J c L M Z a4)⟩) (λ f Q I ⟨b,m,l,e,_⟩=>by rw[e];rfl) (λ f Q I h=>by obtain⟨b,m,l,e,⟨x,y,z,eb,_⟩,_⟩:=h;rw[e,eb];rfl) (λ a0 A outer sh H E av N=>⟨_,(Ac (Ak 2 qy8.nd (qa5 (Di qa7)))
     (Ac (qY4 PassesOwn.leaving T.Cr (E5 (vaN 1 Ad)) (Bi 3 qy8.nd)
     (Ac (Ak 4 qy8.nd (Aj T.d42 (qe5 T) qa0 (rm N) (vaN 0 (vaV (qa5 Af) Ad))))
     (Ac (Ak 5 qy8.nd (e2P (A7 qc1) At (elst (vaV (qc2 (vnm 4)) (vaV (qa5 (v2 (Ah qp7) qp5 Af (vnm 4))) (vaV (qa5 (v2 (Ah qk3) qk2 (v2 (Ah qp7) qp5 Af (vnm 4)) (v2 (Ah qp9) qp6 (vnm 4) Af))) (vaV (Aj T.d42 (qe5 T) qa0 (rm N) (vaN 0 (vaV (qa5 (vpow 1000000000000000000)) Ad))) Ad))))) (Aj T.d42 (qe5 T) qa0 (rm N) (vaN 0 (vaV (qa5 Af) Ad)))))
     (Ag (sif (q2 (An qp8 (by with_unfolding_all rfl)) Fe (vnm 5) (vnm 2))
     (Ag (Bf (Du 2 qH2 PySem.F.plainAttrs_list PySem.F.slot_list_append PySem.F.type_list_append qf6 (vaN 5 Ad))))
     Au)))))
     (Ag (Aq (emv 2))))),λ f Q I h=>?_⟩)
 obtain⟨b,m,l,rfl,B,m0,m1,q⟩:=h;refine As [b,.int m,.unk,.unk,.unk,.unk] rfl ?_;refine qb0 [b,.int m,.lst false (ksD []),.unk,.unk,.unk] (λ K s=>s) ?_;refine qd1 (λ f=>∃ b c t p j,f=[b,.unk,.lst false (ksD c),t,p,j]/\isBag l b/\c.Nodup/\(∀ k∈c,0<=k/\k < 1000000000000000000)/\c.length<=m.toNat) (λ K s=>?_) ?_
 . refine qao9 (n:=m) rfl (qZ7 (by lia) (by lia)) ?_
   refine qg1 (λ i f=>∃ b c t p j,f=[b,.unk,.lst false (ksD c),t,p,j]/\isBag l b/\c.Nodup/\(∀ k∈c,0<=k/\k < 1000000000000000000)/\c.length<=i) _ 0 _ ⟨b,[],_,_,_,rfl,B,List.nodup_nil,nofun,zA3 _⟩ ?_ ?_
   . rintro i x G f ⟨b,c,t,p,j,rfl,B,C,D,g⟩ K2 u
     rw[zAh] at g u;obtain⟨hi,rfl⟩:=qY7 G;refine qx4 (As [b,.unk,.lst false (ksD c),.int (i:Nat),p,j] rfl ?_);refine qd1 (λ f=>∃ b o,f=[b,.unk,.lst false (ksD c),.int (i:Nat),.int o,j]/\isBag l b/\0<=o/\o < 70) (λ K s=>?_) ?_
     . exact qe1 rfl B rfl (by decide) (by decide) λ v J v0 v1 B'=>s _ ⟨J,v,rfl,B',v0,v1⟩
     rintro f ⟨b,o,rfl,B,o0,o1⟩;refine qd1 (λ f=>∃ b r,f=[b,.unk,.lst false (ksD c),.int (i:Nat),.int o,.int r]/\isBag l b/\0<=r/\r < 1000000000000000000) (λ K s=>?_) ?_
     . have S:f2 Gk (kC (.int 64)) (rdN 4) [b,.unk,.lst false (ksD c),.int (i:Nat),.int o,j]=some (.int (64 * o)):=Ae (x:=.int 64) (y:=.int o) rfl rfl (mulL (by decide))
       refine qg2 (qal6 (qZ8 (qk9 (y:=.int o) rfl rfl (qc4 (y:=.int (64 * o)) S (qc4 (y:=.int (64 * o+o % 3)) (Ae S (Ae (x:=.int o) (y:=.int 3) rfl rfl (Ec (by decide))) rfl) (qh6 ?_))))));refine qe1 (ds:=[b,.unk,.lst false (ksD c),.int (i:Nat),.int o,j]) (m:=1000000000000000000) rfl B rfl (by decide) (by decide) λ x4 b1 L c1 B1=>qb4 ⟨by show 4<=1000000;decide,?_⟩
       refine qe1 (ds:=[b1,.unk,.lst false (ksD c),.int (i:Nat),.int o,j]) (m:=4) rfl B1 rfl (by decide) (by decide) λ x5 b2 M c2 B2=>?_
       obtain⟨v,ev,hv⟩:=qau3 (P:=λ v=>0<=v/\v < 1000000000000000000) M c2 (x:=o) (y:=64 * o) (z:=64 * o+o % 3) (w:=x4) ⟨by lia,by lia⟩ ⟨by lia,by lia⟩ ⟨by lia,by lia⟩ ⟨L,c1⟩;exact qa1 ev (s _ ⟨b2,v,rfl,B2,hv⟩)
     rintro f ⟨b,r,rfl,B,O⟩;refine if_v (b:=!decide (r∈c)) (Ae rfl rfl qQ4) (λ R=>?_) λ R=>u _ ⟨b,c,_,_,_,rfl,B,C,D,by lia⟩
     have hm:¬ r∈c:=λ z=>by rw[zAj z] at R;cases R
     refine qaN5 (ys:=ksD c) (d:=.int r) rfl rfl rfl (by decide) (by rw[qh7];unfold big;lia) ?_;rw[qU1];refine u _ ⟨b,c++[r],_,_,_,rfl,B,zBo.mpr ⟨C,(by simp),λ x G y hy e=>hm (by rw[<- zAe.mp hy,<- e];exact G)⟩,λ x G=>?_,by rw[zAf];exact Nat.add_le_add_right g 1⟩;rcases zAa.mp G with h | h
     . exact D x h
     rw[zAe.mp h];exact O
   rintro f ⟨b,c,t,p,j,rfl,B,C,D,g⟩;rw[zAh,qT9] at g;exact s _ ⟨b,c,t,p,j,rfl,B,C,D,g⟩
 rintro f ⟨b,c,t,p,j,rfl,B,C,D,g⟩;exact q b c B C D (by lia)
theorem qj3:qa8 ["_law_bag_here", "_law_keys_here", "_law_homes", "_law_key"] ["_law_bag_here", "_law_keys_here"] (qa3 ql7):=by walk_at "s"
theorem qaB4{z:Bool}{j:Int}(h:0<=j):gSl (.lst z (ksD ks)) none (some j)=some (.lst false (ksD (ks.take j.toNat))):=by
 have e:En (ksD ks) none (some j)=ksD (ks.take j.toNat):=by
   rw[show j=((j.toNat:Nat):Int) by lia,qW0,Int.toNat_natCast];unfold ksD;rw[List.map_take]
 show gd (D.imms (En (ksD ks) none (some j))=true) (.lst false (En (ksD ks) none (some j)))=_;rw[e];exact qk7 (qh9 _)
theorem qav6{x y z i:Int}(c:0<=i)(h1:i < 3){P:Int->Prop}(d:P x)(e:P y)(f:P z):∃ v,atI [D.int x,D.int y,D.int z] i=some (.int v)/\P v:=by
 obtain⟨v,b,a⟩:=qX5 (xs:=[D.int x,D.int y,D.int z]) c h1;simp only[zAo,zC6,or_false] at b;rcases b with rfl | rfl | rfl
 . exact⟨x,a,d⟩
 . exact⟨y,a,e⟩
 exact⟨z,a,f⟩
theorem qaG7{ps:Pr}{m:Int}:prD ps++[.tup [.int k,.int m]]=prD (ps++[(k,m)]):=by unfold prD;rw[zBe];rfl
theorem qaK2(ps:Pr):(prD ps).length=ps.length:=zA7 _
def qF6:VSp:=λ ds Q _=>∃ b z ks a,ds=[b,.lst z (ksD ks)]/\isBag a b/\ks.Nodup/\(∀ k∈ks,Al k)/\ks.length<=64/\∀ c ps,isBag a c->qx5 ps->Q (.lst false (prD ps)) [c,.lst z (ksD ks)]
theorem qG9(T:Txt K mg a):VFn P w K mg base 2 a.f47 a.d47 ["_law_bag_here", "_law_keys_here"] qF6:=by
 refine VFn.mk' T.d47.F qj3 (wOf [true,true]) (λ g Q Q' C S U _ h=>by obtain⟨b,z,f,n,e,V,W,X,Y,q⟩:=h;exact⟨b,z,f,n,e,V,W,X,Y,λ Z c r L=>U _ _ (q Z c r L)⟩) (λ g Q C h=>by obtain⟨b,z,f,n,e,_⟩:=h;rw[e];rfl) (λ g Q C h=>by obtain⟨b,z,f,n,e,⟨x,y,z',eb,_⟩,_⟩:=h;rw[e,eb];rfl) (λ a0 A outer sh H E av s=>⟨_,(Ac (Ak 2 qj3.nd (qa5 (Di qa7)))
     (Ac (sforL PassesOwn.leaving (eslN 1 (e2P (A7 qc1) At (qa5 (Di (qa2 Af (qa2 Af (qa2 Af (qa2 Af (qa2 Af qa7 rfl) rfl) rfl) rfl) rfl))) (Aj T.d42 (qe5 T) qa0 (rm s) (vaN 0 (vaV (qa5 Af) Ad))))) (Bi 3 qj3.nd)
     (Ag (Bf (Du 2 qH2 PySem.F.plainAttrs_list PySem.F.slot_list_append PySem.F.type_list_append qf6 (vaV (etup (vaV (qc2 (vnm 3)) (vaV (e2P (A7 qc1) At (elst (vaV (Aj T.d42 (qe5 T) qa0 (rm s) (vaN 0 (vaV (qa5 Af) Ad))) (vaV (e2 (Ah qC9) qC8 (qa5 (vpow 1000000000000000000)) (Aj T.d42 (qe5 T) qa0 (rm s) (vaN 0 (vaV (qa5 Af) Ad)))) (vaV (qa5 Af) Ad)))) (Aj T.d42 (qe5 T) qa0 (rm s) (vaN 0 (vaV (qa5 Af) Ad)))) Ad))) Ad)))))
     (Ag (Aq (emv 2))))),λ g Q C h=>?_⟩)
 obtain⟨b,z,f,n,rfl,B,nd,hk,a4,q⟩:=h;refine As [b,.lst z (ksD f),.unk,.unk] rfl ?_;refine qb0 [b,.lst z (ksD f),.lst false (prD []),.unk] (λ K G=>G) ?_;refine qd1 (λ g=>∃ b c l,g=[b,.lst z (ksD f),.lst false (prD c),l]/\isBag n b/\qx5 c) (λ K G=>?_) ?_
 . refine⟨rfl,qal5 (x:=.lst false [.int 0,.int 0,.int 3,.int 6,.int 64]) rfl (qe1 (ds:=[b,.lst z (ksD f),.lst false (prD []),.unk]) (m:=5) rfl B rfl (by decide) (by decide) λ M I r N B1=>?_)⟩
   obtain⟨d,O,ed⟩:=qX5 (xs:=[D.int 0,D.int 0,D.int 3,D.int 6,D.int 64]) r N;obtain⟨t,rfl,t0⟩:∃ t:Int,d=.int t/\0<=t:=by
     simp only[zAo,zC6,or_false] at O;rcases O with rfl | rfl | rfl | rfl | rfl<;>exact⟨_,rfl,by decide⟩
   refine qa1 ed (qa1 (a:=t) rfl (qa1 (a:=D.lst false (ksD (f.take t.toNat))) (qaB4 (z:=z) t0) (qa1 (a:=ksD (f.take t.toNat)) rfl ⟨qh9 _,?_⟩)));refine qg1 (λ i g=>∃ b c l,g=[b,.lst z (ksD f),.lst false (prD c),l]/\isBag n b/\c.map (·.1)=(f.take t.toNat).take i/\∀ p∈c,Al p.2) _ 0 _ ⟨I,[],_,rfl,B1,rfl,nofun⟩ ?_ ?_
   . rintro i x hx g ⟨b,c,l,rfl,B,j,J⟩ K2 o
     rw[zAh] at j o;obtain⟨k,hi,rfl⟩:=qaA6 hx;have a5:c.length<=64:=by have:=congrArg List.length j;simp at this;lia
     refine qx4 (As [b,.lst z (ksD f),.lst false (prD c),.int k] rfl (qj1 ⟨rfl,qh6 (qaD8 (qk9 (y:=.int k) rfl rfl (qh6 (qal6 (qZ8 (qh6 ?_))))))⟩));refine qe1 (ds:=[b,.lst z (ksD f),.lst false (prD c),.int k]) (m:=64) rfl B rfl (by decide) (by decide) λ M I r N B1=>qh6 (qal5 (x:=.int 1000000000000000000) rfl ?_)
     refine qe1 (ds:=[I,.lst z (ksD f),.lst false (prD c),.int k]) (m:=64) rfl B1 rfl (by decide) (by decide) λ R b2 L c2 B2=>qa1 (a:=D.int (1000000000000000000 - R)) rfl (qc4 (y:=.int 7) rfl (qb4 ⟨by show 3<=1000000;decide,?_⟩))
     refine qe1 (ds:=[b2,.lst z (ksD f),.lst false (prD c),.int k]) (m:=3) rfl B2 rfl (by decide) (by decide) λ x3 b3 a3 c3 B3=>?_
     obtain⟨v,ev,hv⟩:=qav6 (P:=Al) a3 c3 (x:=M) (y:=1000000000000000000 - R) (z:=7) ⟨by lia,by lia⟩ ⟨by lia,by lia⟩ ⟨by decide,by decide⟩;refine qa1 ev (qb4 ⟨by show 2<=1000000;decide,qb4 ?_⟩);refine qa1 (a:=prD c) rfl (qa1 (a:=(prD c++[D.tup [.int k,.int v]],D.non)) (if_pos (by rw[qaK2];unfold big;lia)) ?_);rw[qaG7];refine o _ ⟨b3,c++[(k,v)],_,rfl,B3,by rw[zBe,j,qr0 hi];rfl,λ p u=>?_⟩;rcases zAa.mp u with h | h
     . exact J p h
     rw[zAe.mp h];exact hv
   rintro g ⟨b,c,l,rfl,B,j,J⟩;rw[zAh,qh7,List.take_length] at j;exact G _ ⟨b,c,l,rfl,B,by have:=congrArg List.length j;simp at this;lia,by rw[j];exact nd.sublist (List.take_sublist _ _),λ p u=>⟨hk _ (List.mem_of_mem_take (by rw[<- j];exact List.mem_map_of_mem u)),J p u⟩⟩
 rintro g ⟨b,c,l,rfl,B,hG⟩;exact q b c B hG
theorem qG2:qa8 ["self", "key"] ["self", "key"] (qa3 ql6):=by walk_at "s"
noncomputable def Gw:Option Int->V
 | some k=>.int k
 | none=>.non
theorem qai6(N:Nat)(g:Nat->Option Int):flats (rlD N g)=some ((List.range N).map λ i=>Gw (g i)):=by
 have:∀ l:List Nat,flats (l.map λ i=>B9 (g i))=some (l.map λ i=>Gw (g i)):=λ l=>by
   induction l with
   | nil=>rfl
   | cons a l b =>
     show ((B9 (g a)).flat.bind λ v=>(flats (l.map λ i=>B9 (g i))).bind λ c=>some (v::c))=_;rw[b,zB0];cases g a<;>rfl
 exact this _
noncomputable def Ej(N:Nat)(g:Nat->Option Int)(k:Int):Option Nat:=(List.range N).findIdx? λ i=>decide (g i=some k)
def Dx(N:Nat)(g:Nat->Option Int)(k:Int):D:=match Ej N g k with
 | some i=>.int (i:Nat)
 | none=>.non
theorem qau6{o:Option Int}:eqV (Gw o) (.int k)=decide (o=some k):=by
 cases o with
 | none=>rfl
 | some a =>
   show decide (a=k)=_;exact zBv.mpr ⟨λ h=>by rw[h],λ h=>Option.some.inj h⟩
theorem qat6{k:Int}{g:Nat->Option Int}:∀ l:List Nat,Es (.int k) (l.map λ i=>Gw (g i))=l.findIdx? λ i=>decide (g i=some k)
 | []=>rfl
 | a::l=>by
   show (if eqV (Gw (g a)) (.int k)=true then some 0 else (Es (.int k) (l.map λ i=>Gw (g i))).map (· + 1))=_;rw[qau6,qat6 l,zC8]
theorem qaL3{k:Int}{g:Nat->Option Int}:∀ l:List Nat,inV (.int k) (l.map λ i=>Gw (g i))=(l.findIdx? λ i=>decide (g i=some k)).isSome
 | []=>rfl
 | a::l=>by
   have b:=qaL3 (k:=k) (g:=g) l;unfold inV at b ⊢;rw[zB0,zCc,b,zC8];have e:=qau6 (o:=g a) (k:=k);cases h:decide (g a=some k) with
   | true=>rw[h] at e;simp[e]
   | false=>rw[h] at e;simp[e]
theorem qT0{g:Nat->Option Int}(h:∀ i,i < N->g i≠some k):Dx N g k=.non:=by
 have:Ej N g k=none:=List.findIdx?_eq_none_iff.mpr λ i a=>zBa (h i (zAn.mp a))
 unfold Dx;rw[this]
theorem qam3{g:Nat->Option Int}(hi:i < N)(e:g i=some k):∃ j:Nat,Dx N g k=.int (j:Nat):=by
 unfold Dx;cases h:Ej N g k with
 | some j=>exact⟨j,rfl⟩
 | none =>
   have:=List.findIdx?_eq_none_iff.mp h i (zAn.mpr hi)
   rw[zAj e] at this;cases this
def qF5(C CP:Addr):VSp:=Ax λ ds d=>∃ zr n wr ps g dn k,ds=[rowD zr C CP n wr ps g dn,.int k]/\Al k/\d=Dx n.toNat g k
theorem qk5(T:Txt K mg a):VFn P w K mg base 4 a.f30 a.d30 ["self", "key"] (qF5 a.C5 a.C3):=by
 refine VFn.mk2 T.d30.F qG2 (wOf [true,true]) qb2 (λ r Q p h=>by obtain⟨d,⟨b,n,wr,l,g,m,k,e,_⟩,_⟩:=h;rw[e];exact⟨rfl,rfl⟩) (λ s A outer z H E B t=>⟨_,(Ac (sif (Bp (te (Aj T.d3 (qc3 T) qa0 (rm t) (vaN 1 Ad))))
     (Ag qi6)
     Au)
     (Ag (Aq (eif (q2 (An qG7 (by with_unfolding_all rfl)) Fe (vnm 1) (Be rfl (vnm 0) T.C8.cl T.Cd)) (qa5 (vbm qaI4 PySem.F.plainAttrs_list PySem.F.slot_list_index PySem.F.type_list_index qaf3 (Be rfl (vnm 0) T.C8.cl T.Cd) (vnm 1) qat7)) (qa5 Bb))))),λ r Q p h=>?_⟩)
 obtain⟨d,⟨b,n,wr,l,g,m,k,rfl,u,rfl⟩,q⟩:=h;refine As [rowD b a.C5 a.C3 n wr l g m,.int k] rfl ?_;refine Eh (λ Q p q=>qJ6 (x:=.int k) (d:=.bl true) rfl (qan1 u) rfl q) (qh0 ?_);have o:f2 (Ib false) (rdN 1) (f1 (D.fld a.C5 "held") (rdN 0)) [rowD b a.C5 a.C3 n wr l g m,.int k]=some (.bl (Ej n.toNat g k).isSome):=by
   refine Ae (x:=.int k) (y:=.lst b (rlD n.toNat g)) rfl (Av rfl qx8) ?_;show ((flats (rlD n.toNat g)).bind λ c=>some (D.bl (if false=true then !inV (.int k) c else inV (.int k) c)))=_;rw[qai6];show some (D.bl (inV (.int k) _))=_;rw[qaL3];rfl
 refine Fj o (λ h=>?_) λ h=>?_
 . obtain⟨i,f⟩:=zAz.mp h
   refine qr8 (d:=.int (i:Nat)) (Ae (Av rfl qx8) rfl ?_) ?_
   . show ((some (V.int k)).bind λ v=>(flats (rlD n.toNat g)).bind λ c=>(Es v c).map λ j=>D.int (j:Nat))=_
     rw[qai6];show (Es (.int k) _).map _=_;rw[qat6];show (Ej n.toNat g k).map _=_;rw[f];rfl
   unfold Dx at q;rw[f] at q;exact q
 refine qr8 (d:=.non) rfl ?_;have f:Ej n.toNat g k=none:=by cases e:Ej n.toNat g k with | none=>rfl | some i=>rw[e] at h;cases h
 unfold Dx at q;rw[f] at q;exact q
theorem qad0:qa8 ["self", "key"] ["self", "key"] (qa3 qG3):=by walk_at "s"
theorem qV4{C CP:Addr}{n:Int}{wr:Bool}{ps:Pr}{g:Nat->Option Int}{dn:Ds}:D.fidx C "done" (rowD false C CP n wr ps g dn)=some 2:=by
 show (if C=C then List.findIdx? (λ q:Str×D=>("done" : Str) == q.1) [("plan",Aa true CP n wr ps),("held",.lst false (rlD n.toNat g)),("done",.lst false dn)] else none)=_;rw[if_pos rfl];rfl
def qab9(C CP:Addr):VSp:=λ ds Q _=>∃ n wr ps g dn S k,ds=[rowD false C CP n wr ps g dn,.int k]/\1<=n/\n<=64/\Al k/\(∀ x∈S,Al x)/\Kept n.toNat wr (hmOf n ps) g S/\¬ k∈S/\(∀ q,¬ Crowd n.toNat wr (hmOf n ps) (S++[k]) q)/\dn.length<=1000 /\
 ∀ came g',Kept n.toNat wr (hmOf n ps) g' (S++[k])->Q (.lst false came) [rowD false C CP n wr ps g' (dn++[.tup [.str "put",.int k]]),.int k]
theorem qae9(T:Txt K mg a):VFn P w K mg base 8 a.f31 a.d31 ["self", "key"] (qab9 a.C5 a.C3):=by
 refine VFn.mk2 T.d31.F qad0 (wOf [true,true]) (λ v Q Q' C L M _ h=>by obtain⟨n,wr,b,g,f,S,k,e,N,O,R,U,V,W,X,Y,q⟩:=h;exact⟨n,wr,b,g,f,S,k,e,N,O,R,U,V,W,X,Y,λ c m K=>M _ _ (q c m K)⟩) (λ v Q C h=>by obtain⟨n,wr,b,g,f,S,k,e,_⟩:=h;rw[e];exact⟨rfl,rfl⟩) (λ Z A outer sh H E av o=>⟨_,(Ac (sif (q2v (Ba qr5 (qb1 _)) (An qr5 (qb1 _)) qw9 (qi3 0 T.d30 T.C8.cl (qk5 T) qa0 (rm o) (vaN 1 Ad)) Bb)
     (Ag qi6)
     Au)
     (Ac (Bf (Aj T.d20 (qo1 T) qa0 (rm o) (vaV (qc2 (Be rfl (vnm 0) T.C8.cl T.Cg)) (vaV (e2v (Ah qk3) qk2 (qm1 0 T.d28 T.C8.cl (qh3 T) qa0 (rm o)) (Di (qa2 (vnm 1) qa7 rfl))) Ad))))
     (Ac (Bf (emutP qH2 PySem.F.plainAttrs_list PySem.F.slot_list_append PySem.F.type_list_append qf6 (Bq rfl (vpn 0) T.C8.cl T.Ct) (vaV (qa5 (Ep (qa2 Eo (qa2 (vnm 1) qa7 rfl) rfl))) Ad)))
     (Ag (Aq (Aj T.d21 (qE1 T) qa0 (rm o) (vaV (qc2 (Be rfl (vnm 0) T.C8.cl T.Cg)) (vaB (Bq rfl (vpn 0) T.C8.cl T.Cd) (vaN 1 Ad))))))))),λ v Q C h=>?_⟩)
 obtain⟨n,wr,b,g,f,S,k,rfl,r,s,t,G,KP,j,I,a0,q⟩:=h;have J:=KP.perm;have hL:((List.range n.toNat).filterMap g).length<=64:=by
   have:=List.length_filterMap_le g (List.range n.toNat)
   rw[zB7] at this;lia
 refine As [rowD false a.C5 a.C3 n wr b g f,.int k] rfl ?_;refine qj0 false (λ Q q=>qY8 ?_) (λ h=>(nomatch h)) λ _=>?_
 . refine qQ6 (p:=rowD false a.C5 a.C3 n wr b g f) (x:=.int k) (d:=.non) rfl (qh4 rfl) rfl rfl ⟨false,n,wr,b,g,f,k,rfl,t,(qT0 λ i hi e=>j ((KP.h.2 k).mpr ⟨i,hi,e⟩)).symm⟩ rfl ?_
   exact qa1 (a:=D.bl false) rfl (qa1 (a:=false) rfl q)
 refine qb0 [rowD false a.C5 a.C3 n wr b g f,.int k] (λ K u=>qj1 (qh5 ?_)) ?_
 . refine qk9 (y:=Aa true a.C3 n wr b) (Av rfl qm7) rfl (qh6 (qF2 ?_))
   refine qH4 (p:=rowD false a.C5 a.C3 n wr b g f) (d:=.lst false (ksD ((List.range n.toNat).filterMap g))) rfl (qh4 rfl) ⟨false,n,wr,b,g,f,rfl,s,rfl⟩ rfl ?_;refine qa1 (a:=D.lst false (ksD ((List.range n.toNat).filterMap g++[k]))) (qaW2 (z:=false) (z':=false) (B:=[k]) (by show _+1<=1000;lia)) (qb4 ?_);refine⟨_,⟨true,n,wr,b,false,_,rfl,r,s,λ x hx=>?_,by rw[zAf];show _+1<=1000;lia,qr7.of r λ q c=>I q (c.perm (J.append_right [k])),rfl⟩,u⟩;rcases zAa.mp hx with h | h
   . exact G x (J.subset h)
   rw[zAe.mp h];exact t
 refine qb0 [rowD false a.C5 a.C3 n wr b g (f++[.tup [.str "put",.int k]]),.int k] (λ K u=>qj1 ?_) ?_
 . refine qas9 (i:=0) (p:=[2]) (ys:=f) (d0:=rowD false a.C5 a.C3 n wr b g f) (by show (D.fidx a.C5 "done" (rowD false a.C5 a.C3 n wr b g f)).map (λ n=>(0,[n]))=_;rw[qV4];rfl) rfl rfl ?_
   exact qc4 (y:=.tup [.str "put",.int k]) rfl (qb4 (qa1 (a:=(f++[D.tup [.str "put",.int k]],D.non)) (if_pos (show f.length < big by unfold big;lia)) u))
 generalize f++[.tup [.str "put",.int k]]=l at q ⊢;refine qh0 (qh5 (qk9 (y:=Aa true a.C3 n wr b) (Av rfl qm7) rfl ?_));refine qa1 (a:=(0,[1])) (by show (D.fidx a.C5 "held" (rowD false a.C5 a.C3 n wr b g l)).map (λ n=>(0,[n]))=_;rw[qI3];rfl) (qa1 (a:=D.lst false (rlD n.toNat g)) rfl ⟨rfl,λ w=>?_⟩);refine qb6 (x:=.int k) rfl (qb4 (qa1 (a:=D.int k) rfl ?_));refine⟨true,n,wr,b,g,S,k,rfl,r,s,t,G,KP,j,?_,λ came m K'=>?_⟩
 . by_cases h:∃ e,Hf n.toNat wr (hmOf n b) g k e
   . exact h
   obtain⟨q,c⟩:=KP.crowd λ e z=>h ⟨e,z⟩
   exact absurd c (I q)
 refine qa1 (a:=[rowD false a.C5 a.C3 n wr b m l,.int k]) ?_ (q came m K');show Am (.pl 0 [1] w::_) _ _=_;rw[qm6 rfl];rfl
theorem qG1:qa8 ["plan", "room"] ["plan", "room"] (qa3 ql5):=by walk_at "s"
def qr1(C:Addr):VSp:=Ax λ ds d=>∃ z n wr ps r,ds=[Aa z C n wr ps,.int r]/\d=(if r < n - 1 then .int (r+1) else if wr=true then .int 0 else .non)
theorem qr6(T:Txt K mg a):VFn P w K mg base 1 a.f23 a.d23 ["plan", "room"] (qr1 a.C3):=by
 refine VFn.mk2 T.d23.F qG1 (wOf [true,true]) qb2 (λ f Q g h=>by obtain⟨d,⟨z,n,wr,c,r,e,_⟩,_⟩:=h;rw[e];exact⟨rfl,rfl⟩) (λ i A outer j H E k l=>⟨_,(Ac (sif (q2 (An Fd (qb1 _)) Fy (vnm 1) (v2 (Ah qC9) qC8 (Be rfl (vnm 0) T.C7.cl T.C9) Af))
     (Ag (Aq (qa5 (v2 (Ah qk3) qk2 (vnm 1) Af))))
     Au)
     (Ag (Aq (eif (tv (Be rfl (vnm 0) T.C7.cl T.Ce)) (qa5 Af) (qa5 Bb))))),λ f Q g h=>?_⟩)
 obtain⟨d,⟨z,n,wr,c,r,rfl,rfl⟩,q⟩:=h;refine As [Aa z a.C3 n wr c,.int r] rfl ?_;refine qm0 (decide (r < n - 1)) (Ae rfl (Ae (Av rfl qc8) rfl rfl) rfl) (λ h=>?_) λ h=>?_
 . rw[if_pos (zA8 h)] at q
   exact ql0 (.int (r+1)) rfl q
 rw[if_neg (zB3 h)] at q;refine qh0 (Fj (b:=wr) (Av rfl qs7) (λ h=>?_) (λ h=>?_))
 . rw[if_pos h] at q
   exact qr8 (d:=.int 0) rfl q
 rw[if_neg (by rw[h];decide)] at q;exact q
theorem qy6:qa8 ["plan", "rooms", "room"] ["plan", "rooms", "room"] (qa3 qi1):=by walk_at "s"
def qy1(C:Addr):VSp:=Ax λ ds d=>∃ z n wr ps z' g x,ds=[Aa z C n wr ps,.lst z' (rlD n.toNat g),x]/\1<=n/\(x=.non/\d=.bl false∨∃ r:Nat,r < n.toNat/\x=.int (r:Nat)/\(g r=none/\d=.bl false∨∃ k,g r=some k/\Al k/\(wr=false->hmOf n ps k<=r)/\d=.bl (decide (0 < Ab n.toNat (hmOf n ps k) r))))
theorem qA2(T:Txt K mg a):VFn P w K mg base 6 a.f24 a.d24 ["plan", "rooms", "room"] (qy1 a.C3):=by
 refine VFn.mk2 T.d24.F qy6 (wOf [true,true,true]) qb2 (λ j Q l h=>by obtain⟨d,⟨z,n,wr,b,f,g,x,e,_⟩,_⟩:=h;rw[e];exact⟨rfl,rfl⟩) (λ m A outer o H E s c=>⟨_,(Ag (Aq (F8 (qa5 (v2 (Ba qr5 (qb1 _)) qw9 (vnm 2) Bb)) (F8 (qa5 (v2 (Ba qr5 (qb1 _)) qw9 (v2 (A7 qc1) At (vnm 1) (vnm 2)) Bb)) (Ii (e2v (Ba Bk (qb1 _)) Bo (qi3 0 T.d11 T.C7.cl (qi9 T) qa0 (rm c) (vaV (qc2 (v2 (A7 qc1) At (vnm 1) (vnm 2))) (vaN 2 Ad))) Af)))))),λ j Q l h=>?_⟩);obtain⟨d,⟨z,n,wr,b,f,g,x,rfl,i,h⟩,q⟩:=h;refine As [Aa z a.C3 n wr b,.lst f (rlD n.toNat g),x] rfl ?_;rcases h with⟨rfl,rfl⟩ | ⟨r,c,rfl,h⟩
 . exact qh0 (E7 false rfl (λ h=>(nomatch h)) λ _=>q)
 rcases h with⟨hg,rfl⟩ | ⟨k,hg,hk,hl,rfl⟩
 . exact qh0 (E7 true rfl (λ _=>E7 false (Ae (Ae rfl rfl (E6 c)) rfl (by rw[hg];rfl)) (λ h=>(nomatch h)) λ _=>q) λ h=>(nomatch h))
 refine qh0 (E7 true rfl (λ _=>E7 true (Ae (Ae rfl rfl (E6 c)) rfl (by rw[hg];rfl)) (λ _=>qF2 ?_) λ h=>(nomatch h)) λ h=>(nomatch h));refine qx1 (p:=Aa z a.C3 n wr b) rfl (qf3 rfl) (qk9 (y:=.int k) (Ae rfl rfl (by rw[E6 c,hg];rfl)) rfl (qb6 (x:=.int (r:Nat)) rfl (qb4 (qa1 (a:=D.int (r:Nat)) rfl (qa1 (a:=Aa z a.C3 n wr b) rfl ⟨_,⟨z,n,wr,b,k,(r:Nat),rfl,i,hk,by lia,by lia,rfl⟩,?_⟩)))));rw[qL7 i c hl];refine qa1 (a:=[Aa z a.C3 n wr b,.lst f (rlD n.toNat g),.int (r:Nat)]) rfl ?_;refine qa1 (a:=D.bl (decide (0 < ((Ab n.toNat (hmOf n b k) r:Nat):Int)))) rfl ?_;rw[zBv.mpr (show (0 < ((Ab n.toNat (hmOf n b k) r:Nat):Int))↔0 < Ab n.toNat (hmOf n b k) r by lia)];exact q
theorem qg7:qa8 ["plan", "rooms", "room", "came", "behind"] ["plan", "rooms", "room"] (qa3 qu9):=by walk_at "s"
noncomputable def qw2(N:Nat)(wr:Bool)(p:Nat):D:=if p+1 < N then .int (p+1:Nat) else if wr=true then .int 0 else .non
theorem qaq8{n:Int}{wr:Bool}{p:Nat}(a:1<=n)(b:p < n.toNat):(if ((p:Nat):Int) < n - 1 then D.int (((p:Nat):Int)+1) else if wr=true then D.int 0 else D.non)=qw2 n.toNat wr p:=by
 unfold qw2;by_cases h:p+1 < n.toNat
 . rw[if_pos (by lia),if_pos h];rfl
 rw[if_neg (by lia),if_neg h]
theorem qaa6{wr:Bool}{p:Nat}(a:p < N):qw2 N wr p=.int (Row.next N p:Nat)∨(qw2 N wr p=.non/\wr=false/\p+1=N):=by
 unfold qw2;have h:=nor N p;by_cases e:p+1 < N
 . rw[if_pos e];exact .inl (by rw[show Row.next N p=p+1 by lia])
 rw[if_neg e];cases wr with
 | true=>exact .inl (by rw[if_pos rfl,show Row.next N p=0 by lia];rfl)
 | false=>exact .inr ⟨rfl,rfl,by lia⟩
def qO3(C:Addr):VSp:=λ ds Q _=>∃ z n wr ps g S k r,ds=[Aa z C n wr ps,.lst false (rlD n.toNat g),.int (r:Nat)]/\1<=n/\n<=64/\(∀ x∈S,Al x)/\Kept n.toNat wr (hmOf n ps) g S/\r < n.toNat/\g r=some k /\
 ∀ came g',Kept n.toNat wr (hmOf n ps) g' (S.filter λ x=>decide (x≠k))->Q (.lst false came) [Aa z C n wr ps,.lst false (rlD n.toNat g'),.int (r:Nat)]
theorem qQ2(T:Txt K mg a):VFn P w K mg base 7 a.f25 a.d25 ["plan", "rooms", "room"] (qO3 a.C3):=by
 refine VFn.mk2 T.d25.F qg7 (wOf [true,true,false]) (λ v Q Q' O a2 hQ _ h=>by obtain⟨z,n,wr,f,g,S,k,r,e,L,M,h3,h4,h5,h6,q⟩:=h;exact⟨z,n,wr,f,g,S,k,r,e,L,M,h3,h4,h5,h6,λ c g' K=>hQ _ _ (q c g' K)⟩) (λ v Q O h=>by obtain⟨z,n,wr,f,g,S,k,r,e,_⟩:=h;rw[e];exact⟨rfl,rfl⟩) (λ a3 A outer u H E av b=>⟨_,(Ac (Ak 3 qg7.nd (qa5 (Di qa7)))
     (Ac (Fc (qa5 Bb) (Dv (vpn 1) (vnm 2)))
     (Ac (Ak 4 qg7.nd (Aj T.d23 (qr6 T) qa0 (rm b) (vaN 0 (vaN 2 Ad))))
     (Ac (qab7 PassesOwn.leaving (te (Aj T.d24 (qA2 T) qa0 (rm b) (vaN 0 (vaN 1 (vaN 4 Ad)))))
     (Ac (Bf (Du 3 qH2 PySem.F.plainAttrs_list PySem.F.slot_list_append PySem.F.type_list_append qf6 (vaV (qa5 (Ep (qa2 (v2 (A7 qc1) At (vnm 1) (vnm 4)) (qa2 (vnm 2) qa7 rfl) rfl))) Ad)))
     (Ac (Fc (qc2 (v2 (A7 qc1) At (vnm 1) (vnm 4))) (Dv (vpn 1) (vnm 2)))
     (Ac (Fc (qa5 Bb) (Dv (vpn 1) (vnm 4)))
     (Ac (Ak 2 qg7.nd (qc2 (vnm 4)))
     (Ag (Ak 4 qg7.nd (Aj T.d23 (qr6 T) qa0 (rm b) (vaN 0 (vaN 2 Ad))))))))))
     (Ag (Aq (emv 3))))))),λ v Q O h=>?_⟩)
 obtain⟨z,n,wr,f,g,S,k,r,rfl,R,n2,hS,KP,b,hk,q⟩:=h;refine As [Aa z a.C3 n wr f,.lst false (rlD n.toNat g),.int (r:Nat),.unk,.unk] rfl ?_;refine qb0 [Aa z a.C3 n wr f,.lst false (rlD n.toNat g),.int (r:Nat),.lst false [],.unk] (λ K s=>s) ?_;have e0:rlD n.toNat (λ j=>if j=r then none else g j)=rlD n.toNat (Ap n.toNat g r 0):=qk0 λ i hi=>(qy3 b hi).symm
 refine qb0 [Aa z a.C3 n wr f,.lst false (rlD n.toNat (Ap n.toNat g r 0)),.int (rot n.toNat r 0:Nat),.lst false [],.unk] (λ K s=>?_) ?_
 . refine qS7 (d:=.non) (ys:=rlD n.toNat g) rfl rfl rfl (Hm b) ?_
   rw[show (rlD n.toNat g).set r .non=rlD n.toNat (λ j=>if j=r then none else g j) from qac8 (o:=none),e0];rw[qad5 b] at s;exact s
 have bh:∀(J:Nat)(K:Ds->Prop)(O:XKd)(N U:D),J < n.toNat->K [Aa z a.C3 n wr f,.lst false (rlD n.toNat (Ap n.toNat g r J)),.int (rot n.toNat r J:Nat),N,qw2 n.toNat wr (rot n.toNat r J)]->qn1 (qr1 a.C3) [] (tbN 0 (tbN 2 A6)) [Aa z a.C3 n wr f,.lst false (rlD n.toNat (Ap n.toNat g r J)),.int (rot n.toNat r J:Nat),N,U] (λ d a0=>K (a0.set 4 d)) O:=λ J K O N U hJ s =>
   qH5 (x:=Aa z a.C3 n wr f) (y:=.int (rot n.toNat r J:Nat)) rfl rfl rfl ⟨z,n,wr,f,_,rfl,(qaq8 R (qP5 b hJ)).symm⟩ rfl s
 refine qb0 [Aa z a.C3 n wr f,.lst false (rlD n.toNat (Ap n.toNat g r 0)),.int (rot n.toNat r 0:Nat),.lst false [],qw2 n.toNat wr (rot n.toNat r 0)] (λ K s=>qg2 (bh 0 _ _ _ _ (by lia) s)) ?_;refine qd1 (λ v=>∃ J came U,v=[Aa z a.C3 n wr f,.lst false (rlD n.toNat (Ap n.toNat g r J)),.int (rot n.toNat r J:Nat),.lst false came,U]/\Sh n.toNat (hmOf n f) g r J/\Stop n.toNat wr (hmOf n f) g r J) (λ K s=>?_) ?_
 . refine qN0 (λ m v=>∃ J came,v=[Aa z a.C3 n wr f,.lst false (rlD n.toNat (Ap n.toNat g r J)),.int (rot n.toNat r J:Nat),.lst false came,qw2 n.toNat wr (rot n.toNat r J)]/\Sh n.toNat (hmOf n f) g r J/\came.length=J/\m+J=n.toNat) n.toNat ⟨0,[],rfl,Sh.start b,rfl,by lia⟩ ?_
   rintro m v ⟨J,came,rfl,u,hc,hm⟩ K2 a1;have hJ:=u.hJ;have hp:=qP5 b hJ;rcases qaa6 (wr:=wr) hp with hb | ⟨hb,hw,hl⟩
   . have p:=Row.ql1 hp
     have V:∀ x,Ap n.toNat g r J (Row.next n.toNat (rot n.toNat r J))=some x->0 < Ab n.toNat (hmOf n f x) (Row.next n.toNat (rot n.toNat r J))->J+1 < n.toNat/\g (rot n.toNat r (J+1))=some x:=λ x p B=>by
       by_cases l:J+1 < n.toNat
       . rw[qA4 b l,qy4 b l] at p
         exact⟨l,p⟩
       rw[qv8 b (by lia)] at p B;by_cases W:0 < J
       . rw[qD7 b W] at p
         have:=u.round KP.o KP.c b hk (by lia) p W
         lia
       have hz:J=0:=by lia
       subst hz;rw[qy3 b b,if_pos rfl] at p;cases p
     have G:∀ x,Ap n.toNat g r J (Row.next n.toNat (rot n.toNat r J))=some x->Al x/\(wr=false->hmOf n f x<=Row.next n.toNat (rot n.toNat r J)):=λ x p=>by
       by_cases l:J+1 < n.toNat
       . have e:=qA4 b l
         rw[e,qy4 b l] at p;exact⟨hS x ((KP.h.2 x).mpr ⟨_,qP5 b l,p⟩),λ hw=>by rw[e];exact KP.ln hw _ x (qP5 b l) p⟩
       have e:=qv8 b (show J+1=n.toNat by lia);rw[e] at p ⊢;by_cases W:0 < J
       . rw[qD7 b W] at p
         have B:=u.round KP.o KP.c b hk (by lia) p W;exact⟨hS x ((KP.h.2 x).mpr ⟨_,Row.ql1 b,p⟩),λ _=>by rw[(qb5 (Dn R x) b).mp B];exact zA3 _⟩
       have hz:J=0:=by lia
       subst hz;rw[qy3 b b,if_pos rfl] at p;cases p
     generalize I:Row.next n.toNat (rot n.toNat r J)=t at p V G hb;rw[hb];cases C:Ap n.toNat g r J t with
     | none =>
       refine qZ9 (x:=Aa z a.C3 n wr f) (y:=.lst false (rlD n.toNat (Ap n.toNat g r J))) (w:=.int (t:Nat)) (d:=.bl false) rfl rfl rfl rfl rfl ⟨z,n,wr,f,false,_,_,rfl,R,.inr ⟨t,p,rfl,.inl ⟨C,rfl⟩⟩⟩ rfl ?_;exact s _ ⟨J,came,_,rfl,u,.inr λ x h=>by rw[I,C] at h;cases h⟩
     | some x =>
       refine qZ9 (x:=Aa z a.C3 n wr f) (y:=.lst false (rlD n.toNat (Ap n.toNat g r J))) (w:=.int (t:Nat)) rfl rfl rfl rfl rfl ⟨z,n,wr,f,false,_,_,rfl,R,.inr ⟨t,p,rfl,.inr ⟨x,C,(G x C).1,(G x C).2,rfl⟩⟩⟩ rfl ?_;refine qa1 (a:=decide (0 < Ab n.toNat (hmOf n f x) t)) rfl (ite_b (λ h=>?_) λ h=>?_)
       . have B:=zA8 h
         obtain⟨l,X⟩:=V x C B;have Y:t=rot n.toNat r (J+1):=by rw[<- I,qA4 b l]
         have Z:∀ N,f2 gIx (rdN 1) (rdN 4) [Aa z a.C3 n wr f,.lst false (rlD n.toNat (Ap n.toNat g r J)),.int (rot n.toNat r J:Nat),N,.int (t:Nat)]=some (.int x):=λ N=>Ae rfl rfl (by rw[E6 p,C];rfl)
         refine qb0 [Aa z a.C3 n wr f,.lst false (rlD n.toNat (Ap n.toNat g r J)),.int (rot n.toNat r J:Nat),.lst false (came++[D.tup [.int x,.int (rot n.toNat r J:Nat)]]),.int (t:Nat)] (λ K s=>qj1 ?_) ?_
         . exact qak2 (ys:=came) (d:=.tup [.int x,.int (rot n.toNat r J:Nat)]) rfl (qaD9 (Z _) rfl rfl rfl) (by unfold big;lia) s
         refine qb0 [Aa z a.C3 n wr f,.lst false (rlD n.toNat (Row.set (Ap n.toNat g r J) (rot n.toNat r J) x)),.int (rot n.toNat r J:Nat),.lst false (came++[D.tup [.int x,.int (rot n.toNat r J:Nat)]]),.int (t:Nat)] (λ K s=>?_) ?_
         . refine qI8 (d:=.int x) (ys:=rlD n.toNat (Ap n.toNat g r J)) (Z _) rfl rfl rfl (Hm hp) ?_
           rw[qF9];exact s
         refine qb0 [Aa z a.C3 n wr f,.lst false (rlD n.toNat (Ap n.toNat g r (J+1))),.int (rot n.toNat r J:Nat),.lst false (came++[D.tup [.int x,.int (rot n.toNat r J:Nat)]]),.int (t:Nat)] (λ K s=>?_) ?_
         . refine qS7 (d:=.non) (ys:=rlD n.toNat (Row.set (Ap n.toNat g r J) (rot n.toNat r J) x)) rfl rfl rfl (Hm p) ?_
           rw[show (rlD n.toNat (Row.set (Ap n.toNat g r J) (rot n.toNat r J) x)).set t .non=rlD n.toNat (λ j=>if j=t then none else Row.set (Ap n.toNat g r J) (rot n.toNat r J) x j) from qac8 (o:=none)];have e:rlD n.toNat (λ j=>if j=t then none else Row.set (Ap n.toNat g r J) (rot n.toNat r J) x j)=rlD n.toNat (Ap n.toNat g r (J+1)):=qk0 λ i hi=>by
             rw[qac5 b l hi,Y];by_cases L:i=rot n.toNat r (J+1)
             . rw[if_pos L,if_pos L]
             rw[if_neg L,if_neg L];by_cases M:i=rot n.toNat r J
             . rw[if_pos M,M,Row.qb7,X]
             rw[if_neg M,Row.qd2 M]
           rw[e];exact s
         refine qb0 [Aa z a.C3 n wr f,.lst false (rlD n.toNat (Ap n.toNat g r (J+1))),.int (t:Nat),.lst false (came++[D.tup [.int x,.int (rot n.toNat r J:Nat)]]),.int (t:Nat)] (λ K s=>qS9 (d:=.int (t:Nat)) rfl rfl s) ?_;rw[Y] at B ⊢;refine qg2 (bh (J+1) _ _ _ _ l (a1 (m - 1) _ (by lia) ⟨J+1,_,rfl,u.step l X B,by rw[zAf,hc];rfl,by lia⟩))
       have B:=zB3 h;exact s _ ⟨J,came,_,rfl,u,.inr λ y h=>by rw[I] at h ⊢;rw[C] at h;cases h;lia⟩
   rw[hb];refine qZ9 (x:=Aa z a.C3 n wr f) (y:=.lst false (rlD n.toNat (Ap n.toNat g r J))) (w:=.non) (d:=.bl false) rfl rfl rfl rfl rfl ⟨z,n,wr,f,false,_,_,rfl,R,.inl ⟨rfl,rfl⟩⟩ rfl ?_;exact s _ ⟨J,came,_,rfl,u,.inl ⟨hw,hl⟩⟩
 rintro v ⟨J,came,U,rfl,u,st⟩;exact qh0 (mv_to rfl (q came _ (KP.taken b hk u st)))
theorem qD8:qa8 ["self", "key", "room"] ["self", "key"] (qa3 qz3):=by walk_at "s"
def qY0(C CP:Addr):VSp:=λ ds Q _=>∃ n wr ps g dn S k,ds=[rowD false C CP n wr ps g dn,.int k]/\1<=n/\n<=64/\(∀ x∈S,Al x)/\Kept n.toNat wr (hmOf n ps) g S/\k∈S/\dn.length<=1000 /\
 ∀(r:Nat) came g',Kept n.toNat wr (hmOf n ps) g' (S.filter λ x=>decide (x≠k))->Q (.tup [.int (r:Nat),.lst false came]) [rowD false C CP n wr ps g' (dn++[.tup [.str "take",.int k]]),.int k]
theorem qaE8{g:Nat->Option Int}(h:Dx N g k=.int (j:Nat)):j < N/\g j=some k:=by
 unfold Dx at h;cases e:Ej N g k with
 | none=>rw[e] at h;cases h
 | some i =>
   rw[e] at h;have h:D.int (i:Nat)=D.int (j:Nat):=h;injection h with h
   have h:i=j:=by lia
   subst h;obtain⟨a,b,_⟩:=List.findIdx?_eq_some_iff_getElem.mp e;rw[zB7] at a;rw[List.getElem_range] at b;exact⟨a,zA8 b⟩
theorem qZ3(T:Txt K mg a):VFn P w K mg base 8 a.f32 a.d32 ["self", "key"] (qY0 a.C5 a.C3):=by
 refine VFn.mk2 T.d32.F qD8 (wOf [true,true]) (λ v Q Q' z J L _ h=>by obtain⟨n,wr,f,g,l,S,k,e,M,N,O,R,U,V,q⟩:=h;exact⟨n,wr,f,g,l,S,k,e,M,N,O,R,U,V,λ r c o K=>L _ _ (q r c o K)⟩) (λ v Q z h=>by obtain⟨n,wr,f,g,l,S,k,e,_⟩:=h;rw[e];exact⟨rfl,rfl⟩) (λ W A outer sh H E av B=>⟨_,(Ac (Ak 2 qD8.nd (qi3 0 T.d30 T.C8.cl (qk5 T) qa0 (rm B) (vaN 1 Ad)))
     (Ac (sif (q2 (An Ef (qb1 _)) Ee (vnm 2) Bb)
     (Ag qi6)
     Au)
     (Ac (Bf (emutP qH2 PySem.F.plainAttrs_list PySem.F.slot_list_append PySem.F.type_list_append qf6 (Bq rfl (vpn 0) T.C8.cl T.Ct) (vaV (qa5 (Ep (qa2 Eo (qa2 (vnm 1) qa7 rfl) rfl))) Ad)))
     (Ag (Aq (etup (vaV (qc2 (vnm 2)) (vaV (Aj T.d25 (qQ2 T) qa0 (rm B) (vaV (qc2 (Be rfl (vnm 0) T.C8.cl T.Cg)) (vaB (Bq rfl (vpn 0) T.C8.cl T.Cd) (vaN 2 Ad)))) Ad)))))))),λ v Q z h=>?_⟩)
 obtain⟨n,wr,f,g,l,S,k,rfl,X,Y,C,KP,G,Z,q⟩:=h;obtain⟨i,hi,e⟩:=(KP.h.2 k).mp G;obtain⟨j,I⟩:=qam3 hi e;obtain⟨s,t⟩:=qaE8 I;refine As [rowD false a.C5 a.C3 n wr f g l,.int k,.unk] rfl ?_;refine qb0 [rowD false a.C5 a.C3 n wr f g l,.int k,.int (j:Nat)] (λ K u=>?_) ?_
 . exact qg2 (qQ6 (p:=rowD false a.C5 a.C3 n wr f g l) (x:=.int k) (d:=.int (j:Nat)) rfl (qh4 rfl) rfl rfl ⟨false,n,wr,f,g,l,k,rfl,C k G,I.symm⟩ rfl u)
 refine qj0 false (λ Q q=>ql3 (b:=false) rfl q) (λ h=>(nomatch h)) λ _=>?_
 refine qb0 [rowD false a.C5 a.C3 n wr f g (l++[.tup [.str "take",.int k]]),.int k,.int (j:Nat)] (λ K u=>qj1 ?_) ?_
 . refine qas9 (i:=0) (p:=[2]) (ys:=l) (d0:=rowD false a.C5 a.C3 n wr f g l) (by show (D.fidx a.C5 "done" (rowD false a.C5 a.C3 n wr f g l)).map (λ n=>(0,[n]))=_;rw[qV4];rfl) rfl rfl ?_
   exact qc4 (y:=.tup [.str "take",.int k]) rfl (qb4 (qa1 (a:=(l++[D.tup [.str "take",.int k]],D.non)) (if_pos (show l.length < big by unfold big;lia)) u))
 generalize l++[.tup [.str "take",.int k]]=m at q ⊢;refine qh0 (qaD8 (qk9 (y:=.int (j:Nat)) rfl rfl (qh6 (qh5 (qk9 (y:=Aa true a.C3 n wr f) (Av rfl qm7) rfl ?_)))));refine qa1 (a:=(0,[1])) (by show (D.fidx a.C5 "held" (rowD false a.C5 a.C3 n wr f g m)).map (λ n=>(0,[n]))=_;rw[qI3];rfl) (qa1 (a:=D.lst false (rlD n.toNat g)) rfl ⟨rfl,λ w=>?_⟩);refine qb6 (x:=.int (j:Nat)) rfl (qb4 (qa1 (a:=D.int (j:Nat)) rfl ?_));refine⟨true,n,wr,f,g,S,k,j,rfl,X,Y,C,KP,s,t,λ came o K'=>?_⟩;refine qa1 (a:=[rowD false a.C5 a.C3 n wr f o m,.int k,.int (j:Nat)]) ?_ (qb4 ⟨by show 2<=1000000;decide,q j came o K'⟩);show Am (.pl 0 [1] w::_) _ _=_;rw[qm6 rfl];rfl
theorem qC6:qa8 ["self", "homes"] ["self", "homes"] (qa3 qj9):=by walk_at "s"
def qC3(CG C CP:Addr):VSp:=λ ds Q _=>∃ z ps,ds=[.ins false CG [],.lst z (prD ps)]/\qx5 ps/\Q .non [growD false CG C CP 4 ps (λ _=>none) [] 0,.lst z (prD ps)]
theorem qD1(T:Txt K mg a):VFn P w K mg base 12 a.f35 a.d35 ["self", "homes"] (qC3 a.C4 a.C5 a.C3):=by
 refine VFn.mk2 T.d35.F qC6 (wOf [true,true]) (λ g Q Q' c i j _ ⟨z,b,e,k,q⟩=>⟨z,b,e,k,j _ _ q⟩) (λ g Q c ⟨z,b,e,_⟩=>by rw[e];exact⟨rfl,rfl⟩) (λ l A outer n H E o f=>⟨_,(Ac (sif (Bp (te (Aj T.d6 (qo2 T) qa0 (rm f) (vaN 1 Ad))))
     (Ag qi6)
     Au)
     (Ac (E3 rfl (vpn 0) (qaU9 (ndv:=[]) T.C8 T.D2 T.d26.bn (qv3 T) qa0 (rm f) (vaV (Hk (G6 T.C7 T.Cw T.d7 (qq0 T) qa0 (rm f) (vaV (qa5 (vgi T.Cs)) (vaV (qa5 vbl) (vaN 1 Ad))))) Ad)) T.C6.cl T.Ca)
     (Ag (E3 rfl (vpn 0) (qa5 Af) T.C6.cl T.Cc)))),λ g Q c h=>?_⟩)
 obtain⟨z,b,rfl,G,q⟩:=h;refine As [.ins false a.C4 [],.lst z (prD b)] rfl ?_;refine Eh (λ Q c q=>Ja (x:=.lst z (prD b)) rfl ⟨D.bl true,⟨_,rfl,(qs4 G).2,by rw[(qs4 G).1]⟩,qa1 (a:=[.ins false a.C4 [],.lst z (prD b)]) rfl q⟩) ?_;refine qb0 [.ins false a.C4 [("row",rowD false a.C5 a.C3 4 true b (λ _=>none) [])],.lst z (prD b)] (λ K m=>qR3 (qh6 (Fl (qE2 (qc4 (y:=.int 4) rfl (qc4 (y:=.bl true) rfl (qb6 (x:=.lst z (prD b)) rfl (qb4 (qa1 (a:=D.lst z (prD b)) rfl ⟨4,true,z,b,rfl,by decide,by decide,G,rfl,?_⟩))))))))) ?_
 . refine qa1 (a:=Aa false a.C3 4 true b) rfl (qa1 (a:=[.ins false a.C4 [],.lst z (prD b)]) rfl (qb4 ?_))
   rw[qU9];refine⟨4,true,b,.non,λ _=>none,[],rfl,by decide,by decide,nofun,Kept.none (by decide) (Dn (by decide)),.inl ⟨rfl,rfl⟩,rfl,?_⟩;refine qa1 (a:=rowD false a.C5 a.C3 4 true b (λ _=>none) []) rfl ?_;refine qa1 (a:=[D.ins false a.C4 [],D.lst z (prD b)]) rfl ?_;exact qa1 (a:=(0,[])) rfl (qa1 qe4 ⟨by decide,m⟩)
 exact qR3 (qr8 (d:=.int 0) rfl (qa1 (a:=(0,[])) rfl (qa1 qe4 ⟨by show 1 < 100;decide,q⟩)))
theorem qY6:qa8 ["self"] ["self"] (qa3 qz4):=by walk_at "s"
def qD6(C CP:Addr):VSp:=Ax λ ds d=>∃ zr n wr ps g dn S,ds=[rowD zr C CP n wr ps g dn]/\n<=64/\Kept n.toNat wr (hmOf n ps) g S/\d=.int (S.length:Nat)
theorem qm9(T:Txt K mg a):VFn P w K mg base 2 a.f29 a.d29 ["self"] (qD6 a.C5 a.C3):=by
 refine VFn.mk2 T.d29.F qY6 (wOf [true]) qb2 (λ i Q j h=>by obtain⟨d,⟨b,n,wr,c,g,f,S,e,_⟩,_⟩:=h;rw[e];exact⟨rfl,rfl⟩) (λ k A outer o H E r l=>⟨_,(Ag (Aq (ebi qt1 qt0.ops T.Co (E5 (vaV (qm1 0 T.d28 T.C8.cl (qh3 T) qa0 (rm l)) Ad))))),λ i Q j h=>?_⟩);obtain⟨d,⟨b,n,wr,c,g,f,S,rfl,m,KP,rfl⟩,q⟩:=h;refine As [rowD b a.C5 a.C3 n wr c g f] rfl ?_;refine qh0 (co_to (qh6 (qH4 (p:=rowD b a.C5 a.C3 n wr c g f) (d:=.lst false (ksD ((List.range n.toNat).filterMap g))) rfl (qh4 rfl) ⟨b,n,wr,c,g,f,rfl,m,rfl⟩ rfl (qb4 (qa1 (a:=D.int (S.length:Nat)) ?_ q)))));show some (D.int ((ksD ((List.range n.toNat).filterMap g)).length:Nat))=_;rw[qh7,KP.perm.length_eq]
theorem qn4:qa8 ["self", "rooms"] ["self", "rooms"] (qa3 qd9):=by walk_at "s"
theorem qT1{m:Int}(h:S.length<=m.toNat)(q:Nat):¬ Crowd m.toNat true hm S q:=λ ⟨_,c⟩=>by
 rw[if_pos rfl] at c;lia
theorem qT7{CG C CP:Addr}{n:Int}{ps:Pr}{g:Nat->Option Int}{dn:Ds}{h:Int}{r:Ds}{sl:Int}(c:n<=64)(KP:Kept n.toNat true (hmOf n ps) g S)(b:sl=(S.length:Nat))(q:Q (.int sl) (growD false CG C CP n ps g dn h::r)):qN7 C "many" (qD6 C CP) [] (pfFld CG "row" λ _=>some (0,[])) A6 (growD false CG C CP n ps g dn h::r) Q xe:=by
 refine ql9 (i:=0) (p:=[0]) (d:=rowD false C CP n true ps g dn) (qA0 (r:=[])) rfl (qh4 rfl) λ w=>qb4 ⟨.int sl,⟨false,n,true,ps,g,dn,S,rfl,c,KP,by rw[b]⟩,qa1 (a:=growD false CG C CP n ps g dn h::r) ?_ q⟩
 show Am (.pl 0 [0] w::[]) (rowD false C CP n true ps g dn::[]) _=_;rw[qm6 rfl];rfl
def qn3(CG C CP:Addr):VSp:=λ ds Q _=>∃ n ps g dn h S m,ds=[growD false CG C CP n ps g dn h,.int m]/\n<=64/\1<=m/\m<=64/\qx5 ps/\(∀ k∈S,Al k)/\Kept n.toNat true (hmOf n ps) g S/\S.length<=m.toNat/\∀ g' h',Kept m.toNat true (hmOf m ps) g' S->Q (.int (S.length:Nat)) [growD false CG C CP m ps g' [] h',.int m]
theorem qg3(T:Txt K mg a):VFn P w K mg base 14 a.f36 a.d36 ["self", "rooms"] (qn3 a.C4 a.C5 a.C3):=by
 refine VFn.mk2 T.d36.F qn4 (wOf [true,true]) (λ f Q Q' l o p _ h=>by obtain⟨n,b,g,d,h,S,m,e,s,t,u,v,y,B,C,q⟩:=h;exact⟨n,b,g,d,h,S,m,e,s,t,u,v,y,B,C,λ c I z=>p _ _ (q c I z)⟩) (λ f Q l h=>by obtain⟨n,b,g,d,h,S,m,e,_⟩:=h;rw[e];exact⟨rfl,rfl⟩) (λ J A outer R H E U i=>⟨_,(Ac (E3 rfl (vpn 0) (Aj T.d34 (qk4 T) qa0 (rm i) (vaB (Bq rfl (vpn 0) T.C6.cl T.Ca) (vaN 1 Ad))) T.C6.cl T.Ca)
     (Ac (E3 rfl (vpn 0) (e2 (Ah qk3) qk2 (qc2 (Be rfl (vnm 0) T.C6.cl T.Cc)) (qM0 T.d29 T.C8.cl (qm9 T) qa0 (rm i) (Bq rfl (vpn 0) T.C6.cl T.Ca))) T.C6.cl T.Cc)
     (Ag (Aq (qM0 T.d29 T.C8.cl (qm9 T) qa0 (rm i) (Bq rfl (vpn 0) T.C6.cl T.Ca)))))),λ f Q l h=>?_⟩)
 obtain⟨n,b,g,d,h,S,m,rfl,L,M,j,G,N,KP,O,q⟩:=h;refine As [growD false a.C4 a.C5 a.C3 n b g d h,.int m] rfl ?_;refine qd1 (λ f=>∃ c,f=[growD false a.C4 a.C5 a.C3 m b c [] h,.int m]/\Kept m.toNat true (hmOf m b) c S) (λ K k=>qR3 (qh5 ?_)) ?_
 . refine qa1 (a:=(0,[0])) (qA0 (r:=[])) (qa1 (a:=rowD false a.C5 a.C3 n true b g d) rfl ⟨rfl,λ w=>?_⟩)
   refine qb6 (x:=.int m) rfl (qb4 (qa1 (a:=D.int m) rfl ?_));refine⟨false,n,true,b,g,d,S,m,rfl,L,M,j,G,N,KP,qT1 O,λ c K'=>qa1 (a:=[growD false a.C4 a.C5 a.C3 n b g d h,.int m]) ?_ ?_⟩
   . show Am (.pl 0 [0] w::[.sl 1]) (rowD false a.C5 a.C3 n true b g d::[.int m]) _=_
     rw[qm6 rfl];rfl
   exact qa1 (a:=(0,[])) rfl (qa1 qe4 ⟨by show 2 < 100;decide,k _ ⟨c,rfl,K'⟩⟩)
 rintro f ⟨c,rfl,K'⟩;refine qb0 [growD false a.C4 a.C5 a.C3 m b c [] (h+(S.length:Nat)),.int m] (λ K k=>qR3 (t2_of (x:=.int h) (Av rfl qao5) rfl (qT7 j K' rfl ?_))) ?_
 . exact qa1 (a:=D.int (h+(S.length:Nat))) rfl (qa1 (a:=(0,[])) rfl (qa1 qe4 ⟨by show 2 < 100;decide,k⟩))
 exact qh0 (qT7 j K' rfl (q c _ K'))
theorem qg5:qa8 ["self", "key", "rooms", "moved"] ["self", "key"] (qa3 ql8):=by walk_at "s"
def Bu(n:Int):Prop:=n=4∨n=8∨n=16∨n=32∨n=64
def qr2(CG C CP:Addr):VSp:=λ ds Q _=>∃ n ps g dn h S k,ds=[growD false CG C CP n ps g dn h,.int k]/\Bu n/\qx5 ps/\Al k/\(∀ k∈S,Al k)/\Kept n.toNat true (hmOf n ps) g S/\¬ k∈S/\S.length+1<=64/\dn.length<=900 /\
 ∀ b g' a h' v,Bu b->Kept b.toNat true (hmOf b ps) g' (S++[k])->a.length<=dn.length+1->Q (.int v) [growD false CG C CP b ps g' a h',.int k]
theorem qk6(T:Txt K mg a):VFn P w K mg base 15 a.f37 a.d37 ["self", "key"] (qr2 a.C4 a.C5 a.C3):=by
 refine VFn.mk2 T.d37.F qg5 (wOf [true,true]) (λ u Q Q' U a0 hQ _ h=>by obtain⟨n,f,g,m,h,S,k,e,h1,h2,h3,h4,h5,h6,h7,h8,q⟩:=h;exact⟨n,f,g,m,h,S,k,e,h1,h2,h3,h4,h5,h6,h7,h8,λ l o j s v a b c=>hQ _ _ (q l o j s v a b c)⟩) (λ u Q U h=>by obtain⟨n,f,g,m,h,S,k,e,_⟩:=h;rw[e];exact⟨rfl,rfl⟩) (λ a1 A outer sh H E av I=>⟨_,(Ac (sif (q2v (Ba qr5 (qb1 _)) (An qr5 (qb1 _)) qw9 (Ij T.d30 T.C8.cl (qk5 T) qa0 (rm I) (Bq rfl (vpn 0) T.C6.cl T.Ca) (vaN 1 Ad)) Bb)
     (Ag qi6)
     Au)
     (Ac (Ak 2 qg5.nd (qm1 0 T.d39 T.C6.cl (qb3 T) qa0 (rm I)))
     (Ac (Ak 3 qg5.nd (qa5 Af))
     (Ac (sif (Ig (q2v (Ba Bk (qb1 _)) (An Bk (qb1 _)) Bo (e2v (Ah qp7) qp5 (e2v (Ah qk3) qk2 (qM0 T.d29 T.C8.cl (qm9 T) qa0 (rm I) (Bq rfl (vpn 0) T.C6.cl T.Ca)) Af) Af) (v2 (Ah qp7) qp5 (vnm 2) Af)) (F7 (q2 (An Fd (qb1 _)) Fy (vnm 2) (vgi T.Cq)))).te
     (Ag (Ak 3 qg5.nd (qi3 0 T.d36 T.C6.cl (qg3 T) qa0 (rm I) (vaV (qa5 (v2 (Ah qp7) qp5 (vnm 2) Af)) Ad))))
     Au)
     (Ac (Bf (Ij T.d31 T.C8.cl (qae9 T) qa0 (rm I) (Bq rfl (vpn 0) T.C6.cl T.Ca) (vaN 1 Ad)))
     (Ag (Aq (emv 3)))))))),λ u Q U h=>?_⟩)
 obtain⟨n,f,g,m,h,S,k,rfl,M,G,V,W,KP,J,hl,a2,q⟩:=h;have X:4<=n/\n<=64:=by unfold Bu at M;lia
 have Y:=KP.len;obtain⟨z,N⟩:∃ z:Int,z=(S.length:Nat):=⟨_,rfl⟩
 refine As [growD false a.C4 a.C5 a.C3 n f g m h,.int k,.unk,.unk] rfl ?_;refine qj0 false (λ Q q=>qY8 (ql9 (i:=0) (p:=[0]) (d:=rowD false a.C5 a.C3 n true f g m) (qA0 (r:=[])) rfl (qh4 rfl) λ w=>qb6 (x:=.int k) rfl (qb4 (qa1 (a:=D.int k) rfl ⟨_,⟨false,n,true,f,g,m,k,rfl,V,rfl⟩,qa1 (a:=[growD false a.C4 a.C5 a.C3 n f g m h,.int k,.unk,.unk]) ?_ ?_⟩)))) (λ h=>nomatch h) λ _=>?_
 . show Am (.pl 0 [0] w::[.sl 1]) (rowD false a.C5 a.C3 n true f g m::[.int k]) _=_
   rw[qm6 rfl];rfl
 . rw[qT0 λ i hi e=>J ((KP.h.2 k).mpr ⟨i,hi,e⟩)]
   exact qa1 (a:=D.bl false) rfl (qa1 (a:=false) rfl q)
 refine qb0 [growD false a.C4 a.C5 a.C3 n f g m h,.int k,.int n,.unk] (λ K B=>qg2 (qH4 (p:=growD false a.C4 a.C5 a.C3 n f g m h) (d:=.int n) rfl (qe7 rfl) ⟨false,n,f,g,m,h,rfl,rfl⟩ rfl B)) ?_;refine qb0 [growD false a.C4 a.C5 a.C3 n f g m h,.int k,.int n,.int 0] (λ K B=>B) ?_;refine qd1 (λ u=>∃ l o j s v,u=[growD false a.C4 a.C5 a.C3 l f o j s,.int k,.int n,.int v]/\Bu l/\Kept l.toNat true (hmOf l f) o S/\S.length+1<=l.toNat/\j.length<=m.length) (λ K B=>?_) ?_
 . refine if_of (decide (n * 3 < (z+1) * 4)&&decide (n < 64)) (λ Q q=>qo6 (decide (n * 3 < (z+1) * 4)) (decide (n < 64)) (λ Q q=>qY8 (qF2 (qF2 (qT7 X.2 KP N ?_)))) (λ _ Q q=>ql3 rfl q) q) (λ t=>?_) λ t=>B _ ⟨n,g,m,h,0,rfl,M,KP,?_,zA3 _⟩
   . refine qa1 (a:=D.int (z+1)) rfl (qa1 (a:=D.int ((z+1) * 4)) (Gg (by decide)) (qa1 (a:=D.bl (decide (n * 3 < (z+1) * 4))) ?_ (qa1 (a:=decide (n * 3 < (z+1) * 4)) rfl q)))
     rw[Ae (x:=.int n) (y:=.int 3) (d:=.int (n * 3)) rfl rfl (Gg (by decide))];rfl
   . have t:=zAc.mp t
     have b2:=zA8 t.2;have Z:Bu (n * 2):=by unfold Bu at M ⊢;lia
     refine qg2 (qx1 (p:=growD false a.C4 a.C5 a.C3 n f g m h) rfl (qe7 rfl) (qc4 (y:=.int (n * 2)) (Ae (x:=.int n) (y:=.int 2) rfl rfl (Gg (by decide))) (qb4 (qa1 (a:=growD false a.C4 a.C5 a.C3 n f g m h) rfl ?_))));refine⟨n,f,g,m,h,S,n * 2,rfl,X.2,by lia,by unfold Bu at Z;lia,G,W,KP,by lia,λ o s K'=>?_⟩;exact qa1 (a:=[growD false a.C4 a.C5 a.C3 (n * 2) f o [] s,.int k,.int n,.int 0]) rfl (B _ ⟨n * 2,o,[],s,_,rfl,Z,K',by lia,zBh _⟩)
   rw[Bool.and_eq_false_iff] at t;rcases t with t | t
   . have:=zB3 t;lia
   have:=zB3 t;lia
 rintro u ⟨l,o,j,s,v,rfl,L,K',O,a3⟩;have R:4<=l/\l<=64:=by unfold Bu at L;lia
 refine qd1 (λ u=>∃ C x,u=[growD false a.C4 a.C5 a.C3 l f C (j++[x]) s,.int k,.int n,.int v]/\Kept l.toNat true (hmOf l f) C (S++[k])) (λ K B=>qj1 ?_) ?_
 . refine ql9 (i:=0) (p:=[0]) (d:=rowD false a.C5 a.C3 l true f o j) (qA0 (r:=[])) rfl (qh4 rfl) λ w=>qb6 (x:=.int k) rfl (qb4 (qa1 (a:=D.int k) rfl ?_))
   refine⟨l,true,f,o,j,S,k,rfl,by lia,R.2,V,W,K',J,qT1 (by rw[zAf];exact O),by lia,λ came C K2=>qa1 (a:=[growD false a.C4 a.C5 a.C3 l f C (j++[.tup [.str "put",.int k]]) s,.int k,.int n,.int v]) ?_ (B _ ⟨C,_,rfl,K2⟩)⟩;show Am (.pl 0 [0] w::[.sl 1]) (rowD false a.C5 a.C3 l true f C (j++[.tup [.str "put",.int k]])::[.int k]) _=_;rw[qm6 rfl];rfl
 rintro u ⟨C,x,rfl,K2⟩;exact q l C _ s v L K2 (by rw[zAf];show _+1<=_;lia)
theorem qn9:qa8 ["self", "key", "rooms"] ["self", "key"] (qa3 qj8):=by walk_at "s"
def qn6(CG C CP:Addr):VSp:=λ ds Q _=>∃ n ps g dn h S k,ds=[growD false CG C CP n ps g dn h,.int k]/\Bu n/\qx5 ps/\(∀ k∈S,Al k)/\Kept n.toNat true (hmOf n ps) g S/\k∈S/\dn.length<=900 /\
 ∀ b g' a h' v,Bu b->Kept b.toNat true (hmOf b ps) g' (S.filter λ x=>decide (x≠k))->a.length<=dn.length+1->Q (.int v) [growD false CG C CP b ps g' a h',.int k]
theorem qo4(T:Txt K mg a):VFn P w K mg base 15 a.f38 a.d38 ["self", "key"] (qn6 a.C4 a.C5 a.C3):=by
 refine VFn.mk2 T.d38.F qn9 (wOf [true,true]) (λ s Q Q' U X Y _ h=>by obtain⟨n,f,g,m,h,S,k,e,Z,h2,h4,h5,h6,h7,q⟩:=h;exact⟨n,f,g,m,h,S,k,e,Z,h2,h4,h5,h6,h7,λ n' B J C v a b c=>Y _ _ (q n' B J C v a b c)⟩) (λ s Q U h=>by obtain⟨n,f,g,m,h,S,k,e,_⟩:=h;rw[e];exact⟨rfl,rfl⟩) (λ a0 A outer sh H E av I=>⟨_,(Ac (Bf (Ij T.d32 T.C8.cl (qZ3 T) qa0 (rm I) (Bq rfl (vpn 0) T.C6.cl T.Ca) (vaN 1 Ad)))
     (Ac (Ak 2 qn9.nd (qm1 0 T.d39 T.C6.cl (qb3 T) qa0 (rm I)))
     (Ac (sif (Ig (q2v (Ba Fd (qb1 _)) (An Fd (qb1 _)) Fy (e2v (Ah qp7) qp5 (qM0 T.d29 T.C8.cl (qm9 T) qa0 (rm I) (Bq rfl (vpn 0) T.C6.cl T.Ca)) Af) (vnm 2)) (F7 (q2 (An Bk (qb1 _)) Bo (vnm 2) (vgi T.Cs)))).te
     (Ag (Aq (qi3 0 T.d36 T.C6.cl (qg3 T) qa0 (rm I) (vaV (qa5 (v2 (Ah qP9) qay6 (vnm 2) Af)) Ad))))
     Au)
     (Ag (Aq (qa5 Af)))))),λ s Q U h=>?_⟩)
 obtain⟨n,f,g,m,h,S,k,rfl,L,G,V,KP,M,a1,q⟩:=h;have N:4<=n/\n<=64:=by unfold Bu at L;lia
 refine As [growD false a.C4 a.C5 a.C3 n f g m h,.int k,.unk] rfl ?_;refine qd1 (λ s=>∃ l x,s=[growD false a.C4 a.C5 a.C3 n f l (m++[x]) h,.int k,.unk]/\Kept n.toNat true (hmOf n f) l (S.filter λ x=>decide (x≠k))) (λ K O=>qj1 ?_) ?_
 . refine ql9 (i:=0) (p:=[0]) (d:=rowD false a.C5 a.C3 n true f g m) (qA0 (r:=[])) rfl (qh4 rfl) λ w=>qb6 (x:=.int k) rfl (qb4 (qa1 (a:=D.int k) rfl ?_))
   refine⟨n,true,f,g,m,S,k,rfl,by lia,N.2,V,KP,M,by lia,λ r came l K2=>qa1 (a:=[growD false a.C4 a.C5 a.C3 n f l (m++[.tup [.str "take",.int k]]) h,.int k,.unk]) ?_ (O _ ⟨l,_,rfl,K2⟩)⟩;show Am (.pl 0 [0] w::[.sl 1]) (rowD false a.C5 a.C3 n true f l (m++[.tup [.str "take",.int k]])::[.int k]) _=_;rw[qm6 rfl];rfl
 rintro s ⟨l,x,rfl,K2⟩;have t:∀ y∈S.filter λ x=>decide (x≠k),Al y:=λ y hy=>V y (zAv.mp hy).1
 have u:(m++[x]).length<=m.length+1:=by rw[zAf];exact zA3 _
 generalize S.filter (λ x=>decide (x≠k))=T at K2 q t;generalize m++[x]=j at u;have W:=K2.len;obtain⟨o,R⟩:∃ o:Int,o=(T.length:Nat):=⟨_,rfl⟩
 refine qb0 [growD false a.C4 a.C5 a.C3 n f l j h,.int k,.int n] (λ K O=>qg2 (qH4 (p:=growD false a.C4 a.C5 a.C3 n f l j h) (d:=.int n) rfl (qe7 rfl) ⟨false,n,f,l,j,h,rfl,rfl⟩ rfl O)) ?_;refine qj0 (decide (o * 8 < n)&&decide (4 < n)) (λ Q q=>qo6 (decide (o * 8 < n)) (decide (4 < n)) (λ Q q=>qY8 (qF2 (qT7 N.2 K2 R ?_))) (λ _ Q q=>ql3 rfl q) q) (λ z=>?_) λ z=>ql0 (.int 0) rfl (q n l j h 0 L K2 u)
 . exact qa1 (a:=D.int (o * 8)) (Gg (by decide)) (qa1 (a:=D.bl (decide (o * 8 < n))) rfl (qa1 (a:=decide (o * 8 < n)) rfl q))
 have z:=zAc.mp z;have b1:=zA8 z.1;have b2:=zA8 z.2;have p2:Bu (n / 2):=by unfold Bu at L ⊢;lia
 refine qh0 (qx1 (p:=growD false a.C4 a.C5 a.C3 n f l j h) rfl (qe7 rfl) (qc4 (y:=.int (n / 2)) (Ae (x:=.int n) (y:=.int 2) rfl rfl (qaC4 (by decide) (by decide))) (qb4 (qa1 (a:=growD false a.C4 a.C5 a.C3 n f l j h) rfl ?_))));refine⟨n,f,l,j,h,T,n / 2,rfl,N.2,by lia,by lia,G,t,K2,by lia,λ B C K'=>?_⟩;exact qa1 (a:=[growD false a.C4 a.C5 a.C3 (n / 2) f B [] C,.int k,.int n]) rfl (q (n / 2) B [] C _ p2 K' (zBh _))
theorem qd7:qa8 ["_law_bag_here", "_law_homes", "_law_keys_here", "_law_goal", "_law_full", "_law_row", "_law_there", "_law_key", "_law_turn", "_law_some", "_law_word"] ["_law_bag_here", "_law_homes", "_law_keys_here", "_law_goal", "_law_full"] (qa3 qG5):=by walk_at "s"
noncomputable def smT(T G:List Int):List (Bool×Int):=((T.filter λ x=>!decide (x∈G)).map λ x=>(false,x))++((G.filter λ x=>!decide (x∈T)).map λ x=>(true,x))
abbrev gF(a:Adr)(n:Int)(ps:Pr)(g:Nat->Option Int)(dn:Ds)(h:Int):D:=growD false a.C4 a.C5 a.C3 n ps g dn h
abbrev dF(b:D)(ps:Pr)(ks G:List Int)(full:Bool)(r t c d e a:D):Ds:=[b,.lst true (prD ps),.lst false (ksD ks),.lst false (ksD G),.bl full,r,t,c,d,e,a]
noncomputable def smD(a:List (Bool×Int)):Ds:=a.map λ p=>.tup [.str (if p.1 then "put" else "take"),.int p.2]
structure Fld(n:Int)(ps:Pr)(g:Nat->Option Int)(S ks:List Int):Prop where
 pw:Bu n
 kp:Kept n.toNat true (hmOf n ps) g S
 sub:∀ x∈S,x∈ks
theorem Fld.room{n:Int}{ps:Pr}{g:Nat->Option Int}(F:Fld n ps g S ks)(a:k∈ks)(h:¬ k∈S):S.length+1<=ks.length:=by
 have:=List.Nodup.length_le_of_subset (l₁:=k::S) (l₂:=ks) (zBz.mpr ⟨h,F.kp.h.1⟩) (List.cons_subset.mpr ⟨a,F.sub⟩)
 exact this
def qac2(CG C CP:Addr):VSp:=λ ds Q _=>∃ b a ps ks G full,ds=[b,.lst true (prD ps),.lst false (ksD ks),.lst false (ksD G),.bl full]/\isBag a b/\qx5 ps/\ks.Nodup/\(∀ k∈ks,Al k)/\ks≠[]/\ks.length<=64/\G.Sublist ks /\
 ∀ c n g dn h S,isBag a c->Bu n->Kept n.toNat true (hmOf n ps) g S->S.Perm G->Q (growD false CG C CP n ps g dn h) [c,.lst true (prD ps),.lst false (ksD ks),.lst false (ksD G),.bl full]
theorem qK4(T:Txt K mg a):VFn P w K mg base 16 a.f48 a.d48 ["_law_bag_here", "_law_homes", "_law_keys_here", "_law_goal", "_law_full"] (qac2 a.C4 a.C5 a.C3):=by
 refine VFn.mk' T.d48.F qd7 (wOf [true,true,true,true,true]) (λ f Q Q' xe c1 hQ _ h=>by obtain⟨b,ns,c,s,G,full,e,V,h2,h3,h4,h5,h6,h7,q⟩:=h;exact⟨b,ns,c,s,G,full,e,V,h2,h3,h4,h5,h6,h7,λ b' n g o h S x y z t=>hQ _ _ (q b' n g o h S x y z t)⟩) (λ f Q xe h=>by obtain⟨b,ns,c,s,G,full,e,_⟩:=h;rw[e];rfl) (λ f Q xe h=>by obtain⟨b,ns,c,s,G,full,e,⟨x,y,z',eb,_⟩,_⟩:=h;rw[e,eb];rfl) (λ c2 A outer sh H E av hr=>⟨_,(Ac (Ak 5 qd7.nd (G6 T.C6 T.D1 T.d35 (qD1 T) qa0 (rm hr) (vaV (qa5 (Fp qf4 qE9.ops T.Cp (qa2 (vnm 1) qa7 rfl))) Ad)))
     (Ac (Ak 6 qd7.nd (qa5 (Di qa7)))
     (Ac (sif (tv (vnm 4))
     (Ac (Ir PassesOwn.leaving (vpn 2) (Bi 7 qd7.nd)
     (Ag (Bf (qi3 5 T.d37 T.C6.cl (qk6 T) qa0 (rm hr) (vaN 7 Ad)))))
     (Ag (Ak 6 qd7.nd (qa5 (Fp qf4 qE9.ops T.Cp (qa2 (vnm 2) qa7 rfl))))))
     Au)
     (Ac (qY4 PassesOwn.leaving T.Cr (E5 (vaV (Aj T.d42 (qe5 T) qa0 (rm hr) (vaN 0 (vaV (qa5 Af) Ad))) Ad)) (Bi 8 qd7.nd)
     (Ac (Ak 7 qd7.nd (e2nP 2 (A7 qc1) At (Aj T.d42 (qe5 T) qa0 (rm hr) (vaN 0 (vaV (qa5 (vbi qt1 qt0.ops T.Co (qa2 (vnm 2) qa7 rfl))) Ad)))))
     (Ag (sif (q2 (An qG7 (by with_unfolding_all rfl)) Fe (vnm 7) (vnm 6))
     (Ac (Bf (qi3 5 T.d38 T.C6.cl (qo4 T) qa0 (rm hr) (vaN 7 Ad)))
     (Ag (Bf (Du 6 qaR9 PySem.F.plainAttrs_list PySem.F.slot_list_remove PySem.F.type_list_remove qan4 (vaN 7 Ad)))))
     (Ac (Bf (qi3 5 T.d37 T.C6.cl (qk6 T) qa0 (rm hr) (vaN 7 Ad)))
     (Ag (Bf (Du 6 qH2 PySem.F.plainAttrs_list PySem.F.slot_list_append PySem.F.type_list_append qf6 (vaN 7 Ad)))))))))
     (Ac (Ak 9 qd7.nd (e2 (Ah qk3) qk2 (ecN (NY:=["_law_key", "_law_goal"]) (src:=[none,some 3]) 6 (blk (λ av C s0 H0 ex=>(Bi 0 (show (["_law_key", "_law_goal"]:List Str).Nodup by decide +kernel))) (λ av C s0 H0 ex=>(Ge (q2 (An qp8 (by with_unfolding_all rfl)) Fe (vnm 0) (vnm 1)))) (λ av C s0 H0 ex=>(qa5 (Ep (qa2 Eo (qa2 (vnm 0) qa7 rfl) rfl)))))) (ecN (NY:=["_law_key", "_law_there"]) (src:=[none,some 6]) 3 (blk (λ av C s0 H0 ex=>(Bi 0 (show (["_law_key", "_law_there"]:List Str).Nodup by decide +kernel))) (λ av C s0 H0 ex=>(Ge (q2 (An qp8 (by with_unfolding_all rfl)) Fe (vnm 0) (vnm 1)))) (λ av C s0 H0 ex=>(qa5 (Ep (qa2 Eo (qa2 (vnm 0) qa7 rfl) rfl))))))))
     (Ac (qab7 PassesOwn.leaving (q2 (An (qJ9 hr.u64) (qb1 _)) F4 (vnm 9) (Di qa7))
     (Ac (Fc (Du 9 qaz6 PySem.F.plainAttrs_list PySem.F.slot_list_pop PySem.F.type_list_pop qaz7 (vaV (Aj T.d42 (qe5 T) qa0 (rm hr) (vaN 0 (vaV (qa5 (vbi qt1 qt0.ops T.Co (qa2 (vnm 9) qa7 rfl))) Ad))) Ad)) (Il (n:=2) rfl (Hj (Bi 10 qd7.nd) (Hj (Bi 7 qd7.nd) Ik))))
     (Ag (sif (q2 (An (qA1 hr.u64) (qb1 _)) Dq (vnm 10) Eo)
     (Ag (Bf (qi3 5 T.d37 T.C6.cl (qk6 T) qa0 (rm hr) (vaN 7 Ad))))
     (Ag (Bf (qi3 5 T.d38 T.C6.cl (qo4 T) qa0 (rm hr) (vaN 7 Ad))))))))
     (Ag (Aq (emv 5))))))))),λ f Q xe h=>?_⟩)
 obtain⟨b,ns,c,s,G,full,rfl,B,Gp,a7,hk,ne,c3,hG,q⟩:=h;have a8:=a7.sublist hG;have lpos:=List.length_pos_iff.mpr ne;refine As (dF b c s G full .unk .unk .unk .unk .unk .unk) rfl ?_;refine qb0 (dF b c s G full (gF a 4 c (λ _=>none) [] 0) .unk .unk .unk .unk .unk) (λ K U=>qg2 (qE2 (qc4 (y:=.lst false (prD c)) (qag1 (z:=true)) (qb4 ⟨false,c,rfl,Gp,rfl,U⟩)))) ?_;refine qb0 (dF b c s G full (gF a 4 c (λ _=>none) [] 0) (.lst false (ksD [])) .unk .unk .unk .unk) (λ K U=>U) ?_;have put:∀{n:Int}{g:Nat->Option Int}{o:Ds}{h:Int}{S:List Int}{k:Int}{i:Nat}{f:Ds}{Q:DK}{xe:XKd},Fld n c g S s->k∈s->¬ k∈S->o.length<=900->f[5]? = some (gF a n c g o h)->f[7]? = some (.int k)->(∀ I J r N v,Fld I c J (S++[k]) s->r.length<=o.length+1->Q (.int v) (f.set 5 (gF a I c J r N)))->qw4 a.C4 "put" (qr2 a.C4 a.C5 a.C3) [] 5 (tbN 7 A6) f Q xe:=λ{n g o h S k i f Q xe} F a2 a9 X h5 h7 q=>by
   have r5:rdN 5 f=some (gF a n c g o h):=qh1 h5 rfl;have r7:rdN 7 f=some (D.int k):=qh1 h7 rfl;have a5:rdN 5 (f.set 7 .unk)=some (gF a n c g o h):=qh1 (by rw[zBc (by decide)];exact h5) rfl;refine qx1 r5 (qe7 rfl) (qb6 r7 (qb4 (qa1 r7 (qa1 a5 ?_))));refine⟨n,c,g,o,h,S,k,rfl,F.pw,Gp,hk k a2,λ x O=>hk x (F.sub x O),F.kp,a9,by have:=F.room a2 a9;lia,X,λ I J r N v p' K' d'=>?_⟩;refine qa1 (a:=f.set 5 (gF a I c J r N)) ?_ (q I J r N v ⟨p',K',λ x O=>?_⟩ d')
   . show some ((((f.set 7 .unk).set 5 .unk).set 5 _).set 7 (.int k))=_
     rw[List.set_set,List.set_comm _ _ (by decide:(7:Nat)≠5),List.set_set,qac7 (by rw[zBc (by decide)];exact h7)]
   rcases zAa.mp O with h | h
   . exact F.sub x h
   rw[zAe.mp h];exact a2
 have take:∀{n:Int}{g:Nat->Option Int}{o:Ds}{h:Int}{S:List Int}{k:Int}{i:Nat}{f:Ds}{Q:DK}{xe:XKd},Fld n c g S s->k∈S->o.length<=900->f[5]? = some (gF a n c g o h)->f[7]? = some (.int k)->(∀ I J r N v,Fld I c J (S.filter λ x=>decide (x≠k)) s->r.length<=o.length+1->Q (.int v) (f.set 5 (gF a I c J r N)))->qw4 a.C4 "take" (qn6 a.C4 a.C5 a.C3) [] 5 (tbN 7 A6) f Q xe:=λ{n g o h S k i f Q xe} F a1 X h5 h7 q=>by
   have r5:rdN 5 f=some (gF a n c g o h):=qh1 h5 rfl;have r7:rdN 7 f=some (D.int k):=qh1 h7 rfl;have a5:rdN 5 (f.set 7 .unk)=some (gF a n c g o h):=qh1 (by rw[zBc (by decide)];exact h5) rfl;refine qx1 r5 (qe7 rfl) (qb6 r7 (qb4 (qa1 r7 (qa1 a5 ?_))));refine⟨n,c,g,o,h,S,k,rfl,F.pw,Gp,λ x O=>hk x (F.sub x O),F.kp,a1,X,λ I J r N v p' K' d'=>?_⟩;refine qa1 (a:=f.set 5 (gF a I c J r N)) ?_ (q I J r N v ⟨p',K',λ x O=>?_⟩ d')
   . show some ((((f.set 7 .unk).set 5 .unk).set 5 _).set 7 (.int k))=_
     rw[List.set_set,List.set_comm _ _ (by decide:(7:Nat)≠5),List.set_set,qac7 (by rw[zBc (by decide)];exact h7)]
   exact F.sub x (zAv.mp O).1
 refine qd1 (λ f=>∃ n g o h S T L,f=dF b c s G full (gF a n c g o h) (.lst false (ksD T)) L .unk .unk .unk/\Fld n c g S s/\S.Perm T/\o.length<=64) (λ K U=>?_) ?_
 . refine if_v (b:=full) rfl (λ hf=>?_) λ hf=>U _ ⟨4,_,[],0,[],[],_,rfl,⟨.inl rfl,Kept.none (by decide) (Dn (by decide)),nofun⟩,.refl _,by decide⟩
   refine qd1 (λ f=>∃ n g o h L,f=dF b c s G full (gF a n c g o h) (.lst false (ksD [])) L .unk .unk .unk/\Fld n c g s s/\o.length<=64) (λ K U=>?_) ?_
   . refine qa1 (a:=(2,[])) rfl (qa1 (a:=D.lst false (ksD s)) rfl (qa1 (a:=ksD s) rfl ⟨qh9 s,λ w=>?_⟩))
     refine qg1 (λ i f=>∃ n g o h L,f=[b,.lst true (prD c),.hole w,.lst false (ksD G),.bl full,gF a n c g o h,.lst false (ksD []),L,.unk,.unk,.unk]/\Fld n c g (s.take i) s/\o.length<=i) _ 0 _ ⟨4,_,[],0,_,rfl,⟨.inl rfl,Kept.none (by decide) (Dn (by decide)),nofun⟩,zA3 _⟩ ?_ ?_
     . rintro i y hy f ⟨n,g,o,h,L,rfl,F,X⟩ K2 W
       rw[zAh] at F X W;obtain⟨k,Y,rfl⟩:=qaA6 hy;have c4:=(zA2.mp Y).1;refine qx4 (As [b,.lst true (prD c),.hole w,.lst false (ksD G),.bl full,gF a n c g o h,.lst false (ksD []),.int k,.unk,.unk,.unk] rfl (qj1 (put (i:=0) F (zAy Y) (qA3 a7 Y) (by lia) rfl rfl λ I J r N v F' d'=>W _ ⟨I,J,r,N,_,rfl,by rw[qr0 Y];exact F',by lia⟩)))
     rintro f ⟨n,g,o,h,L,rfl,F,X⟩;rw[zAh,qh7] at F X;rw[List.take_length] at F;exact qa1 (qaj7 rfl) (U _ ⟨n,g,o,h,L,rfl,F,by lia⟩)
   rintro f ⟨n,g,o,h,L,rfl,F,X⟩;exact qy5 (qaJ7 (z:=false) (S:=s)) (U _ ⟨n,g,o,h,s,s,L,rfl,F,.refl _,X⟩)
 rintro f ⟨n,g,o,h,S,T,L,rfl,F,pT,X⟩;refine qd1 (λ f=>∃ b n g o h S T L d8,f=dF b c s G full (gF a n c g o h) (.lst false (ksD T)) L d8 .unk .unk/\isBag ns b/\Fld n c g S s/\S.Perm T/\o.length<=104) (λ K U=>?_) ?_
 . refine qe1 (ds:=dF b c s G full (gF a n c g o h) (.lst false (ksD T)) L .unk .unk .unk) (m:=40) rfl B rfl (by decide) (by decide) λ v b1 v0 v1 B1=>?_
   refine qb4 (qa1 (a:=v) rfl ⟨qZ7 v0 (by lia),?_⟩);refine qg1 (λ i f=>∃ b n g o h S T L d8,f=dF b c s G full (gF a n c g o h) (.lst false (ksD T)) L d8 .unk .unk/\isBag ns b/\Fld n c g S s/\S.Perm T/\o.length<=64+i) _ 0 _ ⟨b1,n,g,o,h,S,T,_,_,rfl,B1,F,pT,X⟩ ?_ ?_
   . rintro i y hy f ⟨b,n,g,o,h,S,T,L,d8,rfl,B,F,pT,X⟩ K2 W
     rw[zAh] at X W;obtain⟨Y,rfl⟩:=qY7 hy;refine qx4 (As (dF b c s G full (gF a n c g o h) (.lst false (ksD T)) L (.int (i:Nat)) .unk .unk) rfl ?_);refine qd1 (λ f=>∃ b k,f=dF b c s G full (gF a n c g o h) (.lst false (ksD T)) (.int k) (.int (i:Nat)) .unk .unk/\isBag ns b/\k∈s) (λ K U=>?_) ?_
     . refine qg2 ⟨rfl,qe1 (ds:=dF b c s G full (gF a n c g o h) (.lst false (ksD T)) L (.int (i:Nat)) .unk .unk) (m:=(s.length:Nat)) rfl B (by rw[qq4 (ys:=ksD s) (z:=false) rfl,qh7]) (by lia) (by lia) λ v b' v0 v1 B'=>?_⟩
       obtain⟨k,b4,b5⟩:∃ k,s[v.toNat]? = some k/\k∈s:=⟨s[v.toNat]'(by lia),zB9 (by lia),List.getElem_mem _⟩
       have ev:gIx (.lst false (ksD s)) (.int v)=some (.int k):=by
         rw[show v=((v.toNat:Nat):Int) by lia];exact qX4 (by unfold ksD;rw[zB2,b4];rfl)
       exact qa1 (a:=D.int k) ev ⟨rfl,U _ ⟨b',k,rfl,B',b5⟩⟩
     rintro f ⟨b,k,rfl,B,a2⟩;have a6:T.Nodup:=pT.nodup_iff.mp F.kp.h.1;have lT:T.length<=64:=by have V:=F.kp.len;have h2:=F.pw;rw[pT.length_eq] at V;unfold Bu at h2;lia
     refine if_v (b:=decide (k∈T)) (Ae rfl rfl qaK9) (λ hb=>?_) λ hb=>?_
     . have a1:=zA8 hb
       refine qd1 (λ f=>∃ I J r N,f=dF b c s G full (gF a I c J r N) (.lst false (ksD T)) (.int k) (.int (i:Nat)) .unk .unk/\Fld I c J (S.filter λ x=>decide (x≠k)) s/\r.length<=o.length+1) (λ K U=>qj1 (take (i:=0) F (pT.mem_iff.mpr a1) (by lia) rfl rfl λ I J r N v F' d'=>U _ ⟨I,J,r,N,rfl,F',d'⟩)) ?_;rintro f ⟨I,J,r,N,rfl,F',d'⟩;refine qj1 ⟨rfl,qb6 (x:=.int k) rfl (qb4 (qa1 (a:=D.int k) rfl (qa1 (a:=ksD T) rfl (qa1 (a:=(ksD (T.erase k),D.non)) ?_ ?_))))⟩
       . show ((intsD (ksD T)).bind λ ns=>if k∈ns then some ((ns.erase k).map D.int,D.non) else none)=_
         rw[qah4];exact if_pos a1
       refine W _ ⟨b,I,J,r,N,_,T.erase k,_,_,rfl,B,F',?_,by lia⟩;rw[a6.erase_eq_filter]
       have:=pT.filter λ x=>decide (x≠k)
       refine this.trans (List.Perm.of_eq ?_);exact List.filter_congr λ x _=>by by_cases e:x=k<;>simp[e]
     have a1:=zB3 hb;refine qd1 (λ f=>∃ I J r N,f=dF b c s G full (gF a I c J r N) (.lst false (ksD T)) (.int k) (.int (i:Nat)) .unk .unk/\Fld I c J (S++[k]) s/\r.length<=o.length+1) (λ K U=>qj1 (put (i:=0) F a2 (λ z=>a1 (pT.mem_iff.mp z)) (by lia) rfl rfl λ I J r N v F' d'=>U _ ⟨I,J,r,N,rfl,F',d'⟩)) ?_;rintro f ⟨I,J,r,N,rfl,F',d'⟩;refine qaN5 (ys:=ksD T) (d:=.int k) rfl rfl rfl (by decide) (by rw[qh7];unfold big;lia) ?_;rw[qU1];exact W _ ⟨b,I,J,r,N,_,T++[k],_,_,rfl,B,F',pT.append_right [k],by lia⟩
   rintro f ⟨b,n,g,o,h,S,T,L,d8,rfl,B,F,pT,X⟩;rw[zAh,qT9] at X;exact U _ ⟨b,n,g,o,h,S,T,L,d8,rfl,B,F,pT,by lia⟩
 rintro f ⟨b,n,g,o,h,S,T,L,d8,rfl,B,F,pT,X⟩;have a6:T.Nodup:=pT.nodup_iff.mp F.kp.h.1;have lT:T.length<=64:=by have V:=F.kp.len;have h2:=F.pw;rw[pT.length_eq] at V;unfold Bu at h2;lia
 have lG:G.length<=64:=by have:=hG.length_le;lia
 refine qb0 (dF b c s G full (gF a n c g o h) (.lst false (ksD T)) L d8 (.lst false (smD (smT T G))) .unk) (λ K U=>qg2 (qal6 ?_)) ?_
 . have fm:∀(w:Bool)(l M:List Int),(ksD l).filterMap (λ y=>y.asI.bind λ k=>if k∈M then none else some (D.tup [.str (if w then "put" else "take"),.int k]))=smD ((l.filter λ x=>!decide (x∈M)).map λ x=>(w,x)):=λ w l M=>by
     induction l with
     | nil=>rfl
     | cons y l ih =>
       show List.filterMap _ (D.int y::ksD l)=_;rw[zBu];by_cases e:y∈M
       . rw[zC3 (by simp[e]),<- ih]
         simp[D.asI,e]
       rw[zC2 (by simp[e])];rw[show ((D.int y).asI.bind λ k=>if k∈M then none else some (D.tup [.str (if w then "put" else "take"),.int k]))=some (D.tup [.str (if w then "put" else "take"),.int y]) from if_neg e];exact congrArg (List.cons _) ih
   refine qa1 (a:=D.lst false (ksD T)) rfl (qa1 (a:=ksD T) rfl ⟨qh9 _,?_⟩);refine qm5 (λ ι=>∃ d,ι=[d,.lst false (ksD G)]) (λ y=>y.asI.bind λ k=>if k∈G then none else some (.tup [.str "take",.int k])) _ [] _ (by show 0+_ < 1000000;rw[qh7];lia) ⟨_,rfl⟩ ?_ ?_
   . rintro y hy ι a3 ⟨d,rfl⟩ R hR a4
     obtain⟨k,_,rfl⟩:=zBd.mp hy;have this:R (a3++(if k∈G then none else some (D.tup [.str "take",.int k])).toList) _:=hR [.int k,.lst false (ksD G)] ⟨_,rfl⟩;refine qx4 (ql3 (b:=!decide (k∈G)) (Ae rfl rfl qQ4) ?_);by_cases e:k∈G
     . rw[if_pos e] at this
       have this:R (a3++[]) _:=this;rw[zAg] at this;rw[zAj e];exact this
     rw[if_neg e] at this;rw[zBa e];exact Eg rfl (qr8 (d:=.tup [.str "take",.int k]) rfl ⟨a4,this⟩)
   rintro ι ⟨d,rfl⟩;rw[zB8,show ((ksD T).filterMap λ y=>y.asI.bind λ k=>if k∈G then none else some (D.tup [.str "take",.int k]))=_ from fm false T G];refine qa1 (a:=D.lst false (ksD G)) rfl (qa1 (a:=ksD G) rfl ⟨qh9 _,?_⟩);refine qm5 (λ ι=>∃ d,ι=[d,.lst false (ksD T)]) (λ y=>y.asI.bind λ k=>if k∈T then none else some (.tup [.str "put",.int k])) _ [] _ (by show 0+_ < 1000000;rw[qh7];lia) ⟨_,rfl⟩ ?_ ?_
   . rintro y hy ι a3 ⟨d,rfl⟩ R hR a4
     obtain⟨k,_,rfl⟩:=zBd.mp hy;have this:R (a3++(if k∈T then none else some (D.tup [.str "put",.int k])).toList) _:=hR [.int k,.lst false (ksD T)] ⟨_,rfl⟩;refine qx4 (ql3 (b:=!decide (k∈T)) (Ae rfl rfl qQ4) ?_);by_cases e:k∈T
     . rw[if_pos e] at this
       have this:R (a3++[]) _:=this;rw[zAg] at this;rw[zAj e];exact this
     rw[if_neg e] at this;rw[zBa e];exact Eg rfl (qr8 (d:=.tup [.str "put",.int k]) rfl ⟨a4,this⟩)
   rintro ι ⟨d,rfl⟩;rw[zB8,show ((ksD G).filterMap λ y=>y.asI.bind λ k=>if k∈T then none else some (D.tup [.str "put",.int k]))=_ from fm true G T];refine qa1 (a:=D.lst false (smD (smT T G))) ?_ U;have e:smD (smT T G)=smD ((T.filter λ x=>!decide (x∈G)).map λ x=>(false,x))++smD ((G.filter λ x=>!decide (x∈T)).map λ x=>(true,x)):=zBe;rw[e];have im:∀ l:List (Bool×Int),D.imms (smD l)=true:=qI0 λ _=>rfl
   refine qk7 ⟨im _,im _,?_⟩;unfold smD big;rw[zA7,zA7,zA7,zA7];have V:=zBw (λ x=>!decide (x∈G)) T;have h2:=zBw (λ x=>!decide (x∈T)) G;lia
 have I0:((smT T G).map (·.2)).Nodup/\(∀ x,(true,x)∈smT T G->x∈G/\¬ x∈S)/\(∀ x,(false,x)∈smT T G->x∈S/\¬ x∈G)/\(∀ x,x∈G↔(x∈S/\¬ (false,x)∈smT T G)∨(true,x)∈smT T G)/\(smT T G).length<=128:=by
   have m1:∀ x,(true,x)∈smT T G↔x∈G/\¬ x∈T:=λ x=>by simp[smT]
   have m2:∀ x,(false,x)∈smT T G↔x∈T/\¬ x∈G:=λ x=>by simp[smT]
   refine⟨?_,λ x O=>⟨((m1 x).mp O).1,λ z=>((m1 x).mp O).2 (pT.mem_iff.mp z)⟩,λ x O=>⟨pT.mem_iff.mpr ((m2 x).mp O).1,((m2 x).mp O).2⟩,λ x=>?_,?_⟩
   . unfold smT
     rw[zBe,zBr,zBr];refine zBo.mpr ⟨?_,?_,λ x O y hy e=>?_⟩
     . exact(show List.map _ _=_ from List.map_id _) ▸ a6.sublist List.filter_sublist
     . exact(show List.map _ _=_ from List.map_id _) ▸ a8.sublist List.filter_sublist
     subst e;have O:x∈T.filter λ x=>!decide (x∈G):=by simpa using O
     have hy:x∈G.filter λ x=>!decide (x∈T):=by simpa using hy
     simp at O hy;exact O.2 hy.1
   . rw[m1,m2,pT.mem_iff]
     by_cases V:x∈G<;>by_cases h2:x∈T<;>simp[V,h2]
   unfold smT;rw[zAf,zA7,zA7];have V:=zBw (λ x=>!decide (x∈G)) T;have h2:=zBw (λ x=>!decide (x∈T)) G;lia
 generalize smT T G=u at I0;refine qd1 (λ f=>∃ b n g o h S L d9 Z,f=dF b c s G full (gF a n c g o h) (.lst false (ksD T)) L d8 d9 Z/\isBag ns b/\Fld n c g S s/\S.Perm G) (λ K U=>?_) ?_
 . refine qN0 (λ m f=>∃ b n g o h S L Z u,f=dF b c s G full (gF a n c g o h) (.lst false (ksD T)) L d8 (.lst false (smD u)) Z/\isBag ns b/\Fld n c g S s/\m=u.length/\o.length+u.length<=300/\((u.map (·.2)).Nodup/\(∀ x,(true,x)∈u->x∈G/\¬ x∈S)/\(∀ x,(false,x)∈u->x∈S/\¬ x∈G)/\∀ x,x∈G↔(x∈S/\¬ (false,x)∈u)∨(true,x)∈u)) u.length ⟨b,n,g,o,h,S,_,_,u,rfl,B,F,rfl,by have:=I0.2.2.2.2;lia,I0.1,I0.2.1,I0.2.2.1,I0.2.2.2.1⟩ ?_
   rintro m f ⟨b,n,g,o,h,S,L,Z,u,rfl,B,F,rfl,c5,i1,i2,i3,i4⟩ K2 W;cases u with
   | nil =>
     refine ql3 (b:=false) (Ae (x:=.lst false []) (y:=.lst false []) rfl rfl (qaB7 rfl)) (ite_f (by decide) (U _ ⟨b,n,g,o,h,S,L,_,Z,rfl,B,F,?_⟩));refine(List.perm_ext_iff_of_nodup F.kp.h.1 a8).mpr λ x=>?_
     rw[i4 x];simp
   | cons p0 b6 =>
     generalize b0:p0::b6=u at *
     have c0:0 < u.length:=by rw[<- b0];simp
     refine ql3 (b:=true) (Ae (x:=.lst false (smD u)) (y:=.lst false []) rfl rfl (by rw[<- b0];rfl)) (Eg rfl ?_);refine qd1 (λ f=>∃ b wd k j,f=dF b c s G full (gF a n c g o h) (.lst false (ksD T)) (.int k) d8 (.lst false (smD (u.eraseIdx j))) (.str (if wd then "put" else "take"))/\isBag ns b/\u[j]? = some (wd,k)) (λ K U=>?_) ?_
     . refine⟨rfl,qh6 (qe1 (ds:=dF b c s G full (gF a n c g o h) (.lst false (ksD T)) L d8 (.lst false (smD u)) Z) (m:=(u.length:Nat)) rfl B (by rw[qq4 (ys:=smD u) (z:=false) rfl];unfold smD;rw[zA7]) (by lia) (by lia) λ v b' v0 v1 B'=>qb4 (qa1 (a:=smD u) rfl ?_))⟩
       obtain⟨wd,k,hj⟩:∃ wd k,u[v.toNat]? = some (wd,k):=⟨(u[v.toNat]'(by lia)).1,(u[v.toNat]'(by lia)).2,zB9 (by lia)⟩
       refine qa1 (a:=(smD (u.eraseIdx v.toNat),D.tup [.str (if wd then "put" else "take"),.int k])) ?_ (qR0 (U _ ⟨b',wd,k,v.toNat,rfl,B',hj⟩));show (if 0<=v/\v < 2 ^ 63 then ((smD u)[v.toNat]?).map λ d=>((smD u).eraseIdx v.toNat,d) else none)=_;rw[if_pos ⟨v0,by lia⟩];have e1:(smD u)[v.toNat]? = some (D.tup [.str (if wd then "put" else "take"),.int k]):=by unfold smD;rw[zB2,hj];rfl
       have e2:(smD u).eraseIdx v.toNat=smD (u.eraseIdx v.toNat):=by unfold smD;simp[List.eraseIdx_eq_take_drop_succ,List.map_take,List.map_drop]
       rw[e1,e2];rfl
     rintro f ⟨b,wd,k,j,rfl,B,hj⟩;have b7:=(zA2.mp hj).1;have a0:=zAy hj;have el:(u.eraseIdx j).length+1=u.length:=by rw[List.length_eraseIdx_of_lt b7];lia
     have em:∀ p:Bool×Int,p∈u.eraseIdx j↔p∈u/\p≠(wd,k):=λ p=>by
       have b8:u.Nodup:=(zBs.mp i1).imp λ h z=>h (congrArg Prod.snd z)
       rw[List.mem_eraseIdx_iff_getElem?];constructor
       . rintro⟨i,Y,e⟩
         refine⟨zAy e,λ z=>Y ?_⟩;subst z;obtain⟨V,e1⟩:=zA2.mp e;obtain⟨h2,e2⟩:=zA2.mp hj;exact(List.getElem_inj b8).mp (e1.trans e2.symm)
       rintro⟨hp,b9⟩;obtain⟨i,Y⟩:=List.getElem?_of_mem hp;exact⟨i,λ z=>b9 (by subst z;rw[hj] at Y;exact(Option.some.inj Y).symm),Y⟩
     have b2:∀ w',(w',k)∈u->w'=wd:=λ w' hw=>by
       obtain⟨i,Y⟩:=List.getElem?_of_mem hw;obtain⟨V,e1⟩:=zA2.mp Y;obtain⟨h2,e2⟩:=zA2.mp hj
       have:(u.map (·.2))[i]'(by simpa using V)=(u.map (·.2))[j]'(by simpa using h2):=by simp[e1,e2]
       have:=(List.getElem_inj i1).mp this
       subst this;rw[hj] at Y;exact(congrArg Prod.fst (Option.some.inj Y)).symm
     have b3:((u.eraseIdx j).map (·.2)).Nodup:=i1.sublist ((List.eraseIdx_sublist _ _).map _);cases wd with
     | true =>
       obtain⟨kG,kS⟩:=i2 k a0;refine if_v (b:=true) rfl (λ _=>qj1 (put (i:=0) F (hG.subset kG) kS (by lia) rfl rfl λ I J r N v F' d'=>W _ _ (by lia) ⟨b,I,J,r,N,_,_,_,u.eraseIdx j,rfl,B,F',rfl,by lia,b3,λ x O=>?_,λ x O=>?_,λ x=>?_⟩)) λ h=>nomatch h
       . have:=(em _).mp O
         refine⟨(i2 x this.1).1,λ z=>?_⟩;rcases zAa.mp z with z | z
         . exact(i2 x this.1).2 z
         rw[zAe.mp z] at this;exact this.2 rfl
       . have:=(em _).mp O
         exact⟨List.mem_append_left _ (i3 x this.1).1,(i3 x this.1).2⟩
       rw[i4 x,em,em,zAa,zAe];by_cases e:x=k
       . subst e
         have V:¬ (false,x)∈u:=λ z=>nomatch b2 _ z
         simp[V,a0]
       have V:((true,x):Bool×Int)≠(true,k):=λ z=>e (congrArg Prod.snd z)
       simp[e,V]
     | false =>
       obtain⟨kS,kG⟩:=i3 k a0;refine if_v (b:=false) rfl (λ h=>nomatch h) λ _=>qj1 (take (i:=0) F kS (by lia) rfl rfl λ I J r N v F' d'=>W _ _ (by lia) ⟨b,I,J,r,N,_,_,_,u.eraseIdx j,rfl,B,F',rfl,by lia,b3,λ x O=>?_,λ x O=>?_,λ x=>?_⟩)
       . have:=(em _).mp O
         exact⟨(i2 x this.1).1,λ z=>(i2 x this.1).2 (zAv.mp z).1⟩
       . have:=(em _).mp O
         refine⟨zAv.mpr ⟨(i3 x this.1).1,zAj λ z=>?_⟩,(i3 x this.1).2⟩;subst z;exact this.2 rfl
       rw[i4 x,em,em,zAv,zBb];by_cases e:x=k
       . subst e
         have V:¬ (true,x)∈u:=λ z=>nomatch b2 _ z
         simp[V,a0]
       have V:((false,x):Bool×Int)≠(false,k):=λ z=>e (congrArg Prod.snd z)
       simp[e,V]
 rintro f ⟨b,n,g,o,h,S,L,d9,Z,rfl,B,F,pG⟩;exact q b n g o h S B F.pw F.kp pG
theorem qo9:qa8 ["_law_script", "_law_bag_here", "_law_full", "_law_keys_here", "_law_homes", "_law_goal", "_law_rows", "_law_row", "_law_size", "_law_rooms", "_law_broad", "_law_other", "_law_made", "_law_again"] ["_law_script"] (qa3 Gh):=by walk_at "s"
theorem qaU1(N:Nat)(g:Nat->Option Int):D.fzs (rlD N g)=rlD N g:=by
 unfold rlD
 induction List.range N with
 | nil=>rfl
 | cons a l b =>
   show (B9 (g a)).fz::D.fzs (l.map λ i=>B9 (g i))=_;have e:(B9 (g a)).fz=B9 (g a):=by cases g a<;>rfl
   rw[b,e];rfl
theorem qau2{zg:Bool}{CG C CP:Addr}{n:Int}{ps:Pr}{g:Nat->Option Int}{dn:Ds}{h:Int}:(growD zg CG C CP n ps g dn h).fz=growD true CG C CP n ps g (D.fzs dn) h:=by
 show D.ins true CG [("row",.ins true C [("plan",(Aa true CP n true ps).fz),("held",.lst true (D.fzs (rlD n.toNat g))),("done",.lst true (D.fzs dn))]),("housed_anew",.int h)]=_;rw[qaU1,qU9];rfl
theorem qaB8{z:Bool}{g:Nat->Option Int}(h:∀ i,i < N->g i=g' i):gNe (.lst z (rlD N g)) (.lst z' (rlD N g'))=some (.bl false):=by
 rw[qk0 h];show (Eb (eqN 20) (rlD N g') (rlD N g')).map (λ x=>D.bl !x)=_;rw[Jb _ λ _=>qam4];rfl
abbrev ds62(u:V)(b:D)(full:Bool)(ks:List Int)(ps:Pr)(G:List Int)(rows f g h a c d e:D):Ds:=[.hole u,b,.bl full,.lst false (ksD ks),.lst true (prD ps),.lst false (ksD G),rows,f,g,h,a,c,d,e]
abbrev gT(a:Adr)(n:Int)(ps:Pr)(g:Nat->Option Int)(dn:Ds)(h:Int):D:=growD true a.C4 a.C5 a.C3 n ps g dn h
abbrev rT(a:Adr)(n:Int)(ps:Pr)(g:Nat->Option Int):D:=rowD false a.C5 a.C3 n true ps g []
abbrev pT(a:Adr)(n:Int)(ps:Pr):D:=Aa true a.C3 n true ps
theorem qaR8(T:Txt K mg a):Bz P w K mg base (CX1 P w) 17 a.f49 a.d49 ["_law_script"] (G1 K):=by
 refine T.d49.F.okX qo9 (λ vs H Q E h=>?_) (λ a5 A outer s H vs Q E M h=>?_)
 . obtain⟨l,ns,rfl,_⟩:=h
   rfl
 obtain⟨l,ns,rfl,hS,hl,k⟩:=h;refine⟨_,qad6 (sset 1 qo9.nd (callD T.d41 (qaI9 T) (rm M) (qh2 (pv 0) qC7))) (show VSs ⟨E,λ _=>false,List.replicate 14 none,[]⟩ (Dt (CX1 P w) P w K mg base ["_law_script", "_law_bag_here", "_law_full", "_law_keys_here", "_law_homes", "_law_goal", "_law_rows", "_law_row", "_law_size", "_law_rooms", "_law_broad", "_law_other", "_law_made", "_law_again"] "law" (qa3 Gh) a.f49 a5 A outer s H E) _ _ from(Ac (Ak 2 qo9.nd (e2v (Ba (qA1 M.u64) (qb1 _)) Dq (Aj T.d42 (qe5 T) qa0 (rm M) (vaN 1 (vaV (qa5 Af) Ad))) Af))
     (Ac (Ak 3 qo9.nd (e2v (Ah qk3) qk2 (Aj T.d46 (qaz1 T) qa0 (rm M) (vaN 1 (vaV (e2P (A7 qc1) At (qa5 (Di (qa2 Af (qa2 Af (qa2 Af (qa2 Af qa7 rfl) rfl) rfl) rfl))) (Aj T.d42 (qe5 T) qa0 (rm M) (vaN 1 (vaV (qa5 Af) Ad)))) Ad))) (Di (qa2 (vpow 1000000000000000000) qa7 rfl))))
     (Ac (Ak 3 qo9.nd (qa5 (vsl (vnm 3) vpo_n (vpo_s Af))))
     (Ac (Ak 4 qo9.nd (Hk (Aj T.d47 (qG9 T) qa0 (rm M) (vaN 1 (vaN 3 Ad)))))
     (Ac (Ak 5 qo9.nd (eslN 3 (Aj T.d42 (qe5 T) qa0 (rm M) (vaN 1 (vaV (qa5 (v2 (Ah qk3) qk2 (vbi qt1 qt0.ops T.Co (qa2 (vnm 3) qa7 rfl)) Af)) Ad)))))
     (Ac (Ak 6 qo9.nd (elst (vaV (Hk (Aj T.d48 (qK4 T) qa0 (rm M) (vaN 1 (vaN 4 (vaN 3 (vaN 5 (vaN 2 Ad))))))) (vaV (Hk (Aj T.d48 (qK4 T) qa0 (rm M) (vaN 1 (vaN 4 (vaN 3 (vaN 5 (vaV (qa5 vbl) Ad))))))) Ad))))
     (Ac (Ir PassesOwn.leaving (vpn 6) (Bi 7 qo9.nd)
     (Ac (Ak 8 qo9.nd (qm1 7 T.d39 T.C6.cl (qb3 T) qa0 (rm M)))
     (Ac (Ak 9 qo9.nd (Aj T.d45 (qK3 T) qa0 (rm M) (vaV (qa5 (Ep (qa2 (vnm 8) (qa2 vbl (qa2 (vnm 4) qa7 rfl) rfl) rfl))) (vaN 5 Ad))))
     (Ac (sif (tor (q2 (An Ef (qb1 _)) Ee (vnm 9) Bb) (tor1 (q2v (Ba (qJ9 M.u64) (qb1 _)) (An (qJ9 M.u64) (qb1 _)) F4 (qL9 T.d27 T.C8.cl (qc0 T) qa0 (rm M) (qm1 7 T.d40 T.C6.cl (qd4 T) qa0 (rm M))) (vnm 9)))).te
     (Ag (Aq (qa5 vbl)))
     Au)
     (Ac (Ak 10 qo9.nd (e2 (Ah qk3) qk2 (qa5 (vbi qt1 qt0.ops T.Co (qa2 (vnm 5) qa7 rfl))) (Aj T.d42 (qe5 T) qa0 (rm M) (vaN 1 (vaV (qa5 (v2 (Ah qC9) qC8 Af (vbi qt1 qt0.ops T.Co (qa2 (vnm 5) qa7 rfl)))) Ad)))))
     (Ac (Ak 11 qo9.nd (Hk (G6 T.C7 T.Cw T.d7 (qq0 T) qa0 (rm M) (vaV (qa5 (vbi (qt2 rfl) qM1.ops T.D0 (qa2 Af (qa2 (vnm 10) qa7 rfl) rfl))) (vaV (qa5 vbl) (vaV (qa5 (Fp qf4 qE9.ops T.Cp (qa2 (vnm 4) qa7 rfl))) Ad))))))
     (Ac (Ak 12 qo9.nd (qaM7 T.C8 T.D2 T.d26 (qv3 T) qa0 (rm M) (vaN 11 (vaV (Aj T.d45 (qK3 T) qa0 (rm M) (vaV (qa5 (Ep (qa2 (vbi (qt2 rfl) qM1.ops T.D0 (qa2 Af (qa2 (vnm 10) qa7 rfl) rfl)) (qa2 vbl (qa2 (vnm 4) qa7 rfl) rfl) rfl))) (vaN 5 Ad))) Ad))))
     (Ac (Ak 13 qo9.nd (Aj T.d34 (qk4 T) qa0 (rm M) (vaV (qm1 7 T.d40 T.C6.cl (qd4 T) qa0 (rm M)) (vaV (qa5 (vbi (qt2 rfl) qM1.ops T.D0 (qa2 Af (qa2 (vnm 10) qa7 rfl) rfl))) Ad))))
     (Ag (sif (tor (q2v (Ba (qJ9 M.u64) (qb1 _)) (An (qJ9 M.u64) (qb1 _)) F4 (qL9 T.d27 T.C8.cl (qc0 T) qa0 (rm M) (Aj T.d34 (qk4 T) qa0 (rm M) (vaN 12 (vaN 8 Ad)))) (vnm 9)) (tor1 (q2e (Ba (qJ9 M.u64) (qb1 _)) (An (qJ9 M.u64) (qb1 _)) F4 (qm1 13 T.d27 T.C8.cl (qc0 T) qa0 (rm M)) (qm1 12 T.d27 T.C8.cl (qc0 T) qa0 (rm M))))).te
     (Ag (Aq (qa5 vbl)))
     Au))))))))))
     (Ac (sif (q2e (Ba (qA1 M.u64) (qb1 _)) (An (qA1 M.u64) (qb1 _)) Dq (qM0 T.d39 T.C6.cl (qb3 T) qa0 (rm M) (vpix (vpn 6) Af)) (qM0 T.d39 T.C6.cl (qb3 T) qa0 (rm M) (vpix (vpn 6) Af)))
     (Ag (Aq (e2 (Ba (qA1 M.u64) (qb1 _)) Dq (qL9 T.d27 T.C8.cl (qc0 T) qa0 (rm M) (qM0 T.d40 T.C6.cl (qd4 T) qa0 (rm M) (vpix (vpn 6) Af))) (qL9 T.d27 T.C8.cl (qc0 T) qa0 (rm M) (qM0 T.d40 T.C6.cl (qd4 T) qa0 (rm M) (vpix (vpn 6) Af))))))
     Au)
     (Ag (Aq (qa5 vbl)))))))))))).h,?_⟩
 refine⟨_,rfl,l,ns,rfl,hS,hl,λ p L H' hp hL kp B=>?_⟩;obtain⟨x,y,z,R,B⟩:=B;refine qan8 (rest:=[]) (X:=Dt (CX1 P w) P w K mg base [] "law" (qa3 Gh) a.f49 a5 A outer s H E) (n:=12) (x:=x) (y:=y) (z:=z) (ns:=R) rfl (λ _=>rfl) rfl B.at_ B.li B.ne (λ H'=>k H') ?_;have B0:isBag R (bagD x y z R):=⟨x,y,z,rfl,B.x0,B.y0,B.y1,B.z0,B.nn⟩
 generalize bagD x y z R=b at B0;generalize V.ref l=u;refine As [.hole u,b,.unk,.unk,.unk,.unk,.unk,.unk,.unk,.unk,.unk,.unk,.unk,.unk] rfl ?_;refine qd1 (λ J=>∃ b full,J=[.hole u,b,.bl full,.unk,.unk,.unk,.unk,.unk,.unk,.unk,.unk,.unk,.unk,.unk]/\isBag R b) (λ K Z=>?_) ?_
 . exact qg2 (qF2 (qe1 rfl B0 rfl (by decide) (by decide) λ v b' v0 v1 B'=>qa1 (a:=D.bl (v == 1)) rfl (Z _ ⟨b',_,rfl,B'⟩)))
 rintro J ⟨b,full,rfl,B⟩;refine qd1 (λ J=>∃ b o,J=[.hole u,b,.bl full,.lst false (ksD o),.unk,.unk,.unk,.unk,.unk,.unk,.unk,.unk,.unk,.unk]/\isBag R b/\o.Nodup/\(∀ k∈o,Al k)/\o≠[]) (λ K Z=>?_) ?_
 . refine qg2 (qF2 (qh5 (qb6 (x:=b) (qh1 rfl B.known) (qh6 (qal5 (x:=.lst false [.int 12,.int 30,.int 64,.int 64]) rfl ?_)))))
   refine qe1 (ds:=[.hole u,b,.bl full,.unk,.unk,.unk,.unk,.unk,.unk,.unk,.unk,.unk,.unk,.unk]) (m:=4) rfl B rfl (by decide) (by decide) λ v b' v0 v1 B'=>?_
   obtain⟨m,em,m0,m1⟩:=qau3 (P:=λ v=>0<=v/\v<=64) v0 v1 (x:=12) (y:=30) (z:=64) (w:=64) (by decide) (by decide) (by decide) (by decide);refine qa1 em (qb4 (qa1 (a:=b') (qh1 rfl B'.known) ⟨b',m,R,rfl,B',m0,m1,λ b2 o B2 nd hk a4=>?_⟩));refine qa1 (a:=[.hole u,b2,.bl full,.unk,.unk,.unk,.unk,.unk,.unk,.unk,.unk,.unk,.unk,.unk]) rfl (qa1 (a:=D.lst false (ksD (o++[1000000000000000000]))) ?_ (Z _ ⟨b2,_,rfl,B2,?_,?_,?_⟩))
   . rw[<- qU1]
     exact qk7 ⟨qh9 _,rfl,by rw[qh7];show _+1<=1000000;lia⟩
   . refine zBo.mpr ⟨nd,(by simp),λ x hx y hy e=>?_⟩
     have:=hk x hx
     rw[e,zAe.mp hy] at this;lia
   . intro x hx
     rcases zAa.mp hx with h | h
     . have:=hk x h
       exact⟨by lia,by lia⟩
     rw[zAe.mp h];exact⟨by decide,by decide⟩
   simp
 rintro J ⟨b,o,rfl,B,a3,hk,ne⟩;refine qb0 [.hole u,b,.bl full,.lst false (ksD (o.take 64)),.unk,.unk,.unk,.unk,.unk,.unk,.unk,.unk,.unk,.unk] (λ K Z=>qy5 (d:=.lst false (ksD (o.take 64))) (qaB4 (z:=false) (by decide)) Z) ?_;have a4:(o.take 64).length<=64:=by rw[zBp];lia
 replace ne:o.take 64≠[]:=λ h=>ne (by cases o with | nil=>rfl | cons=>cases h)
 replace hk:∀ k∈o.take 64,Al k:=λ x hx=>hk x (List.mem_of_mem_take hx)
 replace a3:=a3.sublist (List.take_sublist 64 o)
 generalize o.take 64=o at *
 refine qd1 (λ J=>∃ b f,J=[.hole u,b,.bl full,.lst false (ksD o),.lst true (prD f),.unk,.unk,.unk,.unk,.unk,.unk,.unk,.unk,.unk]/\isBag R b/\qx5 f) (λ K Z=>?_) ?_
 . refine qg2 (Fl (qh5 (qb6 (x:=b) (qh1 rfl B.known) (qb6 (x:=.lst false (ksD o)) rfl (qb4 (qa1 (a:=D.lst false (ksD o)) rfl (qa1 (a:=b) (qh1 rfl B.known) ⟨b,false,o,R,rfl,B,a3,hk,a4,λ b' f B' Gp=>?_⟩)))))))
   refine qa1 (a:=[.hole u,b',.bl full,.lst false (ksD o),.unk,.unk,.unk,.unk,.unk,.unk,.unk,.unk,.unk,.unk]) rfl ?_;have e:(D.lst false (prD f)).fz=.lst true (prD f):=congrArg (D.lst true) (qai3 f);rw[e];exact Z _ ⟨b',f,rfl,B',Gp⟩
 rintro J ⟨b,f,rfl,B,Gp⟩;refine qd1 (λ J=>∃ b G,J=ds62 u b full o f G .unk .unk .unk .unk .unk .unk .unk .unk/\isBag R b/\G.Sublist o) (λ K Z=>?_) ?_
 . refine qg2 ⟨rfl,qe1 (ds:=[.hole u,b,.bl full,.lst false (ksD o),.lst true (prD f),.unk,.unk,.unk,.unk,.unk,.unk,.unk,.unk,.unk]) (m:=(o.length:Nat)+1) rfl B (Ae (x:=.int (o.length:Nat)) (y:=.int 1) (by rw[qq4 (ys:=ksD o) (z:=false) rfl,qh7]) rfl rfl) (by lia) (by lia) λ v b' v0 v1 B'=>?_⟩
   exact qa1 (a:=v) rfl (qa1 (a:=D.lst false (ksD (o.take v.toNat))) (qaB4 (z:=false) v0) (Z _ ⟨b',_,rfl,B',List.take_sublist _ _⟩))
 rintro J ⟨b,G,rfl,B,hG⟩;have a6:=a3.sublist hG;have lG:=hG.length_le;have a2:∀ k∈G,Al k:=λ x hx=>hk x (hG.subset hx)
 obtain⟨lg,a8⟩:∃ lg:Int,lg=(G.length:Nat):=⟨_,rfl⟩
 refine qd1 (λ J=>∃ b U g0 W h0 n1 g1 Y h1,J=ds62 u b full o f G (.lst false [gT a U f g0 W h0,gT a n1 f g1 Y h1]) .unk .unk .unk .unk .unk .unk .unk/\isBag R b/\(1<=U/\U<=64/\Kept U.toNat true (hmOf U f) g0 G)/\(1<=n1/\n1<=64/\Kept n1.toNat true (hmOf n1 f) g1 G)) (λ K Z=>?_) ?_
 . have pw:∀{n:Int},Bu n->1<=n/\n<=64:=λ h=>by unfold Bu at h;lia
   refine qg2 (qZ8 (qh6 (Fl (qh5 (qb6 (x:=b) (qh1 rfl B.known) (qb6 (x:=.lst true (prD f)) rfl (qb6 (x:=.lst false (ksD o)) rfl (qb6 (x:=.lst false (ksD G)) rfl (qb6 (x:=.bl full) rfl (qb4 (qa1 (a:=D.bl full) rfl (qa1 (a:=D.lst false (ksD G)) rfl (qa1 (a:=D.lst false (ksD o)) rfl (qa1 (a:=D.lst true (prD f)) rfl (qa1 (a:=b) (qh1 rfl B.known) ⟨b,R,f,o,G,full,rfl,B,Gp,a3,hk,ne,a4,hG,?_⟩)))))))))))))));intro b0 U g0 W h0 S0 B0 p0 K0 q0;refine qa1 (a:=ds62 u b0 full o f G .unk .unk .unk .unk .unk .unk .unk .unk) rfl ?_;rw[qau2];refine qh6 (Fl (qh5 (qb6 (x:=b0) (qh1 rfl B0.known) (qb6 (x:=.lst true (prD f)) rfl (qb6 (x:=.lst false (ksD o)) rfl (qb6 (x:=.lst false (ksD G)) rfl (qc4 (y:=.bl false) rfl (qb4 (qa1 (a:=D.lst false (ksD G)) rfl (qa1 (a:=D.lst false (ksD o)) rfl (qa1 (a:=D.lst true (prD f)) rfl (qa1 (a:=b0) (qh1 rfl B0.known) ⟨b0,R,f,o,G,false,rfl,B0,Gp,a3,hk,ne,a4,hG,?_⟩))))))))))));intro b1 n1 g1 Y h1 S1 B1 p1 K1 q1;refine qa1 (a:=ds62 u b1 full o f G .unk .unk .unk .unk .unk .unk .unk .unk) rfl ?_;rw[qau2];exact qb4 ⟨by show 2<=1000000;decide,Z _ ⟨b1,U,g0,_,h0,n1,g1,_,h1,rfl,B1,⟨(pw p0).1,(pw p0).2,K0.of_perm q0⟩,⟨(pw p1).1,(pw p1).2,K1.of_perm q1⟩⟩⟩
 rintro J ⟨b,U,g0,W,h0,n1,g1,Y,h1,rfl,B,a0,a1⟩;refine qd1 (λ J=>∃ b d7 d8 d9 O N C t,J=ds62 u b full o f G (.lst false [gT a U f g0 W h0,gT a n1 f g1 Y h1]) d7 d8 d9 O N C t) (λ K Z=>?_) ?_
 . refine qa1 (a:=(6,[])) rfl (qa1 (a:=D.lst false [gT a U f g0 W h0,gT a n1 f g1 Y h1]) rfl (qa1 (a:=[gT a U f g0 W h0,gT a n1 f g1 Y h1]) rfl ⟨rfl,λ w=>?_⟩))
   refine qg1 (λ _ J=>∃ b d7 d8 d9 O N C t,J=ds62 u b full o f G (.hole w) d7 d8 d9 O N C t/\isBag R b) _ 0 _ ⟨b,_,_,_,_,_,_,_,rfl,B⟩ ?_ ?_
   . rintro i y hy J ⟨b,d7,d8,d9,O,N,C,t,rfl,B⟩ K2 a9
     obtain⟨n,g,S,h,rfl,n1,n2,KP⟩:∃ n g S h,y=gT a n f g S h/\1<=n/\n<=64/\Kept n.toNat true (hmOf n f) g G:=by
       rcases i with _ | _ | i
       . exact⟨U,g0,W,h0,(Option.some.inj hy).symm,a0⟩
       . exact⟨n1,g1,Y,h1,(Option.some.inj hy).symm,a1⟩
       cases hy
     refine qx4 (As (ds62 u b full o f G (.hole w) (gT a n f g S h) d8 d9 O N C t) rfl ?_);refine qb0 (ds62 u b full o f G (.hole w) (gT a n f g S h) (.int n) d9 O N C t) (λ K Z=>qg2 (qH4 (p:=gT a n f g S h) (d:=.int n) rfl (qe7 rfl) ⟨true,n,f,g,S,h,rfl,rfl⟩ rfl Z)) ?_;refine qb0 (ds62 u b full o f G (.hole w) (gT a n f g S h) (.int n) (D.lst false (rlD n.toNat g)) O N C t) (λ K Z=>qg2 (qh5 (qc4 (y:=Aw n true f) rfl (qb6 (x:=.lst false (ksD G)) rfl (qb4 (qa1 (a:=D.lst false (ksD G)) rfl ⟨n,true,f,false,G,rfl,n1,n2,Gp.nd,a6,by lia,λ ⟨q,c⟩=>absurd c (KP.no_crowd q),λ _ g' K'=>?_⟩)))))) ?_
     . refine qa1 (a:=ds62 u b full o f G (.hole w) (gT a n f g S h) (.int n) d9 O N C t) rfl ?_
       rw[qk0 (K'.same KP λ _=>Iff.rfl)];exact Z
     refine qj0 false (λ Q q=>qab2 false false (λ Q q=>ql3 (b:=false) (Ae rfl rfl rfl) q) (λ _ Q q=>qY8 ?_) q) (λ h=>(nomatch h)) λ _=>?_
     . refine qx1 (p:=gT a n f g S h) rfl (qe7 rfl) (qb4 (qa1 (a:=gT a n f g S h) rfl ⟨n,f,g,S,h,G,rfl,n1,n2,Gp,a2,KP,qa1 (a:=ds62 u b full o f G (.hole w) (gT a n f g S h) (.int n) (D.lst false (rlD n.toNat g)) O N C t) rfl ⟨qh4 rfl,_,⟨false,n,true,f,g,[],rfl,rfl⟩,qa1 (a:=ds62 u b full o f G (.hole w) (gT a n f g S h) (.int n) (D.lst false (rlD n.toNat g)) O N C t) rfl (qa1 (a:=D.bl false) (qaB8 λ _ _=>rfl) (qa1 (a:=false) rfl q))⟩⟩))
     refine qd1 (λ J=>∃ b br I,J=ds62 u b full o f G (.hole w) (gT a n f g S h) (.int n) (D.lst false (rlD n.toNat g)) (.int br) N C t/\isBag R b/\G5 (.int 1) (.int br)=some (.int I)/\1<=I/\I<=64/\G.length<=I.toNat) (λ K Z=>?_) ?_
     . have el:A8 (fx1 F5) (Ay (rdN 5) λ _=>some []) (ds62 u b full o f G (.hole w) (gT a n f g S h) (.int n) (D.lst false (rlD n.toNat g)) O N C t)=some (.int lg):=by rw[qq4 (ys:=ksD G) (z:=false) rfl,qh7,a8]
       refine qg2 (qal5 el (qe1 (ds:=ds62 u b full o f G (.hole w) (gT a n f g S h) (.int n) (D.lst false (rlD n.toNat g)) O N C t) (m:=65 - lg) rfl B (Ae (x:=.int 65) (y:=.int lg) rfl el rfl) (by lia) (by lia) λ v b' v0 v1 B'=>?_));exact qa1 (a:=D.int (lg+v)) rfl (Z _ ⟨b',lg+v,if lg+v > 1 then lg+v else 1,rfl,B',rfl,by split<;>lia,by split<;>lia,by split<;>lia⟩)
     rintro J ⟨b,br,I,rfl,B,b3,m1,m2,a7⟩;have fm:∀{J:Ds},rdN 10 J=some (.int br)->A8 (fx2 G5) (Ay (kC (.int 1)) (Ay (rdN 10) λ _=>some [])) J=some (.int I):=λ e=>by
       unfold A8 Ay;rw[e];exact b3
     refine qb0 (ds62 u b full o f G (.hole w) (gT a n f g S h) (.int n) (D.lst false (rlD n.toNat g)) (.int br) (pT a I f) C t) (λ K Z=>qg2 (Fl (qE2 (qc4 (y:=.int I) (fm rfl) (qc4 (y:=.bl true) rfl (qc4 (y:=.lst false (prD f)) (qag1 (z:=true)) (qb4 ⟨I,true,false,f,rfl,m1,m2,Gp,rfl,?_⟩))))))) ?_
     . show K (List.set _ 11 (Aa false a.C3 I true f).fz)
       rw[qU9];exact Z
     refine qd1 (λ J=>∃ gm,J=ds62 u b full o f G (.hole w) (gT a n f g S h) (.int n) (D.lst false (rlD n.toNat g)) (.int br) (pT a I f) (rT a I f gm) t/\Kept I.toNat true (hmOf I f) gm G) (λ K Z=>qg2 (qE2 (qb6 (x:=pT a I f) rfl (qh6 (qh5 (qc4 (y:=Aw I true f) ?_ (qb6 (x:=.lst false (ksD G)) rfl (qb4 (qa1 (a:=D.lst false (ksD G)) rfl ⟨I,true,f,false,G,rfl,m1,m2,Gp.nd,a6,by lia,λ ⟨q,c⟩=>absurd c (qT1 a7 q),λ _ gm Km=>qa1 (a:=ds62 u b full o f G (.hole w) (gT a n f g S h) (.int n) (D.lst false (rlD n.toNat g)) (.int br) (pT a I f) C t) rfl (qb4 (qa1 (a:=pT a I f) rfl ⟨I,true,f,_,gm,G,rfl,m1,m2,a2,Km,.inr ⟨false,rfl⟩,rfl,Z _ ⟨gm,rfl,Km⟩⟩))⟩))))))))) ?_
     . rw[show A8 gTup _ _=((Ay _ _ _).bind gTup:Option D) from rfl,show Ay (A8 (fx2 G5) (Ay (kC (.int 1)) (Ay (rdN 10) λ _=>some []))) _ (ds62 u b full o f G (.hole w) (gT a n f g S h) (.int n) (D.lst false (rlD n.toNat g)) (.int br) (pT a I f) C t)=(Option.bind (A8 _ _ _) _:Option Ds) from rfl,fm rfl]
       rfl
     rintro J ⟨gm,rfl,Km⟩;refine qb0 (ds62 u b full o f G (.hole w) (gT a n f g S h) (.int n) (D.lst false (rlD n.toNat g)) (.int br) (pT a I f) (rT a I f gm) (rT a I f gm)) (λ K Z=>qg2 (qh5 (qh6 (qx1 (p:=gT a n f g S h) rfl (qe7 rfl) (qb4 (qa1 (a:=gT a n f g S h) rfl ⟨n,f,g,S,h,G,rfl,n1,n2,Gp,a2,KP,qa1 (a:=ds62 u b full o f G (.hole w) (gT a n f g S h) (.int n) (D.lst false (rlD n.toNat g)) (.int br) (pT a I f) (rT a I f gm) t) rfl (qc4 (y:=.int I) (fm rfl) (qb4 ⟨false,n,true,f,g,[],G,I,rfl,n2,m1,m2,Gp,a2,KP,qT1 a7,λ g' K'=>qa1 (a:=ds62 u b full o f G (.hole w) (gT a n f g S h) (.int n) (D.lst false (rlD n.toNat g)) (.int br) (pT a I f) (rT a I f gm) t) rfl ?_⟩))⟩)))))) ?_
     . rw[qJ5 (K'.same Km λ _=>Iff.rfl)]
       exact Z
     refine if_of false (λ Q q=>qab2 false false (λ Q q=>qY8 ?_) (λ _ Q q=>qaF7 ?_) q) (λ h=>(nomatch h)) λ _=>a9 _ ⟨b,_,_,_,_,_,_,_,rfl,B⟩
     . exact qaN3 (x:=rT a I f gm) (y:=.int n) rfl rfl rfl ⟨false,I,true,f,gm,[],G,n,rfl,m2,n1,n2,Gp,a2,Km,KP.no_crowd,λ g' K'=>qa1 (a:=ds62 u b full o f G (.hole w) (gT a n f g S h) (.int n) (D.lst false (rlD n.toNat g)) (.int br) (pT a I f) (rT a I f gm) (rT a I f gm)) rfl ⟨qh4 rfl,_,⟨false,n,true,f,g',[],rfl,rfl⟩,qa1 (a:=ds62 u b full o f G (.hole w) (gT a n f g S h) (.int n) (D.lst false (rlD n.toNat g)) (.int br) (pT a I f) (rT a I f gm) (rT a I f gm)) rfl (qa1 (a:=D.bl false) (qaB8 (K'.same KP λ _=>Iff.rfl)) (qa1 (a:=false) rfl q))⟩⟩
     exact qH4 (p:=rT a I f gm) rfl (qh4 rfl) ⟨false,I,true,f,gm,[],rfl,rfl⟩ rfl (qH4 (p:=rT a I f gm) rfl (qh4 rfl) ⟨false,I,true,f,gm,[],rfl,rfl⟩ rfl (qa1 (a:=D.bl false) (qaB8 λ _ _=>rfl) (qa1 (a:=false) rfl q)))
   rintro J ⟨b,d7,d8,d9,O,N,C,t,rfl,B⟩;exact qa1 (qaj7 rfl) (Z _ ⟨b,d7,d8,d9,O,N,C,t,rfl⟩)
 rintro J ⟨b,d7,d8,d9,O,N,C,t,rfl⟩;have back:∀{j:Nat}{w:V}{J:Ds}{r:D},A4 J 6 [j]=some r->A4 (Bc J 6 [j] (.hole w)) 6 [j]=some (.hole w)->Bc (Bc J 6 [j] (.hole w)) 6 [j] r=J->Am [.pl 6 [j] w] [r] (Bc J 6 [j] (.hole w))=some J:=λ _ h2 h3=>by rw[qm6 h2,h3];rfl
 refine qaB2 (qaF7 (ql9 (i:=6) (p:=[0]) (d:=gT a U f g0 W h0) rfl rfl (qe7 rfl) λ w=>qb4 ⟨.int U,⟨true,U,f,g0,W,h0,rfl,rfl⟩,qa1 (back rfl rfl rfl) ?_⟩));refine ql9 (i:=6) (p:=[1]) (d:=gT a n1 f g1 Y h1) rfl rfl (qe7 rfl) λ w=>qb4 ⟨.int n1,⟨true,n1,f,g1,Y,h1,rfl,rfl⟩,qa1 (back rfl rfl rfl) (qa1 (a:=D.bl (U == n1)) rfl (qa1 (a:=U == n1) rfl (ite_b (λ e=>?_) λ _=>rfl)))⟩
 replace e:=eq_of_beq e
 subst e;refine qh0 (qal6 (ql9 (i:=6) (p:=[0]) (d:=gT a U f g0 W h0) rfl rfl (qe7 rfl) λ w=>qb4 ⟨U,f,g0,W,h0,G,rfl,a0.1,a0.2.1,Gp,a2,a0.2.2,qa1 (back rfl rfl rfl) ⟨qh4 rfl,_,⟨false,U,true,f,g0,[],rfl,rfl⟩,qa1 (a:=ds62 u b full o f G (.lst false [gT a U f g0 W h0,gT a U f g1 Y h1]) d7 d8 d9 O N C t) rfl ?_⟩⟩));refine ql9 (i:=6) (p:=[1]) (d:=gT a U f g1 Y h1) rfl rfl (qe7 rfl) λ w=>qb4 ⟨U,f,g1,Y,h1,G,rfl,a0.1,a0.2.1,Gp,a2,a1.2.2,qa1 (back rfl rfl rfl) ⟨qh4 rfl,_,⟨false,U,true,f,g1,[],rfl,rfl⟩,qa1 (a:=ds62 u b full o f G (.lst false [gT a U f g0 W h0,gT a U f g1 Y h1]) d7 d8 d9 O N C t) rfl ?_⟩⟩
 exact qa1 (a:=D.bl true) (qaU0 (a0.2.2.same a1.2.2 λ _=>Iff.rfl)) rfl
end
theorem dfX{K:W.Frag}{mg:Str->Option Value}{x qual:Str}{st:Stmt}{f:Addr}{ps:List Str}{oc:Value}{n g:Option Addr}{m:Array (Option Value)}{kV e i d j:Value}{h:Heap}(X:K.In h)(G:h.Ns mainGlobals mg)(a:W.nsIn K mainGlobals x=some (some (.ref f)))(l:K.lookup f=some ⟨oc,n,.func (W.fnOf x qual (qf1 st) (qc9 st) (qa3 st) .none kV e i g d j),m⟩)(c:W.codeIn K d qual=true)(k:W.keepIn K (.ref f)=true)(b:∀(kV e i:Value)(g:Option Addr)(d j:Value)(us:List Value),us.length=ps.length->bindArgs (W.fnOf x qual (qf1 st) (qc9 st) (qa3 st) .none kV e i g d j) ⟨us,[]⟩=pure (ps.zip us)) :
 Df K mg x qual st f (W.fnOf x qual (qf1 st) (qc9 st) (qa3 st) .none kV e i g d j) ps:=dfmk l c k (W.mg_of X G a) b
theorem qaW1{l:W.OpenLaw}{w:World}{K:W.Frag}{mg:Str->Option Value}{fa f0 f1 f2 f3 f4 f5 f6 f7 f8 f9 f g h i j n o p q r t u x y z A c B C D E F G H I d J L M N O P Q R S T U V X e9 C0 C1 C2:Addr}{d0 d1 d2 d3 d4 d5 d6 d7 d8 d9 Y Z a0 a1 a2 a3 a4 a5 a6 a7 a8 a9 b0 b1 b2 b3 b4 b5 b6 b7 b8 b9 c0 c1 c2 c3 c4 c5 c6 c7 c8 c9 e0 e1 e3 e4 e5 e6 e7 b:FuncData}{Ch Ck Cj Ci:Tok}(g0:mg "law" = some (.ref fa))(j0:Df K mg "_wall" "_wall" qar5 f0 d0 ["k"])(j1:Df K mg "is_whole" "is_whole" qz0 f1 d1 ["thing"])(j2:Df K mg "is_whole_within" "is_whole_within" qf7 f2 d2 ["thing", "least", "most"])(j3:Df K mg "is_number" "is_number" qu7 f3 d3 ["thing"])(j4:Df K mg "are_parted" "are_parted" qp3 f4 d4 ["numbers"])(j5:Df K mg "is_number_pair" "is_number_pair" qg8 f5 d5 ["thing"])(j6:Df K mg "is_home_list" "is_home_list" qj5 f6 d6 ["thing"])(j7:Md K C0 "__init__" "Plan.__init__" qv1 f7 d7 ["self", "rooms", "wraps", "homes"])(j8:Md K C0 "homes_told" "Plan.homes_told" qf8 f8 d8 ["self"])(j9:Md K C0 "is_room" "Plan.is_room" qj7 f9 d9 ["self", "thing"])(g1:Md K C0 "home" "Plan.home" qv2 f Y ["self", "key"])(g2:Md K C0 "far" "Plan.far" qz6 g Z ["self", "key", "room"])(g3:Md K C0 "goes_ahead" "Plan.goes_ahead" qf9 h a0 ["self", "room", "one", "other"])(g4:Df K mg "room_ahead" "room_ahead" qp2 i a1 ["plan", "room"])(g5:Df K mg "word_by_room_ahead" "word_by_room_ahead" qd8 j a2 ["plan", "rooms", "room"])(g6:Df K mg "word_due" "word_due" qy9 n a3 ["plan", "rooms", "room"])(g7:Df K mg "is_turned" "is_turned" qu6 o a4 ["plan", "rooms"])(g8:Df K mg "fault_of" "fault_of" qz1 p a5 ["plan", "rooms"])(g9:Df K mg "are_crowd" "are_crowd" qv0 q a6 ["plan", "keys", "room"])(h0:Df K mg "crowded_room" "crowded_room" qj6 r a7 ["plan", "keys"])(h1:Df K mg "refuse_crowd" "refuse_crowd" qj4 t a8 ["plan", "keys"])(h2:Df K mg "bring_in" "bring_in" qz2 u a9 ["plan", "rooms", "key"])(h3:Df K mg "house_all" "house_all" qu8 x b0 ["plan", "keys"])(h4:Df K mg "room_behind" "room_behind" ql5 y b1 ["plan", "room"])(h5:Df K mg "is_drawn_from" "is_drawn_from" qi1 z b2 ["plan", "rooms", "room"])(h6:Df K mg "draw_back" "draw_back" qu9 A b3 ["plan", "rooms", "room"])(h7:MdN K C1 "__init__" "Row.__init__" qz5 c b4 ["self", "plan", "rooms"])(h8:Md K C1 "rooms_held" "Row.rooms_held" qg9 B b5 ["self"])(h9:Md K C1 "keys_held" "Row.keys_held" qi2 C b6 ["self"])(i0:Md K C1 "many" "Row.many" qz4 D b7 ["self"])(i1:Md K C1 "room_of" "Row.room_of" ql6 E b8 ["self", "key"])(i2:Md K C1 "put" "Row.put" qG3 F b9 ["self", "key"])(i3:Md K C1 "take" "Row.take" qz3 G c0 ["self", "key"])(i4:Df K mg "row_of_keys" "row_of_keys" ql4 H c1 ["plan", "keys"])(i5:Df K mg "row_sized" "row_sized" qu5 I c2 ["row", "rooms"])(i6:Md K C2 "__init__" "Growing.__init__" qj9 d c3 ["self", "homes"])(i7:Md K C2 "house_anew" "Growing.house_anew" qd9 J c4 ["self", "rooms"])(i8:Md K C2 "put" "Growing.put" ql8 L c5 ["self", "key"])(i9:Md K C2 "take" "Growing.take" qj8 M c6 ["self", "key"])(k0:Md K C2 "rooms_now" "Growing.rooms_now" qe3 N c7 ["self"])(k1:Md K C2 "row_now" "Growing.row_now" qg0 O c8 ["self"])(k2:Df K mg "_law_bag" "_law_bag" qaw8 P c9 ["_law_script"])(k3:Df K mg "_law_take" "_law_take" qad1 Q e0 ["_law_bag_here", "_law_many"])(k4:Df K mg "_law_home" "_law_home" qad3 R e1 ["_law_plan", "_law_key"])(k5:Df K mg "_law_passing" "_law_passing" qz7 S e3 ["_law_plan", "_law_keys_here"])(k6:Df K mg "_law_housed" "_law_housed" qG4 T e4 ["_law_plan", "_law_keys_here"])(k7:Df K mg "_law_keys" "_law_keys" qad2 U e5 ["_law_bag_here", "_law_many"])(k8:Df K mg "_law_told_homes" "_law_told_homes" ql7 V e6 ["_law_bag_here", "_law_keys_here"])(k9:Df K mg "_law_filled" "_law_filled" qG5 X e7 ["_law_bag_here", "_law_homes", "_law_keys_here", "_law_goal", "_law_full"])(e8:Df K mg "law" "law" Gh e9 b ["_law_script"])(l0:mg "MOST_NUMBER" = some (.int 1000000000000000000 Ch))(l1:mg "MOST_ROOMS" = some (.int 64 Ck))(l2:mg "MOST_HOMES" = some (.int 64 Cj))(l3:mg "LEAST_ROOMS" = some (.int 4 Ci))(l4:mg "abs" = none)(l5:mg "all" = none)(l6:mg "bool" = none)(l7:mg "dict" = none)(l8:mg "enumerate" = none)(l9:mg "int" = none)(m0:mg "isinstance" = none)(m1:mg "len" = none)(m2:mg "list" = none)(m3:mg "max" = none)(m4:mg "range" = none)(m5:mg "set" = none)(m6:mg "sorted" = none)(m7:mg "tuple" = none)(m8:Cl K mg "Plan" C0)(m9:Mk K C0 f7)(n0:qe9 K C0 "rooms")(n1:qe9 K C0 "wraps")(n2:qe9 K C0 "homes")(n3:qe9 K C0 "home_numbers")(n4:IsO K C0)(n5:Cl K mg "Row" C1)(n6:Mk K C1 c)(n7:qe9 K C1 "plan")(n8:qe9 K C1 "held")(n9:qe9 K C1 "done")(o0:IsO K C1)(o1:Cl K mg "Growing" C2)(o2:Mk K C2 d)(o3:qe9 K C2 "row")(o4:qe9 K C2 "housed_anew")(hb:∀(s:Shared)(v:Value),BindsTo s b ⟨[v],[]⟩ [("_law_script",v)]):∃ fd:FuncData,(∀(s:Shared)(v:Value),BindsTo s fd ⟨[v],[]⟩ [("_law_script",v)])/\∀ base:Heap,K.In base->base.Ns mainGlobals mg->Bz l.prog w K mg base (CX1 l.prog w) 17 fa fd ["_law_script"] (G1 K):=by
 have e:=g0.symm.trans e8.m;injection e with e
 injection e with e
 subst e;exact⟨b,hb,λ base _ _=>qaR8 (a:=⟨f0,d0,f1,d1,f2,d2,f3,d3,f4,d4,f5,d5,f6,d6,f7,d7,f8,d8,f9,d9,f,Y,g,Z,h,a0,i,a1,j,a2,n,a3,o,a4,p,a5,q,a6,r,a7,t,a8,u,a9,x,b0,y,b1,z,b2,A,b3,c,b4,B,b5,C,b6,D,b7,E,b8,F,b9,G,c0,H,c1,I,c2,d,c3,J,c4,L,c5,M,c6,N,c7,O,c8,P,c9,Q,e0,R,e1,S,e3,T,e4,U,e5,V,e6,X,e7,fa,b,Ch,Ck,Cj,Ci,C0,C1,C2⟩) ⟨j0,j1,j2,j3,j4,j5,j6,j7,j8,j9,g1,g2,g3,g4,g5,g6,g7,g8,g9,h0,h1,h2,h3,h4,h5,h6,h7,h8,h9,i0,i1,i2,i3,i4,i5,i6,i7,i8,i9,k0,k1,k2,k3,k4,k5,k6,k7,k8,k9,e8,l0,l1,l2,l3,l4,l5,l6,l7,l8,l9,m0,m1,m2,m3,m4,m5,m6,m7,m8,m9,n0,n1,n2,n3,n4,n5,n6,n7,n8,n9,o0,o1,o2,o3,o4⟩⟩
theorem walk{l:W.OpenLaw}{q:Program}{loose:List Str}{XP:(Str->Option Value)->Heap->Prop}{YP:World->Heap->Prop}{d:DefRec}{K:Params->W.Frag}(c:l.most=some 63)(b:d.params.defaults=[])(e:∀(w:World)(h:Heap),YP w h->(K w.params).In h)(F:∀(w:World)(mg:Str->Option Value)(fa:Addr)(h:Heap),(K w.params).In h->h.Ns mainGlobals mg->mg d.name=some (.ref fa) ->
 ∃ fd:FuncData,(∀(s:Shared)(u:Value),BindsTo s fd ⟨[u],[]⟩ [("_law_script",u)])/\∀ base:Heap,(K w.params).In base->base.Ns mainGlobals mg->Bz l.prog w (K w.params) mg base (CX1 l.prog w) 17 fa fd ["_law_script"] (G1 (K w.params))) :
 W.WalkO q loose XP YP l.row.toRowW d [] (λ f vs=>PySem.call f vs) :=
 L2.qaD3 (n:=63) (k:=17) (x := "_law_script") (CX:=λ w=>CX1 l.prog w) (sp:=λ w=>G1 (K w.params)) c (by decide) b ⟨rfl,by decide,by decide⟩ e F (λ _ _ a g i _ j=>⟨a,g,rfl,j,i,λ _=>rfl⟩) λ _ _ _ _ _ ⟨_,_,_,_,_,_,_,_,z⟩=>z
end LV.My
open PySem PySem.W PyProof.Rows L2
local macro_rules | `(tactic| walk_at "u")=>`(tactic| (intro _ _ _ _ _ _;repeat' first | exact LV.ec0 (rfl) | refine LV.ec1 λ _=>?_))
local macro_rules | `(tactic| walk_at "d")=>`(tactic| (refine' LV.My.dfX (by assumption) (by assumption) ?a ?l ?c ?k ?b;(case a | l | c | k=>k_is);(case b=>walk_at "u")))
local macro_rules | `(tactic| walk_at "e")=>`(tactic| (refine' mdmk ?l ?c ?k ?a ?i ?b;(case a | i | l | c | k=>k_is);(case b=>walk_at "u")))
local macro_rules | `(tactic| walk_at "c")=>`(tactic| (refine' mg_of (by assumption) (by assumption) ?a;k_is))
local macro_rules | `(tactic| walk_at "z")=>`(tactic| (refine' mg_none_of (by assumption) (by assumption) ?a;k_is))
local macro_rules | `(tactic| walk_at "q")=>`(tactic| (first | k_is | kernel_rfl | rfl))
local macro_rules | `(tactic| walk_at "n")=>`(tactic| (show findIn _ _ _=some none;k_is))
theorem PySem.Challenge.cw_homeward_k62_whole_as_built_anew_holds : PySem.Challenge.rw_homeward_k62_whole_as_built_anew.Holds := by
 w_on;o_law;k_head;(case hw=>w_witness2)
 k_fill
 refine LV.My.walk (l:=PySem.Challenge.rw_homeward_k62_whole_as_built_anew) rfl rfl (λ w h Y=>PySem.W.kIn_of Y) ?F
 case F =>
 intro w g j h KX G f;refine' LV.My.qaW1 f ?j0 ?j1 ?j2 ?j3 ?j4 ?j5 ?j6 ?j7 ?j8 ?j9 ?j10 ?j11 ?j12 ?j13 ?j14 ?j15 ?j16 ?j17 ?j18 ?j19 ?j20 ?j21 ?j22 ?j23 ?j24 ?j25 ?j26 ?j27 ?j28 ?j29 ?j30 ?j31 ?j32 ?j33 ?j34 ?j35 ?j36 ?j37 ?j38 ?j39 ?j40 ?j41 ?j42 ?j43 ?j44 ?j45 ?j46 ?j47 ?j48 ?j49 ?j50 ?j51 ?j52 ?j53 ?j54 ?j55 ?j56 ?j57 ?j58 ?j59 ?j60 ?j61 ?j62 ?j63 ?j64 ?j65 ?j66 ?j67 ?j68 ?j69 ?j70 ?j71 ?j72 ?j73 ?j74 ?j75 ?j76 ?j77 ?j78 ?j79 ?j80 ?j81 ?j82 ?j83 ?j84 ?hb
 case j50=>walk_at "c"
 case j51=>walk_at "c"
 case j52=>walk_at "c"
 case j53=>walk_at "c"
 case j68=>refine' ⟨⟨?_,?_,?_,?_⟩,mg_of (by assumption) (by assumption) ?a⟩;(case a=>k_is);k_is;k_is;k_is;k_is
 case j75=>refine' ⟨⟨?_,?_,?_,?_⟩,mg_of (by assumption) (by assumption) ?a⟩;(case a=>k_is);k_is;k_is;k_is;k_is
 case j81=>refine' ⟨⟨?_,?_,?_,?_⟩,mg_of (by assumption) (by assumption) ?a⟩;(case a=>k_is);k_is;k_is;k_is;k_is
 case j0=>walk_at "d"
 case j1=>walk_at "d"
 case j2=>walk_at "d"
 case j3=>walk_at "d"
 case j4=>walk_at "d"
 case j5=>walk_at "d"
 case j6=>walk_at "d"
 case j7=>walk_at "e"
 case j8=>walk_at "e"
 case j9=>walk_at "e"
 case j10=>walk_at "e"
 case j11=>walk_at "e"
 case j12=>walk_at "e"
 case j13=>walk_at "d"
 case j14=>walk_at "d"
 case j15=>walk_at "d"
 case j16=>walk_at "d"
 case j17=>walk_at "d"
 case j18=>walk_at "d"
 case j19=>walk_at "d"
 case j20=>walk_at "d"
 case j21=>walk_at "d"
 case j22=>walk_at "d"
 case j23=>walk_at "d"
 case j24=>walk_at "d"
 case j25=>walk_at "d"
 case j26=>refine' LV.mdmkN ?l ?c ?k ?a ?i ?t ?b ?bn;(case a | i | l | c | k | t=>k_is);(case b=>intro _ _ _ _ _ _;repeat' first | exact LV.ec0 (⟨_,rfl,rfl⟩) | refine LV.ec1 λ _=>?_);(case bn=>intro _ _ _ _ _ _;refine LV.ec2 ?_;repeat' first | exact LV.ec0 (⟨_,rfl,rfl⟩) | refine LV.ec1 λ _=>?_)
 case j27=>walk_at "e"
 case j28=>walk_at "e"
 case j29=>walk_at "e"
 case j30=>walk_at "e"
 case j31=>walk_at "e"
 case j32=>walk_at "e"
 case j33=>walk_at "d"
 case j34=>walk_at "d"
 case j35=>walk_at "e"
 case j36=>walk_at "e"
 case j37=>walk_at "e"
 case j38=>walk_at "e"
 case j39=>walk_at "e"
 case j40=>walk_at "e"
 case j41=>walk_at "d"
 case j42=>walk_at "d"
 case j43=>walk_at "d"
 case j44=>walk_at "d"
 case j45=>walk_at "d"
 case j46=>walk_at "d"
 case j47=>walk_at "d"
 case j48=>walk_at "d"
 case j49=>walk_at "d"
 case j54=>walk_at "z"
 case j55=>walk_at "z"
 case j56=>walk_at "z"
 case j57=>walk_at "z"
 case j58=>walk_at "z"
 case j59=>walk_at "z"
 case j60=>walk_at "z"
 case j61=>walk_at "z"
 case j62=>walk_at "z"
 case j63=>walk_at "z"
 case j64=>walk_at "z"
 case j65=>walk_at "z"
 case j66=>walk_at "z"
 case j67=>walk_at "z"
 case j70=>walk_at "n"
 case j71=>walk_at "n"
 case j72=>walk_at "n"
 case j73=>walk_at "n"
 case j74=>refine⟨?_,?_,?_,?_,kf_of ?_ ?_ ?_ ?_ ?_ ?_ ?_⟩<;>walk_at "q"
 case j77=>walk_at "n"
 case j78=>walk_at "n"
 case j79=>walk_at "n"
 case j80=>refine⟨?_,?_,?_,?_,kf_of ?_ ?_ ?_ ?_ ?_ ?_ ?_⟩<;>walk_at "q"
 case j83=>walk_at "n"
 case j84=>walk_at "n"
 case j69=>refine⟨?_,?_,?_,?_⟩<;>k_is
 case j76=>refine⟨?_,?_,?_,?_⟩<;>k_is
 case j82=>refine⟨?_,?_,?_,?_⟩<;>k_is
 case hb=>exact λ s v=>.of_eq rfl
