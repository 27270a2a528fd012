import PyProof.Rows.All
import Wide.All
import OpenK.AllK
import Wide.FinOn
import Lean
import PyProof.EqAt
import PyProof.EqKinds
import PyProof.TupleCall
import PyProof.CompFree
import KE.KIsAll
import PyProof.AttrMiss
import PyProof.IsiH_list
import KE.KDictOf
import PyProof.ConsumeWalk
import PyProof.Rows.SetFrom
import PyProof.NeKinds
import PyProof.AutoListH
import PyProof.EnumMake
import PyProof.EnumFor
import PyProof.EnumStmt
import PyProof.LayNew
import PyProof.Rows.EnumRows
import PySem.Challenge.RW_homeward_k55_spread_again
def zA0:=@List.count_append
def zA1:=@Option.bind_eq_some_iff
def zA2:=@List.size_toArray
def zA3:=@Nat.le_refl
def zA4:=@List.getElem?_eq_some_iff
def zA5:=@PySem.Heap.get?_push_of_some
def zA6:=@List.mem_cons_of_mem
def zA7:=@List.mem_cons_self
def zA8:=@List.length_append
def zA9:=@List.mem_range
def zAa:=@Option.map_eq_some_iff
def zAb:=@of_decide_eq_true
def zAc:=@List.length_map
def zAd:=@PySem.Heap.lt_size
def zAe:=@decide_eq_true
def zAf:=@List.append_nil
def zAg:=@Bool.and_eq_true_iff
def zAh:=@List.mem_append
def zAi:=@List.mem_cons
def zAj:=@Bool.false_ne_true
def zAk:=@Nat.lt_of_lt_of_le
def zAl:=@List.count_cons
def zAm:=@List.mem_singleton
def zAn:=@Nat.ne_of_lt
def zAo:=@List.length_cons
def zAp:=@Nat.le_trans
def zAq:=@List.length_range
def zAr:=@List.lookup_cons
def zAs:=@List.getElem?_append_left
def zAt:=@List.mem_of_getElem?
def zAu:=@PySem.Heap.get?_push_size
def zAv:=@List.getElem?_map
def zAw:=@List.length_eq_zero_iff
def zAx:=@List.mem_filter
def zAy:=@List.mem_append_right
def zAz:=@List.getElem?_eq_getElem
def zB0:=@List.map_cons
def zB1:=@List.mem_map
def zB2:=@List.forall_mem_cons
def zB3:=@decide_eq_false
def zB4:=@List.all_eq_true
def zB5:=@List.nil_append
def zB6:=@Nat.zero_add
def zB7:=@List.append_assoc
def zB8:=@Option.isSome_iff_exists
def zB9:=@of_decide_eq_false
def zBa:=@List.take_of_length_le
def zBb:=@List.forall_mem_append
def zBc:=@List.filterMap_cons
def zBd:=@List.not_mem_nil
def zBe:=@beq_self_eq_true
def zBf:=@decide_eq_true_eq
def zBg:=@PySem.Heap.get?_update_other
def zBh:=@List.map_append
def zBi:=@Bool.and_eq_true
def zBj:=@beq_eq_false_iff_ne
def zBk:=@List.replicate_succ
def zBl:=@List.any_cons
def zBm:=@List.getElem?_set_ne
def zBn:=@List.nodup_append
def zBo:=@Int.emod_lt_of_pos
def zBp:=@List.getElem?_of_mem
def zBq:=@List.find?_cons
def zBr:=@Int.emod_nonneg
def zBs:=@List.getD_eq_getElem?_getD
def zBt:=@List.getElem?_append_right
def zBu:=@List.length_take
def zBv:=@Nat.lt_succ_self
def zBw:=@List.getElem?_eq_none
def zBx:=@beq_iff_eq
def zBy:=@List.nodup_cons
def zBz:=@List.flatten_cons
def zC0:=@List.filter_cons_of_neg
def zC1:=@List.length_pos_iff
def zC2:=@List.filter_cons_of_pos
def zC3:=@List.take_length
def zC4:=@decide_eq_decide
def zC5:=@Nat.le_of_not_lt
def zC6:=@List.any_eq_true
def zC7:=@Bool.and_false
def zC8:=@List.findIdx?_cons
def zC9:=@List.length_nil
def zCa:=@Bool.and_true
set_option Elab.async false
set_option linter.all false
set_option maxRecDepth 100000
namespace PySem.W.Fast
theorem tw3177942757564188700 : True := trivial
theorem tw16335162997673763138 : True := trivial
theorem tw9189018461939920946 : True := trivial
theorem tw9568879528584762107 : True := trivial
theorem tw17932391381743854074 : True := trivial
theorem tw18297384523059424527 : True := trivial
theorem tw11097104406545787990 : True := trivial
theorem tw15286907797215222737 : True := trivial
theorem tw8117930945921867145 : True := trivial
theorem tw8164396968417214171 : True := trivial
theorem tw11818053302818633513 : True := trivial
theorem tw3076835801911866240 : True := trivial
theorem tw12268874507343114417 : True := trivial
theorem tw5068509895800065887 : True := trivial
theorem tw3957650457167328658 : True := trivial
theorem tw15087433560600231769 : True := trivial
theorem tw15072655554966736586 : True := trivial
theorem tw9944729690320912597 : True := trivial
theorem tw9744543580794069045 : True := trivial
theorem tw4367707451486405330 : True := trivial
theorem tw17972754242289125403 : True := trivial
theorem tw15019699713676655457 : True := trivial
theorem tw4642135882192497476 : True := trivial
theorem tw14135173868455725303 : True := trivial
theorem tw9334807666022496850 : True := trivial
theorem tw13770403767030736304 : True := trivial
theorem tw17447449413100398759 : True := trivial
theorem tw17721248502087113470 : True := trivial
theorem tw5238757522499335049 : True := trivial
theorem tw3261847546863720910 : True := trivial
theorem tw3367911462949270244 : True := trivial
theorem tw10352196301007706740 : True := trivial
theorem tw15886163918735199009 : True := trivial
theorem tw485357745004334322 : True := trivial
theorem tw1332399167956529218 : True := trivial
theorem tw4276119179921090286 : True := trivial
theorem tw8550947240227505607 : True := trivial
theorem tw12874535135082018150 : True := trivial
theorem tw14463666109029447654 : True := trivial
theorem tw3770333934452831595 : True := trivial
theorem tw2905378265050386936 : True := trivial
theorem tw1061295697719015293 : True := trivial
theorem tw10947743755728477092 : True := trivial
theorem tw11722028870525814669 : True := trivial
theorem tw896349245641666819 : True := trivial
theorem tw13052997070655701375 : True := trivial
theorem tw16865440901792463877 : True := trivial
theorem tw10367291859573487366 : True := trivial
theorem tw1762529710560568206 : True := trivial
theorem tw9735462414475998054 : True := trivial
theorem tw18340900360862515231 : True := trivial
theorem tw142138050263423132 : True := trivial
theorem tw4227512243642244841 : True := trivial
theorem tw6331679223933116953 : True := trivial
theorem tw12307515972772667294 : True := trivial
theorem tw16855646252340863175 : True := trivial
theorem tw18001155128249840220 : True := trivial
theorem tw18339397333894066403 : True := trivial
theorem tw13279691654342022327 : True := trivial
theorem tw1640852453958391835 : True := trivial
theorem tw7537790798932760543 : True := trivial
theorem tw2487764632658329252 : True := trivial
theorem tw16027896046196108205 : True := trivial
theorem tw15341374776235785682 : True := trivial
theorem tw17339423748634159484 : True := trivial
theorem tw7546537069993483502 : True := trivial
theorem tw586823943397888807 : True := trivial
theorem tw11299442271962462269 : True := trivial
theorem tw16571277882573559879 : True := trivial
theorem tw3762421889715055731 : True := trivial
theorem tw7019536524637766646 : True := trivial
theorem tw246434640348950312 : True := trivial
theorem tw12655504245365326110 : True := trivial
theorem tw10413073190959165691 : True := trivial
theorem tw17162753304672572683 : True := trivial
theorem tw9891971485328191724 : True := trivial
theorem tw184701733583502157 : True := trivial
theorem tw4906886882746057658 : True := trivial
theorem tw4094264884790398454 : True := trivial
theorem tw7375232989769745530 : True := trivial
theorem tw6390230306526034558 : True := trivial
theorem tw1660090291938251455 : True := trivial
theorem tw2829898586211371661 : True := trivial
theorem tw47464244192791236 : True := trivial
theorem tw8031250604108375312 : True := trivial
theorem tw8877342548829862250 : True := trivial
theorem tw7053995019219815698 : True := trivial
theorem tw10764266727973533703 : True := trivial
theorem tw16896454689982382831 : True := trivial
theorem tw2865777977630068341 : True := trivial
theorem tw9425508364209573480 : True := trivial
theorem tw3703023104289827430 : True := trivial
theorem tw129372180199364556 : True := trivial
theorem tw18220745927271632229 : True := trivial
theorem tw12419848327735338133 : True := trivial
theorem tw7896615337013749586 : True := trivial
theorem tw8542964385300341111 : True := trivial
theorem tw13525477849224841967 : True := trivial
theorem tw14782764999985668426 : True := trivial
theorem tw11172720519142508946 : True := trivial
theorem tw16648561623468590071 : True := trivial
theorem tw2082150276227241339 : True := trivial
theorem tw2625808173629461985 : True := trivial
theorem tw13082954822654094147 : True := trivial
theorem tw12043932820872155180 : True := trivial
theorem tw17023470016094799363 : True := trivial
theorem tw6027314119544423805 : True := trivial
end PySem.W.Fast
namespace L2
open PySem PySem.Spec PyProof.Rows
variable{M:Model}{N:List Str}{base:Heap}{body:List Stmt}{ch fp:List Addr}{i n t':Nat}{kw:List (Str×Value)}{mg:Str->Option Value}{op:CmpOp}{pl:Sem Bool}{us:List Value}
abbrev Key:=Sum Int Str
def Fo:Key->Value->Bool
 | .inl k,v=>Value.isInt k v
 | .inr x,v=>Value.isStrOf x v
def keyH(w:World):Key->Int
 | .inl k=>hashInt k
 | .inr x=>hashStr w x
theorem qd6:∀{k:Key}{v:Value},Fo k v=true->(∃ i t,k=Sum.inl i/\v=Value.int i t)∨(∃ x t,k=Sum.inr x/\v=Value.str x t)
 | .inl i,v,h=>by
   obtain⟨t,e⟩:=Value.isInt_shape (k:=i) (v:=v) h;exact .inl ⟨i,t,rfl,e⟩
 | .inr x,v,h=>by
   obtain⟨t,e⟩:=Value.isStrOf_shape (x:=x) (v:=v) h;exact .inr ⟨x,t,rfl,e⟩
theorem qaq8(i:Int)(t:Tok):Fo (.inl i) (.int i t)=true:=by simp[Fo,Value.isInt]
theorem qaq7(x:Str)(t:Tok):Fo (.inr x) (.str x t)=true:=by simp[Fo,Value.isStrOf]
theorem qaV4(a b:Int):decide ((Sum.inl a:Key)=Sum.inl b)=(a == b):=by
 by_cases e:a=b
 . subst e;simp
 have h:¬ (Sum.inl a:Key)=Sum.inl b:=λ q=>e (Sum.inl.inj q)
 rw[zB3 h];exact(zBj.mpr e).symm
theorem qaV1(a b:Str):decide ((Sum.inr a:Key)=Sum.inr b)=decide (a=b):=by
 by_cases e:a=b
 . subst e;simp
 have h:¬ (Sum.inr a:Key)=Sum.inr b:=λ q=>e (Sum.inr.inj q)
 rw[zB3 h,zB3 e]
theorem qaV3(a:Int)(b:Str):decide ((Sum.inl a:Key)=Sum.inr b)=false:=zB3 (λ q=>nomatch q)
theorem qaV2(a:Str)(b:Int):decide ((Sum.inr a:Key)=Sum.inl b)=false:=zB3 (λ q=>nomatch q)
def qg5(prog:Program)(w:World):PySem.KeyKind prog w Key where
 is:=Fo
 hash:=keyH w
 inj:=λ v a b ha hb=>by
   rcases qd6 ha with⟨i,t,rfl,rfl⟩ | ⟨x,t,rfl,rfl⟩
   . rcases qd6 hb with⟨j,u,rfl,e⟩ | ⟨y,u,rfl,e⟩
     . injection e with e1 _;rw[e1]
     exact nomatch e
   rcases qd6 hb with⟨j,u,rfl,e⟩ | ⟨y,u,rfl,e⟩
   . exact nomatch e
   injection e with e1 _;rw[e1]
 byValue:=λ k v h=>by
   rcases qd6 h with⟨i,t,rfl,rfl⟩ | ⟨x,t,rfl,rfl⟩<;>rfl
 pyHash:=λ hv h=>by
   rcases qd6 hv with⟨i,t,rfl,rfl⟩ | ⟨x,t,rfl,rfl⟩
   . exact wpAny_pyHash_int h
   exact wpAny_pyHash_str h
 eqBool:=λ hu hv h=>by
   rcases qd6 hu with⟨i,t,rfl,rfl⟩ | ⟨x,t,rfl,rfl⟩
   . rcases qd6 hv with⟨j,u,rfl,rfl⟩ | ⟨y,u,rfl,rfl⟩
     . rw[qaV4] at h;exact wpAny_eqBool_int h
     rw[qaV3] at h;exact SeqAt.EqAt.int_str i t y u _ _ _ _ h
   rcases qd6 hv with⟨j,u,rfl,rfl⟩ | ⟨y,u,rfl,rfl⟩
   . rw[qaV2] at h;exact SeqAt.EqAt.str_int x t j u _ _ _ _ h
   rw[qaV1] at h;exact wpAny_eqBool_str h
 «strs»:=λ k x t v h=>by
   rcases qd6 h with⟨i,u,rfl,e⟩ | ⟨y,u,rfl,e⟩
   . exact nomatch e
   injection e with e1 _
   subst e1;cases v<;>rfl
theorem qab0(prog:Program)(w:World)(i:Int)(t:Tok):(qg5 prog w).is (.inl i) (.int i t)=true:=qaq8 i t
theorem qaa9(prog:Program)(w:World)(x:Str)(t:Tok):(qg5 prog w).is (.inr x) (.str x t)=true:=qaq7 x t
inductive V where
 | non | bl (b:Bool) | int (i:Int) | str (x:Str) | byt (b:Array UInt8) | flt (b:UInt64) | ref (a:Addr) | ty (n:String)
 deriving DecidableEq
def RelV:V->Value->Prop
 | .non,u=>u=Value.none
 | .bl b,u=>u=Value.bool b
 | .int i,u=>∃ t,u=Value.int i t
 | .str x,u=>∃ t,u=Value.str x t
 | .byt b,u=>∃ t,u=Value.bytes b t
 | .flt b,u=>∃ t,u=Value.float b t
 | .ref a,u=>u=Value.ref a
 | .ty n,u=>u=Value.type n
abbrev Vals:List V->List Value->Prop:=Paired RelV
theorem Vals.length{xs:List V}(r:Vals xs us):xs.length=us.length:=Paired.length r
theorem Vals.get:∀{xs:List V}{us:List Value}{i:Nat}{x:V},Vals xs us->xs[i]? = some x->∃ u,us[i]? = some u/\RelV x u
 | _,_,_,_,.nil,e=>by simp at e
 | _,_,0,_,.cons r _,e=>by simp at e;subst e;exact⟨_,rfl,r⟩
 | _,_,i+1,x,.cons _ t,e=>by
   obtain⟨u,h1,h2⟩:=Vals.get (i:=i) (x:=x) t (by simpa using e);exact⟨u,by simpa using h1,h2⟩
theorem Vals.set{x:V}{u:Value}(r:RelV x u):∀{xs:List V}{us:List Value}(i:Nat),Vals xs us->Vals (xs.set i x) (us.set i u)
 | _,_,_,.nil=>.nil
 | _,_,0,.cons _ t=>.cons r t
 | _,_,i+1,.cons q t=>.cons q (Vals.set r i t)
theorem Vals.append:∀{xs ys:List V}{us ws:List Value},Vals xs us->Vals ys ws->Vals (xs++ys) (us++ws)
 | _,_,_,_,.nil,s=>s
 | _,_,_,_,.cons r t,s=>.cons r (Vals.append t s)
theorem Vals.take:∀{xs:List V}{us:List Value}(n:Nat),Vals xs us->Vals (xs.take n) (us.take n)
 | _,_,0,_=>.nil
 | _,_,_+1,.nil=>.nil
 | _,_,n+1,.cons r t=>.cons r (Vals.take n t)
theorem Vals.drop:∀{xs:List V}{us:List Value}(n:Nat),Vals xs us->Vals (xs.drop n) (us.drop n)
 | _,_,0,r=>r
 | _,_,_+1,.nil=>.nil
 | _,_,n+1,.cons _ t=>Vals.drop n t
def RelO:Option V->Option Value->Prop
 | some v,some u=>RelV v u
 | none,none=>True
 | _,_=>False
def KV{κ:Type}:List (κ×V)->List (κ×Value)->Prop:=Paired λ(p:κ×V)(q:κ×Value)=>p.1=q.1/\RelV p.2 q.2
def kV:Key->V
 | .inl i=>.int i
 | .inr x=>.str x
inductive HO where
   | lst (xs:List V)
   | tup (xs:List V)
   | dK (kvs:List (Key×V)) | dT (kvs:List (List Key×V))
   | set (S:Int->Bool) (n:Nat)
   | ins (C dx:Addr) (fs:List (Str×V))
   | own (x:Addr)
   | xd (fs:List (Str×V))
   | met (f x:Addr)
   | rng (lo hi:Int)
   | frz (o:Obj) (u:HO)
   | tbl (ps:Array Value)
   | ext (φ:Heap->Prop)
abbrev Hp:=Addr->Option HO
def upd(H:Hp)(a:Addr)(o:HO):Hp:=λ b=>if b=a then some o else H b
theorem qc2{H:Hp}{a:Addr}{o:HO}:upd H a o a=some o:=by unfold upd;rw[if_pos rfl]
theorem qc9{H:Hp}{a b:Addr}{o:HO}(h:b≠a):upd H a o b=H b:=by unfold upd;rw[if_neg h]
theorem qaH7{H:Hp}{a:Addr}{o u:HO}:upd (upd H a o) a u=upd H a u:=by
 funext b;unfold upd;split<;>rfl
theorem ne_of{H:Hp}{a b:Addr}{o u:HO}(h:H a=some o)(h':H b=some u)(d:o≠u):a≠b:=by
 intro e;subst e;rw[h] at h';exact d (Option.some.inj h')
theorem qe7{H:Hp}{a b:Addr}{o:HO}(h:H a=some o)(h':H b=none):a≠b:=by
 intro e;subst e;rw[h] at h';cases h'
section
variable(P:Program)(w:World)
def ObjOk(H:Hp)(h:Heap)(a:Addr):HO->Prop
 | .lst xs=>xs.length<=sizeLine/\∃(its:List Value)(n:Nat),Vals xs its/\h.get? a=some { cls:=.type "list",data:=.seq its.toArray n }
 | .tup xs=>xs.length<=sizeLine/\∃ its:List Value,Vals xs its/\IsTup h a its.toArray
 | .dK kvs=>kvs.length<=sizeLine/\(a == sysModules)=false/\∃ vs,KV kvs vs/\h.DictOf (qg5 P w) a vs
 | .dT kvs=>kvs.length<=sizeLine/\(a == sysModules)=false/\∃ xs:List (List Key×Addr×Value),
     Paired (λ(p:List Key×V)(q:List Key×Addr×Value)=>p.1=q.1/\H q.2.1=some (.tup (p.1.map kV))/\RelV p.2 q.2.2) kvs xs /\
     ∃ o es ep,h.get? a=some o/\o.ExactDict/\o.data=.dict es ep/\es.toList=xs.map (entryOfKey (tupleKind (qg5 P w)))/\(xs.map (·.1)).Nodup
 | .set S n=>h.SetOf (intKind P w) a S n
 | .ins C dx fs=>H dx=some (.own a)/\fs.length<=1000/\dx≠a/\h.get? a=some (PySem.W.instObj C dx) /\
     ∃ mA,h.Ns1 dx mA/\(∀ f,RelO (fs.lookup f) (mA f))/\PySem.Within mA (fs.map (·.1))
 | .own _=>∃ o,h.get? a=some o
 | .xd fs=>∃ mA,h.Ns1 a mA/\∀ f,RelO (fs.lookup f) (mA f)
 | .rng lo hi=>∃ t u v,h.get? a=some { cls:=.type "range",data:=.fields #[.int lo t,.int hi u,.int 1 v] }
 | .frz o u=>h.get? a=some o/\ObjOk H h a u
 | .tbl ps=>h.get? a=some { cls:=.none,data:=.fields ps }
 | .met f x=>h.get? a=some (PySem.W.methodObj (.ref f) (.ref x))
 | .ext φ=>φ h/\(∃ o,h.get? a=some o)/\∀ h1 h2:Heap,φ h1->(∀ o,h1.get? a=some o->h2.get? a=some o)->φ h2
def HOk(H:Hp)(h:Heap):Prop:=∀ a o,H a=some o->ObjOk P w H h a o
end
section
variable{P:Program}{w:World}{H H':Hp}{h h':Heap}{a:Addr}{o:HO}
theorem ObjOk.lt(x:ObjOk P w H h a o):a < h.objs.size:=by
 cases o with
 | lst xs=>obtain⟨_,_,_,_,e⟩:=x;exact zAd e
 | tup xs=>obtain⟨_,_,_,p⟩:=x;exact p.lt
 | dK kvs=>obtain⟨_,_,_,_,o,_,_,e,_⟩:=x;exact zAd e
 | dT kvs=>obtain⟨_,_,_,_,o,_,_,e,_⟩:=x;exact zAd e
 | set S n=>obtain⟨o,_,_,_,e,_⟩:=x;exact zAd e
 | ins C dx fs=>obtain⟨_,_,_,e,_⟩:=x;exact zAd e
 | own y=>obtain⟨_,e⟩:=x;exact zAd e
 | xd fs=>obtain⟨_,⟨_,_,_,e,_⟩,_⟩:=x;exact zAd e
 | rng lo hi=>obtain⟨_,_,_,e⟩:=x;exact zAd e
 | frz ob u=>obtain⟨e,_⟩:=x;exact zAd e
 | tbl ps=>exact zAd (show h.get? a=some _ from x)
 | met f y=>exact zAd (show h.get? a=some _ from x)
 | ext φ=>obtain⟨_,⟨_,e⟩,_⟩:=x;exact zAd e
theorem Paired.mapP{α β:Type}{F G:α->β->Prop}:∀{l₁:List α}{l₂:List β},Paired F l₁ l₂->(∀ a b,F a b->G a b)->Paired G l₁ l₂
 | _,_,.nil,_=>.nil
 | _,_,.cons r t,f=>.cons (f _ _ r) (Paired.mapP t f)
theorem ObjOk.stay(x:ObjOk P w H h a o)(k:∀ b u,(b=a∨H b=some (.own a))->h.get? b=some u->h'.get? b=some u)(ho:∀ b,H b=some (.own a)->H' b=some (.own a))(ht:∀ b xs,H b=some (.tup xs)->H' b=some (.tup xs)):ObjOk P w H' h' a o:=by
 induction o with
 | lst xs=>obtain⟨z,its,n,r,e⟩:=x;exact⟨z,its,n,r,k _ _ (.inl rfl) e⟩
 | tup xs=>obtain⟨z,its,r,ob,e,c⟩:=x;exact⟨z,its,r,ob,k _ _ (.inl rfl) e,c⟩
 | dK kvs=>obtain⟨z,y,vs,r,ob,es,ep,e,c⟩:=x;exact⟨z,y,vs,r,ob,es,ep,k _ _ (.inl rfl) e,c⟩
 | dT kvs =>
   obtain⟨z,y,xs,r,ob,es,ep,e,c⟩:=x;exact⟨z,y,xs,Paired.mapP r λ p q z=>⟨z.1,ht _ _ z.2.1,z.2.2⟩,ob,es,ep,k _ _ (.inl rfl) e,c⟩
 | set S n=>obtain⟨ob,es,ep,t,e,c⟩:=x;exact⟨ob,es,ep,t,k _ _ (.inl rfl) e,c⟩
 | ins C dx fs =>
   obtain⟨d,z,ne,e,mA,⟨od,es,ep,e2,c⟩,r⟩:=x;exact⟨ho _ d,z,ne,k _ _ (.inl rfl) e,mA,⟨od,es,ep,k _ _ (.inr d) e2,c⟩,r⟩
 | own y=>obtain⟨ob,e⟩:=x;exact⟨ob,k _ _ (.inl rfl) e⟩
 | xd fs=>obtain⟨mA,⟨od,es,ep,e,c⟩,r⟩:=x;exact⟨mA,⟨od,es,ep,k _ _ (.inl rfl) e,c⟩,r⟩
 | rng lo hi=>obtain⟨t,u,v,e⟩:=x;exact⟨t,u,v,k _ _ (.inl rfl) e⟩
 | frz ob u ih=>obtain⟨e,q⟩:=x;exact⟨k _ _ (.inl rfl) e,ih q⟩
 | tbl ps =>
   have e:h.get? a=some { cls:=.none,data:=.fields ps }:=x;show h'.get? a=some { cls:=.none,data:=.fields ps };exact k a _ (.inl rfl) e
 | met f y =>
   have e:h.get? a=some (PySem.W.methodObj (.ref f) (.ref y)):=x;show h'.get? a=some (PySem.W.methodObj (.ref f) (.ref y));exact k a _ (.inl rfl) e
 | ext φ=>obtain⟨p,⟨o,e⟩,st⟩:=x;exact⟨st _ _ p λ o q=>k _ _ (.inl rfl) q,⟨o,k _ _ (.inl rfl) e⟩,st⟩
theorem HOk.lt(x:HOk P w H h)(e:H a=some o):a < h.objs.size:=(x a o e).lt
theorem HOk.fresh(x:HOk P w H h)(e:h.objs.size<=a):H a=none:=by
 cases q:H a with
 | none=>rfl
 | some u=>exact absurd (zAk (x.lt q) e) (Nat.lt_irrefl _)
theorem HOk.kept(x:HOk P w H h)(k:∀ b u,h.get? b=some u->h'.get? b=some u):HOk P w H h':=λ a o e =>
 (x a o e).stay (λ b u _ q=>k b u q) (λ _ q=>q) λ _ _ q=>q
theorem HOk.laid(x:HOk P w H h)(k:∀ b u,h.get? b=some u->h'.get? b=some u)(hp:h.objs.size<=a)(new:ObjOk P w (upd H a o) h' a o):HOk P w (upd H a o) h':=λ b u e=>by
 have hn:=x.fresh hp;by_cases hb:b=a
 . subst hb;rw[qc2] at e;cases e;exact new
 rw[qc9 hb] at e;exact(x b u e).stay (λ c v _ q=>k c v q) (λ c q=>by rw[qc9 (qe7 q hn)];exact q) λ c xs q=>by rw[qc9 (qe7 q hn)];exact q
end
def Rd(H:Hp)(a:Addr)(u:HO):Prop:=H a=some u∨∃ o,H a=some (.frz o u)
theorem Rd.ok{P:Program}{w:World}{H:Hp}{h:Heap}{a:Addr}{u:HO}(r:Rd H a u)(x:HOk P w H h):ObjOk P w H h a u:=by
 rcases r with r | ⟨o,r⟩
 . exact x a u r
 obtain⟨_,q⟩:=x a _ r;exact q
def Mut:Option HO->Prop
 | some (.lst _)=>True
 | some (.dK _)=>True
 | some (.dT _)=>True
 | some (.set _ _)=>True
 | some (.ins _ _ _)=>True
 | some (.ext _)=>True
 | _=>False
section
variable{P:Program}{w:World}{H:Hp}{h h':Heap}{x e:Addr}{o':HO}
theorem HOk.write(ok:HOk P w H h)(mu:Mut (H x))(he:e=x∨H e=some (.own x))(k:∀ b u,b≠e->h.get? b=some u->h'.get? b=some u)(heo:∃ u,h'.get? e=some u)(new:ObjOk P w (upd H x o') h' x o'):HOk P w (upd H x o') h':=λ b u q=>by
 have nown:∀ c y,H c=some (.own y)->c≠x:=λ c y r z=>by subst z;rw[r] at mu;exact mu
 have ntup:∀ c xs,H c=some (.tup xs)->c≠x:=λ c xs r z=>by subst z;rw[r] at mu;exact mu
 by_cases hb:b=x
 . subst hb;rw[qc2] at q;cases q;exact new
 rw[qc9 hb] at q;by_cases hbe:b=e
 . have q':H b=some (.own x):=by
     rcases he with z | z
     . exact absurd (hbe.trans z) hb
     rw[hbe];exact z
   rw[q] at q';cases q';obtain⟨v,hv⟩:=heo;exact⟨v,by rw[hbe];exact hv⟩
 refine(ok b u q).stay (λ c v hc r=>k c v ?_ r) (λ c r=>by rw[qc9 (nown c b r)];exact r) λ c xs r=>by rw[qc9 (ntup c xs r)];exact r
 rcases hc with rfl | hc
 . exact hbe
 rintro rfl;rcases he with z | z
 . exact nown c b hc z
 rw[hc] at z;cases z;exact hb rfl
end
structure Un(fs ex:List Addr)(H H':Hp)(h h':Heap):Prop where
 keep:∀ b o,h.get? b=some o->H b=none->b∉fs->b∉ex->h'.get? b=some o
 slot:∀ b o,h.get? b=some o->H b=none->b∈fs->b∉ex->∃ sl,h'.get? b=some { o with slots:=sl }
 free:∀ b o,h.get? b=some o->H b=none->b∉ex->H' b=none
 there:∀ b o,h.get? b=some o->b∉ex->∃ o',h'.get? b=some o'
 tups:∀ b xs,H b=some (.tup xs)->H' b=some (.tup xs)
 frzs:∀ b o u,H b=some (.frz o u)->H' b=some (.frz o u)
 tbls:∀ b ps,H b=some (.tbl ps)->∃ more,H' b=some (.tbl (ps++more))
section
variable{fs ex:List Addr}{H H1 H2:Hp}{h h1 h2 h':Heap}{a x e:Addr}{o:HO}
theorem Un.any(u:Un fs ex H H1 h h1){b:Addr}{ob:Obj}(q:h.get? b=some ob)(n:H b=none)(hx:b∉ex):∃ sl,h1.get? b=some { ob with slots:=sl }:=by
 by_cases hb:b∈fs
 . exact u.slot b ob q n hb hx
 exact⟨ob.slots,u.keep b ob q n hb hx⟩
theorem Un.trans(a:Un fs ex H H1 h h1)(b:Un fs ex H1 H2 h1 h2):Un fs ex H H2 h h2 where
 keep:=λ c ob q n hc hx=>b.keep c ob (a.keep c ob q n hc hx) (a.free c ob q n hx) hc hx
 slot:=λ c ob q n hc hx=>by
   obtain⟨sl,e1⟩:=a.slot c ob q n hc hx;obtain⟨sl',e2⟩:=b.slot c _ e1 (a.free c ob q n hx) hc hx;exact⟨sl',e2⟩
 free:=λ c ob q n hx=>by
   obtain⟨o',e1⟩:=a.there c ob q hx;exact b.free c o' e1 (a.free c ob q n hx) hx
 there:=λ c ob q hx=>by
   obtain⟨o',e1⟩:=a.there c ob q hx;exact b.there c o' e1 hx
 tups:=λ c xs q=>b.tups c xs (a.tups c xs q)
 frzs:=λ c ob xs q=>b.frzs c ob xs (a.frzs c ob xs q)
 tbls:=λ c ps q=>by
   obtain⟨m1,e1⟩:=a.tbls c ps q;obtain⟨m2,e2⟩:=b.tbls c _ e1;exact⟨m1++m2,by rw[e2,Array.append_assoc]⟩
theorem Un.kept(k:∀ b u,h.get? b=some u->h'.get? b=some u):Un fs ex H H h h' :=
 ⟨λ b ob q _ _ _=>k b ob q,λ b ob q _ _ _=>⟨ob.slots,k b ob q⟩,λ _ _ _ n _=>n,λ b ob q _=>⟨ob,k b ob q⟩,λ _ _ q=>q,λ _ _ _ q=>q,λ _ ps q=>⟨#[],by rw[q];simp⟩⟩
theorem Un.refl:Un fs ex H H h h:=Un.kept λ _ _ q=>q
theorem Un.laid(k:∀ b u,h.get? b=some u->h'.get? b=some u)(hp:h.objs.size<=a)(hn:H a=none):Un fs ex H (upd H a o) h h' where
 keep:=λ b u q _ _ _=>k b u q
 slot:=λ b u q _ _ _=>⟨u.slots,k b u q⟩
 free:=λ b u q n _=>by rw[qc9 (zAn (zAk (zAd q) hp))];exact n
 there:=λ b u q _=>⟨u,k b u q⟩
 tups:=λ b xs q=>by rw[qc9 (qe7 q hn)];exact q
 frzs:=λ b u xs q=>by rw[qc9 (qe7 q hn)];exact q
 tbls:=λ b ps q=>⟨#[],by rw[qc9 (qe7 q hn),q];simp⟩
theorem Un.write(mu:Mut (H x))(he:e=x∨H e=some (.own x))(k:∀ b u,b≠e->h.get? b=some u->h'.get? b=some u)(heo:∃ u,h'.get? e=some u):Un fs ex H (upd H x o) h h':=by
 have hx:∀ b,H b=none->b≠x:=λ b n z=>by subst z;rw[n] at mu;exact mu
 have hb:∀ b,H b=none->b≠e:=λ b n z=>by
   subst z;rcases he with r | r
   . exact hx b n r
   rw[n] at r;cases r
 have hm:∀ b u,H b=some u->¬ Mut (some u)->b≠x:=λ b u q nm z=>by subst z;rw[q] at mu;exact nm mu
 refine⟨λ b u q n _ _=>k b u (hb b n) q,λ b u q n _ _=>⟨u.slots,k b u (hb b n) q⟩,λ b u q n _=>by rw[qc9 (hx b n)];exact n,λ b u q _=>?_,
   λ b xs q=>by rw[qc9 (hm b _ q λ z=>z)];exact q,λ b u xs q=>by rw[qc9 (hm b _ q λ z=>z)];exact q,λ b ps q=>⟨#[],by rw[qc9 (hm b _ q λ z=>z),q];simp⟩⟩
 by_cases hbe:b=e
 . subst hbe;exact heo
 exact⟨u,k b u hbe q⟩
end
def trk(h:Heap)(H:Hp):List Addr:=(List.range h.objs.size).filter λ a=>(H a).isSome
def Fx(h:Heap)(H:Hp):Heap:=PySem.W.hideAll h (trk h H)
theorem qar3(h:Heap)(H:Hp):(Fx h H).objs.size=h.objs.size:=PySem.W.hideAll_size _ _
theorem qaF1{h:Heap}{H:Hp}{b:Addr}{o:Obj}(e:h.get? b=some o)(n:H b=none):(Fx h H).get? b=some o :=
 PySem.W.hideAll_get _ e λ hm=>by
   have q:(H b).isSome=true:=(zAx.mp hm).2;rw[n] at q;simp at q
theorem qaM1{h:Heap}{H:Hp}{b:Addr}{o:Obj}(e:(Fx h H).get? b=some o):h.get? b=some o/\H b=none:=by
 have e':h.get? b=some o:=PySem.W.of_hideAll (trk h H) e;refine⟨e',?_⟩;cases q:H b with
 | none=>rfl
 | some x =>
   have hm:b∈trk h H:=zAx.mpr ⟨zA9.mpr (zAd e'),by simp[q]⟩;have z:(Fx h H).get? b=none:=PySem.W.hideAll_none (trk h H) hm;rw[z] at e;cases e
structure Mod(K:PySem.W.Frag)(mg:Str->Option Value)(base:Heap):Prop where
 kin:K.In base
 glob:base.Ns mainGlobals mg
 blt:∃ mb,base.Ns builtinsNs mb/\∀ x:Str,x ≠ "__name__" -> mb x=bootBuiltins x
 nolimit:base.NoLimit
structure Cx where
 prog:Program
 w:World
 K:PySem.W.Frag
 mg:Str->Option Value
 base:Heap
 A:Around
 N:List Str
 s₀:Shared
 H₀:Hp
 env:Env
 outer:List Env
 stack:List Env
 ex:List Addr
 fn:Str->Bool
 calm:Bool
 pn:List (Addr×Obj)
 xe:Value->Shared->Prop
def frs(l:List Env):List Addr:=l.filterMap (·.frame)
abbrev Cx.fs(X:Cx):List Addr:=frs X.outer
def Vis(sc:Scope)(x:Str):Prop:=sc.names.lookup x=some .local∨sc.names.lookup x=some .cell∨sc.names.lookup x=some .free
def Loc(sc:Scope)(x:Str):Prop:=sc.names.lookup x=some .local∨sc.names.lookup x=some .cell
def Look(env:Env)(h:Heap)(m:Str->Option Value)(x:Str)(u:Value):Prop :=
 (env.kindOf x=some .local/\m x=some u)∨((env.kindOf x=some .cell∨env.kindOf x=some .free)/\∃ c,env.cells.lookup x=some c/\h.IsCell c (some u))
structure Cx.Ok(X:Cx):Prop where
 mod:Mod X.K X.mg X.base
 kind:X.env.scope.kind=.function
 glob:X.env.globals=mainGlobals
 blt:X.env.builtins=builtinsNs
 above:X.s₀.heap.objs.size<=X.env.locals
 inj:∀ x y c,X.env.cells.lookup x=some c->X.env.cells.lookup y=some c->x=y
 has:∀ x,(X.env.kindOf x=some .cell∨X.env.kindOf x=some .free)->∃ c,X.env.cells.lookup x=some c
 cab:∀ x c,X.fn x=true->X.env.cells.lookup x=some c->X.s₀.heap.objs.size<=c
 hd:X.calm=true->X.A.handled=none
 frames:X.A.frames=some X.stack
 stk:X.stack=X.outer∨(X.stack=X.env::X.outer/\X.env.frame=some X.env.locals)
 exf:∀ b∈X.ex,b≠X.env.locals/\∀ x c,X.env.cells.lookup x=some c->c≠b
 bs:∀ b o,X.base.get? b=some o->X.s₀.heap.get? b=some o/\X.H₀ b=none
 bsz:X.base.objs.size<=X.s₀.heap.objs.size
 noex:∀ b o,X.base.get? b=some o->b∉X.ex
 exfs:∀ b∈X.ex,b∉X.fs
 funs:X.s₀.heap.FunFrames X.base X.outer
 frf:∀ b∈X.fs,X.H₀ b=none
structure Inv(X:Cx)(D4:List (Addr×Obj))(σ:List (Option V))(H:Hp)(s:Shared):Prop where
 ok:X.Ok
 os:s.os=X.s₀.os
 bare:AllBare s.gens
 base:Un X.fs X.ex X.H₀ H X.s₀.heap s.heap
 loc:∃ m,s.heap.Ns X.env.locals m/\∀(i:Nat)(x:Str)(v:V),X.N[i]? = some x->σ[i]? = some (some v)->Vis X.env.scope x->∃ u,RelV v u/\Look X.env s.heap m x u
 cell:∀ x c,X.env.cells.lookup x=some c->∃ v,s.heap.IsCell c v
 free:H X.env.locals=none
 freeC:∀ x c,X.env.cells.lookup x=some c->H c=none
 pin:∀ p∈X.pn++D4,s.heap.get? p.1=some p.2/\H p.1=none/\p.1≠X.env.locals/\p.1∉X.fs/\∀ v,p.2.data≠.cell v
 hok:HOk X.prog X.w H s.heap
 len:σ.length=X.N.length
section
variable{X:Cx}{D4:List (Addr×Obj)}{σ:List (Option V)}{H H':Hp}{s:Shared}{h':Heap}
theorem Cx.Ok.nofr(ok:X.Ok){b:Addr}{o:Obj}(e:X.base.get? b=some o):b∉X.fs:=λ hb=>by
 have:=(ok.funs.mem hb).1
 rw[e] at this;cases this
theorem Inv.bs(I:Inv X D4 σ H s):∀ b o,X.base.get? b=some o->s.heap.get? b=some o/\H b=none:=λ b o e =>
 ⟨I.base.keep b o (I.ok.bs b o e).1 (I.ok.bs b o e).2 (I.ok.nofr e) (I.ok.noex b o e),I.base.free b o (I.ok.bs b o e).1 (I.ok.bs b o e).2 (I.ok.noex b o e)⟩
theorem Inv.bk(I:Inv X D4 σ H s):∀ b o,X.base.get? b=some o->s.heap.get? b=some o:=λ b o e=>(I.bs b o e).1
theorem Inv.mod(I:Inv X D4 σ H s):Mod X.K X.mg X.base:=I.ok.mod
theorem Inv.kIn(I:Inv X D4 σ H s):X.K.In s.heap:=I.ok.mod.kin.keeps I.bk
theorem Inv.lt(I:Inv X D4 σ H s):X.env.locals < s.heap.objs.size:=let ⟨_,hn,_⟩:=I.loc;hn.lt
theorem Inv.sz(I:Inv X D4 σ H s):X.s₀.heap.objs.size<=s.heap.objs.size:=zAp I.ok.above (Nat.le_of_lt I.lt)
theorem Inv.nofs(I:Inv X D4 σ H s){a:Addr}(h:s.heap.objs.size<=a):a∉X.fs:=λ hb=>by
 obtain⟨_,o,ho,_⟩:=I.ok.funs.mem hb;exact absurd (zAk (zAd ho) (zAp I.sz h)) (Nat.lt_irrefl _)
theorem Inv.cne(I:Inv X D4 σ H s):∀ x c,X.env.cells.lookup x=some c->c≠X.env.locals:=λ x c e z=>by
 obtain⟨v,o,ho,hd⟩:=I.cell x c e;obtain⟨m,⟨o',es,ep,ho',hd',_⟩,_⟩:=I.loc;rw[z,ho'] at ho;cases ho;rw[hd'] at hd;cases hd
theorem Inv.funs(I:Inv X D4 σ H s):s.heap.FunFrames X.base X.outer:=by
 have all:∀(l:List Env),(∀ b∈frs l,b∈X.fs)->X.s₀.heap.FunFrames X.base l->s.heap.FunFrames X.base l:=by
   intro l
   induction l with
   | nil=>intro _ _;trivial
   | cons env r ih =>
     intro hs hl;obtain⟨hk,⟨L,o,hf,hn,ho,hd⟩,hr⟩:=hl;have hL:L∈X.fs:=hs L (by unfold frs;rw[zBc,hf];exact zA7);obtain⟨sl,e⟩:=I.base.slot L o ho (I.ok.frf L hL) hL λ z=>I.ok.exfs L z hL
     exact⟨hk,⟨L,_,hf,hn,e,hd⟩,ih (λ b hb=>hs b (by unfold frs;rw[zBc,hf];exact zA6 _ hb)) hr⟩
 exact all X.outer (λ _ hb=>hb) I.ok.funs
theorem Inv.stack(I:Inv X D4 σ H s):s.heap.FunFrames X.base X.stack:=by
 rcases I.ok.stk with e | ⟨e,hf⟩
 . rw[e];exact I.funs
 rw[e];obtain⟨m,hn,_⟩:=I.loc;refine .cons (by rw[I.ok.kind];decide) hf hn ?_ I.funs;exact Heap.get?_none_of_le (zAp I.ok.bsz I.ok.above)
theorem Inv.stkSub(I:Inv X D4 σ H s):∀ b∈frs X.stack,b∈X.env.locals::X.fs:=λ b hb=>by
 rcases I.ok.stk with e | ⟨e,hf⟩
 . rw[e] at hb;exact zA6 _ hb
 rw[e] at hb;unfold frs at hb;rw[zBc,hf] at hb;exact hb
theorem Inv.stkFree(I:Inv X D4 σ H s):∀ b∈frs X.stack,H b=none:=λ b hb=>by
 rcases zAi.mp (I.stkSub b hb) with e | hb
 . rw[e];exact I.free
 obtain⟨_,o,ho,_⟩:=I.ok.funs.mem hb;exact I.base.free b o ho (I.ok.frf b hb) λ z=>I.ok.exfs b z hb
theorem Inv.step{g':Array GenState}{d':Drawn}(I:Inv X D4 σ H s)(hch:∀ b∈ch,(b∈X.ex∨X.s₀.heap.objs.size<=b)/\b≠X.env.locals/\(∀ x c,X.env.cells.lookup x=some c->c≠b)/\∀ p∈X.pn++D4,p.1≠b)(keep:∀ b o,b≠X.env.locals->b∉X.fs->b∉ch->s.heap.get? b=some o->H b=none->h'.get? b=some o)(slot:∀ b o,b≠X.env.locals->b∈X.fs->b∉ch->s.heap.get? b=some o->H b=none->∃ sl,h'.get? b=some { o with slots:=sl })(free:∀ b o,b∉ch->s.heap.get? b=some o->H b=none->H' b=none)(there:∀ b o,b∉ch->s.heap.get? b=some o->∃ o',h'.get? b=some o')(tups:∀ b xs,H b=some (.tup xs)->H' b=some (.tup xs))(frzs:∀ b o u,H b=some (.frz o u)->H' b=some (.frz o u))(tbls:∀ b ps,H b=some (.tbl ps)->∃ more,H' b=some (.tbl (ps++more)))(ns:∀ m,s.heap.Ns X.env.locals m->h'.Ns X.env.locals m)(hok:HOk X.prog X.w H' h')(hg:AllBare g') :
   Inv X D4 σ H' { s with heap:=h',gens:=g',drawn:=d',toks:=t' }:=by
 have neL:∀ b o,X.s₀.heap.get? b=some o->b≠X.env.locals:=λ b o e=>zAn (zAk (zAd e) I.ok.above)
 have neC:∀ b o,X.s₀.heap.get? b=some o->b∉X.ex->b∉ch:=λ b o e hx hb=>by
   rcases (hch b hb).1 with z | z
   . exact hx z
   exact absurd (zAk (zAd e) z) (Nat.lt_irrefl _)
 have cellK:∀ x c,X.env.cells.lookup x=some c->∀ v,s.heap.IsCell c v->h'.IsCell c v:=λ x c e v ⟨o,ho,hd⟩=>by
   have nch:c∉ch:=λ z=>(hch c z).2.2.1 x c e rfl
   by_cases hc:c∈X.fs
   . obtain⟨sl,q⟩:=slot c o (I.cne x c e) hc nch ho (I.freeC x c e)
     exact⟨_,q,hd⟩
   exact⟨o,keep c o (I.cne x c e) hc nch ho (I.freeC x c e),hd⟩
 refine⟨I.ok,I.os,hg,⟨λ b o e n hb hx=>?_,λ b o e n hb hx=>?_,λ b o e n hx=>?_,λ b o e hx=>?_,λ b xs e=>tups b xs (I.base.tups b xs e),λ b o xs e=>frzs b o xs (I.base.frzs b o xs e),λ b ps e=>?_⟩,?_,λ x c e=>?_,?_,λ x c e=>?_,λ p hp=>?_,hok,I.len⟩
 . exact keep b o (neL b o e) hb (neC b o e hx) (I.base.keep b o e n hb hx) (I.base.free b o e n hx)
 . obtain⟨sl,e1⟩:=I.base.slot b o e n hb hx
   obtain⟨sl',e2⟩:=slot b _ (neL b o e) hb (neC b o e hx) e1 (I.base.free b o e n hx);exact⟨sl',e2⟩
 . obtain⟨o',e1⟩:=I.base.there b o e hx
   exact free b o' (neC b o e hx) e1 (I.base.free b o e n hx)
 . obtain⟨o',e1⟩:=I.base.there b o e hx
   exact there b o' (neC b o e hx) e1
 . obtain⟨m1,e1⟩:=I.base.tbls b ps e
   obtain⟨m2,e2⟩:=tbls b _ e1;exact⟨m1++m2,by rw[e2,Array.append_assoc]⟩
 . obtain⟨m,hn,hl⟩:=I.loc
   refine⟨m,ns m hn,λ i x v e1 e2 e3=>?_⟩;obtain⟨u,r,l⟩:=hl i x v e1 e2 e3;refine⟨u,r,?_⟩;rcases l with l | ⟨k,c,e,z⟩
   . exact .inl l
   exact .inr ⟨k,c,e,cellK x c e _ z⟩
 . obtain⟨v,z⟩:=I.cell x c e
   exact⟨v,cellK x c e v z⟩
 . obtain⟨m,⟨o,_,_,ho,_⟩,_⟩:=I.loc
   exact free _ o (λ z=>(hch _ z).2.1 rfl) ho I.free
 . obtain⟨v,o,ho,hd⟩:=I.cell x c e
   exact free c o (λ z=>(hch c z).2.2.1 x c e rfl) ho (I.freeC x c e)
 obtain⟨e,n,ne,nf,d⟩:=I.pin p hp;have nch:p.1∉ch:=λ z=>(hch p.1 z).2.2.2 p hp rfl
 exact⟨keep p.1 p.2 ne nf nch e n,free p.1 p.2 nch e n,ne,nf,d⟩
theorem Inv.un(I:Inv X D4 σ H s)(u:Un X.fs [] H H' s.heap h')(hok:HOk X.prog X.w H' h'):Inv X D4 σ H' { s with heap:=h',toks:=t' }:=by
 obtain⟨m,⟨o,es,ep,ho,r⟩,_⟩:=id I.loc;obtain⟨sl,hL⟩:=u.any ho I.free (by simp);exact I.step (g':=s.gens) (d':=s.drawn) (ch:=[]) (λ _ z=>nomatch z) (λ b o _ hb _ e n=>u.keep b o e n hb (by simp)) (λ b o _ hb _ e n=>u.slot b o e n hb (by simp)) (λ b o _ e n=>u.free b o e n (by simp)) (λ b o _ e=>u.there b o e (by simp)) u.tups u.frzs u.tbls (λ m' hm=>by
   obtain⟨o',es',ep',ho',r'⟩:=hm;rw[ho] at ho';cases ho';exact⟨_,es',ep',hL,r'⟩) hok I.bare
theorem Inv.call{g':Array GenState}{d':Drawn}(I:Inv X D4 σ H s)(u:Un (frs X.stack) ch H H' s.heap h')(hok:HOk X.prog X.w H' h')(hg:AllBare g')(hch:∀ b∈ch,(b∈X.ex∨X.s₀.heap.objs.size<=b)/\b≠X.env.locals/\(∀ x c,X.env.cells.lookup x=some c->c≠b)/\∀ p∈X.pn++D4,p.1≠b) :
   Inv X D4 σ H' { s with heap:=h',gens:=g',drawn:=d',toks:=t' }:=by
 obtain⟨m,⟨o,es,ep,ho,r⟩,_⟩:=id I.loc;obtain⟨sl,hL⟩:=u.any ho I.free λ z=>(hch _ z).2.1 rfl
 exact I.step (ch:=ch) hch (λ b o hL hb hc e n=>u.keep b o e n (λ z=>(zAi.mp (I.stkSub b z)).elim hL hb) hc) (λ b o _ _ hc e n=>u.any e n hc) (λ b o hc e n=>u.free b o e n hc) (λ b o hc e=>u.there b o e hc) u.tups u.frzs u.tbls (λ m' hm=>by
   obtain⟨o',es',ep',ho',r'⟩:=hm;rw[ho] at ho';cases ho';exact⟨_,es',ep',hL,r'⟩) hok hg
theorem Inv.turned{it:Addr}(I:Inv X D4 σ H s)(k:∀ b o,b≠it->s.heap.get? b=some o->h'.get? b=some o)(hn:H it=none)(hL:it≠X.env.locals)(h1:it∈X.ex∨X.s₀.heap.objs.size<=it)(h2:∀ x c,X.env.cells.lookup x=some c->c≠it)(h3:∀ p∈X.pn++D4,p.1≠it):Inv X D4 σ H { s with heap:=h',toks:=t' }:=by
 have nit:∀ b u,H b=some u->b≠it:=λ b u e z=>by rw[z,hn] at e;cases e
 refine I.step (g':=s.gens) (d':=s.drawn) (ch:=[it]) (λ b hb=>?_) (λ b o _ _ hc e _=>k b o (λ z=>hc (by simp[z])) e) (λ b o _ _ hc e _=>⟨o.slots,k b o (λ z=>hc (by simp[z])) e⟩) (λ _ _ _ _ n=>n)
   (λ b o hc e=>⟨o,k b o (λ z=>hc (by simp[z])) e⟩) (λ _ _ e=>e) (λ _ _ _ e=>e) (λ b ps e=>⟨#[],by rw[e];simp⟩) (λ m hm=>?_) (λ b u e=>?_) I.bare
 . have e:b=it:=by simpa using hb
   subst e;exact⟨h1,hL,h2,h3⟩
 . obtain⟨o,es,ep,ho,r⟩:=hm
   exact⟨o,es,ep,k _ o (Ne.symm hL) ho,r⟩
 refine(I.hok b u e).stay (λ c v hc q=>k c v ?_ q) (λ _ q=>q) λ _ _ q=>q
 rcases hc with z | z
 . rw[z];exact nit b u e
 exact nit c _ z
theorem Inv.tok(I:Inv X D4 σ H s)(t:Nat):Inv X D4 σ H { s with toks:=t }:=I.un (h':=s.heap) (t':=t) Un.refl I.hok
theorem Inv.kept(I:Inv X D4 σ H s)(k:∀ b u,s.heap.get? b=some u->h'.get? b=some u):Inv X D4 σ H { s with heap:=h',toks:=t' }:=I.un (Un.kept k) (I.hok.kept k)
theorem Inv.laid{a:Addr}{o:HO}(I:Inv X D4 σ H s)(k:∀ b u,s.heap.get? b=some u->h'.get? b=some u)(hp:s.heap.objs.size<=a)(new:ObjOk X.prog X.w (upd H a o) h' a o) :
   Inv X D4 σ (upd H a o) { s with heap:=h',toks:=t' }:=I.un (Un.laid k hp (I.hok.fresh hp)) (I.hok.laid k hp new)
theorem Inv.write{x e:Addr}{o:HO}(I:Inv X D4 σ H s)(mu:Mut (H x))(he:e=x∨H e=some (.own x))(k:∀ b u,b≠e->s.heap.get? b=some u->h'.get? b=some u)(heo:∃ u,h'.get? e=some u)(new:ObjOk X.prog X.w (upd H x o) h' x o):Inv X D4 σ (upd H x o) { s with heap:=h',toks:=t' }:=I.un (Un.write mu he k heo) (I.hok.write mu he k heo new)
theorem Inv.pins_of{pins':List (Addr×Obj)}(I:Inv X D4 σ H s)(h:∀ p∈pins',s.heap.get? p.1=some p.2/\H p.1=none/\p.1≠X.env.locals/\p.1∉X.fs/\∀ v,p.2.data≠.cell v):Inv X pins' σ H s :=
 ⟨I.ok,I.os,I.bare,I.base,I.loc,I.cell,I.free,I.freeC,λ p hp=>(zAh.mp hp).elim (λ z=>I.pin p (List.mem_append_left _ z)) (h p),I.hok,I.len⟩
theorem qag4(hN:N.Nodup){j:Nat}{x:Str}(a:N[i]? = some x)(b:N[j]? = some x):i=j:=by
 obtain⟨h1,e1⟩:=zA4.mp a;obtain⟨h2,e2⟩:=zA4.mp b;exact(List.getElem_inj hN).mp (e1.trans e2.symm)
theorem qan9{A:Around}{E:Value->Shared->Prop}{x:Str}{v:V}{u:Value}{Q:Unit->Shared->Prop}(I:Inv X D4 σ H s)(hN:X.N.Nodup)(hi:X.N[i]? = some x)(hx:Loc X.env.scope x)(r:RelV v u)(h:∀ s',Inv X D4 (σ.set i (some v)) H s'->(∃ a,Heap.SameBut a s.heap s'.heap/\(a=X.env.locals∨X.env.cells.lookup x=some a))->Q () s')(hf:X.fn x=true∨X.env.scope.names.lookup x=some .local:=by first | exact .inl rfl | exact .inr rfl | assumption):wpAny M A (storeName X.env x u) Q E s:=by
 obtain⟨m,hn,hl⟩:=id I.loc;have hcls:(X.env.scope.kind == .class||(X.env.scope.kind == .module&&X.env.locals != X.env.globals))=false:=by rw[I.ok.kind];rfl
 have hiσ:i < σ.length:=by rw[I.len];exact(zA4.mp hi).1
 have cne:=I.cne;have tracked:∀{a:Addr}{h':Heap},(∃ o,s.heap.get? a=some o/\H a=none)->Heap.SameBut a s.heap h'->HOk X.prog X.w H h':=λ{a h'} ha hs b ob e=>by
   obtain⟨_,_,hfree⟩:=ha;refine(I.hok b ob e).stay (λ c w' hc q=>(hs.2 c ?_).trans q) (λ _ q=>q) λ _ _ q=>q
   rintro rfl;rcases hc with rfl | hc
   . rw[hfree] at e;cases e
   rw[hfree] at hc;cases hc
 rcases hx with hk | hk
 . refine wpAny_storeName_local hk hn (λ h' hn' hs=>?_) hcls
   obtain⟨oL,_,_,hoL,_⟩:=id hn;refine h _ ⟨I.ok,I.os,I.bare,⟨λ b o e n hb hx=>?_,λ b o e n hb hx=>?_,I.base.free,λ b o e hx=>?_,I.base.tups,I.base.frzs,I.base.tbls⟩,⟨_,hn',λ j y v' e1 e2 e3=>?_⟩,λ y c e=>?_,I.free,I.freeC,λ p hp=>?_,tracked ⟨oL,hoL,I.free⟩ hs,by simpa using I.len⟩ ⟨_,hs,.inl rfl⟩
   . exact(hs.2 b (zAn (zAk (zAd e) I.ok.above))).trans (I.base.keep b o e n hb hx)
   . obtain⟨sl,e1⟩:=I.base.slot b o e n hb hx
     exact⟨sl,(hs.2 b (zAn (zAk (zAd e) I.ok.above))).trans e1⟩
   . obtain⟨o',e1⟩:=I.base.there b o e hx
     exact⟨o',(hs.2 b (zAn (zAk (zAd e) I.ok.above))).trans e1⟩
   . by_cases hj:j=i
     . subst hj
       rw[hi] at e1;cases e1;rw[List.getElem?_set_self hiσ] at e2;cases e2;exact⟨u,r,.inl ⟨hk,by simp⟩⟩
     rw[zBm (Ne.symm hj)] at e2;obtain⟨u',r',q⟩:=hl j y v' e1 e2 e3;refine⟨u',r',?_⟩;rcases q with⟨k,e⟩ | ⟨k,c,e,z⟩
     . refine .inl ⟨k,?_⟩
       have:y≠x:=λ e=>hj (qag4 hN e1 (e ▸ hi))
       simp[this,e]
     exact .inr ⟨k,c,e,z.sameBut hs (cne y c e)⟩
   . obtain⟨w',z⟩:=I.cell y c e
     exact⟨w',z.sameBut hs (cne y c e)⟩
   obtain⟨e,n,ne,nf,d⟩:=I.pin p hp;exact⟨(hs.2 p.1 ne).trans e,n,ne,nf,d⟩
 have hfn:X.fn x=true:=by
   rcases hf with z | z
   . exact z
   rw[z] at hk;cases hk
 obtain⟨c,hc⟩:=I.ok.has x (.inl hk);obtain⟨w',z⟩:=I.cell x c hc;refine wpAny_storeName_cell I.ok.kind hk hc z (λ h' hc' hs=>?_);obtain⟨oc,hoc,hocd⟩:=id z;refine h { s with heap:=h' } ⟨I.ok,I.os,I.bare,⟨λ b o e n hb hx=>?_,λ b o e n hb hx=>?_,I.base.free,λ b o e hx=>?_,I.base.tups,I.base.frzs,I.base.tbls⟩,⟨m,hn.sameBut hs (Ne.symm (cne x c hc)),λ j y v' e1 e2 e3=>?_⟩,λ y c' e=>?_,I.free,I.freeC,λ p hp=>?_,tracked ⟨oc,hoc,I.freeC x c hc⟩ hs,by simpa using I.len⟩ ⟨c,hs,.inr hc⟩
 . exact(hs.2 b (zAn (zAk (zAd e) (I.ok.cab x c hfn hc)))).trans (I.base.keep b o e n hb hx)
 . obtain⟨sl,e1⟩:=I.base.slot b o e n hb hx
   exact⟨sl,(hs.2 b (zAn (zAk (zAd e) (I.ok.cab x c hfn hc)))).trans e1⟩
 . obtain⟨o',e1⟩:=I.base.there b o e hx
   exact⟨o',(hs.2 b (zAn (zAk (zAd e) (I.ok.cab x c hfn hc)))).trans e1⟩
 . by_cases hj:j=i
   . subst hj
     rw[hi] at e1;cases e1;rw[List.getElem?_set_self hiσ] at e2;cases e2;exact⟨u,r,.inr ⟨.inl hk,c,hc,hc'⟩⟩
   rw[zBm (Ne.symm hj)] at e2;obtain⟨u',r',q⟩:=hl j y v' e1 e2 e3;refine⟨u',r',?_⟩;rcases q with q | ⟨k,c',e,z'⟩
   . exact .inl q
   refine .inr ⟨k,c',e,z'.sameBut hs ?_⟩;rintro rfl;exact hj (qag4 hN e1 (I.ok.inj _ _ _ e hc ▸ hi))
 . by_cases hcc:c'=c
   . subst hcc;exact⟨_,hc'⟩
   obtain⟨w2,z2⟩:=I.cell y c' e;exact⟨w2,z2.sameBut hs hcc⟩
 obtain⟨e,n,ne,nf,d⟩:=I.pin p hp;refine⟨(hs.2 p.1 ?_).trans e,n,ne,nf,d⟩;intro q;rw[q,hoc] at e;have q':oc=p.2:=Option.some.inj e;exact d w' (by rw[<- q'];exact hocd)
theorem qad2{A:Around}{E:Value->Shared->Prop}{x:Str}{v:V}{u:Value}{Q:Unit->Shared->Prop}(I:Inv X D4 σ H s)(hN:X.N.Nodup)(hi:X.N[i]? = some x)(hx:Loc X.env.scope x)(r:RelV v u)(h:∀ s',Inv X D4 (σ.set i (some v)) H s'->Q () s')(hf:X.fn x=true∨X.env.scope.names.lookup x=some .local:=by first | exact .inl rfl | exact .inr rfl | assumption):wpAny M A (storeName X.env x u) Q E s :=
 qan9 I hN hi hx r (λ s' I' _=>h s' I') hf
theorem Inv.call'{s':Shared}(I:Inv X D4 σ H s)(ho:s'.os=s.os)(u:Un (frs X.stack) ch H H' s.heap s'.heap)(hok:HOk X.prog X.w H' s'.heap)(hg:AllBare s'.gens)(hch:∀ b∈ch,(b∈X.ex∨X.s₀.heap.objs.size<=b)/\b≠X.env.locals/\(∀ x c,X.env.cells.lookup x=some c->c≠b)/\∀ p∈X.pn++D4,p.1≠b):Inv X D4 σ H' s':=by
 obtain⟨h',g',d',t',o'⟩:=s';have e:o'=s.os:=ho;subst e;exact I.call (g':=g') (t':=t') (d':=d') u hok hg hch
end
abbrev XK:=Value->Option Addr->Hp->Prop
abbrev St:=List (Option V)
abbrev VK:=V->Hp->Prop
abbrev TE:=St->Hp->VK->Prop
abbrev TT:=St->Hp->(Bool->Hp->Prop)->Prop
abbrev TA:=St->Hp->(List V->Hp->Prop)->Prop
structure D7 where
 nx:St->Hp->Prop
 rt:VK
 bk:St->Hp->Prop:=λ _ _=>False
 ct:St->Hp->Prop:=λ _ _=>False
abbrev TS:=D7->St->Hp->Prop
def EP(X:Cx)(D4:List (Addr×Obj))(σ:St)(Q:VK)(u:Value)(s':Shared):Prop:=∃ v H',Inv X D4 σ H' s'/\RelV v u/\Q v H'
def TP(X:Cx)(D4:List (Addr×Obj))(σ:St)(Q:Bool->Hp->Prop)(b:Bool)(s':Shared):Prop:=∃ H',Inv X D4 σ H' s'/\Q b H'
def AP(X:Cx)(D4:List (Addr×Obj))(σ:St)(Q:List V->Hp->Prop)(us:List Value)(s':Shared):Prop:=∃ vs H',Inv X D4 σ H' s'/\Vals vs us/\Q vs H'
def SP(X:Cx)(D4:List (Addr×Obj))(D:D7)(f:Flow)(s':Shared):Prop :=
 match f with
 | .next=>∃ σ' H',Inv X D4 σ' H' s'/\D.nx σ' H'
 | .brk=>∃ σ' H',Inv X D4 σ' H' s'/\D.bk σ' H'
 | .cont=>∃ σ' H',Inv X D4 σ' H' s'/\D.ct σ' H'
 | .ret u=>∃ v σ' H',Inv X D4 σ' H' s'/\RelV v u/\D.rt v H'
def PE(X:Cx)(e:Expr)(t:TE):Prop :=
 ∀(D4:List (Addr×Obj))(s:Shared)(σ:St)(H:Hp)(Q:VK),Inv X D4 σ H s->t σ H Q->wpAny (model X.prog X.w) X.A (eval e X.env) (EP X D4 σ Q) X.xe s
def PT(X:Cx)(e:Expr)(t:TT):Prop :=
 ∀(D4:List (Addr×Obj))(s:Shared)(σ:St)(H:Hp)(Q:Bool->Hp->Prop),Inv X D4 σ H s->t σ H Q->wpAny (model X.prog X.w) X.A (isTrue e X.env (eval e X.env)) (TP X D4 σ Q) X.xe s
def PW(X:Cx)(e:Expr)(t:TT):Prop :=
 ∀(whole:Sem Value)(D4:List (Addr×Obj))(s:Shared)(σ:St)(H:Hp)(Q:Bool->Hp->Prop),Inv X D4 σ H s->t σ H Q->wpAny (model X.prog X.w) X.A (isTrue e X.env whole) (TP X D4 σ Q) X.xe s
theorem PW.pt{X:Cx}{e:Expr}{t:TT}(h:PW X e t):PT X e t:=h _
def PA(X:Cx)(es:List Expr)(t:TA):Prop :=
 ∀(pos:Pos)(D4:List (Addr×Obj))(s:Shared)(σ:St)(H:Hp)(Q:List V->Hp->Prop),Inv X D4 σ H s->t σ H Q->wpAny (model X.prog X.w) X.A (spliced (backTo pos (starEach es X.env))) (AP X D4 σ Q) X.xe s
def PS(X:Cx)(st:Stmt)(t:TS):Prop :=
 ∀(D4:List (Addr×Obj))(s:Shared)(σ:St)(H:Hp)(D:D7),Inv X D4 σ H s->t D σ H->wpAny (model X.prog X.w) X.A (exec st X.env) (SP X D4 D) X.xe s
def PSs(X:Cx)(st:List Stmt)(t:TS):Prop :=
 ∀(D4:List (Addr×Obj))(s:Shared)(σ:St)(H:Hp)(D:D7),Inv X D4 σ H s->t D σ H->wpAny (model X.prog X.w) X.A (execs st X.env) (SP X D4 D) X.xe s
theorem thn{α:Type}{t:Sem α}{Q Q':α->Shared->Prop}{A:Around}{E:Value->Shared->Prop}{s:Shared}(h:wpAny M A t Q E s)(hQ:∀ a s,Q a s->Q' a s):wpAny M A t Q' E s:=wpAny_mono h hQ λ _ _ x=>x
section
variable{X:Cx}
def Fy(i:Nat):TE:=λ σ H Q=>∃ v,σ[i]? = some (some v)/\Q v H
def tC(v:V):TE:=λ _ H Q=>Q v H
theorem qt2{x:Str}{pos:Pos}(hN:X.N[i]? = some x)(hv:Vis X.env.scope x)(hd:(x == ("__debug__" : Str))=false:=by decide)(hcd:(x == ("__classdict__" : Str))=false:=by decide):PE X (.Name x pos) (Fy i):=by
 intro D4 s σ H Q I h;obtain⟨v,e,h⟩:=h;obtain⟨m,hn,hl⟩:=I.loc;obtain⟨u,r,l⟩:=hl i x v hN e hv;have fin:EP X D4 σ Q u s:=⟨v,H,I,r,h⟩
 rcases l with⟨hk,hm⟩ | ⟨hk,c,hc,hcell⟩
 . exact wpAny_Name (wpAny_loadName_local I.ok.kind hk hn hm fin) hd
 rcases hk with hk | hk
 . exact wpAny_Name (wpAny_loadName_cell I.ok.kind hk hc hcell fin) hd
 exact wpAny_Name (wpAny_loadName_free I.ok.kind hk hc hcell fin hcd) hd
theorem qK8{i j pos}:PE X (.Constant (.int i) j pos) (tC (.int i)):=λ _ _ _ H _ I h=>wpAny_Constant_int ⟨.int i,H,I.tok _,⟨_,rfl⟩,h⟩
theorem pe_bl{b j pos}:PE X (.Constant (.bool b) j pos) (tC (.bl b)):=λ _ _ _ H _ I h=>Constant_bool ⟨.bl b,H,I,rfl,h⟩
theorem qaK9{j pos}:PE X (.Constant .none j pos) (tC .non):=λ _ _ _ H _ I h=>Constant_none ⟨.non,H,I,rfl,h⟩
theorem qaT1{x j pos}:PE X (.Constant (.str x) j pos) (tC (.str x)):=λ _ _ _ H _ I h=>Calls.Constant_str ⟨.str x,H,I.tok _,⟨_,rfl⟩,h⟩
def Gl(X:Cx)(x:Str):Prop:=X.env.kindOf x=some .globalImplicit
theorem qah8{E:Value->Shared->Prop}{D4:List (Addr×Obj)}{s:Shared}{σ:St}{H:Hp}{x:Str}{u:Value}{pos:Pos}{Q:Value->Shared->Prop}(I:Inv X D4 σ H s)(hg:Gl X x)(hm:X.mg x=some u)(h:Q u s)(hd:(x == ("__debug__" : Str))=false:=by decide):wpAny (model X.prog X.w) X.A (eval (.Name x pos) X.env) Q E s :=
 Calls.Name_function_global I.ok.kind hg (Calls.loadGlobal_global (by rw[I.ok.glob];exact I.mod.glob.keeps I.bk) hm h) hd
theorem qah9{E:Value->Shared->Prop}{D4:List (Addr×Obj)}{s:Shared}{σ:St}{H:Hp}{x:Str}{u:Value}{pos:Pos}{Q:Value->Shared->Prop}(I:Inv X D4 σ H s)(hg:Gl X x)(hm:X.mg x=none)(hv:bootBuiltins x=some u)(h:Q u s)(hn:x ≠ "__name__" := by decide)(hd:(x == ("__debug__" : Str))=false:=by decide):wpAny (model X.prog X.w) X.A (eval (.Name x pos) X.env) Q E s:=by
 obtain⟨mb,h1,h2⟩:=I.mod.blt;exact Calls.Name_function_global I.ok.kind hg (Calls.loadGlobal_builtin (by rw[I.ok.glob];exact I.mod.glob.keeps I.bk) hm (by rw[I.ok.blt];exact h1.keeps I.bk) ((h2 x hn).trans hv) h) hd
theorem qaw3{x:Str}{v:V}{u:Value}{pos:Pos}(hg:Gl X x)(hm:X.mg x=some u)(r:RelV v u)(hd:(x == ("__debug__" : Str))=false:=by decide):PE X (.Name x pos) (tC v) :=
 λ _ _ _ H _ I h=>qah8 I hg hm ⟨v,H,I,r,h⟩ hd
theorem qaL2{x:Str}{v:V}{u:Value}{pos:Pos}(hg:Gl X x)(hm:X.mg x=none)(hv:bootBuiltins x=some u)(r:RelV v u)(hn:x ≠ "__name__" := by decide)(hd:(x == ("__debug__" : Str))=false:=by decide):PE X (.Name x pos) (tC v) :=
 λ _ _ _ H _ I h=>qah9 I hg hm hv ⟨v,H,I,r,h⟩ hn hd
variable{a b:Expr}{ta tb:TE}{pos:Pos}
def tB(t:TE):TT:=λ σ H Q=>t σ H λ x H1=>∃ c,x=.bl c/\Q c H1
theorem qaB3{e:Expr}{t:TE}(h:PE X e t)(he:∀ whole,isTrue e X.env whole=(do let v <- whole;standAt e.pos;holding [v] (truthy v)):=by intro _;rfl):PT X e (tB t):=by
 intro D4 s σ H Q I hw;refine isTrue_plain (thn (h D4 s σ H _ I hw) λ v s1 ⟨x,H1,I1,r1,q1⟩=>?_) (he _);obtain⟨d,rfl,q⟩:=q1;cases r1;exact wpAny_truthy_bool ⟨H1,I1,q⟩
variable{tA tB':TT}{rest:List Expr}
def tAnd(t u:TT):TT:=λ σ H Q=>t σ H λ c H1=>if c=true then u σ H1 Q else Q false H1
def tOr(t u:TT):TT:=λ σ H Q=>t σ H λ c H1=>if c=true then Q true H1 else u σ H1 Q
def tNot(t:TT):TT:=λ σ H Q=>t σ H λ c H1=>Q (!c) H1
theorem qaJ8(ha:PT X a tA):PW X (.BoolOp .And [a] pos) tA:=by
 intro wh D4 s σ H Q I h;refine isTrue_and (thn (ha D4 s σ H Q I h) λ c s1 e=>?_);cases c with
 | true=>exact isTrue_and_nil e
 | false=>exact e
theorem qaS3(ha:PT X a tA):PW X (.BoolOp .Or [a] pos) tA:=by
 intro wh D4 s σ H Q I h;refine isTrue_or (thn (ha D4 s σ H Q I h) λ c s1 e=>?_);cases c with
 | false=>exact isTrue_or_nil e
 | true=>exact e
theorem qaS4(ha:PT X a tA)(hb:PW X (.BoolOp .And (b::rest) pos) tB'):PW X (.BoolOp .And (a::b::rest) pos) (tAnd tA tB'):=by
 intro wh D4 s σ H Q I h;refine isTrue_and (thn (ha D4 s σ H _ I h) λ c s1 ⟨H1,I1,q1⟩=>?_);cases c with
 | true=>exact hb wh D4 s1 σ H1 Q I1 q1
 | false=>exact⟨H1,I1,q1⟩
theorem pw_or(ha:PT X a tA)(hb:PW X (.BoolOp .Or (b::rest) pos) tB'):PW X (.BoolOp .Or (a::b::rest) pos) (tOr tA tB'):=by
 intro wh D4 s σ H Q I h;refine isTrue_or (thn (ha D4 s σ H _ I h) λ c s1 ⟨H1,I1,q1⟩=>?_);cases c with
 | true=>exact⟨H1,I1,q1⟩
 | false=>exact hb wh D4 s1 σ H1 Q I1 q1
theorem qaJ9(ha:PT X a tA):PT X (.UnaryOp .Not a pos) (tNot tA):=by
 intro D4 s σ H Q I h;exact isTrue_not (ha D4 s σ H (λ c H1=>Q (!c) H1) I h)
def tAndV(ta tb:TE):TE:=λ σ H Q=>ta σ H λ x H1=>∃ c,x=.bl c/\if c=true then tb σ H1 Q else Q (.bl false) H1
def tOrV(ta tb:TE):TE:=λ σ H Q=>ta σ H λ x H1=>∃ c,x=.bl c/\if c=true then Q (.bl true) H1 else tb σ H1 Q
def tNotV(ta:TE):TE:=λ σ H Q=>ta σ H λ x H1=>∃ c,x=.bl c/\Q (.bl (!c)) H1
theorem qap0{op}{t:TE}(h:PE X a t):PE X (.BoolOp op [a] pos) t:=λ D4 s σ H Q I hw=>BoolOp_one (h D4 s σ H Q I hw)
theorem qap3(ha:PE X a ta)(hb:PE X (.BoolOp .And (b::rest) pos) tb):PE X (.BoolOp .And (a::b::rest) pos) (tAndV ta tb):=by
 intro D4 s σ H Q I h;refine BoolOp_and (thn (ha D4 s σ H _ I h) λ v s1 ⟨x,H1,I1,r1,q1⟩=>?_);obtain⟨c,rfl,q1⟩:=q1;cases r1;refine wpAny_truthy_bool ?_;cases c with
 | true=>exact hb D4 s1 σ H1 Q I1 q1
 | false=>exact⟨.bl false,H1,I1,rfl,q1⟩
theorem pe_or(ha:PE X a ta)(hb:PE X (.BoolOp .Or (b::rest) pos) tb):PE X (.BoolOp .Or (a::b::rest) pos) (tOrV ta tb):=by
 intro D4 s σ H Q I h;refine BoolOp_or (thn (ha D4 s σ H _ I h) λ v s1 ⟨x,H1,I1,r1,q1⟩=>?_);obtain⟨c,rfl,q1⟩:=q1;cases r1;refine wpAny_truthy_bool ?_;cases c with
 | false=>exact hb D4 s1 σ H1 Q I1 q1
 | true=>exact⟨.bl true,H1,I1,rfl,q1⟩
theorem qaK8(ha:PE X a ta):PE X (.UnaryOp .Not a pos) (tNotV ta):=by
 intro D4 s σ H Q I h;refine UnaryOp_ (thn (ha D4 s σ H _ I h) λ v s1 ⟨x,H1,I1,r1,q1⟩=>?_);obtain⟨c,rfl,q1⟩:=q1;cases r1;exact not_of (wpAny_truthy_bool ⟨.bl (!c),H1,I1,rfl,q1⟩)
def tIf(t:TT)(ta tb:TE):TE:=λ σ H Q=>t σ H λ c H1=>if c=true then ta σ H1 Q else tb σ H1 Q
theorem qaf5{c:Expr}(hc:PT X c tA)(ha:PE X a ta)(hb:PE X b tb):PE X (.IfExp c a b pos) (tIf tA ta tb):=by
 intro D4 s σ H Q I h;refine wpAny_IfExp (thn (hc D4 s σ H _ I h) λ d s1 ⟨H1,I1,q1⟩=>?_);cases d with
 | true=>exact ha D4 s1 σ H1 Q I1 q1
 | false=>exact hb D4 s1 σ H1 Q I1 q1
end
def SqL(K:PySem.W.Frag)(H:Hp)(a:Addr)(xs:List V):Prop :=
 Rd H a (.lst xs) ∨
   ∃(o:Obj)(its:Array Value)(n:Nat),K.lookup a=some o/\o.cls=.type "list" /\ o.dict=none/\o.data=.seq its n/\its.size<=sizeLine/\Vals xs its.toList
def SqT(K:PySem.W.Frag)(H:Hp)(a:Addr)(xs:List V):Prop :=
 Rd H a (.tup xs) ∨
   ∃(o:Obj)(its:Array Value)(n:Nat),K.lookup a=some o/\o.cls=.type "tuple" /\ o.data=.seq its n/\its.size<=sizeLine/\Vals xs its.toList
def absV:Value->Option V
 | .none=>some .non
 | .bool b=>some (.bl b)
 | .int i _=>some (.int i)
 | .str x _=>some (.str x)
 | .bytes b _=>some (.byt b)
 | .float b _=>some (.flt b)
 | .ref a=>some (.ref a)
 | .type n=>some (.ty n)
 | _=>none
theorem RelV.abs{x:V}{u:Value}(r:RelV x u):absV u=some x:=by
 cases x with
 | non=>cases r;rfl
 | bl _=>cases r;rfl
 | int _=>obtain⟨t,rfl⟩:=r;rfl
 | str _=>obtain⟨t,rfl⟩:=r;rfl
 | byt _=>obtain⟨t,rfl⟩:=r;rfl
 | flt _=>obtain⟨t,rfl⟩:=r;rfl
 | ref _=>cases r;rfl
 | ty _=>cases r;rfl
theorem RelV.inj{x y:V}{u:Value}(r:RelV x u)(q:RelV y u):x=y:=Option.some.inj (r.abs.symm.trans q.abs)
theorem Vals.inj:∀{xs ys:List V}{us:List Value},Vals xs us->Vals ys us->xs=ys
 | _,_,_,.nil,.nil=>rfl
 | _,_,_,.cons r t,.cons r' t'=>by rw[r.inj r',Vals.inj t t']
section
variable{X:Cx}{D4:List (Addr×Obj)}{σ:St}{H:Hp}{s:Shared}{a:Addr}{xs ys:List V}
theorem SqL.of{K:PySem.W.Frag}(h:H a=some (.lst xs)):SqL K H a xs:=.inl (.inl h)
theorem Inv.list(I:Inv X D4 σ H s)(h:SqL X.K H a xs):∃ its:List Value,Vals xs its/\PlainL s.heap a its.toArray/\xs.length<=sizeLine:=by
 rcases h with h | ⟨o,its,n,hk,hc,hd,hs,hz,r⟩
 . obtain⟨z,its,n,r,e⟩:=h.ok I.hok
   exact⟨its,r,⟨_,n,e,rfl,rfl,rfl⟩,z⟩
 refine⟨its.toList,r,⟨o,n,I.kIn a o hk,hc,hd,by simpa using hs⟩,?_⟩;have e:=r.length;simp only[Array.length_toList] at e;lia
theorem Inv.tuple(I:Inv X D4 σ H s)(h:SqT X.K H a xs):∃ its:List Value,Vals xs its/\IsTup s.heap a its.toArray/\xs.length<=sizeLine:=by
 rcases h with h | ⟨o,its,n,hk,hc,hs,hz,r⟩
 . obtain⟨z,its,r,p⟩:=h.ok I.hok
   exact⟨its,r,p,z⟩
 refine⟨its.toList,r,⟨o,I.kIn a o hk,hc,n,by simpa using hs⟩,?_⟩;have e:=r.length;simp only[Array.length_toList] at e;lia
theorem Inv.list_inj(I:Inv X D4 σ H s)(h:SqL X.K H a xs)(h':SqL X.K H a ys):xs=ys:=by
 obtain⟨its,r,⟨o,n,e,_,_,d⟩,_⟩:=I.list h;obtain⟨its',r',⟨o',n',e',_,_,d'⟩,_⟩:=I.list h';rw[e] at e';cases e';rw[d] at d';injection d' with d1 _
 have:its=its':=by simpa using congrArg Array.toList d1
 subst this;exact r.inj r'
end
abbrev Cx.wish(X:Cx)(E:Value->Shared->Prop):Cx:={ X with xe:=E }
abbrev Cx.nox(X:Cx):Cx:=X.wish λ _ _=>False
theorem Cx.Ok.wish{X:Cx}(ok:X.Ok)(E:Value->Shared->Prop):(X.wish E).Ok :=
 ⟨ok.mod,ok.kind,ok.glob,ok.blt,ok.above,ok.inj,ok.has,ok.cab,ok.hd,ok.frames,ok.stk,ok.exf,ok.bs,ok.bsz,ok.noex,ok.exfs,ok.funs,ok.frf⟩
theorem Cx.Ok.unwish{X:Cx}{E:Value->Shared->Prop}(ok:(X.wish E).Ok):X.Ok :=
 ⟨ok.mod,ok.kind,ok.glob,ok.blt,ok.above,ok.inj,ok.has,ok.cab,ok.hd,ok.frames,ok.stk,ok.exf,ok.bs,ok.bsz,ok.noex,ok.exfs,ok.funs,ok.frf⟩
section
variable{X:Cx}{D4:List (Addr×Obj)}{σ:St}{H:Hp}{s:Shared}{E:Value->Shared->Prop}
theorem Inv.wish(I:Inv X D4 σ H s)(E:Value->Shared->Prop):Inv (X.wish E) D4 σ H s:=⟨I.ok.wish E,I.os,I.bare,I.base,I.loc,I.cell,I.free,I.freeC,I.pin,I.hok,I.len⟩
theorem Inv.unwish(I:Inv (X.wish E) D4 σ H s):Inv X D4 σ H s:=⟨I.ok.unwish,I.os,I.bare,I.base,I.loc,I.cell,I.free,I.freeC,I.pin,I.hok,I.len⟩
theorem SP.unwish{D:D7}{f:Flow}{s':Shared}(h:SP (X.wish E) D4 D f s'):SP X D4 D f s':=by
 cases f with
 | next=>obtain⟨σ',H',I,q⟩:=h;exact⟨σ',H',I.unwish,q⟩
 | brk=>obtain⟨σ',H',I,q⟩:=h;exact⟨σ',H',I.unwish,q⟩
 | cont=>obtain⟨σ',H',I,q⟩:=h;exact⟨σ',H',I.unwish,q⟩
 | ret u=>obtain⟨v,σ',H',I,r,q⟩:=h;exact⟨v,σ',H',I.unwish,r,q⟩
theorem PSs.nox{st:List Stmt}{t:TS}(h:PSs X.nox st t):PSs X st t:=λ D4 s σ H D I hw =>
 wpAny_mono (h D4 s σ H D (I.wish _) hw) (λ _ _ q=>q.unwish) λ _ _ z=>False.elim z
end
section
variable{X:Cx}{st:Stmt}{rest:List Stmt}{t u:TS}{e:Expr}{te:TE}{pos:Pos}
def tNext:TS:=λ D σ H=>D.nx σ H
def tSeq(t u:TS):TS:=λ D σ H=>t { D with nx:=u D } σ H
theorem qav7:PSs X [] tNext:=λ _ _ σ H _ I h=>wpAny_execs_nil ⟨σ,H,I,h⟩
theorem qQ4(h1:PS X st t)(h2:PSs X rest u):PSs X (st::rest) (tSeq t u):=by
 intro D4 s σ H D I h;refine wpAny_execs_cons (thn (h1 D4 s σ H { D with nx:=u D } I h) λ f s1 q=>?_);cases f with
 | next =>
   obtain⟨σ',H',I',q⟩:=q;exact h2 D4 s1 σ' H' D I' q
 | ret v=>exact q
 | brk=>exact q
 | cont=>exact q
theorem qz8(h1:PS X st t):PSs X [st] t:=by
 intro D4 s σ H D I h;refine wpAny_execs_cons (thn (h1 D4 s σ H D I h) λ f s1 q=>?_);cases f with
 | next=>exact wpAny_execs_nil q
 | ret v=>exact q
 | brk=>exact q
 | cont=>exact q
theorem Inv.quiet{D4:List (Addr×Obj)}{σ:St}{H:Hp}{s:Shared}(I:Inv X D4 σ H s):interactive X.env=false:=by simp[interactive,I.ok.kind]
def tDrop(te:TE):TS:=λ D σ H=>te σ H λ _ H1=>D.nx σ H1
theorem qaK1(he:PE X e te)(hs:swapsWith e none pos.line X.env=pure false:=by rfl):PS X (.Expr e pos) (tDrop te):=by
 intro D4 s σ H D I h;exact wpAny_Expr_any (thn (he D4 s σ H _ I h) λ v s1 ⟨x,H1,I1,r1,q1⟩=>⟨σ,H1,I1,q1⟩) I.quiet hs
def tRet(te:TE):TS:=λ D σ H=>te σ H D.rt
theorem qZ9(he:PE X e te):PS X (.Return (some e) pos) (tRet te):=by
 intro D4 s σ H D I h;exact wpAny_Return_some (thn (he D4 s σ H _ I h) λ v s1 ⟨x,H1,I1,r1,q1⟩=>⟨x,σ,H1,I1,r1,q1⟩)
def tIfS(c:TT)(t u:TS):TS:=λ D σ H=>c σ H λ b H1=>if b=true then t D σ H1 else u D σ H1
theorem ps_if{c:Expr}{a b:List Stmt}{tc:TT}(hc:PT X c tc)(ha:PSs X a t)(hb:PSs X b u):PS X (.If c a b pos) (tIfS tc t u):=by
 intro D4 s σ H D I h;refine wpAny_If (thn (hc D4 s σ H _ I h) λ d s1 ⟨H1,I1,q1⟩=>?_);cases d with
 | true=>exact ha D4 s1 σ H1 D I1 q1
 | false=>exact hb D4 s1 σ H1 D I1 q1
def qaR8:TS:=λ _ _ _=>False
theorem qaB5:PS X st qaR8:=λ _ _ _ _ _ _ h=>h.elim
end
abbrev TG:=V->St->Hp->(St->Hp->Prop)->Prop
abbrev TGs:=List V->St->Hp->(St->Hp->Prop)->Prop
def PG(X:Cx)(target:Expr)(t:TG):Prop :=
 ∀(D4:List (Addr×Obj))(s:Shared)(σ:St)(H:Hp)(v:V)(u:Value)(Q:St->Hp->Prop),Inv X D4 σ H s->RelV v u->t v σ H Q ->
   wpAny (model X.prog X.w) X.A (assign target X.env u) (λ _ s'=>∃ σ' H',Inv X D4 σ' H' s'/\Q σ' H') X.xe s
def PGs(X:Cx)(ts:List Expr)(t:TGs):Prop :=
 ∀(D4:List (Addr×Obj))(s:Shared)(σ:St)(H:Hp)(vs:List V)(us:List Value)(Q:St->Hp->Prop),Inv X D4 σ H s->Vals vs us->t vs σ H Q ->
   wpAny (model X.prog X.w) X.A (assignInOrder ((assignEach ts X.env).map (·.2)) us) (λ _ s'=>∃ σ' H',Inv X D4 σ' H' s'/\Q σ' H') X.xe s
abbrev Ib:=V->V->V->Hp->(Hp->Prop)->Prop
def PSet(X:Cx)(t:Ib):Prop :=
 ∀(D4:List (Addr×Obj))(s:Shared)(σ:St)(H:Hp)(o i v:V)(ov iv u:Value)(Q:Hp->Prop),Inv X D4 σ H s->RelV o ov->RelV i iv->RelV v u->t o i v H Q ->
   wpAny (model X.prog X.w) X.A (setItem ov iv u) (λ _ s'=>∃ H',Inv X D4 σ H' s'/\Q H') X.xe s
abbrev TIp:=V->V->Hp->VK->Prop
def PIp(X:Cx)(op:Operator)(t:TIp):Prop :=
 ∀(D4:List (Addr×Obj))(s:Shared)(σ:St)(H:Hp)(x y:V)(v u:Value)(Q:VK),Inv X D4 σ H s->RelV x v->RelV y u->t x y H Q ->
   wpAny (model X.prog X.w) X.A (inplaceOp op v u) (EP X D4 σ Q) X.xe s
section
variable{X:Cx}{pos:Pos}
def G0(i:Nat):TG:=λ v σ H Q=>Q (σ.set i (some v)) H
theorem qaw1{x:Str}(hN:X.N.Nodup)(hi:X.N[i]? = some x)(hx:Loc X.env.scope x)(hf:X.fn x=true∨X.env.scope.names.lookup x=some .local:=by first | exact .inl rfl | exact .inr rfl | assumption):PG X (.Name x pos) (G0 i):=by
 intro D4 s σ H v u Q I r h;exact wpAny_assign_Name (qad2 I hN hi hx r (λ s' I'=>⟨_,H,I',h⟩) hf)
def gNil:TGs:=λ vs σ H Q=>vs=[]/\Q σ H
def gCons(t:TG)(u:TGs):TGs:=λ vs σ H Q=>∃ v r,vs=v::r/\t v σ H λ σ' H'=>u r σ' H' Q
theorem qaK4:PGs X [] gNil:=by
 intro D4 s σ H vs us Q I r h;obtain⟨e,h⟩:=h;subst e;cases r;exact assignInOrder_nil ⟨σ,H,I,h⟩
theorem qaC1{e:Expr}{es:List Expr}{t:TG}{u:TGs}(h1:PG X e t)(h2:PGs X es u)(hs:(assignEach (e::es) X.env).map (·.2)=assign e X.env::(assignEach es X.env).map (·.2):=by rfl):PGs X (e::es) (gCons t u):=by
 intro D4 s σ H vs us Q I r h;obtain⟨v,vr,e1,h⟩:=h;subst e1;cases r with
 | cons r rr =>
   rw[hs];refine assignInOrder_cons (thn (h1 D4 s σ H _ _ _ I r h) λ _ s1 ⟨σ1,H1,I1,q1⟩=>?_);exact h2 D4 s1 σ1 H1 _ _ Q I1 rr q1
def gTup(K:PySem.W.Frag)(n:Nat)(t:TGs):TG:=λ v σ H Q=>∃ a xs,v=.ref a/\SqT K H a xs/\xs.length=n/\t xs σ H Q
theorem qaS7{es:List Expr}{k:Nat}{t:TGs}(hc:X.calm=true)(h:PGs X es t)(hn:(assignEach es X.env).length=n:=by rfl)(hst:(assignEach es X.env).findIdx? (·.1)=none:=by rfl):PG X (.Tuple es k pos) (gTup X.K n t):=by
 intro D4 s σ H v u Q I r hw;obtain⟨a,xs,e1,hq,hl,hw⟩:=hw;subst e1;cases r;obtain⟨its,rv,ht,hz⟩:=I.tuple hq;refine assign_Tuple_tuple (I.ok.hd hc) ht (by simp[hn,<- hl,rv.length]) hst λ h' hx=>?_
 have I1:Inv X D4 σ H { s with heap:=h' }:=I.kept (t':=s.toks) λ b o e=>hx b o (zAn (zAd e)) e
 exact h D4 _ σ H xs _ Q I1 (by simpa using rv) hw
def gSub(to ti:TE)(t:Ib):TG:=λ v σ H Q=>to σ H λ o H1=>ti σ H1 λ i H2=>t o i v H2 λ H3=>Q σ H3
theorem qaS8{o i:Expr}{to ti:TE}{t:Ib}(ho:PE X o to)(hi:PE X i ti)(hs:PSet X t)(ha:∀ v,assign (.Subscript o i pos) X.env v=(do
     let ov <- holding [v] (eval o X.env);let iv <- holding [v,ov] (eval i X.env)
     standAt pos
     holding [v,ov,iv] (setItem ov iv v)
     release [v,ov,iv] []):=by intro _;rfl):PG X (.Subscript o i pos) (gSub to ti t):=by
 intro D4 s σ H v u Q I r h;rw[ha];refine wpAny_bind (wpAny_holding (thn (ho D4 s σ H _ I h) λ ov s1 ⟨x,H1,I1,r1,q1⟩=>?_));refine wpAny_bind (wpAny_holding (thn (hi D4 s1 σ H1 _ I1 q1) λ iv s2 ⟨y,H2,I2,r2,q2⟩=>?_));refine wpAny_bind (wpAny_standAt (wpAny_bind (wpAny_holding (thn (hs D4 s2 σ H2 x y v ov iv u _ I2 r1 r2 r q2) λ _ s3 ⟨H3,I3,q3⟩=>?_))));exact wpAny_release ⟨σ,H3,I3,q3⟩
def tAsg(te:TE)(g:TG):TS:=λ D σ H=>te σ H λ x H1=>g x σ H1 D.nx
theorem qaS6{tg e:Expr}{te:TE}{g:TG}(he:PE X e te)(hg:PG X tg g)(hs:swapsWithSole [tg] e pos.line X.env=pure false:=by rfl)(hw:swappedStores [tg] e X.env=pure none:=by rfl)(h1:(assignEach [tg] X.env).map (·.2)=[assign tg X.env]:=by rfl):PS X (.Assign [tg] e pos) (tAsg te g):=by
 intro D4 s σ H D I h;refine wpAny_Assign_stores (thn (he D4 s σ H _ I h) λ v s1 ⟨x,H1,I1,r1,q1⟩=>?_) hs hw;rw[h1];exact thn (hg D4 s1 σ H1 x v _ I1 r1 q1) λ _ s2 q=>q
theorem qaK0{x:Str}{e:Expr}{te:TE}{pos':Pos}(hN:X.N.Nodup)(hi:X.N[i]? = some x)(hx:Loc X.env.scope x)(he:PE X e te)(hs:swapsWith e (some (.Name x pos')) pos.line X.env=pure false:=by rfl)(hf:X.fn x=true∨X.env.scope.names.lookup x=some .local:=by first | exact .inl rfl | exact .inr rfl | assumption) :
   PS X (.Assign [.Name x pos'] e pos) (tAsg te (G0 i)):=by
 intro D4 s σ H D I h;refine wpAny_Assign_Name (thn (he D4 s σ H _ I h) λ v s1 ⟨y,H1,I1,r1,q1⟩=>?_) hs;exact qad2 I1 hN hi hx r1 (λ s2 I2=>⟨_,H1,I2,q1⟩) hf
def tAugS(to ti te:TE)(tget:V->V->Hp->VK->Prop)(tip:TIp)(tset:Ib):TS:=λ D σ H=>to σ H λ o H1=>ti σ H1 λ i H2=>tget o i H2 λ x H3=>te σ H3 λ y H4=>tip x y H4 λ z H5=>tset o i z H5 λ H6=>D.nx σ H6
def PGet(X:Cx)(t:V->V->Hp->VK->Prop):Prop :=
 ∀(D4:List (Addr×Obj))(s:Shared)(σ:St)(H:Hp)(o i:V)(ov iv:Value)(Q:VK),Inv X D4 σ H s->RelV o ov->RelV i iv->t o i H Q ->
   wpAny (model X.prog X.w) X.A (getItem ov iv) (EP X D4 σ Q) X.xe s
theorem qaK2{o i e:Expr}{to ti te:TE}{tget:V->V->Hp->VK->Prop}{tip:TIp}{tset:Ib}{op:Operator}{tpos:Pos}(ho:PE X o to)(hi:PE X i ti)(hg:PGet X tget)(he:PE X e te)(hp:PIp X op tip)(hs:PSet X tset)(ha:∀ ov iv new,augStore i ov iv new=(do holding [new,ov,iv] (setItem ov iv new);release [new,ov,iv] [];pure .next):=by intros;rfl):PS X (.AugAssign (.Subscript o i tpos) op e pos) (tAugS to ti te tget tip tset):=by
 intro D4 s σ H D I h;refine wpAny_AugAssign_SubscriptAny (thn (ho D4 s σ H _ I h) λ ov s1 ⟨x1,H1,I1,r1,q1⟩=>?_) ha;refine thn (hi D4 s1 σ H1 _ I1 q1) λ iv s2 ⟨x2,H2,I2,r2,q2⟩=>?_
 refine thn (hg D4 s2 σ H2 x1 x2 ov iv _ I2 r1 r2 q2) λ old s3 ⟨x3,H3,I3,r3,q3⟩=>?_
 refine thn (he D4 s3 σ H3 _ I3 q3) λ v s4 ⟨x4,H4,I4,r4,q4⟩=>?_
 refine thn (hp D4 s4 σ H4 x3 x4 old v _ I4 r3 r4 q4) λ new s5 ⟨x5,H5,I5,r5,q5⟩=>?_
 exact thn (hs D4 s5 σ H5 x1 x2 x5 ov iv new _ I5 r1 r2 r5 q5) λ _ s6 ⟨H6,I6,q6⟩=>⟨σ,H6,I6,q6⟩
def ipI(f:Int->Int->Int):TIp:=λ x y H Q=>∃ i j,x=.int i/\y=.int j/\Q (.int (f i j)) H
theorem qaV8:PIp X .Add (ipI λ i j=>i+j):=by
 intro D4 s σ H x y v u Q I r1 r2 h;obtain⟨i,j,e1,e2,q⟩:=h;subst e1;subst e2;obtain⟨t,rfl⟩:=r1;obtain⟨t',rfl⟩:=r2;exact iadd_int ⟨.int _,H,I.tok _,⟨_,rfl⟩,q⟩
end
section
variable{X:Cx}{pos:Pos}
def qaR7(c:TT)(tb:TS):TS:=λ D σ H=>∃ W:Nat->St->Hp->Prop,(∃ m,W m σ H)/\∀ m σ H,W m σ H ->
 c σ H λ b H1=>if b=true then ∃ N:St->Hp->Prop,(∀ σ' H',N σ' H'->∃ m',m' < m/\W m' σ' H')/\tb { D with nx:=N,ct:=N,bk:=D.nx } σ H1 else D.nx σ H1
theorem qaB4{c:Expr}{tc:TT}{tb:TS}(hp:PassesOwn (model X.prog X.w) X.A X.env X.xe)(hc:PT X c tc)(hb:PSs X body tb):PS X (.While c body [] pos) (qaR7 tc tb):=by
 intro D4 s σ H D I h;obtain⟨W,⟨m0,w0⟩,turn⟩:=h;refine wpAny_While (codeAny_whileLoop (λ n s'=>∃ σ' H',Inv X D4 σ' H' s'/\W n σ' H') ?_ m0 ⟨σ,H,I,w0⟩);rintro n s1 ⟨σ1,H1,I1,w1⟩;refine wpAny_passesOwn hp (thn (hc D4 s1 σ1 H1 _ I1 (turn n σ1 H1 w1)) λ b s2 ⟨H2,I2,q2⟩=>?_);cases b with
 | true =>
   obtain⟨N,hN,q2⟩:=q2;rw[if_pos rfl];refine wpAny_passesOwn hp (thn (hb D4 s2 σ1 H2 _ I2 q2) λ f s3 q3=>?_);cases f with
   | next =>
     obtain⟨σ3,H3,I3,n3⟩:=q3;obtain⟨m',hm,w3⟩:=hN σ3 H3 n3;exact⟨m',hm,σ3,H3,I3,w3⟩
   | cont =>
     obtain⟨σ3,H3,I3,n3⟩:=q3;obtain⟨m',hm,w3⟩:=hN σ3 H3 n3;exact⟨m',hm,σ3,H3,I3,w3⟩
   | brk=>exact q3
   | ret v=>exact q3
 | false =>
   rw[if_neg zAj];exact wpAny_execs_nil ⟨σ1,H2,I2,q2⟩
end
structure It where
 go:Nat->Hp->Prop
 yld:Nat->Hp->V->Hp->Prop
 stop:Nat->Hp->Prop
def F4(X:Cx)(D4:List (Addr×Obj))(H:Hp)(b:Addr):Prop :=
 H b=none/\b≠X.env.locals/\b∉X.fs/\(b∈X.ex∨X.s₀.heap.objs.size<=b)/\(∀ x c,X.env.cells.lookup x=some c->c≠b)/\∀ p∈X.pn++D4,p.1≠b
theorem Inv.fpOk{X:Cx}{D4:List (Addr×Obj)}{σ:St}{H H':Hp}{s:Shared}{b:Addr}(I:Inv X D4 σ H s)(hb:s.heap.objs.size<=b)(hn:H' b=none):F4 X D4 H' b:=by
 refine⟨hn,Nat.ne_of_gt (zAk I.lt hb),I.nofs hb,.inr (zAp I.sz hb),λ x c e z=>?_,λ p hp z=>?_⟩
 . obtain⟨v,q⟩:=I.cell x c e
   exact absurd (zAk q.lt (by rw[z];exact hb)) (Nat.lt_irrefl _)
 exact absurd (zAk (zAd (I.pin p hp).1) (by rw[z];exact hb)) (Nat.lt_irrefl _)
structure Ic(P:Program)(w:World)(K:PySem.W.Frag)(tg:Expr)(J:It)(fp:List Addr)(it:Addr)(tn:Nat->Heap->Prop):Prop where
 mem:it∈fp
 obj:∀ i h,tn i h->∀ b∈fp,∃ o,h.get? b=some o/\∀ v,o.data≠.cell v
 keep:∀ i h h',tn i h->(∀ b∈fp,∀ o,h.get? b=some o->h'.get? b=some o)->tn i h'
 item:∀(X:Cx),X.prog=P->X.w=w->X.K=K->X.calm=true->∀(i:Nat)(D4:List (Addr×Obj))(s:Shared)(σ:St)(H:Hp)(E:Value->Shared->Prop),Inv X D4 σ H s->(∀ b∈fp,F4 X D4 H b)->tn i s.heap->J.go i H ->
   wpAny (model P w) X.A (pyNext (.ref it)) (λ r s1=>∃ u,r=some u /\
     wpAny (model P w) X.A (letOwnedTupleGo tg (.ref it) u) (λ _ s2=>∃ x H',Inv X D4 σ H' s2/\RelV x u/\J.yld i H x H'/\tn (i+1) s2.heap/\∀ b∈fp,H' b=none) E s1) E s
 done:∀(X:Cx),X.prog=P->X.w=w->X.K=K->X.calm=true->∀(i:Nat)(D4:List (Addr×Obj))(s:Shared)(σ:St)(H:Hp)(E:Value->Shared->Prop),Inv X D4 σ H s->(∀ b∈fp,F4 X D4 H b)->tn i s.heap->J.stop i H ->
   wpAny (model P w) X.A (pyNext (.ref it)) (λ r s1=>r=none/\Inv X D4 σ H s1) E s
 self:∀(A:Around)(i:Nat)(s:Shared)(Q:Value->Shared->Prop)(E:Value->Shared->Prop),tn i s.heap->Q (.ref it) s->wpAny (model P w) A (pyIter (.ref it)) Q E s
abbrev TI:=St->Hp->(It->Hp->Prop)->Prop
def PIE(X:Cx)(D4:List (Addr×Obj))(σ:St)(tg:Expr)(R:It->Hp->Prop)(itv:Value)(s2:Shared):Prop :=
 ∃(it:Addr)(fp:List Addr)(tn:Nat->Heap->Prop)(J:It)(H':Hp),itv=.ref it/\Inv X D4 σ H' s2/\Ic X.prog X.w X.K tg J fp it tn/\tn 0 s2.heap/\(∀ b∈fp,F4 X D4 H' b)/\R J H'
def PI(X:Cx)(tg iter:Expr)(wi:TI):Prop :=
 ∀(D4:List (Addr×Obj))(s:Shared)(σ:St)(H:Hp)(R:It->Hp->Prop),Inv X D4 σ H s->wi σ H R ->
   wpAny (model X.prog X.w) X.A (eval iter X.env) (λ v s1=>wpAny (model X.prog X.w) X.A (pyIter v) (PIE X D4 σ tg R) X.xe s1) X.xe s
theorem go_of{A:Around}{E:Value->Shared->Prop}{s:Shared}{tg:Expr}{it:Addr}{u:Value}{o:Obj}{n:String}{vs:Array Value}{Q:Unit->Shared->Prop}(ho:s.heap.get? it=some o)(hc:o.cls=.type n)(hd:o.data=.fields vs)(hn:["enumerate", "zip", "dict_itemiterator", "dict_reverseitemiterator", "odict_iterator", "itertools.zip_longest", "itertools.pairwise"].contains n=false)(hQ:Q () s):wpAny M A (letOwnedTupleGo tg (.ref it) u) Q E s:=by
 unfold letOwnedTupleGo;cases tg<;>first
   | exact wpAny_pure hQ
   | (cases u<;>first
       | exact wpAny_pure hQ
       | (refine wpAny_bind (wpAny_load ho ?_)
          rw[hc,hd];show wpAny M A (if (["enumerate", "zip", "dict_itemiterator", "dict_reverseitemiterator", "odict_iterator", "itertools.zip_longest", "itertools.pairwise"].contains n&&vs[0]? == some (rawInt _))=true then _ else _) Q E s;rw[if_neg (by intro h;rw[hn,Bool.false_and] at h;cases h)];exact wpAny_pure hQ))
def Itl(K:PySem.W.Frag)(a:Addr):It :=
 ⟨λ i H=>∃ xs x,SqL K H a xs/\xs[i]? = some x,λ i H x H'=>H'=H/\∀ xs,SqL K H a xs->xs[i]? = some x,λ i H=>∃ xs,SqL K H a xs/\xs.length<=i⟩
def Itr(lo:Int)(n:Nat):It:=⟨λ i _=>i < n,λ i H x H'=>H'=H/\x=.int (lo+i),λ i _=>n<=i⟩
theorem qan3{P:Program}{w:World}{K:PySem.W.Frag}{tg:Expr}(a it:Addr):Ic P w K tg (Itl K a) [it] it (λ i h=>h.IsListIter it a i) where
 mem:=by simp
 obj:=λ i h st b hb=>by
   have e:b=it:=by simpa using hb
   subst e;obtain⟨o,e,c,d⟩:=st;exact⟨o,e,λ v z=>by rw[d] at z;cases z⟩
 keep:=λ i h h' st k=>st.at λ o e=>k it (by simp) o e
 item:=by
   intro X hP hw hK hc i D4 s σ H E I hf st hg;subst hP hw hK;obtain⟨xs,x,hq,hx⟩:=hg;obtain⟨its,rv,p,hz⟩:=I.list hq;obtain⟨u,hu,ru⟩:=rv.get hx;obtain⟨f0,f1,f2,f3,f4,f5⟩:=hf it (by simp);refine wpAny_pyNext_list_item st p.isList (x:=u) (by simpa using hu) λ h' st' sb=>?_
   have I1:Inv X D4 σ H { s with heap:=h' }:=I.turned (t':=s.toks) (λ b o hb e=>(sb.2 b hb).trans e) f0 f1 f3 f4 f5;obtain⟨o,e,c,d⟩:=id st';exact⟨u,rfl,go_of (s:={ s with heap:=h' }) e c d (by decide) ⟨x,H,I1,ru,⟨rfl,λ ys hy=>by rw[I.list_inj hy hq];exact hx⟩,st',λ b hb=>(hf b hb).1⟩⟩
 done:=by
   intro X hP hw hK hc i D4 s σ H E I hf st hg;subst hP hw hK;obtain⟨xs,hq,hx⟩:=hg;obtain⟨its,rv,p,hz⟩:=I.list hq;obtain⟨f0,f1,f2,f3,f4,f5⟩:=hf it (by simp);have hl:=rv.length;exact wpAny_pyNext_list_end (I.ok.hd hc) st p.isList (by simp;lia) λ h' eb=>⟨rfl,I.turned (t':=s.toks) (λ b o hb e=>eb b o hb e) f0 f1 f3 f4 f5⟩
 self:=λ _ _ _ _ _ st h=>wpAny_pyIter_listiter st h
theorem qac1{P:Program}{w:World}{K:PySem.W.Frag}{tg:Expr}(it:Addr)(lo:Int)(n:Nat):Ic P w K tg (Itr lo n) [it] it (λ i h=>IsRangeIter h it (lo+(i:Nat) * 1) ((n:Int) - (i:Nat)) 1) where
 mem:=by simp
 obj:=λ i h st b hb=>by
   have e:b=it:=by simpa using hb
   subst e;exact⟨_,st,λ v z=>by
     have z':Data.fields _=Data.cell v:=z;cases z'⟩
 keep:=λ i h h' st k=>k it (by simp) _ st
 item:=by
   intro X hP hw hK hc i D4 s σ H E I hf st hg;subst hP hw hK;obtain⟨f0,f1,f2,f3,f4,f5⟩:=hf it (by simp);have W:=Walks.range (prog:=X.prog) (w:=X.w) (I.ok.hd hc) it lo 1 n;refine W.item i s _ _ hg st λ v h' tk hv st' kk=>?_
   obtain⟨t,rfl⟩:=hv;have I1:Inv X D4 σ H { s with heap:=h',toks:=tk }:=I.turned (λ b o hb e=>kk b o (by simpa using hb) e) f0 f1 f3 f4 f5;refine⟨_,rfl,go_of (s:={ s with heap:=h',toks:=tk }) (n := "range_iterator") st' rfl rfl (by decide) ⟨.int (lo+i),H,I1,⟨t,?_⟩,⟨rfl,rfl⟩,st',λ b hb=>(hf b hb).1⟩⟩;rw[Int.mul_one]
 done:=by
   intro X hP hw hK hc i D4 s σ H E I hf st hg;subst hP hw hK;obtain⟨f0,f1,f2,f3,f4,f5⟩:=hf it (by simp);exact wpAny_pyNext_range_end (I.ok.hd hc) st (by have:n<=i:=hg;lia) λ h' eb=>⟨rfl,I.turned (t':=s.toks) (λ b o hb e=>eb b o hb e) f0 f1 f3 f4 f5⟩
 self:=λ _ _ _ _ _ st h=>wpAny_pyIter_rangeiter st h
section
variable{X:Cx}{tg:Expr}
def G1(K:PySem.W.Frag)(tl:TE):TI:=λ σ H R=>tl σ H λ x H1=>∃ a,x=.ref a/\(∃ xs,SqL K H1 a xs)/\R (Itl K a) H1
theorem qE1{l:Expr}{tl:TE}(hl:PE X l tl):PI X tg l (G1 X.K tl):=by
 intro D4 s σ H R I h;refine thn (hl D4 s σ H _ I h) λ v s1 ⟨x,H1,I1,r1,q1⟩=>?_
 obtain⟨a,e,⟨xs,hq⟩,q⟩:=q1;subst e;cases r1;obtain⟨its,rv,p,hz⟩:=I1.list hq;refine wpAny_pyIter_list p.isList ?_;refine⟨s1.heap.objs.size,[s1.heap.objs.size],_,_,H1,rfl,I1.kept (t':=s1.toks) λ b o e=>zA5 _ e,qan3 a _,⟨_,zAu _ rfl,rfl,rfl⟩,λ b hb=>?_,q⟩;have e:b=s1.heap.objs.size:=by simpa using hb
 subst e;exact I1.fpOk (zA3 _) (I1.hok.fresh (zA3 _))
theorem qaB2{D4:List (Addr×Obj)}{σ:St}{H:Hp}{s:Shared}{R:It->Hp->Prop}{E:Value->Shared->Prop}{lo hi:Int}{t u v:Tok}{tk:Nat}(I:Inv X D4 σ H s)(h1:-(2 ^ 62)<=lo)(h2:lo < 2 ^ 62)(h3:-(2 ^ 62)<=hi)(h4:hi < 2 ^ 62)(q:R (Itr lo (hi - lo).toNat) H):wpAny (model X.prog X.w) X.A (pyIter (.ref s.heap.objs.size)) (PIE X D4 σ tg R) E { s with heap:=s.heap.push { cls:=.type "range",data:=.fields #[.int lo t,.int hi u,.int 1 v] },toks:=tk }:=by
 refine wpAny_pyIter_range (IsRange.new ..) (small_one h1 h2 h3 h4) ?_;have I1:Inv X D4 σ H { s with heap:=s.heap.push { cls:=.type "range",data:=.fields #[.int lo t,.int hi u,.int 1 v] },toks:=tk }:=I.kept λ b o e=>zA5 _ e
 refine⟨(s.heap.push { cls:=.type "range",data:=.fields #[.int lo t,.int hi u,.int 1 v] }).objs.size,[(s.heap.push { cls:=.type "range",data:=.fields #[.int lo t,.int hi u,.int 1 v] }).objs.size],_,_,H,rfl,
   I1.kept (t':=tk) λ b o e=>zA5 _ e,qac1 _ lo (hi - lo).toNat,?_,λ b hb=>?_,q⟩
 . have e1:lo+((0:Nat):Int) * 1=lo:=by simp
   have e2:(((hi - lo).toNat:Nat):Int) - ((0:Nat):Int)=Builtin.Range.rangeSize lo hi 1:=by rw[rangeSize_one];split<;>lia
   show IsRangeIter _ _ (lo+((0:Nat):Int) * 1) ((((hi - lo).toNat:Nat):Int) - ((0:Nat):Int)) 1;rw[e1,e2];exact zAu _ rfl
 have e:b=(s.heap.push { cls:=.type "range",data:=.fields #[.int lo t,.int hi u,.int 1 v] }).objs.size:=by simpa using hb
 subst e;exact I1.fpOk (zA3 _) (I1.hok.fresh (zA3 _))
def iRng1(ta:TA):TI:=λ σ H R=>ta σ H λ vs H1=>∃ j:Int,vs=[.int j]/\-(2 ^ 62)<=j/\j < 2 ^ 62/\R (Itr 0 j.toNat) H1
theorem qU6{a:Expr}{ta:TA}{p pos:Pos}(hg:Gl X "range")(hm:X.mg "range" = none)(ha:PA X [a] ta)(hs:starEach [a] X.env=[(false,eval a X.env)]:=by rfl):PI X tg (.Call (.Name "range" p) [a] [] pos) (iRng1 ta):=by
 intro D4 s σ H R I h;refine Call_ (qah9 I hg hm boot_range (PyProof.Rows.callWith_type1 (thn (ha pos D4 s σ H _ I h) λ us s1 ⟨vs,H1,I1,r1,q1⟩=>?_) hs rfl));obtain⟨j,e,q1,q2,q⟩:=q1;subst e;cases r1 with
 | cons r rr =>
   cases rr;obtain⟨t,rfl⟩:=r;exact call_range_1 (qaB2 I1 (by lia) (by lia) q1 q2 (by simpa using q))
def tFor(wi:TI)(g:TG)(tb:TS):TS:=λ D σ H=>wi σ H λ J H1=>∃ W:Nat->Nat->St->Hp->Prop,(∃ m,W 0 m σ H1)/\∀ i m σ H,W i m σ H ->
 (J.stop i H/\D.nx σ H)∨(J.go i H/\∃ N:St->Hp->Prop,(∀ σ' H',N σ' H'->∃ m',m' < m/\W (i+1) m' σ' H')/\∀ x H',J.yld i H x H'->g x σ H' λ σ2 H2=>tb { D with nx:=N,ct:=N,bk:=D.nx } σ2 H2)
def Id(fp:List Addr)(h:Heap):List (Addr×Obj):=fp.filterMap λ b=>(h.get? b).map λ o=>(b,o)
theorem qq6{h:Heap}{b:Addr}{o:Obj}(hb:b∈fp)(e:h.get? b=some o):(b,o)∈Id fp h:=List.mem_filterMap.mpr ⟨b,hb,by rw[e];rfl⟩
theorem qap7{h:Heap}{p:Addr×Obj}(hp:p∈Id fp h):p.1∈fp/\h.get? p.1=some p.2:=by
 obtain⟨b,hb,e⟩:=List.mem_filterMap.mp hp;cases q:h.get? b with
 | none=>rw[q] at e;cases e
 | some o =>
   rw[q] at e;have e':(b,o)=p:=Option.some.inj e;subst e';exact⟨hb,q⟩
theorem Inv.pinned{D4:List (Addr×Obj)}{σ:St}{H:Hp}{s:Shared}(I:Inv X D4 σ H s)(hf:∀ b∈fp,F4 X D4 H b)(ho:∀ b∈fp,∃ o,s.heap.get? b=some o/\∀ v,o.data≠.cell v):Inv X (D4++Id fp s.heap) σ H s :=
 I.pins_of λ p hp=>(zAh.mp hp).elim (λ z=>I.pin p (zAy _ z)) λ z=>by
   obtain⟨hb,e⟩:=qap7 z;obtain⟨f0,f1,f2,_⟩:=hf p.1 hb;obtain⟨o,e',d⟩:=ho p.1 hb;rw[e] at e';cases e';exact⟨e,f0,f1,f2,d⟩
theorem Inv.unpinned{D4 pl:List (Addr×Obj)}{σ:St}{H:Hp}{s:Shared}(I:Inv X (D4++pl) σ H s):Inv X D4 σ H s:=I.pins_of λ p hp=>I.pin p (zAy _ (List.mem_append_left _ hp))
theorem qaB6{iter:Expr}{wi:TI}{g:TG}{tb:TS}{pos:Pos}(hp:PassesOwn (model X.prog X.w) X.A X.env X.xe)(hc:X.calm=true)(hi:PI X tg iter wi)(hg:PG X tg g)(hb:PSs X body tb)(hs:∀ x,foldedSetIterable iter X.env x=pure x:=by intro _;rfl):PS X (.For tg iter body [] pos) (tFor wi g tb):=by
 intro D4 s σ H D I h;refine wpAny_For (thn (hi D4 s σ H _ I h) λ v s1 h1=>thn h1 λ itv s2 h2=>?_) hs;obtain⟨it,fp,tn,J,H2,e,I2,T,st2,f2,W,⟨m0,w0⟩,turn⟩:=h2;subst e;have stat:∀{H':Hp},(∀ b∈fp,H' b=none)->∀ b∈fp,F4 X D4 H' b:=λ hn b hb=>⟨hn b hb,(f2 b hb).2⟩
 refine codeAny_forLoop_any (λ n s'=>∃ i σ' H',Inv X D4 σ' H' s'/\tn i s'.heap/\(∀ b∈fp,H' b=none)/\W i n σ' H') ?_ m0 ⟨0,σ,H2,I2,st2,λ b hb=>(f2 b hb).1,w0⟩;rintro n s3 ⟨i,σ3,H3,I3,st3,fr3,w3⟩;rcases turn i n σ3 H3 w3 with⟨stop,qn⟩ | ⟨go,N,hN,step⟩
 . refine wpAny_passesOwn hp (thn (T.done X rfl rfl rfl hc i D4 s3 σ3 H3 X.xe I3 (stat fr3) st3 stop) λ r s4 ⟨hr,I4⟩=>?_)
   subst hr;exact wpAny_execs_nil ⟨σ3,H3,I4,qn⟩
 refine wpAny_passesOwn hp (thn (T.item X rfl rfl rfl hc i D4 s3 σ3 H3 X.xe I3 (stat fr3) st3 go) λ r s4 ⟨u,hr,h4⟩=>?_);subst hr;refine wpAny_passesOwn hp (thn h4 λ _ s5 ⟨x,H5,I5,r5,y5,st5,fr5⟩=>?_);have I5':=I5.pinned (stat fr5) (T.obj _ _ st5);refine wpAny_passesOwn hp (thn (hg _ s5 σ3 H5 x u _ I5' r5 (step x H5 y5)) λ _ s6 ⟨σ6,H6,I6,q6⟩=>?_);refine wpAny_passesOwn hp (thn (hb _ s6 σ6 H6 _ I6 q6) λ f s7 q7=>?_);have again:∀{σ7:St}{H7:Hp},Inv X (D4++Id fp s5.heap) σ7 H7 s7->N σ7 H7->∃ m,m < n/\∃ i σ' H',Inv X D4 σ' H' s7/\tn i s7.heap/\(∀ b∈fp,H' b=none)/\W i m σ' H':=λ{σ7 H7} I7 n7=>by
   obtain⟨m',hm,w7⟩:=hN σ7 H7 n7;refine⟨m',hm,i+1,σ7,H7,I7.unpinned,T.keep _ _ _ st5 λ b hb o e=>(I7.pin (b,o) (zAy _ (zAy _ (qq6 hb e)))).1,λ b hb=>?_,w7⟩;obtain⟨o,e,d⟩:=T.obj _ _ st5 b hb;exact(I7.pin (b,o) (zAy _ (zAy _ (qq6 hb e)))).2.1
 cases f with
 | next=>obtain⟨σ7,H7,I7,n7⟩:=q7;exact again I7 n7
 | cont=>obtain⟨σ7,H7,I7,n7⟩:=q7;exact again I7 n7
 | brk=>obtain⟨σ7,H7,I7,q7⟩:=q7;exact⟨σ7,H7,I7.unpinned,q7⟩
 | ret v=>obtain⟨x7,σ7,H7,I7,r7,q7⟩:=q7;exact⟨x7,σ7,H7,I7.unpinned,r7,q7⟩
end
theorem qak1{K:PySem.W.Frag}{a:Addr}{xs:List V}{g:TG}{tb:TS}{D:D7}{σ:St}{H:Hp}(Pv:Nat->St->Hp->Prop)(h0:Pv 0 σ H)(hl:∀ i σ H,i<=xs.length->Pv i σ H->SqL K H a xs)(hs:∀ i x σ H,xs[i]? = some x->Pv i σ H->g x σ H λ σ2 H2=>tb { D with nx:=Pv (i+1),ct:=Pv (i+1),bk:=D.nx } σ2 H2)(hd:∀ σ H,Pv xs.length σ H->D.nx σ H) :
   ∃ W:Nat->Nat->St->Hp->Prop,(∃ m,W 0 m σ H)/\∀ i m σ H,W i m σ H ->
     ((Itl K a).stop i H/\D.nx σ H)∨((Itl K a).go i H/\∃ N:St->Hp->Prop,(∀ σ' H',N σ' H'->∃ m',m' < m/\W (i+1) m' σ' H')/\∀ x H',(Itl K a).yld i H x H'->g x σ H' λ σ2 H2=>tb { D with nx:=N,ct:=N,bk:=D.nx } σ2 H2):=by
 refine⟨λ i m σ H=>m=xs.length - i/\i<=xs.length/\Pv i σ H,⟨xs.length,by simp,Nat.zero_le _,h0⟩,?_⟩;rintro i m σ H ⟨rfl,hi,p⟩;have q:=hl i σ H hi p;by_cases hlt:i < xs.length
 . refine .inr ⟨⟨xs,xs[i],q,by simp[hlt]⟩,Pv (i+1),λ σ' H' p'=>⟨xs.length - (i+1),by lia,rfl,hlt,p'⟩,λ x H' y=>?_⟩
   obtain⟨e,y⟩:=y;subst e;exact hs i x σ _ (y xs q) p
 have e:i=xs.length:=by lia
 subst e;exact .inl ⟨⟨xs,q,zA3 _⟩,hd σ H p⟩
theorem qar6{lo:Int}{g:TG}{tb:TS}{D:D7}{σ:St}{H:Hp}(Pv:Nat->St->Hp->Prop)(h0:Pv 0 σ H)(hs:∀ i σ H,i < n->Pv i σ H->g (.int (lo+i)) σ H λ σ2 H2=>tb { D with nx:=Pv (i+1),ct:=Pv (i+1),bk:=D.nx } σ2 H2)(hd:∀ σ H,Pv n σ H->D.nx σ H) :
   ∃ W:Nat->Nat->St->Hp->Prop,(∃ m,W 0 m σ H)/\∀ i m σ H,W i m σ H ->
     ((Itr lo n).stop i H/\D.nx σ H)∨((Itr lo n).go i H/\∃ N:St->Hp->Prop,(∀ σ' H',N σ' H'->∃ m',m' < m/\W (i+1) m' σ' H')/\∀ x H',(Itr lo n).yld i H x H'->g x σ H' λ σ2 H2=>tb { D with nx:=N,ct:=N,bk:=D.nx } σ2 H2):=by
 refine⟨λ i m σ H=>m=n - i/\i<=n/\Pv i σ H,⟨n,by simp,Nat.zero_le _,h0⟩,?_⟩;rintro i m σ H ⟨rfl,hi,p⟩;by_cases hlt:i < n
 . refine .inr ⟨hlt,Pv (i+1),λ σ' H' p'=>⟨n - (i+1),by lia,rfl,hlt,p'⟩,λ x H' y=>?_⟩
   obtain⟨e,y⟩:=y;subst e y;exact hs i σ _ hlt p
 have e:i=n:=by lia
 subst e;exact .inl ⟨zA3 _,hd σ H p⟩
abbrev R2:=V->V->Hp->VK->Prop
def OpR(X:Cx)(f:Value->Value->Sem Value)(r:R2):Prop :=
 ∀(D4:List (Addr×Obj))(s:Shared)(σ:St)(H:Hp)(x y:V)(v u:Value)(Q:VK),Inv X D4 σ H s->RelV x v->RelV y u->r x y H Q ->
   wpAny (model X.prog X.w) X.A (f v u) (EP X D4 σ Q) X.xe s
def UnR(X:Cx)(f:Value->Sem Value)(r:V->Hp->VK->Prop):Prop :=
 ∀(D4:List (Addr×Obj))(s:Shared)(σ:St)(H:Hp)(x:V)(v:Value)(Q:VK),Inv X D4 σ H s->RelV x v->r x H Q ->
   wpAny (model X.prog X.w) X.A (f v) (EP X D4 σ Q) X.xe s
def CallR(X:Cx)(f:Value)(r:List V->Hp->VK->Prop):Prop :=
 ∀(D4:List (Addr×Obj))(s:Shared)(σ:St)(H:Hp)(xs:List V)(us:List Value)(Q:VK),Inv X D4 σ H s->Vals xs us->r xs H Q ->
   wpAny (model X.prog X.w) X.A (call f us) (EP X D4 σ Q) X.xe s
def tOp(r:R2)(ta tb:TE):TE:=λ σ H Q=>ta σ H λ x H1=>tb σ H1 λ y H2=>r x y H2 Q
def tUn(r:V->Hp->VK->Prop)(ta:TE):TE:=λ σ H Q=>ta σ H λ x H1=>r x H1 Q
def rI(C:Int->Int->Prop)(g:Int->Int->V):R2:=λ x y H Q=>∃ i j,x=.int i/\y=.int j/\C i j/\Q (g i j) H
def rI0(g:Int->Int->V):R2:=λ x y H Q=>∃ i j,x=.int i/\y=.int j/\Q (g i j) H
def rU(g:Int->V):V->Hp->VK->Prop:=λ x H Q=>∃ i,x=.int i/\Q (g i) H
section
variable{X:Cx}{a b:Expr}{ta tb:TE}{pos:Pos}
theorem binT(ha:PE X a ta)(hb:PE X b tb){D4:List (Addr×Obj)}{s:Shared}{σ:St}{H:Hp}{R:V->V->Hp->Prop}(I:Inv X D4 σ H s)(h:ta σ H λ x H1=>tb σ H1 λ y H2=>R x y H2){Q:Value->Shared->Prop}{f:Value->Value->Sem Value}(hf:∀ v u s2 x y H2,Inv X D4 σ H2 s2->RelV x v->RelV y u->R x y H2->wpAny (model X.prog X.w) X.A (f v u) Q X.xe s2) :
   wpAny (model X.prog X.w) X.A (eval a X.env) (λ v s₁=>wpAny (model X.prog X.w) X.A (eval b X.env) (λ u s₂=>wpAny (model X.prog X.w) X.A (f v u) Q X.xe s₂) X.xe s₁) X.xe s:=by
 refine thn (ha D4 s σ H _ I h) λ v s1 ⟨x,H1,I1,r1,q1⟩=>?_
 refine thn (hb D4 s1 σ H1 _ I1 q1) λ u s2 ⟨y,H2,I2,r2,q2⟩=>?_
 exact hf v u s2 x y H2 I2 r1 r2 q2
theorem pe_op{op:Operator}{r:R2}(ho:OpR X (binaryOp op) r)(ha:PE X a ta)(hb:PE X b tb):PE X (.BinOp a op b pos) (tOp r ta tb):=by
 intro D4 s σ H Q I h;exact wpAny_BinOp (binT ha hb I h λ v u s2 x y H2 I2 rx ry q=>ho D4 s2 σ H2 x y v u Q I2 rx ry q)
theorem pe_un{op:UnaryOp}{r:V->Hp->VK->Prop}(ho:UnR X (unaryOp op) r)(ha:PE X a ta):PE X (.UnaryOp op a pos) (tUn r ta):=by
 intro D4 s σ H Q I h;exact UnaryOp_ (thn (ha D4 s σ H _ I h) λ v s1 ⟨x,H1,I1,r1,q1⟩=>ho D4 s1 σ H1 x v Q I1 r1 q1)
theorem opI{f:Value->Value->Sem Value}{C:Int->Int->Prop}{g:Int->Int->Int}(rule:∀(i j:Int)(t u:Tok)(s:Shared)(Q:Value->Shared->Prop)(E:Value->Shared->Prop),C i j->Q (.int (g i j) s.toks) { s with toks:=s.toks+1 }->wpAny (model X.prog X.w) X.A (f (.int i t) (.int j u)) Q E s) :
   OpR X f (rI C λ i j=>.int (g i j)):=by
 intro D4 s σ H x y v u Q I rx ry h;obtain⟨i,j,rfl,rfl,hc,q⟩:=h;obtain⟨t,rfl⟩:=rx;obtain⟨t',rfl⟩:=ry;exact rule i j t t' s _ _ hc ⟨.int (g i j),H,I.tok _,⟨_,rfl⟩,q⟩
theorem opI0{f:Value->Value->Sem Value}{g:Int->Int->Int}(rule:∀(i j:Int)(t u:Tok)(s:Shared)(Q:Value->Shared->Prop)(E:Value->Shared->Prop),Q (.int (g i j) s.toks) { s with toks:=s.toks+1 }->wpAny (model X.prog X.w) X.A (f (.int i t) (.int j u)) Q E s) :
   OpR X f (rI0 λ i j=>.int (g i j)):=by
 intro D4 s σ H x y v u Q I rx ry h;obtain⟨i,j,rfl,rfl,q⟩:=h;obtain⟨t,rfl⟩:=rx;obtain⟨t',rfl⟩:=ry;exact rule i j t t' s _ _ ⟨.int (g i j),H,I.tok _,⟨_,rfl⟩,q⟩
theorem opB0{f:Value->Value->Sem Value}{g:Int->Int->Bool}(rule:∀(i j:Int)(t u:Tok)(s:Shared)(Q:Value->Shared->Prop)(E:Value->Shared->Prop),Q (.bool (g i j)) s->wpAny (model X.prog X.w) X.A (f (.int i t) (.int j u)) Q E s) :
   OpR X f (rI0 λ i j=>.bl (g i j)):=by
 intro D4 s σ H x y v u Q I rx ry h;obtain⟨i,j,rfl,rfl,q⟩:=h;obtain⟨t,rfl⟩:=rx;obtain⟨t',rfl⟩:=ry;exact rule i j t t' s _ _ ⟨.bl (g i j),H,I,rfl,q⟩
def CPow(i j:Int):Prop:=0<=j/\j<=1000000/\i.natAbs < 2 ^ 64
def CMul(i j:Int):Prop:=(-(2 ^ 64) < i/\i < 2 ^ 64)∨(-(2 ^ 64) < j/\j < 2 ^ 64)
theorem CMul.ok{i j:Int}(h:CMul i j):IntMulOk i j:=by
 rcases h with⟨h1,h2⟩ | ⟨h1,h2⟩
 . exact .of_left (intBits_le_64 h1 h2)
 exact .of_right (intBits_le_64 h1 h2)
theorem qaU4:OpR X (binaryOp .Add) (rI0 λ i j=>.int (i+j)):=opI0 λ _ _ _ _ _ _ _ q=>add_int q
theorem qt6:OpR X (binaryOp .Sub) (rI0 λ i j=>.int (i - j)):=opI0 λ _ _ _ _ _ _ _ q=>sub_int q
theorem qaT8:OpR X (binaryOp .Mult) (rI CMul λ i j=>.int (i * j)):=opI λ _ _ _ _ _ _ _ hc q=>mul_int q hc.ok
theorem qk9:OpR X (binaryOp .Mod) (rI (λ _ j=>0 < j) λ i j=>.int (i % j)):=opI λ i j _ _ _ _ _ hc q=>by
 have h1:(0:Int) < j:=hc;exact mod_int' (by lia) (by rw[Int.fmod_eq_emod_of_nonneg i (by lia)];exact q)
theorem qaT7:OpR X (binaryOp .Pow) (rI CPow λ i j=>.int (i ^ j.toNat)):=opI λ _ _ _ _ _ _ _ hc q=>pow_int_small hc.1 hc.2.1 hc.2.2 q
theorem unI{f:Value->Sem Value}{g:Int->Int}(rule:∀(i:Int)(t:Tok)(s:Shared)(Q:Value->Shared->Prop)(E:Value->Shared->Prop),Q (.int (g i) s.toks) { s with toks:=s.toks+1 }->wpAny (model X.prog X.w) X.A (f (.int i t)) Q E s) :
   UnR X f (rU λ i=>.int (g i)):=by
 intro D4 s σ H x v Q I rx h;obtain⟨i,rfl,q⟩:=h;obtain⟨t,rfl⟩:=rx;exact rule i t s _ _ ⟨.int (g i),H,I.tok _,⟨_,rfl⟩,q⟩
theorem qaR6:UnR X (unaryOp .USub) (rU λ i=>.int (-i)):=unI λ _ _ _ _ _ q=>neg_int q
end
section
variable{X:Cx}{a b c:Expr}{ta tb tc:TE}{pos:Pos}
theorem qaP4{D4:List (Addr×Obj)}{σ:St}{H:Hp}{s:Shared}{Q:VK}{k k':Bool}(I:Inv X D4 σ H s)(q:Q (.bl k) H)(e:k=k'):EP X D4 σ Q (.bool k') s:=by
 subst e;exact⟨.bl k,H,I,rfl,q⟩
theorem D8:OpR X (compareOp .Lt) (rI0 λ i j=>.bl (decide (i < j))):=opB0 λ _ _ _ _ _ _ _ q=>lt_int q
theorem F9:OpR X (compareOp .LtE) (rI0 λ i j=>.bl (decide (i<=j))):=opB0 λ _ _ _ _ _ _ _ q=>le_int q
theorem By:OpR X (compareOp .Gt) (rI0 λ i j=>.bl (decide (j < i))):=opB0 λ _ _ _ _ _ _ _ q=>gt_int q
theorem G2:OpR X (compareOp .GtE) (rI0 λ i j=>.bl (decide (j<=i))):=opB0 λ _ _ _ _ _ _ _ q=>ge_int q
theorem qaT9:OpR X (compareOp .Is) (λ x y H Q=>y=.non/\Q (.bl (decide (x=.non))) H):=by
 intro D4 s σ H x y v u Q I rx ry h;obtain⟨rfl,q⟩:=h;cases ry;refine is_none_gen (qaP4 I q ?_);cases x<;>first
   | (cases rx;rfl)
   | (obtain⟨t,rfl⟩:=rx;rfl)
theorem qaL8:OpR X (compareOp .IsNot) (λ x y H Q=>y=.non/\Q (.bl (!decide (x=.non))) H):=by
 intro D4 s σ H x y v u Q I rx ry h;obtain⟨rfl,q⟩:=h;cases ry;refine isnot_none_gen (qaP4 I q ?_);cases x<;>first
   | (cases rx;rfl)
   | (obtain⟨t,rfl⟩:=rx;rfl)
theorem OpR.or{f:Value->Value->Sem Value}{r r':R2}(h:OpR X f r)(h':OpR X f r'):OpR X f (λ x y H Q=>r x y H Q∨r' x y H Q):=by
 intro D4 s σ H x y v u Q I rx ry q;rcases q with q | q
 . exact h D4 s σ H x y v u Q I rx ry q
 exact h' D4 s σ H x y v u Q I rx ry q
theorem qa8(b:Expr)(h:op≠.In:=by decide)(h2:op≠.NotIn:=by decide):behindInMarks op b=false:=by
 have e1:(op == CmpOp.In)=false:=by cases op<;>first | rfl | exact absurd rfl h
 have e2:(op == CmpOp.NotIn)=false:=by cases op<;>first | rfl | exact absurd rfl h2
 cases b<;>simp[behindInMarks,e1,e2]
theorem qaL0{r:R2}(ho:OpR X (compareOp op) r)(ha:PE X a ta)(hb:PE X b tb)(hm:behindInMarks op b=false):PE X (.Compare a [op] [b] pos) (tOp r ta tb):=by
 intro D4 s σ H Q I h;exact wpAny_Compare1 (binT ha hb I h λ v u s2 x y H2 I2 rx ry q=>ho D4 s2 σ H2 x y v u Q I2 rx ry q) hm
def tTest(t:TE):TT:=λ σ H Q=>t σ H λ x H'=>∃ k,x=.bl k/\Q k H'
theorem qav6{r:R2}(ho:OpR X (compareOp op) r)(ha:PE X a ta)(hb:PE X b tb)(hm:behindInMarks op b=false):PT X (.Compare a [op] [b] pos) (tTest (tOp r ta tb)):=by
 intro D4 s σ H Q I h;refine wpAny_isTrue_Compare1 (thn (ha D4 s σ H _ I h) λ v s1 ⟨x,H1,I1,r1,q1⟩=>thn (hb D4 s1 σ H1 _ I1 q1) λ u s2 ⟨y,H2,I2,r2,q2⟩ =>
   thn (ho D4 s2 σ H2 x y v u _ I2 r1 r2 q2) λ c s3 ⟨z,H3,I3,r3,k,e,q3⟩=>?_) hm
 subst e;cases r3;exact wpAny_truthy_bool ⟨H3,I3,q3⟩
def qaI3(r r':R2)(ta tb tc:TE):TE:=λ σ H Q=>ta σ H λ x H1=>tb σ H1 λ y H2=>r x y H2 λ z H3=>∃ k,z=.bl k /\
 (if k=true then tc σ H3 λ w' H4=>r' y w' H4 Q else Q (.bl false) H3)
theorem qaf6{op':CmpOp}{r r':R2}(ho:OpR X (compareOp op) r)(ho':OpR X (compareOp op') r')(ha:PE X a ta)(hb:PE X b tb)(hc:PE X c tc)(hm:lastMarks [op,op'] [b,c]=false:=by with_unfolding_all rfl):PE X (.Compare a [op,op'] [b,c] pos) (qaI3 r r' ta tb tc):=by
 intro D4 s σ H Q I h;refine Compare_chain (thn (ha D4 s σ H _ I h) λ v s1 ⟨x,H1,I1,r1,q1⟩=>chain_link (thn (hb D4 s1 σ H1 _ I1 q1) λ u s2 ⟨y,H2,I2,r2,q2⟩ =>
   thn (ho D4 s2 σ H2 x y v u _ I2 r1 r2 q2) λ d s3 ⟨z,H3,I3,r3,k,e,q3⟩=>?_)) hm
 subst e;cases r3;refine wpAny_truthy_bool ?_;cases k with
 | false=>exact ite_ff ⟨.bl false,H3,I3,rfl,q3⟩
 | true=>exact ite_tt (chain_last (thn (hc D4 s3 σ H3 _ I3 q3) λ w' s4 ⟨z',H4,I4,r4,q4⟩=>ho' D4 s4 σ H4 y z' u w' Q I4 r2 r4 q4))
theorem qR7:(sizeLine:Nat) < 2 ^ 63:=by rw[sizeLine_eq];decide
theorem qaf8:OpR X (binaryOp .Add) (λ x y H Q=>∃ i j,x=.str i/\y=.str j/\i.length+j.length<=sizeLine/\Q (.str (i++j)) H):=by
 intro D4 s σ H x y v u Q I rx ry h;obtain⟨i,j,rfl,rfl,hz,q⟩:=h;obtain⟨t,rfl⟩:=rx;obtain⟨t',rfl⟩:=ry;exact add_str (λ t' tk=>⟨.str (i++j),H,I.tok _,⟨_,rfl⟩,q⟩) hz
theorem B7{x:V}(r:Vals [x] us):∃ u,us=[u]/\RelV x u:=by
 cases r with
 | cons r1 r2=>cases r2;exact⟨_,rfl,r1⟩
theorem vals2{x y:V}(r:Vals [x,y] us):∃ u w',us=[u,w']/\RelV x u/\RelV y w':=by
 cases r with
 | cons r1 r2 =>
   cases r2 with
   | cons r3 r4=>cases r4;exact⟨_,_,rfl,r1,r3⟩
theorem qaG8:CallR X (.builtin "abs") (λ xs H Q=>∃ i,xs=[.int i]/\Q (.int (if i < 0 then -i else i)) H):=by
 intro D4 s σ H xs us Q I r h;obtain⟨i,rfl,q⟩:=h;obtain⟨u,rfl,t,rfl⟩:=B7 r;exact call_abs_int λ u tk=>⟨.int (if i < 0 then -i else i),H,I.tok _,⟨_,rfl⟩,q⟩
theorem qat6:CallR X (.type "int") (λ xs H Q=>(∃ i,xs=[.int i]/\Q (.int i) H)∨∃ k,xs=[.bl k]/\Q (.int (if k then 1 else 0)) H):=by
 intro D4 s σ H xs us Q I r h;rcases h with⟨i,rfl,q⟩ | ⟨k,rfl,q⟩
 . obtain⟨u,rfl,t,rfl⟩:=B7 r
   exact call_int_int ⟨.int i,H,I,⟨_,rfl⟩,q⟩
 obtain⟨u,rfl,r1⟩:=B7 r;cases r1;exact call_int_bool ⟨.int (if k then 1 else 0),H,I.tok _,⟨_,rfl⟩,q⟩
end
structure ObjM(h:Heap)(x dx C:Addr)(mA:Str->Option Value):Prop where
 obj:h.get? x=some (PySem.W.instObj C dx)
 ns:h.Ns1 dx mA
 ne:dx≠x
theorem qaq3{h:Heap}{dx:Addr}{mA:Str->Option Value}(n:h.Ns1 dx mA):∃ od,h.get? dx=some od/\∀ name,PySem.W.lookIn name od=some (mA name):=by
 obtain⟨o,es,ep,ho,hd,hk,_,hm⟩:=n;refine⟨o,ho,λ name=>?_⟩;have e:=hm name;unfold nsFind findBy at e;rw[<- Array.find?_toList] at e;unfold PySem.W.lookIn;rw[hd];dsimp only;split
 . rename_i y q
   rw[q] at e;exact congrArg some e
 rename_i q
 rw[q] at e;have a:es.toList.any (·.refKey)=false:=by
   rw[List.any_eq_false];intro y hy;obtain⟨z,t,hkey⟩:=hk y (Array.mem_toList_iff.mp hy);simp[DictEntry.refKey,hkey]
 have a':¬ es.toList.any (·.refKey)=true:=by rw[a];exact zAj
 rw[if_neg a'];exact congrArg some e
theorem ObjM.look{h:Heap}{x dx C:Addr}{mA:Str->Option Value}(I:ObjM h x dx C mA):∃ od,PySem.W.InstAt h x (PySem.W.instObj C dx) C (some od)/\∀ name,PySem.W.lookIn name od=some (mA name) :=
 let ⟨od,ho,hl⟩:=qaq3 I.ns
 ⟨od,⟨I.obj,rfl,rfl,ho⟩,hl⟩
section
variable{prog:Program}{w:World}{A:Around}{E:Value->Shared->Prop}{s:Shared}{K:PySem.W.Frag}{x dx C f:Addr}{mA:Str->Option Value}{name:Str}{v:Value}
theorem qaO8{expr:Bool}{Q:Value->Shared->Prop}(X:K.In s.heap)(I:ObjM s.heap x dx C mA)(hg:PySem.W.plainGet K C name=true)(hh:PySem.W.hasDictIn K C=true)(ha:PySem.W.findIn K (.ref C) name=some none)(hv:mA name=some v)(hv':PySem.W.handedIn v=true)(h:Q v { s with toks:=s.toks+1 }) :
   wpAny (model prog w) A (getAttr (.ref x) name expr) Q E s:=by
 obtain⟨od,J,hl⟩:=I.look;exact PySem.W.get_value X J (PySem.W.plainGet_of hg).1 (PySem.W.findObj_own hh ha rfl (by rw[hl,hv])) hv' h
theorem qaF2{Q:Value×List Value->Shared->Prop}(X:K.In s.heap)(I:ObjM s.heap x dx C mA)(hg:PySem.W.plainGet K C name=true)(hf:PySem.W.findIn K (.ref C) name=some (some (.ref f)))(ht:PySem.W.isFn K (.ref f)=true)(hv:mA name=none)(h:Q (.ref f,[.ref x]) s) :
   wpAny (model prog w) A (getMethod (.ref x) name pl) Q E s:=by
 obtain⟨od,J,hl⟩:=I.look;exact PySem.W.method_fn X J (PySem.W.plainGet_of hg).1 (PySem.W.plainGet_of hg).2 hf (zBx.mp ht) (by show (PySem.W.lookIn name od).map (·.isSome)=some false;rw[hl,hv];rfl) h
theorem qaI9{ns:List Str}{Q:Unit->Shared->Prop}(X:K.In s.heap)(I:ObjM s.heap x dx C mA)(hs:PySem.W.findIn K (.ref C) "__setattr__" = some (some (.builtin "object.__setattr__")))(hp:PySem.W.plainOver K C=true)(ht:PySem.W.takerIn K C name=some none)(hh:PySem.W.hasDictIn K C=true)(hw:PySem.Within mA ns)(hsz:ns.length<=sizeLine)(h:∀ h',ObjM h' x dx C (λ y=>if y=name then some v else mA y)->Heap.SameBut dx s.heap h'->Q () { s with heap:=h',toks:=s.toks+2 }) :
   wpAny (model prog w) A (setAttr (.ref x) name v) Q E s:=by
 obtain⟨od,J,hl⟩:=I.look;refine PySem.W.set_plain X J hs (PySem.W.osa_open (s:={ s with toks:=s.toks+1 }) (r:=none) X J hp ht λ b=>?_);obtain⟨cd,hc,hd'⟩:=PySem.W.any_some hh;have hx:s.heap.get? x=some ⟨.ref C,some dx,.plain,#[]⟩:=I.obj;refine wpAny_bind (wpAny_pure (wpAny_bind (wpAny_bind (wpAny_loadPart hx (wpAny_bind (PySem.W.Looks.here (s:={ s with toks:=s.toks+1 }) (PySem.W.looks_clsIn X hc) ?_))))));rw[hd'];refine wpAny_pure (a:=some dx) (wpAny_bind (wpAny_pure (wpAny_bind ?_)));refine wpAny_nsSet1 (s:={ s with toks:=s.toks+1 }) I.ns λ h' hn2 hs2=>?_
 obtain⟨oD,esD,epD,hoD,hdD,hcD⟩:=hn2.count (PySem.Within.cons name v hw);refine wpAny_bind (wpAny_lookBehind hoD (by rw[hdD];exact pastItsLine_dict (zAp hcD (by rw[zAo];lia))) ?_);exact wpAny_pure (h _ ⟨(hs2.2 _ (Ne.symm I.ne)).trans I.obj,hn2,I.ne⟩ hs2)
theorem qaD8{R:Result->Shared->Prop}{vs:List Value}(X:K.In s.heap)(hm:PySem.W.makesIn K C=true)(hi:PySem.W.findIn K (.ref C) "__init__" = some (some (.ref f)))(hf:PySem.W.typeIn K (.ref f)=some (.type "function"))(h:codeAny (model prog w) (A.under (.builtin "type.__call__" ⟨.ref C::vs,kw⟩)) (.call (.ref f) ⟨.ref (s.heap.objs.size+1)::vs,kw⟩) (PySem.W.InitBack (s.heap.objs.size+1) R)
     { s with heap:=(s.heap.push PySem.W.emptyDict).push (PySem.W.instObj C s.heap.objs.size) }) :
   codeAny (model prog w) A (.call (.ref C) ⟨vs,kw⟩) R s:=by
 obtain⟨hh,g,d,t,os⟩:=s;exact PySem.W.make_core (PySem.W.makes_of X hm) (PySem.W.looks_findIn X hi) (λ self=>PySem.W.bind_fn X self hf) (.inl rfl) h
end
def B8(f:Str)(v:V):List (Str×V)->List (Str×V)
 | []=>[(f,v)]
 | (g,x)::r=>if g=f then (g,v)::r else (g,x)::B8 f v r
theorem qE6(f g:Str)(v:V):∀ fs:List (Str×V),(B8 f v fs).lookup g=if g=f then some v else fs.lookup g
 | []=>by
   show List.lookup g [(f,v)]=_;by_cases h:g=f
   . have hb:(g == f)=true:=zBx.mpr h
     simp only[List.lookup,hb,if_pos h]
   have hb:(g == f)=false:=zBj.mpr h;simp only[List.lookup,hb,if_neg h]
 | (k,x)::r=>by
   have ih:=qE6 f g v r;rw[show B8 f v ((k,x)::r)=(if k=f then (k,v)::r else (k,x)::B8 f v r) from rfl];by_cases hk:k=f
   . rw[if_pos hk]
     by_cases h:g=k
     . have hb:(g == k)=true:=zBx.mpr h
       simp only[List.lookup,hb,if_pos (h.trans hk)]
     have hb:(g == k)=false:=zBj.mpr h;simp only[List.lookup,hb,if_neg (λ e:g=f=>h (e.trans hk.symm))]
   rw[if_neg hk];by_cases h:g=k
   . have hb:(g == k)=true:=zBx.mpr h
     simp only[List.lookup,hb,if_neg (λ e:g=f=>hk (h.symm.trans e))]
   have hb:(g == k)=false:=zBj.mpr h;simp only[List.lookup,hb];exact ih
theorem qI2(f:Str)(v:V):∀ fs:List (Str×V),f∈(B8 f v fs).map (·.1)/\∀ g,g∈fs.map (·.1)->g∈(B8 f v fs).map (·.1)
 | []=>⟨by simp[B8],λ g h=>by simp at h⟩
 | (k,x)::r=>by
   obtain⟨i1,i2⟩:=qI2 f v r;rw[show B8 f v ((k,x)::r)=(if k=f then (k,v)::r else (k,x)::B8 f v r) from rfl];by_cases hk:k=f
   . rw[if_pos hk]
     subst hk;exact⟨by simp,λ g h=>by simpa using h⟩
   rw[if_neg hk];refine⟨?_,λ g h=>?_⟩
   . rw[zB0]
     exact zA6 _ i1
   rw[zB0] at h ⊢;rcases zAi.mp h with e | e
   . exact zAi.mpr (.inl e)
   exact zA6 _ (i2 g e)
theorem qE8(f:Str)(v:V):∀ fs:List (Str×V),(B8 f v fs).length<=fs.length+1
 | []=>by simp[B8]
 | (k,x)::r=>by
   have ih:=qE8 f v r;rw[show B8 f v ((k,x)::r)=(if k=f then (k,v)::r else (k,x)::B8 f v r) from rfl];by_cases hk:k=f
   . rw[if_pos hk,zAo,zAo];lia
   rw[if_neg hk,zAo,zAo];lia
theorem RelO.some_of{v:V}{o:Option Value}(r:RelO (some v) o):∃ u,o=some u/\RelV v u:=by
 cases o with
 | none=>exact(show False from r).elim
 | some u=>exact⟨u,rfl,r⟩
theorem RelO.none_of{o:Option Value}(r:RelO none o):o=none:=by
 cases o with
 | none=>rfl
 | some u=>exact(show False from r).elim
theorem qar4{v:V}{u:Value}(r:RelV v u):PySem.W.handedIn u=true:=by
 cases v with
 | non=>cases (show u=Value.none from r);rfl
 | bl b=>cases (show u=Value.bool b from r);rfl
 | int i=>obtain⟨t,e⟩:=(show ∃ t,u=Value.int i t from r);cases e;rfl
 | str x=>obtain⟨t,e⟩:=(show ∃ t,u=Value.str x t from r);cases e;rfl
 | byt b=>obtain⟨t,e⟩:=(show ∃ t,u=Value.bytes b t from r);cases e;rfl
 | flt b=>obtain⟨t,e⟩:=(show ∃ t,u=Value.float b t from r);cases e;rfl
 | ref a=>cases (show u=Value.ref a from r);rfl
 | ty n=>cases (show u=Value.type n from r);rfl
section
variable{P:Program}{w:World}{H:Hp}{h:Heap}{a C dx:Addr}{fs:List (Str×V)}
theorem qW1(hok:HOk P w H h)(e:H a=some (.ins C dx fs)):∃ mA,ObjM h a dx C mA/\(∀ f,RelO (fs.lookup f) (mA f))/\PySem.Within mA (fs.map (·.1))/\fs.length<=1000/\H dx=some (.own a):=by
 obtain⟨d,z,ne,ob,mA,n,r,q⟩:=(show ObjOk P w H h a (.ins C dx fs) from hok a _ e)
 exact⟨mA,⟨ob,n,ne⟩,r,q,z,d⟩
end
structure Cls(K:PySem.W.Frag)(C:Addr):Prop where
 pg:PySem.W.plainGet K C Str.empty=true
 hd:PySem.W.hasDictIn K C=true
 po:PySem.W.plainOver K C=true
 sa:PySem.W.findIn K (.ref C) "__setattr__" = some (some (.builtin "object.__setattr__"))
theorem Cls.get{K:PySem.W.Frag}{C:Addr}(c:Cls K C)(f:Str):PySem.W.plainGet K C f=true:=c.pg
def qg4(K:PySem.W.Frag)(C:Addr)(f:Str):Prop:=PySem.W.findIn K (.ref C) f=some none
theorem qg4.taker{K:PySem.W.Frag}{C:Addr}{f:Str}(n:qg4 K C f):PySem.W.takerIn K C f=some none:=by
 unfold PySem.W.takerIn;rw[show PySem.W.findIn K (.ref C) f=some none from n];rfl
structure Ie(K:PySem.W.Frag)(C:Addr)(m:Str)(f:Addr):Prop where
 at_:PySem.W.findIn K (.ref C) m=some (some (.ref f))
 fn:PySem.W.isFn K (.ref f)=true
 kp:PySem.W.keepIn K (.ref f)=true
section
variable{X:Cx}{D4:List (Addr×Obj)}{σ:St}{H:Hp}{s:Shared}{a C dx:Addr}{fs:List (Str×V)}{f:Str}{v:V}{A:Around}{E:Value->Shared->Prop}
theorem qaj7{b:Bool}{Q:Value->Shared->Prop}(I:Inv X D4 σ H s)(e:H a=some (.ins C dx fs))(c:Cls X.K C)(n:qg4 X.K C f)(l:fs.lookup f=some v)(h:∀ u s',Inv X D4 σ H s'->RelV v u->Q u s'):wpAny (model X.prog X.w) A (getAttr (.ref a) f b) Q E s:=by
 obtain⟨mA,O,r,_,_,_⟩:=qW1 I.hok e;obtain⟨u,hu,ru⟩:=RelO.some_of (v:=v) (o:=mA f) (by rw[<- l];exact r f);exact qaO8 I.kIn O (c.get f) c.hd n hu (qar4 ru) (h u _ (I.tok _) ru)
theorem qM3{m:Str}{g:Addr}{Q:Value×List Value->Shared->Prop}(I:Inv X D4 σ H s)(e:H a=some (.ins C dx fs))(c:Cls X.K C)(k:Ie X.K C m g)(l:fs.lookup m=none)(h:Q (.ref g,[.ref a]) s):wpAny (model X.prog X.w) A (getMethod (.ref a) m pl) Q E s:=by
 obtain⟨mA,O,r,_,_,_⟩:=qW1 I.hok e;have hn:mA m=none:=RelO.none_of (by rw[<- l];exact r m);exact qaF2 I.kIn O (c.get m) k.at_ k.fn hn h
theorem qad6{y:V}{u:Value}{Q:Unit->Shared->Prop}(I:Inv X D4 σ H s)(e:H a=some (.ins C dx fs))(c:Cls X.K C)(n:qg4 X.K C f)(hl:fs.length < 1000)(ry:RelV y u)(h:∀ s',Inv X D4 σ (upd H a (.ins C dx (B8 f y fs))) s'->Q () s'):wpAny (model X.prog X.w) A (setAttr (.ref a) f u) Q E s:=by
 obtain⟨mA,O,r,wi,_,ho⟩:=qW1 I.hok e;have hz:(fs.map (·.1)).length<=sizeLine:=by rw[zAc,sizeLine_eq];lia
 refine qaI9 I.kIn O c.sa c.po n.taker c.hd wi hz λ h' O' sb=>h _ ?_
 have hd:∃ o,h'.get? dx=some o:=let ⟨o,_,_,e',_⟩:=O'.ns;⟨o,e'⟩
 refine I.write (x:=a) (e:=dx) (by rw[e];exact True.intro) (.inr ho) (λ b q hb z=>(sb.2 b hb).trans z) hd ?_;refine⟨by rw[qc9 O.ne];exact ho,?_,O.ne,O'.obj,_,O'.ns,λ g=>?_,λ g hg=>?_⟩
 . have:=qE8 f y fs;lia
 . show RelO ((B8 f y fs).lookup g) (if g=f then some u else mA g)
   rw[qE6];by_cases q:g=f
   . rw[if_pos q,if_pos q];exact ry
   rw[if_neg q,if_neg q];exact r g
 by_cases q:g=f
 . rw[q];exact(qI2 f y fs).1
 refine(qI2 f y fs).2 g (wi g λ z=>hg ?_);show (if g=f then some u else mA g)=none;rw[if_neg q];exact z
theorem Inv.made(I:Inv X D4 σ H s):Inv X D4 σ (upd (upd H s.heap.objs.size (.own (s.heap.objs.size+1))) (s.heap.objs.size+1) (.ins C s.heap.objs.size []))
   { s with heap:=(s.heap.push PySem.W.emptyDict).push (PySem.W.instObj C s.heap.objs.size) }:=by
 have e1:(s.heap.push PySem.W.emptyDict).get? s.heap.objs.size=some PySem.W.emptyDict:=zAu s.heap rfl;have e2:((s.heap.push PySem.W.emptyDict).push (PySem.W.instObj C s.heap.objs.size)).get? (s.heap.objs.size+1)=some (PySem.W.instObj C s.heap.objs.size):=by
   have:=zAu (s.heap.push PySem.W.emptyDict) (o:=PySem.W.instObj C s.heap.objs.size) rfl
   rwa[Heap.size_push] at this
 have e3:(s.heap.push PySem.W.emptyDict).Ns s.heap.objs.size (λ _=>none):=⟨PySem.W.emptyDict,#[],_,e1,rfl,(λ e he=>absurd he (by simp)),λ _=>rfl⟩
 have I1:=I.laid (a:=s.heap.objs.size) (o:=.own (s.heap.objs.size+1)) (h':=s.heap.push PySem.W.emptyDict) (t':=s.toks) (λ b u q=>zA5 _ q) (zA3 _) ⟨_,e1⟩;refine I1.laid (a:=s.heap.objs.size+1) (o:=.ins C s.heap.objs.size []) (t':=s.toks) (λ b u q=>zA5 _ q) (Nat.le_of_eq (Heap.size_push _ _)) ?_;have ne:s.heap.objs.size≠s.heap.objs.size+1:=zAn (zBv _);refine⟨by rw[qc9 ne,qc2],Nat.zero_le _,ne,e2,λ _=>none,(Heap.Ns1.of_empty e3).at λ o q=>zA5 _ q,λ _=>True.intro,λ y hy=>absurd rfl hy⟩
theorem qaQ6{prog:Program}{w:World}{env:Env}{e:Expr}{f:Str}{pos:Pos}{s:Shared}{Q:Value->Shared->Prop}(hb:attributeBase e f env (eval e env)=eval e env)(h:wpAny (model prog w) A (eval e env) (λ o s₁=>wpAny (model prog w) A (getAttr o f true) Q E s₁) E s):wpAny (model prog w) A (eval (.Attribute e f pos) env) Q E s :=
 Attribute_any_ h (by rw[arm_eval_Attribute,hb])
end
def tFld(K:PySem.W.Frag)(ta:TE)(f:Str):TE:=λ σ H Q=>ta σ H λ x H1=>∃ a C dx fs v,x=.ref a/\H1 a=some (.ins C dx fs)/\Cls K C/\qg4 K C f/\fs.lookup f=some v/\Q v H1
def sFld(K:PySem.W.Frag)(ta tv:TE)(f:Str):TS:=λ D σ H=>tv σ H λ y H1=>ta σ H1 λ x H2=>∃ a C dx fs,x=.ref a/\H2 a=some (.ins C dx fs)/\Cls K C/\qg4 K C f/\fs.length < 1000 /\
 D.nx σ (upd H2 a (.ins C dx (B8 f y fs)))
section
variable{X:Cx}{o e value:Expr}{f:Str}{pos pos':Pos}{ta tv:TE}
theorem qap1(he:PE X e ta)(hb:attributeBase e f X.env (eval e X.env)=eval e X.env):PE X (.Attribute e f pos) (tFld X.K ta f):=by
 intro D4 s σ H Q I h;refine qaQ6 hb (thn (he D4 s σ H _ I h) λ u s1 ⟨x,H1,I1,rx,a,C,dx,fs,v,ex,ea,c,n,l,q⟩=>?_);subst ex;obtain rfl:u=Value.ref a:=rx;exact qaj7 I1 ea c n l λ u' s2 I2 ru=>⟨v,H1,I2,ru,q⟩
theorem qaS5(ha:PE X o ta)(hv:PE X value tv)(hs:swapsWith value (some (.Attribute o f pos')) pos.line X.env=pure false):PS X (.Assign [.Attribute o f pos'] value pos) (sFld X.K ta tv f):=by
 intro D4 s σ H D I h;refine plainObj_wpAny_Assign_Attribute (thn (hv D4 s σ H _ I h) λ u s1 ⟨y,H1,I1,ry,q⟩=>thn (ha D4 s1 σ H1 _ I1 q) λ ov s2 ⟨x,H2,I2,rx,a,C,dx,fs,ex,ea,c,n,l,q2⟩=>?_) hs;subst ex;obtain rfl:ov=Value.ref a:=rx;exact qad6 I2 ea c n l ry λ s3 I3=>⟨σ,_,I3,q2⟩
end
section
variable{X:Cx}{D4:List (Addr×Obj)}{σ:St}{H:Hp}{s:Shared}{A:Around}{E Q:Value->Shared->Prop}{c:Value}{b:Bool}
inductive Em(K:PySem.W.Frag)(H:Hp):V->Value->Prop where
 | non:Em K H .non (.type "NoneType")
 | bl (x:Bool):Em K H (.bl x) (.type "bool")
 | int (i:Int):Em K H (.int i) (.type "int")
 | str (x:Str):Em K H (.str x) (.type "str")
 | flt (x:UInt64):Em K H (.flt x) (.type "float")
 | lst {a:Addr} {xs:List V} (e:H a=some (.lst xs)):Em K H (.ref a) (.type "list")
 | frz {a:Addr} {o:Obj} {xs:List V} (e:H a=some (.frz o (.lst xs))):Em K H (.ref a) (.type "list")
 | tup {a:Addr} {xs:List V} (e:H a=some (.tup xs)):Em K H (.ref a) (.type "tuple")
 | dK {a:Addr} {kvs:List (Key×V)} (e:H a=some (.dK kvs)):Em K H (.ref a) (.type "dict")
 | dT {a:Addr} {kvs:List (List Key×V)} (e:H a=some (.dT kvs)):Em K H (.ref a) (.type "dict")
 | ins {a C dx:Addr} {fs:List (Str×V)} (e:H a=some (.ins C dx fs)) (cl:Cls K C) (ha:PySem.W.findIn K (.ref C) "__class__" = some (some (.builtin "object.__class__")))
     (hn:PySem.W.specialIn K (.builtin "object.__class__") "__get__" = some (some (.builtin "getset_descriptor.__get__"))) (htk:PySem.W.takesIn K (.builtin "object.__class__")=some true)
     (hm:PySem.W.mroIn K C (.type "object")=some true):Em K H (.ref a) (.ref C)
theorem qI5{x:V}{u t:Value}(I:Inv X D4 σ H s)(rx:RelV x u)(ty:Em X.K H x t)(e:PySem.W.kitOne X.K t c=some b)(h:∀ tk,Q (.bool b) { s with toks:=tk }) :
   wpAny (model X.prog X.w) A (call (.builtin "isinstance") [u,c]) Q E s:=by
 cases ty with
 | non=>cases (show u=Value.none from rx);exact PySem.W.kia_one PySem.W.kitx_none I.kIn True.intro e (λ z=>nomatch z) h
 | bl y=>cases (show u=Value.bool y from rx);exact PySem.W.kia_one PySem.W.kitx_bool I.kIn True.intro e (λ z=>nomatch z) h
 | int i=>obtain⟨t,q⟩:=(show ∃ t,u=Value.int i t from rx);cases q;exact PySem.W.kia_one PySem.W.kitx_int I.kIn True.intro e (λ z=>nomatch z) h
 | str y=>obtain⟨t,q⟩:=(show ∃ t,u=Value.str y t from rx);cases q;exact PySem.W.kia_one PySem.W.kitx_str I.kIn True.intro e (λ z=>nomatch z) h
 | flt y=>obtain⟨t,q⟩:=(show ∃ t,u=Value.float y t from rx);cases q;exact PySem.W.kia_one PySem.W.kitx_float I.kIn True.intro e (λ z=>nomatch z) h
 | @lst a xs ea =>
   cases (show u=Value.ref a from rx);obtain⟨_,_,n,_,h1⟩:=(show ObjOk X.prog X.w H s.heap a (.lst xs) from I.hok a _ ea)
   exact PySem.W.kia_one PySem.W.kitx_list I.kIn ⟨_,h1,rfl⟩ e (λ z=>nomatch z) h
 | @frz a ob xs ea =>
   cases (show u=Value.ref a from rx);obtain⟨_,_,_,n,_,h1⟩:=(show ObjOk X.prog X.w H s.heap a (.frz ob (.lst xs)) from I.hok a _ ea)
   exact PySem.W.kia_one PySem.W.kitx_list I.kIn ⟨_,h1,rfl⟩ e (λ z=>nomatch z) h
 | @tup a xs ea =>
   cases (show u=Value.ref a from rx);obtain⟨_,_,_,p⟩:=(show ObjOk X.prog X.w H s.heap a (.tup xs) from I.hok a _ ea)
   obtain⟨o,h1,h2,_⟩:=p;exact PySem.W.kia_one PySem.W.kitx_tuple I.kIn ⟨o,h1,h2⟩ e (λ z=>nomatch z) h
 | @dK a kvs ea =>
   cases (show u=Value.ref a from rx);obtain⟨_,_,vs,_,p⟩:=(show ObjOk X.prog X.w H s.heap a (.dK kvs) from I.hok a _ ea)
   obtain⟨o,es,ep,h1,h2,_⟩:=p;exact PySem.W.kia_one PySem.W.kitx_dict I.kIn ⟨o,h1,h2.1⟩ e (λ z=>nomatch z) h
 | @dT a kvs ea =>
   cases (show u=Value.ref a from rx);obtain⟨_,_,xs,_,o,es,ep,h1,h2,_⟩:=(show ObjOk X.prog X.w H s.heap a (.dT kvs) from I.hok a _ ea)
   exact PySem.W.kia_one PySem.W.kitx_dict I.kIn ⟨o,h1,h2.1⟩ e (λ z=>nomatch z) h
 | @ins a C dx fs ea cl ha hn htk hm =>
   cases (show u=Value.ref a from rx);obtain⟨mA,O,_⟩:=qW1 I.hok ea;obtain⟨od,J,_⟩:=O.look;exact PySem.W.kia_one (PySem.W.kitx_own (cl.get _) cl.hd ha hn htk hm) I.kIn J e (λ z=>nomatch z) h
end
structure Room(k:Nat)(A:Around):Prop where
 hd:A.handled=none
 dp:A.depth+3 * k+5 < recursionLimit
 un:A.units+16 * k+200 < cLine
theorem Room.mono{j k:Nat}{A:Around}(r:Room k A)(h:j<=k):Room j A:=⟨r.hd,by have:=r.dp;lia,by have:=r.un;lia⟩
theorem Room.deeper{k:Nat}{A:Around}(r:Room (k+1) A)(env:Env):Room k (A.deeper env) :=
 ⟨r.hd,by have:=r.dp;show A.depth+1+3 * k+5 < _;lia,by have:=r.un;show A.units+3+16 * k+200 < _;lia⟩
theorem qah4{A:Around}{C:Addr}:(A.under (.builtin "type.__call__" ⟨.ref C::us,kw⟩)).depth=A.depth+1:=by
 first | rfl | simp[Around.under,Code.weight,Code.isCreation,Code.isGuard,Code.isCaller,Code.frames,Code.isFrame,guardIds]
theorem qah3{A:Around}{C:Addr}:(A.under (.builtin "type.__call__" ⟨.ref C::us,kw⟩)).units=A.units+1:=by
 first | rfl | simp[Around.under,Code.cUnits,Code.frames,Code.isFrame]
theorem Room.make{k:Nat}{A:Around}(r:Room (k+1) A)(C:Addr)(us:List Value)(kw:List (Str×Value)):Room k (A.under (.builtin "type.__call__" ⟨.ref C::us,kw⟩)) :=
 ⟨r.hd,by have:=r.dp;rw[qah4];lia,by have:=r.un;rw[qah3];lia⟩
theorem Room.depth{k:Nat}{A:Around}(r:Room k A):A.depth < recursionLimit:=by have:=r.dp;lia
theorem Room.units{k:Nat}{A:Around}(r:Room k A):A.units+64 < cLine:=by have:=r.un;lia
def tNil:TA:=λ _ H Q=>Q [] H
def Ig(ta:TE)(tr:TA):TA:=λ σ H Q=>ta σ H λ x H1=>tr σ H1 λ xs H2=>Q (x::xs) H2
section
variable{X:Cx}{e:Expr}{es:List Expr}{te:TE}{t:TA}{pos:Pos}
theorem ql6:PA X [] tNil:=λ _ _ _ _ H Q I h=>Calls.spliced_nil ⟨[],H,I,.nil,h⟩
theorem qc4(ha:PE X e te)(hr:PA X es t)(hs:starEach (e::es) X.env=(false,eval e X.env)::starEach es X.env:=by rfl):PA X (e::es) (Ig te t):=by
 intro pos D4 s σ H Q I h;rw[hs];show wpAny _ _ (spliced ((false,eval e X.env)::backTo pos (starEach es X.env))) _ _ s;refine Calls.spliced_cons (thn (ha D4 s σ H _ I h) λ u s1 ⟨x,H1,I1,r1,q1⟩=>?_);exact thn (hr pos D4 s1 σ H1 _ I1 q1) λ us s2 ⟨xs,H2,I2,r2,q2⟩=>⟨x::xs,H2,I2,.cons r1 r2,q2⟩
def tTup(t:TA):TE:=λ σ H Q=>t σ H λ xs H1=>xs.length<=sizeLine/\∀ p,H1 p=none->Q (.ref p) (upd H1 p (.tup xs))
def tLst(t:TA):TE:=λ σ H Q=>t σ H λ xs H1=>xs.length<=sizeLine/\∀ p,H1 p=none->Q (.ref p) (upd H1 p (.lst xs))
theorem qaK6{x1}(h:PA X es t):PE X (.Tuple es x1 pos) (tTup t):=by
 intro D4 s σ H Q I hq;refine wpAny_Tuple_spliced (thn (h pos D4 s σ H _ I hq) λ us s1 ⟨xs,H1,I1,r,z,q⟩=>⟨by rw[<- r.length];exact z,?_⟩);have hf:H1 s1.heap.objs.size=none:=I1.hok.fresh (zA3 _);refine⟨.ref s1.heap.objs.size,upd H1 s1.heap.objs.size (.tup xs),I1.laid (t':=s1.toks) (λ b u e=>zA5 _ e) (zA3 _) ?_,rfl,q _ hf⟩;exact⟨z,us,r,⟨_,zAu _ rfl,rfl,_,rfl⟩⟩
theorem qaC2(h:PA X es t):PE X (.List es pos) (tLst t):=by
 intro D4 s σ H Q I hq;refine wpAny_List_spliced (thn (h pos D4 s σ H _ I hq) λ us s1 ⟨xs,H1,I1,r,z,q⟩=>⟨by rw[<- r.length];exact z,?_⟩);have hf:H1 s1.heap.objs.size=none:=I1.hok.fresh (zA3 _);refine⟨.ref s1.heap.objs.size,upd H1 s1.heap.objs.size (.lst xs),I1.laid (t':=s1.toks) (λ b u e=>zA5 _ e) (zA3 _) ?_,rfl,q _ hf⟩;exact⟨z,us,0,r,zAu _ rfl⟩
end
abbrev Sp:=List V->Hp->VK->XK->Prop
abbrev CXT:=List Env->Hp->Shared->XK->Value->Shared->Prop
structure Env0(P:Program)(w:World)(K:PySem.W.Frag)(mg:Str->Option Value)(base:Heap)(A:Around)(outer:List Env)(s:Shared)(H:Hp):Prop where
 frames:A.frames=some outer
 mod:Mod K mg base
 bs:∀ b o,base.get? b=some o->s.heap.get? b=some o/\H b=none
 bsz:base.objs.size<=s.heap.objs.size
 funs:s.heap.FunFrames base outer
 frf:∀ b∈frs outer,H b=none
 hok:HOk P w H s.heap
 bare:AllBare s.gens
def CE(outer:List Env)(P:Program)(w:World)(H:Hp)(s:Shared)(Q:VK)(u:Value)(s':Shared):Prop :=
 ∃ v H',s'.os=s.os/\AllBare s'.gens/\Un (frs outer) [] H H' s.heap s'.heap/\HOk P w H' s'.heap/\RelV v u/\Q v H'
def CR(CX:CXT)(outer:List Env)(P:Program)(w:World)(H:Hp)(s:Shared)(Q:VK)(E:XK)(r:Result)(s':Shared):Prop :=
 match r with
 | .ok (.ret u)=>CE outer P w H s Q u s'
 | .ok _=>False
 | .error e=>CX outer H s E e s'
structure Bq(P:Program)(w:World)(K:PySem.W.Frag)(mg:Str->Option Value)(base:Heap)(CX:CXT)(k:Nat)(f:Addr)(fd:FuncData)(ps:List Str)(sp:Sp):Prop where
 len:∀ vs H Q E,sp vs H Q E->vs.length=ps.length
 run:∀(A:Around)(outer:List Env)(s:Shared)(H:Hp)(args:Args)(us:List Value)(vs:List V)(Q:VK)(E:XK),Room k A->Env0 P w K mg base A outer s H->BindsTo s fd args (ps.zip us)->Vals vs us->sp vs H Q E ->
   codeAny (model P w) A (.call (.ref f) args) (CR CX outer P w H s Q E) s
theorem Env0.make{P:Program}{w:World}{K:PySem.W.Frag}{A:Around}{outer:List Env}{s:Shared}{H:Hp}(e:Env0 P w K mg base A outer s H)(C:Addr)(us:List Value)(kw:List (Str×Value)) :
   Env0 P w K mg base (A.under (.builtin "type.__call__" ⟨.ref C::us,kw⟩)) outer s H:=⟨by first | exact e.frames | (simpa[Around.under,Code.envs,Code.isFrame,pushEnvs] using e.frames),e.mod,e.bs,e.bsz,e.funs,e.frf,e.hok,e.bare⟩
section
variable{X:Cx}{D4:List (Addr×Obj)}{σ:St}{H:Hp}{s s':Shared}
theorem Inv.env0(I:Inv X D4 σ H s):Env0 X.prog X.w X.K X.mg X.base X.A X.stack s H :=
 ⟨I.ok.frames,I.ok.mod,I.bs,zAp I.ok.bsz I.sz,I.stack,I.stkFree,I.hok,I.bare⟩
theorem Inv.after{Q:VK}{u:Value}(I:Inv X D4 σ H s)(h:CE X.stack X.prog X.w H s Q u s'):EP X D4 σ Q u s':=by
 obtain⟨v,H',os,bare,un,hok,r,q⟩:=h;obtain⟨hh,g,d,t,os'⟩:=s';obtain rfl:os'=s.os:=os;exact⟨v,H',I.call (h':=hh) (g':=g) (d':=d) (t':=t) (ch:=[]) un hok bare (λ b z=>absurd z (by simp)),r,q⟩
end
def Ih(sp:Sp)(dvs:List V)(E:XK)(t:TA):TE:=λ σ H Q=>t σ H λ vs H1=>sp (vs++dvs) H1 Q E
def Ga(C:Addr)(m:Str)(sp:Sp)(dvs:List V)(E:XK)(ta:TE)(t:TA):TE:=λ σ H Q=>ta σ H λ x H1=>∃ a dx fs,x=.ref a/\H1 a=some (.ins C dx fs)/\fs.lookup m=none /\
 t σ H1 λ vs H2=>sp (x::(vs++dvs)) H2 Q E
def tMake(C:Addr)(sp:Sp)(dvs:List V)(E:XK)(t:TA):TE:=λ σ H Q=>t σ H λ vs H1=>∀ x dx,H1 x=none->H1 dx=none->dx≠x ->
 sp (.ref x::(vs++dvs)) (upd (upd H1 dx (.own x)) x (.ins C dx [])) (λ v H2=>v=.non/\Q (.ref x) H2) E
def Binds(K:PySem.W.Frag)(fd:FuncData)(ps:List Str)(ds:List Value):Prop :=
 ∀(s:Shared)(us:List Value),K.In s.heap->(us++ds).length=ps.length->BindsTo s fd ⟨us,[]⟩ (ps.zip (us++ds))
theorem Binds.all{K:PySem.W.Frag}{fd:FuncData}{ps:List Str}(h:∀ us:List Value,us.length=ps.length->bindArgs fd ⟨us,[]⟩=pure (ps.zip us)):Binds K fd ps []:=λ s us _ hl=>by
 rw[zAf] at hl ⊢;exact .of_eq (h us hl)
def qN4(CX:CXT)(X:Cx)(E:XK):Prop:=∀(D4:List (Addr×Obj))(σ:St)(H:Hp)(s:Shared)(e:Value)(s':Shared),Inv X D4 σ H s->CX X.stack H s E e s'->X.xe e s'
section
variable{X:Cx}{CX:CXT}{k:Nat}{f C:Addr}{fd:FuncData}{ps:List Str}{sp:Sp}{dvs:List V}{ds:List Value}{E:XK}{x m:Str}{p pos apos:Pos}{e o:Expr}{es:List Expr}{ta:TE}{t:TA}
theorem qaB0{D4:List (Addr×Obj)}{σ:St}{H:Hp}{s:Shared}{Q:VK}{vs:List V}(F:Bq X.prog X.w X.K X.mg X.base CX k f fd ps sp)(hr:Room k X.A)(hb:Binds X.K fd ps ds)(hd:Vals dvs ds)(hx:qN4 CX X E)(I:Inv X D4 σ H s)(r:Vals vs us)(h:sp (vs++dvs) H Q E):wpAny (model X.prog X.w) X.A (call (.ref f) us) (EP X D4 σ Q) X.xe s:=by
 have r2:Vals (vs++dvs) (us++ds):=r.append hd;have hl:(us++ds).length=ps.length:=by rw[<- r2.length];exact F.len _ _ _ _ h
 refine wpAny_call (codeAny_mono (F.run X.A X.stack s H ⟨us,[]⟩ (us++ds) (vs++dvs) Q E hr I.env0 (hb s us I.kIn hl) r2 h) λ r s' hq=>?_);cases r with
 | error e=>exact hx D4 σ H s e s' I hq
 | ok fl =>
   cases fl with
   | ret u=>exact I.after hq
   | next=>exact False.elim hq
   | brk=>exact False.elim hq
   | cont=>exact False.elim hq
theorem qaw5(F:Bq X.prog X.w X.K X.mg X.base CX k f fd ps sp)(hr:Room k X.A)(hg:Gl X x)(hm:X.mg x=some (.ref f))(hk:PySem.W.keepIn X.K (.ref f)=true)(hb:Binds X.K fd ps ds)(hd:Vals dvs ds)(hx:qN4 CX X E)(ha:PA X (e::es) t)(hdb:(x == ("__debug__" : Str))=false:=by decide)(he:starEach (e::es) X.env=(false,eval e X.env)::starEach es X.env:=by rfl)(hpl:(backTo pos (starEach es X.env)).any (·.1)=false:=by rfl) :
   PE X (.Call (.Name x p) (e::es) [] pos) (Ih sp dvs E t):=by
 intro D4 s σ H Q I h;refine wpAny_Call_Name_kw (qah8 I hg hm ?_ hdb);refine PySem.W.callWith_K (h₀:=X.base) I.ok.mod.kin hk (thn (ha pos D4 s σ H _ I h) λ us s1 ⟨vs,H1,I1,r,q⟩=>⟨I1.kIn,?_⟩) he hpl;exact qaB0 F hr hb hd hx I1 r q
theorem qaf4(he:PE X o ta)(c:Cls X.K C)(hm:Ie X.K C m f)(F:Bq X.prog X.w X.K X.mg X.base CX k f fd ps sp)(hr:Room k X.A)(hb:Binds X.K fd ps ds)(hd:Vals dvs ds)(hx:qN4 CX X E)(ha:PA X (e::es) t)(hst:starEach (e::es) X.env=(false,eval e X.env)::starEach es X.env:=by rfl)(hpl:(backTo pos (starEach es X.env)).any (·.1)=false:=by rfl)(ht:eval (.Call (.Attribute o m apos) (e::es) [] pos) X.env=(do
     let ov <- eval o X.env
     standAt apos.atName
     let (f,first) <- holding [ov] (getMethod ov m pl)
     callWith pos f first (backTo pos (starEach (e::es) X.env)) (backToKw pos (keywordEach [] X.env))):=by rfl) :
   PE X (.Call (.Attribute o m apos) (e::es) [] pos) (Ga C m sp dvs E ta t):=by
 intro D4 s σ H Q I h;refine PySem.W.methodCall_KW (pl:=pl) (thn (he D4 s σ H _ I h) λ u s1 ⟨x,H1,I1,rx,a,dx,fs,ex,ea,l,q⟩=>?_) ht;subst ex;obtain rfl:u=Value.ref a:=rx;refine qM3 I1 ea c hm l ?_;refine PySem.W.callWith_K (first:=[.ref a]) (h₀:=X.base) I.ok.mod.kin hm.kp (thn (ha pos D4 s1 σ H1 _ I1 q) λ us s2 ⟨vs,H2,I2,r,q2⟩=>⟨I2.kIn,?_⟩) hst hpl;exact qaB0 (us:=.ref a::us) (vs:=.ref a::vs) F hr hb hd hx I2 (.cons rfl r) q2
theorem qaf3(he:PE X o ta)(c:Cls X.K C)(hm:Ie X.K C m f)(F:Bq X.prog X.w X.K X.mg X.base CX k f fd ps sp)(hr:Room k X.A)(hb:Binds X.K fd ps ds)(hd:Vals dvs ds)(hx:qN4 CX X E)(ht:eval (.Call (.Attribute o m apos) [] [] pos) X.env=(do
     let ov <- eval o X.env
     standAt apos.atName
     let (f,first) <- holding [ov] (getMethod ov m pl)
     callWith pos f first (backTo pos (starEach [] X.env)) (backToKw pos (keywordEach [] X.env))):=by rfl) :
   PE X (.Call (.Attribute o m apos) [] [] pos) (Ga C m sp dvs E ta tNil):=by
 intro D4 s σ H Q I h;refine PySem.W.methodCall_KW (pl:=pl) (thn (he D4 s σ H _ I h) λ u s1 ⟨x,H1,I1,rx,a,dx,fs,ex,ea,l,q⟩=>?_) ht;subst ex;obtain rfl:u=Value.ref a:=rx;refine qM3 I1 ea c hm l ?_;exact PySem.W.callWith_K0 (first:=[.ref a]) I1.kIn hm.kp (qaB0 (us:=[.ref a]) (vs:=[.ref a]) F hr hb hd hx I1 (.cons rfl .nil) q)
structure Mk(K:PySem.W.Frag)(C f:Addr):Prop where
 makes:PySem.W.makesIn K C=true
 init:PySem.W.findIn K (.ref C) "__init__" = some (some (.ref f))
 fn:PySem.W.isFn K (.ref f)=true
 kp:PySem.W.keepIn K (.ref C)=true
theorem qaA9{D4:List (Addr×Obj)}{σ:St}{H:Hp}{s:Shared}{Q:VK}{vs:List V}(M:Mk X.K C f)(F:Bq X.prog X.w X.K X.mg X.base CX k f fd ps sp)(hr:Room (k+1) X.A)(hb:Binds X.K fd ps ds)(hd:Vals dvs ds)(hx:qN4 CX X E)(I:Inv X D4 σ H s)(r:Vals vs us)(h:∀ x dx,H x=none->H dx=none->dx≠x->sp (.ref x::(vs++dvs)) (upd (upd H dx (.own x)) x (.ins C dx [])) (λ v H2=>v=.non/\Q (.ref x) H2) E) :
   wpAny (model X.prog X.w) X.A (call (.ref C) us) (EP X D4 σ Q) X.xe s:=by
 have hq:=h (s.heap.objs.size+1) s.heap.objs.size (I.hok.fresh (Nat.le_succ _)) (I.hok.fresh (zA3 _)) (zAn (zBv _));have I2:=Inv.made (C:=C) I;have r2:Vals (V.ref (s.heap.objs.size+1)::(vs++dvs)) (Value.ref (s.heap.objs.size+1)::(us++ds)):=.cons rfl (r.append hd);have hl:(Value.ref (s.heap.objs.size+1)::us++ds).length=ps.length:=by
   have e:=r2.length;rw[F.len _ _ _ _ hq] at e;exact e.symm
 refine wpAny_call (qaD8 (f:=f) I.kIn M.makes M.init (zBx.mp M.fn) (codeAny_mono (F.run _ X.stack _ _ ⟨Value.ref (s.heap.objs.size+1)::us,[]⟩ (Value.ref (s.heap.objs.size+1)::(us++ds)) _ _ E (hr.make C us [])
   (I2.env0.make C us []) (hb _ (Value.ref (s.heap.objs.size+1)::us) I2.kIn hl) r2 hq) λ r s' hq'=>?_))
 cases r with
 | error e=>exact hx D4 σ _ _ e s' I2 hq'
 | ok fl =>
   cases fl with
   | ret u =>
     obtain⟨v,H',I3,rv,ev,q3⟩:=I2.after hq';subst ev;exact⟨rv,⟨V.ref (s.heap.objs.size+1),H',I3,rfl,q3⟩⟩
   | next=>exact False.elim hq'
   | brk=>exact False.elim hq'
   | cont=>exact False.elim hq'
theorem qaw2(M:Mk X.K C f)(F:Bq X.prog X.w X.K X.mg X.base CX k f fd ps sp)(hr:Room (k+1) X.A)(hg:Gl X x)(hm:X.mg x=some (.ref C))(hb:Binds X.K fd ps ds)(hd:Vals dvs ds)(hx:qN4 CX X E)(ha:PA X (e::es) t)(hdb:(x == ("__debug__" : Str))=false:=by decide)(he:starEach (e::es) X.env=(false,eval e X.env)::starEach es X.env:=by rfl)(hpl:(backTo pos (starEach es X.env)).any (·.1)=false:=by rfl) :
   PE X (.Call (.Name x p) (e::es) [] pos) (tMake C sp dvs E t):=by
 intro D4 s σ H Q I h;refine wpAny_Call_Name_kw (qah8 I hg hm ?_ hdb);refine PySem.W.callWith_K (h₀:=X.base) I.ok.mod.kin M.kp (thn (ha pos D4 s σ H _ I h) λ us s1 ⟨vs,H1,I1,r,q⟩=>⟨I1.kIn,?_⟩) he hpl;exact qaA9 M F hr hb hd hx I1 r q
end
structure qa9(N P:List Str)(sc:Scope):Prop where
 kind:sc.kind=.function
 co:sc.isCoroutine=false
 gen:sc.isGenerator=false
 nd:N.Nodup
 pre:N.take P.length=P
 par:∀ x∈P,sc.names.lookup x=some .local∨sc.names.lookup x=some .cell
 nofree:∀ y∈sc.names,y.2≠.free
theorem qY0{kindOf:Str->Option NameKind}{x:Str}:∀{binds:List (Str×Value)}{m:Str->Option Value},(∀ v,(x,v)∉binds)->bindL kindOf binds m x=m x
 | [],_,_=>rfl
 | (n,v)::r,m,h=>by
   unfold bindL;rw[qY0 λ w hw=>h w (zA6 _ hw)];split
   . have:x≠n:=by rintro rfl;exact h v zA7
     simp[this]
   rfl
theorem qY2{kindOf:Str->Option NameKind}{x:Str}:∀{binds:List (Str×Value)}{m:Str->Option Value},(∀ v,(x,v)∉binds)->bindC kindOf binds m x=m x
 | [],_,_=>rfl
 | (n,v)::r,m,h=>by
   unfold bindC;rw[qY2 λ w hw=>h w (zA6 _ hw)];split
   . rfl
   have:x≠n:=by rintro rfl;exact h v zA7
   simp[this]
theorem qY1{kindOf:Str->Option NameKind}{x:Str}{v:Value}:∀{P:List Str}{vs:List Value}{i:Nat}{m:Str->Option Value},P.Nodup->P[i]? = some x->vs[i]? = some v->kindOf x=some .local ->
   bindL kindOf (P.zip vs) m x=some v
 | [],_,_,_,_,h,_,_=>by simp at h
 | _::_,[],_,_,_,_,h,_=>by simp at h
 | p::P,w::vs,0,m,nd,h1,h2,hk=>by
   simp at h1 h2;subst h1;subst h2;show bindL kindOf ((p,w)::P.zip vs) m p=_;unfold bindL;rw[qY0 λ v hv=>(zBy.mp nd).1 (List.of_mem_zip hv).1,if_pos hk];simp
 | p::P,w::vs,i+1,m,nd,h1,h2,hk=>by
   show bindL kindOf ((p,w)::P.zip vs) m x=_;unfold bindL;exact qY1 (i:=i) (zBy.mp nd).2 (by simpa using h1) (by simpa using h2) hk
theorem qY3{kindOf:Str->Option NameKind}{x:Str}{v:Value}:∀{P:List Str}{vs:List Value}{i:Nat}{m:Str->Option Value},P.Nodup->P[i]? = some x->vs[i]? = some v->kindOf x≠some .local ->
   bindC kindOf (P.zip vs) m x=some v
 | [],_,_,_,_,h,_,_=>by simp at h
 | _::_,[],_,_,_,_,h,_=>by simp at h
 | p::P,w::vs,0,m,nd,h1,h2,hk=>by
   simp at h1 h2;subst h1;subst h2;show bindC kindOf ((p,w)::P.zip vs) m p=_;unfold bindC;rw[qY2 λ v hv=>(zBy.mp nd).1 (List.of_mem_zip hv).1,if_neg hk];simp
 | p::P,w::vs,i+1,m,nd,h1,h2,hk=>by
   show bindC kindOf ((p,w)::P.zip vs) m x=_;unfold bindC;exact qY3 (i:=i) (zBy.mp nd).2 (by simpa using h1) (by simpa using h2) hk
def start(N:List Str)(vs:List V):St:=vs.map some++List.replicate (N.length - vs.length) none
def D9(CX:CXT)(P:Program)(w:World)(K:PySem.W.Frag)(mg:Str->Option Value)(base:Heap)(N:List Str)(qual:Str)(scope:Scope)(f:Addr)(cd:Value)(A:Around)(outer:List Env)(s:Shared)(H:Hp)(E:XK):Cx where
 prog:=P
 w:=w
 K:=K
 mg:=mg
 base:=base
 A:=A.deeper (envOfC qual scope s.heap.objs.size f cd)
 N:=N
 s₀:=s
 H₀:=H
 env:=envOfC qual scope s.heap.objs.size f cd
 outer:=outer
 stack:=envOfC qual scope s.heap.objs.size f cd::outer
 ex:=[]
 calm:=true
 fn:=λ _=>true
 pn:=[]
 xe:=λ e s'=>wpAny (model P w) (A.deeper (envOfC qual scope s.heap.objs.size f cd)) (leaving (envOfC qual scope s.heap.objs.size f cd) e) (λ _ s''=>CX outer H s E e s'') (λ e' s''=>CX outer H s E e' s'') s'
theorem qal4{sc:Scope}{x:Str}(h:sc.names.lookup x=some .cell):∃ c,(cellsFrom n sc.names []).lookup x=some c:=by
 have q:=PySem.W.cellsFrom_some sc.names n [] (.inl h);exact zB8.mp q
theorem qar2{CX:CXT}{P:Program}{w:World}{K:PySem.W.Frag}{ps:List Str}{qual:Str}{scope:Scope}{f:Addr}{cd:Value}{A:Around}{outer:List Env}{s s1:Shared}{H:Hp}{E:XK}{vs:List V}(S:qa9 N ps scope)(hd:A.handled=none)(e0:Env0 P w K mg base A outer s H)(hl:vs.length=ps.length)(r:Vals vs us)(x:InCallC s s.heap.objs.size (bindL (envOfC qual scope s.heap.objs.size f cd).kindOf (ps.zip us) λ _=>none) (cellsFrom (s.heap.objs.size+1) scope.names []) (bindC (envOfC qual scope s.heap.objs.size f cd).kindOf (ps.zip us) λ _=>none) s1) :
   Inv (D9 CX P w K mg base N qual scope f cd A outer s H E) [] (start N vs) H s1:=by
 have hpl:ps.length<=N.length:=by have:=congrArg List.length S.pre;rw[zBu] at this;lia
 obtain⟨h1,tk,rfl,hk⟩:=x.done;have noA:∀ b:Addr,b∉(D9 CX P w K mg base N qual scope f cd A outer s H E).ex:=λ b z=>absurd (show b∈([]:List Addr) from z) (by simp)
 refine⟨⟨e0.mod,S.kind,rfl,rfl,zA3 _,λ y z c h1 h2=>?_,λ y hy=>?_,λ y c _ h=>?_,λ _=>hd,Around.frames_deeper e0.frames,.inr ⟨rfl,rfl⟩,λ b z=>absurd z (noA b),e0.bs,e0.bsz,λ b _ _=>noA b,λ b z=>absurd z (noA b),e0.funs,e0.frf⟩,
   rfl,e0.bare,Un.kept hk,⟨_,x.toInCall.ns,λ i y v h1 h2 h3=>?_⟩,λ y c h=>⟨_,x.cell y c h⟩,e0.hok.fresh (zA3 _),λ y c h=>?_,λ p hp=>absurd (show p∈([]:List (Addr×Obj)) from hp) (by simp),e0.hok.kept hk,?_⟩
 . exact name_of_addr x.apart (PySem.mem_of_lookup h1) (PySem.mem_of_lookup h2)
 . have hy:scope.names.lookup y=some .cell∨scope.names.lookup y=some .free:=hy
   rcases hy with hy | hy
   . exact qal4 hy
   exact absurd rfl (S.nofree _ (PySem.mem_of_lookup hy))
 . exact Nat.le_of_lt (x.above y c (PySem.mem_of_lookup h))
 . have hi:i < vs.length:=by
     unfold start at h2;by_cases hi:i < vs.length
     . exact hi
     rw[zBt (by simpa using hi)] at h2;rw[List.getElem?_replicate] at h2;split at h2<;>cases h2
   have ha:vs[i]? = some v:=by
     unfold start at h2;rw[zAs (by simpa using hi),zAv] at h2;cases e:vs[i]? with
     | none=>rw[e] at h2;cases h2
     | some a=>rw[e] at h2;cases h2;rfl
   obtain⟨u,hu,rv⟩:=r.get ha;have hp:ps[i]? = some y:=by
     rw[<- S.pre,List.getElem?_take_of_lt (by lia)];exact h1
   have ndP:ps.Nodup:=by rw[<- S.pre];exact S.nd.sublist (List.take_sublist _ _)
   refine⟨u,rv,?_⟩;rcases S.par y (zAt hp) with k | k
   . exact .inl ⟨k,qY1 ndP hp hu k⟩
   obtain⟨c,e⟩:=qal4 (n:=s.heap.objs.size+1) k;refine .inr ⟨.inl k,c,e,?_⟩;have q:=x.cell y c e;rw[qY3 ndP hp hu (by show scope.names.lookup y≠_;rw[k];decide)] at q;exact q
 . exact e0.hok.fresh (Nat.le_of_lt (x.above y c (PySem.mem_of_lookup h)))
 unfold start;show _=N.length;rw[zA8,zAc,List.length_replicate];lia
theorem Ii{CX:CXT}{P:Program}{w:World}{K:PySem.W.Frag}{k:Nat}{f:Addr}{name qual:Str}{params:Arguments}{scope:Scope}{dV kV doc pm cdv ct oc:Value}{an od:Option Addr}{osl:Array (Option Value)}{ps:List Str}{sp:Sp}(lk:K.lookup f=some ⟨oc,od,.func (PySem.W.fnOf name qual params body scope dV kV doc pm an cdv ct),osl⟩)(hcd:PySem.W.codeIn K cdv qual=true)(S:qa9 N ps scope)(len:∀ vs H Q E,sp vs H Q E->vs.length=ps.length)(hbody:∀(A:Around)(outer:List Env)(s:Shared)(H:Hp)(vs:List V)(Q:VK)(E:XK),Room k (A.deeper (envOfC qual scope s.heap.objs.size f cdv))->sp vs H Q E ->
     ∃ t,PSs (D9 CX P w K mg base N qual scope f cdv A outer s H E) body t/\t { nx:=λ _ H'=>Q .non H',rt:=Q } (start N vs) H) :
   Bq P w K mg base CX (k+1) f (PySem.W.fnOf name qual params body scope dV kV doc pm an cdv ct) ps sp:=by
 refine⟨len,λ A outer s H args us vs Q E hr e0 hb r hsp=>?_⟩;have hl:=len _ _ _ _ hsp;have KX:K.In s.heap:=e0.mod.kin.keeps λ b o e=>(e0.bs b o e).1
 have lim:s.heap.NoLimit:=e0.mod.nolimit.keeps λ b o e=>(e0.bs b o e).1
 have hkind:∀ y∈ps.zip us,scope.names.lookup y.1=some .local∨(scope.names.lookup y.1=some .cell/\((cellsFrom (s.heap.objs.size+1) scope.names []).lookup y.1).isSome=true):=λ ⟨n,v⟩ hy=>by
   rcases S.par n (List.of_mem_zip hy).1 with q | q
   . exact .inl q
   exact .inr ⟨q,PySem.W.cellsFrom_some _ _ _ (.inl q)⟩
 refine codeAny_call_function hr.depth (KX _ _ lk) rfl S.co S.gen rfl (PySem.W.codeRec_of KX hcd) (hb _ _ _ _ ?_);refine wpAny_newFunctionEnv_cells S.kind hkind λ env he s1 x=>?_
 subst he;refine⟨lim.keeps x.toInCall.keep,codeAny_func ?_⟩;obtain⟨t,ht,hq⟩:=hbody A outer s H vs Q E (hr.deeper _) hsp;have I:Inv (D9 CX P w K mg base N qual scope f cdv A outer s H E) [] (start N vs) H s1:=qar2 S hr.hd e0 hl r x;refine wpAny_mono (ht [] s1 (start N vs) H _ I hq) (λ fl s' hs=>?_) λ e s' hs=>hs
 have fin:∀{σ':St}{H':Hp}{v:V}{u:Value},Inv (D9 CX P w K mg base N qual scope f cdv A outer s H E) [] σ' H' s'->RelV v u->Q v H'->CE outer P w H s Q u s' :=
   λ{σ' H' v u} J rv q=>⟨v,H',J.os,J.bare,J.base,J.hok,rv,q⟩
 cases fl with
 | ret u =>
   obtain⟨v,σ',H',J,rv,q⟩:=hs;exact fin J rv q
 | next =>
   obtain⟨σ',H',J,q⟩:=hs;exact fin (v:=V.non) (u:=Value.none) J rfl q
 | brk =>
   obtain⟨_,_,_,q⟩:=hs;exact False.elim q
 | cont =>
   obtain⟨_,_,_,q⟩:=hs;exact False.elim q
section
variable{X:Cx}{x:Str}{p pos:Pos}{e:Expr}{es:List Expr}{t:TA}{id T:String}{r:List V->Hp->VK->Prop}
def tCB(r:List V->Hp->VK->Prop)(t:TA):TE:=λ σ H Q=>t σ H λ vs H1=>r vs H1 Q
theorem qaC5(hc:CallR X (.builtin id) r)(hg:Gl X x)(hm:X.mg x=none)(hv:bootBuiltins x=some (.builtin id))(ha:PA X (e::es) t)(hn:x ≠ "__name__" := by decide)(hdb:(x == ("__debug__" : Str))=false:=by decide)(he:starEach (e::es) X.env=(false,eval e X.env)::starEach es X.env:=by rfl)(hpl:(backTo pos (starEach es X.env)).any (·.1)=false:=by rfl):PE X (.Call (.Name x p) (e::es) [] pos) (tCB r t):=by
 intro D4 s σ H Q I h;refine wpAny_Call_Name_kw (qah9 I hg hm hv ?_ hn hdb);exact PyProof.Rows.callWith_builtin1 (thn (ha pos D4 s σ H _ I h) λ us s1 ⟨vs,H1,I1,r1,q1⟩=>hc D4 s1 σ H1 vs us Q I1 r1 q1) he hpl
theorem qap2(hc:CallR X (.type T) r)(hg:Gl X x)(hm:X.mg x=none)(hv:bootBuiltins x=some (.type T))(ha:PA X (e::es) t)(hn:x ≠ "__name__" := by decide)(hdb:(x == ("__debug__" : Str))=false:=by decide)(he:starEach (e::es) X.env=(false,eval e X.env)::starEach es X.env:=by rfl)(hpl:(backTo pos (starEach es X.env)).any (·.1)=false:=by rfl):PE X (.Call (.Name x p) (e::es) [] pos) (tCB r t):=by
 intro D4 s σ H Q I h;refine wpAny_Call_Name_kw (qah9 I hg hm hv ?_ hn hdb);exact PyProof.Rows.callWith_type1 (thn (ha pos D4 s σ H _ I h) λ us s1 ⟨vs,H1,I1,r1,q1⟩=>hc D4 s1 σ H1 vs us Q I1 r1 q1) he hpl
end
end L2
namespace HT
open PySem PyProof.Rows
section
def sIx(n d:Nat):Option Int->Nat
 | none=>d
 | some v=>if v < 0 then (v+(n:Int)).toNat else min v.toNat n
theorem qae7(n d:Nat):sIx n d none=d:=rfl
theorem qau9(n d k:Nat):sIx n d (some (k:Int))=min k n:=by
 show (if (k:Int) < 0 then ((k:Int)+(n:Int)).toNat else min (k:Int).toNat n)=min k n;rw[if_neg (by lia),Int.toNat_natCast]
end
end HT
namespace L2
open PySem PySem.Spec PyProof.Rows
variable{its us:List Value}{n:Nat}{x:V}{α:Type}
abbrev TO:=St->Hp->(Option Int->Hp->Prop)->Prop
def PO(X:Cx)(e:Option Expr)(t:TO):Prop :=
 ∀(D4:List (Addr×Obj))(s:Shared)(σ:St)(H:Hp)(Q:Option Int->Hp->Prop),Inv X D4 σ H s->t σ H Q ->
   wpAny (model X.prog X.w) X.A (evalPart e X.env) (λ u s'=>∃ o H',Inv X D4 σ H' s'/\IsPart u o/\Q o H') X.xe s
def qaI2:TO:=λ _ H Q=>Q none H
def tPart(t:TE):TO:=λ σ H Q=>t σ H λ x H1=>∃ i,x=.int i/\Q (some i) H1
theorem qai8{ns:List Int}:∀{us:List Value},Vals (ns.map V.int) us->IntsAre us ns:=by
 induction ns with
 | nil=>intro us r;rw[List.map_nil] at r;cases r;exact .nil
 | cons n ns ih =>
   intro us r;rw[zB0] at r;cases r with
   | cons r1 r2 =>
     obtain⟨t,e⟩:=r1;subst e;exact .cons n t (ih r2)
section
variable{X:Cx}{e:Expr}{te:TE}{lo hi:Option Expr}{tl th:TO}{pos p2:Pos}
theorem qav9:PO X none qaI2:=by
 intro D4 s σ H Q I h;rw[evalPart_none];exact wpAny_pure ⟨none,H,I,.none,h⟩
theorem qav8(h:PE X e te):PO X (some e) (tPart te):=by
 intro D4 s σ H Q I hw;rw[evalPart_some];refine thn (h D4 s σ H _ I hw) λ u s1 ⟨x,H1,I1,r1,q1⟩=>?_
 obtain⟨i,rfl,q⟩:=q1;obtain⟨t,rfl⟩:=r1;exact⟨some i,H1,I1,.int i t,q⟩
def SlR(X:Cx)(r:V->Option Int->Option Int->Hp->VK->Prop):Prop :=
 ∀(D4:List (Addr×Obj))(s:Shared)(σ:St)(H:Hp)(x:V)(v vl vu:Value)(lo hi:Option Int)(sl:Addr)(Q:VK),Inv X D4 σ H s->RelV x v->s.heap.IsSliceOf sl vl vu .none->IsPart vl lo->IsPart vu hi->r x lo hi H Q ->
   ∃ T id,typeLookup (.type T) "__getitem__" = pure (some (.builtin id))/\s.TypeIs v T/\wpAny (model X.prog X.w) X.A (getItem v (.ref sl)) (EP X D4 σ Q) X.xe s
def tSl(r:V->Option Int->Option Int->Hp->VK->Prop)(te:TE)(tl th:TO):TE:=λ σ H Q=>te σ H λ x H1=>tl σ H1 λ l H2=>th σ H2 λ u H3=>r x l u H3 Q
theorem qaf2{r:V->Option Int->Option Int->Hp->VK->Prop}(hr:SlR X r)(he:PE X e te)(hl:PO X lo tl)(hu:PO X hi th):PE X (.Subscript e (.Slice lo hi none p2) pos) (tSl r te tl th):=by
 intro D4 s σ H Q I h;refine Subscript_ (thn (he D4 s σ H _ I h) λ v s1 ⟨x,H1,I1,r1,q1⟩=>?_);refine wpAny_Slice (thn (hl D4 s1 σ H1 _ I1 q1) λ vl s2 ⟨l,H2,I2,pl,q2⟩=>thn (hu D4 s2 σ H2 _ I2 q2) λ vu s3 ⟨u,H3,I3,pu,q3⟩=>?_);rw[evalPart_none];refine wpAny_pure ?_;have I4:Inv X D4 σ H3 { s3 with heap:=s3.heap.push { cls:=.type "slice",data:=.fields #[vl,vu,.none] } }:=I3.kept (t':=s3.toks) λ b ob q=>zA5 _ q
 obtain⟨T,id,hT,ht,hg⟩:=hr D4 { s3 with heap:=s3.heap.push { cls:=.type "slice",data:=.fields #[vl,vu,.none] } } σ H3 x v vl vu l u s3.heap.objs.size Q I4 r1 (Heap.IsSliceOf.new ..) pl pu q3;show wpAny (model X.prog X.w) X.A (subscriptTail e (.Slice lo hi none p2) v (.ref s3.heap.objs.size)) (EP X D4 σ Q) X.xe { s3 with heap:=s3.heap.push { cls:=.type "slice",data:=.fields #[vl,vu,.none] } };exact tail_any (ops:=[.ref s3.heap.objs.size,v]) ht hT hg (by with_unfolding_all rfl)
def Gb(xs:List V)(lo hi:Option Int):List V:=(xs.drop (HT.sIx xs.length 0 lo)).take (HT.sIx xs.length xs.length hi - HT.sIx xs.length 0 lo)
theorem qab7(xs:List V)(lo hi:Option Int):(Gb xs lo hi).length<=xs.length:=by
 unfold Gb;rw[zBu,List.length_drop];lia
end
def ixN(n:Nat)(i:Int):Option Nat:=if 0<=i then (if i < n then some i.toNat else none) else if -(n:Int)<=i then some (i+n).toNat else none
def atI{α:Type}(xs:List α)(i:Int):Option α:=(ixN xs.length i).bind λ j=>xs[j]?
theorem qV8{i:Int}{j:Nat}(h:ixN n i=some j):seqIndex? i n=some j/\j < n/\-(n:Int)<=i/\i < n:=by
 unfold ixN at h;by_cases h0:0<=i
 . rw[if_pos h0] at h
   by_cases h1:i < n
   . rw[if_pos h1] at h
     have e:i.toNat=j:=Option.some.inj h;exact⟨by rw[seqIndex_of h0 h1,e],by lia,by lia,h1⟩
   rw[if_neg h1] at h;cases h
 rw[if_neg h0] at h;by_cases h1:-(n:Int)<=i
 . rw[if_pos h1] at h
   have e:(i+n).toNat=j:=Option.some.inj h;exact⟨by rw[seqIndex_neg (by lia) h1,e],by lia,h1,by lia⟩
 rw[if_neg h1] at h;cases h
theorem qam2{xs:List α}{i:Int}{v:α}(h:atI xs i=some v):∃ j,seqIndex? i xs.length=some j/\xs[j]? = some v/\j < xs.length/\-(xs.length:Int)<=i/\i < xs.length:=by
 unfold atI at h;cases e:ixN xs.length i with
 | none=>rw[e] at h;cases h
 | some j =>
   rw[e] at h;obtain⟨h1,h2,h3,h4⟩:=qV8 e;exact⟨j,h1,h,h2,h3,h4⟩
theorem qB7{xs:List α}{j:Nat}{v:α}(h:xs[j]? = some v):atI xs (j:Int)=some v:=by
 have hj:j < xs.length:=(zA4.mp h).1;have e:ixN xs.length (j:Int)=some j:=by
   unfold ixN;rw[if_pos (by lia),if_pos (by lia)];simp
 unfold atI;rw[e];exact h
theorem qam1(xs:List α)(v:α):atI (xs++[v]) (-1)=some v:=by
 have hl:(xs++[v]).length=xs.length+1:=by simp
 have e:ixN (xs++[v]).length (-1)=some xs.length:=by
   unfold ixN;rw[hl,if_neg (by decide),if_pos (by lia)];congr 1;lia
 unfold atI;rw[e];show (xs++[v])[xs.length]? = some v;simp
def qam7(b:Expr):Prop:=∀ o i,subscripted b false o i=operate [o,i] (getItem o i)
def IxR(X:Cx)(r:R2):Prop :=
 ∀(value slice:Expr)(D4:List (Addr×Obj))(s:Shared)(σ:St)(H:Hp)(x y:V)(v u:Value)(Q:VK),Inv X D4 σ H s->RelV x v->RelV y u->r x y H Q ->
   subscripted slice false v u=operate [v,u] (getItem v u)->wpAny (model X.prog X.w) X.A (subscriptTail value slice v u) (EP X D4 σ Q) X.xe s
def MtR(X:Cx)(id:String)(r:V->List V->Hp->VK->Prop):Prop :=
 ∀(D4:List (Addr×Obj))(s:Shared)(σ:St)(H:Hp)(x:V)(xs:List V)(v:Value)(us:List Value)(Q:VK),Inv X D4 σ H s->RelV x v->Vals xs us->r x xs H Q ->
   wpAny (model X.prog X.w) X.A (call (.builtin id) (v::us)) (EP X D4 σ Q) X.xe s
section
variable{X:Cx}{a b:Expr}{ta tb:TE}{pos:Pos}
theorem IxR.or{r r':R2}(h:IxR X r)(h':IxR X r'):IxR X (λ x y H Q=>r x y H Q∨r' x y H Q):=by
 intro value slice D4 s σ H x y v u Q I rx ry q hs;rcases q with q | q
 . exact h value slice D4 s σ H x y v u Q I rx ry q hs
 exact h' value slice D4 s σ H x y v u Q I rx ry q hs
theorem pe_ix{r:R2}(hr:IxR X r)(ha:PE X a ta)(hb:PE X b tb)(hs:qam7 b):PE X (.Subscript a b pos) (tOp r ta tb):=by
 intro D4 s σ H Q I h;exact Subscript_ (binT ha hb I h λ v u s2 x y H2 I2 rx ry q=>hr a b D4 s2 σ H2 x y v u Q I2 rx ry q (hs _ _))
def rIxL(K:PySem.W.Frag):R2:=λ x y H Q=>∃ p xs i v,x=.ref p/\y=.int i/\SqL K H p xs/\atI xs i=some v/\Q v H
def rIxT(K:PySem.W.Frag):R2:=λ x y H Q=>∃ p xs i v,x=.ref p/\y=.int i/\SqT K H p xs/\atI xs i=some v/\Q v H
def rIxS:R2:=λ x y H Q=>∃ z i c,x=.str z/\y=.int i/\z.length<=sizeLine/\atI z.cps.toList i=some c/\Q (.str ⟨#[c]⟩) H
theorem qaO0:IxR X (rIxL X.K):=by
 intro value slice D4 s σ H x y v u Q I rx ry h hs;obtain⟨p,xs,i,z,rfl,rfl,hq,he,q⟩:=h;cases rx;obtain⟨t,rfl⟩:=ry;obtain⟨its,r,pl,hz⟩:=I.list hq;obtain⟨j,h1,h2,h3,h4,h5⟩:=qam2 he;obtain⟨w,ew,rw'⟩:=r.get h2;have hl:=r.length;have hn:=qR7;have fin:EP X D4 σ Q w s:=⟨z,H,I,rw',q⟩
 by_cases h0:0<=i
 . have hj:i.toNat=j:=by
     rw[seqIndex_of h0 h5] at h1;exact Option.some.inj h1
   exact item_listR pl.isList h0 (by lia) (by rw[hj];simpa using ew) fin hs
 have hj:(i+(its.toArray.size:Int)).toNat=j:=by
   rw[seqIndex_neg (by lia) h4] at h1;rw[zA2,<- hl];exact Option.some.inj h1
 exact subscriptTail_builtinR (x:=w) pl.isList.typeIs slot_list_getitem.lookup
   (wpAny_getItem_list_neg (Q:=λ r s'=>r=w/\EP X D4 σ Q r s') pl.isList (by lia) (by rw[zA2]<;>lia) (by lia) (by rw[hj];simpa using ew) ⟨rfl,fin⟩) hs
theorem qaV5:IxR X (rIxT X.K):=by
 intro value slice D4 s σ H x y v u Q I rx ry h hs;obtain⟨p,xs,i,z,rfl,rfl,hq,he,q⟩:=h;cases rx;obtain⟨t,rfl⟩:=ry;obtain⟨its,r,pl,hz⟩:=I.tuple hq;obtain⟨j,h1,h2,h3,h4,h5⟩:=qam2 he;obtain⟨w,ew,rw'⟩:=r.get h2;have hl:=r.length;have hn:=qR7;have fin:EP X D4 σ Q w s:=⟨z,H,I,rw',q⟩
 exact subscriptTail_builtinR (x:=w) pl.typeIs slot_tuple_getitem.lookup
   (getItem_tuple (j:=j) (Q:=λ r s'=>r=w/\EP X D4 σ Q r s') pl (by lia) (by lia) (by rw[zA2,<- hl];exact h1) (by simpa using ew) ⟨rfl,fin⟩) hs
theorem qaV6:IxR X rIxS:=by
 intro value slice D4 s σ H x y v u Q I rx ry h hs;obtain⟨z,i,c,rfl,rfl,hz,he,q⟩:=h;obtain⟨t,rfl⟩:=rx;obtain⟨t',rfl⟩:=ry;obtain⟨j,h1,h2,h3,h4,h5⟩:=qam2 he;have hl:z.cps.toList.length=z.length:=by simp[Str.length]
 rw[hl] at h1 h4 h5;have hn:=qR7;exact tail_any (typeIs_str s z t) slot_str_getitem.lookup (getItem_str (c:=c) (by
   have e1:decide (i < -(2 ^ 63:Int))=false:=zB3 (by lia);have e2:decide (i ≥ 2 ^ 63)=false:=zB3 (by lia);rw[e1,e2,Bool.or_false]) (by rw[h1];simpa using h2) ⟨.str ⟨#[c]⟩,H,I.tok _,⟨_,rfl⟩,q⟩) hs
def rIx(K:PySem.W.Frag):R2:=λ x y H Q=>rIxL K x y H Q∨rIxT K x y H Q∨rIxS x y H Q
theorem qb0:IxR X (rIx X.K):=qaO0.or (qaV5.or qaV6)
theorem qah2(its:List Value)(n j:Nat)(u:Value):Obj.mapSeq (·.setIfInBounds j u) { cls:=.type "list",data:=.seq its.toArray n }={ cls:=.type "list",data:=.seq (its.set j u).toArray n }:=by
 simp[Obj.mapSeq]
theorem Inv.lst{D4:List (Addr×Obj)}{σ:St}{H:Hp}{s:Shared}{p:Addr}{xs:List V}(I:Inv X D4 σ H s)(h:H p=some (.lst xs)) :
   ∃(its:List Value)(n:Nat),Vals xs its/\s.heap.get? p=some { cls:=.type "list",data:=.seq its.toArray n }/\xs.length<=sizeLine:=by
 obtain⟨z,its,n,r,e⟩:=I.hok p _ h;exact⟨its,n,r,e,z⟩
theorem Inv.lstUpd{D4:List (Addr×Obj)}{σ:St}{H:Hp}{s:Shared}{p:Addr}{xs ys:List V}{its':List Value}{n':Nat}{f:Obj->Obj}(I:Inv X D4 σ H s)(h:H p=some (.lst xs))(ho:s.heap.get? p=some { cls:=.type "list",data:=.seq its.toArray n })(hf:f { cls:=.type "list",data:=.seq its.toArray n }={ cls:=.type "list",data:=.seq its'.toArray n' })(r:Vals ys its')(hz:ys.length<=sizeLine)(t:Nat) :
   Inv X D4 σ (upd H p (.lst ys)) { s with heap:=s.heap.update p f,toks:=t }:=by
 have e:(s.heap.update p f).get? p=some { cls:=.type "list",data:=.seq its'.toArray n' }:=by
   rw[Heap.get?_update_self f ho (by rw[hf]<;>rfl),hf]
 refine I.write (x:=p) (e:=p) (by rw[h];trivial) (.inl rfl) (λ b u hb q=>(zBg _ _ (Ne.symm hb)).trans q) ⟨_,e⟩ ?_;exact⟨hz,its',n',r,e⟩
def rSetL:V->V->V->Hp->(Hp->Prop)->Prop:=λ o i v H Q=>∃ p xs k j,o=.ref p/\i=.int k/\H p=some (.lst xs)/\ixN xs.length k=some j/\Q (upd H p (.lst (xs.set j v)))
theorem qad8:PSet X rSetL:=by
 intro D4 s σ H o i v ov iv u Q I ro ri rv h;obtain⟨p,xs,k,j,rfl,rfl,hp,hj,q⟩:=h;cases ro;obtain⟨t,rfl⟩:=ri;obtain⟨its,n,r,ho,hz⟩:=I.lst hp;obtain⟨h1,h2,h3,h4⟩:=qV8 hj;have hl:=r.length;have hn:=qR7;have I':Inv X D4 σ (upd H p (.lst (xs.set j v))) { s with heap:=s.heap.update p (Obj.mapSeq (·.setIfInBounds j u)) } :=
   I.lstUpd hp ho (qah2 its n j u) (r.set rv j) (by rw[List.length_set];exact hz) s.toks
 by_cases h0:0<=k
 . have hk:k.toNat=j:=by
     rw[seqIndex_of h0 h4] at h1;exact Option.some.inj h1
   exact PySem.W.ki_setAt ho h0 (by lia) (by rw[zA2,<- hl];exact h4) (by rw[hk];exact⟨_,I',q⟩)
 have hk:(k+(its.toArray.size:Int)).toNat=j:=by
   rw[seqIndex_neg (by lia) h3] at h1;rw[zA2,<- hl];exact Option.some.inj h1
 exact PySem.W.ki_setBack ho (by lia) (by rw[zA2,<- hl];exact h3) (by lia) (by rw[hk];exact⟨_,I',q⟩)
theorem qP3(lo hi:Option Int)(n:Nat):(sliceBounds lo hi none n).1=((HT.sIx n 0 lo:Nat):Int)/\(sliceBounds lo hi none n).2.1=((HT.sIx n n hi:Nat):Int)/\(sliceBounds lo hi none n).2.2=1:=by
 refine⟨?_,?_,rfl⟩
 . cases lo with
   | none=>simp[sliceBounds,HT.sIx]
   | some i =>
     simp only[sliceBounds,HT.sIx,Option.getD_none,show (1:Int) > 0 by decide,if_true];by_cases h:i < 0
     . simp only[h,if_true]<;>lia
     simp only[h,if_false]<;>lia
 cases hi with
 | none=>simp[sliceBounds,HT.sIx]
 | some i =>
   simp only[sliceBounds,HT.sIx,Option.getD_none,show (1:Int) > 0 by decide,if_true];by_cases h:i < 0
   . simp only[h,if_true]<;>lia
   simp only[h,if_false]<;>lia
theorem qK1(its:List Value)(lo hi:Option Int):slicePick its.toArray lo hi none=((its.drop (HT.sIx its.length 0 lo)).take (HT.sIx its.length its.length hi - HT.sIx its.length 0 lo)).toArray:=by
 obtain⟨h1,h2,h3⟩:=qP3 lo hi its.toArray.size;unfold slicePick;rw[h1,h2,h3];simp only[sliceRange_one,pick_run,zA2]<;>rfl
def rSlL(K:PySem.W.Frag):V->Option Int->Option Int->Hp->VK->Prop:=λ x lo hi H Q=>∃ a xs,x=.ref a/\SqL K H a xs/\∀ p,H p=none->Q (.ref p) (upd H p (.lst (Gb xs lo hi)))
theorem qau5:SlR X (rSlL X.K):=by
 intro D4 s σ H x v vl vu lo hi sl Q I rx hs pl pu h;obtain⟨a,xs,rfl,hx,q⟩:=h;cases rx;obtain⟨its,r,ht,hz⟩:=I.list hx;have hlen:=r.length;refine⟨"list",_,slot_list_getitem.lookup,ht.isList.typeIs,?_⟩;refine wpAny_getItem_list_slice ht.isList hs pl pu .none (by simp) ?_ (by rw[zA2]<;>lia);rw[qK1,<- hlen];refine⟨.ref s.heap.objs.size,_,I.laid (t':=s.toks) (o:=.lst (Gb xs lo hi)) (λ b ob q=>zA5 _ q) (zA3 _) ?_,rfl,q _ (I.hok.fresh (zA3 _))⟩;exact⟨zAp (qab7 xs lo hi) hz,_,0,(r.drop (HT.sIx xs.length 0 lo)).take (HT.sIx xs.length xs.length hi - HT.sIx xs.length 0 lo),zAu _ rfl⟩
def flatV:V->Bool
 | .non=>true
 | .bl _=>true
 | .int _=>true
 | .str _=>true
 | _=>false
def eqV:V->V->Bool
 | .non,.non=>true
 | .bl a,.bl b=>a == b
 | .bl a,.int b=>(if a then 1 else 0) == b
 | .int a,.bl b=>a == (if b then 1 else 0)
 | .int a,.int b=>a == b
 | .str a,.str b=>a == b
 | _,_=>false
theorem qaP8{A:Around}{s:Shared}{y:V}{u v:Value}(ry:RelV y u)(rx:RelV x v)(fy:flatV y=true)(fx:flatV x=true):SeqAt.EqAt A s u v (eqV y x):=by
 cases y with
 | non =>
   cases ry;cases x with
   | non=>cases rx;exact SeqAt.EqAt.same _
   | bl b=>cases rx;exact SeqAt.EqAt.none_bool b
   | int b=>obtain⟨t,rfl⟩:=rx;exact SeqAt.EqAt.none_int b t
   | str b=>obtain⟨t,rfl⟩:=rx;exact SeqAt.EqAt.none_str b t
   | _=>exact absurd (show false=true from fx) zAj
 | bl a =>
   cases ry;cases x with
   | non=>cases rx;exact SeqAt.EqAt.bool_none a
   | bl b=>cases rx;exact SeqAt.EqAt.bool_bool a b
   | int b=>obtain⟨t,rfl⟩:=rx;exact SeqAt.EqAt.bool_int a b t
   | str b=>obtain⟨t,rfl⟩:=rx;exact SeqAt.EqAt.bool_str a b t
   | _=>exact absurd (show false=true from fx) zAj
 | int a =>
   obtain⟨t',rfl⟩:=ry;cases x with
   | non=>cases rx;exact SeqAt.EqAt.int_none a t'
   | bl b=>cases rx;exact SeqAt.EqAt.int_bool a t' b
   | int b=>obtain⟨t,rfl⟩:=rx;exact SeqAt.EqAt.int_int a t' b t
   | str b=>obtain⟨t,rfl⟩:=rx;exact SeqAt.EqAt.int_str a t' b t
   | _=>exact absurd (show false=true from fx) zAj
 | str a =>
   obtain⟨t',rfl⟩:=ry;cases x with
   | non=>cases rx;exact SeqAt.EqAt.str_none a t'
   | bl b=>cases rx;exact SeqAt.EqAt.str_bool a t' b
   | int b=>obtain⟨t,rfl⟩:=rx;exact SeqAt.EqAt.str_int a t' b t
   | str b=>obtain⟨t,rfl⟩:=rx;exact SeqAt.EqAt.str_str a t' b t
   | _=>exact absurd (show false=true from fx) zAj
 | _=>exact absurd (show false=true from fy) zAj
def eqU(x:V)(u:Value):Bool:=match u with
 | .none=>eqV .non x
 | .bool b=>eqV (.bl b) x
 | .int i _=>eqV (.int i) x
 | .str z _=>eqV (.str z) x
 | _=>false
theorem qaG0{y:V}{u:Value}(r:RelV y u)(f:flatV y=true):eqU x u=eqV y x:=by
 cases y with
 | non=>cases r;rfl
 | bl b=>cases r;rfl
 | int i=>obtain⟨t,rfl⟩:=r;rfl
 | str z=>obtain⟨t,rfl⟩:=r;rfl
 | _=>exact absurd (show false=true from f) zAj
theorem qN2{x:V}:∀{xs:List V}{us:List Value},Vals xs us->xs.all flatV=true->us.any (eqU x)=xs.any λ y=>eqV y x
 | _,_,.nil,_=>rfl
 | y::xs,u::us,.cons r t,f=>by
   rw[List.all_cons,zBi] at f;rw[zBl,zBl,qaG0 r f.1,qN2 t f.2]
theorem qu0{A:Around}{s:Shared}{x:V}{v:Value}(rx:RelV x v)(fx:flatV x=true):∀{xs:List V}{us:List Value},Vals xs us->xs.all flatV=true->∀ u∈us,SeqAt.EqAt A s u v (eqU x u)
 | _,_,.nil,_=>λ u hu=>by cases hu
 | y::xs,u::us,.cons r t,f=>λ u' hu=>by
   rw[List.all_cons,zBi] at f;rcases zAi.mp hu with rfl | hu
   . rw[qaG0 r f.1];exact qaP8 r rx f.1 fx
   exact qu0 rx fx t f.2 u' hu
def inV(x:V)(xs:List V):Bool:=xs.any λ y=>eqV y x
def rIn(K:PySem.W.Frag)(neg:Bool):R2:=λ x y H Q=>∃ p xs,y=.ref p/\(SqL K H p xs∨SqT K H p xs)/\flatV x=true/\xs.all flatV=true/\Q (.bl (if neg then !inV x xs else inV x xs)) H
theorem qq1:OpR X (compareOp .In) (rIn X.K false):=by
 intro D4 s σ H x y v u Q I rx ry h;obtain⟨p,xs,rfl,hq,fx,fs,q⟩:=h;cases ry;rcases hq with hq | hq
 . obtain⟨its,r,pl,hz⟩:=I.list hq
   refine SeqAt.in_listAt (eqU x) pl.isList (λ w hw=>qu0 rx fx r fs w (by simpa using hw)) ⟨.bl _,H,I,rfl,?_⟩;rw[show its.toArray.any (eqU x)=its.any (eqU x) by simp,qN2 r fs];exact q
 obtain⟨its,r,pl,hz⟩:=I.tuple hq;refine SeqAt.in_tupleAt (eqU x) pl (λ w hw=>qu0 rx fx r fs w (by simpa using hw)) ⟨.bl _,H,I,rfl,?_⟩;rw[show its.toArray.any (eqU x)=its.any (eqU x) by simp,qN2 r fs];exact q
theorem qA0:OpR X (compareOp .NotIn) (rIn X.K true):=by
 intro D4 s σ H x y v u Q I rx ry h;obtain⟨p,xs,rfl,hq,fx,fs,q⟩:=h;cases ry;rcases hq with hq | hq
 . obtain⟨its,r,pl,hz⟩:=I.list hq
   refine SeqAt.notIn_listAt (eqU x) pl.isList (λ w hw=>qu0 rx fx r fs w (by simpa using hw)) ⟨.bl _,H,I,rfl,?_⟩;rw[show its.toArray.any (eqU x)=its.any (eqU x) by simp,qN2 r fs];exact q
 obtain⟨its,r,pl,hz⟩:=I.tuple hq;refine SeqAt.notIn_tupleAt (eqU x) pl (λ w hw=>qu0 rx fx r fs w (by simpa using hw)) ⟨.bl _,H,I,rfl,?_⟩;rw[show its.toArray.any (eqU x)=its.any (eqU x) by simp,qN2 r fs];exact q
theorem qT0:CallR X (.builtin "len") (λ xs H Q=>∃ p ys,xs=[.ref p]/\(SqL X.K H p ys∨SqT X.K H p ys)/\Q (.int ys.length) H):=by
 intro D4 s σ H xs us Q I r h;obtain⟨p,ys,rfl,hq,q⟩:=h;obtain⟨u,rfl,rx⟩:=B7 r;cases rx;have hn:=qR7;rcases hq with hq | hq
 . obtain⟨its,r',pl,hz⟩:=I.list hq
   have hlen:=r'.length;exact Calls.call_len_list pl.isList (by simp only[zA2]<;>lia) ⟨.int ys.length,H,I.tok _,⟨s.toks+1,by rw[zA2,hlen]⟩,q⟩
 obtain⟨its,r',pl,hz⟩:=I.tuple hq;have hlen:=r'.length;exact len_tuple pl (by simp only[zA2]<;>lia) ⟨.int ys.length,H,I.tok _,⟨s.toks+1,by rw[zA2,hlen]⟩,q⟩
theorem qS9:CallR X (.builtin "len") (λ xs H Q=>∃ z,xs=[.str z]/\z.length<=sizeLine/\Q (.int z.length) H):=by
 intro D4 s σ H xs us Q I r h;obtain⟨z,rfl,hz,q⟩:=h;obtain⟨u,rfl,t,rfl⟩:=B7 r;have hn:=qR7;exact len_str (by lia) ⟨.int z.length,H,I.tok _,⟨_,rfl⟩,q⟩
theorem CallR.or{f:Value}{r r':List V->Hp->VK->Prop}(h:CallR X f r)(h':CallR X f r'):CallR X f (λ xs H Q=>r xs H Q∨r' xs H Q):=by
 intro D4 s σ H xs us Q I rs q;rcases q with q | q
 . exact h D4 s σ H xs us Q I rs q
 exact h' D4 s σ H xs us Q I rs q
theorem qd3:CallR X (.type "list") (λ xs H Q=>∃ p ys,xs=[.ref p]/\(SqL X.K H p ys∨SqT X.K H p ys)/\∀ l,H l=none->Q (.ref l) (upd H l (.lst ys))):=by
 intro D4 s σ H xs us Q I r h;obtain⟨p,ys,rfl,hq,q⟩:=h;obtain⟨u,rfl,rx⟩:=B7 r;cases rx;have fin:∀(its:List Value),Vals ys its->ys.length<=sizeLine->∀(h':Heap)(c':Nat),(∀ b o',s.heap.get? b=some o'->h'.get? b=some o') ->
     h'.get? s.heap.objs.size=some { cls:=.type "list",dict:=none,data:=.seq its.toArray c',slots:=#[] }->EP X D4 σ Q (.ref s.heap.objs.size) { s with heap:=h' }:=λ its r' hz h' c' kp e =>
   ⟨.ref s.heap.objs.size,_,I.laid (t':=s.toks) kp (zA3 _) (show ObjOk X.prog X.w _ h' _ (.lst ys) from⟨hz,its,c',r',e⟩),rfl,q _ (I.hok.fresh (zA3 _))⟩
 rcases hq with hq | hq
 . obtain⟨its,r',pl,hz⟩:=I.list hq
   have hlen:=r'.length;obtain⟨o,ho,hc,n,hd⟩:=pl.isList;exact call_list_seq p (.inl rfl) ho hc hd (λ h' c' kp e=>fin its r' hz h' c' kp e) (by simp only[zA2]<;>lia)
 obtain⟨its,r',pl,hz⟩:=I.tuple hq;have hlen:=r'.length;obtain⟨o,ho,hc,n,hd⟩:=pl;exact call_list_seq p (.inr rfl) ho hc hd (λ h' c' kp e=>fin its r' hz h' c' kp e) (by simp only[zA2]<;>lia)
def tyV(K:PySem.W.Frag)(T:String)(x:V)(H:Hp):Prop:=match x with
 | .str _=>T = "str"
 | .int _=>T = "int"
 | .ref p=>(T = "list" /\ ∃ xs,SqL K H p xs)∨(T = "tuple" /\ ∃ o,K.lookup p=some o/\o.cls=.type "tuple" /\ o.dict=none) ∨
     (T = "dict" /\ ((∃ kvs,H p=some (.dK kvs))∨∃ kvs,H p=some (.dT kvs)))∨(T = "set" /\ ∃ S n,H p=some (.set S n))
 | _=>False
theorem qaH8{D4:List (Addr×Obj)}{σ:St}{H:Hp}{s:Shared}{T:String}{v:Value}(I:Inv X D4 σ H s)(r:RelV x v)(ty:tyV X.K T x H) :
   s.TypeIs v T/\∀ a,v=.ref a->∃ ob,s.heap.get? a=some ob/\ob.dict=none:=by
 cases x with
 | str z =>
   obtain⟨t,rfl⟩:=r;cases (show T = "str" from ty);exact⟨typeIs_str s z t,λ _ e=>nomatch e⟩
 | int i =>
   obtain⟨t,rfl⟩:=r;cases (show T = "int" from ty);exact⟨typeIs_int s i t,λ _ e=>nomatch e⟩
 | ref p =>
   cases r;rcases ty with⟨rfl,xs,hq⟩ | ⟨rfl,o,hk,hc,hd⟩ | ⟨rfl,hk⟩ | ⟨rfl,S,n,hk⟩
   . obtain⟨its,_,pl,_⟩:=I.list hq
     refine⟨pl.isList.typeIs,λ a e=>?_⟩;cases e;obtain⟨o,n,e,c,hd,_⟩:=pl;exact⟨o,e,hd⟩
   . refine⟨⟨o,I.kIn p o hk,hc⟩,λ a e=>?_⟩
     cases e;exact⟨o,I.kIn _ o hk,hd⟩
   . have z:∃ o,s.heap.get? p=some o/\o.ExactDict:=by
       rcases hk with⟨kvs,hk⟩ | ⟨kvs,hk⟩
       . obtain⟨_,_,_,_,o,_,_,e,ex,_⟩:=I.hok p _ hk
         exact⟨o,e,ex⟩
       obtain⟨_,_,_,_,o,_,_,e,ex,_⟩:=I.hok p _ hk;exact⟨o,e,ex⟩
     obtain⟨o,e,ex⟩:=z;refine⟨⟨o,e,ex.1⟩,λ a e2=>?_⟩;cases e2;exact⟨o,e,ex.2.1⟩
   obtain⟨o,_,_,_,e,ex,_⟩:=I.hok p _ hk;refine⟨⟨o,e,ex.1⟩,λ a e2=>?_⟩;cases e2;exact⟨o,e,ex.2.1⟩
 | _=>exact False.elim ty
def tBM0(K:PySem.W.Frag)(T:String)(r:V->List V->Hp->VK->Prop)(to:TE):TE:=λ σ H Q=>to σ H λ x H1=>tyV K T x H1/\r x [] H1 Q
def tBM(K:PySem.W.Frag)(T:String)(r:V->List V->Hp->VK->Prop)(to:TE)(t:TA):TE:=λ σ H Q=>to σ H λ x H1=>tyV K T x H1/\t σ H1 λ xs H2=>r x xs H2 Q
variable{o e:Expr}{es:List Expr}{to:TE}{t:TA}{name:Str}{apos cpos:Pos}{T id:String}{r:V->List V->Hp->VK->Prop}
theorem qaL1(pa:PlainAttrs T)(slot:Slot T name id)(hty:typeOf (.builtin id)=pure (.type "method_descriptor"))(hm:MtR X id r)(ho:PE X o to)(hbase:attributeBase o name X.env (eval o X.env)=eval o X.env:=by rfl)(hline:(apos.endLine == cpos.line)=true:=by rfl):PE X (.Call (.Attribute o name apos) [] [] cpos) (tBM0 X.K T r to):=by
 intro D4 s σ H Q I h;refine wpAny_Call_method0_late hbase hline (thn (ho D4 s σ H _ I h) λ v s1 ⟨x,H1,I1,r1,ty,q1⟩=>?_);obtain⟨h1,h2⟩:=qaH8 I1 r1 ty;exact⟨T,id,pa,slot,hty,h1,h2,Calls.callWith_builtin rfl (PySem.evalArgs_none (hm D4 s1 σ H1 x [] v [] Q I1 r1 .nil q1))⟩
theorem G3(pa:PlainAttrs T)(slot:Slot T name id)(hty:typeOf (.builtin id)=pure (.type "method_descriptor"))(hm:MtR X id r)(ho:PE X o to)(ha:PA X (e::es) t)(hbase:attributeBase o name X.env (eval o X.env)=eval o X.env:=by rfl)(hfew:((backTo cpos (starEach (e::es) X.env)).all (λ x=>!x.1)&&(backToKw cpos (keywordEach [] X.env)).all (λ x=>x.1.isSome)
     && decide ((e::es).length+([]:List Keyword).length+(if ([]:List Keyword).isEmpty then 0 else 1) < 30))=true:=by rfl)(hline:(apos.endLine == cpos.line)=true:=by rfl)(hs:starEach (e::es) X.env=(false,eval e X.env)::starEach es X.env:=by rfl)(hplain:(backTo cpos (starEach es X.env)).any (·.1)=false:=by rfl) :
   PE X (.Call (.Attribute o name apos) (e::es) [] cpos) (tBM X.K T r to t):=by
 intro D4 s σ H Q I h;refine wpAny_Call_method_late hbase hfew hline rfl (thn (ho D4 s σ H _ I h) λ v s1 ⟨x,H1,I1,r1,ty,q1⟩=>?_);obtain⟨h1,h2⟩:=qaH8 I1 r1 ty;refine⟨T,id,pa,slot,hty,h1,h2,?_⟩;have hA:=ha cpos D4 s1 σ H1 _ I1 q1;rw[hs] at hA ⊢;refine Calls.callWith_builtin (by show (false||(backTo cpos (starEach es X.env)).any (·.1))=false;rw[hplain]<;>rfl) (Calls.evalArgs_plain ?_);exact thn hA λ us s2 ⟨vs,H2,I2,r2,q2⟩=>hm D4 s2 σ H2 x vs v us Q I2 r1 r2 q2
/- xs.append(e),list.index on a module's tuple .. are MtR facts of 06m -/
end
def MtM(X:Cx)(id:String)(r:V->List V->Hp->VK->Prop):Prop :=
 ∀(D4:List (Addr×Obj))(s:Shared)(σ:St)(H:Hp)(x:V)(xs:List V)(v:Value)(us:List Value)(Q:VK),Inv X D4 σ H s->RelV x v->Vals xs us->r x xs H Q ->
   wpAny (model X.prog X.w) X.A (call (.builtin id) (v::us)) (EP X D4 σ Q) X.xe s
theorem Vals.one(h:Vals [x] us):∃ u,us=[u]/\RelV x u:=by
 cases h with
 | cons r t=>cases t;exact⟨_,rfl,r⟩
theorem Vals.two{y:V}(h:Vals [x,y] us):∃ u v,us=[u,v]/\RelV x u/\RelV y v:=by
 cases h with
 | cons r t =>
   cases t with
   | cons q t=>cases t;exact⟨_,_,rfl,r,q⟩
theorem Vals.zero:∀{us:List Value},Vals [] us->us=[]
 | _,.nil=>rfl
theorem Vals.dropLast{xs:List V}(h:Vals xs us):Vals xs.dropLast us.dropLast:=by
 induction h with
 | nil=>exact .nil
 | cons r t ih =>
   cases t with
   | nil=>exact .nil
   | cons q t'=>exact .cons r ih
theorem Vals.eraseIdx:∀{xs:List V}{us:List Value}(i:Nat),Vals xs us->Vals (xs.eraseIdx i) (us.eraseIdx i)
 | _,_,_,.nil=>.nil
 | _,_,0,.cons _ t=>t
 | _,_,i+1,.cons r t=>.cons r (Vals.eraseIdx i t)
theorem Vals.rep{xs:List V}{us:List Value}(h:Vals xs us):∀ k:Nat,Vals (List.replicate k xs).flatten (List.replicate k us).flatten
 | 0=>.nil
 | k+1=>by
   rw[zBk,zBk,zBz,zBz];exact Vals.append h (Vals.rep h k)
theorem qak5(l:List α):l.eraseIdx (l.length - 1)=l.dropLast:=by
 induction l with
 | nil=>rfl
 | cons a r ih =>
   cases r with
   | nil=>rfl
   | cons b r =>
     have e:(a::b::r).length - 1=((b::r).length - 1)+1:=by
       have h1:(a::b::r).length=r.length+2:=rfl;have h2:(b::r).length=r.length+1:=rfl;lia
     rw[e,List.eraseIdx_cons_succ,ih]
     all_goals rfl
theorem qV7{α:Type}:∀(l:List α)(i:Nat),(l.eraseIdx i).length<=l.length
 | [],_=>zA3 _
 | _::_,0=>Nat.le_succ _
 | _::r,i+1=>Nat.succ_le_succ (qV7 r i)
theorem qW5(its:List Value):∀(k:Nat)(acc:List Value),
   List.foldl (λ x1 x2=>x1++x2) acc.toArray (List.replicate k its.toArray)=(acc++(List.replicate k its).flatten).toArray
 | 0,acc=>by simp
 | k+1,acc=>by
   have e:acc.toArray++its.toArray=(acc++its).toArray:=by simp
   have e2:(acc++its)++(List.replicate k its).flatten=acc++(List.replicate (k+1) its).flatten:=by
     rw[zBk,zBz,zB7]
   rw[<- e2,<- qW5 its k (acc++its),<- e,zBk,List.foldl_cons]
section
variable{X:Cx}{D4:List (Addr×Obj)}{σ:St}{H:Hp}{s:Shared}{l:Addr}{xs ys:List V}
theorem Inv.lset{its':List Value}{f:Array Value->Array Value}{t':Nat}(I:Inv X D4 σ H s)(hH:H l=some (.lst xs))(e:s.heap.get? l=some { cls:=.type "list",data:=.seq its.toArray n })(hf:f its.toArray=its'.toArray)(hv:Vals ys its')(hz:ys.length<=sizeLine) :
   Inv X D4 σ (upd H l (.lst ys)) { s with heap:=s.heap.update l (Obj.mapSeq f),toks:=t' }:=by
 have q:=PySem.IsL.update e f;rw[hf] at q;refine I.write (x:=l) (e:=l) (by rw[hH];exact trivial) (.inl rfl) (λ b' u hb hu=>(zBg s.heap (Obj.mapSeq f) (Ne.symm hb)).trans hu) ⟨_,q⟩ ?_;exact⟨hz,its',_,hv,q⟩
theorem Inv.lnew{t':Nat}(I:Inv X D4 σ H s)(hv:Vals ys its)(hz:ys.length<=sizeLine) :
   Inv X D4 σ (upd H s.heap.objs.size (.lst ys)) { s with heap:=s.heap.push { cls:=.type "list",data:=.seq its.toArray },toks:=t' } :=
 I.laid (λ _ _ q=>zA5 _ q) (zA3 _) ⟨hz,its,0,hv,zAu _ rfl⟩
theorem Inv.fresh(I:Inv X D4 σ H s):H s.heap.objs.size=none:=I.hok.fresh (zA3 _)
theorem Inv.lstM(I:Inv X D4 σ H s)(hH:H l=some (.lst xs)):xs.length<=sizeLine/\∃(its:List Value)(n:Nat),Vals xs its/\xs.length=its.length/\s.heap.get? l=some { cls:=.type "list",data:=.seq its.toArray n }:=by
 obtain⟨z,its,n,r,e⟩:=I.hok l _ hH;exact⟨z,its,n,r,r.length,e⟩
theorem qR2(h:n<=sizeLine):Builtin.List.listTooLong n=false:=by
 unfold Builtin.List.listTooLong;exact zB3 (by lia)
end
section
variable{X:Cx}
def qav5:V->List V->Hp->VK->Prop:=λ x vs H Q=>∃ l xs y,x=.ref l/\vs=[y]/\H l=some (.lst xs)/\xs.length < sizeLine/\Q .non (upd H l (.lst (xs++[y])))
theorem qd5:MtM X "list.append" qav5:=by
 intro D4 s σ H x vs v us Q I rx rv h;obtain⟨l,xs,y,rfl,rfl,hH,hz,q⟩:=h;cases rx;obtain⟨u,rfl,ru⟩:=rv.one;obtain⟨z,its,n,r,hl,e⟩:=I.lstM hH;refine call_meets F.slot_list_append ⟨_,e,rfl⟩ F.entry_list_append (F.args_list_append_2 _ _) (PySem.list_append l its.toArray n u (by rw[zA2];lia)) ⟨e,?_⟩;refine⟨.non,_,I.lset (its':=its++[u]) hH e (by simp) (r.append (.cons ru .nil)) ?_,rfl,q⟩;rw[zA8,List.length_singleton];lia
def rPop:V->List V->Hp->VK->Prop:=λ x vs H Q=>∃ l xs y,x=.ref l/\vs=[]/\H l=some (.lst xs)/\xs[xs.length - 1]? = some y/\Q y (upd H l (.lst xs.dropLast))
theorem qaM7:MtM X "list.pop" rPop:=by
 intro D4 s σ H x vs v us Q I rx rv h;obtain⟨l,xs,y,rfl,rfl,hH,hy,q⟩:=h;cases rx;have hus:=rv.zero;subst hus;obtain⟨z,its,n,r,hl,e⟩:=I.lstM hH;obtain⟨u,hu,ru⟩:=r.get hy;have hy':its.toArray[its.toArray.size - 1]? = some u:=by
   show its.toArray[its.length - 1]? = some u;rw[<- Array.getElem?_toList,<- hl];exact hu
 refine call_meets F.slot_list_pop ⟨_,e,rfl⟩ F.entry_list_pop (F.args_list_pop_1 _) (MeetsSeq.list_pop_last l its.toArray n u hy' (by rw[zA2];lia)) ⟨e,?_⟩;refine⟨y,_,I.lset (its':=its.dropLast) hH e ?_ r.dropLast ?_,ru,q⟩
 . show its.toArray.eraseIdxIfInBounds (its.toArray.size - 1)=its.dropLast.toArray
   rw[zA2,List.eraseIdxIfInBounds_toArray,qak5]
 rw[List.length_dropLast];lia
def qaJ5:V->List V->Hp->VK->Prop:=λ x vs H Q=>∃ l xs i k y,x=.ref l/\vs=[.int i]/\H l=some (.lst xs)/\-(2 ^ 63)<=i/\i < 2 ^ 63/\seqIndex? i xs.length=some k/\xs[k]? = some y/\Q y (upd H l (.lst (xs.eraseIdx k)))
theorem qaD5:MtM X "list.pop" qaJ5:=by
 intro D4 s σ H x vs v us Q I rx rv h;obtain⟨l,xs,i,k,y,rfl,rfl,hH,h1,h2,hk,hy,q⟩:=h;cases rx;obtain⟨u,rfl,ru⟩:=rv.one;obtain⟨t,rfl⟩:=ru;obtain⟨z,its,n,r,hl,e⟩:=I.lstM hH;obtain⟨w,hw,rw'⟩:=r.get hy;refine call_meets F.slot_list_pop ⟨_,e,rfl⟩ F.entry_list_pop (F.args_list_pop_2 _ _)
   (MeetsSeq.list_pop_at l its.toArray n i t k w (fitsIndex_both h1 h2) (by rw[zA2,<- hl];exact hk) (by rw[<- Array.getElem?_toList];exact hw) (by rw[zA2];lia)) ⟨e,?_⟩
 refine⟨y,_,I.lset (its':=its.eraseIdx k) hH e ?_ (r.eraseIdx k) ?_,rw',q⟩
 . show its.toArray.eraseIdxIfInBounds k=(its.eraseIdx k).toArray
   rw[List.eraseIdxIfInBounds_toArray]
 have:=qV7 xs k
 lia
def rCat:R2:=λ x y H Q=>∃ l b xs zs,x=.ref l/\y=.ref b/\H l=some (.lst xs)/\H b=some (.lst zs)/\xs.length+zs.length<=sizeLine/\∀ p,H p=none->Q (.ref p) (upd H p (.lst (xs++zs)))
theorem qaU3:OpR X (binaryOp .Add) rCat:=by
 intro D4 s σ H x y v u Q I rx ry h;obtain⟨l,b,xs,zs,rfl,rfl,hH,hB,hz,q⟩:=h;cases rx;cases ry;obtain⟨z,its,n,r,hl,e⟩:=I.lstM hH;obtain⟨z2,its2,n2,r2,hl2,e2⟩:=I.lstM hB;refine PySem.P.add_list e e2 ?_ (by rw[zA2,zA2];lia);have ea:its.toArray++its2.toArray=(its++its2).toArray:=by simp
 rw[ea];exact⟨.ref _,_,I.lnew (t':=s.toks) (r.append r2) (by rw[zA8];lia),rfl,q _ I.fresh⟩
def rRep:R2:=λ x y H Q=>∃ l k xs,x=.ref l/\y=.int k/\H l=some (.lst xs)/\-(2 ^ 63)<=k/\k < 2 ^ 63/\xs.length * k.toNat<=sizeLine /\
 ∀ p,H p=none->Q (.ref p) (upd H p (.lst (List.replicate k.toNat xs).flatten))
theorem qaN4(xs:List α)(k:Nat):(List.replicate k xs).flatten.length=k * xs.length:=by
 induction k with
 | zero=>simp
 | succ k ih=>rw[zBk,zBz,zA8,ih,Nat.succ_mul,Nat.add_comm]
theorem qaT6:OpR X (binaryOp .Mult) rRep:=by
 intro D4 s σ H x y v u Q I rx ry h;obtain⟨l,k,xs,rfl,rfl,hH,h1,h2,hz,q⟩:=h;cases rx;obtain⟨t,rfl⟩:=ry;obtain⟨z,its,n,r,hl,e⟩:=I.lstM hH;have hlen:its.toArray.size * k.toNat<=sizeLine:=by rw[zA2,<- hl];exact hz
 have hcap:¬ its.toArray.size * k.toNat > (2 ^ 63 - 1) / 8:=by
   have:(sizeLine:Nat)<=(2 ^ 63 - 1) / 8:=by decide
   lia
 have hfit:¬ (!Builtin.List.listFitsIndex k)=true:=by
   rw[fitsIndex_both h1 h2];exact zAj
 have hlong:¬ Builtin.List.listTooLong (its.toArray.size * k.toNat)=true:=by
   rw[qR2 hlen];exact zAj
 have hnew:List.foldl (λ x1 x2=>x1++x2) #[] (List.replicate (if its.toArray.isEmpty=true then 0 else k.toNat) its.toArray)=(List.replicate k.toNat its).flatten.toArray:=by
   have f0:∀ m:Nat,List.foldl (λ x1 x2=>x1++x2) #[] (List.replicate m its.toArray)=(List.replicate m its).flatten.toArray:=λ m=>by
     have:=qW5 its m []
     rw[zB5] at this;exact this
   rw[f0];cases its with
   | nil=>simp
   | cons a r'=>rw[if_neg (by simp)]
 refine wpAny_binaryOp_repeat_ref (T := "list") (U := "int") (by decide) ⟨_,e,rfl⟩ (λ s'=>typeIs_int s' k t) noFill_list_mul F.fills_int_mul F.slot_int_rmul repeat_list F.slot_int_index.lookup
   (call_meets F.slot_int_rmul (typeIs_int s k t) F.entry_int_rmul (F.args_int_rmul_2 _ _) (int___rmul___int_list k t l its.toArray n)
     ⟨e,rfl,⟨_,e,rfl⟩,call_meets F.slot_list_mul ⟨_,e,rfl⟩ F.entry_list_mul (F.args_list_mul_2 _ _) (AutoListH.list___mul___list_int_3 l its.toArray n k t hfit hcap hlong) ⟨e,?_⟩⟩)
 rw[hnew];exact⟨.ref _,_,I.lnew (t':=s.toks) (r.rep k.toNat) (by rw[qaN4,Nat.mul_comm];exact hz),rfl,q _ I.fresh⟩
end
section
theorem qao0(its its2:List Value)(a c:Nat):its.toArray.extract 0 a++its2.toArray++its.toArray.extract c its.toArray.size=(its.take a++its2++its.drop c).toArray:=by
 apply Array.toList_inj.mp
 first
   | (simp
      exact zBa (by simp))
   | simp[zBa]
   | simp
end
section
variable{κ:Type}[DecidableEq κ]
def Ez(kvs:List (κ×V))(k:κ):Option V:=(kvs.find? λ kv=>decide (kv.1=k)).map (·.2)
def putK(kvs:List (κ×V))(k:κ)(v:V):List (κ×V) :=
 if (kvs.any λ kv=>decide (kv.1=k))=true then kvs.map (λ kv=>if kv.1=k then (kv.1,v) else kv) else kvs++[(k,v)]
theorem qN9{p:κ×V}{r:List (κ×V)}{k:κ}(e:p.1=k):Ez (p::r) k=some p.2:=by simp[Ez,zBq,e]
theorem qO0{p:κ×V}{r:List (κ×V)}{k:κ}(e:¬ p.1=k):Ez (p::r) k=Ez r k:=by simp[Ez,zBq,e]
theorem qab2(kvs:List (κ×V))(k:κ)(v:V):(putK kvs k v).length<=kvs.length+1:=by
 unfold putK;split
 . rw[zAc];lia
 rw[zA8,zAo,zC9];lia
theorem RelO.getD{o:Option V}{u:Option Value}{d:V}{d':Value}(r:RelO o u)(rd:RelV d d'):RelV (o.getD d) (u.getD d'):=by
 cases o with
 | none=>cases u with
   | none=>exact rd
   | some _=>exact(show False from r).elim
 | some _=>cases u with
   | none=>exact(show False from r).elim
   | some _=>exact r
theorem KV.val{kvs:List (κ×V)}{vs:List (κ×Value)}(r:KV kvs vs)(k:κ):RelO (Ez kvs k) (valueAt vs k):=by
 unfold KV at r
 induction r with
 | nil=>exact True.intro
 | @cons p q ps qs h t ih =>
   obtain⟨h1,h2⟩:=h;by_cases e:p.1=k
   . have e':q.1=k:=h1.symm.trans e
     have b:valueAt (q::qs) k=some q.2:=by simp[valueAt,zBq,e']
     rw[qN9 e,b];exact h2
   have e':¬ q.1=k:=λ z=>e (h1.trans z)
   have b:valueAt (q::qs) k=valueAt qs k:=by simp[valueAt,zBq,e']
   rw[qO0 e,b];exact ih
theorem KV.any{kvs:List (κ×V)}{vs:List (κ×Value)}(r:KV kvs vs)(k:κ):(kvs.any λ kv=>decide (kv.1=k))=vs.any λ kv=>decide (kv.1=k):=by
 unfold KV at r
 induction r with
 | nil=>rfl
 | cons h t ih=>rw[zBl,zBl,ih,h.1]
theorem KV.repl{kvs:List (κ×V)}{vs:List (κ×Value)}(r:KV kvs vs)(k:κ){y:V}{u:Value}(ry:RelV y u) :
   KV (kvs.map λ kv=>if kv.1=k then (kv.1,y) else kv) (vs.map λ kv=>if kv.1=k then (kv.1,u) else kv):=by
 unfold KV at r ⊢
 induction r with
 | nil=>exact .nil
 | @cons p q ps qs h t ih =>
   rw[zB0,zB0];refine .cons ?_ ih;obtain⟨h1,h2⟩:=h;by_cases e:p.1=k
   . rw[if_pos e,if_pos (h1.symm.trans e)];exact⟨h1,ry⟩
   rw[if_neg e,if_neg (λ z=>e (h1.trans z))];exact⟨h1,h2⟩
theorem KV.put{kvs:List (κ×V)}{vs:List (κ×Value)}(r:KV kvs vs)(k:κ){y:V}{u:Value}(ry:RelV y u):KV (putK kvs k y) (stored vs k u):=by
 unfold putK stored;rw[r.any k];by_cases e:(vs.any λ kv=>decide (kv.1=k))=true
 . rw[if_pos e,if_pos e];exact r.repl k ry
 rw[if_neg e,if_neg e];exact Paired.snoc r ⟨rfl,ry⟩
theorem KV.length{kvs:List (κ×V)}{vs:List (κ×Value)}(r:KV kvs vs):kvs.length=vs.length:=Paired.length r
end
theorem Ij{P:Program}{w:World}{k:Key}{u:Value}(r:RelV (kV k) u):(qg5 P w).is k u=true:=by
 cases k with
 | inl i=>obtain⟨t,e⟩:=(show ∃ t,u=Value.int i t from r);subst e;exact qab0 P w i t
 | inr x=>obtain⟨t,e⟩:=(show ∃ t,u=Value.str x t from r);subst e;exact qaa9 P w x t
theorem qV9{P:Program}{w:World}:∀{ks:List Key}{us:List Value},Vals (ks.map kV) us->ItemsAre (qg5 P w) ks us
 | [],_,r=>by rw[List.map_nil] at r;cases r;exact .nil
 | k::ks,_,r=>by
   rw[zB0] at r;cases r with
   | cons h t=>exact .cons (Ij h) (qV9 t)
abbrev KT(H:Hp):List (List Key×V)->List (List Key×Addr×Value)->Prop:=Paired λ p q=>p.1=q.1/\H q.2.1=some (.tup (p.1.map kV))/\RelV p.2 q.2.2
theorem KT.val{H:Hp}{kvs:List (List Key×V)}{xs:List (List Key×Addr×Value)}(r:KT H kvs xs)(k:List Key):RelO (Ez kvs k) ((atKey xs k).map (·.2)):=by
 induction r with
 | nil=>exact True.intro
 | @cons p q ps qs h t ih =>
   obtain⟨h1,_,h2⟩:=h;by_cases e:p.1=k
   . have e':q.1=k:=h1.symm.trans e
     have b:atKey (q::qs) k=some q.2:=by simp[atKey,zBq,e']
     rw[qN9 e,b];exact h2
   have e':¬ q.1=k:=λ z=>e (h1.trans z)
   have b:atKey (q::qs) k=atKey qs k:=by simp[atKey,zBq,e']
   rw[qO0 e,b];exact ih
section
variable{P:Program}{w:World}{H:Hp}{h:Heap}{a:Addr}
theorem rd_of{u:HO}(ok:HOk P w H h)(e:Rd H a u):ObjOk P w H h a u:=e.ok ok
theorem Ik{kvs:List (Key×V)}(ok:HOk P w H h)(e:Rd H a (.dK kvs)):kvs.length<=sizeLine/\(a == sysModules)=false/\∃ vs,KV kvs vs/\h.DictOf (qg5 P w) a vs :=
 show ObjOk P w H h a (.dK kvs) from rd_of ok e
theorem qaN9{ks:List Key}(ok:HOk P w H h)(e:H a=some (.tup (ks.map kV))):(tupleKind (qg5 P w)).is h ks a:=by
 obtain⟨_,its,r,o,h1,h2,n,h3⟩:=(show ObjOk P w H h a (.tup (ks.map kV)) from ok a _ e)
 exact⟨o,its.toArray,n,h1,h2,h3,by simpa using qV9 r⟩
theorem dt_rd{kvs:List (List Key×V)}(ok:HOk P w H h)(e:Rd H a (.dT kvs)):kvs.length<=sizeLine/\(a == sysModules)=false /\
   ∃ xs,KT H kvs xs/\h.DictOfH (tupleKind (qg5 P w)) a xs:=by
 obtain⟨z,y,xs,r,o,es,ep,h1,h2,h3,h4,h5⟩:=(show ObjOk P w H h a (.dT kvs) from rd_of ok e)
 refine⟨z,y,xs,r,o,es,ep,h1,h2,h3,h4,λ x hx=>?_,h5⟩;have all:∀{l:List (List Key×V)}{m:List (List Key×Addr×Value)},KT H l m->∀ x∈m,(tupleKind (qg5 P w)).is h x.1 x.2.1:=by
   intro l m q
   induction q with
   | nil=>intro x hx;exact nomatch hx
   | @cons p q ps qs hq t ih =>
     intro x hx;rcases zAi.mp hx with e | hx
     . subst e
       exact qaN9 ok (by rw[<- hq.1];exact hq.2.1)
     exact ih x hx
 exact all r x hx
end
def DGet(H:Hp)(a:Addr)(y:V)(r:Option V):Prop :=
 (∃ kvs k,Rd H a (.dK kvs)/\y=kV k/\r=Ez kvs k)∨∃ kvs k b,Rd H a (.dT kvs)/\y=.ref b/\H b=some (.tup (k.map kV))/\r=Ez kvs k
section
variable{X:Cx}{D4:List (Addr×Obj)}{σ:St}{H:Hp}{s:Shared}
theorem Inv.big(I:Inv X D4 σ H s):sysModules < s.heap.objs.size:=by
 have h:mainGlobals < s.heap.objs.size:=(I.mod.glob.keeps I.bk).lt;exact Nat.lt_trans (by decide) h
end
section
variable{X:Cx}{D4:List (Addr×Obj)}{σ:St}{H:Hp}{s:Shared}{a:Addr}{kvs:List (Key×V)}{A:Around}{E:Value->Shared->Prop}
theorem d_len{Q:Value->Shared->Prop}(I:Inv X D4 σ H s)(e:Rd H a (.dK kvs))(h:∀ t s',Inv X D4 σ H s'->Q (.int kvs.length t) s'):wpAny (model X.prog X.w) A (call (.builtin "len") [.ref a]) Q E s:=by
 obtain⟨z,hd,vs,rel,dd⟩:=Ik I.hok e;refine call_len_dict hd dd (by rw[<- rel.length];rw[sizeLine_eq] at z;lia) ?_;rw[<- rel.length];exact h _ _ (I.tok _)
end
def qC9(kvs more:List (Key×V)):List (Key×V):=more.foldl (λ acc kv=>putK acc kv.1 kv.2) kvs
theorem qv6:∀(more kvs:List (Key×V)),(qC9 kvs more).length<=kvs.length+more.length
 | [],kvs=>by show kvs.length<=kvs.length+0;lia
 | p::r,kvs=>by
   have h1:=qv6 r (putK kvs p.1 p.2);have h2:=qab2 kvs p.1 p.2;show (qC9 (putK kvs p.1 p.2) r).length<=_;rw[zAo];lia
structure M2(X:Cx)(o:Expr)(m:Str)(apos:Pos)(e f:Expr)(cpos:Pos):Prop where
 base:attributeBase o m X.env (eval o X.env)=eval o X.env
 few:((backTo cpos (starEach [e,f] X.env)).all (λ x=>!x.1)&&(backToKw cpos (keywordEach [] X.env)).all (λ x=>x.1.isSome)
   && decide (([e,f]:List Expr).length+([]:List Keyword).length+(if ([]:List Keyword).isEmpty then 0 else 1) < 30))=true
 line:(apos.endLine == cpos.line)=true
 trees:backTo cpos (starEach [e,f] X.env)=[(false,eval e X.env),(false,eval f X.env)]
def IsD(H:Hp)(a:Addr):Prop:=(∃ kvs,Rd H a (.dK kvs))∨∃ kvs,Rd H a (.dT kvs)
theorem qaV7{X:Cx}{D4:List (Addr×Obj)}{σ:St}{H:Hp}{s:Shared}{a:Addr}(I:Inv X D4 σ H s)(d:IsD H a) :
   s.TypeIs (.ref a) "dict" /\ (∀ b,Value.ref a=.ref b->∃ ob,s.heap.get? b=some ob/\ob.dict=none)/\(a == sysModules)=false:=by
 rcases d with⟨kvs,e⟩ | ⟨kvs,e⟩
 . obtain⟨_,hd,vs,_,dd⟩:=Ik I.hok e
   refine⟨dd.typeIs,λ b q=>?_,hd⟩;cases q;obtain⟨ob,_,_,h1,h2,_⟩:=dd;exact⟨ob,h1,h2.2.1⟩
 obtain⟨_,hd,xs,_,dd⟩:=dt_rd I.hok e;refine⟨dd.typeIs,λ b q=>?_,hd⟩;cases q;obtain⟨ob,_,_,h1,h2,_⟩:=dd;exact⟨ob,h1,h2.2.1⟩
section
variable{X:Cx}{D4:List (Addr×Obj)}{σ:St}{H:Hp}{s:Shared}{a:Addr}{y d:V}{u r:Value}{o:Option V}{A:Around}{E:Value->Shared->Prop}
theorem qaX7{Q:Value->Shared->Prop}(hu:A.units+1 < cLine)(I:Inv X D4 σ H s)(g:DGet H a y o)(ry:RelV y u)(rd:RelV d r)(h:∀ w' s',Inv X D4 σ H s'->RelV (o.getD d) w'->Q w' s') :
   wpAny (model X.prog X.w) A (call (.builtin "dict.get") [.ref a,u,r]) Q E s:=by
 rcases g with⟨kvs,k,e,ey,l⟩ | ⟨kvs,k,b,e,ey,eb,l⟩
 . subst ey
   obtain⟨z,hd,vs,rel,dd⟩:=Ik I.hok e;refine call_meetsIn PySem.F.slot_dict_get dd.typeIs PySem.F.entry_dict_get (PySem.F.args_dict_get_3 _ _ _) (meets_dict_get_default (qg5 X.prog X.w) a (Ij ry) hd r) ⟨_,dd.mapOf,h _ _ (I.tok _) ?_⟩;rw[l];exact(rel.val k).getD rd
 subst ey;cases (show u=Value.ref b from ry);obtain⟨z,hd,xs,rel,dd⟩:=dt_rd I.hok e;refine call_meetsIn PySem.F.slot_dict_get dd.typeIs PySem.F.entry_dict_get (PySem.F.args_dict_get_3 _ _ _) (meetsH_dict_get_default (tupleKind (qg5 X.prog X.w)) a b hd r) ⟨tupleKind_room_in1 hu,k,xs,qaN9 I.hok eb,dd,h _ _ (I.tok _) ?_⟩;rw[l];exact(rel.val k).getD rd
end
def qaR9(td ty tx:TE):TE:=λ σ H Q=>td σ H λ x H1=>∃ a,x=.ref a/\IsD H1 a/\ty σ H1 λ y H2=>tx σ H2 λ z H3=>∃ o,DGet H3 a y o/\Q (o.getD z) H3
section
variable{X:Cx}{o e f:Expr}{apos cpos:Pos}{td ty tx:TE}
theorem qaC3(hu:X.A.units+1 < cLine)(ho:PE X o td)(he:PE X e ty)(hf:PE X f tx)(m:M2 X o "get" apos e f cpos):PE X (.Call (.Attribute o "get" apos) [e,f] [] cpos) (qaR9 td ty tx):=by
 intro D4 s σ H Q I h;refine wpAny_Call_method m.base m.few m.line PySem.F.plainAttrs_dict PySem.F.slot_dict_get PySem.F.type_dict_get (thn (ho D4 s σ H _ I h) λ u s1 ⟨x,H1,I1,rx,a,ex,d,q1⟩=>?_);subst ex;obtain rfl:u=Value.ref a:=rx;obtain⟨t1,t2,_⟩:=qaV7 I1 d;refine⟨t1,t2,?_⟩;rw[m.trees];refine Calls.callWith_builtin rfl (Calls.evalArgs_plain (Calls.spliced_cons (thn (he D4 s1 σ H1 _ I1 q1) λ iv s2 ⟨y,H2,I2,ry,q2⟩ =>
   Calls.spliced_cons (thn (hf D4 s2 σ H2 _ I2 q2) λ fv s3 ⟨z,H3,I3,rz,ov,g,q3⟩=>Calls.spliced_nil ?_))))
 exact qaX7 hu I3 g ry rz λ w' s4 I4 rw'=>⟨_,H3,I4,rw',q3⟩
end
end L2
namespace Att
open PySem PySem.W PySem.Calls PyProof.Rows
theorem qD2{P:Params}{h:Heap}:∀(ns:List Int)(vs:List Value),WellAll P h vs (ns.map WData.int)->IntsAre vs ns:=by
 intro ns
 induction ns with
 | nil =>
   intro vs w;rw[List.map_nil] at w;cases w;exact .nil
 | cons n ns ih =>
   intro vs w;rw[zB0] at w;cases w with
   | cons a b =>
     cases a;exact .cons _ _ (ih _ b)
theorem qao5{l:OpenLaw}{n:Nat}(hn:l.most=some n){P:Params}{h:Heap}{args:List WData}{vals:List Value}(hpre:l.row.toRowW.claim.pre args=true)(hwl:WellAll P h vals args) :
   ∃ a vs ns,vals=[Value.ref a]/\args=[WData.list (ns.map WData.int)]/\h.get? a=some { cls:=.type "list",data:=.seq vs.toArray }/\IntsAre vs ns/\ns.length<=n:=by
 have hsh:WShape.hasAll [] args [.list .int]=true:=(pre_splitW hpre).1;have hc:l.pre.holds [] { args:=args }=true:=(pre_splitW hpre).2;obtain⟨d,r,rfl,h1,h2⟩:=hasAllW_cons hsh;obtain rfl:=hasAllW_nil h2;obtain⟨xs,rfl,h3⟩:=hasW_list h1;obtain⟨ns,rfl⟩:=items_int h3;have hlen:ns.length<=n:=by
   unfold OpenLaw.pre at hc;have h4:(WTm.not (.lt (.lit (.int (n:Int))) (.len (.arg 0)))).holds [] { args:=[.list (ns.map .int)] }=true:=by
     have h4:=(holds_andW hc).1;rw[hn] at h4;exact h4
   have h5:=condW_of h4 (w_not (w_lt w_lit (w_len_list (w_arg rfl))));rw[zAc] at h5;refine zC5 λ q=>?_
   have q':(n:Int) < ((ns.length:Nat):Int):=by lia
   first
     | (rw[zAe q'] at h5;exact absurd h5 (by decide))
     | (simp at h5;lia)
 cases hwl with
 | cons w1 w2 =>
   cases w2;cases w1 with
   | list ho hall=>exact⟨_,_,ns,rfl,rfl,ho,qD2 ns _ hall,hlen⟩
theorem qao9(l:OpenLaw)(args:List WData):l.row.toRowW.claim.post args (.bool true) args=true :=
 postW_of (r:=l.row.toRowW) (X:=(true == true))
   (show WShape.has [] (.bool true) .bool=true by first | rfl | decide | simp[WShape.has,WShape.arms,WShape.armsAll])
   (show (WTm.eq .res (.lit (.bool true))).value [] { args:=args,res:=some (.bool true),after:=args }=some (.bool (true == true)) from w_eq_bool (w_res rfl) w_lit) rfl
theorem qab9{l:OpenLaw}{n:Nat}{q:Program}{loose:List Str}{XP:(Str->Option Value)->Heap->Prop}{YP:World->Heap->Prop}{d:DefRec}(hn:l.most=some n)(hdf:d.params.defaults=[])(call:∀(w:World)(s₀ s₁:Shared)(mg mb:Str->Option Value)(fa:Addr)(o:Obj)(pm cd doc:Value)(a:Addr)(vs:List Value)(ns:List Int),
     Ground q loose [] XP w s₀ mg mb s₁.heap->YP w s₁.heap ->
     s₁.heap.get? fa=some o->o.data=.func (docDef d.name d.params d.body d.scope pm cd doc)->s₁.heap.CodeRec cd d.name->mg d.name=some (.ref fa) ->
     s₁.heap.get? a=some { cls:=.type "list",data:=.seq vs.toArray }->IntsAre vs ns->ns.length<=n->s₁.gens = #[] ->
     codeAny (model l.prog w) callerA (.call (.ref fa) ⟨[.ref a],[]⟩) (λ r s'=>r=.ok (.ret (.bool true))/\OldK s₁.heap s'.heap/\s'.os=s₁.os/\AllBare s'.gens) s₁) :
   WalkO q loose XP YP l.row.toRowW d [] (λ f vs=>PySem.call f vs):=by
 intro w s₀ s₁ mg mb G Y fa o pm cd doc dV kV ho hd hcd hD hmg hg args vals as hpre hlay hrd hwl hlo;obtain rfl:dV=.none:=Dflts.none hD hdf;obtain rfl:kV=.none:=Dflts.noKw hD;obtain⟨a,vs,ns,rfl,rfl,hobj,hints,hlen⟩:=qao5 hn hpre hwl;refine enter_call (codeAny_mono (call w s₀ s₁ mg mb fa o pm cd doc a vs ns G Y ho (fd_plain hd) hcd hmg hobj hints hlen hg) λ r s' hq=>?_);obtain⟨rfl,h2,h3,h4⟩:=hq;exact⟨.inl ⟨.bool true,.bool true,[],rfl,λ _=>rfl,.bool true,qao9 l _,λ _=>⟨List.Pairwise.nil,λ _ hm=>(nomatch hm)⟩⟩,h2,h3,h4⟩
end Att
namespace L2
open PySem PySem.Spec PyProof.Rows
theorem qT5:∀{vs:List Value}{ns:List Int},IntsAre vs ns->Vals (ns.map V.int) vs
 | _,_,.nil=>.nil
 | _,_,.cons n t h=>.cons ⟨t,rfl⟩ (qT5 h)
def Only(H:Hp):Prop:=∀ b,H b=none∨∃ o xs,H b=some (.frz o (.lst xs))
theorem qaE4{P:Program}{w:World}{K:PySem.W.Frag}{mg mb:Str->Option Value}{CX:CXT}{k:Nat}{fa a:Addr}{fd:FuncData}{x:Str}{sp:Sp}{s₁:Shared}{vs:List Value}{ns:List Int}(KX:K.In s₁.heap)(hns:s₁.heap.Ns mainGlobals mg)(hb:s₁.heap.Ns builtinsNs mb)(hbb:∀ x:Str,x ≠ "__name__" -> mb x=bootBuiltins x)(hlim:s₁.heap.NoLimit)(hg:s₁.gens = #[])(ha:s₁.heap.get? a=some { cls:=.type "list",data:=.seq vs.toArray })(hi:IntsAre vs ns)(hl:ns.length<=sizeLine)(hr:Room k callerA)(F:∀ base:Heap,K.In base->base.Ns mainGlobals mg->Bq P w K mg base CX k fa fd [x] sp)(hbind:∀(s:Shared)(u:Value),BindsTo s fd ⟨[u],[]⟩ [(x,u)])(hsp:∀ H:Hp,Only H->SqL K H a (ns.map V.int)->sp [.ref a] H (λ v _=>v=.bl true) λ _ _ _=>False)(hCX:∀ H e s',CX [] H s₁ (λ _ _ _=>False) e s'->False) :
   codeAny (model P w) callerA (.call (.ref fa) ⟨[.ref a],[]⟩) (λ r s'=>r=.ok (.ret (.bool true))/\OldK s₁.heap s'.heap/\s'.os=s₁.os/\AllBare s'.gens) s₁:=by
 have rv:=qT5 hi;have lenV:=hi.length;have core:∀ H:Hp,Only H->SqL K H a (ns.map V.int)->HOk P w H s₁.heap->(∀ b,H b≠none->b=a)->(H a≠none->K.lookup a=none) ->
     codeAny (model P w) callerA (.call (.ref fa) ⟨[.ref a],[]⟩) (λ r s'=>r=.ok (.ret (.bool true))/\OldK s₁.heap s'.heap/\s'.os=s₁.os/\AllBare s'.gens) s₁:=by
   intro H hO hS hok hA hK;have base_of:∀{b:Addr}{o:Obj},s₁.heap.get? b=some o->H b=none->(Fx s₁.heap H).get? b=some o:=λ e n=>qaF1 e n
   have noA:∀{b:Addr}{o:Obj}{es:Array DictEntry}{ep:Nat},s₁.heap.get? b=some o->o.data=.dict es ep->H b=none:=λ{b o es ep} e d=>by
     cases q:H b with
     | none=>rfl
     | some u =>
       have e':b=a:=hA b (by rw[q];simp);subst e';rw[ha] at e;cases e;have d':Data.seq vs.toArray _=Data.dict es ep:=d;cases d'
   have nsK:∀{b:Addr}{m:Str->Option Value},s₁.heap.Ns b m->(Fx s₁.heap H).Ns b m:=λ{b m} ⟨o,es,ep,e,d,r⟩=>⟨o,es,ep,base_of e (noA e d),d,r⟩
   have hKb:K.In (Fx s₁.heap H):=λ b o e=>base_of (KX b o e) (by
     cases q:H b with
     | none=>rfl
     | some u =>
       have e':b=a:=hA b (by rw[q];simp);subst e';rw[hK (by rw[q];simp)] at e;cases e)
   have hM:Mod K mg (Fx s₁.heap H):=⟨hKb,nsK hns,⟨mb,nsK hb,hbb⟩,let ⟨mc,h1,h2⟩:=hlim;⟨mc,nsK h1,h2⟩⟩
   have e0:Env0 P w K mg (Fx s₁.heap H) callerA [] s₁ H:=⟨rfl,hM,λ b o e=>qaM1 e,Nat.le_of_eq (qar3 _ _),trivial,λ b hb=>absurd (show b∈([]:List Addr) from hb) (by simp),hok,.of_eq hg⟩
   refine codeAny_mono ((F _ hKb (nsK hns)).run callerA [] s₁ H ⟨[.ref a],[]⟩ [.ref a] [.ref a] _ _ hr e0 (hbind s₁ (.ref a)) (.cons rfl .nil) (hsp H hO hS)) λ r s' h=>?_
   cases r with
   | error e=>exact(hCX H e s' h).elim
   | ok fl =>
     cases fl with
     | next=>exact False.elim h
     | brk=>exact False.elim h
     | cont=>exact False.elim h
     | ret u =>
       obtain⟨v,H',os,bare,un,hok',r',q⟩:=h;have q':v=.bl true:=q;subst q';obtain rfl:u=Value.bool true:=r';refine⟨rfl,OldK.of_keep λ b o e=>?_,os,bare⟩;cases q:H b with
       | none=>exact un.keep b o e q (by intro z;exact absurd (show b∈([]:List Addr) from z) (by simp)) (by simp)
       | some u =>
         rcases hO b with z | ⟨ob,xs,z⟩
         . rw[q] at z;cases z
         have z2:=un.frzs b ob _ z;obtain⟨e1,_⟩:=hok b _ z;obtain⟨e2,_⟩:=hok' b _ z2;rw[e] at e1;cases e1;exact e2
 cases hk:K.lookup a with
 | some o =>
   have e:=KX a o hk;rw[ha] at e;cases e;refine core (λ _=>none) (λ _=>.inl rfl) (.inr ⟨_,vs.toArray,_,hk,rfl,rfl,rfl,by rw[zA2,lenV];exact hl,by simpa using rv⟩) (λ b u z=>by have z':(none:Option HO)=some u:=z;cases z') (λ b z=>absurd rfl z) λ z=>absurd rfl z
 | none =>
   refine core (λ b=>if b=a then some (.frz { cls:=.type "list",data:=.seq vs.toArray } (.lst (ns.map V.int))) else none) (λ b=>?_) (.inl (.inr ⟨{ cls:=.type "list",data:=.seq vs.toArray },if_pos rfl⟩)) (λ b u z=>?_) (λ b z=>?_) λ _=>hk
   . by_cases hb:b=a
     . exact .inr ⟨_,_,if_pos hb⟩
     exact .inl (if_neg hb)
   . by_cases hb:b=a
     . have z':=(if_pos hb).symm.trans z
       cases z';subst hb;exact⟨ha,by rw[zAc];exact hl,vs,_,rv,ha⟩
     have z':=(if_neg hb).symm.trans z;cases z'
   by_cases hb:b=a
   . exact hb
   exact absurd (if_neg hb) z
theorem qaH4{l:PySem.W.OpenLaw}{n k:Nat}{q:Program}{loose:List Str}{XP:(Str->Option Value)->Heap->Prop}{YP:World->Heap->Prop}{d:DefRec}{K:Params->PySem.W.Frag}{CX:World->CXT}{sp:World->Sp}{x:Str}(hn:l.most=some n)(hn2:n<=sizeLine)(hdf:d.params.defaults=[])(hr:Room k callerA)(hY:∀(w:World)(h:Heap),YP w h->(K w.params).In h)(F:∀(w:World)(mg:Str->Option Value)(fa:Addr)(h:Heap),(K w.params).In h->h.Ns mainGlobals mg->mg d.name=some (.ref fa) ->
     ∃ fd:FuncData,(∀(s:Shared)(u:Value),BindsTo s fd ⟨[u],[]⟩ [(x,u)]) /\
       ∀ base:Heap,(K w.params).In base->base.Ns mainGlobals mg->Bq l.prog w (K w.params) mg base (CX w) k fa fd [x] (sp w))(hsp:∀(w:World)(H:Hp)(a:Addr)(ns:List Int),ns.length<=n->Only H->SqL (K w.params) H a (ns.map V.int)->sp w [.ref a] H (λ v _=>v=.bl true) λ _ _ _=>False)(hCX:∀(w:World)(H:Hp)(s:Shared)(e:Value)(s':Shared),CX w [] H s (λ _ _ _=>False) e s'->False) :
   PySem.W.WalkO q loose XP YP l.row.toRowW d [] (λ f vs=>PySem.call f vs):=by
 refine Att.qab9 hn hdf λ w s₀ s₁ mg mb fa o pm cd doc a vs ns G Y ho hd hcd hmg hobj hints hlen hg=>?_
 have KX:=hY w _ Y;obtain⟨fd,hb,hF⟩:=F w mg fa _ KX G.T.g hmg;exact qaE4 KX G.T.g G.T.b G.T.builtins G.T.nolimit hg hobj hints (zAp hlen hn2) hr hF hb (λ H hO hS=>hsp w H a ns hlen hO hS) λ H e s'=>hCX w H s₁ e s'
end L2
/- THE LAST THEOREM (shape;LID,My.* are yours):
  My.Adr: a structure of the addresses that your layer names (classes,functions);My.Txt K t: a structure (Prop) of the equations over K;
  My.txt_mk:{K} {implicit addresses ..} (e1:nsIn K mainGlobals "law" = some (some (.ref f))) (e2:K.lookup f=some ⟨oc,od,.func (fnOf "law" "law" params body scope dV kV doc pm an cdv ct),sl⟩) (e3:codeIn K cdv "law" = true) .. : ∃ t,My.Txt K t
(the tactic k_is has no namespace: write k_is) -/
namespace L2
open PySem PySem.Spec PyProof.Rows
variable{A B:Prop}{f:Addr}{qual x:Str}{st:Stmt}
def qi2(s:Stmt)(j:Nat):Stmt:=match s with
 | .ClassDef _ _ _ body _ _ _ _ _ _ _=>body.getD j (.Pass ⟨0,0,0,0⟩)
 | _=>.Pass ⟨0,0,0,0⟩
def qf2(s:Stmt):Arguments:=match s with
 | .FunctionDef _ a _ _ _ _ _ _ _ _=>a
 | _=>{ posonlyargs:=[],args:=[],vararg:=none,kwonlyargs:=[],kw_defaults:=[],kwarg:=none,defaults:=[] }
def qc8(s:Stmt):List Stmt:=match s with
 | .FunctionDef _ _ b _ _ _ _ _ _ _=>b
 | _=>[]
def qa3(s:Stmt):Scope:=match s with
 | .FunctionDef _ _ _ _ _ _ sc _ _ _=>sc
 | _=>{ kind:=.function,names:=[],isGenerator:=false,isCoroutine:=false }
abbrev CX0:CXT:=λ _ _ _ _ _ _=>False
abbrev E0:XK:=λ _ _ _=>False
theorem pass0{X:Cx}:qN4 CX0 X E0:=λ _ _ _ _ _ _ _ h=>h.elim
structure Fun(K:PySem.W.Frag)(x qual:Str)(st:Stmt)(f:Addr)(fd:FuncData):Prop where
 ex:∃(oc:Value)(od:Option Addr)(kV doc pm:Value)(an:Option Addr)(cdv ct:Value)(osl:Array (Option Value)),
   fd=PySem.W.fnOf x qual (qf2 st) (qc8 st) (qa3 st) .none kV doc pm an cdv ct/\K.lookup f=some ⟨oc,od,.func fd,osl⟩/\PySem.W.codeIn K cdv qual=true
 kp:PySem.W.keepIn K (.ref f)=true
section
variable{P:Program}{w:World}{K:PySem.W.Frag}{mg:Str->Option Value}{base:Heap}
theorem Fun.ok{fd:FuncData}{N ps:List Str}{k:Nat}{sp:Sp}(F:Fun K x qual st f fd)(S:qa9 N ps (qa3 st))(len:∀ vs H Q E,sp vs H Q E->vs.length=ps.length)(hbody:∀(cdv:Value)(A:Around)(outer:List Env)(s:Shared)(H:Hp)(vs:List V)(Q:VK)(E:XK),Room k (A.deeper (envOfC qual (qa3 st) s.heap.objs.size f cdv))->sp vs H Q E ->
     ∃ t,PSs (D9 CX0 P w K mg base N qual (qa3 st) f cdv A outer s H E).nox (qc8 st) t/\t { nx:=λ _ H'=>Q .non H',rt:=Q } (start N vs) H):Bq P w K mg base CX0 (k+1) f fd ps sp:=by
 obtain⟨oc,od,kV,doc,pm,an,cdv,ct,osl,rfl,lk,hcd⟩:=F.ex;refine Ii lk hcd S len λ A outer s H vs Q E hr hsp=>?_
 obtain⟨t,h,q⟩:=hbody cdv A outer s H vs Q E hr hsp;exact⟨t,h.nox,q⟩
theorem Fun.binds{fd:FuncData}{ps:List Str}(F:Fun K x qual st f fd)(h:∀(kV doc pm:Value)(an:Option Addr)(cdv ct:Value)(us:List Value),us.length=ps.length->bindArgs (PySem.W.fnOf x qual (qf2 st) (qc8 st) (qa3 st) .none kV doc pm an cdv ct) ⟨us,[]⟩=pure (ps.zip us)):Binds K fd ps []:=by
 obtain⟨oc,od,kV,doc,pm,an,cdv,ct,osl,rfl,lk,hcd⟩:=F.ex;exact .all (h kV doc pm an cdv ct)
theorem qar5{oc:Value}{od an:Option Addr}{osl:Array (Option Value)}{kV doc pm cdv ct:Value}(l:K.lookup f=some ⟨oc,od,.func (PySem.W.fnOf x qual (qf2 st) (qc8 st) (qa3 st) .none kV doc pm an cdv ct),osl⟩)(c:PySem.W.codeIn K cdv qual=true)(k:PySem.W.keepIn K (.ref f)=true):Fun K x qual st f (PySem.W.fnOf x qual (qf2 st) (qc8 st) (qa3 st) .none kV doc pm an cdv ct):=⟨⟨oc,od,kV,doc,pm,an,cdv,ct,osl,rfl,l,c⟩,k⟩
end
theorem hu_of{A:Around}{k:Nat}(hr:Room k A):A.units+1 < cLine:=Nat.lt_of_le_of_lt (Nat.add_le_add_left (by decide:1<=64) _) hr.units
theorem qao4{n:Nat}(h:n<=1000):n < sizeLine:=Nat.lt_of_le_of_lt h (by decide)
section
variable{X:Cx}
theorem pv(i:Nat){pos:Pos}(hN:X.N[i]? = some x:=by rfl)(hv:Vis X.env.scope x:=by first | exact Or.inl rfl | exact Or.inr (Or.inl rfl) | exact Or.inr (Or.inr rfl))(hd:(x == ("__debug__" : Str))=false:=by decide)(hcd:(x == ("__classdict__" : Str))=false:=by decide):PE X (.Name x pos) (Fy i):=qt2 hN hv hd hcd
theorem qat5:CallR X (.builtin "len") (λ xs H Q=>∃ a kvs,xs=[V.ref a]/\H a=some (.dK kvs)/\Q (.int kvs.length) H):=by
 intro D4 s σ H xs us Q I r h;obtain⟨a,kvs,rfl,ha,q⟩:=h;obtain⟨u,rfl,ru⟩:=B7 r;cases ru;exact d_len I (.inl ha) λ t s' I'=>⟨.int kvs.length,H,I',⟨t,rfl⟩,q⟩
end
theorem iteF(h:B):if false=true then A else B:=by
 rw[if_neg zAj];exact h
theorem iteT(h:A):if true=true then A else B:=by
 rw[if_pos rfl];exact h
theorem ite2{c:Prop}[Decidable c](h1:c->A)(h2:¬ c->B):if c then A else B:=by
 by_cases h:c
 . rw[if_pos h]
   exact h1 h
 rw[if_neg h];exact h2 h
def Same(H H':Hp):Prop:=∀ b o,H b=some o->H' b=some o
theorem Same.trans{H H1 H2:Hp}(a:Same H H1)(b:Same H1 H2):Same H H2:=λ c o h=>b c o (a c o h)
end L2
set_option maxHeartbeats 4000000
namespace L2
open PySem PySem.Spec PyProof.Rows
variable{H:Hp}{a:Addr}{e:Expr}{es:List Expr}{i:Int}{p:Pos}{t:TA}{x:Str}{xs:List V}{α:Type}
theorem Hg{t:Sem α}{Q Q':α->Shared->Prop}{M:Model}{A:Around}{E:Value->Shared->Prop}{s:Shared}(h:wpAny M A t Q (λ _ _=>False) s)(hQ:∀ a s,Q a s->Q' a s):wpAny M A t Q' E s :=
 wpAny_mono h hQ λ _ _ x=>x.elim
def E2(env:Env):List (Str×NameKind)->List (Str×Addr)->List (Str×Addr)
 | [],acc=>acc
 | (n,k)::r,acc=>E2 env r (if k == NameKind.free then (n,(env.cells.lookup n).getD 0)::acc else acc)
theorem qB6{env:Env}:∀(l:List (Str×NameKind))(acc:List (Str×Addr)),(∀ x∈l,x.2=NameKind.free->∃ c,env.cells.lookup x.1=some c) ->
   (forIn l acc λ(x:Str×NameKind)(r:List (Str×Addr)) =>
     (match x with
     | (name,kind)=>if (kind == NameKind.free)=true then (do let c <- cellOf env name;pure (ForInStep.yield ((name,c)::r)):Sem (ForInStep (List (Str×Addr)))) else pure (ForInStep.yield r)))=(pure (E2 env l acc):Sem _)
 | [],acc,_=>rfl
 | (n,k)::r,acc,h=>by
   rw[List.forIn_cons];by_cases hk:(k == NameKind.free)=true
   . obtain⟨c,hc⟩:=h (n,k) zA7 (by simpa using hk)
     have hc:env.cells.lookup n=some c:=hc;dsimp only;rw[if_pos hk];have e:cellOf env n=pure c:=by unfold cellOf;rw[hc]
     rw[e];show (forIn r ((n,c)::acc) _:Sem _)=_;rw[qB6 r ((n,c)::acc) λ x hx=>h x (zA6 _ hx)];show _=(pure (E2 env r (if (k == NameKind.free)=true then (n,(env.cells.lookup n).getD 0)::acc else acc)):Sem _)
     rw[if_pos hk,hc];rfl
   dsimp only;rw[if_neg hk];show (forIn r acc _:Sem _)=_;rw[qB6 r acc λ x hx=>h x (zA6 _ hx)];show _=(pure (E2 env r (if (k == NameKind.free)=true then (n,(env.cells.lookup n).getD 0)::acc else acc)):Sem _)
   rw[if_neg hk]
theorem qal1{env:Env}{sc:Scope}(h:∀ x∈sc.names,x.2=NameKind.free->∃ c,env.cells.lookup x.1=some c):closureFor sc env=pure (E2 env sc.names []):=by
 unfold closureFor;show (forIn sc.names [] _ >>= _)=_
 have:=qB6 (env:=env) sc.names [] h
 rw[show (forIn sc.names ([]:List (Str×Addr)) _:Sem _)=pure (E2 env sc.names []) from this];rfl
theorem qal2{env:Env}:∀(l:List (Str×NameKind))(acc:List (Str×Addr))(x:Str)(c:Addr),(x,c)∈E2 env l acc->(x,c)∈acc∨((x,NameKind.free)∈l/\c=(env.cells.lookup x).getD 0)
 | [],acc,x,c,h=>.inl h
 | (n,k)::r,acc,x,c,h=>by
   rcases qal2 r _ x c h with h | ⟨h,e⟩
   . by_cases hk:(k == NameKind.free)=true
     . rw[if_pos hk] at h
       rcases zAi.mp h with h | h
       . cases h
         exact .inr ⟨by rw[show k=NameKind.free by simpa using hk];exact zA7,rfl⟩
       exact .inl h
     rw[if_neg hk] at h;exact .inl h
   exact .inr ⟨zA6 _ h,e⟩
theorem qal3{env:Env}:∀(l:List (Str×NameKind))(acc:List (Str×Addr))(x:Str),(∃ c,(x,c)∈acc)->∃ c,(x,c)∈E2 env l acc
 | [],acc,x,h=>h
 | (n,k)::r,acc,x,⟨c,h⟩=>qal3 r _ x ⟨c,by split;exact zA6 _ h;exact h⟩
theorem qS8{env:Env}:∀(l:List (Str×NameKind))(acc:List (Str×Addr))(x:Str),(x,NameKind.free)∈l->∃ c,(x,c)∈E2 env l acc
 | [],acc,x,h=>by simp at h
 | (n,k)::r,acc,x,h=>by
   rcases zAi.mp h with h | h
   . cases h
     exact qal3 r _ _ ⟨_,by rw[if_pos (by rfl)];exact zA7⟩
   exact qS8 r _ x h
theorem qA6{α:Type}:∀{l:List (Str×α)}{x:Str},(∃ c,(x,c)∈l)->∃ c,l.lookup x=some c
 | [],x,⟨c,h⟩=>by simp at h
 | (n,a)::r,x,⟨c,h⟩=>by
   cases hx:x == n with
   | true=>exact⟨a,by simp only[zAr,hx]⟩
   | false =>
     rcases zAi.mp h with h | h
     . cases h;simp at hx
     obtain⟨d,hd⟩:=qA6 ⟨c,h⟩;exact⟨d,by simp only[zAr,hx];exact hd⟩
def Dl(σ:St)(src:List (Option Nat)):St:=src.map λ o=>match o with | none=>none | some j=>(σ[j]?).getD none
def qB5(X:Cx)(NY:List Str)(src:List (Option Nat))(sc:Scope):Bool :=
 (sc.kind == .function)&&(src.length == NY.length) &&
 (sc.names.all λ x=>x.2 != .cell&&(x.2 != .local||sc.names.lookup x.1 == some .local)&&(x.2 != .free||(X.env.scope.names.lookup x.1 == some .cell||X.env.scope.names.lookup x.1 == some .free))) &&
 ((NY.zip src).all λ p=>match p.2 with | none=>true | some j=>X.N[j]? == some p.1&&sc.names.lookup p.1 == some .free)
def qm5(X:Cx)(NY:List Str)(sc:Scope)(C:Addr)(s0:Shared)(H0:Hp)(ex:List Addr):Cx where
 prog:=X.prog
 w:=X.w
 K:=X.K
 mg:=X.mg
 base:=X.base
 A:=X.A
 N:=NY
 s₀:=s0
 H₀:=H0
 env:=compEnvC sc (E2 X.env sc.names []) C X.env
 outer:=X.stack
 stack:=X.stack
 ex:=ex
 fn:=λ _=>false
 calm:=X.calm
 pn:=[]
 xe:=λ _ _=>False
def PFs(X:Cx)(ifs:List Expr)(t:TT):Prop :=
 ∀(D4:List (Addr×Obj))(s:Shared)(σ:St)(H:Hp)(Q:Bool->Hp->Prop),Inv X D4 σ H s->t σ H Q ->
   wpAny (model X.prog X.w) X.A (forIn ifs true λ c r=>if r=true then do let ok <- isTrue c X.env (eval c X.env);pure (ForInStep.yield ok) else pure (ForInStep.yield r)) (TP X D4 σ Q) X.xe s
def tYes:TT:=λ _ H Q=>Q true H
theorem qaK5{X:Cx}:PFs X [] tYes:=λ _ _ _ H _ I h=>wpAny_tests_nil ⟨H,I,h⟩
theorem qaT0{X:Cx}{c:Expr}{t:TT}(h:PT X c t):PFs X [c] t:=λ D4 s σ H Q I q=>wpAny_tests_one (h D4 s σ H Q I q)
theorem qp1{prog:Program}{w:World}{A:Around}{R:Result->Shared->Prop}{s:Shared}{elt target iter:Expr}{ifs:List Expr}{scope:Scope}{pos:Pos}{it acc:Value}{env:Env}(I:Nat->Shared->Prop)(turn:∀ n s,I n s->wpAny (model prog w) A (pyNext it) (λ r s₁=>match r with
     | none=>R (.ok .next) s₁
     | some v=>wpAny (model prog w) A (letOwnedTupleGo target it v) (λ _ s₁'=>wpAny (model prog w) A (assign target env v) (λ _ s₂ =>
         wpAny (model prog w) A (forIn ifs true λ c r=>if r=true then do let ok <- isTrue c env (eval c env);pure (ForInStep.yield ok) else pure (ForInStep.yield r)) (λ ok s₃ =>
           if ok=true then wpAny (model prog w) A (eval elt env) (λ x s₄ =>
             wpAny (model prog w) A (call (.builtin "list.append") [acc,x]) (λ _ s₅=>∃ m,m < n/\I m s₅) (λ _ _=>False) s₄) (λ _ _=>False) s₃
           else ∃ m,m < n/\I m s₃) (λ _ _=>False) s₂) (λ _ _=>False) s₁') (λ _ _=>False) s₁) (λ _ _=>False) s)(n:Nat)(h:I n s) :
   codeAny (model prog w) A (.compLoop (.ListComp elt [⟨target,iter,ifs,0⟩] scope pos) 0 it acc env) R s:=by
 refine codeAny_loop rfl I (λ n s hI=>?_) n h;show wpAny _ A ((compTurn (.ListComp elt [⟨target,iter,ifs,0⟩] scope pos) 0 it acc env).onRaise (λ x=>do noteFrame x env;theTreesLotGoes x)) _ _ s;refine wpAny_noted ?_;rw[compTurn_list];refine wpAny_bind (wpAny_standAt (wpAny_bind (Hg (turn n s hI) λ r s₁ h₁=>?_)));cases r with
 | none=>exact wpAny_pure h₁
 | some v =>
   refine wpAny_bind (Hg h₁ λ _ s₁' h₁'=>?_);refine wpAny_bind (Hg h₁' λ _ s₂ h₂=>wpAny_bind (Hg h₂ λ ok s₃ h₃=>?_));cases ok with
   | false=>exact wpAny_pure ⟨rfl,h₃⟩
   | true =>
     exact wpAny_bind (wpAny_bind (Hg h₃ λ x s₄ h₄=>wpAny_bind (Hg h₄ λ _ s₅ h₅=>wpAny_pure (wpAny_pure ⟨rfl,h₅⟩))))
def qx6(J:It)(g:TG)(tf:TT)(te:TE)(D:Addr)(R:Hp->Prop)(σ0:St)(H0:Hp):Prop :=
 ∃ W:Nat->Nat->St->Hp->Prop,(∃ m,W 0 m σ0 H0)/\∀ i m σ H,W i m σ H ->
   (J.stop i H/\R H)∨(J.go i H/\∃ N:St->Hp->Prop,(∀ σ' H',N σ' H'->∃ m',m' < m/\W (i+1) m' σ' H')/\∀ x H',J.yld i H x H'->g x σ H' λ σ2 H2=>tf σ2 H2 λ ok H3 =>
     if ok=true then te σ2 H3 λ v H4=>∃ xs,H4 D=some (.lst xs)/\xs.length < sizeLine/\N σ2 (upd H4 D (.lst (xs++[v]))) else N σ2 H3)
theorem qq7{env:Env}{x:Str}:∀{names:List (Str×NameKind)},(∀ y∈names,y.2≠.cell) ->
   ((names.map λ (n,k)=>if (k == NameKind.free&&env.scope.kind == .function&&env.kindOf n == some .cell) then (n,NameKind.cell) else (n,k)).lookup x=some .cell ∨
    (names.map λ (n,k)=>if (k == NameKind.free&&env.scope.kind == .function&&env.kindOf n == some .cell) then (n,NameKind.cell) else (n,k)).lookup x=some .free)->names.lookup x=some .free
 | [],_,h=>by simp at h
 | (n,k)::r,hc,h=>by
   have ih:=@qq7 env x r λ y hy=>hc y (zA6 _ hy)
   have hk:k≠.cell:=hc (n,k) zA7;simp only[zB0] at h;cases hx:x == n with
   | true =>
     simp only[zAr,hx];by_cases hq:(k == NameKind.free&&env.scope.kind == .function&&env.kindOf n == some .cell)=true
     . have:k=NameKind.free:=by
         simp only[zBi,zBx] at hq;exact hq.1.1
       rw[this]
     rw[if_neg hq] at h;simp only[zAr,hx] at h;rcases h with h | h
     . exact absurd (Option.some.inj h) hk
     exact h
   | false =>
     simp only[zAr,hx];apply ih;by_cases hq:(k == NameKind.free&&env.scope.kind == .function&&env.kindOf n == some .cell)=true
     . rw[if_pos hq] at h
       simpa only[zAr,hx] using h
     rw[if_neg hq] at h;simpa only[zAr,hx] using h
theorem qi0{env:Env}{x:Str}:∀{names:List (Str×NameKind)},names.lookup x=some .free ->
   ((names.map λ (n,k)=>if (k == NameKind.free&&env.scope.kind == .function&&env.kindOf n == some .cell) then (n,NameKind.cell) else (n,k)).lookup x=some .cell ∨
    (names.map λ (n,k)=>if (k == NameKind.free&&env.scope.kind == .function&&env.kindOf n == some .cell) then (n,NameKind.cell) else (n,k)).lookup x=some .free)
 | [],h=>by simp at h
 | (n,k)::r,h=>by
   have ih:=@qi0 env x r;simp only[zB0];cases hx:x == n with
   | true =>
     simp only[zAr,hx] at h;have h:k=.free:=Option.some.inj h;by_cases hq:(k == NameKind.free&&env.scope.kind == .function&&env.kindOf n == some .cell)=true
     . rw[if_pos hq];simp only[zAr,hx];exact .inl trivial
     rw[if_neg hq];simp only[zAr,hx];rw[h];exact .inr rfl
   | false =>
     simp only[zAr,hx] at h;by_cases hq:(k == NameKind.free&&env.scope.kind == .function&&env.kindOf n == some .cell)=true
     . rw[if_pos hq];simp only[zAr,hx];exact ih h
     rw[if_neg hq];simp only[zAr,hx];exact ih h
section
variable{X:Cx}{D4:List (Addr×Obj)}{σ:St}{H2:Hp}{s2:Shared}{elt tg iter:Expr}{ifs:List Expr}{sc:Scope}{pos:Pos}{NY:List Str}{src:List (Option Nat)}{J:It}{fp:List Addr}{it:Addr}{tn:Nat->Heap->Prop}{g:TG}{tf:TT}{te:TE}
theorem qat0{R:Addr->Hp->Prop}{E:Value->Shared->Prop}{RR:Value->Addr->Result->Shared->Prop}(ck:qB5 X NY src sc=true)(hc:X.calm=true)(I2:Inv X D4 σ H2 s2)(T:Ic X.prog X.w X.K tg J fp it tn)(st2:tn 0 s2.heap)(f2:∀ b∈fp,F4 X D4 H2 b)(hg:∀ C s0 H0,PG (qm5 X NY sc C s0 H0 fp) tg g)(hf:∀ C s0 H0,PFs (qm5 X NY sc C s0 H0 fp) ifs tf)(he:∀ C s0 H0,PE (qm5 X NY sc C s0 H0 fp) elt te)(rd:∀ D,H2 D=none->qx6 J g tf te D (R D) (Dl σ src) (upd H2 D (.lst [])))(fin:∀ D C H' s',Inv X D4 σ H' s'->R D H'->H' C=none->X.s₀.heap.objs.size<=C->C≠X.env.locals->(∀ x c,X.env.cells.lookup x=some c->c≠C)->(∀ p∈X.pn++D4,p.1≠C)->C∉X.fs->(∃ m,s'.heap.Ns C m)->RR (.ref D) C (.ok .next) s') :
   wpAny (model X.prog X.w) X.A (newList []) (λ acc s₃=>wpAny (model X.prog X.w) X.A (newFunctionEnv sc X.env.globals (E2 X.env sc.names []) [] X.env.qual none .none (some X.env)) (λ cenv s₄ =>
     codeAny (model X.prog X.w) X.A (.compStart (.ListComp elt [⟨tg,iter,ifs,0⟩] sc pos) 0 (.ref it) acc { cenv with scope:=relabel sc X.env }) (RR acc cenv.locals) s₄) E s₃) E s2:=by
 unfold qB5 at ck;simp only[zBi,zBx,zB4] at ck;obtain⟨⟨⟨hkind,hlen⟩,hnm⟩,hsrc⟩:=ck;have hcell:∀ y∈sc.names,y.2≠.cell:=λ y hy e=>by
   have:=(hnm y hy).1.1
   rw[e] at this;exact absurd this (by decide)
 have hfree:∀ y∈sc.names,y.2=.free->(X.env.kindOf y.1=some .cell∨X.env.kindOf y.1=some .free):=λ y hy e=>by
   have:=(hnm y hy).2
   rw[e] at this;show X.env.scope.names.lookup y.1=some .cell∨X.env.scope.names.lookup y.1=some .free;simpa using this
 have clsub:∀ x c,(E2 X.env sc.names []).lookup x=some c->X.env.cells.lookup x=some c:=λ x c e=>by
   rcases qal2 _ _ x c (PySem.mem_of_lookup e) with h | ⟨h,q⟩
   . simp at h
   obtain⟨d,hd⟩:=I2.ok.has x (hfree _ h rfl);rw[hd] at q;rw[hd,q];rfl
 refine wpAny_newObj_type (wpAny_newFunctionEnv hcell (by intro y hy;simp at hy) (λ h₁ hns₁ hsb₁=>?_) hkind);dsimp only at hns₁ hsb₁ ⊢;have I3:=I2.lnew (ys:=[]) (its:=[]) (t':=s2.toks) .nil (Nat.zero_le _);have hD:H2 s2.heap.objs.size=none:=I2.fresh;generalize hDn:s2.heap.objs.size=D at hns₁ hsb₁ I3 hD ⊢;generalize hH3:s2.heap.push { cls:=.type "list",dict:=none,data:=.seq ([]:List Value).toArray }=h3 at hns₁ hsb₁ I3 ⊢;have hs3:h3.objs.size=D+1:=by rw[<- hH3,Heap.size_push,hDn]
 generalize hCn:h3.objs.size=C at hns₁ hsb₁ hs3 ⊢;have I3:Inv X D4 σ (upd H2 D (.lst [])) { s2 with heap:=h3,toks:=s2.toks }:=I3;have old:∀ b o,h3.get? b=some o->h₁.get? b=some o:=λ b o e=>hsb₁.extBut b o (by rw[<- hCn];exact zAn (zAd e)) (zA5 _ e)
 have neC:∀ b o,h3.get? b=some o->b≠C:=λ b o e=>by rw[<- hCn];exact zAn (zAd e)
 have hLC:X.env.locals≠C:=by rw[<- hCn];exact zAn I3.lt
 have cLC:∀ x c,X.env.cells.lookup x=some c->c≠C:=λ x c e=>by
   obtain⟨v,o,ho,_⟩:=I3.cell x c e;exact neC c o ho
 have fpC:∀ b∈fp,b≠C:=λ b hb=>by
   obtain⟨o,ho,_⟩:=T.obj _ _ st2 b hb
   have:=zAd ho
   rw[hDn] at this;exact zAn (Nat.lt_trans this (by rw[hs3];exact zBv _))
 have fpD:∀ b∈fp,b≠D:=λ b hb=>by
   obtain⟨o,ho,_⟩:=T.obj _ _ st2 b hb
   have:=zAd ho
   rw[hDn] at this;exact zAn this
 have k23:∀ b o,s2.heap.get? b=some o->h3.get? b=some o:=λ b o e=>by rw[<- hH3];exact zA5 _ e
 have pinC:∀ p∈X.pn++D4,p.1≠C:=λ p hp=>neC _ _ (I3.pin p hp).1
 have fsC:C∉X.fs:=by rw[<- hCn];exact I3.nofs (zA3 _)
 have ovC:X.s₀.heap.objs.size<=C:=by rw[<- hCn];exact I3.sz
 have stkC:∀ b∈frs X.stack,b≠C:=λ b hb e=>by
   rcases zAi.mp (I3.stkSub b hb) with z | z
   . exact hLC (z.symm.trans e)
   exact fsC (e ▸ z)
 have HC:upd H2 D (.lst []) C=none:=I3.hok.fresh (by show h3.objs.size<=C;exact Nat.le_of_eq hCn);have fpO:∀ b∈fp,b∉frs X.stack:=λ b hb z=>by
   obtain⟨_,h1,h2,_⟩:=f2 b hb;rcases zAi.mp (I2.stkSub b z) with q | q
   . exact h1 q
   exact h2 q
 let Y:Cx:=qm5 X NY sc C { s2 with heap:=h3 } (upd H2 D (.lst [])) fp;have sc0:(Dl σ src).length=NY.length:=by unfold Dl;rw[zAc];exact hlen
 have IY:Inv Y [] (Dl σ src) (upd H2 D (.lst [])) { s2 with heap:=h₁,toks:=s2.toks+0 }:=by
   refine⟨⟨I2.ok.mod,hkind,I2.ok.glob,I2.ok.blt,(by show h3.objs.size<=C;exact Nat.le_of_eq hCn),λ x y c h1 h2=>I2.ok.inj x y c (clsub x c h1) (clsub y c h2),λ x hx=>?_,λ _ _ z _=>(zAj z).elim,I2.ok.hd,I2.ok.frames,.inl rfl,λ b hb=>⟨fpC b hb,λ x c e=>(f2 b hb).2.2.2.2.1 x c (clsub x c e)⟩,
     λ b o e=>?_,?_,λ b o e hb=>?_,λ b hb=>fpO b hb,?_,λ b hb=>?_⟩,rfl,I2.bare,Un.kept old,⟨_,hns₁,λ i x v e1 e2 e3=>?_⟩,λ x c e=>?_,HC,λ x c e=>I3.freeC x c (clsub x c e),λ p hp=>absurd (show p∈([]:List (Addr×Obj)) from hp) (by simp),I3.hok.kept old,sc0⟩
   . have hx:=qq7 hcell hx
     exact qA6 (qS8 _ _ _ (PySem.mem_of_lookup hx))
   . exact I3.bs b o e
   . exact zAp I2.ok.bsz (zAp (zAp I2.sz (by rw[hDn];exact zA3 _)) (by show D<=h3.objs.size;lia))
   . rcases (f2 b hb).2.2.2.1 with z | z
     . exact I2.ok.noex b o e z
     exact absurd (zAk (zAd (I2.ok.bs b o e).1) z) (Nat.lt_irrefl _)
   . exact I3.stack
   . exact I3.stkFree b hb
   . -- a captured name
     have hi:i < src.length:=by
       have:=(zA4.mp e2).1
       rw[sc0,<- hlen] at this;exact this
     have e1:NY[i]? = some x:=e1;have es:src[i]? = some src[i]:=by simp[hi]
     have ep:(Dl σ src)[i]? = some (match src[i] with | none=>none | some j=>(σ[j]?).getD none):=by
       unfold Dl;rw[zAv,es];rfl
     rw[ep] at e2;cases hj:src[i] with
     | none=>rw[hj] at e2;cases e2
     | some j =>
       rw[hj] at e2;have e2:(σ[j]?).getD none=some v:=Option.some.inj e2;have ej:σ[j]? = some (some v):=by
         cases q:σ[j]? with
         | none=>rw[q] at e2;cases e2
         | some o=>rw[q] at e2;rw[show o=some v from e2]
       have hm:(x,some j)∈NY.zip src:=by
         have:(NY.zip src)[i]? = some (x,some j):=by
           rw[List.getElem?_zip_eq_some];exact⟨e1,by rw[es,hj]⟩
         exact zAt this
       have q:=hsrc _ hm;simp only[zBi,zBx] at q;obtain⟨qN,qf⟩:=q;have qk:=hfree _ (PySem.mem_of_lookup qf) rfl;obtain⟨m,hn,hl⟩:=I3.loc;obtain⟨u,r,l⟩:=hl j x v qN ej (qk.elim (λ z=>.inr (.inl z)) λ z=>.inr (.inr z));refine⟨u,r,.inr ⟨qi0 qf,?_⟩⟩;rcases l with⟨z,_⟩ | ⟨_,c,ec,o,ho,hd⟩
       . have qk:X.env.kindOf x=some .cell∨X.env.kindOf x=some .free:=qk
         rw[z] at qk;rcases qk with qk | qk<;>cases qk
       obtain⟨c',ec'⟩:=qA6 (qS8 (env:=X.env) sc.names [] x (PySem.mem_of_lookup qf))
       have:=clsub x c' ec'
       rw[ec] at this;cases this;exact⟨c,ec',o,old c o ho,hd⟩
   obtain⟨v,o,ho,hd⟩:=I3.cell x c (clsub x c e);exact⟨v,o,old c o ho,hd⟩
 have st₁:tn 0 h₁:=T.keep _ _ _ st2 λ b hb o e=>old b o (k23 b o e)
 have stat:∀{H':Hp},(∀ b∈fp,H' b=none)->∀ b∈fp,F4 Y [] H' b:=λ hn b hb=>by
   refine⟨hn b hb,fpC b hb,fpO b hb,.inl hb,λ x c e=>(f2 b hb).2.2.2.2.1 x c (clsub x c e),λ p hp=>absurd (show p∈([]:List (Addr×Obj)) from hp) (by simp)⟩
 have loop:codeAny (model X.prog X.w) X.A (.compLoop (.ListComp elt [⟨tg,iter,ifs,0⟩] sc pos) 0 (.ref it) (.ref D) Y.env) (RR (.ref D) C) { s2 with heap:=h₁,toks:=s2.toks+0 }:=by
   obtain⟨W,⟨m0,w0⟩,turn⟩:=rd D hD;refine qp1 (λ n s'=>∃ i σ' H',Inv Y [] σ' H' s'/\tn i s'.heap/\(∀ b∈fp,H' b=none)/\W i n σ' H') ?_ m0 ⟨0,_,_,IY,st₁,λ b hb=>by rw[qc9 (fpD b hb)];exact(f2 b hb).1,w0⟩;rintro n s3 ⟨i,σ3,H3,J3,st3,fr3,w3⟩;rcases turn i n σ3 H3 w3 with⟨stop,qn⟩ | ⟨go,N,hN,step⟩
   . refine thn (T.done Y rfl rfl rfl hc i [] s3 σ3 H3 _ J3 (stat fr3) st3 stop) λ r s4 ⟨hr,J4⟩=>?_
     subst hr;have hcx:H3 C=none:=J4.free;refine fin D C H3 s4 ?_ qn hcx ovC (Ne.symm hLC) cLC pinC fsC (let ⟨m,hn,_⟩:=J4.loc;⟨m,hn⟩);refine I2.call' (ch:=fp) J4.os ?_ J4.hok J4.bare λ b hb=>?_
     . have u1:Un (frs X.stack) fp H2 (upd H2 D (.lst [])) s2.heap h3:=Un.laid k23 (Nat.le_of_eq hDn) hD
       exact u1.trans J4.base
     obtain⟨_,h1,_,h3',h4,h5⟩:=f2 b hb;exact⟨h3',h1,h4,h5⟩
   refine thn (T.item Y rfl rfl rfl hc i [] s3 σ3 H3 _ J3 (stat fr3) st3 go) λ r s4 ⟨u,hr,h4⟩=>?_
   subst hr;refine thn h4 λ _ s5 ⟨x,H5,J5,r5,y5,st5,fr5⟩=>?_
   have J5':=J5.pinned (stat fr5) (T.obj _ _ st5);have again:∀{σ7:St}{H7:Hp}{s7:Shared},Inv Y ([]++Id fp s5.heap) σ7 H7 s7->N σ7 H7->∃ m,m < n/\∃ i σ' H',Inv Y [] σ' H' s7/\tn i s7.heap/\(∀ b∈fp,H' b=none)/\W i m σ' H':=λ{σ7 H7 s7} I7 n7=>by
     obtain⟨m',hm,w7⟩:=hN σ7 H7 n7;refine⟨m',hm,i+1,σ7,H7,I7.unpinned,T.keep _ _ _ st5 λ b hb o e=>(I7.pin (b,o) (zAy _ (zAy _ (qq6 hb e)))).1,λ b hb=>?_,w7⟩;obtain⟨o,e,d⟩:=T.obj _ _ st5 b hb;exact(I7.pin (b,o) (zAy _ (zAy _ (qq6 hb e)))).2.1
   refine thn (hg C _ _ _ s5 σ3 H5 x u _ J5' r5 (step x H5 y5)) λ _ s6 ⟨σ6,H6,J6,q6⟩=>?_
   refine thn (hf C _ _ _ s6 σ6 H6 _ J6 q6) λ ok s7 ⟨H7,J7,q7⟩=>?_
   cases ok with
   | false=>exact again J7 (by simpa using q7)
   | true =>
     rw[if_pos rfl] at q7 ⊢;refine thn (he C _ _ _ s7 σ6 H7 _ J7 q7) λ y s8 ⟨v,H8,J8,r8,xs,hx8,hz8,q8⟩=>?_
     refine thn (qd5 (X:=Y) _ s8 σ6 H8 (.ref D) [v] (.ref D) [y] (λ _ H'=>N σ6 H') J8 rfl (.cons r8 .nil) ⟨D,xs,v,rfl,rfl,hx8,hz8,q8⟩) λ _ s9 ⟨_,H9,J9,_,q9⟩=>?_
     exact again J9 q9
 exact codeAny_compStart_list loop (T.self _ 0 _ _ _ st₁ loop)
end
def Ea(wi:TI)(src:List (Option Nat))(g:TG)(tf:TT)(te:TE):TE:=λ σ H Q=>wi σ H λ J H1=>∀ D,H1 D=none->qx6 J g tf te D (λ H'=>Q (.ref D) H') (Dl σ src) (upd H1 D (.lst []))
section
variable{X:Cx}{elt tg iter:Expr}{ifs:List Expr}{sc:Scope}{pos:Pos}{NY:List Str}{src:List (Option Nat)}{wi:TI}{g:TG}{tf:TT}{te:TE}
theorem qak9(ck:qB5 X NY src sc=true):sc.kind=.function/\(∀ y∈sc.names,y.2=.local->sc.names.lookup y.1=some .local)/\(∀ y∈sc.names,y.2=.free->(X.env.kindOf y.1=some .cell∨X.env.kindOf y.1=some .free)):=by
 unfold qB5 at ck;simp only[zBi,zBx,zB4] at ck;obtain⟨⟨⟨hkind,hlen⟩,hnm⟩,hsrc⟩:=ck;refine⟨hkind,λ y hy e=>?_,λ y hy e=>?_⟩
 . have:=(hnm y hy).1.2
   rw[e] at this;simpa using this
 have:=(hnm y hy).2
 rw[e] at this;show X.env.scope.names.lookup y.1=some .cell∨X.env.scope.names.lookup y.1=some .free;simpa using this
theorem qz9(NY:List Str)(src:List (Option Nat))(hi:PI X tg iter wi)(hg:∀ C s0 H0 ex,PG (qm5 X NY sc C s0 H0 ex) tg g)(hf:∀ C s0 H0 ex,PFs (qm5 X NY sc C s0 H0 ex) ifs tf)(he:∀ C s0 H0 ex,PE (qm5 X NY sc C s0 H0 ex) elt te)(hc:X.calm=true:=by rfl)(ck:qB5 X NY src sc=true:=by rfl)(hs:∀ x,foldedSetIterable iter X.env x=pure x:=by intro _;rfl):PE X (.ListComp elt [⟨tg,iter,ifs,0⟩] sc pos) (Ea wi src g tf te):=by
 intro D4 s σ H Q I h;obtain⟨hkind,hnames,hfree⟩:=qak9 ck;rw[eval_ListComp];refine wpAny_comprehension_free (use:=none) rfl hs (qal1 λ x hx e=>I.ok.has x.1 (hfree x hx e)) hkind hnames ?_;refine thn (hi D4 s σ H _ I h) λ v s1 h1=>thn h1 λ itv s2 h2=>?_
 obtain⟨it,fp,tn,J,H2,rfl,I2,T,st2,f2,rd⟩:=h2;refine qat0 (R:=λ D H'=>Q (.ref D) H') (RR:=λ acc C=>compPost (model X.prog X.w) X.A X.xe none (EP X D4 σ Q) acc C) ck hc I2 T st2 f2 (λ C s0 H0=>hg C s0 H0 fp) (λ C s0 H0=>hf C s0 H0 fp) (λ C s0 H0=>he C s0 H0 fp) rd ?_;intro D C H' s' I' q hC h1 h2 h3 h4 h5 ⟨m,hn⟩;refine⟨m,hn,λ h' hs'=>⟨.ref D,H',?_,rfl,q⟩⟩;exact I'.turned (t':=s'.toks) (it:=C) (λ b o hb e=>hs'.extBut b o hb e) hC h2 (.inr h1) h3 h4
end
theorem qX7{K:PySem.W.Frag}{D:Addr}{g:TG}{tf:TT}{te:TE}{R:Hp->Prop}{σ:St}(Pv:Nat->St->Hp->Prop)(h0:Pv 0 σ H)(hl:∀ i σ H,i<=xs.length->Pv i σ H->SqL K H a xs)(hs:∀ i x σ H,xs[i]? = some x->Pv i σ H->g x σ H λ σ2 H2=>tf σ2 H2 λ ok H3=>if ok=true then te σ2 H3 λ v H4=>∃ ys,H4 D=some (.lst ys)/\ys.length < sizeLine/\Pv (i+1) σ2 (upd H4 D (.lst (ys++[v]))) else Pv (i+1) σ2 H3)(hd:∀ σ H,Pv xs.length σ H->R H) :
   qx6 (Itl K a) g tf te D R σ H:=by
 refine⟨λ i m σ H=>m=xs.length - i/\i<=xs.length/\Pv i σ H,⟨xs.length,by simp,Nat.zero_le _,h0⟩,?_⟩;rintro i m σ H ⟨rfl,hi,p⟩;have q:=hl i σ H hi p;by_cases hlt:i < xs.length
 . refine .inr ⟨⟨xs,xs[i],q,by simp[hlt]⟩,Pv (i+1),λ σ' H' p'=>⟨xs.length - (i+1),by lia,rfl,hlt,p'⟩,λ x H' y=>?_⟩
   obtain⟨e,y⟩:=y;subst e;exact hs i x σ _ (y xs q) p
 have e:i=xs.length:=by lia
 subst e;exact .inl ⟨⟨xs,q,zA3 _⟩,hd σ H p⟩
theorem qak8{D:Addr}{lo:Int}{n:Nat}{g:TG}{tf:TT}{te:TE}{R:Hp->Prop}{σ:St}(Pv:Nat->St->Hp->Prop)(h0:Pv 0 σ H)(hs:∀ i σ H,i < n->Pv i σ H->g (.int (lo+i)) σ H λ σ2 H2=>tf σ2 H2 λ ok H3=>if ok=true then te σ2 H3 λ v H4=>∃ ys,H4 D=some (.lst ys)/\ys.length < sizeLine/\Pv (i+1) σ2 (upd H4 D (.lst (ys++[v]))) else Pv (i+1) σ2 H3)(hd:∀ σ H,Pv n σ H->R H) :
   qx6 (Itr lo n) g tf te D R σ H:=by
 refine⟨λ i m σ H=>m=n - i/\i<=n/\Pv i σ H,⟨n,by simp,Nat.zero_le _,h0⟩,?_⟩;rintro i m σ H ⟨rfl,hi,p⟩;by_cases hlt:i < n
 . refine .inr ⟨hlt,Pv (i+1),λ σ' H' p'=>⟨n - (i+1),by lia,rfl,hlt,p'⟩,λ x H' y=>?_⟩
   obtain⟨e,y⟩:=y;subst e y;exact hs i σ _ hlt p
 have e:i=n:=by lia
 subst e;exact .inl ⟨zA3 _,hd σ H p⟩
section
variable{X:Cx}
theorem sset(i:Nat){te:TE}{pos pos':Pos}(hN:X.N.Nodup)(he:PE X e te)(hi:X.N[i]? = some x:=by rfl)(hx:Loc X.env.scope x:=by first | exact Or.inl rfl | exact Or.inr rfl)(hs:swapsWith e (some (.Name x pos')) pos.line X.env=pure false:=by rfl)(hf:X.fn x=true∨X.env.scope.names.lookup x=some .local:=by first | exact .inl rfl | exact .inr rfl | assumption):PS X (.Assign [.Name x pos'] e pos) (tAsg te (G0 i)):=qaK0 hN hi hx he hs hf
theorem gnm(i:Nat){pos:Pos}(hN:X.N.Nodup)(hi:X.N[i]? = some x:=by rfl)(hx:Loc X.env.scope x:=by first | exact Or.inl rfl | exact Or.inr rfl)(hf:X.fn x=true∨X.env.scope.names.lookup x=some .local:=by first | exact .inl rfl | exact .inr rfl | assumption):PG X (.Name x pos) (G0 i):=qaw1 hN hi hx hf
def CDivB(_ j:Int):Prop:=0 < j/\j < 2 ^ 200
theorem qH5:OpR X (binaryOp .FloorDiv) (rI CDivB λ i j=>.int (i / j)):=opI λ i j _ _ _ _ _ hc q=>by
 have h1:(0:Int) < j:=hc.1;have h2:j < 2 ^ 200:=hc.2;refine floordiv_int (by lia) (by rw[Int.fdiv_eq_ediv_of_nonneg i (by lia)];exact q) (.inl (PyProof.noPylong_of_log2 ?_));have h3:j.natAbs < 2 ^ 200:=by lia
 have h4:j.natAbs.log2 < 200:=(Nat.log2_lt (by lia)).mpr h3;lia
theorem qaK7{j:Int}(k:Int){a b:Nat}{q pos:Pos}(hk:i ^ j.toNat=k:=by decide)(h0:0<=j:=by decide)(h1:j<=1000000:=by decide)(h2:i.natAbs < 2 ^ 64:=by decide):PE X (.BinOp (.Constant (.int i) a p) .Pow (.Constant (.int j) b q) pos) (tC (.int k)):=by
 intro D4 s σ H Q I h;refine(pe_op qaT7 qK8 qK8) D4 s σ H Q I ⟨_,_,rfl,rfl,⟨h0,h1,h2⟩,?_⟩;show Q (.int (i ^ j.toNat)) H;rw[hk];exact h
theorem qaU0:OpR X (compareOp .Is) (λ x y H Q=>∃ b c,x=.bl b/\y=.bl c/\Q (.bl (b == c)) H):=by
 intro D4 s σ H x y v u Q I rx ry h;obtain⟨b,c,rfl,rfl,q⟩:=h;cases rx;cases ry;exact is_bool ⟨.bl _,H,I,rfl,q⟩
def Bi(H:Hp):V->Option String
 | .non=>some "NoneType" | .bl _=>some "bool" | .int _=>some "int" | .str _=>some "str"
 | .ref a=>match H a with
   | some (.lst _)=>some "list" | some (.tup _)=>some "tuple" | some (.dK _)=>some "dict" | some (.frz _ (.lst _))=>some "list"
   | _=>none
 | _=>none
def Hh(t n:String):Bool:=t == n||(t == "bool" && n == "int")
theorem qaN7(K:PySem.W.Frag){t n:String}(ht:t∈["NoneType", "bool", "int", "str", "list", "tuple", "dict"])(hn:n∈["bool", "int", "str", "list", "tuple", "dict"]):PySem.W.kitOne K (.type t) (.type n)=some (Hh t n):=by
 simp only[zAi,zBd,or_false] at ht hn;rcases ht with rfl | rfl | rfl | rfl | rfl | rfl | rfl<;>rcases hn with rfl | rfl | rfl | rfl | rfl | rfl<;>rfl
theorem qai2{K:PySem.W.Frag}{x:V}{t:String}(h:Bi H x=some t):Em K H x (.type t)/\t∈["NoneType", "bool", "int", "str", "list", "tuple", "dict"]:=by
 cases x with
 | non=>cases h;exact⟨.non,by decide⟩
 | bl b=>cases h;exact⟨.bl b,by decide⟩
 | int b=>cases h;exact⟨.int b,by decide⟩
 | str b=>cases h;exact⟨.str b,by decide⟩
 | byt b=>cases h
 | flt b=>cases h
 | ty b=>cases h
 | ref a =>
   unfold Bi at h;dsimp only at h;split at h
   . cases h;exact⟨.lst (by assumption),by decide⟩
   . cases h;exact⟨.tup (by assumption),by decide⟩
   . cases h;exact⟨.dK (by assumption),by decide⟩
   . cases h;exact⟨.frz (by assumption),by decide⟩
   cases h
def rIsi:List V->Hp->VK->Prop:=λ xs H Q=>∃ x n t,xs=[x,.ty n]/\Bi H x=some t/\n∈["bool", "int", "str", "list", "tuple", "dict"]/\Q (.bl (Hh t n)) H
theorem ql3:CallR X (.builtin "isinstance") rIsi:=by
 intro D4 s σ H xs us Q I r h;obtain⟨x,n,t,rfl,hk,hn,q⟩:=h;obtain⟨u,w',rfl,ru,rw'⟩:=vals2 r;cases rw';obtain⟨ty,ht⟩:=qai2 (K:=X.K) hk;exact qI5 I ru ty (qaN7 X.K ht hn) λ tk=>⟨.bl _,H,I.tok tk,rfl,q⟩
theorem qaC4(n:String){pos:Pos}(hm:X.mg x=none)(hg:Gl X x:=by rfl)(hv:bootBuiltins x=some (.type n):=by rfl)(hn:x ≠ "__name__" := by decide)(hd:(x == ("__debug__" : Str))=false:=by decide):PE X (.Name x pos) (tC (.ty n)):=qaL2 hg hm hv rfl hn hd
theorem qaw4{n:Int}{t:Tok}{pos:Pos}(hm:X.mg x=some (.int n t))(hg:Gl X x:=by rfl)(hd:(x == ("__debug__" : Str))=false:=by decide):PE X (.Name x pos) (tC (.int n)):=qaw3 hg hm ⟨t,rfl⟩ hd
theorem cbi{id:String}{r:List V->Hp->VK->Prop}{pos:Pos}(hc:CallR X (.builtin id) r)(hm:X.mg x=none)(ha:PA X (e::es) t)(hg:Gl X x:=by rfl)(hv:bootBuiltins x=some (.builtin id):=by rfl)(hn:x ≠ "__name__" := by decide)(hdb:(x == ("__debug__" : Str))=false:=by decide)(he:starEach (e::es) X.env=(false,eval e X.env)::starEach es X.env:=by rfl)(hpl:(backTo pos (starEach es X.env)).any (·.1)=false:=by rfl):PE X (.Call (.Name x p) (e::es) [] pos) (tCB r t):=qaC5 hc hg hm hv ha hn hdb he hpl
theorem cty{id:String}{r:List V->Hp->VK->Prop}{pos:Pos}(hc:CallR X (.type id) r)(hm:X.mg x=none)(ha:PA X (e::es) t)(hg:Gl X x:=by rfl)(hv:bootBuiltins x=some (.type id):=by rfl)(hn:x ≠ "__name__" := by decide)(hdb:(x == ("__debug__" : Str))=false:=by decide)(he:starEach (e::es) X.env=(false,eval e X.env)::starEach es X.env:=by rfl)(hpl:(backTo pos (starEach es X.env)).any (·.1)=false:=by rfl):PE X (.Call (.Name x p) (e::es) [] pos) (tCB r t):=qap2 hc hg hm hv ha hn hdb he hpl
end
def rGetL:V->V->Hp->VK->Prop:=λ o i H Q=>∃ p xs k v,o=.ref p/\i=.int k/\H p=some (.lst xs)/\0<=k/\xs[k.toNat]? = some v/\Q v H
theorem qaF3{X:Cx}:PGet X rGetL:=by
 intro D4 s σ H o i ov iv Q I ro ri h;obtain⟨p,xs,k,v,rfl,rfl,hp,h0,hv,q⟩:=h;cases ro;obtain⟨t,rfl⟩:=ri;obtain⟨its,n,r,ho,hz⟩:=I.lst hp;obtain⟨u,hu,ru⟩:=r.get hv;have hlt:=(zA4.mp hv).1;have hn:=qR7;refine wpAny_getItem_list (items:=its.toArray) (x:=u) ⟨_,ho,rfl,n,rfl⟩ h0 (by lia) (by simpa using hu) ⟨v,H,I,ru,q⟩
theorem qaY3{xs:List α}(h0:0<=i)(h1:i < xs.length):∃ v,xs[i.toNat]? = some v/\atI xs i=some v:=by
 have hl:i.toNat < xs.length:=by lia
 have e:(i.toNat:Int)=i:=by lia
 refine⟨xs[i.toNat],by simp[hl],?_⟩
 have:=qB7 (xs:=xs) (j:=i.toNat) (v:=xs[i.toNat]) (by simp[hl])
 rw[e] at this;exact this
theorem qF6{xs:List α}(h0:0<=i)(h1:i < xs.length):∃ v,v∈xs/\atI xs i=some v:=by
 obtain⟨v,h,e⟩:=qaY3 h0 h1;exact⟨v,zAt h,e⟩
theorem qai0(h:H a=some (.lst xs)):Bi H (.ref a)=some "list" := by
 unfold Bi;dsimp only;rw[h]
theorem qaE6(h:H a=some (.tup xs)):Bi H (.ref a)=some "tuple" := by
 unfold Bi;dsimp only;rw[h]
theorem qax4{xs:List (Key×V)}(h:H a=some (.dK xs)):Bi H (.ref a)=some "dict" := by
 unfold Bi;dsimp only;rw[h]
theorem Same.new{q:Addr}{u:HO}(h:H q=none):Same H (upd H q u):=λ b o e=>by rw[qc9 (qe7 e h)];exact e
structure Df(K:PySem.W.Frag)(mg:Str->Option Value)(x qual:Str)(st:Stmt)(f:Addr)(fd:FuncData)(ps:List Str):Prop where
 F:Fun K x qual st f fd
 b:Binds K fd ps []
 m:mg x=some (.ref f)
theorem dfmk{K:PySem.W.Frag}{mg:Str->Option Value}{qual:Str}{st:Stmt}{f:Addr}{ps:List Str}{oc:Value}{od an:Option Addr}{osl:Array (Option Value)}{kV doc pm cdv ct:Value}(l:K.lookup f=some ⟨oc,od,.func (PySem.W.fnOf x qual (qf2 st) (qc8 st) (qa3 st) .none kV doc pm an cdv ct),osl⟩)(c:PySem.W.codeIn K cdv qual=true)(k:PySem.W.keepIn K (.ref f)=true)(m:mg x=some (.ref f))(h:∀(kV doc pm:Value)(an:Option Addr)(cdv ct:Value)(us:List Value),us.length=ps.length->bindArgs (PySem.W.fnOf x qual (qf2 st) (qc8 st) (qa3 st) .none kV doc pm an cdv ct) ⟨us,[]⟩=pure (ps.zip us)) :
   Df K mg x qual st f (PySem.W.fnOf x qual (qf2 st) (qc8 st) (qa3 st) .none kV doc pm an cdv ct) ps:=⟨qar5 l c k,(qar5 l c k).binds h,m⟩
theorem G4{X:Cx}{qual:Str}{st:Stmt}{f:Addr}{fd:FuncData}{ps:List Str}{k:Nat}{sp:Sp}{pos:Pos}(D:Df X.K X.mg x qual st f fd ps)(G:Bq X.prog X.w X.K X.mg X.base CX0 k f fd ps sp)(hr:Room k X.A)(ha:PA X (e::es) t)(hg:Gl X x:=by rfl)(hdb:(x == ("__debug__" : Str))=false:=by decide)(he:starEach (e::es) X.env=(false,eval e X.env)::starEach es X.env:=by rfl)(hpl:(backTo pos (starEach es X.env)).any (·.1)=false:=by rfl):PE X (.Call (.Name x p) (e::es) [] pos) (Ih sp [] E0 t) :=
 qaw5 G hr hg D.m D.F.kp D.b .nil pass0 ha hdb he hpl
end L2
namespace LB
open PySem PySem.Spec PyProof.Rows
theorem qR6:typeLookup (.type "list") "keys" = pure none:=by rw[typeLookup_type,builtinLookup_eq_fast];kernel_rfl
theorem qD0:typeLookup (.type "list") "__getattr__" = pure none:=by rw[typeLookup_type,builtinLookup_eq_fast];kernel_rfl
section
variable{prog:Program}{w:World}{A:Around}{E:Value->Shared->Prop}{h:Heap}{g:Array GenState}{d:Drawn}{t:Nat}{os:OsState}{a:Addr}{its:Array Value}{n:Nat}
theorem qD1{tk:Tok}{Q:PySem.Fin->Shared->Prop}(hx:h.get? a=some { cls:=.type "list",data:=.seq its n })(hh:A.handled=none)(hq:∀ h' tk e,Heap.NewAttrErr h h' e (.ref a) "keys" -> E (.ref e) ⟨h',g,d,tk,os⟩) :
   wpAny (model prog w) A (Builtin.«object.__getattribute__» ⟨[.ref a,.str "keys" tk],[]⟩) Q E ⟨h,g,d,t,os⟩:=by
 have hT:(⟨h,g,d,t,os⟩:Shared).TypeIs (.ref a) "list" := ⟨_,hx,rfl⟩
 have f4:=qR6
 repeat (any_goals (first | assumption | wp_step))
 refine wpAny_raiseAttrError hh ?_ (attrMsg_fits (by decide +kernel) (by decide +kernel));exact hq
theorem qI3{Q:Option Value->Shared->Prop}(hx:h.get? a=some { cls:=.type "list",data:=.seq its n })(hh:A.handled=none)(hq:∀ h' tk,(∀ b o,h.get? b=some o->h'.get? b=some o)->Q none ⟨h',g,d,tk,os⟩) :
   wpAny (model prog w) A (getAttr? (.ref a) "keys") Q E ⟨h,g,d,t,os⟩:=by
 have hT:∀ tk,(⟨h,g,d,tk,os⟩:Shared).TypeIs (.ref a) "list" := λ _=>⟨_,hx,rfl⟩
 have hT0:=hT t;have f1:=sub_AttributeError;have f2:=F.slot_list_getattribute.lookup;have f3:=F.slot_list_getattribute.bind (.ref a);have f5:=qD0;unfold getAttr? getAttrBy? getAttrBy
 repeat (any_goals (first | assumption | wp_step))
 refine codeAny_call_builtin F.slot_list_getattribute.plain F.entry_list_ga (F.slot_list_getattribute.check _ _ _ _ _ _ _ _ (hT _) (F.args_list_getattribute_2 _ _) (qD1 hx hh λ h' tk e hx'=>?_));obtain⟨t',u',he⟩:=hx'.there;show wpAny _ _ (getattributeRaised _ _ _ _ _ _ _) _ _ _;unfold getattributeRaised
 repeat (any_goals (first | assumption | wp_step))
 exact hq _ _ hx'.keeps
end
theorem qo1:entryFor table "dict.update.loop" = some Builtin.«dict.update.loop»:=entryFor_of_tree (by kernel_rfl)
theorem qf9:plainId "dict.update.loop" = true:=by decide +kernel
section
variable{prog:Program}{w:World}{K:Type}[DecidableEq K]{knd:KeyKind prog w K}{A:Around}{R:Result->Shared->Prop}
theorem qas7(hh:A.handled=none){I ax d:Addr}{items:Array Value}(hIx:ax≠I)(hdI:d≠I)(hdx:ax≠d):∀(rest:List (K×Value))(i:Nat)(ix:Int)(kvs:List (K×Value))(s:Shared),
   (∀(j:Nat) kv,rest[j]? = some kv->∃ t key,items[i+j]? = some (.ref t)/\IsTup s.heap t #[key,kv.2]/\knd.is kv.1 key=true/\t≠I/\t≠d)->items.size=i+rest.length ->
   s.heap.IsListIter I ax i->s.heap.IsList ax items->s.heap.DictOf knd d kvs->kvs.length+rest.length<=sizeLine ->
   (∀ h' tk,h'.DictOf knd d (rest.foldl (λ acc kv=>stored acc kv.1 kv.2) kvs)->(∀ b o,b≠I->b≠d->s.heap.get? b=some o->h'.get? b=some o)->R (.ok (.ret .none)) { s with heap:=h',toks:=tk }) ->
   codeAny (model prog w) A (.builtin "dict.update.loop" ⟨[.ref d,.ref I,rawInt ix,.none],[]⟩) R s:=by
 intro rest
 induction rest with
 | nil =>
   intro i ix kvs s hp hsz hit hl hd hk hR;refine codeAny_builtin qo1 ?_;rw[Around.under_plainId qf9 _];show wpAny _ A.in1 (pyNext (.ref I) >>= _) _ _ s;refine wpAny_bind (wpAny_pyNext_list_end hh hit hl (by simp at hsz;simp[hsz]) λ h' he=>?_);show wpAny _ _ (Builtin.Dict.addKeywords d [] >>= _) _ _ _;refine wpAny_bind (wpAny_pure (wpAny_pure ?_));have hd':h'.DictOf knd d kvs:=by
     obtain⟨o,es,ep,ho,r⟩:=hd;exact⟨o,es,ep,he d o hdI ho,r⟩
   exact hR h' s.toks hd' λ b o hb _ e=>he b o hb e
 | cons kv rest ih =>
   intro i ix kvs s hp hsz hit hl hd hk hR;obtain⟨t,key,h1,h2,h3,h4,h5⟩:=hp 0 kv rfl;refine codeAny_builtin qo1 ?_;rw[Around.under_plainId qf9 _];show wpAny _ A.in1 (pyNext (.ref I) >>= _) _ _ s;refine wpAny_bind (wpAny_pyNext_list_item hit hl h1 λ h' hit' hs=>?_);have h2':IsTup h' t #[key,kv.2]:=h2.extBut hs.extBut h4;obtain⟨o,ho,hoc,n,hod⟩:=h2';refine wpAny_bind (wpAny_holding ?_);refine wpAny_bind (wpAny_tryCatch ?_);unfold Builtin.Dict.pairItems;refine wpAny_bind (wpAny_typeOf (T := "tuple") ⟨o,ho,hoc⟩ ?_);rw[if_pos (by decide)];refine wpAny_bind (wpAny_seqItems ho hod (wpAny_pure ?_));dsimp only[Option.getD];have hd':h'.DictOf knd d kvs:=by
     obtain⟨o,es,ep,ho,r⟩:=hd;exact⟨o,es,ep,hs.extBut d o hdI ho,r⟩
   simp only[zAo] at hk hsz;show wpAny _ _ (holding [key,kv.2] (dictSet d key kv.2)) _ _ _;refine wpAny_holding (wpAny_dictSet_pairs (hsz:=by lia) h3 hd' λ h'' hd'' hs''=>?_);refine wpAny_pure ⟨plainId_quiet qf9 _,?_⟩;have hlen:(stored kvs kv.1 kv.2).length<=kvs.length+1:=by
     unfold stored;split
     . rw[zAc];lia
     rw[zA8];simp
   refine ih (i+1) (ix+1) (stored kvs kv.1 kv.2) _ (λ j kv' hj=>?_) (by lia) ?_ ?_ hd'' (by lia) λ h3' tk hd3 k3=>?_
   . obtain⟨t',key',g1,g2,g3,g4,g5⟩:=hp (j+1) kv' hj
     exact⟨t',key',by rw[show i+1+j=i+(j+1) by lia];exact g1,(g2.extBut hs.extBut g4).extBut hs''.extBut g5,g3,g4,g5⟩
   . exact hit'.at λ o e=>hs''.extBut I o (Ne.symm hdI) e
   . exact(hl.at λ o e=>hs.extBut ax o hIx e).at λ o e=>hs''.extBut ax o hdx e
   exact hR h3' tk hd3 λ b o hb hb' e=>k3 b o hb hb' (hs''.extBut b o hb' (hs.extBut b o hb e))
end
end LB
namespace L2
open PySem PySem.Spec PyProof.Rows
section
variable{X:Cx}
theorem KV.fold:∀{more:List (Key×V)}{rs:List (Key×Value)}{kvs:List (Key×V)}{vs:List (Key×Value)},KV more rs->KV kvs vs->KV (qC9 kvs more) (rs.foldl (λ acc kv=>stored acc kv.1 kv.2) vs):=by
 intro more rs kvs vs r;unfold KV at r
 induction r generalizing kvs vs with
 | nil=>intro q;exact q
 | @cons p q _ _ h _ ih =>
   intro r0;show KV (qC9 (putK kvs p.1 p.2) _) (List.foldl _ (stored vs q.1 q.2) _);refine ih ?_;rw[<- h.1];exact r0.put p.1 h.2
def qay5(H:Hp)(ys:List V)(kvs:List (Key×V)):Prop:=Paired (λ y (kv:Key×V)=>∃ t,y=.ref t/\H t=some (.tup [kV kv.1,kv.2])) ys kvs
def qaJ7:List V->Hp->VK->Prop:=λ xs H Q=>∃ a ys kvs,xs=[.ref a]/\H a=some (.lst ys)/\qay5 H ys kvs/\∀ p,H p=none->Q (.ref p) (upd H p (.dK (qC9 [] kvs)))
theorem qN0(hc:X.calm=true):CallR X (.type "dict") qaJ7:=by
 intro D4 s σ H xs us Q I r h;obtain⟨a,ys,kvs,rfl,ha,hp,q⟩:=h;obtain⟨u,rfl,ru⟩:=B7 r;cases ru;have hh:=I.ok.hd hc;obtain⟨z,its,n,rv,hl,e⟩:=I.lstM ha;obtain⟨rs,rk,ri⟩:∃ rs:List (Key×Value),KV kvs rs/\∀(j:Nat) kv,rs[j]? = some kv->∃ t key,its[j]? = some (.ref t)/\IsTup s.heap t #[key,kv.2]/\(qg5 X.prog X.w).is kv.1 key=true:=by
   clear q e hl n ha z
   induction hp generalizing its with
   | nil=>exact⟨[],.nil,λ j kv hj=>by simp at hj⟩
   | @cons y kv ys kvs hy _ ih =>
     cases rv with
     | @cons _ u _ us' hu hr =>
       obtain⟨t,rfl,ht⟩:=hy;cases hu;obtain⟨_,its',rt,o,ho,hoc,n,hod⟩:=I.hok t _ ht;obtain⟨key,val,rfl,r1,r2⟩:=rt.two;obtain⟨rs,rk,ri⟩:=ih _ hr;refine⟨(kv.1,val)::rs,.cons ⟨rfl,r2⟩ rk,λ j kv' hj=>?_⟩;cases j with
       | zero=>cases hj;exact⟨t,key,rfl,⟨o,ho,hoc,n,hod⟩,Ij r1⟩
       | succ j=>exact ri j kv' hj
 have hrl:rs.length=its.length:=by rw[<- hl,<- Paired.length rk,<- Paired.length hp]
 have big:=I.big;obtain⟨hp0,gn,dr,tk0,os0⟩:=s;refine callType_codes (Q₁:=λ obj s₁=>obj=.ref hp0.objs.size/\s₁={ heap:=hp0.push { cls:=.type "dict",data:=.dict #[] },gens:=gn,drawn:=dr,toks:=tk0,os:=os0 }) F.kt_called_dict (F.kt_typeCall_dict_1 _) F.entry_dict_init (kt_code_dict_new _ ⟨rfl,rfl⟩) ?_;rintro obj s₁ ⟨rfl,rfl⟩;have hnew:(hp0.push { cls:=.type "dict",data:=.dict #[] }).DictOf (qg5 X.prog X.w) hp0.objs.size []:=Heap.DictOf.new hp0;have e':(hp0.push { cls:=.type "dict",data:=.dict #[] }).get? a=some { cls:=.type "list",data:=.seq its.toArray n }:=zA5 _ e;have had:a < hp0.objs.size:=zAd e;refine⟨hnew.typeIs,F.args_dict_init_2 _ _,?_⟩;unfold Builtin.«dict.__init__»;refine wpAny_bind ?_;unfold Builtin.Dict.selfAndRest;refine wpAny_bind (wpAny_notOrdered_dict hnew.typeIs ?_);show wpAny _ _ (pure (hp0.objs.size,[Value.ref a])) _ _ _;refine wpAny_pure ?_;show wpAny _ _ (Builtin.Dict.updateFrom "dict.__init__" hp0.objs.size (.ref a) [] .none) _ _ _;unfold Builtin.Dict.updateFrom;refine wpAny_bind (wpAny_typeOf (T := "list") ⟨_,e',rfl⟩ ?_);rw[if_pos (by decide)];refine wpAny_bind (LB.qI3 e' hh λ h1 tk1 k1=>?_);rw[if_pos (by rfl)];have e1:h1.get? a=some { cls:=.type "list",data:=.seq its.toArray n }:=k1 _ _ e';have d1:h1.DictOf (qg5 X.prog X.w) hp0.objs.size []:=by
   obtain⟨o,es,ep,ho,r⟩:=hnew;exact⟨o,es,ep,k1 _ _ ho,r⟩
 refine wpAny_bind (wpAny_rule ?_);have hlist:h1.IsList a its.toArray:=⟨_,e1,rfl,n,rfl⟩
 refine wpAny_bind (wpAny_pyIter_list hlist ?_);have szd:hp0.objs.size < h1.objs.size:=by
   obtain⟨o,es,ep,ho,r⟩:=d1;exact zAd ho
 refine wpAny_pure ⟨plainId_quiet LB.qf9 _,?_⟩;refine LB.qas7 (knd:=qg5 X.prog X.w) (A:=X.A.in1) hh (I:=h1.objs.size) (ax:=a) (d:=hp0.objs.size) (items:=its.toArray) (zAn (Nat.lt_trans had szd)) (zAn szd) (zAn had) rs 0 0 [] _ (λ j kv hj=>?_) (by simp[hrl]) ?_ ?_ ?_ ?_ λ h2 tk2 d2 k2=>?_
 . obtain⟨t,key,g1,g2,g3⟩:=ri j kv hj
   obtain⟨o,ho,r⟩:=g2;have hlt:=zAd ho;exact⟨t,key,by simpa using g1,⟨o,zA5 _ (k1 _ _ (zA5 _ ho)),r⟩,g3,zAn (Nat.lt_trans hlt szd),zAn hlt⟩
 . exact⟨_,zAu _ rfl,rfl,rfl⟩
 . exact⟨_,zA5 _ e1,rfl,n,rfl⟩
 . obtain⟨o,es,ep,ho,r⟩:=d1
   exact⟨o,es,ep,zA5 _ ho,r⟩
 . simp only[zC9,zB6];rw[hrl,<- hl];exact z
 refine⟨rfl,?_⟩;have hf:H hp0.objs.size=none:=I.hok.fresh (zA3 _);have keep:∀ b o,hp0.get? b=some o->h2.get? b=some o:=λ b o eb=>by
   have hlt:=zAd eb;exact k2 b o (zAn (Nat.lt_trans hlt szd)) (zAn hlt) (zA5 _ (k1 _ _ (zA5 _ eb)))
 have rm:KV (qC9 [] kvs) (rs.foldl (λ acc kv=>stored acc kv.1 kv.2) []):=KV.fold rk .nil;have hz:(qC9 [] kvs).length<=sizeLine:=by
   have h1:=qv6 kvs [];have h2:=Paired.length hp;simp only[zC9] at h1;lia
 refine⟨.ref hp0.objs.size,_,I.laid (t':=tk2) (o:=.dK (qC9 [] kvs)) keep (zA3 _) ?_,rfl,q _ hf⟩;exact⟨hz,zBj.mpr (Ne.symm (zAn big)),_,rm,d2⟩
end
section
variable{X:Cx}
theorem qX8(hc:X.calm=true):CallR X (.builtin "all") (λ xs H Q=>∃(a:Addr)(bs:List Bool),xs=[.ref a]/\SqL X.K H a (bs.map V.bl)/\Q (.bl (bs.all id)) H):=by
 intro D4 s σ H xs us Q I r h;obtain⟨a,bs,rfl,ha,q⟩:=h;obtain⟨u,rfl,ru⟩:=B7 r;cases ru;have hh:=I.ok.hd hc;obtain⟨its,rv,pl,hz⟩:=I.list ha;refine call_all_walk (wpAny_pyIter_list pl.isList ?_);have hlt:a < s.heap.objs.size:=let ⟨o,ho,_⟩:=pl.isList;zAd ho
 refine⟨s.heap.objs.size,_,_,_,_,_,λ i=>bs.getD i false,rfl,Walks.list (A:=X.A.in1) hh _ a (zAn hlt) its.toArray,⟨⟨_,zAu _ rfl,rfl,rfl⟩,?_⟩,?_,?_⟩
 . exact pl.isList.at λ o e=>zA5 _ e
 . intro i v s1 Q1 E1 hv hq
   have hv:its[i]? = some v:=by simpa using hv
   have hi:i < bs.length:=by
     have h1:=(zA4.mp hv).1;have h2:=rv.length;rw[zAc] at h2;lia
   obtain⟨u,hu,ru⟩:=rv.get (i:=i) (x:=.bl bs[i]) (by simp[hi]);rw[hv] at hu;cases hu;cases ru;refine wpAny_truthy_bool ?_;have e:bs.getD i false=bs[i]:=by simp[List.getD,hi]
   have hq:Q1 (bs.getD i false) s1:=hq;rw[e] at hq;exact hq
 intro h' tk hk;have e:(List.range its.toArray.size).all (λ i=>bs.getD i false)=bs.all id:=by
   have h2:=rv.length;rw[zAc] at h2;rw[zA2,<- h2];rw[Bool.eq_iff_iff];simp only[zB4,zA9,id_eq];constructor
   . intro h b hb
     obtain⟨i,hi,rfl⟩:=List.mem_iff_getElem.mp hb
     have:=h i hi
     simpa[List.getD,hi] using this
   intro h i hi
   have:=h bs[i] (List.getElem_mem hi)
   simpa[List.getD,hi] using this
 rw[e];refine⟨.bl _,H,?_,rfl,q⟩;exact I.kept (t':=tk) λ b o e=>hk b o (by simp;exact zAn (zAd e)) (zA5 _ e)
def qm4(ns:List Int):Nat:=(firstMet (λ i=>ns.getD i 0) ns.length).length
def rSetI(K:PySem.W.Frag):List V->Hp->VK->Prop:=λ xs H Q=>∃(a:Addr)(ns:List Int),xs=[.ref a]/\SqL K H a (ns.map V.int)/\ns.length<=1000/\∀ p S,H p=none->Q (.ref p) (upd H p (.set S (qm4 ns)))
theorem qat1(hc:X.calm=true):CallR X (.type "set") (rSetI X.K):=by
 intro D4 s σ H xs us Q I r h;obtain⟨a,ns,rfl,ha,hl,q⟩:=h;obtain⟨u,rfl,ru⟩:=B7 r;cases ru;have hh:=I.ok.hd hc;obtain⟨its,rv,pl,hz⟩:=I.list ha;have hlen:its.length=ns.length:=by
   have:=rv.length
   rw[zAc] at this;exact this.symm
 have hi:IntsAre its ns:=qai8 rv;refine call_set_list (items:=its.toArray) hh pl.isList (by simpa using hi) (by rw[zA2,hlen];show ns.length+1 < 4096;lia) λ h' tk hS hk=>?_
 have hsz:its.toArray.size=ns.length:=by rw[zA2,hlen]
 rw[hsz] at hS;refine⟨.ref s.heap.objs.size,_,I.laid (t':=tk) (o:=.set _ (qm4 ns)) (λ b o e=>hk b o (zAd e) e) (zA3 _) hS,rfl,q _ _ (I.hok.fresh (zA3 _))⟩
theorem qat4:CallR X (.builtin "len") (λ xs H Q=>∃(a:Addr)(S:Int->Bool)(n:Nat),xs=[.ref a]/\H a=some (.set S n)/\Q (.int n) H):=by
 intro D4 s σ H xs us Q I r h;obtain⟨a,S,n,rfl,ha,q⟩:=h;obtain⟨u,rfl,ru⟩:=B7 r;cases ru;obtain⟨o,es,ep,t,ho,hex,hd,_,_,hb,hf,hn⟩:=I.hok a _ ha;subst hn;have hb:es.size < 4096:=hb;exact call_len_set ho hex hd hf (by lia) ⟨.int _,H,I.tok _,⟨_,rfl⟩,q⟩
end
theorem qS4(ns:List Int):qm4 ns=ns.length↔ns.Nodup:=by
 have key:∀ i,i<=ns.length->(∀ k,k∈firstMet (λ i=>ns.getD i 0) i↔k∈ns.take i)/\((firstMet (λ i=>ns.getD i 0) i).length=i↔(ns.take i).Nodup):=by
   intro i
   induction i with
   | zero=>intro _;rw[firstMet_zero];simp
   | succ i ih =>
     intro hi;obtain⟨h1,h2⟩:=ih (by lia);have hle:=firstMet_length_le (λ i=>ns.getD i 0) i;have hlt:i < ns.length:=by lia
     have et:ns.take (i+1)=ns.take i++[ns[i]]:=by rw[List.take_add_one];simp[hlt]
     have eg:ns.getD i 0=ns[i]:=by simp[List.getD,hlt]
     rw[firstMet_succ,et,eg];unfold step_dedup;by_cases hm:ns[i]∈firstMet (λ i=>ns.getD i 0) i
     . have hm':ns[i]∈ns.take i:=(h1 _).mp hm
       have hc:(firstMet (λ i=>ns.getD i 0) i).any (· == ns[i])=true:=zC6.mpr ⟨_,hm,by simp⟩;rw[if_pos hc];refine⟨λ k=>?_,?_⟩
       . rw[h1];simp only[zAh,zAm]
         exact⟨.inl,λ h=>h.elim id λ e=>by rw[e];exact hm'⟩
       constructor
       . intro h;lia
       intro h;rw[zBn] at h;exact absurd rfl (h.2.2 _ hm' _ (zAm.mpr rfl))
     have hm':¬ ns[i]∈ns.take i:=λ h=>hm ((h1 _).mpr h)
     have hc:¬ (firstMet (λ i=>ns.getD i 0) i).any (· == ns[i])=true:=λ h=>by
       obtain⟨x,hx,e⟩:=zC6.mp h;exact hm (by rw[<- (zBx.mp e)];exact hx)
     rw[if_neg hc];refine⟨λ k=>?_,?_⟩
     . simp only[zAh,zAm]
       rw[h1]
     rw[zA8,zBn];simp only[List.length_singleton];constructor
     . intro h
       refine⟨h2.mp (by lia),by simp,λ x hx y hy=>?_⟩;rw[zAm.mp hy];exact λ e=>hm' (e ▸ hx)
     intro h
     have:=h2.mpr h.1
     lia
 have:=(key ns.length (zA3 _)).2
 rw[zBa (zA3 _)] at this;exact this
end L2
namespace LD
open PySem PySem.SeqAt MeetsSeq
open AutoSeq1 (wpAny_loadPart')
variable{b l:Addr}{dd:Option Addr}{n:Nat}{sl:Array (Option Value)}
theorem qaF8(l b:Addr)(es:Array DictEntry)(items2:Array Value)(n n2:Nat)(dd dd2:Option Addr)(sl sl2:Array (Option Value)) :
   Meets (Builtin.«dict.__eq__» ⟨[.ref l,.ref b],[]⟩) (λ _ R s=>s.heap.get? l=some { cls:=.type "dict",dict:=dd,data:=.dict es n,slots:=sl }/\s.heap.get? b=some { cls:=.type "tuple",dict:=dd2,data:=.seq items2 n2,slots:=sl2 }/\R (.ok (.ret .notImplemented)) s) :=
 .of_wp λ prog w A R s h=>by obtain⟨hp,g,d,tk,os⟩:=s;obtain⟨hl,hb,h⟩:=h;have f1:=F.sub_tuple_dict;wp_walk using wpAny_loadPart' hl,wpAny_loadPart' hb;exact⟨_,rfl,h⟩
theorem qaz0(l b:Addr)(es:Array DictEntry)(items2:Array Value)(n n2:Nat)(dd dd2:Option Addr)(sl sl2:Array (Option Value)) :
   Meets (Builtin.«tuple.__eq__» ⟨[.ref b,.ref l],[]⟩) (λ _ R s=>s.heap.get? l=some { cls:=.type "dict",dict:=dd,data:=.dict es n,slots:=sl }/\s.heap.get? b=some { cls:=.type "tuple",dict:=dd2,data:=.seq items2 n2,slots:=sl2 }/\R (.ok (.ret .notImplemented)) s) :=
 .of_wp λ prog w A R s h=>by obtain⟨hp,g,d,tk,os⟩:=s;obtain⟨hl,hb,h⟩:=h;have f1:=F.sub_dict_tuple;wp_walk using wpAny_loadPart' hl,wpAny_loadPart' hb;exact⟨_,rfl,h⟩
theorem qaD3(l b:Addr)(es:Array DictEntry)(items2:Array Value)(n n2:Nat)(dd dd2:Option Addr)(sl sl2:Array (Option Value)) :
   Meets (Builtin.«dict.__ne__» ⟨[.ref l,.ref b],[]⟩) (λ _ R s=>s.heap.get? l=some { cls:=.type "dict",dict:=dd,data:=.dict es n,slots:=sl }/\s.heap.get? b=some { cls:=.type "tuple",dict:=dd2,data:=.seq items2 n2,slots:=sl2 }/\R (.ok (.ret .notImplemented)) s) :=
 .of_wp λ prog w A R s h=>by obtain⟨hp,g,d,tk,os⟩:=s;obtain⟨hl,hb,h⟩:=h;have f1:=F.sub_tuple_dict;wp_walk using wpAny_loadPart' hl,wpAny_loadPart' hb;exact⟨_,rfl,h⟩
theorem qay9(l b:Addr)(es:Array DictEntry)(items2:Array Value)(n n2:Nat)(dd dd2:Option Addr)(sl sl2:Array (Option Value)) :
   Meets (Builtin.«tuple.__ne__» ⟨[.ref b,.ref l],[]⟩) (λ _ R s=>s.heap.get? l=some { cls:=.type "dict",dict:=dd,data:=.dict es n,slots:=sl }/\s.heap.get? b=some { cls:=.type "tuple",dict:=dd2,data:=.seq items2 n2,slots:=sl2 }/\R (.ok (.ret .notImplemented)) s) :=
 .of_wp λ prog w A R s h=>by obtain⟨hp,g,d,tk,os⟩:=s;obtain⟨hl,hb,h⟩:=h;have f1:=F.sub_dict_tuple;wp_walk using wpAny_loadPart' hl,wpAny_loadPart' hb;exact⟨_,rfl,h⟩
theorem for0{β:Type}{m:Type->Type}[Monad m](b:β)(f:Nat->β->m (ForInStep β)):forIn [:0] b f=(pure b:m β):=by
 simp
theorem same0{M:Model}{A:Around}{E:Value->Shared->Prop}{s:Shared}{Q:Bool->Shared->Prop}{id:String}{n2:Nat}{dd2:Option Addr}{sl2:Array (Option Value)}(h1:(l == sysModules)=false)(h2:(b == sysModules)=false)(hl:s.heap.get? l=some { cls:=.type "dict",dict:=dd,data:=.dict #[] n,slots:=sl })(hb:s.heap.get? b=some { cls:=.type "dict",dict:=dd2,data:=.dict #[] n2,slots:=sl2 })(h:Q true s):wpAny M A (Builtin.Dict.samePairs id l b) Q E s:=by
 unfold Builtin.Dict.samePairs Builtin.Dict.showsAll;rw[if_neg (by rw[h1];decide),if_neg (by rw[h2];decide)];refine wpAny_bind (wpAny_pure (wpAny_bind (wpAny_pure ?_)));refine wpAny_bind (wpAny_dictEntries hl rfl ?_);refine wpAny_bind (wpAny_dictEntries hb rfl ?_);rw[if_neg (by decide)];refine wpAny_bind (wpAny_dictEpoch hl rfl ?_);have e0:(#[]:Array DictEntry).size=0:=rfl;simp only[e0];rw[for0];exact wpAny_bind (wpAny_pure (wpAny_pure h))
theorem qaP7(l b:Addr)(n n2:Nat)(dd dd2:Option Addr)(sl sl2:Array (Option Value))(h1:(l == sysModules)=false)(h2:(b == sysModules)=false) :
   Meets (Builtin.«dict.__eq__» ⟨[.ref l,.ref b],[]⟩) (λ _ R s=>s.heap.get? l=some { cls:=.type "dict",dict:=dd,data:=.dict #[] n,slots:=sl }/\s.heap.get? b=some { cls:=.type "dict",dict:=dd2,data:=.dict #[] n2,slots:=sl2 }/\R (.ok (.ret (.bool true))) s) :=
 .of_wp λ prog w A R s h=>by
   obtain⟨hp,g,d,tk,os⟩:=s;obtain⟨hl,hb,h⟩:=h;have f1:isSubtype (.type "dict") (.type "dict")=pure true:=F.sub_dict_dict
   wp_walk using wpAny_loadPart' hl,wpAny_loadPart' hb,same0 h1 h2 hl hb
   exact⟨_,rfl,h⟩
theorem qaM5(l b:Addr)(n n2:Nat)(dd dd2:Option Addr)(sl sl2:Array (Option Value))(h1:(l == sysModules)=false)(h2:(b == sysModules)=false) :
   Meets (Builtin.«dict.__ne__» ⟨[.ref l,.ref b],[]⟩) (λ _ R s=>s.heap.get? l=some { cls:=.type "dict",dict:=dd,data:=.dict #[] n,slots:=sl }/\s.heap.get? b=some { cls:=.type "dict",dict:=dd2,data:=.dict #[] n2,slots:=sl2 }/\R (.ok (.ret (.bool false))) s) :=
 .of_wp λ prog w A R s h=>by
   obtain⟨hp,g,d,tk,os⟩:=s;obtain⟨hl,hb,h⟩:=h;have f1:isSubtype (.type "dict") (.type "dict")=pure true:=F.sub_dict_dict
   wp_walk using wpAny_loadPart' hl,wpAny_loadPart' hb,same0 h1 h2 hl hb
   exact⟨_,rfl,h⟩
section
variable{A:Around}{s:Shared}
theorem qav3{n2:Nat}{dd2:Option Addr}{sl2:Array (Option Value)}(h1:(l == sysModules)=false)(h2:(b == sysModules)=false)(ho:s.heap.get? l=some { cls:=.type "dict",dict:=dd,data:=.dict #[] n,slots:=sl })(ho2:s.heap.get? b=some { cls:=.type "dict",dict:=dd2,data:=.dict #[] n2,slots:=sl2 })(hu:A.units < cLine):RcAt A s (.ref l) (.ref b) true/\RcNeAt A s (.ref l) (.ref b) false :=
 ⟨λ prog w E Q h=>richCompare_meets_room (op:=.Eq) ⟨_,ho,rfl⟩ ⟨_,ho2,rfl⟩ F.slot_dict_eq F.entry_dict_eq (F.args_dict_eq_2 _ _) (qaP7 l b n n2 dd dd2 sl sl2 h1 h2) ⟨ho,ho2,show Value.bool true≠Value.notImplemented/\Q (.bool true) s from⟨(λ x=>nomatch x),h⟩⟩ hu,
  λ prog w E Q h=>richCompare_meets_room (op:=.NotEq) ⟨_,ho,rfl⟩ ⟨_,ho2,rfl⟩ F.slot_dict_ne F.entry_dict_ne (F.args_dict_ne_2 _ _) (qaM5 l b n n2 dd dd2 sl sl2 h1 h2) ⟨ho,ho2,show Value.bool false≠Value.notImplemented/\Q (.bool false) s from⟨(λ x=>nomatch x),h⟩⟩ hu⟩
theorem rc_dt{es:Array DictEntry}{items2:Array Value}(ho:s.heap.get? l=some { cls:=.type "dict",dict:=dd,data:=.dict es n,slots:=sl })(hb:s.heap.IsTuple b items2)(hu:A.units < cLine):RcAt A s (.ref l) (.ref b) false/\RcNeAt A s (.ref l) (.ref b) true:=by
 obtain⟨⟨cls2,dd2,data2,sl2⟩,ho2,hc2,n2,hd2⟩:=id hb;simp only at hc2 hd2;subst hc2 hd2;have hne:l≠b:=λ e=>by
   subst e;rw[ho] at ho2
   have:=congrArg (λ o:Option Obj=>o.map (·.cls)) ho2
   simp at this
 exact⟨λ prog w E Q h=>rc_eq_decline_or (k:=false) ⟨_,ho,rfl⟩ ⟨_,ho2,rfl⟩ (by decide) F.sub_tuple_dict F.slot_dict_eq F.slot_tuple_eq_refl
     (λ _ hq=>call_meets F.slot_dict_eq ⟨_,ho,rfl⟩ F.entry_dict_eq (F.args_dict_eq_2 _ _) (qaF8 l b es items2 n n2 dd dd2 sl sl2) ⟨ho,ho2,hq⟩)
     (λ _ hq=>call_meets F.slot_tuple_eq_refl ⟨_,ho2,rfl⟩ F.entry_tuple_eq (F.args_tuple_eq_2 _ _) (qaz0 l b es items2 n n2 dd dd2 sl sl2) ⟨ho,ho2,hq⟩)
     (λ _ hq=>wpAny_isSame_ref_other hne ho ho2 (by simp) hq) (.inr hu) h,
   λ prog w E Q h=>rc_ne_decline_or (k:=false) ⟨_,ho,rfl⟩ ⟨_,ho2,rfl⟩ (by decide) F.sub_tuple_dict F.slot_dict_ne F.slot_tuple_ne_refl
     (λ _ hq=>call_meets F.slot_dict_ne ⟨_,ho,rfl⟩ F.entry_dict_ne (F.args_dict_ne_2 _ _) (qaD3 l b es items2 n n2 dd dd2 sl sl2) ⟨ho,ho2,hq⟩)
     (λ _ hq=>call_meets F.slot_tuple_ne_refl ⟨_,ho2,rfl⟩ F.entry_tuple_ne (F.args_tuple_ne_2 _ _) (qay9 l b es items2 n n2 dd dd2 sl sl2) ⟨ho,ho2,hq⟩)
     (λ _ hq=>wpAny_isSame_ref_other hne ho ho2 (by simp) hq) (.inr hu) h⟩
end
end LD
namespace L2
open PySem PySem.Spec PyProof.Rows PySem.SeqAt
variable{A:Around}{a:Addr}{xs:List V}
inductive EqD(H:Hp):Nat->V->V->Bool->Prop
 | flat {n:Nat} {x y:V} (hx:flatV x=true) (hy:flatV y=true):EqD H n x y (eqV x y)
 | same {n:Nat} (a:Addr):EqD H n (.ref a) (.ref a) true
 | lsts {n:Nat} {a b:Addr} {xs ys:List V} {e:Nat->Bool} (ne:a≠b) (ha:H a=some (.lst xs)) (hb:H b=some (.lst ys)) (hl:xs.length=ys.length) (he:∀ i x y,xs[i]? = some x->ys[i]? = some y->EqD H n x y (e i)):EqD H (n+1) (.ref a) (.ref b) ((List.range xs.length).all e)
 | lens {n:Nat} {a b:Addr} {xs ys:List V} (ne:a≠b) (ha:H a=some (.lst xs)) (hb:H b=some (.lst ys)) (hl:xs.length≠ys.length):EqD H (n+1) (.ref a) (.ref b) false
 | tups {n:Nat} {a b:Addr} {xs ys:List V} {e:Nat->Bool} (ne:a≠b) (ha:H a=some (.tup xs)) (hb:H b=some (.tup ys)) (he:∀ i x y,xs[i]? = some x->ys[i]? = some y->EqD H n x y (e i)):EqD H (n+1) (.ref a) (.ref b) ((List.range (min xs.length ys.length)).all e&&xs.length == ys.length)
 | dcts {n:Nat} {a b:Addr} (ne:a≠b) (ha:H a=some (.dK [])) (hb:H b=some (.dK [])):EqD H n (.ref a) (.ref b) true
inductive RcD(H:Hp):V->V->Bool->Prop
 | flat {x y:V} (hx:flatV x=true) (hy:flatV y=true):RcD H x y (eqV x y)
 | lsts {a b:Addr} {xs ys:List V} {e:Nat->Bool} (ha:H a=some (.lst xs)) (hb:H b=some (.lst ys)) (hl:xs.length=ys.length) (he:∀ i x y,xs[i]? = some x->ys[i]? = some y->EqD H 20 x y (e i)):RcD H (.ref a) (.ref b) ((List.range xs.length).all e)
 | lens {a b:Addr} {xs ys:List V} (ha:H a=some (.lst xs)) (hb:H b=some (.lst ys)) (hl:xs.length≠ys.length):RcD H (.ref a) (.ref b) false
 | tups {a b:Addr} {xs ys:List V} {e:Nat->Bool} (ha:H a=some (.tup xs)) (hb:H b=some (.tup ys)) (he:∀ i x y,xs[i]? = some x->ys[i]? = some y->EqD H 20 x y (e i)):RcD H (.ref a) (.ref b) ((List.range (min xs.length ys.length)).all e&&xs.length == ys.length)
 | lt {a b:Addr} {xs ys:List V} (ha:H a=some (.lst xs)) (hb:H b=some (.tup ys)):RcD H (.ref a) (.ref b) false
 | tl {a b:Addr} {xs ys:List V} (ha:H a=some (.tup xs)) (hb:H b=some (.lst ys)):RcD H (.ref a) (.ref b) false
 | lf {a:Addr} {xs:List V} {y:V} (ha:H a=some (.lst xs)) (hy:flatV y=true):RcD H (.ref a) y false
 | fl {a:Addr} {xs:List V} {y:V} (ha:H a=some (.lst xs)) (hy:flatV y=true):RcD H y (.ref a) false
 | tf {a:Addr} {xs:List V} {y:V} (ha:H a=some (.tup xs)) (hy:flatV y=true):RcD H (.ref a) y false
 | ft {a:Addr} {xs:List V} {y:V} (ha:H a=some (.tup xs)) (hy:flatV y=true):RcD H y (.ref a) false
 | dcts {a b:Addr} (ha:H a=some (.dK [])) (hb:H b=some (.dK [])):RcD H (.ref a) (.ref b) true
 | dt {a b:Addr} {kvs:List (Key×V)} {ys:List V} (ha:H a=some (.dK kvs)) (hb:H b=some (.tup ys)):RcD H (.ref a) (.ref b) false
section
variable{X:Cx}{D4:List (Addr×Obj)}{σ:St}{H:Hp}{s:Shared}
theorem Inv.lstI(I:Inv X D4 σ H s)(h:H a=some (.lst xs)):∃ its:List Value,Vals xs its/\s.heap.IsList a its.toArray:=by
 obtain⟨z,its,n,r,_,e⟩:=I.lstM h;exact⟨its,r,_,e,rfl,n,rfl⟩
theorem Inv.tupI(I:Inv X D4 σ H s)(h:H a=some (.tup xs)):∃ its:List Value,Vals xs its/\s.heap.IsTuple a its.toArray:=by
 obtain⟨z,its,r,o,h1,h2,n,h3⟩:=I.hok a _ h;exact⟨its,r,o,h1,h2,n,h3⟩
theorem Inv.dK0(I:Inv X D4 σ H s){kvs:List (Key×V)}(h:H a=some (.dK kvs)):(a == sysModules)=false/\∃ es n,s.heap.get? a=some { cls:=.type "dict",dict:=none,data:=.dict es n,slots:=#[] }/\(kvs=[]->es = #[]):=by
 obtain⟨_,h1,vs,kv,o,es,ep,h2,⟨c1,c2,c3⟩,h3,_,pr,_⟩:=I.hok a _ h;obtain⟨oc,od,dt,sl⟩:=o;simp only at c1 c2 c3 h3;subst c1 c2 c3 h3;refine⟨h1,es,ep,h2,λ e=>?_⟩;subst e;cases kv;have e:es.toList=[]:=by
   generalize es.toList=l at pr;cases pr;rfl
 exact Array.toList_eq_nil_iff.mp e
theorem qm7(A:Around):A.in1.units<=A.units+1:=zA3 _
theorem qT6{P:V->V->Nat->Prop}{e:Nat->Bool}{ys:List V}{its its2:List Value}(r:Vals xs its)(r2:Vals ys its2)(k:∀ i x y u v,xs[i]? = some x->ys[i]? = some y->RelV x u->RelV y v->EqAt A s u v (e i)) :
   ∀ j (h1:j < its.toArray.size) (h2:j < its2.toArray.size),EqAt A s its.toArray[j] its2.toArray[j] (e j):=by
 intro j h1 h2;rw[zA2] at h1 h2;have l1:=r.length;have l2:=r2.length;obtain⟨u,hu,ru⟩:=r.get (i:=j) (x:=xs[j]'(by lia)) (by simp);obtain⟨v,hv,rv⟩:=r2.get (i:=j) (x:=ys[j]'(by lia)) (by simp);have e1:its.toArray[j]=u:=by
   have:its[j]? = some its[j]:=by simp[h1]
   rw[this] at hu;simpa using Option.some.inj hu
 have e2:its2.toArray[j]=v:=by
   have:its2[j]? = some its2[j]:=by simp[h2]
   rw[this] at hv;simpa using Option.some.inj hv
 rw[e1,e2];exact k j _ _ u v (by simp) (by simp) ru rv
theorem EqD.at(I:Inv X D4 σ H s){n:Nat}{x y:V}{b:Bool}(h:EqD H n x y b):∀{A:Around}{u v:Value},RelV x u->RelV y v->A.units+n+1 < cLine->EqAt A s u v b:=by
 induction h with
 | flat hx hy=>intro A u v rx ry _;exact qaP8 rx ry hx hy
 | same a=>intro A u v rx ry _;cases rx;cases ry;exact EqAt.same _
 | @lsts n a b xs ys e ne ha hb hl he ih =>
   intro A u v rx ry hu;cases rx;cases ry;obtain⟨its,r,p⟩:=I.lstI ha;obtain⟨its2,r2,p2⟩:=I.lstI hb;have hs:its.toArray.size=its2.toArray.size:=by rw[zA2,zA2,<- r.length,<- r2.length,hl]
   have q:=EqAt.of_refs ne (RcAt.lists (A:=A) p p2 hs (by lia) (e:=e) (qT6 (P:=λ _ _ _=>True) r r2 λ i x y u v e1 e2 ru rv=>ih i x y e1 e2 ru rv (by have:=qm7 A;lia)));rw[zA2,<- r.length] at q;exact q
 | @lens n a b xs ys ne ha hb hl =>
   intro A u v rx ry hu;cases rx;cases ry;obtain⟨its,r,p⟩:=I.lstI ha;obtain⟨its2,r2,p2⟩:=I.lstI hb;exact EqAt.of_refs ne (RcAt.lists_lengths p p2 (by rw[zA2,zA2,<- r.length,<- r2.length];simpa using hl) (by lia))
 | @tups n a b xs ys e ne ha hb he ih =>
   intro A u v rx ry hu;cases rx;cases ry;obtain⟨its,r,p⟩:=I.tupI ha;obtain⟨its2,r2,p2⟩:=I.tupI hb;have q:=EqAt.of_refs ne (RcAt.tuples (A:=A) p p2 (by lia) (e:=e) (qT6 (P:=λ _ _ _=>True) r r2 λ i x y u v e1 e2 ru rv=>ih i x y e1 e2 ru rv (by have:=qm7 A;lia)));rw[zA2,zA2,<- r.length,<- r2.length] at q;exact q
 | @dcts n a b ne ha hb =>
   intro A u v rx ry hu;cases rx;cases ry;obtain⟨h1,es,m,h2,h3⟩:=I.dK0 ha;obtain⟨k1,es',m',k2,k3⟩:=I.dK0 hb;cases h3 rfl;cases k3 rfl;exact EqAt.of_refs ne (LD.qav3 h1 k1 h2 k2 (by lia)).1
theorem RcD.at(I:Inv X D4 σ H s){x y:V}{b:Bool}(h:RcD H x y b){u v:Value}(rx:RelV x u)(ry:RelV y v)(hu:A.units+60 < cLine):RcAt A s u v b/\RcNeAt A s u v (!b):=by
 cases h with
 | flat hx hy =>
   cases x with
   | non =>
     cases rx;cases y with
     | non=>cases ry;exact⟨RcAt.none_none,RcNeAt.none_none⟩
     | bl b=>cases ry;exact⟨RcAt.none_bool b,RcNeAt.none_bool b⟩
     | int b=>obtain⟨t,rfl⟩:=ry;exact⟨RcAt.none_int b t,RcNeAt.none_int b t⟩
     | str b=>obtain⟨t,rfl⟩:=ry;exact⟨RcAt.none_str b t,RcNeAt.none_str b t⟩
     | _=>exact absurd (show false=true from hy) zAj
   | bl a =>
     cases rx;cases y with
     | non=>cases ry;exact⟨RcAt.bool_none a,RcNeAt.bool_none a⟩
     | bl b=>cases ry;exact⟨RcAt.bool_bool a b,RcNeAt.bool_bool a b⟩
     | int b=>obtain⟨t,rfl⟩:=ry;exact⟨RcAt.bool_int a b t,RcNeAt.bool_int a b t⟩
     | str b=>obtain⟨t,rfl⟩:=ry;exact⟨RcAt.bool_str a b t,RcNeAt.bool_str a b t⟩
     | _=>exact absurd (show false=true from hy) zAj
   | int a =>
     obtain⟨t',rfl⟩:=rx;cases y with
     | non=>cases ry;exact⟨RcAt.int_none a t',RcNeAt.int_none a t'⟩
     | bl b=>cases ry;exact⟨RcAt.int_bool a t' b,RcNeAt.int_bool a t' b⟩
     | int b=>obtain⟨t,rfl⟩:=ry;exact⟨RcAt.int_int a t' b t,RcNeAt.int_int a t' b t⟩
     | str b=>obtain⟨t,rfl⟩:=ry;exact⟨RcAt.int_str a t' b t,RcNeAt.int_str a t' b t⟩
     | _=>exact absurd (show false=true from hy) zAj
   | str a =>
     obtain⟨t',rfl⟩:=rx;cases y with
     | non=>cases ry;exact⟨RcAt.str_none a t',RcNeAt.str_none a t'⟩
     | bl b=>cases ry;exact⟨RcAt.str_bool a t' b,RcNeAt.str_bool a t' b⟩
     | int b=>obtain⟨t,rfl⟩:=ry;exact⟨RcAt.str_int a t' b t,RcNeAt.str_int a t' b t⟩
     | str b=>obtain⟨t,rfl⟩:=ry;exact⟨RcAt.str_str a t' b t,RcNeAt.str_str a t' b t⟩
     | _=>exact absurd (show false=true from hy) zAj
   | _=>exact absurd (show false=true from hx) zAj
 | @lsts a b xs ys e ha hb hl he =>
   cases rx;cases ry;obtain⟨its,r,p⟩:=I.lstI ha;obtain⟨its2,r2,p2⟩:=I.lstI hb;have hs:its.toArray.size=its2.toArray.size:=by rw[zA2,zA2,<- r.length,<- r2.length,hl]
   have k:=qT6 (P:=λ _ _ _=>True) (e:=e) (A:=A.in1) (s:=s) r r2 λ i x y u v e1 e2 ru rv=>(he i x y e1 e2).at I ru rv (by have:=qm7 A;lia)
   have q1:=RcAt.lists p p2 hs (by lia) k;have q2:=RcNeAt.lists p p2 hs (by lia) k;rw[zA2,<- r.length] at q1 q2;exact⟨q1,q2⟩
 | @lens a b xs ys ha hb hl =>
   cases rx;cases ry;obtain⟨its,r,p⟩:=I.lstI ha;obtain⟨its2,r2,p2⟩:=I.lstI hb;have hs:(its.toArray.size != its2.toArray.size)=true:=by rw[zA2,zA2,<- r.length,<- r2.length];simpa using hl
   exact⟨RcAt.lists_lengths p p2 hs (by lia),RcNeAt.lists_lengths p p2 hs (by lia)⟩
 | @tups a b xs ys e ha hb he =>
   cases rx;cases ry;obtain⟨its,r,p⟩:=I.tupI ha;obtain⟨its2,r2,p2⟩:=I.tupI hb;have k:=qT6 (P:=λ _ _ _=>True) (e:=e) (A:=A.in1) (s:=s) r r2 λ i x y u v e1 e2 ru rv=>(he i x y e1 e2).at I ru rv (by have:=qm7 A;lia)
   have q1:=RcAt.tuples p p2 (by lia) k;have q2:=RcNeAt.tuples p p2 (by lia) k;rw[zA2,zA2,<- r.length,<- r2.length] at q1 q2;exact⟨q1,q2⟩
 | lt ha hb =>
   cases rx;cases ry;obtain⟨its,r,p⟩:=I.lstI ha;obtain⟨its2,r2,p2⟩:=I.tupI hb;exact⟨RcAt.list_tuple p p2 (by lia),RcNeAt.list_tuple p p2 (by lia)⟩
 | tl ha hb =>
   cases rx;cases ry;obtain⟨its,r,p⟩:=I.tupI ha;obtain⟨its2,r2,p2⟩:=I.lstI hb;exact⟨RcAt.tuple_list p p2 (by lia),RcNeAt.tuple_list p p2 (by lia)⟩
 | lf ha hy =>
   cases rx;obtain⟨its,r,p⟩:=I.lstI ha;cases y with
   | non=>cases ry;exact⟨RcAt.list_none p (by lia),RcNeAt.list_none p (by lia)⟩
   | bl b=>cases ry;exact⟨RcAt.list_bool b p (by lia),RcNeAt.list_bool b p (by lia)⟩
   | int b=>obtain⟨t,rfl⟩:=ry;exact⟨RcAt.list_int b t p (by lia),RcNeAt.list_int b t p (by lia)⟩
   | str b=>obtain⟨t,rfl⟩:=ry;exact⟨RcAt.list_str b t p (by lia),RcNeAt.list_str b t p (by lia)⟩
   | _=>exact absurd (show false=true from hy) zAj
 | fl ha hy =>
   cases ry;obtain⟨its,r,p⟩:=I.lstI ha;cases x with
   | non=>cases rx;exact⟨RcAt.none_list p (by lia),RcNeAt.none_list p (by lia)⟩
   | bl b=>cases rx;exact⟨RcAt.bool_list b p (by lia),RcNeAt.bool_list b p (by lia)⟩
   | int b=>obtain⟨t,rfl⟩:=rx;exact⟨RcAt.int_list b t p (by lia),RcNeAt.int_list b t p (by lia)⟩
   | str b=>obtain⟨t,rfl⟩:=rx;exact⟨RcAt.str_list b t p (by lia),RcNeAt.str_list b t p (by lia)⟩
   | _=>exact absurd (show false=true from hy) zAj
 | tf ha hy =>
   cases rx;obtain⟨its,r,p⟩:=I.tupI ha;cases y with
   | non=>cases ry;exact⟨RcAt.tuple_none p (by lia),RcNeAt.tuple_none p (by lia)⟩
   | bl b=>cases ry;exact⟨RcAt.tuple_bool b p (by lia),RcNeAt.tuple_bool b p (by lia)⟩
   | int b=>obtain⟨t,rfl⟩:=ry;exact⟨RcAt.tuple_int b t p (by lia),RcNeAt.tuple_int b t p (by lia)⟩
   | str b=>obtain⟨t,rfl⟩:=ry;exact⟨RcAt.tuple_str b t p (by lia),RcNeAt.tuple_str b t p (by lia)⟩
   | _=>exact absurd (show false=true from hy) zAj
 | ft ha hy =>
   cases ry;obtain⟨its,r,p⟩:=I.tupI ha;cases x with
   | non=>cases rx;exact⟨RcAt.none_tuple p (by lia),RcNeAt.none_tuple p (by lia)⟩
   | bl b=>cases rx;exact⟨RcAt.bool_tuple b p (by lia),RcNeAt.bool_tuple b p (by lia)⟩
   | int b=>obtain⟨t,rfl⟩:=rx;exact⟨RcAt.int_tuple b t p (by lia),RcNeAt.int_tuple b t p (by lia)⟩
   | str b=>obtain⟨t,rfl⟩:=rx;exact⟨RcAt.str_tuple b t p (by lia),RcNeAt.str_tuple b t p (by lia)⟩
   | _=>exact absurd (show false=true from hy) zAj
 | dcts ha hb =>
   cases rx;cases ry;obtain⟨h1,es,m,h2,h3⟩:=I.dK0 ha;obtain⟨k1,es',m',k2,k3⟩:=I.dK0 hb;cases h3 rfl;cases k3 rfl;exact LD.qav3 h1 k1 h2 k2 (by lia)
 | dt ha hb =>
   cases rx;cases ry;obtain⟨h1,es,m,h2,h3⟩:=I.dK0 ha;obtain⟨its2,r2,p2⟩:=I.tupI hb;exact LD.rc_dt h2 p2 (by lia)
end
def rEqD:R2:=λ x y H Q=>∃ b,RcD H x y b/\Q (.bl b) H
def rNeD:R2:=λ x y H Q=>∃ b,RcD H x y b/\Q (.bl (!b)) H
theorem qf5{X:Cx}(hu:X.A.units+64 < cLine):OpR X (compareOp .Eq) rEqD:=by
 intro D4 s σ H x y v u Q I rx ry ⟨b,hb,q⟩;exact(hb.at I rx ry (A:=X.A) (by lia)).1 X.prog X.w X.xe _ ⟨.bl b,H,I,rfl,q⟩
theorem qt7{X:Cx}(hu:X.A.units+64 < cLine):OpR X (compareOp .NotEq) rNeD:=by
 intro D4 s σ H x y v u Q I rx ry ⟨b,hb,q⟩;exact(hb.at I rx ry (A:=X.A) (by lia)).2 X.prog X.w X.xe _ ⟨.bl (!b),H,I,rfl,q⟩
theorem qu9:∀{x:V},flatV x=true->eqV x x=true:=by
 intro x h;cases x with
 | non=>rfl
 | bl b=>simp[eqV]
 | int b=>simp[eqV]
 | str b=>simp[eqV]
 | _=>exact absurd (show false=true from h) zAj
theorem Room.u64{k:Nat}(hr:Room k A):A.units+64 < cLine:=hr.units
end L2
namespace L2
open PySem PySem.Spec PyProof.Rows
variable{Q:Unit->Shared->Prop}{vs:Array Value}
section
variable{prog:Program}{w:World}{A:Around}{E:Value->Shared->Prop}{s:Shared}
theorem qZ7{l b sl:Addr}{items new:Array Value}{n n2:Nat}{vl vu:Value}(e:s.heap.get? l=some { cls:=.type "list",data:=.seq items n })(e2:s.heap.get? b=some { cls:=.type "list",data:=.seq new n2 })(hne:l≠b)(hs:s.heap.IsSliceOf sl vl vu .none)(pl:IsPart vl none)(pu:IsPart vu none)(hsz:items.size+new.size<=sizeLine)(h:Q () { s with heap:=s.heap.update l (Obj.mapSeq λ xs=>xs.extract 0 0++new++xs.extract items.size xs.size) }) :
   wpAny (model prog w) A (setItem (.ref l) (.ref sl) (.ref b)) Q E s:=by
 have hl:s.heap.IsList l items:=PySem.IsL.isList e;have hb:s.heap.IsList b new:=PySem.IsL.isList e2;obtain⟨os,hos,hcs,hds⟩:=id hs;have hTs:s.TypeIs (.ref sl) "slice" := ⟨os,hos,hcs⟩
 have hstep:¬ ((rawPart none == rawInt 0)=true):=zAj;have hsame:Builtin.List.listSameRef (.ref l) (.ref b)=false:=by
   unfold Builtin.List.listSameRef;exact zBj.mpr hne
 have hmax:(max (0:Int) (items.size:Int)).toNat=items.size:=by lia
 have hz':((λ xs:Array Value=>xs.extract 0 0++new++xs.extract items.size xs.size) items).size<=sizeLine+1:=by
   simp only[Array.size_append,Array.size_extract];lia
 unfold setItem
 try with_reducible refine wpAny_holding ?_
 first | refine wpAny_bind (wpAny_pure ?_) | skip
 refine wpAny_bind (wpAny_sequenceKey hl.typeIs (by decide) ?_);refine wpAny_bind (wpAny_callSpecial?_slot (name:=Str.ofString "__setitem__") hl.typeIs slot_list_setitem
   (wpAny_call_entry slot_list_setitem hl.typeIs entry_list_setitem ?_ (args_list_setitem _ _ _)))
 show wpAny _ _ (Builtin.List.listSubscript? (.ref sl) >>= _) _ _ s;refine wpAny_bind ?_;unfold Builtin.List.listSubscript?;refine wpAny_bind (wpAny_specialOf hTs slice_no_index ?_);simp only[Option.isNone_none,if_true];refine wpAny_pure ?_;show wpAny _ _ (typeOf (.ref sl) >>= _) _ _ s;refine wpAny_bind (wpAny_typeOf hTs ?_)
 first
   | rw[if_neg (by decide)]
   | refine PySem.W.KFB.if_not (by decide) ?_
 rw[listSliceParts_eq];refine wpAny_bind (wpAny_bind (wpAny_field hos hds (x:=.none) rfl (wpAny_bind (wpAny_listPart .none ?_))));rw[if_neg hstep];refine wpAny_bind (wpAny_field hos hds (x:=vl) rfl (wpAny_bind (wpAny_listPart pl ?_)));refine wpAny_bind (wpAny_field hos hds (x:=vu) rfl (wpAny_bind (wpAny_listPart pu (wpAny_pure ?_))))
 first
   | simp only[hsame,Bool.false_eq_true,if_false]
   | refine PySem.W.KFB.if_not hsame ?_
   | (dsimp only
      rw[if_neg (by rw[hsame];exact zAj)])
 refine wpAny_bind (m:=Builtin.List.listAllItems (.ref b) "must assign iterable to extended slice") ?_;unfold Builtin.List.listAllItems;refine wpAny_bind (wpAny_typeOf hb.typeIs ?_)
 first
   | refine PySem.W.KFB.if_so (by decide) ?_
   | rw[if_pos (by decide)]
   | simp only[zBe,Bool.true_or,if_true]
 unfold Builtin.List.listItems;refine wpAny_bind (wpAny_seqItems e2 rfl (wpAny_pure ?_));refine wpAny_bind (wpAny_bind (wpAny_seqItems e rfl (wpAny_pure ?_)));refine wpAny_bind (wpAny_of_eq (sliceIndices_raw none none none items.size (by simp)) ?_);show wpAny _ _ (if ((1:Int) == 1)=true then _ else _) _ _ s;rw[if_pos (by decide)];refine wpAny_bind (wpAny_rule ?_)
 first
   | simp only[qR2 hsz,Bool.false_eq_true,if_false]
   | refine PySem.W.KFB.if_not (qR2 hsz) ?_
 first | refine wpAny_bind (wpAny_pure ?_) | skip
 show wpAny _ _ (updateSeq l (λ xs=>xs.extract 0 ((0:Int)).toNat++new++xs.extract (max (0:Int) (items.size:Int)).toNat xs.size) >>= _) _ _ s;rw[hmax,show ((0:Int)).toNat=0 from rfl];refine wpAny_bind (wpAny_updateSeq (hz:=zAp (Nat.le_add_right _ _) hsz) (_hz':=hz') e rfl ?_);refine wpAny_bind (wpAny_letGo ?_)
 first
   | exact wpAny_bind (wpAny_pure (wpAny_pure ⟨.none,rfl,wpAny_pure h⟩))
   | exact wpAny_pure ⟨.none,rfl,wpAny_pure h⟩
end
section
variable{X:Cx}
def gAll(to:TE):TG:=λ v σ H Q=>to σ H λ o H1=>∃ l b xs ys,o=.ref l/\v=.ref b/\l≠b/\H1 l=some (.lst xs)/\H1 b=some (.lst ys)/\xs.length+ys.length<=sizeLine/\Q σ (upd H1 l (.lst ys))
theorem qaS9{o:Expr}{to:TE}{p2 pos:Pos}(ho:PE X o to):PG X (.Subscript o (.Slice none none none p2) pos) (gAll to):=by
 intro D4 s σ H v u Q I r h;rw[assign_Subscript];refine wpAny_bind (wpAny_holding (thn (ho D4 s σ H _ I h) λ ov s1 ⟨x,H1,I1,r1,q1⟩=>?_));obtain⟨l,b,xs,ys,rfl,rfl,hne,hl,hb,hz,q⟩:=q1;cases r1;cases r;refine wpAny_bind (wpAny_holding (wpAny_Slice ?_));simp only[evalPart_none];refine wpAny_pure (wpAny_pure (wpAny_pure ?_));refine wpAny_bind (wpAny_standAt (wpAny_bind (wpAny_holding ?_)));have I2:Inv X D4 σ H1 { s1 with heap:=s1.heap.push { cls:=.type "slice",data:=.fields #[.none,.none,.none] } }:=I1.kept (t':=s1.toks) λ b ob q=>zA5 _ q
 obtain⟨z,its,n,rv,hlen,e⟩:=I2.lstM hl;obtain⟨z2,its2,n2,rv2,hlen2,e2⟩:=I2.lstM hb;refine qZ7 e e2 hne (Heap.IsSliceOf.new ..) .none .none (by rw[zA2,zA2];lia) (wpAny_release ⟨σ,_,?_,q⟩);refine I2.lset (its':=its2) (t':=s1.toks) hl e ?_ rv2 z2;rw[zA2]
 have:=qao0 its its2 0 its.length
 rw[show its.toArray.size=its.length from zA2 ..] at this;simpa using this
def qav4:V->List V->Hp->VK->Prop:=λ x vs H Q=>∃ l xs y i,x=.ref l/\vs=[.int i,y]/\H l=some (.lst xs)/\0<=i/\i < 2 ^ 63/\xs.length < sizeLine/\Q .non (upd H l (.lst (xs.take i.toNat++y::xs.drop i.toNat)))
theorem qap8:MtM X "list.insert" qav4:=by
 intro D4 s σ H x vs v us Q I rx rv h;obtain⟨l,xs,y,i,rfl,rfl,hH,h0,h1,hz,q⟩:=h;cases rx;obtain⟨ui,u,rfl,ri,ru⟩:=rv.two;obtain⟨t,rfl⟩:=ri;obtain⟨z,its,n,r,hl,e⟩:=I.lstM hH;have hfit:¬ (!Builtin.List.listFitsIndex i)=true:=by
   unfold Builtin.List.listFitsIndex;rw[zAe (show -(2 ^ 63:Int)<=i by lia),zAe (show i < 2 ^ 63 by lia)];decide
 refine call_meets F.slot_list_insert ⟨_,e,rfl⟩ F.entry_list_insert (F.args_list_insert_3 _ _ _) (PySem.AutoListH.list_insert_list_int_val_1 l its.toArray n i t u hfit (by rw[zA2];lia)) ⟨e,?_⟩;refine⟨.non,_,I.lset (its':=its.take i.toNat++u::its.drop i.toNat) hH e ?_ ((r.take _).append (.cons ru (r.drop _))) ?_,rfl,q⟩
 . dsimp only
   rw[if_neg (by lia),zA2];apply Array.toList_inj.mp;simp;by_cases hi:i.toNat<=its.length
   . rw[Nat.min_eq_left hi,List.append_cancel_left_eq]
     rw[zBa (by simp)]
   have hg:its.length<=i.toNat:=by lia
   rw[Nat.min_eq_right hg];simp[zBa hg,List.drop_of_length_le hg]
 rw[zA8,zAo,zBu,List.length_drop];lia
end
structure Cl(K:PySem.W.Frag)(mg:Str->Option Value)(x:Str)(C:Addr):Prop where
 cl:Cls K C
 m:mg x=some (.ref C)
structure Md(K:PySem.W.Frag)(C:Addr)(m qual:Str)(st:Stmt)(f:Addr)(fd:FuncData)(ps:List Str):Prop where
 F:Fun K m qual st f fd
 b:Binds K fd ps []
 me:Ie K C m f
 isf:PySem.W.isFn K (.ref f)=true
theorem mdmk{K:PySem.W.Frag}{C:Addr}{m qual:Str}{st:Stmt}{f:Addr}{ps:List Str}{oc:Value}{od an:Option Addr}{osl:Array (Option Value)}{kV doc pm cdv ct:Value}(l:K.lookup f=some ⟨oc,od,.func (PySem.W.fnOf m qual (qf2 st) (qc8 st) (qa3 st) .none kV doc pm an cdv ct),osl⟩)(c:PySem.W.codeIn K cdv qual=true)(k:PySem.W.keepIn K (.ref f)=true)(a:PySem.W.findIn K (.ref C) m=some (some (.ref f)))(i:PySem.W.isFn K (.ref f)=true)(h:∀(kV doc pm:Value)(an:Option Addr)(cdv ct:Value)(us:List Value),us.length=ps.length->bindArgs (PySem.W.fnOf m qual (qf2 st) (qc8 st) (qa3 st) .none kV doc pm an cdv ct) ⟨us,[]⟩=pure (ps.zip us)) :
   Md K C m qual st f (PySem.W.fnOf m qual (qf2 st) (qc8 st) (qa3 st) .none kV doc pm an cdv ct) ps:=⟨qar5 l c k,(qar5 l c k).binds h,⟨a,i,k⟩,i⟩
section
variable{M:Model}{A:Around}{E:Value->Shared->Prop}{s:Shared}
structure Left(h h':Heap)(f:List Addr)(e T:Addr)(oe:Obj)(old:Option Value):Prop where
 new:h.objs.size<=T
 keep:∀ b o,h.get? b=some o->b≠e->old≠some (.ref b)->b∉f->h'.get? b=some o
 slot:∀ b o,h.get? b=some o->b∈f->∃ sl,h'.get? b=some { o with slots:=sl }
 there:∀ b o,h.get? b=some o->∃ o',h'.get? b=some o'
 exc:∃ vs oT ts,h'.get? e=some { oe with data:=.fields vs }/\1 < vs.size/\vs[1]? = some (.ref T)/\T≠e/\h'.get? T=some oT/\oT.data=.fields ts/\ts[3]? = some .none
theorem qax1{o:Obj}(hd:o.data=.fields vs)(g:Array Value->Array Value):Obj.mapFields g o={ o with data:=.fields (g vs) }:=by
 obtain⟨a,b,c,d⟩:=o;cases hd;rfl
theorem qM7{base:Heap}{env:Env}{outer:List Env}{L e:Addr}{oe:Obj}{head:Value}{hn:Bool}{old:Option Value}(hfr:A.frames=some (env::outer))(hl:s.heap.FunFrames base (env::outer))(hf:env.frame=some L)(he:s.heap.get? e=some oe)(hd:oe.data=.fields vs)(hsz:1 < vs.size)(h:∀ h' T,Left s.heap h' ((env::outer).filterMap (·.frame)) e T oe old->Q () { s with heap:=h' }) :
   wpAny M A (do let a <- frameOf env;let pl <- entryPlaceOf L hn;let b <- EntryCells.newEntry head a .none (rawInt L) .none pl;setField (.ref e) 1 b)
     (λ _ s'=>wpAny M A (setFlight (.ref e) none) Q E s') E s:=by
 have nfr:∀ b o ws,s.heap.get? b=some o->o.data=.fields ws->b∉(env::outer).filterMap (·.frame):=λ b o ws q1 q2 hm=>by
   obtain⟨_,o',q3,q4⟩:=hl.mem hm;rw[q1] at q3;cases q3;exact q4 ws q2
 refine wpAny_bind (wpAny_frameOf_fun hfr hl hf λ g1 q1=>?_);refine wpAny_bind (wpAny_entryPlaceOf λ pl isp=>?_);unfold EntryCells.newEntry newFields;refine wpAny_bind (wpAny_newObj_type ?_ (isp.sizeOk5 _ _ _ _ _));obtain⟨qs,qk,qu⟩:=q1;have e1:g1.get? e=some oe:=(qk e (nfr e oe vs he hd)).trans he;generalize hto:({ cls:=.type "traceback",dict:=none,data:=.fields ([head,.ref L,.none,rawInt L,.none]++(if pl.isEmpty then List.replicate 6 Value.none else pl)).toArray }:Obj)=oT;have dT:∃ ts,oT.data=.fields ts/\3 < ts.size:=by
   refine⟨([head,.ref L,.none,rawInt L,.none]++(if pl.isEmpty then List.replicate 6 Value.none else pl)).toArray,by rw[<- hto],?_⟩;simp only[zA2,zA8,zAo,zC9];lia
 have nf:oT.isFreed=false:=by rw[<- hto];rfl
 obtain⟨ts,dT,d3⟩:=dT;have e2:=zA5 (h:=g1) oT e1;refine wpAny_setField e2 hd hsz ?_;have ne:g1.objs.size≠e:=Nat.ne_of_gt (zAd e1);have d4:=Obj.data_mapFields hd (·.setIfInBounds 1 (Value.ref g1.objs.size));have e3:=Heap.get?_update_self (Obj.mapFields (·.setIfInBounds 1 (Value.ref g1.objs.size))) e2 (Obj.isFreed_of_fields d4);have t3:((g1.push oT).update e (Obj.mapFields (·.setIfInBounds 1 (Value.ref g1.objs.size)))).get? g1.objs.size=some oT:=(zBg _ _ (Ne.symm ne)).trans (zAu g1 nf);unfold setFlight;refine wpAny_bind (wpAny_field e3 d4 (x:=.ref g1.objs.size) (by simp[hsz]) ?_);rw[if_pos (show (Value.ref g1.objs.size != Value.none)=true from by simp)];refine wpAny_setField t3 dT d3 (h _ g1.objs.size ?_);have keep:∀ b o,b≠e->g1.get? b=some o->(((g1.push oT).update e (Obj.mapFields (·.setIfInBounds 1 (Value.ref g1.objs.size)))).update g1.objs.size (Obj.mapFields (·.setIfInBounds 3 ((none:Option Addr).elim Value.none λ f=>rawInt f)))).get? b=some o:=λ b o n1 n2=>by
   rw[zBg _ _ (Nat.ne_of_gt (zAd n2)),zBg _ _ (Ne.symm n1)];exact zA5 _ n2
 have ee:(((g1.push oT).update e (Obj.mapFields (·.setIfInBounds 1 (Value.ref g1.objs.size)))).update g1.objs.size (Obj.mapFields (·.setIfInBounds 3 ((none:Option Addr).elim Value.none λ f=>rawInt f)))).get? e=some { oe with data:=.fields (vs.setIfInBounds 1 (Value.ref g1.objs.size)) }:=by
   rw[zBg _ _ ne,e3,qax1 hd]
 refine⟨Nat.le_of_eq qs.symm,λ b o hb n1 n2 n3=>keep b o n1 ((qk b n3).trans hb),λ b o hb hm=>?_,λ b o hb=>?_,_,_,_,ee,by simpa using hsz,by simp[hsz],ne,Heap.get?_update_self _ t3 (Obj.isFreed_of_fields (Obj.data_mapFields dT _)),Obj.data_mapFields dT _,by simp[d3]⟩
 . obtain⟨sl,hs⟩:=qu b o hb
   refine⟨sl,keep b _ (λ z=>?_) hs⟩;subst z;rw[he] at hb;cases hb;exact nfr b _ vs he hd hm
 obtain⟨sl,hs⟩:=qu b o hb;by_cases z:b=e
 . subst z;exact⟨_,ee⟩
 exact⟨_,keep b _ z hs⟩
theorem qah7{base:Heap}{env:Env}{outer:List Env}{L e:Addr}{oe:Obj}(hfr:A.frames=some (env::outer))(hl:s.heap.FunFrames base (env::outer))(hf:env.frame=some L)(he:s.heap.get? e=some oe)(hd:oe.data=.fields vs)(hsz:1 < vs.size)(ht:vs[1]? = some .none∨∃ T oT ts,vs[1]? = some (.ref T)/\T≠e/\s.heap.get? T=some oT/\oT.data=.fields ts/\ts[3]? = some .none)(h:∀ h' T,Left s.heap h' ((env::outer).filterMap (·.frame)) e T oe vs[1]? -> Q () { s with heap:=h' }) :
   wpAny M A (noteFrame (.ref e) env) (λ _ s'=>wpAny M A (setFlight (.ref e) none) Q E s') E s:=by
 unfold noteFrame;simp only[hf];rcases ht with h1 | ⟨T,oT,ts,h1,hTe,hT,dT,h3⟩
 . refine wpAny_bind (wpAny_field he hd h1 ?_)
   rw[if_neg (by decide)];exact qM7 (old:=vs[1]?) hfr hl hf he hd hsz h
 refine wpAny_bind (wpAny_field he hd h1 ?_);rw[if_pos (show (Value.ref T != Value.none)=true from by simp)];refine wpAny_bind (wpAny_field hT dT h3 ?_);rw[if_neg (show ¬ ((Value.none == rawInt L)=true) from by simp[rawInt])];have h4:=(Array.getElem?_eq_some_iff.mp h3).1;refine wpAny_bind (wpAny_setField hT dT h4 ?_);have other:∀ b,b≠T->(s.heap.update T (Obj.mapFields (·.setIfInBounds 3 Value.none))).get? b=s.heap.get? b:=λ b hb=>zBg _ _ (Ne.symm hb)
 have nT:∀ b∈(env::outer).filterMap (·.frame),b≠T:=λ b hm z=>by
   obtain⟨_,o',q3,q4⟩:=hl.mem hm;subst z;rw[hT] at q3;cases q3;exact q4 ts dT
 have sT:(s.heap.update T (Obj.mapFields (·.setIfInBounds 3 Value.none))).get? T=some { oT with data:=.fields (ts.setIfInBounds 3 .none) }:=by
   rw[Heap.get?_update_self _ hT (Obj.isFreed_of_fields (Obj.data_mapFields dT _)),qax1 dT]
 have hl':(s.heap.update T (Obj.mapFields (·.setIfInBounds 3 Value.none))).FunFrames base (env::outer):=hl.of_keeps λ b o hb hnf=>⟨o,(other b λ z=>by subst z;rw[hT] at hb;cases hb;exact hnf ts dT).trans hb,rfl⟩
 refine qM7 (s:={ s with heap:=s.heap.update T (Obj.mapFields (·.setIfInBounds 3 Value.none)) }) (old:=vs[1]?) hfr hl' hf ((other e (Ne.symm hTe)).trans he) hd hsz λ h' T' q=>h h' T' ?_
 obtain⟨q1,q2,q3,q4,q5⟩:=q;refine⟨by rwa[show (s.heap.update T (Obj.mapFields (·.setIfInBounds 3 Value.none))).objs.size=s.heap.objs.size from Heap.size_update _ _ _] at q1,λ b o hb n1 n2 n3=>?_,λ b o hb hm=>q3 b o ((other b (nT b hm)).trans hb) hm,λ b o hb=>?_,q5⟩
 . exact q2 b o ((other b λ z=>n2 (by rw[h1,z])).trans hb) n1 n2 n3
 by_cases z:b=T
 . subst z;exact q4 _ _ sT
 exact q4 b o ((other b z).trans hb)
end
end L2
namespace L2
open PySem PySem.Spec PyProof.Rows Builtin Builtin.ObjectAttr
end L2
namespace L2
open PySem PySem.Spec PyProof.Rows
def Il(e C:Addr)(od:Option Addr)(fr:Bool)(h:Heap):Prop:=∃ oe vs,h.get? e=some oe/\oe.cls=.ref C/\oe.dict=od/\oe.data=.fields vs/\1 < vs.size/\(fr=true->vs[1]? = some .none)
abbrev ExcO(e C:Addr)(od:Option Addr)(fr:Bool):HO:=.ext (Il e C od fr)
def xdIs(d:Addr)(fs:List (Str×V))(h:Heap):Prop:=∃ mA,h.Ns1 d mA/\(∀ f,RelO (fs.lookup f) (mA f))/\PySem.Within mA (fs.map (·.1))/\fs.length<=1000
abbrev XD(d:Addr)(fs:List (Str×V)):HO:=.ext (xdIs d fs)
section
variable{P:Program}{w:World}{H:Hp}{h:Heap}
theorem qaW7{e C:Addr}{od:Option Addr}{fr:Bool}(q:Il e C od fr h):ObjOk P w H h e (ExcO e C od fr) :=
 ⟨q,let ⟨oe,_,a,_⟩:=q;⟨oe,a⟩,λ h1 h2 ⟨oe,vs,a,b⟩ k=>⟨oe,vs,k _ a,b⟩⟩
theorem qaW8{e C:Addr}{od:Option Addr}{fr:Bool}(ok:HOk P w H h)(q:H e=some (ExcO e C od fr)):Il e C od fr h:=(ok e _ q).1
end
structure Fly(n:Nat)(H:Hp)(h:Heap)(a:Addr):Prop where
 ge:n<=a
 tr:∃ C od,H a=some (ExcO a C od false)
 ob:∃ oe vs,h.get? a=some oe/\oe.data=.fields vs/\1 < vs.size/\(vs[1]? = some .none∨∃ T oT ts,vs[1]? = some (.ref T)/\n<=T/\H T=none/\T≠a/\h.get? T=some oT/\oT.data=.fields ts/\ts[3]? = some .none)
theorem Fly.mono{m n:Nat}{H:Hp}{h:Heap}{a:Addr}(F:Fly n H h a)(l:m<=n):Fly m H h a:=by
 obtain⟨oe,vs,h1,h2,h3,h4⟩:=F.ob;refine⟨zAp l F.ge,F.tr,oe,vs,h1,h2,h3,?_⟩;rcases h4 with z | ⟨T,oT,ts,z1,z2,z⟩
 . exact .inl z
 exact .inr ⟨T,oT,ts,z1,zAp l z2,z⟩
def CX1(P:Program)(w:World):CXT:=λ outer H s E e s'=>∃ a H',e=.ref a/\s'.os=s.os/\AllBare s'.gens/\Un (frs outer) [] H H' s.heap s'.heap/\HOk P w H' s'.heap/\Fly s.heap.objs.size H' s'.heap a/\E e none H'
structure Old(X:Cx)(D4:List (Addr×Obj))(n:Nat):Prop where
 st:X.s₀.heap.objs.size<=n
 loc:X.env.locals < n
 cell:∀ x c,X.env.cells.lookup x=some c->c < n
 pin:∀ p∈X.pn++D4,p.1 < n
theorem Inv.old{X:Cx}{D4:List (Addr×Obj)}{σ:St}{H:Hp}{s:Shared}(I:Inv X D4 σ H s):Old X D4 s.heap.objs.size :=
 ⟨I.sz,I.lt,λ x c e=>let ⟨_,_,z,_⟩:=I.cell x c e;zAd z,λ p hp=>zAd (I.pin p hp).1⟩
def Gc:Option Value->List Addr
 | some (.ref b)=>[b]
 | _=>[]
section
variable{X:Cx}{D4:List (Addr×Obj)}{σ:St}{H:Hp}{s:Shared}{a T:Addr}{n:Nat}{h':Heap}{oe:Obj}{vs:Array Value}
theorem Inv.left(I:Inv X D4 σ H s)(F:Fly n H s.heap a)(O:Old X D4 n)(he:s.heap.get? a=some oe)(hd:oe.data=.fields vs)(L:Left s.heap h' (frs X.stack) a T oe vs[1]?) :
   Inv X D4 σ H { s with heap:=h' }/\Fly n H h' a:=by
 obtain⟨C,od,tr⟩:=F.tr;obtain⟨oe',vs',q1,q2,q3,q4⟩:=F.ob;rw[he] at q1;cases q1;rw[hd] at q2;cases q2;obtain⟨ws,oT,ts,e1,e2,e3,e4,e5,e6,e7⟩:=L.exc;have old:∀ b,vs[1]? = some (.ref b)->n<=b/\H b=none/\b≠a:=λ b z=>by
   rcases q4 with q | ⟨T',_,_,q,r1,r2,r3,_⟩
   . rw[q] at z;cases z
   rw[q] at z;cases z;exact⟨r1,r2,r3⟩
 have hok:HOk X.prog X.w H h':=λ b u hb=>by
   by_cases z:b=a
   . subst z
     rw[tr] at hb;cases hb;obtain⟨oe',vs',p1,p2,p3,p4,p5,p6⟩:=qaW8 I.hok tr;rw[he] at p1;cases p1;exact qaW7 ⟨_,ws,e1,p2,p3,rfl,e2,λ z=>nomatch z⟩
   have nn:∀ c,H c≠none->c∉frs X.stack:=λ c hc hm=>hc (I.stkFree c hm)
   refine(I.hok b u hb).stay (λ c v hc r=>L.keep c v r ?_ (λ z'=>?_) ?_) (λ _ z=>z) λ _ _ z=>z
   . rcases hc with rfl | hc
     . exact z
     intro z';rw[z',tr] at hc;cases hc
   . have:=(old c z').2.1
     rcases hc with rfl | hc
     . rw[this] at hb;cases hb
     rw[this] at hc;cases hc
   rcases hc with rfl | hc
   . exact nn c (by rw[hb];exact λ z=>nomatch z)
   exact nn c (by rw[hc];exact λ z=>nomatch z)
 refine⟨?_,F.ge,⟨C,od,tr⟩,_,ws,e1,rfl,e2,.inr ⟨T,oT,ts,e3,zAp (zAp F.ge (Nat.le_of_lt (zAd he))) L.new,I.hok.fresh L.new,e4,e5,e6,e7⟩⟩;have hch:∀ b,b∈Gc vs[1]? ↔ vs[1]? = some (.ref b):=λ b=>by
   rcases q4 with q | ⟨T',_,_,q,_⟩
   . rw[q];simp[Gc]
   rw[q];simp[Gc,eq_comm]
 have U:Un (frs X.stack) (Gc vs[1]?) H H s.heap h':=by
   refine⟨λ b o z n1 n2 n3=>L.keep b o z (λ z'=>?_) (λ z'=>n3 ((hch b).mpr z')) n2,λ b o z n1 n2 n3=>L.slot b o z n2,λ _ _ _ n1 _=>n1,λ b o z _=>L.there b o z,λ _ _ z=>z,λ _ _ _ z=>z,λ b ps z=>⟨#[],by rw[z];simp⟩⟩;rw[z',tr] at n1;cases n1
 exact I.call (g':=s.gens) (t':=s.toks) (d':=s.drawn) (ch:=Gc vs[1]?) U hok I.bare λ b hb=>by
   have g:=(old b ((hch b).mp hb)).1;refine⟨.inr (zAp O.st g),Nat.ne_of_gt (zAk O.loc g),λ x c e=>zAn (zAk (O.cell x c e) g),λ p hp=>zAn (zAk (O.pin p hp) g)⟩
end
def Lands(X:Cx)(E:XK):Prop:=∀(D4:List (Addr×Obj))(σ:St)(H:Hp)(s:Shared)(a:Addr)(n:Nat),Inv X D4 σ H s->Fly n H s.heap a->Old X D4 n->E (.ref a) none H->X.xe (.ref a) s
theorem Lands.passes{X:Cx}{E:XK}(h:Lands X E):qN4 (CX1 X.prog X.w) X E:=λ D4 σ H s e s' I q=>by
 obtain⟨a,H',rfl,o1,o2,u,ok,F,q⟩:=q;exact h D4 σ H' s' a _ (I.call' (ch:=[]) o1 u ok o2 λ _ z=>nomatch z) F I.old q
theorem qa1{P:Program}{w:World}{K:PySem.W.Frag}{mg:Str->Option Value}{base:Heap}{N:List Str}{qual:Str}{scope:Scope}{f:Addr}{cd:Value}{A:Around}{outer:List Env}{s₀:Shared}{H₀:Hp}{E:XK} :
   Lands (D9 (CX1 P w) P w K mg base N qual scope f cd A outer s₀ H₀ E) E:=λ D4 σ H s a n I F O q=>by
 obtain⟨oe,vs,h1,h2,h3,h4⟩:=id F.ob;show wpAny _ _ (leaving _ _) _ _ s;unfold leaving;refine wpAny_bind (qah7 (base:=base) (vs:=vs) I.ok.frames I.stack rfl h1 h2 h3 ?_ λ h' T L=>?_)
 . rcases h4 with z | ⟨T,oT,ts,z1,_,_,z2,z3,z4,z5⟩
   . exact .inl z
   exact .inr ⟨T,oT,ts,z1,z2,z3,z4,z5⟩
 obtain⟨J,F'⟩:=I.left (T:=T) F O h1 h2 L;exact⟨a,H,rfl,J.os,J.bare,J.base,J.hok,F'.mono O.st,q⟩
end L2
namespace L2
open PySem PySem.Spec PyProof.Rows PySem.SeqAt
open PySem.AutoSeq1 (wpAny_loadPart')
theorem Fun.okX{P:Program}{w:World}{K:PySem.W.Frag}{mg:Str->Option Value}{base:Heap}{x qual:Str}{st:Stmt}{f:Addr}{fd:FuncData}{N ps:List Str}{k:Nat}{sp:Sp}(F:Fun K x qual st f fd)(S:qa9 N ps (qa3 st))(len:∀ vs H Q E,sp vs H Q E->vs.length=ps.length)(hbody:∀(cdv:Value)(A:Around)(outer:List Env)(s:Shared)(H:Hp)(vs:List V)(Q:VK)(E:XK),Room k (A.deeper (envOfC qual (qa3 st) s.heap.objs.size f cdv))->sp vs H Q E ->
     ∃ t,PSs (D9 (CX1 P w) P w K mg base N qual (qa3 st) f cdv A outer s H E) (qc8 st) t/\t { nx:=λ _ H'=>Q .non H',rt:=Q } (start N vs) H):Bq P w K mg base (CX1 P w) (k+1) f fd ps sp:=by
 obtain⟨oc,od,kV,doc,pm,an,cdv,ct,osl,rfl,lk,hcd⟩:=F.ex;exact Ii lk hcd S len λ A outer s H vs Q E hr hsp=>hbody cdv A outer s H vs Q E hr hsp
end L2
namespace L2
open PySem PySem.Spec PyProof.Rows
section
variable{X:Cx}{D4:List (Addr×Obj)}{σ:St}{H:Hp}{s:Shared}{h':Heap}
theorem Inv.turnedL{t':Nat}{ch:List Addr}(I:Inv X D4 σ H s)(k:∀ b o,b∉ch->s.heap.get? b=some o->h'.get? b=some o)(hf:∀ b∈ch,F4 X D4 H b):Inv X D4 σ H { s with heap:=h',toks:=t' }:=by
 have nit:∀ b u,H b=some u->b∉ch:=λ b u e z=>by rw[(hf b z).1] at e;cases e
 refine I.step (g':=s.gens) (d':=s.drawn) (ch:=ch) (λ b hb=>?_) (λ b o _ _ hc e _=>k b o hc e) (λ b o _ _ hc e _=>⟨o.slots,k b o hc e⟩) (λ _ _ _ _ n=>n)
   (λ b o hc e=>⟨o,k b o hc e⟩) (λ _ _ e=>e) (λ _ _ _ e=>e) (λ b ps e=>⟨#[],by rw[e];simp⟩) (λ m hm=>?_) (λ b u e=>?_) I.bare
 . obtain⟨f0,f1,f2,f3,f4,f5⟩:=hf b hb
   exact⟨f3,f1,f4,f5⟩
 . obtain⟨o,es,ep,ho,r⟩:=hm
   exact⟨o,es,ep,k _ o (λ z=>(hf _ z).2.1 rfl) ho,r⟩
 refine(I.hok b u e).stay (λ c v hc q=>k c v ?_ q) (λ _ q=>q) λ _ _ q=>q
 rcases hc with z | z
 . rw[z];exact nit b u e
 exact nit c _ z
end
def Ite(K:PySem.W.Frag)(a:Addr):It :=
 ⟨λ i H=>∃ xs x,SqL K H a xs/\xs[i]? = some x,λ i H x H'=>∃ t y,x=.ref t/\H t=none/\H'=upd H t (.tup [.int (i:Int),y])/\∀ xs,SqL K H a xs->xs[i]? = some y,λ i H=>∃ xs,SqL K H a xs/\xs.length<=i⟩
theorem qan4{P:Program}{w:World}{K:PySem.W.Frag}{elts:List Expr}{x1:Nat}{pos:Pos}(a it e:Addr)(hne:e≠it):Ic P w K (.Tuple elts x1 pos) (Ite K a) [e,it] e (λ i h=>(∃ old,IsEnum h e it (i:Nat) old)/\h.IsListIter it a i) where
 mem:=by simp
 obj:=λ i h st b hb=>by
   obtain⟨⟨old,he⟩,o,ho,hc,hd⟩:=st;rcases zAi.mp hb with rfl | hb
   . exact⟨_,he,λ v z=>by
       have z':Data.fields _=Data.cell v:=z;cases z'⟩
   rw[zAm.mp hb];exact⟨o,ho,λ v z=>by rw[hd] at z;cases z⟩
 keep:=λ i h h' st k=>by
   obtain⟨⟨old,he⟩,st⟩:=st;exact⟨⟨old,k e (by simp) _ he⟩,st.at λ o q=>k it (by simp) o q⟩
 item:=by
   intro X hP hw hK hc i D4 s σ H E I hf st hg;subst hP hw hK;obtain⟨xs,x,hq,hx⟩:=hg;obtain⟨⟨old,he⟩,hit⟩:=st;obtain⟨its,rv,p,hz⟩:=I.list hq;obtain⟨u,hu,ru⟩:=rv.get hx;have hfr:H s.heap.objs.size=none:=I.hok.fresh (zA3 _);obtain⟨oi,hoi,_⟩:=id hit;have lt1:e < s.heap.objs.size:=zAd he;have lt2:it < s.heap.objs.size:=zAd hoi;refine wpAny_pyNext_enum_item he hit p.isList (x:=u) (by simpa using hu) hne λ h1 heo hit1 ht1 hz1 hk1=>?_
   refine⟨_,rfl,wpAny_letOwnedTupleGo_enum (s:={ s with heap:=h1,toks:=s.toks+1 }) heo λ h2 he2 hs2=>?_⟩
   replace hs2:Heap.SameBut e h1 h2:=hs2
   have I0:Inv X D4 σ (upd H s.heap.objs.size (.tup [.int (i:Int),x])) { s with heap:=s.heap.push { cls:=.type "tuple",data:=.seq #[.int i s.toks,u] },toks:=s.toks+1 } :=
     I.laid (λ b o q=>zA5 _ q) (zA3 _) ⟨by show 2<=sizeLine;decide,[.int i s.toks,u],.cons ⟨_,rfl⟩ (.cons ru .nil),⟨_,zAu _ rfl,rfl,_,rfl⟩⟩
   have I2:Inv X D4 σ (upd H s.heap.objs.size (.tup [.int (i:Int),x])) { s with heap:=h2,toks:=s.toks+1 }:=by
     refine Inv.turnedL (s:={ s with heap:=s.heap.push { cls:=.type "tuple",data:=.seq #[.int i s.toks,u] },toks:=s.toks+1 }) (h':=h2) (ch:=[e,it]) (t':=s.toks+1) I0 (λ b o hb q=>?_) (λ b hb=>?_)
     . have nb1:b≠e:=λ z=>hb (by simp[z])
       have nb2:b≠it:=λ z=>hb (by simp[z])
       refine hs2.extBut b o nb1 ?_;rcases Heap.get?_push_cases (show (s.heap.push { cls:=.type "tuple",data:=.seq #[.int i s.toks,u] }).get? b=some o from q) with⟨rfl,rfl⟩ | q
       . exact ht1
       exact hk1 b o nb1 nb2 q
     refine⟨?_,(hf b hb).2⟩;have hb':b < s.heap.objs.size:=by
       rcases zAi.mp hb with rfl | hb
       . exact lt1
       rw[zAm.mp hb];exact lt2
     rw[qc9 (zAn hb')];exact(hf b hb).1
   refine⟨.ref s.heap.objs.size,_,I2,rfl,⟨_,x,rfl,hfr,rfl,λ ys hy=>by rw[I.list_inj hy hq];exact hx⟩,⟨⟨u,?_⟩,?_⟩,λ b hb=>?_⟩
   . have:((i+1:Nat):Int)=(i:Int)+1:=by push_cast;rfl
     rw[this];exact he2
   . exact hit1.extBut hs2.extBut (Ne.symm hne)
   have hb':b < s.heap.objs.size:=by
     rcases zAi.mp hb with rfl | hb
     . exact lt1
     rw[zAm.mp hb];exact lt2
   rw[qc9 (zAn hb')];exact(hf b hb).1
 done:=by
   intro X hP hw hK hc i D4 s σ H E I hf st hg;subst hP hw hK;obtain⟨xs,hq,hx⟩:=hg;obtain⟨⟨old,he⟩,hit⟩:=st;obtain⟨its,rv,p,hz⟩:=I.list hq;obtain⟨f0,f1,f2,f3,f4,f5⟩:=hf it (by simp);have hl:=rv.length;exact wpAny_pyNext_enum_end (I.ok.hd hc) he hit p.isList (by simp;lia) λ h' eb=>⟨rfl,I.turned (t':=s.toks) (λ b o hb q=>eb b o hb q) f0 f1 f3 f4 f5⟩
 self:=λ _ _ _ _ _ st h=>by
   obtain⟨⟨old,he⟩,_⟩:=st;exact wpAny_pyIter_enum he h
section
variable{X:Cx}
def Im(K:PySem.W.Frag)(ta:TA):TI:=λ σ H R=>ta σ H λ vs H1=>∃ a,vs=[.ref a]/\(∃ xs,SqL K H1 a xs)/\R (Ite K a) H1
theorem qaw0{l:Expr}{ta:TA}{elts:List Expr}{x1:Nat}{p pos tpos:Pos}(hg:Gl X "enumerate")(hm:X.mg "enumerate" = none)(ha:PA X [l] ta)(hs:starEach [l] X.env=[(false,eval l X.env)]:=by rfl):PI X (.Tuple elts x1 tpos) (.Call (.Name "enumerate" p) [l] [] pos) (Im X.K ta):=by
 intro D4 s σ H R I h;refine Call_ (qah9 I hg hm boot_enumerate (PyProof.Rows.callWith_type1 (thn (ha pos D4 s σ H _ I h) λ us s1 ⟨vs,H1,I1,r1,q1⟩=>?_) hs rfl));obtain⟨a,e,⟨xs,hq⟩,q⟩:=q1;subst e;cases r1 with
 | cons r rr =>
   cases rr;cases r;obtain⟨its,rv,pl,hz⟩:=I1.list hq;refine call_enumerate_list pl.isList λ h' hE hI hsz hk=>?_
   refine wpAny_pyIter_enum hE ?_;refine⟨s1.heap.objs.size+1,[s1.heap.objs.size+1,s1.heap.objs.size],_,_,H1,rfl,I1.kept (t':=s1.toks) hk,qan4 a s1.heap.objs.size (s1.heap.objs.size+1) (Nat.succ_ne_self _),⟨⟨_,hE⟩,hI⟩,λ b hb=>?_,q⟩;have hb':s1.heap.objs.size<=b:=by
     rcases zAi.mp hb with rfl | hb
     . exact Nat.le_succ _
     rw[zAm.mp hb];exact zA3 _
   exact I1.fpOk hb' (I1.hok.fresh hb')
end
section
variable{X:Cx}
def qaJ6:V->List V->Hp->VK->Prop:=λ x vs H Q=>∃ l xs y j z,x=.ref l/\vs=[y]/\H l=some (.lst xs)/\flatV y=true/\xs.all flatV=true/\xs[j]? = some z/\eqV z y=true/\(∀ m z',m < j->xs[m]? = some z'->eqV z' y=false)/\Q (.int (j:Nat)) H
theorem Vals.getU{xs:List V}{us:List Value}(r:Vals xs us){j:Nat}{u:Value}(h:us[j]? = some u):∃ x,xs[j]? = some x/\RelV x u:=by
 have hl:=r.length;have hj:j < us.length:=(zA4.mp h).1;obtain⟨u',hu',ru⟩:=r.get (show xs[j]? = some xs[j] by simp);rw[h] at hu';cases hu';exact⟨_,by simp,ru⟩
theorem qag7:MtM X "list.index" qaJ6:=by
 intro D4 s σ H x vs v us Q I rx rv h;obtain⟨l,xs,y,j,zj,rfl,rfl,hH,fy,fs,hj,hit,hno,q⟩:=h;cases rx;obtain⟨u,rfl,ru⟩:=rv.one;obtain⟨z,its,n,r,hl,e⟩:=I.lstM hH;have hlt:j < xs.length:=(zA4.mp hj).1;have hlen:=r.length;have small:((j:Nat):Int) < 2 ^ 63 - 1:=by
   have:sizeLine < 2 ^ 62:=by decide
   lia
 have eqAt:∀ m (hm:m < its.toArray.size),∃ x,xs[m]? = some x/\eqU y its.toArray[m]=eqV x y:=λ m hm=>by
   have hm':m < its.length:=by simpa using hm
   obtain⟨x,hx,rx⟩:=r.getU (show its[m]? = some its[m] by simp);have fx:flatV x=true:=zB4.mp fs x (zAt hx);refine⟨x,hx,?_⟩
   have:=qaG0 (x:=y) rx fx
   simpa using this
 have hja:j < its.toArray.size:=by simp;lia
 refine call_meets F.slot_list_index ⟨_,e,rfl⟩ F.entry_list_index (F.args_list_index_2 _ _) (SeqAt.list_indexAt l its.toArray n none #[] u (eqU y) j hja small ?_ ?_) ⟨e,λ w hw=>qu0 ru fy r fs w (by simpa using hw),⟨.int (j:Nat),H,I.tok _,⟨_,rfl⟩,q⟩⟩
 . obtain⟨x,hx,ex⟩:=eqAt j hja
   rw[hj] at hx;cases hx;rw[ex];exact hit
 intro m hm hmj;obtain⟨x,hx,ex⟩:=eqAt m hm;rw[ex];exact hno m x hmj hx
end
theorem qas9{K:PySem.W.Frag}{a D:Addr}{xs:List V}{g:TG}{tf:TT}{te:TE}{R:Hp->Prop}{σ:St}{H:Hp}(Pv:Nat->St->Hp->Prop)(h0:Pv 0 σ H)(hl:∀ i σ H,i<=xs.length->Pv i σ H->SqL K H a xs)(hs:∀(i:Nat) x σ H t,xs[i]? = some x->Pv i σ H->H t=none->g (.ref t) σ (upd H t (.tup [.int (i:Int),x])) λ σ2 H2=>tf σ2 H2 λ ok H3=>if ok=true then te σ2 H3 λ v H4=>∃ ys,H4 D=some (.lst ys)/\ys.length < sizeLine/\Pv (i+1) σ2 (upd H4 D (.lst (ys++[v]))) else Pv (i+1) σ2 H3)(hd:∀ σ H,Pv xs.length σ H->R H) :
   qx6 (Ite K a) g tf te D R σ H:=by
 refine⟨λ i m σ H=>m=xs.length - i/\i<=xs.length/\Pv i σ H,⟨xs.length,by simp,Nat.zero_le _,h0⟩,?_⟩;rintro i m σ H ⟨rfl,hi,p⟩;have q:=hl i σ H hi p;by_cases hlt:i < xs.length
 . refine .inr ⟨⟨xs,xs[i],q,by simp[hlt]⟩,Pv (i+1),λ σ' H' p'=>⟨xs.length - (i+1),by lia,rfl,hlt,p'⟩,λ x H' y=>?_⟩
   obtain⟨t,y',e,ht,e',hy⟩:=y;subst e e';exact hs i y' σ _ t (hy xs q) p ht
 have e:i=xs.length:=by lia
 subst e;exact .inl ⟨⟨xs,q,zA3 _⟩,hd σ H p⟩
end L2
namespace L2
open PySem PySem.Spec PyProof.Rows PySem.SeqAt
end L2
namespace L2
open PySem PySem.Spec PyProof.Rows
def qaE5:List String:=["NoneType", "bool", "int", "str", "list", "tuple", "dict"]
structure IsO(K:PySem.W.Frag)(C:Addr):Prop where
 ca:PySem.W.findIn K (.ref C) "__class__" = some (some (.builtin "object.__class__"))
 cn:PySem.W.specialIn K (.builtin "object.__class__") "__get__" = some (some (.builtin "getset_descriptor.__get__"))
 ct:PySem.W.takesIn K (.builtin "object.__class__")=some true
 cm:PySem.W.mroIn K C (.type "object")=some true
 kf:∀ t∈qaE5,PySem.W.kitOne K (.type t) (.ref C)=some false
theorem kf_of{K:PySem.W.Frag}{C:Addr}(h1:PySem.W.kitOne K (.type "NoneType") (.ref C)=some false)(h2:PySem.W.kitOne K (.type "bool") (.ref C)=some false)(h3:PySem.W.kitOne K (.type "int") (.ref C)=some false)(h4:PySem.W.kitOne K (.type "str") (.ref C)=some false)(h5:PySem.W.kitOne K (.type "list") (.ref C)=some false)(h6:PySem.W.kitOne K (.type "tuple") (.ref C)=some false)(h7:PySem.W.kitOne K (.type "dict") (.ref C)=some false) :
   ∀ t∈qaE5,PySem.W.kitOne K (.type t) (.ref C)=some false:=by
 intro t ht;unfold qaE5 at ht;simp only[zAi,zBd,or_false] at ht;rcases ht with rfl | rfl | rfl | rfl | rfl | rfl | rfl<;>assumption
section
variable{X:Cx}
def rIsO(C:Addr):List V->Hp->VK->Prop:=λ xs H Q=>∃ x,xs=[x,.ref C]/\((∃ a dx fs,x=.ref a/\H a=some (.ins C dx fs)/\Q (.bl true) H)∨(∃ t,Bi H x=some t/\Q (.bl false) H))
theorem qal6{C:Addr}(io:IsO X.K C)(cl:Cls X.K C):CallR X (.builtin "isinstance") (rIsO C):=by
 intro D4 s σ H xs us Q I r h;obtain⟨x,rfl,h⟩:=h;obtain⟨u,w',rfl,ru,rw'⟩:=vals2 r;cases rw';rcases h with⟨a,dx,fs,rfl,ha,q⟩ | ⟨t,hk,q⟩
 . have e:PySem.W.kitOne X.K (.ref C) (.ref C)=some true:=by
     unfold PySem.W.kitOne;rw[if_pos (by simp)]
   exact qI5 I ru (.ins ha cl io.ca io.cn io.ct io.cm) e λ tk=>⟨.bl true,H,I.tok tk,rfl,q⟩
 obtain⟨ty,ht⟩:=qai2 (K:=X.K) hk;exact qI5 I ru ty (io.kf t ht) λ tk=>⟨.bl false,H,I.tok tk,rfl,q⟩
theorem qaT2{x:Str}(C:Addr){pos:Pos}(hm:X.mg x=some (.ref C))(hg:Gl X x:=by rfl)(hd:(x == ("__debug__" : Str))=false:=by decide):PE X (.Name x pos) (tC (.ref C)):=qaw3 hg hm rfl hd
end
end L2
namespace Row
variable{a i j q s t:Nat}{g':Nat->Option Int}{x y:Int}
def dist(n h r:Nat):Nat:=if h<=r then r - h else r+n - h
def prev(n r:Nat):Nat:=if r=0 then n - 1 else r - 1
def next(n r:Nat):Nat:=if r+1=n then 0 else r+1
def ahead(n:Nat)(hm:Int->Nat)(r:Nat)(x y:Int):Prop:=dist n (hm y) r < dist n (hm x) r∨(dist n (hm x) r=dist n (hm y) r/\x < y)
theorem qv0{n:Nat}{hm:Int->Nat}{r:Nat}{z:Int}(h:ahead n hm r x y)(h':ahead n hm r y z):ahead n hm r x z:=by
 unfold ahead at *;lia
theorem qN3{n:Nat}{hm:Int->Nat}{r:Nat}(h:ahead n hm r x y)(h':ahead n hm r y x):False:=by
 unfold ahead at *;lia
theorem qat9{n:Nat}{hm:Int->Nat}{r:Nat}(h:ahead n hm r x x):False:=qN3 h h
theorem qat8{n:Nat}{hm:Int->Nat}{r:Nat}(h:x≠y)(h':¬ ahead n hm r x y):ahead n hm r y x:=by
 unfold ahead at *;lia
theorem qj7{n r:Nat}(h:r < n):next n r < n:=by unfold next;split<;>lia
theorem qh7{n r:Nat}(h:r < n):prev n r < n:=by unfold prev;split<;>lia
theorem qk4{n r:Nat}(h:r < n):prev n (next n r)=r:=by unfold prev next;split<;>split<;>lia
theorem qH8{n r:Nat}(h:r < n):next n (prev n r)=r:=by unfold prev next;split<;>split<;>lia
theorem qf1{n r:Nat}(h:r < n)(ha:a < n):dist n a r < n:=by unfold dist;split<;>lia
theorem qj1{n r:Nat}(ha:a < n)(h:r < n)(h':s < n)(e:dist n a r=dist n a s):r=s:=by
 unfold dist at e;split at e<;>split at e<;>lia
theorem qb4{n r:Nat}(ha:a < n)(h:r < n):dist n a r=0↔r=a:=by unfold dist;split<;>lia
theorem qc7{n r:Nat}(ha:a < n)(h:r < n)(hd:0 < dist n a r):dist n a (prev n r)=dist n a r - 1:=by
 unfold dist prev at *;split at hd<;>split<;>split<;>lia
theorem ql2{n r:Nat}(ha:a < n)(h:r < n)(hd:dist n a r+1 < n):dist n a (next n r)=dist n a r+1:=by
 unfold dist next at *;split at hd<;>split<;>split<;>lia
theorem nor(n s:Nat):(s+1=n/\next n s=0)∨(s+1≠n/\next n s=s+1):=by unfold next;split<;>lia
theorem por(n s:Nat):(s=0/\prev n s=n - 1)∨(s≠0/\prev n s=s - 1):=by unfold prev;split<;>lia
theorem dor(n a r:Nat):(a<=r/\dist n a r+a=r)∨(r < a/\(a<=r+n->dist n a r+a=r+n)):=by
 unfold dist;split<;>lia
theorem Du{n:Nat}(ha:a < n)(hi:i < n)(hs:s < n)(h:dist n a i<=dist n a s):dist n a i+dist n i s=dist n a s:=by
 have d1:=dor n a i;have d2:=dor n a s;have d3:=dor n i s;lia
theorem Hj{n:Nat}(ha:a < n)(hs:s < n)(ht:t < n)(h:dist n a s < dist n a t):dist n t s+dist n a t=n+dist n a s:=by
 have d1:=dor n a s;have d2:=dor n a t;have d3:=dor n t s;lia
theorem qaX6{n:Nat}(hs:s < n):dist n (next n s) s+1=n:=by
 have d1:=dor n (next n s) s;have d2:=nor n s;lia
theorem qas6{n b:Nat}(ha:a < n)(hb:b < n)(hj:j < n)(hi:i < n)(h1:dist n a i<=dist n a j)(h2:dist n a j<=dist n b j):dist n b i+(dist n a j - dist n a i)=dist n b j:=by
 have e1:=Du ha hi hj h1;have l1:=qf1 hi hb;rcases Nat.lt_or_ge (dist n b j) (dist n b i) with h3 | h3
 . have:=Hj hb hj hi h3
   lia
 have:=Du hb hi hj h3
 lia
structure Ord(n:Nat)(hm:Int->Nat)(g:Nat->Option Int):Prop where
 home:∀ k,hm k < n
 inj:∀ i j k,i < n->j < n->g i=some k->g j=some k->i=j
 ord:∀ i k,i < n->g i=some k->0 < dist n (hm k) i->∃ x,g (prev n i)=some x/\ahead n hm (prev n i) x k
def Gu(n:Nat)(hm:Int->Nat)(g:Nat->Option Int):Prop:=∃ i,i < n/\∀ k,g i=some k->hm k=i
theorem Ord.path{n:Nat}{hm:Int->Nat}{g:Nat->Option Int}(O:Ord n hm g):∀(m j i:Nat)(z:Int),j < n->i < n->g j=some z->dist n (hm z) i+m+1=dist n (hm z) j->∃ x,g i=some x/\ahead n hm i x z
 | 0,j,i,z,hj,hi,hz,e=>by
   have h1:0 < dist n (hm z) j:=by lia
   obtain⟨x,hx,ax⟩:=O.ord j z hj hz h1
   have:=qc7 (O.home z) hj h1
   have e1:i=prev n j:=qj1 (O.home z) hi (qh7 hj) (by lia);rw[e1];exact⟨x,hx,ax⟩
 | m+1,j,i,z,hj,hi,hz,e=>by
   have h1:0 < dist n (hm z) j:=by lia
   obtain⟨x,hx,ax⟩:=O.ord j z hj hz h1;have h2:=qc7 (O.home z) hj h1;have hp:=qh7 hj;have h3:dist n (hm z) (prev n j)<=dist n (hm x) (prev n j):=by unfold ahead at ax;lia
   have h4:=qas6 (O.home z) (O.home x) hp hi (by lia) h3;obtain⟨y,hy,ay⟩:=O.path m (prev n j) i x hp hi hx (by lia);refine⟨y,hy,qv0 ay ?_⟩;unfold ahead at *;lia
theorem Ord.path'{n:Nat}{hm:Int->Nat}{g:Nat->Option Int}(O:Ord n hm g){z:Int}(hj:j < n)(hi:i < n)(hz:g j=some z)(h:dist n (hm z) i < dist n (hm z) j):∃ x,g i=some x/\ahead n hm i x z :=
 O.path (dist n (hm z) j - dist n (hm z) i - 1) j i z hj hi hz (by lia)
def Fh(n:Nat)(hm:Int->Nat)(g:Nat->Option Int)(s:Nat):Prop:=∀ j z,j < n->g j=some z->dist n (hm z) j<=dist n (hm z) s
theorem Ord.zero{n:Nat}{hm:Int->Nat}{g:Nat->Option Int}(O:Ord n hm g)(C:Gu n hm g):∃ s,s < n/\Fh n hm g s:=by
 obtain⟨i,hi,hc⟩:=C;have hp:=qh7 hi;refine⟨prev n i,hp,λ j z hj hz=>zC5 λ hlt=>?_⟩;have hz1:=O.home z;by_cases h0:dist n (hm z) i=0
 . have e:=(qb4 hz1 hi).mp h0
   have:=qf1 hj hz1
   have e2:dist n (hm z) (prev n i)=n - 1:=by
     unfold dist prev at *
     split<;>split<;>lia
   lia
 have h1:=qc7 hz1 hi (by lia);by_cases hij:dist n (hm z) i=dist n (hm z) j
 . have e:i=j:=qj1 hz1 hi hj hij
   subst e
   have:=hc z hz
   rw[this,(qb4 hi hi).mpr rfl] at h0;exact h0 rfl
 obtain⟨x,hx,ax⟩:=O.path' hj hi hz (by lia);have e:=hc x hx
 have:dist n (hm x) i=0:=(qb4 (O.home x) hi).mpr e.symm
 unfold ahead at ax;lia
theorem qW9{α:Type}[DecidableEq α](x:α):∀(S:List α),S.Nodup->S.length<=(S.filter (λ y=>decide (y≠x))).length+1
 | [],_=>by simp
 | a::S,h=>by
   have hn:=zBy.mp h;by_cases e:a=x
   . subst e
     have:S.filter (λ y=>decide (y≠a))=S:=List.filter_eq_self.mpr λ y hy=>by
       simp only[ne_eq,zBf];intro z;subst z;exact hn.1 hy
     rw[zC0 (by simp),this];simp
   rw[zC2 (by simpa using e)]
   have:=qW9 x S hn.2
   simp only[zAo];lia
theorem qo9{α:Type}[DecidableEq α](x:α):∀(S:List α),x∈S->(S.filter (λ y=>decide (y≠x))).length+1<=S.length
 | [],h=>by simp at h
 | a::S,h=>by
   by_cases e:a=x
   . rw[zC0 (by simp[e])]
     have:=List.length_filter_le (λ y=>decide (y≠x)) S
     simp only[zAo];lia
   rw[zC2 (by simpa using e)]
   have:=qo9 x S (by rcases zAi.mp h with z | z;exact absurd z.symm e;exact z)
   simp only[zAo];lia
theorem qv2{g:Nat->Option Int}:∀(L:List Nat)(S:List Int),S.Nodup->(∀ k∈S,∃ i∈L,g i=some k)->S.length<=L.length
 | [],S,_,h=>by
   cases S with
   | nil=>simp
   | cons k _=>obtain⟨i,hi,_⟩:=h k (by simp);simp at hi
 | i::L,S,hn,h=>by
   cases hg:g i with
   | none =>
     have:=qv2 L S hn λ k hk=>by
       obtain⟨j,hj,e⟩:=h k hk;rcases zAi.mp hj with z | z
       . rw[z,hg] at e;cases e
       exact⟨j,z,e⟩
     simp only[zAo];lia
   | some x =>
     have h1:=qv2 L (S.filter (λ y=>decide (y≠x))) (hn.filter _) λ k hk=>by
       obtain⟨hk,hkx⟩:=zAx.mp hk;obtain⟨j,hj,e⟩:=h k hk;rcases zAi.mp hj with z | z
       . rw[z,hg] at e
         have e':x=k:=Option.some.inj e;rw[e'] at hkx;simp at hkx
       exact⟨j,z,e⟩
     have h2:=qW9 x S hn;simp only[zAo];lia
theorem qK7{g:Nat->Option Int}:∀(L:List Nat)(S:List Int),L.Nodup->(∀ i∈L,∃ k∈S,g i=some k)->(∀ i∈L,∀ j∈L,∀ k,g i=some k->g j=some k->i=j)->L.length<=S.length
 | [],S,_,_,_=>by simp
 | i::L,S,hn,h,inj=>by
   obtain⟨x,hx,hg⟩:=h i (by simp);have hn:=zBy.mp hn;have h1:=qK7 L (S.filter (λ y=>decide (y≠x))) hn.2 (λ j hj=>by
     obtain⟨k,hk,e⟩:=h j (zA6 _ hj);refine⟨k,zAx.mpr ⟨hk,?_⟩,e⟩;simp only[ne_eq,zBf];intro z;subst z
     have:=inj i (by simp) j (zA6 _ hj) k hg e
     exact hn.1 (this ▸ hj)) λ a ha b hb=>inj a (zA6 _ ha) b (zA6 _ hb)
   have h2:=qo9 x S hx;simp only[zAo];lia
def Holds(n:Nat)(g:Nat->Option Int)(S:List Int):Prop:=S.Nodup/\∀ k,k∈S↔∃ i,i < n/\g i=some k
theorem qam9{n:Nat}{hm:Int->Nat}{g:Nat->Option Int}{S:List Int}(O:Ord n hm g)(O':Ord n hm g')(C':Gu n hm g')(hS:Holds n g S)(hS':Holds n g' S)(hs:s < n)(Z:Fh n hm g s):Fh n hm g' s:=by
 obtain⟨s',hs',Z'⟩:=O'.zero C';intro j z hj hz;refine zC5 λ hlt=>?_
 have ex:∀ m,(∃ t,t < n/\dist n t s<=m/\Fh n hm g' t)->∃ t,t < n/\Fh n hm g' t/\∀ u,u < n->dist n u s < dist n t s->¬ Fh n hm g' u:=by
   intro m
   induction m with
   | zero =>
     rintro⟨t,ht,hd,hz⟩;exact⟨t,ht,hz,λ u _ h=>absurd h (by lia)⟩
   | succ m ih =>
     rintro⟨t,ht,hd,hz⟩;by_cases hq:∃ u,u < n/\dist n u s<=m/\Fh n hm g' u
     . exact ih hq
     exact⟨t,ht,hz,λ u hu h zu=>hq ⟨u,hu,by lia,zu⟩⟩
 obtain⟨t,ht,Zt,near⟩:=ex (dist n s' s) ⟨s',hs',zA3 _,Z'⟩;let arc:Nat->Bool:=λ r=>decide (dist n r s < dist n t s)
 have arcOf:∀ r,arc r=true↔dist n r s < dist n t s:=λ r=>decide_eq_true_iff
 have hz0:=O'.home z;have zt:=Zt j z hj hz;have Dz:dist n (hm z) s < dist n t s:=by
   have e1:=Hj hz0 hs ht (zAk hlt zt);have e2:=qf1 ht hz0;lia
 have Dj:¬ dist n j s < dist n t s:=by
   have e1:=Hj hz0 hs ht (zAk hlt zt);have e2:=Hj hz0 hs hj hlt;lia
 have zS:z∈S.filter (λ k=>arc (hm k)):=zAx.mpr ⟨(hS'.2 z).mpr ⟨j,hj,hz⟩,(arcOf _).mpr Dz⟩;have p1:(S.filter (λ k=>arc (hm k))).length<=((List.range n).filter arc).length:=by
   refine qv2 (g:=g) _ _ (hS.1.filter _) λ k hk=>?_
   obtain⟨hk,ak⟩:=zAx.mp hk;obtain⟨i,hi,gi⟩:=(hS.2 k).mp hk;have ak:=(arcOf _).mp ak;have zk:=Z i k hi gi;have hk0:=O.home k;refine⟨i,zAx.mpr ⟨zA9.mpr hi,(arcOf _).mpr ?_⟩,gi⟩;have e1:=Du hk0 hi hs zk;lia
 have p2:((List.range n).filter arc).length<=((S.filter (λ k=>arc (hm k))).filter (λ y=>decide (y≠z))).length:=by
   refine qK7 (g:=g') _ _ (List.nodup_range.filter _) (λ i hi=>?_) λ a ha b hb k=>O'.inj a b k (zA9.mp (zAx.mp ha).1) (zA9.mp (zAx.mp hb).1)
   obtain⟨hi,ai⟩:=zAx.mp hi;have hi:=zA9.mp hi;have ai:=(arcOf _).mp ai;have nz:=near i hi ai;obtain⟨k,gk⟩:∃ k,g' i=some k:=by
     cases e:g' i with
     | some k=>exact⟨k,rfl⟩
     | none =>
       refine absurd (λ j' y hj' hy=>zC5 λ hlt'=>?_) nz;obtain⟨x,hx,_⟩:=O'.path' hj' hi hy hlt';rw[e] at hx;cases hx
   have ki:=Zt i k hi gk;have hk0:=O'.home k;refine⟨k,zAx.mpr ⟨zAx.mpr ⟨(hS'.2 k).mpr ⟨i,hi,gk⟩,(arcOf _).mpr ?_⟩,?_⟩,gk⟩
   . have l1:=qf1 ht hk0
     rcases Nat.lt_or_ge (dist n (hm k) s) (dist n (hm k) t) with h3 | h3
     . have:=Hj hk0 hs ht h3
       lia
     have e1:=Du hk0 ht hs h3;have e2:=Du hk0 hi hs (zAp ki h3);lia
   simp only[ne_eq,zBf];intro e;subst e
   have:=O'.inj i j k hi hj gk hz
   subst this;exact Dj ai
 have p3:=qo9 z _ zS;lia
theorem qam6{n:Nat}{hm:Int->Nat}{g:Nat->Option Int}{S:List Int}(O:Ord n hm g)(O':Ord n hm g')(hS:Holds n g S)(hS':Holds n g' S)(hs:s < n)(Z:Fh n hm g s)(Z':Fh n hm g' s)(hj:j < n)(ih:∀ i,i < n->dist n (next n s) i < dist n (next n s) j->g i=g' i)(hx:g j=some x):g' j=some x:=by
 have hns:=qj7 hs;have pos:∀{f:Nat->Option Int},Fh n hm f s->∀{i k},i < n->f i=some k->dist n (next n s) (hm k)<=dist n (next n s) i:=λ{f} Zf {i k} hi hk=>by
   have h1:=Zf i k hi hk;have hk0:=O.home k;have l1:=qaX6 hs;have l2:=qf1 hk0 hns;have e1:=Du hns hk0 hs (by lia);refine zC5 λ h3=>?_
   have e2:=Hj hns hi hk0 h3;lia
 have far:∀{i k},i < n->dist n (next n s) (hm k)<=dist n (next n s) j->dist n (next n s) j < dist n (next n s) i->dist n (hm k) j < dist n (hm k) i:=λ{i k} hi h1 h2=>by
   have hk0:=O.home k;have e1:=Du hns hk0 hj h1;have e2:=Du hns hk0 hi (zAp h1 (Nat.le_of_lt h2));lia
 obtain⟨j',hj',gx⟩:=(hS'.2 x).mp ((hS.2 x).mpr ⟨j,hj,hx⟩);have px:=pos Z hj hx;by_cases c1:dist n (next n s) j' < dist n (next n s) j
 . have e:=ih j' hj' c1
   rw[gx] at e
   have:=O.inj j' j x hj' hj e hx
   subst this;exact gx
 by_cases c2:dist n (next n s) j'=dist n (next n s) j
 . have e:=qj1 hns hj' hj c2
   subst e;exact gx
 exfalso;obtain⟨y,hy,ay⟩:=O'.path' hj' hj gx (far hj' px (by lia));obtain⟨i,hi,gy⟩:=(hS.2 y).mp ((hS'.2 y).mpr ⟨j,hj,hy⟩);have py:=pos Z' hj hy;by_cases c3:dist n (next n s) i < dist n (next n s) j
 . have e:=ih i hi c3
   rw[gy] at e
   have:=O'.inj i j y hi hj e.symm hy
   subst this;lia
 by_cases c4:dist n (next n s) i=dist n (next n s) j
 . have e:=qj1 hns hi hj c4
   subst e;rw[hx] at gy;cases gy;exact qat9 ay
 obtain⟨w,hw,aw⟩:=O.path' hi hj gy (far hi py (by lia));rw[hx] at hw;cases hw;exact qN3 ay aw
theorem qaC9{n:Nat}{hm:Int->Nat}{g:Nat->Option Int}{S:List Int}(O:Ord n hm g)(O':Ord n hm g')(C:Gu n hm g)(C':Gu n hm g')(hS:Holds n g S)(hS':Holds n g' S):∀ j,j < n->g j=g' j:=by
 obtain⟨s,hs,Z⟩:=O.zero C;have Z':=qam9 O O' C' hS hS' hs Z;have main:∀ m j,j < n->dist n (next n s) j < m->g j=g' j:=by
   intro m
   induction m with
   | zero=>intro j _ h;exact absurd h (by lia)
   | succ m ih =>
     intro j hj hd;have ih1:∀ i,i < n->dist n (next n s) i < dist n (next n s) j->g i=g' i:=λ i hi h=>ih i hi (by lia)
     cases e:g j with
     | some x=>exact(qam6 O O' hS hS' hs Z Z' hj ih1 e).symm
     | none =>
       cases e':g' j with
       | none=>rfl
       | some y =>
         have:=qam6 O' O hS' hS hs Z' Z hj (λ i hi h=>(ih1 i hi h).symm) e'
         rw[e] at this;cases this
 exact λ j hj=>main _ j hj (zBv _)
def set(g:Nat->Option Int)(r:Nat)(c:Int):Nat->Option Int:=λ j=>if j=r then some c else g j
theorem qd0{g:Nat->Option Int}{r:Nat}{c:Int}:set g r c r=some c:=by unfold set;rw[if_pos rfl]
theorem qg6{g:Nat->Option Int}{r:Nat}{c:Int}(h:j≠r):set g r c j=g j:=by unfold set;rw[if_neg h]
structure Walk(n:Nat)(wr:Bool)(hm:Int->Nat)(T:List Int)(k:Int)(e:Nat)(g:Nat->Option Int)(c:Int)(r:Nat):Prop where
 o:Ord n hm g
 nin:∀ i,i < n->g i≠some c
 hr:r < n
 pth:∀ j,j < n->dist n (hm c) j < dist n (hm c) r->∃ x,g j=some x/\ahead n hm j x c
 he:e < n
 ge:g e=none
 lim:dist n (hm k) r<=dist n (hm k) e
 all:∀ x,x∈T↔(x=c∨∃ i,i < n/\g i=some x)
 ln:wr=false->hm k<=e/\hm c<=r/\∀ i x,i < n->g i=some x->hm x<=i
section
variable{n:Nat}{wr:Bool}{hm:Int->Nat}{T:List Int}{k:Int}{e:Nat}{g:Nat->Option Int}{c:Int}{r:Nat}
theorem Walk.lt(W:Walk n wr hm T k e g c r)(hy:g r=some y):dist n (hm k) r < dist n (hm k) e:=by
 have h1:=W.lim
 have:r≠e:=λ z=>by have:=W.ge;rw[<- z,hy] at this;cases this
 have h2:dist n (hm k) r≠dist n (hm k) e:=λ z=>this (qj1 (W.o.home k) W.hr W.he z)
 lia
theorem Walk.nx(W:Walk n wr hm T k e g c r)(hy:g r=some y):dist n (hm k) (next n r)=dist n (hm k) r+1:=by
 have h1:=W.lt hy;have h2:=qf1 W.he (W.o.home k);exact ql2 (W.o.home k) W.hr (by lia)
theorem way(hx:hm x < n)(hj:j < n)(he:e < n)(ge:g e=none)(hw:∀ i,i < n->dist n (hm x) i<=dist n (hm x) j->∃ y,g i=some y):dist n (hm x) j+1 < n:=by
 have h1:=qf1 hj hx;have h2:=qf1 he hx;by_cases h:dist n (hm x) e<=dist n (hm x) j
 . obtain⟨y,q⟩:=hw e he h
   rw[ge] at q;cases q
 lia
theorem Walk.on(W:Walk n wr hm T k e g c r)(hy:g r=some y)(h:¬ ahead n hm r c y):Walk n wr hm T k e g c (next n r):=by
 have nx:=W.nx hy;have lt:=W.lt hy;have hc:=W.o.home c;have ne:c≠y:=λ z=>W.nin r W.hr (by rw[z];exact hy)
 have w:dist n (hm c) r+1 < n:=way (g:=g) hc W.hr W.he W.ge λ i hi hd=>by
   by_cases q:dist n (hm c) i=dist n (hm c) r
   . rw[qj1 hc hi W.hr q];exact⟨y,hy⟩
   obtain⟨x,hx,_⟩:=W.pth i hi (by lia);exact⟨x,hx⟩
 have cn:=ql2 hc W.hr w;refine⟨W.o,W.nin,qj7 W.hr,λ j hj hd=>?_,W.he,W.ge,by lia,W.all,λ hw=>?_⟩
 . by_cases q:dist n (hm c) j=dist n (hm c) r
   . rw[qj1 hc hj W.hr q];exact⟨y,hy,qat8 ne h⟩
   exact W.pth j hj (by lia)
 obtain⟨l1,l2,l3⟩:=W.ln hw;refine⟨l1,?_,l3⟩;have d1:=dor n (hm k) r;have d2:=dor n (hm k) e;have d3:=nor n r
 have:=W.hr
 have:=W.he
 have:=W.o.home k
 lia
theorem Walk.swap(W:Walk n wr hm T k e g c r)(hy:g r=some y)(h:ahead n hm r c y):Walk n wr hm T k e (set g r c) y (next n r):=by
 have nx:=W.nx hy;have lt:=W.lt hy;have hc:=W.o.home c;have hyh:=W.o.home y;have ne:c≠y:=λ z=>W.nin r W.hr (by rw[z];exact hy)
 have re:e≠r:=λ z=>by have:=W.ge;rw[z,hy] at this;cases this
 have w:dist n (hm y) r+1 < n:=way (g:=g) hyh W.hr W.he W.ge λ i hi hd=>by
   by_cases q:dist n (hm y) i=dist n (hm y) r
   . rw[qj1 hyh hi W.hr q];exact⟨y,hy⟩
   obtain⟨x,hx,_⟩:=W.o.path' W.hr hi hy (by lia);exact⟨x,hx⟩
 have yn:=ql2 hyh W.hr w;refine⟨⟨W.o.home,λ i j x hi hj gi gj=>?_,λ i x hi gi hd=>?_⟩,λ i hi gi=>?_,qj7 W.hr,λ j hj hd=>?_,W.he,by rw[qg6 re];exact W.ge,by lia,λ x=>?_,λ hw=>?_⟩
 . by_cases e1:i=r
   . by_cases e2:j=r
     . rw[e1,e2]
     rw[e1,qd0] at gi;rw[qg6 e2] at gj;cases gi;exact absurd gj (W.nin j hj)
   rw[qg6 e1] at gi;by_cases e2:j=r
   . rw[e2,qd0] at gj
     cases gj;exact absurd gi (W.nin i hi)
   rw[qg6 e2] at gj;exact W.o.inj i j x hi hj gi gj
 . have hp:=qh7 hi
   by_cases e1:i=r
   . subst e1
     rw[qd0] at gi;cases gi;have d:=qc7 hc hi hd;obtain⟨x,hx,ax⟩:=W.pth (prev n i) hp (by lia)
     have:prev n i≠i:=λ z=>by rw[z] at d;lia
     exact⟨x,by rw[qg6 this];exact hx,ax⟩
   rw[qg6 e1] at gi;obtain⟨z,hz,az⟩:=W.o.ord i x hi gi hd;by_cases e2:prev n i=r
   . rw[e2] at hz az ⊢
     rw[hy] at hz;cases hz;exact⟨c,qd0,qv0 h az⟩
   exact⟨z,by rw[qg6 e2];exact hz,az⟩
 . by_cases e1:i=r
   . rw[e1,qd0] at gi
     exact ne (Option.some.inj gi)
   rw[qg6 e1] at gi;exact e1 (W.o.inj i r y hi W.hr gi hy)
 . by_cases q:dist n (hm y) j=dist n (hm y) r
   . rw[qj1 hyh hj W.hr q];exact⟨c,qd0,h⟩
   obtain⟨x,hx,ax⟩:=W.o.path' W.hr hj hy (by lia)
   have:j≠r:=λ z=>q (by rw[z])
   exact⟨x,by rw[qg6 this];exact hx,ax⟩
 . rw[W.all x]
   constructor
   . rintro (z | ⟨i,hi,gi⟩)
     . exact .inr ⟨r,W.hr,by rw[z];exact qd0⟩
     by_cases e1:i=r
     . rw[e1,hy] at gi
       exact .inl (Option.some.inj gi).symm
     exact .inr ⟨i,hi,by rw[qg6 e1];exact gi⟩
   rintro (z | ⟨i,hi,gi⟩)
   . exact .inr ⟨r,W.hr,by rw[z];exact hy⟩
   by_cases e1:i=r
   . rw[e1,qd0] at gi
     exact .inl (Option.some.inj gi).symm
   rw[qg6 e1] at gi;exact .inr ⟨i,hi,gi⟩
 obtain⟨l1,l2,l3⟩:=W.ln hw;have ly:=l3 r y W.hr hy;refine⟨l1,?_,λ i x hi gi=>?_⟩
 . have d1:=dor n (hm k) r
   have d2:=dor n (hm k) e;have d3:=nor n r
   have:=W.hr
   have:=W.he
   have:=W.o.home k
   lia
 by_cases e1:i=r
 . rw[e1,qd0] at gi
   cases gi;lia
 rw[qg6 e1] at gi;exact l3 i x hi gi
structure Kept(n:Nat)(wr:Bool)(hm:Int->Nat)(g:Nat->Option Int)(S:List Int):Prop where
 o:Ord n hm g
 c:Gu n hm g
 h:Holds n g S
 ln:wr=false->∀ i x,i < n->g i=some x->hm x<=i
theorem Walk.done(W:Walk n wr hm T k e g c r)(hT:T.Nodup)(hy:g r=none):Kept n wr hm (set g r c) T:=by
 have hc:=W.o.home c;have hnr:=qj7 W.hr;refine⟨⟨W.o.home,λ i j x hi hj gi gj=>?_,λ i x hi gi hd=>?_⟩,⟨next n r,hnr,λ x gx=>?_⟩,⟨hT,λ x=>?_⟩,λ hw=>?_⟩
 . by_cases e1:i=r
   . by_cases e2:j=r
     . rw[e1,e2]
     rw[e1,qd0] at gi;rw[qg6 e2] at gj;cases gi;exact absurd gj (W.nin j hj)
   rw[qg6 e1] at gi;by_cases e2:j=r
   . rw[e2,qd0] at gj
     cases gj;exact absurd gi (W.nin i hi)
   rw[qg6 e2] at gj;exact W.o.inj i j x hi hj gi gj
 . have hp:=qh7 hi
   by_cases e1:i=r
   . subst e1
     rw[qd0] at gi;cases gi;have d:=qc7 hc hi hd;obtain⟨x,hx,ax⟩:=W.pth (prev n i) hp (by lia)
     have:prev n i≠i:=λ z=>by rw[z] at d;lia
     exact⟨x,by rw[qg6 this];exact hx,ax⟩
   rw[qg6 e1] at gi;obtain⟨z,hz,az⟩:=W.o.ord i x hi gi hd;by_cases e2:prev n i=r
   . rw[e2,hy] at hz;cases hz
   exact⟨z,by rw[qg6 e2];exact hz,az⟩
 . have hx:=W.o.home x
   by_cases e1:next n r=r
   . have:=nor n r
     have:=W.hr
     lia
   rw[qg6 e1] at gx;by_cases hd:0 < dist n (hm x) (next n r)
   . obtain⟨z,hz,_⟩:=W.o.ord _ x hnr gx hd
     rw[qk4 W.hr,hy] at hz;cases hz
   exact((qb4 hx hnr).mp (by lia)).symm
 . rw[W.all x]
   constructor
   . rintro (z | ⟨i,hi,gi⟩)
     . exact⟨r,W.hr,by rw[z];exact qd0⟩
     exact⟨i,hi,by rw[qg6 (λ z=>by rw[z,hy] at gi;cases gi)];exact gi⟩
   rintro⟨i,hi,gi⟩;by_cases e1:i=r
   . rw[e1,qd0] at gi
     exact .inl (Option.some.inj gi).symm
   rw[qg6 e1] at gi;exact .inr ⟨i,hi,gi⟩
 obtain⟨l1,l2,l3⟩:=W.ln hw;intro i x hi gi;by_cases e1:i=r
 . rw[e1,qd0] at gi
   cases gi;lia
 rw[qg6 e1] at gi;exact l3 i x hi gi
def Gd(n:Nat)(wr:Bool)(hm:Int->Nat)(g:Nat->Option Int)(k:Int)(e:Nat):Prop:=e < n/\g e=none/\(wr=false->hm k<=e)
theorem Kept.start{S:List Int}(K:Kept n wr hm g S)(hk:¬ k∈S)(F:Gd n wr hm g k e):Walk n wr hm (S++[k]) k e g k (hm k):=by
 have hh:=K.o.home k;have z:=(qb4 hh hh).mpr rfl;refine⟨K.o,λ i hi gi=>hk ((K.h.2 k).mpr ⟨i,hi,gi⟩),hh,λ j _ hd=>by lia,F.1,F.2.1,by lia,λ x=>?_,λ hw=>⟨F.2.2 hw,zA3 _,K.ln hw⟩⟩;rw[zAh,zAm,K.h.2 x];exact⟨Or.symm,Or.symm⟩
def Crowd(n:Nat)(wr:Bool)(hm:Int->Nat)(T:List Int)(q:Nat):Prop:=q < n/\if wr=true then q=0/\n < T.length else n - q < (T.filter (λ k=>decide (q<=hm k))).length
theorem qO3(h:i∈(List.range (n - q)).map (q + ·)):q<=i/\i < n:=by
 obtain⟨j,hj,rfl⟩:=zB1.mp h
 have:=zA9.mp hj
 lia
theorem qaD7(h:q<=i)(h':i < n):i∈(List.range (n - q)).map (q + ·):=zB1.mpr ⟨i - q,zA9.mpr (by lia),by lia⟩
theorem qac8{m:Nat}:((List.range m).map (q + ·)).Nodup:=by
 rw[List.nodup_iff_pairwise_ne,List.pairwise_map];exact(List.nodup_iff_pairwise_ne.mp List.nodup_range).imp λ h=>by lia
theorem Kept.no_crowd{S:List Int}(K:Kept n wr hm g S)(q:Nat):¬ Crowd n wr hm S q:=by
 rintro⟨hq,h⟩;cases wr with
 | true =>
   rw[if_pos rfl] at h
   have:=qv2 (g:=g) (List.range n) S K.h.1 λ k hk=>by
     obtain⟨i,hi,gi⟩:=(K.h.2 k).mp hk;exact⟨i,zA9.mpr hi,gi⟩
   rw[zAq] at this;lia
 | false =>
   rw[if_neg (by decide)] at h
   have:=qv2 (g:=g) ((List.range (n - q)).map (q + ·)) (S.filter (λ k=>decide (q<=hm k))) (K.h.1.filter _) λ k hk=>by
     obtain⟨hk,hq⟩:=zAx.mp hk;obtain⟨i,hi,gi⟩:=(K.h.2 k).mp hk
     have:=K.ln rfl i k hi gi
     have hq:=zAb hq;exact⟨i,qaD7 (by lia) hi,gi⟩
   rw[zAc,zAq] at this;lia
theorem Kept.crowd{S:List Int}(K:Kept n wr hm g S)(hF:∀ e,¬ Gd n wr hm g k e):∃ q,Crowd n wr hm (S++[k]) q:=by
 have hk0:=K.o.home k;have full:∀ e,e < n->(wr=false->hm k<=e)->∃ x,g e=some x:=λ e he hl=>by
   cases h:g e with
   | some x=>exact⟨x,rfl⟩
   | none=>exact absurd ⟨he,h,hl⟩ (hF e)
 cases wr with
 | true =>
   refine⟨0,by lia,?_⟩;rw[if_pos rfl];refine⟨rfl,?_⟩
   have:=qK7 (g:=g) (List.range n) S List.nodup_range (λ i hi=>by
     obtain⟨x,hx⟩:=full i (zA9.mp hi) (λ z=>by cases z);exact⟨x,(K.h.2 x).mpr ⟨i,zA9.mp hi,hx⟩,hx⟩) λ i hi j hj x=>K.o.inj i j x (zA9.mp hi) (zA9.mp hj)
   rw[zAq] at this;rw[zA8];simp only[zAo,zC9];lia
 | false =>
   have ex:∀ m,m<=hm k->(∀ e,m<=e->e < n->∃ x,g e=some x)->∃ q,q<=hm k/\(∀ e,q<=e->e < n->∃ x,g e=some x)/\(q=0∨g (q - 1)=none):=by
     intro m
     induction m with
     | zero=>exact λ h1 h2=>⟨0,h1,h2,.inl rfl⟩
     | succ m ih =>
       intro h1 h2;cases h:g m with
       | none=>exact⟨m+1,h1,h2,.inr h⟩
       | some x =>
         refine ih (by lia) λ e he hn=>?_
         by_cases q:e=m
         . rw[q];exact⟨x,h⟩
         exact h2 e (by lia) hn
   obtain⟨q,hq,hf,h0⟩:=ex (hm k) (zA3 _) λ e he hn=>full e hn λ _=>he
   refine⟨q,by lia,?_⟩;rw[if_neg (by decide)]
   have:=qK7 (g:=g) ((List.range (n - q)).map (q + ·)) (S.filter (λ k=>decide (q<=hm k))) qac8 (λ i hi=>by
     obtain⟨h1,h2⟩:=qO3 hi;obtain⟨x,hx⟩:=hf i h1 h2;refine⟨x,zAx.mpr ⟨(K.h.2 x).mpr ⟨i,h2,hx⟩,zAe ?_⟩,hx⟩;have hx0:=K.o.home x;have hl:=K.ln rfl i x h2 hx;refine zC5 λ hlt=>?_
     rcases h0 with h0 | h0
     . lia
     obtain⟨y,hy,_⟩:=K.o.path' (i:=q - 1) h2 (by lia) hx (by
       have d1:=dor n (hm x) (q - 1);have d2:=dor n (hm x) i
       lia)
     rw[h0] at hy;cases hy) λ i hi j hj x=>K.o.inj i j x (qO3 hi).2 (qO3 hj).2
   rw[zAc,zAq] at this;have e1:([k].filter (λ k=>decide (q<=hm k))).length=1:=by simp[hq]
   rw[List.filter_append,zA8,e1];lia
theorem Crowd.mono{S T:List Int}(h:Crowd n wr hm S q)(hs:S.Sublist T):Crowd n wr hm T q:=by
 obtain⟨hq,h⟩:=h;refine⟨hq,?_⟩;cases wr with
 | true =>
   rw[if_pos rfl] at h ⊢
   have:=hs.length_le
   exact⟨h.1,by lia⟩
 | false =>
   rw[if_neg (by decide)] at h ⊢
   have:=(hs.filter (λ k=>decide (q<=hm k))).length_le
   lia
theorem Crowd.perm{S T:List Int}(h:Crowd n wr hm S q)(hs:S.Perm T):Crowd n wr hm T q:=by
 obtain⟨hq,h⟩:=h;refine⟨hq,?_⟩;rw[<- hs.length_eq,<- (hs.filter _).length_eq];exact h
theorem Kept.none(hn:0 < n)(hh:∀ k,hm k < n):Kept n wr hm (λ _=>none) [] :=
 ⟨⟨hh,(λ _ _ _ _ _ h=>by cases h),λ _ _ _ h=>by cases h⟩,⟨0,hn,λ _ h=>by cases h⟩,⟨List.nodup_nil,λ k=>⟨λ h=>by simp at h,λ ⟨_,_,h⟩=>by cases h⟩⟩,λ _ _ _ _ h=>by cases h⟩
theorem Kept.same{S S':List Int}(K:Kept n wr hm g S)(K':Kept n wr hm g' S')(hs:∀ k,k∈S↔k∈S'):∀ j,j < n->g j=g' j :=
 qaC9 K.o K'.o K.c K'.c K.h ⟨K.h.1,λ k=>(hs k).trans (K'.h.2 k)⟩
end
def rot(n s t:Nat):Nat:=if s+t < n then s+t else s+t - n
theorem qG9{n:Nat}(hs:s < n)(ht:t < n):rot n s t < n:=by unfold rot;split<;>lia
theorem ql1{n:Nat}(hs:s < n)(ht:t < n):dist n s (rot n s t)=t:=by
 have d:=dor n s (rot n s t);unfold rot at d ⊢;split at d<;>split<;>lia
theorem qm1{n:Nat}(hs:s < n)(hi:i < n):rot n s (dist n s i)=i:=by
 have d:=dor n s i;unfold rot
 split<;>lia
theorem qaJ2{n:Nat}(hs:s < n)(ht:t < n):(s+t) % n=rot n s t:=by
 unfold rot;split
 . exact Nat.mod_eq_of_lt (by assumption)
 rw[Nat.mod_eq_sub_mod (by lia)];exact Nat.mod_eq_of_lt (by lia)
structure Arc(n:Nat)(hm:Int->Nat)(g:Nat->Option Int)(r f h s:Nat):Prop where
 hs:s < n
 oc:∀ i,i < n->dist n s i<=dist n s r->∃ x,g i=some x/\f<=dist n (hm x) i+dist n i r
 ps:∀ i x,i < n->dist n s i<=dist n s r->i≠s->g i=some x->0 < dist n (hm x) i
 hh:dist n s h+f=dist n s r
section
variable{n:Nat}{hm:Int->Nat}{g:Nat->Option Int}{r:Nat}{k:Int}
theorem Arc.start(O:Ord n hm g)(hr:r < n)(hk:g r=some k):Arc n hm g r (dist n (hm k) r) (hm k) (hm k):=by
 have hh:=O.home k;have key:∀ i,i < n->dist n (hm k) i<=dist n (hm k) r->∃ x,g i=some x/\dist n (hm k) i<=dist n (hm x) i:=λ i hi hd=>by
   by_cases e:dist n (hm k) i=dist n (hm k) r
   . have:=qj1 hh hi hr e
     subst this;exact⟨k,hk,zA3 _⟩
   obtain⟨x,hx,ha⟩:=O.path' hr hi hk (by lia);exact⟨x,hx,by unfold ahead at ha;lia⟩
 refine⟨hh,λ i hi hd=>?_,λ i x hi hd ne hx=>?_,?_⟩
 . obtain⟨x,hx,h⟩:=key i hi hd
   exact⟨x,hx,by have:=Du hh hi hr hd;lia⟩
 . obtain⟨y,hy,h⟩:=key i hi hd
   rw[hx] at hy;cases hy
   have:dist n (hm k) i≠0:=λ z=>ne ((qb4 hh hi).mp z)
   lia
 rw[(qb4 hh hh).mpr rfl,zB6]
theorem qB2(hs:s < n)(hi:i < n)(h:dist n s i+1 < n):dist n (prev n s) i=dist n s i+1:=by
 have d1:=dor n s i;have d2:=dor n (prev n s) i;have p:=por n s;lia
theorem qS5(hs:s < n)(hi:i < n)(h:dist n s i+1=n):i=prev n s:=by
 have d1:=dor n s i;have p:=por n s;lia
theorem Arc.back{f h:Nat}(A:Arc n hm g r f h s)(O:Ord n hm g)(C:Gu n hm g)(hr:r < n)(hh:h < n)(hx:g s=some x)(hd:0 < dist n (hm x) s):Arc n hm g r f h (prev n s)/\dist n (prev n s) r=dist n s r+1/\dist n (prev n s) h=dist n s h+1:=by
 have hs:=A.hs;have hp:=qh7 hs;have hJ:dist n s r+1 < n:=by
   have hl:=qf1 hr hs;by_cases e:dist n s r+1=n
   . obtain⟨i,hi,hc⟩:=C
     have hli:=qf1 hi hs;obtain⟨y,hy,_⟩:=A.oc i hi (by lia);have h0:dist n (hm y) i=0:=(qb4 (O.home y) hi).mpr (hc y hy).symm;by_cases z:i=s
     . subst z
       rw[hx] at hy;cases hy;lia
     have:=A.ps i y hi (by lia) z hy
     lia
   lia
 have er:=qB2 hs hr hJ;have hH:=A.hh;have eh:=qB2 (i:=h) hs hh (by lia);obtain⟨y,hy,ha⟩:=O.ord s x hs hx hd;have hys:dist n (hm x) s<=dist n (hm y) (prev n s)+1:=by
   have:=qc7 (O.home x) hs hd
   unfold ahead at ha;lia
 have pos:∀ i,i < n->dist n (prev n s) i<=dist n (prev n s) r->i≠prev n s->dist n s i<=dist n s r:=λ i hi hd ne=>by
   by_cases z:dist n s i+1 < n
   . have:=qB2 hs hi z
     lia
   have:=qf1 hi hs
   exact absurd (qS5 hs hi (by lia)) ne
 refine⟨⟨hp,λ i hi hd'=>?_,λ i z hi hd' ne hz=>?_,by lia⟩,er,eh⟩
 . by_cases e:i=prev n s
   . subst e
     refine⟨y,hy,?_⟩;obtain⟨x',hx',hf⟩:=A.oc s hs (by rw[(qb4 hs hs).mpr rfl];lia);rw[hx] at hx';cases hx';lia
   exact A.oc i hi (pos i hi hd' e)
 by_cases e:i=s
 . subst e
   rw[hx] at hz;cases hz;exact hd
 exact A.ps i z hi (pos i hi hd' ne) e hz
theorem Arc.done{f h:Nat}{S:List Int}(A:Arc n hm g r f h s)(O:Ord n hm g)(hr:r < n)(hS:∀ i x,i < n->g i=some x->x∈S)(hx:g s=some x)(hz:hm x=s):dist n s h+1+f<=(S.filter λ y=>decide (dist n s (hm y)<=dist n s h)).length:=by
 have hs:=A.hs;have hJ:=qf1 hr hs;have up:∀ t i,i < n->dist n s i=t->t<=dist n s r->∀ y,g i=some y->dist n (hm y) i<=t:=by
   intro t
   induction t with
   | zero =>
     intro i hi ht _ y hy
     have:=(qb4 hs hi).mp ht
     subst this;rw[hx] at hy;cases hy;rw[hz,(qb4 hs hs).mpr rfl];exact zA3 _
   | succ t ih =>
     intro i hi ht hl y hy;by_cases hd:dist n (hm y) i=0
     . lia
     obtain⟨z,hz',ha⟩:=O.ord i y hi hy (by lia);have e1:=qc7 hs hi (by lia);have e2:=qc7 (O.home y) hi (by lia)
     have:=ih (prev n i) (qh7 hi) (by lia) (by lia) z hz'
     unfold ahead at ha;lia
 have hN:((List.range (dist n s r+1)).map (rot n s)).Nodup:=by
   refine List.pairwise_map.mpr (List.Pairwise.imp_of_mem (R:=(·≠·)) (λ{a b} ha hb ne e=>ne ?_) List.nodup_range);have ha:=zA9.mp ha;have hb:=zA9.mp hb;have e2:=congrArg (dist n s) e;rwa[ql1 hs (by lia),ql1 hs (by lia)] at e2
 have:=qK7 (g:=g) ((List.range (dist n s r+1)).map (rot n s)) (S.filter λ y=>decide (dist n s (hm y)<=dist n s h)) hN (λ i hi=>?_) (λ i hi j hj y=>?_)
 . rw[zAc,zAq] at this
   have:=A.hh
   lia
 . obtain⟨t,ht,rfl⟩:=zB1.mp hi
   have ht:=zA9.mp ht;have hi:=qG9 hs (show t < n by lia);have ed:=ql1 hs (show t < n by lia);obtain⟨y,hy,hf⟩:=A.oc (rot n s t) hi (by lia);refine⟨y,zAx.mpr ⟨hS _ y hi hy,zAe ?_⟩,hy⟩;have h1:=up t (rot n s t) hi ed (by lia) y hy;have h2:=Du hs hi hr (by lia);have hH:=A.hh;have d1:=dor n s (hm y);have d2:=dor n (hm y) (rot n s t);have d3:=dor n s (rot n s t)
   have:=O.home y
   lia
 obtain⟨t,ht,rfl⟩:=zB1.mp hi;obtain⟨t',ht',rfl⟩:=zB1.mp hj;have ht:=zA9.mp ht;have ht':=zA9.mp ht';exact O.inj _ _ y (qG9 hs (by lia)) (qG9 hs (by lia))
end
def At(n:Nat)(g:Nat->Option Int)(r J:Nat):Nat->Option Int:=λ i=>if dist n r i < J then g (next n i) else if dist n r i=J then none else g i
structure Sh(n:Nat)(hm:Int->Nat)(g:Nat->Option Int)(r J:Nat):Prop where
 hJ:J < n
 mv:∀ t,1<=t->t<=J->∃ x,g (rot n r t)=some x/\0 < dist n (hm x) (rot n r t)
section
variable{n:Nat}{wr:Bool}{hm:Int->Nat}{g:Nat->Option Int}{r J:Nat}{k:Int}{S:List Int}
theorem qae9(hr:r < n):rot n r 0=r:=by unfold rot;rw[if_pos (by lia)];rfl
theorem qA5(hr:r < n)(ht:t+1 < n):next n (rot n r t)=rot n r (t+1):=by
 unfold rot next
 split<;>split<;>split<;>lia
theorem qv4(hr:r < n)(hJ:J+1=n):next n (rot n r J)=r:=by
 unfold rot next
 split<;>split<;>lia
theorem Sh.start(hr:r < n):Sh n hm g r 0:=⟨by lia,λ t h1 h2=>by lia⟩
theorem Sh.step(h:Sh n hm g r J)(hJ:J+1 < n)(hx:g (rot n r (J+1))=some x)(hd:0 < dist n (hm x) (rot n r (J+1))):Sh n hm g r (J+1):=⟨hJ,λ t h1 h2=>by
 by_cases e:t=J+1
 . subst e;exact⟨x,hx,hd⟩
 exact h.mv t h1 (by lia)⟩
theorem qy0(hr:r < n)(hi:i < n):At n g r 0 i=if i=r then none else g i:=by
 unfold At;rw[if_neg (by lia)];by_cases e:i=r
 . rw[if_pos e,if_pos ((qb4 hr hi).mpr e)]
 rw[if_neg e,if_neg λ z=>e ((qb4 hr hi).mp z)]
theorem qK2(hr:r < n)(hJ:J < n):At n g r J (rot n r J)=none:=by
 unfold At;rw[ql1 hr hJ,if_neg (by lia),if_pos rfl]
theorem qy1(hr:r < n)(hJ:J+1 < n):At n g r J (rot n r (J+1))=g (rot n r (J+1)):=by
 unfold At;rw[ql1 hr hJ,if_neg (by lia),if_neg (by lia)]
theorem qD4(hr:r < n)(hJ:0 < J):At n g r J r=g (next n r):=by
 unfold At;rw[(qb4 hr hr).mpr rfl,if_pos hJ]
theorem qad5(hr:r < n)(hJ:J+1 < n)(hi:i < n):At n g r (J+1) i=if i=rot n r (J+1) then none else if i=rot n r J then g (rot n r (J+1)) else At n g r J i:=by
 have e1:=ql1 hr hJ;have e2:=ql1 hr (show J < n by lia);by_cases h1:i=rot n r (J+1)
 . rw[if_pos h1,h1];exact qK2 hr hJ
 rw[if_neg h1];have n1:dist n r i≠J+1:=λ z=>h1 (by rw[<- z,qm1 hr hi])
 by_cases h2:i=rot n r J
 . rw[if_pos h2,h2]
   unfold At;rw[e2,if_pos (by lia),qA5 hr hJ]
 rw[if_neg h2];have n2:dist n r i≠J:=λ z=>h2 (by rw[<- z,qm1 hr hi])
 unfold At;by_cases h3:dist n r i < J
 . rw[if_pos h3,if_pos (by lia)]
 rw[if_neg h3,if_neg (by lia),if_neg n1,if_neg n2]
theorem Sh.round(h:Sh n hm g r J)(O:Ord n hm g)(C:Gu n hm g)(hr:r < n)(hk:g r=some k)(hJ:J+1=n)(hx:g (next n r)=some x)(h0:0 < J):dist n (hm x) r=0:=by
 obtain⟨i,hi,hc⟩:=C;have hi0:i=r:=by
   by_cases e:i=r
   . exact e
   have hd:=qf1 hi hr;have h1:dist n r i≠0:=λ z=>e ((qb4 hr hi).mp z)
   obtain⟨y,hy,hp⟩:=h.mv (dist n r i) (by lia) (by lia);rw[qm1 hr hi] at hy hp
   have:=(qb4 (O.home y) hi).mpr (hc y hy).symm
   lia
 subst hi0;have hkr:=(qb4 (O.home k) hi).mpr (hc k hk).symm;have e1:next n i=rot n i 1:=by
   have:=qA5 (t:=0) hi (by lia)
   rwa[qae9 hi] at this
 obtain⟨y,hy,hp⟩:=h.mv 1 (zA3 _) (by lia);rw[<- e1,hx] at hy;cases hy;rw[<- e1] at hp;obtain⟨z,hz,ha⟩:=O.ord (next n i) x (qj7 hi) hx hp;rw[qk4 hi,hk] at hz;cases hz;rw[qk4 hi] at ha;unfold ahead at ha;lia
def Stop(n:Nat)(wr:Bool)(hm:Int->Nat)(g:Nat->Option Int)(r J:Nat):Prop:=(wr=false/\rot n r J+1=n)∨∀ x,At n g r J (next n (rot n r J))=some x->dist n (hm x) (next n (rot n r J))=0
theorem Kept.taken(K:Kept n wr hm g S)(hr:r < n)(hk:g r=some k)(h:Sh n hm g r J)(st:Stop n wr hm g r J):Kept n wr hm (At n g r J) (S.filter λ x=>decide (x≠k)):=by
 have hJ:=h.hJ;have O:=K.o;have mvd:∀ i x,i < n->dist n r i < J->g (next n i)=some x->dist n r (next n i)=dist n r i+1/\0 < dist n (hm x) (next n i)/\dist n (hm x) i+1=dist n (hm x) (next n i):=λ i x hi hd hx=>by
   have e:=ql2 hr hi (by lia);obtain⟨y,hy,hp⟩:=h.mv (dist n r i+1) (by lia) (by lia);rw[<- e,qm1 hr (qj7 hi)] at hy hp;rw[hx] at hy;cases hy
   have:=qc7 (O.home x) (qj7 hi) hp
   rw[qk4 hi] at this;exact⟨e,hp,by lia⟩
 have val:∀ i x,i < n->At n g r J i=some x->(dist n r i < J/\g (next n i)=some x)∨(J < dist n r i/\g i=some x):=λ i x hi hx=>by
   unfold At at hx;split at hx
   . exact .inl ⟨by assumption,hx⟩
   split at hx
   . cases hx
   exact .inr ⟨by lia,hx⟩
 have src:∀ i x,i < n->At n g r J i=some x->∃ j,j < n/\g j=some x/\j≠r/\(j=next n i/\dist n r i < J∨j=i/\J < dist n r i):=λ i x hi hx=>by
   rcases val i x hi hx with⟨h1,h2⟩ | ⟨h1,h2⟩
   . refine⟨next n i,qj7 hi,h2,λ z=>?_,.inl ⟨rfl,h1⟩⟩
     have e:=ql2 hr hi (by lia);rw[z,(qb4 hr hr).mpr rfl] at e;lia
   refine⟨i,hi,h2,λ z=>?_,.inr ⟨rfl,h1⟩⟩;rw[z,(qb4 hr hr).mpr rfl] at h1;lia
 refine⟨⟨O.home,λ i j x hi hj h1 h2=>?_,λ i x hi hx hd=>?_⟩,?_,⟨K.h.1.filter _,λ x=>?_⟩,λ hw i x hi hx=>?_⟩
 . obtain⟨a,ha,ga,na,ca⟩:=src i x hi h1
   obtain⟨b,hb,gb,nb,cb⟩:=src j x hj h2
   have:=O.inj a b x ha hb ga gb
   subst this;rcases ca with⟨e1,d1⟩ | ⟨e1,d1⟩<;>rcases cb with⟨e2,d2⟩ | ⟨e2,d2⟩
   . have:=congrArg (prev n) (e1.symm.trans e2)
     rwa[qk4 hi,qk4 hj] at this
   . have e:=ql2 hr hi (by lia)
     rw[<- e1,e2] at e;lia
   . have e:=ql2 hr hj (by lia)
     rw[<- e2,e1] at e;lia
   rw[<- e1,<- e2]
 . rcases val i x hi hx with⟨h1,h2⟩ | ⟨h1,h2⟩
   . obtain⟨e,hp,ed⟩:=mvd i x hi h1 h2
     obtain⟨y,hy,ha⟩:=O.ord (next n i) x (qj7 hi) h2 hp;rw[qk4 hi] at hy ha;have hyd:0 < dist n (hm y) i:=by unfold ahead at ha;lia
     have e1:=qc7 (O.home x) hi hd;have e2:=qc7 (O.home y) hi hyd;have hpv:=qh7 hi;by_cases e0:dist n r i=0
     . have:=(qb4 hr hi).mp e0
       subst this;have hlast:dist n i (prev n i)=n - 1:=by have d:=dor n i (prev n i);have p:=por n i;lia
       by_cases hJn:J+1=n
       . have:=h.round O K.c hi hk hJn h2 (by lia)
         lia
       rw[hk] at hy;cases hy;obtain⟨z,hz,hb⟩:=O.ord i k hi hk hyd;refine⟨z,?_,?_⟩
       . unfold At
         rw[hlast,if_neg (by lia),if_neg (by lia)];exact hz
       refine qv0 hb ?_;unfold ahead at ha ⊢;lia
     have e3:=qc7 hr hi (by lia);refine⟨y,?_,?_⟩
     . unfold At
       rw[e3,if_pos (by lia),qH8 hi];exact hy
     unfold ahead at ha ⊢;lia
   obtain⟨y,hy,ha⟩:=O.ord i x hi h2 hd;refine⟨y,?_,ha⟩;have e3:=qc7 hr hi (by lia);by_cases e4:dist n r (prev n i)=J
   . exfalso
     have ei:prev n i=rot n r J:=by rw[<- e4,qm1 hr (qh7 hi)]
     have en:next n (rot n r J)=i:=by rw[<- ei,qH8 hi]
     rcases st with⟨hw,hl⟩ | st
     . have:i=0:=by have p:=nor n (rot n r J);lia
       subst this
       have:=K.ln hw 0 x hi h2
       have d:=dor n (hm x) 0;lia
     rw[en] at st
     have:=st x hx
     lia
   unfold At;rw[if_neg (by lia),if_neg e4];exact hy
 . exact⟨rot n r J,qG9 hr hJ,λ x hx=>by rw[qK2 hr hJ] at hx;cases hx⟩
 . rw[zAx,K.h.2 x,zBf]
   constructor
   . rintro⟨⟨j,hj,gj⟩,ne⟩
     have jr:j≠r:=λ z=>ne (by rw[z,hk] at gj;exact(Option.some.inj gj).symm)
     have d0:dist n r j≠0:=λ z=>jr ((qb4 hr hj).mp z)
     by_cases hd:dist n r j<=J
     . have e:=qc7 hr hj (by lia)
       refine⟨prev n j,qh7 hj,?_⟩;unfold At;rw[e,if_pos (by lia),qH8 hj];exact gj
     refine⟨j,hj,?_⟩;unfold At;rw[if_neg (by lia),if_neg (by lia)];exact gj
   rintro⟨i,hi,hx⟩;obtain⟨j,hj,gj,nj,_⟩:=src i x hi hx;refine⟨⟨j,hj,gj⟩,λ z=>?_⟩;subst z;exact nj (O.inj j r x hj hr gj hk)
 rcases val i x hi hx with⟨h1,h2⟩ | ⟨h1,h2⟩
 . obtain⟨e,hp,ed⟩:=mvd i x hi h1 h2
   have:=K.ln hw (next n i) x (qj7 hi) h2
   have nn:=nor n i;have d1:=dor n (hm x) (next n i);have d2:=dor n (hm x) i;lia
 exact K.ln hw i x hi h2
end
end Row
namespace My
open PySem L2
variable{H:Hp}
def Ip:V->Bool
 | .int _=>true
 | _=>false
def qau0(l m:Int):V->Bool
 | .int i=>decide (l<=i)&&decide (i<=m)
 | _=>false
def numV:V->Bool:=qau0 0 1000000000000000000
theorem qaE7{x:V}{t:String}(h:Bi H x=some t):Hh t "int" = (Ip x||(match x with | .bl _=>true | _=>false)):=by
 cases x with
 | ref b =>
   unfold Bi at h;dsimp only at h;split at h<;>cases h<;>rfl
 | _=>cases h<;>rfl
theorem qaq6{x:V}{t:String}(h:Bi H x=some t):Hh t "bool" = (match x with | .bl _=>true | _=>false):=by
 cases x with
 | ref b =>
   unfold Bi at h;dsimp only at h;split at h<;>cases h<;>rfl
 | _=>cases h<;>rfl
def bagL(x y z:Int)(L:Addr):HO:=.lst [.int x,.int y,.int z,.ref L]
structure BagAt(H:Hp)(p:Addr)(x y z:Int)(L:Addr)(ns:List Int):Prop where
 at_:H p=some (bagL x y z L)
 li:H L=some (.lst (ns.map V.int))
 x0:0<=x
 y0:0<=y
 y1:y < 2147483647
 z0:0<=z
 nn:∀ n∈ns,0<=n
def Bag(H:Hp)(p L:Addr):Prop:=∃ x y z ns,BagAt H p x y z L ns
theorem qaY1{L:Addr}{x y z:Int}{ns:List Int}:HO.lst (ns.map V.int)≠bagL x y z L:=by
 intro e;have e:ns.map V.int=[.int x,.int y,.int z,.ref L]:=HO.lst.inj e;have e:=congrArg (·[3]?) e;rw[zAv] at e;cases h:ns[3]? <;> rw[h] at e<;>cases e
theorem BagAt.ne{p L:Addr}{x y z:Int}{ns:List Int}(B:BagAt H p x y z L ns):L≠p:=ne_of B.li B.at_ qaY1
def qaS0(K:PySem.W.Frag):Sp:=λ vs H Q _=>∃(l:Addr)(ns:List Int),vs=[.ref l]/\SqL K H l (ns.map V.int)/\ns.length<=63 /\
 ∀ p L H',H p=none->H L=none->Same H H'->Bag H' p L->Q (.ref p) H'
def G5(K:PySem.W.Frag):Sp:=λ vs H Q _=>∃(l:Addr)(ns:List Int),vs=[.ref l]/\SqL K H l (ns.map V.int)/\ns.length<=63/\∀ H',Q (.bl true) H'
abbrev Pr:=List (Int×Int)
def Ak(n:Int):Prop:=0<=n/\n<=1000000000000000000
theorem qaM3{n:Int}:numV (.int n)=true↔Ak n:=by
 show (decide (0<=n)&&decide (n<=1000000000000000000))=true↔_;rw[zBi,zBf,zBf];exact Iff.rfl
structure Iq(ps:Pr):Prop where
 len:ps.length<=64
 nd:(ps.map (·.1)).Nodup
 nums:∀ p∈ps,Ak p.1/\Ak p.2
def qd2(n:Int)(ps:Pr)(k:Int):Int:=((ps.lookup k).getD k) % n
def Aw(n:Int)(wr:Bool)(ps:Pr)(k r:Int):Option Int :=
 if wr then some ((r - qd2 n ps k) % n) else if 0<=r - qd2 n ps k then some (r - qd2 n ps k) else none
def qf3(n:Int)(wr:Bool)(ps:Pr)(r one other:Int):Bool :=
 match Aw n wr ps one r,Aw n wr ps other r with
 | none,_=>false
 | some _,none=>true
 | some x,some y=>decide (y < x)||(decide (x=y)&&decide (one < other))
theorem qaj4{n:Int}(h:1<=n)(ps:Pr)(k:Int):0<=qd2 n ps k/\qd2 n ps k < n:=⟨zBr _ (by lia),zBo _ (by lia)⟩
def qu3(k:Int):Prop:=(0<=k/\k<=70000000000000000)∨(999999999999999000<=k/\k<=1000000000000000000)
theorem qu3.num{k:Int}(h:qu3 k):Ak k:=by rcases h with h | h<;>exact⟨by lia,by lia⟩
theorem qai9(k:Int)(ks:List Int):inV (.int k) (ks.map V.int)=decide (k∈ks):=by
 unfold inV;rw[List.any_map,Bool.eq_iff_iff,zC6,zBf];constructor
 . rintro⟨x,hx,e⟩
   have e:(x == k)=true:=e;rw[<- zBx.mp e];exact hx
 intro h;exact⟨k,h,zBe k⟩
structure Drawn(ks:List Int)(ps:Pr):Prop where
 len:ps.length<=14
 nd:(ps.map (·.1)).Nodup
 key:∀ q∈ps,q.1∈ks∨(300000000000000000<=q.1/\q.1<=300000000000000200)
 num:∀ q∈ps,qu3 q.2
theorem Drawn.good{ks:List Int}{ps:Pr}(D:Drawn ks ps)(h:∀ k∈ks,qu3 k):Iq ps:=by
 refine⟨by have:=D.len;lia,D.nd,λ q hq=>⟨?_,(D.num q hq).num⟩⟩;rcases D.key q hq with z | z
 . exact(h _ z).num
 exact⟨by lia,by lia⟩
end My
namespace My
open PySem L2
open Row
variable{n:Int}{ps:Pr}{r:Nat}
def hmOf(n:Int)(ps:Pr)(k:Int):Nat:=(qd2 n ps k).toNat
theorem Bz(h:1<=n)(k:Int):hmOf n ps k < n.toNat:=by
 have:=qaj4 h ps k
 unfold hmOf;lia
theorem qF2(h:1<=n)(k:Int):((hmOf n ps k:Nat):Int)=qd2 n ps k:=by
 have:=qaj4 h ps k
 unfold hmOf;lia
theorem qas5(hn:1<=n){h:Nat}(hh:h < n.toNat)(hr:r < n.toNat):((r:Int) - (h:Int)) % n=(dist n.toNat h r:Nat):=by
 rcases dor n.toNat h r with⟨h1,h2⟩ | ⟨h1,h2⟩
 . rw[Int.emod_eq_of_lt (by lia) (by lia)];lia
 have e:((r:Int) - (h:Int)) % n=((r:Int) - (h:Int)+n) % n:=by rw[Int.add_emod_right]
 rw[e,Int.emod_eq_of_lt (by lia) (by lia)]
 have:=h2 (by lia)
 lia
theorem qr2{wr:Bool}{k:Int}(hn:1<=n)(hr:r < n.toNat)(hl:wr=false->hmOf n ps k<=r):Aw n wr ps k (r:Int)=some ((dist n.toNat (hmOf n ps k) r:Nat):Int):=by
 have hh:=Bz (ps:=ps) hn k;have hc:=qF2 (ps:=ps) hn k;unfold Aw;cases wr with
 | true=>rw[if_pos rfl,<- hc,qas5 hn hh hr]
 | false =>
   have:=hl rfl
   rw[if_neg (by decide),if_pos (by lia),<- hc]
   have:=dor n.toNat (hmOf n ps k) r
   congr 1;lia
theorem qr6{wr:Bool}{x y:Int}(hn:1<=n)(hr:r < n.toNat)(hx:wr=false->hmOf n ps x<=r)(hy:wr=false->hmOf n ps y<=r):qf3 n wr ps (r:Int) x y=true↔ahead n.toNat (hmOf n ps) r x y:=by
 unfold qf3 ahead;rw[qr2 hn hr hx,qr2 hn hr hy];show (decide _||(decide _&&decide _))=true↔_;simp only[Bool.or_eq_true,zBi,zBf];lia
theorem qR3(hn:1<=n)(hr:r < n.toNat):((r:Int)+1) % n=(Row.next n.toNat r:Nat):=by
 rcases nor n.toNat r with⟨h,e⟩ | ⟨h,e⟩
 . rw[e,show ((r:Int)+1)=n by lia];simp
 rw[e,Int.emod_eq_of_lt (by lia) (by lia)];rfl
end My
namespace LV
open PySem L2
variable{Ael Ao:List Addr}{N:List Str}{P:Program}{Q:VK}{base:Heap}{cd:Expr}{i j n:Nat}{kvs:List (Key×V)}{lo:Int}{mg:Str->Option Value}{op:CmpOp}{p2 tpos:Pos}{pl:Sem Bool}{v w:V}{vs ws:List V}{z:Bool}{α:Type}{σ':St}
inductive D where
 | non | bl (b:Bool) | int (i:Int) | str (x:Str) | ty (n:String) | adr (a:Addr)
 | tup (ds:List D) | lst (z:Bool) (ds:List D) | dct (z:Bool) (kvs:List (Key×D)) | ins (z:Bool) (C:Addr) (fs:List (Str×D))
 | scr (ns:List Int)
 | hole (v:V) | unk
mutual
def D.imm:D->Bool
 | .tup ds=>D.imms ds
 | .lst z _=>z
 | .dct z _=>z
 | .ins z _ _=>z
 | _=>true
def D.imms:List D->Bool
 | []=>true
 | d::r=>d.imm&&D.imms r
end
mutual
def D.fz:D->D
 | .tup ds=>.tup (D.fzs ds)
 | .lst _ ds=>.lst true (D.fzs ds)
 | .dct _ kvs=>.dct true (D.fzk kvs)
 | .ins _ C fs=>.ins true C (D.fzf fs)
 | .non=>.non | .bl b=>.bl b | .int i=>.int i | .str x=>.str x | .ty n=>.ty n | .adr a=>.adr a | .scr ns=>.scr ns | .hole v=>.hole v | .unk=>.unk
def D.fzs:List D->List D
 | []=>[]
 | d::r=>d.fz::D.fzs r
def D.fzk:List (Key×D)->List (Key×D)
 | []=>[]
 | (k,d)::r=>(k,d.fz)::D.fzk r
def D.fzf:List (Str×D)->List (Str×D)
 | []=>[]
 | (k,d)::r=>(k,d.fz)::D.fzf r
end
mutual
inductive Rep(F:Addr->Prop)(H:Hp):V->D->List Addr->Prop
 | non:Rep F H .non .non []
 | bl (b:Bool):Rep F H (.bl b) (.bl b) []
 | int (i:Int):Rep F H (.int i) (.int i) []
 | str (x:Str):Rep F H (.str x) (.str x) []
 | ty (n:String):Rep F H (.ty n) (.ty n) []
 | adr (a:Addr):Rep F H (.ref a) (.adr a) []
 | tup {a:Addr} {vs:List V} {ds:List D} {A:List Addr} (h:H a=some (.tup vs)) (r:Reps F H vs ds A):Rep F H (.ref a) (.tup ds) A
 | lst {a:Addr} {vs:List V} {ds:List D} {A:List Addr} (h:H a=some (.lst vs)) (r:Reps F H vs ds A):Rep F H (.ref a) (.lst false ds) (a::A)
 | lstZ {a:Addr} {vs:List V} {ds:List D} (h:H a=some (.lst vs)) (f:F a) (r:Reps F H vs ds []):Rep F H (.ref a) (.lst true ds) []
 | dct {a:Addr} {kvs:List (Key×V)} {kds:List (Key×D)} {A:List Addr} (h:H a=some (.dK kvs)) (e:kvs.map (·.1)=kds.map (·.1)) (r:Reps F H (kvs.map (·.2)) (kds.map (·.2)) A):Rep F H (.ref a) (.dct false kds) (a::A)
 | dctZ {a:Addr} {kvs:List (Key×V)} {kds:List (Key×D)} (h:H a=some (.dK kvs)) (f:F a) (e:kvs.map (·.1)=kds.map (·.1)) (r:Reps F H (kvs.map (·.2)) (kds.map (·.2)) []):Rep F H (.ref a) (.dct true kds) []
 | ins {a C dx:Addr} {fvs:List (Str×V)} {fds:List (Str×D)} {A:List Addr} (h:H a=some (.ins C dx fvs)) (e:fvs.map (·.1)=fds.map (·.1)) (r:Reps F H (fvs.map (·.2)) (fds.map (·.2)) A):Rep F H (.ref a) (.ins false C fds) (a::A)
 | insZ {a C dx:Addr} {fvs:List (Str×V)} {fds:List (Str×D)} (h:H a=some (.ins C dx fvs)) (f:F a) (e:fvs.map (·.1)=fds.map (·.1)) (r:Reps F H (fvs.map (·.2)) (fds.map (·.2)) []):Rep F H (.ref a) (.ins true C fds) []
 | scr {a:Addr} {o:Obj} {ns:List Int} (h:H a=some (.frz o (.lst (ns.map V.int)))):Rep F H (.ref a) (.scr ns) []
 | hole (v:V):Rep F H v (.hole v) []
 | unk (v:V):Rep F H v .unk []
inductive Reps(F:Addr->Prop)(H:Hp):List V->List D->List Addr->Prop
 | nil:Reps F H [] [] []
 | cons {v:V} {d:D} {A:List Addr} {vs:List V} {ds:List D} {B:List Addr} (h:Rep F H v d A) (t:Reps F H vs ds B):Reps F H (v::vs) (d::ds) (A++B)
end
def En:HO->Bool
 | .lst _=>true
 | .dK _=>true
 | .ins _ _ _=>true
 | _=>false
section
variable{F F':Addr->Prop}{H H':Hp}
def Cel(H:Hp)(A:List Addr):Prop:=∀ b∈A,∃ o,H b=some o/\En o=true
theorem Cel.cons{A:List Addr}{a:Addr}{o:HO}(e:H a=some o)(m:En o=true)(h:Cel H A):Cel H (a::A):=λ b hb=>(zAi.mp hb).elim (λ q=>q ▸ ⟨_,e,m⟩) (h b)
theorem Cel.app{A B:List Addr}(h:Cel H A)(g:Cel H B):Cel H (A++B):=λ b hb=>(zAh.mp hb).elim (h b) (g b)
theorem Rep.cells{v:V}{d:D}{A:List Addr}(r:Rep F H v d A):Cel H A:=by
 induction r using Rep.rec (motive_2:=λ _ _ A _=>Cel H A) with
 | tup e r i=>exact i
 | lst e r i=>exact Cel.cons e rfl i
 | dct e _ r i=>exact Cel.cons e rfl i
 | ins e _ r i=>exact Cel.cons e rfl i
 | cons _ _ i j=>exact Cel.app i j
 | _=>nofun
theorem Reps.cells{vs:List V}{ds:List D}{A:List Addr}(r:Reps F H vs ds A):Cel H A:=by
 induction r using Reps.rec (motive_1:=λ _ _ _ _=>True) with
 | cons h _ i j=>exact Cel.app h.cells j
 | nil=>nofun
 | _=>trivial
structure Kp(F:Addr->Prop)(H:Hp)(W F':Addr->Prop)(H':Hp):Prop where
 fr:∀ b o,H b=some o->¬ W b->H' b=some o
 wm:∀ b,W b->∃ o,H b=some o/\En o=true
 wf:∀ b,W b->¬ F b
 mF:∀ b,F b->F' b
theorem Kp.tup{W:Addr->Prop}(k:Kp F H W F' H'){a:Addr}{vs:List V}(h:H a=some (.tup vs)):H' a=some (.tup vs):=by
 refine k.fr a _ h λ w=>?_
 obtain⟨o,e,m⟩:=k.wm a w;rw[h] at e;cases e;cases m
theorem Kp.frz{W:Addr->Prop}(k:Kp F H W F' H'){a:Addr}{o:Obj}{u:HO}(h:H a=some (.frz o u)):H' a=some (.frz o u):=by
 refine k.fr a _ h λ w=>?_
 obtain⟨o,e,m⟩:=k.wm a w;rw[h] at e;cases e;cases m
theorem Rep.keep{W:Addr->Prop}(k:Kp F H W F' H'){v:V}{d:D}{A:List Addr}(r:Rep F H v d A):(∀ b∈A,¬ W b)->Rep F' H' v d A:=by
 induction r using Rep.rec (motive_2:=λ vs ds A _=>(∀ b∈A,¬ W b)->Reps F' H' vs ds A) with
 | tup e r i=>exact λ h=>.tup (k.tup e) (i h)
 | lst e r i=>exact λ h=>.lst (k.fr _ _ e (zB2.mp h).1) (i (zB2.mp h).2)
 | lstZ e f r i=>exact λ h=>.lstZ (k.fr _ _ e λ w=>k.wf _ w f) (k.mF _ f) (i h)
 | dct e q r i=>exact λ h=>.dct (k.fr _ _ e (zB2.mp h).1) q (i (zB2.mp h).2)
 | dctZ e f q r i=>exact λ h=>.dctZ (k.fr _ _ e λ w=>k.wf _ w f) (k.mF _ f) q (i h)
 | ins e q r i=>exact λ h=>.ins (k.fr _ _ e (zB2.mp h).1) q (i (zB2.mp h).2)
 | insZ e f q r i=>exact λ h=>.insZ (k.fr _ _ e λ w=>k.wf _ w f) (k.mF _ f) q (i h)
 | scr e=>exact λ _=>.scr (k.frz e)
 | cons _ _ i j h=>exact Reps.cons (i (zBb.mp h).1) (j (zBb.mp h).2)
 | nil=>constructor
 | _=>intro;constructor
theorem Reps.keep{W:Addr->Prop}(k:Kp F H W F' H'){vs:List V}{ds:List D}{A:List Addr}(r:Reps F H vs ds A):(∀ b∈A,¬ W b)->Reps F' H' vs ds A:=by
 induction r using Reps.rec (motive_1:=λ _ _ _ _=>True) with
 | nil=>exact λ _=>Reps.nil
 | cons r _ i j=>exact λ h=>Reps.cons (r.keep k (zBb.mp h).1) (j (zBb.mp h).2)
 | _=>trivial
theorem Kp.same(s:Same H H'):Kp F H (λ _=>False) F H':=⟨λ b o e _=>s b o e,λ _ w=>w.elim,λ _ w=>w.elim,λ _ f=>f⟩
theorem Rep.same{d:D}{A:List Addr}(r:Rep F H v d A)(s:Same H H'):Rep F H' v d A:=r.keep (Kp.same s) λ _ _=>id
theorem Reps.same{ds:List D}{A:List Addr}(r:Reps F H vs ds A)(s:Same H H'):Reps F H' vs ds A:=r.keep (Kp.same s) λ _ _=>id
theorem Kp.more(m:∀ b,F b->F' b):Kp F H (λ _=>False) F' H:=⟨λ b o e _=>e,λ _ w=>w.elim,λ _ w=>w.elim,m⟩
mutual
theorem Rep.imm{v:V}{d:D}{A:List Addr}(r:Rep F H v d A)(h:d.imm=true):A=[]:=by
 cases r with
 | tup e r=>exact r.imms h
 | lst=>cases h
 | dct=>cases h
 | ins=>cases h
 | _=>rfl
theorem Reps.imms{vs:List V}{ds:List D}{A:List Addr}(r:Reps F H vs ds A)(h:D.imms ds=true):A=[]:=by
 cases r with
 | nil=>rfl
 | cons r t =>
   have h:=zAg.mp h;rw[r.imm h.1,t.imms h.2];rfl
end
theorem qW3(kds:List (Key×D)):(D.fzk kds).map (·.1)=kds.map (·.1)/\(D.fzk kds).map (·.2)=D.fzs (kds.map (·.2)):=by
 induction kds with
 | nil=>exact⟨rfl,rfl⟩
 | cons p r ih=>obtain⟨k,d⟩:=p;simp only[D.fzk,D.fzs,zB0,ih.1,ih.2,and_self]
theorem qW4(kds:List (Str×D)):(D.fzf kds).map (·.1)=kds.map (·.1)/\(D.fzf kds).map (·.2)=D.fzs (kds.map (·.2)):=by
 induction kds with
 | nil=>exact⟨rfl,rfl⟩
 | cons p r ih=>obtain⟨k,d⟩:=p;simp only[D.fzf,D.fzs,zB0,ih.1,ih.2,and_self]
theorem Rep.fz{v:V}{d:D}{A:List Addr}(r:Rep F H v d A)(m:∀ b,F b->F' b):(∀ b∈A,F' b)->Rep F' H v d.fz []:=by
 induction r using Rep.rec (motive_2:=λ vs ds A _=>(∀ b∈A,F' b)->Reps F' H vs (D.fzs ds) []) with
 | tup e r i=>exact λ h=>.tup e (i h)
 | lst e r i=>exact λ h=>.lstZ e (zB2.mp h).1 (i (zB2.mp h).2)
 | lstZ e f r i=>exact λ h=>.lstZ e (m _ f) (i h)
 | dct e q r i=>exact λ h=>.dctZ e (zB2.mp h).1 (q.trans (qW3 _).1.symm) ((qW3 _).2 ▸ i (zB2.mp h).2)
 | dctZ e f q r i=>exact λ h=>.dctZ e (m _ f) (q.trans (qW3 _).1.symm) ((qW3 _).2 ▸ i h)
 | ins e q r i=>exact λ h=>.insZ e (zB2.mp h).1 (q.trans (qW4 _).1.symm) ((qW4 _).2 ▸ i (zB2.mp h).2)
 | insZ e f q r i=>exact λ h=>.insZ e (m _ f) (q.trans (qW4 _).1.symm) ((qW4 _).2 ▸ i h)
 | scr e=>exact λ _=>.scr e
 | nil=>exact Reps.nil
 | cons _ _ i j h=>exact Reps.cons (A:=[]) (B:=[]) (i (zBb.mp h).1) (j (zBb.mp h).2)
 | _=>intro;constructor
theorem Reps.fz{vs:List V}{ds:List D}{A:List Addr}(r:Reps F H vs ds A)(m:∀ b,F b->F' b):(∀ b∈A,F' b)->Reps F' H vs (D.fzs ds) []:=by
 induction r using Reps.rec (motive_1:=λ _ _ _ _=>True) with
 | nil=>exact λ _=>Reps.nil
 | cons r _ i j=>exact λ h=>Reps.cons (A:=[]) (B:=[]) (r.fz m (zBb.mp h).1) (j (zBb.mp h).2)
 | _=>trivial
end
theorem ec:∀{us:List Value},us.length=n+1->∃ a vs,us=a::vs/\vs.length=n
 | a::vs,h=>⟨a,vs,rfl,Nat.succ.inj h⟩
inductive Locs(F:Addr->Prop)(H:Hp):List (Option V)->List D->List Addr->Prop
 | nil:Locs F H [] [] []
 | no {σ:List (Option V)} {ds:List D} {A:List Addr} (t:Locs F H σ ds A):Locs F H (none::σ) (.unk::ds) A
 | so {v:V} {d:D} {B:List Addr} {σ:List (Option V)} {ds:List D} {A:List Addr} (h:Rep F H v d B) (t:Locs F H σ ds A):Locs F H (some v::σ) (d::ds) (B++A)
section
variable{F F':Addr->Prop}{H H':Hp}
theorem Locs.cells{σ:List (Option V)}{ds:List D}{A:List Addr}(r:Locs F H σ ds A):∀ b∈A,∃ o,H b=some o/\En o=true:=by
 induction r with
 | nil=>intro b h;cases h
 | no t ih=>exact ih
 | so h t ih =>
   intro b hb;rcases zAh.mp hb with hb | hb
   . exact h.cells b hb
   exact ih b hb
theorem Locs.keep{W:Addr->Prop}(k:Kp F H W F' H'){σ:List (Option V)}{ds:List D}{A:List Addr}(r:Locs F H σ ds A):(∀ b∈A,¬ W b)->Locs F' H' σ ds A:=by
 induction r with
 | nil=>exact λ _=>.nil
 | no t ih=>exact λ h=>.no (ih h)
 | so h t ih=>exact λ q=>.so (h.keep k λ b hb=>q b (zAh.mpr (.inl hb))) (ih λ b hb=>q b (zAh.mpr (.inr hb)))
theorem Locs.same{σ:List (Option V)}{ds:List D}{A:List Addr}(r:Locs F H σ ds A)(s:Same H H'):Locs F H' σ ds A:=r.keep (Kp.same s) λ _ _=>id
theorem Locs.len{σ:List (Option V)}{ds:List D}{A:List Addr}(r:Locs F H σ ds A):σ.length=ds.length:=by
 induction r with
 | nil=>rfl
 | no t ih=>simp[ih]
 | so h t ih=>simp[ih]
theorem Locs.append{σ τ:List (Option V)}{ds es:List D}{A B:List Addr}(r:Locs F H σ ds A)(t:Locs F H τ es B):Locs F H (σ++τ) (ds++es) (A++B):=by
 induction r with
 | nil=>exact t
 | no _ ih=>exact .no ih
 | so h _ ih=>rw[zB7];exact .so h ih
inductive G6(F:Addr->Prop)(H:Hp):Option V->D->List Addr->Prop
 | no:G6 F H none .unk []
 | so {v:V} {d:D} {B:List Addr} (h:Rep F H v d B):G6 F H (some v) d B
theorem Locs.cons{o:Option V}{d:D}{B:List Addr}{σ:List (Option V)}{ds:List D}{A:List Addr}(h:G6 F H o d B)(t:Locs F H σ ds A):Locs F H (o::σ) (d::ds) (B++A):=by
 cases h with
 | no=>exact .no t
 | so h=>exact .so h t
theorem Locs.split:∀{ds:List D}{σ:List (Option V)}{A:List Addr}{i:Nat}{d:D},Locs F H σ ds A->ds[i]? = some d ->
   ∃ σ1 o σ2 ds1 ds2 A1 B A2,σ=σ1++o::σ2/\ds=ds1++d::ds2/\σ1.length=i/\ds1.length=i/\A=A1++(B++A2)/\Locs F H σ1 ds1 A1/\G6 F H o d B/\Locs F H σ2 ds2 A2:=by
 intro ds
 induction ds with
 | nil=>intro σ A i d _ h;simp at h
 | cons e r ih =>
   intro σ A i d L h;cases i with
   | zero =>
     have:e=d:=by simpa using h
     subst this;cases L with
     | no t=>exact⟨[],none,_,[],_,[],[],_,rfl,rfl,rfl,rfl,rfl,.nil,.no,t⟩
     | so q t=>exact⟨[],some _,_,[],_,[],_,_,rfl,rfl,rfl,rfl,rfl,.nil,.so q,t⟩
   | succ i =>
     have h:r[i]? = some d:=by simpa using h
     cases L with
     | no t =>
       obtain⟨σ1,o,σ2,ds1,ds2,A1,B,A2,e1,e2,e3,e4,e5,l1,l2,l3⟩:=ih t h;exact⟨none::σ1,o,σ2,_::ds1,ds2,A1,B,A2,by rw[e1];rfl,by rw[e2];rfl,by simp[e3],by simp[e4],e5,.no l1,l2,l3⟩
     | @so v _ B0 _ _ A0 q t =>
       obtain⟨σ1,o,σ2,ds1,ds2,A1,B,A2,e1,e2,e3,e4,e5,l1,l2,l3⟩:=ih t h;exact⟨some v::σ1,o,σ2,_::ds1,ds2,B0++A1,B,A2,by rw[e1];rfl,by rw[e2];rfl,by simp[e3],by simp[e4],by rw[e5,zB7],.so q l1,l2,l3⟩
end
theorem qp8{l1 l2:List α}{x y:α}(h:l1.length=i):(l1++x::l2).set i y=l1++y::l2:=by
 subst h;rw[List.set_append_right _ _ (zA3 _),Nat.sub_self];rfl
theorem qF3{l1 l2:List α}{x:α}(h:l1.length=i):(l1++x::l2)[i]? = some x:=by
 subst h;simp
structure Ok(F:Addr->Prop)(H:Hp)(A:List Addr):Prop where
 sep:∀ b,A.count b<=1
 fro:∀ b,F b->A.count b=0
 ex:∀ b,F b->∃ o,H b=some o
structure Stp(F:Addr->Prop)(H:Hp)(A:List Addr)(F':Addr->Prop)(H':Hp)(A':List Addr):Prop where
 fr:∀ b o,H b=some o->A.count b=0->H' b=some o
 sub:∀ b o,H b=some o->A.count b=0->A'.count b=0
 mono:∀ b,F b->F' b
 fnew:∀ b o,H b=some o->A.count b=0->F' b->F b
section
variable{F F1 F2:Addr->Prop}{H H1 H2:Hp}{A A1 A2 T:List Addr}
theorem Stp.refl:Stp F H A F H A:=⟨λ _ _ e _=>e,λ _ _ _ e=>e,λ _ f=>f,λ _ _ _ _ f=>f⟩
theorem Stp.trans(s:Stp F H A F1 H1 A1)(t:Stp F1 H1 A1 F2 H2 A2):Stp F H A F2 H2 A2 :=
 ⟨λ b o e q=>t.fr b o (s.fr b o e q) (s.sub b o e q),λ b o e q=>t.sub b o (s.fr b o e q) (s.sub b o e q),λ b f=>t.mono b (s.mono b f),λ b o e q f=>s.fnew b o e q (t.fnew b o (s.fr b o e q) (s.sub b o e q) f)⟩
theorem Stp.same(s:Same H H1):Stp F H A F H1 A:=⟨λ b o e _=>s b o e,λ _ _ _ e=>e,λ _ f=>f,λ _ _ _ _ f=>f⟩
theorem qb2{b:Addr}{A:List Addr}:b∈A↔A.count b≠0:=by
 rw[<- List.count_pos_iff];lia
theorem Stp.kp(s:Stp F H A F1 H1 A1)(o:Ok F H A)(c:∀ b∈A,∃ o,H b=some o/\En o=true):Kp F H (λ b=>A.count b≠0) F1 H1 :=
 ⟨λ b u e w=>s.fr b u e (by lia),λ b w=>c b (qb2.mpr w),λ b w f=>w (o.fro b f),s.mono⟩
theorem Ok.left(o:Ok F H (T++A)):Ok F H T:=⟨λ b=>by have:=o.sep b;rw[zA0] at this;lia,λ b f=>by have:=o.fro b f;rw[zA0] at this;lia,o.ex⟩
theorem Ok.right(o:Ok F H (T++A)):Ok F H A:=⟨λ b=>by have:=o.sep b;rw[zA0] at this;lia,λ b f=>by have:=o.fro b f;rw[zA0] at this;lia,o.ex⟩
theorem Ok.count(o:Ok F H A)(h:∀ b,A1.count b<=A.count b):Ok F H A1:=⟨λ b=>zAp (h b) (o.sep b),λ b f=>by have:=o.fro b f;have:=h b;lia,o.ex⟩
theorem Stp.frame(s:Stp F H A F1 H1 A1)(o:Ok F H (T++A))(c:∀ b∈T,∃ o,H b=some o/\En o=true)(o1:Ok F1 H1 A1):Ok F1 H1 (T++A1)/\Stp F H (T++A) F1 H1 (T++A1):=by
 have key:∀ b,T.count b≠0->∃ u,H b=some u/\A.count b=0:=λ b h=>by
   obtain⟨u,e,_⟩:=c b (qb2.mpr h)
   have:=o.sep b
   rw[zA0] at this;exact⟨u,e,by lia⟩
 refine⟨⟨λ b=>?_,λ b f=>?_,o1.ex⟩,λ b u e q=>?_,λ b u e q=>?_,s.mono,λ b u e q f=>?_⟩
 . rw[zA0]
   by_cases h:T.count b=0
   . have:=o1.sep b;lia
   obtain⟨u,e,q⟩:=key b h;have h1:=s.sub b u e q
   have:=o.sep b
   rw[zA0] at this;lia
 . rw[zA0,o1.fro b f]
   by_cases h:T.count b=0
   . lia
   obtain⟨u,e,q⟩:=key b h
   have:=o.fro b (s.fnew b u e q f)
   rw[zA0] at this;lia
 . rw[zA0] at q;exact s.fr b u e (by lia)
 . rw[zA0] at q ⊢;have:=s.sub b u e (by lia);lia
 rw[zA0] at q;exact s.fnew b u e (by lia) f
theorem Stp.count(s:Stp F H A F1 H1 A1)(h:∀ b,A2.count b<=A1.count b):Stp F H A F1 H1 A2:=⟨s.fr,λ b o e q=>by have:=s.sub b o e q;have:=h b;lia,s.mono,s.fnew⟩
theorem Stp.pre(s:Stp F H A F1 H1 A1)(h:∀ b,A.count b=A2.count b):Stp F H A2 F1 H1 A1:=⟨λ b o e q=>s.fr b o e (by rw[h];exact q),λ b o e q=>s.sub b o e (by rw[h];exact q),s.mono,λ b o e q f=>s.fnew b o e (by rw[h];exact q) f⟩
end
structure New(H:Hp)(B:List Addr):Prop where
 one:∀ b,B.count b<=1
 new:∀ b o,H b=some o->B.count b=0
section
variable{F:Addr->Prop}{H H':Hp}{A B:List Addr}
theorem New.nil:New H []:=⟨λ b=>by simp,λ b o _=>by simp⟩
theorem New.ok(n:New H B)(o:Ok F H A)(c:∀ b∈A,∃ o,H b=some o/\En o=true)(s:Same H H'):Ok F H' (B++A):=by
 refine⟨λ b=>?_,λ b f=>?_,λ b f=>?_⟩
 . rw[zA0]
   have h1:=n.one b;have h2:=o.sep b;by_cases h:A.count b=0
   . lia
   obtain⟨u,e,_⟩:=c b (qb2.mpr h)
   have:=n.new b u e
   lia
 . rw[zA0,o.fro b f]
   obtain⟨u,e⟩:=o.ex b f;rw[n.new b u e]
 obtain⟨u,e⟩:=o.ex b f;exact⟨u,s b u e⟩
theorem New.append{H1:Hp}{B1:List Addr}(n:New H B)(s:Same H H1)(c:∀ b∈B,∃ o,H1 b=some o/\En o=true)(n1:New H1 B1):New H (B++B1):=by
 refine⟨λ b=>?_,λ b o e=>?_⟩
 . rw[zA0]
   have h1:=n.one b;have h2:=n1.one b;by_cases h:B.count b=0
   . lia
   obtain⟨u,e,_⟩:=c b (qb2.mpr h)
   have:=n1.new b u e
   lia
 rw[zA0,n.new b o e,n1.new b o (s b o e)]
theorem Ok.same(o:Ok F H A)(s:Same H H'):Ok F H' A:=⟨o.sep,o.fro,λ b f=>let ⟨u,e⟩:=o.ex b f;⟨u,s b u e⟩⟩
theorem New.stp(n:New H B)(s:Same H H'):Stp F H A F H' (B++A):=⟨λ b o e _=>s b o e,λ b o e q=>by rw[zA0,n.new b o e,q],λ _ f=>f,λ _ _ _ _ f=>f⟩
end
structure Exn where
 C:Addr
 fs:List (Str×D)
def RepX(F:Addr->Prop)(H:Hp)(e:Addr)(x:Exn):Prop :=
 ∃ od,H e=some (ExcO e x.C od false)/\(x.fs=[]∨∃ dx fvs,od=some dx/\H dx=some (XD dx fvs)/\fvs.map (·.1)=x.fs.map (·.1)/\Reps F H (fvs.map (·.2)) (x.fs.map (·.2)) [])
abbrev Ds:=List D
abbrev DK:=D->Ds->Prop
abbrev XKd:=Exn->Ds->Prop
abbrev VT:=Ds->DK->XKd->Prop
abbrev VTT:=Ds->(Bool->Ds->Prop)->XKd->Prop
abbrev VTA:=Ds->(Ds->Ds->Prop)->XKd->Prop
abbrev FV:=Ds->Option D
structure Vc where
 E:XK
 W:Nat->Bool
 av:List (Option V)
 gv:List (Option V)
structure Sta(c:Vc)(F:Addr->Prop)(H:Hp)(σ:St)(ds:Ds)(A:List Addr):Prop where
 loc:Locs F H (σ++c.gv) ds A
 ok:Ok F H A
 len:c.av.length=(σ++c.gv).length
 ag:∀ i,c.W i=true->(σ++c.gv)[i]? = c.av[i]?
theorem Sta.same{c:Vc}{F:Addr->Prop}{H H':Hp}{σ:St}{ds:Ds}{A:List Addr}(S:Sta c F H σ ds A)(s:Same H H'):Sta c F H' σ ds A:=⟨S.loc.same s,S.ok.same s,S.len,S.ag⟩
def Xc(c:Vc)(xe:XKd)(F:Addr->Prop)(H:Hp)(A:List Addr):Prop :=
 ∀ x ds' σ' e H' F' A',xe x ds'->RepX F' H' e x->Sta c F' H' σ' ds' A'->Stp F H A F' H' A'->c.E (.ref e) none H'
theorem Xc.step{c:Vc}{xe:XKd}{F F1:Addr->Prop}{H H1:Hp}{A A1:List Addr}(x:Xc c xe F H A)(s:Stp F H A F1 H1 A1):Xc c xe F1 H1 A1:=λ y ds' σ' e H' F' A' h r S t=>x y ds' σ' e H' F' A' h r S (s.trans t)
def kE(c:Vc)(σ:St)(F:Addr->Prop)(H:Hp)(A:List Addr)(Q:VK):DK:=λ d ds'=>∀ v H' F' T A',Rep F' H' v d T->Sta c F' H' σ ds' A'->Ok F' H' (T++A')->Stp F H A F' H' (T++A')->Q v H'
inductive LiftE(c:Vc)(t:VT)(σ:St)(H:Hp)(Q:VK):Prop
 | mk (F:Addr->Prop) (ds:Ds) (A:List Addr) (xe:XKd) (S:Sta c F H σ ds A) (x:Xc c xe F H A) (q:t ds (kE c σ F H A Q) xe):LiftE c t σ H Q
def Bj(c:Vc)(t:VT):TE:=LiftE c t
inductive LiftV(c:Vc)(own:Bool)(f:FV)(σ:St)(H:Hp)(Q:VK):Prop
 | mk (F:Addr->Prop) (ds:Ds) (A:List Addr) (d:D) (S:Sta c F H σ ds A) (e:f ds=some d) (q:∀ v H' B,Rep F H' v d B->Same H H'->(own=true->New H B)->Q v H'):LiftV c own f σ H Q
def liftV(c:Vc)(own:Bool)(f:FV):TE:=LiftV c own f
inductive qaR1(c:Vc)(own:Bool)(f:Ds->Option Ds)(σ:St)(H:Hp)(Q:List V->Hp->Prop):Prop
 | mk (F:Addr->Prop) (ds:Ds) (A:List Addr) (xs:Ds) (S:Sta c F H σ ds A) (e:f ds=some xs) (q:∀ vs H' B,Reps F H' vs xs B->Same H H'->(own=true->New H B)->Q vs H'):qaR1 c own f σ H Q
def qaN2(c:Vc)(own:Bool)(f:Ds->Option Ds):TA:=qaR1 c own f
inductive qaR3(c:Vc)(t:VTA)(σ:St)(H:Hp)(Q:List V->Hp->Prop):Prop
 | mk (F:Addr->Prop) (ds:Ds) (A:List Addr) (xe:XKd) (S:Sta c F H σ ds A) (x:Xc c xe F H A) (q:t ds (λ xs ds'=>∀ vs H' F' T A',Reps F' H' vs xs T->Sta c F' H' σ ds' A'->Stp F H A F' H' A'->Q vs H') xe):qaR3 c t σ H Q
def qaE0(c:Vc)(t:VTA):TA:=qaR3 c t
inductive LiftT(c:Vc)(t:VTT)(σ:St)(H:Hp)(Q:Bool->Hp->Prop):Prop
 | mk (F:Addr->Prop) (ds:Ds) (A:List Addr) (xe:XKd) (S:Sta c F H σ ds A) (x:Xc c xe F H A) (q:t ds (λ b ds'=>∀ H' F' A',Sta c F' H' σ ds' A'->Stp F H A F' H' A'->Q b H') xe):LiftT c t σ H Q
def Dv(c:Vc)(t:VTT):TT:=LiftT c t
structure VE(c:Vc)(X:Cx)(e:Expr)(t:VT):Prop where
 h:PE X e (Bj c t)
 m:∀ ds (Q Q':DK) (xe xe':XKd),(∀ d ds',Q d ds'->Q' d ds')->(∀ x ds',xe x ds'->xe' x ds')->t ds Q xe->t ds Q' xe'
structure VV(c:Vc)(X:Cx)(e:Expr)(own:Bool)(f:FV):Prop where
 h:PE X e (liftV c own f)
structure VVs(c:Vc)(X:Cx)(es:List Expr)(own:Bool)(f:Ds->Option Ds):Prop where
 h:PA X es (qaN2 c own f)
structure VOs(c:Vc)(X:Cx)(es:List Expr)(t:VTA):Prop where
 h:PA X es (qaE0 c t)
 m:∀ ds (Q Q':Ds->Ds->Prop) (xe xe':XKd),(∀ d ds',Q d ds'->Q' d ds')->(∀ x ds',xe x ds'->xe' x ds')->t ds Q xe->t ds Q' xe'
structure VTe(c:Vc)(X:Cx)(e:Expr)(t:VTT):Prop where
 h:PT X e (Dv c t)
 m:∀ ds (Q Q':Bool->Ds->Prop) (xe xe':XKd),(∀ d ds',Q d ds'->Q' d ds')->(∀ x ds',xe x ds'->xe' x ds')->t ds Q xe->t ds Q' xe'
theorem PE.mono{X:Cx}{e:Expr}{t t':TE}(h:PE X e t)(i:∀ σ H Q,t' σ H Q->t σ H Q):PE X e t':=λ D4 s σ H Q I q=>h D4 s σ H Q I (i σ H Q q)
theorem PT.mono{X:Cx}{e:Expr}{t t':TT}(h:PT X e t)(i:∀ σ H Q,t' σ H Q->t σ H Q):PT X e t':=λ D4 s σ H Q I q=>h D4 s σ H Q I (i σ H Q q)
theorem PW.mono{X:Cx}{e:Expr}{t t':TT}(h:PW X e t)(i:∀ σ H Q,t' σ H Q->t σ H Q):PW X e t':=λ w D4 s σ H Q I q=>h w D4 s σ H Q I (i σ H Q q)
theorem PA.mono{X:Cx}{es:List Expr}{t t':TA}(h:PA X es t)(i:∀ σ H Q,t' σ H Q->t σ H Q):PA X es t':=λ p D4 s σ H Q I q=>h p D4 s σ H Q I (i σ H Q q)
theorem PS.mono{X:Cx}{st:Stmt}{t t':TS}(h:PS X st t)(i:∀ D σ H,t' D σ H->t D σ H):PS X st t':=λ D4 s σ H D I q=>h D4 s σ H D I (i D σ H q)
theorem PSs.mono{X:Cx}{st:List Stmt}{t t':TS}(h:PSs X st t)(i:∀ D σ H,t' D σ H->t D σ H):PSs X st t':=λ D4 s σ H D I q=>h D4 s σ H D I (i D σ H q)
def orF{α:Type}(o:Option α)(k:α->Prop):Prop:=match o with | some a=>k a | none=>False
theorem qaC8{a:α}{k:α->Prop}:orF (some a) k=k a:=rfl
theorem qa4{o:Option α}{k k':α->Prop}(h:∀ a,k a->k' a):orF o k->orF o k':=by
 cases o with
 | none=>exact id
 | some a=>exact h a
theorem qa7{o:Option α}{k:α->Prop}:orF o k↔∃ a,o=some a/\k a:=by
 cases o with
 | none=>exact⟨λ h=>h.elim,λ ⟨_,e,_⟩=>by cases e⟩
 | some a=>exact⟨λ h=>⟨a,rfl,h⟩,λ ⟨b,e,h⟩=>by cases e;exact h⟩
section
variable{c:Vc}{X:Cx}{e:Expr}{F:Addr->Prop}{H H':Hp}{σ:St}{ds:Ds}{A:List Addr}
theorem Sta.new{B:List Addr}(S:Sta c F H σ ds A)(n:New H B)(s:Same H H'):Ok F H' (B++A):=n.ok S.ok S.loc.cells s
def Bn(f:FV):VT:=λ ds Q _=>orF (f ds) λ d=>Q d ds
def B9(f:FV):VT:=λ ds Q _=>orF (f ds) λ d=>d.imm=true/\Q d ds
theorem qa5{f:FV}(h:VV c X e true f):VE c X e (Bn f):=by
 refine⟨PE.mono h.h λ σ H Q ⟨F,ds,A,xe,S,x,q⟩=>?_,λ ds Q Q' xe xe' hQ _=>qa4 λ d=>hQ d ds⟩;obtain⟨d,e,q⟩:=qa7.mp q;exact⟨F,ds,A,d,S,e,λ v H' B r s n=>q v H' F B A r (S.same s) (S.new (n rfl) s) ((n rfl).stp s)⟩
theorem qb5{own:Bool}{f:FV}(h:VV c X e own f):VE c X e (B9 f):=by
 refine⟨PE.mono h.h λ σ H Q ⟨F,ds,A,xe,S,x,q⟩=>?_,λ ds Q Q' xe xe' hQ _=>qa4 λ d=>And.imp_right (hQ d ds)⟩;obtain⟨d,e,hi,q⟩:=qa7.mp q;refine⟨F,ds,A,d,S,e,λ v H' B r s _=>?_⟩
 have:=r.imm hi
 subst this;exact q v H' F [] A r (S.same s) (S.ok.same s) (.same s)
theorem Ge{d:D}(h:PE X e (tC v))(r:∀ F H,Rep F H v d []):VV c X e true (λ _=>some d) :=
 ⟨PE.mono h λ σ H Q ⟨F,ds,A,d',S,e,q⟩=>by cases e;exact q v H [] (r F H) (λ _ _ z=>z) λ _=>New.nil⟩
def D.known:D->Bool
 | .unk=>false
 | .hole _=>false
 | _=>true
def rdN(i:Nat):FV:=λ ds=>match ds[i]? with
 | some d=>if d.known=true then some d else none
 | none=>none
theorem qn8{d:D}:rdN i ds=some d↔ds[i]? = some d/\d.known=true:=by
 unfold rdN;cases h:ds[i]? with
 | none=>simp
 | some x =>
   dsimp only;split
   . rename_i hk;constructor
     . intro e;cases e;exact⟨rfl,hk⟩
     rintro⟨e,_⟩;exact e
   rename_i hk;constructor
   . intro e;cases e
   rintro⟨e,h2⟩;cases e;exact absurd h2 hk
theorem Sta.at{d:D}(S:Sta c F H σ ds A)(hi:i < σ.length)(h:ds[i]? = some d)(hk:d.known=true):∃ v B,σ[i]? = some (some v)/\Rep F H v d B/\∀ b,B.count b<=A.count b:=by
 obtain⟨σ1,o,σ2,ds1,ds2,A1,B,A2,e1,e2,e3,e4,e5,l1,l2,l3⟩:=S.loc.split h;cases l2 with
 | no=>cases hk
 | @so v _ _ r =>
   refine⟨v,B,?_,r,λ b=>by rw[e5];simp only[zA0];lia⟩
   have:(σ++c.gv)[i]? = some (some v):=by rw[e1];exact qF3 e3
   rwa[zAs hi] at this
theorem qaH5{x:Str}{pos:Pos}(h:PE X (.Name x pos) (Fy i))(hi:∀ D4 σ H s,Inv X D4 σ H s->i < σ.length):VV c X (.Name x pos) false (rdN i):=by
 refine⟨λ D4 s σ H Q I ⟨F,ds,A,d,S,e,q⟩=>h D4 s σ H Q I ?_⟩;obtain⟨e,hk⟩:=qn8.mp e;obtain⟨v,B,h1,r,_⟩:=S.at (hi D4 σ H s I) e hk;exact⟨v,h1,q v H B r (λ _ _ z=>z) λ z=>by cases z⟩
theorem qu1{X:Cx}{x:Str}(hN:X.N[i]? = some x):∀ D4 σ H s,Inv X D4 σ H s->i < σ.length:=λ D4 σ H s I=>by
 rw[I.len];exact(zA4.mp hN).1
end
def Sub(H:Hp)(B B':List Addr):Prop:=∀ b,B'.count b<=B.count b∨(B'.count b<=1/\H b=none)
theorem Sub.new{H H1:Hp}{B B':List Addr}(s:Sub H1 B B')(n:New H B)(q:Same H H1):New H B':=by
 refine⟨λ b=>?_,λ b o e=>?_⟩
 . rcases s b with h | ⟨h,_⟩
   . have:=n.one b;lia
   exact h
 rcases s b with h | ⟨_,h⟩
 . have:=n.new b o e;lia
 rw[q b o e] at h;cases h
def OpS(nw:Bool)(r:List V->Hp->VK->Prop)(g:Ds->Option D):Prop:=∀ F H vs xs B d (Q:VK),Reps F H vs xs B->g xs=some d ->
 (∀ v H' B',Rep F H' v d B'->Same H H'->(if nw=true then New H B' else Sub H B B')->Q v H')->r vs H Q
def Bb(nw:Bool)(r:R2)(g:D->D->Option D):Prop:=∀ F H v w x y B d (Q:VK),Reps F H [v,w] [x,y] B->g x y=some d ->
 (∀ v H' B',Rep F H' v d B'->Same H H'->(if nw=true then New H B' else Sub H B B')->Q v H')->r v w H Q
def f2(g:D->D->Option D)(fa fb:FV):FV:=λ ds=>(fa ds).bind λ x=>(fb ds).bind λ y=>g x y
theorem qaF5{g:D->D->Option D}{fa fb:FV}{ds:Ds}{d:D}:f2 g fa fb ds=some d↔∃ x y,fa ds=some x/\fb ds=some y/\g x y=some d:=by
 unfold f2;cases ha:fa ds with
 | none=>simp
 | some x=>cases hb:fb ds with
   | none=>simp
   | some y=>simp
def f1(g:D->Option D)(fa:FV):FV:=λ ds=>(fa ds).bind g
theorem qaF6{g:D->Option D}{fa:FV}{ds:Ds}{d:D}:f1 g fa ds=some d↔∃ x,fa ds=some x/\g x=some d:=by
 unfold f1;cases ha:fa ds with
 | none=>simp
 | some x=>simp
theorem Gf{F:Addr->Prop}{H:Hp}{d e:D}{A B:List Addr}(r:Rep F H v d A)(s:Rep F H w e B):Reps F H [v,w] [d,e] (A++(B++[])):=.cons r (.cons s .nil)
section
variable{c:Vc}{X:Cx}{a b:Expr}{oa ob nw:Bool}{fa fb:FV}{r:R2}{g:D->D->Option D}{ta tb:VT}
theorem op_vv(h:Bb nw r g):∀ σ H Q,liftV c (nw||(oa&&ob)) (f2 g fa fb) σ H Q->tOp r (liftV c oa fa) (liftV c ob fb) σ H Q:=by
 rintro σ H Q ⟨F,ds,A,d,S,e,q⟩;obtain⟨x,y,ea,eb,eg⟩:=qaF5.mp e;refine⟨F,ds,A,x,S,ea,λ v H1 B1 r1 s1 n1=>⟨F,ds,A,y,S.same s1,eb,λ w H2 B2 r2 s2 n2=>?_⟩⟩;refine h F H2 v w x y _ d Q (Gf (r1.same s2) r2) eg λ u H3 B3 r3 s3 h3=>?_
 refine q u H3 B3 r3 ((s1.trans s2).trans s3) λ ho=>?_
 cases nw with
 | true=>rw[if_pos rfl] at h3;exact⟨h3.one,λ b o e=>h3.new b o (s2 b o (s1 b o e))⟩
 | false =>
   rw[if_neg (by decide)] at h3;have ho:=zAg.mp ho
   have:=(n1 ho.1).append s1 r1.cells (n2 ho.2)
   exact h3.new (by rw[zAf];exact this) (s1.trans s2)
def t2(g:D->D->Option D)(ta tb:VT):VT:=λ ds Q xe=>ta ds (λ x ds1=>tb ds1 (λ y ds2=>orF (g x y) λ d=>Q d ds2) xe) xe
theorem qaI4(ha:VE c X a ta)(hb:VE c X b tb):∀ ds (Q Q':DK) (xe xe':XKd),(∀ d ds',Q d ds'->Q' d ds')->(∀ x ds',xe x ds'->xe' x ds')->t2 g ta tb ds Q xe->t2 g ta tb ds Q' xe' :=
 λ ds Q Q' xe xe' hQ hx=>ha.m _ _ _ _ _ (λ d ds1=>hb.m _ _ _ _ _ (λ d ds2=>qa4 λ z=>hQ z ds2) hx) hx
theorem op_ee(ha:VE c X a ta)(hb:VE c X b tb)(h:Bb true r g):∀ σ H Q,Bj c (t2 g ta tb) σ H Q->tOp r (Bj c ta) (Bj c tb) σ H Q:=by
 rintro σ H Q ⟨F,ds,A,xe,S,x,q⟩;refine⟨F,ds,A,xe,S,x,ha.m _ _ _ _ _ (λ d1 ds1 q v H1 F1 T A1 r1 S1 o1 s1=>?_) (λ _ _ z=>z) q⟩;have s1':Stp F H A F1 H1 A1:=s1.count λ b=>by rw[zA0];lia
 refine⟨F1,ds1,A1,xe,S1,x.step s1',hb.m _ _ _ _ _ (λ d2 ds2 q w H2 F2 T2 A2 r2 S2 o2 s2=>?_) (λ _ _ z=>z) q⟩;obtain⟨d,eg,q⟩:=qa7.mp q;have s2':Stp F1 H1 A1 F2 H2 A2:=s2.count λ b=>by rw[zA0];lia
 have r1':Rep F2 H2 v d1 T:=r1.keep (s2'.kp S1.ok S1.loc.cells) λ b hb hc=>by
   have:=o1.sep b
   rw[zA0] at this
   have:=qb2.mp hb
   lia
 refine h F2 H2 v w d1 d2 _ d Q (Gf r1' r2) eg λ u H3 B3 r3 s3 n3=>?_
 rw[if_pos rfl] at n3;exact q u H3 F2 B3 A2 r3 (S2.same s3) (S2.new n3 s3) ((s1'.trans s2').trans (n3.stp s3))
def t2v(g:D->D->Option D)(ta:VT)(fb:FV):VT:=λ ds Q xe=>ta ds (λ x ds1=>orF ((fb ds1).bind (g x)) λ d=>Q d ds1) xe
theorem qaz7(ha:VE c X a ta):∀ ds (Q Q':DK) (xe xe':XKd),(∀ d ds',Q d ds'->Q' d ds')->(∀ x ds',xe x ds'->xe' x ds')->t2v g ta fb ds Q xe->t2v g ta fb ds Q' xe' :=
 λ ds Q Q' xe xe' hQ hx=>ha.m _ _ _ _ _ (λ d ds1=>qa4 λ z=>hQ z ds1) hx
theorem op_ev(ha:VE c X a ta)(h:Bb true r g):∀ σ H Q,Bj c (t2v g ta fb) σ H Q->tOp r (Bj c ta) (liftV c ob fb) σ H Q:=by
 rintro σ H Q ⟨F,ds,A,xe,S,x,q⟩;refine⟨F,ds,A,xe,S,x,ha.m _ _ _ _ _ (λ d1 ds1 q v H1 F1 T A1 r1 S1 o1 s1=>?_) (λ _ _ z=>z) q⟩;have s1':Stp F H A F1 H1 A1:=s1.count λ b=>by rw[zA0];lia
 obtain⟨d,eg,q⟩:=qa7.mp q;obtain⟨y,eb,eg⟩:=zA1.mp eg;refine⟨F1,ds1,A1,y,S1,eb,λ w H2 B2 r2 s2 _=>?_⟩;refine h F1 H2 v w d1 y _ d Q (Gf (r1.same s2) r2) eg λ u H3 B3 r3 s3 n3=>?_
 rw[if_pos rfl] at n3;have s23:=s2.trans s3;have n3':New H1 B3:=⟨n3.one,λ b o e=>n3.new b o (s2 b o e)⟩
 exact q u H3 F1 B3 A1 r3 (S1.same s23) (S1.new n3' s23) (s1'.trans (n3'.stp s23))
def OpS1(nw:Bool)(r:V->Hp->VK->Prop)(g:D->Option D):Prop:=∀ F H v x B d (Q:VK),Rep F H v x B->g x=some d ->
 (∀ v H' B',Rep F H' v d B'->Same H H'->(if nw=true then New H B' else Sub H B B')->Q v H')->r v H Q
def t1(g:D->Option D)(ta:VT):VT:=λ ds Q xe=>ta ds (λ x ds1=>orF (g x) λ d=>Q d ds1) xe
variable{r1:V->Hp->VK->Prop}{g1:D->Option D}
theorem op_v(h:OpS1 nw r1 g1):∀ σ H Q,liftV c (nw||oa) (f1 g1 fa) σ H Q->liftV c oa fa σ H (λ x H1=>r1 x H1 Q):=by
 rintro σ H Q ⟨F,ds,A,d,S,e,q⟩;obtain⟨x,ea,eg⟩:=qaF6.mp e;refine⟨F,ds,A,x,S,ea,λ v H1 B1 r1 s1 n1=>?_⟩;refine h F H1 v x _ d Q r1 eg λ u H3 B3 r3 s3 h3=>?_
 refine q u H3 B3 r3 (s1.trans s3) λ ho=>?_
 cases nw with
 | true=>rw[if_pos rfl] at h3;exact⟨h3.one,λ b o e=>h3.new b o (s1 b o e)⟩
 | false=>rw[if_neg (by decide)] at h3;exact h3.new (n1 ho) s1
end
theorem qaq9{F F1:Addr->Prop}{H H1 H3:Hp}{A A1 T B:List Addr}(o1:Ok F1 H1 (T++A1))(s1:Stp F H A F1 H1 (T++A1))(cA:∀ b∈A1,∃ o,H1 b=some o/\En o=true)(s3:Same H1 H3)(n3:Sub H1 T B):Ok F1 H3 (B++A1)/\Stp F H A F1 H3 (B++A1):=by
 refine⟨⟨λ b=>?_,λ b f=>?_,λ b f=>let ⟨u,e⟩:=o1.ex b f;⟨u,s3 b u e⟩⟩,λ b o e q=>s3 b o (s1.fr b o e q),λ b o e q=>?_,s1.mono,s1.fnew⟩
 . have:=o1.sep b
   rw[zA0] at this ⊢;rcases n3 b with h | ⟨h,hn⟩
   . lia
   by_cases hA:A1.count b=0
   . lia
   obtain⟨o,e,_⟩:=cA b (qb2.mpr hA);rw[e] at hn;cases hn
 . have:=o1.fro b f
   rw[zA0] at this ⊢;rcases n3 b with h | ⟨h,hn⟩
   . lia
   obtain⟨o,e⟩:=o1.ex b f;rw[e] at hn;cases hn
 have:=s1.sub b o e q
 rw[zA0] at this ⊢;rcases n3 b with h | ⟨h,hn⟩
 . lia
 rw[s1.fr b o e q] at hn;cases hn
section
variable{c:Vc}{X:Cx}{a b:Expr}{oa ob nw:Bool}{fa fb:FV}{r:R2}{g:D->D->Option D}{ta:VT}
def Hk(g:D->D->Option D)(ta:VT)(fb:FV):VT:=λ ds Q xe=>ta ds (λ x ds1=>orF (fb ds1) λ y=>y.imm=true/\orF (g x y) λ d=>Q d ds1) xe
theorem qan7(ha:VE c X a ta):∀ ds (Q Q':DK) (xe xe':XKd),(∀ d ds',Q d ds'->Q' d ds')->(∀ x ds',xe x ds'->xe' x ds')->Hk g ta fb ds Q xe->Hk g ta fb ds Q' xe' :=
 λ ds Q Q' xe xe' hQ hx=>ha.m _ _ _ _ _ (λ d ds1=>qa4 λ y=>And.imp_right (qa4 λ z=>hQ z ds1)) hx
theorem qaU2(ha:VE c X a ta)(h:Bb false r g):∀ σ H Q,Bj c (Hk g ta fb) σ H Q->tOp r (Bj c ta) (liftV c ob fb) σ H Q:=by
 rintro σ H Q ⟨F,ds,A,xe,S,x,q⟩;refine⟨F,ds,A,xe,S,x,ha.m _ _ _ _ _ (λ d1 ds1 q v H1 F1 T A1 r1 S1 o1 s1=>?_) (λ _ _ z=>z) q⟩;obtain⟨y,eb,hy,q⟩:=qa7.mp q;obtain⟨d,eg,q⟩:=qa7.mp q;refine⟨F1,ds1,A1,y,S1,eb,λ w H2 B2 r2 s2 _=>?_⟩
 have:=r2.imm hy
 subst this;refine h F1 H2 v w d1 y _ d Q (Gf (r1.same s2) r2) eg λ u H3 B3 r3 s3 n3=>?_
 rw[if_neg (by decide),zAf,zAf] at n3;have s23:=s2.trans s3;have n4:Sub H1 T B3:=λ b=>(n3 b).imp id λ ⟨h1,h2⟩=>⟨h1,by
   cases e:H1 b with
   | none=>rfl
   | some o=>rw[s2 b o e] at h2;cases h2⟩
 obtain⟨k1,k2⟩:=qaq9 o1 s1 S1.loc.cells s23 n4;exact q u H3 F1 B3 A1 r3 (S1.same s23) k1 k2
theorem qa6:VVs c X [] true (λ _=>some []):=⟨PA.mono ql6 λ σ H Q ⟨F,ds,A,xs,S,e,q⟩=>by cases e;exact q [] H [] .nil (λ _ _ z=>z) λ _=>New.nil⟩
def Au(fa:FV)(fr:Ds->Option Ds):Ds->Option Ds:=λ ds=>(fa ds).bind λ x=>(fr ds).bind λ xs=>some (x::xs)
theorem qas2{fa:FV}{fr:Ds->Option Ds}{ds xs:Ds}:Au fa fr ds=some xs↔∃ x r,fa ds=some x/\fr ds=some r/\xs=x::r:=by
 unfold Au;cases ha:fa ds with
 | none=>simp
 | some x=>cases hb:fr ds with
   | none=>simp
   | some y=>simp[eq_comm]
theorem qa2{e:Expr}{es:List Expr}{own:Bool}{fr:Ds->Option Ds}(ha:VV c X e oa fa)(hr:VVs c X es own fr)(hs:starEach (e::es) X.env=(false,eval e X.env)::starEach es X.env):VVs c X (e::es) (oa&&own) (Au fa fr):=by
 refine⟨PA.mono (qc4 ha.h hr.h hs) λ σ H Q ⟨F,ds,A,xs,S,e,q⟩=>?_⟩;obtain⟨x,r,e1,e2,rfl⟩:=qas2.mp e;refine⟨F,ds,A,x,S,e1,λ v H1 B1 r1 s1 n1=>⟨F,ds,A,r,S.same s1,e2,λ vs H2 B2 r2 s2 n2=>?_⟩⟩;refine q (v::vs) H2 (B1++B2) (.cons (r1.same s2) r2) (s1.trans s2) λ ho=>?_
 have ho:=zAg.mp ho;exact(n1 ho.1).append s1 r1.cells (n2 ho.2)
variable{rc:List V->Hp->VK->Prop}{gc:Ds->Option D}
theorem qaL7{own:Bool}{f:Ds->Option Ds}(h:OpS nw rc gc):∀ σ H Q,liftV c (nw||own) (λ ds=>(f ds).bind gc) σ H Q->tCB rc (qaN2 c own f) σ H Q:=by
 rintro σ H Q ⟨F,ds,A,d,S,e,q⟩;obtain⟨xs,e1,e2⟩:=zA1.mp e;refine⟨F,ds,A,xs,S,e1,λ vs H1 B1 r1 s1 n1=>h F H1 vs xs B1 d Q r1 e2 λ u H3 B3 r3 s3 h3=>q u H3 B3 r3 (s1.trans s3) λ ho=>?_⟩;cases nw with
 | true=>rw[if_pos rfl] at h3;exact⟨h3.one,λ b o e=>h3.new b o (s1 b o e)⟩
 | false=>rw[if_neg (by decide)] at h3;exact h3.new (n1 ho) s1
def tcO(gc:Ds->Option D)(t:VTA):VT:=λ ds Q xe=>t ds (λ xs ds1=>orF (gc xs) λ d=>Q d ds1) xe
theorem qaz3{es:List Expr}{t:VTA}(ha:VOs c X es t):∀ ds (Q Q':DK) (xe xe':XKd),(∀ d ds',Q d ds'->Q' d ds')->(∀ x ds',xe x ds'->xe' x ds')->tcO gc t ds Q xe->tcO gc t ds Q' xe' :=
 λ ds Q Q' xe xe' hQ hx=>ha.m _ _ _ _ _ (λ d ds1=>qa4 λ z=>hQ z ds1) hx
theorem opc_o{es:List Expr}{t:VTA}(ha:VOs c X es t)(h:OpS true rc gc):∀ σ H Q,Bj c (tcO gc t) σ H Q->tCB rc (qaE0 c t) σ H Q:=by
 rintro σ H Q ⟨F,ds,A,xe,S,x,q⟩;refine⟨F,ds,A,xe,S,x,ha.m _ _ _ _ _ (λ xs ds1 q vs H1 F1 T A1 r1 S1 s1=>?_) (λ _ _ z=>z) q⟩;obtain⟨d,eg,q⟩:=qa7.mp q;refine h F1 H1 vs xs T d Q r1 eg λ u H3 B3 r3 s3 n3=>?_
 rw[if_pos rfl] at n3;exact q u H3 F1 B3 A1 r3 (S1.same s3) (S1.new n3 s3) (s1.trans (n3.stp s3))
end
def D.kids:D->List D
 | .tup ds=>ds
 | .lst false ds=>ds
 | .dct false kvs=>kvs.map (·.2)
 | .ins false _ fs=>fs.map (·.2)
 | _=>[]
def Hl{κ:Type}:List (κ×D)->Nat->D->List (κ×D)
 | [],_,_=>[]
 | (k,_)::r,0,x=>(k,x)::r
 | p::r,n+1,x=>p::Hl r n x
theorem qP4{κ:Type}:∀(l:List (κ×D))(n:Nat)(x:D),(Hl l n x).map (·.1)=l.map (·.1)/\(Hl l n x).map (·.2)=(l.map (·.2)).set n x
 | [],_,_=>⟨rfl,rfl⟩
 | (k,_)::r,0,x=>⟨rfl,rfl⟩
 | p::r,n+1,x=>by
   obtain⟨h1,h2⟩:=qP4 r n x;simp only[Hl,zB0,h1,h2,List.set_cons_succ,and_self]
def D.setK:D->Nat->D->D
 | .tup ds,n,x=>.tup (ds.set n x)
 | .lst z ds,n,x=>.lst z (ds.set n x)
 | .dct z kvs,n,x=>.dct z (Hl kvs n x)
 | .ins z C fs,n,x=>.ins z C (Hl fs n x)
 | d,_,_=>d
def Lnk(H:Hp)(u:V)(n:Nat)(w:V):Prop:=∃ a,u=.ref a /\
 ((∃ vs,H a=some (.tup vs)/\vs[n]? = some w)∨(∃ vs,H a=some (.lst vs)/\vs[n]? = some w)∨(∃ kvs,H a=some (.dK kvs)/\(kvs.map (·.2))[n]? = some w)∨∃ C dx fs,H a=some (.ins C dx fs)/\(fs.map (·.2))[n]? = some w)
section
variable{F F':Addr->Prop}{H H':Hp}
theorem Reps.split:∀{ds:List D}{vs:List V}{A:List Addr}{i:Nat}{d:D},Reps F H vs ds A->ds[i]? = some d ->
   ∃ vs1 v vs2 ds1 ds2 A1 B A2,vs=vs1++v::vs2/\ds=ds1++d::ds2/\vs1.length=i/\ds1.length=i/\A=A1++(B++A2)/\Reps F H vs1 ds1 A1/\Rep F H v d B/\Reps F H vs2 ds2 A2:=by
 intro ds
 induction ds with
 | nil=>intro σ A i d _ h;simp at h
 | cons e r ih =>
   intro σ A i d L h;cases i with
   | zero =>
     have:e=d:=by simpa using h
     subst this;cases L with
     | cons q t=>exact⟨[],_,_,[],_,[],_,_,rfl,rfl,rfl,rfl,rfl,.nil,q,t⟩
   | succ i =>
     have h:r[i]? = some d:=by simpa using h
     cases L with
     | @cons v _ B0 _ _ A0 q t =>
       obtain⟨σ1,o,σ2,ds1,ds2,A1,B,A2,e1,e2,e3,e4,e5,l1,l2,l3⟩:=ih t h;exact⟨v::σ1,o,σ2,_::ds1,ds2,B0++A1,B,A2,by rw[e1];rfl,by rw[e2];rfl,by simp[e3],by simp[e4],by rw[e5,zB7],.cons q l1,l2,l3⟩
theorem Reps.append{ds es:List D}{A B:List Addr}(r:Reps F H vs ds A)(t:Reps F H ws es B):Reps F H (vs++ws) (ds++es) (A++B):=by
 induction vs generalizing ds A with
 | nil=>cases r;exact t
 | cons v vs ih =>
   cases r with
   | cons h t'=>rw[zB7];exact .cons h (ih t')
theorem Reps.kid{ds:List D}{A:List Addr}{d:D}(r:Reps F H vs ds A)(h:ds[n]? = some d):∃(w:V)(B C:List Addr),vs[n]? = some w/\Rep F H w d B/\(∀ b,A.count b=B.count b+C.count b) /\
   ∀{F':Addr->Prop}{H':Hp}{W:Addr->Prop}(d':D)(B':List Addr),Kp F H W F' H'->(∀ b∈C,¬ W b)->Rep F' H' w d' B'->∃ A':List Addr,Reps F' H' vs (ds.set n d') A'/\∀ b,A'.count b=B'.count b+C.count b:=by
 obtain⟨vs1,v,vs2,ds1,ds2,A1,B,A2,e1,e2,e3,e4,e5,l1,l2,l3⟩:=r.split h;refine⟨v,B,A1++A2,by rw[e1];exact qF3 e3,l2,λ b=>by rw[e5];simp only[zA0];lia,λ{F' H' W} d' B' k hc r'=>⟨A1++(B'++A2),?_,λ b=>by simp only[zA0];lia⟩⟩;rw[e1,e2,qp8 e4];exact(l1.keep k λ b hb=>hc b (zAh.mpr (.inl hb))).append (.cons r' (l3.keep k λ b hb=>hc b (zAh.mpr (.inr hb))))
theorem Rep.kid{v0:V}{d0 d:D}{A:List Addr}(r:Rep F H v0 d0 A)(h:d0.kids[n]? = some d):∃(w:V)(B C:List Addr),Lnk H v0 n w/\Rep F H w d B/\(∀ b,A.count b=B.count b+C.count b) /\
   ∀{F':Addr->Prop}{H':Hp}{W:Addr->Prop}(d':D)(B':List Addr),Kp F H W F' H'->(∀ b∈C,¬ W b)->Rep F' H' w d' B'->∃ A':List Addr,Rep F' H' v0 (d0.setK n d') A'/\∀ b,A'.count b=B'.count b+C.count b:=by
 cases r with
 | @tup a vs ds _ e r =>
   obtain⟨w,B,C,h1,h2,h3,h4⟩:=r.kid (n:=n) h;refine⟨w,B,C,⟨a,rfl,.inl ⟨vs,e,h1⟩⟩,h2,h3,λ{F' H' W} d' B' k hc r'=>?_⟩;obtain⟨A',q1,q2⟩:=h4 d' B' k hc r';exact⟨A',.tup (k.tup e) q1,q2⟩
 | @lst a vs ds A e r =>
   obtain⟨w,B,C,h1,h2,h3,h4⟩:=r.kid (n:=n) h;refine⟨w,B,a::C,⟨a,rfl,.inr (.inl ⟨vs,e,h1⟩)⟩,h2,λ b=>by rw[zAl,zAl,h3];lia,λ{F' H' W} d' B' k hc r'=>?_⟩;obtain⟨A',q1,q2⟩:=h4 d' B' k (λ b hb=>hc b (zA6 _ hb)) r';exact⟨a::A',.lst (k.fr a _ e (hc a zA7)) q1,λ b=>by rw[zAl,zAl,q2];lia⟩
 | @dct a kvs kds A e q r =>
   obtain⟨w,B,C,h1,h2,h3,h4⟩:=r.kid (n:=n) h;refine⟨w,B,a::C,⟨a,rfl,.inr (.inr (.inl ⟨kvs,e,h1⟩))⟩,h2,λ b=>by rw[zAl,zAl,h3];lia,λ{F' H' W} d' B' k hc r'=>?_⟩;obtain⟨A',q1,q2⟩:=h4 d' B' k (λ b hb=>hc b (zA6 _ hb)) r';obtain⟨m1,m2⟩:=qP4 kds n d';exact⟨a::A',.dct (k.fr a _ e (hc a zA7)) (q.trans m1.symm) (by rw[m2];exact q1),λ b=>by rw[zAl,zAl,q2];lia⟩
 | @ins a C0 dx fvs fds A e q r =>
   obtain⟨w,B,C,h1,h2,h3,h4⟩:=r.kid (n:=n) h;refine⟨w,B,a::C,⟨a,rfl,.inr (.inr (.inr ⟨C0,dx,fvs,e,h1⟩))⟩,h2,λ b=>by rw[zAl,zAl,h3];lia,λ{F' H' W} d' B' k hc r'=>?_⟩;obtain⟨A',q1,q2⟩:=h4 d' B' k (λ b hb=>hc b (zA6 _ hb)) r';obtain⟨m1,m2⟩:=qP4 fds n d';exact⟨a::A',.ins (k.fr a _ e (hc a zA7)) (q.trans m1.symm) (by rw[m2];exact q1),λ b=>by rw[zAl,zAl,q2];lia⟩
 | _=>simp[D.kids] at h
def D.getP:D->List Nat->Option D
 | d,[]=>some d
 | d,n::p=>match d.kids[n]? with
   | some e=>e.getP p
   | none=>none
def D.setP:D->List Nat->D->D
 | _,[],x=>x
 | d,n::p,x=>match d.kids[n]? with
   | some e=>d.setK n (e.setP p x)
   | none=>d
def Walk(H:Hp):V->List Nat->V->Prop
 | u,[],w=>u=w
 | u,n::p,w=>∃ v,Lnk H u n v/\Walk H v p w
theorem Rep.path:∀{p:List Nat}{v0:V}{d0 d:D}{A:List Addr},Rep F H v0 d0 A->d0.getP p=some d->∃(w:V)(B C:List Addr),Walk H v0 p w/\Rep F H w d B/\(∀ b,A.count b=B.count b+C.count b) /\
   ∀{F':Addr->Prop}{H':Hp}{W:Addr->Prop}(d':D)(B':List Addr),Kp F H W F' H'->(∀ b∈C,¬ W b)->Rep F' H' w d' B'->∃ A':List Addr,Rep F' H' v0 (d0.setP p d') A'/\∀ b,A'.count b=B'.count b+C.count b:=by
 intro p
 induction p with
 | nil =>
   intro v0 d0 d A r h;cases h;exact⟨v0,A,[],rfl,r,λ b=>by simp,λ{F' H' W} d' B' k hc r'=>⟨B',r',λ b=>by simp⟩⟩
 | cons n p ih =>
   intro v0 d0 d A r h;unfold D.getP at h;cases hk:d0.kids[n]? with
   | none=>rw[hk] at h;cases h
   | some e =>
     rw[hk] at h;obtain⟨w1,B1,C1,k1,k2,k3,k4⟩:=r.kid hk;obtain⟨w,B,C,h1,h2,h3,h4⟩:=ih k2 h;refine⟨w,B,C++C1,⟨w1,k1,h1⟩,h2,λ b=>by rw[k3,h3,zA0];lia,λ{F' H' W} d' B' k hc r'=>?_⟩;obtain⟨A1,q1,q2⟩:=h4 d' B' k (λ b hb=>hc b (zAh.mpr (.inl hb))) r';obtain⟨A2,q3,q4⟩:=k4 (e.setP p d') A1 k (λ b hb=>hc b (zAh.mpr (.inr hb))) q1;refine⟨A2,?_,λ b=>by rw[q4,q2,zA0];lia⟩;unfold D.setP;rw[hk];exact q3
def A7(ds:Ds)(i:Nat)(p:List Nat):Option D:=match ds[i]? with
 | some d=>d.getP p
 | none=>none
def Bd(ds:Ds)(i:Nat)(p:List Nat)(x:D):Ds:=match ds[i]? with
 | some d=>ds.set i (d.setP p x)
 | none=>ds
theorem qaj9{p:List Nat}{d:D}(h:D.getP .unk p=some d):p=[]/\d=.unk:=by
 cases p with
 | nil=>cases h;exact⟨rfl,rfl⟩
 | cons n p=>simp[D.getP,D.kids] at h
theorem Locs.place{σ:List (Option V)}{ds:Ds}{A:List Addr}{p:List Nat}{d:D}(L:Locs F H σ ds A)(h:A7 ds i p=some d)(hd:d≠.unk):∃(u w:V)(B C:List Addr),σ[i]? = some (some u)/\Walk H u p w/\Rep F H w d B/\(∀ b,A.count b=B.count b+C.count b) /\
   ∀{F':Addr->Prop}{H':Hp}{W:Addr->Prop}(d':D)(B':List Addr),Kp F H W F' H'->(∀ b∈C,¬ W b)->Rep F' H' w d' B'->∃ A':List Addr,Locs F' H' σ (Bd ds i p d') A'/\∀ b,A'.count b=B'.count b+C.count b:=by
 unfold A7 at h;cases hi:ds[i]? with
 | none=>rw[hi] at h;cases h
 | some d0 =>
   rw[hi] at h;obtain⟨σ1,o,σ2,ds1,ds2,A1,B0,A2,e1,e2,e3,e4,e5,l1,l2,l3⟩:=L.split hi;cases l2 with
   | no=>exact absurd (qaj9 h).2 hd
   | @so u _ _ r =>
     obtain⟨w,B,C,h1,h2,h3,h4⟩:=r.path h;refine⟨u,w,B,A1++(C++A2),by rw[e1];exact qF3 e3,h1,h2,λ b=>by rw[e5];simp only[zA0,h3];lia,λ{F' H' W} d' B' k hc r'=>?_⟩;obtain⟨A',q1,q2⟩:=h4 d' B' k (λ b hb=>hc b (zAh.mpr (.inr (zAh.mpr (.inl hb))))) r';refine⟨A1++(A'++A2),?_,λ b=>by simp only[zA0,q2];lia⟩;unfold Bd;rw[hi,e1];dsimp only;rw[e2,qp8 e4];exact(l1.keep k λ b hb=>hc b (zAh.mpr (.inl hb))).append (.so q1 (l3.keep k λ b hb=>hc b (zAh.mpr (.inr (zAh.mpr (.inr hb))))))
theorem Lnk.fn{u:V}(h:Lnk H u n v)(h':Lnk H u n w):v=w:=by
 obtain⟨a,rfl,h⟩:=h;obtain⟨b,e,h'⟩:=h';cases e;rcases h with⟨vs,e,h⟩ | ⟨vs,e,h⟩ | ⟨vs,e,h⟩ | ⟨C,dx,vs,e,h⟩<;>rcases h' with⟨vs',e',h'⟩ | ⟨vs',e',h'⟩ | ⟨vs',e',h'⟩ | ⟨C',dx',vs',e',h'⟩<;>rw[e] at e'<;>cases e'<;>rw[h] at h'<;>exact Option.some.inj h'
theorem Walk.fn:∀{p:List Nat}{u v w:V},Walk H u p v->Walk H u p w->v=w
 | [],_,_,_,h,h'=>h.symm.trans h'
 | n::p,_,_,_,⟨x,h1,h2⟩,⟨y,h3,h4⟩=>by
   cases h1.fn h3;exact Walk.fn h2 h4
theorem Lnk.same{u:V}(h:Lnk H u n v)(s:Same H H'):Lnk H' u n v:=by
 obtain⟨a,rfl,h⟩:=h;refine⟨a,rfl,?_⟩;rcases h with⟨vs,e,h⟩ | ⟨vs,e,h⟩ | ⟨vs,e,h⟩ | ⟨C,dx,vs,e,h⟩
 . exact .inl ⟨vs,s _ _ e,h⟩
 . exact .inr (.inl ⟨vs,s _ _ e,h⟩)
 . exact .inr (.inr (.inl ⟨vs,s _ _ e,h⟩))
 exact .inr (.inr (.inr ⟨C,dx,vs,s _ _ e,h⟩))
theorem Walk.same:∀{p:List Nat}{u v:V},Walk H u p v->Same H H'->Walk H' u p v
 | [],_,_,h,_=>h
 | n::p,_,_,⟨x,h1,h2⟩,s=>⟨x,h1.same s,h2.same s⟩
end
section
variable{c:Vc}{X:Cx}{b:Expr}{r:R2}{g:D->D->Option D}{tb:VT}
def t2n(g:D->D->Option D)(i:Nat)(tb:VT):VT:=λ ds Q xe=>(rdN i ds).isSome=true/\tb ds (λ y ds1=>orF ((rdN i ds1).bind λ x=>g x y) λ d=>Q d ds1) xe
theorem qaz8(hb:VE c X b tb):∀ ds (Q Q':DK) (xe xe':XKd),(∀ d ds',Q d ds'->Q' d ds')->(∀ x ds',xe x ds'->xe' x ds')->t2n g i tb ds Q xe->t2n g i tb ds Q' xe' :=
 λ ds Q Q' xe xe' hQ hx=>And.imp_right (hb.m _ _ _ _ _ (λ d ds1=>qa4 λ z=>hQ z ds1) hx)
theorem Sta.name{F:Addr->Prop}{H:Hp}{σ:St}{ds:Ds}{A:List Addr}{d:D}(S:Sta c F H σ ds A)(hi:i < σ.length)(h:rdN i ds=some d):∃ v B,σ[i]? = some (some v)/\Rep F H v d B/\∀ b,B.count b<=A.count b :=
 let ⟨e,k⟩:=qn8.mp h
 S.at hi e k
theorem op_ne{σ:St}{H:Hp}(hb:VE c X b tb)(h:Bb true r g)(hi:i < σ.length)(q:Bj c (t2n g i tb) σ H Q):tOp r (Fy i) (Bj c tb) σ H Q:=by
 obtain⟨F,ds,A,xe,S,x,hs,q⟩:=q;obtain⟨d0,hd0⟩:=zB8.mp hs;obtain⟨v,B0,hv,_,_⟩:=S.name hi hd0;refine⟨v,hv,F,ds,A,xe,S,x,hb.m _ _ _ _ _ (λ d1 ds1 q w H1 F1 T A1 r1 S1 o1 s1=>?_) (λ _ _ z=>z) q⟩;have s1':Stp F H A F1 H1 A1:=s1.count λ b=>by rw[zA0];lia
 obtain⟨d,eg,q⟩:=qa7.mp q;obtain⟨y,ey,eg⟩:=zA1.mp eg;obtain⟨v',B,hv',r2,_⟩:=S1.name hi ey;rw[hv] at hv';cases hv';refine h F1 H1 v w y d1 _ d Q (Gf r2 r1) eg λ u H3 B3 r3 s3 n3=>?_
 rw[if_pos rfl] at n3;exact q u H3 F1 B3 A1 r3 (S1.same s3) (S1.new n3 s3) (s1'.trans (n3.stp s3))
def t2nP(g:D->D->Option D)(i:Nat)(tb:VT):VT:=λ ds Q xe=>(rdN i ds).isSome=true/\tb ds (λ y ds1=>orF ((rdN i ds1).bind λ x=>g x y) λ d=>d.imm=true/\Q d ds1) xe
end
section
variable{F:Addr->Prop}{H:Hp}{K:PySem.W.Frag}
theorem Rep.lst_inv{ds:List D}{B:List Addr}(r:Rep F H v (.lst z ds) B):∃ a vs A,v=.ref a/\H a=some (.lst vs)/\Reps F H vs ds A/\∀ b,A.count b<=B.count b:=by
 cases r with
 | lst h r=>exact⟨_,_,_,rfl,h,r,λ b=>by rw[zAl];lia⟩
 | lstZ h f r=>exact⟨_,_,_,rfl,h,r,λ b=>zA3 _⟩
theorem Rep.tup_inv{ds:List D}{B:List Addr}(r:Rep F H v (.tup ds) B):∃ a vs,v=.ref a/\H a=some (.tup vs)/\Reps F H vs ds B:=by
 cases r with
 | tup h r=>exact⟨_,_,rfl,h,r⟩
theorem Rep.dct_inv{kds:List (Key×D)}{B:List Addr}(r:Rep F H v (.dct z kds) B):∃ a kvs A,v=.ref a/\H a=some (.dK kvs)/\kvs.map (·.1)=kds.map (·.1)/\Reps F H (kvs.map (·.2)) (kds.map (·.2)) A/\∀ b,A.count b<=B.count b:=by
 cases r with
 | dct h e r=>exact⟨_,_,_,rfl,h,e,r,λ b=>by rw[zAl];lia⟩
 | dctZ h f e r=>exact⟨_,_,_,rfl,h,e,r,λ b=>zA3 _⟩
theorem Rep.ins_inv{C:Addr}{fds:List (Str×D)}{B:List Addr}(r:Rep F H v (.ins z C fds) B):∃ a dx fvs A,v=.ref a/\H a=some (.ins C dx fvs)/\fvs.map (·.1)=fds.map (·.1)/\Reps F H (fvs.map (·.2)) (fds.map (·.2)) A/\∀ b,A.count b<=B.count b:=by
 cases r with
 | ins h e r=>exact⟨_,_,_,_,rfl,h,e,r,λ b=>by rw[zAl];lia⟩
 | insZ h f e r=>exact⟨_,_,_,_,rfl,h,e,r,λ b=>zA3 _⟩
def D.elems:D->Option Ds
 | .lst _ ds=>some ds
 | .tup ds=>some ds
 | _=>none
theorem Rep.elems{d:D}{ds:Ds}{B:List Addr}(r:Rep F H v d B)(h:d.elems=some ds):∃ a vs A,v=.ref a/\(SqL K H a vs∨SqT K H a vs)/\Reps F H vs ds A/\∀ b,A.count b<=B.count b:=by
 cases d with
 | lst z xs=>cases h;obtain⟨a,vs,A,e,h,r,q⟩:=r.lst_inv;exact⟨a,vs,A,e,.inl (.inl (.inl h)),r,q⟩
 | tup xs=>cases h;obtain⟨a,vs,e,h,r⟩:=r.tup_inv;exact⟨a,vs,_,e,.inr (.inl (.inl h)),r,λ _=>zA3 _⟩
 | _=>cases h
theorem Reps.len{ds:List D}{A:List Addr}(r:Reps F H vs ds A):vs.length=ds.length:=by
 induction vs generalizing ds A with
 | nil=>cases r;rfl
 | cons v vs ih=>cases r with | cons h t=>simp[ih t]
theorem qh9{p:Addr}(hp:H p=none):New H [p]:=⟨λ b=>by rw[zAl];simp;split<;>lia,λ b o e=>by
 have:b≠p:=λ z=>by rw[z,hp] at e;cases e
 simp[zAl,Ne.symm this]⟩
theorem qE5{p:Addr}{ds:Ds}(hp:H p=none)(r:Reps F H vs ds []):Rep F (upd H p (.lst vs)) (.ref p) (.lst false ds) [p]:=.lst qc2 (r.same (Same.new hp))
theorem qag5{p:Addr}{ds:Ds}{A:List Addr}(hp:H p=none)(r:Reps F H vs ds A):Rep F (upd H p (.tup vs)) (.ref p) (.tup ds) A:=.tup qc2 (r.same (Same.new hp))
theorem Reps.get{ds:List D}{A:List Addr}{d:D}(r:Reps F H vs ds A)(h:ds[n]? = some d):∃ w B,vs[n]? = some w/\Rep F H w d B/\∀ b,B.count b<=A.count b:=by
 obtain⟨w,B,C,h1,h2,h3,_⟩:=r.kid h;exact⟨w,B,h1,h2,λ b=>by have:=h3 b;lia⟩
theorem Reps.atI{ds:List D}{A:List Addr}{i:Int}{d:D}(r:Reps F H vs ds A)(h:L2.atI ds i=some d):∃ w B,L2.atI vs i=some w/\Rep F H w d B/\∀ b,B.count b<=A.count b:=by
 unfold L2.atI at h ⊢;rw[r.len];cases e:ixN ds.length i with
 | none=>rw[e] at h;cases h
 | some j =>
   rw[e] at h;exact r.get h
theorem Reps.sub{ds:List D}{A:List Addr}(r:Reps F H vs ds A)(n m:Nat):∃ B,Reps F H ((vs.drop n).take m) ((ds.drop n).take m) B/\∀ b,B.count b<=A.count b:=by
 induction n generalizing vs ds A with
 | zero =>
   induction m generalizing vs ds A with
   | zero=>exact⟨[],.nil,λ b=>by simp⟩
   | succ m ih =>
     cases r with
     | nil=>exact⟨[],.nil,λ b=>by simp⟩
     | cons h t =>
       obtain⟨B,q1,q2⟩:=ih t;exact⟨_,.cons h (by simpa using q1),λ b=>by simp only[zA0];have:=q2 b;lia⟩
 | succ n ih =>
   cases r with
   | nil=>exact⟨[],by simpa using Reps.nil,λ b=>by simp⟩
   | cons h t =>
     obtain⟨B,q1,q2⟩:=ih t;exact⟨B,by simpa using q1,λ b=>by simp only[zA0];have:=q2 b;lia⟩
def D.flat:D->Option V
 | .non=>some .non
 | .bl b=>some (.bl b)
 | .int i=>some (.int i)
 | .str x=>some (.str x)
 | _=>none
theorem Rep.flat{d:D}{B:List Addr}(r:Rep F H v d B)(h:d.flat=some w):v=w/\flatV v=true:=by
 cases r<;>cases h<;>exact⟨rfl,rfl⟩
end
def big:Nat:=1000000
theorem qg3:big<=sizeLine:=by decide
theorem qu6:∀(xs ys:List D),D.imms (xs++ys)=(D.imms xs&&D.imms ys)
 | [],ys=>by simp[D.imms]
 | x::xs,ys=>by simp[D.imms,qu6 xs ys,Bool.and_assoc]
section
variable{F:Addr->Prop}{H:Hp}
theorem Reps.imms0{ds:Ds}{A:List Addr}(r:Reps F H vs ds A)(h:D.imms ds=true):Reps F H vs ds []:=by
 have:=r.imms h
 subst this;exact r
theorem Reps.rep{ds:Ds}(r:Reps F H vs ds []):∀ k:Nat,Reps F H (List.replicate k vs).flatten (List.replicate k ds).flatten []
 | 0=>.nil
 | k+1=>by
   rw[zBk,zBk,zBz,zBz];exact r.append (B:=[]) (r.rep k)
end
def gd(p:Prop)[Decidable p](d:D):Option D:=if p then some d else none
theorem qw8{p:Prop}[Decidable p]{d e:D}(h:gd p d=some e):p/\d=e:=by
 unfold gd at h;split at h
 . rename_i hp;exact⟨hp,Option.some.inj h⟩
 cases h
theorem qm3{p:Prop}[Decidable p]{d:D}(h:p):gd p d=some d:=if_pos h
def gAdd:D->D->Option D
 | .int i,.int j=>some (.int (i+j))
 | .str a,.str b=>gd (a.length+b.length<=big) (.str (a++b))
 | .lst _ xs,.lst _ ys=>gd (D.imms xs=true/\D.imms ys=true/\xs.length+ys.length<=big) (.lst false (xs++ys))
 | _,_=>none
def rAddA:R2:=λ x y H Q=>rI0 (λ i j=>.int (i+j)) x y H Q∨(∃ i j,x=.str i/\y=.str j/\i.length+j.length<=sizeLine/\Q (.str (i++j)) H)∨rCat x y H Q
theorem qk8{X:Cx}:OpR X (binaryOp .Add) rAddA:=qaU4.or (qaf8.or qaU3)
theorem qk7:Bb true rAddA gAdd:=by
 intro F H v w x y B d Q r h q;cases r with | @cons _ _ A _ _ _ r1 t=>cases t with | @cons _ _ A2 _ _ _ r2 _ =>
 cases x with
 | int i =>
   cases y with
   | int j=>cases h;cases r1;cases r2;exact .inl ⟨i,j,rfl,rfl,q _ H [] (.int _) (λ _ _ z=>z) New.nil⟩
   | _=>cases h
 | str a =>
   cases y with
   | str b =>
     obtain⟨hl,rfl⟩:=qw8 h;cases r1;cases r2;exact .inr (.inl ⟨a,b,rfl,rfl,zAp hl qg3,q _ H [] (.str _) (λ _ _ z=>z) New.nil⟩)
   | _=>cases h
 | lst z xs =>
   cases y with
   | lst z2 ys =>
     obtain⟨hl,rfl⟩:=qw8 h;obtain⟨a,vs,_,rfl,h1,q1,_⟩:=r1.lst_inv;obtain⟨b,ws,_,rfl,h2,q2,_⟩:=r2.lst_inv;refine .inr (.inr ⟨a,b,vs,ws,rfl,rfl,h1,h2,by rw[q1.len,q2.len];exact zAp hl.2.2 qg3,λ p hp=>?_⟩);exact q _ _ [p] (qE5 hp ((q1.imms0 hl.1).append (q2.imms0 hl.2.1))) (Same.new hp) (qh9 hp)
   | _=>cases h
 | _=>cases h
def small(i:Int):Bool:=decide (-(2 ^ 64) < i)&&decide (i < 2 ^ 64)
theorem qU3{i:Int}(h:small i=true):-(2 ^ 64) < i/\i < 2 ^ 64:=by
 have:=zAg.mp h
 exact⟨zAb this.1,zAb this.2⟩
def Hm:D->D->Option D
 | .int i,.int j=>gd ((small i||small j)=true) (.int (i * j))
 | .lst _ xs,.int k=>gd (D.imms xs=true/\xs.length * k.toNat<=big/\k < 1000000/\-1000000 < k) (.lst false (List.replicate k.toNat xs).flatten)
 | _,_=>none
def rMulA:R2:=λ x y H Q=>rI CMul (λ i j=>.int (i * j)) x y H Q∨rRep x y H Q
theorem qt5{X:Cx}:OpR X (binaryOp .Mult) rMulA:=qaT8.or qaT6
theorem qt4:Bb true rMulA Hm:=by
 intro F H v w x y B d Q r h q;cases r with | @cons _ _ A _ _ _ r1 t=>cases t with | @cons _ _ A2 _ _ _ r2 _ =>
 cases x with
 | int i =>
   cases y with
   | int j =>
     obtain⟨hl,rfl⟩:=qw8 h;cases r1;cases r2;refine .inl ⟨i,j,rfl,rfl,?_,q _ H [] (.int _) (λ _ _ z=>z) New.nil⟩;rcases Bool.or_eq_true_iff.mp hl with h | h
     . exact .inl (qU3 h)
     exact .inr (qU3 h)
   | _=>cases h
 | lst z xs =>
   cases y with
   | int k =>
     obtain⟨hl,rfl⟩:=qw8 h;obtain⟨a,vs,_,rfl,h1,q1,_⟩:=r1.lst_inv;cases r2;refine .inr ⟨a,k,vs,rfl,rfl,h1,by lia,by lia,by rw[q1.len];exact zAp hl.2.1 qg3,λ p hp=>?_⟩;exact q _ _ [p] (qE5 hp ((q1.imms0 hl.1).rep _)) (Same.new hp) (qh9 hp)
   | _=>cases h
 | _=>cases h
def gI(p:Int->Int->Bool)(f:Int->Int->D):D->D->Option D
 | .int i,.int j=>gd (p i j=true) (f i j)
 | _,_=>none
theorem os_I{C:Int->Int->Prop}{p:Int->Int->Bool}{f:Int->Int->D}{fv:Int->Int->V}(hp:∀ i j,p i j=true->C i j)(hf:∀ F H i j,Rep F H (fv i j) (f i j) []):Bb true (rI C fv) (gI p f):=by
 intro F H v w x y B d Q r h q;cases r with | @cons _ _ A _ _ _ r1 t=>cases t with | @cons _ _ A2 _ _ _ r2 _ =>
 cases x with
 | int i =>
   cases y with
   | int j =>
     obtain⟨hl,rfl⟩:=qw8 h;cases r1;cases r2;exact⟨i,j,rfl,rfl,hp i j hl,q _ H [] (hf F H i j) (λ _ _ z=>z) New.nil⟩
   | _=>cases h
 | _=>cases h
theorem Gg{f:Int->Int->D}{fv:Int->Int->V}(hf:∀ F H i j,Rep F H (fv i j) (f i j) []):Bb true (rI0 fv) (gI (λ _ _=>true) f):=by
 intro F H v w x y B d Q r h q;obtain⟨i,j,h1,h2,_,h3⟩:=os_I (C:=λ _ _=>True) (fv:=fv) (λ _ _ _=>trivial) hf F H v w x y B d Q r h q;exact⟨i,j,h1,h2,h3⟩
def gSub:=gI (λ _ _=>true) λ i j=>.int (i - j)
def gDiv:=gI (λ _ j=>decide (0 < j)&&decide (j < 2 ^ 200)) λ i j=>.int (i / j)
def Hn:=gI (λ _ j=>decide (0 < j)) λ i j=>.int (i % j)
def gLt:=gI (λ _ _=>true) λ i j=>.bl (decide (i < j))
def gLe:=gI (λ _ _=>true) λ i j=>.bl (decide (i<=j))
def gGt:=gI (λ _ _=>true) λ i j=>.bl (decide (j < i))
def gGe:=gI (λ _ _=>true) λ i j=>.bl (decide (j<=i))
theorem qt3:Bb true (rI0 λ i j=>.int (i - j)) gSub:=Gg λ _ _ _ _=>.int _
theorem qap4:Bb true (rI CDivB λ i j=>.int (i / j)) gDiv:=os_I (λ i j h=>by
 have:=zAg.mp h
 exact⟨zAb this.1,zAb this.2⟩) λ _ _ _ _=>.int _
theorem qk6:Bb true (rI (λ _ j=>0 < j) λ i j=>.int (i % j)) Hn:=os_I (λ i j h=>zAb h) λ _ _ _ _=>.int _
theorem Et:Bb true (rI0 λ i j=>.bl (decide (i < j))) gLt:=Gg λ _ _ _ _=>.bl _
theorem Ir:Bb true (rI0 λ i j=>.bl (decide (i<=j))) gLe:=Gg λ _ _ _ _=>.bl _
theorem Da:Bb true (rI0 λ i j=>.bl (decide (j < i))) gGt:=Gg λ _ _ _ _=>.bl _
theorem Iu:Bb true (rI0 λ i j=>.bl (decide (j<=i))) gGe:=Gg λ _ _ _ _=>.bl _
def D.isN:D->Option Bool
 | .non=>some true
 | .unk=>none
 | .hole _=>none
 | _=>some false
theorem Rep.isN{F:Addr->Prop}{H:Hp}{d:D}{B:List Addr}{b:Bool}(r:Rep F H v d B)(h:d.isN=some b):decide (v=.non)=b:=by
 cases r<;>cases h<;>rfl
def gIs:D->D->Option D
 | x,.non=>x.isN.map .bl
 | .bl a,.bl b=>some (.bl (a == b))
 | _,_=>none
def rIs:R2:=λ x y H Q=>(y=.non/\Q (.bl (decide (x=.non))) H)∨(∃ b c,x=.bl b/\y=.bl c/\Q (.bl (b == c)) H)
theorem Di:Bb true rIs gIs:=by
 intro F H v w x y B d Q r h q;cases r with | @cons _ _ A _ _ _ r1 t=>cases t with | @cons _ _ A2 _ _ _ r2 _ =>
 cases y with
 | non =>
   cases r2;have h:x.isN.map D.bl=some d:=by cases x<;>exact h
   cases e:x.isN with
   | none=>rw[e] at h;cases h
   | some b =>
     rw[e] at h;cases h;refine .inl ⟨rfl,?_⟩;rw[r1.isN e];exact q _ H [] (.bl _) (λ _ _ z=>z) New.nil
 | bl b =>
   cases x with
   | bl a=>cases h;cases r1;cases r2;exact .inr ⟨a,b,rfl,rfl,q _ H [] (.bl _) (λ _ _ z=>z) New.nil⟩
   | _=>cases h
 | _=>cases x<;>cases h
theorem Db{X:Cx}:OpR X (compareOp .Is) rIs:=qaT9.or qaU0
theorem qaL9{X:Cx}:OpR X (compareOp .IsNot) (λ x y H Q=>∃ b c,x=.bl b/\y=.bl c/\Q (.bl (b != c)) H):=by
 intro D4 s σ H x y v u Q I rx ry ⟨b,c,e1,e2,q⟩;subst e1;subst e2;cases rx;cases ry;exact PyProof.Rows.isnot_bool ⟨.bl (b != c),H,I,rfl,q⟩
def gIsn:D->D->Option D
 | x,.non=>x.isN.map λ b=>.bl (!b)
 | .bl a,.bl b=>some (.bl (a != b))
 | _,_=>none
def rIsn:R2:=λ x y H Q=>(y=.non/\Q (.bl (!decide (x=.non))) H)∨(∃ b c,x=.bl b/\y=.bl c/\Q (.bl (b != c)) H)
theorem qn1:Bb true rIsn gIsn:=by
 intro F H v w x y B d Q r h q;cases r with | @cons _ _ A _ _ _ r1 t=>cases t with | @cons _ _ A2 _ _ _ r2 _ =>
 cases y with
 | non =>
   cases r2;have h:x.isN.map (λ b=>D.bl (!b))=some d:=by cases x<;>exact h
   cases e:x.isN with
   | none=>rw[e] at h;cases h
   | some b =>
     rw[e] at h;cases h;refine .inl ⟨rfl,?_⟩;rw[r1.isN e];exact q _ H [] (.bl _) (λ _ _ z=>z) New.nil
 | bl b =>
   cases x with
   | bl a=>cases h;cases r1;cases r2;exact .inr ⟨a,b,rfl,rfl,q _ H [] (.bl _) (λ _ _ z=>z) New.nil⟩
   | _=>cases h
 | _=>cases x<;>cases h
theorem qj5{X:Cx}:OpR X (compareOp .IsNot) rIsn:=qaL8.or qaL9
def Eo(f:D->D->Option Bool):List D->List D->Option Bool
 | [],[]=>some true
 | x::xs,y::ys=>(f x y).bind λ a=>(Eo f xs ys).bind λ b=>some (a&&b)
 | _,_=>some false
def eqF(x y:D):Option Bool:=match x.flat,y.flat with
 | some v,some w=>some (eqV v w)
 | _,_=>none
def D.d0:D->Bool
 | .dct _ []=>true
 | _=>false
def eqZ(x y:D):Option Bool:=if (x.d0&&y.d0)=true then some true else eqF x y
def eqN:Nat->D->D->Option Bool
 | n+1,.lst _ xs,.lst _ ys=>Eo (eqN n) xs ys
 | n+1,.tup xs,.tup ys=>Eo (eqN n) xs ys
 | _,x,y=>eqZ x y
theorem qB1{f:D->D->Option Bool}:∀{xs ys:List D}{b:Bool},Eo f xs ys=some b->∃ e:Nat->Bool,(∀ i x y,xs[i]? = some x->ys[i]? = some y->f x y=some (e i))/\b=((List.range (min xs.length ys.length)).all e&&xs.length == ys.length)
 | [],[],b,h=>by cases h;exact⟨λ _=>true,λ i x y h=>by simp at h,by simp⟩
 | [],y::ys,b,h=>by cases h;exact⟨λ _=>true,λ i x y h=>by simp at h,by simp⟩
 | x::xs,[],b,h=>by cases h;exact⟨λ _=>true,λ i x y _ h=>by simp at h,by simp⟩
 | x::xs,y::ys,b,h=>by
   obtain⟨a,h1,h⟩:=zA1.mp h;obtain⟨b',h2,h⟩:=zA1.mp h;cases h;obtain⟨e,q1,q2⟩:=qB1 h2;refine⟨λ i=>match i with | 0=>a | i+1=>e i,λ i x' y' hx hy=>?_,?_⟩
   . cases i with
     | zero =>
       have e1:x=x':=by simpa using hx
       have e2:y=y':=by simpa using hy
       subst e1;subst e2;exact h1
     | succ i=>exact q1 i x' y' (by simpa using hx) (by simpa using hy)
   rw[q2,zAo,zAo,Nat.add_min_add_right,List.range_succ_eq_map,List.all_cons,List.all_map];show _=(_&&_&&_)
   have:(xs.length+1 == ys.length+1)=(xs.length == ys.length):=by
     by_cases h:xs.length=ys.length
     . simp[h]
     simp[h]
   rw[this,<- Bool.and_assoc];rfl
section
variable{F:Addr->Prop}{H:Hp}
theorem Rep.eqF{x y:D}{A B:List Addr}{b:Bool}(r1:Rep F H v x A)(r2:Rep F H w y B)(h:LV.eqF x y=some b):flatV v=true/\flatV w=true/\eqV v w=b:=by
 unfold LV.eqF at h;cases e1:x.flat with
 | none=>rw[e1] at h;cases h
 | some v' =>
   cases e2:y.flat with
   | none=>rw[e1,e2] at h;cases h
   | some w' =>
     rw[e1,e2] at h;obtain⟨rfl,f1⟩:=r1.flat e1;obtain⟨rfl,f2⟩:=r2.flat e2;exact⟨f1,f2,Option.some.inj h⟩
theorem Rep.d0{x:D}{A:List Addr}(r:Rep F H v x A)(h:x.d0=true):∃ a,v=.ref a/\H a=some (.dK []):=by
 cases x with
 | dct z kvs =>
   cases kvs with
   | nil =>
     cases r with
     | dct e q _=>exact⟨_,rfl,by rw[e,List.map_eq_nil_iff.mp q]⟩
     | dctZ e _ q _=>exact⟨_,rfl,by rw[e,List.map_eq_nil_iff.mp q]⟩
   | cons=>cases h
 | _=>cases h
theorem Rep.eqZ{x y:D}{A B:List Addr}{b:Bool}(r1:Rep F H v x A)(r2:Rep F H w y B)(h:LV.eqZ x y=some b):(flatV v=true/\flatV w=true/\eqV v w=b)∨(b=true/\∃ a a',v=.ref a/\w=.ref a'/\H a=some (.dK [])/\H a'=some (.dK [])):=by
 unfold LV.eqZ at h;split at h
 . rename_i hd
   obtain⟨h1,h2⟩:=zAg.mp hd;obtain⟨a,e1,q1⟩:=r1.d0 h1;obtain⟨a',e2,q2⟩:=r2.d0 h2;cases h;exact .inr ⟨rfl,a,a',e1,e2,q1,q2⟩
 exact .inl (r1.eqF r2 h)
theorem qX3(n:Nat)(x y:D):(eqN (n+1) x y=LV.eqZ x y)∨(∃ z xs z' ys,x=.lst z xs/\y=.lst z' ys)∨∃ xs ys,x=.tup xs/\y=.tup ys:=by
 cases x with
 | lst z xs=>cases y with
   | lst z' ys=>exact .inr (.inl ⟨_,_,_,_,rfl,rfl⟩)
   | _=>exact .inl rfl
 | tup xs=>cases y with
   | tup ys=>exact .inr (.inr ⟨_,_,rfl,rfl⟩)
   | _=>exact .inl rfl
 | _=>exact .inl rfl
theorem qS3(x y:D):eqN 0 x y=LV.eqZ x y:=by cases x<;>cases y<;>rfl
theorem qX4(ih:∀{v:V}{x y:D}{A B:List Addr}{b:Bool},Rep F H v x A->Rep F H v y B->eqN n x y=some b->b=true):∀{vs:List V}{xs ys:List D}{A B:List Addr}{b:Bool},Reps F H vs xs A->Reps F H vs ys B->Eo (eqN n) xs ys=some b->b=true:=by
 intro vs
 induction vs with
 | nil=>intro xs ys A B b r1 r2 h;cases r1;cases r2;cases h;rfl
 | cons v vs ihv =>
   intro xs ys A B b r1 r2 h;cases r1 with | cons p1 t1=>cases r2 with | cons p2 t2 =>
   obtain⟨a,h1,h⟩:=zA1.mp h;obtain⟨b',h2,h⟩:=zA1.mp h;cases h;rw[ih p1 p2 h1,ihv t1 t2 h2];rfl
theorem qak7:∀{n:Nat}{v:V}{x y:D}{A B:List Addr}{b:Bool},Rep F H v x A->Rep F H v y B->eqN n x y=some b->b=true:=by
 intro n
 induction n with
 | zero =>
   intro v x y A B b r1 r2 h;rw[qS3] at h;rcases r1.eqZ r2 h with⟨f1,f2,rfl⟩ | ⟨rfl,_⟩
   . exact qu9 f1
   rfl
 | succ n ih =>
   intro v x y A B b r1 r2 h;rcases qX3 n x y with e | ⟨z,xs,z',ys,rfl,rfl⟩ | ⟨xs,ys,rfl,rfl⟩
   . rw[e] at h
     rcases r1.eqZ r2 h with⟨f1,f2,rfl⟩ | ⟨rfl,_⟩
     . exact qu9 f1
     rfl
   . obtain⟨a,vs,_,rfl,h1,q1,_⟩:=r1.lst_inv
     obtain⟨a',vs',_,e,h2,q2,_⟩:=r2.lst_inv;cases e;rw[h1] at h2;cases h2;exact qX4 ih q1 q2 h
   obtain⟨a,vs,rfl,h1,q1⟩:=r1.tup_inv;obtain⟨a',vs',e,h2,q2⟩:=r2.tup_inv;cases e;rw[h1] at h2;cases h2;exact qX4 ih q1 q2 h
theorem Reps.getV{ds:List D}{A:List Addr}(r:Reps F H vs ds A)(h:vs[n]? = some w):∃ d B,ds[n]? = some d/\Rep F H w d B:=by
 have hl:=r.len;have hn:n < vs.length:=(zA4.mp h).1;obtain⟨w',B,h1,h2,_⟩:=r.get (n:=n) (d:=ds[n]'(by lia)) (by simp);rw[h] at h1;cases h1;exact⟨_,B,by simp,h2⟩
theorem qX1{x y:D}{A B:List Addr}{b:Bool}(r1:Rep F H v x A)(r2:Rep F H w y B)(h:LV.eqZ x y=some b):EqD H n v w b:=by
 rcases r1.eqZ r2 h with⟨f1,f2,rfl⟩ | ⟨rfl,a,a',rfl,rfl,q1,q2⟩
 . exact .flat f1 f2
 by_cases ne:a=a'
 . subst ne;exact .same a
 exact .dcts ne q1 q2
theorem qX2:∀{n:Nat}{v w:V}{x y:D}{A B:List Addr}{b:Bool},Rep F H v x A->Rep F H w y B->eqN n x y=some b->EqD H n v w b:=by
 intro n
 induction n with
 | zero =>
   intro v w x y A B b r1 r2 h;rw[qS3] at h;exact qX1 r1 r2 h
 | succ n ih =>
   intro v w x y A B b r1 r2 h;rcases qX3 n x y with e | ⟨z,xs,z',ys,rfl,rfl⟩ | ⟨xs,ys,rfl,rfl⟩
   . rw[e] at h
     exact qX1 r1 r2 h
   . obtain⟨a,vs,_,rfl,h1,q1,_⟩:=r1.lst_inv
     obtain⟨a',ws,_,rfl,h2,q2,_⟩:=r2.lst_inv;by_cases ne:a=a'
     . subst ne
       cases qak7 (n:=n+1) r1 r2 h;exact .same a
     obtain⟨e,k1,rfl⟩:=qB1 h;rw[<- q1.len,<- q2.len];by_cases hl:vs.length=ws.length
     . rw[hl,Nat.min_self,zBe,zCa,<- hl]
       refine .lsts ne h1 h2 hl λ i p q e1 e2=>?_
       obtain⟨x,_,ex,rx⟩:=q1.getV e1;obtain⟨y,_,ey,ry⟩:=q2.getV e2;exact ih rx ry (k1 i x y ex ey)
     have:(vs.length == ws.length)=false:=by simpa using hl
     rw[this,zC7];exact .lens ne h1 h2 hl
   obtain⟨a,vs,rfl,h1,q1⟩:=r1.tup_inv;obtain⟨a',ws,rfl,h2,q2⟩:=r2.tup_inv;by_cases ne:a=a'
   . subst ne
     cases qak7 (n:=n+1) r1 r2 h;exact .same a
   obtain⟨e,k1,rfl⟩:=qB1 h;rw[<- q1.len,<- q2.len];refine .tups ne h1 h2 λ i p q e1 e2=>?_
   obtain⟨x,_,ex,rx⟩:=q1.getV e1;obtain⟨y,_,ey,ry⟩:=q2.getV e2;exact ih rx ry (k1 i x y ex ey)
end
def eqT:D->D->Option Bool
 | .lst _ xs,.lst _ ys=>Eo (eqN 20) xs ys
 | .tup xs,.tup ys=>Eo (eqN 20) xs ys
 | .lst _ _,.tup _=>some false
 | .tup _,.lst _ _=>some false
 | .lst _ _,y=>y.flat.map λ _=>false
 | .tup _,y=>y.flat.map λ _=>false
 | x,.lst _ _=>x.flat.map λ _=>false
 | .dct _ _,.tup _=>some false
 | x,.tup _=>x.flat.map λ _=>false
 | x,y=>eqZ x y
theorem Rep.flatV{F:Addr->Prop}{H:Hp}{d:D}{B:List Addr}{b:Bool}(r:Rep F H v d B)(h:(d.flat.map λ _=>false)=some b):L2.flatV v=true/\b=false:=by
 cases e:d.flat with
 | none=>rw[e] at h;cases h
 | some w=>rw[e] at h;cases h;exact⟨(r.flat e).2,rfl⟩
theorem Rep.rc{F:Addr->Prop}{H:Hp}{x y:D}{A B:List Addr}{b:Bool}(r1:Rep F H v x A)(r2:Rep F H w y B)(h:eqT x y=some b):RcD H v w b:=by
 have flat:LV.eqZ x y=some b->RcD H v w b:=λ h=>by
   rcases r1.eqZ r2 h with⟨f1,f2,rfl⟩ | ⟨rfl,a,a',rfl,rfl,q1,q2⟩
   . exact .flat f1 f2
   exact .dcts q1 q2
 cases x with
 | lst z xs =>
   obtain⟨a,vs,_,rfl,h1,q1,_⟩:=r1.lst_inv;cases y with
   | lst z' ys =>
     obtain⟨a',ws,_,rfl,h2,q2,_⟩:=r2.lst_inv;obtain⟨e,k1,rfl⟩:=qB1 h;rw[<- q1.len,<- q2.len];by_cases hl:vs.length=ws.length
     . rw[hl,Nat.min_self,zBe,zCa,<- hl]
       refine .lsts h1 h2 hl λ i p q e1 e2=>?_
       obtain⟨x,_,ex,rx⟩:=q1.getV e1;obtain⟨y,_,ey,ry⟩:=q2.getV e2;exact qX2 rx ry (k1 i x y ex ey)
     have:(vs.length == ws.length)=false:=by simpa using hl
     rw[this,zC7];exact .lens h1 h2 hl
   | tup ys=>obtain⟨a',ws,rfl,h2,q2⟩:=r2.tup_inv;cases h;exact .lt h1 h2
   | _=>obtain⟨f,rfl⟩:=r2.flatV h;exact .lf h1 f
 | tup xs =>
   obtain⟨a,vs,rfl,h1,q1⟩:=r1.tup_inv;cases y with
   | tup ys =>
     obtain⟨a',ws,rfl,h2,q2⟩:=r2.tup_inv;obtain⟨e,k1,rfl⟩:=qB1 h;rw[<- q1.len,<- q2.len];refine .tups h1 h2 λ i p q e1 e2=>?_
     obtain⟨x,_,ex,rx⟩:=q1.getV e1;obtain⟨y,_,ey,ry⟩:=q2.getV e2;exact qX2 rx ry (k1 i x y ex ey)
   | lst z ys=>obtain⟨a',ws,_,rfl,h2,q2,_⟩:=r2.lst_inv;cases h;exact .tl h1 h2
   | _=>obtain⟨f,rfl⟩:=r2.flatV h;exact .tf h1 f
 | dct z kvs =>
   cases y with
   | lst z ys=>cases h
   | tup ys =>
     obtain⟨a',ws,rfl,h2,q2⟩:=r2.tup_inv;cases h;cases r1 with
     | dct e _ _=>exact .dt e h2
     | dctZ e _ _ _=>exact .dt e h2
   | _=>exact flat h
 | _ =>
   cases y with
   | lst z ys=>obtain⟨a',ws,_,rfl,h2,q2,_⟩:=r2.lst_inv;obtain⟨f,rfl⟩:=r1.flatV h;exact .fl h2 f
   | tup ys=>obtain⟨a',ws,rfl,h2,q2⟩:=r2.tup_inv;obtain⟨f,rfl⟩:=r1.flatV h;exact .ft h2 f
   | _=>exact flat h
def gEq(x y:D):Option D:=(eqT x y).map .bl
def gNe(x y:D):Option D:=(eqT x y).map λ b=>.bl (!b)
theorem A9:Bb true rEqD gEq:=by
 intro F H v w x y B d Q r h q;cases r with | @cons _ _ A _ _ _ r1 t=>cases t with | @cons _ _ A2 _ _ _ r2 _ =>
 obtain⟨b,e,rfl⟩:=zAa.mp h;exact⟨b,r1.rc r2 e,q _ H [] (.bl _) (λ _ _ z=>z) New.nil⟩
theorem Dw:Bb true rNeD gNe:=by
 intro F H v w x y B d Q r h q;cases r with | @cons _ _ A _ _ _ r1 t=>cases t with | @cons _ _ A2 _ _ _ r2 _ =>
 obtain⟨b,e,rfl⟩:=zAa.mp h;exact⟨b,r1.rc r2 e,q _ H [] (.bl _) (λ _ _ z=>z) New.nil⟩
def flats:List D->Option (List V)
 | []=>some []
 | d::r=>d.flat.bind λ v=>(flats r).bind λ vs=>some (v::vs)
theorem Reps.flats{F:Addr->Prop}{H:Hp}:∀{vs ws:List V}{ds:List D}{A:List Addr},Reps F H vs ds A->LV.flats ds=some ws->vs=ws/\vs.all L2.flatV=true
 | _,_,_,_,.nil,h=>by cases h;exact⟨rfl,rfl⟩
 | _,_,_,_,.cons r t,h=>by
   obtain⟨v,h1,h⟩:=zA1.mp h;obtain⟨vs,h2,h⟩:=zA1.mp h;cases h;obtain⟨rfl,f⟩:=r.flat h1;obtain⟨rfl,g⟩:=t.flats h2;exact⟨rfl,by rw[List.all_cons,f,g];rfl⟩
def Iv(neg:Bool)(x y:D):Option D:=x.flat.bind λ v=>y.elems.bind λ ys=>(flats ys).bind λ ws=>some (.bl (if neg then !inV v ws else inV v ws))
theorem Gh{K:PySem.W.Frag}{neg:Bool}:Bb true (rIn K neg) (Iv neg):=by
 intro F H v w x y B d Q r h q;cases r with | @cons _ _ A _ _ _ r1 t=>cases t with | @cons _ _ A2 _ _ _ r2 _ =>
 obtain⟨v',h1,h⟩:=zA1.mp h;obtain⟨ys,h2,h⟩:=zA1.mp h;obtain⟨ws,h3,h⟩:=zA1.mp h;cases h;obtain⟨rfl,f⟩:=r1.flat h1;obtain⟨a,vs,A3,rfl,hs,rs,_⟩:=r2.elems (K:=K) h2;obtain⟨rfl,g⟩:=rs.flats h3;exact⟨a,vs,rfl,hs,f,g,q _ H [] (.bl _) (λ _ _ z=>z) New.nil⟩
def gIx(x y:D):Option D:=match y with
 | .int i=>x.elems.bind λ ys=>atI ys i
 | _=>none
theorem Ag{K:PySem.W.Frag}:Bb false (rIx K) gIx:=by
 intro F H v w x y B d Q r h q;cases r with | @cons _ _ A _ _ _ r1 t=>cases t with | @cons _ _ A2 _ _ _ r2 _ =>
 cases y with
 | int i =>
   obtain⟨ys,h2,h⟩:=zA1.mp h;cases r2;obtain⟨a,vs,A3,rfl,hs,rs,hc⟩:=r1.elems (K:=K) h2;obtain⟨w',B',hw,rw',hb⟩:=rs.atI h;have key:=q w' H B' rw' (λ _ _ z=>z) (by
     rw[if_neg (by decide)];exact λ b=>.inl (by rw[zA0];have:=hb b;have:=hc b;lia))
   rcases hs with hs | hs
   . exact .inl ⟨a,vs,i,w',rfl,rfl,hs,hw,key⟩
   exact .inr (.inl ⟨a,vs,i,w',rfl,rfl,hs,hw,key⟩)
 | _=>cases h
section
variable{F:Addr->Prop}{H:Hp}
theorem Reps.one_inv{x:D}{B:List Addr}(r:Reps F H vs [x] B):∃ v,vs=[v]/\Rep F H v x B:=by
 cases r with | cons h t=>cases t;exact⟨_,rfl,by rw[zAf];exact h⟩
theorem Reps.two_inv{x y:D}{B:List Addr}(r:Reps F H vs [x,y] B):∃ v w A C,vs=[v,w]/\Rep F H v x A/\Rep F H w y C/\∀ b,B.count b=A.count b+C.count b:=by
 cases r with | cons h t=>cases t with | cons h' t=>cases t;exact⟨_,_,_,_,rfl,h,h',λ b=>by simp[zA0]⟩
end
def fx1(g:D->Option D):Ds->Option D
 | [x]=>g x
 | _=>none
def fx2(g:D->D->Option D):Ds->Option D
 | [x,y]=>g x y
 | _=>none
def CS1(nw:Bool)(r:List V->Hp->VK->Prop)(g:D->Option D):Prop:=∀ F H v x B d (Q:VK),Rep F H v x B->g x=some d ->
 (∀ v H' B',Rep F H' v d B'->Same H H'->(if nw=true then New H B' else Sub H B B')->Q v H')->r [v] H Q
theorem CS1.ops{nw:Bool}{r:List V->Hp->VK->Prop}{g:D->Option D}(h:CS1 nw r g):OpS nw r (fx1 g):=by
 intro F H vs xs B d Q r e q
 match xs,e with
 | [x],e =>
   obtain⟨v,rfl,r'⟩:=r.one_inv;exact h F H v x B d Q r' e q
def Fi(x:D):Option D:=match x with
 | .str z=>gd (z.length<=big) (.int z.length)
 | .dct _ kvs=>some (.int kvs.length)
 | x=>x.elems.map λ ys=>.int ys.length
def Iw(K:PySem.W.Frag):List V->Hp->VK->Prop:=λ xs H Q=>(∃ p ys,xs=[.ref p]/\(SqL K H p ys∨SqT K H p ys)/\Q (.int ys.length) H)∨(∃ z,xs=[.str z]/\z.length<=sizeLine/\Q (.int z.length) H)∨(∃ a kvs,xs=[V.ref a]/\H a=some (.dK kvs)/\Q (.int kvs.length) H)
theorem qr5{X:Cx}:CallR X (.builtin "len") (Iw X.K):=qT0.or (qS9.or qat5)
theorem qr4{K:PySem.W.Frag}:CS1 true (Iw K) Fi:=by
 intro F H v x B d Q r h q;have seq:∀ ys,x.elems=some ys->d=.int ys.length->Iw K [v] H Q:=λ ys e hd=>by
   subst hd;obtain⟨a,vs,A,rfl,hs,rs,_⟩:=r.elems (K:=K) e;refine .inl ⟨a,vs,rfl,hs,?_⟩;rw[rs.len];exact q _ H [] (.int _) (λ _ _ z=>z) New.nil
 cases x with
 | str z=>obtain⟨hl,rfl⟩:=qw8 h;cases r;exact .inr (.inl ⟨z,rfl,zAp hl qg3,q _ H [] (.int _) (λ _ _ z=>z) New.nil⟩)
 | dct z kds =>
   cases h;obtain⟨a,kvs,A,rfl,hs,e,rs,_⟩:=r.dct_inv;refine .inr (.inr ⟨a,kvs,rfl,hs,?_⟩)
   have:kvs.length=kds.length:=by have:=congrArg List.length e;simpa using this
   rw[this];exact q _ H [] (.int _) (λ _ _ z=>z) New.nil
 | lst z ys=>cases h;exact seq ys rfl rfl
 | tup ys=>cases h;exact seq ys rfl rfl
 | _=>cases h
def gInt:D->Option D
 | .int i=>some (.int i)
 | .bl b=>some (.int (if b then 1 else 0))
 | _=>none
theorem qaX9:CS1 true (λ xs H Q=>(∃ i,xs=[.int i]/\Q (.int i) H)∨∃ k,xs=[.bl k]/\Q (.int (if k then 1 else 0)) H) gInt:=by
 intro F H v x B d Q r h q;cases x with
 | int i=>cases h;cases r;exact .inl ⟨i,rfl,q _ H [] (.int _) (λ _ _ z=>z) New.nil⟩
 | bl i=>cases h;cases r;exact .inr ⟨i,rfl,q _ H [] (.int _) (λ _ _ z=>z) New.nil⟩
 | _=>cases h
def Fp(x:D):Option D:=x.elems.bind λ ys=>gd (D.imms ys=true) (.lst false ys)
theorem qv7{K:PySem.W.Frag}:CS1 true (λ xs H Q=>∃ p ys,xs=[.ref p]/\(SqL K H p ys∨SqT K H p ys)/\∀ l,H l=none->Q (.ref l) (upd H l (.lst ys))) Fp:=by
 intro F H v x B d Q r h q;obtain⟨ys,e,h⟩:=zA1.mp h;obtain⟨hm,rfl⟩:=qw8 h;obtain⟨a,vs,A,rfl,hs,rs,_⟩:=r.elems (K:=K) e;exact⟨a,vs,rfl,hs,λ p hp=>q _ _ [p] (qE5 hp (rs.imms0 hm)) (Same.new hp) (qh9 hp)⟩
def pairK:D->Option (Key×D)
 | .tup [.int k,x]=>if x.imm=true then some (.inl k,x) else none
 | .tup [.str k,x]=>if x.imm=true then some (.inr k,x) else none
 | _=>none
def Ho:List D->Option (List (Key×D))
 | []=>some []
 | d::r=>(pairK d).bind λ p=>(Ho r).bind λ ps=>some (p::ps)
def E5(kvs:List (Key×D))(k:Key)(v:D):List (Key×D) :=
 if (kvs.any λ kv=>decide (kv.1=k))=true then kvs.map (λ kv=>if kv.1=k then (kv.1,v) else kv) else kvs++[(k,v)]
def qv5(kvs more:List (Key×D)):List (Key×D):=more.foldl (λ acc kv=>E5 acc kv.1 kv.2) kvs
abbrev KP(F:Addr->Prop)(H:Hp)(kvs:List (Key×V))(kds:List (Key×D)):Prop:=Paired (λ(p:Key×V)(q:Key×D)=>p.1=q.1/\Rep F H p.2 q.2 []) kvs kds
section
variable{F:Addr->Prop}{H:Hp}
theorem KP.maps{kds:List (Key×D)}(h:KP F H kvs kds):kvs.map (·.1)=kds.map (·.1)/\Reps F H (kvs.map (·.2)) (kds.map (·.2)) []:=by
 induction h with
 | nil=>exact⟨rfl,.nil⟩
 | cons a _ ih=>exact⟨by rw[zB0,zB0,a.1,ih.1],.cons (A:=[]) (B:=[]) a.2 ih.2⟩
theorem KP.any{kds:List (Key×D)}(h:KP F H kvs kds)(k:Key):(kvs.any λ kv=>decide (kv.1=k))=kds.any λ kv=>decide (kv.1=k):=by
 induction h with
 | nil=>rfl
 | cons a _ ih=>rw[zBl,zBl,a.1,ih]
theorem KP.append{kvs':List (Key×V)}{kds kds':List (Key×D)}(h:KP F H kvs kds)(h':KP F H kvs' kds'):KP F H (kvs++kvs') (kds++kds'):=by
 induction h with
 | nil=>exact h'
 | cons a _ ih=>exact .cons a ih
theorem KP.mapk{kds:List (Key×D)}(h:KP F H kvs kds){k:Key}{d:D}(r:Rep F H v d []):KP F H (kvs.map λ kv=>if kv.1=k then (kv.1,v) else kv) (kds.map λ kv=>if kv.1=k then (kv.1,d) else kv):=by
 induction h with
 | nil=>exact .nil
 | @cons p q _ _ a _ ih =>
   refine .cons ?_ ih;show (if p.1=k then (p.1,v) else p).1=(if q.1=k then (q.1,d) else q).1/\Rep F H (if p.1=k then (p.1,v) else p).2 (if q.1=k then (q.1,d) else q).2 [];rw[<- a.1];split
   . exact⟨rfl,r⟩
   exact a
theorem KP.put{kds:List (Key×D)}(h:KP F H kvs kds){k:Key}{d:D}(r:Rep F H v d []):KP F H (putK kvs k v) (E5 kds k d):=by
 unfold putK E5;rw[h.any k];split
 . exact h.mapk r
 exact h.append (.cons ⟨rfl,r⟩ .nil)
theorem KP.merge{more:List (Key×V)}{mored:List (Key×D)}(h:KP F H more mored):∀{kvs:List (Key×V)}{kds:List (Key×D)},KP F H kvs kds->KP F H (qC9 kvs more) (qv5 kds mored):=by
 induction h with
 | nil=>exact λ h=>h
 | @cons p q _ _ a _ ih =>
   intro kvs kds h
   have:=ih (h.put (k:=p.1) a.2)
   rw[a.1] at this;show KP F H (qC9 (putK kvs p.1 p.2) _) (qv5 (E5 kds q.1 q.2) _);rw[a.1];exact this
theorem qaC6{ds:Ds}{A:List Addr}{ps:List (Key×D)}(r:Reps F H vs ds A)(h:Ho ds=some ps):∃ kvs,qay5 H vs kvs/\KP F H kvs ps:=by
 induction ds generalizing vs A ps with
 | nil=>cases r;cases h;exact⟨[],.nil,.nil⟩
 | cons d ds ih =>
   cases r with
   | cons r1 t =>
     obtain⟨p,h1,h⟩:=zA1.mp h;obtain⟨ps,h2,h⟩:=zA1.mp h;cases h;obtain⟨kvs,q1,q2⟩:=ih t h2;unfold pairK at h1;split at h1
     . rename_i k x
       split at h1
       . rename_i hm
         cases h1;obtain⟨a,ws,rfl,ha,rw'⟩:=r1.tup_inv;obtain⟨w1,w2,A1,A2,rfl,r1',r2',_⟩:=rw'.two_inv;cases r1'
         have:=r2'.imm hm
         subst this;exact⟨(.inl k,w2)::kvs,.cons ⟨a,rfl,ha⟩ q1,.cons ⟨rfl,r2'⟩ q2⟩
       cases h1
     . rename_i k x
       split at h1
       . rename_i hm
         cases h1;obtain⟨a,ws,rfl,ha,rw'⟩:=r1.tup_inv;obtain⟨w1,w2,A1,A2,rfl,r1',r2',_⟩:=rw'.two_inv;cases r1'
         have:=r2'.imm hm
         subst this;exact⟨(.inr k,w2)::kvs,.cons ⟨a,rfl,ha⟩ q1,.cons ⟨rfl,r2'⟩ q2⟩
       cases h1
     cases h1
theorem qaM4{p:Addr}{kds:List (Key×D)}(hp:H p=none)(r:KP F H kvs kds):Rep F (upd H p (.dK kvs)) (.ref p) (.dct false kds) [p]:=.dct qc2 r.maps.1 (r.maps.2.same (Same.new hp))
end
def G7(x:D):Option D:=match x with
 | .lst _ ys=>(Ho ys).map λ ps=>.dct false (qv5 [] ps)
 | _=>none
theorem qay3:CS1 true qaJ7 G7:=by
 intro F H v x B d Q r h q;cases x with
 | lst z ys =>
   obtain⟨ps,h1,rfl⟩:=zAa.mp h;obtain⟨a,vs,A,rfl,hs,rs,_⟩:=r.lst_inv;obtain⟨kvs,q1,q2⟩:=qaC6 rs h1;exact⟨a,vs,kvs,rfl,hs,q1,λ p hp=>q _ _ [p] (qaM4 hp (q2.merge .nil)) (Same.new hp) (qh9 hp)⟩
 | _=>cases h
def D.kind:D->Option String
 | .non=>some "NoneType" | .bl _=>some "bool" | .int _=>some "int" | .str _=>some "str" | .lst _ _=>some "list" | .tup _=>some "tuple" | .dct _ _=>some "dict"
 | _=>none
theorem Rep.kind{F:Addr->Prop}{H:Hp}{d:D}{B:List Addr}{t:String}(r:Rep F H v d B)(h:d.kind=some t):Bi H v=some t:=by
 cases r with
 | tup e _=>cases h;exact qaE6 e
 | lst e _=>cases h;exact qai0 e
 | lstZ e _ _=>cases h;exact qai0 e
 | dct e _ _=>cases h;exact qax4 e
 | dctZ e _ _ _=>cases h;exact qax4 e
 | _=>cases h<;>rfl
def isTy(n:String):Bool:=n == "bool" || n == "int" || n == "str" || n == "list" || n == "tuple" || n == "dict"
def gIsi(x y:D):Option D:=match y with
 | .ty n=>if isTy n=true then x.kind.map λ t=>.bl (Hh t n) else none
 | _=>none
def CS2(nw:Bool)(r:List V->Hp->VK->Prop)(g:D->D->Option D):Prop:=∀ F H v w x y A B d (Q:VK),Rep F H v x A->Rep F H w y B->g x y=some d ->
 (∀ v H' B',Rep F H' v d B'->Same H H'->(if nw=true then New H B' else Sub H (A++B) B')->Q v H')->r [v,w] H Q
theorem CS2.ops{nw:Bool}{r:List V->Hp->VK->Prop}{g:D->D->Option D}(h:CS2 nw r g):OpS nw r (fx2 g):=by
 intro F H vs xs B d Q r e q
 match xs,e with
 | [x,y],e =>
   obtain⟨v,w,A,C,rfl,r1,r2,hc⟩:=r.two_inv;refine h F H v w x y A C d Q r1 r2 e λ u H' B' ru s hn=>q u H' B' ru s ?_
   cases nw with
   | true=>exact hn
   | false =>
     rw[if_neg (by decide)] at hn ⊢;exact λ b=>(hn b).imp (λ z=>by rw[zA0] at z;have:=hc b;lia) id
theorem qS6:CS2 true rIsi gIsi:=by
 intro F H v w x y A B d Q r1 r2 e q;cases y with
 | ty n =>
   cases r2;have e:(if isTy n=true then x.kind.map λ t=>D.bl (Hh t n) else none)=some d:=e;by_cases hn:isTy n=true
   . rw[if_pos hn] at e
     obtain⟨t,ht,rfl⟩:=zAa.mp e;refine⟨v,n,t,rfl,r1.kind ht,?_,q _ H [] (.bl _) (λ _ _ z=>z) New.nil⟩;simp only[isTy,Bool.or_eq_true,zBx] at hn;simp only[zAi,zBd,or_false];rcases hn with ((((h | h) | h) | h) | h) | h
     . exact .inl h
     . exact .inr (.inl h)
     . exact .inr (.inr (.inl h))
     . exact .inr (.inr (.inr (.inl h)))
     . exact .inr (.inr (.inr (.inr (.inl h))))
     exact .inr (.inr (.inr (.inr (.inr h))))
   rw[if_neg hn] at e;cases e
 | _=>cases e
def D.isC(C:Addr)(x:D):Option D:=match x with
 | .ins _ C' _=>if C'=C then some (.bl true) else none
 | x=>x.kind.map λ _=>.bl false
def gIsO(C:Addr)(x y:D):Option D:=match y with
 | .adr a=>if a=C then x.isC C else none
 | _=>none
theorem qaQ2{C:Addr}:CS2 true (rIsO C) (gIsO C):=by
 intro F H v w x y A B d Q r1 r2 e q;cases y with
 | adr a =>
   cases r2;have e:(if a=C then x.isC C else none)=some d:=e;by_cases hc:a=C
   . rw[if_pos hc] at e
     subst hc;have kind:(x.kind.map λ _=>D.bl false)=some d->rIsO a [v,.ref a] H Q:=λ e=>by
       obtain⟨t,ht,rfl⟩:=zAa.mp e;exact⟨_,rfl,.inr ⟨t,r1.kind ht,q _ H [] (.bl _) (λ _ _ z=>z) New.nil⟩⟩
     cases x with
     | ins z C' fs =>
       have e2:(if C'=a then some (D.bl true) else none)=some d:=e;by_cases hc:C'=a
       . rw[if_pos hc] at e2
         cases e2;subst hc;obtain⟨p,dx,fvs,_,rfl,h,_,_,_⟩:=r1.ins_inv;exact⟨_,rfl,.inl ⟨p,dx,fvs,rfl,h,q _ H [] (.bl _) (λ _ _ z=>z) New.nil⟩⟩
       rw[if_neg hc] at e2;cases e2
     | _=>exact kind e
   rw[if_neg hc] at e;cases e
 | _=>cases e
def bools:List D->Option (List Bool)
 | []=>some []
 | .bl b::r=>(bools r).map λ bs=>b::bs
 | _=>none
theorem Reps.bools{F:Addr->Prop}{H:Hp}:∀{vs:List V}{ds:List D}{A:List Addr}{bs:List Bool},Reps F H vs ds A->LV.bools ds=some bs->vs=bs.map V.bl:=by
 intro vs ds
 induction ds generalizing vs with
 | nil=>intro A bs r h;cases r;cases h;rfl
 | cons d ds ih =>
   intro A bs r h;cases r with
   | cons r1 t =>
     cases d with
     | bl b =>
       obtain⟨bs',h1,rfl⟩:=zAa.mp h;cases r1;rw[ih t h1];rfl
     | _=>cases h
def gAll(x:D):Option D:=match x with
 | .lst _ ys=>(bools ys).map λ bs=>.bl (bs.all id)
 | _=>none
theorem qaQ3{K:PySem.W.Frag}:CS1 true (λ xs H Q=>∃(a:Addr)(bs:List Bool),xs=[.ref a]/\SqL K H a (bs.map V.bl)/\Q (.bl (bs.all id)) H) gAll:=by
 intro F H v x B d Q r h q;cases x with
 | lst z ys =>
   obtain⟨bs,h1,rfl⟩:=zAa.mp h;obtain⟨a,vs,A,rfl,hs,rs,_⟩:=r.lst_inv;cases rs.bools h1;exact⟨a,bs,rfl,.inl (.inl hs),q _ H [] (.bl _) (λ _ _ z=>z) New.nil⟩
 | _=>cases h
def intsD:List D->Option (List Int)
 | []=>some []
 | .int i::r=>(intsD r).map λ is=>i::is
 | _=>none
theorem Reps.intsD{F:Addr->Prop}{H:Hp}:∀{vs:List V}{ds:List D}{A:List Addr}{bs:List Int},Reps F H vs ds A->LV.intsD ds=some bs->vs=bs.map V.int:=by
 intro vs ds
 induction ds generalizing vs with
 | nil=>intro A bs r h;cases r;cases h;rfl
 | cons d ds ih =>
   intro A bs r h;cases r with
   | cons r1 t =>
     cases d with
     | int b =>
       obtain⟨bs',h1,rfl⟩:=zAa.mp h;cases r1;rw[ih t h1];rfl
     | _=>cases h
def E3(xs:List D)(lo hi:Option Int):List D:=(xs.drop (HT.sIx xs.length 0 lo)).take (HT.sIx xs.length xs.length hi - HT.sIx xs.length 0 lo)
def gSl(x:D)(lo hi:Option Int):Option D:=match x with
 | .lst _ ys=>gd (D.imms (E3 ys lo hi)=true) (.lst false (E3 ys lo hi))
 | .scr ns=>some (.lst false ((ns.drop (HT.sIx ns.length 0 lo)).take (HT.sIx ns.length ns.length hi - HT.sIx ns.length 0 lo) |>.map .int))
 | .tup ys=>gd (D.imms (E3 ys lo hi)=true/\(E3 ys lo hi).length < ys.length) (.tup (E3 ys lo hi))
 | _=>none
theorem qH2{F:Addr->Prop}{H:Hp}:∀ ns:List Int,Reps F H (ns.map V.int) (ns.map D.int) []
 | []=>.nil
 | n::r=>.cons (A:=[]) (B:=[]) (.int n) (qH2 r)
theorem os_sl{K:PySem.W.Frag}{F:Addr->Prop}{H:Hp}{x d:D}{lo hi:Option Int}{B:List Addr}(r:Rep F H v x B)(h:gSl x lo hi=some d)(hx:∀ ys,x≠.tup ys)(q:∀ v H' B',Rep F H' v d B'->Same H H'->New H B'->Q v H'):rSlL K v lo hi H Q:=by
 cases x with
 | lst z ys =>
   obtain⟨hm,rfl⟩:=qw8 h;obtain⟨a,vs,A,rfl,hs,rs,_⟩:=r.lst_inv;refine⟨a,vs,rfl,.inl (.inl hs),λ p hp=>q _ _ [p] (qE5 hp ?_) (Same.new hp) (qh9 hp)⟩;obtain⟨B',h1,h2⟩:=rs.sub (HT.sIx ys.length 0 lo) (HT.sIx ys.length ys.length hi - HT.sIx ys.length 0 lo);unfold Gb;rw[rs.len];exact h1.imms0 hm
 | scr ns =>
   cases h;cases r with
   | scr e =>
     refine⟨_,_,rfl,.inl (.inr ⟨_,e⟩),λ p hp=>q _ _ [p] (qE5 hp ?_) (Same.new hp) (qh9 hp)⟩;unfold Gb;rw[<- List.map_drop,<- List.map_take,zAc];exact qH2 _
 | tup ys=>exact absurd rfl (hx ys)
 | _=>cases h
def D.fld(C:Addr)(f:Str):D->Option D
 | .ins _ C' fs=>if C'=C then fs.lookup f else none
 | _=>none
theorem qah5{F:Addr->Prop}{H:Hp}:∀{fvs:List (Str×V)}{fds:List (Str×D)}{A:List Addr}{f:Str}{d:D},fvs.map (·.1)=fds.map (·.1)->Reps F H (fvs.map (·.2)) (fds.map (·.2)) A->fds.lookup f=some d->∃ v B,fvs.lookup f=some v/\Rep F H v d B/\∀ b,B.count b<=A.count b:=by
 intro fvs
 induction fvs with
 | nil=>intro fds A f d e r h;cases fds with
   | nil=>cases h
   | cons _ _=>simp at e
 | cons p fvs ih =>
   intro fds A f d e r h;cases fds with
   | nil=>simp at e
   | cons q fds =>
     obtain⟨k,v⟩:=p;obtain⟨k',d'⟩:=q;have e1:k=k':=by simp at e;exact e.1
     have e2:fvs.map (·.1)=fds.map (·.1):=by simp at e;simpa using e.2
     subst e1;cases r with
     | @cons _ _ A1 _ _ A2 r1 t =>
       rw[zAr] at h ⊢;cases hb:f == k with
       | true=>rw[hb] at h;cases h;exact⟨v,A1,rfl,r1,λ b=>by rw[zA0];lia⟩
       | false =>
         rw[hb] at h;obtain⟨w,B,h1,h2,h3⟩:=ih e2 t h;exact⟨w,B,h1,h2,λ b=>by rw[zA0];have:=h3 b;lia⟩
theorem qaL6{K:PySem.W.Frag}{C:Addr}{f:Str}(c:Cls K C)(n:qg4 K C f):OpS1 false (λ x H Q=>∃ a C dx fs v,x=.ref a/\H a=some (.ins C dx fs)/\Cls K C/\qg4 K C f/\fs.lookup f=some v/\Q v H) (D.fld C f):=by
 intro F H v x B d Q r h q;cases x with
 | ins z C' fs =>
   have h2:(if C'=C then fs.lookup f else none)=some d:=h;by_cases hc:C'=C
   . rw[if_pos hc] at h2
     subst hc;obtain⟨a,dx,fvs,A,rfl,ha,e,rs,hcnt⟩:=r.ins_inv;obtain⟨w,B',h3,h4,h5⟩:=qah5 e rs h2;refine⟨a,C',dx,fvs,w,rfl,ha,c,n,h3,q w H B' h4 (λ _ _ z=>z) ?_⟩;rw[if_neg (by decide)];exact λ b=>.inl (by have:=h5 b;have:=hcnt b;lia)
   rw[if_neg hc] at h2;cases h2
 | _=>cases h
def D.key:D->Option Key
 | .int i=>some (.inl i)
 | .str x=>some (.inr x)
 | _=>none
def Dt(kds:List (Key×D))(k:Key):Option D:=(kds.find? λ kv=>decide (kv.1=k)).map (·.2)
theorem Rep.key{F:Addr->Prop}{H:Hp}{x:D}{B:List Addr}{k:Key}(r:Rep F H v x B)(h:x.key=some k):v=kV k:=by
 cases r<;>cases h<;>rfl
theorem qaH6{F:Addr->Prop}{H:Hp}:∀{kvs:List (Key×V)}{kds:List (Key×D)}{A:List Addr}(k:Key),kvs.map (·.1)=kds.map (·.1)->Reps F H (kvs.map (·.2)) (kds.map (·.2)) A ->
   (Dt kds k=none/\Ez kvs k=none)∨∃ v d B,Dt kds k=some d/\Ez kvs k=some v/\Rep F H v d B/\∀ b,B.count b<=A.count b:=by
 intro kvs
 induction kvs with
 | nil=>intro kds A k e r;cases kds with
   | nil=>exact .inl ⟨rfl,rfl⟩
   | cons _ _=>simp at e
 | cons p kvs ih =>
   intro kds A k e r;cases kds with
   | nil=>simp at e
   | cons q kds =>
     obtain⟨k1,v⟩:=p;obtain⟨k2,d⟩:=q;have e1:k1=k2:=by simp at e;exact e.1
     have e2:kvs.map (·.1)=kds.map (·.1):=by simp at e;simpa using e.2
     subst e1;cases r with
     | @cons _ _ A1 _ _ A2 r1 t =>
       by_cases hk:k1=k
       . exact .inr ⟨v,d,A1,by simp[Dt,hk],qN9 hk,r1,λ b=>by rw[zA0];lia⟩
       have h1:Dt ((k1,d)::kds) k=Dt kds k:=by simp[Dt,zBq,hk]
       rw[h1,qO0 (p:=(k1,v)) hk];rcases ih k e2 t with h | ⟨w,d',B,h2,h3,h4,h5⟩
       . exact .inl h
       exact .inr ⟨w,d',B,h2,h3,h4,λ b=>by rw[zA0];have:=h5 b;lia⟩
section
variable{c:Vc}{X:Cx}{a b e:Expr}{oa ob own nw:Bool}{fa fb f:FV}{r:R2}{g:D->D->Option D}{ta tb t:VT}{pos:Pos}
theorem vnm(i:Nat){x:Str}(hN:X.N[i]? = some x:=by rfl)(hv:Vis X.env.scope x:=by first | exact Or.inl rfl | exact Or.inr (Or.inl rfl) | exact Or.inr (Or.inr rfl))(hd:(x == ("__debug__" : Str))=false:=by decide)(hcd:(x == ("__classdict__" : Str))=false:=by decide) :
   VV c X (.Name x pos) false (rdN i):=qaH5 (qt2 hN hv hd hcd) (qu1 hN)
def kC(d:D):FV:=λ _=>some d
theorem Ac{i:Int}:VV c X (.Constant (.int i) j pos) true (kC (.int i)):=Ge qK8 λ _ _=>.int _
theorem vbl{i:Bool}:VV c X (.Constant (.bool i) j pos) true (kC (.bl i)):=Ge pe_bl λ _ _=>.bl _
theorem A6:VV c X (.Constant .none j pos) true (kC .non):=Ge qaK9 λ _ _=>.non
theorem Fj{i:Str}:VV c X (.Constant (.str i) j pos) true (kC (.str i)):=Ge qaT1 λ _ _=>.str _
theorem vgi{x:Str}{n:Int}{k:Tok}(hm:X.mg x=some (.int n k))(hg:Gl X x:=by rfl)(hd:(x == ("__debug__" : Str))=false:=by decide):VV c X (.Name x pos) true (kC (.int n)):=Ge (qaw4 hm hg hd) λ _ _=>.int _
theorem vcls{x:Str}(C:Addr)(hm:X.mg x=some (.ref C))(hg:Gl X x:=by rfl)(hd:(x == ("__debug__" : Str))=false:=by decide):VV c X (.Name x pos) true (kC (.adr C)):=Ge (qaT2 C hm hg hd) λ _ _=>.adr _
theorem vty{x:Str}(n:String)(hm:X.mg x=none)(hg:Gl X x:=by rfl)(hv:bootBuiltins x=some (.type n):=by rfl)(hn:x ≠ "__name__" := by decide)(hd:(x == ("__debug__" : Str))=false:=by decide):VV c X (.Name x pos) true (kC (.ty n)):=Ge (qaC4 n hm hg hv hn hd) λ _ _=>.ty _
theorem vpow{i j:Int}(k:Int){m:Nat}{p q:Pos}(hk:i ^ j.toNat=k:=by decide)(h0:0<=j:=by decide)(h1:j<=1000000:=by decide)(h2:i.natAbs < 2 ^ 64:=by decide):VV c X (.BinOp (.Constant (.int i) m p) .Pow (.Constant (.int j) n q) pos) true (kC (.int k)):=Ge (qaK7 k hk h0 h1 h2) λ _ _=>.int _
def P2(X:Cx)(e a b:Expr)(r:R2):Prop:=∀ ta tb,PE X a ta->PE X b tb->PE X e (tOp r ta tb)
def T2(X:Cx)(e a b:Expr)(r:R2):Prop:=∀ ta tb,PE X a ta->PE X b tb->PT X e (tTest (tOp r ta tb))
theorem Al{op:Operator}(ho:OpR X (binaryOp op) r):P2 X (.BinOp a op b pos) a b r:=λ _ _ ha hb=>pe_op ho ha hb
theorem A4(ho:OpR X (compareOp op) r)(hm:behindInMarks op b=false):P2 X (.Compare a [op] [b] pos) a b r:=λ _ _ ha hb=>qaL0 ho ha hb hm
theorem Aj(ho:OpR X (compareOp op) r)(hm:behindInMarks op b=false):T2 X (.Compare a [op] [b] pos) a b r:=λ _ _ ha hb=>qav6 ho ha hb hm
theorem An(ho:IxR X r)(hs:qam7 b:=by exact λ _ _=>rfl):P2 X (.Subscript a b pos) a b r:=λ _ _ ha hb=>pe_ix ho ha hb hs
theorem v2(p:P2 X e a b r)(h:Bb nw r g)(ha:VV c X a oa fa)(hb:VV c X b ob fb):VV c X e (nw||(oa&&ob)) (f2 g fa fb):=⟨PE.mono (p _ _ ha.h hb.h) (op_vv h)⟩
theorem e2(p:P2 X e a b r)(h:Bb true r g)(ha:VE c X a ta)(hb:VE c X b tb):VE c X e (t2 g ta tb):=⟨PE.mono (p _ _ ha.h hb.h) (op_ee ha hb h),qaI4 ha hb⟩
theorem e2v(p:P2 X e a b r)(h:Bb true r g)(ha:VE c X a ta)(hb:VV c X b ob fb):VE c X e (t2v g ta fb):=⟨PE.mono (p _ _ ha.h hb.h) (op_ev ha h),qaz7 ha⟩
theorem e2vP(p:P2 X e a b r)(h:Bb false r g)(ha:VE c X a ta)(hb:VV c X b ob fb):VE c X e (Hk g ta fb):=⟨PE.mono (p _ _ ha.h hb.h) (qaU2 ha h),qan7 ha⟩
theorem e2n(i:Nat){x:Str}{p0:Pos}(p:P2 X e (.Name x p0) b r)(h:Bb true r g)(hb:VE c X b tb)(hN:X.N[i]? = some x:=by rfl)(hv:Vis X.env.scope x:=by first | exact Or.inl rfl | exact Or.inr (Or.inl rfl) | exact Or.inr (Or.inr rfl))(hd:(x == ("__debug__" : Str))=false:=by decide)(hcd:(x == ("__classdict__" : Str))=false:=by decide) :
   VE c X e (t2n g i tb):=⟨λ D4 s σ H Q I q=>p _ _ (qt2 hN hv hd hcd) hb.h D4 s σ H Q I (op_ne hb h (qu1 hN D4 σ H s I) q),qaz8 hb⟩
def D.asB:D->Option Bool
 | .bl b=>some b
 | _=>none
theorem Rep.asB{F:Addr->Prop}{H:Hp}{d:D}{B:List Addr}{k:Bool}(r:Rep F H v d B)(h:d.asB=some k):v=.bl k:=by
 cases r<;>cases h<;>rfl
def ttV(f:FV):VTT:=λ ds Q _=>orF ((f ds).bind D.asB) λ b=>Q b ds
def ttE(t:VT):VTT:=λ ds Q xe=>t ds (λ d ds'=>orF d.asB λ b=>Q b ds') xe
theorem qaH9:∀ σ H Q,Dv c (ttV f) σ H Q->liftV c own f σ H (λ x H'=>∃ k,x=.bl k/\Q k H'):=by
 rintro σ H Q ⟨F,ds,A,xe,S,x,q⟩;obtain⟨b,e,q⟩:=qa7.mp q;obtain⟨d,e1,e2⟩:=zA1.mp e;exact⟨F,ds,A,d,S,e1,λ v H' B r s _=>⟨b,r.asB e2,q H' F A (S.same s) (.same s)⟩⟩
theorem qaz2(h:VE c X e t):∀ σ H Q,Dv c (ttE t) σ H Q->Bj c t σ H (λ x H'=>∃ k,x=.bl k/\Q k H'):=by
 rintro σ H Q ⟨F,ds,A,xe,S,x,q⟩;refine⟨F,ds,A,xe,S,x,h.m _ _ _ _ _ (λ d ds1 q v H1 F1 T A1 r1 S1 o1 s1=>?_) (λ _ _ z=>z) q⟩;obtain⟨b,e,q⟩:=qa7.mp q;exact⟨b,r1.asB e,q H1 F1 A1 S1 (s1.count λ b=>by rw[zA0];lia)⟩
theorem qac5:∀ ds (Q Q':Bool->Ds->Prop) (xe xe':XKd),(∀ d ds',Q d ds'->Q' d ds')->(∀ x ds',xe x ds'->xe' x ds')->ttV f ds Q xe->ttV f ds Q' xe':=λ ds Q Q' xe xe' hQ _=>qa4 λ d=>hQ d ds
theorem qO2(h:VE c X e t):∀ ds (Q Q':Bool->Ds->Prop) (xe xe':XKd),(∀ d ds',Q d ds'->Q' d ds')->(∀ x ds',xe x ds'->xe' x ds')->ttE t ds Q xe->ttE t ds Q' xe':=λ ds Q Q' xe xe' hQ hx=>h.m _ _ _ _ _ (λ d ds'=>qa4 λ z=>hQ z ds') hx
theorem tv(h:VV c X e own f)(he:∀ whole,isTrue e X.env whole=(do let v <- whole;standAt e.pos;holding [v] (truthy v)):=by intro _;rfl):VTe c X e (ttV f):=⟨PT.mono (qaB3 h.h he) qaH9,qac5⟩
theorem te(h:VE c X e t)(he:∀ whole,isTrue e X.env whole=(do let v <- whole;standAt e.pos;holding [v] (truthy v)):=by intro _;rfl):VTe c X e (ttE t):=⟨PT.mono (qaB3 h.h he) (qaz2 h),qO2 h⟩
theorem q2(p:T2 X e a b r)(h:Bb nw r g)(ha:VV c X a oa fa)(hb:VV c X b ob fb):VTe c X e (ttV (f2 g fa fb)):=⟨PT.mono (p _ _ ha.h hb.h) λ σ H Q q=>op_vv h σ H _ (qaH9 σ H Q q),qac5⟩
theorem q2e(p:P2 X e a b r)(p':T2 X e a b r)(h:Bb true r g)(ha:VE c X a ta)(hb:VE c X b tb):VTe c X e (ttE (t2 g ta tb)):=⟨PT.mono (p' _ _ ha.h hb.h) λ σ H Q q=>op_ee ha hb h σ H _ (qaz2 (e2 p h ha hb) σ H Q q),qO2 (e2 p h ha hb)⟩
theorem q2v(p:P2 X e a b r)(p':T2 X e a b r)(h:Bb true r g)(ha:VE c X a ta)(hb:VV c X b ob fb):VTe c X e (ttE (t2v g ta fb)):=⟨PT.mono (p' _ _ ha.h hb.h) λ σ H Q q=>op_ev ha h σ H _ (qaz2 (e2v p h ha hb) σ H Q q),qO2 (e2v p h ha hb)⟩
variable{qa qb:VTT}{rest:List Expr}
def Dx(t:VTT):VTT:=λ ds Q xe=>t ds (λ b ds'=>Q (!b) ds') xe
theorem Bp(h:VTe c X a qa):VTe c X (.UnaryOp .Not a pos) (Dx qa):=by
 refine⟨PT.mono (qaJ9 h.h) λ σ H Q ⟨F,ds,A,xe,S,x,q⟩=>⟨F,ds,A,xe,S,x,q⟩,λ ds Q Q' xe xe' hQ hx=>h.m _ _ _ _ _ (λ b ds'=>hQ _ ds') hx⟩
structure VTw(c:Vc)(X:Cx)(e:Expr)(t:VTT):Prop where
 h:PW X e (Dv c t)
 m:∀ ds (Q Q':Bool->Ds->Prop) (xe xe':XKd),(∀ d ds',Q d ds'->Q' d ds')->(∀ x ds',xe x ds'->xe' x ds')->t ds Q xe->t ds Q' xe'
theorem VTw.te(h:VTw c X e qa):VTe c X e qa:=⟨h.h.pt,h.m⟩
theorem Dc(h:VTe c X a qa):VTw c X (.BoolOp .And [a] pos) qa:=⟨qaJ8 h.h,h.m⟩
theorem Ix(h:VTe c X a qa):VTw c X (.BoolOp .Or [a] pos) qa:=⟨qaS3 h.h,h.m⟩
def Gi(t u:VTT):VTT:=λ ds Q xe=>t ds (λ k ds1=>if k=true then u ds1 Q xe else Q false ds1) xe
def ttOr(t u:VTT):VTT:=λ ds Q xe=>t ds (λ k ds1=>if k=true then Q true ds1 else u ds1 Q xe) xe
theorem qV6{k:Bool->St->Hp->(Bool->Hp->Prop)->Prop}{K:Bool->Ds->(Bool->Ds->Prop)->XKd->Prop}(ha:VTe c X a qa)(hk:∀(b:Bool) F ds A xe σ H (Q:Bool->Hp->Prop),Sta c F H σ ds A->Xc c xe F H A->K b ds (λ b' ds'=>∀ H' F' A',Sta c F' H' σ ds' A'->Stp F H A F' H' A'->Q b' H') xe->k b σ H Q)(hm:∀(b:Bool) ds (Q Q':Bool->Ds->Prop) (xe:XKd),(∀ d ds',Q d ds'->Q' d ds')->K b ds Q xe->K b ds Q' xe):∀ σ H Q,Dv c (λ ds Q xe=>qa ds (λ b ds1=>K b ds1 Q xe) xe) σ H Q->Dv c qa σ H (λ b H1=>k b σ H1 Q):=by
 rintro σ H Q ⟨F,ds,A,xe,S,x,q⟩;refine⟨F,ds,A,xe,S,x,ha.m _ _ _ _ _ (λ b ds1 q H1 F1 A1 S1 s1=>?_) (λ _ _ z=>z) q⟩;exact hk b F1 ds1 A1 xe σ H1 Q S1 (x.step s1) (hm b ds1 _ _ xe (λ b' ds' q H' F' A' S' s'=>q H' F' A' S' (s1.trans s')) q)
theorem Eb(ha:VTe c X a qa)(hb:VTw c X (.BoolOp .And (b::rest) pos) qb):VTw c X (.BoolOp .And (a::b::rest) pos) (Gi qa qb):=by
 refine⟨PW.mono (qaS4 ha.h hb.h) ?_,λ ds Q Q' xe xe' hQ hx=>ha.m _ _ _ _ _ (λ k ds1 q=>?_) hx⟩
 . refine qV6 (k:=λ b σ H Q=>if b=true then Dv c qb σ H Q else Q false H) (K:=λ b ds Q xe=>if b=true then qb ds Q xe else Q false ds) ha ?_ ?_
   . intro b F ds A xe σ H Q S x q
     cases b with
     | true=>rw[if_pos rfl] at q ⊢;exact⟨F,ds,A,xe,S,x,q⟩
     | false=>rw[if_neg (by decide)] at q ⊢;exact q H F A S Stp.refl
   intro b ds Q Q' xe hQ;cases b with
   | true=>rw[if_pos rfl,if_pos rfl];exact hb.m _ _ _ _ _ hQ λ _ _ z=>z
   | false=>rw[if_neg (by decide),if_neg (by decide)];exact hQ _ _
 cases k with
 | true=>rw[if_pos rfl] at q ⊢;exact hb.m _ _ _ _ _ hQ hx q
 | false=>rw[if_neg (by decide)] at q ⊢;exact hQ _ _ q
theorem tor(ha:VTe c X a qa)(hb:VTw c X (.BoolOp .Or (b::rest) pos) qb):VTw c X (.BoolOp .Or (a::b::rest) pos) (ttOr qa qb):=by
 refine⟨PW.mono (pw_or ha.h hb.h) ?_,λ ds Q Q' xe xe' hQ hx=>ha.m _ _ _ _ _ (λ k ds1 q=>?_) hx⟩
 . refine qV6 (k:=λ b σ H Q=>if b=true then Q true H else Dv c qb σ H Q) (K:=λ b ds Q xe=>if b=true then Q true ds else qb ds Q xe) ha ?_ ?_
   . intro b F ds A xe σ H Q S x q
     cases b with
     | false=>rw[if_neg (by decide)] at q ⊢;exact⟨F,ds,A,xe,S,x,q⟩
     | true=>rw[if_pos rfl] at q ⊢;exact q H F A S Stp.refl
   intro b ds Q Q' xe hQ;cases b with
   | false=>rw[if_neg (by decide),if_neg (by decide)];exact hb.m _ _ _ _ _ hQ λ _ _ z=>z
   | true=>rw[if_pos rfl,if_pos rfl];exact hQ _ _
 cases k with
 | false=>rw[if_neg (by decide)] at q ⊢;exact hb.m _ _ _ _ _ hQ hx q
 | true=>rw[if_pos rfl] at q ⊢;exact hQ _ _ q
end
section
variable{c:Vc}{X:Cx}{a b e:Expr}{oa ob own nw:Bool}{fa fb f:FV}{ta tb t:VT}{pos:Pos}{rest:List Expr}
def Gj(ta:VT)(k:D->VT):VT:=λ ds Q xe=>ta ds (λ x ds1=>k x ds1 Q xe) xe
theorem qaD9{k:V->St->Hp->VK->Prop}{K:D->VT}(ha:VE c X a ta)(hm:∀ x ds (Q Q':DK) (xe xe':XKd),(∀ d ds',Q d ds'->Q' d ds')->(∀ x ds',xe x ds'->xe' x ds')->K x ds Q xe->K x ds Q' xe')(hk:∀ F H σ v x T,Rep F H v x T->∀ Q,(∃ ds A xe,Sta c F H σ ds A/\Xc c xe F H A/\K x ds (λ d ds'=>∀ v H' F' T A',Rep F' H' v d T->Sta c F' H' σ ds' A'->Ok F' H' (T++A')->Stp F H A F' H' (T++A')->Q v H') xe)->k v σ H Q) :
   ∀ σ H Q,Bj c (Gj ta K) σ H Q->Bj c ta σ H (λ x H1=>k x σ H1 Q):=by
 rintro σ H Q ⟨F,ds,A,xe,S,x,q⟩;refine⟨F,ds,A,xe,S,x,ha.m _ _ _ _ _ (λ d ds1 q v H1 F1 T A1 r1 S1 o1 s1=>?_) (λ _ _ z=>z) q⟩;have s1':Stp F H A F1 H1 A1:=s1.count λ b=>by rw[zA0];lia
 exact hk F1 H1 σ v d T r1 Q ⟨ds1,A1,xe,S1,x.step s1',hm d ds1 _ _ _ _ (λ d' ds' q w H' F' T' A' r S' o s=>q w H' F' T' A' r S' o (s1'.trans s)) (λ _ _ z=>z) q⟩
def G8(ta tb:VT):VT:=Gj ta λ x ds Q xe=>orF x.asB λ k=>if k=true then tb ds Q xe else Q (.bl false) ds
def tOrE(ta tb:VT):VT:=Gj ta λ x ds Q xe=>orF x.asB λ k=>if k=true then Q (.bl true) ds else tb ds Q xe
def tNotE(ta:VT):VT:=Gj ta λ x ds Q xe=>orF x.asB λ k=>Q (.bl (!k)) ds
theorem qM0{k:Bool}{p q p' q':Prop}(h1:p->p')(h2:q->q'):(if k=true then p else q)->(if k=true then p' else q'):=by
 cases k with
 | true=>rw[if_pos rfl,if_pos rfl];exact h1
 | false=>rw[if_neg (by decide),if_neg (by decide)];exact h2
theorem qam5(hb:VE c X e tb):∀(x:D) ds (Q Q':DK) (xe xe':XKd),(∀ d ds',Q d ds'->Q' d ds')->(∀ x ds',xe x ds'->xe' x ds')->(orF x.asB λ k=>if k=true then tb ds Q xe else Q (.bl false) ds)->(orF x.asB λ k=>if k=true then tb ds Q' xe' else Q' (.bl false) ds) :=
 λ x ds Q Q' xe xe' hQ hx=>qa4 λ k=>qM0 (hb.m _ _ _ _ _ hQ hx) (hQ _ _)
theorem Iy{op:PySem.BoolOp}(h:VE c X a ta):VE c X (.BoolOp op [a] pos) ta:=⟨qap0 h.h,h.m⟩
theorem Gk(ha:VE c X a ta)(hb:VE c X (.BoolOp .And (b::rest) pos) tb):VE c X (.BoolOp .And (a::b::rest) pos) (G8 ta tb):=by
 refine⟨PE.mono (qap3 ha.h hb.h) ?_,λ ds Q Q' xe xe' hQ hx=>ha.m _ _ _ _ _ (λ d ds1=>qam5 hb d ds1 Q Q' xe xe' hQ hx) hx⟩;refine qaD9 (k:=λ v σ H Q=>∃ c',v=.bl c'/\if c'=true then Bj c tb σ H Q else Q (.bl false) H) ha (qam5 hb) ?_;rintro F H σ v x T r Q ⟨ds,A,xe,S,xc,q⟩;obtain⟨k,ek,q⟩:=qa7.mp q;refine⟨k,r.asB ek,?_⟩;cases k with
 | true=>rw[if_pos rfl] at q ⊢;exact⟨F,ds,A,xe,S,xc,q⟩
 | false=>rw[if_neg (by decide)] at q ⊢;exact q _ H F [] A (.bl _) S S.ok Stp.refl
variable{qc:VTT}
def tIfE(qc:VTT)(ta tb:VT):VT:=λ ds Q xe=>qc ds (λ k ds1=>if k=true then ta ds1 Q xe else tb ds1 Q xe) xe
theorem eif(hc:VTe c X cd qc)(ha:VE c X a ta)(hb:VE c X b tb):VE c X (.IfExp cd a b pos) (tIfE qc ta tb):=by
 refine⟨PE.mono (qaf5 hc.h ha.h hb.h) ?_,λ ds Q Q' xe xe' hQ hx=>hc.m _ _ _ _ _ (λ k ds1=>qM0 (ha.m _ _ _ _ _ hQ hx) (hb.m _ _ _ _ _ hQ hx)) hx⟩;rintro σ H Q ⟨F,ds,A,xe,S,x,q⟩;refine⟨F,ds,A,xe,S,x,hc.m _ _ _ _ _ (λ k ds1 q H1 F1 A1 S1 s1=>?_) (λ _ _ z=>z) q⟩;cases k with
 | true=>rw[if_pos rfl] at q ⊢;exact⟨F1,ds1,A1,xe,S1,x.step s1,ha.m _ _ _ _ _ (λ d ds' q v H' F' T A' r S' o s=>q v H' F' T A' r S' o (s1.trans s)) (λ _ _ z=>z) q⟩
 | false=>rw[if_neg (by decide)] at q ⊢;exact⟨F1,ds1,A1,xe,S1,x.step s1,hb.m _ _ _ _ _ (λ d ds' q v H' F' T A' r S' o s=>q v H' F' T A' r S' o (s1.trans s)) (λ _ _ z=>z) q⟩
def fAnd(fa fb:FV):FV:=λ ds=>(fa ds).bind λ x=>x.asB.bind λ k=>if k=true then fb ds else some (.bl false)
def fOr(fa fb:FV):FV:=λ ds=>(fa ds).bind λ x=>x.asB.bind λ k=>if k=true then some (.bl true) else fb ds
def fNot(fa:FV):FV:=λ ds=>(fa ds).bind λ x=>x.asB.map λ k=>.bl (!k)
theorem Hq{op:PySem.BoolOp}(h:VV c X a oa fa):VV c X (.BoolOp op [a] pos) oa fa:=⟨qap0 h.h⟩
theorem vand(ha:VV c X a oa fa)(hb:VV c X (.BoolOp .And (b::rest) pos) ob fb):VV c X (.BoolOp .And (a::b::rest) pos) ob (fAnd fa fb):=by
 refine⟨PE.mono (qap3 ha.h hb.h) λ σ H Q ⟨F,ds,A,d,S,e,q⟩=>?_⟩;obtain⟨x,h1,e⟩:=zA1.mp e;obtain⟨k,h2,e⟩:=zA1.mp e;refine⟨F,ds,A,x,S,h1,λ v H1 B1 r1 s1 n1=>⟨k,r1.asB h2,?_⟩⟩;cases k with
 | true=>rw[if_pos rfl] at e ⊢;exact⟨F,ds,A,d,S.same s1,e,λ w H2 B2 r2 s2 n2=>q w H2 B2 r2 (s1.trans s2) λ ho=>⟨(n2 ho).one,λ b o e=>(n2 ho).new b o (s1 b o e)⟩⟩
 | false=>rw[if_neg (by decide)] at e ⊢;cases e;exact q _ H1 [] (.bl _) s1 λ _=>New.nil
theorem vor(ha:VV c X a oa fa)(hb:VV c X (.BoolOp .Or (b::rest) pos) ob fb):VV c X (.BoolOp .Or (a::b::rest) pos) ob (fOr fa fb):=by
 refine⟨PE.mono (pe_or ha.h hb.h) λ σ H Q ⟨F,ds,A,d,S,e,q⟩=>?_⟩;obtain⟨x,h1,e⟩:=zA1.mp e;obtain⟨k,h2,e⟩:=zA1.mp e;refine⟨F,ds,A,x,S,h1,λ v H1 B1 r1 s1 n1=>⟨k,r1.asB h2,?_⟩⟩;cases k with
 | false=>rw[if_neg (by decide)] at e ⊢;exact⟨F,ds,A,d,S.same s1,e,λ w H2 B2 r2 s2 n2=>q w H2 B2 r2 (s1.trans s2) λ ho=>⟨(n2 ho).one,λ b o e=>(n2 ho).new b o (s1 b o e)⟩⟩
 | true=>rw[if_pos rfl] at e ⊢;cases e;exact q _ H1 [] (.bl _) s1 λ _=>New.nil
theorem vnot(ha:VV c X a oa fa):VV c X (.UnaryOp .Not a pos) true (fNot fa):=by
 refine⟨PE.mono (qaK8 ha.h) λ σ H Q ⟨F,ds,A,d,S,e,q⟩=>?_⟩;obtain⟨x,h1,e⟩:=zA1.mp e;obtain⟨k,h2,rfl⟩:=zAa.mp e;exact⟨F,ds,A,x,S,h1,λ v H1 B1 r1 s1 n1=>⟨k,r1.asB h2,q _ H1 [] (.bl _) s1 λ _=>New.nil⟩⟩
def gNeg:D->Option D
 | .int i=>some (.int (-i))
 | _=>none
theorem qaT3:OpS1 true (rU λ i=>.int (-i)) gNeg:=by
 intro F H v x B d Q r h q;cases x with
 | int i=>cases h;cases r;exact⟨i,rfl,q _ H [] (.int _) (λ _ _ z=>z) New.nil⟩
 | _=>cases h
theorem vneg(ha:VV c X a oa fa):VV c X (.UnaryOp .USub a pos) true (f1 gNeg fa):=⟨PE.mono (pe_un qaR6 ha.h) (op_v (nw:=true) qaT3)⟩
theorem Be{f:Str}{C:Addr}{K:PySem.W.Frag}(hK:X.K=K)(ha:VV c X a oa fa)(cl:Cls K C)(n:qg4 K C f)(hb:attributeBase a f X.env (eval a X.env)=eval a X.env:=by rfl):VV c X (.Attribute a f pos) oa (f1 (D.fld C f) fa):=by
 subst hK;exact⟨PE.mono (qap1 ha.h hb) (op_v (nw:=false) (qaL6 cl n))⟩
variable{rc:List V->Hp->VK->Prop}{gc:Ds->Option D}{x:Str}{p:Pos}{es:List Expr}{fs:Ds->Option Ds}{tos:VTA}
def Ay(gc:Ds->Option D)(fs:Ds->Option Ds):FV:=λ ds=>(fs ds).bind gc
theorem vbi{id:String}(hc:CallR X (.builtin id) rc)(h:OpS nw rc gc)(hm:X.mg x=none)(ha:VVs c X (e::es) own fs)(hg:Gl X x:=by rfl)(hv:bootBuiltins x=some (.builtin id):=by rfl)(hn:x ≠ "__name__" := by decide)(hdb:(x == ("__debug__" : Str))=false:=by decide)(he:starEach (e::es) X.env=(false,eval e X.env)::starEach es X.env:=by rfl)(hpl:((backTo pos (starEach es X.env)).any λ x=>x.1)=false:=by rfl) :
   VV c X (.Call (.Name x p) (e::es) [] pos) (nw||own) (Ay gc fs):=⟨PE.mono (cbi hc hm ha.h hg hv hn hdb he hpl) (qaL7 h)⟩
theorem E6{id:String}(hc:CallR X (.type id) rc)(h:OpS nw rc gc)(hm:X.mg x=none)(ha:VVs c X (e::es) own fs)(hg:Gl X x:=by rfl)(hv:bootBuiltins x=some (.type id):=by rfl)(hn:x ≠ "__name__" := by decide)(hdb:(x == ("__debug__" : Str))=false:=by decide)(he:starEach (e::es) X.env=(false,eval e X.env)::starEach es X.env:=by rfl)(hpl:((backTo pos (starEach es X.env)).any λ x=>x.1)=false:=by rfl) :
   VV c X (.Call (.Name x p) (e::es) [] pos) (nw||own) (Ay gc fs):=⟨PE.mono (cty hc hm ha.h hg hv hn hdb he hpl) (qaL7 h)⟩
theorem ebi{id:String}(hc:CallR X (.builtin id) rc)(h:OpS true rc gc)(hm:X.mg x=none)(ha:VOs c X (e::es) tos)(hg:Gl X x:=by rfl)(hv:bootBuiltins x=some (.builtin id):=by rfl)(hn:x ≠ "__name__" := by decide)(hdb:(x == ("__debug__" : Str))=false:=by decide)(he:starEach (e::es) X.env=(false,eval e X.env)::starEach es X.env:=by rfl)(hpl:((backTo pos (starEach es X.env)).any λ x=>x.1)=false:=by rfl) :
   VE c X (.Call (.Name x p) (e::es) [] pos) (tcO gc tos):=⟨PE.mono (cbi hc hm ha.h hg hv hn hdb he hpl) (opc_o ha h),qaz3 ha⟩
def gLst(xs:Ds):Option D:=gd (D.imms xs=true/\xs.length<=big) (.lst false xs)
def gTup(xs:Ds):Option D:=gd (D.imms xs=true/\xs.length<=big) (.tup xs)
theorem Bk(ha:VVs c X es own fs):VV c X (.List es pos) true (Ay gLst fs):=by
 refine⟨PE.mono (qaC2 ha.h) λ σ H Q ⟨F,ds,A,d,S,e,q⟩=>?_⟩;obtain⟨xs,e1,e2⟩:=zA1.mp e;obtain⟨hm,rfl⟩:=qw8 e2;refine⟨F,ds,A,xs,S,e1,λ vs H1 B1 r1 s1 n1=>⟨by rw[r1.len];exact zAp hm.2 qg3,λ p hp=>?_⟩⟩;exact q _ _ [p] (qE5 hp (r1.imms0 hm.1)) (s1.trans (Same.new hp)) λ _=>⟨(qh9 hp).one,λ b o e=>(qh9 hp).new b o (s1 b o e)⟩
theorem Ep{k:Nat}(ha:VVs c X es own fs):VV c X (.Tuple es k pos) true (Ay gTup fs):=by
 refine⟨PE.mono (qaK6 ha.h) λ σ H Q ⟨F,ds,A,d,S,e,q⟩=>?_⟩;obtain⟨xs,e1,e2⟩:=zA1.mp e;obtain⟨hm,rfl⟩:=qw8 e2;refine⟨F,ds,A,xs,S,e1,λ vs H1 B1 r1 s1 n1=>⟨by rw[r1.len];exact zAp hm.2 qg3,λ p hp=>?_⟩⟩;exact q _ _ [] (qag5 hp (r1.imms0 hm.1)) (s1.trans (Same.new hp)) λ _=>New.nil
def FO:=Ds->Option (Option Int)
inductive qaR2(c:Vc)(f:FO)(σ:St)(H:Hp)(Q:Option Int->Hp->Prop):Prop
 | mk (F:Addr->Prop) (ds:Ds) (A:List Addr) (i:Option Int) (S:Sta c F H σ ds A) (e:f ds=some i) (q:∀ H',Same H H'->Q i H'):qaR2 c f σ H Q
def qaU9(c:Vc)(f:FO):TO:=qaR2 c f
structure VPO(c:Vc)(X:Cx)(e:Option Expr)(f:FO):Prop where
 h:PO X e (qaU9 c f)
theorem PO.mono{X:Cx}{e:Option Expr}{t t':TO}(h:PO X e t)(i:∀ σ H Q,t' σ H Q->t σ H Q):PO X e t':=λ D4 s σ H Q I q=>h D4 s σ H Q I (i σ H Q q)
def foN:FO:=λ _=>some none
def D.asI:D->Option Int
 | .int i=>some i
 | _=>none
theorem Rep.asI{F:Addr->Prop}{H:Hp}{d:D}{B:List Addr}{k:Int}(r:Rep F H v d B)(h:d.asI=some k):v=.int k:=by
 cases r<;>cases h<;>rfl
def foS(f:FV):FO:=λ ds=>(f ds).bind λ d=>d.asI.map some
theorem vpo_n:VPO c X none foN:=⟨PO.mono qav9 λ σ H Q ⟨F,ds,A,i,S,e,q⟩=>by cases e;exact q H λ _ _ z=>z⟩
theorem vpo_s(h:VV c X e own f):VPO c X (some e) (foS f):=by
 refine⟨PO.mono (qav8 h.h) λ σ H Q ⟨F,ds,A,i,S,e,q⟩=>?_⟩;obtain⟨d,e1,e2⟩:=zA1.mp e;obtain⟨j,e3,rfl⟩:=zAa.mp e2;exact⟨F,ds,A,d,S,e1,λ v H' B r s _=>⟨j,r.asI e3,q H' s⟩⟩
def noT:D->Bool
 | .tup _=>false
 | _=>true
def fsl(fa:FV)(lo hi:FO):FV:=λ ds=>(fa ds).bind λ x=>(lo ds).bind λ l=>(hi ds).bind λ h=>if noT x=true then gSl x l h else none
theorem vsl{lo hi:Option Expr}{fl fh:FO}(ha:VV c X a oa fa)(hl:VPO c X lo fl)(hh:VPO c X hi fh):VV c X (.Subscript a (.Slice lo hi none p2) pos) true (fsl fa fl fh):=by
 refine⟨PE.mono (qaf2 qau5 ha.h hl.h hh.h) λ σ H Q ⟨F,ds,A,d,S,e,q⟩=>?_⟩;obtain⟨x,e1,e⟩:=zA1.mp e;obtain⟨l,e2,e⟩:=zA1.mp e;obtain⟨h,e3,e⟩:=zA1.mp e;by_cases hx:noT x=true
 . rw[if_pos hx] at e
   refine⟨F,ds,A,x,S,e1,λ v H1 B1 r1 s1 _=>⟨F,ds,A,l,S.same s1,e2,λ H2 s2=>⟨F,ds,A,h,(S.same s1).same s2,e3,λ H3 s3=>?_⟩⟩⟩;have s13:=(s1.trans s2).trans s3;refine os_sl ((r1.same s2).same s3) e (λ ys z=>by subst z;cases hx) λ w H' B' r' s' n'=>q w H' B' r' (s13.trans s') λ _=>⟨n'.one,λ b o e=>n'.new b o (s13 b o e)⟩
 rw[if_neg hx] at e;cases e
def fget(fa fk fz:FV):FV:=λ ds=>(fa ds).bind λ x=>(fk ds).bind λ y=>(fz ds).bind λ z=>match x with
 | .dct _ kvs=>y.key.bind λ k=>gd (((Dt kvs k).getD z).imm=true) ((Dt kvs k).getD z)
 | _=>none
theorem vget{k z:Expr}{ok oz:Bool}{fk fz:FV}{apos cpos:Pos}(hu:X.A.units+1 < cLine)(ha:VV c X a oa fa)(hk:VV c X k ok fk)(hz:VV c X z oz fz)(m:M2 X a "get" apos k z cpos):VV c X (.Call (.Attribute a "get" apos) [k,z] [] cpos) true (fget fa fk fz):=by
 refine⟨PE.mono (qaC3 hu ha.h hk.h hz.h m) λ σ H Q ⟨F,ds,A,d,S,e,q⟩=>?_⟩;obtain⟨x,e1,e⟩:=zA1.mp e;obtain⟨y,e2,e⟩:=zA1.mp e;obtain⟨w,e3,e⟩:=zA1.mp e;cases x with
 | dct z kds =>
   obtain⟨ky,e4,e⟩:=zA1.mp e;obtain⟨hm,rfl⟩:=qw8 e;refine⟨F,ds,A,_,S,e1,λ v H1 B1 r1 s1 _=>?_⟩;obtain⟨a,kvs,A2,rfl,hs,ek,rs,_⟩:=r1.dct_inv;refine⟨a,rfl,.inl ⟨kvs,.inl hs⟩,F,ds,A,y,S.same s1,e2,λ u H2 B2 r2 s2 _=>⟨F,ds,A,w,(S.same s1).same s2,e3,λ u3 H3 B3 r3 s3 _=>?_⟩⟩;have hs3:=s3 _ _ (s2 _ _ hs);refine⟨Ez kvs ky,.inl ⟨kvs,ky,.inl hs3,(r2.key e4),rfl⟩,?_⟩;have s13:=(s1.trans s2).trans s3;rcases qaH6 ky ek rs with⟨n1,n2⟩ | ⟨vv,dd,BB,n1,n2,n3,n4⟩
   . rw[n1] at hm q;rw[n2]
     have:=r3.imm hm
     subst this;exact q _ H3 [] r3 s13 λ _=>New.nil
   rw[n1] at hm q;rw[n2]
   have:=n3.imm hm
   subst this;exact q _ H3 [] ((n3.same s2).same s3) s13 λ _=>New.nil
 | _=>cases e
end
section
variable{c:Vc}{X:Cx}{a b e:Expr}{pos:Pos}{F F':Addr->Prop}{H H':Hp}{σ:St}{ds:Ds}{A:List Addr}
theorem Sta.put1{d:D}(S:Sta c F H σ ds A)(h:ds[i]? = some d)(hd:d≠.unk):∃(v:V)(B C:List Addr),(σ++c.gv)[i]? = some (some v)/\Rep F H v d B/\(∀ b,A.count b=B.count b+C.count b) /\
   ∀{F':Addr->Prop}{H':Hp}{W:Addr->Prop}(d':D)(B':List Addr),Kp F H W F' H'->(∀ b∈C,¬ W b)->Rep F' H' v d' B'->∃ A':List Addr,Locs F' H' (σ++c.gv) (ds.set i d') A'/\∀ b,A'.count b=B'.count b+C.count b:=by
 have hg:A7 ds i []=some d:=by unfold A7;rw[h];rfl
 obtain⟨u,w,B,C,h1,h2,h3,h4,h5⟩:=S.loc.place hg hd;cases h2;refine⟨u,B,C,h1,h3,h4,λ{F' H' W} d' B' k hc r=>?_⟩;obtain⟨A',q1,q2⟩:=h5 d' B' k hc r;refine⟨A',?_,q2⟩;unfold Bd at q1;rw[h] at q1;exact q1
theorem qo8{d:D}(h:d.known=true):d≠.unk:=λ z=>by subst z;cases h
def tMv(i:Nat):VT:=λ ds Q _=>orF (rdN i ds) λ d=>Q d (ds.set i .unk)
theorem emv(i:Nat){x:Str}(hN:X.N[i]? = some x:=by rfl)(hv:Vis X.env.scope x:=by first | exact Or.inl rfl | exact Or.inr (Or.inl rfl) | exact Or.inr (Or.inr rfl))(hd:(x == ("__debug__" : Str))=false:=by decide)(hcd:(x == ("__classdict__" : Str))=false:=by decide) :
   VE c X (.Name x pos) (tMv i):=by
 refine⟨λ D4 s σ H Q I ⟨F,ds,A,xe,S,x,q⟩=>qt2 hN hv hd hcd D4 s σ H Q I ?_,λ ds Q Q' xe xe' hQ _=>qa4 λ d=>hQ _ _⟩;obtain⟨d,ed,q⟩:=qa7.mp q;obtain⟨ed,hk⟩:=qn8.mp ed;obtain⟨v,B,C,h1,h2,h3,h4⟩:=S.put1 ed (qo8 hk);have hi:=qu1 hN D4 σ H s I;rw[zAs hi] at h1;obtain⟨A',q1,q2⟩:=h4 .unk [] (Kp.same (λ _ _ z=>z)) (λ _ _ z=>z) (.unk v);refine⟨v,h1,q v H F B A' h2 ⟨q1,S.ok.count λ b=>by rw[q2,h3];simp,S.len,S.ag⟩ (S.ok.count λ b=>by rw[zA0,q2,h3];simp) ?_⟩;exact⟨λ _ _ e _=>e,λ b o e z=>by rw[zA0,q2];have:=h3 b;simp;lia,λ _ f=>f,λ _ _ _ _ f=>f⟩
def tFz(i:Nat):VT:=λ ds Q _=>orF (rdN i ds) λ d=>Q d.fz (ds.set i d.fz)
theorem share{B C:List Addr}(o:Ok F H A)(hc:∀ b,A.count b=B.count b+C.count b)(cb:∀ b∈B,∃ o,H b=some o/\En o=true){A':List Addr}(ha:∀ b,A'.count b=C.count b) :
   Ok (λ b=>F b∨b∈B) H A'/\Stp F H A (λ b=>F b∨b∈B) H A':=by
 refine⟨⟨λ b=>by rw[ha];have:=o.sep b;have:=hc b;lia,λ b f=>?_,λ b f=>?_⟩,λ _ _ e _=>e,λ b o e z=>by rw[ha];have:=hc b;lia,λ b f=>.inl f,λ b u e z f=>?_⟩
 . rw[ha]
   rcases f with f | f
   . have:=o.fro b f;have:=hc b;lia
   have:=qb2.mp f;have:=o.sep b;have:=hc b;lia
 . rcases f with f | f
   . exact o.ex b f
   exact let ⟨u,e,_⟩:=cb b f;⟨u,e⟩
 rcases f with f | f
 . exact f
 have:=qb2.mp f;have:=hc b;lia
abbrev PF:=Ds->Option (Nat×List Nat)
inductive LiftP(c:Vc)(pf:PF)(σ:St)(H:Hp)(Q:VK):Prop
 | mk (F:Addr->Prop) (ds:Ds) (A:List Addr) (i:Nat) (p:List Nat) (d:D) (S:Sta c F H σ ds A) (e:pf ds=some (i,p)) (g:A7 ds i p=some d) (n:d≠.unk) (q:∀ u w H',(σ++c.gv)[i]? = some (some u)->Walk H' u p w->Same H H'->Q w H'):LiftP c pf σ H Q
def Gm(c:Vc)(pf:PF):TE:=LiftP c pf
structure VP(c:Vc)(X:Cx)(e:Expr)(pf:PF):Prop where
 h:PE X e (Gm c pf)
theorem vpn(i:Nat){x:Str}(hN:X.N[i]? = some x:=by rfl)(hv:Vis X.env.scope x:=by first | exact Or.inl rfl | exact Or.inr (Or.inl rfl) | exact Or.inr (Or.inr rfl))(hd:(x == ("__debug__" : Str))=false:=by decide)(hcd:(x == ("__classdict__" : Str))=false:=by decide) :
   VP c X (.Name x pos) (λ _=>some (i,[])):=by
 refine⟨λ D4 s σ H Q I ⟨F,ds,A,j,p,d,S,e,hg,hd',q⟩=>qt2 hN hv hd hcd D4 s σ H Q I ?_⟩;cases e;obtain⟨u,w,B,C,h1,h2,h3,h4,h5⟩:=S.loc.place hg hd';cases h2;have hi:=qu1 hN D4 σ H s I;have h1':=h1;rw[zAs hi] at h1';exact⟨u,h1',q u u H h1 rfl λ _ _ z=>z⟩
theorem qM4:∀{p:List Nat}{d x:D}{q:List Nat},d.getP (p++q)=some x->∃ e,d.getP p=some e/\e.getP q=some x
 | [],d,x,q,h=>⟨d,rfl,h⟩
 | n::p,d,x,q,h=>by
   have h:D.getP d (n::(p++q))=some x:=h;unfold D.getP at h;cases hk:d.kids[n]? with
   | none=>rw[hk] at h;cases h
   | some y =>
     rw[hk] at h;obtain⟨e,h1,h2⟩:=qM4 (p:=p) h;exact⟨e,by unfold D.getP;rw[hk];exact h1,h2⟩
theorem qM5{p q:List Nat}{x:D}(h:A7 ds i (p++q)=some x):∃ e,A7 ds i p=some e/\e.getP q=some x:=by
 unfold A7 at h ⊢;cases hi:ds[i]? with
 | none=>rw[hi] at h;cases h
 | some d=>rw[hi] at h;exact qM4 h
theorem Walk.snoc:∀{p:List Nat}{u v w:V}{n:Nat},Walk H u p v->Lnk H v n w->Walk H u (p++[n]) w
 | [],_,_,w,n,h,l=>by cases h;exact⟨w,l,rfl⟩
 | m::p,_,_,_,_,⟨x,h1,h2⟩,l=>⟨x,h1,h2.snoc l⟩
theorem qaN8{d e:D}(h:d.getP [n]=some e):d≠.unk:=λ z=>by subst z;simp[D.getP,D.kids] at h
theorem Sta.place{p:List Nat}{d:D}{u:V}(S:Sta c F H σ ds A)(h:A7 ds i p=some d)(hd:d≠.unk)(hu:(σ++c.gv)[i]? = some (some u))(hw:Walk H u p w):∃(B C:List Addr),Rep F H w d B/\(∀ b,A.count b=B.count b+C.count b) /\
   ∀{F':Addr->Prop}{H':Hp}{W:Addr->Prop}(d':D)(B':List Addr),Kp F H W F' H'->(∀ b∈C,¬ W b)->Rep F' H' w d' B'->∃ A':List Addr,Locs F' H' (σ++c.gv) (Bd ds i p d') A'/\∀ b,A'.count b=B'.count b+C.count b:=by
 obtain⟨u',w',B,C,h1,h2,h3,h4,h5⟩:=S.loc.place h hd;rw[hu] at h1;cases h1;cases hw.fn h2;exact⟨B,C,h3,h4,h5⟩
def D.fidx(C:Addr)(f:Str):D->Option Nat
 | .ins _ C' fs=>if C'=C then fs.findIdx? (λ q=>f == q.1) else none
 | _=>none
theorem qF5{α:Type}:∀{fs:List (Str×α)}{f:Str}{n:Nat},fs.findIdx? (λ q=>f == q.1)=some n->∃ v,fs.lookup f=some v/\(fs.map (·.2))[n]? = some v
 | [],f,n,h=>by simp at h
 | (k,v)::r,f,n,h=>by
   rw[zC8] at h;rw[zAr];cases hb:f == k with
   | true=>simp[hb] at h;subst h;exact⟨v,rfl,rfl⟩
   | false =>
     simp[hb] at h;obtain⟨m,hm,rfl⟩:=h;obtain⟨w,h1,h2⟩:=qF5 (fs:=r) hm;exact⟨w,h1,by simpa using h2⟩
theorem qW8{α β:Type}:∀{fs:List (Str×α)}{gs:List (Str×β)}{f:Str},fs.map (·.1)=gs.map (·.1)->fs.findIdx? (λ q=>f == q.1)=gs.findIdx? (λ q=>f == q.1)
 | [],[],_,_=>rfl
 | [],_::_,_,h=>by simp at h
 | _::_,[],_,h=>by simp at h
 | (k,_)::r,(k',_)::r',f,h=>by
   have h1:k=k':=by simp at h;exact h.1
   have h2:r.map (·.1)=r'.map (·.1):=by simp at h;simpa using h.2
   subst h1;rw[zC8,zC8,qW8 h2]
def pfFld(C:Addr)(f:Str)(pf:PF):PF:=λ ds=>(pf ds).bind λ q=>(A7 ds q.1 q.2).bind λ d=>(d.fidx C f).map λ n=>(q.1,q.2++[n])
theorem Ec{f:Str}{C:Addr}{K:PySem.W.Frag}{pf:PF}(hK:X.K=K)(ha:VP c X a pf)(cl:Cls K C)(na:qg4 K C f)(hb:attributeBase a f X.env (eval a X.env)=eval a X.env:=by rfl):VP c X (.Attribute a f pos) (pfFld C f pf):=by
 subst hK;refine⟨PE.mono (qap1 ha.h hb) λ σ H Q ⟨F,ds,A,i,p,d,S,e,hg,hd,q⟩=>?_⟩;obtain⟨⟨j,p0⟩,e1,e⟩:=zA1.mp e;obtain⟨d0,e2,e⟩:=zA1.mp e;obtain⟨n,e3,e⟩:=zAa.mp e;cases e;obtain⟨d0',g1,g2⟩:=qM5 hg;rw[e2] at g1;cases g1;have hne:=qaN8 g2;refine⟨F,ds,A,j,p0,d0,S,e1,e2,hne,λ u w H' hu hw s=>?_⟩;obtain⟨B,C0,r,_,_⟩:=(S.same s).place e2 hne hu hw;cases d0 with
 | ins z C' fs =>
   have e9:(if C'=C then fs.findIdx? (λ q=>f == q.1) else none)=some n:=e3;by_cases hc:C'=C
   . rw[if_pos hc] at e9
     obtain⟨a,dx,fvs,_,rfl,ha,hk,rs,_⟩:=r.ins_inv;rw[<- qW8 hk] at e9;obtain⟨v,l1,l2⟩:=qF5 e9;subst hc;exact⟨a,C',dx,fvs,v,rfl,ha,cl,na,l1,q u v H' hu (hw.snoc ⟨a,rfl,.inr (.inr (.inr ⟨C',dx,fvs,ha,l2⟩))⟩) s⟩
   rw[if_neg hc] at e9;cases e9
 | _=>cases e3
def pfIx(pf:PF)(fb:FV):PF:=λ ds=>(pf ds).bind λ q=>(A7 ds q.1 q.2).bind λ d=>d.elems.bind λ ys=>(fb ds).bind λ y=>y.asI.bind λ k=>(ixN ys.length k).map λ n=>(q.1,q.2++[n])
theorem Ed{pf:PF}{ob:Bool}{fb:FV}(ha:VP c X a pf)(hb:VV c X b ob fb)(hs:qam7 b:=by exact λ _ _=>rfl):VP c X (.Subscript a b pos) (pfIx pf fb):=by
 refine⟨PE.mono (pe_ix qb0 ha.h hb.h hs) λ σ H Q ⟨F,ds,A,i,p,d,S,e,hg,hd,q⟩=>?_⟩;obtain⟨⟨j,p0⟩,e1,e⟩:=zA1.mp e;obtain⟨d0,e2,e⟩:=zA1.mp e;obtain⟨ys,e3,e⟩:=zA1.mp e;obtain⟨y,e4,e⟩:=zA1.mp e;obtain⟨k,e5,e⟩:=zA1.mp e;obtain⟨n,e6,e⟩:=zAa.mp e;cases e;obtain⟨d0',g1,g2⟩:=qM5 hg;rw[e2] at g1;cases g1;have hne:=qaN8 g2;refine⟨F,ds,A,j,p0,d0,S,e1,e2,hne,λ u w H1 hu hw s=>?_⟩;refine⟨F,ds,A,y,S.same s,e4,λ v2 H2 B2 r2 s2 _=>?_⟩;have s12:=s.trans s2;have hw2:=hw.same s2;obtain⟨B,C0,r,_,_⟩:=(S.same s12).place e2 hne hu hw2;cases r2.asI e5;have hn:n < ys.length:=(qV8 e6).2.1;cases d0 with
 | lst z ys' =>
   cases e3;obtain⟨a,vs,A3,rfl,ha,rs,_⟩:=r.lst_inv;obtain⟨vn,hv⟩:∃ x,vs[n]? = some x:=⟨_,zAz (by rw[rs.len];exact hn)⟩
   refine .inl ⟨a,vs,k,_,rfl,rfl,.inl (.inl ha),?_,q u _ H2 hu (hw2.snoc ⟨a,rfl,.inr (.inl ⟨vs,ha,hv⟩)⟩) s12⟩;unfold atI;rw[rs.len,e6];exact hv
 | tup ys' =>
   cases e3;obtain⟨a,vs,rfl,ha,rs⟩:=r.tup_inv;obtain⟨vn,hv⟩:∃ x,vs[n]? = some x:=⟨_,zAz (by rw[rs.len];exact hn)⟩
   refine .inr (.inl ⟨a,vs,k,_,rfl,rfl,.inl (.inl ha),?_,q u _ H2 hu (hw2.snoc ⟨a,rfl,.inl ⟨vs,ha,hv⟩⟩) s12⟩);unfold atI;rw[rs.len,e6];exact hv
 | _=>cases e3
end
inductive Pl where
 | no
 | sl (i:Nat)
 | pl (i:Nat) (p:List Nat) (w:V)
abbrev VTB:=Ds->(Ds->List Pl->Ds->Prop)->XKd->Prop
inductive Fk(τ:List (Option V)):List V->List Pl->Prop
 | nil:Fk τ [] []
 | no {v:V} {vs:List V} {ps:List Pl} (t:Fk τ vs ps):Fk τ (v::vs) (.no::ps)
 | sl {v:V} {vs:List V} {ps:List Pl} {i:Nat} (h:τ[i]? = some (some v)) (t:Fk τ vs ps):Fk τ (v::vs) (.sl i::ps)
 | so {v:V} {vs:List V} {ps:List Pl} {i:Nat} {p:List Nat} (t:Fk τ vs ps):Fk τ (v::vs) (.pl i p v::ps)
inductive LiftA(c:Vc)(t:VTB)(σ:St)(H:Hp)(Q:List V->Hp->Prop):Prop
 | mk (F:Addr->Prop) (ds:Ds) (A:List Addr) (xe:XKd) (S:Sta c F H σ ds A) (x:Xc c xe F H A) (q:t ds (λ xs pls ds'=>∀ vs H' F' T A',Reps F' H' vs xs T->Fk (σ++c.gv) vs pls->Sta c F' H' σ ds' A'->Ok F' H' (T++A')->Stp F H A F' H' (T++A')->Q vs H') xe):LiftA c t σ H Q
def Eu(c:Vc)(t:VTB):TA:=LiftA c t
structure VAs(c:Vc)(X:Cx)(es:List Expr)(t:VTB):Prop where
 h:PA X es (Eu c t)
 m:∀ ds (Q Q':Ds->List Pl->Ds->Prop) (xe xe':XKd),(∀ d p ds',Q d p ds'->Q' d p ds')->(∀ x ds',xe x ds'->xe' x ds')->t ds Q xe->t ds Q' xe'
section
variable{c:Vc}{X:Cx}{e:Expr}{es:List Expr}{ta:VT}{tr:VTB}{pf:PF}{F F':Addr->Prop}{H H':Hp}{σ:St}{ds:Ds}{A:List Addr}
def Ax:VTB:=λ ds Q _=>Q [] [] ds
theorem Aa:VAs c X [] Ax:=⟨PA.mono ql6 λ σ H Q ⟨F,ds,A,xe,S,x,q⟩=>q [] H F [] A .nil .nil S S.ok Stp.refl,λ ds Q Q' xe xe' hQ _=>hQ _ _ _⟩
def tbV(ta:VT)(tr:VTB):VTB:=λ ds Q xe=>ta ds (λ x ds1=>tr ds1 (λ xs ps ds2=>Q (x::xs) (.no::ps) ds2) xe) xe
theorem vaV(ha:VE c X e ta)(hr:VAs c X es tr)(hs:starEach (e::es) X.env=(false,eval e X.env)::starEach es X.env:=by rfl):VAs c X (e::es) (tbV ta tr):=by
 refine⟨PA.mono (qc4 ha.h hr.h hs) λ σ H Q ⟨F,ds,A,xe,S,x,q⟩=>?_,λ ds Q Q' xe xe' hQ hx=>ha.m _ _ _ _ _ (λ d ds1=>hr.m _ _ _ _ _ (λ xs ps ds2=>hQ _ _ _) hx) hx⟩;refine⟨F,ds,A,xe,S,x,ha.m _ _ _ _ _ (λ d1 ds1 q v H1 F1 T A1 r1 S1 o1 s1=>?_) (λ _ _ z=>z) q⟩;have s1':Stp F H A F1 H1 A1:=s1.count λ b=>by rw[zA0];lia
 refine⟨F1,ds1,A1,xe,S1,x.step s1',hr.m _ _ _ _ _ (λ xs ps ds2 q vs H2 F2 T2 A2 r2 pk S2 o2 s2=>?_) (λ _ _ z=>z) q⟩;have r1':Rep F2 H2 v d1 T:=r1.keep (s2.kp S1.ok S1.loc.cells) λ b hb hc=>by
   have:=o1.sep b
   rw[zA0] at this
   have:=qb2.mp hb
   lia
 obtain⟨o3,s3⟩:=s2.frame o1 r1.cells o2;exact q (v::vs) H2 F2 (T++T2) A2 (.cons r1' r2) (.no pk) S2 (by rw[zB7];exact o3) (by rw[zB7];exact s1.trans s3)
def tbB(pf:PF)(tr:VTB):VTB:=λ ds Q xe=>orF (pf ds) λ q=>orF (A7 ds q.1 q.2) λ d=>d.known=true/\∀ w,tr (Bd ds q.1 q.2 (.hole w)) (λ xs ps ds2=>Q (d::xs) (.pl q.1 q.2 w::ps) ds2) xe
theorem vaB(ha:VP c X e pf)(hr:VAs c X es tr)(hs:starEach (e::es) X.env=(false,eval e X.env)::starEach es X.env:=by rfl):VAs c X (e::es) (tbB pf tr):=by
 refine⟨PA.mono (qc4 ha.h hr.h hs) λ σ H Q ⟨F,ds,A,xe,S,x,q⟩=>?_,λ ds Q Q' xe xe' hQ hx=>qa4 λ z=>qa4 λ d=>And.imp_right λ h w=>hr.m _ _ _ _ _ (λ xs ps ds2=>hQ _ _ _) hx (h w)⟩;obtain⟨⟨i,p⟩,e1,q⟩:=qa7.mp q;obtain⟨d,e2,hk,q⟩:=qa7.mp q;refine⟨F,ds,A,i,p,d,S,e1,e2,qo8 hk,λ u w H1 hu hw s=>?_⟩;obtain⟨B,C,r,h3,h4⟩:=(S.same s).place e2 (qo8 hk) hu hw;obtain⟨A1,q1,q2⟩:=h4 (.hole w) [] (Kp.same (F:=F) λ _ _ z=>z) (λ _ _ z=>z) (.hole w);have o1:Ok F H1 (B++A1):=(S.same s).ok.count λ b=>by rw[zA0,q2,h3];simp
 have s1:Stp F H A F H1 (B++A1):=⟨λ b o e _=>s b o e,λ b o e z=>by rw[zA0,q2];have:=h3 b;simp;lia,λ _ f=>f,λ _ _ _ _ f=>f⟩
 have S1:Sta c F H1 σ (Bd ds i p (.hole w)) A1:=⟨q1,o1.right,S.len,S.ag⟩
 have s1':Stp F H A F H1 A1:=s1.count λ b=>by rw[zA0];lia
 refine⟨F,_,A1,xe,S1,x.step s1',hr.m _ _ _ _ _ (λ xs ps ds2 q vs H2 F2 T2 A2 r2 pk S2 o2 s2=>?_) (λ _ _ z=>z) (q w)⟩;have r1':Rep F2 H2 w d B:=r.keep (s2.kp S1.ok S1.loc.cells) λ b hb hc=>by
   have:=o1.sep b
   rw[zA0] at this
   have:=qb2.mp hb
   lia
 obtain⟨o3,s3⟩:=s2.frame o1 r.cells o2;exact q (w::vs) H2 F2 (B++T2) A2 (.cons r1' r2) (.so pk) S2 (by rw[zB7];exact o3) (by rw[zB7];exact s1.trans s3)
def tbN(i:Nat)(tr:VTB):VTB:=λ ds Q xe=>(rdN i ds).isSome=true/\tr ds (λ xs ps ds1=>orF (rdN i ds1) λ d=>Q (d::xs) (.sl i::ps) (ds1.set i .unk)) xe
theorem vaN(i:Nat){x:Str}{p:Pos}(hr:VAs c X es tr)(hs:starEach (.Name x p::es) X.env=(false,eval (.Name x p) X.env)::starEach es X.env:=by rfl)(hN:X.N[i]? = some x:=by rfl)(hv:Vis X.env.scope x:=by first | exact Or.inl rfl | exact Or.inr (Or.inl rfl) | exact Or.inr (Or.inr rfl))(hd:(x == ("__debug__" : Str))=false:=by decide)(hcd:(x == ("__classdict__" : Str))=false:=by decide) :
   VAs c X (.Name x p::es) (tbN i tr):=by
 refine⟨λ pos D4 s σ H Q I ⟨F,ds,A,xe,S,x,hs',q⟩=>qc4 (qt2 hN hv hd hcd) hr.h hs pos D4 s σ H Q I ?_,λ ds Q Q' xe xe' hQ hx=>And.imp_right (hr.m _ _ _ _ _ (λ xs ps ds1=>qa4 λ d=>hQ _ _ _) hx)⟩;have hi:=qu1 hN D4 σ H s I;obtain⟨d0,e0⟩:=zB8.mp hs';obtain⟨v,B0,hv0,_,_⟩:=S.name hi e0;refine⟨v,hv0,F,ds,A,xe,S,x,hr.m _ _ _ _ _ (λ xs ps ds1 q vs H2 F2 T2 A2 r2 pk S2 o2 s2=>?_) (λ _ _ z=>z) q⟩;obtain⟨d,ed,q⟩:=qa7.mp q;obtain⟨ed,hk⟩:=qn8.mp ed;obtain⟨v',B,C,h1,h2,h3,h4⟩:=S2.put1 ed (qo8 hk);have h1':=h1;rw[zAs hi,hv0] at h1;cases h1;obtain⟨A3,q1,q2⟩:=h4 .unk [] (Kp.same (F:=F2) λ _ _ z=>z) (λ _ _ z=>z) (.unk v);have hc:∀ b,((B++T2)++A3).count b<=(T2++A2).count b:=λ b=>by simp only[zA0,q2,h3];simp;lia
 exact q (v::vs) H2 F2 (B++T2) A3 (.cons h2 r2) (.sl h1' pk) ⟨q1,(o2.count hc).right,S.len,S.ag⟩ (o2.count hc) (s2.count hc)
def Am:List Pl->Ds->Ds->Option Ds
 | [],_,ds=>some ds
 | .no::ps,_::ys,ds=>Am ps ys ds
 | .sl i::ps,y::ys,ds=>Am ps ys (ds.set i y)
 | .pl i p v::ps,y::ys,ds=>match A7 ds i p with
   | some (.hole w)=>if w=v then Am ps ys (Bd ds i p y) else none
   | _=>none
 | _::_,[],_=>none
theorem qG0{τ:List (Option V)}{ds:Ds}{C B:List Addr}{y:D}(L:Locs F H τ ds C)(hi:τ[i]? = some (some v))(r:Rep F H v y B):∃ A':List Addr,Locs F H τ (ds.set i y) A'/\∀ b,A'.count b<=B.count b+C.count b:=by
 have hl:=L.len;have hlt:i < τ.length:=(zA4.mp hi).1;obtain⟨d,hd⟩:∃ d,ds[i]? = some d:=⟨_,zAz (by lia)⟩
 obtain⟨σ1,o,σ2,ds1,ds2,A1,B0,A2,e1,e2,e3,e4,e5,l1,l2,l3⟩:=L.split hd;have ho:τ[i]? = some o:=by rw[e1];exact qF3 e3
 rw[hi] at ho;cases ho;have e6:ds.set i y=ds1++y::ds2:=by
   have:=congrArg (λ l=>l.set i y) e2
   rw[this,qp8 e4]
 exact⟨A1++(B++A2),by rw[e1,e6];exact l1.append (.so r l3),λ b=>by rw[e5];simp only[zA0];lia⟩
theorem qv9{pls:List Pl}{ys ds ds':Ds}{σ:List (Option V)}{B C:List Addr}{more:List V}(pk:Fk σ vs pls)(r:Reps F H (vs++more) ys B)(L:Locs F H σ ds C)(h:Am pls ys ds=some ds'):∃ A':List Addr,Locs F H σ ds' A'/\∀ b,A'.count b<=B.count b+C.count b:=by
 induction pk generalizing ys ds B C with
 | nil =>
   have h:some ds=some ds':=by cases ys<;>exact h
   cases h;exact⟨C,L,λ b=>by lia⟩
 | no pk ih =>
   cases r with
   | @cons _ _ A1 _ _ B1 r1 t =>
     obtain⟨A',q1,q2⟩:=ih t L h;exact⟨A',q1,λ b=>by rw[zA0];have:=q2 b;lia⟩
 | sl hi pk ih =>
   cases r with
   | @cons _ _ A1 _ _ B1 r1 t =>
     obtain⟨A2,q1,q2⟩:=qG0 L hi r1;obtain⟨A',q3,q4⟩:=ih t q1 h;exact⟨A',q3,λ b=>by rw[zA0];have:=q4 b;have:=q2 b;lia⟩
 | @so v _ _ i p pk ih =>
   cases r with
   | @cons _ y A1 _ _ B1 r1 t =>
     unfold Am at h;split at h
     . rename_i w hg
       by_cases hw:w=v
       . rw[if_pos hw] at h
         subst hw;obtain⟨u,w',B2,C2,h1,h2,h3,h4,h5⟩:=L.place hg (by intro z;cases z);cases h3;obtain⟨A2,q1,q2⟩:=h5 y A1 (Kp.same (F:=F) λ _ _ z=>z) (λ _ _ z=>z) r1;obtain⟨A',q3,q4⟩:=ih t q1 h;refine⟨A',q3,λ b=>?_⟩
         have:=q4 b
         have:=q2 b
         have:=h4 b
         simp only[List.count_nil,zA0] at *
         lia
       rw[if_neg hw] at h;cases h
     cases h
abbrev VSp:=Ds->DK->XKd->Prop
inductive LiftF(s:VSp)(vs:List V)(H:Hp)(Q:VK)(E:XK):Prop
 | mk (F:Addr->Prop) (ds:Ds) (A:List Addr) (r:Reps F H vs ds A) (o:Ok F H A) (q:s ds (λ d ys=>∀ v H' F' T A',Rep F' H' v d T->Reps F' H' vs ys A'->Ok F' H' (T++A')->Stp F H A F' H' (T++A')->Q v H')
   (λ x ys=>∀ e H' F' A',RepX F' H' e x->Reps F' H' vs ys A'->Ok F' H' A'->Stp F H A F' H' A'->E (.ref e) none H')):LiftF s vs H Q E
def E7(s:VSp):Sp:=LiftF s
def Bl(s:VSp):Prop:=∀ ds (Q Q':DK) (xe xe':XKd),(∀ d ds',Q d ds'->Q' d ds')->(∀ x ds',xe x ds'->xe' x ds')->s ds Q xe->s ds Q' xe'
def qh6(s:VSp)(dv:Ds)(tr:VTB):VT:=λ ds Q xe=>tr ds (λ xs ps ds1=>s (xs++dv) (λ d ys=>orF (Am ps ys ds1) λ ds2=>Q d ds2) (λ x ys=>orF (Am ps ys ds1) λ ds2=>xe x ds2)) xe
theorem qat2{s:VSp}{dv:Ds}(hs:Bl s)(ha:VAs c X es tr):∀ ds (Q Q':DK) (xe xe':XKd),(∀ d ds',Q d ds'->Q' d ds')->(∀ x ds',xe x ds'->xe' x ds')->qh6 s dv tr ds Q xe->qh6 s dv tr ds Q' xe' :=
 λ ds Q Q' xe xe' hQ hx=>ha.m _ _ _ _ _ (λ xs ps ds1=>hs _ _ _ _ _ (λ d ys=>qa4 λ z=>hQ _ _) (λ x ys=>qa4 λ z=>hx _ _)) hx
def Gv(dvs:List V)(dv:Ds):Prop:=∀ F H,Reps F H dvs dv []
theorem qp0:Gv [] []:=λ _ _=>.nil
theorem qaQ5{s:VSp}{dvs:List V}{dv:Ds}(hd:Gv dvs dv)(hs:Bl s)(ha:VAs c X es tr):∀ σ H Q,Bj c (qh6 s dv tr) σ H Q->Ih (E7 s) dvs c.E (Eu c tr) σ H Q:=by
 rintro σ H Q ⟨F,ds,A,xe,S,x,q⟩;refine⟨F,ds,A,xe,S,x,ha.m _ _ _ _ _ (λ xs ps ds1 q vs H1 F1 T A1 r1 pk S1 o1 s1=>?_) (λ _ _ z=>z) q⟩;have rall:Reps F1 H1 (vs++dvs) (xs++dv) (T++[]):=r1.append (hd F1 H1);rw[zAf] at rall;refine⟨F1,xs++dv,T,rall,o1.left,hs _ _ _ _ _ (λ d ys q v H2 F2 T2 A2 r2 ra o2 s2=>?_) (λ y ys q e H2 F2 A2 rx ra o2 s2=>?_) q⟩
 . obtain⟨ds2,eb,q⟩:=qa7.mp q
   have o1':Ok F1 H1 (A1++T):=o1.count λ b=>by simp only[zA0];lia
   obtain⟨o3,s3⟩:=s2.frame o1' S1.loc.cells o2;have L1:Locs F2 H2 (σ++c.gv) ds1 A1:=S1.loc.keep (s2.kp o1.left rall.cells) λ b hb hc=>by
     have:=o1.sep b
     rw[zA0] at this
     have:=qb2.mp hb
     lia
   obtain⟨A3,q1,q2⟩:=qv9 pk ra L1 eb;have hc:∀ b,(T2++A3).count b<=(A1++(T2++A2)).count b:=λ b=>by simp only[zA0];have:=q2 b;lia
   have o4:Ok F2 H2 (T2++A3):=o3.count hc;have s4:Stp F H A F2 H2 (T2++A3):=(s1.trans (s3.pre λ b=>by simp only[zA0];lia)).count hc;exact q v H2 F2 T2 A3 r2 ⟨q1,o4.right,S.len,S.ag⟩ o4 s4
 obtain⟨ds2,eb,q⟩:=qa7.mp q;have o1':Ok F1 H1 (A1++T):=o1.count λ b=>by simp only[zA0];lia
 obtain⟨o3,s3⟩:=s2.frame o1' S1.loc.cells o2;have L1:Locs F2 H2 (σ++c.gv) ds1 A1:=S1.loc.keep (s2.kp o1.left rall.cells) λ b hb hc=>by
   have:=o1.sep b
   rw[zA0] at this
   have:=qb2.mp hb
   lia
 obtain⟨A3,q1,q2⟩:=qv9 pk ra L1 eb;have hc:∀ b,A3.count b<=(A1++A2).count b:=λ b=>by simp only[zA0];have:=q2 b;lia
 have o4:Ok F2 H2 A3:=o3.count hc;have s4:Stp F H A F2 H2 A3:=(s1.trans (s3.pre λ b=>by simp only[zA0];lia)).count hc;exact x y ds2 σ e H2 F2 A3 q rx ⟨q1,o4,S.len,S.ag⟩ s4
end
structure VFn(P:Program)(w:World)(K:PySem.W.Frag)(mg:Str->Option Value)(base:Heap)(k:Nat)(f:Addr)(fd:FuncData)(ps:List Str)(s:VSp):Prop where
 ok:Bq P w K mg base (CX1 P w) k f fd ps (E7 s)
 m:Bl s
section
variable{c:Vc}{X:Cx}{a e o:Expr}{es:List Expr}{tr:VTB}{pf:PF}{F F1:Addr->Prop}{H H1:Hp}{σ:St}{ds ds1:Ds}{A A1 T:List Addr}{pos p apos:Pos}{x qual m:Str}{st:Stmt}{f C:Addr}{fd:FuncData}{ps:List Str}{k:Nat}{s:VSp}{dvs:List V}{dv:Ds}
theorem Ae(D:Df X.K X.mg x qual st f fd ps)(G:VFn X.prog X.w X.K X.mg X.base k f fd ps s)(hl:Lands X c.E)(hr:Room k X.A)(ha:VAs c X (e::es) tr)(hg:Gl X x:=by rfl)(hdb:(x == ("__debug__" : Str))=false:=by decide)(he:starEach (e::es) X.env=(false,eval e X.env)::starEach es X.env:=by rfl)(hpl:(backTo pos (starEach es X.env)).any (·.1)=false:=by rfl):VE c X (.Call (.Name x p) (e::es) [] pos) (qh6 s [] tr) :=
 ⟨PE.mono (qaw5 G.ok hr hg D.m D.F.kp D.b .nil hl.passes ha.h hdb he hpl) (qaQ5 qp0 G.m ha),qat2 G.m ha⟩
theorem qal7{xs:Ds}{pls:List Pl}{xe:XKd}{K:DK}(hd:Gv dvs dv)(hs:Bl s)(S:Sta c F H σ ds A)(x:Xc c xe F H A)(r1:Reps F1 H1 vs xs T)(pk:Fk (σ++c.gv) vs pls)(S1:Sta c F1 H1 σ ds1 A1)(o1:Ok F1 H1 (T++A1))(s1:Stp F H A F1 H1 (T++A1))(hK:∀ d ds',K d ds'->∀ v H' F' T A',Rep F' H' v d T->Sta c F' H' σ ds' A'->Ok F' H' (T++A')->Stp F H A F' H' (T++A')->Q v H')(q:s (xs++dv) (λ d ys=>orF (Am pls ys ds1) λ ds2=>K d ds2) (λ x ys=>orF (Am pls ys ds1) λ ds2=>xe x ds2)):E7 s (vs++dvs) H1 Q c.E:=by
 have rall:Reps F1 H1 (vs++dvs) (xs++dv) (T++[]):=r1.append (hd F1 H1);rw[zAf] at rall;refine⟨F1,xs++dv,T,rall,o1.left,hs _ _ _ _ _ (λ d ys q v H2 F2 T2 A2 r2 ra o2 s2=>?_) (λ y ys q e H2 F2 A2 rx ra o2 s2=>?_) q⟩
 . obtain⟨ds2,eb,q⟩:=qa7.mp q
   have o1':Ok F1 H1 (A1++T):=o1.count λ b=>by simp only[zA0];lia
   obtain⟨o3,s3⟩:=s2.frame o1' S1.loc.cells o2;have L1:Locs F2 H2 (σ++c.gv) ds1 A1:=S1.loc.keep (s2.kp o1.left rall.cells) λ b hb hc=>by
     have:=o1.sep b
     rw[zA0] at this
     have:=qb2.mp hb
     lia
   obtain⟨A3,q1,q2⟩:=qv9 pk ra L1 eb;have hc:∀ b,(T2++A3).count b<=(A1++(T2++A2)).count b:=λ b=>by simp only[zA0];have:=q2 b;lia
   have o4:Ok F2 H2 (T2++A3):=o3.count hc;have s4:Stp F H A F2 H2 (T2++A3):=(s1.trans (s3.pre λ b=>by simp only[zA0];lia)).count hc;exact hK d ds2 q v H2 F2 T2 A3 r2 ⟨q1,o4.right,S.len,S.ag⟩ o4 s4
 obtain⟨ds2,eb,q⟩:=qa7.mp q;have o1':Ok F1 H1 (A1++T):=o1.count λ b=>by simp only[zA0];lia
 obtain⟨o3,s3⟩:=s2.frame o1' S1.loc.cells o2;have L1:Locs F2 H2 (σ++c.gv) ds1 A1:=S1.loc.keep (s2.kp o1.left rall.cells) λ b hb hc=>by
   have:=o1.sep b
   rw[zA0] at this
   have:=qb2.mp hb
   lia
 obtain⟨A3,q1,q2⟩:=qv9 pk ra L1 eb;have hc:∀ b,A3.count b<=(A1++A2).count b:=λ b=>by simp only[zA0];have:=q2 b;lia
 have o4:Ok F2 H2 A3:=o3.count hc;have s4:Stp F H A F2 H2 A3:=(s1.trans (s3.pre λ b=>by simp only[zA0];lia)).count hc;exact x y ds2 σ e H2 F2 A3 q rx ⟨q1,o4,S.len,S.ag⟩ s4
def D.isM(C:Addr)(m:Str):D->Bool
 | .ins _ C' fs=>decide (C'=C)&&(fs.lookup m).isNone
 | _=>false
theorem qE7{α β:Type}:∀{fs:List (Str×α)}{gs:List (Str×β)}{f:Str},fs.map (·.1)=gs.map (·.1)->(fs.lookup f).isNone=(gs.lookup f).isNone
 | [],[],_,_=>rfl
 | [],_::_,_,h=>by simp at h
 | _::_,[],_,h=>by simp at h
 | (k,_)::r,(k',_)::r',f,h=>by
   have h1:k=k':=by simp at h;exact h.1
   have h2:r.map (·.1)=r'.map (·.1):=by simp at h;simpa using h.2
   subst h1;rw[zAr,zAr];cases f == k with
   | true=>rfl
   | false=>exact qE7 h2
theorem Rep.isM{d:D}{B:List Addr}(r:Rep F H v d B)(h:d.isM C m=true):∃ a dx fs,v=.ref a/\H a=some (.ins C dx fs)/\fs.lookup m=none:=by
 cases d with
 | ins z C' fds =>
   have h:=zAg.mp h;obtain⟨a,dx,fvs,A,rfl,ha,e,rs,_⟩:=r.ins_inv
   have:=zAb h.1
   subst this;refine⟨a,dx,fvs,rfl,ha,?_⟩;have h2:=h.2;rw[<- qE7 e] at h2;exact Option.isNone_iff_eq_none.mp h2
 | _=>cases h
def Iz(C:Addr)(m:Str)(s:VSp)(dv:Ds)(pf:PF)(tr:VTB):VT:=λ ds Q xe=>orF (pf ds) λ q=>orF (A7 ds q.1 q.2) λ d=>d.isM C m=true/\∀ w,tr (Bd ds q.1 q.2 (.hole w)) (λ xs ps ds1=>s (d::(xs++dv)) (λ r ys=>orF (Am (Pl.pl q.1 q.2 w::ps) ys ds1) λ ds2=>Q r ds2) (λ x ys=>orF (Am (Pl.pl q.1 q.2 w::ps) ys ds1) λ ds2=>xe x ds2)) xe
theorem qap9(hs:Bl s)(ha:VAs c X es tr):∀ ds (Q Q':DK) (xe xe':XKd),(∀ d ds',Q d ds'->Q' d ds')->(∀ x ds',xe x ds'->xe' x ds')->Iz C m s dv pf tr ds Q xe->Iz C m s dv pf tr ds Q' xe' :=
 λ ds Q Q' xe xe' hQ hx=>qa4 λ z=>qa4 λ d=>And.imp_right λ h w=>ha.m _ _ _ _ _ (λ xs ps ds1=>hs _ _ _ _ _ (λ d ys=>qa4 λ z=>hQ _ _) (λ x ys=>qa4 λ z=>hx _ _)) hx (h w)
theorem qaM9(hd:Gv dvs dv)(hs:Bl s)(ha:VAs c X es tr):∀ σ H Q,Bj c (Iz C m s dv pf tr) σ H Q->Ga C m (E7 s) dvs c.E (Gm c pf) (Eu c tr) σ H Q:=by
 rintro σ H Q ⟨F,ds,A,xe,S,x,q⟩;obtain⟨⟨i,p⟩,e1,q⟩:=qa7.mp q;obtain⟨d,e2,hk,q⟩:=qa7.mp q;have hne:d≠.unk:=λ z=>by subst z;cases hk
 refine⟨F,ds,A,i,p,d,S,e1,e2,hne,λ u w H1 hu hw s0=>?_⟩;obtain⟨B,C0,r,h3,h4⟩:=(S.same s0).place e2 hne hu hw;obtain⟨a,dx,fs,rfl,ha1,ha2⟩:=r.isM hk;refine⟨a,dx,fs,rfl,ha1,ha2,?_⟩;obtain⟨A1,q1,q2⟩:=h4 (.hole (.ref a)) [] (Kp.same (F:=F) λ _ _ z=>z) (λ _ _ z=>z) (.hole _);have o1:Ok F H1 (B++A1):=(S.same s0).ok.count λ b=>by rw[zA0,q2,h3];simp
 have s1:Stp F H A F H1 (B++A1):=⟨λ b o e _=>s0 b o e,λ b o e z=>by rw[zA0,q2];have:=h3 b;simp;lia,λ _ f=>f,λ _ _ _ _ f=>f⟩
 have S1:Sta c F H1 σ (Bd ds i p (.hole (.ref a))) A1:=⟨q1,o1.right,S.len,S.ag⟩
 have s1':Stp F H A F H1 A1:=s1.count λ b=>by rw[zA0];lia
 refine⟨F,_,A1,xe,S1,x.step s1',ha.m _ _ _ _ _ (λ xs ps ds2 q vs H2 F2 T2 A2 r2 pk S2 o2 s2=>?_) (λ _ _ z=>z) (q (.ref a))⟩;have r1':Rep F2 H2 (.ref a) d B:=r.keep (s2.kp S1.ok S1.loc.cells) λ b hb hc=>by
   have:=o1.sep b
   rw[zA0] at this
   have:=qb2.mp hb
   lia
 obtain⟨o3,s3⟩:=s2.frame o1 r.cells o2;exact qal7 (vs:=.ref a::vs) (xs:=d::xs) hd hs S x (.cons r1' r2) (.so pk) S2 (by rw[zB7];exact o3) (by rw[zB7];exact s1.trans s3) (λ d ds' h=>h) q
def qw0(C:Addr)(m:Str)(s:VSp)(dv:Ds)(i:Nat)(tr:VTB):VT:=λ ds Q xe=>(orF (rdN i ds) λ d=>d.isM C m=true)/\tr ds (λ xs ps ds1=>orF (rdN i ds1) λ d=>s (d::(xs++dv)) (λ r ys=>orF (Am (.sl i::ps) ys (ds1.set i .unk)) λ ds2=>Q r ds2) (λ x ys=>orF (Am (.sl i::ps) ys (ds1.set i .unk)) λ ds2=>xe x ds2)) xe
theorem qL4(hs:Bl s)(ha:VAs c X es tr):∀ ds (Q Q':DK) (xe xe':XKd),(∀ d ds',Q d ds'->Q' d ds')->(∀ x ds',xe x ds'->xe' x ds')->qw0 C m s dv i tr ds Q xe->qw0 C m s dv i tr ds Q' xe' :=
 λ ds Q Q' xe xe' hQ hx=>And.imp_right (ha.m _ _ _ _ _ (λ xs ps ds1=>qa4 λ d=>hs _ _ _ _ _ (λ d ys=>qa4 λ z=>hQ _ _) (λ x ys=>qa4 λ z=>hx _ _)) hx)
theorem qah0{σ:St}{H:Hp}(hd:Gv dvs dv)(hs:Bl s)(ha:VAs c X es tr)(hi:i < σ.length)(q:Bj c (qw0 C m s dv i tr) σ H Q):Ga C m (E7 s) dvs c.E (Fy i) (Eu c tr) σ H Q:=by
 obtain⟨F,ds,A,xe,S,x,hk,q⟩:=q;obtain⟨d0,e0,hk⟩:=qa7.mp hk;obtain⟨v,B0,hv0,r0,_⟩:=S.name hi e0;obtain⟨a,dx,fs,rfl,ha1,ha2⟩:=r0.isM hk;refine⟨.ref a,hv0,a,dx,fs,rfl,ha1,ha2,F,ds,A,xe,S,x,ha.m _ _ _ _ _ (λ xs ps ds2 q vs H2 F2 T2 A2 r2 pk S2 o2 s2=>?_) (λ _ _ z=>z) q⟩;obtain⟨d,ed,q⟩:=qa7.mp q;obtain⟨ed,hkn⟩:=qn8.mp ed;obtain⟨v',B,C0,h1,h2,h3,h4⟩:=S2.put1 ed (qo8 hkn);have h1':=h1;rw[zAs hi,hv0] at h1;cases h1;obtain⟨A3,q1,q2⟩:=h4 .unk [] (Kp.same (F:=F2) λ _ _ z=>z) (λ _ _ z=>z) (.unk _);have hc:∀ b,((B++T2)++A3).count b<=(T2++A2).count b:=λ b=>by simp only[zA0,q2,h3];simp;lia
 exact qal7 (vs:=.ref a::vs) (xs:=d::xs) hd hs S x (.cons h2 r2) (.sl h1' pk) ⟨q1,(o2.count hc).right,S.len,S.ag⟩ (o2.count hc) (s2.count hc) (λ d ds' h=>h) q
theorem ql8(i:Nat){xn:Str}{p0:Pos}(D:Md X.K C m qual st f fd ps)(cl:Cls X.K C)(G:VFn X.prog X.w X.K X.mg X.base k f fd ps s)(hl:Lands X c.E)(hr:Room k X.A)(ha:VAs c X (e::es) tr)(hN:X.N[i]? = some xn:=by rfl)(hv:Vis X.env.scope xn:=by first | exact Or.inl rfl | exact Or.inr (Or.inl rfl) | exact Or.inr (Or.inr rfl))(hd:(xn == ("__debug__" : Str))=false:=by decide)(hcd:(xn == ("__classdict__" : Str))=false:=by decide)(hst:starEach (e::es) X.env=(false,eval e X.env)::starEach es X.env:=by rfl)(hpl:(backTo pos (starEach es X.env)).any (·.1)=false:=by rfl)(ht:eval (.Call (.Attribute (.Name xn p0) m apos) (e::es) [] pos) X.env=(do
     let ov <- eval (.Name xn p0) X.env
     standAt apos.atName
     let (f,first) <- holding [ov] (getMethod ov m pl)
     callWith pos f first (backTo pos (starEach (e::es) X.env)) (backToKw pos (keywordEach [] X.env))):=by rfl):VE c X (.Call (.Attribute (.Name xn p0) m apos) (e::es) [] pos) (qw0 C m s [] i tr) :=
 ⟨λ D4 s σ H Q I q=>qaf4 (qt2 hN hv hd hcd) cl D.me G.ok hr D.b .nil hl.passes ha.h hst hpl ht D4 s σ H Q I (qah0 qp0 G.m ha (qu1 hN D4 σ H s I) q),qL4 G.m ha⟩
theorem qM8(i:Nat){xn:Str}{p0:Pos}(D:Md X.K C m qual st f fd ps)(cl:Cls X.K C)(G:VFn X.prog X.w X.K X.mg X.base k f fd ps s)(hl:Lands X c.E)(hr:Room k X.A)(hN:X.N[i]? = some xn:=by rfl)(hv:Vis X.env.scope xn:=by first | exact Or.inl rfl | exact Or.inr (Or.inl rfl) | exact Or.inr (Or.inr rfl))(hd:(xn == ("__debug__" : Str))=false:=by decide)(hcd:(xn == ("__classdict__" : Str))=false:=by decide)(ht:eval (.Call (.Attribute (.Name xn p0) m apos) [] [] pos) X.env=(do
     let ov <- eval (.Name xn p0) X.env
     standAt apos.atName
     let (f,first) <- holding [ov] (getMethod ov m pl)
     callWith pos f first (backTo pos (starEach [] X.env)) (backToKw pos (keywordEach [] X.env))):=by rfl):VE c X (.Call (.Attribute (.Name xn p0) m apos) [] [] pos) (qw0 C m s [] i Ax) :=
 ⟨λ D4 s0 σ H Q I q=>qaf3 (qt2 hN hv hd hcd) cl D.me G.ok hr D.b .nil hl.passes ht D4 s0 σ H Q I (by
   obtain⟨v,hv,a,dx,fs,h1,h2,h3,F2,ds2,A2,xe2,S2,x2,q2⟩:=qah0 (c:=c) (X:=X) qp0 G.m Aa (qu1 hN D4 σ H s0 I) q;exact⟨v,hv,a,dx,fs,h1,h2,h3,q2 [] H F2 [] A2 .nil .nil S2 S2.ok Stp.refl⟩),qL4 (c:=c) G.m (X:=X) Aa⟩
theorem qaX5(D:Md X.K C m qual st f fd ps)(cl:Cls X.K C)(G:VFn X.prog X.w X.K X.mg X.base k f fd ps s)(hl:Lands X c.E)(hr:Room k X.A)(ho:VP c X o pf)(ht:eval (.Call (.Attribute o m apos) [] [] pos) X.env=(do
     let ov <- eval o X.env
     standAt apos.atName
     let (f,first) <- holding [ov] (getMethod ov m pl)
     callWith pos f first (backTo pos (starEach [] X.env)) (backToKw pos (keywordEach [] X.env))):=by rfl):VE c X (.Call (.Attribute o m apos) [] [] pos) (Iz C m s [] pf Ax) :=
 ⟨PE.mono (qaf3 ho.h cl D.me G.ok hr D.b .nil hl.passes ht) λ σ H Q q=>by
   obtain⟨F,ds,A,i,p,d,S,e1,e2,hne,q⟩:=qaM9 (c:=c) (X:=X) qp0 G.m Aa σ H Q q;refine⟨F,ds,A,i,p,d,S,e1,e2,hne,λ u w H1 hu hw s0=>?_⟩;obtain⟨a,dx,fs,h1,h2,h3,F2,ds2,A2,xe2,S2,x2,q2⟩:=q u w H1 hu hw s0;exact⟨a,dx,fs,h1,h2,h3,q2 [] H1 F2 [] A2 .nil .nil S2 S2.ok Stp.refl⟩,qap9 (c:=c) G.m (X:=X) Aa⟩
def qY6(C:Addr)(s:VSp)(dv:Ds)(tr:VTB):VT:=λ ds Q xe=>tr ds (λ xs ps ds1=>s (.ins false C []::(xs++dv)) (λ d ys=>d.isN=some true/\orF ys.head? λ self=>orF (Am ps ys.tail ds1) λ ds2=>Q self ds2) (λ x ys=>orF (Am ps ys.tail ds1) λ ds2=>xe x ds2)) xe
theorem qV5(hs:Bl s)(ha:VAs c X es tr):∀ ds (Q Q':DK) (xe xe':XKd),(∀ d ds',Q d ds'->Q' d ds')->(∀ x ds',xe x ds'->xe' x ds')->qY6 C s dv tr ds Q xe->qY6 C s dv tr ds Q' xe' :=
 λ ds Q Q' xe xe' hQ hx=>ha.m _ _ _ _ _ (λ xs ps ds1=>hs _ _ _ _ _ (λ d ys=>And.imp_right (qa4 λ z=>qa4 λ w=>hQ _ _)) (λ x ys=>qa4 λ z=>hx _ _)) hx
theorem qax2(hd:Gv dvs dv)(hs:Bl s)(ha:VAs c X es tr):∀ σ H Q,Bj c (qY6 C s dv tr) σ H Q->tMake C (E7 s) dvs c.E (Eu c tr) σ H Q:=by
 rintro σ H Q ⟨F,ds,A,xe,S,x,q⟩;refine⟨F,ds,A,xe,S,x,ha.m _ _ _ _ _ (λ xs ps ds1 q vs H1 F1 T A1 r1 pk S1 o1 s1=>?_) (λ _ _ z=>z) q⟩;intro y dy hy hdy hne;have same:Same H1 (upd (upd H1 dy (.own y)) y (.ins C dy [])):=(Same.new hdy).trans (Same.new (by rw[qc9 (Ne.symm hne)];exact hy));have rall:Reps F1 (upd (upd H1 dy (.own y)) y (.ins C dy [])) (.ref y::(vs++dvs)) (.ins false C []::(xs++dv)) ([y]++(T++[])) :=
   .cons (.ins qc2 rfl .nil) ((r1.append (hd F1 H1)).same same)
 rw[zAf] at rall;have oN:Ok F1 (upd (upd H1 dy (.own y)) y (.ins C dy [])) ([y]++(T++A1)):=(qh9 hy).ok o1 (λ b hb=>by
   rcases zAh.mp hb with hb | hb
   . exact r1.cells b hb
   exact S1.loc.cells b hb) same
 have oT:Ok F1 (upd (upd H1 dy (.own y)) y (.ins C dy [])) ([y]++T):=oN.count λ b=>by simp only[zA0];lia
 have sN:Stp F H A F1 (upd (upd H1 dy (.own y)) y (.ins C dy [])) ([y]++(T++A1)):=s1.trans ((qh9 hy).stp same);have S1':=S1.same same;refine⟨F1,_,[y]++T,rall,oT,hs _ _ _ _ _ (λ d ys q v H2 F2 T2 A2 r2 ra o2 s2=>?_) (λ ex ys q e H2 F2 A2 rx ra o2 s2=>?_) q⟩
 . obtain⟨hn,q⟩:=q
   have hv:v=.non:=by
     cases d with
     | non=>cases r2;rfl
     | _=>cases hn
   refine⟨hv,?_⟩;obtain⟨self,eh,q⟩:=qa7.mp q;obtain⟨ds2,eb,qf⟩:=qa7.mp q;have o1':Ok F1 _ (A1++([y]++T)):=oN.count λ b=>by simp only[zA0];lia
   obtain⟨o3,s3⟩:=s2.frame o1' S1'.loc.cells o2;have L1:Locs F2 H2 (σ++c.gv) ds1 A1:=S1'.loc.keep (s2.kp oT rall.cells) λ b hb hc=>by
     have:=oN.sep b
     simp only[zA0] at this hc
     have:=qb2.mp hb
     lia
   cases ra with
   | @cons _ d0 Aself _ ys' B' rself rrest =>
     cases eh;obtain⟨A3,q1,q2⟩:=qv9 pk rrest L1 eb;have hc:∀ b,(Aself++A3).count b<=(A1++(T2++(Aself++B'))).count b:=λ b=>by simp only[zA0];have:=q2 b;lia
     have o4:=o3.count hc;have s4:Stp F H A F2 H2 (Aself++A3):=(sN.trans (s3.pre λ b=>by simp only[zA0];lia)).count hc;exact qf (.ref y) H2 F2 Aself A3 rself ⟨q1,o4.right,S.len,S.ag⟩ o4 s4
 obtain⟨ds2,eb,qf⟩:=qa7.mp q;have o1':Ok F1 _ (A1++([y]++T)):=oN.count λ b=>by simp only[zA0];lia
 obtain⟨o3,s3⟩:=s2.frame o1' S1'.loc.cells o2;have L1:Locs F2 H2 (σ++c.gv) ds1 A1:=S1'.loc.keep (s2.kp oT rall.cells) λ b hb hc=>by
   have:=oN.sep b
   simp only[zA0] at this hc
   have:=qb2.mp hb
   lia
 cases ra with
 | @cons _ d0 Aself _ ys' B' rself rrest =>
   obtain⟨A3,q1,q2⟩:=qv9 pk rrest L1 eb;have hc:∀ b,A3.count b<=(A1++(Aself++B')).count b:=λ b=>by simp only[zA0];have:=q2 b;lia
   have o4:=o3.count hc;have s4:Stp F H A F2 H2 A3:=(sN.trans (s3.pre λ b=>by simp only[zA0];lia)).count hc;exact x ex ds2 σ e H2 F2 A3 qf rx ⟨q1,o4,S.len,S.ag⟩ s4
theorem emake(cl:Cl X.K X.mg x C)(M:Mk X.K C f)(D:Md X.K C m qual st f fd ps)(G:VFn X.prog X.w X.K X.mg X.base k f fd ps s)(hl:Lands X c.E)(hr:Room (k+1) X.A)(ha:VAs c X (e::es) tr)(hg:Gl X x:=by rfl)(hdb:(x == ("__debug__" : Str))=false:=by decide)(he:starEach (e::es) X.env=(false,eval e X.env)::starEach es X.env:=by rfl)(hpl:(backTo pos (starEach es X.env)).any (·.1)=false:=by rfl):VE c X (.Call (.Name x p) (e::es) [] pos) (qY6 C s [] tr) :=
 ⟨PE.mono (qaw2 M G.ok hr hg cl.m D.b .nil hl.passes ha.h hdb he hpl) (qax2 qp0 G.m ha),qV5 G.m ha⟩
def tLstV(tr:VTB):VT:=λ ds Q xe=>tr ds (λ xs ps ds1=>xs.length<=big/\Q (.lst false xs) ds1) xe
def G9(tr:VTB):VT:=λ ds Q xe=>tr ds (λ xs ps ds1=>xs.length<=big/\Q (.tup xs) ds1) xe
theorem F5(ha:VAs c X es tr):VE c X (.List es pos) (tLstV tr):=by
 refine⟨PE.mono (qaC2 ha.h) λ σ H Q ⟨F,ds,A,xe,S,x,q⟩=>?_,λ ds Q Q' xe xe' hQ hx=>ha.m _ _ _ _ _ (λ xs ps ds1=>And.imp_right (hQ _ _)) hx⟩;refine⟨F,ds,A,xe,S,x,ha.m _ _ _ _ _ (λ xs ps ds1 q vs H1 F1 T A1 r1 pk S1 o1 s1=>⟨by rw[r1.len];exact zAp q.1 qg3,λ y hy=>?_⟩) (λ _ _ z=>z) q⟩;have same:=Same.new (u:=.lst vs) hy;have oN:=(qh9 hy).ok o1 (λ b hb=>by
   rcases zAh.mp hb with hb | hb
   . exact r1.cells b hb
   exact S1.loc.cells b hb) same
 exact q.2 (.ref y) _ F1 (y::T) A1 (.lst qc2 (r1.same same)) (S1.same same) oN (s1.trans ((qh9 hy).stp same))
theorem Gw(ha:VAs c X es tr):VE c X (.Tuple es n pos) (G9 tr):=by
 refine⟨PE.mono (qaK6 ha.h) λ σ H Q ⟨F,ds,A,xe,S,x,q⟩=>?_,λ ds Q Q' xe xe' hQ hx=>ha.m _ _ _ _ _ (λ xs ps ds1=>And.imp_right (hQ _ _)) hx⟩;refine⟨F,ds,A,xe,S,x,ha.m _ _ _ _ _ (λ xs ps ds1 q vs H1 F1 T A1 r1 pk S1 o1 s1=>⟨by rw[r1.len];exact zAp q.1 qg3,λ y hy=>?_⟩) (λ _ _ z=>z) q⟩;have same:=Same.new (u:=.tup vs) hy;exact q.2 (.ref y) _ F1 T A1 (qag5 hy r1) (S1.same same) (o1.same same) (s1.trans (.same same))
end
structure VEnds where
 nx:Ds->Prop
 rt:DK
 bk:Ds->Prop
 ct:Ds->Prop
 xe:XKd
abbrev VTS:=VEnds->Ds->Prop
structure VEnds.Le(e e':VEnds):Prop where
 nx:∀ ds,e.nx ds->e'.nx ds
 rt:∀ d ds,e.rt d ds->e'.rt d ds
 bk:∀ ds,e.bk ds->e'.bk ds
 ct:∀ ds,e.ct ds->e'.ct ds
 xe:∀ x ds,e.xe x ds->e'.xe x ds
structure Lk(c:Vc)(E:D7)(F:Addr->Prop)(H:Hp)(A:List Addr)(e:VEnds):Prop where
 nx:∀ ds' σ' H' F' A',e.nx ds'->Sta c F' H' σ' ds' A'->Stp F H A F' H' A'->E.nx σ' H'
 rt:∀ d ds' v σ' H' F' T A',e.rt d ds'->Rep F' H' v d T->Sta c F' H' σ' ds' A'->Ok F' H' (T++A')->Stp F H A F' H' (T++A')->E.rt v H'
 bk:∀ ds' σ' H' F' A',e.bk ds'->Sta c F' H' σ' ds' A'->Stp F H A F' H' A'->E.bk σ' H'
 ct:∀ ds' σ' H' F' A',e.ct ds'->Sta c F' H' σ' ds' A'->Stp F H A F' H' A'->E.ct σ' H'
 xe:Xc c e.xe F H A
theorem Lk.step{c:Vc}{E:D7}{F F1:Addr->Prop}{H H1:Hp}{A A1:List Addr}{e:VEnds}(l:Lk c E F H A e)(s:Stp F H A F1 H1 A1):Lk c E F1 H1 A1 e :=
 ⟨λ ds' σ' H' F' A' h S t=>l.nx ds' σ' H' F' A' h S (s.trans t),λ d ds' v σ' H' F' T A' h r S o t=>l.rt d ds' v σ' H' F' T A' h r S o (s.trans t),λ ds' σ' H' F' A' h S t=>l.bk ds' σ' H' F' A' h S (s.trans t),λ ds' σ' H' F' A' h S t=>l.ct ds' σ' H' F' A' h S (s.trans t),l.xe.step s⟩
inductive LiftS(c:Vc)(t:VTS)(E:D7)(σ:St)(H:Hp):Prop
 | mk (F:Addr->Prop) (ds:Ds) (A:List Addr) (e:VEnds) (S:Sta c F H σ ds A) (l:Lk c E F H A e) (q:t e ds):LiftS c t E σ H
def E8(c:Vc)(t:VTS):TS:=LiftS c t
structure VS(c:Vc)(X:Cx)(st:Stmt)(t:VTS):Prop where
 h:PS X st (E8 c t)
 m:∀(e e':VEnds) ds,e.Le e'->t e ds->t e' ds
structure VSs(c:Vc)(X:Cx)(st:List Stmt)(t:VTS):Prop where
 h:PSs X st (E8 c t)
 m:∀(e e':VEnds) ds,e.Le e'->t e ds->t e' ds
section
variable{c:Vc}{X:Cx}{a b e:Expr}{st:Stmt}{rest:List Stmt}{t u:VTS}{te:VT}{pos:Pos}
def F6:VTS:=λ e ds=>e.nx ds
def Fl(t u:VTS):VTS:=λ e ds=>t { e with nx:=u e } ds
theorem Aq:VSs c X [] F6:=⟨PSs.mono qav7 λ E σ H ⟨F,ds,A,e,S,l,q⟩=>l.nx ds σ H F A q S Stp.refl,λ e e' ds h=>h.nx ds⟩
theorem Ab(h1:VS c X st t)(h2:VSs c X rest u):VSs c X (st::rest) (Fl t u):=by
 refine⟨PSs.mono (qQ4 h1.h h2.h) λ E σ H ⟨F,ds,A,e,S,l,q⟩=>?_,λ e e' ds h=>h1.m _ _ _ ⟨λ ds=>h2.m _ _ _ h,h.rt,h.bk,h.ct,h.xe⟩⟩;exact⟨F,ds,A,{ e with nx:=u e },S,⟨λ ds' σ' H' F' A' q S' s=>⟨F',ds',A',e,S',l.step s,q⟩,l.rt,l.bk,l.ct,l.xe⟩,q⟩
theorem Ad(h1:VS c X st t):VSs c X [st] t:=⟨qz8 h1.h,h1.m⟩
def sRet(te:VT):VTS:=λ e ds=>te ds e.rt e.xe
theorem Ap(h:VE c X e te):VS c X (.Return (some e) pos) (sRet te):=by
 refine⟨PS.mono (qZ9 h.h) λ E σ H ⟨F,ds,A,e,S,l,q⟩=>⟨F,ds,A,e.xe,S,l.xe,h.m _ _ _ _ _ (λ d ds' q v H' F' T A' r S' o s=>l.rt d ds' v σ H' F' T A' q r S' o s) (λ _ _ z=>z) q⟩,λ e e' ds hl=>h.m _ _ _ _ _ hl.rt hl.xe⟩
def Ha(te:VT):VTS:=λ e ds=>te ds (λ _ ds'=>e.nx ds') e.xe
theorem Bh(h:VE c X e te)(hs:swapsWith e none pos.line X.env=pure false:=by rfl):VS c X (.Expr e pos) (Ha te):=by
 refine⟨PS.mono (qaK1 h.h hs) λ E σ H ⟨F,ds,A,e,S,l,q⟩=>⟨F,ds,A,e.xe,S,l.xe,h.m _ _ _ _ _ (λ d ds' q v H' F' T A' r S' o s=>l.nx ds' σ H' F' A' q S' (s.count λ b=>by rw[zA0];lia)) (λ _ _ z=>z) q⟩,λ e e' ds hl=>h.m _ _ _ _ _ (λ _=>hl.nx) hl.xe⟩
def sIf(qc:VTT)(t u:VTS):VTS:=λ e ds=>qc ds (λ k ds'=>if k=true then t e ds' else u e ds') e.xe
theorem sif{x y:List Stmt}{qc:VTT}(hc:VTe c X cd qc)(ha:VSs c X x t)(hb:VSs c X y u):VS c X (.If cd x y pos) (sIf qc t u):=by
 refine⟨PS.mono (ps_if hc.h ha.h hb.h) λ E σ H ⟨F,ds,A,e,S,l,q⟩=>⟨F,ds,A,e.xe,S,l.xe,hc.m _ _ _ _ _ (λ k ds' q H' F' A' S' s=>?_) (λ _ _ z=>z) q⟩,λ e e' ds hl=>hc.m _ _ _ _ _ (λ k ds'=>qM0 (ha.m _ _ _ hl) (hb.m _ _ _ hl)) hl.xe⟩;cases k with
 | true=>rw[if_pos rfl] at q ⊢;exact⟨F',ds',A',e,S',l.step s,q⟩
 | false=>rw[if_neg (by decide)] at q ⊢;exact⟨F',ds',A',e,S',l.step s,q⟩
def qaS1:VTS:=λ _ _=>False
theorem qj9:VS c X st qaS1:=⟨λ _ _ _ _ _ _ ⟨_,_,_,_,_,_,q⟩=>q.elim,λ _ _ _ _ q=>q.elim⟩
abbrev VTG:=D->Ds->(Ds->Prop)->Prop
inductive LiftG(c:Vc)(g:VTG)(v:V)(σ:St)(H:Hp)(Q:St->Hp->Prop):Prop
 | mk (F:Addr->Prop) (ds:Ds) (A T:List Addr) (d:D) (r:Rep F H v d T) (S:Sta c F H σ ds A) (o:Ok F H (T++A)) (q:g d ds (λ ds'=>∀ σ' H' F' A',Sta c F' H' σ' ds' A'->Stp F H (T++A) F' H' A'->Q σ' H')):LiftG c g v σ H Q
def Fq(c:Vc)(g:VTG):TG:=LiftG c g
structure VG(c:Vc)(X:Cx)(e:Expr)(g:VTG):Prop where
 h:PG X e (Fq c g)
 m:∀ d ds (Q Q':Ds->Prop),(∀ ds',Q ds'->Q' ds')->g d ds Q->g d ds Q'
theorem PG.mono{g g':TG}(h:PG X e g)(i:∀ v σ H Q,g' v σ H Q->g v σ H Q):PG X e g':=λ D4 s σ H v u Q I r q=>h D4 s σ H v u Q I r (i v σ H Q q)
theorem Sta.store{F:Addr->Prop}{H:Hp}{σ:St}{ds:Ds}{A T:List Addr}{d:D}(S:Sta c F H σ ds A)(hW:c.W i=false)(hi:i < σ.length)(r:Rep F H v d T)(o:Ok F H (T++A)) :
   ∃ A',Sta c F H (σ.set i (some v)) (ds.set i d) A'/\Stp F H (T++A) F H A':=by
 have hl:=S.loc.len;rw[zA8] at hl;obtain⟨σ1,o1,σ2,ds1,ds2,A1,B,A2,e1,e2,e3,e4,e5,l1,l2,l3⟩:=S.loc.split (i:=i) (d:=ds[i]'(by lia)) (by simp);have hσ:σ.set i (some v)++c.gv=σ1++some v::σ2:=by
   rw[<- List.set_append_left _ _ hi,e1,qp8 e3]
 have hds:ds.set i d=ds1++d::ds2:=by
   have:=congrArg (λ l=>l.set i d) e2
   rw[this,qp8 e4]
 have cnt:∀ b,(A1++(T++A2)).count b<=(T++A).count b:=λ b=>by rw[e5];simp only[zA0];lia
 refine⟨A1++(T++A2),⟨by rw[hσ,hds];exact l1.append (.so r l3),o.count cnt,?_,λ j hj=>?_⟩,Stp.refl.count cnt⟩
 . rw[S.len,zA8,zA8,List.length_set]
 have hne:i≠j:=λ z=>by subst z;rw[hW] at hj;cases hj
 rw[<- S.ag j hj,<- List.set_append_left _ _ hi,zBm hne]
def gNm(i:Nat):VTG:=λ d ds Q=>Q (ds.set i d)
theorem Ba(i:Nat){x:Str}(hN:X.N.Nodup)(hW:c.W i=false:=by rfl)(hi:X.N[i]? = some x:=by rfl)(hx:Loc X.env.scope x:=by first | exact Or.inl rfl | exact Or.inr rfl)(hf:X.fn x=true∨X.env.scope.names.lookup x=some .local:=by first | exact .inl rfl | exact .inr rfl | assumption):VG c X (.Name x pos) (gNm i):=by
 refine⟨λ D4 s σ H v u0 Q I r0 ⟨F,ds,A,T,d,r,S,o,q⟩=>qaw1 hN hi hx hf D4 s σ H v u0 Q I r0 ?_,λ d ds Q Q' hQ=>hQ _⟩;obtain⟨A',S',s'⟩:=S.store hW (qu1 hi D4 σ H s I) r o;exact q _ H F A' S' s'
def Ee(te:VT)(g:VTG):VTS:=λ e ds=>te ds (λ d ds'=>g d ds' e.nx) e.xe
theorem qaY4{tg:Expr}{g:VTG}(h:VE c X e te)(hg:VG c X tg g):∀ E σ H,E8 c (Ee te g) E σ H->tAsg (Bj c te) (Fq c g) E σ H:=by
 rintro E σ H ⟨F,ds,A,en,S,l,q⟩;refine⟨F,ds,A,en.xe,S,l.xe,h.m _ _ _ _ _ (λ d ds' q v H' F' T A' r S' o s=>?_) (λ _ _ z=>z) q⟩;exact⟨F',ds',A',T,d,r,S',o,hg.m _ _ _ _ (λ ds2 q σ2 H2 F2 A2 S2 s2=>l.nx ds2 σ2 H2 F2 A2 q S2 (s.trans s2)) q⟩
theorem qam3{tg:Expr}{g:VTG}(h:VE c X e te)(hg:VG c X tg g):∀(en en':VEnds) ds,en.Le en'->Ee te g en ds->Ee te g en' ds:=λ en en' ds hl=>h.m _ _ _ _ _ (λ d ds'=>hg.m _ _ _ _ hl.nx) hl.xe
theorem Er{tg:Expr}{g:VTG}(h:VE c X e te)(hg:VG c X tg g)(hs:swapsWithSole [tg] e pos.line X.env=pure false:=by rfl)(hw:swappedStores [tg] e X.env=pure none:=by rfl)(h1:(assignEach [tg] X.env).map (·.2)=[assign tg X.env]:=by rfl):VS c X (.Assign [tg] e pos) (Ee te g) :=
 ⟨PS.mono (qaS6 h.h hg.h hs hw h1) (qaY4 h hg),qam3 h hg⟩
theorem Ah(i:Nat){x:Str}{pos':Pos}(hN:X.N.Nodup)(h:VE c X e te)(hW:c.W i=false:=by rfl)(hi:X.N[i]? = some x:=by rfl)(hx:Loc X.env.scope x:=by first | exact Or.inl rfl | exact Or.inr rfl)(hs:swapsWith e (some (.Name x pos')) pos.line X.env=pure false:=by rfl)(hf:X.fn x=true∨X.env.scope.names.lookup x=some .local:=by first | exact .inl rfl | exact .inr rfl | assumption) :
   VS c X (.Assign [.Name x pos'] e pos) (Ee te (gNm i)):=by
 have hg:VG c X (.Name x pos') (gNm i):=Ba i hN hW hi hx hf;refine⟨λ D4 s σ H E I q=>qaK0 hN hi hx h.h hs hf D4 s σ H E I ?_,qam3 h hg⟩;obtain⟨F,ds,A,en,S,l,q⟩:=q;refine⟨F,ds,A,en.xe,S,l.xe,h.m _ _ _ _ _ (λ d ds' q v H' F' T A' r S' o s0=>?_) (λ _ _ z=>z) q⟩;obtain⟨A2,S2,s2⟩:=S'.store hW (qu1 hi D4 σ H s I) r o;exact l.nx _ _ H' F' A2 q S2 (s0.trans s2)
abbrev F7:=Ds->Ds->(Ds->Prop)->Prop
inductive qaR4(c:Vc)(g:F7)(vs:List V)(σ:St)(H:Hp)(Q:St->Hp->Prop):Prop
 | mk (F:Addr->Prop) (ds:Ds) (A T:List Addr) (xs:Ds) (r:Reps F H vs xs T) (S:Sta c F H σ ds A) (o:Ok F H (T++A)) (q:g xs ds (λ ds'=>∀ σ' H' F' A',Sta c F' H' σ' ds' A'->Stp F H (T++A) F' H' A'->Q σ' H')):qaR4 c g vs σ H Q
def qaV0(c:Vc)(g:F7):TGs:=qaR4 c g
structure VGs(c:Vc)(X:Cx)(es:List Expr)(g:F7):Prop where
 h:PGs X es (qaV0 c g)
 m:∀ xs ds (Q Q':Ds->Prop),(∀ ds',Q ds'->Q' ds')->g xs ds Q->g xs ds Q'
theorem PGs.mono{es:List Expr}{g g':TGs}(h:PGs X es g)(i:∀ v σ H Q,g' v σ H Q->g v σ H Q):PGs X es g':=λ D4 s σ H v u Q I r q=>h D4 s σ H v u Q I r (i v σ H Q q)
def E9:F7:=λ xs ds Q=>match xs with | []=>Q ds | _=>False
def qw9(g:VTG)(gs:F7):F7:=λ xs ds Q=>match xs with | x::r=>g x ds λ ds'=>gs r ds' Q | []=>False
theorem Ef:VGs c X [] E9:=by
 refine⟨PGs.mono qaK4 λ vs σ H Q ⟨F,ds,A,T,xs,r,S,o,q⟩=>?_,λ xs ds Q Q' hQ q=>by cases xs with | nil=>exact hQ _ q | cons _ _=>exact q.elim⟩;cases xs with
 | nil=>cases r;exact⟨rfl,q σ H F A S Stp.refl⟩
 | cons _ _=>exact q.elim
theorem ql7{tg:Expr}{es:List Expr}{g:VTG}{gs:F7}(h1:VG c X tg g)(h2:VGs c X es gs)(hs:(assignEach (tg::es) X.env).map (·.2)=assign tg X.env::(assignEach es X.env).map (·.2):=by rfl):VGs c X (tg::es) (qw9 g gs):=by
 refine⟨PGs.mono (qaC1 h1.h h2.h hs) λ vs σ H Q ⟨F,ds,A,T,xs,r,S,o,q⟩=>?_,λ xs ds Q Q' hQ q=>by
   cases xs with
   | nil=>exact q.elim
   | cons x r=>exact h1.m _ _ _ _ (λ ds'=>h2.m _ _ _ _ hQ) q⟩
 cases xs with
 | nil=>exact q.elim
 | cons x xs =>
   cases r with
   | @cons v _ T1 vs _ T2 r1 rt =>
     refine⟨v,vs,rfl,F,ds,A,T1,x,r1,S,o.count λ b=>by simp only[zA0];lia,h1.m _ _ _ _ (λ ds1 q σ1 H1 F1 A1 S1 s1=>?_) q⟩;have o':Ok F H (T2++(T1++A)):=o.count λ b=>by simp only[zA0];lia
     obtain⟨o1,s2⟩:=s1.frame o' rt.cells S1.ok;have o1A:Ok F H (T1++A):=o'.right;have rt':Reps F1 H1 vs xs T2:=rt.keep (s1.kp o1A λ b hb=>by
       rcases zAh.mp hb with hb | hb
       . exact r1.cells b hb
       exact S.loc.cells b hb) λ b hb hc=>by
       have:=o'.sep b
       rw[zA0] at this
       have:=qb2.mp hb
       lia
     exact⟨F1,ds1,A1,T2,xs,rt',S1,o1,h2.m _ _ _ _ (λ ds2 q σ2 H2 F2 A2 S2 s3=>q σ2 H2 F2 A2 S2 ((s2.pre λ b=>by simp only[zA0];lia).trans s3)) q⟩
def Fs(n:Nat)(gs:F7):VTG:=λ d ds Q=>match d with | .tup xs=>xs.length=n/\gs xs ds Q | _=>False
theorem Eg{es:List Expr}{k:Nat}{gs:F7}(hc:X.calm=true)(h:VGs c X es gs)(hn:(assignEach es X.env).length=n:=by rfl)(hst:(assignEach es X.env).findIdx? (·.1)=none:=by rfl):VG c X (.Tuple es k pos) (Fs n gs):=by
 refine⟨PG.mono (qaS7 hc h.h hn hst) λ v σ H Q ⟨F,ds,A,T,d,r,S,o,q⟩=>?_,λ d ds Q Q' hQ q=>by
   cases d with
   | tup xs=>exact⟨q.1,h.m _ _ _ _ hQ q.2⟩
   | _=>exact q.elim⟩
 cases d with
 | tup xs =>
   obtain⟨a,vs,rfl,ha,rs⟩:=r.tup_inv;exact⟨a,vs,rfl,.inl (.inl ha),by rw[rs.len];exact q.1,F,ds,A,T,xs,rs,S,o,q.2⟩
 | _=>exact q.elim
end
section
variable{c:Vc}{F:Addr->Prop}{H:Hp}{σ:St}{ds:Ds}{A T:List Addr}
theorem qN5{a:Addr}{o o':HO}(h:H a=some o)(hm:En o=true)(hf:¬ F a):Kp F H (λ b=>b=a) F (upd H a o') :=
 ⟨λ b u e w=>by rw[qc9 w];exact e,λ b w=>by subst w;exact⟨o,h,hm⟩,λ b w=>by subst w;exact hf,λ _ f=>f⟩
theorem Reps.setAt{ys:List D}{Tv:List Addr}{d:D}(r:Reps F H vs ys Ael)(hn:n < ys.length)(rv:Rep F H v d Tv):∃ B,Reps F H (vs.set n v) (ys.set n d) B/\∀ b,B.count b<=Ael.count b+Tv.count b:=by
 obtain⟨vs1,w,vs2,ys1,ys2,A1,B,A2,e1,e2,e3,e4,e5,l1,l2,l3⟩:=r.split (i:=n) (d:=ys[n]) (by simp);have e6:ys.set n d=ys1++d::ys2:=by
   have:=congrArg (λ l=>l.set n d) e2
   rw[this,qp8 e4]
 rw[e1,qp8 e3,e6];exact⟨A1++(Tv++A2),l1.append (.cons rv l3),λ b=>by rw[e5];simp only[zA0];lia⟩
theorem qw7{ys:List D}{B:List Addr}(r:Rep F H v (.lst false ys) B):∃ a vs Ael,v=.ref a/\H a=some (.lst vs)/\Reps F H vs ys Ael/\B=a::Ael:=by
 cases r with
 | lst h r=>exact⟨_,_,_,rfl,h,r,rfl⟩
theorem qk5{p:List Nat}{ys:List D}{u:V}(S:Sta c F H σ ds A)(h:A7 ds i p=some (.lst false ys))(hu:(σ++c.gv)[i]? = some (some u))(hw:Walk H u p w) :
   ∃(a:Addr)(vs:List V)(Ael:List Addr),w=.ref a/\H a=some (.lst vs)/\Reps F H vs ys Ael /\
   ∀(vs':List V)(ys':List D)(B' R T:List Addr),Ok F H (T++A)->Reps F H vs' ys' B'->(∀ b,B'.count b+R.count b<=Ael.count b+T.count b) ->
     (∃ A',Sta c F (upd H a (.lst vs')) σ (Bd ds i p (.lst false ys')) A'/\Ok F (upd H a (.lst vs')) (R++A')/\Stp F H (T++A) F (upd H a (.lst vs')) (R++A'))/\∀ v d,Rep F H v d R->Rep F (upd H a (.lst vs')) v d R:=by
 obtain⟨B,C,r,h3,h4⟩:=S.place h (by intro z;cases z) hu hw;obtain⟨a,vs,Ael,rfl,ha,rs,rfl⟩:=qw7 r;refine⟨a,vs,Ael,rfl,ha,rs,λ vs' ys' B' R T ok r' hc=>?_⟩;have h3':∀ b,A.count b=(if b=a then 1 else 0)+Ael.count b+C.count b:=λ b=>by
   rw[h3,zAl];by_cases hb:b=a
   . subst hb;simp;lia
   simp[hb,Ne.symm hb]
 have ha3:=h3' a;rw[if_pos rfl] at ha3;have sa:=ok.sep a;rw[zA0] at sa;have hca:=hc a;have hf:¬ F a:=λ f=>by have:=ok.fro a f;rw[zA0] at this;lia
 have k:=qN5 (F:=F) (o':=.lst vs') ha rfl hf;have rep':Rep F (upd H a (.lst vs')) (.ref a) (.lst false ys') (a::B'):=.lst qc2 (r'.keep k λ b hb w=>by subst w;have:=qb2.mp hb;lia);obtain⟨A',q1,q2⟩:=h4 _ _ k (λ b hb w=>by subst w;have:=qb2.mp hb;lia) rep';have q2':∀ b,A'.count b=(if b=a then 1 else 0)+B'.count b+C.count b:=λ b=>by
   rw[q2,zAl];by_cases hb:b=a
   . subst hb;simp;lia
   simp[hb,Ne.symm hb]
 have hcnt:∀ b,(R++A').count b<=(T++A).count b:=λ b=>by rw[zA0,zA0,q2',h3'];have:=hc b;lia
 have ex:∀ b,F b->∃ o,upd H a (.lst vs') b=some o:=λ b f=>by
   obtain⟨x,e⟩:=ok.ex b f;exact⟨x,by rw[qc9 (show b≠a from λ w=>hf (w ▸ f))];exact e⟩
 have o4:Ok F (upd H a (.lst vs')) (R++A'):=⟨λ b=>zAp (hcnt b) (ok.sep b),λ b f=>by have:=ok.fro b f;have:=hcnt b;lia,ex⟩
 refine⟨⟨A',⟨q1,o4.right,S.len,S.ag⟩,o4,λ b u e z=>?_,λ b u e z=>by have:=hcnt b;lia,λ _ f=>f,λ _ _ _ _ f=>f⟩,λ v d rv=>rv.keep k λ b hb w=>by subst w;have:=qb2.mp hb;lia⟩;rw[qc9 λ w=>?_]
 . exact e
 subst w;have:=h3' b;rw[if_pos rfl] at this;rw[zA0] at z;lia
def Fm(r:V->List V->Hp->VK->Prop)(g:Ds->Ds->Option (Ds×D)):Prop:=∀ F H a vs ys Ael ws xs T ys' d (Q:VK),H a=some (.lst vs)->Reps F H vs ys Ael->Reps F H ws xs T->g ys xs=some (ys',d) ->
 (∀ vs' v B' R,Reps F H vs' ys' B'->Rep F H v d R->(∀ b,B'.count b+R.count b<=Ael.count b+T.count b)->Q v (upd H a (.lst vs')))->r (.ref a) ws H Q
def Gx(ys xs:Ds):Option (Ds×D):=match xs with
 | [x]=>if ys.length < big then some (ys++[x],.non) else none
 | _=>none
theorem qw6:Fm qav5 Gx:=by
 intro F H a vs ys Ael ws xs T ys' d Q ha r rx h q
 match xs,h with
 | [x],h =>
   obtain⟨w,rfl,rw'⟩:=rx.one_inv;have h:(if ys.length < big then some (ys++[x],D.non) else none)=some (ys',d):=h;by_cases hl:ys.length < big
   . rw[if_pos hl] at h
     cases h;refine⟨a,vs,w,rfl,rfl,ha,by rw[r.len];exact zAk hl qg3,?_⟩;exact q _ .non (Ael++(T++[])) [] (r.append (.cons rw' .nil)) .non λ b=>by simp[zA0]
   rw[if_neg hl] at h;cases h
def gPop(ys xs:Ds):Option (Ds×D):=match xs with
 | []=>(ys[ys.length - 1]?).map λ d=>(ys.dropLast,d)
 | _=>none
theorem Reps.last{ys:Ds}{d:D}(r:Reps F H vs ys Ael)(h:ys[ys.length - 1]? = some d):∃ v B R,vs[vs.length - 1]? = some v/\Reps F H vs.dropLast ys.dropLast B/\Rep F H v d R/\∀ b,B.count b+R.count b<=Ael.count b:=by
 obtain⟨vs1,v,vs2,ys1,ys2,A1,B,A2,e1,e2,e3,e4,e5,l1,l2,l3⟩:=r.split h;have hy:ys2=[]:=by
   have:=congrArg List.length e2
   rw[zA8,zAo,e4] at this;cases ys2 with
   | nil=>rfl
   | cons _ _=>simp at this;lia
 subst hy;cases l3;refine⟨v,A1,B,?_,?_,l2,λ b=>by rw[e5];simp only[zA0,List.count_nil];lia⟩
 . rw[e1]
   simp
 rw[e1,e2,List.dropLast_concat,List.dropLast_concat];exact l1
theorem qaM6:Fm rPop gPop:=by
 intro F H a vs ys Ael ws xs T ys' d Q ha r rx h q
 match xs,h with
 | [],h =>
   cases rx;obtain⟨e,h1,h2⟩:=zAa.mp h;cases h2;obtain⟨v,B,R,h3,h4,h5,h6⟩:=r.last h1;exact⟨a,vs,v,rfl,rfl,ha,h3,q _ v B R h4 h5 λ b=>by have:=h6 b;lia⟩
def gIns(ys xs:Ds):Option (Ds×D):=match xs with
 | [.int i,x]=>if 0<=i/\i < 1000000/\ys.length < big then some (ys.take i.toNat++x::ys.drop i.toNat,.non) else none
 | _=>none
theorem Reps.cut{ys:Ds}(r:Reps F H vs ys Ael)(n:Nat):∃ B C,Reps F H (vs.take n) (ys.take n) B/\Reps F H (vs.drop n) (ys.drop n) C/\∀ b,Ael.count b=B.count b+C.count b:=by
 induction n generalizing vs ys Ael with
 | zero=>exact⟨[],Ael,.nil,r,λ b=>by simp⟩
 | succ n ih =>
   cases r with
   | nil=>exact⟨[],[],.nil,.nil,λ b=>by simp⟩
   | cons h t =>
     obtain⟨B,C,q1,q2,q3⟩:=ih t;exact⟨_++B,C,.cons h q1,q2,λ b=>by simp only[zA0,q3];lia⟩
theorem qaU6:Fm qav4 gIns:=by
 intro F H a vs ys Ael ws xs T ys' d Q ha r rx h q;unfold gIns at h;split at h
 . rename_i i x
   obtain⟨w1,w2,T1,T2,rfl,r1,r2,hc⟩:=rx.two_inv;cases r1;have h:(if 0<=i/\i < 1000000/\ys.length < big then some (ys.take i.toNat++x::ys.drop i.toNat,D.non) else none)=some (ys',d):=h;by_cases hl:0<=i/\i < 1000000/\ys.length < big
   . rw[if_pos hl] at h
     cases h;obtain⟨B,C,q1,q2,q3⟩:=r.cut i.toNat;refine⟨a,vs,w2,i,rfl,rfl,ha,hl.1,by lia,by rw[r.len];exact zAk hl.2.2 qg3,?_⟩;exact q _ .non (B++(T2++C)) [] (q1.append (.cons r2 q2)) .non λ b=>by simp only[zA0,List.count_nil];have:=q3 b;have:=hc b;lia
   rw[if_neg hl] at h;cases h
 cases h
end
section
variable{c:Vc}{X:Cx}{a b e o:Expr}{pf:PF}{tr:VTB}{es:List Expr}{r:V->List V->Hp->VK->Prop}{g:Ds->Ds->Option (Ds×D)}
def D.own:D->Option Ds
 | .lst false ys=>some ys
 | _=>none
theorem Hr{d:D}{ys:Ds}(h:d.own=some ys):d=.lst false ys:=by
 cases d with
 | lst z xs=>cases z with
   | false=>cases h;rfl
   | true=>cases h
 | _=>cases h
def Eh(g:Ds->Ds->Option (Ds×D))(i:Nat)(tr:VTB):VT:=λ ds Q xe=>((rdN i ds).bind D.own).isSome=true/\tr ds (λ xs _ ds1=>orF ((rdN i ds1).bind D.own) λ ys=>orF (g ys xs) λ z=>Q z.2 (ds1.set i (.lst false z.1))) xe
theorem qI7{ds:Ds}{d:D}(h:ds[i]? = some d):A7 ds i []=some d:=by unfold A7;rw[h];rfl
theorem qG1{ds:Ds}{d x:D}(h:ds[i]? = some d):Bd ds i [] x=ds.set i x:=by unfold Bd;rw[h];rfl
theorem qax0{T:String}(hT:T = "list"){σ:St}{H:Hp}(hm:Fm r g)(ha:VAs c X es tr)(hi:i < σ.length)(q:Bj c (Eh g i tr) σ H Q):tBM X.K T r (Fy i) (Eu c tr) σ H Q:=by
 subst hT;obtain⟨F,ds,A,xe,S,x,hs,q⟩:=q;obtain⟨ys0,hys0⟩:=zB8.mp hs;obtain⟨d0,e0,e0'⟩:=zA1.mp hys0;cases Hr e0';obtain⟨v,B0,hv,r0,_⟩:=S.name hi e0;obtain⟨a,vs0,A0,rfl,ha0,_,_⟩:=r0.lst_inv;refine⟨.ref a,hv,.inl ⟨rfl,vs0,.inl (.inl ha0)⟩,F,ds,A,xe,S,x,ha.m _ _ _ _ _ (λ xs ps ds1 q vs H1 F1 T A1 r1 pk S1 o1 s1=>?_) (λ _ _ z=>z) q⟩;obtain⟨ys,e1,q⟩:=qa7.mp q;obtain⟨d1,e2,e3⟩:=zA1.mp e1;cases Hr e3;obtain⟨⟨ys',d⟩,e4,q⟩:=qa7.mp q;obtain⟨e5,hk⟩:=qn8.mp e2;have hu:(σ++c.gv)[i]? = some (some (.ref a)):=by rw[zAs hi];exact hv
 obtain⟨a2,vs2,Ael,ea,ha2,rs,wr⟩:=qk5 S1 (qI7 e5) hu (p:=[]) (w:=.ref a) rfl;cases ea;refine hm F1 H1 a vs2 ys Ael vs xs T ys' d Q ha2 rs r1 e4 λ vs' v B' R h1 h2 h3=>?_
 obtain⟨⟨A',S2,o2,s2⟩,kr⟩:=wr vs' ys' B' R T o1 h1 h3;rw[qG1 e5] at S2;exact q v _ F1 R A' (kr v d h2) S2 o2 (s1.trans s2)
theorem qV2(ha:VAs c X es tr):∀ ds (Q Q':DK) (xe xe':XKd),(∀ d ds',Q d ds'->Q' d ds')->(∀ x ds',xe x ds'->xe' x ds')->Eh g i tr ds Q xe->Eh g i tr ds Q' xe' :=
 λ ds Q Q' xe xe' hQ hx=>And.imp_right (ha.m _ _ _ _ _ (λ xs ps ds1=>qa4 λ y=>qa4 λ z=>hQ _ _) hx)
theorem qan2{F F':Addr->Prop}{H H':Hp}{W:Addr->Prop}(k:Kp F H W F' H'):∀{p:List Nat}{v0:V}{d0 d:D}{B:List Addr}{w w':V},(∀ b∈B,¬ W b)->Rep F H v0 d0 B->d0.getP p=some d->Walk H v0 p w->Walk H' v0 p w'->w'=w:=by
 intro p
 induction p with
 | nil=>intro v0 d0 d B w w' _ _ _ h h';cases h;cases h';rfl
 | cons n p ih =>
   intro v0 d0 d B w w' hB r hg h h';unfold D.getP at hg;cases hk:d0.kids[n]? with
   | none=>rw[hk] at hg;cases hg
   | some e =>
     rw[hk] at hg;obtain⟨x,l1,h1⟩:=h;obtain⟨x',l1',h1'⟩:=h';obtain⟨y,B1,C1,m1,m2,m3,_⟩:=r.kid hk;obtain⟨y',B1',C1',m1',_,_,_⟩:=(r.keep k hB).kid hk;cases l1.fn m1;cases l1'.fn m1';have hlk:Lnk H' v0 n x:=by
       obtain⟨a,rfl,hh⟩:=m1;refine⟨a,rfl,?_⟩;cases r with
       | tup e0 _ =>
         rcases hh with⟨vs,e,h⟩ | ⟨vs,e,h⟩ | ⟨vs,e,h⟩ | ⟨C,dx,vs,e,h⟩
         . exact .inl ⟨vs,k.tup e,h⟩
         . rw[e0] at e;cases e
         . rw[e0] at e;cases e
         rw[e0] at e;cases e
       | lst e0 _ =>
         have k0:=k.fr _ _ e0 (hB _ zA7);rcases hh with⟨vs,e,h⟩ | ⟨vs,e,h⟩ | ⟨vs,e,h⟩ | ⟨C,dx,vs,e,h⟩
         . rw[e0] at e;cases e
         . rw[e0] at e;cases e;exact .inr (.inl ⟨_,k0,h⟩)
         . rw[e0] at e;cases e
         rw[e0] at e;cases e
       | dct e0 _ _ =>
         have k0:=k.fr _ _ e0 (hB _ zA7);rcases hh with⟨vs,e,h⟩ | ⟨vs,e,h⟩ | ⟨vs,e,h⟩ | ⟨C,dx,vs,e,h⟩
         . rw[e0] at e;cases e
         . rw[e0] at e;cases e
         . rw[e0] at e;cases e;exact .inr (.inr (.inl ⟨_,k0,h⟩))
         rw[e0] at e;cases e
       | ins e0 _ _ =>
         have k0:=k.fr _ _ e0 (hB _ zA7);rcases hh with⟨vs,e,h⟩ | ⟨vs,e,h⟩ | ⟨vs,e,h⟩ | ⟨C,dx,vs,e,h⟩
         . rw[e0] at e;cases e
         . rw[e0] at e;cases e
         . rw[e0] at e;cases e
         rw[e0] at e;cases e;exact .inr (.inr (.inr ⟨_,_,_,k0,h⟩))
       | _=>simp[D.kids] at hk
     cases hlk.fn m1';exact ih (B:=B1) (λ b hb=>hB b (qb2.mpr (by have:=m3 b;have:=qb2.mp hb;lia))) m2 hg h1 h1'
def Ev(g:Ds->Ds->Option (Ds×D))(pf:PF)(tr:VTB):VT:=λ ds Q xe=>orF (pf ds) λ q=>orF ((A7 ds q.1 q.2).bind D.own) λ ys=>orF ds[q.1]? λ d0=>tr (ds.set q.1 .unk) (λ xs _ ds1=>orF (g ys xs) λ z=>Q z.2 (Bd (ds1.set q.1 d0) q.1 q.2 (.lst false z.1))) xe
theorem qV1(ha:VAs c X es tr):∀ ds (Q Q':DK) (xe xe':XKd),(∀ d ds',Q d ds'->Q' d ds')->(∀ x ds',xe x ds'->xe' x ds')->Ev g pf tr ds Q xe->Ev g pf tr ds Q' xe' :=
 λ ds Q Q' xe xe' hQ hx=>qa4 λ q=>qa4 λ ys=>qa4 λ d0=>ha.m _ _ _ _ _ (λ xs ps ds1=>qa4 λ z=>hQ _ _) hx
theorem qaw9(hm:Fm r g)(ha:VAs c X es tr):∀ σ H Q,Bj c (Ev g pf tr) σ H Q->tBM X.K "list" r (Gm c pf) (Eu c tr) σ H Q:=by
 rintro σ H Q ⟨F,ds,A,xe,S,x,q⟩;obtain⟨⟨i,p⟩,e1,q⟩:=qa7.mp q;obtain⟨ys,e2,q⟩:=qa7.mp q;obtain⟨dl,e3,e4⟩:=zA1.mp e2;cases Hr e4;obtain⟨d0,e5,q⟩:=qa7.mp q;refine⟨F,ds,A,i,p,_,S,e1,e3,D.noConfusion,λ u w H1 hu hw s0=>?_⟩;have S0:=S.same s0;obtain⟨a,vs0,Ael0,rfl,ha0,rs0,_⟩:=qk5 S0 e3 hu hw;refine⟨.inl ⟨rfl,vs0,.inl (.inl ha0)⟩,?_⟩;have hd0:d0≠.unk:=λ z=>by
   subst z;have e3':=e3;unfold A7 at e3';rw[e5] at e3';cases (qaj9 e3').2
 obtain⟨u',B,C,h1,h2,h3,h4⟩:=S0.put1 e5 hd0;rw[hu] at h1;cases h1;obtain⟨A1,q1,q2⟩:=h4 .unk [] (Kp.same (F:=F) λ _ _ z=>z) (λ _ _ z=>z) (.unk u);have o1:Ok F H1 (B++A1):=S0.ok.count λ b=>by rw[zA0,q2,h3];simp
 have s1:Stp F H A F H1 (B++A1):=⟨λ b o e _=>s0 b o e,λ b o e z=>by rw[zA0,q2];have:=h3 b;simp;lia,λ _ f=>f,λ _ _ _ _ f=>f⟩
 have S1:Sta c F H1 σ (ds.set i .unk) A1:=⟨q1,o1.right,S.len,S.ag⟩
 have s1':Stp F H A F H1 A1:=s1.count λ b=>by rw[zA0];lia
 refine⟨F,_,A1,xe,S1,x.step s1',ha.m _ _ _ _ _ (λ xs ps ds2 q vs H2 F2 T2 A2 r2 pk S2 o2 s2=>?_) (λ _ _ z=>z) q⟩;obtain⟨⟨ys',d⟩,e7,q⟩:=qa7.mp q;have kp:=s2.kp S1.ok S1.loc.cells;have hBout:∀ b∈B,¬ (A1.count b≠0):=λ b hb hc=>by
   have:=o1.sep b
   rw[zA0] at this
   have:=qb2.mp hb
   lia
 have r1':Rep F2 H2 u d0 B:=h2.keep kp hBout;obtain⟨o3,s3⟩:=s2.frame o1 h2.cells o2;obtain⟨A3,k1,k2⟩:=qG0 S2.loc hu r1';have hc3:∀ b,A3.count b<=B.count b+A2.count b:=k2;have o4:Ok F2 H2 (T2++A3):=o3.count λ b=>by simp only[zA0];have:=hc3 b;lia
 have s4:Stp F H A F2 H2 (T2++A3):=(s1.trans s3).count λ b=>by simp only[zA0];have:=hc3 b;lia
 have S3:Sta c F2 H2 σ (ds2.set i d0) A3:=⟨k1,o4.right,S.len,S.ag⟩
 have hlen:i < ds2.length:=by rw[<- S2.loc.len];exact(zA4.mp hu).1
 have e8:A7 (ds2.set i d0) i p=some (.lst false ys):=by
   unfold A7 at e3 ⊢;rw[e5] at e3;rw[List.getElem?_set_self hlen];exact e3
 have hw2:Walk H2 u p (.ref a):=by
   obtain⟨w',_,_,w1,_,_,_⟩:=h2.path (p:=p) (d:=.lst false ys) (by unfold A7 at e3;rw[e5] at e3;exact e3);cases hw.fn w1;obtain⟨w2,_,_,w3,_,_,_⟩:=r1'.path (p:=p) (d:=.lst false ys) (by unfold A7 at e3;rw[e5] at e3;exact e3)
   have:w2=.ref a:=by
     refine qan2 (d:=.lst false ys) kp hBout h2 ?_ w1 w3;unfold A7 at e3;rw[e5] at e3;exact e3
   rw[<- this];exact w3
 obtain⟨a2,vs2,Ael,ea,ha2,rs,wr⟩:=qk5 S3 e8 hu hw2;cases ea;refine hm F2 H2 a vs2 ys Ael vs xs T2 ys' d Q ha2 rs r2 e7 λ vs' v B' R z1 z2 z3=>?_
 obtain⟨⟨A',S4,o5,s5⟩,kr⟩:=wr vs' ys' B' R T2 o4 z1 z3;exact q v _ F2 R A' (kr v d z2) S4 o5 (s4.trans s5)
end
section
variable{c:Vc}{X:Cx}{a b e o:Expr}{pos cpos apos:Pos}{pf:PF}{tr:VTB}{es:List Expr}{fb:FV}{ob:Bool}{r:V->List V->Hp->VK->Prop}{g:Ds->Ds->Option (Ds×D)}{name:Str}{id:String}
theorem Dy(i:Nat){x:Str}{p0:Pos}(hg:Fm r g)(pa:PlainAttrs "list")(slot:Slot "list" name id)(hty:typeOf (.builtin id)=pure (.type "method_descriptor"))(hm:MtM X id r)(ha:VAs c X (e::es) tr)(hN:X.N[i]? = some x:=by rfl)(hv:Vis X.env.scope x:=by first | exact Or.inl rfl | exact Or.inr (Or.inl rfl) | exact Or.inr (Or.inr rfl))(hd:(x == ("__debug__" : Str))=false:=by decide)(hcd:(x == ("__classdict__" : Str))=false:=by decide)(hbase:attributeBase (.Name x p0) name X.env (eval (.Name x p0) X.env)=eval (.Name x p0) X.env:=by rfl)(hfew:((backTo cpos (starEach (e::es) X.env)).all (λ x=>!x.1)&&(backToKw cpos (keywordEach [] X.env)).all (λ x=>x.1.isSome)
     && decide ((e::es).length+([]:List Keyword).length+(if ([]:List Keyword).isEmpty then 0 else 1) < 30))=true:=by rfl)(hline:(apos.endLine == cpos.line)=true:=by rfl)(hs:starEach (e::es) X.env=(false,eval e X.env)::starEach es X.env:=by rfl)(hplain:(backTo cpos (starEach es X.env)).any (·.1)=false:=by rfl) :
   VE c X (.Call (.Attribute (.Name x p0) name apos) (e::es) [] cpos) (Eh g i tr) :=
 ⟨λ D4 s σ H Q I q=>G3 pa slot hty hm (qt2 hN hv hd hcd) ha.h hbase hfew hline hs hplain D4 s σ H Q I (qax0 rfl hg ha (qu1 hN D4 σ H s I) q),qV2 ha⟩
theorem qaX4(i:Nat){x:Str}{p0:Pos}(hg:Fm r g)(pa:PlainAttrs "list")(slot:Slot "list" name id)(hty:typeOf (.builtin id)=pure (.type "method_descriptor"))(hm:MtM X id r)(hN:X.N[i]? = some x:=by rfl)(hv:Vis X.env.scope x:=by first | exact Or.inl rfl | exact Or.inr (Or.inl rfl) | exact Or.inr (Or.inr rfl))(hd:(x == ("__debug__" : Str))=false:=by decide)(hcd:(x == ("__classdict__" : Str))=false:=by decide)(hbase:attributeBase (.Name x p0) name X.env (eval (.Name x p0) X.env)=eval (.Name x p0) X.env:=by rfl)(hline:(apos.endLine == cpos.line)=true:=by rfl) :
   VE c X (.Call (.Attribute (.Name x p0) name apos) [] [] cpos) (Eh g i Ax) :=
 ⟨λ D4 s σ H Q I q=>qaL1 pa slot hty hm (qt2 hN hv hd hcd) hbase hline D4 s σ H Q I (by
   obtain⟨v,hv,hty,F,ds,A,xe,S,x,q⟩:=qax0 (X:=X) rfl hg Aa (qu1 hN D4 σ H s I) q;exact⟨v,hv,hty,q [] H F [] A .nil .nil S S.ok Stp.refl⟩),qV2 (c:=c) (X:=X) Aa⟩
theorem Hb(hg:Fm r g)(pa:PlainAttrs "list")(slot:Slot "list" name id)(hty:typeOf (.builtin id)=pure (.type "method_descriptor"))(hm:MtM X id r)(ho:VP c X o pf)(ha:VAs c X (e::es) tr)(hbase:attributeBase o name X.env (eval o X.env)=eval o X.env:=by rfl)(hfew:((backTo cpos (starEach (e::es) X.env)).all (λ x=>!x.1)&&(backToKw cpos (keywordEach [] X.env)).all (λ x=>x.1.isSome)
     && decide ((e::es).length+([]:List Keyword).length+(if ([]:List Keyword).isEmpty then 0 else 1) < 30))=true:=by rfl)(hline:(apos.endLine == cpos.line)=true:=by rfl)(hs:starEach (e::es) X.env=(false,eval e X.env)::starEach es X.env:=by rfl)(hplain:(backTo cpos (starEach es X.env)).any (·.1)=false:=by rfl) :
   VE c X (.Call (.Attribute o name apos) (e::es) [] cpos) (Ev g pf tr) :=
 ⟨PE.mono (G3 pa slot hty hm ho.h ha.h hbase hfew hline hs hplain) (qaw9 hg ha),qV1 ha⟩
theorem qaX3(hg:Fm r g)(pa:PlainAttrs "list")(slot:Slot "list" name id)(hty:typeOf (.builtin id)=pure (.type "method_descriptor"))(hm:MtM X id r)(ho:VP c X o pf)(hbase:attributeBase o name X.env (eval o X.env)=eval o X.env:=by rfl)(hline:(apos.endLine == cpos.line)=true:=by rfl) :
   VE c X (.Call (.Attribute o name apos) [] [] cpos) (Ev g pf Ax) :=
 ⟨PE.mono (qaL1 pa slot hty hm ho.h hbase hline) λ σ H Q q=>by
   obtain⟨F,ds,A,i,p,d,S,e1,e2,hne,q⟩:=qaw9 (X:=X) (c:=c) hg Aa σ H Q q;refine⟨F,ds,A,i,p,d,S,e1,e2,hne,λ u w H1 hu hw s0=>?_⟩;obtain⟨hty,F2,ds2,A2,xe2,S2,x2,q2⟩:=q u w H1 hu hw s0;exact⟨hty,q2 [] H1 F2 [] A2 .nil .nil S2 S2.ok Stp.refl⟩,qV1 (c:=c) (X:=X) Aa⟩
def Ew(pf:PF)(fb:FV):VTG:=λ d ds Q=>orF (pf ds) λ q=>orF ((A7 ds q.1 q.2).bind D.own) λ ys=>orF ((fb ds).bind D.asI) λ k=>orF (ixN ys.length k) λ n=>Q (Bd ds q.1 q.2 (.lst false (ys.set n d)))
theorem Dm(ho:VP c X o pf)(hi:VV c X b ob fb)(ha:∀ v,assign (.Subscript o b pos) X.env v=(do
     let ov <- holding [v] (eval o X.env);let iv <- holding [v,ov] (eval b X.env)
     standAt pos
     holding [v,ov,iv] (setItem ov iv v)
     release [v,ov,iv] []):=by intro _;rfl):VG c X (.Subscript o b pos) (Ew pf fb):=by
 refine⟨PG.mono (qaS8 ho.h hi.h qad8 ha) λ v σ H Q ⟨F,ds,A,T,d,r,S,ok,q⟩=>?_,λ d ds Q Q' hQ=>qa4 λ _=>qa4 λ _=>qa4 λ _=>qa4 λ _=>hQ _⟩;obtain⟨⟨i,p⟩,e1,q⟩:=qa7.mp q;obtain⟨ys,e2,q⟩:=qa7.mp q;obtain⟨dl,e3,e4⟩:=zA1.mp e2;cases Hr e4;obtain⟨k,e5,q⟩:=qa7.mp q;obtain⟨dk,e6,e7⟩:=zA1.mp e5;obtain⟨n,e8,q⟩:=qa7.mp q;refine⟨F,ds,A,i,p,_,S,e1,e3,D.noConfusion,λ u w H1 hu hw s1=>⟨F,ds,A,dk,S.same s1,e6,λ vk H2 B2 r2 s2 _=>?_⟩⟩;have s12:=s1.trans s2;have S2:=S.same s12;cases r2.asI e7;obtain⟨a,vs,Ael,rfl,ha,rs,wr⟩:=qk5 S2 e3 hu (hw.same s2);have hn:n < ys.length:=(qV8 e8).2.1;obtain⟨B',r3,h3⟩:=rs.setAt hn (r.same s12);obtain⟨⟨A',S3,o3,s3⟩,_⟩:=wr _ _ B' [] T (ok.same s12) r3 λ b=>by have:=h3 b;simp;lia
 exact⟨a,vs,k,n,rfl,rfl,ha,by rw[rs.len];exact e8,q σ _ F A' S3 ((Stp.same s12).trans s3)⟩
def sAugV(f:Int->Int->Int)(pf:PF)(fb fe:FV):VTS:=λ e ds=>orF (pf ds) λ q=>orF ((A7 ds q.1 q.2).bind D.own) λ ys=>orF ((fb ds).bind D.asI) λ k=>0<=k/\orF ((ys[k.toNat]?).bind D.asI) λ x=>orF ((fe ds).bind D.asI) λ y=>e.nx (Bd ds q.1 q.2 (.lst false (ys.set k.toNat (.int (f x y)))))
theorem saug{op:Operator}{f:Int->Int->Int}{fe:FV}{oe:Bool}(ho:VP c X o pf)(hi:VV c X b ob fb)(he:VV c X e oe fe)(hp:PIp X op (ipI f))(ha:∀ ov iv new,augStore b ov iv new=(do holding [new,ov,iv] (setItem ov iv new);release [new,ov,iv] [];pure .next):=by intros;rfl):VS c X (.AugAssign (.Subscript o b tpos) op e pos) (sAugV f pf fb fe):=by
 refine⟨PS.mono (qaK2 ho.h hi.h qaF3 he.h hp qad8 ha) λ E σ H ⟨F,ds,A,en,S,l,q⟩=>?_,λ en en' ds hl=>qa4 λ _=>qa4 λ _=>qa4 λ _=>And.imp_right (qa4 λ _=>qa4 λ _=>hl.nx _)⟩;obtain⟨⟨i,p⟩,e1,q⟩:=qa7.mp q;obtain⟨ys,e2,q⟩:=qa7.mp q;obtain⟨dl,e3,e4⟩:=zA1.mp e2;cases Hr e4;obtain⟨k,e5,h0,q⟩:=qa7.mp q;obtain⟨dk,e6,e7⟩:=zA1.mp e5;obtain⟨x,e8,q⟩:=qa7.mp q;obtain⟨dx,e9,e10⟩:=zA1.mp e8;obtain⟨y,e11,q⟩:=qa7.mp q;obtain⟨dy,e12,e13⟩:=zA1.mp e11;refine⟨F,ds,A,i,p,_,S,e1,e3,D.noConfusion,λ u w H1 hu hw s1=>⟨F,ds,A,dk,S.same s1,e6,λ vk H2 B2 r2 s2 _=>?_⟩⟩;have s12:=s1.trans s2;cases r2.asI e7;obtain⟨a,vs,Ael,rfl,ha2,rs2,_⟩:=qk5 (S.same s12) e3 hu (hw.same s2);obtain⟨vx,Bx,hx,rx,_⟩:=rs2.get e9;cases rx.asI e10;refine⟨a,vs,k,_,rfl,rfl,ha2,h0,hx,F,ds,A,dy,S.same s12,e12,λ vy H3 B3 r3 s3 _=>?_⟩;cases r3.asI e13;have s13:=s12.trans s3;have S3:=S.same s13;obtain⟨a',vs',Ael',ea,ha3,rs3,wr⟩:=qk5 S3 e3 hu ((hw.same s2).same s3);cases ea;have hn:k.toNat < ys.length:=(zA4.mp e9).1;obtain⟨B',r4,h4⟩:=rs3.setAt hn (.int (f x y));obtain⟨⟨A',S4,o4,s4⟩,_⟩:=wr _ _ B' [] [] S3.ok r4 λ b=>by have:=h4 b;simpa using this
 refine⟨x,y,rfl,rfl,a,vs',k,k.toNat,rfl,rfl,ha3,?_,l.nx _ σ _ F A' q S4 ((Stp.same s13).trans s4)⟩;rw[rs3.len];unfold ixN;rw[if_pos h0,if_pos (by lia)]
def Fa(f:Str)(d:D):List (Str×D)->List (Str×D)
 | []=>[(f,d)]
 | (g,x)::r=>if g=f then (g,d)::r else (g,x)::Fa f d r
end
section
variable{c:Vc}{X:Cx}{F:Addr->Prop}{H:Hp}{σ:St}{ds:Ds}{A T:List Addr}{a b e o:Expr}{pos cpos apos:Pos}{te:VT}{pf:PF}{fa fb:FV}{oa ob:Bool}
theorem qU5:∀{fvs:List (Str×V)}{fds:List (Str×D)}{B Tv:List Addr}{f:Str}{v:V}{d:D},fvs.map (·.1)=fds.map (·.1)->Reps F H (fvs.map (·.2)) (fds.map (·.2)) B->Rep F H v d Tv->(B8 f v fvs).map (·.1)=(Fa f d fds).map (·.1)/\∃ B',Reps F H ((B8 f v fvs).map (·.2)) ((Fa f d fds).map (·.2)) B'/\∀ b,B'.count b<=B.count b+Tv.count b
 | [],[],B,Tv,f,v,d,_,r,rv=>⟨rfl,Tv++[],.cons rv .nil,λ b=>by simp⟩
 | [],_::_,_,_,_,_,_,h,_,_=>by simp at h
 | _::_,[],_,_,_,_,_,h,_,_=>by simp at h
 | (k,w)::r,(k',x)::r',B,Tv,f,v,d,h,rs,rv=>by
   have h1:k=k':=by simp at h;exact h.1
   have h2:r.map (·.1)=r'.map (·.1):=by simp at h;simpa using h.2
   subst h1;cases rs with
   | @cons _ _ B1 _ _ B2 q t =>
     by_cases hk:k=f
     . simp only[B8,Fa,if_pos hk,zB0,h2,true_and]
       exact⟨Tv++B2,.cons rv t,λ b=>by simp only[zA0];lia⟩
     obtain⟨m1,B',m2,m3⟩:=qU5 (f:=f) h2 t rv;simp only[B8,Fa,if_neg hk,zB0,m1,true_and];exact⟨B1++B',.cons q m2,λ b=>by simp only[zA0];have:=m3 b;lia⟩
def D.ownI(C:Addr):D->Option (List (Str×D))
 | .ins false C' fs=>if C'=C then some fs else none
 | _=>none
theorem qaL5{d:D}{C:Addr}{fs:List (Str×D)}(h:d.ownI C=some fs):d=.ins false C fs:=by
 cases d with
 | ins z C' xs=>cases z with
   | false =>
     have h:(if C'=C then some xs else none)=some fs:=h;by_cases hc:C'=C
     . rw[if_pos hc] at h;cases h;rw[hc]
     rw[if_neg hc] at h;cases h
   | true=>cases h
 | _=>cases h
theorem qaL4{p:List Nat}{C:Addr}{fds:List (Str×D)}{u:V}(S:Sta c F H σ ds A)(h:A7 ds i p=some (.ins false C fds))(hu:(σ++c.gv)[i]? = some (some u))(hw:Walk H u p w) :
   ∃(a dx:Addr)(fvs:List (Str×V))(Ael:List Addr),w=.ref a/\H a=some (.ins C dx fvs)/\fvs.map (·.1)=fds.map (·.1)/\Reps F H (fvs.map (·.2)) (fds.map (·.2)) Ael /\
   ∀(fvs':List (Str×V))(fds':List (Str×D))(B' T:List Addr),Ok F H (T++A)->fvs'.map (·.1)=fds'.map (·.1)->Reps F H (fvs'.map (·.2)) (fds'.map (·.2)) B'->(∀ b,B'.count b<=Ael.count b+T.count b) ->
     ∃ A',Sta c F (upd H a (.ins C dx fvs')) σ (Bd ds i p (.ins false C fds')) A'/\Stp F H (T++A) F (upd H a (.ins C dx fvs')) A':=by
 obtain⟨B,C0,r,h3,h4⟩:=S.place h D.noConfusion hu hw;cases r with
 | @ins a _ dx fvs _ Ael ha hk rs =>
 refine⟨a,dx,fvs,Ael,rfl,ha,hk,rs,λ fvs' fds' B' T ok hk' r' hc=>?_⟩;have h3':∀ b,A.count b=(if b=a then 1 else 0)+Ael.count b+C0.count b:=λ b=>by
   rw[h3,zAl];by_cases hb:b=a
   . subst hb;simp;lia
   simp[hb,Ne.symm hb]
 have ha3:=h3' a;rw[if_pos rfl] at ha3;have sa:=ok.sep a;rw[zA0] at sa;have hca:=hc a;have hf:¬ F a:=λ f=>by have:=ok.fro a f;rw[zA0] at this;lia
 have k:=qN5 (F:=F) (o':=.ins C dx fvs') ha rfl hf;have rep':Rep F (upd H a (.ins C dx fvs')) (.ref a) (.ins false C fds') (a::B'):=.ins qc2 hk' (r'.keep k λ b hb w=>by subst w;have:=qb2.mp hb;lia);obtain⟨A',q1,q2⟩:=h4 _ _ k (λ b hb w=>by subst w;have:=qb2.mp hb;lia) rep';have q2':∀ b,A'.count b=(if b=a then 1 else 0)+B'.count b+C0.count b:=λ b=>by
   rw[q2,zAl];by_cases hb:b=a
   . subst hb;simp;lia
   simp[hb,Ne.symm hb]
 have hcnt:∀ b,A'.count b<=(T++A).count b:=λ b=>by rw[zA0,q2',h3'];have:=hc b;lia
 have ex:∀ b,F b->∃ o,upd H a (.ins C dx fvs') b=some o:=λ b f=>by
   obtain⟨x,e⟩:=ok.ex b f;exact⟨x,by rw[qc9 (show b≠a from λ w=>hf (w ▸ f))];exact e⟩
 refine⟨A',⟨q1,⟨λ b=>zAp (hcnt b) (ok.sep b),λ b f=>by have:=ok.fro b f;have:=hcnt b;lia,ex⟩,S.len,S.ag⟩,λ b u e z=>?_,λ b u e z=>by have:=hcnt b;lia,λ _ f=>f,λ _ _ _ _ f=>f⟩;rw[qc9 λ w=>?_]
 . exact e
 subst w;have:=h3' b;rw[if_pos rfl] at this;rw[zA0] at z;lia
def I8(C:Addr)(f:Str)(te:VT)(pf:PF):VTS:=λ e ds=>te ds (λ d ds1=>orF (pf ds1) λ q=>orF ((A7 ds1 q.1 q.2).bind (D.ownI C)) λ fs=>fs.length < 100/\e.nx (Bd ds1 q.1 q.2 (.ins false C (Fa f d fs)))) e.xe
theorem Gn{C:Addr}{f:Str}{K:PySem.W.Frag}{pos':Pos}(hK:X.K=K)(ho:VP c X o pf)(hv:VE c X e te)(cl:Cls K C)(na:qg4 K C f)(hs:swapsWith e (some (.Attribute o f pos')) pos.line X.env=pure false:=by rfl):VS c X (.Assign [.Attribute o f pos'] e pos) (I8 C f te pf):=by
 subst hK;refine⟨PS.mono (qaS5 ho.h hv.h hs) λ E σ H ⟨F,ds,A,en,S,l,q⟩=>?_,λ en en' ds hl=>hv.m _ _ _ _ _ (λ d ds1=>qa4 λ _=>qa4 λ _=>And.imp_right (hl.nx _)) hl.xe⟩;refine⟨F,ds,A,en.xe,S,l.xe,hv.m _ _ _ _ _ (λ d ds1 q v H1 F1 T A1 r1 S1 o1 s1=>?_) (λ _ _ z=>z) q⟩;obtain⟨⟨i,p⟩,e1,q⟩:=qa7.mp q;obtain⟨fs,e2,hl,q⟩:=qa7.mp q;obtain⟨dl,e3,e4⟩:=zA1.mp e2;cases qaL5 e4;refine⟨F1,ds1,A1,i,p,_,S1,e1,e3,D.noConfusion,λ u w H2 hu hw s2=>?_⟩;have S2:=S1.same s2;obtain⟨a,dx,fvs,Ael,rfl,ha,hk,rs,wr⟩:=qaL4 S2 e3 hu hw;have hlen:fvs.length=fs.length:=by have:=congrArg List.length hk;simpa using this
 refine⟨a,C,dx,fvs,rfl,ha,cl,na,by lia,?_⟩;obtain⟨m1,B',m2,m3⟩:=qU5 (f:=f) hk rs (r1.same s2);obtain⟨A',S3,s3⟩:=wr _ _ B' T (o1.same s2) m1 m2 m3;exact l.nx _ σ _ F1 A' q S3 (s1.trans ((Stp.same s2).trans s3))
def gAllV(pf:PF):VTG:=λ d ds Q=>orF (pf ds) λ q=>orF ((A7 ds q.1 q.2).bind D.own) λ xs=>orF (match d with | .lst _ ys=>some ys | _=>none) λ ys=>D.imms ys=true/\xs.length+ys.length<=big/\Q (Bd ds q.1 q.2 (.lst false ys))
theorem gallV(ho:VP c X o pf):VG c X (.Subscript o (.Slice none none none p2) pos) (gAllV pf):=by
 refine⟨PG.mono (qaS9 ho.h) λ v σ H Q ⟨F,ds,A,T,d,r,S,ok,q⟩=>?_,λ d ds Q Q' hQ=>qa4 λ _=>qa4 λ _=>qa4 λ _=>And.imp_right (And.imp_right (hQ _))⟩;obtain⟨⟨i,p⟩,e1,q⟩:=qa7.mp q;obtain⟨xs,e2,q⟩:=qa7.mp q;obtain⟨dl,e3,e4⟩:=zA1.mp e2;cases Hr e4;obtain⟨ys,e5,hm,hl,qf⟩:=qa7.mp q;cases d with
 | lst z ys' =>
   cases e5;refine⟨F,ds,A,i,p,_,S,e1,e3,D.noConfusion,λ u w H1 hu hw s1=>?_⟩;have S1:=S.same s1;obtain⟨a,vs,Ael,rfl,ha,rs,wr⟩:=qk5 S1 e3 hu hw;obtain⟨B,C0,rp,h3,_⟩:=S1.place e3 D.noConfusion hu hw;have r1:=r.same s1;have key:∃ b ws Bw,v=.ref b/\H1 b=some (.lst ws)/\Reps F H1 ws ys Bw/\a≠b:=by
     obtain⟨a',vs',Ael',ea,ha',rs',hB⟩:=qw7 rp;cases ea;have ca:A.count a≠0:=by rw[h3,hB];simp
     cases r1 with
     | lst hb rb =>
       refine⟨_,_,_,rfl,hb,rb,λ w=>?_⟩;subst w
       have:=ok.sep a
       rw[zA0,zAl] at this;simp at this;lia
     | lstZ hb f rb =>
       refine⟨_,_,_,rfl,hb,rb,λ w=>?_⟩;subst w
       have:=ok.fro a f
       rw[zA0] at this;lia
   obtain⟨b,ws,Bw,rfl,hb,rb,ne⟩:=key;obtain⟨⟨A',S3,o3,s3⟩,_⟩:=wr ws ys [] [] T (ok.same s1) (rb.imms0 hm) λ b=>by simp
   exact⟨a,b,vs,ws,rfl,rfl,ne,ha,hb,by rw[rs.len,rb.len];exact zAp hl qg3,qf σ _ F A' S3 ((Stp.same s1).trans s3)⟩
 | _=>cases e5
def D5(x:V):List V->Option Nat
 | []=>none
 | y::r=>if eqV y x=true then some 0 else (D5 x r).map (· + 1)
theorem qaj3{x:V}:∀{xs:List V}{j:Nat},D5 x xs=some j->∃ z,xs[j]? = some z/\eqV z x=true/\∀ m z',m < j->xs[m]? = some z'->eqV z' x=false
 | [],j,h=>by cases h
 | y::r,j,h=>by
   unfold D5 at h;by_cases hy:eqV y x=true
   . rw[if_pos hy] at h;cases h
     exact⟨y,rfl,hy,λ m z' hm=>by lia⟩
   rw[if_neg hy] at h;obtain⟨k,hk,rfl⟩:=zAa.mp h;obtain⟨z,h1,h2,h3⟩:=qaj3 hk;refine⟨z,by simpa using h1,h2,λ m z' hm hz=>?_⟩;cases m with
   | zero =>
     have:y=z':=by simpa using hz
     subst this;simpa using hy
   | succ m=>exact h3 m z' (by lia) (by simpa using hz)
def gIdx(x y:D):Option D:=match x with
 | .lst _ ys=>y.flat.bind λ v=>(flats ys).bind λ ws=>(D5 v ws).map λ j=>.int (j:Nat)
 | _=>none
def rL1(r:V->List V->Hp->VK->Prop):R2:=λ x y H Q=>r x [y] H Q
theorem qaT5:Bb true (rL1 qaJ6) gIdx:=by
 intro F H v w x y B d Q r h q;cases r with | @cons _ _ A _ _ _ r1 t=>cases t with | @cons _ _ A2 _ _ _ r2 _ =>
 cases x with
 | lst z ys =>
   obtain⟨v',h1,h⟩:=zA1.mp h;obtain⟨ws,h2,h⟩:=zA1.mp h;obtain⟨j,h3,rfl⟩:=zAa.mp h;obtain⟨rfl,f⟩:=r2.flat h1;obtain⟨a,vs,A3,rfl,hs,rs,_⟩:=r1.lst_inv;obtain⟨rfl,g⟩:=rs.flats h2;obtain⟨z,q1,q2,q3⟩:=qaj3 h3;exact⟨a,vs,w,j,z,rfl,rfl,hs,f,g,q1,q2,q3,q _ H [] (.int _) (λ _ _ z=>z) New.nil⟩
 | _=>cases h
theorem vbm{r:V->List V->Hp->VK->Prop}{g:D->D->Option D}{name:Str}{id:String}(hg:Bb true (rL1 r) g)(pa:PlainAttrs "list")(slot:Slot "list" name id)(hty:typeOf (.builtin id)=pure (.type "method_descriptor"))(hm:MtM X id r)(ho:VV c X o oa fa)(hb:VV c X b ob fb)(hl:∀ x y d,g x y=some d->∃ z ys,x=.lst z ys)(hbase:attributeBase o name X.env (eval o X.env)=eval o X.env:=by rfl)(hfew:((backTo cpos (starEach [b] X.env)).all (λ x=>!x.1)&&(backToKw cpos (keywordEach [] X.env)).all (λ x=>x.1.isSome)
     && decide (([b]:List Expr).length+([]:List Keyword).length+(if ([]:List Keyword).isEmpty then 0 else 1) < 30))=true:=by rfl)(hline:(apos.endLine == cpos.line)=true:=by rfl)(hs:starEach [b] X.env=(false,eval b X.env)::starEach [] X.env:=by rfl)(hplain:(backTo cpos (starEach [] X.env)).any (·.1)=false:=by rfl) :
   VV c X (.Call (.Attribute o name apos) [b] [] cpos) true (f2 g fa fb):=by
 refine⟨PE.mono (G3 pa slot hty hm ho.h (qc4 hb.h ql6 hs) hbase hfew hline hs hplain) λ σ H Q ⟨F,ds,A,d,S,e,q⟩=>?_⟩;obtain⟨x,y,ea,eb,eg⟩:=qaF5.mp e;obtain⟨z,ys,rfl⟩:=hl x y d eg;refine⟨F,ds,A,_,S,ea,λ v H1 B1 r1 s1 n1=>?_⟩;obtain⟨a,vs,A3,rfl,hs1,rs,_⟩:=r1.lst_inv;refine⟨.inl ⟨rfl,vs,.inl (.inl hs1)⟩,F,ds,A,y,S.same s1,eb,λ w H2 B2 r2 s2 n2=>?_⟩;exact hg F H2 _ w _ y _ d Q (Gf (r1.same s2) r2) eg λ u H3 B3 r3 s3 h3=>q u H3 B3 r3 ((s1.trans s2).trans s3) λ _=>⟨h3.one,λ b o e=>h3.new b o (s2 b o (s1 b o e))⟩
theorem qaO6:∀ x y d,gIdx x y=some d->∃ z ys,x=.lst z ys:=λ x y d h=>by cases x with | lst z ys=>exact⟨z,ys,rfl⟩ | _=>cases h
end
def Dn(g:VTG)(t:VTS)(e:VEnds):List D->Ds->Prop
 | [],ds=>e.nx ds
 | x::xs,ds=>g x ds λ ds1=>t { e with nx:=Dn g t e xs,ct:=Dn g t e xs,bk:=e.nx } ds1
def whN(qc:VTT)(t:VTS)(e:VEnds):Nat->Ds->Prop
 | 0,_=>False
 | n+1,ds=>qc ds (λ b ds1=>if b=true then t { e with nx:=whN qc t e n,ct:=whN qc t e n,bk:=e.nx } ds1 else e.nx ds1) e.xe
def qaJ1(qc:VTT)(t:VTS):VTS:=λ e ds=>∃ n,whN qc t e n ds
section
variable{c:Vc}{X:Cx}{a b e tg:Expr}{body:List Stmt}{g:VTG}{t:VTS}{te:VT}{qc:VTT}{pos:Pos}
theorem qr1(hg:VG c X tg g)(ht:VSs c X body t){en en':VEnds}(hl:en.Le en'):∀(xs:List D) ds,Dn g t en xs ds->Dn g t en' xs ds
 | [],ds=>hl.nx ds
 | x::xs,ds=>hg.m _ _ _ _ λ ds1=>ht.m _ _ _ ⟨qr1 hg ht hl xs,hl.rt,hl.nx,qr1 hg ht hl xs,hl.xe⟩
theorem qN7{cd:Expr}(hc:VTe c X cd qc)(ht:VSs c X body t){en en':VEnds}(hl:en.Le en'):∀(n:Nat) ds,whN qc t en n ds->whN qc t en' n ds
 | 0,ds=>id
 | n+1,ds=>hc.m _ _ _ _ _ (λ b ds1=>qM0 (ht.m _ _ _ ⟨qN7 hc ht hl n,hl.rt,hl.nx,qN7 hc ht hl n,hl.xe⟩) (hl.nx _)) hl.xe
theorem qU0(hp:PassesOwn (model X.prog X.w) X.A X.env X.xe)(hc:VTe c X cd qc)(ht:VSs c X body t):VS c X (.While cd body [] pos) (qaJ1 qc t):=by
 refine⟨PS.mono (qaB4 hp hc.h ht.h) λ E σ H ⟨F,ds,A,en,S,l,n,q⟩=>?_,λ en en' ds hl ⟨n,q⟩=>⟨n,qN7 hc ht hl n ds q⟩⟩;refine⟨λ m σ H=>∃ F ds A,Sta c F H σ ds A/\Lk c E F H A en/\whN qc t en m ds,⟨n,F,ds,A,S,l,q⟩,?_⟩;rintro m σ H ⟨F,ds,A,S,l,q⟩;cases m with
 | zero=>exact q.elim
 | succ m =>
   refine⟨F,ds,A,en.xe,S,l.xe,hc.m _ _ _ _ _ (λ b ds1 q H1 F1 A1 S1 s1=>?_) (λ _ _ z=>z) q⟩;cases b with
   | false=>rw[if_neg (by decide)] at q ⊢;exact l.nx _ _ _ _ _ q S1 s1
   | true =>
     rw[if_pos rfl] at q ⊢;have l1:=l.step s1;refine⟨λ σ' H'=>∃ F' ds' A',Sta c F' H' σ' ds' A'/\Lk c E F' H' A' en/\whN qc t en m ds',λ σ' H' h=>⟨m,by lia,h⟩,F1,ds1,A1,{ en with nx:=whN qc t en m,ct:=whN qc t en m,bk:=en.nx },S1,⟨?_,l1.rt,l1.nx,?_,l1.xe⟩,q⟩
     . exact λ ds' σ' H' F' A' q S' s'=>⟨F',ds',A',S',l1.step s',q⟩
     exact λ ds' σ' H' F' A' q S' s'=>⟨F',ds',A',S',l1.step s',q⟩
theorem qac2{E:D7}{en:VEnds}{F:Addr->Prop}{H:Hp}{σ:St}{ds:Ds}{A:List Addr}{x:V}{y:D}{N:St->Hp->Prop}{nxt:Ds->Prop}(hg:VG c X tg g)(S:Sta c F H σ ds A)(l:Lk c E F H A en)(r:Rep F H x y [])(hN:∀ ds' σ' H' F' A',nxt ds'->Sta c F' H' σ' ds' A'->Stp F H A F' H' A'->N σ' H')(q:g y ds λ ds1=>t { en with nx:=nxt,ct:=nxt,bk:=en.nx } ds1) :
   Fq c g x σ H λ σ2 H2=>E8 c t { E with nx:=N,ct:=N,bk:=E.nx } σ2 H2:=by
 refine⟨F,ds,A,[],y,r,S,S.ok,hg.m _ _ _ _ (λ ds1 q σ1 H1 F1 A1 S1 s1=>?_) q⟩;have l1:=l.step s1;exact⟨F1,ds1,A1,{ en with nx:=nxt,ct:=nxt,bk:=en.nx },S1,⟨λ ds' σ' H' F' A' q S' s'=>hN ds' σ' H' F' A' q S' (Stp.trans s1 s'),l1.rt,l1.nx,λ ds' σ' H' F' A' q S' s'=>hN ds' σ' H' F' A' q S' (Stp.trans s1 s'),l1.xe⟩,q⟩
def D.lstOf:D->Option Ds
 | .lst _ ys=>some ys
 | _=>none
theorem qu2{d:D}{ys:Ds}(h:d.lstOf=some ys):∃ z,d=.lst z ys:=by
 cases d with
 | lst z xs=>cases h;exact⟨z,rfl⟩
 | _=>cases h
theorem qu5:∀{ys:List D}{i:Nat}{y:D},D.imms ys=true->ys[i]? = some y->y.imm=true
 | [],i,y,_,h=>by simp at h
 | d::r,0,y,hm,h=>by
   have:d=y:=by simpa using h
   subst this;exact(zAg.mp hm).1
 | d::r,i+1,y,hm,h=>qu5 (zAg.mp hm).2 (by simpa using h)
theorem qm9{xs:List α}{x:α}(h:xs[i]? = some x):xs.drop i=x::xs.drop (i+1):=by
 obtain⟨hi,rfl⟩:=zA4.mp h;exact List.drop_eq_getElem_cons hi
def sForL(te:VT)(g:VTG)(t:VTS):VTS:=λ e ds=>te ds (λ d ds1=>orF d.lstOf λ ys=>D.imms ys=true/\Dn g t e ys ds1) e.xe
theorem I9(hp:PassesOwn (model X.prog X.w) X.A X.env X.xe)(hi:VE c X e te)(hg:VG c X tg g)(ht:VSs c X body t)(hc:X.calm=true:=by rfl)(hfs:∀ v,foldedSetIterable e X.env v=pure v:=by intro _;rfl):VS c X (.For tg e body [] pos) (sForL te g t):=by
 refine⟨PS.mono (qaB6 hp hc (qE1 hi.h) hg.h ht.h hfs) λ E σ H ⟨F,ds,A,en,S,l,q⟩=>?_,λ en en' ds hl=>hi.m _ _ _ _ _ (λ d ds1=>qa4 λ ys=>And.imp_right (qr1 hg ht hl ys ds1)) hl.xe⟩;refine⟨F,ds,A,en.xe,S,l.xe,hi.m _ _ _ _ _ (λ d ds1 q v H1 F1 T A1 r1 S1 o1 s1=>?_) (λ _ _ z=>z) q⟩;obtain⟨ys,ey,hm,qf⟩:=qa7.mp q;obtain⟨z,rfl⟩:=qu2 ey;obtain⟨a,vs,Ael,rfl,ha,rs,_⟩:=r1.lst_inv;have s1':Stp F H A F1 H1 A1:=s1.count λ b=>by rw[zA0];lia
 refine⟨a,rfl,⟨vs,.inl (.inl ha)⟩,qak1 (K:=X.K) (a:=a) (xs:=vs) (λ i σ H=>∃ F ds A,Sta c F H σ ds A/\Lk c E F H A en/\Rep F H (.ref a) (.lst z ys) T/\H a=some (.lst vs)/\Ok F H (T++A)/\Dn g t en (ys.drop i) ds) ⟨F1,ds1,A1,S1,l.step s1',r1,ha,o1,qf⟩ ?_ ?_ ?_⟩
 . rintro i σ H _ ⟨F,ds,A,S,l,r,ha,o,q⟩
   exact .inl (.inl ha)
 . rintro i x σ H hx ⟨F,ds,A,S,l,r,ha,o,q⟩
   obtain⟨a',vs',Ael',ea,ha',rs',_⟩:=r.lst_inv;cases ea;rw[ha] at ha';cases ha';obtain⟨y,B,hy,ry⟩:=rs'.getV hx
   have:=ry.imm (qu5 hm hy)
   subst this;rw[qm9 hy] at q;refine qac2 hg S l ry (λ ds' σ' H' F' A' q' S' s'=>?_) q;have kp:=s'.kp S.ok S.loc.cells;have hT:∀ b∈T,¬ (A.count b≠0):=λ b hb hc=>by
     have:=o.sep b
     rw[zA0] at this
     have:=qb2.mp hb
     lia
   have r':=r.keep kp hT;obtain⟨o',_⟩:=s'.frame o r.cells S'.ok;have ha2:H' a=some (.lst vs):=by
     cases r with
     | lst h _=>exact kp.fr _ _ ha (hT _ zA7)
     | lstZ h f _=>exact kp.fr _ _ ha λ w=>kp.wf _ w f
   exact⟨F',ds',A',S',l.step s',r',ha2,o',q'⟩
 rintro σ H ⟨F,ds,A,S,l,r,ha,o,q⟩;rw[rs.len,List.drop_length] at q;exact l.nx _ _ _ _ _ q S Stp.refl
def Bm(lo:Int)(n:Nat):List D:=(List.range n).map λ(i:Nat)=>.int (lo+(i:Int))
theorem qaf0(h:i < n):(Bm lo n)[i]? = some (.int (lo+(i:Int))):=by
 unfold Bm;rw[zAv,List.getElem?_range h];rfl
theorem qav2(lo:Int)(n:Nat):(Bm lo n).length=n:=by simp[Bm]
def Fn(i:Int):Bool:=decide (-(2 ^ 62)<=i)&&decide (i < 2 ^ 62)
theorem qag8{i:Int}(h:Fn i=true):-(2 ^ 62)<=i/\i < 2 ^ 62:=by
 have:=zAg.mp h
 exact⟨zAb this.1,zAb this.2⟩
theorem qaP3{E:D7}{en:VEnds}{F:Addr->Prop}{H:Hp}{σ:St}{ds:Ds}{A:List Addr}(hg:VG c X tg g)(S:Sta c F H σ ds A)(l:Lk c E F H A en)(q:Dn g t en (Bm lo n) ds) :
   ∃ W:Nat->Nat->St->Hp->Prop,(∃ m,W 0 m σ H)/\∀ i m σ H,W i m σ H ->
     ((Itr lo n).stop i H/\E.nx σ H)∨((Itr lo n).go i H/\∃ N:St->Hp->Prop,(∀ σ' H',N σ' H'->∃ m',m' < m/\W (i+1) m' σ' H')/\∀ x H',(Itr lo n).yld i H x H'->Fq c g x σ H' λ σ2 H2=>E8 c t { E with nx:=N,ct:=N,bk:=E.nx } σ2 H2):=by
 refine qar6 (λ i σ H=>∃ F ds A,Sta c F H σ ds A/\Lk c E F H A en/\Dn g t en ((Bm lo n).drop i) ds) ⟨F,ds,A,S,l,q⟩ ?_ ?_
 . rintro i σ H hi ⟨F,ds,A,S,l,q⟩
   rw[qm9 (qaf0 hi)] at q;exact qac2 hg S l (.int _) (λ ds' σ' H' F' A' q' S' s'=>⟨F',ds',A',S',l.step s',q'⟩) q
 rintro σ H ⟨F,ds,A,S,l,q⟩;rw[List.drop_of_length_le (by rw[qav2];exact zA3 _)] at q;exact l.nx _ _ _ _ _ q S Stp.refl
def Hs:Ds->Option Int
 | [.int j]=>some j
 | _=>none
theorem qaw6{xs:Ds}{j:Int}(h:Hs xs=some j):xs=[.int j]:=by
 unfold Hs at h;split at h
 . cases h;rfl
 cases h
def Ja(tr:VTA)(g:VTG)(t:VTS):VTS:=λ e ds=>tr ds (λ xs ds1=>orF (Hs xs) λ j=>Fn j=true/\Dn g t e (Bm 0 j.toNat) ds1) e.xe
theorem qK3{tr:VTA}{p cpos:Pos}(hp:PassesOwn (model X.prog X.w) X.A X.env X.xe)(hm:X.mg "range" = none)(ha:VOs c X [a] tr)(hg:VG c X tg g)(ht:VSs c X body t)(hgl:Gl X "range" := by rfl)(hs:starEach [a] X.env=[(false,eval a X.env)]:=by rfl)(hc:X.calm=true:=by rfl) :
   VS c X (.For tg (.Call (.Name "range" p) [a] [] cpos) body [] pos) (Ja tr g t):=by
 refine⟨PS.mono (qaB6 hp hc (qU6 hgl hm ha.h hs) hg.h ht.h) λ E σ H ⟨F,ds,A,en,S,l,q⟩=>?_,λ en en' ds hl=>ha.m _ _ _ _ _ (λ xs ds1=>qa4 λ j=>And.imp_right (qr1 hg ht hl _ ds1)) hl.xe⟩;refine⟨F,ds,A,en.xe,S,l.xe,ha.m _ _ _ _ _ (λ xs ds1 q vs H1 F1 T A1 r1 S1 s1=>?_) (λ _ _ z=>z) q⟩;obtain⟨j,ej,hm,qf⟩:=qa7.mp q;cases qaw6 ej;obtain⟨v,rfl,rv⟩:=r1.one_inv;cases rv
 have:=qag8 hm
 exact⟨j,rfl,this.1,this.2,qaP3 hg S1 (l.step s1) qf⟩
def tFzV(te:VT):VT:=λ ds Q xe=>te ds (λ d ds1=>Q d.fz ds1) xe
theorem efzV(h:VE c X e te):VE c X e (tFzV te):=by
 refine⟨PE.mono h.h λ σ H Q ⟨F,ds,A,xe,S,x,q⟩=>⟨F,ds,A,xe,S,x,h.m _ _ _ _ _ (λ d ds1 q v H1 F1 T A1 r1 S1 o1 s1=>?_) (λ _ _ z=>z) q⟩,λ ds Q Q' xe xe' hQ hx=>h.m _ _ _ _ _ (λ d ds1=>hQ _ _) hx⟩;have rz:=r1.fz (F':=λ b=>F1 b∨b∈T) (λ b f=>.inl f) λ b hb=>.inr hb
 obtain⟨o',s'⟩:=share (A:=T++A1) (B:=T) (C:=A1) o1 (λ b=>by rw[zA0]) r1.cells (A':=A1) (λ b=>rfl);have L:=S1.loc.keep (Kp.more (H:=H1) λ b f=>Or.inl (b:=b∈T) f) λ _ _ z=>z
 exact q v H1 _ [] A1 rz ⟨L,o',S1.len,S1.ag⟩ o' (s1.trans s')
end
def bk1(i:Nat)(p:List Nat)(w:V)(d0:D)(ds:Ds):Option Ds:=Am [.pl i p w] [d0] ds
def Hc(i:Nat)(p:List Nat)(w:V)(d0:D)(e:VEnds):VEnds where
 nx ds:=orF (bk1 i p w d0 ds) e.nx
 rt d ds:=orF (bk1 i p w d0 ds) (e.rt d)
 bk ds:=orF (bk1 i p w d0 ds) e.bk
 ct ds:=orF (bk1 i p w d0 ds) e.ct
 xe x ds:=orF (bk1 i p w d0 ds) (e.xe x)
section
variable{c:Vc}{X:Cx}{a b e tg o:Expr}{body:List Stmt}{g:VTG}{t:VTS}{pos:Pos}{pf:PF}{F F1:Addr->Prop}{H H1:Hp}{σ:St}{ds ds1:Ds}{A A1 B:List Addr}{E:D7}{en:VEnds}
theorem qq8{p:List Nat}{d0:D}{F':Addr->Prop}{H':Hp}{ds' ds2:Ds}{A':List Addr}(o1:Ok F1 H1 (B++A1))(S1:Sta c F1 H1 σ ds1 A1)(r:Rep F1 H1 w d0 B)(S':Sta c F' H' σ' ds' A')(s':Stp F1 H1 A1 F' H' A')(h:bk1 i p w d0 ds'=some ds2) :
   ∃ A2,Sta c F' H' σ' ds2 A2/\Ok F' H' (B++A')/\Stp F1 H1 (B++A1) F' H' (B++A')/\∀ b,A2.count b<=B.count b+A'.count b:=by
 obtain⟨o2,s2⟩:=s'.frame o1 r.cells S'.ok;have r':Rep F' H' w d0 B:=r.keep (s'.kp S1.ok S1.loc.cells) λ b hb hc=>by
   have:=o1.sep b
   rw[zA0] at this
   have:=qb2.mp hb
   lia
 obtain⟨A2,q1,q2⟩:=qv9 (pls:=[.pl i p w]) (vs:=[w]) (more:=[]) (ys:=[d0]) (.so .nil) (.cons r' .nil) S'.loc h;have hc:∀ b,A2.count b<=B.count b+A'.count b:=λ b=>by have:=q2 b;simp only[zAf] at this;exact this
 exact⟨A2,⟨q1,o2.count λ b=>by rw[zA0];exact hc b,S'.len,S'.ag⟩,o2,s2,hc⟩
theorem Lk.lend{p:List Nat}{d0:D}(l:Lk c E F H A en)(s1:Stp F H A F1 H1 (B++A1))(o1:Ok F1 H1 (B++A1))(S1:Sta c F1 H1 σ ds1 A1)(r:Rep F1 H1 w d0 B):Lk c E F1 H1 A1 (Hc i p w d0 en) where
 nx ds' σ' H' F' A' q S' s':=by
   obtain⟨ds2,eb,q⟩:=qa7.mp q;obtain⟨A2,S2,o2,s2,hc⟩:=qq8 o1 S1 r S' s' eb;exact l.nx _ _ _ _ A2 q S2 ((s1.trans s2).count λ b=>by rw[zA0];exact hc b)
 bk ds' σ' H' F' A' q S' s':=by
   obtain⟨ds2,eb,q⟩:=qa7.mp q;obtain⟨A2,S2,o2,s2,hc⟩:=qq8 o1 S1 r S' s' eb;exact l.bk _ _ _ _ A2 q S2 ((s1.trans s2).count λ b=>by rw[zA0];exact hc b)
 ct ds' σ' H' F' A' q S' s':=by
   obtain⟨ds2,eb,q⟩:=qa7.mp q;obtain⟨A2,S2,o2,s2,hc⟩:=qq8 o1 S1 r S' s' eb;exact l.ct _ _ _ _ A2 q S2 ((s1.trans s2).count λ b=>by rw[zA0];exact hc b)
 xe x ds' σ' e H' F' A' q rx S' s':=by
   obtain⟨ds2,eb,q⟩:=qa7.mp q;obtain⟨A2,S2,o2,s2,hc⟩:=qq8 o1 S1 r S' s' eb;exact l.xe x ds2 σ' e H' F' A2 q rx S2 ((s1.trans s2).count λ b=>by rw[zA0];exact hc b)
 rt d ds' v σ' H' F' T A' q rv S' oT s':=by
   obtain⟨ds2,eb,q⟩:=qa7.mp q;have s'':Stp F1 H1 A1 F' H' A':=s'.count λ b=>by rw[zA0];lia
   obtain⟨A2,S2,o2,s2,hc⟩:=qq8 o1 S1 r S' s'' eb;obtain⟨o3,s3⟩:=s'.frame o1 r.cells oT;have hcc:∀ b,(T++A2).count b<=(B++(T++A')).count b:=λ b=>by simp only[zA0];have:=hc b;lia
   exact l.rt d ds2 v σ' H' F' T A2 q rv S2 (o3.count hcc) ((s1.trans s3).count hcc)
theorem qaN3{p:List Nat}{d0:D}{en en':VEnds}(hl:en.Le en'):(Hc i p w d0 en).Le (Hc i p w d0 en') :=
 ⟨λ ds=>qa4 hl.nx,λ d ds=>qa4 (hl.rt d),λ ds=>qa4 hl.bk,λ ds=>qa4 hl.ct,λ x ds=>qa4 (hl.xe x)⟩
structure Held(F:Addr->Prop)(H:Hp)(a:Addr)(vs:List V)(z:Bool)(ys:Ds)(T A:List Addr):Prop where
 r:Rep F H (.ref a) (.lst z ys) T
 h:H a=some (.lst vs)
 o:Ok F H (T++A)
theorem Held.step{ys:Ds}{T:List Addr}{a:Addr}{F':Addr->Prop}{H':Hp}{ds':Ds}{A':List Addr}(h:Held F H a vs z ys T A)(S:Sta c F H σ ds A)(S':Sta c F' H' σ' ds' A')(s':Stp F H A F' H' A'):Held F' H' a vs z ys T A':=by
 obtain⟨r,ha,o⟩:=h;have kp:=s'.kp S.ok S.loc.cells;have hT:∀ b∈T,¬ (A.count b≠0):=λ b hb hc=>by
   have:=o.sep b
   rw[zA0] at this
   have:=qb2.mp hb
   lia
 refine⟨r.keep kp hT,?_,(s'.frame o r.cells S'.ok).1⟩;cases r with
 | lst h _=>exact kp.fr _ _ ha (hT _ zA7)
 | lstZ h f _=>exact kp.fr _ _ ha λ w=>kp.wf _ w f
theorem Held.get{ys:Ds}{T:List Addr}{a:Addr}{x:V}(h:Held F H a vs z ys T A)(hm:D.imms ys=true)(hx:vs[i]? = some x):∃ y,ys[i]? = some y/\Rep F H x y []:=by
 obtain⟨a',vs',Ael',ea,ha',rs',_⟩:=h.r.lst_inv;cases ea
 have:=h.h
 rw[ha'] at this;cases this;obtain⟨y,B,hy,ry⟩:=rs'.getV hx
 have:=ry.imm (qu5 hm hy)
 subst this;exact⟨y,hy,ry⟩
theorem Held.len{ys:Ds}{T:List Addr}{a:Addr}(h:Held F H a vs z ys T A):vs.length=ys.length:=by
 obtain⟨a',vs',Ael',ea,ha',rs',_⟩:=h.r.lst_inv;cases ea
 have:=h.h
 rw[ha'] at this;cases this;exact rs'.len
theorem qR8{K:PySem.W.Frag}{ys:Ds}{T:List Addr}{a:Addr}(hg:VG c X tg g)(S:Sta c F H σ ds A)(l:Lk c E F H A en)(hd:Held F H a vs z ys T A)(hm:D.imms ys=true)(q:Dn g t en ys ds) :
   ∃ W:Nat->Nat->St->Hp->Prop,(∃ m,W 0 m σ H)/\∀ i m σ H,W i m σ H ->
     ((Itl K a).stop i H/\E.nx σ H)∨((Itl K a).go i H/\∃ N:St->Hp->Prop,(∀ σ' H',N σ' H'->∃ m',m' < m/\W (i+1) m' σ' H')/\∀ x H',(Itl K a).yld i H x H'->Fq c g x σ H' λ σ2 H2=>E8 c t { E with nx:=N,ct:=N,bk:=E.nx } σ2 H2):=by
 refine qak1 (xs:=vs) (λ i σ H=>∃ F ds A,Sta c F H σ ds A/\Lk c E F H A en/\Held F H a vs z ys T A/\Dn g t en (ys.drop i) ds) ⟨F,ds,A,S,l,hd,q⟩ ?_ ?_ ?_
 . rintro i σ H _ ⟨F,ds,A,S,l,hd,q⟩
   exact .inl (.inl hd.h)
 . rintro i x σ H hx ⟨F,ds,A,S,l,hd,q⟩
   obtain⟨y,hy,ry⟩:=hd.get hm hx;rw[qm9 hy] at q;exact qac2 hg S l ry (λ ds' σ' H' F' A' q' S' s'=>⟨F',ds',A',S',l.step s',hd.step S S' s',q'⟩) q
 rintro σ H ⟨F,ds,A,S,l,hd,q⟩;rw[hd.len,List.drop_length] at q;exact l.nx _ _ _ _ _ q S Stp.refl
def sForP(pf:PF)(g:VTG)(t:VTS):VTS:=λ e ds=>orF (pf ds) λ q=>orF (A7 ds q.1 q.2) λ d=>orF d.lstOf λ ys=>D.imms ys=true/\∀ w,Dn g t (Hc q.1 q.2 w d e) ys (Bd ds q.1 q.2 (.hole w))
theorem sforP(hp:PassesOwn (model X.prog X.w) X.A X.env X.xe)(hi:VP c X o pf)(hg:VG c X tg g)(ht:VSs c X body t)(hc:X.calm=true:=by rfl)(hfs:∀ v,foldedSetIterable o X.env v=pure v:=by intro _;rfl):VS c X (.For tg o body [] pos) (sForP pf g t):=by
 refine⟨PS.mono (qaB6 hp hc (qE1 hi.h) hg.h ht.h hfs) λ E σ H ⟨F,ds,A,en,S,l,q⟩=>?_,λ en en' ds hl=>qa4 λ q=>qa4 λ d=>qa4 λ ys=>And.imp_right λ h w=>qr1 hg ht (qaN3 hl) _ _ (h w)⟩;obtain⟨⟨i,p⟩,e1,q⟩:=qa7.mp q;obtain⟨d,e2,q⟩:=qa7.mp q;obtain⟨ys,ey,hm,q⟩:=qa7.mp q;obtain⟨z,rfl⟩:=qu2 ey;refine⟨F,ds,A,i,p,_,S,e1,e2,D.noConfusion,λ u w H1 hu hw s0=>?_⟩;obtain⟨B,C,r,h3,h4⟩:=(S.same s0).place e2 D.noConfusion hu hw;obtain⟨A1,q1,q2⟩:=h4 (.hole w) [] (Kp.same (F:=F) λ _ _ z=>z) (λ _ _ z=>z) (.hole w);have o1:Ok F H1 (B++A1):=(S.same s0).ok.count λ b=>by rw[zA0,q2,h3];simp
 have s1:Stp F H A F H1 (B++A1):=⟨λ b o e _=>s0 b o e,λ b o e z=>by rw[zA0,q2];have:=h3 b;simp;lia,λ _ f=>f,λ _ _ _ _ f=>f⟩
 have S1:Sta c F H1 σ (Bd ds i p (.hole w)) A1:=⟨q1,o1.right,S.len,S.ag⟩
 obtain⟨a,vs,Ael,rfl,ha,rs,_⟩:=r.lst_inv;exact⟨a,rfl,⟨vs,.inl (.inl ha)⟩,qR8 hg S1 (l.lend s1 o1 S1 r) ⟨r,ha,o1⟩ hm (q _)⟩
def enD(ys:Ds):List D:=ys.zipIdx.map λ p=>.tup [.int (p.2:Int),p.1]
theorem qaX2{ys:Ds}{y:D}(h:ys[i]? = some y):(enD ys)[i]? = some (.tup [.int (i:Int),y]):=by
 unfold enD;rw[zAv,List.getElem?_zipIdx,h];simp
theorem qaG1(ys:Ds):(enD ys).length=ys.length:=by simp[enD]
end
def fin(W:Nat->Bool):Nat->Ds->Ds->Ds
 | k,d::r,d'::r'=>(if W k=true then d' else d)::fin W (k+1) r r'
 | _,_,_=>[]
def Gy(W:Nat->Bool):Nat->Ds->Bool
 | _,[]=>true
 | k,d::r=>(W k||d.imm)&&Gy W (k+1) r
def Ht(W:Nat->Bool)(ds:Ds)(Q:DK)(xe:XKd):VEnds where
 nx ds':=Q .non (fin W 0 ds ds')
 rt d ds':=Q d (fin W 0 ds ds')
 bk _:=False
 ct _:=False
 xe x ds':=xe x (fin W 0 ds ds')
section
variable{F F':Addr->Prop}{H H':Hp}
theorem qaW6{W:Nat->Bool}{Wr:Addr->Prop}(kp:Kp F H Wr F' H'):∀{vs:List V}{ds:Ds}{A:List Addr}{k:Nat}{σ':List (Option V)}{ds':Ds}{A':List Addr},Reps F H vs ds A->Gy W k ds=true->Locs F' H' σ' ds' A'->vs.length<=σ'.length->(∀ i,i < vs.length->W (k+i)=true->σ'[i]? = (vs.map some)[i]?) ->
   ∃ A2,Reps F' H' vs (fin W k ds ds') A2/\∀ b,A2.count b<=A'.count b:=by
 intro vs
 induction vs with
 | nil =>
   intro ds A k σ' ds' A' r hm L hl ag;cases r;exact⟨[],by cases ds'<;>exact .nil,λ b=>by simp⟩
 | cons v vs ih =>
   intro ds A k σ' ds' A' r hm L hl ag;cases r with
   | @cons _ d B _ ds B2 r1 t =>
     have hm:=zAg.mp hm;have step:∀{σ2:List (Option V)}{ds2:Ds}{A2:List Addr}(o:Option V),σ'=o::σ2->Locs F' H' σ2 ds2 A2->∃ A3,Reps F' H' vs (fin W (k+1) ds ds2) A3/\∀ b,A3.count b<=A2.count b:=λ{σ2 ds2 A2} o e L2=>by
       subst e;refine ih t hm.2 L2 (by simpa using hl) λ i hi hw=>?_
       have:=ag (i+1) (by simpa using hi) (by rw[<- hw];congr 1;lia)
       simpa using this
     cases L with
     | nil=>simp at hl
     | no L2 =>
       obtain⟨A3,q1,q2⟩:=step none rfl L2;by_cases hw:W k=true
       . have:=ag 0 (by simp) (by simpa using hw)
         simp at this
       have hi:d.imm=true:=by
         rcases Bool.or_eq_true_iff.mp hm.1 with h | h
         . exact absurd h hw
         exact h
       have:=r1.imm hi
       subst this;refine⟨[]++A3,?_,λ b=>by simpa using q2 b⟩;show Reps F' H' (v::vs) ((if W k=true then _ else d)::_) _;rw[if_neg hw];exact .cons (r1.keep kp λ b hb=>by cases hb) q1
     | @so v' d' B' σ2 ds2 A2 rr L2 =>
       obtain⟨A3,q1,q2⟩:=step (some v') rfl L2;by_cases hw:W k=true
       . have:=ag 0 (by simp) (by simpa using hw)
         simp at this;subst this;refine⟨B'++A3,?_,λ b=>by simp only[zA0];have:=q2 b;lia⟩;show Reps F' H' (v'::vs) ((if W k=true then d' else d)::_) _;rw[if_pos hw];exact .cons rr q1
       have hi:d.imm=true:=by
         rcases Bool.or_eq_true_iff.mp hm.1 with h | h
         . exact absurd h hw
         exact h
       have:=r1.imm hi
       subst this;refine⟨[]++A3,?_,λ b=>by simp only[zB5,zA0];have:=q2 b;lia⟩;show Reps F' H' (v::vs) ((if W k=true then d' else d)::_) _;rw[if_neg hw];exact .cons (r1.keep kp λ b hb=>by cases hb) q1
theorem Reps.locs{ds:Ds}{A:List Addr}(r:Reps F H vs ds A):Locs F H (vs.map some) ds A:=by
 induction vs generalizing ds A with
 | nil=>cases r;exact .nil
 | cons v vs ih=>cases r with | cons h t=>exact .so h (ih t)
theorem qI1:∀ n:Nat,Locs F H (List.replicate n none) (List.replicate n .unk) []
 | 0=>.nil
 | n+1=>.no (qI1 n)
end
structure FunE(K:PySem.W.Frag)(x qual:Str)(st:Stmt)(f:Addr)(fd:FuncData):Prop where
 ex:∃(oc:Value)(od:Option Addr)(dV kV doc pm:Value)(an:Option Addr)(cdv ct:Value)(osl:Array (Option Value)),
   fd=PySem.W.fnOf x qual (qf2 st) (qc8 st) (qa3 st) dV kV doc pm an cdv ct/\K.lookup f=some ⟨oc,od,.func fd,osl⟩/\PySem.W.codeIn K cdv qual=true
theorem FunE.of{K:PySem.W.Frag}{x qual:Str}{st:Stmt}{f:Addr}{fd:FuncData}(F:Fun K x qual st f fd):FunE K x qual st f fd :=
 let ⟨oc,od,kV,doc,pm,an,cdv,ct,osl,e,lk,hcd⟩:=F.ex
 ⟨⟨oc,od,.none,kV,doc,pm,an,cdv,ct,osl,e,lk,hcd⟩⟩
theorem FunE.okX{w:World}{K:PySem.W.Frag}{x qual:Str}{st:Stmt}{f:Addr}{fd:FuncData}{ps:List Str}{k:Nat}{sp:Sp}(F:FunE K x qual st f fd)(S:qa9 N ps (qa3 st))(len:∀ vs H Q E,sp vs H Q E->vs.length=ps.length)(hbody:∀(cdv:Value)(A:Around)(outer:List Env)(s:Shared)(H:Hp)(vs:List V)(Q:VK)(E:XK),Room k (A.deeper (PyProof.Rows.envOfC qual (qa3 st) s.heap.objs.size f cdv))->sp vs H Q E ->
     ∃ t,PSs (D9 (CX1 P w) P w K mg base N qual (qa3 st) f cdv A outer s H E) (qc8 st) t/\t { nx:=λ _ H'=>Q .non H',rt:=Q } (L2.start N vs) H):Bq P w K mg base (CX1 P w) (k+1) f fd ps sp:=by
 obtain⟨oc,od,dV,kV,doc,pm,an,cdv,ct,osl,rfl,lk,hcd⟩:=F.ex;exact Ii lk hcd S len λ A outer s H vs Q E hr hsp=>hbody cdv A outer s H vs Q E hr hsp
theorem VFn.mkE{w:World}{K:PySem.W.Frag}{x qual:Str}{st:Stmt}{f:Addr}{fd:FuncData}{ps:List Str}{k:Nat}{s:VSp}(Fu:FunE K x qual st f fd)(Sc:qa9 N ps (qa3 st))(W:Nat->Bool)(hs:Bl s)(hlen:∀ ds Q xe,s ds Q xe->ds.length=ps.length)(himm:∀ ds Q xe,s ds Q xe->Gy W 0 ds=true)(hbody:∀(cdv:Value)(A:Around)(outer:List Env)(sh:Shared)(H:Hp)(E:XK)(av:List (Option V)),Room k (A.deeper (PyProof.Rows.envOfC qual (qa3 st) sh.heap.objs.size f cdv)) ->
     ∃ t,VSs ⟨E,W,av,[]⟩ (D9 (CX1 P w) P w K mg base N qual (qa3 st) f cdv A outer sh H E) (qc8 st) t/\∀ ds Q xe,s ds Q xe->t (Ht W ds Q xe) (ds++List.replicate (N.length - ds.length) .unk)) :
   VFn P w K mg base (k+1) f fd ps s:=by
 refine⟨Fu.okX Sc (λ vs H Q E ⟨F,ds,A,r,o,h⟩=>by rw[r.len];exact hlen _ _ _ h) λ cdv Ar outer sh H vs Q E hr ⟨F,ds,A,r,o,h⟩=>?_,hs⟩;obtain⟨t,hv,ht⟩:=hbody cdv Ar outer sh H E (L2.start N vs) hr;have hl:=hlen _ _ _ h;have hi:=himm _ _ _ h;have hN:ps.length<=N.length:=by have:=congrArg List.length Sc.pre;rw[zBu] at this;lia
 have L0:Locs F H (L2.start N vs++[]) (ds++List.replicate (N.length - ds.length) .unk) A:=by
   rw[zAf];unfold L2.start;rw[r.len]
   have:=r.locs.append (qI1 (F:=F) (H:=H) (N.length - ds.length))
   rwa[zAf] at this
 have S0:Sta ⟨E,W,L2.start N vs,[]⟩ F H (L2.start N vs) (ds++List.replicate (N.length - ds.length) .unk) A:=⟨L0,o,by simp,λ i _=>by simp⟩
 have key:∀{σ':St}{H':Hp}{F':Addr->Prop}{ds':Ds}{A' A2:List Addr},Sta ⟨E,W,L2.start N vs,[]⟩ F' H' σ' ds' A'->Stp F H A F' H' A2->∃ A3,Reps F' H' vs (fin W 0 ds ds') A3/\∀ b,A3.count b<=A'.count b:=λ{σ' H' F' ds' A' A2} S' s'=>by
   have hlen':=S'.len;simp only[zAf] at hlen';refine qaW6 (s'.kp o r.cells) r hi (by have:=S'.loc;simpa using this) ?_ λ i hiv hw=>?_
   . rw[<- hlen'];unfold L2.start;simp
   have:=S'.ag i (by simpa using hw)
   simp only[zAf] at this;rw[this];show (L2.start N vs)[i]? = _;unfold L2.start;rw[zAs (by simpa using hiv)]
 refine⟨_,hv.h,F,_,A,Ht W ds _ _,S0,⟨?_,?_,λ _ _ _ _ _ z=>False.elim z,λ _ _ _ _ _ z=>False.elim z,?_⟩,ht _ _ _ h⟩
 . intro ds' σ' H' F' A' q S' s'
   obtain⟨A3,q1,q2⟩:=key S' s';have hc:∀ b,([]++A3).count b<=A'.count b:=λ b=>by simpa using q2 b
   exact q .non H' F' [] A3 .non q1 (S'.ok.count hc) (s'.count hc)
 . intro d ds' v σ' H' F' T A' q rv S' oT s'
   obtain⟨A3,q1,q2⟩:=key S' s';have hc:∀ b,(T++A3).count b<=(T++A').count b:=λ b=>by simp only[zA0];have:=q2 b;lia
   exact q v H' F' T A3 rv q1 (oT.count hc) (s'.count hc)
 intro y ds' σ' e H' F' A' q rx S' s';obtain⟨A3,q1,q2⟩:=key S' s';exact q e H' F' A3 rx q1 (S'.ok.count q2) (s'.count q2)
theorem VFn.mk'{w:World}{K:PySem.W.Frag}{x qual:Str}{st:Stmt}{f:Addr}{fd:FuncData}{ps:List Str}{k:Nat}{s:VSp}(Fu:Fun K x qual st f fd)(Sc:qa9 N ps (qa3 st))(W:Nat->Bool)(hs:Bl s)(hlen:∀ ds Q xe,s ds Q xe->ds.length=ps.length)(himm:∀ ds Q xe,s ds Q xe->Gy W 0 ds=true)(hbody:∀(cdv:Value)(A:Around)(outer:List Env)(sh:Shared)(H:Hp)(E:XK)(av:List (Option V)),Room k (A.deeper (PyProof.Rows.envOfC qual (qa3 st) sh.heap.objs.size f cdv)) ->
     ∃ t,VSs ⟨E,W,av,[]⟩ (D9 (CX1 P w) P w K mg base N qual (qa3 st) f cdv A outer sh H E) (qc8 st) t/\∀ ds Q xe,s ds Q xe->t (Ht W ds Q xe) (ds++List.replicate (N.length - ds.length) .unk)) :
   VFn P w K mg base (k+1) f fd ps s:=VFn.mkE (FunE.of Fu) Sc W hs hlen himm hbody
def Br:List (Option Nat)->Ds->Ds×Ds
 | [],ds=>([],ds)
 | none::r,ds=>(.unk::(Br r ds).1,(Br r ds).2)
 | some j::r,ds=>((ds[j]?).getD .unk::(Br r (ds.set j .unk)).1,(Br r (ds.set j .unk)).2)
def Ex:List (Option Nat)->Ds->Ds->Ds
 | none::r,_::i,o=>Ex r i o
 | some j::r,d::i,o=>Ex r i (o.set j d)
 | _,_,o=>o
def Ei(g:VTG)(qf:VTT)(te:VT)(K:Ds->Ds->Prop):List D->Ds->Ds->Prop
 | [],acc,ι=>K acc ι
 | x::xs,acc,ι=>g x ι λ ι1=>qf ι1 (λ b ι2=>if b=true then te ι2 (λ d ι3=>acc.length < big/\Ei g qf te K xs (acc++[d]) ι3) (λ _ _=>False) else Ei g qf te K xs acc ι2) (λ _ _=>False)
def capW(src:List (Option Nat)):Nat->Bool:=λ i=>match src[i]? with | some (some _)=>true | _=>false
abbrev cIn(src:List (Option Nat))(av:List (Option V)):Vc:=⟨λ _ _ _=>False,capW src,av,[]⟩
structure VF(c:Vc)(X:Cx)(ifs:List Expr)(t:VTT):Prop where
 h:PFs X ifs (Dv c t)
 m:∀ ds (Q Q':Bool->Ds->Prop) (xe xe':XKd),(∀ d ds',Q d ds'->Q' d ds')->(∀ x ds',xe x ds'->xe' x ds')->t ds Q xe->t ds Q' xe'
def Jb:VTT:=λ ds Q _=>Q true ds
theorem Fb{c:Vc}{X:Cx}:VF c X [] Jb:=⟨λ D4 s σ H Q I ⟨F,ds,A,xe,S,x,q⟩=>qaK5 D4 s σ H Q I (q H F A S Stp.refl),λ ds Q Q' xe xe' hQ _=>hQ _ _⟩
theorem Fc{c:Vc}{X:Cx}{e:Expr}{t:VTT}(h:VTe c X e t):VF c X [e] t:=⟨qaT0 h.h,h.m⟩
section
variable{F F':Addr->Prop}{H H':Hp}
theorem qac7:∀{src:List (Option Nat)}{σ gv:List (Option V)}{ds:Ds}{A:List Addr},Locs F H (σ++gv) ds A->(∀ j,some j∈src->j < σ.length) ->
   ∃ Ai Ao,Locs F H (Dl σ src) (Br src ds).1 Ai/\Locs F H (σ++gv) (Br src ds).2 Ao/\∀ b,A.count b=Ai.count b+Ao.count b
 | [],σ,gv,ds,A,L,_=>⟨[],A,.nil,L,λ b=>by simp⟩
 | none::r,σ,gv,ds,A,L,h=>by
   obtain⟨Ai,Ao,q1,q2,q3⟩:=qac7 (src:=r) L λ j hj=>h j (zA6 _ hj)
   exact⟨Ai,Ao,.no q1,q2,q3⟩
 | some j::r,σ,gv,ds,A,L,h=>by
   have hj:=h j zA7;have hl:=L.len;rw[zA8] at hl;obtain⟨dj,hds⟩:∃ d,ds[j]? = some d:=⟨_,zAz (by lia)⟩
   obtain⟨σ1,o,σ2,ds1,ds2,A1,B,A2,e1,e2,e3,e4,e5,l1,l2,l3⟩:=L.split hds;have ho:(σ++gv)[j]? = some o:=by rw[e1];exact qF3 e3
   rw[zAs hj] at ho;have e6:ds.set j .unk=ds1++.unk::ds2:=by
     have:=congrArg (λ l=>l.set j .unk) e2
     rw[this,qp8 e4]
   have L':Locs F H (σ++gv) (ds.set j .unk) (A1++A2):=by
     rw[e1,e6];cases l2 with
     | no=>exact l1.append (.no l3)
     | @so v _ _ _=>exact l1.append (.so (B:=[]) (.unk v) l3)
   obtain⟨Ai,Ao,q1,q2,q3⟩:=qac7 (src:=r) L' λ j hj=>h j (zA6 _ hj)
   refine⟨B++Ai,Ao,?_,q2,λ b=>by rw[e5];have:=q3 b;simp only[zA0] at *;lia⟩;show Locs F H (((σ[j]?).getD none)::Dl σ r) ((ds[j]?).getD .unk::_) _;rw[ho,hds];exact Locs.cons l2 q1
theorem qM2:∀{src:List (Option Nat)}{σ gv σ':List (Option V)}{ι o:Ds}{Ai Ao:List Addr},Locs F H σ' ι Ai->Locs F H (σ++gv) o Ao->(∀ j,some j∈src->j < σ.length)->(∀(i j:Nat),src[i]? = some (some j)->σ'[i]? = some ((σ[j]?).getD none))->σ'.length=src.length ->
   ∃ A',Locs F H (σ++gv) (Ex src ι o) A'/\∀ b,A'.count b<=Ai.count b+Ao.count b
 | [],σ,gv,σ',ι,o,Ai,Ao,L,Lo,_,_,_=>⟨Ao,by cases ι<;>exact Lo,λ b=>by lia⟩
 | none::r,σ,gv,σ',ι,o,Ai,Ao,L,Lo,h,ag,hl=>by
   cases L with
   | nil=>simp at hl
   | no L2 =>
     obtain⟨A',q1,q2⟩:=qM2 (src:=r) L2 Lo (λ j hj=>h j (zA6 _ hj)) (λ i j e=>by simpa using ag (i+1) j (by simpa using e)) (by simpa using hl);exact⟨A',q1,q2⟩
   | so r1 L2 =>
     obtain⟨A',q1,q2⟩:=qM2 (src:=r) L2 Lo (λ j hj=>h j (zA6 _ hj)) (λ i j e=>by simpa using ag (i+1) j (by simpa using e)) (by simpa using hl);exact⟨A',q1,λ b=>by rw[zA0];have:=q2 b;lia⟩
 | some j::r,σ,gv,σ',ι,o,Ai,Ao,L,Lo,h,ag,hl=>by
   have hj:=h j zA7;have hlo:=Lo.len;rw[zA8] at hlo;obtain⟨oj,hoj⟩:∃ d,o[j]? = some d:=⟨_,zAz (by lia)⟩
   obtain⟨σ1,ov,σ2,ds1,ds2,A1,B,A2,e1,e2,e3,e4,e5,l1,l2,l3⟩:=Lo.split hoj;have ho:(σ++gv)[j]? = some ov:=by rw[e1];exact qF3 e3
   rw[zAs hj] at ho;have h0:=ag 0 j rfl;rw[ho] at h0;have e6:∀ d,o.set j d=ds1++d::ds2:=λ d=>by
     have:=congrArg (λ l=>l.set j d) e2
     rw[this,qp8 e4]
   cases L with
   | nil=>simp at hl
   | no L2 =>
     have:ov=none:=by simpa using h0.symm
     subst this;have Lo':Locs F H (σ++gv) (o.set j .unk) (A1++A2):=by rw[e1,e6];exact l1.append (.no l3)
     obtain⟨A',q1,q2⟩:=qM2 (src:=r) L2 Lo' (λ j hj=>h j (zA6 _ hj)) (λ i j e=>by simpa using ag (i+1) j (by simpa using e)) (by simpa using hl);exact⟨A',q1,λ b=>by rw[e5];have:=q2 b;simp only[zA0] at *;lia⟩
   | @so v d Bv _ _ _ r1 L2 =>
     have:ov=some v:=by simpa using h0.symm
     subst this;have Lo':Locs F H (σ++gv) (o.set j d) (A1++(Bv++A2)):=by rw[e1,e6];exact l1.append (.so r1 l3)
     obtain⟨A',q1,q2⟩:=qM2 (src:=r) L2 Lo' (λ j hj=>h j (zA6 _ hj)) (λ i j e=>by simpa using ag (i+1) j (by simpa using e)) (by simpa using hl);exact⟨A',q1,λ b=>by rw[e5];have:=q2 b;simp only[zA0] at *;lia⟩
theorem qaB9(σ:St)(src:List (Option Nat)):(Dl σ src).length=src.length:=by simp[Dl]
theorem qaC0{σ:St}{src:List (Option Nat)}(h:src[i]? = some (some j)):(Dl σ src)[i]? = some ((σ[j]?).getD none):=by
 unfold Dl;rw[zAv,h];rfl
structure Hu(Pp:(Addr->Prop)->Hp->Prop)(T:List Addr):Prop where
 keep:∀{F F':Addr->Prop}{H H':Hp}{W:Addr->Prop},Kp F H W F' H'->(∀ b∈T,¬ W b)->Pp F H->Pp F' H'
 cells:∀{F:Addr->Prop}{H:Hp},Pp F H->∀ b∈T,∃ o,H b=some o/\En o=true
end
section
variable{c:Vc}{F F':Addr->Prop}{H H':Hp}{Pp:(Addr->Prop)->Hp->Prop}{τ:List (Option V)}{o:Ds}{Dd:Addr}{acc:Ds}{T A A' Tv:List Addr}{σ:St}{ds:Ds}
def Tot(B T Ao A:List Addr):List Addr:=B++(T++(Ao++A))
theorem qx3(st:Hu Pp T){B:List Addr}(r:Rep F H (.ref Dd) (.lst false acc) B)(hp:Pp F H)(L:Locs F H τ o Ao)(ok:Ok F H (Tot B T Ao A))(S:Sta c F H σ ds A)(s:Stp F H A F' H' A')(o':Ok F' H' A') :
   Rep F' H' (.ref Dd) (.lst false acc) B/\Pp F' H'/\Locs F' H' τ o Ao/\Ok F' H' (Tot B T Ao A')/\Stp F H (Tot B T Ao A) F' H' (Tot B T Ao A'):=by
 unfold Tot at *
 have kp:=s.kp S.ok S.loc.cells;have hc:∀ b,(B++(T++(Ao++A))).count b=((B++(T++Ao))++A).count b:=λ b=>by simp only[zA0];lia
 have hout:∀ b,b∈B∨b∈T∨b∈Ao->¬ (A.count b≠0):=λ b hb hcn=>by
   have:=ok.sep b
   simp only[zA0] at this;rcases hb with hb | hb | hb<;>have:=qb2.mp hb<;>lia
 have cT:∀ b∈B++(T++Ao),∃ o,H b=some o/\En o=true:=λ b hb=>by
   rcases zAh.mp hb with hb | hb
   . exact r.cells b hb
   rcases zAh.mp hb with hb | hb
   . exact st.cells hp b hb
   exact L.cells b hb
 obtain⟨o2,s2⟩:=s.frame (T:=B++(T++Ao)) (ok.count λ b=>by rw[hc];exact zA3 _) cT o';have hc':∀ b,(B++(T++(Ao++A'))).count b=((B++(T++Ao))++A').count b:=λ b=>by simp only[zA0];lia
 exact⟨r.keep kp λ b hb=>hout b (.inl hb),st.keep kp (λ b hb=>hout b (.inr (.inl hb))) hp,L.keep kp λ b hb=>hout b (.inr (.inr hb)),o2.count λ b=>by rw[hc'];exact zA3 _,(s2.pre λ b=>by rw[hc]).count λ b=>by rw[hc'];exact zA3 _⟩
theorem qaC7(st:Hu Pp T){B:List Addr}{d:D}(r:Rep F H (.ref Dd) (.lst false acc) B)(hp:Pp F H)(L:Locs F H τ o Ao)(S:Sta c F H σ ds A)(rv:Rep F H v d Tv)(ok:Ok F H (Tot B T Ao (Tv++A))) :
   ∃ vs B',H Dd=some (.lst vs)/\vs.length=acc.length/\Rep F (upd H Dd (.lst (vs++[v]))) (.ref Dd) (.lst false (acc++[d])) B'/\Pp F (upd H Dd (.lst (vs++[v])))/\Locs F (upd H Dd (.lst (vs++[v]))) τ o Ao/\Sta c F (upd H Dd (.lst (vs++[v]))) σ ds A/\Ok F (upd H Dd (.lst (vs++[v]))) (Tot B' T Ao A)/\Stp F H (Tot B T Ao (Tv++A)) F (upd H Dd (.lst (vs++[v]))) (Tot B' T Ao A):=by
 unfold Tot at *
 obtain⟨a,vs,Ael,ea,ha,rs,rfl⟩:=qw7 r;cases ea;have hs:=ok.sep Dd;simp only[zA0,zAl,zBe,if_true] at hs;have hf:¬ F Dd:=λ f=>by have:=ok.fro Dd f;simp only[zA0,zAl,zBe,if_true] at this;lia
 have k:=qN5 (F:=F) (o':=.lst (vs++[v])) ha rfl hf;have no:∀ X:List Addr,X.count Dd=0->∀ b∈X,¬ b=Dd:=λ X hx b hb w=>by subst w;exact(qb2.mp hb) hx
 have hcnt:∀ b,(Dd::(Ael++(Tv++[]))++(T++(Ao++A))).count b<=(Dd::Ael++(T++(Ao++(Tv++A)))).count b:=λ b=>by simp only[zA0,zAl,List.count_nil];lia
 have ex:∀ b,F b->∃ o,upd H Dd (.lst (vs++[v])) b=some o:=λ b f=>by
   obtain⟨x,e⟩:=ok.ex b f;exact⟨x,by rw[qc9 (show b≠Dd from λ w=>hf (w ▸ f))];exact e⟩
 refine⟨vs,Dd::(Ael++(Tv++[])),ha,rs.len,?_,st.keep k (no T (by lia)) hp,L.keep k (no Ao (by lia)),⟨S.loc.keep k (no A (by lia)),⟨S.ok.sep,S.ok.fro,ex⟩,S.len,S.ag⟩,⟨λ b=>zAp (hcnt b) (ok.sep b),λ b f=>by have:=ok.fro b f;have:=hcnt b;lia,ex⟩,λ b u e z=>?_,λ b u e z=>by have:=hcnt b;lia,λ _ f=>f,λ _ _ _ _ f=>f⟩
 . exact .lst qc2 ((rs.append (.cons rv .nil)).keep k (no _ (by simp only[zA0,List.count_nil];lia)))
 rw[qc9 λ w=>?_]
 . exact e
 subst w;simp only[zA0,zAl,zBe,if_true] at z;lia
end
def qn4(src:List (Option Nat))(g:VTG):TG:=λ v σ H Q=>∃ av,Fq (cIn src av) g v σ H Q
def qn3(src:List (Option Nat))(q:VTT):TT:=λ σ H Q=>∃ av,Dv (cIn src av) q σ H Q
def Bo(src:List (Option Nat))(t:VT):TE:=λ σ H Q=>∃ av,Bj (cIn src av) t σ H Q
structure Blk(X:Cx)(NY:List Str)(sc:Scope)(src:List (Option Nat))(tg:Expr)(ifs:List Expr)(elt:Expr)(g:VTG)(qf:VTT)(te:VT):Prop where
 g:∀ av C s0 H0 ex,VG (cIn src av) (qm5 X NY sc C s0 H0 ex) tg g
 f:∀ av C s0 H0 ex,VF (cIn src av) (qm5 X NY sc C s0 H0 ex) ifs qf
 e:∀ av C s0 H0 ex,VE (cIn src av) (qm5 X NY sc C s0 H0 ex) elt te
 lt:∀ D4 σ H s,Inv X D4 σ H s->∀ j,some j∈src->j < σ.length
section
variable{c:Vc}{X:Cx}{NY:List Str}{sc:Scope}{src:List (Option Nat)}{tg elt e:Expr}{ifs:List Expr}{g:VTG}{qf:VTT}{te:VT}
theorem Blk.pg(b:Blk X NY sc src tg ifs elt g qf te):∀ C s0 H0 ex,PG (qm5 X NY sc C s0 H0 ex) tg (qn4 src g):=λ C s0 H0 ex D4 s σ H v u Q I r ⟨av,q⟩=>(b.g av C s0 H0 ex).h D4 s σ H v u Q I r q
theorem Blk.pf(b:Blk X NY sc src tg ifs elt g qf te):∀ C s0 H0 ex,PFs (qm5 X NY sc C s0 H0 ex) ifs (qn3 src qf):=λ C s0 H0 ex D4 s σ H Q I ⟨av,q⟩=>(b.f av C s0 H0 ex).h D4 s σ H Q I q
theorem Blk.pe(b:Blk X NY sc src tg ifs elt g qf te):∀ C s0 H0 ex,PE (qm5 X NY sc C s0 H0 ex) elt (Bo src te):=λ C s0 H0 ex D4 s σ H Q I ⟨av,q⟩=>(b.e av C s0 H0 ex).h D4 s σ H Q I q
theorem Blk.gm(b:Blk X NY sc src tg ifs elt g qf te):∀ d ds (Q Q':Ds->Prop),(∀ ds',Q ds'->Q' ds')->g d ds Q->g d ds Q':=(b.g [] 0 {} (λ _=>none) []).m
theorem Blk.fm(b:Blk X NY sc src tg ifs elt g qf te):∀ ds (Q Q':Bool->Ds->Prop) (xe xe':XKd),(∀ d ds',Q d ds'->Q' d ds')->(∀ x ds',xe x ds'->xe' x ds')->qf ds Q xe->qf ds Q' xe':=(b.f [] 0 {} (λ _=>none) []).m
theorem Blk.em(b:Blk X NY sc src tg ifs elt g qf te):∀ ds (Q Q':DK) (xe xe':XKd),(∀ d ds',Q d ds'->Q' d ds')->(∀ x ds',xe x ds'->xe' x ds')->te ds Q xe->te ds Q' xe':=(b.e [] 0 {} (λ _=>none) []).m
theorem qj2(b:Blk X NY sc src tg ifs elt g qf te){K K':Ds->Ds->Prop}(h:∀ acc ι,K acc ι->K' acc ι):∀(xs:List D) acc ι,Ei g qf te K xs acc ι->Ei g qf te K' xs acc ι
 | [],acc,ι=>h acc ι
 | x::xs,acc,ι=>b.gm _ _ _ _ λ ι1=>b.fm _ _ _ _ _ (λ k ι2=>qM0 (b.em _ _ _ _ _ (λ d ι3=>And.imp_right (qj2 b h xs _ _)) λ _ _ z=>z) (qj2 b h xs _ _)) λ _ _ z=>z
variable{F F0:Addr->Prop}{H H0:Hp}{Pp:(Addr->Prop)->Hp->Prop}{τ:List (Option V)}{o0:Ds}{Dd:Addr}{acc:Ds}{T A A0:List Addr}{σ:St}{ds ι:Ds}{av:List (Option V)}{K:Ds->Ds->Prop}
def Mid(src:List (Option Nat))(av:List (Option V))(Pp:(Addr->Prop)->Hp->Prop)(T:List Addr)(τ:List (Option V))(o0:Ds)(Dd:Addr)(F0:Addr->Prop)(H0:Hp)(A0:List Addr)(g:VTG)(qf:VTT)(te:VT)(K:Ds->Ds->Prop)(xs:List D)(σ:St)(H:Hp):Prop :=
 ∃ F ι A acc B Ao,Sta (cIn src av) F H σ ι A/\Rep F H (.ref Dd) (.lst false acc) B/\Pp F H/\Locs F H τ o0 Ao/\Ok F H (Tot B T Ao A)/\Stp F0 H0 A0 F H (Tot B T Ao A)/\Ei g qf te K xs acc ι
theorem qJ2(b:Blk X NY sc src tg ifs elt g qf te)(st:Hu Pp T){B:List Addr}{x:V}{y:D}{xs:List D}(S:Sta (cIn src av) F H σ ι A)(r:Rep F H (.ref Dd) (.lst false acc) B)(hp:Pp F H)(L:Locs F H τ o0 Ao)(ok:Ok F H (Tot B T Ao A))(s0:Stp F0 H0 A0 F H (Tot B T Ao A))(ry:Rep F H x y [])(q:Ei g qf te K (y::xs) acc ι) :
   qn4 src g x σ H λ σ2 H2=>qn3 src qf σ2 H2 λ okk H3=>if okk=true then Bo src te σ2 H3 λ v H4=>∃ ys,H4 Dd=some (.lst ys)/\ys.length < sizeLine/\Mid src av Pp T τ o0 Dd F0 H0 A0 g qf te K xs σ2 (upd H4 Dd (.lst (ys++[v]))) else Mid src av Pp T τ o0 Dd F0 H0 A0 g qf te K xs σ2 H3:=by
 have noX:∀(F:Addr->Prop)(H:Hp)(A:List Addr),Xc (cIn src av) (λ _ _=>False) F H A:=λ F H A x ds' σ' e H' F' A' z=>z.elim
 refine⟨av,F,ι,A,[],y,ry,S,S.ok,b.gm _ _ _ _ (λ ι1 q σ1 H1 F1 A1 S1 s1=>?_) q⟩;obtain⟨r1,hp1,L1,ok1,t1⟩:=qx3 st r hp L ok S (show Stp F H A F1 H1 A1 from s1) S1.ok;refine⟨av,F1,ι1,A1,_,S1,noX _ _ _,b.fm _ _ _ _ _ (λ k ι2 q H2 F2 A2 S2 s2=>?_) (λ _ _ z=>z) q⟩;obtain⟨r2,hp2,L2,ok2,t2⟩:=qx3 st r1 hp1 L1 ok1 S1 s2 S2.ok;cases k with
 | false =>
   rw[if_neg (by decide)] at q ⊢;exact⟨F2,ι2,A2,acc,B,Ao,S2,r2,hp2,L2,ok2,(s0.trans t1).trans t2,q⟩
 | true =>
   rw[if_pos rfl] at q ⊢;refine⟨av,F2,ι2,A2,_,S2,noX _ _ _,b.em _ _ _ _ _ (λ d ι3 q v H3 F3 Tv A3 rv S3 o3 s3=>?_) (λ _ _ z=>z) q⟩;obtain⟨r3,hp3,L3,ok3,t3⟩:=qx3 st r2 hp2 L2 ok2 S2 s3 o3;obtain⟨vs,B',e1,e2,r4,hp4,L4,S4,ok4,t4⟩:=qaC7 st r3 hp3 L3 S3 rv ok3;exact⟨vs,e1,by rw[e2];exact zAk q.1 qg3,F3,ι3,A3,acc++[d],B',Ao,S4,r4,hp4,L4,ok4,((s0.trans t1).trans t2).trans (t3.trans t4),q.2⟩
theorem qB3{xs:List D}(hlt:∀ j,some j∈src->j < σ.length)(S:Sta c F H σ ds A)(ok:Ok F H (T++A))(hp:Pp F H)(st:Hu Pp T)(hD:H Dd=none)(q:Ei g qf te K xs [] (Br src ds).1) :
   Mid src (Dl σ src) Pp T (σ++c.gv) (Br src ds).2 Dd F H (T++A) g qf te K xs (Dl σ src) (upd H Dd (.lst [])):=by
 obtain⟨Ai,Ao,q1,q2,q3⟩:=qac7 S.loc hlt;have sm:=Same.new (u:=.lst []) hD;have kp:=Kp.same (F:=F) sm;have okN:Ok F (upd H Dd (.lst [])) ([Dd]++(T++A)):=(qh9 hD).ok ok (λ b hb=>by
   rcases zAh.mp hb with hb | hb
   . exact st.cells hp b hb
   exact S.loc.cells b hb) sm
 have hc:∀ b,(Tot [Dd] T Ao Ai).count b=([Dd]++(T++A)).count b:=λ b=>by unfold Tot;simp only[zA0,q3];lia
 have okT:Ok F (upd H Dd (.lst [])) (Tot [Dd] T Ao Ai):=okN.count λ b=>by rw[hc];exact zA3 _
 have okI:Ok F (upd H Dd (.lst [])) Ai:=okT.count λ b=>by unfold Tot;simp only[zA0];lia
 refine⟨F,_,Ai,[],[Dd],Ao,⟨by rw[zAf];exact q1.same sm,okI,by simp,λ i _=>by simp⟩,.lst qc2 .nil,st.keep kp (λ _ _=>id) hp,q2.same sm,okT,((qh9 hD).stp sm).count λ b=>by rw[hc];exact zA3 _,q⟩
theorem qB4{H':Hp}{Fz:Addr->Prop}{Hz:Hp}{Az:List Addr}(hlt:∀ j,some j∈src->j < σ.length)(S:Sta c Fz Hz σ ds Az)(m:Mid src (Dl σ src) Pp T (σ++c.gv) o0 Dd F0 H0 A0 g qf te (λ acc ι'=>∀ v H' F' B A',Rep F' H' v (.lst false acc) B->Sta c F' H' σ (Ex src ι' o0) A'->Pp F' H'->Ok F' H' (B++(T++A'))->Stp F0 H0 A0 F' H' (B++(T++A'))->Q v H') [] σ' H'):Q (.ref Dd) H':=by
 obtain⟨F,ι,A,acc,B,Ao,S1,r,hp,L,ok,s,q⟩:=m;have hl1:=S1.len;simp only[zAf] at hl1;obtain⟨A',k1,k2⟩:=qM2 (src:=src) (by have:=S1.loc;simpa using this) L hlt (λ i j e=>by
   have:=S1.ag i (by show capW src i=true;unfold capW;rw[e])
   simp only[zAf] at this;rw[this];exact qaC0 e) (by rw[<- hl1,qaB9])
 have hc:∀ b,(B++(T++A')).count b<=(Tot B T Ao A).count b:=λ b=>by unfold Tot;simp only[zA0];have:=k2 b;lia
 have o1:=ok.count hc;exact q (.ref Dd) H' F B A' r ⟨k1,o1.right.right,S.len,S.ag⟩ hp o1 (s.count hc)
theorem qo2{a:Addr}{ys:Ds}{T:List Addr}:Hu (λ F H=>Rep F H (.ref a) (.lst z ys) T/\H a=some (.lst vs)) T where
 keep:=λ{F F' H H' W} k h p=>by
   refine⟨p.1.keep k h,?_⟩;cases p.1 with
   | lst _ _=>exact k.fr _ _ p.2 (h _ zA7)
   | lstZ _ f _=>exact k.fr _ _ p.2 λ w=>k.wf _ w f
 cells:=λ p=>p.1.cells
theorem qU2:Hu (λ _ _=>True) [] where
 keep:=λ _ _ p=>p
 cells:=λ _ b hb=>by cases hb
theorem qaO7{a:Addr}{ys:Ds}{T:List Addr}{x:V}(r:Rep F H (.ref a) (.lst z ys) T)(h:H a=some (.lst vs))(hm:D.imms ys=true)(hx:vs[i]? = some x):∃ y,ys[i]? = some y/\Rep F H x y []:=by
 obtain⟨a',vs',Ael',ea,ha',rs',_⟩:=r.lst_inv;cases ea;rw[h] at ha';cases ha';obtain⟨y,B,hy,ry⟩:=rs'.getV hx
 have:=ry.imm (qu5 hm hy)
 subst this;exact⟨y,hy,ry⟩
theorem qaN5{a:Addr}{ys:Ds}{T:List Addr}(r:Rep F H (.ref a) (.lst z ys) T)(h:H a=some (.lst vs)):vs.length=ys.length:=by
 obtain⟨a',vs',Ael',ea,ha',rs',_⟩:=r.lst_inv;cases ea;rw[h] at ha';cases ha';exact rs'.len
theorem qN8{K':PySem.W.Frag}{a:Addr}{ys:Ds}{Q:Hp->Prop}(b:Blk X NY sc src tg ifs elt g qf te)(hm:D.imms ys=true)(m:Mid src av (λ F H=>Rep F H (.ref a) (.lst z ys) T/\H a=some (.lst vs)) T τ o0 Dd F0 H0 A0 g qf te K ys σ' H)(hQ:∀ σ2 H2,Mid src av (λ F H=>Rep F H (.ref a) (.lst z ys) T/\H a=some (.lst vs)) T τ o0 Dd F0 H0 A0 g qf te K [] σ2 H2->Q H2):qx6 (Itl K' a) (qn4 src g) (qn3 src qf) (Bo src te) Dd Q σ' H:=by
 obtain⟨_,_,_,_,_,_,_,_,hp0,_⟩:=id m;have hlen:=qaN5 hp0.1 hp0.2;refine qX7 (xs:=vs) (λ i σ H=>Mid src av (λ F H=>Rep F H (.ref a) (.lst z ys) T/\H a=some (.lst vs)) T τ o0 Dd F0 H0 A0 g qf te K (ys.drop i) σ H) m ?_ ?_ ?_
 . rintro i σ H _ ⟨_,_,_,_,_,_,_,_,hp,_⟩
   exact .inl (.inl hp.2)
 . rintro i x σ H hx ⟨F,ι,A,acc,B,Ao,S1,r,hp,L,ok,s,q⟩
   obtain⟨y,hy,ry⟩:=qaO7 hp.1 hp.2 hm hx;rw[qm9 hy] at q;exact qJ2 b qo2 S1 r hp L ok s ry q
 intro σ H m;rw[hlen,List.drop_length] at m;exact hQ _ _ m
theorem qT4{K':PySem.W.Frag}{a:Addr}{ys:Ds}{Q:Hp->Prop}(b:Blk X NY sc src tg ifs elt g qf te)(hm:D.imms ys=true)(m:Mid src av (λ F H=>Rep F H (.ref a) (.lst z ys) T/\H a=some (.lst vs)) T τ o0 Dd F0 H0 A0 g qf te K (enD ys) σ' H)(hQ:∀ σ2 H2,Mid src av (λ F H=>Rep F H (.ref a) (.lst z ys) T/\H a=some (.lst vs)) T τ o0 Dd F0 H0 A0 g qf te K [] σ2 H2->Q H2):qx6 (Ite K' a) (qn4 src g) (qn3 src qf) (Bo src te) Dd Q σ' H:=by
 obtain⟨_,_,_,_,_,_,_,_,hp0,_⟩:=id m;have hlen:=qaN5 hp0.1 hp0.2;refine qas9 (xs:=vs) (λ i σ H=>Mid src av (λ F H=>Rep F H (.ref a) (.lst z ys) T/\H a=some (.lst vs)) T τ o0 Dd F0 H0 A0 g qf te K ((enD ys).drop i) σ H) m ?_ ?_ ?_
 . rintro i σ H _ ⟨_,_,_,_,_,_,_,_,hp,_⟩
   exact .inl (.inl hp.2)
 . rintro i x σ H tt hx ⟨F,ι,A,acc,B,Ao,S1,r,hp,L,ok,s,q⟩ htt
   obtain⟨y,hy,ry⟩:=qaO7 hp.1 hp.2 hm hx;rw[qm9 (qaX2 hy)] at q;have sm:=Same.new (u:=.tup [.int (i:Int),x]) htt;have ry2:Rep F (upd H tt (.tup [.int (i:Int),x])) (.ref tt) (.tup [.int (i:Int),y]) []:=qag5 htt (.cons (A:=[]) (B:=[]) (.int _) (.cons (A:=[]) (B:=[]) ry .nil));obtain⟨r1,hp1,L1,ok1,t1⟩:=qx3 qo2 r hp L ok S1 (Stp.same sm) (S1.ok.same sm);exact qJ2 b qo2 (S1.same sm) r1 hp1 L1 ok1 (s.trans t1) ry2 q
 intro σ H m;rw[List.drop_of_length_le (by rw[qaG1,hlen];exact zA3 _)] at m;exact hQ _ _ m
theorem qay8{Q:Hp->Prop}(b:Blk X NY sc src tg ifs elt g qf te)(m:Mid src av (λ _ _=>True) [] τ o0 Dd F0 H0 A0 g qf te K (Bm lo n) σ' H)(hQ:∀ σ2 H2,Mid src av (λ _ _=>True) [] τ o0 Dd F0 H0 A0 g qf te K [] σ2 H2->Q H2):qx6 (Itr lo n) (qn4 src g) (qn3 src qf) (Bo src te) Dd Q σ' H:=by
 refine qak8 (λ i σ H=>Mid src av (λ _ _=>True) [] τ o0 Dd F0 H0 A0 g qf te K ((Bm lo n).drop i) σ H) m ?_ ?_
 . rintro i σ H hi ⟨F,ι,A,acc,B,Ao,S1,r,hp,L,ok,s,q⟩
   rw[qm9 (qaf0 hi)] at q;exact qJ2 b qU2 S1 r hp L ok s (.int _) q
 intro σ H m;rw[List.drop_of_length_le (by rw[qav2];exact zA3 _)] at m;exact hQ _ _ m
end
def Imp(c:Vc)(X:Cx)(t:VT)(tc:TE):Prop:=∀ D4 s σ H Q,Inv X D4 σ H s->Bj c t σ H Q->tc σ H Q
def Ft(t:VT):Prop:=∀ ds (Q Q':DK) (xe xe':XKd),(∀ d ds',Q d ds'->Q' d ds')->(∀ x ds',xe x ds'->xe' x ds')->t ds Q xe->t ds Q' xe'
section
variable{c:Vc}{X:Cx}{NY:List Str}{sc:Scope}{src:List (Option Nat)}{tg elt e o:Expr}{ifs:List Expr}{g:VTG}{qf:VTT}{te t0:VT}{pf:PF}
theorem qY5{tc:TE}{t:VT}(h:PE X e tc)(i:Imp c X t tc)(m:Ft t):VE c X e t:=⟨λ D4 s σ H Q I q=>h D4 s σ H Q I (i D4 s σ H Q I q),m⟩
def Fd(src:List (Option Nat))(g:VTG)(qf:VTT)(te:VT)(ys:List D):Ds->DK->Prop:=λ ds1 Q=>Ei g qf te (λ acc ι'=>Q (.lst false acc) (Ex src ι' (Br src ds1).2)) ys [] (Br src ds1).1
theorem qx7(b:Blk X NY sc src tg ifs elt g qf te){ys:List D}{ds1:Ds}{Q Q':DK}(h:∀ d ds',Q d ds'->Q' d ds'):Fd src g qf te ys ds1 Q->Fd src g qf te ys ds1 Q':=qj2 b (λ acc ι=>h _ _) _ _ _
def tCL(src:List (Option Nat))(t0:VT)(g:VTG)(qf:VTT)(te:VT):VT:=λ ds Q xe=>t0 ds (λ d ds1=>orF d.lstOf λ ys=>D.imms ys=true/\Fd src g qf te ys ds1 Q) xe
def tCE(src:List (Option Nat))(t0:VT)(g:VTG)(qf:VTT)(te:VT):VT:=λ ds Q xe=>t0 ds (λ d ds1=>orF d.lstOf λ ys=>D.imms ys=true/\Fd src g qf te (enD ys) ds1 Q) xe
theorem qaz4(b:Blk X NY sc src tg ifs elt g qf te)(hi:VE c X e t0):Ft (tCL src t0 g qf te):=λ ds Q Q' xe xe' hQ hx=>hi.m _ _ _ _ _ (λ d ds1=>qa4 λ ys=>And.imp_right (qx7 b hQ)) hx
theorem qaz5(b:Blk X NY sc src tg ifs elt g qf te)(hi:VE c X e t0):Ft (tCE src t0 g qf te):=λ ds Q Q' xe xe' hQ hx=>hi.m _ _ _ _ _ (λ d ds1=>qa4 λ ys=>And.imp_right (qx7 b hQ)) hx
theorem qaW1{K:PySem.W.Frag}(b:Blk X NY sc src tg ifs elt g qf te)(hi:VE c X e t0):Imp c X (tCL src t0 g qf te) (Ea (G1 K (Bj c t0)) src (qn4 src g) (qn3 src qf) (Bo src te)):=by
 rintro D4 s σ H Q I ⟨F,ds,A,xe,S,x,q⟩;have hlt:=b.lt D4 σ H s I;refine⟨F,ds,A,xe,S,x,hi.m _ _ _ _ _ (λ d ds1 q v H1 F1 T A1 r1 S1 o1 s1=>?_) (λ _ _ z=>z) q⟩;obtain⟨ys,ey,hm,qf'⟩:=qa7.mp q;obtain⟨z,rfl⟩:=qu2 ey;obtain⟨a,vs,Ael,rfl,ha,rs,_⟩:=r1.lst_inv;refine⟨a,rfl,⟨vs,.inl (.inl ha)⟩,λ Dd hD=>qN8 b hm (qB3 hlt S1 o1 ⟨r1,ha⟩ qo2 hD (qj2 b (λ acc ι q v H' F' B A' r S' _ ok s=>q v H' F' B A' r S' (ok.count λ b=>by simp only[zA0];lia) ((s1.trans s).count λ b=>by simp only[zA0];lia)) _ _ _ qf')) λ σ2 H2 m=>qB4 hlt S1 m⟩
theorem qaW2{K:PySem.W.Frag}(b:Blk X NY sc src tg ifs elt g qf te)(hi:VE c X e t0):Imp c X (tCE src t0 g qf te) (Ea (Im K (Ig (Bj c t0) tNil)) src (qn4 src g) (qn3 src qf) (Bo src te)):=by
 rintro D4 s σ H Q I ⟨F,ds,A,xe,S,x,q⟩;have hlt:=b.lt D4 σ H s I;refine⟨F,ds,A,xe,S,x,hi.m _ _ _ _ _ (λ d ds1 q v H1 F1 T A1 r1 S1 o1 s1=>?_) (λ _ _ z=>z) q⟩;obtain⟨ys,ey,hm,qf'⟩:=qa7.mp q;obtain⟨z,rfl⟩:=qu2 ey;obtain⟨a,vs,Ael,rfl,ha,rs,_⟩:=r1.lst_inv;refine⟨a,rfl,⟨vs,.inl (.inl ha)⟩,λ Dd hD=>qT4 b hm (qB3 hlt S1 o1 ⟨r1,ha⟩ qo2 hD (qj2 b (λ acc ι q v H' F' B A' r S' _ ok s=>q v H' F' B A' r S' (ok.count λ b=>by simp only[zA0];lia) ((s1.trans s).count λ b=>by simp only[zA0];lia)) _ _ _ qf')) λ σ2 H2 m=>qB4 hlt S1 m⟩
def tCPx(en:Ds->List D)(src:List (Option Nat))(pf:PF)(g:VTG)(qf:VTT)(te:VT):VT:=λ ds Q xe=>orF (pf ds) λ q=>orF (A7 ds q.1 q.2) λ d=>orF d.lstOf λ ys=>D.imms ys=true/\∀ w,Ei g qf te (λ acc ι'=>orF (bk1 q.1 q.2 w d (Ex src ι' (Br src (Bd ds q.1 q.2 (.hole w))).2)) λ ds2=>Q (.lst false acc) ds2) (en ys) [] (Br src (Bd ds q.1 q.2 (.hole w))).1
theorem qan6{en:Ds->List D}(b:Blk X NY sc src tg ifs elt g qf te):Ft (tCPx en src pf g qf te):=λ ds Q Q' xe xe' hQ hx=>qa4 λ q=>qa4 λ d=>qa4 λ ys=>And.imp_right λ h w=>qj2 b (λ acc ι=>qa4 λ z=>hQ _ _) _ _ _ (h w)
theorem qaQ4{K:PySem.W.Frag}{en:Ds->List D}{wi:TI}{J:Addr->It}(b:Blk X NY sc src tg ifs elt g qf te)(hw:∀{a:Addr}{vs:List V}{z:Bool}{ys:Ds}{T:List Addr}{τ:List (Option V)}{o0:Ds}{Dd:Addr}{F0:Addr->Prop}{H0 H:Hp}{A0:List Addr}{K0:Ds->Ds->Prop}{av:List (Option V)}{Q:Hp->Prop}{σ':St},D.imms ys=true->Mid src av (λ F H=>Rep F H (.ref a) (.lst z ys) T/\H a=some (.lst vs)) T τ o0 Dd F0 H0 A0 g qf te K0 (en ys) σ' H ->
     (∀ σ2 H2,Mid src av (λ F H=>Rep F H (.ref a) (.lst z ys) T/\H a=some (.lst vs)) T τ o0 Dd F0 H0 A0 g qf te K0 [] σ2 H2->Q H2)->qx6 (J a) (qn4 src g) (qn3 src qf) (Bo src te) Dd Q σ' H)(hwi:∀ σ H R,Gm c pf σ H (λ x H1=>∃ a,x=.ref a/\(∃ xs,SqL K H1 a xs)/\R (J a) H1)->wi σ H R):Imp c X (tCPx en src pf g qf te) (Ea wi src (qn4 src g) (qn3 src qf) (Bo src te)):=by
 rintro D4 s σ H Q I ⟨F,ds,A,xe,S,x,q⟩;have hlt:=b.lt D4 σ H s I;refine hwi σ H _ ?_;obtain⟨⟨i,p⟩,e1,q⟩:=qa7.mp q;obtain⟨d,e2,q⟩:=qa7.mp q;obtain⟨ys,ey,hm,q⟩:=qa7.mp q;obtain⟨z,rfl⟩:=qu2 ey;refine⟨F,ds,A,i,p,_,S,e1,e2,D.noConfusion,λ u w H1 hu hwk s0=>?_⟩;obtain⟨B,C,r,h3,h4⟩:=(S.same s0).place e2 D.noConfusion hu hwk;obtain⟨A1,q1,q2⟩:=h4 (.hole w) [] (Kp.same (F:=F) λ _ _ z=>z) (λ _ _ z=>z) (.hole w);have o1:Ok F H1 (B++A1):=(S.same s0).ok.count λ b=>by rw[zA0,q2,h3];simp
 have s1:Stp F H A F H1 (B++A1):=⟨λ b o e _=>s0 b o e,λ b o e z=>by rw[zA0,q2];have:=h3 b;simp;lia,λ _ f=>f,λ _ _ _ _ f=>f⟩
 have S1:Sta c F H1 σ (Bd ds i p (.hole w)) A1:=⟨q1,o1.right,S.len,S.ag⟩
 obtain⟨a,vs,Ael,rfl,ha,rs,_⟩:=r.lst_inv;refine⟨a,rfl,⟨vs,.inl (.inl ha)⟩,λ Dd hD=>hw hm (qB3 hlt S1 o1 ⟨r,ha⟩ qo2 hD (qj2 b (λ acc ι q v H' F' B' A' rv S' hp ok s=>?_) _ _ _ (q (.ref a)))) λ σ2 H2 m=>qB4 hlt S1 m⟩;obtain⟨ds2,eb,q⟩:=qa7.mp q;obtain⟨A2,k1,k2⟩:=qv9 (pls:=[.pl i p (.ref a)]) (vs:=[.ref a]) (more:=[]) (ys:=[.lst z ys]) (.so .nil) (.cons hp.1 .nil) S'.loc eb;have hc:∀ b,(B'++A2).count b<=(B'++(B++A')).count b:=λ b=>by have:=k2 b;simp only[zAf,zA0] at *;lia
 exact q v H' F' B' A2 rv ⟨k1,(ok.count hc).right,S.len,S.ag⟩ (ok.count hc) ((s1.trans s).count hc)
theorem qaV9{K:PySem.W.Frag}(b:Blk X NY sc src tg ifs elt g qf te):Imp c X (tCPx (λ ys=>ys) src pf g qf te) (Ea (G1 K (Gm c pf)) src (qn4 src g) (qn3 src qf) (Bo src te)) :=
 qaQ4 (K:=K) (J:=Itl K) b (λ hm m hQ=>qN8 b hm m hQ) λ σ H R h=>h
def tCR1(src:List (Option Nat))(tr:VTA)(g:VTG)(qf:VTT)(te:VT):VT:=λ ds Q xe=>tr ds (λ xs ds1=>orF (Hs xs) λ j=>Fn j=true/\Fd src g qf te (Bm 0 j.toNat) ds1 Q) xe
theorem qan5{es:List Expr}{tr:VTA}(b:Blk X NY sc src tg ifs elt g qf te)(hi:VOs c X es tr):Ft (tCR1 src tr g qf te):=λ ds Q Q' xe xe' hQ hx=>hi.m _ _ _ _ _ (λ d ds1=>qa4 λ ys=>And.imp_right (qx7 b hQ)) hx
theorem qaB1{F:Addr->Prop}{H:Hp}{A:List Addr}{F1:Addr->Prop}{H1:Hp}{A1:List Addr}{σ:St}{ds1:Ds}(b:Blk X NY sc src tg ifs elt g qf te)(hlt:∀ j,some j∈src->j < σ.length)(S1:Sta c F1 H1 σ ds1 A1)(s1:Stp F H A F1 H1 A1)(q:Fd src g qf te (Bm lo n) ds1 (λ d ds'=>∀ v H' F' T A',Rep F' H' v d T->Sta c F' H' σ ds' A'->Ok F' H' (T++A')->Stp F H A F' H' (T++A')->Q v H')):∀ Dd,H1 Dd=none->qx6 (Itr lo n) (qn4 src g) (qn3 src qf) (Bo src te) Dd (λ H'=>Q (.ref Dd) H') (Dl σ src) (upd H1 Dd (.lst [])):=λ Dd hD =>
 qay8 b (qB3 (T:=[]) hlt S1 S1.ok trivial qU2 hD (qj2 b (λ acc ι q v H' F' B A' r S' _ ok s=>q v H' F' B A' r S' ok (s1.trans s)) _ _ _ q)) λ σ2 H2 m=>qB4 hlt S1 m
theorem qaO4{es:List Expr}{tr:VTA}(b:Blk X NY sc src tg ifs elt g qf te)(hi:VOs c X es tr):Imp c X (tCR1 src tr g qf te) (Ea (iRng1 (qaE0 c tr)) src (qn4 src g) (qn3 src qf) (Bo src te)):=by
 rintro D4 s σ H Q I ⟨F,ds,A,xe,S,x,q⟩;have hlt:=b.lt D4 σ H s I;refine⟨F,ds,A,xe,S,x,hi.m _ _ _ _ _ (λ xs ds1 q vs H1 F1 T A1 r1 S1 s1=>?_) (λ _ _ z=>z) q⟩;obtain⟨j,ej,hm,qf'⟩:=qa7.mp q;cases qaw6 ej;obtain⟨v,rfl,rv⟩:=r1.one_inv;cases rv
 have:=qag8 hm
 exact⟨j,rfl,this.1,this.2,qaB1 b hlt S1 s1 qf'⟩
def capOk(X:Cx)(src:List (Option Nat)):Bool:=src.all λ o=>match o with | none=>true | some j=>decide (j < X.N.length)
theorem blk(hg:∀ av C s0 H0 ex,VG (cIn src av) (qm5 X NY sc C s0 H0 ex) tg g)(hf:∀ av C s0 H0 ex,VF (cIn src av) (qm5 X NY sc C s0 H0 ex) ifs qf)(he:∀ av C s0 H0 ex,VE (cIn src av) (qm5 X NY sc C s0 H0 ex) elt te)(hs:capOk X src=true:=by rfl):Blk X NY sc src tg ifs elt g qf te :=
 ⟨hg,hf,he,λ D4 σ H s I j hj=>by
   have:=zB4.mp hs _ hj
   rw[I.len];exact zAb this⟩
end
theorem qu4{X:Cx}{NY:List Str}{sc:Scope}{C:Addr}{s0:Shared}{H0:Hp}{ex:List Addr}{src:List (Option Nat)}{av:List (Option V)}:Lands (qm5 X NY sc C s0 H0 ex) (cIn src av).E:=λ _ _ _ _ _ _ _ _ _ z=>z.elim
section
variable{c:Vc}{X:Cx}{NY:List Str}{sc:Scope}{src:List (Option Nat)}{tg elt iter e a:Expr}{ifs:List Expr}{g:VTG}{qf:VTT}{te t0:VT}{pos:Pos}{pf:PF}{x:Str}
theorem ecL(hi:VE c X iter t0)(bl:Blk X NY sc src tg ifs elt g qf te)(hc:X.calm=true:=by rfl)(ck:qB5 X NY src sc=true:=by rfl)(hs:∀ x,foldedSetIterable iter X.env x=pure x:=by intro _;rfl):VE c X (.ListComp elt [⟨tg,iter,ifs,0⟩] sc pos) (tCL src t0 g qf te) :=
 qY5 (qz9 NY src (qE1 hi.h) bl.pg bl.pf bl.pe hc ck hs) (qaW1 bl hi) (qaz4 bl hi)
theorem ecP(hi:VP c X iter pf)(bl:Blk X NY sc src tg ifs elt g qf te)(hc:X.calm=true:=by rfl)(ck:qB5 X NY src sc=true:=by rfl)(hs:∀ x,foldedSetIterable iter X.env x=pure x:=by intro _;rfl):VE c X (.ListComp elt [⟨tg,iter,ifs,0⟩] sc pos) (tCPx (λ ys=>ys) src pf g qf te) :=
 qY5 (qz9 NY src (qE1 hi.h) bl.pg bl.pf bl.pe hc ck hs) (qaV9 bl) (qan6 bl)
theorem ecR1{tr:VTA}{p cpos:Pos}(hm:X.mg "range" = none)(ha:VOs c X [a] tr)(bl:Blk X NY sc src tg ifs elt g qf te)(hgl:Gl X "range" := by rfl)(hs1:starEach [a] X.env=[(false,eval a X.env)]:=by rfl)(hc:X.calm=true:=by rfl)(ck:qB5 X NY src sc=true:=by rfl)(hs:∀ x,foldedSetIterable (.Call (.Name "range" p) [a] [] cpos) X.env x=pure x:=by intro _;rfl):VE c X (.ListComp elt [⟨tg,.Call (.Name "range" p) [a] [] cpos,ifs,0⟩] sc pos) (tCR1 src tr g qf te) :=
 qY5 (qz9 NY src (qU6 hgl hm ha.h hs1) bl.pg bl.pf bl.pe hc ck hs) (qaO4 bl ha) (qan5 bl ha)
theorem ecE{elts:List Expr}{x1:Nat}{p cpos:Pos}(hm:X.mg "enumerate" = none)(hi:VE c X e t0)(bl:Blk X NY sc src (.Tuple elts x1 tpos) ifs elt g qf te)(hgl:Gl X "enumerate" := by rfl)(hs1:starEach [e] X.env=[(false,eval e X.env)]:=by rfl)(hc:X.calm=true:=by rfl)(ck:qB5 X NY src sc=true:=by rfl)(hs:∀ x,foldedSetIterable (.Call (.Name "enumerate" p) [e] [] cpos) X.env x=pure x:=by intro _;rfl):VE c X (.ListComp elt [⟨.Tuple elts x1 tpos,.Call (.Name "enumerate" p) [e] [] cpos,ifs,0⟩] sc pos) (tCE src t0 g qf te) :=
 qY5 (qz9 NY src (qaw0 hgl hm (qc4 hi.h ql6 hs1) hs1) bl.pg bl.pf bl.pe hc ck hs) (qaW2 bl hi) (qaz5 bl hi)
end
section
variable{c:Vc}{X:Cx}{es:List Expr}{tb:VTB}
def Go(tb:VTB):VTA:=λ ds Q xe=>tb ds (λ xs _ ds1=>Q xs ds1) xe
theorem Dk(h:VAs c X es tb):VOs c X es (Go tb):=⟨PA.mono h.h λ σ H Q ⟨F,ds,A,xe,S,x,q⟩=>⟨F,ds,A,xe,S,x,h.m _ _ _ _ _ (λ xs ps ds1 q vs H' F' T A' r _ S' o s=>q vs H' F' T A' r S' (s.count λ b=>by rw[zA0];lia)) (λ _ _ z=>z) q⟩,λ ds Q Q' xe xe' hQ hx=>h.m _ _ _ _ _ (λ xs ps ds1=>hQ _ _) hx⟩
end
structure Bg(x y z:Int)(ns:List Int):Prop where
 x0:0<=x
 y0:0<=y
 y1:y < 2147483647
 z0:0<=z
 nn:∀ n∈ns,0<=n
def bagD(x y z:Int)(ns:List Int):D:=.lst false [.int x,.int y,.int z,.lst false (ns.map .int)]
def lawE:VEnds where
 nx _:=False
 rt d _:=d.asB=some true
 bk _:=False
 ct _:=False
 xe _ _:=False
theorem qaq4{c:Vc}{X:Cx}{rest:List Stmt}{t:VTS}{H:Hp}{E:D7}{p L:Addr}{x y z:Int}{ns:List Int}(hav:c.av.length=2+n)(hW:∀ i,c.W i=false)(hgv:c.gv=[])(hp:H p=some (.lst [.int x,.int y,.int z,.ref L]))(hL:H L=some (.lst (ns.map V.int)))(ne:L≠p)(hE:∀ H',E.rt (.bl true) H')(ht:t lawE (.hole w::bagD x y z ns::List.replicate n .unk)):E8 c t E (some w::some (.ref p)::List.replicate n none) H:=by
 have L0:Locs (λ _=>False) H (some w::some (.ref p)::List.replicate n none) (.hole w::bagD x y z ns::List.replicate n .unk) ([]++((p::([]++([]++([]++((L::[])++[])))))++[])) :=
   .so (.hole w) (.so (.lst hp (.cons (.int x) (.cons (.int y) (.cons (.int z) (.cons (.lst hL (qH2 ns)) .nil))))) (qI1 n))
 refine⟨λ _=>False,_,_,lawE,⟨by rw[hgv,zAf];exact L0,⟨λ b=>?_,λ b f=>f.elim,λ b f=>f.elim⟩,by rw[hgv,hav];simp;lia,λ i hi=>by rw[hW i] at hi;cases hi⟩,⟨λ _ _ _ _ _ z=>False.elim z,λ d ds' v σ' H' F' T A' q r _ _ _=>by rw[r.asB q];exact hE H',λ _ _ _ _ _ z=>False.elim z,λ _ _ _ _ _ z=>False.elim z,λ _ _ _ _ _ _ _ z=>False.elim z⟩,ht⟩;simp only[zB5,zAf,zAl,List.count_nil];by_cases h1:p=b
 . subst h1;simp[ne]
 by_cases h2:L=b
 . subst h2;simp[h1]
 simp[h1,h2]
section
variable{c:Vc}{b d e o:Expr}{oa ob oc:Bool}{fa fb fc:FV}
def f3(g g':D->D->Option D)(fa fb fc:FV):FV:=λ ds=>(fa ds).bind λ x=>(fb ds).bind λ y=>(g x y).bind λ z=>z.asB.bind λ k=>if k=true then (fc ds).bind λ u=>g' y u else some (.bl false)
theorem qaG7{r r':R2}{g g':D->D->Option D}(h:Bb true r g)(h':Bb true r' g'):∀ σ H Q,liftV c true (f3 g g' fa fb fc) σ H Q->qaI3 r r' (liftV c oa fa) (liftV c ob fb) (liftV c oc fc) σ H Q:=by
 rintro σ H Q ⟨F,ds,A,d,S,e,q⟩;obtain⟨x,e1,e⟩:=zA1.mp e;obtain⟨y,e2,e⟩:=zA1.mp e;obtain⟨z,e3,e⟩:=zA1.mp e;obtain⟨k,e4,e⟩:=zA1.mp e;refine⟨F,ds,A,x,S,e1,λ v H1 B1 r1 s1 n1=>⟨F,ds,A,y,S.same s1,e2,λ w H2 B2 r2 s2 n2=>?_⟩⟩;have s12:=s1.trans s2;refine h F H2 v w x y _ z _ (Gf (r1.same s2) r2) e3 λ u H3 B3 r3 s3 h3=>⟨k,r3.asB e4,?_⟩
 have s13:=s12.trans s3;cases k with
 | false=>rw[if_neg (by decide)] at e ⊢;cases e;exact q _ H3 [] (.bl _) s13 λ _=>New.nil
 | true =>
   rw[if_pos rfl] at e ⊢;obtain⟨uu,e5,e6⟩:=zA1.mp e;refine⟨F,ds,A,uu,S.same s13,e5,λ w4 H4 B4 r4 s4 n4=>?_⟩;refine h' F H4 w w4 y uu _ d Q (Gf ((r2.same s3).same s4) r4) e6 λ u5 H5 B5 r5 s5 h5=>q u5 H5 B5 r5 ((s13.trans s4).trans s5) λ _=>⟨h5.one,λ b o e=>h5.new b o (s4 b o (s13 b o e))⟩
end
section
variable{c:Vc}{X:Cx}{a b d e:Expr}{pos:Pos}{oa ob oc:Bool}{fa fb fc:FV}
theorem vch{op':CmpOp}{r r':R2}{g g':D->D->Option D}(ho:OpR X (compareOp op) r)(h:Bb true r g)(ho':OpR X (compareOp op') r')(h':Bb true r' g')(ha:VV c X a oa fa)(hb:VV c X b ob fb)(hc:VV c X d oc fc)(hm:lastMarks [op,op'] [b,d]=false:=by with_unfolding_all rfl) :
   VV c X (.Compare a [op,op'] [b,d] pos) true (f3 g g' fa fb fc):=⟨PE.mono (qaf6 ho ho' ha.h hb.h hc.h hm) (qaG7 h h')⟩
def Hd(x:D):Option D:=match x with
 | .lst _ ys=>(intsD ys).bind λ ns=>gd (ns.length<=1000) (.int (qm4 ns))
 | _=>none
theorem vlenS{p cpos:Pos}(hml:X.mg "len" = none)(hms:X.mg "set" = none)(ha:VV c X a oa fa)(hgl:Gl X "len" := by rfl)(hgs:Gl X "set" := by rfl)(hc:X.calm=true:=by rfl)(he:starEach [a] X.env=(false,eval a X.env)::starEach [] X.env:=by rfl)(hpl:((backTo cpos (starEach [] X.env)).any λ x=>x.1)=false:=by rfl)(he2:starEach [.Call (.Name "set" p2) [a] [] cpos] X.env=(false,eval (.Call (.Name "set" p2) [a] [] cpos) X.env)::starEach [] X.env:=by rfl)(hpl2:((backTo pos (starEach [] X.env)).any λ x=>x.1)=false:=by rfl) :
   VV c X (.Call (.Name "len" p) [.Call (.Name "set" p2) [a] [] cpos] [] pos) true (f1 Hd fa):=by
 refine⟨PE.mono (cbi qat4 hml (qc4 (cty (qat1 hc) hms (qc4 ha.h ql6 he) hgs (by rfl) (by decide) (by decide) he hpl) ql6 he2) hgl (by rfl) (by decide) (by decide) he2 hpl2) λ σ H Q ⟨F,ds,A,d,S,e,q⟩=>?_⟩;obtain⟨x,e1,e2⟩:=qaF6.mp e;cases x with
 | lst z ys =>
   obtain⟨ns,e3,e4⟩:=zA1.mp e2;obtain⟨hl,rfl⟩:=qw8 e4;refine⟨F,ds,A,_,S,e1,λ v H1 B1 r1 s1 n1=>?_⟩;obtain⟨a,vs,A2,rfl,hs,rs,_⟩:=r1.lst_inv;cases rs.intsD e3;refine⟨a,ns,rfl,.inl (.inl hs),hl,λ p St hp=>⟨p,St,_,rfl,qc2,?_⟩⟩;exact q _ _ [] (.int _) (s1.trans (Same.new hp)) λ _=>New.nil
 | _=>cases e2
def B6(f:Ds->Option D):VSp:=λ ds Q _=>orF (f ds) λ d=>Q d ds
theorem qx4{f:Ds->Option D}:Bl (B6 f):=λ ds Q Q' xe xe' hQ _=>qa4 λ d=>hQ d ds
def wOf(l:List Bool)(i:Nat):Bool:=l.getD i false
end
section
variable{c:Vc}{X:Cx}{NY:List Str}{sc:Scope}{src:List (Option Nat)}{tg elt e o a b:Expr}{ifs:List Expr}{g:VTG}{qf:VTT}{te:VT}{pos p0:Pos}{x xn:Str}
def Hv(en:Ds->List D)(src:List (Option Nat))(i:Nat)(g:VTG)(qf:VTT)(te:VT):VT:=λ ds Q xe=>orF (rdN i ds) λ d=>orF d.lstOf λ ys=>D.imms ys=true/\Ei g qf te (λ acc ι'=>Q (.lst false acc) ((Ex src ι' (Br src (ds.set i .unk)).2).set i d)) (en ys) [] (Br src (ds.set i .unk)).1
theorem qT9{en:Ds->List D}(bl:Blk X NY sc src tg ifs elt g qf te):Ft (Hv en src i g qf te):=λ ds Q Q' xe xe' hQ hx=>qa4 λ d=>qa4 λ ys=>And.imp_right (qj2 bl (λ acc ι=>hQ _ _) _ _ _)
theorem qay4{K:PySem.W.Frag}{en:Ds->List D}{wi:TI}{J:Addr->It}(bl:Blk X NY sc src tg ifs elt g qf te)(hN:X.N[i]? = some xn)(hw:∀{a:Addr}{vs:List V}{z:Bool}{ys:Ds}{T:List Addr}{τ:List (Option V)}{o0:Ds}{Dd:Addr}{F0:Addr->Prop}{H0 H:Hp}{A0:List Addr}{K0:Ds->Ds->Prop}{av:List (Option V)}{Q:Hp->Prop}{σ':St},D.imms ys=true->Mid src av (λ F H=>Rep F H (.ref a) (.lst z ys) T/\H a=some (.lst vs)) T τ o0 Dd F0 H0 A0 g qf te K0 (en ys) σ' H ->
     (∀ σ2 H2,Mid src av (λ F H=>Rep F H (.ref a) (.lst z ys) T/\H a=some (.lst vs)) T τ o0 Dd F0 H0 A0 g qf te K0 [] σ2 H2->Q H2)->qx6 (J a) (qn4 src g) (qn3 src qf) (Bo src te) Dd Q σ' H)(hwi:∀ σ H R,Fy i σ H (λ x H1=>∃ a,x=.ref a/\(∃ xs,SqL K H1 a xs)/\R (J a) H1)->wi σ H R):Imp c X (Hv en src i g qf te) (Ea wi src (qn4 src g) (qn3 src qf) (Bo src te)):=by
 rintro D4 s σ H Q I ⟨F,ds,A,xe,S,x,q⟩;have hlt:=bl.lt D4 σ H s I;have hi:=qu1 hN D4 σ H s I;refine hwi σ H _ ?_;obtain⟨d,ed,q⟩:=qa7.mp q;obtain⟨ed,hk⟩:=qn8.mp ed;obtain⟨ys,ey,hm,q⟩:=qa7.mp q;obtain⟨z,rfl⟩:=qu2 ey;obtain⟨v,B,C,h1,h2,h3,h4⟩:=S.put1 ed D.noConfusion;have h1':=h1;rw[zAs hi] at h1;obtain⟨A1,q1,q2⟩:=h4 .unk [] (Kp.same (F:=F) λ _ _ z=>z) (λ _ _ z=>z) (.unk v);have o1:Ok F H (B++A1):=S.ok.count λ b=>by rw[zA0,q2,h3];simp
 have s1:Stp F H A F H (B++A1):=⟨λ b o e _=>e,λ b o e z=>by rw[zA0,q2];have:=h3 b;simp;lia,λ _ f=>f,λ _ _ _ _ f=>f⟩
 have S1:Sta c F H σ (ds.set i .unk) A1:=⟨q1,o1.right,S.len,S.ag⟩
 obtain⟨a,vs,Ael,rfl,ha,rs,_⟩:=h2.lst_inv;refine⟨.ref a,h1,a,rfl,⟨vs,.inl (.inl ha)⟩,λ Dd hD=>hw hm (qB3 hlt S1 o1 ⟨h2,ha⟩ qo2 hD (qj2 bl (λ acc ι q v H' F' B' A' rv S' hp ok s=>?_) _ _ _ q)) λ σ2 H2 m=>qB4 hlt S1 m⟩;obtain⟨A2,k1,k2⟩:=qG0 S'.loc h1' hp.1;have hc:∀ b,(B'++A2).count b<=(B'++(B++A')).count b:=λ b=>by have:=k2 b;simp only[zA0] at *;lia
 exact q v H' F' B' A2 rv ⟨k1,(ok.count hc).right,S.len,S.ag⟩ (ok.count hc) ((s1.trans s).count hc)
theorem qaW0{K:PySem.W.Frag}(bl:Blk X NY sc src tg ifs elt g qf te)(hN:X.N[i]? = some xn):Imp c X (Hv (λ ys=>ys) src i g qf te) (Ea (G1 K (Fy i)) src (qn4 src g) (qn3 src qf) (Bo src te)) :=
 qay4 (K:=K) (J:=Itl K) bl hN (λ hm m hQ=>qN8 bl hm m hQ) λ σ H R h=>h
theorem qaO5{K:PySem.W.Frag}(bl:Blk X NY sc src tg ifs elt g qf te)(hN:X.N[i]? = some xn):Imp c X (Hv enD src i g qf te) (Ea (Im K (Ig (Fy i) tNil)) src (qn4 src g) (qn3 src qf) (Bo src te)) :=
 qay4 (K:=K) (J:=Ite K) bl hN (λ hm m hQ=>qT4 bl hm m hQ) λ σ H R ⟨v,hv,a,e,hx,hr⟩=>⟨v,hv,a,by rw[e],hx,hr⟩
theorem ecN(i:Nat)(bl:Blk X NY sc src tg ifs elt g qf te)(hN:X.N[i]? = some xn:=by rfl)(hv:Vis X.env.scope xn:=by first | exact Or.inl rfl | exact Or.inr (Or.inl rfl) | exact Or.inr (Or.inr rfl))(hd:(xn == ("__debug__" : Str))=false:=by decide)(hcd:(xn == ("__classdict__" : Str))=false:=by decide)(hc:X.calm=true:=by rfl)(ck:qB5 X NY src sc=true:=by rfl)(hs:∀ x,foldedSetIterable (.Name xn p0) X.env x=pure x:=by intro _;rfl):VE c X (.ListComp elt [⟨tg,.Name xn p0,ifs,0⟩] sc pos) (Hv (λ ys=>ys) src i g qf te) :=
 qY5 (qz9 NY src (qE1 (qt2 hN hv hd hcd)) bl.pg bl.pf bl.pe hc ck hs) (qaW0 bl hN) (qT9 bl)
theorem ecEN(i:Nat){elts:List Expr}{x1:Nat}{p cpos:Pos}(hm:X.mg "enumerate" = none)(bl:Blk X NY sc src (.Tuple elts x1 tpos) ifs elt g qf te)(hN:X.N[i]? = some xn:=by rfl)(hv:Vis X.env.scope xn:=by first | exact Or.inl rfl | exact Or.inr (Or.inl rfl) | exact Or.inr (Or.inr rfl))(hd:(xn == ("__debug__" : Str))=false:=by decide)(hcd:(xn == ("__classdict__" : Str))=false:=by decide)(hgl:Gl X "enumerate" := by rfl)(hs1:starEach [.Name xn p0] X.env=[(false,eval (.Name xn p0) X.env)]:=by rfl)(hc:X.calm=true:=by rfl)(ck:qB5 X NY src sc=true:=by rfl)(hs:∀ x,foldedSetIterable (.Call (.Name "enumerate" p) [.Name xn p0] [] cpos) X.env x=pure x:=by intro _;rfl):VE c X (.ListComp elt [⟨.Tuple elts x1 tpos,.Call (.Name "enumerate" p) [.Name xn p0] [] cpos,ifs,0⟩] sc pos) (Hv enD src i g qf te) :=
 qY5 (qz9 NY src (qaw0 hgl hm (qc4 (qt2 hN hv hd hcd) ql6 hs1) hs1) bl.pg bl.pf bl.pe hc ck hs) (qaO5 bl hN) (qT9 bl)
theorem qam0{d0:D}{ds:Ds}(h:ds[i]? = some (.hole w)):bk1 i [] w d0 ds=some (ds.set i d0):=by
 unfold bk1 Am;rw[qI7 h];simp only[if_true];unfold Am;rw[qG1 h]
theorem qj8{g:VTG}{qf:VTT}{te:VT}{K:Ds->Ds->Prop}(I:Ds->Prop)(f:D->Option D):∀(xs:List D)(acc ι:Ds),acc.length+xs.length < big->I ι->(∀ x∈xs,∀ ι acc,I ι->∀ R:Ds->Ds->Prop,(∀ ι',I ι'->R (acc++(f x).toList) ι')->acc.length < big->g x ι λ ι1=>qf ι1 (λ b ι2=>if b=true then te ι2 (λ d ι3=>acc.length < big/\R (acc++[d]) ι3) (λ _ _=>False) else R acc ι2) (λ _ _=>False))->(∀ ι',I ι'->K (acc++xs.filterMap f) ι')->Ei g qf te K xs acc ι
 | [],acc,ι,_,h,_,hK=>by
   have:=hK ι h
   rw[List.filterMap_nil,zAf] at this;exact this
 | x::xs,acc,ι,hl,h,hs,hK=>by
   refine hs x zA7 ι acc h (λ a i=>Ei g qf te K xs a i) (λ ι' hι=>?_) (by simp at hl;lia);refine qj8 I f xs _ ι' ?_ hι (λ y hy=>hs y (zA6 _ hy)) λ ι2 h2=>?_
   . cases hf:f x with
     | none=>simp at hl ⊢;lia
     | some y=>simp at hl ⊢;lia
   have:=hK ι2 h2
   rw[zBc] at this;cases hf:f x with
   | none=>rw[hf] at this;simpa using this
   | some y=>rw[hf] at this;simpa using this
end
section
variable{X:Cx}
theorem qE0(ns:List Int):∀ n:Nat,preSum (λ i=>ns.getD i 0) n=(ns.take n).sum
 | 0=>rfl
 | n+1=>by
   show preSum (λ i=>ns.getD i 0) n+ns.getD n 0=_;rw[qE0 ns n,sum_take_succ]
theorem qal5(hc:X.calm=true):CallR X (.builtin "sum") (λ xs H Q=>∃(a:Addr)(ns:List Int),xs=[.ref a]/\SqL X.K H a (ns.map V.int)/\Q (.int ns.sum) H):=by
 intro D4 s σ H xs us Q I r h;obtain⟨a,ns,rfl,ha,q⟩:=h;obtain⟨u,rfl,ru⟩:=B7 r;cases ru;have hh:=I.ok.hd hc;obtain⟨its,rv,pl,hz⟩:=I.list ha;refine call_sum_walkG (wpAny_pyIter_list pl.isList ?_);have hlt:a < s.heap.objs.size:=let ⟨o,ho,_⟩:=pl.isList;zAd ho
 refine⟨s.heap.objs.size,_,_,_,_,_,λ i=>ns.getD i 0,rfl,Walks.list (A:=X.A.in1) hh _ a (zAn hlt) its.toArray,⟨⟨_,zAu _ rfl,rfl,rfl⟩,?_⟩,?_,?_,?_⟩
 . exact pl.isList.at λ o e=>zA5 _ e
 . intro b hb
   show b < (s.heap.push _).objs.size;rw[Heap.size_push];simp only[zAi,zBd,or_false] at hb;rcases hb with rfl | rfl
   . exact zBv _
   exact Nat.lt_succ_of_lt hlt
 . intro i v hv
   have hv:its[i]? = some v:=by simpa using hv
   have hi:i < ns.length:=by
     have h1:=(zA4.mp hv).1;have h2:=rv.length;rw[zAc] at h2;lia
   obtain⟨u,hu,ru⟩:=rv.get (i:=i) (x:=.int ns[i]) (by simp[hi]);rw[hv] at hu;cases hu;obtain⟨t,rfl⟩:=ru;exact⟨t,by simp[List.getD,hi]⟩
 intro h' tk t' hk;have e:preSum (λ i=>ns.getD i 0) its.toArray.size=ns.sum:=by
   have h2:=rv.length;rw[zAc] at h2;rw[qE0,zA2,<- h2,zC3]
 rw[e];refine⟨.int _,H,?_,⟨_,rfl⟩,q⟩;exact I.kept (t':=tk) λ b o e=>hk b o (by simp;exact zAn (zAd e)) (zA5 _ e)
def gSum(x:D):Option D:=match x with
 | .lst _ ys=>(intsD ys).map λ ns=>.int ns.sum
 | _=>none
theorem qaQ0{K:PySem.W.Frag}:CS1 true (λ xs H Q=>∃(a:Addr)(ns:List Int),xs=[.ref a]/\SqL K H a (ns.map V.int)/\Q (.int ns.sum) H) gSum:=by
 intro F H v x B d Q r h q;cases x with
 | lst z ys =>
   obtain⟨ns,h1,rfl⟩:=zAa.mp h;obtain⟨a,vs,A,rfl,hs,rs,_⟩:=r.lst_inv;cases rs.intsD h1;exact⟨a,ns,rfl,.inl (.inl hs),q _ H [] (.int _) (λ _ _ z=>z) New.nil⟩
 | _=>cases h
end
section
variable{X:Cx}
def Gp(ns:List Int)(m:Int):Prop:=m∈ns/\∀ x∈ns,x<=m
theorem qat3(hc:X.calm=true):CallR X (.builtin "max") (λ xs H Q=>∃(a:Addr)(ns:List Int),xs=[.ref a]/\ns≠[]/\SqL X.K H a (ns.map V.int)/\∀ m,Gp ns m->Q (.int m) H):=by
 intro D4 s σ H xs us Q I r h;obtain⟨a,ns,rfl,hne,ha,q⟩:=h;obtain⟨u,rfl,ru⟩:=B7 r;cases ru;have hh:=I.ok.hd hc;obtain⟨its,rv,pl,hz⟩:=I.list ha;have hlt:a < s.heap.objs.size:=let ⟨o,ho,_⟩:=pl.isList;zAd ho
 have hlen:its.length=ns.length:=by
   have h2:=rv.length;rw[zAc] at h2;lia
 have hpos:=zC1.mpr hne;have hat:∀ i v,its.toArray[i]? = some v->∃ t,v=Value.int (ns.getD i 0) t:=by
   intro i v hv;have hv:its[i]? = some v:=by simpa using hv
   have hi:i < ns.length:=by
     have h1:=(zA4.mp hv).1;lia
   obtain⟨u,hu,ru⟩:=rv.get (i:=i) (x:=.int ns[i]) (by simp[hi]);rw[hv] at hu;cases hu;obtain⟨t,rfl⟩:=ru;exact⟨t,by simp[List.getD,hi]⟩
 refine call_max_walk (wpAny_pyIter_list pl.isList ?_);refine⟨s.heap.objs.size,_,_,_,_,_,_,rfl,Walks.list (A:=X.A.in1) hh _ a (zAn hlt) its.toArray,⟨⟨_,zAu _ rfl,rfl,rfl⟩,?_⟩,?_,by rw[zA2];lia,CmpOf.ints_gt (λ i=>ns.getD i 0) hat,λ v h' tk hP hk=>?_⟩
 . exact pl.isList.at λ o e=>zA5 _ e
 . intro b hb
   show b < (s.heap.push _).objs.size;rw[Heap.size_push];simp only[zAi,zBd,or_false] at hb;rcases hb with rfl | rfl
   . exact zBv _
   exact Nat.lt_succ_of_lt hlt
 obtain⟨t,rfl⟩:=hat _ _ hP;have hb:=argBest_gt (λ i=>ns.getD i 0) (its.toArray.size - 1);rw[zA2,hlen] at hb;refine⟨.int _,H,?_,⟨_,rfl⟩,q _ ⟨?_,λ x hx=>?_⟩⟩
 . exact I.kept (t':=tk) λ b o e=>hk b o (by simp;exact zAn (zAd e)) (zA5 _ e)
 . rw[zA2,hlen]
   rw[zBs,zAz (by lia)];exact List.getElem_mem _
 obtain⟨j,hj,rfl⟩:=List.getElem_of_mem hx
 have:=hb.2 j (by lia)
 rw[zA2,hlen];simpa[List.getD,hj] using this
def Jc:List Int->Option Int
 | []=>none
 | x::r=>some (r.foldl max x)
theorem qW6:∀(r:List Int)(x:Int),x<=r.foldl max x/\(∀ y∈r,y<=r.foldl max x)/\(r.foldl max x=x∨r.foldl max x∈r)
 | [],x=>⟨Int.le_refl _,λ _ h=>(by cases h),.inl rfl⟩
 | y::r,x=>by
   obtain⟨h1,h2,h3⟩:=qW6 r (max x y);show x<=r.foldl max (max x y)/\(∀ z∈y::r,z<=r.foldl max (max x y))/\(r.foldl max (max x y)=x∨r.foldl max (max x y)∈y::r)
   refine⟨by lia,λ z hz=>?_,?_⟩
   . rcases zAi.mp hz with rfl | hz
     . lia
     exact h2 z hz
   rcases h3 with h3 | h3
   . by_cases h:y<=x
     . exact .inl (by lia)
     exact .inr (by rw[show r.foldl max (max x y)=y by lia];exact zA7)
   exact .inr (zA6 _ h3)
theorem qai7{ns:List Int}{m k:Int}(h:Gp ns m)(e:Jc ns=some k):m=k:=by
 cases ns with
 | nil=>cases e
 | cons x r =>
   cases e;obtain⟨h1,h2,h3⟩:=qW6 r x;have a1:r.foldl max x<=m:=by
     rcases h3 with h3 | h3
     . rw[h3];exact h.2 _ zA7
     exact h.2 _ (zA6 _ h3)
   rcases zAi.mp h.1 with e | e
   . lia
   have:=h2 _ e;lia
def gMaxL(x:D):Option D:=match x with
 | .lst _ ys=>(intsD ys).bind λ ns=>(Jc ns).map .int
 | _=>none
theorem qaQ1{K:PySem.W.Frag}:CS1 true (λ xs H Q=>∃(a:Addr)(ns:List Int),xs=[.ref a]/\ns≠[]/\SqL K H a (ns.map V.int)/\∀ m,Gp ns m->Q (.int m) H) gMaxL:=by
 intro F H v x B d Q r h q;cases x with
 | lst z ys =>
   obtain⟨ns,h1,h⟩:=zA1.mp h;obtain⟨k,h2,rfl⟩:=zAa.mp h;obtain⟨a,vs,A,rfl,hs,rs,_⟩:=r.lst_inv;cases rs.intsD h1;exact⟨a,ns,rfl,λ z=>(by subst z;cases h2),.inl (.inl hs),λ m hm=>by rw[qai7 hm h2];exact q _ H [] (.int _) (λ _ _ z=>z) New.nil⟩
 | _=>cases h
end
structure MdN(K:PySem.W.Frag)(C:Addr)(m qual:Str)(st:Stmt)(f:Addr)(fd:FuncData)(ps:List Str):Prop where
 F:FunE K m qual st f fd
 b:Binds K fd ps []
 bn:Binds K fd ps [.none]
 me:Ie K C m f
 isf:PySem.W.isFn K (.ref f)=true
section
variable{X:Cx}{c:Vc}
theorem qaG3{x m qual:Str}{C f:Addr}{fd:FuncData}{st:Stmt}{ps:List Str}{k:Nat}{s:VSp}{e:Expr}{es:List Expr}{tr:VTB}{p pos:Pos}(cl:Cl X.K X.mg x C)(M:Mk X.K C f)(D:MdN X.K C m qual st f fd ps)(G:VFn X.prog X.w X.K X.mg X.base k f fd ps s)(hl:Lands X c.E)(hr:Room (k+1) X.A)(ha:VAs c X (e::es) tr)(hg:Gl X x:=by rfl)(hdb:(x == ("__debug__" : Str))=false:=by decide)(he:starEach (e::es) X.env=(false,eval e X.env)::starEach es X.env:=by rfl)(hpl:(backTo pos (starEach es X.env)).any (·.1)=false:=by rfl):VE c X (.Call (.Name x p) (e::es) [] pos) (qY6 C s [] tr) :=
 ⟨PE.mono (qaw2 M G.ok hr hg cl.m D.b .nil hl.passes ha.h hdb he hpl) (qax2 qp0 G.m ha),qV5 G.m ha⟩
end
theorem mdmkN{K:PySem.W.Frag}{C:Addr}{m qual:Str}{st:Stmt}{f T:Addr}{ps:List Str}{oc to:Value}{od td an:Option Addr}{osl tsl:Array (Option Value)}{kV doc pm cdv ct:Value}(l:K.lookup f=some ⟨oc,od,.func (PySem.W.fnOf m qual (qf2 st) (qc8 st) (qa3 st) (.ref T) kV doc pm an cdv ct),osl⟩)(c:PySem.W.codeIn K cdv qual=true)(k:PySem.W.keepIn K (.ref f)=true)(a:PySem.W.findIn K (.ref C) m=some (some (.ref f)))(i:PySem.W.isFn K (.ref f)=true)(t:K.lookup T=some ⟨to,td,.seq #[.none] n,tsl⟩)(b:∀(kV doc pm:Value)(an:Option Addr)(cdv ct:Value)(us:List Value),us.length=ps.length->∃ k,bindArgs (PySem.W.fnOf m qual (qf2 st) (qc8 st) (qa3 st) (.ref T) kV doc pm an cdv ct) ⟨us,[]⟩=seqItems? (.ref T) >>= k/\k (some #[.none])=pure (ps.zip us))(bn:∀(kV doc pm:Value)(an:Option Addr)(cdv ct:Value)(us:List Value),us.length+1=ps.length->∃ k,bindArgs (PySem.W.fnOf m qual (qf2 st) (qc8 st) (qa3 st) (.ref T) kV doc pm an cdv ct) ⟨us,[]⟩=seqItems? (.ref T) >>= k/\k (some #[.none])=pure (ps.zip (us++[.none]))) :
   MdN K C m qual st f (PySem.W.fnOf m qual (qf2 st) (qc8 st) (qa3 st) (.ref T) kV doc pm an cdv ct) ps :=
 ⟨⟨⟨_,_,_,_,_,_,_,_,_,_,rfl,l,c⟩⟩,λ s us X hl=>(by
   rw[zAf] at hl ⊢;obtain⟨k,h1,h2⟩:=b kV doc pm an cdv ct us hl;exact PySem.W.binds_K X rfl t rfl h1 h2),λ s us X hl=>(by
   obtain⟨k,h1,h2⟩:=bn kV doc pm an cdv ct us (by rw[zA8] at hl;exact hl);exact PySem.W.binds_K X rfl t rfl h1 h2),⟨a,i,k⟩,i⟩
def Es(zs ws:List V):Bool:=(List.range (min zs.length ws.length)).all (λ i=>eqV (zs.getD i .non) (ws.getD i .non))&&zs.length == ws.length
theorem qas3(h:ws.all flatV=true):Es ws ws=true:=by
 unfold Es;rw[zBe,zCa,zB4];intro i hi;rw[Nat.min_self] at hi;have hi:=zA9.mp hi;rw[zBs,zAz hi];exact qu9 (zB4.mp h _ (List.getElem_mem hi))
def Jd(H:Hp)(ws:List V):V->Bool
 | .ref p=>match H p with
   | some (.tup zs)=>Es zs ws
   | _=>false
 | _=>false
def F8(H:Hp)(ws:List V):Value->Bool
 | .ref p=>Jd H ws (.ref p)
 | _=>false
def qar0(H:Hp)(v:V):Prop:=∃ q zs,v=.ref q/\H q=some (.tup zs)/\zs.all flatV=true
def rInT(K:PySem.W.Frag)(neg:Bool):R2:=λ x y H Q=>∃ a ws p vs,x=.ref a/\y=.ref p/\H a=some (.tup ws)/\ws.all flatV=true/\(SqL K H p vs∨SqT K H p vs)/\(∀ v∈vs,qar0 H v)/\Q (.bl (if neg then !vs.any (Jd H ws) else vs.any (Jd H ws))) H
theorem qT1{H:Hp}{ws:List V}:∀{vs:List V}{us:List Value},Vals vs us->(∀ v∈vs,qar0 H v)->us.any (F8 H ws)=vs.any (Jd H ws)
 | _,_,.nil,_=>rfl
 | v::vs,u::us,.cons r t,h=>by
   obtain⟨q,zs,rfl,_⟩:=h v zA7;cases r;rw[zBl,zBl,qT1 t λ v hv=>h v (zA6 _ hv)];rfl
section
variable{X:Cx}{D4:List (Addr×Obj)}{σ:St}{H:Hp}{s:Shared}
theorem qO1(I:Inv X D4 σ H s){A:Around}{a:Addr}{ws:List V}(hA:A.units+2 < cLine)(ha:H a=some (.tup ws))(fw:ws.all flatV=true):∀{vs:List V}{us:List Value},Vals vs us->(∀ v∈vs,qar0 H v)->∀ u∈us,SeqAt.EqAt A s u (.ref a) (F8 H ws u)
 | _,_,.nil,_=>λ u hu=>by cases hu
 | v::vs,u::us,.cons r t,h=>λ u' hu=>by
   rcases zAi.mp hu with rfl | hu
   . obtain⟨q,zs,rfl,hq,fz⟩:=h v zA7
     cases r;have e:F8 H ws (.ref q)=Es zs ws:=by
       show (match H q with | some (.tup zs)=>Es zs ws | _=>false)=_;rw[hq]
     rw[e];by_cases ne:q=a
     . subst ne
       rw[ha] at hq;cases hq;rw[qas3 fw];exact SeqAt.EqAt.same _
     exact(EqD.tups (n:=0) (e:=λ i=>eqV (zs.getD i .non) (ws.getD i .non)) ne hq ha λ i x y e1 e2=>(by
       have h1:=zB4.mp fz x (zAt e1);have h2:=zB4.mp fw y (zAt e2);have e3:zs.getD i .non=x:=by rw[zBs,e1];rfl
       have e4:ws.getD i .non=y:=by rw[zBs,e2];rfl
       rw[e3,e4];exact .flat h1 h2)).at I rfl rfl (by lia)
   exact qO1 I hA ha fw t (λ v hv=>h v (zA6 _ hv)) u' hu
end
theorem qaU1{X:Cx}(hu:X.A.units+64 < cLine):OpR X (compareOp .In) (rInT X.K false):=by
 intro D4 s σ H x y v u Q I rx ry h;obtain⟨a,ws,p,vs,rfl,rfl,ha,fw,hq,hv,q⟩:=h;cases rx;cases ry;rcases hq with hq | hq
 . obtain⟨its,r,pl,hz⟩:=I.list hq
   refine SeqAt.in_listAt (F8 H ws) pl.isList (λ w hw=>qO1 I (by have:=qm7 X.A;lia) ha fw r hv w (by simpa using hw)) ⟨.bl _,H,I,rfl,?_⟩;rw[show its.toArray.any (F8 H ws)=its.any (F8 H ws) by simp,qT1 r hv];exact q
 obtain⟨its,r,pl,hz⟩:=I.tuple hq;refine SeqAt.in_tupleAt (F8 H ws) pl (λ w hw=>qO1 I (by have:=qm7 X.A;lia) ha fw r hv w (by simpa using hw)) ⟨.bl _,H,I,rfl,?_⟩;rw[show its.toArray.any (F8 H ws)=its.any (F8 H ws) by simp,qT1 r hv];exact q
def tupF:D->Option (List V)
 | .tup xs=>flats xs
 | _=>none
def tupsF:List D->Option (List (List V))
 | []=>some []
 | d::r=>(tupF d).bind λ v=>(tupsF r).bind λ vs=>some (v::vs)
def gInT(neg:Bool)(x y:D):Option D:=(tupF x).bind λ ws=>y.elems.bind λ ys=>(tupsF ys).bind λ zss=>some (.bl (if neg then !zss.any (λ zs=>Es zs ws) else zss.any λ zs=>Es zs ws))
section
variable{F:Addr->Prop}{H:Hp}
theorem Rep.tupF{d:D}{B:List Addr}(r:Rep F H v d B)(h:LV.tupF d=some ws):∃ q,v=.ref q/\H q=some (.tup ws)/\ws.all L2.flatV=true:=by
 cases d with
 | tup xs =>
   obtain⟨a,vs,rfl,h1,q1⟩:=r.tup_inv;obtain⟨rfl,f⟩:=q1.flats h;exact⟨a,rfl,h1,f⟩
 | _=>cases h
theorem Reps.tupsF:∀{vs:List V}{ds:List D}{A:List Addr}{zss:List (List V)},Reps F H vs ds A->LV.tupsF ds=some zss->(∀ v∈vs,qar0 H v)/\vs.any (Jd H ws)=zss.any λ zs=>Es zs ws
 | _,_,_,_,.nil,h=>by cases h;exact⟨λ _ h=>(by cases h),rfl⟩
 | _,_,_,_,.cons r t,h=>by
   obtain⟨zs,h1,h⟩:=zA1.mp h;obtain⟨zss,h2,h⟩:=zA1.mp h;cases h;obtain⟨q,rfl,e1,f⟩:=r.tupF h1;obtain⟨g1,g2⟩:=t.tupsF h2;refine⟨λ v hv=>?_,?_⟩
   . rcases zAi.mp hv with rfl | hv
     . exact⟨q,zs,rfl,e1,f⟩
     exact g1 v hv
   rw[zBl,zBl,g2];show ((match H q with | some (.tup zs)=>Es zs ws | _=>false)||_)=_;rw[e1]
end
theorem qaT4{K:PySem.W.Frag}{neg:Bool}:Bb true (rInT K neg) (gInT neg):=by
 intro F H v w x y B d Q r h q;cases r with | @cons _ _ A _ _ _ r1 t=>cases t with | @cons _ _ A2 _ _ _ r2 _ =>
 obtain⟨ws,h1,h⟩:=zA1.mp h;obtain⟨ys,h2,h⟩:=zA1.mp h;obtain⟨zss,h3,h⟩:=zA1.mp h;cases h;obtain⟨p,rfl,e1,f⟩:=r1.tupF h1;obtain⟨a,vs,A3,rfl,hs,rs,_⟩:=r2.elems (K:=K) h2;obtain⟨g1,g2⟩:=rs.tupsF (ws:=ws) h3;refine⟨p,ws,a,vs,rfl,rfl,e1,f,hs,g1,?_⟩;rw[g2];exact q _ H [] (.bl _) (λ _ _ z=>z) New.nil
end LV
namespace L2
open PySem PySem.Spec PyProof.Rows
end L2
namespace LV
open PySem L2
section
variable{c:Vc}{X:Cx}{e o:Expr}{es:List Expr}{tr:VTB}{own:Bool}{g:FV}{pos apos:Pos}{qual m:Str}{st:Stmt}{f C:Addr}{fd:FuncData}{ps:List Str}{k:Nat}{s:VSp}{dvs:List V}{dv:Ds}
def Je(C:Addr)(m:Str)(s:VSp)(dv:Ds)(g:FV)(tr:VTB):VT:=λ ds Q xe=>orF (g ds) λ d=>d.imm=true/\d.isM C m=true/\tr ds (λ xs ps ds1=>s (d::(xs++dv)) (λ r ys=>orF (Am (.no::ps) ys ds1) λ ds2=>Q r ds2) (λ x ys=>orF (Am (.no::ps) ys ds1) λ ds2=>xe x ds2)) xe
theorem qah1(hs:Bl s)(ha:VAs c X es tr):∀ ds (Q Q':DK) (xe xe':XKd),(∀ d ds',Q d ds'->Q' d ds')->(∀ x ds',xe x ds'->xe' x ds')->Je C m s dv g tr ds Q xe->Je C m s dv g tr ds Q' xe' :=
 λ ds Q Q' xe xe' hQ hx=>qa4 λ d=>And.imp_right (And.imp_right (ha.m _ _ _ _ _ (λ xs ps ds1=>hs _ _ _ _ _ (λ d ys=>qa4 λ z=>hQ _ _) (λ x ys=>qa4 λ z=>hx _ _)) hx))
theorem qaD6(hd:Gv dvs dv)(hs:Bl s)(ha:VAs c X es tr):∀ σ H Q,Bj c (Je C m s dv g tr) σ H Q->Ga C m (E7 s) dvs c.E (liftV c own g) (Eu c tr) σ H Q:=by
 rintro σ H Q ⟨F,ds,A,xe,S,x,q⟩;obtain⟨d,e1,hi,hk,q⟩:=qa7.mp q;refine⟨F,ds,A,d,S,e1,λ v H1 B r s0 _=>?_⟩;obtain rfl:=r.imm hi;obtain⟨a,dx,fs,rfl,ha1,ha2⟩:=r.isM hk;refine⟨a,dx,fs,rfl,ha1,ha2,F,ds,A,xe,S.same s0,x.step (Stp.same s0),ha.m _ _ _ _ _ (λ xs ps ds2 q vs H2 F2 T2 A2 r2 pk S2 o2 s2=>?_) (λ _ _ z=>z) q⟩;have r1':Rep F2 H2 (.ref a) d []:=r.keep (s2.kp (S.same s0).ok (S.same s0).loc.cells) λ b hb=>by cases hb
 exact qal7 (vs:=.ref a::vs) (xs:=d::xs) hd hs S x (.cons r1' r2) (.no pk) S2 o2 ((Stp.same s0).trans s2) (λ d ds' h=>h) q
theorem qaG2{pl:Sem Bool}(D:Md X.K C m qual st f fd ps)(cl:Cls X.K C)(G:VFn X.prog X.w X.K X.mg X.base k f fd ps s)(hl:Lands X c.E)(hr:Room k X.A)(ho:VV c X o own g)(ha:VAs c X (e::es) tr)(hst:starEach (e::es) X.env=(false,eval e X.env)::starEach es X.env:=by rfl)(hpl:(backTo pos (starEach es X.env)).any (·.1)=false:=by rfl)(ht:eval (.Call (.Attribute o m apos) (e::es) [] pos) X.env=(do
     let ov <- eval o X.env
     standAt apos.atName
     let (f,first) <- holding [ov] (getMethod ov m pl)
     callWith pos f first (backTo pos (starEach (e::es) X.env)) (backToKw pos (keywordEach [] X.env))):=by rfl):VE c X (.Call (.Attribute o m apos) (e::es) [] pos) (Je C m s [] g tr) :=
 ⟨PE.mono (qaf4 ho.h cl D.me G.ok hr D.b .nil hl.passes ha.h hst hpl ht) (qaD6 qp0 G.m ha),qah1 G.m ha⟩
end
section
variable{F:Addr->Prop}{H:Hp}
def qaW4(ys xs:Ds):Option (Ds×D):=match xs with
 | [.int i]=>if 0<=i/\i < 2 ^ 63 then (ys[i.toNat]?).map λ d=>(ys.eraseIdx i.toNat,d) else none
 | _=>none
theorem qak6{α:Type}{xs:List α}{x:α}:∀{ys:List α},(xs++x::ys).eraseIdx xs.length=xs++ys:=λ{ys}=>by
 rw[List.eraseIdx_append_of_length_le (zA3 _),Nat.sub_self];rfl
theorem qaD4:Fm qaJ5 qaW4:=by
 intro F H a vs ys Ael ws xs T ys' d Q ha r rx h q
 match xs,h with
 | [.int i],h =>
   obtain⟨w,rfl,rw'⟩:=rx.one_inv;cases rw';have h:(if 0<=i/\i < 2 ^ 63 then (ys[i.toNat]?).map λ d=>(ys.eraseIdx i.toNat,d) else none)=some (ys',d):=h;by_cases hl:0<=i/\i < 2 ^ 63
   . rw[if_pos hl] at h
     obtain⟨e,h1,h2⟩:=zAa.mp h;cases h2;obtain⟨vs1,v,vs2,ys1,ys2,A1,B,A2,e1,e2,e3,e4,e5,l1,l2,l3⟩:=r.split h1;have hlt:i.toNat < ys.length:=(zA4.mp h1).1;have hv:vs[i.toNat]? = some v:=by rw[e1,<- e3,zBt (zA3 _),Nat.sub_self];rfl
     refine⟨a,vs,i,i.toNat,v,rfl,rfl,ha,by lia,hl.2,?_,hv,?_⟩
     . rw[r.len]
       exact PySem.StrLaws.seqIndex_nonneg hl.1 (by lia)
     have ev:vs.eraseIdx i.toNat=vs1++vs2:=by rw[<- e3,e1];exact qak6
     have ey:ys.eraseIdx i.toNat=ys1++ys2:=by rw[<- e4,e2];exact qak6
     rw[ev];exact q _ v (A1++A2) B (by rw[ey];exact l1.append l3) l2 λ b=>by rw[e5];simp only[zA0];lia
   rw[if_neg hl] at h;cases h
end
theorem rm{j k:Nat}{A:Around}(r:Room k A)(h:j<=k:=by decide):Room j A:=r.mono h
theorem VFn.mk2{P:Program}{w:World}{K:PySem.W.Frag}{mg:Str->Option Value}{base:Heap}{x qual:Str}{st:Stmt}{f:Addr}{fd:FuncData}{N ps:List Str}{k:Nat}{s:VSp}(Fu:Fun K x qual st f fd)(Sc:qa9 N ps (qa3 st))(W:Nat->Bool)(hs:Bl s)(h:∀ ds Q xe,s ds Q xe->ds.length=ps.length/\Gy W 0 ds=true)(hbody:∀(cdv:Value)(A:Around)(outer:List Env)(sh:Shared)(H:Hp)(E:XK)(av:List (Option V)),Room k (A.deeper (PyProof.Rows.envOfC qual (qa3 st) sh.heap.objs.size f cdv)) ->
     ∃ t,VSs ⟨E,W,av,[]⟩ (D9 (CX1 P w) P w K mg base N qual (qa3 st) f cdv A outer sh H E) (qc8 st) t/\∀ ds Q xe,s ds Q xe->t (Ht W ds Q xe) (ds++List.replicate (N.length - ds.length) .unk)) :
   VFn P w K mg base (k+1) f fd ps s:=VFn.mk' Fu Sc W hs (λ ds Q xe z=>(h ds Q xe z).1) (λ ds Q xe z=>(h ds Q xe z).2) hbody
def spPu(g:D->D->Option D):Sp:=λ vs H Q _=>∃ F u x d d1 d2 A B w,vs=[u,x]/\Rep F H u d1 A/\Rep F H x d2 B/\g d1 d2=some d/\d.flat=some w/\Q w H
section
variable{c:Vc}{X:Cx}{e:Expr}{pos apos:Pos}{m qual:Str}{st:Stmt}{f C:Addr}{fd:FuncData}{ps:List Str}{k:Nat}{g:D->D->Option D}{fb:FV}{ob:Bool}
def fPu(C:Addr)(m:Str)(g:D->D->Option D)(i:Nat)(fb:FV):FV:=λ ds=>(rdN i ds).bind λ x=>if x.isM C m=true then (fb ds).bind λ y=>(g x y).bind λ d=>d.flat.map λ _=>d else none
theorem Rep.ofFlat{F:Addr->Prop}{H:Hp}{d:D}{w:V}(h:d.flat=some w):Rep F H w d []:=by
 cases d with
 | non=>cases h;exact .non
 | bl b=>cases h;exact .bl b
 | int i=>cases h;exact .int i
 | str x=>cases h;exact .str x
 | _=>cases h
theorem qaR5{pl:Sem Bool}(i:Nat){xn:Str}{p0:Pos}(D:Md X.K C m qual st f fd ps)(cl:Cls X.K C)(G:Bq X.prog X.w X.K X.mg X.base CX0 k f fd ps (spPu g))(hr:Room k X.A)(hb:VV c X e ob fb)(hN:X.N[i]? = some xn:=by rfl)(hv:Vis X.env.scope xn:=by first | exact Or.inl rfl | exact Or.inr (Or.inl rfl) | exact Or.inr (Or.inr rfl))(hd:(xn == ("__debug__" : Str))=false:=by decide)(hcd:(xn == ("__classdict__" : Str))=false:=by decide)(hst:starEach [e] X.env=(false,eval e X.env)::starEach [] X.env:=by rfl)(hpl:(backTo pos (starEach [] X.env)).any (·.1)=false:=by rfl)(ht:eval (.Call (.Attribute (.Name xn p0) m apos) [e] [] pos) X.env=(do
     let ov <- eval (.Name xn p0) X.env
     standAt apos.atName
     let (f,first) <- holding [ov] (getMethod ov m pl)
     callWith pos f first (backTo pos (starEach [e] X.env)) (backToKw pos (keywordEach [] X.env))):=by rfl):VV c X (.Call (.Attribute (.Name xn p0) m apos) [e] [] pos) true (fPu C m g i fb):=by
 refine⟨λ D4 s σ H Q I ⟨F,ds,A,d,S,e0,q⟩=>qaf4 (qt2 hN hv hd hcd) cl D.me G hr D.b .nil pass0 (qc4 hb.h ql6 hst) hst hpl ht D4 s σ H Q I ?_⟩;obtain⟨x,h1,e0⟩:=zA1.mp e0;by_cases hm:x.isM C m=true
 . rw[if_pos hm] at e0
   obtain⟨y,h2,e0⟩:=zA1.mp e0;obtain⟨d',h3,e0⟩:=zA1.mp e0;obtain⟨w,h4,e0⟩:=zAa.mp e0;cases e0;obtain⟨v,B0,hv0,r0,_⟩:=S.name (qu1 hN D4 σ H s I) h1;obtain⟨a,dx,fs,rfl,ha1,ha2⟩:=r0.isM hm;refine⟨.ref a,hv0,a,dx,fs,rfl,ha1,ha2,F,ds,A,y,S,h2,λ v' H1 B r s1 _=>?_⟩;exact⟨F,_,_,_,x,y,B0,B,w,rfl,r0.same s1,r,h3,h4,q w H1 [] (Rep.ofFlat h4) s1 λ _=>New.nil⟩
 rw[if_neg hm] at e0;cases e0
def tbBV(pf:PF)(f:FV):VTB:=λ ds Q _=>orF (pf ds) λ q=>orF (A7 ds q.1 q.2) λ d=>d.known=true/\orF (f ds) λ x=>x.imm=true/\∀ w,Q [d,x] [.pl q.1 q.2 w,.no] (Bd ds q.1 q.2 (.hole w))
theorem vaBV{o e2:Expr}{pf:PF}{fv:FV}{own:Bool}(ha:VP c X o pf)(hb:VV c X e2 own fv)(hs:starEach (o::[e2]) X.env=(false,eval o X.env)::starEach [e2] X.env:=by rfl)(hs2:starEach [e2] X.env=(false,eval e2 X.env)::starEach [] X.env:=by rfl):VAs c X [o,e2] (tbBV pf fv):=by
 refine⟨PA.mono (qc4 ha.h (qc4 hb.h ql6 hs2) hs) λ σ H Q ⟨F,ds,A,xe,S,x,q⟩=>?_,λ ds Q Q' xe xe' hQ hx=>qa4 λ z=>qa4 λ d=>And.imp_right (qa4 λ y=>And.imp_right λ h w=>hQ _ _ _ (h w))⟩;obtain⟨⟨i,p⟩,e1,q⟩:=qa7.mp q;obtain⟨d,e2,hk,q⟩:=qa7.mp q;obtain⟨y,e3,hi,q⟩:=qa7.mp q;refine⟨F,ds,A,i,p,d,S,e1,e2,qo8 hk,λ u w H0 hu hw s0=>?_⟩;refine⟨F,ds,A,y,S.same s0,e3,λ v H1 Bv rv s1 _=>?_⟩;obtain rfl:=rv.imm hi;have s:Same H H1:=λ b o e=>s1 b o (s0 b o e)
 obtain⟨B,C,r,h3,h4⟩:=(S.same s0).place e2 (qo8 hk) hu hw;have r:=r.same s1;obtain⟨A1,q1,q2⟩:=h4 (.hole w) [] (Kp.same (F:=F) λ _ _ z=>z) (λ _ _ z=>z) (.hole w);have q1:=q1.same s1;have o1:Ok F H1 (B++A1):=(S.same s).ok.count λ b=>by rw[zA0,q2,h3];simp
 have s2:Stp F H A F H1 (B++A1):=⟨λ b o e _=>s b o e,λ b o e z=>by rw[zA0,q2];have:=h3 b;simp;lia,λ _ f=>f,λ _ _ _ _ f=>f⟩
 have S1:Sta c F H1 σ (Bd ds i p (.hole w)) A1:=⟨q1,o1.right,S.len,S.ag⟩
 refine q w [w,v] H1 F B A1 ?_ (.so (.no .nil)) S1 o1 s2
 have:=Reps.cons r (Reps.cons rv .nil)
 rwa[zAf,zAf] at this
end
end LV
namespace LV.My
open PySem L2 Row _root_.My
variable{Kp:List Int->Prop}{N i j l r:Nat}{Q:DK}{R:Ds->D->Prop}{S ks ns:List Int}{b z':Bool}{d p v x y:D}{ds ys:Ds}{e:VEnds}{f fa fb:FV}{fs:List (Str×D)}{k:Int}{m:Str}{o:Option Int}{past:List (List Int)}{pf:PF}{qc:VTT}{s:VSp}{t u:VTS}{ta tb te:VT}{tr:VTB}{xe:XKd}{α:Type}
def _root_.LV.D.whole:D->Bool
 | .int _=>true
 | _=>false
def _root_.LV.D.within(l m:Int):D->Bool
 | .int i=>decide (l<=i)&&decide (i<=m)
 | _=>false
def _root_.LV.D.num:D->Bool:=D.within 0 1000000000000000000
def fx3(g:D->D->D->Option D):Ds->Option D
 | [x,y,z]=>g x y z
 | _=>none
theorem qah6{g:D->Option D}(h:B6 (fx1 g) ds Q xe):ds.length=1:=by
 match ds,h with
 | [_],_=>rfl
theorem qaN6{g:D->D->D->Option D}(h:B6 (fx3 g) ds Q xe):ds.length=3:=by
 match ds,h with
 | [_,_,_],_=>rfl
theorem imm1{g:D->Option D}(h:B6 (fx1 g) ds Q xe):Gy (wOf [true]) 0 ds=true:=by
 match ds,h with
 | [_],_=>rfl
theorem imm3{g:D->D->D->Option D}(h:B6 (fx3 g) ds Q xe):Gy (wOf [true,true,true]) 0 ds=true:=by
 match ds,h with
 | [_,_,_],_=>rfl
theorem Jf{g:D->Option D}(h:B6 (fx1 g) ds Q xe):∃ x d,ds=[x]/\g x=some d/\Q d [x]:=by
 match ds,h with
 | [x],h=>obtain⟨d,e,q⟩:=qa7.mp h;exact⟨x,d,rfl,e,q⟩
theorem pure3{g:D->D->D->Option D}(h:B6 (fx3 g) ds Q xe):∃ x y z d,ds=[x,y,z]/\g x y z=some d/\Q d [x,y,z]:=by
 match ds,h with
 | [x,y,z],h=>obtain⟨d,e,q⟩:=qa7.mp h;exact⟨x,y,z,d,rfl,e,q⟩
theorem qq9{t:String}(h:x.kind=some t):x.known=true:=by
 cases x<;>first | rfl | cases h
def Av(P:Ds->D->Prop):VSp:=λ ds Q _=>∃ d,P ds d/\Q d ds
theorem qb3{P:Ds->D->Prop}:Bl (Av P):=λ _ _ _ _ _ hQ _ ⟨d,p,q⟩=>⟨d,p,hQ _ _ q⟩
def prD(ps:Pr):Ds:=ps.map λ p=>.tup [.int p.1,.int p.2]
def kvD(ps:Pr):List (Key×D):=ps.map λ p=>(.inl p.1,.int p.2)
def planD(z:Bool)(C:Addr)(n:Int)(wr:Bool)(ps:Pr):D:=.ins z C [("rooms",.int n),("wraps",.bl wr),("homes",.lst z (prD ps)),("home_numbers",.dct z (kvD ps))]
def caseD(n:Int)(wr:Bool)(ps:Pr):D:=.lst false [.int n,.bl wr,.lst false (prD ps)]
def De:Option Int->D
 | none=>.non
 | some k=>.int k
def rlD(n:Nat)(g:Nat->Option Int):Ds:=(List.range n).map λ i=>De (g i)
def ksD(ks:List Int):Ds:=ks.map .int
theorem qr0:∀ ps:Pr,D.imms (prD ps)=true
 | []=>rfl
 | p::r=>by show (D.imms [.int p.1,.int p.2]&&D.imms (prD r))=true;rw[qr0 r];rfl
theorem ql5:∀ ks:List Int,D.imms (ksD ks)=true
 | []=>rfl
 | k::r=>by show (true&&D.imms (ksD r))=true;rw[ql5 r];rfl
theorem qaj0{α:Type}{f:α->D}(h:∀ a,(f a).imm=true):∀ l:List α,D.imms (l.map f)=true
 | []=>rfl
 | a::r=>by show ((f a).imm&&D.imms (r.map f))=true;rw[h a,qaj0 h r];rfl
theorem qax7(o:Option Int):(De o).imm=true:=by cases o<;>rfl
theorem qF1(n:Nat)(g:Nat->Option Int):D.imms (rlD n g)=true:=qaj0 (λ i=>qax7 _) _
theorem qW0:∀ ks:List Int,intsD (ksD ks)=some ks
 | []=>rfl
 | k::r=>by show (intsD (ksD r)).map (λ is=>k::is)=some (k::r);rw[qW0 r];rfl
theorem qS0:∀ ks:List Int,flats (ksD ks)=some (ks.map V.int)
 | []=>rfl
 | k::r=>by show (Option.bind (some (V.int k)) λ v=>(flats (ksD r)).bind λ vs=>some (v::vs))=_;rw[qS0 r];rfl
theorem qj0(ks:List Int):(ksD ks).length=ks.length:=zAc _
theorem qo0(n:Nat)(g:Nat->Option Int):(rlD n g).length=n:=by simp[rlD]
theorem qA9{n:Nat}{g:Nat->Option Int}(h:i < n):(rlD n g)[i]? = some (De (g i)):=by
 unfold rlD;rw[zAv,List.getElem?_range h];rfl
theorem qad7{n:Nat}{g:Nat->Option Int}:(rlD n g).set i (De o)=rlD n (λ j=>if j=i then o else g j):=by
 apply List.ext_getElem?;intro j;by_cases hj:j < n
 . rw[qA9 hj]
   by_cases e:i=j
   . subst e
     rw[List.getElem?_set_self (by rw[qo0];exact hj),if_pos rfl]
   rw[zBm e,qA9 hj,if_neg (Ne.symm e)]
 rw[zBw (by rw[List.length_set,qo0];lia),zBw (by rw[qo0];lia)]
theorem qaf7:∀ ps:Pr,Ho (prD ps)=some (kvD ps)
 | []=>rfl
 | p::r=>by
   show (Option.bind (some ((Sum.inl p.1:Key),D.int p.2)) λ q=>(Ho (prD r)).bind λ ps=>some (q::ps))=_;rw[qaf7 r];rfl
theorem qao8{ps:Pr}{m:Int}(h:¬ k∈ps.map (·.1)):E5 (kvD ps) (.inl k) (.int m)=kvD (ps++[(k,m)]):=by
 unfold E5;rw[if_neg]
 . unfold kvD;rw[zBh];rfl
 intro e;obtain⟨q,hq,e⟩:=zC6.mp e;obtain⟨r,hr,rfl⟩:=zB1.mp hq;have e:(Sum.inl r.1:Key)=Sum.inl k:=zAb e;exact h (zB1.mpr ⟨r,hr,Sum.inl.inj e⟩)
theorem qV3:∀(qs ps:Pr),((ps++qs).map (·.1)).Nodup->qv5 (kvD ps) (kvD qs)=kvD (ps++qs)
 | [],ps,_=>by rw[zAf];rfl
 | q::qs,ps,h=>by
   show qv5 (E5 (kvD ps) (.inl q.1) (.int q.2)) (kvD qs)=_;have hn:¬ q.1∈ps.map (·.1):=by
     rw[zBh,zB0,zBn] at h;exact λ z=>h.2.2 _ z _ zA7 rfl
   rw[qao8 hn,qV3 qs (ps++[(q.1,q.2)]) (by rw[zB7];exact h),zB7];rfl
theorem qaq0{ps:Pr}(h:(ps.map (·.1)).Nodup):qv5 [] (kvD ps)=kvD ps:=qV3 ps [] h
theorem qay2{z:Bool}{ps:Pr}(h:(ps.map (·.1)).Nodup):G7 (.lst z (prD ps))=some (.dct false (kvD ps)):=by
 show (Ho (prD ps)).map (λ ps=>D.dct false (qv5 [] ps))=_;rw[qaf7];show some (D.dct false (qv5 [] (kvD ps)))=_;rw[qaq0 h]
theorem qau1(k:Int):∀ ps:Pr,Dt (kvD ps) (.inl k)=(ps.lookup k).map .int
 | []=>rfl
 | (p,m)::r=>by
   show Dt ((.inl p,.int m)::kvD r) _=_;by_cases e:p=k
   . subst e
     simp[Dt,zAr]
   have h1:Dt ((.inl p,D.int m)::kvD r) (.inl k)=Dt (kvD r) (.inl k):=by simp[Dt,zBq,e]
   rw[h1,qau1 k r]
   have:(k == p)=false:=by simpa using λ z=>e z.symm
   simp only[zAr,this]
theorem qa0{o:Option α}{a:α}{k:α->Prop}(e:o=some a)(h:k a):orF o k:=by rw[e];exact h
theorem Dp{p:Prop}[Decidable p]{a b:Prop}(h:p)(x:a):if p then a else b:=by rw[if_pos h];exact x
theorem Bs{p:Prop}[Decidable p]{a b:Prop}(h:¬ p)(x:b):if p then a else b:=by rw[if_neg h];exact x
theorem ite_b{p:Bool}{a b:Prop}(h1:p=true->a)(h2:p=false->b):if p=true then a else b:=by cases p with | true=>exact h1 rfl | false=>exact h2 rfl
def Ej:Option Int->D
 | some f=>.int f
 | none=>.non
theorem Jg(hx:rdN i ds=some x)(h:s [x] (λ d ys=>orF (Am [.sl i] ys (ds.set i .unk)) λ ds2=>Q d ds2) (λ e ys=>orF (Am [.sl i] ys (ds.set i .unk)) λ ds2=>xe e ds2)):qh6 s [] (tbN i Ax) ds Q xe :=
 ⟨by rw[hx];rfl,by show orF (rdN i ds) _;rw[hx];exact h⟩
theorem qH3{f:Ds->Option D}(e:f ds=some d)(q:Q d ds):B6 f ds Q xe:=qa0 e q
theorem qi9(e:R ds d)(q:Q d ds):Av R ds Q xe:=⟨d,e,q⟩
theorem qb6{K:Ds->List Pl->Ds->Prop}(hx:rdN i ds=some x)(h:tr ds (λ xs ps ds1=>orF (rdN i ds1) λ d=>K (d::xs) (.sl i::ps) (ds1.set i .unk)) xe):tbN i tr ds K xe:=⟨by rw[hx];rfl,h⟩
theorem qf0{K:Ds->List Pl->Ds->Prop}(hf:f ds=some y)(h:tr ds (λ xs ps ds2=>K (y::xs) (.no::ps) ds2) xe):tbV (Bn f) tr ds K xe:=qa0 (k:=λ y=>tr ds (λ xs ps ds2=>K (y::xs) (.no::ps) ds2) xe) hf h
theorem rd0{r:Ds}(h:d.known=true):rdN 0 (d::r)=some d:=qn8.mpr ⟨rfl,h⟩
theorem qaF4{β:Type}(f:α->β)(l:List α):l.filterMap (λ a=>some (f a))=l.map f:=by simp
section
variable{z:Bool}{C:Addr}{n:Int}{wr:Bool}{ps:Pr}
theorem qF4{f:Str}(h:fs.lookup f=some d):D.fld C f (.ins z C fs)=some d:=by
 show (if C=C then fs.lookup f else none)=some d;rw[if_pos rfl,h]
theorem qe1:D.fld C "rooms" (planD z C n wr ps)=some (.int n):=qF4 (by rfl)
theorem qx5:D.fld C "wraps" (planD z C n wr ps)=some (.bl wr):=qF4 (by rfl)
theorem qab3:D.fld C "home_numbers" (planD z C n wr ps)=some (.dct z (kvD ps)):=qF4 (by rfl)
theorem qax5(h:fs.lookup m=none):(D.ins z C fs).isM C m=true:=by
 show (decide (C=C)&&(fs.lookup m).isNone)=true;rw[zAe rfl,h];rfl
theorem qe4(h:([("rooms",.int n),("wraps",.bl wr),("homes",.lst z (prD ps)),("home_numbers",.dct z (kvD ps))]:List (Str×D)).lookup m=none):(planD z C n wr ps).isM C m=true:=qax5 h
theorem A5{g:D->Option D}(h:fa ds=some x)(h':g x=some y):f1 g fa ds=some y:=qaF6.mpr ⟨x,h,h'⟩
theorem f2_of{g:D->D->Option D}(h:fa ds=some x)(h':fb ds=some y)(h2:g x y=some d):f2 g fa fb ds=some d:=qaF5.mpr ⟨x,y,h,h',h2⟩
theorem qh8:(D.ins false C fs).ownI C=some fs:=by
 show (if C=C then some fs else none)=some fs;rw[if_pos rfl]
end
theorem qH9{C:Addr}(hp:rdN i ds=some p)(hm:p.isM C m=true)(h:tr ds (λ xs ps ds1=>orF (rdN i ds1) λ d=>s (d::(xs++[])) (λ r ys=>orF (Am (.sl i::ps) ys (ds1.set i .unk)) λ ds2=>Q r ds2) (λ x ys=>orF (Am (.sl i::ps) ys (ds1.set i .unk)) λ ds2=>xe x ds2)) xe):qw0 C m s [] i tr ds Q xe:=⟨qa0 hp hm,h⟩
theorem qaa0{z:Bool}{C:Addr}{n:Int}{wr:Bool}{ps:Pr}:(planD z C n wr ps).known=true:=rfl
theorem qaB8{z:Bool}{C:Addr}{n:Int}{wr:Bool}{ps:Pr}:(planD z C n wr ps).imm=z:=rfl
theorem qH4{f:Ds->Option D}(hx:rdN i ds=some x)(e:f [x]=some d)(hb:Am [.sl i] [x] (ds.set i .unk)=some ds)(q:Q d ds):qh6 (B6 f) [] (tbN i Ax) ds Q xe:=Jg hx (qH3 e (qa0 hb q))
theorem Hw(hx:rdN i ds=some x)(r:R [x] d)(hb:Am [.sl i] [x] (ds.set i .unk)=some ds)(q:Q d ds):qh6 (Av R) [] (tbN i Ax) ds Q xe:=Jg hx (qi9 r (qa0 hb q))
theorem qL6(hx:rdN i ds=some x)(hy:rdN j ds=some y)(hx':rdN i (ds.set j .unk)=some x)(r:R [x,y] d)(hb:Am [.sl i,.sl j] [x,y] ((ds.set j .unk).set i .unk)=some ds)(q:Q d ds):qh6 (Av R) [] (tbN i (tbN j Ax)) ds Q xe :=
 qb6 hx (qb6 hy (qa0 hy (qa0 hx' (qi9 r (qa0 hb q)))))
theorem qL5{w:D}(hx:rdN i ds=some x)(hy:rdN j ds=some y)(hw:rdN l ds=some w)(hy':rdN j (ds.set l .unk)=some y)(hx':rdN i ((ds.set l .unk).set j .unk)=some x)(r:R [x,y,w] d)(hb:Am [.sl i,.sl j,.sl l] [x,y,w] (((ds.set l .unk).set j .unk).set i .unk)=some ds)(q:Q d ds):qh6 (Av R) [] (tbN i (tbN j (tbN l Ax))) ds Q xe :=
 qb6 hx (qb6 hy (qb6 hw (qa0 hw (qa0 hy' (qa0 hx' (qi9 r (qa0 hb q)))))))
theorem qI0{C:Addr}(hp:rdN i ds=some p)(hm:p.isM C m=true)(hx:rdN j ds=some x)(hp':rdN i (ds.set j .unk)=some p)(r:R [p,x] d)(hb:Am [.sl i,.sl j] [p,x] ((ds.set j .unk).set i .unk)=some ds)(q:Q d ds):qw0 C m (Av R) [] i (tbN j Ax) ds Q xe :=
 qH9 hp hm (qb6 hx (qa0 hx (qa0 hp' (qi9 r (qa0 hb q)))))
theorem qaq1{C:Addr}(hp:rdN i ds=some p)(hm:p.isM C m=true)(hx:rdN j ds=some x)(hy:rdN l ds=some y)(hx':rdN j (ds.set l .unk)=some x)(hp':rdN i ((ds.set l .unk).set j .unk)=some p)(r:R [p,x,y] d)(hb:Am [.sl i,.sl j,.sl l] [p,x,y] (((ds.set l .unk).set j .unk).set i .unk)=some ds)(q:Q d ds):qw0 C m (Av R) [] i (tbN j (tbN l Ax)) ds Q xe :=
 qH9 hp hm (qb6 hx (qb6 hy (qa0 hy (qa0 hx' (qa0 hp' (qi9 r (qa0 hb q)))))))
theorem Fv{t:VT}{n:VTS}(h:∀(Q:DK)(xe:XKd),Q (.bl true) ds->t ds Q xe)(h2:u e ds):Fl (sIf (Dx (ttE t)) n F6) u e ds:=h _ _ h2
theorem if_e{t:VT}{v:VTS}(h:∀(Q:DK)(xe:XKd),Q (.bl b) ds->t ds Q xe)(h1:b=true->u e ds)(h2:b=false->v e ds):sIf (ttE t) u v e ds:=h _ _ (by
 show if b=true then u e ds else v e ds
 exact ite_b h1 h2)
theorem if_v{v:VTS}(h:f ds=some (.bl b))(h1:b=true->u e ds)(h2:b=false->v e ds):sIf (ttV f) u v e ds:=by
 show orF ((f ds).bind D.asB) _;rw[h];exact ite_b h1 h2
theorem Fw{u v:VT}(h:f ds=some (.bl b))(h1:b=true->u ds Q xe)(h2:b=false->v ds Q xe):tIfE (ttV f) u v ds Q xe:=by
 show orF ((f ds).bind D.asB) _;rw[h];exact ite_b h1 h2
theorem qq5(e:f ds=some d)(q:Q d ds):Bn f ds Q xe:=qa0 e q
theorem qg0{w:VTS}(b:Bool)(h:f ds=some (.bl b))(h1:b=true->u { e with nx:=w e } ds)(h2:b=false->w e ds):Fl (sIf (ttV f) u F6) w e ds:=if_v (u:=u) (v:=F6) h h1 h2
theorem qh5{t:VT}(h:t ds e.rt e.xe):sRet t e ds:=h
theorem qd1(d:D)(h:f ds=some d)(q:e.rt d ds):sRet (Bn f) e ds:=qa0 h q
theorem As(ds':Ds)(h:ds=ds')(q:t e ds'):t e ds:=h ▸ q
theorem qai6{z:Bool}(h:rdN i ds=some (.lst z ys)):Ay (fx2 gIsi) (Au (rdN i) (Au (kC (D.ty "list")) λ _=>some [])) ds=some (.bl true):=by
 unfold Ay Au;rw[h];rfl
theorem qo7{z:Bool}(h:rdN i ds=some (.lst z ys)):Ay (fx1 Fi) (Au (rdN i) λ _=>some []) ds=some (.int (ys.length:Nat)):=by
 unfold Ay Au;rw[h];rfl
theorem qc6{Q:Bool->Ds->Prop}(h:f ds=some (.bl b))(q:Q b ds):ttV f ds Q xe:=by
 show orF ((f ds).bind D.asB) _;rw[h];exact q
theorem qp3{Q:Bool->Ds->Prop}(h:f ds=some (.bl b))(q:Q (!b) ds):Dx (ttV f) ds Q xe:=qc6 (Q:=λ b ds=>Q (!b) ds) h q
theorem qac6{t u:VTT}{Q:Bool->Ds->Prop}(b c:Bool)(h1:∀ Q:Bool->Ds->Prop,Q b ds->t ds Q xe)(h2:b=false->∀ Q:Bool->Ds->Prop,Q c ds->u ds Q xe)(q:Q (b||c) ds):ttOr t u ds Q xe:=h1 _ (by
 cases b with
 | false=>exact h2 rfl _ q
 | true=>exact q)
theorem qd7{t u:VTT}{Q:Bool->Ds->Prop}(b c:Bool)(h1:∀ Q:Bool->Ds->Prop,Q b ds->t ds Q xe)(h2:b=true->∀ Q:Bool->Ds->Prop,Q c ds->u ds Q xe)(q:Q (b&&c) ds):Gi t u ds Q xe:=h1 _ (by
 cases b with
 | false=>exact q
 | true=>exact h2 rfl _ q)
theorem Fe(b:Bool)(h:∀ Q:Bool->Ds->Prop,Q b ds->qc ds Q e.xe)(h1:b=true->t e ds)(h2:b=false->u e ds):sIf qc t u e ds:=h _ (ite_b h1 h2)
theorem qe8{w:VTS}(b:Bool)(h:∀ Q:Bool->Ds->Prop,Q b ds->qc ds Q e.xe)(h1:b=true->t { e with nx:=w e } ds)(h2:b=false->w e ds):Fl (sIf qc t F6) w e ds:=h _ (ite_b h1 h2)
theorem qaj5{t:VT}{n:VTS}(h:∀(Q:DK)(xe:XKd),Q (.bl true) ds->t ds Q xe)(h2:e.nx ds):sIf (Dx (ttE t)) n F6 e ds:=h _ _ h2
theorem qax8{n:VTS}(h:f ds=some (.bl true))(h2:u e ds):Fl (sIf (Dx (ttV f)) n F6) u e ds:=qp3 (Q:=λ k ds'=>if k=true then n { e with nx:=u e } ds' else u e ds') (xe:=e.xe) h h2
theorem qaE9{z:Bool}{C:Addr}{n:Int}{wr:Bool}{ps:Pr}:gIsO C (planD z C n wr ps) (.adr C)=some (.bl true):=by
 show (if C=C then (planD z C n wr ps).isC C else none)=_;rw[if_pos rfl];show (if C=C then some (D.bl true) else none)=_;rw[if_pos rfl]
theorem qe5{g:VTG}{t:VTS}{e:VEnds}(I:Nat->Ds->Prop):∀(xs:List D)(i:Nat)(ds:Ds),I i ds->(∀(j:Nat)(x:D),xs[j]? = some x->∀ ds,I (i+j) ds->∀ K:Ds->Prop,(∀ ds',I (i+j+1) ds'->K ds')->g x ds λ ds1=>t { e with nx:=K,ct:=K,bk:=e.nx } ds1)->(∀ ds',I (i+xs.length) ds'->e.nx ds')->Dn g t e xs ds
 | [],_,ds,h,_,hn=>hn ds h
 | x::xs,i,ds,h,hs,hn=>hs 0 x rfl ds h _ λ ds' h'=>qe5 I xs (i+1) ds' h' (λ j y hy ds2 h2 K hK=>hs (j+1) y hy ds2 (by rw[show i+(j+1)=i+1+j by lia];exact h2) K λ ds3 h3=>hK ds3 (by rw[show i+1+j+1=i+(j+1)+1 by lia];exact h3)) λ ds2 h2=>hn ds2 (by rw[zAo,show i+(xs.length+1)=i+1+xs.length by lia];exact h2)
theorem qI8{g:VTG}{n:Int}(h:f ds=some (.int n))(h0:Fn n=true)(k:Dn g t e (Bm 0 n.toNat) ds):Ja (Go (tbV (B9 f) Ax)) g t e ds:=by
 show orF (f ds) _;rw[h];exact⟨rfl,h0,k⟩
theorem qC8{n:Int}(h0:0<=n)(h1:n<=1000):Fn n=true:=by
 unfold Fn;rw[zAe (by lia),zAe (by lia)];rfl
theorem qH1{m:Nat}(h:(Bm 0 m)[j]? = some x):j < m/\x=.int (j:Int):=by
 by_cases hj:j < m
 . rw[qaf0 hj] at h
   cases h;exact⟨hj,by rw[Int.zero_add]⟩
 rw[zBw (by unfold Bm;rw[zAc,zAq];lia)] at h;cases h
def Dq(p:Int->Bool)(y:D):Option D:=y.asI.bind λ k=>if p k=true then some (.int k) else none
theorem qE9{p:Int->Bool}(h:p k=true):Dq p (.int k)=some (.int k):=if_pos h
theorem qF0{p:Int->Bool}(h:p k=false):Dq p (.int k)=none:=if_neg (by rw[h];decide)
theorem qI4(p:Int->Bool):∀ ks:List Int,(ksD ks).filterMap (Dq p)=ksD (ks.filter p)
 | []=>rfl
 | k::ks=>by
   show List.filterMap (Dq p) (D.int k::ksD ks)=_;rw[zBc];cases h:p k with
   | true=>rw[qE9 h,zC2 h];show D.int k::(ksD ks).filterMap (Dq p)=_;rw[qI4 p ks];rfl
   | false=>rw[qF0 h,zC0 (by rw[h];decide),qI4 p ks]
theorem qaP5{a:Bool}(h1:fa ds=some (.bl a))(h2:fb ds=some (.bl b)):fOr fa fb ds=some (.bl (a||b)):=by
 unfold fOr;rw[h1,h2];cases a<;>rfl
theorem qak4{a:Bool}(h1:fa ds=some (.bl a))(h2:fb ds=some (.bl b)):fAnd fa fb ds=some (.bl (a&&b)):=by
 unfold fAnd;rw[h1,h2];cases a<;>rfl
theorem qb1(ds1:Ds)(h1:∀ K:Ds->Prop,K ds1->t { e with nx:=K } ds)(h2:u e ds1):Fl t u e ds:=h1 (u e) h2
theorem qb8(R:Ds->Prop)(h1:∀ K:Ds->Prop,(∀ ds1,R ds1->K ds1)->t { e with nx:=K } ds)(h2:∀ ds1,R ds1->u e ds1):Fl t u e ds:=h1 (u e) h2
theorem qF7(I:Nat->Ds->Prop)(n:Nat)(h:I n ds)(hs:∀ n ds,I n ds->∀ K:Ds->Prop,(∀ m ds',m < n->I m ds'->K ds')->qc ds (λ b ds1=>if b=true then t { e with nx:=K,ct:=K,bk:=e.nx } ds1 else e.nx ds1) e.xe):qaJ1 qc t e ds:=by
 have go:∀ N n ds,n < N->I n ds->whN qc t e N ds:=by
   intro N
   induction N with
   | zero=>intro n ds h;exact absurd h (Nat.not_lt_zero _)
   | succ N ih=>intro n ds hn h;exact hs n ds h _ λ m ds' hm h'=>ih m ds' (by lia) h'
 exact⟨n+1,go (n+1) n ds (zBv n) h⟩
theorem qN1(hx:rdN i ds=some x)(hy:rdN j ds=some y)(hx':rdN i (ds.set j .unk)=some x)(h:s [x,y] (λ d ys=>orF (Am [.sl i,.sl j] ys ((ds.set j .unk).set i .unk)) λ ds2=>Q d ds2) (λ e ys=>orF (Am [.sl i,.sl j] ys ((ds.set j .unk).set i .unk)) λ ds2=>xe e ds2)):qh6 s [] (tbN i (tbN j Ax)) ds Q xe :=
 qb6 hx (qb6 hy (qa0 hy (qa0 hx' h)))
theorem qaG9{w:D}(hx:rdN i ds=some x)(hy:rdN j ds=some y)(hw:rdN l ds=some w)(hy':rdN j (ds.set l .unk)=some y)(hx':rdN i ((ds.set l .unk).set j .unk)=some x)(h:s [x,y,w] (λ d ys=>orF (Am [.sl i,.sl j,.sl l] ys (((ds.set l .unk).set j .unk).set i .unk)) λ ds2=>Q d ds2) (λ e ys=>orF (Am [.sl i,.sl j,.sl l] ys (((ds.set l .unk).set j .unk).set i .unk)) λ ds2=>xe e ds2)):qh6 s [] (tbN i (tbN j (tbN l Ax))) ds Q xe :=
 qb6 hx (qb6 hy (qb6 hw (qa0 hw (qa0 hy' (qa0 hx' h)))))
theorem qaU8{C:Addr}{k:Nat}{w:D}(hp:rdN i ds=some p)(hm:p.isM C m=true)(hx:rdN j ds=some x)(hy:rdN l ds=some y)(hw:rdN k ds=some w)(hy':rdN l (ds.set k .unk)=some y)(hx':rdN j ((ds.set k .unk).set l .unk)=some x)(hp':rdN i (((ds.set k .unk).set l .unk).set j .unk)=some p)(r:R [p,x,y,w] d)(hb:Am [.sl i,.sl j,.sl l,.sl k] [p,x,y,w] ((((ds.set k .unk).set l .unk).set j .unk).set i .unk)=some ds)(q:Q d ds):qw0 C m (Av R) [] i (tbN j (tbN l (tbN k Ax))) ds Q xe :=
 qH9 hp hm (qb6 hx (qb6 hy (qb6 hw (qa0 hw (qa0 hy' (qa0 hx' (qa0 hp' (qi9 r (qa0 hb q)))))))))
theorem qaA3(h:ds[j]? = some d):ds.set j d=ds:=by
 obtain⟨hj,e⟩:=zA4.mp h;rw[<- e];exact List.set_getElem_self hj
theorem qd4(h:ds[i]? = some d)(hk:d.known=true):rdN i ds=some d:=qn8.mpr ⟨h,hk⟩
def isBag(ns:List Int)(b:D):Prop:=∃ x y z,b=bagD x y z ns/\Bg x y z ns
theorem isBag.known{b:D}(h:isBag ns b):b.known=true:=by obtain⟨x,y,z,rfl,_⟩:=h;rfl
def qF9:VSp:=λ ds Q _=>∃ b m ns,ds=[b,.int m]/\isBag ns b/\0 < m/\m < 2 ^ 200/\∀ v b',0<=v->v < m->isBag ns b'->Q (.int v) [b',.int m]
theorem qe2{b:D}{m:Int}(hx:ds[i]? = some b)(B:isBag ns b)(hf:f ds=some (.int m))(h0:0 < m)(h1:m < 2 ^ 200)(q:∀ v b',0<=v->v < m->isBag ns b'->Q (.int v) (ds.set i b')):qh6 qF9 [] (tbN i (tbV (Bn f) Ax)) ds Q xe:=by
 have hb:=qd4 hx B.known;refine qb6 hb (qf0 hf (qa0 hb ⟨b,m,ns,rfl,B,h0,h1,λ v b' v0 v1 B'=>?_⟩));show Q (.int v) ((ds.set i .unk).set i b');rw[List.set_set];exact q v b' v0 v1 B'
theorem qF8{b:D}{m:Int}(hx:ds[i]? = some b)(B:isBag ns b)(hf:f ds=some (.int m))(h0:0 < m)(h1:m < 2 ^ 200)(q:∀ v b',0<=v->v < m->isBag ns b'->Q (.int v) (ds.set i b')):qh6 qF9 [] (tbN i (tbV (B9 f) Ax)) ds Q xe:=by
 have hb:=qd4 hx B.known;refine qb6 hb (qa0 hf ⟨rfl,qa0 hb ⟨b,m,ns,rfl,B,h0,h1,λ v b' v0 v1 B'=>?_⟩⟩);show Q (.int v) ((ds.set i .unk).set i b');rw[List.set_set];exact q v b' v0 v1 B'
theorem qT8{b:D}{m:Int}(hx:ds[i]? = some b)(B:isBag ns b)(hy:ds[j]? = some (.int m))(ne:i≠j)(h0:0 < m)(h1:m < 2 ^ 200)(q:∀ v b',0<=v->v < m->isBag ns b'->Q (.int v) (ds.set i b')):qh6 qF9 [] (tbN i (tbN j Ax)) ds Q xe:=by
 have hb:=qd4 hx B.known;have hm:rdN j ds=some (.int m):=qd4 hy rfl;have hj:j < ds.length:=(zA4.mp hy).1;refine qN1 hb hm (qd4 (by rw[zBm (Ne.symm ne)];exact hx) B.known) ⟨b,m,ns,rfl,B,h0,h1,λ v b' v0 v1 B'=>?_⟩;show Q (.int v) ((((ds.set j .unk).set i .unk).set i b').set j (.int m));have e:(((ds.set j .unk).set i .unk).set i b').set j (.int m)=ds.set i b':=by
   rw[List.set_set,List.set_comm _ _ (Ne.symm ne),List.set_set];exact qaA3 (by rw[zBm ne];exact hy)
 rw[e];exact q v b' v0 v1 B'
theorem mulR{i j:Int}(h:small j=true):Hm (.int i) (.int j)=some (.int (i * j)):=qm3 (by rw[h,Bool.or_true])
theorem Hx{i j:Int}(h:small i=true):Hm (.int i) (.int j)=some (.int (i * j)):=qm3 (by rw[h,Bool.true_or])
theorem qas4{i j:Int}(h:0 < j)(h1:j < 2 ^ 200):gDiv (.int i) (.int j)=some (.int (i / j)):=qm3 (by show (decide (0 < j)&&decide (j < 2 ^ 200))=true;rw[zAe h,zAe h1];rfl)
theorem Dh{x n:Int}(h:0 < n):Hn (.int x) (.int n)=some (.int (x % n)):=qm3 (zAe h)
theorem qP2{i:Int}(h:-(2 ^ 64) < i)(h':i < 2 ^ 64):small i=true:=by unfold small;rw[zAe h,zAe h'];rfl
theorem Bf{z:Bool}{g:Nat->Option Int}(h:r < N):gIx (.lst z (rlD N g)) (.int (r:Int))=some (De (g r)):=qB7 (qA9 h)
theorem qL9{g:Nat->Option Int}(h:r < N):ixN (rlD N g).length (r:Int)=some r:=by
 rw[qo0];unfold ixN;simp[h]
theorem qr9{n:Nat}{g:Nat->Option Int}{c:Int}:(rlD n g).set i (.int c)=rlD n (Row.set g i c):=qad7 (o:=some c)
theorem qaD2(N:Nat):(List.replicate N [D.non]).flatten=rlD N (λ _=>none):=by
 unfold rlD
 induction N with
 | zero=>rfl
 | succ N ih=>rw[List.replicate_succ',List.flatten_append,ih,List.range_succ,zBh];rfl
theorem qR4{n:Int}(h0:0<=n)(h1:n<=64):Hm (.lst false [.non]) (.int n)=some (.lst false (rlD n.toNat λ _=>none)):=by
 show gd _ _=_;rw[<- qaD2];exact qm3 ⟨rfl,by show 1 * n.toNat<=1000000;lia,by lia,by lia⟩
theorem qx1{g g':Nat->Option Int}(h:∀ i,i < N->g i=g' i):rlD N g=rlD N g':=by
 unfold rlD;apply List.map_congr_left;intro i hi;rw[h i (zA9.mp hi)]
theorem qI9{g:VTG}{n:Int}(h:f ds=some (.int n))(h0:Fn n=true)(k:Dn g t e (Bm 0 n.toNat) ds):Ja (Go (tbV (Bn f) Ax)) g t e ds:=by
 show orF (f ds) _;rw[h];exact⟨h0,k⟩
theorem qar8{g:VTG}{n:Int}(h:rdN i ds=some (.int n))(h0:Fn n=true)(k:Dn g t e (Bm 0 n.toNat) (ds.set i .unk)):Ja (Go (tbN i Ax)) g t e ds:=by
 refine⟨by rw[h];rfl,?_⟩;exact qa0 h ⟨h0,k⟩
theorem qag3{z:Bool}:Iv true (.int k) (.lst z (ksD ks))=some (.bl (!decide (k∈ks))):=by
 show ((flats (ksD ks)).bind λ ws=>some (D.bl (if true=true then !inV (.int k) ws else inV (.int k) ws)))=_;rw[qS0];show some (D.bl (!inV (.int k) (ks.map V.int)))=_;rw[qai9]
theorem qaO1{z:Bool}:Iv false (.int k) (.lst z (ksD ks))=some (.bl (decide (k∈ks))):=by
 show ((flats (ksD ks)).bind λ ws=>some (D.bl (if false=true then !inV (.int k) ws else inV (.int k) ws)))=_;rw[qS0];show some (D.bl (inV (.int k) (ks.map V.int)))=_;rw[qai9]
theorem qL7(lo:Int)(n:Nat):(Bm lo n).length=n:=by unfold Bm;rw[zAc,zAq]
theorem qI6(e:f ds=some d)(hi:d.imm=true)(q:Q d ds):B9 f ds Q xe:=qa0 (a:=d) (k:=λ(d:D)=>d.imm=true/\Q d ds) e ⟨hi,q⟩
theorem qn5(h:f ds=some d)(hi:d.imm=true)(q:e.nx (ds.set i d)):Ee (B9 f) (gNm i) e ds:=qI6 (Q:=λ d ds'=>gNm i d ds' e.nx) h hi q
theorem qK4(h:f ds=some d)(q:e.nx (ds.set i d)):Ee (Bn f) (gNm i) e ds:=qq5 (Q:=λ d ds'=>gNm i d ds' e.nx) h q
theorem qaj6{n:Nat}{K:Ds->Prop}(hi:ds[i]? = some (.lst false ys))(hk:fb ds=some (.int k))(hn:ixN ys.length k=some n)(q:K (ds.set i (.lst false (ys.set n d)))):Ew (λ _=>some (i,[])) fb d ds K:=by
 refine qa0 (a:=(i,([]:List Nat))) rfl ?_;refine qa0 (a:=ys) (by show (A7 ds i []).bind D.own=_;rw[qI7 hi];rfl) ?_;refine qa0 (a:=k) (by rw[hk];rfl) ?_;refine qa0 hn ?_;show K (Bd ds i [] (.lst false (ys.set n d)));rw[qG1 hi];exact q
theorem qJ4{n:Nat}(hf:f ds=some d)(hd:d.imm=true)(hi:ds[i]? = some (.lst false ys))(hk:fb ds=some (.int k))(hn:ixN ys.length k=some n)(q:e.nx (ds.set i (.lst false (ys.set n d)))):Ee (B9 f) (Ew (λ _=>some (i,[])) fb) e ds :=
 qI6 (Q:=λ d ds'=>Ew (λ _=>some (i,[])) fb d ds' e.nx) hf hd (qaj6 hi hk hn q)
theorem qU1{n:Nat}(hf:f ds=some d)(hi:ds[i]? = some (.lst false ys))(hk:fb ds=some (.int k))(hn:ixN ys.length k=some n)(q:e.nx (ds.set i (.lst false (ys.set n d)))):Ee (Bn f) (Ew (λ _=>some (i,[])) fb) e ds :=
 qq5 (Q:=λ d ds'=>Ew (λ _=>some (i,[])) fb d ds' e.nx) hf (qaj6 hi hk hn q)
theorem qb9{K:Ds->List Pl->Ds->Prop}(hf:f ds=some y)(hi:y.imm=true)(h:tr ds (λ xs ps ds2=>K (y::xs) (.no::ps) ds2) xe):tbV (B9 f) tr ds K xe:=qI6 (Q:=λ y ds1=>tr ds1 (λ xs ps ds2=>K (y::xs) (.no::ps) ds2) xe) hf hi h
theorem qY4(hi:ds[i]? = some (.lst false ys))(hf:f ds=some d)(hl:ys.length < big)(q:Q .non (ds.set i (.lst false (ys++[d])))):Eh Gx i (tbV (Bn f) Ax) ds Q xe:=by
 have e:(rdN i ds).bind D.own=some ys:=by rw[qd4 hi rfl];rfl
 refine⟨by rw[e];rfl,qf0 hf ?_⟩;refine qa0 (k:=λ ys=>orF (Gx ys [d]) λ z=>Q z.2 (ds.set i (.lst false z.1))) e ?_;exact qa0 (a:=(ys++[d],D.non)) (if_pos hl) q
theorem qaH2(hi:ds[i]? = some (.lst false ys))(hj:ds[j]? = some d)(hd:d.known=true)(ne:i≠j)(hl:ys.length < big)(q:Q .non ((ds.set j .unk).set i (.lst false (ys++[d])))):Eh Gx i (tbN j Ax) ds Q xe:=by
 have e:(rdN i ds).bind D.own=some ys:=by rw[qd4 hi rfl];rfl
 have e2:(rdN i (ds.set j .unk)).bind D.own=some ys:=by rw[qd4 (d:=.lst false ys) (by rw[zBm (Ne.symm ne)];exact hi) rfl];rfl
 refine⟨by rw[e];rfl,qb6 (qd4 hj hd) ?_⟩;refine qa0 (k:=λ d=>orF ((rdN i (ds.set j .unk)).bind D.own) λ ys=>orF (Gx ys [d]) λ z=>Q z.2 ((ds.set j .unk).set i (.lst false z.1))) (qd4 hj hd) ?_;refine qa0 (k:=λ ys=>orF (Gx ys [d]) λ z=>Q z.2 ((ds.set j .unk).set i (.lst false z.1))) e2 ?_;exact qa0 (a:=(ys++[d],D.non)) (if_pos hl) q
theorem qL3{g:Ds->Ds->Option (Ds×D)}{p:List Nat}{d0:D}(h1:pf ds=some (i,p))(h2:(A7 ds i p).bind D.own=some ys)(h3:ds[i]? = some d0)(h:tr (ds.set i .unk) (λ xs _ ds1=>orF (g ys xs) λ z=>Q z.2 (Bd (ds1.set i d0) i p (.lst false z.1))) xe):Ev g pf tr ds Q xe:=by
 unfold Ev;rw[h1];show orF ((A7 ds i p).bind D.own) _;rw[h2];show orF ds[i]? _;rw[h3];exact h
theorem qaY2{f:Int->Int->Int}{fe:FV}{x y:Int}(hi:ds[i]? = some (.lst false ys))(hk:fb ds=some (.int k))(k0:0<=k)(hx:ys[k.toNat]? = some (.int x))(hy:fe ds=some (.int y))(q:e.nx (ds.set i (.lst false (ys.set k.toNat (.int (f x y)))))):sAugV f (λ _=>some (i,[])) fb fe e ds:=by
 refine qa0 (a:=(i,([]:List Nat))) rfl ?_;refine qa0 (a:=ys) (by show (A7 ds i []).bind D.own=_;rw[qI7 hi];rfl) ?_;refine qa0 (a:=k) (by rw[hk];rfl) ⟨k0,?_⟩;refine qa0 (a:=x) (by rw[hx];rfl) ?_;refine qa0 (a:=y) (by rw[hy];rfl) ?_;show e.nx (Bd ds i [] _);rw[qG1 hi];exact q
theorem Ff(b:Bool)(h:fa ds=some (.bl b))(h1:b=true->tb ds Q xe)(h2:b=false->Q (.bl false) ds):G8 (Bn fa) tb ds Q xe :=
 qq5 (xe:=xe) (Q:=λ x ds=>orF x.asB λ k=>if k=true then tb ds Q xe else Q (.bl false) ds) h (ite_b h1 h2)
theorem qu8{K:Ds->Prop}(h:K (ds.set i d)):gNm i d ds K:=h
theorem qb7{K:Ds->List Pl->Ds->Prop}(h:K [] [] ds):Ax ds K xe:=h
theorem qi3(h:te ds (λ _ ds'=>e.nx ds') e.xe):Ha te e ds:=h
theorem qu7{K:Ds->Prop}(h:K ((ds.set i x).set j y)):Fs 2 (qw9 (gNm i) (qw9 (gNm j) E9)) (.tup [x,y]) ds K:=⟨rfl,h⟩
theorem qay6{Q:Bool->Ds->Prop}(h:Q true ds):Jb ds Q xe:=h
theorem qau3{ft:FV}{n:Nat}(hf:ft ds=some (.tup [x,y]))(hi:ds[i]? = some (.lst false ys))(hk:fb ds=some (.int k))(hn:ixN ys.length k=some n)(q:e.nx ((ds.set i (.lst false (ys.set n x))).set j y)):Ee (Bn ft) (Fs 2 (qw9 (Ew (λ _=>some (i,[])) fb) (qw9 (gNm j) E9))) e ds :=
 qq5 (Q:=λ d ds'=>Fs 2 (qw9 (Ew (λ _=>some (i,[])) fb) (qw9 (gNm j) E9)) d ds' e.nx) hf ⟨rfl,qaj6 (K:=λ ds'=>qw9 (gNm j) E9 [y] ds' e.nx) hi hk hn q⟩
theorem qL8:ksD S++[.int k]=ksD (S++[k]):=by unfold ksD;rw[zBh];rfl
theorem qau2{tr2:VTB}{K:Ds->List Pl->Ds->Prop}(h:tr ds (λ xs _ ds1=>xs.length<=big/\tr2 ds1 (λ ys qs ds2=>K (.tup xs::ys) (.no::qs) ds2) xe) xe):tbV (G9 tr) tr2 ds K xe:=h
theorem qd8{K:Ds->List Pl->Ds->Prop}(h:ta ds (λ x ds1=>tr ds1 (λ xs ps ds2=>K (x::xs) (.no::ps) ds2) xe) xe):tbV ta tr ds K xe:=h
theorem qT7(ha:fa ds=some x)(hb:fb ds=some y)(hx:x.imm=true)(hy:y.imm=true):Ay gTup (Au fa (Au fb λ _=>some [])) ds=some (.tup [x,y]):=by
 unfold Ay Au;rw[ha,hb];show gd (D.imms [x,y]=true/\[x,y].length<=big) (.tup [x,y])=_;refine qm3 ⟨?_,by show 2<=1000000;decide⟩;show (x.imm&&(y.imm&&true))=true;rw[hx,hy];rfl
theorem qX5:E3 ys none (some (r:Int))=ys.take r:=by
 unfold E3;have e1:HT.sIx ys.length ys.length (some ((r:Nat):Int))=min r ys.length:=HT.qau9 _ _ r;rw[e1,HT.qae7,List.drop_zero,Nat.sub_zero];by_cases h:r<=ys.length
 . rw[Nat.min_eq_left h]
 rw[Nat.min_eq_right (by lia),zC3,zBa (by lia)]
theorem qaX1(h:y∈enD ys):∃ i v,y=.tup [.int (i:Nat),v]/\ys[i]? = some v:=by
 obtain⟨⟨v,i⟩,hp,rfl⟩:=zB1.mp h;exact⟨i,v,rfl,List.mem_zipIdx_iff_getElem?.mp hp⟩
theorem qaJ4{g:Nat->Option Int}(h:d∈rlD N g):d=.non∨∃ k,d=.int k:=by
 unfold rlD at h;obtain⟨i,_,rfl⟩:=zB1.mp h;cases g i with
 | none=>exact .inl rfl
 | some k=>exact .inr ⟨k,rfl⟩
theorem qz7{g:D->D->Option D}{Q:Bool->Ds->Prop}(h:ta ds (λ x ds1=>orF ((fb ds1).bind (g x)) λ d=>orF d.asB λ b=>Q b ds1) xe):ttE (t2v g ta fb) ds Q xe:=h
theorem qe0(h:tr ds (λ xs ps ds1=>s (xs++[]) (λ d ys=>orF (Am ps ys ds1) λ ds2=>Q d ds2) (λ x ys=>orF (Am ps ys ds1) λ ds2=>xe x ds2)) xe):qh6 s [] tr ds Q xe:=h
theorem qan8{g:D->D->Option D}(hf:fa ds=some x)(h:tb ds (λ y ds2=>orF (g x y) λ d=>Q d ds2) xe):t2 g (Bn fa) tb ds Q xe:=qq5 (xe:=xe) (Q:=λ x ds1=>tb ds1 (λ y ds2=>orF (g x y) λ d=>Q d ds2) xe) hf h
theorem qaz6{g:D->D->Option D}(h:ta ds (λ x ds1=>orF ((fb ds1).bind (g x)) λ d=>Q d ds1) xe):t2v g ta fb ds Q xe:=h
theorem qad1{g:D->D->Option D}(h:ta ds (λ x ds1=>orF (fb ds1) λ y=>y.imm=true/\orF (g x y) λ d=>Q d ds1) xe):Hk g ta fb ds Q xe:=h
theorem qw7(h:tr ds (λ xs _ ds1=>xs.length<=big/\Q (.lst false xs) ds1) xe):tLstV tr ds Q xe:=h
theorem qe9(h:te ds (λ d ds'=>e.nx (ds'.set i d)) e.xe):Ee te (gNm i) e ds:=h
theorem qV4{C:Addr}(h:tr ds (λ xs ps ds1=>s (.ins false C []::(xs++[])) (λ d ys=>d.isN=some true/\orF ys.head? λ self=>orF (Am ps ys.tail ds1) λ ds2=>Q self ds2) (λ x ys=>orF (Am ps ys.tail ds1) λ ds2=>xe x ds2)) xe):qY6 C s [] tr ds Q xe:=h
theorem qaN1{z:Bool}(h:rdN i ds=some (.lst z (ksD S)):=by rfl):Ay (fx1 Fp) (Au (rdN i) λ _=>some []) ds=some (.lst false (ksD S)):=by
 unfold Ay Au;rw[h];exact qm3 (ql5 S)
theorem qaE3(ys:Ds):(enD ys).length=ys.length:=by unfold enD;simp
theorem en_at{g:Nat->Option Int}(h:(enD (rlD N g))[i]? = some v):i < N/\v=.tup [.int (i:Nat),De (g i)]:=by
 have hi:i < N:=by
   have:=(zA4.mp h).1
   rwa[qaE3,qo0] at this
 refine⟨hi,?_⟩;unfold enD at h;rw[zAv,List.getElem?_zipIdx,qA9 hi] at h;simp at h;exact h.symm
theorem qaI0{K:Ds->List Pl->Ds->Prop}(hf:f ds=some y)(h:tr ds (λ xs ps ds2=>K (y.fz::xs) (.no::ps) ds2) xe):tbV (tFzV (Bn f)) tr ds K xe:=qa0 (k:=λ(y:D)=>tr ds (λ xs ps ds2=>K (y.fz::xs) (.no::ps) ds2) xe) hf h
theorem fz_to(h:te ds (λ d ds1=>Q d.fz ds1) xe):tFzV te ds Q xe:=h
def okN:Nat->D->Bool
 | n+1,.lst _ xs=>xs.all (okN n)
 | n+1,.tup xs=>xs.all (okN n)
 | _,x=>x.d0||x.flat.isSome
theorem qr3{f:D->D->Option Bool}:∀{xs:List D},(∀ x∈xs,f x x=some true)->Eo f xs xs=some true
 | [],_=>rfl
 | x::xs,h=>by
   show ((f x x).bind λ a=>(Eo f xs xs).bind λ b=>some (a&&b))=_;rw[h x zA7,qr3 λ y hy=>h y (zA6 _ hy)];rfl
theorem qS2(h:(x.d0||x.flat.isSome)=true):eqZ x x=some true:=by
 unfold eqZ;split
 . rfl
 rename_i hn
 have hd:x.d0=false:=by
   cases e:x.d0 with
   | false=>rfl
   | true=>rw[e] at hn;exact absurd rfl hn
 rw[hd,Bool.false_or] at h;cases x with
 | non=>rfl
 | bl b=>show some (eqV (.bl b) (.bl b))=_;rw[qu9 rfl]
 | int i=>show some (eqV (.int i) (.int i))=_;rw[qu9 rfl]
 | str i=>show some (eqV (.str i) (.str i))=_;rw[qu9 rfl]
 | _=>cases h
theorem qJ1:∀{n:Nat}{x:D},okN n x=true->eqN n x x=some true
 | 0,x,h=>by
   rw[qS3];refine qS2 ?_;cases x<;>exact h
 | n+1,x,h=>by
   cases x with
   | lst z xs=>exact qr3 λ y hy=>qJ1 (zB4.mp h y hy)
   | tup xs=>exact qr3 λ y hy=>qJ1 (zB4.mp h y hy)
   | _=>exact qS2 h
theorem qak0(h:okN 21 x=true):gNe x x=some (.bl false):=by
 have e:eqT x x=some true:=by
   cases x with
   | lst z xs=>exact qr3 λ y hy=>qJ1 (zB4.mp h y hy)
   | tup xs=>exact qr3 λ y hy=>qJ1 (zB4.mp h y hy)
   | _=>exact qS2 h
 unfold gNe;rw[e];rfl
theorem qaG5{src:List (Option Nat)}{g:VTG}{qf:VTT}(h:tr ds (λ xs _ ds1=>orF (Hs xs) λ j=>Fn j=true/\Fd src g qf te (Bm 0 j.toNat) ds1 Q) xe):tCR1 src (Go tr) g qf te ds Q xe:=h
theorem qaq5(h:(ksD ks)[i]? = some y):∃ z,ks[i]? = some z/\y=.int z:=by
 unfold ksD at h;rw[zAv] at h;cases e:ks[i]? with
 | none=>rw[e] at h;cases h
 | some z=>rw[e] at h;exact⟨z,rfl,(Option.some.inj h).symm⟩
theorem qp4(h:ks[i]? = some k):ks.take (i+1)=ks.take i++[k]:=by rw[List.take_add_one,h];rfl
theorem qA4(nd:ks.Nodup)(h:ks[i]? = some k):¬ k∈ks.take i:=λ z=>by
 obtain⟨j,hj⟩:=zBp z;rw[List.getElem?_take] at hj;split at hj
 . rename_i hlt
   obtain⟨h1,e1⟩:=zA4.mp h;obtain⟨h2,e2⟩:=zA4.mp hj
   have:=(List.getElem_inj nd).mp (e2.trans e1.symm)
   lia
 cases hj
theorem qaP0:∀ ks:List Int,D.fzs (ksD ks)=ksD ks
 | []=>rfl
 | k::r=>congrArg (D.int k::·) (qaP0 r)
theorem qax9:∀ ps:Pr,D.fzs (prD ps)=prD ps
 | []=>rfl
 | p::r=>congrArg (D.tup [.int p.1,.int p.2]::·) (qax9 r)
theorem qaP1:∀ ps:Pr,D.fzk (kvD ps)=kvD ps
 | []=>rfl
 | p::r=>congrArg ((Sum.inl p.1,D.int p.2)::·) (qaP1 r)
theorem qaP2{z:Bool}{C:Addr}{n:Int}{wr:Bool}{ps:Pr}:(planD z C n wr ps).fz=planD true C n wr ps:=by
 show D.ins true C [("rooms",.int n),("wraps",.bl wr),("homes",.lst true (D.fzs (prD ps))),("home_numbers",.dct true (D.fzk (kvD ps)))]=_;rw[qax9,qaP1];rfl
theorem fz_ks{z:Bool}(ks:List Int):(D.lst z (ksD ks)).fz=.lst true (ksD ks):=congrArg (D.lst true) (qaP0 ks)
theorem qaR0{z:Bool}{A B:List Int}(h:A.length+B.length<=1000):gAdd (.lst z (ksD A)) (.lst z' (ksD B))=some (.lst false (ksD (A++B))):=by
 show gd _ (D.lst false (ksD A++ksD B))=_;rw[show ksD (A++B)=ksD A++ksD B from zBh];exact qm3 ⟨ql5 A,ql5 B,by rw[qj0,qj0];unfold big;lia⟩
theorem qaS2{g:D->D->Option D}{Q:Bool->Ds->Prop}(h:ta ds (λ x ds1=>tb ds1 (λ y ds2=>orF (g x y) λ d=>orF d.asB λ b=>Q b ds2) xe) xe):ttE (t2 g ta tb) ds Q xe:=h
theorem He{gc:Ds->Option D}(h:tr ds (λ xs _ ds1=>orF (gc xs) λ d=>Q d ds1) xe):tcO gc (Go tr) ds Q xe:=h
theorem qaj1{w:VTS}(h:qc ds (λ b ds'=>if b=true then t { e with nx:=w e } ds' else w e ds') e.xe):Fl (sIf qc t F6) w e ds:=h
theorem qar1{C:Addr}(h:x.isC C=some d):x.known=true:=by
 cases x with
 | unk=>cases h
 | hole v=>cases h
 | _=>rfl
theorem qT2{l m n:Int}(h1:l<=n)(h2:n<=m):(D.int n).within l m=true:=by
 show (decide (l<=n)&&decide (n<=m))=true;rw[zAe h1,zAe h2];rfl
theorem qR5{C:Addr}{g:FV}(h1:g ds=some d)(hi:d.imm=true)(hm:d.isM C m=true)(h:tr ds (λ xs ps ds1=>s (d::(xs++[])) (λ r ys=>orF (Am (.no::ps) ys ds1) λ ds2=>Q r ds2) (λ x ys=>orF (Am (.no::ps) ys ds1) λ ds2=>xe x ds2)) xe):Je C m s [] g tr ds Q xe:=qa0 (a:=d) h1 ⟨hi,hm,h⟩
theorem qaF7(h:te ds (λ _ ds'=>u e ds') e.xe):Fl (Ha te) u e ds:=h
theorem qc1{p:List Nat}{w:V}{ps:List Pl}(h:A7 ds i p=some (.hole w)):Am (.pl i p w::ps) (y::ys) ds=Am ps ys (Bd ds i p y):=by
 show (match A7 ds i p with | some (.hole w')=>if w'=w then Am ps ys (Bd ds i p y) else none | _=>none)=_;rw[h];exact if_pos rfl
theorem qaq2{C:Addr}(hp:rdN i ds=some p)(hm:p.isM C m=true)(r:R [p] d)(hb:Am [.sl i] [p] (ds.set i .unk)=some ds)(q:Q d ds):qw0 C m (Av R) [] i Ax ds Q xe :=
 qH9 hp hm (qb7 (qa0 hp (qi9 r (qa0 hb q))))
theorem qag9{C:Addr}{p:List Nat}(h1:pf ds=some (i,p))(h2:A7 ds i p=some d)(hm:d.isM C m=true)(h:∀ w,tr (Bd ds i p (.hole w)) (λ xs ps ds1=>s (d::(xs++[])) (λ r ys=>orF (Am (Pl.pl i p w::ps) ys ds1) λ ds2=>Q r ds2) (λ x ys=>orF (Am (Pl.pl i p w::ps) ys ds1) λ ds2=>xe x ds2)) xe):Iz C m s [] pf tr ds Q xe :=
 qa0 (a:=(i,p)) h1 (qa0 (a:=d) h2 ⟨hm,h⟩)
theorem qac4(h:tr ds (λ xs _ ds1=>xs.length<=big/\Q (.tup xs) ds1) xe):G9 tr ds Q xe:=h
def Bt(N s t:Nat):List Int:=(List.range (t+1)).map λ i=>((rot N s i:Nat):Int)
theorem qan1{s t:Nat}:Bt N s t++[((rot N s (t+1):Nat):Int)]=Bt N s (t+1):=by
 unfold Bt;rw[List.range_succ (n:=t+1),zBh];rfl
theorem qay7{s t b:Nat}(hs:s < N)(hb:b < N)(ht:t < N):((b:Nat):Int)∈Bt N s t↔dist N s b<=t:=by
 unfold Bt;rw[zB1];constructor
 . rintro⟨i,hi,e⟩
   have hi:=zA9.mp hi;have e:rot N s i=b:=by lia
   rw[<- e,ql1 hs (by lia)];lia
 intro h;exact⟨dist N s b,zA9.mpr (by lia),by rw[qm1 hs hb]⟩
theorem qN6{s t:Nat}:(Bt N s t).length=t+1:=by unfold Bt;rw[zAc,zAq]
theorem qT3{s t:Nat}{z:Bool}:gIx (.lst z (ksD (Bt N s t))) (.int (-1))=some (.int (rot N s t:Nat)):=by
 have e:ksD (Bt N s t)=ksD ((List.range t).map λ i=>((rot N s i:Nat):Int))++[.int (rot N s t:Nat)]:=by
   unfold Bt ksD;rw[List.range_succ,zBh,zBh];rfl
 rw[e];exact qam1 _ _
local macro_rules | `(tactic| walk_at "s")=>`(tactic| exact⟨rfl,rfl,rfl,by decide +kernel,rfl,by decide +kernel,by decide +kernel⟩)
local macro_rules | `(tactic| walk_at "v")=>`(tactic| simp only[Fl,sIf,sRet,F6,Ha,Ee,gNm,I8,ttOr,Gi,Dx,ttV,ttE,Bn,B9,G8,tOrE,tNotE,Gj,tIfE,tcO,Go,tbV,tbN,Ax,tbB,qh6,qw0,tMv,tFz,t1,t2,t2v,t2n,Hk,t2nP,Ay,Au,kC,f1,f2,fx1,fx2,rdN,Am,Ht,fin,wOf,Jb,qaC8,Option.bind_some,Option.map_some,Option.isSome_some,List.getElem?_cons_zero,List.getElem?_cons_succ,List.set_cons_zero,List.set_cons_succ,List.cons_append,zB5,zAf,List.replicate_zero,zBk,zAo,zC9,List.getD_cons_zero,List.getD_cons_succ,Nat.reduceAdd,Nat.reduceSub,Nat.sub_self,Nat.zero_sub,Nat.add_sub_cancel,D.known,D.asB,D.asI,D.imm,Bool.not_true,Bool.not_false,if_true,if_false,reduceIte,Bool.false_eq_true,true_and,and_true,Bool.true_and,zCa,Br,Ex,B6,qaa0,qaB8])
def top(i:Nat):Stmt:=PySem.Challenge.pw_homeward_k55_spread_again.main.body.getD i (.Pass ⟨0,0,0,0⟩)
abbrev qau8:Stmt:=top 0
abbrev qy7:Stmt:=top 12
abbrev qg1:Stmt:=top 13
abbrev qs6:Stmt:=top 14
abbrev qo5:Stmt:=top 15
abbrev qh3:Stmt:=top 16
abbrev qk1:Stmt:=top 17
abbrev qt0:Stmt:=qi2 (top 18) 0
abbrev qk3:Stmt:=qi2 (top 18) 2
abbrev qt1:Stmt:=qi2 (top 18) 4
abbrev qz4:Stmt:=qi2 (top 18) 5
abbrev qg2:Stmt:=qi2 (top 18) 6
abbrev qo4:Stmt:=top 20
abbrev qe3:Stmt:=top 21
abbrev qy6:Stmt:=top 22
abbrev qs5:Stmt:=top 23
abbrev qy8:Stmt:=top 24
abbrev qs8:Stmt:=top 26
abbrev qk2:Stmt:=top 27
abbrev qk0:Stmt:=top 28
abbrev qz0:Stmt:=top 29
abbrev ql9:Stmt:=top 31
abbrev qi6:Stmt:=top 32
abbrev qs7:Stmt:=top 33
abbrev qz3:Stmt:=qi2 (top 34) 0
abbrev qh4:Stmt:=qi2 (top 34) 1
abbrev qi7:Stmt:=qi2 (top 34) 2
abbrev qm0:Stmt:=qi2 (top 34) 4
abbrev qG7:Stmt:=qi2 (top 34) 5
abbrev qz2:Stmt:=qi2 (top 34) 6
abbrev qz1:Stmt:=qi2 (top 34) 7
abbrev qs9:Stmt:=qi2 (top 34) 8
abbrev qo6:Stmt:=qi2 (top 34) 9
abbrev qc5:Stmt:=top 35
abbrev qG5:Stmt:=top 37
abbrev qy9:Stmt:=top 38
abbrev qG6:Stmt:=top 39
abbrev qs4:Stmt:=top 40
abbrev qaA8:Stmt:=top 42
abbrev qae2:Stmt:=top 43
abbrev qae6:Stmt:=top 44
abbrev qaA6:Stmt:=top 45
abbrev qae3:Stmt:=top 46
abbrev qae4:Stmt:=top 47
abbrev qaA7:Stmt:=top 48
abbrev qQ3:Stmt:=top 49
abbrev qaA5:Stmt:=top 50
abbrev qG8:Stmt:=top 51
abbrev qz6:Stmt:=top 52
abbrev qQ2:Stmt:=top 53
abbrev qz5:Stmt:=top 54
abbrev qQ1:Stmt:=top 55
abbrev qae5:Stmt:=top 56
abbrev Gq:Stmt:=top 57
set_option genInjectivity false in
set_option genSizeOf false in
structure Adr where
 f0:Addr
 d0:FuncData
 f1:Addr
 d1:FuncData
 f2:Addr
 d2:FuncData
 f3:Addr
 d3:FuncData
 f4:Addr
 d4:FuncData
 f5:Addr
 d5:FuncData
 f6:Addr
 d6:FuncData
 f7:Addr
 d7:FuncData
 f8:Addr
 d8:FuncData
 f9:Addr
 d9:FuncData
 f10:Addr
 d10:FuncData
 f11:Addr
 d11:FuncData
 f12:Addr
 d12:FuncData
 f13:Addr
 d13:FuncData
 f14:Addr
 d14:FuncData
 f15:Addr
 d15:FuncData
 f16:Addr
 d16:FuncData
 f17:Addr
 d17:FuncData
 f18:Addr
 d18:FuncData
 f19:Addr
 d19:FuncData
 f20:Addr
 d20:FuncData
 f21:Addr
 d21:FuncData
 f22:Addr
 d22:FuncData
 f23:Addr
 d23:FuncData
 f24:Addr
 d24:FuncData
 f25:Addr
 d25:FuncData
 f26:Addr
 d26:FuncData
 f27:Addr
 d27:FuncData
 f28:Addr
 d28:FuncData
 f29:Addr
 d29:FuncData
 f30:Addr
 d30:FuncData
 f31:Addr
 d31:FuncData
 f32:Addr
 d32:FuncData
 f33:Addr
 d33:FuncData
 f34:Addr
 d34:FuncData
 f35:Addr
 d35:FuncData
 f36:Addr
 d36:FuncData
 f37:Addr
 d37:FuncData
 f38:Addr
 d38:FuncData
 f39:Addr
 d39:FuncData
 f40:Addr
 d40:FuncData
 f41:Addr
 d41:FuncData
 f42:Addr
 d42:FuncData
 f43:Addr
 d43:FuncData
 f44:Addr
 d44:FuncData
 f45:Addr
 d45:FuncData
 f46:Addr
 d46:FuncData
 f47:Addr
 d47:FuncData
 f48:Addr
 d48:FuncData
 f49:Addr
 d49:FuncData
 f50:Addr
 d50:FuncData
 f51:Addr
 d51:FuncData
 f52:Addr
 d52:FuncData
 f53:Addr
 d53:FuncData
 Ce:Tok
 Ch:Tok
 Cg:Tok
 C3:Addr
 C4:Addr
structure Txt(K:PySem.W.Frag)(mg:Str->Option Value)(a:Adr):Prop where
 d0:Df K mg "_wall" "_wall" qau8 a.f0 a.d0 ["k"]
 d1:Df K mg "is_whole" "is_whole" qy7 a.f1 a.d1 ["thing"]
 d2:Df K mg "is_whole_within" "is_whole_within" qg1 a.f2 a.d2 ["thing", "least", "most"]
 d3:Df K mg "is_number" "is_number" qs6 a.f3 a.d3 ["thing"]
 d4:Df K mg "are_parted" "are_parted" qo5 a.f4 a.d4 ["numbers"]
 d5:Df K mg "is_number_pair" "is_number_pair" qh3 a.f5 a.d5 ["thing"]
 d6:Df K mg "is_home_list" "is_home_list" qk1 a.f6 a.d6 ["thing"]
 d7:Md K a.C3 "__init__" "Plan.__init__" qt0 a.f7 a.d7 ["self", "rooms", "wraps", "homes"]
 d8:Md K a.C3 "is_room" "Plan.is_room" qk3 a.f8 a.d8 ["self", "thing"]
 d9:Md K a.C3 "home" "Plan.home" qt1 a.f9 a.d9 ["self", "key"]
 d10:Md K a.C3 "far" "Plan.far" qz4 a.f10 a.d10 ["self", "key", "room"]
 d11:Md K a.C3 "goes_ahead" "Plan.goes_ahead" qg2 a.f11 a.d11 ["self", "room", "one", "other"]
 d12:Df K mg "room_ahead" "room_ahead" qo4 a.f12 a.d12 ["plan", "room"]
 d13:Df K mg "word_by_room_ahead" "word_by_room_ahead" qe3 a.f13 a.d13 ["plan", "rooms", "room"]
 d14:Df K mg "word_due" "word_due" qy6 a.f14 a.d14 ["plan", "rooms", "room"]
 d15:Df K mg "is_turned" "is_turned" qs5 a.f15 a.d15 ["plan", "rooms"]
 d16:Df K mg "fault_of" "fault_of" qy8 a.f16 a.d16 ["plan", "rooms"]
 d17:Df K mg "are_crowd" "are_crowd" qs8 a.f17 a.d17 ["plan", "keys", "room"]
 d18:Df K mg "crowded_room" "crowded_room" qk2 a.f18 a.d18 ["plan", "keys"]
 d19:Df K mg "refuse_crowd" "refuse_crowd" qk0 a.f19 a.d19 ["plan", "keys"]
 d20:Df K mg "bring_in" "bring_in" qz0 a.f20 a.d20 ["plan", "rooms", "key"]
 d21:Df K mg "room_behind" "room_behind" ql9 a.f21 a.d21 ["plan", "room"]
 d22:Df K mg "is_drawn_from" "is_drawn_from" qi6 a.f22 a.d22 ["plan", "rooms", "room"]
 d23:Df K mg "draw_back" "draw_back" qs7 a.f23 a.d23 ["plan", "rooms", "room"]
 d24:MdN K a.C4 "__init__" "Row.__init__" qz3 a.f24 a.d24 ["self", "plan", "rooms"]
 d25:Md K a.C4 "rooms_held" "Row.rooms_held" qh4 a.f25 a.d25 ["self"]
 d26:Md K a.C4 "keys_held" "Row.keys_held" qi7 a.f26 a.d26 ["self"]
 d27:Md K a.C4 "room_of" "Row.room_of" qm0 a.f27 a.d27 ["self", "key"]
 d28:Md K a.C4 "put" "Row.put" qG7 a.f28 a.d28 ["self", "key"]
 d29:Md K a.C4 "take" "Row.take" qz2 a.f29 a.d29 ["self", "key"]
 d30:Md K a.C4 "undo" "Row.undo" qz1 a.f30 a.d30 ["self"]
 d31:Md K a.C4 "deeds" "Row.deeds" qs9 a.f31 a.d31 ["self"]
 d32:Md K a.C4 "copied" "Row.copied" qo6 a.f32 a.d32 ["self"]
 d33:Df K mg "refuse_wrong_row_or_key" "refuse_wrong_row_or_key" qc5 a.f33 a.d33 ["row", "key"]
 d34:Df K mg "fars_of" "fars_of" qG5 a.f34 a.d34 ["row"]
 d35:Df K mg "farthest" "farthest" qy9 a.f35 a.d35 ["row"]
 d36:Df K mg "far_sum" "far_sum" qG6 a.f36 a.d36 ["row"]
 d37:Df K mg "window_of" "window_of" qs4 a.f37 a.d37 ["row", "key"]
 d38:Df K mg "_law_bag" "_law_bag" qaA8 a.f38 a.d38 ["_law_script"]
 d39:Df K mg "_law_take" "_law_take" qae2 a.f39 a.d39 ["_law_bag_here", "_law_many"]
 d40:Df K mg "_law_case" "_law_case" qae6 a.f40 a.d40 ["_law_bag_here", "_law_most"]
 d41:Df K mg "_law_key" "_law_key" qaA6 a.f41 a.d41 ["_law_bag_here", "_law_rooms", "_law_home_here"]
 d42:Df K mg "_law_keys" "_law_keys" qae3 a.f42 a.d42 ["_law_bag_here", "_law_case_here", "_law_many"]
 d43:Df K mg "_law_home" "_law_home" qae4 a.f43 a.d43 ["_law_case_here", "_law_key_here"]
 d44:Df K mg "_law_far" "_law_far" qaA7 a.f44 a.d44 ["_law_case_here", "_law_key_here", "_law_room"]
 d45:Df K mg "_law_ahead" "_law_ahead" qQ3 a.f45 a.d45 ["_law_case_here", "_law_room", "_law_one", "_law_other"]
 d46:Df K mg "_law_put" "_law_put" qaA5 a.f46 a.d46 ["_law_case_here", "_law_rooms", "_law_key_here"]
 d47:Df K mg "_law_housed" "_law_housed" qG8 a.f47 a.d47 ["_law_case_here", "_law_keys_here"]
 d48:Df K mg "_law_fitting" "_law_fitting" qz6 a.f48 a.d48 ["_law_case_here", "_law_keys_here"]
 d49:Df K mg "_law_drawn" "_law_drawn" qQ2 a.f49 a.d49 ["_law_bag_here", "_law_most"]
 d50:Df K mg "_law_room_of" "_law_room_of" qz5 a.f50 a.d50 ["_law_rooms", "_law_key_here"]
 d51:Df K mg "_law_right" "_law_right" qQ1 a.f51 a.d51 ["_law_case_here", "_law_row", "_law_keys_here", "_law_way"]
 d52:Df K mg "_law_deed" "_law_deed" qae5 a.f52 a.d52 ["_law_bag_here", "_law_case_here", "_law_row", "_law_keys_here", "_law_past"]
 d53:Df K mg "law" "law" Gq a.f53 a.d53 ["_law_script"]
 Ck:mg "MOST_NUMBER" = some (.int 1000000000000000000 a.Ce)
 Cp:mg "MOST_ROOMS" = some (.int 64 a.Ch)
 Cn:mg "MOST_HOMES" = some (.int 64 a.Cg)
 D3:mg "abs" = none
 Cy:mg "all" = none
 Cr:mg "bool" = none
 Ct:mg "dict" = none
 Cm:mg "enumerate" = none
 Cs:mg "int" = none
 C8:mg "isinstance" = none
 Ci:mg "len" = none
 Cj:mg "list" = none
 D2:mg "max" = none
 Cc:mg "range" = none
 D1:mg "set" = none
 Cz:mg "sum" = none
 Cv:mg "tuple" = none
 C5:Cl K mg "Plan" a.C3
 Cw:Mk K a.C3 a.f7
 C7:qg4 K a.C3 "rooms"
 Cd:qg4 K a.C3 "wraps"
 Co:qg4 K a.C3 "homes"
 Cf:qg4 K a.C3 "home_numbers"
 Cu:IsO K a.C3
 C6:Cl K mg "Row" a.C4
 Cq:Mk K a.C4 a.f24
 Ca:qg4 K a.C4 "plan"
 C9:qg4 K a.C4 "held"
 Cb:qg4 K a.C4 "done"
 D0:IsO K a.C4
section
variable{P:Program}{w:World}{K:PySem.W.Frag}{mg:Str->Option Value}{base:Heap}{a:Adr}
theorem qD5:qa9 ["thing"] ["thing"] (qa3 qy7):=by walk_at "s"
def qY8:VSp:=B6 (fx1 λ x=>x.kind.map λ _=>.bl x.whole)
theorem qaa4(T:Txt K mg a):VFn P w K mg base 1 a.f1 a.d1 ["thing"] qY8:=by
 refine VFn.mk' T.d1.F qD5 (wOf [true]) qx4 (λ _ _ _=>qah6) (λ _ _ _=>imm1) (λ cdv A outer sh H E av hr=>⟨_,(Ad (Ap (qa5 (vand (vbi ql3 qS6.ops T.C8 (qa2 (vnm 0) (qa2 (vty "int" T.Cs) qa6 rfl) rfl)) (Hq (vnot (vbi ql3 qS6.ops T.C8 (qa2 (vnm 0) (qa2 (vty "bool" T.Cr) qa6 rfl) rfl)))))))),λ ds Q xe h=>?_⟩);obtain⟨x,d,rfl,e,q⟩:=Jf h;obtain⟨t,ht,rfl⟩:=zAa.mp e;cases x<;>first | exact q | cases ht
theorem qj3:qa9 ["thing", "least", "most"] ["thing", "least", "most"] (qa3 qg1):=by walk_at "s"
def qr7:VSp:=B6 (fx3 λ x l m=>x.kind.bind λ _=>l.asI.bind λ i=>m.asI.map λ j=>.bl (x.within i j))
theorem qf6(T:Txt K mg a):VFn P w K mg base 2 a.f2 a.d2 ["thing", "least", "most"] qr7:=by
 refine VFn.mk' T.d2.F qj3 (wOf [true,true,true]) qx4 (λ _ _ _=>qaN6) (λ _ _ _=>imm3) (λ cdv A outer sh H E av hr=>⟨_,(Ad (Ap (Gk (Ae T.d1 (qaa4 T) qa1 (rm hr) (vaN 0 Aa)) (Iy (qa5 (vch F9 Ir F9 Ir (vnm 1) (vnm 0) (vnm 2))))))),λ ds Q xe h=>?_⟩);obtain⟨x,l,m,d,rfl,e,q⟩:=pure3 h;obtain⟨t,ht,e⟩:=zA1.mp e;obtain⟨i,hi,e⟩:=zA1.mp e;obtain⟨j,hj,rfl⟩:=zAa.mp e;cases l<;>cases hi
 cases m<;>cases hj
 cases x with
 | int n =>
   refine⟨rfl,?_⟩;show orF (f3 gLe gLe (rdN 1) (rdN 0) (rdN 2) [.int n,.int i,.int j]) _;have e3:f3 gLe gLe (rdN 1) (rdN 0) (rdN 2) [.int n,.int i,.int j]=some (.bl (decide (i<=n)&&decide (n<=j))):=by
     show (if decide (i<=n)=true then some (D.bl (decide (n<=j))) else some (.bl false))=_;cases decide (i<=n)<;>rfl
   rw[e3];exact q
 | _=>first | exact⟨rfl,q⟩ | cases ht
theorem qK6:qa9 ["numbers"] ["numbers"] (qa3 qo5):=by walk_at "s"
def qJ8:VSp:=Av λ ds d=>∃ z ks,ds=[.lst z (ksD ks)]/\ks.length<=1000/\d=.bl (decide ks.Nodup)
theorem qL0(T:Txt K mg a):VFn P w K mg base 1 a.f4 a.d4 ["numbers"] qJ8:=by
 refine VFn.mk2 T.d4.F qK6 (wOf [true]) qb3 (λ ds Q xe h=>by obtain⟨d,⟨z,ks,e,_⟩,_⟩:=h;rw[e];exact⟨rfl,rfl⟩) (λ cdv A outer sh H E av hr=>⟨_,(Ad (Ap (qa5 (v2 (A4 (qf5 hr.u64) (qa8 _)) A9 (vlenS T.Ci T.D1 (vnm 0)) (vbi qr5 qr4.ops T.Ci (qa2 (vnm 0) qa6 rfl)))))),λ ds Q xe h=>?_⟩);obtain⟨d,⟨z,ks,rfl,hl,rfl⟩,q⟩:=h;have e1:f1 Hd (rdN 0) [.lst z (ksD ks)]=some (.int (qm4 ks)):=by
   show ((intsD (ksD ks)).bind λ ns=>gd (ns.length<=1000) (.int (qm4 ns)))=_;rw[qW0];exact qm3 hl
 have e2:f2 gEq (f1 Hd (rdN 0)) (Ay (fx1 Fi) (Au (rdN 0) λ x=>some [])) [.lst z (ksD ks)]=some (.bl (decide ks.Nodup)):=by
   show ((f1 Hd (rdN 0) [.lst z (ksD ks)]).bind λ x=>gEq x (.int (ksD ks).length))=_;rw[e1,qj0];show some (D.bl ((qm4 ks:Int) == (ks.length:Int)))=_
   have:=qS4 ks
   by_cases h:ks.Nodup
   . rw[zAe h,this.mpr h,zBe]
   have hn:¬ ((qm4 ks:Int)=(ks.length:Int)):=λ z=>h (this.mp (by exact_mod_cast z))
   rw[zB3 h];simp[hn]
 exact qa0 e2 q
theorem qy2:qa9 ["thing"] ["thing"] (qa3 qs6):=by walk_at "s"
def qo3:VSp:=B6 (fx1 λ x=>x.kind.map λ _=>.bl x.num)
theorem qc3(T:Txt K mg a):VFn P w K mg base 3 a.f3 a.d3 ["thing"] qo3:=by
 refine VFn.mk' T.d3.F qy2 (wOf [true]) qx4 (λ _ _ _=>qah6) (λ _ _ _=>imm1) (λ cdv A outer sh H E av hr=>⟨_,(Ad (Ap (Ae T.d2 (qf6 T) qa1 (rm hr) (vaN 0 (vaV (qa5 Ac) (vaV (qa5 (vgi T.Ck)) Aa)))))),λ ds Q xe h=>?_⟩);obtain⟨x,d,rfl,e,q⟩:=Jf h;obtain⟨t,ht,rfl⟩:=zAa.mp e;cases x<;>first | exact⟨rfl,q⟩ | cases ht
theorem qw3:qa9 ["thing"] ["thing"] (qa3 qh3):=by walk_at "s"
def _root_.LV.D.pairB:D->Bool
 | .tup [x,y]=>x.num&&y.num
 | _=>false
def _root_.LV.D.kinded:D->Bool
 | .tup ds=>(ds.all λ d=>d.kind.isSome&&d.imm)&&decide (ds.length<=1000)
 | _=>true
def qw1:VSp:=B6 (fx1 λ x=>if x.kinded=true then x.kind.map λ _=>.bl x.pairB else none)
theorem qw5(T:Txt K mg a):VFn P w K mg base 4 a.f5 a.d5 ["thing"] qw1:=by
 refine VFn.mk' T.d5.F qw3 (wOf [true]) qx4 (λ _ _ _=>qah6) (λ _ _ _=>imm1) (λ cdv A outer sh H E av hr=>⟨_,(Ad (Ap (Gk (qa5 (vbi ql3 qS6.ops T.C8 (qa2 (vnm 0) (qa2 (vty "tuple" T.Cv) qa6 rfl) rfl))) (Gk (qa5 (v2 (A4 (qf5 hr.u64) (qa8 _)) A9 (vbi qr5 qr4.ops T.Ci (qa2 (vnm 0) qa6 rfl)) Ac)) (Gk (Ae T.d3 (qc3 T) qa1 (rm hr) (vaV (qb5 (v2 (An qb0) Ag (vnm 0) Ac)) Aa)) (Iy (Ae T.d3 (qc3 T) qa1 (rm hr) (vaV (qb5 (v2 (An qb0) Ag (vnm 0) Ac)) Aa)))))))),λ ds Q xe h=>?_⟩);obtain⟨x,d,rfl,e,q⟩:=Jf h;cases x with
 | tup ds =>
   by_cases hk:(D.tup ds).kinded=true
   . rw[if_pos hk] at e
     cases e;have hk:=zAg.mp hk;have ha:=zB4.mp hk.1
     match ds with
     | []=>exact q
     | [_]=>exact q
     | [x,y] =>
       have hx:=zAg.mp (ha x (by simp));have hy:=zAg.mp (ha y (by simp));obtain⟨t,ht⟩:=zB8.mp hx.1;obtain⟨u,hu⟩:=zB8.mp hy.1;refine⟨hx.2,?_⟩;refine qa0 (a:=D.bl x.num) (by show (x.kind.map _)=_;rw[ht];rfl) ?_;refine ite_b (λ hn=>⟨hy.2,qa0 (a:=D.bl y.num) (by show (y.kind.map _)=_;rw[hu];rfl) ?_⟩) λ hn=>?_
       . have:(D.tup [x,y]).pairB=y.num:=by show (x.num&&y.num)=_;rw[hn];rfl
         rw[this] at q;exact q
       have:(D.tup [x,y]).pairB=false:=by show (x.num&&y.num)=_;rw[hn];rfl
       rw[this] at q;exact q
     | x::y::z::r =>
       have e2:f2 gEq (Ay (fx1 Fi) (Au (rdN 0) λ x=>some [])) (kC (D.int 2)) [.tup (x::y::z::r)]=some (.bl false):=by
         show some (D.bl (((x::y::z::r).length:Int) == 2))=_
         have:(((x::y::z::r).length:Int) == 2)=false:=by
           have:((x::y::z::r).length:Int)≠2:=by simp;lia
           simpa using this
         rw[this]
       have:orF (f2 gEq (Ay (fx1 Fi) (Au (rdN 0) λ x=>some [])) (kC (D.int 2)) [.tup (x::y::z::r)]) (λ d=>orF d.asB λ k=>if k=true then G8 (qh6 qo3 [] (tbV (B9 (f2 gIx (rdN 0) (kC (D.int 0)))) Ax)) (qh6 qo3 [] (tbV (B9 (f2 gIx (rdN 0) (kC (D.int 1)))) Ax)) [.tup (x::y::z::r)] (λ d ds=>Q d (fin (wOf [true]) 0 [.tup (x::y::z::r)] ds)) (λ x1 ds=>xe x1 (fin (wOf [true]) 0 [.tup (x::y::z::r)] ds)) else Q (.bl false) [.tup (x::y::z::r)]):=by
         rw[e2];exact q
       exact this
   rw[if_neg hk] at e;cases e
 | _=>first | (cases e;exact q) | cases e
theorem qC2:qa9 ["thing"] ["thing"] (qa3 qk1):=by walk_at "s"
def Gz:D->Option Int
 | .tup (.int k::_)=>some k
 | _=>none
def _root_.LV.D.homesB:D->Bool
 | .lst _ ys=>decide (ys.length<=64)&&(ys.all D.pairB&&decide (ys.filterMap Gz).Nodup)
 | _=>false
def _root_.LV.D.lstOk(p:D->Bool):D->Bool
 | .lst _ ys=>D.imms ys&&ys.all p&&decide (ys.length<=1000)
 | x=>x.kind.isSome
def Jh(y:D):Bool:=y.kind.isSome&&y.kinded
theorem qaM2(h:x.num=true):∃ n,x=.int n/\Ak n:=by
 cases x with
 | int n =>
   have:=zAg.mp h
   exact⟨n,rfl,zAb this.1,zAb this.2⟩
 | _=>cases h
theorem qt9{n:Int}(h:Ak n):(D.int n).num=true:=by
 show (decide (0<=n)&&decide (n<=1000000000000000000))=true;rw[zAe h.1,zAe h.2];rfl
theorem qaL3(h:y.pairB=true):∃ k m,y=.tup [.int k,.int m]/\Ak k/\Ak m:=by
 cases y with
 | tup ds =>
   match ds,h with
   | [x,y],h =>
     have h:=zAg.mp h;obtain⟨k,rfl,hk⟩:=qaM2 h.1;obtain⟨m,rfl,hm⟩:=qaM2 h.2;exact⟨k,m,rfl,hk,hm⟩
 | _=>cases h
theorem qaK3:∀{ys:Ds},ys.all D.pairB=true->∃ ps:Pr,ys=prD ps/\∀ p∈ps,Ak p.1/\Ak p.2
 | [],_=>⟨[],rfl,λ p h=>by simp at h⟩
 | y::r,h=>by
   rw[List.all_cons,zBi] at h;obtain⟨k,m,rfl,hk,hm⟩:=qaL3 h.1;obtain⟨ps,rfl,hp⟩:=qaK3 h.2;refine⟨(k,m)::ps,rfl,λ p hp'=>?_⟩;rcases zAi.mp hp' with rfl | hp'
   . exact⟨hk,hm⟩
   exact hp p hp'
theorem qai3:∀ ps:Pr,(prD ps).filterMap Gz=ps.map (·.1)
 | []=>rfl
 | p::r=>by show p.1::(prD r).filterMap Gz=_;rw[qai3 r];rfl
theorem qaQ7:∀{ps:Pr},(∀ p∈ps,Ak p.1/\Ak p.2)->(prD ps).all D.pairB=true
 | [],_=>rfl
 | p::r,h=>by
   show (((D.int p.1).num&&(D.int p.2).num)&&(prD r).all D.pairB)=true;rw[qt9 (h p zA7).1,qt9 (h p zA7).2,qaQ7 λ q hq=>h q (zA6 _ hq)];rfl
theorem qaQ8:∀ ps:Pr,(prD ps).all Jh=true
 | []=>rfl
 | p::r=>by show (true&&(prD r).all Jh)=true;rw[qaQ8 r];rfl
theorem qM1{z:Bool}{ps:Pr}(h:Iq ps):(D.lst z (prD ps)).homesB=true/\(D.lst z (prD ps)).lstOk Jh=true:=by
 have hl:(prD ps).length<=64:=by simpa[prD] using h.len
 constructor
 . show (decide ((prD ps).length<=64)&&((prD ps).all D.pairB&&decide ((prD ps).filterMap Gz).Nodup))=true
   rw[zAe hl,qaQ7 h.nums,qai3,zAe h.nd];rfl
 show (D.imms (prD ps)&&(prD ps).all Jh&&decide ((prD ps).length<=1000))=true;rw[qr0,qaQ8,zAe (by lia)];rfl
theorem qX9{α:Type}(f:α->Bool):∀ l:List α,bools (l.map λ a=>.bl (f a))=some (l.map f)
 | []=>rfl
 | a::r=>by show (bools (r.map λ a=>D.bl (f a))).map (λ bs=>f a::bs)=_;rw[qX9 f r];rfl
theorem qaQ9(f:α->Bool)(l:List α):gAll (.lst false (l.map λ a=>.bl (f a)))=some (.bl (l.all f)):=by
 show (bools (l.map λ a=>D.bl (f a))).map (λ bs=>D.bl (bs.all id))=_;rw[qX9];show some (D.bl ((l.map f).all id))=_;rw[List.all_map];rfl
def qB9:VSp:=Av λ ds d=>∃ x,ds=[x]/\x.lstOk Jh=true/\d=.bl x.homesB
theorem qC6(T:Txt K mg a):VFn P w K mg base 5 a.f6 a.d6 ["thing"] qB9:=by
 refine VFn.mk2 T.d6.F qC2 (wOf [true]) qb3 (λ ds Q xe ⟨d,⟨x,e,_⟩,_⟩=>by rw[e];exact⟨rfl,rfl⟩) (λ cdv A outer sh H E av hr=>⟨_,(Ab (sif (tor (Bp (tv (vbi ql3 qS6.ops T.C8 (qa2 (vnm 0) (qa2 (vty "list" T.Cj) qa6 rfl) rfl)))) (Ix (q2 (Aj By (qa8 _)) Da (vbi qr5 qr4.ops T.Ci (qa2 (vnm 0) qa6 rfl)) (vgi T.Cn)))).te
     (Ad (Ap (qa5 vbl)))
     Aq)
     (Ad (Ap (Gk (ebi (qX8 rfl) qaQ3.ops T.Cy (Dk (vaV (ecN (NY:=["pair"]) (src:=[none]) 0 (blk (λ av C s0 H0 ex=>(Ba 0 (show (["pair"]:List Str).Nodup by decide +kernel))) (λ av C s0 H0 ex=>Fb) (λ av C s0 H0 ex=>(Ae T.d5 (qw5 T) qu4 (rm hr) (vaN 0 Aa))))) Aa))) (Iy (Ae T.d4 (qL0 T) qa1 (rm hr) (vaV (ecN (NY:=["pair"]) (src:=[none]) 0 (blk (λ av C s0 H0 ex=>(Ba 0 (show (["pair"]:List Str).Nodup by decide +kernel))) (λ av C s0 H0 ex=>Fb) (λ av C s0 H0 ex=>(qb5 (v2 (An qb0) Ag (vnm 0) Ac))))) Aa))))))),λ ds Q xe h=>?_⟩)
 obtain⟨d,⟨x,rfl,hk,rfl⟩,q⟩:=h;cases x with
 | lst z ys =>
   have hk:=zAg.mp hk;have hk1:=zAg.mp hk.1;have hlen:=zAb hk.2;refine ite_b (p:=decide ((64:Int) < (ys.length:Nat))) (λ h=>?_) (λ h=>?_)
   . have hn:¬ ys.length<=64:=by have:=zAb h;lia
     have:(D.lst z ys).homesB=false:=by
       show (decide (ys.length<=64)&&_)=false;rw[zB3 hn];rfl
     rw[this] at q;exact q
   have hn:ys.length<=64:=by have:=zB9 h;lia
   have hb:(D.lst z ys).homesB=(ys.all D.pairB&&decide (ys.filterMap Gz).Nodup):=by
     show (decide (ys.length<=64)&&_)=_;rw[zAe hn];rfl
   have hall:=zB4.mp hk1.2;refine⟨hk1.1,?_⟩;refine qj8 (λ ι=>∃ d,ι=[d]) (λ y=>some (.bl y.pairB)) ys [] _ (by show 0+ys.length < big;unfold big;lia) ⟨_,rfl⟩ ?_ ?_
   . rintro y hy ι acc ⟨d,rfl⟩ R hR hacc
     have h1:=zAg.mp (hall y hy);obtain⟨t,ht⟩:=zB8.mp h1.1;refine Jg (x:=y) (rd0 (qq9 ht)) (qa0 (a:=D.bl y.pairB) ?_ ?_)
     . show (if y.kinded=true then y.kind.map _ else none)=_
       rw[if_pos h1.2,ht];rfl
     exact⟨hacc,hR _ ⟨_,rfl⟩⟩
   rintro ι ⟨d,rfl⟩;rw[zB5,qaF4];refine qa0 (qaQ9 D.pairB ys) (ite_b (λ ha=>?_) λ ha=>?_)
   . obtain⟨ps,rfl,hp⟩:=qaK3 ha
     refine⟨qr0 ps,qj8 (λ ι=>∃ d,ι=[d]) (λ y=>(Gz y).map .int) (prD ps) [] _ (by show 0+(prD ps).length < big;unfold big;lia) ⟨_,rfl⟩ ?_ ?_⟩
     . rintro y hy ι acc ⟨d,rfl⟩ R hR hacc
       obtain⟨p,hp',rfl⟩:=zB1.mp hy;exact⟨rfl,hacc,hR _ ⟨_,rfl⟩⟩
     rintro ι ⟨d,rfl⟩;have e:[]++(prD ps).filterMap (λ y=>(Gz y).map D.int)=ksD (ps.map (·.1)):=by
       rw[zB5];unfold prD ksD;rw[List.filterMap_map,List.map_map];exact qaF4 _ _
     rw[e];rw[hb,ha,qai3] at q;exact⟨_,⟨false,_,rfl,by simp;simp[prD] at hn;lia,rfl⟩,q⟩
   rw[hb,ha] at q;exact q
 | _=>first | exact q | cases hk
theorem qP8:qa9 ["self", "rooms", "wraps", "homes"] ["self", "rooms", "wraps", "homes"] (qa3 qt0):=by walk_at "s"
def qP0(C:Addr):VSp:=λ ds Q _=>∃ n wr z ps,ds=[.ins false C [],.int n,.bl wr,.lst z (prD ps)]/\1<=n/\n<=64/\Iq ps/\Q .non [planD false C n wr ps,.int n,.bl wr,.lst z (prD ps)]
theorem qax3{z:Bool}{ps:Pr}:Fp (.lst z (prD ps))=some (.lst false (prD ps)):=qm3 (qr0 ps)
theorem qR0(T:Txt K mg a):VFn P w K mg base 6 a.f7 a.d7 ["self", "rooms", "wraps", "homes"] (qP0 a.C3):=by
 refine VFn.mk2 T.d7.F qP8 (wOf [true,true,true,true]) (λ ds Q Q' xe xe' hQ _ h=>by obtain⟨n,wr,z,ps,e,h1,h2,h3,q⟩:=h;exact⟨n,wr,z,ps,e,h1,h2,h3,hQ _ _ q⟩) (λ ds Q xe h=>by obtain⟨n,wr,z,ps,e,_⟩:=h;rw[e];exact⟨rfl,rfl⟩) (λ cdv A outer sh H E av hr=>⟨_,(Ab (sif (Bp (te (Ae T.d2 (qf6 T) qa1 (rm hr) (vaN 1 (vaV (qa5 Ac) (vaV (qa5 (vgi T.Cp)) Aa))))))
     (Ad qj9)
     Aq)
     (Ab (sif (Bp (tv (vbi ql3 qS6.ops T.C8 (qa2 (vnm 2) (qa2 (vty "bool" T.Cr) qa6 rfl) rfl))))
     (Ad qj9)
     Aq)
     (Ab (sif (Bp (te (Ae T.d6 (qC6 T) qa1 (rm hr) (vaN 3 Aa))))
     (Ad qj9)
     Aq)
     (Ab (Gn rfl (vpn 0) (qb5 (vnm 1)) T.C5.cl T.C7)
     (Ab (Gn rfl (vpn 0) (qb5 (vnm 2)) T.C5.cl T.Cd)
     (Ab (Gn rfl (vpn 0) (qa5 (E6 qd3 qv7.ops T.Cj (qa2 (vnm 3) qa6 rfl))) T.C5.cl T.Co)
     (Ad (Gn rfl (vpn 0) (qa5 (E6 (qN0 rfl) qay3.ops T.Ct (qa2 (vnm 3) qa6 rfl))) T.C5.cl T.Cf)))))))),λ ds Q xe h=>?_⟩)
 obtain⟨n,wr,z,ps,rfl,h1,h2,hp,q⟩:=h;refine qb1 [.ins false a.C3 [],.int n,.bl wr,.lst z (prD ps)] (λ K hK=>?_) (qb1 [.ins false a.C3 [],.int n,.bl wr,.lst z (prD ps)] (λ K hK=>hK) (qb1 [.ins false a.C3 [],.int n,.bl wr,.lst z (prD ps)] (λ K hK=>?_) ?_))
 . walk_at "v"
   refine qH3 (d:=D.bl true) ?_ hK;show some (D.bl ((D.int n).within 1 64))=_;rw[qT2 h1 h2]
 . refine Jg rfl ⟨D.bl true,⟨_,rfl,(qM1 hp).2,by rw[(qM1 hp).1]⟩,hK⟩
 refine qb1 [.ins false a.C3 [("rooms",.int n)],.int n,.bl wr,.lst z (prD ps)] (λ K hK=>⟨rfl,qa0 (a:=(0,[])) rfl (qa0 qh8 ⟨by decide,hK⟩)⟩) ?_;refine qb1 [.ins false a.C3 [("rooms",.int n),("wraps",.bl wr)],.int n,.bl wr,.lst z (prD ps)] (λ K hK=>⟨rfl,qa0 (a:=(0,[])) rfl (qa0 qh8 ⟨by show 1 < 100;decide,hK⟩)⟩) ?_;refine qb1 [.ins false a.C3 [("rooms",.int n),("wraps",.bl wr),("homes",.lst false (prD ps))],.int n,.bl wr,.lst z (prD ps)] (λ K hK=>?_) ?_
 . refine qa0 (qax3 (z:=z)) ?_
   exact qa0 (a:=(0,[])) rfl (qa0 qh8 ⟨by show 2 < 100;decide,hK⟩)
 refine qa0 (qay2 (z:=z) hp.nd) ?_;exact qa0 (a:=(0,[])) rfl (qa0 qh8 ⟨by show 3 < 100;decide,q⟩)
theorem qC3:qa9 ["self", "thing"] ["self", "thing"] (qa3 qk3):=by walk_at "s"
def qC1(C:Addr):VSp:=Av λ ds d=>∃ z n wr ps x t,ds=[planD z C n wr ps,x]/\x.kind=some t/\d=.bl (x.within 0 (n - 1))
theorem qn9(T:Txt K mg a):VFn P w K mg base 3 a.f8 a.d8 ["self", "thing"] (qC1 a.C3):=by
 refine VFn.mk2 T.d8.F qC3 (wOf [true,true]) qb3 (λ ds Q xe h=>by obtain⟨d,⟨z,n,wr,ps,x,t,e,_⟩,_⟩:=h;rw[e];exact⟨rfl,rfl⟩) (λ cdv A outer sh H E av hr=>⟨_,(Ad (Ap (Ae T.d2 (qf6 T) qa1 (rm hr) (vaN 1 (vaV (qa5 Ac) (vaV (qa5 (v2 (Al qt6) qt3 (Be rfl (vnm 0) T.C5.cl T.C7) Ac)) Aa)))))),λ ds Q xe h=>?_⟩);obtain⟨d,⟨z,n,wr,ps,x,t,rfl,hk,rfl⟩,q⟩:=h;have hx:rdN 1 [planD z a.C3 n wr ps,x]=some x:=qn8.mpr ⟨rfl,qq9 hk⟩;have e1:f2 gSub (f1 (D.fld a.C3 "rooms") (rdN 0)) (kC (.int 1)) [planD z a.C3 n wr ps,x]=some (.int (n - 1)):=f2_of (A5 rfl qe1) rfl rfl;show qh6 _ _ (tbN 1 _) [planD z a.C3 n wr ps,x] _ _;refine qb6 hx ?_;refine qf0 (y:=.int 0) rfl ?_;refine qf0 e1 ?_;refine qa0 hx ?_;refine qH3 (d:=.bl (x.within 0 (n - 1))) ?_ (qa0 rfl q);show x.kind.bind _=_;rw[hk];rfl
theorem qP9:qa9 ["self", "key"] ["self", "key"] (qa3 qt1):=by walk_at "s"
def qP1(C:Addr):VSp:=Av λ ds d=>∃ z n wr ps k,ds=[planD z C n wr ps,.int k]/\1<=n/\Ak k/\d=.int (qd2 n ps k)
theorem qaj8{z:Bool}{ps:Pr}(h:fa ds=some (.dct z (kvD ps)))(hk:rdN i ds=some (.int k)):fget fa (rdN i) (rdN i) ds=some (.int ((ps.lookup k).getD k)):=by
 unfold fget;rw[h,hk];show gd (((Dt (kvD ps) (.inl k)).getD (.int k)).imm=true) ((Dt (kvD ps) (.inl k)).getD (.int k))=_;rw[qau1];cases ps.lookup k<;>rfl
theorem qaM8{x n:Int}(h:1<=n):Hn (.int x) (.int n)=some (.int (x % n)):=qm3 (zAe (by lia))
theorem ql0(T:Txt K mg a):VFn P w K mg base 4 a.f9 a.d9 ["self", "key"] (qP1 a.C3):=by
 refine VFn.mk2 T.d9.F qP9 (wOf [true,true]) qb3 (λ ds Q xe h=>by obtain⟨d,⟨z,n,wr,ps,k,e,_⟩,_⟩:=h;rw[e];exact⟨rfl,rfl⟩) (λ cdv A outer sh H E av hr=>⟨_,(Ab (sif (Bp (te (Ae T.d3 (qc3 T) qa1 (rm hr) (vaN 1 Aa))))
     (Ad qj9)
     Aq)
     (Ad (Ap (qa5 (v2 (Al qk9) qk6 (vget (hu_of hr) (Be rfl (vnm 0) T.C5.cl T.Cf) (vnm 1) (vnm 1) ⟨rfl,rfl,rfl,rfl⟩) (Be rfl (vnm 0) T.C5.cl T.C7)))))),λ ds Q xe h=>?_⟩)
 obtain⟨d,⟨z,n,wr,ps,k,rfl,h1,hk,rfl⟩,q⟩:=h;have key:orF (f2 Hn (fget (f1 (D.fld a.C3 "home_numbers") (rdN 0)) (rdN 1) (rdN 1)) (f1 (D.fld a.C3 "rooms") (rdN 0)) [planD z a.C3 n wr ps,.int k]) (λ d=>Q d [planD z a.C3 n wr ps,.int k]):=qa0 (f2_of (qaj8 (A5 rfl qab3) rfl) (A5 rfl qe1) (qaM8 h1)) q;exact Jg rfl (qH3 (d:=D.bl true) (by show some (D.bl (D.int k).num)=_;rw[qt9 hk]) (qa0 rfl (qa0 (a:=true) rfl key)))
theorem qD8:qa9 ["self", "key", "room", "steps"] ["self", "key", "room"] (qa3 qz4):=by walk_at "s"
def qZ4(C:Addr):VSp:=Av λ ds d=>∃ z n wr ps k r,ds=[planD z C n wr ps,.int k,.int r]/\1<=n/\Ak k/\0<=r/\r < n/\d=Ej (Aw n wr ps k r)
theorem Ji(hk:Ak k):fx1 (λ x=>x.kind.map λ _=>.bl x.num) [.int k]=some (.bl true):=by
 show some (D.bl (D.int k).num)=_;rw[qt9 hk]
theorem qav1{C:Addr}{z:Bool}{n:Int}{wr:Bool}{ps:Pr}{r:Int}(h0:0<=r)(h1:r < n):∃ z' n' wr' ps' x t,[planD z C n wr ps,.int r]=[planD z' C n' wr' ps',x]/\x.kind=some t/\D.bl true=.bl (x.within 0 (n' - 1)) :=
 ⟨z,n,wr,ps,_,_,rfl,rfl,by rw[qT2 h0 (by lia)]⟩
theorem qf7(T:Txt K mg a):VFn P w K mg base 5 a.f10 a.d10 ["self", "key", "room"] (qZ4 a.C3):=by
 refine VFn.mk2 T.d10.F qD8 (wOf [true,true,true]) qb3 (λ ds Q xe h=>by obtain⟨d,⟨z,n,wr,ps,k,r,e,_⟩,_⟩:=h;rw[e];exact⟨rfl,rfl⟩) (λ cdv A outer sh H E av hr=>⟨_,(Ab (sif (Bp (te (Ae T.d3 (qc3 T) qa1 (rm hr) (vaN 1 Aa))))
     (Ad qj9)
     Aq)
     (Ab (sif (Bp (te (ql8 0 T.d8 T.C5.cl (qn9 T) qa1 (rm hr) (vaN 2 Aa))))
     (Ad qj9)
     Aq)
     (Ab (Ah 3 qD8.nd (e2n 2 (Al qt6) qt3 (ql8 0 T.d9 T.C5.cl (ql0 T) qa1 (rm hr) (vaN 1 Aa))))
     (Ab (sif (tv (Be rfl (vnm 0) T.C5.cl T.Cd))
     (Ad (Ap (qa5 (v2 (Al qk9) qk6 (vnm 3) (Be rfl (vnm 0) T.C5.cl T.C7)))))
     Aq)
     (Ad (Ap (eif (q2 (Aj G2 (qa8 _)) Iu (vnm 3) Ac) (qb5 (vnm 3)) (qa5 A6)))))))),λ ds Q xe h=>?_⟩)
 obtain⟨d,⟨z,n,wr,ps,k,r,rfl,h1,hk,hr0,hrn,rfl⟩,q⟩:=h;refine Fv (λ Q xe q=>qH4 (x:=.int k) rfl (Ji hk) rfl q) ?_;refine Fv (λ Q xe q=>qI0 (p:=planD z a.C3 n wr ps) (x:=.int r) rfl (qe4 rfl) rfl rfl (qav1 hr0 hrn) rfl q) ?_;refine qb1 [planD z a.C3 n wr ps,.int k,.int r,.int (r - qd2 n ps k)] (λ K hK=>?_) ?_
 . exact⟨rfl,qI0 (p:=planD z a.C3 n wr ps) (x:=.int k) (d:=.int (qd2 n ps k)) rfl (qe4 rfl) rfl rfl ⟨z,n,wr,ps,k,rfl,h1,hk,rfl⟩ rfl (qa0 (a:=D.int (r - qd2 n ps k)) rfl hK)⟩
 unfold Aw at q;refine qg0 wr (A5 rfl qx5) (λ h=>?_) (λ h=>?_)
 . subst h
   exact qd1 (.int ((r - qd2 n ps k) % n)) (f2_of rfl (A5 rfl qe1) (qaM8 h1)) q
 subst h;refine qh5 (Fw (b:=decide (0<=r - qd2 n ps k)) rfl (λ h=>?_) (λ h=>?_))
 . rw[if_neg (by decide),if_pos (zAb h)] at q
   exact⟨rfl,q⟩
 rw[if_neg (by decide),if_neg (zB9 h)] at q;exact q
theorem qf4:qa9 ["self", "room", "one", "other", "one_far", "other_far"] ["self", "room", "one", "other"] (qa3 qg2):=by walk_at "s"
def qr8(C:Addr):VSp:=Av λ ds d=>∃ z n wr ps r x y,ds=[planD z C n wr ps,.int r,.int x,.int y]/\1<=n/\0<=r/\r < n/\Ak x/\Ak y/\d=.bl (qf3 n wr ps r x y)
theorem qas1{C:Addr}{z:Bool}{n:Int}{wr:Bool}{ps:Pr}{r:Int}(h1:1<=n)(hk:Ak k)(h0:0<=r)(hn:r < n):∃ z' n' wr' ps' k' r',[planD z C n wr ps,.int k,.int r]=[planD z' C n' wr' ps',.int k',.int r']/\1<=n'/\Ak k'/\0<=r'/\r' < n'/\Ej (Aw n wr ps k r)=Ej (Aw n' wr' ps' k' r') :=
 ⟨z,n,wr,ps,k,r,rfl,h1,hk,h0,hn,rfl⟩
theorem qj6(T:Txt K mg a):VFn P w K mg base 6 a.f11 a.d11 ["self", "room", "one", "other"] (qr8 a.C3):=by
 refine VFn.mk2 T.d11.F qf4 (wOf [true,true,true,true]) qb3 (λ ds Q xe h=>by obtain⟨d,⟨z,n,wr,ps,r,x,y,e,_⟩,_⟩:=h;rw[e];exact⟨rfl,rfl⟩) (λ cdv A outer sh H E av hr=>⟨_,(Ab (sif (Bp (te (ql8 0 T.d8 T.C5.cl (qn9 T) qa1 (rm hr) (vaN 1 Aa))))
     (Ad qj9)
     Aq)
     (Ab (sif (Bp (te (Ae T.d3 (qc3 T) qa1 (rm hr) (vaN 2 Aa))))
     (Ad qj9)
     Aq)
     (Ab (sif (Bp (te (Ae T.d3 (qc3 T) qa1 (rm hr) (vaN 3 Aa))))
     (Ad qj9)
     Aq)
     (Ab (Ah 4 qf4.nd (ql8 0 T.d10 T.C5.cl (qf7 T) qa1 (rm hr) (vaN 2 (vaN 1 Aa))))
     (Ab (Ah 5 qf4.nd (ql8 0 T.d10 T.C5.cl (qf7 T) qa1 (rm hr) (vaN 3 (vaN 1 Aa))))
     (Ab (sif (q2 (Aj Db (qa8 _)) Di (vnm 4) A6)
     (Ad (Ap (qa5 vbl)))
     Aq)
     (Ab (sif (q2 (Aj Db (qa8 _)) Di (vnm 5) A6)
     (Ad (Ap (qa5 vbl)))
     Aq)
     (Ad (Ap (qa5 (vor (v2 (A4 By (qa8 _)) Da (vnm 4) (vnm 5)) (Hq (vand (v2 (A4 (qf5 hr.u64) (qa8 _)) A9 (vnm 4) (vnm 5)) (Hq (v2 (A4 D8 (qa8 _)) Et (vnm 2) (vnm 3)))))))))))))))),λ ds Q xe h=>?_⟩)
 obtain⟨d,⟨z,n,wr,ps,r,x,y,rfl,h1,hr0,hrn,hx,hy,rfl⟩,q⟩:=h;refine Fv (λ Q xe q=>qI0 (p:=planD z a.C3 n wr ps) (x:=.int r) rfl (qe4 rfl) rfl rfl (qav1 hr0 hrn) rfl q) ?_;refine Fv (λ Q xe q=>qH4 (x:=.int x) rfl (Ji hx) rfl q) ?_;refine Fv (λ Q xe q=>qH4 (x:=.int y) rfl (Ji hy) rfl q) ?_;refine qb1 [planD z a.C3 n wr ps,.int r,.int x,.int y,Ej (Aw n wr ps x r),.unk] (λ K hK=>?_) ?_
 . exact qaq1 (p:=planD z a.C3 n wr ps) (x:=.int x) (y:=.int r) rfl (qe4 rfl) rfl rfl rfl rfl (qas1 h1 hx hr0 hrn) rfl hK
 refine qb1 [planD z a.C3 n wr ps,.int r,.int x,.int y,Ej (Aw n wr ps x r),Ej (Aw n wr ps y r)] (λ K hK=>?_) ?_
 . exact qaq1 (p:=planD z a.C3 n wr ps) (x:=.int y) (y:=.int r) rfl (qe4 rfl) rfl rfl rfl rfl (qas1 h1 hy hr0 hrn) rfl hK
 unfold qf3 at q;cases ex:Aw n wr ps x r with
 | none =>
   rw[ex] at q;exact q
 | some f =>
   rw[ex] at q;cases ey:Aw n wr ps y r with
   | none =>
     rw[ey] at q;exact q
   | some g =>
     rw[ey] at q;refine qg0 false rfl (λ h=>nomatch h) λ _=>?_
     refine qg0 false rfl (λ h=>nomatch h) λ _=>?_
     exact qd1 _ (qaP5 (a:=decide (g < f)) rfl (qak4 (a:=decide (f=g)) (b:=decide (x < y)) rfl rfl)) q
theorem qK5:qa9 ["plan", "room"] ["plan", "room"] (qa3 qo4):=by walk_at "s"
def qJ6(C:Addr):VSp:=Av λ ds d=>∃ z n wr ps r,ds=[planD z C n wr ps,.int r]/\d=(if 0 < r then .int (r - 1) else if wr=true then .int (n - 1) else .non)
theorem qv3(T:Txt K mg a):VFn P w K mg base 1 a.f12 a.d12 ["plan", "room"] (qJ6 a.C3):=by
 refine VFn.mk2 T.d12.F qK5 (wOf [true,true]) qb3 (λ ds Q xe h=>by obtain⟨d,⟨z,n,wr,ps,r,e,_⟩,_⟩:=h;rw[e];exact⟨rfl,rfl⟩) (λ cdv A outer sh H E av hr=>⟨_,(Ab (sif (q2 (Aj By (qa8 _)) Da (vnm 1) Ac)
     (Ad (Ap (qa5 (v2 (Al qt6) qt3 (vnm 1) Ac))))
     Aq)
     (Ad (Ap (eif (tv (Be rfl (vnm 0) T.C5.cl T.Cd)) (qa5 (v2 (Al qt6) qt3 (Be rfl (vnm 0) T.C5.cl T.C7) Ac)) (qa5 A6))))),λ ds Q xe h=>?_⟩)
 obtain⟨d,⟨z,n,wr,ps,r,rfl,rfl⟩,q⟩:=h;refine As [planD z a.C3 n wr ps,.int r] rfl ?_;refine qg0 (decide (0 < r)) rfl (λ h=>?_) λ h=>?_
 . rw[if_pos (zAb h)] at q
   exact q
 rw[if_neg (zB9 h)] at q;refine qh5 (Fw (b:=wr) (A5 rfl qx5) (λ h=>?_) (λ h=>?_))
 . rw[if_pos h] at q
   exact qq5 (d:=.int (n - 1)) (f2_of (A5 rfl qe1) rfl rfl) q
 rw[if_neg (by rw[h];decide)] at q;exact q
theorem qd9:qa9 ["plan", "rooms", "room", "ahead", "thing"] ["plan", "rooms", "room"] (qa3 qe3):=by walk_at "s"
def Gr:Option Str->D
 | none=>.non
 | some s=>.str s
theorem qai1{t:D}{u:String}(h:t.kind=some u):t=.non∨t.isN=some false:=by
 cases t<;>first | exact .inl rfl | exact .inr rfl | cases h
theorem qH7{t:D}(h:t.num=true):∃ x,t=.int x/\Ak x:=by
 cases t with
 | int x =>
   have:=zAg.mp h
   exact⟨x,rfl,zAb this.1,zAb this.2⟩
 | _=>cases h
def Ey(n:Int)(wr:Bool)(ps:Pr)(p:Nat)(t:D)(k:Int):Option Str:=match t with
 | .non=>some "empty"
 | .int x=>if (D.int x).num=true then (if qf3 n wr ps (p:Int) x k=true then none else some "order") else none
 | _=>none
theorem qan0{n:Int}{wr:Bool}{ps:Pr}{p:Nat}{t:D}(h:t.num=false)(h':t.isN=some false):Ey n wr ps p t k=none:=by
 cases t with
 | non=>cases h'
 | int x =>
   show (if (D.int x).num=true then (if qf3 n wr ps (p:Int) x k=true then (none:Option Str) else some "order") else none)=none;rw[if_neg (by rw[h];decide)]
 | _=>rfl
structure Rm(n:Int)(ys:Ds)(r:Nat):Prop where
 len:ys.length=n.toNat
 kn:∀ y∈ys,∃ t,y.kind=some t
 im:D.imms ys=true
 fl:∀ i y,i < r->ys[i]? = some y->y=.non∨∃ k,y=.int k/\Ak k
theorem qV0{t:D}{u:String}(h:t.kind=some u):fx1 (λ x=>x.kind.map λ _=>.bl x.num) [t]=some (.bl t.num):=by
 show t.kind.map _=_;rw[h];rfl
theorem Jj{z:Bool}(h:ys[r]? = some y):gIx (.lst z ys) (.int (r:Int))=some y:=qB7 h
def qn0(C:Addr):VSp:=Av λ ds d=>∃ z n wr ps z' ys r k t,ds=[planD z C n wr ps,.lst z' ys,.int (r:Nat)]/\1<=n/\r < n.toNat/\(0 < r∨wr=true)/\Rm n ys 0/\ys[r]? = some (.int k)/\Ak k/\ys[Row.prev n.toNat r]? = some t/\d=Gr (Ey n wr ps (Row.prev n.toNat r) t k)
theorem qn2(T:Txt K mg a):VFn P w K mg base 7 a.f13 a.d13 ["plan", "rooms", "room"] (qn0 a.C3):=by
 refine VFn.mk2 T.d13.F qd9 (wOf [true,true,true]) qb3 (λ ds Q xe h=>by obtain⟨d,⟨z,n,wr,ps,z',ys,r,k,t,e,_⟩,_⟩:=h;rw[e];exact⟨rfl,rfl⟩) (λ cdv A outer sh H E av hr=>⟨_,(Ab (Ah 3 qd9.nd (Ae T.d12 (qv3 T) qa1 (rm hr) (vaN 0 (vaN 2 Aa))))
     (Ab (Ah 4 qd9.nd (qb5 (v2 (An qb0) Ag (vnm 1) (vnm 3))))
     (Ab (sif (q2 (Aj Db (qa8 _)) Di (vnm 4) A6)
     (Ad (Ap (qa5 Fj)))
     Aq)
     (Ab (sif (Eb (te (Ae T.d3 (qc3 T) qa1 (rm hr) (vaN 4 Aa))) (Dc (Bp (te (ql8 0 T.d11 T.C5.cl (qj6 T) qa1 (rm hr) (vaN 3 (vaN 4 (vaV (qb5 (v2 (An qb0) Ag (vnm 1) (vnm 2))) Aa)))))))).te
     (Ad (Ap (qa5 Fj)))
     Aq)
     (Ad (Ap (qa5 A6))))))),λ ds Q xe h=>?_⟩)
 obtain⟨d,⟨z,n,wr,ps,z',ys,r,k,t,rfl,n1,hr',h0,R,hg,hk,ht,rfl⟩,q⟩:=h;refine As [planD z a.C3 n wr ps,.lst z' ys,.int (r:Nat),.unk,.unk] rfl ?_;have hp:=Row.qh7 (n:=n.toNat) hr';have ep:(if 0 < ((r:Nat):Int) then D.int ((r:Int) - 1) else if wr=true then D.int (n - 1) else .non)=.int (Row.prev n.toNat r:Nat):=by
   rcases Row.por n.toNat r with⟨e1,e2⟩ | ⟨e1,e2⟩
   . rw[if_neg (by lia),if_pos (h0.resolve_left (by lia)),e2]
     congr 1;lia
   rw[if_pos (by lia),e2];congr 1;lia
 generalize Row.prev n.toNat r=p at hp ep q ht;obtain⟨u,hu⟩:=R.kn t (zAt ht);refine qb1 [planD z a.C3 n wr ps,.lst z' ys,.int (r:Nat),.int (p:Nat),.unk] (λ K hK=>?_) ?_
 . exact qL6 (x:=planD z a.C3 n wr ps) (y:=.int (r:Nat)) (d:=.int (p:Nat)) rfl rfl rfl ⟨z,n,wr,ps,(r:Nat),rfl,ep.symm⟩ rfl hK
 refine qb1 [planD z a.C3 n wr ps,.lst z' ys,.int (r:Nat),.int (p:Nat),t] (λ K hK=>qa0 (f2_of rfl rfl (Jj ht)) ⟨qu5 R.im ht,hK⟩) ?_;have rt:rdN 4 [planD z a.C3 n wr ps,.lst z' ys,.int (r:Nat),.int (p:Nat),t]=some t:=qd4 rfl (qq9 hu);rcases qai1 hu with rfl | hN
 . exact qg0 true rfl (λ _=>q) λ h=>nomatch h
 refine qg0 false (f2_of rt rfl (by show t.isN.map D.bl=_;rw[hN];rfl)) (λ h=>nomatch h) λ _=>?_
 cases hnum:t.num with
 | false =>
   rw[qan0 hnum hN] at q;exact qe8 false (λ Q q=>qd7 false false (λ Q q=>qH4 (x:=t) (d:=.bl false) rt (by rw[qV0 hu,hnum]) rfl q) (λ h=>nomatch h) q) (λ h=>nomatch h) λ _=>q
 | true =>
   obtain⟨x,rfl,hx⟩:=qH7 hnum;have q:Q (Gr (if (D.int x).num=true then (if qf3 n wr ps (p:Int) x k=true then none else some "order") else none)) [planD z a.C3 n wr ps,.lst z' ys,.int (r:Nat)]:=q;rw[if_pos hnum] at q;refine qe8 (!qf3 n wr ps (p:Int) x k) (λ Q q=>qd7 true _ (λ Q q=>qH4 (x:=.int x) (d:=.bl true) rfl (by rw[qV0 hu,hnum]) rfl q) (λ _ Q q=>?_) q) (λ h=>?_) λ h=>?_
   . refine qH9 (p:=planD z a.C3 n wr ps) rfl (qe4 rfl) (qb6 (x:=.int (p:Nat)) rfl (qb6 (x:=.int x) rfl (qb9 (y:=.int k) (f2_of rfl rfl (Jj hg)) rfl ?_)))
     refine qb7 ?_;refine qa0 (a:=D.int x) rfl ?_;refine qa0 (a:=D.int (p:Nat)) rfl ?_;exact(qa0 (a:=planD z a.C3 n wr ps) rfl (qi9 (d:=.bl (qf3 n wr ps (p:Int) x k)) ⟨z,n,wr,ps,(p:Nat),x,k,rfl,n1,by lia,by lia,hx,hk,rfl⟩ q))
   . rw[if_neg (by intro h';rw[h'] at h;cases h)] at q
     exact q
   rw[if_pos (by cases h':qf3 n wr ps (p:Int) x k with | true=>rfl | false=>rw[h'] at h;cases h)] at q;exact q
theorem qs0:qa9 ["plan", "rooms", "room", "key", "far"] ["plan", "rooms", "room"] (qa3 qy6):=by walk_at "s"
def atD(ys:Ds)(i:Nat):D:=(ys[i]?).getD .non
def qA8(k:Int):D->Bool
 | .int j=>decide (j=k)
 | _=>false
def Dg(n:Int)(wr:Bool)(ps:Pr)(ys:Ds)(r:Nat):Option Str:=match atD ys r with
 | .non=>none
 | .int k=>if (D.int k).num=true then (if (ys.take r).any (qA8 k)=true then some "twice" else match Aw n wr ps k (r:Int) with
   | none=>some "home"
   | some f=>if f=0 then none else Ey n wr ps (Row.prev n.toNat r) (atD ys (Row.prev n.toNat r)) k) else some "key"
 | _=>some "key"
theorem qay0{k:Int}:∀{l:Ds},(∀ y∈l,y=.non∨∃ j,y=.int j/\Ak j)->∃ ws,flats l=some ws/\inV (.int k) ws=l.any (qA8 k)
 | [],_=>⟨[],rfl,rfl⟩
 | y::l,h=>by
   obtain⟨ws,e1,e2⟩:=qay0 (k:=k) λ z hz=>h z (zA6 _ hz)
   rcases h y zA7 with rfl | ⟨j,rfl,_⟩
   . refine⟨.non::ws,?_,?_⟩
     . show ((flats l).bind λ vs=>some (V.non::vs))=_
       rw[e1];rfl
     show (eqV .non (.int k)||inV (.int k) ws)=(false||l.any (qA8 k))
     rw[e2];rfl
   refine⟨.int j::ws,?_,?_⟩
   . show ((flats l).bind λ vs=>some (V.int j::vs))=_
     rw[e1];rfl
   show (eqV (.int j) (.int k)||inV (.int k) ws)=(decide (j=k)||l.any (qA8 k))
   rw[e2];rfl
theorem qW2:∀{ys:Ds}{r:Nat},D.imms ys=true->D.imms (ys.take r)=true
 | [],r,_=>by rw[List.take_nil];rfl
 | y::ys,0,_=>rfl
 | y::ys,r+1,h=>by
   have:=zAg.mp h
   show (y.imm&&D.imms (ys.take r))=true;rw[this.1,qW2 this.2];rfl
theorem Rm.up{n:Int}(R:Rm n ys r){s:Nat}(h:s<=r):Rm n ys s:=⟨R.len,R.kn,R.im,λ i y hi=>R.fl i y (by lia)⟩
def qY7(C:Addr):VSp:=Av λ ds d=>∃ z n wr ps z' ys r,ds=[planD z C n wr ps,.lst z' ys,.int (r:Nat)]/\1<=n/\r < n.toNat/\Rm n ys r/\d=Gr (Dg n wr ps ys r)
theorem qaa3(T:Txt K mg a):VFn P w K mg base 8 a.f14 a.d14 ["plan", "rooms", "room"] (qY7 a.C3):=by
 refine VFn.mk2 T.d14.F qs0 (wOf [true,true,true]) qb3 (λ ds Q xe h=>by obtain⟨d,⟨z,n,wr,ps,z',ys,r,e,_⟩,_⟩:=h;rw[e];exact⟨rfl,rfl⟩) (λ cdv A outer sh H E av hr=>⟨_,(Ab (Ah 3 qs0.nd (qb5 (v2 (An qb0) Ag (vnm 1) (vnm 2))))
     (Ab (sif (q2 (Aj Db (qa8 _)) Di (vnm 3) A6)
     (Ad (Ap (qa5 A6)))
     Aq)
     (Ab (sif (Bp (te (Ae T.d3 (qc3 T) qa1 (rm hr) (vaN 3 Aa))))
     (Ad (Ap (qa5 Fj)))
     Aq)
     (Ab (sif (q2 (Aj qq1 (by with_unfolding_all rfl)) Gh (vnm 3) (vsl (vnm 1) vpo_n (vpo_s (vnm 2))))
     (Ad (Ap (qa5 Fj)))
     Aq)
     (Ab (Ah 4 qs0.nd (ql8 0 T.d10 T.C5.cl (qf7 T) qa1 (rm hr) (vaN 3 (vaN 2 Aa))))
     (Ab (sif (q2 (Aj Db (qa8 _)) Di (vnm 4) A6)
     (Ad (Ap (qa5 Fj)))
     Aq)
     (Ab (sif (q2 (Aj (qf5 hr.u64) (qa8 _)) A9 (vnm 4) Ac)
     (Ad (Ap (qa5 A6)))
     Aq)
     (Ad (Ap (Ae T.d13 (qn2 T) qa1 (rm hr) (vaN 0 (vaN 1 (vaN 2 Aa))))))))))))),λ ds Q xe h=>?_⟩)
 obtain⟨d,⟨z,n,wr,ps,z',ys,r,rfl,n1,hr',R,rfl⟩,q⟩:=h;have hp:=Row.qh7 (n:=n.toNat) hr';obtain⟨v,hv⟩:∃ v,ys[r]? = some v:=⟨ys[r]'(by rw[R.len];exact hr'),by simp⟩
 obtain⟨t,ht⟩:∃ t,ys[Row.prev n.toNat r]? = some t:=⟨ys[Row.prev n.toNat r]'(by rw[R.len];exact hp),by simp⟩
 obtain⟨u,hu⟩:=R.kn v (zAt hv);have ev:atD ys r=v:=by unfold atD;rw[hv];rfl
 have et:atD ys (Row.prev n.toNat r)=t:=by unfold atD;rw[ht];rfl
 unfold Dg at q;rw[ev,et] at q;refine As [planD z a.C3 n wr ps,.lst z' ys,.int (r:Nat),.unk,.unk] rfl ?_;refine qb1 [planD z a.C3 n wr ps,.lst z' ys,.int (r:Nat),v,.unk] (λ K hK=>qa0 (f2_of rfl rfl (Jj hv)) ⟨qu5 R.im hv,hK⟩) ?_;have rv:rdN 3 [planD z a.C3 n wr ps,.lst z' ys,.int (r:Nat),v,.unk]=some v:=qd4 rfl (qq9 hu);rcases qai1 hu with rfl | hN
 . exact qg0 true rfl (λ _=>q) λ h=>nomatch h
 refine qg0 false (f2_of rv rfl (by show v.isN.map D.bl=_;rw[hN];rfl)) (λ h=>nomatch h) λ _=>?_
 cases hnum:v.num with
 | false =>
   refine qe8 true (λ Q q=>qH4 (x:=v) (d:=.bl false) rv (by rw[qV0 hu,hnum]) rfl q) (λ _=>?_) (λ h=>nomatch h);cases v with
   | non=>cases hN
   | int k =>
     have q:Q (Gr (if (D.int k).num=true then _ else some "key")) [planD z a.C3 n wr ps,.lst z' ys,.int (r:Nat)]:=q;rw[if_neg (by rw[hnum];decide)] at q;exact q
   | _=>exact q
 | true =>
   obtain⟨k,rfl,hk⟩:=qH7 hnum;have q:Q (Gr (if (D.int k).num=true then (if (ys.take r).any (qA8 k)=true then some "twice" else match Aw n wr ps k (r:Int) with
     | none=>some "home"
     | some f=>if f=0 then none else Ey n wr ps (Row.prev n.toNat r) t k) else some "key")) [planD z a.C3 n wr ps,.lst z' ys,.int (r:Nat)]:=q
   rw[if_pos hnum] at q;refine qe8 false (λ Q q=>qH4 (x:=.int k) (d:=.bl true) rfl (by rw[qV0 hu,hnum]) rfl q) (λ h=>nomatch h) λ _=>?_
   obtain⟨ws,e1,e2⟩:=qay0 (k:=k) (l:=ys.take r) λ y hy=>by
     obtain⟨i,hi⟩:=zBp hy;rw[List.getElem?_take] at hi;split at hi
     . rename_i hlt;exact R.fl i y hlt hi
     cases hi
   have ein:f2 (Iv false) (rdN 3) (fsl (rdN 1) foN (foS (rdN 2))) [planD z a.C3 n wr ps,.lst z' ys,.int (r:Nat),.int k,.unk]=some (.bl ((ys.take r).any (qA8 k))):=by
     refine f2_of (x:=.int k) (y:=.lst false (ys.take r)) rfl ?_ ?_
     . show gSl (.lst z' ys) none (some (r:Int))=_
       show gd (D.imms (E3 ys none (some (r:Int)))=true) (.lst false (E3 ys none (some (r:Int))))=_;rw[qX5];exact qm3 (qW2 R.im)
     show ((flats (ys.take r)).bind λ ws=>some (D.bl (if false=true then !inV (.int k) ws else inV (.int k) ws)))=_;rw[e1];show some (D.bl (inV (.int k) ws))=_;rw[e2]
   refine qg0 _ ein (λ h=>?_) λ h=>?_
   . rw[if_pos h] at q;exact q
   rw[if_neg (by rw[h];decide)] at q;refine qb1 [planD z a.C3 n wr ps,.lst z' ys,.int (r:Nat),.int k,Ej (Aw n wr ps k (r:Nat))] (λ K hK=>?_) ?_
   . exact qaq1 (p:=planD z a.C3 n wr ps) (x:=.int k) (y:=.int (r:Nat)) rfl (qe4 rfl) rfl rfl rfl rfl (qas1 n1 hk (by lia) (by lia)) rfl hK
   cases ef:Aw n wr ps k (r:Nat) with
   | none =>
     rw[ef] at q;exact qg0 true rfl (λ _=>q) λ h=>nomatch h
   | some f =>
     rw[ef] at q;refine qg0 false rfl (λ h=>nomatch h) λ _=>?_
     refine qg0 (decide (f=0)) rfl (λ h=>?_) λ h=>?_
     . have q:Q (Gr (if f=0 then none else Ey n wr ps (Row.prev n.toNat r) t k)) [planD z a.C3 n wr ps,.lst z' ys,.int (r:Nat)]:=q
       rw[if_pos (zAb h)] at q;exact q
     have q:Q (Gr (if f=0 then none else Ey n wr ps (Row.prev n.toNat r) t k)) [planD z a.C3 n wr ps,.lst z' ys,.int (r:Nat)]:=q;rw[if_neg (zB9 h)] at q;refine qL5 (x:=planD z a.C3 n wr ps) (y:=.lst z' ys) (w:=.int (r:Nat)) rfl rfl rfl rfl rfl ⟨z,n,wr,ps,z',ys,r,k,t,rfl,n1,hr',?_,R.up (Nat.zero_le _),hv,hk,ht,rfl⟩ rfl q;cases wr with
     | true=>exact .inr rfl
     | false =>
       left;unfold Aw at ef;rw[if_neg (by decide)] at ef
       have:=(qaj4 n1 ps k).1
       have hne:=zB9 h;split at ef
       . cases ef;lia
       cases ef
theorem qP5:qa9 ["plan", "rooms"] ["plan", "rooms"] (qa3 qs5):=by walk_at "s"
def farP(n:Int)(wr:Bool)(ps:Pr):D->Bool
 | .tup [.int i,.int k]=>match Aw n wr ps k i with
   | some f=>decide (0 < f)
   | none=>false
 | _=>false
def qp2(n:Int)(wr:Bool)(ps:Pr)(ys:Ds):Bool:=(enD ys).all (farP n wr ps)
theorem qaG1(ys:Ds):(enD ys).length=ys.length:=by unfold enD;rw[zAc,List.length_zipIdx]
def qO6(C:Addr):VSp:=Av λ ds d=>∃ z n wr ps z' ys,ds=[planD z C n wr ps,.lst z' ys]/\1<=n/\n<=64/\ys.length=n.toNat/\(∀ i v,ys[i]? = some v->v=.non∨∃ k,v=.int k/\Ak k/\Aw n wr ps k (i:Nat)≠none)/\d=.bl (qp2 n wr ps ys)
theorem qaF0{p:Nat->D->Prop}(h:∀ i v,ys[i]? = some v->v=.non∨∃ k,v=.int k/\p i v):D.imms ys=true:=by
 induction ys generalizing p with
 | nil=>rfl
 | cons y ys ih =>
   have h0:=h 0 y rfl;have hy:y.imm=true:=by
     rcases h0 with rfl | ⟨k,rfl,_⟩<;>rfl
   show (y.imm&&D.imms ys)=true;rw[hy,ih (p:=λ i v=>p (i+1) v) λ i v hi=>h (i+1) v hi];rfl
theorem qQ7(T:Txt K mg a):VFn P w K mg base 6 a.f15 a.d15 ["plan", "rooms"] (qO6 a.C3):=by
 refine VFn.mk2 T.d15.F qP5 (wOf [true,true]) qb3 (λ ds Q xe h=>by obtain⟨d,⟨z,n,wr,ps,z',ys,e,_⟩,_⟩:=h;rw[e];exact⟨rfl,rfl⟩) (λ cdv A outer sh H E av hr=>⟨_,(Ad (Ap (ebi (qX8 rfl) qaQ3.ops T.Cy (Dk (vaV (ecEN (NY:=["room", "key", "plan"]) (src:=[none,none,some 0]) 1 T.Cm (blk (λ av C s0 H0 ex=>(Eg (n:=2) rfl (ql7 (Ba 0 (show (["room", "key", "plan"]:List Str).Nodup by decide +kernel)) (ql7 (Ba 1 (show (["room", "key", "plan"]:List Str).Nodup by decide +kernel)) Ef)))) (λ av C s0 H0 ex=>Fb) (λ av C s0 H0 ex=>(Gk (qa5 (v2 (A4 qj5 (qa8 _)) qn1 (vnm 1) A6)) (Iy (e2v (A4 By (qa8 _)) Da (ql8 2 T.d10 T.C5.cl (qf7 T) qu4 (rm hr) (vaN 1 (vaN 0 Aa))) Ac)))))) Aa))))),λ ds Q xe h=>?_⟩);obtain⟨d,⟨z,n,wr,ps,z',ys,rfl,n1,n2,hl,hv,rfl⟩,q⟩:=h;refine As [planD z a.C3 n wr ps,.lst z' ys] rfl ?_;have hm:D.imms ys=true:=qaF0 (p:=λ i v=>∃ k,v=.int k/\Ak k/\Aw n wr ps k (i:Nat)≠none) λ i v h=>by
   rcases hv i v h with h | ⟨k,h1,h2,h3⟩
   . exact .inl h
   exact .inr ⟨k,h1,k,h1,h2,h3⟩
 refine qh5 ?_;refine⟨hm,?_⟩;refine qj8 (λ ι=>∃ d0 d1,ι=[d0,d1,planD z a.C3 n wr ps]) (λ y=>some (.bl (farP n wr ps y))) (enD ys) [] _ (by show 0+(enD ys).length < big;rw[qaG1,hl];unfold big;lia) ⟨_,_,rfl⟩ ?_ ?_
 . rintro y hy ι acc ⟨d0,d1,rfl⟩ R hR hacc
   obtain⟨i,v,rfl,hi⟩:=qaX1 hy;have hlt:i < n.toNat:=by rw[<- hl];exact(zA4.mp hi).1
   refine qu7 (qay6 (Dp rfl ?_));rcases hv i v hi with rfl | ⟨k,rfl,hk,hf⟩
   . exact Ff false rfl (λ h=>nomatch h) λ _=>⟨hacc,hR _ ⟨_,_,rfl⟩⟩
   refine Ff true rfl (λ _=>?_) λ h=>nomatch h
   refine qaq1 (p:=planD z a.C3 n wr ps) (x:=.int k) (y:=.int (i:Nat)) rfl (qe4 rfl) rfl rfl rfl rfl (qas1 n1 hk (by lia) (by lia)) rfl ?_;have this:=hR _ ⟨.int (i:Nat),.int k,rfl⟩;cases ef:Aw n wr ps k (i:Nat) with
   | none=>exact absurd ef hf
   | some f =>
     have e:farP n wr ps (.tup [.int (i:Nat),.int k])=decide (0 < f):=by
       show (match Aw n wr ps k (i:Nat) with | some f=>decide (0 < f) | none=>false)=_;rw[ef]
     rw[e] at this;exact qa0 (a:=D.bl (decide (0 < f))) rfl ⟨hacc,this⟩
 rintro ι ⟨d0,d1,rfl⟩;rw[zB5,qaF4];exact qa0 (qaQ9 (farP n wr ps) (enD ys)) q
theorem qs1:qa9 ["plan", "rooms", "room", "word"] ["plan", "rooms"] (qa3 qy8):=by walk_at "s"
def Hy(n:Int)(wr:Bool)(ps:Pr)(ys:Ds):Option (Str×Nat):=(List.range n.toNat).findSome? λ r=>(Dg n wr ps ys r).map λ w=>(w,r)
def qas0(n:Int)(wr:Bool)(ps:Pr)(ys:Ds):D:=match Hy n wr ps ys with
 | some (w,r)=>.tup [.str w,.int (r:Nat)]
 | none=>if qp2 n wr ps ys=true then .tup [.str "turned",.int 0] else .non
theorem qJ3{n:Int}{wr:Bool}{ps:Pr}(hv:ys[r]? = some v)(h:Dg n wr ps ys r=none):v=.non∨∃ k,v=.int k/\Ak k/\Aw n wr ps k (r:Nat)≠none:=by
 have ev:atD ys r=v:=by unfold atD;rw[hv];rfl
 unfold Dg at h;rw[ev] at h;cases v with
 | non=>exact .inl rfl
 | int k =>
   have h:(if (D.int k).num=true then (if (ys.take r).any (qA8 k)=true then (some "twice" : Option Str) else match Aw n wr ps k (r:Int) with
     | none=>some "home"
     | some f=>if f=0 then none else Ey n wr ps (Row.prev n.toNat r) (atD ys (Row.prev n.toNat r)) k) else some "key")=(none:Option Str):=h
   by_cases hk:(D.int k).num=true
   . rw[if_pos hk] at h
     obtain⟨k',e,hk'⟩:=qH7 hk;cases e;refine .inr ⟨k,rfl,hk',λ ef=>?_⟩;rw[ef] at h;split at h<;>cases h
   rw[if_neg hk] at h;cases h
 | _=>cases h
theorem qM6{α:Type}{r:Nat}{f:Nat->Option α}{a:α}:∀{N:Nat},r < N->(∀ i,i < r->f i=none)->f r=some a->(List.range N).findSome? f=some a
 | 0,hr,_,_=>absurd hr (Nat.not_lt_zero _)
 | N+1,hr,h0,h=>by
   rw[List.range_succ,List.findSome?_append];by_cases hlt:r < N
   . rw[qM6 hlt h0 h];rfl
   have e:r=N:=by lia
   subst e;rw[List.findSome?_eq_none_iff.mpr λ i hi=>h0 i (zA9.mp hi)];show [r].findSome? f=_;rw[List.findSome?_cons,h]
theorem qW7{f:Nat->Option α}(h0:∀ i,i < N->f i=none):(List.range N).findSome? f=none:=List.findSome?_eq_none_iff.mpr λ i hi=>h0 i (zA9.mp hi)
def qY9(C:Addr):VSp:=Av λ ds d=>∃ z n wr ps z' ys,ds=[planD z C n wr ps,.lst z' ys]/\1<=n/\n<=64/\ys.length=n.toNat/\(∀ y∈ys,∃ t,y.kind=some t)/\D.imms ys=true/\d=qas0 n wr ps ys
theorem qaa5(T:Txt K mg a):VFn P w K mg base 9 a.f16 a.d16 ["plan", "rooms"] (qY9 a.C3):=by
 refine VFn.mk2 T.d16.F qs1 (wOf [true,true]) qb3 (λ ds Q xe h=>by obtain⟨d,⟨z,n,wr,ps,z',ys,e,_⟩,_⟩:=h;rw[e];exact⟨rfl,rfl⟩) (λ cdv A outer sh H E av hr=>⟨_,(Ab (sif (tor (Bp (tv (vbi ql3 qS6.ops T.C8 (qa2 (vnm 1) (qa2 (vty "list" T.Cj) qa6 rfl) rfl)))) (Ix (q2 (Aj (qt7 hr.u64) (qa8 _)) Dw (vbi qr5 qr4.ops T.Ci (qa2 (vnm 1) qa6 rfl)) (Be rfl (vnm 0) T.C5.cl T.C7)))).te
     (Ad (Ap (qa5 (Ep (qa2 Fj (qa2 Ac qa6 rfl) rfl)))))
     Aq)
     (Ab (qK3 PassesOwn.leaving T.Cc (Dk (vaV (qb5 (Be rfl (vnm 0) T.C5.cl T.C7)) Aa)) (Ba 2 qs1.nd)
     (Ab (Ah 3 qs1.nd (Ae T.d14 (qaa3 T) qa1 (rm hr) (vaN 0 (vaN 1 (vaN 2 Aa)))))
     (Ad (sif (q2 (Aj qj5 (qa8 _)) qn1 (vnm 3) A6)
     (Ad (Ap (qa5 (Ep (qa2 (vnm 3) (qa2 (vnm 2) qa6 rfl) rfl)))))
     Aq))))
     (Ad (Ap (eif (te (Ae T.d15 (qQ7 T) qa1 (rm hr) (vaN 0 (vaN 1 Aa)))) (qa5 (Ep (qa2 Fj (qa2 Ac qa6 rfl) rfl))) (qa5 A6)))))),λ ds Q xe h=>?_⟩)
 obtain⟨d,⟨z,n,wr,ps,z',ys,rfl,n1,n2,hl,hkn,hm,rfl⟩,q⟩:=h;refine As [planD z a.C3 n wr ps,.lst z' ys,.unk,.unk] rfl ?_;have hlen:f2 gNe (Ay (fx1 Fi) (Au (rdN 1) λ _=>some [])) (f1 (D.fld a.C3 "rooms") (rdN 0)) [planD z a.C3 n wr ps,.lst z' ys,.unk,.unk]=some (.bl false):=f2_of (qo7 rfl) (A5 rfl qe1) (by
   show some (D.bl (!((ys.length:Nat):Int) == n))=_;rw[show ((ys.length:Nat):Int)=n by lia,zBe];rfl)
 refine qe8 false (λ Q q=>qac6 false false (λ Q q=>qp3 (qai6 rfl) q) (λ _ Q q=>qc6 hlen q) q) (λ h=>nomatch h) λ _=>?_
 refine qb8 (λ ds=>(∀ i,i < n.toNat->Dg n wr ps ys i=none)/\∃ d d',ds=[planD z a.C3 n wr ps,.lst z' ys,d,d']) (λ K hK=>?_) ?_
 . refine qI8 (A5 rfl qe1) (qC8 (by lia) (by lia)) ?_
   refine qe5 (λ i ds=>(∀ j,j < i->Dg n wr ps ys j=none)/\∃ d d',ds=[planD z a.C3 n wr ps,.lst z' ys,d,d']) _ 0 _ ⟨λ j hj=>absurd hj (Nat.not_lt_zero _),_,_,rfl⟩ ?_ ?_
   . rintro j x hx ds ⟨hf,d,d',rfl⟩ K hK
     rw[zB6] at hf hK;obtain⟨hj,rfl⟩:=qH1 hx;have R:Rm n ys j:=⟨hl,hkn,hm,λ i y hi hy=>by
       rcases qJ3 hy (hf i hi) with h | ⟨k,h1,h2,_⟩
       . exact .inl h
       exact .inr ⟨k,h1,h2⟩⟩
     refine qb1 [planD z a.C3 n wr ps,.lst z' ys,.int (j:Nat),Gr (Dg n wr ps ys j)] (λ K hK=>qL5 (x:=planD z a.C3 n wr ps) (y:=.lst z' ys) (w:=.int (j:Nat)) rfl rfl rfl rfl rfl ⟨z,n,wr,ps,z',ys,j,rfl,n1,hj,R,rfl⟩ rfl hK) ?_;cases e:Dg n wr ps ys j with
     | none =>
       refine if_v (b:=false) rfl (λ h=>nomatch h) λ _=>hK _ ⟨λ i hi=>?_,_,_,rfl⟩
       rcases Nat.lt_succ_iff_lt_or_eq.mp hi with h | rfl
       . exact hf i h
       exact e
     | some w =>
       have ew:Hy n wr ps ys=some (w,j):=qM6 hj (λ i hi=>by rw[hf i hi];rfl) (by rw[e];rfl);have q:Q (match Hy n wr ps ys with | some (w,r)=>.tup [.str w,.int (r:Nat)] | none=>if qp2 n wr ps ys=true then .tup [.str "turned",.int 0] else .non) [planD z a.C3 n wr ps,.lst z' ys]:=q;rw[ew] at q;exact if_v (b:=true) rfl (λ _=>q) λ h=>nomatch h
   rintro ds ⟨hf,hd⟩;refine hK _ ⟨λ i hi=>hf i ?_,hd⟩;unfold Bm;rw[zAc,zAq,zB6];exact hi
 rintro ds ⟨hf,d,d',rfl⟩;have ew:Hy n wr ps ys=none:=qW7 λ i hi=>by rw[hf i hi];rfl
 have q:Q (match Hy n wr ps ys with | some (w,r)=>.tup [.str w,.int (r:Nat)] | none=>if qp2 n wr ps ys=true then .tup [.str "turned",.int 0] else .non) [planD z a.C3 n wr ps,.lst z' ys]:=q;rw[ew] at q;refine qh5 ?_;refine qL6 (x:=planD z a.C3 n wr ps) (y:=.lst z' ys) (d:=.bl (qp2 n wr ps ys)) rfl rfl rfl ⟨z,n,wr,ps,z',ys,rfl,n1,n2,hl,λ i v hv=>qJ3 hv (hf i (by rw[<- hl];exact(zA4.mp hv).1)),rfl⟩ rfl ?_;refine qa0 (a:=qp2 n wr ps ys) rfl (ite_b (λ h=>?_) λ h=>?_)
 . have q:Q (if qp2 n wr ps ys=true then .tup [.str "turned",.int 0] else .non) [planD z a.C3 n wr ps,.lst z' ys]:=q
   rw[if_pos h] at q;exact q
 have q:Q (if qp2 n wr ps ys=true then .tup [.str "turned",.int 0] else .non) [planD z a.C3 n wr ps,.lst z' ys]:=q;rw[if_neg (by rw[h];decide)] at q;exact q
theorem qs2:qa9 ["self", "plan", "rooms", "held", "fault"] ["self", "plan", "rooms"] (qa3 qz3):=by walk_at "s"
theorem qaH1{g:Nat->Option Int}(h:r < N):atD (rlD N g) r=De (g r):=by unfold atD;rw[qA9 h];rfl
theorem qaI1{g:Nat->Option Int}(h:r<=N):(rlD N g).take r=rlD r g:=by
 unfold rlD;rw[<- List.map_take,List.take_range,Nat.min_eq_left h]
theorem qaY5{g:Nat->Option Int}:(rlD r g).any (qA8 k)=true↔∃ j,j < r/\g j=some k:=by
 unfold rlD;rw[List.any_map,zC6];constructor
 . rintro⟨j,hj,e⟩
   refine⟨j,zA9.mp hj,?_⟩;have e:qA8 k (De (g j))=true:=e;cases h:g j with
   | none=>rw[h] at e;cases e
   | some x=>rw[h] at e;rw[zAb (show decide (x=k)=true from e)]
 rintro⟨j,hj,e⟩;refine⟨j,zA9.mpr hj,?_⟩;show qA8 k (De (g j))=true;rw[e];exact zAe rfl
theorem qaH3{n:Int}{wr:Bool}{ps:Pr}{g:Nat->Option Int}(hr:r < n.toNat)(hg:g r=some k)(hk:Ak k):Dg n wr ps (rlD n.toNat g) r=(if (rlD r g).any (qA8 k)=true then (some "twice" : Option Str) else match Aw n wr ps k (r:Int) with
   | none=>some "home"
   | some f=>if f=0 then none else Ey n wr ps (Row.prev n.toNat r) (De (g (Row.prev n.toNat r))) k):=by
 unfold Dg;rw[qaH1 hr,qaH1 (Row.qh7 hr),qaI1 (Nat.le_of_lt hr),hg];show (if (D.int k).num=true then _ else _)=_;rw[if_pos (qt9 hk)]
 try rfl
theorem qaP9(h:ys[i]? = some v):D.tup [.int (i:Nat),v]∈enD ys:=zB1.mpr ⟨(v,i),List.mem_zipIdx_iff_getElem?.mpr h,rfl⟩
theorem qai4{n:Int}{wr:Bool}{ps:Pr}{g:Nat->Option Int}(hn:1<=n)(KP:Kept n.toNat wr (hmOf n ps) g S)(hS:∀ k∈S,Ak k):qas0 n wr ps (rlD n.toNat g)=.non:=by
 have num:∀{i k},i < n.toNat->g i=some k->Ak k:=λ{i k} hi h=>hS k ((KP.h.2 k).mpr ⟨i,hi,h⟩)
 have hw:Hy n wr ps (rlD n.toNat g)=none:=qW7 λ r hr=>by
   have:Dg n wr ps (rlD n.toNat g) r=none:=by
     cases hg:g r with
     | none=>unfold Dg;rw[qaH1 hr,hg];rfl
     | some k =>
       have hp:=Row.qh7 hr;rw[qaH3 hr hg (num hr hg),if_neg (λ z=>by
         obtain⟨j,hj,e⟩:=qaY5.mp z
         have:=KP.o.inj j r k (by lia) hr e hg
         lia),qr2 hn hr (λ hw=>KP.ln hw r k hr hg)]
       show (if ((dist n.toNat (hmOf n ps k) r:Nat):Int)=0 then none else _)=_;by_cases hd:dist n.toNat (hmOf n ps k) r=0
       . rw[if_pos (by lia)]
       obtain⟨x,hx,ax⟩:=KP.o.ord r k hr hg (by lia);rw[if_neg (by lia),hx];show (if (D.int x).num=true then (if qf3 n wr ps (Row.prev n.toNat r:Nat) x k=true then (none:Option Str) else some "order") else none)=none;have hk0:=Bz (ps:=ps) hn k;rw[if_pos (qt9 (num hp hx)),if_pos ((qr6 (ps:=ps) hn hp (λ hw=>KP.ln hw _ x hp hx) (λ hw=>by
         have h1:=KP.ln hw r k hr hg;have d1:=dor n.toNat (hmOf n ps k) r;have d2:=por n.toNat r
         lia)).mpr ax)]
   rw[this];rfl
 have ht:qp2 n wr ps (rlD n.toNat g)=false:=by
   obtain⟨i,hi,hc⟩:=KP.c;refine List.all_eq_false.mpr ⟨_,qaP9 (qA9 hi),?_⟩;cases hg:g i with
   | none=>exact λ h=>by cases h
   | some k =>
     show ¬ (match Aw n wr ps k (i:Nat) with | some f=>decide (0 < f) | none=>false)=true;rw[qr2 hn hi (λ hw=>KP.ln hw i k hi hg),(qb4 (Bz hn k) hi).mpr (hc k hg).symm];exact λ h=>by cases h
 unfold qas0;rw[hw,ht];rfl
def Af(zr:Bool)(C CP:Addr)(n:Int)(wr:Bool)(ps:Pr)(g:Nat->Option Int)(dn:Ds):D:=.ins zr C [("plan",planD true CP n wr ps),("held",.lst zr (rlD n.toNat g)),("done",.lst zr dn)]
section
variable{zr:Bool}{C CP:Addr}{n:Int}{wr:Bool}{ps:Pr}{g:Nat->Option Int}{dn:Ds}
theorem qf8:D.fld C "plan" (Af zr C CP n wr ps g dn)=some (planD true CP n wr ps):=qF4 (by rfl)
theorem qx2:D.fld C "held" (Af zr C CP n wr ps g dn)=some (.lst zr (rlD n.toNat g)):=qF4 (by rfl)
theorem qU4:D.fld C "done" (Af zr C CP n wr ps g dn)=some (.lst zr dn):=qF4 (by rfl)
theorem qi1(h:([("plan",planD true CP n wr ps),("held",.lst zr (rlD n.toNat g)),("done",.lst zr dn)]:List (Str×D)).lookup m=none):(Af zr C CP n wr ps g dn).isM C m=true:=qax5 h
end
theorem qm8{zr:Bool}{C CP:Addr}{n:Int}{wr:Bool}{ps:Pr}{g:Nat->Option Int}{dn:Ds}:D.fidx C "held" (Af zr C CP n wr ps g dn)=some 1:=by
 show (if C=C then List.findIdx? (λ q:Str×D=>("held" : Str) == q.1) [("plan",planD true CP n wr ps),("held",.lst zr (rlD n.toNat g)),("done",.lst zr dn)] else none)=_;rw[if_pos rfl];rfl
theorem qaY0{p:List Nat}{w:V}{d0:D}(h:A7 ds i p=some (.hole w)):bk1 i p w d0 ds=some (Bd ds i p d0):=by
 unfold bk1 Am;rw[h];simp only[if_true];unfold Am;rfl
theorem qar9{C:Addr}{f:Str}(h:te ds (λ d ds1=>orF (pf ds1) λ q=>orF ((A7 ds1 q.1 q.2).bind (D.ownI C)) λ fs=>fs.length < 100/\e.nx (Bd ds1 q.1 q.2 (.ins false C (Fa f d fs)))) e.xe):I8 C f te pf e ds:=h
theorem mv_to(h:rdN i ds=some d)(q:Q d (ds.set i .unk)):tMv i ds Q xe:=qa0 h q
theorem qaO2{zr:Bool}{C CP:Addr}{n:Int}{wr:Bool}{ps:Pr}{g:Nat->Option Int}{dn:Ds}:(Af zr C CP n wr ps g dn).isC C=some (.bl true):=if_pos rfl
def qZ3(C CP:Addr):VSp:=λ ds Q _=>∃ n wr ps r g S,ds=[.ins false C [],planD true CP n wr ps,r]/\1<=n/\n<=64/\(∀ k∈S,Ak k)/\Kept n.toNat wr (hmOf n ps) g S/\(r=.non/\g=(λ _=>none)∨∃ z,r=.lst z (rlD n.toNat g))/\Q .non [Af false C CP n wr ps g [],planD true CP n wr ps,r]
theorem qt8(T:Txt K mg a):VFn P w K mg base 10 a.f24 a.d24 ["self", "plan", "rooms"] (qZ3 a.C4 a.C3):=by
 refine VFn.mkE T.d24.F qs2 (wOf [true,true,true]) (λ ds Q Q' xe xe' hQ _ h=>by obtain⟨n,wr,ps,r,g,S,e,h1,h2,h3,h4,h5,q⟩:=h;exact⟨n,wr,ps,r,g,S,e,h1,h2,h3,h4,h5,hQ _ _ q⟩) (λ ds Q xe h=>by obtain⟨n,wr,ps,r,g,S,e,_⟩:=h;rw[e];rfl) (λ ds Q xe h=>by obtain⟨n,wr,ps,r,g,S,e,_⟩:=h;rw[e];rfl) (λ cdv A outer sh H E av hr=>⟨_,(Ab (sif (Bp (tv (vbi (qal6 T.Cu T.C5.cl) qaQ2.ops T.C8 (qa2 (vnm 1) (qa2 (vcls a.C3 T.C5.m) qa6 rfl) rfl))))
     (Ad qj9)
     Aq)
     (Ab (sif (Eb (q2 (Aj qj5 (qa8 _)) qn1 (vnm 2) A6) (Dc (Bp (tv (vbi ql3 qS6.ops T.C8 (qa2 (vnm 2) (qa2 (vty "list" T.Cj) qa6 rfl) rfl)))))).te
     (Ad qj9)
     Aq)
     (Ab (Ah 3 qs2.nd (eif (q2 (Aj Db (qa8 _)) Di (vnm 2) A6) (qa5 (v2 (Al qt5) qt4 (Bk (qa2 A6 qa6 rfl)) (Be rfl (vnm 1) T.C5.cl T.C7))) (qa5 (E6 qd3 qv7.ops T.Cj (qa2 (vnm 2) qa6 rfl)))))
     (Ab (Ah 4 qs2.nd (Ae T.d16 (qaa5 T) qa1 (rm hr) (vaN 1 (vaN 3 Aa))))
     (Ab (sif (q2 (Aj qj5 (qa8 _)) qn1 (vnm 4) A6)
     (Ad qj9)
     Aq)
     (Ab (Gn rfl (vpn 0) (qb5 (vnm 1)) T.C6.cl T.Ca)
     (Ab (Gn rfl (vpn 0) (emv 3) T.C6.cl T.C9)
     (Ad (Gn rfl (vpn 0) (qa5 (Bk qa6)) T.C6.cl T.Cb))))))))),λ ds Q xe h=>?_⟩)
 obtain⟨n,wr,ps,r,g,S,rfl,n1,n2,hS,KP,hr,q⟩:=h;have hk:r.known=true:=by
   rcases hr with⟨rfl,_⟩ | ⟨z,rfl⟩<;>rfl
 refine As [.ins false a.C4 [],planD true a.C3 n wr ps,r,.unk,.unk] rfl ?_;refine qax8 (show gIsO a.C3 (planD true a.C3 n wr ps) (.adr a.C3)=some (.bl true) from qaE9) ?_;refine qe8 false (λ Q q=>?_) (λ h=>(nomatch h)) λ _=>?_
 . rcases hr with⟨rfl,_⟩ | ⟨z,rfl⟩
   . exact qd7 false false (λ Q q=>qc6 (b:=false) (f2_of rfl rfl rfl) q) (λ h=>(nomatch h)) q
   exact qd7 true false (λ Q q=>qc6 (b:=true) (f2_of rfl rfl rfl) q) (λ _ Q q=>qp3 (b:=true) (qai6 rfl) q) q
 refine qb1 [.ins false a.C4 [],planD true a.C3 n wr ps,r,.lst false (rlD n.toNat g),.unk] (λ K hK=>qe9 ?_) ?_
 . rcases hr with⟨rfl,rfl⟩ | ⟨z,rfl⟩
   . exact Fw (b:=true) (f2_of rfl rfl rfl) (λ _=>qq5 (f2_of rfl (A5 rfl qe1) (qR4 (by lia) n2)) hK) λ h=>(nomatch h)
   exact Fw (b:=false) (f2_of rfl rfl rfl) (λ h=>(nomatch h)) λ _=>qq5 (d:=.lst false (rlD n.toNat g)) (show Fp (.lst z (rlD n.toNat g))=_ from qm3 (qF1 _ _)) hK
 refine qb1 [.ins false a.C4 [],planD true a.C3 n wr ps,r,.lst false (rlD n.toNat g),.non] (λ K hK=>qe9 ?_) ?_
 . refine qL6 (x:=planD true a.C3 n wr ps) (y:=.lst false (rlD n.toNat g)) (d:=qas0 n wr ps (rlD n.toNat g)) rfl rfl rfl ⟨true,n,wr,ps,false,rlD n.toNat g,rfl,n1,by lia,qo0 _ _,λ y hy=>?_,qF1 _ _,rfl⟩ rfl ?_
   . rcases qaJ4 hy with rfl | ⟨k,rfl⟩
     . exact⟨_,rfl⟩
     exact⟨_,rfl⟩
   rw[qai4 n1 KP hS];exact hK
 refine qe8 false (λ Q q=>qc6 (b:=false) (f2_of rfl rfl rfl) q) (λ h=>(nomatch h)) λ _=>?_
 refine qb1 [.ins false a.C4 [("plan",planD true a.C3 n wr ps)],planD true a.C3 n wr ps,r,.lst false (rlD n.toNat g),.non] (λ K hK=>qar9 (qI6 (d:=planD true a.C3 n wr ps) rfl rfl (qa0 (a:=(0,[])) rfl (qa0 qh8 ⟨by decide,hK⟩)))) ?_;refine qb1 [.ins false a.C4 [("plan",planD true a.C3 n wr ps),("held",.lst false (rlD n.toNat g))],planD true a.C3 n wr ps,r,.unk,.non] (λ K hK=>qar9 (mv_to (d:=.lst false (rlD n.toNat g)) rfl (qa0 (a:=(0,[])) rfl (qa0 qh8 ⟨by show 1 < 100;decide,hK⟩)))) ?_;exact qar9 (qq5 (d:=.lst false []) rfl (qa0 (a:=(0,[])) rfl (qa0 qh8 ⟨by show 2 < 100;decide,q⟩)))
theorem qP7:qa9 ["self"] ["self"] (qa3 qs9):=by walk_at "s"
def qO9(C CP:Addr):VSp:=Av λ ds d=>∃ zr n wr ps g dn,ds=[Af zr C CP n wr ps g dn]/\D.imms dn=true/\d=.lst false dn
theorem qQ9(T:Txt K mg a):VFn P w K mg base 1 a.f31 a.d31 ["self"] (qO9 a.C4 a.C3):=by
 refine VFn.mk2 T.d31.F qP7 (wOf [true]) qb3 (λ ds Q xe h=>by obtain⟨d,⟨zr,n,wr,ps,g,dn,e,_⟩,_⟩:=h;rw[e];exact⟨rfl,rfl⟩) (λ cdv A outer sh H E av hr=>⟨_,(Ad (Ap (qa5 (E6 qd3 qv7.ops T.Cj (qa2 (Be rfl (vnm 0) T.C6.cl T.Cb) qa6 rfl))))),λ ds Q xe h=>?_⟩);obtain⟨d,⟨zr,n,wr,ps,g,dn,rfl,hi,rfl⟩,q⟩:=h;refine As [Af zr a.C4 a.C3 n wr ps g dn] rfl ?_;refine qd1 (.lst false dn) ?_ q;unfold Ay Au;rw[A5 rfl qU4];exact qm3 hi
theorem qv1:qa9 ["self", "other"] ["self"] (qa3 qo6):=by walk_at "s"
def qJ9(C CP:Addr):VSp:=Av λ ds d=>∃ n wr ps g dn S,ds=[Af false C CP n wr ps g dn]/\1<=n/\n<=64/\(∀ x∈S,Ak x)/\Kept n.toNat wr (hmOf n ps) g S/\D.imms dn=true/\d=Af false C CP n wr ps g dn
theorem qL1(T:Txt K mg a):VFn P w K mg base 12 a.f32 a.d32 ["self"] (qJ9 a.C4 a.C3):=by
 refine VFn.mk2 T.d32.F qv1 (wOf [true]) qb3 (λ ds Q xe h=>by obtain⟨d,⟨n,wr,ps,g,dn,S,e,_⟩,_⟩:=h;rw[e];exact⟨rfl,rfl⟩) (λ cdv A outer sh H E av hr=>⟨_,(Ab (Ah 1 qv1.nd (qaG3 T.C6 T.Cq T.d24 (qt8 T) qa1 (rm hr) (vaV (qb5 (Be rfl (vnm 0) T.C6.cl T.Ca)) (vaB (Ec rfl (vpn 0) T.C6.cl T.C9) Aa))))
     (Ab (Gn rfl (vpn 1) (qM8 0 T.d31 T.C6.cl (qQ9 T) qa1 (rm hr)) T.C6.cl T.Cb)
     (Ad (Ap (emv 1))))),λ ds Q xe h=>?_⟩)
 obtain⟨d,⟨n,wr,ps,g,dn,S,rfl,n1,n2,hS,KP,hi,rfl⟩,q⟩:=h;refine As [Af false a.C4 a.C3 n wr ps g dn,.unk] rfl ?_;refine qb1 [Af false a.C4 a.C3 n wr ps g dn,Af false a.C4 a.C3 n wr ps g []] (λ K hK=>qe9 (qV4 (qb9 (y:=planD true a.C3 n wr ps) (A5 rfl qf8) rfl ?_))) ?_
 . refine qa0 (a:=(0,[1])) (by show (D.fidx a.C4 "held" (Af false a.C4 a.C3 n wr ps g dn)).map (λ n=>(0,[n]))=_;rw[qm8];rfl) ?_
   refine qa0 (a:=D.lst false (rlD n.toNat g)) rfl ?_;refine⟨rfl,λ w=>qb7 ?_⟩;refine⟨n,wr,ps,_,g,S,rfl,n1,n2,hS,KP,.inr ⟨false,rfl⟩,rfl,?_⟩;refine qa0 (a:=Af false a.C4 a.C3 n wr ps g []) rfl (qa0 (a:=[Af false a.C4 a.C3 n wr ps g dn,.unk]) ?_ hK);show Am (.pl 0 [1] w::_) _ _=_;rw[qc1 rfl];rfl
 refine qb1 [Af false a.C4 a.C3 n wr ps g dn,Af false a.C4 a.C3 n wr ps g dn] (λ K hK=>qar9 ?_) ?_
 . refine qaq2 (p:=Af false a.C4 a.C3 n wr ps g dn) (d:=.lst false dn) rfl (qi1 rfl) ⟨false,n,wr,ps,g,dn,rfl,hi,rfl⟩ rfl ?_
   refine qa0 (a:=(1,[])) rfl ?_;refine qa0 (a:=([("plan",planD true a.C3 n wr ps),("held",D.lst false (rlD n.toNat g)),("done",D.lst false [])]:List (Str×D))) qh8 ?_;exact⟨by show 3 < 100;decide,hK⟩
 exact qh5 (mv_to rfl q)
theorem qw4:qa9 ["self"] ["self"] (qa3 qh4):=by walk_at "s"
def qw2(C CP:Addr):VSp:=Av λ ds d=>∃ zr n wr ps g dn,ds=[Af zr C CP n wr ps g dn]/\d=.lst false (rlD n.toNat g)
theorem ql4(T:Txt K mg a):VFn P w K mg base 1 a.f25 a.d25 ["self"] (qw2 a.C4 a.C3):=by
 refine VFn.mk2 T.d25.F qw4 (wOf [true]) qb3 (λ ds Q xe h=>by obtain⟨d,⟨zr,n,wr,ps,g,dn,e,_⟩,_⟩:=h;rw[e];exact⟨rfl,rfl⟩) (λ cdv A outer sh H E av hr=>⟨_,(Ad (Ap (qa5 (E6 qd3 qv7.ops T.Cj (qa2 (Be rfl (vnm 0) T.C6.cl T.C9) qa6 rfl))))),λ ds Q xe h=>?_⟩);obtain⟨d,⟨zr,n,wr,ps,g,dn,rfl,rfl⟩,q⟩:=h;refine As [Af zr a.C4 a.C3 n wr ps g dn] rfl ?_;refine qd1 (.lst false (rlD n.toNat g)) ?_ q;unfold Ay Au;rw[A5 rfl qx2];exact qm3 (qF1 _ _)
theorem qad9:qa9 ["row"] ["row"] (qa3 qG5):=by walk_at "s"
def farE(n:Int)(wr:Bool)(ps:Pr)(y:D):Option D:=match y with
 | .tup [.int i,.int k]=>some (.tup [.int k,Ej (Aw n wr ps k i)])
 | _=>none
def qJ7(C CP:Addr):VSp:=Av λ ds d=>∃ zr n wr ps g dn,ds=[Af zr C CP n wr ps g dn]/\1<=n/\n<=64/\(∀ i k,i < n.toNat->g i=some k->Ak k)/\d=.lst false ((enD (rlD n.toNat g)).filterMap (farE n wr ps))
theorem qm2(T:Txt K mg a):VFn P w K mg base 6 a.f34 a.d34 ["row"] (qJ7 a.C4 a.C3):=by
 refine VFn.mk2 T.d34.F qad9 (wOf [true]) qb3 (λ ds Q xe h=>by obtain⟨d,⟨zr,n,wr,ps,g,dn,e,_⟩,_⟩:=h;rw[e];exact⟨rfl,rfl⟩) (λ cdv A outer sh H E av hr=>⟨_,(Ad (Ap (ecE (NY:=["room", "key", "row"]) (src:=[none,none,some 0]) T.Cm (qM8 0 T.d25 T.C6.cl (ql4 T) qa1 (rm hr)) (blk (λ av C s0 H0 ex=>(Eg (n:=2) rfl (ql7 (Ba 0 (show (["room", "key", "row"]:List Str).Nodup by decide +kernel)) (ql7 (Ba 1 (show (["room", "key", "row"]:List Str).Nodup by decide +kernel)) Ef)))) (λ av C s0 H0 ex=>(Fc (q2 (Aj qj5 (qa8 _)) qn1 (vnm 1) A6))) (λ av C s0 H0 ex=>(Gw (vaV (qb5 (vnm 1)) (vaV (qaG2 T.d10 T.C5.cl (qf7 T) qu4 (rm hr) (Be rfl (vnm 2) T.C6.cl T.Ca) (vaN 1 (vaN 0 Aa))) Aa)))))))),λ ds Q xe h=>?_⟩);obtain⟨d,⟨zr,n,wr,ps,g,dn,rfl,n1,n2,hg,rfl⟩,q⟩:=h;refine As [Af zr a.C4 a.C3 n wr ps g dn] rfl ?_;refine qh5 ?_;refine qaq2 (p:=Af zr a.C4 a.C3 n wr ps g dn) (d:=.lst false (rlD n.toNat g)) rfl (qi1 rfl) ⟨zr,n,wr,ps,g,dn,rfl,rfl⟩ rfl (qa0 (a:=rlD n.toNat g) rfl ⟨qF1 _ _,?_⟩);refine qj8 (λ ι=>∃ d e,ι=[d,e,Af zr a.C4 a.C3 n wr ps g dn]) (farE n wr ps) _ [] _ (by show 0+_ < 1000000;rw[qaE3,qo0];lia) ⟨_,_,rfl⟩ ?_ ?_
 . rintro y hy ι acc ⟨d,e,rfl⟩ R hR hacc
   obtain⟨i,hi⟩:=zBp hy;obtain⟨hlt,rfl⟩:=en_at hi;have this:=hR [.int (i:Nat),De (g i),Af zr a.C4 a.C3 n wr ps g dn] ⟨_,_,rfl⟩;refine qu7 ?_;cases hgi:g i with
   | none =>
     rw[hgi] at this;have this:R (acc++[]) _:=this;rw[zAf] at this;exact qc6 (b:=false) (f2_of rfl rfl rfl) (Bs (by decide) this)
   | some k =>
     rw[hgi] at this;have this:R (acc++[D.tup [.int k,Ej (Aw n wr ps k (i:Nat))]]) [.int (i:Nat),.int k,Af zr a.C4 a.C3 n wr ps g dn]:=this;refine qc6 (b:=true) (f2_of rfl rfl rfl) (Dp rfl (qac4 (qb9 (y:=.int k) rfl rfl (qd8 ?_))));refine qR5 (d:=planD true a.C3 n wr ps) (A5 rfl qf8) rfl (qe4 rfl) (qb6 (x:=.int k) rfl (qb6 (x:=.int (i:Nat)) rfl (qb7 ?_)));refine qa0 (a:=D.int (i:Nat)) rfl (qa0 (a:=D.int k) rfl ?_);refine⟨_,⟨true,n,wr,ps,k,(i:Nat),rfl,n1,hg i k hlt hgi,by lia,by lia,rfl⟩,?_⟩;exact qa0 (a:=[.int (i:Nat),.int k,Af zr a.C4 a.C3 n wr ps g dn]) rfl (qb7 ⟨by show 2<=1000000;decide,hacc,this⟩)
 rintro ι ⟨d,e,rfl⟩;rw[zB5];exact q
theorem qaJ0:qa9 ["_law_script"] ["_law_script"] (qa3 qaA8):=by walk_at "s"
theorem qaM0(T:Txt K mg a):Bq P w K mg base CX0 1 a.f38 a.d38 ["_law_script"] (qaS0 K):=by
 refine T.d38.F.ok qaJ0 (λ vs H Q E h=>?_) (λ cdv A outer s H vs Q E hr h=>?_)
 . obtain⟨l,ns,rfl,_⟩:=h
   rfl
 obtain⟨l,ns,rfl,hS,hl,k⟩:=h;refine⟨_,(qz8 (qZ9 (qaC2 (qc4 qK8 (qc4 qK8 (qc4 qK8 (qc4 (qz9 ["_law_cell"] [none] (qE1 (qaf2 qau5 (pv 0) qav9 (qav8 qK8))) (λ C s0 H0 ex=>(gnm 0 (show (["_law_cell"]:List Str).Nodup by decide +kernel))) (λ C s0 H0 ex=>qaK5) (λ C s0 H0 ex=>(cbi qaG8 T.D3 (qc4 (pv 0) ql6)))) ql6))))))),?_⟩;refine⟨_,rfl,_,rfl,l,_,rfl,hS,λ c hc=>?_⟩;have ec:Gb (ns.map V.int) none (some 63)=ns.map V.int:=by
   unfold Gb;have e63:HT.sIx (ns.map V.int).length (ns.map V.int).length (some (63:Int))=min 63 (ns.map V.int).length:=HT.qau9 _ _ 63;rw[e63,HT.qae7,List.drop_zero,Nat.sub_zero];apply zBa;rw[zAc];lia
 rw[ec];refine⟨c,rfl,⟨_,SqL.of qc2⟩,λ D hD=>?_⟩;have nD:D≠c:=λ z=>by rw[z,qc2] at hD;cases hD
 have hD':H D=none:=by rw[qc9 nD] at hD;exact hD
 refine qX7 (K:=K) (xs:=ns.map V.int) (λ i σ H1=>∃ v,σ=[v]/\H1=upd (upd H c (.lst (ns.map V.int))) D (.lst (((ns.take i).map λ n=>if n < 0 then -n else n).map V.int))) ⟨none,rfl,rfl⟩ ?_ ?_ ?_
 . rintro i σ H1 _ ⟨v,rfl,rfl⟩
   refine SqL.of ?_;rw[qc9 nD.symm,qc2]
 . rintro i x σ H1 hi ⟨v,rfl,rfl⟩
   obtain⟨n,hn,rfl⟩:∃ n,ns[i]? = some n/\V.int n=x:=by
     rw[zAv] at hi;cases e:ns[i]? with
     | none=>rw[e] at hi;cases hi
     | some z=>rw[e] at hi;exact⟨z,rfl,Option.some.inj hi⟩
   refine⟨_,rfl,_,rfl,_,qc2,?_,_,rfl,?_⟩
   . rw[zAc,zAc,zBu]
     exact qao4 (by lia)
   rw[qaH7];congr 1;rw[List.take_add_one,hn];simp
 rintro σ H1 ⟨v,rfl,rfl⟩;rw[zAc,zBa (zA3 _)];refine⟨by show 4<=sizeLine;decide,λ p hp=>?_⟩;have npD:p≠D:=λ z=>by rw[z,qc2] at hp;cases hp
 rw[qc9 npD] at hp;have npc:p≠c:=λ z=>by rw[z,qc2] at hp;cases hp
 rw[qc9 npc] at hp;refine k p D _ hp hD' (λ b o e=>?_) ⟨0,1234567891,0,ns.map λ n=>if n < 0 then -n else n,qc2,?_,by decide,by decide,by decide,by decide,?_⟩
 . rw[qc9 (qe7 e hp),qc9 (qe7 e hD'),qc9 (qe7 e hc)]
   exact e
 . rw[qc9 npD.symm,qc2]
 intro n hn;obtain⟨m,_,rfl⟩:=zB1.mp hn
 split<;>lia
theorem qs3:qa9 ["_law_bag_here", "_law_many", "_law_cell", "_law_value", "_law_first", "_law_second"] ["_law_bag_here", "_law_many"] (qa3 qae2):=by walk_at "s"
theorem qc0(T:Txt K mg a):VFn P w K mg base 1 a.f39 a.d39 ["_law_bag_here", "_law_many"] qF9:=by
 refine VFn.mk' T.d39.F qs3 (wOf [true,true]) (λ ds Q Q' xe xe' hQ _ h=>by obtain⟨b,m,ns,e,h1,h2,h3,q⟩:=h;exact⟨b,m,ns,e,h1,h2,h3,λ v b' v0 v1 B=>hQ _ _ (q v b' v0 v1 B)⟩) (λ ds Q xe ⟨b,m,ns,e,_⟩=>by rw[e];rfl) (λ ds Q xe h=>by obtain⟨b,m,ns,e,⟨x,y,z,eb,_⟩,_⟩:=h;rw[e,eb];rfl) (λ cdv A outer sh H E av hr=>⟨_,(Ab (sif (q2 (Aj (qf5 hr.u64) (qa8 _)) A9 (v2 (An qb0) Ag (vnm 0) Ac) Ac)
     (Ab (Ah 2 qs3.nd (qa5 Ac))
     (Ab (sif (q2 (Aj D8 (qa8 _)) Et (v2 (An qb0) Ag (vnm 0) Ac) (vbi qr5 qr4.ops T.Ci (qa2 (v2 (An qb0) Ag (vnm 0) Ac) qa6 rfl)))
     (Ad (Ah 2 qs3.nd (qb5 (v2 (An qb0) Ag (v2 (An qb0) Ag (vnm 0) Ac) (v2 (An qb0) Ag (vnm 0) Ac)))))
     Aq)
     (Ab (saug (vpn 0) Ac Ac qaV8)
     (Ab (sif (q2 (Aj G2 (qa8 _)) Iu (vnm 2) Ac)
     (Ad (Er (qb5 (vnm 2)) (Dm (vpn 0) Ac)))
     Aq)
     (Ad (Er (qa5 (v2 (Al qk9) qk6 (v2 (Al qk8) qk7 (v2 (Al qk8) qk7 (v2 (Al qt5) qt4 (v2 (An qb0) Ag (vnm 0) Ac) Ac) (v2 (Al qk9) qk6 (vnm 2) Ac)) (v2 (Al qt5) qt4 Ac (v2 (An qb0) Ag (vnm 0) Ac))) Ac)) (Dm (vpn 0) Ac)))))))
     Aq)
     (Ab (sif (q2 (Aj By (qa8 _)) Da (v2 (An qb0) Ag (vnm 0) Ac) Ac)
     (Ab (Ah 3 qs3.nd (qa5 (v2 (Al qk9) qk6 (v2 (An qb0) Ag (vnm 0) Ac) (vnm 1))))
     (Ab (Er (qa5 (v2 (Al qH5) qap4 (v2 (An qb0) Ag (vnm 0) Ac) (vnm 1))) (Dm (vpn 0) Ac))
     (Ad (Ap (emv 3)))))
     Aq)
     (Ab (Ah 4 qs3.nd (qa5 (v2 (Al qk9) qk6 (v2 (Al qt5) qt4 (v2 (Al qk8) qk7 (v2 (An qb0) Ag (vnm 0) Ac) Ac) Ac) Ac)))
     (Ab (Ah 5 qs3.nd (qa5 (v2 (Al qk9) qk6 (v2 (Al qt5) qt4 (v2 (Al qk9) qk6 (v2 (Al qt5) qt4 (vnm 4) (vnm 4)) Ac) Ac) Ac)))
     (Ab (sif (q2 (Aj By (qa8 _)) Da (vnm 1) Ac)
     (Ad (Ap (qa5 (v2 (Al qk9) qk6 (v2 (Al qk8) qk7 (v2 (Al qt5) qt4 (vnm 5) Ac) (vnm 4)) (vnm 1)))))
     Aq)
     (Ad (Ap (qa5 (v2 (Al qk9) qk6 (v2 (Al qH5) qap4 (vnm 5) Ac) (vnm 1)))))))))),λ ds Q xe h=>?_⟩)
 obtain⟨b,m,ns,rfl,⟨x,y,z,rfl,B⟩,hm0,hm1,k⟩:=h;refine As [bagD x y z ns,.int m,.unk,.unk,.unk,.unk] rfl ?_;refine qb8 (λ ds=>∃ x' y' z' c,ds=[bagD x' y' z' ns,.int m,c,.unk,.unk,.unk]/\Bg x' y' z' ns) (λ K hK=>?_) ?_
 . refine if_v (b:=decide (x=0)) rfl (λ _=>?_) (λ _=>hK _ ⟨x,y,z,_,rfl,B⟩)
   refine qb1 [bagD x y z ns,.int m,.int 0,.unk,.unk,.unk] (λ K hK=>hK) ?_;refine qb8 (λ ds=>∃ c:Int,0<=c/\ds=[bagD x y z ns,.int m,.int c,.unk,.unk,.unk]) (λ K hK=>?_) ?_
   . refine if_v (b:=decide (z < (((ns.map D.int).length:Nat):Int))) rfl (λ h2=>?_) (λ _=>hK _ ⟨0,by decide,rfl⟩)
     obtain⟨v,hv,e⟩:=qF6 (xs:=ns.map D.int) (i:=z) B.z0 (zAb h2);obtain⟨c,hc,rfl⟩:=zB1.mp hv;exact qn5 (f2_of (y:=.int z) (x:=.lst false (ns.map .int)) rfl rfl e) rfl (hK _ ⟨c,B.nn c hc,rfl⟩)
   rintro ds ⟨c,hc,rfl⟩;refine qb1 [bagD x y (z+1) ns,.int m,.int c,.unk,.unk,.unk] (λ K hK=>?_) ?_
   . exact qaY2 (k:=2) (x:=z) (y:=1) (ys:=[.int x,.int y,.int z,.lst false (ns.map .int)]) rfl rfl (by decide) rfl rfl hK
   refine qb8 (λ ds=>∃ x':Int,0<=x'/\ds=[bagD x' y (z+1) ns,.int m,.int c,.unk,.unk,.unk]) (λ K hK=>?_) ?_
   . refine if_v (b:=decide (1000000000000000000<=c)) rfl (λ _=>?_) (λ _=>hK _ ⟨x,B.x0,rfl⟩)
     exact qJ4 (d:=.int c) (ys:=[.int x,.int y,.int (z+1),.lst false (ns.map .int)]) (k:=0) (n:=0) rfl rfl rfl rfl rfl (hK _ ⟨c,hc,rfl⟩)
   rintro ds ⟨x',hx',rfl⟩;have e1:f2 Hn (f2 gAdd (f2 gAdd (f2 Hm (f2 gIx (rdN 0) (kC (.int 1))) (kC (.int 48271))) (f2 Hn (rdN 2) (kC (.int 2147483647)))) (f2 Hm (kC (.int 7919)) (f2 gIx (rdN 0) (kC (.int 2))))) (kC (.int 2147483647)) [bagD x' y (z+1) ns,.int m,.int c,.unk,.unk,.unk]=some (.int ((y * 48271+c % 2147483647+7919 * (z+1)) % 2147483647)) :=
     f2_of (f2_of (f2_of (f2_of (x:=.int y) rfl rfl (mulR (by decide))) (f2_of rfl rfl (Dh (by decide))) rfl) (f2_of (y:=.int (z+1)) rfl rfl (Hx (by decide))) rfl) rfl (Dh (by decide))
   exact qU1 (ys:=[.int x',.int y,.int (z+1),.lst false (ns.map .int)]) (k:=1) (n:=1) e1 rfl rfl rfl (hK _ ⟨x',_,z+1,_,rfl,hx',zBr _ (by decide),zBo _ (by decide),by have:=B.z0;lia,B.nn⟩)
 rintro ds ⟨x',y',z',c,rfl,B'⟩;refine qg0 (decide (0 < x')) rfl (λ h1=>?_) λ _=>?_
 . refine qb1 [bagD x' y' z' ns,.int m,c,.int (x' % m),.unk,.unk] (λ K hK=>qa0 (f2_of (x:=.int x') rfl rfl (Dh hm0)) hK) ?_
   refine qb1 [bagD (x' / m) y' z' ns,.int m,c,.int (x' % m),.unk,.unk] (λ K hK=>?_) ?_
   . exact qU1 (ys:=[.int x',.int y',.int z',.lst false (ns.map .int)]) (k:=0) (n:=0) (f2_of (x:=.int x') rfl rfl (qas4 hm0 hm1)) rfl rfl rfl hK
   exact k (x' % m) _ (zBr _ (by lia)) (zBo _ hm0) ⟨_,_,_,rfl,Int.ediv_nonneg B'.x0 (by lia),B'.y0,B'.y1,B'.z0,B'.nn⟩
 have f0:0<=(y'+1) * 39373 % 1000000007:=zBr _ (by decide);have f1:(y'+1) * 39373 % 1000000007 < 1000000007:=zBo _ (by decide);refine qb1 [bagD x' y' z' ns,.int m,c,.unk,.int ((y'+1) * 39373 % 1000000007),.unk] (λ K hK=>qa0 (f2_of (f2_of (f2_of (x:=.int y') rfl rfl rfl) rfl (mulR (by decide))) rfl (Dh (by decide))) hK) ?_;generalize (y'+1) * 39373 % 1000000007=f at f0 f1;refine qb1 [bagD x' y' z' ns,.int m,c,.unk,.int f,.int (f * f % 998244353 * 30011 % 998244353)] (λ K hK=>qa0 (f2_of (f2_of (f2_of (f2_of rfl rfl (Hx (qP2 (by lia) (by lia)))) rfl (Dh (by decide))) rfl (mulR (by decide))) rfl (Dh (by decide))) hK) ?_;generalize f * f % 998244353 * 30011 % 998244353=s;have kk:∀ v,Q (.int (v % m)) [bagD x' y' z' ns,.int m]:=λ v=>k _ _ (zBr _ (by lia)) (zBo _ hm0) ⟨_,_,_,rfl,B'⟩
 refine qg0 (decide (1000000 < m)) rfl (λ _=>?_) λ _=>?_
 . exact qd1 _ (f2_of (f2_of (f2_of rfl rfl (mulR (by decide))) rfl rfl) rfl (Dh hm0)) (kk _)
 exact qd1 _ (f2_of (f2_of rfl rfl (qas4 (by decide) (by decide))) rfl (Dh hm0)) (kk _)
theorem qau6:qa9 ["_law_bag_here", "_law_rooms", "_law_home_here", "_law_way"] ["_law_bag_here", "_law_rooms", "_law_home_here"] (qa3 qaA6):=by walk_at "s"
def qaI7:VSp:=λ ds Q _=>∃ b n h ns,ds=[b,.int n,.int h]/\isBag ns b/\1<=n/\n<=64/\0<=h/\h < n/\∀ k b',qu3 k->isBag ns b'->Q (.int k) [b',.int n,.int h]
theorem qU8(T:Txt K mg a):VFn P w K mg base 2 a.f41 a.d41 ["_law_bag_here", "_law_rooms", "_law_home_here"] qaI7:=by
 refine VFn.mk' T.d41.F qau6 (wOf [true,true,true]) (λ ds Q Q' xe xe' hQ _ h=>by obtain⟨b,n,h,ns,e,h1,h2,h3,h4,h5,q⟩:=h;exact⟨b,n,h,ns,e,h1,h2,h3,h4,h5,λ k b' l B=>hQ _ _ (q k b' l B)⟩) (λ ds Q xe h=>by obtain⟨b,n,h,ns,e,_⟩:=h;rw[e];rfl) (λ ds Q xe h=>by obtain⟨b,n,h,ns,e,⟨x,y,z,eb,_⟩,_⟩:=h;rw[e,eb];rfl) (λ cdv A outer sh H E av hr=>⟨_,(Ab (Ah 3 qau6.nd (Ae T.d39 (qc0 T) qa1 (rm hr) (vaN 0 (vaV (qa5 Ac) Aa))))
     (Ab (sif (q2 (Aj (qf5 hr.u64) (qa8 _)) A9 (vnm 3) Ac)
     (Ad (Ap (e2 (Al qt6) qt3 (qa5 (v2 (Al qt6) qt3 (vpow 1000000000000000000) (v2 (Al qk9) qk6 (v2 (Al qt6) qt3 (vpow 1000000000000000000) (vnm 2)) (vnm 1)))) (e2n 1 (Al qt5) qt4 (Ae T.d39 (qc0 T) qa1 (rm hr) (vaN 0 (vaV (qa5 Ac) Aa)))))))
     Aq)
     (Ad (Ap (e2n 2 (Al qk8) qk7 (e2n 1 (Al qt5) qt4 (Ae T.d39 (qc0 T) qa1 (rm hr) (vaN 0 (vaV (qa5 (v2 (An qb0) Ag (Bk (qa2 Ac (qa2 Ac (qa2 Ac (qa2 Ac (qa2 (vpow 1000000000000000) qa6 rfl) rfl) rfl) rfl) rfl)) (v2 (Al qt6) qt3 (vnm 3) Ac))) Aa))))))))),λ ds Q xe h=>?_⟩)
 obtain⟨b,n,h,ns,rfl,B,n1,n2,h0,h1,k⟩:=h;refine As [b,.int n,.int h,.unk] rfl ?_;refine qb8 (λ ds=>∃ b w,ds=[b,.int n,.int h,.int w]/\isBag ns b/\0<=w/\w < 6) (λ K hK=>?_) ?_
 . exact qe2 rfl B rfl (by decide) (by decide) λ v b' v0 v1 B'=>hK _ ⟨b',v,rfl,B',v0,v1⟩
 rintro ds ⟨b,way,rfl,B,w0,w1⟩;refine qg0 (decide (way=0)) rfl (λ _=>?_) λ hw=>?_
 . refine qh5 ?_
   have e0:0<=(1000000000000000000 - h) % n:=zBr _ (by lia);have e1:(1000000000000000000 - h) % n < n:=zBo _ (by lia);refine qa0 (a:=D.int (1000000000000000000 - (1000000000000000000 - h) % n)) (f2_of rfl (f2_of rfl rfl (Dh (by lia))) rfl) ?_;refine⟨rfl,qe2 (ds:=[b,.int n,.int h,.int way]) rfl B rfl (by decide) (by decide) λ v b' v0 v1 B'=>?_⟩;have e2:0<=n * v:=Int.mul_nonneg (by lia) v0;have e3:n * v<=64 * 8:=by
     have q1:n * v<=64 * v:=Int.mul_le_mul_of_nonneg_right n2 v0;lia
   refine qa0 (a:=D.int (n * v)) (Hx (qP2 (by lia) (by lia))) (qa0 (a:=D.int (1000000000000000000 - (1000000000000000000 - h) % n - n * v)) rfl ?_);exact k _ _ (.inr ⟨by lia,by lia⟩) B'
 have hw:¬ way=0:=zB9 hw;obtain⟨f,hf,ef⟩:=qF6 (xs:=[D.int 9,D.int 9,D.int 9,D.int 9,D.int 1000000000000000]) (i:=way - 1) (by lia) (by show way - 1 < 5;lia);obtain⟨g,rfl,g0,g1⟩:∃ g:Int,f=.int g/\0 < g/\g<=1000000000000000:=by
   simp only[zAi,zBd,or_false] at hf;rcases hf with rfl | rfl | rfl | rfl | rfl
   . exact⟨9,rfl,by decide,by decide⟩
   . exact⟨9,rfl,by decide,by decide⟩
   . exact⟨9,rfl,by decide,by decide⟩
   . exact⟨9,rfl,by decide,by decide⟩
   exact⟨_,rfl,by decide,by decide⟩
 refine qh5 ⟨rfl,rfl,?_⟩;refine qe2 (ds:=[b,.int n,.int h,.int way]) (m:=g) rfl B (f2_of (x:=.lst false [.int 9,.int 9,.int 9,.int 9,.int 1000000000000000]) (y:=.int (way - 1)) rfl rfl ef) g0 (Int.lt_of_le_of_lt g1 (by decide)) λ v b' v0 v1 B'=>?_
 have e2:0<=n * v:=Int.mul_nonneg (by lia) v0;have e3:n * v<=64 * 1000000000000000:=by
   have q1:n * v<=64 * v:=Int.mul_le_mul_of_nonneg_right n2 v0;lia
 refine qa0 (a:=D.int (n * v)) (Hx (qP2 (by lia) (by lia))) (qa0 (a:=D.int (h+n * v)) rfl ?_);exact k _ _ (.inl ⟨by lia,by lia⟩) B'
theorem qe6:qa9 ["_law_bag_here", "_law_case_here", "_law_many", "_law_rooms", "_law_way", "_law_homes", "_law_found", "_law_k", "_law_home_here", "_law_key_here", "_law_told"] ["_law_bag_here", "_law_case_here", "_law_many"] (qa3 qae3):=by walk_at "s"
def qaz9:VSp:=λ ds Q _=>∃ b n wr m ns,ds=[b,caseD n wr [],.int m]/\isBag ns b/\1<=n/\n<=64/\0<=m/\m<=100 /\
 ∀ b' ks ps,isBag ns b'->ks.Nodup->(∀ k∈ks,qu3 k)->(ks.length:Int)<=m->(1<=m->ks≠[])->Drawn ks ps->Q (.lst false (ksD ks)) [b',caseD n wr ps,.unk]
theorem qaX8{j:Int}(h:0<=j):gSl (.lst false (ksD ks)) none (some j)=some (.lst false (ksD (ks.take j.toNat))):=by
 have e:E3 (ksD ks) none (some j)=ksD (ks.take j.toNat):=by
   rw[show j=((j.toNat:Nat):Int) by lia,qX5,Int.toNat_natCast];unfold ksD;rw[List.map_take]
 show gd (D.imms (E3 (ksD ks) none (some j))=true) (.lst false (E3 (ksD ks) none (some j)))=_;rw[e];exact qm3 (ql5 _)
theorem qag1(T:Txt K mg a):VFn P w K mg base 3 a.f42 a.d42 ["_law_bag_here", "_law_case_here", "_law_many"] qaz9:=by
 refine VFn.mk' T.d42.F qe6 (wOf [true,true,true]) (λ ds Q Q' xe xe' hQ _ h=>by obtain⟨b,n,wr,m,ns,e,h1,h2,h3,h4,h5,q⟩:=h;exact⟨b,n,wr,m,ns,e,h1,h2,h3,h4,h5,λ b' ks ps a1 a2 a3 a4 a5 a6=>hQ _ _ (q b' ks ps a1 a2 a3 a4 a5 a6)⟩) (λ ds Q xe h=>by obtain⟨b,n,wr,m,ns,e,_⟩:=h;rw[e];rfl) (λ ds Q xe h=>by obtain⟨b,n,wr,m,ns,e,⟨x,y,z,eb,_⟩,_⟩:=h;rw[e,eb];rfl) (λ cdv A outer sh H E av hr=>⟨_,(Ab (Ah 3 qe6.nd (qb5 (v2 (An qb0) Ag (vnm 1) Ac)))
     (Ab (Ah 4 qe6.nd (Ae T.d39 (qc0 T) qa1 (rm hr) (vaN 0 (vaV (qa5 Ac) Aa))))
     (Ab (Ah 5 qe6.nd (F5 (vaV (Ae T.d39 (qc0 T) qa1 (rm hr) (vaN 0 (vaN 3 Aa))) (vaV (Ae T.d39 (qc0 T) qa1 (rm hr) (vaN 0 (vaN 3 Aa))) Aa))))
     (Ab (Ah 6 qe6.nd (qa5 (Bk qa6)))
     (Ab (qK3 PassesOwn.leaving T.Cc (Dk (vaN 2 Aa)) (Ba 7 qe6.nd)
     (Ab (Ah 8 qe6.nd (Ae T.d39 (qc0 T) qa1 (rm hr) (vaN 0 (vaN 3 Aa))))
     (Ab (sif (q2 (Aj (qf5 hr.u64) (qa8 _)) A9 (vnm 4) Ac)
     (Ad (Ah 8 qe6.nd (qa5 (v2 (Al qt6) qt3 (v2 (Al qt6) qt3 (vnm 3) Ac) (v2 (Al qH5) qap4 (vnm 8) Ac)))))
     Aq)
     (Ab (sif (q2 (Aj (qf5 hr.u64) (qa8 _)) A9 (vnm 4) Ac)
     (Ad (Ah 8 qe6.nd (qb5 (v2 (An qb0) Ag (vnm 5) (v2 (Al qk9) qk6 (vnm 8) Ac)))))
     Aq)
     (Ab (sif (Eb (q2 (Aj (qf5 hr.u64) (qa8 _)) A9 (vnm 4) Ac) (Dc (q2 (Aj By (qa8 _)) Da (v2 (Al qk9) qk6 (vnm 8) Ac) Ac))).te
     (Ad (Ah 8 qe6.nd (qb5 (v2 (An qb0) Ag (vnm 5) Ac))))
     Aq)
     (Ab (Ah 9 qe6.nd (Ae T.d41 (qU8 T) qa1 (rm hr) (vaN 0 (vaN 3 (vaN 8 Aa)))))
     (Ad (sif (q2 (Aj qA0 (by with_unfolding_all rfl)) Gh (vnm 9) (vnm 6))
     (Ad (Bh (Dy 6 qw6 PySem.F.plainAttrs_list PySem.F.slot_list_append PySem.F.type_list_append qd5 (vaN 9 Aa))))
     Aq))))))))
     (Ab (Ah 10 qe6.nd (Ae T.d39 (qc0 T) qa1 (rm hr) (vaN 0 (vaV (qa5 Ac) Aa))))
     (Ab (I9 PassesOwn.leaving (qa5 (vsl (vnm 6) vpo_n (vpo_s (v2 (An qb0) Ag (Bk (qa2 Ac (qa2 Ac (qa2 Ac (qa2 Ac (qa2 Ac (qa2 Ac (qa2 Ac (qa2 Ac (qa2 Ac (qa2 Ac qa6 rfl) rfl) rfl) rfl) rfl) rfl) rfl) rfl) rfl) rfl)) (vnm 10))))) (Ba 9 qe6.nd)
     (Ad (Bh (Hb qw6 PySem.F.plainAttrs_list PySem.F.slot_list_append PySem.F.type_list_append qd5 (Ed (vpn 1) Ac) (vaV (Gw (vaV (qb5 (vnm 9)) (vaV (Ae T.d41 (qU8 T) qa1 (rm hr) (vaN 0 (vaN 3 (vaV (Ae T.d39 (qc0 T) qa1 (rm hr) (vaN 0 (vaN 3 Aa))) Aa)))) Aa))) Aa)))))
     (Ab (qK3 PassesOwn.leaving T.Cc (Dk (vaV (qa5 (v2 (Al qk9) qk6 (vnm 10) Ac)) Aa)) (Ba 7 qe6.nd)
     (Ad (Bh (Hb qaU6 PySem.F.plainAttrs_list PySem.F.slot_list_insert PySem.F.type_list_insert qap8 (Ed (vpn 1) Ac) (vaV (qa5 Ac) (vaV (Gw (vaV (qa5 (v2 (Al qk8) qk7 (v2 (Al qk8) qk7 (v2 (Al qt5) qt4 Ac (vpow 100000000000000000)) (v2 (Al qt5) qt4 Ac (vnm 7))) (vnm 10))) (vaV (Ae T.d41 (qU8 T) qa1 (rm hr) (vaN 0 (vaN 3 (vaV (qa5 Ac) Aa)))) Aa))) Aa))))))
     (Ad (Ap (emv 6))))))))))),λ ds Q xe h=>?_⟩)
 obtain⟨b,n,wr,m,ns,rfl,B,n1,n2,m0,m1,q⟩:=h;refine As [b,caseD n wr [],.int m,.unk,.unk,.unk,.unk,.unk,.unk,.unk,.unk] rfl ?_;refine qb1 [b,caseD n wr [],.int m,.int n,.unk,.unk,.unk,.unk,.unk,.unk,.unk] (λ K hK=>qn5 (d:=.int n) rfl rfl hK) ?_;refine qb8 (λ ds=>∃ b w,ds=[b,caseD n wr [],.int m,.int n,.int w,.unk,.unk,.unk,.unk,.unk,.unk]/\isBag ns b/\0<=w/\w < 4) (λ K hK=>?_) ?_
 . exact qe2 rfl B rfl (by decide) (by decide) λ v b' v0 v1 B'=>hK _ ⟨b',v,rfl,B',v0,v1⟩
 rintro ds ⟨b,way,rfl,B,w0,w1⟩;refine qb8 (λ ds=>∃ b g1 g2,ds=[b,caseD n wr [],.int m,.int n,.int way,.lst false [.int g1,.int g2],.unk,.unk,.unk,.unk,.unk]/\isBag ns b/\0<=g1/\g1 < n/\0<=g2/\g2 < n) (λ K hK=>?_) ?_
 . refine qT8 (ds:=[b,caseD n wr [],.int m,.int n,.int way,.unk,.unk,.unk,.unk,.unk,.unk]) (m:=n) rfl B rfl (by decide) (by lia) (by lia) λ g1 b1 a0 a1 B1=>?_
   refine qT8 (ds:=[b1,caseD n wr [],.int m,.int n,.int way,.unk,.unk,.unk,.unk,.unk,.unk]) (m:=n) rfl B1 rfl (by decide) (by lia) (by lia) λ g2 b2 c0 c1 B2=>?_
   exact⟨by show 2<=1000000;decide,hK _ ⟨b2,g1,g2,rfl,B2,a0,a1,c0,c1⟩⟩
 rintro ds ⟨b,g1,g2,rfl,B,a0,a1,c0,c1⟩;refine qb1 [b,caseD n wr [],.int m,.int n,.int way,.lst false [.int g1,.int g2],.lst false (ksD []),.unk,.unk,.unk,.unk] (λ K hK=>hK) ?_;refine qb8 (λ ds=>∃ b ks d7 d8 d9,ds=[b,caseD n wr [],.unk,.int n,.int way,.lst false [.int g1,.int g2],.lst false (ksD ks),d7,d8,d9,.unk]/\isBag ns b/\ks.Nodup/\(∀ k∈ks,qu3 k)/\ks.length<=m.toNat/\(1<=m.toNat->ks≠[])) (λ K hK=>?_) ?_
 . refine qar8 (n:=m) rfl (qC8 (by lia) (by lia)) ?_
   refine qe5 (λ i ds=>∃ b ks d7 d8 d9,ds=[b,caseD n wr [],.unk,.int n,.int way,.lst false [.int g1,.int g2],.lst false (ksD ks),d7,d8,d9,.unk]/\isBag ns b/\ks.Nodup/\(∀ k∈ks,qu3 k)/\ks.length<=i/\(1<=i->ks≠[])) _ 0 _ ⟨b,[],_,_,_,rfl,B,List.nodup_nil,λ _ h=>by simp at h,zA3 _,λ h=>absurd h (by decide)⟩ ?_ ?_
   . rintro i x hx ds ⟨b,ks,d7,d8,d9,rfl,B,nd,lk,hlen,hne⟩ K2 hK2
     rw[zB6] at hlen hne hK2;obtain⟨hi,rfl⟩:=qH1 hx;refine As [b,caseD n wr [],.unk,.int n,.int way,.lst false [.int g1,.int g2],.lst false (ksD ks),.int (i:Nat),d8,d9,.unk] rfl ?_;refine qb8 (λ ds=>∃ b h,ds=[b,caseD n wr [],.unk,.int n,.int way,.lst false [.int g1,.int g2],.lst false (ksD ks),.int (i:Nat),.int h,d9,.unk]/\isBag ns b/\0<=h/\h < n) (λ K hK=>?_) ?_
     . exact qT8 (m:=n) rfl B rfl (by decide) (by lia) (by lia) λ v b' v0 v1 B'=>hK _ ⟨b',v,rfl,B',v0,v1⟩
     rintro ds ⟨b,h,rfl,B,h0,h1⟩;refine qb8 (λ ds=>∃ h,ds=[b,caseD n wr [],.unk,.int n,.int way,.lst false [.int g1,.int g2],.lst false (ksD ks),.int (i:Nat),.int h,d9,.unk]/\0<=h/\h < n) (λ K hK=>?_) ?_
     . refine if_v (b:=decide (way=1)) rfl (λ _=>?_) λ _=>hK _ ⟨h,rfl,h0,h1⟩
       exact qK4 (d:=.int (n - 1 - h / 3)) (f2_of (x:=.int (n - 1)) rfl (f2_of (x:=.int h) (y:=.int 3) rfl rfl (qas4 (by decide) (by decide))) rfl) (hK _ ⟨_,rfl,by lia,by lia⟩)
     rintro ds ⟨h,rfl,h0,h1⟩;refine qb8 (λ ds=>∃ h,ds=[b,caseD n wr [],.unk,.int n,.int way,.lst false [.int g1,.int g2],.lst false (ksD ks),.int (i:Nat),.int h,d9,.unk]/\0<=h/\h < n) (λ K hK=>?_) ?_
     . refine if_v (b:=decide (way=2)) rfl (λ _=>?_) λ _=>hK _ ⟨h,rfl,h0,h1⟩
       obtain⟨v,hv,ev⟩:=qF6 (xs:=[D.int g1,D.int g2]) (i:=h % 2) (zBr _ (by decide)) (by show h % 2 < 2;lia);simp only[zAi,zBd,or_false] at hv;rcases hv with rfl | rfl
       . exact qn5 (f2_of (x:=.lst false [.int g1,.int g2]) rfl (f2_of (x:=.int h) (y:=.int 2) rfl rfl (Dh (by decide))) ev) rfl (hK _ ⟨g1,rfl,a0,a1⟩)
       exact qn5 (f2_of (x:=.lst false [.int g1,.int g2]) rfl (f2_of (x:=.int h) (y:=.int 2) rfl rfl (Dh (by decide))) ev) rfl (hK _ ⟨g2,rfl,c0,c1⟩)
     rintro ds ⟨h,rfl,h0,h1⟩;refine qb8 (λ ds=>∃ h,ds=[b,caseD n wr [],.unk,.int n,.int way,.lst false [.int g1,.int g2],.lst false (ksD ks),.int (i:Nat),.int h,d9,.unk]/\0<=h/\h < n) (λ K hK=>?_) ?_
     . refine Fe (decide (way=3)&&decide (0 < h % 3)) (λ Q q=>qd7 (decide (way=3)) (decide (0 < h % 3)) (λ Q q=>qc6 rfl q) (λ _ Q q=>qc6 (f2_of (f2_of (x:=.int h) (y:=.int 3) rfl rfl (Dh (by decide))) rfl rfl) q) q) (λ _=>?_) λ _=>hK _ ⟨h,rfl,h0,h1⟩
       exact qn5 (d:=.int g1) rfl rfl (hK _ ⟨g1,rfl,a0,a1⟩)
     rintro ds ⟨h,rfl,h0,h1⟩;refine qb8 (λ ds=>∃ b kk,ds=[b,caseD n wr [],.unk,.int n,.int way,.lst false [.int g1,.int g2],.lst false (ksD ks),.int (i:Nat),.int h,.int kk,.unk]/\isBag ns b/\qu3 kk) (λ K hK=>?_) ?_
     . exact qaG9 (x:=b) (y:=.int n) (w:=.int h) (qd4 rfl B.known) rfl rfl rfl (qd4 rfl B.known) ⟨b,n,h,ns,rfl,B,n1,n2,h0,h1,λ kk b' l B'=>hK _ ⟨b',kk,rfl,B',l⟩⟩
     rintro ds ⟨b,kk,rfl,B,l⟩;refine if_v (b:=!decide (kk∈ks)) (f2_of rfl rfl qag3) (λ hb=>?_) λ hb=>?_
     . have hm:¬ kk∈ks:=λ z=>by rw[zAe z] at hb;cases hb
       refine qaH2 (ys:=ksD ks) (d:=.int kk) rfl rfl rfl (by decide) (by rw[qj0];unfold big;lia) ?_;rw[qL8];refine hK2 _ ⟨b,ks++[kk],_,_,_,rfl,B,zBn.mpr ⟨nd,(by simp),λ x hx y hy e=>hm (by rw[<- zAm.mp hy,<- e];exact hx)⟩,λ x hx=>?_,by rw[zA8];exact Nat.add_le_add_right hlen 1,λ _=>by simp⟩;rcases zAh.mp hx with h | h
       . exact lk x h
       rw[zAm.mp h];exact l
     have hm:kk∈ks:=by
       by_cases z:kk∈ks
       . exact z
       rw[zB3 z] at hb;cases hb
     exact hK2 _ ⟨b,ks,_,_,_,rfl,B,nd,lk,by lia,λ _ e=>by rw[e] at hm;simp at hm⟩
   rintro ds ⟨b,ks,d7,d8,d9,rfl,h⟩;rw[zB6,qL7] at h;exact hK _ ⟨b,ks,d7,d8,d9,rfl,h⟩
 rintro ds ⟨b,ks,d7,d8,d9,rfl,B,nd,lk,hlen,hne⟩;refine qb8 (λ ds=>∃ b told,ds=[b,caseD n wr [],.unk,.int n,.int way,.lst false [.int g1,.int g2],.lst false (ksD ks),d7,d8,d9,.int told]/\isBag ns b/\0<=told/\told < 10) (λ K hK=>?_) ?_
 . exact qe2 rfl B rfl (by decide) (by decide) λ v b' v0 v1 B'=>hK _ ⟨b',v,rfl,B',v0,v1⟩
 rintro ds ⟨b,told,rfl,B,t0,t1⟩;obtain⟨v,hv,ev⟩:=qF6 (xs:=[D.int 0,.int 0,.int 0,.int 0,.int 1,.int 1,.int 2,.int 3,.int 3,.int 12]) t0 t1;obtain⟨j,rfl,j0,j1⟩:∃ j:Int,v=.int j/\0<=j/\j<=12:=by
   simp only[zAi,zBd,or_false] at hv;rcases hv with rfl | rfl | rfl | rfl | rfl | rfl | rfl | rfl | rfl | rfl
   all_goals exact⟨_,rfl,by decide,by decide⟩
 have hlj:(ks.take j.toNat).length<=12:=by rw[zBu];lia
 refine qb8 (λ ds=>∃ b ps d9,ds=[b,caseD n wr ps,.unk,.int n,.int way,.lst false [.int g1,.int g2],.lst false (ksD ks),d7,d8,d9,.int told]/\isBag ns b/\ps.map (·.1)=ks.take j.toNat/\∀ q∈ps,qu3 q.2) (λ K hK=>?_) ?_
 . refine qa0 (a:=D.lst false (ksD (ks.take j.toNat))) ?_ (qa0 (a:=ksD (ks.take j.toNat)) rfl ⟨ql5 _,?_⟩)
   . show (((f2 gIx (Ay gLst _) (rdN 10) [b,caseD n wr [],.unk,.int n,.int way,.lst false [.int g1,.int g2],.lst false (ksD ks),d7,d8,d9,.int told]).bind λ d=>d.asI.map some).bind λ h=>gSl (.lst false (ksD ks)) none h)=_
     rw[f2_of (x:=.lst false [D.int 0,.int 0,.int 0,.int 0,.int 1,.int 1,.int 2,.int 3,.int 3,.int 12]) (y:=.int told) rfl rfl ev];exact qaX8 j0
   refine qe5 (λ i ds=>∃ b ps d9,ds=[b,caseD n wr ps,.unk,.int n,.int way,.lst false [.int g1,.int g2],.lst false (ksD ks),d7,d8,d9,.int told]/\isBag ns b/\ps.map (·.1)=(ks.take j.toNat).take i/\∀ q∈ps,qu3 q.2) _ 0 _ ⟨b,[],d9,rfl,B,rfl,λ _ h=>by simp at h⟩ ?_ ?_
   . rintro i x hx ds ⟨b,ps,d9,rfl,B,hps,hq2⟩ K2 hK2
     rw[zB6] at hps hK2;obtain⟨key,hkey,rfl⟩:=qaq5 hx;have hpl:ps.length<=12:=by
       have q2:=congrArg List.length hps;rw[zAc,zBu] at q2;lia
     refine qu8 (qi3 ?_);refine qL3 (i:=1) (p:=[2]) (ys:=prD ps) (d0:=caseD n wr ps) rfl rfl rfl ?_;refine qau2 (qb9 (y:=.int key) rfl rfl (qd8 ?_));refine qb6 (x:=b) (qd4 rfl B.known) (qb6 (x:=.int n) rfl (qT8 (m:=n) rfl B rfl (by decide) (by lia) (by lia) λ h b1 h0 h1 B1=>?_));refine qb7 ?_;refine qa0 (a:=D.int n) rfl ?_;refine qa0 (a:=b1) (qd4 rfl B1.known) ⟨b1,n,h,ns,rfl,B1,n1,n2,h0,h1,λ kk b2 l B2=>?_⟩;refine⟨by show 2<=1000000;decide,qa0 (a:=(prD ps++[D.tup [D.int key,D.int kk]],D.non)) (if_pos (by unfold prD;rw[zAc];unfold big;lia)) ?_⟩;have e:prD ps++[.tup [.int key,.int kk]]=prD (ps++[(key,kk)]):=by unfold prD;rw[zBh];rfl
     rw[e];refine hK2 _ ⟨b2,ps++[(key,kk)],_,rfl,B2,?_,?_⟩
     . rw[zBh,hps,List.take_add_one,hkey]
       rfl
     intro q hq;rcases zAh.mp hq with hq | hq
     . exact hq2 q hq
     rw[zAm.mp hq];exact l
   rintro ds ⟨b,ps,d9,rfl,B,hps,hq2⟩;rw[zB6,qj0,zC3] at hps;exact hK _ ⟨b,ps,d9,rfl,B,hps,hq2⟩
 rintro ds ⟨b,ps,d9,rfl,B,hps,hq2⟩;have hpl:ps.length<=12:=by
   have q2:=congrArg List.length hps;rw[zAc] at q2;lia
 have hnd:(ps.map (·.1)).Nodup:=by
   rw[hps];exact nd.sublist (List.take_sublist _ _)
 have h3:0<=told % 3:=zBr told (by decide);have h4:told % 3 < 3:=zBo told (by decide);refine qb8 (λ ds=>∃ b ps d7,ds=[b,caseD n wr ps,.unk,.int n,.int way,.lst false [.int g1,.int g2],.lst false (ksD ks),d7,d8,d9,.int told]/\isBag ns b/\Drawn ks ps) (λ K hK=>?_) ?_
 . refine qI9 (n:=told % 3) (f2_of rfl rfl (Dh (by decide))) (qC8 (by lia) (by lia)) ?_
   refine qe5 (λ i ds=>∃ b ps d7,ds=[b,caseD n wr ps,.unk,.int n,.int way,.lst false [.int g1,.int g2],.lst false (ksD ks),d7,d8,d9,.int told]/\isBag ns b/\ps.length<=12+i/\(ps.map (·.1)).Nodup/\(∀ q∈ps,qu3 q.2)/\(∀ q∈ps,q.1∈ks∨(300000000000000000<=q.1/\q.1 < 300000000000000000+64 * (i:Int)+told))) _ 0 _ ⟨b,ps,d7,rfl,B,by lia,hnd,hq2,λ q hq=>.inl ?_⟩ ?_ ?_
   . have:q.1∈ps.map (·.1):=zB1.mpr ⟨q,hq,rfl⟩
     rw[hps] at this;exact List.mem_of_mem_take this
   . rintro i x hx ds ⟨b,ps,d7,rfl,B,hlen9,hnd9,hq9,hk9⟩ K2 hK2
     rw[zB6] at hlen9 hk9 hK2;obtain⟨hi,rfl⟩:=qH1 hx;refine qu8 (qi3 ?_);refine qL3 (i:=1) (p:=[2]) (ys:=prD ps) (d0:=caseD n wr ps) rfl rfl rfl ?_;refine qf0 (y:=.int 0) rfl (qau2 (qf0 (y:=.int (3 * 100000000000000000+64 * (i:Int)+told)) (f2_of (x:=.int (3 * 100000000000000000+64 * (i:Int))) (f2_of (f2_of (x:=.int 3) rfl rfl (Hx (by decide))) (f2_of (x:=.int 64) rfl rfl (Hx (by decide))) rfl) rfl rfl) (qd8 ?_)));refine qb6 (x:=b) (qd4 rfl B.known) (qb6 (x:=.int n) rfl (qf0 (y:=.int 0) rfl ?_));refine qb7 ?_;refine qa0 (a:=D.int n) rfl ?_;refine qa0 (a:=b) (qd4 rfl B.known) ⟨b,n,0,ns,rfl,B,n1,n2,by decide,by lia,λ kk b2 l B2=>?_⟩;refine⟨by show 2<=1000000;decide,qa0 (a:=(D.tup [D.int (3 * 100000000000000000+64 * (i:Int)+told),D.int kk]::prD ps,D.non)) (if_pos ⟨by decide,by decide,by unfold prD;rw[zAc];unfold big;lia⟩) ?_⟩;have hnew:¬ (3 * 100000000000000000+64 * (i:Int)+told)∈ps.map (·.1):=λ z=>by
       obtain⟨q,hq,e⟩:=zB1.mp z;rcases hk9 q hq with hh | hh
       . have:=lk _ hh
         rw[e] at this;rcases this with w | w<;>lia
       lia
     refine hK2 _ ⟨b2,(3 * 100000000000000000+64 * (i:Int)+told,kk)::ps,_,rfl,B2,by rw[zAo];lia,by rw[zB0];exact zBy.mpr ⟨hnew,hnd9⟩,?_,?_⟩
     . intro q hq
       rcases zAi.mp hq with rfl | hq
       . exact l
       exact hq9 q hq
     intro q hq;rcases zAi.mp hq with rfl | hq
     . refine .inr ⟨?_,?_⟩
       . show 300000000000000000<=3 * 100000000000000000+64 * (i:Int)+told
         lia
       show 3 * 100000000000000000+64 * (i:Int)+told < 300000000000000000+64 * ((i+1:Nat):Int)+told;lia
     rcases hk9 q hq with z | z
     . exact .inl z
     exact .inr ⟨z.1,by lia⟩
   rintro ds ⟨b,ps,d7,rfl,B,hlen9,hnd9,hq9,hk9⟩;rw[zB6,qL7] at hlen9 hk9;refine hK _ ⟨b,ps,d7,rfl,B,by lia,hnd9,λ q hq=>?_,hq9⟩;rcases hk9 q hq with z | z
   . exact .inl z
   exact .inr ⟨z.1,by lia⟩
 rintro ds ⟨b,ps,d7,rfl,B,Dr⟩;exact q b ks ps B nd lk (by lia) (λ h=>hne (by lia)) Dr
theorem qaA4:qa9 ["_law_case_here", "_law_key_here"] ["_law_case_here", "_law_key_here"] (qa3 qae4):=by walk_at "s"
def qaA0:VSp:=Av λ ds d=>∃ n wr ps k,ds=[caseD n wr ps,.int k]/\1<=n/\(ps.map (·.1)).Nodup/\d=.int (qd2 n ps k)
theorem qR1(T:Txt K mg a):VFn P w K mg base 1 a.f43 a.d43 ["_law_case_here", "_law_key_here"] qaA0:=by
 refine VFn.mk2 T.d43.F qaA4 (wOf [true,true]) qb3 (λ ds Q xe h=>by obtain⟨d,⟨n,wr,ps,k,e,_⟩,_⟩:=h;rw[e];exact⟨rfl,rfl⟩) (λ cdv A outer sh H E av hr=>⟨_,(Ad (Ap (qa5 (v2 (Al qk9) qk6 (vget (hu_of hr) (E6 (qN0 rfl) qay3.ops T.Ct (qa2 (v2 (An qb0) Ag (vnm 0) Ac) qa6 rfl)) (vnm 1) (vnm 1) ⟨rfl,rfl,rfl,rfl⟩) (v2 (An qb0) Ag (vnm 0) Ac))))),λ ds Q xe h=>?_⟩);obtain⟨d,⟨n,wr,ps,k,rfl,n1,nd,rfl⟩,q⟩:=h;have ed:Ay (fx1 G7) (Au (f2 gIx (rdN 0) (kC (.int 2))) λ _=>some []) [caseD n wr ps,.int k]=some (.dct false (kvD ps)):=by
   show G7 (.lst false (prD ps))=_;exact qay2 nd
 exact qd1 _ (f2_of (qaj8 ed rfl) (y:=.int n) rfl (Dh (by lia))) q
theorem qau7:qa9 ["_law_case_here", "_law_key_here", "_law_room", "_law_way"] ["_law_case_here", "_law_key_here", "_law_room"] (qa3 qaA7):=by walk_at "s"
def qaI8:VSp:=Av λ ds d=>∃ n wr ps k r,ds=[caseD n wr ps,.int k,.int r]/\1<=n/\(ps.map (·.1)).Nodup/\d=Ej (Aw n wr ps k r)
theorem qU9(T:Txt K mg a):VFn P w K mg base 2 a.f44 a.d44 ["_law_case_here", "_law_key_here", "_law_room"] qaI8:=by
 refine VFn.mk2 T.d44.F qau7 (wOf [true,true,true]) qb3 (λ ds Q xe h=>by obtain⟨d,⟨n,wr,ps,k,r,e,_⟩,_⟩:=h;rw[e];exact⟨rfl,rfl⟩) (λ cdv A outer sh H E av hr=>⟨_,(Ab (Ah 3 qau7.nd (e2n 2 (Al qt6) qt3 (Ae T.d43 (qR1 T) qa1 (rm hr) (vaN 0 (vaN 1 Aa)))))
     (Ab (sif (tv (v2 (An qb0) Ag (vnm 0) Ac))
     (Ad (Ap (qa5 (v2 (Al qk9) qk6 (vnm 3) (v2 (An qb0) Ag (vnm 0) Ac)))))
     Aq)
     (Ad (Ap (qa5 (v2 (An qb0) Ag (Bk (qa2 (vnm 3) (qa2 A6 qa6 rfl) rfl)) (E6 qat6 qaX9.ops T.Cs (qa2 (v2 (A4 D8 (qa8 _)) Et (vnm 3) Ac) qa6 rfl)))))))),λ ds Q xe h=>?_⟩)
 obtain⟨d,⟨n,wr,ps,k,r,rfl,n1,nd,rfl⟩,q⟩:=h;refine As [caseD n wr ps,.int k,.int r,.unk] rfl ?_;refine qb1 [caseD n wr ps,.int k,.int r,.int (r - qd2 n ps k)] (λ K hK=>⟨rfl,qL6 (x:=caseD n wr ps) (y:=.int k) (d:=.int (qd2 n ps k)) rfl rfl rfl ⟨n,wr,ps,k,rfl,n1,nd,rfl⟩ rfl (qa0 (a:=D.int (r - qd2 n ps k)) rfl hK)⟩) ?_;unfold Aw at q;refine qg0 wr rfl (λ h=>?_) (λ h=>?_)
 . subst h
   exact qd1 (.int ((r - qd2 n ps k) % n)) (f2_of rfl (y:=.int n) rfl (Dh (by lia))) q
 subst h;rw[if_neg (by decide)] at q;by_cases h0:0<=r - qd2 n ps k
 . rw[if_pos h0] at q
   refine qd1 (.int (r - qd2 n ps k)) (f2_of (x:=.lst false [.int (r - qd2 n ps k),.non]) (y:=.int 0) rfl ?_ rfl) q;show some (D.int (if decide (r - qd2 n ps k < 0)=true then 1 else 0))=_;rw[if_neg (by simpa using h0)]
 rw[if_neg h0] at q;refine qd1 .non (f2_of (x:=.lst false [.int (r - qd2 n ps k),.non]) (y:=.int 1) rfl ?_ rfl) q;show some (D.int (if decide (r - qd2 n ps k < 0)=true then 1 else 0))=_;rw[if_pos (zAe (by lia))]
theorem qG4:qa9 ["_law_case_here", "_law_room", "_law_one", "_law_other", "_law_mine", "_law_others"] ["_law_case_here", "_law_room", "_law_one", "_law_other"] (qa3 qQ3):=by walk_at "s"
def qao3:VSp:=Av λ ds d=>∃ n wr ps r x y,ds=[caseD n wr ps,.int r,.int x,.int y]/\1<=n/\(ps.map (·.1)).Nodup/\d=.bl (qf3 n wr ps r x y)
theorem qap6(T:Txt K mg a):VFn P w K mg base 3 a.f45 a.d45 ["_law_case_here", "_law_room", "_law_one", "_law_other"] qao3:=by
 refine VFn.mk2 T.d45.F qG4 (wOf [true,true,true,true]) qb3 (λ ds Q xe h=>by obtain⟨d,⟨n,wr,ps,r,x,y,e,_⟩,_⟩:=h;rw[e];exact⟨rfl,rfl⟩) (λ cdv A outer sh H E av hr=>⟨_,(Ab (Ah 4 qG4.nd (Ae T.d44 (qU9 T) qa1 (rm hr) (vaN 0 (vaN 2 (vaN 1 Aa)))))
     (Ab (Ah 5 qG4.nd (Ae T.d44 (qU9 T) qa1 (rm hr) (vaN 0 (vaN 3 (vaN 1 Aa)))))
     (Ab (sif (tor (q2 (Aj Db (qa8 _)) Di (vnm 4) A6) (Ix (q2 (Aj Db (qa8 _)) Di (vnm 5) A6))).te
     (Ad (Ap (qa5 (v2 (A4 qj5 (qa8 _)) qn1 (vnm 4) A6))))
     Aq)
     (Ad (Ap (qa5 (vor (v2 (A4 By (qa8 _)) Da (vnm 4) (vnm 5)) (Hq (vand (v2 (A4 (qf5 hr.u64) (qa8 _)) A9 (vnm 4) (vnm 5)) (Hq (v2 (A4 D8 (qa8 _)) Et (vnm 2) (vnm 3)))))))))))),λ ds Q xe h=>?_⟩)
 obtain⟨d,⟨n,wr,ps,r,x,y,rfl,n1,nd,rfl⟩,q⟩:=h;refine As [caseD n wr ps,.int r,.int x,.int y,.unk,.unk] rfl ?_;refine qb1 [caseD n wr ps,.int r,.int x,.int y,Ej (Aw n wr ps x r),.unk] (λ K hK=>qL5 (x:=caseD n wr ps) (y:=.int x) (w:=.int r) rfl rfl rfl rfl rfl ⟨n,wr,ps,x,r,rfl,n1,nd,rfl⟩ rfl hK) ?_;refine qb1 [caseD n wr ps,.int r,.int x,.int y,Ej (Aw n wr ps x r),Ej (Aw n wr ps y r)] (λ K hK=>qL5 (x:=caseD n wr ps) (y:=.int y) (w:=.int r) rfl rfl rfl rfl rfl ⟨n,wr,ps,y,r,rfl,n1,nd,rfl⟩ rfl hK) ?_;unfold qf3 at q;cases ex:Aw n wr ps x r with
 | none =>
   rw[ex] at q;exact qe8 true (λ Q q=>q) (λ _=>q) λ h=>nomatch h
 | some f =>
   rw[ex] at q;cases ey:Aw n wr ps y r with
   | none =>
     rw[ey] at q;exact qe8 true (λ Q q=>q) (λ _=>q) λ h=>nomatch h
   | some g =>
     rw[ey] at q;refine qe8 false (λ Q q=>q) (λ h=>nomatch h) λ _=>?_
     exact qd1 _ (qaP5 (a:=decide (g < f)) rfl (qak4 (a:=decide (f=g)) (b:=decide (x < y)) rfl rfl)) q
theorem qD9:qa9 ["_law_case_here", "_law_rooms", "_law_key_here", "_law_room", "_law_step"] ["_law_case_here", "_law_rooms", "_law_key_here"] (qa3 qaA5):=by walk_at "s"
def qaI6:VSp:=λ ds Q _=>∃ n wr ps g S key,ds=[caseD n wr ps,.lst false (rlD n.toNat g),.int key]/\1<=n/\n<=64/\(ps.map (·.1)).Nodup/\Kept n.toNat wr (hmOf n ps) g S/\¬ key∈S /\
 (∀ g',Kept n.toNat wr (hmOf n ps) g' (S++[key])->Q (.bl true) [caseD n wr ps,.lst false (rlD n.toNat g'),.int key]) /\
 ((∀ e,¬ Gd n.toNat wr (hmOf n ps) g key e)->∀ g',Q (.bl false) [caseD n wr ps,.lst false (rlD n.toNat g'),.int key])
theorem qaw7(T:Txt K mg a):VFn P w K mg base 4 a.f46 a.d46 ["_law_case_here", "_law_rooms", "_law_key_here"] qaI6:=by
 refine VFn.mk2 T.d46.F qD9 (wOf [true,true,false]) (λ ds Q Q' xe xe' hQ _ h=>by obtain⟨n,wr,ps,g,S,key,e,h1,h2,h3,h4,h5,q,q'⟩:=h;exact⟨n,wr,ps,g,S,key,e,h1,h2,h3,h4,h5,λ g' K=>hQ _ _ (q g' K),λ nf g'=>hQ _ _ (q' nf g')⟩) (λ ds Q xe h=>by obtain⟨n,wr,ps,g,S,key,e,_⟩:=h;rw[e];exact⟨rfl,rfl⟩) (λ cdv A outer sh H E av hr=>⟨_,(Ab (Ah 3 qD9.nd (Ae T.d43 (qR1 T) qa1 (rm hr) (vaN 0 (vaN 2 Aa))))
     (Ab (qK3 PassesOwn.leaving T.Cc (Dk (vaV (qb5 (v2 (An qb0) Ag (vnm 0) Ac)) Aa)) (Ba 4 qD9.nd)
     (Ab (sif (q2 (Aj Db (qa8 _)) Di (v2 (An qb0) Ag (vnm 1) (vnm 3)) A6)
     (Ab (Er (qb5 (vnm 2)) (Dm (vpn 1) (vnm 3)))
     (Ad (Ap (qa5 vbl))))
     Aq)
     (Ab (sif (te (Ae T.d45 (qap6 T) qa1 (rm hr) (vaN 0 (vaN 3 (vaN 2 (vaV (qb5 (v2 (An qb0) Ag (vnm 1) (vnm 3))) Aa))))))
     (Ad (Er (qa5 (Ep (qa2 (vnm 2) (qa2 (v2 (An qb0) Ag (vnm 1) (vnm 3)) qa6 rfl) rfl))) (Eg (n:=2) rfl (ql7 (Dm (vpn 1) (vnm 3)) (ql7 (Ba 2 qD9.nd) Ef)))))
     Aq)
     (Ab (Ah 3 qD9.nd (qa5 (v2 (Al qk8) qk7 (vnm 3) Ac)))
     (Ab (sif (Eb (q2 (Aj (qf5 hr.u64) (qa8 _)) A9 (vnm 3) (v2 (An qb0) Ag (vnm 0) Ac)) (Dc (Bp (tv (v2 (An qb0) Ag (vnm 0) Ac))))).te
     (Ad (Ap (qa5 vbl)))
     Aq)
     (Ad (Ah 3 qD9.nd (qa5 (v2 (Al qk9) qk6 (vnm 3) (v2 (An qb0) Ag (vnm 0) Ac))))))))))
     (Ad (Ap (qa5 vbl))))),λ ds Q xe h=>?_⟩)
 obtain⟨n,wr,ps,g,S,key,rfl,n1,n2,nd,KP,nin,kT,kF⟩:=h;have hh:=Bz (ps:=ps) n1 key;have hnd:(S++[key]).Nodup:=zBn.mpr ⟨KP.h.1,(by simp),λ x hx y hy e=>nin (by rw[<- zAm.mp hy,<- e];exact hx)⟩;refine As [caseD n wr ps,.lst false (rlD n.toNat g),.int key,.unk,.unk] rfl ?_;refine qb1 [caseD n wr ps,.lst false (rlD n.toNat g),.int key,.int (hmOf n ps key:Nat),.unk] (λ K hK=>qL6 (x:=caseD n wr ps) (y:=.int key) (d:=.int (hmOf n ps key:Nat)) rfl rfl rfl ⟨n,wr,ps,key,rfl,n1,nd,by rw[qF2 n1]⟩ rfl hK) ?_;by_cases hF:∃ e,Gd n.toNat wr (hmOf n ps) g key e
 . obtain⟨e,Fr⟩:=hF
   refine qb8 (λ _=>False) (λ K hK=>?_) λ _ h=>h.elim
   refine qI8 (n:=n) rfl (qC8 (by lia) (by lia)) ?_;have hd0:dist n.toNat (hmOf n ps key) (hmOf n ps key)=0:=(qb4 hh hh).mpr rfl;refine qe5 (λ i ds=>∃ g2 c r d4,ds=[caseD n wr ps,.lst false (rlD n.toNat g2),.int c,.int (r:Nat),d4]/\Row.Walk n.toNat wr (hmOf n ps) (S++[key]) key e g2 c r/\dist n.toNat (hmOf n ps key) r=i) _ 0 _ ⟨g,key,hmOf n ps key,_,rfl,KP.start nin Fr,hd0⟩ ?_ ?_
   . rintro i x hx ds ⟨g2,c,r,d4,rfl,W,hd⟩ K2 hK2
     rw[zB6] at hd hK2;obtain⟨hi,rfl⟩:=qH1 hx;have hr:=W.hr;refine qu8 (As [caseD n wr ps,.lst false (rlD n.toNat g2),.int c,.int (r:Nat),.int (i:Nat)] rfl ?_);cases hg:g2 r with
     | none =>
       refine qg0 true (f2_of (f2_of rfl rfl (Bf hr)) rfl (by rw[hg];rfl)) (λ _=>?_) λ h=>nomatch h
       refine qb1 [caseD n wr ps,.lst false (rlD n.toNat (Row.set g2 r c)),.int c,.int (r:Nat),.int (i:Nat)] (λ K hK=>?_) ?_
       . refine qJ4 (d:=.int c) (ys:=rlD n.toNat g2) rfl rfl rfl rfl (qL9 hr) ?_
         rw[qr9];exact hK
       exact kT _ (W.done hnd hg)
     | some y =>
       refine qg0 false (f2_of (f2_of rfl rfl (Bf hr)) rfl (by rw[hg];rfl)) (λ h=>nomatch h) λ _=>?_
       have hx:wr=false->hmOf n ps c<=r:=λ h=>(W.ln h).2.1
       have hy:wr=false->hmOf n ps y<=r:=λ h=>(W.ln h).2.2 r y hr hg
       have lt:=W.lt hg;have nx:=W.nx hg;refine qb8 (λ ds=>∃ g3 c3,ds=[caseD n wr ps,.lst false (rlD n.toNat g3),.int c3,.int (r:Nat),.int (i:Nat)]/\Row.Walk n.toNat wr (hmOf n ps) (S++[key]) key e g3 c3 (Row.next n.toNat r)) (λ K hK=>?_) ?_
       . refine if_e (b:=qf3 n wr ps (r:Nat) c y) (λ Q xe q=>?_) (λ hb=>?_) (λ hb=>?_)
         . refine qb6 (x:=caseD n wr ps) rfl (qb6 (x:=.int (r:Nat)) rfl (qb6 (x:=.int c) rfl (qb9 (y:=.int y) (f2_of rfl rfl (by rw[Bf hr,hg];rfl)) rfl ?_)))
           refine qb7 ?_;refine qa0 (a:=D.int c) rfl ?_;refine qa0 (a:=D.int (r:Nat)) rfl ?_;exact(qa0 (a:=caseD n wr ps) rfl (qi9 (d:=.bl (qf3 n wr ps (r:Nat) c y)) ⟨n,wr,ps,(r:Nat),c,y,rfl,n1,nd,rfl⟩ q))
         . have ha:=(qr6 n1 hr hx hy).mp hb
           refine qau3 (x:=.int c) (y:=.int y) (ys:=rlD n.toNat g2) ?_ rfl rfl (qL9 hr) ?_
           . exact qT7 rfl (f2_of (x:=.lst false (rlD n.toNat g2)) (y:=.int (r:Nat)) rfl rfl (by rw[Bf hr,hg];rfl)) rfl rfl
           rw[qr9];exact hK _ ⟨_,y,rfl,W.swap hg ha⟩
         exact hK _ ⟨g2,c,rfl,W.on hg (λ h=>by rw[(qr6 n1 hr hx hy).mpr h] at hb;cases hb)⟩
       rintro ds ⟨g3,c3,rfl,W3⟩;refine qb1 [caseD n wr ps,.lst false (rlD n.toNat g3),.int c3,.int ((r:Int)+1),.int (i:Nat)] (λ K hK=>hK) ?_;have hno:((decide ((r:Int)+1=n))&&!wr)=false:=by
         cases wr with
         | true=>rw[Bool.not_true,zC7]
         | false =>
           have:=(W.ln rfl).1
           have d1:=dor n.toNat (hmOf n ps key) r;have d2:=dor n.toNat (hmOf n ps key) e
           have:=W.he
           rw[zB3 (by lia)];rfl
       refine qe8 _ (λ Q q=>qd7 (decide ((r:Int)+1=n)) (!wr) (λ Q q=>qc6 (f2_of rfl (y:=.int n) rfl rfl) q) (λ _ Q q=>qp3 (b:=wr) rfl q) q) (λ h=>by rw[hno] at h;cases h) λ _=>?_
       refine qK4 (d:=.int (Row.next n.toNat r:Nat)) (f2_of rfl (y:=.int n) rfl (by rw[Dh (by lia),qR3 n1 hr])) ?_;exact hK2 _ ⟨g3,c3,_,_,rfl,W3,by lia⟩
   rintro ds ⟨g2,c,r,d4,rfl,W,hd⟩
   have:=qf1 W.hr hh
   unfold Bm at hd;rw[zAc,zAq] at hd;lia
 have nF:∀ e,¬ Gd n.toNat wr (hmOf n ps) g key e:=λ e z=>hF ⟨e,z⟩
 have full:∀ e,e < n.toNat->(wr=false->hmOf n ps key<=e)->∃ x,g e=some x:=λ e he hl=>by
   cases h:g e with
   | some x=>exact⟨x,rfl⟩
   | none=>exact absurd ⟨he,h,hl⟩ (nF e)
 refine qb8 (λ ds=>∃ g2 c d3 d4,ds=[caseD n wr ps,.lst false (rlD n.toNat g2),.int c,d3,d4]) (λ K hK=>?_) ?_
 . refine qI8 (n:=n) rfl (qC8 (by lia) (by lia)) ?_
   refine qe5 (λ i ds=>∃ g2 c r d4,ds=[caseD n wr ps,.lst false (rlD n.toNat g2),.int c,.int (r:Nat),d4]/\r < n.toNat/\(wr=false->hmOf n ps key<=r)/\∀ e,e < n.toNat->(wr=false->hmOf n ps key<=e)->∃ x,g2 e=some x) _ 0 _ ⟨g,key,hmOf n ps key,_,rfl,hh,λ _=>zA3 _,full⟩ ?_ ?_
   . rintro i x hx ds ⟨g2,c,r,d4,rfl,hr,hl,full2⟩ K2 hK2
     obtain⟨hi,rfl⟩:=qH1 hx;refine qu8 (As [caseD n wr ps,.lst false (rlD n.toNat g2),.int c,.int (r:Nat),.int (i:Nat)] rfl ?_);obtain⟨y,hg⟩:=full2 r hr hl;refine qg0 false (f2_of (f2_of rfl rfl (Bf hr)) rfl (by rw[hg];rfl)) (λ h=>nomatch h) λ _=>?_
     refine qb8 (λ ds=>∃ g3 c3,ds=[caseD n wr ps,.lst false (rlD n.toNat g3),.int c3,.int (r:Nat),.int (i:Nat)]/\∀ e,e < n.toNat->(wr=false->hmOf n ps key<=e)->∃ x,g3 e=some x) (λ K hK=>?_) ?_
     . refine if_e (b:=qf3 n wr ps (r:Nat) c y) (λ Q xe q=>?_) (λ hb=>?_) (λ hb=>?_)
       . refine qb6 (x:=caseD n wr ps) rfl (qb6 (x:=.int (r:Nat)) rfl (qb6 (x:=.int c) rfl (qb9 (y:=.int y) (f2_of rfl rfl (by rw[Bf hr,hg];rfl)) rfl ?_)))
         refine qb7 ?_;refine qa0 (a:=D.int c) rfl ?_;refine qa0 (a:=D.int (r:Nat)) rfl ?_;exact(qa0 (a:=caseD n wr ps) rfl (qi9 (d:=.bl (qf3 n wr ps (r:Nat) c y)) ⟨n,wr,ps,(r:Nat),c,y,rfl,n1,nd,rfl⟩ q))
       . refine qau3 (x:=.int c) (y:=.int y) (ys:=rlD n.toNat g2) ?_ rfl rfl (qL9 hr) ?_
         . exact qT7 rfl (f2_of (x:=.lst false (rlD n.toNat g2)) (y:=.int (r:Nat)) rfl rfl (by rw[Bf hr,hg];rfl)) rfl rfl
         rw[qr9];refine hK _ ⟨_,y,rfl,λ e he hl=>?_⟩;by_cases z:e=r
         . rw[z,Row.qd0];exact⟨_,rfl⟩
         rw[Row.qg6 z];exact full2 e he hl
       exact hK _ ⟨g2,c,rfl,full2⟩
     rintro ds ⟨g3,c3,rfl,full3⟩;have nr:=nor n.toNat r;refine qb1 [caseD n wr ps,.lst false (rlD n.toNat g3),.int c3,.int ((r:Int)+1),.int (i:Nat)] (λ K hK=>hK) ?_;refine qe8 _ (λ Q q=>qd7 (decide ((r:Int)+1=n)) (!wr) (λ Q q=>qc6 (f2_of rfl (y:=.int n) rfl rfl) q) (λ _ Q q=>qp3 (b:=wr) rfl q) q) (λ h=>?_) λ h=>?_
     . exact kF nF g3
     refine qK4 (d:=.int (Row.next n.toNat r:Nat)) (f2_of rfl (y:=.int n) rfl (by rw[Dh (by lia),qR3 n1 hr])) ?_;refine hK2 _ ⟨g3,c3,_,_,rfl,Row.qj7 hr,λ z=>?_,full3⟩
     have:=hl z
     subst z;rw[Bool.not_false,zCa] at h
     have:=zB9 h
     lia
   rintro ds ⟨g2,c,r,d4,rfl,_⟩;exact hK _ ⟨g2,c,_,_,rfl⟩
 rintro ds ⟨g2,c,d3,d4,rfl⟩;exact kF nF g2
theorem qy5:qa9 ["_law_case_here", "_law_keys_here", "_law_rooms", "_law_key_here"] ["_law_case_here", "_law_keys_here"] (qa3 qG8):=by walk_at "s"
def qK0:VSp:=λ ds Q _=>∃ n wr ps z' ks,ds=[caseD n wr ps,.lst z' (ksD ks)]/\1<=n/\n<=64/\(ps.map (·.1)).Nodup/\ks.Nodup /\
 ((∀ q,¬ Crowd n.toNat wr (hmOf n ps) ks q)->∀ g,Kept n.toNat wr (hmOf n ps) g ks->Q (.lst false (rlD n.toNat g)) ds) /\
 ((∃ q,Crowd n.toNat wr (hmOf n ps) ks q)->Q .non ds)
theorem qq4(T:Txt K mg a):VFn P w K mg base 5 a.f47 a.d47 ["_law_case_here", "_law_keys_here"] qK0:=by
 refine VFn.mk2 T.d47.F qy5 (wOf [true,true]) (λ ds Q Q' xe xe' hQ _ h=>by obtain⟨n,wr,ps,z',ks,e,h1,h2,h3,h4,q,q'⟩:=h;exact⟨n,wr,ps,z',ks,e,h1,h2,h3,h4,λ c g K=>hQ _ _ (q c g K),λ c=>hQ _ _ (q' c)⟩) (λ ds Q xe h=>by obtain⟨n,wr,ps,z',ks,e,_⟩:=h;rw[e];exact⟨rfl,rfl⟩) (λ cdv A outer sh H E av hr=>⟨_,(Ab (Ah 2 qy5.nd (qa5 (v2 (Al qt5) qt4 (Bk (qa2 A6 qa6 rfl)) (v2 (An qb0) Ag (vnm 0) Ac))))
     (Ab (sforP PassesOwn.leaving (vpn 1) (Ba 3 qy5.nd)
     (Ad (sif (Bp (te (Ae T.d46 (qaw7 T) qa1 (rm hr) (vaN 0 (vaN 2 (vaN 3 Aa))))))
     (Ad (Ap (qa5 A6)))
     Aq)))
     (Ad (Ap (emv 2))))),λ ds Q xe h=>?_⟩)
 obtain⟨n,wr,ps,z',ks,rfl,n1,n2,nd,ndk,kT,kF⟩:=h;refine As [caseD n wr ps,.lst z' (ksD ks),.unk,.unk] rfl ?_;refine qb1 [caseD n wr ps,.lst z' (ksD ks),.lst false (rlD n.toNat λ _=>none),.unk] (λ K hK=>qa0 (f2_of rfl (y:=.int n) rfl (qR4 (by lia) n2)) hK) ?_;refine qb8 (λ ds=>∃ d g,ds=[caseD n wr ps,.lst z' (ksD ks),.lst false (rlD n.toNat g),d]/\Kept n.toNat wr (hmOf n ps) g ks) (λ K hK=>?_) ?_
 . refine qa0 (a:=(1,[])) rfl (qa0 (a:=D.lst z' (ksD ks)) rfl (qa0 (a:=ksD ks) rfl ⟨ql5 ks,λ w=>?_⟩))
   refine qe5 (λ i ds=>∃ d g,ds=[caseD n wr ps,.hole w,.lst false (rlD n.toNat g),d]/\Kept n.toNat wr (hmOf n ps) g (ks.take i)) _ 0 _ ⟨_,_,rfl,Kept.none (by lia) (Bz n1)⟩ ?_ ?_
   . rintro i y hy ds ⟨d,g,rfl,KP⟩ K2 hK2
     rw[zB6] at KP hK2;obtain⟨k,hi,rfl⟩:=qaq5 hy;refine qaG9 (x:=caseD n wr ps) (y:=.lst false (rlD n.toNat g)) (w:=.int k) rfl rfl rfl rfl rfl ⟨n,wr,ps,g,ks.take i,k,rfl,n1,n2,nd,KP,qA4 ndk hi,λ g' K'=>?_,λ nF g'=>?_⟩
     . refine hK2 _ ⟨_,g',rfl,?_⟩
       rw[qp4 hi];exact K'
     refine qa0 (a:=[caseD n wr ps,.hole w,.lst false (rlD n.toNat g'),.int k]) rfl (qa0 (a:=false) rfl ?_);refine qa0 (qam0 rfl) (kF ?_);obtain⟨q,c⟩:=KP.crowd nF;rw[<- qp4 hi] at c;exact⟨q,c.mono (List.take_sublist _ _)⟩
   rintro ds ⟨d,g,rfl,KP⟩;rw[zB6,qj0,zC3] at KP;exact qa0 (qam0 rfl) (hK _ ⟨d,g,rfl,KP⟩)
 rintro ds ⟨d,g,rfl,KP⟩;exact kT KP.no_crowd g KP
theorem qh0:qa9 ["_law_case_here", "_law_keys_here", "_law_found", "_law_rooms", "_law_key_here", "_law_after"] ["_law_case_here", "_law_keys_here"] (qa3 qz6):=by walk_at "s"
theorem qaN0{z:Bool}{g:Nat->Option Int}:Fp (.lst z (rlD N g))=some (.lst false (rlD N g)):=qm3 (qF1 N g)
def qZ6:VSp:=λ ds Q _=>∃ n wr ps z' ks,ds=[caseD n wr ps,.lst z' (ksD ks)]/\1<=n/\n<=64/\(ps.map (·.1)).Nodup/\ks.Nodup/\ks.length<=200 /\
 ∀ S g,S.Sublist ks->(ks≠[]->S≠[])->Kept n.toNat wr (hmOf n ps) g S->Q (.lst false (ksD S)) ds
theorem qE4(T:Txt K mg a):VFn P w K mg base 5 a.f48 a.d48 ["_law_case_here", "_law_keys_here"] qZ6:=by
 refine VFn.mk2 T.d48.F qh0 (wOf [true,true]) (λ ds Q Q' xe xe' hQ _ h=>by obtain⟨n,wr,ps,z',ks,e,h1,h2,h3,h4,h5,q⟩:=h;exact⟨n,wr,ps,z',ks,e,h1,h2,h3,h4,h5,λ S g a b c=>hQ _ _ (q S g a b c)⟩) (λ ds Q xe h=>by obtain⟨n,wr,ps,z',ks,e,_⟩:=h;rw[e];exact⟨rfl,rfl⟩) (λ cdv A outer sh H E av hr=>⟨_,(Ab (Ah 2 qh0.nd (qa5 (Bk qa6)))
     (Ab (Ah 3 qh0.nd (qa5 (v2 (Al qt5) qt4 (Bk (qa2 A6 qa6 rfl)) (v2 (An qb0) Ag (vnm 0) Ac))))
     (Ab (sforP PassesOwn.leaving (vpn 1) (Ba 4 qh0.nd)
     (Ab (Ah 5 qh0.nd (qa5 (E6 qd3 qv7.ops T.Cj (qa2 (vnm 3) qa6 rfl))))
     (Ad (sif (te (Ae T.d46 (qaw7 T) qa1 (rm hr) (vaN 0 (vaN 5 (vaN 4 Aa)))))
     (Ab (Ah 3 qh0.nd (emv 5))
     (Ad (Bh (Dy 2 qw6 PySem.F.plainAttrs_list PySem.F.slot_list_append PySem.F.type_list_append qd5 (vaN 4 Aa)))))
     Aq))))
     (Ad (Ap (emv 2)))))),λ ds Q xe h=>?_⟩)
 obtain⟨n,wr,ps,z',ks,rfl,n1,n2,nd,ndk,hlk,q⟩:=h;refine As [caseD n wr ps,.lst z' (ksD ks),.unk,.unk,.unk,.unk] rfl ?_;refine qb1 [caseD n wr ps,.lst z' (ksD ks),.lst false (ksD []),.unk,.unk,.unk] (λ K hK=>hK) ?_;refine qb1 [caseD n wr ps,.lst z' (ksD ks),.lst false (ksD []),.lst false (rlD n.toNat λ _=>none),.unk,.unk] (λ K hK=>qa0 (f2_of rfl (y:=.int n) rfl (qR4 (by lia) n2)) hK) ?_;refine qb8 (λ ds=>∃ S g d3 d4 d5,ds=[caseD n wr ps,.lst z' (ksD ks),.lst false (ksD S),d3,d4,d5]/\S.Sublist ks/\(ks≠[]->S≠[])/\Kept n.toNat wr (hmOf n ps) g S) (λ K hK=>?_) ?_
 . refine qa0 (a:=(1,[])) rfl (qa0 (a:=D.lst z' (ksD ks)) rfl (qa0 (a:=ksD ks) rfl ⟨ql5 ks,λ w=>?_⟩))
   refine qe5 (λ i ds=>∃ S g d4 d5,ds=[caseD n wr ps,.hole w,.lst false (ksD S),.lst false (rlD n.toNat g),d4,d5]/\S.Sublist (ks.take i)/\(1<=i->S≠[])/\Kept n.toNat wr (hmOf n ps) g S) _ 0 _ ⟨[],_,_,_,rfl,.slnil,λ h=>absurd h (by decide),Kept.none (by lia) (Bz n1)⟩ ?_ ?_
   . rintro i y hy ds ⟨S,g,d4,d5,rfl,hsub,hne,KP⟩ K2 hK2
     rw[zB6] at hsub hne hK2;obtain⟨k,hi,rfl⟩:=qaq5 hy;have nin:¬ k∈S:=λ z=>qA4 ndk hi (hsub.subset z)
     have hlen:S.length<=200:=zAp (hsub.trans (List.take_sublist _ _)).length_le hlk;refine qb1 [caseD n wr ps,.hole w,.lst false (ksD S),.lst false (rlD n.toNat g),.int k,.lst false (rlD n.toNat g)] (λ K hK=>qa0 (qaN0 (z:=false)) hK) ?_;refine qaG9 (x:=caseD n wr ps) (y:=.lst false (rlD n.toNat g)) (w:=.int k) rfl rfl rfl rfl rfl ⟨n,wr,ps,g,S,k,rfl,n1,n2,nd,KP,nin,λ g' K'=>?_,λ nF g'=>?_⟩
     . refine qa0 (a:=[caseD n wr ps,.hole w,.lst false (ksD S),.lst false (rlD n.toNat g),.int k,.lst false (rlD n.toNat g')]) rfl (qa0 (a:=true) rfl ?_)
       refine Dp rfl ?_;refine qb1 [caseD n wr ps,.hole w,.lst false (ksD S),.lst false (rlD n.toNat g'),.int k,.unk] (λ K hK=>hK) ?_;refine qaH2 (ys:=ksD S) (d:=.int k) rfl rfl rfl (by decide) (by rw[qj0];unfold big;lia) ?_;rw[qL8];refine hK2 _ ⟨S++[k],g',_,_,rfl,?_,λ _=>by simp,K'⟩;rw[qp4 hi];exact hsub.append (List.Sublist.refl _)
     refine qa0 (a:=[caseD n wr ps,.hole w,.lst false (ksD S),.lst false (rlD n.toNat g),.int k,.lst false (rlD n.toNat g')]) rfl (qa0 (a:=false) rfl ?_);refine Bs (by decide) (hK2 _ ⟨S,g,_,_,rfl,hsub.trans (by rw[qp4 hi];exact List.sublist_append_left _ _),λ _=>hne ?_,KP⟩);refine Nat.one_le_iff_ne_zero.mpr λ hi0=>?_
     subst hi0;have hS:S=[]:=List.sublist_nil.mp hsub;subst hS;refine nF (hmOf n ps k) ⟨Bz n1 k,?_,λ _=>zA3 _⟩;cases e:g (hmOf n ps k) with
     | none=>rfl
     | some z=>have:=(KP.h.2 z).mpr ⟨_,Bz n1 k,e⟩;simp at this
   rintro ds ⟨S,g,d4,d5,rfl,hsub,hne,KP⟩;rw[zB6,qj0] at hsub hne;rw[zC3] at hsub;exact qa0 (qam0 rfl) (hK _ ⟨S,g,_,d4,d5,rfl,hsub,λ h=>hne (zC1.mpr h),KP⟩)
 rintro ds ⟨S,g,d3,d4,d5,rfl,hsub,hne,KP⟩;exact q S g hsub hne KP
theorem qG3:qa9 ["_law_bag_here", "_law_most", "_law_way", "_law_rooms"] ["_law_bag_here", "_law_most"] (qa3 qae6):=by walk_at "s"
def qaA2:VSp:=λ ds Q _=>∃ b ns,ds=[b,.int 64]/\isBag ns b/\∀ b' n wr,isBag ns b'->1<=n->n<=64->Q (caseD n wr []) [b',.int 64]
theorem qaD1(T:Txt K mg a):VFn P w K mg base 2 a.f40 a.d40 ["_law_bag_here", "_law_most"] qaA2:=by
 refine VFn.mk' T.d40.F qG3 (wOf [true,true]) (λ ds Q Q' xe xe' hQ _ ⟨b,ns,e,h1,q⟩=>⟨b,ns,e,h1,λ b' n wr a1 a2 a3=>hQ _ _ (q b' n wr a1 a2 a3)⟩) (λ ds Q xe ⟨b,ns,e,_⟩=>by rw[e];rfl) (λ ds Q xe h=>by obtain⟨b,ns,e,⟨x,y,z,eb,_⟩,_⟩:=h;rw[e,eb];rfl) (λ cdv A outer sh H E av hr=>⟨_,(Ab (Ah 2 qG3.nd (Ae T.d39 (qc0 T) qa1 (rm hr) (vaN 0 (vaV (qa5 Ac) Aa))))
     (Ab (Ah 3 qG3.nd (qb5 (vnm 1)))
     (Ab (sif (q2 (Aj D8 (qa8 _)) Et (vnm 2) Ac)
     (Ad (Ah 3 qG3.nd (e2 (Al qk8) qk7 (qa5 Ac) (Ae T.d39 (qc0 T) qa1 (rm hr) (vaN 0 (vaV (qb5 (v2 (An qb0) Ag (Bk (qa2 Ac (qa2 Ac (qa2 (vnm 1) qa6 rfl) rfl) rfl)) (vnm 2))) Aa))))))
     Aq)
     (Ad (Ap (F5 (vaV (qb5 (vnm 3)) (vaV (e2v (A4 (qf5 hr.u64) (qa8 _)) A9 (Ae T.d39 (qc0 T) qa1 (rm hr) (vaN 0 (vaV (qa5 Ac) Aa))) Ac) (vaV (qa5 (Bk qa6)) Aa))))))))),λ ds Q xe h=>?_⟩)
 obtain⟨b,ns,rfl,B,k⟩:=h;refine As [b,.int 64,.unk,.unk] rfl ?_;refine qb8 (λ ds=>∃ b w,ds=[b,.int 64,.int w,.unk]/\isBag ns b/\0<=w/\w < 4) (λ K hK=>?_) ?_
 . exact qe2 rfl B rfl (by decide) (by decide) λ v b' v0 v1 B'=>hK _ ⟨b',v,rfl,B',v0,v1⟩
 rintro ds ⟨b,way,rfl,B,w0,w1⟩;refine qb1 [b,.int 64,.int way,.int 64] (λ K hK=>qn5 (d:=.int 64) rfl rfl hK) ?_;refine qb8 (λ ds=>∃ b n,ds=[b,.int 64,.int way,.int n]/\isBag ns b/\1<=n/\n<=64) (λ K hK=>?_) ?_
 . refine if_v (b:=decide (way < 3)) rfl (λ hb=>?_) λ _=>hK _ ⟨b,64,rfl,B,by decide,by decide⟩
   have hb:way < 3:=zAb hb;obtain⟨d,hd,ed⟩:=qF6 (xs:=[D.int 4,D.int 8,D.int 64]) (i:=way) w0 hb;obtain⟨m,rfl,m0,m1⟩:∃ m:Int,d=.int m/\1<=m/\m<=64:=by
     simp only[zAi,zBd,or_false] at hd;rcases hd with rfl | rfl | rfl
     . exact⟨_,rfl,by decide,by decide⟩
     . exact⟨_,rfl,by decide,by decide⟩
     exact⟨_,rfl,by decide,by decide⟩
   refine qe9 (qan8 (x:=.int 1) rfl ?_);refine qF8 (ds:=[b,.int 64,.int way,.int 64]) (m:=m) rfl B (f2_of rfl rfl ed) (by lia) (by lia) λ v b' v0 v1 B'=>?_
   exact qa0 (a:=D.int (1+v)) rfl (hK _ ⟨b',1+v,rfl,B',by lia,by lia⟩)
 rintro ds ⟨b,n,rfl,B,n1,n2⟩;refine qh5 (qw7 (qb9 (y:=.int n) rfl rfl (qd8 (qaz6 ?_))));refine qe2 (ds:=[b,.int 64,.int way,.int n]) rfl B rfl (by decide) (by decide) λ v b' v0 v1 B'=>?_
 refine qa0 (a:=D.bl (decide (v=1))) rfl ?_;refine qf0 (y:=.lst false []) rfl (qb7 ⟨by show 3<=1000000;decide,?_⟩);exact k b' n (decide (v=1)) B' n1 n2
theorem qx0:qa9 ["_law_bag_here", "_law_most", "_law_case_here", "_law_full", "_law_keys_here"] ["_law_bag_here", "_law_most"] (qa3 qQ2):=by walk_at "s"
def qao2:VSp:=λ ds Q _=>∃ b ns,ds=[b,.int 64]/\isBag ns b/\∀ b' n wr ps S g,isBag ns b'->1<=n->n<=64->(ps.map (·.1)).Nodup->Iq ps->Kept n.toNat wr (hmOf n ps) g S->(∀ k∈S,Ak k)->S≠[]->Q (.tup [caseD n wr ps,.lst false (ksD S)]) [b',.int 64]
theorem qap5(T:Txt K mg a):VFn P w K mg base 6 a.f49 a.d49 ["_law_bag_here", "_law_most"] qao2:=by
 refine VFn.mk2 T.d49.F qx0 (wOf [true,true]) (λ ds Q Q' xe xe' hQ _ ⟨b,ns,e,h1,q⟩=>⟨b,ns,e,h1,λ b' n wr ps S g a1 a2 a3 a4 a5 a6 a7 a8=>hQ _ _ (q b' n wr ps S g a1 a2 a3 a4 a5 a6 a7 a8)⟩) (λ ds Q xe ⟨b,ns,e,_⟩=>by rw[e];exact⟨rfl,rfl⟩) (λ cdv A outer sh H E av hr=>⟨_,(Ab (Ah 2 qx0.nd (Ae T.d40 (qaD1 T) qa1 (rm hr) (vaN 0 (vaN 1 Aa))))
     (Ab (Ah 3 qx0.nd (Ae T.d39 (qc0 T) qa1 (rm hr) (vaN 0 (vaV (qa5 Ac) Aa))))
     (Ab (Ah 4 qx0.nd (Ae T.d42 (qag1 T) qa1 (rm hr) (vaN 0 (vaN 2 (vaV (e2vP (An qb0) Ag (F5 (vaV (e2 (Al qk8) qk7 (qa5 Ac) (Ae T.d39 (qc0 T) qa1 (rm hr) (vaN 0 (vaV (qb5 (v2 (An qb0) Ag (vnm 2) Ac)) Aa)))) (vaV (qb5 (v2 (An qb0) Ag (vnm 2) Ac)) (vaV (qa5 (v2 (Al qk8) qk7 (v2 (An qb0) Ag (vnm 2) Ac) Ac)) Aa)))) (vnm 3)) Aa)))))
     (Ad (Ap (Gw (vaN 2 (vaV (Ae T.d48 (qE4 T) qa1 (rm hr) (vaN 2 (vaN 4 Aa))) Aa)))))))),λ ds Q xe h=>?_⟩)
 obtain⟨b,ns,rfl,B,q⟩:=h;refine As [b,.int 64,.unk,.unk,.unk] rfl ?_;refine qb8 (λ ds=>∃ b n wr,ds=[b,.int 64,caseD n wr [],.unk,.unk]/\isBag ns b/\1<=n/\n<=64) (λ K hK=>?_) ?_
 . exact qN1 (x:=b) (y:=.int 64) (qd4 rfl B.known) rfl (qd4 rfl B.known) ⟨b,ns,rfl,B,λ b' n wr B' n1 n2=>hK _ ⟨b',n,wr,rfl,B',n1,n2⟩⟩
 rintro ds ⟨b,n,wr,rfl,B,n1,n2⟩;refine qb8 (λ ds=>∃ b full,ds=[b,.int 64,caseD n wr [],.int full,.unk]/\isBag ns b/\0<=full/\full < 3) (λ K hK=>?_) ?_
 . exact qe2 rfl B rfl (by decide) (by decide) λ v b' v0 v1 B'=>hK _ ⟨b',v,rfl,B',v0,v1⟩
 rintro ds ⟨b,full,rfl,B,f0,f1⟩;refine qb8 (λ ds=>∃ b ks ps,ds=[b,.int 64,caseD n wr ps,.int full,.lst false (ksD ks)]/\isBag ns b/\ks.Nodup/\(∀ k∈ks,qu3 k)/\ks.length<=70/\ks≠[]/\Drawn ks ps) (λ K hK=>?_) ?_
 . refine qe9 (qe0 ?_)
   refine qb6 (x:=b) (qd4 rfl B.known) ?_;refine qb6 (x:=caseD n wr []) rfl ?_;refine qd8 (qad1 (qw7 (qd8 (qan8 (x:=.int 1) rfl ?_))));refine qF8 (ds:=[b,.int 64,caseD n wr [],.int full,.unk]) (m:=n) rfl B rfl (by lia) (by lia) λ v b1 a0 a1 B1=>?_
   refine qa0 (a:=D.int (1+v)) rfl ?_;refine qb9 (y:=.int n) rfl rfl (qf0 (y:=.int (n+6)) rfl (qb7 ⟨by show 3<=1000000;decide,?_⟩));refine qa0 (a:=D.int full) rfl ⟨rfl,?_⟩;obtain⟨d,hd,ed⟩:=qF6 (xs:=[D.int (1+v),D.int n,D.int (n+6)]) (i:=full) f0 f1;obtain⟨m,rfl,m0,m1⟩:∃ m:Int,d=.int m/\1<=m/\m<=70:=by
     simp only[zAi,zBd,or_false] at hd;rcases hd with rfl | rfl | rfl
     . exact⟨_,rfl,by lia,by lia⟩
     . exact⟨_,rfl,by lia,by lia⟩
     exact⟨_,rfl,by lia,by lia⟩
   refine qa0 (a:=D.int m) ed ?_;refine qb7 ?_;refine qa0 (a:=caseD n wr []) rfl ?_;refine qa0 (a:=b1) (qd4 rfl B1.known) ?_;refine⟨b1,n,wr,m,ns,rfl,B1,n1,by lia,by lia,by lia,λ b' ks ps B' nd lk hlen hne Dr=>?_⟩;exact hK _ ⟨b',ks,ps,rfl,B',nd,lk,by lia,hne (by lia),Dr⟩
 rintro ds ⟨b,ks,ps,rfl,B,nd,lk,hlen,hne,Dr⟩;refine qh5 (qac4 (qb6 (x:=caseD n wr ps) rfl (qd8 ?_)));refine qN1 (x:=caseD n wr ps) (y:=.lst false (ksD ks)) rfl rfl rfl ⟨n,wr,ps,false,ks,rfl,n1,n2,Dr.nd,nd,by lia,λ S g hs hne' KP=>?_⟩;refine qa0 (a:=[b,.int 64,caseD n wr ps,.int full,.lst false (ksD ks)]) rfl (qb7 ?_);refine qa0 (a:=caseD n wr ps) rfl ⟨by show 2<=1000000;decide,?_⟩;exact q b n wr ps S g B n1 n2 Dr.nd (Dr.good lk) KP (λ k hk=>(lk k (hs.subset hk)).num) (hne' hne)
theorem qq0:qa9 ["self", "key"] ["self", "key"] (qa3 qm0):=by walk_at "s"
def Ek:Option Int->V
 | some k=>.int k
 | none=>.non
theorem qR9(N:Nat)(g:Nat->Option Int):flats (rlD N g)=some ((List.range N).map λ i=>Ek (g i)):=by
 have:∀ l:List Nat,flats (l.map λ i=>De (g i))=some (l.map λ i=>Ek (g i)):=λ l=>by
   induction l with
   | nil=>rfl
   | cons a l ih =>
     show ((De (g a)).flat.bind λ v=>(flats (l.map λ i=>De (g i))).bind λ vs=>some (v::vs))=_;rw[ih,zB0];cases g a<;>rfl
 exact this _
def El(N:Nat)(g:Nat->Option Int)(k:Int):Option Nat:=(List.range N).findIdx? λ i=>decide (g i=some k)
def Bu(N:Nat)(g:Nat->Option Int)(k:Int):D:=match El N g k with
 | some i=>.int (i:Nat)
 | none=>.non
theorem qay1:eqV (Ek o) (.int k)=decide (o=some k):=by
 cases o with
 | none=>rfl
 | some a =>
   show decide (a=k)=_;exact zC4.mpr ⟨λ h=>by rw[h],λ h=>Option.some.inj h⟩
theorem qaj2{k:Int}{g:Nat->Option Int}:∀ l:List Nat,D5 (.int k) (l.map λ i=>Ek (g i))=l.findIdx? λ i=>decide (g i=some k)
 | []=>rfl
 | a::l=>by
   show (if eqV (Ek (g a)) (.int k)=true then some 0 else (D5 (.int k) (l.map λ i=>Ek (g i))).map (· + 1))=_;rw[qay1,qaj2 l,zC8]
theorem qaO3{k:Int}{g:Nat->Option Int}:∀ l:List Nat,inV (.int k) (l.map λ i=>Ek (g i))=(l.findIdx? λ i=>decide (g i=some k)).isSome
 | []=>rfl
 | a::l=>by
   have ih:=qaO3 (k:=k) (g:=g) l;unfold inV at ih ⊢;rw[zB0,zBl,ih,zC8];have e:=qay1 (o:=g a) (k:=k);cases h:decide (g a=some k) with
   | true=>rw[h] at e;simp[e]
   | false=>rw[h] at e;simp[e]
theorem qao6{g:Nat->Option Int}(h:∀ i,i < N->g i≠some k):Bu N g k=.non:=by
 have:El N g k=none:=List.findIdx?_eq_none_iff.mpr λ i hi=>zB3 (h i (zA9.mp hi))
 unfold Bu;rw[this]
theorem qH0{g:Nat->Option Int}(hi:i < N)(e:g i=some k):∃ j:Nat,Bu N g k=.int (j:Nat):=by
 unfold Bu;cases h:El N g k with
 | some j=>exact⟨j,rfl⟩
 | none =>
   have:=List.findIdx?_eq_none_iff.mp h i (zA9.mpr hi)
   rw[zAe e] at this;cases this
def qp7(C CP:Addr):VSp:=Av λ ds d=>∃ zr n wr ps g dn k,ds=[Af zr C CP n wr ps g dn,.int k]/\Ak k/\d=Bu n.toNat g k
theorem qg8(T:Txt K mg a):VFn P w K mg base 4 a.f27 a.d27 ["self", "key"] (qp7 a.C4 a.C3):=by
 refine VFn.mk2 T.d27.F qq0 (wOf [true,true]) qb3 (λ ds Q xe h=>by obtain⟨d,⟨zr,n,wr,ps,g,dn,k,e,_⟩,_⟩:=h;rw[e];exact⟨rfl,rfl⟩) (λ cdv A outer sh H E av hr=>⟨_,(Ab (sif (Bp (te (Ae T.d3 (qc3 T) qa1 (rm hr) (vaN 1 Aa))))
     (Ad qj9)
     Aq)
     (Ad (Ap (eif (q2 (Aj qq1 (by with_unfolding_all rfl)) Gh (vnm 1) (Be rfl (vnm 0) T.C6.cl T.C9)) (qa5 (vbm qaT5 PySem.F.plainAttrs_list PySem.F.slot_list_index PySem.F.type_list_index qag7 (Be rfl (vnm 0) T.C6.cl T.C9) (vnm 1) qaO6)) (qa5 A6))))),λ ds Q xe h=>?_⟩)
 obtain⟨d,⟨zr,n,wr,ps,g,dn,k,rfl,hk,rfl⟩,q⟩:=h;refine As [Af zr a.C4 a.C3 n wr ps g dn,.int k] rfl ?_;refine Fv (λ Q xe q=>qH4 (x:=.int k) (d:=.bl true) rfl (Ji hk) rfl q) (qh5 ?_);have hin:f2 (Iv false) (rdN 1) (f1 (D.fld a.C4 "held") (rdN 0)) [Af zr a.C4 a.C3 n wr ps g dn,.int k]=some (.bl (El n.toNat g k).isSome):=by
   refine f2_of (x:=.int k) (y:=.lst zr (rlD n.toNat g)) rfl (A5 rfl qx2) ?_;show ((flats (rlD n.toNat g)).bind λ ws=>some (D.bl (if false=true then !inV (.int k) ws else inV (.int k) ws)))=_;rw[qR9];show some (D.bl (inV (.int k) _))=_;rw[qaO3];rfl
 refine Fw hin (λ h=>?_) λ h=>?_
 . obtain⟨i,hi⟩:=zB8.mp h
   refine qq5 (d:=.int (i:Nat)) (f2_of (A5 rfl qx2) rfl ?_) ?_
   . show ((some (V.int k)).bind λ v=>(flats (rlD n.toNat g)).bind λ ws=>(D5 v ws).map λ j=>D.int (j:Nat))=_
     rw[qR9];show (D5 (.int k) _).map _=_;rw[qaj2];show (El n.toNat g k).map _=_;rw[hi];rfl
   unfold Bu at q;rw[hi] at q;exact q
 refine qq5 (d:=.non) rfl ?_;have hi:El n.toNat g k=none:=by cases e:El n.toNat g k with | none=>rfl | some i=>rw[e] at h;cases h
 unfold Bu at q;rw[hi] at q;exact q
theorem qj4:qa9 ["row", "best", "key", "far"] ["row"] (qa3 qy9):=by walk_at "s"
def A8(n:Int)(ps:Pr)(g:Nat->Option Int):Pr:=(List.range n.toNat).filterMap λ i=>(g i).map λ k=>(k,((dist n.toNat (hmOf n ps k) i:Nat):Int))
theorem en_rl(N:Nat)(g:Nat->Option Int):enD (rlD N g)=(List.range N).map λ i=>D.tup [.int (i:Nat),De (g i)]:=by
 apply List.ext_getElem?;intro i;by_cases h:i < N
 . unfold enD
   rw[zAv,List.getElem?_zipIdx,qA9 h,zAv,List.getElem?_range h];simp
 rw[zBw (by rw[qaE3,qo0];lia),zBw (by rw[zAc,zAq];lia)]
theorem qak2{α β:Type}{f g:α->Option β}:∀ l:List α,(∀ x∈l,f x=g x)->l.filterMap f=l.filterMap g
 | [],_=>rfl
 | a::l,h=>by rw[zBc,zBc,h a zA7,qak2 l λ x hx=>h x (zA6 _ hx)]
theorem qX0{n:Int}{wr:Bool}{ps:Pr}{g:Nat->Option Int}(n1:1<=n)(ln:wr=false->∀ i k,i < n.toNat->g i=some k->hmOf n ps k<=i):(enD (rlD n.toNat g)).filterMap (farE n wr ps)=prD (A8 n ps g):=by
 rw[en_rl,List.filterMap_map];unfold A8 prD;rw[List.map_filterMap];refine qak2 _ λ i hi=>?_
 have hi:=zA9.mp hi;show farE n wr ps (.tup [.int (i:Nat),De (g i)])=((g i).map λ k=>(k,((dist n.toNat (hmOf n ps k) i:Nat):Int))).map λ p=>D.tup [.int p.1,.int p.2]
 cases h:g i with
 | none=>rfl
 | some k =>
   show some (D.tup [.int k,Ej (Aw n wr ps k (i:Nat))])=_;rw[qr2 n1 hi λ hw=>ln hw i k hi h];rfl
theorem qB0{n:Int}{ps:Pr}{g:Nat->Option Int}{q:Int×Int}:q∈A8 n ps g↔∃ i,i < n.toNat/\g i=some q.1/\q.2=((dist n.toNat (hmOf n ps q.1) i:Nat):Int):=by
 unfold A8;rw[List.mem_filterMap];constructor
 . rintro⟨i,hi,e⟩
   obtain⟨k,hk,rfl⟩:=zAa.mp e;exact⟨i,zA9.mp hi,hk,rfl⟩
 rintro⟨i,hi,e1,e2⟩;refine⟨i,zA9.mpr hi,?_⟩;rw[e1];show some (q.1,_)=some q;rw[<- e2]
theorem qS1{n:Int}{ps:Pr}{g:Nat->Option Int}:(A8 n ps g).length<=n.toNat:=by
 have:=List.length_filterMap_le (λ i=>(g i).map λ k=>(k,((dist n.toNat (hmOf n ps k) i:Nat):Int))) (List.range n.toNat)
 rwa[zAq] at this
theorem qaB7{ps:Pr}(h:(prD ps)[i]? = some y):∃ q,ps[i]? = some q/\y=.tup [.int q.1,.int q.2]:=by
 unfold prD at h;rw[zAv] at h;cases e:ps[i]? with
 | none=>rw[e] at h;cases h
 | some q=>rw[e] at h;exact⟨q,rfl,(Option.some.inj h).symm⟩
theorem qaE1(ps:Pr):(prD ps).length=ps.length:=zAc _
def Gs(b:Option (Int×Int))(q:Int×Int):Option (Int×Int):=match b with
 | none=>some q
 | some p=>if p.2 < q.2 then some q else some p
def bst(l:Pr):Option (Int×Int):=l.foldl Gs none
theorem qaH0{l:Pr}{q:Int×Int}(h:l[i]? = some q):bst (l.take (i+1))=Gs (bst (l.take i)) q:=by
 unfold bst;rw[List.take_add_one,h,List.foldl_append];rfl
def Fg(N:Nat)(g:Nat->Option Int):Option (Int×Int)->D
 | none=>.non
 | some p=>.tup [.int p.2,.int p.1,Bu N g p.1]
theorem qaJ3{g:Nat->Option Int}(hi:i < N)(e:g i=some k)(inj:∀ j,j < N->g j=some k->j=i):Bu N g k=.int (i:Nat):=by
 have:El N g k=some i:=by
   refine List.findIdx?_eq_some_iff_getElem.mpr ⟨by rw[zAq];exact hi,?_,λ j hj=>?_⟩
   . rw[List.getElem_range];exact zAe e
   rw[List.getElem_range];intro z
   have:=inj j (by lia) (zAb z)
   lia
 unfold Bu;rw[this]
def E4(n:Int)(ps:Pr)(g:Nat->Option Int)(m:Nat):Pr:=(List.range m).filterMap λ i=>(g i).map λ k=>(k,((dist n.toNat (hmOf n ps k) i:Nat):Int))
theorem qal9{n:Int}{ps:Pr}{g:Nat->Option Int}:∀ m:Nat,(E4 n ps g m=[]/\∀ j,j < m->g j=none)∨∃ i k,i < m/\g i=some k/\bst (E4 n ps g m)=some (k,((dist n.toNat (hmOf n ps k) i:Nat):Int))/\(∀ j k',j < m->g j=some k'->dist n.toNat (hmOf n ps k') j<=dist n.toNat (hmOf n ps k) i)/\∀ j k',j < i->g j=some k'->dist n.toNat (hmOf n ps k') j < dist n.toNat (hmOf n ps k) i
 | 0=>.inl ⟨rfl,λ j hj=>absurd hj (Nat.not_lt_zero j)⟩
 | m+1=>by
   have ih:=qal9 (n:=n) (ps:=ps) (g:=g) m;have e:E4 n ps g (m+1)=E4 n ps g m++((g m).map λ k=>(k,((dist n.toNat (hmOf n ps k) m:Nat):Int))).toList:=by
     unfold E4;rw[List.range_succ,List.filterMap_append,zBc,List.filterMap_nil];cases g m<;>rfl
   cases h:g m with
   | none =>
     rw[h] at e;have e:E4 n ps g (m+1)=E4 n ps g m:=by rw[e];exact zAf _
     rw[e];rcases ih with⟨h1,h2⟩ | ⟨i,k,h1,h2,h3,h4,h5⟩
     . refine .inl ⟨h1,λ j hj=>?_⟩
       by_cases z:j=m
       . subst z;exact h
       exact h2 j (by lia)
     refine .inr ⟨i,k,by lia,h2,h3,λ j k' hj e'=>?_,h5⟩;by_cases z:j=m
     . subst z;rw[h] at e';cases e'
     exact h4 j k' (by lia) e'
   | some k =>
     rw[h] at e;have e:E4 n ps g (m+1)=E4 n ps g m++[(k,((dist n.toNat (hmOf n ps k) m:Nat):Int))]:=e;have eb:bst (E4 n ps g (m+1))=Gs (bst (E4 n ps g m)) (k,((dist n.toNat (hmOf n ps k) m:Nat):Int)):=by
       rw[e];unfold bst;rw[List.foldl_append];rfl
     rcases ih with⟨h1,h2⟩ | ⟨i,k0,h1,h2,h3,h4,h5⟩
     . refine .inr ⟨m,k,by lia,h,by rw[eb,h1];rfl,λ j k' hj e'=>?_,λ j k' hj e'=>?_⟩
       . by_cases z:j=m
         . subst z;rw[h] at e';cases e';exact zA3 _
         rw[h2 j (by lia)] at e';cases e'
       rw[h2 j hj] at e';cases e'
     rw[eb,h3];by_cases hd:dist n.toNat (hmOf n ps k0) i < dist n.toNat (hmOf n ps k) m
     . refine .inr ⟨m,k,by lia,h,if_pos (by lia),λ j k' hj e'=>?_,λ j k' hj e'=>?_⟩
       . by_cases z:j=m
         . subst z;rw[h] at e';cases e';exact zA3 _
         have:=h4 j k' (by lia) e';lia
       have:=h4 j k' (by lia) e';lia
     refine .inr ⟨i,k0,by lia,h2,if_neg (by lia),λ j k' hj e'=>?_,h5⟩;by_cases z:j=m
     . subst z;rw[h] at e';cases e';lia
     exact h4 j k' (by lia) e'
theorem qaz1{m:Int}:tupF (.tup [De o,.int m])=some [Ek o,.int m]:=by cases o<;>rfl
theorem qac3:∀ L:Pr,tupsF (prD L)=some (L.map λ q=>[V.int q.1,V.int q.2])
 | []=>rfl
 | q::L=>by
   show ((some [V.int q.1,V.int q.2]).bind λ v=>(tupsF (prD L)).bind λ vs=>some (v::vs))=_;rw[qac3 L];rfl
theorem qaF9{a b m:Int}:Es [.int a,.int b] [Ek o,.int m]=(decide (o=some a)&&decide (b=m)):=by
 have e:Es [.int a,.int b] [Ek o,.int m]=((eqV (.int a) (Ek o)&&(eqV (.int b) (.int m)&&true))&&true):=rfl;rw[e];cases o with
 | none=>rfl
 | some x =>
   show ((decide (a=x)&&(decide (b=m)&&true))&&true)=_;rw[zCa,zCa];congr 1;exact zC4.mpr ⟨λ h=>by rw[h],λ h=>(Option.some.inj h).symm⟩
def Ia(L:Pr)(o:Option Int)(m:Int):Bool:=L.any λ q=>decide (o=some q.1)&&decide (q.2=m)
theorem qaW3{L:Pr}{m:Int}{z:Bool}:gInT false (.tup [De o,.int m]) (.lst z (prD L))=some (.bl (Ia L o m)):=by
 unfold gInT;rw[qaz1];show ((tupsF (prD L)).bind λ zss=>some (D.bl (if false=true then _ else zss.any λ zs=>Es zs [Ek o,.int m])))=_;rw[qac3];show some (D.bl ((L.map λ q=>[V.int q.1,V.int q.2]).any λ zs=>Es zs [Ek o,.int m]))=_;rw[List.any_map];unfold Ia;congr 3;funext q;exact qaF9
theorem qak3{p:Nat->Bool}(hi:i < N)(h1:p i=true)(h2:∀ j,j < i->p j=false):∃ r,(List.range N).filter p=i::r:=by
 have h:=List.head?_filter (p:=p) (l:=List.range N);rw[List.find?_range_eq_some.mpr ⟨h1,zA9.mpr hi,λ j hj=>by rw[h2 j hj];rfl⟩] at h;cases e:(List.range N).filter p with
 | nil=>rw[e] at h;cases h
 | cons a r=>rw[e] at h;cases h;exact⟨r,rfl⟩
theorem qai5{p:Nat->Bool}(N:Nat):(Bm 0 N).filterMap (Dq λ x=>p x.toNat)=ksD (((List.range N).filter p).map λ i=>((i:Nat):Int)):=by
 have:∀ l:List Nat,(l.map λ i:Nat=>D.int (0+(i:Int))).filterMap (Dq λ x=>p x.toNat)=ksD ((l.filter p).map λ i=>((i:Nat):Int)):=λ l=>by
   induction l with
   | nil=>rfl
   | cons a l ih =>
     have e:(0+(a:Int))=(a:Int):=Int.zero_add _;rw[zB0,zBc,e];cases h:p a with
     | true =>
       rw[qE9 (by exact h),zC2 h];show D.int (a:Int)::_=_;rw[ih];rfl
     | false=>rw[qF0 (by exact h),zC0 (by rw[h];decide)];exact ih
 exact this _
theorem qaU7{m:Int}(h:Gp ks m):gMaxL (.lst false (ksD ks))=some (.int m):=by
 show (intsD (ksD ks)).bind (λ ns=>(Jc ns).map D.int)=_;rw[qW0];show (Jc ks).map D.int=_;cases e:Jc ks with
 | none =>
   cases ks with
   | nil=>cases h.1
   | cons=>cases e
 | some k=>rw[qai7 h e];rfl
theorem Jk:∀ ps qs:Pr,Eo (eqN 20) (prD ps) (prD qs)=some (decide (ps=qs))
 | [],[]=>rfl
 | [],_::_=>rfl
 | _::_,[]=>rfl
 | (a,b)::ps,(c,d)::qs=>by
   show (Option.bind (some ((a == c)&&((b == d)&&true))) λ a=>(Eo (eqN 20) (prD ps) (prD qs)).bind λ b=>some (a&&b))=_;rw[Jk ps qs];show some (((a == c)&&((b == d)&&true))&&decide (ps=qs))=_;by_cases h1:a=c
   . by_cases h2:b=d
     . subst h1 h2;simp
     simp[h1,h2]
   simp[h1]
theorem qaW5{z:Bool}(ps:Pr):gNe (.lst z (prD ps)) (.lst z' (prD ps))=some (.bl false):=by
 show (Eo (eqN 20) (prD ps) (prD ps)).map (λ b=>D.bl (!b))=_;rw[Jk,zAe rfl];rfl
def dueF(n:Int)(ps:Pr)(g:Nat->Option Int)(y:D):Option D:=y.asI.bind λ i=>(g i.toNat).map λ k=>.tup [.int k,.int ((dist n.toNat (hmOf n ps k) i.toNat:Nat):Int)]
theorem qaG4{n:Int}{ps:Pr}{g:Nat->Option Int}:(Bm 0 n.toNat).filterMap (dueF n ps g)=prD (A8 n ps g):=by
 unfold Bm A8 prD;rw[List.filterMap_map,List.map_filterMap];refine congrArg (λ f=>List.filterMap f (List.range n.toNat)) (funext λ i=>?_);show (g (0+(i:Int)).toNat).map (λ k=>D.tup [.int k,.int ((dist n.toNat (hmOf n ps k) (0+(i:Int)).toNat:Nat):Int)])=((g i).map λ k=>(k,((dist n.toNat (hmOf n ps k) i:Nat):Int))).map λ p=>D.tup [.int p.1,.int p.2]
 rw[show (0+(i:Int)).toNat=i by lia,Option.map_map];rfl
theorem qaO9(i:Int):gNe (.int i) (.int i)=some (.bl false):=qak0 rfl
def qZ0(C CP:Addr):VSp:=Av λ ds d=>∃ zr n wr ps g dn,ds=[Af zr C CP n wr ps g dn]/\1<=n/\n<=64/\(∀ i k,i < n.toNat->g i=some k->Ak k)/\(wr=false->∀ i k,i < n.toNat->g i=some k->hmOf n ps k<=i)/\d=Fg n.toNat g (bst (A8 n ps g))
theorem qE2(T:Txt K mg a):VFn P w K mg base 7 a.f35 a.d35 ["row"] (qZ0 a.C4 a.C3):=by
 refine VFn.mk2 T.d35.F qj4 (wOf [true]) qb3 (λ ds Q xe h=>by obtain⟨d,⟨zr,n,wr,ps,g,dn,e,_⟩,_⟩:=h;rw[e];exact⟨rfl,rfl⟩) (λ cdv A outer sh H E av hr=>⟨_,(Ab (Ah 1 qj4.nd (qa5 A6))
     (Ab (I9 PassesOwn.leaving (Ae T.d34 (qm2 T) qa1 (rm hr) (vaN 0 Aa)) (Eg (n:=2) rfl (ql7 (Ba 2 qj4.nd) (ql7 (Ba 3 qj4.nd) Ef)))
     (Ad (sif (tor (q2 (Aj Db (qa8 _)) Di (vnm 1) A6) (Ix (q2 (Aj By (qa8 _)) Da (vnm 3) (v2 (An qb0) Ag (vnm 1) Ac)))).te
     (Ad (Ah 1 qj4.nd (Gw (vaV (qb5 (vnm 3)) (vaV (qb5 (vnm 2)) (vaV (ql8 0 T.d27 T.C6.cl (qg8 T) qa1 (rm hr) (vaN 2 Aa)) Aa))))))
     Aq)))
     (Ad (Ap (emv 1))))),λ ds Q xe h=>?_⟩)
 obtain⟨d,⟨zr,n,wr,ps,g,dn,rfl,n1,n2,hg,ln,rfl⟩,q⟩:=h;refine As [Af zr a.C4 a.C3 n wr ps g dn,.unk,.unk,.unk] rfl ?_;refine qb1 [Af zr a.C4 a.C3 n wr ps g dn,.non,.unk,.unk] (λ K hK=>hK) ?_;refine qb8 (λ ds=>∃ d2 d3,ds=[Af zr a.C4 a.C3 n wr ps g dn,Fg n.toNat g (bst (A8 n ps g)),d2,d3]) (λ K hK=>?_) ?_
 . refine Hw (x:=Af zr a.C4 a.C3 n wr ps g dn) (d:=.lst false (prD (A8 n ps g))) rfl ⟨zr,n,wr,ps,g,dn,rfl,n1,n2,hg,by rw[qX0 n1 ln]⟩ rfl ?_
   refine qa0 (a:=prD (A8 n ps g)) rfl ⟨qr0 _,?_⟩;refine qe5 (λ i ds=>∃ d2 d3,ds=[Af zr a.C4 a.C3 n wr ps g dn,Fg n.toNat g (bst ((A8 n ps g).take i)),d2,d3]) _ 0 _ ⟨_,_,rfl⟩ ?_ ?_
   . rintro i x hx ds ⟨d2,d3,rfl⟩ K2 hK2
     rw[zB6] at hK2;obtain⟨⟨k,f⟩,hq,rfl⟩:=qaB7 hx;obtain⟨j,hj,e1,_⟩:=qB0.mp (zAt hq);rw[qaH0 hq] at hK2;rw[zB6];refine qu7 ?_;generalize bst ((A8 n ps g).take i)=o at hK2 ⊢;refine As [Af zr a.C4 a.C3 n wr ps g dn,Fg n.toNat g o,.int k,.int f] rfl ?_;have set:∀ K:Ds->Prop,K [Af zr a.C4 a.C3 n wr ps g dn,Fg n.toNat g (some (k,f)),.int k,.int f]->Ee (G9 (tbV (B9 (rdN 3)) (tbV (B9 (rdN 2)) (tbV (qw0 a.C4 "room_of" (qp7 a.C4 a.C3) [] 0 (tbN 2 Ax)) Ax)))) (gNm 1) { (Ht (wOf [true]) [Af zr a.C4 a.C3 n wr ps g dn] Q xe) with nx:=K,ct:=K,bk:=K } [Af zr a.C4 a.C3 n wr ps g dn,Fg n.toNat g o,.int k,.int f]:=λ K hK=>by
       refine qe9 (qac4 (qb9 (y:=.int f) rfl rfl (qb9 (y:=.int k) rfl rfl (qd8 ?_))));refine qI0 (p:=Af zr a.C4 a.C3 n wr ps g dn) (x:=.int k) rfl (qi1 rfl) rfl rfl ⟨zr,n,wr,ps,g,dn,k,rfl,hg j k hj e1,rfl⟩ rfl ?_;exact qb7 ⟨by show 3<=1000000;decide,hK⟩
     cases o with
     | none =>
       refine Fe true (λ Q q=>qac6 true true (λ Q q=>qc6 (b:=true) (f2_of rfl rfl rfl) q) (λ h=>nomatch h) q) (λ _=>?_) λ h=>nomatch h
       exact set _ (hK2 _ ⟨_,_,rfl⟩)
     | some p =>
       refine Fe (decide (p.2 < f)) (λ Q q=>qac6 false (decide (p.2 < f)) (λ Q q=>qc6 (b:=false) (f2_of rfl rfl rfl) q) (λ _ Q q=>qc6 (b:=decide (p.2 < f)) (f2_of rfl (f2_of rfl rfl rfl) rfl) q) q) (λ h=>?_) λ h=>?_
       . have hb:Gs (some p) (k,f)=some (k,f):=if_pos (zAb h)
         rw[hb] at hK2;exact set _ (hK2 _ ⟨_,_,rfl⟩)
       have hb:Gs (some p) (k,f)=some p:=if_neg (zB9 h);rw[hb] at hK2;exact hK2 _ ⟨_,_,rfl⟩
   rintro ds ⟨d2,d3,rfl⟩;rw[zB6,qaE1,zC3];exact hK _ ⟨_,_,rfl⟩
 rintro ds ⟨d2,d3,rfl⟩;have hk:(Fg n.toNat g (bst (A8 n ps g))).known=true:=by cases bst (A8 n ps g)<;>rfl
 exact qh5 (mv_to (qd4 rfl hk) q)
theorem qae0:qa9 ["row"] ["row"] (qa3 qG6):=by walk_at "s"
def sndE(y:D):Option D:=match y with
 | .tup [_,d]=>some d
 | _=>none
theorem qau4:∀ ps:Pr,(prD ps).filterMap sndE=ksD (ps.map (·.2))
 | []=>rfl
 | p::r=>by
   show (D.int p.2)::(prD r).filterMap sndE=_;rw[qau4 r];rfl
theorem qaI5(ks:List Int):gSum (.lst false (ksD ks))=some (.int ks.sum):=by
 show (intsD (ksD ks)).map (λ ns=>D.int ns.sum)=_;rw[qW0];rfl
theorem qal0{K:Ds->Ds->Prop}{ps:Pr}{d1 d2:D}(hl:ps.length < 1000)(h:∀ d e,K (ksD (ps.map (·.2))) [d,e]):Ei (Fs 2 (qw9 (gNm 0) (qw9 (gNm 1) E9))) Jb (B9 (rdN 1)) K (prD ps) [] [d1,d2]:=by
 refine qj8 (λ ι=>∃ d e,ι=[d,e]) sndE _ [] _ (by show 0+_ < 1000000;rw[qaE1];lia) ⟨_,_,rfl⟩ ?_ ?_
 . rintro y hy ι acc ⟨d,e,rfl⟩ R hR hacc
   obtain⟨i,hi⟩:=zBp hy;obtain⟨⟨k,f⟩,hq,rfl⟩:=qaB7 hi;have this:=hR [.int k,.int f] ⟨_,_,rfl⟩;exact qu7 (qay6 (Dp rfl (qI6 (d:=.int f) rfl rfl ⟨hacc,this⟩)))
 rintro ι ⟨d,e,rfl⟩;rw[qau4,zB5];exact h _ _
def qad3(C CP:Addr):VSp:=Av λ ds d=>∃ zr n wr ps g dn,ds=[Af zr C CP n wr ps g dn]/\1<=n/\n<=64/\(∀ i k,i < n.toNat->g i=some k->Ak k)/\(wr=false->∀ i k,i < n.toNat->g i=some k->hmOf n ps k<=i)/\d=.int ((A8 n ps g).map (·.2)).sum
theorem qaf9(T:Txt K mg a):VFn P w K mg base 7 a.f36 a.d36 ["row"] (qad3 a.C4 a.C3):=by
 refine VFn.mk2 T.d36.F qae0 (wOf [true]) qb3 (λ ds Q xe h=>by obtain⟨d,⟨zr,n,wr,ps,g,dn,e,_⟩,_⟩:=h;rw[e];exact⟨rfl,rfl⟩) (λ cdv A outer sh H E av hr=>⟨_,(Ad (Ap (ebi (qal5 rfl) qaQ0.ops T.Cz (Dk (vaV (ecL (NY:=["key", "far"]) (src:=[none,none]) (Ae T.d34 (qm2 T) qa1 (rm hr) (vaN 0 Aa)) (blk (λ av C s0 H0 ex=>(Eg (n:=2) rfl (ql7 (Ba 0 (show (["key", "far"]:List Str).Nodup by decide +kernel)) (ql7 (Ba 1 (show (["key", "far"]:List Str).Nodup by decide +kernel)) Ef)))) (λ av C s0 H0 ex=>Fb) (λ av C s0 H0 ex=>(qb5 (vnm 1))))) Aa))))),λ ds Q xe h=>?_⟩);obtain⟨d,⟨zr,n,wr,ps,g,dn,rfl,n1,n2,hg,ln,rfl⟩,q⟩:=h;refine As [Af zr a.C4 a.C3 n wr ps g dn] rfl ?_;refine qh5 (He (qd8 ?_));refine Hw (x:=Af zr a.C4 a.C3 n wr ps g dn) (d:=.lst false (prD (A8 n ps g))) rfl ⟨zr,n,wr,ps,g,dn,rfl,n1,n2,hg,by rw[qX0 n1 ln]⟩ rfl ?_;refine qa0 (a:=prD (A8 n ps g)) rfl ⟨qr0 _,?_⟩;refine qal0 (by have:=qS1 (n:=n) (ps:=ps) (g:=g);lia) λ _ _=>?_
 exact qb7 (qa0 (qaI5 _) q)
theorem qi5:qa9 ["row", "key"] ["row", "key"] (qa3 qc5):=by walk_at "s"
def qi4(C:Addr):VSp:=Av λ ds d=>∃ r k,ds=[r,.int k]/\r.isC C=some (.bl true)/\Ak k/\d=.non
theorem qi8(T:Txt K mg a):VFn P w K mg base 4 a.f33 a.d33 ["row", "key"] (qi4 a.C4):=by
 refine VFn.mk2 T.d33.F qi5 (wOf [true,true]) qb3 (λ ds Q xe h=>by obtain⟨d,⟨r,k,e,_⟩,_⟩:=h;rw[e];exact⟨rfl,rfl⟩) (λ cdv A outer sh H E av hr=>⟨_,(Ab (sif (Bp (tv (vbi (qal6 T.D0 T.C6.cl) qaQ2.ops T.C8 (qa2 (vnm 0) (qa2 (vcls a.C4 T.C6.m) qa6 rfl) rfl))))
     (Ad qj9)
     Aq)
     (Ad (sif (Bp (te (Ae T.d3 (qc3 T) qa1 (rm hr) (vaN 1 Aa))))
     (Ad qj9)
     Aq))),λ ds Q xe h=>?_⟩)
 obtain⟨d,⟨r,k,rfl,hC,hk,rfl⟩,q⟩:=h;refine As [r,.int k] rfl ?_;refine qax8 (f:=Ay (fx2 (gIsO a.C4)) (Au (rdN 0) (Au (kC (D.adr a.C4)) λ _=>some []))) ?_ ?_
 . unfold Ay Au
   rw[rd0 (qar1 hC)];show (if a.C4=a.C4 then r.isC a.C4 else none)=_;rw[if_pos rfl,hC]
 exact qaj5 (λ Q xe q=>qH4 (x:=.int k) (d:=.bl true) rfl (Ji hk) rfl q) q
theorem qh1:qa9 ["row", "key", "rooms", "home", "first"] ["row", "key"] (qa3 qs4):=by walk_at "s"
def Jl(n:Int)(wr:Bool)(ps:Pr)(g:Nat->Option Int)(r:Nat)(k:Int)(s:Nat):Prop:=s < n.toNat/\(wr=false->s<=hmOf n ps k)/\∀ S:List Int,(∀ i x,i < n.toNat->g i=some x->x∈S)->dist n.toNat s (hmOf n ps k)+1+dist n.toNat (hmOf n ps k) r<=(S.filter λ y=>decide (dist n.toNat s (hmOf n ps y)<=dist n.toNat s (hmOf n ps k))).length
def qO5(C CP:Addr):VSp:=λ ds Q _=>∃ zr n wr ps g dn S key,ds=[Af zr C CP n wr ps g dn,.int key]/\1<=n/\n<=64/\(∀ x∈S,Ak x)/\Kept n.toNat wr (hmOf n ps) g S/\key∈S/\∀ i s,i < n.toNat->g i=some key->Jl n wr ps g i key s->Q (.tup [.int (s:Nat),.int (hmOf n ps key:Nat)]) ds
theorem qQ6(T:Txt K mg a):VFn P w K mg base 6 a.f37 a.d37 ["row", "key"] (qO5 a.C4 a.C3):=by
 refine VFn.mk2 T.d37.F qh1 (wOf [true,true]) (λ ds Q Q' xe xe' hQ _ h=>by obtain⟨zr,n,wr,ps,g,dn,S,key,e,e3,e4,e5,e6,h,q4⟩:=h;exact⟨zr,n,wr,ps,g,dn,S,key,e,e3,e4,e5,e6,h,λ i s a b c=>hQ _ _ (q4 i s a b c)⟩) (λ ds Q xe h=>by obtain⟨zr,n,wr,ps,g,dn,S,key,e,_⟩:=h;rw[e];exact⟨rfl,rfl⟩) (λ cdv A outer sh H E av hr=>⟨_,(Ab (Bh (Ae T.d33 (qi8 T) qa1 (rm hr) (vaN 0 (vaN 1 Aa))))
     (Ab (sif (q2v (A4 Db (qa8 _)) (Aj Db (qa8 _)) Di (ql8 0 T.d27 T.C6.cl (qg8 T) qa1 (rm hr) (vaN 1 Aa)) A6)
     (Ad qj9)
     Aq)
     (Ab (Ah 2 qh1.nd (qM8 0 T.d25 T.C6.cl (ql4 T) qa1 (rm hr)))
     (Ab (Ah 3 qh1.nd (qaG2 T.d9 T.C5.cl (ql0 T) qa1 (rm hr) (Be rfl (vnm 0) T.C6.cl T.Ca) (vaN 1 Aa)))
     (Ab (Ah 4 qh1.nd (qb5 (vnm 3)))
     (Ab (qU0 PassesOwn.leaving (q2v (A4 By (qa8 _)) (Aj By (qa8 _)) Da (qaG2 T.d10 T.C5.cl (qf7 T) qa1 (rm hr) (Be rfl (vnm 0) T.C6.cl T.Ca) (vaV (qb5 (v2 (An qb0) Ag (vnm 2) (vnm 4))) (vaN 4 Aa))) Ac)
     (Ad (Ah 4 qh1.nd (Ae T.d12 (qv3 T) qa1 (rm hr) (vaV (qb5 (Be rfl (vnm 0) T.C6.cl T.Ca)) (vaN 4 Aa))))))
     (Ad (Ap (qa5 (Ep (qa2 (vnm 4) (qa2 (vnm 3) qa6 rfl) rfl))))))))))),λ ds Q xe h=>?_⟩)
 obtain⟨zr,n,wr,ps,g,dn,S,key,rfl,n1,n2,hS,KP,hin,q4⟩:=h;have hkey:=hS key hin;refine As [Af zr a.C4 a.C3 n wr ps g dn,.int key,.unk,.unk,.unk] rfl ?_;refine qaF7 (qN1 (x:=Af zr a.C4 a.C3 n wr ps g dn) (y:=.int key) rfl rfl rfl ⟨_,⟨_,_,rfl,qaO2,hkey,rfl⟩,?_⟩);refine qa0 (a:=[Af zr a.C4 a.C3 n wr ps g dn,.int key,.unk,.unk,.unk]) rfl ?_;obtain⟨i,hi,e⟩:=(KP.h.2 key).mp hin;obtain⟨j,hj⟩:=qH0 hi e;refine qaj1 (qz7 (qI0 (p:=Af zr a.C4 a.C3 n wr ps g dn) (x:=.int key) (d:=.int (j:Nat)) rfl (qi1 rfl) rfl rfl ⟨zr,n,wr,ps,g,dn,key,rfl,hkey,hj.symm⟩ rfl ?_));refine qa0 (a:=D.bl false) rfl (qa0 (a:=false) rfl (Bs (by decide) ?_));refine qb1 [Af zr a.C4 a.C3 n wr ps g dn,.int key,.lst false (rlD n.toNat g),.unk,.unk] (λ K hK=>?_) ?_
 . exact qe9 (qaq2 (p:=Af zr a.C4 a.C3 n wr ps g dn) (d:=.lst false (rlD n.toNat g)) rfl (qi1 rfl) ⟨zr,n,wr,ps,g,dn,rfl,rfl⟩ rfl hK)
 have hh:=Bz (ps:=ps) n1 key;generalize eh:hmOf n ps key=h at hh q4;refine qb1 [Af zr a.C4 a.C3 n wr ps g dn,.int key,.lst false (rlD n.toNat g),.int (h:Nat),.unk] (λ K hK=>?_) ?_
 . refine qe9 (qR5 (d:=planD true a.C3 n wr ps) (A5 rfl qf8) rfl (qe4 rfl) (qb6 (x:=.int key) rfl (qb7 (qa0 (a:=D.int key) rfl ⟨_,⟨true,n,wr,ps,key,rfl,n1,hkey,rfl⟩,?_⟩))))
   rw[<- qF2 n1 key,eh];exact hK
 refine qb1 [Af zr a.C4 a.C3 n wr ps g dn,.int key,.lst false (rlD n.toNat g),.int (h:Nat),.int (h:Nat)] (λ K hK=>qn5 (d:=.int (h:Nat)) rfl rfl hK) ?_;have A0:Arc n.toNat (hmOf n ps) g i (dist n.toNat h i) h h:=by rw[<- eh];exact Arc.start KP.o hi e
 refine qb8 (λ ds=>∃ s,ds=[Af zr a.C4 a.C3 n wr ps g dn,.int key,.lst false (rlD n.toNat g),.int (h:Nat),.int (s:Nat)]/\Jl n wr ps g i key s) (λ K hK=>?_) ?_
 . refine qF7 (λ m ds=>∃ s,ds=[Af zr a.C4 a.C3 n wr ps g dn,.int key,.lst false (rlD n.toNat g),.int (h:Nat),.int (s:Nat)]/\Arc n.toNat (hmOf n ps) g i (dist n.toNat h i) h s/\(wr=false->s<=h)/\m+dist n.toNat s i=n.toNat) (n.toNat - dist n.toNat h i) ⟨h,rfl,A0,λ _=>zA3 _,by have:=qf1 hi hh;lia⟩ ?_
   rintro m ds ⟨s,rfl,A,hln,hm'⟩ K2 hK2;have hs:=A.hs;obtain⟨x,hx,_⟩:=A.oc s hs (by rw[(qb4 hs hs).mpr rfl];lia);have hxl:wr=false->hmOf n ps x<=s:=λ hw=>KP.ln hw s x hs hx
   refine qz7 (qR5 (d:=planD true a.C3 n wr ps) (A5 rfl qf8) rfl (qe4 rfl) (qb9 (y:=.int x) (f2_of rfl rfl (by rw[Bf hs,hx];rfl)) rfl (qb6 (x:=.int (s:Nat)) rfl (qb7 (qa0 (a:=D.int (s:Nat)) rfl ⟨_,⟨true,n,wr,ps,x,(s:Nat),rfl,n1,hS x ((KP.h.2 x).mpr ⟨s,hs,hx⟩),by lia,by lia,rfl⟩,?_⟩)))));rw[qr2 n1 hs hxl];refine qa0 (a:=[Af zr a.C4 a.C3 n wr ps g dn,.int key,.lst false (rlD n.toNat g),.int (h:Nat),.int (s:Nat)]) rfl ?_;refine qa0 (a:=D.bl (decide (0 < ((dist n.toNat (hmOf n ps x) s:Nat):Int)))) rfl (qa0 (a:=decide (0 < ((dist n.toNat (hmOf n ps x) s:Nat):Int))) rfl (ite_b (λ hb=>?_) λ hb=>?_))
   . have hd:0 < dist n.toNat (hmOf n ps x) s:=by have:=zAb hb;lia
     obtain⟨A',e1,e2⟩:=A.back KP.o KP.c hi hh hx hd;have hl':=qf1 hi A'.hs;have hpv:(if 0 < ((s:Nat):Int) then D.int (((s:Nat):Int) - 1) else if wr=true then D.int (n - 1) else D.non)=.int (Row.prev n.toNat s:Nat):=by
       have p:=por n.toNat s;by_cases h0:0 < s
       . rw[if_pos (by lia),show Row.prev n.toNat s=s - 1 by lia]
         exact congrArg D.int (by lia)
       have hw:wr=true:=by
         cases wr with
         | true=>rfl
         | false=>have:=hxl rfl;have d:=dor n.toNat (hmOf n ps x) s;lia
       rw[if_neg (by lia),if_pos hw,show Row.prev n.toNat s=n.toNat - 1 by lia];exact congrArg D.int (by lia)
     refine qe9 (qe0 (qb9 (y:=planD true a.C3 n wr ps) (A5 rfl qf8) rfl (qb6 (x:=.int (s:Nat)) rfl (qb7 (qa0 (a:=D.int (s:Nat)) rfl ⟨_,⟨true,n,wr,ps,(s:Nat),rfl,rfl⟩,?_⟩)))));rw[hpv];refine hK2 (m - 1) _ (by lia) ⟨Row.prev n.toNat s,rfl,A',λ hw=>?_,by lia⟩
     have:=hln hw
     have:=hxl hw
     have d:=dor n.toNat (hmOf n ps x) s;have p:=por n.toNat s;lia
   have hd:dist n.toNat (hmOf n ps x) s=0:=by have:=zB9 hb;lia
   have hz:=((qb4 (Bz n1 x) hs).mp hd).symm;refine hK _ ⟨s,rfl,hs,λ hw=>by rw[eh];exact hln hw,λ S' hS'=>?_⟩;rw[eh];exact A.done KP.o hi hS' hx hz
 rintro ds ⟨s,rfl,W⟩;exact qd1 (.tup [.int (s:Nat),.int (h:Nat)]) rfl (q4 i s hi e W)
theorem qZ8:qa9 ["_law_rooms", "_law_key_here"] ["_law_rooms", "_law_key_here"] (qa3 qz5):=by walk_at "s"
theorem qaW9:gEq (De o) (.int k)=some (.bl (decide (o=some k))):=by
 cases o with
 | none=>rfl
 | some x =>
   show some (D.bl (x == k))=_;rw[show (x == k)=decide (some x=some k) from by rw[Bool.beq_eq_decide_eq];exact zC4.mpr ⟨λ h=>by rw[h],Option.some.inj⟩]
def qZ5:VSp:=Av λ ds d=>∃ z N g k i,ds=[.lst z (rlD N g),.int k]/\N<=64/\i < N/\g i=some k/\(∀ j,j < N->g j=some k->j=i)/\d=.int (i:Nat)
theorem qaa8(T:Txt K mg a):VFn P w K mg base 1 a.f50 a.d50 ["_law_rooms", "_law_key_here"] qZ5:=by
 refine VFn.mk2 T.d50.F qZ8 (wOf [true,true]) qb3 (λ ds Q xe h=>by obtain⟨d,⟨z,N,g,k,i,e,_⟩,_⟩:=h;rw[e];exact⟨rfl,rfl⟩) (λ cdv A outer sh H E av hr=>⟨_,(Ad (Ap (e2vP (An qb0) Ag (ecR1 (NY:=["_law_room", "_law_key_here", "_law_rooms"]) (src:=[none,some 1,some 0]) T.Cc (Dk (vaV (qa5 (vbi qr5 qr4.ops T.Ci (qa2 (vnm 0) qa6 rfl))) Aa)) (blk (λ av C s0 H0 ex=>(Ba 0 (show (["_law_room", "_law_key_here", "_law_rooms"]:List Str).Nodup by decide +kernel))) (λ av C s0 H0 ex=>(Fc (q2 (Aj (qf5 hr.u64) (qa8 _)) A9 (v2 (An qb0) Ag (vnm 2) (vnm 0)) (vnm 1)))) (λ av C s0 H0 ex=>(qb5 (vnm 0))))) Ac))),λ ds Q xe h=>?_⟩);obtain⟨d,⟨z,N,g,k,i,rfl,hN,hi,hg,inj,rfl⟩,q⟩:=h;refine As [.lst z (rlD N g),.int k] rfl ?_;refine qh5 (qad1 (qaG5 (qf0 (y:=.int (N:Nat)) (by rw[qo7 (z:=z) (ys:=rlD N g) rfl,qo0]) (qb7 (qa0 (a:=((N:Nat):Int)) rfl ⟨qC8 (by lia) (by lia),?_⟩)))));rw[Int.toNat_natCast];obtain⟨r,hr1⟩:=qak3 (p:=λ j=>decide (g j=some k)) hi (zAe hg) λ j hj=>zB3 λ e=>by have:=inj j (by lia) e;lia
 refine qj8 (λ ι=>∃ d,ι=[d,.int k,.lst z (rlD N g)]) (Dq λ x=>decide (g x.toNat=some k)) _ [] _ (by show 0+_ < 1000000;rw[qL7];lia) ⟨_,rfl⟩ ?_ ?_
 . rintro y hy ι acc ⟨d,rfl⟩ R hR hacc
   obtain⟨j,hj,rfl⟩:=zB1.mp hy;have hj:=zA9.mp hj;have ej:(0+(j:Int))=((j:Nat):Int):=Int.zero_add _;rw[ej];have this:=hR [.int (j:Nat),.int k,.lst z (rlD N g)] ⟨_,rfl⟩;rw[ej] at this;refine qu8 ?_;refine qc6 (b:=decide (g j=some k)) (f2_of (f2_of rfl rfl (Bf hj)) rfl qaW9) (ite_b (λ h=>?_) λ h=>?_)
   . rw[qE9 (by exact h)] at this
     exact qI6 (d:=.int (j:Nat)) rfl rfl ⟨hacc,this⟩
   rw[qF0 (by exact h)] at this;have this:R (acc++[]) _:=this;rw[zAf] at this;exact this
 rintro ι ⟨d,rfl⟩;rw[qai5 (p:=λ j=>decide (g j=some k)),hr1,zB5];exact qa0 (a:=D.int 0) rfl ⟨rfl,qa0 (a:=D.int (i:Nat)) (qB7 (xs:=D.int (i:Nat)::ksD (r.map λ i:Nat=>(i:Int))) (j:=0) rfl) q⟩
theorem qg7:qa9 ["_law_case_here", "_law_row", "_law_keys_here", "_law_way", "_law_rooms", "_law_due", "_law_most", "_law_room", "_law_key_here", "_law_window", "_law_far_here", "_law_spots"] ["_law_case_here", "_law_row", "_law_keys_here", "_law_way"] (qa3 qQ1):=by walk_at "s"
abbrev D6(C CP:Addr)(zr:Bool)(n:Int)(wr:Bool)(ps:Pr)(g:Nat->Option Int)(dn:Ds)(z:Bool)(S:List Int)(v:Int)(d6 d7 d8 d9 d10 d11:D):Ds:=[caseD n wr ps,Af zr C CP n wr ps g dn,.lst z (ksD S),.int v,.lst false (rlD n.toNat g),.lst false (prD (A8 n ps g)),d6,d7,d8,d9,d10,d11]
def qao1(C CP:Addr):VSp:=Av λ ds d=>∃ zr n wr ps g dn z S v,ds=[caseD n wr ps,Af zr C CP n wr ps g dn,.lst z (ksD S),.int v]/\1<=n/\n<=64/\(ps.map (·.1)).Nodup/\(∀ x∈S,Ak x)/\Kept n.toNat wr (hmOf n ps) g S/\d=.bl true
theorem Jm{z:Bool}(ks:List Int):gNe (.lst z (ksD ks)) (.lst z' [])=some (.bl (!decide (ks=[]))):=by
 cases ks<;>rfl
theorem qaX0{z:Bool}(ks:List Int):gEq (.lst z (ksD ks)) (.lst z' [])=some (.bl (decide (ks=[]))):=by
 cases ks<;>rfl
theorem qH6(T:Txt K mg a):VFn P w K mg base 8 a.f51 a.d51 ["_law_case_here", "_law_row", "_law_keys_here", "_law_way"] (qao1 a.C4 a.C3):=by
 refine VFn.mk2 T.d51.F qg7 (wOf [true,true,true,true]) qb3 (λ ds Q xe h=>by obtain⟨d,⟨zr,n,wr,ps,g,dn,z,S,v,e,_⟩,_⟩:=h;rw[e];exact⟨rfl,rfl⟩) (λ cdv A outer sh H E av hr=>⟨_,(Ab (Ah 4 qg7.nd (Ae T.d47 (qq4 T) qa1 (rm hr) (vaN 0 (vaN 2 Aa))))
     (Ab (Ah 5 qg7.nd (ecR1 (NY:=["_law_k", "_law_rooms", "_law_case_here"]) (src:=[none,some 4,some 0]) T.Cc (Dk (vaV (qb5 (v2 (An qb0) Ag (vnm 0) Ac)) Aa)) (blk (λ av C s0 H0 ex=>(Ba 0 (show (["_law_k", "_law_rooms", "_law_case_here"]:List Str).Nodup by decide +kernel))) (λ av C s0 H0 ex=>(Fc (q2 (Aj qj5 (qa8 _)) qn1 (v2 (An qb0) Ag (vnm 1) (vnm 0)) A6))) (λ av C s0 H0 ex=>(Gw (vaV (qb5 (v2 (An qb0) Ag (vnm 1) (vnm 0))) (vaV (Ae T.d44 (qU9 T) qu4 (rm hr) (vaN 2 (vaV (qb5 (v2 (An qb0) Ag (vnm 1) (vnm 0))) (vaN 0 Aa)))) Aa)))))))
     (Ab (sif (Eb (q2 (Aj (qf5 hr.u64) (qa8 _)) A9 (vnm 3) Ac) (Dc (q2v (A4 (qt7 hr.u64) (qa8 _)) (Aj (qt7 hr.u64) (qa8 _)) Dw (Ae T.d34 (qm2 T) qa1 (rm hr) (vaN 1 Aa)) (vnm 5)))).te
     (Ad (Ap (qa5 vbl)))
     Aq)
     (Ab (sif (Eb (q2 (Aj (qf5 hr.u64) (qa8 _)) A9 (vnm 3) Ac) (Dc (q2e (A4 (qt7 hr.u64) (qa8 _)) (Aj (qt7 hr.u64) (qa8 _)) Dw (Ae T.d36 (qaf9 T) qa1 (rm hr) (vaN 1 Aa)) (ebi (qal5 rfl) qaQ0.ops T.Cz (Dk (vaV (ecN (NY:=["_law_key_here", "_law_far_here"]) (src:=[none,none]) 5 (blk (λ av C s0 H0 ex=>(Eg (n:=2) rfl (ql7 (Ba 0 (show (["_law_key_here", "_law_far_here"]:List Str).Nodup by decide +kernel)) (ql7 (Ba 1 (show (["_law_key_here", "_law_far_here"]:List Str).Nodup by decide +kernel)) Ef)))) (λ av C s0 H0 ex=>Fb) (λ av C s0 H0 ex=>(qb5 (vnm 1))))) Aa)))))).te
     (Ad (Ap (qa5 vbl)))
     Aq)
     (Ab (sif (Eb (q2 (Aj (qf5 hr.u64) (qa8 _)) A9 (vnm 3) Ac) (Eb (q2 (Aj (qf5 hr.u64) (qa8 _)) A9 (vnm 2) (Bk qa6)) (Dc (q2v (A4 qj5 (qa8 _)) (Aj qj5 (qa8 _)) qn1 (Ae T.d35 (qE2 T) qa1 (rm hr) (vaN 1 Aa)) A6)))).te
     (Ad (Ap (qa5 vbl)))
     Aq)
     (Ab (sif (Eb (q2 (Aj (qf5 hr.u64) (qa8 _)) A9 (vnm 3) Ac) (Dc (q2 (Aj (qt7 hr.u64) (qa8 _)) Dw (vnm 2) (Bk qa6)))).te
     (Ab (Ah 6 qg7.nd (ebi (qat3 rfl) qaQ1.ops T.D2 (Dk (vaV (ecN (NY:=["_law_key_here", "_law_far_here"]) (src:=[none,none]) 5 (blk (λ av C s0 H0 ex=>(Eg (n:=2) rfl (ql7 (Ba 0 (show (["_law_key_here", "_law_far_here"]:List Str).Nodup by decide +kernel)) (ql7 (Ba 1 (show (["_law_key_here", "_law_far_here"]:List Str).Nodup by decide +kernel)) Ef)))) (λ av C s0 H0 ex=>Fb) (λ av C s0 H0 ex=>(qb5 (vnm 1))))) Aa))))
     (Ab (Ah 7 qg7.nd (e2vP (An qb0) Ag (ecR1 (NY:=["_law_k", "_law_due", "_law_most", "_law_rooms"]) (src:=[none,some 5,some 6,some 4]) T.Cc (Dk (vaV (qb5 (v2 (An qb0) Ag (vnm 0) Ac)) Aa)) (blk (λ av C s0 H0 ex=>(Ba 0 (show (["_law_k", "_law_due", "_law_most", "_law_rooms"]:List Str).Nodup by decide +kernel))) (λ av C s0 H0 ex=>(Fc (q2 (Aj (qaU1 hr.u64) (by with_unfolding_all rfl)) qaT4 (Ep (qa2 (v2 (An qb0) Ag (vnm 3) (vnm 0)) (qa2 (vnm 2) qa6 rfl) rfl)) (vnm 1)))) (λ av C s0 H0 ex=>(qb5 (vnm 0))))) Ac))
     (Ad (sif (q2v (A4 (qt7 hr.u64) (qa8 _)) (Aj (qt7 hr.u64) (qa8 _)) Dw (Ae T.d35 (qE2 T) qa1 (rm hr) (vaN 1 Aa)) (Ep (qa2 (vnm 6) (qa2 (v2 (An qb0) Ag (vnm 4) (vnm 7)) (qa2 (vnm 7) qa6 rfl) rfl) rfl)))
     (Ad (Ap (qa5 vbl)))
     Aq))))
     Aq)
     (Ab (sif (Eb (q2 (Aj (qf5 hr.u64) (qa8 _)) A9 (vnm 3) Ac) (Dc (q2 (Aj (qt7 hr.u64) (qa8 _)) Dw (vnm 2) (Bk qa6)))).te
     (Ad (I9 PassesOwn.leaving (qa5 (Bk (qa2 (v2 (An qb0) Ag (vnm 2) Ac) (qa2 (v2 (An qb0) Ag (vnm 2) (vneg Ac)) (qa2 (v2 (An qb0) Ag (vnm 2) (v2 (Al qH5) qap4 (vbi qr5 qr4.ops T.Ci (qa2 (vnm 2) qa6 rfl)) Ac)) qa6 rfl) rfl) rfl))) (Ba 8 qg7.nd)
     (Ab (Ah 9 qg7.nd (Ae T.d37 (qQ6 T) qa1 (rm hr) (vaN 1 (vaN 8 Aa))))
     (Ab (Ah 10 qg7.nd (Ae T.d44 (qU9 T) qa1 (rm hr) (vaN 0 (vaN 8 (vaV (Ae T.d50 (qaa8 T) qa1 (rm hr) (vaN 4 (vaN 8 Aa))) Aa)))))
     (Ab (Ah 11 qg7.nd (qa5 (Bk (qa2 (v2 (An qb0) Ag (vnm 9) Ac) qa6 rfl))))
     (Ab (qU0 PassesOwn.leaving (Eb (q2 (Aj (qt7 hr.u64) (qa8 _)) Dw (v2 (An qb0) Ag (vnm 11) (vneg Ac)) (v2 (An qb0) Ag (vnm 9) Ac)) (Dc (q2 (Aj F9 (qa8 _)) Ir (vbi qr5 qr4.ops T.Ci (qa2 (vnm 11) qa6 rfl)) (v2 (An qb0) Ag (vnm 0) Ac)))).te
     (Ad (Bh (Dy 11 qw6 PySem.F.plainAttrs_list PySem.F.slot_list_append PySem.F.type_list_append qd5 (vaV (qa5 (v2 (Al qk9) qk6 (v2 (Al qk8) qk7 (v2 (An qb0) Ag (vnm 11) (vneg Ac)) Ac) (v2 (An qb0) Ag (vnm 0) Ac))) Aa)))))
     (Ad (sif (q2v (A4 D8 (qa8 _)) (Aj D8 (qa8 _)) Et (ebi qr5 qr4.ops T.Ci (Dk (vaV (ecN (NY:=["_law_one", "_law_spots", "_law_case_here"]) (src:=[none,some 11,some 0]) 2 (blk (λ av C s0 H0 ex=>(Ba 0 (show (["_law_one", "_law_spots", "_law_case_here"]:List Str).Nodup by decide +kernel))) (λ av C s0 H0 ex=>(Fc (q2v (A4 qq1 (by with_unfolding_all rfl)) (Aj qq1 (by with_unfolding_all rfl)) Gh (Ae T.d43 (qR1 T) qu4 (rm hr) (vaN 2 (vaN 0 Aa))) (vnm 1)))) (λ av C s0 H0 ex=>(qb5 (vnm 0))))) Aa))) (v2 (Al qk8) qk7 (vbi qr5 qr4.ops T.Ci (qa2 (vnm 11) qa6 rfl)) (vnm 10)))
     (Ad (Ap (qa5 vbl)))
     Aq))))))))
     Aq)
     (Ad (Ap (qa5 vbl)))))))))),λ ds Q xe h=>?_⟩)
 obtain⟨d,⟨zr,n,wr,ps,g,dn,z,S,v,rfl,n1,n2,nd,hS,KP,rfl⟩,q⟩:=h;refine As [caseD n wr ps,Af zr a.C4 a.C3 n wr ps g dn,.lst z (ksD S),.int v,.unk,.unk,.unk,.unk,.unk,.unk,.unk,.unk] rfl ?_;refine qb1 [caseD n wr ps,Af zr a.C4 a.C3 n wr ps g dn,.lst z (ksD S),.int v,.lst false (rlD n.toNat g),.unk,.unk,.unk,.unk,.unk,.unk,.unk] (λ K hK=>?_) ?_
 . refine qN1 (x:=caseD n wr ps) (y:=.lst z (ksD S)) rfl rfl rfl ⟨n,wr,ps,z,S,rfl,n1,n2,nd,KP.h.1,λ _ g' K'=>?_,λ ⟨q,c⟩=>absurd c (KP.no_crowd q)⟩
   rw[qx1 (K'.same KP λ _=>Iff.rfl)];exact hK
 have hnum:∀ i k,i < n.toNat->g i=some k->Ak k:=λ i k hi e=>hS k ((KP.h.2 k).mpr ⟨i,hi,e⟩)
 have hSl:S.length<=64:=by
   have hS:=qv2 (g:=g) (List.range n.toNat) S KP.h.1 λ k hk=>by
     obtain⟨i,hi,e⟩:=(KP.h.2 k).mp hk;exact⟨i,zA9.mpr hi,e⟩
   rw[zAq] at hS;lia
 refine qb1 (D6 a.C4 a.C3 zr n wr ps g dn z S v .unk .unk .unk .unk .unk .unk) (λ K hK=>?_) ?_
 . refine qe9 (qaG5 (qb9 (y:=.int n) rfl rfl (qb7 (qa0 (a:=n) rfl ⟨qC8 (by lia) (by lia),?_⟩))))
   refine qj8 (λ ι=>∃ d,ι=[d,.lst false (rlD n.toNat g),caseD n wr ps]) (dueF n ps g) _ [] _ (by show 0+_ < 1000000;rw[qL7];lia) ⟨_,rfl⟩ ?_ ?_
   . rintro y hy ι acc ⟨d,rfl⟩ R hR hacc
     obtain⟨j,hj,rfl⟩:=zB1.mp hy;have hj:=zA9.mp hj;have ej:(0+(j:Int))=((j:Nat):Int):=Int.zero_add _;rw[ej];have this:=hR [.int (j:Nat),.lst false (rlD n.toNat g),caseD n wr ps] ⟨_,rfl⟩;rw[ej] at this;have e:dueF n ps g (.int ((j:Nat):Int))=(g j).map λ k=>D.tup [.int k,.int ((dist n.toNat (hmOf n ps k) j:Nat):Int)]:=rfl
     rw[e] at this;refine qu8 ?_;cases hg:g j with
     | none =>
       rw[hg] at this;have this:R (acc++[]) _:=this;rw[zAf] at this;exact qc6 (b:=false) (f2_of (f2_of rfl rfl (Bf hj)) rfl (by rw[hg];rfl)) (Bs (by decide) this)
     | some k =>
       rw[hg] at this;refine qc6 (b:=true) (f2_of (f2_of rfl rfl (Bf hj)) rfl (by rw[hg];rfl)) (Dp rfl ?_);have hix:∀ d,f2 gIx (rdN 1) (rdN 0) [.int (j:Nat),.lst false (rlD n.toNat g),d]=some (.int k):=λ d=>f2_of rfl rfl (by rw[Bf hj,hg];rfl)
       refine qac4 (qb9 (y:=.int k) (hix _) rfl (qd8 (qe0 (qb6 (x:=caseD n wr ps) rfl (qb9 (y:=.int k) (hix _) rfl (qb6 (x:=.int (j:Nat)) rfl (qb7 ?_)))))));refine qa0 (a:=D.int (j:Nat)) rfl ?_;refine qa0 (a:=caseD n wr ps) rfl ?_;refine⟨_,⟨n,wr,ps,k,j,rfl,n1,nd,rfl⟩,?_⟩;refine qa0 (a:=[.int (j:Nat),.lst false (rlD n.toNat g),caseD n wr ps]) rfl (qb7 ⟨by show 2<=1000000;decide,hacc,?_⟩);rw[qr2 n1 hj λ hw=>KP.ln hw j k hj hg];exact this
   rintro ι ⟨d,rfl⟩;rw[qaG4,zB5];exact hK
 have hlen:=qS1 (n:=n) (ps:=ps) (g:=g);have hfe:S=[]->A8 n ps g=[]:=λ e=>by
   cases h:A8 n ps g with
   | nil=>rfl
   | cons p r =>
     obtain⟨i,hi,e1,_⟩:=qB0.mp (show p∈A8 n ps g by rw[h];exact zA7)
     have:=(KP.h.2 p.1).mpr ⟨i,hi,e1⟩
     rw[e] at this;cases this
 refine qe8 false (λ Q q=>qd7 (decide (v=0)) false (λ Q q=>qc6 rfl q) (λ _ Q q=>qz7 ?_) (by rw[zC7];exact q)) (λ h=>(nomatch h)) λ _=>?_
 . exact Hw (x:=Af zr a.C4 a.C3 n wr ps g dn) (d:=.lst false (prD (A8 n ps g))) rfl ⟨zr,n,wr,ps,g,dn,rfl,n1,n2,hnum,by rw[qX0 n1 KP.ln]⟩ rfl (qa0 (a:=D.bl false) (qaW5 _) (qa0 (a:=false) rfl q))
 refine qe8 false (λ Q q=>qd7 (decide (v=1)) false (λ Q q=>qc6 rfl q) (λ _ Q q=>qaS2 ?_) (by rw[zC7];exact q)) (λ h=>(nomatch h)) λ _=>?_
 . refine Hw (x:=Af zr a.C4 a.C3 n wr ps g dn) rfl ⟨zr,n,wr,ps,g,dn,rfl,n1,n2,hnum,KP.ln,rfl⟩ rfl ?_
   refine He (qd8 (qa0 (a:=D.lst false (prD (A8 n ps g))) rfl (qa0 (a:=prD (A8 n ps g)) rfl ⟨qr0 _,?_⟩)));exact qal0 (by lia) λ _ _=>qb7 (qa0 (qaI5 _) (qa0 (a:=D.bl false) (qaO9 _) (qa0 (a:=false) rfl q)))
 refine qe8 false (λ Q q=>qd7 (decide (v=2)) false (λ Q q=>qc6 rfl q) (λ _ Q q=>qd7 (decide (S=[])) false (λ Q q=>qc6 (f2_of rfl rfl (qaX0 S)) q) (λ h Q q=>qz7 ?_) (by rw[zC7];exact q)) (by rw[zC7];exact q)) (λ h=>(nomatch h)) λ _=>?_
 . refine Hw (x:=Af zr a.C4 a.C3 n wr ps g dn) (d:=.non) rfl ⟨zr,n,wr,ps,g,dn,rfl,n1,n2,hnum,KP.ln,?_⟩ rfl (qa0 (a:=D.bl false) rfl (qa0 (a:=false) rfl q))
   rw[hfe (zAb h)];rfl
 refine qb8 (λ ds=>∃ d6 d7,ds=D6 a.C4 a.C3 zr n wr ps g dn z S v d6 d7 .unk .unk .unk .unk) (λ K hK=>?_) ?_
 . refine Fe (decide (v=2)&&!decide (S=[])) (λ Q q=>qd7 (decide (v=2)) (!decide (S=[])) (λ Q q=>qc6 rfl q) (λ _ Q q=>qc6 (f2_of rfl rfl (Jm S)) q) q) (λ h=>?_) λ _=>hK _ ⟨_,_,rfl⟩
   have hne:S≠[]:=λ e=>by rw[e] at h;simp at h
   have hch:=qal9 (n:=n) (ps:=ps) (g:=g) n.toNat;rw[show E4 n ps g n.toNat=A8 n ps g from rfl] at hch;rcases hch with⟨_,h1⟩ | ⟨i,k,hi,hgi,hb,hmx,hls⟩
   . obtain⟨k0,hk0⟩:=List.exists_mem_of_ne_nil S hne
     obtain⟨i,hi,e⟩:=(KP.h.2 k0).mp hk0;rw[h1 i hi] at e;cases e
   have hmem:(k,((dist n.toNat (hmOf n ps k) i:Nat):Int))∈A8 n ps g:=qB0.mpr ⟨i,hi,hgi,rfl⟩;have hroom:Bu n.toNat g k=.int (i:Nat):=qaJ3 hi hgi λ j hj e=>KP.o.inj j i k hj hi e hgi
   have hM:Gp ((A8 n ps g).map (·.2)) ((dist n.toNat (hmOf n ps k) i:Nat):Int):=⟨zB1.mpr ⟨_,hmem,rfl⟩,λ x hx=>by
     obtain⟨p,hp,rfl⟩:=zB1.mp hx;obtain⟨j,hj,e1,e2⟩:=qB0.mp hp
     have:=hmx j p.1 hj e1
     lia⟩
   obtain⟨r,hr1⟩:=qak3 (p:=λ j=>Ia (A8 n ps g) (g j) ((dist n.toNat (hmOf n ps k) i:Nat):Int)) hi (zC6.mpr ⟨_,hmem,by rw[zAe hgi,zAe rfl];rfl⟩) λ j hj=>by
     refine List.any_eq_false.mpr λ p hp z=>?_
     obtain⟨z1,z2⟩:=zAg.mp z;have z1:=zAb z1;have z2:=zAb z2;obtain⟨j',hj',e1,e2⟩:=qB0.mp hp
     have:=KP.o.inj j' j p.1 hj' (by lia) e1 z1
     subst this
     have:=hls j' p.1 hj z1
     lia
   refine qb1 (D6 a.C4 a.C3 zr n wr ps g dn z S v (.int (dist n.toNat (hmOf n ps k) i:Nat)) .unk .unk .unk .unk .unk) (λ K hK=>?_) ?_
   . refine qe9 (He (qd8 (qa0 (a:=D.lst false (prD (A8 n ps g))) rfl (qa0 (a:=prD (A8 n ps g)) rfl ⟨qr0 _,?_⟩))))
     exact qal0 (by lia) λ _ _=>qb7 (qa0 (qaU7 hM) hK)
   refine qb1 (D6 a.C4 a.C3 zr n wr ps g dn z S v (.int (dist n.toNat (hmOf n ps k) i:Nat)) (.int (i:Nat)) .unk .unk .unk .unk) (λ K hK=>?_) ?_
   . refine qe9 (qad1 (qaG5 (qb9 (y:=.int n) rfl rfl (qb7 (qa0 (a:=n) rfl ⟨qC8 (by lia) (by lia),?_⟩)))))
     refine qj8 (λ ι=>∃ d,ι=[d,.lst false (prD (A8 n ps g)),.int (dist n.toNat (hmOf n ps k) i:Nat),.lst false (rlD n.toNat g)]) (Dq λ x=>Ia (A8 n ps g) (g x.toNat) ((dist n.toNat (hmOf n ps k) i:Nat):Int)) _ [] _ (by show 0+_ < 1000000;rw[qL7];lia) ⟨_,rfl⟩ ?_ ?_
     . rintro y hy ι acc ⟨d,rfl⟩ R hR hacc
       obtain⟨j,hj,rfl⟩:=zB1.mp hy;have hj:=zA9.mp hj;have ej:(0+(j:Int))=((j:Nat):Int):=Int.zero_add _;rw[ej];have this:=hR [.int (j:Nat),.lst false (prD (A8 n ps g)),.int (dist n.toNat (hmOf n ps k) i:Nat),.lst false (rlD n.toNat g)] ⟨_,rfl⟩;rw[ej] at this;refine qu8 ?_;refine qc6 (b:=Ia (A8 n ps g) (g j) ((dist n.toNat (hmOf n ps k) i:Nat):Int)) (f2_of (qT7 (f2_of rfl rfl (Bf hj)) rfl (qax7 _) rfl) rfl qaW3) (ite_b (λ h=>?_) λ h=>?_)
       . rw[qE9 (by exact h)] at this
         exact qI6 (d:=.int (j:Nat)) rfl rfl ⟨hacc,this⟩
       rw[qF0 (by exact h)] at this;have this:R (acc++[]) _:=this;rw[zAf] at this;exact this
     rintro ι ⟨d,rfl⟩;rw[qai5 (p:=λ j=>Ia (A8 n ps g) (g j) ((dist n.toNat (hmOf n ps k) i:Nat):Int)),hr1,zB5];exact qa0 (a:=D.int 0) rfl ⟨rfl,qa0 (a:=D.int (i:Nat)) (qB7 (xs:=D.int (i:Nat)::ksD (r.map λ i:Nat=>(i:Int))) (j:=0) rfl) hK⟩
   refine Fe false (λ Q q=>qz7 ?_) (λ h=>(nomatch h)) λ _=>hK _ ⟨_,_,rfl⟩
   refine Hw (x:=Af zr a.C4 a.C3 n wr ps g dn) (d:=.tup [.int (dist n.toNat (hmOf n ps k) i:Nat),.int k,.int (i:Nat)]) rfl ⟨zr,n,wr,ps,g,dn,rfl,n1,n2,hnum,KP.ln,by rw[hb];show _=D.tup [_,_,Bu n.toNat g k];rw[hroom]⟩ rfl ?_;refine qa0 (a:=D.bl false) ?_ (qa0 (a:=false) rfl q);show (Ay gTup (Au (rdN 6) (Au (f2 gIx (rdN 4) (rdN 7)) (Au (rdN 7) λ _=>some []))) _).bind _=_;unfold Ay Au;rw[f2_of (x:=.lst false (rlD n.toNat g)) (y:=.int (i:Nat)) rfl rfl (Bf hi),hgi];exact qak0 rfl
 rintro ds ⟨d6,d7,rfl⟩;refine qb8 (λ ds=>∃ d8 d9 d10 d11,ds=D6 a.C4 a.C3 zr n wr ps g dn z S v d6 d7 d8 d9 d10 d11) (λ K hK=>?_) ?_
 . refine Fe (decide (v=3)&&!decide (S=[])) (λ Q q=>qd7 (decide (v=3)) (!decide (S=[])) (λ Q q=>qc6 rfl q) (λ _ Q q=>qc6 (f2_of rfl rfl (Jm S)) q) q) (λ h=>?_) λ _=>hK _ ⟨_,_,_,_,rfl⟩
   have hne:S≠[]:=λ e=>by rw[e] at h;simp at h
   obtain⟨k0,hk0⟩:∃ k0,S[0]? = some k0:=⟨_,zAz (zC1.mpr hne)⟩
   obtain⟨k2,hk2⟩:∃ k2,S[S.length / 2]? = some k2:=⟨_,zAz (by have:=zC1.mpr hne;lia)⟩
   obtain⟨S',k1,hk1⟩:∃ S' k1,S=S'++[k1]:=⟨S.dropLast,S.getLast hne,(List.dropLast_concat_getLast hne).symm⟩
   have hi0:gIx (.lst z (ksD S)) (.int 0)=some (.int k0):=qB7 (j:=0) (by unfold ksD;rw[zAv,hk0];rfl);have hi1:gIx (.lst z (ksD S)) (.int (-1))=some (.int k1):=by
     rw[hk1,<- qL8];exact qam1 _ _
   have hi2:gIx (.lst z (ksD S)) (.int ((S.length:Nat) / 2:Nat))=some (.int k2):=qB7 (j:=S.length / 2) (by unfold ksD;rw[zAv,hk2];rfl);have hin:∀ k∈[k0,k1,k2],k∈S:=λ k hk=>by
     simp only[zAi,zBd,or_false] at hk;rcases hk with rfl | rfl | rfl
     . exact zAt hk0
     . rw[hk1];exact zAy _ zA7
     exact zAt hk2
   refine qq5 (d:=.lst false (ksD [k0,k1,k2])) ?_ (qa0 (a:=ksD [k0,k1,k2]) rfl ⟨ql5 _,?_⟩)
   . have e2:f2 gIx (rdN 2) (f2 gDiv (Ay (fx1 Fi) (Au (rdN 2) λ _=>some [])) (kC (.int 2))) (D6 a.C4 a.C3 zr n wr ps g dn z S v d6 d7 .unk .unk .unk .unk)=some (.int k2):=by
       refine f2_of (x:=.lst z (ksD S)) (y:=.int ((S.length:Nat) / 2:Nat)) rfl (f2_of (x:=.int (S.length:Nat)) (y:=.int 2) ?_ rfl ?_) hi2
       . rw[qo7 (z:=z) (ys:=ksD S) rfl,qj0]
       rw[qas4 (by decide) (by decide)];exact congrArg (λ x=>some (D.int x)) (by lia)
     show Ay gLst (Au (f2 gIx (rdN 2) (kC (.int 0))) (Au (f2 gIx (rdN 2) _) (Au (f2 gIx (rdN 2) (f2 gDiv (Ay (fx1 Fi) (Au (rdN 2) λ _=>some [])) (kC (.int 2)))) λ _=>some []))) _=_;unfold Ay Au at e2 ⊢;rw[e2,f2_of (x:=.lst z (ksD S)) (y:=.int 0) rfl rfl hi0,f2_of (x:=.lst z (ksD S)) (y:=.int (-1)) rfl rfl hi1];rfl
   refine qe5 (λ _ ds=>∃ d8 d9 d10 d11,ds=D6 a.C4 a.C3 zr n wr ps g dn z S v d6 d7 d8 d9 d10 d11) _ 0 _ ⟨_,_,_,_,rfl⟩ ?_ λ ds h=>?_
   . rintro _ y hy ds ⟨d8,d9,d10,d11,rfl⟩ K2 hK2
     obtain⟨key,hkey,rfl⟩:=qaq5 hy;have hkS:=hin key (zAt hkey);obtain⟨i,hi,hg⟩:=(KP.h.2 key).mp hkS;have hkl:wr=false->hmOf n ps key<=i:=λ hw=>KP.ln hw i key hi hg
     have hinj:∀ j,j < n.toNat->g j=some key->j=i:=λ j hj e=>KP.o.inj j i key hj hi e hg
     refine qu8 (As (D6 a.C4 a.C3 zr n wr ps g dn z S v d6 d7 (.int key) d9 d10 d11) rfl ?_);have hh:=Bz (n:=n) (ps:=ps) n1 key;refine qb8 (λ ds=>∃ s,ds=D6 a.C4 a.C3 zr n wr ps g dn z S v d6 d7 (.int key) (.tup [.int (s:Nat),.int (hmOf n ps key:Nat)]) d10 d11/\Jl n wr ps g i key s) (λ K hK=>?_) ?_
     . refine qe9 (qN1 (x:=Af zr a.C4 a.C3 n wr ps g dn) (y:=.int key) rfl rfl rfl ⟨zr,n,wr,ps,g,dn,S,key,rfl,n1,n2,hS,KP,hkS,λ j s hj e W=>?_⟩)
       have:=hinj j hj e
       subst this;exact qa0 (a:=D6 a.C4 a.C3 zr n wr ps g dn z S v d6 d7 (.int key) d9 d10 d11) rfl (hK _ ⟨s,rfl,W⟩)
     rintro ds ⟨s,rfl,W⟩;have hs:=W.1;have hc:=W.2.2 S λ i x hi e=>(KP.h.2 x).mpr ⟨i,hi,e⟩
     have hdl:=qf1 hh hs;refine qb1 (D6 a.C4 a.C3 zr n wr ps g dn z S v d6 d7 (.int key) (.tup [.int (s:Nat),.int (hmOf n ps key:Nat)]) (.int (dist n.toNat (hmOf n ps key) i:Nat)) d11) (λ K hK=>?_) ?_
     . refine qe9 (qe0 (qb6 (x:=caseD n wr ps) rfl (qb6 (x:=.int key) rfl (qd8 ?_))))
       refine qL6 (x:=.lst false (rlD n.toNat g)) (y:=.int key) (d:=.int (i:Nat)) rfl rfl rfl ⟨false,n.toNat,g,key,i,rfl,by lia,hi,hg,hinj,rfl⟩ rfl (qb7 ?_);refine qa0 (a:=D.int key) rfl ?_;refine qa0 (a:=caseD n wr ps) rfl ?_;refine⟨_,⟨n,wr,ps,key,(i:Nat),rfl,n1,nd,rfl⟩,?_⟩;refine qa0 (a:=D6 a.C4 a.C3 zr n wr ps g dn z S v d6 d7 (.int key) (.tup [.int (s:Nat),.int (hmOf n ps key:Nat)]) d10 d11) rfl ?_;rw[qr2 n1 hi hkl];exact hK
     have hz:rot n.toNat s 0=s:=by have:=qm1 hs hs;rwa[(qb4 hs hs).mpr rfl] at this
     refine qb1 (D6 a.C4 a.C3 zr n wr ps g dn z S v d6 d7 (.int key) (.tup [.int (s:Nat),.int (hmOf n ps key:Nat)]) (.int (dist n.toNat (hmOf n ps key) i:Nat)) (.lst false (ksD (Bt n.toNat s 0)))) (λ K hK=>?_) ?_
     . refine qK4 (d:=.lst false (ksD (Bt n.toNat s 0))) ?_ hK
       unfold Bt;show _=some (D.lst false [.int (rot n.toNat s 0:Nat)]);rw[hz];rfl
     refine qb1 (D6 a.C4 a.C3 zr n wr ps g dn z S v d6 d7 (.int key) (.tup [.int (s:Nat),.int (hmOf n ps key:Nat)]) (.int (dist n.toNat (hmOf n ps key) i:Nat)) (.lst false (ksD (Bt n.toNat s (dist n.toNat s (hmOf n ps key)))))) (λ K hK=>?_) ?_
     . refine qF7 (λ m ds=>∃ t,ds=D6 a.C4 a.C3 zr n wr ps g dn z S v d6 d7 (.int key) (.tup [.int (s:Nat),.int (hmOf n ps key:Nat)]) (.int (dist n.toNat (hmOf n ps key) i:Nat)) (.lst false (ksD (Bt n.toNat s t)))/\t+m=dist n.toNat s (hmOf n ps key)) (dist n.toNat s (hmOf n ps key)) ⟨0,rfl,by lia⟩ ?_
       rintro m ds ⟨t,rfl,ht⟩ K3 hK3;refine qd7 (!(((rot n.toNat s t:Nat):Int) == ((hmOf n ps key:Nat):Int))) (decide (((t+1:Nat):Int)<=n)) (λ Q q=>qc6 (f2_of (f2_of rfl rfl qT3) rfl rfl) q) (λ _ Q q=>qc6 (f2_of (x:=.int ((t+1:Nat):Int)) (y:=.int n) (by rw[qo7 (z:=false) (ys:=ksD (Bt n.toNat s t)) rfl,qj0,qN6]) rfl rfl) q) ?_;by_cases e:t=dist n.toNat s (hmOf n ps key)
       . have e2:rot n.toNat s t=hmOf n ps key:=by rw[e];exact qm1 hs hh
         rw[e2,zBe];refine Bs (by simp) ?_;rw[e];exact hK
       have e2:rot n.toNat s t≠hmOf n ps key:=λ z=>e (by rw[<- z,ql1 hs (by lia)])
       have e3:(((rot n.toNat s t:Nat):Int) == ((hmOf n ps key:Nat):Int))=false:=zBj.mpr (by lia);rw[e3,zAe (show ((t+1:Nat):Int)<=n by lia)];refine Dp rfl (qi3 (qY4 (ys:=ksD (Bt n.toNat s t)) (d:=.int (rot n.toNat s (t+1):Nat)) rfl (f2_of (f2_of (f2_of rfl rfl qT3) rfl rfl) rfl ?_) (by rw[qj0,qN6];unfold big;lia) ?_))
       . rw[Dh (by lia)]
         have a:=qG9 hs (show t < n.toNat by lia);have e4:rot n.toNat s (t+1)=(rot n.toNat s t+1) % n.toNat:=by
           rw[qaJ2 a (by lia)];unfold rot
           split<;>split<;>split<;>lia
         rw[e4];exact congrArg (λ x=>some (D.int x)) (by rw[Int.natCast_emod,show ((n.toNat:Nat):Int)=n by lia];rfl)
       rw[qL8,qan1];exact hK3 (m - 1) _ (by lia) ⟨t+1,rfl,by lia⟩
     refine Fe false (λ Q q=>qz7 ?_) (λ h=>(nomatch h)) λ _=>hK2 _ ⟨_,_,_,_,rfl⟩
     refine He (qd8 (qa0 (a:=D.lst z (ksD S)) rfl (qa0 (a:=ksD S) rfl ⟨ql5 S,?_⟩)));refine qj8 (λ ι=>∃ d,ι=[d,.lst false (ksD (Bt n.toNat s (dist n.toNat s (hmOf n ps key)))),caseD n wr ps]) (Dq λ y=>decide (dist n.toNat s (hmOf n ps y)<=dist n.toNat s (hmOf n ps key))) _ [] _ (by show 0+_ < 1000000;rw[qj0];lia) ⟨_,rfl⟩ ?_ ?_
     . rintro y hy ι acc ⟨d,rfl⟩ R hR hacc
       obtain⟨k,_,rfl⟩:=zB1.mp hy;have this:=hR [.int k,.lst false (ksD (Bt n.toNat s (dist n.toNat s (hmOf n ps key)))),caseD n wr ps] ⟨_,rfl⟩;refine qu8 (qz7 (qN1 (x:=caseD n wr ps) (y:=.int k) rfl rfl rfl ⟨_,⟨n,wr,ps,k,rfl,n1,nd,rfl⟩,?_⟩));refine qa0 (a:=[.int k,.lst false (ksD (Bt n.toNat s (dist n.toNat s (hmOf n ps key)))),caseD n wr ps]) rfl ?_;rw[<- qF2 n1 k];refine qa0 (a:=D.bl (decide (((hmOf n ps k:Nat):Int)∈Bt n.toNat s (dist n.toNat s (hmOf n ps key))))) (qaO1 (z:=false)) (qa0 (a:=decide (((hmOf n ps k:Nat):Int)∈Bt n.toNat s (dist n.toNat s (hmOf n ps key)))) rfl ?_);rw[zC4.mpr (qay7 hs (Bz n1 k) hdl)];refine ite_b (λ h=>?_) λ h=>?_
       . rw[qE9 h] at this
         exact qI6 (d:=.int k) rfl rfl ⟨hacc,this⟩
       rw[qF0 h] at this;have this:R (acc++[]) _:=this;rw[zAf] at this;exact this
     rintro ι ⟨d,rfl⟩;rw[qI4,zB5];refine qb7 (qa0 (a:=D.int ((S.filter λ y=>decide (dist n.toNat s (hmOf n ps y)<=dist n.toNat s (hmOf n ps key))).length:Nat)) (by show some (D.int ((ksD _).length:Nat))=_;rw[qj0]) ?_);refine qa0 (a:=D.bl false) ?_ (qa0 (a:=false) rfl q);rw[f2_of (x:=.int ((dist n.toNat s (hmOf n ps key)+1:Nat):Int)) (y:=(.int (dist n.toNat (hmOf n ps key) i:Nat))) (by rw[qo7 (z:=false) (ys:=ksD (Bt n.toNat s (dist n.toNat s (hmOf n ps key)))) rfl,qj0,qN6]) rfl rfl];show some (D.bl (decide _))=_;rw[zB3 (by lia)]
   obtain⟨d8,d9,d10,d11,rfl⟩:=h;exact hK _ ⟨_,_,_,_,rfl⟩
 rintro ds ⟨d8,d9,d10,d11,rfl⟩;exact qd1 (.bl true) rfl q
theorem qP6:qa9 ["plan", "keys", "room"] ["plan", "keys", "room"] (qa3 qs8):=by walk_at "s"
def qO8(C:Addr):VSp:=Av λ ds d=>∃ z n wr ps z' ks r,ds=[planD z C n wr ps,.lst z' (ksD ks),.int r]/\1<=n/\(∀ k∈ks,Ak k)/\ks.length<=1000/\d=.bl (if wr=true then decide (r=0)&&decide (n < (ks.length:Int)) else decide (n - r < ((ks.filter λ k=>decide (r<=qd2 n ps k)).length:Int)))
theorem qQ8(T:Txt K mg a):VFn P w K mg base 5 a.f17 a.d17 ["plan", "keys", "room"] (qO8 a.C3):=by
 refine VFn.mk2 T.d17.F qP6 (wOf [true,true,true]) qb3 (λ ds Q xe h=>by obtain⟨d,⟨z,n,wr,ps,z',ks,r,e,_⟩,_⟩:=h;rw[e];exact⟨rfl,rfl⟩) (λ cdv A outer sh H E av hr=>⟨_,(Ab (sif (tv (Be rfl (vnm 0) T.C5.cl T.Cd))
     (Ad (Ap (qa5 (vand (v2 (A4 (qf5 hr.u64) (qa8 _)) A9 (vnm 2) Ac) (Hq (v2 (A4 By (qa8 _)) Da (vbi qr5 qr4.ops T.Ci (qa2 (vnm 1) qa6 rfl)) (Be rfl (vnm 0) T.C5.cl T.C7)))))))
     Aq)
     (Ad (Ap (e2v (A4 By (qa8 _)) Da (ebi qr5 qr4.ops T.Ci (Dk (vaV (ecN (NY:=["key", "room", "plan"]) (src:=[none,some 2,some 0]) 1 (blk (λ av C s0 H0 ex=>(Ba 0 (show (["key", "room", "plan"]:List Str).Nodup by decide +kernel))) (λ av C s0 H0 ex=>(Fc (q2v (A4 G2 (qa8 _)) (Aj G2 (qa8 _)) Iu (ql8 2 T.d9 T.C5.cl (ql0 T) qu4 (rm hr) (vaN 0 Aa)) (vnm 1)))) (λ av C s0 H0 ex=>(qb5 (vnm 0))))) Aa))) (v2 (Al qt6) qt3 (Be rfl (vnm 0) T.C5.cl T.C7) (vnm 2)))))),λ ds Q xe h=>?_⟩)
 obtain⟨d,⟨z,n,wr,ps,z',ks,r,rfl,h1,hk,hl,rfl⟩,q⟩:=h;refine As [planD z a.C3 n wr ps,.lst z' (ksD ks),.int r] rfl ?_;refine qg0 wr (A5 rfl qx5) (λ h=>?_) λ h=>?_
 . rw[if_pos h] at q
   have hl2:f2 gGt (Ay (fx1 Fi) (Au (rdN 1) λ _=>some [])) (f1 (D.fld a.C3 "rooms") (rdN 0)) [planD z a.C3 n wr ps,.lst z' (ksD ks),.int r]=some (.bl (decide (n < (ks.length:Int)))):=f2_of (qo7 rfl) (A5 rfl qe1) (by rw[qj0];rfl);exact qd1 _ (qak4 (a:=decide (r=0)) rfl hl2) q
 rw[if_neg (by rw[h];decide)] at q;refine qh5 ?_;refine⟨ql5 ks,?_⟩;refine qj8 (λ ι=>∃ d,ι=[d,.int r,planD z a.C3 n wr ps]) (Dq λ k=>decide (r<=qd2 n ps k)) (ksD ks) [] _ (by show 0+(ksD ks).length < big;rw[qj0];unfold big;lia) ⟨_,rfl⟩ ?_ ?_
 . rintro y hy ι acc ⟨d,rfl⟩ R hR hacc
   obtain⟨k,hk',rfl⟩:=zB1.mp hy;refine qI0 (p:=planD z a.C3 n wr ps) (x:=.int k) (d:=.int (qd2 n ps k)) rfl (qe4 rfl) rfl rfl ⟨z,n,wr,ps,k,rfl,h1,hk k hk',rfl⟩ rfl ?_;have this:=hR _ ⟨.int k,rfl⟩;refine qa0 (a:=D.bl (decide (r<=qd2 n ps k))) rfl (qa0 (a:=decide (r<=qd2 n ps k)) rfl (ite_b (λ h=>?_) λ h=>?_))
   . rw[qE9 (p:=λ k=>decide (r<=qd2 n ps k)) h] at this
     exact⟨rfl,hacc,this⟩
   rw[qF0 (p:=λ k=>decide (r<=qd2 n ps k)) h] at this;have this:R (acc++[]) _:=this;rw[zAf] at this;exact this
 rintro ι ⟨d,rfl⟩;rw[zB5,qI4];refine qa0 (a:=D.bl (decide (n - r < ((ks.filter λ k=>decide (r<=qd2 n ps k)).length:Int)))) ?_ q;show (f2 gSub (f1 (D.fld a.C3 "rooms") (rdN 0)) (rdN 2) [planD z a.C3 n wr ps,.lst z' (ksD ks),.int r]).bind (gGt (D.int ((ksD (ks.filter λ k=>decide (r<=qd2 n ps k))).length:Nat)))=_;rw[f2_of (A5 rfl qe1) rfl rfl,qj0];rfl
theorem qn7:qa9 ["plan", "keys", "room"] ["plan", "keys"] (qa3 qk2):=by walk_at "s"
def qM9(n:Int)(wr:Bool)(ps:Pr)(ks:List Int)(r:Int):Bool:=if wr=true then decide (r=0)&&decide (n < (ks.length:Int)) else decide (n - r < ((ks.filter λ k=>decide (r<=qd2 n ps k)).length:Int))
def qX6(n:Int)(wr:Bool)(ps:Pr)(ks:List Int):Option Nat:=(List.range n.toNat).find? λ r=>qM9 n wr ps ks (r:Int)
def natD:Option Nat->D
 | none=>.non
 | some k=>.int (k:Int)
def qC0(C:Addr):VSp:=Av λ ds d=>∃ z n wr ps z' ks,ds=[planD z C n wr ps,.lst z' (ksD ks)]/\1<=n/\n<=64/\(∀ k∈ks,Ak k)/\ks.length<=1000/\d=natD (qX6 n wr ps ks)
theorem qC7(T:Txt K mg a):VFn P w K mg base 6 a.f18 a.d18 ["plan", "keys"] (qC0 a.C3):=by
 refine VFn.mk2 T.d18.F qn7 (wOf [true,true]) qb3 (λ ds Q xe h=>by obtain⟨d,⟨z,n,wr,ps,z',ks,e,_⟩,_⟩:=h;rw[e];exact⟨rfl,rfl⟩) (λ cdv A outer sh H E av hr=>⟨_,(Ab (qK3 PassesOwn.leaving T.Cc (Dk (vaV (qb5 (Be rfl (vnm 0) T.C5.cl T.C7)) Aa)) (Ba 2 qn7.nd)
     (Ad (sif (te (Ae T.d17 (qQ8 T) qa1 (rm hr) (vaN 0 (vaN 1 (vaN 2 Aa)))))
     (Ad (Ap (emv 2)))
     Aq)))
     (Ad (Ap (qa5 A6)))),λ ds Q xe h=>?_⟩)
 obtain⟨d,⟨z,n,wr,ps,z',ks,rfl,h1,h2,hk,hl,rfl⟩,q⟩:=h;refine As [planD z a.C3 n wr ps,.lst z' (ksD ks),.unk] rfl ?_;refine qb8 (λ ds=>(∀ i,i < n.toNat->qM9 n wr ps ks (i:Int)=false)/\∃ d,ds=[planD z a.C3 n wr ps,.lst z' (ksD ks),d]) (λ K hK=>?_) ?_
 . refine qI8 (A5 rfl qe1) (qC8 (by lia) (by lia)) ?_
   refine qe5 (λ i ds=>(∀ j,j < i->qM9 n wr ps ks (j:Int)=false)/\∃ d,ds=[planD z a.C3 n wr ps,.lst z' (ksD ks),d]) _ 0 _ ⟨λ j hj=>absurd hj (Nat.not_lt_zero _),_,rfl⟩ ?_ ?_
   . rintro j x hx ds ⟨hf,d,rfl⟩ K hK
     rw[zB6] at hf hK;obtain⟨hj,rfl⟩:=qH1 hx;refine if_e (b:=qM9 n wr ps ks (j:Int)) (λ Q xe q=>qL5 (x:=planD z a.C3 n wr ps) (y:=.lst z' (ksD ks)) (w:=.int (j:Int)) rfl rfl rfl rfl rfl ⟨z,n,wr,ps,z',ks,_,rfl,h1,hk,hl,rfl⟩ rfl q) (λ hb=>?_) (λ hb=>?_)
     . have e:qX6 n wr ps ks=some j:=List.find?_range_eq_some.mpr ⟨hb,zA9.mpr hj,λ i hi=>by rw[hf i hi];rfl⟩
       rw[e] at q;exact q
     refine hK _ ⟨λ i hi=>?_,_,rfl⟩;rcases Nat.lt_succ_iff_lt_or_eq.mp hi with h | rfl
     . exact hf i h
     exact hb
   rintro ds ⟨hf,hd⟩;refine hK _ ⟨λ i hi=>hf i ?_,hd⟩;unfold Bm;rw[zAc,zAq,zB6];exact hi
 rintro ds ⟨hf,d,rfl⟩;have e:qX6 n wr ps ks=none:=List.find?_range_eq_none.mpr λ i hi=>by rw[hf i hi];rfl
 rw[e] at q;exact q
theorem qn6:qa9 ["plan", "keys", "room"] ["plan", "keys"] (qa3 qk0):=by walk_at "s"
def qL2(n:Int)(wr:Bool)(ps:Pr)(ks:List Int):Prop:=∀ r:Nat,r < n.toNat->qM9 n wr ps ks (r:Int)=false
theorem qS7{n:Int}{wr:Bool}{ps:Pr}(h:qL2 n wr ps ks):qX6 n wr ps ks=none:=List.find?_range_eq_none.mpr λ i hi=>by rw[h i hi];rfl
theorem qas8{n:Int}{wr:Bool}{ps:Pr}(h1:1<=n)(hr:r < n.toNat):qM9 n wr ps ks (r:Int)=true↔Crowd n.toNat wr (hmOf n ps) ks r:=by
 unfold qM9 Crowd;cases wr with
 | true =>
   simp only[if_true,zBi,zBf];lia
 | false =>
   have e:(ks.filter λ k=>decide ((r:Int)<=qd2 n ps k))=ks.filter λ k=>decide (r<=hmOf n ps k):=by
     apply List.filter_congr;intro k _
     have:=qF2 (ps:=ps) h1 k
     apply zC4.mpr;lia
   simp only[Bool.false_eq_true,if_false,e,zBf];lia
theorem qL2.of{n:Int}{wr:Bool}{ps:Pr}(h1:1<=n)(h:∀ q,¬ Crowd n.toNat wr (hmOf n ps) ks q):qL2 n wr ps ks:=λ r hr=>by
 cases e:qM9 n wr ps ks (r:Int) with
 | false=>rfl
 | true=>exact absurd ((qas8 h1 hr).mp e) (h r)
def qB8(C:Addr):VSp:=Av λ ds d=>∃ z n wr ps z' ks,ds=[planD z C n wr ps,.lst z' (ksD ks)]/\1<=n/\n<=64/\(∀ k∈ks,Ak k)/\ks.length<=1000/\qL2 n wr ps ks/\d=.non
theorem qC5(T:Txt K mg a):VFn P w K mg base 7 a.f19 a.d19 ["plan", "keys"] (qB8 a.C3):=by
 refine VFn.mk2 T.d19.F qn6 (wOf [true,true]) qb3 (λ ds Q xe h=>by obtain⟨d,⟨z,n,wr,ps,z',ks,e,_⟩,_⟩:=h;rw[e];exact⟨rfl,rfl⟩) (λ cdv A outer sh H E av hr=>⟨_,(Ab (Ah 2 qn6.nd (Ae T.d18 (qC7 T) qa1 (rm hr) (vaN 0 (vaN 1 Aa))))
     (Ad (sif (q2 (Aj qj5 (qa8 _)) qn1 (vnm 2) A6)
     (Ad qj9)
     Aq))),λ ds Q xe h=>?_⟩)
 obtain⟨d,⟨z,n,wr,ps,z',ks,rfl,h1,h2,hk,hl,nc,rfl⟩,q⟩:=h;refine As [planD z a.C3 n wr ps,.lst z' (ksD ks),.unk] rfl ?_;refine qb1 [planD z a.C3 n wr ps,.lst z' (ksD ks),.non] (λ K hK=>?_) ?_
 . exact qL6 (x:=planD z a.C3 n wr ps) (y:=.lst z' (ksD ks)) (d:=.non) rfl rfl rfl ⟨z,n,wr,ps,z',ks,rfl,h1,h2,hk,hl,by rw[qS7 nc];rfl⟩ rfl hK
 exact if_v (b:=false) rfl (λ h=>nomatch h) λ _=>q
theorem qg9:qa9 ["plan", "rooms", "key", "came", "room", "held"] ["plan", "rooms", "key"] (qa3 qz0):=by walk_at "s"
def qZ1(C:Addr):VSp:=λ ds Q _=>∃ z n wr ps g S key,ds=[planD z C n wr ps,.lst false (rlD n.toNat g),.int key]/\1<=n/\n<=64/\Ak key/\(∀ k∈S,Ak k)/\Kept n.toNat wr (hmOf n ps) g S/\¬ key∈S/\(∃ e,Gd n.toNat wr (hmOf n ps) g key e) /\
 ∀ came g',Kept n.toNat wr (hmOf n ps) g' (S++[key])->Q (.lst false came) [planD z C n wr ps,.lst false (rlD n.toNat g'),.int key]
theorem qE3(T:Txt K mg a):VFn P w K mg base 7 a.f20 a.d20 ["plan", "rooms", "key"] (qZ1 a.C3):=by
 refine VFn.mk2 T.d20.F qg9 (wOf [true,true,false]) (λ ds Q Q' xe xe' hQ _ h=>by obtain⟨z,n,wr,ps,g,S,key,e,h1,h2,h3,h4,h5,h6,h7,q⟩:=h;exact⟨z,n,wr,ps,g,S,key,e,h1,h2,h3,h4,h5,h6,h7,λ c g' K=>hQ _ _ (q c g' K)⟩) (λ ds Q xe h=>by obtain⟨z,n,wr,ps,g,S,key,e,_⟩:=h;rw[e];exact⟨rfl,rfl⟩) (λ cdv A outer sh H E av hr=>⟨_,(Ab (Ah 3 qg9.nd (qa5 (Bk qa6)))
     (Ab (Ah 4 qg9.nd (ql8 0 T.d9 T.C5.cl (ql0 T) qa1 (rm hr) (vaN 2 Aa)))
     (Ab (qU0 PassesOwn.leaving (q2 (Aj qj5 (qa8 _)) qn1 (v2 (An qb0) Ag (vnm 1) (vnm 4)) A6)
     (Ab (Ah 5 qg9.nd (qb5 (v2 (An qb0) Ag (vnm 1) (vnm 4))))
     (Ab (sif (te (ql8 0 T.d11 T.C5.cl (qj6 T) qa1 (rm hr) (vaN 4 (vaN 2 (vaN 5 Aa)))))
     (Ab (Bh (Dy 3 qw6 PySem.F.plainAttrs_list PySem.F.slot_list_append PySem.F.type_list_append qd5 (vaV (qa5 (Ep (qa2 (vnm 2) (qa2 (vnm 4) qa6 rfl) rfl))) Aa)))
     (Ab (Er (qb5 (vnm 2)) (Dm (vpn 1) (vnm 4)))
     (Ad (Ah 2 qg9.nd (qb5 (vnm 5))))))
     Aq)
     (Ad (Ah 4 qg9.nd (qa5 (v2 (Al qk9) qk6 (v2 (Al qk8) qk7 (vnm 4) Ac) (Be rfl (vnm 0) T.C5.cl T.C7))))))))
     (Ab (Bh (Dy 3 qw6 PySem.F.plainAttrs_list PySem.F.slot_list_append PySem.F.type_list_append qd5 (vaV (qa5 (Ep (qa2 (vnm 2) (qa2 (vnm 4) qa6 rfl) rfl))) Aa)))
     (Ab (Er (qb5 (vnm 2)) (Dm (vpn 1) (vnm 4)))
     (Ad (Ap (emv 3)))))))),λ ds Q xe h=>?_⟩)
 obtain⟨z,n,wr,ps,g,S,key,rfl,n1,n2,hkey,hS,KP,nin,⟨e,Fr⟩,q⟩:=h;have hh:=Bz (ps:=ps) n1 key;have hT:∀ x∈S++[key],Ak x:=λ x hx=>by
   rcases zAh.mp hx with h | h
   . exact hS x h
   rw[zAm.mp h];exact hkey
 have hnd:(S++[key]).Nodup:=zBn.mpr ⟨KP.h.1,(by simp),λ x hx y hy e=>nin (by rw[<- zAm.mp hy,<- e];exact hx)⟩;refine As [planD z a.C3 n wr ps,.lst false (rlD n.toNat g),.int key,.unk,.unk,.unk] rfl ?_;refine qb1 [planD z a.C3 n wr ps,.lst false (rlD n.toNat g),.int key,.lst false [],.unk,.unk] (λ K hK=>hK) ?_;refine qb1 [planD z a.C3 n wr ps,.lst false (rlD n.toNat g),.int key,.lst false [],.int (hmOf n ps key:Nat),.unk] (λ K hK=>?_) ?_
 . exact qI0 (p:=planD z a.C3 n wr ps) (x:=.int key) (d:=.int (hmOf n ps key:Nat)) rfl (qe4 rfl) rfl rfl ⟨z,n,wr,ps,key,rfl,n1,hkey,by rw[qF2 n1]⟩ rfl hK
 refine qb8 (λ ds=>∃ g2 c r came d5,ds=[planD z a.C3 n wr ps,.lst false (rlD n.toNat g2),.int c,.lst false came,.int (r:Nat),d5]/\Row.Walk n.toNat wr (hmOf n ps) (S++[key]) key e g2 c r/\g2 r=none/\came.length<=64) (λ K hK=>?_) ?_
 . have W0:=KP.start nin Fr
   refine qF7 (λ m ds=>∃ g2 c r came d5,ds=[planD z a.C3 n wr ps,.lst false (rlD n.toNat g2),.int c,.lst false came,.int (r:Nat),d5]/\Row.Walk n.toNat wr (hmOf n ps) (S++[key]) key e g2 c r/\m=dist n.toNat (hmOf n ps key) e - dist n.toNat (hmOf n ps key) r/\came.length+m<=64) _ ⟨g,key,hmOf n ps key,[],_,rfl,W0,rfl,by have:=qf1 Fr.1 hh;show 0+_<=64;lia⟩ ?_;rintro m ds ⟨g2,c,r,came,d5,rfl,W,rfl,hc⟩ K2 hK2;have hr:=W.hr;cases hg:g2 r with
   | none =>
     refine qc6 (b:=false) (f2_of (f2_of rfl rfl (Bf hr)) rfl (by rw[hg];rfl)) ?_;exact hK _ ⟨g2,c,r,came,d5,rfl,W,hg,by lia⟩
   | some y =>
     refine qc6 (b:=true) (f2_of (f2_of rfl rfl (Bf hr)) rfl (by rw[hg];rfl)) ?_;have hx:wr=false->hmOf n ps c<=r:=λ h=>(W.ln h).2.1
     have hy:wr=false->hmOf n ps y<=r:=λ h=>(W.ln h).2.2 r y hr hg
     have cT:Ak c:=hT c ((W.all c).mpr (.inl rfl));have yT:Ak y:=hT y ((W.all y).mpr (.inr ⟨r,hr,hg⟩));have lt:=W.lt hg;have nx:=W.nx hg;refine Dp rfl ?_;refine qb1 [planD z a.C3 n wr ps,.lst false (rlD n.toNat g2),.int c,.lst false came,.int (r:Nat),.int y] (λ K hK=>?_) ?_
     . exact qn5 (d:=.int y) (f2_of rfl rfl (by rw[Bf hr,hg];rfl)) rfl hK
     refine qb8 (λ ds=>∃ g3 c3 came3,ds=[planD z a.C3 n wr ps,.lst false (rlD n.toNat g3),.int c3,.lst false came3,.int (r:Nat),.int y]/\Row.Walk n.toNat wr (hmOf n ps) (S++[key]) key e g3 c3 (Row.next n.toNat r)/\came3.length<=came.length+1) (λ K hK=>?_) ?_
     . refine if_e (b:=qf3 n wr ps (r:Nat) c y) (λ Q xe q=>qaU8 (p:=planD z a.C3 n wr ps) (x:=.int (r:Nat)) (y:=.int c) (w:=.int y) rfl (qe4 rfl) rfl rfl rfl rfl rfl rfl ⟨z,n,wr,ps,(r:Nat),c,y,rfl,n1,by lia,by lia,cT,yT,rfl⟩ rfl q) (λ hb=>?_) (λ hb=>?_)
       . have ha:=(qr6 n1 hr hx hy).mp hb
         refine qb1 [planD z a.C3 n wr ps,.lst false (rlD n.toNat g2),.int c,.lst false (came++[.tup [.int c,.int (r:Nat)]]),.int (r:Nat),.int y] (λ K hK=>?_) ?_
         . exact qY4 (ys:=came) (d:=.tup [.int c,.int (r:Nat)]) rfl rfl (by show came.length < 1000000;lia) hK
         refine qb1 [planD z a.C3 n wr ps,.lst false (rlD n.toNat (Row.set g2 r c)),.int c,.lst false (came++[.tup [.int c,.int (r:Nat)]]),.int (r:Nat),.int y] (λ K hK=>?_) ?_
         . refine qJ4 (d:=.int c) (ys:=rlD n.toNat g2) rfl rfl rfl rfl (qL9 hr) ?_
           rw[qr9];exact hK
         exact qn5 (d:=.int y) rfl rfl (hK _ ⟨Row.set g2 r c,y,_,rfl,W.swap hg ha,by rw[zA8];exact zA3 _⟩)
       exact hK _ ⟨g2,c,came,rfl,W.on hg (λ h=>by rw[(qr6 n1 hr hx hy).mpr h] at hb;cases hb),by lia⟩
     rintro ds ⟨g3,c3,came3,rfl,W3,hc3⟩;refine qK4 (d:=.int (Row.next n.toNat r:Nat)) (f2_of (f2_of rfl rfl rfl) (A5 rfl qe1) (by rw[Dh (by lia),qR3 n1 hr])) ?_;exact hK2 _ _ (by rw[nx];lia) ⟨g3,c3,_,came3,_,rfl,W3,rfl,by rw[nx];lia⟩
 rintro ds ⟨g2,c,r,came,d5,rfl,W,hg,hc⟩;have hr:=W.hr;refine qb1 [planD z a.C3 n wr ps,.lst false (rlD n.toNat g2),.int c,.lst false (came++[.tup [.int c,.int (r:Nat)]]),.int (r:Nat),d5] (λ K hK=>?_) ?_
 . exact qY4 (ys:=came) (d:=.tup [.int c,.int (r:Nat)]) rfl rfl (by show came.length < 1000000;lia) hK
 refine qb1 [planD z a.C3 n wr ps,.lst false (rlD n.toNat (Row.set g2 r c)),.int c,.lst false (came++[.tup [.int c,.int (r:Nat)]]),.int (r:Nat),d5] (λ K hK=>?_) ?_
 . refine qJ4 (d:=.int c) (ys:=rlD n.toNat g2) rfl rfl rfl rfl (qL9 hr) ?_
   rw[qr9];exact hK
 exact q _ _ (W.done hnd hg)
theorem qy4:qa9 ["self"] ["self"] (qa3 qi7):=by walk_at "s"
def Jn(y:D):Option D:=match y with
 | .int k=>some (.int k)
 | _=>none
theorem qaE8(N:Nat)(g:Nat->Option Int):(rlD N g).filterMap Jn=ksD ((List.range N).filterMap g):=by
 unfold rlD ksD;rw[List.filterMap_map,List.map_filterMap];refine congrArg (λ f=>List.filterMap f (List.range N)) (funext λ i=>?_);show Jn (De (g i))=(g i).map D.int;cases g i<;>rfl
def qx9(C CP:Addr):VSp:=Av λ ds d=>∃ n wr ps g dn,ds=[Af false C CP n wr ps g dn]/\n<=64/\d=.lst false (ksD ((List.range n.toNat).filterMap g))
theorem qA3(T:Txt K mg a):VFn P w K mg base 1 a.f26 a.d26 ["self"] (qx9 a.C4 a.C3):=by
 refine VFn.mk2 T.d26.F qy4 (wOf [true]) qb3 (λ ds Q xe h=>by obtain⟨d,⟨n,wr,ps,g,dn,e,_⟩,_⟩:=h;rw[e];exact⟨rfl,rfl⟩) (λ cdv A outer sh H E av hr=>⟨_,(Ad (Ap (ecP (NY:=["key"]) (src:=[none]) (Ec rfl (vpn 0) T.C6.cl T.C9) (blk (λ av C s0 H0 ex=>(Ba 0 (show (["key"]:List Str).Nodup by decide +kernel))) (λ av C s0 H0 ex=>(Fc (q2 (Aj qj5 (qa8 _)) qn1 (vnm 0) A6))) (λ av C s0 H0 ex=>(qb5 (vnm 0))))))),λ ds Q xe h=>?_⟩);obtain⟨d,⟨n,wr,ps,g,dn,rfl,n2,rfl⟩,q⟩:=h;refine As [Af false a.C4 a.C3 n wr ps g dn] rfl ?_;refine qh5 (qa0 (a:=(0,[1])) (by show (D.fidx a.C4 "held" (Af false a.C4 a.C3 n wr ps g dn)).map (λ n=>(0,[n]))=_;rw[qm8];rfl) (qa0 (a:=D.lst false (rlD n.toNat g)) rfl (qa0 (a:=rlD n.toNat g) rfl ⟨qF1 _ _,λ w=>?_⟩)));refine qj8 (λ ι=>∃ d,ι=[d]) Jn _ [] _ (by show 0+_ < 1000000;rw[qo0];lia) ⟨_,rfl⟩ ?_ ?_
 . rintro y hy ι acc ⟨d,rfl⟩ R hR hacc
   have this:=hR [y] ⟨_,rfl⟩;refine qu8 ?_;rcases qaJ4 hy with rfl | ⟨k,rfl⟩
   . have this:R (acc++[]) _:=this
     rw[zAf] at this;exact qc6 (b:=false) (f2_of rfl rfl rfl) (Bs (by decide) this)
   exact qc6 (b:=true) (f2_of rfl rfl rfl) (Dp rfl (qI6 (d:=.int k) rfl rfl ⟨hacc,this⟩))
 rintro ι ⟨d,rfl⟩;rw[qaE8,zB5];exact qa0 (qaY0 rfl) q
theorem qae1:qa9 ["self", "key"] ["self", "key"] (qa3 qG7):=by walk_at "s"
theorem _root_.Row.Kept.perm{n:Nat}{wr:Bool}{hm:Int->Nat}{g:Nat->Option Int}(KP:Kept n wr hm g S):((List.range n).filterMap g).Perm S:=by
 refine(List.perm_ext_iff_of_nodup ?_ KP.h.1).mpr λ k=>?_
 . refine List.pairwise_filterMap.mpr (List.Pairwise.imp_of_mem (R:=(·≠·)) (λ{i j} hi hj ne b hb b' hb' e=>?_) List.nodup_range)
   subst e;exact ne (KP.o.inj i j b (zA9.mp hi) (zA9.mp hj) hb hb')
 rw[KP.h.2 k,List.mem_filterMap];exact⟨λ ⟨i,hi,e⟩=>⟨i,zA9.mp hi,e⟩,λ ⟨i,hi,e⟩=>⟨i,zA9.mpr hi,e⟩⟩
theorem qJ0{C CP:Addr}{n:Int}{wr:Bool}{ps:Pr}{g:Nat->Option Int}{dn:Ds}:D.fidx C "done" (Af false C CP n wr ps g dn)=some 2:=by
 show (if C=C then List.findIdx? (λ q:Str×D=>("done" : Str) == q.1) [("plan",planD true CP n wr ps),("held",.lst false (rlD n.toNat g)),("done",.lst false dn)] else none)=_;rw[if_pos rfl];rfl
def qad4(C CP:Addr):VSp:=λ ds Q _=>∃ n wr ps g dn S k,ds=[Af false C CP n wr ps g dn,.int k]/\1<=n/\n<=64/\Ak k/\(∀ x∈S,Ak x)/\Kept n.toNat wr (hmOf n ps) g S/\¬ k∈S/\(∀ q,¬ Crowd n.toNat wr (hmOf n ps) (S++[k]) q)/\dn.length<=1000 /\
 ∀ came g',Kept n.toNat wr (hmOf n ps) g' (S++[k])->Q (.lst false came) [Af false C CP n wr ps g' (dn++[.tup [.str "put",.int k]]),.int k]
theorem qag0(T:Txt K mg a):VFn P w K mg base 8 a.f28 a.d28 ["self", "key"] (qad4 a.C4 a.C3):=by
 refine VFn.mk2 T.d28.F qae1 (wOf [true,true]) (λ ds Q Q' xe xe' hQ _ h=>by obtain⟨n,wr,ps,g,dn,S,k,e,h1,h2,h3,h4,h5,h6,h7,h8,q⟩:=h;exact⟨n,wr,ps,g,dn,S,k,e,h1,h2,h3,h4,h5,h6,h7,h8,λ c g' K=>hQ _ _ (q c g' K)⟩) (λ ds Q xe h=>by obtain⟨n,wr,ps,g,dn,S,k,e,_⟩:=h;rw[e];exact⟨rfl,rfl⟩) (λ cdv A outer sh H E av hr=>⟨_,(Ab (sif (q2v (A4 qj5 (qa8 _)) (Aj qj5 (qa8 _)) qn1 (ql8 0 T.d27 T.C6.cl (qg8 T) qa1 (rm hr) (vaN 1 Aa)) A6)
     (Ad qj9)
     Aq)
     (Ab (Bh (Ae T.d19 (qC5 T) qa1 (rm hr) (vaV (qb5 (Be rfl (vnm 0) T.C6.cl T.Ca)) (vaV (e2v (Al qk8) qk7 (qM8 0 T.d26 T.C6.cl (qA3 T) qa1 (rm hr)) (Bk (qa2 (vnm 1) qa6 rfl))) Aa))))
     (Ab (Bh (Hb qw6 PySem.F.plainAttrs_list PySem.F.slot_list_append PySem.F.type_list_append qd5 (Ec rfl (vpn 0) T.C6.cl T.Cb) (vaV (qa5 (Ep (qa2 Fj (qa2 (vnm 1) qa6 rfl) rfl))) Aa)))
     (Ad (Ap (Ae T.d20 (qE3 T) qa1 (rm hr) (vaV (qb5 (Be rfl (vnm 0) T.C6.cl T.Ca)) (vaB (Ec rfl (vpn 0) T.C6.cl T.C9) (vaN 1 Aa))))))))),λ ds Q xe h=>?_⟩)
 obtain⟨n,wr,ps,g,dn,S,k,rfl,n1,n2,hk,hS,KP,nin,nc,hdn,q⟩:=h;have pm:=KP.perm;have hL:((List.range n.toNat).filterMap g).length<=64:=by
   have:=List.length_filterMap_le g (List.range n.toNat)
   rw[zAq] at this;lia
 refine As [Af false a.C4 a.C3 n wr ps g dn,.int k] rfl ?_;refine qe8 false (λ Q q=>qz7 ?_) (λ h=>(nomatch h)) λ _=>?_
 . refine qI0 (p:=Af false a.C4 a.C3 n wr ps g dn) (x:=.int k) (d:=.non) rfl (qi1 rfl) rfl rfl ⟨false,n,wr,ps,g,dn,k,rfl,hk,(qao6 λ i hi e=>nin ((KP.h.2 k).mpr ⟨i,hi,e⟩)).symm⟩ rfl ?_
   exact qa0 (a:=D.bl false) rfl (qa0 (a:=false) rfl q)
 refine qb1 [Af false a.C4 a.C3 n wr ps g dn,.int k] (λ K hK=>qi3 (qe0 ?_)) ?_
 . refine qb9 (y:=planD true a.C3 n wr ps) (A5 rfl qf8) rfl (qd8 (qaz6 ?_))
   refine qaq2 (p:=Af false a.C4 a.C3 n wr ps g dn) (d:=.lst false (ksD ((List.range n.toNat).filterMap g))) rfl (qi1 rfl) ⟨n,wr,ps,g,dn,rfl,n2,rfl⟩ rfl ?_;refine qa0 (a:=D.lst false (ksD ((List.range n.toNat).filterMap g++[k]))) (qaR0 (z:=false) (z':=false) (B:=[k]) (by show _+1<=1000;lia)) (qb7 ?_);refine⟨_,⟨true,n,wr,ps,false,_,rfl,n1,n2,λ x hx=>?_,by rw[zA8];show _+1<=1000;lia,qL2.of n1 λ q c=>nc q (c.perm (pm.append_right [k])),rfl⟩,hK⟩;rcases zAh.mp hx with h | h
   . exact hS x (pm.subset h)
   rw[zAm.mp h];exact hk
 refine qb1 [Af false a.C4 a.C3 n wr ps g (dn++[.tup [.str "put",.int k]]),.int k] (λ K hK=>qi3 ?_) ?_
 . refine qL3 (i:=0) (p:=[2]) (ys:=dn) (d0:=Af false a.C4 a.C3 n wr ps g dn) (by show (D.fidx a.C4 "done" (Af false a.C4 a.C3 n wr ps g dn)).map (λ n=>(0,[n]))=_;rw[qJ0];rfl) rfl rfl ?_
   exact qf0 (y:=.tup [.str "put",.int k]) rfl (qb7 (qa0 (a:=(dn++[D.tup [.str "put",.int k]],D.non)) (if_pos (show dn.length < big by unfold big;lia)) hK))
 generalize dn++[.tup [.str "put",.int k]]=dn2 at q ⊢;refine qh5 (qe0 (qb9 (y:=planD true a.C3 n wr ps) (A5 rfl qf8) rfl ?_));refine qa0 (a:=(0,[1])) (by show (D.fidx a.C4 "held" (Af false a.C4 a.C3 n wr ps g dn2)).map (λ n=>(0,[n]))=_;rw[qm8];rfl) (qa0 (a:=D.lst false (rlD n.toNat g)) rfl ⟨rfl,λ w=>?_⟩);refine qb6 (x:=.int k) rfl (qb7 (qa0 (a:=D.int k) rfl ?_));refine⟨true,n,wr,ps,g,S,k,rfl,n1,n2,hk,hS,KP,nin,?_,λ came g' K'=>?_⟩
 . by_cases h:∃ e,Gd n.toNat wr (hmOf n ps) g k e
   . exact h
   obtain⟨q,c⟩:=KP.crowd λ e z=>h ⟨e,z⟩
   exact absurd c (nc q)
 refine qa0 (a:=[Af false a.C4 a.C3 n wr ps g' dn2,.int k]) ?_ (q came g' K');show Am (.pl 0 [1] w::_) _ _=_;rw[qc1 rfl];rfl
theorem qG2:qa9 ["plan", "room"] ["plan", "room"] (qa3 ql9):=by walk_at "s"
def qp6(C:Addr):VSp:=Av λ ds d=>∃ z n wr ps r,ds=[planD z C n wr ps,.int r]/\d=(if r < n - 1 then .int (r+1) else if wr=true then .int 0 else .non)
theorem qq3(T:Txt K mg a):VFn P w K mg base 1 a.f21 a.d21 ["plan", "room"] (qp6 a.C3):=by
 refine VFn.mk2 T.d21.F qG2 (wOf [true,true]) qb3 (λ ds Q xe h=>by obtain⟨d,⟨z,n,wr,ps,r,e,_⟩,_⟩:=h;rw[e];exact⟨rfl,rfl⟩) (λ cdv A outer sh H E av hr=>⟨_,(Ab (sif (q2 (Aj D8 (qa8 _)) Et (vnm 1) (v2 (Al qt6) qt3 (Be rfl (vnm 0) T.C5.cl T.C7) Ac))
     (Ad (Ap (qa5 (v2 (Al qk8) qk7 (vnm 1) Ac))))
     Aq)
     (Ad (Ap (eif (tv (Be rfl (vnm 0) T.C5.cl T.Cd)) (qa5 Ac) (qa5 A6))))),λ ds Q xe h=>?_⟩)
 obtain⟨d,⟨z,n,wr,ps,r,rfl,rfl⟩,q⟩:=h;refine As [planD z a.C3 n wr ps,.int r] rfl ?_;refine qg0 (decide (r < n - 1)) (f2_of rfl (f2_of (A5 rfl qe1) rfl rfl) rfl) (λ h=>?_) λ h=>?_
 . rw[if_pos (zAb h)] at q
   exact qd1 (.int (r+1)) rfl q
 rw[if_neg (zB9 h)] at q;refine qh5 (Fw (b:=wr) (A5 rfl qx5) (λ h=>?_) (λ h=>?_))
 . rw[if_pos h] at q
   exact qq5 (d:=.int 0) rfl q
 rw[if_neg (by rw[h];decide)] at q;exact q
theorem qy3:qa9 ["plan", "rooms", "room"] ["plan", "rooms", "room"] (qa3 qi6):=by walk_at "s"
def qx8(C:Addr):VSp:=Av λ ds d=>∃ z n wr ps z' g x,ds=[planD z C n wr ps,.lst z' (rlD n.toNat g),x]/\1<=n/\(x=.non/\d=.bl false∨∃ r:Nat,r < n.toNat/\x=.int (r:Nat)/\(g r=none/\d=.bl false∨∃ k,g r=some k/\Ak k/\(wr=false->hmOf n ps k<=r)/\d=.bl (decide (0 < dist n.toNat (hmOf n ps k) r))))
theorem qA1(T:Txt K mg a):VFn P w K mg base 6 a.f22 a.d22 ["plan", "rooms", "room"] (qx8 a.C3):=by
 refine VFn.mk2 T.d22.F qy3 (wOf [true,true,true]) qb3 (λ ds Q xe h=>by obtain⟨d,⟨z,n,wr,ps,z',g,x,e,_⟩,_⟩:=h;rw[e];exact⟨rfl,rfl⟩) (λ cdv A outer sh H E av hr=>⟨_,(Ad (Ap (Gk (qa5 (v2 (A4 qj5 (qa8 _)) qn1 (vnm 2) A6)) (Gk (qa5 (v2 (A4 qj5 (qa8 _)) qn1 (v2 (An qb0) Ag (vnm 1) (vnm 2)) A6)) (Iy (e2v (A4 By (qa8 _)) Da (ql8 0 T.d10 T.C5.cl (qf7 T) qa1 (rm hr) (vaV (qb5 (v2 (An qb0) Ag (vnm 1) (vnm 2))) (vaN 2 Aa))) Ac)))))),λ ds Q xe h=>?_⟩);obtain⟨d,⟨z,n,wr,ps,z',g,x,rfl,n1,h⟩,q⟩:=h;refine As [planD z a.C3 n wr ps,.lst z' (rlD n.toNat g),x] rfl ?_;rcases h with⟨rfl,rfl⟩ | ⟨r,hr,rfl,h⟩
 . exact qh5 (Ff false rfl (λ h=>(nomatch h)) λ _=>q)
 rcases h with⟨hg,rfl⟩ | ⟨k,hg,hk,hl,rfl⟩
 . exact qh5 (Ff true rfl (λ _=>Ff false (f2_of (f2_of rfl rfl (Bf hr)) rfl (by rw[hg];rfl)) (λ h=>(nomatch h)) λ _=>q) λ h=>(nomatch h))
 refine qh5 (Ff true rfl (λ _=>Ff true (f2_of (f2_of rfl rfl (Bf hr)) rfl (by rw[hg];rfl)) (λ _=>qaz6 ?_) λ h=>(nomatch h)) λ h=>(nomatch h));refine qH9 (p:=planD z a.C3 n wr ps) rfl (qe4 rfl) (qb9 (y:=.int k) (f2_of rfl rfl (by rw[Bf hr,hg];rfl)) rfl (qb6 (x:=.int (r:Nat)) rfl (qb7 (qa0 (a:=D.int (r:Nat)) rfl (qa0 (a:=planD z a.C3 n wr ps) rfl ⟨_,⟨z,n,wr,ps,k,(r:Nat),rfl,n1,hk,by lia,by lia,rfl⟩,?_⟩)))));rw[qr2 n1 hr hl];refine qa0 (a:=[planD z a.C3 n wr ps,.lst z' (rlD n.toNat g),.int (r:Nat)]) rfl ?_;refine qa0 (a:=D.bl (decide (0 < ((dist n.toNat (hmOf n ps k) r:Nat):Int)))) rfl ?_;rw[zC4.mpr (show (0 < ((dist n.toNat (hmOf n ps k) r:Nat):Int))↔0 < dist n.toNat (hmOf n ps k) r by lia)];exact q
theorem qh2:qa9 ["plan", "rooms", "room", "came", "behind"] ["plan", "rooms", "room"] (qa3 qs7):=by walk_at "s"
def qv8(N:Nat)(wr:Bool)(p:Nat):D:=if p+1 < N then .int (p+1:Nat) else if wr=true then .int 0 else .non
theorem qat7{n:Int}{wr:Bool}{p:Nat}(n1:1<=n)(hp:p < n.toNat):(if ((p:Nat):Int) < n - 1 then D.int (((p:Nat):Int)+1) else if wr=true then D.int 0 else D.non)=qv8 n.toNat wr p:=by
 unfold qv8;by_cases h:p+1 < n.toNat
 . rw[if_pos (by lia),if_pos h];rfl
 rw[if_neg (by lia),if_neg h]
theorem qab8{wr:Bool}{p:Nat}(hp:p < N):qv8 N wr p=.int (Row.next N p:Nat)∨(qv8 N wr p=.non/\wr=false/\p+1=N):=by
 unfold qv8;have h:=nor N p;by_cases e:p+1 < N
 . rw[if_pos e];exact .inl (by rw[show Row.next N p=p+1 by lia])
 rw[if_neg e];cases wr with
 | true=>exact .inl (by rw[if_pos rfl,show Row.next N p=0 by lia];rfl)
 | false=>exact .inr ⟨rfl,rfl,by lia⟩
def qO7(C:Addr):VSp:=λ ds Q _=>∃ z n wr ps g S k r,ds=[planD z C n wr ps,.lst false (rlD n.toNat g),.int (r:Nat)]/\1<=n/\n<=64/\(∀ x∈S,Ak x)/\Kept n.toNat wr (hmOf n ps) g S/\r < n.toNat/\g r=some k /\
 ∀ came g',Kept n.toNat wr (hmOf n ps) g' (S.filter λ x=>decide (x≠k))->Q (.lst false came) [planD z C n wr ps,.lst false (rlD n.toNat g'),.int (r:Nat)]
theorem qA2(T:Txt K mg a):VFn P w K mg base 7 a.f23 a.d23 ["plan", "rooms", "room"] (qO7 a.C3):=by
 refine VFn.mk2 T.d23.F qh2 (wOf [true,true,false]) (λ ds Q Q' xe xe' hQ _ h=>by obtain⟨z,n,wr,ps,g,S,k,r,e,h1,h2,h3,h4,h5,h6,q⟩:=h;exact⟨z,n,wr,ps,g,S,k,r,e,h1,h2,h3,h4,h5,h6,λ c g' K=>hQ _ _ (q c g' K)⟩) (λ ds Q xe h=>by obtain⟨z,n,wr,ps,g,S,k,r,e,_⟩:=h;rw[e];exact⟨rfl,rfl⟩) (λ cdv A outer sh H E av hr=>⟨_,(Ab (Ah 3 qh2.nd (qa5 (Bk qa6)))
     (Ab (Er (qa5 A6) (Dm (vpn 1) (vnm 2)))
     (Ab (Ah 4 qh2.nd (Ae T.d21 (qq3 T) qa1 (rm hr) (vaN 0 (vaN 2 Aa))))
     (Ab (qU0 PassesOwn.leaving (te (Ae T.d22 (qA1 T) qa1 (rm hr) (vaN 0 (vaN 1 (vaN 4 Aa)))))
     (Ab (Bh (Dy 3 qw6 PySem.F.plainAttrs_list PySem.F.slot_list_append PySem.F.type_list_append qd5 (vaV (qa5 (Ep (qa2 (v2 (An qb0) Ag (vnm 1) (vnm 4)) (qa2 (vnm 2) qa6 rfl) rfl))) Aa)))
     (Ab (Er (qb5 (v2 (An qb0) Ag (vnm 1) (vnm 4))) (Dm (vpn 1) (vnm 2)))
     (Ab (Er (qa5 A6) (Dm (vpn 1) (vnm 4)))
     (Ab (Ah 2 qh2.nd (qb5 (vnm 4)))
     (Ad (Ah 4 qh2.nd (Ae T.d21 (qq3 T) qa1 (rm hr) (vaN 0 (vaN 2 Aa))))))))))
     (Ad (Ap (emv 3))))))),λ ds Q xe h=>?_⟩)
 obtain⟨z,n,wr,ps,g,S,k,r,rfl,n1,n2,hS,KP,hr,hk,q⟩:=h;refine As [planD z a.C3 n wr ps,.lst false (rlD n.toNat g),.int (r:Nat),.unk,.unk] rfl ?_;refine qb1 [planD z a.C3 n wr ps,.lst false (rlD n.toNat g),.int (r:Nat),.lst false [],.unk] (λ K hK=>hK) ?_;have e0:rlD n.toNat (λ j=>if j=r then none else g j)=rlD n.toNat (At n.toNat g r 0):=qx1 λ i hi=>(qy0 hr hi).symm
 refine qb1 [planD z a.C3 n wr ps,.lst false (rlD n.toNat (At n.toNat g r 0)),.int (rot n.toNat r 0:Nat),.lst false [],.unk] (λ K hK=>?_) ?_
 . refine qU1 (d:=.non) (ys:=rlD n.toNat g) rfl rfl rfl (qL9 hr) ?_
   rw[show (rlD n.toNat g).set r .non=rlD n.toNat (λ j=>if j=r then none else g j) from qad7 (o:=none),e0];rw[qae9 hr] at hK;exact hK
 have bh:∀(J:Nat)(K:Ds->Prop)(xe:XKd)(d3 d4:D),J < n.toNat->K [planD z a.C3 n wr ps,.lst false (rlD n.toNat (At n.toNat g r J)),.int (rot n.toNat r J:Nat),d3,qv8 n.toNat wr (rot n.toNat r J)]->qh6 (qp6 a.C3) [] (tbN 0 (tbN 2 Ax)) [planD z a.C3 n wr ps,.lst false (rlD n.toNat (At n.toNat g r J)),.int (rot n.toNat r J:Nat),d3,d4] (λ d ds'=>K (ds'.set 4 d)) xe:=λ J K xe d3 d4 hJ hK =>
   qL6 (x:=planD z a.C3 n wr ps) (y:=.int (rot n.toNat r J:Nat)) rfl rfl rfl ⟨z,n,wr,ps,_,rfl,(qat7 n1 (qG9 hr hJ)).symm⟩ rfl hK
 refine qb1 [planD z a.C3 n wr ps,.lst false (rlD n.toNat (At n.toNat g r 0)),.int (rot n.toNat r 0:Nat),.lst false [],qv8 n.toNat wr (rot n.toNat r 0)] (λ K hK=>qe9 (bh 0 _ _ _ _ (by lia) hK)) ?_;refine qb8 (λ ds=>∃ J came d4,ds=[planD z a.C3 n wr ps,.lst false (rlD n.toNat (At n.toNat g r J)),.int (rot n.toNat r J:Nat),.lst false came,d4]/\Sh n.toNat (hmOf n ps) g r J/\Stop n.toNat wr (hmOf n ps) g r J) (λ K hK=>?_) ?_
 . refine qF7 (λ m ds=>∃ J came,ds=[planD z a.C3 n wr ps,.lst false (rlD n.toNat (At n.toNat g r J)),.int (rot n.toNat r J:Nat),.lst false came,qv8 n.toNat wr (rot n.toNat r J)]/\Sh n.toNat (hmOf n ps) g r J/\came.length=J/\m+J=n.toNat) n.toNat ⟨0,[],rfl,Sh.start hr,rfl,by lia⟩ ?_
   rintro m ds ⟨J,came,rfl,sh,hc,hm⟩ K2 hK2;have hJ:=sh.hJ;have hp:=qG9 hr hJ;rcases qab8 (wr:=wr) hp with hb | ⟨hb,hw,hl⟩
   . have hx:=Row.qj7 hp
     have dec:∀ x,At n.toNat g r J (Row.next n.toNat (rot n.toNat r J))=some x->0 < dist n.toNat (hmOf n ps x) (Row.next n.toNat (rot n.toNat r J))->J+1 < n.toNat/\g (rot n.toNat r (J+1))=some x:=λ x hx hd=>by
       by_cases hJ1:J+1 < n.toNat
       . rw[qA5 hr hJ1,qy1 hr hJ1] at hx
         exact⟨hJ1,hx⟩
       rw[qv4 hr (by lia)] at hx hd;by_cases h0:0 < J
       . rw[qD4 hr h0] at hx
         have:=sh.round KP.o KP.c hr hk (by lia) hx h0
         lia
       have hz:J=0:=by lia
       subst hz;rw[qy0 hr hr,if_pos rfl] at hx;cases hx
     have num:∀ x,At n.toNat g r J (Row.next n.toNat (rot n.toNat r J))=some x->Ak x/\(wr=false->hmOf n ps x<=Row.next n.toNat (rot n.toNat r J)):=λ x hx=>by
       by_cases hJ1:J+1 < n.toNat
       . have e:=qA5 hr hJ1
         rw[e,qy1 hr hJ1] at hx;exact⟨hS x ((KP.h.2 x).mpr ⟨_,qG9 hr hJ1,hx⟩),λ hw=>by rw[e];exact KP.ln hw _ x (qG9 hr hJ1) hx⟩
       have e:=qv4 hr (show J+1=n.toNat by lia);rw[e] at hx ⊢;by_cases h0:0 < J
       . rw[qD4 hr h0] at hx
         have hd:=sh.round KP.o KP.c hr hk (by lia) hx h0;exact⟨hS x ((KP.h.2 x).mpr ⟨_,Row.qj7 hr,hx⟩),λ _=>by rw[(qb4 (Bz n1 x) hr).mp hd];exact zA3 _⟩
       have hz:J=0:=by lia
       subst hz;rw[qy0 hr hr,if_pos rfl] at hx;cases hx
     generalize hnx:Row.next n.toNat (rot n.toNat r J)=nx at hx dec num hb;rw[hb];cases hg:At n.toNat g r J nx with
     | none =>
       refine qL5 (x:=planD z a.C3 n wr ps) (y:=.lst false (rlD n.toNat (At n.toNat g r J))) (w:=.int (nx:Nat)) (d:=.bl false) rfl rfl rfl rfl rfl ⟨z,n,wr,ps,false,_,_,rfl,n1,.inr ⟨nx,hx,rfl,.inl ⟨hg,rfl⟩⟩⟩ rfl ?_;exact hK _ ⟨J,came,_,rfl,sh,.inr λ x h=>by rw[hnx,hg] at h;cases h⟩
     | some x =>
       refine qL5 (x:=planD z a.C3 n wr ps) (y:=.lst false (rlD n.toNat (At n.toNat g r J))) (w:=.int (nx:Nat)) rfl rfl rfl rfl rfl ⟨z,n,wr,ps,false,_,_,rfl,n1,.inr ⟨nx,hx,rfl,.inr ⟨x,hg,(num x hg).1,(num x hg).2,rfl⟩⟩⟩ rfl ?_;refine qa0 (a:=decide (0 < dist n.toNat (hmOf n ps x) nx)) rfl (ite_b (λ h=>?_) λ h=>?_)
       . have hd:=zAb h
         obtain⟨hJ1,hgx⟩:=dec x hg hd;have enx:nx=rot n.toNat r (J+1):=by rw[<- hnx,qA5 hr hJ1]
         have hix:∀ d3,f2 gIx (rdN 1) (rdN 4) [planD z a.C3 n wr ps,.lst false (rlD n.toNat (At n.toNat g r J)),.int (rot n.toNat r J:Nat),d3,.int (nx:Nat)]=some (.int x):=λ d3=>f2_of rfl rfl (by rw[Bf hx,hg];rfl)
         refine qb1 [planD z a.C3 n wr ps,.lst false (rlD n.toNat (At n.toNat g r J)),.int (rot n.toNat r J:Nat),.lst false (came++[D.tup [.int x,.int (rot n.toNat r J:Nat)]]),.int (nx:Nat)] (λ K hK=>qi3 ?_) ?_
         . exact qY4 (ys:=came) (d:=.tup [.int x,.int (rot n.toNat r J:Nat)]) rfl (qT7 (hix _) rfl rfl rfl) (by unfold big;lia) hK
         refine qb1 [planD z a.C3 n wr ps,.lst false (rlD n.toNat (Row.set (At n.toNat g r J) (rot n.toNat r J) x)),.int (rot n.toNat r J:Nat),.lst false (came++[D.tup [.int x,.int (rot n.toNat r J:Nat)]]),.int (nx:Nat)] (λ K hK=>?_) ?_
         . refine qJ4 (d:=.int x) (ys:=rlD n.toNat (At n.toNat g r J)) (hix _) rfl rfl rfl (qL9 hp) ?_
           rw[qr9];exact hK
         refine qb1 [planD z a.C3 n wr ps,.lst false (rlD n.toNat (At n.toNat g r (J+1))),.int (rot n.toNat r J:Nat),.lst false (came++[D.tup [.int x,.int (rot n.toNat r J:Nat)]]),.int (nx:Nat)] (λ K hK=>?_) ?_
         . refine qU1 (d:=.non) (ys:=rlD n.toNat (Row.set (At n.toNat g r J) (rot n.toNat r J) x)) rfl rfl rfl (qL9 hx) ?_
           rw[show (rlD n.toNat (Row.set (At n.toNat g r J) (rot n.toNat r J) x)).set nx .non=rlD n.toNat (λ j=>if j=nx then none else Row.set (At n.toNat g r J) (rot n.toNat r J) x j) from qad7 (o:=none)];have e:rlD n.toNat (λ j=>if j=nx then none else Row.set (At n.toNat g r J) (rot n.toNat r J) x j)=rlD n.toNat (At n.toNat g r (J+1)):=qx1 λ i hi=>by
             rw[qad5 hr hJ1 hi,enx];by_cases h1:i=rot n.toNat r (J+1)
             . rw[if_pos h1,if_pos h1]
             rw[if_neg h1,if_neg h1];by_cases h2:i=rot n.toNat r J
             . rw[if_pos h2,h2,Row.qd0,hgx]
             rw[if_neg h2,Row.qg6 h2]
           rw[e];exact hK
         refine qb1 [planD z a.C3 n wr ps,.lst false (rlD n.toNat (At n.toNat g r (J+1))),.int (nx:Nat),.lst false (came++[D.tup [.int x,.int (rot n.toNat r J:Nat)]]),.int (nx:Nat)] (λ K hK=>qn5 (d:=.int (nx:Nat)) rfl rfl hK) ?_;rw[enx] at hd ⊢;refine qe9 (bh (J+1) _ _ _ _ hJ1 (hK2 (m - 1) _ (by lia) ⟨J+1,_,rfl,sh.step hJ1 hgx hd,by rw[zA8,hc];rfl,by lia⟩))
       have hd:=zB9 h;exact hK _ ⟨J,came,_,rfl,sh,.inr λ y h=>by rw[hnx] at h ⊢;rw[hg] at h;cases h;lia⟩
   rw[hb];refine qL5 (x:=planD z a.C3 n wr ps) (y:=.lst false (rlD n.toNat (At n.toNat g r J))) (w:=.non) (d:=.bl false) rfl rfl rfl rfl rfl ⟨z,n,wr,ps,false,_,_,rfl,n1,.inl ⟨rfl,rfl⟩⟩ rfl ?_;exact hK _ ⟨J,came,_,rfl,sh,.inl ⟨hw,hl⟩⟩
 rintro ds ⟨J,came,d4,rfl,sh,st⟩;exact qh5 (mv_to rfl (q came _ (KP.taken hr hk sh st)))
theorem qD7:qa9 ["self", "key", "room"] ["self", "key"] (qa3 qz2):=by walk_at "s"
def qZ2(C CP:Addr):VSp:=λ ds Q _=>∃ n wr ps g dn S k,ds=[Af false C CP n wr ps g dn,.int k]/\1<=n/\n<=64/\(∀ x∈S,Ak x)/\Kept n.toNat wr (hmOf n ps) g S/\k∈S/\dn.length<=1000 /\
 ∀(r:Nat) came g',Kept n.toNat wr (hmOf n ps) g' (S.filter λ x=>decide (x≠k))->Q (.tup [.int (r:Nat),.lst false came]) [Af false C CP n wr ps g' (dn++[.tup [.str "take",.int k]]),.int k]
theorem qav0{g:Nat->Option Int}(h:Bu N g k=.int (j:Nat)):j < N/\g j=some k:=by
 unfold Bu at h;cases e:El N g k with
 | none=>rw[e] at h;cases h
 | some i =>
   rw[e] at h;have h:D.int (i:Nat)=D.int (j:Nat):=h;injection h with h
   have h:i=j:=by lia
   subst h;obtain⟨h1,h2,_⟩:=List.findIdx?_eq_some_iff_getElem.mp e;rw[zAq] at h1;rw[List.getElem_range] at h2;exact⟨h1,zAb h2⟩
theorem qaa7(T:Txt K mg a):VFn P w K mg base 8 a.f29 a.d29 ["self", "key"] (qZ2 a.C4 a.C3):=by
 refine VFn.mk2 T.d29.F qD7 (wOf [true,true]) (λ ds Q Q' xe xe' hQ _ h=>by obtain⟨n,wr,ps,g,dn,S,k,e,h1,h2,h3,h4,h5,h6,q⟩:=h;exact⟨n,wr,ps,g,dn,S,k,e,h1,h2,h3,h4,h5,h6,λ r c g' K=>hQ _ _ (q r c g' K)⟩) (λ ds Q xe h=>by obtain⟨n,wr,ps,g,dn,S,k,e,_⟩:=h;rw[e];exact⟨rfl,rfl⟩) (λ cdv A outer sh H E av hr=>⟨_,(Ab (Ah 2 qD7.nd (ql8 0 T.d27 T.C6.cl (qg8 T) qa1 (rm hr) (vaN 1 Aa)))
     (Ab (sif (q2 (Aj Db (qa8 _)) Di (vnm 2) A6)
     (Ad qj9)
     Aq)
     (Ab (Bh (Hb qw6 PySem.F.plainAttrs_list PySem.F.slot_list_append PySem.F.type_list_append qd5 (Ec rfl (vpn 0) T.C6.cl T.Cb) (vaV (qa5 (Ep (qa2 Fj (qa2 (vnm 1) qa6 rfl) rfl))) Aa)))
     (Ad (Ap (Gw (vaV (qb5 (vnm 2)) (vaV (Ae T.d23 (qA2 T) qa1 (rm hr) (vaV (qb5 (Be rfl (vnm 0) T.C6.cl T.Ca)) (vaB (Ec rfl (vpn 0) T.C6.cl T.C9) (vaN 2 Aa)))) Aa)))))))),λ ds Q xe h=>?_⟩)
 obtain⟨n,wr,ps,g,dn,S,k,rfl,n1,n2,hS,KP,hk,hdn,q⟩:=h;obtain⟨i,hi,e⟩:=(KP.h.2 k).mp hk;obtain⟨j,hj⟩:=qH0 hi e;obtain⟨hjl,hjg⟩:=qav0 hj;refine As [Af false a.C4 a.C3 n wr ps g dn,.int k,.unk] rfl ?_;refine qb1 [Af false a.C4 a.C3 n wr ps g dn,.int k,.int (j:Nat)] (λ K hK=>?_) ?_
 . exact qe9 (qI0 (p:=Af false a.C4 a.C3 n wr ps g dn) (x:=.int k) (d:=.int (j:Nat)) rfl (qi1 rfl) rfl rfl ⟨false,n,wr,ps,g,dn,k,rfl,hS k hk,hj.symm⟩ rfl hK)
 refine qe8 false (λ Q q=>qc6 (b:=false) rfl q) (λ h=>(nomatch h)) λ _=>?_
 refine qb1 [Af false a.C4 a.C3 n wr ps g (dn++[.tup [.str "take",.int k]]),.int k,.int (j:Nat)] (λ K hK=>qi3 ?_) ?_
 . refine qL3 (i:=0) (p:=[2]) (ys:=dn) (d0:=Af false a.C4 a.C3 n wr ps g dn) (by show (D.fidx a.C4 "done" (Af false a.C4 a.C3 n wr ps g dn)).map (λ n=>(0,[n]))=_;rw[qJ0];rfl) rfl rfl ?_
   exact qf0 (y:=.tup [.str "take",.int k]) rfl (qb7 (qa0 (a:=(dn++[D.tup [.str "take",.int k]],D.non)) (if_pos (show dn.length < big by unfold big;lia)) hK))
 generalize dn++[.tup [.str "take",.int k]]=dn2 at q ⊢;refine qh5 (qac4 (qb9 (y:=.int (j:Nat)) rfl rfl (qd8 (qe0 (qb9 (y:=planD true a.C3 n wr ps) (A5 rfl qf8) rfl ?_)))));refine qa0 (a:=(0,[1])) (by show (D.fidx a.C4 "held" (Af false a.C4 a.C3 n wr ps g dn2)).map (λ n=>(0,[n]))=_;rw[qm8];rfl) (qa0 (a:=D.lst false (rlD n.toNat g)) rfl ⟨rfl,λ w=>?_⟩);refine qb6 (x:=.int (j:Nat)) rfl (qb7 (qa0 (a:=D.int (j:Nat)) rfl ?_));refine⟨true,n,wr,ps,g,S,k,j,rfl,n1,n2,hS,KP,hjl,hjg,λ came g' K'=>?_⟩;refine qa0 (a:=[Af false a.C4 a.C3 n wr ps g' dn2,.int k,.int (j:Nat)]) ?_ (qb7 ⟨by show 2<=1000000;decide,q j came g' K'⟩);show Am (.pl 0 [1] w::_) _ _=_;rw[qc1 rfl];rfl
theorem qD6:qa9 ["self", "deed"] ["self"] (qa3 qz1):=by walk_at "s"
def qO4:Sp:=λ vs H Q _=>∃ x t,vs=[x]/\Bi H x=some t/\Q (.bl (Ip x)) H
theorem qQ5(T:Txt K mg a):Bq P w K mg base CX0 1 a.f1 a.d1 ["thing"] qO4:=by
 refine T.d1.F.ok qD5 (λ vs H Q E h=>?_) (λ cdv A outer s H vs Q E hr h=>?_)
 . obtain⟨x,t,rfl,_⟩:=h
   rfl
 obtain⟨x,t,rfl,hk,q⟩:=h;refine⟨_,(qz8 (qZ9 (qap3 (cbi ql3 T.C8 (qc4 (pv 0) (qc4 (qaC4 "int" T.Cs) ql6))) (qap0 (qaK8 (cbi ql3 T.C8 (qc4 (pv 0) (qc4 (qaC4 "bool" T.Cr) ql6)))))))),?_⟩;refine⟨_,rfl,x,_,t,rfl,hk,by decide,_,rfl,?_⟩;have e1:=qaE7 hk;have e2:=qaq6 hk;rw[e1];refine ite2 (λ h1=>⟨_,rfl,x,_,t,rfl,hk,by decide,_,rfl,?_⟩) (λ h1=>?_)
 . rw[e2]
   cases x<;>first | exact q | (simp[Ip] at h1)
 have:Ip x=false:=by
   cases e:Ip x with
   | false=>rfl
   | true=>rw[e] at h1;exact absurd rfl h1
 rw[this] at q;exact q
def qp5:Sp:=λ vs H Q _=>∃ x t l m,vs=[x,.int l,.int m]/\Bi H x=some t/\Q (.bl (qau0 l m x)) H
theorem qq2(T:Txt K mg a):Bq P w K mg base CX0 2 a.f2 a.d2 ["thing", "least", "most"] qp5:=by
 refine T.d2.F.ok qj3 (λ vs H Q E h=>?_) (λ cdv A outer s H vs Q E hr h=>?_)
 . obtain⟨x,t,l,m,rfl,_⟩:=h
   rfl
 obtain⟨x,t,l,m,rfl,hk,q⟩:=h;refine⟨_,(qz8 (qZ9 (qap3 (G4 T.d1 (qQ5 T) (rm hr) (qc4 (pv 0) ql6)) (qap0 (qaf6 F9 F9 (pv 1) (pv 0) (pv 2)))))),?_⟩;refine⟨_,rfl,x,t,rfl,hk,_,rfl,?_⟩;cases x with
 | int i =>
   refine iteT ⟨_,rfl,_,rfl,_,_,rfl,rfl,_,rfl,?_⟩;by_cases h1:l<=i
   . rw[zAe h1]
     refine iteT ⟨_,rfl,_,_,rfl,rfl,?_⟩;have q:Q (.bl (decide (l<=i)&&decide (i<=m))) H:=q;rw[zAe h1,Bool.true_and] at q;exact q
   rw[zB3 h1];refine iteF ?_;have q:Q (.bl (decide (l<=i)&&decide (i<=m))) H:=q;rw[zB3 h1,Bool.false_and] at q;exact q
 | _=>exact iteF q
def qJ5:Sp:=λ vs H Q _=>∃ x t,vs=[x]/\Bi H x=some t/\Q (.bl (numV x)) H
theorem qK9(T:Txt K mg a):Bq P w K mg base CX0 3 a.f3 a.d3 ["thing"] qJ5:=by
 refine T.d3.F.ok qy2 (λ vs H Q E h=>?_) (λ cdv A outer s H vs Q E hr h=>?_)
 . obtain⟨x,t,rfl,_⟩:=h
   rfl
 obtain⟨x,t,rfl,hk,q⟩:=h;refine⟨_,(qz8 (qZ9 (G4 T.d2 (qq2 T) (rm hr) (qc4 (pv 0) (qc4 qK8 (qc4 (qaw4 T.Ck) ql6)))))),?_⟩;exact⟨_,rfl,x,t,_,_,rfl,hk,q⟩
def Hf(C:Addr)(x y:D):Option D:=match y with
 | .int k=>if (D.int k).num=true then (D.fld C "held" x).bind λ l=>match l with
   | .lst _ ys=>(flats ys).map λ ws=>match D5 (.int k) ws with
     | some j=>.int (j:Nat)
     | none=>.non
   | _=>none else none
 | _=>none
theorem qax6{v:V}:∀ ws:List V,inV v ws=(D5 v ws).isSome
 | []=>rfl
 | y::r=>by
   have ih:=qax6 (v:=v) r;unfold inV at ih ⊢;rw[zBl,ih];show _=(if eqV y v=true then some 0 else (D5 v r).map (· + 1)).isSome;cases eqV y v<;>simp
theorem qao7{zr:Bool}{C CP:Addr}{n:Int}{wr:Bool}{ps:Pr}{g:Nat->Option Int}{dn:Ds}(hk:Ak k):Hf C (Af zr C CP n wr ps g dn) (.int k)=some (Bu n.toNat g k):=by
 show (if (D.int k).num=true then (D.fld C "held" (Af zr C CP n wr ps g dn)).bind _ else none)=_;rw[if_pos (show (D.int k).num=true from qaM3.mpr hk),qx2];show (flats (rlD n.toNat g)).map _=_;rw[qR9];show some (match D5 (.int k) ((List.range n.toNat).map λ i=>Ek (g i)) with
   | some j=>D.int (j:Nat)
   | none=>.non)=_
 rw[qaj2];rfl
theorem qC4(T:Txt K mg a):Bq P w K mg base CX0 4 a.f27 a.d27 ["self", "key"] (spPu (Hf a.C4)):=by
 refine T.d27.F.ok qq0 (λ vs H Q E h=>?_) (λ cdv A outer s H vs Q E hr h=>?_)
 . obtain⟨F,u,x,d,d1,d2,A,B,w,rfl,_⟩:=h
   rfl
 obtain⟨F,u,x,d,d1,d2,A,B,w,rfl,r1,r2,hg,hw,q⟩:=h;cases d2 with
 | int k =>
   cases r2;have hg:(if (D.int k).num=true then (D.fld a.C4 "held" d1).bind λ l=>match l with
     | .lst _ ys=>(flats ys).map λ ws=>match D5 (.int k) ws with
       | some j=>D.int (j:Nat)
       | none=>.non
     | _=>none else none)=some d:=hg
   by_cases hn:(D.int k).num=true
   . rw[if_pos hn] at hg
     cases e1:D.fld a.C4 "held" d1 with
     | none=>rw[e1] at hg;cases hg
     | some l =>
     rw[e1] at hg;obtain⟨p,C,dx,fs,v,rfl,hp,cl,na,hv,B1,rl⟩:=qaL6 (K:=K) T.C6.cl T.C9 F H u d1 A l (λ v H'=>∃ B,Rep F H' v l B) r1 e1 (λ v H' B' r _ _=>⟨B',r⟩);cases l with
     | lst z ys =>
       have hg:((flats ys).map λ ws=>match D5 (.int k) ws with
         | some j=>D.int (j:Nat)
         | none=>.non)=some d:=hg
       obtain⟨ws,hf,hg⟩:=zAa.mp hg;obtain⟨q0,vs,A3,rfl,hs,rs,_⟩:=rl.lst_inv;obtain⟨rfl,fl⟩:=rs.flats hf;refine⟨_,(qQ4 (ps_if (qaJ9 (qaB3 (G4 T.d3 (qK9 T) (rm hr) (qc4 (pv 1) ql6))))
   (qz8 qaB5)
   qav7)
   (qz8 (qZ9 (qaf5 (qav6 qq1 (pv 1) (qap1 (pv 0) rfl) (by with_unfolding_all rfl)) (G3 PySem.F.plainAttrs_list PySem.F.slot_list_index PySem.F.type_list_index qag7 (qap1 (pv 0) rfl) (qc4 (pv 1) ql6)) qaK9)))),?_⟩
       refine⟨_,rfl,.int k, "int",rfl,rfl,_,rfl,?_⟩;rw[show numV (.int k)=true from hn];refine iteF ⟨_,rfl,_,rfl,p,C,dx,fs,_,rfl,hp,cl,na,hv,q0,vs,rfl,.inl (SqL.of hs),rfl,fl,_,rfl,?_⟩;show if inV (.int k) vs=true then _ else _
       rw[qax6];cases e2:D5 (.int k) vs with
       | some j =>
         rw[e2] at hg;have hg:D.int (j:Nat)=d:=hg;subst hg;cases hw;obtain⟨z1,i1,i2,i3⟩:=qaj3 e2;exact iteT ⟨_,rfl,p,C,dx,fs,_,rfl,hp,cl,na,hv,.inl ⟨rfl,_,SqL.of hs⟩,_,rfl,q0,vs,.int k,j,z1,rfl,rfl,hs,rfl,fl,i1,i2,i3,q⟩
       | none =>
         rw[e2] at hg;have hg:D.non=d:=hg;subst hg;cases hw;exact iteF q
     | _=>cases hg
   rw[if_neg hn] at hg;cases hg
 | _=>cases hg
def qD3(C CP:Addr):VSp:=λ ds Q _=>∃ n wr ps g dn S,ds=[Af false C CP n wr ps g dn]/\1<=n/\n<=64/\(∀ x∈S,Ak x)/\Kept n.toNat wr (hmOf n ps) g S /\
 (dn=[]/\Q (.bl false) ds∨∃ dn0 k,Ak k/\(dn=dn0++[.tup [.str "put",.int k]]/\k∈S/\(∀ g',Kept n.toNat wr (hmOf n ps) g' (S.filter λ x=>decide (x≠k))->Q (.bl true) [Af false C CP n wr ps g' dn0]) ∨
   dn=dn0++[.tup [.str "take",.int k]]/\¬ k∈S/\(∀ q,¬ Crowd n.toNat wr (hmOf n ps) (S++[k]) q)/\∀ g',Kept n.toNat wr (hmOf n ps) g' (S++[k])->Q (.bl true) [Af false C CP n wr ps g' dn0]))
theorem qaa6(T:Txt K mg a):VFn P w K mg base 8 a.f30 a.d30 ["self"] (qD3 a.C4 a.C3):=by
 refine VFn.mk2 T.d30.F qD6 (wOf [true]) (λ ds Q Q' xe xe' hQ _ h=>by obtain⟨n,wr,ps,g,dn,S,e,h1,h2,h3,h4,h⟩:=h;exact⟨n,wr,ps,g,dn,S,e,h1,h2,h3,h4,h.imp (λ h=>⟨h.1,hQ _ _ h.2⟩) λ ⟨dn0,k,hk,h⟩=>⟨dn0,k,hk,h.imp (λ h=>⟨h.1,h.2.1,λ g' K=>hQ _ _ (h.2.2 g' K)⟩) λ h=>⟨h.1,h.2.1,h.2.2.1,λ g' K=>hQ _ _ (h.2.2.2 g' K)⟩⟩⟩) (λ ds Q xe h=>by obtain⟨n,wr,ps,g,dn,S,e,_⟩:=h;rw[e];exact⟨rfl,rfl⟩) (λ cdv A outer sh H E av hr=>⟨_,(Ab (sif (q2 (Aj (qf5 hr.u64) (qa8 _)) A9 (vbi qr5 qr4.ops T.Ci (qa2 (Be rfl (vnm 0) T.C6.cl T.Cb) qa6 rfl)) Ac)
     (Ad (Ap (qa5 vbl)))
     Aq)
     (Ab (Ah 1 qD6.nd (qaX3 qaM6 PySem.F.plainAttrs_list PySem.F.slot_list_pop PySem.F.type_list_pop qaM7 (Ec rfl (vpn 0) T.C6.cl T.Cb)))
     (Ab (sif (q2 (Aj (qf5 hr.u64) (qa8 _)) A9 (v2 (An qb0) Ag (vnm 1) Ac) Fj)
     (Ad (Bh (Ae T.d23 (qA2 T) qa1 (rm hr) (vaV (qb5 (Be rfl (vnm 0) T.C6.cl T.Ca)) (vaBV (Ec rfl (vpn 0) T.C6.cl T.C9) (qaR5 0 T.d27 T.C6.cl (qC4 T) (rm hr) (v2 (An qb0) Ag (vnm 1) Ac)))))))
     (Ad (Bh (Ae T.d20 (qE3 T) qa1 (rm hr) (vaV (qb5 (Be rfl (vnm 0) T.C6.cl T.Ca)) (vaB (Ec rfl (vpn 0) T.C6.cl T.C9) (vaV (qb5 (v2 (An qb0) Ag (vnm 1) Ac)) Aa)))))))
     (Ad (Ap (qa5 vbl)))))),λ ds Q xe h=>?_⟩)
 obtain⟨n,wr,ps,g,dn,S,rfl,n1,n2,hS,KP,h⟩:=h;have hlen:∀(dn:Ds) d1,f2 gEq (Ay (fx1 Fi) (Au (f1 (D.fld a.C4 "done") (rdN 0)) λ _=>some [])) (kC (.int 0)) [Af false a.C4 a.C3 n wr ps g dn,d1]=some (.bl (((dn.length:Nat):Int) == 0)):=λ dn d1=>by
   refine f2_of (x:=.int (dn.length:Nat)) (y:=.int 0) ?_ rfl rfl;unfold Ay Au;rw[A5 rfl qU4];rfl
 refine As [Af false a.C4 a.C3 n wr ps g dn,.unk] rfl ?_;have hpop:∀(dn0:Ds)(d:D)(K:Ds->Prop)(xe:XKd),D.imm d=true->K [Af false a.C4 a.C3 n wr ps g dn0,d]->Ev gPop (λ ds=>(D.fidx a.C4 "done" (Af false a.C4 a.C3 n wr ps g (dn0++[d]))).map λ n=>(0,[n])) Ax [Af false a.C4 a.C3 n wr ps g (dn0++[d]),.unk] (λ d ds'=>K (ds'.set 1 d)) xe:=λ dn0 d K xe _ hK=>by
   refine qL3 (i:=0) (p:=[2]) (ys:=dn0++[d]) (d0:=Af false a.C4 a.C3 n wr ps g (dn0++[d])) (by show (D.fidx a.C4 "done" (Af false a.C4 a.C3 n wr ps g (dn0++[d]))).map (λ n=>(0,[n]))=_;rw[qJ0];rfl) rfl rfl (qb7 (qa0 (a:=(dn0,d)) ?_ hK));show ((dn0++[d])[(dn0++[d]).length - 1]?).map (λ d'=>((dn0++[d]).dropLast,d'))=_;rw[zA8,show dn0.length + [d].length - 1=dn0.length from rfl,zBt (zA3 _),Nat.sub_self,List.dropLast_concat];rfl
 rcases h with⟨rfl,q⟩ | ⟨dn0,k,hk,h⟩
 . exact qg0 true (hlen [] _) (λ _=>qd1 (.bl false) rfl q) λ h=>(nomatch h)
 have hl0:∀ d:D,((((dn0++[d]).length:Nat):Int) == 0)=false:=λ d=>by
   rw[zA8];exact zBj.mpr (by show ((dn0.length+1:Nat):Int)≠0;lia)
 rcases h with⟨rfl,hin,q⟩ | ⟨rfl,nin,nc,q⟩
 . refine qg0 false ((hlen _ _).trans (by rw[hl0])) (λ h=>(nomatch h)) λ _=>?_
   refine qb1 [Af false a.C4 a.C3 n wr ps g dn0,.tup [.str "put",.int k]] (λ K hK=>qe9 (hpop dn0 _ K _ rfl hK)) ?_;obtain⟨i,hi,e⟩:=(KP.h.2 k).mp hin;obtain⟨j,hj⟩:=qH0 hi e;obtain⟨hjl,hjg⟩:=qav0 hj;refine qb8 (λ ds=>∃ g',ds=[Af false a.C4 a.C3 n wr ps g' dn0,.tup [.str "put",.int k]]/\Kept n.toNat wr (hmOf n ps) g' (S.filter λ x=>decide (x≠k))) (λ K hK=>if_v (b:=true) rfl (λ _=>qi3 (qe0 ?_)) λ h=>nomatch h) ?_
   . refine qb9 (y:=planD true a.C3 n wr ps) (A5 rfl qf8) rfl ?_
     refine qa0 (a:=(0,[1])) (by show (D.fidx a.C4 "held" (Af false a.C4 a.C3 n wr ps g dn0)).map (λ n=>(0,[n]))=_;rw[qm8];rfl) ?_;refine qa0 (a:=D.lst false (rlD n.toNat g)) rfl ?_;refine⟨rfl,qa0 (a:=D.int (j:Nat)) ?_ ⟨rfl,λ w=>?_⟩⟩
     . show (if (Af false a.C4 a.C3 n wr ps g dn0).isM a.C4 "room_of" = true then (some (D.int k)).bind λ y=>(Hf a.C4 (Af false a.C4 a.C3 n wr ps g dn0) y).bind λ d=>d.flat.map λ _=>d else none)=_
       rw[if_pos (qi1 rfl)];show (Hf a.C4 (Af false a.C4 a.C3 n wr ps g dn0) (.int k)).bind _=_;rw[qao7 hk,hj];rfl
     refine⟨true,n,wr,ps,g,S,k,j,rfl,n1,n2,hS,KP,hjl,hjg,λ came g' K'=>?_⟩;refine qa0 (a:=[Af false a.C4 a.C3 n wr ps g' dn0,D.tup [.str "put",.int k]]) ?_ (hK _ ⟨g',rfl,K'⟩);show Am (.pl 0 [1] w::_) _ _=_;rw[qc1 rfl];rfl
   rintro ds ⟨g',rfl,K'⟩;exact qd1 (.bl true) rfl (q g' K')
 refine qg0 false ((hlen _ _).trans (by rw[hl0])) (λ h=>(nomatch h)) λ _=>?_
 refine qb1 [Af false a.C4 a.C3 n wr ps g dn0,.tup [.str "take",.int k]] (λ K hK=>qe9 (hpop dn0 _ K _ rfl hK)) ?_;refine qb8 (λ ds=>∃ g',ds=[Af false a.C4 a.C3 n wr ps g' dn0,.tup [.str "take",.int k]]/\Kept n.toNat wr (hmOf n ps) g' (S++[k])) (λ K hK=>if_v (b:=false) rfl (λ h=>nomatch h) λ _=>qi3 (qe0 ?_)) ?_
 . refine qb9 (y:=planD true a.C3 n wr ps) (A5 rfl qf8) rfl ?_
   refine qa0 (a:=(0,[1])) (by show (D.fidx a.C4 "held" (Af false a.C4 a.C3 n wr ps g dn0)).map (λ n=>(0,[n]))=_;rw[qm8];rfl) ?_;refine qa0 (a:=D.lst false (rlD n.toNat g)) rfl ?_;refine⟨rfl,λ w=>qb9 (y:=D.int k) rfl rfl (qb7 ?_)⟩;refine⟨true,n,wr,ps,g,S,k,rfl,n1,n2,hk,hS,KP,nin,?_,λ came g' K'=>?_⟩
   . by_cases h:∃ e,Gd n.toNat wr (hmOf n ps) g k e
     . exact h
     obtain⟨q,c⟩:=KP.crowd λ e z=>h ⟨e,z⟩
     exact absurd c (nc q)
   refine qa0 (a:=[Af false a.C4 a.C3 n wr ps g' dn0,D.tup [.str "take",.int k]]) ?_ (hK _ ⟨g',rfl,K'⟩);show Am (.pl 0 [1] w::_) _ _=_;rw[qc1 rfl];rfl
 rintro ds ⟨g',rfl,K'⟩;exact qd1 (.bl true) rfl (q g' K')
theorem qQ0:qa9 ["_law_bag_here", "_law_case_here", "_law_row", "_law_keys_here", "_law_past", "_law_way", "_law_key_here"] ["_law_bag_here", "_law_case_here", "_law_row", "_law_keys_here", "_law_past"] (qa3 qae5):=by walk_at "s"
inductive Hist(Kp:List Int->Prop):List Int->List (List Int)->Ds->Prop
 | nil {S:List Int}:Hist Kp S [] []
 | put {S:List Int} {past:List (List Int)} {dn:Ds} {k:Int}:Hist Kp S past dn->Kp S->¬ k∈S->Ak k->Hist Kp (S++[k]) (past++[S]) (dn++[.tup [.str "put",.int k]])
 | take {S S':List Int} {past:List (List Int)} {dn:Ds} {k:Int}:Hist Kp S past dn->Kp S->(∀ x,x∈S'↔x∈S/\x≠k)->k∈S->Ak k->Hist Kp S' (past++[S]) (dn++[.tup [.str "take",.int k]])
theorem Hist.inv{dn:Ds}(h:Hist Kp S past dn):(past=[]/\dn=[])∨∃ S0 past0 dn0 k,past=past0++[S0]/\Hist Kp S0 past0 dn0/\Kp S0/\Ak k/\(dn=dn0++[.tup [.str "put",.int k]]/\¬ k∈S0/\S=S0++[k]∨dn=dn0++[.tup [.str "take",.int k]]/\k∈S0/\∀ x,x∈S↔x∈S0/\x≠k):=by
 cases h with
 | nil=>exact .inl ⟨rfl,rfl⟩
 | put h a b c=>exact .inr ⟨_,_,_,_,rfl,h,a,c,.inl ⟨rfl,b,rfl⟩⟩
 | take h a b c d=>exact .inr ⟨_,_,_,_,rfl,h,a,d,.inr ⟨rfl,c,b⟩⟩
theorem Hist.len{dn:Ds}(h:Hist Kp S past dn):dn.length=past.length:=by
 induction h with
 | nil=>rfl
 | put _ _ _ _ ih=>rw[zA8,zA8,ih];rfl
 | take _ _ _ _ _ ih=>rw[zA8,zA8,ih];rfl
theorem Hist.imms{dn:Ds}(h:Hist Kp S past dn):D.imms dn=true:=by
 induction h with
 | nil=>rfl
 | put _ _ _ _ ih=>rw[qu6,ih];rfl
 | take _ _ _ _ _ ih=>rw[qu6,ih];rfl
theorem qA7{wr:Bool}{hm:Int->Nat}{g:Nat->Option Int}{S':List Int}(K:Kept N wr hm g S)(nd:S'.Nodup)(hs:∀ x,x∈S↔x∈S'):Kept N wr hm g S':=⟨K.o,K.c,⟨nd,λ x=>(hs x).symm.trans (K.h.2 x)⟩,K.ln⟩
def Bc(past:List (List Int)):Ds:=past.map λ S=>.lst true (ksD S)
def Jo(n:Int)(wr:Bool)(ps:Pr)(S:List Int):Prop:=(∃ g,Kept n.toNat wr (hmOf n ps) g S)/\∀ x∈S,Ak x
theorem qU7:Bc past++[.lst true (ksD S)]=Bc (past++[S]):=by unfold Bc;rw[zBh];rfl
theorem qaE2(past:List (List Int)):(Bc past).length=past.length:=zAc _
theorem qag6{g:Ds->Ds->Option (Ds×D)}(h1:ds[i]? = some (.lst false ys))(h:tr ds (λ xs _ ds1=>orF ((rdN i ds1).bind D.own) λ ys=>orF (g ys xs) λ z=>Q z.2 (ds1.set i (.lst false z.1))) xe):Eh g i tr ds Q xe:=⟨by rw[qd4 h1 rfl];rfl,h⟩
theorem qam4{t:VT}{g:VTG}(h:t ds (λ d ds1=>g d ds1 e.nx) e.xe):Ee t g e ds:=h
theorem qaP6:∀(S:List Int)(j:Nat),(ksD S).eraseIdx j=ksD (S.eraseIdx j)
 | [],_=>rfl
 | _::_,0=>rfl
 | x::S,j+1=>congrArg (D.int x::·) (qaP6 S j)
theorem qaw8:∀ past:List (List Int),gNe (.lst false (Bc past)) (.lst z' [])=some (.bl (!decide (past=[])))
 | []=>rfl
 | _::_=>rfl
abbrev dD(C CP:Addr)(b:D)(n:Int)(wr:Bool)(ps:Pr)(g:Nat->Option Int)(dn:Ds)(S:List Int)(past:List (List Int))(d5 d6:D):Ds:=[b,caseD n wr ps,Af false C CP n wr ps g dn,.lst false (ksD S),.lst false (Bc past),d5,d6]
def qaA1(C CP:Addr):VSp:=λ ds Q _=>∃ b ns n wr ps g dn S past,ds=[b,caseD n wr ps,Af false C CP n wr ps g dn,.lst false (ksD S),.lst false (Bc past)]/\isBag ns b/\1<=n/\n<=64/\(ps.map (·.1)).Nodup/\(∀ x∈S,Ak x)/\Kept n.toNat wr (hmOf n ps) g S/\Hist (Jo n wr ps) S past dn/\past.length<=100 /\
 ∀ b' g' dn' S' past',isBag ns b'->(∀ x∈S',Ak x)->Kept n.toNat wr (hmOf n ps) g' S'->Hist (Jo n wr ps) S' past' dn'->past'.length<=past.length+1->Q (.bl true) [b',caseD n wr ps,Af false C CP n wr ps g' dn',.lst false (ksD S'),.lst false (Bc past')]
theorem qaD0(T:Txt K mg a):VFn P w K mg base 9 a.f52 a.d52 ["_law_bag_here", "_law_case_here", "_law_row", "_law_keys_here", "_law_past"] (qaA1 a.C4 a.C3):=by
 refine VFn.mk' T.d52.F qQ0 (wOf [true,true,true,true,true]) (λ ds Q Q' xe xe' hQ _ h=>by obtain⟨b,ns,n,wr,ps,g,dn,S,past,e,h1,h2,h3,h4,h5,h6,h7,h8,q⟩:=h;exact⟨b,ns,n,wr,ps,g,dn,S,past,e,h1,h2,h3,h4,h5,h6,h7,h8,λ b' g' dn' S' past' a1 a2 a3 a4 a5=>hQ _ _ (q b' g' dn' S' past' a1 a2 a3 a4 a5)⟩) (λ ds Q xe h=>by obtain⟨b,ns,n,wr,ps,g,dn,S,past,e,_⟩:=h;rw[e];rfl) (λ ds Q xe h=>by obtain⟨b,ns,n,wr,ps,g,dn,S,past,e,⟨x,y,z,eb,_⟩,_⟩:=h;rw[e,eb];rfl) (λ cdv A outer sh H E av hr=>⟨_,(Ab (Ah 5 qQ0.nd (Ae T.d39 (qc0 T) qa1 (rm hr) (vaN 0 (vaV (qa5 Ac) Aa))))
     (Ab (sif (q2 (Aj (qf5 hr.u64) (qa8 _)) A9 (vnm 5) Ac)
     (Ab (sif (Eb (q2 (Aj (qt7 hr.u64) (qa8 _)) Dw (vnm 4) (Bk qa6)) (Dc (q2v (A4 qj5 (qa8 _)) (Aj qj5 (qa8 _)) qn1 (qM8 2 T.d30 T.C6.cl (qaa6 T) qa1 (rm hr)) vbl))).te
     (Ad (Ap (qa5 vbl)))
     Aq)
     (Ab (sif (q2 (Aj (qt7 hr.u64) (qa8 _)) Dw (vnm 4) (Bk qa6))
     (Ad (Er (qaX4 4 qaM6 PySem.F.plainAttrs_list PySem.F.slot_list_pop PySem.F.type_list_pop qaM7) (gallV (vpn 3))))
     Aq)
     (Ad (Ap (qa5 vbl)))))
     Aq)
     (Ab (sif (Eb (q2 (Aj D8 (qa8 _)) Et (vnm 5) Ac) (Dc (q2 (Aj (qt7 hr.u64) (qa8 _)) Dw (vnm 3) (Bk qa6)))).te
     (Ab (Bh (Dy 4 qw6 PySem.F.plainAttrs_list PySem.F.slot_list_append PySem.F.type_list_append qd5 (vaV (efzV (qa5 (E6 qd3 qv7.ops T.Cj (qa2 (vnm 3) qa6 rfl)))) Aa)))
     (Ab (Bh (ql8 2 T.d29 T.C6.cl (qaa7 T) qa1 (rm hr) (vaV (Dy 3 qaD4 PySem.F.plainAttrs_list PySem.F.slot_list_pop PySem.F.type_list_pop qaD5 (vaV (Ae T.d39 (qc0 T) qa1 (rm hr) (vaN 0 (vaV (qa5 (vbi qr5 qr4.ops T.Ci (qa2 (vnm 3) qa6 rfl))) Aa))) Aa)) Aa)))
     (Ad (Ap (qa5 vbl)))))
     Aq)
     (Ab (Ah 6 qQ0.nd (Ae T.d41 (qU8 T) qa1 (rm hr) (vaN 0 (vaV (qb5 (v2 (An qb0) Ag (vnm 1) Ac)) (vaV (Ae T.d39 (qc0 T) qa1 (rm hr) (vaN 0 (vaV (qb5 (v2 (An qb0) Ag (vnm 1) Ac)) Aa))) Aa)))))
     (Ab (sif (Eb (q2 (Aj qA0 (by with_unfolding_all rfl)) Gh (vnm 6) (vnm 3)) (Dc (q2v (A4 qj5 (qa8 _)) (Aj qj5 (qa8 _)) qn1 (Ae T.d47 (qq4 T) qa1 (rm hr) (vaN 1 (vaV (qa5 (v2 (Al qk8) qk7 (vnm 3) (Bk (qa2 (vnm 6) qa6 rfl)))) Aa))) A6))).te
     (Ab (Bh (Dy 4 qw6 PySem.F.plainAttrs_list PySem.F.slot_list_append PySem.F.type_list_append qd5 (vaV (efzV (qa5 (E6 qd3 qv7.ops T.Cj (qa2 (vnm 3) qa6 rfl)))) Aa)))
     (Ab (Bh (ql8 2 T.d28 T.C6.cl (qag0 T) qa1 (rm hr) (vaN 6 Aa)))
     (Ad (Bh (Dy 3 qw6 PySem.F.plainAttrs_list PySem.F.slot_list_append PySem.F.type_list_append qd5 (vaN 6 Aa))))))
     Aq)
     (Ad (Ap (qa5 vbl)))))))),λ ds Q xe h=>?_⟩)
 obtain⟨b,ns,n,wr,ps,g,dn,S,past,rfl,B,n1,n2,nd,hS,KP,Hi,hpl,q⟩:=h;have hSl:S.length<=64:=by
   have hS:=qv2 (g:=g) (List.range n.toNat) S KP.h.1 λ k hk=>by
     obtain⟨i,hi,e⟩:=(KP.h.2 k).mp hk;exact⟨i,zA9.mpr hi,e⟩
   rw[zAq] at hS;lia
 have hdn:=Hi.len;refine As (dD a.C4 a.C3 b n wr ps g dn S past .unk .unk) rfl ?_;refine qb8 (λ ds=>∃ b v,ds=dD a.C4 a.C3 b n wr ps g dn S past (.int v) .unk/\isBag ns b) (λ K hK=>?_) ?_
 . exact qe9 (qe2 (ds:=dD a.C4 a.C3 b n wr ps g dn S past .unk .unk) rfl B rfl (by decide) (by decide) λ v b' v0 v1 B'=>hK _ ⟨b',v,rfl,B'⟩)
 rintro ds ⟨b,v,rfl,B⟩;refine qg0 (decide (v=0)) rfl (λ h=>?_) λ h=>?_
 . rcases Hi.inv with⟨rfl,rfl⟩ | ⟨S0,past0,dn0,k,rfl,H0,⟨⟨g0,K0⟩,hS0⟩,hk,hu⟩
   . refine qe8 false (λ Q q=>qd7 false false (λ Q q=>qc6 (b:=false) rfl q) (λ h=>nomatch h) q) (λ h=>(nomatch h)) λ _=>?_
     refine qg0 false rfl (λ h=>(nomatch h)) λ _=>?_
     exact qd1 (.bl true) rfl (q b g [] S [] B hS KP Hi (by simp))
   have hne:decide (past0++[S0]=[])=false:=by simp
   have und:∀(Q2:DK)(xe2:XKd),(∀ g',Kept n.toNat wr (hmOf n ps) g' S0->Q2 (.bl true) [Af false a.C4 a.C3 n wr ps g' dn0])->qD3 a.C4 a.C3 [Af false a.C4 a.C3 n wr ps g dn] Q2 xe2:=λ Q2 xe2 hQ=>by
     refine⟨n,wr,ps,g,dn,S,rfl,n1,n2,hS,KP,.inr ⟨dn0,k,hk,?_⟩⟩;rcases hu with⟨rfl,nin,rfl⟩ | ⟨rfl,hin,hmem⟩
     . refine .inl ⟨rfl,zAy _ zA7,λ g' K'=>hQ g' (qA7 K' K0.h.1 λ x=>?_)⟩
       rw[zAx,zAh,zAm,decide_eq_true_iff];constructor
       . rintro⟨h | h,h2⟩
         . exact h
         exact absurd h h2
       exact λ h=>⟨.inl h,λ e=>nin (by rw[<- e];exact h)⟩
     have hmm:∀ x,x∈S++[k]↔x∈S0:=λ x=>by
       rw[zAh,zAm,hmem x];constructor
       . rintro (h | rfl)
         . exact h.1
         exact hin
       intro h;by_cases e:x=k
       . exact .inr e
       exact .inl ⟨h,e⟩
     have nink:¬ k∈S:=λ h=>((hmem k).mp h).2 rfl
     have ndk:(S++[k]).Nodup:=zBn.mpr ⟨KP.h.1,by simp,λ x hx y hy e=>nink (by rw[zAm.mp hy] at e;rw[<- e];exact hx)⟩;refine .inr ⟨rfl,nink,λ q c=>K0.no_crowd q (c.perm ((List.perm_ext_iff_of_nodup ndk K0.h.1).mpr hmm)),λ g' K'=>hQ g' (qA7 K' K0.h.1 hmm)⟩
   refine qaj1 (show Gi _ _ _ _ _ from qc6 (b:=true) (f2_of rfl rfl (by rw[qaw8,hne];rfl)) (Dp rfl (qz7 ?_)));refine qH9 (p:=Af false a.C4 a.C3 n wr ps g dn) rfl (qi1 rfl) (qb7 (qa0 (a:=Af false a.C4 a.C3 n wr ps g dn) rfl (und _ _ λ g' K'=>?_)));refine qa0 (a:=dD a.C4 a.C3 b n wr ps g' dn0 S (past0++[S0]) (.int v) .unk) rfl (qa0 (a:=D.bl false) rfl (qa0 (a:=false) rfl (Bs (by decide) ?_)));refine qb1 (dD a.C4 a.C3 b n wr ps g' dn0 S0 past0 (.int v) .unk) (λ K hK=>?_) ?_
   . refine if_v (b:=true) (f2_of rfl rfl (by rw[qaw8,hne];rfl)) (λ _=>qam4 (qag6 (ys:=Bc (past0++[S0])) rfl (qb7 (qa0 (a:=Bc (past0++[S0])) rfl (qa0 (a:=(Bc past0,D.lst true (ksD S0))) ?_ ?_))))) λ h=>nomatch h
     . rw[<- qU7]
       show ((Bc past0++[D.lst true (ksD S0)])[(Bc past0++[D.lst true (ksD S0)]).length - 1]?).map (λ d'=>((Bc past0++[D.lst true (ksD S0)]).dropLast,d'))=_;rw[zA8,show (Bc past0).length + [D.lst true (ksD S0)].length - 1=(Bc past0).length from rfl,zBt (zA3 _),Nat.sub_self,List.dropLast_concat];rfl
     refine qa0 (a:=(3,[])) rfl (qa0 (a:=ksD S) rfl (qa0 (a:=ksD S0) rfl ⟨ql5 S0,?_,hK⟩));have h0:=qv2 (g:=g0) (List.range n.toNat) S0 K0.h.1 λ k hk=>by
       obtain⟨i,hi,e⟩:=(K0.h.2 k).mp hk;exact⟨i,zA9.mpr hi,e⟩
     rw[zAq] at h0;rw[qj0,qj0];unfold big;lia
   exact qd1 (.bl true) rfl (q b g' dn0 S0 past0 B hS0 K' H0 (by rw[zA8];lia))
 have app:∀(b:D)(d5 d6:D)(K:Ds->Prop)(xe:XKd),K (dD a.C4 a.C3 b n wr ps g dn S (past++[S]) d5 d6)->Eh Gx 4 (tbV (tFzV (Bn (Ay (fx1 Fp) (Au (rdN 3) λ _=>some [])))) Ax) (dD a.C4 a.C3 b n wr ps g dn S past d5 d6) (λ _ ds=>K ds) xe:=λ b d5 d6 K xe hK=>by
   refine qag6 (ys:=Bc past) rfl (qaI0 (y:=.lst false (ksD S)) (qaN1 (z:=false)) (qb7 ?_));refine qa0 (a:=Bc past) rfl (qa0 (a:=(Bc past++[D.lst true (ksD S)],D.non)) ?_ ?_)
   . rw[show (D.lst false (ksD S)).fz=D.lst true (ksD S) from fz_ks _]
     exact if_pos (by rw[qaE2];unfold big;lia)
   rw[qU7];exact hK
 refine qe8 (decide (v < 3)&&!decide (S=[])) (λ Q q=>qd7 (decide (v < 3)) (!decide (S=[])) (λ Q q=>qc6 rfl q) (λ _ Q q=>qc6 (f2_of rfl rfl (Jm S)) q) q) (λ h=>?_) λ _=>?_
 . have hne:S≠[]:=λ e=>by rw[e] at h;simp at h
   have hpos:=zC1.mpr hne;refine qb1 (dD a.C4 a.C3 b n wr ps g dn S (past++[S]) (.int v) .unk) (λ K hK=>qi3 (app _ _ _ _ _ hK)) ?_;refine qb8 (λ ds=>∃ b g' dn' S',ds=dD a.C4 a.C3 b n wr ps g' dn' S' (past++[S]) (.int v) .unk/\isBag ns b/\(∀ x∈S',Ak x)/\Kept n.toNat wr (hmOf n ps) g' S'/\Hist (Jo n wr ps) S' (past++[S]) dn') (λ K hK=>qi3 ?_) ?_
   . refine qH9 (p:=Af false a.C4 a.C3 n wr ps g dn) rfl (qi1 rfl) (qd8 (qag6 (ys:=ksD S) rfl (qd8 ?_)))
     refine qe2 (ds:=dD a.C4 a.C3 b n wr ps g dn S (past++[S]) (.int v) .unk) (m:=(S.length:Nat)) rfl B (by rw[qo7 (z:=false) (ys:=ksD S) rfl,qj0]) (by lia) (by lia) λ w b' w0 w1 B'=>?_
     obtain⟨k,hk⟩:∃ k,S[w.toNat]? = some k:=⟨_,zAz (by lia)⟩
     have hkS:=zAt hk;refine qb7 (qa0 (a:=ksD S) rfl (qa0 (a:=(ksD (S.eraseIdx w.toNat),D.int k)) ?_ ?_))
     . show (if 0<=w/\w < 2 ^ 63 then ((ksD S)[w.toNat]?).map λ d=>((ksD S).eraseIdx w.toNat,d) else none)=_
       rw[if_pos ⟨w0,by lia⟩];rw[qaP6,show (ksD S)[w.toNat]? = some (.int k) from by unfold ksD;rw[zAv,hk];rfl];rfl
     have hmem:∀ x,x∈S.eraseIdx w.toNat↔x∈S/\x≠k:=λ x=>by
       rw[List.mem_eraseIdx_iff_getElem?];constructor
       . rintro⟨i,hi,e⟩
         refine⟨zAt e,λ z=>hi ?_⟩;subst z;exact(List.getElem?_inj (zA4.mp e).1 KP.h.1).mp (e.trans hk.symm)
       rintro⟨h1,h2⟩;obtain⟨i,e⟩:=zBp h1;exact⟨i,λ z=>h2 (by rw[z,hk] at e;exact(Option.some.inj e).symm),e⟩
     refine qb7 (qa0 (a:=Af false a.C4 a.C3 n wr ps g dn) rfl ⟨n,wr,ps,g,dn,S,k,rfl,n1,n2,hS,KP,hkS,by lia,λ r came g' K'=>?_⟩);refine qa0 (a:=dD a.C4 a.C3 b' n wr ps g' (dn++[.tup [.str "take",.int k]]) (S.eraseIdx w.toNat) (past++[S]) (.int v) .unk) rfl ?_;refine hK _ ⟨b',g',_,_,rfl,B',λ x hx=>hS x ((hmem x).mp hx).1,qA7 K' (KP.h.1.sublist (List.eraseIdx_sublist ..)) λ x=>?_,Hi.take ⟨⟨g,KP⟩,hS⟩ hmem hkS (hS k hkS)⟩;rw[hmem x,zAx,decide_eq_true_iff]
   rintro ds ⟨b,g',dn',S',rfl,B,hS',K',H'⟩;exact qd1 (.bl true) rfl (q b g' dn' S' _ B hS' K' H' (by rw[zA8];exact zA3 _))
 refine qb8 (λ ds=>∃ b k,ds=dD a.C4 a.C3 b n wr ps g dn S past (.int v) (.int k)/\isBag ns b/\Ak k) (λ K hK=>?_) ?_
 . refine qe9 (qe0 (qb6 (x:=b) (qd4 rfl B.known) (qb9 (y:=.int n) rfl rfl (qd8 ?_))))
   refine qF8 (ds:=dD a.C4 a.C3 b n wr ps g dn S past (.int v) .unk) (m:=n) rfl B rfl (by lia) (by lia) λ w b1 w0 w1 B1=>?_
   refine qb7 (qa0 (a:=b1) (qd4 rfl B1.known) ⟨b1,n,w,ns,rfl,B1,n1,n2,w0,w1,λ k b2 lk B2=>?_⟩);exact qa0 (a:=dD a.C4 a.C3 b2 n wr ps g dn S past (.int v) .unk) rfl (hK _ ⟨b2,k,rfl,B2,lk.num⟩)
 rintro ds ⟨b,k,rfl,B,hk⟩;refine qb8 (λ ds=>∃ g' dn' S' past' d6,ds=dD a.C4 a.C3 b n wr ps g' dn' S' past' (.int v) d6/\(∀ x∈S',Ak x)/\Kept n.toNat wr (hmOf n ps) g' S'/\Hist (Jo n wr ps) S' past' dn'/\past'.length<=past.length+1) (λ K hK=>?_) ?_
 . have stay:=hK _ ⟨g,dn,S,past,.int k,rfl,hS,KP,Hi,by lia⟩
   refine(show sIf _ _ _ _ _ from(show Gi _ _ _ _ _ from qc6 (b:=!decide (k∈S)) (f2_of rfl rfl qag3) (ite_b (λ h=>qz7 ?_) λ h=>Bs (by decide) stay)));have nin:¬ k∈S:=λ z=>by rw[zAe z] at h;cases h
   have ndk:(S++[k]).Nodup:=zBn.mpr ⟨KP.h.1,by simp,λ x hx y hy e=>nin (by rw[zAm.mp hy] at e;rw[<- e];exact hx)⟩;refine qe0 (qb6 (x:=caseD n wr ps) rfl (qf0 (y:=.lst false (ksD (S++[k]))) (f2_of rfl rfl (qaR0 (z:=false) (z':=false) (B:=[k]) (by show _+1<=1000;lia))) (qb7 (qa0 (a:=caseD n wr ps) rfl ?_))));refine⟨n,wr,ps,false,S++[k],rfl,n1,n2,nd,ndk,λ nc g1 K1=>?_,λ _=>?_⟩
   . refine qa0 (a:=dD a.C4 a.C3 b n wr ps g dn S past (.int v) (.int k)) rfl (qa0 (a:=D.bl true) rfl (qa0 (a:=true) rfl (Dp rfl ?_)))
     refine qb1 (dD a.C4 a.C3 b n wr ps g dn S (past++[S]) (.int v) (.int k)) (λ K hK=>qi3 (app _ _ _ _ _ hK)) ?_;refine qb8 (λ ds=>∃ g',ds=dD a.C4 a.C3 b n wr ps g' (dn++[.tup [.str "put",.int k]]) S (past++[S]) (.int v) (.int k)/\Kept n.toNat wr (hmOf n ps) g' (S++[k])) (λ K hK=>qi3 ?_) ?_
     . refine qH9 (p:=Af false a.C4 a.C3 n wr ps g dn) rfl (qi1 rfl) (qb6 (x:=.int k) rfl (qb7 (qa0 (a:=D.int k) rfl (qa0 (a:=Af false a.C4 a.C3 n wr ps g dn) rfl ?_))))
       refine⟨n,wr,ps,g,dn,S,k,rfl,n1,n2,hk,hS,KP,nin,nc,by lia,λ came g' K'=>?_⟩;exact qa0 (a:=dD a.C4 a.C3 b n wr ps g' (dn++[.tup [.str "put",.int k]]) S (past++[S]) (.int v) (.int k)) rfl (hK _ ⟨g',rfl,K'⟩)
     rintro ds ⟨g',rfl,K'⟩;refine qi3 (qaH2 (ys:=ksD S) (d:=.int k) rfl rfl rfl (by decide) (by rw[qj0];unfold big;lia) ?_);rw[qL8];refine hK _ ⟨g',_,S++[k],past++[S],_,rfl,λ x hx=>?_,K',Hi.put ⟨⟨g,KP⟩,hS⟩ nin hk,by rw[zA8];exact zA3 _⟩;rcases zAh.mp hx with h | h
     . exact hS x h
     rw[zAm.mp h];exact hk
   exact qa0 (a:=dD a.C4 a.C3 b n wr ps g dn S past (.int v) (.int k)) rfl (qa0 (a:=D.bl false) rfl (qa0 (a:=false) rfl (Bs (by decide) stay)))
 rintro ds ⟨g',dn',S',past',d6,rfl,a2,a3,a4,a5⟩;exact qd1 (.bl true) rfl (q b g' dn' S' past' B a2 a3 a4 a5)
theorem qp9:qa9 ["_law_script", "_law_bag_here", "_law_case_here", "_law_first", "_law_other", "_law_plan", "_law_rows", "_law_some", "_law_past", "_law_held", "_law_k", "_law_ways", "_law_at", "_law_way"] ["_law_script"] (qa3 Gq):=by walk_at "s"
theorem qaG6{K:Ds->Ds->Prop}{F:Pr}{d1 d2:D}(hl:F.length < 1000)(h:∀ d e,K (prD F) [d,e]):Ei (Fs 2 (qw9 (gNm 0) (qw9 (gNm 1) E9))) Jb (Bn (Ay gTup (Au (rdN 0) (Au (rdN 1) λ _=>some [])))) K (prD F) [] [d1,d2]:=by
 refine qj8 (λ ι=>∃ d e,ι=[d,e]) some _ [] _ (by show 0+_ < 1000000;rw[qaE1];lia) ⟨_,_,rfl⟩ ?_ ?_
 . rintro y hy ι acc ⟨d,e,rfl⟩ R hR hacc
   obtain⟨i,hi⟩:=zBp hy;obtain⟨⟨k,f⟩,hq,rfl⟩:=qaB7 hi;have this:=hR [.int k,.int f] ⟨_,_,rfl⟩;exact qu7 (qay6 (Dp rfl (qq5 (d:=.tup [.int k,.int f]) rfl ⟨hacc,this⟩)))
 rintro ι ⟨d,e,rfl⟩;rw[show (prD F).filterMap some=prD F from List.filterMap_some ..,zB5];exact h _ _
theorem qm6{ps:List Pl}:Am (.sl i::ps) (y::ys) ds=Am ps ys (ds.set i y):=rfl
theorem qar7{g:VTG}(h:ta ds (λ x ds1=>orF (Hs [x]) λ j=>Fn j=true/\Dn g t e (Bm 0 j.toNat) ds1) e.xe):Ja (Go (tbV ta Ax)) g t e ds:=h
abbrev dL(u:V)(b c d3 d4 d5 d6 d7 d8 d9 d10 d11 d12 d13:D):Ds:=[.hole u,b,c,d3,d4,d5,d6,d7,d8,d9,d10,d11,d12,d13]
abbrev dA(u:V)(b:D)(n:Int)(wr:Bool)(ps:Pr)(S S1:List Int)(d5 d6:D):Ds:=dL u b (caseD n wr ps) (.lst false (ksD S)) (.lst false (ksD S1)) d5 d6 .unk .unk .unk .unk .unk .unk .unk
abbrev dB(u:V)(b:D)(n:Int)(wr:Bool)(ps:Pr)(S:List Int):Ds:=dL u b (caseD n wr ps) (.lst false (ksD S)) .unk .unk .unk .unk .unk .unk .unk .unk .unk .unk
def okR(n:Int)(wr:Bool)(ps:Pr)(g:Nat->Option Int)(S:List Int)(p:List (List Int))(dn:Ds):Prop:=(∀ x∈S,Ak x)/\Kept n.toNat wr (hmOf n ps) g S/\Hist (Jo n wr ps) S p dn
abbrev rwD(C CP:Addr)(n:Int)(wr:Bool)(ps:Pr)(g0:Nat->Option Int)(dn0:Ds)(g1:Nat->Option Int)(dn1:Ds):D:=.lst false [Af false C CP n wr ps g0 dn0,Af false C CP n wr ps g1 dn1]
abbrev smD(S0 S1:List Int):D:=.lst false [.lst false (ksD S0),.lst false (ksD S1)]
abbrev ptD(p0 p1:List (List Int)):D:=.lst false [.lst false (Bc p0),.lst false (Bc p1)]
abbrev dC(C CP:Addr)(u:V)(b:D)(n:Int)(wr:Bool)(ps:Pr)(g g1:Nat->Option Int)(S S1:List Int):Ds:=dL u b (caseD n wr ps) .unk .unk (planD true CP n wr ps) (rwD C CP n wr ps g [] g1 []) (smD S S1) (ptD [] []) .unk .unk .unk .unk .unk
abbrev dM(C CP:Addr)(u:V)(b:D)(n:Int)(wr:Bool)(ps F:Pr)(g0:Nat->Option Int)(dn0:Ds)(S0:List Int)(p0:List (List Int))(g1:Nat->Option Int)(dn1:Ds)(S1:List Int)(p1:List (List Int))(d10 d11 d12 d13:D):Ds:=dL u b (caseD n wr ps) .unk .unk (planD true CP n wr ps) (rwD C CP n wr ps g0 dn0 g1 dn1) (smD S0 S1) (ptD p0 p1) (.lst false [.lst false (prD F),.lst false (prD F)]) d10 d11 d12 d13
abbrev dN(C CP:Addr)(u:V)(b:D)(n:Int)(wr:Bool)(ps F:Pr)(g0:Nat->Option Int)(dn0:Ds)(S0:List Int)(p0:List (List Int))(g1:Nat->Option Int)(dn1:Ds)(S1:List Int)(p1:List (List Int))(d10:D)(w0 w1 w2:Int)(d12:D):Ds:=dM C CP u b n wr ps F g0 dn0 S0 p0 g1 dn1 S1 p1 d10 (.lst false [.int w0,.int w1,.int w2]) d12 .unk
theorem qaU5(T:Txt K mg a):Bq P w K mg base (CX1 P w) 13 a.f53 a.d53 ["_law_script"] (G5 K):=by
 refine T.d53.F.okX qp9 (λ vs H Q E h=>?_) (λ cdv A outer s H vs Q E hr h=>?_)
 . obtain⟨l,ns,rfl,_⟩:=h
   rfl
 obtain⟨l,ns,rfl,hS,hl,k⟩:=h;refine⟨_,qQ4 (sset 1 qp9.nd (G4 T.d38 (qaM0 T) (rm hr) (qc4 (pv 0) ql6))) (show VSs ⟨E,λ _=>false,List.replicate 14 none,[]⟩ (D9 (CX1 P w) P w K mg base ["_law_script", "_law_bag_here", "_law_case_here", "_law_first", "_law_other", "_law_plan", "_law_rows", "_law_some", "_law_past", "_law_held", "_law_k", "_law_ways", "_law_at", "_law_way"] "law" (qa3 Gq) a.f53 cdv A outer s H E) _ _ from(Ab (Er (Ae T.d49 (qap5 T) qa1 (rm hr) (vaN 1 (vaV (qa5 Ac) Aa))) (Eg (n:=2) rfl (ql7 (Ba 2 qp9.nd) (ql7 (Ba 3 qp9.nd) Ef))))
     (Ab (Ah 4 qp9.nd (Ae T.d48 (qE4 T) qa1 (rm hr) (vaN 2 (vaV (Ae T.d42 (qag1 T) qa1 (rm hr) (vaN 1 (vaV (F5 (vaV (qb5 (v2 (An qb0) Ag (vnm 2) Ac)) (vaV (qb5 (v2 (An qb0) Ag (vnm 2) Ac)) (vaV (qa5 (Bk qa6)) Aa)))) (vaV (e2 (Al qk8) qk7 (qa5 Ac) (Ae T.d39 (qc0 T) qa1 (rm hr) (vaN 1 (vaV (qb5 (v2 (An qb0) Ag (vnm 2) Ac)) Aa)))) Aa)))) Aa))))
     (Ab (Ah 5 qp9.nd (efzV (emake T.C5 T.Cw T.d7 (qR0 T) qa1 (rm hr) (vaV (qb5 (v2 (An qb0) Ag (vnm 2) Ac)) (vaV (qb5 (v2 (An qb0) Ag (vnm 2) Ac)) (vaV (qa5 (E6 qd3 qv7.ops T.Cj (qa2 (v2 (An qb0) Ag (vnm 2) Ac) qa6 rfl))) Aa))))))
     (Ab (Ah 6 qp9.nd (F5 (vaV (qaG3 T.C6 T.Cq T.d24 (qt8 T) qa1 (rm hr) (vaN 5 (vaV (Ae T.d47 (qq4 T) qa1 (rm hr) (vaN 2 (vaN 3 Aa))) Aa))) (vaV (qaG3 T.C6 T.Cq T.d24 (qt8 T) qa1 (rm hr) (vaN 5 (vaV (Ae T.d47 (qq4 T) qa1 (rm hr) (vaN 2 (vaN 4 Aa))) Aa))) Aa))))
     (Ab (Ah 7 qp9.nd (F5 (vaV (emv 3) (vaV (emv 4) Aa))))
     (Ab (Ah 8 qp9.nd (F5 (vaV (qa5 (Bk qa6)) (vaV (qa5 (Bk qa6)) Aa))))
     (Ab (Ah 9 qp9.nd (F5 (vaV (Ae T.d34 (qm2 T) qa1 (rm hr) (vaB (Ed (vpn 6) Ac) Aa)) (vaV (ecL (NY:=["_law_key_here", "_law_far_here"]) (src:=[none,none]) (Ae T.d34 (qm2 T) qa1 (rm hr) (vaB (Ed (vpn 6) Ac) Aa)) (blk (λ av C s0 H0 ex=>(Eg (n:=2) rfl (ql7 (Ba 0 (show (["_law_key_here", "_law_far_here"]:List Str).Nodup by decide +kernel)) (ql7 (Ba 1 (show (["_law_key_here", "_law_far_here"]:List Str).Nodup by decide +kernel)) Ef)))) (λ av C s0 H0 ex=>Fb) (λ av C s0 H0 ex=>(qa5 (Ep (qa2 (vnm 0) (qa2 (vnm 1) qa6 rfl) rfl)))))) Aa))))
     (Ab (qK3 PassesOwn.leaving T.Cc (Dk (vaV (e2 (Al qk8) qk7 (qa5 Ac) (Ae T.d39 (qc0 T) qa1 (rm hr) (vaN 1 (vaV (qa5 Ac) Aa)))) Aa)) (Ba 10 qp9.nd)
     (Ab (Ah 11 qp9.nd (F5 (vaV (Ae T.d39 (qc0 T) qa1 (rm hr) (vaN 1 (vaV (qa5 Ac) Aa))) (vaV (Ae T.d39 (qc0 T) qa1 (rm hr) (vaN 1 (vaV (qa5 Ac) Aa))) (vaV (Ae T.d39 (qc0 T) qa1 (rm hr) (vaN 1 (vaV (qa5 Ac) Aa))) Aa)))))
     (Ab (sif (Bp (te (Ae T.d52 (qaD0 T) qa1 (rm hr) (vaN 1 (vaN 2 (vaB (Ed (vpn 6) (v2 (An qb0) Ag (vnm 11) Ac)) (vaB (Ed (vpn 7) (v2 (An qb0) Ag (vnm 11) Ac)) (vaB (Ed (vpn 8) (v2 (An qb0) Ag (vnm 11) Ac)) Aa))))))))
     (Ad (Ap (qa5 vbl)))
     Aq)
     (Ab (sif (q2v (A4 (qf5 hr.u64) (qa8 _)) (Aj (qf5 hr.u64) (qa8 _)) A9 (Ae T.d39 (qc0 T) qa1 (rm hr) (vaN 1 (vaV (qa5 Ac) Aa))) Ac)
     (Ad (Er (qaX5 T.d32 T.C6.cl (qL1 T) qa1 (rm hr) (Ed (vpn 6) (v2 (An qb0) Ag (vnm 11) Ac))) (Dm (vpn 6) (v2 (An qb0) Ag (vnm 11) Ac))))
     Aq)
     (Ad (sif (q2 (Aj (qf5 hr.u64) (qa8 _)) A9 (v2 (An qb0) Ag (vnm 11) Ac) Ac)
     (Ad (qK3 PassesOwn.leaving T.Cc (Dk (vaV (qa5 Ac) Aa)) (Ba 12 qp9.nd)
     (Ad (sif (Bp (te (Ae T.d51 (qH6 T) qa1 (rm hr) (vaN 2 (vaB (Ed (vpn 6) (vnm 12)) (vaB (Ed (vpn 7) (vnm 12)) (vaV (qb5 (v2 (An qb0) Ag (vnm 11) Ac)) Aa)))))))
     (Ad (Ap (qa5 vbl)))
     Aq))))
     Aq))))))
     (Ab (qK3 PassesOwn.leaving T.Cc (Dk (vaV (qa5 Ac) Aa)) (Ba 13 qp9.nd)
     (Ad (sif (tor (Bp (te (Ae T.d51 (qH6 T) qa1 (rm hr) (vaN 2 (vaB (Ed (vpn 6) Ac) (vaB (Ed (vpn 7) Ac) (vaN 13 Aa))))))) (Ix (Bp (te (Ae T.d51 (qH6 T) qa1 (rm hr) (vaN 2 (vaB (Ed (vpn 6) Ac) (vaB (Ed (vpn 7) Ac) (vaN 13 Aa))))))))).te
     (Ad (Ap (qa5 vbl)))
     Aq)))
     (Ad (Ap (qa5 (v2 (A4 (qf5 hr.u64) (qa8 _)) A9 (v2 (An qb0) Ag (vnm 9) Ac) (v2 (An qb0) Ag (vnm 9) Ac))))))))))))))).h,?_⟩
 refine⟨_,rfl,l,ns,rfl,hS,hl,λ p L H' hp hL kp B=>?_⟩;obtain⟨x,y,z,ns',B⟩:=B;refine qaq4 (rest:=[]) (X:=D9 (CX1 P w) P w K mg base [] "law" (qa3 Gq) a.f53 cdv A outer s H E) (n:=12) (x:=x) (y:=y) (z:=z) (ns:=ns') rfl (λ _=>rfl) rfl B.at_ B.li B.ne (λ H'=>k H') ?_;have B0:isBag ns' (bagD x y z ns'):=⟨x,y,z,rfl,B.x0,B.y0,B.y1,B.z0,B.nn⟩
 generalize bagD x y z ns'=b at B0;generalize V.ref l=u;refine As (dL u b .unk .unk .unk .unk .unk .unk .unk .unk .unk .unk .unk .unk) rfl ?_;refine qb8 (λ ds=>∃ b n wr ps S g,ds=dB u b n wr ps S/\isBag ns' b/\1<=n/\n<=64/\(ps.map (·.1)).Nodup/\Iq ps/\Kept n.toNat wr (hmOf n ps) g S/\(∀ k∈S,Ak k)) (λ K hK=>?_) ?_
 . refine qe0 (qb6 (x:=b) (qd4 rfl B0.known) (qf0 (y:=.int 64) rfl (qb7 (qa0 (a:=b) (qd4 rfl B0.known) ?_))))
   refine⟨b,ns',rfl,B0,λ b' n wr ps S g B' n1 n2 nd G KP hS _=>?_⟩;exact qa0 (a:=dL u b' .unk .unk .unk .unk .unk .unk .unk .unk .unk .unk .unk .unk) rfl (qu7 (hK _ ⟨b',n,wr,ps,S,g,rfl,B',n1,n2,nd,G,KP,hS⟩))
 rintro ds ⟨b,n,wr,ps,S,g,rfl,B,n1,n2,nd,G,KP,hS⟩;refine qb8 (λ ds=>∃ b S1 g1,ds=dA u b n wr ps S S1 .unk .unk/\isBag ns' b/\Kept n.toNat wr (hmOf n ps) g1 S1/\(∀ k∈S1,Ak k)) (λ K hK=>?_) ?_
 . refine qe9 (qe0 (qb6 (x:=caseD n wr ps) rfl (qd8 (qe0 (qb6 (x:=b) (qd4 rfl B.known) (qd8 (qw7 ?_)))))))
   refine qb9 (y:=.int n) rfl rfl (qb9 (y:=.bl wr) rfl rfl (qf0 (y:=.lst false []) rfl (qb7 ⟨by show 3<=1000000;decide,?_⟩)));refine qd8 (qan8 (x:=.int 1) rfl ?_);refine qF8 (ds:=dB u b n wr ps S) (m:=n) rfl B rfl (by lia) (by lia) λ v b1 v0 v1 B1=>?_
   refine qa0 (a:=D.int (1+v)) rfl (qb7 (qa0 (a:=b1) (qd4 rfl B1.known) ⟨b1,n,wr,1+v,ns',rfl,B1,n1,n2,by lia,by lia,λ b2 ks ps' B2 ndk lk hlen _ _=>?_⟩));refine qa0 (a:=dB u b2 n wr ps S) rfl (qb7 (qa0 (a:=caseD n wr ps) rfl ⟨n,wr,ps,false,ks,rfl,n1,n2,nd,ndk,by lia,λ S1 g1 sl _ K1=>?_⟩));exact qa0 (a:=dB u b2 n wr ps S) rfl (hK _ ⟨b2,S1,g1,rfl,B2,K1,λ k hk=>(lk k (sl.subset hk)).num⟩)
 rintro ds ⟨b,S1,g1,rfl,B,KP1,hS1⟩;refine qb1 (dA u b n wr ps S S1 (planD true a.C3 n wr ps) .unk) (λ K hK=>?_) ?_
 . refine qe9 (fz_to (qV4 ?_))
   refine qb9 (y:=.int n) rfl rfl (qb9 (y:=.bl wr) rfl rfl (qf0 (y:=.lst false (prD ps)) (qax3 (z:=false)) (qb7 ?_)));refine⟨n,wr,false,ps,rfl,n1,n2,G,rfl,?_⟩;show K (List.set _ 5 (planD false a.C3 n wr ps).fz);rw[qaP2];exact hK
 have hsd:∀{i:Nat}{S:List Int}{g:Nat->Option Int}{ds:Ds}{Q:DK}{xe:XKd},Kept n.toNat wr (hmOf n ps) g S->rdN 2 ds=some (caseD n wr ps)->rdN i ds=some (.lst false (ksD S))->rdN 2 (ds.set i .unk)=some (caseD n wr ps)->Am [.sl 2,.sl i] [caseD n wr ps,.lst false (ksD S)] ((ds.set i .unk).set 2 .unk)=some ds->Q (.lst false (rlD n.toNat g)) ds->qh6 qK0 [] (tbN 2 (tbN i Ax)) ds Q xe:=λ{i S g ds Q xe} KP h1 h2 h3 hb q=>by
   refine qN1 h1 h2 h3 ⟨n,wr,ps,false,S,rfl,n1,n2,nd,KP.h.1,λ _ g' K'=>?_,λ ⟨q,c⟩=>absurd c (KP.no_crowd q)⟩;rw[qx1 (K'.same KP λ _=>Iff.rfl)];exact qa0 hb q
 refine qb1 (dA u b n wr ps S S1 (planD true a.C3 n wr ps) (rwD a.C4 a.C3 n wr ps g [] g1 [])) (λ K hK=>?_) ?_
 . refine qe9 (qw7 (qd8 (qV4 (qb6 (x:=planD true a.C3 n wr ps) rfl (qd8 (hsd KP rfl rfl rfl rfl (qb7 (qa0 (a:=planD true a.C3 n wr ps) rfl ?_))))))))
   refine⟨n,wr,ps,_,g,S,rfl,n1,n2,hS,KP,.inr ⟨false,rfl⟩,rfl,?_⟩;refine qa0 (a:=Af false a.C4 a.C3 n wr ps g []) rfl ?_;refine qa0 (a:=dA u b n wr ps S S1 (planD true a.C3 n wr ps) .unk) rfl ?_;refine qd8 (qV4 (qb6 (x:=planD true a.C3 n wr ps) rfl (qd8 (hsd KP1 rfl rfl rfl rfl (qb7 (qa0 (a:=planD true a.C3 n wr ps) rfl ?_))))));refine⟨n,wr,ps,_,g1,S1,rfl,n1,n2,hS1,KP1,.inr ⟨false,rfl⟩,rfl,?_⟩;refine qa0 (a:=Af false a.C4 a.C3 n wr ps g1 []) rfl ?_;refine qa0 (a:=dA u b n wr ps S S1 (planD true a.C3 n wr ps) .unk) rfl ?_;exact qb7 ⟨by show 2<=1000000;decide,hK⟩
 refine qb1 (dL u b (caseD n wr ps) .unk .unk (planD true a.C3 n wr ps) (rwD a.C4 a.C3 n wr ps g [] g1 []) (smD S S1) .unk .unk .unk .unk .unk .unk) (λ K hK=>?_) ?_
 . exact qe9 (qw7 (qd8 (mv_to (d:=.lst false (ksD S)) rfl (qd8 (mv_to (d:=.lst false (ksD S1)) rfl (qb7 ⟨by show 2<=1000000;decide,hK⟩))))))
 refine qb1 (dC a.C4 a.C3 u b n wr ps g g1 S S1) (λ K hK=>qe9 (qw7 (qf0 (y:=.lst false []) rfl (qf0 (y:=.lst false []) rfl (qb7 ⟨by show 2<=1000000;decide,hK⟩))))) ?_;have hlen:=qS1 (n:=n) (ps:=ps) (g:=g);have hnum:∀ i k,i < n.toNat->g i=some k->Ak k:=λ i k hi e=>hS k ((KP.h.2 k).mpr ⟨i,hi,e⟩)
 refine qb1 (dM a.C4 a.C3 u b n wr ps (A8 n ps g) g [] S [] g1 [] S1 [] .unk .unk .unk .unk) (λ K hK=>?_) ?_
 . have far:∀(Q:DK)(xe:XKd),Q (.lst false (prD (A8 n ps g))) (dC a.C4 a.C3 u b n wr ps g g1 S S1)->qh6 (qJ7 a.C4 a.C3) [] (tbB (λ ds=>some (6,[0])) Ax) (dC a.C4 a.C3 u b n wr ps g g1 S S1) Q xe:=λ Q xe q=>by
     refine qe0 (qa0 (a:=(6,[0])) rfl (qa0 (a:=Af false a.C4 a.C3 n wr ps g []) rfl ⟨rfl,λ w=>qb7 ?_⟩));refine⟨.lst false (prD (A8 n ps g)),⟨false,n,wr,ps,g,[],rfl,n1,n2,hnum,by rw[qX0 n1 KP.ln]⟩,?_⟩;refine qa0 (a:=dC a.C4 a.C3 u b n wr ps g g1 S S1) ?_ q;show Am (.pl 6 [0] w::_) (_::_) _=_;rw[qc1 rfl];rfl
   refine qe9 (qw7 (qd8 (far _ _ (qd8 (far _ _ (qa0 (a:=prD (A8 n ps g)) rfl ⟨qr0 _,?_⟩))))));exact qaG6 (by lia) λ _ _=>qb7 ⟨by show 2<=1000000;decide,hK⟩
 generalize hF:A8 n ps g=F;refine qb8 (λ ds=>∃ b g0 dn0 S0 p0 g1 dn1 S1 p1 d10 d11 d12,ds=dM a.C4 a.C3 u b n wr ps F g0 dn0 S0 p0 g1 dn1 S1 p1 d10 d11 d12 .unk/\okR n wr ps g0 S0 p0 dn0/\okR n wr ps g1 S1 p1 dn1) (λ K hK=>?_) ?_
 . refine qar7 (qan8 (x:=.int 1) rfl ?_)
   refine qe2 (ds:=dM a.C4 a.C3 u b n wr ps F g [] S [] g1 [] S1 [] .unk .unk .unk .unk) (m:=10) rfl B rfl (by decide) (by decide) λ v b' v0 v1 B'=>?_
   refine qa0 (a:=D.int (1+v)) rfl ?_;refine qa0 (a:=1+v) rfl ⟨qC8 (by lia) (by lia),?_⟩;refine qe5 (λ i ds=>∃ b g0 dn0 S0 p0 g1 dn1 S1 p1 d10 d11 d12,ds=dM a.C4 a.C3 u b n wr ps F g0 dn0 S0 p0 g1 dn1 S1 p1 d10 d11 d12 .unk/\isBag ns' b/\okR n wr ps g0 S0 p0 dn0/\okR n wr ps g1 S1 p1 dn1/\p0.length<=i/\p1.length<=i) _ 0 _ ⟨b',g,[],S,[],g1,[],S1,[],_,_,_,rfl,B',⟨hS,KP,.nil⟩,⟨hS1,KP1,.nil⟩,zA3 _,zA3 _⟩ ?_ ?_
   . rintro i y hy ds ⟨b,g0,dn0,S0,p0,g1,dn1,S1,p1,d10,d11,d12,rfl,B,O0,O1,l0,l1⟩ K2 hK2
     obtain⟨hi,rfl⟩:=qH1 hy;rw[zB6] at l0 l1 hK2;refine qu8 (As (dM a.C4 a.C3 u b n wr ps F g0 dn0 S0 p0 g1 dn1 S1 p1 (.int i) d11 d12 .unk) rfl ?_);refine qb8 (λ ds=>∃ b w0 w1 w2,ds=dN a.C4 a.C3 u b n wr ps F g0 dn0 S0 p0 g1 dn1 S1 p1 (.int i) w0 w1 w2 d12/\isBag ns' b/\(w0=0∨w0=1)) (λ K hK=>?_) ?_
     . refine qe9 (qw7 (qd8 (qe2 (ds:=dM a.C4 a.C3 u b n wr ps F g0 dn0 S0 p0 g1 dn1 S1 p1 (.int i) d11 d12 .unk) rfl B rfl (by decide) (by decide) λ w0 b1 w00 w01 B1=>qd8 ?_)))
       refine qe2 (ds:=dM a.C4 a.C3 u b1 n wr ps F g0 dn0 S0 p0 g1 dn1 S1 p1 (.int i) d11 d12 .unk) rfl B1 rfl (by decide) (by decide) λ w1 b2 _ _ B2=>qd8 ?_
       refine qe2 (ds:=dM a.C4 a.C3 u b2 n wr ps F g0 dn0 S0 p0 g1 dn1 S1 p1 (.int i) d11 d12 .unk) rfl B2 rfl (by decide) (by decide) λ w2 b3 _ _ B3=>?_
       exact qb7 ⟨by show 3<=1000000;decide,hK _ ⟨b3,w0,w1,w2,rfl,B3,by lia⟩⟩
     rintro ds ⟨b,w0,w1,w2,rfl,B,hw0⟩;refine qb8 (λ ds=>∃ b g0 dn0 S0 p0 g1 dn1 S1 p1,ds=dN a.C4 a.C3 u b n wr ps F g0 dn0 S0 p0 g1 dn1 S1 p1 (.int i) w0 w1 w2 d12/\isBag ns' b/\okR n wr ps g0 S0 p0 dn0/\okR n wr ps g1 S1 p1 dn1/\p0.length<=i+1/\p1.length<=i+1) (λ K hK=>?_) ?_
     . refine(show sIf _ _ _ _ _ from(show Dx _ _ _ _ from(show ttE _ _ _ _ from ?_)))
       rcases hw0 with rfl | rfl
       . refine qe0 (qb6 (x:=b) (qd4 rfl B.known) (qb6 (x:=caseD n wr ps) rfl ?_))
         refine qa0 (a:=(6,[0])) rfl (qa0 (a:=Af false a.C4 a.C3 n wr ps g0 dn0) rfl ⟨rfl,λ u6=>?_⟩);refine qa0 (a:=(7,[0])) rfl (qa0 (a:=D.lst false (ksD S0)) rfl ⟨rfl,λ u7=>?_⟩);refine qa0 (a:=(8,[0])) rfl (qa0 (a:=D.lst false (Bc p0)) rfl ⟨rfl,λ u8=>qb7 ?_⟩);refine qa0 (a:=caseD n wr ps) rfl ?_;refine qa0 (a:=b) (qd4 rfl B.known) ?_;refine⟨b,ns',n,wr,ps,g0,dn0,S0,p0,rfl,B,n1,n2,nd,O0.1,O0.2.1,O0.2.2,by lia,λ b' g' dn' S' p' B' hS' K' H' hl'=>?_⟩;refine qa0 (a:=dN a.C4 a.C3 u b' n wr ps F g' dn' S' p' g1 dn1 S1 p1 (.int i) 0 w1 w2 d12) ?_ ?_
         . show Am (.sl 1::.sl 2::.pl 6 [0] u6::.pl 7 [0] u7::.pl 8 [0] u8::_) (_::_::_::_::_::_) _=_
           rw[qm6,qm6,qc1 rfl,qc1 rfl,qc1 rfl];rfl
         exact qa0 (a:=true) rfl (Bs (by decide) (hK _ ⟨b',g',dn',S',p',g1,dn1,S1,p1,rfl,B',⟨hS',K',H'⟩,O1,by lia,by lia⟩))
       refine qe0 (qb6 (x:=b) (qd4 rfl B.known) (qb6 (x:=caseD n wr ps) rfl ?_));refine qa0 (a:=(6,[1])) rfl (qa0 (a:=Af false a.C4 a.C3 n wr ps g1 dn1) rfl ⟨rfl,λ u6=>?_⟩);refine qa0 (a:=(7,[1])) rfl (qa0 (a:=D.lst false (ksD S1)) rfl ⟨rfl,λ u7=>?_⟩);refine qa0 (a:=(8,[1])) rfl (qa0 (a:=D.lst false (Bc p1)) rfl ⟨rfl,λ u8=>qb7 ?_⟩);refine qa0 (a:=caseD n wr ps) rfl ?_;refine qa0 (a:=b) (qd4 rfl B.known) ?_;refine⟨b,ns',n,wr,ps,g1,dn1,S1,p1,rfl,B,n1,n2,nd,O1.1,O1.2.1,O1.2.2,by lia,λ b' g' dn' S' p' B' hS' K' H' hl'=>?_⟩;refine qa0 (a:=dN a.C4 a.C3 u b' n wr ps F g0 dn0 S0 p0 g' dn' S' p' (.int i) 1 w1 w2 d12) ?_ ?_
       . show Am (.sl 1::.sl 2::.pl 6 [1] u6::.pl 7 [1] u7::.pl 8 [1] u8::_) (_::_::_::_::_::_) _=_
         rw[qm6,qm6,qc1 rfl,qc1 rfl,qc1 rfl];rfl
       exact qa0 (a:=true) rfl (Bs (by decide) (hK _ ⟨b',g0,dn0,S0,p0,g',dn',S',p',rfl,B',O0,⟨hS',K',H'⟩,by lia,by lia⟩))
     rintro ds ⟨b,g0,dn0,S0,p0,g1,dn1,S1,p1,rfl,B,O0,O1,l0,l1⟩;refine qb8 (λ ds=>∃ b g0 dn0 S0 p0 g1 dn1 S1 p1,ds=dN a.C4 a.C3 u b n wr ps F g0 dn0 S0 p0 g1 dn1 S1 p1 (.int i) w0 w1 w2 d12/\isBag ns' b/\okR n wr ps g0 S0 p0 dn0/\okR n wr ps g1 S1 p1 dn1/\p0.length<=i+1/\p1.length<=i+1) (λ K hK=>?_) ?_
     . refine(show sIf _ _ _ _ _ from qz7 ?_)
       refine qe2 (ds:=dN a.C4 a.C3 u b n wr ps F g0 dn0 S0 p0 g1 dn1 S1 p1 (.int i) w0 w1 w2 d12) rfl B rfl (by decide) (by decide) λ v b' v0 v1 B'=>?_
       refine qa0 (a:=D.bl (decide (v=0))) rfl (qa0 (a:=decide (v=0)) rfl (ite_b (λ _=>?_) λ _=>hK _ ⟨b',g0,dn0,S0,p0,g1,dn1,S1,p1,rfl,B',O0,O1,l0,l1⟩));rcases hw0 with rfl | rfl
       . refine qam4 (qag9 (i:=6) (p:=[0]) (d:=Af false a.C4 a.C3 n wr ps g0 dn0) rfl rfl (qi1 rfl) λ u6=>qb7 ⟨_,⟨n,wr,ps,g0,dn0,S0,rfl,n1,n2,O0.1,O0.2.1,O0.2.2.imms,rfl⟩,?_⟩)
         refine qa0 (a:=dN a.C4 a.C3 u b' n wr ps F g0 dn0 S0 p0 g1 dn1 S1 p1 (.int i) 0 w1 w2 d12) ?_ ?_
         . show Am (.pl 6 [0] u6::_) (_::_) _=_
           rw[qc1 rfl];rfl
         refine qa0 (a:=(6,[])) rfl ?_;refine qa0 (a:=[Af false a.C4 a.C3 n wr ps g0 dn0,Af false a.C4 a.C3 n wr ps g1 dn1]) rfl ?_;refine qa0 (a:=(0:Int)) rfl ?_;exact qa0 (a:=0) rfl (hK _ ⟨b',g0,dn0,S0,p0,g1,dn1,S1,p1,rfl,B',O0,O1,l0,l1⟩)
       refine qam4 (qag9 (i:=6) (p:=[1]) (d:=Af false a.C4 a.C3 n wr ps g1 dn1) rfl rfl (qi1 rfl) λ u6=>qb7 ⟨_,⟨n,wr,ps,g1,dn1,S1,rfl,n1,n2,O1.1,O1.2.1,O1.2.2.imms,rfl⟩,?_⟩);refine qa0 (a:=dN a.C4 a.C3 u b' n wr ps F g0 dn0 S0 p0 g1 dn1 S1 p1 (.int i) 1 w1 w2 d12) ?_ ?_
       . show Am (.pl 6 [1] u6::_) (_::_) _=_
         rw[qc1 rfl];rfl
       refine qa0 (a:=(6,[])) rfl ?_;refine qa0 (a:=[Af false a.C4 a.C3 n wr ps g0 dn0,Af false a.C4 a.C3 n wr ps g1 dn1]) rfl ?_;refine qa0 (a:=(1:Int)) rfl ?_;exact qa0 (a:=1) rfl (hK _ ⟨b',g0,dn0,S0,p0,g1,dn1,S1,p1,rfl,B',O0,O1,l0,l1⟩)
     rintro ds ⟨b,g0,dn0,S0,p0,g1,dn1,S1,p1,rfl,B,O0,O1,l0,l1⟩;refine if_v (b:=decide (w1=0)) rfl (λ _=>?_) λ _=>hK2 _ ⟨b,g0,dn0,S0,p0,g1,dn1,S1,p1,_,_,_,rfl,B,O0,O1,l0,l1⟩
     refine qI9 (n:=2) rfl (by decide) ?_;refine qe5 (λ _ ds=>∃ d12,ds=dN a.C4 a.C3 u b n wr ps F g0 dn0 S0 p0 g1 dn1 S1 p1 (.int i) w0 w1 w2 d12) _ 0 _ ⟨_,rfl⟩ ?_ ?_
     . rintro j y hy ds ⟨d12,rfl⟩ K3 hK3
       obtain⟨hj,rfl⟩:=qH1 hy;refine qu8 (As (dN a.C4 a.C3 u b n wr ps F g0 dn0 S0 p0 g1 dn1 S1 p1 (.int i) w0 w1 w2 (.int j)) rfl ?_);refine(show sIf _ _ _ _ _ from(show Dx _ _ _ _ from(show ttE _ _ _ _ from ?_)));rcases (show j=0∨j=1 by lia) with rfl | rfl
       . refine qe0 (qb6 (x:=caseD n wr ps) rfl ?_)
         refine qa0 (a:=(6,[0])) rfl (qa0 (a:=Af false a.C4 a.C3 n wr ps g0 dn0) rfl ⟨rfl,λ u6=>?_⟩);refine qa0 (a:=(7,[0])) rfl (qa0 (a:=D.lst false (ksD S0)) rfl ⟨rfl,λ u7=>?_⟩);refine qb9 (y:=.int w2) rfl rfl (qb7 (qa0 (a:=caseD n wr ps) rfl ?_));refine⟨.bl true,⟨false,n,wr,ps,g0,dn0,false,S0,w2,rfl,n1,n2,nd,O0.1,O0.2.1,rfl⟩,?_⟩;refine qa0 (a:=dN a.C4 a.C3 u b n wr ps F g0 dn0 S0 p0 g1 dn1 S1 p1 (.int i) w0 w1 w2 (.int ((0:Nat):Int))) ?_ ?_
         . show Am (.sl 2::.pl 6 [0] u6::.pl 7 [0] u7::_) (_::_::_::_) _=_
           rw[qm6,qc1 rfl,qc1 rfl];rfl
         exact qa0 (a:=true) rfl (Bs (by decide) (hK3 _ ⟨_,rfl⟩))
       refine qe0 (qb6 (x:=caseD n wr ps) rfl ?_);refine qa0 (a:=(6,[1])) rfl (qa0 (a:=Af false a.C4 a.C3 n wr ps g1 dn1) rfl ⟨rfl,λ u6=>?_⟩);refine qa0 (a:=(7,[1])) rfl (qa0 (a:=D.lst false (ksD S1)) rfl ⟨rfl,λ u7=>?_⟩);refine qb9 (y:=.int w2) rfl rfl (qb7 (qa0 (a:=caseD n wr ps) rfl ?_));refine⟨.bl true,⟨false,n,wr,ps,g1,dn1,false,S1,w2,rfl,n1,n2,nd,O1.1,O1.2.1,rfl⟩,?_⟩;refine qa0 (a:=dN a.C4 a.C3 u b n wr ps F g0 dn0 S0 p0 g1 dn1 S1 p1 (.int i) w0 w1 w2 (.int ((1:Nat):Int))) ?_ ?_
       . show Am (.sl 2::.pl 6 [1] u6::.pl 7 [1] u7::_) (_::_::_::_) _=_
         rw[qm6,qc1 rfl,qc1 rfl];rfl
       exact qa0 (a:=true) rfl (Bs (by decide) (hK3 _ ⟨_,rfl⟩))
     rintro ds ⟨d12,rfl⟩;exact hK2 _ ⟨b,g0,dn0,S0,p0,g1,dn1,S1,p1,_,_,_,rfl,B,O0,O1,l0,l1⟩
   rintro ds ⟨b,g0,dn0,S0,p0,g1,dn1,S1,p1,d10,d11,d12,rfl,_,O0,O1,_⟩;exact hK _ ⟨b,g0,dn0,S0,p0,g1,dn1,S1,p1,d10,d11,d12,rfl,O0,O1⟩
 rintro ds ⟨b,g0,dn0,S0,p0,g1,dn1,S1,p1,d10,d11,d12,rfl,O0,O1⟩;refine qb8 (λ ds=>∃ d13,ds=dM a.C4 a.C3 u b n wr ps F g0 dn0 S0 p0 g1 dn1 S1 p1 d10 d11 d12 d13) (λ K hK=>?_) ?_
 . refine qI9 (n:=4) rfl (by decide) ?_
   refine qe5 (λ _ ds=>∃ d13,ds=dM a.C4 a.C3 u b n wr ps F g0 dn0 S0 p0 g1 dn1 S1 p1 d10 d11 d12 d13) _ 0 _ ⟨_,rfl⟩ ?_ ?_
   . rintro i y hy ds ⟨d13,rfl⟩ K2 hK2
     obtain⟨hi,rfl⟩:=qH1 hy;refine qu8 (As (dM a.C4 a.C3 u b n wr ps F g0 dn0 S0 p0 g1 dn1 S1 p1 d10 d11 d12 (.int (i:Nat))) rfl ?_);refine(show sIf _ _ _ _ _ from(show ttOr _ _ _ _ _ from(show Dx _ _ _ _ from(show ttE _ _ _ _ from ?_))));refine qe0 (qb6 (x:=caseD n wr ps) rfl ?_);refine qa0 (a:=(6,[1])) rfl (qa0 (a:=Af false a.C4 a.C3 n wr ps g1 dn1) rfl ⟨rfl,λ u6=>?_⟩);refine qa0 (a:=(7,[1])) rfl (qa0 (a:=D.lst false (ksD S1)) rfl ⟨rfl,λ u7=>?_⟩);refine qb6 (x:=.int (i:Nat)) rfl (qb7 (qa0 (a:=D.int (i:Nat)) rfl (qa0 (a:=caseD n wr ps) rfl ?_)));refine⟨.bl true,⟨false,n,wr,ps,g1,dn1,false,S1,(i:Nat),rfl,n1,n2,nd,O1.1,O1.2.1,rfl⟩,?_⟩;refine qa0 (a:=dM a.C4 a.C3 u b n wr ps F g0 dn0 S0 p0 g1 dn1 S1 p1 d10 d11 d12 (.int (i:Nat))) ?_ ?_
     . show Am (.sl 2::.pl 6 [1] u6::.pl 7 [1] u7::_) (_::_::_::_) _=_
       rw[qm6,qc1 rfl,qc1 rfl];rfl
     refine qa0 (a:=true) rfl (Bs (by decide) (show Dx _ _ _ _ from(show ttE _ _ _ _ from ?_)));refine qe0 (qb6 (x:=caseD n wr ps) rfl ?_);refine qa0 (a:=(6,[0])) rfl (qa0 (a:=Af false a.C4 a.C3 n wr ps g0 dn0) rfl ⟨rfl,λ u6=>?_⟩);refine qa0 (a:=(7,[0])) rfl (qa0 (a:=D.lst false (ksD S0)) rfl ⟨rfl,λ u7=>?_⟩);refine qb6 (x:=.int (i:Nat)) rfl (qb7 (qa0 (a:=D.int (i:Nat)) rfl (qa0 (a:=caseD n wr ps) rfl ?_)));refine⟨.bl true,⟨false,n,wr,ps,g0,dn0,false,S0,(i:Nat),rfl,n1,n2,nd,O0.1,O0.2.1,rfl⟩,?_⟩;refine qa0 (a:=dM a.C4 a.C3 u b n wr ps F g0 dn0 S0 p0 g1 dn1 S1 p1 d10 d11 d12 (.int (i:Nat))) ?_ ?_
     . show Am (.sl 2::.pl 6 [0] u6::.pl 7 [0] u7::_) (_::_::_::_) _=_
       rw[qm6,qc1 rfl,qc1 rfl];rfl
     exact qa0 (a:=true) rfl (Bs (by decide) (hK2 _ ⟨_,rfl⟩))
   rintro ds ⟨d13,rfl⟩;exact hK _ ⟨_,rfl⟩
 rintro ds ⟨d13,rfl⟩;refine qd1 (.bl true) (f2_of (x:=.lst false (prD F)) (y:=.lst false (prD F)) rfl rfl ?_) rfl;show (Eo (eqN 20) (prD F) (prD F)).map D.bl=_;rw[Jk,zAe rfl];rfl
end
theorem dfX{K:W.Frag}{mg:Str->Option Value}{x qual:Str}{st:Stmt}{f:Addr}{ps:List Str}{oc:Value}{od an:Option Addr}{osl:Array (Option Value)}{kV doc pm cdv ct:Value}{h:Heap}(X:K.In h)(G:h.Ns mainGlobals mg)(a:W.nsIn K mainGlobals x=some (some (.ref f)))(l:K.lookup f=some ⟨oc,od,.func (W.fnOf x qual (qf2 st) (qc8 st) (qa3 st) .none kV doc pm an cdv ct),osl⟩)(c:W.codeIn K cdv qual=true)(k:W.keepIn K (.ref f)=true)(b:∀(kV doc pm:Value)(an:Option Addr)(cdv ct:Value)(us:List Value),us.length=ps.length->bindArgs (W.fnOf x qual (qf2 st) (qc8 st) (qa3 st) .none kV doc pm an cdv ct) ⟨us,[]⟩=pure (ps.zip us)) :
 Df K mg x qual st f (W.fnOf x qual (qf2 st) (qc8 st) (qa3 st) .none kV doc pm an cdv ct) ps:=dfmk l c k (W.mg_of X G a) b
theorem qaY6{l:W.OpenLaw}{w:World}{K:W.Frag}{mg:Str->Option Value}{fa f0 f1 f2 f3 f4 f5 f6 f7 f8 f9 f10 f11 f12 f13 f14 f15 f16 f17 f18 f19 f20 f21 f22 f23 f24 f25 f26 f27 f28 f29 f30 f31 f32 f33 f34 f35 f36 f37 f38 f39 f40 f41 f42 f43 f44 f45 f46 f47 f48 f49 f50 f51 f52 f53 C0 C1:Addr}{d0 d1 d2 d3 d4 d5 d6 d7 d8 d9 d10 d11 d12 d13 d14 d15 d16 d17 d18 d19 d20 d21 d22 d23 d24 d25 d26 d27 d28 d29 d30 d31 d32 d33 d34 d35 d36 d37 d38 d39 d40 d41 d42 d43 d44 d45 d46 d47 d48 d49 d50 d51 d52 d53:FuncData}{Ce Ch Cg:Tok}(hfa:mg "law" = some (.ref fa))(j0:Df K mg "_wall" "_wall" qau8 f0 d0 ["k"])(j1:Df K mg "is_whole" "is_whole" qy7 f1 d1 ["thing"])(j2:Df K mg "is_whole_within" "is_whole_within" qg1 f2 d2 ["thing", "least", "most"])(j3:Df K mg "is_number" "is_number" qs6 f3 d3 ["thing"])(j4:Df K mg "are_parted" "are_parted" qo5 f4 d4 ["numbers"])(j5:Df K mg "is_number_pair" "is_number_pair" qh3 f5 d5 ["thing"])(j6:Df K mg "is_home_list" "is_home_list" qk1 f6 d6 ["thing"])(j7:Md K C0 "__init__" "Plan.__init__" qt0 f7 d7 ["self", "rooms", "wraps", "homes"])(j8:Md K C0 "is_room" "Plan.is_room" qk3 f8 d8 ["self", "thing"])(j9:Md K C0 "home" "Plan.home" qt1 f9 d9 ["self", "key"])(j10:Md K C0 "far" "Plan.far" qz4 f10 d10 ["self", "key", "room"])(j11:Md K C0 "goes_ahead" "Plan.goes_ahead" qg2 f11 d11 ["self", "room", "one", "other"])(j12:Df K mg "room_ahead" "room_ahead" qo4 f12 d12 ["plan", "room"])(j13:Df K mg "word_by_room_ahead" "word_by_room_ahead" qe3 f13 d13 ["plan", "rooms", "room"])(j14:Df K mg "word_due" "word_due" qy6 f14 d14 ["plan", "rooms", "room"])(j15:Df K mg "is_turned" "is_turned" qs5 f15 d15 ["plan", "rooms"])(j16:Df K mg "fault_of" "fault_of" qy8 f16 d16 ["plan", "rooms"])(j17:Df K mg "are_crowd" "are_crowd" qs8 f17 d17 ["plan", "keys", "room"])(j18:Df K mg "crowded_room" "crowded_room" qk2 f18 d18 ["plan", "keys"])(j19:Df K mg "refuse_crowd" "refuse_crowd" qk0 f19 d19 ["plan", "keys"])(j20:Df K mg "bring_in" "bring_in" qz0 f20 d20 ["plan", "rooms", "key"])(j21:Df K mg "room_behind" "room_behind" ql9 f21 d21 ["plan", "room"])(j22:Df K mg "is_drawn_from" "is_drawn_from" qi6 f22 d22 ["plan", "rooms", "room"])(j23:Df K mg "draw_back" "draw_back" qs7 f23 d23 ["plan", "rooms", "room"])(j24:MdN K C1 "__init__" "Row.__init__" qz3 f24 d24 ["self", "plan", "rooms"])(j25:Md K C1 "rooms_held" "Row.rooms_held" qh4 f25 d25 ["self"])(j26:Md K C1 "keys_held" "Row.keys_held" qi7 f26 d26 ["self"])(j27:Md K C1 "room_of" "Row.room_of" qm0 f27 d27 ["self", "key"])(j28:Md K C1 "put" "Row.put" qG7 f28 d28 ["self", "key"])(j29:Md K C1 "take" "Row.take" qz2 f29 d29 ["self", "key"])(j30:Md K C1 "undo" "Row.undo" qz1 f30 d30 ["self"])(j31:Md K C1 "deeds" "Row.deeds" qs9 f31 d31 ["self"])(j32:Md K C1 "copied" "Row.copied" qo6 f32 d32 ["self"])(j33:Df K mg "refuse_wrong_row_or_key" "refuse_wrong_row_or_key" qc5 f33 d33 ["row", "key"])(j34:Df K mg "fars_of" "fars_of" qG5 f34 d34 ["row"])(j35:Df K mg "farthest" "farthest" qy9 f35 d35 ["row"])(j36:Df K mg "far_sum" "far_sum" qG6 f36 d36 ["row"])(j37:Df K mg "window_of" "window_of" qs4 f37 d37 ["row", "key"])(j38:Df K mg "_law_bag" "_law_bag" qaA8 f38 d38 ["_law_script"])(j39:Df K mg "_law_take" "_law_take" qae2 f39 d39 ["_law_bag_here", "_law_many"])(j40:Df K mg "_law_case" "_law_case" qae6 f40 d40 ["_law_bag_here", "_law_most"])(j41:Df K mg "_law_key" "_law_key" qaA6 f41 d41 ["_law_bag_here", "_law_rooms", "_law_home_here"])(j42:Df K mg "_law_keys" "_law_keys" qae3 f42 d42 ["_law_bag_here", "_law_case_here", "_law_many"])(j43:Df K mg "_law_home" "_law_home" qae4 f43 d43 ["_law_case_here", "_law_key_here"])(j44:Df K mg "_law_far" "_law_far" qaA7 f44 d44 ["_law_case_here", "_law_key_here", "_law_room"])(j45:Df K mg "_law_ahead" "_law_ahead" qQ3 f45 d45 ["_law_case_here", "_law_room", "_law_one", "_law_other"])(j46:Df K mg "_law_put" "_law_put" qaA5 f46 d46 ["_law_case_here", "_law_rooms", "_law_key_here"])(j47:Df K mg "_law_housed" "_law_housed" qG8 f47 d47 ["_law_case_here", "_law_keys_here"])(j48:Df K mg "_law_fitting" "_law_fitting" qz6 f48 d48 ["_law_case_here", "_law_keys_here"])(j49:Df K mg "_law_drawn" "_law_drawn" qQ2 f49 d49 ["_law_bag_here", "_law_most"])(j50:Df K mg "_law_room_of" "_law_room_of" qz5 f50 d50 ["_law_rooms", "_law_key_here"])(j51:Df K mg "_law_right" "_law_right" qQ1 f51 d51 ["_law_case_here", "_law_row", "_law_keys_here", "_law_way"])(j52:Df K mg "_law_deed" "_law_deed" qae5 f52 d52 ["_law_bag_here", "_law_case_here", "_law_row", "_law_keys_here", "_law_past"])(j53:Df K mg "law" "law" Gq f53 d53 ["_law_script"])(j54:mg "MOST_NUMBER" = some (.int 1000000000000000000 Ce))(j55:mg "MOST_ROOMS" = some (.int 64 Ch))(j56:mg "MOST_HOMES" = some (.int 64 Cg))(j57:mg "abs" = none)(j58:mg "all" = none)(j59:mg "bool" = none)(j60:mg "dict" = none)(j61:mg "enumerate" = none)(j62:mg "int" = none)(j63:mg "isinstance" = none)(j64:mg "len" = none)(j65:mg "list" = none)(j66:mg "max" = none)(j67:mg "range" = none)(j68:mg "set" = none)(j69:mg "sum" = none)(j70:mg "tuple" = none)(j71:Cl K mg "Plan" C0)(j72:Mk K C0 f7)(j73:qg4 K C0 "rooms")(j74:qg4 K C0 "wraps")(j75:qg4 K C0 "homes")(j76:qg4 K C0 "home_numbers")(j77:IsO K C0)(j78:Cl K mg "Row" C1)(j79:Mk K C1 f24)(j80:qg4 K C1 "plan")(j81:qg4 K C1 "held")(j82:qg4 K C1 "done")(j83:IsO K C1)(hb:∀(s:Shared)(v:Value),BindsTo s d53 ⟨[v],[]⟩ [("_law_script",v)]):∃ fd:FuncData,(∀(s:Shared)(v:Value),BindsTo s fd ⟨[v],[]⟩ [("_law_script",v)])/\∀ base:Heap,K.In base->base.Ns mainGlobals mg->Bq l.prog w K mg base (CX1 l.prog w) 13 fa fd ["_law_script"] (G5 K):=by
 have e:=hfa.symm.trans j53.m;injection e with e
 injection e with e
 subst e;exact⟨d53,hb,λ base _ _=>qaU5 (a:=⟨f0,d0,f1,d1,f2,d2,f3,d3,f4,d4,f5,d5,f6,d6,f7,d7,f8,d8,f9,d9,f10,d10,f11,d11,f12,d12,f13,d13,f14,d14,f15,d15,f16,d16,f17,d17,f18,d18,f19,d19,f20,d20,f21,d21,f22,d22,f23,d23,f24,d24,f25,d25,f26,d26,f27,d27,f28,d28,f29,d29,f30,d30,f31,d31,f32,d32,f33,d33,f34,d34,f35,d35,f36,d36,f37,d37,f38,d38,f39,d39,f40,d40,f41,d41,f42,d42,f43,d43,f44,d44,f45,d45,f46,d46,f47,d47,f48,d48,f49,d49,f50,d50,f51,d51,f52,d52,fa,d53,Ce,Ch,Cg,C0,C1⟩) ⟨j0,j1,j2,j3,j4,j5,j6,j7,j8,j9,j10,j11,j12,j13,j14,j15,j16,j17,j18,j19,j20,j21,j22,j23,j24,j25,j26,j27,j28,j29,j30,j31,j32,j33,j34,j35,j36,j37,j38,j39,j40,j41,j42,j43,j44,j45,j46,j47,j48,j49,j50,j51,j52,j53,j54,j55,j56,j57,j58,j59,j60,j61,j62,j63,j64,j65,j66,j67,j68,j69,j70,j71,j72,j73,j74,j75,j76,j77,j78,j79,j80,j81,j82,j83⟩⟩
theorem walk{l:W.OpenLaw}{q:Program}{loose:List Str}{XP:(Str->Option Value)->Heap->Prop}{YP:World->Heap->Prop}{d:DefRec}{K:Params->W.Frag}(hn:l.most=some 63)(hdf:d.params.defaults=[])(hY:∀(w:World)(h:Heap),YP w h->(K w.params).In h)(F:∀(w:World)(mg:Str->Option Value)(fa:Addr)(h:Heap),(K w.params).In h->h.Ns mainGlobals mg->mg d.name=some (.ref fa) ->
 ∃ fd:FuncData,(∀(s:Shared)(u:Value),BindsTo s fd ⟨[u],[]⟩ [("_law_script",u)])/\∀ base:Heap,(K w.params).In base->base.Ns mainGlobals mg->Bq l.prog w (K w.params) mg base (CX1 l.prog w) 13 fa fd ["_law_script"] (G5 (K w.params))) :
 W.WalkO q loose XP YP l.row.toRowW d [] (λ f vs=>PySem.call f vs) :=
 L2.qaH4 (n:=63) (k:=13) (x := "_law_script") (CX:=λ w=>CX1 l.prog w) (sp:=λ w=>G5 (K w.params)) hn (by decide) hdf ⟨rfl,by decide,by decide⟩ hY F (λ _ _ a ns hl _ hS=>⟨a,ns,rfl,hS,hl,λ _=>rfl⟩) λ _ _ _ _ _ ⟨_,_,_,_,_,_,_,_,z⟩=>z
end LV.My
open PySem PySem.W PyProof.Rows L2
local macro_rules | `(tactic| walk_at "d1")=>`(tactic| (refine' LV.My.dfX (by assumption) (by assumption) ?a ?l ?c ?k ?b;(case a=>k_is);(case l=>k_is);(case c=>k_is);(case k=>k_is);(case b=>intro _ _ _ _ _ _ us h0;obtain⟨_,us,e,h1⟩:=LV.ec h0;subst e;have e:=zAw.mp h1;subst e;rfl)))
local macro_rules | `(tactic| walk_at "e1")=>`(tactic| (refine' mdmk ?l ?c ?k ?a ?i ?b;(case a=>k_is);(case i=>k_is);(case l=>k_is);(case c=>k_is);(case k=>k_is);(case b=>intro _ _ _ _ _ _ us h0;obtain⟨_,us,e,h1⟩:=LV.ec h0;subst e;have e:=zAw.mp h1;subst e;rfl)))
local macro_rules | `(tactic| walk_at "d2")=>`(tactic| (refine' LV.My.dfX (by assumption) (by assumption) ?a ?l ?c ?k ?b;(case a=>k_is);(case l=>k_is);(case c=>k_is);(case k=>k_is);(case b=>intro _ _ _ _ _ _ us h0;obtain⟨_,us,e,h1⟩:=LV.ec h0;subst e;obtain⟨_,us,e,h2⟩:=LV.ec h1;subst e;have e:=zAw.mp h2;subst e;rfl)))
local macro_rules | `(tactic| walk_at "e2")=>`(tactic| (refine' mdmk ?l ?c ?k ?a ?i ?b;(case a=>k_is);(case i=>k_is);(case l=>k_is);(case c=>k_is);(case k=>k_is);(case b=>intro _ _ _ _ _ _ us h0;obtain⟨_,us,e,h1⟩:=LV.ec h0;subst e;obtain⟨_,us,e,h2⟩:=LV.ec h1;subst e;have e:=zAw.mp h2;subst e;rfl)))
local macro_rules | `(tactic| walk_at "d3")=>`(tactic| (refine' LV.My.dfX (by assumption) (by assumption) ?a ?l ?c ?k ?b;(case a=>k_is);(case l=>k_is);(case c=>k_is);(case k=>k_is);(case b=>intro _ _ _ _ _ _ us h0;obtain⟨_,us,e,h1⟩:=LV.ec h0;subst e;obtain⟨_,us,e,h2⟩:=LV.ec h1;subst e;obtain⟨_,us,e,h3⟩:=LV.ec h2;subst e;have e:=zAw.mp h3;subst e;rfl)))
local macro_rules | `(tactic| walk_at "e3")=>`(tactic| (refine' mdmk ?l ?c ?k ?a ?i ?b;(case a=>k_is);(case i=>k_is);(case l=>k_is);(case c=>k_is);(case k=>k_is);(case b=>intro _ _ _ _ _ _ us h0;obtain⟨_,us,e,h1⟩:=LV.ec h0;subst e;obtain⟨_,us,e,h2⟩:=LV.ec h1;subst e;obtain⟨_,us,e,h3⟩:=LV.ec h2;subst e;have e:=zAw.mp h3;subst e;rfl)))
local macro_rules | `(tactic| walk_at "n3")=>`(tactic| (refine' LV.mdmkN ?l ?c ?k ?a ?i ?t ?b ?bn;(case a=>k_is);(case i=>k_is);(case l=>k_is);(case c=>k_is);(case k=>k_is);(case t=>k_is);(case b=>intro _ _ _ _ _ _ us h0;obtain⟨_,us,e,h1⟩:=LV.ec h0;subst e;obtain⟨_,us,e,h2⟩:=LV.ec h1;subst e;obtain⟨_,us,e,h3⟩:=LV.ec h2;subst e;have e:=zAw.mp h3;subst e;exact⟨_,rfl,rfl⟩);(case bn=>intro _ _ _ _ _ _ us h0;have h0:=Nat.succ.inj h0;obtain⟨_,us,e,h1⟩:=LV.ec h0;subst e;obtain⟨_,us,e,h2⟩:=LV.ec h1;subst e;have e:=zAw.mp h2;subst e;exact⟨_,rfl,rfl⟩)))
local macro_rules | `(tactic| walk_at "d4")=>`(tactic| (refine' LV.My.dfX (by assumption) (by assumption) ?a ?l ?c ?k ?b;(case a=>k_is);(case l=>k_is);(case c=>k_is);(case k=>k_is);(case b=>intro _ _ _ _ _ _ us h0;obtain⟨_,us,e,h1⟩:=LV.ec h0;subst e;obtain⟨_,us,e,h2⟩:=LV.ec h1;subst e;obtain⟨_,us,e,h3⟩:=LV.ec h2;subst e;obtain⟨_,us,e,h4⟩:=LV.ec h3;subst e;have e:=zAw.mp h4;subst e;rfl)))
local macro_rules | `(tactic| walk_at "e4")=>`(tactic| (refine' mdmk ?l ?c ?k ?a ?i ?b;(case a=>k_is);(case i=>k_is);(case l=>k_is);(case c=>k_is);(case k=>k_is);(case b=>intro _ _ _ _ _ _ us h0;obtain⟨_,us,e,h1⟩:=LV.ec h0;subst e;obtain⟨_,us,e,h2⟩:=LV.ec h1;subst e;obtain⟨_,us,e,h3⟩:=LV.ec h2;subst e;obtain⟨_,us,e,h4⟩:=LV.ec h3;subst e;have e:=zAw.mp h4;subst e;rfl)))
local macro_rules | `(tactic| walk_at "d5")=>`(tactic| (refine' LV.My.dfX (by assumption) (by assumption) ?a ?l ?c ?k ?b;(case a=>k_is);(case l=>k_is);(case c=>k_is);(case k=>k_is);(case b=>intro _ _ _ _ _ _ us h0;obtain⟨_,us,e,h1⟩:=LV.ec h0;subst e;obtain⟨_,us,e,h2⟩:=LV.ec h1;subst e;obtain⟨_,us,e,h3⟩:=LV.ec h2;subst e;obtain⟨_,us,e,h4⟩:=LV.ec h3;subst e;obtain⟨_,us,e,h5⟩:=LV.ec h4;subst e;have e:=zAw.mp h5;subst e;rfl)))
local macro_rules | `(tactic| walk_at "c")=>`(tactic| (refine' mg_of (by assumption) (by assumption) ?a;k_is))
local macro_rules | `(tactic| walk_at "z")=>`(tactic| (refine' mg_none_of (by assumption) (by assumption) ?a;k_is))
local macro_rules | `(tactic| walk_at "q")=>`(tactic| (first | k_is | kernel_rfl | rfl))
local macro_rules | `(tactic| walk_at "cl")=>`(tactic| (refine' ⟨⟨?b,?c,?d,?e⟩,mg_of (by assumption) (by assumption) ?a⟩;(case a=>k_is);(case b=>k_is);(case c=>k_is);(case d=>k_is);(case e=>k_is)))
local macro_rules | `(tactic| walk_at "m4")=>`(tactic| (refine⟨?a,?b,?c,?d⟩;(case a=>k_is);(case b=>k_is);(case c=>k_is);(case d=>k_is)))
local macro_rules | `(tactic| walk_at "n")=>`(tactic| (show findIn _ _ _=some none;k_is))
local macro_rules | `(tactic| walk_at "io")=>`(tactic| (refine⟨?_,?_,?_,?_,kf_of ?_ ?_ ?_ ?_ ?_ ?_ ?_⟩<;>walk_at "q"))
theorem PySem.Challenge.cw_homeward_k55_spread_again_holds : PySem.Challenge.rw_homeward_k55_spread_again.Holds := by
 w_on;o_law;k_head;(case hw=>w_witness2)
 k_fill
 refine LV.My.walk (l:=PySem.Challenge.rw_homeward_k55_spread_again) rfl rfl (λ w h Y=>PySem.W.kIn_of Y) ?F
 case F =>
 intro w mg fa h KX G hmg;refine' LV.My.qaY6 hmg ?j0 ?j1 ?j2 ?j3 ?j4 ?j5 ?j6 ?j7 ?j8 ?j9 ?j10 ?j11 ?j12 ?j13 ?j14 ?j15 ?j16 ?j17 ?j18 ?j19 ?j20 ?j21 ?j22 ?j23 ?j24 ?j25 ?j26 ?j27 ?j28 ?j29 ?j30 ?j31 ?j32 ?j33 ?j34 ?j35 ?j36 ?j37 ?j38 ?j39 ?j40 ?j41 ?j42 ?j43 ?j44 ?j45 ?j46 ?j47 ?j48 ?j49 ?j50 ?j51 ?j52 ?j53 ?j54 ?j55 ?j56 ?j57 ?j58 ?j59 ?j60 ?j61 ?j62 ?j63 ?j64 ?j65 ?j66 ?j67 ?j68 ?j69 ?j70 ?j71 ?j72 ?j73 ?j74 ?j75 ?j76 ?j77 ?j78 ?j79 ?j80 ?j81 ?j82 ?j83 ?hb
 case j54=>walk_at "c"
 case j55=>walk_at "c"
 case j56=>walk_at "c"
 case j71=>walk_at "cl"
 case j78=>walk_at "cl"
 case j0=>walk_at "d1"
 case j1=>walk_at "d1"
 case j2=>walk_at "d3"
 case j3=>walk_at "d1"
 case j4=>walk_at "d1"
 case j5=>walk_at "d1"
 case j6=>walk_at "d1"
 case j7=>walk_at "e4"
 case j8=>walk_at "e2"
 case j9=>walk_at "e2"
 case j10=>walk_at "e3"
 case j11=>walk_at "e4"
 case j12=>walk_at "d2"
 case j13=>walk_at "d3"
 case j14=>walk_at "d3"
 case j15=>walk_at "d2"
 case j16=>walk_at "d2"
 case j17=>walk_at "d3"
 case j18=>walk_at "d2"
 case j19=>walk_at "d2"
 case j20=>walk_at "d3"
 case j21=>walk_at "d2"
 case j22=>walk_at "d3"
 case j23=>walk_at "d3"
 case j24=>walk_at "n3"
 case j25=>walk_at "e1"
 case j26=>walk_at "e1"
 case j27=>walk_at "e2"
 case j28=>walk_at "e2"
 case j29=>walk_at "e2"
 case j30=>walk_at "e1"
 case j31=>walk_at "e1"
 case j32=>walk_at "e1"
 case j33=>walk_at "d2"
 case j34=>walk_at "d1"
 case j35=>walk_at "d1"
 case j36=>walk_at "d1"
 case j37=>walk_at "d2"
 case j38=>walk_at "d1"
 case j39=>walk_at "d2"
 case j40=>walk_at "d2"
 case j41=>walk_at "d3"
 case j42=>walk_at "d3"
 case j43=>walk_at "d2"
 case j44=>walk_at "d3"
 case j45=>walk_at "d4"
 case j46=>walk_at "d3"
 case j47=>walk_at "d2"
 case j48=>walk_at "d2"
 case j49=>walk_at "d2"
 case j50=>walk_at "d2"
 case j51=>walk_at "d4"
 case j52=>walk_at "d5"
 case j53=>walk_at "d1"
 case j57=>walk_at "z"
 case j58=>walk_at "z"
 case j59=>walk_at "z"
 case j60=>walk_at "z"
 case j61=>walk_at "z"
 case j62=>walk_at "z"
 case j63=>walk_at "z"
 case j64=>walk_at "z"
 case j65=>walk_at "z"
 case j66=>walk_at "z"
 case j67=>walk_at "z"
 case j68=>walk_at "z"
 case j69=>walk_at "z"
 case j70=>walk_at "z"
 case j73=>walk_at "n"
 case j74=>walk_at "n"
 case j75=>walk_at "n"
 case j76=>walk_at "n"
 case j77=>walk_at "io"
 case j80=>walk_at "n"
 case j81=>walk_at "n"
 case j82=>walk_at "n"
 case j83=>walk_at "io"
 case j72=>walk_at "m4"
 case j79=>walk_at "m4"
 case hb=>exact λ s v=>.of_eq rfl
